import PyProof.Rows.All
import Wide.All
import OpenK.AllK
import Wide.FinOn
import Lean
import PyProof.EqAt
import PyProof.EqKinds
import PyProof.TupleCall
import PySem.Challenge.RW_thinwood_k76_by_beginnings
set_option Elab.async false
set_option linter.all false
set_option maxRecDepth 100000
set_option maxHeartbeats 4000000
theorem bc0{p:Prop}(h:¬p->False):p:=Classical.byContradiction h
local macro_rules
 | `(tactic| obtain $p:rcasesPatMed:=$e:term)=>`(tactic| (refine _root_.bc0 λhG=>?_;rcases $e:term with $p:rcasesPatMed <;> (refine hG ?_;clear hG)))
local macro_rules
 | `(tactic| rintro $ps:rintroPat*)=>do
  let n:=ps.size
  let l:=(ps.getD (n-1) ⟨.missing⟩).raw[0]
  if l.getKind != `Lean.Parser.Tactic.rcasesPat.tuple then Lean.Macro.throwUnsupported
  let q:Lean.TSyntax `rcasesPat:=⟨l⟩
  let arr:=(ps.extract 0 (n-1)).push (<- `(rintroPat| z))
  `(tactic| (rintro $arr*;refine _root_.bc0 λhG=>?_;rcases z with $q:rcasesPat <;> (refine hG ?_;clear hG)))
open List renaming length_map->aaa,getElem?_eq_some_iff->aab,getElem?_eq_getElem->aac,length_append->aaf,mem_of_getElem?->aag,getElem?_map->aah,take_of_length_le->aai,map_append->aal,getElem?_append_right->aar,mem_singleton->aas,mem_append_right->aaw,getElem?_append_left->aax,map_cons->aay,size_toArray->aaA,length_take->aaD,length_cons->aaE,replicate->aaF,getElem?_of_mem->aaM,mem_cons->aaQ,mem_cons_of_mem->aaR,mem_map->aaT,append_assoc->aa5,mem_append->abd,length_replicate->abD,mem_cons_self->abE,take_append_drop->abG,length_drop->ab9,pairwise_iff_getElem->aca,take_add_one->acI,getElem_mem->acJ,drop_eq_getElem_cons->acL,getElem?_take_of_lt->acT,cons_lt_cons_iff->adH,range->agd,pairwise_append->agh,drop_of_length_le->agi,Perm->agj,replicate_succ->agk,length_range->agm,take_length->agp,lt_trans->agq,filter_cons->agr,getElem_of_mem->agt,flatten_cons->agu,length_singleton->agv,range_succ->agw,getElem?_drop->agx,mem_append_left->agz,cons_append->agA,getD_eq_getElem?_getD->agC,length->agD,extract_eq_drop_take->agF,append_nil->agG,nodup_cons->agH,mem_of_mem_drop->agL,getElem?_replicate->agM,mem_singleton_self->agN,filter_cons_of_pos->agO,map_map->agP,take_sublist->agQ,reverse_append->agT,getElem?_eq_none->agY,getElem?_eq_none_iff->ag0,mem_of_mem_take->ag2,eq_of_mem_replicate->ag4,getElem_drop->ag6,filterMap_cons->ag8,mem_range->ag9,drop_zero->aha,getElem?_set_self->ahb,zip_cons_cons->ahc,dropLast_concat_getLast->ahd,of_mem_zip->ahe,pairwise_reverse->ahi,find?_cons->ahl,length_filter_le->ahm,sum_cons->aho,ext_getElem?->ahp,getElem_take->ahq,getElem?_set_ne->ahr,mem_reverse->aht,not_mem_nil->ahv,zip->ahw,map_congr_left->ahx,take_succ_cons->ahy,any_cons->ahA,nil_append->ahB,sum_append->ahC,filter_append->ahF,length_eq_zero_iff->ahG,filter_cons_of_neg->ahH,take_take->ahJ,drop_drop->ahK,getElem?_toArray->ahM,lookup_cons->ahO,drop_length->ahP,eq_nil_of_length_eq_zero->ahQ,nil_lt_cons->ahR,take_append_of_le_length->ahS,getLastD_concat->ahV,forall_mem_cons->ahW,map_take->ahX,map_drop->ahY,mem_filter->ahZ,length_reverse->ah1,length_nil->ah2,toList_toArray->ah3,not_lt_nil->ah4,idxOf_lt_length_of_mem->ah5,length_eraseIdx_of_lt->ah8,mem_filterMap->ah9,map_nil->aia,pairwise_cons->aie,sublist_append_right->aif,sublist_append_left->aih,reverse_perm->aii,getElem?_cons_succ->aim,take_nil->ain,drop_eq_nil_of_le->aio,pairwise_lt_range->aip,filter_eq_nil_iff->aiq,Perm.append_left->ais,perm_append_comm->ait,reverse_reverse->aiy,take_zero->aiz,lt_irrefl->aiA,take_succ->aiB,mem_map_of_mem->aiC,takeWhile_cons->aiE,flatten_append->aiG,all_cons->aiJ,getElem_idxOf->aiM,reverse_cons->aiN,Pairwise.imp->aiO,getElem?_inj->aiP,pairwise_map->aiS,nodup_append->aiT,all_eq_true->aiY,map_reverse->ai2,getElem_map->ai3,le_antisymm->ai4,length_set->ai6,foldl_cons->ai7,length_zip->ai9,Perm.trans->aja,not_lt->ajb,filter_map->ajc,Perm.refl->ajg,take_left->ajh,foldl->aji,take_add->ajk,sum_nil->ajq
open Nat renaming le_refl->aad,lt_of_lt_of_le->aak,lt_or_ge->aaq,ne_of_lt->aat,zero_le->aaP,le_of_lt->adG,eq_zero_or_pos->aea,min_eq_left->afM,le_trans->age,lt_irrefl->agf,add_sub_cancel_left->agg,two_pow_pos->agl,mul_le_mul_right->agn,mul_comm->ago,zero_add->agB,pow_succ->agI,lt_succ_self->agK,lt_trichotomy->agR,le_succ->agS,not_lt_zero->agU,min_eq_right->agW,lt_of_le_of_lt->agX,mul_assoc->agZ,lt_succ_of_lt->ag5,sub_zero->ag7,succ_mul->ahf,le_of_eq->ahg,add_mul->ahj,one_mul->ahk,sub_self->ahn,le_add_right->ahu,add_le_add_left->ahz,add_sub_cancel->ahD,ne_of_gt->ahL,pow_zero->ahN,zero_mul->aib,add_zero->aic,le_antisymm->air,le_total->aiw,pow_le_pow_right->aix,mul_le_mul_left->aiD,lt_trans->aiX,le_of_not_lt->ai0,lt_of_not_le->ai5,mul_le_mul->aje,add_comm->ajp,pow_add->aju,mod_lt->ajv
open Array renaming length_toList->aae,getElem?_toList->acd,toList_append->aeg,getElem_mem_toList->aeS,getElem_toList->afq,toList_push->agE,perm_iff_toList_perm->agV,toList_extract->ag3,toList_reverse->ahU,getElem?_eq_some_iff->ah7,size_setIfInBounds->aij,getElem_extract->aiu,Perm.refl->aiv,toList_modify->aiF,append_assoc->aiI,size_extract->aiL,getD->aiR,toList->ajo
open Option renaming some.inj->aao,map_eq_some_iff->abF,map_some->ahE,isSome_iff_exists->aig,toList_some->aiK,isSome_map->aiQ,some.injEq->aiU,getD_none->aiZ,getD_some->ai1,map->ajj,none->ajt
open Bool renaming false_ne_true->aap,false_eq_true->ad5,or_eq_true->ahh,and_eq_true->ahs,not_eq_true'->ahI,eq_iff_iff->ah0,or_false->aik,false_and->ajd,not_false->ajf,false_or->ajl,not_true->ajm,true_and->ajn,true_or->ajr,not_not->ajs
open Int renaming toNat_natCast->acb,emod_lt_of_pos->agy,emod_nonneg->agJ,fdiv_eq_ediv_of_nonneg->ah6,lt_or_le->aid,ediv_ediv_of_nonneg->ail,toNat_of_nonneg->aiH,pow_succ->aiV,ediv_one->aiW,le_refl->ai8
open Ne renaming symm->ags
open Or renaming inl->ag1,inr->ahT
local macro_rules
 |`(tactic|exists $es,*)=>`(tactic|refine ⟨$es,*, ?_⟩)
open Prod renaming mk->pq
local macro_rules
 |`(($a,$b,*))=>`(⟨$a,$b,*⟩)
namespace L2
open PySem PySem.Spec PyProof.Rows
variable{s:Shared}{w:World}{A:Around}{E:Value->Shared->Prop}{prog:Program}{π:List (Addr×Obj)}{e o b tg:Expr}{K:PySem.W.Frag}{a f C S c dx Pt:Addr}{h' base h:Heap}{mg:Str->Option Value}{x qual name:Str}{N ps:List Str}{scope:Scope}{fd:FuncData}{p apos:Pos}{st:Stmt}{outer:List Env}{n i Q:Nat}{d M:List Int}{g:List Addr}{j:Array Keyed}{m:Int}{q:List Nat}{r:Value}{u:List Value}{v:List (List Nat)}{y:List (Str×Addr)}{B:List Expr}{D:Array Value}{G:List (Str×Nat)}{I:SortSt}{J:Type}{O:SetTable}{R:Option Value->Shared->Prop}{T:Value->Addr->Result->Shared->Prop}{U:List (Int×Value)}{Y:Option Nat->SortSt->Prop}
abbrev Key:=Sum Int Str
def yM:Key->Value->Bool
 | .inl k,v=>Value.isInt k v
 | .inr x,v=>Value.isStrOf x v
def Ug(w:World):Key->Int
 | .inl k=>hashInt k
 | .inr x=>hashStr w x
theorem cA:∀{k:Key}{v:Value},yM k v=true->(∃i t,k=Sum.inl i/\v=Value.int i t)\/(∃x t,k=Sum.inr x/\v=Value.str x t)
 | .inl i,v,h=>by
  obtain⟨t,e⟩:=Value.isInt_shape (k:=i) (v:=v) h;exact .inl (i,t,rfl,e)
 | .inr x,v,h=>by
  obtain⟨t,e⟩:=Value.isStrOf_shape (x:=x) (v:=v) h;exact .inr (x,t,rfl,e)
theorem Je(i:Int)(t:Tok):yM (.inl i) (.int i t)=true:=by simp[yM,Value.isInt]
theorem Jf(x:Str)(t:Tok):yM (.inr x) (.str x t)=true:=by simp[yM,Value.isStrOf]
theorem Rx(a b:Int):decide ((Sum.inl a:Key)=Sum.inl b)=(a == b):=by
 by_cases e:a=b
 ·subst e;simp
 ·have h:¬(Sum.inl a:Key)=Sum.inl b:=λq=>e (Sum.inl.inj q);rw[decide_eq_false h];exact(beq_eq_false_iff_ne.mpr e).symm
theorem Qx(a b:Str):decide ((Sum.inr a:Key)=Sum.inr b)=decide (a=b):=by
 by_cases e:a=b
 ·subst e;simp
 ·have h:¬(Sum.inr a:Key)=Sum.inr b:=λq=>e (Sum.inr.inj q);rw[decide_eq_false h,decide_eq_false e]
theorem Q8(a:Int)(b:Str):decide ((Sum.inl a:Key)=Sum.inr b)=false:=decide_eq_false (λq=>nomatch q)
theorem Q9(a:Str)(b:Int):decide ((Sum.inr a:Key)=Sum.inl b)=false:=decide_eq_false (λq=>nomatch q)
def dF(prog:Program)(w:World):PySem.KeyKind prog w Key where
 is:=yM
 hash:=Ug w
 inj:=λv a b l f=>by
  rcases cA l with ⟨i,t,rfl,rfl⟩|⟨x,t,rfl,rfl⟩
  ·rcases cA f with ⟨j,u,rfl,e⟩|⟨y,u,rfl,e⟩
   ·injection e with c _;rw[c]
   ·exact nomatch e
  ·rcases cA f with ⟨j,u,rfl,e⟩|⟨y,u,rfl,e⟩
   ·exact nomatch e
   ·injection e with c _;rw[c]
 byValue:=λk v h=>by
  rcases cA h with ⟨i,t,rfl,rfl⟩|⟨x,t,rfl,rfl⟩ <;> rfl
 pyHash:=λd h=>by
  rcases cA d with ⟨i,t,rfl,rfl⟩|⟨x,t,rfl,rfl⟩
  ·exact wpAny_pyHash_int h
  ·exact wpAny_pyHash_str h
 eqBool:=λg d h=>by
  rcases cA g with ⟨i,t,rfl,rfl⟩|⟨x,t,rfl,rfl⟩
  ·rcases cA d with ⟨j,u,rfl,rfl⟩|⟨y,u,rfl,rfl⟩
   ·rw[Rx]at h;exact wpAny_eqBool_int h
   ·rw[Q8]at h;exact SeqAt.EqAt.int_str i t y u _ _ _ _ h
  ·rcases cA d with ⟨j,u,rfl,rfl⟩|⟨y,u,rfl,rfl⟩
   ·rw[Q9]at h;exact SeqAt.EqAt.str_int x t j u _ _ _ _ h
   ·rw[Qx]at h;exact wpAny_eqBool_str h
 «strs»:=λk x t v h=>by
  rcases cA h with ⟨i,u,rfl,e⟩|⟨y,u,rfl,e⟩
  ·exact nomatch e
  ·injection e with c _
   subst c;cases v <;> rfl
theorem CT(prog:Program)(w:World)(i:Int)(t:Tok):(dF prog w).is (.inl i) (.int i t)=true:=Je i t
theorem Cu(prog:Program)(w:World)(x:Str)(t:Tok):(dF prog w).is (.inr x) (.str x t)=true:=Jf x t
inductive V where
 | non|bl (b:Bool) | int (i:Int) | str (x:Str) | VJ (b:Array UInt8) | flt (b:UInt64) | ref (a:Addr) | ty (n:String)
 deriving DecidableEq
def RelV:V->Value->Prop
 | .non,u=>u=Value.none
 | .bl b,u=>u=Value.bool b
 | .int i,u=>∃t,u=Value.int i t
 | .str x,u=>∃t,u=Value.str x t
 | .VJ b,u=>∃t,u=Value.bytes b t
 | .flt b,u=>∃t,u=Value.float b t
 | .ref a,u=>u=Value.ref a
 | .ty n,u=>u=Value.type n
abbrev Vals:List V->List Value->Prop:=Paired RelV
theorem Vals.length{xs:List V}{a:List Value}(r:Vals xs a):xs.length=a.length:=Paired.length r
theorem Vals.get:∀{xs:List V}{a:List Value}{i:Nat}{x:V},Vals xs a->xs[i]?=some x -> ∃u,a[i]?=some u/\RelV x u
 | _,_,_,_,.nil,e=>by simp at e
 | _,_,0,_,.cons r _,e=>by simp at e;subst e;exact(_,rfl,r)
 | _,_,i+1,x,.cons _ t,e=>by
  obtain⟨u,c,b⟩:=Vals.get (i:=i) (x:=x) t (by simpa using e);exact(u,by simpa using c,b)
theorem Vals.set{x:V}{u:Value}(r:RelV x u):∀{xs:List V}{a:List Value} (i:Nat),Vals xs a->Vals (xs.set i x) (a.set i u)
 | _,_,_,.nil=>.nil
 | _,_,0,.cons _ t=>.cons r t
 | _,_,i+1,.cons q t=>.cons q (Vals.set r i t)
theorem Vals.append:∀{xs ys:List V}{b a:List Value},Vals xs b->Vals ys a->Vals (xs++ys) (b++a)
 | _,_,_,_,.nil,s=>s
 | _,_,_,_,.cons r t,s=>.cons r (Vals.append t s)
theorem Vals.take:∀{xs:List V}{a:List Value} (n:Nat),Vals xs a->Vals (xs.take n) (a.take n)
 | _,_,0,_=>.nil
 | _,_,_+1,.nil=>.nil
 | _,_,n+1,.cons r t=>.cons r (Vals.take n t)
theorem Vals.drop:∀{xs:List V}{a:List Value} (n:Nat),Vals xs a->Vals (xs.drop n) (a.drop n)
 | _,_,0,r=>r
 | _,_,_+1,.nil=>.nil
 | _,_,n+1,.cons _ t=>Vals.drop n t
def v7:Option V->Option Value->Prop
 | some v,some u=>RelV v u
 | none,none=>True
 | _,_=>False
def KV{κ:Type}:List (κ×V)->List (κ×Value)->Prop:=Paired λ(p:κ×V) (q:κ×Value)=>p.1=q.1/\RelV p.2 q.2
def kV:Key->V
 | .inl i=>.int i
 | .inr x=>.str x
inductive HO where
  | lst (xs:List V)
  | tup (xs:List V)
  | dK (kvs:List (Key×V)) | dT (kvs:List (List Key×V))
  | set (S:Int->Bool) (n:Nat)
  | ins (C dx:Addr) (fs:List (Str×V))
  | own (x:Addr)
  | xd (fs:List (Str×V))
  | met (f x:Addr)
  | Yi (lo hi:Int)
  | Ve (o:Obj) (u:HO)
  | Uq (ps:Array Value)
  | ext (φ:Heap->Prop)
abbrev Hp:=Addr->Option HO
def upd(H:Hp)(a:Addr)(o:HO):Hp:=λb=>if b=a then some o else H b
theorem au{H:Hp}{a:Addr}{o:HO}:upd H a o a=some o:=by unfold upd;rw[if_pos rfl]
theorem aJ{H:Hp}{a b:Addr}{o:HO}(h:b≠a):upd H a o b=H b:=by unfold upd;rw[if_neg h]
theorem lw{H:Hp}{a:Addr}{o u:HO}:upd (upd H a o) a u=upd H a u:=by
 funext b;unfold upd;split <;> rfl
theorem RV{H:Hp}{a b:Addr}{o u:HO}(h:H a=some o)(h':H b=some u)(d:o≠u):a≠b:=by
 intro e;subst e;rw[h]at h';exact d (aao h')
theorem aH{H:Hp}{a b:Addr}{o:HO}(h:H a=some o)(h':H b=none):a≠b:=by
 intro e;subst e;rw[h]at h';cases h'
section
variable(P:Program)(w:World)
def bH(H:Hp)(h:Heap)(a:Addr):HO->Prop
 | .lst d=>d.length<=sizeLine /\ ∃(c:List Value) (n:Nat),Vals d c/\h.get? a=some { cls:=.type "list",data:=.seq c.toArray n }
 | .tup d=>d.length<=sizeLine /\ ∃c:List Value,Vals d c/\IsTup h a c.toArray
 | .dK b=>b.length<=sizeLine/\(a == sysModules)=false /\ ∃k,KV b k/\h.DictOf (dF P w) a k
 | .dT b=>b.length<=sizeLine/\(a == sysModules)=false /\ ∃d:List (List Key×Addr×Value),
   Paired (λ(p:List Key×V) (q:List Key×Addr×Value)=>p.1=q.1/\H q.2.1=some (.tup (p.1.map kV))/\RelV p.2 q.2.2) b d /\
   ∃o r A,h.get? a=some o/\o.ExactDict/\o.data=.dict r A/\r.toList=d.map (entryOfKey (tupleKind (dF P w)))/\(d.map (·.1)).Nodup
 | .set S n=>h.SetOf (intKind P w) a S n
 | .ins C i g=>H i=some (.own a)/\g.length<=1000/\i≠a/\h.get? a=some (PySem.W.instObj C i) /\
   ∃e,h.Ns1 i e/\(∀f,v7 (g.lookup f) (e f))/\PySem.Within e (g.map (·.1))
 | .own _=>∃o,h.get? a=some o
 | .xd g=>∃e,h.Ns1 a e /\ ∀f,v7 (g.lookup f) (e f)
 | .Yi y z=>∃t u v,h.get? a=some { cls:=.type "range",data:=.fields #[.int y t,.int z u,.int 1 v] }
 | .Ve o u=>h.get? a=some o/\bH H h a u
 | .Uq s=>h.get? a=some { cls:=.none,data:=.fields s }
 | .met f x=>h.get? a=some (PySem.W.methodObj (.ref f) (.ref x))
 | .ext j=>j h/\(∃o,h.get? a=some o) /\ ∀m l:Heap,j m->(∀o,m.get? a=some o->l.get? a=some o)->j l
def Uw(H:Hp)(h:Heap):Prop:=∀a o,H a=some o->bH P w H h a o
end
section
variable{P:Program}{H H':Hp}{o:HO}
theorem bH.lt(x:bH P w H h a o):a<h.objs.size:=by
 cases o with
 | lst c=>obtain⟨_,_,_,_,e⟩:=x;exact Heap.lt_size e
 | tup c=>obtain⟨_,_,_,p⟩:=x;exact p.lt
 | dK b=>obtain⟨_,_,_,_,o,_,_,e,_⟩:=x;exact Heap.lt_size e
 | dT b=>obtain⟨_,_,_,_,o,_,_,e,_⟩:=x;exact Heap.lt_size e
 | set S n=>obtain⟨o,_,_,_,e,_⟩:=x;exact Heap.lt_size e
 | ins C m d=>obtain⟨_,_,_,e,_⟩:=x;exact Heap.lt_size e
 | own y=>obtain⟨_,e⟩:=x;exact Heap.lt_size e
 | xd d=>obtain⟨_,⟨_,_,_,e,_⟩,_⟩:=x;exact Heap.lt_size e
 | Yi k l=>obtain⟨_,_,_,e⟩:=x;exact Heap.lt_size e
 | Ve j u=>obtain⟨e,_⟩:=x;exact Heap.lt_size e
 | Uq i=>exact Heap.lt_size (show h.get? a=some _ from x)
 | met f y=>exact Heap.lt_size (show h.get? a=some _ from x)
 | ext g=>obtain⟨_,⟨_,e⟩,_⟩:=x;exact Heap.lt_size e
theorem Paired.mapP{e d:Type}{F G:e->d->Prop}:∀{c:List e}{l₂:List d},Paired F c l₂->(∀a b,F a b->G a b)->Paired G c l₂
 | _,_,.nil,_=>.nil
 | _,_,.cons r t,f=>.cons (f _ _ r) (Paired.mapP t f)
theorem bH.stay(x:bH P w H h a o)(k:∀b u,(b=a\/H b=some (.own a))->h.get? b=some u->h'.get? b=some u)
  (I:∀b,H b=some (.own a)->H' b=some (.own a))(ht:∀b xs,H b=some (.tup xs)->H' b=some (.tup xs)):bH P w H' h' a o:=by
 induction o with
 | lst xs=>obtain⟨z,l,n,r,e⟩:=x;exact(z,l,n,r,k _ _ (.inl rfl) e)
 | tup xs=>obtain⟨z,l,r,g,e,c⟩:=x;exact(z,l,r,g,k _ _ (.inl rfl) e,c)
 | dK A=>obtain⟨z,y,E,r,g,i,j,e,c⟩:=x;exact(z,y,E,r,g,i,j,k _ _ (.inl rfl) e,c)
 | dT A =>
  obtain⟨z,y,xs,r,g,i,j,e,c⟩:=x;exact(z,y,xs,Paired.mapP r λp q z=>(z.1,ht _ _ z.2.1,z.2.2),g,i,j,k _ _ (.inl rfl) e,c)
 | set S n=>obtain⟨g,i,j,t,e,c⟩:=x;exact(g,i,j,t,k _ _ (.inl rfl) e,c)
 | ins C O J =>
  obtain⟨d,z,F,e,s,⟨m,i,j,K,c⟩,r⟩:=x;exact(I _ d,z,F,k _ _ (.inl rfl) e,s,(m,i,j,k _ _ (.inr d) K,c),r)
 | own y=>obtain⟨g,e⟩:=x;exact(g,k _ _ (.inl rfl) e)
 | xd J=>obtain⟨s,⟨m,i,j,e,c⟩,r⟩:=x;exact(s,(m,i,j,k _ _ (.inl rfl) e,c),r)
 | Yi M N=>obtain⟨t,u,v,e⟩:=x;exact(t,u,v,k _ _ (.inl rfl) e)
 | Ve g u G=>obtain⟨e,q⟩:=x;exact(k _ _ (.inl rfl) e,G q)
 | Uq D =>
  have e:h.get? a=some { cls:=.none,data:=.fields D }:=x;show h'.get? a=some { cls:=.none,data:=.fields D };exact k a _ (.inl rfl) e
 | met f y =>
  have e:h.get? a=some (PySem.W.methodObj (.ref f) (.ref y)):=x;show h'.get? a=some (PySem.W.methodObj (.ref f) (.ref y));exact k a _ (.inl rfl) e
 | ext L=>obtain⟨p,⟨o,e⟩,B⟩:=x;exact(B _ _ p λo q=>k _ _ (.inl rfl) q,(o,k _ _ (.inl rfl) e),B)
theorem Uw.lt(x:Uw P w H h)(e:H a=some o):a<h.objs.size:=(x a o e).lt
theorem Uw.fresh(x:Uw P w H h)(e:h.objs.size<=a):H a=none:=by
 cases q:H a with
 | none=>rfl
 | some u=>exact absurd (aak (x.lt q) e) (agf _)
theorem Uw.kept(x:Uw P w H h)(k:∀b u,h.get? b=some u->h'.get? b=some u):Uw P w H h':=λa o e =>
 (x a o e).stay (λb u _ q=>k b u q) (λ_ q=>q) λ_ _ q=>q
theorem Uw.laid(x:Uw P w H h)(k:∀b u,h.get? b=some u->h'.get? b=some u)(i:h.objs.size<=a)(d:bH P w (upd H a o) h' a o):Uw P w (upd H a o) h':=λb u e=>by
 have f:=x.fresh i;by_cases g:b=a
 ·subst g;rw[au]at e;cases e;exact d
 ·rw[aJ g]at e;exact(x b u e).stay (λc v _ q=>k c v q) (λc q=>by rw[aJ (aH q f)];exact q) λc j q=>by rw[aJ (aH q f)];exact q
end
def Rd(H:Hp)(a:Addr)(u:HO):Prop:=H a=some u \/ ∃o,H a=some (.Ve o u)
theorem Rd.ok{w:World}{H:Hp}{a:Addr}{u:HO}(r:Rd H a u)(x:Uw prog w H h'):bH prog w H h' a u:=by
 rcases r with r|⟨o,r⟩
 ·exact x a u r
 ·obtain⟨_,q⟩:=x a _ r;exact q
def Xo:Option HO->Prop
 | some (.lst _)=>True
 | some (.dK _)=>True
 | some (.dT _)=>True
 | some (.set _ _)=>True
 | some (.ins _ _ _)=>True
 | some (.ext _)=>True
 | _=>False
section
variable{P:Program}{H:Hp}{x e:Addr}{o':HO}
theorem Uw.write(s:Uw P w H h)(i:Xo (H x))(p:e=x\/H e=some (.own x))(k:∀b u,b≠e->h.get? b=some u->h'.get? b=some u)(n:∃u,h'.get? e=some u)
  (m:bH P w (upd H x o') h' x o'):Uw P w (upd H x o') h':=λb u q=>by
 have d:∀c y,H c=some (.own y)->c≠x:=λc y r z=>by subst z;rw[r]at i;exact i
 have f:∀c g,H c=some (.tup g)->c≠x:=λc g r z=>by subst z;rw[r]at i;exact i
 by_cases l:b=x
 ·subst l;rw[au]at q;cases q;exact m
 ·rw[aJ l]at q;by_cases a:b=e
  ·have o:H b=some (.own x):=by
    rcases p with z|z
    ·exact absurd (a.trans z) l
    ·rw[a];exact z
   rw[q]at o;cases o;obtain⟨v,t⟩:=n;exact(v,by rw[a];exact t)
  ·refine(s b u q).stay (λc v j r=>k c v ?_ r) (λc r=>by rw[aJ (d c b r)];exact r) λc g r=>by rw[aJ (f c g r)];exact r
   rcases j with rfl|j
   ·exact a
   ·rintro rfl;rcases p with z|z
    ·exact d c b j z
    ·rw[j]at z;cases z;exact l rfl
end
structure Un(fs ex:List Addr)(H H':Hp)(h h':Heap):Prop where
 keep:∀b o,h.get? b=some o->H b=none->b∉fs->b∉ex->h'.get? b=some o
 slot:∀b o,h.get? b=some o->H b=none->b∈fs->b∉ex -> ∃sl,h'.get? b=some { o with slots:=sl }
 free:∀b o,h.get? b=some o->H b=none->b∉ex->H' b=none
 there:∀b o,h.get? b=some o->b∉ex -> ∃o',h'.get? b=some o'
 tups:∀b xs,H b=some (.tup xs)->H' b=some (.tup xs)
 frzs:∀b o u,H b=some (.Ve o u)->H' b=some (.Ve o u)
 tbls:∀b ps,H b=some (.Uq ps) -> ∃more,H' b=some (.Uq (ps++more))
section
variable{fs fs' ex ex':List Addr}{H H1 H2:Hp}{h1 h2:Heap}{x e:Addr}{o:HO}
theorem Un.any(u:Un fs ex H H1 h h1){b:Addr}{c:Obj}(q:h.get? b=some c)(n:H b=none)(d:b∉ex):∃g,h1.get? b=some { c with slots:=g }:=by
 by_cases f:b∈fs
 ·exact u.slot b c q n f d
 ·exact(c.slots,u.keep b c q n f d)
theorem Un.kept(k:∀b u,h.get? b=some u->h'.get? b=some u):Un fs ex H H h h':=
 (λb c q _ _ _=>k b c q,λb c q _ _ _=>(c.slots,k b c q),λ_ _ _ n _=>n,λb c q _=>(c,k b c q),λ_ _ q=>q,λ_ _ _ q=>q,λ_ d q=>(#[],by rw[q];simp))
theorem Un.refl:Un fs ex H H h h:=Un.kept λ_ _ q=>q
theorem Un.laid(k:∀b u,h.get? b=some u->h'.get? b=some u)(f:h.objs.size<=a)(c:H a=none):Un fs ex H (upd H a o) h h' where
 keep:=λb u q _ _ _=>k b u q
 slot:=λb u q _ _ _=>(u.slots,k b u q)
 free:=λb u q n _=>by rw[aJ (aat (aak (Heap.lt_size q) f))];exact n
 there:=λb u q _=>(u,k b u q)
 tups:=λb d q=>by rw[aJ (aH q c)];exact q
 frzs:=λb u d q=>by rw[aJ (aH q c)];exact q
 tbls:=λb g q=>(#[],by rw[aJ (aH q c),q];simp)
theorem Un.write(d:Xo (H x))(p:e=x\/H e=some (.own x))(k:∀b u,b≠e->h.get? b=some u->h'.get? b=some u)(g:∃u,h'.get? e=some u):Un fs ex H (upd H x o) h h':=by
 have i:∀b,H b=none->b≠x:=λb n z=>by subst z;rw[n]at d;exact d
 have j:∀b,H b=none->b≠e:=λb n z=>by
  subst z;rcases p with r|r
  ·exact i b n r
  ·rw[n]at r;cases r
 have f:∀b u,H b=some u -> ¬Xo (some u)->b≠x:=λb u q m z=>by subst z;rw[q]at d;exact m d
 refine(λb u q n _ _=>k b u (j b n) q,λb u q n _ _=>(u.slots,k b u (j b n) q),λb u q n _=>by rw[aJ (i b n)];exact n,λb u q _=>?_,
  λb l q=>by rw[aJ (f b _ q λz=>z)];exact q,λb u l q=>by rw[aJ (f b _ q λz=>z)];exact q,λb s q=>(#[],by rw[aJ (f b _ q λz=>z),q];simp))
 by_cases c:b=e
 ·subst c;exact g
 ·exact(u,k b u c q)
end
def Wq(h:Heap)(H:Hp):List Addr:=(agd h.objs.size).filter λa=>(H a).isSome
def vq(h:Heap)(H:Hp):Heap:=PySem.W.hideAll h (Wq h H)
theorem Jz(h:Heap)(H:Hp):(vq h H).objs.size=h.objs.size:=PySem.W.hideAll_size _ _
theorem Nq{H:Hp}{b:Addr}{o:Obj}(e:h'.get? b=some o)(n:H b=none):(vq h' H).get? b=some o:=
 PySem.W.hideAll_get _ e λa=>by
  have q:(H b).isSome=true:=(ahZ.mp a).2;rw[n]at q;simp at q
theorem O4{H:Hp}{b:Addr}{o:Obj}(e:(vq h' H).get? b=some o):h'.get? b=some o/\H b=none:=by
 have a:h'.get? b=some o:=PySem.W.of_hideAll (Wq h' H) e;exists a;cases q:H b with
 | none=>rfl
 | some x =>
  have c:b∈Wq h' H:=ahZ.mpr (ag9.mpr (Heap.lt_size a),by simp[q]);have z:(vq h' H).get? b=none:=PySem.W.hideAll_none (Wq h' H) c;rw[z]at e;cases e
def Pj(g h:Heap)(L:Addr):List (Addr×Obj):=(agd h.objs.size).filterMap λa=>if a=L\/(g.get? a).isSome=true then none else (h.get? a).map λo=>(pq a o)
def rest(g h:Heap)(L d:Addr):List (Addr×Obj):=(Pj g h L).filter λp=>decide (p.1≠d)
structure Mod(K:PySem.W.Frag)(mg:Str->Option Value)(base:Heap):Prop where
 Xp:K.In base
 glob:base.Ns mainGlobals mg
 blt:∃mb,base.Ns builtinsNs mb /\ ∀x:Str,x ≠ "__name__" -> mb x=bootBuiltins x
 nolimit:base.NoLimit
structure Cx where
 prog:Program
 w:World
 K:PySem.W.Frag
 mg:Str->Option Value
 base:Heap
 A:Around
 N:List Str
 s₀:Shared
 H₀:Hp
 env:Env
 outer:List Env
 stack:List Env
 ex:List Addr
 fn:Str->Bool
 calm:Bool
 pn:List (Addr×Obj)
 xe:Value->Shared->Prop
def frs(l:List Env):List Addr:=l.filterMap (·.frame)
abbrev Cx.fs(X:Cx):List Addr:=frs X.outer
def Yj(a:Scope)(x:Str):Prop:=a.names.lookup x=some .local\/a.names.lookup x=some .cell\/a.names.lookup x=some .free
def Loc(a:Scope)(x:Str):Prop:=a.names.lookup x=some .local\/a.names.lookup x=some .cell
def Look(a:Env)(h:Heap)(m:Str->Option Value)(x:Str)(u:Value):Prop:=
 (a.kindOf x=some .local/\m x=some u)\/((a.kindOf x=some .cell\/a.kindOf x=some .free) /\ ∃c,a.cells.lookup x=some c/\h.IsCell c (some u))
structure Cx.Ok(X:Cx):Prop where
 mod:Mod X.K X.mg X.base
 kind:X.env.scope.kind=.function
 glob:X.env.globals=mainGlobals
 blt:X.env.builtins=builtinsNs
 above:X.s₀.heap.objs.size<=X.env.locals
 inj:∀x y c,X.env.cells.lookup x=some c->X.env.cells.lookup y=some c->x=y
 has:∀x,(X.env.kindOf x=some .cell\/X.env.kindOf x=some .free) -> ∃c,X.env.cells.lookup x=some c
 cab:∀x c,X.fn x=true->X.env.cells.lookup x=some c->X.s₀.heap.objs.size<=c
 hd:X.calm=true->X.A.handled=none
 frames:X.A.frames=some X.stack
 WM:X.stack=X.outer\/(X.stack=X.env::X.outer/\X.env.frame=some X.env.locals)
 exf:∀b∈X.ex,b≠X.env.locals /\ ∀x c,X.env.cells.lookup x=some c->c≠b
 bs:∀b o,X.base.get? b=some o->X.s₀.heap.get? b=some o/\X.H₀ b=none
 VL:X.base.objs.size<=X.s₀.heap.objs.size
 noex:∀b o,X.base.get? b=some o->b∉X.ex
 exfs:∀b∈X.ex,b∉X.fs
 funs:X.s₀.heap.FunFrames X.base X.outer
 V8:∀b∈X.fs,X.H₀ b=none
structure Inv(X:Cx)(π:List (Addr×Obj))(σ:List (Option V))(H:Hp)(s:Shared):Prop where
 ok:X.Ok
 os:s.os=X.s₀.os
 bare:AllBare s.gens
 base:Un X.fs X.ex X.H₀ H X.s₀.heap s.heap
 loc:∃m,s.heap.Ns X.env.locals m /\ ∀(i:Nat) (x:Str) (v:V),X.N[i]?=some x->σ[i]?=some (some v)->Yj X.env.scope x -> ∃u,RelV v u/\Look X.env s.heap m x u
 cell:∀x c,X.env.cells.lookup x=some c -> ∃v,s.heap.IsCell c v
 free:H X.env.locals=none
 freeC:∀x c,X.env.cells.lookup x=some c->H c=none
 pin:∀p∈X.pn++π,s.heap.get? p.1=some p.2/\H p.1=none/\p.1≠X.env.locals/\p.1∉X.fs /\ ∀v,p.2.data ≠ .cell v
 hok:Uw X.prog X.w H s.heap
 len:σ.length=X.N.length
section
variable{X:Cx}{σ:List (Option V)}{H H':Hp}
theorem Cx.Ok.nofr(a:X.Ok){b:Addr}{o:Obj}(e:X.base.get? b=some o):b∉X.fs:=λc=>by
 have:=(a.funs.mem c).1;rw[e]at this;cases this
theorem Inv.bs(I:Inv X π σ H s):∀b o,X.base.get? b=some o->s.heap.get? b=some o/\H b=none:=λb o e =>
 (I.base.keep b o (I.ok.bs b o e).1 (I.ok.bs b o e).2 (I.ok.nofr e) (I.ok.noex b o e),I.base.free b o (I.ok.bs b o e).1 (I.ok.bs b o e).2 (I.ok.noex b o e))
theorem Inv.bk(I:Inv X π σ H s):∀b o,X.base.get? b=some o->s.heap.get? b=some o:=λb o e=>(I.bs b o e).1
theorem Inv.mod(I:Inv X π σ H s):Mod X.K X.mg X.base:=I.ok.mod
theorem Inv.Vi(I:Inv X π σ H s):X.K.In s.heap:=I.ok.mod.Xp.keeps I.bk
theorem Inv.lt(I:Inv X π σ H s):X.env.locals<s.heap.objs.size:=let ⟨_,hn,_⟩:=I.loc;hn.lt
theorem Inv.sz(I:Inv X π σ H s):X.s₀.heap.objs.size<=s.heap.objs.size:=age I.ok.above (adG I.lt)
theorem Inv.nofs(I:Inv X π σ H s){a:Addr}(h:s.heap.objs.size<=a):a∉X.fs:=λc=>by
 obtain⟨_,o,b,_⟩:=I.ok.funs.mem c;exact absurd (aak (Heap.lt_size b) (age I.sz h)) (agf _)
theorem Inv.WN(I:Inv X π σ H s):∀x c,X.env.cells.lookup x=some c->c≠X.env.locals:=λx c e z=>by
 obtain⟨v,o,d,hd⟩:=I.cell x c e;obtain⟨m,⟨f,g,h,a,b,_⟩,_⟩:=I.loc;rw[z,a]at d;cases d;rw[b]at hd;cases hd
theorem Inv.funs(I:Inv X π σ H s):s.heap.FunFrames X.base X.outer:=by
 have f:∀(l:List Env),(∀b∈frs l,b∈X.fs)->X.s₀.heap.FunFrames X.base l->s.heap.FunFrames X.base l:=by
  intro l
  induction l with
  | nil=>intro _ _;trivial
  | cons p r h =>
   intro g m;obtain⟨n,⟨L,o,a,k,j,hd⟩,i⟩:=m;have d:L∈X.fs:=g L (by unfold frs;rw[ag8,a];exact abE);obtain⟨q,e⟩:=I.base.slot L o j (I.ok.V8 L d) d λz=>I.ok.exfs L z d;exact(n,(L,_,a,k,e,hd),h (λb c=>g b (by unfold frs;rw[ag8,a];exact aaR _ c)) i)
 exact f X.outer (λ_ c=>c) I.ok.funs
theorem Inv.stack(I:Inv X π σ H s):s.heap.FunFrames X.base X.stack:=by
 rcases I.ok.WM with e|⟨e,b⟩
 ·rw[e];exact I.funs
 ·rw[e];obtain⟨m,a,_⟩:=I.loc;refine .cons (by rw[I.ok.kind];decide) b a ?_ I.funs;exact Heap.get?_none_of_le (age I.ok.VL I.ok.above)
theorem Inv.stkSub(I:Inv X π σ H s):∀b∈frs X.stack,b∈X.env.locals::X.fs:=λb a=>by
 rcases I.ok.WM with e|⟨e,c⟩
 ·rw[e]at a;exact aaR _ a
 ·rw[e]at a;unfold frs at a;rw[ag8,c]at a;exact a
theorem Inv.stkFree(I:Inv X π σ H s):∀b∈frs X.stack,H b=none:=λb a=>by
 rcases aaQ.mp (I.stkSub b a)with e|a
 ·rw[e];exact I.free
 ·obtain⟨_,o,c,_⟩:=I.ok.funs.mem a;exact I.base.free b o c (I.ok.V8 b a) λz=>I.ok.exfs b z a
theorem Inv.step{g':Array GenState}{t':Nat}{d':Drawn}{ch:List Addr}(I:Inv X π σ H s)
  (g:∀b∈ch,(b∈X.ex\/X.s₀.heap.objs.size<=b)/\b≠X.env.locals/\(∀x c,X.env.cells.lookup x=some c->c≠b) /\ ∀p∈X.pn++π,p.1≠b)
  (h:∀b o,b≠X.env.locals->b∉X.fs->b∉ch->s.heap.get? b=some o->H b=none->h'.get? b=some o)
  (y:∀b o,b≠X.env.locals->b∈X.fs->b∉ch->s.heap.get? b=some o->H b=none -> ∃O,h'.get? b=some { o with slots:=O })(f:∀b o,b∉ch->s.heap.get? b=some o->H b=none->H' b=none)
  (B:∀b o,b∉ch->s.heap.get? b=some o -> ∃D,h'.get? b=some D)
  (J:∀b xs,H b=some (.tup xs)->H' b=some (.tup xs))(M:∀b o u,H b=some (.Ve o u)->H' b=some (.Ve o u))(K:∀b ps,H b=some (.Uq ps) -> ∃L,H' b=some (.Uq (ps++L)))
  (V:∀m,s.heap.Ns X.env.locals m->h'.Ns X.env.locals m)(Q:Uw X.prog X.w H' h')(hg:AllBare g'):
  Inv X π σ H' { s with heap:=h',gens:=g',drawn:=d',toks:=t' }:=by
 have G:∀b o,X.s₀.heap.get? b=some o->b≠X.env.locals:=λb o e=>aat (aak (Heap.lt_size e) I.ok.above);have N:∀b o,X.s₀.heap.get? b=some o->b∉X.ex->b∉ch:=λb o e a A=>by
  rcases(g b A).1 with z|z
  ·exact a z
  ·exact absurd (aak (Heap.lt_size e) z) (agf _)
 have j:∀x c,X.env.cells.lookup x=some c -> ∀v,s.heap.IsCell c v->h'.IsCell c v:=λx c e v ⟨o,C,hd⟩=>by
  have F:c∉ch:=λz=>(g c z).2.2.1 x c e rfl;by_cases U:c∈X.fs
  ·obtain⟨O,q⟩:=y c o (I.WN x c e) U F C (I.freeC x c e);exact(_,q,hd)
  ·exact(o,h c o (I.WN x c e) U F C (I.freeC x c e),hd)
 refine(I.ok,I.os,hg,(λb o e n A a=>?_,λb o e n A a=>?_,λb o e n a=>?_,λb o e a=>?_,λb xs e=>J b xs (I.base.tups b xs e),λb o xs e=>M b o xs (I.base.frzs b o xs e),λb ps e=>?_),?_,λx c e=>?_,?_,λx c e=>?_,λp T=>?_,Q,I.len)
 ·exact h b o (G b o e) A (N b o e a) (I.base.keep b o e n A a) (I.base.free b o e n a)
 ·obtain⟨O,t⟩:=I.base.slot b o e n A a;obtain⟨P,E⟩:=y b _ (G b o e) A (N b o e a) t (I.base.free b o e n a);exact(P,E)
 ·obtain⟨D,t⟩:=I.base.there b o e a;exact f b D (N b o e a) t (I.base.free b o e n a)
 ·obtain⟨D,t⟩:=I.base.there b o e a;exact B b D (N b o e a) t
 ·obtain⟨Y,t⟩:=I.base.tbls b ps e;obtain⟨W,E⟩:=K b _ t;exact(Y++W,by rw[E,aiI])
 ·obtain⟨m,Z,hl⟩:=I.loc;refine(m,V m Z,λi x v t E e3=>?_);obtain⟨u,r,l⟩:=hl i x v t E e3;exists u,r;rcases l with l|⟨k,c,e,z⟩
  ·exact .inl l
  ·exact .inr (k,c,e,j x c e _ z)
 ·obtain⟨v,z⟩:=I.cell x c e;exact(v,j x c e v z)
 ·obtain⟨m,⟨o,_,_,C,_⟩,_⟩:=I.loc;exact f _ o (λz=>(g _ z).2.1 rfl) C I.free
 ·obtain⟨v,o,C,hd⟩:=I.cell x c e;exact f c o (λz=>(g c z).2.2.1 x c e rfl) C (I.freeC x c e)
 ·obtain⟨e,n,S,R,d⟩:=I.pin p T;have F:p.1∉ch:=λz=>(g p.1 z).2.2.2 p T rfl;exact(h p.1 p.2 S R F e n,f p.1 p.2 F e n,S,R,d)
theorem Inv.un{t':Nat}(I:Inv X π σ H s)(u:Un X.fs [] H H' s.heap h')(d:Uw X.prog X.w H' h'):Inv X π σ H' { s with heap:=h',toks:=t' }:=by
 obtain⟨m,⟨o,t,v,h,r⟩,_⟩:=id I.loc;obtain⟨l,k⟩:=u.any h I.free (by simp);exact I.step (g':=s.gens) (d':=s.drawn) (ch:=[]) (λ_ z=>nomatch z) (λb o _ c _ e n=>u.keep b o e n c (by simp)) (λb o _ c _ e n=>u.slot b o e n c (by simp)) (λb o _ e n=>u.free b o e n (by simp)) (λb o _ e=>u.there b o e (by simp)) u.tups u.frzs u.tbls (λq j=>by
  obtain⟨p,f,g,a,i⟩:=j;rw[h]at a;cases a;exact(_,f,g,k,i)) d I.bare
theorem Inv.call{g':Array GenState}{t':Nat}{d':Drawn}{ch:List Addr}(I:Inv X π σ H s)(u:Un (frs X.stack) ch H H' s.heap h')(h:Uw X.prog X.w H' h')(t:AllBare g')
  (f:∀b∈ch,(b∈X.ex\/X.s₀.heap.objs.size<=b)/\b≠X.env.locals/\(∀x c,X.env.cells.lookup x=some c->c≠b) /\ ∀p∈X.pn++π,p.1≠b):
  Inv X π σ H' { s with heap:=h',gens:=g',drawn:=d',toks:=t' }:=by
 obtain⟨m,⟨o,C,D,k,r⟩,_⟩:=id I.loc;obtain⟨y,g⟩:=u.any k I.free λz=>(f _ z).2.1 rfl;exact I.step (ch:=ch) f (λb o g v a e n=>u.keep b o e n (λz=>(aaQ.mp (I.stkSub b z)).elim g v) a) (λb o _ _ a e n=>u.any e n a) (λb o a e n=>u.free b o e n a) (λb o a e=>u.there b o e a) u.tups u.frzs u.tbls (λB q=>by
  obtain⟨A,i,j,d,l⟩:=q;rw[k]at d;cases d;exact(_,i,j,g,l)) h t
theorem Inv.turned{t':Nat}(I:Inv X π σ H s)(k:∀b o,b≠a->s.heap.get? b=some o->h'.get? b=some o)(i:H a=none)(g:a≠X.env.locals)
  (y:a∈X.ex\/X.s₀.heap.objs.size<=a)(w:∀x c,X.env.cells.lookup x=some c->c≠a)(t:∀p∈X.pn++π,p.1≠a):Inv X π σ H { s with heap:=h',toks:=t' }:=by
 have f:∀b u,H b=some u->b≠a:=λb u e z=>by rw[z,i]at e;cases e
 refine I.step (g':=s.gens) (d':=s.drawn) (ch:=[a]) (λb l=>?_) (λb o _ _ d e _=>k b o (λz=>d (by simp[z])) e) (λb o _ _ d e _=>(o.slots,k b o (λz=>d (by simp[z])) e)) (λ_ _ _ _ n=>n)
  (λb o d e=>(o,k b o (λz=>d (by simp[z])) e)) (λ_ _ e=>e) (λ_ _ _ e=>e) (λb C e=>(#[],by rw[e];simp)) (λm j=>?_) (λb u e=>?_) I.bare
 ·have e:b=a:=by simpa using l
  subst e;exact(y,g,w,t)
 ·obtain⟨o,A,B,h,r⟩:=j;exact(o,A,B,k _ o (ags g) h,r)
 ·refine(I.hok b u e).stay (λc v d q=>k c v ?_ q) (λ_ q=>q) λ_ _ q=>q;rcases d with z|z
  ·rw[z];exact f b u e
  ·exact f c _ z
theorem Inv.tok(I:Inv X π σ H s)(t:Nat):Inv X π σ H { s with toks:=t }:=I.un (h':=s.heap) (t':=t) Un.refl I.hok
theorem Inv.kept{t':Nat}(I:Inv X π σ H s)(k:∀b u,s.heap.get? b=some u->h'.get? b=some u):Inv X π σ H { s with heap:=h',toks:=t' }:=I.un (Un.kept k) (I.hok.kept k)
theorem Inv.laid{a:Addr}{o:HO}{t':Nat}(I:Inv X π σ H s)(k:∀b u,s.heap.get? b=some u->h'.get? b=some u)(c:s.heap.objs.size<=a)(d:bH X.prog X.w (upd H a o) h' a o):
  Inv X π σ (upd H a o) { s with heap:=h',toks:=t' }:=I.un (Un.laid k c (I.hok.fresh c)) (I.hok.laid k c d)
theorem Inv.write{x e:Addr}{o:HO}{t':Nat}(I:Inv X π σ H s)(d:Xo (H x))(f:e=x\/H e=some (.own x))(k:∀b u,b≠e->s.heap.get? b=some u->h'.get? b=some u)(a:∃u,h'.get? e=some u)
  (c:bH X.prog X.w (upd H x o) h' x o):Inv X π σ (upd H x o) { s with heap:=h',toks:=t' }:=I.un (Un.write d f k a) (I.hok.write d f k a c)
theorem Inv.pins_of{a:List (Addr×Obj)}(I:Inv X π σ H s)(h:∀p∈a,s.heap.get? p.1=some p.2/\H p.1=none/\p.1≠X.env.locals/\p.1∉X.fs /\ ∀v,p.2.data ≠ .cell v):Inv X a σ H s:=
 (I.ok,I.os,I.bare,I.base,I.loc,I.cell,I.free,I.freeC,λp b=>(abd.mp b).elim (λz=>I.pin p (agz _ z)) (h p),I.hok,I.len)
theorem Bw{N:List Str}(c:N.Nodup){i j:Nat}{x:Str}(a:N[i]?=some x)(b:N[j]?=some x):i=j:=by
 obtain⟨g,e⟩:=aab.mp a;obtain⟨f,d⟩:=aab.mp b;exact(List.getElem_inj c).mp (e.trans d.symm)
theorem nY{M:Model}{A:Around}{E:Value->Shared->Prop}{i:Nat}{x:Str}{v:V}{u:Value}{Q:Unit->Shared->Prop}(I:Inv X π σ H s)(hN:X.N.Nodup)(L:X.N[i]?=some x)(B:Loc X.env.scope x)(r:RelV v u)
  (h:∀s',Inv X π (σ.set i (some v)) H s'->(∃a,Heap.SameBut a s.heap s'.heap/\(a=X.env.locals\/X.env.cells.lookup x=some a))->Q () s')(hf:X.fn x=true\/X.env.scope.names.lookup x=some .local:=by first|exact .inl rfl|exact .inr rfl|assumption):wpAny M A (storeName X.env x u) Q E s:=by
 obtain⟨m,hn,hl⟩:=id I.loc;have T:(X.env.scope.kind == .class || (X.env.scope.kind == .module && X.env.locals != X.env.globals))=false:=by rw[I.ok.kind];rfl
 have Yl:i<σ.length:=by rw[I.len];exact(aab.mp L).1
 have WN:=I.WN;have l:∀{a:Addr}{h':Heap},(∃o,s.heap.get? a=some o/\H a=none)->Heap.SameBut a s.heap h'->Uw X.prog X.w H h':=λ{a h'} ha f b ob e=>by
  obtain⟨_,_,C⟩:=ha;refine(I.hok b ob e).stay (λc U t q=>(f.2 c ?_).trans q) (λ_ q=>q) λ_ _ q=>q;rintro rfl;rcases t with rfl|t
  ·rw[C]at e;cases e
  ·rw[C]at t;cases t
 rcases B with F|F
 ·refine wpAny_storeName_local F hn (λh' a1 f=>?_) T;obtain⟨oL,_,_,a0,_⟩:=id hn;refine h _ (I.ok,I.os,I.bare,(λb o e n J B=>?_,λb o e n J B=>?_,I.base.free,λb o e B=>?_,I.base.tups,I.base.frzs,I.base.tbls),(_,a1,λj y Z g D e3=>?_),λy c e=>?_,I.free,I.freeC,λp hp=>?_,l (oL,a0,I.free) f,by simpa using I.len) (_,f,.inl rfl)
  ·exact(f.2 b (aat (aak (Heap.lt_size e) I.ok.above))).trans (I.base.keep b o e n J B)
  ·obtain⟨sl,g⟩:=I.base.slot b o e n J B;exact(sl,(f.2 b (aat (aak (Heap.lt_size e) I.ok.above))).trans g)
  ·obtain⟨o',g⟩:=I.base.there b o e B;exact(o',(f.2 b (aat (aak (Heap.lt_size e) I.ok.above))).trans g)
  ·by_cases G:j=i
   ·subst G;rw[L]at g;cases g;rw[ahb Yl]at D;cases D;exact(u,r,.inl (F,by simp))
   ·rw[ahr (ags G)]at D;obtain⟨u',r',q⟩:=hl j y Z g D e3;exists u',r';rcases q with ⟨k,e⟩|⟨k,c,e,z⟩
    ·refine .inl (k,?_);have:y≠x:=λe=>G (Bw hN g (e ▸ L));simp[this,e]
    ·exact .inr (k,c,e,z.sameBut f (WN y c e))
  ·obtain⟨U,z⟩:=I.cell y c e;exact(U,z.sameBut f (WN y c e))
  ·obtain⟨e,n,W,nf,d⟩:=I.pin p hp;exact((f.2 p.1 W).trans e,n,W,nf,d)
 ·have K:X.fn x=true:=by
   rcases hf with z|z
   ·exact z
   ·rw[z]at F;cases F
  obtain⟨c,t⟩:=I.ok.has x (.inl F);obtain⟨U,z⟩:=I.cell x c t;refine wpAny_storeName_cell I.ok.kind F t z (λh' R f=>?_);obtain⟨oc,O,S⟩:=id z;refine h { s with heap:=h' } (I.ok,I.os,I.bare,(λb o e n J B=>?_,λb o e n J B=>?_,I.base.free,λb o e B=>?_,I.base.tups,I.base.frzs,I.base.tbls),(m,hn.sameBut f (ags (WN x c t)),λj y Z g D e3=>?_),λy Y e=>?_,I.free,I.freeC,λp hp=>?_,l (oc,O,I.freeC x c t) f,by simpa using I.len) (c,f,.inr t)
  ·exact(f.2 b (aat (aak (Heap.lt_size e) (I.ok.cab x c K t)))).trans (I.base.keep b o e n J B)
  ·obtain⟨sl,g⟩:=I.base.slot b o e n J B;exact(sl,(f.2 b (aat (aak (Heap.lt_size e) (I.ok.cab x c K t)))).trans g)
  ·obtain⟨o',g⟩:=I.base.there b o e B;exact(o',(f.2 b (aat (aak (Heap.lt_size e) (I.ok.cab x c K t)))).trans g)
  ·by_cases G:j=i
   ·subst G;rw[L]at g;cases g;rw[ahb Yl]at D;cases D;exact(u,r,.inr (.inl F,c,t,R))
   ·rw[ahr (ags G)]at D;obtain⟨u',r',q⟩:=hl j y Z g D e3;exists u',r';rcases q with q|⟨k,Y,e,z'⟩
    ·exact .inl q
    ·refine .inr (k,Y,e,z'.sameBut f ?_);rintro rfl;exact G (Bw hN g (I.ok.inj _ _ _ e t ▸ L))
  ·by_cases P:Y=c
   ·subst P;exact(_,R)
   ·obtain⟨w2,z2⟩:=I.cell y Y e;exact(w2,z2.sameBut f P)
  ·obtain⟨e,n,W,nf,d⟩:=I.pin p hp;refine((f.2 p.1 ?_).trans e,n,W,nf,d);intro q;rw[q,O]at e;have q':oc=p.2:=aao e;exact d U (by rw[<-q'];exact S)
theorem vP{M:Model}{A:Around}{E:Value->Shared->Prop}{i:Nat}{x:Str}{v:V}{u:Value}{Q:Unit->Shared->Prop}(I:Inv X π σ H s)(e:X.N.Nodup)(c:X.N[i]?=some x)(b:Loc X.env.scope x)(r:RelV v u)
  (h:∀a,Inv X π (σ.set i (some v)) H a->Q () a)(d:X.fn x=true\/X.env.scope.names.lookup x=some .local:=by first|exact .inl rfl|exact .inr rfl|assumption):wpAny M A (storeName X.env x u) Q E s:=
 nY I e c b r (λa f _=>h a f) d
theorem Inv.call'{a:Shared}{ch:List Addr}(I:Inv X π σ H s)(i:a.os=s.os)(u:Un (frs X.stack) ch H H' s.heap a.heap)(d:Uw X.prog X.w H' a.heap)(j:AllBare a.gens)
  (f:∀b∈ch,(b∈X.ex\/X.s₀.heap.objs.size<=b)/\b≠X.env.locals/\(∀x c,X.env.cells.lookup x=some c->c≠b) /\ ∀p∈X.pn++π,p.1≠b):Inv X π σ H' a:=by
 obtain⟨h',k,l,g,h⟩:=a;have e:h=s.os:=i;subst e;exact I.call (g':=k) (t':=g) (d':=l) u d j f
end
abbrev XK:=Value->Option Addr->Hp->Prop
abbrev St:=List (Option V)
abbrev VK:=V->Hp->Prop
abbrev TE:=St->Hp->VK->Prop
abbrev TT:=St->Hp->(Bool->Hp->Prop)->Prop
abbrev TA:=St->Hp->(List V->Hp->Prop)->Prop
structure Ends where
 nx:St->Hp->Prop
 rt:VK
 bk:St->Hp->Prop:=λ_ _=>False
 ct:St->Hp->Prop:=λ_ _=>False
abbrev TS:=Ends->St->Hp->Prop
inductive EP(X:Cx)(π:List (Addr×Obj))(σ:St)(Q:VK)(u:Value)(s':Shared):Prop
 | mk (v H':_) (_:Inv X π σ H' s') (_:RelV v u) (_:Q v H')
def TP(X:Cx)(c:List (Addr×Obj))(σ:St)(Q:Bool->Hp->Prop)(b:Bool)(d:Shared):Prop:=∃a,Inv X c σ a d/\Q b a
inductive AP(X:Cx)(π:List (Addr×Obj))(σ:St)(Q:List V->Hp->Prop)(us:List Value)(s':Shared):Prop
 | mk (vs H':_) (_:Inv X π σ H' s') (_:Vals vs us) (_:Q vs H')
def SP(X:Cx)(c:List (Addr×Obj))(D:Ends)(f:Flow)(d:Shared):Prop:=
 match f with
 | .next=>∃a b,Inv X c a b d/\D.nx a b
 | .brk=>∃a b,Inv X c a b d/\D.bk a b
 | .cont=>∃a b,Inv X c a b d/\D.ct a b
 | .ret u=>∃v a b,Inv X c a b d/\RelV v u/\D.rt v b
def PE(X:Cx)(e:Expr)(t:TE):Prop:=
 ∀(b:List (Addr×Obj)) (s:Shared) (a:St) (H:Hp) (Q:VK),Inv X b a H s->t a H Q->wpAny (model X.prog X.w) X.A (eval e X.env) (EP X b a Q) X.xe s
def PT(X:Cx)(e:Expr)(t:TT):Prop:=
 ∀(b:List (Addr×Obj)) (s:Shared) (a:St) (H:Hp) (Q:Bool->Hp->Prop),Inv X b a H s->t a H Q->wpAny (model X.prog X.w) X.A (isTrue e X.env (eval e X.env)) (TP X b a Q) X.xe s
def PW(X:Cx)(e:Expr)(t:TT):Prop:=
 ∀(a:Sem Value) (c:List (Addr×Obj)) (s:Shared) (b:St) (H:Hp) (Q:Bool->Hp->Prop),Inv X c b H s->t b H Q->wpAny (model X.prog X.w) X.A (isTrue e X.env a) (TP X c b Q) X.xe s
theorem PW.pt{X:Cx}{e:Expr}{t:TT}(h:PW X e t):PT X e t:=h _
def PA(X:Cx)(c:List Expr)(t:TA):Prop:=
 ∀(pos:Pos) (b:List (Addr×Obj)) (s:Shared) (a:St) (H:Hp) (Q:List V->Hp->Prop),Inv X b a H s->t a H Q->wpAny (model X.prog X.w) X.A (spliced (backTo pos (starEach c X.env))) (AP X b a Q) X.xe s
def PS(X:Cx)(st:Stmt)(t:TS):Prop:=
 ∀(b:List (Addr×Obj)) (s:Shared) (a:St) (H:Hp) (D:Ends),Inv X b a H s->t D a H->wpAny (model X.prog X.w) X.A (exec st X.env) (SP X b D) X.xe s
def Vf(X:Cx)(st:List Stmt)(t:TS):Prop:=
 ∀(b:List (Addr×Obj)) (s:Shared) (a:St) (H:Hp) (D:Ends),Inv X b a H s->t D a H->wpAny (model X.prog X.w) X.A (execs st X.env) (SP X b D) X.xe s
theorem Uh{t:Sem J}{Q b:J->Shared->Prop}{M:Model}{A:Around}{E:Value->Shared->Prop}{s:Shared}(h:wpAny M A t Q E s)(c:∀a s,Q a s->b a s):wpAny M A t b E s:=wpAny_mono h c λ_ _ x=>x
section
variable{X:Cx}
theorem bin{a b:Expr}{k j:TE}(t:PE X a k)(r:PE X b j){s:Shared}{σ:St}{H:Hp}{R:V->V->Hp->Prop}(I:Inv X π σ H s)(h:k σ H λx i=>j σ i λy c=>R x y c)
  {Q:J->Shared->Prop}{f:Value->Value->Sem J}
  (q:∀v u g x y c,Inv X π σ c g->RelV x v->RelV y u->R x y c->wpAny (model X.prog X.w) X.A (f v u) Q X.xe g):
  wpAny (model X.prog X.w) X.A (eval a X.env) (λv e=>wpAny (model X.prog X.w) X.A (eval b X.env) (λu d=>wpAny (model X.prog X.w) X.A (f v u) Q X.xe d) X.xe e) X.xe s:=by
 refine Uh (t π s σ H _ I h) λv l ⟨x,i,B,n,p⟩=>?_;refine Uh (r π l σ i _ B p) λu g ⟨y,c,z,m,o⟩=>?_;exact q v u g x y c z n m o
inductive Qv(i:Nat)(σ:St)(H:Hp)(Q:VK):Prop
 | mk (v:_) (_:σ[i]?=some (some v)) (_:Q v H)
def tC(v:V):TE:=λ_ H Q=>Q v H
theorem Gv{i:Nat}{x:Str}{pos:Pos}(t:X.N[i]?=some x)(n:Yj X.env.scope x)(hd:(x == ("__debug__" : Str))=false:=by decide)(f:(x == ("__classdict__" : Str))=false:=by decide):PE X (.Name x pos) (Qv i):=by
 intro k s j H Q I h;obtain⟨v,e,h⟩:=h;obtain⟨m,o,q⟩:=I.loc;obtain⟨u,r,l⟩:=q i x v t e n;have d:EP X k j Q u s:=(v,H,I,r,h);rcases l with ⟨b,p⟩|⟨b,c,g,a⟩
 ·exact wpAny_Name (wpAny_loadName_local I.ok.kind b o p d) hd
 ·rcases b with b|b
  ·exact wpAny_Name (wpAny_loadName_cell I.ok.kind b g a d) hd
  ·exact wpAny_Name (wpAny_loadName_free I.ok.kind b g a d f) hd
theorem ao{i j pos}:PE X (.Constant (.int i) j pos) (tC (.int i)):=λ_ _ _ H _ I h=>wpAny_Constant_int (.int i,H,I.tok _,(_,rfl),h)
theorem sX{b j pos}:PE X (.Constant (.bool b) j pos) (tC (.bl b)):=λ_ _ _ H _ I h=>Constant_bool (.bl b,H,I,rfl,h)
theorem eV{j pos}:PE X (.Constant .none j pos) (tC .non):=λ_ _ _ H _ I h=>Constant_none (.non,H,I,rfl,h)
theorem rD{x j pos}:PE X (.Constant (.str x) j pos) (tC (.str x)):=λ_ _ _ H _ I h=>Calls.Constant_str (.str x,H,I.tok _,(_,rfl),h)
def Gl(X:Cx)(x:Str):Prop:=X.env.kindOf x=some .globalImplicit
theorem Ao{E:Value->Shared->Prop}{s:Shared}{σ:St}{H:Hp}{x:Str}{u:Value}{pos:Pos}{Q:Value->Shared->Prop}(I:Inv X π σ H s)(b:Gl X x)(a:X.mg x=some u)(h:Q u s)
  (hd:(x == ("__debug__" : Str))=false:=by decide):wpAny (model X.prog X.w) X.A (eval (.Name x pos) X.env) Q E s:=
 Calls.Name_function_global I.ok.kind b (Calls.loadGlobal_global (by rw[I.ok.glob];exact I.mod.glob.keeps I.bk) a h) hd
theorem eO{E:Value->Shared->Prop}{s:Shared}{σ:St}{H:Hp}{x:Str}{u:Value}{pos:Pos}{Q:Value->Shared->Prop}(I:Inv X π σ H s)(d:Gl X x)(c:X.mg x=none)(a:bootBuiltins x=some u)(h:Q u s)
  (b:x ≠ "__name__":=by decide)(hd:(x == ("__debug__" : Str))=false:=by decide):wpAny (model X.prog X.w) X.A (eval (.Name x pos) X.env) Q E s:=by
 obtain⟨g,f,e⟩:=I.mod.blt;exact Calls.Name_function_global I.ok.kind d (Calls.loadGlobal_builtin (by rw[I.ok.glob];exact I.mod.glob.keeps I.bk) c (by rw[I.ok.blt];exact f.keeps I.bk) ((e x b).trans a) h) hd
theorem bD{x:Str}{v:V}{u:Value}{pos:Pos}(b:Gl X x)(a:X.mg x=some u)(r:RelV v u)(hd:(x == ("__debug__" : Str))=false:=by decide):PE X (.Name x pos) (tC v):=
 λ_ _ _ H _ I h=>Ao I b a (v,H,I,r,h) hd
theorem zV{x:Str}{v:V}{u:Value}{pos:Pos}(d:Gl X x)(c:X.mg x=none)(a:bootBuiltins x=some u)(r:RelV v u)(b:x ≠ "__name__":=by decide)(hd:(x == ("__debug__" : Str))=false:=by decide):PE X (.Name x pos) (tC v):=
 λ_ _ _ H _ I h=>eO I d c a (v,H,I,r,h) b hd
variable{a:Expr}{ta tb:TE}{pos:Pos}
def PC(X:Cx)(g:CmpOp)(a b:Expr)(t:TE):Prop:=
 ∀(f:List (Addr×Obj)) (s:Shared) (e:St) (H:Hp) (Q:VK),Inv X f e H s->t e H Q ->
  wpAny (model X.prog X.w) X.A (eval a X.env) (λv d=>wpAny (model X.prog X.w) X.A (eval b X.env) (λu c=>wpAny (model X.prog X.w) X.A (compareOp g v u) (EP X f e Q) X.xe c) X.xe d) X.xe s
theorem Lk(b:Expr){c:CmpOp}(h:c ≠ .In)(d:c ≠ .NotIn):behindInMarks c b=false:=by
 have f:(c == CmpOp.In)=false:=by cases c <;> first|rfl|exact absurd rfl h
 have e:(c == CmpOp.NotIn)=false:=by cases c <;> first|rfl|exact absurd rfl d
 cases b <;> simp[behindInMarks,f,e]
def OD(Q:VK):VK:=λx c=>Q (.bl (decide (x=.non))) c
def Th(ta:TE):TE:=λ c H Q=>ta c H (OD Q)
def K5(Q:VK):VK:=λx c=>Q (.bl (!decide (x=.non))) c
def Sv(ta:TE):TE:=λ c H Q=>ta c H (K5 Q)
theorem RelV.none_iff{x:V}{v:Value}(r:RelV x v):(v == Value.none)=decide (x=.non):=by
 cases x with
 | non=>cases r;rfl
 | bl _=>cases r;rfl
 | int _=>obtain⟨t,rfl⟩:=r;rfl
 | str _=>obtain⟨t,rfl⟩:=r;rfl
 | VJ _=>obtain⟨t,rfl⟩:=r;rfl
 | flt _=>obtain⟨t,rfl⟩:=r;rfl
 | ref _=>cases r;rfl
 | ty _=>cases r;rfl
theorem lM{j pos'}(g:PE X a ta):PC X .Is a (.Constant .none j pos') (Th ta):=by
 intro d s c H Q I h;refine Uh (g d s c H _ I h) λv l ⟨x,k,i,e,f⟩=>?_;exact Constant_none (is_none_gen (.bl _,k,i,by rw[e.none_iff];rfl,f))
theorem Al{j pos'}(g:PE X a ta):PC X .IsNot a (.Constant .none j pos') (Sv ta):=by
 intro d s c H Q I h;refine Uh (g d s c H _ I h) λv l ⟨x,k,i,e,f⟩=>?_;exact Constant_none (isnot_none_gen (.bl _,k,i,by rw[e.none_iff];rfl,f))
inductive Tg(Q:Bool->Hp->Prop)(x:V)(H1:Hp):Prop
 | mk (c:_) (_:x=.bl c) (_:Q c H1)
def tB(t:TE):TT:=λ c H Q=>t c H (Tg Q)
theorem fQ{e:CmpOp}{t:TE}(h:PC X e a b t)(f:behindInMarks e b=false:=by first|exact Lk _ (by decide) (by decide) | rfl):PT X (.Compare a [e] [b] pos) (tB t):=by
 intro i s g H Q I l;refine wpAny_isTrue_Compare1 (Uh (h i s g H _ I l) λv w f=>Uh f λu r m=>Uh m λc p ⟨x,o,n,j,k⟩=>?_) f;obtain⟨d,rfl,q⟩:=k;cases j;exact wpAny_truthy_bool (o,n,q)
theorem qI{e:Expr}{t:TE}(h:PE X e t)(l:∀c,isTrue e X.env c=(do let v <-c;standAt e.pos;holding [v] (truthy v)):=by intro _;rfl):PT X e (tB t):=by
 intro g s f H Q I k;refine isTrue_plain (Uh (h g s f H _ I k) λv o ⟨x,n,m,i,j⟩=>?_) (l _);obtain⟨d,rfl,q⟩:=j;cases i;exact wpAny_truthy_bool (n,m,q)
variable{tA Xr:TT}{rest:List Expr}
def TY(t u:TT):TT:=λ d H Q=>t d H λc e=>if c=true then u d e Q else Q false e
def tOr(t u:TT):TT:=λ d H Q=>t d H λc e=>if c=true then Q true e else u d e Q
def Tq(t:TT):TT:=λ d H Q=>t d H λc e=>Q (!c) e
theorem ir(g:PT X a tA):PW X (.BoolOp .And [a] pos) tA:=by
 intro i f s d H Q I h;refine isTrue_and (Uh (g f s d H Q I h) λc j e=>?_);cases c with
 | true=>exact isTrue_and_nil e
 | false=>exact e
theorem kW(g:PT X a tA):PW X (.BoolOp .Or [a] pos) tA:=by
 intro i f s d H Q I h;refine isTrue_or (Uh (g f s d H Q I h) λc j e=>?_);cases c with
 | false=>exact isTrue_or_nil e
 | true=>exact e
theorem iD(m:PT X a tA)(l:PW X (.BoolOp .And (b::rest) pos) Xr):PW X (.BoolOp .And (a::b::rest) pos) (TY tA Xr):=by
 intro j e s d H Q I h;refine isTrue_and (Uh (m e s d H _ I h) λc k ⟨i,g,f⟩=>?_);cases c with
 | true=>exact l j e k d i Q g f
 | false=>exact(i,g,f)
theorem lY(m:PT X a tA)(l:PW X (.BoolOp .Or (b::rest) pos) Xr):PW X (.BoolOp .Or (a::b::rest) pos) (tOr tA Xr):=by
 intro j e s d H Q I h;refine isTrue_or (Uh (m e s d H _ I h) λc k ⟨i,g,f⟩=>?_);cases c with
 | true=>exact(i,g,f)
 | false=>exact l j e k d i Q g f
theorem my(f:PT X a tA):PT X (.UnaryOp .Not a pos) (Tq tA):=by
 intro e s d H Q I h;exact isTrue_not (f e s d H (λc g=>Q (!c) g) I h)
inductive Ny(tb:TE)(σ:St)(Q:VK)(x:V)(H1:Hp):Prop
 | mk (c:_) (_:x=.bl c) (_:if c=true then tb σ H1 Q else Q (.bl false) H1)
def R0(ta tb:TE):TE:=λ c H Q=>ta c H (Ny tb c Q)
inductive N6(Q:VK)(x:V)(H1:Hp):Prop
 | mk (c:_) (_:x=.bl c) (_:Q (.bl (!c)) H1)
def RP(ta:TE):TE:=λ c H Q=>ta c H (N6 Q)
theorem Ep{op}{t:TE}(h:PE X a t):PE X (.BoolOp op [a] pos) t:=λ d s c H Q I e=>BoolOp_one (h d s c H Q I e)
theorem Ei(m:PE X a ta)(l:PE X (.BoolOp .And (b::rest) pos) tb):PE X (.BoolOp .And (a::b::rest) pos) (R0 ta tb):=by
 intro f s e H Q I h;refine BoolOp_and (Uh (m f s e H _ I h) λv j ⟨x,i,g,k,d⟩=>?_);obtain⟨c,rfl,d⟩:=d;cases k;refine wpAny_truthy_bool ?_;cases c with
 | true=>exact l f j e i Q g d
 | false=>exact(.bl false,i,g,rfl,d)
theorem QD(i:PE X a ta):PE X (.UnaryOp .Not a pos) (RP ta):=by
 intro f s e H Q I h;refine UnaryOp_ (Uh (i f s e H _ I h) λv l ⟨x,k,j,g,d⟩=>?_);obtain⟨c,rfl,d⟩:=d;cases g;exact not_of (wpAny_truthy_bool (.bl (!c),k,j,rfl,d))
def tIf(t:TT)(ta tb:TE):TE:=λ d H Q=>t d H λc e=>if c=true then ta d e Q else tb d e Q
theorem LC{c:Expr}(l:PT X c tA)(n:PE X a ta)(m:PE X b tb):PE X (.IfExp c a b pos) (tIf tA ta tb):=by
 intro f s e H Q I h;refine wpAny_IfExp (Uh (l f s e H _ I h) λd g ⟨k,j,i⟩=>?_);cases d with
 | true=>exact n f g e k Q j i
 | false=>exact m f g e k Q j i
end
def My(K:PySem.W.Frag)(H:Hp)(a:Addr)(xs:List V):Prop:=
 Rd H a (.lst xs) \/
  ∃(o:Obj) (b:Array Value) (n:Nat),K.lookup a=some o/\o.cls=.type "list" /\ o.dict=none/\o.data=.seq b n/\b.size<=sizeLine/\Vals xs b.toList
def Uj(K:PySem.W.Frag)(H:Hp)(a:Addr)(xs:List V):Prop:=
 Rd H a (.tup xs) \/
  ∃(o:Obj) (b:Array Value) (n:Nat),K.lookup a=some o/\o.cls=.type "tuple" /\ o.data=.seq b n/\b.size<=sizeLine/\Vals xs b.toList
def T5:Value->Option V
 | .none=>some .non
 | .bool b=>some (.bl b)
 | .int i _=>some (.int i)
 | .str x _=>some (.str x)
 | .bytes b _=>some (.VJ b)
 | .float b _=>some (.flt b)
 | .ref a=>some (.ref a)
 | .type n=>some (.ty n)
 | _=>none
theorem RelV.abs{x:V}{u:Value}(r:RelV x u):T5 u=some x:=by
 cases x with
 | non=>cases r;rfl
 | bl _=>cases r;rfl
 | int _=>obtain⟨t,rfl⟩:=r;rfl
 | str _=>obtain⟨t,rfl⟩:=r;rfl
 | VJ _=>obtain⟨t,rfl⟩:=r;rfl
 | flt _=>obtain⟨t,rfl⟩:=r;rfl
 | ref _=>cases r;rfl
 | ty _=>cases r;rfl
theorem RelV.inj{x y:V}{u:Value}(r:RelV x u)(q:RelV y u):x=y:=aao (r.abs.symm.trans q.abs)
theorem Vals.inj:∀{xs ys:List V}{a:List Value},Vals xs a->Vals ys a->xs=ys
 | _,_,_,.nil,.nil=>rfl
 | _,_,_,.cons r t,.cons c b=>by rw[r.inj c,Vals.inj t b]
section
variable{X:Cx}{σ:St}{H:Hp}{xs ys:List V}
theorem My.of(h:H a=some (.lst xs)):My K H a xs:=.inl (.inl h)
theorem Uj.of(h:H a=some (.tup xs)):Uj K H a xs:=.inl (.inl h)
theorem Inv.list(I:Inv X π σ H s)(h:My X.K H a xs):∃b:List Value,Vals xs b/\PlainL s.heap a b.toArray/\xs.length<=sizeLine:=by
 rcases h with h|⟨o,b,n,d,f,hd,c,g,r⟩
 ·obtain⟨z,b,n,r,e⟩:=h.ok I.hok;exact(b,r,(_,n,e,rfl,rfl,rfl),z)
 ·exists b.toList,r,(o,n,I.Vi a o d,f,hd,by simpa using c);have e:=r.length;simp only[aae]at e;lia
theorem Inv.tuple(I:Inv X π σ H s)(h:Uj X.K H a xs):∃b:List Value,Vals xs b/\IsTup s.heap a b.toArray/\xs.length<=sizeLine:=by
 rcases h with h|⟨o,b,n,d,f,c,g,r⟩
 ·obtain⟨z,b,r,p⟩:=h.ok I.hok;exact(b,r,p,z)
 ·exists b.toList,r,(o,I.Vi a o d,f,n,by simpa using c);have e:=r.length;simp only[aae]at e;lia
theorem Inv.list_inj(I:Inv X π σ H s)(h:My X.K H a xs)(h':My X.K H a ys):xs=ys:=by
 obtain⟨c,r,⟨o,n,e,_,_,d⟩,_⟩:=I.list h;obtain⟨b,i,⟨k,l,f,_,_,g⟩,_⟩:=I.list h';rw[e]at f;cases f;rw[d]at g;injection g with j _
 have:c=b:=by simpa using congrArg ajo j
 subst this;exact r.inj i
theorem Inv.tuple_inj(I:Inv X π σ H s)(h:Uj X.K H a xs)(h':Uj X.K H a ys):xs=ys:=by
 obtain⟨c,r,⟨o,e,_,n,d⟩,_⟩:=I.tuple h;obtain⟨b,i,⟨k,f,_,l,g⟩,_⟩:=I.tuple h';rw[e]at f;cases f;rw[d]at g;injection g with j _
 have:c=b:=by simpa using congrArg ajo j
 subst this;exact r.inj i
end
abbrev Cx.wish(X:Cx)(E:Value->Shared->Prop):Cx:={ X with xe:=E }
abbrev Cx.W6(X:Cx):Cx:=X.wish λ_ _=>False
theorem Cx.Ok.wish{X:Cx}(a:X.Ok)(E:Value->Shared->Prop):(X.wish E).Ok:=
 (a.mod,a.kind,a.glob,a.blt,a.above,a.inj,a.has,a.cab,a.hd,a.frames,a.WM,a.exf,a.bs,a.VL,a.noex,a.exfs,a.funs,a.V8)
theorem Cx.Ok.unwish{X:Cx}{E:Value->Shared->Prop}(a:(X.wish E).Ok):X.Ok:=
 (a.mod,a.kind,a.glob,a.blt,a.above,a.inj,a.has,a.cab,a.hd,a.frames,a.WM,a.exf,a.bs,a.VL,a.noex,a.exfs,a.funs,a.V8)
section
variable{X:Cx}{σ:St}{H:Hp}
theorem Inv.wish(I:Inv X π σ H s)(E:Value->Shared->Prop):Inv (X.wish E) π σ H s:=(I.ok.wish E,I.os,I.bare,I.base,I.loc,I.cell,I.free,I.freeC,I.pin,I.hok,I.len)
theorem Inv.unwish(I:Inv (X.wish E) π σ H s):Inv X π σ H s:=(I.ok.unwish,I.os,I.bare,I.base,I.loc,I.cell,I.free,I.freeC,I.pin,I.hok,I.len)
theorem SP.unwish{D:Ends}{f:Flow}{c:Shared}(h:SP (X.wish E) π D f c):SP X π D f c:=by
 cases f with
 | next=>obtain⟨a,b,I,q⟩:=h;exact(a,b,I.unwish,q)
 | brk=>obtain⟨a,b,I,q⟩:=h;exact(a,b,I.unwish,q)
 | cont=>obtain⟨a,b,I,q⟩:=h;exact(a,b,I.unwish,q)
 | ret u=>obtain⟨v,a,b,I,r,q⟩:=h;exact(v,a,b,I.unwish,r,q)
theorem Vf.W6{st:List Stmt}{t:TS}(h:Vf X.W6 st t):Vf X st t:=λ π s σ H D I a =>
 wpAny_mono (h π s σ H D (I.wish _) a) (λ_ _ q=>q.unwish) λ_ _ z=>False.elim z
end
section
variable{X:Cx}{rest:List Stmt}{t u:TS}{te:TE}{pos:Pos}
def Np:TS:=λD a H=>D.nx a H
def Ue(t u:TS):TS:=λD a H=>t { D with nx:=u D } a H
theorem aM:Vf X [] Np:=λ_ _ a H _ I h=>wpAny_execs_nil (a,H,I,h)
theorem aj(i:PS X st t)(g:Vf X rest u):Vf X (st::rest) (Ue t u):=by
 intro b s c H D I h;refine wpAny_execs_cons (Uh (i b s c H { D with nx:=u D } I h) λf d q=>?_);cases f with
 | next =>
  obtain⟨a,k,j,q⟩:=q;exact g b d a k D j q
 | ret v=>exact q
 | brk=>exact q
 | cont=>exact q
theorem aq(c:PS X st t):Vf X [st] t:=by
 intro b s a H D I h;refine wpAny_execs_cons (Uh (c b s a H D I h) λf d q=>?_);cases f with
 | next=>exact wpAny_execs_nil q
 | ret v=>exact q
 | brk=>exact q
 | cont=>exact q
theorem Inv.quiet{σ:St}{H:Hp}{s:Shared}(I:Inv X π σ H s):interactive X.env=false:=by simp[interactive,I.ok.kind]
def MF(D:Ends)(σ:St):VK:=λ_ a=>D.nx σ a
def RM(te:TE):TS:=λD a H=>te a H (MF D a)
theorem bu(f:PE X e te)(d:swapsWith e none pos.line X.env=pure false:=by rfl):PS X (.Expr e pos) (RM te):=by
 intro b s a H D I h;exact wpAny_Expr_any (Uh (f b s a H _ I h) λv j ⟨x,i,g,k,c⟩=>(a,i,g,c)) I.quiet d
def Td(te:TE):TS:=λD a H=>te a H D.rt
theorem aD(f:PE X e te):PS X (.Return (some e) pos) (Td te):=by
 intro b s a H D I h;exact wpAny_Return_some (Uh (f b s a H _ I h) λv j ⟨x,i,g,c,d⟩=>(x,a,i,g,c,d))
def Tv(c:TT)(t u:TS):TS:=λD a H=>c a H λb d=>if b=true then t D a d else u D a d
theorem aX{c:Expr}{a b:List Stmt}{i:TT}(n:PT X c i)(p:Vf X a t)(o:Vf X b u):PS X (.If c a b pos) (Tv i t u):=by
 intro g s f H D I h;refine wpAny_If (Uh (n g s f H _ I h) λd j ⟨m,l,k⟩=>?_);cases d with
 | true=>exact p g j f m D l k
 | false=>exact o g j f m D l k
def QG:TS:=λ_ _ _=>False
theorem bY:PS X st QG:=λ_ _ _ _ _ _ h=>h.elim
end
abbrev TG:=V->St->Hp->(St->Hp->Prop)->Prop
abbrev W7:=List V->St->Hp->(St->Hp->Prop)->Prop
def PG(X:Cx)(a:Expr)(t:TG):Prop:=
 ∀(d:List (Addr×Obj)) (s:Shared) (c:St) (H:Hp) (v:V) (u:Value) (Q:St->Hp->Prop),Inv X d c H s->RelV v u->t v c H Q ->
  wpAny (model X.prog X.w) X.A (assign a X.env u) (λ_ f=>∃b e,Inv X d b e f/\Q b e) X.xe s
def Ym(X:Cx)(g:List Expr)(t:W7):Prop:=
 ∀(c:List (Addr×Obj)) (s:Shared) (b:St) (H:Hp) (d:List V) (e:List Value) (Q:St->Hp->Prop),Inv X c b H s->Vals d e->t d b H Q ->
  wpAny (model X.prog X.w) X.A (assignInOrder ((assignEach g X.env).map (·.2)) e) (λ_ h=>∃a f,Inv X c a f h/\Q a f) X.xe s
abbrev Km:=V->V->V->Hp->(Hp->Prop)->Prop
def SN(X:Cx)(t:Km):Prop:=
 ∀(b:List (Addr×Obj)) (s:Shared) (a:St) (H:Hp) (o i v:V) (c d u:Value) (Q:Hp->Prop),Inv X b a H s->RelV o c->RelV i d->RelV v u->t o i v H Q ->
  wpAny (model X.prog X.w) X.A (setItem c d u) (λ_ f=>∃e,Inv X b a e f/\Q e) X.xe s
section
variable{X:Cx}{pos:Pos}
def gB(i:Nat):TG:=λv a H Q=>Q (a.set i (some v)) H
theorem lg{i:Nat}{x:Str}(d:X.N.Nodup)(b:X.N[i]?=some x)(a:Loc X.env.scope x)(c:X.fn x=true\/X.env.scope.names.lookup x=some .local:=by first|exact .inl rfl|exact .inr rfl|assumption):PG X (.Name x pos) (gB i):=by
 intro g s f H v u Q I r h;exact wpAny_assign_Name (vP I d b a r (λj e=>(_,H,e,h)) c)
theorem aW{x:Str}(i:Nat)(d:X.N.Nodup)(b:X.N[i]?=some x:=by rfl)(a:Loc X.env.scope x:=by exact ag1 rfl)(c:X.fn x=true\/X.env.scope.names.lookup x=some .local:=by first|exact .inl rfl|exact .inr rfl|assumption):PG X (.Name x pos) (gB i):=lg d b a c
def R3:W7:=λb a H Q=>b=[]/\Q a H
inductive Ng(t:TG)(u:W7)(vs:List V)(σ:St)(H:Hp)(Q:St->Hp->Prop):Prop
 | mk (v r:_) (_:vs=v::r) (_:t v σ H λ σ' H'=>u r σ' H' Q)
theorem jl:Ym X [] R3:=by
 intro b s a H c d Q I r h;obtain⟨e,h⟩:=h;subst e;cases r;exact assignInOrder_nil (a,H,I,h)
theorem bW{e:Expr}{t:TG}{u:W7}(k:PG X e t)(j:Ym X B u)
  (i:(assignEach (e::B) X.env).map (·.2)=assign e X.env::(assignEach B X.env).map (·.2):=by rfl):Ym X (e::B) (Ng t u):=by
 intro b s c H o q Q I r h;obtain⟨v,p,l,h⟩:=h;subst l;cases r with
 | cons r f =>
  rw[i];refine assignInOrder_cons (Uh (k b s c H _ _ _ I r h) λ_ d ⟨a,n,m,g⟩=>?_);exact j b d a n _ _ Q m f g
inductive R4(K:PySem.W.Frag)(n:Nat)(t:W7)(v:V)(σ:St)(H:Hp)(Q:St->Hp->Prop):Prop
 | mk (a xs:_) (_:v=.ref a) (_:Uj K H a xs) (_:xs.length=n) (_:t xs σ H Q)
theorem nA{k:Nat}{t:W7}{n:Nat}(w:X.calm=true)(h:Ym X B t)
  (p:(assignEach B X.env).length=n:=by rfl)(d:(assignEach B X.env).findIdx? (·.1)=none:=by rfl):PG X (.Tuple B k pos) (R4 X.K n t):=by
 intro g s f H v u Q I r c;obtain⟨a,j,y,m,q,c⟩:=c;subst y;cases r;obtain⟨A,i,ht,C⟩:=I.tuple m;refine assign_Tuple_tuple (I.ok.hd w) ht (by simp[p,<-q,i.length]) d λx l=>?_;have z:Inv X g f H { s with heap:=x }:=I.kept (t':=s.toks) λb o e=>l b o (aat (Heap.lt_size e)) e;exact h g _ f H j _ Q z (by simpa using i) c
def Nv(t:Km)(v:V)(σ:St)(Q:St->Hp->Prop)(o:V):VK:=λi a=>t o i v a (Q σ)
def Pa(a:TE)(t:Km)(v:V)(σ:St)(Q:St->Hp->Prop):VK:=λo b=>a σ b (Nv t v σ Q o)
def T7(b c:TE)(t:Km):TG:=λv a H Q=>b a H (Pa c t v a Q)
theorem Rf{o i:Expr}{e f:TE}{t:Km}(w:PE X o e)(z:PE X i f)(q:SN X t)
  (A:∀v,assign (.Subscript o i pos) X.env v=(do
   let a <-holding [v] (eval o X.env)
   let b <-holding [v,a] (eval i X.env)
   standAt pos
   holding [v,a,b] (setItem a b v)
   release [v,a,b] []):=by intro _;rfl):PG X (.Subscript o i pos) (T7 e f t):=by
 intro d s c H v u Q I r h;rw[A];refine wpAny_bind (wpAny_holding (Uh (w d s c H _ I h) λa j ⟨x,G,D,l,p⟩=>?_));refine wpAny_bind (wpAny_holding (Uh (z d j c G _ D p) λb g ⟨y,F,C,k,n⟩=>?_));refine wpAny_bind (wpAny_standAt (wpAny_bind (wpAny_holding (Uh (q d g c F x y v a b u _ C l k r n) λ_ J ⟨E,B,m⟩=>?_))));exact wpAny_release (c,E,B,m)
def NZ(g:TG)(D:Ends)(σ:St):VK:=λx a=>g x σ a D.nx
def Ib(b:TE)(g:TG):TS:=λD a H=>b a H (NZ g D a)
theorem Li{e:Expr}{c:TE}{g:TG}(m:PE X e c)(l:PG X o g)(k:swapsWithSole [o] e pos.line X.env=pure false:=by rfl)(j:swappedStores [o] e X.env=pure none:=by rfl)
  (n:(assignEach [o] X.env).map (·.2)=[assign o X.env]:=by rfl):PS X (.Assign [o] e pos) (Ib c g):=by
 intro b s a H D I h;refine wpAny_Assign_stores (Uh (m b s a H _ I h) λv d ⟨x,r,p,f,i⟩=>?_) k j;rw[n];exact Uh (l b d a r x v _ p f i) λ_ t q=>q
theorem rQ{i:Nat}{x:Str}{e:Expr}{a:TE}(n:X.N.Nodup)(k:X.N[i]?=some x)(g:Loc X.env.scope x)(m:PE X e a)(j:swapsWith e (some (.Name x p)) pos.line X.env=pure false:=by rfl)(l:X.fn x=true\/X.env.scope.names.lookup x=some .local:=by first|exact .inl rfl|exact .inr rfl|assumption):
  PS X (.Assign [.Name x p] e pos) (Ib a (gB i)):=by
 intro c s b H D I h;refine wpAny_Assign_Name (Uh (m c s b H _ I h) λv u ⟨y,r,q,d,f⟩=>?_) j;exact vP q n k g d (λt o=>(_,r,o,f)) l
theorem aA{x:Str}{e:Expr}{a:TE}(i:Nat)(h:X.N.Nodup)(g:PE X e a)(d:X.N[i]?=some x:=by rfl)(b:Loc X.env.scope x:=by exact ag1 rfl)(c:swapsWith e (some (.Name x p)) pos.line X.env=pure false:=by rfl)(f:X.fn x=true\/X.env.scope.names.lookup x=some .local:=by first|exact .inl rfl|exact .inr rfl|assumption):
  PS X (.Assign [.Name x p] e pos) (Ib a (gB i)):=rQ h d b g c f
end
section
variable{X:Cx}{pos:Pos}
def Qq(c:TT)(h:TS):TS:=λD a H=>∃W:Nat->St->Hp->Prop,(∃m,W m a H) /\ ∀m a H,W m a H ->
 c a H λb f=>if b=true then ∃N:St->Hp->Prop,(∀d g,N d g -> ∃e,e<m/\W e d g)/\h { D with nx:=N,ct:=N,bk:=D.nx } a f else D.nx a f
theorem nG{c:Expr}{e:List Stmt}{u:TT}{x:TS}(y:PassesOwn (model X.prog X.w) X.A X.env X.xe)(Q:PT X c u)(R:Vf X e x):PS X (.While c e [] pos) (Qq u x):=by
 intro m s G H D I h;obtain⟨W,⟨P,K⟩,j⟩:=h;refine wpAny_While (codeAny_whileLoop (λn O=>∃i F,Inv X m i F O/\W n i F) ?_ P (G,H,I,K));rintro n M ⟨d,E,S,J⟩;refine wpAny_passesOwn y (Uh (Q m M d E _ S (j n d E J)) λb L ⟨C,B,l⟩=>?_);cases b with
 | true =>
  obtain⟨N,z,l⟩:=l;rw[if_pos rfl];refine wpAny_passesOwn y (Uh (R m L d C _ B l) λf T k=>?_);cases f with
  | next =>
   obtain⟨a,g,t,p⟩:=k;obtain⟨q,r,o⟩:=z a g p;exact(q,r,a,g,t,o)
  | cont =>
   obtain⟨a,g,t,p⟩:=k;obtain⟨q,r,o⟩:=z a g p;exact(q,r,a,g,t,o)
  | brk=>exact k
  | ret v=>exact k
 | false =>
  rw[if_neg aap];exact wpAny_execs_nil (d,C,B,l)
end
structure It where
 go:Nat->Hp->Prop
 Vv:Nat->Hp->V->Hp->Prop
 stop:Nat->Hp->Prop
def gP(X:Cx)(a:List (Addr×Obj))(H:Hp)(b:Addr):Prop:=
 H b=none/\b≠X.env.locals/\b∉X.fs/\(b∈X.ex\/X.s₀.heap.objs.size<=b)/\(∀x c,X.env.cells.lookup x=some c->c≠b) /\ ∀p∈X.pn++a,p.1≠b
theorem Inv.fpOk{X:Cx}{σ:St}{H H':Hp}{s:Shared}{b:Addr}(I:Inv X π σ H s)(a:s.heap.objs.size<=b)(f:H' b=none):gP X π H' b:=by
 refine(f,ahL (aak I.lt a),I.nofs a,.inr (age I.sz a),λx c e z=>?_,λp d z=>?_)
 ·obtain⟨v,q⟩:=I.cell x c e;exact absurd (aak q.lt (by rw[z];exact a)) (agf _)
 ·exact absurd (aak (Heap.lt_size (I.pin p d).1) (by rw[z];exact a)) (agf _)
structure Turn(P:Program)(w:World)(K:PySem.W.Frag)(tg:Expr)(J:It)(fp:List Addr)(it:Addr)(tn:Nat->Heap->Prop):Prop where
 mem:it∈fp
 obj:∀i h,tn i h -> ∀b∈fp,∃o,h.get? b=some o /\ ∀v,o.data ≠ .cell v
 keep:∀i h h',tn i h->(∀b∈fp,∀o,h.get? b=some o->h'.get? b=some o)->tn i h'
 item:∀(X:Cx),X.prog=P->X.w=w->X.K=K->X.calm=true -> ∀(i:Nat) (π:List (Addr×Obj)) (s:Shared) (σ:St) (H:Hp) (E:Value->Shared->Prop),Inv X π σ H s->(∀b∈fp,gP X π H b)->tn i s.heap->J.go i H ->
  wpAny (model P w) X.A (pyNext (.ref it)) (λr s1=>∃u,r=some u /\
   wpAny (model P w) X.A (letOwnedTupleGo tg (.ref it) u) (λ_ s2=>∃x H',Inv X π σ H' s2/\RelV x u/\J.Vv i H x H'/\tn (i+1) s2.heap /\ ∀b∈fp,H' b=none) E s1) E s
 done:∀(X:Cx),X.prog=P->X.w=w->X.K=K->X.calm=true -> ∀(i:Nat) (π:List (Addr×Obj)) (s:Shared) (σ:St) (H:Hp) (E:Value->Shared->Prop),Inv X π σ H s->(∀b∈fp,gP X π H b)->tn i s.heap->J.stop i H ->
  wpAny (model P w) X.A (pyNext (.ref it)) (λr s1=>r=none/\Inv X π σ H s1) E s
 self:∀(A:Around) (i:Nat) (s:Shared) (Q:Value->Shared->Prop) (E:Value->Shared->Prop),tn i s.heap->Q (.ref it) s->wpAny (model P w) A (pyIter (.ref it)) Q E s
abbrev TI:=St->Hp->(It->Hp->Prop)->Prop
inductive PIE(X:Cx)(π:List (Addr×Obj))(σ:St)(tg:Expr)(R:It->Hp->Prop)(itv:Value)(s2:Shared):Prop
 | mk (it:Addr) (fp:List Addr) (tn:Nat->Heap->Prop) (J:It) (H':Hp) (_:itv=.ref it) (_:Inv X π σ H' s2) (_:Turn X.prog X.w X.K tg J fp it tn) (_:tn 0 s2.heap) (_:(∀b∈fp,gP X π H' b)) (_:R J H')
def PI(X:Cx)(d iter:Expr)(c:TI):Prop:=
 ∀(b:List (Addr×Obj)) (s:Shared) (a:St) (H:Hp) (R:It->Hp->Prop),Inv X b a H s->c a H R ->
  wpAny (model X.prog X.w) X.A (eval iter X.env) (λv e=>wpAny (model X.prog X.w) X.A (pyIter v) (PIE X b a d R) X.xe e) X.xe s
theorem vB{M:Model}{A:Around}{E:Value->Shared->Prop}{s:Shared}{u:Value}{o:Obj}{n:String}{Q:Unit->Shared->Prop}(c:s.heap.get? a=some o)(f:o.cls=.type n)(hd:o.data=.fields D)
    (d:["enumerate","zip","dict_itemiterator","dict_reverseitemiterator","odict_iterator","itertools.zip_longest","itertools.pairwise"].contains n=false)(b:Q () s):wpAny M A (letOwnedTupleGo e (.ref a) u) Q E s:=by
  unfold letOwnedTupleGo;cases e <;> first
    | exact wpAny_pure b
    | (cases u <;> first
        | exact wpAny_pure b
        | (refine wpAny_bind (wpAny_load c ?_)
           rw[f,hd]
           show wpAny M A (if (["enumerate","zip","dict_itemiterator","dict_reverseitemiterator","odict_iterator","itertools.zip_longest","itertools.pairwise"].contains n && D[0]? == some (rawInt _))=true then _ else _) Q E s
           rw[if_neg (by intro h;rw[d,ajd]at h;cases h)];exact wpAny_pure b))
def We(K:PySem.W.Frag)(a:Addr):It:=
 (λi H=>∃b x,My K H a b/\b[i]?=some x,λi H x c=>c=H /\ ∀b,My K H a b->b[i]?=some x,λi H=>∃b,My K H a b/\b.length<=i)
def W8(K:PySem.W.Frag)(a:Addr):It:=
 (λi H=>∃b x,Uj K H a b/\b[i]?=some x,λi H x c=>c=H /\ ∀b,Uj K H a b->b[i]?=some x,λi H=>∃b,Uj K H a b/\b.length<=i)
def V9(lo:Int)(n:Nat):It:=(λi _=>i<n,λi H x a=>a=H/\x=.int (lo+i),λi _=>n<=i)
theorem Jv{w:World}(a j:Addr):Turn prog w K e (We K a) [j] j (λi h=>h.IsListIter j a i) where
 mem:=by simp
 obj:=λi h g b l=>by
  have f:b=j:=by simpa using l
  subst f;obtain⟨o,f,c,d⟩:=g;exact(o,f,λv z=>by rw[d]at z;cases z)
 keep:=λi h r g k=>g.at λo f=>k j (by simp) o f
 item:=by
  intro X C A D R i Q s O H E I q g B;subst C A D;obtain⟨S,x,n,y⟩:=B;obtain⟨N,t,p,V⟩:=I.list n;obtain⟨u,Z,U⟩:=t.get y;obtain⟨M,L,f2,J,G,F⟩:=q j (by simp);refine wpAny_pyNext_list_item g p.isList (x:=u) (by simpa using Z) λr m T=>?_;have I1:Inv X Q O H { s with heap:=r }:=I.turned (t':=s.toks) (λb o l f=>(T.2 b l).trans f) M L J G F;obtain⟨o,f,c,d⟩:=id m;exact(u,rfl,vB (s:={ s with heap:=r }) f c d (by decide) (x,H,I1,U,(rfl,λys Y=>by rw[I.list_inj Y n];exact y),m,λb l=>(q b l).1))
 done:=by
  intro X C A D R i Q s O H E I q g B;subst C A D;obtain⟨S,n,y⟩:=B;obtain⟨N,t,p,V⟩:=I.list n;obtain⟨M,L,f2,J,G,F⟩:=q j (by simp);have hl:=t.length;exact wpAny_pyNext_list_end (I.ok.hd R) g p.isList (by simp;lia) λr eb=>(rfl,I.turned (t':=s.toks) (λb o l f=>eb b o l f) M L J G F)
 self:=λ_ _ _ _ _ g h=>wpAny_pyIter_listiter g h
theorem Gx{w:World}(a j:Addr):Turn prog w K e (W8 K a) [j] j (λi h=>h.IsTupleIter j a i) where
 mem:=by simp
 obj:=λi h g b l=>by
  have f:b=j:=by simpa using l
  subst f;obtain⟨o,f,c,d⟩:=g;exact(o,f,λv z=>by rw[d]at z;cases z)
 keep:=λi h t g k=>g.at λo f=>k j (by simp) o f
 item:=by
  intro X D B F R i Q s O H E I r g C;subst D B F;obtain⟨S,x,q,A⟩:=C;obtain⟨m,y,p,V⟩:=I.tuple q;obtain⟨u,Z,U⟩:=y.get A;obtain⟨N,M,f2,L,J,G⟩:=r j (by simp);refine wpAny_pyNext_tuple_item g (show s.heap.IsTuple a m.toArray from p) (x:=u) (by simpa using Z) λt n T=>?_;have I1:Inv X Q O H { s with heap:=t }:=I.turned (t':=s.toks) (λb o l f=>(T.2 b l).trans f) N M L J G;obtain⟨o,f,c,d⟩:=id n;exact(u,rfl,vB (s:={ s with heap:=t }) f c d (by decide) (x,H,I1,U,(rfl,λys Y=>by rw[I.tuple_inj Y q];exact A),n,λb l=>(r b l).1))
 done:=by
  intro X D B F R i Q s O H E I r g C;subst D B F;obtain⟨S,q,A⟩:=C;obtain⟨m,y,p,V⟩:=I.tuple q;obtain⟨N,M,f2,L,J,G⟩:=r j (by simp);have hl:=y.length;exact wpAny_pyNext_tuple_end (I.ok.hd R) g (show s.heap.IsTuple a m.toArray from p) (by simp;lia) λt eb=>(rfl,I.turned (t':=s.toks) (λb o l f=>eb b o l f) N M L J G)
 self:=λ_ _ _ _ _ g h=>wpAny_pyIter_tupleiter g h
theorem Gq{w:World}(d:Addr)(lo:Int)(n:Nat):Turn prog w K e (V9 lo n) [d] d (λi h=>IsRangeIter h d (lo+(i:Nat)*1) ((n:Int) - (i:Nat)) 1) where
 mem:=by simp
 obj:=λi h c b f=>by
  have a:b=d:=by simpa using f
  subst a;exact(_,c,λv z=>by
   have J:Data.fields _=Data.cell v:=z;cases J)
 keep:=λi h l c k=>k d (by simp) _ c
 item:=by
  intro X r m u q i F s D H E I j c p;subst r m u;obtain⟨C,B,N,A,y,x⟩:=j d (by simp);have W:=Walks.range (prog:=X.prog) (w:=X.w) (I.ok.hd q) d lo 1 n;refine W.item i s _ _ p c λv l G M g L=>?_;obtain⟨t,rfl⟩:=M;have Q:Inv X F D H { s with heap:=l,toks:=G }:=I.turned (λb o f a=>L b o (by simpa using f) a) C B A y x
  refine(_,rfl,vB (s:={ s with heap:=l,toks:=G }) (n := "range_iterator") g rfl rfl (by decide) (.int (lo+i),H,Q,(t,?_),(rfl,rfl),g,λb f=>(j b f).1))
  rw[Int.mul_one]
 done:=by
  intro X r m u q i F s D H E I j c p;subst r m u;obtain⟨C,B,N,A,y,x⟩:=j d (by simp);exact wpAny_pyNext_range_end (I.ok.hd q) c (by have:n<=i:=p;lia) λl O=>(rfl,I.turned (t':=s.toks) (λb o f a=>O b o f a) C B A y x)
 self:=λ_ _ _ _ _ c h=>wpAny_pyIter_rangeiter c h
section
variable{X:Cx}
inductive O6(K:PySem.W.Frag)(R:It->Hp->Prop)(x:V)(H1:Hp):Prop
 | mk (a:_) (_:x=.ref a) (_:(∃xs,My K H1 a xs)) (_:R (We K a) H1)
def Sh(K:PySem.W.Frag)(b:TE):TI:=λ a H R=>b a H (O6 K R)
inductive RB(K:PySem.W.Frag)(R:It->Hp->Prop)(x:V)(H1:Hp):Prop
 | mk (a:_) (_:x=.ref a) (_:(∃xs,Uj K H1 a xs)) (_:R (W8 K a) H1)
def Tz(K:PySem.W.Frag)(b:TE):TI:=λ a H R=>b a H (RB K R)
theorem bK{l:Expr}{f:TE}(n:PE X l f):PI X tg l (Sh X.K f):=by
 intro i s g H R I h;refine Uh (n i s g H _ I h) λv c ⟨x,t,d,j,k⟩=>?_;obtain⟨a,e,⟨w,m⟩,q⟩:=k;subst e;cases j;obtain⟨u,y,p,z⟩:=d.list m;refine wpAny_pyIter_list p.isList ?_;refine(c.heap.objs.size,[c.heap.objs.size],_,_,t,rfl,d.kept (t':=c.toks) λb o e=>Heap.get?_push_of_some _ e,Jv a _,(_,Heap.get?_push_size _ rfl,rfl,rfl),λb r=>?_,q);have e:b=c.heap.objs.size:=by simpa using r
 subst e;exact d.fpOk (aad _) (d.hok.fresh (aad _))
theorem KD{l:Expr}{g:TE}(r:PE X l g):PI X tg l (Tz X.K g):=by
 intro j s i H R I h;refine Uh (r j s i H _ I h) λv c ⟨x,u,d,k,m⟩=>?_;obtain⟨a,e,⟨w,n⟩,q⟩:=m;subst e;cases k;obtain⟨f,y,p,z⟩:=d.tuple n;refine wpAny_pyIter_tuple (show c.heap.IsTuple a f.toArray from p) ?_;refine(c.heap.objs.size,[c.heap.objs.size],_,_,u,rfl,d.kept (t':=c.toks) λb o e=>Heap.get?_push_of_some _ e,Gx a _,(_,Heap.get?_push_size _ rfl,rfl,rfl),λb t=>?_,q);have e:b=c.heap.objs.size:=by simpa using t
 subst e;exact d.fpOk (aad _) (d.hok.fresh (aad _))
theorem DW{σ:St}{H:Hp}{s:Shared}{R:It->Hp->Prop}{E:Value->Shared->Prop}{lo :Int}{t u v:Tok}{tk:Nat}(I:Inv X π σ H s)(h : -(2^62)<=lo)(g:lo<2^62)(f : -(2^62)<=m)(d:m<2^62)
  (q:R (V9 lo (m - lo).toNat) H):wpAny (model X.prog X.w) X.A (pyIter (.ref s.heap.objs.size)) (PIE X π σ tg R) E { s with heap:=s.heap.push { cls:=.type "range",data:=.fields #[.int lo t,.int m u,.int 1 v] },toks:=tk }:=by
 refine wpAny_pyIter_range (IsRange.new ..) (small_one h g f d) ?_
 have a:Inv X π σ H { s with heap:=s.heap.push { cls:=.type "range",data:=.fields #[.int lo t,.int m u,.int 1 v] },toks:=tk }:=I.kept λb o e=>Heap.get?_push_of_some _ e
 refine((s.heap.push { cls:=.type "range",data:=.fields #[.int lo t,.int m u,.int 1 v] }).objs.size,[(s.heap.push { cls:=.type "range",data:=.fields #[.int lo t,.int m u,.int 1 v] }).objs.size],_,_,H,rfl,
  a.kept (t':=tk) λb o e=>Heap.get?_push_of_some _ e,Gq _ lo (m - lo).toNat,?_,λb c=>?_,q)
 ·have j:lo+((0:Nat):Int)*1=lo:=by simp
  have i:(((m - lo).toNat:Nat):Int) - ((0:Nat):Int)=Builtin.Range.rangeSize lo m 1:=by rw[rangeSize_one];split <;> lia
  show IsRangeIter _ _ (lo+((0:Nat):Int)*1) ((((m - lo).toNat:Nat):Int) - ((0:Nat):Int)) 1;rw[j,i];exact Heap.get?_push_size _ rfl
 ·have e:b=(s.heap.push { cls:=.type "range",data:=.fields #[.int lo t,.int m u,.int 1 v] }).objs.size:=by simpa using c
  subst e;exact a.fpOk (aad _) (a.hok.fresh (aad _))
inductive N7(R:It->Hp->Prop)(vs:List V)(H1:Hp):Prop
 | mk (j:Int) (_:vs=[.int j]) (_ : -(2^62)<=j) (_:j<2^62) (_:R (V9 0 j.toNat) H1)
def RT(b:TA):TI:=λ a H R=>b a H (N7 R)
inductive Oj(R:It->Hp->Prop)(vs:List V)(H1:Hp):Prop
 | mk (i j:Int) (_:vs=[.int i,.int j]) (_:(-(2^62)<=i/\i<2^62 /\ -(2^62)<=j/\j<2^62)) (_:R (V9 i (j - i).toNat) H1)
def Sq(b:TA):TI:=λ a H R=>b a H (Oj R)
theorem yt{a:Expr}{c:TA}{p pos:Pos}(n:Gl X "range")(m:X.mg "range" = none)(o:PA X [a] c)(l:starEach [a] X.env=[(pq false (eval a X.env))]:=by rfl):PI X tg (.Call (.Name "range" p) [a] [] pos) (RT c):=by
 intro f s d H R I h;refine Call_ (eO I n m boot_range (PyProof.Rows.callWith_type1 (Uh (o pos f s d H _ I h) λw x ⟨v,y,u,i,b⟩=>?_) l rfl));obtain⟨j,e,b,k,q⟩:=b;subst e;cases i with
 | cons r g =>
  cases g;obtain⟨t,rfl⟩:=r;exact call_range_1 (DW u (by lia) (by lia) b k (by simpa using q))
theorem Ip{a b:Expr}{g:TA}{p pos:Pos}(y:Gl X "range")(x:X.mg "range" = none)(z:PA X [a,b] g)(w:starEach [a,b] X.env=[(pq false (eval a X.env)),(pq false (eval b X.env))]:=by rfl)(c:starEach [b] X.env=[(pq false (eval b X.env))]:=by rfl):
  PI X tg (.Call (.Name "range" p) [a,b] [] pos) (Sq g):=by
 intro l s k H R I h;refine Call_ (eO I y x boot_range (PyProof.Rows.callWith_type1 (Uh (z pos l s k H _ I h) λC E ⟨B,F,A,m,f⟩=>?_) (by rw[w,c]) (by rw[c];rfl)));obtain⟨i,j,e,⟨f,v,u,o⟩,q⟩:=f;subst e;cases m with
 | cons r d =>
  cases d with
  | cons n d =>
   cases d;obtain⟨t,rfl⟩:=r;obtain⟨D,rfl⟩:=n;exact call_range_2 (DW A f v u o q)
def Py(g:TG)(e:TS)(D:Ends)(σ:St)(H:Hp):It->Hp->Prop:=λJ h=>∃W:Nat->Nat->St->Hp->Prop,(∃m,W 0 m σ h) /\ ∀i m σ H,W i m σ H->(J.stop i H/\D.nx σ H)\/(J.go i H /\ ∃N:St->Hp->Prop,(∀b a,N b a -> ∃d,d<m/\W (i+1) d b a) /\ ∀x a,J.Vv i H x a->g x σ a λ c f=>e { D with nx:=N,ct:=N,bk:=D.nx } c f)
def TX(b:TI)(g:TG)(c:TS):TS:=λD a H=>b a H (Py g c D a H)
def rK(a:List Addr)(h:Heap):List (Addr×Obj):=a.filterMap λb=>(h.get? b).map λo=>(pq b o)
theorem fV{b:Addr}{o:Obj}(a:b∈g)(e:h'.get? b=some o):(pq b o)∈rK g h':=ah9.mpr (b,a,by rw[e];rfl)
theorem Jm{p:Addr×Obj}(a:p∈rK g h'):p.1∈g/\h'.get? p.1=some p.2:=by
 obtain⟨b,c,e⟩:=ah9.mp a;cases q:h'.get? b with
 | none=>rw[q]at e;cases e
 | some o =>
  rw[q]at e;have d:(pq b o)=p:=aao e;subst d;exact(c,q)
theorem Inv.pinned{σ:St}{H:Hp}{s:Shared}(I:Inv X π σ H s)(i:∀b∈g,gP X π H b)(h:∀b∈g,∃o,s.heap.get? b=some o /\ ∀v,o.data ≠ .cell v):Inv X (π++rK g s.heap) σ H s:=
 I.pins_of λp f=>(abd.mp f).elim (λz=>I.pin p (aaw _ z)) λz=>by
  obtain⟨a,e⟩:=Jm z;obtain⟨l,k,j,_⟩:=i p.1 a;obtain⟨o,c,d⟩:=h p.1 a;rw[e]at c;cases c;exact(e,l,k,j,d)
theorem Inv.ξ{a:List (Addr×Obj)}{σ:St}{H:Hp}{s:Shared}(I:Inv X (π++a) σ H s):Inv X π σ H s:=I.pins_of λp b=>I.pin p (aaw _ (agz _ b))
theorem bJ{iter:Expr}{B:List Stmt}{Z:TI}{g:TG}{tb:TS}{pos:Pos}(F:PassesOwn (model X.prog X.w) X.A X.env X.xe)(hc:X.calm=true)(hi:PI X tg iter Z)(hg:PG X tg g)(c:Vf X B tb)
  (hs:∀x,foldedSetIterable iter X.env x=pure x:=by intro _;rfl):PS X (.For tg iter B [] pos) (TX Z g tb):=by
 intro C s Y H D I h;refine wpAny_For (Uh (hi C s Y H _ I h) λv s1 h1=>Uh h1 λa0 s2 h2=>?_) hs;obtain⟨it,G,tn,J,H2,e,I2,T,V,f2,W,⟨m0,w0⟩,L⟩:=h2;subst e;have q:∀{y:Hp},(∀b∈G,y b=none) -> ∀b∈G,gP X C y b:=λhn b c=>(hn b c,(f2 b c).2);refine codeAny_forLoop_any (λn s'=>∃i p y,Inv X C p y s'/\tn i s'.heap/\(∀b∈G,y b=none)/\W i n p y) ?_ m0 (0,Y,H2,I2,V,λb c=>(f2 b c).1,w0);rintro n s3 ⟨i,l,P,I3,K,Wr,w3⟩;rcases L i n l P w3 with ⟨M,qn⟩|⟨go,N,hN,O⟩
 ·refine wpAny_passesOwn F (Uh (T.done X rfl rfl rfl hc i C s3 l P X.xe I3 (q Wr) K M) λr s4 ⟨R,I4⟩=>?_);subst R;exact wpAny_execs_nil (l,P,I4,qn)
 ·refine wpAny_passesOwn F (Uh (T.item X rfl rfl rfl hc i C s3 l P X.xe I3 (q Wr) K go) λr s4 ⟨u,R,h4⟩=>?_);subst R;refine wpAny_passesOwn F (Uh h4 λ_ s5 ⟨x,H5,I5,r5,y5,S,Xu⟩=>?_);have Xv:=I5.pinned (q Xu) (T.obj _ _ S);refine wpAny_passesOwn F (Uh (hg _ s5 l H5 x u _ Xv r5 (O x H5 y5)) λ_ s6 ⟨U,H6,I6,q6⟩=>?_);refine wpAny_passesOwn F (Uh (c _ s6 U H6 _ I6 q6) λf Q z=>?_);have t:∀{a:St}{k:Hp},Inv X (C++rK G s5.heap) a k Q->N a k -> ∃m,m<n /\ ∃i p y,Inv X C p y Q/\tn i Q.heap/\(∀b∈G,y b=none)/\W i m p y:=λ{a k} j E=>by
   obtain⟨m',hm,w7⟩:=hN a k E;refine(m',hm,i+1,a,k,j.ξ,T.keep _ _ _ S λb c o e=>(j.pin (pq b o) (aaw _ (aaw _ (fV c e)))).1,λb c=>?_,w7);obtain⟨o,e,d⟩:=T.obj _ _ S b c;exact(j.pin (pq b o) (aaw _ (aaw _ (fV c e)))).2.1
  cases f with
  | next=>obtain⟨a,k,j,E⟩:=z;exact t j E
  | cont=>obtain⟨a,k,j,E⟩:=z;exact t j E
  | brk=>obtain⟨a,k,j,z⟩:=z;exact(a,k,j.ξ,z)
  | ret v=>obtain⟨x7,a,k,j,r7,z⟩:=z;exact(x7,a,k,j.ξ,r7,z)
end
theorem cu{a:Addr}{xs:List V}{g:TG}{j:TS}{D:Ends}{σ:St}{H:Hp}(b:Nat->St->Hp->Prop)(s:b 0 σ H)(o:∀i σ H,i<=xs.length->b i σ H->My K H a xs)
  (n:∀i x σ H,xs[i]?=some x->b i σ H->g x σ H λ c h=>j { D with nx:=b (i+1),ct:=b (i+1),bk:=D.nx } c h)(hd:∀σ H,b xs.length σ H->D.nx σ H):
  ∃W:Nat->Nat->St->Hp->Prop,(∃m,W 0 m σ H) /\ ∀i m σ H,W i m σ H ->
   ((We K a).stop i H/\D.nx σ H)\/((We K a).go i H /\ ∃N:St->Hp->Prop,(∀d H',N d H' -> ∃k,k<m/\W (i+1) k d H') /\ ∀x H',(We K a).Vv i H x H'->g x σ H' λ c h=>j { D with nx:=N,ct:=N,bk:=D.nx } c h):=by
 exists λi m σ H=>m=xs.length - i/\i<=xs.length/\b i σ H,(xs.length,by simp,aaP _,s);rintro i m σ H ⟨rfl,r,p⟩;have q:=o i σ H r p;by_cases f:i<xs.length
 ·refine .inr ((xs,xs[i],q,by simp[f]),b (i+1),λ d H' l=>(xs.length - (i+1),by lia,rfl,f,l),λx H' y=>?_);obtain⟨e,y⟩:=y;subst e;exact n i x σ _ (y xs q) p
 ·have e:i=xs.length:=by lia
  subst e;exact .inl ((xs,q,aad _),hd σ H p)
theorem Pq{a:Addr}{xs:List V}{g:TG}{j:TS}{D:Ends}{σ:St}{H:Hp}(b:Nat->St->Hp->Prop)(s:b 0 σ H)(o:∀i σ H,i<=xs.length->b i σ H->Uj K H a xs)
  (n:∀i x σ H,xs[i]?=some x->b i σ H->g x σ H λ c h=>j { D with nx:=b (i+1),ct:=b (i+1),bk:=D.nx } c h)(hd:∀σ H,b xs.length σ H->D.nx σ H):
  ∃W:Nat->Nat->St->Hp->Prop,(∃m,W 0 m σ H) /\ ∀i m σ H,W i m σ H ->
   ((W8 K a).stop i H/\D.nx σ H)\/((W8 K a).go i H /\ ∃N:St->Hp->Prop,(∀d H',N d H' -> ∃k,k<m/\W (i+1) k d H') /\ ∀x H',(W8 K a).Vv i H x H'->g x σ H' λ c h=>j { D with nx:=N,ct:=N,bk:=D.nx } c h):=by
 exists λi m σ H=>m=xs.length - i/\i<=xs.length/\b i σ H,(xs.length,by simp,aaP _,s);rintro i m σ H ⟨rfl,r,p⟩;have q:=o i σ H r p;by_cases f:i<xs.length
 ·refine .inr ((xs,xs[i],q,by simp[f]),b (i+1),λ d H' l=>(xs.length - (i+1),by lia,rfl,f,l),λx H' y=>?_);obtain⟨e,y⟩:=y;subst e;exact n i x σ _ (y xs q) p
 ·have e:i=xs.length:=by lia
  subst e;exact .inl ((xs,q,aad _),hd σ H p)
theorem JC{lo:Int}{n:Nat}{g:TG}{h:TS}{D:Ends}{σ:St}{H:Hp}(a:Nat->St->Hp->Prop)(o:a 0 σ H)
  (l:∀i σ H,i<n->a i σ H->g (.int (lo+i)) σ H λ b f=>h { D with nx:=a (i+1),ct:=a (i+1),bk:=D.nx } b f)(hd:∀σ H,a n σ H->D.nx σ H):
  ∃W:Nat->Nat->St->Hp->Prop,(∃m,W 0 m σ H) /\ ∀i m σ H,W i m σ H ->
   ((V9 lo n).stop i H/\D.nx σ H)\/((V9 lo n).go i H /\ ∃N:St->Hp->Prop,(∀c H',N c H' -> ∃j,j<m/\W (i+1) j c H') /\ ∀x H',(V9 lo n).Vv i H x H'->g x σ H' λ b f=>h { D with nx:=N,ct:=N,bk:=D.nx } b f):=by
 exists λi m σ H=>m=n - i/\i<=n/\a i σ H,(n,by simp,aaP _,o);rintro i m σ H ⟨rfl,q,p⟩;by_cases d:i<n
 ·refine .inr (d,a (i+1),λ c H' k=>(n - (i+1),by lia,rfl,d,k),λx H' y=>?_);obtain⟨e,y⟩:=y;subst e y;exact l i σ _ d p
 ·have e:i=n:=by lia
  subst e;exact .inl (aad _,hd σ H p)
abbrev R2:=V->V->Hp->VK->Prop
def Uz(X:Cx)(f:Value->Value->Sem Value)(r:R2):Prop:=
 ∀(b:List (Addr×Obj)) (s:Shared) (a:St) (H:Hp) (x y:V) (v u:Value) (Q:VK),Inv X b a H s->RelV x v->RelV y u->r x y H Q ->
  wpAny (model X.prog X.w) X.A (f v u) (EP X b a Q) X.xe s
def Zh(X:Cx)(f:Value->Sem Value)(r:V->Hp->VK->Prop):Prop:=
 ∀(b:List (Addr×Obj)) (s:Shared) (a:St) (H:Hp) (x:V) (v:Value) (Q:VK),Inv X b a H s->RelV x v->r x H Q ->
  wpAny (model X.prog X.w) X.A (f v) (EP X b a Q) X.xe s
def gD(X:Cx)(f:Value)(r:List V->Hp->VK->Prop):Prop:=
 ∀(b:List (Addr×Obj)) (s:Shared) (a:St) (H:Hp) (c:List V) (d:List Value) (Q:VK),Inv X b a H s->Vals c d->r c H Q ->
  wpAny (model X.prog X.w) X.A (call f d) (EP X b a Q) X.xe s
def Qp(r:R2)(Q:VK)(x:V):VK:=λy a=>r x y a Q
def QL(r:R2)(a:TE)(σ:St)(Q:VK):VK:=λx b=>a σ b (Qp r Q x)
def Xw(r:R2)(c b:TE):TE:=λ a H Q=>c a H (QL r b a Q)
def Rp(r:V->Hp->VK->Prop)(Q:VK):VK:=λx a=>r x a Q
def tUn(r:V->Hp->VK->Prop)(b:TE):TE:=λ a H Q=>b a H (Rp r Q)
inductive rI(C:Int->Int->Prop)(g:Int->Int->V)(x:V)(y:V)(H:Hp)(Q:VK):Prop
 | mk (i j:_) (_:x=.int i) (_:y=.int j) (_:C i j) (_:Q (g i j) H)
inductive Wf(g:Int->Int->V)(x:V)(y:V)(H:Hp)(Q:VK):Prop
 | mk (i j:_) (_:x=.int i) (_:y=.int j) (_:Q (g i j) H)
inductive rU(g:Int->V)(x:V)(H:Hp)(Q:VK):Prop
 | mk (i:_) (_:x=.int i) (_:Q (g i) H)
section
variable{X:Cx}{a c:Expr}{ta tb tc:TE}{pos:Pos}
theorem RG(r:PE X a ta)(q:PE X b tb){s:Shared}{σ:St}{H:Hp}{R:V->V->Hp->Prop}(I:Inv X π σ H s)
  (h:ta σ H λx j=>tb σ j λy d=>R x y d){Q:Value->Shared->Prop}{f:Value->Value->Sem Value}
  (p:∀v u i x y d,Inv X π σ d i->RelV x v->RelV y u->R x y d->wpAny (model X.prog X.w) X.A (f v u) Q X.xe i):
  wpAny (model X.prog X.w) X.A (eval a X.env) (λv g=>wpAny (model X.prog X.w) X.A (eval b X.env) (λu e=>wpAny (model X.prog X.w) X.A (f v u) Q X.xe e) X.xe g) X.xe s:=by
 refine Uh (r π s σ H _ I h) λv k ⟨x,j,z,m,o⟩=>?_;refine Uh (q π k σ j _ z o) λu i ⟨y,d,t,l,n⟩=>?_;exact p v u i x y d t m l n
theorem aC{d:Operator}{r:R2}(k:Uz X (binaryOp d) r)(m:PE X a ta)(l:PE X b tb):PE X (.BinOp a d b pos) (Xw r ta tb):=by
 intro f s e H Q I h;exact wpAny_BinOp (RG m l I h λv u g x y o n j i q=>k f g e o x y v u Q n j i q)
theorem j5{f:UnaryOp}{r:V->Hp->VK->Prop}(k:Zh X (unaryOp f) r)(l:PE X a ta):PE X (.UnaryOp f a pos) (tUn r ta):=by
 intro e s d H Q I h;exact UnaryOp_ (Uh (l e s d H _ I h) λv g ⟨x,n,m,i,j⟩=>k e g d n x v Q m i j)
theorem Xx{f:Value->Value->Sem Value}{C:Int->Int->Prop}{g:Int->Int->Int}
  (d:∀(i j:Int) (t u:Tok) (s:Shared) (Q:Value->Shared->Prop) (E:Value->Shared->Prop),C i j->Q (.int (g i j) s.toks) { s with toks:=s.toks+1 }->wpAny (model X.prog X.w) X.A (f (.int i t) (.int j u)) Q E s):
  Uz X f (rI C λi j=>.int (g i j)):=by
 intro o s n H x y v u Q I l k h;obtain⟨i,j,rfl,rfl,m,q⟩:=h;obtain⟨t,rfl⟩:=l;obtain⟨e,rfl⟩:=k;exact d i j t e s _ _ m (.int (g i j),H,I.tok _,(_,rfl),q)
theorem QS{f:Value->Value->Sem Value}{g:Int->Int->Int}
  (d:∀(i j:Int) (t u:Tok) (s:Shared) (Q:Value->Shared->Prop) (E:Value->Shared->Prop),Q (.int (g i j) s.toks) { s with toks:=s.toks+1 }->wpAny (model X.prog X.w) X.A (f (.int i t) (.int j u)) Q E s):
  Uz X f (Wf λi j=>.int (g i j)):=by
 intro n s m H x y v u Q I l k h;obtain⟨i,j,rfl,rfl,q⟩:=h;obtain⟨t,rfl⟩:=l;obtain⟨e,rfl⟩:=k;exact d i j t e s _ _ (.int (g i j),H,I.tok _,(_,rfl),q)
theorem Nt{f:Value->Value->Sem Value}{g:Int->Int->Bool}
  (d:∀(i j:Int) (t u:Tok) (s:Shared) (Q:Value->Shared->Prop) (E:Value->Shared->Prop),Q (.bool (g i j)) s->wpAny (model X.prog X.w) X.A (f (.int i t) (.int j u)) Q E s):
  Uz X f (Wf λi j=>.bl (g i j)):=by
 intro n s m H x y v u Q I l k h;obtain⟨i,j,rfl,rfl,q⟩:=h;obtain⟨t,rfl⟩:=l;obtain⟨e,rfl⟩:=k;exact d i j t e s _ _ (.bl (g i j),H,I,rfl,q)
def T8(i j:Int):Prop:=0<j/\j<1073741824
def T4(i j:Int):Prop:=0<=j/\j<=1000000/\i.natAbs<2^64
def QK(i j:Int):Prop:=(-(2^64)<i/\i<2^64)\/(-(2^64)<j/\j<2^64)
theorem QK.ok{i j:Int}(h:QK i j):IntMulOk i j:=by
 rcases h with ⟨e,d⟩|⟨e,d⟩
 ·exact .of_left (intBits_le_64 e d)
 ·exact .of_right (intBits_le_64 e d)
theorem Gp(k:Nat):(0:Int)<=2^k:=by
 rw[two_pow_cast];exact Int.natCast_nonneg _
theorem bh:Uz X (binaryOp .Add) (Wf λi j=>.int (i+j)):=QS λ_ _ _ _ _ _ _ q=>add_int q
theorem bz:Uz X (binaryOp .Sub) (Wf λi j=>.int (i - j)):=QS λ_ _ _ _ _ _ _ q=>sub_int q
theorem cI:Uz X (binaryOp .Mult) (rI QK λi j=>.int (i*j)):=Xx λ_ _ _ _ _ _ _ d q=>mul_int q d.ok
theorem bL:Uz X (binaryOp .FloorDiv) (rI T8 λi j=>.int (i / j)):=Xx λi j _ _ _ _ _ d q=>by
 have f:(0:Int)<j:=d.1;have e:j<1073741824:=d.2;exact floordiv_int (by lia) (by rw[ah6 i (by lia)];exact q) (.inl (PyProof.noPylong_small (by lia)))
theorem cj:Uz X (binaryOp .Mod) (rI (λ_ j=>0<j) λi j=>.int (i%j)):=Xx λi j _ _ _ _ _ d q=>by
 have e:(0:Int)<j:=d;exact mod_int' (by lia) (by rw[Int.fmod_eq_emod_of_nonneg i (by lia)];exact q)
theorem Ma:Uz X (binaryOp .Pow) (rI T4 λi j=>.int (i^j.toNat)):=Xx λ_ _ _ _ _ _ _ d q=>pow_int_small d.1 d.2.1 d.2.2 q
theorem RK:Uz X (binaryOp .RShift) (rI (λ_ j=>0<=j) λi j=>.int (i / 2^j.toNat)):=Xx λi j _ _ _ _ _ d q =>
 rshift_int d (by rw[ah6 i (Gp _)];exact q)
theorem Ru:Uz X (binaryOp .BitAnd) (Wf λi j=>.int (Builtin.bitAnd i j)):=QS λ_ _ _ _ _ _ _ q=>and_int q
theorem unI{f:Value->Sem Value}{g:Int->Int}
  (d:∀(i:Int) (t:Tok) (s:Shared) (Q:Value->Shared->Prop) (E:Value->Shared->Prop),Q (.int (g i) s.toks) { s with toks:=s.toks+1 }->wpAny (model X.prog X.w) X.A (f (.int i t)) Q E s):
  Zh X f (rU λi=>.int (g i)):=by
 intro k s j H x v Q I e h;obtain⟨i,rfl,q⟩:=h;obtain⟨t,rfl⟩:=e;exact d i t s _ _ (.int (g i),H,I.tok _,(_,rfl),q)
theorem fX:Zh X (unaryOp .USub) (rU λi=>.int (-i)):=unI λ_ _ _ _ _ q=>neg_int q
end
def Su:V->V->Bool
 | .non,.non=>true | .non,.int _=>true | .int _,.non=>true | .non,.bl _=>true | .bl _,.non=>true | .non,.str _=>true | .str _,.non=>true
 | .int _,.int _=>true | .bl _,.bl _=>true | .str _,.str _=>true | .VJ _,.VJ _=>true
 | .int _,.str _=>true | .str _,.int _=>true | .bl _,.str _=>true | .str _,.bl _=>true
 | _,_=>false
def rEq:R2:=λx y H Q=>Su x y=true/\Q (.bl (decide (x=y))) H
def rNe:R2:=λx y H Q=>Su x y=true/\Q (.bl (!decide (x=y))) H
theorem Ha{i j:Int}:decide (V.int i=V.int j)=(i == j):=by
 rw[ah0];simp
theorem Ly{i j:Bool}:decide (V.bl i=V.bl j)=(i == j):=by
 rw[ah0];simp
theorem Hx{i j:Str}:decide (V.str i=V.str j)=(i == j):=by
 rw[ah0];simp
theorem Hj{i j:Array UInt8}:decide (V.VJ i=V.VJ j)=(i.toList == j.toList):=by
 rw[ah0];cases i;cases j;simp
section
variable{X:Cx}{a c:Expr}{ta tb tc:TE}{pos:Pos}
theorem bG{σ:St}{H:Hp}{s:Shared}{Q:VK}{k d:Bool}(I:Inv X π σ H s)(q:Q (.bl k) H)(e:k=d):EP X π σ Q (.bool d) s:=by
 subst e;exact(.bl k,H,I,rfl,q)
theorem dN:Uz X (compareOp .Eq) rEq:=by
 intro l s k H x y v u Q I g d h;obtain⟨f,q⟩:=h;cases x with
 | non =>
  cases g;cases y with
  | non=>cases d;exact PySem.EqNone.eq_none_none (bG I q (by simp))
  | bl j=>cases d;exact PySem.EqNone.eq_none_bool (bG I q (by simp))
  | int j=>obtain⟨e,rfl⟩:=d;exact PySem.EqNone.eq_none_int (bG I q (by simp))
  | str j=>obtain⟨e,rfl⟩:=d;exact PySem.EqNone.eq_none_str (bG I q (by simp))
  | _=>exact absurd (show false=true from f) aap
 | bl i =>
  cases g;cases y with
  | non=>cases d;exact PySem.EqNone.eq_bool_none (bG I q (by simp))
  | bl j=>cases d;exact eq_bool (bG I q Ly)
  | str j=>obtain⟨e,rfl⟩:=d;exact PySem.EqMixed.eq_bool_str (bG I q (by simp))
  | _=>exact absurd (show false=true from f) aap
 | int i =>
  obtain⟨t,rfl⟩:=g;cases y with
  | non=>cases d;exact PySem.EqNone.eq_int_none (bG I q (by simp))
  | int j=>obtain⟨e,rfl⟩:=d;exact eq_int (bG I q Ha)
  | str j=>obtain⟨e,rfl⟩:=d;exact PySem.EqMixed.eq_int_str (bG I q (by simp))
  | _=>exact absurd (show false=true from f) aap
 | str i =>
  obtain⟨t,rfl⟩:=g;cases y with
  | non=>cases d;exact PySem.EqNone.eq_str_none (bG I q (by simp))
  | bl j=>cases d;exact PySem.EqMixed.eq_str_bool (bG I q (by simp))
  | int j=>obtain⟨e,rfl⟩:=d;exact PySem.EqMixed.eq_str_int (bG I q (by simp))
  | str j=>obtain⟨e,rfl⟩:=d;exact eq_str (bG I q Hx)
  | _=>exact absurd (show false=true from f) aap
 | VJ i =>
  obtain⟨t,rfl⟩:=g;cases y with
  | VJ j=>obtain⟨e,rfl⟩:=d;exact PySem.W.eq_bytes (bG I q Hj)
  | _=>exact absurd (show false=true from f) aap
 | _=>cases y <;> exact absurd (show false=true from f) aap
theorem pQ:Uz X (compareOp .NotEq) rNe:=by
 intro l s k H x y v u Q I g d h;obtain⟨f,q⟩:=h;cases x with
 | non =>
  cases g;cases y with
  | non=>cases d;exact PySem.EqNone.ne_none_none (bG I q (by simp))
  | bl j=>cases d;exact PySem.EqNone.ne_none_bool (bG I q (by simp))
  | int j=>obtain⟨e,rfl⟩:=d;exact PySem.EqNone.ne_none_int (bG I q (by simp))
  | str j=>obtain⟨e,rfl⟩:=d;exact PySem.EqNone.ne_none_str (bG I q (by simp))
  | _=>exact absurd (show false=true from f) aap
 | bl i =>
  cases g;cases y with
  | non=>cases d;exact PySem.EqNone.ne_bool_none (bG I q (by simp))
  | bl j=>cases d;exact ne_bool (bG I q (congrArg not Ly))
  | str j=>obtain⟨e,rfl⟩:=d;exact PySem.EqMixed.ne_bool_str (bG I q (by simp))
  | _=>exact absurd (show false=true from f) aap
 | int i =>
  obtain⟨t,rfl⟩:=g;cases y with
  | non=>cases d;exact PySem.EqNone.ne_int_none (bG I q (by simp))
  | int j=>obtain⟨e,rfl⟩:=d;exact ne_int (bG I q (congrArg not Ha))
  | str j=>obtain⟨e,rfl⟩:=d;exact PySem.EqMixed.ne_int_str (bG I q (by simp))
  | _=>exact absurd (show false=true from f) aap
 | str i =>
  obtain⟨t,rfl⟩:=g;cases y with
  | non=>cases d;exact PySem.EqNone.ne_str_none (bG I q (by simp))
  | bl j=>cases d;exact PySem.EqMixed.ne_str_bool (bG I q (by simp))
  | int j=>obtain⟨e,rfl⟩:=d;exact PySem.EqMixed.ne_str_int (bG I q (by simp))
  | str j=>obtain⟨e,rfl⟩:=d;exact ne_str (bG I q (congrArg not Hx))
  | _=>exact absurd (show false=true from f) aap
 | VJ i =>
  obtain⟨t,rfl⟩:=g;cases y with
  | VJ j=>obtain⟨e,rfl⟩:=d;exact PySem.W.ne_bytes (bG I q (congrArg not Hj))
  | _=>exact absurd (show false=true from f) aap
 | _=>cases y <;> exact absurd (show false=true from f) aap
theorem jw:Uz X (compareOp .Lt) (Wf λi j=>.bl (decide (i<j))):=Nt λ_ _ _ _ _ _ _ q=>lt_int q
theorem jq:Uz X (compareOp .LtE) (Wf λi j=>.bl (decide (i<=j))):=Nt λ_ _ _ _ _ _ _ q=>le_int q
theorem iH:Uz X (compareOp .Gt) (Wf λi j=>.bl (decide (j<i))):=Nt λ_ _ _ _ _ _ _ q=>gt_int q
theorem Bt:Uz X (compareOp .GtE) (Wf λi j=>.bl (decide (j<=i))):=Nt λ_ _ _ _ _ _ _ q=>ge_int q
theorem Ks(b:Expr){d:CmpOp}(h:d ≠ .In:=by decide)(e:d ≠ .NotIn:=by decide):behindInMarks d b=false:=by
 have g:(d == CmpOp.In)=false:=by cases d <;> first|rfl|exact absurd rfl h
 have f:(d == CmpOp.NotIn)=false:=by cases d <;> first|rfl|exact absurd rfl e
 cases b <;> simp[behindInMarks,g,f]
theorem Az{d:CmpOp}{r:R2}(k:Uz X (compareOp d) r)(n:PE X a ta)(m:PE X b tb)(l:behindInMarks d b=false:=by exact Ks _):PE X (.Compare a [d] [b] pos) (Xw r ta tb):=by
 intro f s e H Q I h;exact wpAny_Compare1 (RG n m I h λv u g x y p o j i q=>k f g e p x y v u Q o j i q) l
inductive PB(Q:Bool->Hp->Prop)(x:V)(H':Hp):Prop
 | mk (k:_) (_:x=.bl k) (_:Q k H')
def Ky(t:TE):TT:=λ d H Q=>t d H (PB Q)
theorem aG{g:CmpOp}{r:R2}(t:Uz X (compareOp g) r)(B:PE X a ta)(A:PE X b tb)(w:behindInMarks g b=false:=by exact Ks _):PT X (.Compare a [g] [b] pos) (Ky (Xw r ta tb)):=by
 intro f s d H Q I h;refine wpAny_isTrue_Compare1 (Uh (B f s d H _ I h) λv j ⟨x,J,E,n,q⟩=>Uh (A f j d J _ E q) λu i ⟨y,G,D,m,p⟩ =>
  Uh (t f i d G x y v u _ D n m p) λc K ⟨z,F,C,l,k,e,o⟩=>?_) w
 subst e;cases l;exact wpAny_truthy_bool (F,C,o)
inductive K6(r':R2)(tc:TE)(σ:St)(Q:VK)(y:V)(z:V)(H3:Hp):Prop
 | mk (k:_) (_:z=.bl k) (_:(if k=true then tc σ H3 λw' H4=>r' y w' H4 Q else Q (.bl false) H3))
def Ii(r:R2)(d:R2)(tc:TE)(σ:St)(Q:VK)(x:V):VK:=λy e=>r x y e (K6 d tc σ Q y)
def JV(r:R2)(d:R2)(tb:TE)(tc:TE)(σ:St)(Q:VK):VK:=λx e=>tb σ e (Ii r d tc σ Q x)
def Rb(r e:R2)(ta tb tc:TE):TE:=λ d H Q=>ta d H (JV r e tb tc d Q)
theorem vH{j f:CmpOp}{r n:R2}(P:Uz X (compareOp j) r)(l:Uz X (compareOp f) n)(U:PE X a ta)(T:PE X b tb)(S:PE X c tc)
  (R:lastMarks [j,f] [b,c]=false:=by with_unfolding_all rfl):PT X (.Compare a [j,f] [b,c] pos) (Ky (Rb r n ta tb tc)):=by
 intro i s g H Q I h;refine isTrue_chain (Uh (U i s g H _ I h) λv D ⟨x,H1,I1,J,N⟩=>test_link (Uh (T i D g H1 _ I1 N) λu C ⟨y,H2,I2,m,M⟩ =>
  Uh (P i C g H2 x y v u _ I2 J m M) λd B ⟨z,q,p,G,k,e,o⟩=>?_)) R
 subst e;cases G;refine wpAny_truthy_bool ?_;cases k with
 | false =>
  obtain⟨k',W,O⟩:=o;cases W;exact ite_ff (q,p,O)
 | true =>
  refine ite_tt (test_last (Uh (S i B g q _ p o) λw A ⟨t,H4,Z,F,L⟩=>Uh (l i A g H4 y t u w _ Z m F L) λd' s5 ⟨z2,H5,Y,E,k2,V,K⟩=>?_));subst V;cases E;exact wpAny_truthy_bool (H5,Y,K)
theorem rG:(sizeLine:Nat)<2^63:=by rw[sizeLine_eq];decide
theorem eQ:Uz X (binaryOp .Add) (λx y H Q=>∃i j,x=.str i/\y=.str j/\i.length+j.length<=sizeLine/\Q (.str (i++j)) H):=by
 intro l s k H x y v u Q I f e h;obtain⟨i,j,rfl,rfl,g,q⟩:=h;obtain⟨t,rfl⟩:=f;obtain⟨d,rfl⟩:=e;exact add_str (λd m=>(.str (i++j),H,I.tok _,(_,rfl),q)) g
theorem vals1{x:V}{d:List Value}(r:Vals [x] d):∃u,d=[u]/\RelV x u:=by
 cases r with
 | cons f e=>cases e;exact(_,rfl,f)
theorem vals2{x y:V}{e:List Value}(r:Vals [x,y] e):∃u d,e=[u,d]/\RelV x u/\RelV y d:=by
 cases r with
 | cons i h =>
  cases h with
  | cons g f=>cases f;exact(_,_,rfl,i,g)
theorem Jk(e:X.calm=true):gD X (.builtin "max") (λxs H Q=>∃i j,xs=[.int i,.int j]/\Q (.int (if j > i then j else i)) H):=by
 intro g s f H xs m Q I r h;obtain⟨i,j,rfl,q⟩:=h;obtain⟨u,l,rfl,⟨t,rfl⟩,⟨o,rfl⟩⟩:=vals2 r;refine max_two_ints (I.ok.hd e) λp n k=>(_,H,I.kept k,?_,q);by_cases d:j > i
 ·rw[if_pos d,if_pos d];exact(_,rfl)
 ·rw[if_neg d,if_neg d];exact(_,rfl)
theorem yz(e:X.calm=true):gD X (.builtin "min") (λxs H Q=>∃i j,xs=[.int i,.int j]/\Q (.int (if j<i then j else i)) H):=by
 intro g s f H xs m Q I r h;obtain⟨i,j,rfl,q⟩:=h;obtain⟨u,l,rfl,⟨t,rfl⟩,⟨o,rfl⟩⟩:=vals2 r;refine min_two_ints (I.ok.hd e) λp n k=>(_,H,I.kept k,?_,q);by_cases d:j<i
 ·rw[if_pos d,if_pos d];exact(_,rfl)
 ·rw[if_neg d,if_neg d];exact(_,rfl)
end
structure Q3(h:Heap)(x dx C:Addr)(mA:Str->Option Value):Prop where
 obj:h.get? x=some (PySem.W.instObj C dx)
 ns:h.Ns1 dx mA
 ne:dx≠x
theorem Ju(n:h'.Ns1 a mg):∃d,h'.get? a=some d /\ ∀name,PySem.W.lookIn name d=some (mg name):=by
 obtain⟨o,f,m,i,hd,k,_,j⟩:=n;refine(o,i,λname=>?_);have e:=j name;unfold nsFind findBy at e;rw[<-Array.find?_toList]at e;unfold PySem.W.lookIn;rw[hd];dsimp only;split
 ·rename_i y q;rw[q]at e;exact congrArg some e
 ·rename_i q;rw[q]at e;have b:f.toList.any (·.refKey)=false:=by
   rw[List.any_eq_false];intro y g;obtain⟨z,t,c⟩:=k y (Array.mem_toList_iff.mp g);simp[DictEntry.refKey,c]
  have l:¬f.toList.any (·.refKey)=true:=by rw[b];exact aap
  rw[if_neg l];exact congrArg some e
theorem Q3.look{x C:Addr}(I:Q3 h' x a C mg):∃b,PySem.W.InstAt h' x (PySem.W.instObj C a) C (some b) /\ ∀name,PySem.W.lookIn name b=some (mg name):=
 let ⟨b,ho,hl⟩:=Ju I.ns
 (b,(I.obj,rfl,rfl,ho),hl)
section
variable{x:Addr}{mA:Str->Option Value}{v:Value}
end
theorem v7.some_of{v:V}{o:Option Value}(r:v7 (some v) o):∃u,o=some u/\RelV v u:=by
 cases o with
 | none=>exact(show False from r).elim
 | some u=>exact(u,rfl,r)
section
variable{P:Program}{H H':Hp}{fs fs':List (Str×V)}
theorem Nz(c:Uw P w H h)(e:H a=some (.ins C dx fs)):∃b,Q3 h a dx C b/\(∀f,v7 (fs.lookup f) (b f))/\PySem.Within b (fs.map (·.1))/\fs.length<=1000/\H dx=some (.own a):=by
 obtain⟨d,z,i,g,b,n,r,q⟩:=(show bH P w H h a (.ins C dx fs)from c a _ e);exact(b,(g,n,i),r,q,z,d)
end
structure Zi(K:PySem.W.Frag)(C:Addr):Prop where
 pg:PySem.W.plainGet K C Str.empty=true
 hd:PySem.W.hasDictIn K C=true
 po:PySem.W.plainOver K C=true
 sa:PySem.W.findIn K (.ref C) "__setattr__" = some (some (.builtin "object.__setattr__"))
theorem Zi.get{C:Addr}(c:Zi K C)(f:Str):PySem.W.plainGet K C f=true:=c.pg
section
variable{X:Cx}{σ:St}{H:Hp}{fs:List (Str×V)}{f:Str}{v:V}
end
section
variable{X:Cx}{value:Expr}{f:Str}{pos pos' tpos:Pos}{ta tv:TE}
end
section
variable{X:Cx}{σ:St}{H:Hp}{Q:Value->Shared->Prop}{c:Value}{b:Bool}
inductive qW(K:PySem.W.Frag)(H:Hp):V->Value->Prop where
 | non:qW K H .non (.type "NoneType")
 | bl (x:Bool):qW K H (.bl x) (.type "bool")
 | int (i:Int):qW K H (.int i) (.type "int")
 | str (x:Str):qW K H (.str x) (.type "str")
 | flt (x:UInt64):qW K H (.flt x) (.type "float")
 | lst {a:Addr}{xs:List V} (e:H a=some (.lst xs)):qW K H (.ref a) (.type "list")
 | Ve {a:Addr}{o:Obj}{xs:List V} (e:H a=some (.Ve o (.lst xs))):qW K H (.ref a) (.type "list")
 | tup {a:Addr}{xs:List V} (e:H a=some (.tup xs)):qW K H (.ref a) (.type "tuple")
 | dK {a:Addr}{kvs:List (Key×V)} (e:H a=some (.dK kvs)):qW K H (.ref a) (.type "dict")
 | dT {a:Addr}{kvs:List (List Key×V)} (e:H a=some (.dT kvs)):qW K H (.ref a) (.type "dict")
 | ins {a C dx:Addr}{fs:List (Str×V)} (e:H a=some (.ins C dx fs)) (cl:Zi K C) (ha:PySem.W.findIn K (.ref C) "__class__" = some (some (.builtin "object.__class__")))
   (hn:PySem.W.specialIn K (.builtin "object.__class__") "__get__" = some (some (.builtin "getset_descriptor.__get__"))) (htk:PySem.W.takesIn K (.builtin "object.__class__")=some true)
   (hm:PySem.W.mroIn K C (.type "object")=some true):qW K H (.ref a) (.ref C)
theorem Jg{x:V}{u t:Value}(I:Inv X π σ H s)(d:RelV x u)(v:qW X.K H x t)(e:PySem.W.kitOne X.K t c=some b)(h:∀tk,Q (.bool b) { s with toks:=tk }):
  wpAny (model X.prog X.w) A (call (.builtin "isinstance") [u,c]) Q E s:=by
 cases v with
 | non=>cases (show u=Value.none from d);exact PySem.W.kia_one PySem.W.kitx_none I.Vi True.intro e (λz=>nomatch z) h
 | bl y=>cases (show u=Value.bool y from d);exact PySem.W.kia_one PySem.W.kitx_bool I.Vi True.intro e (λz=>nomatch z) h
 | int i=>obtain⟨t,q⟩:=(show ∃t,u=Value.int i t from d);cases q;exact PySem.W.kia_one PySem.W.kitx_int I.Vi True.intro e (λz=>nomatch z) h
 | str y=>obtain⟨t,q⟩:=(show ∃t,u=Value.str y t from d);cases q;exact PySem.W.kia_one PySem.W.kitx_str I.Vi True.intro e (λz=>nomatch z) h
 | flt y=>obtain⟨t,q⟩:=(show ∃t,u=Value.float y t from d);cases q;exact PySem.W.kia_one PySem.W.kitx_float I.Vi True.intro e (λz=>nomatch z) h
 | @lst a k f =>
  cases (show u=Value.ref a from d);obtain⟨_,_,n,_,g⟩:=(show bH X.prog X.w H s.heap a (.lst k)from I.hok a _ f);exact PySem.W.kia_one PySem.W.kitx_list I.Vi (_,g,rfl) e (λz=>nomatch z) h
 | @Ve a B k f =>
  cases (show u=Value.ref a from d);obtain⟨_,_,_,n,_,g⟩:=(show bH X.prog X.w H s.heap a (.Ve B (.lst k))from I.hok a _ f);exact PySem.W.kia_one PySem.W.kitx_list I.Vi (_,g,rfl) e (λz=>nomatch z) h
 | @tup a k f =>
  cases (show u=Value.ref a from d);obtain⟨_,_,_,p⟩:=(show bH X.prog X.w H s.heap a (.tup k)from I.hok a _ f);obtain⟨o,g,l,_⟩:=p;exact PySem.W.kia_one PySem.W.kitx_tuple I.Vi (o,g,l) e (λz=>nomatch z) h
 | @dK a j f =>
  cases (show u=Value.ref a from d);obtain⟨_,_,N,_,p⟩:=(show bH X.prog X.w H s.heap a (.dK j)from I.hok a _ f);obtain⟨o,L,M,g,l,_⟩:=p;exact PySem.W.kia_one PySem.W.kitx_dict I.Vi (o,g,l.1) e (λz=>nomatch z) h
 | @dT a j f =>
  cases (show u=Value.ref a from d);obtain⟨_,_,k,_,o,L,M,g,l,_⟩:=(show bH X.prog X.w H s.heap a (.dT j)from I.hok a _ f);exact PySem.W.kia_one PySem.W.kitx_dict I.Vi (o,g,l.1) e (λz=>nomatch z) h
 | @ins a C T S f r G D m F =>
  cases (show u=Value.ref a from d);obtain⟨R,O,_⟩:=Nz I.hok f;obtain⟨P,J,_⟩:=O.look;exact PySem.W.kia_one (PySem.W.kitx_own (r.get _) r.hd G D m F) I.Vi J e (λz=>nomatch z) h
end
structure eY(k:Nat)(A:Around):Prop where
 hd:A.handled=none
 dp:A.depth+3*k+5<recursionLimit
 un:A.units+16*k+200<cLine
theorem eY.mono{j k:Nat}{A:Around}(r:eY k A)(h:j<=k):eY j A:=(r.hd,by have:=r.dp;lia,by have:=r.un;lia)
theorem eY.deeper{k:Nat}{A:Around}(r:eY (k+1) A)(a:Env):eY k (A.deeper a):=
 (r.hd,by have:=r.dp;show A.depth+1+3*k+5<_;lia,by have:=r.un;show A.units+3+16*k+200<_;lia)
theorem eY.depth{k:Nat}{A:Around}(r:eY k A):A.depth<recursionLimit:=by have:=r.dp;lia
theorem eY.units{k:Nat}{A:Around}(r:eY k A):A.units+64<cLine:=by have:=r.un;lia
def S9:TA:=λ_ H Q=>Q [] H
def Mz(Q:List V->Hp->Prop)(x:V):List V->Hp->Prop:=λa b=>Q (x::a) b
def KY(a:TA)(σ:St)(Q:List V->Hp->Prop):VK:=λx b=>a σ b (Mz Q x)
def Ql(c:TE)(b:TA):TA:=λ a H Q=>c a H (KY b a Q)
section
variable{X:Cx}{es:List Expr}{te:TE}{t:TA}{pos:Pos}
theorem ak:PA X [] S9:=λ_ _ _ _ H Q I h=>Calls.spliced_nil ([],H,I,.nil,h)
theorem aa(m:PE X e te)(l:PA X es t)(k:starEach (e::es) X.env=(pq false (eval e X.env))::starEach es X.env:=by rfl):PA X (e::es) (Ql te t):=by
 intro pos b s a H Q I h;rw[k];show wpAny _ _ (spliced ((pq false (eval e X.env))::backTo pos (starEach es X.env))) _ _ s;refine Calls.spliced_cons (Uh (m b s a H _ I h) λu d ⟨x,q,o,g,j⟩=>?_);exact Uh (l pos b d a q _ o j) λr v ⟨c,p,n,f,i⟩=>(x::c,p,n,.cons g f,i)
def Nx(Q:VK):List V->Hp->Prop:=λa b=>a.length<=sizeLine /\ ∀p,b p=none->Q (.ref p) (upd b p (.tup a))
def TJ(t:TA):TE:=λ a H Q=>t a H (Nx Q)
def Pz(Q:VK):List V->Hp->Prop:=λa b=>a.length<=sizeLine /\ ∀p,b p=none->Q (.ref p) (upd b p (.lst a))
def Sx(t:TA):TE:=λ a H Q=>t a H (Pz Q)
theorem gf{x1}(h:PA X es t):PE X (.Tuple es x1 pos) (TJ t):=by
 intro g s f H Q I k;refine wpAny_Tuple_spliced (Uh (h pos g s f H _ I k) λj a ⟨i,d,c,r,z,q⟩=>(by rw[<-r.length];exact z,?_));have l:d a.heap.objs.size=none:=c.hok.fresh (aad _);refine(.ref a.heap.objs.size,upd d a.heap.objs.size (.tup i),c.laid (t':=a.toks) (λb u e=>Heap.get?_push_of_some _ e) (aad _) ?_,rfl,q _ l);exact(z,j,r,(_,Heap.get?_push_size _ rfl,rfl,_,rfl))
theorem cX(h:PA X es t):PE X (.List es pos) (Sx t):=by
 intro g s f H Q I k;refine wpAny_List_spliced (Uh (h pos g s f H _ I k) λj a ⟨i,d,c,r,z,q⟩=>(by rw[<-r.length];exact z,?_));have l:d a.heap.objs.size=none:=c.hok.fresh (aad _);refine(.ref a.heap.objs.size,upd d a.heap.objs.size (.lst i),c.laid (t':=a.toks) (λb u e=>Heap.get?_push_of_some _ e) (aad _) ?_,rfl,q _ l);exact(z,j,0,r,Heap.get?_push_size _ rfl)
end
abbrev Sp:=List V->Hp->VK->XK->Prop
abbrev Vl:=List Env->Hp->Shared->XK->Value->Shared->Prop
variable{X:Cx}{H H':Hp}{σ:St}{ta tb te:TE}{t:TA}{sp:Sp}{CX:Vl}{l:List V}{z:Addr->Hp->Prop}{Z:List (List Key×V)}
structure Gm(P:Program)(w:World)(K:PySem.W.Frag)(mg:Str->Option Value)(base:Heap)(A:Around)(outer:List Env)(s:Shared)(H:Hp):Prop where
 frames:A.frames=some outer
 mod:Mod K mg base
 bs:∀b o,base.get? b=some o->s.heap.get? b=some o/\H b=none
 VL:base.objs.size<=s.heap.objs.size
 funs:s.heap.FunFrames base outer
 V8:∀b∈frs outer,H b=none
 hok:Uw P w H s.heap
 bare:AllBare s.gens
inductive CE(outer:List Env)(P:Program)(w:World)(H:Hp)(s:Shared)(Q:VK)(u:Value)(s':Shared):Prop
 | mk (v H':_) (_:s'.os=s.os) (_:AllBare s'.gens) (_:Un (frs outer) [] H H' s.heap s'.heap) (_:Uw P w H' s'.heap) (_:RelV v u) (_:Q v H')
def CR(c:Vl)(a:List Env)(P:Program)(w:World)(H:Hp)(s:Shared)(Q:VK)(E:XK)(r:Result)(b:Shared):Prop:=
 match r with
 | .ok (.ret u)=>CE a P w H s Q u b
 | .ok _=>False
 | .error e=>c a H s E e b
structure aV(P:Program)(w:World)(K:PySem.W.Frag)(mg:Str->Option Value)(base:Heap)(CX:Vl)(k:Nat)(f:Addr)(fd:FuncData)(ps:List Str)(sp:Sp):Prop where
 len:∀vs H Q E,sp vs H Q E->vs.length=ps.length
 run:∀(A:Around) (outer:List Env) (s:Shared) (H:Hp) (args:Args) (us:List Value) (vs:List V) (Q:VK) (E:XK),eY k A->Gm P w K mg base A outer s H->BindsTo s fd args (ps.zip us)->Vals vs us->sp vs H Q E ->
  codeAny (model P w) A (.call (.ref f) args) (CR CX outer P w H s Q E) s
theorem aV.mono{P:Program}{w:World}{K:PySem.W.Frag}{mg:Str->Option Value}{base:Heap}{d:Vl}{j k:Nat}{f:Addr}{fd:FuncData}{ps:List Str}{c:Sp}(F:aV P w K mg base d j f fd ps c)(h:j<=k):
  aV P w K mg base d k f fd ps c:=(F.len,λA a s H b g e Q E i=>F.run A a s H b g e Q E (i.mono h))
section
variable{s':Shared}
theorem Inv.env0(I:Inv X π σ H s):Gm X.prog X.w X.K X.mg X.base X.A X.stack s H:=
 (I.ok.frames,I.ok.mod,I.bs,age I.ok.VL I.sz,I.stack,I.stkFree,I.hok,I.bare)
theorem Inv.after{Q:VK}{u:Value}(I:Inv X π σ H s)(h:CE X.stack X.prog X.w H s Q u s'):EP X π σ Q u s':=by
 obtain⟨v,k,i,a,f,e,r,q⟩:=h;obtain⟨j,g,d,t,c⟩:=s';obtain rfl:c=s.os:=i;exact(v,k,I.call (h':=j) (g':=g) (d':=d) (t':=t) (ch:=[]) f e a (λb z=>absurd z (by simp)),r,q)
end
def M9(b:Sp)(c:List V)(E:XK)(Q:VK):List V->Hp->Prop:=λa d=>b (a++c) d Q E
def Kq(b:Sp)(c:List V)(E:XK)(t:TA):TE:=λ a H Q=>t a H (M9 b c E Q)
def Binds(K:PySem.W.Frag)(fd:FuncData)(ps:List Str)(ds:List Value):Prop:=
 ∀(s:Shared) (a:List Value),K.In s.heap->(a++ds).length=ps.length->BindsTo s fd (a,[]) (ps.zip (a++ds))
theorem Binds.all{fd:FuncData}{ps:List Str}(h:∀a:List Value,a.length=ps.length->bindArgs fd (a,[])=pure (ps.zip a)):Binds K fd ps []:=λs a _ b=>by
 rw[agG]at b ⊢;exact .of_eq (h a b)
def sS(d:Vl)(X:Cx)(E:XK):Prop:=∀(c:List (Addr×Obj)) (b:St) (H:Hp) (s:Shared) (e:Value) (a:Shared),Inv X c b H s->d X.stack H s E e a->X.xe e a
section
variable{k:Nat}{V0:List V}{ds:List Value}{E:XK}{m:Str}{pos:Pos}{es:List Expr}
theorem Q6{σ:St}{s:Shared}{Q:VK}(F:aV X.prog X.w X.K X.mg X.base CX k f fd ps sp)(i:eY k X.A)(n:Binds X.K fd ps ds)(hd:Vals V0 ds)(g:sS CX X E)
  (I:Inv X π σ H s)(r:Vals l u)(h:sp (l++V0) H Q E):wpAny (model X.prog X.w) X.A (call (.ref f) u) (EP X π σ Q) X.xe s:=by
 have c:Vals (l++V0) (u++ds):=r.append hd;have j:(u++ds).length=ps.length:=by rw[<-c.length];exact F.len _ _ _ _ h
 refine wpAny_call (codeAny_mono (F.run X.A X.stack s H (u,[]) (u++ds) (l++V0) Q E i I.env0 (n s u I.Vi j) c h) λr d b=>?_);cases r with
 | error e=>exact g π σ H s e d I b
 | ok q =>
  cases q with
  | ret a=>exact I.after b
  | next=>exact False.elim b
  | brk=>exact False.elim b
  | cont=>exact False.elim b
theorem NP(F:aV X.prog X.w X.K X.mg X.base CX k f fd ps sp)(j:eY k X.A)(u:Gl X x)(l:X.mg x=some (.ref f))(n:PySem.W.keepIn X.K (.ref f)=true)(y:Binds X.K fd ps ds)(hd:Vals V0 ds)(i:sS CX X E)
  (z:PA X (e::es) t)(b:(x == ("__debug__" : Str))=false:=by decide)(v:starEach (e::es) X.env=(pq false (eval e X.env))::starEach es X.env:=by rfl)(a:(backTo pos (starEach es X.env)).any (·.1)=false:=by rfl):
  PE X (.Call (.Name x p) (e::es) [] pos) (Kq sp V0 E t):=by
 intro g s d H Q I h;refine wpAny_Call_Name_kw (Ao I u l ?_ b);refine PySem.W.callWith_K (h₀:=X.base) I.ok.mod.Xp n (Uh (z pos g s d H _ I h) λD G ⟨B,J,c,r,q⟩=>(c.Vi,?_)) v a;exact Q6 F j y hd i c r q
end
section
variable{k:Nat}{ks:List Str}{E:XK}{m:Str}{pos kpos:Pos}{es:List Expr}{kws:List Keyword}{tk:TA}{nm:Option Str}
variable{g:List Value->List Value->List Value}{gV:List V->List V->List V}
end
structure aB(N P:List Str)(sc:Scope):Prop where
 kind:sc.kind=.function
 co:sc.isCoroutine=false
 gen:sc.isGenerator=false
 nd:N.Nodup
 pre:N.take P.length=P
 Wg:∀x∈P,sc.names.lookup x=some .local\/sc.names.lookup x=some .cell
 nofree:∀y∈sc.names,y.2 ≠ .free
def scB(N P:List Str)(a:Scope):Bool:=decide (a.kind=.function) && (!a.isCoroutine && (!a.isGenerator && (decide N.Nodup && (decide (N.take P.length=P) && (P.all (λx=>decide (a.names.lookup x=some .local\/a.names.lookup x=some .cell)) && a.names.all λy=>decide (y.2 ≠ .free))))))
theorem Uk{N :List Str}(h:scB N ps scope=true):aB N ps scope:=by
 simp only[scB,ahs,decide_eq_true_eq,ahI,aiY]at h;exact(h.1,h.2.1,h.2.2.1,h.2.2.2.1,h.2.2.2.2.1,h.2.2.2.2.2.1,h.2.2.2.2.2.2)
theorem yC{a:Str->Option NameKind}{x:Str}:∀{binds:List (Str×Value)} {m:Str->Option Value},(∀v,(pq x v)∉binds)->bindL a binds m x=m x
 | [],_,_=>rfl
 | (n,v)::r,m,h=>by
  unfold bindL;rw[yC λw b=>h w (aaR _ b)];split
  ·have:x≠n:=by rintro rfl;exact h v abE
   simp[this]
  ·rfl
theorem yG{a:Str->Option NameKind}{x:Str}:∀{binds:List (Str×Value)} {m:Str->Option Value},(∀v,(pq x v)∉binds)->bindC a binds m x=m x
 | [],_,_=>rfl
 | (n,v)::r,m,h=>by
  unfold bindC;rw[yG λw b=>h w (aaR _ b)];split
  ·rfl
  ·have:x≠n:=by rintro rfl;exact h v abE
   simp[this]
theorem yL{a:Str->Option NameKind}{x:Str}{v:Value}:∀{P:List Str}{b:List Value}{i:Nat}{m:Str->Option Value},P.Nodup->P[i]?=some x->b[i]?=some v->a x=some .local ->
  bindL a (P.zip b) m x=some v
 | [],_,_,_,_,h,_,_=>by simp at h
 | _::_,[],_,_,_,_,h,_=>by simp at h
 | p::P,w::b,0,m,e,d,c,f=>by
  simp at d c;subst d;subst c;show bindL a ((pq p w)::P.zip b) m p=_;unfold bindL;rw[yC λv g=>(agH.mp e).1 (ahe g).1,if_pos f];simp
 | p::P,w::b,i+1,m,e,d,c,f=>by
  show bindL a ((pq p w)::P.zip b) m x=_;unfold bindL;exact yL (i:=i) (agH.mp e).2 (by simpa using d) (by simpa using c) f
theorem yJ{a:Str->Option NameKind}{x:Str}{v:Value}:∀{P:List Str}{b:List Value}{i:Nat}{m:Str->Option Value},P.Nodup->P[i]?=some x->b[i]?=some v->a x≠some .local ->
  bindC a (P.zip b) m x=some v
 | [],_,_,_,_,h,_,_=>by simp at h
 | _::_,[],_,_,_,_,h,_=>by simp at h
 | p::P,w::b,0,m,e,d,c,f=>by
  simp at d c;subst d;subst c;show bindC a ((pq p w)::P.zip b) m p=_;unfold bindC;rw[yG λv g=>(agH.mp e).1 (ahe g).1,if_neg f];simp
 | p::P,w::b,i+1,m,e,d,c,f=>by
  show bindC a ((pq p w)::P.zip b) m x=_;unfold bindC;exact yJ (i:=i) (agH.mp e).2 (by simpa using d) (by simpa using c) f
def start(N:List Str)(a:List V):St:=a.map some++aaF (N.length - a.length) none
def iw(h:Vl)(P:Program)(w:World)(K:PySem.W.Frag)(mg:Str->Option Value)(base:Heap)(N:List Str)(c:Str)(a:Scope)(f:Addr)(g:Value)(A:Around)(b:List Env)(s:Shared)(H:Hp)(E:XK):Cx where
 prog:=P
 w:=w
 K:=K
 mg:=mg
 base:=base
 A:=A.deeper (envOfC c a s.heap.objs.size f g)
 N:=N
 s₀:=s
 H₀:=H
 env:=envOfC c a s.heap.objs.size f g
 outer:=b
 stack:=envOfC c a s.heap.objs.size f g::b
 ex:=[]
 calm:=true
 fn:=λ_=>true
 pn:=[]
 xe:=λe i=>wpAny (model P w) (A.deeper (envOfC c a s.heap.objs.size f g)) (leaving (envOfC c a s.heap.objs.size f g) e) (λ_ d=>h b H s E e d) (λj d=>h b H s E j d) i
theorem Cw{n:Nat}{x:Str}(h:scope.names.lookup x=some .cell):∃c,(cellsFrom n scope.names []).lookup x=some c:=by
 have q:=PySem.W.cellsFrom_some scope.names n [] (.inl h);exact aig.mp q
theorem yQ{w:World}{mg:Str->Option Value}{base:Heap}{N ps:List Str}{f:Addr}{C:Value}{A:Around}{s F:Shared}{E:XK}
  (S:aB N ps scope)(hd:A.handled=none)(j:Gm prog w K mg base A outer s H)(R:l.length=ps.length)(r:Vals l u)
  (x:InCallC s s.heap.objs.size (bindL (envOfC qual scope s.heap.objs.size f C).kindOf (ps.zip u) λ_=>none) (cellsFrom (s.heap.objs.size+1) scope.names []) (bindC (envOfC qual scope s.heap.objs.size f C).kindOf (ps.zip u) λ_=>none) F):
  Inv (iw CX prog w K mg base N qual scope f C A outer s H E) [] (start N l) H F:=by
 have O:ps.length<=N.length:=by have:=congrArg agD S.pre;rw[aaD]at this;lia
 obtain⟨B,Q,rfl,I⟩:=x.done;have D:∀b:Addr,b∉(iw CX prog w K mg base N qual scope f C A outer s H E).ex:=λb z=>absurd (show b∈([]:List Addr)from z) (by simp);refine((j.mod,S.kind,rfl,rfl,aad _,λy z c B g=>?_,λy m=>?_,λy c _ h=>?_,λ_=>hd,Around.frames_deeper j.frames,.inr (rfl,rfl),λb z=>absurd z (D b),j.bs,j.VL,λb _ _=>D b,λb z=>absurd z (D b),j.funs,j.V8),
  rfl,j.bare,Un.kept I,(_,x.toInCall.ns,λi y v B g T=>?_),λy c h=>(_,x.cell y c h),j.hok.fresh (aad _),λy c h=>?_,λp o=>absurd (show p∈([]:List (Addr×Obj))from o) (by simp),j.hok.kept I,?_)
 ·exact name_of_addr x.apart (PySem.mem_of_lookup B) (PySem.mem_of_lookup g)
 ·have m:scope.names.lookup y=some .cell\/scope.names.lookup y=some .free:=m;rcases m with m|m
  ·exact Cw m
  ·exact absurd rfl (S.nofree _ (PySem.mem_of_lookup m))
 ·exact adG (x.above y c (PySem.mem_of_lookup h))
 ·have t:i<l.length:=by
   unfold start at g;by_cases t:i<l.length
   ·exact t
   ·rw[aar (by simpa using t)]at g;rw[agM]at g;split at g <;> cases g
  have M:l[i]?=some v:=by
   unfold start at g;rw[aax (by simpa using t),aah]at g;cases e:l[i]? with
   | none=>rw[e]at g;cases g
   | some a=>rw[e]at g;cases g;rfl
  obtain⟨d,G,L⟩:=r.get M;have o:ps[i]?=some y:=by
   rw[<-S.pre,acT (by lia)];exact B
  have J:ps.Nodup:=by rw[<-S.pre];exact S.nd.sublist (agQ _ _)
  exists d,L;rcases S.Wg y (aag o)with k|k
  ·exact .inl (k,yL J o G k)
  ·obtain⟨c,e⟩:=Cw (n:=s.heap.objs.size+1) k;refine .inr (.inl k,c,e,?_);have q:=x.cell y c e;rw[yJ J o G (by show scope.names.lookup y≠_;rw[k];decide)]at q;exact q
 ·exact j.hok.fresh (adG (x.above y c (PySem.mem_of_lookup h)))
 ·unfold start;show _=N.length;rw[aaf,aaa,abD];lia
theorem Qh{w:World}{mg:Str->Option Value}{base:Heap}{k:Nat}{f:Addr}{name :Str}{h:Arguments}{i:List Stmt}{kV G Y g Z oc:Value}{an od:Option Addr}
  {R:Array (Option Value)}{N ps:List Str}(lk:K.lookup f=some (oc,od,.func (PySem.W.fnOf name x h i scope r kV G Y an g Z),R))(U:PySem.W.codeIn K g x=true)(S:aB N ps scope)
  (C:∀j H Q E,sp j H Q E->j.length=ps.length)
  (p:∀(A:Around) (d:List Env) (s:Shared) (H:Hp) (j:List V) (Q:VK) (E:XK),eY k (A.deeper (envOfC x scope s.heap.objs.size f g))->sp j H Q E ->
   ∃t,Vf (iw CX prog w K mg base N x scope f g A d s H E) i t/\t { nx:=λ_ H'=>Q .non H',rt:=Q } (start N j) H):
  aV prog w K mg base CX (k+1) f (PySem.W.fnOf name x h i scope r kV G Y an g Z) ps sp:=by
 refine(C,λA d s H a0 us j Q E O B hb a D=>?_);have hl:=C _ _ _ _ D;have KX:K.In s.heap:=B.mod.Xp.keeps λb o e=>(B.bs b o e).1;have T:s.heap.NoLimit:=B.mod.nolimit.keeps λb o e=>(B.bs b o e).1;have m:∀y∈ps.zip us,scope.names.lookup y.1=some .local\/(scope.names.lookup y.1=some .cell/\((cellsFrom (s.heap.objs.size+1) scope.names []).lookup y.1).isSome=true):=λ⟨n,v⟩ hy=>by
  rcases S.Wg n (ahe hy).1 with q|q
  ·exact .inl q
  ·exact .inr (q,PySem.W.cellsFrom_some _ _ _ (.inl q))
 refine codeAny_call_function O.depth (KX _ _ lk) rfl S.co S.gen rfl (PySem.W.codeRec_of KX U) (hb _ _ _ _ ?_);refine wpAny_newFunctionEnv_cells S.kind m λa1 he X c=>?_;subst he;refine(T.keeps c.toInCall.keep,codeAny_func ?_);obtain⟨t,ht,hq⟩:=p A d s H j Q E (O.deeper _) D;have I:Inv (iw CX prog w K mg base N x scope f g A d s H E) [] (start N j) H X:=yQ S O.hd B hl a c;refine wpAny_mono (ht [] X (start N j) H _ I hq) (λfl L z=>?_) λe L z=>z;have F:∀{l:St}{H':Hp}{v:V}{u:Value},Inv (iw CX prog w K mg base N x scope f g A d s H E) [] l H' L->RelV v u->Q v H'->CE d prog w H s Q u L:=
  λ{l H' v u} J M q=>(v,H',J.os,J.bare,J.base,J.hok,M,q)
 cases fl with
 | ret u =>
  obtain⟨v,l,H',J,M,q⟩:=z;exact F J M q
 | next =>
  obtain⟨l,H',J,q⟩:=z;exact F (v:=V.non) (u:=Value.none) J rfl q
 | brk =>
  obtain⟨_,_,_,q⟩:=z;exact False.elim q
 | cont =>
  obtain⟨_,_,_,q⟩:=z;exact False.elim q
section
variable{pos:Pos}{es:List Expr}{id T:String}{r:List V->Hp->VK->Prop}
def QX(r:List V->Hp->VK->Prop)(Q:VK):List V->Hp->Prop:=λa b=>r a b Q
def tCB(r:List V->Hp->VK->Prop)(t:TA):TE:=λ a H Q=>t a H (QX r Q)
theorem aK(u:gD X (.builtin id) r)(o:Gl X x)(n:X.mg x=none)(l:bootBuiltins x=some (.builtin id))(v:PA X (e::es) t)(m:x ≠ "__name__":=by decide)(b:(x == ("__debug__" : Str))=false:=by decide)
  (q:starEach (e::es) X.env=(pq false (eval e X.env))::starEach es X.env:=by rfl)(a:(backTo pos (starEach es X.env)).any (·.1)=false:=by rfl):PE X (.Call (.Name x p) (e::es) [] pos) (tCB r t):=by
 intro d s c H Q I h;refine wpAny_Call_Name_kw (eO I o n l ?_ m b);exact PyProof.Rows.callWith_builtin1 (Uh (v pos d s c H _ I h) λg i ⟨f,y,w,j,k⟩=>u d i c y f g Q w j k) q a
theorem cU(u:gD X (.type T) r)(o:Gl X x)(n:X.mg x=none)(l:bootBuiltins x=some (.type T))(v:PA X (e::es) t)(m:x ≠ "__name__":=by decide)(b:(x == ("__debug__" : Str))=false:=by decide)
  (q:starEach (e::es) X.env=(pq false (eval e X.env))::starEach es X.env:=by rfl)(a:(backTo pos (starEach es X.env)).any (·.1)=false:=by rfl):PE X (.Call (.Name x p) (e::es) [] pos) (tCB r t):=by
 intro d s c H Q I h;refine wpAny_Call_Name_kw (eO I o n l ?_ m b);exact PyProof.Rows.callWith_type1 (Uh (v pos d s c H _ I h) λg i ⟨f,y,w,j,k⟩=>u d i c y f g Q w j k) q a
end
end L2
section
open PySem L2
variable{s:Shared}{w:World}{A:Around}{E:Value->Shared->Prop}{prog:Program}{π:List (Addr×Obj)}{e o b tg:Expr}{K:PySem.W.Frag}{a f C S c dx Pt:Addr}{h' base h:Heap}{mg:Str->Option Value}{x qual name:Str}{N ps:List Str}{scope:Scope}{fd:FuncData}{p apos:Pos}{st:Stmt}{outer:List Env}{n i Q:Nat}{d M:List Int}{g:List Addr}{j:Array Keyed}{m:Int}{q:List Nat}{r:Value}{u:List Value}{v:List (List Nat)}{y:List (Str×Addr)}{B:List Expr}{D:Array Value}{G:List (Str×Nat)}{I:SortSt}{J:Type}{O:SetTable}{R:Option Value->Shared->Prop}{T:Value->Addr->Result->Shared->Prop}{U:List (Int×Value)}{Y:Option Nat->SortSt->Prop}{X:Cx}{H H':Hp}{σ:St}{ta tb te:TE}{t:TA}{sp:Sp}{CX:Vl}{l:List V}{z:Addr->Hp->Prop}{Z:List (List Key×V)}
namespace HT
open PyProof.Rows
section
open PySem.SeqAt
open PySem.AutoSeq1 (wpAny_loadPart')
open PySem.MeetsSeq PySem.MeetsSeq2 PySem.MeetsSeq3
end
def UJ(n d:Nat):Option Int->Nat
 | none=>d
 | some v=>if v<0 then (v+(n:Int)).toNat else min v.toNat n
theorem jY(n d:Nat):UJ n d none=d:=rfl
theorem jr(n d k:Nat):UJ n d (some (k:Int))=min k n:=by
 show (if (k:Int)<0 then ((k:Int)+(n:Int)).toNat else min (k:Int).toNat n)=min k n;rw[if_neg (by lia),acb]
theorem Q7(n d:Nat)(hd:d<=n)(o:Option Int):UJ n d o<=n:=by
 cases o with
 | none=>exact hd
 | some v =>
  show (if v<0 then (v+(n:Int)).toNat else min v.toNat n)<=n;by_cases a:v<0
  ·rw[if_pos a];lia
  ·rw[if_neg a];exact Nat.min_le_right _ _
end HT
namespace L2
open PySem.Spec PyProof.Rows
abbrev TO:=St->Hp->(Option Int->Hp->Prop)->Prop
def PO(X:Cx)(e:Option Expr)(t:TO):Prop:=
 ∀(b:List (Addr×Obj)) (s:Shared) (a:St) (H:Hp) (Q:Option Int->Hp->Prop),Inv X b a H s->t a H Q ->
  wpAny (model X.prog X.w) X.A (evalPart e X.env) (λu d=>∃o c,Inv X b a c d/\IsPart u o/\Q o c) X.xe s
def P0:TO:=λ_ H Q=>Q none H
inductive N5(Q:Option Int->Hp->Prop)(x:V)(H1:Hp):Prop
 | mk (i:_) (_:x=.int i) (_:Q (some i) H1)
def RX(t:TE):TO:=λ a H Q=>t a H (N5 Q)
theorem intsAre_of:∀{a:List Value},Vals (d.map V.int) a->IntsAre a d:=by
 induction d with
 | nil=>intro a r;rw[aia]at r;cases r;exact .nil
 | cons n d f =>
  intro a r;rw[aay]at r;cases r with
  | cons c b =>
   obtain⟨t,e⟩:=c;subst e;exact .cons n t (f b)
section
variable{lo hi:Option Expr}{tl th:TO}{pos p2:Pos}
theorem dH:PO X none P0:=by
 intro b s a H Q I h;rw[evalPart_none];exact wpAny_pure (none,H,I,.none,h)
theorem cD(h:PE X e te):PO X (some e) (RX te):=by
 intro b s a H Q I f;rw[evalPart_some];refine Uh (h b s a H _ I f) λu k ⟨x,j,g,c,d⟩=>?_;obtain⟨i,rfl,q⟩:=d;obtain⟨t,rfl⟩:=c;exact(some i,j,g,.int i t,q)
def Yn(X:Cx)(r:V->Option Int->Option Int->Hp->VK->Prop):Prop:=
 ∀(b:List (Addr×Obj)) (s:Shared) (a:St) (H:Hp) (x:V) (v d c:Value) (lo hi:Option Int) (f:Addr) (Q:VK),Inv X b a H s->RelV x v->s.heap.IsSliceOf f d c .none->IsPart d lo->IsPart c hi->r x lo hi H Q ->
  ∃T g,typeLookup (.type T) "__getitem__" = pure (some (.builtin g))/\s.TypeIs v T/\wpAny (model X.prog X.w) X.A (getItem v (.ref f)) (EP X b a Q) X.xe s
def Rv(r:V->Option Int->Option Int->Hp->VK->Prop)(Q:VK)(x:V)(l:Option Int):Option Int->Hp->Prop:=λu a=>r x l u a Q
def QM(r:V->Option Int->Option Int->Hp->VK->Prop)(th:TO)(σ:St)(Q:VK)(x:V):Option Int->Hp->Prop:=λl a=>th σ a (Rv r Q x l)
def Rw(r:V->Option Int->Option Int->Hp->VK->Prop)(tl:TO)(th:TO)(σ:St)(Q:VK):VK:=λx a=>tl σ a (QM r th σ Q x)
def tSl(r:V->Option Int->Option Int->Hp->VK->Prop)(te:TE)(tl th:TO):TE:=λ a H Q=>te a H (Rw r tl th a Q)
theorem b8{r:V->Option Int->Option Int->Hp->VK->Prop}(B:Yn X r)(E:PE X e te)(C:PO X lo tl)(z:PO X hi th):PE X (.Subscript e (.Slice lo hi none p2) pos) (tSl r te tl th):=by
 intro d s c H Q I h;refine Subscript_ (Uh (E d s c H _ I h) λv k ⟨x,N,L,m,p⟩=>?_);refine wpAny_Slice (Uh (C d k c N _ L p) λg j ⟨l,M,K,y,o⟩=>Uh (z d j c M _ K o) λf a ⟨u,i,J,t,n⟩=>?_);rw[evalPart_none];refine wpAny_pure ?_
 have G:Inv X d c i { a with heap:=a.heap.push { cls:=.type "slice",data:=.fields #[g,f,.none] } }:=J.kept (t':=a.toks) λb O q=>Heap.get?_push_of_some _ q
 obtain⟨T,P,F,ht,D⟩:=B d { a with heap:=a.heap.push { cls:=.type "slice",data:=.fields #[g,f,.none] } } c i x v g f l u a.heap.objs.size Q G m (Heap.IsSliceOf.new ..) y t n
 show wpAny (model X.prog X.w) X.A (subscriptTail e (.Slice lo hi none p2) v (.ref a.heap.objs.size)) (EP X d c Q) X.xe { a with heap:=a.heap.push { cls:=.type "slice",data:=.fields #[g,f,.none] } }
 exact tail_any (ops:=[.ref a.heap.objs.size,v]) ht F D (by with_unfolding_all rfl)
def dm(xs:List V)(lo hi:Option Int):List V:=(xs.drop (HT.UJ xs.length 0 lo)).take (HT.UJ xs.length xs.length hi - HT.UJ xs.length 0 lo)
theorem DK(xs:List V)(lo hi:Option Int):(dm xs lo hi).length<=xs.length:=by
 unfold dm;rw[aaD,ab9];lia
end
def VM(n:Nat)(i:Int):Option Nat:=if 0<=i then (if i<n then some i.toNat else none)else if -(n:Int)<=i then some (i+n).toNat else none
def UT{a:Type}(xs:List a)(i:Int):Option a:=(VM xs.length i).bind λj=>xs[j]?
theorem Hz{n:Nat}{i:Int}{j:Nat}(h:VM n i=some j):seqIndex? i n=some j/\j<n /\ -(n:Int)<=i/\i<n:=by
 unfold VM at h;by_cases b:0<=i
 ·rw[if_pos b]at h;by_cases a:i<n
  ·rw[if_pos a]at h;have e:i.toNat=j:=aao h;exact(by rw[seqIndex_of b a,e],by lia,by lia,a)
  ·rw[if_neg a]at h;cases h
 ·rw[if_neg b]at h;by_cases a : -(n:Int)<=i
  ·rw[if_pos a]at h;have e:(i+n).toNat=j:=aao h;exact(by rw[seqIndex_neg (by lia) a,e],by lia,a,by lia)
  ·rw[if_neg a]at h;cases h
theorem Aw{xs:List J}{i:Int}{v:J}(h:UT xs i=some v):∃j,seqIndex? i xs.length=some j/\xs[j]?=some v/\j<xs.length /\ -(xs.length:Int)<=i/\i<xs.length:=by
 unfold UT at h;cases e:VM xs.length i with
 | none=>rw[e]at h;cases h
 | some j =>
  rw[e]at h;obtain⟨d,c,b,a⟩:=Hz e;exact(j,d,h,c,b,a)
theorem kh{xs:List J}{j:Nat}{v:J}(h:xs[j]?=some v):UT xs (j:Int)=some v:=by
 have a:j<xs.length:=(aab.mp h).1;have e:VM xs.length (j:Int)=some j:=by
  unfold VM;rw[if_pos (by lia),if_pos (by lia)];simp
 unfold UT;rw[e];exact h
theorem mV(xs:List J)(v:J):UT (xs++[v]) (-1)=some v:=by
 have a:(xs++[v]).length=xs.length+1:=by simp
 have e:VM (xs++[v]).length (-1)=some xs.length:=by
  unfold VM;rw[a,if_neg (by decide),if_pos (by lia)];congr 1;lia
 unfold UT;rw[e];show (xs++[v])[xs.length]?=some v;simp
def Pg(b:Expr):Prop:=∀o i,subscripted b false o i=operate [o,i] (getItem o i)
def Yo(X:Cx)(r:R2):Prop:=
 ∀(b a:Expr) (d:List (Addr×Obj)) (s:Shared) (c:St) (H:Hp) (x y:V) (v u:Value) (Q:VK),Inv X d c H s->RelV x v->RelV y u->r x y H Q ->
  subscripted a false v u=operate [v,u] (getItem v u)->wpAny (model X.prog X.w) X.A (subscriptTail b a v u) (EP X d c Q) X.xe s
def Xy(X:Cx)(id:String)(r:V->List V->Hp->VK->Prop):Prop:=
 ∀(b:List (Addr×Obj)) (s:Shared) (a:St) (H:Hp) (x:V) (c:List V) (v:Value) (d:List Value) (Q:VK),Inv X b a H s->RelV x v->Vals c d->r x c H Q ->
  wpAny (model X.prog X.w) X.A (call (.builtin id) (v::d)) (EP X b a Q) X.xe s
section
variable{a:Expr}{pos:Pos}
theorem aR{r:R2}(j:Yo X r)(l:PE X a ta)(k:PE X b tb)(i:Pg b:=by exact λ_ _=>rfl):PE X (.Subscript a b pos) (Xw r ta tb):=by
 intro d s c H Q I h;exact Subscript_ (RG l k I h λv u e x y n m g f q=>j a b d e c n x y v u Q m g f q (i _ _))
inductive Ua(K:PySem.W.Frag)(x:V)(y:V)(H:Hp)(Q:VK):Prop
 | mk (p xs i v:_) (_:x=.ref p) (_:y=.int i) (_:My K H p xs) (_:UT xs i=some v) (_:Q v H)
inductive Tf(K:PySem.W.Frag)(x:V)(y:V)(H:Hp)(Q:VK):Prop
 | mk (p xs i v:_) (_:x=.ref p) (_:y=.int i) (_:Uj K H p xs) (_:UT xs i=some v) (_:Q v H)
inductive Ud(x:V)(y:V)(H:Hp)(Q:VK):Prop
 | mk (z i c:_) (_:x=.str z) (_:y=.int i) (_:z.length<=sizeLine) (_:UT z.cps.toList i=some c) (_:Q (.str ⟨#[c]⟩) H)
theorem gr:Yo X (Ua X.K):=by
 intro k l n s m H x y v u Q I E D h o;obtain⟨p,P,i,z,rfl,rfl,F,J,q⟩:=h;cases E;obtain⟨t,rfl⟩:=D;obtain⟨g,r,e,R⟩:=I.list F;obtain⟨j,d,N,T,M,L⟩:=Aw J;obtain⟨w,B,O⟩:=r.get N;have G:=r.length;have S:=rG;have c:EP X n m Q w s:=(z,H,I,O,q);by_cases A:0<=i
 ·have f:i.toNat=j:=by
   rw[seqIndex_of A L]at d;exact aao d
  exact item_listR e.isList A (by lia) (by rw[f];simpa using B) c o
 ·have f:(i+(g.toArray.size:Int)).toNat=j:=by
   rw[seqIndex_neg (by lia) M]at d;rw[aaA,<-G];exact aao d
  exact subscriptTail_builtinR (x:=w) e.isList.typeIs slot_list_getitem.lookup
   (wpAny_getItem_list_neg (Q:=λr C=>r=w/\EP X n m Q r C) e.isList (by lia) (by rw[aaA] <;> lia) (by lia) (by rw[f];simpa using B) (rfl,c)) o
theorem aP:Yo X (Tf X.K):=by
 intro d e g s f H x y v u Q I n m h o;obtain⟨p,L,i,z,rfl,rfl,A,C,q⟩:=h;cases n;obtain⟨t,rfl⟩:=m;obtain⟨J,r,k,M⟩:=I.tuple A;obtain⟨j,E,D,R,P,O⟩:=Aw C;obtain⟨w,F,G⟩:=r.get D;have B:=r.length;have N:=rG;have c:EP X g f Q w s:=(z,H,I,G,q);exact subscriptTail_builtinR (x:=w) k.typeIs slot_tuple_getitem.lookup
  (getItem_tuple (j:=j) (Q:=λr l=>r=w/\EP X g f Q r l) k (by lia) (by lia) (by rw[aaA,<-B];exact E) (by simpa using F) (rfl,c)) o
theorem zq:Yo X Ud:=by
 intro d e C s B H x y v u Q I k g h l;obtain⟨z,i,c,rfl,rfl,E,n,q⟩:=h;obtain⟨t,rfl⟩:=k;obtain⟨D,rfl⟩:=g;obtain⟨j,f,r,G,p,o⟩:=Aw n;have m:z.cps.toList.length=z.length:=by simp[Str.length]
 rw[m]at f p o;have F:=rG;exact tail_any (typeIs_str s z t) slot_str_getitem.lookup (getItem_str (c:=c) (by
  have A:decide (i < -(2^63:Int))=false:=decide_eq_false (by lia);have w:decide (i >= 2^63)=false:=decide_eq_false (by lia);rw[A,w,aik]) (by rw[f];simpa using r) (.str ⟨#[c]⟩,H,I.tok _,(_,rfl),q)) l
theorem Gh(c:List Value)(n j:Nat)(u:Value):Obj.mapSeq (·.setIfInBounds j u) { cls:=.type "list",data:=.seq c.toArray n }={ cls:=.type "list",data:=.seq (c.set j u).toArray n }:=by
 simp[Obj.mapSeq]
theorem Inv.lst{σ:St}{s:Shared}{p:Addr}{xs:List V}(I:Inv X π σ H s)(h:H p=some (.lst xs)):
  ∃(c:List Value) (n:Nat),Vals xs c/\s.heap.get? p=some { cls:=.type "list",data:=.seq c.toArray n }/\xs.length<=sizeLine:=by
 obtain⟨z,c,n,r,e⟩:=I.hok p _ h;exact(c,n,r,e,z)
theorem Inv.lstUpd{σ:St}{s:Shared}{p:Addr}{xs ys:List V}{its':List Value}{n :Nat}{f:Obj->Obj}(I:Inv X π σ H s)(h:H p=some (.lst xs))
  (g:s.heap.get? p=some { cls:=.type "list",data:=.seq u.toArray n })(d:f { cls:=.type "list",data:=.seq u.toArray n }={ cls:=.type "list",data:=.seq its'.toArray i })(r:Vals ys its')(hz:ys.length<=sizeLine)(t:Nat):
  Inv X π σ (upd H p (.lst ys)) { s with heap:=s.heap.update p f,toks:=t }:=by
 have e:(s.heap.update p f).get? p=some { cls:=.type "list",data:=.seq its'.toArray i }:=by
  rw[Heap.get?_update_self f g (by rw[d] <;> rfl),d]
 refine I.write (x:=p) (e:=p) (by rw[h];trivial) (.inl rfl) (λb c j q=>(Heap.get?_update_other _ _ (ags j)).trans q) (_,e) ?_;exact(hz,its',i,r,e)
inductive S7(o:V)(i:V)(v:V)(H:Hp)(Q:Hp->Prop):Prop
 | mk (p xs k j:_) (_:o=.ref p) (_:i=.int k) (_:H p=some (.lst xs)) (_:VM xs.length k=some j) (_:Q (upd H p (.lst (xs.set j v))))
theorem set_list:SN X S7:=by
 intro A s z H o i v J K u Q I D E C h;obtain⟨p,B,k,j,rfl,rfl,l,G,q⟩:=h;cases D;obtain⟨t,rfl⟩:=E;obtain⟨c,n,r,e,F⟩:=I.lst l;obtain⟨d,M,w,m⟩:=Hz G;have f:=r.length;have L:=rG;have y:Inv X A z (upd H p (.lst (B.set j v))) { s with heap:=s.heap.update p (Obj.mapSeq (·.setIfInBounds j u)) }:=
  I.lstUpd l e (Gh c n j u) (r.set C j) (by rw[ai6];exact F) s.toks
 by_cases x:0<=k
 ·have g:k.toNat=j:=by
   rw[seqIndex_of x m]at d;exact aao d
  exact PySem.W.ki_setAt e x (by lia) (by rw[aaA,<-f];exact m) (by rw[g];exact(_,y,q))
 ·have g:(k+(c.toArray.size:Int)).toNat=j:=by
   rw[seqIndex_neg (by lia) w]at d;rw[aaA,<-f];exact aao d
  exact PySem.W.ki_setBack e (by lia) (by rw[aaA,<-f];exact w) (by lia) (by rw[g];exact(_,y,q))
theorem zJ(lo c:Option Int)(n:Nat):(sliceBounds lo c none n).1=((HT.UJ n 0 lo:Nat):Int)/\(sliceBounds lo c none n).2.1=((HT.UJ n n c:Nat):Int)/\(sliceBounds lo c none n).2.2=1:=by
 refine(?_,?_,rfl)
 ·cases lo with
  | none=>simp[sliceBounds,HT.UJ]
  | some i =>
   simp only[sliceBounds,HT.UJ,aiZ,show (1:Int) > 0 by decide,if_true];by_cases h:i<0
   ·simp only[h,if_true] <;> lia
   ·simp only[h,if_false] <;> lia
 ·cases c with
  | none=>simp[sliceBounds,HT.UJ]
  | some i =>
   simp only[sliceBounds,HT.UJ,aiZ,show (1:Int) > 0 by decide,if_true];by_cases h:i<0
   ·simp only[h,if_true] <;> lia
   ·simp only[h,if_false] <;> lia
theorem xY(c:List Value)(lo d:Option Int):slicePick c.toArray lo d none=((c.drop (HT.UJ c.length 0 lo)).take (HT.UJ c.length c.length d - HT.UJ c.length 0 lo)).toArray:=by
 obtain⟨g,f,e⟩:=zJ lo d c.toArray.size;unfold slicePick;rw[g,f,e];simp only[sliceRange_one,pick_run,aaA] <;> rfl
inductive SM(K:PySem.W.Frag)(x:V)(lo:Option Int)(hi:Option Int)(H:Hp)(Q:VK):Prop
 | mk (a xs:_) (_:x=.ref a) (_:My K H a xs) (_:∀p,H p=none->Q (.ref p) (upd H p (.lst (dm xs lo hi))))
theorem n8:Yn X (SM X.K):=by
 intro t s p H x v w u e f y Q I g m j i h;obtain⟨a,c,rfl,l,q⟩:=h;cases g;obtain⟨n,r,ht,k⟩:=I.list l;have d:=r.length
 exists "list",_,slot_list_getitem.lookup,ht.isList.typeIs
 refine wpAny_getItem_list_slice ht.isList m j i .none (by simp) ?_ (by rw[aaA] <;> lia);rw[xY,<-d];refine(.ref s.heap.objs.size,_,I.laid (t':=s.toks) (o:=.lst (dm c e f)) (λb z q=>Heap.get?_push_of_some _ q) (aad _) ?_,rfl,q _ (I.hok.fresh (aad _)));exact(age (DK c e f) k,_,0,(r.drop (HT.UJ c.length 0 e)).take (HT.UJ c.length c.length f - HT.UJ c.length 0 e),Heap.get?_push_size _ rfl)
def pD:V->Bool
 | .non=>true
 | .bl _=>true
 | .int _=>true
 | .str _=>true
 | _=>false
def VN:V->V->Bool
 | .non,.non=>true
 | .bl a,.bl b=>a == b
 | .bl a,.int b=>(if a then 1 else 0) == b
 | .int a,.bl b=>a == (if b then 1 else 0)
 | .int a,.int b=>a == b
 | .str a,.str b=>a == b
 | _,_=>false
theorem RC{A:Around}{s:Shared}{y x:V}{u v:Value}(e:RelV y u)(c:RelV x v)(g:pD y=true)(f:pD x=true):SeqAt.EqAt A s u v (VN y x):=by
 cases y with
 | non =>
  cases e;cases x with
  | non=>cases c;exact SeqAt.EqAt.same _
  | bl b=>cases c;exact SeqAt.EqAt.none_bool b
  | int b=>obtain⟨t,rfl⟩:=c;exact SeqAt.EqAt.none_int b t
  | str b=>obtain⟨t,rfl⟩:=c;exact SeqAt.EqAt.none_str b t
  | _=>exact absurd (show false=true from f) aap
 | bl a =>
  cases e;cases x with
  | non=>cases c;exact SeqAt.EqAt.bool_none a
  | bl b=>cases c;exact SeqAt.EqAt.bool_bool a b
  | int b=>obtain⟨t,rfl⟩:=c;exact SeqAt.EqAt.bool_int a b t
  | str b=>obtain⟨t,rfl⟩:=c;exact SeqAt.EqAt.bool_str a b t
  | _=>exact absurd (show false=true from f) aap
 | int a =>
  obtain⟨d,rfl⟩:=e;cases x with
  | non=>cases c;exact SeqAt.EqAt.int_none a d
  | bl b=>cases c;exact SeqAt.EqAt.int_bool a d b
  | int b=>obtain⟨t,rfl⟩:=c;exact SeqAt.EqAt.int_int a d b t
  | str b=>obtain⟨t,rfl⟩:=c;exact SeqAt.EqAt.int_str a d b t
  | _=>exact absurd (show false=true from f) aap
 | str a =>
  obtain⟨d,rfl⟩:=e;cases x with
  | non=>cases c;exact SeqAt.EqAt.str_none a d
  | bl b=>cases c;exact SeqAt.EqAt.str_bool a d b
  | int b=>obtain⟨t,rfl⟩:=c;exact SeqAt.EqAt.str_int a d b t
  | str b=>obtain⟨t,rfl⟩:=c;exact SeqAt.EqAt.str_str a d b t
  | _=>exact absurd (show false=true from f) aap
 | _=>exact absurd (show false=true from g) aap
def Wi(x:V)(u:Value):Bool:=match u with
 | .none=>VN .non x
 | .bool b=>VN (.bl b) x
 | .int i _=>VN (.int i) x
 | .str z _=>VN (.str z) x
 | _=>false
theorem Lw{x y:V}{u:Value}(r:RelV y u)(f:pD y=true):Wi x u=VN y x:=by
 cases y with
 | non=>cases r;rfl
 | bl b=>cases r;rfl
 | int i=>obtain⟨t,rfl⟩:=r;rfl
 | str z=>obtain⟨t,rfl⟩:=r;rfl
 | _=>exact absurd (show false=true from f) aap
theorem An{x:V}:∀{xs:List V}{c:List Value},Vals xs c->xs.all pD=true->c.any (Wi x)=xs.any λy=>VN y x
 | _,_,.nil,_=>rfl
 | y::xs,u::c,.cons r t,f=>by
  rw[aiJ,ahs]at f;rw[ahA,ahA,Lw r f.1,An t f.2]
theorem wW{A:Around}{s:Shared}{x:V}{v:Value}(e:RelV x v)(g:pD x=true):∀{xs:List V}{d:List Value},Vals xs d->xs.all pD=true -> ∀u∈d,SeqAt.EqAt A s u v (Wi x u)
 | _,_,.nil,_=>λu c=>by cases c
 | y::xs,u::d,.cons r t,f=>λh c=>by
  rw[aiJ,ahs]at f;rcases aaQ.mp c with rfl|c
  ·rw[Lw r f.1];exact RC r e f.1 g
  ·exact wW e g t f.2 h c
def inV(x:V)(xs:List V):Bool:=xs.any λy=>VN y x
inductive rIn(K:PySem.W.Frag)(neg:Bool)(x:V)(y:V)(H:Hp)(Q:VK):Prop
 | mk (p xs:_) (_:y=.ref p) (_:(My K H p xs\/Uj K H p xs)) (_:pD x=true) (_:xs.all pD=true) (_:Q (.bl (if neg then !inV x xs else inV x xs)) H)
theorem Ar:Uz X (compareOp .NotIn) (rIn X.K true):=by
 intro n s m H x y v u Q I i k h;obtain⟨p,o,rfl,d,j,e,q⟩:=h;cases k;rcases d with d|d
 ·obtain⟨c,r,f,l⟩:=I.list d;refine SeqAt.notIn_listAt (Wi x) f.isList (λw g=>wW i j r e w (by simpa using g)) (.bl _,H,I,rfl,?_);rw[show c.toArray.any (Wi x)=c.any (Wi x) by simp,An r e];exact q
 ·obtain⟨c,r,f,l⟩:=I.tuple d;refine SeqAt.notIn_tupleAt (Wi x) f (λw g=>wW i j r e w (by simpa using g)) (.bl _,H,I,rfl,?_);rw[show c.toArray.any (Wi x)=c.any (Wi x) by simp,An r e];exact q
theorem Ai:Uz X (compareOp .NotIn) (λx y H Q=>∃i j,x=.str i/\y=.str j/\Q (.bl (!(!(Builtin.Str.occurrences j i 0 j.length 1).isEmpty))) H):=by
 intro f s e H x y v u Q I d c h;obtain⟨i,j,rfl,rfl,q⟩:=h;obtain⟨t,rfl⟩:=d;obtain⟨g,rfl⟩:=c;exact notIn_str (.bl _,H,I,rfl,q)
theorem aL:gD X (.builtin "len") (λxs H Q=>∃p ys,xs=[.ref p]/\(My X.K H p ys\/Uj X.K H p ys)/\Q (.int ys.length) H):=by
 intro l s k H xs m Q I r h;obtain⟨p,ys,rfl,d,q⟩:=h;obtain⟨u,rfl,i⟩:=vals1 r;cases i;have n:=rG;rcases d with d|d
 ·obtain⟨g,e,f,j⟩:=I.list d;have c:=e.length;exact Calls.call_len_list f.isList (by simp only[aaA] <;> lia) (.int ys.length,H,I.tok _,(s.toks+1,by rw[aaA,c]),q)
 ·obtain⟨g,e,f,j⟩:=I.tuple d;have c:=e.length;exact len_tuple f (by simp only[aaA] <;> lia) (.int ys.length,H,I.tok _,(s.toks+1,by rw[aaA,c]),q)
theorem bA:gD X (.builtin "len") (λxs H Q=>∃z,xs=[.str z]/\z.length<=sizeLine/\Q (.int z.length) H):=by
 intro d s c H xs e Q I r h;obtain⟨z,rfl,f,q⟩:=h;obtain⟨u,rfl,t,rfl⟩:=vals1 r;have g:=rG;exact len_str (by lia) (.int z.length,H,I.tok _,(_,rfl),q)
theorem kY:gD X (.type "list") (λxs H Q=>∃p ys,xs=[.ref p]/\(My X.K H p ys\/Uj X.K H p ys) /\ ∀l,H l=none->Q (.ref l) (upd H l (.lst ys))):=by
 intro B s A H xs D Q I r h;obtain⟨p,ys,rfl,k,q⟩:=h;obtain⟨u,rfl,C⟩:=vals1 r;cases C;have m:∀(c:List Value),Vals ys c->ys.length<=sizeLine -> ∀(d:Heap) (g:Nat),(∀b z,s.heap.get? b=some z->d.get? b=some z) ->
   d.get? s.heap.objs.size=some { cls:=.type "list",dict:=none,data:=.seq c.toArray g,slots:=#[] }->EP X B A Q (.ref s.heap.objs.size) { s with heap:=d }:=λc f j d g i e =>
  (.ref s.heap.objs.size,_,I.laid (t':=s.toks) i (aad _) (show bH X.prog X.w _ d _ (.lst ys)from (j,c,g,f,e)),rfl,q _ (I.hok.fresh (aad _)))
 rcases k with k|k
 ·obtain⟨c,f,v,j⟩:=I.list k;have t:=f.length;obtain⟨o,x,y,n,hd⟩:=v.isList;exact call_list_seq p (.inl rfl) x y hd (λd g i e=>m c f j d g i e) (by simp only[aaA] <;> lia)
 ·obtain⟨c,f,v,j⟩:=I.tuple k;have t:=f.length;obtain⟨o,x,y,n,hd⟩:=v;exact call_list_seq p (.inr rfl) x y hd (λd g i e=>m c f j d g i e) (by simp only[aaA] <;> lia)
theorem gn:gD X (.type "tuple") (λxs H Q=>∃p ys,xs=[.ref p]/\((My X.K H p ys /\ ∀l,H l=none->Q (.ref l) (upd H l (.tup ys)))\/(Uj X.K H p ys/\Q (.ref p) H))):=by
 intro k s j H xs z Q I r h;obtain⟨p,ys,rfl,h⟩:=h;obtain⟨u,rfl,v⟩:=vals1 r;cases v;rcases h with ⟨i,q⟩|⟨i,q⟩
 ·obtain⟨c,f,g,m⟩:=I.list i;have t:=f.length;refine call_tuple_list g.isList (λd x=>?_) (by simp only[aaA] <;> lia);have n:Inv X k j H { s with heap:=d }:=I.kept (t':=s.toks) x
  have y:Inv X k j (upd H d.objs.size (.tup ys)) { s with heap:=d.push { cls:=.type "tuple",data:=.seq c.toArray } }:=
   n.laid (t':=s.toks) (λb o e=>Heap.get?_push_of_some _ e) (aad _) (show bH X.prog X.w _ _ _ (.tup ys)from (m,c,f,IsTup.new _ _))
  exact(.ref d.objs.size,_,y,rfl,q _ (n.hok.fresh (aad _)))
 ·obtain⟨c,f,g,m⟩:=I.tuple i;exact call_tuple_same g (.ref p,H,I,rfl,q)
def Zj(K:PySem.W.Frag)(T:String)(x:V)(H:Hp):Prop:=match x with
 | .str _=>T = "str"
 | .int _=>T = "int"
 | .ref p=>(T = "list" /\ ∃d,My K H p d)\/(T = "tuple" /\ ∃o,K.lookup p=some o/\o.cls=.type "tuple" /\ o.dict=none) \/
   (T = "dict" /\ ((∃c,H p=some (.dK c)) \/ ∃c,H p=some (.dT c)))\/(T = "set" /\ ∃S n,H p=some (.set S n))
 | _=>False
theorem Kz{σ:St}{s:Shared}{T:String}{x:V}{v:Value}(I:Inv X π σ H s)(r:RelV x v)(g:Zj X.K T x H):
  s.TypeIs v T /\ ∀a,v=.ref a -> ∃l,s.heap.get? a=some l/\l.dict=none:=by
 cases x with
 | str z =>
  obtain⟨t,rfl⟩:=r
  cases (show T = "str" from g)
  exact(typeIs_str s z t,λ_ e=>nomatch e)
 | int i =>
  obtain⟨t,rfl⟩:=r
  cases (show T = "int" from g)
  exact(typeIs_int s i t,λ_ e=>nomatch e)
 | ref p =>
  cases r;rcases g with ⟨rfl,w,m⟩|⟨rfl,o,d,q,hd⟩|⟨rfl,d⟩|⟨rfl,S,n,d⟩
  ·obtain⟨u,_,k,_⟩:=I.list m;refine(k.isList.typeIs,λa e=>?_);cases e;obtain⟨o,n,e,c,hd,_⟩:=k;exact(o,e,hd)
  ·refine((o,I.Vi p o d,q),λa e=>?_);cases e;exact(o,I.Vi _ o d,hd)
  ·have z:∃o,s.heap.get? p=some o/\o.ExactDict:=by
    rcases d with ⟨j,d⟩|⟨j,d⟩
    ·obtain⟨_,_,_,_,o,_,_,e,f,_⟩:=I.hok p _ d;exact(o,e,f)
    ·obtain⟨_,_,_,_,o,_,_,e,f,_⟩:=I.hok p _ d;exact(o,e,f)
   obtain⟨o,e,f⟩:=z;refine((o,e,f.1),λa h=>?_);cases h;exact(o,e,f.2.1)
  ·obtain⟨o,_,_,_,e,f,_⟩:=I.hok p _ d;refine((o,e,f.1),λa h=>?_);cases h;exact(o,e,f.2.1)
 | _=>exact False.elim g
def OJ(K:PySem.W.Frag)(T:String)(r:V->List V->Hp->VK->Prop)(Q:VK):VK:=λx c=>Zj K T x c/\r x [] c Q
def Tr(K:PySem.W.Frag)(T:String)(r:V->List V->Hp->VK->Prop)(d:TE):TE:=λ c H Q=>d c H (OJ K T r Q)
def QH(K:PySem.W.Frag)(T:String)(r:V->List V->Hp->VK->Prop)(t:TA)(σ:St)(Q:VK):VK:=λx c=>Zj K T x c/\t σ c λd e=>r x d e Q
def Zk(K:PySem.W.Frag)(T:String)(r:V->List V->Hp->VK->Prop)(d:TE)(t:TA):TE:=λ c H Q=>d c H (QH K T r t c Q)
variable{es:List Expr}{to:TE}{cpos:Pos}{T id:String}{r:V->List V->Hp->VK->Prop}
theorem Ra(q:PlainAttrs T)(f:Slot T name id)(g:typeOf (.builtin id)=pure (.type "method_descriptor"))(w:Xy X id r)(u:PE X o to)
  (d:attributeBase o name X.env (eval o X.env)=eval o X.env:=by rfl)(c:(apos.endLine == cpos.line)=true:=by rfl):PE X (.Call (.Attribute o name apos) [] [] cpos) (Tr X.K T r to):=by
 intro j s i H Q I h;refine wpAny_Call_method0_late d c (Uh (u j s i H _ I h) λv n ⟨x,A,l,k,m,p⟩=>?_);obtain⟨z,y⟩:=Kz l k m;exact(T,id,q,f,g,z,y,Calls.callWith_builtin rfl (PySem.evalArgs_none (w j n i A x [] v [] Q l k .nil p)))
theorem gZ(D:PlainAttrs T)(g:Slot T name id)(l:typeOf (.builtin id)=pure (.type "method_descriptor"))(G:Xy X id r)(F:PE X o to)(J:PA X (e::es) t)
  (f:attributeBase o name X.env (eval o X.env)=eval o X.env:=by rfl)
  (i:((backTo cpos (starEach (e::es) X.env)).all (λx=>!x.1) && (backToKw cpos (keywordEach [] X.env)).all (λx=>x.1.isSome)
   && decide ((e::es).length+([]:List Keyword).length+(if ([]:List Keyword).isEmpty then 0 else 1)<30))=true:=by rfl)
  (d:(apos.endLine == cpos.line)=true:=by rfl)(E:starEach (e::es) X.env=(pq false (eval e X.env))::starEach es X.env:=by rfl)(c:(backTo cpos (starEach es X.env)).any (·.1)=false:=by rfl):
  PE X (.Call (.Attribute o name apos) (e::es) [] cpos) (Zk X.K T r to t):=by
 intro k s j H Q I h;refine wpAny_Call_method_late f i d rfl (Uh (F k s j H _ I h) λv z ⟨x,P,p,m,w,C⟩=>?_);obtain⟨M,L⟩:=Kz p m w;exists T,id,D,g,l,M,L;have n:=J cpos k z j P _ p C;rw[E]at n ⊢;refine Calls.callWith_builtin (by show (false || (backTo cpos (starEach es X.env)).any (·.1))=false;rw[c] <;> rfl) (Calls.evalArgs_plain ?_);exact Uh n λu y ⟨q,O,N,A,B⟩=>G k y j O x q v u Q N m A B
end
def MtM(X:Cx)(id:String)(r:V->List V->Hp->VK->Prop):Prop:=
 ∀(b:List (Addr×Obj)) (s:Shared) (a:St) (H:Hp) (x:V) (c:List V) (v:Value) (d:List Value) (Q:VK),Inv X b a H s->RelV x v->Vals c d->r x c H Q ->
  wpAny (model X.prog X.w) X.A (call (.builtin id) (v::d)) (EP X b a Q) X.xe s
theorem Vals.one:∀{x:V}{a:List Value},Vals [x] a -> ∃u,a=[u]/\RelV x u
 | _,_,.cons r .nil=>(_,rfl,r)
theorem Vals.reverse{xs:List V}(h:Vals xs u):Vals xs.reverse u.reverse:=by
 induction h with
 | nil=>exact .nil
 | cons r t a=>rw[aiN,aiN];exact Vals.append a (.cons r .nil)
theorem Vals.rep{xs:List V}{a:List Value}(h:Vals xs a):∀k:Nat,Vals (aaF k xs).flatten (aaF k a).flatten
 | 0=>.nil
 | k+1=>by
  rw[agk,agk,agu,agu];exact Vals.append h (Vals.rep h k)
theorem foldl_rep(a:List Value):∀(k:Nat) (b:List Value),
  aji (λd c=>d++c) b.toArray (aaF k a.toArray)=(b++(aaF k a).flatten).toArray
 | 0,b=>by simp
 | k+1,b=>by
  have e:b.toArray++a.toArray=(b++a).toArray:=by simp
  have f:(b++a)++(aaF k a).flatten=b++(aaF (k+1) a).flatten:=by
   rw[agk,agu,aa5]
  rw[<-f,<-foldl_rep a k (b++a),<-e,agk,ai7]
section
variable{l b:Addr}{xs ys zs:List V}
theorem Inv.lset{its':List Value}{n:Nat}{f:Array Value->Array Value}{t':Nat}(I:Inv X π σ H s)(i:H l=some (.lst xs))
  (e:s.heap.get? l=some { cls:=.type "list",data:=.seq u.toArray n })(g:f u.toArray=its'.toArray)(c:Vals ys its')(hz:ys.length<=sizeLine):
  Inv X π σ (upd H l (.lst ys)) { s with heap:=s.heap.update l (Obj.mapSeq f),toks:=t' }:=by
 have q:=PySem.IsL.update e f;rw[g]at q;refine I.write (x:=l) (e:=l) (by rw[i];exact trivial) (.inl rfl) (λj a h d=>(Heap.get?_update_other s.heap (Obj.mapSeq f) (ags h)).trans d) (_,q) ?_;exact(hz,its',_,c,q)
theorem Inv.lnew{t':Nat}(I:Inv X π σ H s)(a:Vals ys u)(hz:ys.length<=sizeLine):
  Inv X π σ (upd H s.heap.objs.size (.lst ys)) { s with heap:=s.heap.push { cls:=.type "list",data:=.seq u.toArray },toks:=t' }:=
 I.laid (λ_ _ q=>Heap.get?_push_of_some _ q) (aad _) (hz,u,0,a,Heap.get?_push_size _ rfl)
theorem Inv.fresh(I:Inv X π σ H s):H s.heap.objs.size=none:=I.hok.fresh (aad _)
theorem Inv.lstM(I:Inv X π σ H s)(c:H l=some (.lst xs)):xs.length<=sizeLine /\ ∃(a:List Value) (n:Nat),Vals xs a/\xs.length=a.length/\s.heap.get? l=some { cls:=.type "list",data:=.seq a.toArray n }:=by
 obtain⟨z,a,n,r,e⟩:=I.hok l _ c;exact(z,a,n,r,r.length,e)
theorem DY{n:Nat}(h:n<=sizeLine):Builtin.List.listTooLong n=false:=by
 unfold Builtin.List.listTooLong;exact decide_eq_false (by lia)
end
inductive O9(x:V)(vs:List V)(H:Hp)(Q:VK):Prop
 | mk (l xs y:_) (_:x=.ref l) (_:vs=[y]) (_:H l=some (.lst xs)) (_:xs.length<sizeLine) (_:Q .non (upd H l (.lst (xs++[y]))))
theorem b7:MtM X "list.append" O9:=by
 intro i s g H x k v m Q I c d h;obtain⟨l,j,y,rfl,rfl,b,o,q⟩:=h;cases c;obtain⟨u,rfl,f⟩:=d.one;obtain⟨z,a,n,r,p,e⟩:=I.lstM b;refine call_meets F.slot_list_append (_,e,rfl) F.entry_list_append (F.args_list_append_2 _ _) (PySem.list_append l a.toArray n u (by rw[aaA];lia)) (e,?_);refine(.non,_,I.lset (its':=a++[u]) b e (by simp) (r.append (.cons f .nil)) ?_,rfl,q);rw[aaf,agv];lia
inductive Oh(x:V)(vs:List V)(H:Hp)(Q:VK):Prop
 | mk (l b xs zs:_) (_:x=.ref l) (_:vs=[.ref b]) (_:H l=some (.lst xs)) (_:H b=some (.lst zs)) (_:xs.length+zs.length<=sizeLine) (_:Q .non (upd H l (.lst (xs++zs))))
theorem sV:MtM X "list.extend" Oh:=by
 intro A s y H x E v G Q I i j h;obtain⟨l,b,D,B,rfl,rfl,g,p,J,q⟩:=h;cases i;obtain⟨u,rfl,k⟩:=j.one;cases k;obtain⟨z,c,n,r,K,e⟩:=I.lstM g;obtain⟨C,a,o,m,w,t⟩:=I.lstM p;have f:c.toArray.size+a.toArray.size<=sizeLine:=by rw[aaA,aaA];lia
 have d:¬(!c.toArray.isEmpty && Builtin.List.listTooLong (c.toArray.size+a.toArray.size))=true:=by
  rw[DY f,Bool.and_false];exact aap
 refine call_meets F.slot_list_extend (_,e,rfl) F.entry_list_extend (F.args_list_extend_2 _ _)
  (AutoSeq1.list_extend_list_list_0 l c.toArray n b a.toArray o d (by rw[aaA];lia) (by lia)) (e,t,?_)
 refine(.non,_,I.lset (its':=c++a) g e (by simp) (r.append m) ?_,rfl,q);rw[aaf];lia
inductive Tu(x:V)(y:V)(H:Hp)(Q:VK):Prop
 | mk (l b xs zs:_) (_:x=.ref l) (_:y=.ref b) (_:H l=some (.lst xs)) (_:H b=some (.lst zs)) (_:xs.length+zs.length<=sizeLine) (_:∀p,H p=none->Q (.ref p) (upd H p (.lst (xs++zs))))
theorem mW:Uz X (binaryOp .Add) Tu:=by
 intro t s p H x y v u Q I f d h;obtain⟨l,b,B,w,rfl,rfl,i,j,D,q⟩:=h;cases f;cases d;obtain⟨z,c,n,r,E,e⟩:=I.lstM i;obtain⟨A,a,C,g,o,m⟩:=I.lstM j;refine PySem.P.add_list e m ?_ (by rw[aaA,aaA];lia);have k:c.toArray++a.toArray=(c++a).toArray:=by simp
 rw[k];exact(.ref _,_,I.lnew (t':=s.toks) (r.append g) (by rw[aaf];lia),rfl,q _ I.fresh)
inductive Sg(x:V)(y:V)(H:Hp)(Q:VK):Prop
 | mk (l k xs:_) (_:x=.ref l) (_:y=.int k) (_:H l=some (.lst xs)) (_ : -(2^63)<=k) (_:k<2^63) (_:xs.length*k.toNat<=sizeLine) (_:∀p,H p=none->Q (.ref p) (upd H p (.lst (aaF k.toNat xs).flatten)))
theorem len_rep(xs:List J)(k:Nat):(aaF k xs).flatten.length=k*xs.length:=by
 induction k with
 | zero=>simp
 | succ k a=>rw[agk,agu,aaf,a,ahf,ajp]
theorem Aq:Uz X (binaryOp .Mult) Sg:=by
 intro L s K H x y v u Q I B A h;obtain⟨l,k,M,rfl,rfl,D,G,E,p,q⟩:=h;cases B;obtain⟨t,rfl⟩:=A;obtain⟨z,b,n,r,C,e⟩:=I.lstM D;have f:b.toArray.size*k.toNat<=sizeLine:=by rw[aaA,<-C];exact p
 have i:¬b.toArray.size*k.toNat > (2^63 - 1) / 8:=by
  have:(sizeLine:Nat)<=(2^63 - 1) / 8:=by decide
  lia
 have g:¬(!Builtin.List.listFitsIndex k)=true:=by
  rw[fitsIndex_both G E];exact aap
 have c:¬Builtin.List.listTooLong (b.toArray.size*k.toNat)=true:=by
  rw[DY f];exact aap
 have d:aji (λo j=>o++j) #[] (aaF (if b.toArray.isEmpty=true then 0 else k.toNat) b.toArray)=(aaF k.toNat b).flatten.toArray:=by
  have J:∀m:Nat,aji (λo j=>o++j) #[] (aaF m b.toArray)=(aaF m b).flatten.toArray:=λm=>by
   have:=foldl_rep b m [];rw[ahB]at this;exact this
  rw[J];cases b with
  | nil=>simp
  | cons a N=>rw[if_neg (by simp)]
 refine wpAny_binaryOp_repeat_ref (T := "list") (U := "int") (by decide) (_,e,rfl) (λw=>typeIs_int w k t) noFill_list_mul F.fills_int_mul F.slot_int_rmul repeat_list F.slot_int_index.lookup
  (call_meets F.slot_int_rmul (typeIs_int s k t) F.entry_int_rmul (F.args_int_rmul_2 _ _) (int___rmul___int_list k t l b.toArray n)
   (e,rfl,(_,e,rfl),call_meets F.slot_list_mul (_,e,rfl) F.entry_list_mul (F.args_list_mul_2 _ _) (AutoListH.list___mul___list_int_3 l b.toArray n k t g i c) (e,?_)))
 rw[d];exact(.ref _,_,I.lnew (t':=s.toks) (r.rep k.toNat) (by rw[len_rep,ago];exact p),rfl,q _ I.fresh)
end L2
namespace Yp
open PySem.W PySem.Calls PyProof.Rows
theorem uE{P:Params}:∀(c:List Int) (d:List Value),WellAll P h' d (c.map WData.int)->IntsAre d c:=by
 intro c
 induction c with
 | nil =>
  intro d w;rw[aia]at w;cases w;exact .nil
 | cons n c e =>
  intro d w;rw[aay]at w;cases w with
  | cons a b =>
   cases a;exact .cons _ _ (e _ b)
theorem Ij{l:OpenLaw}{n:Nat}(x:l.most=some n){P:Params}{b:List WData}
  (e:l.row.toRowW.claim.pre b=true)(k:WellAll P h' u b):
  ∃a o c,u=[Value.ref a]/\b=[WData.list (c.map WData.int)]/\h'.get? a=some { cls:=.type "list",data:=.seq o.toArray }/\IntsAre o c/\c.length<=n:=by
 have m:WShape.hasAll [] b [.list .int]=true:=(pre_splitW e).1;have p:l.pre.holds [] { args:=b }=true:=(pre_splitW e).2;obtain⟨d,r,rfl,A,z⟩:=hasAllW_cons m;obtain rfl:=hasAllW_nil z;obtain⟨B,rfl,y⟩:=hasW_list A;obtain⟨c,rfl⟩:=items_int y;have f:c.length<=n:=by
  unfold OpenLaw.pre at p;have j:(WTm.not (.lt (.lit (.int (n:Int))) (.len (.arg 0)))).holds [] { args:=[.list (c.map .int)] }=true:=by
   have j:=(holds_andW p).1;rw[x]at j;exact j
  have i:=condW_of j (w_not (w_lt w_lit (w_len_list (w_arg rfl))));rw[aaa]at i;refine ai0 λq=>?_;have v:(n:Int)<((c.length:Nat):Int):=by lia
  first
   | (rw[decide_eq_true v]at i;exact absurd i (by decide))
   | (simp at i;lia)
 cases k with
 | cons t s =>
  cases s;cases t with
  | list w g=>exact(_,_,c,rfl,rfl,w,uE c _ g,f)
theorem Jq(l:OpenLaw)(a:List WData):l.row.toRowW.claim.post a (.bool true) a=true:=
 postW_of (r:=l.row.toRowW) (X:=(true == true))
  (show WShape.has [] (.bool true) .bool=true by first|rfl|decide|simp[WShape.has,WShape.arms,WShape.armsAll])
  (show (WTm.eq .res (.lit (.bool true))).value [] { args:=a,res:=some (.bool true),after:=a }=some (.bool (true == true))from w_eq_bool (w_res rfl) w_lit) rfl
theorem attach_call{l:OpenLaw}{n:Nat}{q:Program}{E:(Str->Option Value)->Heap->Prop}{D:World->Heap->Prop}{d:DefRec}
  (L:l.most=some n)(A:d.params.defaults=[])
  (p:∀(w:World) (c b:Shared) (mg x:Str->Option Value) (i:Addr) (o:Obj) (v u e:Value) (a:Addr) (h:List Value) (t:List Int),
   Ground q N [] E w c mg x b.heap->D w b.heap ->
   b.heap.get? i=some o->o.data=.func (docDef d.name d.params d.body d.scope v u e)->b.heap.CodeRec u d.name->mg d.name=some (.ref i) ->
   b.heap.get? a=some { cls:=.type "list",data:=.seq h.toArray }->IntsAre h t->t.length<=n->b.gens=#[] ->
   codeAny (model l.prog w) callerA (.call (.ref i) ([.ref a],[])) (λr s=>r=.ok (.ret (.bool true))/\OldK b.heap s.heap/\s.os=b.os/\AllBare s.gens) b):
  WalkO q N E D l.row.toRowW d [] (λf h=>PySem.call f h):=by
 intro w c b mg x G Y i o v u e S kV K hd B C z O I F V j H T y U;obtain rfl:S=.none:=Dflts.none C A;obtain rfl:kV=.none:=Dflts.noKw C;obtain⟨a,h,t,rfl,rfl,k,g,m⟩:=Ij L j y;refine enter_call (codeAny_mono (p w c b mg x i o v u e a h t G Y K (fd_plain hd) B z k g m O) λr s J=>?_);obtain⟨rfl,R,Q,P⟩:=J;exact(.inl (.bool true,.bool true,[],rfl,λ_=>rfl,.bool true,Jq l _,λ_=>(List.Pairwise.nil,λ_ M=>(nomatch M))),R,Q,P)
section
variable{K:Frag}
end
end Yp
namespace L2
open PySem.Spec PyProof.Rows
theorem rJ:∀{a:List Value}{b:List Int},IntsAre a b->Vals (b.map V.int) a
 | _,_,.nil=>.nil
 | _,_,.cons n t h=>.cons (t,rfl) (rJ h)
def ν(s:Stmt):Arguments:=match s with
 | .FunctionDef _ a _ _ _ _ _ _ _ _=>a
 | _=>{ posonlyargs:=[],args:=[],vararg:=none,kwonlyargs:=[],kw_defaults:=[],kwarg:=none,defaults:=[] }
def μ(s:Stmt):List Stmt:=match s with
 | .FunctionDef _ _ b _ _ _ _ _ _ _=>b
 | _=>[]
def δ(s:Stmt):Scope:=match s with
 | .FunctionDef _ _ _ _ _ _ a _ _ _=>a
 | _=>{ kind:=.function,names:=[],isGenerator:=false,isCoroutine:=false }
abbrev Ui:Vl:=λ_ _ _ _ _ _=>False
abbrev E0:XK:=λ_ _ _=>False
theorem S6{X:Cx}:sS Ui X E0:=λ_ _ _ _ _ _ _ h=>h.elim
structure Va(K:PySem.W.Frag)(x qual:Str)(st:Stmt)(f:Addr)(fd:FuncData):Prop where
 ex:∃(oc:Value) (od:Option Addr) (kV doc pm:Value) (an:Option Addr) (cdv ct:Value) (osl:Array (Option Value)),
  fd=PySem.W.fnOf x qual (ν st) (μ st) (δ st) .none kV doc pm an cdv ct/\K.lookup f=some (oc,od,.func fd,osl)/\PySem.W.codeIn K cdv qual=true
 kp:PySem.W.keepIn K (.ref f)=true
section
variable{P:Program}
theorem Va.ok{x :Str}{st:Stmt}{f:Addr}{fd:FuncData}{N ps:List Str}{k:Nat}(F:Va K x qual st f fd)(S:aB N ps (δ st))(e:∀c H Q E,sp c H Q E->c.length=ps.length)
  (d:∀(b:Value) (A:Around) (a:List Env) (s:Shared) (H:Hp) (c:List V) (Q:VK) (E:XK),eY k (A.deeper (envOfC qual (δ st) s.heap.objs.size f b))->sp c H Q E ->
   ∃t,Vf (iw Ui P w K mg base N qual (δ st) f b A a s H E).W6 (μ st) t/\t { nx:=λ_ H'=>Q .non H',rt:=Q } (start N c) H):aV P w K mg base Ui (k+1) f fd ps sp:=by
 obtain⟨r,p,kV,n,o,v,b,u,m,rfl,j,i⟩:=F.ex;refine Qh j i S e λA a s H c Q E l g=>?_;obtain⟨t,h,q⟩:=d b A a s H c Q E l g;exact(t,h.W6,q)
theorem Va.Ul{x :Str}{st:Stmt}{f:Addr}{fd:FuncData}{N ps:List Str}{k:Nat}(F:Va K x qual st f fd)(S:aB N ps (δ st))
  (b:∀(d:Value) (A:Around) (a:List Env) (s:Shared) (H:Hp) (c:List V) (Q:VK) (E:XK),eY k (A.deeper (envOfC qual (δ st) s.heap.objs.size f d))->sp c H Q E ->
   ∃t,Vf (iw Ui P w K mg base N qual (δ st) f d A a s H E).W6 (μ st) t/\t { nx:=λ_ H'=>Q .non H',rt:=Q } (start N c) H)(e:∀c H Q E,sp c H Q E->c.length=ps.length:=by intro _ _ _ _ h;cases h;subst_vars;rfl):aV P w K mg base Ui (k+1) f fd ps sp:=F.ok S e b
theorem Va.binds{x :Str}{st:Stmt}{f:Addr}{fd:FuncData}{ps:List Str}(F:Va K x qual st f fd)
  (h:∀(kV a d:Value) (g:Option Addr) (b e:Value) (c:List Value),c.length=ps.length->bindArgs (PySem.W.fnOf x qual (ν st) (μ st) (δ st) .none kV a d g b e) (c,[])=pure (ps.zip c)):Binds K fd ps []:=by
 obtain⟨l,k,kV,a,d,g,b,e,i,rfl,m,j⟩:=F.ex;exact .all (h kV a d g b e)
theorem z7{x :Str}{st:Stmt}{f:Addr}{i h:Option Addr}{d:Array (Option Value)}{kV b e a g:Value}(l:K.lookup f=some (r,i,.func (PySem.W.fnOf x qual (ν st) (μ st) (δ st) .none kV b e h a g),d))
  (c:PySem.W.codeIn K a qual=true)(k:PySem.W.keepIn K (.ref f)=true):Va K x qual st f (PySem.W.fnOf x qual (ν st) (μ st) (δ st) .none kV b e h a g):=((r,i,kV,b,e,h,a,g,d,rfl,l,c),k)
end
theorem pv(i:Nat){x:Str}{pos:Pos}(c:X.N[i]?=some x:=by rfl)(b:Yj X.env.scope x:=by first|exact ag1 rfl|exact ahT (ag1 rfl) | exact ahT (ahT rfl))(hd:(x == ("__debug__" : Str))=false:=by decide)
  (a:(x == ("__classdict__" : Str))=false:=by decide):PE X (.Name x pos) (Qv i):=Gv c b hd a
theorem dI{A B:Prop}(h:B):if false=true then A else B:=by
 rw[if_neg aap];exact h
theorem il{A B:Prop}(h:A):if true=true then A else B:=by
 rw[if_pos rfl];exact h
theorem bF{c A B:Prop}[Decidable c](b:c->A)(a:¬c->B):if c then A else B:=by
 by_cases h:c
 ·rw[if_pos h];exact b h
 ·rw[if_neg h];exact a h
theorem qy{c A B:Prop}[Decidable c](a:c)(h:B):if (!decide c)=true then A else B:=by
 rw[decide_eq_true a];exact dI h
def aQ(H H':Hp):Prop:=∀b o,H b=some o->H' b=some o
theorem aQ.refl(H:Hp):aQ H H:=λ_ _ h=>h
theorem aQ.trans{d:Hp}(a:aQ H H')(b:aQ H' d):aQ H d:=λc o h=>b c o (a c o h)
theorem aQ.free{H':Hp}(e:aQ H H'){l:Addr}(h:H' l=ajt):H l=ajt:=by
 cases q:H l with
 | none=>rfl
 | some o =>
  rw[e l o q]at h;cases h
theorem aQ.seq{H':Hp}{a:Addr}{xs:List V}(e:aQ H H')(h:My K H a xs):My K H' a xs:=by
 rcases h with (h|⟨o,h⟩) | h
 ·exact .inl (.inl (e _ _ h))
 ·exact .inl (.inr (o,e _ _ h))
 ·exact .inr h
end L2
namespace Tw
theorem az{p:Addr}(h:H p=none)(o:HO):aQ H (upd H p o):=λb u q=>by rw[aJ (aH q h)];exact q
theorem bQ{H':Hp}{p:Addr}(s:aQ H H')(h:H p=none)(o:HO):aQ H (upd H' p o):=λb u q=>by rw[aJ (aH q h)];exact s b u q
theorem small{n:Nat}(h:n<=4097):n<sizeLine:=agX h (by decide)
theorem aY:bootBuiltins "len" = some (.builtin "len"):=by decide +kernel
theorem K1:bootBuiltins "sum" = some (.builtin "sum"):=by decide +kernel
theorem jA:bootBuiltins "isinstance" = some (.builtin "isinstance"):=by decide +kernel
theorem Gf:bootBuiltins "min" = some (.builtin "min"):=by decide +kernel
theorem QC:bootBuiltins "max" = some (.builtin "max"):=by decide +kernel
theorem rO:bootBuiltins "sorted" = some (.builtin "sorted"):=by decide +kernel
theorem Ry:bootBuiltins "int" = some (.type "int"):=by decide +kernel
theorem NT:bootBuiltins "bool" = some (.type "bool"):=by decide +kernel
theorem uQ:bootBuiltins "list" = some (.type "list"):=by decide +kernel
theorem mR:bootBuiltins "tuple" = some (.type "tuple"):=by decide +kernel
theorem nM:bootBuiltins "reversed" = some (.type "reversed"):=by decide +kernel
theorem Ft:bootBuiltins "set" = some (.type "set"):=by decide +kernel
theorem Ex:bootBuiltins "zip" = some (.type "zip"):=by decide +kernel
theorem MN{xs:List V}{lo a:Option Int}{x:V}(h:x∈dm xs lo a):x∈xs:=agL (ag2 h)
theorem G7{lo a:Option Int}{i:Nat}{x:V}(h:(dm (d.map V.int) lo a)[i]?=some x):∃c:Int,x=.int c:=by
 obtain⟨c,_,e⟩:=aaT.mp (MN (aag h));exact(c,e.symm)
theorem Qd(a:List Int)(i j:Nat):dm (a.map V.int) (some (i:Int)) (some (j:Int))=((a.drop i).take (j - i)).map V.int:=by
 unfold dm;rw[HT.jr,HT.jr,ahX,ahY,aaa];rcases aaq a.length i with h|h
 ·rw[agW (adG h),agi (by simp),agi (by simp;lia)];simp
 ·rw[afM h];rcases aaq a.length j with q|q
  ·rw[agW (adG q),aai (by simp),aai (by simp;lia)]
  ·rw[afM q]
theorem M8(a:List Int)(j:Nat):dm (a.map V.int) none (some (j:Int))=(a.take j).map V.int:=by
 unfold dm;rw[HT.jr,HT.jY,ahX,aaa,aha,ag7];rcases aaq a.length j with q|q
 ·rw[agW (adG q),aai (by simp),aai (by simp;lia)]
 ·rw[afM q]
theorem Mu(a:List Int)(i:Nat):dm (a.map V.int) (some (i:Int)) none=(a.drop i).map V.int:=by
 unfold dm;rw[HT.jr,HT.jY,ahY,aaa];rcases aaq a.length i with h|h
 ·rw[agW (adG h),agi (by simp),agi (by simp;lia)];simp
 ·rw[afM h,aai (by simp)]
theorem int_at{i:Nat}{x:V}(h:(d.map V.int)[i]?=some x):∃c,d[i]?=some c/\x=.int c:=by
 rw[aah]at h;cases e:d[i]? with
 | none=>rw[e]at h;cases h
 | some c=>rw[e]at h;exact(c,rfl,(aao h).symm)
theorem pN{i:Nat}{c:Int}(h:d[i]?=some c):UT (d.map V.int) (i:Int)=some (.int c):=kh (by rw[aah,h];rfl)
structure Df(K:PySem.W.Frag)(mg:Str->Option Value)(x:Str)(st:Stmt)(ps:List Str)(f:Addr)(fd:FuncData):Prop where
 F:Va K x x st f fd
 b:Binds K fd ps []
 m:mg x=some (.ref f)
def bit(b:Int)(k:Nat):Int:=b / 2^k%2
def bits(b:Int)(n:Nat):List Int:=(agd n).map (bit b)
def ones(b:Int)(n:Nat):Int:=(bits b n).sum
theorem gA(b:Int)(n:Nat):(bits b n).length=n:=by simp[bits]
theorem Kl(b:Int)(n:Nat):bits b (n+1)=bits b n++[bit b n]:=by simp[bits,agw]
theorem rZ(b:Int):ones b 0=0:=rfl
theorem iC(b:Int)(n:Nat):ones b (n+1)=ones b n+bit b n:=by
 unfold ones;rw[Kl];simp
theorem vK{b:Int}{n k:Nat}(h:k<n):(bits b n)[k]?=some (bit b k):=by simp[bits,h]
theorem za(b:Int)(k:Nat):bit b k=0\/bit b k=1:=by
 unfold bit;lia
theorem J2(b:Int){k n:Nat}(h:k<=n):ones b k<=ones b n:=by
 induction n with
 | zero =>
  have:k=0:=by lia
  subst this;lia
 | succ n a =>
  rcases aaq k (n+1)with c | c
  ·have:=a (by lia);have:=za b n;rw[iC];lia
  ·have:k=n+1:=by lia
   subst this;lia
theorem place_below{b:Int}{k n:Nat}(a:bit b k=1)(h:k<n):ones b k<ones b n:=by
 have:=J2 b (show k+1<=n by lia);rw[iC]at this;lia
def bc(a:List Int):Prop:=∀b∈a,b=0\/b=1
theorem bc.tail{b:Int}{a:List Int}(h:bc (b::a)):bc a:=λx c=>h x (.tail _ c)
theorem bc.head{b:Int}{a:List Int}(h:bc (b::a)):b=0\/b=1:=h b (.head _)
theorem bc.take(h:bc d)(k:Nat):bc (d.take k):=λx a=>h x (ag2 a)
theorem bc.drop(h:bc d)(k:Nat):bc (d.drop k):=λx a=>h x (agL a)
def blk:List Int->Int
 | []=>0
 | b::r=>2*blk r+b
theorem BJ(b:Int):bit b 0=b%2:=by simp[bit]
theorem yU(b:Int)(k:Nat):bit b (k+1)=bit (b / 2) k:=by
 unfold bit;rw[ail (by decide),<-Int.pow_succ']
theorem uP:∀{a:List Int},bc a -> ∀k:Nat,bit (blk a) k=(a[k]?).getD 0
 | [],_,k=>by simp[blk,bit]
 | b::r,h,0=>by
  have:=h.head;rw[BJ];simp only[blk,List.getElem?_cons_zero,ai1];lia
 | b::r,h,k+1=>by
  have c:=h.head;rw[yU,aim];have e:blk (b::r) / 2=blk r:=by simp only[blk];lia
  rw[e];exact uP h.tail k
theorem nH{a:List Int}(h:bc a):∀k:Nat,ones (blk a) k=(a.take k).sum
 | 0=>by simp[rZ]
 | k+1=>by
  rw[iC,nH h k,uP h];by_cases b:k<a.length
  ·rw[acI,aac b];simp only[aiK,ahC,aho,ajq,ai1];lia
  ·rw[aai (by lia),aai (by lia),agY (by lia)];simp
def many(n:Nat):Nat:=(n+31) / 32
def cF(a:List Int)(j:Nat):Int:=blk ((a.drop (32*j)).take 32)
def bB(a:List Int):List Int:=(agd (many a.length)).map (cF a)
theorem bC(a:List Int):(bB a).length=many a.length:=by simp[bB]
theorem jV{j:Nat}(h:j<many d.length):(bB d)[j]?=some (cF d j):=by simp[bB,h]
theorem uU(h:bc d)(j:Nat):bc ((d.drop (32*j)).take 32):=(h.drop _).take _
theorem bit_at(h:bc d)(j k:Nat)(a:k<32):bit (cF d j) k=(d[32*j+k]?).getD 0:=by
 unfold cF;rw[uP (uU h j),acT a,agx]
def net(b:Int)(k:Nat):Int:=2*ones b k - k
theorem Ko(b:Int):net b 0=0:=by simp[net,rZ]
theorem CW(b:Int)(k:Nat):net b (k+1)=net b k+2*bit b k - 1:=by
 unfold net;rw[iC];lia
def nets(b:Int)(n:Nat):List Int:=(agd n).map λk=>net b (k+1)
theorem eZ(b:Int)(n:Nat):(nets b n).length=n:=by simp[nets]
theorem Jd(b:Int)(n:Nat):nets b (n+1)=nets b n++[net b (n+1)]:=by simp[nets,agw]
theorem Cr{b:Int}{n k:Nat}(h:k<n):(nets b n)[k]?=some (net b (k+1)):=by simp[nets,h]
theorem Ce{b:Int}{n:Nat}{x:Int}:x∈nets b n ↔ ∃k,1<=k/\k<=n/\x=net b k:=by
 unfold nets;rw[aaT];constructor
 ·rintro⟨k,a,rfl⟩;exact(k+1,by lia,by have:=ag9.mp a;lia,rfl)
 ·rintro⟨k,d,c,rfl⟩;exists k - 1,ag9.mpr (by lia);have e:k - 1+1=k:=by lia
  rw[e]
def ht(a:List Int)(k:Nat):Int:=2*(a.take k).sum - k
theorem jm(a:List Int):ht a 0=0:=by simp[ht]
theorem kJ{k:Nat}{b:Int}(h:d[k]?=some b):ht d (k+1)=ht d k+2*b - 1:=by
 unfold ht;rw[acI,h];simp only[aiK,ahC,aho,ajq];lia
theorem qe(b:List Int)(a k:Nat):(b.take (a+k)).sum=(b.take a).sum+((b.drop a).take k).sum:=by
 rw[ajk,ahC]
theorem pG(h:bc d)(j k:Nat)(a:k<=32):ht d (32*j+k)=ht d (32*j)+net (cF d j) k:=by
 unfold ht net cF;rw[nH (uU h j),qe,ahJ,afM a];lia
theorem Fe(h:bc d)(j k:Nat)(a:k<=32):ones (cF d j) k=((d.drop (32*j)).take k).sum:=by
 unfold cF;rw[nH (uU h j),ahJ,afM a]
theorem nZ(h:bc d)(j k:Nat)(a:k<=32):(d.take (32*j)).sum+ones (cF d j) k=(d.take (32*j+k)).sum:=by
 rw[Fe h j k a,qe]
def Due(b:Int)(st a:Nat)(g:Int)(k:Nat):Prop:=st<k/\k<=a/\net b k<=g
theorem JW(b:Int)(n:Nat):bits b (n+1)=b%2::bits (b / 2) n:=by
 unfold bits;rw[List.range_succ_eq_map,aay,BJ,agP];congr 1;refine ahx λk _=>?_;exact yU b k
theorem Bx:∀(n:Nat) (b:Int),0<=b->b<2^n->blk (bits b n)=b
 | 0,b,c,a=>by
  have:b=0:=by simp at a;lia
  subst this;rfl
 | n+1,b,c,a=>by
  rw[aiV]at a;rw[JW,blk,Bx n (b / 2) (by lia) (by lia)];lia
theorem Dq(b:Int)(n:Nat):bc (bits b n):=λx a=>by
 obtain⟨k,_,rfl⟩:=aaT.mp a;exact za b k
end Tw
namespace L2
open PySem.Spec PyProof.Rows
theorem Inv.turn2{e p:Addr}{o:HO}{t':Nat}(I:Inv X π σ H s)(g:gP X π H e)(f:gP X π H a)
  (k:∀b u,b≠e->b≠a->s.heap.get? b=some u->h'.get? b=some u)(A:s.heap.objs.size<=p)
  (t:bH X.prog X.w (upd H p o) h' p o):Inv X π σ (upd H p o) { s with heap:=h',toks:=t' }:=by
 have E:=I.hok.fresh A;have y:∀b u,H b=some u->b≠e:=λb u q z=>by rw[z,g.1]at q;cases q
 have x:∀b u,H b=some u->b≠a:=λb u q z=>by rw[z,f.1]at q;cases q
 have h:∀b u,H b=some u->upd H p o b=some u:=λb u q=>by rw[aJ (aH q E)];exact q
 have l:∀b u,b∉[e,a]->s.heap.get? b=some u->h'.get? b=some u:=λb u d q=>k b u (λz=>d (by simp[z])) (λz=>d (by simp[z])) q;refine I.step (g':=s.gens) (d':=s.drawn) (ch:=[e,a]) (λb d=>?_) (λb u _ _ i q _=>l b u i q) (λb u _ _ i q _=>(u.slots,l b u i q))
  (λb u _ q n=>by rw[aJ (aat (aak (Heap.lt_size q) A))];exact n) (λb u i q=>(u,l b u i q))
  (λb C q=>h _ _ q) (λb j u q=>h _ _ q) (λb K q=>(#[],by rw[h _ _ q];simp)) (λm F=>?_) (λb u q=>?_) I.bare
 ·rcases aaQ.mp d with rfl|d
  ·exact(g.2.2.2.1,g.2.1,g.2.2.2.2.1,g.2.2.2.2.2)
  ·rw[aas.mp d];exact(f.2.2.2.1,f.2.1,f.2.2.2.2.1,f.2.2.2.2.2)
 ·obtain⟨j,G,J,D,r⟩:=F;exact(j,G,J,k _ j (ags g.2.1) (ags f.2.1) D,r)
 ·by_cases d:b=p
  ·subst d;rw[au]at q;cases q;exact t
  ·rw[aJ d]at q;refine(I.hok b u q).stay (λc v B r=>k c v ?_ ?_ r) (λc r=>h _ _ r) λc C r=>h _ _ r
   ·rcases B with rfl|z
    ·exact y _ _ q
    ·exact y _ _ z
   ·rcases B with rfl|z
    ·exact x _ _ q
    ·exact x _ _ z
def WP(K:PySem.W.Frag)(a:Addr):It:=
  (λi H=>∃b x,My K H a b/\b[i]?=some x,λi H x c=>∃p y,H p=none/\x=.ref p/\c=upd H p (.tup [.int (i:Int),y]) /\ ∀b,My K H a b->b[i]?=some y,
   λi H=>∃b,My K H a b/\b.length<=i)
theorem Jo{w:World}(a e l:Addr)(t:e≠l):
  Turn prog w K (.Tuple B n p) (WP K a) [e,l] e (λi h=>(∃f,IsEnum h e l (i:Nat) f)/\h.IsListIter l a i) where
 mem:=by simp
 obj:=λi h d b j=>by
  obtain⟨⟨f,g⟩,o,ho,L,hd⟩:=d;rcases aaQ.mp j with rfl|j
  ·exact(_,g,λv z=>by cases z)
  ·rw[aas.mp j];exact(o,ho,λv z=>by rw[hd]at z;cases z)
 keep:=λi h h' d k=>by
  obtain⟨⟨f,g⟩,d⟩:=d;exact((f,k e (by simp) _ g),d.at λo q=>k l (by simp) o q)
 item:=by
  intro X M G N L i π s σ H E I r d J;subst M G N;obtain⟨xs,x,A,F⟩:=J;obtain⟨Q,D,c,hz⟩:=I.list A;obtain⟨u,hu,ru⟩:=D.get F;obtain⟨⟨f,g⟩,d⟩:=d;refine wpAny_pyNext_enum_item g d c.isList (x:=u) (by simpa using hu) t λh1 U y R a0 S=>?_;refine(_,rfl,wpAny_letOwnedTupleGo_enum U λC V m=>?_);have ee:e<s.heap.objs.size:=Heap.lt_size g
  have g2:C.get? s.heap.objs.size=some { cls:=.type "tuple",data:=.seq #[.int (i:Int) s.toks,u] }:=(m.2 _ (ahL ee)).trans R
  have kk:∀b o,b≠e->b≠l->s.heap.get? b=some o->C.get? b=some o:=λb o h3 h4 q=>(m.2 b h3).trans (S b o h3 h4 q);have O:bH X.prog X.w (upd H s.heap.objs.size (.tup [.int (i:Int),x])) C s.heap.objs.size (.tup [.int (i:Int),x]):=
   ((by show 2<=sizeLine;decide),[.int (i:Int) s.toks,u],.cons (_,rfl) (.cons ru .nil),_,g2,rfl,_,rfl)
  have I2:=I.turn2 (h':=C) (t':=s.toks+1) (r e (by simp)) (r l (by simp)) kk (aad _) O;have hn:H s.heap.objs.size=none:=I.hok.fresh (aad _);refine(.ref s.heap.objs.size,_,I2,rfl,(_,x,hn,rfl,rfl,λys hy=>by rw[I.list_inj hy A];exact F),((u,by simpa using V),y.extBut m.extBut (ags t)),λb j=>?_);have Z:=(r b j).1;have Y:b≠s.heap.objs.size:=by
   obtain⟨o,T,_⟩:=d;rcases aaQ.mp j with rfl|j
   ·exact aat ee
   ·rw[aas.mp j];exact aat (Heap.lt_size T)
  rw[aJ Y];exact Z
 done:=by
  intro X M G N L i π s σ H E I r d J;subst M G N;obtain⟨xs,A,F⟩:=J;obtain⟨Q,D,c,hz⟩:=I.list A;obtain⟨f0,f1,f2,f3,f4,f5⟩:=r l (by simp);obtain⟨⟨f,g⟩,d⟩:=d;have hl:=D.length;exact wpAny_pyNext_enum_end (I.ok.hd L) g d c.isList (by simp;lia) λh' eb=>(rfl,I.turned (t':=s.toks) (λb o j q=>eb b o j q) f0 f1 f3 f4 f5)
 self:=λ_ _ _ _ _ d h=>by
  obtain⟨⟨f,g⟩,_⟩:=d;exact wpAny_pyIter_enum g h
inductive PK(K:PySem.W.Frag)(R:It->Hp->Prop)(vs:List V)(H1:Hp):Prop
 | mk (a xs:_) (_:vs=[.ref a]) (_:My K H1 a xs) (_:R (WP K a) H1)
def Sw(K:PySem.W.Frag)(b:TA):TI:=λ a H R=>b a H (PK K R)
theorem uN{a:Expr}{p pos:Pos}(E:Gl X "enumerate")(C:X.mg "enumerate" = none)(F:PA X [a] t)(z:starEach [a] X.env=[(pq false (eval a X.env))]:=by rfl):
  PI X (.Tuple B n apos) (.Call (.Name "enumerate" p) [a] [] pos) (Sw X.K t):=by
 intro l s k H R I h;refine Call_ (eO I E C boot_enumerate (PyProof.Rows.callWith_type1 (Uh (F pos l s k H _ I h) λP d ⟨O,o,g,v,w⟩=>?_) z rfl));obtain⟨b,N,e,A,q⟩:=w;subst e;obtain⟨u,rfl,r⟩:=vals1 v;cases r;obtain⟨L,Q,x,S⟩:=g.list A;refine call_enumerate_list x.isList λG m j M D=>?_;refine wpAny_pyIter_enum m ?_;have J:Inv X l k o { d with heap:=G }:=g.kept (t':=d.toks) D;have y:d.heap.objs.size+1≠d.heap.objs.size:=by lia
 refine(d.heap.objs.size+1,[d.heap.objs.size+1,d.heap.objs.size],_,WP X.K b,o,rfl,J,Jo b _ _ y,((_,m),j),λc i=>?_,q);have f:d.heap.objs.size<=c:=by
  rcases aaQ.mp i with rfl|i
  ·lia
  ·rw[aas.mp i];lia
 exact g.fpOk f (g.hok.fresh f)
theorem vy{a:Addr}{xs:List V}{g:TG}{k:TS}{D:Ends}{σ:St}(b:Nat->St->Hp->Prop)(v:b 0 σ H)(t:∀i σ H,i<=xs.length->b i σ H->My K H a xs)
  (r:∀i x σ H p,xs[i]?=some x->b i σ H->H p=none->g (.ref p) σ (upd H p (.tup [.int (i:Int),x])) λ d j=>k { D with nx:=b (i+1),ct:=b (i+1),bk:=D.nx } d j)(hd:∀σ H,b xs.length σ H->D.nx σ H):
  ∃W:Nat->Nat->St->Hp->Prop,(∃m,W 0 m σ H) /\ ∀i m σ H,W i m σ H ->
   ((WP K a).stop i H/\D.nx σ H)\/((WP K a).go i H /\ ∃N:St->Hp->Prop,(∀f H',N f H' -> ∃l,l<m/\W (i+1) l f H') /\ ∀x H',(WP K a).Vv i H x H'->g x σ H' λ d j=>k { D with nx:=N,ct:=N,bk:=D.nx } d j):=by
 exists λi m σ H=>m=xs.length - i/\i<=xs.length/\b i σ H,(xs.length,by simp,aaP _,v);rintro i m σ H ⟨rfl,u,p⟩;have q:=t i σ H u p;by_cases h:i<xs.length
 ·refine .inr ((xs,xs[i],q,by simp[h]),b (i+1),λ f H' n=>(xs.length - (i+1),by lia,rfl,h,n),λx H' y=>?_);obtain⟨c,y,s,z,w,o⟩:=y;subst z w;exact r i y σ H c (o xs q) p s
 ·have e:i=xs.length:=by lia
  subst e;exact .inl ((xs,q,aad _),hd σ H p)
theorem By(n:X.calm=true):gD X (.builtin "sum") (λxs H Q=>∃(p:Addr) (a:List Int),xs=[.ref p]/\My X.K H p (a.map V.int)/\Q (.int a.sum) H):=by
 intro v s t H xs w Q I r h;obtain⟨p,a,rfl,l,q⟩:=h;obtain⟨u,rfl,i⟩:=vals1 r;cases i;obtain⟨o,j,k,x⟩:=I.list l;have c:=intsAre_of j;obtain⟨b,e⟩:=c.allInts.items;refine sum_intListG (xs:=b) (I.ok.hd n) (by rw[<-e];exact k.isList) λy f g m=>(.int a.sum,H,I.kept (t':=f) m,(g,?_),q);have d:numsOf (intItems b).toList=a:=by rw[<-e];exact c.numsOf
 rw[nums_intItems]at d;rw[<-d,preSum_eq,aai (by simp)]
theorem vf:gD X (.builtin "isinstance") (λxs H Q=>∃x T t b,xs=[x,.ty T]/\qW X.K H x t/\PySem.W.kitOne X.K t (.type T)=some b/\Q (.bl b) H):=by
 intro i s g H xs j Q I r h;obtain⟨x,T,t,b,rfl,a,e,q⟩:=h;obtain⟨u,v,rfl,d,f⟩:=vals2 r;obtain rfl:v=Value.type T:=f;exact Jg I d a e λc=>(.bl b,H,I.tok c,rfl,q)
def bI(X:Cx)(N:List Str)(a:Scope)(c:List (Str×Addr))(C:Addr)(s:Shared)(H:Hp)(b:List Addr):Cx:=
 { X with N:=N,s₀:=s,H₀:=H,env:=compEnvC a c C X.env,outer:=X.stack,ex:=b,fn:=λ_=>false,pn:=[],xe:=λ_ _=>False }
structure bZ(X:Cx)(x:Str)(caps:List (Str×Nat))(scope:Scope)(cl:List (Str×Addr)):Prop where
 kind:scope.kind=.function
 ρ:∀y∈scope.names,y.2 ≠ .cell
 names:∀y∈scope.names,y.2=.local->scope.names.lookup y.1=some .local
 hx:scope.names.lookup x=some .local
 clos:closureFor scope X.env=pure cl
 cls:∀y c,cl.lookup y=some c->X.env.cells.lookup y=some c
 has:∀y,((relabel scope X.env).names.lookup y=some .cell\/(relabel scope X.env).names.lookup y=some .free) -> ∃c,cl.lookup y=some c
 nd:(x::caps.map (·.1)).Nodup
 cap:∀y j,(pq y j)∈caps->X.N[j]?=some y/\(X.env.scope.names.lookup y=some .cell\/X.env.scope.names.lookup y=some .free) /\
  ((relabel scope X.env).names.lookup y=some .cell\/(relabel scope X.env).names.lookup y=some .free)
def fM(a:List (Str×Nat))(σ:St):St:=a.map λp=>(σ[p.2]?).getD none
theorem tK(a:List (Str×Nat))(σ:St):(fM a σ).length=a.length:=by simp[fM]
theorem Inv.comp{x:Str}{h':Heap}{tk:Nat}{m:Str->Option Value}{C:Addr}(I:Inv X π σ H s)(E:bZ X x G scope y)(P:∀b∈g,gP X π H b)
  (Y:∀b∈g,b<s.heap.objs.size)(M:s.heap.objs.size<=a)(Q:s.heap.objs.size<=C)(Z:a≠C)(L:∀b o,s.heap.get? b=some o->h'.get? b=some o)(hn:h'.Ns C m)(hL:h'.get? a=some { cls:=.type "list",data:=.seq #[] }):
  Inv (bI X (x::G.map (·.1)) scope y C s H g) [] (none::fM G σ) (upd H a (.lst [])) { s with heap:=h',toks:=tk }:=by
 have Xz:=I.hok.fresh M;have V:=I.hok.fresh Q;have B:∀d c,(bI X (x::G.map (·.1)) scope y C s H g).env.cells.lookup d=some c->X.env.cells.lookup d=some c:=λd c e=>E.cls d c e;have Zm:∀d c,X.env.cells.lookup d=some c->c<s.heap.objs.size:=λd c e=>by
  obtain⟨v,q⟩:=I.cell d c e;exact q.lt
 have up:∀b u,H b=some u->upd H a (.lst []) b=some u:=λb u q=>by rw[aJ (aH q Xz)];exact q
 have ok:(bI X (x::G.map (·.1)) scope y C s H g).Ok:=by
  refine(I.ok.mod,E.kind,I.ok.glob,I.ok.blt,Q,λd z c h1 h2=>I.ok.inj d z c (B d c h1) (B z c h2),λd hy=>E.has d hy,λd c h=>absurd (show false=true from h) aap,I.ok.hd,I.ok.frames,.inl rfl,λb A=>?_,I.bs,age I.ok.VL I.sz,λb o e A=>?_,λb A hz=>?_,I.stack,I.stkFree)
  ·obtain⟨f0,U,T,S,R,f5⟩:=P b A;exact(aat (aak (Y b A) Q),λd c e=>R d c (B d c e))
  ·obtain⟨f0,U,T,S,R,f5⟩:=P b A;rcases S with z|z
   ·exact I.ok.noex b o e z
   ·exact absurd (aak (aak (Heap.lt_size e) I.ok.VL) z) (agf _)
  ·obtain⟨f0,U,T,S,R,f5⟩:=P b A;rcases aaQ.mp (I.stkSub b hz)with z|z
   ·exact U z
   ·exact T z
 exists ok,rfl,I.bare,?_,(m,hn,λi d v e1 e2 e3=>?_),λd c e=>?_,?_,λd c e=>?_,λp hp=>absurd (show p∈([]:List (Addr×Obj))from hp) (by simp),?_
 ·exact Un.laid L M Xz
 ·cases i with
  | zero=>cases e2
  | succ i =>
   have f:(G.map (·.1))[i]?=some d:=e1;have n:(fM G σ)[i]?=some (some v):=e2;rw[aah]at f;unfold fM at n;rw[aah]at n;cases F:G[i]? with
   | none=>rw[F]at f;cases f
   | some p =>
    rw[F]at f n;obtain⟨t,j⟩:=p;have ey:t=d:=aao f;subst ey;have N:(σ[j]?).getD none=some v:=aao n;have a0:σ[j]?=some (some v):=by
     cases q:σ[j]? with
     | none=>rw[q]at N;cases N
     | some w=>rw[q]at N;exact congrArg some N
    obtain⟨c1,c2,c3⟩:=E.cap t j (aag F);obtain⟨m0,a1,hl⟩:=I.loc;obtain⟨u,r,l⟩:=hl j t v c1 a0 (by rcases c2 with z|z;exact .inr (.inl z);exact .inr (.inr z));refine(u,r,.inr (c3,?_));rcases l with ⟨k,_⟩|⟨k,c,F,z⟩
    ·have K:X.env.scope.names.lookup t=some .local:=k;rcases c2 with z|z
     ·rw[z]at K;cases K
     ·rw[z]at K;cases K
    ·obtain⟨c',J⟩:=E.has t c3;have e4:=E.cls t c' J;rw[F]at e4;cases e4;obtain⟨o,O,hd⟩:=z;exact(c,J,o,L _ _ O,hd)
 ·obtain⟨v,o,O,hd⟩:=I.cell d c (B d c e);exact(v,o,L _ _ O,hd)
 ·show upd H a (.lst []) C=none;rw[aJ (ags Z)];exact V
 ·have W:=Zm d c (B d c e);rw[aJ (aat (aak W M))];exact I.freeC d c (B d c e)
 ·exact I.hok.laid L M (aaP _,[],_,.nil,hL)
 ·show (none::fM G σ).length=(x::G.map (·.1)).length;simp[tK]
theorem Inv.comped{N:List Str}{C:Addr}{c:Shared}{a:St}{H':Hp}(I:Inv X π σ H s)(d:∀b∈g,gP X π H b)
  (J:Inv (bI X N scope y C s H g) [] a H' c):Inv X π σ H' c:=by
 refine I.call' (ch:=g) (J.os.trans rfl) J.base J.hok J.bare λb e=>?_;obtain⟨l,j,k,i,h,f⟩:=d b e;exact(i,j,h,f)
def iR(J:It)(e:St)(tt:TT)(j:TE)(k:Addr->Hp->Prop)(H:Hp):Prop:=
 ∀D,H D=none -> ∃W:Nat->Nat->List V->Hp->Prop,(∃m,W 0 m [] (upd H D (.lst []))) /\ ∀i m a d,W i m a d ->
  (J.stop i d/\k D d)\/(J.go i d /\ ∀v h,J.Vv i d v h->tt (some v::e) h λb g=>if b=true then
   j (some v::e) g λy f=>f D=some (.lst a)/\a.length<sizeLine /\ ∃c,c<m/\W (i+1) c (a++[y]) (upd f D (.lst (a++[y])))else ∃c,c<m/\W (i+1) c a g)
def Ws(X:Cx)(a:List Expr)(tt:TT):Prop:=
 ∀(π:List (Addr×Obj)) (s:Shared) (σ:St) (H:Hp) (Q:Bool->Hp->Prop),Inv X π σ H s->tt σ H Q ->
  wpAny (model X.prog X.w) X.A (forIn a true λc r=>if r=true then do let b <-isTrue c X.env (eval c X.env);pure (ForInStep.yield b)else pure (ForInStep.yield r)) (TP X π σ Q) X.xe s
def KJ:TT:=λ_ H Q=>Q true H
theorem fL:Ws X [] KJ:=λ_ _ _ H _ I h=>wpAny_tests_nil (H,I,h)
theorem uJ{c:Expr}{tt:TT}(h:PT X c tt):Ws X [c] tt:=λ π s σ H Q I q=>wpAny_tests_one (h π s σ H Q I q)
def dZ(X:Cx)(fn:Str->Bool)(N:List Str)(a:Scope)(c:List (Str×Addr))(C:Addr)(s:Shared)(H:Hp)(b:List Addr):Cx:=
 { bI X N a c C s H b with fn:=fn }
theorem Inv.compedG{fn:Str->Bool}{N:List Str}{C:Addr}{c:Shared}{a:St}{H':Hp}(I:Inv X π σ H s)(d:∀b∈g,gP X π H b)
  (J:Inv (dZ X fn N scope y C s H g) [] a H' c):Inv X π σ H' c:=by
 refine I.call' (ch:=g) (J.os.trans rfl) J.base J.hok J.bare λb e=>?_;obtain⟨l,j,k,i,h,f⟩:=d b e;exact(i,j,h,f)
theorem Eo{fn:Str->Bool}{x:Str}{pos:Pos}{F:List (Str×Addr)}{iter:Expr}{J:It}{tn:Nat->Heap->Prop}{tt:TT}{C:Addr}{tk:Nat}
  {RR:Value->Addr->Result->Shared->Prop}(I:Inv X π σ H s)(hc:X.calm=true)(T:Turn X.prog X.w X.K (.Name x p) J g a tn)(hf:∀b∈g,gP X π H b)(a1:∀b∈g,b<s.heap.objs.size)(a0:s.heap.objs.size<=C)(eD:f=s.heap.objs.size)(a9:∀y c,F.lookup y=some c -> ∀b∈g,c≠b)
  (hg:PG (dZ X fn (x::G.map (·.1)) scope F C s H g) (.Name x p) (gB 0))(ht:Ws (dZ X fn (x::G.map (·.1)) scope F C s H g) B tt)(he:PE (dZ X fn (x::G.map (·.1)) scope F C s H g) e ta)(rd:iR J (fM G σ) tt ta z H)
  (b0:∀f C S H' m,Inv X π σ H' S->S.heap.Ns C m->gP X π H' C->z f H'->RR (.ref f) C (.ok .next) S)
  (I0:Inv (dZ X fn (x::G.map (·.1)) scope F C s H g) [] (none::fM G σ) (upd H f (.lst [])) { s with heap:=h',toks:=tk })(a6:tn 0 h'):
  codeAny (model X.prog X.w) X.A (.compLoop (.ListComp e [(.Name x p,iter,B,0)] scope pos) 0 (.ref a) (.ref f) (compEnvC scope F C X.env)) (RR (.ref f) C) { s with heap:=h',toks:=tk }:=by
 obtain⟨W,⟨m0,w0⟩,a2⟩:=rd f (I.hok.fresh (ahg eD.symm));refine codeAny_compLoop_tests (λn S=>∃i O M H',Inv (dZ X fn (x::G.map (·.1)) scope F C s H g) [] (M::fM G σ) H' S/\tn i S.heap/\(∀b∈g,H' b=none)/\W i n O H') ?_ m0
  (0,[],none,_,I0,a6,λb E=>?_,w0)
 ·rintro n s3 ⟨i,O,M,H3,I3,Z,Wr,w3⟩;have WQ:∀{H':Hp}{pi:List (Addr×Obj)},(∀b∈g,H' b=none)->(∀l∈pi,l.1∉g) -> ∀b∈g,gP (dZ X fn (x::G.map (·.1)) scope F C s H g) pi H' b:=λ{H' pi} hn hp b E=>by
   obtain⟨f0,f1,f2,f3,f4,f5⟩:=hf b E;refine(hn b E,?_,λj=>?_,.inl E,λy c k=>a9 y c k b E,λl a8 j=>?_)
   ·exact aat (aak (a1 b E) a0)
   ·rcases aaQ.mp (I.stkSub b j)with q|q
    ·exact f1 q
    ·exact f2 q
   ·exact hp l (by simpa [dZ,bI]using a8) (by rw[j];exact E)
  have clear:∀{α:Type}{t:Sem α}{Q:α->Shared->Prop}{E':Value->Shared->Prop}{s:Shared},wpAny (model X.prog X.w) X.A t Q (λ_ _=>False) s->wpAny (model X.prog X.w) X.A t Q E' s:=λh=>wpAny_mono h (λ_ _ j=>j) λ_ _ j=>j.elim;rcases a2 i n O H3 w3 with ⟨a3,qf⟩|⟨go,a4⟩
  ·refine Uh (T.done (dZ X fn (x::G.map (·.1)) scope F C s H g) rfl rfl rfl hc i [] s3 _ H3 _ I3 (WQ Wr (by simp)) Z a3) λr s4 ⟨hr,I4⟩=>?_;subst hr;obtain⟨m4,Yq,_⟩:=id I4.loc;refine b0 f _ s4 H3 m4 (I.compedG hf I4) Yq ?_ qf;have gC:s.heap.objs.size<=C:=a0;exact I.fpOk gC I4.free
  ·refine clear (Uh (T.item (dZ X fn (x::G.map (·.1)) scope F C s H g) rfl rfl rfl hc i [] s3 _ H3 (λ_ _=>False) I3 (WQ Wr (by simp)) Z go) λr s4 ⟨u,hr,h4⟩=>?_);subst hr;refine clear (show wpAny (model X.prog X.w) X.A (pure () >>= λ_=>assign (.Name x p) (compEnvC scope F C X.env) u) _ _ s4 from wpAny_bind (Uh (h4:wpAny (model X.prog X.w) X.A (pure ()) _ _ s4) λ_ s5 ⟨v,H5,I5,r5,y5,Vz,Xu⟩=>?_));have Xv:=I5.pinned (WQ Xu (by simp)) (T.obj _ _ Vz);refine Uh (hg _ s5 (M::fM G σ) H5 v u (λ a5 H2=>a5=some v::fM G σ/\H2=H5) Xv r5 (show _/\_ from (rfl,rfl))) λ_ s6 ⟨b1,H6,I6,e6,e7⟩=>?_;subst e6 e7;have q6:=a4 v _ y5;have L:∀{P:Hp}{R:Shared}{M:Option V}{zs:List V}{N:Nat},Inv (dZ X fn (x::G.map (·.1)) scope F C s H g) ([]++rK g s5.heap) (M::fM G σ) P R->N<n->W (i+1) N zs P ->
     ∃m,m<n /\ ∃i O M H',Inv (dZ X fn (x::G.map (·.1)) scope F C s H g) [] (M::fM G σ) H' R/\tn i R.heap/\(∀b∈g,H' b=none)/\W i m O H':=λ{P R M zs N} U Y w7=>by
    refine(N,Y,i+1,zs,M,P,U.ξ,T.keep _ _ _ Vz λb E o k=>(U.pin (pq b o) (aaw _ (aaw _ (fV E k)))).1,λb E=>?_,w7);obtain⟨o,k,d⟩:=T.obj _ _ Vz b E;exact(U.pin (pq b o) (aaw _ (aaw _ (fV E k)))).2.1
   refine clear (Uh (ht _ s6 _ H6 _ I6 q6) λok R ⟨P,U,q7⟩=>?_);cases ok with
   | false =>
    obtain⟨N,Y,w7⟩:=(show ∃N,N<n/\W (i+1) N O P from q7);exact L U Y w7
   | true =>
    refine clear (Uh (he _ R _ P _ U q7) λxv s8 ⟨y,H8,I8,r8,Zn,a7,N,Y,w8⟩=>?_);refine clear (Uh (b7 _ s8 _ H8 (.ref f) [y] (.ref f) [xv] (λ_ H9=>H9=upd H8 f (.lst (O++[y]))) I8 rfl (.cons r8 .nil) (f,O,y,rfl,rfl,Zn,a7,rfl)) λ_ s9 ⟨_,H9,I9,_,e9⟩=>?_);subst e9;exact L I9 Y w8
 ·rw[aJ (by rw[eD];exact aat (a1 b E))];exact(hf b E).1
theorem yK{x:Str}{pos:Pos}{iter:Expr}{J:It}{M:Nat->Heap->Prop}{tt:TT}
  {RR:Value->Addr->Result->Shared->Prop}{E:Value->Shared->Prop}(I:Inv X π σ H s)(hc:X.calm=true)(n:bZ X x G scope y)(T:Turn X.prog X.w X.K (.Name x p) J g a M)(st:M 0 s.heap)(P:∀b∈g,gP X π H b)
  (ht:∀C N V S,Ws (bI X (x::G.map (·.1)) scope y C N V S) B tt)(he:∀C N V S,PE (bI X (x::G.map (·.1)) scope y C N V S) e ta)(rd:iR J (fM G σ) tt ta z H)
  (W:∀D C O H' m,Inv X π σ H' O->O.heap.Ns C m->gP X π H' C->z D H'->RR (.ref D) C (.ok .next) O):
  wpAny (model X.prog X.w) X.A (newList []) (λF s3=>wpAny (model X.prog X.w) X.A (newFunctionEnv scope X.env.globals y [] X.env.qual none .none (some X.env)) (λl s4 =>
   codeAny (model X.prog X.w) X.A (.compStart (.ListComp e [(.Name x p,iter,B,0)] scope pos) 0 (.ref a) F { l with scope:=relabel scope X.env }) (RR F l.locals) s4) E s3) E s:=by
 have v:∀b∈g,b<s.heap.objs.size:=λb Q=>by
  obtain⟨o,f,_⟩:=T.obj _ _ st b Q;exact Heap.lt_size f
 refine wpAny_newObj_type (wpAny_newFunctionEnv n.ρ (by intro h hy;simp at hy) (λR q j=>?_) n.kind);dsimp only at q j ⊢;obtain⟨D,r⟩:∃D:Nat,D=s.heap.objs.size:=(_,rfl)
 obtain⟨U,L⟩:∃d,d=s.heap.push { cls:=.type "list",dict:=none,data:=.seq ([]:List Value).toArray }:=(_,rfl)
 rw[<-L]at q j ⊢;rw[<-r];have hC:U.objs.size=D+1:=by rw[L,Heap.size_push,r]
 have u:s.heap.objs.size<=U.objs.size:=by rw[hC,r];exact agS _
 have Y:D≠U.objs.size:=by rw[hC];exact aat (agK _)
 have Z:∀b o,s.heap.get? b=some o->R.get? b=some o:=λb o f=>by
  refine j.extBut b o (aat (aak (Heap.lt_size f) u)) (Heap.get?_push_of_some _ ?_);rw[L];exact Heap.get?_push_of_some _ f
 have hL:R.get? D=some { cls:=.type "list",data:=.seq #[] }:=by
  refine j.extBut D _ (by lia) (Heap.get?_push_of_some _ ?_);rw[L,r];exact Heap.get?_push_size _ rfl
 have t:M 0 R:=T.keep _ _ _ st λb _ o f=>Z b o f;have k:=Eo (fn:=λ_=>false) (pos:=pos) (iter:=iter) (RR:=RR) I hc T P v u r (λh c f b Q=>(P b Q).2.2.2.2.1 h c (n.cls h c f)) (lg (i:=0) n.nd rfl (ag1 (lookup_relabel_local n.hx)) (ahT (lookup_relabel_local n.hx))) (ht _ _ _ _) (he _ _ _ _) rd W (I.comp (tk:=s.toks+([]:List (Str×Value)).length) n P v (by lia) (by lia) Y Z q hL) t;exact codeAny_compStart_list k (T.self _ 0 _ _ _ t k)
def Ld(a:List (Str×Nat))(tt:TT)(b:TE)(σ:St)(Q:VK):It->Hp->Prop:=λJ c=>iR J (fM a σ) tt b (λD d=>Q (.ref D) d) c
def Qk(b:TI)(a:List (Str×Nat))(tt:TT)(c:TE):TE:=λ σ H Q=>b σ H (Ld a tt c σ Q)
theorem jy{x:Str}{pos:Pos}{iter:Expr}{r:TI}{tt:TT}(L:X.calm=true)(g:bZ X x G scope y)(F:PI X (.Name x p) iter r)
  (ht:∀C f j i,Ws (bI X (x::G.map (·.1)) scope y C f j i) B tt)(K:∀C f j i,PE (bI X (x::G.map (·.1)) scope y C f j i) e ta)(z:∀x,foldedSetIterable iter X.env x=pure x:=by intro _;rfl):
  PE X (.ListComp e [(.Name x p,iter,B,0)] scope pos) (Qk r G tt ta):=by
 intro π s σ H Q I h;rw[eval_ListComp];refine wpAny_comprehension_free (use:=none) rfl z g.clos g.kind g.names (Uh (F π s σ H _ I h) λv f O=>Uh O λV Y N=>?_);obtain⟨Z,fp,W,J,H2,a,R,T,k,P,u⟩:=N;subst a;refine yK (RR:=λn C=>compPost (model X.prog X.w) X.A X.xe none (EP X π σ Q) n C) R L g T k P ht K u ?_;intro D C t U m S E c q;exact(m,E,λl d=>(.ref D,U,S.turned (h':=l) (t':=t.toks) (λb o M a=>d.extBut b o M a) c.1 c.2.1 c.2.2.2.1 c.2.2.2.2.1 c.2.2.2.2.2,rfl,q))
theorem kE{i:Nat}{y x:Str}{pos d:Pos}{r:List (Str×Addr)}{iter:Expr}{O:TI}{tt:TT}(hN:X.N.Nodup)(XC:X.N[i]?=some y)(P:X.env.scope.names.lookup y=some .local)(hc:X.calm=true)
  (n:bZ X x G scope r)(Z:PI X (.Name x p) iter O)
  (ht:∀C l u t,Ws (bI X (x::G.map (·.1)) scope r C l u t) B tt)(he:∀C l u t,PE (bI X (x::G.map (·.1)) scope r C l u t) e ta)
  (K:swapsWith (.ListComp e [(.Name x p,iter,B,0)] scope pos) (some (.Name y apos)) d.line X.env=pure true:=by rfl)(V:∀x,foldedSetIterable iter X.env x=pure x:=by intro _;rfl):
  PS X (.Assign [.Name y apos] (.ListComp e [(.Name x p,iter,B,0)] scope pos) d) (Ib (Qk O G tt ta) (gB i)):=by
 intro π s σ H R I h;rw[exec_Assign_Name_used _ _ _ _ K];refine wpAny_bind (wpAny_standAt (wpAny_bind ?_));show wpAny _ X.A (do let _ <-comprehension (.ListComp e [(.Name x p,iter,B,0)] scope pos) scope X.env _ (newList []) false (eval iter X.env) (some (assign (.Name y apos) X.env))) _ _ s;refine wpAny_bind (wpAny_mono (wpAny_comprehension_free (use:=some (assign (.Name y apos) X.env)) (Q:=λ_ g=>SP X π R .next g) rfl V n.clos n.kind n.names
  (Uh (Z π s σ H _ I h) λv l h1=>Uh h1 λa0 s2 h2=>?_)) (λ_ g W=>wpAny_pure (wpAny_pure W)) λ_ _ c=>c)
 obtain⟨it,fp,tn,J,H2,c,I2,T,E,f2,U⟩:=h2;subst c;refine yK (RR:=λM C=>compPost (model X.prog X.w) X.A X.xe (some (assign (.Name y apos) X.env)) (λ_ g=>SP X π R .next g) M C) I2 hc n T E f2 ht he U ?_;intro D C g H' m I' Y f q;show wpAny _ X.A (assign (.Name y apos) X.env (.ref D)) _ _ _;refine wpAny_assign_Name (nY (v:=.ref D) I' hN XC (.inl P) rfl (λF XD ch=>(m,?_,λL k=>?_)) (.inr P))
 ·obtain⟨a,S,j⟩:=ch;refine Y.sameBut S λz=>?_;rcases j with j|j
  ·exact f.2.1 (z.trans j)
  ·exact f.2.2.2.2.1 _ a j z.symm
 ·exact(_,H',XD.turned (h':=L) (t':=F.toks) (λb o hb c=>k.extBut b o hb c) f.1 f.2.1 f.2.2.2.1 f.2.2.2.2.1 f.2.2.2.2.2,q)
theorem pL{a:Env}{y:Str}{k:NameKind}(h:(relabel scope a).names.lookup y=some k):∃k0,(pq y k0)∈scope.names/\(k=k0\/(k0=.free/\k=.cell)):=by
 have h:=PySem.mem_of_lookup h;obtain⟨⟨n,k0⟩,d,e⟩:=aaT.mp (show (pq y k)∈scope.names.map _ from h);by_cases c:(k0 == NameKind.free && a.scope.kind == .function && a.kindOf n == some .cell)=true
 ·have b:(pq n NameKind.cell)=(pq y k):=by rw[<-e];exact(if_pos c).symm
  have f:k0=.free:=by
   simp only[ahs]at c;exact eq_of_beq c.1.1
  cases b;exact(_,d,.inr (f,rfl))
 ·have b:(pq n k0)=(pq y k):=by rw[<-e];exact(if_neg c).symm
  cases b;exact(_,d,.inl rfl)
theorem bZ.zero(a:∀y∈scope.names,y.2 ≠ .free:=by decide)(i:∀y∈scope.names,y.2 ≠ .cell:=by decide)(d:scope.kind=.function:=by rfl)(b:∀y∈scope.names,y.2=.local->scope.names.lookup y.1=some .local:=by decide)
  (k:scope.names.lookup x=some .local:=by rfl):bZ X x [] scope []:=by
 refine(d,i,b,k,closureFor_none a,λy c e=>(by cases e),λy f=>?_,by simp,λy j h=>nomatch h);rcases f with f|f
 all_goals
  obtain⟨l,g,e⟩:=pL f;rcases e with e|⟨e,_⟩
  ·subst e
   first|exact absurd rfl (i _ g) | exact absurd rfl (a _ g)
  ·subst e;exact absurd rfl (a _ g)
theorem bZ.one{y:Str}{j:Nat}{c:Addr}(t:X.N[j]?=some y)(s:X.env.scope.names.lookup y=some .cell\/X.env.scope.names.lookup y=some .free)(u:X.env.cells.lookup y=some c)(k:closureFor scope X.env=pure [(pq y c)])
  (r:(relabel scope X.env).names.lookup y=some .cell\/(relabel scope X.env).names.lookup y=some .free)
  (a:∀z∈scope.names,z.2=.free->z.1=y:=by decide)(o:∀y∈scope.names,y.2 ≠ .cell:=by decide)(g:scope.kind=.function:=by rfl)(b:∀y∈scope.names,y.2=.local->scope.names.lookup y.1=some .local:=by decide)
  (q:scope.names.lookup x=some .local:=by rfl)(p:[x,y].Nodup:=by decide):bZ X x [(pq y j)] scope [(pq y c)]:=by
 have f:([(pq y c)]:List (Str×Addr)).lookup y=some c:=by simp
 refine(g,o,b,q,k,λz d e=>?_,λz l=>?_,p,λz i h=>?_)
 ·have:=PySem.mem_of_lookup e;cases aas.mp this;exact u
 ·have n:z=y:=by
   rcases l with l|l
   all_goals
    obtain⟨v,m,e⟩:=pL l;rcases e with e|⟨e,_⟩
    ·subst e
     first|exact absurd rfl (o _ m) | exact a _ m rfl
    ·subst e;exact a _ m rfl
  subst n;exact(c,f)
 ·cases aas.mp h;exact(t,s,r)
section
variable{R:Result->Shared->Prop}{I:Addr}{fp wr:List Addr}{P:Nat->Value->Prop}{St:Nat->Heap->Prop}{kw:List (Str×Value)}
theorem Jj(W:Walks prog w A.in1 I fp wr n P St)(h:Nat->Nat->Bool)(H:CmpOf prog w A.in1 .Lt P h)(r:S∉fp):
  ∀(k j:Nat) (s:Shared) (x:Value) (c:Nat),j+1+k=n->St (j+1) s.heap->P (argBest h j) x->s.heap.get? S=some { cls:=.type "list",data:=.seq #[x,x] c } ->
   (∀v g t,P (argBest h (n - 1)) v->(∀b o,b∉wr->b≠S->s.heap.get? b=some o->g.get? b=some o)->R (.ok (.ret v)) { s with heap:=g,toks:=t }) ->
   codeAny (model prog w) A (.builtin "min.loop" ([.ref I,.none,.ref S],kw)) R s:=by
 have p:S∉wr:=λz=>r (W.sub _ z)
 have J:(toString "min" ++ toString ".loop" : String) = "min.loop":=by decide
 intro k
 induction k with
 | zero =>
  intro j s x c M C u l d;have L:j+1=n:=M;refine codeAny_builtin PySem.F.entry_min_loop ?_;rw[Around.under_plainId PySem.F.plain_min_loop _];show wpAny _ A.in1 (seqItems? (.ref S) >>= _) _ _ s;refine wpAny_bind (wpAny_seqItems l rfl ?_);show wpAny _ A.in1 (tryCatch (pyNext (.ref I)) _ >>= _) _ _ s;refine wpAny_bind (wpAny_tryCatch (W.done s _ _ (L ▸ C) λg t f=>?_));have a:=f S _ p l;show wpAny _ A.in1 (updateSeq S (λ_=>#[]) >>= _) _ _ _;refine wpAny_bind (wpAny_updateSeq a rfl (wpAny_bind (wpAny_letGo (wpAny_pure ?_))));exact d x _ t (by rw[<-L];exact u) λb o e i q=>(Heap.get?_update_other _ _ (ags i)).trans (f b o e q)
 | succ k K =>
  intro j s x c M C u l d;have O:j+1<n:=by lia
  refine codeAny_builtin PySem.F.entry_min_loop ?_;rw[Around.under_plainId PySem.F.plain_min_loop _];show wpAny _ A.in1 (seqItems? (.ref S) >>= _) _ _ s;refine wpAny_bind (wpAny_seqItems l rfl ?_);show wpAny _ A.in1 (tryCatch (pyNext (.ref I)) _ >>= _) _ _ s;refine wpAny_bind (wpAny_tryCatch (W.item (j+1) s _ _ O C λv g t pv m f=>?_));have a:=f S _ p l;show wpAny _ A.in1 (tryCatch (holding [v,v] (richCompare .Lt v x >>= _)) _ >>= _) _ _ _;refine wpAny_bind (wpAny_tryCatch (wpAny_holding (wpAny_bind (H (j+1) (argBest h j) v x _ _ _ pv u ?_))));refine wpAny_bind (wpAny_holding (wpAny_truthy_bool (wpAny_bind (wpAny_letGo (wpAny_pure ?_)))));cases N:h (j+1) (argBest h j)with
  | true =>
   simp only[if_true];refine wpAny_bind (wpAny_updateSeq a rfl (wpAny_bind (wpAny_letGo ?_)));rw[J];refine wpAny_pure (plainId_quiet PySem.F.plain_min_loop _,K (j+1) _ v _ (by lia) (W.frame _ _ _ m λb Q o q=>?_) (by simp only[argBest,N,if_true];exact pv) (Heap.get?_update_self _ a rfl) λy G B D E=>?_)
   ·exact(Heap.get?_update_other _ _ (λz:S=b=>r (by rw[z];exact Q))).trans q
   ·exact d y G B D λb o e i q=>E b o e i ((Heap.get?_update_other _ _ (ags i)).trans (f b o e q))
  | false =>
   simp only[ad5,if_false];refine wpAny_bind (wpAny_letGo ?_);rw[J];refine wpAny_pure (plainId_quiet PySem.F.plain_min_loop _,K (j+1) _ x c (by lia) m (by simp only[argBest,N,ad5,if_false];exact u) a λy G B D E=>?_);exact d y G B D λb o e i q=>E b o e i (f b o e q)
theorem Gi(W:Walks prog w A.in1 I fp wr n P St)(e:Nat->Nat->Bool)(j:CmpOf prog w A.in1 .Lt P e)(a:S∉fp)(C:0<n){s:Shared}{c:Nat}(st:St 0 s.heap)
  (l:s.heap.get? S=some { cls:=.type "list",data:=.seq #[] c })
  (i:∀v g t,P (argBest e (n - 1)) v->(∀b o,b∉wr->b≠S->s.heap.get? b=some o->g.get? b=some o)->R (.ok (.ret v)) { s with heap:=g,toks:=t }):
  codeAny (model prog w) A (.builtin "min.loop" ([.ref I,.none,.ref S],kw)) R s:=by
 have h:S∉wr:=λz=>a (W.sub _ z)
 have x:(toString "min" ++ toString ".loop" : String) = "min.loop":=by decide
 refine codeAny_builtin PySem.F.entry_min_loop ?_;rw[Around.under_plainId PySem.F.plain_min_loop _];show wpAny _ A.in1 (seqItems? (.ref S) >>= _) _ _ s;refine wpAny_bind (wpAny_seqItems l rfl ?_);show wpAny _ A.in1 (tryCatch (pyNext (.ref I)) _ >>= _) _ _ s;refine wpAny_bind (wpAny_tryCatch (W.item 0 s _ _ C st λv g t pv f k=>?_));have d:=k S _ h l;show wpAny _ A.in1 (updateSeq S (λ_=>#[v,v]) >>= _) _ _ _;refine wpAny_bind (wpAny_updateSeq d rfl ?_);rw[x];refine wpAny_pure (plainId_quiet PySem.F.plain_min_loop _,Jj W e j a (n - 1) 0 _ v _ (by lia) (W.frame _ _ _ f λb E o q=>?_) pv (Heap.get?_update_self _ d rfl) λy D r u B=>?_)
 ·exact(Heap.get?_update_other _ _ (λz:S=b=>a (by rw[z];exact E))).trans q
 ·exact i y D r u λb o p m q=>B b o p m ((Heap.get?_update_other _ _ (ags m)).trans (k b o p q))
end
theorem JZ(a v:Value):argsOk "min" ⟨[a],[(pq (Str.ofString "default") v)]⟩:=by unfold argsOk;kernel_rfl
section
variable{l:Addr}{zs:Array (Int×Tok)}
theorem q8{Q:Value->Shared->Prop}(x:A.handled=none)(p:s.heap.IsList l (intItems zs))(a:0<zs.size)
  (h:∀v g t,(intItems zs)[argBest (λi j=>decide (numAt zs i<numAt zs j)) (zs.size - 1)]?=some v->(∀b o,s.heap.get? b=some o->g.get? b=some o)->Q v { s with heap:=g,toks:=t }):
  wpAny (model prog w) A (call (.builtin "min") [.ref l] [(pq (Str.ofString "default") r)]) Q E s:=by
 have u:(toString "min" ++ toString ".loop" : String) = "min.loop":=by decide
 refine PyProof.Rows.kmk_tree PySem.F.kind_min PySem.F.plain_min PySem.F.entry_min (JZ _ _) ?_
 refine wpAny_bind (wpAny_of_eq (show Builtin.Builtins.bindParams "min" ["key","default"] 0 ⟨[],[(pq (Str.ofString "default") r)]⟩=pure [none,some r]from rfl) ?_)
 refine wpAny_bind (wpAny_pure (wpAny_bind (iter_intList p λB e y f c=>?_)));subst e;refine wpAny_bind (wpAny_newObj_type ?_);rw[u];have m:(intItems zs).size=zs.size:=by simp[intItems]
 refine wpAny_pure (plainId_quiet PySem.F.plain_min_loop _,Gi (Walks.list (A:=A.in1) x _ l c (intItems zs)) _ (CmpOf.ints_lt (numAt zs) (λ_ _=>intItems_at)) (λz=>agf _ (f _ z)) (by rw[m];exact a)
  ((_,Heap.get?_push_of_some _ (Heap.get?_push_size _ rfl),rfl,rfl),(p.push _).push _) (Heap.get?_push_size _ rfl) λv g t n k=>?_)
 refine h v g t (by rw[m]at n;exact n) λb o q=>k b o ?_ ?_ (Heap.get?_push_of_some _ (Heap.get?_push_of_some _ q))
 ·exact λz=>absurd (Heap.lt_size q) (by rw[aas.mp z];exact agf _)
 ·refine aat (aak (Heap.lt_size q) ?_);rw[Heap.size_push];exact agS _
end
def Lg(M:Int)(b:List Int):Prop:=M∈b /\ ∀a∈b,M<=a
theorem Mv{zs:Array (Int×Tok)}(l:IntsAre u d)(e:u.toArray=intItems zs)(f:0<d.length):0<zs.size/\Lg (numAt zs (argBest (λi j=>decide (numAt zs i<numAt zs j)) (zs.size - 1))) d:=by
 have b:d=zs.toList.map (·.1):=by rw[<-l.numsOf,<-nums_intItems,<-e]
 have c:0<zs.size:=by
  have h:=f;rw[b,aaa,aae]at h;exact h
 obtain⟨n,m⟩:=argBest_lt (numAt zs) (zs.size - 1);refine(c,?_,λa g=>?_)
 ·rw[b,numAt_eq];exact getD_mem (by rw[aaa,aae];lia)
 ·rw[b]at g;obtain⟨j,k,rfl⟩:=mem_getD g;rw[aaa,aae]at k;rw[<-numAt_eq];exact m j (by lia)
inductive Ob(K:PySem.W.Frag)(Q:VK)(vs:List V)(_:V)(H2:Hp):Prop
 | mk (p:Addr) (ns:List Int) (_:vs=[.ref p]) (_:My K H2 p (ns.map V.int)) (_:0<ns.length) (_:∀M,Lg M ns->Q (.int M) H2)
def Mj(K:PySem.W.Frag)(b:TE)(σ:St)(Q:VK):List V->Hp->Prop:=λa c=>b σ c (Ob K Q a)
def R7(K:PySem.W.Frag)(c:TA)(b:TE):TE:=λ a H Q=>c a H (Mj K b a Q)
theorem Ol{a :Expr}{p pos :Pos}(T:X.calm=true)(R:Gl X "min")(P:X.mg "min" = none)(U:PA X [a] t)(hd:PE X e ta)
  (j:bootBuiltins "min" = some (.builtin "min"))
  (S:backTo pos (starEach [a] X.env)=(pq false (eval a X.env))::backTo pos (starEach [] X.env):=by rfl)(m:(backTo pos (starEach [a] X.env)).any (·.1)=false:=by rfl)
  (w:(backToKw pos (keywordEach [(some (Str.ofString "default"),e,apos)] X.env)).filterMap (·.1)=[Str.ofString "default"]:=by rfl)
  (i:(backToKw pos (keywordEach [(some (Str.ofString "default"),e,apos)] X.env)).all (·.1.isSome)=true:=by rfl)
  (r:(backToKw pos (keywordEach [(some (Str.ofString "default"),e,apos)] X.env)).any (·.1.isNone)=false:=by rfl):
  PE X (.Call (.Name "min" p) [a] [(some (Str.ofString "default"),e,apos)] pos) (R7 X.K t ta):=by
 intro z s y H Q I h;refine wpAny_Call_Name_kw (eO I R P j ?_);refine PyProof.Rows.callWith_kw (Uh (U pos z s y H _ I h) λus A ⟨vs,Y,V,F,M⟩=>?_) S m i r;show wpAny _ _ (evalAll ((do let v <-eval e X.env;standAt pos;pure v)::[])) _ _ A;refine wpAny_evalAll_cons (wpAny_bind (Uh (hd z A y Y _ V M) λdv s2 ⟨x,W,C,_,L⟩=>wpAny_bind (wpAny_standAt (wpAny_pure (wpAny_evalAll_nil ?_)))));obtain⟨b,ns,rfl,O,n,q⟩:=L;obtain⟨u,rfl,E⟩:=vals1 F;cases E;rw[w];obtain⟨Z,G,N,hz⟩:=C.list O;have B:=intsAre_of G;obtain⟨J,c⟩:=B.allInts.items;obtain⟨l,o⟩:=Mv B c n;refine q8 (zs:=J) (I.ok.hd T) (by rw[<-c];exact N.isList) l λv g f j k=>?_;obtain⟨D,rfl⟩:=intItems_at j;exact(.int _,W,C.kept (t':=f) k,(D,rfl),q _ o)
def WR(lo st:Int)(n:Nat):It:=(λi _=>i<n,λi H x a=>a=H/\x=.int (lo+i*st),λi _=>n<=i)
theorem sI{w:World}(c:Addr)(lo st:Int)(n:Nat):Turn prog w K e (WR lo st n) [c] c (λi h=>IsRangeIter h c (lo+(i:Nat)*st) ((n:Int) - (i:Nat)) st) where
 mem:=by simp
 obj:=λi h q b d=>by
  have a:b=c:=by simpa using d
  subst a;exact(_,q,λv z=>by
   have J:Data.fields _=Data.cell v:=z;cases J)
 keep:=λi h g q k=>k c (by simp) _ q
 item:=by
  intro X p j r m i D s C H E I f q l;subst p j r;obtain⟨B,A,N,y,x,u⟩:=f c (by simp);have W:=Walks.range (prog:=X.prog) (w:=X.w) (I.ok.hd m) c lo st n;refine W.item i s _ _ l q λv g F M G L=>?_;obtain⟨t,rfl⟩:=M;have Q:Inv X D C H { s with heap:=g,toks:=F }:=I.turned (λb o d a=>L b o (by simpa using d) a) B A y x u
  exact(_,rfl,vB (s:={ s with heap:=g,toks:=F }) (n := "range_iterator") G rfl rfl (by decide) (.int (lo+i*st),H,Q,(t,rfl),(rfl,rfl),G,λb d=>(f b d).1))
 done:=by
  intro X p j r m i D s C H E I f q l;subst p j r;obtain⟨B,A,N,y,x,u⟩:=f c (by simp);exact wpAny_pyNext_range_end (I.ok.hd m) q (by have:n<=i:=l;lia) λg O=>(rfl,I.turned (t':=s.toks) (λb o d a=>O b o d a) B A y x u)
 self:=λ_ _ _ _ _ q h=>wpAny_pyIter_rangeiter q h
inductive Oo(R:It->Hp->Prop)(vs:List V)(H1:Hp):Prop
 | mk (b:Nat) (_:vs=[.int 0,.int (b:Int),.int 32]) (_:b<536870912) (_:R (WR 0 32 ((b+31) / 32)) H1)
def S5(b:TA):TI:=λ a H R=>b a H (Oo R)
theorem Hr(b:Nat):Builtin.Range.rangeSize 0 b 32=(((b+31) / 32:Nat):Int):=by
 unfold Builtin.Range.rangeSize;rw[if_pos (by decide)];split <;> lia
theorem iZ{p q:Bool}(b:p=true)(a:q=true):(p && q)=true:=by rw[b,a];rfl
theorem Le{b:Nat}(h:b<536870912):Builtin.Range.small 0 b 32=true:=by
 unfold Builtin.Range.small Builtin.Range.rangeFitsLong;rw[Hr];generalize a:(((b+31) / 32:Nat):Int)=n;have c:n<=16777216:=by lia
 have d:0<=n:=by lia
 have e:(2:Int)^63=9223372036854775808:=by decide
 rw[e,if_pos (by decide)];refine iZ (iZ (iZ (iZ (by decide) (iZ (decide_eq_true ?_) (decide_eq_true ?_))) (by decide)) (iZ (decide_eq_true ?_) (decide_eq_true ?_))) ?_
 ·lia
 ·lia
 ·lia
 ·lia
 ·rw[ahh];exact .inr (iZ (decide_eq_true (by lia)) (decide_eq_true (by lia)))
theorem Jh{a b c:Expr}{p pos:Pos}(D:Gl X "range")(C:X.mg "range" = none)(F:PA X [a,b,c] t)(B:starEach [a,b,c] X.env=[(pq false (eval a X.env)),(pq false (eval b X.env)),(pq false (eval c X.env))]:=by rfl)
  (j:starEach [b,c] X.env=[(pq false (eval b X.env)),(pq false (eval c X.env))]:=by rfl):PI X tg (.Call (.Name "range" p) [a,b,c] [] pos) (S5 t):=by
 intro u s n H R I h;refine Call_ (eO I D C boot_range (PyProof.Rows.callWith_type1 (Uh (F pos u s n H _ I h) λM g ⟨L,v,K,w,z⟩=>?_) (by rw[B,j]) (by rw[j];rfl)));obtain⟨y,e,A,q⟩:=z;subst e;cases w with
 | cons r i =>
  cases i with
  | cons x i =>
   cases i with
   | cons m i =>
    cases i;obtain⟨d,rfl⟩:=r;obtain⟨k,rfl⟩:=x;obtain⟨f,rfl⟩:=m;refine call_range_3 (by decide) ?_ (.inl (PyProof.noPylong_small (by lia)));refine wpAny_pyIter_range (IsRange.new ..) (Le A) ?_
    have l:Inv X u n v { g with heap:=g.heap.push { cls:=.type "range",data:=.fields #[.int 0 d,.int y k,.int 32 f] },toks:=g.toks }:=K.kept λb o e=>Heap.get?_push_of_some _ e
    refine((g.heap.push { cls:=.type "range",data:=.fields #[.int 0 d,.int y k,.int 32 f] }).objs.size,[(g.heap.push { cls:=.type "range",data:=.fields #[.int 0 d,.int y k,.int 32 f] }).objs.size],_,_,v,rfl,
     l.kept (t':=g.toks) λb o e=>Heap.get?_push_of_some _ e,sI _ 0 32 ((y+31) / 32),?_,λb E=>?_,q)
    ·have J:(0:Int)+((0:Nat):Int)*32=0:=by decide
     have G:(((y+31) / 32:Nat):Int) - ((0:Nat):Int)=Builtin.Range.rangeSize 0 y 32:=by rw[Hr];simp
     show IsRangeIter _ _ ((0:Int)+((0:Nat):Int)*32) ((((y+31) / 32:Nat):Int) - ((0:Nat):Int)) 32;rw[J,G];exact Heap.get?_push_size _ rfl
    ·have e:b=(g.heap.push { cls:=.type "range",data:=.fields #[.int 0 d,.int y k,.int 32 f] }).objs.size:=by simpa using E
     subst e;exact l.fpOk (aad _) (l.hok.fresh (aad _))
theorem DR{lo st:Int}{n:Nat}{g:TG}{h:TS}{D:Ends}{σ:St}(a:Nat->St->Hp->Prop)(o:a 0 σ H)
  (l:∀(i:Nat) σ H,i<n->a i σ H->g (.int (lo+i*st)) σ H λ b f=>h { D with nx:=a (i+1),ct:=a (i+1),bk:=D.nx } b f)(hd:∀σ H,a n σ H->D.nx σ H):
  ∃W:Nat->Nat->St->Hp->Prop,(∃m,W 0 m σ H) /\ ∀i m σ H,W i m σ H ->
   ((WR lo st n).stop i H/\D.nx σ H)\/((WR lo st n).go i H /\ ∃N:St->Hp->Prop,(∀c H',N c H' -> ∃j,j<m/\W (i+1) j c H') /\ ∀x H',(WR lo st n).Vv i H x H'->g x σ H' λ b f=>h { D with nx:=N,ct:=N,bk:=D.nx } b f):=by
 exists λi m σ H=>m=n - i/\i<=n/\a i σ H,(n,by simp,aaP _,o);rintro i m σ H ⟨rfl,q,p⟩;by_cases d:i<n
 ·refine .inr (d,a (i+1),λ c H' k=>(n - (i+1),by lia,rfl,d,k),λx H' y=>?_);obtain⟨rfl,rfl⟩:=y;exact l i σ _ d p
 ·have e:i=n:=by lia
  subst e;exact .inl (aad _,hd σ H p)
def Xb(K:PySem.W.Frag)(a:Addr)(xs:List V):It:=
 (λi H=>My K H a xs/\i<xs.length,λi H x b=>b=H/\xs[xs.length - 1 - i]?=some x,λi _=>xs.length<=i)
theorem Lr{w:World}(a j:Addr)(xs:List V):Turn prog w K e (Xb K a xs) [j] j (λi h=>i<=xs.length/\h.IsRevIter j a ((xs.length:Int) - 1 - (i:Nat))) where
 mem:=by simp
 obj:=λi h g b l=>by
  have f:b=j:=by simpa using l
  subst f;obtain⟨_,o,f,c,d⟩:=g;exact(o,f,λv z=>by rw[d]at z;cases z)
 keep:=λi h q g k=>(g.1,g.2.at λo f=>k j (by simp) o f)
 item:=by
  intro X y r A O i M s L H E I n g t;subst y r A;obtain⟨U,hi⟩:=t;obtain⟨a0,R,p,hz⟩:=I.list U;obtain⟨x,N⟩:∃x,xs[xs.length - 1 - i]?=some x:=(_,aac (by lia));obtain⟨u,T,S⟩:=R.get N;obtain⟨G,F,Y,D,C,B⟩:=n j (by simp);obtain⟨J,g⟩:=g;have f:(xs.length:Int) - 1 - (i:Nat)=((xs.length - 1 - i:Nat):Int):=by lia
  rw[f]at g;refine wpAny_pyNext_rev_item g p.isList (x:=u) (by simpa using T) λq m Q=>?_;have I1:Inv X M L H { s with heap:=q }:=I.turned (t':=s.toks) (λb o l f=>(Q.2 b l).trans f) G F D C B;have e2:((xs.length - 1 - i:Nat):Int) - 1=(xs.length:Int) - 1 - ((i+1:Nat):Int):=by lia
  rw[e2]at m;obtain⟨o,f,c,d⟩:=id m;exact(u,rfl,vB (s:={ s with heap:=q }) f c d (by decide) (x,H,I1,S,(rfl,N),(by lia,m),λb l=>(n b l).1))
 done:=by
  intro X y r A O i M s L H E I n g t;subst y r A;obtain⟨G,F,Y,D,C,B⟩:=n j (by simp);obtain⟨J,g⟩:=g;have f:(xs.length:Int) - 1 - (i:Nat) = -1:=by have:xs.length<=i:=t;lia
  rw[f]at g;exact wpAny_pyNext_rev_end (I.ok.hd O) g λq Z=>(rfl,I.turned (t':=s.toks) (λb o l f=>Z b o l f) G F D C B)
 self:=λ_ _ _ _ _ g h=>wpAny_pyIter_revIter g.2 h
inductive Qy(K:PySem.W.Frag)(R:It->Hp->Prop)(vs:List V)(H1:Hp):Prop
 | mk (a xs:_) (_:vs=[.ref a]) (_:My K H1 a xs) (_:R (Xb K a xs) H1)
def Tt(K:PySem.W.Frag)(b:TA):TI:=λ a H R=>b a H (Qy K R)
theorem Nm{a:Expr}{p pos:Pos}(C:Gl X "reversed")(B:X.mg "reversed" = none)(E:PA X [a] t)(y:bootBuiltins "reversed" = some (.type "reversed"))(z:starEach [a] X.env=[(pq false (eval a X.env))]:=by rfl):
  PI X tg (.Call (.Name "reversed" p) [a] [] pos) (Tt X.K t):=by
 intro k s j H R I h;refine Call_ (eO I C B y (PyProof.Rows.callWith_type1 (Uh (E pos k s j H _ I h) λJ d ⟨G,m,i,v,w⟩=>?_) z rfl));obtain⟨b,g,e,A,q⟩:=w;subst e;obtain⟨u,rfl,n⟩:=vals1 v;cases n;obtain⟨f,r,x,L⟩:=i.list A;refine call_reversed_list x.isList ?_;have M:=r.length;have l:({ d with heap:=d.heap.push (revObj b ((f.toArray.size:Int) - 1)) }:Shared).heap.IsRevIter d.heap.objs.size b ((g.length:Int) - 1 - ((0:Nat):Int)):=by
  exists _,Heap.get?_push_size _ rfl,rfl;show Data.fields #[.ref b,rawInt ((f.toArray.size:Int) - 1)]=_;have e:(f.toArray.size:Int) - 1=(g.length:Int) - 1 - ((0:Nat):Int):=by simp;lia
  rw[e]
 refine wpAny_pyIter_revIter l ?_;have F:Inv X k j m { d with heap:=d.heap.push (revObj b ((f.toArray.size:Int) - 1)) }:=i.kept (t':=d.toks) λc o e=>Heap.get?_push_of_some _ e;refine(d.heap.objs.size,[d.heap.objs.size],_,Xb X.K b g,m,rfl,F,Lr b _ g,(aaP _,l),λc D=>?_,q);have e:c=d.heap.objs.size:=by simpa using D
 subst e;exact i.fpOk (aad _) (i.hok.fresh (aad _))
theorem GP{a:Addr}{xs:List V}{g:TG}{j:TS}{D:Ends}{σ:St}(b:Nat->St->Hp->Prop)(s:b 0 σ H)(q:∀i σ H,i<=xs.length->b i σ H->My K H a xs)
  (o:∀i x σ H,i<xs.length->xs[xs.length - 1 - i]?=some x->b i σ H->g x σ H λ c h=>j { D with nx:=b (i+1),ct:=b (i+1),bk:=D.nx } c h)(hd:∀σ H,b xs.length σ H->D.nx σ H):
  ∃W:Nat->Nat->St->Hp->Prop,(∃m,W 0 m σ H) /\ ∀i m σ H,W i m σ H ->
   ((Xb K a xs).stop i H/\D.nx σ H)\/((Xb K a xs).go i H /\ ∃N:St->Hp->Prop,(∀d H',N d H' -> ∃k,k<m/\W (i+1) k d H') /\ ∀x H',(Xb K a xs).Vv i H x H'->g x σ H' λ c h=>j { D with nx:=N,ct:=N,bk:=D.nx } c h):=by
 exists λi m σ H=>m=xs.length - i/\i<=xs.length/\b i σ H,(xs.length,by simp,aaP _,s);rintro i m σ H ⟨rfl,r,p⟩;by_cases f:i<xs.length
 ·refine .inr ((q i σ H r p,f),b (i+1),λ d H' l=>(xs.length - (i+1),by lia,rfl,f,l),λx H' y=>?_);obtain⟨rfl,n⟩:=y;exact o i x σ _ f n p
 ·have e:i=xs.length:=by lia
  subst e;exact .inl (aad _,hd σ H p)
theorem Bo{T d a:String}{v x:Builtin}{i:List (Str×Value)}{S:_root_.PySem.Spec}{Q Q1:Value->Shared->Prop}(f:TypeCalled T d a)
  (M:checkTypeCall T (u,i)=pure ())(p:checkBuiltinCall d (.type T::u,i)=pure ())(I:entryFor table d=some v)(J:entryFor table a=some x)
  (g:Meets (v (.type T::u,i)) S)(h:S A.in1 (wants Q1 E) s)
  (D:∀b k,Q1 b k->k.TypeIs b T/\argsOk a (b::u,i) /\ ∃m,Meets (x (b::u,i)) m/\m A.in1 (wants (λr t=>r=.none/\Q b t) E) k):
  wpAny (model prog w) A (call (.type T) u i) Q E s:=by
 obtain⟨c,O,z⟩:=f.mro;have q:=f.made;have y:=f.sub;refine wpAny_call (codeAny_of_tree ?_);show wpAny _ _ (callAny (.type T) _) _ _ _;refine wpAny_pure (Code.quiet_builtin _ (by decide +kernel),codeAny_builtin PySem.F.entry_type_call ?_);rw[Around.under_plain (weight_type_call_type T u i) (units_type_call_type T u i)];have R:=f.notType;have P:=f.canCreate
 repeat (any_goals (first|assumption|wp_step))
 refine codeAny_mono (codeAny_call_builtin f.plain I (wpAny_of_eq p (g prog w A.in1 _ s h))) λr k l=>?_;cases r with
 | error e=>exact l
 | ok H =>
  cases H with
  | ret b =>
   obtain⟨C,o,m,G,n⟩:=D _ _ l;have L:=f.init.lookup;have N:=f.init.bind b
   repeat (any_goals (first|assumption|wp_step))
   refine codeAny_mono (codeAny_call_builtin f.init.plain J (f.init.check _ _ _ _ _ _ _ _ C o (G prog w A.in1 _ k n))) λB t j=>?_;cases B with
   | error e=>exact j
   | ok K =>
    cases K with
    | ret r =>
     obtain⟨rfl,U⟩:=j
     repeat (any_goals (first|assumption|wp_step))
    | _=>exact j.elim
  | _=>exact l.elim
theorem BL{T b:String}{c:List (Str×Value)}(h:typeLookup (.type T) "__init__" = pure (some (.builtin "object.__init__")))
  (g:Bind.madeBy (.type T)=pure (some b))(f:(some b != some "object.__new__")=true):
  Meets (Builtin.«object.__init__» (r::u,c)) (λ_ R s=>s.TypeIs r T/\R (.ok (.ret .none)) s):=by
 refine Meets.of_wp λprog w A R s e=>?_;obtain⟨i,d⟩:=e;cases u with
 | nil =>
  cases c with
  | nil=>exact wpAny_pure (_,rfl,d)
  | cons p c =>
   repeat (any_goals (first|assumption|wp_step))
   exact(_,rfl,d)
 | cons a u =>
  repeat (any_goals (first|assumption|wp_step))
  exact(_,rfl,d)
theorem Fb(a v:Value):checkTypeCall "enumerate" ⟨[a],[(pq (Str.ofString "start") v)]⟩=pure ():=by kernel_rfl
theorem Ka(a v:Value):checkBuiltinCall "enumerate.__new__" ⟨[.type "enumerate",a],[(pq (Str.ofString "start") v)]⟩=pure ():=by kernel_rfl
theorem Gs(o a v:Value):argsOk "object.__init__" ⟨[o,a],[(pq (Str.ofString "start") v)]⟩:=by
 unfold argsOk
 rw[signature?_of (id := "object.__init__") (n:=['_','_','t','i','n','i','_','_']) (o:=['t','c','e','j','b','o']) (by kernel_rfl) PySem.F.owner_object]
 kernel_rfl
open AutoSeq1 (wpAny_loadPart')in
set_option maxHeartbeats 4000000 in
theorem BV(l:Addr)(items:Array Value)(n:Nat)(e:Option Addr)(k:Array (Option Value))(t:Tok):
  Meets (Builtin.«enumerate.__new__» ⟨[.type "enumerate",.ref l],[(pq (Str.ofString "start") (.int 1 t))]⟩) (λ_ R s=>s.heap.get? l=some { cls:=.type "list",dict:=e,data:=.seq items n,slots:=k } /\
   R (.ok (.ret (.ref (s.heap.push { cls:=.type "list_iterator",data:=.fields #[.ref l,.int 0 0] }).objs.size)))
    { s with heap:=(s.heap.push { cls:=.type "list_iterator",data:=.fields #[.ref l,.int 0 0] }).push { cls:=.type "enumerate",data:=.fields #[.none,.bool false,.ref s.heap.objs.size,rawInt 1,.none,.none] } }):=
 .of_wp λf w A R s h=>by
  obtain⟨o,g,d,j,m⟩:=s;obtain⟨a,h⟩:=h;have i:=sub_enumerate;have b:Heap.IsList (Shared.heap (o,g,d,j,m)) l items:=(_,a,rfl,n,rfl)
  wp_walk using wpAny_loadPart' a
  refine wpAny_stack_any λp=>wpAny_pure ?_;split
  ·rename_i c _ _ _ _ _
   cases (c == Value.type "enumerate")
   ·wp_walk using wpAny_loadPart' a,wpAny_pyIter_list b
    exact(_,rfl,h)
   ·wp_walk using wpAny_loadPart' a,wpAny_pyIter_list b
    exact(_,rfl,h)
  ·wp_walk using wpAny_loadPart' a,wpAny_pyIter_list b
   exact(_,rfl,h)
theorem Gk{l:Addr}{items:Array Value}{t:Tok}{Q:Value->Shared->Prop}(r:s.heap.IsList l items)
  (h:∀g,IsEnum g (s.heap.objs.size+1) s.heap.objs.size 1 .none->g.IsListIter s.heap.objs.size l 0->(∀b o,s.heap.get? b=some o->g.get? b=some o)->Q (.ref (s.heap.objs.size+1)) { s with heap:=g }):
  wpAny (model prog w) A (call (.type "enumerate") [.ref l] [(pq (Str.ofString "start") (.int 1 t))]) Q E s:=by
 obtain⟨⟨c,i,u,m⟩,p,f,n,hd⟩:=r
 replace f:c=.type "list":=f
 replace hd:u=.seq items n:=hd
 subst f hd
 have j:(s.heap.push { cls:=.type "list_iterator",data:=.fields #[.ref l,.int 0 0] }).objs.size=s.heap.objs.size+1:=Heap.size_push ..
 refine Bo (Q1:=λa d=>d.TypeIs a "enumerate" /\ Q a d) PySem.F.called_enumerate (Fb _ _) (Ka _ _) PySem.F.entry_enumerate_new PySem.F.entry_object_init (BV l items n i m t) (p,?_) λa d e =>
  (e.1,Gs _ _ _,_,BL PySem.F.called_enumerate.init.lookup PySem.F.called_enumerate.made (by decide),e.1,rfl,e.2)
 show _/\_;rw[j]
 have k:IsEnum ((s.heap.push { cls:=.type "list_iterator",data:=.fields #[.ref l,.int 0 0] }).push { cls:=.type "enumerate",data:=.fields #[.none,.bool false,.ref s.heap.objs.size,rawInt 1,.none,.none] }) (s.heap.objs.size+1) s.heap.objs.size 1 .none:=by
  have:=Heap.get?_push_size (s.heap.push { cls:=.type "list_iterator",data:=.fields #[.ref l,.int 0 0] }) (o:={ cls:=.type "enumerate",data:=.fields #[.none,.bool false,.ref s.heap.objs.size,rawInt 1,.none,.none] }) rfl
  rw[j]at this;exact this
 exact((_,k,rfl),h _ k (_,Heap.get?_push_of_some _ (Heap.get?_push_size _ rfl),rfl,rfl) λb o q=>Heap.get?_push_of_some _ (Heap.get?_push_of_some _ q))
theorem Nu{prog:Program}{w:World}{A:Around}(d:A.handled=none)(c l:Addr)(b:l≠c)(items:Array Value):
  Draws prog w A c [c,l] (items.size+1) (λi v=>∃j,i=j+1/\items[j]?=some v) (λi h=>∃j,i=j+1/\h.IsListIter c l j/\h.IsList l items) where
 live:=λ_ _ a=>by
  obtain⟨j,_,a⟩:=a;exact(Draws.list (prog:=prog) (w:=w) d c l b items).live j _ a
 frame:=λ_ _ _ a k=>by
  obtain⟨j,e,a⟩:=a;exact(j,e,(Draws.list (prog:=prog) (w:=w) d c l b items).frame j _ _ a k)
 item:=λi s Q E n a f=>by
  obtain⟨j,rfl,a⟩:=a;exact(Draws.list (prog:=prog) (w:=w) d c l b items).item j s Q E (by lia) a λx g t p q r=>f x g t (j,rfl,p) (j+1,rfl,q) r
 done:=λs Q E a m=>by
  obtain⟨j,e,a⟩:=a;have:j=items.size:=by lia
  subst this;exact(Draws.list (prog:=prog) (w:=w) d c l b items).done s Q E a m
def Xc(K:PySem.W.Frag)(a:Addr):It:=
  (λi H=>∃b x,My K H a b/\b[i]?=some x,λi H x c=>∃p y,H p=none/\x=.ref p/\c=upd H p (.tup [.int ((i+1:Nat):Int),y]) /\ ∀b,My K H a b->b[i]?=some y,
   λi H=>∃b,My K H a b/\b.length<=i)
theorem Ln{prog:Program}{w:World}{A:Around}{E:Value->Shared->Prop}{s:Shared}{e l:Addr}{i:Nat}{k:Int}{items:Array Value}{Q:Option Value->Shared->Prop}(p:A.handled=none)
  (f:IsEnum s.heap e a k r)(d:s.heap.IsListIter a l i)(n:s.heap.IsList l items)(j:items[i]?=none)(u:∀g,Heap.ExtBut a s.heap g->Q none { s with heap:=g }):wpAny (model prog w) A (pyNext (.ref e)) Q E s:=by
 have h:s.TypeIs (.ref e) "enumerate":=(_,f,rfl)
 unfold pyNext
 refine wpAny_bind (wpAny_attempt (wpAny_callSpecial?_slot (name:=Str.ofString "__next__") h PySem.F.slot_enumerate_next
  (wpAny_call_entry PySem.F.slot_enumerate_next h PySem.F.entry_enumerate_next ?_ (PySem.F.args_enumerate_next_1 _))))
 show wpAny _ _ (field (.ref e) 2 >>= _) _ _ _;refine wpAny_bind (wpAny_field f rfl (x:=.ref a) rfl ?_);refine wpAny_bind (wpAny_nextOf_list_end p d n j λg x q c=>?_);obtain⟨o,m,t⟩:=c
 refine wpAny_bind (wpAny_isInstance (T := "StopIteration") (b:=true) (o,m,t) isSubtype_stop ?_)
 exact wpAny_pure (u _ q)
theorem rM{a b:Addr}{o u:Obj}(d:h'.get? a=some o)(c:h'.get? b=some u)(e:o.cls≠u.cls):a≠b:=by
 rintro rfl;rw[d]at c;cases c;exact e rfl
theorem Fg{w:World}(a e g:Addr)(G:e≠g):
  Turn prog w K (.Tuple B n p) (Xc K a) [e,g] e (λi h=>(∃f,IsEnum h e g ((i+1:Nat):Int) f)/\h.IsListIter g a i) where
 mem:=by simp
 obj:=λi h d b r=>by
  obtain⟨⟨f,l⟩,o,ho,Q,hd⟩:=d;rcases aaQ.mp r with rfl|r
  ·exact(_,l,λv z=>by cases z)
  ·rw[aas.mp r];exact(o,ho,λv z=>by rw[hd]at z;cases z)
 keep:=λi h h' d k=>by
  obtain⟨⟨f,l⟩,d⟩:=d;exact((f,k e (by simp) _ l),d.at λo q=>k g (by simp) o q)
 item:=by
  intro X M V Z Q i π s σ H E I L d Y;subst M V Z;obtain⟨xs,x,O,U⟩:=Y;obtain⟨t,T,c,hz⟩:=I.list O;obtain⟨u,hu,ru⟩:=T.get U;obtain⟨⟨f,l⟩,d⟩:=d;obtain⟨oi,C,Xd,_⟩:=id d;obtain⟨ol,y,D,_⟩:=id c.isList;have N:a≠g:=rM y C (by rw[D,Xd];decide)
  have a1:e≠a:=rM l y (by rw[D];show Value.type "enumerate" ≠ Value.type "list";decide)
  have a4:i<t.length:=(aab.mp hu).1;refine wpAny_pyNext_enum_itemD (Nu (A:=X.A.in1) (I.ok.hd Q) g a N t.toArray) l (i,rfl,d,c.isList) (by simpa using a4) G (by simp[G,a1]) λJ h1 S M a6 m a3 b1 a5=>?_;obtain⟨j,hj,a2⟩:=M;have ej:j=i:=by lia
  subst ej;have eu:J=u:=by
   have:t[j]?=some J:=by simpa using a2
   rw[hu]at this;exact(aao this).symm
  subst eu;obtain⟨j',b2,m,_⟩:=m;have b0:j'=j+1:=by lia
  subst b0;refine(_,rfl,wpAny_letOwnedTupleGo_enum a6 λR a7 F=>?_);have ee:e<s.heap.objs.size:=Heap.lt_size l
  have g2:R.get? s.heap.objs.size=some { cls:=.type "tuple",data:=.seq #[.int ((j+1:Nat):Int) S,J] }:=(F.2 _ (ahL ee)).trans a3
  have kk:∀b o,b≠e->b≠g->s.heap.get? b=some o->R.get? b=some o:=λb o h3 h4 q=>(F.2 b h3).trans (a5 b o h3 h4 q);have a0:bH X.prog X.w (upd H s.heap.objs.size (.tup [.int ((j+1:Nat):Int),x])) R s.heap.objs.size (.tup [.int ((j+1:Nat):Int),x]):=
   ((by show 2<=sizeLine;decide),[.int ((j+1:Nat):Int) S,J],.cons (_,rfl) (.cons ru .nil),_,g2,rfl,_,rfl)
  have I2:=I.turn2 (h':=R) (t':=S+1) (L e (by simp)) (L g (by simp)) kk (aad _) a0;have hn:H s.heap.objs.size=none:=I.hok.fresh (aad _);refine(.ref s.heap.objs.size,_,I2,rfl,(_,x,hn,rfl,rfl,λys hy=>by rw[I.list_inj hy O];exact U),((J,by simpa using a7),m.extBut F.extBut (ags G)),λb r=>?_);have a9:=(L b r).1;have a8:b≠s.heap.objs.size:=by
   rcases aaQ.mp r with rfl|r
   ·exact aat ee
   ·rw[aas.mp r];exact aat (Heap.lt_size C)
  rw[aJ a8];exact a9
 done:=by
  intro X M V Z Q i π s σ H E I L d Y;subst M V Z;obtain⟨xs,O,U⟩:=Y;obtain⟨t,T,c,hz⟩:=I.list O;obtain⟨f0,f1,f2,f3,f4,f5⟩:=L g (by simp);obtain⟨⟨f,l⟩,d⟩:=d;have hl:=T.length;obtain⟨oi,C,Xd,_⟩:=id d;obtain⟨ol,y,D,_⟩:=id c.isList;have N:a≠g:=rM y C (by rw[D,Xd];decide);refine Ln (I.ok.hd Q) l d c.isList (by simp;lia) λh' eb=>(rfl,I.turned (t':=s.toks) (λb o r e=>eb b o r e) f0 f1 f3 f4 f5)
 self:=λ_ _ _ _ _ d h=>by
  obtain⟨⟨f,l⟩,_⟩:=d;exact wpAny_pyIter_enum l h
section
variable{M:Model}{env:Env}
theorem wB{pos:Pos}{T:String}{e:Expr}{b:List Keyword}{Q:Value->Shared->Prop}
  (h:wpAny M A (spliced (backTo pos (starEach (e::B) env))) (λj d=>wpAny M A (evalAll ((backToKw pos (keywordEach b env)).map (·.2)))
   (λi g=>wpAny M A (call (.type T) j (((backToKw pos (keywordEach b env)).filterMap (·.1)).zip i)) Q E g) E d) E s)
  (m:backTo pos (starEach (e::B) env)=(pq false (eval e env))::backTo pos (starEach B env):=by rfl)(l:(backTo pos (starEach (e::B) env)).any (·.1)=false:=by rfl)
  (c:(backToKw pos (keywordEach b env)).all (·.1.isSome)=true:=by rfl)(f:(backToKw pos (keywordEach b env)).any (·.1.isNone)=false:=by rfl):
  wpAny M A (callWith pos (.type T) [] (backTo pos (starEach (e::B) env)) (backToKw pos (keywordEach b env))) Q E s:=by
 unfold callWith;have n:wpAny M A (evalArgs (.type T) true (backTo pos (starEach (e::B) env)) (backToKw pos (keywordEach b env))) (λa d=>wpAny M A (call (.type T) ([]++a.pos) a.kw) Q E d) E s:=by
  rw[m]at h ⊢;exact PyProof.Rows.evalArgs_kwB c h
 refine wpAny_bind (wpAny_holding (Uh n λa d o=>wpAny_bind (wpAny_standAt ?_)));simp only[l,f,aik];refine wpAny_bind (wpAny_pure ?_);exact wpAny_bind (Uh o λr g k=>wpAny_bind (wpAny_holding (wpAny_point (wpAny_pure k))))
end
inductive KR(K:PySem.W.Frag)(R:It->Hp->Prop)(vs:List V)(d:V)(H2:Hp):Prop
 | mk (a xs:_) (_:d=.int 1) (_:vs=[.ref a]) (_:My K H2 a xs) (_:R (Xc K a) H2)
def Jy(K:PySem.W.Frag)(b:TE)(σ:St)(R:It->Hp->Prop):List V->Hp->Prop:=λa c=>b σ c (KR K R a)
def Qw(K:PySem.W.Frag)(c:TA)(b:TE):TI:=λ a H R=>c a H (Jy K b a R)
theorem Bv{a :Expr}{p pos :Pos}{k:Pos}(T:Gl X "enumerate")(Q:X.mg "enumerate" = none)(V:PA X [a] t)(hd:PE X e ta)
  (U:backTo pos (starEach [a] X.env)=(pq false (eval a X.env))::backTo pos (starEach [] X.env):=by rfl)(y:(backTo pos (starEach [a] X.env)).any (·.1)=false:=by rfl)
  (A:(backToKw pos (keywordEach [(some (Str.ofString "start"),e,apos)] X.env)).filterMap (·.1)=[Str.ofString "start"]:=by rfl)
  (l:(backToKw pos (keywordEach [(some (Str.ofString "start"),e,apos)] X.env)).all (·.1.isSome)=true:=by rfl)
  (z:(backToKw pos (keywordEach [(some (Str.ofString "start"),e,apos)] X.env)).any (·.1.isNone)=false:=by rfl):
  PI X (.Tuple B n k) (.Call (.Name "enumerate" p) [a] [(some (Str.ofString "start"),e,apos)] pos) (Qw X.K t ta):=by
 intro r s o H R I h;refine wpAny_Call_Name_kw (eO I T Q boot_enumerate ?_);refine wB (Uh (V pos r s o H _ I h) λus D ⟨vs,Z,Y,J,M⟩=>?_) U y l z;show wpAny _ _ (evalAll ((do let v <-eval e X.env;standAt pos;pure v)::[])) _ _ D;refine wpAny_evalAll_cons (wpAny_bind (Uh (hd r D o Z _ Y M) λdv f ⟨x,E,m,G,L⟩=>wpAny_bind (wpAny_standAt (wpAny_pure (wpAny_evalAll_nil ?_)))));obtain⟨b,xs,rfl,rfl,P,q⟩:=L;obtain⟨u,rfl,F⟩:=vals1 J;cases F;obtain⟨a0,rfl⟩:=G;rw[A];obtain⟨a1,rv,N,hz⟩:=m.list P;refine Gk N.isList λg j C S=>?_;refine wpAny_pyIter_enum j ?_;have W:Inv X r o E { f with heap:=g }:=m.kept (t':=f.toks) S;have O:f.heap.objs.size+1≠f.heap.objs.size:=by lia
 refine(f.heap.objs.size+1,[f.heap.objs.size+1,f.heap.objs.size],_,Xc X.K b,E,rfl,W,Fg b _ _ O,((_,j),C),λc w=>?_,q);have i:f.heap.objs.size<=c:=by
  rcases aaQ.mp w with rfl|w
  ·lia
  ·rw[aas.mp w];lia
 exact m.fpOk i (m.hok.fresh i)
theorem zc{a:Addr}{xs:List V}{g:TG}{k:TS}{D:Ends}{σ:St}(b:Nat->St->Hp->Prop)(v:b 0 σ H)(t:∀i σ H,i<=xs.length->b i σ H->My K H a xs)
  (r:∀i x σ H p,xs[i]?=some x->b i σ H->H p=none->g (.ref p) σ (upd H p (.tup [.int ((i+1:Nat):Int),x])) λ d j=>k { D with nx:=b (i+1),ct:=b (i+1),bk:=D.nx } d j)(hd:∀σ H,b xs.length σ H->D.nx σ H):
  ∃W:Nat->Nat->St->Hp->Prop,(∃m,W 0 m σ H) /\ ∀i m σ H,W i m σ H ->
   ((Xc K a).stop i H/\D.nx σ H)\/((Xc K a).go i H /\ ∃N:St->Hp->Prop,(∀f H',N f H' -> ∃l,l<m/\W (i+1) l f H') /\ ∀x H',(Xc K a).Vv i H x H'->g x σ H' λ d j=>k { D with nx:=N,ct:=N,bk:=D.nx } d j):=by
 exists λi m σ H=>m=xs.length - i/\i<=xs.length/\b i σ H,(xs.length,by simp,aaP _,v);rintro i m σ H ⟨rfl,u,p⟩;have q:=t i σ H u p;by_cases h:i<xs.length
 ·refine .inr ((xs,xs[i],q,by simp[h]),b (i+1),λ f H' n=>(xs.length - (i+1),by lia,rfl,h,n),λx H' y=>?_);obtain⟨c,y,s,z,w,o⟩:=y;subst z w;exact r i y σ H c (o xs q) p s
 ·have e:i=xs.length:=by lia
  subst e;exact .inl ((xs,q,aad _),hd σ H p)
mutual
inductive ud(K:PySem.W.Frag)(H:Hp):V->PyData->Prop where
 | non:ud K H .non .none
 | bl (b:Bool):ud K H (.bl b) (.bool b)
 | int (i:Int):ud K H (.int i) (.int i)
 | str (x:Str):ud K H (.str x) (.str x)
 | lst {a:Addr}{xs:List V}{ds:List PyData} (h:My K H a xs) (r:nF K H xs ds):ud K H (.ref a) (.list ds)
 | tup {a:Addr}{xs:List V}{ds:List PyData} (h:Uj K H a xs) (r:nF K H xs ds):ud K H (.ref a) (.tuple ds)
inductive nF(K:PySem.W.Frag)(H:Hp):List V->List PyData->Prop where
 | nil:nF K H [] []
 | cons {x:V}{xs:List V}{d:PyData}{ds:List PyData} (h:ud K H x d) (r:nF K H xs ds):nF K H (x::xs) (d::ds)
end
mutual
theorem ud.reads(I:Inv X π σ H s){x:V}{d:PyData}{u:Value}:ud X.K H x d->RelV x u -> ∃j,Reads s.heap u d j
 | .non,r=>(_,by cases (show u=Value.none from r);exact .none)
 | .bl b,r=>(_,by cases (show u=Value.bool b from r);exact .bool b)
 | .int i,r=>by
  obtain⟨t,rfl⟩:=r;exact(_,.int i t)
 | .str y,r=>by
  obtain⟨t,rfl⟩:=r;exact(_,.str y t)
 | .lst (a:=a) h q,r=>by
  cases (show u=Value.ref a from r);obtain⟨k,f,p,_⟩:=I.list h;obtain⟨j,g⟩:=nF.reads I q f;obtain⟨o,n,e,c,_,d⟩:=p;exact(_,.list e c d (by simpa using g))
 | .tup (a:=a) h q,r=>by
  cases (show u=Value.ref a from r);obtain⟨k,f,p,_⟩:=I.tuple h;obtain⟨j,g⟩:=nF.reads I q f;obtain⟨o,e,c,n,d⟩:=p;exact(_,.tuple e c d (by simpa using g))
theorem nF.reads(I:Inv X π σ H s){xs:List V}{ds:List PyData}{a:List Value}:nF X.K H xs ds->Vals xs a -> ∃b,ReadsAll s.heap a ds b
 | .nil,r=>by
  cases r;exact(_,.nil)
 | .cons h q,r=>by
  cases r with
  | cons f e =>
   obtain⟨b,d⟩:=ud.reads I h f;obtain⟨g,c⟩:=nF.reads I q e;exact(_,.cons d c)
end
inductive Uc(K:PySem.W.Frag)(x:V)(y:V)(H:Hp)(Q:VK):Prop
 | mk (a b:Addr) (ns ms:List Int) (_:x=.ref a) (_:y=.ref b) (_:My K H a (ns.map V.int)) (_:My K H b (ms.map V.int)) (_:Q (.bl (decide (ns=ms))) H)
inductive T6(K:PySem.W.Frag)(x:V)(y:V)(H:Hp)(Q:VK):Prop
 | mk (d1 d2:PyData) (_:ud K H x d1) (_:ud K H y d2) (_:SeqAt.shaped d1=true) (_:SeqAt.shaped d2=true) (_:Q (.bl (PyData.eqv d1 d2)) H)
theorem Rk(e:X.A.units+64<cLine):Uz X (compareOp .Eq) (λx y H Q=>Uc X.K x y H Q\/T6 X.K x y H Q):=by
 intro z s w H x y u v Q I d c h;rcases h with ⟨a,b,D,E,rfl,rfl,n,m,q⟩|⟨G,F,p,o,t,r,q⟩
 ·cases (show u=Value.ref a from d);cases (show v=Value.ref b from c);obtain⟨C,j,l,_⟩:=I.list n;obtain⟨B,i,k,_⟩:=I.list m;exact PySem.W.ke_eq_ints l.isList k.isList (intsAre_of j) (intsAre_of i) e (.bl _,H,I,rfl,q)
 ·obtain⟨L,g⟩:=p.reads I d;obtain⟨J,f⟩:=o.reads I c;exact eq_dataH g f t r e (.bl _,H,I,rfl,q)
end L2
namespace Tw
theorem J3{lo:Int}{n:Nat}{c:L2.St}{tt:TT}(f:Nat->Int)(l:n<sizeLine)
  (g:∀(a:Int) (H':Hp) (Q:Bool->Hp->Prop),Q true H'->tt (some (.int a)::c) H' Q)(k:∀(i:Nat) (H':Hp) (Q:VK),i<n->aQ H H'->Q (.int (f i)) H'->ta (some (.int (lo+i))::c) H' Q)
  (q:∀D,H D=none->z D (upd H D (.lst (((agd n).map f).map V.int)))):iR (V9 lo n) c tt ta z H:=by
 intro D h;exists λi m d j=>m=n - i/\i<=n/\d=((agd i).map f).map V.int/\j=upd H D (.lst d),(_,rfl,aaP _,rfl,rfl);rintro i m d j ⟨rfl,o,rfl,rfl⟩;by_cases b:i<n
 ·refine .inr (b,λv p y=>?_);obtain⟨rfl,rfl⟩:=y;refine g _ _ _ ?_;rw[if_pos rfl];refine k i _ _ b (az h _) (au,?_,n - (i+1),by lia,rfl,b,?_,?_)
  ·rw[aaa,aaa,agm];lia
  ·rw[agw,aal,aal];rfl
  ·rw[lw]
 ·have e:i=n:=by lia
  subst e;exact .inl (aad _,q D h)
theorem Rt{a:Addr}{o:HO}(h:H a=some o):upd H a o=H:=funext λb=>by
 by_cases e:b=a
 ·rw[e,au,h]
 ·rw[aJ e]
theorem Hl{c A:Prop}[Decidable c]{D:Ends}{σ:St}(R:St->Hp->Prop)(b:¬c->R σ H)(h:∀a H',R a H'->D.nx a H')(d:c->(∀a H',R a H'->D.nx a H')->A):if c then A else Np D σ H:=by
 by_cases q:c
 ·rw[if_pos q];exact d q h
 ·rw[if_neg q];exact h _ _ (b q)
theorem GR{t:TA}{i:Nat}{k:Int}{xs:List V}{σ:St}{Q:VK}(ht:∀c:List V->Hp->Prop,c xs H->t σ H c)(e:σ[i]?=some (some (.int k)))(f:k<=100000)(d:xs.length<=2)(g : -100000<=k)
  (q:∀p H',H p=none->aQ H H'->H' p=some (.lst (aaF k.toNat xs).flatten)->Q (.ref p) H'):Xw Sg (Sx t) (Qv i) σ H Q:=by
 refine ht _ (by rw[sizeLine_eq];lia,λp b=>(_,e,p,k,xs,rfl,rfl,au,by lia,by lia,?_,λr a=>q r _ ((az b _).free a) ((az b _).trans (az a _)) au));rw[sizeLine_eq];have:k.toNat<=100000:=by lia
 have:=aje d this;lia
end Tw
namespace L2
open PySem.Spec PyProof.Rows PySem.W
end L2
namespace Tw
theorem Aa{a U A:Prop}[Decidable a]{D:Ends}{σ:St}(N:D.nx σ H)(b:a->D.nx σ H->U):if a then U else (if false=true then A else Np D σ H):=by
 by_cases q:a
 ·rw[if_pos q];exact b q N
 ·rw[if_neg q];exact dI N
end Tw
namespace L2
open PySem.Spec PyProof.Rows
theorem bH.ex{w:World}{a:Addr}{o:HO}(x:bH prog w H h' a o):∃b,h'.get? a=some b:=by
 induction o with
 | lst l=>obtain⟨z,k,n,r,e⟩:=x;exact(_,e)
 | tup l=>obtain⟨z,k,r,b,e,c⟩:=x;exact(_,e)
 | dK j=>obtain⟨z,y,q,r,b,g,i,e,c⟩:=x;exact(_,e)
 | dT j=>obtain⟨z,y,l,r,b,g,i,e,c⟩:=x;exact(_,e)
 | set S n=>obtain⟨b,g,i,t,e,c⟩:=x;exact(_,e)
 | ins C I m=>obtain⟨d,z,B,e,_⟩:=x;exact(_,e)
 | own y=>exact x
 | xd m=>obtain⟨D,⟨A,g,i,e,c⟩,r⟩:=x;exact(_,e)
 | Yi E G=>obtain⟨t,u,v,e⟩:=x;exact(_,e)
 | Ve b u F=>exact(_,x.1)
 | Uq s=>exact(_,x)
 | met f y=>exact(_,x)
 | ext p=>exact x.2.1
structure Vw(B:Heap)(fs:List Addr)(H H':Hp)(h:Heap):Prop where
 old:∀b o,h.get? b=some o->b∉fs -> ∃o',B.get? b=some o'/\(H b=none->o'=o)
 Wq:∀b u,H' b=some u -> ∃o,B.get? b=some o
def Wk(P:Program)(w:World):Vl:=λa H s E e b=>∃(d C t:Addr) (B:Heap) (c:Hp),e=.ref d/\b.os=s.os/\AllBare b.gens/\Un (frs a) [] H c s.heap b.heap/\Uw P w c b.heap /\
  Heap.FlyingW B a d (.ref C) (.ref t) b.heap/\Vw B (frs a) H c s.heap/\E (.ref C) none c
section
variable{P:Program}{cd:Value}{s0:Shared}{H0:Hp}{E:XK}
abbrev X1(P:Program)(w:World)(K:PySem.W.Frag)(mg:Str->Option Value)(base:Heap)(N:List Str)(qual:Str)(scope:Scope)(f:Addr)(cd:Value)(A:Around)(outer:List Env)(s0:Shared)(H0:Hp)(E:XK):Cx:=
 iw (Wk P w) P w K mg base N qual scope f cd A outer s0 H0 E
theorem young{b:Addr}{o:Obj}(q:s0.heap.get? b=some o)(c:b∉frs outer):b∉frs (envOfC qual scope s0.heap.objs.size f cd::outer):=λz=>by
 have a:b∈s0.heap.objs.size::frs outer:=z;rcases aaQ.mp a with e|e
 ·exact absurd (Heap.lt_size q) (by rw[e];exact agf _)
 ·exact c e
theorem raised{σ:St}{s:Shared}{C:Addr}(I:Inv (X1 P w K mg base N qual scope f cd A outer s0 H0 E) π σ H s)(m:Heap.MadeExcOf s.heap h' a (.ref C) u)(q:E (.ref C) none H):
  (X1 P w K mg base N qual scope f cd A outer s0 H0 E).xe (.ref a) { s with heap:=h' }:=by
 have M:s.heap.FunFrames base (envOfC qual scope s0.heap.objs.size f cd::outer):=I.stack;have G:∀l∈(envOfC qual scope s0.heap.objs.size f cd::outer),∀b,l.frame=some b->b∈frs (envOfC qual scope s0.heap.objs.size f cd::outer):=λl R b g=>ah9.mpr (l,R,g);have U:Un (frs outer) [] H0 H s0.heap s.heap:=I.base;have j:∀b d,H b=some d->b∉frs (envOfC qual scope s0.heap.objs.size f cd::outer):=λb d e z=>by
  have:=I.stkFree b z;rw[this]at e;cases e
 have i:∀b o,s.heap.get? b=some o->b∉frs (envOfC qual scope s0.heap.objs.size f cd::outer)->(PySem.W.hideAll s.heap (frs (envOfC qual scope s0.heap.objs.size f cd::outer))).get? b=some o:=λb o e n=>PySem.W.hideAll_get _ e n;show wpAny _ _ (leaving _ _) _ _ _;refine wpAny_leaves_madeW (base:=PySem.W.hideAll s.heap (frs (envOfC qual scope s0.heap.objs.size f cd::outer))) I.ok.frames rfl (λb o e=>PySem.W.of_hideAll _ e) (PySem.W.funFrames_hide M G) m λS t J V T O=>?_;have k:=J.1;have L:∀b o,s.heap.get? b=some o->b∈frs outer -> ∃y,S.get? b=some { o with slots:=y }:=λb o e g=>by
  obtain⟨_,X,x,Q⟩:=M.mem (b:=b) (aaR _ g);rw[e]at x;cases x;exact O b o (m.keeps _ _ e) Q
 refine(a,C,t,_,H,rfl,I.os,I.bare,(λb o e n g v=>?_,λb o e n g v=>?_,U.free,λb o e v=>?_,U.tups,U.frzs,U.tbls),λb d e=>?_,J,(λb o e g=>?_,λb d e=>?_),q)
 ·exact k b o (i b o (U.keep b o e n g v) (young e g))
 ·obtain⟨y,h⟩:=U.slot b o e n g v;obtain⟨F,D⟩:=L b _ h g;exact(F,D)
 ·obtain⟨p,h⟩:=U.there b o e v;by_cases g:b∈frs outer
  ·obtain⟨y,D⟩:=L b _ h g;exact(_,D)
  ·exact(p,k b p (i b p h (young e g)))
 ·refine(I.hok b d e).stay (λc o B h=>k c o (i c o h ?_)) (λ_ r=>r) λ_ _ r=>r;rcases B with rfl|B
  ·exact j _ _ e
  ·exact j _ _ B
 ·obtain⟨p,h⟩:=U.there b o e (by simp);refine(p,i b p h (young e g),λn=>?_);have:=U.keep b o e n g (by simp);rw[h]at this;exact aao this
 ·obtain⟨o,h⟩:=(I.hok b d e).ex;exact(o,i b o h (j b d e))
theorem HF:sS (Wk P w) (X1 P w K mg base N qual scope f cd A outer s0 H0 E) E:=by
 intro π σ H s e S I h;obtain⟨ea,C,t,B,H',rfl,V,x,m,L,F,j,q⟩:=h;have U:Un (frs outer) [] H0 H s0.heap s.heap:=I.base;show wpAny _ _ (leaving _ _) _ _ _;refine wpAny_leaves_onW (base:=B) I.ok.frames rfl F λZ O R=>?_;have k:=O.1;have Q:∀b o,S.heap.get? b=some o->b∈frs outer -> ∃y,Z.get? b=some { o with slots:=y }:=λb o e d=>by
  obtain⟨_,p,v,W⟩:=F.2.2.1.mem (b:=b) (aaR _ d);rw[e]at v;cases v;exact R b o e W
 refine(ea,C,t,B,H',rfl,V.trans I.os,x,(λb o e n d g=>?_,λb o e n d g=>?_,λb o e n g=>?_,λb o e g=>?_,λb M e=>m.tups b M (U.tups b M e),λb o u e=>m.frzs b o u (U.frzs b o u e),λb T e=>?_),λb u e=>?_,O,(λb o e d=>?_,j.Wq),q)
 ·obtain⟨p,a,z⟩:=j.old b o (U.keep b o e n d g) (young e d);rw[z (U.free b o e n g)]at a;exact k b o a
 ·obtain⟨y,i⟩:=U.slot b o e n d g;obtain⟨a0,a⟩:=m.slot b _ i (U.free b o e n g) (aaR _ d) g;obtain⟨J,G⟩:=Q b _ a d;exact(J,G)
 ·obtain⟨l,i⟩:=U.there b o e g;exact m.free b l i (U.free b o e n g) g
 ·obtain⟨l,i⟩:=U.there b o e g;by_cases d:b∈frs outer
  ·obtain⟨o2,a⟩:=m.there b l i g;obtain⟨y,G⟩:=Q b _ a d;exact(_,G)
  ·obtain⟨p,a,_⟩:=j.old b l i (young e d);exact(p,k b p a)
 ·obtain⟨Y,i⟩:=U.tbls b T e;obtain⟨X,a⟩:=m.tbls b _ i;exact(Y++X,by rw[a,aiI])
 ·refine(L b u e).stay (λc o D i=>?_) (λ_ r=>r) λ_ _ r=>r;have ht:∃o,B.get? c=some o:=by
   rcases D with rfl|D
   ·exact j.Wq _ _ e
   ·exact j.Wq _ _ D
  obtain⟨l,a⟩:=ht;have:=F.1 c l a;rw[i]at this;cases this;exact k c o a
 ·obtain⟨l,i⟩:=U.there b o e (by simp);obtain⟨p,a,z⟩:=j.old b l i (young e d);refine(p,a,λn=>?_);have:=U.keep b o e n d (by simp);rw[i]at this;rw[z (U.free b o e n (by simp))];exact aao this
end
section
variable{P:Program}
theorem Va.ok1{x :Str}{st:Stmt}{f:Addr}{fd:FuncData}{N ps:List Str}{k:Nat}(F:Va K x qual st f fd)(S:aB N ps (δ st))(e:∀c H Q E,sp c H Q E->c.length=ps.length)
  (d:∀(b:Value) (A:Around) (a:List Env) (s:Shared) (H:Hp) (c:List V) (Q:VK) (E:XK),eY k (A.deeper (envOfC qual (δ st) s.heap.objs.size f b))->sp c H Q E ->
   ∃t,Vf (X1 P w K mg base N qual (δ st) f b A a s H E) (μ st) t/\t { nx:=λ_ H'=>Q .non H',rt:=Q } (start N c) H):aV P w K mg base (Wk P w) (k+1) f fd ps sp:=by
 obtain⟨p,o,kV,m,n,r,b,q,l,rfl,i,h⟩:=F.ex;exact Qh i h S e λA a s H c Q E j g=>d b A a s H c Q E j g
end
abbrev Yr:List Value:=[.type "ValueError",.type "Exception",.type "BaseException",.type "object"]
structure Exc(K:PySem.W.Frag)(mg:Str->Option Value)(x:Str)(C:Addr):Prop where
 m:mg x=some (.ref C)
 q:PySem.W.excIn K C Yr "ValueError.__new__" = true
theorem Oq{C:Addr}(X:K.In h')(q:PySem.W.excIn K C Yr "ValueError.__new__" = true):
  ∃bm N nm d bs hdct sn sub ab col dd k0 k1 k2 k3 k5 mN,h'.get? C=some (excClassObj nm d C N bs bm hdct sn sub ab col dd k0 k1 k2 k3 k5 "ValueError.__new__")/\h'.Ns N mN/\mN "__init__" = none/\OwnTail h' Yr bm:=by
 unfold PySem.W.excIn at q;split at q
 ·rename_i dd m f k;split at q
  ·rename_i r bm k0 k1 k2 k3 n k5 i g;simp only[ahs,beq_iff_eq,ahI]at q;obtain⟨⟨⟨⟨⟨rfl,rfl⟩,a⟩,ht⟩,b⟩,c⟩:=q;obtain⟨nm,bs,o,j,d,hd,sn,sub,ab,col,p⟩:=m;dsimp only at i a b c;subst i a
   have e:f=#[k0,k1,k2,k3,some (.builtin "ValueError.__new__"),k5]:=by
    obtain⟨l⟩:=f;simp only at g;rw[g]
   subst e;exact(bm,j,nm,d,bs,hd,sn,sub,ab,col,dd,k0,k1,k2,k3,k5,_,X _ _ k,.of_isNs (PySem.W.isNs_of_in X b),PySem.W.nsMap_none_of_in X b c,PySem.W.tail_of_in X ht)
  ·cases q
 ·cases q
section
variable{P:Program}{cd:Value}{s0:Shared}{H0:Hp}{E:XK}
def Jt(C:Addr)(E:XK):List V->Hp->Prop:=λa b=>a.length<=sizeLine/\E (.ref C) none b
def QR(C:Addr)(E:XK)(b:TA):TS:=λ_ a H=>b a H (Jt C E)
theorem K7{x:Str}{C:Addr}{a:Expr}{pos:Pos}(e:Exc K mg x C)(R:Gl (X1 P w K mg base N qual scope f cd A outer s0 H0 E) x)(S:PA (X1 P w K mg base N qual scope f cd A outer s0 H0 E) [a] t)
  (i:(x == ("__debug__" : Str))=false:=by decide)
  (k:starEach [a] (X1 P w K mg base N qual scope f cd A outer s0 H0 E).env=[(pq false (eval a (X1 P w K mg base N qual scope f cd A outer s0 H0 E).env))]:=by rfl):
  PS (X1 P w K mg base N qual scope f cd A outer s0 H0 E) (.Raise (some (.Call (.Name x p) [a] [] apos)) none pos) (QR C E t):=by
 intro o s n H D I h;obtain⟨Y,N',B,v,X,b,r,d,Z,j,W,Q,O,M,L,J,G,V,U,g,T⟩:=Oq I.mod.Xp e.q;refine wpAny_Raise_call_subU (C:=C) (nm:=B) (q:=v) (N:=N') (bs:=X) (bm:=Y) (hdct:=b) (sn:=r) (sub:=d) (ab:=Z) (col:=j) (dd:=W) (k0:=Q) (k1:=O) (k2:=M) (k3:=L) (k5:=J)
  PySem.F.excBase_ValueError PySem.F.excBase_ValueError.hasB PySem.F.excBase_ValueError (mN:=G) (T.hasType PySem.F.excBase_ValueError.hasBase) (I.ok.hd rfl) (by rw[k];rfl) g (Ao I R e.m (rfl,?_) i)
 have l:=S apos o s n H _ I h;rw[k]at l ⊢;refine Calls.evalArgs_plain (Uh l λus s2 ⟨vs,H2,c,u,z,y⟩=>(rfl,?_,c.bk _ _ V,U.keeps c.bk,T.keeps c.bk,λh' ea m=>raised c m y));rw[<-u.length];exact z
end
structure TV(K:PySem.W.Frag)(C:Addr):Prop where
 dct:PySem.W.hasDictIn K C=true
 ga:PySem.W.findIn K (.ref C) "__getattribute__" = some (some (.builtin "BaseException.__getattribute__"))
 nga:PySem.W.findIn K (.ref C) "__getattr__" = some none
 cl:PySem.W.findIn K (.ref C) "__class__" = some (some (.builtin "object.__class__"))
 gt:PySem.W.specialIn K (.builtin "object.__class__") "__get__" = some (some (.builtin "getset_descriptor.__get__"))
 tk:PySem.W.takesIn K (.builtin "object.__class__")=some true
 mo:PySem.W.mroIn K C (.type "object")=some true
 mb:PySem.W.mroIn K C (.type "BaseException")=some true
section
variable{ea:Addr}
end
section
variable{x:Addr}
end
open PySem.W Builtin Builtin.ObjectAttr Builtin.Getset_descriptor
section
variable{x:Addr}
variable{R:Result->Shared->Prop}
end
theorem Mi{w:World}{X:Cx}:sS (Wk prog w) X (λ_ _ _=>False):=λ_ _ _ _ _ _ _ h=>by
 obtain⟨_,_,_,_,_,_,_,_,_,_,_,_,z⟩:=h;exact z.elim
section
variable{pins':List (Addr×Obj)}{E:XK}
end
inductive Ja(r':R2)(r'':R2)(tc:TE)(td:TE)(σ:St)(Q:VK)(y:V)(z:V)(H3:Hp):Prop
 | mk (k:_) (_:z=.bl k) (_:(if k=true then tc σ H3 λw' H4=>r' y w' H4 λz2 H5=>∃k2,z2=.bl k2/\(if k2=true then td σ H5 λw2 H6=>r'' w' w2 H6 Q else Q (.bl false) H5)else Q (.bl false) H3))
def Gz(r:R2)(d:R2)(a:R2)(c:TE)(b:TE)(σ:St)(Q:VK)(x:V):VK:=λy e=>r x y e (Ja d a c b σ Q y)
def Ej(r:R2)(e:R2)(a:R2)(d:TE)(c:TE)(b:TE)(σ:St)(Q:VK):VK:=λx f=>d σ f (Gz r e a c b σ Q x)
def O5(r g a:R2)(f e d c:TE):TE:=λ b H Q=>f b H (Ej r g a e d c b Q)
theorem JP{X:Cx}{a b c :Expr}{B:TE}{pos:Pos}{p l g:CmpOp}{r E m:R2}(ho:Uz X (compareOp p) r)(t:Uz X (compareOp l) E)(n:Uz X (compareOp g) m)(ha:PE X a ta)(hb:PE X b tb)(hc:PE X c te)(hd:PE X e B)
  (hm:lastMarks [p,l,g] [b,c,e]=false:=by with_unfolding_all rfl):PT X (.Compare a [p,l,g] [b,c,e] pos) (Ky (O5 r E m ta tb te B)):=by
 intro j s i H Q I h;refine isTrue_chain (Uh (ha j s i H _ I h) λv V ⟨x,H1,I1,r1,q1⟩=>test_link (Uh (hb j V i H1 _ I1 q1) λu U ⟨y,H2,I2,D,q2⟩ =>
  Uh (ho j U i H2 x y v u _ I2 r1 D q2) λe T ⟨z,M,K,r3,k,f,G⟩=>?_)) hm
 subst f;cases r3;refine wpAny_truthy_bool ?_;cases k with
 | false =>
  obtain⟨k',q,o⟩:=G;cases q;exact ite_ff (M,K,o)
 | true =>
  refine ite_tt (test_link (Uh (hc j T i M _ K G) λA S ⟨w,H4,I4,C,q4⟩=>Uh (t j S i H4 y w u A _ I4 D C q4) λd' R ⟨z2,L,J,Z,k2,e2,F⟩=>?_));subst e2;cases Z;refine wpAny_truthy_bool ?_;cases k2 with
  | false =>
   obtain⟨k',q,o⟩:=F;cases q;exact ite_ff (L,J,o)
  | true =>
   refine ite_tt (test_last (Uh (hd j R i L _ J F) λO P ⟨N,H6,I6,Y,q6⟩=>Uh (n j P i H6 w N A O _ I6 C Y q6) λd2 s7 ⟨z4,H7,I7,W,k3,e3,q7⟩=>?_));subst e3;cases W;exact wpAny_truthy_bool (H7,I7,q7)
def aO(a:Addr)(o:Obj):HO:=.ext λh=>h.get? a=some o
theorem fG{w:World}{a:Addr}{o:Obj}(e:h'.get? a=some o):bH prog w H h' a (aO a o):=(e,(o,e),λ_ _ p k=>k o p)
theorem cT{w:World}{a:Addr}{o:Obj}(b:Uw prog w H h')(e:H a=some (aO a o)):h'.get? a=some o:=(b a _ e).1
def hide(H:Hp)(cs:List Addr):Hp:=λb=>if b∈cs then none else H b
def over(H:Hp)(cs:List Addr)(H':Hp):Hp:=λb=>if b∈cs then H b else H' b
theorem nU{cs:List Addr}{b:Addr}(h:b∈cs):hide H cs b=none:=if_pos h
theorem bx{cs:List Addr}{b:Addr}(h:b∉cs):hide H cs b=H b:=if_neg h
theorem uO{H':Hp}{cs:List Addr}{b:Addr}(h:b∈cs):over H cs H' b=H b:=if_pos h
theorem dX{H':Hp}{cs:List Addr}{b:Addr}(h:b∉cs):over H cs H' b=H' b:=if_neg h
theorem nW(H:Hp)(cs:List Addr):over H cs (hide H cs)=H:=by
 funext b;by_cases h:b∈cs
 ·rw[uO h]
 ·rw[dX h,bx h]
theorem vM{H':Hp}{cs:List Addr}{a:Addr}{o:HO}(h:a∉cs):over H cs (upd H' a o)=upd (over H cs H') a o:=by
 funext b;by_cases c:b∈cs
 ·have:b≠a:=λe=>h (e ▸ c);rw[uO c,aJ this,uO c]
 ·rw[dX c];by_cases e:b=a
  ·subst e;rw[au,au]
  ·rw[aJ e,aJ e,dX c]
section
variable{P:Program}{cs:List Addr}
theorem Hu(f:Uw P w H h)(g:∀a∈cs,∃o,H a=some (aO a o)):Uw P w (hide H cs) h:=λb u e=>by
 have i:b∉cs:=λz=>by rw[nU z]at e;cases e
 rw[bx i]at e;refine(f b u e).stay (λ_ _ _ q=>q) (λc q=>?_) λc j q=>?_
 ·rw[bx]
  ·exact q
  ·intro z;obtain⟨o,d⟩:=g c z;rw[q]at d;cases d
 ·rw[bx]
  ·exact q
  ·intro z;obtain⟨o,d⟩:=g c z;rw[q]at d;cases d
theorem Hd(s:Uw P w H h)(m:Uw P w H' h')(p:∀a∈cs,∃o,H a=some (aO a o))(y:∀b∈g,H b=none)(u:Un g [] (hide H cs) H' h h'):
  Uw P w (over H cs H') h'/\Un g [] H (over H cs H') h h':=by
 have l:∀a∈cs,∃o,H a=some (aO a o)/\h.get? a=some o:=λa r=>by
  obtain⟨o,e⟩:=p a r;exact(o,e,cT s e)
 have k:∀a∈cs,H' a=none:=λa r=>by
  obtain⟨o,_,e⟩:=l a r;exact u.free a o e (nU r) (by simp)
 have j:∀b,H b=none->b∉cs:=λb n z=>by
  obtain⟨o,e,_⟩:=l b z;rw[n]at e;cases e
 refine(λb v e=>?_,λb o e n d f=>?_,λb o e n d f=>?_,λb o e n f=>?_,λb o e f=>u.there b o e f,λb t e=>?_,λb o v e=>?_,λb x e=>?_)
 ·by_cases d:b∈cs
  ·obtain⟨o,i,A⟩:=l b d;rw[uO d,i]at e;cases e;exact fG (u.keep b o A (nU d) (λz=>by rw[y b z]at i;cases i) (by simp))
  ·rw[dX d]at e;refine(m b v e).stay (λ_ _ _ q=>q) (λc q=>?_) λc t q=>?_
   ·rw[dX]
    ·exact q
    ·intro z;rw[k c z]at q;cases q
   ·rw[dX]
    ·exact q
    ·intro z;rw[k c z]at q;cases q
 ·exact u.keep b o e (by rw[bx (j b n)];exact n) d f
 ·exact u.slot b o e (by rw[bx (j b n)];exact n) d f
 ·rw[dX (j b n)];exact u.free b o e (by rw[bx (j b n)];exact n) f
 ·have d:b∉cs:=λz=>by
   obtain⟨o,i⟩:=p b z;rw[e]at i;cases i
  rw[dX d];exact u.tups b t (by rw[bx d];exact e)
 ·have d:b∉cs:=λz=>by
   obtain⟨o,i⟩:=p b z;rw[e]at i;cases i
  rw[dX d];exact u.frzs b o v (by rw[bx d];exact e)
 ·have d:b∉cs:=λz=>by
   obtain⟨o,i⟩:=p b z;rw[e]at i;cases i
  rw[dX d];exact u.tbls b x (by rw[bx d];exact e)
end
structure vI where
 name:Str
 qual:Str
 params:Arguments
 body:List Stmt
 scope:Scope
 ps:List Str
 xs:List Str
structure iY(H:Hp)(f:Addr)(c:vI)(cs:List Addr)(Um:List V):Prop where
 ex:∃(cd:Addr) (doc pm ctv:Value) (oc:Obj) (vs:Array Value) (t:Tok),H f=some (aO f (fnMade c.name c.qual c.params c.body c.scope (c.xs.zip cs) doc pm cd ctv))/\H cd=some (aO cd oc)/\oc.data=.fields vs/\vs[1]?=some (.str c.qual t)
 cells:∀(i:Nat) (a:Addr),cs[i]?=some a -> ∃(co:Obj) (v:V) (u:Value),Um[i]?=some v/\H a=some (aO a co)/\co.data=.cell (some u)/\RelV v u
 nd:cs.Nodup
 len:cs.length=c.xs.length
 lenV:Um.length=c.xs.length
theorem iY.same{H':Hp}{f:Addr}{c:vI}{cs:List Addr}{Um:List V}(h:iY H f c cs Um)(s:∀b o,H b=some (aO b o)->H' b=some (aO b o)):iY H' f c cs Um:=by
 obtain⟨⟨C,g,l,j,m,k,t,x,w,r,q⟩,p,n,d,lenV⟩:=h;refine((C,g,l,j,m,k,t,s _ _ x,s _ _ w,r,q),λi a e=>?_,n,d,lenV);obtain⟨B,v,u,A,z,y⟩:=p i a e;exact(B,v,u,A,s _ _ z,y)
structure vL(N:List Str)(c:vI):Prop where
 kind:c.scope.kind=.function
 co:c.scope.isCoroutine=false
 gen:c.scope.isGenerator=false
 ρ:∀x∈c.scope.names,x.2 ≠ .cell
 pre:N.take (c.ps.length+c.xs.length)=c.ps++c.xs
 nd:N.Nodup
 Wg:∀n∈c.ps,c.scope.names.lookup n=some .local
 fr:∀x∈c.scope.names,x.2=.free->x.1∈c.xs
 Zq:∀n∈c.xs,c.scope.names.lookup n≠some .local
def tu(P:Program)(w:World)(K:PySem.W.Frag)(mg:Str->Option Value)(base:Heap)(N:List Str)(b:Str)(a:Scope)(f:Addr)(e:Value)(d:List (Str×Addr))(A:Around)(c:List Env)(s:Shared)(H:Hp):Cx where
 prog:=P
 w:=w
 K:=K
 mg:=mg
 base:=base
 A:=A.deeper (envX b a s.heap.objs.size f e d)
 N:=N
 s₀:=s
 H₀:=H
 env:=envX b a s.heap.objs.size f e d
 outer:=c
 stack:=envX b a s.heap.objs.size f e d::c
 ex:=[]
 calm:=true
 fn:=λ_=>false
 pn:=[]
 xe:=λ_ _=>False
theorem cP:∀{xs:List Str}{cs:List Addr}{x:Str}{c:Addr},(xs.zip cs).lookup x=some c -> ∃i:Nat,xs[i]?=some x/\cs[i]?=some c
 | [],_,_,_,h=>by simp at h
 | _::_,[],_,_,h=>by simp at h
 | y::xs,d::cs,x,c,h=>by
  rw[ahc,ahO]at h;cases a:x == y with
  | true =>
   rw[a]at h;cases h;exact(0,by rw[eq_of_beq a];rfl,rfl)
  | false =>
   rw[a]at h;obtain⟨i,e,b⟩:=cP h;exact(i+1,e,b)
theorem zU:∀{xs:List Str}{cs:List Addr}{x:Str},cs.length=xs.length->x∈xs -> ∃c,(xs.zip cs).lookup x=some c
 | [],_,_,_,h=>by simp at h
 | _::_,[],_,l,_=>by simp at l
 | y::xs,d::cs,x,l,h=>by
  rw[ahc,ahO];cases a:x == y with
  | true=>exact(d,rfl)
  | false =>
   rcases aaQ.mp h with e|e
   ·rw[e]at a;simp at a
   ·exact zU (by simpa using l) e
theorem GJ:∀{xs:List Str}{cs:List Addr}{i:Nat}{x:Str}{c:Addr},xs.Nodup->xs[i]?=some x->cs[i]?=some c->(xs.zip cs).lookup x=some c
 | [],_,_,_,_,_,h,_=>by simp at h
 | _::_,[],_,_,_,_,_,h=>by simp at h
 | y::xs,d::cs,0,x,c,_,e,b=>by
  simp at e b;subst e b;simp
 | y::xs,d::cs,i+1,x,c,g,e,b=>by
  have a:xs[i]?=some x:=by simpa using e
  have f:(x == y)=false:=by
   cases j:x == y with
   | false=>rfl
   | true =>
    rw[eq_of_beq j]at a;exact absurd (aag a) (agH.mp g).1
  rw[ahc,ahO,f];exact GJ (agH.mp g).2 a (by simpa using b)
theorem lookup_mem:∀{l:List (Str×Value)} {y:Str}{u:Value},(l.map (·.1)).Nodup->(pq y u)∈l->l.lookup y=some u
 | [],_,_,_,h=>by simp at h
 | (z,v)::l,y,u,a,h=>by
  rw[aay]at a;rw[ahO];rcases aaQ.mp h with e|e
  ·cases e;simp
  ·cases b:y == z with
   | true =>
    rw[eq_of_beq b]at e;exact absurd (aaT.mpr (_,e,rfl)) (agH.mp a).1
   | false=>exact lookup_mem (agH.mp a).2 e
theorem tL:∀(ps:List Str) (a:List Value),((ps.zip a).map (·.1)).Sublist ps
 | [],_=>by simp
 | _::_,[]=>by simp
 | p::ps,u::a=>by
  rw[ahc,aay];exact(tL ps a).cons₂ _
theorem Hq{ps:List Str}{a:List Value}{i:Nat}{y:Str}{u:Value}(b:ps.Nodup)(d:ps[i]?=some y)(c:a[i]?=some u):(ps.zip a).reverse.lookup y=some u:=by
 refine lookup_mem ?_ ?_
 ·rw[ai2];refine ahi.mpr (aiO (λh=>ags h) (show ((ps.zip a).map (·.1)).Nodup from b.sublist (tL ps a)))
 ·rw[aht];exact aag (i:=i) (by rw[List.getElem?_zip_eq_some];exact(d,c))
section
variable{P:Program}{c:vI}{cs:List Addr}{Um vs:List V}{us:List Value}{k:Nat}{Q:VK}{E:XK}
theorem Pr(S:vL N c)(hr:eY (k+1) A)(d:Gm P w K mg base A outer s H)(ca:iY H f c cs Um)(hb:∀(cl:List (Str×Addr)) (F pm l G:Value),BindsTo s (fnX c.name c.qual c.params c.body c.scope cl .none .none F pm none l G) (us,[]) (c.ps.zip us))(r:Vals vs us)(hl:vs.length=c.ps.length)
  (Z:∀l:Addr,eY k (A.deeper (envX c.qual c.scope s.heap.objs.size f (.ref l) (c.xs.zip cs))) -> ∃t,Vf (tu P w K mg base N c.qual c.scope f (.ref l) (c.xs.zip cs) A outer s (hide H cs)) c.body t/\t { nx:=λ_ H'=>Q .non (over H cs H'),rt:=λv H'=>Q v (over H cs H') } (start N (vs++Um)) (hide H cs)):
  codeAny (model P w) A (.call (.ref f) (us,[])) (CR Ui outer P w H s Q E) s:=by
 obtain⟨⟨l,F,pm,G,oc,ws,tk,h1,h2,h3,h4⟩,hc,nd,a1,lenV⟩:=ca;have hx:∀a∈cs,∃o,H a=some (aO a o):=λa R=>by
  obtain⟨i,D⟩:=aaM R;obtain⟨X,v,u,_,e,_⟩:=hc i a D;exact(X,e)
 have a0:s.heap.NoLimit:=d.mod.nolimit.keeps λb o e=>(d.bs b o e).1;have Xa:c.ps.Nodup:=by
  have:c.ps.Sublist N:=by
   have h:(c.ps++c.xs).Sublist N:=by rw[<-S.pre];exact agQ _ _
   exact(aih _ _).trans h
  exact S.nd.sublist this
 have Zr:c.xs.Nodup:=by
  have:c.xs.Sublist N:=by
   have h:(c.ps++c.xs).Sublist N:=by rw[<-S.pre];exact agQ _ _
   exact(aif _ _).trans h
  exact S.nd.sublist this
 have a5:c.ps.length+c.xs.length<=N.length:=by
  have:=congrArg agD S.pre;rw[aaD,aaf]at this;lia
 refine codeAny_call_def (fd:=fnX c.name c.qual c.params c.body c.scope (c.xs.zip cs) .none .none F pm none (.ref l) G) (binds:=c.ps.zip us) hr.depth (cT d.hok h1) rfl a0 (l,oc,ws,tk,rfl,cT d.hok h2,h3,h4) rfl (hb _ _ _ _ _) S.ρ (λy m=>S.Wg _ (ahe m).1) (λh0 a2 hk=>?_) S.co S.gen S.kind;obtain⟨t,ht,hq⟩:=Z l (hr.deeper _);have C:=Hu d.hok hx;have I:Inv (tu P w K mg base N c.qual c.scope f (.ref l) (c.xs.zip cs) A outer s (hide H cs)) [] (start N (vs++Um)) (hide H cs) { s with heap:=h0,toks:=s.toks+(c.ps.zip us).length }:=by
  refine((d.mod,S.kind,rfl,rfl,aad _,λy z b h g=>?_,λy m=>?_,λy b h _=>absurd h aap,λ_=>hr.hd,Around.frames_deeper d.frames,.inr (rfl,rfl),λb z=>absurd (show b∈([]:List Addr)from z) (by simp),λb o e=>((d.bs b o e).1,?_),d.VL,λb _ _ z=>absurd (show b∈([]:List Addr)from z) (by simp),λb z=>absurd (show b∈([]:List Addr)from z) (by simp),d.funs,λb a4=>?_),
   rfl,d.bare,Un.kept hk,(_,a2,λi y v h g h7=>?_),λy b h=>?_,C.fresh (aad _),λy b h=>?_,λp x=>absurd (show p∈([]:List (Addr×Obj))from x) (by simp),C.kept hk,?_)
  ·obtain⟨i,i1,M⟩:=cP h;obtain⟨j,j1,j2⟩:=cP g;have:=(aiP (aab.mp M).1 nd).mp (M.trans j2.symm);subst this;exact aao (i1.symm.trans j1)
  ·have m:c.scope.names.lookup y=some .cell\/c.scope.names.lookup y=some .free:=m;rcases m with m|m
   ·exact absurd rfl (S.ρ _ (PySem.mem_of_lookup m))
   ·exact zU a1 (S.fr _ (PySem.mem_of_lookup m) rfl)
  ·have n:=(d.bs b o e).2;show hide H cs b=none;rw[bx]
   ·exact n
   ·intro z;obtain⟨o',W⟩:=hx b z;rw[n]at W;cases W
  ·have n:=d.V8 b a4;show hide H cs b=none;rw[bx]
   ·exact n
   ·intro z;obtain⟨o',W⟩:=hx b z;rw[n]at W;cases W
  ·have D:i<(vs++Um).length:=by
    unfold start at g;by_cases D:i<(vs++Um).length
    ·exact D
    ·rw[aar (by simpa using D)]at g;rw[agM]at g;split at g <;> cases g
   have R:(vs++Um)[i]?=some v:=by
    unfold start at g;rw[aax (by simpa using D),aah]at g;cases e:(vs++Um)[i]? with
    | none=>rw[e]at g;cases g
    | some a=>rw[e]at g;cases g;rfl
   rw[aaf]at D;have x:(c.ps++c.xs)[i]?=some y:=by
    rw[<-S.pre,acT (by lia)];exact h
   by_cases a3:i<vs.length
   ·rw[aax a3]at R;rw[aax (by lia)]at x;obtain⟨u,hu,U⟩:=r.get R;exact(u,U,.inl (S.Wg y (aag x),Hq Xa x hu))
   ·rw[aar (by lia)]at R;rw[aar (by lia),<-hl]at x;have hj:i - vs.length<cs.length:=by
     have:=(aab.mp x).1;lia
    obtain⟨b,XF⟩:∃b,cs[i - vs.length]?=some b:=(_,aac hj);obtain⟨X,v',u,q1,q2,q3,q4⟩:=hc _ b XF;rw[R]at q1;cases q1;have L:c.scope.names.lookup y=some .free:=by
     rcases h7 with q|q|q
     ·exact absurd q (S.Zq y (aag x))
     ·exact absurd rfl (S.ρ _ (PySem.mem_of_lookup q))
     ·exact q
    exact(u,q4,.inr (.inr L,b,GJ Zr x XF,X,hk _ _ (cT d.hok q2),q3))
  ·obtain⟨i,i1,M⟩:=cP h;obtain⟨X,v',u,q1,q2,q3,q4⟩:=hc _ b M;exact(_,X,hk _ _ (cT d.hok q2),q3)
  ·obtain⟨i,i1,M⟩:=cP h;exact nU (aag M)
  ·unfold start;show _=N.length;rw[aaf,aaa,abD,aaf];lia
 have Y:∀{T:Shared}{B:St}{H':Hp}{v:V}{u:Value},Inv (tu P w K mg base N c.qual c.scope f (.ref l) (c.xs.zip cs) A outer s (hide H cs)) [] B H' T->RelV v u->Q v (over H cs H')->CE outer P w H s Q u T:=λ{T B H' v u} J U q=>by
  obtain⟨k1,k2⟩:=Hd d.hok J.hok hx d.V8 J.base;exact(v,over H cs H',J.os,J.bare,k2,k1,U,q)
 refine wpAny_mono (ht [] _ (start N (vs++Um)) (hide H cs) _ I hq) (λfl T O=>?_) λe T O=>False.elim O;cases fl with
 | ret u =>
  obtain⟨v,B,H',J,U,q⟩:=O;exact Y J U q
 | next =>
  obtain⟨B,H',J,q⟩:=O;exact Y (v:=V.non) (u:=Value.none) J rfl q
 | brk =>
  obtain⟨_,_,_,q⟩:=O;exact False.elim q
 | cont =>
  obtain⟨_,_,_,q⟩:=O;exact False.elim q
end
def fP(P:Program)(w:World)(K:PySem.W.Frag)(mg:Str->Option Value)(base:Heap)(k:Nat)(d:Addr->Sp):Prop:=
 ∀(f:Addr) (A:Around) (a:List Env) (s:Shared) (H:Hp) (c:List Value) (b:List V) (Q:VK),eY k A->Gm P w K mg base A a s H->Vals b c->d f b H Q E0 ->
  codeAny (model P w) A (.call (.ref f) (c,[])) (CR Ui a P w H s Q E0) s
theorem fP.mono{P:Program}{w:World}{K:PySem.W.Frag}{mg:Str->Option Value}{base:Heap}{j k:Nat}{b:Addr->Sp}(F:fP P w K mg base j b)(h:j<=k):fP P w K mg base k b:=
 λf A a s H d c Q e=>F f A a s H d c Q (e.mono h)
inductive Rm(i:Nat)(sp:Addr->Sp)(t:TA)(σ:St)(H:Hp)(Q:VK):Prop
 | mk (f o fd:_) (_:σ[i]?=some (some (.ref f))) (_:H f=some (aO f o)) (_:o.data=.func fd) (_:t σ H λvs H1=>H1 f=some (aO f o)/\sp f vs H1 Q E0)
section
variable{k:Nat}{pos:Pos}{es:List Expr}{sp:Addr->Sp}
theorem dW(C:fP X.prog X.w X.K X.mg X.base k sp)(U:eY k X.A)(V:X.N[i]?=some x)(Y:PA X (e::es) t)(R:Yj X.env.scope x:=by first|exact ag1 rfl|exact ahT (ag1 rfl) | exact ahT (ahT rfl))
  (hd:(x == ("__debug__" : Str))=false:=by decide)(n:(x == ("__classdict__" : Str))=false:=by decide)
  (W:starEach (e::es) X.env=(pq false (eval e X.env))::starEach es X.env:=by rfl)(l:(backTo pos (starEach es X.env)).any (·.1)=false:=by rfl):PE X (.Call (.Name x p) (e::es) [] pos) (Rm i sp t):=by
 intro c s b H Q I h;obtain⟨f,o,y,T,g,d,h⟩:=h;refine wpAny_Call_Name_kw (Uh (Gv V R hd n c s b H (λv H'=>v=.ref f/\H'=H) I (_,T,rfl,rfl)) λu L S=>?_);obtain⟨v,H1,B,M,rfl,rfl⟩:=S;obtain rfl:u=Value.ref f:=M;have z:∀{H:Hp}{s:Shared},Inv X c b H s->H f=some (aO f o)->FnAt f s.heap:=λ{H s} J g=>by
  obtain⟨P,O,dt,F⟩:=o;have d:dt=.func y:=d;subst d;exact(P,O,y,F,cT J.hok g)
 refine callWith_F (z B g) (Uh (Y pos c L b H1 _ B h) λE G ⟨D,H2,j,r,m,q⟩=>(z j m,?_)) W l;refine wpAny_call (codeAny_mono (C f X.A X.stack G H2 E D Q U j.env0 r q) λr s' a=>?_);cases r with
 | error e=>exact False.elim a
 | ok Z =>
  cases Z with
  | ret u=>exact j.after a
  | next=>exact False.elim a
  | brk=>exact False.elim a
  | cont=>exact False.elim a
end
def BMain(mg:Str->Option Value)(h:Heap):Prop:=∃b a,mg "__builtins__" = some (.ref b)/\b≠builtinsNs/\h.get? b=some a/\a.cls=.type "module" /\ a.dict=some builtinsNs/\a.data=.plain
inductive TabAt(H:Hp)(P:Addr)(pos:Pos)(qual:Str):Prop
 | mk (ps:Array Value) (_:H P=some (.Uq ps)) (_:TriplesOk ps.toList) (_:(codeAmong pos ps.toList=none \/ ∃(cd:Addr) (oc:Obj) (vs:Array Value) (t:Tok),codeAmong pos ps.toList=some (.ref cd)/\H cd=some (aO cd oc)/\oc.data=.fields vs/\vs[1]?=some (.str qual t)))
section
variable{P:Addr}{params:Arguments}{body:List Stmt}{clos:List (Str×Addr)}{pos:Pos}
theorem O3{M:Model}{A:Around}{E:Value->Shared->Prop}{Q:Value->Shared->Prop}(I:Inv X π σ H s)(bm:BMain X.mg X.base)(v:X.env.code=.ref c)(C:CodeHd X.base c P)(hT:TabAt H P pos qual)(W:closureFor scope X.env=pure clos)
  (h:∀(fi D:Addr) (f pm g:Value) (j:Obj) (B:Array Value) (t:Tok) (L:Hp) (s1:Shared),Inv X π σ L s1->H fi=none->(∀b o,H b=some o->b≠P->L b=some o)->TabAt L P pos qual ->
   L fi=some (aO fi (fnMade name qual params body scope clos f pm D g))->L D=some (aO D j)->j.data=.fields B->B[1]?=some (.str qual t)->Q (.ref fi) s1):
  wpAny M A (makeFunction name qual params (.stmts body) scope X.env [] [] [] pos n) Q E s:=by
 obtain⟨p,m,r,R⟩:=hT;have y:s.heap.get? P=some (tabObj p):=I.hok P _ m;have G:=I.mod.glob.keeps I.bk;obtain⟨bm,ob,b1,b2,b3,b4,b5,b6⟩:=bm;have T:=I.bk _ _ b3;have a2:mainGlobals≠P:=λq=>by
  obtain⟨o,es,ep,e,hd,_⟩:=G;rw[q,y]at e;cases e;cases hd
 have a3:bm≠P:=λq=>by
  rw[q,y]at T;cases T;cases b4
 have a4:bm≠mainGlobals:=λq=>by
  obtain⟨o,es,ep,e,hd,_⟩:=G;rw[q,e]at T;cases T;rw[hd]at b6;cases b6
 have XH:s.heap.BuiltinsAt X.mg P:=(bm,ob,b1,b2,a4,a3,T,b4,b5,b6);rcases R with V|⟨D,j,B,t,hf,Y,hd,S⟩
 ·refine makeFunction_K (mg:=X.mg) W I.ok.glob G v (C.keeps I.bk) y r V a2 XH λa g f i tk hx w O Z a0=>?_;obtain⟨c2,j,B,t,e2,a1,hd,S⟩:=Z;cases e2;have nc:H a=none:=I.hok.fresh w;have K:H i.objs.size=none:=I.hok.fresh (age w (adG O));have Zt:P≠a:=aH m nc;have Zu:P≠i.objs.size:=aH m K;have Zv:a≠i.objs.size:=aat O
  have k1:∀b,b≠P->b≠a->b≠i.objs.size->upd (upd (upd H P (.Uq (p ++ #[rawInt pos.line,rawInt pos.col,.ref a]))) a (aO a j)) i.objs.size (aO i.objs.size (fnMade name qual params body scope clos f ((X.mg "__name__").getD .none) a g)) b=H b:=λb e1 e2 e3=>by
   rw[aJ e3,aJ e2,aJ e1]
  have l:∀b o,H b=some o->b≠P->upd (upd (upd H P (.Uq (p ++ #[rawInt pos.line,rawInt pos.col,.ref a]))) a (aO a j)) i.objs.size (aO i.objs.size (fnMade name qual params body scope clos f ((X.mg "__name__").getD .none) a g)) b=some o:=λb o e n=>by
   rw[k1 b n (aH e nc) (aH e K)];exact e
  have kP:upd (upd (upd H P (.Uq (p ++ #[rawInt pos.line,rawInt pos.col,.ref a]))) a (aO a j)) i.objs.size (aO i.objs.size (fnMade name qual params body scope clos f ((X.mg "__name__").getD .none) a g)) P=some (.Uq (p ++ #[rawInt pos.line,rawInt pos.col,.ref a])):=by
   rw[aJ Zu,aJ Zt,au]
  have kc:upd (upd (upd H P (.Uq (p ++ #[rawInt pos.line,rawInt pos.col,.ref a]))) a (aO a j)) i.objs.size (aO i.objs.size (fnMade name qual params body scope clos f ((X.mg "__name__").getD .none) a g)) a=some (aO a j):=by
   rw[aJ Zv,au]
  have kf:upd (upd (upd H P (.Uq (p ++ #[rawInt pos.line,rawInt pos.col,.ref a]))) a (aO a j)) i.objs.size (aO i.objs.size (fnMade name qual params body scope clos f ((X.mg "__name__").getD .none) a g)) i.objs.size=some (aO i.objs.size (fnMade name qual params body scope clos f ((X.mg "__name__").getD .none) a g)):=au
  generalize upd (upd (upd H P (.Uq (p ++ #[rawInt pos.line,rawInt pos.col,.ref a]))) a (aO a j)) i.objs.size (aO i.objs.size (fnMade name qual params body scope clos f ((X.mg "__name__").getD .none) a g))=L at *
  have k:∀b o,s.heap.get? b=some o->b≠P->(i.push (fnMade name qual params body scope clos f ((X.mg "__name__").getD .none) a g)).get? b=some o:=λb o e n=>Heap.get?_push_of_some _ (hx b o n e)
  have F:(i.push (fnMade name qual params body scope clos f ((X.mg "__name__").getD .none) a g)).get? P=some (tabObj (p ++ #[rawInt pos.line,rawInt pos.col,.ref a])):=Heap.get?_push_of_some _ a0
  have hl:(p ++ #[rawInt pos.line,rawInt pos.col,.ref a]).toList=p.toList++[rawInt pos.line,rawInt pos.col,.ref a]:=by simp
  refine h i.objs.size a f _ g j B t L _ (I.call' (ch:=[]) rfl (λb o e n hb N=>?_,λb o e n hb N=>?_,λb o e n N=>?_,λb o e N=>?_,λb xs e=>?_,λb o u e=>?_,λb qs e=>?_) (λb u e=>?_) I.bare λb z=>absurd z (by simp)) K l (_,kP,by rw[hl];exact TriplesOk_snoc _ _ _ _ r,.inr (a,j,B,t,by rw[hl];exact codeAmong_snoc _ r V,kc,hd,S)) kf kc hd S
  ·exact k b o e λz=>by rw[z,m]at n;cases n
  ·exact(o.slots,k b o e λz=>by rw[z,m]at n;cases n)
  ·rw[k1 b (λz=>by rw[z,m]at n;cases n) (aat (aak (Heap.lt_size e) w)) (aat (aak (Heap.lt_size e) (age w (adG O))))];exact n
  ·by_cases z:b=P
   ·exact(_,by rw[z];exact F)
   ·exact(o,k b o e z)
  ·exact l b _ e λz=>by rw[z,m]at e;cases e
  ·exact l b _ e λz=>by rw[z,m]at e;cases e
  ·by_cases z:b=P
   ·rw[z,m]at e;cases e;exact(_,by rw[z];exact kP)
   ·exact(#[],by rw[l b _ e z];simp)
  ·by_cases J:b=i.objs.size
   ·rw[J,kf]at e;cases e;rw[J];exact fG (Heap.get?_push_size _ rfl)
   by_cases z2:b=a
   ·rw[z2,kc]at e;cases e;rw[z2];exact fG (Heap.get?_push_of_some _ a1)
   by_cases z3:b=P
   ·rw[z3,kP]at e;cases e;rw[z3];exact F
   rw[k1 b z3 z2 J]at e;refine(I.hok b u e).stay (λd o x q=>k d o q ?_) (λd q=>l d _ q ?_) λd xs q=>l d _ q ?_
   ·rcases x with rfl|x
    ·exact z3
    ·exact λz=>by rw[z,m]at x;cases x
   ·exact λz=>by rw[z,m]at q;cases q
   ·exact λz=>by rw[z,m]at q;cases q
 ·refine makeFunction_hit (mg:=X.mg) W I.ok.glob G v (C.keeps I.bk) y r hf XH λg f i tk hk U=>?_;have K:H i.objs.size=none:=I.hok.fresh U
  have l:∀b o,H b=some o->upd H i.objs.size (aO i.objs.size (fnMade name qual params body scope clos f ((X.mg "__name__").getD .none) D g)) b=some o:=λb o e=>by
   rw[aJ (aH e K)];exact e
  have k:∀b o,s.heap.get? b=some o->(i.push (fnMade name qual params body scope clos f ((X.mg "__name__").getD .none) D g)).get? b=some o:=λb o e=>Heap.get?_push_of_some _ (hk b o e)
  refine h i.objs.size D f _ g j B t _ _ (I.call' (ch:=[]) rfl (Un.laid k U K) (λb u e=>?_) I.bare λb z=>absurd z (by simp)) K (λb o e _=>l b o e) (p,l _ _ m,r,.inr (D,j,B,t,hf,l _ _ Y,hd,S)) au (l _ _ Y) hd S;by_cases J:b=i.objs.size
  ·rw[J,au]at e;cases e;rw[J];exact fG (Heap.get?_push_size _ rfl)
  rw[aJ J]at e;exact(I.hok b u e).stay (λd o _ q=>k d o q) (λd q=>l d _ q) λd xs q=>l d _ q
end
section
variable{P:Program}{s0:Shared}{H0:Hp}{E:XK}{Q:VK}
theorem Om{T:vI}{cs:List Addr}{Um:List V}{pos :Pos}{i:Nat}(I:Inv (iw CX P w K mg base N qual scope f (.ref c) A outer s0 H0 E) [] σ H s)(bm:BMain mg base)(C:CodeHd base c Pt)(hT:TabAt H Pt pos T.qual)
  (a5:N.Nodup)(hi:N[i]?=some T.name)(y:scope.names.lookup T.name=some .local)(hq:qualnameIn (envOfC qual scope s0.heap.objs.size f (.ref c)) T.name T.name=T.qual)
  (b0:closureFor T.scope (envOfC qual scope s0.heap.objs.size f (.ref c))=pure (T.xs.zip cs))(a9:T.params.defaults=[])(a6:T.params.kw_defaults=[])(ha:annTrees T.params none (envOfC qual scope s0.heap.objs.size f (.ref c))=[])
  (Y:cs.Nodup)(Z:cs.length=T.xs.length)(L:Um.length=T.xs.length)
  (XJ:∀(j:Nat) (a:Addr),cs[j]?=some a -> ∃(x:Str) (m:Nat) (v:V),(envOfC qual scope s0.heap.objs.size f (.ref c)).cells.lookup x=some a/\scope.names.lookup x=some .cell/\N[m]?=some x/\σ[m]?=some (some v)/\Um[j]?=some v/\m≠i)
  (hQ:∀(D:Addr) (H2:Hp),H D=none->(∀a∈cs,H a=none)->(∀b o,H b=some o->b≠Pt->H2 b=some o)->TabAt H2 Pt pos T.qual->iY H2 D T cs Um->Q (.ref D) H2)
  (a8:(T.name == ("__debug__" : Str))=false:=by decide)(a0:(T.name == ("__classdict__" : Str))=false:=by decide):
  wpAny (model P w) (A.deeper (envOfC qual scope s0.heap.objs.size f (.ref c))) (execs [.FunctionDef T.name T.params T.body [] none [] T.scope none T.name pos,.Return (some (.Name T.name p)) apos] (envOfC qual scope s0.heap.objs.size f (.ref c)))
   (λfl s'=>∃u,fl=.ret u/\CE outer P w H0 s0 Q u s') (iw CX P w K mg base N qual scope f (.ref c) A outer s0 H0 E).xe s:=by
 refine wpAny_execs_cons (nestDef_K a9 a6 ha ?_);rw[hq];refine O3 (X:=iw CX P w K mg base N qual scope f (.ref c) A outer s0 H0 E) (n:=pos.line) I bm rfl C hT b0 λD cd b3 pm b4 oc vs t H1 s1 I1 Zw W b2 a7 b1 hd hv=>?_;refine vP (X:=iw CX P w K mg base N qual scope f (.ref c) A outer s0 H0 E) (v:=.ref D) I1 a5 hi (.inl y) rfl (λs2 I2=>?_) (.inr y);have Yl:i<σ.length:=by rw[I.len];exact(aab.mp hi).1
 refine wpAny_execs_cons (wpAny_Return_some (Uh (Gv (X:=iw CX P w K mg base N qual scope f (.ref c) A outer s0 H0 E) hi (.inl y) a8 a0 [] s2 _ H1 (λv h=>v=.ref D/\h=H1) I2 (_,ahb Yl,rfl,rfl)) λu F hu=>?_));obtain⟨v,h,J,rv,rfl,rfl⟩:=hu;exists u,rfl,.ref D,λb=>if b∈cs then (F.heap.get? b).map (aO b)else h b,J.os,J.bare,?_,?_,rv
 all_goals
  have g:∀a∈cs,∃x,(envOfC qual scope s0.heap.objs.size f (.ref c)).cells.lookup x=some a:=λa k=>by
   obtain⟨j,hj⟩:=aaM k;obtain⟨x,m,v,h1,_⟩:=XJ j a hj;exact(x,h1)
  have fresh:∀a∈cs,s0.heap.objs.size<=a:=λa k=>by
   obtain⟨x,R⟩:=g a k;exact J.ok.cab x a rfl R
  have a1:∀a∈cs,h a=none:=λa k=>by
   obtain⟨x,R⟩:=g a k;exact J.freeC x a R
  have r:∀b o,h b=some o->b∉cs:=λb o e z=>by
   rw[a1 b z]at e;cases e
 ·have U:Un (frs outer) [] H0 h s0.heap F.heap:=J.base;refine(U.keep,U.slot,λb o e n a4=>?_,U.there,λb xs e=>?_,λb o v e=>?_,λb ps e=>?_)
  ·show (if b∈cs then _ else h b)=none;rw[if_neg (λz=>absurd (aak (Heap.lt_size e) (fresh b z)) (agf _))];exact U.free b o e n a4
  ·have B:=U.tups b xs e;show (if b∈cs then _ else h b)=_;rw[if_neg (r b _ B)];exact B
  ·have B:=U.frzs b o v e;show (if b∈cs then _ else h b)=_;rw[if_neg (r b _ B)];exact B
  ·obtain⟨S,B⟩:=U.tbls b ps e;exists S;show (if b∈cs then _ else h b)=_;rw[if_neg (r b _ B)];exact B
 ·intro b M e;have e:(if b∈cs then (F.heap.get? b).map (aO b)else h b)=some M:=e;by_cases hb:b∈cs
  ·rw[if_pos hb]at e;cases q:F.heap.get? b with
   | none=>rw[q]at e;cases e
   | some o =>
    rw[q]at e;cases e;exact fG q
  ·rw[if_neg hb]at e;refine(J.hok b M e).stay (λ_ _ _ q=>q) (λd q=>?_) λd xs q=>?_
   ·show (if d∈cs then _ else h d)=_;rw[if_neg (r d _ q)];exact q
   ·show (if d∈cs then _ else h d)=_;rw[if_neg (r d _ q)];exact q
 ·have O:∀b o,h b=some o->(λb=>if b∈cs then (F.heap.get? b).map (aO b)else h b) b=some o:=λb o e=>by
   show (if b∈cs then _ else h b)=_;rw[if_neg (r b _ e)];exact e
  refine hQ D _ Zw (λa k=>?_) (λb o e n=>O b o (W b o e n)) ?_ ((cd,b3,pm,b4,oc,vs,t,O _ _ a7,O _ _ b1,hd,hv),λj a hj=>?_,Y,Z,L)
  ·obtain⟨x,R⟩:=g a k;exact I.freeC x a R
  ·obtain⟨ps,B,e2,e3⟩:=b2;exists ps,O _ _ B,e2;rcases e3 with e3|⟨b5,a3,a2,t',e4,e5,e6⟩
   ·exact .inl e3
   ·exact .inr (b5,a3,a2,t',e4,O _ _ e5,e6)
  ·obtain⟨x,m,v,h1,h2,h3,h4,h5,h6⟩:=XJ j a hj;obtain⟨mm,_,hl⟩:=J.loc;obtain⟨M,r',l⟩:=hl m x v h3 (by rw[ahr (ags h6)];exact h4) (.inr (.inl h2));have l':∃c',(envOfC qual scope s0.heap.objs.size f (.ref c)).cells.lookup x=some c'/\F.heap.IsCell c' (some M):=by
    rcases l with ⟨G,_⟩|⟨_,l2⟩
    ·have G:scope.names.lookup x=some .local:=G;rw[h2]at G;cases G
    ·exact l2
   obtain⟨c',G,co,l2,l3⟩:=l';rw[h1]at G;cases G;refine(co,v,M,h5,?_,l3,r');show (if a∈cs then (F.heap.get? a).map (aO a)else h a)=_;rw[if_pos (aag hj),l2];rfl
theorem GF{k:Nat}{name:Str}{g:Arguments}{h:List Stmt}{kV B M d R oc:Value}{T Z:Option Addr}{G:Array (Option Value)}{ps:List Str}(lk:K.lookup f=some (oc,Z,.func (PySem.W.fnOf name qual g h scope r kV B M T d R),G))(L:PySem.W.codeIn K d qual=true)(S:aB N ps scope)
  (t:∀i H Q E,sp i H Q E->i.length=ps.length)
  (l:∀(A:Around) (outer:List Env) (s:Shared) (H:Hp) (i:List V) (Q:VK) (E:XK) (m:Shared),eY k (A.deeper (envOfC qual scope s.heap.objs.size f d))->sp i H Q E->Inv (iw Ui P w K mg base N qual scope f d A outer s H E) [] (start N i) H m ->
   wpAny (model P w) (A.deeper (envOfC qual scope s.heap.objs.size f d)) (execs h (envOfC qual scope s.heap.objs.size f d)) (λO C=>∃u,O=.ret u/\CE outer P w H s Q u C) (iw Ui P w K mg base N qual scope f d A outer s H E).xe m):
  aV P w K mg base Ui (k+1) f (PySem.W.fnOf name qual g h scope r kV B M T d R) ps sp:=by
 refine(t,λA outer s H X Y i Q E F p hb a z=>?_);have hl:=t _ _ _ _ z;have U:K.In s.heap:=p.mod.Xp.keeps λb o e=>(p.bs b o e).1;have J:s.heap.NoLimit:=p.mod.nolimit.keeps λb o e=>(p.bs b o e).1;have j:∀y∈ps.zip Y,scope.names.lookup y.1=some .local\/(scope.names.lookup y.1=some .cell/\((cellsFrom (s.heap.objs.size+1) scope.names []).lookup y.1).isSome=true):=λ⟨n,v⟩ hy=>by
  rcases S.Wg n (ahe hy).1 with q|q
  ·exact .inl q
  ·exact .inr (q,PySem.W.cellsFrom_some _ _ _ (.inl q))
 refine codeAny_call_function F.depth (U _ _ lk) rfl S.co S.gen rfl (PySem.W.codeRec_of U L) (hb _ _ _ _ ?_);refine wpAny_newFunctionEnv_cells S.kind j λa0 he m x=>?_;subst he;refine(J.keeps x.toInCall.keep,codeAny_func ?_);have I:Inv (iw Ui P w K mg base N qual scope f d A outer s H E) [] (start N i) H m:=yQ S F.hd p hl a x;refine wpAny_mono (l A outer s H i Q E m (F.deeper _) z I) (λO C D=>?_) λe C D=>D;obtain⟨u,rfl,q⟩:=D;exact q
end
theorem Ji{w:World}{mg mb:Str->Option Value}{k:Nat}{a:Addr}{fd:FuncData}{x:Str}{g:Shared}{y:List Value}{i:List (Addr×Addr)}
  (KX:K.In g.heap)(U:g.heap.Ns mainGlobals mg)(hb:g.heap.Ns builtinsNs mb)(a8:∀x:Str,x ≠ "__name__" -> mb x=bootBuiltins x)(Z:g.heap.NoLimit)(a7:BMain mg g.heap)(A:TabsAt i g.heap)(Zx:noTabs K=true)(hg:g.gens=#[])
  (O:g.heap.get? a=some { cls:=.type "list",data:=.seq y.toArray })(hi:IntsAre y d)(hl:d.length<=sizeLine)(hr:eY k callerA)
  (F:∀base:Heap,K.In base->base.Ns mainGlobals mg->BMain mg base->(∀q∈i,CodeHd base q.1 q.2)->aV prog w K mg base Ui k f fd [x] sp)(M:∀(s:Shared) (u:Value),BindsTo s fd ([u],[]) [(pq x u)])
  (a5:∀H:Hp,My K H a (d.map V.int)->(∀q∈i,H q.2=some (.Uq #[]))->sp [.ref a] H (λv _=>v=.bl true) λ_ _ _=>False):
  codeAny (model prog w) callerA (.call (.ref f) ([.ref a],[])) (λr C=>r=.ok (.ret (.bool true))/\OldK g.heap C.heap/\C.os=g.os/\AllBare C.gens) g:=by
 have rv:=rJ hi;have lenV:=hi.length;have D:∀b,b∈i.map (·.2)->K.lookup b=none:=λb p=>by
  cases q:K.lookup b with
  | none=>rfl
  | some o =>
   obtain⟨r,j,rfl⟩:=aaT.mp p;have e:=KX _ _ q;rw[(A r j).2]at e;cases e;have t:=aiY.mp Zx _ (mem_of_lookupK q);exact absurd (show false=true from t) aap
 have a2:a∉i.map (·.2):=λz=>by
  obtain⟨r,j,e⟩:=aaT.mp z;have J:=(A r j).2;rw[e,O]at J;cases J
 have I:∀H:Hp,(∀b,H b=none\/(b=a/\K.lookup a=none/\H b=some (.Ve { cls:=.type "list",data:=.seq y.toArray } (.lst (d.map V.int))))\/(b∈i.map (·.2)/\H b=some (.Uq #[])))->(∀q∈i,H q.2=some (.Uq #[]))->My K H a (d.map V.int)->Uw prog w H g.heap ->
   codeAny (model prog w) callerA (.call (.ref f) ([.ref a],[])) (λr C=>r=.ok (.ret (.bool true))/\OldK g.heap C.heap/\C.os=g.os/\AllBare C.gens) g:=by
  intro H hO a9 hS T;have l:∀{b:Addr}{o:Obj},g.heap.get? b=some o->H b=none->(vq g.heap H).get? b=some o:=λe n=>Nq e n
  have W9:∀{b:Addr}{o:Obj},g.heap.get? b=some o->o.cls ≠ .type "list" -> o.cls ≠ .none->H b=none:=λ{b o} e d1 d2=>by
   rcases hO b with z|⟨rfl,_,z⟩|⟨z,_⟩
   ·exact z
   ·rw[O]at e;cases e;exact absurd rfl d1
   ·obtain⟨r,j,rfl⟩:=aaT.mp z;rw[(A r j).2]at e;cases e;exact absurd rfl d2
  have a3:∀{b:Addr}{o:Obj}{Q:Array DictEntry}{R:Nat},g.heap.get? b=some o->o.data=.dict Q R->H b=none:=λ{b o Q R} e c=>by
   rcases hO b with z|⟨rfl,_,z⟩|⟨z,_⟩
   ·exact z
   ·rw[O]at e;cases e;have d':Data.seq y.toArray _=Data.dict Q R:=c;cases d'
   ·obtain⟨r,j,rfl⟩:=aaT.mp z;rw[(A r j).2]at e;cases e;have d':Data.fields _=Data.dict Q R:=c;cases d'
  have Ys:∀{b:Addr}{m:Str->Option Value},g.heap.Ns b m->(vq g.heap H).Ns b m:=λ{b m} ⟨o,Q,R,e,c,r⟩=>(o,Q,R,l e (a3 e c),c,r);have X:K.In (vq g.heap H):=λb o e=>l (KX b o e) (by
   rcases hO b with z|⟨rfl,z,_⟩|⟨z,_⟩
   ·exact z
   ·rw[e]at z;cases z
   ·rw[D b z]at e;cases e)
  have hM:Mod K mg (vq g.heap H):=(X,Ys U,(mb,Ys hb,a8),let ⟨mc,B,t⟩:=Z;(mc,Ys B,t));have hB:BMain mg (vq g.heap H):=by
   obtain⟨bm,ob,b1,b2,b3,b4,b5⟩:=a7;exact(bm,ob,b1,b2,l b3 (W9 b3 (by rw[b4];decide) (by rw[b4];nofun)),b4,b5)
  have hC:∀q∈i,CodeHd (vq g.heap H) q.1 q.2:=λq S=>by
   obtain⟨o,ws,a0,tf,N,tg,a4,Y,tt,L,r1,r2⟩:=(A q S).1;exact(o,ws,a0,tf,N,tg,a4,Y,tt,l L (W9 L (by rw[r1];decide) (by rw[r1];nofun)),r1,r2)
  have e0:Gm prog w K mg (vq g.heap H) callerA [] g H:=(rfl,hM,λb o e=>O4 e,ahg (Jz _ _),trivial,λb hb=>absurd (show b∈([]:List Addr)from hb) (by simp),T,.of_eq hg);refine codeAny_mono ((F _ X (Ys U) hB hC).run callerA [] g H ([.ref a],[]) [.ref a] [.ref a] _ _ hr e0 (M g (.ref a)) (.cons rfl .nil) (a5 H hS a9)) λr C h=>?_;cases r with
  | error e=>exact False.elim h
  | ok fl =>
   cases fl with
   | next=>exact False.elim h
   | brk=>exact False.elim h
   | cont=>exact False.elim h
   | ret u =>
    obtain⟨v,H',os,a1,un,G,r',q⟩:=h;have q':v=.bl true:=q;subst q';obtain rfl:u=Value.bool true:=r';refine(rfl,(λb o e=>?_,λb o e=>un.there b o e (by simp)),os,a1);rcases hO b with z|⟨rfl,_,z⟩|⟨z1,z⟩
    ·exact .inl (un.keep b o e z (by intro z;exact absurd (show b∈([]:List Addr)from z) (by simp)) (by simp))
    ·have z2:=un.frzs b _ _ z;obtain⟨L,_⟩:=T b _ z;obtain⟨J,_⟩:=G b _ z2;rw[e]at L;cases L;exact .inl J
    ·obtain⟨E,z2⟩:=un.tbls b _ z;have L:C.heap.get? b=some { cls:=.none,data:=.fields (#[]++E) }:=G b _ z2;obtain⟨r,j,rfl⟩:=aaT.mp z1;have J:=(A r j).2;rw[e]at J;cases J;exact .inr (.inl (((A r j).1.tab (A r j).2).isCodeTable,rfl,#[],E,rfl,L))
 cases hk:K.lookup a with
 | some o =>
  have e:=KX a o hk;rw[O]at e;cases e;refine I (λb=>if b∈i.map (·.2)then some (.Uq #[])else none) (λb=>?_) (λq S=>if_pos (aiC S)) (.inr (_,y.toArray,_,hk,rfl,rfl,rfl,by rw[aaA,lenV];exact hl,by simpa using rv)) (λb u z=>?_)
  ·by_cases p:b∈i.map (·.2)
   ·exact .inr (.inr (p,if_pos p))
   ·exact .inl (if_neg p)
  ·by_cases p:b∈i.map (·.2)
   ·have z':=(if_pos p).symm.trans z;cases z';obtain⟨r,j,rfl⟩:=aaT.mp p;exact(A r j).2
   ·have z':=(if_neg p).symm.trans z;cases z'
 | none =>
  have hA:(λb=>if b=a then some (.Ve { cls:=.type "list",data:=.seq y.toArray } (.lst (d.map V.int)))else if b∈i.map (·.2)then some (.Uq #[])else none:Hp) a=some (.Ve { cls:=.type "list",data:=.seq y.toArray } (.lst (d.map V.int))):=if_pos rfl
  have Zy:∀b∈i.map (·.2),(λb=>if b=a then some (.Ve { cls:=.type "list",data:=.seq y.toArray } (.lst (d.map V.int)))else if b∈i.map (·.2)then some (.Uq #[])else none:Hp) b=some (.Uq #[]):=λb p=>by
   have a6:b≠a:=λe=>a2 (e ▸ p);show (if b=a then _ else if b∈i.map (·.2)then _ else _)=_;rw[if_neg a6,if_pos p]
  have hN:∀b,b≠a->b∉i.map (·.2)->(λb=>if b=a then some (.Ve { cls:=.type "list",data:=.seq y.toArray } (.lst (d.map V.int)))else if b∈i.map (·.2)then some (.Uq #[])else none:Hp) b=none:=λb B t=>by
   show (if b=a then _ else if b∈i.map (·.2)then _ else _)=_;rw[if_neg B,if_neg t]
  generalize (λb=>if b=a then some (.Ve { cls:=.type "list",data:=.seq y.toArray } (.lst (d.map V.int)))else if b∈i.map (·.2)then some (.Uq #[])else none:Hp)=H at *
  refine I H (λb=>?_) (λq S=>Zy _ (aiC S)) (.inl (.inr ({ cls:=.type "list",data:=.seq y.toArray },hA))) (λb u z=>?_)
  ·by_cases B:b=a
   ·rw[B];exact .inr (.inl (rfl,hk,hA))
   ·by_cases t:b∈i.map (·.2)
    ·exact .inr (.inr (t,Zy b t))
    ·exact .inl (hN b B t)
  ·by_cases B:b=a
   ·rw[B,hA]at z;cases z;rw[B];exact(O,by rw[aaa];exact hl,y,_,rv,O)
   ·by_cases t:b∈i.map (·.2)
    ·rw[Zy b t]at z;cases z;obtain⟨r,j,rfl⟩:=aaT.mp t;exact(A r j).2
    ·rw[hN b B t]at z;cases z
theorem La{l:PySem.W.OpenLaw}{n k:Nat}{q:Program}{XP:(Str->Option Value)->Heap->Prop}{I:World->Heap->Prop}{d:DefRec}{K:Params->PySem.W.Frag}{x:Str}
  (P:l.most=some n)(A:n<=sizeLine)(C:d.params.defaults=[])(O:eY k callerA)
  (S:∀(w:World) (h:Heap),I w h->(K w.params).In h)
  (F:∀(w:World) (mg y:Str->Option Value) (j:ExcName->Option Value) (r:Addr) (h:Heap),(K w.params).In h->Top q (looseW q N) j mg y h->mg d.name=some (.ref r) ->
   ∃(fd:FuncData) (c:List (Addr×Addr)) (t:Sp),(∀(s:Shared) (u:Value),BindsTo s fd ([u],[]) [(pq x u)])/\TabsAt c h/\noTabs (K w.params)=true /\
    (∀base:Heap,(K w.params).In base->base.Ns mainGlobals mg->BMain mg base->(∀q∈c,CodeHd base q.1 q.2)->aV l.prog w (K w.params) mg base Ui k r fd [x] t) /\
    ∀(H:Hp) (a:Addr) (p:List Int),p.length<=n->My (K w.params) H a (p.map V.int)->(∀q∈c,H q.2=some (.Uq #[]))->t [.ref a] H (λv _=>v=.bl true) λ_ _ _=>False):
  PySem.W.WalkO q N XP I l.row.toRowW d [] (λf E=>PySem.call f E):=by
 refine Yp.attach_call P C λw M L mg y r o pm cd a1 a E p G Y ho hd a0 B m i e Q=>?_;have J:=S w _ Y;obtain⟨fd,c,t,R,U,Zx,Z,z⟩:=F w mg y _ r _ J G.T B;exact Ji J G.T.g G.T.b G.T.builtins G.T.nolimit G.T.bmain U Zx Q m i (age e A) O Z R λH X D=>z H a p e X D
def R6(st:Stmt)(c:Str)(ps xs:List Str):vI:=match st with
 | .FunctionDef n a b _ _ _ d _ _ _=>(n,c,a,b,d,ps,xs)
 | _=>("",c,ν st,[],δ st,ps,xs)
def yo:Stmt->Pos
 | .FunctionDef _ _ _ _ _ _ _ _ _ p=>p
 | _=>(0,0,0,0)
structure QQ(N:List Str)(qual:Str)(scope:Scope)(T:vI)(i:Nat)(slots:List Nat)(Vg:Addr->List Addr):Prop where
 nd:N.Nodup
 hi:N[i]?=some T.name
 loc:scope.names.lookup T.name=some .local
 qn:∀(L f:Addr) (c:Value),qualnameIn (envOfC qual scope L f c) T.name T.name=T.qual
 cl:∀(L f:Addr) (c:Value),closureFor T.scope (envOfC qual scope L f c)=pure (T.xs.zip (Vg L))
 d0:T.params.defaults=[]
 k0:T.params.kw_defaults=[]
 an:∀(L f:Addr) (c:Value),annTrees T.params none (envOfC qual scope L f c)=[]
 Zz:∀L:Addr,(Vg L).Nodup
 len:∀L:Addr,(Vg L).length=T.xs.length
 fv:∀(L f:Addr) (c:Value) (j:Nat) (a:Addr),(Vg L)[j]?=some a -> ∃(x:Str) (m:Nat),(envOfC qual scope L f c).cells.lookup x=some a/\scope.names.lookup x=some .cell/\N[m]?=some x/\slots[j]?=some m/\m≠i
 db:(T.name == ("__debug__" : Str))=false
 dn:(T.name == ("__classdict__" : Str))=false
def Made(H:Hp)(g:Addr)(pos:Pos)(T:vI)(c:List Nat)(σ:St)(Q:VK):Prop:=
 TabAt H g pos T.qual /\ ∃f:List V,(∀j m:Nat,c[j]?=some m -> ∃v,σ[m]?=some (some v)/\f[j]?=some v)/\f.length=T.xs.length /\
  ∀(e:Addr) (h:List Addr) (d:Hp),H e=none->(∀a∈h,H a=none)->(∀b o,H b=some o->b≠g->d b=some o)->TabAt d g pos T.qual->iY d e T h f->Q (.ref e) d
section
variable{P:Program}{k:Nat}{T:vI}{slots:List Nat}{Vg:Addr->List Addr}{pos p1 p2:Pos}
theorem Mf{A:Around}{s b:Shared}{Q:VK}{E:XK}{σ:St}(M:QQ N qual (δ st) T i slots Vg)(bm:BMain mg base)(C:CodeHd base c Pt)(I:Inv (iw Ui P w K mg base N qual (δ st) f (.ref c) A outer s H E) [] σ H' b)(h:Made H' Pt pos T slots σ Q):
  wpAny (model P w) (A.deeper (envOfC qual (δ st) s.heap.objs.size f (.ref c))) (execs [.FunctionDef T.name T.params T.body [] none [] T.scope none T.name pos,.Return (some (.Name T.name p1)) p2] (envOfC qual (δ st) s.heap.objs.size f (.ref c)))
   (λB d=>∃u,B=.ret u/\CE outer P w H s Q u d) (iw Ui P w K mg base N qual (δ st) f (.ref c) A outer s H E).xe b:=by
 obtain⟨q,U,z,t,r⟩:=h;refine Om (cs:=Vg s.heap.objs.size) (Um:=U) I bm C q M.nd M.hi M.loc (M.qn _ _ _) (M.cl _ _ _) M.d0 M.k0 (M.an _ _ _) (M.Zz _) (M.len _) t (λj a e=>?_) (λD V p o n l g=>r D _ V p o n l g) M.db M.dn;obtain⟨y,m,S,R,O,L,J⟩:=M.fv s.heap.objs.size f (.ref c) j a e;obtain⟨v,G,F⟩:=z j m L;exact(y,m,v,S,R,O,G,F,J)
theorem Va.maker0(F:Va K x qual st f fd)(S:aB N ps (δ st))(M:QQ N qual (δ st) T i slots Vg)(bm:BMain mg base)(b:fd.code=.ref c)(C:CodeHd base c Pt)(d:∀a H Q E,sp a H Q E->a.length=ps.length)
  (n:μ st=[.FunctionDef T.name T.params T.body [] none [] T.scope none T.name pos,.Return (some (.Name T.name p1)) p2])
  (h:∀(a:List V) (H:Hp) (Q:VK) (E:XK),sp a H Q E->Made H Pt pos T slots (start N a) Q):aV P w K mg base Ui (k+1) f fd ps sp:=by
 obtain⟨u,t,kV,p,r,z,j,y,o,rfl,m,g⟩:=F.ex;obtain rfl:j=.ref c:=b;refine GF m g S d λA l s H a Q E q v e I=>?_;rw[n];exact Mf M bm C I (h a H Q E e)
theorem Rq{sp:Addr->Sp}(S:vL N T)(y:∀(n:List (Str×Addr)) (d m b e:Value) (l:List Value),l.length=T.ps.length->bindArgs (fnX T.name T.qual T.params T.body T.scope n .none .none d m none b e) (l,[])=pure (T.ps.zip l))
  (h:∀(f:Addr) (j:List V) (H:Hp) (Q:VK),sp f j H Q E0->j.length=T.ps.length /\ ∃cs Um,iY H f T cs Um /\
   ∀(b:Addr) (A:Around) (a:List Env) (s:Shared),eY k (A.deeper (envX T.qual T.scope s.heap.objs.size f (.ref b) (T.xs.zip cs))) -> ∃t,Vf (tu P w K mg base N T.qual T.scope f (.ref b) (T.xs.zip cs) A a s (hide H cs)) T.body t/\t { nx:=λ_ H'=>Q .non (over H cs H'),rt:=λv H'=>Q v (over H cs H') } (start N (j++Um)) (hide H cs)):
  fP P w K mg base (k+1) sp:=by
 intro f A a s H l j Q u z r o;obtain⟨q,cs,Um,B,g⟩:=h f j H Q o;exact Pr S u z B (λn d m b e=>.of_eq (y n d m b e l (by rw[<-r.length];exact q))) r q λb p=>g b A a s p
end
theorem tab0{pos:Pos}(h:H a=some (.Uq #[])):TabAt H a pos x:=(#[],h,trivial,.inl rfl)
theorem vo{x:Str}{f c :Addr}{e:Value}{h g:Option Addr}{fd:FuncData}{d b:Array (Option Value)}(a:nsIn K mainGlobals x=some (some (.ref f)))(l:K.lookup f=some (r,h,.func fd,d))(i:fd.code=.ref c)
  (t:K.lookup c=some (e,g,.fields D,b))(p:D[11]?=some (.ref C)):tabIn K x=some (pq c C):=by
 unfold tabIn;simp only[a,l,i,t,p]
end L2
namespace PySem
open PyProof.Rows
namespace F
theorem lri_no_len:typeLookup (.type "list_reverseiterator") "__len__" = pure none:=by rw[typeLookup_type,builtinLookup_eq_fast];kernel_rfl
theorem lri_hint:typeLookup (.type "list_reverseiterator") "__length_hint__" = pure (some (.builtin "list_reverseiterator.__length_hint__")):=by rw[typeLookup_type,builtinLookup_eq_fast];kernel_rfl
end F
theorem v4{l:Addr}{i:Int}{Q:Bool->Shared->Prop}(d:s.heap.IsRevIter a l i)(h:Q false s):wpAny (model prog w) A (Builtin.List.listLengthHint (.ref a)) Q E s:=by
 unfold Builtin.List.listLengthHint;refine wpAny_bind (wpAny_specialOf d.typeIs F.lri_no_len ?_)
 show wpAny _ A (specialOf (Value.ref a) (Str.ofString "__length_hint__") >>= _) _ _ _
 refine wpAny_bind (wpAny_specialOf d.typeIs F.lri_hint ?_)
 generalize e:("list_reverseiterator.__length_hint__" : String)=id0
 wp_delta
 rw[show splitId id0=some (pq ("list_reverseiterator") ("__length_hint__"))from by subst e;decide +kernel]
 subst e
 refine wpAny_bind (wpAny_isInstance (T := "list_reverseiterator") (b:=true) d.typeIs (by rw[isSubtype_type];kernel_rfl) ?_)
 refine wpAny_ite_split (λc=>absurd c (by decide)) (λ_=>?_);refine wpAny_ite_split (λ_=>?_) (λc=>absurd (by decide +kernel) c);refine wpAny_ite_split (λc=>absurd c (by decide +kernel)) (λ_=>?_);exact wpAny_pure h
section
variable{R:Result->Shared->Prop}
theorem qK{l:Addr}{items:Array Value}(Q:A.handled=none)(H:l≠a)(S:Addr)(k:Value)(n:Nat)(d:s.heap.IsRevIter a l ((items.size:Int) - 1))(M:s.heap.IsList l items)(r:S≠a)(D:S≠l)
  (G:s.heap.get? S=some { cls:=.type "list",data:=.seq #[] n })
  (T:∀h' tk c z,(∀b o,b≠S->b≠a->s.heap.get? b=some o->h'.get? b=some o)->h'.get? S=some { cls:=.type "list",dict:=none,data:=.seq c z,slots:=#[] } ->
   ItemsOf (λi v=>items[items.size - 1 - i]?=some v) c items.size->R (.ok (.ret k)) { s with heap:=h',toks:=tk })(O:items.size<=sizeLine):
  wpAny (model prog w) A.in1 (Builtin.List.listExtendWith (.ref S) (.ref a) k)
   (λL p=>match L with | .done f=>R (.ok f) p | .again z=>z.quiet=true/\codeAny (model prog w) A z R p) (λe p=>R (.error e) p) s:=by
 have J:S∉[a,l]:=λy=>by
  rcases aaQ.mp y with e|y
  ·exact r e
  ·exact D (aas.mp y)
 have W:=(Walks.listRev (prog:=prog) (w:=w) (A:=A.in1) Q a l H items).toS;have C:∀(h:Heap) (j tk:Nat),h.IsRevIter a l ((items.size:Int) - 1)->h.IsList l items->(∀b o,b≠S->s.heap.get? b=some o->h.get? b=some o) ->
   h.get? S=some { cls:=.type "list",data:=.seq #[] j }->codeAny (model prog w) A (.builtin "list.extend.loop" ([.ref S,.ref a,k],[])) R { s with heap:=h,toks:=tk }:=by
  intro h j tk m t P x;refine codeAny_extend_loopS W O S J k items.size 0 _ #[] j rfl (aaP _) (aaP _,?_,t) x (ItemsOf.nil _) λp c z y K E=>?_
  ·have e:(items.size:Int) - 1 - ((0:Nat):Int)=(items.size:Int) - 1:=by lia
   rw[e];exact m
  rw[Moved.eq_with y];refine T p.heap p.toks c z (λb o B I e=>y.heap b o (λg=>?_) (P b o B e)) K E;rcases aaQ.mp g with Y | g
  ·exact B Y
  ·exact I (aas.mp g)
 unfold Builtin.List.listExtendWith;refine wpAny_bind (wpAny_typeOf d.typeIs ?_);have X:Builtin.List.listSameRef (.ref S) (.ref a)=false:=by simp[Builtin.List.listSameRef,r]
 have V:(Value.type "list_reverseiterator" == Value.type "list")=false:=by decide
 have U:(Value.type "list_reverseiterator" == Value.type "tuple")=false:=by decide
 simp only[X,V,U,aik,ad5,if_false];refine wpAny_bind (wpAny_pyIter_revIter d ?_);refine wpAny_bind (wpAny_holding (v4 d ?_));refine wpAny_ite_split (λ_=>?_) (λ_=>wpAny_pure (plainId_quiet F.plain_extend_loop _,C _ n _ d M (λb o _ e=>e) G));refine wpAny_bind (wpAny_rule ?_);refine wpAny_bind ?_;show wpAny _ _ (updateSeq S (·.push .none) >>= λ_=>updateSeq S (·.pop)) _ _ _;refine wpAny_bind (wpAny_updateSeq G rfl ?_);have N:=Heap.get?_update_self (Obj.mapSeq (·.push Value.none)) G rfl;refine wpAny_updateSeq (hz:=by seq_fits) N rfl ?_;have u:=Heap.get?_update_self (Obj.mapSeq (·.pop)) N rfl;have q:∀b o,b≠S->s.heap.get? b=some o->((s.heap.update S (Obj.mapSeq (·.push Value.none))).update S (Obj.mapSeq (·.pop))).get? b=some o:=
  λb o B e=>(Heap.get?_update_other _ _ (ags B)).trans ((Heap.get?_update_other _ _ (ags B)).trans e)
 exact wpAny_pure (plainId_quiet F.plain_extend_loop _,C _ _ _ (d.at λo e=>q a o (ags r) e) (M.at λo e=>q l o (ags D) e) q u)
theorem oA{l:Addr}{items:Array Value}(D:A.handled=none)(r:l≠a)(S:Addr)(t:s.heap.IsRevIter a l ((items.size:Int) - 1))(B:s.heap.IsList l items)(j:S≠a)(h:S≠l)
  (p:s.heap.get? S=some { cls:=.type "list",data:=.seq #[] })
  (E:∀h' tk c g,(∀b o,b≠S->b≠a->s.heap.get? b=some o->h'.get? b=some o)->h'.get? S=some { cls:=.type "list",dict:=none,data:=.seq c g,slots:=#[] } ->
   ItemsOf (λi v=>items[items.size - 1 - i]?=some v) c items.size->R (.ok (.ret .none)) { s with heap:=h',toks:=tk })(z:items.size<=sizeLine):
  wpAny (model prog w) A.in1 (Builtin.«list.__init__» ([.ref S,.ref a],[]))
   (λy m=>match y with | .done f=>R (.ok f) m | .again g=>g.quiet=true/\codeAny (model prog w) A g R m) (λe m=>R (.error e) m) s:=by
 show wpAny _ _ (do let q <-Builtin.List.listItems (.ref S);Builtin.List.listUpdate (.ref S) (λ_=>#[]);letGo q.toList.reverse;Builtin.List.listExtendWith (.ref S) (.ref a) .none) _ _ s;refine wpAny_bind ?_;unfold Builtin.List.listItems;refine wpAny_bind (wpAny_seqItems p rfl (wpAny_pure ?_));show wpAny _ _ (updateSeq S (λ_=>#[]) >>= λ_=>letGo (#[]:Array Value).toList.reverse >>= λ_=>Builtin.List.listExtendWith (.ref S) (.ref a) .none) _ _ s;refine wpAny_bind (wpAny_updateSeq p rfl ?_);have F:=Heap.get?_update_self (Obj.mapSeq (λ_=>(#[]:Array Value))) p rfl;have d:∀b o,b≠S->s.heap.get? b=some o->(s.heap.update S (Obj.mapSeq (λ_=>(#[]:Array Value)))).get? b=some o:=
  λb o n e=>(Heap.get?_update_other _ _ (ags n)).trans e
 refine wpAny_bind (wpAny_letGo ?_);refine qK D r S .none _ (t.at λo e=>d a o (ags j) e) (B.at λo e=>d l o (ags h) e) j h F (λh' tk c g C x k=>?_) z;exact E h' tk c g (λb o n u e=>C b o n u (d b o n e)) x k
end
theorem xH{Q:Value->Shared->Prop}{l:Addr}{items:Array Value}(y:A.handled=none)(p:l≠a)(g:s.heap.IsRevIter a l ((items.size:Int) - 1))(r:s.heap.IsList l items)(u:items.size<=sizeLine)
  (B:∀h' tk c k,(∀b o,b≠a->s.heap.get? b=some o->h'.get? b=some o)->h'.get? s.heap.objs.size=some { cls:=.type "list",dict:=none,data:=.seq c k,slots:=#[] } ->
   ItemsOf (λi v=>items[items.size - 1 - i]?=some v) c items.size->Q (.ref s.heap.objs.size) { s with heap:=h',toks:=tk }):
  wpAny (model prog w) A (call (.type "list") [.ref a]) Q E s:=by
 obtain⟨D,n,_⟩:=id g;obtain⟨C,m,_⟩:=id r
 refine callType_codes (Q₁:=λf d=>f=.ref s.heap.objs.size/\d={ s with heap:=s.heap.push { cls:=.type "list",data:=.seq #[] } }) F.called_list (F.typeCall_list_1 _) F.entry_list_init
  (code_list_new _ (rfl,rfl)) λf d h=>?_
 obtain⟨rfl,rfl⟩:=h
 have t:(s.heap.push { cls:=.type "list",data:=.seq #[] }).get? s.heap.objs.size=some { cls:=.type "list",data:=.seq #[] }:=Heap.get?_push_size _ rfl
 refine((_,t,rfl),F.args_list_init_2 _ _,oA (A:=A.in1) y p _ (g.at λo e=>Heap.get?_push_of_some _ e) (r.at λo e=>Heap.get?_push_of_some _ e) (ahL (Heap.lt_size n)) (ahL (Heap.lt_size m)) t (λh' tk c k x q j=>?_) u);exact(rfl,B h' tk c k (λb o z e=>x b o (aat (Heap.lt_size e)) z (Heap.get?_push_of_some _ e)) q j)
end PySem
namespace L2
open PySem.Spec PyProof.Rows PySem.W
inductive PQ(K:PySem.W.Frag)(Q:VK)(vs:List V)(H1:Hp):Prop
 | mk (p ys:_) (_:vs=[.ref p]) (_:My K H1 p ys) (_:∀l,H1 l=none->Q (.ref l) (upd H1 l (.lst ys.reverse)))
def RW(K:PySem.W.Frag)(b:TA):TE:=λ a H Q=>b a H (PQ K Q)
theorem Gr{a:Expr}{p pos d:Pos}(hc:X.calm=true)(hg:Gl X "list")(Y:X.mg "list" = none)(U:bootBuiltins "list" = some (.type "list"))(A:Gl X "reversed")(z:X.mg "reversed" = none)(w:bootBuiltins "reversed" = some (.type "reversed"))
  (ha:PA X [a] t)(V:starEach [a] X.env=[(pq false (eval a X.env))]:=by rfl)
  (D:starEach [.Call (.Name "reversed" apos) [a] [] d] X.env=(pq false (eval (.Call (.Name "reversed" apos) [a] [] d) X.env))::starEach [] X.env:=by rfl)(x:(backTo pos (starEach [] X.env)).any (·.1)=false:=by rfl):
  PE X (.Call (.Name "list" p) [.Call (.Name "reversed" apos) [a] [] d] [] pos) (RW X.K t):=by
 intro M s L H Q I h;refine wpAny_Call_Name_kw (eO I hg Y U ?_);refine PyProof.Rows.callWith_type1 ?_ D x;rw[D]
 show wpAny _ _ (spliced ((pq false (eval (.Call (.Name "reversed" apos) [a] [] d) X.env))::backTo pos (starEach [] X.env))) _ _ s
 refine Calls.spliced_cons ?_;refine Call_ (eO I A z w (PyProof.Rows.callWith_type1 (Uh (ha d M s L H _ I h) λus j ⟨vs,H1,v,R,S⟩=>?_) V rfl));obtain⟨b,N,e,W,q⟩:=S;subst e;obtain⟨u,rfl,P⟩:=vals1 R;cases P;obtain⟨g,C,n,T⟩:=v.list W;have hl:=C.length;obtain⟨ob,y,J,F,G⟩:=id n.isList;have B:b<j.heap.objs.size:=Heap.lt_size y;refine call_reversed_list n.isList ?_;refine Calls.spliced_nil ?_;refine xH (I.ok.hd hc) (l:=b) (items:=g.toArray) (aat B) (_,Heap.get?_push_size _ rfl,rfl,rfl) (n.isList.push _) (by rw[aaA];lia) λh' O f c' Z hS k=>?_;have m:f=g.reverse.toArray:=by
  obtain⟨E,e2⟩:=k;apply Array.ext
  ·rw[E,aaA,aaA,ah1]
  ·intro i r h2;have:=e2 i f[i] (Array.getElem?_eq_getElem r);rw[aaA,ahM,<-List.getElem?_reverse (by rw[E,aaA]at r;exact r)]at this;rw[List.getElem_toArray];exact(aao ((aac _).symm.trans this)).symm
 subst m;refine(.ref _,_,v.laid (t':=O) (o:=.lst N.reverse) (λc o e=>Z c o (aat (Heap.lt_size e)) (Heap.get?_push_of_some _ e)) ?_ (by rw[ah1];exact T,g.reverse,c',C.reverse,hS),rfl,q _ (v.hok.fresh ?_))
 ·show j.heap.objs.size<=(j.heap.push _).objs.size;simp[Heap.push]
 ·show j.heap.objs.size<=(j.heap.push _).objs.size;simp[Heap.push]
end L2
namespace Tw
def Tree(a:List Int):Prop:=2<=a.length/\ht a a.length=0 /\ ∀k,0<k->k<a.length->0<ht a k
inductive ik(n:Nat)(S:Nat):Prop
 | mk (h:_) (_:S=2^h) (_:n<=S) (_:∀j,j<h->2^j<n)
theorem ik.uniq{n :Nat}(a:ik n i)(b:ik n Q):i=Q:=by
 obtain⟨h,rfl,f,d⟩:=a;obtain⟨k,rfl,e,c⟩:=b;rcases agR h k with q|q|q
 ·have:=c h q;lia
 ·rw[q]
 ·have:=d k q;lia
theorem ik.pos{n :Nat}(a:ik n i):1<=i:=by
 obtain⟨h,rfl,_⟩:=a;exact Nat.one_le_two_pow
theorem ik.le{n :Nat}(a:ik n i)(h:n<=4096):i<=4096:=by
 obtain⟨k,rfl,c,b⟩:=a;rcases aaq 12 k with q|q
 ·have:=b 12 q;lia
 ·exact age (aix (by decide) q) (by decide)
def NodeOk(S st a n e:Nat):Prop:=1<=n/\S<=n*2^e/\(n+1)*2^e<=S+a/\(1<n->S<=n / 2*2^(e+1)/\(n / 2+1)*2^(e+1)<=2*S/\(n / 2*2^(e+1)<S+st\/S+a<(n / 2+1)*2^(e+1)))
def Chain(S st a:Nat):List Nat->Nat->Nat->Prop
 | [],x,y=>x=y
 | n::r,x,y=>∃e,n*2^e=x/\NodeOk S st a n e/\Chain S st a r ((n+1)*2^e) y
theorem Chain.append{S st a:Nat}:∀{l m:List Nat}{x y z:Nat},Chain S st a l x y->Chain S st a m y z->Chain S st a (l++m) x z
 | [],m,x,y,z,h,k=>by
  cases h;exact k
 | n::r,m,x,y,z,h,k=>by
  obtain⟨e,d,c,b⟩:=h;exact(e,d,c,b.append k)
theorem Chain.one{st n e:Nat}(h:NodeOk i st Q n e):Chain i st Q [n] (n*2^e) ((n+1)*2^e):=(e,rfl,h,rfl)
structure Vw(S st sp e low high:Nat)(ls rs:List Nat):Prop where
 lo1:S+st<=low*2^e
 lo2:low*2^e<S+st+2^e
 hi1:high*2^e<=S+sp
 hi2:S+sp<high*2^e+2^e
 le:low<=high
 left:Chain S st sp ls (S+st) (low*2^e)
 right:Chain S st sp rs.reverse (high*2^e) (S+sp)
theorem Vw.start{st :Nat}(h:st<=i):Vw n st i 0 (n+st) (n+i) [] []:=by
 exists by lia,by lia,by lia,by lia,by lia,?_
 ·show n+st=(n+st)*2^0;lia
 ·show (n+i)*2^0=n+i;lia
theorem Ds{e n:Nat}(c:2^i<=n*2^e)(b:n*2^e<2*2^i)(a:1<n):e<i:=by
 rcases aaq e i with q|q
 ·exact q
 ·exfalso;have:2^i<=2^e:=aix (by decide) q;have:2*2^e<=n*2^e:=agn _ a;lia
theorem NK{e m:Nat}(d:e<n)(a:2^n<=(2*m+1)*2^e):2^n<=m*2^(e+1):=by
 have c:2^n=2^(n - e - 1)*2^(e+1):=by
  rw[<-aju];congr 1;lia
 rw[c]at a ⊢;refine agn _ ?_;rw[agI]at a;have b:2^(n - e - 1)*(2^e*2)=(2*2^(n - e - 1))*2^e:=by
  rw[ago (2^e) 2,<-agZ,ago _ 2]
 rw[b]at a;have:=Nat.le_of_mul_le_mul_right a (agl e);lia
theorem Vw.leftOdd{st e a:Nat}{f:List Nat}(c:Vw n st i e Q a q f)(g:∃h,n=2^h)(r:i<=n)(x:1<=n)(d:Q<a)(w:Q%2=1):Chain n st i (q++[Q]) (n+st) ((Q+1)*2^e):=by
 obtain⟨h,b⟩:=g;obtain⟨m,rfl⟩:∃m,Q=2*m+1:=(Q / 2,by lia);have v:0<2^e:=agl e;have u:(2*m+1+1)*2^e<=a*2^e:=agn _ d;have t:=c.lo1;have s:=c.lo2;have y:=c.hi1;have p:(2*m+1) / 2=m:=by lia
 have l:m*2^(e+1)=2*(m*2^e):=by rw[agI,<-agZ,ago]
 have k:(2*m+1)*2^e=2*(m*2^e)+2^e:=by rw[ahj,agZ,ahk]
 have A:(2*m+1+1)*2^e=2*(m*2^e)+2^e+2^e:=by rw[ahj,k,ahk]
 have z:(m+1)*2^(e+1)=2*(m*2^e)+2*2^e:=by rw[ahj,l,ahk,agI];lia
 refine c.left.append (.one (by lia,by lia,by lia,λj=>?_));rw[p];have ht:e<h:=by
  refine Ds (n:=2*m+1) ?_ ?_ j
  ·rw[<-b];lia
  ·rw[<-b];lia
 have o:=NK (m:=m) ht (by rw[<-b];lia);rw[<-b]at o;exact(o,by lia,.inl (by lia))
theorem Vw.rightOdd{st e b:Nat}{f:List Nat}(c:Vw n st i e Q b q f)(k:∃h,n=2^h)(u:i<=n)(A:1<=n)(v:Q<b)(z:b%2=1):Chain n st i (f++[b - 1]).reverse ((b - 1)*2^e) (n+i):=by
 obtain⟨m,rfl⟩:∃m,b=2*m+1:=(b / 2,by lia);have y:0<2^e:=agl e;have x:Q*2^e<=(2*m)*2^e:=agn _ (by lia);have g:=c.lo1;have C:=c.hi1;have B:=c.hi2;have w:1<=Q:=by
  rcases aea Q with a|a
  ·rw[a,aib]at g;lia
  ·exact a
 have t:m*2^(e+1)=2*(m*2^e):=by rw[agI,<-agZ,ago]
 have F:(2*m+1)*2^e=2*(m*2^e)+2^e:=by rw[ahj,agZ,ahk]
 have E:(2*m)*2^e=2*(m*2^e):=by rw[agZ]
 have D:(m+1)*2^(e+1)=2*(m*2^e)+2*2^e:=by rw[ahj,t,ahk,agI];lia
 have s:2*m+1 - 1=2*m:=by lia
 have r:2*m / 2=m:=by lia
 have j:=c.right;rw[agT,s];refine Chain.append (l:=[2*m]) (.one (by lia,by lia,by lia,λo=>?_)) j;rw[r];obtain⟨h,d⟩:=k;have ht:e<h:=by
  refine Ds (n:=2*m) ?_ ?_ o
  ·rw[<-d];lia
  ·rw[<-d];lia
 have p:2*n=2^(h - e)*2^(e+1):=by
  rw[d,<-aju,ago,<-agI];congr 1;lia
 refine(by lia,?_,.inr (by lia));rw[p];refine agn _ ?_;have:m*2^(e+1)<2^(h - e)*2^(e+1):=by lia
 have:=Nat.lt_of_mul_lt_mul_right this;lia
theorem Vw.step{st e a:Nat}{g:List Nat}(c:Vw n st i e Q a q g)(r:∃h,n=2^h)(d:i<=n)(s:1<=n)(f:Q<a):
  Vw n st i (e+1) ((Q+Q%2) / 2) ((a - a%2) / 2) (if Q%2=1 then q++[Q]else q) (if a%2=1 then g++[a - 1]else g):=by
 have w:=c.lo1;have v:=c.lo2;have A:=c.hi1;have y:=c.hi2;have x:0<2^e:=agl e;have j:2^(e+1)=2*2^e:=by rw[agI,ago]
 have b:∀m,m*2^(e+1)=(2*m)*2^e:=λm=>by rw[j,<-agZ,ago m 2]
 have k:2*((Q+Q%2) / 2)=Q+Q%2:=by lia
 have l:2*((a - a%2) / 2)=a - a%2:=by lia
 have p:(Q+Q%2)*2^e=Q*2^e+(Q%2)*2^e:=ahj ..;have o:(a - a%2)*2^e+(a%2)*2^e=a*2^e:=by
  rw[<-ahj];congr 1;lia
 have u:(Q%2)*2^e=if Q%2=1 then 2^e else 0:=by
  split
  ·rename_i z;rw[z,ahk]
  ·rename_i z;rw[show Q%2=0 from by lia,aib]
 have t:(a%2)*2^e=if a%2=1 then 2^e else 0:=by
  split
  ·rename_i z;rw[z,ahk]
  ·rename_i z;rw[show a%2=0 from by lia,aib]
 exists ?_,?_,?_,?_,by lia,?_
 ·rw[b,k,p];lia
 ·rw[b,k,p,j,u];split <;> lia
 ·rw[b,l];lia
 ·rw[b,l,j];rw[t]at o;split at o <;> lia
 ·rw[b,k];split
  ·rename_i z;rw[z];exact c.leftOdd r d s f z
  ·rename_i z;rw[show Q%2=0 from by lia,aic];exact c.left
 ·rw[b,l];split
  ·rename_i z;rw[z];exact c.rightOdd r d s f z
  ·rename_i z;rw[show a%2=0 from by lia,ag7];exact c.right
theorem Vw.fin{st e a:Nat}{b:List Nat}(c:Vw n st i e Q a q b)(h:a<=Q):Chain n st i (q++b.reverse) (n+st) (n+i):=by
 have:Q=a:=air c.le h;subst this;exact c.left.append c.right
def Bm:Nat->Nat->Nat->List Nat->List Nat->List Nat
 | 0,_,_,d,c=>d++c.reverse
 | f+1,b,a,d,c=>if b<a then Bm f ((b+b%2) / 2) ((a - a%2) / 2) (if b%2=1 then d++[b]else d) (if a%2=1 then c++[a - 1]else c)else d++c.reverse
theorem Nj{f :Nat}{a:List Nat}(h:i<=n):Bm f n i q a=q++a.reverse:=by
 cases f with
 | zero=>rfl
 | succ f =>
  unfold Bm;rw[if_neg (by lia)]
theorem vm{S st g:Nat}(k:∃h,S=2^h)(d:g<=S)(l:1<=S):∀(f e b a:Nat) (j i:List Nat),Vw S st g e b a j i->a - b<=f->Chain S st g (Bm f b a j i) (S+st) (S+g)
 | 0,e,b,a,j,i,c,h=>c.fin (by lia)
 | f+1,e,b,a,j,i,c,h=>by
  unfold Bm;by_cases q:b<a
  ·rw[if_pos q];exact vm k d l f (e+1) _ _ _ _ (c.step k d l q) (by lia)
  ·rw[if_neg q];exact c.fin (by lia)
def cover(S st a:Nat):List Nat:=Bm (a - st) (S+st) (S+a) [] []
theorem tQ{st :Nat}(b:∃h,n=2^h)(h:st<=i)(a:i<=n)(c:1<=n):Chain n st i (cover n st i) (n+st) (n+i):=
 vm b a c _ 0 _ _ _ _ (.start h) (by lia)
end Tw
namespace PySem
open PyProof.Rows
namespace F
end F
end PySem
namespace L2
open PySem.Spec PyProof.Rows
theorem Qj(a b:Nat):Builtin.Range.rangeSize a b (-1)=((a - b:Nat):Int):=by
 unfold Builtin.Range.rangeSize;rw[if_neg (by decide),show (- -1:Int)=1 from rfl,aiW];split <;> lia
theorem GK{a b:Nat}(d:a<536870912)(c:b<536870912):Builtin.Range.small a b (-1)=true:=by
 unfold Builtin.Range.small Builtin.Range.rangeFitsLong;rw[Qj];have e:(2:Int)^63=9223372036854775808:=by decide
 rw[e,if_neg (by decide)];refine iZ (iZ (iZ (iZ (iZ (decide_eq_true ?_) (decide_eq_true ?_)) (iZ (decide_eq_true ?_) (decide_eq_true ?_))) (by decide)) (iZ (decide_eq_true ?_) (decide_eq_true ?_))) ?_
 ·lia
 ·lia
 ·lia
 ·lia
 ·lia
 ·lia
 ·rw[ahh];exact .inr (iZ (decide_eq_true (by lia)) (decide_eq_true (by lia)))
inductive Nr(R:It->Hp->Prop)(vs:List V)(H1:Hp):Prop
 | mk (a b:Nat) (_:vs=[.int (a:Int),.int (b:Int),.int (-1)]) (_:a<536870912) (_:b<536870912) (_:R (WR a (-1) (a - b)) H1)
def Rc(b:TA):TI:=λ a H R=>b a H (Nr R)
theorem Ge{a b c:Expr}{p pos:Pos}(F:Gl X "range")(E:X.mg "range" = none)(J:PA X [a,b,c] t)(D:starEach [a,b,c] X.env=[(pq false (eval a X.env)),(pq false (eval b X.env)),(pq false (eval c X.env))]:=by rfl)
  (j:starEach [b,c] X.env=[(pq false (eval b X.env)),(pq false (eval c X.env))]:=by rfl):PI X tg (.Call (.Name "range" p) [a,b,c] [] pos) (Rc t):=by
 intro u s n H R I h;refine Call_ (eO I F E boot_range (PyProof.Rows.callWith_type1 (Uh (J pos u s n H _ I h) λO g ⟨N,v,M,w,A⟩=>?_) (by rw[D,j]) (by rw[j];rfl)));obtain⟨x,y,e,C,B,q⟩:=A;subst e;cases w with
 | cons r i =>
  cases i with
  | cons z i =>
   cases i with
   | cons m i =>
    cases i;obtain⟨d,rfl⟩:=r;obtain⟨k,rfl⟩:=z;obtain⟨f,rfl⟩:=m;refine call_range_3 (by decide) ?_ (.inl (PyProof.noPylong_small (by decide)));refine wpAny_pyIter_range (IsRange.new ..) (GK C B) ?_
    have l:Inv X u n v { g with heap:=g.heap.push { cls:=.type "range",data:=.fields #[.int x d,.int y k,.int (-1) f] },toks:=g.toks }:=M.kept λb o e=>Heap.get?_push_of_some _ e
    refine((g.heap.push { cls:=.type "range",data:=.fields #[.int x d,.int y k,.int (-1) f] }).objs.size,[(g.heap.push { cls:=.type "range",data:=.fields #[.int x d,.int y k,.int (-1) f] }).objs.size],_,_,v,rfl,
     l.kept (t':=g.toks) λb o e=>Heap.get?_push_of_some _ e,sI _ x (-1) (x - y),?_,λb G=>?_,q)
    ·have L:(x:Int)+((0:Nat):Int)*(-1)=x:=by lia
     have K:((x - y:Nat):Int) - ((0:Nat):Int)=Builtin.Range.rangeSize x y (-1):=by rw[Qj];lia
     show IsRangeIter _ _ ((x:Int)+((0:Nat):Int)*(-1)) (((x - y:Nat):Int) - ((0:Nat):Int)) (-1);rw[L,K];exact Heap.get?_push_size _ rfl
    ·have e:b=(g.heap.push { cls:=.type "range",data:=.fields #[.int x d,.int y k,.int (-1) f] }).objs.size:=by simpa using G
     subst e;exact l.fpOk (aad _) (l.hok.fresh (aad _))
end L2
namespace Tw
def NI(x:V):Prop:=x=.non \/ ∃i,x=.int i
def ym:V->V->V
 | .non,y=>y
 | .int a,.int b=>.int (if b<a then b else a)
 | x,_=>x
theorem yE(y:V):ym .non y=y:=by cases y <;> rfl
theorem Lj{x y:V}(b:NI x)(a:NI y):NI (ym x y):=by
 rcases b with rfl|⟨i,rfl⟩
 ·rw[yE];exact a
 ·rcases a with rfl|⟨j,rfl⟩
  ·exact .inr (i,rfl)
  ·exact .inr (_,rfl)
def Cp(a:List Int)(i:Nat):V:=match a[i]? with|some c=>.int c|none=>.non
theorem vN{i:Nat}{c:Int}(h:d[i]?=some c):Cp d i=.int c:=by
 unfold Cp;rw[h]
theorem Gw{i:Nat}(h:d.length<=i):Cp d i=.non:=by
 unfold Cp;rw[agY h]
structure jk(ns:List Int)(S k:Nat)(xs:List V):Prop where
 len:xs.length=2*S
 zero:xs[0]?=some .non
 leaf:∀i,i<S->xs[S+i]?=some (Cp ns i)
 node:∀j,k<=j->1<=j->j<S -> ∃x y,xs[2*j]?=some x/\xs[2*j+1]?=some y/\xs[j]?=some (ym x y)
 ni:∀x∈xs,NI x
theorem jk.start(k:1<=n)(b:d.length<=n):jk d n n (aaF n V.non++d.map V.int++aaF (n - d.length) V.non):=by
 refine(?_,?_,λi c=>?_,λj g f e=>by lia,λx a=>?_)
 ·simp only[aaf,abD,aaa];lia
 ·rw[aa5,aax (by rw[abD];lia),agM,if_pos (by lia)]
 ·rw[aa5,aar (by rw[abD];lia),abD,agg];by_cases h:i<d.length
  ·rw[aax (by rw[aaa];exact h),aah,aac h,vN (aac h)];rfl
  ·rw[aar (by rw[aaa];lia),aaa,agM,if_pos (by lia),Gw (by lia)]
 ·rcases abd.mp a with a|a
  ·rcases abd.mp a with a|a
   ·exact .inl (ag4 a)
   ·obtain⟨i,_,rfl⟩:=aaT.mp a;exact .inr (i,rfl)
  ·exact .inl (ag4 a)
theorem jk.step{k:Nat}{xs:List V}{x y:V}(h:jk d n (k+1) xs)(A:1<=k)(w:k<n)(m:xs[2*k]?=some x)(l:xs[2*k+1]?=some y):jk d n k (xs.set k (ym x y)):=by
 have o:=h.len;have f:∀j,j≠k->(xs.set k (ym x y))[j]?=xs[j]?:=λj p=>ahr (ags p);refine(by rw[ai6];exact o,?_,λi q=>?_,λj a b c=>?_,λz g=>?_)
 ·rw[f 0 (by lia)];exact h.zero
 ·rw[f (n+i) (by lia)];exact h.leaf i q
 ·by_cases e:j=k
  ·subst e;exists x,y,?_,?_
   ·rw[f (2*j) (by lia)];exact m
   ·rw[f (2*j+1) (by lia)];exact l
   ·exact ahb (by lia)
  ·obtain⟨u,v,t,s,r⟩:=h.node j (by lia) b c;exists u,v,?_,?_
   ·rw[f (2*j) (by lia)];exact t
   ·rw[f (2*j+1) (by lia)];exact s
   ·rw[f j e];exact r
 ·rcases List.mem_or_eq_of_mem_set g with g|rfl
  ·exact h.ni z g
  ·exact Lj (h.ni x (aag m)) (h.ni y (aag l))
theorem Ht{xs:List V}{j:Nat}{x:V}(h:xs[j]?=some x):UT xs (j:Int)=some x:=kh h
def wz(d:List Int)(a b:Nat)(M:Int):Prop:=(∃i,a<=i/\i<b/\d[i]?=some M) /\ ∀i c,a<=i->i<b->d[i]?=some c->M<=c
theorem wz.join{a b c:Nat}{N:Int}(h:wz d a b m)(k:wz d b c N)(v:a<=b)(u:b<=c):wz d a c (if N<m then N else m):=by
 obtain⟨⟨i,r,y,p⟩,s⟩:=h;obtain⟨⟨j,w,o,n⟩,l⟩:=k;constructor
 ·split
  ·exact(j,by lia,o,n)
  ·exact(i,r,by lia,p)
 ·intro t x g f e;rcases aaq t b with q|q
  ·have:=s t x g q e;split <;> lia
  ·have:=l t x q f e;split <;> lia
theorem jk.least{b:List Int}{S:Nat}{xs:List V}(h:jk b S 1 xs)(k:b.length<=S):∀e n a:Nat,n*2^e=S+a->a+2^e<=b.length->1<=n -> ∃M,xs[n]?=some (.int M)/\wz b a (a+2^e) M
 | 0,n,a,d,j,g=>by
  rw[ahN]at j;rw[ahN,Nat.mul_one]at d;have f:b[a]?=some b[a]:=aac (by lia);have:=h.leaf a (by lia);rw[<-d,vN f]at this;refine(_,this,(a,aad _,by lia,f),λi c B A e=>?_);have:i=a:=by lia
  subst this;rw[f]at e;cases e;exact ai8 _
 | e+1,n,a,d,j,g=>by
  have C:0<2^e:=agl e;have o:2^(e+1)=2*2^e:=by rw[agI,ago]
  rw[o]at d j;have p:2*n*2^e=S+a:=by rw[<-d,<-agZ,ago n 2]
  have w:(2*n+1)*2^e=S+(a+2^e):=by rw[ahj,p,ahk];lia
  have s:n<S:=by
   rcases aaq n S with z|z
   ·exact z
   ·exfalso;have:S*(2*2^e)<=n*(2*2^e):=agn _ z;have:2*S<=S*(2*2^e):=by
     rw[ago 2 S];exact aiD _ (by lia)
    lia
  obtain⟨M,v,r⟩:=jk.least h k e (2*n) a p (by lia) (by lia);obtain⟨N,u,q⟩:=jk.least h k e (2*n+1) (a+2^e) w (by lia) (by lia);obtain⟨x,y,m,l,t⟩:=h.node n g g s;rw[v]at m;rw[u]at l;cases m;cases l;exists _,t;have:=r.join q (by lia) (by lia);rw[o,show a+2*2^e=a+2^e+2^e from by lia];exact this
def p6(xs:List V)(n:Nat):Int:=match xs[n]? with|some (.int M)=>M|_=>0
theorem iz{xs:List V}{n:Nat}(h:xs[n]?=some (.int m)):p6 xs n=m:=by
 unfold p6;rw[h]
theorem oO{d:List Int}{S st j:Nat}{xs:List V}(h:jk d S 1 xs)(x:d.length<=S)(s:j<=d.length):∀{l:List Nat}{a b:Nat},Chain S st j l (S+a) (S+b)->b<=j ->
  a<=b/\(∀n∈l,1<=n/\n<2*S/\xs[n]?=some (.int (p6 xs n)))/\(∀v∈l.map (p6 xs),∃i,a<=i/\i<b/\d[i]?=some v) /\ ∀i c,a<=i->i<b->d[i]?=some c -> ∃v∈l.map (p6 xs),v<=c
 | [],a,b,g,_=>by
  have g:S+a=S+b:=g;exact(by lia,nofun,nofun,λi c N w _=>by lia)
 | n::r,a,b,g,P=>by
  obtain⟨e,z,⟨t,T,F,_⟩,A⟩:=g;have O:0<2^e:=agl e;have Q:(n+1)*2^e=S+(a+2^e):=by rw[ahf,z];lia
  rw[Q]at A F;obtain⟨N,w,L,K⟩:=oO h x s A P;obtain⟨M,u,H,G⟩:=h.least x e n a z (by lia) t;have o:=iz u;have R:n<=n*2^e:=Nat.le_mul_of_pos_right _ O;refine(by lia,λk m=>?_,λv f=>?_,λi c J I y=>?_)
  ·rcases aaQ.mp m with rfl|m
   ·exact(t,by lia,by rw[o];exact u)
   ·exact w k m
  ·rw[aay]at f;rcases aaQ.mp f with rfl|f
   ·obtain⟨i,C,B,p⟩:=H;exact(i,C,by lia,by rw[o];exact p)
   ·obtain⟨i,C,B,p⟩:=L v f;exact(i,by lia,B,p)
  ·rcases aaq i (a+2^e)with q|q
   ·exact(M,by rw[aay,o];exact .head _,G i c J q y)
   ·obtain⟨v,E,D⟩:=K i c q I y;exact(v,by rw[aay];exact .tail _ E,D)
theorem jk.kids{xs:List V}(h:jk d n 1 xs)(f:d.length<=n){e m b:Nat}(i:m*2^(e+1)=n+b)(s:b+2^(e+1)<=d.length)(g:1<=m):
  ∃M N,xs[2*m]?=some (.int M)/\xs[2*m+1]?=some (.int N)/\wz d b (b+2^e) M/\wz d (b+2^e) (b+2^(e+1)) N/\p6 xs m=(if N<M then N else M)/\2*m*2^e=n+b/\(2*m+1)*2^e=n+(b+2^e)/\m<n:=by
 have v:0<2^e:=agl e;have u:2^(e+1)=2*2^e:=by rw[agI,ago]
 rw[u]at i s ⊢;have a:2*m*2^e=n+b:=by rw[<-i,<-agZ,ago m 2]
 have p:(2*m+1)*2^e=n+(b+2^e):=by rw[ahj,a,ahk];lia
 have c:m<n:=by
  rcases aaq m n with z|z
  ·exact z
  ·exfalso;have:n*(2*2^e)<=m*(2*2^e):=agn _ z;have:2*n<=n*(2*2^e):=by
    rw[ago 2 n];exact aiD _ (by lia)
   lia
 obtain⟨M,o,r⟩:=h.least f e (2*m) b a (by lia) (by lia);obtain⟨N,l,q⟩:=h.least f e (2*m+1) (b+2^e) p (by lia) (by lia);obtain⟨x,y,k,j,t⟩:=h.node m g g c;rw[o]at k;rw[l]at j;cases k;cases j;refine(M,N,o,l,r,?_,iz t,a,p,c);rw[show b+2*2^e=b+2^e+2^e from by lia];exact q
def Yu(a:List Int)(s x y:Nat)(g:Int)(i:Nat):Prop:=x<=i/\i<y/\(∃c,a[i]?=some c/\c<=g) /\ ∀j c,x<=j->j<y->(if s=0 then j<i else i<j)->a[j]?=some c->g<c
structure xU(ns:List Int)(xs:List V)(S s x y:Nat)(g:Int)(e m b:Nat):Prop where
 at_:m*2^e=S+b
 lo:x<=b
 hi:b+2^e<=y
 one:1<=m
 low:p6 xs m<=g
 out:∀j c,x<=j->j<y->(if s=0 then j<b else b+2^e<=j)->ns[j]?=some c->g<c
theorem xU.hit{xs:List V}{s x y m b:Nat}{g:Int}(h:jk d n 1 xs)(q:d.length<=n)(B:y<=d.length)(C:s<=1)(a:xU d xs n s x y g 0 m b):m=n+b/\Yu d s x y g b:=by
 have t:=a.at_;have r:=a.hi;rw[ahN]at t r;obtain⟨M,w,⟨i,A,p,o⟩,_⟩:=h.least q 0 m b a.at_ (by rw[ahN];lia) a.one;have u:i=b:=by rw[ahN]at p;lia
 subst u;have e:=a.low;rw[iz w]at e;refine(by lia,a.lo,by lia,(M,o,e),λj c l k f v=>a.out j c l k ?_ v);split
 ·rename_i z;rw[if_pos z]at f;exact f
 ·rename_i z;rw[if_neg z]at f;rw[ahN];lia
theorem xU.step{xs:List V}{s x y m b e:Nat}{g:Int}(h:jk d n 1 xs)(H:d.length<=n)(K:y<=d.length)(L:s<=1)(a:xU d xs n s x y g (e+1) m b):
  ∃v,xs[2*m+s]?=some (.int v)/\m<n/\2*m+s<2*n/\(v<=g -> ∃A,xU d xs n s x y g e (2*m+s) A)/\(g<v -> ∃A,xU d xs n s x y g e (2*m+1 - s) A):=by
 have B:=a.hi;have r:=a.lo;have t:=a.one;have O:0<2^e:=agl e;have J:2^(e+1)=2*2^e:=by rw[agI,ago]
 obtain⟨M,N,w,u,G,C,I,F,E,D⟩:=h.kids H a.at_ (by lia) t;have i:=a.low;rw[I]at i;have f:=a.out;rw[J]at B f C;rcases(show s=0\/s=1 by lia)with rfl|rfl
 ·refine(M,w,D,by lia,λq=>(b,F,r,by lia,by lia,by rw[aic,iz w];exact q,λj c p o k l=>f j c p o k l),λq=>(b+2^e,E,by lia,by lia,by lia,?_,λj c p o k l=>?_))
  ·show p6 xs (2*m+1 - 0)<=g;rw[ag7,iz u];split at i <;> lia
  ·rw[if_pos rfl]at k;rcases aaq j b with z|z
   ·exact f j c p o (by rw[if_pos rfl];exact z) l
   ·have:=G.2 j c z k l;lia
 ·refine(N,u,D,by lia,λq=>(b+2^e,E,by lia,by lia,by lia,by rw[iz u];exact q,λj c p o k l=>f j c p o ?_ l),λq=>(b,?_,r,by lia,by lia,?_,λj c p o k l=>?_))
  ·rw[if_neg (by decide)]at k ⊢;lia
  ·rw[ahD];exact F
  ·rw[ahD,iz w];split at i <;> lia
  ·rw[if_neg (by decide)]at k;rcases aaq j (b+2*2^e)with z|z
   ·have:=C.2 j c k z l;lia
   ·exact f j c p o (by rw[if_neg (by decide)];exact z) l
theorem xU.start{xs:List V}{s n a e:Nat}{g:Int}(k:n*2^e=i+a)(h:1<=n)(f:p6 xs n<=g):xU d xs i s a (a+2^e) g e n a:=
 (k,aad _,aad _,h,f,λj c m l b _=>by split at b <;> lia)
theorem tU{S st a:Nat}:∀{l:List Nat}{x y:Nat} (k:Nat),Chain S st a l x y -> ∃z,Chain S st a (l.take k) x z/\Chain S st a (l.drop k) z y
 | l,x,y,0,h=>(x,rfl,h)
 | [],x,y,k+1,h=>(x,rfl,h)
 | n::r,x,y,k+1,h=>by
  obtain⟨e,g,f,d⟩:=h;obtain⟨z,c,b⟩:=tU k d;exact(z,(e,g,f,c),b)
theorem Dw{S st a:Nat}:∀{l:List Nat}{x y:Nat},Chain S st a l x y->x<=y
 | [],x,y,h=>ahg h
 | n::r,x,y,h=>by
  obtain⟨e,c,_,b⟩:=h;have:=Dw b;have:n*2^e<=(n+1)*2^e:=agn _ (agS _);lia
def UV(a:List Int)(n:Nat):List Int:=(agd (n+1)).map λk=>(a.take (32*k)).sum
theorem cZ(a:List Int)(n:Nat):(UV a n).length=n+1:=by simp[UV]
theorem pP{n k:Nat}(h:k<=n):(UV d n)[k]?=some (d.take (32*k)).sum:=by
 have:k<n+1:=by lia
 simp[UV,this]
def jC(bs:List Int)(k:Nat):Int:=((bs.take k).map λb=>ones b 32).sum
theorem tM{bs:List Int}{k:Nat}{b:Int}(h:bs[k]?=some b):jC bs (k+1)=jC bs k+ones b 32:=by
 unfold jC;rw[acI,h];simp[ahC]
def aheads(bs:List Int)(n:Nat):List Int:=(agd (n+1)).map (jC bs)
theorem yh(bs:List Int)(n:Nat):(aheads bs n).length=n+1:=by simp[aheads]
theorem Cq(bs:List Int)(n:Nat):aheads bs (n+1)=aheads bs n++[jC bs (n+1)]:=by
 unfold aheads;rw[agw,aal];rfl
theorem Dz(bs:List Int)(n:Nat):aheads bs n=(agd n).map (jC bs)++[jC bs n]:=by
 unfold aheads;rw[agw,aal];rfl
theorem qC{a:List Int}(h:bc a):∀k:Nat,k<=many a.length->jC (bB a) k=(a.take (32*k)).sum
 | 0,_=>by simp[jC]
 | k+1,b=>by
  rw[tM (jV (by lia)),qC h k (by lia),nZ h k 32 (by lia)];rfl
theorem zF(h:bc d):aheads (bB d) (bB d).length=UV d (many d.length):=by
 rw[bC];unfold aheads UV;refine ahx λk a=>?_;have:=ag9.mp a;exact qC h k (by lia)
def wide(n j:Nat):Nat:=min 32 (n - 32*j)
def yZ(a:List Int)(j:Nat)(m:Int):Prop:=(∃k,32*j<k/\k<=32*j+32/\k<=a.length/\m=ht a k) /\ ∀k,32*j<k->k<=32*j+32->k<=a.length->m<=ht a k
theorem yZ.of(h:bc d){j:Nat}(g:m∈nets (cF d j) (wide d.length j))(b:∀a∈nets (cF d j) (wide d.length j),m<=a):yZ d j (ht d (32*j)+m):=by
 unfold wide at *;constructor
 ·obtain⟨k,f,c,rfl⟩:=Ce.mp g;refine(32*j+k,by lia,by lia,by lia,?_);rw[pG h j k (by lia)]
 ·intro k f c i;have:=b _ (Ce.mpr (k - 32*j,by lia,by lia,rfl));have e:=pG h j (k - 32*j) (by lia);rw[show 32*j+(k - 32*j)=k from by lia]at e;lia
structure Em(ns ls:List Int):Prop where
 len:ls.length=many ns.length
 low:∀j m,ls[j]?=some m->yZ ns j m
def hts(a:List Int)(n:Nat):List Int:=(agd (n+1)).map (ht a)
theorem Tree.pos(t:Tree d){k:Nat}(h:k<=d.length):0<=ht d k:=by
 obtain⟨e,b,a⟩:=t;rcases aea k with rfl|c
 ·rw[jm];decide
 rcases aaq k d.length with q|q
 ·have:=a k c q;lia
 ·have:k=d.length:=by lia
  rw[this,b];decide
def eF(c:List Int)(a b:Nat)(g:Int)(k:Nat):Prop:=a<k/\k<=b/\ht c k<=g /\ ∀i,a<i->i<k->g<ht c i
def jK(c:List Int)(a b:Nat)(g:Int)(k:Nat):Prop:=a<k/\k<=b/\ht c k<=g /\ ∀i,k<i->i<=b->g<ht c i
def cG(c:List Int)(a b:Nat)(g:Int):Prop:=∀i,a<i->i<=b->g<ht c i
theorem qt(h:bc d){j st k:Nat}{g:Int}(e:n<=32):Due (cF d j) st n (g - ht d (32*j)) k ↔ st<k/\k<=n/\ht d (32*j+k)<=g:=by
 unfold Due;constructor
 ·rintro⟨a,b,c⟩;have:=pG h j k (by lia);exact(a,b,by lia)
 ·rintro⟨a,b,c⟩;have:=pG h j k (by lia);exact(a,b,by lia)
theorem first_within(h:bc d){j st k:Nat}{g:Int}(e:n<=32)(hd:Due (cF d j) st n (g - ht d (32*j)) k)(f:∀i,Due (cF d j) st n (g - ht d (32*j)) i->k<=i):eF d (32*j+st) (32*j+n) g (32*j+k):=by
 obtain⟨a,b,c⟩:=(qt h e).mp hd;refine(by lia,by lia,c,λi m l=>?_);rcases aid g (ht d i)with q|q
 ·exact q
 ·have:=f (i - 32*j) ((qt h e).mpr (by lia,by lia,by rw[show 32*j+(i - 32*j)=i from by lia];exact q));lia
theorem last_within(h:bc d){j st k:Nat}{g:Int}(e:n<=32)(hd:Due (cF d j) st n (g - ht d (32*j)) k)(f:∀i,Due (cF d j) st n (g - ht d (32*j)) i->i<=k):jK d (32*j+st) (32*j+n) g (32*j+k):=by
 obtain⟨a,b,c⟩:=(qt h e).mp hd;refine(by lia,by lia,c,λi m l=>?_);rcases aid g (ht d i)with q|q
 ·exact q
 ·have:=f (i - 32*j) ((qt h e).mpr (by lia,by lia,by rw[show 32*j+(i - 32*j)=i from by lia];exact q));lia
theorem tV(h:bc d){j st :Nat}{g:Int}(a:n<=32)(b:∀i,¬Due (cF d j) st n (g - ht d (32*j)) i):cG d (32*j+st) (32*j+n) g:=λi e c=>by
 rcases aid g (ht d i)with q|q
 ·exact q
 ·exact absurd ((qt h a).mpr (by lia,by lia,by rw[show 32*j+(i - 32*j)=i from by lia];exact q)) (b (i - 32*j))
theorem cG.join{a b c:Nat}{g:Int}(h:cG d a b g)(k:cG d b c g):cG d a c g:=λi f e=>by
 rcases aaq b i with q|q
 ·exact k i q e
 ·exact h i f q
theorem cG.empty{a b:Nat}{g:Int}(h:b<=a):cG d a b g:=λi e c=>by lia
theorem Em.none(h:Em d M){i j:Nat}{g:Int}(f:∀t c,i<=t->t<j->M[t]?=some c->g<c){b:Nat}(o:b<=32*j)(n:b<=d.length):cG d (32*i) b g:=λk m l=>by
 have a:=h.len;have ht:(k - 1) / 32<M.length:=by
  rw[a];unfold many;lia
 have e:=aac ht;have q:=f ((k - 1) / 32) _ (by lia) (by lia) e;have p:=(h.low _ _ e).2 k (by lia) (by lia) (by lia);lia
theorem Em.some(h:Em d M){t:Nat}{c g:Int}(e:M[t]?=.some c)(i:c<=g):¬cG d (32*t) (min (32*t+32) d.length) g:=λz=>by
 obtain⟨⟨k,a,f,b,j⟩,_⟩:=h.low t c e;have:=z k a (by lia);lia
theorem eF.after{a b c k:Nat}{g:Int}(h:cG d a b g)(f:eF d b c g k)(o:a<=b):eF d a c g k:=by
 obtain⟨p,n,m,l⟩:=f;refine(by lia,n,m,λi j e=>?_);rcases aaq b i with q|q
 ·exact l i q e
 ·exact h i j q
theorem eF.wider{a b c k:Nat}{g:Int}(f:eF d a b g k)(h:b<=c):eF d a c g k:=(f.1,by have:=f.2.1;lia,f.2.2)
theorem jK.ahead{a b c k:Nat}{g:Int}(h:cG d b c g)(f:jK d a b g k)(o:b<=c):jK d a c g k:=by
 obtain⟨n,p,m,l⟩:=f;refine(n,by lia,m,λi j e=>?_);rcases aaq b i with q|q
 ·exact h i q e
 ·exact l i j q
theorem jK.wider{a b k:Nat}{g:Int}(f:jK d a b g k)(h:n<=a):jK d n b g k:=(by have:=f.1;lia,f.2)
def Gu(a:List Int)(b:Nat)(g:Int)(k:Nat):Prop:=k<b/\ht a k<=g /\ ∀i,k<i->i<b->g<ht a i
def Qu(a:List Int)(b:Nat)(g:Int):Prop:=∀i,i<b->g<ht a i
theorem Rg(h:bc d){k:Nat}(a:k<d.length):(d[k]?=some 1/\ht d (k+1)=ht d k+1)\/(d[k]?=some 0/\ht d (k+1)=ht d k - 1):=by
 have e:=aac a;rcases h _ (acJ a)with z|z
 ·right;rw[z]at e;exact(e,by rw[kJ e];lia)
 ·left;rw[z]at e;exact(e,by rw[kJ e];lia)
end Tw
namespace L2
open PySem.Spec PyProof.Rows
theorem Gg{iter:Expr}{g:List Expr}{pos:Pos}{l j:Value}{d:Env}{R:Result->Shared->Prop}(J:Nat->Shared->Prop)
  (k:∀n a,J n a->wpAny (model prog w) A (pyNext l) (λr u=>match r with
   | none=>R (.ok .next) u
   | some v=>wpAny (model prog w) A (letOwnedTupleGo (.Tuple B i p) l v) (λ_ F=>wpAny (model prog w) A (assign (.Tuple B i p) d v) (λ_ E =>
     wpAny (model prog w) A (forIn g true λc r=>if r=true then do let f <-isTrue c d (eval c d);pure (ForInStep.yield f)else pure (ForInStep.yield r)) (λf t=>if f=true then
      wpAny (model prog w) A (eval o d) (λy D=>wpAny (model prog w) A (call (.builtin "list.append") [j,y]) (λ_ C=>∃m,m<n/\J m C) (notedBy (model prog w) A d λe b=>R (.error e) b) D) (notedBy (model prog w) A d λe b=>R (.error e) b) t
      else ∃m,m<n/\J m t) (notedBy (model prog w) A d λe b=>R (.error e) b) E)
     (notedBy (model prog w) A d λe b=>R (.error e) b) F) (notedBy (model prog w) A d λe b=>R (.error e) b) u) (notedBy (model prog w) A d λe b=>R (.error e) b) a)
  (n:Nat)(h:J n s):codeAny (model prog w) A (.compLoop (.ListComp o [(.Tuple B i p,iter,g,0)] scope pos) 0 l j d) R s:=by
 refine codeAny_loop rfl J (λn a G=>wpAny_noted ?_) n h;rw[compTurn_list];refine wpAny_bind (wpAny_standAt (wpAny_bind (wpAny_mono (k n a G) (λr u z=>?_) λ_ _ q=>q)));cases r with
 | none=>exact wpAny_pure z
 | some v =>
  refine wpAny_bind (wpAny_mono z (λ_ F L=>wpAny_bind (wpAny_mono L (λ_ E K=>wpAny_bind (wpAny_mono K (λf t x=>?_) λ_ _ q=>q)) λ_ _ q=>q)) λ_ _ q=>q);cases f with
  | false=>exact wpAny_pure (rfl,x)
  | true=>exact wpAny_bind (wpAny_bind (wpAny_mono x (λy D I=>wpAny_bind (wpAny_mono I (λ_ C H=>wpAny_pure (wpAny_pure (rfl,H))) λ_ _ q=>q)) λ_ _ q=>q))
structure pM(X:Cx)(x z:Str)(caps:List (Str×Nat))(scope:Scope)(cl:List (Str×Addr)):Prop where
 o:bZ X x caps scope cl
 hz:scope.names.lookup z=some .local
 nd:(x::z::caps.map (·.1)).Nodup
theorem Inv.comp2{x :Str}{h':Heap}{tk:Nat}{m:Str->Option Value}{C:Addr}(I:Inv X π σ H s)(E:pM X x qual G scope y)(P:∀b∈g,gP X π H b)
    (Z:∀b∈g,b<s.heap.objs.size)(M:s.heap.objs.size<=a)(Q:s.heap.objs.size<=C)(a0:a≠C)(L:∀b o,s.heap.get? b=some o->h'.get? b=some o)(hn:h'.Ns C m)(hL:h'.get? a=some { cls:=.type "list",data:=.seq #[] }):
    Inv (bI X (x::qual::G.map (·.1)) scope y C s H g) [] (none::none::fM G σ) (upd H a (.lst [])) { s with heap:=h',toks:=tk }:=by
  have Xz:=I.hok.fresh M;have W:=I.hok.fresh Q;have B:∀d c,(bI X (x::qual::G.map (·.1)) scope y C s H g).env.cells.lookup d=some c->X.env.cells.lookup d=some c:=λd c e=>E.o.cls d c e;have Zm:∀d c,X.env.cells.lookup d=some c->c<s.heap.objs.size:=λd c e=>by
    obtain⟨v,q⟩:=I.cell d c e;exact q.lt
  have up:∀b u,H b=some u->upd H a (.lst []) b=some u:=λb u q=>by rw[aJ (aH q Xz)];exact q
  have ok:(bI X (x::qual::G.map (·.1)) scope y C s H g).Ok:=by
    refine(I.ok.mod,E.o.kind,I.ok.glob,I.ok.blt,Q,λd qual c h1 h2=>I.ok.inj d qual c (B d c h1) (B qual c h2),λd hy=>E.o.has d hy,λd c h=>absurd (show false=true from h) aap,I.ok.hd,I.ok.frames,.inl rfl,λb A=>?_,I.bs,age I.ok.VL I.sz,λb o e A=>?_,λb A hz=>?_,I.stack,I.stkFree)
    · obtain⟨f0,U,T,S,R,f5⟩:=P b A
      exact(aat (aak (Z b A) Q),λd c e=>R d c (B d c e))
    · obtain⟨f0,U,T,S,R,f5⟩:=P b A
      rcases S with qual|qual
      · exact I.ok.noex b o e qual
      · exact absurd (aak (aak (Heap.lt_size e) I.ok.VL) qual) (agf _)
    · obtain⟨f0,U,T,S,R,f5⟩:=P b A
      rcases aaQ.mp (I.stkSub b hz)with qual|qual
      · exact U qual
      · exact T qual
  exists ok,rfl,I.bare,?_,(m,hn,λi d v e1 V e3=>?_),λd c e=>?_,?_,λd c e=>?_,λp hp=>absurd (show p∈([]:List (Addr×Obj))from hp) (by simp),?_
  · exact Un.laid L M Xz
  · cases i with
    | zero=>cases V
    | succ i =>
     cases i with
     | zero=>cases V
     | succ i =>
      have f:(G.map (·.1))[i]?=some d:=e1;have n:(fM G σ)[i]?=some (some v):=V;rw[aah]at f;unfold fM at n;rw[aah]at n;cases F:G[i]? with
      | none=>rw[F]at f;cases f
      | some p =>
        rw[F]at f n;obtain⟨t,j⟩:=p;have ey:t=d:=aao f;subst ey;have N:(σ[j]?).getD none=some v:=aao n;have a1:σ[j]?=some (some v):=by
          cases q:σ[j]? with
          | none=>rw[q]at N;cases N
          | some w=>rw[q]at N;exact congrArg some N
        obtain⟨c1,c2,c3⟩:=E.o.cap t j (aag F);obtain⟨m0,a2,hl⟩:=I.loc;obtain⟨u,r,l⟩:=hl j t v c1 a1 (by rcases c2 with qual|qual;exact .inr (.inl qual);exact .inr (.inr qual));refine(u,r,.inr (c3,?_));rcases l with ⟨k,_⟩|⟨k,c,F,qual⟩
        · have K:X.env.scope.names.lookup t=some .local:=k
          rcases c2 with qual|qual
          · rw[qual]at K;cases K
          · rw[qual]at K;cases K
        · obtain⟨c',J⟩:=E.o.has t c3
          have e4:=E.o.cls t c' J;rw[F]at e4;cases e4;obtain⟨o,O,hd⟩:=qual;exact(c,J,o,L _ _ O,hd)
  · obtain⟨v,o,O,hd⟩:=I.cell d c (B d c e)
    exact(v,o,L _ _ O,hd)
  · show upd H a (.lst []) C=none
    rw[aJ (ags a0)];exact W
  · have Y:=Zm d c (B d c e)
    rw[aJ (aat (aak Y M))];exact I.freeC d c (B d c e)
  · exact I.hok.laid L M (aaP _,[],_,.nil,hL)
  · show (none::none::fM G σ).length=(x::qual::G.map (·.1)).length
    simp[tK]
def zR(K:PySem.W.Frag)(J:It)(d:St)(k:TE)(l:Addr->Hp->Prop)(H:Hp):Prop:=
 ∀D,H D=none -> ∃W:Nat->Nat->List V->Hp->Prop,(∃m,W 0 m [] (upd H D (.lst []))) /\ ∀i m a b,W i m a b ->
  (J.stop i b/\l D b)\/(J.go i b /\ ∀v c,J.Vv i b v c -> ∃g f e,v=.ref g/\Uj K c g [f,e] /\
   k (some f::some e::d) c λy j=>j D=some (.lst a)/\a.length<sizeLine /\ ∃h,h<m/\W (i+1) h (a++[y]) (upd j D (.lst (a++[y]))))
def wJ(K:PySem.W.Frag)(J:It)(e:St)(tt:TT)(n:TE)(o:Addr->Hp->Prop)(H:Hp):Prop:=
 ∀D,H D=none -> ∃W:Nat->Nat->List V->Hp->Prop,(∃m,W 0 m [] (upd H D (.lst []))) /\ ∀i m a d,W i m a d ->
  (J.stop i d/\o D d)\/(J.go i d /\ ∀v h,J.Vv i d v h -> ∃j g f,v=.ref j/\Uj K h j [g,f] /\
   tt (some g::some f::e) h λb l=>if b=true then
   n (some g::some f::e) l λy k=>k D=some (.lst a)/\a.length<sizeLine /\ ∃c,c<m/\W (i+1) c (a++[y]) (upd k D (.lst (a++[y])))else ∃c,c<m/\W (i+1) c a l)
theorem sY{x :Str}{tp pos:Pos}{iter:Expr}{J:It}{tn:Nat->Heap->Prop}{tt:TT}
  {RR:Value->Addr->Result->Shared->Prop}{E:Value->Shared->Prop}(I:Inv X π σ H s)(hc:X.calm=true)(P:pM X x qual G scope y)(T:Turn X.prog X.w X.K (.Tuple [.Name x p,.Name qual apos] n tp) J g a tn)(st:tn 0 s.heap)(hf:∀b∈g,gP X π H b)
  (ht:∀C s1 H1 U5,Ws (bI X (x::qual::G.map (·.1)) scope y C s1 H1 U5) B tt)(he:∀C s1 H1 U5,PE (bI X (x::qual::G.map (·.1)) scope y C s1 H1 U5) e ta)(rd:wJ X.K J (fM G σ) tt ta z H)
  (b5:∀D C s' H' m,Inv X π σ H' s'->s'.heap.Ns C m->gP X π H' C->z D H'->RR (.ref D) C (.ok .next) s'):
  wpAny (model X.prog X.w) X.A (newList []) (λa7 s3=>wpAny (model X.prog X.w) X.A (newFunctionEnv scope X.env.globals y [] X.env.qual none .none (some X.env)) (λa1 s4 =>
   codeAny (model X.prog X.w) X.A (.compStart (.ListComp e [(.Tuple [.Name x p,.Name qual apos] n tp,iter,B,0)] scope pos) 0 (.ref a) a7 { a1 with scope:=relabel scope X.env }) (RR a7 a1.locals) s4) E s3) E s:=by
 have a3:∀b∈g,b<s.heap.objs.size:=λb N=>by
  obtain⟨o,j,_⟩:=T.obj _ _ st b N;exact Heap.lt_size j
 refine wpAny_newObj_type (wpAny_newFunctionEnv P.o.ρ (by intro F hy;simp at hy) (λh1 a2 Y=>?_) P.o.kind);dsimp only at a2 Y ⊢;obtain⟨D,eD⟩:∃D:Nat,D=s.heap.objs.size:=(_,rfl)
 obtain⟨M,Wj⟩:∃f,f=s.heap.push { cls:=.type "list",dict:=none,data:=.seq ([]:List Value).toArray }:=(_,rfl)
 rw[<-Wj]at a2 Y ⊢;rw[<-eD];have hC:M.objs.size=D+1:=by rw[Wj,Heap.size_push,eD]
 have a6:s.heap.objs.size<=M.objs.size:=by rw[hC,eD];exact agS _
 have b6:D≠M.objs.size:=by rw[hC];exact aat (agK _)
 have hk:∀b o,s.heap.get? b=some o->h1.get? b=some o:=λb o j=>by
  refine Y.extBut b o (aat (aak (Heap.lt_size j) a6)) (Heap.get?_push_of_some _ ?_);rw[Wj];exact Heap.get?_push_of_some _ j
 have hL:h1.get? D=some { cls:=.type "list",data:=.seq #[] }:=by
  refine Y.extBut D _ (by lia) (Heap.get?_push_of_some _ ?_);rw[Wj,eD];exact Heap.get?_push_size _ rfl
 have a5:tn 0 h1:=T.keep _ _ _ st λb _ o j=>hk b o j;obtain⟨W,⟨m0,w0⟩,a8⟩:=rd D (I.hok.fresh (by lia));have a0:codeAny (model X.prog X.w) X.A (.compLoop (.ListComp e [(.Tuple [.Name x p,.Name qual apos] n tp,iter,B,0)] scope pos) 0 (.ref a) (.ref D) (compEnvC scope y M.objs.size X.env)) (RR (.ref D) M.objs.size) { s with heap:=h1,toks:=s.toks+([]:List (Str×Value)).length }:=by
  refine Gg (λL s'=>∃i Z S R H',Inv (bI X (x::qual::G.map (·.1)) scope y M.objs.size s H g) [] (S::R::fM G σ) H' s'/\tn i s'.heap/\(∀b∈g,H' b=none)/\W i L Z H') ?_ m0
   (0,[],none,none,_,I.comp2 P hf a3 (by lia) (by lia) b6 hk a2 hL,a5,λb N=>?_,w0)
  ·rintro L s3 ⟨i,Z,S,R,H3,I3,a4,Wr,w3⟩;have WQ:∀{H':Hp}{pi:List (Addr×Obj)},(∀b∈g,H' b=none)->(∀k∈pi,k.1∉g) -> ∀b∈g,gP (bI X (x::qual::G.map (·.1)) scope y M.objs.size s H g) pi H' b:=λ{H' pi} hn hp b N=>by
    obtain⟨f0,f1,f2,f3,f4,f5⟩:=hf b N;refine(hn b N,?_,λqual=>?_,.inl N,λF c j=>f4 F c (P.o.cls F c j),λk b4 qual=>?_)
    ·exact aat (aak (a3 b N) a6)
    ·rcases aaQ.mp (I.stkSub b qual)with q|q
     ·exact f1 q
     ·exact f2 q
    ·exact hp k (by simpa [bI]using b4) (by rw[qual];exact N)
   have clear:∀{α:Type}{t:Sem α}{Q:α->Shared->Prop}{E':Value->Shared->Prop}{s:Shared},wpAny (model X.prog X.w) X.A t Q (λ_ _=>False) s->wpAny (model X.prog X.w) X.A t Q E' s:=λh=>wpAny_mono h (λ_ _ qual=>qual) λ_ _ qual=>qual.elim;rcases a8 i L Z H3 w3 with ⟨a9,qf⟩|⟨go,b0⟩
   ·refine Uh (T.done (bI X (x::qual::G.map (·.1)) scope y M.objs.size s H g) rfl rfl rfl hc i [] s3 _ H3 _ I3 (WQ Wr (by simp)) a4 a9) λr s4 ⟨hr,I4⟩=>?_;subst hr;obtain⟨m4,Yq,_⟩:=id I4.loc;refine b5 D _ s4 H3 m4 (I.comped hf I4) Yq ?_ qf;have gC:s.heap.objs.size<=M.objs.size:=by lia
    exact I.fpOk gC I4.free
   ·refine clear (Uh (T.item (bI X (x::qual::G.map (·.1)) scope y M.objs.size s H g) rfl rfl rfl hc i [] s3 _ H3 (λ_ _=>False) I3 (WQ Wr (by simp)) a4 go) λr s4 ⟨u,hr,h4⟩=>?_);subst hr;refine clear (Uh h4 λ_ s5 ⟨v,H5,I5,r5,y5,Vz,Xu⟩=>?_);have Xv:=I5.pinned (WQ Xu (by simp)) (T.obj _ _ Vz);obtain⟨l,v1,v2,ev,b3,q6⟩:=b0 v _ y5;subst ev;have hg:PG (bI X (x::qual::G.map (·.1)) scope y M.objs.size s H g) (.Tuple [.Name x p,.Name qual apos] n tp) (R4 X.K 2 (Ng (gB 0) (Ng (gB 1) R3))):=
     nA hc (bW (lg (i:=0) P.nd rfl (ag1 (lookup_relabel_local P.o.hx)) (ahT (lookup_relabel_local P.o.hx))) (bW (lg (i:=1) P.nd rfl (ag1 (lookup_relabel_local P.hz)) (ahT (lookup_relabel_local P.hz))) jl))
    refine clear (Uh (hg _ s5 (S::R::fM G σ) H5 (.ref l) u (λ b1 M=>b1=some v1::some v2::fM G σ/\M=H5) Xv r5 (l,[v1,v2],rfl,b3,rfl,v1,[v2],rfl,v2,[],rfl,rfl,(show _/\_ from (rfl,rfl)))) λ_ s6 ⟨b9,H6,I6,e6,e7⟩=>?_);subst e6 e7;have O:∀{H7:Hp}{s7:Shared}{S R:Option V}{zs:List V}{U:Nat},Inv (bI X (x::qual::G.map (·.1)) scope y M.objs.size s H g) ([]++rK g s5.heap) (S::R::fM G σ) H7 s7->U<L->W (i+1) U zs H7 ->
      ∃m,m<L /\ ∃i Z S R H',Inv (bI X (x::qual::G.map (·.1)) scope y M.objs.size s H g) [] (S::R::fM G σ) H' s7/\tn i s7.heap/\(∀b∈g,H' b=none)/\W i m Z H':=λ{H7 s7 S R zs U} I7 hm w7=>by
     refine(U,hm,i+1,zs,S,R,H7,I7.ξ,T.keep _ _ _ Vz λb N o j=>(I7.pin (pq b o) (aaw _ (aaw _ (fV N j)))).1,λb N=>?_,w7);obtain⟨o,j,d⟩:=T.obj _ _ Vz b N;exact(I7.pin (pq b o) (aaw _ (aaw _ (fV N j)))).2.1
    refine clear (Uh (ht M.objs.size s H g _ s6 _ H6 _ I6 q6) λok s7 ⟨H7,I7,q7⟩=>?_);cases ok with
    | false =>
     obtain⟨U,hm,w7⟩:=(show ∃U,U<L/\W (i+1) U Z H7 from q7);exact O I7 hm w7
    | true =>
     refine clear (Uh (he M.objs.size s H g _ s7 _ H7 _ I7 q7) λxv s8 ⟨F,H8,I8,r8,Zn,b2,U,hm,w8⟩=>?_);refine clear (Uh (b7 _ s8 _ H8 (.ref D) [F] (.ref D) [xv] (λ_ H9=>H9=upd H8 D (.lst (Z++[F]))) I8 rfl (.cons r8 .nil) (D,Z,F,rfl,rfl,Zn,b2,rfl)) λ_ s9 ⟨_,H9,I9,_,e9⟩=>?_);subst e9;exact O I9 hm w8
  ·rw[aJ (by rw[eD];exact aat (a3 b N))];exact(hf b N).1
 exact codeAny_compStart_list a0 (T.self _ 0 _ _ _ a5 a0)
theorem Fp{x :Str}{u pos:Pos}{iter:Expr}{J:It}{B:Nat->Heap->Prop}
  {RR:Value->Addr->Result->Shared->Prop}{E:Value->Shared->Prop}(I:Inv X π σ H s)(Z:X.calm=true)(K0:pM X x qual G scope y)(T:Turn X.prog X.w X.K (.Tuple [.Name x p,.Name qual apos] n u) J g a B)(st:B 0 s.heap)(V:∀b∈g,gP X π H b)
  (Y:∀C S r U5,PE (bI X (x::qual::G.map (·.1)) scope y C S r U5) e ta)(U:zR X.K J (fM G σ) ta z H)
  (t:∀D C q H' m,Inv X π σ H' q->q.heap.Ns C m->gP X π H' C->z D H'->RR (.ref D) C (.ok .next) q):
  wpAny (model X.prog X.w) X.A (newList []) (λk R=>wpAny (model X.prog X.w) X.A (newFunctionEnv scope X.env.globals y [] X.env.qual none .none (some X.env)) (λj Q =>
   codeAny (model X.prog X.w) X.A (.compStart (.ListComp e [(.Tuple [.Name x p,.Name qual apos] n u,iter,[],0)] scope pos) 0 (.ref a) k { j with scope:=relabel scope X.env }) (RR k j.locals) Q) E R) E s:=
 sY I Z K0 T st V (λ_ _ _ _=>fL) Y (λD hD=>by
  obtain⟨W,M,l⟩:=U D hD;refine(W,M,λi m F r L=>?_);rcases l i m F r L with h|⟨go,o⟩
  ·exact .inl h
  ·refine .inr (go,λv H2 f=>?_);obtain⟨d,O,N,c,P,h⟩:=o v H2 f;exists d,O,N,c,P;unfold KJ
   set_option simprocs false in dsimp only
   rw[if_pos rfl];exact h) t
def Iz(K:PySem.W.Frag)(a:List (Str×Nat))(b:TE)(σ:St)(Q:VK):It->Hp->Prop:=λJ c=>zR K J (fM a σ) b (λD d=>Q (.ref D) d) c
def Rz(K:PySem.W.Frag)(b:TI)(a:List (Str×Nat))(c:TE):TE:=λ σ H Q=>b σ H (Iz K a c σ Q)
theorem Bk{i:Nat}{y x :Str}{r g pos d:Pos}{R:List (Str×Addr)}{iter:Expr}{M:TI}(hN:X.N.Nodup)(XC:X.N[i]?=some y)(P:X.env.scope.names.lookup y=some .local)(hc:X.calm=true)
  (t:pM X x qual G scope R)(hi:PI X (.Tuple [.Name x p,.Name qual apos] n r) iter M)
  (he:∀C O H1 U5,PE (bI X (x::qual::G.map (·.1)) scope R C O H1 U5) e ta)
  (E:swapsWith (.ListComp e [(.Tuple [.Name x p,.Name qual apos] n r,iter,[],0)] scope pos) (some (.Name y g)) d.line X.env=pure true:=by rfl)(W:∀x,foldedSetIterable iter X.env x=pure x:=by intro _;rfl):
  PS X (.Assign [.Name y g] (.ListComp e [(.Tuple [.Name x p,.Name qual apos] n r,iter,[],0)] scope pos) d) (Ib (Rz X.K M G ta) (gB i)):=by
 intro π s σ H S I h;rw[exec_Assign_Name_used _ _ _ _ E];refine wpAny_bind (wpAny_standAt (wpAny_bind ?_));show wpAny _ X.A (do let _ <-comprehension (.ListComp e [(.Tuple [.Name x p,.Name qual apos] n r,iter,[],0)] scope pos) scope X.env _ (newList []) false (eval iter X.env) (some (assign (.Name y g) X.env))) _ _ s;refine wpAny_bind (wpAny_mono (wpAny_comprehension_free (use:=some (assign (.Name y g) X.env)) (Q:=λ_ j=>SP X π S .next j) rfl W t.o.clos t.o.kind t.o.names
  (Uh (hi π s σ H _ I h) λv O h1=>Uh h1 λa0 s2 h2=>?_)) (λ_ j Y=>wpAny_pure (wpAny_pure Y)) λ_ _ c=>c)
 obtain⟨it,fp,tn,J,H2,c,I2,T,u,f2,V⟩:=h2;subst c;refine Fp (RR:=λL C=>compPost (model X.prog X.w) X.A X.xe (some (assign (.Name y g) X.env)) (λ_ j=>SP X π S .next j) L C) I2 hc t T u f2 he V ?_;intro D C j H' m I' Z f q;show wpAny _ X.A (assign (.Name y g) X.env (.ref D)) _ _ _;refine wpAny_assign_Name (nY (v:=.ref D) I' hN XC (.inl P) rfl (λB XD ch=>(m,?_,λF l=>?_)) (.inr P))
 ·obtain⟨a,U,k⟩:=ch;refine Z.sameBut U λqual=>?_;rcases k with k|k
  ·exact f.2.1 (qual.trans k)
  ·exact f.2.2.2.2.1 _ a k qual.symm
 ·exact(_,H',XD.turned (h':=F) (t':=B.toks) (λb o hb c=>l.extBut b o hb c) f.1 f.2.1 f.2.2.2.1 f.2.2.2.2.1 f.2.2.2.2.2,q)
end L2
namespace Tw
theorem Gn{a:Addr}{l:L2.St}(R:Nat->Int->Prop)(I:My K H a (d.map V.int))(L:d.length<sizeLine)
  (J:∀(i:Nat) (b:Int) (H':Hp) (Q:VK),d[i]?=some b->aQ H H'->(∀m r,R i m->aQ H' r->Q (.int m) r)->ta (some (.int (i:Int))::some (.int b)::l) H' Q)
  (q:∀D H' (f:List Int),H D=none->aQ H H'->H' D=some (.lst (f.map V.int))->f.length=d.length->(∀i m,f[i]?=some m->R i m)->z D H'):zR K (WP K a) l ta z H:=by
 intro D w;exists λi m t s=>m=d.length - i/\i<=d.length/\aQ H s/\s D=some (.lst t) /\ ∃f:List Int,t=f.map V.int/\f.length=i /\ ∀i m,f[i]?=some m->R i m,(_,rfl,aaP _,az w _,au,[],rfl,rfl,λi m e=>by cases e);rintro i m t s ⟨rfl,M,o,k,f,rfl,x,E⟩;have g:=o.seq I;by_cases h:i<d.length
 ·have C:d[i]?=some d[i]:=aac h;have B:(d.map V.int)[i]?=some (.int d[i]):=by
   rw[aah,C];rfl
  refine .inr ((_,_,g,B),λv r y=>?_);obtain⟨p,y,F,rfl,rfl,e⟩:=y;have e:=e _ g;rw[B]at e;cases e;have u:=az F (.tup [.int (i:Int),.int d[i]]);exists p,_,_,rfl,Uj.of au;refine J i d[i] _ _ C (o.trans u) λm r G A=>(A _ _ (u _ _ k),?_,d.length - (i+1),by lia,rfl,h,?_,au,f++[m],?_,?_,?_)
  ·rw[aaa];lia
  ·exact bQ (o.trans (u.trans A)) w _
  ·rw[aal];rfl
  ·rw[aaf,x];rfl
  ·intro j n e;rcases aaq j f.length with c|c
   ·rw[aax c]at e;exact E j n e
   ·rw[aar c]at e;have:j - f.length=0:=by
     have:=(aab.mp e).1;simp at this;lia
    rw[this]at e;cases e;have:j=i:=by lia
    subst this;exact G
 ·have e:i=d.length:=by lia
  exact .inl ((_,g,by rw[aaa,e];exact aad _),q D s f w o k (by lia) E)
theorem yI{a:Addr}{h:L2.St}{tt:TT}(g:Int->Int)(p:My K H a (d.map V.int))(s:d.length<sizeLine)
  (l:∀(b:Int) (H':Hp) (Q:Bool->Hp->Prop),Q true H'->tt (some (.int b)::h) H' Q)(r:∀(b:Int) (H':Hp) (Q:VK),b∈d->aQ H H'->Q (.int (g b)) H'->ta (some (.int b)::h) H' Q)
  (q:∀D,H D=none->z D (upd H D (.lst ((d.map g).map V.int)))):iR (We K a) h tt ta z H:=by
 intro D k;exists λi m j o=>m=d.length - i/\i<=d.length/\j=((d.take i).map g).map V.int/\o=upd H D (.lst j),(_,rfl,aaP _,rfl,rfl);rintro i m j o ⟨rfl,t,rfl,rfl⟩;have f:My K (upd H D (.lst (((d.take i).map g).map V.int))) a (d.map V.int):=(az k _).seq p;by_cases c:i<d.length
 ·have n:(d.map V.int)[i]?=some (.int d[i]):=by
   rw[aah,aac c];rfl
  refine .inr ((_,_,f,n),λv u y=>?_);obtain⟨rfl,y⟩:=y;have e:=y _ f;rw[n]at e;cases e;refine l _ _ _ ?_;rw[if_pos rfl];refine r _ _ _ (acJ c) (az k _) (au,?_,d.length - (i+1),by lia,rfl,c,?_,?_)
  ·rw[aaa,aaa,aaD];lia
  ·rw[acI,aac c,aal,aal];rfl
  ·rw[lw]
 ·have e:i=d.length:=by lia
  subst e;rw[agp];rw[agp]at f;exact .inl ((_,f,by rw[aaa];exact aad _),q D k)
end Tw
namespace L2
open PySem.Spec PyProof.Rows PySem.W
structure qw where
 qual:Str
 params:Arguments
 body:Expr
 scope:Scope
 ps:List Str
 xs:List Str
def lamOf(st:Stmt)(c:Str)(ps xs:List Str):qw:=match st with
 | .Return (some (.Lambda a b d _)) _=>(c,a,b,d,ps,xs)
 | _=>(c,ν st,.Name "" (0,0,0,0),δ st,ps,xs)
def bU:Stmt->Pos
 | .Return (some (.Lambda _ _ _ p)) _=>p
 | _=>(0,0,0,0)
structure dM(H:Hp)(f:Addr)(c:qw)(cs:List Addr)(Um:List V):Prop where
 ex:∃(cd:Addr) (pm ctv:Value) (oc:Obj) (vs:Array Value) (t:Tok),H f=some (aO f (kla_obj "<lambda>" c.qual c.params c.body c.scope (c.xs.zip cs) pm cd ctv))/\H cd=some (aO cd oc)/\oc.data=.fields vs/\vs[1]?=some (.str c.qual t)
 cells:∀(i:Nat) (a:Addr),cs[i]?=some a -> ∃(co:Obj) (v:V) (u:Value),Um[i]?=some v/\H a=some (aO a co)/\co.data=.cell (some u)/\RelV v u
 nd:cs.Nodup
 len:cs.length=c.xs.length
 lenV:Um.length=c.xs.length
theorem dM.same{H':Hp}{f:Addr}{c:qw}{cs:List Addr}{Um:List V}(h:dM H f c cs Um)(s:∀b o,H b=some (aO b o)->H' b=some (aO b o)):dM H' f c cs Um:=by
 obtain⟨⟨B,k,g,l,j,t,w,r,q,p⟩,n,m,d,lenV⟩:=h;refine((B,k,g,l,j,t,s _ _ w,s _ _ r,q,p),λi a e=>?_,m,d,lenV);obtain⟨A,v,u,z,y,x⟩:=n i a e;exact(A,v,u,z,s _ _ y,x)
structure qj(N:List Str)(c:qw):Prop where
 kind:c.scope.kind=.function
 co:c.scope.isCoroutine=false
 gen:c.scope.isGenerator=false
 ρ:∀x∈c.scope.names,x.2 ≠ .cell
 pre:N.take (c.ps.length+c.xs.length)=c.ps++c.xs
 nd:N.Nodup
 Wg:∀n∈c.ps,c.scope.names.lookup n=some .local
 fr:∀x∈c.scope.names,x.2=.free->x.1∈c.xs
 Zq:∀n∈c.xs,c.scope.names.lookup n≠some .local
section
variable{P:Program}{c:qw}{cs:List Addr}{Um vs:List V}{us:List Value}{k:Nat}{Q:VK}{E:XK}
theorem Px(S:qj N c)(hr:eY (k+1) A)(d:Gm P w K mg base A outer s H)(ca:dM H f c cs Um)(hb:∀(cl:List (Str×Addr)) (pm l W:Value),bindArgs (kla_fn "<lambda>" c.qual c.params c.body c.scope cl pm l W) (us,[])=pure (c.ps.zip us))(r:Vals vs us)(hl:vs.length=c.ps.length)
  (X:∀l:Addr,eY k (A.deeper (envX c.qual c.scope s.heap.objs.size f (.ref l) (c.xs.zip cs))) -> ∃t,PE (tu P w K mg base N c.qual c.scope f (.ref l) (c.xs.zip cs) A outer s (hide H cs)) c.body t/\t (start N (vs++Um)) (hide H cs) λv H'=>Q v (over H cs H')):
  codeAny (model P w) A (.call (.ref f) (us,[])) (CR Ui outer P w H s Q E) s:=by
 obtain⟨⟨l,pm,W,oc,ws,tk,h1,h2,h3,h4⟩,hc,nd,a1,lenV⟩:=ca;have Y:∀a∈cs,∃o,H a=some (aO a o):=λa G=>by
  obtain⟨i,C⟩:=aaM G;obtain⟨R,v,u,_,e,_⟩:=hc i a C;exact(R,e)
 have a0:s.heap.NoLimit:=d.mod.nolimit.keeps λb o e=>(d.bs b o e).1;have Xa:c.ps.Nodup:=by
  have:c.ps.Sublist N:=by
   have h:(c.ps++c.xs).Sublist N:=by rw[<-S.pre];exact agQ _ _
   exact(aih _ _).trans h
  exact S.nd.sublist this
 have Zr:c.xs.Nodup:=by
  have:c.xs.Sublist N:=by
   have h:(c.ps++c.xs).Sublist N:=by rw[<-S.pre];exact agQ _ _
   exact(aif _ _).trans h
  exact S.nd.sublist this
 have a6:c.ps.length+c.xs.length<=N.length:=by
  have:=congrArg agD S.pre;rw[aaD,aaf]at this;lia
 refine kla_callFunE hr.depth (cT d.hok h1) rfl S.co S.gen rfl (l,oc,ws,tk,rfl,cT d.hok h2,h3,h4) ?_;rw[hb];refine wpAny_pure (wpAny_newFunctionEnv S.ρ (λy m=>S.Wg _ (ahe m).1) (λh0 a2 U=>(a0.fresh _ U,?_)) S.kind);show codeAny _ _ (.expr c.body (envX c.qual c.scope s.heap.objs.size f (.ref l) (c.xs.zip cs))) _ _;have Z:∀b o,s.heap.get? b=some o->h0.get? b=some o:=λb o e=>U.extBut b o (aat (Heap.lt_size e)) (Heap.get?_push_of_some _ e);refine kla_codeExpr ?_;obtain⟨t,ht,hq⟩:=X l (hr.deeper _);have B:=Hu d.hok Y;have I:Inv (tu P w K mg base N c.qual c.scope f (.ref l) (c.xs.zip cs) A outer s (hide H cs)) [] (start N (vs++Um)) (hide H cs) { s with heap:=h0,toks:=s.toks+(c.ps.zip us).length }:=by
  refine((d.mod,S.kind,rfl,rfl,aad _,λy z b h g=>?_,λy m=>?_,λy b h _=>absurd h aap,λ_=>hr.hd,Around.frames_deeper d.frames,.inr (rfl,rfl),λb z=>absurd (show b∈([]:List Addr)from z) (by simp),λb o e=>((d.bs b o e).1,?_),d.VL,λb _ _ z=>absurd (show b∈([]:List Addr)from z) (by simp),λb z=>absurd (show b∈([]:List Addr)from z) (by simp),d.funs,λb a4=>?_),
   rfl,d.bare,Un.kept Z,(_,a2,λi y v h g h7=>?_),λy b h=>?_,B.fresh (aad _),λy b h=>?_,λp x=>absurd (show p∈([]:List (Addr×Obj))from x) (by simp),B.kept Z,?_)
  ·obtain⟨i,i1,F⟩:=cP h;obtain⟨j,j1,j2⟩:=cP g;have:=(aiP (aab.mp F).1 nd).mp (F.trans j2.symm);subst this;exact aao (i1.symm.trans j1)
  ·have m:c.scope.names.lookup y=some .cell\/c.scope.names.lookup y=some .free:=m;rcases m with m|m
   ·exact absurd rfl (S.ρ _ (PySem.mem_of_lookup m))
   ·exact zU a1 (S.fr _ (PySem.mem_of_lookup m) rfl)
  ·have n:=(d.bs b o e).2;show hide H cs b=none;rw[bx]
   ·exact n
   ·intro z;obtain⟨o',O⟩:=Y b z;rw[n]at O;cases O
  ·have n:=d.V8 b a4;show hide H cs b=none;rw[bx]
   ·exact n
   ·intro z;obtain⟨o',O⟩:=Y b z;rw[n]at O;cases O
  ·have C:i<(vs++Um).length:=by
    unfold start at g;by_cases C:i<(vs++Um).length
    ·exact C
    ·rw[aar (by simpa using C)]at g;rw[agM]at g;split at g <;> cases g
   have G:(vs++Um)[i]?=some v:=by
    unfold start at g;rw[aax (by simpa using C),aah]at g;cases e:(vs++Um)[i]? with
    | none=>rw[e]at g;cases g
    | some a=>rw[e]at g;cases g;rfl
   rw[aaf]at C;have x:(c.ps++c.xs)[i]?=some y:=by
    rw[<-S.pre,acT (by lia)];exact h
   by_cases a3:i<vs.length
   ·rw[aax a3]at G;rw[aax (by lia)]at x;obtain⟨u,hu,M⟩:=r.get G;exact(u,M,.inl (S.Wg y (aag x),Hq Xa x hu))
   ·rw[aar (by lia)]at G;rw[aar (by lia),<-hl]at x;have hj:i - vs.length<cs.length:=by
     have:=(aab.mp x).1;lia
    obtain⟨b,XF⟩:∃b,cs[i - vs.length]?=some b:=(_,aac hj);obtain⟨R,v',u,q1,q2,q3,q4⟩:=hc _ b XF;rw[G]at q1;cases q1;have D:c.scope.names.lookup y=some .free:=by
     rcases h7 with q|q|q
     ·exact absurd q (S.Zq y (aag x))
     ·exact absurd rfl (S.ρ _ (PySem.mem_of_lookup q))
     ·exact q
    exact(u,q4,.inr (.inr D,b,GJ Zr x XF,R,Z _ _ (cT d.hok q2),q3))
  ·obtain⟨i,i1,F⟩:=cP h;obtain⟨R,v',u,q1,q2,q3,q4⟩:=hc _ b F;exact(_,R,Z _ _ (cT d.hok q2),q3)
  ·obtain⟨i,i1,F⟩:=cP h;exact nU (aag F)
  ·unfold start;show _=N.length;rw[aaf,aaa,abD,aaf];lia
 have a5:∀{L:Shared}{T:St}{H':Hp}{v:V}{u:Value},Inv (tu P w K mg base N c.qual c.scope f (.ref l) (c.xs.zip cs) A outer s (hide H cs)) [] T H' L->RelV v u->Q v (over H cs H')->CE outer P w H s Q u L:=λ{L T H' v u} J M q=>by
  obtain⟨k1,k2⟩:=Hd d.hok J.hok Y d.V8 J.base;exact(v,over H cs H',J.os,J.bare,k2,k1,M,q)
 refine wpAny_mono (ht [] _ (start N (vs++Um)) (hide H cs) _ I hq) (λu L hs=>?_) λe L hs=>False.elim hs;obtain⟨v,H',J,M,q⟩:=hs;exact a5 J M q
end
section
variable{P:Addr}{params:Arguments}{body:Expr}{clos:List (Str×Addr)}{pos:Pos}
theorem K9{M:Model}{A:Around}{E:Value->Shared->Prop}{Q:Value->Shared->Prop}(I:Inv X π σ H s)(bm:BMain X.mg X.base)(r:X.env.code=.ref c)(C:CodeHd X.base c P)(hT:TabAt H P pos qual)(V:closureFor scope X.env=pure clos)
  (h:∀(fi B:Addr) (pm f:Value) (i:Obj) (y:Array Value) (t:Tok) (K:Hp) (s1:Shared),Inv X π σ K s1->H fi=none->(∀b o,H b=some o->b≠P->K b=some o)->TabAt K P pos qual ->
   K fi=some (aO fi (kla_obj name qual params body scope clos pm B f))->K B=some (aO B i)->i.data=.fields y->y[1]?=some (.str qual t)->Q (.ref fi) s1):
  wpAny M A (makeFunction name qual params (.expr body) scope X.env [] [] [] pos n) Q E s:=by
 obtain⟨m,l,p,O⟩:=hT;have x:s.heap.get? P=some (tabObj m):=I.hok P _ l;have G:=I.mod.glob.keeps I.bk;obtain⟨bm,ob,b1,b2,b3,b4,b5,b6⟩:=bm;have S:=I.bk _ _ b3;have a2:mainGlobals≠P:=λq=>by
  obtain⟨o,es,ep,e,hd,_⟩:=G;rw[q,x]at e;cases e;cases hd
 have a3:bm≠P:=λq=>by
  rw[q,x]at S;cases S;cases b4
 have a4:bm≠mainGlobals:=λq=>by
  obtain⟨o,es,ep,e,hd,_⟩:=G;rw[q,e]at S;cases S;rw[hd]at b6;cases b6
 have XH:s.heap.BuiltinsAt X.mg P:=(bm,ob,b1,b2,a4,a3,S,b4,b5,b6);rcases O with U|⟨B,i,y,t,hf,W,hd,R⟩
 ·refine kla_makeFunction (mg:=X.mg) V I.ok.glob G r (C.keeps I.bk) x p U a2 XH λa f g tk hx v N Y a0=>?_;obtain⟨c2,i,y,t,e2,a1,hd,R⟩:=Y;cases e2;have nc:H a=none:=I.hok.fresh v;have J:H g.objs.size=none:=I.hok.fresh (age v (adG N));have Zt:P≠a:=aH l nc;have Zu:P≠g.objs.size:=aH l J;have Zv:a≠g.objs.size:=aat N
  have k1:∀b,b≠P->b≠a->b≠g.objs.size->upd (upd (upd H P (.Uq (m ++ #[rawInt pos.line,rawInt pos.col,.ref a]))) a (aO a i)) g.objs.size (aO g.objs.size (kla_obj name qual params body scope clos ((X.mg "__name__").getD .none) a f)) b=H b:=λb e1 e2 e3=>by
   rw[aJ e3,aJ e2,aJ e1]
  have k:∀b o,H b=some o->b≠P->upd (upd (upd H P (.Uq (m ++ #[rawInt pos.line,rawInt pos.col,.ref a]))) a (aO a i)) g.objs.size (aO g.objs.size (kla_obj name qual params body scope clos ((X.mg "__name__").getD .none) a f)) b=some o:=λb o e n=>by
   rw[k1 b n (aH e nc) (aH e J)];exact e
  have kP:upd (upd (upd H P (.Uq (m ++ #[rawInt pos.line,rawInt pos.col,.ref a]))) a (aO a i)) g.objs.size (aO g.objs.size (kla_obj name qual params body scope clos ((X.mg "__name__").getD .none) a f)) P=some (.Uq (m ++ #[rawInt pos.line,rawInt pos.col,.ref a])):=by
   rw[aJ Zu,aJ Zt,au]
  have kc:upd (upd (upd H P (.Uq (m ++ #[rawInt pos.line,rawInt pos.col,.ref a]))) a (aO a i)) g.objs.size (aO g.objs.size (kla_obj name qual params body scope clos ((X.mg "__name__").getD .none) a f)) a=some (aO a i):=by
   rw[aJ Zv,au]
  have kf:upd (upd (upd H P (.Uq (m ++ #[rawInt pos.line,rawInt pos.col,.ref a]))) a (aO a i)) g.objs.size (aO g.objs.size (kla_obj name qual params body scope clos ((X.mg "__name__").getD .none) a f)) g.objs.size=some (aO g.objs.size (kla_obj name qual params body scope clos ((X.mg "__name__").getD .none) a f)):=au
  generalize upd (upd (upd H P (.Uq (m ++ #[rawInt pos.line,rawInt pos.col,.ref a]))) a (aO a i)) g.objs.size (aO g.objs.size (kla_obj name qual params body scope clos ((X.mg "__name__").getD .none) a f))=K at *
  have j:∀b o,s.heap.get? b=some o->b≠P->(g.push (kla_obj name qual params body scope clos ((X.mg "__name__").getD .none) a f)).get? b=some o:=λb o e n=>Heap.get?_push_of_some _ (hx b o n e)
  have D:(g.push (kla_obj name qual params body scope clos ((X.mg "__name__").getD .none) a f)).get? P=some (tabObj (m ++ #[rawInt pos.line,rawInt pos.col,.ref a])):=Heap.get?_push_of_some _ a0
  have hl:(m ++ #[rawInt pos.line,rawInt pos.col,.ref a]).toList=m.toList++[rawInt pos.line,rawInt pos.col,.ref a]:=by simp
  refine h g.objs.size a _ f i y t K _ (I.call' (ch:=[]) rfl (λb o e n hb L=>?_,λb o e n hb L=>?_,λb o e n L=>?_,λb o e L=>?_,λb xs e=>?_,λb o u e=>?_,λb qs e=>?_) (λb u e=>?_) I.bare λb z=>absurd z (by simp)) J k (_,kP,by rw[hl];exact TriplesOk_snoc _ _ _ _ p,.inr (a,i,y,t,by rw[hl];exact codeAmong_snoc _ p U,kc,hd,R)) kf kc hd R
  ·exact j b o e λz=>by rw[z,l]at n;cases n
  ·exact(o.slots,j b o e λz=>by rw[z,l]at n;cases n)
  ·rw[k1 b (λz=>by rw[z,l]at n;cases n) (aat (aak (Heap.lt_size e) v)) (aat (aak (Heap.lt_size e) (age v (adG N))))];exact n
  ·by_cases z:b=P
   ·exact(_,by rw[z];exact D)
   ·exact(o,j b o e z)
  ·exact k b _ e λz=>by rw[z,l]at e;cases e
  ·exact k b _ e λz=>by rw[z,l]at e;cases e
  ·by_cases z:b=P
   ·rw[z,l]at e;cases e;exact(_,by rw[z];exact kP)
   ·exact(#[],by rw[k b _ e z];simp)
  ·by_cases F:b=g.objs.size
   ·rw[F,kf]at e;cases e;rw[F];exact fG (Heap.get?_push_size _ rfl)
   by_cases z2:b=a
   ·rw[z2,kc]at e;cases e;rw[z2];exact fG (Heap.get?_push_of_some _ a1)
   by_cases Z:b=P
   ·rw[Z,kP]at e;cases e;rw[Z];exact D
   rw[k1 b Z z2 F]at e;refine(I.hok b u e).stay (λd o w q=>j d o q ?_) (λd q=>k d _ q ?_) λd xs q=>k d _ q ?_
   ·rcases w with rfl|w
    ·exact Z
    ·exact λz=>by rw[z,l]at w;cases w
   ·exact λz=>by rw[z,l]at q;cases q
   ·exact λz=>by rw[z,l]at q;cases q
 ·refine kla_makeFunctionHit (mg:=X.mg) V I.ok.glob G r (C.keeps I.bk) x p hf XH λf g tk hk T=>?_;have J:H g.objs.size=none:=I.hok.fresh T
  have k:∀b o,H b=some o->upd H g.objs.size (aO g.objs.size (kla_obj name qual params body scope clos ((X.mg "__name__").getD .none) B f)) b=some o:=λb o e=>by
   rw[aJ (aH e J)];exact e
  have j:∀b o,s.heap.get? b=some o->(g.push (kla_obj name qual params body scope clos ((X.mg "__name__").getD .none) B f)).get? b=some o:=λb o e=>Heap.get?_push_of_some _ (hk b o e)
  refine h g.objs.size B _ f i y t _ _ (I.call' (ch:=[]) rfl (Un.laid j T J) (λb u e=>?_) I.bare λb z=>absurd z (by simp)) J (λb o e _=>k b o e) (m,k _ _ l,p,.inr (B,i,y,t,hf,k _ _ W,hd,R)) au (k _ _ W) hd R;by_cases F:b=g.objs.size
  ·rw[F,au]at e;cases e;rw[F];exact fG (Heap.get?_push_size _ rfl)
  rw[aJ F]at e;exact(I.hok b u e).stay (λd o _ q=>j d o q) (λd q=>k d _ q) λd xs q=>k d _ q
end
section
variable{P:Program}{s0:Shared}{H0:Hp}{E:XK}{Q:VK}
theorem PJ{T:qw}{cs:List Addr}{Um:List V}{pos :Pos}(I:Inv (iw CX P w K mg base N qual scope f (.ref c) A outer s0 H0 E) [] σ H s)(bm:BMain mg base)(C:CodeHd base c Pt)(hT:TabAt H Pt pos T.qual)
  (hq:(envOfC qual scope s0.heap.objs.size f (.ref c)).qual ++ "<lambda>" = T.qual)
  (a5:closureFor T.scope (envOfC qual scope s0.heap.objs.size f (.ref c))=pure (T.xs.zip cs))(a4:defaultsOf T.params (envOfC qual scope s0.heap.objs.size f (.ref c))=(pq ([]) ([])))
  (S:cs.Nodup)(W:cs.length=T.xs.length)(G:Um.length=T.xs.length)
  (XJ:∀(j:Nat) (a:Addr),cs[j]?=some a -> ∃(x:Str) (m:Nat) (v:V),(envOfC qual scope s0.heap.objs.size f (.ref c)).cells.lookup x=some a/\scope.names.lookup x=some .cell/\N[m]?=some x/\σ[m]?=some (some v)/\Um[j]?=some v)
  (hQ:∀(D:Addr) (H2:Hp),H D=none->(∀a∈cs,H a=none)->(∀b o,H b=some o->b≠Pt->H2 b=some o)->TabAt H2 Pt pos T.qual->dM H2 D T cs Um->Q (.ref D) H2):
  wpAny (model P w) (A.deeper (envOfC qual scope s0.heap.objs.size f (.ref c))) (execs [.Return (some (.Lambda T.params T.body T.scope pos)) p] (envOfC qual scope s0.heap.objs.size f (.ref c)))
   (λfl s'=>∃u,fl=.ret u/\CE outer P w H0 s0 Q u s') (iw CX P w K mg base N qual scope f (.ref c) A outer s0 H0 E).xe s:=by
 refine wpAny_execs_cons (wpAny_Return_some (kla_eval a4 ?_));rw[hq];refine K9 (X:=iw CX P w K mg base N qual scope f (.ref c) A outer s0 H0 E) (n:=pos.line) I bm rfl C hT a5 λD cd pm a8 oc vs t h y F Zw R a7 a3 a6 hd hv=>?_;exists .ref D,rfl,.ref D,λb=>if b∈cs then (y.heap.get? b).map (aO b)else h b,F.os,F.bare,?_,?_,rfl
 all_goals
  have g:∀a∈cs,∃x,(envOfC qual scope s0.heap.objs.size f (.ref c)).cells.lookup x=some a:=λa i=>by
   obtain⟨j,Z⟩:=aaM i;obtain⟨x,m,v,h1,_⟩:=XJ j a Z;exact(x,h1)
  have fresh:∀a∈cs,s0.heap.objs.size<=a:=λa i=>by
   obtain⟨x,M⟩:=g a i;exact F.ok.cab x a rfl M
  have Y:∀a∈cs,h a=none:=λa i=>by
   obtain⟨x,M⟩:=g a i;exact F.freeC x a M
  have k:∀b o,h b=some o->b∉cs:=λb o e z=>by
   rw[Y b z]at e;cases e
 ·have U:Un (frs outer) [] H0 h s0.heap y.heap:=F.base;refine(U.keep,U.slot,λb o e n a2=>?_,U.there,λb xs e=>?_,λb o v e=>?_,λb ps e=>?_)
  ·show (if b∈cs then _ else h b)=none;rw[if_neg (λz=>absurd (aak (Heap.lt_size e) (fresh b z)) (agf _))];exact U.free b o e n a2
  ·have r:=U.tups b xs e;show (if b∈cs then _ else h b)=_;rw[if_neg (k b _ r)];exact r
  ·have r:=U.frzs b o v e;show (if b∈cs then _ else h b)=_;rw[if_neg (k b _ r)];exact r
  ·obtain⟨O,r⟩:=U.tbls b ps e;exists O;show (if b∈cs then _ else h b)=_;rw[if_neg (k b _ r)];exact r
 ·intro b J e;have e:(if b∈cs then (y.heap.get? b).map (aO b)else h b)=some J:=e;by_cases hb:b∈cs
  ·rw[if_pos hb]at e;cases q:y.heap.get? b with
   | none=>rw[q]at e;cases e
   | some o =>
    rw[q]at e;cases e;exact fG q
  ·rw[if_neg hb]at e;refine(F.hok b J e).stay (λ_ _ _ q=>q) (λd q=>?_) λd xs q=>?_
   ·show (if d∈cs then _ else h d)=_;rw[if_neg (k d _ q)];exact q
   ·show (if d∈cs then _ else h d)=_;rw[if_neg (k d _ q)];exact q
 ·have L:∀b o,h b=some o->(λb=>if b∈cs then (y.heap.get? b).map (aO b)else h b) b=some o:=λb o e=>by
   show (if b∈cs then _ else h b)=_;rw[if_neg (k b _ e)];exact e
  refine hQ D _ Zw (λa i=>?_) (λb o e n=>L b o (R b o e n)) ?_ ((cd,pm,a8,oc,vs,t,L _ _ a3,L _ _ a6,hd,hv),λj a Z=>?_,S,W,G)
  ·obtain⟨x,M⟩:=g a i;exact I.freeC x a M
  ·obtain⟨ps,r,e2,e3⟩:=a7;exists ps,L _ _ r,e2;rcases e3 with e3|⟨a9,a1,a0,t',e4,e5,e6⟩
   ·exact .inl e3
   ·exact .inr (a9,a1,a0,t',e4,L _ _ e5,e6)
  ·obtain⟨x,m,v,h1,h2,h3,h4,h5⟩:=XJ j a Z;obtain⟨mm,_,hl⟩:=F.loc;obtain⟨J,r',l⟩:=hl m x v h3 h4 (.inr (.inl h2));have l':∃c',(envOfC qual scope s0.heap.objs.size f (.ref c)).cells.lookup x=some c'/\y.heap.IsCell c' (some J):=by
    rcases l with ⟨B,_⟩|⟨_,l2⟩
    ·have B:scope.names.lookup x=some .local:=B;rw[h2]at B;cases B
    ·exact l2
   obtain⟨c',B,co,l2,l3⟩:=l';rw[h1]at B;cases B;refine(co,v,J,h5,?_,l3,r');show (if a∈cs then (y.heap.get? a).map (aO a)else h a)=_;rw[if_pos (aag Z),l2];rfl
end
structure Cg(N:List Str)(qual:Str)(scope:Scope)(T:qw)(slots:List Nat)(Vg:Addr->List Addr):Prop where
 qn:∀(L f:Addr) (c:Value),(envOfC qual scope L f c).qual ++ "<lambda>" = T.qual
 cl:∀(L f:Addr) (c:Value),closureFor T.scope (envOfC qual scope L f c)=pure (T.xs.zip (Vg L))
 d0:∀(L f:Addr) (c:Value),defaultsOf T.params (envOfC qual scope L f c)=(pq ([]) ([]))
 Zz:∀L:Addr,(Vg L).Nodup
 len:∀L:Addr,(Vg L).length=T.xs.length
 fv:∀(L f:Addr) (c:Value) (j:Nat) (a:Addr),(Vg L)[j]?=some a -> ∃(x:Str) (m:Nat),(envOfC qual scope L f c).cells.lookup x=some a/\scope.names.lookup x=some .cell/\N[m]?=some x/\slots[j]?=some m
def Nk(H:Hp)(g:Addr)(pos:Pos)(T:qw)(c:List Nat)(σ:St)(Q:VK):Prop:=
 TabAt H g pos T.qual /\ ∃f:List V,(∀j m:Nat,c[j]?=some m -> ∃v,σ[m]?=some (some v)/\f[j]?=some v)/\f.length=T.xs.length /\
  ∀(e:Addr) (h:List Addr) (d:Hp),H e=none->(∀a∈h,H a=none)->(∀b o,H b=some o->b≠g->d b=some o)->TabAt d g pos T.qual->dM d e T h f->Q (.ref e) d
section
variable{P:Program}{k:Nat}{T:qw}{slots:List Nat}{Vg:Addr->List Addr}{pos p1 p2:Pos}
theorem zb{A:Around}{s b:Shared}{Q:VK}{E:XK}{σ:St}(M:Cg N qual (δ st) T slots Vg)(bm:BMain mg base)(C:CodeHd base c Pt)(I:Inv (iw Ui P w K mg base N qual (δ st) f (.ref c) A outer s H E) [] σ H' b)(h:Nk H' Pt pos T slots σ Q):
  wpAny (model P w) (A.deeper (envOfC qual (δ st) s.heap.objs.size f (.ref c))) (execs [.Return (some (.Lambda T.params T.body T.scope pos)) p2] (envOfC qual (δ st) s.heap.objs.size f (.ref c)))
   (λB d=>∃u,B=.ret u/\CE outer P w H s Q u d) (iw Ui P w K mg base N qual (δ st) f (.ref c) A outer s H E).xe b:=by
 obtain⟨q,S,z,t,r⟩:=h;refine PJ (cs:=Vg s.heap.objs.size) (Um:=S) I bm C q (M.qn _ _ _) (M.cl _ _ _) (M.d0 _ _ _) (M.Zz _) (M.len _) t (λj a e=>?_) (λD U p o n l g=>r D _ U p o n l g);obtain⟨y,m,R,O,L,J⟩:=M.fv s.heap.objs.size f (.ref c) j a e;obtain⟨v,G,F⟩:=z j m J;exact(y,m,v,R,O,L,G,F)
theorem Va.makerL1{g:Stmt}(F:Va K x qual st f fd)(S:aB N ps (δ st))(M:Cg N qual (δ st) T slots Vg)(bm:BMain mg base)(e:fd.code=.ref c)(C:CodeHd base c Pt)(j:∀d H Q E,sp d H Q E->d.length=ps.length)
  (r:μ st=[g,.Return (some (.Lambda T.params T.body T.scope pos)) p2])
  (h:∀(b:Value) (A:Around) (a:List Env) (s:Shared) (H:Hp) (d:List V) (Q:VK) (E:XK),eY k (A.deeper (envOfC qual (δ st) s.heap.objs.size f b))->sp d H Q E ->
   ∃t,PS (iw Ui P w K mg base N qual (δ st) f b A a s H E).W6 g t/\t { nx:=λ σ H'=>Nk H' Pt pos T slots σ Q,rt:=λ_ _=>False } (start N d) H):aV P w K mg base Ui (k+1) f fd ps sp:=by
 obtain⟨U,R,kV,J,O,X,b,W,G,rfl,o,m⟩:=F.ex;obtain rfl:b=.ref c:=e;refine GF o m S j λA a s H d Q E n p l I=>?_;rw[r];obtain⟨t,y,v⟩:=h _ A a s H d Q E p l;refine wpAny_execs_cons (wpAny_mono (y [] n (start N d) H _ (I.wish _) v) (λB L q=>?_) λ_ _ z=>False.elim z);cases B with
 | next =>
  obtain⟨σ,Y,D,q⟩:=q;exact zb M bm C D.unwish q
 | ret u=>obtain⟨_,_,_,_,_,z⟩:=q;exact False.elim z
 | brk=>obtain⟨_,_,_,z⟩:=q;exact False.elim z
 | cont=>obtain⟨_,_,_,z⟩:=q;exact False.elim z
theorem Fz{sp:Addr->Sp}(S:qj N T)(u:∀(m:List (Str×Addr)) (l b d:Value) (j:List Value),j.length=T.ps.length->bindArgs (kla_fn "<lambda>" T.qual T.params T.body T.scope m l b d) (j,[])=pure (T.ps.zip j))
  (h:∀(f:Addr) (g:List V) (H:Hp) (Q:VK),sp f g H Q E0->g.length=T.ps.length /\ ∃cs Um,dM H f T cs Um /\
   ∀(b:Addr) (A:Around) (a:List Env) (s:Shared),eY k (A.deeper (envX T.qual T.scope s.heap.objs.size f (.ref b) (T.xs.zip cs))) -> ∃t,PE (tu P w K mg base N T.qual T.scope f (.ref b) (T.xs.zip cs) A a s (hide H cs)) T.body t/\t (start N (g++Um)) (hide H cs) λv H'=>Q v (over H cs H')):
  fP P w K mg base (k+1) sp:=by
 intro f A a s H j g Q q y r n;obtain⟨p,cs,Um,z,e⟩:=h f g H Q n;exact Px S q y z (λm l b d=>u m l b d j (by rw[<-r.length];exact p)) r p λb o=>e b A a s o
end
theorem Inv.turnN{ch:List Addr}{p:Addr}{o:HO}{t':Nat}(I:Inv X π σ H s)(h:∀b∈ch,gP X π H b)
  (k:∀b u,b∉ch->s.heap.get? b=some u->h'.get? b=some u)(l:s.heap.objs.size<=p)
  (i:bH X.prog X.w (upd H p o) h' p o):Inv X π σ (upd H p o) { s with heap:=h',toks:=t' }:=by
 have y:=I.hok.fresh l;have j:∀b u,H b=some u->b∉ch:=λb u q z=>by rw[(h b z).1]at q;cases q
 have a:∀b u,H b=some u->upd H p o b=some u:=λb u q=>by rw[aJ (aH q y)];exact q
 refine I.step (g':=s.gens) (d':=s.drawn) (ch:=ch) (λb e=>?_) (λb u _ _ d q _=>k b u d q) (λb u _ _ d q _=>(u.slots,k b u d q))
  (λb u _ q n=>by rw[aJ (aat (aak (Heap.lt_size q) l))];exact n) (λb u d q=>(u,k b u d q))
  (λb t q=>a _ _ q) (λb g u q=>a _ _ q) (λb E q=>(#[],by rw[a _ _ q];simp)) (λm A=>?_) (λb u q=>?_) I.bare
 ·have f:=h b e;exact(f.2.2.2.1,f.2.1,f.2.2.2.2.1,f.2.2.2.2.2)
 ·obtain⟨g,C,D,x,r⟩:=A;exact(g,C,D,k _ g (λz=>(h _ z).2.1 rfl) x,r)
 ·by_cases e:b=p
  ·subst e;rw[au]at q;cases q;exact i
  ·rw[aJ e]at q;refine(I.hok b u q).stay (λc v B r=>k c v ?_ r) (λc r=>a _ _ r) λc t r=>a _ _ r;rcases B with rfl|z
   ·exact j _ _ q
   ·exact j _ _ z
theorem Inv.turnedN{ch:List Addr}{t':Nat}(I:Inv X π σ H s)(e:∀b∈ch,gP X π H b)
  (k:∀b u,b∉ch->s.heap.get? b=some u->h'.get? b=some u):Inv X π σ H { s with heap:=h',toks:=t' }:=by
 have g:∀b u,H b=some u->b∉ch:=λb u q z=>by rw[(e b z).1]at q;cases q
 refine I.step (g':=s.gens) (d':=s.drawn) (ch:=ch) (λb l=>?_) (λb u _ _ a q _=>k b u a q) (λb u _ _ a q _=>(u.slots,k b u a q))
  (λ_ _ _ _ n=>n) (λb u a q=>(u,k b u a q))
  (λ_ _ q=>q) (λ_ _ _ q=>q) (λb w q=>(#[],by rw[q];simp)) (λm i=>?_) (λb u q=>?_) I.bare
 ·have d:=e b l;exact(d.2.2.2.1,d.2.1,d.2.2.2.2.1,d.2.2.2.2.2)
 ·obtain⟨f,o,p,h,r⟩:=i;exact(f,o,p,k _ f (λz=>(e _ z).2.1 rfl) h,r)
 ·refine(I.hok b u q).stay (λc v j r=>k c v ?_ r) (λc r=>r) λc t r=>r;rcases j with rfl|z
  ·exact g _ _ q
  ·exact g _ _ z
def WT(K:PySem.W.Frag)(a b:Addr):It:=
  (λi H=>∃d c x y,My K H a d/\My K H b c/\d[i]?=some x/\c[i]?=some y,
   λi H v e=>∃p x y,H p=none/\v=.ref p/\e=upd H p (.tup [x,y])/\(∀d,My K H a d->d[i]?=some x) /\ ∀c,My K H b c->c[i]?=some y,
   λi H=>∃d c,My K H a d/\My K H b c/\(d.length<=i\/c.length<=i))
structure FQ(z TI TO i1 i2:Addr):Prop where
 TIz:TI≠z
 TOz:TO≠z
 i1z:i1≠z
 i2z:i2≠z
 TITO:TI≠TO
 TIi1:TI≠i1
 TIi2:TI≠i2
 TOi1:TO≠i1
 TOi2:TO≠i2
 i12:i1≠i2
def Qi(a b z TI TO d c:Addr)(i:Nat)(h:Heap):Prop:=IsZip h z TI TO .none/\IsPair h TI (.ref d) (.ref c)/\(∃x y,IsPair h TO x y)/\h.IsListIter d a i/\h.IsListIter c b i
theorem mY{a b:Addr}{o u:Obj}(d:h'.get? a=some o)(c:h'.get? b=some u)(e:o.cls≠u.cls):a≠b:=λz=>by
 subst z;rw[d]at c;cases c;exact e rfl
theorem DG{a b :Addr}{i:Nat}{xs ys:Array Value}(D:FQ f C S c dx)(st:Qi a b f C S c dx i h')(r:h'.IsList a xs)(q:h'.IsList b ys):ZipApart f C S c dx a b:=by
 obtain⟨l,s,⟨x,y,d⟩,⟨w,n,p,_⟩,⟨v,m,o,_⟩⟩:=st;obtain⟨u,g,k,_⟩:=r;obtain⟨t,e,j,_⟩:=q;exact(D.TIz,D.TOz,D.i1z,D.i2z,D.TITO,D.TIi1,D.TIi2,D.TOi1,D.TOi2,D.i12,
  mY g l (by rw[k];show Value.type "list" ≠ Value.type "zip";decide),mY g d (by rw[k];show Value.type "list" ≠ Value.type "tuple";decide),mY g n (by rw[k,p];decide),mY g m (by rw[k,o];decide),
  mY e l (by rw[j];show Value.type "list" ≠ Value.type "zip";decide),mY e d (by rw[j];show Value.type "list" ≠ Value.type "tuple";decide),mY e n (by rw[j,p];decide),mY e m (by rw[j,o];decide))
theorem Mt{w:World}(a b z TI TO F C:Addr)(D:FQ z TI TO F C):
  Turn prog w K (.Tuple B n p) (WT K a b) [z,TI,TO,F,C] z (Qi a b z TI TO F C) where
 mem:=by simp
 obj:=λi h l c U=>by
  obtain⟨m,d,⟨x,y,f⟩,⟨o1,e1,c1,d1⟩,⟨o2,e2,c2,d2⟩⟩:=l;have G:c=z\/c=TI\/c=TO\/c=F\/c=C:=by simpa using U
  rcases G with rfl|rfl|rfl|rfl|rfl
  ·exact(_,m,λv q=>by cases q)
  ·exact(_,d,λv q=>by cases q)
  ·exact(_,f,λv q=>by cases q)
  ·exact(_,e1,λv q=>by rw[d1]at q;cases q)
  ·exact(_,e2,λv q=>by rw[d2]at q;cases q)
 keep:=λi h h' l k=>by
  obtain⟨m,d,⟨x,y,f⟩,h1,M⟩:=l;exact(k z (by simp) _ m,k TI (by simp) _ d,(x,y,k TO (by simp) _ f),h1.at λo q=>k F (by simp) o q,M.at λo q=>k C (by simp) o q)
 item:=by
  intro X hP V hK U i π s σ H E I T l Z;subst hP V hK;obtain⟨xs,ys,x,y,A,u,L,hy⟩:=Z;obtain⟨b0,Yv,O,b2⟩:=I.list A;obtain⟨a9,Yw,N,b1⟩:=I.list u;obtain⟨R,b4,a7⟩:=Yv.get L;obtain⟨Q,b3,a0⟩:=Yw.get hy;have D7:=DG D l O.isList N.isList;obtain⟨m,d,⟨v1,v2,f⟩,t,r⟩:=id l;refine wpAny_pyNext_zip_item D7 m d f t r O.isList N.isList (x:=R) (by simpa using b4) (y:=Q) (by simpa using b3) λh1 a1 a2 a3 a4 a5 a6 S=>?_;refine(_,rfl,wpAny_letOwnedTupleGo_zip a1 λM b5 j=>?_);have J:∀{c o},s.heap.get? c=some o->s.heap.objs.size≠c:=λe=>ahL (Heap.lt_size e)
  have g2:M.get? s.heap.objs.size=some { cls:=.type "tuple",data:=.seq #[R,Q] }:=(j.2 _ (J m)).trans a5
  have kk:∀b o,b∉[z,TI,TO,F,C]->s.heap.get? b=some o->M.get? b=some o:=λb o g q =>
   (j.2 b (λe=>g (by simp[e]))).trans (S b o (λe=>g (by simp[e])) (λe=>g (by simp[e])) (λe=>g (by simp[e])) (λe=>g (by simp[e])) q)
  have a8:bH X.prog X.w (upd H s.heap.objs.size (.tup [x,y])) M s.heap.objs.size (.tup [x,y]):=
   ((by show 2<=sizeLine;decide),[R,Q],.cons a7 (.cons a0 .nil),_,g2,rfl,_,rfl)
  have I2:=I.turnN (h':=M) (t':=s.toks) T kk (aad _) a8;have hn:H s.heap.objs.size=none:=I.hok.fresh (aad _);refine(.ref s.heap.objs.size,_,I2,rfl,(_,x,y,hn,rfl,rfl,λzs Y=>by rw[I.list_inj Y A];exact L,λzs Y=>by rw[I.list_inj Y u];exact hy),
   (b5,(j.2 _ D.TIz).trans (S _ _ D.TIz D.TITO D.TIi1 D.TIi2 d),(R,Q,(j.2 _ D.TOz).trans a2),a3.extBut j.extBut D.i1z,a4.extBut j.extBut D.i2z),λb g=>?_)
  have b6:b≠s.heap.objs.size:=by
   obtain⟨o1,e1,_⟩:=t;obtain⟨o2,e2,_⟩:=r;have G:b=z\/b=TI\/b=TO\/b=F\/b=C:=by simpa using g
   rcases G with rfl|rfl|rfl|rfl|rfl
   ·exact(J m).symm
   ·exact(J d).symm
   ·exact(J f).symm
   ·exact(J e1).symm
   ·exact(J e2).symm
  rw[aJ b6];exact(T b g).1
 done:=by
  intro X hP V hK U i π s σ H E I T l Z;subst hP V hK;obtain⟨xs,ys,A,u,L⟩:=Z;obtain⟨b0,Yv,O,b2⟩:=I.list A;obtain⟨a9,Yw,N,b1⟩:=I.list u;have D7:=DG D l O.isList N.isList;obtain⟨m,d,⟨v1,v2,f⟩,t,r⟩:=id l;have l1:=Yv.length;have l2:=Yw.length;refine wpAny_pyNext_zip_end (I.ok.hd U) D7 m d f t r O.isList N.isList ?_ λh' S=>(rfl,I.turnedN (t':=s.toks) T λb o g q=>S b o (λe=>g (by simp[e])) (λe=>g (by simp[e])) (λe=>g (by simp[e])) (λe=>g (by simp[e])) q);rcases L with L|L
  ·exact .inl (by simp;lia)
  ·exact .inr (by simp;lia)
 self:=λ_ _ _ _ _ l h=>wpAny_pyIter_zip l.1 h
inductive Ri(K:PySem.W.Frag)(R:It->Hp->Prop)(vs:List V)(H1:Hp):Prop
 | mk (a b xs ys:_) (_:vs=[.ref a,.ref b]) (_:My K H1 a xs) (_:My K H1 b ys) (_:R (WT K a b) H1)
def T9(K:PySem.W.Frag)(b:TA):TI:=λ a H R=>b a H (Ri K R)
theorem Gb{a b:Expr}{p pos:Pos}(W:Gl X "zip")(U:X.mg "zip" = none)(S:bootBuiltins "zip" = some (.type "zip"))(Z:PA X [a,b] t)
  (T:starEach [a,b] X.env=[(pq false (eval a X.env)),(pq false (eval b X.env))]:=by rfl)(l:starEach [b] X.env=[(pq false (eval b X.env))]:=by rfl):
  PI X (.Tuple B n apos) (.Call (.Name "zip" p) [a,b] [] pos) (T9 X.K t):=by
 intro E s C H R I h;refine Call_ (eO I W U S (PyProof.Rows.callWith_type1 (Uh (Z pos E s C H _ I h) λus f ⟨vs,L,g,M,O⟩=>?_) (by rw[T,l]) (by rw[l];rfl)));obtain⟨G,F,xs,ys,e,v,u,q⟩:=O;subst e;cases M with
 | cons r o =>
  cases o with
  | cons N o =>
   cases o;cases r;cases N;obtain⟨a1,Yv,Q,a3⟩:=g.list v;obtain⟨a0,Yw,P,a2⟩:=g.list u;refine call_zip_2 Q.isList P.isList λh' J A z x w a4 V=>?_;refine wpAny_pyIter_zip J ?_;have I2:Inv X E C L { f with heap:=h' }:=g.kept (t':=f.toks) V;have D:FQ (f.heap.objs.size+4) (f.heap.objs.size+2) (f.heap.objs.size+3) f.heap.objs.size (f.heap.objs.size+1):=by
    have k:∀d i j:Nat,i≠j->d+i≠d+j:=λd i j h=>by lia
    exact(k _ 2 4 (by decide),k _ 3 4 (by decide),k _ 0 4 (by decide),k _ 1 4 (by decide),k _ 2 3 (by decide),k _ 2 0 (by decide),k _ 2 1 (by decide),k _ 3 0 (by decide),k _ 3 1 (by decide),k _ 0 1 (by decide))
   refine(f.heap.objs.size+4,_,_,WT X.K G F,L,rfl,I2,Mt G F _ _ _ _ _ D,(J,A,(_,_,z),x,w),λc Y=>?_,q);have m:f.heap.objs.size<=c:=by
    have y:c=f.heap.objs.size+4\/c=f.heap.objs.size+2\/c=f.heap.objs.size+3\/c=f.heap.objs.size\/c=f.heap.objs.size+1:=by simpa using Y
    rcases y with rfl|rfl|rfl|rfl|rfl
    ·exact ahu _ _
    ·exact ahu _ _
    ·exact ahu _ _
    ·exact aad _
    ·exact ahu _ _
   exact g.fpOk m (g.hok.fresh m)
theorem Ov{a b:Addr}{xs ys:List V}{g:TG}{o:TS}{D:Ends}{σ:St}(d:Nat->St->Hp->Prop)(C:d 0 σ H)(A:∀i σ H,i<=min xs.length ys.length->d i σ H->My K H a xs/\My K H b ys)
  (w:∀i x y σ H p,xs[i]?=some x->ys[i]?=some y->d i σ H->H p=none->g (.ref p) σ (upd H p (.tup [x,y])) λ f l=>o { D with nx:=d (i+1),ct:=d (i+1),bk:=D.nx } f l)(hd:∀σ H,d (min xs.length ys.length) σ H->D.nx σ H):
  ∃W:Nat->Nat->St->Hp->Prop,(∃m,W 0 m σ H) /\ ∀i m σ H,W i m σ H ->
   ((WT K a b).stop i H/\D.nx σ H)\/((WT K a b).go i H /\ ∃N:St->Hp->Prop,(∀h H',N h H' -> ∃q,q<m/\W (i+1) q h H') /\ ∀x H',(WT K a b).Vv i H x H'->g x σ H' λ f l=>o { D with nx:=N,ct:=N,bk:=D.nx } f l):=by
 exists λi m σ H=>m=min xs.length ys.length - i/\i<=min xs.length ys.length/\d i σ H,(min xs.length ys.length,rfl,aaP _,C);rintro i m σ H ⟨rfl,B,p⟩;obtain⟨k,j⟩:=A i σ H B p;by_cases n:i<min xs.length ys.length
 ·have t:i<xs.length:=by lia
  have s:i<ys.length:=by lia
  refine .inr ((xs,ys,xs[i],ys[i],k,j,aac t,aac s),d (i+1),λ h H' r=>(min xs.length ys.length - (i+1),by lia,rfl,n,r),λx H' y=>?_);obtain⟨c,x,y,z,F,E,v,u⟩:=y;subst F E;exact w i x y σ H c (v xs k) (u ys j) p z
 ·have e:i=min xs.length ys.length:=by lia
  subst e;exact .inl ((xs,ys,k,j,by lia),hd σ H p)
end L2
namespace Tw
def brk:List Int->Int->List Int
 | [],u=>aaF u.toNat 0
 | d::r,u=>aaF (u - d).toNat 0++1::brk r (d+1)
def Dp:List Int->Int->Prop
 | [],u=>0<=u
 | d::r,u=>0<=d/\d<=u/\Dp r (d+1)
theorem Dp.pos:∀{l:List Int}{u:Int},Dp l u->0<=u
 | [],_,h=>h
 | _::_,_,h=>Int.le_trans h.1 h.2.1
theorem lR:∀{l:List Int}{u:Int},Dp l u->(brk l u).length=u.toNat+2*l.length
 | [],u,_=>by simp[brk]
 | d::r,u,h=>by
  have:=lR h.2.2;have b:=h.1;have a:=h.2.1;simp only[brk,aaf,abD,aaE,this];lia
theorem Bq{l:List Int}{u x:Int}{t:List Int}(h:Dp l u)(e:brk l u=x::t):
  (x=0/\1<=u/\t=brk l (u - 1)/\Dp l (u - 1)) \/ ∃r,l=u::r/\x=1/\t=brk r (u+1)/\Dp r (u+1):=by
 cases l with
 | nil =>
  have i:0<=u:=h;rcases aid 0 u with z|z
  ·refine .inl ?_;have c:u.toNat=(u - 1).toNat+1:=by lia
   simp only[brk]at e ⊢;rw[c,agk]at e;injection e with b a
   exact(b.symm,z,a.symm,show 0<=u - 1 by lia)
  ·have:u.toNat=0:=by lia
   simp only[brk]at e;rw[this]at e;cases e
 | cons d r =>
  obtain⟨g,j,f⟩:=h;rcases aid d u with z|z
  ·refine .inl ?_;have c:(u - d).toNat=(u - 1 - d).toNat+1:=by lia
   simp only[brk]at e ⊢;rw[c,agk,agA]at e;injection e with b a
   exact(b.symm,by lia,a.symm,g,by lia,f)
  ·have:u=d:=by lia
   subst this;refine .inr (r,rfl,?_);simp only[brk]at e;rw[Int.sub_self]at e;injection e with b a
   exact(b.symm,a.symm,f)
theorem O8{l:List Int}{u:Int}(h:Dp l u)(e:brk l u=[]):l=[]/\u=0:=by
 have:=lR h;rw[e]at this;have a:=h.pos;cases l with
 | nil =>
  exists rfl;have:0=u.toNat+2*0:=this;lia
 | cons d r =>
  rw[aaE]at this;have:0=u.toNat+2*(r.length+1):=this;lia
def gF(ds:List Int):Prop:=ds[0]?=some 0 /\ ∀i x y,ds[i]?=some x->ds[i+1]?=some y->1<=y/\y<=x+1
theorem Qn:∀(r:List Int) (a:Int),(∀(i:Nat) (x y:Int),(a::r)[i]?=some x->(a::r)[i+1]?=some y->1<=y/\y<=x+1)->0<=a->Dp r (a+1)
 | [],a,_,b=>by show 0<=a+1;lia
 | d::r,a,h,b=>by
  have f:=h 0 a d rfl rfl;exact(by lia,f.2,Qn r d (λi x y e c=>h (i+1) x y e c) (by lia))
theorem gF.dp{ds:List Int}(h:gF ds):Dp ds 0:=by
 cases ds with
 | nil=>exact absurd h.1 (by simp)
 | cons d r =>
  have:d=0:=by
   have:=h.1;exact aao this
  subst this;exact(by decide,by decide,Qn r 0 h.2 (by decide))
theorem gF.one{ds:List Int}(h:gF ds){i:Nat}(b:0<i)(hd:ds[i]?=some m):1<=m:=by
 obtain⟨j,rfl⟩:∃j,i=j+1:=(i - 1,by lia);have a:=(aab.mp hd).1;have:=h.2 j ds[j] m (aac (by lia)) hd;exact this.1
end Tw
namespace L2
open PySem.Spec PyProof.Rows
section
variable(P:Program)(w:World)
end
section
variable{P:Program}{o:HO}
end
section
variable{P:Program}{x e:Addr}{o':HO}
end
section
variable{fs fs' ex ex':List Addr}{H1 H2:Hp}{h1 h2:Heap}{x e:Addr}{o:HO}
end
section
variable{σ:List (Option V)}
end
section
variable{a:Expr}{pos:Pos}
variable{tA Xr:TT}{rest:List Expr}
end
section
variable{xs ys:List V}
end
section
variable{rest:List Stmt}{t u:TS}{pos:Pos}
end
section
variable{pos:Pos}
end
section
variable{pos:Pos}
end
section
variable{a c:Expr}{tc:TE}{pos:Pos}
end
section
variable{a c:Expr}{tc:TE}{pos:Pos}
end
section
variable{x:Addr}{mA:Str->Option Value}{v:Value}
end
section
variable{P:Program}{fs fs':List (Str×V)}
end
section
variable{fs:List (Str×V)}{f:Str}{v:V}
end
section
variable{value:Expr}{f:Str}{pos pos' tpos:Pos}{tv:TE}
end
section
variable{Q:Value->Shared->Prop}{c:Value}{b:Bool}
end
section
variable{es:List Expr}{pos:Pos}
end
section
variable{s':Shared}
end
section
variable{k:Nat}{V0:List V}{ds:List Value}{E:XK}{m:Str}{pos:Pos}{es:List Expr}
end
section
variable{k:Nat}{ks:List Str}{E:XK}{m:Str}{pos kpos:Pos}{es:List Expr}{kws:List Keyword}{tk:TA}{nm:Option Str}
variable{g:List Value->List Value->List Value}{gV:List V->List V->List V}
end
section
variable{pos:Pos}{es:List Expr}{id T:String}{r:List V->Hp->VK->Prop}
end
section
variable{κ:Type}[DecidableEq κ]
def iy(a:List (κ×V))(k:κ):Option V:=(a.find? λb=>decide (b.1=k)).map (·.2)
def putK(a:List (κ×V))(k:κ)(v:V):List (κ×V):=
 if (a.any λb=>decide (b.1=k))=true then a.map (λb=>if b.1=k then (pq b.1 v)else b)else a++[(pq k v)]
theorem dz{p:κ×V}{r:List (κ×V)}{k:κ}(e:p.1=k):iy (p::r) k=some p.2:=by simp[iy,ahl,e]
theorem dh{p:κ×V}{r:List (κ×V)}{k:κ}(e:¬p.1=k):iy (p::r) k=iy r k:=by simp[iy,ahl,e]
theorem jW(k:κ):∀a:List (κ×V),(a.any λb=>decide (b.1=k))=(iy a k).isSome
 | []=>rfl
 | p::r=>by
  rw[ahA];by_cases e:p.1=k
  ·simp only[dz e,decide_eq_true e,ajr,Option.isSome_some]
  ·rw[dh e,decide_eq_false e,ajl];exact jW k r
theorem Cv(k j:κ)(y:V):∀a:List (κ×V),iy (a.map λb=>if b.1=k then (pq b.1 y)else b) j=(iy a j).map λx=>if j=k then y else x
 | []=>rfl
 | p::r=>by
  have c:=Cv k j y r;rw[aay];by_cases h:p.1=k
  ·rw[if_pos h];by_cases e:p.1=j
   ·rw[dz (p:=(pq p.1 y)) e,dz e,ahE,if_pos (e.symm.trans h)]
   ·rw[dh (p:=(pq p.1 y)) e,dh e,c]
  ·rw[if_neg h];by_cases e:p.1=j
   ·rw[dz (p:=p) e,dz e,ahE,if_neg (λz=>h (e.trans z))]
   ·rw[dh (p:=p) e,dh e,c]
theorem yH(k j:κ)(y:V):∀a:List (κ×V),iy a k=none->iy (a++[(pq k y)]) j=if j=k then some y else iy a j
 | [],_=>by
  by_cases e:k=j
  ·rw[if_pos e.symm];exact dz (p:=(pq k y)) e
  ·rw[if_neg (λz=>e z.symm)];exact dh (p:=(pq k y)) e
 | p::r,b=>by
  rw[agA];have c:¬p.1=k:=λz=>by rw[dz z]at b;cases b
  rw[dh c]at b;have d:=yH k j y r b;by_cases e:p.1=j
  ·rw[dz e,dz e,if_neg (λz=>c (e.trans z))]
  ·rw[dh e,dh e,d]
theorem BR(b:List (κ×V))(k j:κ)(y:V):iy (putK b k y) j=if j=k then some y else iy b j:=by
 unfold putK;by_cases a:(b.any λc=>decide (c.1=k))=true
 ·rw[if_pos a,Cv];rw[jW]at a;by_cases e:j=k
  ·obtain⟨x,d⟩:=aig.mp a;rw[if_pos e,e,d,ahE,if_pos rfl]
  ·rw[if_neg e];cases iy b j with
   | none=>rfl
   | some x=>rw[ahE,if_neg e]
 ·rw[if_neg a];refine yH k j y b ?_;rw[jW]at a;cases q:iy b k with
  | none=>rfl
  | some x=>rw[q]at a;exact(a rfl).elim
theorem tG(a:List (κ×V))(k:κ)(v:V):(putK a k v).length<=a.length+1:=by
 unfold putK;split
 ·rw[aaa];lia
 ·rw[aaf,aaE,ah2];lia
theorem Ku{a:List (κ×V)}{k:κ}(v:V)(h:iy a k=none):putK a k v=a++[(pq k v)]:=by
 unfold putK;rw[jW,h];exact if_neg (by decide)
theorem v7.isSome_eq{o:Option V}{u:Option Value}(r:v7 o u):o.isSome=u.isSome:=by
 cases o with
 | none=>cases u with
  | none=>rfl
  | some _=>exact(show False from r).elim
 | some _=>cases u with
  | none=>exact(show False from r).elim
  | some _=>rfl
theorem KV.val{a:List (κ×V)}{f:List (κ×Value)}(r:KV a f)(k:κ):v7 (iy a k) (valueAt f k):=by
 unfold KV at r
 induction r with
 | nil=>exact True.intro
 | @cons p q l c h t i =>
  obtain⟨g,j⟩:=h;by_cases e:p.1=k
  ·have d:q.1=k:=g.symm.trans e;have b:valueAt (q::c) k=some q.2:=by simp[valueAt,ahl,d]
   rw[dz e,b];exact j
  ·have d:¬q.1=k:=λz=>e (g.trans z);have b:valueAt (q::c) k=valueAt c k:=by simp[valueAt,ahl,d]
   rw[dh e,b];exact i
theorem KV.any{a:List (κ×V)}{c:List (κ×Value)}(r:KV a c)(k:κ):(a.any λb=>decide (b.1=k))=c.any λb=>decide (b.1=k):=by
 unfold KV at r
 induction r with
 | nil=>rfl
 | cons h t d=>rw[ahA,ahA,d,h.1]
theorem KV.repl{b:List (κ×V)}{d:List (κ×Value)}(r:KV b d)(k:κ){y:V}{u:Value}(f:RelV y u):
  KV (b.map λa=>if a.1=k then (pq a.1 y)else a) (d.map λa=>if a.1=k then (pq a.1 u)else a):=by
 unfold KV at r ⊢
 induction r with
 | nil=>exact .nil
 | @cons p q l j h t g =>
  rw[aay,aay];refine .cons ?_ g;obtain⟨c,i⟩:=h;by_cases e:p.1=k
  ·rw[if_pos e,if_pos (c.symm.trans e)];exact(c,f)
  ·rw[if_neg e,if_neg (λz=>e (c.trans z))];exact(c,i)
theorem KV.put{a:List (κ×V)}{b:List (κ×Value)}(r:KV a b)(k:κ){y:V}{u:Value}(c:RelV y u):KV (putK a k y) (stored b k u):=by
 unfold putK stored;rw[r.any k];by_cases e:(b.any λd=>decide (d.1=k))=true
 ·rw[if_pos e,if_pos e];exact r.repl k c
 ·rw[if_neg e,if_neg e];exact Paired.snoc r (rfl,c)
theorem KV.length{a:List (κ×V)}{b:List (κ×Value)}(r:KV a b):a.length=b.length:=Paired.length r
end
theorem G3{w:World}{k:Key}{u:Value}(r:RelV (kV k) u):(dF prog w).is k u=true:=by
 cases k with
 | inl i=>obtain⟨t,e⟩:=(show ∃t,u=Value.int i t from r);subst e;exact CT prog w i t
 | inr x=>obtain⟨t,e⟩:=(show ∃t,u=Value.str x t from r);subst e;exact Cu prog w x t
theorem zf{P:Program}{w:World}:∀{a:List Key}{b:List Value},Vals (a.map kV) b->ItemsAre (dF P w) a b
 | [],_,r=>by rw[aia]at r;cases r;exact .nil
 | k::a,_,r=>by
  rw[aay]at r;cases r with
  | cons h t=>exact .cons (G3 h) (zf t)
abbrev KT(H:Hp):List (List Key×V)->List (List Key×Addr×Value)->Prop:=Paired λp q=>p.1=q.1/\H q.2.1=some (.tup (p.1.map kV))/\RelV p.2 q.2.2
theorem KT.val{xs:List (List Key×Addr×Value)}(r:KT H Z xs)(k:List Key):v7 (iy Z k) ((atKey xs k).map (·.2)):=by
 induction r with
 | nil=>exact True.intro
 | @cons p q i a h t f =>
  obtain⟨d,_,g⟩:=h;by_cases e:p.1=k
  ·have c:q.1=k:=d.symm.trans e;have b:atKey (q::a) k=some q.2:=by simp[atKey,ahl,c]
   rw[dz e,b];exact g
  ·have c:¬q.1=k:=λz=>e (d.trans z);have b:atKey (q::a) k=atKey a k:=by simp[atKey,ahl,c]
   rw[dh e,b];exact f
theorem KT.repl{xs:List (List Key×Addr×Value)}(r:KT H Z xs)(k:List Key){y:V}{u:Value}(d:RelV y u):
  KT H (Z.map λb=>if b.1=k then (pq b.1 y)else b) (xs.map (putAt k u)):=by
 induction r with
 | nil=>exact .nil
 | @cons p q j i h t f =>
  rw[aay,aay];refine .cons ?_ f;obtain⟨a,c,g⟩:=h;unfold putAt;by_cases e:p.1=k
  ·rw[if_pos e,if_pos (a.symm.trans e)];exact(a,c,d)
  ·rw[if_neg e,if_neg (λz=>e (a.trans z))];exact(a,c,g)
theorem KT.put{xs:List (List Key×Addr×Value)}(r:KT H Z xs)(k:List Key){b:Addr}{y:V}{u:Value}(d:H b=some (.tup (k.map kV)))(a:RelV y u):
  KT H (putK Z k y) (storedH xs k b u):=by
 have e:(Z.any λc=>decide (c.1=k))=(atKey xs k).isSome:=by
  rw[jW,(r.val k).isSome_eq,aiQ]
 unfold putK storedH;rw[e];by_cases q:(atKey xs k).isSome=true
 ·rw[if_pos q,if_pos q];exact r.repl k a
 ·rw[if_neg q,if_neg q];exact Paired.snoc r (rfl,d,a)
theorem KT.keeps{H':Hp}{xs:List (List Key×Addr×Value)}(r:KT H Z xs)(ht:∀b ys,H b=some (.tup ys)->H' b=some (.tup ys)):KT H' Z xs:=
 Paired.mapP r λ_ _ z=>(z.1,ht _ _ z.2.1,z.2.2)
section
variable{P:Program}
theorem Qe{u:HO}(b:Uw P w H h)(e:Rd H a u):bH P w H h a u:=e.ok b
theorem Hg{b:List (Key×V)}(d:Uw P w H h)(e:Rd H a (.dK b)):b.length<=sizeLine/\(a == sysModules)=false /\ ∃c,KV b c/\h.DictOf (dF P w) a c:=
 show bH P w H h a (.dK b)from Qe d e
theorem SJ{b:List (Key×V)}(d:Uw P w H h)(e:H a=some (.dK b)):b.length<=sizeLine/\(a == sysModules)=false /\ ∃c,KV b c/\h.DictOf (dF P w) a c:=Hg d (.inl e)
theorem zT{b:List Key}(d:Uw P w H h)(e:H a=some (.tup (b.map kV))):(tupleKind (dF P w)).is h b a:=by
 obtain⟨_,c,r,o,i,g,n,f⟩:=(show bH P w H h a (.tup (b.map kV))from d a _ e);exact(o,c.toArray,n,i,g,f,by simpa using zf r)
theorem HD(d:Uw P w H h)(e:Rd H a (.dT Z)):Z.length<=sizeLine/\(a == sysModules)=false /\
  ∃xs,KT H Z xs/\h.DictOfH (tupleKind (dF P w)) a xs:=by
 obtain⟨z,y,xs,r,o,u,v,s,n,k,j,i⟩:=(show bH P w H h a (.dT Z)from Qe d e);refine(z,y,xs,r,o,u,v,s,n,k,j,λx b=>?_,i);have c:∀{l:List (List Key×V)} {m:List (List Key×Addr×Value)},KT H l m -> ∀x∈m,(tupleKind (dF P w)).is h x.1 x.2.1:=by
  intro l m q
  induction q with
  | nil=>intro x b;exact nomatch b
  | @cons p q B A f t g =>
   intro x b;rcases aaQ.mp b with e|b
   ·subst e;exact zT d (by rw[<-f.1];exact f.2.1)
   ·exact g x b
 exact c r x b
theorem S8(b:Uw P w H h)(e:H a=some (.dT Z)):Z.length<=sizeLine/\(a == sysModules)=false /\
  ∃xs,KT H Z xs/\h.DictOfH (tupleKind (dF P w)) a xs:=HD b (.inl e)
end
def z8(H:Hp)(a:Addr)(y:V)(r:Option V):Prop:=
 (∃c k,Rd H a (.dK c)/\y=kV k/\r=iy c k) \/ ∃c k b,Rd H a (.dT c)/\y=.ref b/\H b=some (.tup (k.map kV))/\r=iy c k
def Sy(H:Hp)(a:Addr)(y v:V)(H':Hp):Prop:=
 (∃c k,H a=some (.dK c)/\y=kV k/\c.length<sizeLine/\H'=upd H a (.dK (putK c k v))) \/
 ∃c k b,H a=some (.dT c)/\y=.ref b/\H b=some (.tup (k.map kV))/\c.length<sizeLine/\H'=upd H a (.dT (putK c k v))
theorem z8.k{H:Hp}{a:Addr}{b:List (Key×V)}{k:Key}(e:H a=some (.dK b)):z8 H a (kV k) (iy b k):=.inl (b,k,.inl e,rfl,rfl)
section
variable{y v:V}{u:Value}{o:Option V}
theorem Inv.big(I:Inv X π σ H s):sysModules<s.heap.objs.size:=by
 have h:mainGlobals<s.heap.objs.size:=(I.mod.glob.keeps I.bk).lt;exact aiX (by decide) h
theorem Jc{Q:Value->Shared->Prop}(D:A.units+1<cLine)(I:Inv X π σ H s)(g:z8 H a y (some v))(x:RelV y u)(h:∀d t,Inv X π σ H t->RelV v d->Q d t):
  wpAny (model X.prog X.w) A (getItem (.ref a) u) Q E s:=by
 rcases g with ⟨n,k,e,i,l⟩|⟨n,k,b,e,i,G,l⟩
 ·subst i;obtain⟨z,hd,C,c,j⟩:=Hg I.hok e;obtain⟨d,f,m⟩:=v7.some_of (v:=v) (o:=valueAt C k) (by rw[l];exact c.val k);exact wpAny_getItem_of (G3 x) j.mapOf f (h d _ (I.tok _) m)
 ·subst i;cases (show u=Value.ref b from x);obtain⟨z,hd,B,c,j⟩:=HD I.hok e;obtain⟨d,f,m⟩:=v7.some_of (v:=v) (o:=(atKey B k).map (·.2)) (by rw[l];exact c.val k);obtain⟨p,F,q⟩:=abF.mp f;refine wpAny_getItem_heap (tupleKind_room_in1 D) (zT I.hok G) j F ?_;rw[q];exact h d _ (I.tok _) m
theorem Ti{Q:Value->Shared->Prop}(n:A.units+1<cLine)(I:Inv X π σ H s)(g:z8 H a y o)(m:RelV y u)(h:∀j,Inv X π σ H j->Q (.bool o.isSome) j):
  wpAny (model X.prog X.w) A (compareOp .In u (.ref a)) Q E s:=by
 rcases g with ⟨i,k,e,d,l⟩|⟨i,k,b,e,d,p,l⟩
 ·subst d;obtain⟨z,hd,x,c,f⟩:=Hg I.hok e;refine wpAny_in_of (G3 m) hd f.mapOf ?_;rw[<-(c.val k).isSome_eq,<-l];exact h _ (I.tok _)
 ·subst d;cases (show u=Value.ref b from m);obtain⟨z,hd,t,c,f⟩:=HD I.hok e;refine wpAny_in_heap (tupleKind_room_in1 n) (zT I.hok p) hd f ?_;have q:=(c.val k).isSome_eq;rw[aiQ]at q;rw[<-q,<-l];exact h _ (I.tok _)
theorem G8{h':Heap}{t':Nat}{c:HO}(I:Inv X π σ H s)(f:Xo (H a))(g:Heap.SameBut a s.heap h')(h:∃q,h'.get? a=some q)(d:bH X.prog X.w (upd H a c) h' a c):
  Inv X π σ (upd H a c) { s with heap:=h',toks:=t' }:=
 I.write (x:=a) (e:=a) f (.inl rfl) (λb q i z=>(g.2 b i).trans z) h d
theorem QJ{w:World}{H':Hp}{h':Heap}{b:List (Key×V)}{c:List (Key×Value)}(z:b.length<=sizeLine)(hd:(a == sysModules)=false)(d:KV b c)(dd:h'.DictOf (dF prog w) a c):
  bH prog w H' h' a (.dK b):=(z,hd,c,d,dd)
theorem HS{H':Hp}{Q:Unit->Shared->Prop}(N:A.units+1<cLine)(I:Inv X π σ H s)(g:Sy H a y v H')(D:RelV y u)(F:RelV v r)(h:∀C,Inv X π σ H' C->Q () C):
  wpAny (model X.prog X.w) A (setItem (.ref a) u r) Q E s:=by
 rcases g with ⟨f,k,e,t,l,x⟩|⟨f,k,b,e,t,K,l,x⟩
 ·subst t x;obtain⟨z,hd,M,d,B⟩:=SJ I.hok e;have m:M.length<=sizeLine:=by rw[<-d.length];exact z
  have p:(putK f k v).length<=sizeLine:=by have:=tG f k v;lia
  refine wpAny_setItem_pairs (hsz:=m) (G3 D) B λG j n=>h _ ?_;have O:∃q,G.get? a=some q:=let ⟨q,_,_,i,_⟩:=j;(q,i);exact G8 I (by rw[e];exact True.intro) n O (QJ p hd (d.put k F) j)
 ·subst t x;cases (show u=Value.ref b from D);obtain⟨z,hd,L,d,B⟩:=S8 I.hok e;have m:L.length<=sizeLine:=by rw[<-Paired.length d];exact z
  have p:(putK f k v).length<=sizeLine:=by have:=tG f k v;lia
  refine wpAny_setItem_heap (hsz:=m) (tupleKind_room_in1 N) (zT I.hok K) B λG j n=>h _ ?_;obtain⟨q,U,V,i,T,S,R,_,P⟩:=j;refine G8 I (by rw[e];exact True.intro) n (q,i) (p,hd,_,(d.put k K F).keeps λc W J=>?_,q,U,V,i,T,S,R,P);rw[aJ (RV J e (λz=>nomatch z))];exact J
end
section
variable{kvs:List (Key×V)}{k:Key}{u:Value}
end
def RZ(i:Expr):Prop:=∀a b,subscripted i false a b=operate [a,b] (getItem a b)
theorem Oa{prog:Program}{w:World}{A:Around}{E:Value->Shared->Prop}{s:Shared}{j:Env}{pos:Pos}{T id:String}{Q:Value->Shared->Prop}
  (p:typeLookup (.type T) "__getitem__" = pure (some (.builtin id)))(n:RZ b)
  (h:wpAny (model prog w) A (eval e j) (λo f=>wpAny (model prog w) A (eval b j) (λi a=>a.TypeIs o T/\wpAny (model prog w) A (getItem o i) Q E a) E f) E s):
  wpAny (model prog w) A (eval (.Subscript e b pos) j) Q E s:=by
 refine Subscript_ (wpAny_mono h (λo f l=>wpAny_mono l (λi a c=>?_) λ_ _ x=>x) λ_ _ x=>x);obtain⟨m,c⟩:=c;unfold subscriptTail;refine wpAny_bind ?_;rw[getitemInPython_of_ne m.not_modules];refine wpAny_bind (wpAny_specialOf m p ?_);have g:wpAny (model prog w) A (subscripted b false o i) (λr d=>wpAny (model prog w) A (letTemporaryGo e o r >>= λ_=>pure r) Q E d) E a:=by
  rw[n o i];exact wpAny_operating (wpAny_mono c (λr d k=>wpAny_bind (wpAny_letTemporaryGo (wpAny_pure k))) λ_ _ x=>x)
 first
  | exact wpAny_pure (wpAny_bind g)
  | exact wpAny_bind (wpAny_pure (wpAny_bind g))
  | exact wpAny_bind g
theorem CP{X:Cx}{σ:St}{s:Shared}{a:Addr}{y:V}{o:Option V}(I:Inv X π σ H s)(g:z8 H a y o):s.TypeIs (.ref a) "dict":=by
 rcases g with ⟨d,k,e,_,_⟩|⟨d,k,b,e,_,_,_⟩
 ·obtain⟨_,_,h,_,c⟩:=Hg I.hok e;exact c.typeIs
 ·obtain⟨_,_,f,_,c⟩:=HD I.hok e;exact c.typeIs
inductive Oz(Q:VK)(x:V)(y:V)(H2:Hp):Prop
 | mk (a v:_) (_:x=.ref a) (_:z8 H2 a y (some v)) (_:Q v H2)
def Kr(a:TE)(σ:St)(Q:VK):VK:=λx b=>a σ b (Oz Q x)
def R1(c b:TE):TE:=λ a H Q=>c a H (Kr b a Q)
inductive RD(Q:VK)(y:V)(x:V)(H2:Hp):Prop
 | mk (a o:_) (_:x=.ref a) (_:z8 H2 a y o) (_:Q (.bl o.isSome) H2)
def PP(a:TE)(σ:St)(Q:VK):VK:=λy b=>a σ b (RD Q y)
def TQ(b c:TE):TE:=λ a H Q=>b a H (PP c a Q)
inductive O7(D:Ends)(σ:St)(v:V)(x:V)(y:V)(H3:Hp):Prop
 | mk (a H4:_) (_:x=.ref a) (_:Sy H3 a y v H4) (_:D.nx σ H4)
def Ml(a:TE)(D:Ends)(σ:St)(v:V):VK:=λx b=>a σ b (O7 D σ v x)
def Mr(b:TE)(a:TE)(D:Ends)(σ:St):VK:=λv c=>b σ c (Ml a D σ v)
def R9(d b c:TE):TS:=λD a H=>c a H (Mr d b D a)
section
variable{i value:Expr}{pos pos' tpos:Pos}{td ty tv:TE}
theorem O1(n:X.A.units+1<cLine)(q:PE X o td)(r:PE X i ty)(p:RZ i):PE X (.Subscript o i pos) (R1 td ty):=by
 intro c s b H Q I h;refine Oa PySem.F.slot_dict_getitem.lookup p (Uh (q c s b H _ I h) λu f ⟨x,D,B,k,m⟩=>Uh (r c f b D _ B m) λK J ⟨y,C,d,j,a,v,t,g,l⟩=>?_);subst t;obtain rfl:u=Value.ref a:=k;exact(CP d g,Jc n d g j λE G z w=>(v,C,z,w,l))
theorem Rj(n:X.A.units+1<cLine)(q:PE X i ty)(p:PE X o td):PC X .In i o (TQ ty td):=by
 intro c s b H Q I h;refine Uh (q c s b H _ I h) λE d ⟨y,B,w,f,l⟩=>Uh (p c d b B _ w l) λu D ⟨x,z,v,j,a,m,r,g,k⟩=>?_;subst r;obtain rfl:u=Value.ref a:=j;exact Ti n v g f λC t=>(.bl m.isSome,z,t,rfl,k)
theorem Hw(t:X.A.units+1<cLine)(z:PE X o td)(B:PE X i ty)(q:PE X value tv)(w:swapsWith value (some (.Subscript o i pos')) pos.line X.env=pure false):
  PS X (.Assign [.Subscript o i pos'] value pos) (R9 td ty tv):=by
 intro c s b H D I h;refine wpAny_Assign_Subscript (Uh (q c s b H _ I h) λr f ⟨v,M,J,l,p⟩=>Uh (z c f b M _ J p) λu d ⟨x,L,G,k,n⟩=>Uh (B c d b L _ G n) λP O ⟨y,Q,F,j,a,K,C,g,m⟩=>?_) w;subst C;obtain rfl:u=Value.ref a:=k;exact HS t F g j l λN E=>(b,K,E,m)
end
theorem Lp{w:World}(h:Heap)(a:sysModules<h.objs.size):bH prog w H (h.push { cls:=.type "dict",data:=.dict #[] }) h.objs.size (.dK []):=
 (aaP _,beq_eq_false_iff_ne.mpr (ags (aat a)),[],.nil,Heap.DictOf.new h)
def Rh:TE:=λ_ H Q=>∀p,H p=none->Q (.ref p) (upd H p (.dK []))
section
variable{pos:Pos}
theorem BX:PE X (.Dict [] [] pos) Rh:=λ c s b H Q I h =>
 wpAny_Dict_empty (.ref s.heap.objs.size,_,I.laid (a:=s.heap.objs.size) (o:=.dK []) (t':=s.toks) (λ_ _ q=>Heap.get?_push_of_some _ q) (aad _) (Lp s.heap I.big),rfl,h _ (I.hok.fresh (aad _)))
end
structure M1(X:Cx)(o:Expr)(m:Str)(apos:Pos)(e:Expr)(cpos:Pos):Prop where
 base:attributeBase o m X.env (eval o X.env)=eval o X.env
 few:((backTo cpos (starEach [e] X.env)).all (λx=>!x.1) && (backToKw cpos (keywordEach [] X.env)).all (λx=>x.1.isSome)
  && decide (([e]:List Expr).length+([]:List Keyword).length+(if ([]:List Keyword).isEmpty then 0 else 1)<30))=true
 line:(apos.endLine == cpos.line)=true
 trees:backTo cpos (starEach [e] X.env)=[(pq false (eval e X.env))]
section
variable{y d:V}{u:Value}{o:Option V}
end
section
variable{f:Expr}{cpos:Pos}{td ty tx:TE}
end
section
variable{kvs:List (Key×V)}
end
section
variable{y:V}{u:Value}
end
end L2
namespace Yp
open PySem.W PySem.Calls PyProof.Rows
section
variable{K:Frag}
end
end Yp
namespace L2
open PySem.Spec PyProof.Rows
section
variable{P:Program}
end
section
variable{κ:Type}[DecidableEq κ]
end
section
variable{rest:List Stmt}{t u:TS}
def Tj(t u:TS):TS:=λD c H=>∃R:St->Hp->Prop,t { D with nx:=R } c H /\ ∀a b,R a b->u D a b
theorem NQ(i:PS X st t)(g:Vf X rest u):Vf X (st::rest) (Tj t u):=by
 rintro b s c H D I ⟨R,h,e⟩;refine wpAny_execs_cons (Uh (i b s c H { D with nx:=R } I h) λf d q=>?_);cases f with
 | next =>
  obtain⟨a,k,j,q⟩:=q;exact g b d a k D j (e _ _ q)
 | ret v=>exact q
 | brk=>exact q
 | cont=>exact q
theorem tH{x:Str}{d:Stmt}{ps:List Str}{f:Addr}{fd:FuncData}{j k:Nat}{E:XK}{e:Expr}{p pos:Pos}{t:TA}(D:Tw.Df X.K X.mg x d ps f fd)(F:aV X.prog X.w X.K X.mg X.base CX j f fd ps sp)(i:j<=k)(h:eY k X.A)(g:sS CX X E)(l:Gl X x)
  (o:PA X (e::B) t)(c:(x == ("__debug__" : Str))=false:=by decide)(n:starEach (e::B) X.env=(pq false (eval e X.env))::starEach B X.env:=by rfl)(a:(backTo pos (starEach B X.env)).any (·.1)=false:=by rfl):
  PE X (.Call (.Name x p) (e::B) [] pos) (Kq sp [] E t):=NP (F.mono i) h l D.m D.F.kp D.b .nil g o c n a
theorem aF{x:Str}{c:Stmt}{ps:List Str}{f:Addr}{fd:FuncData}{j k:Nat}{e:Expr}{p pos:Pos}{t:TA}(D:Tw.Df X.K X.mg x c ps f fd)(F:aV X.prog X.w X.K X.mg X.base Ui j f fd ps sp)(d:eY k X.A)
  (l:PA X (e::B) t)(g:j<=k:=by decide)(h:Gl X x:=by rfl)(b:(x == ("__debug__" : Str))=false:=by decide)(i:starEach (e::B) X.env=(pq false (eval e X.env))::starEach B X.env:=by rfl)(a:(backTo pos (starEach B X.env)).any (·.1)=false:=by rfl):
  PE X (.Call (.Name x p) (e::B) [] pos) (Kq sp [] E0 t):=tH D F g d S6 h l b i a
end
end L2
namespace Tw
theorem iU{k:Nat}{b:Int}(h:d[k]?=some b):(d.take (k+1)).sum=(d.take k).sum+b:=by
 rw[acI,h];simp[ahC]
theorem ji{a:List Int}(h:bc a)(i:Nat):∀j:Nat,i<=j->(a.take i).sum<=(a.take j).sum
 | 0,c=>by
  have:i=0:=by lia
  subst this;exact ai8 _
 | j+1,c=>by
  by_cases e:i=j+1
  ·subst e;exact ai8 _
  have:=ji h i j (by lia);cases q:a[j]? with
  | none =>
   rw[acI,q];simp;exact this
  | some b =>
   rw[iU q];have:=h b (aag q);lia
theorem Bg:∀l:List Int,blk (l.map λx=>1 - x)=2^l.length - 1 - blk l
 | []=>by simp[blk]
 | x::l=>by
  rw[aay,aaE,aiV];simp only[blk];rw[Bg l];lia
theorem BZ:∀(l:List Int) (k:Nat),k<=l.length->((l.map λx=>1 - x).take k).sum=k - (l.take k).sum
 | _,0,_=>by simp
 | [],k+1,h=>by simp at h
 | x::l,k+1,h=>by
  have:=BZ l k (by simpa using h);rw[aay,ahy,ahy,aho,aho,this];lia
theorem turned{b:Int}(j:0<=b)(i:b<2^32):(∀k:Nat,k<32->bit (2^32 - 1 - b) k=1 - bit b k) /\ ∀k:Nat,k<=32->ones (2^32 - 1 - b) k=k - ones b k:=by
 have c:=Dq b 32;have e:=Bx 32 b j i;have h:=gA b 32;have ht:bc ((bits b 32).map λx=>1 - x):=λx g=>by
  obtain⟨y,f,rfl⟩:=aaT.mp g;have:=c y f;lia
 have d:blk ((bits b 32).map λx=>1 - x)=2^32 - 1 - b:=by rw[Bg,h,e]
 refine(λk a=>?_,λk a=>?_)
 ·rw[<-d,uP ht,aah,vK a];rfl
 ·rw[<-d,nH ht,BZ _ _ (by lia),<-nH c,e]
theorem Mx(b t:Int)(ht:0<=t):∀n:Nat,t<ones b n -> ∃k,k<n/\bit b k=1/\ones b k=t
 | 0,h=>by
  rw[rZ]at h;lia
 | n+1,h=>by
  by_cases c:t<ones b n
  ·obtain⟨k,e,a⟩:=Mx b t ht n c;exact(k,by lia,a)
  ·rw[iC]at h;have d:bit b n=0\/bit b n=1:=by
    unfold bit;lia
   exact(n,by lia,by lia,by lia)
theorem oX:∀(l:List Int) (u:Int),bc (brk l u)
 | [],u=>λb a=>.inl (ag4 a)
 | d::r,u=>λb a=>by
  simp only[brk,abd,aaQ]at a;rcases a with a|rfl|a
  ·exact .inl (ag4 a)
  ·exact .inr rfl
  ·exact oX r _ b a
theorem KQ{k:Nat}{b:Int}(h:d[k]?=some b):(d.take (k+1)).sum=(d.take k).sum+b:=by
 rw[acI,h];simp
theorem Ac{ds:List Int}(h:gF ds):∀k:Nat,k<=(brk ds 0).length -> ∃a:Nat,a<=ds.length/\a<=k/\((brk ds 0).take k).sum=a/\(brk ds 0).drop k=brk (ds.drop a) (ht (brk ds 0) k)/\Dp (ds.drop a) (ht (brk ds 0) k)
 | 0,_=>(0,aaP _,aad _,rfl,by rw[jm];rfl,by rw[jm];exact h.dp)
 | k+1,q=>by
  obtain⟨a,o,t,s,i,n⟩:=Ac h k (by lia);have c:(brk ds 0)[k]?=some (brk ds 0)[k]:=aac (by lia);have p:(brk ds 0).drop k=(brk ds 0)[k]::(brk ds 0).drop (k+1):=acL (by lia);rw[p]at i;have b:=kJ c;have g:=KQ c;rcases Bq n i.symm with ⟨z,_,d,e⟩|⟨r,m,z,d,e⟩
  ·rw[z]at b g;exists a,o,by lia,by lia,?_
   ·rw[b,d];congr 1;lia
   ·rw[b,show ht (brk ds 0) k+2*0 - 1=ht (brk ds 0) k - 1 from by lia];exact e
  ·rw[z]at b g;have f:a<ds.length:=by
    have:=congrArg agD m;rw[ab9,aaE]at this;lia
   have l:ds.drop (a+1)=r:=by
    have:ds.drop (a+1)=(ds.drop a).drop 1:=by rw[ahK]
    rw[this,m];rfl
   have j:ht (brk ds 0) k+2*1 - 1=ht (brk ds 0) k+1:=by lia
   exists a+1,f,by lia,by lia,?_
   ·rw[b,j,l];exact d
   ·rw[b,j,l];exact e
theorem n6{ds:List Int}(a:gF ds):(brk ds 0).length=2*ds.length:=by
 rw[lR a.dp];show 0+_=_;lia
theorem Cj{ds:List Int}(e:gF ds){k:Nat}(n:k<(brk ds 0).length):((brk ds 0)[k]?=some 0/\0<ht (brk ds 0) k)\/((brk ds 0)[k]?=some 1 /\ ∃a:Nat,((brk ds 0).take k).sum=a/\a<ds.length/\ds[a]?=some (ht (brk ds 0) k)):=by
 obtain⟨a,p,o,g,c,f⟩:=Ac e k (by lia);have b:(brk ds 0)[k]?=some (brk ds 0)[k]:=aac (by lia);have l:(brk ds 0).drop k=(brk ds 0)[k]::(brk ds 0).drop (k+1):=acL (by lia);rw[l]at c;rcases Bq f c.symm with ⟨z,u,h,m⟩|⟨r,d,z,h,m⟩
 ·exact .inl (by rw[b,z],by lia)
 ·refine .inr (by rw[b,z],a,g,?_,?_)
  ·have:=congrArg agD d;rw[ab9,aaE]at this;lia
  ·have:=agx (xs:=ds) (i:=a) (j:=0);rw[d]at this;exact this.symm
theorem u0{ds:List Int}(a:gF ds):Tree (brk ds 0):=by
 have i:=n6 a;have n:0<ds.length:=(aab.mp a.1).1;refine(by lia,?_,λk h e=>?_)
 ·obtain⟨c,m,l,j,d,b⟩:=Ac a _ (aad _);rw[ahP]at d;exact(O8 b d.symm).2
 ·rcases Cj a e with ⟨_,z⟩|⟨_,c,p,o,g⟩
  ·exact z
  ·obtain⟨_,_,_,_,_,b⟩:=Ac a k (by lia);have f:=b.pos;rcases aea c with rfl|z
   ·unfold ht at f;lia
   ·have:=a.one z g;lia
theorem Ou{ds:List Int}(a:gF ds){k:Nat}(b:(brk ds 0).length<=k):((brk ds 0).take k).sum=ds.length:=by
 have h:=(u0 a).2.1;have c:=n6 a;unfold ht at h;rw[agp]at h;rw[aai b];lia
theorem Dj{ds:List Int}(a:gF ds):(brk ds 0).sum=ds.length:=by
 have:=Ou a (k:=(brk ds 0).length) (aad _);rw[agp]at this;exact this
theorem M6{ds:List Int}(e:gF ds){i p:Nat}(a:(brk ds 0)[p]?=some 1)(h:((brk ds 0).take p).sum=(i:Int)):ds[i]?=some (ht (brk ds 0) p):=by
 have d:=(aab.mp a).1;rcases Cj e d with ⟨z,_⟩|⟨_,b,g,f,c⟩
 ·rw[z]at a;cases a
 ·have:b=i:=by lia
  subst this;exact c
structure Pair(ns:List Int)(a b:Nat):Prop where
 lt:a<b
 Yy:b<ns.length
 one:ns[a]?=some 1
 nought:ns[b]?=some 0
 eq:ht ns (b+1)=ht ns a
 above:∀k,a<k->k<=b->ht ns a<ht ns k
theorem pH(m:bc d){a k:Nat}(g:d[a]?=some 1)(f:eF d a d.length (ht d a) (k+1)):Pair d a k:=by
 obtain⟨r,q,p,h⟩:=f;have e:=kJ g;have b:a<k:=by
  rcases aaq a k with z|z
  ·exact z
  ·have:k=a:=by lia
   subst this;lia
 have n:=h k b (by lia);rcases Rg m (show k<d.length by lia)with ⟨c,j⟩|⟨c,j⟩
 ·lia
 ·exact(b,by lia,g,c,by lia,λi l o=>h i l (by lia))
theorem Kw(a:List Int)(n:Nat):UV a n=(agd n).map (λk=>(a.take (32*k)).sum)++[(a.take (32*n)).sum]:=by
 unfold UV;rw[agw,aal];rfl
theorem DQ{ds:List Int}(a:gF ds){i:Nat}(h:ds[i]?=some m):0<=m:=by
 rcases aea i with z|z
 ·subst z;rw[a.1]at h;have:=aao h;lia
 ·have:=a.one z h;lia
theorem QZ(b:bc d){m:Nat}(h:(m:Int)<d.sum):∃p,d[p]?=some 1/\(d.take p).sum=(m:Int):=by
 have:∀n:Nat,n<=d.length->(m:Int)<(d.take n).sum -> ∃p,d[p]?=some 1/\(d.take p).sum=(m:Int):=by
  intro n
  induction n with
  | zero =>
   intro _ z;rw[aiz]at z;have:([]:List Int).sum=0:=rfl;lia
  | succ n a =>
   intro f z;have e:=aac (show n<d.length by lia);rw[iU e]at z;by_cases c:(m:Int)<(d.take n).sum
   ·exact a (by lia) c
   ·rcases b _ (acJ (show n<d.length by lia))with y|y
    ·lia
    ·rw[y]at e z;exact(n,e,by lia)
 exact this d.length (aad _) (by rw[agp];exact h)
def run(ds:List Int)(k:Nat)(g:Int):Nat:=((ds.drop k).takeWhile λx=>decide (g<x)).length
theorem yD{ds:List Int}{k:Nat}{x:Int}(h:ds[k]?=some x):ds.drop k=x::ds.drop (k+1):=by
 have a:=(aab.mp h);rw[acL a.1,a.2]
theorem Ak{ds:List Int}{k:Nat}{g x:Int}(h:ds[k]?=some x)(a:g<x):run ds k g=run ds (k+1) g+1:=by
 unfold run;rw[yD h,aiE,if_pos (decide_eq_true a),aaE]
theorem HH{ds:List Int}{k:Nat}{g x:Int}(h:ds[k]?=some x)(a:¬g<x):run ds k g=0:=by
 unfold run;rw[yD h,aiE,if_neg (λz=>a (of_decide_eq_true z))];rfl
theorem Hf{ds:List Int}{k:Nat}{g:Int}(h:ds.length<=k):run ds k g=0:=by
 unfold run;rw[aio h];rfl
theorem Be{ds:List Int}{g:Int}:∀(n k:Nat),(∀m,m<n -> ∃x,ds[k+m]?=some x/\g<x)->(∀x,ds[k+n]?=some x -> ¬g<x)->run ds k g=n
 | 0,k,_,h=>by
  cases e:ds[k]? with
  | none=>exact Hf (ag0.mp e)
  | some x=>exact HH e (h x (by rw[aic];exact e))
 | n+1,k,a,d=>by
  obtain⟨x,e,c⟩:=a 0 (by lia);rw[aic]at e;rw[Ak e c,Be n (k+1) (λm f=>by
   obtain⟨y,e,b⟩:=a (m+1) (by lia);exact(y,by rw[<-e];congr 1;lia,b)) (λy e=>d y (by rw[<-e];congr 1;lia))]
theorem u6{ds:List Int}{g:Int}:∀(n k:Nat),run ds k g=n->(∀m,m<n -> ∃x,ds[k+m]?=some x/\g<x)/\(∀x,ds[k+n]?=some x -> ¬g<x)
 | 0,k,h=>by
  refine(λm d=>absurd d (agU _),λx e c=>?_);rw[aic]at e;rw[Ak e c]at h;lia
 | n+1,k,h=>by
  cases e:ds[k]? with
  | none =>
   rw[Hf (ag0.mp e)]at h;lia
  | some x =>
   by_cases c:g<x
   ·rw[Ak e c]at h;obtain⟨a,b⟩:=u6 (ds:=ds) (g:=g) n (k+1) (by lia);refine(λm d=>?_,λy e=>b y (by rw[<-e];congr 1;lia));rcases aea m with z|z
    ·subst z;exact(x,e,c)
    ·obtain⟨y,e,f⟩:=a (m - 1) (by lia);exact(y,by rw[<-e];congr 1;lia,f)
   ·rw[HH e c]at h;lia
end Tw
namespace L2
open PySem.Spec PyProof.Rows
theorem LQ(a b:Int):Builtin.Range.rangeSize a b (-1)=((a - b).toNat:Int):=by
 unfold Builtin.Range.rangeSize;rw[if_neg (by decide),show (- -1:Int)=1 from rfl,aiW];split <;> lia
theorem Ea{a b:Int}(d : -1<=a)(c : -1<=b)(g:a<536870912)(f:b<536870912):Builtin.Range.small a b (-1)=true:=by
 unfold Builtin.Range.small Builtin.Range.rangeFitsLong;rw[LQ];have e:(2:Int)^63=9223372036854775808:=by decide
 rw[e,if_neg (by decide)];refine iZ (iZ (iZ (iZ (iZ (decide_eq_true ?_) (decide_eq_true ?_)) (iZ (decide_eq_true ?_) (decide_eq_true ?_))) (by decide)) (iZ (decide_eq_true ?_) (decide_eq_true ?_))) ?_
 ·lia
 ·lia
 ·lia
 ·lia
 ·lia
 ·lia
 ·rw[ahh];exact .inr (iZ (decide_eq_true (by lia)) (decide_eq_true (by lia)))
inductive Im(R:It->Hp->Prop)(vs:List V)(H1:Hp):Prop
 | mk (a b:Int) (_:vs=[.int a,.int b,.int (-1)]) (_ : -1<=a) (_ : -1<=b) (_:a<536870912) (_:b<536870912) (_:R (WR a (-1) (a - b).toNat) H1)
def Ot(b:TA):TI:=λ a H R=>b a H (Im R)
theorem CG{a b c:Expr}{p pos:Pos}(J:Gl X "range")(G:X.mg "range" = none)(L:PA X [a,b,c] t)(F:starEach [a,b,c] X.env=[(pq false (eval a X.env)),(pq false (eval b X.env)),(pq false (eval c X.env))]:=by rfl)
  (j:starEach [b,c] X.env=[(pq false (eval b X.env)),(pq false (eval c X.env))]:=by rfl):PI X tg (.Call (.Name "range" p) [a,b,c] [] pos) (Ot t):=by
 intro u s n H R I h;refine Call_ (eO I J G boot_range (PyProof.Rows.callWith_type1 (Uh (L pos u s n H _ I h) λQ g ⟨P,v,O,w,A⟩=>?_) (by rw[F,j]) (by rw[j];rfl)));obtain⟨x,y,e,C,B,E,D,q⟩:=A;subst e;cases w with
 | cons r i =>
  cases i with
  | cons z i =>
   cases i with
   | cons m i =>
    cases i;obtain⟨d,rfl⟩:=r;obtain⟨k,rfl⟩:=z;obtain⟨f,rfl⟩:=m;refine call_range_3 (by decide) ?_ (.inl (PyProof.noPylong_small (by decide)));refine wpAny_pyIter_range (IsRange.new ..) (Ea C B E D) ?_
    have l:Inv X u n v { g with heap:=g.heap.push { cls:=.type "range",data:=.fields #[.int x d,.int y k,.int (-1) f] },toks:=g.toks }:=O.kept λb o e=>Heap.get?_push_of_some _ e
    refine((g.heap.push { cls:=.type "range",data:=.fields #[.int x d,.int y k,.int (-1) f] }).objs.size,[(g.heap.push { cls:=.type "range",data:=.fields #[.int x d,.int y k,.int (-1) f] }).objs.size],_,_,v,rfl,
     l.kept (t':=g.toks) λb o e=>Heap.get?_push_of_some _ e,sI _ x (-1) (x - y).toNat,?_,λb K=>?_,q)
    ·have N:x+((0:Nat):Int)*(-1)=x:=by lia
     have M:(((x - y).toNat:Nat):Int) - ((0:Nat):Int)=Builtin.Range.rangeSize x y (-1):=by rw[LQ];lia
     show IsRangeIter _ _ (x+((0:Nat):Int)*(-1)) ((((x - y).toNat:Nat):Int) - ((0:Nat):Int)) (-1);rw[N,M];exact Heap.get?_push_size _ rfl
    ·have e:b=(g.heap.push { cls:=.type "range",data:=.fields #[.int x d,.int y k,.int (-1) f] }).objs.size:=by simpa using K
     subst e;exact l.fpOk (aad _) (l.hok.fresh (aad _))
end L2
namespace Tw
end Tw
namespace L2
open PySem.Spec PyProof.Rows
def Ed(K:PySem.W.Frag)(a:List (Str×Nat))(tt:TT)(b:TE)(σ:St)(Q:VK):It->Hp->Prop:=λJ c=>wJ K J (fM a σ) tt b (λD d=>Q (.ref D) d) c
def NB(K:PySem.W.Frag)(b:TI)(a:List (Str×Nat))(tt:TT)(c:TE):TE:=λ σ H Q=>b σ H (Ed K a tt c σ Q)
theorem pR{i:Nat}{y x :Str}{r g pos d:Pos}{E:List (Str×Addr)}{iter:Expr}{U:TI}{tt:TT}(hN:X.N.Nodup)(XC:X.N[i]?=some y)(V:X.env.scope.names.lookup y=some .local)(hc:X.calm=true)
  (u:pM X x qual G scope E)(hi:PI X (.Tuple [.Name x p,.Name qual apos] n r) iter U)
  (ht:∀C t L F,Ws (bI X (x::qual::G.map (·.1)) scope E C t L F) B tt)(he:∀C t L F,PE (bI X (x::qual::G.map (·.1)) scope E C t L F) e ta)
  (P:swapsWith (.ListComp e [(.Tuple [.Name x p,.Name qual apos] n r,iter,B,0)] scope pos) (some (.Name y g)) d.line X.env=pure true:=by rfl)(hs:∀x,foldedSetIterable iter X.env x=pure x:=by intro _;rfl):
  PS X (.Assign [.Name y g] (.ListComp e [(.Tuple [.Name x p,.Name qual apos] n r,iter,B,0)] scope pos) d) (Ib (NB X.K U G tt ta) (gB i)):=by
 intro π s σ H W I h;rw[exec_Assign_Name_used _ _ _ _ P];refine wpAny_bind (wpAny_standAt (wpAny_bind ?_));show wpAny _ X.A (do let _ <-comprehension (.ListComp e [(.Tuple [.Name x p,.Name qual apos] n r,iter,B,0)] scope pos) scope X.env _ (newList []) false (eval iter X.env) (some (assign (.Name y g) X.env))) _ _ s;refine wpAny_bind (wpAny_mono (wpAny_comprehension_free (use:=some (assign (.Name y g) X.env)) (Q:=λ_ j=>SP X π W .next j) rfl hs u.o.clos u.o.kind u.o.names
  (Uh (hi π s σ H _ I h) λv t h1=>Uh h1 λa0 s2 h2=>?_)) (λ_ j hq=>wpAny_pure (wpAny_pure hq)) λ_ _ c=>c)
 obtain⟨it,fp,tn,J,H2,c,I2,T,M,f2,Z⟩:=h2;subst c;refine sY (RR:=λS C=>compPost (model X.prog X.w) X.A X.xe (some (assign (.Name y g) X.env)) (λ_ j=>SP X π W .next j) S C) I2 hc u T M f2 ht he Z ?_;intro D C j H' m I' hn f q;show wpAny _ X.A (assign (.Name y g) X.env (.ref D)) _ _ _;refine wpAny_assign_Name (nY (v:=.ref D) I' hN XC (.inl V) rfl (λO XD ch=>(m,?_,λR l=>?_)) (.inr V))
 ·obtain⟨a,Y,k⟩:=ch;refine hn.sameBut Y λqual=>?_;rcases k with k|k
  ·exact f.2.1 (qual.trans k)
  ·exact f.2.2.2.2.1 _ a k qual.symm
 ·exact(_,H',XD.turned (h':=R) (t':=O.toks) (λb o hb c=>l.extBut b o hb c) f.1 f.2.1 f.2.2.2.1 f.2.2.2.2.1 f.2.2.2.2.2,q)
end L2
namespace Tw
theorem yO{a b:Addr}{os bs:List Int}{k:L2.St}{tt:TT}(n:Int->Int->Bool)(g:Int->Int->Int)(I:My K H a (os.map V.int))(G:My K H b (bs.map V.int))(L:os.length=bs.length)(hz:os.length<sizeLine)
  (B:∀(x y:Int) (H':Hp) (Q:Bool->Hp->Prop),aQ H H'->Q (n x y) H'->tt (some (.int x)::some (.int y)::k) H' Q)
  (J:∀(x y:Int) (H':Hp) (Q:VK),aQ H H'->Q (.int (g x y)) H'->ta (some (.int x)::some (.int y)::k) H' Q)
  (q:∀D H',H D=none->aQ H H'->H' D=some (.lst ((((os.zip bs).filter λp=>n p.1 p.2).map λp=>g p.1 p.2).map V.int))->z D H'):wJ K (WT K a b) k tt ta z H:=by
 intro D u;exists λi m t s=>m=os.length - i/\i<=os.length/\aQ H s/\t=(((((os.zip bs).take i).filter λp=>n p.1 p.2).map λp=>g p.1 p.2).map V.int)/\s D=some (.lst t),(_,rfl,aaP _,az u _,rfl,au);rintro i m t s ⟨rfl,M,h,rfl,d⟩;have w:=h.seq I;have A:=h.seq G;by_cases j:i<os.length
 ·have E:(os.map V.int)[i]?=some (.int os[i]):=by rw[aah,aac j];rfl
  have C:(bs.map V.int)[i]?=some (.int (bs[i]'(by omega))):=by rw[aah,aac (by omega)];rfl
  refine .inr ((_,_,_,_,w,A,E,C),λv N y=>?_);obtain⟨p,x,y,F,rfl,rfl,r,o⟩:=y;have r:=r _ w;have o:=o _ A;rw[E]at r;rw[C]at o;cases r;cases o;have l:=az F (.tup [.int os[i],.int (bs[i]'(by omega))]);have f:(os.zip bs).take (i+1)=(os.zip bs).take i++[(pq (os[i]) (bs[i]'(by omega)))]:=by
   rw[acI,aac (by rw[ai9];lia)];simp
  refine(p,_,_,rfl,Uj.of au,B _ _ _ _ (h.trans l) ?_);by_cases c:n os[i] (bs[i]'(by omega))=true
  ·rw[if_pos c];refine J _ _ _ _ (h.trans l) (l _ _ d,?_,os.length - (i+1),by lia,rfl,j,bQ (h.trans l) u _,?_,au)
   ·have:=ahm (λp:Int×Int=>n p.1 p.2) ((os.zip bs).take i);rw[aaD]at this;rw[aaa,aaa];lia
   ·rw[f,ahF,aal,aal];simp[c]
  ·rw[if_neg c];refine(os.length - (i+1),by lia,rfl,j,h.trans l,?_,l _ _ d);rw[f,ahF,aal,aal];simp[c]
 ·have e:i=os.length:=by lia
  subst e;refine .inl ((_,_,w,A,.inl (by rw[aaa];exact aad _)),q D s u h ?_);rw[aai (by rw[ai9];lia)]at d;exact d
end Tw
namespace L2
open PySem.Spec PyProof.Rows
inductive Tc(x:V)(vs:List V)(H:Hp)(Q:VK):Prop
 | mk (i:_) (_:x=.int i) (_:vs=[]) (_:Q (.int (Builtin.Int.intBits i)) H)
theorem xJ:Xy X "int.bit_length" Tc:=by
 intro d s c H x e v f Q I a b h;obtain⟨i,rfl,rfl,q⟩:=h;obtain⟨t,rfl⟩:=a;cases b;exact call_int_bit_length (.int (Builtin.Int.intBits i),H,I.tok _,(_,rfl),q)
end L2
namespace Tw
def fO(b:Bool)(t:SetTable):Prop:=t.led=b/\t.place.toList.Pairwise (· < ·)
theorem ql{xs:Array Nat}(h:xs.toList.Pairwise (· < ·)){i j:Nat}(a:i<j)(b:j<xs.size):xs[i]'(by omega)<xs[j]:=by
 have:=aca.mp h i j (by simpa using (by lia:i<xs.size)) (by simpa using b) a;simpa using this
theorem vO{xs:Array Nat}(h:xs.toList.Pairwise (· < ·))(j:Nat):∀(a lo b:Nat),b - lo<=a->lo<=b->b<=xs.size->(∀k (d:k<xs.size),k<lo->xs[k]<j)->(∀k (d:k<xs.size),b<=k->j<=xs[k]) ->
  SetTable.below.go xs j a lo b<=xs.size/\(∀k (d:k<xs.size),k<SetTable.below.go xs j a lo b->xs[k]<j) /\ ∀k (d:k<xs.size),SetTable.below.go xs j a lo b<=k->j<=xs[k]
 | 0,lo,b,n,o,g,f,e=>by
  have:lo=b:=by lia
  subst this;unfold SetTable.below.go;exact(g,f,e)
 | a+1,lo,b,n,o,g,f,e=>by
  unfold SetTable.below.go;by_cases c:lo<b
  ·rw[if_pos c];have l:(lo+b) / 2<xs.size:=by lia
   have p:xs.getD ((lo+b) / 2) j=xs[(lo+b) / 2]:=by simp[aiR,l]
   dsimp only;rw[p];by_cases i:xs[(lo+b) / 2]<j
   ·rw[if_pos i];refine vO h j a _ _ (by lia) (by lia) g (λk d m=>?_) e;rcases aaq k ((lo+b) / 2)with z|z
    ·exact aiX (ql h z l) i
    ·have:k=(lo+b) / 2:=by lia
     subst this;exact i
   ·rw[if_neg i];refine vO h j a _ _ (by lia) (by lia) (by lia) f (λk d m=>?_);rcases aaq ((lo+b) / 2) k with z|z
    ·have:=ql h z d;lia
    ·have:k=(lo+b) / 2:=by lia
     subst this;lia
  ·rw[if_neg c];have:lo=b:=by lia
   subst this;exact(g,f,e)
theorem Bp{xs:Array Nat}(h:xs.toList.Pairwise (· < ·))(j:Nat):SetTable.below xs j<=xs.size/\(∀k (a:k<xs.size),k<SetTable.below xs j->xs[k]<j) /\ ∀k (a:k<xs.size),SetTable.below xs j<=k->j<=xs[k]:=by
 unfold SetTable.below;exact vO h j xs.size 0 xs.size (by lia) (aaP _) (aad _) (λk _ a=>absurd a (agU _)) (λk a b=>by lia)
theorem RL{b:Bool}{t:SetTable}(h:fO b t){j:Nat}(q:t.place[SetTable.below t.place j]? ≠ some j):fO b (t.put j).1:=by
 exists h.1;obtain⟨s,r,o⟩:=Bp h.2 j;show (SetTable.insertAt t.place (SetTable.below t.place j) j).toList.Pairwise (· < ·);rw[SetTable.toList_insertAt];generalize SetTable.below t.place j=p at *;have i:∀x∈t.place.toList.take p,x<j:=λx g=>by
  obtain⟨k,f⟩:=aaM g;have n:=(aab.mp f).1;rw[aaD]at n;rw[acT (by lia),acd]at f;obtain⟨d,e⟩:=ah7.mp f;rw[<-e];exact r k d (by lia)
 have l:∀x∈t.place.toList.drop p,j<x:=λx g=>by
  obtain⟨k,f⟩:=aaM g;rw[agx,acd]at f;obtain⟨d,e⟩:=ah7.mp f;have a:=o (p+k) d (by lia);rcases aea k with z|z
  ·subst z;have:x≠j:=λy=>q (by rw[<-y];exact f);lia
  ·have b:=ql h.2 (show p<p+k by lia) d;have c:=o p (by lia) (aad _);lia
 refine agh.mpr (h.2.sublist (agQ _ _),aie.mpr (l,h.2.sublist (List.drop_sublist _ _)),λx g y m=>?_);rcases aaQ.mp m with rfl|m
 ·exact i x g
 ·exact aiX (i x g) (l y m)
theorem lC{b:Bool}{t:SetTable}(h:t.led=b)(n:Nat):fO b (t.standIn n):=by
 exists h;show (Array.range n).toList.Pairwise (· < ·);rw[Array.toList_range];exact aip
theorem JG{t:SetTable}{j:Nat}(h:∀i,t.slot j ≠ .live i):t.place[SetTable.below t.place j]? ≠ some j:=λe=>by
 refine h (SetTable.below t.place j) ?_;unfold SetTable.slot;simp[e]
theorem vh{t:SetTable}{f:Nat->Int}{h:Int}:∀(a:Nat) (p:SetTable.Probe) (j:Nat) (d:Option Nat),(∀x,p.dummy=some x->t.slot x=.dummy)->SetTable.probe.go t f h a p=some (.empty j d)->t.slot j=.empty /\ ∀x,d=some x->t.slot x=.dummy
 | 0,p,j,d,_,e=>by
  unfold SetTable.probe.go at e;cases e
 | a+1,p,j,d,hd,e=>by
  unfold SetTable.probe.go at e;have g:∀q:SetTable.Probe,(t.advance q).dummy=q.dummy:=λq=>by
   unfold SetTable.advance;split <;> rfl
  cases c:t.slot p.j with
  | empty =>
   rw[c]at e;cases e;exact(c,hd)
  | dummy =>
   rw[c]at e;refine vh a _ j d (λx b=>?_) e;rw[g]at b;cases b;exact c
  | live i =>
   rw[c]at e;dsimp only at e;split at e
   ·cases e
   ·exact vh a _ j d (λx b=>hd x (by rw[g]at b;exact b)) e
theorem xn{t:SetTable}{j:Nat}{w:Bool}(e:t.freeSlot m=some (pq j w)):∀i,t.slot j ≠ .live i:=by
 unfold SetTable.freeSlot SetTable.probe at e;split at e
 ·rename_i a d c;cases e;obtain⟨g,f⟩:=vh _ _ _ _ (λx b=>by cases b) c;cases d with
  | none =>
   intro i z;rw[show (none:Option Nat).getD a=a from rfl,g]at z;cases z
  | some x =>
   intro i z;rw[show (some x:Option Nat).getD a=x from rfl,f x rfl]at z;cases z
 ·cases e
theorem Ah{b:Bool}{t:SetTable}(h:fO b t)(n:Nat):fO b (t.orStandIn n):=by
 unfold SetTable.orStandIn;split
 ·exact h
 ·exact lC h.1 n
theorem IW{b:Bool}{t:SetTable}(h:fO b t)(c:Array (Int×Value))(i:Int)(x:Value):fO b (layNew t c i x).2.1:=by
 unfold layNew;split
 ·rename_i a w e;exact Ah (RL h (JG (xn e))) _
 ·exact lC h.1 _
theorem Pn{m f v:Nat}{l p:Bool}{g:Array Int}{t:SetTable}{o:Array Nat}(e:SetTable.laid m f v l p g=some (pq t o)):fO l t:=by
 unfold SetTable.laid at e;cases h:SetTable.layClean m g with
 | none =>
  rw[h]at e;cases e
 | some j =>
  rw[h]at e;cases e;exists rfl;show (List.toArray _).toList.Pairwise (· < ·);rw[aiS];refine List.Pairwise.filterMap _ (R:=(· < ·)) (λa n d b i k c=>?_) aip;obtain⟨x,_,rfl⟩:=abF.mp i;obtain⟨y,_,rfl⟩:=abF.mp c;exact d
theorem Dk{b:Bool}{t:SetTable}(h:fO b t)(a:Array (Int×Value))(n:Nat):fO b (relayAll t a n).2.1:=by
 unfold relayAll;split
 ·rename_i c o e;dsimp only;split
  ·have:=Pn e;rw[h.1]at this;exact this
  ·exact lC h.1 _
 ·exact lC h.1 _
theorem Mg{b:Bool}{t:SetTable}(h:fO b t):fO b { t with plain:=false }:=h
open PySem.Spec PyProof.Rows
section
variable{α β:Type}
theorem J6{f:α->β}{k l:List β}(h:agj k l):∀L:List α,L.map f=l -> ∃g,agj g L/\g.map f=k:=by
 induction h with
 | nil =>
  intro L e;exact(L,.rfl,e)
 | cons x p r =>
  intro L e;cases L with
  | nil=>cases e
  | cons a L =>
   rw[aay]at e;injection e with d c
   obtain⟨g,o,t⟩:=r L c;exact(a::g,o.cons a,by rw[aay,t,d])
 | swap x y l =>
  intro L e
  match L,e with
  | a::b::L,e =>
   rw[aay,aay]at e;injection e with d c
   injection c with c s
   exact(b::a::L,.swap a b L,by rw[aay,aay,d,c,s])
 | trans p q j i =>
  intro L e;obtain⟨v,n,d⟩:=i L e;obtain⟨u,m,c⟩:=j v d;exact(u,m.trans n,c)
end
section
variable{K:Type}[DecidableEq K]{knd:KeyKind prog w K}{b:Bool}
structure nJ(knd:KeyKind prog w K)(es:List (Int×Value))(ks:List K)(ps:List (K×(Int×Value))):Prop where
 snd:ps.map (·.2)=es
 fst:agj (ps.map (·.1)) ks
 is:∀p∈ps,knd.is p.1 p.2.2=true/\p.2.1=knd.hash p.1/\p.2.2.scannable=true
theorem nJ.elems{c:List K}{ps:List (K×(Int×Value))}(h:nJ knd U c ps):ElemsOf knd U:=λe a=>by
 rw[<-h.snd]at a;obtain⟨p,d,rfl⟩:=aaT.mp a;obtain⟨i,g,f⟩:=h.is p d;exact((p.1,i,g),f)
theorem nJ.size{a:List K}{ps:List (K×(Int×Value))}(h:nJ knd U a ps):U.length=a.length:=by
 rw[<-h.snd,aaa,<-h.fst.length_eq,aaa]
theorem nJ.mem{d:List K}{ps:List (K×(Int×Value))}(h:nJ knd U d ps)(k:K):k∈d ↔ ∃e∈U,knd.is k e.2=true:=by
 rw[<-h.fst.mem_iff];constructor
 ·intro c;obtain⟨p,a,rfl⟩:=aaT.mp c;exact(p.2,by rw[<-h.snd];exact aaT.mpr (p,a,rfl),(h.is p a).1)
 ·rintro⟨e,f,c⟩;rw[<-h.snd]at f;obtain⟨p,a,rfl⟩:=aaT.mp f;have:=knd.inj _ _ _ c (h.is p a).1;rw[this];exact aaT.mpr (p,a,rfl)
theorem nJ.perm{c:List (Int×Value)}{f:List K}{ps:List (K×(Int×Value))}(h:nJ knd U f ps)(p:agj c U):∃a,nJ knd c f a:=by
 obtain⟨a,d,e⟩:=J6 p ps h.snd;exact(a,e,(d.map _).trans h.fst,λq g=>h.is q (d.mem_iff.mp g))
theorem nJ.push{c:List K}{ps:List (K×(Int×Value))}(h:nJ knd U c ps){k:K}{x:Value}(e:knd.is k x=true)(d:x.scannable=true):nJ knd (U++[(pq (knd.hash k) x)]) (c++[k]) (ps++[(pq k ((pq (knd.hash k) x)))]):=by
 refine(by rw[aal,h.snd];rfl,by rw[aal];exact h.fst.append_right _,λp a=>?_);rcases abd.mp a with a|a
 ·exact h.is p a
 ·rw[aas.mp a];exact(e,rfl,d)
def jE(b:Bool)(knd:KeyKind prog w K)(h:Heap)(a:Addr)(e:List K):Prop:=
 ∃o c f t d,h.get? a=some o/\o.ExactSet/\o.data=.set c f t/\c.size<scanBound/\t.fits c.size=true/\fO b t/\nJ knd c.toList e d
theorem MK{a:Addr}{o:Obj}{l:Array (Int×Value)}{t:SetTable}(i:h'.get? a=some o)(d:o.ExactSet)(hd:o.data=.set l n t)
  {c:Array (Int×Value)}{t':SetTable}{e:List K}{ps:List (K×(Int×Value))}(k:c.size<scanBound)(j:t'.fits c.size=true)(ht:fO b t')(f:nJ knd c.toList e ps):
  (h'.update a (Obj.putSet c t')).get? a=some { o with data:=.set c (n+1) t' }/\jE b knd (h'.update a (Obj.putSet c t')) a e:=by
 have g:=Heap.get?_update_self (Obj.putSet c t') i (by rw[putSet_of c t' hd];rfl);rw[putSet_of c t' hd]at g;exact(g,_,c,n+1,t',ps,g,d,rfl,k,j,ht,f)
theorem Qg{g:Bool->Sem Unit}(G:∀(c:Bool) (u:Shared) (Q1:Unit->Shared->Prop),Q1 () u->wpAny (model prog w) A (g c) Q1 E u)
  {a:Addr}{o:Obj}{I d:Array (Int×Value)}{t :SetTable}{v:List K}{ps:List (K×(Int×Value))}{C:Bool}{R:Option Bool->Shared->Prop}
  (y:s.heap.get? a=some o)(e:o.ExactSet)(hd:o.data=.set I n t)(l:d.size<scanBound)(H:O.fits d.size=true)(ht:fO b O)(x:nJ knd d.toList v ps)
  (h:∀m,Heap.SameBut a s.heap m->jE b knd m a v->R (some true) { s with heap:=m }):
  wpAny (model prog w) A (do
   storeSet a d O
   if (!C && O.tooFull)=true then do
    g (relayAll O d (SetTable.grown d.size)).2.2
    storeSet a (relayAll O d (SetTable.grown d.size)).1 (relayAll O d (SetTable.grown d.size)).2.1
    pure (some true)
   else pure (some true)) R E s:=by
 obtain⟨z,D⟩:=MK (knd:=knd) y e hd l H ht x;have B:=Heap.SameBut.update s.heap a (Obj.putSet d O);refine wpAny_bind (wpAny_storeSet_of y hd ?_ (fits_of_scanBound l));split
 ·have j:=relayAll_perm O d (SetTable.grown d.size);have p:=relayAll_fits O d (SetTable.grown d.size);have k:=Dk ht d (SetTable.grown d.size);generalize relayAll O d (SetTable.grown d.size)=r at j p k ⊢;obtain⟨i,L,M⟩:=r;dsimp only at j p k ⊢;obtain⟨J,q⟩:=x.perm j;have F:i.size=d.size:=by simpa using j.length_eq
  have f:i.size<scanBound:=F ▸ l;refine wpAny_bind (G _ _ _ (wpAny_bind (wpAny_storeSet_of z rfl ?_ (fits_of_scanBound f))));exact wpAny_pure (h _ (B.trans (Heap.SameBut.update _ a _)) (MK (knd:=knd) z e rfl f p k q).2)
 ·exact wpAny_pure (h _ B D)
theorem Ow{a:Addr}{d:List K}{k:K}{x:Value}{Q:Bool->Shared->Prop}(f:knd.is k x=true)(l:x.scannable=true)(Y:jE b knd s.heap a d)(P:d.length+1<scanBound)
  (h:∀g,Heap.SameBut a s.heap g->jE b knd g a (if k∈d then d else d++[k])->Q (!decide (k∈d)) { s with heap:=g }):
  wpAny (model prog w) A (setAddHashed a x (knd.hash k)) Q E s:=by
 obtain⟨o,i,Z,t,U,u,m,hd,T,H,ht,r⟩:=Y;have C:=r.elems;have hn:i.size=d.length:=by simpa using r.size
 unfold setAddHashed setAddHashedIn;refine wpAny_holding (wpAny_bind (wpAny_setState_of u hd H ?_));dsimp only;rw[byScan_of l T C,if_pos rfl];unfold setAddByScan;refine wpAny_bind (wpAny_bind (wpAny_rule (wpAny_bind (wpAny_setScan_of f u hd H C ?_))));have S:=r.mem k;cases R:List.findIdx? (λe=>knd.is k e.2) i.toList with
 | some j =>
  obtain⟨W,N,_⟩:=List.findIdx?_eq_some_iff_getElem.mp R;have v:k∈d:=S.mpr (_,acJ W,N);have e:s={ s with heap:=s.heap }:=by cases s;rfl
  have q:=h s.heap (Heap.SameBut.refl a s.heap) (by rw[if_pos v];exact(o,i,Z,t,U,u,m,hd,T,H,ht,r));rw[decide_eq_true v]at q;dsimp only;rw[e];exact wpAny_pure (wpAny_pure q)
 | none =>
  have v:¬k∈d:=λz=>by
   obtain⟨e,X,V⟩:=S.mp z;have:=List.findIdx?_eq_none_iff.mp R e X;rw[V]at this;cases this
  rw[if_neg v,decide_eq_false v]at h;dsimp only;have n:=layNew_perm t i (knd.hash k) x;have y:=layNew_fits t i (knd.hash k) x;have p:=IW ht i (knd.hash k) x;generalize layNew t i (knd.hash k) x=L at n y p ⊢;obtain⟨O,t1,wd,gv⟩:=L;dsimp only at n y p ⊢;rw[agE]at n;obtain⟨a0,B⟩:=(r.push f l).perm n;have D:O.size<scanBound:=by
   have:=n.length_eq;rw[aaf,agv,aae,aae]at this;lia
  have G:∀(c:Bool) (F:Shared) (M:Unit->Shared->Prop),M () F->wpAny (model prog w) A (match c with|true=>rule "set.scan.the-table-gave-way" | false=>pure ()) M E F:=λc F M q=>by
   cases c
   ·exact wpAny_pure q
   ·exact wpAny_rule q
  refine wpAny_bind (G _ _ _ ?_);split
  ·refine wpAny_bind ?_;rw[hashByValue_scannable 8 l];refine wpAny_pure (Qg (b:=b) G u m hd D ?_ ?_ B λg J I=>?_)
   ·split
    ·exact y
    ·exact SetTable.fits_plain_off y
   ·split
    ·exact p
    ·exact Mg p
   ·exact wpAny_pure (h g J I)
  ·refine wpAny_bind (wpAny_pure ?_);rw[if_pos rfl];exact Qg (b:=b) G u m hd D y p B λg J I=>wpAny_pure (h g J I)
end
section
variable{K:Type}[DecidableEq K]
def met(f:Nat->K):Nat->List K
 | 0=>[]
 | n+1=>if f n∈met f n then met f n else met f n++[f n]
theorem uR(f:Nat->K):∀(n:Nat) (k:K),k∈met f n ↔ ∃i,i<n/\f i=k
 | 0,k=>by simp[met]
 | n+1,k=>by
  unfold met;have a:=uR f n;constructor
  ·intro h;split at h
   ·obtain⟨i,c,b⟩:=(a k).mp h;exact(i,by lia,b)
   ·rcases abd.mp h with h|h
    ·obtain⟨i,c,b⟩:=(a k).mp h;exact(i,by lia,b)
    ·exact(n,by lia,(aas.mp h).symm)
  ·rintro⟨i,c,rfl⟩;rcases aaq i n with z|z
   ·have:=(a (f i)).mpr (i,z,rfl);split
    ·exact this
    ·exact agz _ this
   ·have e:i=n:=by lia
    subst e;split
    ·assumption
    ·exact aaw _ (aas.mpr rfl)
theorem nR(f:Nat->K):∀n:Nat,(met f n).Nodup
 | 0=>.nil
 | n+1=>by
  unfold met;split
  ·exact nR f n
  ·rename_i h;refine aiT.mpr (nR f n,by simp,λa d b c e=>?_);rw[aas.mp c]at e;exact h (e ▸ d)
theorem uL(f:Nat->K):∀n:Nat,(met f n).length<=n
 | 0=>aad _
 | n+1=>by
  unfold met;have:=uL f n;split
  ·lia
  ·rw[aaf,agv];lia
theorem Dc(f:Nat->K){i:Nat}:∀n:Nat,i<=n->(met f i).length<=(met f n).length
 | 0,h=>by
  have:i=0:=by lia
  subst this;exact aad _
 | n+1,h=>by
  rcases aaq i (n+1)with z|z
  ·have:=Dc f n (show i<=n by lia);show _<=(if f n∈met f n then met f n else met f n++[f n]).length;split
   ·exact this
   ·rw[aaf];lia
  ·have:i=n+1:=by lia
   subst this;exact aad _
end
section
variable{K:Type}[DecidableEq K]{knd:KeyKind prog w K}{R:Result->Shared->Prop}{I:Addr}{fp wr:List Addr}{G:Array GenState->Array GenState->Prop}{P:Nat->Value->Prop}{St:Nat->Shared->Prop}{b:Bool}
theorem jE.at{h':Heap}{a:Addr}{c:List K}(g:jE b knd base a c)(e:∀o,base.get? a=some o->h'.get? a=some o):jE b knd h' a c:=by
 obtain⟨o,i,j,t,d,f,r⟩:=g;exact(o,i,j,t,d,e o f,r)
theorem R5(W:WalksS prog w A.in1 I fp wr G n P St)(S:Addr)(t:S∉fp)(f:Nat->K)(Q:∀i v,P i v->knd.is (f i) v=true/\v.scannable=true)(T:(met f n).length+1<scanBound):
  ∀(k i:Nat) (s:Shared),n - i=k->i<=n->St i s->jE b knd s.heap S (met f i) ->
   (∀a,Moved (S::wr) G s a->jE b knd a.heap S (met f n)->R (.ok (.ret .none)) a) ->
   codeAny (model prog w) A (.builtin "set.update.loop" ([.ref S,.ref I],[])) R s:=by
 have B:S∉wr:=λz=>t (W.sub _ z);have l:∀c∈wr,c∈S::wr:=λc j=>.tail _ j;intro k
 induction k with
 | zero =>
  intro i s O C d x q;obtain rfl:i=n:=by lia
  refine codeAny_builtin PyProof.Rows.F.entry_set_update_loop ?_;rw[Around.under_plainId PyProof.Rows.F.plain_set_update_loop _];refine wpAny_bind (m:=pyNext (.ref I)) (W.done s _ _ d λa h=>?_);exact wpAny_pure (q a (h.mono l) (x.at λo e=>h.heap S _ B e))
 | succ k M =>
  intro i s O C d x q;have p:i<n:=by lia
  refine codeAny_builtin PyProof.Rows.F.entry_set_update_loop ?_;rw[Around.under_plainId PyProof.Rows.F.plain_set_update_loop _];refine wpAny_bind (m:=pyNext (.ref I)) (W.item i s _ _ p d λv a N u h=>?_);obtain⟨r,y⟩:=Q i v N;refine wpAny_bind (m:=holding [v] (setAdd S v)) (wpAny_holding ?_);unfold setAdd;refine wpAny_holding (wpAny_bind (knd.pyHash r ?_));have g:(met f i).length+1<scanBound:=by
   have:=Dc f n C;lia
  refine Ow (s:={ a with toks:=a.toks+1 }) r y (x.at λo e=>h.heap S _ B e) g λU D H=>?_;refine wpAny_pure (plainId_quiet PyProof.Rows.F.plain_set_update_loop _,M (i+1) _ (by lia) p (W.frame _ a _ _ u (agS _) λc j o e=>?_) H λJ L E=>?_)
  ·rw[D.2 c (λz:c=S=>t (z ▸ j))];exact e
  ·refine q J (Moved.trans W.gtrans ((h.mono l).then_heap (agS _) λc o j e=>?_) L) E;rw[D.2 c (λz:c=S=>j (by rw[z];exact .head _))];exact e
theorem Ro(b:Bool){a:Addr}(e:h'.get? a=some { cls:=.type "set",dict:=none,data:=.set #[] 0 (.fresh 0 0 b) }):jE b knd h' a []:=
 (_,#[],0,_,[],e,(rfl,rfl,rfl),rfl,by decide,rfl,(rfl,.nil),rfl,.nil,λp c=>by cases c)
end
section
variable{K:Type}[DecidableEq K]{knd:KeyKind prog w K}
def cQ(w:World):Bool:=!w.params.followText "set-order"
abbrev newS(w:World):Obj:={ cls:=.type "set",dict:=none,data:=.set #[] 0 (.fresh 0 0 (cQ w)) }
theorem JQ(x:Value){Q:Value->Shared->Prop}(h:Q (.ref s.heap.objs.size) { s with heap:=s.heap.push (newS w) }):
  codeAny (model prog w) A (.call (.builtin "set.__new__") ([.type "set",x],[])) (wants Q E) s:=by
 refine codeAny_of_tree ?_
 refine wpAny_bind (m:=checkBuiltinCall "set.__new__" ([.type "set",x],[])) (wpAny_of_eq (PySem.F.newCall_set_1 x) (wpAny_pure (plainId_quiet PySem.F.plain_set_new _,codeAny_builtin PySem.F.entry_set_new ?_)))
 rw[Around.under_plainId PySem.F.plain_set_new _];unfold Builtin.«set.__new__» Builtin.Frozenset.newClass;have a:=PySem.sub_set_self;obtain⟨e,g,d,b,c⟩:=s;dsimp only
 wp_walk
 refine wpAny_askSetting (wpAny_pure ?_);dsimp only;simp only[newObj];refine wpAny_bind (wpAny_alloc (wpAny_pure ?_));exact wpAny_pure h
set_option maxRecDepth 100000 in
set_option maxHeartbeats 3200000 in
theorem yX{l:Addr}{f:Nat->K}{Q:Value->Shared->Prop}(hh:A.handled=none)(hl:s.heap.IsList l D)(hf:∀i v,D[i]?=some v->knd.is (f i) v=true/\v.scannable=true)(hb:(met f D.size).length+1<scanBound)
  (h:∀(a:Heap) (tk:Nat),jE (cQ w) knd a s.heap.objs.size (met f D.size)->(∀c o,c<s.heap.objs.size->s.heap.get? c=some o->a.get? c=some o)->Q (.ref s.heap.objs.size) { s with heap:=a,toks:=tk }):
  wpAny (model prog w) A (call (.type "set") [.ref l]) Q E s:=by
 obtain⟨c,tl,T⟩:=PySem.F.called_set.mro;have H:=PySem.F.called_set.made;have S:=PySem.F.called_set.sub
 refine wpAny_call (codeAny_of_tree (show wpAny _ _ (callAny (.type "set") _) _ _ _ from ?_))
 refine wpAny_pure (Code.quiet_builtin _ (by decide +kernel),codeAny_builtin PySem.F.entry_type_call ?_)
 rw[Around.under_plain (weight_type_call_type "set" [.ref l] []) rfl]
 have n1:=PySem.F.called_set.notType;have n2:=PySem.F.called_set.canCreate;have n3:=PySem.F.typeCall_set_1 (.ref l)
 repeat (any_goals (first|assumption|wp_step))
 refine codeAny_mono (JQ (.ref l) (E:=E) (Q:=λL J=>L=.ref s.heap.objs.size/\J={ s with heap:=s.heap.push (newS w) }) (rfl,rfl)) λr J x=>?_;cases r with
 | error e=>exact x
 | ok fl =>
  cases fl with
  | ret L =>
   obtain⟨rfl,rfl⟩:=x;have O:(s.heap.push (newS w)).get? s.heap.objs.size=some (newS w):=Heap.get?_push_size _ rfl
   have hT:Shared.TypeIs { s with heap:=s.heap.push (newS w) } (.ref s.heap.objs.size) "set":=(_,O,rfl)
   have i1:=PySem.F.called_set.init.lookup;have i2:=PySem.F.called_set.init.bind (.ref s.heap.objs.size)
   repeat (any_goals (first|assumption|wp_step))
   refine codeAny_mono (codeAny_call_builtin (R:=wants (λr I=>r=.none /\ ∃a tk,I={ s with heap:=a,toks:=tk }/\jE (cQ w) knd a s.heap.objs.size (met f D.size)/\(∀c o,c<s.heap.objs.size->s.heap.get? c=some o->a.get? c=some o)) E)
    PySem.F.called_set.init.plain PySem.F.entry_set_init (check_set_init_1 hT ?_)) λX I g=>?_
   ·obtain⟨Y,k,q,M,p⟩:=hl;obtain⟨P,j,G,d⟩:=Y;simp only at q p;subst q;subst p
    have e1:(s.heap.push (newS w)).get? l=some { cls:=.type "list",dict:=j,data:=.seq D M,slots:=d }:=Heap.get?_push_of_some _ k
    have q1:=PySem.F.sub_list_set;have q2:=PySem.F.sub_list_frozenset
    have q3:(Value.type "list" == Value.type "dict")=false:=by decide
    have n:(s.heap.push (newS w)).IsList l D:=(_,e1,rfl,M,rfl);unfold Builtin.«set.__init__» noKeywords Builtin.Frozenset.updateFrom;generalize C:pyIter=PI
    wp_walk
    subst C;refine wpAny_pyIter_list n (wpAny_bind (wpAny_runValue ?_));have m:l<s.heap.objs.size:=Heap.lt_size k;have u:(s.heap.push (newS w)).objs.size=s.heap.objs.size+1:=Heap.size_push ..;have h3:A.in1.in1.in1.handled=none:=by simp[hh]
    have n4:l≠(s.heap.push (newS w)).objs.size:=by rw[u];exact aat (ag5 m)
    have Z:s.heap.objs.size∉[(s.heap.push (newS w)).objs.size,l]:=λz=>by
     rcases aaQ.mp z with z|z
     ·exact absurd (z.trans u) (aat (agK _))
     ·exact absurd (aas.mp z).symm (aat m)
    refine R5 (b:=cQ w) (knd:=knd) ((Walks.list h3 _ l n4 D).toS) s.heap.objs.size Z f hf hb (D.size - 0) 0 _ (by lia) (aaP _) ((_,Heap.get?_push_size _ rfl,rfl,rfl),n.push _) (Ro (cQ w) (Heap.get?_push_of_some _ O)) λW t U=>?_;obtain⟨a,g1,d1,y,B⟩:=W;have eg:g1=s.gens:=t.gens;have ed:d1=s.drawn:=t.drawn;have eo:B=s.os:=t.os;subst eg;subst ed;subst eo;refine wpAny_pure (show wpAny _ _ (ret Value.none) _ _ _ from wpAny_pure (rfl,a,y,rfl,U,λc o N e=>?_));refine t.heap c o (λz=>?_) (Heap.get?_push_of_some _ (Heap.get?_push_of_some _ e));rcases aaQ.mp z with z|z
    ·exact absurd z (aat N)
    ·exact absurd ((aas.mp z).trans u) (aat (ag5 N))
   ·cases X with
    | error e=>exact g
    | ok Zo =>
     cases Zo with
     | ret r =>
      obtain⟨rfl,a,tk,rfl,V,k1⟩:=g
      repeat (any_goals (first|assumption|wp_step))
      exact h _ _ V k1
     | _=>exact g.elim
  | _=>exact x.elim
end
theorem fB:Slot "set_iterator" "__next__" "set_iterator.__next__":=
 Slot.of (id := "set_iterator.__next__") (owner := "set_iterator") (n := "__next__") (by rw[typeLookup_type,builtinLookup_eq_fast];kernel_rfl) (by decide +kernel) (by decide +kernel) (by decide +kernel) (by first|exact .inl (by decide +kernel) | exact .inr (by decide +kernel)) (by rw[isSubtype_type];kernel_rfl)
theorem gk:entryFor table "set_iterator.__next__" = some Builtin.«set_iterator.__next__»:=entryFor_of_fast (by kernel_rfl)
theorem ie(x:Value):argsOk "set_iterator.__next__" ([x],[]):=by unfold argsOk;kernel_rfl
theorem G5:Slot "set_iterator" "__iter__" "set_iterator.__iter__":=
 Slot.of (id := "set_iterator.__iter__") (owner := "set_iterator") (n := "__iter__") (by rw[typeLookup_type,builtinLookup_eq_fast];kernel_rfl) (by decide +kernel) (by decide +kernel) (by decide +kernel) (by first|exact .inl (by decide +kernel) | exact .inr (by decide +kernel)) (by rw[isSubtype_type];kernel_rfl)
theorem yg:entryFor table "set_iterator.__iter__" = some Builtin.«dict_keyiterator.__iter__»:=entryFor_alias (id' := "dict_keyiterator.__iter__") (by kernel_rfl) rfl (by decide +kernel) (by kernel_rfl)
theorem zr(x:Value):argsOk "set_iterator.__iter__" ([x],[]):=by unfold argsOk;kernel_rfl
theorem uY:entryFor table "set.__iter__" = some Builtin.«frozenset.__iter__»:=entryFor_alias (id' := "frozenset.__iter__") (by kernel_rfl) rfl (by decide +kernel) (by kernel_rfl)
abbrev Vx(first:Value)(i:Int)(a:Value)(n b:Nat):Obj:={ cls:=.type "set_iterator",data:=.fields #[first,.int i 0,a,.int n 0,.int b 0] }
structure cB(h:Heap)(S:Addr)(o:Obj)(es:Array (Int×Value))(ep:Nat)(t:SetTable):Prop where
 get:h.get? S=some o
 dat:o.data=.set es ep t
 fit:t.fits es.size=true
theorem Ho{o:Obj}{d:Array (Int×Value)}{c nx i:Nat}{t:SetTable}{x:Value}{Q:Option Value->Shared->Prop}(b:s.heap.get? a=some (Vx (.int c 0) i (.ref f) d.size n))(e:cB s.heap f o d n t)
  (g:∀(r:Around) (k:Option (Value×Nat)->Shared->Prop) (q:Value->Shared->Prop),k (some (pq x nx)) s->wpAny (model prog w) r (setNext f c i n) k q s)
  (l:∀h',h'.get? a=some (Vx (.int nx 0) (i+1:Nat) (.ref f) d.size n)->Heap.SameBut a s.heap h'->Q (some x) { s with heap:=h' }):wpAny (model prog w) A (pyNext (.ref a)) Q E s:=by
 have h:s.TypeIs (.ref a) "set_iterator":=(_,b,rfl)
 unfold pyNext
 refine wpAny_bind (wpAny_attempt (wpAny_callSpecial?_slot (name:=Str.ofString "__next__") h fB (wpAny_call_entry fB h gk ?_ (ie _))))
 unfold Builtin.«set_iterator.__next__»
 refine wpAny_bind (m:=slotArgs "__next__" 0 _) (wpAny_pure ?_)
 refine wpAny_bind (wpAny_fieldsOf b rfl ?_);dsimp only;refine wpAny_bind (wpAny_setEntries_of e.get e.dat e.fit ?_);rw[if_neg (by simp)];rw[acb,acb,acb];refine wpAny_bind (g _ _ _ ?_);dsimp only;refine wpAny_bind (wpAny_setField b rfl (by simp) ?_);have j:(s.heap.update a (Obj.mapFields (·.setIfInBounds 0 (rawInt nx)))).get? a=some (Vx (.int nx 0) i (.ref f) d.size n):=Heap.get?_update_self _ b rfl;refine wpAny_bind (wpAny_setField (s:={ s with heap:=s.heap.update a (Obj.mapFields (·.setIfInBounds 0 (rawInt nx))) }) j rfl (by simp) ?_);have p:((s.heap.update a (Obj.mapFields (·.setIfInBounds 0 (rawInt nx)))).update a (Obj.mapFields (·.setIfInBounds 1 (rawInt ((i:Int)+1))))).get? a=some (Vx (.int nx 0) (i+1:Nat) (.ref f) d.size n):=Heap.get?_update_self _ j rfl;exact wpAny_pure (x,rfl,wpAny_pure (l _ p ((Heap.SameBut.update ..).trans (Heap.SameBut.update ..))))
theorem next_end{o:Obj}{j:Array (Int×Value)}{c i:Nat}{t:SetTable}{Q:Option Value->Shared->Prop}(l:A.handled=none)(d:s.heap.get? a=some (Vx (.int c 0) i (.ref f) j.size n))(e:cB s.heap f o j n t)
  (g:∀(r:Around) (k:Option (Value×Nat)->Shared->Prop) (q:Value->Shared->Prop),k none s->wpAny (model prog w) r (setNext f c i n) k q s)
  (p:∀h',Heap.ExtBut a s.heap h'->Q none { s with heap:=h' }):wpAny (model prog w) A (pyNext (.ref a)) Q E s:=by
 have h:s.TypeIs (.ref a) "set_iterator":=(_,d,rfl)
 unfold pyNext
 refine wpAny_bind (wpAny_attempt (wpAny_callSpecial?_slot (name:=Str.ofString "__next__") h fB (wpAny_call_entry fB h gk ?_ (ie _))))
 unfold Builtin.«set_iterator.__next__»
 refine wpAny_bind (m:=slotArgs "__next__" 0 _) (wpAny_pure ?_)
 refine wpAny_bind (wpAny_fieldsOf d rfl ?_);dsimp only;refine wpAny_bind (wpAny_setEntries_of e.get e.dat e.fit ?_);rw[if_neg (by simp),acb,acb,acb];refine wpAny_bind (g _ _ _ ?_);dsimp only;refine wpAny_bind (wpAny_setField d rfl (by simp) ?_)
 refine wpAny_bind (m:=newExc (.type "StopIteration") []) ?_
 simp only[newExc,newTuple];refine wpAny_bind (wpAny_newObj_type ?_ (by size_fits));refine wpAny_bind (m:=firstArgMember _ _) (wpAny_of_eq (a:=Value.none) (by first|rfl | (simp only[firstArgMember];rfl)) ?_);refine wpAny_newObj_type ?_ (by size_fits);simp only[raiseNew];refine wpAny_bind (wpAny_handled ?_);rw[show A.in1.handled=none from l];refine wpAny_bind (wpAny_pure (wpAny_throw ?_))
 refine wpAny_bind (wpAny_isInstance (T := "StopIteration") (b:=true) (_,Heap.get?_push_size _ rfl,rfl) isSubtype_stop ?_)
 exact wpAny_pure (p _ (((Heap.SameBut.update ..).extBut.push _).push _))
theorem pB{b:Type}:∀{l:List b}{i:Nat}{x:b},l[i]?=some x->agj (x::l.eraseIdx i) l
 | [],i,x,h=>by simp at h
 | a::l,0,x,h=>by
  cases h;exact .rfl
 | a::l,i+1,x,h=>by
  rw[List.eraseIdx_cons_succ];exact(List.Perm.swap a x _).trans ((pB (by simpa using h)).cons a)
theorem Hm{c:Type}(nx:Nat->Nat):∀(a k:Nat) (left:List c) (out:Array c),left.length=a->agj (pickOrder.go nx a k left out).toList (out.toList++left)
 | 0,k,left,out,h=>by
  have:left=[]:=ahQ h;subst this;unfold pickOrder.go;simp
 | a+1,k,left,out,h=>by
  have b:nx k%left.length<left.length:=ajv _ (by lia);have e:=aac b;unfold pickOrder.go;rw[e];refine(Hm nx a (k+1) _ _ (by rw[ah8 b];lia)).trans ?_;rw[agE,aa5];exact(pB e).append_left _
theorem rN(nx:Nat->Nat)(xs:Array J):agj (pickOrder nx xs).toList xs.toList:=by
 have:=Hm nx xs.size 0 xs.toList #[] (by simp);rw[ahB]at this;exact this
section
variable{o:Obj}{es:Array (Int×Value)}{ep:Nat}{t:SetTable}
theorem nT{Q:Bool->Shared->Prop}(h:Q (!cQ w) s):wpAny (model prog w) A setsByText Q E s:=by
 unfold setsByText;refine wpAny_bind (wpAny_askSetting (wpAny_pure ?_));unfold cQ at h;rw[ajs]at h;exact h
theorem Cd(a:cB s.heap S o es ep t)(ht:cQ w=false){i:Nat}{Q:Option (Value×Nat)->Shared->Prop}(h:Q (((pickOrder (w.params.setOrder S ep) es)[i]?).map λe=>(pq e.2 n)) s):wpAny (model prog w) A (setNext S n i ep) Q E s:=by
 unfold setNext;refine wpAny_bind (wpAny_setState_of a.get a.dat a.fit ?_);dsimp only;refine wpAny_bind (nT ?_);rw[ht];simp only[ajf,if_true,bne_self_eq_false,ad5,if_false];refine wpAny_bind ?_;unfold setWalk;refine wpAny_bind (wpAny_setState_of a.get a.dat a.fit ?_);dsimp only;refine wpAny_bind (nT ?_);rw[ht];simp only[ajf,if_true];refine wpAny_bind (wpAny_askSetting (wpAny_pure (wpAny_pure h)))
theorem yS(a:cB s.heap S o es ep t)(ht:cQ w=true)(c:t.led=true)(b:¬((!t.plain && decide (es.size > 1))=true)){i:Nat}{Q:Option (Value×Nat)->Shared->Prop}
  (h:Q (match es[SetTable.below t.place n]?,t.place[SetTable.below t.place n]? with|some (_,x),some j=>some (pq x (j+1)) | _,_=>none) s):wpAny (model prog w) A (setNext S n i ep) Q E s:=by
 unfold setNext;refine wpAny_bind (wpAny_setState_of a.get a.dat a.fit ?_);dsimp only;refine wpAny_bind (nT ?_);rw[ht];simp only[ajm,ad5,if_false];split
 ·rename_i d;exact absurd d b
 refine wpAny_bind (show wpAny _ _ (if (!t.led && !es.isEmpty)=true then unsupported "set:maker-not-led" else pure PUnit.unit) _ _ _ from ?_)
 rw[c,ajm,ajd,if_neg aap];exact wpAny_pure (wpAny_pure h)
theorem JL(a:cB s.heap S o es ep t){k:Nat}{e:Int×Value}(b:es[k]?=some e){Q:Value->Shared->Prop}(h:Q e.2 s):wpAny (model prog w) A (setNextDrawn S k ep) Q E s:=by
 unfold setNextDrawn;refine wpAny_bind (wpAny_setState_of a.get a.dat a.fit ?_);dsimp only;rw[bne_self_eq_false,if_neg aap,b];exact wpAny_pure h
theorem Hv{c:Type}:∀(n:Nat) (xs:List c) (s:Shared) {Q:List c->Shared->Prop},xs.length=n->(∀l d,agj l xs->Q l { s with drawn:=d })->wpAny (model prog w) A (drawOrder n xs) Q E s
 | 0,xs,s,Q,a,h=>by
  have:xs=[]:=ahQ a;subst this;unfold drawOrder;have:=h [] s.drawn .rfl;exact wpAny_pure this
 | n+1,[],s,Q,a,h=>by simp at a
 | n+1,x::xs,s,Q,a,h=>by
  unfold drawOrder;refine wpAny_bind ?_;intro Γ p hΓ;rw[show (choose Source.order (x::xs).length:Sem Nat)=Sem.choose .order (x::xs).length pure from rfl,Sem.wp_choose];refine(by simp,?_);generalize (model prog w).w.draws Source.order (s.drawn.get Source.order)=v;have b:v%(x::xs).length<(x::xs).length:=ajv _ (by simp);have e:=aac b
  show wpAny (model prog w) A (match (x::xs)[v%(x::xs).length]? with|some y=>(do return y::(<-drawOrder n ((x::xs).eraseIdx (v%(x::xs).length)))) | none=>unsupported "internal:drawOrder") Q E { s with drawn:=s.drawn.bump Source.order }
  rw[e];refine wpAny_bind (Hv n _ _ (by rw[ah8 b];simp at a ⊢;lia) λl d p=>wpAny_pure (h _ d ((p.cons _).trans (pB e))))
end
section
variable{o:Obj}{es:Array (Int×Value)}{ep:Nat}{t:SetTable}
theorem K4(a:cB s.heap S o es ep t)(g:o.cls=.type "set")(h:es.size<scanBound){Q:Value->Shared->Prop}
  (k:¬((cQ w && (!t.plain && decide (es.size > 1)))=true)->Q (.ref s.heap.objs.size) { s with heap:=s.heap.push (Vx (.int 0 0) 0 (.ref S) es.size ep) })
  (j:(cQ w && (!t.plain && decide (es.size > 1)))=true -> ∀(l:List Nat) d,agj l (agd es.size)->Q (.ref (s.heap.objs.size+1)) { s with heap:=(s.heap.push { cls:=.type "tuple",data:=.seq (l.map λi:Nat=>rawInt i).toArray 0 }).push (Vx (.ref s.heap.objs.size) 0 (.ref S) es.size ep),drawn:=d }):
  wpAny (model prog w) A (pyIter (.ref S)) Q E s:=by
 have f:s.TypeIs (.ref S) "set":=(_,a.get,g)
 refine wpAny_pyIter_slot f PySem.F.slot_set_iter (wpAny_call_entry PySem.F.slot_set_iter f uY ?_ (PySem.F.args_set_iter_1 _));unfold Builtin.«frozenset.__iter__»
 refine wpAny_bind (m:=Builtin.Frozenset.slot0 "__iter__" _) (wpAny_pure ?_)
 refine wpAny_bind (m:=Builtin.Frozenset.sizeOf S) (wpAny_bind (wpAny_setEntries_of a.get a.dat a.fit (wpAny_pure ?_)));refine wpAny_bind (m:=setDrawn S) ?_;unfold setDrawn;refine wpAny_bind (wpAny_setState_of a.get a.dat a.fit ?_);dsimp only;refine wpAny_bind (nT (wpAny_pure ?_));rw[ajs];split
 ·rename_i b;refine wpAny_bind (Hv _ _ _ agm λl d c=>?_);refine wpAny_bind (wpAny_newTuple ?_ (by rw[aaa,c.length_eq,agm];exact fits_of_scanBound h));refine wpAny_bind (wpAny_setEpoch_of (Heap.get?_push_of_some _ a.get) a.dat a.fit ?_)
  refine wpAny_bind (wpAny_newObj_type (wpAny_pure (_,rfl,"set_iterator",_,(_,Heap.get?_push_size _ rfl,rfl),fB.lookup,?_)))
  have e:(s.heap.push { cls:=.type "tuple",data:=.seq (l.map λi:Nat=>rawInt i).toArray 0 }).objs.size=s.heap.objs.size+1:=Heap.size_push ..
  have q:=j b l d c;rw[<-e]at q;exact q
 ·rename_i b;refine wpAny_bind (wpAny_pure ?_);refine wpAny_bind (wpAny_setEpoch_of a.get a.dat a.fit ?_)
  refine wpAny_bind (wpAny_newObj_type (wpAny_pure (_,rfl,"set_iterator",_,(_,Heap.get?_push_size _ rfl,rfl),fB.lookup,?_)))
  exact k b
abbrev Yz(l:List Nat):Obj:={ cls:=.type "tuple",data:=.seq (l.map λi:Nat=>rawInt i).toArray 0 }
theorem Lb{T:Addr}{i k:Nat}{l:List Nat}{e:Int×Value}{Q:Option Value->Shared->Prop}(b:s.heap.get? a=some (Vx (.ref T) i (.ref S) es.size ep))(n:s.heap.get? T=some (Yz l))(c:cB s.heap S o es ep t)(f:l[i]?=some k)(g:es[k]?=some e)
  (h:∀h',h'.get? a=some (Vx (.ref T) (i+1:Nat) (.ref S) es.size ep)->Heap.SameBut a s.heap h'->Q (some e.2) { s with heap:=h' }):wpAny (model prog w) A (pyNext (.ref a)) Q E s:=by
 have d:s.TypeIs (.ref a) "set_iterator":=(_,b,rfl)
 unfold pyNext
 refine wpAny_bind (wpAny_attempt (wpAny_callSpecial?_slot (name:=Str.ofString "__next__") d fB (wpAny_call_entry fB d gk ?_ (ie _))))
 unfold Builtin.«set_iterator.__next__»
 refine wpAny_bind (m:=slotArgs "__next__" 0 _) (wpAny_pure ?_)
 refine wpAny_bind (wpAny_fieldsOf b rfl ?_);dsimp only;refine wpAny_bind (wpAny_setEntries_of c.get c.dat c.fit ?_);rw[if_neg (by simp)];refine wpAny_bind (wpAny_seqItems n rfl ?_);have j:(l.map λi:Nat=>rawInt i).toArray[(i:Int).toNat]?=some (rawInt k):=by
  rw[acb,ahM,aah,f];rfl
 dsimp only;rw[j];dsimp only [rawInt];rw[acb,acb];refine wpAny_bind (JL c g ?_);refine wpAny_bind (wpAny_setField b rfl (by simp) ?_);exact wpAny_pure (_,rfl,wpAny_pure (h _ (Heap.get?_update_self _ b rfl) (Heap.SameBut.update ..)))
theorem Io{T:Addr}{i:Nat}{l:List Nat}{Q:Option Value->Shared->Prop}(g:A.handled=none)(c:s.heap.get? a=some (Vx (.ref T) i (.ref S) es.size ep))(n:s.heap.get? T=some (Yz l))(d:cB s.heap S o es ep t)(f:l[i]?=none)
  (h:∀h',Heap.ExtBut a s.heap h'->Q none { s with heap:=h' }):wpAny (model prog w) A (pyNext (.ref a)) Q E s:=by
 have e:s.TypeIs (.ref a) "set_iterator":=(_,c,rfl)
 unfold pyNext
 refine wpAny_bind (wpAny_attempt (wpAny_callSpecial?_slot (name:=Str.ofString "__next__") e fB (wpAny_call_entry fB e gk ?_ (ie _))))
 unfold Builtin.«set_iterator.__next__»
 refine wpAny_bind (m:=slotArgs "__next__" 0 _) (wpAny_pure ?_)
 refine wpAny_bind (wpAny_fieldsOf c rfl ?_);dsimp only;refine wpAny_bind (wpAny_setEntries_of d.get d.dat d.fit ?_);rw[if_neg (by simp)];refine wpAny_bind (wpAny_seqItems n rfl ?_);have k:(l.map λi:Nat=>rawInt i).toArray[(i:Int).toNat]?=none:=by
  rw[acb,ahM,aah,f];rfl
 dsimp only;rw[k];dsimp only;refine wpAny_bind (wpAny_setField c rfl (by simp) ?_);have j:(s.heap.update a (Obj.mapFields (·.setIfInBounds 0 (rawInt 0)))).get? a=some (Vx (.int 0 0) i (.ref S) es.size ep):=Heap.get?_update_self _ c rfl;refine wpAny_bind (wpAny_setField (s:={ s with heap:=s.heap.update a (Obj.mapFields (·.setIfInBounds 0 (rawInt 0))) }) j rfl (by simp) ?_)
 refine wpAny_bind (m:=newExc (.type "StopIteration") []) ?_
 simp only[newExc,newTuple];refine wpAny_bind (wpAny_newObj_type ?_ (by size_fits));refine wpAny_bind (m:=firstArgMember _ _) (wpAny_of_eq (a:=Value.none) (by first|rfl | (simp only[firstArgMember];rfl)) ?_);refine wpAny_newObj_type ?_ (by size_fits);simp only[raiseNew];refine wpAny_bind (wpAny_handled ?_);rw[show A.in1.handled=none from g];refine wpAny_bind (wpAny_pure (wpAny_throw ?_))
 refine wpAny_bind (wpAny_isInstance (T := "StopIteration") (b:=true) (_,Heap.get?_push_size _ rfl,rfl) isSubtype_stop ?_)
 exact wpAny_pure (h _ ((((Heap.SameBut.update ..).trans (Heap.SameBut.update ..)).extBut.push _).push _))
end
section
variable{it:Addr}{o:Obj}{es:Array (Int×Value)}{ep:Nat}{t:SetTable}
theorem sr(a:s.TypeIs (.ref it) "set_iterator"){Q:Value->Shared->Prop}(h:Q (.ref it) s):wpAny (model prog w) A (pyIter (.ref it)) Q E s:=by
 refine wpAny_pyIter_slot a G5 (wpAny_call_entry G5 a yg ?_ (zr _));show wpAny _ _ (ret (.ref it)) _ _ s
 exact wpAny_pure (_,rfl,"set_iterator",_,a,fB.lookup,h)
theorem cB.at{h':Heap}(a:cB base S o es ep t)(e:∀o,base.get? S=some o->h'.get? S=some o):cB h' S o es ep t:=(e _ a.get,a.dat,a.fit)
abbrev wC(ps:List (Int×Value))(i:Nat)(v:Value):Prop:=∃e,ps[i]?=some e/\v=e.2
theorem JB(p:A.handled=none)(ht:cQ w=false)(k:S≠it):
  Walks prog w A it [it,S] [it] es.size (wC (pickOrder (w.params.setOrder S ep) es).toList) (λi h=>h.get? it=some (Vx (.int 0 0) i (.ref S) es.size ep)/\cB h S o es ep t) where
 sub:=λb c=>by simp at c;simp[c]
 frame:=λ_ _ _ a m=>(m it (by simp) _ a.1,a.2.at λo e=>m S (by simp) o e)
 item:=λi s Q E n a d=>by
  have g:(pickOrder (w.params.setOrder S ep) es).size=es.size:=by
   have:=(rN (w.params.setOrder S ep) es).length_eq;simpa using this
  obtain⟨e,f⟩:∃e,(pickOrder (w.params.setOrder S ep) es)[i]?=some e:=((pickOrder (w.params.setOrder S ep) es)[i]'(by omega),by simp[g,n]);refine Ho a.1 a.2 (x:=e.2) (nx:=0) (λv r u h=>Cd a.2 ht (by rw[f];exact h)) λj q l=>?_;exact d e.2 j s.toks (e,by rw[acd];exact f,rfl) (q,a.2.at λo e=>l.extBut S o k e) λb o c e=>l.extBut b o (λh=>c (by simp[h])) e
 done:=λs Q E a d=>by
  have g:(pickOrder (w.params.setOrder S ep) es).size=es.size:=by
   have:=(rN (w.params.setOrder S ep) es).length_eq;simpa using this
  refine next_end p a.1 a.2 (λv r u h=>Cd a.2 ht (by rw[show (pickOrder (w.params.setOrder S ep) es)[es.size]?=none by simp[g]];exact h)) λj f=>?_;exact d j s.toks λb o c e=>f b o (λh=>c (by simp[h])) e
 self:=λ_ _ _ _ a d=>sr (_,a.1,rfl) d
def slotAt(t:SetTable):Nat->Nat
 | 0=>0
 | i+1=>t.place.getD i 0+1
theorem wQ(h:t.place.toList.Pairwise (· < ·)){i:Nat}(d:i<=t.place.size):SetTable.below t.place (slotAt t i)=i:=by
 obtain⟨k,g,f⟩:=Bp h (slotAt t i);generalize SetTable.below t.place (slotAt t i)=b at k g f;rcases agR b i with c|c|c
 ·exfalso
  match i,d,c,g,f with
  | i+1,d,c,g,f =>
   have a:=f b (by lia) (aad _);have e:slotAt t (i+1)=t.place[i]'(by omega)+1:=by simp[slotAt,aiR,show i<t.place.size by omega]
   rw[e]at a;rcases aaq b i with j|j
   ·have:=ql h j (show i<t.place.size by lia);lia
   ·have:b=i:=by lia
    subst this;lia
 ·exact c
 ·exfalso;have a:=g i (by lia) c
  match i,d,c,a with
  | 0,d,c,a=>exact absurd a (agU _)
  | i+1,d,c,a =>
   have e:slotAt t (i+1)=t.place[i]'(by omega)+1:=by simp[slotAt,aiR,show i<t.place.size by omega]
   rw[e]at a;have:=ql h (show i<i+1 by lia) (show i+1<t.place.size by lia);lia
theorem Fd(v:A.handled=none)(ht:cQ w=true)(j:fO true t)(f:t.fits es.size=true)(n:¬((!t.plain && decide (es.size > 1))=true))(l:S≠it):
  Walks prog w A it [it,S] [it] es.size (wC es.toList) (λi h=>h.get? it=some (Vx (.int (slotAt t i) 0) i (.ref S) es.size ep)/\cB h S o es ep t) where
 sub:=λb c=>by simp at c;simp[c]
 frame:=λ_ _ _ a q=>(q it (by simp) _ a.1,a.2.at λo e=>q S (by simp) o e)
 item:=λi s Q E r a d=>by
  have p:t.place.size=es.size:=by
   simp[SetTable.fits]at f;exact f.1
  have g:es[i]?=some es[i]:=by simp[r]
  have u:t.place[i]?=some (t.place[i]'(by omega)):=by simp[p,r]
  have e:slotAt t (i+1)=t.place[i]'(by omega)+1:=by simp[slotAt,aiR,show i<t.place.size by omega]
  refine Ho a.1 a.2 (x:=es[i].2) (nx:=slotAt t (i+1)) (λC z B h=>yS a.2 ht j.1 n (by rw[wQ j.2 (by lia),g,u];rw[e]at h;exact h)) λk y m=>?_;exact d es[i].2 k s.toks (es[i],by rw[acd];exact g,rfl) (y,a.2.at λo e=>m.extBut S o l e) λb o c e=>m.extBut b o (λh=>c (by simp[h])) e
 done:=λs Q E a d=>by
  have p:t.place.size=es.size:=by
   simp[SetTable.fits]at f;exact f.1
  refine next_end v a.1 a.2 (λC z B h=>yS a.2 ht j.1 n (by rw[wQ j.2 (by lia),show es[es.size]?=none by simp];exact h)) λk g=>?_;exact d k s.toks λb o c e=>g b o (λh=>c (by simp[h])) e
 self:=λ_ _ _ _ a d=>sr (_,a.1,rfl) d
theorem FZ{T:Addr}{l:List Nat}(I:A.handled=none)(n:agj l (agd es.size))(u:S≠it)(z:T≠it):
  Walks prog w A it [it,S,T] [it] es.size (wC (l.filterMap λk=>es[k]?)) (λi h=>h.get? it=some (Vx (.ref T) i (.ref S) es.size ep)/\cB h S o es ep t/\h.get? T=some (Yz l)) where
 sub:=λb j=>by simp at j;simp[j]
 frame:=λ_ _ _ c d=>(d it (by simp) _ c.1,c.2.1.at λo e=>d S (by simp) o e,d T (by simp) _ c.2.2)
 item:=λi s Q E H c m=>by
  have f:l.length=es.size:=by rw[n.length_eq,agm]
  have d:l[i]?=some (l[i]'(by omega)):=by simp[f,H]
  have v:l[i]'(by omega)<es.size:=ag9.mp (n.mem_iff.mp (acJ _));have p:es[l[i]'(by omega)]?=some (es[l[i]'(by omega)]):=by simp[v]
  have F:(l.filterMap λk=>es[k]?)[i]?=some (es[l[i]'(by omega)]):=by
   have G:∀g:List Nat,(∀k∈g,k<es.size)->(g.filterMap λk=>es[k]?).map some=g.map λk=>es[k]?:=by
    intro g
    induction g with
    | nil=>intro _;rfl
    | cons a g D =>
     intro h;have C:es[a]?=some (es[a]'(h a abE)):=by simp[h a abE]
     rw[ag8,C,aay,aay,D λk d=>h k (aaR _ d),C]
   have:=congrArg (λx=>x[i]?) (G l λk d=>ag9.mp (n.mem_iff.mp d));simp only[aah,d,ahE,p]at this;cases B:(l.filterMap λk=>es[k]?)[i]? with
   | none=>rw[B]at this;cases this
   | some y=>rw[B]at this;injection this
  refine Lb c.1 c.2.2 c.2.1 d p λr J q=>?_;exact m _ r s.toks (_,F,rfl) (J,c.2.1.at λo e=>q.extBut S o u e,q.extBut T _ z c.2.2) λb o j e=>q.extBut b o (λh=>j (by simp[h])) e
 done:=λs Q E c m=>by
  have f:l.length=es.size:=by rw[n.length_eq,agm]
  refine Io I c.1 c.2.2 c.2.1 (by simp[f]) λr p=>?_;exact m r s.toks λb o j e=>p b o (λh=>j (by simp[h])) e
 self:=λ_ _ _ _ c m=>sr (_,c.1,rfl) m
theorem yc(es:Array (Int×Value)):((agd es.size).filterMap λk=>es[k]?)=es.toList:=by
 apply ahp;intro i;have c:∀n,n<=es.size->((agd n).filterMap λk=>es[k]?)=es.toList.take n:=by
  intro n
  induction n with
  | zero=>intro _;simp
  | succ n b =>
   intro h;have a:es[n]?=some (es[n]'(by omega)):=by simp[show n<es.size by omega]
   rw[agw,List.filterMap_append,b (by lia),ag8,a,List.filterMap_nil,acI,acd,a];rfl
 rw[c es.size (aad _)];rw[aai (by simp)]
theorem JS(i:A.handled=none)(g:cB s.heap S o es ep t)(n:o.cls=.type "set")(a:es.size<scanBound)(m:fO (cQ w) t){Q:Value->Shared->Prop}
  (h:∀(I:Addr) (h':Heap) d fp ps St,agj ps es.toList->Walks prog w A I fp [I] es.size (wC ps) St->St 0 h'->(∀b o,s.heap.get? b=some o->h'.get? b=some o)->s.heap.objs.size<=I->(∀b∈fp,b=S\/s.heap.objs.size<=b)->Q (.ref I) { s with heap:=h',drawn:=d }):
  wpAny (model prog w) A (pyIter (.ref S)) Q E s:=by
 have f:S<s.heap.objs.size:=Heap.lt_size g.get;refine K4 g n a (λc=>?_) λc l d j=>?_
 ·cases ht:cQ w with
  | false =>
   refine h s.heap.objs.size _ s.drawn _ _ _ (rN _ _) (JB (o:=o) (t:=t) i ht (aat f)) (Heap.get?_push_size _ rfl,g.at λo e=>Heap.get?_push_of_some _ e) (λb o e=>Heap.get?_push_of_some _ e) (aad _) ?_;intro b a;simp at a;rcases a with rfl|rfl
   ·exact .inr (aad _)
   ·exact .inl rfl
  | true =>
   rw[ht]at m c;rw[ajn]at c;refine h s.heap.objs.size _ s.drawn _ _ _ .rfl (Fd (o:=o) (t:=t) i ht m g.fit c (aat f)) (Heap.get?_push_size _ rfl,g.at λo e=>Heap.get?_push_of_some _ e) (λb o e=>Heap.get?_push_of_some _ e) (aad _) ?_;intro b a;simp at a;rcases a with rfl|rfl
   ·exact .inr (aad _)
   ·exact .inl rfl
 ·have p:(s.heap.push (Yz l)).objs.size=s.heap.objs.size+1:=Heap.size_push ..;refine h (s.heap.objs.size+1) _ d _ _ _ ?_ (FZ (o:=o) (t:=t) (T:=s.heap.objs.size) i j (aat (ag5 f)) (aat (agK _))) (?_,g.at λo e=>Heap.get?_push_of_some _ (Heap.get?_push_of_some _ e),Heap.get?_push_of_some _ (Heap.get?_push_size _ rfl)) (λb o e=>Heap.get?_push_of_some _ (Heap.get?_push_of_some _ e)) (agS _) ?_
  ·have:=j.filterMap λk=>es[k]?;rw[yc]at this;exact this
  ·rw[<-p];exact Heap.get?_push_size _ rfl
  ·intro b a;simp at a;rcases a with rfl|rfl|rfl
   ·exact .inr (agS _)
   ·exact .inl rfl
   ·exact .inr (aad _)
end
section
variable{o:Obj}{es:Array (Int×Value)}{ep:Nat}{t:SetTable}
theorem K8{Q:Bool->Shared->Prop}(a:s.TypeIs (.ref S) "set")(h:Q false s):wpAny (model prog w) A (Builtin.List.listLengthHint (.ref S)) Q E s:=by
 unfold Builtin.List.listLengthHint;refine wpAny_bind (wpAny_specialOf a PySem.F.slot_set_len.lookup ?_)
 generalize d:("set.__len__" : String)=i0
 wp_delta
 rw[show splitId i0=some (pq ("set") ("__len__")) by subst d;decide +kernel]
 subst d
 refine wpAny_bind (wpAny_isInstance (T := "set") (b:=true) a (by rw[isSubtype_type];kernel_rfl) ?_)
 refine wpAny_ite_split (λc=>absurd c (by decide)) λ_=>wpAny_ite_split (λ_=>?_) λc=>absurd (by decide +kernel) c;exact wpAny_bind (wpAny_typeOf a (wpAny_pure h))
theorem Eg{s d:Shared}(m:Moved g (λa b=>b=a) s d):d={ s with heap:=d.heap,toks:=d.toks }:=by
 obtain⟨j,l,p,e,h⟩:=d;obtain⟨k,n,q,f,i⟩:=s;have a:=m.gens;have b:=m.drawn;have c:=m.os;dsimp only at a b c;subst a;subst b;subst c;rfl
theorem tY{Q:List Value->Shared->Prop}(V:A.handled=none)(D:cB s.heap S o es ep t)(B:o.cls=.type "set")(i:es.size<scanBound)(X:fO (cQ w) t)
  (h:∀(c:Array Value) (h':Heap) d tk ps,agj ps es.toList->ItemsOf (wC ps) c es.size->s.heap.objs.size<h'.objs.size->(∀b o,s.heap.get? b=some o->h'.get? b=some o)->Q c.toList { s with heap:=h',drawn:=d,toks:=tk }):
  wpAny (model prog w) A (collect (.ref S)) Q E s:=by
 have J:=Heap.lt_size D.get
 have a0:s.TypeIs (.ref S) "set":=(_,D.get,B)
 have H:es.size<=sizeLine:=fits_of_scanBound i;unfold collect;refine wpAny_bind (wpAny_runValue (codeAny_builtin PySem.F.entry_proto_collect ?_));rw[Around.under_plainId PySem.F.plain_proto_collect _];refine wpAny_bind (m:=newList []) (wpAny_newObj_type (wpAny_pure (plainId_quiet PySem.F.plain_list_iadd _,codeAny_builtin PySem.F.entry_list_iadd ?_)));rw[Around.under_plainId PySem.F.plain_list_iadd _]
 show wpAny _ A.in1 (Builtin.List.listExtendWith (.ref s.heap.objs.size) (.ref S) (.ref s.heap.objs.size)) _ _ { s with heap:=s.heap.push (seqObj "list" #[] 0) }
 generalize k:s.heap.objs.size=L at *
 have g:∀b o,s.heap.get? b=some o->(s.heap.push (seqObj "list" #[] 0)).get? b=some o:=λb o e=>Heap.get?_push_of_some _ e
 have M:(s.heap.push (seqObj "list" #[] 0)).get? L=some (seqObj "list" #[] 0):=by
  rw[<-k];exact Heap.get?_push_size _ rfl
 have a:(s.heap.push (seqObj "list" #[] 0)).objs.size=L+1:=by rw[<-k];exact Heap.size_push ..
 generalize s.heap.push (seqObj "list" #[] 0)=G at *
 have j:cB G S o es ep t:=D.at λo e=>g _ _ e;have p:L≠S:=λe=>absurd J (by rw[e];exact agf _)
 have x:Shared.TypeIs { s with heap:=G } (.ref S) "set":=(_,j.get,B)
 unfold Builtin.List.listExtendWith;refine wpAny_bind (wpAny_typeOf x ?_);rw[if_neg (by simp[Builtin.List.listSameRef,p])];refine wpAny_bind (JS (s:={ s with heap:=G }) (by simp[V]) j B i X λI l d Y ps St U W R C P K=>?_)
 have r:l.get? L=some (seqObj "list" #[] 0):=C _ _ M
 have v:Shared.TypeIs { s with heap:=l,drawn:=d } (.ref S) "set":=(_,C _ _ j.get,B)
 refine wpAny_bind (wpAny_holding (K8 v ?_));rw[if_pos (by decide)];refine wpAny_bind (wpAny_rule (wpAny_bind ?_));have a1:L≠I:=λe=>by
  have:L+1<=I:=a ▸ P;lia
 have n:L∉Y:=λz=>by
  rcases K _ z with z|z
  ·exact p z
  ·rw[a]at z;lia
 show wpAny _ _ (updateSeq L (·.push .none) >>= λ_=>updateSeq L (·.pop)) _ _ _;refine wpAny_bind (wpAny_updateSeq r rfl ?_);have q:=Heap.get?_update_self (Obj.mapSeq (·.push Value.none)) r rfl;refine wpAny_updateSeq (hz:=by seq_fits) q rfl ?_;have Z:=Heap.get?_update_self (Obj.mapSeq (·.pop)) q rfl;have f:∀b o,b≠L->l.get? b=some o->((l.update L (Obj.mapSeq (·.push Value.none))).update L (Obj.mapSeq (·.pop))).get? b=some o:=λb o i e=>(Heap.get?_update_other _ _ (ags i)).trans ((Heap.get?_update_other _ _ (ags i)).trans e);generalize ((l.update L (Obj.mapSeq (·.push Value.none))).update L (Obj.mapSeq (·.pop)))=h2 at *;refine wpAny_pure (plainId_quiet PySem.F.plain_extend_loop _,codeAny_extend_loopS W.toS H L n _ es.size 0 _ #[] _ rfl (aaP _) (W.frame 0 _ _ R λb i o e=>f b o (λz=>n (z ▸ i)) e) Z (ItemsOf.nil _) λT c c' O u y=>?_);rw[Eg O];refine wpAny_bind (wpAny_load u (wpAny_pure ?_));refine h c T.heap d _ ps U y (Heap.lt_size u) λb o e=>O.heap b o (λz=>?_) (f b o ?_ (C _ _ (g _ _ e)))
 ·have:=Heap.lt_size e;rcases aaQ.mp z with z|z
  ·rw[z,k]at this;exact agf _ this
  ·rw[aas.mp z,k]at this;have N:L+1<=I:=by rw[<-a];exact P
   exact absurd (aak (agK L) N) (Nat.lt_asymm this)
 ·intro z;have:=Heap.lt_size e;rw[z,k]at this;exact agf _ this
end
theorem Js{c:Array (Int×Value)}{n:List (Int×(Int×Value))}(u:nJ (intKind prog w) c.toList d n){ps:List (Int×Value)}(f:agj ps c.toList)(g:ItemsOf (wC ps) D c.size):∃j,IntsAre D.toList j/\agj j d:=by
 obtain⟨h,a⟩:=u.perm f;have l:ps.length=c.size:=by rw[f.length_eq,aae]
 have k:D.toList=ps.map (·.2):=by
  apply ahp;intro i;rw[aah];cases m:D.toList[i]? with
  | none =>
   have:D.toList.length<=i:=ag0.mp m;rw[aae,g.1,<-l]at this;rw[agY this];rfl
  | some v =>
   obtain⟨e,y,x⟩:=g.2 i v (by rw[<-acd];exact m);rw[y,x];rfl
 refine(h.map (·.1),?_,a.fst);rw[k,<-a.snd];have b:=a.is
 clear a k l g f
 induction h with
 | nil=>exact .nil
 | cons p h o =>
  obtain⟨t,ht⟩:=Value.isInt_shape (b p abE).1;rw[aay,aay,aay,ht];exact .cons _ t (o λq r=>b q (aaR _ r))
end Tw
namespace L2
open PySem.Spec PyProof.Rows Tw
theorem Inv.drawnTo(I:Inv X π σ H s)(d:Drawn):Inv X π σ H { s with drawn:=d }:=
 I.step (g':=s.gens) (t':=s.toks) (d':=d) (ch:=[]) (λ_ z=>nomatch z) (λ_ _ _ _ _ e _=>e) (λb o _ _ _ e _=>(o.slots,e)) (λ_ _ _ _ n=>n) (λb o _ e=>(o,e)) (λ_ _ e=>e) (λ_ _ _ e=>e) (λb a e=>(#[],by rw[e];simp)) (λ_ h=>h) I.hok I.bare
def Q5(P:Program)(w:World)(a:Addr)(b:List Int):HO:=.ext λh=>jE (cQ w) (intKind P w) h a b
theorem Og{w:World}{a:Addr}(e:jE (cQ w) (intKind prog w) h' a d):bH prog w H h' a (Q5 prog w a d):=by
 refine(e,?_,λ_ _ p k=>p.at k);obtain⟨o,_,_,_,_,b,_⟩:=e;exact(o,b)
theorem Kd(F:X.calm=true):gD X (.type "set") (λxs H Q=>∃(p:Addr) (a:List Int),xs=[.ref p]/\My X.K H p (a.map V.int)/\(met (λi=>a.getD i 0) a.length).length+1<scanBound /\
  ∀l k o,H l=none->k=met (λi=>a.getD i 0) a.length->o=Q5 X.prog X.w l k->Q (.ref l) (upd H l o)):=by
 intro π s σ H xs M Q I r h;obtain⟨p,a,rfl,D,G,q⟩:=h;obtain⟨u,rfl,z⟩:=vals1 r;cases z;obtain⟨c,A,B,N⟩:=I.list D;have m:=intsAre_of A;have g:=m.length;have d:c.toArray.size=a.length:=by simpa using g
 refine yX (knd:=intKind X.prog X.w) (f:=λi=>a.getD i 0) (I.ok.hd F) B.isList (λi v e=>?_) (by rw[d];exact G) λO y x E=>?_
 ·have L:c[i]?=some v:=by simpa using e
  have:∀{j:List Value}{a:List Int},IntsAre j a -> ∀(i:Nat) v,j[i]?=some v->Value.isInt (a.getD i 0) v=true/\v.scannable=true:=by
   intro j a J
   induction J with
   | nil=>intro i v e;simp at e
   | cons n t _ C =>
    intro i v e;cases i with
    | zero =>
     simp at e;subst e;exact(by simp[Value.isInt],rfl)
    | succ i=>exact C i v (by simpa using e)
  exact this m i v L
 ·rw[d]at x;exact(.ref s.heap.objs.size,_,I.laid (t':=y) (λb o e=>E b o (Heap.lt_size e) e) (aad _) (Og x),rfl,q _ _ _ (I.hok.fresh (aad _)) rfl rfl)
end L2
namespace Tw
open PyProof.Rows
structure TB(a₀:Array Keyed)(pd:Array (Nat×Nat×Nat))(st:SortSt):Prop where
 perm:(arrOf st).Perm a₀
 kind:kindOf st=oneType'
 failed:failedOf st=none
 pend:pendingOf st=pd
theorem TB.size{a₀:Array Keyed}{a:Array (Nat×Nat×Nat)}{st:SortSt}(h:TB a₀ a st):(arrOf st).size=a₀.size:=h.perm.size_eq
theorem TB.set{a₀:Array Keyed}{a:Array (Nat×Nat×Nat)}{st:SortSt}(h:TB a₀ a st){xs:Array Keyed}(b:xs.Perm (arrOf st)):TB a₀ a (setArr st xs):=(b.trans h.perm,h.kind,h.failed,h.pend)
def Vm(κ:KeyKind)(xs:Array Keyed)(lo n:Nat):Prop:=∀i j,i<=j->j<n->κ.kle (KK κ xs (lo+i)) (KK κ xs (lo+j))
def Vy(κ:KeyKind)(xs:Array Keyed)(lo n:Nat):Prop:=∀i j,i<=j->j<n->κ.kle (KK κ xs (lo+j)) (KK κ xs (lo+i))
def Vb(lo:Nat)(xs ys:Array Keyed):Prop:=∀k:Nat,k<lo->ys[k]?=xs[k]?
theorem Vb.refl(lo:Nat)(xs:Array Keyed):Vb lo xs xs:=λ_ _=>rfl
theorem Vb.trans{lo:Nat}{xs ys zs:Array Keyed}(h:Vb lo xs ys)(g:Vb lo ys zs):Vb lo xs zs:=λk a=>(g k a).trans (h k a)
theorem jf{lo i j:Nat}{xs:Array Keyed}(a:j<=xs.size)(c:lo<=i):Vb lo xs (mirror xs i j ((j - i) / 2)):=λk b=>by
 rw[getElem?_mirror_all a,if_neg (by lia)]
theorem Vm.one(κ:KeyKind)(xs:Array Keyed)(lo:Nat):Vm κ xs lo 1:=λi j a b=>by
 have:i=j:=by lia
 subst this;exact KeyOrd.kle_refl _
theorem Vm.more{κ:KeyKind}{xs:Array Keyed}{lo x:Nat}(h:Vm κ xs lo x)(g:1<=x)(e:κ.blt (KK κ xs (lo+x)) (KK κ xs (lo+x - 1))=false):Vm κ xs lo (x+1):=λi j c f=>by
 by_cases a:j<x
 ·exact h i j c a
 have b:j=x:=by lia
 subst b;by_cases d:i=j
 ·subst d;exact KeyOrd.kle_refl _
 refine KeyOrd.kle_trans (h i (j - 1) (by lia) (by lia)) ?_;rw[show lo+(j - 1)=lo+j - 1 by lia];exact e
theorem Vy.more{κ:KeyKind}{xs:Array Keyed}{lo x:Nat}(h:Vy κ xs lo x)(g:1<=x)(e:κ.kle (KK κ xs (lo+x)) (KK κ xs (lo+x - 1))):Vy κ xs lo (x+1):=λi j c f=>by
 by_cases a:j<x
 ·exact h i j c a
 have b:j=x:=by lia
 subst b;by_cases d:i=j
 ·subst d;exact KeyOrd.kle_refl _
 have q:=h i (j - 1) (by lia) (by lia);rw[show lo+(j - 1)=lo+j - 1 by lia]at q;exact KeyOrd.kle_trans e q
theorem Vy.turn{κ:KeyKind}{xs:Array Keyed}{lo n:Nat}(h:Vy κ xs lo n)(a:lo+n<=xs.size):Vm κ (mirror xs lo (lo+n) ((lo+n - lo) / 2)) lo n:=λi j b c=>by
 rw[KK_mirror a,KK_mirror a,if_pos (by lia),if_pos (by lia)];have q:=h (n - 1 - j) (n - 1 - i) (by lia) (by lia);rw[show lo+(lo+n) - 1 - (lo+i)=lo+(n - 1 - i) by lia,show lo+(lo+n) - 1 - (lo+j)=lo+(n - 1 - j) by lia];exact q
theorem Vy.keys{κ:KeyKind}{xs ys:Array Keyed}{lo n:Nat}(h:Vy κ xs lo n)(e:∀k,KK κ ys k=KK κ xs k):Vy κ ys lo n:=λi j a b=>by
 rw[e,e];exact h i j a b
section
variable{a₀:Array Keyed}{κ:KeyKind}{pd:Array (Nat×Nat×Nat)}
theorem TB.atK{st:SortSt}(h:TB a₀ pd st)(g:KeysOf κ a₀){i:Nat}(f:i<a₀.size):∃x p a,(arrOf st)[i]?=some (pq x p)/\κ.keyOf x=some a/\KK κ (arrOf st) i=a:=by
 have b:i<(arrOf st).size:=by rw[h.size];exact f
 have d:(arrOf st)[i]∈a₀.toList:=(agV.mp h.perm).mem_iff.mp (aeS _);obtain⟨a,c⟩:=g _ d;have e:(arrOf st)[i]?=some (pq ((arrOf st)[i].1) ((arrOf st)[i].2)):=getElem?_pos _ i b;exact(_,_,a,e,c,by unfold KK;rw[e];simp[c])
theorem qz{st:SortSt}{i j:Nat}{Q:Option Bool->SortSt->Prop}(n:κ.OneLt)(c:TB a₀ pd st)(d:KeysOf κ a₀)(k:i<a₀.size)(g:j<a₀.size)
  (h:Q (some (κ.blt (KK κ (arrOf st) i) (KK κ (arrOf st) j))) st):wpS (model prog w) A E s (ltAt' i j) Q st:=by
 obtain⟨x,p,a,r,m,f⟩:=c.atK d k;obtain⟨y,q,b,o,l,e⟩:=c.atK d g;rw[f,e]at h;exact wpS_ltAtK n c.kind r o m l h
theorem Bj{st:SortSt}{lo :Nat}{Q:Option Nat->SortSt->Prop}(hO:κ.OneLt)(h0:KeysOf κ a₀)(P:TB a₀ pd st)(hn:lo+n<=a₀.size)(h1:1<=n)
  (h:∀m e,TB a₀ pd e->Vb lo (arrOf st) (arrOf e)->1<=m->m<=n->Vm κ (arrOf e) lo m->Q (some m) e):wpS (model prog w) A E s (countRun' lo n) Q st:=by
 have a0:∀(a:Nat) (f:SortSt),TB a₀ pd f->1<=a->a<=n->Vm κ (arrOf f) lo a -> ∀(G:Option (Option Nat)×Nat->SortSt->Prop),
   (∀d,a<=d->d<=n->Vm κ (arrOf f) lo d->(d=n\/κ.klt (KK κ (arrOf f) (lo+d)) (KK κ (arrOf f) (lo+d - 1)))->G (pq none d) f) ->
   wpS (model prog w) A E s (forIn [a:n] ((pq none a):Option (Option Nat)×Nat) λ_ r=>do
    let x <-ltAt' (lo+r.2) (lo+r.2 - 1)
    match x with
    | some b=>if b=true then pure (ForInStep.done (pq none r.2))else pure (ForInStep.yield (pq none (r.2+1)))
    | _=>pure (ForInStep.done (pq (some none) r.2))) G f:=by
  intro a f U b6 b1 T G O;refine wpS_forRange (I:=λx c e=>e=f/\c=(pq none x)/\Vm κ (arrOf f) lo x) ?_ ?_ (rfl,rfl,T)
  ·rintro x c e S a3 ⟨rfl,rfl,C⟩;refine wpS_bind (qz hO U h0 (by lia) (by lia) ?_);cases V:κ.blt (KK κ (arrOf e) (lo+x)) (KK κ (arrOf e) (lo+x - 1))
   ·exact wpS_pure (rfl,rfl,C.more (by lia) V)
   ·exact wpS_pure (O x S (by lia) C (.inr V))
  ·rintro c e ⟨rfl,rfl,C⟩;rw[show max a n=n by lia]at C ⊢;exact O n b1 (aad _) C (.inl rfl)
 have B:∀{i j:Nat}{f:SortSt}{G:Unit->SortSt->Prop},G () (setArr f (mirror (arrOf f) i j ((j - i) / 2)))->wpS (model prog w) A E s (reverseSlice' i j) G f:=λO=>by
  rw[reverseSlice'_eq];exact wpS_modify O
 have L:∀(d:Nat) (f:SortSt) (k:Option (Option Nat)×Nat->StateT SortSt Sem (Option Nat)),(∀m,k (pq none m)=pure (some m))->TB a₀ pd f->Vb lo (arrOf st) (arrOf f)->1<=d->d<=n->Vy κ (arrOf f) lo d ->
   wpS (model prog w) A E s (reverseSlice' lo (lo+d) >>= λ_=>(forIn [d:n] ((pq none d):Option (Option Nat)×Nat) λ_ r=>do
     let x <-ltAt' (lo+r.2) (lo+r.2 - 1)
     match x with
     | some b=>if b=true then pure (ForInStep.done (pq none r.2))else pure (ForInStep.yield (pq none (r.2+1)))
     | _=>pure (ForInStep.done (pq (some none) r.2))) >>= k) Q f:=by
  intro d f k hk U hL J H hd;have p:lo+d<=(arrOf f).size:=by rw[U.size];lia
  refine wpS_bind (B ?_);have K:TB a₀ pd (setArr f (mirror (arrOf f) lo (lo+d) ((lo+d - lo) / 2))):=U.set (mirror_perm _ _ _ _);refine wpS_bind (a0 d _ K J H (hd.turn p) _ λm X v a4 _=>?_);rw[hk];exact wpS_pure (h m _ K (hL.trans (jf p (aad _))) (by lia) v a4)
 have N:∀(M:Nat) (f:SortSt),TB a₀ pd f->Vb lo (arrOf st) (arrOf f)->1<=M->M<=n->Vy κ (arrOf f) lo M -> ∀(G:Option (Option Nat)×Nat×Nat->SortSt->Prop),
   (∀m q e,TB a₀ pd e->Vb lo (arrOf st) (arrOf e)->M<=m->m<=n->Vy κ (arrOf e) lo m->q+1<=m->(∀i,lo+m - (q+1)<=i->i<lo+m->KK κ (arrOf e) i=KK κ (arrOf e) (lo+m - 1))->G (pq none (pq m q)) e) ->
   wpS (model prog w) A E s (forIn [M:n] ((pq none (pq M 0)):Option (Option Nat)×Nat×Nat) λ_ r=>ltAt' (lo+r.2.1) (lo+r.2.1 - 1) >>= λx=>match x with
    | some b=>if b=true then (if r.2.2 > 0 then (reverseSlice' (lo+r.2.1 - (r.2.2+1)) (lo+r.2.1) >>= λ_=>pure (ForInStep.yield (pq none (pq (r.2.1+1) 0))))else pure (ForInStep.yield (pq none (pq (r.2.1+1) 0))))
     else (ltAt' (lo+r.2.1 - 1) (lo+r.2.1) >>= λy=>match y with
      | some b=>if b=true then pure (ForInStep.done (pq none (pq r.2.1 r.2.2)))else pure (ForInStep.yield (pq none (pq (r.2.1+1) (r.2.2+1))))
      | _=>pure (ForInStep.done (pq (some none) (pq r.2.1 r.2.2))))
    | _=>pure (ForInStep.done (pq (some none) (pq r.2.1 r.2.2)))) G f:=by
  intro M f U hL b5 D hd G O;refine wpS_forRange (I:=λx c e=>∃q,c=(pq none (pq x q))/\TB a₀ pd e/\Vb lo (arrOf st) (arrOf e)/\Vy κ (arrOf e) lo x/\q+1<=x /\ ∀i,lo+x - (q+1)<=i->i<lo+x->KK κ (arrOf e) i=KK κ (arrOf e) (lo+x - 1)) ?_ ?_ (0,rfl,U,hL,hd,by lia,λi a b=>by congr 1;lia)
  ·rintro x c e S a3 ⟨q,rfl,g,o,l,YB,F⟩;have p:lo+x<=(arrOf e).size:=by rw[g.size];lia
   dsimp only;refine wpS_bind (qz hO g h0 (by lia) (by lia) ?_);cases V:κ.blt (KK κ (arrOf e) (lo+x)) (KK κ (arrOf e) (lo+x - 1))
   ·refine wpS_bind (qz hO g h0 (by lia) (by lia) ?_);cases hg:κ.blt (KK κ (arrOf e) (lo+x - 1)) (KK κ (arrOf e) (lo+x))
    ·have eq:KK κ (arrOf e) (lo+x)=KK κ (arrOf e) (lo+x - 1):=κ.total _ _ V hg;refine wpS_pure (q+1,rfl,g,o,l.more (by lia) (by rw[eq];exact KeyOrd.kle_refl _),by lia,λi a b=>?_);rw[show lo+(x+1) - 1=lo+x by lia,eq];by_cases hi:i=lo+x
     ·rw[hi,eq]
     ·exact F i (by lia) (by lia)
    ·exact wpS_pure (O x q e g o S (by lia) l YB F)
   ·have W:∀ys:Array Keyed,(∀k,KK κ ys k=KK κ (arrOf e) k)->Vy κ ys lo (x+1):=λys hk=>(l.more (by lia) (KeyOrd.kle_of_klt V)).keys hk;show wpS _ _ _ _ (if q > 0 then _ else _) _ _;by_cases t:q > 0
    ·rw[if_pos t];refine wpS_bind (B (wpS_pure (0,rfl,g.set (mirror_perm _ _ _ _),o.trans (jf p (by lia)),W _ λk=>KK_mirror_equal p F k,by lia,λi a b=>by congr 1;lia)))
    ·rw[if_neg t];exact wpS_pure (0,rfl,g,o,W _ λk=>rfl,by lia,λi a b=>by congr 1;lia)
  ·rintro c e ⟨q,rfl,g,o,l,YB,F⟩;rw[show max M n=n by lia]at l YB F ⊢;exact O n q e g o D (aad _) l YB F
 rw[countRun'_eq];refine wpS_bind (a0 1 st P (aad _) h1 (Vm.one κ _ lo) _ λd J H T a7=>?_);dsimp only;by_cases D:d=n
 ·rw[if_pos (by simpa using D)];exact wpS_pure (h d st P (Vb.refl _ _) J H T)
 rw[if_neg (by simpa using D)];have Y:=a7.resolve_left D;by_cases Z:d > 1
 ·rw[if_pos Z];refine wpS_bind (qz hO P h0 (by lia) (by lia) ?_);have p:lo+d<=(arrOf st).size:=by rw[P.size];lia
  cases a5:κ.blt (KK κ (arrOf st) lo) (KK κ (arrOf st) (lo+d - 1))
  ·have z:∀k,lo<=k->k<lo+d->KK κ (arrOf st) k=KK κ (arrOf st) (lo+d - 1):=λk b3 b2=>by
    have a1:=T 0 (k - lo) (by lia) (by lia);have a2:=T (k - lo) (d - 1) (by lia) (by lia);rw[show lo+(k - lo)=k by lia]at a1 a2;rw[show lo+(d - 1)=lo+d - 1 by lia]at a2;exact KeyOrd.kle_antisymm a2 (KeyOrd.kle_trans a5 a1)
   refine wpS_bind (B (wpS_bind (wpS_lift (wpAny_rule (rfl,?_)))));have K:TB a₀ pd (setArr st (mirror (arrOf st) lo (lo+d) ((lo+d - lo) / 2))):=P.set (mirror_perm _ _ _ _);refine wpS_bind (N (d+1) _ K (jf p (aad _)) (by lia) (by lia) ?_ _ λm q e g o X v l a6 F=>?_)
   ·refine Vy.keys (xs:=arrOf st) (λi j a9 hj=>?_) λk=>KK_mirror_equal p z k;by_cases b4:j<d
    ·rw[z (lo+i) (by lia) (by lia),z (lo+j) (by lia) (by lia)];exact KeyOrd.kle_refl _
    have:j=d:=by lia
    subst this;by_cases R:i=j
    ·subst R;exact KeyOrd.kle_refl _
    rw[z (lo+i) (by lia) (by lia)];exact KeyOrd.kle_of_klt Y
   ·have u:lo+m<=(arrOf e).size:=by rw[g.size];lia
    dsimp only;by_cases t:q > 0
    ·rw[if_pos t];exact wpS_bind (B (L m _ _ (λ_=>rfl) (g.set (mirror_perm _ _ _ _)) (o.trans (jf u (by lia))) (by lia) v (l.keys λk=>KK_mirror_equal u F k)))
    ·rw[if_neg t];exact L m _ _ (λ_=>rfl) g o (by lia) v l
  ·exact wpS_pure (h d st P (Vb.refl _ _) J H T)
 ·rw[if_neg Z];have:d=1:=by lia
  subst this;refine wpS_bind (wpS_lift (wpAny_rule (rfl,?_)));refine wpS_bind (N (1+1) _ P (Vb.refl _ _) (by lia) (by lia) ?_ _ λm q e g o X v l a6 F=>?_)
  ·intro i j a9 hj;by_cases R:i=j
   ·subst R;exact KeyOrd.kle_refl _
   have b0:i=0:=by lia
   have a8:j=1:=by lia
   subst b0;subst a8;exact KeyOrd.kle_of_klt Y
  ·have u:lo+m<=(arrOf e).size:=by rw[g.size];lia
   dsimp only;by_cases t:q > 0
   ·rw[if_pos t];exact wpS_bind (B (L m _ _ (λ_=>rfl) (g.set (mirror_perm _ _ _ _)) (o.trans (jf u (by lia))) (by lia) v (l.keys λk=>KK_mirror_equal u F k)))
   ·rw[if_neg t];exact L m _ _ (λ_=>rfl) g o (by lia) v l
theorem xu{st:SortSt}{lo n :Nat}{Q:Bool->SortSt->Prop}(R:κ.OneLt)(U:KeysOf κ a₀)(S:TB a₀ pd st)(hn:lo+n<=a₀.size)(W:i<=n)(O:Vm κ (arrOf st) lo i)
  (h:∀b,TB a₀ pd b->Vb lo (arrOf st) (arrOf b)->Vm κ (arrOf b) lo n->Q true b):wpS (model prog w) A E s (binarySort' lo n i) Q st:=by
 rw[binarySort'_eq];refine wpS_bind (wpS_mono (wpS_forRange (I:=λk c b=>c=(pq none (()))/\TB a₀ pd b/\Vb lo (arrOf st) (arrOf b)/\Vm κ (arrOf b) lo (min k n)) (Q:=λc b=>c=(pq none (()))/\TB a₀ pd b/\Vb lo (arrOf st) (arrOf b)/\Vm κ (arrOf b) lo n) ?_ ?_ ?_) ?_)
 ·rintro k c b Z Y ⟨rfl,f,o,e⟩;rw[show min k n=k by lia]at e;have y:lo+k<a₀.size:=by lia
  refine wpS_bind (wpS_mono (wpS_forRange (I:=λx c d=>d=b /\ ∃l r,c=(pq none (pq l r))/\l<=r/\r<=k/\r - l<=k - x/\(∀a,a<l->κ.kle (KK κ (arrOf b) (lo+a)) (KK κ (arrOf b) (lo+k))) /\ ∀a,r<=a->a<k->κ.klt (KK κ (arrOf b) (lo+k)) (KK κ (arrOf b) (lo+a)))
   (Q:=λc d=>d=b /\ ∃l r,c=(pq none (pq l r))/\l<=k/\(∀a,a<l->κ.kle (KK κ (arrOf b) (lo+a)) (KK κ (arrOf b) (lo+k))) /\ ∀a,l<=a->a<k->κ.klt (KK κ (arrOf b) (lo+k)) (KK κ (arrOf b) (lo+a))) ?_ ?_ ?_) ?_)
  ·rintro x c d _ V ⟨rfl,l,r,rfl,z,p,P,g,m⟩;dsimp only;by_cases v:l >= r
   ·rw[if_pos v];have:l=r:=by lia
    subst this;exact wpS_pure (rfl,l,l,rfl,p,g,m)
   rw[if_neg v];refine wpS_bind (qz R f U y (by lia) ?_);cases K:κ.blt (KK κ (arrOf d) (lo+k)) (KK κ (arrOf d) (lo+(l+r) / 2))
   ·refine wpS_pure (rfl,_,_,rfl,by lia,p,by lia,λa M=>?_,m);exact KeyOrd.kle_trans (e a ((l+r) / 2) (by lia) (by lia)) K
   ·refine wpS_pure (rfl,_,_,rfl,by lia,by lia,by lia,g,λa C B=>?_);exact KeyOrd.klt_of_klt_of_kle K (e ((l+r) / 2) a C B)
  ·rintro c d ⟨rfl,l,r,rfl,z,p,P,g,m⟩;have:l=r:=by lia
   subst this;exact(rfl,l,l,rfl,p,g,m)
  ·exact(rfl,0,k,rfl,by lia,by lia,by lia,λa M=>by lia,λa T h2=>by lia)
  ·rintro c d ⟨rfl,l,r,rfl,X,g,m⟩;dsimp only;rw[moveDown'_eq];refine wpS_bind (wpS_modify (wpS_pure (rfl,f.set (bubble_perm _ _ _),o.trans λa M=>?_,λa j q L=>?_)))
   ·rw[getElem?_bubble (by rw[f.size];exact y) _ (by lia),if_neg (by lia),if_neg (by lia)]
   have N:∀t,t<=k->KK κ (bubble (arrOf d) (lo+k) (lo+k - (lo+l))) (lo+t)=if t=l then KK κ (arrOf d) (lo+k)else if l<t then KK κ (arrOf d) (lo+(t - 1))else KK κ (arrOf d) (lo+t):=λt ht=>by
    rw[KK_bubble (by rw[f.size];exact y) (by lia)];by_cases F:t=l
    ·rw[if_pos (by lia),if_pos F]
    rw[if_neg (by lia),if_neg F];by_cases D:l<t
    ·rw[if_pos (by lia),if_pos D,show lo+t - 1=lo+(t - 1) by lia]
    ·rw[if_neg (by lia),if_neg D]
   rw[show min (k+1) n=k+1 by lia]at L;show κ.kle (KK κ (bubble (arrOf d) (lo+k) (lo+k - (lo+l))) (lo+a)) (KK κ (bubble (arrOf d) (lo+k) (lo+k - (lo+l))) (lo+j));rw[N a (by lia),N j (by lia)];by_cases J:a=l
   ·rw[if_pos J];by_cases u:j=l
    ·rw[if_pos u];exact KeyOrd.kle_refl _
    rw[if_neg u,if_pos (by lia)];exact KeyOrd.kle_of_klt (m (j - 1) (by lia) (by lia))
   rw[if_neg J];by_cases H:l<a
   ·rw[if_pos H,if_neg (show ¬j=l by lia),if_pos (show l<j by lia)];exact e (a - 1) (j - 1) (by lia) (by lia)
   rw[if_neg H];by_cases u:j=l
   ·rw[if_pos u];exact g a (by lia)
   rw[if_neg u];by_cases G:l<j
   ·rw[if_pos G];exact e a (j - 1) (by lia) (by lia)
   rw[if_neg G];exact e a j q (by lia)
 ·rintro c b ⟨rfl,f,o,e⟩;rw[show min (max (max i 1) n) n=n by lia]at e;exact(rfl,f,o,e)
 ·refine(rfl,S,Vb.refl _ _,λa j q L=>?_);by_cases T:i=0
  ·have:a=j:=by lia
   subst this;exact KeyOrd.kle_refl _
  ·exact O a j q (by lia)
 ·rintro c b ⟨rfl,f,o,e⟩;exact wpS_pure (h b f o e)
end
def gm:Bool->Keyed->Array Keyed->Nat->Nat->Nat->StateT SortSt Sem (Option Nat):=sortPriv% PySem.Builtin.gallop
def RJ(b:Nat->StateT SortSt Sem (Option Bool))(n hint:Nat):StateT SortSt Sem (Option Nat):=do
 let mut la:=0
 let mut u:=1
 let mut l:=0
 let mut h:=0
 let some r <-b hint|return none
 if r then
  let a:=n - hint
  for _ in [0:n] do
   if u >= a then break
   let some mo <-b (hint+u) | return none
   if !mo then break
   la:=u
   u:=2*u+1
  l:=hint+la+1
  h:=hint+min u a
 else
  let a:=hint+1
  for _ in [0:n] do
   if u >= a then break
   let some fo <-b (hint - u) | return none
   if fo then break
   la:=u
   u:=2*u+1
  l:=hint+1 - min u a
  h:=hint - la
 for _ in [0:n] do
  if l >= h then break
  let m:=l+(h - l) / 2
  let some mo <-b m|return none
  if mo then l:=m+1 else h:=m
 return some h
def G9(left:Bool)(a:Keyed)(b:Array Keyed)(base i:Nat):StateT SortSt Sem (Option Bool):=do
 let x <-elem' b (base+i)
 if left then lt' x a else return (<-lt' a x).map (!·)
theorem Eu(left:Bool)(a:Keyed)(b:Array Keyed)(base n hint:Nat):gm left a b base n hint=RJ (G9 left a b base) n hint:=rfl
section
variable{κ:KeyKind}
theorem Oe{N:Nat->StateT SortSt Sem (Option Bool)}{n hint:Nat}{st:SortSt}{Q:Option Nat->SortSt->Prop}(e:Nat->Bool)(T:hint<n)
  (J:∀i,i<n -> ∀(Q1:Option Bool->SortSt->Prop),Q1 (some (e i)) st->wpS (model prog w) A E s (N i) Q1 st)(g:∀i j,i<=j->j<n->e j=true->e i=true)
  (h:∀r,r<=n->(∀i,i<r->e i=true)->(∀i,r<=i->i<n->e i=false)->Q (some r) st):wpS (model prog w) A E s (RJ N n hint) Q st:=by
 have bin:∀(l u:Nat),l<=u->u<=n->(∀i,i<l->e i=true)->(∀i,u<=i->i<n->e i=false) -> ∀(Q1:Option (Option Nat)×Nat×Nat->SortSt->Prop),
   (∀r,r<=n->(∀i,i<r->e i=true)->(∀i,r<=i->i<n->e i=false)->Q1 (pq none (pq r r)) st) ->
   wpS (model prog w) A E s (forIn [0:n] ((pq none (pq l u)):Option (Option Nat)×Nat×Nat) λ_ r=>if r.2.1 >= r.2.2 then pure (ForInStep.done (pq none (pq r.2.1 r.2.2)))else N (r.2.1+(r.2.2 - r.2.1) / 2) >>= λx=>match x with
    | some b=>if b=true then pure (ForInStep.yield (pq none (pq (r.2.1+(r.2.2 - r.2.1) / 2+1) r.2.2)))else pure (ForInStep.yield (pq none (pq r.2.1 (r.2.1+(r.2.2 - r.2.1) / 2))))
    | _=>pure (ForInStep.done (pq (some none) (pq r.2.1 r.2.2)))) Q1 st:=by
  intro l u L m o p Q1 B;refine wpS_forRange (I:=λx c a=>a=st /\ ∃l u,c=(pq none (pq l u))/\l<=u/\u<=n/\(u - l)+x<=n/\(∀i,i<l->e i=true) /\ ∀i,u<=i->i<n->e i=false) ?_ ?_ (rfl,l,u,rfl,L,m,by lia,o,p)
  ·rintro x c a _ P ⟨rfl,l,u,rfl,L,m,R,o,p⟩;dsimp only;by_cases f:l >= u
   ·rw[if_pos f];have:l=u:=by lia
    subst this;exact wpS_pure (B l m o p)
   rw[if_neg f];refine wpS_bind (J _ (by lia) _ ?_);cases C:e (l+(u - l) / 2)
   ·refine wpS_pure (rfl,l,_,rfl,by lia,by lia,by lia,o,λi z v=>?_);cases D:e i
    ·rfl
    ·rw[g _ i z v D]at C;exact absurd C (by decide)
   ·exact wpS_pure (rfl,_,u,rfl,by lia,m,by lia,λi D=>g i _ (by lia) (by lia) C,p)
  ·rintro c a ⟨rfl,l,u,rfl,L,m,R,o,p⟩;have:l=u:=by lia
   subst this;exact B l m o p
 unfold RJ;refine wpS_bind (J hint T _ ?_);have H:∀i j,i<=j->j<n->e i=false->e j=false:=λi j O S D=>by
  cases C:e j
  ·rfl
  ·rw[g i j O S C]at D;exact absurd D (by decide)
 cases C:e hint
 ·dsimp only;rw[if_neg (by decide)];refine wpS_bind (wpS_mono (wpS_forRange (I:=λx c a=>a=st /\ ∃d u,c=(pq none (pq d u))/\d<u/\x+1<=u/\d<=hint/\e (hint - d)=false) (Q:=λc a=>a=st /\ ∃d u,c=(pq none (pq d u))/\d<u/\d<=hint/\e (hint - d)=false/\(u >= hint+1\/e (hint - u)=true)) ?_ ?_ (rfl,0,1,rfl,by lia,by lia,by lia,C)) ?_)
  ·rintro x c a _ P ⟨rfl,d,u,rfl,t,K,q,k⟩;dsimp only;by_cases f:u >= hint+1
   ·rw[if_pos f];exact wpS_pure (rfl,d,u,rfl,t,q,k,.inl f)
   rw[if_neg f];refine wpS_bind (J _ (by lia) _ ?_);cases B:e (hint - u)
   ·exact wpS_pure (rfl,u,_,rfl,by lia,by lia,by lia,B)
   ·exact wpS_pure (rfl,d,u,rfl,t,q,k,.inr B)
  ·rintro c a ⟨rfl,d,u,rfl,t,K,q,k⟩;exact(rfl,d,u,rfl,t,q,k,.inl (by lia))
  ·rintro c a ⟨rfl,d,u,rfl,t,q,k,y⟩;dsimp only;refine wpS_bind (bin _ _ (by lia) (by lia) (λi D=>?_) (λi z v=>H _ i z v k) _ λr G F M=>wpS_pure (h r G F M));rcases y with y|y
   ·lia
   ·exact g i _ (by lia) (by lia) y
 ·dsimp only;rw[if_pos rfl];refine wpS_bind (wpS_mono (wpS_forRange (I:=λx c a=>a=st /\ ∃d u,c=(pq none (pq d u))/\d<u/\x+1<=u/\hint+d<n/\e (hint+d)=true) (Q:=λc a=>a=st /\ ∃d u,c=(pq none (pq d u))/\d<u/\hint+d<n/\e (hint+d)=true/\(u >= n - hint\/e (hint+u)=false)) ?_ ?_ (rfl,0,1,rfl,by lia,by lia,by lia,C)) ?_)
  ·rintro x c a _ P ⟨rfl,d,u,rfl,t,K,q,k⟩;dsimp only;by_cases f:u >= n - hint
   ·rw[if_pos f];exact wpS_pure (rfl,d,u,rfl,t,q,k,.inl f)
   rw[if_neg f];refine wpS_bind (J _ (by lia) _ ?_);cases B:e (hint+u)
   ·exact wpS_pure (rfl,d,u,rfl,t,q,k,.inr B)
   ·exact wpS_pure (rfl,u,_,rfl,by lia,by lia,by lia,B)
  ·rintro c a ⟨rfl,d,u,rfl,t,K,q,k⟩;exact(rfl,d,u,rfl,t,q,k,.inl (by lia))
  ·rintro c a ⟨rfl,d,u,rfl,t,q,k,y⟩;dsimp only;refine wpS_bind (bin _ _ (by lia) (by lia) (λi D=>g i _ (by lia) (by lia) k) (λi z v=>?_) _ λr G F M=>wpS_pure (h r G F M));rcases y with y|y
   ·lia
   ·rcases aaq u (n - hint)with c|c
    ·exact H _ i (by lia) v y
    ·lia
def ky(κ:KeyKind)(x:Keyed):κ.α:=(κ.keyOf x.1).getD κ.dflt
theorem Hs{st:SortSt}{x y:Keyed}{Q:Option Bool->SortSt->Prop}(i:κ.OneLt)(g:kindOf st=oneType')(f:∃a,κ.keyOf x.1=some a)(e:∃a,κ.keyOf y.1=some a)
  (h:Q (some (κ.blt (ky κ x) (ky κ y))) st):wpS (model prog w) A E s (lt' x y) Q st:=by
 obtain⟨a,d⟩:=f;obtain⟨b,c⟩:=e;have k:ky κ x=a:=by unfold ky;rw[d];rfl
 have j:ky κ y=b:=by unfold ky;rw[c];rfl
 rw[k,j]at h;rw[lt'_eq];refine wpS_bind (wpS_get ?_);rw[g,keyLt'_oneType];exact wpS_bind (wpS_lift (wpAny_attempt (i prog w A _ s _ _ a b d c (rfl,wpS_pure h))))
theorem bj{st:SortSt}{xs:Array Keyed}{i:Nat}{Q:Keyed->SortSt->Prop}(a:i<xs.size)(h:Q xs[i] st):wpS (model prog w) A E s (elem' xs i) Q st:=by
 rw[elem'_eq,getElem?_pos xs i a];exact wpS_pure h
def Sd(κ:KeyKind)(xs:Array Keyed)(lo a:Nat):Prop:=∀i j,lo<=i->i<=j->j<a->κ.kle (KK κ xs i) (KK κ xs j)
theorem bM{xs:Array Keyed}{i:Nat}(a:i<xs.size):KK κ xs i=ky κ xs[i]:=by
 unfold KK ky;rw[getElem?_pos xs i a]
theorem yp{st:SortSt}{left:Bool}{b:Keyed}{xs:Array Keyed}{base n hint:Nat}{Q:Option Nat->SortSt->Prop}(m:κ.OneLt)(k:kindOf st=oneType')(q:KeysOf κ xs)(g:∃a,κ.keyOf b.1=some a)(o:Sd κ xs base (base+n))(u:base+n<=xs.size)(p:hint<n)
  (h:∀r,r<=n->(∀i,i<r->(if left then κ.blt (KK κ xs (base+i)) (ky κ b)else !κ.blt (ky κ b) (KK κ xs (base+i)))=true)->(∀i,r<=i->i<n->(if left then κ.blt (KK κ xs (base+i)) (ky κ b)else !κ.blt (ky κ b) (KK κ xs (base+i)))=false)->Q (some r) st):
  wpS (model prog w) A E s (gm left b xs base n hint) Q st:=by
 rw[Eu];have c:∀i (l:i<xs.size),∃a,κ.keyOf xs[i].1=some a:=λi l=>q _ (aeS _);refine Oe (λi=>if left then κ.blt (KK κ xs (base+i)) (ky κ b)else !κ.blt (ky κ b) (KK κ xs (base+i))) p (λi l x f=>?_) (λi j t v d=>?_) h
 ·rw[bM (by lia)]at f;unfold G9;refine wpS_bind (bj (by lia) ?_);cases left
  ·rw[if_neg (by decide)];exact wpS_bind (Hs m k g (c _ (by lia)) (wpS_pure f))
  ·rw[if_pos rfl];exact Hs m k (c _ (by lia)) g f
 ·have e:=o (base+i) (base+j) (by lia) (by lia) (by lia);cases left
  ·have d:(!κ.blt (ky κ b) (KK κ xs (base+j)))=true:=d;show (!κ.blt (ky κ b) (KK κ xs (base+i)))=true;rw[ahI]at d ⊢;exact KeyOrd.kle_trans e d
  ·exact KeyOrd.klt_of_kle_of_klt e d
theorem lq{st:SortSt}{c:Keyed}{xs:Array Keyed}{base n hint:Nat}{Q:Option Nat->SortSt->Prop}(m:κ.OneLt)(j:kindOf st=oneType')(o:KeysOf κ xs)(d:∃a,κ.keyOf c.1=some a)(e:Sd κ xs base (base+n))(g:base+n<=xs.size)(l:hint<n)
  (h:∀r,r<=n->(∀i,i<r->κ.kle (KK κ xs (base+i)) (ky κ c))->(∀i,r<=i->i<n->κ.klt (ky κ c) (KK κ xs (base+i)))->Q (some r) st):wpS (model prog w) A E s (gm false c xs base n hint) Q st:=by
 refine yp m j o d e g l λr f t p=>h r f (λi k=>?_) λi a b=>?_
 ·have q:(!κ.blt (ky κ c) (KK κ xs (base+i)))=true:=t i k;rw[ahI]at q;exact q
 ·have q:(!κ.blt (ky κ c) (KK κ xs (base+i)))=false:=p i a b;rw[Bool.not_eq_false']at q;exact q
theorem gw{st:SortSt}{c:Keyed}{xs:Array Keyed}{base n hint:Nat}{Q:Option Nat->SortSt->Prop}(m:κ.OneLt)(j:kindOf st=oneType')(o:KeysOf κ xs)(d:∃a,κ.keyOf c.1=some a)(e:Sd κ xs base (base+n))(g:base+n<=xs.size)(l:hint<n)
  (h:∀r,r<=n->(∀i,i<r->κ.klt (KK κ xs (base+i)) (ky κ c))->(∀i,r<=i->i<n->κ.kle (ky κ c) (KK κ xs (base+i)))->Q (some r) st):wpS (model prog w) A E s (gm true c xs base n hint) Q st:=
 yp m j o d e g l λr f q p=>h r f (λi k=>q i k) λi a b=>p i a b
end
structure MI(le:Keyed->Keyed->Prop)(L O X Y:List Keyed):Prop where
 perm:agj (O++X++Y) L
 so:O.Pairwise le
 sx:X.Pairwise le
 sy:Y.Pairwise le
 ox:∀o∈O,∀x∈X,le o x
 oy:∀o∈O,∀y∈Y,le o y
theorem MI.left{d:Keyed->Keyed->Prop}{L O X e Y:List Keyed}(h:MI d L O (X++e) Y)(f:∀x∈X,∀y∈Y,d x y):MI d L (O++X) e Y:=by
 have s:=agh.mp h.sx;refine(by rw[aa5 O X e];exact h.perm,agh.mpr (h.so,s.1,λo a x c=>h.ox o a x (agz _ c)),s.2.1,h.sy,λo a x c=>?_,λo a y b=>?_)
 ·rcases abd.mp a with a|a
  ·exact h.ox o a x (aaw _ c)
  ·exact s.2.2 o a x c
 ·rcases abd.mp a with a|a
  ·exact h.oy o a y b
  ·exact f o a y b
theorem MI.right{d:Keyed->Keyed->Prop}{L O X Y e:List Keyed}(h:MI d L O X (Y++e))(f:∀y∈Y,∀x∈X,d y x):MI d L (O++Y) X e:=by
 have s:=agh.mp h.sy;refine(aja ?_ h.perm,agh.mpr (h.so,s.1,λo a y c=>h.oy o a y (agz _ c)),h.sx,s.2.1,λo a x b=>?_,λo a y c=>?_)
 ·rw[aa5 O Y X,aa5,aa5 O X,<-aa5 X,aa5 Y];refine ais O ?_;rw[<-aa5];exact(ait).append_right e
 ·rcases abd.mp a with a|a
  ·exact h.ox o a x b
  ·exact f o a x b
 ·rcases abd.mp a with a|a
  ·exact h.oy o a y (aaw _ c)
  ·exact s.2.2 o a y c
def Fin(a:Keyed->Keyed->Prop)(L r:List Keyed):Prop:=agj r L/\r.Pairwise a
theorem MI.xy{c:Keyed->Keyed->Prop}{L O X Y:List Keyed}(h:MI c L O X Y)(d:∀x∈X,∀y∈Y,c x y):Fin c L (O++X++Y):=by
 refine(h.perm,agh.mpr (agh.mpr (h.so,h.sx,h.ox),h.sy,λa b y e=>?_));rcases abd.mp b with b|b
 ·exact h.oy a b y e
 ·exact d a b y e
theorem MI.yx{c:Keyed->Keyed->Prop}{L O X Y:List Keyed}(h:MI c L O X Y)(d:∀y∈Y,∀x∈X,c y x):Fin c L (O++Y++X):=by
 refine(aja ?_ h.perm,agh.mpr (agh.mpr (h.so,h.sy,h.oy),h.sx,λa b x e=>?_))
 ·rw[aa5,aa5];exact ais O ait
 ·rcases abd.mp b with b|b
  ·exact h.ox a b x e
  ·exact d a b x e
def wA:Array Keyed->Array Keyed->StateT SortSt Sem (Array Keyed):=sortPriv% PySem.Builtin.mergeLo
def setG:Nat->StateT SortSt Sem Unit:=sortPriv% PySem.Builtin.setMinGallop
theorem Pb(g:Nat):setG g=modify λst=>SortSt.mk' (kindOf st) (arrOf st) (pendingOf st) g (failedOf st):=rfl
def mlo(a b:Array Keyed):StateT SortSt Sem (Array Keyed):=do
 rule "list.sort.merge-lo"
 let t:=a.size+b.size
 let c (o:Array Keyed) (i j:Nat):=o++a.extract i a.size++b.extract j b.size
 let d (o:Array Keyed) (i j:Nat):=o++b.extract j b.size++a.extract i a.size
 let mut o:Array Keyed:=#[<-elem' b 0]
 let mut i:=0
 let mut j:=1
 if j == b.size then return c o i j
 if i+1 == a.size then return d o i j
 let mut g:=gallopOf (<-get)
 for _ in [0:t] do
  let mut p:=0
  let mut q:=0
  for _ in [0:t] do
   let some v <-lt' (<-elem' b j) (<-elem' a i) | return c o i j
   if v then
    o:=o.push (<-elem' b j);j:=j+1;q:=q+1;p:=0
    if j == b.size then return c o i j
    if q >= g then break
   else
    o:=o.push (<-elem' a i);i:=i+1;p:=p+1;q:=0
    if i+1 == a.size then return d o i j
    if p >= g then break
  rule "list.sort.gallop"
  g:=g+1
  for _ in [0:t] do
   if g > 1 then g:=g - 1
   setG g
   let some k <-gm false (<-elem' b j) a i (a.size - i) 0|return c o i j
   p:=k
   if k > 0 then
    o:=o++a.extract i (i+k);i:=i+k
    if i+1 == a.size then return d o i j
    if i == a.size then return c o i j
   o:=o.push (<-elem' b j);j:=j+1
   if j == b.size then return c o i j
   let some k <-gm true (<-elem' a i) b j (b.size - j) 0|return c o i j
   q:=k
   if k > 0 then
    o:=o++b.extract j (j+k);j:=j+k
    if j == b.size then return c o i j
   o:=o.push (<-elem' a i);i:=i+1
   if i+1 == a.size then return d o i j
   if p<7 && q<7 then break
  g:=g+1
  setG g
 (unsupported "internal:list.sort.merge-bound" : StateT SortSt Sem (Array Keyed))
theorem Di(a b:Array Keyed):wA a b=mlo a b:=rfl
section
variable{κ:KeyKind}
theorem aU{c:Prop}[Decidable c]{x y:StateT SortSt Sem J}{Q:J->SortSt->Prop}{st:SortSt}(b:c->wpS (model prog w) A E s x Q st)(a:¬c->wpS (model prog w) A E s y Q st):wpS (model prog w) A E s (if c then x else y) Q st:=by
 by_cases h:c
 ·rw[if_pos h];exact b h
 ·rw[if_neg h];exact a h
def kl(κ:KeyKind)(x y:Keyed):Prop:=κ.kle (ky κ x) (ky κ y)
theorem dR{x y z:Keyed}(h:kl κ x y)(g:kl κ y z):kl κ x z:=KeyOrd.kle_trans h g
theorem vR{xs:Array Keyed}(h:xs.toList.Pairwise (kl κ)){lo :Nat}(c:n<=xs.size):Sd κ xs lo n:=λi j _ a b=>by
 rw[bM (show i<xs.size by lia),bM (show j<xs.size by lia)];by_cases e:i=j
 ·subst e;exact KeyOrd.kle_refl _
 have q:=aca.mp h i j (by rw[aae];lia) (by rw[aae];lia) (by lia);rw[afq,afq]at q;exact q
theorem yw{xs:Array Keyed}{i:Nat}(a:i<xs.size):xs.toList.drop i=[xs[i]]++xs.toList.drop (i+1):=by
 rw[acL (by rw[aae];exact a),afq];rfl
theorem fD{xs:Array Keyed}{i:Nat}{x:Keyed}(h:x∈xs.toList.drop i):∃k,∃a:i+k<xs.size,x=xs[i+k]:=by
 obtain⟨k,a,e⟩:=agt h;rw[ab9,aae]at a;refine(k,by lia,?_);rw[<-e,ag6,afq]
theorem j0{xs:Array Keyed}{i k:Nat}{x:Keyed}(h:x∈(xs.toList.drop i).take k):∃d,d<k /\ ∃hd:i+d<xs.size,x=xs[i+d]:=by
 obtain⟨d,hd,e⟩:=agt h;rw[aaD,ab9,aae]at hd;refine(d,by lia,by lia,?_);rw[<-e,ahq,ag6,afq]
theorem o4(xs:Array Keyed)(i k:Nat):(xs.extract i (i+k)).toList=(xs.toList.drop i).take k:=by
 rw[ag3,agF,agg]
theorem ou(xs:Array Keyed)(i:Nat):(xs.extract i xs.size).toList=xs.toList.drop i:=by
 rw[ag3,agF,aai (by rw[ab9,aae];lia)]
section
variable{le:Keyed->Keyed->Prop}{L:List Keyed}{o a b:Array Keyed}{j k:Nat}{X:List Keyed}
theorem MI.pushR(h:MI le L o.toList X (b.toList.drop j))(f:j<b.size)(e:∀x∈X,le b[j] x):MI le L (o.push b[j]).toList X (b.toList.drop (j+1)):=by
 rw[yw f]at h;rw[agE];exact h.right λy d x c=>by rw[aas.mp d];exact e x c
theorem MI.pushL(h:MI le L o.toList (a.toList.drop i) X)(f:i<a.size)(e:∀x∈X,le a[i] x):MI le L (o.push a[i]).toList (a.toList.drop (i+1)) X:=by
 rw[yw f]at h;rw[agE];exact h.left λy d x c=>by rw[aas.mp d];exact e x c
theorem MI.moreR(h:MI le L o.toList X (b.toList.drop j))(c:∀y∈(b.toList.drop j).take k,∀x∈X,le y x):MI le L (o++b.extract j (j+k)).toList X (b.toList.drop (j+k)):=by
 rw[<-abG k (b.toList.drop j),ahK]at h;rw[aeg,o4];exact h.right c
theorem MI.moreL(h:MI le L o.toList (a.toList.drop i) X)(c:∀y∈(a.toList.drop i).take k,∀x∈X,le y x):MI le L (o++a.extract i (i+k)).toList (a.toList.drop (i+k)) X:=by
 rw[<-abG k (a.toList.drop i),ahK]at h;rw[aeg,o4];exact h.left c
theorem MI.fa(h:MI le L o.toList (a.toList.drop i) (b.toList.drop j))(c:∀x∈a.toList.drop i,∀y∈b.toList.drop j,le x y):Fin le L (o++a.extract i a.size++b.extract j b.size).toList:=by
 rw[aeg,aeg,ou,ou];exact h.xy c
theorem MI.fb(h:MI le L o.toList (a.toList.drop i) (b.toList.drop j))(c:∀y∈b.toList.drop j,∀x∈a.toList.drop i,le y x):Fin le L (o++b.extract j b.size++a.extract i a.size).toList:=by
 rw[aeg,aeg,ou,ou];exact h.yx c
theorem iM(h:b.size<=j):b.toList.drop j=[]:=aio (by rw[aae];exact h)
end
structure cL(st st':SortSt):Prop where
 kind:kindOf st'=kindOf st
 arr:arrOf st'=arrOf st
 pend:pendingOf st'=pendingOf st
 failed:failedOf st'=failedOf st
theorem cL.refl(st:SortSt):cL st st:=(rfl,rfl,rfl,rfl)
theorem uK{st:SortSt}{g:Nat}{Q:Unit->SortSt->Prop}(b:cL I st)(h:∀a,cL I a->Q () a):wpS (model prog w) A E s (setG g) Q st:=by
 rw[Pb];exact wpS_modify (h _ (b.kind,b.arr,b.pend,b.failed))
theorem Er{st:SortSt}{a b:Array Keyed}{Q:Array Keyed->SortSt->Prop}(hO:κ.OneLt)(hk:kindOf st=oneType')(hA:KeysOf κ a)(hB:KeysOf κ b)(sa:a.toList.Pairwise (kl κ))(sb:b.toList.Pairwise (kl κ))(na:0<a.size)(nb:0<b.size)
  (hf:∀x∈a.toList,kl κ b[0] x)(hl:∀y∈b.toList,kl κ y (a[a.size - 1]'(by omega)))(h:∀r m,cL st m->Fin (kl κ) (a.toList++b.toList) r.toList->Q r m):wpS (model prog w) A E s (wA a b) Q st:=by
 have kA:∀i (C:i<a.size),∃x,κ.keyOf a[i].1=some x:=λi C=>hA _ (aeS _);have kB:∀i (C:i<b.size),∃x,κ.keyOf b[i].1=some x:=λi C=>hB _ (aeS _);have B:∀i j,i+1=a.size -> ∀y∈b.toList.drop j,∀x∈a.toList.drop i,kl κ y x:=λi j C y f x F=>by
  obtain⟨k,hk,rfl⟩:=fD F;have:i+k=a.size - 1:=by lia
  have q:=hl y (agL f);simp only[this];exact q
 have sA:=λlo=>vR sa (lo:=lo) (aad _);have sB:=λlo=>vR sb (lo:=lo) (aad _);have M0:MI (kl κ) (a.toList++b.toList) (#[b[0]]:Array Keyed).toList (a.toList.drop 0) (b.toList.drop 1):=by
  have M:MI (kl κ) (a.toList++b.toList) (#[]:Array Keyed).toList (a.toList.drop 0) (b.toList.drop 0):=(.rfl,.nil,sa,sb,λo ho=>(ahv ho).elim,λo ho=>(ahv ho).elim);exact M.pushR nb λx F=>hf x F
 rw[Di];unfold mlo;refine wpS_bind (wpS_lift (wpAny_rule (rfl,?_)));refine wpS_bind (bj nb ?_);refine aU (λc=>wpS_pure (h _ _ (cL.refl _) (M0.fa λx _ y f=>?_))) λc1=>?_
 ·rw[iM (by have:=beq_iff_eq.mp c;lia)]at f;cases f
 refine aU (λc=>wpS_pure (h _ _ (cL.refl _) (M0.fb (B _ _ (beq_iff_eq.mp c))))) λc2=>?_;have c1:1≠b.size:=λz=>c1 (beq_iff_eq.mpr z);have c2:0+1≠a.size:=λz=>c2 (beq_iff_eq.mpr z);refine wpS_bind (wpS_get ?_);have a7:∀r m,cL st m->Fin (kl κ) (a.toList++b.toList) r.toList->Q r m:=h;refine wpS_bind (wpS_mono (wpS_forRange (I:=λx c m=>cL st m /\ ∃o i j g,c=(pq none (pq o (pq i (pq j g))))/\MI (kl κ) (a.toList++b.toList) o.toList (a.toList.drop i) (b.toList.drop j)/\i+1<a.size/\j<b.size/\x+1<=i+j)
  (Q:=λc m=>cL st m /\ ∃r,c.1=some r/\Fin (kl κ) (a.toList++b.toList) r.toList) ?_ ?_ (cL.refl _,_,0,1,_,rfl,M0,by lia,by lia,by lia)) ?_)
 ·rintro x c S _ F ⟨L,o,i,j,g,rfl,M,C,t,K⟩;refine wpS_bind (wpS_mono (wpS_forRange (I:=λy c m=>cL st m /\ ∃o i j p q,c=(pq none (pq o (pq i (pq j (pq p q)))))/\MI (kl κ) (a.toList++b.toList) o.toList (a.toList.drop i) (b.toList.drop j)/\i+1<a.size/\j<b.size/\x+1+y<=i+j)
   (Q:=λc m=>cL st m/\((∃r,c.1=some r/\Fin (kl κ) (a.toList++b.toList) r.toList) \/ ∃o i j p q,c=(pq none (pq o (pq i (pq j (pq p q)))))/\MI (kl κ) (a.toList++b.toList) o.toList (a.toList.drop i) (b.toList.drop j)/\i+1<a.size/\j<b.size/\x+2<=i+j)) ?_ ?_ (L,o,i,j,0,0,rfl,M,C,t,K)) ?_)
  ·rintro y c a1 _ f ⟨u,o,i,j,p,q,rfl,M,C,t,K⟩;refine wpS_bind (bj t (wpS_bind (bj (show i<a.size by lia) (wpS_bind (Hs hO (u.kind.trans hk) (kB j t) (kA i (by lia)) ?_)))));cases hv:κ.blt (ky κ b[j]) (ky κ (a[i]'(by omega)))
   ·refine aU (λz=>absurd z (by decide)) λ_=>?_;refine wpS_bind (bj (show i<a.size by lia) ?_);have R:=M.pushL (show i<a.size by lia) λy f=>by
     obtain⟨d,hd,rfl⟩:=fD f;have q:=sB j j (j+d) (aad _) (by lia) hd;rw[bM t,bM hd]at q;exact dR hv q
    refine aU (λz=>wpS_pure (u,.inl (_,rfl,R.fb (B _ _ (beq_iff_eq.mp z))))) λz=>?_;have z:i+1+1≠a.size:=λe=>z (beq_iff_eq.mpr e);exact aU (λ_=>wpS_pure (u,.inr (_,i+1,j,_,_,rfl,R,by lia,t,by lia))) λ_=>wpS_pure (u,_,i+1,j,_,_,rfl,R,by lia,t,by lia)
   ·refine aU (λ_=>?_) λz=>absurd rfl z;refine wpS_bind (bj t ?_);have R:=M.pushR t λy f=>by
     obtain⟨d,hd,rfl⟩:=fD f;have q:=sA i i (i+d) (aad _) (by lia) hd;rw[bM (show i<a.size by lia),bM hd]at q;exact dR (KeyOrd.kle_of_klt hv) q
    refine aU (λz=>wpS_pure (u,.inl (_,rfl,R.fa λx _ y f=>?_))) λz=>?_
    ·have z:j+1=b.size:=beq_iff_eq.mp z;rw[iM (by lia)]at f;cases f
    have z:j+1≠b.size:=λe=>z (beq_iff_eq.mpr e);exact aU (λ_=>wpS_pure (u,.inr (_,i,j+1,_,_,rfl,R,C,by lia,by lia))) λ_=>wpS_pure (u,_,i,j+1,_,_,rfl,R,C,by lia,by lia)
  ·rintro c a1 ⟨u,o,i,j,p,q,rfl,M,C,t,K⟩;exact(u,.inr (o,i,j,p,q,rfl,M,C,t,by lia))
  ·rintro c a1 ⟨u,hc⟩;rcases hc with ⟨r,Z,hF⟩|⟨o,i,j,p,q,rfl,M,C,t,K⟩
   ·obtain⟨c1,c2⟩:=c;cases Z;exact wpS_pure (u,r,rfl,hF)
   refine wpS_bind (wpS_lift (wpAny_rule (rfl,?_)));refine wpS_bind (wpS_mono (wpS_forRange (I:=λy c m=>cL st m /\ ∃o i j g p q,c=(pq none (pq o (pq i (pq j (pq g (pq p q))))))/\MI (kl κ) (a.toList++b.toList) o.toList (a.toList.drop i) (b.toList.drop j)/\i+1<a.size/\j<b.size/\x+2<=i+j)
    (Q:=λc m=>cL st m/\((∃r,c.1=some r/\Fin (kl κ) (a.toList++b.toList) r.toList) \/ ∃o i j g p q,c=(pq none (pq o (pq i (pq j (pq g (pq p q))))))/\MI (kl κ) (a.toList++b.toList) o.toList (a.toList.drop i) (b.toList.drop j)/\i+1<a.size/\j<b.size/\x+2<=i+j)) ?_ ?_ (u,o,i,j,_,p,q,rfl,M,C,t,K)) ?_)
   ·rintro y c a0 _ f ⟨W,o,i,j,g,p,q,rfl,M,C,t,K⟩;refine aU (λ_=>?_) λ_=>?_
    all_goals
     refine wpS_bind (uK W λVu v=>?_);refine wpS_bind (bj t (wpS_bind (lq (base:=i) (n:=a.size - i) (hint:=0) hO (v.kind.trans hk) hA (kB j t) (by rw[show i+(a.size - i)=a.size by lia];exact sA i) (by lia) (by lia) λk a6 a4 a3=>?_)));have M1:MI (kl κ) (a.toList++b.toList) (o++a.extract i (i+k)).toList (a.toList.drop (i+k)) (b.toList.drop j):=M.moreL λx F y f=>by
      obtain⟨d,hd,J,rfl⟩:=j0 F;obtain⟨e,O,rfl⟩:=fD f;have D:=a4 d hd;rw[bM J]at D;have N:=sB j j (j+e) (aad _) (by lia) O;rw[bM t,bM O]at N;exact dR D N
     have B1:∀x∈a.toList.drop (i+k),kl κ b[j] x:=λx F=>by
      obtain⟨d,hd,rfl⟩:=fD F;have D:=a3 (k+d) (by lia) (by lia);rw[show i+(k+d)=i+k+d by lia,bM hd]at D;exact KeyOrd.kle_of_klt D
     refine aU (λa5=>aU (λz=>wpS_pure (v,.inl (_,rfl,M1.fb (B _ _ (beq_iff_eq.mp z))))) λz1=>aU (λz=>wpS_pure (v,.inl (_,rfl,M1.fa λx F=>?_))) λz2=>?_) λa5=>?_
     ·have z:i+k=a.size:=beq_iff_eq.mp z;rw[iM (by lia)]at F;cases F
     ·have z1:i+k+1≠a.size:=λe=>z1 (beq_iff_eq.mpr e);have z2:i+k≠a.size:=λe=>z2 (beq_iff_eq.mpr e);refine wpS_bind (bj t ?_);have P:=M1.pushR t B1;refine aU (λz=>wpS_pure (v,.inl (_,rfl,P.fa λx _ y f=>?_))) λY=>?_
      ·have z:j+1=b.size:=beq_iff_eq.mp z;rw[iM (by lia)]at f;cases f
      have Y:j+1≠b.size:=λe=>Y (beq_iff_eq.mpr e);refine wpS_bind (bj (show i+k<a.size by lia) (wpS_bind (gw (base:=j+1) (n:=b.size - (j+1)) (hint:=0) hO (v.kind.trans hk) hB (kA (i+k) (by lia)) (by rw[show j+1+(b.size - (j+1))=b.size by lia];exact sB _) (by lia) (by lia) λl a2 U T=>?_)));have M4:=P.moreR (k:=l) λy f x F=>by
       obtain⟨d,hd,J,rfl⟩:=j0 f;obtain⟨e,O,rfl⟩:=fD F;have D:=U d hd;rw[bM J]at D;have N:=sA (i+k) (i+k) (i+k+e) (aad _) (by lia) O;rw[bM (show i+k<a.size by lia),bM O]at N;exact dR (KeyOrd.kle_of_klt D) N
      have A4:∀y∈b.toList.drop (j+1+l),kl κ (a[i+k]'(by omega)) y:=λy f=>by
       obtain⟨d,hd,rfl⟩:=fD f;have D:=T (l+d) (by lia) (by lia);rw[show j+1+(l+d)=j+1+l+d by lia,bM hd]at D;exact D
      refine aU (λV=>aU (λz=>wpS_pure (v,.inl (_,rfl,M4.fa λx _ y f=>?_))) λX=>?_) λV=>?_
      ·have z:j+1+l=b.size:=beq_iff_eq.mp z;rw[iM (by lia)]at f;cases f
      ·have X:j+1+l≠b.size:=λe=>X (beq_iff_eq.mpr e);refine wpS_bind (bj (show i+k<a.size by lia) ?_);have G:=M4.pushL (show i+k<a.size by lia) A4;refine aU (λz=>wpS_pure (v,.inl (_,rfl,G.fb (B _ _ (beq_iff_eq.mp z))))) λH=>?_;have H:i+k+1+1≠a.size:=λe=>H (beq_iff_eq.mpr e);exact aU (λ_=>wpS_pure (v,.inr (_,i+k+1,j+1+l,_,_,_,rfl,G,by lia,by lia,by lia))) λ_=>wpS_pure (v,_,i+k+1,j+1+l,_,_,_,rfl,G,by lia,by lia,by lia)
      ·have:l=0:=by lia
       subst this;refine wpS_bind (bj (show i+k<a.size by lia) ?_);have G:=P.pushL (show i+k<a.size by lia) A4;refine aU (λz=>wpS_pure (v,.inl (_,rfl,G.fb (B _ _ (beq_iff_eq.mp z))))) λH=>?_;have H:i+k+1+1≠a.size:=λe=>H (beq_iff_eq.mpr e);exact aU (λ_=>wpS_pure (v,.inr (_,i+k+1,j+1,_,_,_,rfl,G,by lia,by lia,by lia))) λ_=>wpS_pure (v,_,i+k+1,j+1,_,_,_,rfl,G,by lia,by lia,by lia)
     ·have:k=0:=by lia
      subst this;refine wpS_bind (bj t ?_);have P:=M.pushR t B1;refine aU (λz=>wpS_pure (v,.inl (_,rfl,P.fa λx _ y f=>?_))) λY=>?_
      ·have z:j+1=b.size:=beq_iff_eq.mp z;rw[iM (by lia)]at f;cases f
      have Y:j+1≠b.size:=λe=>Y (beq_iff_eq.mpr e);refine wpS_bind (bj (show i<a.size by lia) (wpS_bind (gw (base:=j+1) (n:=b.size - (j+1)) (hint:=0) hO (v.kind.trans hk) hB (kA (i) (by lia)) (by rw[show j+1+(b.size - (j+1))=b.size by lia];exact sB _) (by lia) (by lia) λl a2 U T=>?_)));have M4:=P.moreR (k:=l) λy f x F=>by
       obtain⟨d,hd,J,rfl⟩:=j0 f;obtain⟨e,O,rfl⟩:=fD F;have D:=U d hd;rw[bM J]at D;have N:=sA (i) (i) (i+e) (aad _) (by lia) O;rw[bM (show i<a.size by lia),bM O]at N;exact dR (KeyOrd.kle_of_klt D) N
      have A4:∀y∈b.toList.drop (j+1+l),kl κ (a[i]'(by omega)) y:=λy f=>by
       obtain⟨d,hd,rfl⟩:=fD f;have D:=T (l+d) (by lia) (by lia);rw[show j+1+(l+d)=j+1+l+d by lia,bM hd]at D;exact D
      refine aU (λV=>aU (λz=>wpS_pure (v,.inl (_,rfl,M4.fa λx _ y f=>?_))) λX=>?_) λV=>?_
      ·have z:j+1+l=b.size:=beq_iff_eq.mp z;rw[iM (by lia)]at f;cases f
      ·have X:j+1+l≠b.size:=λe=>X (beq_iff_eq.mpr e);refine wpS_bind (bj (show i<a.size by lia) ?_);have G:=M4.pushL (show i<a.size by lia) A4;refine aU (λz=>wpS_pure (v,.inl (_,rfl,G.fb (B _ _ (beq_iff_eq.mp z))))) λH=>?_;have H:i+1+1≠a.size:=λe=>H (beq_iff_eq.mpr e);exact aU (λ_=>wpS_pure (v,.inr (_,i+1,j+1+l,_,_,_,rfl,G,by lia,by lia,by lia))) λ_=>wpS_pure (v,_,i+1,j+1+l,_,_,_,rfl,G,by lia,by lia,by lia)
      ·have:l=0:=by lia
       subst this;refine wpS_bind (bj (show i<a.size by lia) ?_);have G:=P.pushL (show i<a.size by lia) A4;refine aU (λz=>wpS_pure (v,.inl (_,rfl,G.fb (B _ _ (beq_iff_eq.mp z))))) λH=>?_;have H:i+1+1≠a.size:=λe=>H (beq_iff_eq.mpr e);exact aU (λ_=>wpS_pure (v,.inr (_,i+1,j+1,_,_,_,rfl,G,by lia,by lia,by lia))) λ_=>wpS_pure (v,_,i+1,j+1,_,_,_,rfl,G,by lia,by lia,by lia)
   ·rintro c a0 ⟨W,o,i,j,g,p,q,rfl,M,C,t,K⟩;exact(W,.inr (o,i,j,g,p,q,rfl,M,C,t,K))
   ·rintro c a0 ⟨W,hc⟩;rcases hc with ⟨r,Z,hF⟩|⟨o,i,j,g,p,q,rfl,M,C,t,K⟩
    ·obtain⟨c1,c2⟩:=c;cases Z;exact wpS_pure (W,r,rfl,hF)
    exact wpS_bind (uK W λVu v=>wpS_pure (v,o,i,j,_,rfl,M,C,t,by lia))
 ·rintro c S ⟨L,o,i,j,g,rfl,M,C,t,K⟩;exfalso;lia
 ·rintro c S ⟨L,r,Z,hF⟩;obtain⟨c1,c2⟩:=c;cases Z;exact wpS_pure (h r S L hF)
end
def wu:Array Keyed->Array Keyed->StateT SortSt Sem (Array Keyed):=sortPriv% PySem.Builtin.mergeHi
def mhi(a b:Array Keyed):StateT SortSt Sem (Array Keyed):=do
 rule "list.sort.merge-hi"
 let t:=a.size+b.size
 let c (o:Array Keyed) (m n:Nat):=a.extract 0 m++b.extract 0 n++o.reverse
 let d (o:Array Keyed) (m n:Nat):=b.extract 0 n++a.extract 0 m++o.reverse
 let mut m:=a.size - 1
 let mut n:=b.size
 let mut o:Array Keyed:=#[<-elem' a m]
 if m == 0 then return c o m n
 if n == 1 then return d o m n
 let mut g:=gallopOf (<-get)
 for _ in [0:t] do
  let mut p:=0
  let mut q:=0
  for _ in [0:t] do
   let some v <-lt' (<-elem' b (n - 1)) (<-elem' a (m - 1)) | return c o m n
   if v then
    m:=m - 1;o:=o.push (<-elem' a m);p:=p+1;q:=0
    if m == 0 then return c o m n
    if p >= g then break
   else
    n:=n - 1;o:=o.push (<-elem' b n);q:=q+1;p:=0
    if n == 1 then return d o m n
    if q >= g then break
  rule "list.sort.gallop"
  g:=g+1
  for _ in [0:t] do
   if g > 1 then g:=g - 1
   setG g
   let some z <-gm false (<-elem' b (n - 1)) a 0 m (m - 1) | return c o m n
   let k:=m - z
   p:=k
   if k > 0 then
    o:=o++(a.extract z m).reverse;m:=z
    if m == 0 then return c o m n
   n:=n - 1;o:=o.push (<-elem' b n)
   if n == 1 then return d o m n
   let some z <-gm true (<-elem' a (m - 1)) b 0 n (n - 1) | return c o m n
   let k:=n - z
   q:=k
   if k > 0 then
    o:=o++(b.extract z n).reverse;n:=z
    if n == 1 then return d o m n
    if n == 0 then return c o m n
   m:=m - 1;o:=o.push (<-elem' a m)
   if m == 0 then return c o m n
   if p<7 && q<7 then break
  g:=g+1
  setG g
 (unsupported "internal:list.sort.merge-bound" : StateT SortSt Sem (Array Keyed))
theorem Bf(a b:Array Keyed):wu a b=mhi a b:=rfl
section
variable{κ:KeyKind}
def kr(κ:KeyKind)(x y:Keyed):Prop:=kl κ y x
abbrev hd(xs:Array Keyed)(m:Nat):List Keyed:=(xs.toList.take m).reverse
theorem G6{xs:Array Keyed}{m:Nat}(b:1<=m)(a:m<=xs.size):hd xs m=[xs[m - 1]'(by omega)]++hd xs (m - 1):=by
 obtain⟨k,rfl⟩:∃k,m=k+1:=(m - 1,by lia);unfold hd;rw[acI,aac (by rw[aae];lia),afq];simp
theorem Mp{xs:Array Keyed}{m :Nat}(hz:n<=m):hd xs m=((xs.toList.take m).drop n).reverse++hd xs n:=by
 unfold hd;rw[<-agT,show xs.toList.take n=(xs.toList.take m).take n by rw[ahJ,afM hz],abG]
theorem eU{xs:Array Keyed}{m:Nat}{x:Keyed}(h:x∈hd xs m):∃d,d<m /\ ∃hd:d<xs.size,x=xs[d]:=by
 obtain⟨d,a,e⟩:=agt (aht.mp h);rw[aaD,aae]at a;exact(d,by lia,by lia,by rw[<-e,ahq,afq])
theorem Ae{xs:Array Keyed}{m :Nat}{x:Keyed}(h:x∈((xs.toList.take m).drop n).reverse):∃d,n<=d/\d<m /\ ∃hd:d<xs.size,x=xs[d]:=by
 obtain⟨d,a,e⟩:=agt (aht.mp h);rw[ab9,aaD,aae]at a;exact(n+d,by lia,by lia,by lia,by rw[<-e,ag6,ahq,afq])
section
variable{le:Keyed->Keyed->Prop}{L:List Keyed}{o a b:Array Keyed}{m z:Nat}{X:List Keyed}
theorem MI.popL(h:MI le L o.toList (hd a m) X)(g:1<=m)(f:m<=a.size)(e:∀x∈X,le (a[m - 1]'(by omega)) x):MI le L (o.push (a[m - 1]'(by omega))).toList (hd a (m - 1)) X:=by
 rw[G6 g f]at h;rw[agE];exact h.left λy d x c=>by rw[aas.mp d];exact e x c
theorem MI.popR(h:MI le L o.toList X (hd b n))(g:1<=n)(f:n<=b.size)(e:∀x∈X,le (b[n - 1]'(by omega)) x):MI le L (o.push (b[n - 1]'(by omega))).toList X (hd b (n - 1)):=by
 rw[G6 g f]at h;rw[agE];exact h.right λy d x c=>by rw[aas.mp d];exact e x c
theorem BW(xs:Array Keyed)(m z:Nat):(o++(xs.extract z m).reverse).toList=o.toList++((xs.toList.take m).drop z).reverse:=by
 rw[aeg,ahU,ag3,agF,<-List.drop_take]
theorem MI.cutL(h:MI le L o.toList (hd a m) X)(hz:z<=m)(c:∀y∈((a.toList.take m).drop z).reverse,∀x∈X,le y x):MI le L (o++(a.extract z m).reverse).toList (hd a z) X:=by
 rw[Mp hz]at h;rw[BW];exact h.left c
theorem MI.cutR(h:MI le L o.toList X (hd b n))(hz:z<=n)(c:∀y∈((b.toList.take n).drop z).reverse,∀x∈X,le y x):MI le L (o++(b.extract z n).reverse).toList X (hd b z):=by
 rw[Mp hz]at h;rw[BW];exact h.right c
theorem Hh{r:List Keyed}(h:Fin (kr κ) L r.reverse):Fin (kl κ) L r:=((aii r).symm.trans h.1,ahi.mp h.2)
theorem lG(xs:Array Keyed)(m:Nat):(xs.extract 0 m).toList=xs.toList.take m:=by
 rw[ag3,agF,aha,ag7]
theorem MI.ha(h:MI (kr κ) L o.toList (hd a m) (hd b n))(c:∀y∈hd b n,∀x∈hd a m,kr κ y x):Fin (kl κ) L (a.extract 0 m++b.extract 0 n++o.reverse).toList:=by
 refine Hh ?_;rw[aeg,aeg,lG,lG,ahU,agT,aiy,agT,<-aa5];exact h.yx c
theorem MI.hb(h:MI (kr κ) L o.toList (hd a m) (hd b n))(c:∀x∈hd a m,∀y∈hd b n,kr κ x y):Fin (kl κ) L (b.extract 0 n++a.extract 0 m++o.reverse).toList:=by
 refine Hh ?_;rw[aeg,aeg,lG,lG,ahU,agT,aiy,agT,<-aa5];exact h.xy c
end
theorem GD{st:SortSt}{a b:Array Keyed}{Q:Array Keyed->SortSt->Prop}(hO:κ.OneLt)(hk:kindOf st=oneType')(hA:KeysOf κ a)(hB:KeysOf κ b)(sa:a.toList.Pairwise (kl κ))(sb:b.toList.Pairwise (kl κ))(na:0<a.size)(nb:0<b.size)
  (hf:∀x∈a.toList,kl κ b[0] x)(hl:∀y∈b.toList,kl κ y (a[a.size - 1]'(by omega)))(h:∀r t,cL st t->Fin (kl κ) (a.toList++b.toList) r.toList->Q r t):wpS (model prog w) A E s (wu a b) Q st:=by
 have kA:∀i (hi:i<a.size),∃x,κ.keyOf a[i].1=some x:=λi hi=>hA _ (aeS _);have kB:∀i (hi:i<b.size),∃x,κ.keyOf b[i].1=some x:=λi hi=>hB _ (aeS _);have first:∀m,∀x∈hd a m,∀y∈hd b 1,kr κ x y:=λm x J y F=>by
  obtain⟨d,a9,a8,rfl⟩:=eU F;have:d=0:=by lia
  subst this;exact hf x (ag2 (aht.mp J))
 have sA:=vR sa (lo:=0) (aad _);have sB:=vR sb (lo:=0) (aad _);have ZG:∀d e (hd:d<a.size) (T:e<a.size),d<=e->kl κ a[d] a[e]:=λd e hd T a1=>by
  have q:=sA d e (aaP _) a1 T;rw[bM hd,bM T]at q;exact q
 have a4:∀d e (hd:d<b.size) (T:e<b.size),d<=e->kl κ b[d] b[e]:=λd e hd T a1=>by
  have q:=sB d e (aaP _) a1 T;rw[bM hd,bM T]at q;exact q
 have a7:∀y∈hd b b.size,∀x∈hd a 0,kr κ y x:=λy _ x J=>by
  obtain⟨d,hd,_⟩:=eU J;lia
 have S:∀n,∀y∈hd b n,∀x∈hd a 0,kr κ y x:=λn y _ x J=>by
  obtain⟨d,hd,_⟩:=eU J;lia
 have zB:∀m,∀y∈hd b 0,∀x∈hd a m,kr κ y x:=λm y F x _=>by
  obtain⟨d,hd,_⟩:=eU F;lia
 have M0:MI (kr κ) (a.toList++b.toList) (#[a[a.size - 1]'(by omega)]:Array Keyed).toList (hd a (a.size - 1)) (hd b b.size):=by
  have ea:a.toList.take a.size=a.toList:=aai (by rw[aae];exact aad _);have eb:b.toList.take b.size=b.toList:=aai (by rw[aae];exact aad _);have M:MI (kr κ) (a.toList++b.toList) (#[]:Array Keyed).toList (hd a a.size) (hd b b.size):=by
   refine(?_,.nil,?_,?_,λo ho=>(ahv ho).elim,λo ho=>(ahv ho).elim)
   ·show agj ([]++hd a a.size++hd b b.size) _;unfold hd;rw[ea,eb];exact(aii _).append (aii _)
   ·unfold hd;rw[ea];exact ahi.mpr sa
   ·unfold hd;rw[eb];exact ahi.mpr sb
  exact M.popL na (aad _) λy F=>hl y (by have:=aht.mp F;rw[eb]at this;exact this)
 rw[Bf];unfold mhi;refine wpS_bind (wpS_lift (wpAny_rule (rfl,?_)));refine wpS_bind (bj (show a.size - 1<a.size by lia) ?_);refine aU (λc=>wpS_pure (h _ _ (cL.refl _) (M0.ha ?_))) λc1=>?_
 ·have c:a.size - 1=0:=beq_iff_eq.mp c;rw[c];exact S _
 refine aU (λc=>wpS_pure (h _ _ (cL.refl _) (M0.hb ?_))) λc2=>?_
 ·have c:b.size=1:=beq_iff_eq.mp c;rw[c];exact first _
 have c1:a.size - 1≠0:=λz=>c1 (beq_iff_eq.mpr z);have c2:b.size≠1:=λz=>c2 (beq_iff_eq.mpr z);refine wpS_bind (wpS_get ?_);refine wpS_bind (wpS_mono (wpS_forRange (I:=λx c t=>cL st t /\ ∃m n o g,c=(pq none (pq m (pq n (pq o g))))/\MI (kr κ) (a.toList++b.toList) o.toList (hd a m) (hd b n)/\1<=m/\m<=a.size/\2<=n/\n<=b.size/\x+1+(m+n)<=a.size+b.size)
  (Q:=λc t=>cL st t /\ ∃r,c.1=some r/\Fin (kl κ) (a.toList++b.toList) r.toList) ?_ ?_ (cL.refl _,a.size - 1,b.size,_,_,rfl,M0,by lia,by lia,by lia,by lia,by lia)) ?_)
 ·rintro x c X _ J ⟨R,m,n,o,g,rfl,M,k,j,u,f,G⟩;refine wpS_bind (wpS_mono (wpS_forRange (I:=λy c t=>cL st t /\ ∃m n o p q,c=(pq none (pq m (pq n (pq o (pq p q)))))/\MI (kr κ) (a.toList++b.toList) o.toList (hd a m) (hd b n)/\1<=m/\m<=a.size/\2<=n/\n<=b.size/\x+1+y+(m+n)<=a.size+b.size)
   (Q:=λc t=>cL st t/\((∃r,c.1=some r/\Fin (kl κ) (a.toList++b.toList) r.toList) \/ ∃m n o p q,c=(pq none (pq m (pq n (pq o (pq p q)))))/\MI (kr κ) (a.toList++b.toList) o.toList (hd a m) (hd b n)/\1<=m/\m<=a.size/\2<=n/\n<=b.size/\x+2+(m+n)<=a.size+b.size)) ?_ ?_ (R,m,n,o,0,0,rfl,M,k,j,u,f,G)) ?_)
  ·rintro y c a3 _ F ⟨C,m,n,o,p,q,rfl,M,k,j,u,f,G⟩;refine wpS_bind (bj (show n - 1<b.size by lia) (wpS_bind (bj (show m - 1<a.size by lia) (wpS_bind (Hs hO (C.kind.trans hk) (kB (n - 1) (by lia)) (kA (m - 1) (by lia)) ?_)))));cases hv:κ.blt (ky κ (b[n - 1]'(by omega))) (ky κ (a[m - 1]'(by omega)))
   ·refine aU (λz=>absurd z (by decide)) λ_=>?_;refine wpS_bind (bj (show n - 1<b.size by lia) ?_);have W:=M.popR (by lia) f λx J=>by
     obtain⟨d,B,v,rfl⟩:=eU J;exact dR (ZG d (m - 1) v (by lia) (by lia)) hv
    refine aU (λz=>wpS_pure (C,.inl (_,rfl,W.hb ?_))) λz=>?_
    ·have z:n - 1=1:=beq_iff_eq.mp z;rw[z];exact first _
    have z:n - 1≠1:=λe=>z (beq_iff_eq.mpr e);exact aU (λ_=>wpS_pure (C,.inr (m,n - 1,_,_,_,rfl,W,k,j,by lia,by lia,by lia))) λ_=>wpS_pure (C,m,n - 1,_,_,_,rfl,W,k,j,by lia,by lia,by lia)
   ·refine aU (λ_=>?_) λz=>absurd rfl z;refine wpS_bind (bj (show m - 1<a.size by lia) ?_);have W:=M.popL k j λy F=>by
     obtain⟨d,B,v,rfl⟩:=eU F;exact dR (a4 d (n - 1) v (by lia) (by lia)) (KeyOrd.kle_of_klt hv)
    refine aU (λz=>wpS_pure (C,.inl (_,rfl,W.ha ?_))) λz=>?_
    ·have z:m - 1=0:=beq_iff_eq.mp z;rw[z];exact S _
    have z:m - 1≠0:=λe=>z (beq_iff_eq.mpr e);exact aU (λ_=>wpS_pure (C,.inr (m - 1,n,_,_,_,rfl,W,by lia,by lia,u,f,by lia))) λ_=>wpS_pure (C,m - 1,n,_,_,_,rfl,W,by lia,by lia,u,f,by lia)
  ·rintro c a3 ⟨C,m,n,o,p,q,rfl,M,k,j,u,f,G⟩;exact(C,.inr (m,n,o,p,q,rfl,M,k,j,u,f,by lia))
  ·rintro c a3 ⟨C,hc⟩;rcases hc with ⟨r,hr,hF⟩|⟨m,n,o,p,q,rfl,M,k,j,u,f,G⟩
   ·obtain⟨c1,c2⟩:=c;cases hr;exact wpS_pure (C,r,rfl,hF)
   refine wpS_bind (wpS_lift (wpAny_rule (rfl,?_)));refine wpS_bind (wpS_mono (wpS_forRange (I:=λy c t=>cL st t /\ ∃m n o g p q,c=(pq none (pq m (pq n (pq o (pq g (pq p q))))))/\MI (kr κ) (a.toList++b.toList) o.toList (hd a m) (hd b n)/\1<=m/\m<=a.size/\2<=n/\n<=b.size/\x+2+(m+n)<=a.size+b.size)
    (Q:=λc t=>cL st t/\((∃r,c.1=some r/\Fin (kl κ) (a.toList++b.toList) r.toList) \/ ∃m n o g p q,c=(pq none (pq m (pq n (pq o (pq g (pq p q))))))/\MI (kr κ) (a.toList++b.toList) o.toList (hd a m) (hd b n)/\1<=m/\m<=a.size/\2<=n/\n<=b.size/\x+2+(m+n)<=a.size+b.size)) ?_ ?_ (C,m,n,o,_,p,q,rfl,M,k,j,u,f,G)) ?_)
   ·rintro y c a2 _ F ⟨VD,m,n,o,g,p,q,rfl,M,k,j,u,f,G⟩;refine aU (λ_=>?_) λ_=>?_
    all_goals
     refine wpS_bind (uK VD λVu D=>?_);refine wpS_bind (bj (show n - 1<b.size by lia) (wpS_bind (lq (base:=0) (n:=m) (hint:=m - 1) hO (D.kind.trans hk) hA (kB (n - 1) (by lia)) (by rw[agB];exact vR sa j) (by lia) (by lia) λz a5 P YC=>?_)));have P:∀d (hd:d<a.size),d<z->kl κ a[d] (b[n - 1]'(by omega)):=λd hd a6=>by
      have q:=P d a6;rw[agB,bM hd]at q;exact q
     have YC:∀d (hd:d<a.size),z<=d->d<m->kl κ (b[n - 1]'(by omega)) a[d]:=λd hd B v=>by
      have q:=YC d B v;rw[agB,bM hd]at q;exact KeyOrd.kle_of_klt q
     have M1:MI (kr κ) (a.toList++b.toList) (o++(a.extract z m).reverse).toList (hd a z) (hd b n):=M.cutL a5 λx J y F=>by
      obtain⟨d,B,v,h3,rfl⟩:=Ae J;obtain⟨e,h4,h5,rfl⟩:=eU F;exact dR (a4 e (n - 1) h5 (by lia) (by lia)) (YC d h3 B v)
     refine aU (λZ=>aU (λc=>wpS_pure (D,.inl (_,rfl,M1.ha ?_))) λc3=>?_) λZ=>?_
     ·have c:z=0:=beq_iff_eq.mp c;rw[c];exact S _
     ·have c3:z≠0:=λe=>c3 (beq_iff_eq.mpr e);refine wpS_bind (bj (show n - 1<b.size by lia) ?_);have V:=M1.popR (by lia) f λx J=>by
       obtain⟨d,B,v,rfl⟩:=eU J;exact P d v B
      refine aU (λc=>wpS_pure (D,.inl (_,rfl,V.hb ?_))) λc4=>?_
      ·have c:n - 1=1:=beq_iff_eq.mp c;rw[c];exact first _
      have c4:n - 1≠1:=λe=>c4 (beq_iff_eq.mpr e);refine wpS_bind (bj (show z - 1<a.size by lia) (wpS_bind (gw (base:=0) (n:=n - 1) (hint:=n - 1 - 1) hO (D.kind.trans hk) hB (kA (z - 1) (by lia)) (by rw[agB];exact vR sb (by lia)) (by lia) (by lia) λl Y H L=>?_)));have H:∀d (hd:d<b.size),d<l->kl κ b[d] (a[z - 1]'(by omega)):=λd hd a0=>by
       have q:=H d a0;rw[agB,bM hd]at q;exact KeyOrd.kle_of_klt q
      have L:∀d (hd:d<b.size),l<=d->d<n - 1->kl κ (a[z - 1]'(by omega)) b[d]:=λd hd B v=>by
       have q:=L d B v;rw[agB,bM hd]at q;exact q
      have U:=V.cutR Y λy F x J=>by
       obtain⟨d,B,v,h3,rfl⟩:=Ae F;obtain⟨e,h4,h5,rfl⟩:=eU J;exact dR (ZG e (z - 1) h5 (by lia) (by lia)) (L d h3 B v)
      refine aU (λN=>aU (λc=>wpS_pure (D,.inl (_,rfl,U.hb ?_))) λc6=>aU (λc=>wpS_pure (D,.inl (_,rfl,U.ha ?_))) λc7=>?_) λN=>?_
      ·have c:l=1:=beq_iff_eq.mp c;rw[c];exact first _
      ·have c:l=0:=beq_iff_eq.mp c;rw[c];exact zB _
      ·have c6:l≠1:=λe=>c6 (beq_iff_eq.mpr e);have c7:l≠0:=λe=>c7 (beq_iff_eq.mpr e);refine wpS_bind (bj (show z - 1<a.size by lia) ?_);have K:=U.popL (by lia) (by lia) λy F=>by obtain⟨d,B,v,rfl⟩:=eU F;exact H d v B
       refine aU (λc=>wpS_pure (D,.inl (_,rfl,K.ha ?_))) λO=>?_
       ·have c:z - 1=0:=beq_iff_eq.mp c;rw[c];exact S _
       have O:z - 1≠0:=λe=>O (beq_iff_eq.mpr e);exact aU (λ_=>wpS_pure (D,.inr (z - 1,l,_,_,_,_,rfl,K,by lia,by lia,by lia,by lia,by lia))) λ_=>wpS_pure (D,z - 1,l,_,_,_,_,rfl,K,by lia,by lia,by lia,by lia,by lia)
      ·have N:¬n - 1 - l > 0:=N;have:l=n - 1:=by lia
       subst this;refine wpS_bind (bj (show z - 1<a.size by lia) ?_);have K:=V.popL (by lia) (by lia) λy F=>by obtain⟨d,B,v,rfl⟩:=eU F;exact H d v B
       refine aU (λc=>wpS_pure (D,.inl (_,rfl,K.ha ?_))) λO=>?_
       ·have c:z - 1=0:=beq_iff_eq.mp c;rw[c];exact S _
       have O:z - 1≠0:=λe=>O (beq_iff_eq.mpr e);exact aU (λ_=>wpS_pure (D,.inr (z - 1,(n - 1),_,_,_,_,rfl,K,by lia,by lia,by lia,by lia,by lia))) λ_=>wpS_pure (D,z - 1,(n - 1),_,_,_,_,rfl,K,by lia,by lia,by lia,by lia,by lia)
     ·have Z:¬m - z > 0:=Z;have:z=m:=by lia
      subst this;refine wpS_bind (bj (show n - 1<b.size by lia) ?_);have V:=M.popR (by lia) f λx J=>by
       obtain⟨d,B,v,rfl⟩:=eU J;exact P d v B
      refine aU (λc=>wpS_pure (D,.inl (_,rfl,V.hb ?_))) λc4=>?_
      ·have c:n - 1=1:=beq_iff_eq.mp c;rw[c];exact first _
      have c4:n - 1≠1:=λe=>c4 (beq_iff_eq.mpr e);refine wpS_bind (bj (show z - 1<a.size by lia) (wpS_bind (gw (base:=0) (n:=n - 1) (hint:=n - 1 - 1) hO (D.kind.trans hk) hB (kA (z - 1) (by lia)) (by rw[agB];exact vR sb (by lia)) (by lia) (by lia) λl Y H L=>?_)));have H:∀d (hd:d<b.size),d<l->kl κ b[d] (a[z - 1]'(by omega)):=λd hd a0=>by
       have q:=H d a0;rw[agB,bM hd]at q;exact KeyOrd.kle_of_klt q
      have L:∀d (hd:d<b.size),l<=d->d<n - 1->kl κ (a[z - 1]'(by omega)) b[d]:=λd hd B v=>by
       have q:=L d B v;rw[agB,bM hd]at q;exact q
      have U:=V.cutR Y λy F x J=>by
       obtain⟨d,B,v,h3,rfl⟩:=Ae F;obtain⟨e,h4,h5,rfl⟩:=eU J;exact dR (ZG e (z - 1) h5 (by lia) (by lia)) (L d h3 B v)
      refine aU (λN=>aU (λc=>wpS_pure (D,.inl (_,rfl,U.hb ?_))) λc6=>aU (λc=>wpS_pure (D,.inl (_,rfl,U.ha ?_))) λc7=>?_) λN=>?_
      ·have c:l=1:=beq_iff_eq.mp c;rw[c];exact first _
      ·have c:l=0:=beq_iff_eq.mp c;rw[c];exact zB _
      ·have c6:l≠1:=λe=>c6 (beq_iff_eq.mpr e);have c7:l≠0:=λe=>c7 (beq_iff_eq.mpr e);refine wpS_bind (bj (show z - 1<a.size by lia) ?_);have K:=U.popL (by lia) (by lia) λy F=>by obtain⟨d,B,v,rfl⟩:=eU F;exact H d v B
       refine aU (λc=>wpS_pure (D,.inl (_,rfl,K.ha ?_))) λO=>?_
       ·have c:z - 1=0:=beq_iff_eq.mp c;rw[c];exact S _
       have O:z - 1≠0:=λe=>O (beq_iff_eq.mpr e);exact aU (λ_=>wpS_pure (D,.inr (z - 1,l,_,_,_,_,rfl,K,by lia,by lia,by lia,by lia,by lia))) λ_=>wpS_pure (D,z - 1,l,_,_,_,_,rfl,K,by lia,by lia,by lia,by lia,by lia)
      ·have N:¬n - 1 - l > 0:=N;have:l=n - 1:=by lia
       subst this;refine wpS_bind (bj (show z - 1<a.size by lia) ?_);have K:=V.popL (by lia) (by lia) λy F=>by obtain⟨d,B,v,rfl⟩:=eU F;exact H d v B
       refine aU (λc=>wpS_pure (D,.inl (_,rfl,K.ha ?_))) λO=>?_
       ·have c:z - 1=0:=beq_iff_eq.mp c;rw[c];exact S _
       have O:z - 1≠0:=λe=>O (beq_iff_eq.mpr e);exact aU (λ_=>wpS_pure (D,.inr (z - 1,(n - 1),_,_,_,_,rfl,K,by lia,by lia,by lia,by lia,by lia))) λ_=>wpS_pure (D,z - 1,(n - 1),_,_,_,_,rfl,K,by lia,by lia,by lia,by lia,by lia)
   ·rintro c a2 ⟨VD,m,n,o,g,p,q,rfl,M,k,j,u,f,G⟩;exact(VD,.inr (m,n,o,g,p,q,rfl,M,k,j,u,f,G))
   ·rintro c a2 ⟨VD,hc⟩;rcases hc with ⟨r,hr,hF⟩|⟨m,n,o,g,p,q,rfl,M,k,j,u,f,G⟩
    ·obtain⟨c1,c2⟩:=c;cases hr;exact wpS_pure (VD,r,rfl,hF)
    exact wpS_bind (uK VD λVu D=>wpS_pure (D,m,n,o,_,rfl,M,k,j,u,f,by lia))
 ·rintro c X ⟨R,m,n,o,g,rfl,M,k,j,u,f,G⟩;exfalso;lia
 ·rintro c X ⟨R,r,hr,hF⟩;obtain⟨c1,c2⟩:=c;cases hr;exact wpS_pure (h r X R hF)
end
theorem Dr(i:Nat):mergeAt' i=(do
 let u <-get
 let (pq (some (pq sa (pq m pw))) (some (pq sb (pq n _)))):=(pq ((pendingOf u)[i]?) ((pendingOf u)[i+1]?)) | unsupported "internal:list.sort.pending"
 set (setPending u (((pendingOf u).setIfInBounds i (pq sa (pq (m+n) pw))).eraseIdxIfInBounds (i+1)))
 let some k <-gm false (<-elem' (arrOf u) sb) (arrOf u) sa m 0|return false
 let (pq sa m):=(pq (sa+k) (m - k))
 if m == 0 then return true
 let some n <-gm true (<-elem' (arrOf u) (sa+m - 1)) (arrOf u) sb n (n - 1) | return false
 if n == 0 then return true
 let x:=(arrOf u).extract sa sb
 let y:=(arrOf u).extract sb (sb+n)
 let r <-if m<=n then wA x y else wu x y
 modify λv=>setArr v (r.toList.zipIdx.foldl (λc (p,j)=>c.setIfInBounds (sa+j) p) (arrOf v))
 return (failedOf (<-get)).isNone):=rfl
def wr(xs:Array Keyed)(base:Nat)(r:List Keyed):Array Keyed:=r.zipIdx.foldl (λc (p,j)=>c.setIfInBounds (base+j) p) xs
theorem Qo(base:Nat):∀(r:List Keyed) (n:Nat) (xs:Array Keyed),base+n+r.length<=xs.size->((r.zipIdx n).foldl (λc (p,j)=>c.setIfInBounds (base+j) p) xs).size=xs.size /\ ∀t:Nat,((r.zipIdx n).foldl (λc (p,j)=>c.setIfInBounds (base+j) p) xs)[t]?=if base+n<=t/\t<base+n+r.length then r[t - (base+n)]? else xs[t]?
 | [],n,xs,_=>(rfl,λt=>by rw[if_neg (by rw[ah2];lia)];rfl)
 | p::r,n,xs,h=>by
  rw[aaE]at h;have a:=Qo base r (n+1) (xs.setIfInBounds (base+n) p) (by rw[aij];lia);rw[List.zipIdx_cons,ai7];refine(a.1.trans aij,λt=>(a.2 t).trans ?_);rw[aaE];by_cases d:t=base+n
  ·subst d;rw[if_neg (by lia),if_pos (by lia),ahn,Array.getElem?_setIfInBounds_self_of_lt (by lia)];rfl
  by_cases b:base+(n+1)<=t/\t<base+(n+1)+r.length
  ·rw[if_pos b,if_pos (by lia),show t - (base+n)=t - (base+(n+1))+1 by lia,aim]
  ·rw[if_neg b,if_neg (by lia),Array.getElem?_setIfInBounds_ne (by lia)]
theorem Ek{xs:Array Keyed}{base:Nat}{r:List Keyed}(h:base+r.length<=xs.size)(t:Nat):(wr xs base r)[t]?=if base<=t/\t<base+r.length then r[t - base]? else xs[t]?:=(Qo base r 0 xs h).2 t
theorem PL{xs:Array Keyed}{base:Nat}{r:List Keyed}(h:base+r.length<=xs.size):(wr xs base r).toList=xs.toList.take base++r++xs.toList.drop (base+r.length):=by
 apply ahp;intro t;have a:(xs.toList.take base).length=base:=by rw[aaD,aae];lia
 rw[acd,Ek h];by_cases b:t<base
 ·rw[if_neg (by lia),aa5,aax (by lia),acT b,acd]
 by_cases c:t<base+r.length
 ·rw[if_pos (by lia),aa5,aar (by lia),a,aax (by lia)]
 ·rw[if_neg (by lia),aar (by rw[aaf];lia),aaf,a,agx,acd];congr 1;lia
section
variable{a₀:Array Keyed}{κ:KeyKind}{pd:Array (Nat×Nat×Nat)}
theorem Oc{σ:Type}{M:Model}{st a:σ}{Q:PUnit->σ->Prop}(h:Q ⟨⟩ a):wpS M A E s (set a:StateT σ Sem PUnit) Q st:=by
 unfold wpS;rw[StateT.run_set];exact wpAny_pure (rfl,h)
theorem JH{xs ys:Array Keyed}(h:KeysOf κ ys)(p:xs.Perm ys):KeysOf κ xs:=λq a=>h q ((agV.mp p).mem_iff.mp a)
theorem Nh{xs:Array Keyed}(h:KeysOf κ xs){i:Nat}(b:i<xs.size):∃a,κ.keyOf xs[i].1=some a:=h _ (aeS _)
theorem Ck{xs:Array Keyed}{lo n:Nat}(h:Sd κ xs lo (lo+n))(d:lo+n<=xs.size):((xs.toList.drop lo).take n).Pairwise (kl κ):=by
 refine aca.mpr λi j b a c=>?_;rw[aaD,ab9,aae]at b a;rw[ahq,ag6,afq,ahq,ag6,afq];have q:=h (lo+i) (lo+j) (by lia) (by lia) (by lia);rw[bM (show lo+i<xs.size by lia),bM (show lo+j<xs.size by lia)]at q;exact q
theorem Eh{st:SortSt}{i j m f n S XN:Nat}{Q:Bool->SortSt->Prop}(hO:κ.OneLt)(h0:KeysOf κ a₀)(D:TB a₀ pd st)(h1:pd[i]?=some (pq j (pq m S)))(h2:pd[i+1]?=some (pq f (pq n XN)))(a6:f=j+m)(hm:1<=m)(hn:1<=n)(hz:f+n<=a₀.size)(H:Sd κ (arrOf st) j f)(G:Sd κ (arrOf st) f (f+n))
  (h:∀o,TB a₀ ((pd.setIfInBounds i (pq j (pq (m+n) S))).eraseIdxIfInBounds (i+1)) o->Sd κ (arrOf o) j (f+n)->(∀k:Nat,k<j\/f+n<=k->(arrOf o)[k]?=(arrOf st)[k]?)->Q true o):wpS (model prog w) A E s (mergeAt' i) Q st:=by
 have a8:=D.size;have O:KeysOf κ (arrOf st):=JH h0 D.perm;rw[Dr];refine wpS_bind (wpS_get ?_);dsimp only;rw[D.pend,h1,h2];dsimp only;refine wpS_bind (Oc ?_);have P:TB a₀ ((pd.setIfInBounds i (pq j (pq (m+n) S))).eraseIdxIfInBounds (i+1)) (setPending st ((pd.setIfInBounds i (pq j (pq (m+n) S))).eraseIdxIfInBounds (i+1))):=(D.perm,D.kind,D.failed,rfl);refine wpS_bind (bj (show f<(arrOf st).size by lia) (wpS_bind (lq hO P.kind O (Nh O (by lia)) (by rw[<-a6];exact H) (by lia) (by lia) λk b0 Z Y=>?_)));dsimp only;have ek:ky κ ((arrOf st)[f]'(by omega))=KK κ (arrOf st) f:=(bM _).symm;rw[ek]at Z Y;have J:∀t,j<=t->t<j+k->κ.kle (KK κ (arrOf st) t) (KK κ (arrOf st) f):=λt a b=>by
  have q:=Z (t - j) (by lia)
  rwa [show j+(t - j)=t by lia]at q
 have a5:∀t,j+k<=t->t<f->κ.klt (KK κ (arrOf st) f) (KK κ (arrOf st) t):=λt a b=>by
  have q:=Y (t - j) (by lia) (by lia)
  rwa [show j+(t - j)=t by lia]at q
 refine aU (λc=>wpS_pure (h _ P (λt u a b d=>?_) λt _=>rfl)) λc=>?_
 ·have c:m - k=0:=beq_iff_eq.mp c;by_cases M:u<f
  ·exact H t u a b M
  by_cases p:t<f
  ·exact KeyOrd.kle_trans (J t a (by lia)) (G f u (aad _) (by lia) d)
  ·exact G t u (by lia) b d
 have c:m - k≠0:=λe=>c (beq_iff_eq.mpr e);refine wpS_bind (bj (show j+k+(m - k) - 1<(arrOf st).size by lia) (wpS_bind (gw hO P.kind O (Nh O (by lia)) G (by lia) (by lia) λl a9 X W=>?_)));dsimp only;have el:ky κ ((arrOf st)[j+k+(m - k) - 1]'(by omega))=KK κ (arrOf st) (f - 1):=by
  rw[<-bM];congr 1;lia
 rw[el]at X W;have a2:∀t,f<=t->t<f+l->κ.klt (KK κ (arrOf st) t) (KK κ (arrOf st) (f - 1)):=λt a b=>by
  have q:=X (t - f) (by lia)
  rwa [show f+(t - f)=t by lia]at q
 have T:∀t,f+l<=t->t<f+n->κ.kle (KK κ (arrOf st) (f - 1)) (KK κ (arrOf st) t):=λt a b=>by
  have q:=W (t - f) (by lia) (by lia)
  rwa [show f+(t - f)=t by lia]at q
 refine aU (λc=>wpS_pure (h _ P (λt u a b d=>?_) λt _=>rfl)) λc2=>?_
 ·have c:l=0:=beq_iff_eq.mp c;by_cases M:u<f
  ·exact H t u a b M
  by_cases p:t<f
  ·exact KeyOrd.kle_trans (H t (f - 1) a (by lia) (by lia)) (T u (by lia) d)
  ·exact G t u (by lia) b d
 have c2:l≠0:=λe=>c2 (beq_iff_eq.mpr e);have a4:((arrOf st).extract (j+k) f).size=m - k:=by rw[aiL];lia
 have a3:((arrOf st).extract f (f+l)).size=l:=by rw[aiL];lia
 have xl:((arrOf st).extract (j+k) f).toList=((arrOf st).toList.drop (j+k)).take (m - k):=by
  rw[ag3,agF,show f - (j+k)=m - k by lia]
 have yl:((arrOf st).extract f (f+l)).toList=((arrOf st).toList.drop f).take l:=o4 _ _ _;have sx:((arrOf st).extract (j+k) f).toList.Pairwise (kl κ):=by
  rw[xl];exact Ck (λt u a b d=>H t u (by lia) b (by lia)) (by lia)
 have sy:((arrOf st).extract f (f+l)).toList.Pairwise (kl κ):=by
  rw[yl];exact Ck (λt u a b d=>G t u a b (by lia)) (by lia)
 have y:∀z∈((arrOf st).extract (j+k) f).toList,∃t,j+k<=t/\t<f/\ky κ z=KK κ (arrOf st) t/\z∈(arrOf st).toList:=λz hz=>by
  rw[xl]at hz;obtain⟨d,hd,K,rfl⟩:=j0 hz;exact(j+k+d,by lia,by lia,(bM K).symm,aeS _)
 have x:∀z∈((arrOf st).extract f (f+l)).toList,∃t,f<=t/\t<f+l/\ky κ z=KK κ (arrOf st) t/\z∈(arrOf st).toList:=λz hz=>by
  rw[yl]at hz;obtain⟨d,hd,K,rfl⟩:=j0 hz;exact(f+d,by lia,by lia,(bM K).symm,aeS _)
 have kx:KeysOf κ ((arrOf st).extract (j+k) f):=λz hz=>O z (y z hz).choose_spec.2.2.2;have U:KeysOf κ ((arrOf st).extract f (f+l)):=λz hz=>O z (x z hz).choose_spec.2.2.2;have y0:ky κ (((arrOf st).extract f (f+l))[0]'(by omega))=KK κ (arrOf st) f:=by
  rw[aiu];exact(bM (by lia)).symm
 have L:ky κ (((arrOf st).extract (j+k) f)[((arrOf st).extract (j+k) f).size - 1]'(by omega))=KK κ (arrOf st) (f - 1):=by
  rw[aiu,<-bM];congr 1;lia
 have hf:∀z∈((arrOf st).extract (j+k) f).toList,kl κ (((arrOf st).extract f (f+l))[0]'(by omega)) z:=λz hz=>by
  obtain⟨t,p,N,e,_⟩:=y z hz;unfold kl;rw[y0,e];exact KeyOrd.kle_of_klt (a5 t p N)
 have hl:∀z∈((arrOf st).extract f (f+l)).toList,kl κ z (((arrOf st).extract (j+k) f)[((arrOf st).extract (j+k) f).size - 1]'(by omega)):=λz hz=>by
  obtain⟨t,p,N,e,_⟩:=x z hz;unfold kl;rw[L,e];exact KeyOrd.kle_of_klt (a2 t p N)
 have a0:∀(r:Array Keyed) (o:SortSt),cL (setPending st ((pd.setIfInBounds i (pq j (pq (m+n) S))).eraseIdxIfInBounds (i+1))) o->Fin (kl κ) (((arrOf st).extract (j+k) f).toList++((arrOf st).extract f (f+l)).toList) r.toList ->
   wpS (model prog w) A E s (do
    modify λv=>setArr v (wr (arrOf v) (j+k) r.toList)
    return (failedOf (<-get)).isNone) Q o:=by
  intro r o hg hF;have a7:r.toList.length=m - k+l:=by rw[hF.1.length_eq,aaf,aae,aae,a4,a3]
  have ea:arrOf o=arrOf st:=hg.arr;have B:j+k+r.toList.length<=(arrOf st).size:=by lia
  refine wpS_bind (wpS_modify (wpS_bind (wpS_get ?_)));have e3:failedOf (setArr o (wr (arrOf o) (j+k) r.toList))=none:=hg.failed.trans D.failed;rw[e3];refine wpS_pure (h _ (?_,hg.kind.trans D.kind,e3,hg.pend) ?_ ?_)
  ·show (wr (arrOf o) (j+k) r.toList).Perm a₀;rw[ea];refine Array.Perm.trans (agV.mpr ?_) D.perm;rw[PL B,a7];have e4:(arrOf st).toList=(arrOf st).toList.take (j+k)++(((arrOf st).extract (j+k) f).toList++((arrOf st).extract f (f+l)).toList)++(arrOf st).toList.drop (j+k+(m - k+l)):=by
    rw[xl,yl,aa5]
    conv=>lhs;rw[<-abG (j+k) (arrOf st).toList]
    congr 1
    conv=>lhs;rw[<-abG (m - k+l) ((arrOf st).toList.drop (j+k))]
    rw[ahK,ajk,ahK,show j+k+(m - k)=f by lia]
   conv=>rhs;rw[e4]
   exact((ajg _).append hF.1).append (ajg _)
  ·have a1:∀t,KK κ (wr (arrOf st) (j+k) r.toList) t=if ht:j+k<=t/\t<f+l then ky κ (r.toList[t - (j+k)]'(by omega))else KK κ (arrOf st) t:=λt=>by
    have g:=Ek B t;by_cases ht:j+k<=t/\t<f+l
    ·rw[dif_pos ht];rw[if_pos (by lia),aac (by lia)]at g;unfold KK ky;rw[g]
    ·rw[dif_neg ht];rw[if_neg (by lia)]at g;exact KK_congr g
   have I:∀z∈r.toList,∃t,j+k<=t/\t<f+l/\ky κ z=KK κ (arrOf st) t:=λz hz=>by
    rcases abd.mp (hF.1.mem_iff.mp hz)with hz|hz
    ·obtain⟨t,p,N,e,_⟩:=y z hz;exact(t,p,by lia,e)
    ·obtain⟨t,p,N,e,_⟩:=x z hz;exact(t,by lia,N,e)
   have C:∀t,j<=t->t<j+k -> ∀u,j+k<=u->u<f+n->κ.kle (KK κ (arrOf st) t) (KK κ (arrOf st) u):=λt a b u c d=>by
    by_cases M:u<f
    ·exact H t u a (by lia) M
    ·exact KeyOrd.kle_trans (J t a b) (G f u (aad _) (by lia) d)
   have F:∀t,j+k<=t->t<f+l -> ∀u,f+l<=u->u<f+n->κ.kle (KK κ (arrOf st) t) (KK κ (arrOf st) u):=λt a b u c d=>by
    by_cases p:t<f
    ·exact KeyOrd.kle_trans (H t (f - 1) (by lia) (by lia) (by lia)) (T u c d)
    ·exact G t u (by lia) (by lia) d
   show Sd κ (wr (arrOf o) (j+k) r.toList) j (f+n);rw[ea];intro t u a b d;rw[a1,a1];by_cases tr:j+k<=t/\t<f+l
   ·rw[dif_pos tr];by_cases R:j+k<=u/\u<f+l
    ·rw[dif_pos R];by_cases e:t=u
     ·subst e;exact KeyOrd.kle_refl _
     ·exact aca.mp hF.2 (t - (j+k)) (u - (j+k)) (by lia) (by lia) (by lia)
    ·rw[dif_neg R];obtain⟨v,v1,v2,e⟩:=I _ (acJ (show t - (j+k)<r.toList.length by lia));rw[e];exact F v v1 v2 u (by lia) d
   ·rw[dif_neg tr];by_cases R:j+k<=u/\u<f+l
    ·rw[dif_pos R];obtain⟨v,v1,v2,e⟩:=I _ (acJ (show u - (j+k)<r.toList.length by lia));rw[e];exact C t a (by lia) v v1 (by lia)
    ·rw[dif_neg R];by_cases p:t<j+k
     ·by_cases M:u<j+k
      ·exact H t u a b (by lia)
      ·exact C t a p u (by lia) d
     ·exact G t u (by lia) b d
  ·intro t ht;show (wr (arrOf o) (j+k) r.toList)[t]?=_;rw[ea,Ek B,if_neg (by lia)]
 by_cases V:m - k<=l
 ·rw[if_pos V];exact wpS_bind (Er hO P.kind kx U sx sy (by lia) (by lia) hf hl a0)
 ·rw[if_neg V];exact wpS_bind (GD hO P.kind kx U sx sy (by lia) (by lia) hf hl a0)
end
def Lay:Nat->List (Nat×Nat×Nat)->Nat->Prop
 | s,[],e=>s=e
 | s,x::r,e=>s=x.1/\1<=x.2.1/\Lay (x.1+x.2.1) r e
theorem pY:∀{P R:List (Nat×Nat×Nat)} {s e:Nat},Lay s (P++R) e ↔ ∃m,Lay s P m/\Lay m R e
 | [],R,s,e=>(λh=>(s,rfl,h),λ⟨m,b,a⟩=>by cases b;exact a)
 | x::P,R,s,e=>by
  constructor
  ·rintro⟨b,a,f⟩;obtain⟨m,d,c⟩:=pY.mp f;exact(m,(b,a,d),c)
  ·rintro⟨m,⟨b,a,d⟩,c⟩;exact(b,a,pY.mpr (m,d,c))
theorem je:∀{R:List (Nat×Nat×Nat)} {s e:Nat},Lay s R e->s+R.length<=e /\ ∀x∈R,s<=x.1/\x.1+x.2.1<=e
 | [],s,e,h=>(ahg h,λx a=>by cases a)
 | y::R,s,e,h=>by
  obtain⟨f,d,b⟩:=h;obtain⟨g,c⟩:=je b;refine(by rw[aaE];lia,λx a=>?_);rcases aaQ.mp a with rfl|a
  ·lia
  ·have:=c x a;lia
structure Runs(κ:KeyKind)(xs:Array Keyed)(pd:Array (Nat×Nat×Nat))(lo:Nat):Prop where
 lay:Lay 0 pd.toList lo
 sd:∀x∈pd.toList,Sd κ xs x.1 (x.1+x.2.1)
theorem mX{κ:KeyKind}{xs ys:Array Keyed}{lo :Nat}(h:Sd κ xs lo n)(e:∀k:Nat,lo<=k->k<n->ys[k]?=xs[k]?):Sd κ ys lo n:=λi j a b c=>by
 rw[KK_congr (e i a (by lia)),KK_congr (e j (by lia) c)];exact h i j a b c
theorem Runs.low{κ:KeyKind}{xs ys:Array Keyed}{a:Array (Nat×Nat×Nat)}{lo:Nat}(h:Runs κ xs a lo)(e:Vb lo xs ys):Runs κ ys a lo:=
 (h.lay,λx b=>mX (h.sd x b) λk _ c=>e k (by have:=(je h.lay).2 x b;lia))
theorem Runs.push{κ:KeyKind}{xs:Array Keyed}{b:Array (Nat×Nat×Nat)}{lo n p:Nat}(h:Runs κ xs b lo)(d:1<=n)(c:Sd κ xs lo (lo+n)):Runs κ xs (b.push (pq lo (pq n p))) (lo+n):=by
 refine(by rw[agE];exact pY.mpr (lo,h.lay,rfl,d,rfl),λx a=>?_);rw[agE]at a;rcases abd.mp a with a|a
 ·exact h.sd x a
 ·rw[aas.mp a];exact c
theorem Br:∀{R b:List (Nat×Nat×Nat)} {s e:Nat},R.map (λx=>(pq x.1 x.2.1))=b.map (λx=>(pq x.1 x.2.1))->Lay s R e->Lay s b e
 | [],[],_,_,_,h=>h
 | [],_::_,_,_,h,_=>by cases h
 | _::_,[],_,_,h,_=>by cases h
 | x::R,y::b,s,e,h,l=>by
  rw[aay,aay]at h;injection h with j i
  injection j with g f
  obtain⟨d,c,a⟩:=l;rw[g]at d a;rw[f]at c a;exact(d,c,Br i a)
theorem Runs.same{κ:KeyKind}{xs:Array Keyed}{a b:Array (Nat×Nat×Nat)}{lo:Nat}(h:Runs κ xs a lo)(e:a.toList.map (λx=>(pq x.1 x.2.1))=b.toList.map (λx=>(pq x.1 x.2.1))):Runs κ xs b lo:=by
 refine(Br e h.lay,λx d=>?_);have f:(pq x.1 x.2.1)∈a.toList.map (λx=>(pq x.1 x.2.1)):=by
  rw[e];exact aaT.mpr (x,d,rfl)
 obtain⟨y,c,j⟩:=aaT.mp f;injection j with i g
 have q:=h.sd y c;rw[i,g]at q;exact q
theorem Q0{c:Prop}[Decidable c]{n:Nat}(h:¬n<=1):(if c then n - 2 - 1 else n - 2)+1<n:=by
 split <;> lia
theorem Dn{a:Type}(l:List J)(i:Nat)(f:J->J)(g:J->a)(h:∀x,g (f x)=g x):(l.modify i f).map g=l.map g:=by
 apply ahp;intro t;rw[aah,aah,List.getElem?_modify];cases l[t]? with
 | none=>rfl
 | some x =>
  by_cases e:i=t
  ·simp[e,h]
  ·simp[e]
section
variable{a₀:Array Keyed}{κ:KeyKind}{pd:Array (Nat×Nat×Nat)}
theorem lF{st:SortSt}{i lo:Nat}{Q:Bool->SortSt->Prop}(U:κ.OneLt)(W:KeysOf κ a₀)(V:TB a₀ pd st)(l:Runs κ (arrOf st) pd lo)(T:i+1<pd.size)(a0:lo<=a₀.size)
  (h:∀a D,TB a₀ D a->Runs κ (arrOf a) D lo->D.size+1=pd.size->(∀k:Nat,lo<=k->(arrOf a)[k]?=(arrOf st)[k]?)->Q true a):wpS (model prog w) A E s (mergeAt' i) Q st:=by
 obtain⟨⟨b,m,j⟩,O⟩:∃x,pd[i]?=some x:=(_,getElem?_pos pd i (by lia));obtain⟨⟨g,n,C⟩,N⟩:∃x,pd[i+1]?=some x:=(_,getElem?_pos pd (i+1) T);have f:pd.toList=pd.toList.take i++(pq b (pq m j))::(pq g (pq n C))::pd.toList.drop (i+2):=by
  have Y:pd.toList[i]?=some (pq b (pq m j)):=by rw[acd];exact O
  have X:pd.toList[i+1]?=some (pq g (pq n C)):=by rw[acd];exact N
  have z:=aab.mp Y;have y:=aab.mp X;obtain⟨z,I⟩:=z;obtain⟨y,H⟩:=y
  conv=>lhs;rw[<-abG i pd.toList]
  rw[acL z,I,acL y,H]
 have d:=l.lay;rw[f]at d;obtain⟨S,M,L,K,u,J,t⟩:=pY.mp d;dsimp only at L K u J t;have Z:=je M;have B:=je t;have r:(pq b (pq m j))∈pd.toList:=by rw[f];exact aaw _ abE
 have p:(pq g (pq n C))∈pd.toList:=by rw[f];exact aaw _ (aaR _ abE)
 have R:=l.sd _ r;have P:=l.sd _ p;dsimp only at R P;refine Eh U W V O N u.symm K J (by have:=B.1;lia) (by rw[<-u];exact R) P λa G F e=>?_;have v:((pd.setIfInBounds i (pq b (pq (m+n) j))).eraseIdxIfInBounds (i+1)).toList=pd.toList.take i++(pq b (pq (m+n) j))::pd.toList.drop (i+2):=by
  have o:(pd.toList.take i).length=i:=by rw[aaD,aae];lia
  rw[Array.toList_eraseIdxIfInBounds,Array.toList_setIfInBounds]
  conv=>lhs;rw[f]
  rw[List.set_append_right _ _ (by lia),o,ahn,List.set_cons_zero,List.eraseIdx_append_of_length_le (by lia),o,agg];rfl
 refine h a _ G (?_,λx c=>?_) ?_ λk hk=>e k (.inr (by have:=B.1;lia))
 ·rw[v];refine pY.mpr (S,M,L,by show 1<=m+n;lia,?_);show Lay (b+(m+n)) _ lo;rw[show b+(m+n)=g+n by lia];exact t
 ·rw[v]at c;rcases abd.mp c with c|c
  ·have q:=l.sd x (by rw[f];exact agz _ c);exact mX q λk _ a1=>e k (.inl (by have:=Z.2 x c;lia))
  ·rcases aaQ.mp c with rfl|c
   ·show Sd κ (arrOf a) b (b+(m+n));rw[show b+(m+n)=g+n by lia];exact F
   ·have q:=l.sd x (by rw[f];exact aaw _ (aaR _ (aaR _ c)));exact mX q λk a2 _=>e k (.inr (by have:=B.2 x c;lia))
 ·have:=congrArg agD v;rw[aae,aaf,aaD,aaE,ab9,aae]at this;lia
theorem Lx{xs:Array Keyed}{lo n:Nat}(h:Vm κ xs lo n):Sd κ xs lo (lo+n):=λi j a b c=>by
 have q:=h (i - lo) (j - lo) (by lia) (by lia)
 rwa [show lo+(i - lo)=i by lia,show lo+(j - lo)=j by lia]at q
theorem Dg{st:SortSt}{Q:Unit->SortSt->Prop}(K:κ.OneLt)(L:KeysOf κ a₀)(hB:TB a₀ #[] st)(h2:2<=a₀.size)
  (h:∀a,(arrOf a).Perm a₀->failedOf a=none->SortedToK κ (arrOf a) a₀.size->Q () a):wpS (model prog w) A E s sortRuns' Q st:=by
 rw[sortRuns'_eq];refine wpS_bind (wpS_get ?_);dsimp only;rw[hB.size];refine wpS_bind (wpS_mono (wpS_forRange (I:=λx c a=>∃b pd,c=(pq none b)/\TB a₀ pd a/\Runs κ (arrOf a) pd b/\x<=b/\b<=a₀.size) (Q:=λc a=>∃pd,c=(pq none a₀.size)/\TB a₀ pd a/\Runs κ (arrOf a) pd a₀.size) ?_ ?_ (0,#[],rfl,hB,(rfl,λx U=>by cases U),aad _,aaP _)) ?_)
 ·rintro x c O _ U ⟨b,pd,rfl,J,C,XQ,F⟩;dsimp only;by_cases P:b >= a₀.size
  ·rw[if_pos P];have:b=a₀.size:=by lia
   subst this;exact wpS_pure (pd,rfl,J,C)
  rw[if_neg P];refine wpS_bind (Bj K L J (by lia) (by lia) λm u f a6 a3 a7 o=>?_);dsimp only;have v:=C.low a6;by_cases D:m<minRun' a₀.size a₀.size 0
  ·rw[if_pos D];generalize minRun' a₀.size a₀.size 0=mr at D ⊢;refine wpS_bind (wpS_lift (wpAny_rule (rfl,?_)));refine wpS_bind (xu K L f (by lia) (by lia) o λN d ZD a5=>?_);rw[if_neg (by decide)];have B:=v.low ZD;have l:=Lx a5;obtain⟨n,hn,M,Yq⟩:∃n,min (a₀.size - b) mr=n/\1<=n/\b+n<=a₀.size:=(_,rfl,by lia,by lia);rw[hn]at l ⊢;refine wpS_bind (wpS_get ?_);rw[d.pend];cases Wu:pd.back? with
   | none =>
    dsimp only;exact wpS_bind (wpS_modify (wpS_pure (b+n,pd.push (pq b (pq n 0)),rfl,(d.perm,d.kind,d.failed,by show (pendingOf N).push _=_;rw[d.pend]),B.push M l,by lia,by lia)))
   | some t =>
    obtain⟨s1,n1,p1⟩:=t;dsimp only;refine wpS_bind (wpS_mono (wpS_forRange (I:=λ_ c a=>c=(pq none (())) /\ ∃e,TB a₀ e a/\Runs κ (arrOf a) e b/\Sd κ (arrOf a) b (b+n)) (Q:=λc a=>c=(pq none (())) /\ ∃e,TB a₀ e a/\Runs κ (arrOf a) e b/\Sd κ (arrOf a) b (b+n)) ?_ ?_ (rfl,pd,d,B,l)) ?_)
    ·rintro y c p _ _ ⟨rfl,e,g,r,q⟩;refine wpS_bind (wpS_get ?_);rw[g.pend];by_cases z:e.size > 1
     ·rw[if_pos z,getElem?_pos e (e.size - 2) (by lia)];generalize e[e.size - 2]=T;obtain⟨a1,a2,G⟩:=T;dsimp only;refine aU (λ_=>wpS_pure (rfl,e,g,r,q)) λ_=>wpS_bind (lF K L g r (by lia) F λVz Z WY Y _ X=>?_);rw[if_neg (by decide)];exact wpS_pure (rfl,Z,WY,Y,mX q λk V _=>X k V)
     ·rw[if_neg z];exact wpS_pure (rfl,e,g,r,q)
    ·rintro c p W;exact W
    ·rintro c p ⟨rfl,e,g,r,q⟩;dsimp only;refine wpS_bind (wpS_modify (wpS_bind (wpS_modify (wpS_pure (b+n,_,rfl,(g.perm,g.kind,g.failed,rfl),?_,by lia,by lia)))));show Runs κ (arrOf p) (((pendingOf p).modify ((pendingOf p).size - 1) _).push (pq b (pq n 0))) (b+n);rw[g.pend];refine Runs.push (r.same ?_) M q;rw[aiF];refine(Dn _ _ _ _ ?_).symm;exact λ_=>rfl
  ·rw[if_neg D];have d:=f;have B:=v;have l:=Lx o;have M:=a3;refine wpS_bind (wpS_get ?_);rw[d.pend];cases Wu:pd.back? with
   | none =>
    dsimp only;exact wpS_bind (wpS_modify (wpS_pure (b+m,pd.push (pq b (pq m 0)),rfl,(d.perm,d.kind,d.failed,by show (pendingOf u).push _=_;rw[d.pend]),B.push M l,by lia,by lia)))
   | some t =>
    obtain⟨s1,n1,p1⟩:=t;dsimp only;refine wpS_bind (wpS_mono (wpS_forRange (I:=λ_ c a=>c=(pq none (())) /\ ∃e,TB a₀ e a/\Runs κ (arrOf a) e b/\Sd κ (arrOf a) b (b+m)) (Q:=λc a=>c=(pq none (())) /\ ∃e,TB a₀ e a/\Runs κ (arrOf a) e b/\Sd κ (arrOf a) b (b+m)) ?_ ?_ (rfl,pd,d,B,l)) ?_)
    ·rintro y c p _ _ ⟨rfl,e,g,r,q⟩;refine wpS_bind (wpS_get ?_);rw[g.pend];by_cases z:e.size > 1
     ·rw[if_pos z,getElem?_pos e (e.size - 2) (by lia)];generalize e[e.size - 2]=T;obtain⟨a1,a2,G⟩:=T;dsimp only;refine aU (λ_=>wpS_pure (rfl,e,g,r,q)) λ_=>wpS_bind (lF K L g r (by lia) F λVz Z WY Y _ X=>?_);rw[if_neg (by decide)];exact wpS_pure (rfl,Z,WY,Y,mX q λk V _=>X k V)
     ·rw[if_neg z];exact wpS_pure (rfl,e,g,r,q)
    ·rintro c p W;exact W
    ·rintro c p ⟨rfl,e,g,r,q⟩;dsimp only;refine wpS_bind (wpS_modify (wpS_bind (wpS_modify (wpS_pure (b+m,_,rfl,(g.perm,g.kind,g.failed,rfl),?_,by lia,by lia)))));show Runs κ (arrOf p) (((pendingOf p).modify ((pendingOf p).size - 1) _).push (pq b (pq m 0))) (b+m);rw[g.pend];refine Runs.push (r.same ?_) M q;rw[aiF];refine(Dn _ _ _ _ ?_).symm;exact λ_=>rfl
 ·rintro c O ⟨b,pd,rfl,J,C,XQ,F⟩;have:b=a₀.size:=by lia
  subst this;exact(pd,rfl,J,C)
 ·rintro c O ⟨pd,rfl,J,C⟩;dsimp only;refine wpS_bind (wpS_mono (wpS_forRange (I:=λx c a=>c=(pq none (())) /\ ∃pd,TB a₀ pd a/\Runs κ (arrOf a) pd a₀.size/\pd.size+x<=a₀.size) (Q:=λc a=>c=(pq none (())) /\ ∃pd,TB a₀ pd a/\Runs κ (arrOf a) pd a₀.size/\pd.size<=1) ?_ ?_ (rfl,pd,J,C,?_)) ?_)
  ·rintro x c u _ U ⟨rfl,H,f,v,o⟩;refine wpS_bind (wpS_get ?_);rw[f.pend];refine aU (λz=>wpS_pure (rfl,H,f,v,z)) λz=>?_;refine wpS_bind (lF K L f v (Q0 z) (aad _) λN a0 d B YC _=>?_);rw[if_neg (by decide)];exact wpS_pure (rfl,a0,d,B,by lia)
  ·rintro c u ⟨rfl,H,f,v,o⟩;exact(rfl,H,f,v,by lia)
  ·have:=(je C.lay).1;rw[aae]at this;lia
  ·rintro c u ⟨rfl,H,f,v,o⟩;refine wpS_pure (h u f.perm f.failed λi j a4 hj=>?_);have R:H.toList.length<=1:=by rw[aae];exact o
   have S:=v.lay;have hd:=v.sd
   match hpl:H.toList,R with
   | [],_ =>
    rw[hpl]at S;have:0=a₀.size:=S;lia
   | [y],_ =>
    rw[hpl]at S hd;obtain⟨y1,y2,y3⟩:=S;have y3:y.1+y.2.1=a₀.size:=y3;exact hd y abE i j (by lia) a4 (by lia)
end
theorem yR{κ:PyProof.Rows.KeyKind}(G:κ.OneLt){l:Addr}{a:List Value}{n:Nat}{Q:PySem.Fin->Shared->Prop}(m:s.heap.get? l=some (seqObj "list" a.toArray n))(H:KeysOf κ (pairsOf a))(F:∀u v r,a=u::v::r->keyKind' (u::v::r).toArray=pure oneType')(hz:a.length<=100000)
  (h:∀z:SortSt,(arrOf z).Perm (pairsOf a)->SortedToK κ (arrOf z) (pairsOf a).size->Q (.done (.ret .none)) { s with heap:=sortedHeap s.heap l a ((arrOf z).map (·.2)) }):wpAny (model prog w) A (Builtin.«list.sort» ([.ref l],[])) Q E s:=by
 have o:=Heap.lt_size m;have d:a.length<=sizeLine:=by rw[sizeLine_eq];lia
 obtain⟨e,x⟩:∃e,(s.heap.update l (Obj.mapSeq λ_=>#[])).get? l=some (seqObj "list" #[] e):=(_,get?_update_seq m (λ_=>#[]))
 have b:(((s.heap.update l (Obj.mapSeq λ_=>#[])).push (seqObj "tuple" a.toArray 0)).push (seqObj "list" #[] 0)).get? l=some (seqObj "list" #[] e):=by
  have t:l<(s.heap.update l (Obj.mapSeq λ_=>#[])).objs.size:=by rw[Heap.size_update];exact o
  rw[Heap.get?_push_ne _ _ _ (by rw[size_push'];exact aat (ag5 t)),Heap.get?_push_ne _ _ _ (aat t)];exact x
 rw[list_sort_plain];refine wpAny_bind (listItems_at m rfl (wpAny_bind (listUpdate_at m rfl ?_ (by show a.toArray.size<=sizeLine;rw[aaA];exact d) (by show 0<=_;exact aaP _))));refine wpAny_bind (seqEpoch_at x rfl (wpAny_bind (wpAny_newTuple ?_ (by simpa using d))));refine wpAny_bind (wpAny_newList (wpAny_holding ?_))
 show wpAny (model prog w) A _ Q E { s with heap:=((s.heap.update l (Obj.mapSeq λ_=>#[])).push (seqObj "tuple" a.toArray 0)).push (seqObj "list" #[] 0) }
 dsimp only;have y:a.toArray.size=a.length:=by simp
 have g:∀z:SortSt,(arrOf z).Perm (pairsOf a)->((arrOf z).map (·.2)).size<=sizeLine+1:=λz k=>by
  rw[Array.size_map,k.size_eq,pairsOf_size];lia
 by_cases c:a.toArray.size<2
 ·rw[if_pos c,if_pos c];refine wpAny_bind (wpAny_pure ?_);rw[StateT.run_pure];refine wpAny_bind (wpAny_pure (wpAny_bind (seqEpoch_at b rfl (wpAny_bind (listUpdate_at b rfl ?_ (aaP _) (g (SortSt.mk' general' (a.toArray.zip a.toArray) #[] 7 none) (aiv _)))))));simp only[bne_self_eq_false,ad5,if_false];refine wpAny_pure (h (SortSt.mk' general' (a.toArray.zip a.toArray) #[] 7 none) (aiv _) λi j I C=>?_);rw[pairsOf_size]at C;have:i=j:=by lia
  subst this;exact KeyOrd.kle_refl _
 ·rw[if_neg c,if_neg c];obtain⟨u,v,r,rfl⟩:∃u v r,a=u::v::r:=by
   match a,y,c with
   | [],_,z=>exact absurd (by decide) z
   | [_],_,z=>exact absurd (by show 1<2;decide) z
   | u::v::r,_,_=>exact(u,v,r,rfl)
  rw[F _ _ _ rfl];refine wpAny_bind (wpAny_pure (wpAny_bind (wpAny_mono (Dg (κ:=κ) G (a₀:=pairsOf (u::v::r)) (st:=SortSt.mk' oneType' ((u::v::r).toArray.zip (u::v::r).toArray) #[] 7 none)
   (Q:=λ_ z=>(arrOf z).Perm (pairsOf (u::v::r))/\failedOf z=none/\SortedToK κ (arrOf z) (pairsOf (u::v::r)).size) H (aiv _,rfl,rfl,rfl) (by rw[pairsOf_size,aaE,aaE];lia) λz p f q=>(p,f,q)) ?_ λ_ _ q=>q)))
  rintro⟨⟨⟩,z⟩ J ⟨rfl,k,D,B⟩;dsimp only;refine wpAny_bind (seqEpoch_at b rfl (wpAny_bind (listUpdate_at b rfl ?_ (aaP _) (g z k))));rw[D];simp only[bne_self_eq_false,ad5,if_false];exact wpAny_pure (h z k B)
@[reducible] def zp:PyProof.Rows.KeyKind where
 α:=Int
 blt a b:=decide (a<b)
 irrefl a:=decide_eq_false (Int.lt_irrefl a)
 trans a b c h1 h2:=decide_eq_true (Int.lt_trans (of_decide_eq_true h1) (of_decide_eq_true h2))
 negTrans a b c h:=by
  have h:=of_decide_eq_true h;by_cases q:a<b
  ·exact .inl (decide_eq_true q)
  ·exact .inr (decide_eq_true (by lia))
 total a b h1 h2:=by
  have h1:=of_decide_eq_false h1;have h2:=of_decide_eq_false h2;lia
 keyOf v:=match v with | .int n _=>some n|_=>none
 dflt:=0
theorem JD:zp.OneLt:=by
 intro e w A E s x y a b Q d c h;cases x <;> simp only[zp,reduceCtorEq,aiU]at d;cases y <;> simp only[zp,reduceCtorEq,aiU]at c;cases d;cases c;exact oneLt_int h
theorem Lq(xs:Array Keyed)(i:Nat):KK zp xs i=PyProof.Rows.K xs i:=by
 unfold KK PyProof.Rows.K;cases xs[i]? with
 | none=>rfl
 | some p =>
  obtain⟨x,q⟩:=p;cases x <;> rfl
theorem Jw{l:Addr}{n:Nat}{Q:PySem.Fin->Shared->Prop}(x:s.heap.get? l=some (seqObj "list" u.toArray n))(f:IntsAre u d)(hz:u.length<=100000)
  (h:∀(out:Array Value) (b:List Int),IntsAre out.toList b->b.Perm d->b.Pairwise (· <= ·)->Q (.done (.ret .none)) { s with heap:=sortedHeap s.heap l u out }):wpAny (model prog w) A (Builtin.«list.sort» ([.ref l],[])) Q E s:=by
 refine yR JD x (λp c=>?_) (λa v r e=>?_) hz λz c o=>?_
 ·obtain⟨m,t,e⟩:=f.intKeys p c;exact(m,by rw[e])
 ·subst e;exact keyKind_ints f
 ·have g:SortedTo (arrOf z) (pairsOf u).size:=λi j k y=>by
   have q:=o i j k y;rw[Lq,Lq]at q;have q:=of_decide_eq_false q;lia
  obtain⟨b,D,C,B⟩:=sorted_out f c g;exact h _ b D C B
open PySem.Spec
theorem DX{Q:Value->Shared->Prop}(F:A.handled=none)(K:jE (cQ w) (intKind prog w) s.heap S d)
  (h:∀(D:Addr) (h':Heap) a tk (vs:List Value) (g:List Int) (e:Nat),s.heap.objs.size<=D->(∀b o,s.heap.get? b=some o->h'.get? b=some o)->h'.get? D=some (seqObj "list" vs.toArray e)->IntsAre vs g->agj g d->g.Pairwise (· <= ·)->g.length<=4096->Q (.ref D) { s with heap:=h',drawn:=a,toks:=tk }):
  wpAny (model prog w) A (call (.builtin "sorted") [.ref S]) Q E s:=by
 obtain⟨o,T,U,t,R,C,r,hd,I,G,J,L⟩:=K;have O:scanBound=4096:=rfl;refine Calls.call_function_entry kind_sorted plain_sorted entry_sorted (args_sorted1 _) ?_;unfold Builtin.«sorted»
 refine wpAny_bind (m:=checkCount "sorted" 1 1 _) (wpAny_pure ?_)
 refine wpAny_bind (tY (by simp[F]) (C,hd,G) r.1 I J λf l a tk P B v p u=>?_);obtain⟨g,x,q⟩:=Js L B v;have k:f.toList.length<=4096:=by rw[aae,v.1];lia
 refine wpAny_bind (wpAny_newList ?_ (by rw[sizeLine_eq];lia))
 have c:(l.push (seqObj "list" f.toList.toArray 0)).get? l.objs.size=some (seqObj "list" f.toList.toArray 0):=Heap.get?_push_size _ rfl
 refine wpAny_bind (wpAny_holding (wpAny_call_entry slot_list_sort (_,c,rfl) entry_list_sort (Jw c x (by lia) λi n N z M=>(_,rfl,?_)) (args_list_sort _)));refine wpAny_pure (_,rfl,?_);obtain⟨e,H⟩:=sortedHeap_at (out:=i) c;refine h l.objs.size _ a _ i.toList n e (adG p) (λb o y=>?_) (by simpa using H) N (z.trans q) M (by rw[z.length_eq,<-x.length];exact k);have j:=Heap.lt_size (u _ _ y);rw[sortedHeap_old (aat j) (by rw[Heap.size_push];exact ag5 j)];exact Heap.get?_push_of_some _ (u _ _ y)
end Tw
namespace L2
open PySem.Spec PyProof.Rows Tw
theorem zZ(v:X.calm=true):gD X (.builtin "sorted") (λxs H Q=>∃(p:Addr) (a:List Int),xs=[.ref p]/\H p=some (Q5 X.prog X.w p a) /\
  ∀l b,H l=none->agj b a->b.Pairwise (· <= ·)->Q (.ref l) (upd H l (.lst (b.map V.int)))):=by
 intro B s A H xs C Q I r h;obtain⟨p,a,rfl,n,q⟩:=h;obtain⟨u,rfl,j⟩:=vals1 r;cases j;have x:jE (cQ X.w) (intKind X.prog X.w) s.heap p a:=(I.hok p _ n).1;refine DX (I.ok.hd v) x λD z d i g k e f o t y c m E=>?_;exact(.ref D,_,(I.laid (t':=i) o f (show bH X.prog X.w _ z D (.lst (k.map V.int))from (by rw[aaa,sizeLine_eq];lia,g,e,rJ y,t))).drawnTo d,rfl,q _ _ (I.hok.fresh f) c m)
open PySem.W
section
variable{P:Program}{k:Nat}{T:qw}{slots:List Nat}{Vg:Addr->List Addr}{pos p1 p2:Pos}
theorem Va.makerL0(F:Va K x qual st f fd)(S:aB N ps (δ st))(M:Cg N qual (δ st) T slots Vg)(bm:BMain mg base)(b:fd.code=.ref c)(C:CodeHd base c Pt)(d:∀a H Q E,sp a H Q E->a.length=ps.length)
  (n:μ st=[.Return (some (.Lambda T.params T.body T.scope pos)) p2])
  (h:∀(a:List V) (H:Hp) (Q:VK) (E:XK),sp a H Q E->Nk H Pt pos T slots (start N a) Q):aV P w K mg base Ui (k+1) f fd ps sp:=by
 obtain⟨u,t,kV,p,r,z,j,y,o,rfl,m,g⟩:=F.ex;obtain rfl:j=.ref c:=b;refine GF m g S d λA l s H a Q E q v e I=>?_;rw[n];exact zb M bm C I (h a H Q E e)
end
def oE(x:Str)(lo a:Option Int):Str:=⟨((x.cps.toList.drop (HT.UJ x.length 0 lo)).take (HT.UJ x.length x.length a - HT.UJ x.length 0 lo)).toArray⟩
theorem pK(n d:Nat)(lo:Option Int):HT.UJ n d lo=lo.elim d (clipAt n):=by
 cases lo with
 | none=>rfl
 | some v =>
  show (if v<0 then (v+(n:Int)).toNat else min v.toNat n)=clipAt n v;unfold clipAt;split <;> lia
theorem part_of{v:Value}{lo:Option Int}(h:IsPart v lo):∃l:Option (Int×Tok),v=partValue l/\l.map (·.1)=lo:=by
 cases h with
 | none=>exact(none,rfl,rfl)
 | int i t=>exact(some (pq i t),rfl,rfl)
theorem tZ(z:Str)(l u:Option (Int×Tok)):((slicePicked z l u none).filterMap (z.cps[·]?)).toArray=(oE z (l.map (·.1)) (u.map (·.1))).cps:=by
 unfold slicePicked oE;have e:Builtin.Str.strSliceIndices (l.map (·.1)) (u.map (·.1)) 1 z.length=sliceRange (HT.UJ z.length 0 (l.map (·.1)):Nat) (HT.UJ z.length z.length (u.map (·.1)):Nat) 1:=by
  unfold Builtin.Str.strSliceIndices;rw[pK,pK];cases l <;> cases u <;> simp[clipAt_cast]
 show (List.filterMap (z.cps[·]?) (Builtin.Str.strSliceIndices (l.map (·.1)) (u.map (·.1)) 1 z.length)).toArray=_;rw[e,sliceRange_one,pick_run]
theorem Ia{l u:Option (Int×Tok)}(h:(slicePicked x l u none).length=x.length):oE x (l.map (·.1)) (u.map (·.1))=x:=by
 have g:=tZ x l u;have d:slicePicked x l u none=sliceRange (HT.UJ x.length 0 (l.map (·.1)):Nat) (HT.UJ x.length x.length (u.map (·.1)):Nat) 1:=by
  unfold slicePicked;show Builtin.Str.strSliceIndices (l.map (·.1)) (u.map (·.1)) 1 x.length=_;unfold Builtin.Str.strSliceIndices;rw[pK,pK];cases l <;> cases u <;> simp[clipAt_cast]
 rw[d,sliceRange_one,aaa,agm]at h;have f:HT.UJ x.length x.length (u.map (·.1))<=x.length:=HT.Q7 _ _ (aad _) _;unfold oE;have b:x.length=x.cps.size:=rfl;rcases aea x.length with c|c
 ·have:x.cps=#[]:=Array.eq_empty_of_size_eq_zero (b ▸ c);cases x with
  | mk a =>
   have:a=#[]:=this;subst this;simp
 ·have e:HT.UJ x.length 0 (l.map (·.1))=0:=by lia
  rw[e,aha,ag7,show HT.UJ x.length x.length (u.map (·.1))=x.length by lia,aai (by rw[aae];exact ahg b.symm)]
theorem dg(z:Str)(lo a:Option Int):(oE z lo a).length<=z.length:=by
 unfold oE;show ((z.cps.toList.drop _).take _).toArray.size<=z.cps.size;rw[aaA,aaD,ab9,aae];lia
inductive Ub(x:V)(lo:Option Int)(hi:Option Int)(H:Hp)(Q:VK):Prop
 | mk (z:_) (_:x=.str z) (_:z.length<=sizeLine) (_:Q (.str (oE z lo hi)) H)
theorem lU{X:Cx}:Yn X Ub:=by
 intro k s j H x v n m p r o Q I b g d c h;obtain⟨z,rfl,f,q⟩:=h;obtain⟨t,rfl⟩:=b
 exists "str",_,F.slot_str_getitem.lookup,typeIs_str _ _ _
 obtain⟨l,rfl,rfl⟩:=part_of d;obtain⟨u,rfl,rfl⟩:=part_of c;refine wpAny_getItem_str_slice (l:=l) (u:=u) (st:=none) g rfl ?_;unfold sliceMade;split
 ·rename_i a;have i:(slicePicked z l u none).length=z.length:=by
   simp at a;exact a
  rw[Ia i]at q;exact(.str z,H,I,(t,rfl),q)
 ·have e:(⟨((slicePicked z l u none).filterMap (z.cps[·]?)).toArray⟩:Str)=oE z (l.map (·.1)) (u.map (·.1)):=by rw[tZ]
  rw[e];exact(age (dg _ _ _) f,(.str _,H,I.tok _,(_,rfl),q))
def Iw(x:Str):It:=
 (λi _=>i<x.cps.size,λi H v a=>a=H /\ ∃c,x.cps[i]?=some c/\v=.str ⟨#[c]⟩,λi _=>x.cps.size<=i)
theorem Jx{w:World}(g:Addr)(x:Str)(t:Tok):Turn prog w K e (Iw x) [g] g (λi h=>h.IsStrIter g "str_ascii_iterator" x t i) where
 mem:=by simp
 obj:=λi h f b l=>by
  have a:b=g:=by simpa using l
  subst a;obtain⟨o,a,c,d⟩:=f;exact(o,a,λv z=>by rw[d]at z;cases z)
 keep:=λi h p f k=>let ⟨o,ho,r⟩:=f;(o,k g (by simp) o ho,r)
 item:=by
  intro X u q y L i J s G H E I n f j;subst u q y;have j:i<x.cps.size:=j;obtain⟨F,D,N,C,B,A⟩:=n g (by simp);refine wpAny_pyNext_ascii_item f (c:=x.cps[i]) (by simp[j]) λp m M=>?_;have Q:Inv X J G H { s with heap:=p,toks:=s.toks+1 }:=I.turned (t':=s.toks+1) (λb o l a=>(M.2 b l).trans a) F D C B A;obtain⟨o,a,c,d⟩:=id m;exact(_,rfl,vB (s:={ s with heap:=p,toks:=s.toks+1 }) a c d (by decide) (.str ⟨#[x.cps[i]]⟩,H,Q,(_,rfl),(rfl,_,by simp[j],rfl),m,λb l=>(n b l).1))
 done:=by
  intro X u q y L i J s G H E I n f j;subst u q y;have j:x.cps.size<=i:=j;obtain⟨F,D,N,C,B,A⟩:=n g (by simp);exact wpAny_pyNext_ascii_end (I.ok.hd L) f (by simp;lia) λp O=>(rfl,I.turned (t':=s.toks) (λb o l a=>O b o l a) F D C B A)
 self:=λ_ _ _ _ _ f h=>wpAny_pyIter_striter_ascii f h
theorem IK{w:World}(g:Addr)(x:Str)(t:Tok):Turn prog w K e (Iw x) [g] g (λi h=>h.IsStrIter g "str_iterator" x t i) where
 mem:=by simp
 obj:=λi h f b l=>by
  have a:b=g:=by simpa using l
  subst a;obtain⟨o,a,c,d⟩:=f;exact(o,a,λv z=>by rw[d]at z;cases z)
 keep:=λi h p f k=>let ⟨o,ho,r⟩:=f;(o,k g (by simp) o ho,r)
 item:=by
  intro X u q y L i J s G H E I n f j;subst u q y;have j:i<x.cps.size:=j;obtain⟨F,D,N,C,B,A⟩:=n g (by simp);refine wpAny_pyNext_wide_item f (c:=x.cps[i]) (by simp[j]) λp m M=>?_;have Q:Inv X J G H { s with heap:=p,toks:=s.toks+1 }:=I.turned (t':=s.toks+1) (λb o l a=>(M.2 b l).trans a) F D C B A;obtain⟨o,a,c,d⟩:=id m;exact(_,rfl,vB (s:={ s with heap:=p,toks:=s.toks+1 }) a c d (by decide) (.str ⟨#[x.cps[i]]⟩,H,Q,(_,rfl),(rfl,_,by simp[j],rfl),m,λb l=>(n b l).1))
 done:=by
  intro X u q y L i J s G H E I n f j;subst u q y;have j:x.cps.size<=i:=j;obtain⟨F,D,N,C,B,A⟩:=n g (by simp);exact wpAny_pyNext_wide_end (I.ok.hd L) f (by simp;lia) λp O=>(rfl,I.turned (t':=s.toks) (λb o l a=>O b o l a) F D C B A)
 self:=λ_ _ _ _ _ f h=>wpAny_pyIter_striter_wide f h
inductive QF(R:It->Hp->Prop)(v:V)(H1:Hp):Prop
 | mk (x:_) (_:v=.str x) (_:R (Iw x) H1)
def Te(b:TE):TI:=λ a H R=>b a H (QF R)
theorem Lh{l:Expr}(n:PE X l ta):PI X tg l (Te ta):=by
 intro f s j H R I h;refine Uh (n f s j H _ I h) λv a ⟨y,d,c,k,m⟩=>?_;obtain⟨x,e,q⟩:=m;subst e;obtain⟨t,rfl⟩:=k;have i:∀b∈[a.heap.objs.size],gP X f d b:=λb p=>by
  have e:b=a.heap.objs.size:=by simpa using p
  subst e;exact c.fpOk (aad _) (c.hok.fresh (aad _))
 cases g:x.cps.all (· < 128)
 ·refine wpAny_pyIter_wide g ?_;exact(a.heap.objs.size,[a.heap.objs.size],_,_,d,rfl,c.kept (t':=a.toks) λb o e=>Heap.get?_push_of_some _ e,IK _ x t,(_,Heap.get?_push_size _ rfl,rfl,rfl),i,q)
 ·refine wpAny_pyIter_ascii g ?_;exact(a.heap.objs.size,[a.heap.objs.size],_,_,d,rfl,c.kept (t':=a.toks) λb o e=>Heap.get?_push_of_some _ e,Jx _ x t,(_,Heap.get?_push_size _ rfl,rfl,rfl),i,q)
theorem HB{x:Str}{g:TG}{j:TS}{D:Ends}{σ:St}(a:Nat->St->Hp->Prop)(q:a 0 σ H)
  (n:∀i c σ H,x.cps[i]?=some c->a i σ H->g (.str ⟨#[c]⟩) σ H λ b h=>j { D with nx:=a (i+1),ct:=a (i+1),bk:=D.nx } b h)(hd:∀σ H,a x.cps.size σ H->D.nx σ H):
  ∃W:Nat->Nat->St->Hp->Prop,(∃m,W 0 m σ H) /\ ∀i m σ H,W i m σ H ->
   ((Iw x).stop i H/\D.nx σ H)\/((Iw x).go i H /\ ∃N:St->Hp->Prop,(∀d H',N d H' -> ∃k,k<m/\W (i+1) k d H') /\ ∀v H',(Iw x).Vv i H v H'->g v σ H' λ b h=>j { D with nx:=N,ct:=N,bk:=D.nx } b h):=by
 exists λi m σ H=>m=x.cps.size - i/\i<=x.cps.size/\a i σ H,(x.cps.size,by simp,aaP _,q);rintro i m σ H ⟨rfl,r,p⟩;by_cases f:i<x.cps.size
 ·refine .inr (f,a (i+1),λ d H' l=>(x.cps.size - (i+1),by lia,rfl,f,l),λv H' y=>?_);obtain⟨rfl,c,o,rfl⟩:=y;exact n i c σ _ o p
 ·have e:i=x.cps.size:=by lia
  subst e;exact .inl (aad _,hd σ H p)
end L2
namespace Tw
open PySem.Spec PyProof.Rows
def Wv(c:List Str):Prop:=c.Pairwise λa b=>¬b.cps.toList<a.cps.toList
theorem uF(h:StrsAre u N){xs:Array Keyed}(m:xs.Perm (pairsOf u))(w:SortedToK PyProof.Rows.strKind xs (pairsOf u).size):
  ∃f,StrsAre (xs.map (·.2)).toList f/\f.Perm N/\Wv f:=by
 have n:xs.toList.Perm (u.zip u):=by rw[<-pairsOf_toList];exact agV.mp m
 have b:∀p,p∈xs.toList->p.1=p.2/\p.1∈u:=λp c=>mem_zip_self (n.mem_iff.mp c);exists xs.toList.map (λp=>strOf p.1),?_,?_
 ·have e:(xs.map (·.2)).toList=xs.toList.map (·.1):=by
   rw[Array.toList_map];exact ahx λp c=>(b p c).1.symm
  rw[e];have d:=strsAre_map (xs.toList.map (·.1)) (by
   intro v s;obtain⟨p,c,rfl⟩:=aaT.mp s;exact h.all _ (b p c).2)
  rwa [agP]at d
 ·have d:=n.map (λp=>strOf p.1);have B:(u.zip u).map (λp=>strOf p.1)=N:=by
   have:(u.zip u).map (λp=>strOf p.1)=((u.zip u).map Prod.fst).map strOf:=by
    rw[agP];rfl
   rw[this,List.map_fst_zip (aad _),h.strs]
  rwa [B]at d
 ·unfold Wv;rw[aca];intro i j A z k;have l:i<xs.size:=by simpa using A
  have g:j<xs.size:=by simpa using z
  have d:=w i j (adG k) (by rw[<-m.size_eq];exact g);obtain⟨x,t,r⟩:=h.all _ (b xs[i] (by simp)).2;obtain⟨y,a,o⟩:=h.all _ (b xs[j] (by simp)).2;rw[KK_str l (x:=x) (t:=t) (q:=xs[i].2) (Prod.ext r rfl),KK_str g (x:=y) (t:=a) (q:=xs[j].2) (Prod.ext o rfl)]at d;change decide (y.cps.toList<x.cps.toList)=false at d;simp only[ai3,afq];rw[show strOf xs[i].1=x by rw[r];rfl,show strOf xs[j].1=y by rw[o];rfl];exact of_decide_eq_false d
theorem yu{l:Addr}{n:Nat}{Q:PySem.Fin->Shared->Prop}(g:s.heap.get? l=some (seqObj "list" u.toArray n))(c:StrsAre u N)(hz:u.length<=100000)
  (h:∀(out:Array Value) (b:List Str),StrsAre out.toList b->b.Perm N->Wv b->Q (.done (.ret .none)) { s with heap:=sortedHeap s.heap l u out }):wpAny (model prog w) A (Builtin.«list.sort» ([.ref l],[])) Q E s:=by
 refine yR strKind_oneLt g c.keysOf (λa v r e=>keyKind_strs (by rw[<-e];exact c)) hz λz f d=>?_;obtain⟨b,k,j,i⟩:=uF c f d;exact h _ b k j i
theorem v6{l:Addr}{Q:Value->Shared->Prop}(d:s.heap.IsList l u.toArray)(e:StrsAre u N)(hz:u.length<=100000)
  (h:∀(out:Array Value) (a:List Str),StrsAre out.toList a->a.Perm N->Wv a->Q (.ref (s.heap.objs.size+1)) { s with heap:=sortedAll s.heap u out }):
  wpAny (model prog w) A (call (.builtin "sorted") [.ref l]) Q E s:=by
 have c:u.length<=sizeLine:=by rw[sizeLine_eq];lia
 refine Calls.call_function_entry kind_sorted plain_sorted entry_sorted (args_sorted1 _) ?_;unfold Builtin.«sorted»
 refine wpAny_bind (m:=checkCount "sorted" 1 1 _) (wpAny_pure (wpAny_bind (collect_list d ?_ c)))
 refine wpAny_bind (wpAny_newList ?_ c)
 have z:((s.heap.push (seqObj "list" #[] 0)).update s.heap.objs.size (Obj.mapSeq (· ++ u.toArray))).objs.size=s.heap.objs.size+1:=by rw[Heap.size_update,size_push']
 have g:(((s.heap.push (seqObj "list" #[] 0)).update s.heap.objs.size (Obj.mapSeq (· ++ u.toArray))).push (seqObj "list" u.toArray 0)).get? (s.heap.objs.size+1)=some (seqObj "list" u.toArray 0):=by
  rw[<-z];exact Heap.get?_push_size _ rfl
 show wpAny _ _ _ _ _ { s with heap:=((s.heap.push (seqObj "list" #[] 0)).update s.heap.objs.size (Obj.mapSeq (· ++ u.toArray))).push (seqObj "list" u.toArray 0) }
 rw[z];exact wpAny_bind (wpAny_holding (wpAny_call_entry slot_list_sort (_,g,rfl) entry_list_sort (yu g e hz λout b j i f=>(_,rfl,wpAny_pure (_,rfl,h out b j i f))) (args_list_sort _)))
theorem JF{d:Array (Int×Value)}{o:List (Str×(Int×Value))}(x:nJ (PySem.strKind prog w) d.toList N o){ps:List (Int×Value)}(b:agj ps d.toList)(f:ItemsOf (wC ps) D d.size):∃h,StrsAre D.toList h/\agj h N:=by
 obtain⟨n,a⟩:=x.perm b;have k:ps.length=d.size:=by rw[b.length_eq,aae]
 have j:D.toList=ps.map (·.2):=by
  apply ahp;intro i;rw[aah];cases l:D.toList[i]? with
  | none =>
   have:D.toList.length<=i:=ag0.mp l;rw[aae,f.1,<-k]at this;rw[agY this];rfl
  | some v =>
   obtain⟨e,g,m⟩:=f.2 i v (by rw[<-acd];exact l);rw[g,m];rfl
 refine(n.map (·.1),?_,a.fst);rw[j,<-a.snd];have c:=a.is
 clear a j k f b
 induction n with
 | nil=>exact .nil
 | cons q r u =>
  obtain⟨g,m,y⟩:=c q abE;obtain⟨t,e⟩:=Value.isStrOf_shape (show Value.isStrOf q.1 q.2.2=true from g);rw[aay,aay,aay,e];exact .cons q.1 t (u λp b=>c p (aaR _ b))
theorem xG{Q:Value->Shared->Prop}(F:A.handled=none)(K:jE (cQ w) (PySem.strKind prog w) s.heap S N)
  (h:∀(D:Addr) (h':Heap) d tk (vs:List Value) (f:List Str) (e:Nat),s.heap.objs.size<=D->(∀b o,s.heap.get? b=some o->h'.get? b=some o)->h'.get? D=some (seqObj "list" vs.toArray e)->StrsAre vs f->agj f N->Wv f->f.length<=4096->Q (.ref D) { s with heap:=h',drawn:=d,toks:=tk }):
  wpAny (model prog w) A (call (.builtin "sorted") [.ref S]) Q E s:=by
 obtain⟨o,U,V,t,T,C,r,hd,I,G,J,L⟩:=K;have P:scanBound=4096:=rfl;refine Calls.call_function_entry kind_sorted plain_sorted entry_sorted (args_sorted1 _) ?_;unfold Builtin.«sorted»
 refine wpAny_bind (m:=checkCount "sorted" 1 1 _) (wpAny_pure ?_)
 refine wpAny_bind (tY (by simp[F]) (C,hd,G) r.1 I J λa k d tk R B v n u=>?_);obtain⟨f,x,p⟩:=JF L B v;have j:a.toList.length<=4096:=by rw[aae,v.1];lia
 have q:f.length=a.toList.length:=by rw[<-x.strs,aaa]
 refine wpAny_bind (wpAny_newList ?_ (by rw[sizeLine_eq];lia))
 have c:(k.push (seqObj "list" a.toList.toArray 0)).get? k.objs.size=some (seqObj "list" a.toList.toArray 0):=Heap.get?_push_size _ rfl
 refine wpAny_bind (wpAny_holding (wpAny_call_entry slot_list_sort (_,c,rfl) entry_list_sort (yu c x (by lia) λg l O z M=>(_,rfl,?_)) (args_list_sort _)));refine wpAny_pure (_,rfl,?_);obtain⟨e,H⟩:=sortedHeap_at (out:=g) c;refine h k.objs.size _ d _ g.toList l e (adG n) (λb o y=>?_) (by simpa using H) O (z.trans p) M (by rw[z.length_eq,q];exact j);have i:=Heap.lt_size (u _ _ y);rw[sortedHeap_old (aat i) (by rw[Heap.size_push];exact ag5 i)];exact Heap.get?_push_of_some _ (u _ _ y)
end Tw
namespace L2
open PySem.Spec PyProof.Rows Tw
theorem v8:∀{c:List Value},Vals (N.map V.str) c->StrsAre c N:=by
 induction N with
 | nil =>
  intro c r;rw[aia]at r;cases r;exact .nil
 | cons n e d =>
  intro c r;rw[aay]at r;cases r with
  | cons a b =>
   obtain⟨t,rfl⟩:=a;exact .cons n t (d b)
theorem rH:∀{a:List Value}{b:List Str},StrsAre a b->Vals (b.map V.str) a
 | _,_,.nil=>.nil
 | _,_,.cons _ t h=>.cons (t,rfl) (rH h)
theorem tE(h:StrsAre u N):u.length=N.length:=by
 rw[<-h.strs,aaa]
def Hk(P:Program)(w:World)(a:Addr)(b:List Str):HO:=.ext λh=>jE (cQ w) (PySem.strKind P w) h a b
theorem Lz{w:World}{a:Addr}(e:jE (cQ w) (PySem.strKind prog w) h' a N):bH prog w H h' a (Hk prog w a N):=by
 refine(e,?_,λ_ _ p k=>p.at k);obtain⟨o,_,_,_,_,b,_⟩:=e;exact(o,b)
theorem tW(G:X.calm=true):gD X (.type "set") (λxs H Q=>∃(p:Addr) (c:List Str),xs=[.ref p]/\My X.K H p (c.map V.str)/\(met (λi=>c.getD i ⟨#[]⟩) c.length).length+1<scanBound /\
  ∀l m o,H l=none->m=met (λi=>c.getD i ⟨#[]⟩) c.length->o=Hk X.prog X.w l m->Q (.ref l) (upd H l o)):=by
 intro O s N H xs P Q I r h;obtain⟨p,a,rfl,E,J,q⟩:=h;obtain⟨u,rfl,A⟩:=vals1 r;cases A;obtain⟨d,B,C,R⟩:=I.list E;have x:=v8 B;have j:=tE x;have g:d.toArray.size=a.length:=by simpa using j
 refine yX (knd:=PySem.strKind X.prog X.w) (f:=λi=>a.getD i ⟨#[]⟩) (I.ok.hd G) C.isList (λi v e=>?_) (by rw[g];exact J) λS z y F=>?_
 ·have M:d[i]?=some v:=by simpa using e
  have:∀{k:List Value}{a:List Str},StrsAre k a -> ∀(i:Nat) v,k[i]?=some v->Value.isStrOf (a.getD i ⟨#[]⟩) v=true/\v.scannable=true:=by
   intro k a L
   induction L with
   | nil=>intro i v e;simp at e
   | cons n t _ D =>
    intro i v e;cases i with
    | zero =>
     simp at e;subst e;exact(by simp[Value.isStrOf],rfl)
    | succ i=>exact D i v (by simpa using e)
  exact this x i v M
 ·rw[g]at y;exact(.ref s.heap.objs.size,_,I.laid (t':=z) (λb o e=>F b o (Heap.lt_size e) e) (aad _) (Lz y),rfl,q _ _ _ (I.hok.fresh (aad _)) rfl rfl)
theorem uc:gD X (.builtin "len") (λxs H Q=>∃(p:Addr) (a:List Str),xs=[.ref p]/\H p=some (Hk X.prog X.w p a)/\Q (.int (a.length:Int)) H):=by
 intro x s v H xs y Q I r h;obtain⟨p,a,rfl,g,q⟩:=h;obtain⟨u,rfl,f⟩:=vals1 r;cases f;have k:jE (cQ X.w) (PySem.strKind X.prog X.w) s.heap p a:=(I.hok p _ g).1;obtain⟨o,l,B,t,z,i,b,hd,A,j,_,c⟩:=k;have m:l.size=a.length:=by
  have e:=congrArg agD c.snd;have d:=c.fst.length_eq;rw[aaa]at e d;rw[<-d,e,aae]
 have n:scanBound=4096:=rfl;refine call_len_set i b hd j (by lia) ?_;exact(.int (a.length:Int),H,I.tok (s.toks+1+1),(_,by rw[<-m]),q)
theorem pW(v:X.calm=true):gD X (.builtin "sorted") (λxs H Q=>∃(p:Addr) (a:List Str),xs=[.ref p]/\H p=some (Hk X.prog X.w p a) /\
  ∀l b,H l=none->agj b a->Wv b->Q (.ref l) (upd H l (.lst (b.map V.str)))):=by
 intro B s A H xs C Q I r h;obtain⟨p,a,rfl,n,q⟩:=h;obtain⟨u,rfl,j⟩:=vals1 r;cases j;have x:jE (cQ X.w) (PySem.strKind X.prog X.w) s.heap p a:=(I.hok p _ n).1;refine xG (I.ok.hd v) x λD z d i g k e f o t y c m E=>?_;exact(.ref D,_,(I.laid (t':=i) o f (show bH X.prog X.w _ z D (.lst (k.map V.str))from (by rw[aaa,sizeLine_eq];lia,g,e,rH y,t))).drawnTo d,rfl,q _ _ (I.hok.fresh f) c m)
theorem wM:gD X (.builtin "sorted") (λxs H Q=>∃(p:Addr) (c:List Str),xs=[.ref p]/\My X.K H p (c.map V.str)/\c.length<=100000 /\ ∀l d,H l=none->agj d c->Wv d->Q (.ref l) (upd H l (.lst (d.map V.str)))):=by
 intro A s z H xs B Q I r h;obtain⟨p,C,rfl,o,E,q⟩:=h;obtain⟨u,rfl,k⟩:=vals1 r;cases k;obtain⟨f,m,n,D⟩:=I.list o;have g:=v8 m;have j:=tE g;refine v6 n.isList (by simpa using g) (by lia) λa b y i x=>?_;obtain⟨e,v⟩:=sortedAll_at s.heap f a;have t:b.length<=sizeLine:=by
  rw[i.length_eq,sizeLine_eq];lia
 refine(.ref (s.heap.objs.size+1),_,I.laid (t':=s.toks) (λ_ _=>sortedAll_old) (agS _) (show bH X.prog X.w _ _ _ (.lst (b.map V.str))from (by rw[aaa];exact t,a.toList,e,rH y,?_)),rfl,q _ _ (I.hok.fresh (agS _)) i x);rw[v]
open PySem.W
inductive Hi(x:V)(xs:List V)(H:Hp)(Q:VK):Prop
 | mk (z y:Str) (i:Nat) (rest:List Nat) (_:x=.str z) (_:xs=[.str y]) (_:Builtin.Str.occurrences z y 0 z.length 1=i::rest) (_:Q (.int (i:Int)) H)
theorem HW:Xy X "str.index" Hi:=by
 intro g s f H x j v k Q I b c h;obtain⟨z,y,i,rest,rfl,rfl,e,q⟩:=h;obtain⟨t,rfl⟩:=b;obtain⟨u,rfl,d⟩:=vals1 c;obtain⟨a,rfl⟩:=d;exact call_gives F.slot_str_index (typeIs_str _ _ _) F.entry_str_index (F.args_str_index_2 _ _) (gives_str_index z y t a i rest e) (.int (i:Int),H,I.tok _,(_,rfl),q)
inductive Tn(x:V)(y:V)(H:Hp)(Q:VK):Prop
 | mk (u v:Str) (_:x=.str u) (_:y=.str v) (_:Q (.bl (decide (u.cps.toList<v.cps.toList))) H)
theorem Ms:Uz X (compareOp .Lt) Tn:=by
 intro f s e H x y v u Q I d c h;obtain⟨a,b,rfl,rfl,q⟩:=h;obtain⟨t,rfl⟩:=d;obtain⟨g,rfl⟩:=c;exact P.lt_str (.bl _,H,I,rfl,q)
inductive Bu(x:V)(xs:List V)(H:Hp)(Q:VK):Prop
 | mk (z y:Str) (_:x=.str z) (_:xs=[.str y]) (_:Q (.bl (decide (z.cps.toList.take y.length=y.cps.toList))) H)
theorem Ir(z y:Str):Txt.startswith z y=decide (z.cps.toList.take y.length=y.cps.toList):=by
 have a:z.cps.toList.length=z.length:=aae;have b:y.cps.toList.length=y.length:=aae;unfold Txt.startswith;rw[StrLaws.subAt_eq,aha,agB];by_cases e:z.cps.toList.take y.length=y.cps.toList
 ·have:=congrArg agD e;rw[aaD]at this;rw[decide_eq_true e,decide_eq_true (show y.length<=z.length by lia),e];exact beq_self_eq_true _
 ·rw[decide_eq_false e,Bool.and_eq_false_iff];exact .inr (beq_eq_false_iff_ne.mpr e)
theorem EY:Xy X "str.startswith" Bu:=by
 intro g s f H x i v j Q I b c h;obtain⟨z,y,rfl,rfl,q⟩:=h;obtain⟨t,rfl⟩:=b;obtain⟨u,rfl,d⟩:=vals1 c;obtain⟨a,rfl⟩:=d;refine call_gives F.slot_str_startswith (typeIs_str _ _ _) F.entry_str_startswith (F.args_str_startswith_2 _ _) (gives_str_startswith z y t a) (.bl _,H,I,rfl,?_);have e:=Ir z y;unfold Txt.startswith at e;rw[e];exact q
end L2
namespace Tw
def Vn(a b:Str):Prop:=a.cps.toList<b.cps.toList
theorem eE{a b:Str}(h:a.cps.toList=b.cps.toList):a=b:=by
 cases a;cases b;congr 1;exact Array.toList_inj.mp h
theorem Qs{a b:Str}(h:¬b.cps.toList<a.cps.toList)(e:a≠b):Vn a b:=by
 rcases List.le_total (a.cps.toList) (b.cps.toList)with c|c
 ·by_cases d:a.cps.toList<b.cps.toList
  ·exact d
  ·exact absurd (eE (ai4 (ajb.mp h) (ajb.mp d))) e
 ·exact absurd (eE (ai4 (ajb.mp h) c)) e
theorem lJ(a:Str):¬Vn a a:=aiA _
theorem yq{a b c:Str}(h:Vn a b)(h':Vn b c):Vn a c:=agq h h'
theorem wV(h:Wv N)(c:N.Nodup):N.Pairwise Vn:=List.Pairwise.imp₂ (λa b e d=>Qs e d) h c
def beg(w:Str)(k:Nat):Str:=⟨(w.cps.toList.take k).toArray⟩
theorem bR(w:Str)(k:Nat):(beg w k).cps.toList=w.cps.toList.take k:=by
 unfold beg;exact ah3
theorem zG(w:Str)(k:Nat):(beg w k).length=min k w.length:=by
 show (beg w k).cps.size=min k w.cps.size;rw[<-aae,bR,aaD,aae]
theorem O2(w:Str){j k:Nat}(h:j<=k):beg (beg w k) j=beg w j:=eE (by rw[bR,bR,bR,ahJ,afM h])
theorem PN(w:Str){k:Nat}(h:w.length<=k):beg w k=w:=eE (by rw[bR,aai (by rw[aae];exact h)])
theorem zg(w:Str)(k:Nat):oE w none (some (k:Int))=beg w k:=by
 refine eE ?_;rw[bR];unfold oE;rw[ah3,HT.jY,aha,ag7,HT.jr];rcases aiw k w.length with c|c
 ·rw[afM c]
 ·rw[agW c,aai (by rw[aae];exact aad _),aai (by rw[aae];exact c)]
theorem tX:∀{p u:List Nat}{c:Nat},¬u<p->u<p++[c]->p.length<=u.length
 | [],_,_,_,_=>aaP _
 | a::p,[],c,h,_=>absurd (ahR a p) h
 | a::p,b::u,c,h,d=>by
  rw[agA,adH]at d;rw[adH]at h;have e:b=a/\u<p++[c]:=by
   rcases d with d | d
   ·exact absurd (.inl d) h
   ·exact d
  have:=tX (λz=>h (.inr (e.1,z))) e.2;rw[aaE,aaE];lia
structure oF(ws ts:List Str):Prop where
 up:ts.Pairwise Vn
 mem:∀t,t∈ts ↔ t=⟨#[]⟩ \/ ∃w∈ws,∃k:Nat,t=beg w k
theorem oF.pre(h:oF N ps){t:Str}(ht:t∈ps)(k:Nat):beg t k∈ps:=by
 rcases(h.mem t).mp ht with e|⟨w,a,j,e⟩
 ·refine(h.mem _).mpr (.inl ?_);rw[e];refine eE ?_;rw[bR];exact ain
 ·rcases aiw k j with c|c
  ·exact(h.mem _).mpr (.inr (w,a,k,by rw[e,O2 w c]))
  ·refine(h.mem _).mpr (.inr (w,a,j,?_));rw[e];refine PN _ ?_;rw[zG];lia
theorem oF.zero(h:oF N ps):ps[0]?=some ⟨#[]⟩:=by
 have b:=(h.mem ⟨#[]⟩).mpr (.inl rfl);cases ps with
 | nil=>exact absurd b ahv
 | cons a r =>
  rcases aaQ.mp b with e|e
  ·rw[e];rfl
  ·have c:=(aie.mp h.up).1 _ e;unfold Vn at c;exact absurd c (ah4 _)
theorem oF.good(h:oF N ps):gF (ps.map λt=>(t.length:Int)):=by
 refine(by rw[aah,h.zero];rfl,λi x y A w=>?_);rw[aah]at A w;obtain⟨u,F,rfl⟩:=abF.mp A;obtain⟨t,ht,rfl⟩:=abF.mp w;obtain⟨B,q⟩:=aab.mp F;obtain⟨m,s⟩:=aab.mp ht;have b:Vn u t:=by
  rw[<-q,<-s];exact aca.mp h.up i (i+1) B m (agK _)
 have H:t.length≠0:=λe=>by
  have:t.cps.toList=[]:=ahG.mp (by rw[aae];exact e);unfold Vn at b;rw[this]at b;exact absurd b (ah4 _)
 refine(by lia,?_);have G:=h.pre (aag ht) (t.length - 1);obtain⟨j,I⟩:=aaM G;obtain⟨l,f⟩:=aab.mp I;have d:t.cps.toList.length=t.length:=aae;obtain⟨c,C⟩:∃c,t.cps.toList=(beg t (t.length - 1)).cps.toList++[c]:=by
  rw[bR];have k:t.cps.toList≠[]:=λe=>H (by rw[<-d,e];rfl);exists t.cps.toList.getLast k;rw[show t.length - 1=t.cps.toList.length - 1 by rw[d],<-List.dropLast_eq_take];exact(ahd k).symm
 have v:Vn (beg t (t.length - 1)) t:=by
  unfold Vn;rw[C];have:∀(p:List Nat) (c:Nat),p<p++[c]:=λp c=>by
   induction p with
   | nil=>exact ahR c []
   | cons a r E =>
    rw[agA,adH];exact .inr (rfl,E)
  exact this _ _
 have J:j<=i:=by
  rcases aaq i j with g|g
  ·rcases aaq (i+1) j with D|D
   ·have:=aca.mp h.up (i+1) j m l D;rw[s,f]at this;exact absurd (yq this v) (lJ _)
   ·have e:j=i+1:=by lia
    subst e;rw[s]at f;rw[<-f]at v;exact absurd v (lJ _)
  ·exact g
 have n:¬u.cps.toList<(beg t (t.length - 1)).cps.toList:=λz=>by
  rcases aaq j i with g|g
  ·have:=aca.mp h.up j i l B g;rw[f,q]at this;exact absurd (yq this z) (lJ _)
  ·have e:j=i:=by lia
   subst e;rw[q]at f;rw[f]at z;exact absurd z (aiA _)
 have o:=tX n (by rw[<-C];exact b);rw[bR,aaD,d,aae]at o;have:u.cps.size=u.length:=rfl;lia
def ZM:List Nat->List Nat->Nat
 | a::u,b::v=>if a=b then ZM u v+1 else 0
 | _,_=>0
def fresh(u w:Str):List Str:=(agd (w.length - ZM u.cps.toList w.cps.toList)).map λi=>beg w (ZM u.cps.toList w.cps.toList+i+1)
theorem dC(x:List Nat):¬x<x:=aiA x
theorem vD:∀(p:List Nat) {x y:List Nat},p++x<p++y ↔ x<y
 | [],_,_=>Iff.rfl
 | a::p,x,y=>by
  rw[agA,agA,adH,vD p];constructor
  ·rintro(h|⟨_,h⟩)
   ·exact absurd h (agf _)
   ·exact h
  ·exact λh=>.inr (rfl,h)
theorem iB(p:List Nat)(c:Nat)(s:List Nat):p<p++c::s:=by
 have:=(vD p (x:=[]) (y:=c::s)).mpr (ahR c s);rw[agG]at this;exact this
theorem Hy:∀{u v:List Nat},u.length=v.length->u<v -> ∀a b:List Nat,u++a<v++b
 | [],[],_,h,_,_=>absurd h (dC _)
 | [],_::_,h,_,_,_=>by cases h
 | _::_,[],h,_,_,_=>by cases h
 | x::u,y::v,h,d,a,b=>by
  rw[agA,agA,adH];rcases adH.mp d with z|⟨z,c⟩
  ·exact .inl z
  ·exact .inr (z,Hy (by simpa using h) c a b)
theorem fZ:∀{p x s:List Nat},¬x<p -> ¬p++s<x->x.take p.length=p
 | [],x,s,_,_=>by simp
 | a::p,[],s,h,_=>absurd (ahR a p) h
 | a::p,b::x,s,h,c=>by
  rw[agA,adH]at c;rw[adH]at h;have e:a=b:=by
   rcases agR a b with z|z|z
   ·exact absurd (.inl z) c
   ·exact z
   ·exact absurd (.inl z) h
  subst e;rw[aaE,ahy,fZ (λz=>h (.inr (rfl,z))) (λz=>c (.inr (rfl,z)))]
theorem uT(x:List Nat)(k:Nat):¬x<x.take k:=λh=>by
 have e:=abG k x;cases q:x.drop k with
 | nil =>
  rw[q,agG]at e;rw[e]at h;exact dC _ h
 | cons c s =>
  rw[q]at e;have:=iB (x.take k) c s;rw[e]at this;exact dC _ (agq this h)
structure PC(L:List (List Nat)):Prop where
 up:L.Pairwise (· < ·)
 pre:∀t∈L,∀k,t.take k∈L
theorem PC.lt{L:List (List Nat)}(h:PC L){i j:Nat}{x y:List Nat}(e:L[i]?=some x)(d:L[j]?=some y)(b:i<j):x<y:=by
 obtain⟨c,rfl⟩:=aab.mp e;obtain⟨a,rfl⟩:=aab.mp d;exact aca.mp h.up i j c a b
theorem PC.le{L:List (List Nat)}(h:PC L){i j:Nat}{x y:List Nat}(c:L[i]?=some x)(b:L[j]?=some y)(a:¬y<x):i<=j:=by
 rcases aaq j i with z|z
 ·exact absurd (h.lt b c z) a
 ·exact z
theorem PC.idx{L:List (List Nat)}(h:PC L){i j:Nat}{x:List Nat}(b:L[i]?=some x)(a:L[j]?=some x):i=j:=air (h.le b a (dC _)) (h.le a b (dC _))
theorem PC.under{L:List (List Nat)}(h:PC L){i j:Nat}{t x:List Nat}(e:L[j]?=some t)(d:L[i]?=some x)(b:j<i)(f:∀m y,j<m->m<=i->L[m]?=some y->t.length<y.length):x.take t.length=t:=by
 obtain⟨k,a⟩:=aaM (h.pre x (aag d) t.length);have c:(x.take t.length).length=t.length:=by
  rw[aaD];have:=f i x b (aad _) d;lia
 have g:=h.le a d (uT x _);rcases agR k j with z|z|z
 ·have:=Hy c (h.lt a e z) (x.drop t.length) [];rw[abG,agG]at this;exact absurd (agq this (h.lt e d b)) (dC _)
 ·subst z;rw[e]at a;exact(aao a).symm
 ·have:=f k _ z g a;lia
theorem Am{x t:List Nat}(h:x.take t.length=t)(b:x.length=t.length+1):∃e,x=t++[e]:=by
 have e:=abG t.length x;rw[h]at e;have:(x.drop t.length).length=1:=by rw[ab9];lia
 obtain⟨c,a⟩:=List.length_eq_one_iff.mp this;exact(c,by rw[<-a,e])
theorem qi{t:List Nat}{a b:Nat}:t++[a]<t++[b] ↔ a<b:=by
 rw[vD,adH];constructor
 ·rintro(h|⟨_,h⟩)
  ·exact h
  ·exact absurd h (dC _)
 ·exact .inl
abbrev lens(L:List (List Nat)):List Int:=L.map λt=>(t.length:Int)
theorem Hn{L:List (List Nat)}{i:Nat}(h:(lens L)[i]?=some m):∃t,L[i]?=some t/\m=t.length:=by
 rw[aah]at h;obtain⟨t,b,a⟩:=abF.mp h;exact(t,b,a.symm)
theorem ig{L:List (List Nat)}{i:Nat}{t:List Nat}(h:L[i]?=some t):(lens L)[i]?=some (t.length:Int):=by
 rw[aah,h];rfl
theorem PC.of_lt{L:List (List Nat)}(h:PC L){i j:Nat}{x y:List Nat}(c:L[i]?=some x)(b:L[j]?=some y)(a:x<y):i<j:=by
 rcases aaq i j with z|z
 ·exact z
 ·have e:i=j:=air (h.le c b λq=>dC _ (agq a q)) z;subst e;rw[c]at b;cases b;exact absurd a (dC _)
theorem PC.mid{L:List (List Nat)}(h:PC L){i j k:Nat}{t x s:List Nat}(c:L[j]?=some t)(a:L[i]?=some x)(b:L[k]?=some (t++s))(e:j<=i)(d:i<=k):x.take t.length=t:=by
 refine fZ (s:=s) (λq=>?_) (λq=>?_)
 ·have:=h.of_lt a c q;lia
 ·have:=h.of_lt b a q;lia
theorem yN{x t:List Nat}(h:x.take t.length=t):t.length<=x.length:=by
 have:=congrArg agD h;rw[aaD]at this;lia
theorem PC.first{L:List (List Nat)}(h:PC L){j:Nat}{t:List Nat}(g:L[j]?=some t):
  ((lens L)[j+1]?=some ((t.length:Int)+1) -> ∃e,L[j+1]?=some (t++[e]) /\ ∀c,c<e->t++[c]∉L) /\
  ((lens L)[j+1]? ≠ some ((t.length:Int)+1) -> ∀c,t++[c]∉L):=by
 refine(λhd=>?_,λhd c q=>hd ?_)
 ·obtain⟨x,a,e⟩:=Hn hd;have p:x.length=t.length+1:=by lia
  have b:=h.under g a (agK j) λm y D C o=>by
   have:m=j+1:=by lia
   subst this;rw[a]at o;cases o;lia
  obtain⟨c,rfl⟩:=Am b p;refine(c,a,λe i d=>?_);obtain⟨k,f⟩:=aaM d;have B:=h.of_lt f a (qi.mpr i);have n:=h.of_lt g f (iB t e []);lia
 ·obtain⟨k,f⟩:=aaM q;have n:=h.of_lt g f (iB t c []);have u:=(aab.mp f).1;obtain⟨x,a⟩:∃x,L[j+1]?=some x:=(_,aac (by lia));have b:=h.mid g a f (agS j) n;have v:=yN b;rw[ig a];have s:x.length≠t.length:=λz=>by
   rw[aai (by lia)]at b;have:=h.idx g (b ▸ a);lia
  obtain⟨m,d⟩:=aaM (h.pre x (aag a) (t.length+1));have A:=h.le d a (uT x _);have r:(x.take (t.length+1)).take t.length=t:=by rw[ahJ,afM (agS _)];exact b
  have l:(x.take (t.length+1)).length=t.length+1:=by rw[aaD];lia
  obtain⟨e,i⟩:=Am r l;have w:=h.of_lt g d (by rw[i];exact iB t e []);have:m=j+1:=by lia
  subst this;rw[a]at d;have:=congrArg agD (aao d);rw[l]at this;rw[this];rfl
theorem PC.next{L:List (List Nat)}(h:PC L){i:Nat}{t:List Nat}{e:Nat}(o:L[i]?=some (t++[e])):
  ((lens L)[i+1+run (lens L) (i+1) ((t.length:Int)+1)]?=some ((t.length:Int)+1) -> ∃p,L[i+1+run (lens L) (i+1) ((t.length:Int)+1)]?=some (t++[p])/\e<p /\ ∀c,e<c->c<p->t++[c]∉L) /\
  ((lens L)[i+1+run (lens L) (i+1) ((t.length:Int)+1)]? ≠ some ((t.length:Int)+1) -> ∀c,e<c->t++[c]∉L):=by
 obtain⟨E,D⟩:=u6 _ (i+1) (rfl:run (lens L) (i+1) ((t.length:Int)+1)=_);generalize run (lens L) (i+1) ((t.length:Int)+1)=n at *;have g:∀m y,i<m->m<i+1+n->L[m]?=some y->t.length+1<y.length:=λm y B A G=>by
  obtain⟨d,C,R⟩:=E (m - (i+1)) (by lia);rw[show i+1+(m - (i+1))=m by lia,ig G]at C;have:=aao C;lia
 have a:∀c,e<c -> ∀k,L[k]?=some (t++[c])->i+1+n<=k:=λc v k b=>by
  have r:=h.of_lt o b (qi.mpr v);rcases aaq k (i+1+n)with z|z
  ·have:=g k _ r z b;simp at this
  ·exact z
 obtain⟨j,u⟩:=aaM (h.pre _ (aag o) t.length);rw[ajh]at u;have J:=h.of_lt u o (iB t e []);refine(λhd=>?_,λhd c v l=>hd ?_)
 ·obtain⟨x,f,Q⟩:=Hn hd;have H:x.length=t.length+1:=by lia
  obtain⟨k,b⟩:=aaM (h.pre x (aag f) t.length);have w:(x.take t.length).length=t.length:=by rw[aaD];lia
  have r:=h.le b f (uT x _);have F:k<i:=by
   rcases agR k i with z|z|z
   ·exact z
   ·subst z;rw[o]at b;have:=congrArg agD (aao b);rw[w]at this;simp at this
   ·rcases aaq k (i+1+n)with y|y
    ·have:=g k _ z y b;lia
    ·have:k=i+1+n:=by lia
     subst this;rw[f]at b;have:=congrArg agD (aao b);lia
  have q:=h.mid b o (s:=x.drop t.length) (by rw[abG];exact f) (adG F) (by lia);rw[w,ajh]at q;obtain⟨p,rfl⟩:=Am q.symm H;refine(p,f,qi.mp (h.lt o f (by lia)),λc B A l=>?_);obtain⟨m,l⟩:=aaM l;have P:=a c B m l;have O:=h.of_lt l f (qi.mpr A);lia
 ·obtain⟨k,b⟩:=aaM l;have r:=a c v k b;have I:=(aab.mp b).1;obtain⟨x,f⟩:∃x,L[i+1+n]?=some x:=(_,aac (by lia));have q:=h.mid u f b (by lia) r;have N:=yN q;have M:x.length≠t.length:=λz=>by
   rw[aai (by lia)]at q;have:=h.idx u (q ▸ f);lia
  have K:=D _ (ig f);rw[ig f];congr 1;lia
def YG(L:List (List Nat))(u:List Nat)(i:Nat):Prop:=i<=L.length /\ ∀k x,L[k]?=some x->(x<u ↔ k<i)
theorem PC.here{L:List (List Nat)}(h:PC L){i:Nat}{u:List Nat}(a:L[i]?=some u):YG L u i:=
 (adG (aab.mp a).1,λ_ _ b=>(λq=>h.of_lt b a q,λq=>h.lt b a q))
theorem Hb{t:List Nat}{c e:Nat}{r s:List Nat}(h:c<e):t++c::r<t++e::s:=(vD t).mpr (adH.mpr (.inl h))
theorem GX{x t:List Nat}(h:x.take t.length=t):x=t \/ ∃e s,x=t++e::s:=by
 have e:=abG t.length x;rw[h]at e;cases q:x.drop t.length with
 | nil =>
  rw[q,agG]at e;exact .inl e.symm
 | cons a s =>
  rw[q]at e;exact .inr (a,s,e.symm)
theorem PC.one{L:List (List Nat)}(h:PC L){t s:List Nat}{e:Nat}(a:t++e::s∈L):t++[e]∈L:=by
 have:=h.pre _ a (t.length+1);rw[List.take_length_add_append]at this;exact this
theorem PC.young{L:List (List Nat)}(h:PC L){i e c:Nat}{t r:List Nat}(d:L[i]?=some (t++[e]))(l:c<e)(n:∀g,c<=g->g<e->t++[g]∉L):YG L (t++c::r) i:=by
 have j:t++c::r<t++[e]:=Hb l;refine(adG (aab.mp d).1,λk x b=>(λq=>h.of_lt b d (agq q j),λq=>?_));have a:=h.lt b d q;refine Decidable.byContradiction λz=>?_;have m:=fZ (p:=t) (x:=x) (s:=[e]) (λy=>z (agq y (iB t c r))) (λy=>dC _ (agq a y));rcases GX m with rfl|⟨f,s,rfl⟩
 ·exact z (iB x c r)
 rw[vD,adH]at a z;have o:f<e:=by
  rcases a with y|⟨_,y⟩
  ·exact y
  ·exact absurd y (ah4 s)
 exact n f (ai0 λy=>z (.inl y)) o (h.one (aag b))
theorem PC.tail{L:List (List Nat)}(h:PC L){j:Nat}{t:List Nat}(b:L[j]?=some t):j+1+run (lens L) (j+1) t.length<=L.length /\ ∀k x,L[k]?=some x->(k<j+1+run (lens L) (j+1) t.length ↔ x<t\/x.take t.length=t):=by
 obtain⟨i,o⟩:=u6 _ (j+1) (rfl:run (lens L) (j+1) (t.length:Int)=_);generalize run (lens L) (j+1) (t.length:Int)=n at *;have r:=(aab.mp b).1;refine(?_,λk x a=>(λq=>?_,λq=>?_))
 ·rcases aea n with z|z
  ·lia
  ·obtain⟨d,f,_⟩:=i (n - 1) (by lia);have:=(aab.mp f).1;rw[aaa]at this;lia
 ·rcases agR k j with z|z|z
  ·exact .inl (h.lt a b z)
  ·subst z;rw[b]at a;cases a;exact .inr (agp)
  ·refine .inr (h.under b a z λm y v u c=>?_);obtain⟨d,f,w⟩:=i (m - (j+1)) (by lia);rw[show j+1+(m - (j+1))=m by lia,ig c]at f;have:=aao f;lia
 ·rcases q with q|q
  ·have:=h.of_lt a b q;lia
  ·refine ai5 λz=>?_;have p:=(aab.mp a).1;obtain⟨y,c⟩:∃y,L[j+1+n]?=some y:=(_,aac (by lia));have s:=o _ (ig c);have e:x=t++x.drop t.length:=by rw[<-abG t.length x,q,List.drop_left]
   have l:=h.mid b c (e ▸ a) (by lia) z;have g:y=t:=by
    rw[aai (by lia)]at l;exact l
   have:=h.idx b (g ▸ c);lia
theorem PC.behind{L:List (List Nat)}(h:PC L){j c:Nat}{t r:List Nat}(d:L[j]?=some t)(b:∀e,c<=e->t++[e]∉L):YG L (t++c::r) (j+1+run (lens L) (j+1) t.length):=by
 obtain⟨i,g⟩:=h.tail d;refine(i,λk x a=>?_);rw[g k x a];refine(λq=>?_,λq=>?_)
 ·by_cases z:t<x
  ·exact .inr (fZ (p:=t) (x:=x) (s:=c::r) (λy=>dC _ (agq y z)) λy=>dC _ (agq q y))
  ·by_cases y:x<t
   ·exact .inl y
   ·exact .inr (fZ (p:=t) (s:=[]) y (by rw[agG];exact z))
 ·rcases q with q|q
  ·exact agq q (iB t c r)
  ·rcases GX q with rfl|⟨f,s,rfl⟩
   ·exact iB x c r
   ·refine Hb (ai5 λz=>b f z (h.one (aag a)))
theorem Kv{l a:List J}(h:l.Nodup)(h':a.Nodup)(e:∀x,x∈l ↔ x∈a):l.length=a.length:=((List.perm_ext_iff_of_nodup h h').mpr e).length_eq
def top(i:Nat):Stmt:=PySem.Challenge.pw_thinwood_k76_by_beginnings.main.body.getD i (.Pass (0,0,0,0))
abbrev vC:Stmt:=top 13
theorem Il:aB ["bits"] ["bits"] (δ vC):=Uk (by decide +kernel)
abbrev nQ:Stmt:=top 14
theorem qd:aB ["bits","bit"] ["bits"] (δ nQ):=Uk (by decide +kernel)
abbrev o5:Stmt:=top 15
theorem ju:aB ["bits","block","bit"] ["bits"] (δ o5):=Uk (by decide +kernel)
abbrev ww:Stmt:=top 16
theorem JR:aB ["block","k"] ["block","k"] (δ ww):=Uk (by decide +kernel)
abbrev sW:Stmt:=top 17
theorem Fl:aB ["block","upto"] ["block","upto"] (δ sW):=Uk (by decide +kernel)
abbrev rR:Stmt:=top 18
theorem Es:aB ["block","upto"] ["block","upto"] (δ rR):=Uk (by decide +kernel)
abbrev vJ:Stmt:=top 19
theorem j4:aB ["block","nth","ones","k","bit"] ["block","nth"] (δ vJ):=Uk (by decide +kernel)
abbrev qU:Stmt:=top 20
theorem iT:aB ["block","upto","nets","net","bit"] ["block","upto"] (δ qU):=Uk (by decide +kernel)
abbrev vZ:Stmt:=top 21
theorem Kg:aB ["block","upto"] ["block","upto"] (δ vZ):=Uk (by decide +kernel)
abbrev iK:Stmt:=top 22
theorem gJ:aB ["block","start","stop","goal","k","net"] ["block","start","stop","goal"] (δ iK):=Uk (by decide +kernel)
abbrev jP:Stmt:=top 23
theorem dq:aB ["block","start","stop","goal","found","k","net"] ["block","start","stop","goal"] (δ jP):=Uk (by decide +kernel)
abbrev cC:Stmt:=top 24
theorem zO:aB ["look","first"] ["look","first"] (δ cC):=Uk (by decide +kernel)
abbrev qM:Stmt:=top 27
theorem lr:aB ["numbers","size","nodes","node"] ["numbers"] (δ qM):=Uk (by decide +kernel)
abbrev rW:Stmt:=top 28
theorem oV:aB ["many","size"] ["many"] (δ rW):=Uk (by decide +kernel)
abbrev mL:Stmt:=top 29
theorem Ag:aB ["one","other"] ["one","other"] (δ mL):=Uk (by decide +kernel)
abbrev gG:Stmt:=top 30
theorem j6:aB ["many","look","start","goal","node"] ["many","look","start","goal"] (δ gG):=Uk (by decide +kernel)
abbrev jj:Stmt:=top 31
theorem lV:aB ["many","look","stop","goal","node"] ["many","look","stop","goal"] (δ jj):=Uk (by decide +kernel)
abbrev gK:Stmt:=top 32
theorem dB:aB ["size","look","node","goal","side","found"] ["size","look","node","goal","side"] (δ gK):=Uk (by decide +kernel)
abbrev gH:Stmt:=top 33
theorem qT:aB ["many","start","stop"] ["many","start","stop"] (δ gH):=Uk (by decide +kernel)
abbrev Ba:Stmt:=top 34
theorem dU:aB ["many","start","stop","size","low","high","lefts","rights"] ["many","start","stop"] (δ Ba):=Uk (by decide +kernel)
abbrev o9:Stmt:=top 36
theorem tO:aB ["bits","blocks"] ["bits"] (δ o9):=Uk (by decide +kernel)
abbrev pC:Stmt:=top 37
theorem m6:aB ["blocks","ahead","block"] ["blocks"] (δ pC):=Uk (by decide +kernel)
abbrev jU:Stmt:=top 38
theorem u5:aB ["at","most"] ["at","most"] (δ jU):=Uk (by decide +kernel)
abbrev wN:Stmt:=top 39
theorem Ih:aB ["tables","look","at"] ["tables","look","at"] (δ wN):=Uk (by decide +kernel)
abbrev rP:Stmt:=top 40
theorem jg:aB ["tables","look","at","many","ahead","number","within"] ["tables","look","at"] (δ rP):=Uk (by decide +kernel)
abbrev lA:Stmt:=top 41
theorem xW:aB ["tables","look","at"] ["tables","look","at"] (δ lA):=Uk (by decide +kernel)
abbrev mJ:Stmt:=top 42
theorem lu:aB ["tables","look","nth","ahead","number"] ["tables","look","nth"] (δ mJ):=Uk (by decide +kernel)
abbrev m9:Stmt:=top 43
theorem zE:aB ["nth","many"] ["nth","many"] (δ m9):=Uk (by decide +kernel)
abbrev fj:Stmt:=top 44
theorem bN:aB ["numbers","goal","low","high","middle"] ["numbers","goal"] (δ fj):=Uk (by decide +kernel)
abbrev rF:Stmt:=top 46
theorem iG:aB ["bits","level","at","bit"] ["bits"] (δ rF):=Uk (by decide +kernel)
abbrev gh:Stmt:=top 47
theorem pU:aB ["bits"] ["bits"] (δ gh):=Uk (by decide +kernel)
abbrev gQ:Stmt:=top 48
theorem cJ:aB ["bits","row","tables","blocks","lows"] ["bits"] (δ gQ):=Uk (by decide +kernel)
abbrev wI:Stmt:=top 49
theorem J8:aB ["tables","number","block"] ["tables","number","block"] (δ wI):=Uk (by decide +kernel)
abbrev qZ:Stmt:=top 50
theorem Fq:aB ["tables","number"] ["tables","number"] (δ qZ):=Uk (by decide +kernel)
abbrev iJ:Stmt:=top 51
theorem uv:aB ["number","at"] ["number","at"] (δ iJ):=Uk (by decide +kernel)
abbrev lO:Stmt:=top 52
theorem xf:aB ["number","upto"] ["number","upto"] (δ lO):=Uk (by decide +kernel)
abbrev jT:Stmt:=top 53
theorem u9:aB ["tables"] ["tables"] (δ jT):=Uk (by decide +kernel)
abbrev cz:Stmt:=top 54
theorem pI:aB ["tables","nodes"] ["tables"] (δ cz):=Uk (by decide +kernel)
abbrev wD:Stmt:=top 55
theorem Ie:aB ["tables","look","at"] ["tables","look","at"] (δ wD):=Uk (by decide +kernel)
abbrev kI:Stmt:=top 56
theorem gq:aB ["tables","look","at","goal","number","found","further"] ["tables","look","at","goal"] (δ kI):=Uk (by decide +kernel)
abbrev iW:Stmt:=top 57
theorem gM:aB ["tables","look","number","at","goal","start","stop"] ["tables","look","number","at","goal"] (δ iW):=Uk (by decide +kernel)
abbrev iV:Stmt:=top 58
theorem uD:aB ["number","within"] ["number","within"] (δ iV):=Uk (by decide +kernel)
abbrev mq:Stmt:=top 59
theorem p7:aB ["tables","look","at","goal","found"] ["tables","look","at","goal"] (δ mq):=Uk (by decide +kernel)
abbrev gO:Stmt:=top 60
theorem dJ:aB ["tables","look","upto","goal","number","found","further"] ["tables","look","upto","goal"] (δ gO):=Uk (by decide +kernel)
abbrev jz:Stmt:=top 61
theorem nq:aB ["tables","look","number","upto","goal","stop"] ["tables","look","number","upto","goal"] (δ jz):=Uk (by decide +kernel)
abbrev gR:Stmt:=top 62
theorem rT:aB ["tables","look","at","bit"] ["tables","look","at","bit"] (δ gR):=Uk (by decide +kernel)
abbrev qH:Stmt:=top 63
theorem Ga:aB ["tables","look","at"] ["tables","look","at"] (δ qH):=Uk (by decide +kernel)
abbrev qY:Stmt:=top 64
theorem FN:aB ["tables","look","at"] ["tables","look","at"] (δ qY):=Uk (by decide +kernel)
abbrev jd:Stmt:=top 67
theorem gW:aB ["depths","ahead","depth"] ["depths"] (δ jd):=Uk (by decide +kernel)
abbrev jJ:Stmt:=top 68
theorem cY:aB ["depths","bits","unclosed","depth"] ["depths"] (δ jJ):=Uk (by decide +kernel)
abbrev m8:Stmt:=top 69
theorem zu:aB ["depths"] ["depths"] (δ m8):=Uk (by decide +kernel)
abbrev jO:Stmt:=top 72
theorem mG:aB ["signs","sign"] ["signs"] (δ jO):=Uk (by decide +kernel)
abbrev lQ:Stmt:=top 73
theorem cV:aB ["signs","kinds","aheads","blocks","bits","row"] ["signs"] (δ lQ):=Uk (by decide +kernel)
abbrev jB:Stmt:=top 74
theorem fH:aB ["kinds","signs","ranks","rank","kind"] ["kinds","signs"] (δ jB):=Uk (by decide +kernel)
abbrev jM:Stmt:=top 75
theorem vV:aB ["kind_count"] ["kind_count"] (δ jM):=Uk (by decide +kernel)
abbrev lN:Stmt:=top 76
theorem cR:aB ["ranks","kind_count","rows","order","k","bits"] ["ranks","kind_count"] (δ lN):=Uk (by decide +kernel)
abbrev wj:Stmt:=top 77
theorem rC:aB ["order","bits","noughts","ones"] ["order","bits"] (δ wj):=Uk (by decide +kernel)
abbrev nC:Stmt:=top 78
theorem fK:aB ["tables","look","levels","first","ahead"] ["tables","look"] (δ nC):=Uk (by decide +kernel)
abbrev jL:Stmt:=top 79
theorem iQ:aB ["level","at","bit","row","look"] ["level","at","bit"] (δ jL):=Uk (by decide +kernel)
abbrev jc:Stmt:=top 80
theorem uh:aB ["row"] ["row"] (δ jc):=Uk (by decide +kernel)
abbrev sU:Stmt:=top 81
theorem eG:aB ["tables","look","at","rank","place","level","bit"] ["tables","look","at"] (δ sU):=Uk (by decide +kernel)
abbrev lL:Stmt:=top 83
theorem xx:aB ["tables"] ["tables"] (δ lL):=Uk (by decide +kernel)
abbrev lK:Stmt:=top 84
theorem xQ:aB ["tables","node"] ["tables","node"] (δ lK):=Uk (by decide +kernel)
abbrev rA:Stmt:=top 85
theorem Eb:aB ["tables","look","at"] ["tables","look","at"] (δ rA):=Uk (by decide +kernel)
abbrev oW:Stmt:=top 86
theorem Dl:aB ["tables","look","node"] ["tables","look","node"] (δ oW):=Uk (by decide +kernel)
abbrev oR:Stmt:=top 87
theorem tR:aB ["tables","look","node","behind"] ["tables","look","node"] (δ oR):=Uk (by decide +kernel)
abbrev kO:Stmt:=top 88
theorem oG:aB ["tables","look","node","behind"] ["tables","look","node"] (δ kO):=Uk (by decide +kernel)
abbrev lH:Stmt:=top 89
theorem oH:aB ["tables","look","node","at"] ["tables","look","node"] (δ lH):=Uk (by decide +kernel)
abbrev jR:Stmt:=top 93
theorem iI:aB ["words","word","letter"] ["words"] (δ jR):=Uk (by decide +kernel)
abbrev gU:Stmt:=top 94
theorem fW:aB ["words","texts","word"] ["words"] (δ gU):=Uk (by decide +kernel)
abbrev pA:Stmt:=top 95
theorem di:aB ["words","texts","depths","letters","whole","word","ends"] ["words"] (δ pA):=Uk (by decide +kernel)
abbrev lD:Stmt:=top 96
theorem dY:aB ["words","parts","tree","letters","ends"] ["words"] (δ lD):=Uk (by decide +kernel)
abbrev gb:Stmt:=top 97
theorem pO:aB ["tables"] ["tables"] (δ gb):=Uk (by decide +kernel)
abbrev dO:Stmt:=top 98
theorem mH:aB ["tables"] ["tables"] (δ dO):=Uk (by decide +kernel)
abbrev mQ:Stmt:=top 99
theorem Ax:aB ["tables","look","node"] ["tables","look","node"] (δ mQ):=Uk (by decide +kernel)
abbrev jh:Stmt:=top 100
theorem ug:aB ["tables","look"] ["tables","look"] (δ jh):=Uk (by decide +kernel)
abbrev oY:Stmt:=top 101
theorem Dt:aB ["tables","look","node"] ["tables","look","node"] (δ oY):=Uk (by decide +kernel)
abbrev lE:Stmt:=top 102
theorem jF:aB ["tables","look","node","letter","young"] ["tables","look","node","letter"] (δ lE):=Uk (by decide +kernel)
abbrev rB:Stmt:=top 103
theorem lB:aB ["tables","look","text","nodes","letter","young"] ["tables","look","text"] (δ rB):=Uk (by decide +kernel)
abbrev qN:Stmt:=top 104
theorem wk:aB ["tables","look","text","nodes"] ["tables","look","text"] (δ qN):=Uk (by decide +kernel)
abbrev jD:Stmt:=top 105
theorem wF:aB ["tables","look","node"] ["tables","look","node"] (δ jD):=Uk (by decide +kernel)
abbrev fu:Stmt:=top 106
theorem cM:aB ["tables","look","text","nodes","last","young"] ["tables","look","text"] (δ fu):=Uk (by decide +kernel)
abbrev jN:Stmt:=top 107
theorem vX:aB ["tables","look","text"] ["tables","look","text"] (δ jN):=Uk (by decide +kernel)
abbrev j9:Stmt:=top 108
theorem jG:aB ["tables","look","text","node","ahead"] ["tables","look","text"] (δ j9):=Uk (by decide +kernel)
abbrev mC:Stmt:=top 110
theorem zP:aB ["_law_found"] ["_law_found"] (δ mC):=Uk (by decide +kernel)
abbrev mU:Stmt:=top 111
theorem dD:aB ["_law_number","_law_kinds","_law_first","_law_many","_law_word_here","_law_k","_law_at"] ["_law_number","_law_kinds","_law_first","_law_many"] (δ mU):=Uk (by decide +kernel)
abbrev o6:Stmt:=top 112
theorem jx:aB ["_law_cell","_law_words_here","_law_number","_law_way","_law_old"] ["_law_cell","_law_words_here"] (δ o6):=Uk (by decide +kernel)
abbrev m7:Stmt:=top 113
theorem dG:aB ["_law_script","_law_words_here","_law_room","_law_cell","_law_word_here"] ["_law_script"] (δ m7):=Uk (by decide +kernel)
abbrev oK:Stmt:=top 114
theorem fc:aB ["_law_cell","_law_words_here","_law_number","_law_old","_law_way","_law_at"] ["_law_cell","_law_words_here"] (δ oK):=Uk (by decide +kernel)
abbrev cO:Stmt:=top 115
theorem tD:aB ["_law_blocks","_law_seen","_law_told"] ["_law_blocks","_law_seen"] (δ cO):=Uk (by decide +kernel)
abbrev m5:Stmt:=top 116
theorem qb:aB ["_law_seen","_law_size","_law_number"] ["_law_seen","_law_size"] (δ m5):=Uk (by decide +kernel)
abbrev MJ:Stmt:=top 117
theorem jQ:aB ["_law_script","_law_words_here","_law_handed","_law_tables","_law_blocks","_law_seen","_law_look_here","_law_text_here","_law_found","_law_word_here"] ["_law_script"] (δ MJ):=Uk (by decide +kernel)
abbrev bw:Stmt:=(μ cC).getD 0 (.Pass (0,0,0,0))
abbrev aN:qw:=lamOf bw "look_from.<locals>.<lambda>" ["number"] ["look","first"]
theorem jZ:qj ["number","look","first"] aN:=(rfl,rfl,rfl,by decide +kernel,rfl,by decide +kernel,by decide +kernel,by decide +kernel,by decide +kernel)
theorem zM:Cg ["look","first"] "look_from" (δ cC) aN [0,1] (λL=>[L+1,L+2]):=(λ_ _ _=>rfl,λ_ _ _=>rfl,λ_ _ _=>rfl,λL=>by simp,λ_=>rfl,λL f c j a h=>match j,h with|0,h=>("look",0,by cases h;rfl,by decide +kernel,rfl,rfl)|1,h=>("first",1,by cases h;rfl,by decide +kernel,rfl,rfl)|j+2,h=>absurd h (by simp))
abbrev bT:Stmt:=(μ cz).getD 1 (.Pass (0,0,0,0))
abbrev aZ:qw:=lamOf bT "heap_look.<locals>.<lambda>" ["node"] ["nodes"]
theorem sG:qj ["node","nodes"] aZ:=(rfl,rfl,rfl,by decide +kernel,rfl,by decide +kernel,by decide +kernel,by decide +kernel,by decide +kernel)
theorem Aj:Cg ["tables","nodes"] "heap_look" (δ cz) aZ [1] (λL=>[L+1]):=(λ_ _ _=>rfl,λ_ _ _=>rfl,λ_ _ _=>rfl,λL=>by simp,λ_=>rfl,λL f c j a h=>match j,h with|0,h=>("nodes",1,by cases h;rfl,by decide +kernel,rfl,rfl)|j+1,h=>absurd h (by simp))
abbrev eX:Stmt:=(μ cO).getD 0 (.Pass (0,0,0,0))
abbrev bV:vI:=R6 eX "_law_look.<locals>._law_told" ["_law_number"] ["_law_seen","_law_blocks"]
theorem DP:vL ["_law_number","_law_seen","_law_blocks"] bV:=(rfl,rfl,rfl,by decide +kernel,rfl,by decide +kernel,by decide +kernel,by decide +kernel,by decide +kernel)
theorem Bd:QQ ["_law_blocks","_law_seen","_law_told"] "_law_look" (δ cO) bV 2 [1,0] (λL=>[L+2,L+1]):=(tD.nd,rfl,by decide +kernel,λ_ _ _=>rfl,λ_ _ _=>rfl,rfl,rfl,λ_ _ _=>rfl,λL=>by simp,λ_=>rfl,λL f c j a h=>match j,h with|0,h=>("_law_seen",1,by cases h;rfl,by decide +kernel,rfl,rfl,by decide)|1,h=>("_law_blocks",0,by cases h;rfl,by decide +kernel,rfl,rfl,by decide)|j+2,h=>absurd h (by simp),by decide,by decide)
structure FI(K:PySem.W.Frag)(n:Str)(st:Stmt)(f:Addr)(fd:FuncData):Prop where
 a:PySem.W.nsIn K mainGlobals n=some (some (.ref f))
 F:Va K n n st f fd
theorem Qm{C:List J->Prop}{a:List J}(c:a.length=1)(h:∀b,C [b]):C a:=match a,c with | [_],_=>h _
theorem UW{mg:Str->Option Value}{n :Str}{st:Stmt}{f:Addr}{fd:FuncData}(X:K.In h')(G:h'.Ns mainGlobals mg)(d:FI K n st f fd)(b:∀(kV c i:Value) (k:Option Addr) (e j:Value) (l:Value),bindArgs (PySem.W.fnOf n n (ν st) (μ st) (δ st) .none kV c i k e j) ([l],[])=pure (ahw [x] [l]):=by intros;exact rfl):Df K mg n st [x] f fd:=(d.F,d.F.binds (ps:=[x]) λkV c i k e j g m=>Qm (C:=λg=>bindArgs _ (g,[])=pure (ahw ([x]:List Str) g)) m (b kV c i k e j),PySem.W.mg_of X G d.a)
theorem KH{C:List J->Prop}{a:List J}(d:a.length=2)(h:∀c b,C [c,b]):C a:=match a,d with | [_,_],_=>h _ _
theorem U6{mg:Str->Option Value}{n :Str}{st:Stmt}{f:Addr}{fd:FuncData}(X:K.In h')(G:h'.Ns mainGlobals mg)(d:FI K n st f fd)(b:∀(kV c i:Value) (k:Option Addr) (e j:Value) (m l:Value),bindArgs (PySem.W.fnOf n n (ν st) (μ st) (δ st) .none kV c i k e j) ([m,l],[])=pure (ahw [x,qual] [m,l]):=by intros;exact rfl):Df K mg n st [x,qual] f fd:=(d.F,d.F.binds (ps:=[x,qual]) λkV c i k e j g o=>KH (C:=λg=>bindArgs _ (g,[])=pure (ahw ([x,qual]:List Str) g)) o (b kV c i k e j),PySem.W.mg_of X G d.a)
theorem Ss{C:List J->Prop}{a:List J}(e:a.length=3)(h:∀d c b,C [d,c,b]):C a:=match a,e with | [_,_,_],_=>h _ _ _
theorem U3{mg:Str->Option Value}{n :Str}{st:Stmt}{f:Addr}{fd:FuncData}(X:K.In h')(G:h'.Ns mainGlobals mg)(d:FI K n st f fd)(b:∀(kV c i:Value) (k:Option Addr) (e j:Value) (o m l:Value),bindArgs (PySem.W.fnOf n n (ν st) (μ st) (δ st) .none kV c i k e j) ([o,m,l],[])=pure (ahw [x,qual,name] [o,m,l]):=by intros;exact rfl):Df K mg n st [x,qual,name] f fd:=(d.F,d.F.binds (ps:=[x,qual,name]) λkV c i k e j g p=>Ss (C:=λg=>bindArgs _ (g,[])=pure (ahw ([x,qual,name]:List Str) g)) p (b kV c i k e j),PySem.W.mg_of X G d.a)
theorem RN{C:List J->Prop}{a:List J}(f:a.length=4)(h:∀e d c b,C [e,d,c,b]):C a:=match a,f with | [_,_,_,_],_=>h _ _ _ _
theorem Wb{mg:Str->Option Value}{n g:Str}{st:Stmt}{f:Addr}{fd:FuncData}(X:K.In h')(G:h'.Ns mainGlobals mg)(d:FI K n st f fd)(b:∀(kV c j:Value) (l:Option Addr) (e k:Value) (q p o m:Value),bindArgs (PySem.W.fnOf n n (ν st) (μ st) (δ st) .none kV c j l e k) ([q,p,o,m],[])=pure (ahw [x,qual,name,g] [q,p,o,m]):=by intros;exact rfl):Df K mg n st [x,qual,name,g] f fd:=(d.F,d.F.binds (ps:=[x,qual,name,g]) λkV c j l e k i r=>RN (C:=λi=>bindArgs _ (i,[])=pure (ahw ([x,qual,name,g]:List Str) i)) r (b kV c j l e k),PySem.W.mg_of X G d.a)
theorem R8{C:List J->Prop}{a:List J}(g:a.length=5)(h:∀f e d c b,C [f,e,d,c,b]):C a:=match a,g with | [_,_,_,_,_],_=>h _ _ _ _ _
theorem ZP{mg:Str->Option Value}{n i g:Str}{st:Stmt}{f:Addr}{fd:FuncData}(X:K.In h')(G:h'.Ns mainGlobals mg)(d:FI K n st f fd)(b:∀(kV c k:Value) (m:Option Addr) (e l:Value) (s r q p o:Value),bindArgs (PySem.W.fnOf n n (ν st) (μ st) (δ st) .none kV c k m e l) ([s,r,q,p,o],[])=pure (ahw [x,qual,name,i,g] [s,r,q,p,o]):=by intros;exact rfl):Df K mg n st [x,qual,name,i,g] f fd:=(d.F,d.F.binds (ps:=[x,qual,name,i,g]) λkV c k m e l j t=>R8 (C:=λj=>bindArgs _ (j,[])=pure (ahw ([x,qual,name,i,g]:List Str) j)) t (b kV c k m e l),PySem.W.mg_of X G d.a)
set_option genInjectivity false in
set_option genSizeOf false in
structure Ad where
 Ww:Addr
 Uv:Addr
 Wx:Addr
 Ut:Addr
 Wy:Addr
 VF:Addr
 afy:Addr
 aeV:FuncData
 adI:Addr
 ac3:FuncData
 aen:Addr
 adJ:FuncData
 afz:Addr
 aeW:FuncData
 aeX:Addr
 aeo:FuncData
 aeY:Addr
 aep:FuncData
 afA:Addr
 aeZ:FuncData
 ae0:Addr
 aeq:FuncData
 afB:Addr
 ae1:FuncData
 abJ:Addr
 aa4:FuncData
 aci:Addr
 abK:FuncData
 adK:Addr
 ZQ:FuncData
 ae2:Addr
 aer:FuncData
 ae3:Addr
 aes:FuncData
 adL:Addr
 ac4:FuncData
 aa6:Addr
 aaU:FuncData
 abL:Addr
 aa7:FuncData
 aa8:Addr
 aaV:FuncData
 aa9:Addr
 aaW:FuncData
 afP:Addr
 afC:FuncData
 aet:Addr
 adM:FuncData
 aeu:Addr
 adN:FuncData
 acj:Addr
 abM:FuncData
 afD:Addr
 ae4:FuncData
 ae5:Addr
 aev:FuncData
 ac5:Addr
 ack:FuncData
 adO:Addr
 ac6:FuncData
 adP:Addr
 ac7:FuncData
 aaI:Addr
 aaB:FuncData
 ae6:Addr
 aew:FuncData
 aaX:Addr
 aaJ:FuncData
 aba:Addr
 aaY:FuncData
 afE:Addr
 ae7:FuncData
 ae8:Addr
 aex:FuncData
 abN:Addr
 abb:FuncData
 ac8:Addr
 acl:FuncData
 acn:Addr
 abO:FuncData
 adQ:Addr
 ZR:FuncData
 afF:Addr
 ae9:FuncData
 ac9:Addr
 aco:FuncData
 abP:Addr
 abe:FuncData
 abQ:Addr
 abf:FuncData
 adR:Addr
 ada:FuncData
 abg:Addr
 aaZ:FuncData
 acp:Addr
 abR:FuncData
 abh:Addr
 aa0:FuncData
 afa:Addr
 aey:FuncData
 afb:Addr
 aez:FuncData
 abS:Addr
 abi:FuncData
 acq:Addr
 abT:FuncData
 adS:Addr
 adb:FuncData
 acr:Addr
 abU:FuncData
 adc:Addr
 acs:FuncData
 acu:Addr
 abV:FuncData
 acv:Addr
 abW:FuncData
 ade:Addr
 acw:FuncData
 afG:Addr
 afc:FuncData
 adT:Addr
 adf:FuncData
 acx:Addr
 abX:FuncData
 abY:Addr
 abj:FuncData
 afd:Addr
 aeA:FuncData
 adg:Addr
 acy:FuncData
 adh:Addr
 acz:FuncData
 afe:Addr
 aeB:FuncData
 aeC:Addr
 adU:FuncData
 aeD:Addr
 adV:FuncData
 adi:Addr
 acA:FuncData
 adk:Addr
 acB:FuncData
 acC:Addr
 abZ:FuncData
 abk:Addr
 aa1:FuncData
 aeE:Addr
 adW:FuncData
 adl:Addr
 acD:FuncData
 aa2:Addr
 aaK:FuncData
 aav:Addr
 aau:FuncData
 adX:Addr
 adm:FuncData
 ab0:Addr
 abl:FuncData
 aeF:Addr
 adY:FuncData
 adn:Addr
 acE:FuncData
 afg:Addr
 aeG:FuncData
 afh:Addr
 aeH:FuncData
 acF:Addr
 ab1:FuncData
 aaL:Addr
 aaC:FuncData
 acG:Addr
 ab2:FuncData
 ado:Addr
 acH:FuncData
 adZ:Addr
 adp:FuncData
 ad0:Addr
 adq:FuncData
 aeI:Addr
 ad1:FuncData
 ad2:Addr
 adt:FuncData
 aeJ:Addr
 ad3:FuncData
 aeK:Addr
 ZS:FuncData
 ad4:Addr
 adu:FuncData
 af5:Addr
 afU:FuncData
 t_BLOCK_BITS:Tok
 t_LETTERS:Tok
 t_MOST_BITS:Tok
 t_MOST_LETTERS:Tok
 t_MOST_NODES:Tok
 t_MOST_NUMBERS:Tok
 t_MOST_SIGNS:Tok
 U4:Addr
structure Tx(K:PySem.W.Frag)(mg:Str->Option Value)(a:Ad):Prop where
 afH:Df K mg "packed" vC ["bits"] a.afy a.aeV
 ZV:Df K mg "check_row" nQ ["bits"] a.adI a.ac3
 aeL:Df K mg "block_of" o5 ["bits"] a.aen a.adJ
 YH:Df K mg "bit_in" ww ["block","k"] a.afz a.aeW
 YJ:Df K mg "bits_of" sW ["block","upto"] a.aeX a.aeo
 ZW:Df K mg "ones_in" rR ["block","upto"] a.aeY a.aep
 afI:Df K mg "one_in" vJ ["block","nth"] a.afA a.aeZ
 YK:Df K mg "nets_of" qU ["block","upto"] a.ae0 a.aeq
 afJ:Df K mg "low_in" vZ ["block","upto"] a.afB a.ae1
 ab3:Df K mg "first_low_in" iK ["block","start","stop","goal"] a.abJ a.aa4
 acK:Df K mg "last_low_in" jP ["block","start","stop","goal"] a.aci a.abK
 YL:Df K mg "look_from" cC ["look","first"] a.adK a.ZQ
 afi:Df K mg "heap_of" qM ["numbers"] a.ae2 a.aer
 Xg:Df K mg "size_of" rW ["many"] a.ae3 a.aes
 ad6:Df K mg "lesser_of" mL ["one","other"] a.adL a.ac4
 abm:Df K mg "first_at_most" gG ["many","look","start","goal"] a.aa6 a.aaU
 ab4:Df K mg "last_at_most" jj ["many","look","stop","goal"] a.abL a.aa7
 ZX:Df K mg "place_beneath" gK ["size","look","node","goal","side"] a.aa8 a.aaV
 abn:Df K mg "check_stretch" gH ["many","start","stop"] a.aa9 a.aaW
 ZZ:Df K mg "cover" Ba ["many","start","stop"] a.afP a.afC
 YM:Df K mg "kept_row" o9 ["bits"] a.aet a.adM
 aeM:Df K mg "ahead_of" pC ["blocks"] a.aeu a.adN
 Xh:Df K mg "check_place" jU ["at","most"] a.acj a.abM
 Xi:Df K mg "bit_at" wN ["tables","look","at"] a.afD a.ae4
 W2:Df K mg "ones_at" rP ["tables","look","at"] a.ae5 a.aev
 adw:Df K mg "noughts_at" lA ["tables","look","at"] a.ac5 a.ack
 ad7:Df K mg "one_place" mJ ["tables","look","nth"] a.adO a.ac6
 ad8:Df K mg "check_nth" m9 ["nth","many"] a.adP a.ac7
 aaN:Df K mg "last_no_greater" fj ["numbers","goal"] a.aaI a.aaB
 afj:Df K mg "is_tree" rF ["bits"] a.ae6 a.aew
 aa3:Df K mg "check_brackets" gh ["bits"] a.aaX a.aaJ
 abo:Df K mg "kept_brackets" gQ ["bits"] a.aba a.aaY
 afK:Df K mg "low_of" wI ["tables","number","block"] a.afE a.ae7
 YQ:Df K mg "base_of" qZ ["tables","number"] a.ae8 a.aex
 ab5:Df K mg "start_within" iJ ["number","at"] a.abN a.abb
 YS:Df K mg "end_within" lO ["number","upto"] a.ac8 a.acl
 Z0:Df K mg "block_count" jT ["tables"] a.acn a.abO
 Z1:Df K mg "heap_look" cz ["tables"] a.adQ a.ZR
 Z2:Df K mg "height" wD ["tables","look","at"] a.afF a.ae9
 adx:Df K mg "low_behind" kI ["tables","look","at","goal"] a.ac9 a.aco
 Z3:Df K mg "first_within" iW ["tables","look","number","at","goal"] a.abP a.abe
 Z4:Df K mg "place_of_bit" iV ["number","within"] a.abQ a.abf
 ad9:Df K mg "low_ahead" mq ["tables","look","at","goal"] a.adR a.ada
 abp:Df K mg "last_low_upto" gO ["tables","look","upto","goal"] a.abg a.aaZ
 Z5:Df K mg "last_within" jz ["tables","look","number","upto","goal"] a.acp a.abR
 Z6:Df K mg "check_bracket" gR ["tables","look","at","bit"] a.abh a.aa0
 Z7:Df K mg "closing" qH ["tables","look","at"] a.afa a.aey
 afk:Df K mg "opening" qY ["tables","look","at"] a.afb a.aez
 ab6:Df K mg "check_depths" jd ["depths"] a.abS a.abi
 acM:Df K mg "brackets_of" jJ ["depths"] a.acq a.abT
 aeb:Df K mg "kept_tree" m8 ["depths"] a.adS a.adb
 acN:Df K mg "check_signs" jO ["signs"] a.acr a.abU
 ady:Df K mg "kept_signs" lQ ["signs"] a.adc a.acs
 acO:Df K mg "ranks_among" jB ["kinds","signs"] a.acu a.abV
 acP:Df K mg "level_count" jM ["kind_count"] a.acv a.abW
 adz:Df K mg "level_rows" lN ["ranks","kind_count"] a.ade a.acw
 afL:Df K mg "parted" wj ["order","bits"] a.afG a.afc
 aec:Df K mg "levels_of" nC ["tables","look"] a.adT a.adf
 acQ:Df K mg "place_below" jL ["level","at","bit"] a.acx a.abX
 ab7:Df K mg "nought_count" jc ["row"] a.abY a.abj
 afl:Df K mg "sign_at" sU ["tables","look","at"] a.afd a.aeA
 adA:Df K mg "node_count" lL ["tables"] a.adg a.acy
 adB:Df K mg "check_node" lK ["tables","node"] a.adh a.acz
 afm:Df K mg "node_at" rA ["tables","look","at"] a.afe a.aeB
 YT:Df K mg "place_of" oW ["tables","look","node"] a.aeC a.adU
 aeN:Df K mg "first_of" oR ["tables","look","node"] a.aeD a.adV
 adC:Df K mg "younger_of" kO ["tables","look","node"] a.adi a.acA
 adD:Df K mg "beneath_of" lH ["tables","look","node"] a.adk a.acB
 acR:Df K mg "check_words" jR ["words"] a.acC a.abZ
 abq:Df K mg "beginnings_of" gU ["words"] a.abk a.aa1
 aeO:Df K mg "parts_of" pA ["words"] a.aeE a.adW
 adE:Df K mg "kept_store" lD ["words"] a.adl a.acD
 Z8:Df K mg "blocks_of_tree" gb ["tables"] a.aa2 a.aaK
 aaz:Df K mg "blocks_of_letters" dO ["tables"] a.aav a.aau
 Z9:Df K mg "letter_of" mQ ["tables","look","node"] a.adX a.adm
 ab8:Df K mg "look_at_ends" jh ["tables","look"] a.ab0 a.abl
 YW:Df K mg "words_to" oY ["tables","look","node"] a.aeF a.adY
 abr:Df K mg "young_from" lE ["tables","look","node","letter"] a.adn a.acE
 aed:Df K mg "line_of" rB ["tables","look","text"] a.afg a.aeG
 afn:Df K mg "node_of" qN ["tables","look","text"] a.afh a.aeH
 aaS:Df K mg "node_behind" jD ["tables","look","node"] a.acF a.ab1
 aaO:Df K mg "first_not_ahead" fu ["tables","look","text"] a.aaL a.aaC
 acS:Df K mg "words_ahead" jN ["tables","look","text"] a.acG a.ab2
 adF:Df K mg "stretch_of" j9 ["tables","look","text"] a.ado a.acH
 YX:Df K mg "_law_whole" mC ["_law_found"] a.adZ a.adp
 Wz:Df K mg "_law_spelt" mU ["_law_number","_law_kinds","_law_first","_law_many"] a.ad0 a.adq
 aeP:Df K mg "_law_word" o6 ["_law_cell","_law_words_here"] a.aeI a.ad1
 aee:Df K mg "_law_words" m7 ["_law_script"] a.ad2 a.adt
 aeQ:Df K mg "_law_text" oK ["_law_cell","_law_words_here"] a.aeJ a.ad3
 aeR:Df K mg "_law_look" cO ["_law_blocks","_law_seen"] a.aeK a.ZS
 aef:Df K mg "_law_there" m5 ["_law_seen","_law_size"] a.ad4 a.adu
 aga:Df K mg "law" MJ ["_law_script"] a.af5 a.afU
 af6:mg "bool" = none
 Xj:mg "enumerate" = none
 agb:mg "int" = none
 abt:mg "isinstance" = none
 Ur:mg "len" = none
 YZ:mg "list" = none
 agc:mg "max" = none
 afV:mg "min" = none
 Xk:mg "range" = none
 acU:mg "reversed" = none
 afW:mg "set" = none
 aeT:mg "sorted" = none
 af7:mg "sum" = none
 XS:mg "tuple" = none
 afX:mg "zip" = none
 Vo:mg "BLOCK_BITS" = some (.int 32 a.t_BLOCK_BITS)
 aeh:mg "LETTERS" = some (.str "abcdefghijklmnopqrstuvwxyz" a.t_LETTERS)
 afr:mg "MOST_BITS" = some (.int 4096 a.t_MOST_BITS)
 ael:mg "MOST_LETTERS" = some (.int 40 a.t_MOST_LETTERS)
 afo:mg "MOST_NODES" = some (.int 2048 a.t_MOST_NODES)
 aem:mg "MOST_NUMBERS" = some (.int 4096 a.t_MOST_NUMBERS)
 afp:mg "MOST_SIGNS" = some (.int 4096 a.t_MOST_SIGNS)
 af8:mg "NoNode" = some (.ref a.U4)
 afT:Exc K mg "NoNode" a.U4
 af9:TV K a.U4
 Y0:PySem.W.kitOne K (.ref a.U4) (.ref a.U4)=some true
 Y4:PySem.W.kitOne K (.ref a.U4) (.type "ValueError")=some true
 afs:a.ZQ.code=.ref a.Ww
 aft:a.ZR.code=.ref a.Wx
 afN:a.ZS.code=.ref a.Wy
structure Bs(mg:Str->Option Value)(base:Heap)(a:Ad):Prop where
 bm:BMain mg base
 afu:PySem.W.CodeHd base a.Ww a.Uv
 afv:PySem.W.CodeHd base a.Wx a.Ut
 afO:PySem.W.CodeHd base a.Wy a.VF
 abu:a.Uv≠a.Ut
 abH:a.Uv≠a.VF
 abI:a.Ut≠a.VF
theorem Du(a:List (Key×V))(k:Key)(v:V):(putK a k v).length<=a.length+1:=by
 cases h:iy a k with
 | none=>rw[Ku v h,aaf];exact aad _
 | some x =>
  unfold putK;rw[jW,h];simp
theorem iY.out{f b:Addr}{c:vI}{cs:List Addr}{Um:List V}{xs:List V}(h:iY H f c cs Um)(e:H b=some (.lst xs)):b∉cs:=λz=>by
 obtain⟨i,d⟩:=aaM z;obtain⟨g,v,u,_,a,_⟩:=h.cells i b d;rw[e]at a;cases a
theorem TabAt.same{H':Hp}{pos:Pos}{q:Str}(h:TabAt H a pos q)(s:aQ H H'):TabAt H' a pos q:=by
 obtain⟨d,k,j,b⟩:=h;exists d,s _ _ k,j;rcases b with b|⟨l,e,c,t,i,g,f⟩
 ·exact .inl b
 ·exact .inr (l,e,c,t,i,s _ _ g,f)
def nu(P:Addr)(H H':Hp):Prop:=∀b o,H b=some o->b≠P->H' b=some o
theorem TabAt.ex{pos:Pos}{q:Str}(h:TabAt H a pos q):∃o,H a=some o:=by
 obtain⟨c,b,_⟩:=h;exact(_,b)
theorem TabAt.ne{b:Addr}{pos:Pos}{q:Str}{o:HO}(h:TabAt H a pos q)(e:H b=some o)(n:∀ps,o ≠ .Uq ps):b≠a:=λz=>by
 obtain⟨ps,c,_⟩:=h;rw[z,c]at e;cases e;exact n _ rfl
theorem TabAt.upd{H:Hp}{P x:Addr}{pos:Pos}{q:Str}{xs ys:List V}(h:TabAt H P pos q)(e:H x=some (.lst xs)):TabAt (L2.upd H x (.lst ys)) P pos q:=by
 obtain⟨i,r,p,a⟩:=h;have d:∀b o,H b=some o->(∀f,o ≠ .lst f)->L2.upd H x (.lst ys) b=some o:=λb o c n=>by
  rw[aJ (λz=>by rw[z,e]at c;cases c;exact n _ rfl)];exact c
 exists i,d _ _ r nofun,p;rcases a with a|⟨s,j,g,t,m,l,k⟩
 ·exact .inl a
 ·exact .inr (s,j,g,t,m,d _ _ l nofun,k)
theorem T3{p:Addr}{H':Hp}{ps:Array Value}{xs:List V}(s:nu a H H')(b:H a=some (.Uq ps))(h:My K H p xs):My K H' p xs:=by
 rcases h with (e|⟨o,e⟩) | h
 ·exact .inl (.inl (s _ _ e λz=>by rw[z,b]at e;cases e))
 ·exact .inl (.inr (o,s _ _ e λz=>by rw[z,b]at e;cases e))
 ·exact .inr h
theorem Od{n j:Nat}(h:j<n):VM n (j:Int)=some j:=by
 unfold VM;simp;lia
theorem G4(k:Nat)(v:Int):(aaF k [V.int v]).flatten=(aaF k v).map V.int:=by
 induction k with
 | zero=>rfl
 | succ k a=>rw[agk,agu,a,agk];rfl
structure LK where
 f:Addr
 wr:Option Addr
 bl:Addr
 off:Nat
 all:List V
def LK.put(L:LK)(H:Hp)(a:List Int):Hp:=match L.wr with
 | some b=>upd H b (.lst (a.map V.int))
 | none=>H
theorem J5{cs:List Addr}{b:Addr}{o:HO}(h:hide H cs b=some o):b∉cs/\H b=some o:=by
 by_cases z:b∈cs
 ·rw[nU z]at h;cases h
 ·rw[bx z]at h;exact(z,h)
def Vk(H:Hp)(L:LK):Prop:=L.off=0 /\ ∃(a:Addr) (b:List Addr),L.wr=some a/\iY H L.f bV b [.ref a,.ref L.bl]
inductive Wc(R:Hp->LK->Prop)(H:Hp)(L:LK):Prop
 | mk (g:Addr) (o:Nat) (cs:List Addr) (_:o<=L.off) (_:dM H L.f aN cs [.ref g,.int (o:Int)]) (_:R (hide H cs) (g,L.wr,L.bl,L.off - o,L.all))
def Keeps(R:Hp->LK->Prop):Prop:=∀(H a:Hp) (L:LK),R H L->(∀b o,H b=some (aO b o)->a b=some (aO b o))->R a L
theorem Vk.keeps:Keeps Vk:=λH f L h s=>by
 obtain⟨c,a,d,b,e⟩:=h;exact(c,a,d,b,e.same s)
theorem Wc.keeps{R:Hp->LK->Prop}(k:Keeps R):Keeps (Wc R):=λH i L h s=>by
 obtain⟨g,o,f,c,a,d⟩:=h;refine(g,o,f,c,a.same s,k _ _ _ d λb u e=>?_);obtain⟨z,e⟩:=J5 e;rw[bx z];exact s b u e
theorem Keeps.hid{R:Hp->LK->Prop}(k:Keeps R){H':Hp}{L:LK}{cs:List Addr}(h:R H L)(f:∀b∈cs,H b=none)(s:∀b o,H b=some (aO b o)->H' b=some (aO b o)):R (hide H' cs) L:=k _ _ _ h λb o e=>by
 rw[bx λz=>by rw[f b z]at e;cases e];exact s b o e
def Vp:Hp->LK->Prop:=Wc Vk
def WD:Hp->LK->Prop:=Wc Vp
theorem Vp.keeps:Keeps Vp:=Wc.keeps Vk.keeps
theorem WD.keeps:Keeps WD:=Wc.keeps Vp.keeps
def HasFn(R:Hp->LK->Prop):Prop:=∀(H:Hp) (L:LK),R H L->(∃o b,H L.f=some (aO L.f o)/\o.data=.func b) /\ ∃a,L.wr=some a
theorem Vk.hasFn:HasFn Vk:=λH L h=>by
 obtain⟨_,a,k,b,d⟩:=h;obtain⟨l,e,i,f,j,g,t,c,_⟩:=d.ex;exact((_,_,c,rfl),a,b)
theorem Wc.hasFn{R:Hp->LK->Prop}(k:HasFn R):HasFn (Wc R):=λH L h=>by
 obtain⟨g,o,j,_,c,a⟩:=h;obtain⟨l,f,d,i,e,t,b,_⟩:=c.ex;exact((_,_,b,rfl),(k _ _ a).2)
theorem Vp.hasFn:HasFn Vp:=Wc.hasFn Vk.hasFn
theorem WD.hasFn:HasFn WD:=Wc.hasFn Vp.hasFn
def gY(H:Hp)(L:LK):Prop:=Vk H L\/Vp H L\/WD H L
theorem gY.both{L:LK}(h:gY H L):(∃o fd,H L.f=some (aO L.f o)/\o.data=.func fd) /\ ∃sn,L.wr=some sn:=by
 rcases h with h|h|h
 ·exact Vk.hasFn _ _ h
 ·exact Vp.hasFn _ _ h
 ·exact WD.hasFn _ _ h
theorem gY.fn{L:LK}(h:gY H L):∃o fd,H L.f=some (aO L.f o)/\o.data=.func fd:=h.both.1
theorem gY.kept{H':Hp}{L:LK}(h:gY H L)(s:∀b o,H b=some o->(∀ps,o ≠ .Uq ps)->(∀ps,o ≠ .lst ps)->H' b=some o):gY H' L:=by
 rcases h with h|h|h
 ·exact .inl (Vk.keeps _ _ _ h λb o e=>s _ _ e nofun nofun)
 ·exact .inr (.inl (Vp.keeps _ _ _ h λb o e=>s _ _ e nofun nofun))
 ·exact .inr (.inr (WD.keeps _ _ _ h λb o e=>s _ _ e nofun nofun))
theorem gY.same{H':Hp}{L:LK}(h:gY H L)(s:aQ H H'):gY H' L:=h.kept λb o e _ _=>s _ _ e
theorem gY.upd{L:LK}{b:Addr}{xs ys:List V}(h:gY H L)(e:H b=some (.lst xs)):gY (L2.upd H b (.lst ys)) L:=h.kept λc o a _ n=>by
 rw[aJ (λz=>by rw[z,e]at a;cases a;exact n _ rfl)];exact a
structure Asks(H:Hp)(L:LK)(ss:List Int):Prop where
 look:gY H L
 seen:∀sn,L.wr=some sn->H sn=some (.lst (ss.map V.int))/\sn≠L.bl
 nodes:H L.bl=some (.lst L.all)
 few:ss.length<=16000000
theorem Asks.same{H H':Hp}{L:LK}{a:List Int}(h:Asks H L a)(s:aQ H H'):Asks H' L a:=(h.look.same s,λb e=>(s _ _ (h.seen b e).1,(h.seen b e).2),s _ _ h.nodes,h.few)
theorem LK.put_none{L:LK}(e:L.wr=none)(H:Hp)(a:List Int):L.put H a=H:=by unfold LK.put;rw[e]
theorem LK.put_some{L:LK}{sn:Addr}(e:L.wr=some sn)(H:Hp)(a:List Int):L.put H a=upd H sn (.lst (a.map V.int)):=by unfold LK.put;rw[e]
theorem LK.put_ne{L:LK}{b:Addr}(n:L.wr≠some b)(H:Hp)(a:List Int):L.put H a b=H b:=by
 cases e:L.wr with
 | none=>rw[LK.put_none e]
 | some c=>rw[LK.put_some e,aJ (λz=>n (by rw[e,z]))]
theorem Asks.id{L:LK}(h:Asks H L d):L.put H d=H:=by
 cases e:L.wr with
 | none=>rw[LK.put_none e]
 | some a=>rw[LK.put_some e];exact Rt (h.seen a e).1
theorem Asks.putN{L:LK}{tt:List Int}{b:Addr}{o:HO}(h:Asks H L d)(e:H b=some o)(n:∀xs,o ≠ .lst xs):L.put H tt b=some o:=by
 rw[LK.put_ne (λz=>?_)]
 ·exact e
 ·rw[(h.seen b z).1]at e;cases e;exact n _ rfl
theorem Asks.putT{L:LK}{tt:List Int}{b:Addr}{xs:List V}(h:Asks H L d)(e:H b=some (.tup xs)):L.put H tt b=some (.tup xs):=h.putN e nofun
theorem Asks.put{L:LK}{tt:List Int}(h:Asks H L d)(b:tt.length<=16000000):Asks (L.put H tt) L tt:=by
 cases e:L.wr with
 | none =>
  rw[LK.put_none e];exact(h.look,λa z=>(by rw[e]at z;cases z),h.nodes,b)
 | some a =>
  obtain⟨f,c⟩:=h.seen a e;rw[LK.put_some e];refine(h.look.upd f,λg z=>?_,by rw[aJ (ags c)];exact h.nodes,b);rw[e]at z;cases z;exact(au,c)
theorem Asks.more{L:LK}{tt:List Int}(h:Asks H L d)(a:tt.length<=16000000):Asks (L.put H tt) L tt:=h.put a
inductive PX(f:Addr)(vs:List V)(H:Hp)(Q:VK)(_e1:XK):Prop
 | mk (L:LK) (ss:List Int) (n:Nat) (x:V) (_:f=L.f) (_:vs=[.int (n:Int)]) (_:Asks H L ss) (_:ss.length<16000000) (_:L.all[L.off+n]?=some x) (_:Q x (L.put H (ss++[((L.off+n:Nat):Int)])))
section
variable{P:Program}{a:Ad}
theorem Ni(x:Int):Builtin.bitAnd x 1=x%2:=by
 unfold Builtin.bitAnd;by_cases b:0<=x
 ·simp[b];lia
 ·simp[b];unfold Builtin.bitNot;lia
inductive J1(vs:List V)(H:Hp)(Q:VK)(_e1:XK):Prop
 | mk (b k:Int) (_:vs=[.int b,.int k]) (_:0<=k) (_:Q (.int (bit b k.toNat)) H)
theorem qL(T:Tx K mg a):aV P w K mg base Ui 1 a.afz a.aeW ["block","k"] J1:=by
 refine T.YH.F.Ul JR λf A c s H g Q E i h=>?_;obtain⟨b,k,rfl,d,q⟩:=h;exists _,(aq (aD (aC Ru (aC RK (pv 0) (pv 1)) ao)));exists _,rfl,_,rfl,_,_,rfl,rfl,d,_,_,rfl,rfl;have e:Builtin.bitAnd (b / 2^k.toNat) 1=bit b k.toNat:=Ni _;show Q (.int (Builtin.bitAnd (b / 2^k.toNat) 1)) H;rw[e];exact q
inductive FT(vs:List V)(H:Hp)(Q:VK)(_e1:XK):Prop
 | mk (b n:Int) (_:vs=[.int b,.int n]) (_:0<=n) (_:n<=32) (_:∀r,H r=none->Q (.ref r) (upd H r (.lst ((bits b n.toNat).map V.int))))
theorem oZ(T:Tx K mg a):aV P w K mg base Ui 2 a.aeX a.aeo ["block","upto"] FT:=by
 refine T.YJ.F.Ul Fl λf A c s H g Q E d h=>?_;obtain⟨b,n,rfl,m,l,q⟩:=h;exists _,(aq (aD (jy rfl (bZ.one (j:=0) rfl (ag1 rfl) rfl rfl (ag1 rfl)) (yt rfl T.Xk (aa (pv 1) ak)) (λ_ _ _ _=>fL) (λ_ _ _ _=>(aF T.YH (qL T) d (aa (pv 1) (aa (pv 0) ak)))))));refine(_,rfl,n,rfl,by lia,by lia,?_);refine J3 (λj=>bit b j) (by rw[sizeLine_eq];lia) (λ_ _ _ q=>q) (λj o Q k i q=>(_,rfl,_,rfl,_,_,rfl,by lia,?_)) λD e=>q D e;rw[show ((0:Int)+(j:Int)).toNat=j from by lia];exact q
inductive Ez(vs:List V)(H:Hp)(Q:VK)(_e1:XK):Prop
 | mk (b n:Int) (_:vs=[.int b,.int n]) (_:0<=n) (_:n<=32) (_:∀H',aQ H H'->Q (.int (ones b n.toNat)) H')
theorem wL(T:Tx K mg a):aV P w K mg base Ui 3 a.aeY a.aep ["block","upto"] Ez:=by
 refine T.ZW.F.Ul Es λi A d s H j Q E e h=>?_;obtain⟨b,n,rfl,g,f,q⟩:=h;exists _,(aq (aD (aK (By rfl) rfl T.af7 Tw.K1 (aa (aF T.YJ (oZ T) e (aa (pv 0) (aa (pv 1) ak))) ak))));exact(_,rfl,_,rfl,b,n,rfl,g,f,λr c=>(r,bits b n.toNat,rfl,My.of au,q _ (az c _)))
inductive Iu(vs:List V)(H:Hp)(Q:VK)(_e1:XK):Prop
 | mk (b t:Int) (_:vs=[.int b,.int t]) (_:(∀H',aQ H H' -> ∀k:Nat,k<32->bit b k=1->ones b k=t->Q (.int (k:Int)) H')) (_:∀H',aQ H H'->(∀k:Nat,k<32 -> ¬(bit b k=1/\ones b k=t))->Q .non H')
theorem HY(T:Tx K mg a):aV P w K mg base Ui 3 a.afA a.aeZ ["block","nth"] Iu:=by
 refine T.afI.F.Ul j4 λU A G s H W Q E N h=>?_;obtain⟨b,t,rfl,M,L⟩:=h;refine(_,(aj (aA 2 j4.nd ao)
  (aj (bJ PassesOwn.never rfl (uN rfl T.Xj (aa (aF T.YJ (oZ T) N (aa (pv 0) (aa (bD (v:=.int 32) rfl T.Vo (_,rfl)) ak))) ak)) (nA rfl (bW (aW 3 j4.nd) (bW (aW 4 j4.nd) jl))) (aj (aX (PW.pt (iD (aG dN (pv 4) ao) (ir (aG dN (pv 2) (pv 1))))) (aq (aD (pv 3))) aM)
  (aq (aA 2 j4.nd (aC bh (pv 2) (pv 4))))))
  (aq (aD eV)))),?_)
 refine(_,rfl,b,32,rfl,by decide,by decide,λr m=>(r,_,rfl,My.of au,?_));refine vy (xs:=(bits b 32).map V.int) (λi n e=>(∃k o,n=[some (.int b),some (.int t),some (.int (ones b i)),k,o])/\aQ (upd H r (.lst ((bits b 32).map V.int))) e /\ ∀j:Nat,j<i -> ¬(bit b j=1/\ones b j=t)) ?_ ?_ ?_ ?_
 ·exact((none,none,rfl),aQ.refl _,λj I=>absurd I (agU _))
 ·rintro i n e y ⟨_,f,_⟩;exact My.of (f _ _ au)
 ·rintro i x n e p u ⟨⟨k,o,rfl⟩,f,q⟩ O;have y:i<32:=by
   have:=(aab.mp u).1;rw[aaa,gA]at this;exact this
  have S:x=.int (bit b i):=by
   rw[aah,vK y]at u;exact(aao u).symm
  subst S;have g:aQ (upd H r (.lst ((bits b 32).map V.int))) (upd e p (.tup [.int (i:Int),.int (bit b i)])):=f.trans (az O _);have D:=(az m (.lst ((bits b 32).map V.int))).trans g;have next:(∀j:Nat,j<i+1 -> ¬(bit b j=1/\ones b j=t)) ↔ ¬(bit b i=1/\ones b i=t):=by
   refine(λh=>h i (agK _),λh j I=>?_);rcases aaq j i with l|l
   ·exact q j l
   ·have:j=i:=by lia
    subst this;exact h
  have J:¬(bit b i=1/\ones b i=t)->(∃k o,[some (V.int b),some (V.int t),some (V.int (ones b i+bit b i)),some (V.int (i:Int)),some (V.int (bit b i))]=[some (.int b),some (.int t),some (.int (ones b (i+1))),k,o]) /\
    aQ (upd H r (.lst ((bits b 32).map V.int))) (upd e p (.tup [.int (i:Int),.int (bit b i)])) /\ ∀j:Nat,j<i+1 -> ¬(bit b j=1/\ones b j=t):=λh =>
   ((_,_,by rw[iC]),g,next.mpr h)
  exists p,_,rfl,Uj.of au,rfl,_,_,rfl,_,_,rfl,rfl;exists _,rfl,rfl,_,rfl;refine bF (λc=>?_) (λc=>?_)
  ·have C:V.int (bit b i)=V.int 1:=of_decide_eq_true c;exists _,rfl,_,rfl,rfl,_,rfl;refine bF (λd=>?_) (λd=>?_)
   ·have B:V.int (ones b i)=V.int t:=of_decide_eq_true d;exact(_,rfl,M _ D i y (V.int.inj C) (V.int.inj B))
   ·have B:¬V.int (ones b i)=V.int t:=λz=>d (decide_eq_true z);exact(_,rfl,_,rfl,_,_,rfl,rfl,J λz=>B (congrArg V.int z.2))
  ·have C:¬V.int (bit b i)=V.int 1:=λz=>c (decide_eq_true z);exact dI (_,rfl,_,rfl,_,_,rfl,rfl,J λz=>C (congrArg V.int z.1))
 ·rintro n e ⟨_,f,q⟩;refine L _ ((az m _).trans f) λk R=>q k ?_;rw[aaa,gA];exact R
inductive CK(K:PySem.W.Frag)(vs:List V)(H:Hp)(Q:VK)(_e1:XK):Prop
 | mk (p:Addr) (ns:List Int) (_:vs=[.ref p]) (_:My K H p (ns.map V.int)) (_:Q (.int (blk ns)) H)
theorem De(T:Tx K mg a):aV P w K mg base Ui 1 a.aen a.adJ ["bits"] (CK K):=by
 refine T.aeL.F.Ul ju λt A g s H u Q E v h=>?_;obtain⟨p,b,rfl,l,q⟩:=h;refine(_,(aj (aA 1 ju.nd ao)
  (aj (bJ PassesOwn.never rfl (Nm rfl T.acU (aa (pv 0) ak) Tw.nM) (aW 2 ju.nd) (aq (aA 1 ju.nd (aC bh (aC cI ao (pv 1)) (pv 2)))))
  (aq (aD (pv 1))))),?_)
 exists _,rfl,p,_,rfl,l;refine GP (xs:=b.map V.int) (λi d f=>(∃k,d=[some (.ref p),some (.int (blk (b.drop (b.length - i)))),k])/\f=H) ?_ ?_ ?_ ?_
 ·refine((none,?_),rfl);rw[ag7,ahP];rfl
 ·rintro i d f _ ⟨_,rfl⟩;exact l
 ·rintro i x d f n m ⟨⟨k,rfl⟩,rfl⟩;obtain⟨c,j,rfl⟩:=int_at m;rw[aaa]at n j;refine(_,rfl,_,_,rfl,rfl,.inl (by decide,by decide),_,rfl,_,_,rfl,rfl,(some (.int c),?_),rfl);have e:b.drop (b.length - (i+1))=c::b.drop (b.length - i):=by
   have r:b.length - (i+1)=b.length - 1 - i:=by lia
   have o:b.length - i=b.length - 1 - i+1:=by lia
   rw[r,o,acL (by lia)];congr 1;have:=aab.mp j;exact this.2
  rw[e];rfl
 ·rintro d f ⟨⟨k,rfl⟩,rfl⟩;rw[aaa,ahn,aha];exact(_,rfl,q)
inductive Mm(vs:List V)(H:Hp)(Q:VK)(_e1:XK):Prop
 | mk (i:Int) (_:vs=[.int i]) (_:Q (.bl true) H)
theorem kj(T:Tx K mg a):aV P w K mg base Ui 1 a.adZ a.adp ["_law_found"] Mm:=by
 refine T.YX.F.Ul zP λc A b s H d Q E e h=>?_;obtain⟨i,rfl,q⟩:=h
 exists _,(aq (aD (Ei (aK vf rfl T.abt Tw.jA (aa (pv 0) (aa (zV (v:=.ty "int") rfl T.agb Tw.Ry rfl) ak))) (Ep (QD (aK vf rfl T.abt Tw.jA (aa (pv 0) (aa (zV (v:=.ty "bool") rfl T.af6 Tw.NT rfl) ak))))))))
 refine(_,rfl,_,"int",_,true,rfl,.int i,rfl,true,rfl,il ?_)
 exact(_,rfl,_,"bool",_,false,rfl,.int i,rfl,false,rfl,q)
inductive zL(K:PySem.W.Frag)(vs:List V)(H:Hp)(Q:VK)(_e1:XK):Prop
 | mk (p:Addr) (ns:List Int) (_:vs=[.ref p]) (_:My K H p (ns.map V.int)) (_:ns.length<=4096) (_:bc ns) (_:Q .non H)
theorem qx(T:Tx K mg a):aV P w K mg base Ui 1 a.adI a.ac3 ["bits"] (zL K):=by
 refine T.ZV.F.Ul qd λn A f s H o Q E r h=>?_;obtain⟨p,g,rfl,e,t,m,q⟩:=h;refine(_,(aj (aX (aG iH (aK aL rfl T.Ur Tw.aY (aa (pv 0) ak)) (bD (v:=.int 4096) rfl T.afr (_,rfl))) (aq bY) aM)
  (aq (bJ PassesOwn.never rfl (bK (pv 0)) (aW 1 qd.nd) (aq (aX (PW.pt (iD (aG pQ (pv 1) ao) (ir (aG pQ (pv 1) ao)))) (aq bY) aM))))),?_)
 refine(_,rfl,p,_,rfl,.inl e,_,_,rfl,rfl,_,rfl,bF (λc=>?_) λ_=>?_)
 ·have c:=of_decide_eq_true c;rw[aaa]at c;lia
 exists _,rfl,p,rfl,(_,e);refine cu (xs:=g.map V.int) (λi b d=>(∃k,b=[some (.ref p),k])/\d=H) ((none,rfl),rfl) ?_ ?_ ?_
 ·rintro i b d _ ⟨_,rfl⟩;exact e
 ·rintro i x b d j ⟨⟨k,rfl⟩,rfl⟩;obtain⟨c,l,rfl⟩:=int_at j;rcases m c (aag l)with rfl|rfl
  ·exact(_,rfl,rfl,_,rfl,qy rfl (dI ((_,rfl),rfl)))
  ·refine(_,rfl,rfl,_,rfl,bF (λ_=>(_,rfl,rfl,_,rfl,qy rfl ((_,rfl),rfl))) λz=>absurd ?_ z);decide
 ·rintro b d ⟨_,rfl⟩;exact q
inductive JT(K:PySem.W.Frag)(vs:List V)(H:Hp)(Q:VK)(_e1:XK):Prop
 | mk (p:Addr) (ns:List Int) (_:vs=[.ref p]) (_:My K H p (ns.map V.int)) (_:ns.length<=4096) (_:bc ns) (_:∀r H',H r=none->aQ H H'->H' r=some (.lst ((bB ns).map V.int))->Q (.ref r) H')
theorem HQ(T:Tx K mg a):aV P w K mg base Ui 2 a.afy a.aeV ["bits"] (JT K):=by
 refine T.afH.F.Ul Il λG A r s H I Q E u h=>?_;obtain⟨p,b,rfl,n,x,B,q⟩:=h;refine(_,(aj (bu (aF T.ZV (qx T) u (aa (pv 0) ak)))
  (aq (aD (jy rfl (bZ.one (j:=0) rfl (ag1 rfl) rfl rfl (ag1 rfl)) (Jh rfl T.Xk (aa ao (aa (aK aL rfl T.Ur Tw.aY (aa (pv 0) ak)) (aa (bD (v:=.int 32) rfl T.Vo (_,rfl)) ak)))) (λ_ _ _ _=>fL) (λ_ _ _ _=>(aF T.aeL (De T) u (aa (b8 (show Yn _ (SM K)from n8) (pv 1) (cD (pv 0)) (cD (aC bh (pv 0) (bD (v:=.int 32) rfl T.Vo (_,rfl))))) ak))))))),?_)
 exists _,rfl,p,b,rfl,n,x,B;exists _,rfl,p,_,rfl,.inl n,(b.map V.int).length,rfl,?_
 ·rw[aaa];exact agX x (by decide)
 rw[aaa];intro D o;exists λi m k g=>m=many b.length - i/\i<=many b.length/\k=((agd i).map (cF b)).map V.int/\aQ H g/\g D=some (.lst k),(_,rfl,aaP _,rfl,az o _,au);rintro i m k g ⟨rfl,J,rfl,l,d⟩;by_cases c:i<many b.length
 ·refine .inr (c,λv M y=>?_);obtain⟨rfl,rfl⟩:=y;unfold KJ;refine il ?_;refine(_,rfl,_,rfl,_,rfl,_,rfl,_,_,rfl,rfl,_,rfl,p,_,rfl,l.seq n,λt f=>?_);have C:(0:Int)+(i:Int)*32=((32*i:Nat):Int):=by lia
  have L:(0:Int)+(i:Int)*32+32=((32*i+32:Nat):Int):=by lia
  rw[C,show ((32*i:Nat):Int)+32=((32*i+32:Nat):Int)from by lia,Qd,agg];exists t,_,rfl,My.of au;have z:D≠t:=aH d f;refine(by rw[aJ z];exact d,?_,many b.length - (i+1),by lia,rfl,c,?_,bQ (l.trans (az f _)) o _,au)
  ·rw[aaa,aaa,agm];unfold many at c;exact small (by lia)
  ·rw[agw,aal,aal];rfl
 ·have e:i=many b.length:=by lia
  subst e;exact .inl (aad _,q D g o l d)
inductive Dv(K:PySem.W.Frag)(vs:List V)(H:Hp)(Q:VK)(_e1:XK):Prop
 | mk (p:Addr) (bs:List Int) (_:vs=[.ref p]) (_:My K H p (bs.map V.int)) (_:bs.length<=4096) (_:∀r H',H r=none->aQ H H'->H' r=some (.tup ((aheads bs bs.length).map V.int))->Q (.ref r) H')
theorem Bh(T:Tx K mg a):aV P w K mg base Ui 4 a.aeu a.adN ["blocks"] (Dv K):=by
 refine T.aeM.F.Ul m6 λC A o s H D Q E B h=>?_;obtain⟨p,j,rfl,u,m,q⟩:=h;refine(_,(aj (aA 1 m6.nd (cX (aa ao ak)))
  (aj (bJ PassesOwn.never rfl (bK (pv 0)) (aW 2 m6.nd) (aq (bu (gZ PySem.F.plainAttrs_list PySem.F.slot_list_append PySem.F.type_list_append b7 (pv 1) (aa (aC bh (aR gr (pv 1) (j5 fX ao)) (aF T.ZW (wL T) B (aa (pv 2) (aa (bD (v:=.int 32) rfl T.Vo (_,rfl)) ak)))) ak)))))
  (aq (aD (cU gn rfl T.XS Tw.mR (aa (pv 1) ak)))))),?_)
 refine((by show 1<=sizeLine;decide),λr d=>?_);exists _,rfl,p,rfl,(_,(az d _).seq u);refine cu (xs:=j.map V.int) (λi g f=>(∃k,g=[some (.ref p),some (.ref r),k])/\aQ H f/\f r=some (.lst ((aheads j i).map V.int))) ?_ ?_ ?_ ?_
 ·exact((none,rfl),az d _,au)
 ·rintro i g f _ ⟨_,e,_⟩;exact e.seq u
 ·rintro i x g f z ⟨⟨k,rfl⟩,e,c⟩;obtain⟨b,t,rfl⟩:=int_at z;have G:=(aab.mp t).1;have n:UT ((aheads j i).map V.int) (-1)=some (.int (jC j i)):=by
   rw[Dz,aal];exact mV _ _
  refine(_,rfl,.inl (rfl,_,My.of c),_,rfl,_,rfl,r,_,_,_,rfl,rfl,My.of c,n,_,rfl,b,32,rfl,by decide,by decide,λI y=>(_,_,rfl,rfl,r,_,_,rfl,rfl,y _ _ c,?_,(_,rfl),bQ (e.trans y) d _,?_))
  ·rw[aaa,yh];exact small (by lia)
  ·rw[au,Cq,aal,tM t];rfl
 ·rintro g f ⟨⟨k,rfl⟩,e,c⟩;rw[aaa]at c;exact(_,rfl,r,_,rfl,.inl (My.of c,λl m=>q l _ (e.free m) (e.trans (az m _)) au))
inductive Ec(vs:List V)(H:Hp)(Q:VK)(_e1:XK):Prop
 | mk (b n:Int) (_:vs=[.int b,.int n]) (_:0<=n) (_:n<=32) (_:∀r H',H r=none->aQ H H'->H' r=some (.lst ((nets b n.toNat).map V.int))->Q (.ref r) H')
theorem oN(T:Tx K mg a):aV P w K mg base Ui 3 a.ae0 a.aeq ["block","upto"] Ec:=by
 refine T.YK.F.Ul iT λI A t s H J Q E z h=>?_;obtain⟨b,n,rfl,D,C,q⟩:=h;refine(_,(aj (aA 2 iT.nd (cX ak))
  (aj (aA 3 iT.nd ao)
  (aj (bJ PassesOwn.never rfl (bK (aF T.YJ (oZ T) z (aa (pv 0) (aa (pv 1) ak)))) (aW 4 iT.nd) (aj (aA 3 iT.nd (aC bz (aC bh (pv 3) (aC cI ao (pv 4))) ao))
  (aq (bu (gZ PySem.F.plainAttrs_list PySem.F.slot_list_append PySem.F.type_list_append b7 (pv 2) (aa (pv 3) ak))))))
  (aq (aD (pv 2)))))),?_)
 refine((by show 0<=sizeLine;decide),λr f=>?_);refine(_,rfl,_,rfl,b,n,rfl,D,C,λp v=>(p,rfl,(_,My.of au),?_));have u:r≠p:=aH au v;refine cu (xs:=(bits b n.toNat).map V.int) (λi j e=>(∃k,j=[some (.int b),some (.int n),some (.ref r),some (.int (net b i)),k])/\aQ H e/\e r=some (.lst ((nets b i).map V.int))/\e p=some (.lst ((bits b n.toNat).map V.int))) ?_ ?_ ?_ ?_
 ·refine((none,by rw[Ko];rfl),(az f _).trans (az v _),?_,au);rw[aJ u,au];rfl
 ·rintro i j e _ ⟨_,_,_,o⟩;exact My.of o
 ·rintro i x j e y ⟨⟨k,rfl⟩,l,d,g⟩;obtain⟨c,m,rfl⟩:=int_at y;have B:i<n.toNat:=by
   have:=(aab.mp m).1;rw[gA]at this;exact this
  have G:c=bit b i:=by
   rw[vK B]at m;exact(aao m).symm
  subst G;exists _,rfl,_,rfl,_,_,rfl,rfl,.inl (by decide,by decide),_,_,rfl,rfl,_,_,rfl,rfl;exists _,rfl,.inl (rfl,_,My.of d),_,rfl,r,_,_,rfl,rfl,d,?_
  ·rw[aaa,eZ];exact small (by lia)
  ·exists (some (.int (bit b i)),by rw[CW];rfl),bQ l f _,?_
   ·rw[au,Jd,CW,aal];rfl
   ·rw[aJ (ags u)];exact g
 ·rintro j e ⟨⟨k,rfl⟩,l,d,g⟩;rw[aaa,gA]at d;exact(_,rfl,q r e f l d)
inductive Jl(vs:List V)(H:Hp)(Q:VK)(_e1:XK):Prop
 | mk (b n:Int) (_:vs=[.int b,.int n]) (_:1<=n) (_:n<=32) (_:∀M H',Lg M (nets b n.toNat)->aQ H H'->Q (.int M) H')
theorem JX(T:Tx K mg a):aV P w K mg base Ui 4 a.afB a.ae1 ["block","upto"] Jl:=by
 refine T.afJ.F.Ul Kg λk A c s H l Q E e h=>?_;obtain⟨b,n,rfl,o,g,q⟩:=h;exists _,(aq (aD (Ol rfl rfl T.afV (aa (aF T.YK (oN T) e (aa (pv 0) (aa (pv 1) ak))) ak) ao Tw.Gf)));refine(_,rfl,_,rfl,b,n,rfl,by lia,g,λp j m d i=>(p,_,rfl,My.of i,?_,λM f=>q M j f d));rw[eZ];lia
inductive uA(vs:List V)(H:Hp)(Q:VK)(_e1:XK):Prop
 | mk (b:Int) (st sp:Nat) (g:Int) (_:vs=[.int b,.int (st:Int),.int (sp:Int),.int g]) (_:sp<=32) (_:(∀H' (k:Nat),aQ H H'->Due b st sp g k->(∀j,Due b st sp g j->k<=j)->Q (.int (k:Int)) H')) (_:∀H',aQ H H'->(∀k,¬Due b st sp g k)->Q .non H')
theorem uw(T:Tx K mg a):aV P w K mg base Ui 4 a.abJ a.aa4 ["block","start","stop","goal"] uA:=by
 refine T.ab3.F.Ul gJ λZ A D s H vs Q E O h=>?_;obtain⟨b,o,e,g,rfl,X,M,L⟩:=h;refine(_,(aj (bJ PassesOwn.never rfl (Bv rfl T.Xj (aa (aF T.YK (oN T) O (aa (pv 0) (aa (pv 2) ak))) ak) ao) (nA rfl (bW (aW 4 gJ.nd) (bW (aW 5 gJ.nd) jl))) (aq (aX (PW.pt (iD (aG iH (pv 4) (pv 1)) (ir (aG jq (pv 5) (pv 3))))) (aq (aD (pv 4))) aM)))
  (aq (aD eV))),?_)
 refine(_,rfl,_,rfl,b,(e:Int),rfl,by lia,by lia,λr J Y I C=>?_);rw[acb]at C;exists r,_,rfl,rfl,My.of C;refine zc (xs:=(nets b e).map V.int) (λi v u=>(∃k n,v=[some (.int b),some (.int (o:Int)),some (.int (e:Int)),some (.int g),k,n])/\aQ J u /\ ∀j,j<=i -> ¬Due b o e g j) ?_ ?_ ?_ ?_
 ·exact((none,none,rfl),aQ.refl _,λj S d=>by have:=d.1;lia)
 ·rintro i v u _ ⟨_,q,_⟩;exact My.of (q _ _ C)
 ·rintro i x v u p N ⟨⟨k,n,rfl⟩,q,y⟩ R;obtain⟨c,B,rfl⟩:=int_at N;have U:i<e:=by
   have:=(aab.mp B).1;rw[eZ]at this;exact this
  have W:c=net b (i+1):=by
   rw[Cr U]at B;exact(aao B).symm
  subst W;have m:aQ J (upd u p (.tup [.int ((i+1:Nat):Int),.int (net b (i+1))])):=q.trans (az R _);have G:¬Due b o e g (i+1) -> ∀j,j<=i+1 -> ¬Due b o e g j:=λh j S=>by
   rcases aaq i j with l|l
   ·have:j=i+1:=by lia
    subst this;exact h
   ·exact y j l
  exists p,_,rfl,Uj.of au,rfl,_,_,rfl,_,_,rfl,rfl;refine(_,rfl,_,rfl,_,_,rfl,rfl,_,rfl,bF (λt=>?_) λt=>?_)
  ·have t:=of_decide_eq_true t;refine(_,rfl,_,rfl,_,_,rfl,rfl,_,rfl,bF (λf=>?_) λf=>?_)
   ·have f:=of_decide_eq_true f;exact(_,rfl,M _ (i+1) (I.trans m) (by lia,by lia,f) λj d=>by
     rcases aaq i j with l|l
     ·exact l
     ·exact absurd d (y j l))
   ·have f:¬net b (i+1)<=g:=λz=>f (decide_eq_true z);exact((_,_,rfl),m,G λd=>f d.2.2)
  ·have t:¬(o:Int)<((i+1:Nat):Int):=λz=>t (decide_eq_true z);exact dI ((_,_,rfl),m,G λd=>by have:=d.1;lia)
 ·rintro v u ⟨_,q,y⟩;refine L _ (I.trans q) λk d=>y k ?_ d;rw[aaa,eZ];exact d.2.1
inductive wG(vs:List V)(H:Hp)(Q:VK)(_e1:XK):Prop
 | mk (b:Int) (st sp:Nat) (g:Int) (_:vs=[.int b,.int (st:Int),.int (sp:Int),.int g]) (_:sp<=32) (_:(∀H' (k:Nat),aQ H H'->Due b st sp g k->(∀j,Due b st sp g j->j<=k)->Q (.int (k:Int)) H')) (_:∀H',aQ H H'->(∀k,¬Due b st sp g k)->Q .non H')
theorem vW(T:Tx K mg a):aV P w K mg base Ui 4 a.aci a.abK ["block","start","stop","goal"] wG:=by
 refine T.acK.F.Ul dq λa2 A O s H vs Q E Z h=>?_;obtain⟨b,o,m,g,rfl,a0,W,U⟩:=h;refine(_,(aj (aA 4 dq.nd eV)
  (aj (bJ PassesOwn.never rfl (Bv rfl T.Xj (aa (aF T.YK (oN T) Z (aa (pv 0) (aa (pv 2) ak))) ak) ao) (nA rfl (bW (aW 5 dq.nd) (bW (aW 6 dq.nd) jl))) (aq (aX (PW.pt (iD (aG iH (pv 5) (pv 1)) (ir (aG jq (pv 6) (pv 3))))) (aq (aA 4 dq.nd (pv 5))) aM)))
  (aq (aD (pv 4))))),?_)
 refine(_,rfl,_,rfl,b,(m:Int),rfl,by lia,by lia,λr S a1 R N=>?_);rw[acb]at N;exists r,_,rfl,rfl,My.of N;refine zc (xs:=(nets b m).map V.int) (λi D B=>∃f,(∃k n,D=[some (.int b),some (.int (o:Int)),some (.int (m:Int)),some (.int g),some f,k,n])/\aQ S B /\
  ((f=.non /\ ∀j,j<=i -> ¬Due b o m g j) \/ ∃k:Nat,f=.int (k:Int)/\k<=i/\Due b o m g k /\ ∀j,j<=i->Due b o m g j->j<=k)) ?_ ?_ ?_ ?_
 ·exact(.non,(none,none,rfl),aQ.refl _,.inl (rfl,λj G d=>by have:=d.1;lia))
 ·rintro i D B _ ⟨_,_,u,_⟩;exact My.of (u _ _ N)
 ·rintro i x D B p Y ⟨f,⟨k,n,rfl⟩,u,I⟩ hp;obtain⟨c,M,rfl⟩:=int_at Y;have hi:i<m:=by
   have:=(aab.mp M).1;rw[eZ]at this;exact this
  have ec:c=net b (i+1):=by
   rw[Cr hi]at M;exact(aao M).symm
  subst ec;have t:aQ S (upd B p (.tup [.int ((i+1:Nat):Int),.int (net b (i+1))])):=u.trans (az hp _);have C:¬Due b o m g (i+1)->(f=.non /\ ∀j,j<=i+1 -> ¬Due b o m g j) \/ ∃k:Nat,f=.int (k:Int)/\k<=i+1/\Due b o m g k /\ ∀j,j<=i+1->Due b o m g j->j<=k:=λh=>by
   rcases I with ⟨e,J⟩|⟨k,e,X,d,L⟩
   ·refine .inl (e,λj G=>?_);rcases aaq i j with l|l
    ·have:j=i+1:=by lia
     subst this;exact h
    ·exact J j l
   ·refine .inr (k,e,by lia,d,λj G v=>?_);rcases aaq i j with l|l
    ·have:j=i+1:=by lia
     subst this;exact absurd v h
    ·exact L j l v
  exists p,_,rfl,Uj.of au,rfl,_,_,rfl,_,_,rfl,rfl;refine(_,rfl,_,rfl,_,_,rfl,rfl,_,rfl,bF (λy=>?_) λy=>?_)
  ·have y:=of_decide_eq_true y;refine(_,rfl,_,rfl,_,_,rfl,rfl,_,rfl,bF (λq=>?_) λq=>?_)
   ·have q:=of_decide_eq_true q;exact(_,rfl,_,(_,_,rfl),t,.inr (i+1,rfl,aad _,(by lia,by lia,q),λj G _=>G))
   ·have q:¬net b (i+1)<=g:=λz=>q (decide_eq_true z);exact(f,(_,_,rfl),t,C λd=>q d.2.2)
  ·have y:¬(o:Int)<((i+1:Nat):Int):=λz=>y (decide_eq_true z);exact dI (f,(_,_,rfl),t,C λd=>by have:=d.1;lia)
 ·rintro D B ⟨f,⟨k,n,rfl⟩,u,I⟩;rw[aaa,eZ]at I;exists _,rfl;rcases I with ⟨rfl,J⟩|⟨k,rfl,X,d,L⟩
  ·exact U _ (R.trans u) λk d=>J k d.2.1 d
  ·exact W _ k (R.trans u) d λj v=>L j v.2.1 v
inductive Fi(vs:List V)(H:Hp)(Q:VK)(_e1:XK):Prop
 | mk (n:Nat) (_:vs=[.int (n:Int)]) (_:n<=100000) (_:∀S,ik n S->Q (.int (S:Int)) H)
theorem jb(T:Tx K mg a):aV P w K mg base Ui 1 a.ae3 a.aes ["many"] Fi:=by
 refine T.Xg.F.Ul oV λo A d s H p Q E r h=>?_;obtain⟨n,rfl,u,q⟩:=h;refine(_,(aj (aA 1 oV.nd ao)
  (aj (nG PassesOwn.never (aG jw (pv 1) (pv 0)) (aq (aA 1 oV.nd (aC cI ao (pv 1)))))
  (aq (aD (pv 1))))),?_)
 exists λm f g=>∃h:Nat,f=[some (.int (n:Int)),some (.int ((2^h:Nat):Int))]/\g=H/\m=n - 2^h /\ ∀j,j<h->2^j<n,(_,0,rfl,rfl,rfl,λj b=>absurd b (agU _));rintro m f g ⟨h,rfl,rfl,rfl,b⟩;refine(_,rfl,_,rfl,_,_,rfl,rfl,_,rfl,bF (λc=>?_) λc=>?_)
 ·have c:((2^h:Nat):Int)<(n:Int):=of_decide_eq_true c;have t:0<2^h:=agl h;refine(_,λ i v z=>z,_,rfl,_,_,rfl,rfl,.inl (by decide,by decide),n - 2^(h+1),by rw[agI];lia,h+1,?_,rfl,rfl,λj k=>?_)
  ·have e:(2:Int)*((2^h:Nat):Int)=((2^(h+1):Nat):Int):=by rw[agI];lia
   rw[<-e];rfl
  ·rcases aaq j h with l|l
   ·exact b j l
   ·have:j=h:=by lia
    subst this;lia
 ·have c:¬((2^h:Nat):Int)<(n:Int):=λz=>c (decide_eq_true z);exact(_,rfl,q (2^h) (h,rfl,by lia,b))
abbrev nats(l:List Nat):List V:=l.map λn:Nat=>V.int (n:Int)
inductive qP(vs:List V)(H:Hp)(Q:VK)(_e1:XK):Prop
 | mk (n st sp:Nat) (_:vs=[.int (n:Int),.int (st:Int),.int (sp:Int)]) (_:st<=sp) (_:sp<=n) (_:Q .non H)
theorem qJ(T:Tx K mg a):aV P w K mg base Ui 1 a.aa9 a.aaW ["many","start","stop"] qP:=by
 refine T.abn.F.Ul qT λe A b s H f Q E g h=>?_;obtain⟨n,c,d,rfl,j,i,q⟩:=h;exists _,(aq (aX (my (JP jq jq jq ao (pv 1) (pv 2) (pv 0))) (aq bY) aM));refine(_,rfl,_,_,rfl,rfl,_,rfl,bF (λ_=>?_) λz=>absurd (decide_eq_true (show (0:Int)<=(c:Int)from by lia)) z);refine(_,rfl,_,_,rfl,rfl,_,rfl,bF (λ_=>?_) λz=>absurd (decide_eq_true (show (c:Int)<=(d:Int)from by lia)) z);exists _,rfl,_,_,rfl,rfl,_,rfl;rw[decide_eq_true (show (d:Int)<=(n:Int)from by lia)];exact dI q
inductive LR(vs:List V)(H:Hp)(Q:VK)(_e1:XK):Prop
 | mk (many st sp:Nat) (_:vs=[.int (many:Int),.int (st:Int),.int (sp:Int)]) (_:st<=sp) (_:sp<=many) (_:many<=4096) (_:∀S r H',ik many S->H r=none->aQ H H'->H' r=some (.lst (nats (cover S st sp)))->Q (.ref r) H')
theorem DN(T:Tx K mg a):aV P w K mg base Ui 2 a.afP a.afC ["many","start","stop"] LR:=by
 refine T.ZZ.F.Ul dU λa6 A a1 s H vs Q E hr h=>?_;obtain⟨n,u,x,rfl,h1,h2,h3,q⟩:=h;refine(_,(aj (bu (aF T.abn (qJ T) hr (aa (pv 0) (aa (pv 1) (aa (pv 2) ak)))))
  (aj (aA 3 dU.nd (aF T.Xg (jb T) hr (aa (pv 0) ak)))
  (aj (aA 4 dU.nd (aC bh (pv 3) (pv 1)))
  (aj (aA 5 dU.nd (aC bh (pv 3) (pv 2)))
  (aj (aA 6 dU.nd (cX ak))
  (aj (aA 7 dU.nd (cX ak))
  (aj (nG PassesOwn.never (aG jw (pv 4) (pv 5)) (aj (aX (aG dN (aC cj (pv 4) ao) ao) (aj (bu (gZ PySem.F.plainAttrs_list PySem.F.slot_list_append PySem.F.type_list_append b7 (pv 6) (aa (pv 4) ak)))
  (aq (aA 4 dU.nd (aC bh (pv 4) ao)))) aM)
  (aj (aX (aG dN (aC cj (pv 5) ao) ao) (aj (aA 5 dU.nd (aC bz (pv 5) ao))
  (aq (bu (gZ PySem.F.plainAttrs_list PySem.F.slot_list_append PySem.F.type_list_append b7 (pv 7) (aa (pv 5) ak))))) aM)
  (aj (aA 4 dU.nd (aC bL (pv 4) ao))
  (aq (aA 5 dU.nd (aC bL (pv 5) ao)))))))
  (aq (aD (aC mW (pv 6) (Gr rfl rfl T.YZ Tw.uQ rfl T.acU Tw.nM (aa (pv 7) ak)))))))))))),?_)
 exists _,rfl,_,rfl,_,rfl,n,u,x,rfl,h1,h2;refine(_,rfl,n,rfl,by lia,λS hS=>?_);exists _,rfl,_,rfl,_,_,rfl,rfl;exists _,rfl,_,rfl,_,_,rfl,rfl;refine((by show 0<=sizeLine;decide),λp D=>?_);refine((by show 0<=sizeLine;decide),λk C=>?_);have y:p≠k:=aH au C;have N:=(az D (.lst [])).free C;have Y:=(az D (.lst [])).trans (az C (.lst []));have a5:=hS.le h3;refine(λm G W=>∃(e b f:Nat) (o j:List Nat),G=[some (.int (n:Int)),some (.int (u:Int)),some (.int (x:Int)),some (.int (S:Int)),some (.int (e:Int)),some (.int (b:Int)),some (.ref p),some (.ref k)]/\m=b - e/\aQ H W/\W p=some (.lst (nats o))/\W k=some (.lst (nats j))/\b - e<=f/\Bm f e b o j=cover S u x/\o.length+j.length+2*f<=20000,
  (_,S+u,S+x,x - u,[],[],rfl,rfl,Y,by rw[aJ y,au];rfl,au,by lia,rfl,by simp;lia),?_)
 rintro m G W ⟨e,b,f,o,j,rfl,rfl,O,R,B,hf,I,hz⟩;refine(_,rfl,_,rfl,_,_,rfl,rfl,_,rfl,bF (λc=>?_) λc=>?_)
 ·have c:(e:Int)<(b:Int):=of_decide_eq_true c;obtain⟨f,rfl⟩:∃g,f=g+1:=(f - 1,by lia);unfold Bm at I;rw[if_pos (by lia)]at I;exists _,λ a4 M z=>z;exists _,rfl,_,_,rfl,rfl,(by show (0:Int)<2;decide),rfl,_,rfl;refine Hl (λ G M=>∃(J:List Nat),G=[some (.int (n:Int)),some (.int (u:Int)),some (.int (x:Int)),some (.int (S:Int)),some (.int ((e+e%2:Nat):Int)),some (.int (b:Int)),some (.ref p),some (.ref k)]/\J=(if e%2=1 then o++[e]else o)/\aQ H M/\M p=some (.lst (nats J))/\M k=some (.lst (nats j))) (λd=>?_) ?_ (λd m=>?_)
  ·have d:¬(e:Int)%2=1:=λz=>d (decide_eq_true (congrArg V.int z));refine(o,?_,by rw[if_neg (by lia)],O,R,B);rw[show e+e%2=e from by lia]
  rotate_left
  ·have d:V.int ((e:Int)%2)=V.int 1:=of_decide_eq_true d;injection d with d
   exists _,rfl,.inl (rfl,_,My.of R),_,rfl,p,_,_,rfl,rfl,R,?_
   ·rw[aaa,sizeLine_eq];lia
   refine(_,rfl,_,_,rfl,rfl,m _ _ (o++[e],?_,by rw[if_pos (by lia)],bQ O D _,?_,?_))
   ·rw[show ((e+e%2:Nat):Int)=(e:Int)+1 from by lia];rfl
   ·rw[au];unfold nats;rw[aal];rfl
   ·rw[aJ y.symm];exact B
  rintro a3 M ⟨J,rfl,e2,U8,t,i⟩;exists _,rfl,_,_,rfl,rfl,(by show (0:Int)<2;decide),rfl,_,rfl;refine Hl (λ G U=>∃(L:List Nat),G=[some (.int (n:Int)),some (.int (u:Int)),some (.int (x:Int)),some (.int (S:Int)),some (.int ((e+e%2:Nat):Int)),some (.int ((b - b%2:Nat):Int)),some (.ref p),some (.ref k)]/\L=(if b%2=1 then j++[b - 1]else j)/\aQ H U/\U p=some (.lst (nats J))/\U k=some (.lst (nats L))) (λd=>?_) ?_ (λd m=>?_)
  ·have d:¬(b:Int)%2=1:=λz=>d (decide_eq_true (congrArg V.int z));refine(j,?_,by rw[if_neg (by lia)],U8,t,i);rw[show b - b%2=b from by lia]
  rotate_left
  ·have d:V.int ((b:Int)%2)=V.int 1:=of_decide_eq_true d;injection d with d
   exists _,rfl,_,_,rfl,rfl;refine(_,rfl,.inl (rfl,_,My.of i),_,rfl,k,_,_,rfl,rfl,i,?_,m _ _ (j++[b - 1],?_,by rw[if_pos (by lia)],bQ U8 N _,?_,?_))
   ·rw[aaa,sizeLine_eq];lia
   ·rw[show ((b - b%2:Nat):Int)=(b:Int) - 1 from by lia];rfl
   ·rw[aJ y];exact t
   ·rw[au];unfold nats;rw[aal];exact congrArg (λv=>some (HO.lst (j.map (λn:Nat=>V.int (n:Int))++[v]))) (congrArg V.int (show (b:Int) - 1=((b - 1:Nat):Int)from by lia))
  rintro a2 U ⟨L,rfl,e3,Z,a0,XM⟩;rw[<-e2,<-e3]at I;have z2:J.length<=o.length+1:=by
   rw[e2];split <;> simp
  have z3:L.length<=j.length+1:=by
   rw[e3];split <;> simp
  exists _,rfl,_,_,rfl,rfl,(by decide,by decide);refine(_,rfl,_,_,rfl,rfl,(by decide,by decide),(b - b%2) / 2 - (e+e%2) / 2,by lia,(e+e%2) / 2,(b - b%2) / 2,f,J,L,?_,rfl,Z,a0,XM,by lia,I,by lia);rw[show (((e+e%2) / 2:Nat):Int)=((e+e%2:Nat):Int) / 2 from by lia,show (((b - b%2) / 2:Nat):Int)=((b - b%2:Nat):Int) / 2 from by lia];rfl
 ·have c:¬(e:Int)<(b:Int):=λz=>c (decide_eq_true z);rw[Nj (by lia)]at I;refine(_,rfl,_,rfl,k,_,rfl,My.of B,λl t=>?_);have X:=az t (.lst (nats j).reverse);refine(p,l,_,_,rfl,rfl,X _ _ R,au,?_,λr i=>?_)
  ·rw[ah1,aaa,aaa,sizeLine_eq];lia
  refine q S r _ hS ((O.trans X).free i) (O.trans (X.trans (az i _))) ?_;rw[au,<-I];unfold nats;rw[aal,ai2]
inductive Ig(vs:List V)(H:Hp)(Q:VK)(_e1:XK):Prop
 | mk (x y:V) (_:vs=[x,y]) (_:NI x) (_:NI y) (_:Q (ym x y) H)
theorem zK(T:Tx K mg a):aV P w K mg base Ui 1 a.adL a.ac4 ["one","other"] Ig:=by
 refine T.ad6.F.Ul Ag λe A b s H f Q E g h=>?_;obtain⟨x,y,rfl,d,c,q⟩:=h;refine(_,(aj (aX (fQ (lM (pv 0))) (aq (aD (pv 1))) aM)
  (aj (aX (fQ (lM (pv 1))) (aq (aD (pv 0))) aM)
  (aq (aD (aK (yz rfl) rfl T.afV Tw.Gf (aa (pv 0) (aa (pv 1) ak))))))),?_)
 rcases d with rfl|⟨i,rfl⟩
 ·rw[yE]at q;exact(_,rfl,_,rfl,il (_,rfl,q))
 refine(_,rfl,_,rfl,dI ?_);rcases c with rfl|⟨j,rfl⟩
 ·exact(_,rfl,_,rfl,il (_,rfl,q))
 exact(_,rfl,_,rfl,dI (_,rfl,_,rfl,i,j,rfl,q))
inductive En(K:PySem.W.Frag)(vs:List V)(H:Hp)(Q:VK)(E:XK):Prop
 | mk (p:Addr) (ns:List Int) (_:vs=[.ref p]) (_:My K H p (ns.map V.int)) (_:ns.length<=4096) (_:∀S r H' xs,ik ns.length S->H r=none->aQ H H'->H' r=some (.lst xs)->jk ns S 1 xs->Q (.ref r) H')
theorem Fx(T:Tx K mg a):aV P w K mg base Ui 2 a.ae2 a.aer ["numbers"] (En K):=by
 refine T.afi.F.Ul lr λa3 A R s H vs Q E hr h=>?_;obtain⟨p,b,rfl,o,hl,q⟩:=h;refine(_,(aj (aX (aG iH (aK aL rfl T.Ur Tw.aY (aa (pv 0) ak)) (bD (v:=.int 4096) rfl T.aem (_,rfl))) (aq bY) aM)
  (aj (aA 1 lr.nd (aF T.Xg (jb T) hr (aa (aK aL rfl T.Ur Tw.aY (aa (pv 0) ak)) ak)))
  (aj (aA 2 lr.nd (aC mW (aC mW (aC Aq (cX (aa eV ak)) (pv 1)) (cU kY rfl T.YZ Tw.uQ (aa (pv 0) ak))) (aC Aq (cX (aa eV ak)) (aC bz (pv 1) (aK aL rfl T.Ur Tw.aY (aa (pv 0) ak))))))
  (aj (bJ PassesOwn.never rfl (Ge rfl T.Xk (aa (aC bz (pv 1) ao) (aa ao (aa (j5 fX ao) ak)))) (aW 3 lr.nd) (aq (Li (aF T.ad6 (zK T) hr (aa (aR gr (pv 2) (aC cI ao (pv 3))) (aa (aR gr (pv 2) (aC bh (aC cI ao (pv 3)) ao)) ak))) (Rf (pv 2) (pv 3) set_list))))
  (aq (aD (pv 2))))))),?_)
 have x:(b.map V.int).length=b.length:=aaa ..;refine(_,rfl,p,_,rfl,.inl o,_,_,rfl,rfl,_,rfl,bF (λz=>?_) λ_=>?_)
 ·have z:(4096:Int)<((b.map V.int).length:Int):=of_decide_eq_true z;lia
 refine(_,rfl,p,_,rfl,.inl o,b.length,?_,by lia,λS u=>?_)
 ·rw[x];rfl
 have O:=u.pos;have a2:=u.le hl;have J:b.length<=S:=by
  obtain⟨_,_,z,_⟩:=u;exact z
 refine GR (t:=Ql (tC .non) S9) (σ:=[some (.ref p),some (.int (S:Int)),none,none]) (i:=1) (k:=(S:Int)) (xs:=[.non]) (λQ' q=>q) rfl (by lia) (by decide) (by lia) λp1 H1 a1 Z U=>?_;refine(_,rfl,p,_,rfl,.inl (Z.seq o),λl2 M=>?_);have Y:=az M (.lst (b.map V.int));have e1:(aaF (S:Int).toNat [V.non]).flatten=aaF S V.non:=by
  rw[acb];simp
 rw[e1]at U;refine(p1,l2,_,_,rfl,rfl,Y _ _ U,au,?_,λp3 I=>?_)
 ·rw[x,abD,sizeLine_eq];lia
 have s3:=az I (.lst (aaF S V.non++b.map V.int));refine((by show 1<=sizeLine;decide),λl4 L=>?_);have X:=az L (.lst [.non]);have j:=Z.trans (Y.trans (s3.trans X));refine(_,rfl,_,rfl,p,_,rfl,.inl (j.seq o),_,_,rfl,rfl,l4,((S - b.length:Nat):Int),[.non],rfl,?_,au,by lia,by lia,?_,λp5 G=>?_)
 ·show V.int ((S:Int) - ((b.map V.int).length:Int))=_;rw[x];exact congrArg V.int (by lia)
 ·rw[sizeLine_eq];show 1*_<=_;lia
 have e5:(aaF ((S - b.length:Nat):Int).toNat [V.non]).flatten=aaF (S - b.length) V.non:=by
  rw[acb];simp
 rw[e5];have W:=az G (.lst (aaF (S - b.length) V.non));refine(p3,p5,_,_,rfl,rfl,W _ _ (X _ _ au),au,?_,λr m=>?_)
 ·rw[aaf,x,abD,abD,sizeLine_eq];lia
 have g:=j.trans W;have l:=g.free m;have s6:=g.trans (az m (.lst (aaF S V.non++b.map V.int++aaF (S - b.length) V.non)));refine(_,rfl,_,_,rfl,rfl,_,rfl,S - 1,0,?_,by lia,by lia,?_)
 ·rw[show ((S - 1:Nat):Int)=(S:Int) - 1 from by lia];rfl
 refine DR (n:=S - 1 - 0) (λi y f=>(∃C,y=[some (.ref p),some (.int (S:Int)),some (.ref r),C])/\aQ H f /\ ∃c,f r=some (.lst c)/\jk b S (S - i) c) ((none,rfl),s6,_,au,jk.start O J) ?_ ?_
 ·rintro i y f hi ⟨⟨C,rfl⟩,B,c,d,e⟩;obtain⟨k,rfl⟩:∃k,S=k+i+1:=(S - i - 1,by lia);have D:((k+i+1 - 1:Nat):Int)+(i:Int)*(-1)=(k:Int):=by lia
  rw[show k+i+1 - i=k+1 from by lia]at e;have a0:=e.len;have hx:c[2*k]?=some c[2*k]:=aac (by lia);have hy:c[2*k+1]?=some c[2*k+1]:=aac (by lia);have ha:UT c (2*(((k+i+1 - 1:Nat):Int)+(i:Int)*(-1)))=some c[2*k]:=by
   rw[D,show 2*(k:Int)=((2*k:Nat):Int)from by lia];exact Ht hx
  have hb:UT c (2*(((k+i+1 - 1:Nat):Int)+(i:Int)*(-1))+1)=some c[2*k+1]:=by
   rw[D,show 2*(k:Int)+1=((2*k+1:Nat):Int)from by lia];exact Ht hy
  have N:VM c.length (((k+i+1 - 1:Nat):Int)+(i:Int)*(-1))=some k:=by
   rw[D];exact Od (by lia)
  exists _,rfl,_,rfl,_,_,rfl,rfl,.inl (by decide,by decide),r,_,_,_,rfl,rfl,My.of d,ha;exists _,rfl,_,rfl,_,_,rfl,rfl,.inl (by decide,by decide),_,_,rfl,rfl,r,_,_,_,rfl,rfl,My.of d,hb;exists _,_,rfl,e.ni _ (acJ _),e.ni _ (acJ _);exists _,rfl,_,rfl,r,_,_,k,rfl,rfl,d,N,(_,rfl),bQ B l _,_,au;rw[show k+i+1 - (i+1)=k from by lia];exact e.step (by lia) (by lia) hx hy
 ·rintro y f ⟨⟨C,rfl⟩,B,c,d,e⟩;rw[show S - (S - 1 - 0)=1 from by lia]at e;exact(_,rfl,q S r f c u l B d e)
inductive Fw(K:PySem.W.Frag)(vs:List V)(H:Hp)(Q:VK)(_e1:XK):Prop
 | mk (p:Addr) (ns:List Int) (_:vs=[.ref p]) (_:My K H p (ns.map V.int)) (_:∀b H',(b=true ↔ Tree ns)->aQ H H'->Q (.bl b) H')
theorem FP(T:Tx K mg a):aV P w K mg base Ui 1 a.ae6 a.aew ["bits"] (Fw K):=by
 refine T.afj.F.Ul iG λL A v s H M Q E O h=>?_;obtain⟨p,d,rfl,u,q⟩:=h;refine(_,(aj (aA 1 iG.nd ao)
  (aj (bJ PassesOwn.never rfl (uN rfl T.Xj (aa (pv 0) ak)) (nA rfl (bW (aW 2 iG.nd) (bW (aW 3 iG.nd) jl))) (aj (aX (PW.pt (iD (aG iH (pv 2) ao) (ir (aG jq (pv 1) ao)))) (aq (aD sX)) aM)
  (aq (aA 1 iG.nd (aC bz (aC bh (pv 1) (aC cI ao (pv 3))) ao)))))
  (aq (aD (Ei (Az Bt (aK aL rfl T.Ur Tw.aY (aa (pv 0) ak)) ao) (Ep (Az dN (pv 1) ao))))))),?_)
 exists _,rfl,p,_,rfl,u;refine vy (xs:=d.map V.int) (λi o f=>(∃j g,o=[some (.ref p),some (.int (ht d i)),j,g])/\aQ H f /\ ∀k,0<k->k<i->0<ht d k) ((none,none,by rw[jm];rfl),aQ.refl _,λk _ h=>absurd h (agU _)) ?_ ?_ ?_
 ·rintro i o f _ ⟨_,e,_⟩;exact e.seq u
 ·rintro i x o f y G ⟨⟨j,g,rfl⟩,e,r⟩ J;obtain⟨b,C,rfl⟩:=int_at G;have I:=(aab.mp C).1;have n:=e.trans (az J (.tup [.int (i:Int),.int b]));exists y,_,rfl,Uj.of au,rfl,_,_,rfl,_,_,rfl,rfl;have D:(0<i->0<ht d i)->(∃j g,[some (V.ref p),some (.int (ht d i+2*b - 1)),some (.int (i:Int)),some (.int b)]=[some (.ref p),some (.int (ht d (i+1))),j,g])/\aQ H (upd f y (.tup [.int (i:Int),.int b])) /\ ∀k,0<k->k<i+1->0<ht d k:=λh =>
   ((_,_,by rw[kJ C]),n,λk B N=>by
    rcases aaq k i with l|l
    ·exact r k B l
    ·have:k=i:=by lia
     subst this;exact h B)
  refine(_,rfl,_,_,rfl,rfl,_,rfl,bF (λc=>?_) λc=>?_)
  ·have c:(0:Int)<(i:Int):=of_decide_eq_true c;refine(_,rfl,_,_,rfl,rfl,_,rfl,bF (λm=>?_) λm=>?_)
   ·have m:ht d i<=0:=of_decide_eq_true m;exact q false _ (λz=>absurd z aap,λt=>by have:=t.2.2 i (by lia) I;lia) n
   ·have m:¬ht d i<=0:=λz=>m (decide_eq_true z);exact(_,rfl,_,rfl,_,_,rfl,rfl,.inl (by decide,by decide),_,_,rfl,rfl,_,_,rfl,rfl,D λ_=>by lia)
  ·have c:¬(0:Int)<(i:Int):=λz=>c (decide_eq_true z);refine dI ?_;exact(_,rfl,_,rfl,_,_,rfl,rfl,.inl (by decide,by decide),_,_,rfl,rfl,_,_,rfl,rfl,D λz=>by lia)
 ·rintro o f ⟨⟨j,g,rfl⟩,e,r⟩;rw[aaa]at r ⊢;refine(_,rfl,p,_,rfl,.inl (e.seq u),_,_,rfl,rfl,_,rfl,bF (λc=>?_) λc=>?_)
  ·have c:(2:Int)<=((d.map V.int).length:Int):=of_decide_eq_true c;rw[aaa]at c;exists _,rfl,rfl;refine q _ f ?_ e;rw[decide_eq_true_iff];exact(λz=>(by lia,V.int.inj z,r),λt=>congrArg V.int t.2.1)
  ·have c:¬(2:Int)<=((d.map V.int).length:Int):=λz=>c (decide_eq_true z);rw[aaa]at c;exact q false f (λz=>absurd z aap,λt=>by have:=t.1;lia) e
structure Tab(H:Hp)(t ah:Addr)(ns:List Int)(rest:List V):Prop where
 tup:H t=some (.tup (.int (ns.length:Int)::.ref ah::rest))
 Vr:H ah=some (.tup ((UV ns (many ns.length)).map V.int))
 few:rest.length<=1
theorem Tab.same{H':Hp}{t :Addr}(h:Tab H t f d l)(s:aQ H H'):Tab H' t f d l:=(s _ _ h.tup,s _ _ h.Vr,h.few)
theorem oh(x y:V):∀rest:List V,rest.length<=1->UT (x::y::rest) 0=some x
 | [],_=>rfl
 | [_],_=>rfl
 | _::_::_,h=>absurd h (by simp)
theorem pF(x y:V):∀rest:List V,rest.length<=1->UT (x::y::rest) 1=some y
 | [],_=>rfl
 | [_],_=>rfl
 | _::_::_,h=>absurd h (by simp)
theorem Nf{n j:Nat}(h:j<=n):UT ((UV d n).map V.int) (j:Int)=some (.int (d.take (32*j)).sum):=pN (pP h)
inductive Ci(K:PySem.W.Frag)(vs:List V)(H:Hp)(Q:VK)(_e1:XK):Prop
 | mk (p:Addr) (ns:List Int) (_:vs=[.ref p]) (_:My K H p (ns.map V.int)) (_:ns.length<=4096) (_:bc ns) (_:∀r b t ah H',H b=none->aQ H H'->H' r=some (.tup [.ref t,.ref b])->Tab H' t ah ns []->H' b=some (.lst ((bB ns).map V.int))->Q (.ref r) H')
theorem nj(T:Tx K mg a):aV P w K mg base Ui 5 a.aet a.adM ["bits"] (Ci K):=by
 refine T.YM.F.Ul tO λz A i s H B Q E j h=>?_;obtain⟨p,c,rfl,l,x,k,q⟩:=h;refine(_,(aj (aA 1 tO.nd (aF T.afH (HQ T) j (aa (pv 0) ak)))
  (aq (aD (gf (aa (gf (aa (aK aL rfl T.Ur Tw.aY (aa (pv 0) ak)) (aa (aF T.aeM (Bh T) j (aa (pv 1) ak)) ak))) (aa (pv 1) ak)))))),?_)
 refine(_,rfl,p,c,rfl,l,x,k,λb G g u n=>?_);refine(_,rfl,p,_,rfl,.inl (u.seq l),_,rfl,b,bB c,rfl,My.of n,?_,λo D C v m=>?_)
 ·rw[bC];unfold many;lia
 rw[zF k]at m;have y:(c.map V.int).length=c.length:=aaa ..;rw[y];refine((by show 2<=sizeLine;decide),λt ht=>(_,rfl,(by show 2<=sizeLine;decide),λr f=>?_));have e:=az ht (.tup [.int (c.length:Int),.ref o]);have d:=az f (.tup [.ref t,.ref b]);exact q r b t o _ g (u.trans (v.trans (e.trans d))) au (d _ _ au,d _ _ (e _ _ m),by decide) (d _ _ (e _ _ (v _ _ n)))
inductive pZ(K:PySem.W.Frag)(vs:List V)(H:Hp)(Q:VK)(_e1:XK):Prop
 | mk (p:Addr) (ns:List Int) (_:vs=[.ref p]) (_:My K H p (ns.map V.int)) (_:ns.length<=4096) (_:bc ns) (_:Tree ns) (_:∀H',aQ H H'->Q .non H')
theorem pJ(T:Tx K mg a):aV P w K mg base Ui 2 a.aaX a.aaJ ["bits"] (pZ K):=by
 refine T.aa3.F.Ul pU λm A d s H n Q E f h=>?_;obtain⟨p,e,rfl,g,j,k,ht,q⟩:=h;refine(_,(aj (bu (aF T.ZV (qx T) f (aa (pv 0) ak)))
  (aq (aX (my (qI (aF T.afj (FP T) f (aa (pv 0) ak)))) (aq bY) aM))),?_)
 exists _,rfl,p,e,rfl,g,j,k;refine(_,rfl,p,e,rfl,g,λb l c i=>?_);have:b=true:=c.mpr ht;subst this;exact(true,rfl,dI (q l i))
inductive Ef(vs:List V)(H:Hp)(Q:VK)(_e1:XK):Prop
 | mk (t ah:Addr) (ns:List Int) (rest:List V) (j:Nat) (_:vs=[.ref t,.int (j:Int)]) (_:Tab H t ah ns rest) (_:j<=many ns.length) (_:Q (.int (ht ns (32*j))) H)
theorem o7(T:Tx K mg a):aV P w K mg base Ui 1 a.ae8 a.aex ["tables","number"] Ef:=by
 refine T.YQ.F.Ul Fq λf A c s H g Q E k h=>?_;obtain⟨t,e,i,rest,j,rfl,b,d,q⟩:=h;exists _,(aq (aD (aC bz (aC cI ao (aR aP (aR aP (pv 0) ao) (pv 1))) (aC cI (bD (v:=.int 32) rfl T.Vo (_,rfl)) (pv 1)))));exists _,rfl,t,_,_,_,rfl,rfl,Uj.of b.tup,pF _ _ _ b.few,_,rfl,e,_,_,_,rfl,rfl,Uj.of b.Vr,Nf d,_,_,rfl,rfl,.inl (by decide,by decide),_,rfl,_,_,rfl,rfl,.inl (by decide,by decide),_,_,rfl,rfl;unfold ht at q;rw[show ((32*j:Nat):Int)=32*(j:Int)from by lia]at q;exact q
inductive xF(vs:List V)(H:Hp)(Q:VK)(_e1:XK):Prop
 | mk (j n:Nat) (_:vs=[.int (j:Int),.int (n:Int)]) (_:32*j<=n) (_:Q (.int (wide n j:Nat)) H)
theorem jH(T:Tx K mg a):aV P w K mg base Ui 1 a.ac8 a.acl ["number","upto"] xF:=by
 refine T.YS.F.Ul xf λc A b s H d Q E f h=>?_;obtain⟨j,n,rfl,g,q⟩:=h;exists _,(aq (aD (aK (yz rfl) rfl T.afV Tw.Gf (aa (aC bz (pv 1) (aC cI (bD (v:=.int 32) rfl T.Vo (_,rfl)) (pv 0))) (aa (bD (v:=.int 32) rfl T.Vo (_,rfl)) ak)))));exists _,rfl,_,rfl,_,_,rfl,rfl,.inl (by decide,by decide),_,_,rfl,rfl,_,_,rfl;have e:(if (32:Int)<(n:Int) - 32*(j:Int)then (32:Int)else (n:Int) - 32*(j:Int))=((wide n j:Nat):Int):=by
  unfold wide;split <;> lia
 rw[<-e]at q;exact q
inductive JN(vs:List V)(H:Hp)(Q:VK)(_e1:XK):Prop
 | mk (t ah:Addr) (ns:List Int) (rest:List V) (j:Nat) (_:vs=[.ref t,.int (j:Int),.int (cF ns j)]) (_:Tab H t ah ns rest) (_:bc ns) (_:32*j<ns.length) (_:∀m H',yZ ns j m->aQ H H'->Q (.int m) H')
theorem J7(T:Tx K mg a):aV P w K mg base Ui 5 a.afE a.ae7 ["tables","number","block"] JN:=by
 refine T.afK.F.Ul J8 λn A f s H o Q E c h=>?_;obtain⟨t,l,b,rest,j,rfl,d,k,r,q⟩:=h;exists _,(aq (aD (aC bh (aF T.YQ (o7 T) c (aa (pv 0) (aa (pv 1) ak))) (aF T.afJ (JX T) c (aa (pv 2) (aa (aF T.YS (jH T) c (aa (pv 1) (aa (aR aP (pv 0) ao) ak))) ak))))));have i:j<=many b.length:=by
  unfold many;lia
 have p:1<=wide b.length j/\wide b.length j<=32:=by
  unfold wide;lia
 exists _,rfl,_,rfl,t,l,b,rest,j,rfl,d,i;refine(_,rfl,_,rfl,_,rfl,t,_,_,_,rfl,rfl,Uj.of d.tup,oh _ _ _ d.few,j,b.length,rfl,by lia,?_);refine(cF b j,((wide b.length j:Nat):Int),rfl,by lia,by lia,λM m e g=>(_,_,rfl,rfl,?_));rw[acb]at e;exact q _ m (yZ.of k e.1 e.2) g
structure KB(H:Hp)(t ah nd bl:Addr)(ns lows:List Int)(S:Nat)(xs:List V):Prop where
 tab:Tab H t ah ns [.ref nd]
 Wl:H nd=some (.tup xs)
 bls:H bl=some (.lst ((bB ns).map V.int))
 low:Em ns lows
 sz:ik lows.length S
 heap:jk lows S 1 xs
inductive rz(K:PySem.W.Frag)(vs:List V)(H:Hp)(Q:VK)(_e1:XK):Prop
 | mk (p:Addr) (ns:List Int) (_:vs=[.ref p]) (_:My K H p (ns.map V.int)) (_:ns.length<=4096) (_:bc ns) (_:Tree ns) (_:∀r t ah nd bl lows S xs H',H bl=none->H r=none->H t=none->aQ H H'->H' r=some (.tup [.ref t,.ref bl])->KB H' t ah nd bl ns lows S xs->Q (.ref r) H')
theorem rY(T:Tx K mg a):aV P w K mg base Ui 6 a.aba a.aaY ["bits"] (rz K):=by
 refine T.abo.F.Ul cJ λa2 A U s H vs Q E n h=>?_;obtain⟨p,d,rfl,hS,Z,L,ht,q⟩:=h;refine(_,(aj (bu (aF T.aa3 (pJ T) n (aa (pv 0) ak)))
  (aj (aA 1 cJ.nd (aF T.YM (nj T) n (aa (pv 0) ak)))
  (aj (rQ (i:=2) cJ.nd rfl (ahT rfl) (aR aP (pv 1) ao))
  (aj (aA 3 cJ.nd (aR aP (pv 1) ao))
  (aj (Bk (i:=4) cJ.nd rfl rfl rfl ((bZ.one (j:=2) rfl (ag1 rfl) rfl rfl (ag1 rfl)),rfl,by decide) (uN rfl T.Xj (aa (pv 3) ak)) (λ_ _ _ _=>(aF T.afK (J7 T) n (aa (pv 2) (aa (pv 0) (aa (pv 1) ak))))))
  (aq (aD (gf (aa (gf (aa (aR aP (pv 2) ao) (aa (aR aP (pv 2) ao) (aa (cU gn rfl T.XS Tw.mR (aa (aF T.afi (Fx T) n (aa (pv 4) ak)) ak)) ak)))) (aa (pv 3) ak)))))))))),?_)
 refine(_,rfl,p,d,rfl,hS,Z,L,ht,λH1 g=>?_);refine(_,rfl,p,d,rfl,g.seq hS,Z,L,λr b t M H2 O C W o u=>?_);exists _,rfl,r,_,_,_,rfl,rfl,Uj.of W,rfl;exists _,rfl,r,_,_,_,rfl,rfl,Uj.of W,rfl;have e:=bC d;have a1:many d.length<=128:=by
  unfold many;lia
 exists _,rfl,b,_,rfl,My.of u;refine Gn (yZ d) (My.of u) (by rw[e,sizeLine_eq];lia) (λi c H' Q J sm qq=>?_) λD H3 G hD f xD m hR=>?_
 ·have I:=(aab.mp J).1;rw[e]at I;rw[jV I]at J;cases J;refine(_,rfl,_,rfl,_,rfl,t,M,d,[],i,rfl,o.same sm,L,?_,qq);unfold many at I;lia
 have R:Em d G:=(by rw[m,e],hR);exists _,rfl,t,_,_,_,rfl,rfl,Uj.of (f _ _ o.tup),rfl;exists _,rfl,t,_,_,_,rfl,rfl,Uj.of (f _ _ o.tup),rfl;refine(_,rfl,D,G,rfl,My.of xD,by lia,λS r4 H4 V Vq a0 B x4 hv=>?_);refine(r4,_,rfl,.inl (My.of x4,λY N=>?_));have z:=az N (.tup V);refine((by show 3<=sizeLine;decide),λX k=>?_);have y:=az k (.tup [.int (d.length:Int),.ref M,.ref Y]);refine(_,rfl,(by show 2<=sizeLine;decide),λr7 l=>?_);have x:=az l (.tup [.ref X,.ref b]);have v:=f.trans (B.trans (z.trans (y.trans x)));refine q r7 X M Y b G S V _ (g.free O) ((g.trans (C.trans (f.trans (B.trans (z.trans y))))).free l) ((g.trans (C.trans (f.trans (B.trans z)))).free k) (g.trans (C.trans v)) au ((x _ _ au,v _ _ o.Vr,aad _),x _ _ (y _ _ au),v _ _ u,R,Vq,hv)
inductive uH(vs:List V)(H:Hp)(Q:VK)(_e1:XK):Prop
 | mk (p:Addr) (ds:List Int) (_:vs=[.ref p]) (_:H p=some (.lst (ds.map V.int))) (_:gF ds) (_:ds.length<=2048) (_:∀H',aQ H H'->Q .non H')
theorem uo(T:Tx K mg a):aV P w K mg base Ui 1 a.abS a.abi ["depths"] uH:=by
 refine T.ab6.F.Ul gW λO A l s H R Q E S h=>?_;obtain⟨p,b,rfl,e,k,U,q⟩:=h;refine(_,(aj (aX (aG iH (aK aL rfl T.Ur Tw.aY (aa (pv 0) ak)) (bD (v:=.int 2048) rfl T.afo (_,rfl))) (aq bY) aM)
  (aj (aX (PW.pt (lY (aG dN (aK aL rfl T.Ur Tw.aY (aa (pv 0) ak)) ao) (kW (aG pQ (aR gr (pv 0) ao) ao)))) (aq bY) aM)
  (aq (bJ PassesOwn.never rfl (Gb rfl T.afX Tw.Ex (aa (pv 0) (aa (b8 n8 (pv 0) (cD ao) dH) ak))) (nA rfl (bW (aW 1 gW.nd) (bW (aW 2 gW.nd) jl))) (aq (aX (my (vH jq jq ao (pv 2) (aC bh (pv 1) ao))) (aq bY) aM)))))),?_)
 have C:(b.map V.int).length=b.length:=aaa ..;have W:0<b.length:=(aab.mp k.1).1;refine(_,rfl,p,_,rfl,.inl (My.of e),_,_,rfl,rfl,_,rfl,bF (λc=>?_) λc=>?_)
 ·have c:(2048:Int)<((b.map V.int).length:Int):=of_decide_eq_true c;rw[C]at c;lia
 refine(_,rfl,p,_,rfl,.inl (My.of e),rfl,_,rfl,bF (λc=>?_) λc=>?_)
 ·have c:V.int ((b.map V.int).length:Int)=V.int 0:=of_decide_eq_true c;injection c with c
  rw[C]at c;lia
 refine(_,rfl,p,_,_,_,rfl,rfl,My.of e,pN (i:=0) k.1,rfl,_,rfl,qy rfl ?_);refine(_,rfl,_,rfl,_,rfl,p,_,rfl,My.of e,λc L=>?_);have j:=az L (.lst (dm (b.map V.int) (some 1) none));have M:dm (b.map V.int) (some 1) none=(b.drop 1).map V.int:=Mu b 1;have m:upd H c (.lst (dm (b.map V.int) (some 1) none)) c=some (.lst ((b.drop 1).map V.int)):=by rw[au,M]
 generalize upd H c (.lst (dm (b.map V.int) (some 1) none))=N at *;exists p,c,_,_,rfl,My.of (j _ _ e),My.of m;refine Ov (xs:=b.map V.int) (ys:=(b.drop 1).map V.int) (λi g f=>(∃o n,g=[some (.ref p),o,n])/\aQ N f) ((none,none,rfl),aQ.refl _) ?_ ?_ ?_
 ·rintro i g f _ ⟨_,d⟩;exact(My.of (d _ _ (j _ _ e)),My.of (d _ _ m))
 ·rintro i x y g f t I G ⟨⟨o,n,rfl⟩,d⟩ ht;obtain⟨u,J,rfl⟩:=int_at I;obtain⟨v,r,rfl⟩:=int_at G;rw[agx,ajp]at r;have B:=k.2 i u v J r;have D:=az ht (.tup [.int u,.int v]);exists t,_,rfl,Uj.of au,rfl,_,_,rfl,_,_,rfl,rfl;exact(_,rfl,_,_,rfl,rfl,_,rfl,bF (λ_=>(_,rfl,_,_,rfl,rfl,_,_,rfl,rfl,_,rfl,qy B.2 ((_,_,rfl),d.trans D))) λz=>absurd (decide_eq_true B.1) z)
 ·rintro g f ⟨_,d⟩;exact q f (j.trans d)
inductive vG(vs:List V)(H:Hp)(Q:VK)(_e1:XK):Prop
 | mk (p:Addr) (ds:List Int) (_:vs=[.ref p]) (_:H p=some (.lst (ds.map V.int))) (_:gF ds) (_:ds.length<=2048) (_:∀r H',H r=none->aQ H H'->H' r=some (.lst ((brk ds 0).map V.int))->Q (.ref r) H')
theorem wZ(T:Tx K mg a):aV P w K mg base Ui 2 a.acq a.abT ["depths"] vG:=by
 refine T.acM.F.Ul cY λa1 A R s H vs Q E hr h=>?_;obtain⟨p,g,rfl,G,I,hl,q⟩:=h;refine(_,(aj (bu (aF T.ab6 (uo T) hr (aa (pv 0) ak)))
  (aj (aA 1 cY.nd (cX ak))
  (aj (aA 2 cY.nd ao)
  (aj (bJ PassesOwn.never rfl (bK (pv 0)) (aW 3 cY.nd) (aj (bu (gZ PySem.F.plainAttrs_list PySem.F.slot_list_extend PySem.F.type_list_extend sV (pv 1) (aa (aC Aq (cX (aa ao ak)) (aC bz (pv 2) (pv 3))) ak)))
  (aj (bu (gZ PySem.F.plainAttrs_list PySem.F.slot_list_append PySem.F.type_list_append b7 (pv 1) (aa ao ak)))
  (aq (aA 2 cY.nd (aC bh (pv 3) ao))))))
  (aq (aD (aC mW (pv 1) (aC Aq (cX (aa ao ak)) (pv 2))))))))),?_)
 have Y:=lR I.dp;refine(_,rfl,p,g,rfl,G,I,hl,λH1 W=>?_);refine((by show 0<=sizeLine;decide),λb X=>?_);have U:=W.trans (az X (.lst []));have xb:upd H1 b (.lst []) b=some (.lst (([]:List Int).map V.int)):=au;have t:H b=none:=W.free X;generalize upd H1 b (.lst [])=H2 at *;exists _,rfl,p,rfl,(_,My.of (U _ _ G));refine cu (xs:=g.map V.int) (λi v j=>(∃(u:Int) (D:Option V) (e:List Int),v=[some (.ref p),some (.ref b),some (.int u),D]/\j b=some (.lst (e.map V.int))/\e++brk (g.drop i) u=brk g 0/\Dp (g.drop i) u)/\aQ H j) ((0,none,[],rfl,xb,rfl,I.dp),U) ?_ ?_ ?_
 ·rintro i v j _ ⟨_,m⟩;exact My.of (m _ _ G)
 ·rintro i x v j hx ⟨⟨u,D,e,rfl,z,f,hd⟩,m⟩;obtain⟨d,r,rfl⟩:=int_at hx;have hi:=(aab.mp r).1;have O:g.drop i=d::g.drop (i+1):=by
   rw[acL hi];congr 1;exact(aab.mp r).2
  rw[O]at f hd;obtain⟨d0,du,N⟩:=hd;have c:=congrArg agD f;simp only[brk,aaf,abD,aaE]at c;rw[Y]at c;have hu:u - d<=4096:=by lia
  have ub:e.length<=4096:=by lia
  exists _,rfl,.inl (rfl,_,My.of z);refine((by show 1<=sizeLine;decide),λC h1=>(_,rfl,_,rfl,_,_,rfl,rfl,C,u - d,[.int 0],rfl,rfl,au,by lia,by lia,?_,λy M=>?_))
  ·rw[sizeLine_eq];show 1*_<=_;lia
  have S:=(az h1 (.lst [.int 0])).trans (az M (.lst (aaF (u - d).toNat [.int 0]).flatten));have x3:upd (upd j C (.lst [.int 0])) y (.lst (aaF (u - d).toNat [.int 0]).flatten) y=some (.lst ((aaF (u - d).toNat (0:Int)).map V.int)):=by
   rw[au,G4]
  have J:=S _ _ z;have L:=m.trans S;generalize upd (upd j C (.lst [.int 0])) y (.lst (aaF (u - d).toNat [.int 0]).flatten)=Z at *;exists b,y,_,_,rfl,rfl,J,x3,?_
  ·rw[aaa,aaa,abD,sizeLine_eq];lia
  have n:upd Z b (.lst (e.map V.int++(aaF (u - d).toNat (0:Int)).map V.int)) b=some (.lst ((e++aaF (u - d).toNat 0).map V.int)):=by
   rw[au,aal]
  have V6:=bQ L t (.lst (e.map V.int++(aaF (u - d).toNat (0:Int)).map V.int));generalize upd Z b (.lst (e.map V.int++(aaF (u - d).toNat (0:Int)).map V.int))=H4 at *;exists _,rfl,.inl (rfl,_,My.of n),b,_,_,rfl,rfl,n,?_
  ·rw[aaa,aaf,abD,sizeLine_eq];lia
  refine(_,rfl,_,_,rfl,rfl,(d+1,_,e++aaF (u - d).toNat 0++[1],rfl,?_,?_,N),bQ V6 t _)
  ·rw[au,aal (l₂:=[1])];rfl
  ·rw[<-f];simp[brk]
 ·rintro v j ⟨⟨u,D,e,rfl,z,f,hd⟩,m⟩;rw[aaa,ahP]at f hd;have hu:0<=u:=hd;have c:=congrArg agD f;simp only[brk,aaf,abD]at c;rw[Y]at c;exists _,rfl;refine GR (i:=2) (k:=u) (xs:=[.int 0]) (λQ' q=>q) rfl (by lia) (by decide) (by lia) λp1 H4 a0 B n=>?_;rw[G4]at n;refine(b,p1,_,_,rfl,rfl,B _ _ z,n,?_,λp2 o=>?_)
  ·rw[aaa,aaa,abD,sizeLine_eq];lia
  refine q p2 _ ((m.trans B).free o) (m.trans (B.trans (az o _))) ?_;rw[au,<-aal];exact congrArg (λl:List Int=>some (HO.lst (l.map V.int))) f
inductive wK(vs:List V)(H:Hp)(Q:VK)(E:XK):Prop
 | mk (at0 most:Int) (_:vs=[.int at0,.int most]) (_:0<=at0) (_:at0<=most) (_:Q .non H)
theorem dw(T:Tx K mg a):aV P w K mg base Ui 1 a.acj a.abM ["at","most"] wK:=by
 refine T.Xh.F.Ul u5 λf A d s H i Q E j h=>?_;obtain⟨g,e,rfl,l,k,q⟩:=h;exists _,(aq (aX (PW.pt (lY (aG jw (pv 0) ao) (kW (aG iH (pv 0) (pv 1))))) (aq bY) aM));refine(_,rfl,_,_,rfl,rfl,_,rfl,bF (λc=>?_) λc=>?_)
 ·have c:=of_decide_eq_true c;lia
 refine(_,rfl,_,rfl,_,_,rfl,rfl,_,rfl,bF (λb=>?_) λb=>?_)
 ·have b:=of_decide_eq_true b;lia
 exact q
theorem dM.outL{f b:Addr}{c:qw}{cs:List Addr}{Um:List V}{xs:List V}(h:dM H f c cs Um)(e:H b=some (.lst xs)):b∉cs:=λz=>by
 obtain⟨i,g⟩:=aaM z;obtain⟨j,v,u,_,d,_⟩:=h.cells i b g;rw[e]at d;cases d
inductive KN(f:Addr)(vs:List V)(H:Hp)(Q:VK)(_e1:XK):Prop
 | mk (sn bl:Addr) (ss:List Int) (xs:List V) (n:Nat) (x:V) (cs:List Addr) (_:vs=[.int (n:Int)]) (_:iY H f bV cs [.ref sn,.ref bl]) (_:H sn=some (.lst (ss.map V.int))) (_:H bl=some (.lst xs)) (_:sn≠bl) (_:ss.length<=16000000) (_:xs[n]?=some x) (_:Q x (upd H sn (.lst ((ss++[(n:Int)]).map V.int))))
theorem Ca(T:Tx K mg a):fP P w K mg base 1 KN:=by
 refine Rq DP (λ_ _ _ _ _ t y=>match t,y with | [_],_=>rfl) λf C H Q h=>?_;obtain⟨b,d,e,j,n,x,c,rfl,g,o,m,v,B,l,q⟩:=h;have k:=iY.out g o;have u:=iY.out g m;refine(rfl,c,[.ref b,.ref d],g,λG A i s D=>(_,(aj (bu (gZ PySem.F.plainAttrs_list PySem.F.slot_list_append PySem.F.type_list_append b7 (pv 1) (aa (pv 0) ak)))
  (aj (aX (vH jq jw ao (pv 0) (aK aL rfl T.Ur Tw.aY (aa (pv 2) ak))) (aq (aD (aR gr (pv 2) (pv 0)))) aM)
  (aq (aD ao)))),?_))
 have r:hide H c b=some (.lst (e.map V.int)):=by rw[bx k];exact o
 have p:upd (hide H c) b (.lst (e.map V.int++[.int (n:Int)])) d=some (.lst j):=by rw[aJ (ags v),bx u];exact m
 have E:=(aab.mp l).1;exists _,rfl,.inl (rfl,_,My.of r),_,rfl,b,_,_,rfl,rfl,r,?_
 ·rw[aaa,sizeLine_eq];lia
 refine(_,rfl,_,_,rfl,rfl,_,rfl,bF (λ_=>?_) λz=>absurd (decide_eq_true (show (0:Int)<=(n:Int) by lia)) z);refine(_,rfl,d,_,rfl,.inl (My.of p),_,_,rfl,rfl,_,rfl,bF (λ_=>?_) λz=>absurd (decide_eq_true (show (n:Int)<(j.length:Int) by lia)) z);exists _,rfl,_,rfl,d,_,_,_,rfl,rfl,My.of p,Ht l;show Q x (over H c (upd (hide H c) b (.lst (e.map V.int++[.int (n:Int)]))));rw[vM k,nW];rw[aal]at q;exact q
inductive Dh(Pt:Addr)(vs:List V)(H:Hp)(Q:VK)(_e1:XK):Prop
 | mk (bl sn:Addr) (_:vs=[.ref bl,.ref sn]) (_:TabAt H Pt (yo eX) bV.qual) (_:∀f cs H2,H f=none->nu Pt H H2->TabAt H2 Pt (yo eX) bV.qual->iY H2 f bV cs [.ref sn,.ref bl]->Q (.ref f) H2)
theorem CV(T:Tx K mg a)(B:Bs mg base a):aV P w K mg base Ui 1 a.aeK a.ZS ["_law_blocks","_law_seen"] (Dh a.VF):=by
 refine Va.maker0 (T:=bV) (pos:=yo eX) T.aeR.F tD Bd B.bm T.afN B.afO (λc H Q E h=>?_) rfl (λc H Q E h=>?_)
 ·obtain⟨s,b,rfl,_⟩:=h;rfl
 obtain⟨d,b,rfl,l,q⟩:=h;refine(l,[.ref b,.ref d],λj m e=>?_,rfl,λn o p k r i g f=>q n o p k i g f)
 match j,e with
 | 0,e=>cases e;exact(_,rfl,rfl)
 | 1,e=>cases e;exact(_,rfl,rfl)
 | j+2,e=>simp at e
theorem fP.weak{P:Program}{w:World}{K:PySem.W.Frag}{mg:Str->Option Value}{base:Heap}{k:Nat}{e d:Addr->Sp}(F:fP P w K mg base k e)(h:∀f c H Q,d f c H Q E0->e f c H Q E0):fP P w K mg base k d:=
 λf A b s H g c Q j l r i=>F f A b s H g c Q j l r (h f c H Q i)
inductive mK(R:Hp->LK->Prop)(f:Addr)(vs:List V)(H:Hp)(Q:VK)(_e1:XK):Prop
 | mk (L:LK) (ss:List Int) (n:Nat) (x:V) (sn:Addr) (_:f=L.f) (_:vs=[.int (n:Int)]) (_:R H L) (_:L.wr=some sn) (_:H sn=some (.lst (ss.map V.int))) (_:sn≠L.bl) (_:H L.bl=some (.lst L.all)) (_:ss.length<16000000) (_:L.all[L.off+n]?=some x) (_:Q x (L.put H (ss++[((L.off+n:Nat):Int)])))
theorem CJ(T:Tx K mg a):fP P w K mg base 1 (mK Vk):=fP.weak (Ca T) λf r H Q h=>by
 obtain⟨L,e,n,x,g,rfl,rfl,⟨l,p,m,d,o⟩,b,j,i,k,s,c,q⟩:=h;rw[d]at b;cases b;rw[l,agB]at c q;rw[LK.put_some d]at q;exact(g,L.bl,e,L.all,n,x,m,rfl,o,j,k,i,by lia,c,q)
theorem Dd(T:Tx K mg a):fP P w K mg base 2 (mK Vp):=by
 refine Fz jZ (λ_ _ _ _ C F=>match C,F with | [_],_=>rfl) λf R H Q h=>?_;obtain⟨L,d,n,x,j,rfl,rfl,⟨g,o,c,S,l,B⟩,k,e,O,y,m,p,q⟩:=h;have t:j∉c:=dM.outL l e;have D:L.bl∉c:=dM.outL l y;have b:Tx K mg a->fP P w K mg base 1 (mK Vk):=CJ;refine(rfl,c,[.ref g,.int (o:Int)],l,λU A r s E=>(_,(dW ((b T).mono (by decide)) E (i:=1) rfl (aa (aC bh (pv 2) (pv 0)) ak)),?_));have I:hide H c j=some (.lst (d.map V.int)):=by rw[bx t];exact e
 have G:hide H c L.bl=some (.lst L.all):=by rw[bx D];exact y
 obtain⟨u,J,z,N⟩:=(Vk.hasFn _ _ B).1;exists g,u,J,rfl,z,N,_,rfl,_,rfl,_,_,rfl,rfl,z,(g,L.wr,L.bl,L.off - o,L.all),d,o+n,x,j,rfl,?_,B,k,I,O,G,m,?_
 ·exact congrArg (λv=>[V.int v]) (by lia)
 ·show L.all[L.off - o+(o+n)]?=some x;rw[show L.off - o+(o+n)=L.off+n by lia];exact p
 have M:((g,L.wr,L.bl,L.off - o,L.all):LK).put (hide H c) (d++[((L.off - o+(o+n):Nat):Int)])=upd (hide H c) j (.lst ((d++[((L.off+n:Nat):Int)]).map V.int)):=by
  rw[LK.put_some (L:=(g,L.wr,L.bl,L.off - o,L.all)) k,show L.off - o+(o+n)=L.off+n by lia]
 show Q x (over H c (((g,L.wr,L.bl,L.off - o,L.all):LK).put (hide H c) (d++[((L.off - o+(o+n):Nat):Int)])));rw[M,vM t,nW];rw[LK.put_some k]at q;exact q
theorem Mq(T:Tx K mg a):fP P w K mg base 3 (mK WD):=by
 refine Fz jZ (λ_ _ _ _ C F=>match C,F with | [_],_=>rfl) λf R H Q h=>?_;obtain⟨L,d,n,x,j,rfl,rfl,⟨g,o,c,S,l,B⟩,k,e,O,y,m,p,q⟩:=h;have t:j∉c:=dM.outL l e;have D:L.bl∉c:=dM.outL l y;have b:Tx K mg a->fP P w K mg base 2 (mK Vp):=Dd;refine(rfl,c,[.ref g,.int (o:Int)],l,λU A r s E=>(_,(dW ((b T).mono (by decide)) E (i:=1) rfl (aa (aC bh (pv 2) (pv 0)) ak)),?_));have I:hide H c j=some (.lst (d.map V.int)):=by rw[bx t];exact e
 have G:hide H c L.bl=some (.lst L.all):=by rw[bx D];exact y
 obtain⟨u,J,z,N⟩:=(Vp.hasFn _ _ B).1;exists g,u,J,rfl,z,N,_,rfl,_,rfl,_,_,rfl,rfl,z,(g,L.wr,L.bl,L.off - o,L.all),d,o+n,x,j,rfl,?_,B,k,I,O,G,m,?_
 ·exact congrArg (λv=>[V.int v]) (by lia)
 ·show L.all[L.off - o+(o+n)]?=some x;rw[show L.off - o+(o+n)=L.off+n by lia];exact p
 have M:((g,L.wr,L.bl,L.off - o,L.all):LK).put (hide H c) (d++[((L.off - o+(o+n):Nat):Int)])=upd (hide H c) j (.lst ((d++[((L.off+n:Nat):Int)]).map V.int)):=by
  rw[LK.put_some (L:=(g,L.wr,L.bl,L.off - o,L.all)) k,show L.off - o+(o+n)=L.off+n by lia]
 show Q x (over H c (((g,L.wr,L.bl,L.off - o,L.all):LK).put (hide H c) (d++[((L.off - o+(o+n):Nat):Int)])));rw[M,vM t,nW];rw[LK.put_some k]at q;exact q
theorem cH(T:Tx K mg a):fP P w K mg base 3 PX:=λf A b s H k u Q m t r h=>by
 obtain⟨L,l,n,x,rfl,rfl,e,c,d,q⟩:=h;obtain⟨i,j⟩:=e.look.both.2;obtain⟨p,o⟩:=e.seen i j;rcases e.look with g|g|g
 ·exact((CJ T).mono (by decide)) L.f A b s H k _ Q m t r (L,l,n,x,i,rfl,rfl,g,j,p,o,e.nodes,c,d,q)
 ·exact((Dd T).mono (by decide)) L.f A b s H k _ Q m t r (L,l,n,x,i,rfl,rfl,g,j,p,o,e.nodes,c,d,q)
 ·exact(Mq T) L.f A b s H k _ Q m t r (L,l,n,x,i,rfl,rfl,g,j,p,o,e.nodes,c,d,q)
inductive Ab(Pt:Addr)(vs:List V)(H:Hp)(Q:VK)(_e1:XK):Prop
 | mk (g:Addr) (off:Nat) (_:vs=[.ref g,.int (off:Int)]) (_:TabAt H Pt (bU bw) aN.qual) (_:∀f cs H2,H f=none->(∀c∈cs,H c=none)->nu Pt H H2->TabAt H2 Pt (bU bw) aN.qual->dM H2 f aN cs [.ref g,.int (off:Int)]->Q (.ref f) H2)
theorem kZ(T:Tx K mg a)(B:Bs mg base a):aV P w K mg base Ui 1 a.adK a.ZQ ["look","first"] (Ab a.Uv):=by
 refine Va.makerL0 (T:=aN) (pos:=bU bw) T.YL.F zO zM B.bm T.afs B.afu (λc H Q E h=>?_) rfl (λc H Q E h=>?_)
 ·obtain⟨t,s,rfl,_⟩:=h;rfl
 obtain⟨g,b,rfl,n,q⟩:=h;refine(n,[.ref g,.int (b:Int)],λj m e=>?_,rfl,λo p r l k i f d=>q o p r l k i f d)
 match j,e with
 | 0,e=>cases e;exact(_,rfl,rfl)
 | 1,e=>cases e;exact(_,rfl,rfl)
 | j+2,e=>simp at e
structure Ask(H:Hp)(t:Addr)(L:LK)(ah:Addr)(ns ss:List Int)(rest:List V):Prop where
 tab:Tab H t ah ns rest
 asks:Asks H L ss
 bits:bc ns
 len:ns.length<=4096
 blk:∀n,n<many ns.length->L.all[L.off+n]?=some (.int (cF ns n))
theorem Ask.same{H H':Hp}{t:Addr}{L:LK}{d:Addr}{c b:List Int}{rest:List V}(h:Ask H t L d c b rest)(s:aQ H H'):Ask H' t L d c b rest:=(h.tab.same s,h.asks.same s,h.bits,h.len,h.blk)
theorem Ask.more{H:Hp}{t:Addr}{L:LK}{c:Addr}{b d tt:List Int}{rest:List V}(h:Ask H t L c b d rest)(e:tt.length<=16000000):Ask (L.put H tt) t L c b tt rest:=
 ((h.asks.putT h.tab.tup,h.asks.putT h.tab.Vr,h.tab.few),h.asks.more e,h.bits,h.len,h.blk)
inductive bO(n:Nat)(k:Nat)(ss:List Int)(ss':List Int):Prop
 | mk (tt:List Int) (_:ss'=ss++tt) (_:tt.length<=k) (_:∀x∈tt,0<=x/\x<n)
theorem bO.none{n k:Nat}(b:List Int):bO n k b b:=([],by simp,by simp,nofun)
theorem bO.one{n:Nat}(b:List Int){i:Int}(e:0<=i)(d:i<n):bO n 1 b (b++[i]):=([i],rfl,by simp,λx c=>by rw[aas.mp c];exact(e,d))
theorem bO.trans{n j k:Nat}{a b c:List Int}(h:bO n j a b)(h':bO n k b c):bO n (j+k) a c:=by
 obtain⟨t,rfl,l,m⟩:=h;obtain⟨u,rfl,f,e⟩:=h';refine(t++u,by rw[aa5],by rw[aaf];lia,λx d=>?_);rcases abd.mp d with d|d
 ·exact m x d
 ·exact e x d
theorem bO.le{n j k:Nat}{a b:List Int}(h:bO n j a b)(c:j<=k):bO n k a b:=by
 obtain⟨t,e,l,m⟩:=h;exact(t,e,by lia,m)
theorem bO.len{n k:Nat}{a b:List Int}(h:bO n k a b):b.length<=a.length+k:=by
 obtain⟨t,rfl,l,m⟩:=h;rw[aaf];lia
theorem Ask.wr{t:Addr}{L:LK}(h:Ask H t L f d M l){n:Nat}(b:n<many d.length):bO L.all.length 1 M (M++[((L.off+n:Nat):Int)]):=by
 have:=(aab.mp (h.blk n b)).1;exact bO.one M (by lia) (by lia)
inductive GC(vs:List V)(H:Hp)(Q:VK)(E:XK):Prop
 | mk (t:Addr) (L:LK) (ah:Addr) (ns ss:List Int) (rest:List V) (at0:Nat) (_:vs=[.ref t,.ref L.f,.int (at0:Int)]) (_:Ask H t L ah ns ss rest) (_:ss.length<16000000) (_:at0<=ns.length) (_:∀ss' H',bO L.all.length 1 ss ss'->aQ (L.put H ss') H'->Q (.int (ns.take at0).sum) H')
theorem fU(T:Tx K mg a):aV P w K mg base Ui 4 a.ae5 a.aev ["tables","look","at"] GC:=by
 refine T.W2.F.Ul jg λI A n s H J Q E l h=>?_;obtain⟨t,L,x,g,k,rest,b,rfl,d,m,y,q⟩:=h;refine(_,(aj (aA 3 jg.nd (aR aP (pv 0) ao))
  (aj (aA 4 jg.nd (aR aP (pv 0) ao))
  (aj (bu (aF T.Xh (dw T) l (aa (pv 2) (aa (pv 3) ak))))
  (aj (aA 5 jg.nd (aC bL (pv 2) (bD (v:=.int 32) rfl T.Vo (_,rfl))))
  (aj (aA 6 jg.nd (aC cj (pv 2) (bD (v:=.int 32) rfl T.Vo (_,rfl))))
  (aj (aX (aG dN (pv 6) ao) (aq (aD (aR aP (pv 4) (pv 5)))) aM)
  (aq (aD (aC bh (aR aP (pv 4) (pv 5)) (aF T.ZW (wL T) l (aa (dW ((cH T).mono (by decide)) l (i:=1) rfl (aa (pv 5) ak)) (aa (pv 6) ak)))))))))))),?_)
 exists _,rfl,t,_,_,_,rfl,rfl,Uj.of d.tab.tup,oh _ _ _ d.tab.few;exists _,rfl,t,_,_,_,rfl,rfl,Uj.of d.tab.tup,pF _ _ _ d.tab.few;refine(_,rfl,_,rfl,_,_,rfl,by lia,by lia,?_);exists _,rfl,_,_,rfl,rfl,(by decide,by decide);exists _,rfl,_,_,rfl,rfl,(by show (0:Int)<32;decide);have r:(b:Int) / 32=((b / 32:Nat):Int):=by lia
 have j:UT ((UV g (many g.length)).map V.int) ((b:Int) / 32)=some (.int (g.take (32*(b / 32))).sum):=by
  rw[r];exact Nf (by unfold many;lia)
 refine(_,rfl,rfl,_,rfl,bF (λc=>?_) λc=>?_)
 ·have c:V.int ((b:Int)%32)=V.int 0:=of_decide_eq_true c;injection c with c
  exists _,rfl,_,rfl,x,_,_,_,rfl,rfl,Uj.of d.tab.Vr,j;have:=q k H (bO.none k) (by rw[d.asks.id];exact aQ.refl _);rw[show b=32*(b / 32)from by lia]at this;exact this
 have c:(b:Int)%32≠0:=λz=>c (decide_eq_true (congrArg V.int z));obtain⟨o,D,u,C⟩:=d.asks.look.fn;have p:b / 32<many g.length:=by
  unfold many;lia
 exists _,rfl,_,rfl,x,_,_,_,rfl,rfl,Uj.of d.tab.Vr,j,L.f,o,D,rfl,u,C,_,rfl,u,L,k,b / 32,_,rfl,congrArg (λv=>[v]) (congrArg V.int r),d.asks,m,d.blk _ (by first|exact p|lia);refine(_,rfl,_,_,rfl,(show 0<=(b:Int)%32 from by lia),(show (b:Int)%32<=32 from by lia),λG B=>(_,_,rfl,rfl,?_));have:=q _ G (d.wr p) B;have e:(g.take b).sum=(g.take (32*(b / 32))).sum+ones (cF g (b / 32)) ((b:Int)%32).toNat:=by
  rw[nZ d.bits _ _ (by lia)];congr 2;lia
 rw[e]at this;exact this
inductive Ik(vs:List V)(H:Hp)(Q:VK)(E:XK):Prop
 | mk (t:Addr) (L:LK) (ah:Addr) (ns ss:List Int) (rest:List V) (at0:Nat) (_:vs=[.ref t,.ref L.f,.int (at0:Int)]) (_:Ask H t L ah ns ss rest) (_:ss.length<16000000) (_:at0<=ns.length) (_:∀ss' H',bO L.all.length 1 ss ss'->aQ (L.put H ss') H'->Q (.int (ht ns at0)) H')
theorem yj(T:Tx K mg a):aV P w K mg base Ui 5 a.afF a.ae9 ["tables","look","at"] Ik:=by
 refine T.Z2.F.Ul Ie λo A f s H p Q E k h=>?_;obtain⟨t,L,m,j,g,rest,e,rfl,l,d,b,q⟩:=h;exists _,(aq (aD (aC bz (aC cI ao (aF T.W2 (fU T) k (aa (pv 0) (aa (pv 1) (aa (pv 2) ak))))) (pv 2))));exact(_,rfl,_,rfl,_,rfl,t,L,m,j,g,rest,e,rfl,l,d,b,λc n w i=>(_,_,rfl,rfl,.inl (by decide,by decide),_,rfl,_,_,rfl,rfl,q c n w i))
inductive HN(vs:List V)(H:Hp)(Q:VK)(E:XK):Prop
 | mk (t:Addr) (L:LK) (ah:Addr) (ns ss:List Int) (rest:List V) (at0:Nat) (b:Int) (_:vs=[.ref t,.ref L.f,.int (at0:Int)]) (_:Ask H t L ah ns ss rest) (_:ss.length<16000000) (_:ns[at0]?=some b) (_:∀ss' H',bO L.all.length 1 ss ss'->aQ (L.put H ss') H'->Q (.int b) H')
theorem jX(T:Tx K mg a):aV P w K mg base Ui 4 a.afD a.ae4 ["tables","look","at"] HN:=by
 refine T.Xi.F.Ul Ih λz A j s H B Q E e h=>?_;obtain⟨t,L,C,k,r,rest,c,b,rfl,d,g,m,q⟩:=h;have p:=(aab.mp m).1;refine(_,(aj (bu (aF T.Xh (dw T) e (aa (pv 2) (aa (aC bz (aR aP (pv 0) ao) ao) ak))))
  (aq (aD (aF T.YH (qL T) e (aa (dW ((cH T).mono (by decide)) e (i:=1) rfl (aa (aC bL (pv 2) (bD (v:=.int 32) rfl T.Vo (_,rfl))) ak)) (aa (aC cj (pv 2) (bD (v:=.int 32) rfl T.Vo (_,rfl))) ak)))))),?_)
 refine(_,rfl,_,rfl,t,_,_,_,rfl,rfl,Uj.of d.tab.tup,oh _ _ _ d.tab.few,_,_,rfl,rfl,_,_,rfl,by lia,by lia,?_);obtain⟨o,x,n,u⟩:=d.asks.look.fn;have l:c / 32<many k.length:=by
  unfold many;lia
 have y:(c:Int) / 32=((c / 32:Nat):Int):=by lia
 exists L.f,o,x,rfl,n,u,_,rfl,_,_,rfl,rfl,(by decide,by decide),n,L,r,c / 32,_,rfl,congrArg (λv=>[v]) (congrArg V.int y),d.asks,g,d.blk _ (by first|exact l|lia);exists _,rfl,_,_,rfl,rfl,(by show (0:Int)<32;decide),_,_,rfl,(show 0<=(c:Int)%32 from by lia);rw[show bit (cF k (c / 32)) ((c:Int)%32).toNat=b from by rw[show ((c:Int)%32).toNat=c%32 from by lia,bit_at d.bits _ _ (by lia),show 32*(c / 32)+c%32=c from by lia,m];rfl];exact q _ _ (d.wr l) (aQ.refl _)
inductive QV(K:PySem.W.Frag)(vs:List V)(H:Hp)(Q:VK)(_e1:XK):Prop
 | mk (p:Addr) (ns:List Int) (goal:Int) (_:vs=[.ref p,.int goal]) (_:Uj K H p (ns.map V.int)) (_:0<ns.length) (_:ns.length<=4096) (_:∀lo:Nat,lo<ns.length->(lo=0 \/ ∃x,ns[lo]?=some x/\x<=goal)->(lo+1=ns.length \/ ∃x,ns[lo+1]?=some x/\goal<x)->Q (.int (lo:Int)) H)
theorem o8(T:Tx K mg a):aV P w K mg base Ui 1 a.aaI a.aaB ["numbers","goal"] (QV K):=by
 refine T.aaN.F.Ul bN λJ A r s H L Q E M h=>?_;obtain⟨p,i,g,rfl,u,D,N,q⟩:=h;refine(_,(aj (aA 2 bN.nd ao)
  (aj (aA 3 bN.nd (aK aL rfl T.Ur Tw.aY (aa (pv 0) ak)))
  (aj (nG PassesOwn.never (aG iH (aC bz (pv 3) (pv 2)) ao) (aj (aA 4 bN.nd (aC bL (aC bh (pv 2) (pv 3)) ao))
  (aq (aX (aG jq (aR aP (pv 0) (pv 4)) (pv 1)) (aq (aA 2 bN.nd (pv 4))) (aq (aA 3 bN.nd (pv 4)))))))
  (aq (aD (pv 2)))))),?_)
 exists _,rfl,p,_,rfl,.inr u;exists λm t B=>∃(b f:Nat) (k:Option V),t=[some (.ref p),some (.int g),some (.int (b:Int)),some (.int (f:Int)),k]/\B=H/\m=f - b/\b<f/\f<=i.length/\(b=0 \/ ∃x,i[b]?=some x/\x<=g)/\(f=i.length \/ ∃x,i[f]?=some x/\g<x),(_,0,i.length,none,?_,rfl,rfl,D,aad _,.inl rfl,.inl rfl)
 ·rw[aaa];rfl
 rintro m t B ⟨b,f,k,rfl,rfl,rfl,I,n,y,v⟩;refine(_,rfl,_,rfl,_,_,rfl,rfl,_,_,rfl,rfl,_,rfl,bF (λc=>?_) λc=>?_)
 ·have c:(1:Int)<(f:Int) - (b:Int):=of_decide_eq_true c;exists _,λ G O z=>z;have l:((b:Int)+(f:Int)) / 2=(((b+f) / 2:Nat):Int):=by lia
  have C:(b+f) / 2<i.length:=by lia
  have j:i[(b+f) / 2]?=some i[(b+f) / 2]:=aac C;have o:UT (i.map V.int) (((b:Int)+(f:Int)) / 2)=some (.int i[(b+f) / 2]):=by
   rw[l];exact pN j
  exists _,rfl,_,rfl,_,_,rfl,rfl,_,_,rfl,rfl,(by decide,by decide);refine(_,rfl,_,rfl,p,_,_,_,rfl,rfl,u,o,_,rfl,_,_,rfl,rfl,_,rfl,bF (λd=>?_) λd=>?_)
  ·have d:=of_decide_eq_true d;refine(_,rfl,f - (b+f) / 2,by lia,(b+f) / 2,f,some (.int (((b:Int)+(f:Int)) / 2)),?_,rfl,rfl,by lia,n,.inr (_,j,d),v);rw[<-l];rfl
  ·have d:¬i[(b+f) / 2]<=g:=λz=>d (decide_eq_true z);refine(_,rfl,(b+f) / 2 - b,by lia,b,(b+f) / 2,some (.int (((b:Int)+(f:Int)) / 2)),?_,rfl,rfl,by lia,by lia,y,.inr (_,j,by lia));rw[<-l];rfl
 ·have c:¬(1:Int)<(f:Int) - (b:Int):=λz=>c (decide_eq_true z);have e:f=b+1:=by lia
  subst e;exact(_,rfl,q b (by lia) y v)
inductive zX(vs:List V)(H:Hp)(Q:VK)(E:XK):Prop
 | mk (nth many:Int) (_:vs=[.int nth,.int many]) (_:0<=nth) (_:nth<many) (_:Q .non H)
theorem zQ(T:Tx K mg a):aV P w K mg base Ui 1 a.adP a.ac7 ["nth","many"] zX:=by
 refine T.ad8.F.Ul zE λg A d s H i Q E j h=>?_;obtain⟨e,f,rfl,l,k,q⟩:=h;exists _,(aq (aX (PW.pt (lY (aG jw (pv 0) ao) (kW (aG Bt (pv 0) (pv 1))))) (aq bY) aM));refine(_,rfl,_,_,rfl,rfl,_,rfl,bF (λc=>?_) λc=>?_)
 ·have c:=of_decide_eq_true c;lia
 refine(_,rfl,_,rfl,_,_,rfl,rfl,_,rfl,bF (λb=>?_) λb=>?_)
 ·have b:=of_decide_eq_true b;lia
 exact q
inductive zN(vs:List V)(H:Hp)(Q:VK)(E:XK):Prop
 | mk (t:Addr) (L:LK) (ah:Addr) (ns ss:List Int) (rest:List V) (nth:Int) (_:vs=[.ref t,.ref L.f,.int nth]) (_:Ask H t L ah ns ss rest) (_:ss.length<16000000) (_:0<=nth) (_:nth<ns.sum) (_:∀(H':Hp) (p:Nat) (ss':List Int),ns[p]?=some 1->(ns.take p).sum=nth->bO L.all.length 1 ss ss'->aQ (L.put H ss') H'->Q (.int (p:Int)) H')
theorem Ay(T:Tx K mg a):aV P w K mg base Ui 4 a.adO a.ac6 ["tables","look","nth"] zN:=by
 refine T.ad7.F.Ul lu λa0 A N s H vs Q E p h=>?_;obtain⟨t,L,y,b,Y,rest,d,rfl,R,B,S,Z,q⟩:=h;have ht:=R.tab.tup;have z:=R.tab.Vr;have r:=R.bits;have hl:=R.len;have hM:many b.length<=128:=by
  unfold many;lia
 have g:b.take (32*many b.length)=b:=aai (by unfold many;lia);have D:UT ((UV b (many b.length)).map V.int) (-1)=some (.int b.sum):=by
  rw[Kw,aal,g];exact mV _ _
 refine(_,(aj (aA 3 lu.nd (aR aP (pv 0) ao))
  (aj (bu (aF T.ad8 (zQ T) p (aa (pv 2) (aa (aR aP (pv 3) (j5 fX ao)) ak))))
  (aj (aA 4 lu.nd (aF T.aaN (o8 T) p (aa (pv 3) (aa (pv 2) ak))))
  (aq (aD (aC bh (aC cI (bD (v:=.int 32) rfl T.Vo (_,rfl)) (pv 4)) (aF T.afI (HY T) p (aa (dW ((cH T).mono (by decide)) p (i:=1) rfl (aa (pv 4) ak)) (aa (aC bz (pv 2) (aR aP (pv 3) (pv 4))) ak))))))))),?_)
 exists _,rfl,t,_,_,_,rfl,rfl,Uj.of ht,pF _ _ _ R.tab.few;exists _,rfl,_,rfl,_,rfl,y,_,_,_,rfl,rfl,Uj.of z,D,_,_,rfl,S,Z;refine(_,rfl,_,rfl,y,_,_,rfl,Uj.of z,(by rw[cZ];lia),(by rw[cZ];lia),λc C j m=>?_);rw[cZ]at C m;have n:c<many b.length:=by
  rcases m with m|⟨x,e,_⟩
  ·have e:c=many b.length:=by lia
   rcases j with j|⟨x,l,j⟩
   ·have e3:many b.length=0:=by lia
    have:b.sum=0:=by
     rw[<-g,e3];rfl
    lia
   ·rw[pP (by lia)]at l;cases l;rw[e,g]at j;lia
  ·have:=(aab.mp e).1;rw[cZ]at this;lia
 have d1:(b.take (32*c)).sum<=d:=by
  rcases j with j|⟨x,l,j⟩
  ·subst j;exact S
  ·rw[pP (by lia)]at l;cases l;exact j
 have d2:d<(b.take (32*c+32)).sum:=by
  rcases m with m|⟨x,l,m⟩
  ·lia
  ·rw[pP (by lia)]at l;cases l;exact m
 have M:UT ((UV b (many b.length)).map V.int) (c:Int)=some (.int (b.take (32*c)).sum):=pN (pP (by lia));have sb:=nZ r c 32 (by lia);obtain⟨k0,J,I,G⟩:=Mx (cF b c) (d - (b.take (32*c)).sum) (by lia) 32 (by lia);obtain⟨o,fd,W,g1⟩:=R.asks.look.fn;exists _,rfl,_,_,rfl,rfl,.inl (by decide,by decide),L.f,o,fd,rfl,W,g1,_,rfl,W,L,Y,c,_,rfl,rfl,R.asks,B,R.blk _ (by first|exact hm|lia);exists _,rfl,_,rfl,_,rfl,y,_,_,_,rfl,rfl,Uj.of (R.asks.putT z),M,_,_,rfl,rfl;refine(_,_,rfl,λX O k hk u U=>?_,λX O no=>absurd (I,G) (no k0 J));exists _,_,rfl,rfl;have u:bit (cF b c) k=1:=u;have U:ones (cF b c) k=d - (b.take (32*c)).sum:=U;have hp:b[32*c+k]?=some 1:=by
  have:=bit_at r c k hk;rw[u]at this;cases e:b[32*c+k]? with
  | none=>rw[e]at this;cases this
  | some x =>
   rw[e]at this;have this:1=x:=this;rw[this]
 have hs:(b.take (32*c+k)).sum=d:=by
  have:=nZ r c k (by lia);lia
 have:=q X (32*c+k) _ hp hs (R.wr n) O;rw[show ((32*c+k:Nat):Int)=32*(c:Int)+(k:Int)from by lia]at this;exact this
theorem dM.out{f b:Addr}{c:qw}{cs:List Addr}{Um:List V}{xs:List V}(h:dM H f c cs Um)(e:H b=some (.tup xs)):b∉cs:=λz=>by
 obtain⟨i,g⟩:=aaM z;obtain⟨j,v,u,_,d,_⟩:=h.cells i b g;rw[e]at d;cases d
def Quiet(H:Hp)(f b:Addr)(xs:List V):Prop:=(∃c,dM H f aZ c [.ref b])/\H b=some (.tup xs)
theorem Quiet.fn{f :Addr}{xs:List V}(h:Quiet H f C xs):∃o fd,H f=some (aO f o)/\o.data=.func fd:=by
 obtain⟨⟨j,c⟩,_⟩:=h;obtain⟨k,g,d,i,e,t,b,_⟩:=c.ex;exact(_,_,b,rfl)
theorem Quiet.same{H H':Hp}{f c:Addr}{xs:List V}(h:Quiet H f c xs)(s:aQ H H'):Quiet H' f c xs:=by
 obtain⟨⟨g,i⟩,d⟩:=h;exact((g,i.same λb o e=>s _ _ e),s _ _ d)
inductive q9(f:Addr)(vs:List V)(H:Hp)(Q:VK)(_e1:XK):Prop
 | mk (nd:Addr) (xs:List V) (n:Nat) (x:V) (_:vs=[.int (n:Int)]) (_:Quiet H f nd xs) (_:xs[n]?=some x) (_:Q x H)
theorem fY(T:Tx K mg a):fP P w K mg base 1 q9:=by
 refine Fz sG (λ_ _ _ _ j l=>match j,l with | [_],_=>rfl) λf p H Q h=>?_;obtain⟨c,i,n,x,rfl,⟨⟨b,g⟩,e⟩,m,q⟩:=h;have k:=dM.out g e;refine(rfl,b,[.ref c],g,λt A d s r=>(_,(aR aP (pv 1) (pv 0)),?_));have o:hide H b c=some (.tup i):=by rw[bx k];exact e
 exists _,rfl,_,rfl,c,_,_,_,rfl,rfl,Uj.of o,Ht m;show Q x (over H b (hide H b));rw[nW];exact q
inductive zy(Pt:Addr)(vs:List V)(H:Hp)(Q:VK)(_e1:XK):Prop
 | mk (t nd:Addr) (x y:V) (xs:List V) (_:vs=[.ref t]) (_:H t=some (.tup [x,y,.ref nd])) (_:H nd=some (.tup xs)) (_:TabAt H Pt (bU bT) aZ.qual) (_:∀f H2,H f=none->nu Pt H H2->TabAt H2 Pt (bU bT) aZ.qual->Quiet H2 f nd xs->Q (.ref f) H2)
theorem qp(T:Tx K mg a)(B:Bs mg base a):aV P w K mg base Ui 1 a.adQ a.ZR ["tables"] (zy a.Ut):=by
 refine Va.makerL1 (T:=aZ) (pos:=bU bT) T.Z1.F pI Aj B.bm T.aft B.afv (λl H Q E h=>?_) rfl (λz A b s H l Q E D h=>?_)
 ·obtain⟨t,c,x,y,k,rfl,_⟩:=h;rfl
 obtain⟨t,c,x,y,k,rfl,ht,f,g,q⟩:=h;exists _,(rQ (i:=1) pI.nd rfl (ahT rfl) (aR aP (pv 0) ao));exists _,rfl,t,_,_,_,rfl,rfl,Uj.of ht,rfl;refine(g,[.ref c],λj m e=>?_,rfl,λr u v p C d o n=>q r v p d o ((u,n),d _ _ f (TabAt.ne g f nofun)))
 match j,e with
 | 0,e=>cases e;exact(_,rfl,rfl)
 | j+1,e=>simp at e
inductive Fy(vs:List V)(H:Hp)(Q:VK)(_e1:XK):Prop
 | mk (f nd:Addr) (xs:List V) (ns:List Int) (S s n a0 e:Nat) (g:Int) (_:vs=[.int (S:Int),.ref f,.int (n:Int),.int g,.int (s:Int)]) (_:Quiet H f nd xs) (_:jk ns S 1 xs) (_:ns.length<=S) (_:s<=1) (_:n*2^e=S+a0) (_:a0+2^e<=ns.length) (_:1<=n) (_:p6 xs n<=g) (_:∀i:Nat,Yu ns s a0 (a0+2^e) g i->Q (.int (i:Int)) H)
theorem j7(T:Tx K mg a):aV P w K mg base Ui 2 a.aa8 a.aaV ["size","look","node","goal","side"] Fy:=by
 refine T.ZX.F.Ul dB λa2 A D s H vs Q E X h=>?_;obtain⟨f,U,J,R,S,j,n,C,e,g,rfl,L,p,l,r,Y,t,h1,hg,q⟩:=h;refine(_,(aj (aA 5 dB.nd (pv 2))
  (aj (nG PassesOwn.never (aG jw (pv 5) (pv 0)) (aj (aA 5 dB.nd (aC bh (aC cI ao (pv 5)) (pv 4)))
  (aq (aX (aG iH (dW ((fY T).mono (by decide)) X (i:=1) rfl (aa (pv 5) ak)) (pv 3)) (aq (aA 5 dB.nd (aC bz (aC bh (pv 5) ao) (aC cI ao (pv 4))))) aM))))
  (aq (aD (aC bz (pv 5) (pv 0)))))),?_)
 exists _,rfl;refine(λm G N=>∃(k d b:Nat),G=[some (.int (S:Int)),some (.ref f),some (.int (n:Int)),some (.int g),some (.int (j:Int)),some (.int (k:Int))]/\m=d/\xU R J S j C (C+2^e) g d k b/\N=H,
  (_,n,e,C,rfl,rfl,xU.start Y h1 hg,rfl),?_)
 rintro d G N ⟨k,_,b,rfl,rfl,hd,rfl⟩;refine(_,rfl,_,rfl,_,_,rfl,rfl,_,rfl,bF (λc=>?_) λc=>?_)
 ·have c:(k:Int)<(S:Int):=of_decide_eq_true c;rcases d with _|d
  ·have:=(hd.hit p l t r).1;lia
  obtain⟨v,I,W,kb,d1,d2⟩:=hd.step p l t r;exists _,λ a1 H2 z=>z;exists _,rfl,_,_,rfl,rfl,.inl (by decide,by decide),_,rfl,_,_,rfl,rfl;obtain⟨o,fd,M,g1⟩:=L.fn;have u:(2:Int)*(k:Int)+(j:Int)=((2*k+j:Nat):Int):=by lia
  have O:=hd.one;exists f,o,fd,rfl,M,g1,_,rfl,M,U,J,2*k+j,_,?_,L,I
  ·exact congrArg (λv=>[v]) (congrArg V.int u)
  refine(_,rfl,_,_,rfl,rfl,_,rfl,bF (λz=>?_) λz=>?_)
  ·have z:g<v:=of_decide_eq_true z;obtain⟨B,x⟩:=d2 z;refine(_,rfl,_,_,rfl,rfl,_,rfl,_,_,rfl,rfl,.inl (by decide,by decide),_,_,rfl,rfl,d,by lia,2*k+1 - j,d,B,?_,rfl,x,rfl);rw[show ((2*k+1 - j:Nat):Int)=2*(k:Int)+(j:Int)+1 - 2*(j:Int)from by lia];rfl
  ·have z:¬g<v:=λy=>z (decide_eq_true y);obtain⟨B,x⟩:=d1 (by lia);refine(d,by lia,2*k+j,d,B,?_,rfl,x,rfl);rw[<-u];rfl
 ·have c:¬(k:Int)<(S:Int):=λy=>c (decide_eq_true y);rcases d with _|d
  ·obtain⟨u,Z⟩:=hd.hit p l t r;exists _,rfl,_,rfl,_,_,rfl,rfl;have:=q b Z;rw[show (b:Int)=(k:Int) - (S:Int)from by lia]at this;exact this
  ·obtain⟨v,I,W,_⟩:=hd.step p l t r;lia
inductive Lf(vs:List V)(H:Hp)(Q:VK)(_e1:XK):Prop
 | mk (f nd:Addr) (xs:List V) (ns:List Int) (S st:Nat) (g:Int) (_:vs=[.int (ns.length:Int),.ref f,.int (st:Int),.int g]) (_:Quiet H f nd xs) (_:ik ns.length S) (_:jk ns S 1 xs) (_:ns.length<=4096) (_:st<=ns.length) (_:∀(x:V) (H':Hp),aQ H H'->((x=.non /\ ∀j c,st<=j->ns[j]?=some c->g<c) \/ ∃i:Nat,x=.int (i:Int)/\Yu ns 0 st ns.length g i)->Q x H')
theorem qF(T:Tx K mg a):aV P w K mg base Ui 3 a.aa6 a.aaU ["many","look","start","goal"] Lf:=by
 refine T.abm.F.Ul j6 λa5 A a3 s H vs Q E J h=>?_;obtain⟨f,nd,I,d,S,k,g,rfl,hA,L,U,hl,h1,q⟩:=h;refine(_,(aj (bJ PassesOwn.never rfl (bK (aF T.ZZ (DN T) J (aa (pv 0) (aa (pv 2) (aa (pv 0) ak))))) (aW 4 j6.nd) (aq (aX (aG jq (dW ((fY T).mono (by decide)) J (i:=1) rfl (aa (pv 4) ak)) (pv 3)) (aq (aD (aF T.ZX (j7 T) J (aa (aF T.Xg (jb T) J (aa (pv 0) ak)) (aa (pv 1) (aa (pv 4) (aa (pv 3) (aa ao ak)))))))) aM)))
  (aq (aD eV))),?_)
 have a1:=L.pos;obtain⟨h,eS,t,hj⟩:=id L;refine(_,rfl,_,rfl,_,rfl,d.length,k,d.length,rfl,h1,aad _,hl,λl r H1 a2 a4 Y D=>?_);have:=ik.uniq a2 L;subst this;have ch:=tQ (st:=k) (h,eS) h1 t a1;obtain⟨_,v1,_,_⟩:=oO U t (aad _) ch (aad _);have X:=hA.same Y;exists r,rfl,(_,My.of D);refine cu (xs:=nats (cover l k d.length)) (λi G N=>(∃O,G=[some (.int (d.length:Int)),some (.ref f),some (.int (k:Int)),some (.int g),O])/\N=H1 /\ ∃(b:Nat),Chain l k d.length ((cover l k d.length).drop i) (l+b) (l+d.length)/\k<=b /\ ∀j c,k<=j->j<b->d[j]?=some c->g<c) ((none,rfl),rfl,k,ch,aad _,λj c v R=>by lia) ?_ ?_ ?_
 ·rintro i G N _ ⟨_,rfl,_⟩;exact My.of D
 ·rintro i x G N B ⟨⟨O,rfl⟩,rfl,b,C,hb,m⟩;unfold nats at B;rw[aah]at B;obtain⟨n,V,rfl⟩:∃n,(cover l k d.length)[i]?=some n/\x=.int (n:Int):=by
   cases e:(cover l k d.length)[i]? with
   | none=>rw[e]at B;cases B
   | some n=>rw[e]at B;exact(n,rfl,(aao B).symm)
  have hi:=(aab.mp V).1;have hd:(cover l k d.length).drop i=n::(cover l k d.length).drop (i+1):=by
   rw[acL hi];congr 1;exact(aab.mp V).2
  rw[hd]at C;obtain⟨e,W,⟨n1,n2,n3,n4⟩,Xm⟩:=C;have hp:0<2^e:=agl e;have e5:(n+1)*2^e=l+(b+2^e):=by rw[ahf,W];lia
  rw[e5]at Xm n3;obtain⟨w1,w2,w3⟩:=v1 n (aag V);obtain⟨M,m1,m2,m3⟩:=U.least t e n b W (by lia) n1;have ev:=iz m1;obtain⟨o,fd,e1,g1⟩:=X.fn;exists f,o,fd,rfl,e1,g1,_,rfl,e1,nd,I,n,_,rfl,X,w3;refine(_,rfl,_,_,rfl,rfl,_,rfl,bF (λz=>?_) λz=>?_)
  ·have z:p6 I n<=g:=of_decide_eq_true z;refine(_,rfl,d.length,rfl,by lia,λS2 a0=>?_);have:=ik.uniq a0 L;subst this;refine(_,rfl,_,rfl,_,rfl,f,nd,I,d,S2,0,n,b,e,g,rfl,X,U,t,by decide,W,by lia,n1,z,λp Z=>?_);refine q _ _ Y (.inr (p,rfl,?_));obtain⟨p1,p2,p3,p4⟩:=Z;refine(by lia,by lia,p3,λj c v R j3 u=>?_);rw[if_pos rfl]at j3;rcases aaq j b with y|y
   ·exact m j c v y u
   ·exact p4 j c y (by lia) (by rw[if_pos rfl];exact j3) u
  ·have z:¬p6 I n<=g:=λy=>z (decide_eq_true y);refine((_,rfl),rfl,b+2^e,Xm,by lia,λj c v R u=>?_);rcases aaq j b with y|y
   ·exact m j c v y u
   ·have:=m3 j c y R u;lia
 ·rintro G N ⟨⟨O,rfl⟩,rfl,b,C,hb,m⟩;have e0:(nats (cover l k d.length)).length=(cover l k d.length).length:=aaa ..;rw[e0,ahP]at C;have C:l+b=l+d.length:=C;refine q _ _ Y (.inl (rfl,λj c v u=>?_));have:=(aab.mp u).1;exact m j c v (by lia) u
inductive Qc(vs:List V)(H:Hp)(Q:VK)(_e1:XK):Prop
 | mk (f nd:Addr) (xs:List V) (ns:List Int) (S sp:Nat) (g:Int) (_:vs=[.int (ns.length:Int),.ref f,.int (sp:Int),.int g]) (_:Quiet H f nd xs) (_:ik ns.length S) (_:jk ns S 1 xs) (_:ns.length<=4096) (_:sp<=ns.length) (_:∀(x:V) (H':Hp),aQ H H'->((x=.non /\ ∀j c,j<sp->ns[j]?=some c->g<c) \/ ∃i:Nat,x=.int (i:Int)/\Yu ns 1 0 sp g i)->Q x H')
theorem ue(T:Tx K mg a):aV P w K mg base Ui 3 a.abL a.aa7 ["many","look","stop","goal"] Qc:=by
 refine T.ab4.F.Ul lV λa7 A a5 s H vs Q E O h=>?_;obtain⟨f,nd,L,C,S,k,g,rfl,hA,R,X,hl,h1,q⟩:=h;refine(_,(aj (bJ PassesOwn.never rfl (Nm rfl T.acU (aa (aF T.ZZ (DN T) O (aa (pv 0) (aa ao (aa (pv 2) ak)))) ak) Tw.nM) (aW 4 lV.nd) (aq (aX (aG jq (dW ((fY T).mono (by decide)) O (i:=1) rfl (aa (pv 4) ak)) (pv 3)) (aq (aD (aF T.ZX (j7 T) O (aa (aF T.Xg (jb T) O (aa (pv 0) ak)) (aa (pv 1) (aa (pv 4) (aa (pv 3) (aa ao ak)))))))) aM)))
  (aq (aD eV))),?_)
 have a3:=R.pos;obtain⟨h,eS,v,hj⟩:=id R;refine(_,rfl,_,rfl,C.length,0,k,rfl,aaP _,h1,hl,λd r H1 a4 a6 Uu I=>?_);have:=ik.uniq a4 R;subst this;have ch:=tQ (st:=0) (h,eS) (aaP k) (by lia) a3;obtain⟨_,v1,_,_⟩:=oO X v h1 ch (aad _);have V2:=hA.same Uu;have e0:(nats (cover d 0 k)).length=(cover d 0 k).length:=aaa ..;exists r,_,rfl,My.of I;refine GP (xs:=nats (cover d 0 k)) (λi J U=>(∃W,J=[some (.int (C.length:Int)),some (.ref f),some (.int (k:Int)),some (.int g),W])/\U=H1 /\ ∃(b:Nat),Chain d 0 k ((cover d 0 k).take ((cover d 0 k).length - i)) (d+0) (d+b)/\b<=k /\ ∀j c,b<=j->j<k->C[j]?=some c->g<c) ((none,rfl),rfl,k,by rw[ag7,agp];exact ch,aad _,λj c D N=>by lia) ?_ ?_ ?_
 ·rintro i J U _ ⟨_,rfl,_⟩;exact My.of I
 ·rintro i x J U hi t ⟨⟨W,rfl⟩,rfl,b,G,hb,l⟩;rw[e0]at hi t;unfold nats at t;rw[aah]at t;obtain⟨n,hn,rfl⟩:∃n,(cover d 0 k)[(cover d 0 k).length - 1 - i]?=some n/\x=.int (n:Int):=by
   cases e:(cover d 0 k)[(cover d 0 k).length - 1 - i]? with
   | none=>rw[e]at t;cases t
   | some n=>rw[e]at t;exact(n,rfl,(aao t).symm)
  have et:(cover d 0 k).take ((cover d 0 k).length - i)=(cover d 0 k).take ((cover d 0 k).length - (i+1))++[n]:=by
   rw[show (cover d 0 k).length - i=((cover d 0 k).length - (i+1))+1 from by lia,acI,show (cover d 0 k).length - (i+1)=(cover d 0 k).length - 1 - i from by lia,hn];rfl
  obtain⟨y,V,y2⟩:=tU ((cover d 0 k).length - (i+1)) G;have m:((cover d 0 k).take ((cover d 0 k).length - (i+1))).length=(cover d 0 k).length - (i+1):=by
   rw[aaD];lia
  rw[et,ahS (by rw[m];exact aad _),aai (by rw[m];exact aad _)]at V;rw[et,List.drop_append_of_le_length (by rw[m];exact aad _),agi (by rw[m];exact aad _),ahB]at y2;obtain⟨e,Y,⟨n1,n2,n3,n4⟩,Z⟩:=y2;have hy:=Dw V;obtain⟨B,rfl⟩:∃B,y=d+B:=(y - d,by lia);have hp:0<2^e:=agl e;have e5:(n+1)*2^e=d+(B+2^e):=by rw[ahf,Y];lia
  have Z:(n+1)*2^e=d+b:=Z;rw[e5]at Z n3;obtain⟨w1,w2,w3⟩:=v1 n (aag hn);obtain⟨M,m1,m2,m3⟩:=X.least v e n B Y (by lia) n1;have ev:=iz m1;obtain⟨o,fd,e1,g1⟩:=V2.fn;exists f,o,fd,rfl,e1,g1,_,rfl,e1,nd,L,n,_,rfl,V2,w3;refine(_,rfl,_,_,rfl,rfl,_,rfl,bF (λz=>?_) λz=>?_)
  ·have z:p6 L n<=g:=of_decide_eq_true z;refine(_,rfl,C.length,rfl,by lia,λS2 a2=>?_);have:=ik.uniq a2 R;subst this;refine(_,rfl,_,rfl,_,rfl,f,nd,L,C,S2,1,n,B,e,g,rfl,V2,X,v,by decide,Y,by lia,n1,z,λp a1=>?_);refine q _ _ Uu (.inr (p,rfl,?_));obtain⟨p1,p2,p3,p4⟩:=a1;refine(aaP _,by lia,p3,λj c D N j3 u=>?_);rw[if_neg (by decide)]at j3;rcases aaq j b with y|y
   ·exact p4 j c (by lia) (by lia) (by rw[if_neg (by decide)];exact j3) u
   ·exact l j c y N u
  ·have z:¬p6 L n<=g:=λy=>z (decide_eq_true y);refine((_,rfl),rfl,B,V,by lia,λj c D N u=>?_);rcases aaq j b with y|y
   ·have:=m3 j c D (by lia) u;lia
   ·exact l j c y N u
 ·rintro J U ⟨⟨W,rfl⟩,rfl,b,G,hb,l⟩;rw[e0,ahn,aiz]at G;have G:d+0=d+b:=G;exact q _ _ Uu (.inl (rfl,λj c D u=>l j c (by lia) D u))
structure BP where
 t:Addr
 L:LK
 ah:Addr
 nd:Addr
 ns:List Int
 lows:List Int
 S:Nat
 xs:List V
structure U9(H:Hp)(Ph:Addr)(p:BP)(ss:List Int):Prop where
 ask:Ask H p.t p.L p.ah p.ns ss [.ref p.nd]
 Wl:H p.nd=some (.tup p.xs)
 low:Em p.ns p.lows
 sz:ik p.lows.length p.S
 heap:jk p.lows p.S 1 p.xs
 tab:TabAt H Ph (bU bT) aZ.qual
structure Did(H H':Hp)(Ph:Addr)(L:LK)(k:Nat)(ss ss':List Int):Prop where
 kp:∀b o,H b=some o->b≠Ph->L.wr≠some b->H' b=some o
 seen:∀sn,L.wr=some sn->H' sn=some (.lst (ss'.map V.int))
 tab:TabAt H' Ph (bU bT) aZ.qual
 wr:bO L.all.length k ss ss'
theorem Did.trans{H l i:Hp}{d:Addr}{L:LK}{j k:Nat}{a b c:List Int}(h:Did H l d L j a b)(h':Did l i d L k b c):Did H i d L (j+k) a c:=
 (λx o e g f=>h'.kp x o (h.kp x o e g f) g f,h'.seen,h'.tab,h.wr.trans h'.wr)
theorem Did.le{H d:Hp}{c:Addr}{L:LK}{j k:Nat}{a b:List Int}(h:Did H d c L j a b)(e:j<=k):Did H d c L k a b:=(h.kp,h.seen,h.tab,h.wr.le e)
theorem Did.same{H f d:Hp}{c:Addr}{L:LK}{j:Nat}{a b:List Int}(h:Did H f c L j a b)(s:aQ f d):Did H d c L j a b:=
 (λx o e k i=>s _ _ (h.kp x o e k i),λg e=>s _ _ (h.seen g e),TabAt.same h.tab s,h.wr)
theorem U9.self{p:BP}(h:U9 H f p d):Did H H f p.L 0 d d:=(λ_ _ e _ _=>e,λb e=>(h.ask.asks.seen b e).1,h.tab,bO.none d)
theorem TabAt.put{P:Addr}{pos:Pos}{q:Str}{L:LK}{tt:List Int}(h:TabAt H P pos q)(a:Asks H L d):TabAt (L.put H tt) P pos q:=by
 cases e:L.wr with
 | none =>
  rw[LK.put_none e];exact h
 | some b =>
  rw[LK.put_some e];exact TabAt.upd h (a.seen b e).1
theorem U9.look{H':Hp}{p:BP}(h:U9 H f p d){k:Nat}(w:bO p.L.all.length k d M)(s:aQ (p.L.put H M) H'):Did H H' f p.L k d M:=
 (λx o e g b=>s _ _ (by rw[LK.put_ne b];exact e),λc e=>s _ _ (by rw[LK.put_some e];exact au),TabAt.same (TabAt.put h.tab h.ask.asks) s,w)
theorem U9.did{H':Hp}{p:BP}{k:Nat}(h:U9 H f p d)(c:Did H H' f p.L k d M)(t:M.length<=16000000):U9 H' f p M:=by
 have l:∀b o,H b=some o->(∀g,o ≠ .Uq g)->b≠f:=λb o e n=>TabAt.ne h.tab e n;have m:∀b o,H b=some o->(∀g,o ≠ .lst g)->p.L.wr≠some b:=λb o e n z=>by
  rw[(h.ask.asks.seen b z).1]at e;cases e;exact n _ rfl
 have i:∀b o,H b=some o->(∀g,o ≠ .Uq g)->(∀g,o ≠ .lst g)->H' b=some o:=λb o e s r=>c.kp b o e (l b o e s) (m b o e r);have q:p.L.wr≠some p.L.bl:=λz=>(h.ask.asks.seen _ z).2 rfl;have u:=c.kp _ _ h.ask.asks.nodes (l _ _ h.ask.asks.nodes nofun) q;exact(((i _ _ h.ask.tab.tup nofun nofun,i _ _ h.ask.tab.Vr nofun nofun,h.ask.tab.few),(h.ask.asks.look.kept i,λj e=>(c.seen j e,(h.ask.asks.seen j e).2),u,t),h.ask.bits,h.ask.len,h.ask.blk),i _ _ h.Wl nofun nofun,h.low,h.sz,h.heap,c.tab)
theorem U9.same{H H':Hp}{c:Addr}{p:BP}{b:List Int}(h:U9 H c p b)(s:aQ H H'):U9 H' c p b:=(h.ask.same s,s _ _ h.Wl,h.low,h.sz,h.heap,TabAt.same h.tab s)
theorem U9.lenL{p:BP}(h:U9 H f p d):p.lows.length=many p.ns.length/\many p.ns.length<=128:=(h.low.len,by have:=h.ask.len;unfold many;lia)
theorem U9.made{H':Hp}{p:BP}(h:U9 H f p d)(b:nu f H H')(t:TabAt H' f (bU bT) aZ.qual):Did H H' f p.L 0 d d:=
 (λx o e g _=>b x o e g,λc e=>b _ _ (h.ask.asks.seen c e).1 (TabAt.ne h.tab (h.ask.asks.seen c e).1 nofun),t,bO.none d)
inductive uG(vs:List V)(H:Hp)(Q:VK)(_e1:XK):Prop
 | mk (j at0:Nat) (_:vs=[.int (j:Int),.int (at0:Int)]) (_:Q (.int ((at0 - 32*j:Nat):Int)) H)
theorem ux(T:Tx K mg a):aV P w K mg base Ui 1 a.abN a.abb ["number","at"] uG:=by
 refine T.ab5.F.Ul uv λd A c s H f Q E g h=>?_;obtain⟨j,b,rfl,q⟩:=h;exists _,(aq (aD (aK (Jk rfl) rfl T.agc Tw.QC (aa (aC bz (pv 1) (aC cI (bD (v:=.int 32) rfl T.Vo (_,rfl)) (pv 0))) (aa ao ak)))));exists _,rfl,_,rfl,_,_,rfl,rfl,.inl (by decide,by decide),_,_,rfl,rfl,_,_,rfl;have e:(if (b:Int) - 32*(j:Int)<0 then (0:Int)else (b:Int) - 32*(j:Int))=((b - 32*j:Nat):Int):=by
  split <;> lia
 rw[<-e]at q;exact q
inductive wH(vs:List V)(H:Hp)(Q:VK)(_e1:XK):Prop
 | mk (t ah:Addr) (ns:List Int) (rest:List V) (_:vs=[.ref t]) (_:Tab H t ah ns rest) (_:Q (.int (many ns.length:Nat)) H)
theorem mZ(T:Tx K mg a):aV P w K mg base Ui 1 a.acn a.abO ["tables"] wH:=by
 refine T.Z0.F.Ul u9 λg A d s H i Q E j h=>?_;obtain⟨t,f,b,rest,rfl,c,q⟩:=h;exists _,(aq (aD (aC bz (aK aL rfl T.Ur Tw.aY (aa (aR aP (pv 0) ao) ak)) ao)));exists _,rfl,t,_,_,_,rfl,rfl,Uj.of c.tup,pF _ _ _ c.few,f,_,rfl,.inr (Uj.of c.Vr),_,_,rfl,rfl;have e:(((UV b (many b.length)).map V.int).length:Int) - 1=((many b.length:Nat):Int):=by
  rw[aaa,cZ];lia
 rw[<-e]at q;exact q
inductive uf(vs:List V)(H:Hp)(Q:VK)(_e1:XK):Prop
 | mk (j:Nat) (x:V) (_:vs=[.int (j:Int),x]) (_:((x=.non/\Q .non H) \/ ∃k:Nat,x=.int (k:Int)/\Q (.int ((32*j+k:Nat):Int)) H))
theorem lX(T:Tx K mg a):aV P w K mg base Ui 1 a.abQ a.abf ["number","within"] uf:=by
 refine T.Z4.F.Ul uD λc A b s H d Q E e h=>?_;obtain⟨j,x,rfl,h⟩:=h;refine(_,(aj (aX (fQ (lM (pv 1))) (aq (aD eV)) aM)
  (aq (aD (aC bh (aC cI (bD (v:=.int 32) rfl T.Vo (_,rfl)) (pv 0)) (pv 1))))),?_)
 rcases h with ⟨rfl,q⟩|⟨k,rfl,q⟩
 ·exact(_,rfl,_,rfl,il q)
 ·refine(_,rfl,_,rfl,dI (_,rfl,_,_,rfl,rfl,.inl (by decide,by decide),_,rfl,_,_,rfl,rfl,?_));rw[show ((32*j+k:Nat):Int)=32*(j:Int)+(k:Int)from by lia]at q;exact q
inductive ut(vs:List V)(H:Hp)(Q:VK)(_e1:XK):Prop
 | mk (t:Addr) (L:LK) (ah:Addr) (ns ss:List Int) (rest:List V) (j at0:Nat) (g:Int) (_:vs=[.ref t,.ref L.f,.int (j:Int),.int (at0:Int),.int g]) (_:Ask H t L ah ns ss rest) (_:ss.length<16000000) (_:32*j<ns.length) (_:∀x ss' H',((x=.non/\cG ns (max at0 (32*j)) (32*j+wide ns.length j) g) \/ ∃k:Nat,x=.int (k:Int)/\eF ns (max at0 (32*j)) (32*j+wide ns.length j) g k)->bO L.all.length 1 ss ss'->aQ (L.put H ss') H'->Q x H')
theorem lW(T:Tx K mg a):aV P w K mg base Ui 5 a.abP a.abe ["tables","look","number","at","goal"] ut:=by
 refine T.Z3.F.Ul gM λM A y s H N Q E e h=>?_;obtain⟨t,L,J,d,z,rest,j,c,g,rfl,b,u,D,q⟩:=h;refine(_,(aj (aA 5 gM.nd (aF T.ab5 (ux T) e (aa (pv 2) (aa (pv 3) ak))))
  (aj (aA 6 gM.nd (aF T.YS (jH T) e (aa (pv 2) (aa (aR aP (pv 0) ao) ak))))
  (aq (aD (aF T.Z4 (lX T) e (aa (pv 2) (aa (aF T.ab3 (uw T) e (aa (dW ((cH T).mono (by decide)) e (i:=1) rfl (aa (pv 2) ak)) (aa (pv 5) (aa (pv 6) (aa (aC bz (pv 4) (aF T.YQ (o7 T) e (aa (pv 0) (aa (pv 2) ak)))) ak))))) ak))))))),?_)
 obtain⟨o,I,C,G⟩:=b.asks.look.fn;have n:j<many d.length:=by
  unfold many;lia
 have m:wide d.length j<=32:=by
  unfold wide;lia
 exists _,rfl,_,rfl,j,c,rfl;exists _,rfl,_,rfl,t,_,_,_,rfl,rfl,Uj.of b.tab.tup,oh _ _ _ b.tab.few,j,d.length,rfl,adG D;exists _,rfl,L.f,o,I,rfl,C,G,_,rfl,C,L,z,j,_,rfl,rfl,b.asks,u,b.blk _ (by first|exact n|lia);have x:=b.more (tt:=z++[((L.off+j:Nat):Int)]) (by rw[aaf,agv];lia);exists _,rfl,_,rfl,_,rfl,_,rfl,_,rfl,t,J,d,rest,j,rfl,x.tab,adG n,_,_,rfl,rfl;have B:32*j+(c - 32*j)=max c (32*j):=by lia
 have w:=b.wr n;refine(cF d j,c - 32*j,wide d.length j,g - ht d (32*j),rfl,m,λp k l hd v=>?_,λp l r=>?_)
 ·have:=first_within b.bits m hd v;rw[B]at this;exact(j,_,rfl,.inr (k,rfl,q _ _ p (.inr (_,rfl,this)) w l))
 ·have:=tV b.bits m r;rw[B]at this;exact(j,_,rfl,.inl (rfl,q _ _ p (.inl (rfl,this)) w l))
inductive xT(Ph:Addr)(vs:List V)(H:Hp)(Q:VK)(_e1:XK):Prop
 | mk (p:BP) (ss:List Int) (at0:Nat) (g:Int) (_:vs=[.ref p.t,.ref p.L.f,.int (at0:Int),.int g]) (_:U9 H Ph p ss) (_:ss.length<=15999990) (_:at0<=p.ns.length) (_:∀x ss' H',((x=.non/\cG p.ns at0 p.ns.length g) \/ ∃k:Nat,x=.int (k:Int)/\eF p.ns at0 p.ns.length g k)->Did H H' Ph p.L 2 ss ss'->Q x H')
theorem xZ(T:Tx K mg a)(B:Bs mg base a):aV P w K mg base Ui 6 a.ac9 a.aco ["tables","look","at","goal"] (xT a.Ut):=by
 refine T.adx.F.Ul gq λa3 A X s H vs Q E o h=>?_;obtain⟨p,Z,b,g,rfl,d,a1,h1,q⟩:=h;refine(_,(aj (bu (aF T.Xh (dw T) o (aa (pv 2) (aa (aR aP (pv 0) ao) ak))))
  (aj (aX (aG dN (pv 2) (aR aP (pv 0) ao)) (aq (aD eV)) aM)
  (aj (aA 4 gq.nd (aC bL (pv 2) (bD (v:=.int 32) rfl T.Vo (_,rfl))))
  (aj (aA 5 gq.nd (aF T.Z3 (lW T) o (aa (pv 0) (aa (pv 1) (aa (pv 4) (aa (pv 2) (aa (pv 3) ak)))))))
  (aj (aX (fQ (Al (pv 5))) (aq (aD (pv 5))) aM)
  (aj (aA 6 gq.nd (aF T.abm (qF T) o (aa (aF T.Z0 (mZ T) o (aa (pv 0) ak)) (aa (aF T.Z1 (qp T B) o (aa (pv 0) ak)) (aa (aC bh (pv 4) ao) (aa (pv 3) ak))))))
  (aj (aX (fQ (lM (pv 6))) (aq (aD eV)) aM)
  (aq (aD (aF T.Z3 (lW T) o (aa (pv 0) (aa (pv 1) (aa (pv 6) (aa (pv 2) (aa (pv 3) ak))))))))))))))),?_)
 have a0:=d.ask.len;refine(_,rfl,_,rfl,p.t,_,_,_,rfl,rfl,Uj.of d.ask.tab.tup,rfl,_,_,rfl,by lia,by lia,?_);refine(_,rfl,_,rfl,p.t,_,_,_,rfl,rfl,Uj.of d.ask.tab.tup,rfl,rfl,_,rfl,bF (λc=>?_) λc=>?_)
 ·have c:V.int (b:Int)=V.int (p.ns.length:Int):=of_decide_eq_true c;injection c with c
  exact q _ Z H (.inl (rfl,cG.empty (by lia))) (d.self.le (by decide))
 have c:(b:Int)≠(p.ns.length:Int):=λz=>c (decide_eq_true (congrArg V.int z));have ef:(b:Int) / 32=((b / 32:Nat):Int):=by lia
 exists _,rfl,_,_,rfl,rfl,(by decide,by decide);refine(_,rfl,_,rfl,_,rfl,_,rfl,_,rfl,p.t,p.L,p.ah,p.ns,Z,_,b / 32,b,g,?_,d.ask,by lia,by lia,λx N H1 m X6 s1=>?_)
 ·rw[<-ef];rfl
 have J:=d.look X6 s1;have l1:=X6.len;have r:=d.did J (by lia);rw[show max b (32*(b / 32))=b from by lia]at m;rcases m with ⟨rfl,l⟩|⟨k,rfl,D⟩
 rotate_left
 ·refine(_,rfl,_,rfl,il (_,rfl,q _ N H1 (.inr (k,rfl,D.wider (by unfold wide;lia))) (J.le (by decide))))
 refine(_,rfl,_,rfl,dI ?_);obtain⟨I,e2⟩:=d.lenL;exists _,rfl,p.t,p.ah,p.ns,_,rfl,r.ask.tab;refine(_,rfl,p.t,p.nd,_,_,p.xs,rfl,r.ask.tab.tup,r.Wl,r.tab,λG H5 nf b5 U qu=>?_);have d5:=J.trans (r.made b5 U);have WY:=d.did d5 (by lia);have ev:[V.int ((many p.ns.length:Nat):Int),.ref G,.int ((b:Int) / 32+1),.int g]=[.int (p.lows.length:Int),.ref G,.int ((b / 32+1:Nat):Int),.int g]:=by
  rw[I,ef];rfl
 have a2:b / 32+1<=many p.ns.length:=by
  unfold many;lia
 refine(_,rfl,_,_,rfl,rfl,_,rfl,G,p.nd,p.xs,p.lows,p.S,b / 32+1,g,ev,qu,d.sz,d.heap,by lia,by lia,λx H6 s6 m=>?_);have d6:=d5.same s6;have X7:=WY.same s6;have f:cG p.ns b (32*(b / 32+1)) g\/32*(b / 32+1) > p.ns.length:=by
  rcases aaq p.ns.length (32*(b / 32+1))with z|z
  ·exact .inr z
  ·rw[show 32*(b / 32)+wide p.ns.length (b / 32)=32*(b / 32+1)from by unfold wide;lia]at l;exact .inl l
 rcases m with ⟨rfl,y⟩|⟨i,rfl,h3,h4,⟨c5,h5,W⟩,h6⟩
 ·refine(_,rfl,_,rfl,il (q _ N H6 (.inl (rfl,?_)) (d6.le (by decide))));rcases f with f|z
  ·refine f.join (d.low.none (i:=b / 32+1) (j:=many p.ns.length) (λt M C Y e=>y t M C e) ?_ (aad _));unfold many;lia
  ·rw[show 32*(b / 32)+wide p.ns.length (b / 32)=p.ns.length from by unfold wide;lia]at l;exact l
 rw[I]at h4;have hi:32*i<p.ns.length:=by
  unfold many at h4;lia
 have n:cG p.ns b (32*(b / 32+1)) g:=by
  rcases f with z|z
  ·exact z
  ·lia
 refine(_,rfl,_,rfl,dI ?_);refine(_,rfl,_,rfl,_,rfl,_,rfl,_,rfl,p.t,p.L,p.ah,p.ns,N,_,i,b,g,rfl,X7.ask,by lia,hi,λx R H7 m O s7=>?_);have d7:=d6.trans (X7.look O s7);rw[show max b (32*i)=32*i from by lia,show 32*i+wide p.ns.length i=min (32*i+32) p.ns.length from by unfold wide;lia]at m;have u:cG p.ns b (32*i) g:=n.join (d.low.none (i:=b / 32+1) (j:=i) (λt M C Y e=>h6 t M C (by rw[I];lia) (by rw[if_pos rfl];exact Y) e) (aad _) (by lia));rcases m with ⟨rfl,hn⟩|⟨k,rfl,D⟩
 ·exact absurd hn (d.low.some h5 W)
 ·refine q _ R H7 (.inr (k,rfl,?_)) d7;exact((eF.after u D (by lia)).wider (by lia))
inductive wg(vs:List V)(H:Hp)(Q:VK)(_e1:XK):Prop
 | mk (t:Addr) (L:LK) (ah:Addr) (ns ss:List Int) (rest:List V) (j up:Nat) (g:Int) (_:vs=[.ref t,.ref L.f,.int (j:Int),.int (up:Int),.int g]) (_:Ask H t L ah ns ss rest) (_:ss.length<16000000) (_:32*j<up) (_:up<=ns.length) (_:∀x ss' H',((x=.non/\cG ns (32*j) (32*j+wide up j) g) \/ ∃k:Nat,x=.int (k:Int)/\jK ns (32*j) (32*j+wide up j) g k)->bO L.all.length 1 ss ss'->aQ (L.put H ss') H'->Q x H')
theorem mj(T:Tx K mg a):aV P w K mg base Ui 5 a.acp a.abR ["tables","look","number","upto","goal"] wg:=by
 refine T.Z5.F.Ul nq λM A y s H N Q E c h=>?_;obtain⟨t,L,I,d,z,rest,j,e,g,rfl,b,u,C,J,q⟩:=h;refine(_,(aj (aA 5 nq.nd (aF T.YS (jH T) c (aa (pv 2) (aa (pv 3) ak))))
  (aq (aD (aF T.Z4 (lX T) c (aa (pv 2) (aa (aF T.acK (vW T) c (aa (dW ((cH T).mono (by decide)) c (i:=1) rfl (aa (pv 2) ak)) (aa ao (aa (pv 5) (aa (aC bz (pv 4) (aF T.YQ (o7 T) c (aa (pv 0) (aa (pv 2) ak)))) ak))))) ak)))))),?_)
 obtain⟨o,G,B,D⟩:=b.asks.look.fn;have n:j<many d.length:=by
  unfold many;lia
 have m:wide e j<=32:=by
  unfold wide;lia
 exists _,rfl,_,rfl,j,e,rfl,adG C;exists _,rfl,L.f,o,G,rfl,B,D,_,rfl,B,L,z,j,_,rfl,rfl,b.asks,u,b.blk _ (by first|exact n|lia);have x:=b.more (tt:=z++[((L.off+j:Nat):Int)]) (by rw[aaf,agv];lia);exists _,rfl,_,rfl,_,rfl,_,rfl,t,I,d,rest,j,rfl,x.tab,adG n,_,_,rfl,rfl;have w:=b.wr n;refine(cF d j,0,wide e j,g - ht d (32*j),rfl,m,λp k l hd v=>?_,λp l r=>?_)
 ·exact(j,_,rfl,.inr (k,rfl,q _ _ p (.inr (_,rfl,last_within b.bits m hd v)) w l))
 ·exact(j,_,rfl,.inl (rfl,q _ _ p (.inl (rfl,tV b.bits m r)) w l))
inductive rn(Ph:Addr)(vs:List V)(H:Hp)(Q:VK)(_e1:XK):Prop
 | mk (p:BP) (ss:List Int) (at0:Nat) (g:Int) (_:vs=[.ref p.t,.ref p.L.f,.int ((at0:Int) - 1),.int g]) (_:U9 H Ph p ss) (_:ss.length<=15999990) (_:at0<=p.ns.length+1) (_:∀x ss' H',((x=.non/\cG p.ns 0 (at0 - 1) g) \/ ∃k:Nat,x=.int (k:Int)/\jK p.ns 0 (at0 - 1) g k)->Did H H' Ph p.L 2 ss ss'->Q x H')
theorem qX(T:Tx K mg a)(B:Bs mg base a):aV P w K mg base Ui 6 a.abg a.aaZ ["tables","look","upto","goal"] (rn a.Ut):=by
 refine T.abp.F.Ul dJ λa3 A W s H vs Q E n h=>?_;obtain⟨p,X,l,g,rfl,f,a1,h1,q⟩:=h;refine(_,(aj (aX (aG jw (pv 2) ao) (aq (aD eV)) aM)
  (aj (aA 4 dJ.nd (aC bL (aC bz (pv 2) ao) (bD (v:=.int 32) rfl T.Vo (_,rfl))))
  (aj (aA 5 dJ.nd (aF T.Z5 (mj T) n (aa (pv 0) (aa (pv 1) (aa (pv 4) (aa (pv 2) (aa (pv 3) ak)))))))
  (aj (aX (fQ (Al (pv 5))) (aq (aD (pv 5))) aM)
  (aj (aA 6 dJ.nd (aF T.ab4 (ue T) n (aa (aF T.Z0 (mZ T) n (aa (pv 0) ak)) (aa (aF T.Z1 (qp T B) n (aa (pv 0) ak)) (aa (pv 4) (aa (pv 3) ak))))))
  (aj (aX (fQ (lM (pv 6))) (aq (aD eV)) aM)
  (aq (aD (aF T.Z5 (mj T) n (aa (pv 0) (aa (pv 1) (aa (pv 6) (aa (pv 2) (aa (pv 3) ak)))))))))))))),?_)
 have a0:=f.ask.len;refine(_,rfl,_,_,rfl,rfl,_,rfl,bF (λc=>?_) λc=>?_)
 ·have c:(l:Int) - 1<1:=of_decide_eq_true c;exact q _ X H (.inl (rfl,cG.empty (by lia))) (f.self.le (by decide))
 have c:¬(l:Int) - 1<1:=λz=>c (decide_eq_true z);obtain⟨d,rfl⟩:∃d,l=d+1:=(l - 1,by lia);rw[ahD]at q;have Z:((d+1:Nat):Int) - 1=(d:Int):=by lia
 have ef:(((d+1:Nat):Int) - 1 - 1) / 32=(((d - 1) / 32:Nat):Int):=by lia
 exists _,rfl,_,_,rfl,rfl,_,_,rfl,rfl,(by decide,by decide);refine(_,rfl,_,rfl,_,rfl,_,rfl,_,rfl,p.t,p.L,p.ah,p.ns,X,_,(d - 1) / 32,d,g,?_,f.ask,by lia,by lia,by lia,λx M H1 m X6 s1=>?_)
 ·rw[<-ef,<-Z];rfl
 have I:=f.look X6 s1;have l1:=X6.len;have o:=f.did I (by lia);rw[show 32*((d - 1) / 32)+wide d ((d - 1) / 32)=d from by unfold wide;lia]at m;rcases m with ⟨rfl,r⟩|⟨k,rfl,D⟩
 rotate_left
 ·refine(_,rfl,_,rfl,il (_,rfl,q _ M H1 (.inr (k,rfl,D.wider (by lia))) (I.le (by decide))))
 refine(_,rfl,_,rfl,dI ?_);obtain⟨e1,e2⟩:=f.lenL;exists _,rfl,p.t,p.ah,p.ns,_,rfl,o.ask.tab;refine(_,rfl,p.t,p.nd,_,_,p.xs,rfl,o.ask.tab.tup,o.Wl,o.tab,λG H5 nf b5 R qu=>?_);have d5:=I.trans (o.made b5 R);have WY:=f.did d5 (by lia);have ev:[V.int ((many p.ns.length:Nat):Int),.ref G,.int ((((d+1:Nat):Int) - 1 - 1) / 32),.int g]=[.int (p.lows.length:Int),.ref G,.int (((d - 1) / 32:Nat):Int),.int g]:=by
  rw[e1,ef]
 have a2:(d - 1) / 32<=many p.ns.length:=by
  unfold many;lia
 refine(_,rfl,_,rfl,G,p.nd,p.xs,p.lows,p.S,(d - 1) / 32,g,ev,qu,f.sz,f.heap,by lia,by lia,λx H6 Y m=>?_);have d6:=d5.same Y;have X7:=WY.same Y;rcases m with ⟨rfl,y⟩|⟨i,rfl,h3,h4,⟨c5,h5,U⟩,h6⟩
 ·refine(_,rfl,_,rfl,il (q _ M H6 (.inl (rfl,?_)) (d6.le (by decide))));have:=f.low.none (i:=0) (j:=(d - 1) / 32) (b:=32*((d - 1) / 32)) (λt J t1 C e=>y t J C e) (aad _) (by lia);exact this.join r
 refine(_,rfl,_,rfl,dI ?_);refine(_,rfl,_,rfl,_,rfl,_,rfl,_,rfl,p.t,p.L,p.ah,p.ns,M,_,i,d,g,?_,X7.ask,by lia,by lia,by lia,λx O H7 m N s7=>?_)
 ·rw[<-Z];rfl
 have d7:=d6.trans (X7.look N s7);rw[show 32*i+wide d i=32*(i+1)from by unfold wide;lia]at m;have u:cG p.ns (32*(i+1)) d g:=(f.low.none (i:=i+1) (j:=(d - 1) / 32) (b:=32*((d - 1) / 32)) (λt J t1 C e=>h6 t J (aaP _) C (by rw[if_neg (by decide)];lia) e) (aad _) (by lia)).join r;rcases m with ⟨rfl,hn⟩|⟨k,rfl,D⟩
 ·refine absurd ?_ (f.low.some h5 U);rw[show min (32*i+32) p.ns.length=32*(i+1)from by lia];exact hn
 ·exact q _ O H7 (.inr (k,rfl,(jK.ahead u D (by lia)).wider (by lia))) d7
inductive zW(Ph:Addr)(vs:List V)(H:Hp)(Q:VK)(_e1:XK):Prop
 | mk (p:BP) (ss:List Int) (at0:Nat) (g:Int) (_:vs=[.ref p.t,.ref p.L.f,.int (at0:Int),.int g]) (_:U9 H Ph p ss) (_:ss.length<=15999990) (_:at0<=p.ns.length) (_:∀x ss' H',((x=.non/\Qu p.ns at0 g) \/ ∃k:Nat,x=.int (k:Int)/\Gu p.ns at0 g k)->Did H H' Ph p.L 2 ss ss'->Q x H')
theorem zz(T:Tx K mg a)(B:Bs mg base a):aV P w K mg base Ui 7 a.adR a.ada ["tables","look","at","goal"] (zW a.Ut):=by
 refine T.ad9.F.Ul p7 λL A o s H M Q E r h=>?_;obtain⟨p,v,b,g,rfl,u,n,N,q⟩:=h;refine(_,(aj (bu (aF T.Xh (dw T) r (aa (pv 2) (aa (aR aP (pv 0) ao) ak))))
  (aj (aA 4 p7.nd (aF T.abp (qX T B) r (aa (pv 0) (aa (pv 1) (aa (aC bz (pv 2) ao) (aa (pv 3) ak))))))
  (aj (aX (PW.pt (iD (fQ (lM (pv 4))) (iD (aG iH (pv 2) ao) (ir (aG Bt (pv 3) ao))))) (aq (aD ao)) aM)
  (aq (aD (pv 4)))))),?_)
 refine(_,rfl,_,rfl,p.t,_,_,_,rfl,rfl,Uj.of u.ask.tab.tup,rfl,_,_,rfl,by lia,by lia,?_);refine(_,rfl,_,rfl,_,rfl,_,_,rfl,rfl,_,rfl,p,v,b,g,rfl,u,n,by lia,λx j l C f=>?_);rcases C with ⟨rfl,e⟩|⟨k,rfl,R,O,J,I⟩
 rotate_left
 ·refine(_,rfl,_,rfl,dI (dI (_,rfl,q _ j l (.inr (k,rfl,by lia,J,λi m y=>I i m (by lia))) f)))
 refine(_,rfl,_,rfl,il ?_);refine(_,rfl,_,_,rfl,rfl,_,rfl,bF (λd=>?_) λd=>dI (_,rfl,q _ j l (.inl (rfl,λi D=>?_)) f))
 rotate_left
 ·have d:¬(0:Int)<(b:Int):=λz=>d (decide_eq_true z);lia
 have d:(0:Int)<(b:Int):=of_decide_eq_true d;refine(_,rfl,_,_,rfl,rfl,_,rfl,bF (λc=>?_) λc=>(_,rfl,q _ j l (.inl (rfl,λi D=>?_)) f))
 ·have c:(0:Int)<=g:=of_decide_eq_true c;have:=q _ j l (.inr (0,rfl,by lia,by rw[jm];exact c,λi m y=>e i m (by lia))) f;exact this
 ·have c:¬(0:Int)<=g:=λz=>c (decide_eq_true z);rcases aea i with rfl|G
  ·rw[jm];lia
  ·exact e i G (by lia)
inductive sH(vs:List V)(H:Hp)(Q:VK)(E:XK):Prop
 | mk (t:Addr) (L:LK) (ah:Addr) (ns ss:List Int) (rest:List V) (at0:Nat) (b:Int) (_:vs=[.ref t,.ref L.f,.int (at0:Int),.int b]) (_:Ask H t L ah ns ss rest) (_:ss.length<16000000) (_:ns[at0]?=some b) (_:∀ss' H',bO L.all.length 1 ss ss'->aQ (L.put H ss') H'->Q .non H')
theorem j8(T:Tx K mg a):aV P w K mg base Ui 5 a.abh a.aa0 ["tables","look","at","bit"] sH:=by
 refine T.Z6.F.Ul rT λp A f s H r Q E k h=>?_;obtain⟨t,L,n,j,g,rest,e,b,rfl,m,d,l,q⟩:=h;exists _,(aq (aX (aG pQ (aF T.Xi (jX T) k (aa (pv 0) (aa (pv 1) (aa (pv 2) ak)))) (pv 3)) (aq bY) aM));exact(_,rfl,_,rfl,_,rfl,t,L,n,j,g,rest,e,b,rfl,m,d,l,λc o w i=>(_,rfl,rfl,_,rfl,qy rfl (q c o w i)))
inductive Fj(Ph:Addr)(vs:List V)(H:Hp)(Q:VK)(_e1:XK):Prop
 | mk (p:BP) (ss:List Int) (at0:Nat) (_:vs=[.ref p.t,.ref p.L.f,.int (at0:Int)]) (_:U9 H Ph p ss) (_:ss.length<=15999980) (_:Tree p.ns) (_:p.ns[at0]?=some 1) (_:∀(k:Nat) ss' H',eF p.ns at0 p.ns.length (ht p.ns at0) (k+1)->Did H H' Ph p.L 4 ss ss'->Q (.int (k:Int)) H')
theorem wY(T:Tx K mg a)(B:Bs mg base a):aV P w K mg base Ui 7 a.afa a.aey ["tables","look","at"] (Fj a.Ut):=by
 refine T.Z7.F.Ul Ga λS A i s H U Q E e h=>?_;obtain⟨p,y,b,rfl,d,R,c,o,q⟩:=h;have f:=(aab.mp o).1;refine(_,(aj (bu (aF T.Z6 (j8 T) e (aa (pv 0) (aa (pv 1) (aa (pv 2) (aa ao ak))))))
  (aq (aD (aC bz (aF T.adx (xZ T B) e (aa (pv 0) (aa (pv 1) (aa (pv 2) (aa (aF T.Z2 (yj T) e (aa (pv 0) (aa (pv 1) (aa (pv 2) ak)))) ak))))) ao)))),?_)
 refine(_,rfl,_,rfl,_,rfl,p.t,p.L,p.ah,p.ns,y,_,b,1,rfl,d.ask,by lia,o,λM Y m C=>?_);have u:=d.look m C;have W:=m.len;have v:=d.did u (by lia);refine(_,rfl,_,rfl,_,rfl,_,rfl,_,rfl,_,rfl,p.t,p.L,p.ah,p.ns,M,_,b,rfl,v.ask,by lia,by lia,λN X l z=>?_);have r:=u.trans (v.look l z);have V:=l.len;have g:=d.did r (by lia);refine(p,N,b,ht p.ns b,rfl,g,by lia,by lia,λx J O D I=>?_);rcases D with ⟨rfl,G⟩|⟨k,rfl,n⟩
 ·have:=G p.ns.length f (aad _);rw[c.2.1]at this;have:=c.pos (k:=b) (by lia);lia
 ·obtain⟨k,rfl⟩:∃j,k=j+1:=(k - 1,by have:=n.1;lia);exists _,_,rfl,rfl;have:=q k J O n (r.trans I);rw[show (k:Int)=((k+1:Nat):Int) - 1 from by lia]at this;exact this
inductive FW(Ph:Addr)(vs:List V)(H:Hp)(Q:VK)(_e1:XK):Prop
 | mk (p:BP) (ss:List Int) (at0:Nat) (_:vs=[.ref p.t,.ref p.L.f,.int (at0:Int)]) (_:U9 H Ph p ss) (_:ss.length<=15999980) (_:Tree p.ns) (_:p.ns[at0]?=some 0) (_:∀(k:Nat) ss' H',Gu p.ns at0 (ht p.ns at0 - 1) k->Did H H' Ph p.L 4 ss ss'->Q (.int (k:Int)) H')
theorem Fv(T:Tx K mg a)(B:Bs mg base a):aV P w K mg base Ui 8 a.afb a.aez ["tables","look","at"] (FW a.Ut):=by
 refine T.afk.F.Ul FN λV A j s H W Q E e h=>?_;obtain⟨p,u,b,rfl,d,S,g,f,q⟩:=h;have U:=(aab.mp f).1;refine(_,(aj (bu (aF T.Z6 (j8 T) e (aa (pv 0) (aa (pv 1) (aa (pv 2) (aa ao ak))))))
  (aq (aD (aF T.ad9 (zz T B) e (aa (pv 0) (aa (pv 1) (aa (pv 2) (aa (aC bz (aF T.Z2 (yj T) e (aa (pv 0) (aa (pv 1) (aa (pv 2) ak)))) ao) ak)))))))),?_)
 refine(_,rfl,_,rfl,_,rfl,p.t,p.L,p.ah,p.ns,u,_,b,0,rfl,d.ask,by lia,f,λN H1 m y=>?_);have o:=d.look m y;have Y:=m.len;have r:=d.did o (by lia);refine(_,rfl,_,rfl,_,rfl,_,rfl,_,rfl,_,rfl,p.t,p.L,p.ah,p.ns,N,_,b,rfl,r.ask,by lia,by lia,λO H2 l v=>?_);have n:=o.trans (r.look l v);have X:=l.len;have i:=d.did n (by lia);refine(_,_,rfl,rfl,p,O,b,ht p.ns b - 1,rfl,i,by lia,by lia,λx M R C J=>?_);have c:0<b/\0<=ht p.ns b - 1:=by
  have I:=kJ f;have Z:=g.pos (k:=b+1) (by lia);refine(?_,by lia);rcases aea b with rfl|z
  ·rw[jm]at I;lia
  ·exact z
 rcases C with ⟨rfl,D⟩|⟨k,rfl,G⟩
 ·have:=D 0 c.1;rw[jm]at this;lia
 ·exact q k M R G (n.trans J)
inductive zY(vs:List V)(H:Hp)(Q:VK)(E:XK):Prop
 | mk (p:Addr) (ds:List Int) (_:vs=[.ref p]) (_:H p=some (.lst (ds.map V.int))) (_:ds.length<=2048) (_:gF ds) (_:∀r t ah nd bl lows S xs H',H bl=none->aQ H H'->H' r=some (.tup [.ref t,.ref bl])->KB H' t ah nd bl (brk ds 0) lows S xs->Q (.ref r) H')
theorem z6(T:Tx K mg a):aV P w K mg base Ui 7 a.adS a.adb ["depths"] zY:=by
 refine T.aeb.F.Ul zu λC A e s H D Q E g h=>?_;obtain⟨p,i,rfl,u,v,d,q⟩:=h;exists _,(aq (aD (aF T.abo (rY T) g (aa (aF T.acM (wZ T) g (aa (pv 0) ak)) ak))));refine(_,rfl,p,i,rfl,u,d,v,λb M G f l=>?_);have L:=n6 d;exact(b,brk i 0,rfl,My.of l,by lia,oX _ _,u0 d,λr t z n y c S j B x J I m k o=>q r t z n y c S j B (f.free x) (f.trans m) k o)
inductive xR(vs:List V)(H:Hp)(Q:VK)(_e1:XK):Prop
 | mk (t ah:Addr) (ns:List Int) (rest:List V) (_:vs=[.ref t]) (_:Tab H t ah ns rest) (_:Q (.int ((ns.length:Int) / 2)) H)
theorem xN(T:Tx K mg a):aV P w K mg base Ui 1 a.adg a.acy ["tables"] xR:=by
 refine T.adA.F.Ul xx λd A b s H e Q E g h=>?_;obtain⟨t,i,f,rest,rfl,c,q⟩:=h;exists _,(aq (aD (aC bL (aR aP (pv 0) ao) ao)));exact(_,rfl,t,_,_,_,rfl,rfl,Uj.of c.tup,oh _ _ _ c.few,_,_,rfl,rfl,(by decide,by decide),q)
inductive xg(C:Addr)(vs:List V)(H:Hp)(Q:VK)(E:XK):Prop
 | mk (t ah:Addr) (ns:List Int) (rest:List V) (node:Int) (_:vs=[.ref t,.int node]) (_:Tab H t ah ns rest) (_:((0<=node/\node<(ns.length:Int) / 2/\Q .non H)\/((node<0\/(ns.length:Int) / 2<=node)/\E (.ref C) none H)))
theorem xm(T:Tx K mg a):aV P w K mg base (Wk P w) 2 a.adh a.acz ["tables","node"] (xg a.U4):=by
 refine T.adB.F.ok1 xQ (λi H Q E h=>?_) (λm A f s H i Q E j h=>?_)
 ·obtain⟨t,g,e,rest,b,rfl,_⟩:=h;rfl
 obtain⟨t,g,e,rest,b,rfl,k,h⟩:=h;exists _,(aq (aX (PW.pt (lY (aG jw (pv 1) ao) (kW (aG Bt (pv 1) (aF T.adA (xN T) j (aa (pv 0) ak)))))) (aq (K7 T.afT rfl (aa rD ak))) aM));refine(_,rfl,_,_,rfl,rfl,_,rfl,bF (λc=>?_) λc=>?_)
 ·have c:=of_decide_eq_true c;rcases h with ⟨l,_⟩|⟨_,q⟩
  ·lia
  ·exact il ((by show 1<=sizeLine;decide),q)
 have c:¬b<0:=λz=>c (decide_eq_true z);refine(_,rfl,_,rfl,t,g,e,rest,rfl,k,_,_,rfl,rfl,_,rfl,bF (λd=>?_) λd=>?_)
 ·have d:=of_decide_eq_true d;rcases h with ⟨l,n,_⟩|⟨_,q⟩
  ·lia
  ·exact((by show 1<=sizeLine;decide),q)
 have d:¬(e.length:Int) / 2<=b:=λz=>d (decide_eq_true z);rcases h with ⟨_,_,q⟩|⟨z,_⟩
 ·exact q
 ·lia
structure Nd(H:Hp)(Ph:Addr)(p:BP)(ss ds:List Int):Prop where
 b:U9 H Ph p ss
 few:ss.length<=15999900
 eq:p.ns=brk ds 0
 good:gF ds
theorem Nd.sum{p:BP}{ds:List Int}(h:Nd H f p d ds):p.ns.sum=ds.length:=by
 rw[h.eq];exact Dj h.good
theorem Nd.len{p:BP}{ds:List Int}(h:Nd H f p d ds):p.ns.length=2*ds.length:=by
 rw[h.eq];exact n6 h.good
theorem Nd.tree{p:BP}{ds:List Int}(h:Nd H f p d ds):Tree p.ns:=by
 rw[h.eq];exact u0 h.good
theorem Nd.bits{H:Hp}{d:Addr}{p:BP}{c ds:List Int}(h:Nd H d p c ds):bc p.ns:=h.b.ask.bits
theorem Nd.deep{p:BP}{ds:List Int}(h:Nd H f p d ds){i x:Nat}(c:p.ns[x]?=some 1)(b:(p.ns.take x).sum=(i:Int)):ds[i]?=some (ht p.ns x):=by
 rw[h.eq]at c b ⊢;exact M6 h.good c b
theorem Nd.at{p:BP}{ds:List Int}(h:Nd H f p d ds){j:Nat}(b:j<ds.length):∃x,p.ns[x]?=some 1/\(p.ns.take x).sum=(j:Int):=QZ h.bits (by rw[h.sum];lia)
theorem Nd.nat{p:BP}{ds:List Int}(h:Nd H f p d ds)(k:Nat):∃i:Nat,(p.ns.take k).sum=(i:Int):=by
 have:=ji h.bits 0 k (aaP _);rw[aiz]at this;have e:([]:List Int).sum=0:=rfl;exact((p.ns.take k).sum.toNat,by lia)
theorem Nd.btw{p:BP}{ds:List Int}(h:Nd H f p d ds){k x i j:Nat}{g:Int}(u:k<=x)(v:(p.ns.take k).sum=(i:Int))(t:(p.ns.take x).sum=(j:Int))(b:∀q,k<=q->q<x->p.ns[q]?=some 1->g<ht p.ns q):∀m y,i<=m->m<j->ds[m]?=some y->g<y:=λm y s r l=>by
 have o:=(aab.mp l).1;obtain⟨q,c,n⟩:=h.at o;have e:=h.deep c n;rw[l]at e;rw[aao e];refine b q ?_ ?_ c
 ·rcases aaq q k with z|z
  ·have:=ji h.bits (q+1) k z;rw[iU c]at this;lia
  ·exact z
 ·rcases aaq q x with z|z
  ·exact z
  ·have:=ji h.bits x q z;lia
theorem Nd.beneath{p:BP}{ds:List Int}(h:Nd H f p d ds){x c j:Nat}(s:p.ns[x]?=some 1)(G:(p.ns.take x).sum=(j:Int))(b:Pair p.ns x c):((c:Int) - x) / 2=((run ds (j+1) (ht p.ns x):Nat):Int)/\(p.ns.take (c+1)).sum=((j+1+run ds (j+1) (ht p.ns x):Nat):Int):=by
 have E:=iU s;have D:=iU b.nought;have e:ht p.ns (c+1)=ht p.ns x:=b.eq;have F:=b.lt;have I:=b.Yy;obtain⟨n,v⟩:=h.nat (c+1);have A:=ji h.bits (x+1) (c+1) (by lia);have C:2*((n:Int)) - ((c+1:Nat):Int)=2*(j:Int) - (x:Int):=by
  have:ht p.ns (c+1)=2*(p.ns.take (c+1)).sum - ((c+1:Nat):Int):=rfl;have:ht p.ns x=2*(p.ns.take x).sum - ((x:Nat):Int):=rfl;lia
 have r:run ds (j+1) (ht p.ns x)=n - (j+1):=by
  refine Be _ _ (λm A=>?_) (λy g=>?_)
  ·have t:j+1+m<ds.length:=by
    have:=ji h.bits (c+1) p.ns.length (by lia);rw[agp,h.sum]at this;lia
   have g:=aac t;exact(_,g,h.btw (k:=x+1) (x:=c+1) (i:=j+1) (j:=n) (by lia) (by lia) v (λq l u _=>b.above q (by lia) (by lia)) (j+1+m) _ (by lia) (by lia) g)
  ·obtain⟨q,l,u⟩:=h.at (aab.mp g).1;have o:=h.deep l u;rw[g]at o;have o:=aao o;have B:c+1<=q:=by
    rcases aaq q (c+1)with z|z
    ·have:=ji h.bits (q+1) (c+1) z;rw[iU l]at this;lia
    ·exact z
   have:ht p.ns q=2*(p.ns.take q).sum - ((q:Nat):Int):=rfl;have:ht p.ns x=2*(p.ns.take x).sum - ((x:Nat):Int):=rfl;lia
 rw[r];lia
inductive Dy(Ph:Addr)(C:Addr)(vs:List V)(H:Hp)(Q:VK)(E:XK):Prop
 | mk (p:BP) (ss ds:List Int) (node:Int) (_:vs=[.ref p.t,.ref p.L.f,.int node]) (_:Nd H Ph p ss ds) (_:((∃j:Nat,node=(j:Int)/\j<ds.length /\ ∀(x:Nat) ss' H',p.ns[x]?=some 1->(p.ns.take x).sum=(j:Int)->Did H H' Ph p.L 1 ss ss'->Q (.int (x:Int)) H')\/((node<0\/(ds.length:Int)<=node)/\E (.ref C) none H)))
theorem mD(T:Tx K mg a):aV P w K mg base (Wk P w) 5 a.aeC a.adU ["tables","look","node"] (Dy a.Ut a.U4):=by
 refine T.YT.F.ok1 Dl (λn H Q E h=>?_) (λB A e s H n Q E g h=>?_)
 ·obtain⟨p,f,u,c,rfl,_⟩:=h;rfl
 obtain⟨p,f,u,c,rfl,d,h⟩:=h;refine(_,(aj (bu (tH T.adB (xm T) (by decide) g HF rfl (aa (pv 0) (aa (pv 2) ak))))
  (aq (aD (aF T.ad7 (Ay T) g (aa (pv 0) (aa (pv 1) (aa (pv 2) ak))))))),?_)
 have k:=d.sum;have l:=d.len;have z:=d.few;exists _,rfl,_,rfl,p.t,p.ah,p.ns,_,c,rfl,d.b.ask.tab;rcases h with ⟨j,rfl,C,q⟩|⟨i,q⟩
 ·exact .inl (by lia,by lia,_,rfl,_,rfl,_,rfl,p.t,p.L,p.ah,p.ns,f,[.ref p.nd],(j:Int),rfl,d.b.ask,by lia,by lia,by lia,λy x v i r m o=>q x v y i r (d.b.look m o))
 ·exact .inr (by lia,q)
inductive Et(Ph:Addr)(vs:List V)(H:Hp)(Q:VK)(_e1:XK):Prop
 | mk (p:BP) (ss:List Int) (at0:Nat) (_:vs=[.ref p.t,.ref p.L.f,.int (at0:Int)]) (_:U9 H Ph p ss) (_:ss.length<=15999960) (_:Tree p.ns) (_:((p.ns[at0]?=some 1 /\ ∀ss' H',Did H H' Ph p.L 2 ss ss'->Q (.int (p.ns.take at0).sum) H')\/(p.ns[at0]?=some 0 /\ ∀(k:Nat) ss' H',Gu p.ns at0 (ht p.ns at0 - 1) k->Did H H' Ph p.L 6 ss ss'->Q (.int (p.ns.take k).sum) H')))
theorem Gy(T:Tx K mg a)(B:Bs mg base a):aV P w K mg base Ui 9 a.afe a.aeB ["tables","look","at"] (Et a.Ut):=by
 refine T.afm.F.Ul Eb λS A u s H U Q E j h=>?_;obtain⟨p,v,b,rfl,d,W,G,h⟩:=h;refine(_,(aj (aX (aG dN (aF T.Xi (jX T) j (aa (pv 0) (aa (pv 1) (aa (pv 2) ak)))) ao) (aq (aD (aF T.W2 (fU T) j (aa (pv 0) (aa (pv 1) (aa (pv 2) ak)))))) aM)
  (aq (aD (aF T.W2 (fU T) j (aa (pv 0) (aa (pv 1) (aa (aF T.afk (Fv T B) j (aa (pv 0) (aa (pv 1) (aa (pv 2) ak)))) ak))))))),?_)
 rcases h with ⟨c,q⟩|⟨c,q⟩
 ·have r:=(aab.mp c).1;refine(_,rfl,_,rfl,_,rfl,p.t,p.L,p.ah,p.ns,v,[.ref p.nd],b,1,rfl,d.ask,by lia,c,λn R e l=>?_);have f:=d.look e l;have M:=e.len;have g:=d.did f (by lia);refine(rfl,_,rfl,bF (λ_=>?_) λz=>absurd (by decide) z);exact(_,rfl,_,rfl,_,rfl,p.t,p.L,p.ah,p.ns,n,[.ref p.nd],b,rfl,g.ask,by lia,by lia,λo y D J=>q o y (f.trans (g.look D J)))
 ·have r:=(aab.mp c).1;refine(_,rfl,_,rfl,_,rfl,p.t,p.L,p.ah,p.ns,v,[.ref p.nd],b,0,rfl,d.ask,by lia,c,λn R e l=>?_);have f:=d.look e l;have M:=e.len;have g:=d.did f (by lia);refine(rfl,_,rfl,bF (λz=>absurd z (by decide)) λ_=>?_);refine(_,rfl,_,rfl,_,rfl,_,rfl,_,rfl,p,n,b,rfl,g,by lia,G,c,λk o y x m=>?_);have V:=m.wr.len;have i:=g.did m (by lia);have:=x.1;exact(p.t,p.L,p.ah,p.ns,o,[.ref p.nd],k,rfl,i.ask,by lia,by lia,λN O C I=>q k N O x ((f.trans m).trans (i.look C I)))
inductive Qt(R:List Int->Nat->V->Prop)(k:Nat)(Ph:Addr)(C:Addr)(vs:List V)(H:Hp)(Q:VK)(E:XK):Prop
 | mk (p:BP) (ss ds:List Int) (node:Int) (_:vs=[.ref p.t,.ref p.L.f,.int node]) (_:Nd H Ph p ss ds) (_:((∃j:Nat,node=(j:Int)/\j<ds.length /\ ∀x ss' H',R ds j x->Did H H' Ph p.L k ss ss'->Q x H')\/((node<0\/(ds.length:Int)<=node)/\E (.ref C) none H)))
inductive TF(ds:List Int)(j:Nat)(x:V):Prop
 | mk (d:_) (_:ds[j]?=some d) (_:x=.int ((run ds (j+1) d:Nat):Int))
theorem yd(T:Tx K mg a)(B:Bs mg base a):aV P w K mg base (Wk P w) 8 a.adk a.acB ["tables","look","node"] (Qt TF 5 a.Ut a.U4):=by
 refine T.adD.F.ok1 oH (λt H Q E h=>?_) (λL A m s H t Q E o h=>?_)
 ·obtain⟨p,n,r,f,rfl,_⟩:=h;rfl
 obtain⟨p,n,r,f,rfl,g,h⟩:=h;refine(_,(aj (aA 3 oH.nd (tH T.YT (mD T) (by decide) o HF rfl (aa (pv 0) (aa (pv 1) (aa (pv 2) ak)))))
  (aq (aD (aC bL (aC bz (aF T.Z7 (wY T B) o (aa (pv 0) (aa (pv 1) (aa (pv 3) ak)))) (pv 3)) ao)))),?_)
 have J:=g.few;exists _,rfl,_,rfl,_,rfl,p,n,r,f,rfl,g;rcases h with ⟨j,rfl,v,q⟩|⟨l,e⟩
 rotate_left
 ·exact .inr (l,e)
 refine .inl (j,rfl,v,λx C N d i k=>?_);have M:=k.wr.len;have D:=g.b.did k (by lia);refine(_,rfl,_,rfl,_,rfl,p,C,x,rfl,D,by lia,g.tree,d,λc G I y z=>?_);have u:=pH g.bits d y;refine(_,rfl,_,_,rfl,rfl,_,_,rfl,rfl,(by decide,by decide),q _ G I (_,g.deep d i,?_) (k.trans z));exact congrArg V.int (g.beneath d i u).1
inductive QB(ds:List Int)(j:Nat)(x:V):Prop
 | mk (d:_) (_:ds[j]?=some d) (_:((x=.int ((j:Int)+1)/\ds[j+1]?=some (d+1))\/(x=.non/\ds[j+1]? ≠ some (d+1))))
theorem Cm(T:Tx K mg a):aV P w K mg base (Wk P w) 6 a.aeD a.adV ["tables","look","node"] (Qt QB 2 a.Ut a.U4):=by
 refine T.aeN.F.ok1 tR (λO H Q E h=>?_) (λZ A v s H O Q E B h=>?_)
 ·obtain⟨p,y,D,f,rfl,_⟩:=h;rfl
 obtain⟨p,y,D,f,rfl,c,h⟩:=h;refine(_,(aj (aA 3 tR.nd (aC bh (tH T.YT (mD T) (by decide) B HF rfl (aa (pv 0) (aa (pv 1) (aa (pv 2) ak)))) ao))
  (aj (aX (aG dN (aF T.Xi (jX T) B (aa (pv 0) (aa (pv 1) (aa (pv 3) ak)))) ao) (aq (aD eV)) aM)
  (aq (aD (aC bh (pv 2) ao))))),?_)
 have Y:=c.few;exists _,rfl,_,rfl,_,rfl,p,y,D,f,rfl,c;rcases h with ⟨j,rfl,V,q⟩|⟨u,e⟩
 rotate_left
 ·exact .inr (u,e)
 refine .inl (j,rfl,V,λx W H1 d o m=>?_);have l1:=m.wr.len;have I:=c.b.did m (by lia);have XQ:=(aab.mp d).1;have n:=c.deep d o;have C:=kJ d;have X:=DQ c.good n;obtain⟨_,R,_⟩:=c.tree;have g:x+1<p.ns.length:=by
  rcases aaq (x+1) p.ns.length with z|z
  ·exact z
  ·have:x+1=p.ns.length:=by lia
   rw[this,R]at C;lia
 have s1:=iU d;exists _,_,rfl,rfl,_,rfl,_,rfl,_,rfl;obtain⟨b,k⟩:∃b,p.ns[x+1]?=some b:=(_,aac g);refine(p.t,p.L,p.ah,p.ns,W,[.ref p.nd],x+1,b,rfl,I.ask,by lia,k,λJ M N S=>(rfl,_,rfl,?_));have G:=m.trans (I.look N S);rcases c.bits b (aag k)with rfl|rfl
 ·refine il (q _ J M (_,n,.inr (rfl,λz=>?_)) G);obtain⟨r,l,U⟩:=c.at (aab.mp z).1;have e:=c.deep l U;rw[z]at e;have e:=aao e;have e1:ht p.ns r=2*(p.ns.take r).sum - ((r:Nat):Int):=rfl;have e2:ht p.ns x=2*(p.ns.take x).sum - ((x:Nat):Int):=rfl;have:r=x+1:=by lia
  subst this;rw[k]at l;cases l
 ·refine dI (_,rfl,_,_,rfl,rfl,q _ J M (_,n,.inl (rfl,?_)) G);have:=c.deep (i:=j+1) k (by lia);rw[C,show ht p.ns x+2*1 - 1=ht p.ns x+1 from by lia]at this;exact this
inductive YoV(ds:List Int)(j:Nat)(x:V):Prop
 | mk (d:_) (_:ds[j]?=some d) (_:((x=.int ((j+1+run ds (j+1) d:Nat):Int)/\ds[j+1+run ds (j+1) d]?=some d)\/(x=.non/\ds[j+1+run ds (j+1) d]? ≠ some d)))
theorem xO(T:Tx K mg a)(B:Bs mg base a):aV P w K mg base (Wk P w) 10 a.adi a.acA ["tables","look","node"] (Qt YoV 8 a.Ut a.U4):=by
 refine T.adC.F.ok1 oG (λvs H Q E h=>?_) (λa1 A R s H vs Q E u h=>?_)
 ·obtain⟨p,S,v,k,rfl,_⟩:=h;rfl
 obtain⟨p,S,v,k,rfl,d,h⟩:=h;refine(_,(aj (aA 3 oG.nd (aC bh (aF T.Z7 (wY T B) u (aa (pv 0) (aa (pv 1) (aa (tH T.YT (mD T) (by decide) u HF rfl (aa (pv 0) (aa (pv 1) (aa (pv 2) ak)))) ak)))) ao))
  (aj (aX (PW.pt (lY (aG dN (pv 3) (aR aP (pv 0) ao)) (kW (aG dN (aF T.Xi (jX T) u (aa (pv 0) (aa (pv 1) (aa (pv 3) ak)))) ao)))) (aq (aD eV)) aM)
  (aq (aD (aF T.afm (Gy T B) u (aa (pv 0) (aa (pv 1) (aa (pv 3) ak)))))))),?_)
 have a0:=d.few;exists _,rfl,_,rfl,_,rfl,_,rfl,_,rfl,p,S,v,k,rfl,d;rcases h with ⟨j,rfl,hj,q⟩|⟨N,e⟩
 rotate_left
 ·exact .inr (N,e)
 refine .inl (j,rfl,hj,λx Us H1 g n I=>?_);have l1:=I.wr.len;have Y:=d.b.did I (by lia);have J:=d.deep g n;refine(p,Us,x,rfl,Y,by lia,d.tree,g,λc Z H2 hc G=>?_);have D:=pH d.bits g hc;have l2:=G.wr.len;have f:=Y.did G (by lia);have l:=I.trans G;obtain⟨_,C⟩:=d.beneath g n D;have W:=D.eq;have Yy:=D.Yy;have i:p.ns[c+1]? ≠ some 1->v[j+1+run v (j+1) (ht p.ns x)]? ≠ some (ht p.ns x):=λn1 z=>by
  obtain⟨r,U,r2⟩:=d.at (aab.mp z).1;have e:=d.deep U r2;rw[z]at e;have e:=aao e;have e1:ht p.ns r=2*(p.ns.take r).sum - ((r:Nat):Int):=rfl;have e2:ht p.ns (c+1)=2*(p.ns.take (c+1)).sum - ((c+1:Nat):Int):=rfl;have:r=c+1:=by lia
  subst this;exact n1 U
 exists _,_,rfl,rfl,_,rfl,_,rfl,p.t,_,_,_,rfl,rfl,Uj.of f.ask.tab.tup,oh _ _ _ f.ask.tab.few,rfl,_,rfl;by_cases o:c+1=p.ns.length
 ·rw[decide_eq_true (show V.int ((c:Int)+1)=V.int (p.ns.length:Int)from congrArg V.int (by lia))];refine il (il (q _ Z H2 (_,J,.inr (rfl,i (by rw[o,agY (aad _)];exact nofun))) (l.le (by decide))))
 rw[decide_eq_false (show ¬V.int ((c:Int)+1)=V.int (p.ns.length:Int)from λz=>o (by have:=V.int.inj z;lia))];obtain⟨b,m⟩:∃b,p.ns[c+1]?=some b:=(_,aac (by lia));refine dI (_,rfl,_,rfl,_,rfl,p.t,p.L,p.ah,p.ns,Z,[.ref p.nd],c+1,b,rfl,f.ask,by lia,m,λX H3 w3 s3=>(rfl,_,rfl,?_));have y:=f.look w3 s3;have l3:=y.wr.len;have O:=f.did y (by lia);rcases d.bits b (aag m)with rfl|rfl
 ·exact il (q _ X H3 (_,J,.inr (rfl,i (by rw[m];exact nofun))) ((l.trans y).le (by decide)))
 ·refine dI (_,rfl,_,rfl,_,rfl,p,X,c+1,rfl,O,by lia,d.tree,.inl (m,λM H4 d4=>q _ M H4 (_,J,.inl (by rw[C],?_)) ((l.trans y).trans d4)));rw[<-W];rw[<-W]at C;exact d.deep m C
def InR(b:List Int):Prop:=∀z∈b,-(10:Int)^60<z/\z<10^60
inductive wO(K:PySem.W.Frag)(vs:List V)(H:Hp)(Q:VK)(_e1:XK):Prop
 | mk (p:Addr) (ns:List Int) (_:vs=[.ref p]) (_:My K H p (ns.map V.int)) (_:ns.length<=4096) (_:InR ns) (_:Q .non H)
theorem vp(T:Tx K mg a):aV P w K mg base Ui 1 a.acr a.abU ["signs"] (wO K):=by
 refine T.acN.F.Ul mG λt A j s H u Q E e h=>?_;obtain⟨p,l,rfl,f,y,r,q⟩:=h;refine(_,(aj (aX (aG iH (aK aL rfl T.Ur Tw.aY (aa (pv 0) ak)) (bD (v:=.int 4096) rfl T.afp (_,rfl))) (aq bY) aM)
  (aq (bJ PassesOwn.never rfl (bK (pv 0)) (aW 1 mG.nd) (aq (aX (my (vH jw jw (j5 fX (aC Ma ao ao)) (pv 1) (aC Ma ao ao))) (aq bY) aM))))),?_)
 refine(_,rfl,p,_,rfl,.inl f,_,_,rfl,rfl,_,rfl,bF (λc=>?_) λc=>?_)
 ·have c:(4096:Int)<((l.map V.int).length:Int):=of_decide_eq_true c;rw[aaa]at c;lia
 exists _,rfl,p,rfl,(_,f);refine cu (xs:=l.map V.int) (λi b d=>(∃k,b=[some (.ref p),k])/\d=H) ((none,rfl),rfl) ?_ ?_ ?_
 ·rintro i b d _ ⟨_,rfl⟩;exact f
 ·rintro i x b d o ⟨⟨k,rfl⟩,rfl⟩;obtain⟨z,n,rfl⟩:=int_at o;have e:=r z (aag n);refine(_,_,rfl,rfl,(by decide,by decide,by decide),_,rfl,_,rfl,_,_,rfl,rfl,_,rfl,bF (λm=>?_) λm=>absurd (decide_eq_true e.1) m);refine(_,_,rfl,rfl,(by decide,by decide,by decide),_,_,rfl,rfl,_,rfl,bF (λg=>?_) λg=>((_,rfl),rfl));rw[decide_eq_true (show z<10^(60:Int).toNat from e.2)]at g;exact absurd g (by decide)
 ·rintro b d ⟨_,rfl⟩;exact q
def rks(c b:List Int):List Int:=b.map λz=>(c.idxOf z:Int)
inductive wX(K:PySem.W.Frag)(vs:List V)(H:Hp)(Q:VK)(_e1:XK):Prop
 | mk (q p:Addr) (ms ns:List Int) (_:vs=[.ref q,.ref p]) (_:My K H q (ms.map V.int)) (_:My K H p (ns.map V.int)) (_:ms.Nodup) (_:(∀z∈ns,z∈ms)) (_:ms.length<=4096) (_:ns.length<=4096) (_:∀r H',H r=none->aQ H H'->H' r=some (.lst ((rks ms ns).map V.int))->Q (.ref r) H')
theorem v5(T:Tx K mg a):aV P w K mg base Ui 1 a.acu a.abV ["kinds","signs"] (wX K):=by
 refine T.acO.F.Ul fH λa0 A L s H vs Q E S h=>?_;obtain⟨R,p,u,ns,rfl,X,W,nd,J,hm,hn,q⟩:=h;refine(_,(aj (rQ (i:=2) fH.nd rfl (ahT rfl) BX)
  (aj (bJ PassesOwn.never rfl (uN rfl T.Xj (aa (pv 0) ak)) (nA rfl (bW (aW 3 fH.nd) (bW (aW 4 fH.nd) jl))) (aq (Hw (agX (ahz (by decide:1<=64) _) S.units) (pv 2) (pv 4) (pv 3) rfl)))
  (aq (aD (jy rfl (bZ.one (j:=2) rfl (ag1 rfl) rfl rfl (ag1 rfl)) (bK (pv 1)) (λ_ _ _ _=>fL) (λ_ _ _ _=>(O1 (agX (ahz (by decide:1<=64) _) S.units) (pv 1) (pv 0) (λ_ _=>rfl)))))))),?_)
 intro d hd;have N:=az hd (.dK []);exists _,rfl,R,_,rfl,N.seq X;refine vy (xs:=u.map V.int) (λi t r=>(∃G C,t=[some (.ref R),some (.ref p),some (.ref d),G,C])/\aQ H r /\ ∃b:List (Key×V),r d=some (.dK b)/\b.length<=i /\ ∀(j:Nat) (z:Int),j<i->u[j]?=some z->iy b (Sum.inl z)=some (.int (j:Int))) ((none,none,rfl),N,[],au,aad _,λj z U=>absurd U (agU _)) ?_ ?_ ?_
 ·rintro i t r _ ⟨_,c,_⟩;exact c.seq X
 ·rintro i x t r pt hx ⟨⟨G,C,rfl⟩,c,b,B,hl,v⟩ W0;obtain⟨z,f,rfl⟩:=int_at hx;have I:=(aab.mp f).1;have M:=az W0 (.tup [.int (i:Int),.int z]);exists pt,_,rfl,Uj.of au,rfl,_,_,rfl,_,_,rfl,rfl;exists _,rfl,_,rfl,_,rfl,d,_,rfl,.inl (b,Sum.inl z,M _ _ B,rfl,by rw[sizeLine_eq];lia,rfl);refine((_,_,rfl),bQ (c.trans M) hd _,_,au,?_,λj y U o=>?_)
  ·have:=Du b (Sum.inl z) (.int (i:Int));lia
  ·rw[BR];by_cases e:y=z
   ·subst e;rw[if_pos rfl];have:j=i:=by
     have n:=(aab.mp o).1;rw[aac n]at o;rw[aac I]at f;have e:=(aao o).trans (aao f).symm;have O:=aca.mp nd;rcases agR j i with l|l|l
     ·exact absurd e (O j i n I l)
     ·exact l
     ·exact absurd e.symm (O i j I n l)
    rw[this]
   ·rw[if_neg (λz=>e (Sum.inl.inj z))];refine v j y ?_ o;rcases aaq j i with l|l
    ·exact l
    ·have:j=i:=by lia
     subst this;rw[f]at o;exact absurd (aao o).symm e
 ·rintro t r ⟨⟨G,C,rfl⟩,c,b,B,hl,v⟩;rw[aaa]at v;exists _,rfl,p,rfl,(_,c.seq W);refine yI (λz=>(u.idxOf z:Int)) (c.seq W) (by rw[sizeLine_eq];lia) (λ_ _ _ q=>q) (λz H2 Q f Z q=>(_,rfl,_,rfl,d,_,rfl,?_,q)) λD Y=>?_
  ·have f:=J z f;have m:=ah5 f;have e:=v (u.idxOf z) z m (by rw[aac m];exact congrArg some (aiM m));have g:=z8.k (k:=Sum.inl z) (Z _ _ B);rw[e]at g;exact g
  ·exact q D _ (c.free Y) (c.trans (az Y _)) au
inductive uZ(vs:List V)(H:Hp)(Q:VK)(_e1:XK):Prop
 | mk (n:Nat) (_:vs=[.int (n:Int)]) (_:n<=100000) (_:∀h:Nat,ik n (2^h)->Q (.int (h:Int)) H)
theorem K3(h:Nat):Builtin.Int.intBits ((2^h:Nat):Int)=h+1:=by
 unfold Builtin.Int.intBits;have:0<2^h:=agl h;rw[if_neg (by rw[beq_iff_eq];lia),Int.natAbs_natCast,Nat.log2_two_pow]
theorem vd(T:Tx K mg a):aV P w K mg base Ui 2 a.acv a.abW ["kind_count"] uZ:=by
 refine T.acP.F.Ul vV λj A b s H k Q E c h=>?_;obtain⟨n,rfl,d,q⟩:=h;exists _,(aq (aD (aC bz (Ra PySem.F.plainAttrs_int PySem.F.slot_int_bit_length PySem.F.type_int_bit_length xJ (aF T.Xg (jb T) c (aa (pv 0) ak))) ao)));refine(_,rfl,n,rfl,d,λS f=>?_);obtain⟨h,rfl,i,g⟩:=f;exists rfl,_,rfl,rfl,_,_,rfl,rfl;have e:((Builtin.Int.intBits ((2^h:Nat):Int):Nat):Int) - 1=(h:Int):=by
  rw[K3];lia
 show Q (.int (((Builtin.Int.intBits ((2^h:Nat):Int):Nat):Int) - 1)) H;rw[e];exact q h (h,rfl,i,g)
def Vs(os:List Int)(k:Nat):List Int:=(os.filter λz=>bit z k=0)++os.filter λz=>bit z k=1
theorem uM(os:List Int)(k:Nat):(Vs os k).length=os.length:=by
 unfold Vs;rw[aaf]
 induction os with
 | nil=>rfl
 | cons z os b =>
  have:bit z k=0\/bit z k=1:=by
   unfold bit;lia
  rcases this with e|e
  ·simp only[agr,e,decide_true,if_true,aaE,show decide ((0:Int)=1)=false from rfl,ad5,if_false];lia
  ·simp only[agr,e,decide_true,if_true,aaE,show decide ((1:Int)=0)=false from rfl,ad5,if_false];lia
theorem Do(os:List Int)(f:Int->Int)(c:Int):((os.zip (os.map f)).filter λp=>decide (V.int p.2=V.int c)).map (λp=>p.1)=os.filter λz=>f z=c:=by
 induction os with
 | nil=>rfl
 | cons z os b =>
  rw[aay,ahc,agr,agr];by_cases e:f z=c
  ·rw[if_pos (decide_eq_true (by rw[e])),if_pos (decide_eq_true e),aay,b]
  ·rw[if_neg (by simp[e]),if_neg (by simp[e]),b]
inductive Jr(K:PySem.W.Frag)(vs:List V)(H:Hp)(Q:VK)(_e1:XK):Prop
 | mk (p r:Addr) (os:List Int) (k:Nat) (_:vs=[.ref p,.ref r]) (_:My K H p (os.map V.int)) (_:My K H r ((os.map λz=>bit z k).map V.int)) (_:os.length<=4096) (_:∀l H',H l=none->aQ H H'->H' l=some (.lst ((Vs os k).map V.int))->Q (.ref l) H')
theorem IV(T:Tx K mg a):aV P w K mg base Ui 1 a.afG a.afc ["order","bits"] (Jr K):=by
 refine T.afL.F.Ul rC λI A n s H J Q E L h=>?_;obtain⟨p,r,b,k,rfl,g,f,M,q⟩:=h;refine(_,(aj (pR (i:=2) rC.nd rfl rfl rfl (bZ.zero,rfl,by decide) (Gb rfl T.afX Tw.Ex (aa (pv 0) (aa (pv 1) ak))) (λ_ _ _ _=>(uJ (aG dN (pv 1) ao))) (λ_ _ _ _=>(pv 0)))
  (aj (pR (i:=3) rC.nd rfl rfl rfl (bZ.zero,rfl,by decide) (Gb rfl T.afX Tw.Ex (aa (pv 0) (aa (pv 1) ak))) (λ_ _ _ _=>(uJ (aG dN (pv 1) ao))) (λ_ _ _ _=>(pv 0)))
  (aq (aD (aC mW (pv 2) (pv 3)))))),?_)
 exists _,rfl,_,rfl,p,r,_,_,rfl,g,f;refine yO (os:=b) (bs:=b.map λz=>bit z k) (λ_ y=>decide (V.int y=V.int 0)) (λx _=>x) g f (by rw[aaa]) (by rw[sizeLine_eq];lia) (λx y m Q j q=>(_,rfl,rfl,_,rfl,q)) (λx y m Q j q=>(_,rfl,q)) λC O G c t=>?_;rw[Do]at t;exists _,rfl,_,rfl,p,r,_,_,rfl,c.seq g,c.seq f;refine yO (os:=b) (bs:=b.map λz=>bit z k) (λ_ y=>decide (V.int y=V.int 1)) (λx _=>x) (c.seq g) (c.seq f) (by rw[aaa]) (by rw[sizeLine_eq];lia) (λx y m Q j q=>(_,rfl,rfl,_,rfl,q)) (λx y m Q j q=>(_,rfl,q)) λB N D v o=>?_;rw[Do]at o;have e:=uM b k;unfold Vs at e;rw[aaf]at e;refine(_,rfl,_,rfl,C,B,_,_,rfl,rfl,v _ _ t,o,?_,λl d=>?_)
 ·rw[aaa,aaa,sizeLine_eq];lia
 have u:=c.trans v;refine q l _ (u.free d) (u.trans (az d _)) ?_;rw[au];unfold Vs;rw[aal]
def Uy:Nat->List Int->List (List Int)
 | 0,_=>[]
 | k+1,b=>(b.map λz=>bit z k)::Uy k (Vs b k)
theorem jn:∀(k:Nat) (os:List Int),(Uy k os).length=k
 | 0,_=>rfl
 | k+1,os=>by
  unfold Uy;rw[aaE,jn k]
theorem qm:∀(k:Nat) (os bs:List Int),bs∈Uy k os->bc bs/\bs.length=os.length
 | 0,_,_,h=>by cases h
 | k+1,os,bs,h=>by
  unfold Uy at h;rcases aaQ.mp h with rfl|h
  ·refine(λx b=>?_,aaa ..);obtain⟨z,_,rfl⟩:=aaT.mp b;unfold bit;lia
  ·obtain⟨d,c⟩:=qm k _ _ h;exact(d,c.trans (uM os k))
def uq(H:Hp)(c:List Addr)(d:List (List Int)):Prop:=c.length=d.length /\ ∀(i:Nat) (l:Addr) (b:List Int),c[i]?=some l->d[i]?=some b->H l=some (.lst (b.map V.int))
theorem uq.same{H':Hp}{b:List (List Int)}(h:uq H g b)(s:aQ H H'):uq H' g b:=(h.1,λi l c e d=>s _ _ (h.2 i l c e d))
theorem uq.snoc{j:List (List Int)}{l:Addr}{xs:List Int}(h:uq H g j)(e:H l=some (.lst (xs.map V.int))):uq H (g++[l]) (j++[xs]):=by
 refine(by rw[aaf,aaf,h.1];rfl,λi k f b d=>?_);rcases aaq i g.length with c|c
 ·rw[aax c]at b;rw[aax (by rw[<-h.1];exact c)]at d;exact h.2 i k f b d
 ·rw[aar c]at b;rw[aar (by rw[<-h.1];exact c),<-h.1]at d;have:i - g.length=0:=by
   have:=(aab.mp b).1;simp at this;lia
  rw[this]at b d;cases b;cases d;exact e
theorem uq.upd{c:List (List Int)}{x:Addr}{o:HO}(h:uq H g c)(e:x∉g):uq (upd H x o) g c:=
 (h.1,λi l d b f=>by rw[aJ (λz:l=x=>e (z ▸ aag b))];exact h.2 i l d b f)
def Wm(K:PySem.W.Frag)(H:Hp)(r o:Addr)(xs:List V):Prop:=(Rd H o (.lst xs)/\o≠r) \/ ∀b,My K b o xs
theorem Wm.of{r o:Addr}{xs:List V}(h:My K H o xs)(b:H r=none):Wm K H r o xs:=by
 rcases h with h|h
 ·refine .inl (h,λz=>?_);subst z;unfold Rd at h;rcases h with h|⟨_,h⟩
  ·rw[b]at h;cases h
  ·rw[b]at h;cases h
 ·exact .inr λ_=>.inr h
theorem Wm.sq{r o:Addr}{xs:List V}(h:Wm K H r o xs):My K H o xs:=by
 rcases h with h|h
 ·exact .inl h.1
 ·exact h H
theorem Wm.to{H':Hp}{r o:Addr}{xs:List V}(h:Wm K H r o xs)(s:∀b u,b≠r->H b=some u->H' b=some u):Wm K H' r o xs:=by
 rcases h with ⟨h,n⟩|h
 ·refine .inl (?_,n);unfold Rd at h ⊢;rcases h with h|⟨c,h⟩
  ·exact .inl (s _ _ n h)
  ·exact .inr (c,s _ _ n h)
 ·exact .inr h
inductive xV(K:PySem.W.Frag)(vs:List V)(H:Hp)(Q:VK)(_e1:XK):Prop
 | mk (p:Addr) (os:List Int) (n:Nat) (_:vs=[.ref p,.int (n:Int)]) (_:My K H p (os.map V.int)) (_:os.length<=4096) (_:n<=4096) (_:∀(h:Nat) (r:Addr) (ls:List Addr) (H':Hp),ik n (2^h)->h<=12->H r=none->aQ H H'->H' r=some (.lst (ls.map V.ref))->uq H' ls (Uy h os)->(∀l∈ls,H l=none)->Q (.ref r) H')
theorem RQ{n :Nat}(g:n<=4096)(b:ik n (2^i)):i<=12:=by
 obtain⟨f,e,j,d⟩:=b;have:i=f:=(Nat.pow_right_inj (a:=2) (by decide)).mp e;subst this;rcases aaq 12 i with c|c
 ·have:=d 12 c;lia
 ·exact c
theorem ye(T:Tx K mg a):aV P w K mg base Ui 3 a.ade a.acw ["ranks","kind_count"] (xV K):=by
 refine T.adz.F.Ul cR λa4 A a3 s H vs Q E hr h=>?_;obtain⟨p,t,n,rfl,hS,X,hn,q⟩:=h;refine(_,(aj (aA 2 cR.nd (cX ak))
  (aj (aA 3 cR.nd (pv 0))
  (aj (bJ PassesOwn.never rfl (CG rfl T.Xk (aa (aC bz (aF T.acP (vd T) hr (aa (pv 1) ak)) ao) (aa (j5 fX ao) (aa (j5 fX ao) ak)))) (lg (i:=4) cR.nd rfl (ahT rfl)) (aj (kE (i:=5) cR.nd rfl rfl rfl (bZ.one (j:=4) rfl (ag1 rfl) rfl rfl (ag1 rfl)) (bK (pv 3)) (λ_ _ _ _=>fL) (λ_ _ _ _=>(aF T.YH (qL T) hr (aa (pv 0) (aa (pv 1) ak)))))
  (aj (bu (gZ PySem.F.plainAttrs_list PySem.F.slot_list_append PySem.F.type_list_append b7 (pv 2) (aa (pv 5) ak)))
  (aq (aA 3 cR.nd (aF T.afL (IV T) hr (aa (pv 3) (aa (pv 5) ak))))))))
  (aq (aD (pv 2)))))),?_)
 refine((by show 0<=sizeLine;decide),λr v=>(_,rfl,?_));have s0:=az v (.lst []);refine(_,rfl,n,rfl,by lia,λh hz=>?_);have a2:=RQ hn hz;refine(_,_,rfl,rfl,_,rfl,_,rfl,(h:Int) - 1,-1,rfl,by lia,by decide,by lia,by decide,?_);refine DR (λi σ m=>∃(o:Addr) (c:List Int) (d:List Addr) (k4 k5:Option V) (C:List (List Int)),σ=[some (.ref p),some (.int (n:Int)),some (.ref r),some (.ref o),k4,k5]/\aQ H m/\Wm K m r o (c.map V.int)/\c.length=t.length/\m r=some (.lst (d.map V.ref))/\uq m d C/\C.length=i/\(∀l∈d,H l=none/\l≠r)/\Uy h t=C++Uy (h - i) c) ?_ ?_ ?_
 ·exact(p,t,[],none,none,[],rfl,s0,(Wm.of hS v).to (λb u n e=>by rw[aJ n];exact e),rfl,au,(rfl,λi l xs e=>by cases e),rfl,(λl X=>nomatch X),rfl)
 ·rintro i σ m hi ⟨o,c,d,k4,k5,C,rfl,G,I,R,f,g,B,y,Y⟩;have ei:(h:Int) - 1+(i:Int) * -1=((h - 1 - i:Nat):Int):=by lia
  rw[ei];obtain⟨k,hk⟩:∃k,h - i=k+1:=(h - i - 1,by lia);have ek:h - 1 - i=k:=by lia
  rw[ek];exists _,rfl,o,rfl,(_,I.sq);refine yI (λz=>bit z k) I.sq (by rw[sizeLine_eq];lia) (λ_ _ _ q=>q) (λz H2 Q hz s2 q=>(_,rfl,_,rfl,z,(k:Int),rfl,by lia,q)) λb Z=>?_;have W:=az Z (.lst ((c.map λz=>bit z k).map V.int));have xb:upd m b (.lst ((c.map λz=>bit z k).map V.int)) b=some (.lst ((c.map λz=>bit z k).map V.int)):=au;have a0:H b=none:=G.free Z;have N:b≠r:=λz=>by rw[z,f]at Z;cases Z
  replace I:=I.to λb u _ e=>W b u e
  replace f:=W _ _ f
  replace g:=g.same W
  replace G:=G.trans W
  generalize upd m b (.lst ((c.map λz=>bit z k).map V.int))=L at *;exists _,rfl,.inl (rfl,_,My.of f),_,rfl,r,_,_,rfl,rfl,f,?_
  ·rw[aaa,g.1,B,sizeLine_eq];lia
  have s2:=bQ G v (.lst (d.map V.ref++[.ref b]));have M:upd L r (.lst (d.map V.ref++[.ref b])) b=some (.lst ((c.map λz=>bit z k).map V.int)):=by rw[aJ N];exact xb
  have a1:=(I.to (H':=upd L r (.lst (d.map V.ref++[.ref b]))) λb u n e=>by rw[aJ n];exact e).sq;have U:uq (upd L r (.lst (d.map V.ref++[.ref b]))) (d++[b]) (C++[c.map λz=>bit z k]):=(g.upd λz=>(y r z).2 rfl).snoc M;have O:upd L r (.lst (d.map V.ref++[.ref b])) r=some (.lst ((d++[b]).map V.ref)):=by
   rw[au,aal];rfl
  generalize upd L r (.lst (d.map V.ref++[.ref b]))=H2 at *;refine(_,rfl,_,rfl,o,b,c,k,rfl,a1,My.of M,by lia,λl H3 S D x3=>?_);exists l,Vs c k,d++[b],_,_,C++[c.map λz=>bit z k],rfl,s2.trans D,.inl (.inl x3,?_),(uM c k).trans R,D _ _ O,U.same D,?_,λx J=>?_
  ·intro z;rw[z,O]at S;cases S
  ·rw[aaf,B];rfl
  ·rcases abd.mp J with J|J
   ·exact y x J
   ·rw[aas.mp J];exact(a0,N)
  ·rw[Y,hk,aa5,show h - (i+1)=k from by lia];rfl
 ·rintro σ m ⟨o,c,d,k4,k5,C,rfl,G,I,R,f,g,B,y,Y⟩;have ei:((h:Int) - 1 - -1).toNat=h:=by lia
  rw[ei]at B Y;have:Uy h t=C:=by
   rw[Y,ahn];exact agG _
  rw[<-this]at g;exact(_,rfl,q h r d m hz a2 v G f g λl X=>(y l X).1)
theorem Rn(c:List Int)(z:Int):z∈met (λi=>c.getD i 0) c.length ↔ z∈c:=by
 rw[uR];constructor
 ·rintro⟨i,b,rfl⟩;rw[agC,aac b];exact acJ b
 ·intro h;obtain⟨i,b,rfl⟩:=agt h;exact(i,b,by rw[agC,aac b];rfl)
structure Kinds(ns ms:List Int):Prop where
 up:ms.Pairwise (· < ·)
 mem:∀z,z∈ms ↔ z∈ns
theorem Kinds.nd(h:Kinds d M):M.Nodup:=h.up.imp λa=>Int.ne_of_lt a
theorem kinds_of{e:List Int}(f:e=met (λi=>d.getD i 0) d.length)(c:agj M e)(g:M.Pairwise (· <= ·)):Kinds d M:=by
 have h:M.Nodup:=c.nodup_iff.mpr (by rw[f];exact nR _ _);refine((g.and h).imp λ⟨a,b⟩=>by lia,λz=>?_);rw[c.mem_iff,f];exact Rn d z
def uB(H:Hp)(c:List Addr)(d:List (List Int)):Prop:=c.length=d.length /\ ∀(i:Nat) (l:Addr) (b:List Int),c[i]?=some l->d[i]?=some b->H l=some (.tup (b.map V.int))
theorem uB.to{H':Hp}{c:List (List Int)}(h:uB H g c)(s:∀b xs,H b=some (.tup xs)->H' b=some (.tup xs)):uB H' g c:=(h.1,λi l xs e d=>s _ _ (h.2 i l xs e d))
theorem uB.snoc{j:List (List Int)}{l:Addr}{xs:List Int}(h:uB H g j)(e:H l=some (.tup (xs.map V.int))):uB H (g++[l]) (j++[xs]):=by
 refine(by rw[aaf,aaf,h.1];rfl,λi k f b d=>?_);rcases aaq i g.length with c|c
 ·rw[aax c]at b;rw[aax (by rw[<-h.1];exact c)]at d;exact h.2 i k f b d
 ·rw[aar c]at b;rw[aar (by rw[<-h.1];exact c),<-h.1]at d;have:i - g.length=0:=by
   have:=(aab.mp b).1;simp at this;lia
  rw[this]at b d;cases b;cases d;exact e
structure Kept(H:Hp)(r t b k c:Addr)(ns ms:List Int)(h:Nat)(ls:List Addr):Prop where
 r:H r=some (.tup [.ref t,.ref b])
 t:H t=some (.tup [.int (ns.length:Int),.ref k,.ref c])
 k:H k=some (.tup (ms.map V.int))
 c:H c=some (.tup (ls.map V.ref))
 ls:uB H ls ((Uy h (rks ms ns)).map λbs=>UV bs (many ns.length))
 b:H b=some (.lst ((((Uy h (rks ms ns)).map bB).flatten).map V.int))
 kd:Kinds ns ms
 sz:ik ms.length (2^h)
 h12:h<=12
inductive xj(K:PySem.W.Frag)(vs:List V)(H:Hp)(Q:VK)(_e1:XK):Prop
 | mk (p:Addr) (ns:List Int) (_:vs=[.ref p]) (_:My K H p (ns.map V.int)) (_:ns.length<=4000) (_:InR ns) (_:∀(r t b k c:Addr) (ms:List Int) (h:Nat) (ls:List Addr) (H':Hp),H b=none->aQ H H'->Kept H' r t b k c ns ms h ls->Q (.ref r) H')
theorem xM(T:Tx K mg a):aV P w K mg base Ui 6 a.adc a.acs ["signs"] (xj K):=by
 refine T.ady.F.Ul cV λd8 A d3 s H vs Q E hr h=>?_;obtain⟨p,d,rfl,hS,hl,hi,q⟩:=h;refine(_,(aj (bu (aF T.acN (vp T) hr (aa (pv 0) ak)))
  (aj (aA 1 cV.nd (aK (zZ rfl) rfl T.aeT Tw.rO (aa (cU (Kd rfl) rfl T.afW Tw.Ft (aa (pv 0) ak)) ak)))
  (aj (aA 2 cV.nd (cX ak))
  (aj (aA 3 cV.nd (cX ak))
  (aj (bJ PassesOwn.never rfl (bK (aF T.adz (ye T) hr (aa (aF T.acO (v5 T) hr (aa (pv 1) (aa (pv 0) ak))) (aa (aK aL rfl T.Ur Tw.aY (aa (pv 1) ak)) ak)))) (aW 4 cV.nd) (aj (aA 5 cV.nd (aF T.YM (nj T) hr (aa (pv 4) ak)))
  (aj (bu (gZ PySem.F.plainAttrs_list PySem.F.slot_list_append PySem.F.type_list_append b7 (pv 2) (aa (aR aP (aR aP (pv 5) ao) ao) ak)))
  (aq (bu (gZ PySem.F.plainAttrs_list PySem.F.slot_list_extend PySem.F.type_list_extend sV (pv 3) (aa (aR aP (pv 5) ao) ak)))))))
  (aq (aD (gf (aa (gf (aa (aK aL rfl T.Ur Tw.aY (aa (pv 0) ak)) (aa (cU gn rfl T.XS Tw.mR (aa (pv 1) ak)) (aa (cU gn rfl T.XS Tw.mR (aa (pv 2) ak)) ak)))) (aa (pv 3) ak)))))))))),?_)
 exists _,rfl,p,d,rfl,hS,by lia,hi;have d4:(met (λi=>d.getD i 0) d.length).length<=d.length:=uL _ _;refine(_,rfl,p,d,rfl,hS,?_,λl0 ks o0 a2 a3 c6=>(l0,ks,rfl,by rw[au,c6],λy g a4 pm b4=>?_))
 ·have:scanBound=4096:=rfl;lia
 have sA:=(az a2 o0).trans (az a4 (.lst (g.map V.int)));have B:upd (upd H l0 o0) y (.lst (g.map V.int)) y=some (.lst (g.map V.int)):=au;have d5:H y=none:=(az a2 _).free a4;have hK:=kinds_of a3 pm b4;have c3:∀z∈d,z∈g:=λz hz=>(hK.mem z).mpr hz;have lm:g.length<=4000:=by rw[pm.length_eq,a3];lia
 generalize upd (upd H l0 o0) y (.lst (g.map V.int))=H1 at *;refine((by show 0<=sizeLine;decide),λf VG=>((by show 0<=sizeLine;decide),λm VH=>?_));have sB:=(az VG (.lst [])).trans (az VH (.lst []));have M:f≠m:=aH au VH;have Y:upd (upd H1 f (.lst [])) m (.lst []) f=some (.lst []):=by rw[aJ M];exact au
 have X:upd (upd H1 f (.lst [])) m (.lst []) m=some (.lst []):=au;have a9:H f=none:=sA.free VG;have G:H m=none:=sA.free ((az VG _).free VH);have c0:y≠f:=aH B VG;have b9:y≠m:=aH B ((az VG _).free VH)
 replace B:=sB _ _ B
 have sC:=sA.trans sB;generalize upd (upd H1 f (.lst [])) m (.lst [])=H2 at *;refine(_,rfl,_,rfl,y,p,g,d,rfl,My.of B,sC.seq hS,hK.nd,c3,by lia,by lia,λrk H3 d6 u x3=>?_);refine(_,rfl,y,_,rfl,.inl (My.of (u _ _ B)),rk,rks g d,g.length,?_,My.of x3,(by unfold rks;rw[aaa];lia),by lia,λh UL ls H4 hz d2 Y6 V6 x4 N a5=>?_)
 ·rw[aaa];rfl
 have c7:∀l∈ls,l≠f/\l≠m:=λl hl=>((aH (u _ _ Y) (a5 l hl)).symm,(aH (u _ _ X) (a5 l hl)).symm);have b6:UL≠f:=(aH (u _ _ Y) Y6).symm;have b5:UL≠m:=(aH (u _ _ X) Y6).symm;have sD:=u.trans V6
 replace B:=sD _ _ B
 replace Y:=sD _ _ Y
 replace X:=sD _ _ X
 have sE:=sC.trans sD;have d7:ls.length=h:=by rw[N.1,jn]
 exists UL,rfl,(_,My.of x4);refine cu (xs:=ls.map V.ref) (λi σ D=>(∃k4 k5,σ=[some (.ref p),some (.ref y),some (.ref f),some (.ref m),k4,k5])/\aQ H D/\(∀b o,b≠f->b≠m->H4 b=some o->D b=some o) /\ ∃j:List Addr,D f=some (.lst (j.map V.ref))/\D m=some (.lst (((((Uy h (rks g d)).take i).map bB).flatten).map V.int))/\uB D j (((Uy h (rks g d)).take i).map λn=>UV n (many d.length))/\((((Uy h (rks g d)).take i).map bB).flatten).length<=128*i) ?_ ?_ ?_ ?_
 ·exact((none,none,rfl),sE,λb o _ _ e=>e,[],Y,X,(rfl,λi l I e=>by cases e),aaP _)
 ·rintro i σ D _ ⟨_,_,W,_⟩;exact My.of (W _ _ b6 b5 x4)
 ·rintro i x σ D hx ⟨⟨k4,k5,rfl⟩,sm,W,j,ya,yb,hts,YD⟩;rw[aah]at hx;obtain⟨l,O,rfl⟩:=abF.mp hx;have c8:=(aab.mp O).1;obtain⟨n,R⟩:∃n,(Uy h (rks g d))[i]?=some n:=(_,aac (by rw[<-N.1];exact c8));obtain⟨d0,a8⟩:=qm h _ n (aag R);have c4:(rks g d).length=d.length:=by unfold rks;exact aaa ..
  have c9:n.length=d.length:=a8.trans c4;have Y7:=c7 l (aag O);have yl:=W _ _ Y7.1 Y7.2 (N.2 i l n O R);have XQ:j.length=i:=by
   rw[hts.1,aaa,aaD,jn];lia
  refine(_,rfl,l,n,rfl,My.of yl,by lia,d0,λr b t v C d1 Z y1 a1 y2=>?_);have Y8:=Z _ _ ya;have b0:=Z _ _ yb;have c1:b≠f:=(aH ya d1).symm;exists _,rfl,.inl (rfl,_,My.of Y8),_,rfl,r,_,_,_,rfl,rfl,Uj.of y1,rfl,t,_,_,_,rfl,rfl,Uj.of a1.tup,rfl,f,_,_,rfl,rfl,Y8,?_
  ·rw[aaa,XQ,sizeLine_eq];lia
  have a6:r≠f:=λz=>by rw[z,Y8]at y1;cases y1
  have b3:upd C f (.lst (j.map V.ref++[.ref v])) r=some (.tup [.ref t,.ref b]):=by rw[aJ a6];exact y1
  have b2:upd C f (.lst (j.map V.ref++[.ref v])) b=some (.lst ((bB n).map V.int)):=by rw[aJ c1];exact y2
  have J:upd C f (.lst (j.map V.ref++[.ref v])) m=some (.lst (((((Uy h (rks g d)).take i).map bB).flatten).map V.int)):=by rw[aJ (ags M)];exact b0
  have b1:upd C f (.lst (j.map V.ref++[.ref v])) f=some (.lst ((j++[v]).map V.ref)):=by rw[au,aal];rfl
  have s6:=bQ (sm.trans Z) a9 (.lst (j.map V.ref++[.ref v]));have c2:∀c o,c≠f->c≠m->H4 c=some o->upd C f (.lst (j.map V.ref++[.ref v])) c=some o:=λc o n1 n2 e=>by rw[aJ n1];exact Z _ _ (W c o n1 n2 e)
  have a0:∀c I,C c=some (.tup I)->upd C f (.lst (j.map V.ref++[.ref v])) c=some (.tup I):=λc I e=>by
   rw[aJ λz=>?_]
   ·exact e
   ·rw[z,Y8]at e;cases e
  have a7:uB (upd C f (.lst (j.map V.ref++[.ref v]))) (j++[v]) ((((Uy h (rks g d)).take i).map λn=>UV n (many d.length))++[UV n (many d.length)]):=by
   refine uB.snoc (hts.to λc I e=>a0 _ _ (Z _ _ e)) (a0 _ _ ?_);have:=a1.Vr;rw[c9]at this;exact this
  have pl:(bB n).length<=128:=by rw[bC];unfold many;lia
  generalize upd C f (.lst (j.map V.ref++[.ref v]))=H6 at *;have S:(Uy h (rks g d)).take (i+1)=(Uy h (rks g d)).take i++[n]:=by rw[acI,R];rfl
  exists _,rfl,.inl (rfl,_,My.of J),_,rfl,r,_,_,_,rfl,rfl,Uj.of b3,rfl,m,b,_,_,rfl,rfl,J,b2,?_
  ·rw[aaa,aaa,sizeLine_eq];lia
  exists (_,_,rfl),bQ s6 G _,λc o n1 n2 e=>by rw[aJ n2];exact c2 c o n1 n2 e,j++[v],by rw[aJ M];exact b1,?_,?_
  ·rw[au,S,aal,aiG,aal];simp
  ·rw[S,aal];refine a7.to λc I e=>?_;rw[aJ λz=>?_]
   ·exact e
   ·rw[z,J]at e;cases e
  ·rw[S,aal,aiG,aaf];simp only[aay,aia,agu,List.flatten_nil,agG];lia
 ·rintro σ D ⟨⟨k4,k5,rfl⟩,sm,W,j,ya,yb,hts,YD⟩;have U:(Uy h (rks g d)).take (ls.map V.ref).length=Uy h (rks g d):=aai (by rw[aaa,jn];lia);rw[U]at yb hts;have yk:=W _ _ c0 b9 B;refine(_,rfl,p,_,rfl,.inl (sm.seq hS),_,rfl,y,_,rfl,.inl (My.of yk,λk hk=>?_));have s1:=az hk (.tup (g.map V.int));refine(_,rfl,f,_,rfl,.inl (My.of (s1 _ _ ya),λc hc=>?_));have s2:=az hc (.tup (j.map V.ref));have V5:(d.map V.int).length=d.length:=aaa ..;rw[V5];refine((by show 3<=sizeLine;decide),λt ht=>(_,rfl,(by show 2<=sizeLine;decide),λr c5=>?_));have s3:=az ht (.tup [.int (d.length:Int),.ref k,.ref c]);have s4:=az c5 (.tup [.ref t,.ref m]);have L:=s1.trans (s2.trans (s3.trans s4));exact q r t m k c g h j _ G (sm.trans L) (au,s4 _ _ au,s4 _ _ (s3 _ _ (s2 _ _ au)),s4 _ _ (s3 _ _ au),hts.to λb I e=>L _ _ e,L _ _ yb,hK,hz,d2)
def U7(w:Str):Prop:=w.length<=40 /\ ∀c∈w.cps.toList,97<=c/\c<=122
abbrev letters:Str := "abcdefghijklmnopqrstuvwxyz"
theorem Cz:∀k,k<26->(97+k)∈letters.cps.toList/\Builtin.Str.occurrences letters ⟨#[97+k]⟩ 0 letters.length 1=[k]:=by
 decide +kernel
theorem yW{c:Nat}(h:97<=c/\c<=122):c∈letters.cps.toList/\Builtin.Str.occurrences letters ⟨#[c]⟩ 0 letters.length 1=[c - 97]:=by
 have:=Cz (c - 97) (by lia);rw[show 97+(c - 97)=c by lia]at this;exact this
theorem Gj(d:N.Nodup):(met (λi=>N.getD i ⟨#[]⟩) N.length).length=N.length:=by
 have m:=uL (λi=>N.getD i ⟨#[]⟩) N.length;have k:N.length<=(met (λi=>N.getD i ⟨#[]⟩) N.length).length:=by
  have:∀{l U:List Str},l.Nodup->(∀z∈l,z∈U)->l.length<=U.length:=by
   intro l
   induction l with
   | nil=>intro U _ _;exact aaP _
   | cons a l j =>
    intro U d h;have g:=h a abE;have b:=agH.mp d;have q:=j (U:=U.erase a) b.2 λz c=>(List.mem_erase_of_ne λe:z=a=>b.1 (e ▸ c)).mpr (h z (aaR _ c));have e:=List.length_erase_of_mem g;have p:=List.length_pos_of_mem g;rw[aaE];lia
  refine this d λz c=>?_;obtain⟨i,f,e⟩:=agt c;refine(uR _ _ _).mpr (i,f,?_);rw[agC,aac f];exact e
 lia
theorem Qz(b:List Str)(z:Str):z∈met (λi=>b.getD i ⟨#[]⟩) b.length ↔ z∈b:=by
 rw[uR];constructor
 ·rintro⟨i,c,rfl⟩;show b.getD i ⟨#[]⟩∈b;rw[agC,aac c];exact acJ c
 ·intro d;obtain⟨i,c,e⟩:=agt d;exists i,c;show b.getD i ⟨#[]⟩=z;rw[agC,aac c];exact e
inductive uW(K:PySem.W.Frag)(vs:List V)(H:Hp)(Q:VK)(_e1:XK):Prop
 | mk (p:Addr) (ws:List Str) (_:vs=[.ref p]) (_:My K H p (ws.map V.str)) (_:(∀w∈ws,U7 w)) (_:ws.Nodup) (_:ws.length<=4000) (_:∀H',aQ H H'->Q .non H')
theorem vg(T:Tx K mg a):aV P w K mg base Ui 1 a.acC a.abZ ["words"] (uW K):=by
 refine T.acR.F.Ul iI λN A z s H O Q E R h=>?_;obtain⟨p,n,rfl,m,L,G,S,q⟩:=h;refine(_,(aj (bJ PassesOwn.never rfl (bK (pv 0)) (aW 1 iI.nd) (aj (aX (aG iH (aK bA rfl T.Ur Tw.aY (aa (pv 1) ak)) (bD (v:=.int 40) rfl T.ael (_,rfl))) (aq bY) aM)
  (aq (bJ PassesOwn.never rfl (Lh (pv 1)) (aW 2 iI.nd) (aq (aX (aG Ai (pv 2) (bD (v:=.str "abcdefghijklmnopqrstuvwxyz") rfl T.aeh (_,rfl)) (by with_unfolding_all rfl)) (aq bY) aM))))))
  (aq (aX (aG jw (aK uc rfl T.Ur Tw.aY (aa (cU (tW rfl) rfl T.afW Tw.Ft (aa (pv 0) ak)) ak)) (aK aL rfl T.Ur Tw.aY (aa (pv 0) ak))) (aq bY) aM))),?_)
 exists _,rfl,p,rfl,(_,m);refine cu (xs:=n.map V.str) (λi b f=>(∃r d,b=[some (.ref p),r,d])/\f=H) ((none,none,rfl),rfl) ?_ ?_ ?_
 ·rintro i b f _ ⟨_,rfl⟩;exact m
 ·rintro i x b f C ⟨⟨r,d,rfl⟩,rfl⟩;rw[aah]at C;obtain⟨e,M,rfl⟩:=abF.mp C;obtain⟨U,k⟩:=L e (aag M);refine(_,rfl,e,rfl,by rw[sizeLine_eq];lia,_,_,rfl,rfl,_,rfl,bF (λc=>?_) λ_=>?_)
  ·have c:(40:Int)<(e.length:Int):=of_decide_eq_true c;lia
  exists _,rfl,e,rfl;refine HB (x:=e) (λi b t=>(∃d,b=[some (.ref p),some (.str e),d])/\t=f) ((_,rfl),rfl) ?_ ?_
  ·rintro j c b t J ⟨⟨d,rfl⟩,rfl⟩;have y:=k c (by
    have:=Array.mem_of_getElem? J;simpa using this)
   exists _,rfl,_,_,rfl,rfl,_,rfl;rw[PySem.StrLaws.found_one,decide_eq_true (yW y).1];exact dI ((_,rfl),rfl)
  ·rintro b t ⟨⟨d,rfl⟩,rfl⟩;exact((_,_,rfl),rfl)
 ·rintro b f ⟨⟨r,d,rfl⟩,rfl⟩;have D:=Gj G;refine(_,rfl,p,n,rfl,m,(by rw[D];show _+1<4096;lia),λl B o g u I=>?_);refine(l,B,rfl,by rw[au,I],_,rfl,p,_,rfl,.inl (az g _ |>.seq m),_,_,rfl,rfl,_,rfl,bF (λc=>?_) λ_=>q _ (az g _));have c:(B.length:Int)<((n.map V.str).length:Int):=of_decide_eq_true c;rw[u,D,aaa]at c;lia
theorem HX{lo:Int}{n:Nat}{d:L2.St}{tt:TT}(f:Nat->V)(o:n<sizeLine)
  (h:∀(b:Int) (H':Hp) (Q:Bool->Hp->Prop),Q true H'->tt (some (.int b)::d) H' Q)(l:∀(i:Nat) (H':Hp) (Q:VK),i<n->aQ H H'->Q (f i) H'->ta (some (.int (lo+i))::d) H' Q)
  (q:∀D,H D=none->z D (upd H D (.lst ((agd n).map f)))):iR (V9 lo n) d tt ta z H:=by
 intro D j;exists λi m g k=>m=n - i/\i<=n/\g=(agd i).map f/\k=upd H D (.lst g),(_,rfl,aaP _,rfl,rfl);rintro i m g k ⟨rfl,p,rfl,rfl⟩;by_cases c:i<n
 ·refine .inr (c,λv r y=>?_);obtain⟨rfl,rfl⟩:=y;refine h _ _ _ ?_;rw[if_pos rfl];refine l i _ _ c (az j _) (au,?_,n - (i+1),by lia,rfl,c,?_,?_)
  ·rw[aaa,agm];lia
  ·rw[agw,aal];rfl
  ·rw[lw]
 ·have e:i=n:=by lia
  subst e;exact .inl (aad _,q D j)
theorem qR{K:PySem.W.Frag}{a:Addr}{xs:List V}{c:L2.St}{tt:TT}(g:V->V)(n:My K H a xs)(p:xs.length<sizeLine)
  (k:∀(x:V) (H':Hp) (Q:Bool->Hp->Prop),Q true H'->tt (some x::c) H' Q)(o:∀(x:V) (H':Hp) (Q:VK),x∈xs->aQ H H'->Q (g x) H'->ta (some x::c) H' Q)
  (q:∀D,H D=none->z D (upd H D (.lst (xs.map g)))):iR (We K a) c tt ta z H:=by
 intro D h;exists λi m d l=>m=xs.length - i/\i<=xs.length/\d=(xs.take i).map g/\l=upd H D (.lst d),(_,rfl,aaP _,rfl,rfl);rintro i m d l ⟨rfl,r,rfl,rfl⟩;have j:=(az h (.lst ((xs.take i).map g))).seq n;by_cases b:i<xs.length
 ·have f:=aac b;refine .inr ((_,_,j,f),λv s y=>?_);obtain⟨rfl,y⟩:=y;have e:=y _ j;rw[f]at e;cases e;refine k _ _ _ ?_;rw[if_pos rfl];refine o _ _ _ (acJ b) (az h _) (au,?_,xs.length - (i+1),by lia,rfl,b,?_,?_)
  ·rw[aaa,aaD];lia
  ·rw[aiB,f,aal];rfl
  ·rw[lw]
 ·have e:i=xs.length:=by lia
  subst e;refine .inl ((_,j,aad _),?_);have:=q D h;rw[aai (aad _)];exact this
def much:List Str->Nat
 | []=>0
 | w::b=>w.length+much b
theorem JM(b:List Str):∀i,much (b.take i)<=much b:=by
 induction b with
 | nil=>intro i;rw[ain];exact aad _
 | cons w b c =>
  intro i;cases i with
  | zero=>exact aaP _
  | succ i =>
   have:=c i;show w.length+much (b.take i)<=w.length+much b;lia
theorem Jp(b:List Str)(w:Str):much (b++[w])=much b+w.length:=by
 induction b with
 | nil=>show w.length+0=0+w.length;lia
 | cons v b c =>
  show v.length+much (b++[w])=v.length+much b+w.length;lia
def gj(w:Str):List Str:=(agd w.length).map λi=>beg w (i+1)
theorem MT(f:List Str)(t:Str):(t=⟨#[]⟩ \/ ∃w∈f,t∈gj w) ↔ (t=⟨#[]⟩ \/ ∃w∈f,∃k:Nat,t=beg w k):=by
 constructor
 ·rintro(h|⟨b,e,ht⟩)
  ·exact .inl h
  ·unfold gj at ht;obtain⟨j,_,rfl⟩:=aaT.mp ht;exact .inr (b,e,j+1,rfl)
 ·rintro(h|⟨b,e,k,rfl⟩)
  ·exact .inl h
  ·rcases aea (min k b.length)with c|c
   ·refine .inl (eE ?_);rw[bR];rcases aea k with d|d
    ·rw[d];rfl
    ·have:b.cps.toList=[]:=ahG.mp (by rw[aae];show b.length=0;lia);rw[this];exact ain
   ·refine .inr (b,e,?_);unfold gj;refine aaT.mpr (min k b.length - 1,ag9.mpr (by lia),?_);rw[show min k b.length - 1+1=min k b.length by lia];refine eE ?_;rw[bR,bR];rcases aiw k b.length with d|d
    ·rw[afM d]
    ·rw[agW d,aai (by rw[aae];exact aad _),aai (by rw[aae];exact d)]
theorem qG:∀b:List Str,(b.flatMap gj).length=much b
 | []=>rfl
 | w::b=>by
  rw[List.flatMap_cons,aaf,qG b];show ((agd w.length).map _).length+much b=w.length+much b;rw[aaa,agm]
inductive qO(K:PySem.W.Frag)(vs:List V)(H:Hp)(Q:VK)(_e1:XK):Prop
 | mk (p:Addr) (ws:List Str) (_:vs=[.ref p]) (_:My K H p (ws.map V.str)) (_:(∀w∈ws,w.length<=40)) (_:much ws<=4000) (_:∀(r:Addr) (ts:List Str) (H':Hp),H r=none->aQ H H'->H' r=some (.lst (ts.map V.str))->oF ws ts->ts.length<=much ws+1->Q (.ref r) H')
theorem sJ(T:Tx K mg a):aV P w K mg base Ui 1 a.abk a.aa1 ["words"] (qO K):=by
 refine T.abq.F.Ul fW λa2 A B s H vs Q E hr h=>?_;obtain⟨p,c,rfl,L,Y9,hm,q⟩:=h;refine(_,(aj (aA 1 fW.nd (cX (aa rD ak)))
  (aj (bJ PassesOwn.never rfl (bK (pv 0)) (lg (i:=2) fW.nd rfl (ahT rfl)) (aq (bu (gZ PySem.F.plainAttrs_list PySem.F.slot_list_extend PySem.F.type_list_extend sV (pv 1) (aa (jy rfl (bZ.one (j:=2) rfl (ag1 rfl) rfl rfl (ag1 rfl)) (Ip rfl T.Xk (aa ao (aa (aC bh (aK bA rfl T.Ur Tw.aY (aa (pv 2) ak)) ao) ak))) (λ_ _ _ _=>fL) (λ_ _ _ _=>(b8 lU (pv 1) dH (cD (pv 0))))) ak)))))
  (aq (aD (aK (pW rfl) rfl T.aeT Tw.rO (aa (cU (tW rfl) rfl T.afW Tw.Ft (aa (pv 1) ak)) ak)))))),?_)
 refine((by show 1<=sizeLine;decide),λr l=>?_)
 have G:=az l (.lst [.str ""])
 exists _,rfl,p,rfl,(_,G.seq L);refine cu (xs:=c.map V.str) (λi o g=>(∃y,o=[some (.ref p),some (.ref r),y])/\aQ H g/\g r=some (.lst (((⟨#[]⟩:Str)::(c.take i).flatMap gj).map V.str))) ((none,rfl),G,au) ?_ ?_ ?_
 ·rintro i o g _ ⟨_,e,_⟩;exact e.seq L
 ·rintro i x o g J ⟨⟨y,rfl⟩,e,f⟩;rw[aah]at J;obtain⟨b,M,rfl⟩:=abF.mp J;have hw:=Y9 b (aag M);have hts:((⟨#[]⟩:Str)::(c.take i).flatMap gj).length=1+much (c.take i):=by
   rw[aaE,qG];lia
  have a0:=JM c i;exists _,rfl,.inl (rfl,_,My.of f),_,rfl,b,rfl,by rw[sizeLine_eq];lia,_,_,rfl,rfl,1,_,rfl,(by decide,by decide,by lia,by lia);have Z:((b.length:Int)+1 - 1).toNat=b.length:=by lia
  show iR (V9 1 ((b.length:Int)+1 - 1).toNat) _ _ _ _ _;rw[Z];refine HX (λi=>.str (beg b (i+1))) (by rw[sizeLine_eq];lia) (λ_ _ _ q=>q) (λj H2 Q hj U8 S=>(_,rfl,_,rfl,_,rfl,b,rfl,by rw[sizeLine_eq];lia,?_)) λD Y=>?_
  ·rw[show (1:Int)+(j:Int)=((j+1:Nat):Int) by lia,zg];exact S
  have C:=az Y (.lst ((agd b.length).map λi=>V.str (beg b (i+1))));have n:((agd b.length).map λi=>V.str (beg b (i+1)))=(gj b).map V.str:=by
   unfold gj;rw[agP];rfl
  have VH:(gj b).length=b.length:=by
   unfold gj;rw[aaa,agm]
  refine(r,D,_,_,rfl,rfl,C _ _ f,au,?_,((_,rfl),bQ (e.trans C) l _,?_))
  ·rw[aaa,hts,n,aaa,VH,sizeLine_eq];lia
  ·rw[au,n,aiB,M,List.flatMap_append,<-aal];simp
 ·rintro o g ⟨⟨y,rfl⟩,e,f⟩;rw[aaa,aai (aad _)]at f;have hts:((⟨#[]⟩:Str)::c.flatMap gj).length=1+much c:=by
   rw[aaE,qG];lia
  have a1:=uL (λi=>((⟨#[]⟩:Str)::c.flatMap gj).getD i ⟨#[]⟩) ((⟨#[]⟩:Str)::c.flatMap gj).length;refine(_,rfl,r,_,rfl,My.of f,?_,λW X I m d z=>(W,X,rfl,by rw[au,z],λR u k v N=>?_))
  ·show _+1<4096;lia
  have U:u.Nodup:=v.nodup_iff.mpr (by rw[d];exact nR _ _);have O:=(az m I).trans (az k (.lst (u.map V.str)));refine q R u _ (e.free (az m I |>.free k)) (e.trans O) au (wV N U,λt=>?_) ?_
  ·rw[v.mem_iff,d,Qz,aaQ,List.mem_flatMap];exact MT c t
  ·rw[v.length_eq,d];lia
theorem yP(xs:List V)(i:Nat):dm xs (some (i:Int)) none=xs.drop i:=by
 unfold dm;rw[HT.jY,HT.jr];rcases aiw i xs.length with c|c
 ·rw[afM c,aai (by rw[ab9];exact aad _)]
 ·rw[agW c,agi (aad _),agi c,ain]
def lenV:V->V
 | .str t=>.int (t.length:Int)
 | v=>v
def fJ(t:Str):Int:=((t.cps.toList.getLastD 97:Nat):Int) - 97
def GZ:V->V
 | .str t=>.int (fJ t)
 | v=>v
def nD(b:List Str)(t:Str):Int:=if t∈b then 1 else 0
def Qa(b:List Str):V->V
 | .str t=>.int (nD b t)
 | v=>v
theorem oF.low(h:oF N ps)(f:∀w∈N,U7 w){t:Str}(ht:t∈ps):U7 t:=by
 rcases(h.mem t).mp ht with e|⟨w,d,k,e⟩
 ·rw[e];exact(aaP _,λc b=>by cases b)
 ·obtain⟨i,g⟩:=f w d;refine(by rw[e,zG];lia,λc b=>g c ?_);rw[e,bR]at b;exact ag2 b
inductive CQ(K:PySem.W.Frag)(vs:List V)(H:Hp)(Q:VK)(_e1:XK):Prop
 | mk (p:Addr) (ws:List Str) (_:vs=[.ref p]) (_:My K H p (ws.map V.str)) (_:(∀w∈ws,U7 w)) (_:ws.Nodup) (_:ws.length<=3000) (_:much ws<=3000) (_:∀(r d l e:Addr) (ts:List Str) (H':Hp),aQ H H'->H' r=some (.tup [.ref d,.ref l,.ref e])->H' d=some (.lst ((ts.map λt=>(t.length:Int)).map V.int))->H' l=some (.lst (((ts.drop 1).map fJ).map V.int))->H' e=some (.lst ((ts.map (nD ws)).map V.int))->oF ws ts->ts.length<=much ws+1->Q (.ref r) H')
theorem Bl(T:Tx K mg a):aV P w K mg base Ui 2 a.aeE a.adW ["words"] (CQ K):=by
 refine T.aeO.F.Ul di λb5 A b2 s H vs Q E W h=>?_;obtain⟨p,m,rfl,Y,X,nd,hl,hm,q⟩:=h;refine(_,(aj (bu (aF T.acR (vg T) W (aa (pv 0) ak)))
  (aj (aA 1 di.nd (aF T.abq (sJ T) W (aa (pv 0) ak)))
  (aj (kE (i:=2) di.nd rfl rfl rfl bZ.zero (bK (pv 1)) (λ_ _ _ _=>fL) (λ_ _ _ _=>(aK bA rfl T.Ur Tw.aY (aa (pv 0) ak))))
  (aj (kE (i:=3) di.nd rfl rfl rfl bZ.zero (bK (b8 n8 (pv 1) (cD ao) dH)) (λ_ _ _ _=>fL) (λ_ _ _ _=>(show PE _ _ (Zk K "str" Hi _ _)from (gZ PySem.F.plainAttrs_str PySem.F.slot_str_index PySem.F.type_str_index HW (bD (v:=.str "abcdefghijklmnopqrstuvwxyz") rfl T.aeh (_,rfl)) (aa (aR zq (pv 0) (j5 fX ao)) ak)))))
  (aj (rQ (i:=4) di.nd rfl (ahT rfl) BX)
  (aj (bJ PassesOwn.never rfl (bK (pv 0)) (aW 5 di.nd) (aq (Hw (agX (ahz (by decide:1<=64) _) W.units) (pv 4) (pv 5) sX rfl)))
  (aj (kE (i:=6) di.nd rfl rfl rfl (bZ.one (j:=4) rfl (ag1 rfl) rfl rfl (ag1 rfl)) (bK (pv 1)) (λ_ _ _ _=>fL) (λ_ _ _ _=>(LC (fQ (Rj (agX (ahz (by decide:1<=64) _) W.units) (pv 0) (pv 1))) ao ao)))
  (aq (aD (gf (aa (pv 2) (aa (pv 3) (aa (pv 6) ak))))))))))))),?_)
 refine(_,rfl,p,m,rfl,Y,X,nd,by lia,λH1 Uu=>?_);refine(_,rfl,p,m,rfl,Uu.seq Y,λw hw=>(X w hw).1,by lia,λS b Z b4 U8 o I a1=>?_);have s2:=Uu.trans U8;have M:(b.map V.str).length=b.length:=aaa ..;exists _,rfl,S,rfl,(_,My.of o);refine qR lenV (My.of o) (by rw[sizeLine_eq,M];lia) (λ_ _ _ q=>q) (λx y Q D C n=>?_) λd hd=>?_
 ·obtain⟨t,ht,rfl⟩:=aaT.mp D;have:=(I.low X ht).1;exact(_,rfl,t,rfl,by rw[sizeLine_eq];lia,n)
 have t3:=az hd (.lst ((b.map V.str).map lenV));have G:upd Z d (.lst ((b.map V.str).map lenV)) d=some (.lst ((b.map λt=>(t.length:Int)).map V.int)):=by
  rw[au,agP,agP];rfl
 replace o:=t3 _ _ o
 have s3:=s2.trans t3;generalize upd Z d (.lst ((b.map V.str).map lenV))=H3 at *;refine(_,rfl,_,rfl,S,_,rfl,My.of o,λc hc=>(c,rfl,(_,My.of au),?_));have t4:=az hc (.lst (dm (b.map V.str) (some 1) none));have xc:upd H3 c (.lst (dm (b.map V.str) (some 1) none)) c=some (.lst ((b.drop 1).map V.str)):=by
  rw[au,show (1:Int)=((1:Nat):Int)from rfl,yP,ahY]
 replace o:=t4 _ _ o
 replace G:=t4 _ _ G
 have s4:=s3.trans t4;rw[show dm (b.map V.str) (some 1) none=(b.drop 1).map V.str by rw[show (1:Int)=((1:Nat):Int)from rfl,yP,ahY]]at *;generalize upd H3 c (.lst ((b.drop 1).map V.str))=H4 at *;refine qR GZ (My.of xc) (by rw[sizeLine_eq,aaa,ab9];lia) (λ_ _ _ q=>q) (λx y Q D C n=>?_) λl a6=>?_
 ·obtain⟨t,ht,rfl⟩:=aaT.mp D;have a0:=agL ht;obtain⟨b3,N⟩:=I.low X a0;have a3:t.cps.toList≠[]:=λe=>by
   obtain⟨i,hi,ei⟩:=agt ht;rw[ag6]at ei;have a4:1+i<b.length:=by
    rw[ab9]at hi;lia
   have h0:=I.zero;obtain⟨b0,b1⟩:=aab.mp h0;have:=aca.mp I.up 0 (1+i) b0 a4 (by lia);rw[b1,ei]at this;unfold Vn at this;rw[e]at this;exact absurd this (ah4 _)
  obtain⟨rr,u,Xn⟩:∃rr u,t.cps.toList=rr++[u]:=(_,_,(ahd a3).symm);have a5:=N u (by rw[Xn];exact aaw _ (agN _));have a9:UT t.cps.toList (-1)=some u:=by
   rw[Xn];exact mV rr u
  have a8:=(yW a5).2;have el:fJ t=((u - 97:Nat):Int):=by
   unfold fJ;rw[Xn,ahV];lia
  exists rfl,_,rfl,_,rfl,t,-1,u,rfl,rfl,by rw[sizeLine_eq];lia,a9,letters,⟨#[u]⟩,u - 97,[],rfl,rfl,a8;rw[<-el];exact n
 have t5:=az a6 (.lst (((b.drop 1).map V.str).map GZ));have xl:upd H4 l (.lst (((b.drop 1).map V.str).map GZ)) l=some (.lst (((b.drop 1).map fJ).map V.int)):=by
  rw[au,agP,agP];rfl
 replace o:=t5 _ _ o
 replace G:=t5 _ _ G
 have s5:=s4.trans t5;generalize upd H4 l (.lst (((b.drop 1).map V.str).map GZ))=H5 at *;intro R L;have t6:=az L (.dK []);have s6:=s5.trans t6;exists _,rfl,p,rfl,(_,s6.seq Y);refine cu (xs:=m.map V.str) (λi O y=>(∃k5,O=[some (.ref p),some (.ref S),some (.ref d),some (.ref l),some (.ref R),k5,none])/\aQ H5 y /\ ∃f:List (Key×V),y R=some (.dK f)/\f.length<=i /\ ∀t:Str,(iy f (Sum.inr t)).isSome=decide (t∈m.take i)) ((none,rfl),t6,[],au,aad _,λt=>rfl) ?_ ?_ ?_
 ·rintro i O y _ ⟨_,C,_⟩;exact(s5.trans C).seq Y
 ·rintro i x O y D ⟨⟨k5,rfl⟩,C,f,xw,a7,B⟩;rw[aah]at D;obtain⟨wd,Wd,rfl⟩:=abF.mp D;have hi:=(aab.mp Wd).1;exists _,rfl,_,rfl,R,_,rfl,.inl (f,Sum.inr wd,xw,rfl,by rw[sizeLine_eq];lia,rfl);refine((_,rfl),bQ C L _,_,au,?_,λt=>?_)
  ·have:=Du f (Sum.inr wd) (.bl true);lia
  ·rw[BR,aiB,Wd];by_cases e:t=wd
   ·subst e;rw[if_pos rfl];exact(decide_eq_true (aaw _ (agN _))).symm
   ·rw[if_neg (λz=>e (Sum.inr.inj z)),B t];refine decide_eq_decide.mpr (λz=>agz _ z,λz=>?_);rcases abd.mp z with z|z
    ·exact z
    ·exact absurd (aas.mp z) e
 ·rintro O y ⟨⟨k5,rfl⟩,C,f,xw,a7,B⟩;rw[aaa,aai (aad _)]at B;have J:=C _ _ o;exists _,rfl,S,rfl,(_,My.of J);refine qR (Qa m) (My.of J) (by rw[sizeLine_eq,M];lia) (λ_ _ _ q=>q) (λx Z Q D U8 n=>?_) λe he=>?_
  ·obtain⟨t,ht,rfl⟩:=aaT.mp D;have g:=z8.k (k:=Sum.inr t) (U8 _ _ xw);exists _,rfl,_,rfl,R,_,rfl,g,_,rfl;rw[B t];have n:Q (.int (nD m t)) Z:=n;unfold nD at n;by_cases c:t∈m
   ·rw[decide_eq_true c];rw[if_pos c]at n;exact il n
   ·rw[decide_eq_false c];rw[if_neg c]at n;exact dI n
  have t7:=az he (.lst ((b.map V.str).map (Qa m)));have xe:upd y e (.lst ((b.map V.str).map (Qa m))) e=some (.lst ((b.map (nD m)).map V.int)):=by
   rw[au,agP,agP];rfl
  have s7:=C.trans t7;generalize upd y e (.lst ((b.map V.str).map (Qa m)))=H7 at *;refine(_,rfl,_,rfl,_,rfl,(by show 3<=sizeLine;decide),λr a2=>?_);have U:=az a2 (.tup [.ref d,.ref l,.ref e]);exact q r d l e b _ ((s5.trans s7).trans U) au (U _ _ (s7 _ _ G)) (U _ _ (s7 _ _ xl)) (U _ _ xe) I a1
structure Store(H:Hp)(r t bl:Addr)(ws ts:List Str):Prop where
 r:H r=some (.tup [.ref t,.ref bl])
 ex:∃(t1 t2 t3 ah nd b1 r2 b2 k2 c2 Wn b3:Addr) (lows:List Int) (S:Nat) (xs:List V) (ms:List Int) (h:Nat) (ls:List Addr),
  H t=some (.tup [.ref t1,.ref t2,.ref t3])/\KB H t1 ah nd b1 (brk (ts.map λt=>(t.length:Int)) 0) lows S xs/\Kept H r2 t2 b2 k2 c2 ((ts.drop 1).map fJ) ms h ls/\Tab H t3 Wn (ts.map (nD ws)) [] /\
  H bl=some (.lst (((bB (brk (ts.map λt=>(t.length:Int)) 0))++((Uy h (rks ms ((ts.drop 1).map fJ))).map bB).flatten++bB (ts.map (nD ws))).map V.int))
 begs:oF ws ts
theorem Kc{t:Str}(h:U7 t):0<=fJ t/\fJ t<=25:=by
 unfold fJ;cases e:t.cps.toList with
 | nil=>decide
 | cons a r =>
  have c:t.cps.toList≠[]:=λz=>by rw[e]at z;cases z
  obtain⟨d,b,f⟩:∃d b,t.cps.toList=d++[b]:=(_,_,(ahd c).symm);have g:=h.2 b (by rw[f];exact aaw _ (agN _));rw[<-e,f,ahV];lia
theorem yF(c d:List Str):bc (d.map (nD c)):=λb e=>by
 obtain⟨t,_,rfl⟩:=aaT.mp e;unfold nD;split
 ·exact .inr rfl
 ·exact .inl rfl
theorem sO{n:Nat}:∀{L:List (List Int)},(∀x∈L,x.length=n)->((L.map bB).flatten).length=L.length*many n
 | [],_=>by simp
 | x::L,h=>by
  rw[aay,agu,aaf,sO λy b=>h y (aaR _ b),bC,h x abE,aaE,ahf];lia
theorem Kept.size{r t b k c:Addr}(x:Kept H r t b k c d M n g)(j:d.length<=4000):((((Uy n (rks M d)).map bB).flatten).map V.int).length<=1600:=by
 rw[aaa,sO (n:=d.length) λl i=>by
  rw[(Tw.qm _ _ _ i).2];unfold rks;exact aaa ..,jn]
 have e:=x.h12;have f:many d.length<=126:=by
  unfold many;lia
 exact age (aje e f) (by decide)
inductive w6(K:PySem.W.Frag)(vs:List V)(H:Hp)(Q:VK)(_e1:XK):Prop
 | mk (p:Addr) (ws:List Str) (_:vs=[.ref p]) (_:My K H p (ws.map V.str)) (_:(∀w∈ws,U7 w)) (_:ws.Nodup) (_:ws.length<=2000) (_:much ws<=2000) (_:∀r t bl ts H',aQ H H'->Store H' r t bl ws ts->ts.length<=much ws+1->Q (.ref r) H')
theorem w5(T:Tx K mg a):aV P w K mg base Ui 8 a.adl a.acD ["words"] (w6 K):=by
 refine T.adE.F.Ul dY λb9 A a7 s H vs Q E U h=>?_;obtain⟨p,N,rfl,hS,hW,nd,hl,hm,q⟩:=h;refine(_,(aj (aA 1 dY.nd (aF T.aeO (Bl T) U (aa (pv 0) ak)))
  (aj (aA 2 dY.nd (aF T.aeb (z6 T) U (aa (aR aP (pv 1) ao) ak)))
  (aj (aA 3 dY.nd (aF T.ady (xM T) U (aa (aR aP (pv 1) ao) ak)))
  (aj (aA 4 dY.nd (aF T.YM (nj T) U (aa (aR aP (pv 1) ao) ak)))
  (aq (aD (gf (aa (gf (aa (aR aP (pv 2) ao) (aa (aR aP (pv 3) ao) (aa (aR aP (pv 4) ao) ak)))) (aa (aC mW (aC mW (aR aP (pv 2) ao) (aR aP (pv 3) ao)) (aR aP (pv 4) ao)) ak))))))))),?_)
 refine(_,rfl,p,N,rfl,hS,hW,nd,by lia,by lia,λpr d l e f H1 Uu X xd xl xe hB a3=>?_);have Yb:=hB.good;have I:(f.map λt=>(t.length:Int)).length=f.length:=aaa ..;refine(_,rfl,pr,_,_,_,rfl,rfl,Uj.of X,rfl,d,_,rfl,xd,by rw[I];lia,Yb,λr1 t1 ah G b1 n S M H2 b6 W a0 x=>?_);have Y7:((f.drop 1).map fJ).length=f.length - 1:=by rw[aaa,ab9]
 have L:InR ((f.drop 1).map fJ):=λz hz=>by
  obtain⟨t,ht,rfl⟩:=aaT.mp hz;have:=Kc (hB.low hW (agL ht));lia
 have Wu:=n6 Yb;rw[I]at Wu;refine(_,rfl,pr,_,_,_,rfl,rfl,Uj.of (W _ _ X),rfl,l,(f.drop 1).map fJ,rfl,My.of (W _ _ xl),by lia,L,λO Z b2 k2 c2 R h ls H3 b5 D j=>?_);have s3:=W.trans D;refine(_,rfl,pr,_,_,_,rfl,rfl,Uj.of (s3 _ _ X),rfl,e,f.map (nD N),rfl,My.of (s3 _ _ xe),by rw[aaa];lia,yF _ _,λr3 b3 t3 Wn H4 b4 v B J a1=>?_);have y:=D.trans v;have u:KB H4 t1 ah G b1 (brk (f.map λt=>(t.length:Int)) 0) n S M:=(x.tab.same y,y _ _ x.Wl,y _ _ x.bls,x.low,x.sz,x.heap);have m:=y _ _ a0;have g:Kept H4 O Z b2 k2 c2 ((f.drop 1).map fJ) R h ls:=(v _ _ j.r,v _ _ j.t,v _ _ j.k,v _ _ j.c,j.ls.to λb M e=>v _ _ e,v _ _ j.b,j.kd,j.sz,j.h12);refine(_,rfl,r1,_,_,_,rfl,rfl,Uj.of m,rfl,_,rfl,O,_,_,_,rfl,rfl,Uj.of g.r,rfl,_,rfl,r3,_,_,_,rfl,rfl,Uj.of B,rfl,(by show 3<=sizeLine;decide),λtt a2=>?_);have o:=az a2 (.tup [.ref t1,.ref Z,.ref t3]);have a8:=j.size (by rw[Y7];lia);have b0:((bB (brk (f.map λt=>(t.length:Int)) 0)).map V.int).length<=200:=by
  rw[aaa,bC,Wu];unfold many;lia
 have a9:((bB (f.map (nD N))).map V.int).length<=200:=by
  rw[aaa,bC,aaa];unfold many;lia
 refine(_,rfl,r1,_,_,_,rfl,rfl,Uj.of (o _ _ m),rfl,_,rfl,O,_,_,_,rfl,rfl,Uj.of (o _ _ g.r),rfl,b1,b2,_,_,rfl,rfl,o _ _ u.bls,o _ _ g.b,by rw[sizeLine_eq];lia,λc1 a6=>?_);have Y:=az a6 (.lst ((bB (brk (f.map λt=>(t.length:Int)) 0)).map V.int++(((Uy h (rks R ((f.drop 1).map fJ))).map bB).flatten).map V.int));refine(_,rfl,r3,_,_,_,rfl,rfl,Uj.of (Y _ _ (o _ _ B)),rfl,c1,b3,_,_,rfl,rfl,au,Y _ _ (o _ _ a1),by rw[aaf,sizeLine_eq];lia,λc3 a5=>?_);have u3:=az a5 (.lst ((bB (brk (f.map λt=>(t.length:Int)) 0)).map V.int++(((Uy h (rks R ((f.drop 1).map fJ))).map bB).flatten).map V.int++(bB (f.map (nD N))).map V.int));refine((by show 2<=sizeLine;decide),λrr a4=>?_);have u4:=az a4 (.tup [.ref tt,.ref c3]);have C:=Y.trans (u3.trans u4);have i:=o.trans C;refine q rr tt c3 f _ (((Uu.trans W).trans y).trans i) (au,(t1,Z,t3,ah,G,b1,O,b2,k2,c2,Wn,b3,n,S,M,R,h,ls,C _ _ au,(u.tab.same i,i _ _ u.Wl,i _ _ u.bls,u.low,u.sz,u.heap),(i _ _ g.r,i _ _ g.t,i _ _ g.k,i _ _ g.c,g.ls.to λb M e=>i _ _ e,i _ _ g.b,g.kd,g.sz,g.h12),J.same i,?_),hB) a3;rw[u4 _ _ au,aal,aal]
abbrev Vt(n k:Nat)(d c b:List Int):Prop:=bO n k c b
theorem Vt.none{n k:Nat}(U b:List Int):Vt n k U b b:=bO.none b
theorem Vt.le{n j k:Nat}{U V a b:List Int}(h:Vt n j U a b)(c:j<=k)(_:∀x∈U,x∈V):Vt n k V a b:=bO.le h c
theorem Vt.len{n k:Nat}{U a b:List Int}(h:Vt n k U a b):b.length<=a.length+k:=bO.len h
theorem Vt.trans{n j k:Nat}{U V a b c:List Int}(h:Vt n j U a b)(h':Vt n k V b c):Vt n (j+k) (U++V) a c:=bO.trans h h'
structure SG where
 t:Addr
 k:Addr
 c:Addr
 bl:Addr
 sn:Addr
 g:Addr
 ls:List Addr
 ns:List Int
 ms:List Int
 h:Nat
 off:Nat
 al:List V
def SG.lv(p:SG):List (List Int):=Uy p.h (rks p.ms p.ns)
abbrev SG.all(p:SG):List V:=p.al
theorem SG.lv_len(p:SG):p.lv.length=p.h:=jn _ _
theorem SG.lv_mem(p:SG){bs:List Int}(h:bs∈p.lv):bc bs/\bs.length=p.ns.length:=by
 obtain⟨c,b⟩:=Tw.qm _ _ _ h;refine(c,b.trans ?_);unfold rks;exact aaa ..
theorem GQ{m:Nat}:∀{L:List (List Int)} {i:Nat}{bs:List Int},(∀x∈L,(bB x).length=m)->L[i]?=some bs->(((L.map bB).flatten).drop (i*m)).take m=bB bs
 | [],i,bs,_,h=>by cases h
 | x::L,0,bs,b,h=>by
  cases h;rw[aib,aha,aay,agu,ahS (by rw[b x abE];exact aad _),aai (by rw[b x abE];exact aad _)]
 | x::L,i+1,bs,b,h=>by
  have c:=b x abE;rw[aay,agu,List.drop_append,agi (by rw[c,ahf];lia),ahB,c,show (i+1)*m - m=i*m by rw[ahf];lia];exact GQ (λy d=>b y (aaR _ d)) h
theorem SG.all_at(p:SG){i n:Nat}{bs:List Int}(f:∀j x,((p.lv.map bB).flatten)[j]?=some x->p.al[p.off+j]?=some (.int x))(h:p.lv[i]?=some bs)(b:n<many p.ns.length):p.all[p.off+i*many p.ns.length+n]?=some (.int (cF bs n)):=by
 have d:=(p.lv_mem (aag h)).2;have e:=GQ (m:=many p.ns.length) (λx c=>by rw[bC,(p.lv_mem c).2]) h;rw[Nat.add_assoc];refine f _ _ ?_;rw[<-agx,<-acT b,e,jV (by rw[d];exact b)]
structure SQ(H:Hp)(Ph:Addr)(p:SG)(ss:List Int):Prop where
 t:H p.t=some (.tup [.int (p.ns.length:Int),.ref p.k,.ref p.c])
 k:H p.k=some (.tup (p.ms.map V.int))
 c:H p.c=some (.tup (p.ls.map V.ref))
 ls:uB H p.ls (p.lv.map λbs=>UV bs (many p.ns.length))
 b:H p.bl=some (.lst p.all)
 at0:∀j x,((p.lv.map bB).flatten)[j]?=some x->p.al[p.off+j]?=some (.int x)
 kd:Kinds p.ns p.ms
 sz:ik p.ms.length (2^p.h)
 h12:p.h<=12
 len:p.ns.length<=4000
 sn:H p.sn=some (.lst (ss.map V.int))
 ne:p.sn≠p.bl
 few:ss.length<=15900000
 clo:Vp H (p.g,some p.sn,p.bl,p.off,p.al)
 tab:TabAt H Ph (bU bw) aN.qual
structure iu(H H':Hp)(Ph:Addr)(p:SG)(k:Nat)(U ss ss':List Int):Prop where
 kp:∀b o,H b=some o->b≠Ph->b≠p.sn->H' b=some o
 seen:H' p.sn=some (.lst (ss'.map V.int))
 tab:TabAt H' Ph (bU bw) aN.qual
 wr:Vt p.all.length k U ss ss'
theorem iu.trans{H l i:Hp}{d:Addr}{p:SG}{j k:Nat}{U V a b c:List Int}(h:iu H l d p j U a b)(h':iu l i d p k V b c):iu H i d p (j+k) (U++V) a c:=
 (λx o e g f=>h'.kp x o (h.kp x o e g f) g f,h'.seen,h'.tab,h.wr.trans h'.wr)
theorem iu.le{H d:Hp}{c:Addr}{p:SG}{j k:Nat}{U V a b:List Int}(h:iu H d c p j U a b)(f:j<=k)(e:∀x∈U,x∈V):iu H d c p k V a b:=(h.kp,h.seen,h.tab,h.wr.le f e)
theorem iu.same{H f d:Hp}{c:Addr}{p:SG}{j:Nat}{U a b:List Int}(h:iu H f c p j U a b)(s:aQ f d):iu H d c p j U a b:=
 (λx o e i g=>s _ _ (h.kp x o e i g),s _ _ h.seen,TabAt.same h.tab s,h.wr)
theorem iu.set{X:Hp}{r:Addr}{p:SG}{k:Nat}{U :List Int}{g:List V}(c:iu H X f p k U d M)(n:H r=none)(m:X r=some (.lst l))(h:r≠p.sn):iu H (L2.upd X r (.lst g)) f p k U d M:=
 (λb o e j i=>by rw[aJ (aH e n)];exact c.kp b o e j i,by rw[aJ h.symm];exact c.seen,TabAt.upd c.tab m,c.wr)
theorem SQ.self{p:SG}(h:SQ H f p d):iu H H f p 0 [] d d:=(λ_ _ e _ _=>e,h.sn,h.tab,Vt.none _ d)
def Kp(H H':Hp):Prop:=∀b o,H b=some o->(∀c,o ≠ .Uq c)->(∀c,o ≠ .lst c)->H' b=some o
theorem SQ.kp{H H':Hp}{g:Addr}{p:SG}{k:Nat}{U f c:List Int}(h:SQ H g p f)(d:iu H H' g p k U f c):Kp H H':=λb o e j i=>d.kp b o e (TabAt.ne h.tab e j) λz=>by
 rw[z,h.sn]at e;cases e;exact i _ rfl
theorem SQ.did{H':Hp}{p:SG}{k:Nat}{U :List Int}(h:SQ H f p d)(g:iu H H' f p k U d M)(j:M.length<=15900000):SQ H' f p M:=by
 have i:=h.kp g;refine(i _ _ h.t nofun nofun,i _ _ h.k nofun nofun,i _ _ h.c nofun nofun,h.ls.to λb l e=>i _ _ e nofun nofun,g.kp _ _ h.b (TabAt.ne h.tab h.b nofun) h.ne.symm,h.at0,h.kd,h.sz,h.h12,h.len,g.seen,h.ne,j,Vp.keeps _ _ _ h.clo λb o e=>i _ _ e nofun nofun,g.tab)
theorem SQ.same{H H':Hp}{c:Addr}{p:SG}{b:List Int}(h:SQ H c p b)(s:aQ H H'):SQ H' c p b:=h.did (h.self.same s) h.few
inductive Lv(H:Hp)(p:SG)(i:Nat)(l:Addr):Prop
 | mk (UL ah f:Addr) (bs:List Int) (_:p.lv[i]?=some bs) (_:H l=some (.tup [.ref UL,.ref f])) (_:H UL=some (.tup [.int (p.ns.length:Int),.ref ah])) (_:H ah=some (.tup ((UV bs (many p.ns.length)).map V.int))) (_:gY H (f,some p.sn,p.bl,p.off+i*many p.ns.length,p.all))
theorem Lv.kept{H H':Hp}{p:SG}{i:Nat}{l:Addr}(h:Lv H p i l)(s:Kp H H'):Lv H' p i l:=by
 obtain⟨m,k,f,j,g,e,d,c,b⟩:=h;exact(m,k,f,j,g,s _ _ e nofun nofun,s _ _ d nofun nofun,s _ _ c nofun nofun,b.kept s)
theorem Kp.of{H':Hp}(s:aQ H H'):Kp H H':=λb o e _ _=>s _ _ e
theorem Lv.ask{p:SG}{i:Nat}{l:Addr}(x:SQ H C p d)(h:Lv H p i l):∃(c k f:Addr) (bs:List Int),p.lv[i]?=some bs/\H l=some (.tup [.ref c,.ref f])/\Ask H c (f,some p.sn,p.bl,p.off+i*many p.ns.length,p.all) k bs d []:=by
 obtain⟨c,k,f,bs,j,t,s,r,q⟩:=h;obtain⟨o,g⟩:=p.lv_mem (aag j);refine(c,k,f,bs,j,t,(by rw[g];exact s,by rw[g];exact r,by decide),(q,λsn e=>?_,x.b,?_),o,?_,λn m=>p.all_at x.at0 j (by rw[<-g];exact m))
 ·cases e;exact(x.sn,x.ne)
 ·have:=x.few;lia
 ·have:=x.len;lia
theorem SQ.look{H':Hp}{p:SG}{U:List Int}{k:Nat}{L:LK}(h:SQ H f p d)(c:L.wr=some p.sn)(g:L.all=p.all)(w:Vt L.all.length k U d M)(s:aQ (L.put H M) H'):iu H H' f p k U d M:=by
 rw[LK.put_some c]at s;rw[g]at w;exact(λx o e i b=>s _ _ (by rw[aJ b];exact e),s _ _ au,TabAt.same (TabAt.upd h.tab h.sn) s,w)
inductive Af(Ph:Addr)(vs:List V)(H:Hp)(Q:VK)(_e1:XK):Prop
 | mk (p:SG) (ss:List Int) (_:vs=[.ref p.t,.ref p.g]) (_:SQ H Ph p ss) (_:∀(r:Addr) (lv:List Addr) (H':Hp),H r=none->H' r=some (.lst (lv.map V.ref))->lv.length=p.h->(∀i l,lv[i]?=some l->Lv H' p i l)->iu H H' Ph p 0 [] ss ss->Q (.ref r) H')
theorem zm(T:Tx K mg a)(B:Bs mg base a):aV P w K mg base Ui 2 a.adT a.adf ["tables","look"] (Af a.Uv):=by
 refine T.aec.F.Ul fK λa7 A a3 s H vs Q E hr h=>?_;obtain⟨p,R,rfl,x,q⟩:=h;refine(_,(aj (aA 2 fK.nd (cX ak))
  (aj (aA 3 fK.nd ao)
  (aj (bJ PassesOwn.never rfl (KD (aR aP (pv 0) ao)) (aW 4 fK.nd) (aj (bu (gZ PySem.F.plainAttrs_list PySem.F.slot_list_append PySem.F.type_list_append b7 (pv 2) (aa (gf (aa (gf (aa (aR aP (pv 0) ao) (aa (pv 4) ak))) (aa (aF T.YL (kZ T B) hr (aa (pv 1) (aa (pv 3) ak))) ak))) ak)))
  (aq (aA 3 fK.nd (aC bz (aC bh (pv 3) (aK aL rfl T.Ur Tw.aY (aa (pv 4) ak))) ao)))))
  (aq (aD (pv 2)))))),?_)
 refine((by show 0<=sizeLine;decide),λr D=>?_);have W4:r≠p.sn:=(aH x.sn D).symm;have d0:=(x.self).same (az D (.lst []));have x0:=x.did d0 x.few;have k:upd H r (.lst []) r=some (.lst []):=au;generalize upd H r (.lst [])=H0 at *;have a0:p.ls.length=p.h:=by rw[x.ls.1,aaa,p.lv_len]
 have a6:=x.h12;have a4:=x.len;exists _,rfl,p.t,_,_,_,rfl,rfl,Uj.of x0.t,rfl,p.c,rfl,(_,Uj.of x0.c);refine Pq (xs:=p.ls.map V.ref) (λi Y u=>(∃k4,Y=[some (.ref p.t),some (.ref p.g),some (.ref r),some (.int ((i*many p.ns.length:Nat):Int)),k4])/\iu H u a.Uv p 0 [] R R /\ ∃m:List Addr,u r=some (.lst (m.map V.ref))/\m.length=i /\ ∀j l,m[j]?=some l->Lv u p j l) ((none,?_),d0,[],k,rfl,λj l e=>by cases e) ?_ ?_ ?_
 ·rw[aib];rfl
 ·rintro i Y u _ ⟨_,d,_⟩;exact Uj.of ((x.did d x.few).c)
 ·rintro i y Y u hy ⟨⟨k4,rfl⟩,d,m,k,WF,v⟩;rw[aah]at hy;obtain⟨C,VG,rfl⟩:=abF.mp hy;have a5:=(aab.mp VG).1;obtain⟨O,W⟩:∃O,p.lv[i]?=some O:=(_,aac (by rw[p.lv_len];lia));have x1:=x.did d x.few;have G:=x1.ls.2 i C (UV O (many p.ns.length)) VG (by rw[aah,W];rfl);refine(_,rfl,.inl (rfl,_,My.of k),_,rfl,p.t,_,_,_,rfl,rfl,Uj.of x1.t,rfl,_,rfl,(by show 2<=sizeLine;decide),λn Y6=>?_);have S:=az Y6 (.tup [.int (p.ns.length:Int),.ref C]);have I:=x1.same S;have U:upd u n (.tup [.int (p.ns.length:Int),.ref C]) n=some (.tup [.int (p.ns.length:Int),.ref C]):=au
  replace k:=S _ _ k
  replace G:=S _ _ G
  replace d:=d.same S
  replace v:∀j l,m[j]?=some l->Lv (upd u n (.tup [.int (p.ns.length:Int),.ref C])) p j l:=λj l e=>(v j l e).kept (Kp.of S)
  generalize upd u n (.tup [.int (p.ns.length:Int),.ref C])=H1 at *;have cg:=I.clo;refine(_,rfl,_,rfl,p.g,i*many p.ns.length,rfl,I.tab,λf cs J hf a1 Z X la=>?_);have Za:Kp H1 J:=λb o e n1 n2=>Z _ _ e (TabAt.ne I.tab e n1);have d2:iu H1 J a.Uv p 0 [] R R:=(λb o e n1 n2=>Z _ _ e n1,Z _ _ I.sn (TabAt.ne I.tab I.sn nofun),X,Vt.none _ R);have lk:gY J (f,some p.sn,p.bl,p.off+i*many p.ns.length,p.all):=.inr (.inr (p.g,i*many p.ns.length,cs,Nat.le_add_left _ _,la,by rw[ahD];exact Vp.keeps.hid cg a1 λb o e=>Za _ _ e nofun nofun))
  replace k:=Z _ _ k (TabAt.ne I.tab k nofun)
  replace G:=Za _ _ G nofun nofun
  replace U:=Za _ _ U nofun nofun
  replace d:=d.trans d2
  replace v:∀j l,m[j]?=some l->Lv J p j l:=λj l e=>(v j l e).kept Za
  refine((by show 2<=sizeLine;decide),λl hl=>(r,_,_,rfl,rfl,az hl _ _ _ k,?_,?_))
  ·rw[aaa,WF,sizeLine_eq];lia
  have M:=az hl (.tup [.ref n,.ref f]);have xl:upd J l (.tup [.ref n,.ref f]) l=some (.tup [.ref n,.ref f]):=au
  replace k:=M _ _ k
  replace G:=M _ _ G
  replace U:=M _ _ U
  replace lk:=lk.same M
  replace d:=d.same M
  replace v:∀j N,m[j]?=some N->Lv (upd J l (.tup [.ref n,.ref f])) p j N:=λj N e=>(v j N e).kept (Kp.of M)
  generalize upd J l (.tup [.ref n,.ref f])=H3 at *;have L:Kp H3 (upd H3 r (.lst (m.map V.ref++[.ref l]))):=λb o e _ n2=>by
   rw[aJ λz=>by rw[z,k]at e;cases e;exact n2 _ rfl];exact e
  have a2:((UV O (many p.ns.length)).map V.int).length=many p.ns.length+1:=by rw[aaa,cZ]
  refine(_,rfl,_,rfl,C,_,rfl,.inr (Uj.of (L _ _ G nofun nofun)),_,_,rfl,rfl,_,_,rfl,rfl,(some (.ref C),?_),d.set D k W4,m++[l],?_,?_,λj N e=>?_)
  ·have e:((i*many p.ns.length:Nat):Int)+(((UV O (many p.ns.length)).map V.int).length:Int) - 1=(((i+1)*many p.ns.length:Nat):Int):=by
    rw[a2,ahf];lia
   rw[<-e];rfl
  ·rw[au,aal];rfl
  ·rw[aaf,WF];rfl
  ·rcases aaq j m.length with c|c
   ·rw[aax c]at e;exact(v j N e).kept L
   ·rw[aar c]at e;have:j - m.length=0:=by
     have:=(aab.mp e).1;simp at this;lia
    rw[this]at e;cases e;have hj:j=i:=by lia
    subst hj;exact Lv.kept (n,C,f,O,W,xl,U,G,lk) L
 ·rintro Y u ⟨⟨k4,rfl⟩,d,m,k,WF,v⟩;exact(_,rfl,q r m u D k (by rw[WF,aaa];exact a0) v d)
def cnt(os:List Int)(k:Nat)(c:Int)(j:Nat):Nat:=((os.take j).filter λz=>bit z k=c).length
def pos(os:List Int)(k:Nat)(c:Int)(j:Nat):Nat:=(if c=0 then 0 else (os.filter λz=>bit z k=0).length)+cnt os k c j
def blw(bs:List Int)(j:Nat)(c:Int):Int:=if c=0 then (j:Int) - (bs.take j).sum else (bs.length:Int) - bs.sum+(bs.take j).sum
theorem zj(z:Int)(k:Nat):bit z k=0\/bit z k=1:=by
 unfold bit;lia
theorem CZ(os:List Int)(k:Nat):((os.map λz=>bit z k).sum=((os.filter λz=>bit z k=1).length:Int))/\(os.filter λz=>bit z k=0).length+(os.filter λz=>bit z k=1).length=os.length:=by
 induction os with
 | nil=>exact(rfl,rfl)
 | cons z os b =>
  rw[aay,aho,b.1];rcases zj z k with e|e
  ·simp only[agr,e,decide_true,if_true,aaE,show decide ((0:Int)=1)=false from rfl,ad5,if_false];lia
  ·simp only[agr,e,decide_true,if_true,aaE,show decide ((1:Int)=0)=false from rfl,ad5,if_false];lia
theorem Ox{os:List Int}{k j:Nat}{c:Int}(d:j<=os.length)(e:c=0\/c=1):blw (os.map λz=>bit z k) j c=((pos os k c j:Nat):Int):=by
 have b:=CZ (os.take j) k;have f:=CZ os k;rw[aaD,afM d]at b;unfold blw pos cnt;rw[<-ahX,b.1,f.1,aaa];rcases e with rfl|rfl
 ·rw[if_pos rfl,if_pos rfl];lia
 ·rw[if_neg (by decide),if_neg (by decide)];lia
theorem Bb{f:Int->Bool}:∀{os:List Int}{j:Nat}{z:Int},os[j]?=some z->f z=true->(os.filter f)[((os.take j).filter f).length]?=some z
 | [],j,z,h,_=>by cases h
 | y::os,0,z,h,b=>by
  cases h;rw[agO b];rfl
 | y::os,j+1,z,h,b=>by
  have c:=Bb (os:=os) (j:=j) h b;rw[ahy];by_cases e:f y=true
  ·rw[agO e,agO e];exact c
  ·rw[ahH e,ahH e];exact c
theorem Q4{os:List Int}{k j:Nat}(h:os[j]?=some m):(Vs os k)[pos os k (bit m k) j]?=some m:=by
 unfold Vs pos cnt;rcases zj m k with e|e
 ·rw[e,if_pos rfl,agB];have:=Bb (f:=λm=>decide (bit m k=0)) h (decide_eq_true e);rw[aax (aab.mp this).1];exact this
 ·rw[e,if_neg (by decide),aar (by lia),agg];exact Bb (f:=λm=>decide (bit m k=1)) h (decide_eq_true e)
inductive xK(vs:List V)(H:Hp)(Q:VK)(E:XK):Prop
 | mk (t:Addr) (L:LK) (ah:Addr) (ns ss:List Int) (rest:List V) (at0:Nat) (_:vs=[.ref t,.ref L.f,.int (at0:Int)]) (_:Ask H t L ah ns ss rest) (_:ss.length<16000000) (_:at0<=ns.length) (_:∀ss' H',Vt L.all.length 1 [((L.off+at0 / 32:Nat):Int)] ss ss'->aQ (L.put H ss') H'->Q (.int ((at0:Int) - (ns.take at0).sum)) H')
theorem yf(T:Tx K mg a):aV P w K mg base Ui 5 a.ac5 a.ack ["tables","look","at"] xK:=by
 refine T.adw.F.Ul xW λo A f s H p Q E k h=>?_;obtain⟨t,L,m,j,g,rest,e,rfl,l,d,b,q⟩:=h;exists _,(aq (aD (aC bz (pv 2) (aF T.W2 (fU T) k (aa (pv 0) (aa (pv 1) (aa (pv 2) ak)))))));exact(_,rfl,_,rfl,_,rfl,_,rfl,t,L,m,j,g,rest,e,rfl,l,d,b,λc n w i=>(_,_,rfl,rfl,q c n w i))
inductive uC(vs:List V)(H:Hp)(Q:VK)(E:XK):Prop
 | mk (t ah:Addr) (ns:List Int) (_:vs=[.ref t]) (_:Tab H t ah ns []) (_:Q (.int ((ns.length:Int) - ns.sum)) H)
theorem um(T:Tx K mg a):aV P w K mg base Ui 1 a.abY a.abj ["row"] uC:=by
 refine T.ab7.F.Ul uh λg A e s H i Q E j h=>?_;obtain⟨t,f,b,rfl,c,q⟩:=h;exists _,(aq (aD (aC bz (aR aP (pv 0) ao) (aR aP (aR aP (pv 0) ao) (j5 fX ao)))));have d:UT ((UV b (many b.length)).map V.int) (-1)=some (.int b.sum):=by
  unfold UV;rw[agw,aal,aal];refine(mV _ _).trans ?_;show some (V.int (b.take (32*many b.length)).sum)=_;rw[aai (by unfold many;lia)]
 exact(_,rfl,t,_,_,_,rfl,rfl,Uj.of c.tup,rfl,_,rfl,t,_,_,_,rfl,rfl,Uj.of c.tup,rfl,_,rfl,f,_,_,_,rfl,rfl,Uj.of c.Vr,d,_,_,rfl,rfl,q)
inductive wU(Ph:Addr)(vs:List V)(H:Hp)(Q:VK)(E:XK):Prop
 | mk (p:SG) (ss:List Int) (i:Nat) (l:Addr) (bs:List Int) (at0:Nat) (c:Int) (_:vs=[.ref l,.int (at0:Int),.int c]) (_:SQ H Ph p ss) (_:Lv H p i l) (_:p.lv[i]?=some bs) (_:at0<=p.ns.length) (_:(c=0\/c=1)) (_:∀ss' H',iu H H' Ph p 1 [((i*many p.ns.length+at0 / 32:Nat):Int)] ss ss'->Q (.int (blw bs at0 c)) H')
theorem vQ(T:Tx K mg a):aV P w K mg base Ui 6 a.acx a.abX ["level","at","bit"] (wU a.Uv):=by
 refine T.acQ.F.Ul iQ λG A u s H J Q E k h=>?_;obtain⟨p,y,i,l,n,g,c,rfl,x,C,e,D,B,q⟩:=h;refine(_,(aj (aA 3 iQ.nd (aR aP (pv 0) ao))
  (aj (aA 4 iQ.nd (aR aP (pv 0) ao))
  (aj (aX (aG dN (pv 2) ao) (aq (aD (aF T.adw (yf T) k (aa (pv 3) (aa (pv 4) (aa (pv 1) ak)))))) aM)
  (aq (aD (aC bh (aF T.ab7 (um T) k (aa (pv 3) ak)) (aF T.W2 (fU T) k (aa (pv 3) (aa (pv 4) (aa (pv 1) ak)))))))))),?_)
 obtain⟨r,o,f,I,b,v,m⟩:=C.ask x;rw[e]at b;cases b;have L:=(p.lv_mem (aag e)).2;have z:=x.few;exists _,rfl,l,_,_,_,rfl,rfl,Uj.of v,rfl,_,rfl,l,_,_,_,rfl,rfl,Uj.of v,rfl;rcases B with rfl|rfl
 ·refine(_,rfl,rfl,_,rfl,il ?_);exact(_,rfl,_,rfl,_,rfl,r,_,o,n,y,[],g,rfl,m,by lia,by lia,λd t w j=>q d t (x.look rfl rfl w j))
 ·refine(_,rfl,rfl,_,rfl,dI ?_);refine(_,rfl,r,o,n,rfl,m.tab,_,rfl,_,rfl,_,rfl,r,_,o,n,y,[],g,rfl,m,by lia,by lia,λd t w j=>(_,_,rfl,rfl,q d t (x.look rfl rfl w j)))
def ord(h:Nat)(os:List Int):Nat->List Int
 | 0=>os
 | i+1=>Vs (ord h os i) (h - 1 - i)
theorem ord_len(h:Nat)(os:List Int):∀i,(ord h os i).length=os.length
 | 0=>rfl
 | i+1=>(uM _ _).trans (ord_len h os i)
theorem Dm(k:Nat)(os:List Int):∀i,ord (k+1) os (i+1)=ord k (Vs os k) i
 | 0=>rfl
 | i+1=>by
  show Vs (ord (k+1) os (i+1)) (k+1 - 1 - (i+1))=Vs (ord k (Vs os k) i) (k - 1 - i);rw[Dm k os i,show k+1 - 1 - (i+1)=k - 1 - i by lia]
theorem KZ:∀(h:Nat) (os:List Int) (i:Nat),i<h->(Uy h os)[i]?=some ((ord h os i).map λz=>bit z (h - 1 - i))
 | 0,_,_,b=>by lia
 | k+1,os,0,_=>rfl
 | k+1,os,i+1,b=>by
  rw[Dm];show (Uy k (Vs os k))[i]?=_;rw[KZ k (Vs os k) i (by lia),show k+1 - 1 - (i+1)=k - 1 - i by lia]
theorem J0(r:Int)(k:Nat):2*(r / 2^(k+1))+bit r k=r / 2^k:=by
 unfold bit;have e:r / 2^(k+1)=r / 2^k / 2:=by
  rw[aiV,ail (Int.pow_nonneg (by decide))]
 rw[e];lia
theorem SG.lv_at(p:SG){i:Nat}(b:i<p.h):p.lv[i]?=some ((ord p.h (rks p.ms p.ns) i).map λz=>bit z (p.h - 1 - i)):=KZ _ _ _ b
theorem SG.ord_len(p:SG)(i:Nat):(ord p.h (rks p.ms p.ns) i).length=p.ns.length:=by
 rw[Tw.ord_len];unfold rks;exact aaa ..
theorem HR(j:Nat):((2^j:Nat):Int)=(2:Int)^j:=by
 rw[Int.natCast_pow];rfl
theorem SQ.rank{p:SG}(x:SQ H f p d){j:Nat}(h:p.ns[j]?=some m):(rks p.ms p.ns)[j]?=some (p.ms.idxOf m:Int)/\(p.ms.idxOf m:Int) / 2^p.h=0/\p.ms[p.ms.idxOf m]?=some m:=by
 have c:m∈p.ms:=(x.kd.mem m).mpr (aag h);have b:=ah5 c;obtain⟨_,_,g,_⟩:=x.sz;have i:p.ms.length<=2^p.h:=by
  obtain⟨k,e,g,_⟩:=x.sz;lia
 exists ?_,?_
 ·unfold rks;rw[aah,h];rfl
 ·refine Int.ediv_eq_zero_of_lt (by lia) ?_;rw[<-HR];lia
 ·rw[aac b];exact congrArg some (aiM b)
inductive Ew(Ph:Addr)(vs:List V)(H:Hp)(Q:VK)(E:XK):Prop
 | mk (p:SG) (ss:List Int) (at0:Int) (_:vs=[.ref p.t,.ref p.g,.int at0]) (_:SQ H Ph p ss) (_:ss.length<=15800000) (j:Nat) (z:Int) (_:at0=(j:Int)) (_:p.ns[j]?=some z) (_:∀ss' U H',iu H H' Ph p (2*p.h) U ss ss'->Q (.int z) H')
theorem Ff(T:Tx K mg a)(B:Bs mg base a):aV P w K mg base Ui 7 a.afd a.aeA ["tables","look","at"] (Ew a.Uv):=by
 refine T.afl.F.Ul eG λa8 A a3 s H vs Q E O h=>?_;obtain⟨p,S,b0,rfl,x,a4,j,z,rfl,hz,q⟩:=h;refine(_,(aj (bu (aF T.Xh (dw T) O (aa (pv 2) (aa (aC bz (aR aP (pv 0) ao) ao) ak))))
  (aj (aA 3 eG.nd ao)
  (aj (aA 4 eG.nd (pv 2))
  (aj (bJ PassesOwn.never rfl (bK (aF T.aec (zm T B) O (aa (pv 0) (aa (pv 1) ak)))) (aW 5 eG.nd) (aj (aA 6 eG.nd (aF T.Xi (jX T) O (aa (aR aP (pv 5) ao) (aa (aR aP (pv 5) ao) (aa (pv 4) ak)))))
  (aj (aA 3 eG.nd (aC bh (aC cI ao (pv 3)) (pv 6)))
  (aq (aA 4 eG.nd (aF T.acQ (vQ T) O (aa (pv 5) (aa (pv 4) (aa (pv 6) ak)))))))))
  (aq (aD (aR aP (aR aP (pv 0) ao) (pv 3)))))))),?_)
 have a6:=(aab.mp hz).1;refine(_,rfl,_,rfl,p.t,_,_,_,rfl,rfl,Uj.of x.t,rfl,_,_,rfl,rfl,_,_,rfl,by lia,by lia,?_);refine(_,rfl,_,rfl,_,rfl,p,S,rfl,x,λr lv H1 G xr Y hL d1=>?_);have N:=x.did d1 x.few;have a7:=x.h12;obtain⟨r1,r2,r3⟩:=x.rank hz;generalize a0:(p.ms.idxOf z:Int)=C at *;have W4:r≠p.sn:=(aH x.sn G).symm;have Z:r≠a.Uv:=λe=>by
  obtain⟨o,ho⟩:=TabAt.ex x.tab;rw[<-e,G]at ho;cases ho
 exists r,rfl,(_,My.of xr);refine cu (xs:=lv.map V.ref) (λi M D=>∃(m:Nat) (X W:Option V) (b U:List Int),M=[some (.ref p.t),some (.ref p.g),some (.int (j:Int)),some (.int (C / 2^(p.h - i))),some (.int (m:Int)),X,W]/\(ord p.h (rks p.ms p.ns) i)[m]?=some C/\iu H1 D a.Uv p (2*i) U S b/\U.length<=i) ?_ ?_ ?_ ?_
 ·refine(j,none,none,S,[],?_,r1,N.self,aad _);rw[ag7,r2];rfl
 ·rintro i M D _ ⟨_,_,_,_,_,_,_,d,_⟩;exact My.of (d.kp _ _ xr Z W4)
 ·rintro i y M D c ⟨m,X,W,b,U,rfl,n,d,hU⟩;rw[aah]at c;obtain⟨l,hl,rfl⟩:=abF.mp c;have I:=(aab.mp hl).1;rw[Y]at I;have a2:=d.wr.len;have v:=N.did d (by lia);have L2:=(hL i l hl).kept (N.kp d);have J:=p.lv_at I;obtain⟨UL,ah,f,a9,u,xl,hA⟩:=L2.ask v;rw[J]at u;cases u;have L:=(aab.mp n).1;rw[p.ord_len]at L;refine(_,rfl,l,_,_,_,rfl,rfl,Uj.of xl,rfl,_,rfl,l,_,_,_,rfl,rfl,Uj.of xl,rfl,_,rfl,UL,_,ah,_,b,[],m,bit C (p.h - 1 - i),rfl,hA,by lia,?_,λUG H2 w sm=>?_)
  ·rw[aah,n];rfl
  have R:=v.look (U:=[((i*many p.ns.length+m / 32:Nat):Int)]) rfl rfl w sm;have a5:=R.wr.len;have x3:=v.did R (by lia);have L3:=L2.kept (v.kp R);exists _,rfl,_,_,rfl,rfl,.inl (by decide,by decide),_,rfl,_,_,rfl,rfl;refine(_,rfl,_,rfl,_,rfl,p,UG,i,l,_,m,bit C (p.h - 1 - i),rfl,x3,L3,J,by lia,zj _ _,λVc H3 d3=>?_);have hk:p.h - i=(p.h - 1 - i)+1:=by lia
  have a1:m<=(ord p.h (rks p.ms p.ns) i).length:=by rw[p.ord_len];lia
  rw[Ox a1 (zj _ _)];exists _,some (.ref l),some (.int (bit C (p.h - 1 - i))),Vc,U++[((i*many p.ns.length+m / 32:Nat):Int)],?_,Q4 n,((d.trans R).trans d3).le (by lia) ?_
  ·have e:=J0 C (p.h - 1 - i);rw[<-hk]at e;rw[show p.h - (i+1)=p.h - 1 - i by lia,<-e];rfl
  ·intro y c;rcases abd.mp c with c|c
   ·exact c
   ·exact aaw _ c
  ·rw[aaf,agv];lia
 ·rintro M D ⟨m,X,W,b,U,rfl,n,d,hU⟩;have e:p.h - (lv.map V.ref).length=0:=by rw[aaa,Y,ahn]
  rw[aaa,Y]at hU d;have a2:=d.wr.len;have v:=N.did d (by lia);rw[e,Int.pow_zero,aiW];subst a0;exists _,rfl,p.t,_,_,_,rfl,rfl,Uj.of v.t,rfl,_,rfl,p.k,_,_,_,rfl,rfl,Uj.of v.k,pN r3;exact q b U D ((d1.trans d).le (by lia) λy c=>c)
structure SR where
 t:Addr
 t1:Addr
 t2:Addr
 t3:Addr
 ah:Addr
 nd:Addr
 k2:Addr
 c2:Addr
 Wn:Addr
 f:Addr
 sn:Addr
 bl:Addr
 lows:List Int
 S:Nat
 xs:List V
 ms:List Int
 h:Nat
 ls:List Addr
 ws:List Str
 ts:List Str
abbrev SR.ds(p:SR):List Int:=p.ts.map λt=>(t.length:Int)
abbrev SR.ns(p:SR):List Int:=(p.ts.drop 1).map fJ
abbrev SR.es(p:SR):List Int:=p.ts.map (nD p.ws)
abbrev SR.L(p:SR):List (List Nat):=p.ts.map λt=>t.cps.toList
def SR.al(p:SR):List V:=(bB (brk p.ds 0)++((Uy p.h (rks p.ms p.ns)).map bB).flatten++bB p.es).map V.int
def SR.bp(p:SR):BP:=(p.t1,(p.f,some p.sn,p.bl,0,p.al),p.ah,p.nd,brk p.ds 0,p.lows,p.S,p.xs)
def SR.sg(p:SR)(g:Addr):SG:=(p.t2,p.k2,p.c2,p.bl,p.sn,g,p.ls,p.ns,p.ms,p.h,many (brk p.ds 0).length,p.al)
structure SA(H:Hp)(Ph Pt:Addr)(p:SR)(ss:List Int):Prop where
 t:H p.t=some (.tup [.ref p.t1,.ref p.t2,.ref p.t3])
 nd:Nd H Ph p.bp ss p.ds
 t2:H p.t2=some (.tup [.int (p.ns.length:Int),.ref p.k2,.ref p.c2])
 k:H p.k2=some (.tup (p.ms.map V.int))
 c:H p.c2=some (.tup (p.ls.map V.ref))
 ls:uB H p.ls ((Uy p.h (rks p.ms p.ns)).map λbs=>UV bs (many p.ns.length))
 kd:Kinds p.ns p.ms
 sz:ik p.ms.length (2^p.h)
 h12:p.h<=12
 t3:Tab H p.t3 p.Wn p.es []
 clo:Vk H (p.f,some p.sn,p.bl,0,p.al)
 tab:TabAt H Pt (bU bw) aN.qual
 begs:oF p.ws p.ts
 low:∀w∈p.ws,U7 w
 len:p.ts.length<=2001
 few:ss.length<=15000000
 ne:Pt≠Ph
 nod:p.ws.Nodup
structure cW(H H':Hp)(Ph Pt:Addr)(p:SR)(k:Nat)(ss ss':List Int):Prop where
 kp:∀b o,H b=some o->b≠Ph->b≠Pt->b≠p.sn->H' b=some o
 seen:H' p.sn=some (.lst (ss'.map V.int))
 tab:TabAt H' Ph (bU bT) aZ.qual
 tabT:TabAt H' Pt (bU bw) aN.qual
 wr:bO p.al.length k ss ss'
theorem cW.trans{H n m:Hp}{f d:Addr}{p:SR}{j k:Nat}{a b c:List Int}(h:cW H n f d p j a b)(h':cW n m f d p k b c):cW H m f d p (j+k) a c:=
 (λx o e l i g=>h'.kp x o (h.kp x o e l i g) l i g,h'.seen,h'.tab,h'.tabT,h.wr.trans h'.wr)
theorem cW.le{H e:Hp}{d c:Addr}{p:SR}{j k:Nat}{a b:List Int}(h:cW H e d c p j a b)(f:j<=k):cW H e d c p k a b:=(h.kp,h.seen,h.tab,h.tabT,h.wr.le f)
theorem cW.same{H g f:Hp}{d c:Addr}{p:SR}{j:Nat}{a b:List Int}(h:cW H g d c p j a b)(s:aQ g f):cW H f d c p j a b:=
 (λx o e l k i=>s _ _ (h.kp x o e l k i),s _ _ h.seen,TabAt.same h.tab s,TabAt.same h.tabT s,h.wr)
theorem cW.set{X:Hp}{r:Addr}{p:SR}{k:Nat}{h:List V}(c:cW H X f C p k d M)(q:H r=none)(g:X r=some (.lst l))(i:r≠p.sn):cW H (L2.upd X r (.lst h)) f C p k d M:=
 (λb o e n m j=>by rw[aJ (aH e q)];exact c.kp b o e n m j,by rw[aJ i.symm];exact c.seen,TabAt.upd c.tab g,TabAt.upd c.tabT g,c.wr)
theorem KC{c :Nat}:(V.str ⟨#[c]⟩=V.str ⟨#[n]⟩) ↔ c=n:=by
 constructor
 ·intro h;injection h with h
  injection h with h
  injection h with h
  injection h
 ·rintro rfl;rfl
theorem SA.sn{p:SR}(x:SA H f C p d):H p.sn=some (.lst (d.map V.int))/\p.sn≠p.bl:=x.nd.b.ask.asks.seen _ rfl
theorem SA.self{p:SR}(x:SA H f C p d):cW H H f C p 0 d d:=(λ_ _ e _ _ _=>e,x.sn.1,x.nd.b.tab,x.tab,bO.none d)
theorem SA.kp{H H':Hp}{i h:Addr}{p:SR}{k:Nat}{f c:List Int}(x:SA H i h p f)(d:cW H H' i h p k f c):Kp H H':=λb o e g j=>d.kp b o e (TabAt.ne x.nd.b.tab e g) (TabAt.ne x.tab e g) λz=>by
 rw[z,x.sn.1]at e;cases e;exact j _ rfl
theorem SA.did{H':Hp}{p:SR}{k:Nat}(x:SA H f C p d)(g:cW H H' f C p k d M)(i:M.length<=15000000):SA H' f C p M:=by
 have h:=x.kp g;have B:=x.nd.b;have j:=g.kp _ _ B.ask.asks.nodes (TabAt.ne B.tab B.ask.asks.nodes nofun) (TabAt.ne x.tab B.ask.asks.nodes nofun) x.sn.2.symm;refine(h _ _ x.t nofun nofun,((((h _ _ B.ask.tab.tup nofun nofun,h _ _ B.ask.tab.Vr nofun nofun,B.ask.tab.few),(B.ask.asks.look.kept h,λm e=>?_,j,by lia),B.ask.bits,B.ask.len,B.ask.blk),h _ _ B.Wl nofun nofun,B.low,B.sz,B.heap,g.tab),by lia,x.nd.eq,x.nd.good),h _ _ x.t2 nofun nofun,h _ _ x.k nofun nofun,h _ _ x.c nofun nofun,x.ls.to λb l e=>h _ _ e nofun nofun,x.kd,x.sz,x.h12,(h _ _ x.t3.tup nofun nofun,h _ _ x.t3.Vr nofun nofun,x.t3.few),Vk.keeps _ _ _ x.clo λb o e=>h _ _ e nofun nofun,g.tabT,x.begs,x.low,x.len,i,x.ne,x.nod);cases e;exact(g.seen,x.sn.2)
theorem SA.same{H H':Hp}{d c:Addr}{p:SR}{b:List Int}(x:SA H d c p b)(s:aQ H H'):SA H' d c p b:=x.did (x.self.same s) x.few
theorem TabAt.keep{H':Hp}{P :Addr}{pos :Pos}{q :Str}(h:TabAt H P pos q)(h':TabAt H f p x)(n:P≠f)(s:∀b o,H b=some o->b≠f->(∀ps,o ≠ .lst ps)->H' b=some o):TabAt H' P pos q:=by
 obtain⟨ps,l,k,c⟩:=h;exists ps,s _ _ l n nofun,k;rcases c with c|⟨m,g,e,t,j,d,i⟩
 ·exact .inl c
 ·exact .inr (m,g,e,t,j,s _ _ d (TabAt.ne h' d nofun) nofun,i)
theorem SA.tree{H':Hp}{p:SR}{k:Nat}(x:SA H f C p d)(c:Did H H' f p.bp.L k d M):cW H H' f C p k d M:=by
 have h:∀b,b≠p.sn->p.bp.L.wr≠some b:=λb n z=>n (aao z).symm;refine(λb o e g _ i=>c.kp b o e g (h b i),c.seen _ rfl,c.tab,TabAt.keep x.tab x.nd.b.tab x.ne λb o e g j=>c.kp b o e g (h b λz=>?_),c.wr);rw[z,x.sn.1]at e;cases e;exact j _ rfl
theorem SA.signs{H':Hp}{g:Addr}{p:SR}{k:Nat}{U :List Int}(x:SA H f C p d)(c:iu H H' C (p.sg g) k U d M):cW H H' f C p k d M:=by
 refine(λb o e _ h i=>c.kp b o e h i,c.seen,TabAt.keep x.nd.b.tab x.tab x.ne.symm λb o e j h=>c.kp b o e j λz=>?_,c.tab,c.wr);rw[show b=p.sn from z,x.sn.1]at e;cases e;exact h _ rfl
theorem SA.made{H':Hp}{p:SR}(x:SA H f C p d)(s:nu C H H')(t:TabAt H' C (bU bw) aN.qual):cW H H' f C p 0 d d:=
 (λb o e _ c _=>s b o e c,s _ _ x.sn.1 (TabAt.ne x.tab x.sn.1 nofun),TabAt.keep x.nd.b.tab x.tab x.ne.symm λb o e g _=>s b o e g,t,bO.none d)
theorem SR.off_len(p:SR):(bB (brk p.ds 0)).length=many (brk p.ds 0).length:=bC _
theorem SA.sq{f:Addr}{p:SR}{cs:List Addr}(x:SA H C S p d)(l:∀c∈cs,H c=none)(s:nu S H H')(t:TabAt H' S (bU bw) aN.qual)(m:dM H' f aN cs [.ref p.f,.int ((many (brk p.ds 0).length:Nat):Int)]):SQ H' S (p.sg f) d:=by
 have g:=x.made s t;have y:=x.did g x.few;have q:=x.few;have n:=x.len;refine(y.t2,y.k,y.c,y.ls,y.nd.b.ask.asks.nodes,λj z i=>?_,x.kd,x.sz,x.h12,?_,y.sn.1,y.sn.2,by lia,(p.f,_,cs,aad _,m,?_),t)
 ·have i:(((Uy p.h (rks p.ms p.ns)).map bB).flatten)[j]?=some z:=i;show p.al[many (brk p.ds 0).length+j]?=some (.int z);unfold SR.al;rw[aah,aa5,aar (by rw[p.off_len];lia),p.off_len,agg,aax (aab.mp i).1];exact congrArg (ajj V.int) i
 ·show p.ns.length<=4000;rw[aaa,ab9];lia
 ·rw[ahn];exact Vk.keeps.hid x.clo l λb o e=>x.kp g _ _ e nofun nofun
inductive p8(vs:List V)(H:Hp)(Q:VK)(_e1:XK):Prop
 | mk (t t1 ah:Addr) (x y:V) (ns:List Int) (rest:List V) (_:vs=[.ref t]) (_:H t=some (.tup [.ref t1,x,y])) (_:Tab H t1 ah ns rest) (_:Q (.int (many ns.length:Nat)) H)
theorem jo(T:Tx K mg a):aV P w K mg base Ui 1 a.aa2 a.aaK ["tables"] p8:=by
 refine T.Z8.F.Ul pO λi A d s H j Q E k h=>?_;obtain⟨t,f,g,x,y,b,rest,rfl,ht,c,q⟩:=h;exists _,(aq (aD (aC bz (aK aL rfl T.Ur Tw.aY (aa (aR aP (aR aP (pv 0) ao) ao) ak)) ao)));exists _,rfl,t,_,_,_,rfl,rfl,Uj.of ht,rfl,f,_,_,_,rfl,rfl,Uj.of c.tup,pF _ _ _ c.few,g,_,rfl,.inr (Uj.of c.Vr),_,_,rfl,rfl;have e:(((UV b (many b.length)).map V.int).length:Int) - 1=((many b.length:Nat):Int):=by
  rw[aaa,cZ];lia
 rw[<-e]at q;exact q
theorem uV:∀k,k<26->letters.cps.toList[k]?=some (97+k):=by decide +kernel
theorem Nb{t:Str}{u:List Nat}{c:Nat}(h:t.cps.toList=u++[c]):fJ t=(c:Int) - 97:=by
 unfold fJ;rw[h,ahV]
theorem SA.at{H:Hp}{f e:Addr}{p:SR}{c:List Int}(x:SA H f e p c){i:Nat}{u:List Nat}(h:p.L[i]?=some u):∃t,p.ts[i]?=some t/\t.cps.toList=u/\U7 t:=by
 rw[aah]at h;obtain⟨t,b,d⟩:=abF.mp h;exact(t,b,d,x.begs.low x.low (aag b))
inductive Av(Ph:Addr)(Pt:Addr)(vs:List V)(H:Hp)(Q:VK)(_e1:XK):Prop
 | mk (p:SR) (ss:List Int) (i:Nat) (u:List Nat) (c:Nat) (_:vs=[.ref p.t,.ref p.f,.int (i:Int)]) (_:SA H Ph Pt p ss) (_:p.L[i]?=some (u++[c])) (_:∀ss' H',cW H H' Ph Pt p 24 ss ss'->Q (.str ⟨#[c]⟩) H')
theorem qg(T:Tx K mg a)(B:Bs mg base a):aV P w K mg base Ui 8 a.adX a.adm ["tables","look","node"] (Av a.Ut a.Uv):=by
 refine T.Z9.F.Ul Ax λO A n s H R Q E g h=>?_;obtain⟨p,D,i,u,c,rfl,x,J,q⟩:=h
 exists _,(aq (aD (aR zq (bD (v:=.str "abcdefghijklmnopqrstuvwxyz") rfl T.aeh (_,rfl)) (aF T.afl (Ff T B) g (aa (aR aP (pv 0) ao) (aa (aF T.YL (kZ T B) g (aa (pv 1) (aa (aF T.Z8 (jo T) g (aa (pv 0) ak)) ak))) (aa (aC bz (pv 2) ao) ak)))))))
 have m:=x.few;obtain⟨t,ht,e,I⟩:=x.at J;have r:=x.begs.zero;have S:1<=i:=by
  rcases aea i with z|z
  ·subst z;rw[ht]at r;cases r;simp at e
  ·exact z
 have W:=I.2 c (by rw[e];exact aaw _ (agN _));have l:p.ns[i - 1]?=some ((c:Int) - 97):=by
  rw[aah,agx,show 1+(i - 1)=i by lia,ht];exact congrArg some (Nb e)
 exists _,rfl,p.t,_,_,_,rfl,rfl,Uj.of x.t,rfl,_,rfl,_,rfl,p.t,p.t1,p.ah,_,_,p.bp.ns,_,rfl,x.t,x.nd.b.ask.tab;refine(p.f,many p.bp.ns.length,rfl,x.tab,λf X Y V k o d G=>?_);have y:=x.made o d;have C:=x.did y m;refine(_,rfl,_,_,rfl,rfl,p.sg f,D,_,rfl,x.sq k o d G,by lia,i - 1,_,by lia,l,λj U M L=>?_);have N:=x.h12;exists letters,_,97+(c - 97),rfl,rfl,by decide,?_
 ·rw[show ((c:Int) - 97)=((c - 97:Nat):Int) by lia];exact kh (uV _ (by lia))
 ·rw[show 97+(c - 97)=c by lia];exact q j M ((y.trans (C.signs L)).le (by show 0+2*p.h<=24;lia))
def YF(L:List (List Nat))(t:List Nat)(c:Nat)(v:V):Prop:=(v=.non /\ ∀e,c<=e->t++[e]∉L) \/ ∃i e:Nat,v=.int (i:Int)/\L[i]?=some (t++[e])/\c<=e /\ ∀b,c<=b->b<e->t++[b]∉L
theorem SA.pc{p:SR}(x:SA H f C p d):PC p.L:=by
 refine(aiS.mpr x.begs.up,λt ht k=>?_);obtain⟨u,b,rfl⟩:=aaT.mp ht;exact aaT.mpr (beg u k,x.begs.pre b k,bR u k)
theorem SR.lens(p:SR):p.ds=Tw.lens p.L:=by
 show p.ts.map _=(p.ts.map _).map _;rw[agP];exact ahx λt _=>congrArg Nat.cast (aae).symm
theorem QB.of{L:List (List Nat)}{j:Nat}{v:V}{t:List Nat}(h:PC L)(b:L[j]?=some t)(f:QB (lens L) j v):(v=.non /\ ∀e,t++[e]∉L) \/ ∃i e:Nat,v=.int (i:Int)/\L[i]?=some (t++[e]) /\ ∀c,c<e->t++[c]∉L:=by
 obtain⟨d,hd,f⟩:=f;rw[ig b]at hd;cases hd;obtain⟨k,g⟩:=h.first b;rcases f with ⟨rfl,f⟩|⟨rfl,f⟩
 ·obtain⟨e,m,l⟩:=k f;exact .inr (j+1,e,rfl,m,l)
 ·exact .inl (rfl,g f)
theorem YoV.of{L:List (List Nat)}{i e:Nat}{v:V}{t:List Nat}(h:PC L)(j:L[i]?=some (t++[e]))(f:YoV (lens L) i v):(v=.non /\ ∀c,e<c->t++[c]∉L) \/ ∃g b:Nat,v=.int (g:Int)/\L[g]?=some (t++[b])/\e<b /\ ∀c,e<c->c<b->t++[c]∉L:=by
 obtain⟨d,hd,f⟩:=f;rw[ig j]at hd;have hd:d=((t.length:Int)+1):=by
  have:=aao hd;rw[aaf]at this;exact this.symm
 subst hd;obtain⟨l,k⟩:=h.next j;rcases f with ⟨rfl,f⟩|⟨rfl,f⟩
 ·obtain⟨b,n,m⟩:=l f;exact .inr (_,b,rfl,n,m)
 ·exact .inl (rfl,k f)
theorem Mw{c :Nat}:(([c]:List Nat) < [n]) ↔ c<n:=qi (t:=[])
inductive xq(Ph:Addr)(Pt:Addr)(vs:List V)(H:Hp)(Q:VK)(_e1:XK):Prop
 | mk (p:SR) (ss:List Int) (j:Nat) (t:List Nat) (c:Nat) (_:vs=[.ref p.t,.ref p.f,.int (j:Int),.str ⟨#[c]⟩]) (_:SA H Ph Pt p ss) (_:ss.length<=14000000) (_:p.L[j]?=some t) (_:∀v ss' H',YF p.L t c v->cW H H' Ph Pt p 1000 ss ss'->Q v H')
theorem oJ(T:Tx K mg a)(B:Bs mg base a):aV P w K mg base Ui 11 a.adn a.acE ["tables","look","node","letter"] (xq a.Ut a.Uv):=by
 refine T.abr.F.Ul jF λa4 A U s H vs Q E J h=>?_;obtain⟨p,Y,j,t,c,rfl,x,a1,hj,q⟩:=h;refine(_,(aj (aA 4 jF.nd (tH T.aeN (Cm T) (by decide) J Mi rfl (aa (aR aP (pv 0) ao) (aa (pv 1) (aa (pv 2) ak)))))
  (aj (nG PassesOwn.never (PW.pt (iD (fQ (Al (pv 4))) (ir (aG Ms (aF T.Z9 (qg T B) J (aa (pv 0) (aa (pv 1) (aa (pv 4) ak)))) (pv 3))))) (aq (aA 4 jF.nd (tH T.adC (xO T B) (by decide) J Mi rfl (aa (aR aP (pv 0) ao) (aa (pv 1) (aa (pv 4) ak)))))))
  (aq (aD (pv 4))))),?_)
 have Z:=x.pc;have R:j<p.ds.length:=by
  have:=(aab.mp hj).1;rw[aaa]at this ⊢;exact this
 refine(_,rfl,p.t,_,_,_,rfl,rfl,Uj.of x.t,rfl,_,rfl,_,rfl,p.bp,Y,p.ds,_,rfl,x.nd,.inl (j,rfl,R,λv Us H1 n D=>?_));rw[p.lens]at n;have o:=n.of Z hj;have D:=x.tree D;have I:∀{i e:Nat},p.L[i]?=some (t++[e])->97<=e/\e<=122:=λ{i e} h=>by
  obtain⟨u,_,hu,hw⟩:=x.at h;exact hw.2 e (by rw[hu];exact aaw _ (agN _))
 exists λm W O=>∃(v:V) (k:Nat) (b:List Int),W=[some (.ref p.t),some (.ref p.f),some (.int (j:Int)),some (.str ⟨#[c]⟩),some v]/\cW H O a.Ut a.Uv p k Y b/\k+32*m<=900/\((v=.non /\ ∀e,c<=e->t++[e]∉p.L) \/ ∃i e:Nat,v=.int (i:Int)/\p.L[i]?=some (t++[e])/\m=123 - e /\ ∀l,c<=l->l<e->t++[l]∉p.L),?_
 ·rcases o with ⟨rfl,o⟩|⟨i,e,rfl,g,o⟩
  ·exact(0,_,2,Us,rfl,D,by decide,.inl (rfl,λe _=>o e))
  ·have:=I g;exact(123 - e,_,2,Us,rfl,D,by lia,.inr (i,e,rfl,g,rfl,λl _ h=>o l h))
 ·rintro m W O ⟨v,k,b,rfl,d,hk,h⟩;have wl:=d.wr.len;have X:=x.did d (by lia);rcases h with ⟨rfl,h⟩|⟨i,e,rfl,g,hm,h⟩
  ·refine(_,rfl,_,rfl,dI (dI (_,rfl,q _ b O (.inl (rfl,h)) (d.le (by lia)))))
  ·have a2:=I g;refine(_,rfl,_,rfl,il ?_);refine(_,rfl,_,rfl,_,rfl,p,b,i,t,e,rfl,X,g,λUG H2 M=>?_);have Zb:=M.wr.len;have G:=X.did M (by lia);have WL:=d.trans M;refine(_,rfl,_,_,rfl,rfl,_,rfl,bF (λz=>?_) λz=>?_)
   ·have z:=Mw.mp (of_decide_eq_true z);have S:i<p.ds.length:=by
     have:=(aab.mp g).1;rw[aaa]at this ⊢;exact this
    exists _,λ a0 H2 z=>z;refine(_,rfl,p.t,_,_,_,rfl,rfl,Uj.of G.t,rfl,_,rfl,_,rfl,p.bp,UG,p.ds,_,rfl,G.nd,.inl (i,rfl,S,λv Vc H3 n C=>?_));rw[p.lens]at n;have C:=WL.trans (G.tree C);rcases n.of Z g with ⟨rfl,f⟩|⟨i',l,rfl,r,a3,f⟩
    ·exact(0,by lia,_,_,Vc,rfl,C,by lia,.inl (rfl,λN h1=>f N (by lia)))
    ·have:=I r;refine(123 - l,by lia,_,_,Vc,rfl,C,by lia,.inr (i',l,rfl,r,rfl,λN h1 h2=>?_));exact f N (by lia) h2
   ·have z:¬e<c:=λy=>z (decide_eq_true (Mw.mpr y));exact(_,rfl,q _ UG H2 (.inr (i,e,rfl,g,by lia,h)) (WL.le (by lia)))
structure Rr(L:List (List Nat))(u:List Nat)(is:List Nat):Prop where
 one:1<=is.length
 le:is.length<=u.length+1
 at':∀k i,is[k]?=some i->L[i]?=some (u.take k)
 no:is.length<=u.length->u.take is.length∉L
theorem qD{i j:Nat}(c:q.length=i+1)(b:q[i]?=some j):UT (nats q) (-1)=some (.int (j:Int)):=by
 have e:q=q.take i++[j]:=by
  have:=acI (l:=q) (i:=i);rw[b,aai (by lia)]at this;exact this
 rw[e];show UT ((q.take i++[j]).map _) (-1)=_;rw[aal];exact mV _ _
inductive Ey(Ph:Addr)(Pt:Addr)(vs:List V)(H:Hp)(Q:VK)(_e1:XK):Prop
 | mk (p:SR) (ss:List Int) (u:Str) (_:vs=[.ref p.t,.ref p.f,.str u]) (_:SA H Ph Pt p ss) (_:ss.length<=12000000) (_:u.length<=150) (_:∀(r:Addr) (is:List Nat) (ss':List Int) (H':Hp),H r=none->H' r=some (.lst (nats is))->Rr p.L u.cps.toList is->cW H H' Ph Pt p (1100*is.length) ss ss'->Q (.ref r) H')
theorem vz(T:Tx K mg a)(B:Bs mg base a):aV P w K mg base Ui 12 a.afg a.aeG ["tables","look","text"] (Ey a.Ut a.Uv):=by
 refine T.aed.F.Ul lB λa4 A a0 s H vs Q E hr h=>?_;obtain⟨p,ss,u,rfl,x,a2,Wo,q⟩:=h;refine(_,(aj (aA 3 lB.nd (cX (aa ao ak)))
  (aj (bJ PassesOwn.never rfl (Lh (pv 2)) (aW 4 lB.nd) (aj (aA 5 lB.nd (aF T.abr (oJ T B) hr (aa (pv 0) (aa (pv 1) (aa (aR gr (pv 3) (j5 fX ao)) (aa (pv 4) ak))))))
  (aj (aX (PW.pt (lY (fQ (lM (pv 5))) (kW (aG pQ (aF T.Z9 (qg T B) hr (aa (pv 0) (aa (pv 1) (aa (pv 5) ak)))) (pv 4))))) (aq (aD (pv 3))) aM)
  (aq (bu (gZ PySem.F.plainAttrs_list PySem.F.slot_list_append PySem.F.type_list_append b7 (pv 3) (aa (pv 5) ak)))))))
  (aq (aD (pv 3))))),?_)
 have ul:u.cps.toList.length=u.length:=aae;have z0:p.L[0]?=some []:=by rw[aah,x.begs.zero];rfl
 refine((by show 1<=sizeLine;decide),λr g=>?_);have s0:=az g (.lst [.int 0]);have d0:=x.self.same s0;have xr:upd H r (.lst [.int 0]) r=some (.lst [.int 0]):=au;generalize upd H r (.lst [.int 0])=H0 at *;have W4:r≠p.sn:=(aH x.sn.1 g).symm;have U:r≠a.Ut:=λe=>by
  obtain⟨o,N⟩:=TabAt.ex x.nd.b.tab;rw[<-e,g]at N;cases N
 have S:r≠a.Uv:=λe=>by
  obtain⟨o,N⟩:=TabAt.ex x.tab;rw[<-e,g]at N;cases N
 exists _,rfl,u,rfl;refine HB (λi σ O=>∃(k4 k5:Option V) (l:List Nat) (D:List Int),σ=[some (.ref p.t),some (.ref p.f),some (.str u),some (.ref r),k4,k5]/\O r=some (.lst (nats l))/\l.length=i+1/\(∀k m,l[k]?=some m->p.L[m]?=some (u.cps.toList.take k))/\cW H O a.Ut a.Uv p (1050*i) ss D) ?_ ?_ ?_
 ·refine(none,none,[0],ss,rfl,xr,rfl,λk m e=>?_,d0);cases k with
  | zero=>cases e;exact z0
  | succ k=>cases e
 ·rintro i c σ O hc ⟨k4,k5,l,D,rfl,Y,n,C,d⟩;have wl:=d.wr.len;have Xd:u.cps.toList[i]?=some c:=by rw[acd];exact hc
  have a1:=(aab.mp Xd).1;have x1:=x.did d (by lia);obtain⟨j,hj⟩:∃j,l[i]?=some j:=(_,aac (by lia));have W5:=C i j hj;have I:=qD n hj;have G:u.cps.toList.take (i+1)=u.cps.toList.take i++[c]:=by rw[acI,Xd];rfl
  refine(_,rfl,_,rfl,_,rfl,_,rfl,r,_,_,_,rfl,rfl,My.of Y,I,_,rfl,p,D,j,_,c,rfl,x1,by lia,W5,λv UG H2 M d2=>?_);have Zb:=d2.wr.len;have x2:=x1.did d2 (by lia);have R:=d2.kp _ _ Y U S W4;have WL:=d.trans d2;rcases M with ⟨rfl,M⟩|⟨Z,e,rfl,W,a3,M⟩
  ·refine(_,rfl,_,rfl,il (il (_,rfl,q r l UG H2 g R (by lia,by lia,C,λz=>?_) (WL.le (by lia)))));rw[n,G];exact M c (aad _)
  ·refine(_,rfl,_,rfl,dI ?_);refine(_,rfl,_,rfl,_,rfl,p,UG,Z,_,e,rfl,x2,W,λVc H3 d3=>?_);have Zc:=d3.kp _ _ R U S W4;have X:=WL.trans d3;refine(_,rfl,rfl,_,rfl,bF (λz=>?_) λz=>?_)
   ·have z:e≠c:=λy=>by rw[decide_eq_true (KC.mpr y)]at z;cases z
    refine(_,rfl,q r l Vc H3 g Zc (by lia,by lia,C,λ_=>?_) (X.le (by lia)));rw[n,G];exact M c (aad _) (by lia)
   ·have z:e=c:=Decidable.byContradiction λy=>z (by rw[decide_eq_false λh=>y (KC.mp h)];rfl);subst z;exists _,rfl,.inl (rfl,_,My.of Zc),_,rfl,r,_,_,rfl,rfl,Zc,?_
    ·rw[aaa,n,sizeLine_eq];lia
    exists some (.str ⟨#[e]⟩),some (.int (Z:Int)),l++[Z],Vc,rfl,?_,?_,λk m J=>?_
    ·rw[au];show _=some (HO.lst ((l++[Z]).map _));rw[aal];rfl
    ·rw[aaf,n];rfl
    ·rcases aaq k l.length with y|y
     ·rw[aax y]at J;exact C k m J
     ·rw[aar y]at J;have:k - l.length=0:=by
       have:=(aab.mp J).1;simp at this;lia
      rw[this]at J;cases J;rw[show k=i+1 by lia,G];exact W
    ·exact(X.set g Zc W4).le (by lia)
 ·rintro σ O ⟨k4,k5,l,D,rfl,Y,n,C,d⟩;have e:u.cps.size=u.length:=rfl;refine(_,rfl,q r l D O g Y (by lia,by lia,C,λz=>by lia) (d.le (by lia)))
inductive Fo(Ph:Addr)(Pt:Addr)(vs:List V)(H:Hp)(Q:VK)(_e1:XK):Prop
 | mk (p:SR) (ss:List Int) (u:Str) (_:vs=[.ref p.t,.ref p.f,.str u]) (_:SA H Ph Pt p ss) (_:ss.length<=12000000) (_:u.length<=150) (_:∀v ss' H',((v=.non/\u∉p.ts) \/ ∃i:Nat,v=.int (i:Int)/\p.ts[i]?=some u)->cW H H' Ph Pt p 170000 ss ss'->Q v H')
theorem SR.mem{p:SR}{u:Str}(h:u∈p.ts):u.cps.toList∈p.L:=aaT.mpr (u,h,rfl)
theorem El(T:Tx K mg a)(B:Bs mg base a):aV P w K mg base Ui 13 a.afh a.aeH ["tables","look","text"] (Fo a.Ut a.Uv):=by
 refine T.afn.F.Ul wk λM A i s H N Q E v h=>?_;obtain⟨p,o,u,rfl,x,g,I,q⟩:=h;refine(_,(aj (aA 3 wk.nd (aF T.aed (vz T B) v (aa (pv 0) (aa (pv 1) (aa (pv 2) ak)))))
  (aj (aX (aG jq (aK aL rfl T.Ur Tw.aY (aa (pv 3) ak)) (aK bA rfl T.Ur Tw.aY (aa (pv 2) ak))) (aq (aD eV)) aM)
  (aq (aD (aR gr (pv 3) (j5 fX ao)))))),?_)
 have O:u.cps.toList.length=u.length:=aae;refine(_,rfl,_,rfl,_,rfl,p,o,u,rfl,x,g,I,λr c b n J l f d=>?_);have L:=f.le;have d:=d.le (k:=170000) (by lia);refine(_,rfl,r,_,rfl,.inl (My.of l),_,rfl,u,rfl,by rw[sizeLine_eq];lia,_,_,rfl,rfl,_,rfl,bF (λz=>?_) λz=>?_)
 ·have z:(((nats c).length:Nat):Int)<=(u.length:Int):=of_decide_eq_true z;rw[aaa]at z;refine q .non b n (.inl (rfl,λC=>f.no (by lia) ?_)) d;exact x.pc.pre _ (SR.mem C) _
 ·have z:¬(((nats c).length:Nat):Int)<=(u.length:Int):=λy=>z (decide_eq_true y);rw[aaa]at z;obtain⟨j,m⟩:∃j,c[u.length]?=some j:=(_,aac (by lia));have e:=f.at' _ _ m;rw[aai (by lia)]at e;obtain⟨t,G,D,_⟩:=x.at e;refine(_,rfl,_,rfl,r,_,_,_,rfl,rfl,My.of l,qD (by lia) m,q _ b n (.inr (j,rfl,?_)) d);rw[G,eE D]
theorem Iv{K:PySem.W.Frag}{a:Addr}{xs:List V}{d:L2.St}{tt:TT}(R:V->Prop)(p:H a=some (.tup xs))(s:xs.length<sizeLine)
  (j:∀(x:V) (H':Hp) (Q:Bool->Hp->Prop),Q true H'->tt (some x::d) H' Q)(r:∀(x:V) (H':Hp) (Q:VK),x∈xs->aQ H H'->(∀y,R y->Q y H')->ta (some x::d) H' Q)
  (q:∀D ys,H D=none->ys.length=xs.length->(∀y∈ys,R y)->z D (upd H D (.lst ys))):iR (W8 K a) d tt ta z H:=by
 intro D g;exists λi m ys n=>m=xs.length - i/\i<=xs.length/\ys.length=i/\(∀y∈ys,R y)/\n=upd H D (.lst ys),(_,rfl,aaP _,rfl,nofun,rfl);rintro i m ys n ⟨rfl,t,rfl,l,rfl⟩;have h:Uj K (upd H D (.lst ys)) a xs:=Uj.of (az g _ _ _ p);by_cases c:ys.length<xs.length
 ·have k:=aac c;refine .inr ((_,_,h,k),λv u y=>?_);obtain⟨rfl,y⟩:=y;have e:=y _ h;rw[k]at e;cases e;refine j _ _ _ ?_;rw[if_pos rfl];refine r _ _ _ (acJ c) (az g _) λy o=>(au,by lia,xs.length - (ys.length+1),by lia,rfl,c,by rw[aaf];rfl,λb f=>?_,?_)
  ·rcases abd.mp f with f|f
   ·exact l b f
   ·rw[aas.mp f];exact o
  ·rw[lw]
 ·have e:ys.length=xs.length:=by lia
  exact .inl ((_,h,ahg e.symm),q D ys g e l)
theorem SR.let_len(p:SR):(((Uy p.h (rks p.ms p.ns)).map bB).flatten).length=p.h*many p.ns.length:=by
 rw[sO (n:=p.ns.length) λc b=>by
  rw[(Tw.qm _ _ _ b).2];unfold rks;exact aaa ..,jn]
theorem vU{m:Int}:∀{ys:List V},(∀y∈ys,y=V.int m) -> ∃b:List Int,ys=b.map V.int/\b.sum=ys.length*m
 | [],_=>([],rfl,by simp)
 | y::ys,h=>by
  obtain⟨b,e,d⟩:=vU (ys:=ys) λz c=>h z (aaR _ c);refine(m::b,by rw[e,h y abE];rfl,?_);rw[aho,d,aaE,Int.natCast_succ,Int.add_mul,Int.one_mul,Int.add_comm]
inductive nO(Ph:Addr)(Pt:Addr)(vs:List V)(H:Hp)(Q:VK)(_e1:XK):Prop
 | mk (p:SR) (ss:List Int) (_:vs=[.ref p.t]) (_:SA H Ph Pt p ss) (_:∀H',aQ H H'->Q (.int ((p.h*many p.ns.length:Nat):Int)) H')
theorem mz(T:Tx K mg a):aV P w K mg base Ui 1 a.aav a.aau ["tables"] (nO a.Ut a.Uv):=by
 refine T.aaz.F.Ul mH λJ A n s H L Q E N h=>?_;obtain⟨p,M,rfl,x,q⟩:=h
 exists _,(aq (aD (aK (By rfl) rfl T.af7 Tw.K1 (aa (jy rfl bZ.zero (KD (aR aP (aR aP (pv 0) ao) ao)) (λ_ _ _ _=>fL) (λ_ _ _ _=>(aC bz (aK (show gD _ (.builtin "len") (λr H Q=>∃p f,r=[.ref p]/\(My K H p f\/Uj K H p f)/\Q (.int f.length) H)from aL) rfl T.Ur Tw.aY (aa (pv 0) ak)) ao))) ak))))
 have k:p.ls.length=p.h:=by rw[x.ls.1,aaa,jn]
 have I:=x.h12;exists _,rfl,p.t,_,_,_,rfl,rfl,Uj.of x.t,rfl,p.t2,_,_,_,rfl,rfl,Uj.of x.t2,rfl,p.c2,rfl,(_,Uj.of x.c);refine Iv (λy=>y=.int ((many p.ns.length:Nat):Int)) x.c (by rw[aaa,sizeLine_eq];lia) (λ_ _ _ q=>q) (λy R O B u v=>?_) λl f C j g=>?_
 ·obtain⟨b,D,rfl⟩:=aaT.mp B;obtain⟨i,o⟩:=aaM D;have m:=(aab.mp o).1;have d:=aac (l:=(Uy p.h (rks p.ms p.ns)).map λG=>UV G (many p.ns.length)) (by rw[<-x.ls.1];exact m);rw[ai3]at d;refine(_,rfl,b,_,rfl,.inr (Uj.of (u _ _ (x.ls.2 i b _ o d))),_,_,rfl,rfl,v _ ?_);rw[aaa,cZ];exact congrArg V.int (by lia)
 ·obtain⟨z,rfl,e⟩:=vU g;exists l,z,rfl,My.of au;rw[e,j,aaa,k,<-Int.natCast_mul];exact q _ (az C _)
abbrev SR.off(p:SR):Nat:=many (brk p.ds 0).length+p.h*many p.ns.length
abbrev SR.le(p:SR)(f:Addr):LK:=(f,some p.sn,p.bl,p.off,p.al)
theorem SA.ends{f:Addr}{p:SR}{cs:List Addr}(x:SA H C S p d)(i:∀c∈cs,H c=none)(s:nu S H H')(t:TabAt H' S (bU bw) aN.qual)(j:dM H' f aN cs [.ref p.f,.int (p.off:Int)]):Ask H' p.t3 (p.le f) p.Wn p.es d []:=by
 have g:=x.made s t;have y:=x.did g x.few;have m:=x.few;have l:=x.len;refine(y.t3,(.inr (.inl (p.f,_,cs,aad _,j,?_)),λq e=>?_,y.nd.b.ask.asks.nodes,by lia),yF _ _,by rw[aaa];lia,λn k=>?_)
 ·rw[ahn];exact Vk.keeps.hid x.clo i λb o e=>x.kp g _ _ e nofun nofun
 ·cases e;exact y.sn
 ·show p.al[p.off+n]?=_;unfold SR.al;have e:(bB (brk p.ds 0)++((Uy p.h (rks p.ms p.ns)).map bB).flatten).length=p.off:=by rw[aaf,p.off_len,p.let_len]
  rw[aah,aar (by rw[e];lia),e,agg];exact congrArg (ajj V.int) (jV k)
theorem SA.asked{i:Hp}{f:Addr}{p:SR}(x:SA H C S p d)(s:nu S H H')(t:TabAt H' S (bU bw) aN.qual)(w:bO p.al.length 1 d M)(g:aQ ((p.le f).put H' M) i):cW H i C S p 1 d M:=by
 have c:=x.made s t;have y:=x.did c x.few;rw[LK.put_some (L:=p.le f) rfl]at g;refine(λb o e k j h=>g _ _ (by rw[aJ h];exact c.kp b o e k j h),g _ _ au,TabAt.same (TabAt.upd c.tab c.seen) g,TabAt.same (TabAt.upd c.tabT c.seen) g,w)
inductive uz(Ph:Addr)(Pt:Addr)(vs:List V)(H:Hp)(Q:VK)(_e1:XK):Prop
 | mk (p:SR) (ss:List Int) (_:vs=[.ref p.t,.ref p.f]) (_:SA H Ph Pt p ss) (_:∀f cs H1 H2,aQ H H1->(∀c∈cs,H1 c=none)->nu Pt H1 H2->TabAt H2 Pt (bU bw) aN.qual->dM H2 f aN cs [.ref p.f,.int (p.off:Int)]->Q (.ref f) H2)
theorem uy(T:Tx K mg a)(B:Bs mg base a):aV P w K mg base Ui 2 a.ab0 a.abl ["tables","look"] (uz a.Ut a.Uv):=by
 refine T.ab8.F.Ul ug λr A g s H u Q E d h=>?_;obtain⟨p,k,rfl,x,q⟩:=h;exists _,(aq (aD (aF T.YL (kZ T B) d (aa (pv 1) (aa (aC bh (aF T.Z8 (jo T) d (aa (pv 0) ak)) (aF T.aaz (mz T) d (aa (pv 0) ak))) ak)))));refine(_,rfl,_,rfl,p.t,p.t1,p.ah,_,_,p.bp.ns,_,rfl,x.t,x.nd.b.ask.tab,_,rfl,p,k,rfl,x,λo i=>?_);refine(_,_,rfl,rfl,p.f,p.off,rfl,TabAt.same x.tab i,λf m n _ e j c l=>q f m o n i e j c l)
theorem Cy(b:List Str):∀c:List Str,(c.map (nD b)).sum=((c.filter λt=>decide (t∈b)).length:Int)
 | []=>rfl
 | t::c=>by
  rw[aay,aho,Cy b c,agr];unfold nD;by_cases z:t∈b
  ·rw[if_pos z,if_pos (decide_eq_true z),aaE];lia
  ·rw[if_neg z,if_neg (by simpa using z)];lia
theorem oF.nodup(h:oF N ps):ps.Nodup:=aiO (λ{a b} h e=>by subst e;exact lJ _ h) h.up
theorem oF.self(h:oF N ps){w:Str}(b:w∈N):w∈ps:=(h.mem w).mpr (.inr (w,b,w.length,by
 refine eE ?_;rw[bR];exact(aai (ahg aae)).symm))
theorem SA.cnt{p:SR}(x:SA H C S p d){i:Nat}{f:Str->Bool}(h:∀k t,p.ts[k]?=some t->(k<i ↔ f t=true)):(p.es.take i).sum=((p.ws.filter f).length:Int):=by
 show ((p.ts.map (nD p.ws)).take i).sum=_;rw[<-ahX,Cy];refine congrArg Nat.cast (Kv ((x.begs.nodup.sublist (agQ _ _)).filter _) (x.nod.filter _) λw=>?_);rw[ahZ,ahZ];constructor
 ·rintro⟨e,g⟩;obtain⟨k,c⟩:=aaM e;have b:=(aab.mp c).1;rw[aaD]at b;rw[acT (by lia)]at c;exact(of_decide_eq_true g,(h k w c).mp (by lia))
 ·rintro⟨e,g⟩;obtain⟨k,c⟩:=aaM (x.begs.self e);have b:=(h k w c).mpr g;refine(aag (i:=k) ?_,decide_eq_true e);rw[acT b];exact c
inductive Bc(Ph:Addr)(Pt:Addr)(vs:List V)(H:Hp)(Q:VK)(_e1:XK):Prop
 | mk (p:SR) (ss:List Int) (i:Nat) (f:Str->Bool) (_:vs=[.ref p.t,.ref p.f,.int (i:Int)]) (_:SA H Ph Pt p ss) (_:i<=p.ts.length) (_:(∀k t,p.ts[k]?=some t->(k<i ↔ f t=true))) (_:∀ss' H',cW H H' Ph Pt p 1 ss ss'->Q (.int ((p.ws.filter f).length:Int)) H')
theorem mF(T:Tx K mg a)(B:Bs mg base a):aV P w K mg base Ui 5 a.aeF a.adY ["tables","look","node"] (Bc a.Ut a.Uv):=by
 refine T.YW.F.Ul Dt λC A j s H D Q E o h=>?_;obtain⟨p,m,i,g,rfl,x,u,v,q⟩:=h;exists _,(aq (aD (aF T.W2 (fU T) o (aa (aR aP (pv 0) ao) (aa (aF T.ab8 (uy T B) o (aa (pv 0) (aa (pv 1) ak))) (aa (pv 2) ak))))));have z:=x.few;refine(_,rfl,p.t,_,_,_,rfl,rfl,Uj.of x.t,rfl,_,rfl,_,rfl,p,m,rfl,x,λf G J I n e l b r=>?_);have k:=x.same n;refine(_,rfl,p.t3,p.le f,p.Wn,p.es,m,[],i,rfl,k.ends e l b r,by lia,by rw[aaa];exact u,λc y wr d=>?_);have:=q c y ((x.self.same n).trans (k.asked l b wr d));rw[<-x.cnt v]at this;exact this
inductive vY(Ph:Addr)(Pt:Addr)(vs:List V)(H:Hp)(Q:VK)(_e1:XK):Prop
 | mk (p:SR) (ss:List Int) (j:Nat) (t:List Nat) (_:vs=[.ref p.t,.ref p.f,.int (j:Int)]) (_:SA H Ph Pt p ss) (_:p.L[j]?=some t) (_:∀ss' H',cW H H' Ph Pt p 5 ss ss'->Q (.int ((j+1+run (lens p.L) (j+1) t.length:Nat):Int)) H')
theorem mO(T:Tx K mg a)(B:Bs mg base a):aV P w K mg base Ui 9 a.acF a.ab1 ["tables","look","node"] (vY a.Ut a.Uv):=by
 refine T.aaS.F.Ul wF λn A c s H o Q E i h=>?_;obtain⟨p,g,j,t,rfl,x,f,q⟩:=h;exists _,(aq (aD (aC bh (aC bh (pv 2) (tH T.adD (yd T B) (by decide) i Mi rfl (aa (aR aP (pv 0) ao) (aa (pv 1) (aa (pv 2) ak))))) ao)));have b:j<p.ds.length:=by
  have:=(aab.mp f).1;rw[aaa]at this ⊢;exact this
 refine(_,rfl,_,rfl,p.t,_,_,_,rfl,rfl,Uj.of x.t,rfl,_,rfl,_,rfl,p.bp,g,p.ds,_,rfl,x.nd,.inl (j,rfl,b,λv l m e k=>?_));rw[p.lens]at e;obtain⟨d,hd,rfl⟩:=e;rw[ig f]at hd;cases hd;exists _,_,rfl,rfl,_,_,rfl,rfl;have:=q l m (x.tree k);rw[show ((j+1+run (lens p.L) (j+1) t.length:Nat):Int)=(j:Int)+((run (lens p.L) (j+1) t.length:Nat):Int)+1 by lia]at this;exact this
inductive oM(Ph:Addr)(Pt:Addr)(vs:List V)(H:Hp)(Q:VK)(_e1:XK):Prop
 | mk (p:SR) (ss:List Int) (u:Str) (_:vs=[.ref p.t,.ref p.f,.str u]) (_:SA H Ph Pt p ss) (_:ss.length<=12000000) (_:u.length<=150) (_:∀(i:Nat) ss' H',YG p.L u.cps.toList i->cW H H' Ph Pt p 170000 ss ss'->Q (.int (i:Int)) H')
theorem oU(T:Tx K mg a)(B:Bs mg base a):aV P w K mg base Ui 13 a.aaL a.aaC ["tables","look","text"] (oM a.Ut a.Uv):=by
 refine T.aaO.F.Ul cM λa2 A M s H vs Q E D h=>?_;obtain⟨p,Y,u,rfl,x,J,Wo,q⟩:=h;refine(_,(aj (aA 3 cM.nd (aF T.aed (vz T B) D (aa (pv 0) (aa (pv 1) (aa (pv 2) ak)))))
  (aj (aA 4 cM.nd (aR gr (pv 3) (j5 fX ao)))
  (aj (aX (aG iH (aK aL rfl T.Ur Tw.aY (aa (pv 3) ak)) (aK bA rfl T.Ur Tw.aY (aa (pv 2) ak))) (aq (aD (pv 4))) aM)
  (aj (aA 5 cM.nd (aF T.abr (oJ T B) D (aa (pv 0) (aa (pv 1) (aa (pv 4) (aa (aR zq (pv 2) (aC bz (aK aL rfl T.Ur Tw.aY (aa (pv 3) ak)) ao)) ak))))))
  (aj (aX (fQ (lM (pv 5))) (aq (aD (aF T.aaS (mO T B) D (aa (pv 0) (aa (pv 1) (aa (pv 4) ak)))))) aM)
  (aq (aD (pv 5)))))))),?_)
 have ul:u.cps.toList.length=u.length:=aae;refine(_,rfl,_,rfl,_,rfl,p,Y,u,rfl,x,J,Wo,λr b V H1 a0 C t d=>?_);have a1:=t.le;have h1:=t.one;have wl:=d.wr.len;have N:=x.did d (by lia);obtain⟨j,O⟩:∃j,b[b.length - 1]?=some j:=(_,aac (by lia));have m:=t.at' _ _ O;exists _,rfl,_,rfl,r,_,_,_,rfl,rfl,My.of C,qD (by lia) O;refine(_,rfl,r,_,rfl,.inl (My.of C),_,rfl,u,rfl,by rw[sizeLine_eq];lia,_,_,rfl,rfl,_,rfl,bF (λz=>?_) λz=>?_)
 ·have z:(u.length:Int)<(((nats b).length:Nat):Int):=of_decide_eq_true z;rw[aaa]at z;rw[aai (by lia)]at m;exact(_,rfl,q j V H1 (x.pc.here m) (d.le (by lia)))
 have z:¬(u.length:Int)<(((nats b).length:Nat):Int):=λy=>z (decide_eq_true y);rw[aaa]at z;have g:b.length - 1<u.cps.toList.length:=by lia
 obtain⟨c,o⟩:∃c,u.cps.toList[b.length - 1]?=some c:=(_,aac g);have S:u.cps.toList=u.cps.toList.take (b.length - 1)++c::u.cps.toList.drop (b.length - 1+1):=by
  have:=acL g;rw[aac g]at o;cases o;rw[<-this,abG]
 have n:=t.no (by lia);have I:u.cps.toList.take b.length=u.cps.toList.take (b.length - 1)++[c]:=by
  have:=acI (l:=u.cps.toList) (i:=b.length - 1);rw[o,show b.length - 1+1=b.length by lia]at this;exact this
 rw[I]at n;refine(_,rfl,_,rfl,_,rfl,_,rfl,_,rfl,r,_,rfl,.inl (My.of C),_,_,rfl,rfl,u,_,c,rfl,rfl,by rw[sizeLine_eq];lia,?_,p,V,j,_,c,rfl,N,by lia,m,λv W H2 k G=>?_)
 ·rw[aaa,show (b.length:Int) - 1=((b.length - 1:Nat):Int) by lia];exact kh o
 have Zb:=G.wr.len;have X:=N.did G (by lia);have U:=d.trans G;rcases k with ⟨rfl,k⟩|⟨i,e,rfl,R,L,k⟩
 ·refine(_,rfl,_,rfl,il ?_);refine(_,rfl,_,rfl,_,rfl,p,W,j,_,rfl,X,m,λVc H3 Z=>?_);have f:=x.pc.behind (c:=c) (r:=u.cps.toList.drop (b.length - 1+1)) m k;rw[<-S]at f;exact q _ Vc H3 f ((U.trans Z).le (by lia))
 ·refine(_,rfl,_,rfl,dI (_,rfl,q i W H2 ?_ (U.le (by lia))));rw[S];refine x.pc.young R (Nat.lt_of_le_of_ne L λy=>n ?_) k;rw[y];exact aag R
inductive SX(Ph:Addr)(Pt:Addr)(vs:List V)(H:Hp)(Q:VK)(_e1:XK):Prop
 | mk (p:SR) (ss:List Int) (u:Str) (_:vs=[.ref p.t,.ref p.f,.str u]) (_:SA H Ph Pt p ss) (_:ss.length<=12000000) (_:u.length<=150) (_:∀ss' H',cW H H' Ph Pt p 170001 ss ss'->Q (.bl (decide (u∈p.ws))) H')
abbrev U0(u:Str)(t:Str):Bool:=decide (t.cps.toList<u.cps.toList)
inductive v9(Ph:Addr)(Pt:Addr)(vs:List V)(H:Hp)(Q:VK)(_e1:XK):Prop
 | mk (p:SR) (ss:List Int) (u:Str) (_:vs=[.ref p.t,.ref p.f,.str u]) (_:SA H Ph Pt p ss) (_:ss.length<=12000000) (_:u.length<=150) (_:∀ss' H',cW H H' Ph Pt p 170001 ss ss'->Q (.int ((p.ws.filter (U0 u)).length:Int)) H')
theorem wR(T:Tx K mg a)(B:Bs mg base a):aV P w K mg base Ui 14 a.acG a.ab2 ["tables","look","text"] (v9 a.Ut a.Uv):=by
 refine T.acS.F.Ul vX λy A c s H C Q E e h=>?_;obtain⟨p,j,u,rfl,x,b,n,q⟩:=h;exists _,(aq (aD (aF T.YW (mF T B) e (aa (pv 0) (aa (pv 1) (aa (aF T.aaO (oU T B) e (aa (pv 0) (aa (pv 1) (aa (pv 2) ak)))) ak))))));refine(_,rfl,_,rfl,_,rfl,_,rfl,_,rfl,p,j,u,rfl,x,b,n,λi o D f d=>?_);have z:=d.wr.len;have g:=x.did d (by lia);refine(p,o,i,U0 u,rfl,g,by have:=f.1;rw[aaa]at this;exact this,λk t l=>?_,λr v m=>q r v (d.trans m));rw[<-f.2 k t.cps.toList (by rw[aah,l];rfl)];exact decide_eq_true_iff.symm
abbrev lZ(u t:Str):Bool:=decide (t.cps.toList.take u.length=u.cps.toList)
theorem SR.L_at{p:SR}{k:Nat}{t:Str}(h:p.ts[k]?=some t):p.L[k]?=some t.cps.toList:=by
 rw[aah,h];rfl
theorem uI{c:Type}{f g:c->Bool}:∀{l:List c},(∀x∈l,f x=true->g x=true->False)->(l.filter λx=>f x || g x).length=(l.filter f).length+(l.filter g).length
 | [],_=>rfl
 | x::l,h=>by
  have b:=uI (l:=l) λy d=>h y (aaR _ d);have i:=h x abE;rw[agr,agr,agr];cases e:f x <;> cases j:g x
  ·simpa using b
  ·simp only[Bool.or_true,if_true,aaE,b,ad5,if_false];lia
  ·simp only[aik,if_true,aaE,b,ad5,if_false];lia
  ·exact absurd (i e j) id
theorem Gd{u t:Str}(h:U0 u t=true)(h':lZ u t=true):False:=by
 have h:=of_decide_eq_true h;have h':=of_decide_eq_true h';rw[<-h']at h;exact uT _ _ h
inductive xX(Ph:Addr)(Pt:Addr)(vs:List V)(H:Hp)(Q:VK)(_e1:XK):Prop
 | mk (p:SR) (ss:List Int) (u:Str) (_:vs=[.ref p.t,.ref p.f,.str u]) (_:SA H Ph Pt p ss) (_:ss.length<=11000000) (_:u.length<=150) (_:∀(r:Addr) ss' H',H r=none->H' r=some (.tup [.int ((p.ws.filter (U0 u)).length:Int),.int (((p.ws.filter (U0 u)).length+(p.ws.filter (lZ u)).length:Nat):Int)])->cW H H' Ph Pt p 340010 ss ss'->Q (.ref r) H')
theorem cW.free{H':Hp}{l:Addr}{p:SR}{k:Nat}(b:cW H H' f C p k d M)(h:H' l=none):H l=none:=by
 cases e:H l with
 | none=>rfl
 | some o =>
  by_cases j:l=f
  ·obtain⟨m,c,_⟩:=b.tab;rw[j,c]at h;cases h
  by_cases i:l=C
  ·obtain⟨m,c,_⟩:=b.tabT;rw[i,c]at h;cases h
  by_cases g:l=p.sn
  ·rw[g,b.seen]at h;cases h
  rw[b.kp l o e j i g]at h;cases h
theorem xP(T:Tx K mg a)(B:Bs mg base a):aV P w K mg base Ui 15 a.ado a.acH ["tables","look","text"] (xX a.Ut a.Uv):=by
 refine T.adF.F.Ul jG λZ A C s H vs Q E f h=>?_;obtain⟨p,S,u,rfl,x,Y,L,q⟩:=h;refine(_,(aj (aA 3 jG.nd (aF T.afn (El T B) f (aa (pv 0) (aa (pv 1) (aa (pv 2) ak)))))
  (aj (aX (fQ (lM (pv 3))) (aj (aA 4 jG.nd (aF T.acS (wR T B) f (aa (pv 0) (aa (pv 1) (aa (pv 2) ak)))))
  (aq (aD (gf (aa (pv 4) (aa (pv 4) ak)))))) aM)
  (aq (aD (gf (aa (aF T.YW (mF T B) f (aa (pv 0) (aa (pv 1) (aa (pv 3) ak)))) (aa (aF T.YW (mF T B) f (aa (pv 0) (aa (pv 1) (aa (aF T.aaS (mO T B) f (aa (pv 0) (aa (pv 1) (aa (pv 3) ak)))) ak)))) ak))))))),?_)
 have O:u.cps.toList.length=u.length:=aae;refine(_,rfl,_,rfl,_,rfl,p,S,u,rfl,x,by lia,L,λv M H1 l d=>?_);have wl:=d.wr.len;have j:=x.did d (by lia);rcases l with ⟨rfl,l⟩|⟨i,rfl,I⟩
 ·refine(_,rfl,_,rfl,il ?_);refine(_,rfl,_,rfl,_,rfl,p,M,u,rfl,j,by lia,L,λo W c=>?_);refine(_,rfl,_,rfl,(by show 2<=sizeLine;decide),λr b=>?_);have e:(p.ws.filter (lZ u)).length=0:=by
   rw[ahG,aiq];intro t ht z;have z:=of_decide_eq_true z;refine l ?_;have:=x.begs.pre (x.begs.self ht) u.length;rw[eE (show (beg t u.length).cps.toList=u.cps.toList from (bR t _).trans z)]at this;exact this
  refine q r o _ (d.free (c.free b)) ?_ (((d.trans c).same (az b _)).le (by lia));rw[e,au];rfl
 ·refine(_,rfl,_,rfl,dI ?_);have n:=SR.L_at I;have U:=x.pc.here n;refine(_,rfl,_,rfl,_,rfl,p,M,i,U0 u,rfl,j,adG (aab.mp I).1,λk t m=>?_,λo W c=>?_)
  ·rw[<-U.2 k t.cps.toList (SR.L_at m)];exact decide_eq_true_iff.symm
  have Zb:=c.wr.len;have D:=j.did c (by lia);refine(_,rfl,_,rfl,_,rfl,_,rfl,_,rfl,p,o,i,_,rfl,D,n,λV H3 g=>?_);have X:=g.wr.len;have N:=D.did g (by lia);obtain⟨G,R⟩:=x.pc.tail n;rw[aaa]at G;refine(p,V,_,λt=>U0 u t || lZ u t,rfl,N,G,λk t m=>?_,λy H4 J=>?_)
  ·rw[R k t.cps.toList (SR.L_at m),O,ahh,decide_eq_true_eq,decide_eq_true_eq]
  refine((by show 2<=sizeLine;decide),λr b=>?_);refine q r y _ (d.free (c.free (g.free (J.free b)))) ?_ ((((((d.trans c).trans g).trans J).same (az b _))).le (by lia));rw[au,uI λt _=>Gd]
def qQ(x:Str):Prop:=∀c∈x.cps.toList,97<=c/\c<=122
theorem add_list(x y:Str):(x++y).cps.toList=x.cps.toList++y.cps.toList:=by
 show (x.cps++y.cps).toList=_;exact aeg
theorem jt(x y:Str):(x++y).length=x.length+y.length:=by
 show (x.cps++y.cps).size=x.cps.size+y.cps.size;exact Array.size_append
theorem qQ.add{x y:Str}(h:qQ x)(h':qQ y):qQ (x++y):=λc b=>by
 rw[add_list]at b;rcases abd.mp b with b|b
 ·exact h c b
 ·exact h' c b
theorem qQ.cut{x:Str}(h:qQ x)(lo d:Option Int):qQ (oE x lo d):=λc b=>by
 unfold oE at b;rw[ah3]at b;exact h c (agL (ag2 b))
theorem z9(x:Str):x.cps.toList.length=x.length:=aae
inductive pX(vs:List V)(H:Hp)(Q:VK)(_e1:XK):Prop
 | mk (n kd f:Int) (m:Nat) (_:vs=[.int n,.int kd,.int f,.int (m:Int)]) (_:0<=n) (_:n<2147483647) (_:0<kd) (_:0<=f) (_:m<=100) (_:∀x:Str,x.length=m->qQ x->Q (.str x) H)
theorem cN(T:Tx K mg a):aV P w K mg base Ui 1 a.ad0 a.adq ["_law_number","_law_kinds","_law_first","_law_many"] pX:=by
 refine T.Wz.F.Ul dD λO A z s H R Q E S h=>?_;obtain⟨n,g,f,m,rfl,C,B,G,Y,U,q⟩:=h;refine(_,(aj (aA 4 dD.nd rD)
  (aj (bJ PassesOwn.never rfl (yt rfl T.Xk (aa (pv 3) ak)) (aW 5 dD.nd) (aj (aA 0 dD.nd (aC cj (aC bh (aC bh (aC cI (pv 0) (pv 0)) (aC cI ao (pv 0))) (pv 5)) ao))
  (aj (aA 6 dD.nd (aC cj (aC bh (pv 2) (aC cj (aC bL (pv 0) ao) (pv 1))) ao))
  (aq (aA 4 dD.nd (aC eQ (pv 4) (aR zq rD (pv 6))))))))
  (aq (aD (pv 4))))),?_)
 refine(_,rfl,(m:Int),rfl,by lia,by lia,?_);rw[acb];refine JC (λi l u=>∃(n:Int) (x:Str) (p o:Option V),l=[some (.int n),some (.int g),some (.int f),some (.int (m:Int)),some (.str x),p,o]/\u=H/\0<=n/\n<2147483647/\x.length=i/\qQ x) (n,⟨#[]⟩,none,none,rfl,rfl,C,B,rfl,λc k=>by cases k) ?_ ?_
 ·rintro i l u X ⟨b,x,p,o,rfl,rfl,D,v,r,t⟩;exists _,rfl,_,rfl,_,_,rfl,rfl,.inl (by lia,by lia),_,rfl,_,_,rfl,rfl,.inl (by decide,by decide),_,_,rfl,rfl,_,rfl,_,_,rfl,rfl,_,_,rfl,rfl,(by show (0:Int)<2147483647;decide);have J:=agJ (b*b+39373*b+(0+(i:Int))) (show (2147483647:Int)≠0 by decide);have I:=agy (b*b+39373*b+(0+(i:Int))) (show (0:Int)<2147483647 by decide);show gB 0 (.int ((b*b+39373*b+(0+(i:Int)))%2147483647)) _ _ _;generalize (b*b+39373*b+(0+(i:Int)))%2147483647=d at *;have Z:=agJ (d / 64) (show g≠0 by lia);have N:=agJ (f+d / 64%g) (show (26:Int)≠0 by decide);have M:=agy (f+d / 64%g) (show (0:Int)<26 by decide);exists _,rfl,_,rfl,_,_,rfl,rfl,(by decide,by decide),_,rfl,_,_,rfl,rfl,G,_,_,rfl,rfl,_,_,rfl,rfl,(by show (0:Int)<26;decide);obtain⟨j,L⟩:∃j:Nat,(f+d / 64%g)%26=j:=(((f+d / 64%g)%26).toNat,by lia);show gB 6 (.int ((f+d / 64%g)%26)) _ _ _;rw[L]at N M ⊢;have y:UT letters.cps.toList (j:Int)=some (97+j):=by
   have:=uV j (by lia);obtain⟨W,e⟩:=aab.mp this;exact kh this
  exists _,rfl,_,rfl,letters,(j:Int),97+j,rfl,rfl,by decide,y,x,⟨#[97+j]⟩,rfl,rfl,?_
  ·rw[sizeLine_eq];show x.length+1<=_;lia
  refine(d,x++⟨#[97+j]⟩,_,_,rfl,rfl,J,I,by rw[jt,r];rfl,t.add λc k=>?_);have k:c∈[97+j]:=k;rw[aas.mp k];lia
 ·rintro l u ⟨b,x,p,o,rfl,rfl,D,v,r,t⟩;exact(_,rfl,q x r t)
theorem U7.cut{x:Str}(h:U7 x)(lo b:Option Int):U7 (oE x lo b):=(age (dg _ _ _) h.1,qQ.cut h.2 lo b)
inductive Oi(K:PySem.W.Frag)(vs:List V)(H:Hp)(Q:VK)(_e1:XK):Prop
 | mk (c:Int) (p:Addr) (ws:List Str) (_:vs=[.int c,.ref p]) (_:My K H p (ws.map V.str)) (_:(∀w∈ws,U7 w)) (_:∀x:Str,U7 x->Q (.str x) H)
theorem BK(T:Tx K mg a):aV P w K mg base Ui 2 a.aeI a.ad1 ["_law_cell","_law_words_here"] (Oi K):=by
 refine T.aeP.F.Ul jx λX A I s H Z Q E B h=>?_;obtain⟨c,p,e,rfl,D,N,q⟩:=h;refine(_,(aj (aA 2 jx.nd (aC cj (aC cI (aC bL (pv 0) ao) ao) ao))
  (aj (aA 3 jx.nd (aC cj (pv 0) ao))
  (aj (aX (PW.pt (lY (aG dN (pv 3) ao) (kW (aG dN (aK aL rfl T.Ur Tw.aY (aa (pv 1) ak)) ao)))) (aq (aD (aF T.Wz (cN T) B (aa (pv 2) (aa (aC bh ao (aC cj (pv 2) ao)) (aa (aC cj (aC bL (pv 2) ao) ao) (aa (aC bh ao (aC cj (aC bL (pv 2) ao) ao)) ak))))))) aM)
  (aj (aA 4 jx.nd (aR gr (pv 1) (aC cj (pv 2) (aK aL rfl T.Ur Tw.aY (aa (pv 1) ak)))))
  (aj (aX (aG dN (pv 3) ao) (aq (aD (b8 lU (pv 4) dH (cD (aC cj (aC bL (pv 2) ao) (aC bh (aK bA rfl T.Ur Tw.aY (aa (pv 4) ak)) ao)))))) aM)
  (aj (aX (aG dN (pv 3) ao) (aq (aD (b8 lU (aC eQ (pv 4) (aF T.Wz (cN T) B (aa (pv 2) (aa ao (aa ao (aa (aC bh ao (aC cj (aC bL (pv 2) ao) ao)) ak)))))) dH (cD ao)))) aM)
  (aj (aX (aG dN (pv 3) ao) (aq (aD (aC eQ (b8 lU (pv 4) dH (cD (j5 fX ao))) (aF T.Wz (cN T) B (aa (pv 2) (aa ao (aa ao (aa ao ak)))))))) aM)
  (aq (aD (aF T.Wz (cN T) B (aa (pv 2) (aa ao (aa ao (aa (aC cj (aC bL (pv 2) ao) ao) ak)))))))))))))),?_)
 have j:(e.map V.str).length=e.length:=aaa ..;exists _,rfl,_,_,rfl,rfl,(by decide,by decide),_,_,rfl,rfl,.inr (by decide,by decide),_,_,rfl,rfl,(by show (0:Int)<2147483647;decide);have C:=agJ (c / 6*39373) (show (2147483647:Int)≠0 by decide);have n1:=agy (c / 6*39373) (show (0:Int)<2147483647 by decide);show gB 2 (.int (c / 6*39373%2147483647)) _ _ _;generalize c / 6*39373%2147483647=n at *;exists _,rfl,_,_,rfl,rfl,(by show (0:Int)<6;decide);show gB 3 (.int (c%6)) _ _ _;generalize c%6=Y;have r:∀(u f:Int) (m:Nat),0<u->0<=f->m<=40->pX [.int n,.int u,.int f,.int (m:Int)] H (λv o=>Q v o) (λ_ _ _=>False):=λu f m R O h3=>(n,u,f,m,rfl,C,by lia,R,O,by lia,λx y l=>q x (by lia,l));have g:pX [.int n,.int (2+n%2),.int (n / 2%26),.int (1+n / 52%7)] H (λv o=>Q v o) (λ_ _ _=>False):=by
  have:=r (2+n%2) (n / 2%26) (1+n / 52%7).toNat (by lia) (by lia) (by lia);rw[aiH (by lia)]at this;exact this
 refine(_,rfl,rfl,_,rfl,bF (λ_=>?_) λ_=>?_)
 ·exact il (_,rfl,_,rfl,_,_,rfl,rfl,(by show (0:Int)<2;decide),_,_,rfl,rfl,_,rfl,_,_,rfl,rfl,(by decide,by decide),_,_,rfl,rfl,(by show (0:Int)<26;decide),_,rfl,_,_,rfl,rfl,(by decide,by decide),_,_,rfl,rfl,(by show (0:Int)<7;decide),_,_,rfl,rfl,g)
 refine(_,rfl,p,_,rfl,.inl D,rfl,_,rfl,bF (λ_=>?_) λM=>?_)
 ·exact(_,rfl,_,rfl,_,_,rfl,rfl,(by show (0:Int)<2;decide),_,_,rfl,rfl,_,rfl,_,_,rfl,rfl,(by decide,by decide),_,_,rfl,rfl,(by show (0:Int)<26;decide),_,rfl,_,_,rfl,rfl,(by decide,by decide),_,_,rfl,rfl,(by show (0:Int)<7;decide),_,_,rfl,rfl,g)
 have M:e.length≠0:=λz=>M (decide_eq_true (congrArg V.int (by rw[j,z];rfl)));have J:(0:Int)<(e.length:Int):=by lia
 have g0:=agJ n (show (e.length:Int)≠0 by lia);have g1:=agy n J;obtain⟨i,S⟩:∃i:Nat,n%(e.length:Int)=i:=((n%(e.length:Int)).toNat,by lia);have L:i<e.length:=by lia
 have G:UT (e.map V.str) (n%((e.map V.str).length:Int))=some (.str e[i]):=by
  rw[j,S];exact kh (by rw[aah,aac L];rfl)
 have k:=N _ (acJ L);exists _,rfl,_,rfl,_,rfl,p,_,rfl,.inl D,_,_,rfl,rfl,(by rw[j];exact J),p,_,_,_,rfl,rfl,D,G;generalize e[i]=b at *;have W:=k.1;have d:b.length<=sizeLine:=by rw[sizeLine_eq];lia
 refine(_,rfl,rfl,_,rfl,bF (λ_=>?_) λ_=>?_)
 ·exact(_,rfl,_,rfl,_,_,rfl,rfl,(by decide,by decide),_,rfl,b,rfl,d,_,_,rfl,rfl,_,_,rfl,rfl,(by show (0:Int)<(b.length:Int)+1;lia),_,rfl,b,rfl,d,q _ (k.cut _ _))
 refine(_,rfl,rfl,_,rfl,bF (λ_=>?_) λ_=>?_)
 ·have U:1+n / 64%3=(((1+n / 64%3).toNat:Nat):Int):=by lia
  refine(_,rfl,_,rfl,_,rfl,_,_,rfl,rfl,(by decide,by decide),_,_,rfl,rfl,(by show (0:Int)<3;decide),_,_,rfl,rfl,n,26,0,(1+n / 64%3).toNat,by rw[<-U];rfl,C,by lia,by decide,by decide,by lia,λx y l=>?_);refine(b,x,rfl,rfl,by rw[sizeLine_eq];lia,_,rfl,_,rfl,by rw[jt,sizeLine_eq];lia,q _ (?_,qQ.cut (qQ.add k.2 l) _ _));rw[show (40:Int)=((40:Nat):Int)from rfl,zg,zG];lia
 refine(_,rfl,rfl,_,rfl,bF (λ_=>?_) λ_=>?_)
 ·have l1:(oE b none (some (-1))).length<=39:=by
   unfold oE;show ((b.cps.toList.drop _).take _).toArray.size<=_;rw[aaA,aaD,ab9,z9,HT.jY];have e1:HT.UJ b.length b.length (some (-1))<=39:=by
    have Y9:=k.1;show (if (-1:Int)<0 then ((-1:Int)+(b.length:Int)).toNat else min (-1:Int).toNat b.length)<=39;rw[if_pos (by decide)];lia
   lia
  exact(_,rfl,_,rfl,_,rfl,b,rfl,d,_,rfl,n,26,0,1,rfl,C,by lia,by decide,by decide,by decide,λx y l=>(_,x,rfl,rfl,by rw[y,sizeLine_eq];lia,q _ (by rw[jt,y];lia,(qQ.cut k.2 _ _).add l)))
 have t:pX [.int n,.int (26),.int (0),.int (n / 8%5)] H (λv o=>Q v o) (λ_ _ _=>False):=by
  have:=r (26) (0) (n / 8%5).toNat (by lia) (by lia) (by lia);rw[aiH (by lia)]at this;exact this
 exact(_,rfl,_,rfl,_,_,rfl,rfl,(by decide,by decide),_,_,rfl,rfl,(by show (0:Int)<5;decide),t)
theorem Hc(x:Str):∀b:List Str,inV (.str x) (b.map V.str)=decide (x∈b)
 | []=>rfl
 | w::b=>by
  have c:=Hc x b;unfold inV at c ⊢;rw[aay,ahA,c];by_cases e:w=x
  ·subst e;rw[decide_eq_true (show w∈w::b from abE)];have:VN (.str w) (.str w)=true:=by simp[VN]
   rw[this,ajr]
  ·have:VN (.str w) (.str x)=false:=by simp[VN,e]
   rw[this,ajl];exact decide_eq_decide.mpr (λh=>aaR _ h,λh=>by rcases aaQ.mp h with h|h;exact absurd h.symm e;exact h)
theorem yV:∀b:List Str,(b.map V.str).all pD=true
 | []=>rfl
 | w::b=>by
  rw[aay,aiJ,yV b];rfl
inductive M7(K:PySem.W.Frag)(vs:List V)(H:Hp)(Q:VK)(_e1:XK):Prop
 | mk (s:Addr) (zs:List Int) (_:vs=[.ref s]) (_:My K H s (zs.map V.int)) (_:∀(r:Addr) (ws:List Str) (H':Hp),H r=none->aQ H H'->H' r=some (.lst (ws.map V.str))->(∀w∈ws,U7 w)->ws.Nodup->ws.length<=63->much ws<=150->Q (.ref r) H')
theorem zx(T:Tx K mg a):aV P w K mg base Ui 3 a.ad2 a.adt ["_law_script"] (M7 K):=by
 refine T.aee.F.Ul dG λa1 A U s H vs Q E hr h=>?_;obtain⟨G,M,rfl,hS,q⟩:=h;refine(_,(aj (aA 1 dG.nd (cX ak))
  (aj (aA 2 dG.nd ao)
  (aj (bJ PassesOwn.never rfl (bK (b8 n8 (pv 0) dH (cD ao))) (aW 3 dG.nd) (aj (aA 4 dG.nd (aF T.aeP (BK T) hr (aa (pv 3) (aa (pv 1) ak))))
  (aq (aX (PW.pt (iD (aG Ar (pv 4) (pv 1) (by with_unfolding_all rfl)) (iD (aG jq (aK bA rfl T.Ur Tw.aY (aa (pv 4) ak)) (pv 2)) (ir (aG jw (aK aL rfl T.Ur Tw.aY (aa (pv 1) ak)) ao))))) (aj (bu (gZ PySem.F.plainAttrs_list PySem.F.slot_list_append PySem.F.type_list_append b7 (pv 1) (aa (pv 4) ak)))
  (aq (aA 2 dG.nd (aC bz (pv 2) (aK bA rfl T.Ur Tw.aY (aa (pv 4) ak)))))) aM))))
  (aq (aD (pv 1)))))),?_)
 refine((by show 0<=sizeLine;decide),λr m=>?_);have W:=az m (.lst []);refine(_,rfl,_,rfl,G,_,rfl,W.seq hS,λc O=>(c,rfl,(_,My.of au),?_));have S:c≠r:=(aH au O).symm;refine cu (xs:=dm (M.map V.int) none (some 63)) (λi C k=>∃(o n:Option V) (d:List Str) (j:Nat),C=[some (.ref G),some (.ref r),some (.int (j:Int)),o,n]/\aQ H k/\k c=some (.lst (dm (M.map V.int) none (some 63)))/\k r=some (.lst (d.map V.str))/\(∀w∈d,U7 w)/\d.Nodup/\d.length<=i/\much d+j=150) (none,none,[],150,rfl,W.trans (az O _),au,az O _ _ _ au,nofun,List.nodup_nil,aad _,rfl) ?_ ?_ ?_
 ·rintro i C k _ ⟨_,_,_,_,_,_,h,_⟩;exact My.of h
 ·rintro i x C k X ⟨o,n,d,j,rfl,D,N,l,t,I,J,Y⟩;have hi:=(aab.mp X).1;have a0:i<63:=by
   rw[show (63:Int)=((63:Nat):Int)from rfl,M8,aaa,aaD]at hi;lia
  obtain⟨z,rfl⟩:=G7 X;refine(_,rfl,_,rfl,z,r,d,rfl,My.of l,t,λf Wd=>?_);have Y9:=Wd.1;exists _,rfl,_,rfl,r,_,rfl,.inl (My.of l),rfl,yV d,_,rfl;have y:∃(o n:Option V) (g:List Str) (u:Nat),[some (.ref G),some (.ref r),some (.int (j:Int)),some (.int z),some (.str f)]=[some (.ref G),some (.ref r),some (.int (u:Int)),o,n]/\aQ H k/\k c=some (.lst (dm (M.map V.int) none (some 63)))/\k r=some (.lst (g.map V.str))/\(∀w∈g,U7 w)/\g.Nodup/\g.length<=i+1/\much g+u=150:=(_,_,d,j,rfl,D,N,l,t,I,by lia,Y);refine Aa y λL nn=>(_,rfl,f,rfl,by rw[sizeLine_eq];lia,_,rfl,_,_,rfl,rfl,_,rfl,Aa nn λZ R=>(_,rfl,r,_,rfl,.inl (My.of l),_,_,rfl,rfl,_,rfl,bF (λ_=>?_) λ_=>R));have Z:(f.length:Int)<=(j:Int):=of_decide_eq_true Z;have B:f∉d:=λh=>by
   have L:(!inV (.str f) (d.map V.str))=true:=L;rw[Hc,decide_eq_true h]at L;cases L
  exists _,rfl,.inl (rfl,_,My.of l),_,rfl,r,_,_,rfl,rfl,l,?_
  ·rw[aaa,sizeLine_eq];lia
  refine(_,rfl,_,rfl,f,rfl,by rw[sizeLine_eq];lia,_,_,rfl,rfl,some (.int z),some (.str f),d++[f],j - f.length,?_,bQ D m _,by rw[aJ S];exact N,by rw[au,aal];rfl,λv p=>?_,?_,by rw[aaf,agv];lia,?_)
  ·rw[show ((j - f.length:Nat):Int)=(j:Int) - (f.length:Int) by lia];rfl
  ·rcases abd.mp p with p|p
   ·exact t v p
   ·rw[aas.mp p];exact Wd
  ·refine aiT.mpr (I,List.pairwise_singleton _ _,λa ha b hb e=>?_);rw[aas.mp hb]at e;exact B (e ▸ ha)
  ·rw[Jp];lia
 ·rintro C k ⟨o,n,d,j,rfl,D,N,l,t,I,J,Y⟩;have J:d.length<=63:=by
   rw[show (63:Int)=((63:Nat):Int)from rfl,M8,aaa,aaD]at J;lia
  exact(_,rfl,q r d k m D l t I J (by lia))
inductive N8(K:PySem.W.Frag)(vs:List V)(H:Hp)(Q:VK)(_e1:XK):Prop
 | mk (c:Int) (p:Addr) (ws:List Str) (_:vs=[.int c,.ref p]) (_:My K H p (ws.map V.str)) (_:(∀w∈ws,U7 w)) (_:∀x:Str,x.length<=145->Q (.str x) H)
theorem CN(T:Tx K mg a):aV P w K mg base Ui 2 a.aeJ a.ad3 ["_law_cell","_law_words_here"] (N8 K):=by
 refine T.aeQ.F.Ul fc λO A t s H S Q E l h=>?_;obtain⟨c,p,e,rfl,m,J,q⟩:=h;refine(_,(aj (aA 2 fc.nd (aC cj (aC cI (aC bL (pv 0) ao) ao) ao))
  (aj (aA 3 fc.nd rD)
  (NQ (aX (aG iH (aK aL rfl T.Ur Tw.aY (aa (pv 1) ak)) ao) (aq (aA 3 fc.nd (aR gr (pv 1) (aC cj (aC bL (pv 2) ao) (aK aL rfl T.Ur Tw.aY (aa (pv 1) ak)))))) aM)
  (aj (aA 4 fc.nd (aC cj (pv 0) ao))
  (aj (aX (aG jw (pv 4) ao) (aq (aD (b8 lU (pv 3) dH (cD (aC cj (aC bL (pv 2) ao) (aC bh (aK bA rfl T.Ur Tw.aY (aa (pv 3) ak)) ao)))))) aM)
  (aj (aX (aG dN (pv 4) ao) (aq (aD (aC eQ (pv 3) (aF T.Wz (cN T) l (aa (pv 2) (aa ao (aa (aC cj (aC bL (pv 2) ao) ao) (aa (aC bh ao (aC cj (aC bL (pv 2) ao) (aC bz ao (aK bA rfl T.Ur Tw.aY (aa (pv 3) ak))))) ak)))))))) aM)
  (aj (aX (PW.pt (iD (aG dN (pv 4) ao) (ir (aG iH (aK bA rfl T.Ur Tw.aY (aa (pv 3) ak)) ao)))) (aj (aA 5 fc.nd (aC cj (aC bL (pv 2) ao) (aK bA rfl T.Ur Tw.aY (aa (pv 3) ak))))
  (aq (aD (aC eQ (aC eQ (b8 lU (pv 3) dH (cD (pv 5))) (aF T.Wz (cN T) l (aa (pv 2) (aa ao (aa ao (aa ao ak)))))) (b8 lU (pv 3) (cD (aC bh (pv 5) ao)) dH))))) aM)
  (aq (aD (aC eQ (b8 lU (pv 3) dH (cD ao)) (aF T.Wz (cN T) l (aa (pv 2) (aa ao (aa ao (aa ao ak))))))))))))))),?_)
 have f:(e.map V.str).length=e.length:=aaa ..;exists _,rfl,_,_,rfl,rfl,(by decide,by decide),_,_,rfl,rfl,.inr (by decide,by decide),_,_,rfl,rfl,(by show (0:Int)<2147483629;decide);have k:=agJ (c / 5*69621) (show (2147483629:Int)≠0 by decide);have U:=agy (c / 5*69621) (show (0:Int)<2147483629 by decide);show gB 2 (.int (c / 5*69621%2147483629)) _ _ _;generalize c / 5*69621%2147483629=n at *;exists λ u C=>∃b:Str,U7 b/\u=[some (.int c),some (.ref p),some (.int n),some (.str b),none,none]/\C=H,?_
 ·refine(_,rfl,p,_,rfl,.inl m,_,_,rfl,rfl,_,rfl,bF (λg=>?_) λ_=>(_,(aaP _,λc I=>by cases I),rfl,rfl));have g:(0:Int)<((e.map V.str).length:Int):=of_decide_eq_true g;rw[f]at g;have Z:=agJ (n / 8) (show (e.length:Int)≠0 by lia);have Y:=agy (n / 8) g;obtain⟨i,M⟩:∃i:Nat,n / 8%(e.length:Int)=i:=((n / 8%(e.length:Int)).toNat,by lia);have y:i<e.length:=by lia
  have o:UT (e.map V.str) (n / 8%((e.map V.str).length:Int))=some (.str e[i]):=by
   rw[f,M];exact kh (by rw[aah,aac y];rfl)
  exact(_,rfl,_,rfl,_,_,rfl,rfl,(by decide,by decide),_,rfl,p,_,rfl,.inl m,_,_,rfl,rfl,(by rw[f];exact g),p,_,_,_,rfl,rfl,m,o,_,J _ (acJ y),rfl,rfl)
 rintro u C ⟨b,G,rfl,rfl⟩;have N:=G.1;have d:b.length<=sizeLine:=by rw[sizeLine_eq];lia
 exists _,rfl,_,_,rfl,rfl,(by show (0:Int)<5;decide);show gB 4 (.int (c%5)) _ _ _;generalize c%5=R;refine(_,rfl,_,_,rfl,rfl,_,rfl,bF (λ_=>?_) λ_=>?_)
 ·exact(_,rfl,_,rfl,_,_,rfl,rfl,(by decide,by decide),_,rfl,b,rfl,d,_,_,rfl,rfl,_,_,rfl,rfl,(by show (0:Int)<(b.length:Int)+1;lia),_,rfl,b,rfl,d,q _ (age (dg _ _ _) (by lia)))
 refine(_,rfl,rfl,_,rfl,bF (λ_=>?_) λ_=>?_)
 ·have B:=agJ (n / 128) (show 100 - (b.length:Int)≠0 by lia);have z:=agy (n / 128) (show 0<100 - (b.length:Int) by lia);have r:1+n / 128%(100 - (b.length:Int))=(((1+n / 128%(100 - (b.length:Int))).toNat:Nat):Int):=by lia
  exact(_,rfl,_,rfl,_,rfl,_,_,rfl,rfl,(by decide,by decide),_,_,rfl,rfl,(by show (0:Int)<26;decide),_,rfl,_,_,rfl,rfl,(by decide,by decide),_,rfl,b,rfl,d,_,_,rfl,rfl,_,_,rfl,rfl,(by show (0:Int)<100 - (b.length:Int);lia),_,_,rfl,rfl,n,2,n / 4%26,(1+n / 128%(100 - (b.length:Int))).toNat,by rw[<-r];rfl,k,by lia,by lia,by lia,by lia,λx v _=>(b,x,rfl,rfl,by rw[sizeLine_eq];lia,q _ (by rw[jt];lia)))
 refine(_,rfl,rfl,_,rfl,Aa ?_ λ_ D=>(_,rfl,b,rfl,d,_,_,rfl,rfl,_,rfl,bF (λc=>?_) λ_=>D))
 rotate_left
 ·have c:(0:Int)<(b.length:Int):=of_decide_eq_true c;have B:=agJ (n / 512) (show (b.length:Int)≠0 by lia);have z:=agy (n / 512) c;exists _,rfl,_,_,rfl,rfl,(by decide,by decide),_,rfl,b,rfl,d,_,_,rfl,rfl,(by show (0:Int)<(b.length:Int);lia);obtain⟨j,L⟩:∃j:Nat,n / 512%(b.length:Int)=j:=((n / 512%(b.length:Int)).toNat,by lia);show gB 5 (.int (n / 512%(b.length:Int))) _ _ _;rw[L]at B z ⊢;have X:=dg b none (some (j:Int));have W:=dg b (some ((j:Int)+1)) none;exact(_,rfl,_,rfl,_,rfl,b,rfl,d,_,rfl,n,26,0,1,rfl,k,by lia,by decide,by decide,by decide,λx v _=>(_,x,rfl,rfl,by rw[sizeLine_eq];lia,_,rfl,_,rfl,_,_,rfl,rfl,_,rfl,b,rfl,d,_,_,rfl,rfl,by rw[jt,sizeLine_eq];lia,q _ (by rw[jt,jt];lia)))
 exact(_,rfl,_,rfl,b,rfl,d,_,rfl,n,26,0,1,rfl,k,by lia,by lia,by lia,by lia,λx v _=>(_,x,rfl,rfl,by have:=dg b none (some 2);rw[sizeLine_eq];lia,q _ (by have:=dg b none (some 2);rw[jt];lia)))
theorem uX{K:PySem.W.Frag}{a:Addr}{xs:List V}{d:L2.St}{tt:TT}(p:V->Bool)(r:My K H a xs)(t:xs.length<sizeLine)
  (k:∀(x:V) (H':Hp) (Q:Bool->Hp->Prop),x∈xs->aQ H H'->Q (p x) H'->tt (some x::d) H' Q)(s:∀(x:V) (H':Hp) (Q:VK),aQ H H'->Q x H'->ta (some x::d) H' Q)
  (q:∀D,H D=none->z D (upd H D (.lst (xs.filter p)))):iR (We K a) d tt ta z H:=by
 intro D g;exists λi m h n=>m=xs.length - i/\i<=xs.length/\h=(xs.take i).filter p/\n=upd H D (.lst h),(_,rfl,aaP _,rfl,rfl);rintro i m h n ⟨rfl,u,rfl,rfl⟩;have c:My K (upd H D (.lst ((xs.take i).filter p))) a xs:=(az g _).seq r;by_cases b:i<xs.length
 ·have j:xs[i]?=some xs[i]:=aac b;have l:xs.take (i+1)=xs.take i++[xs[i]]:=by
   rw[acI,j];rfl
  refine .inr ((_,_,c,j),λv A y=>?_);obtain⟨rfl,y⟩:=y;have e:=y _ c;rw[j]at e;cases e;refine k _ _ _ (acJ b) (az g _) ?_;have o:=ahm p (xs.take i);rw[aaD]at o;by_cases f:p xs[i]=true
  ·rw[if_pos f];refine s _ _ _ (az g _) (au,by lia,xs.length - (i+1),by lia,rfl,b,?_,?_)
   ·rw[l,ahF,agO f];rfl
   ·rw[lw]
  ·rw[if_neg f];refine(xs.length - (i+1),by lia,rfl,b,?_,rfl);rw[l,ahF,ahH f,List.filter_nil,agG]
 ·have e:i=xs.length:=by lia
  subst e;rw[agp];rw[agp]at c;exact .inl ((_,c,aad _),q D g)
structure SL(H:Hp)(Ph Pt:Addr)(p:SR)(ss:List Int)(wl:Addr):Prop where
 sa:SA H Ph Pt p ss
 wo:H wl=some (.lst (p.ws.map V.str))
 ns:wl≠p.sn
theorem SL.did{H H':Hp}{f e:Addr}{p:SR}{k:Nat}{h c:List Int}{g:Addr}(x:SL H f e p h g)(d:cW H H' f e p k h c)(i:c.length<=15000000):SL H' f e p c g:=
 (x.sa.did d i,d.kp _ _ x.wo (TabAt.ne x.sa.nd.b.tab x.wo nofun) (TabAt.ne x.sa.tab x.wo nofun) x.ns,x.ns)
abbrev ltV(u:Str):V->Bool
 | .str t=>U0 u t
 | _=>false
theorem HJ(u:Str):∀b:List Str,((b.map V.str).filter (ltV u)).length=(b.filter (U0 u)).length:=λb=>by
 rw[ajc,aaa];rfl
abbrev Zd(u:Str):V->Bool
 | .str t=>lZ u t
 | _=>false
theorem Ls(u:Str):∀b:List Str,((b.map V.str).filter (Zd u)).length=(b.filter (lZ u)).length:=λb=>by
 rw[ajc,aaa];rfl
theorem JK{l :List Str}(h:l.Perm N):much l=much N:=by
 induction h with
 | nil=>rfl
 | cons x _ b=>exact congrArg (x.length + ·) b
 | swap x y l =>
  show y.length+(x.length+much l)=x.length+(y.length+much l);lia
 | trans _ _ d c=>exact d.trans c
theorem rE{d:Type}{f:d->Bool}:∀{l:List d},l.Pairwise (λx y=>f y=true->f x=true) -> ∀k x,l[k]?=some x->(k<(l.filter f).length ↔ f x=true)
 | [],_,_,_,e=>by simp at e
 | y::l,h,k,x,e=>by
  obtain⟨j,i⟩:=aie.mp h;cases q:f y with
  | true =>
   rw[agO q,aaE];cases k with
   | zero =>
    cases e;simp[q]
   | succ k =>
    rw[<-rE i k x (by simpa using e)];lia
  | false =>
   have g:∀z∈y::l,f z=true->False:=λz b c=>by
    rcases aaQ.mp b with rfl|b
    ·rw[q]at c;cases c
    ·rw[j z b c]at q;cases q
   rw[show (y::l).filter f=[]from aiq.mpr g];exact(λz=>absurd z (agU _),λz=>(g x (aag e) z).elim)
theorem Ke(h:N.Pairwise Vn)(u:Str):N.Pairwise (λx y=>U0 u y=true->U0 u x=true):=h.imp λ{a b} c d=>decide_eq_true (agq c (of_decide_eq_true d))
theorem J9(h:N.Pairwise Vn)(u:Str):N.Pairwise (λx y=>(U0 u y || lZ u y)=true->(U0 u x || lZ u x)=true):=h.imp λ{a b} d c=>by
 have f:u.cps.toList.length=u.length:=aae;rw[ahh,decide_eq_true_eq,decide_eq_true_eq]at c ⊢;by_cases z:a.cps.toList<u.cps.toList
 ·exact .inl z
 ·refine .inr ?_;rcases c with c|c
  ·exact absurd (agq d c) z
  ·have e:b.cps.toList=u.cps.toList++b.cps.toList.drop u.length:=by rw[<-abG u.length b.cps.toList,c,List.drop_left' f]
   rw[<-f];exact fZ (s:=b.cps.toList.drop u.length) z λy=>by
    rw[<-e]at y;exact dC _ (agq d y)
theorem FJ(h:N.Pairwise Vn){u t:Str}{k:Nat}(b:N[k]?=some t)(d:(N.filter (U0 u)).length<=k)(c:k<(N.filter (U0 u)).length+(N.filter (lZ u)).length):lZ u t=true:=by
 rw[<-uI λt _=>Gd]at c;have a:=(rE (J9 h u) k t b).mp c;rw[ahh]at a;rcases a with a|a
 ·have:=(rE (Ke h u) k t b).mpr a;lia
 ·exact a
theorem ph{H:Hp}:∀c:List Str,nF K H (c.map V.str) (c.map PyData.str)
 | []=>.nil
 | b::r=>.cons (.str b) (ph r)
theorem Pu{w:Str}(h:U7 w):PyData.strOk w=true:=by
 unfold PyData.strOk;rw[Array.all_eq_true'];intro x b;have:=(h.2 x (by simpa using b)).2;exact decide_eq_true (by lia)
theorem sZ:∀b:List Str,(∀w∈b,U7 w)->PyData.canLayAll0 (b.map PyData.str)=true
 | [],_=>rfl
 | v::r,h=>by
  rw[aay];simp only[PyData.canLayAll0,PyData.canLay0,sZ r λw c=>h w (aaR _ c),Pu (h v abE),Bool.and_self]
theorem vA:∀b:List Str,PyData.depthAll (b.map PyData.str)<=1
 | []=>by simp[PyData.depthAll]
 | _::r=>by
  have:=vA r;rw[aay];simp only[PyData.depthAll,PyData.depth];lia
theorem Jb(c:∀w∈N,U7 w):SeqAt.shaped (.list (N.map PyData.str))=true/\PyData.eqv (.list (N.map PyData.str)) (.list (N.map PyData.str))=true:=by
 have d:=vA N;have b:(PyData.list (N.map PyData.str)).canLay0=true:=by
  simp only[PyData.canLay0,sZ N c]
 refine(?_,SeqAt.eqv_refl _ b);unfold SeqAt.shaped;rw[b,ajn];refine decide_eq_true ?_;simp only[PyData.depth];lia
inductive Mh(K:PySem.W.Frag)(vs:List V)(H:Hp)(Q:VK)(_e1:XK):Prop
 | mk (p:Addr) (ss:List Int) (size:Int) (_:vs=[.ref p,.int size]) (_:My K H p (ss.map V.int)) (_:(∀x∈ss,0<=x/\x<size)) (_:Q (.bl true) H)
theorem zH(T:Tx K mg a):aV P w K mg base Ui 2 a.ad4 a.adu ["_law_seen","_law_size"] (Mh K):=by
 refine T.aef.F.Ul qb λt A g s H u Q E n h=>?_;obtain⟨p,l,b,rfl,j,m,q⟩:=h;refine(_,(aj (bJ PassesOwn.never rfl (bK (pv 0)) (aW 2 qb.nd) (aq (aX (PW.pt (lY (my (qI (aF T.YX (kj T) n (aa (pv 2) ak)))) (lY (aG jw (pv 2) ao) (kW (aG Bt (pv 2) (pv 1)))))) (aq (aD sX)) aM)))
  (aq (aD sX))),?_)
 exists _,rfl,p,rfl,(_,j);refine cu (xs:=l.map V.int) (λi d e=>(∃k,d=[some (.ref p),some (.int b),k])/\e=H) ((none,rfl),rfl) ?_ ?_ ?_
 ·rintro i d e _ ⟨_,rfl⟩;exact j
 ·rintro i x d e f ⟨⟨k,rfl⟩,rfl⟩;obtain⟨c,o,rfl⟩:=int_at f;have r:=m c (aag o);refine(_,rfl,c,rfl,true,rfl,dI ?_);refine(_,rfl,_,_,rfl,rfl,_,rfl,bF (λz=>?_) λ_=>?_)
  ·have z:=of_decide_eq_true z;lia
  refine(_,rfl,_,rfl,_,_,rfl,rfl,_,rfl,bF (λz=>?_) λ_=>?_)
  ·have z:=of_decide_eq_true z;lia
  exact((_,rfl),rfl)
 ·rintro d e ⟨⟨k,rfl⟩,rfl⟩;exact q
theorem Store.sa{r t :Addr}(St:Store H r t C N ps)(hW:∀w∈N,U7 w)(z:N.Nodup)(hl:ps.length<=2001):∃q:SR,q.t=t/\q.ws=N/\q.ts=ps/\H C=some (.lst q.al)/\q.al.length<=3000 /\
  ∀(l:Hp) (v u f sn o:Addr) (cs:List Addr),Kp H l->l sn=some (.lst [])->l o=some (.lst q.al)->sn≠o->iY l f bV cs [.ref sn,.ref o]->TabAt l v (bU bT) aZ.qual->TabAt l u (bU bw) aN.qual->u≠v->SA l v u { q with f:=f,sn:=sn,bl:=o } []:=by
 obtain⟨xr,⟨T,R,Q,ah,X,b1,r2,b2,k2,c2,Wn,b3,p,S,E,Y,h,Z,L,m,j,g,y⟩,F⟩:=St;have J:=F.good;have D:(ps.map λt:Str=>((t.length:Nat):Int)).length=ps.length:=aaa ..;have x:=n6 J;rw[D]at x;refine((t,T,R,Q,ah,X,k2,c2,Wn,0,0,0,p,S,E,Y,h,Z,N,ps),rfl,rfl,rfl,y,?_,λl v u f sn o cs i hs hb W I O M U=>?_)
 ·have G:=j.size (by rw[aaa,ab9];lia);rw[aaa]at G;have h2:(bB (brk (ps.map λt:Str=>((t.length:Nat):Int)) 0)).length<=126:=by rw[bC,x];unfold many;lia
  have h3:(bB (ps.map (nD N))).length<=63:=by rw[bC,aaa];unfold many;lia
  have e:∀A B d:List Int,A.length<=126->B.length<=1600->d.length<=63->((A++B++d).map V.int).length<=3000:=λA B d a b c=>by
   rw[aaa,aaf,aaf];lia
  exact e _ _ _ h2 G h3
 ·refine(i _ _ L nofun nofun,((((i _ _ m.tab.tup nofun nofun,i _ _ m.tab.Vr nofun nofun,m.tab.few),(.inl (rfl,sn,cs,rfl,I),λa0 e=>?_,hb,by decide),?_,?_,λn s=>?_),i _ _ m.Wl nofun nofun,m.low,m.sz,m.heap,O),by decide,rfl,J),i _ _ j.t nofun nofun,i _ _ j.k nofun nofun,i _ _ j.c nofun nofun,j.ls.to λb E e=>i _ _ e nofun nofun,j.kd,j.sz,j.h12,(i _ _ g.tup nofun nofun,i _ _ g.Vr nofun nofun,g.few),(rfl,sn,cs,rfl,I),M,F,hW,hl,by decide,U,z)
  ·cases e;exact(hs,W)
  ·exact oX _ _
  ·show (brk (ps.map λt:Str=>((t.length:Nat):Int)) 0).length<=4096;rw[x];lia
  ·show (List.map V.int (_++_++_))[0+n]?=_;have s:n<many (brk (ps.map λt:Str=>((t.length:Nat):Int)) 0).length:=s;rw[agB,aah,aa5,aax (by rw[bC];exact s)];exact congrArg (ajj V.int) (jV s)
structure Pk(H6 H':Hp)(Pt Ph Pl:Addr):Prop where
 ob:∀b o,H6 b=some o->(∀ps,o ≠ .Uq ps)->H' b=some o
 tt:TabAt H' Pt (bU bw) aN.qual
 th:TabAt H' Ph (bU bT) aZ.qual
 tl:TabAt H' Pl (yo eX) bV.qual
theorem Pk.made{d:Hp}(h:Pk H H' f C S)(j:f≠S)(i:C≠S)(c:nu S H' d)(g:TabAt d S (yo eX) bV.qual):Pk H d f C S:=
 (λb o e n=>c b o (h.ob b o e n) (TabAt.ne h.tl (h.ob b o e n) n),TabAt.keep h.tt h.tl j λb o e n _=>c b o e n,TabAt.keep h.th h.tl i λb o e n _=>c b o e n,g)
theorem Kh{K:PySem.W.Frag}{a:Addr}{xs:List V}{d:L2.St}{tt:TT}(R:V->Prop)(p:My K H a xs)(s:xs.length<sizeLine)
  (j:∀(x:V) (H':Hp) (Q:Bool->Hp->Prop),Q true H'->tt (some x::d) H' Q)(r:∀(x:V) (H':Hp) (Q:VK),x∈xs->aQ H H'->(∀y,R y->Q y H')->ta (some x::d) H' Q)
  (q:∀D ys,H D=none->ys.length=xs.length->(∀y∈ys,R y)->z D (upd H D (.lst ys))):iR (We K a) d tt ta z H:=by
 intro D g;exists λi m ys n=>m=xs.length - i/\i<=xs.length/\ys.length=i/\(∀y∈ys,R y)/\n=upd H D (.lst ys),(_,rfl,aaP _,rfl,nofun,rfl);rintro i m ys n ⟨rfl,t,rfl,l,rfl⟩;have h:=(az g (.lst ys)).seq p;by_cases c:ys.length<xs.length
 ·have k:=aac c;refine .inr ((_,_,h,k),λv u y=>?_);obtain⟨rfl,y⟩:=y;have e:=y _ h;rw[k]at e;cases e;refine j _ _ _ ?_;rw[if_pos rfl];refine r _ _ _ (acJ c) (az g _) λy o=>(au,by lia,xs.length - (ys.length+1),by lia,rfl,c,by rw[aaf];rfl,λb f=>?_,?_)
  ·rcases abd.mp f with f|f
   ·exact l b f
   ·rw[aas.mp f];exact o
  ·rw[lw]
 ·have e:ys.length=xs.length:=by lia
  exact .inl ((_,h,ahg e.symm),q D ys g e l)
theorem MP(xs:List V)(k:Nat):(dm xs (some (-((k:Int)+1))) none).length<=k+1:=by
 have e:HT.UJ xs.length 0 (some (-((k:Int)+1)))=(-((k:Int)+1)+(xs.length:Int)).toNat:=if_pos (by lia);unfold dm;rw[e,HT.jY,aaD,ab9];lia
inductive afQ(K:PySem.W.Frag)(Pt:Addr)(Ph:Addr)(Pl:Addr)(vs:List V)(H:Hp)(Q:VK)(_e1:XK):Prop
 | mk (s:Addr) (ns:List Int) (_:vs=[.ref s]) (_:My K H s (ns.map V.int)) (_:ns.length<=63) (_:TabAt H Pt (bU bw) aN.qual) (_:TabAt H Ph (bU bT) aZ.qual) (_:TabAt H Pl (yo eX) bV.qual) (_:∀H',Q (.bl true) H')
theorem QW(T:Tx K mg a)(B:Bs mg base a):aV P w K mg base Ui 16 a.af5 a.afU ["_law_script"] (afQ K a.Uv a.Ut a.VF):=by
 refine T.aga.F.Ul jQ λf2 A e3 s H vs Q E R h=>?_;obtain⟨sa,zs,rfl,hS,hl,tt,th,tl,q⟩:=h;refine(_,(aj (rQ (i:=1) jQ.nd rfl (ahT rfl) (aK wM rfl T.aeT Tw.rO (aa (aF T.aee (zx T) R (aa (pv 0) ak)) ak)))
  (aj (aA 2 jQ.nd (cU kY rfl T.YZ Tw.uQ (aa (pv 1) ak)))
  (aj (Li (aF T.adE (w5 T) R (aa (pv 2) ak)) (nA rfl (bW (aW 3 jQ.nd) (bW (aW 4 jQ.nd) jl))))
  (aj (aA 5 jQ.nd (cX ak))
  (aj (aA 6 jQ.nd (aF T.aeR (CV T B) R (aa (cU kY rfl T.YZ Tw.uQ (aa (pv 4) ak)) (aa (pv 5) ak))))
  (aj (bJ PassesOwn.never rfl (bK (aC mW (cX (aa rD ak)) (jy rfl (bZ.one (j:=1) rfl (ag1 rfl) rfl rfl (ag1 rfl)) (bK (b8 n8 (pv 0) (cD (j5 fX ao)) dH)) (λ_ _ _ _=>fL) (λ_ _ _ _=>(aF T.aeQ (CN T) R (aa (pv 0) (aa (pv 1) ak))))))) (lg (i:=7) jQ.nd rfl (ahT rfl)) (aj (aA 8 jQ.nd (aF T.adF (xP T B) R (aa (pv 3) (aa (pv 6) (aa (pv 7) ak)))))
  (aj (aX (PW.pt (lY (my (qI (aK vf rfl T.abt Tw.jA (aa (pv 8) (aa (zV (v:=.ty "tuple") rfl T.XS Tw.mR rfl) ak))))) (lY (aG pQ (aK aL rfl T.Ur Tw.aY (aa (pv 8) ak)) ao) (lY (my (qI (aF T.YX (kj T) R (aa (aR aP (pv 8) ao) ak)))) (kW (my (qI (aF T.YX (kj T) R (aa (aR aP (pv 8) ao) ak))))))))) (aq (aD sX)) aM)
  (aj (aX (aG pQ (aR aP (pv 8) ao) (aK aL rfl T.Ur Tw.aY (aa (jy rfl (bZ.one (j:=7) rfl (ag1 rfl) rfl rfl (ag1 rfl)) (bK (pv 1)) (λ_ _ _ _=>(uJ (aG Ms (pv 0) (pv 1)))) (λ_ _ _ _=>(pv 0))) ak))) (aq (aD sX)) aM)
  (aj (aX (aG pQ (aR aP (pv 8) ao) (aC bh (aR aP (pv 8) ao) (aK aL rfl T.Ur Tw.aY (aa (jy rfl (bZ.one (j:=7) rfl (ag1 rfl) rfl rfl (ag1 rfl)) (bK (pv 1)) (λ_ _ _ _=>(uJ (qI (show PE _ _ (Zk K "str" Bu _ _)from (gZ PySem.F.plainAttrs_str PySem.F.slot_str_startswith PySem.F.type_str_startswith EY (pv 0) (aa (pv 1) ak)))))) (λ_ _ _ _=>(pv 0))) ak)))) (aq (aD sX)) aM)
  (aq (bJ PassesOwn.never rfl (bK (b8 n8 (pv 1) (cD (aR aP (pv 8) ao)) (cD (aR aP (pv 8) ao)))) (aW 9 jQ.nd) (aq (aX (aG pQ (b8 lU (pv 9) dH (cD (aK bA rfl T.Ur Tw.aY (aa (pv 7) ak)))) (pv 7)) (aq (aD sX)) aM)))))))))
  (aq (aD (Ei (Az (Rk R.units) (pv 2) (pv 1)) (Ep (aF T.aef (zH T) R (aa (pv 5) (aa (aK aL rfl T.Ur Tw.aY (aa (pv 4) ak)) ak))))))))))))),?_)
 refine(_,rfl,sa,zs,rfl,hS,λw0 b6 H0 _ b9 b3 d8 c4 e6 d3=>?_);refine(w0,b6,rfl,My.of b3,by lia,λI G c9 pm su=>?_);have hW:∀w∈G,U7 w:=λw h=>d8 w (pm.mem_iff.mp h);have nd:G.Nodup:=pm.nodup_iff.mpr c4;have d0:=wV su nd;have e5:=pm.length_eq;have hm:much G<=150:=by rw[JK pm];exact d3
 have s1:=az c9 (.lst (G.map V.str));have Y:upd H0 I (.lst (G.map V.str)) I=some (.lst (G.map V.str)):=au;have L:=b9.trans s1;generalize upd H0 I (.lst (G.map V.str))=H1 at *;refine(_,rfl,I,_,rfl,.inl (My.of Y),λhn d6=>?_);have s2:=az d6 (.lst (G.map V.str));have xh:upd H1 hn (.lst (G.map V.str)) hn=some (.lst (G.map V.str)):=au
 replace Y:=s2 _ _ Y
 replace L:=L.trans s2
 generalize upd H1 hn (.lst (G.map V.str))=H2 at *;refine(_,rfl,hn,G,rfl,My.of xh,hW,nd,by lia,by lia,λr t b0 ts H3 a3 St e7=>?_)
 replace Y:=a3 _ _ Y
 replace xh:=a3 _ _ xh
 replace L:=L.trans a3
 exists r,_,rfl,Uj.of St.r,rfl,_,_,rfl,_,_,rfl,rfl;obtain⟨p,rfl,rfl,rfl,a1,f1,mk⟩:=St.sa hW nd (by lia);refine((by show 0<=sizeLine;decide),λg U=>?_);have W:=az U (.lst []);have c0:I≠g:=aH Y U;have c3:hn≠g:=aH xh U;have c5:b0≠g:=aH a1 U;have Yd:upd H3 g (.lst []) g=some (.lst []):=au;generalize upd H3 g (.lst [])=H7 at *;refine(_,rfl,b0,_,rfl,.inl (My.of (W _ _ a1)),λM VH=>?_);have v2:=az VH (.lst p.al);have X5:g≠M:=aH Yd VH
 replace Yd:=v2 _ _ Yd
 have b5:upd H7 M (.lst p.al) M=some (.lst p.al):=au
 replace W:=W.trans v2
 replace L:=L.trans W
 generalize upd H7 M (.lst p.al)=H8 at *;refine(_,rfl,M,g,rfl,TabAt.same tl L,λf cs H9 hf a7 b2 ca=>?_);have e0:Pk H8 H8 a.Uv a.Ut a.VF:=(λ_ _ e _=>e,TabAt.same tt L,TabAt.same th L,TabAt.same tl L);have S:=e0.made B.abH B.abI a7 b2;have x:=mk H9 a.Ut a.Uv f g M cs (λb o h n1 n2=>S.ob _ _ (W b o h) n1) (S.ob _ _ Yd nofun) (S.ob _ _ b5 nofun) X5 ca S.th S.tt B.abu;have xb:=S.ob _ _ (W _ _ a1) nofun;have a0:=S.ob _ _ (W _ _ xh) nofun;have X9:SL H9 a.Ut a.Uv { p with f:=f,sn:=g,bl:=M } [] I:=(x,S.ob _ _ (W _ _ Y) nofun,c0);obtain⟨pl,d2,_⟩:=e0.tl;have d9:=T3 a7 d2 (L.seq hS);refine((by show 1<=sizeLine;decide),λl1 b1=>?_)
 have u1:=az b1 (.lst [V.str ""])
 refine(_,rfl,_,rfl,_,rfl,sa,_,rfl,u1.seq d9,λc hc=>(c,rfl,(_,My.of au),?_));have u2:=az hc (.lst (dm (zs.map V.int) (some (-6)) none));have cl:(dm (zs.map V.int) (some (-6)) none).length<=6:=MP _ 5
 have a6:=u2 _ _ (au:upd H9 l1 (.lst [V.str ""]) l1=_)
 refine Kh (λy=>∃x:Str,y=.str x/\x.length<=145) (My.of au) (by rw[sizeLine_eq];lia) (λ_ _ _ q=>q) (λy m Q' X sm O=>?_) λl2 C a9 c7 c6=>?_
 ·obtain⟨i,hi⟩:=aaM X;obtain⟨z,rfl⟩:=G7 hi;exact(_,rfl,_,rfl,z,I,p.ws,rfl,My.of (sm _ _ (u2 _ _ (u1 _ _ X9.wo))),hW,λx hx=>O _ (x,rfl,hx))
 have u3:=az a9 (.lst C);refine(l1,l2,_,_,rfl,rfl,u3 _ _ a6,au,by rw[sizeLine_eq,c7];show 1+_<=_;lia,λl3 a4=>(l3,rfl,(_,My.of au),?_))
 have u4:=az a4 (.lst ([V.str ""]++C))
 have s4:=((u1.trans u2).trans u3).trans u4
 have b4:upd (upd (upd (upd H9 l1 (.lst [V.str ""])) c (.lst (dm (zs.map V.int) (some (-6)) none))) l2 (.lst C)) l3 (.lst ([V.str ""]++C)) l3=some (.lst (V.str ""::C)):=au
 have c1:l3≠g:=(aH (u3 _ _ (u2 _ _ (u1 _ _ (S.ob _ _ Yd nofun)))) a4).symm;have X0:=X9.did (x.self.same s4) (by decide)
 replace xb:=s4 _ _ xb
 replace a0:=s4 _ _ a0
 clear u1 u2 u3 u4 s4 a6 hc b1 a9 a4 mk
 generalize upd (upd (upd (upd H9 l1 (.lst [V.str ""])) c (.lst (dm (zs.map V.int) (some (-6)) none))) l2 (.lst C)) l3 (.lst ([V.str ""]++C))=a5 at *
 have c8:∀x∈(V.str ""::C),∃u:Str,x=.str u/\u.length<=145:=λx hx=>by
  rcases aaQ.mp hx with rfl|hx
  ·exact("",rfl,by decide)
  ·exact c6 x hx
 have XQ:(V.str ""::C).length<=7:=by rw[aaE];lia
 generalize (V.str ""::C)=xs at *
 have kp:∀{k:Nat}{Z:List Int}{m:Hp}{b:Addr}{C:List V},cW a5 m a.Ut a.Uv { p with f:=f,sn:=g,bl:=M } k [] Z->a5 b=some (.lst C)->b≠g->m b=some (.lst C):=λd e n=>d.kp _ _ e (TabAt.ne X0.sa.nd.b.tab e nofun) (TabAt.ne X0.sa.tab e nofun) n;refine cu (xs:=xs) (λi N m=>(∃k7 k8 k9,N=[some (.ref sa),some (.ref I),some (.ref hn),some (.ref p.t),some (.ref b0),some (.ref g),some (.ref f),k7,k8,k9]) /\ ∃Z,cW a5 m a.Ut a.Uv { p with f:=f,sn:=g,bl:=M } (340010*i) [] Z) ((_,_,_,rfl),[],X0.sa.self) ?_ ?_ ?_
 ·rintro i N m _ ⟨_,Z,d⟩;exact My.of (kp d b4 c1)
 ·rintro i y N m X ⟨⟨k7,k8,k9,rfl⟩,Z,d⟩;obtain⟨u,rfl,hu⟩:=c8 y (aag X);have f0:=(aab.mp X).1;have a2:=d.wr.len;rw[ah2]at a2;have X1:=X0.did d (by lia);refine(_,rfl,_,rfl,_,rfl,{ p with f:=f,sn:=g,bl:=M },Z,u,rfl,X1.sa,by lia,by lia,λr Us H1 e8 D J=>?_);have Zb:=J.wr.len;have X2:=X1.did J (by lia)
  replace J:=d.trans J
  refine(_,rfl,_,"tuple",_,true,rfl,.tup D,rfl,true,rfl,dI ?_)
  refine(_,rfl,r,_,rfl,.inr (Uj.of D),rfl,_,rfl,qy rfl ?_);refine(_,rfl,r,_,_,_,rfl,rfl,Uj.of D,rfl,_,rfl,true,rfl,dI ?_);refine(_,rfl,r,_,_,_,rfl,rfl,Uj.of D,rfl,_,rfl,true,rfl,dI ?_);exists _,rfl,r,_,_,_,rfl,rfl,Uj.of D,rfl,_,rfl,I,rfl,(_,My.of X2.wo);refine uX (ltV u) (My.of X2.wo) (by rw[aaa,sizeLine_eq];show p.ws.length<_;lia) (λy m Q' X _ O=>?_) (λy m Q' _ O=>(_,rfl,O)) λl hl=>?_
  ·obtain⟨t,_,rfl⟩:=aaT.mp X;exact(_,rfl,_,rfl,_,_,rfl,rfl,_,rfl,O)
  have w1:=az hl (.lst ((p.ws.map V.str).filter (ltV u)));refine(l,_,rfl,.inl (My.of au),rfl,_,rfl,qy (by rw[HJ]) ?_);have X3:=X2.did (X2.sa.self.same w1) (by lia)
  replace J:=J.same w1
  replace D:=w1 _ _ D
  generalize upd H1 l (.lst ((p.ws.map V.str).filter (ltV u)))=H3 at *;exists _,rfl,r,_,_,_,rfl,rfl,Uj.of D,rfl,_,rfl,r,_,_,_,rfl,rfl,Uj.of D,rfl,_,rfl,I,rfl,(_,My.of X3.wo);refine uX (Zd u) (My.of X3.wo) (by rw[aaa,sizeLine_eq];show p.ws.length<_;lia) (λy m Q' X _ O=>?_) (λy m Q' _ O=>(_,rfl,O)) λl4 d4=>?_
  ·obtain⟨t,_,rfl⟩:=aaT.mp X;exact(_,rfl,rfl,_,rfl,t,u,rfl,rfl,_,rfl,O)
  have w2:=az d4 (.lst ((p.ws.map V.str).filter (Zd u)));refine(l4,_,rfl,.inl (My.of au),_,_,rfl,rfl,rfl,_,rfl,qy (by rw[Ls];rfl) ?_);have X4:=X3.did (X3.sa.self.same w2) (by lia)
  replace J:=J.same w2
  replace D:=w2 _ _ D
  generalize upd H3 l4 (.lst ((p.ws.map V.str).filter (Zd u)))=H4 at *;refine(_,rfl,_,rfl,r,_,_,_,rfl,rfl,Uj.of D,rfl,_,rfl,_,rfl,r,_,_,_,rfl,rfl,Uj.of D,rfl,_,rfl,I,_,rfl,My.of X4.wo,λc2 d7=>(c2,rfl,(_,My.of au),?_));have w3:=az d7 (.lst (dm (p.ws.map V.str) (some ((p.ws.filter (U0 u)).length:Int)) (some (((p.ws.filter (U0 u)).length+(p.ws.filter (lZ u)).length:Nat):Int))))
  replace J:=J.same w3
  have ec:dm (p.ws.map V.str) (some ((p.ws.filter (U0 u)).length:Int)) (some (((p.ws.filter (U0 u)).length+(p.ws.filter (lZ u)).length:Nat):Int))=((p.ws.drop (p.ws.filter (U0 u)).length).take (p.ws.filter (lZ u)).length).map V.str:=by
   have e1:=ahm (U0 u) p.ws;have e2:=ahm (λt=>U0 u t || lZ u t) p.ws;rw[uI λt _=>Gd]at e2;unfold dm;rw[HT.jr,HT.jr,aaa,afM e1,afM e2,agg,ahX,ahY]
  have xc:upd H4 c2 (.lst (dm (p.ws.map V.str) (some ((p.ws.filter (U0 u)).length:Int)) (some (((p.ws.filter (U0 u)).length+(p.ws.filter (lZ u)).length:Nat):Int)))) c2=some (.lst (((p.ws.drop (p.ws.filter (U0 u)).length).take (p.ws.filter (lZ u)).length).map V.str)):=by rw[au,ec]
  generalize upd H4 c2 (.lst (dm (p.ws.map V.str) (some ((p.ws.filter (U0 u)).length:Int)) (some (((p.ws.filter (U0 u)).length+(p.ws.filter (lZ u)).length:Nat):Int))))=H5 at *;refine cu (xs:=((p.ws.drop (p.ws.filter (U0 u)).length).take (p.ws.filter (lZ u)).length).map V.str) (λ_ N m=>(∃k9,N=[some (.ref sa),some (.ref I),some (.ref hn),some (.ref p.t),some (.ref b0),some (.ref g),some (.ref f),some (.str u),some (.ref r),k9])/\m=H5) ((_,rfl),rfl) ?_ ?_ ?_
  ·rintro _ N m _ ⟨_,rfl⟩;exact My.of xc
  ·rintro j y N m a8 ⟨⟨k9,rfl⟩,rfl⟩;rw[aah]at a8;obtain⟨t,ht,rfl⟩:=abF.mp a8;have hj:=(aab.mp ht).1;rw[aaD]at hj;rw[acT (by lia),agx]at ht;have hb:=of_decide_eq_true (FJ (u:=u) d0 ht (ahu _ _) (by lia));have e4:=(hW t (aag ht)).1;have et:oE t none (some (u.length:Int))=u:=by
    rw[zg];exact eE ((bR t _).trans hb)
   refine(_,rfl,_,rfl,u,rfl,by rw[sizeLine_eq];lia,_,rfl,t,rfl,?_,_,rfl,rfl,_,rfl,qy ?_ ((_,rfl),rfl))
   ·rw[sizeLine_eq];lia
   ·exact congrArg V.str et
  ·rintro N m ⟨⟨k9,rfl⟩,rfl⟩;exact((_,_,_,rfl),Us,J.le (by lia))
 ·rintro N m ⟨⟨k7,k8,k9,rfl⟩,Z,d⟩;obtain⟨sd,ed⟩:=Jb hW;have a2:=d.wr.len;rw[ah2]at a2;have X1:=X0.did d (by lia);refine(_,rfl,_,rfl,.inr (_,_,.lst (My.of (kp d a0 c3)) (ph p.ws),.lst (My.of X1.wo) (ph p.ws),sd,sd,?_));rw[ed];obtain⟨t2,e2,_,d5⟩:=d.wr;rw[ahB]at e2;subst e2;exact(true,rfl,il (_,rfl,_,rfl,b0,_,rfl,.inl (My.of (kp d xb c5)),g,_,_,rfl,My.of d.seen,d5,q m))
theorem J4{s :Addr}(c:My K H s (d.map V.int))(b:d.length<=63)(h:H f=some (.Uq #[]))(g:H C=some (.Uq #[]))(e:H S=some (.Uq #[])):afQ K f C S [.ref s] H (λv _=>v=.bl true) λ_ _ _=>False:=
 (s,d,rfl,c,b,tab0 h,tab0 g,tab0 e,λ_=>rfl)
end
theorem QT{l:PySem.W.OpenLaw}{w:World}{mg:Str->Option Value}{f5 f6 f7 f8 f9 r6 a4 r5 r4 r3 r2 r1 r0 q7 q6 q5 q4 q3 q2 q1 q0 p9 p5 p4 p3 p2 p1 p0 o3 o2 o1 o0 a3 n9 n7 n5 n4 n3 n2 n1 n0 m4 m3 m2 m1 m0 l9 l8 l7 l6 l5 l4 l3 l2 l1 l0 k9 k8 k7 k6 k5 k4 k3 k2 k1 k0 j3 j2 j1 i9 i8 i7 i6 i5 i4 i3 i2 i1 i0 h9 h8 h7 h6 h5 a2 h4 h3:Addr}{e0 e1 e2 e3 e4 e5 e6 e7 e8 e9 B1 B0 A9 A8 A7 A6 A5 A4 A3 A2 A1 A0 z5 z4 z3 z2 z1 z0 y9 y8 y7 y6 y5 y4 y3 y2 y1 y0 x9 x8 x7 x6 x5 x4 x3 x2 x1 x0 w9 w8 w7 w4 w3 w2 w1 w0 v3 v2 v1 v0 u8 u7 u4 u3 u2 u1 t9 t8 t7 t6 t5 t4 t3 t2 t1 t0 s9 s8 s7 s6 s5 s4 s3 s2 s1 s0 r9 r8 r7:FuncData}{c3 g8 c2 g7 c1 g6:Option Addr}{b5 b4 b3:Array (Option Value)}{c9 g2 c0 g5 c5 c8 g1 b9 g4 c4 c7 g0 b6 g3:Value}{o P p k n j m:Tok}{Q:Addr}{Ww Uv Wx Ut Wy VF:Addr}{x y L:Value}{A B M:Option Addr}{b i:Array Value}{t u J:Array (Option Value)}{mb:Str->Option Value}{c6:ExcName->Option Value}(X:K.In h')(TT:PyProof.Rows.Top prog N c6 mg mb h')(h2:mg "law" = some (.ref f))
  (d0:FI K "packed" vC C e0)
  (d1:FI K "check_row" nQ S e1)
  (d2:FI K "block_of" o5 c e2)
  (d3:FI K "bit_in" ww dx e3)
  (d4:FI K "bits_of" sW Pt e4)
  (d5:FI K "ones_in" rR f5 e5)
  (d6:FI K "one_in" vJ f6 e6)
  (d7:FI K "nets_of" qU f7 e7)
  (d8:FI K "low_in" vZ f8 e8)
  (d9:FI K "first_low_in" iK f9 e9)
  (L5:FI K "last_low_in" jP r6 B1)
  (a9:PySem.W.nsIn K mainGlobals "look_from" = some (some (.ref a4)))(a7:K.lookup a4=some (r,c3,.func (PySem.W.fnOf "look_from" "look_from" (ν cC) (μ cC) (δ cC) .none c9 g2 c0 g8 (.ref Ww) g5),b5))(L8:PySem.W.codeIn K (.ref Ww) "look_from" = true)(h1:PySem.W.keepIn K (.ref a4)=true)
  (T2:K.lookup Ww=some (x,A,.fields D,t))(T1:D[11]?=some (.ref Uv))(Ye:∃d,(PyProof.Rows.recsOf prog).find? (λe=>e.name == ("look_from" : Str))=some d)
  (L4:FI K "heap_of" qM r5 B0)
  (L3:FI K "size_of" rW r4 A9)
  (L2:FI K "lesser_of" mL r3 A8)
  (L1:FI K "first_at_most" gG r2 A7)
  (L0:FI K "last_at_most" jj r1 A6)
  (K2:FI K "place_beneath" gK r0 A5)
  (K0:FI K "check_stretch" gH q7 A4)
  (I9:FI K "cover" Ba q6 A3)
  (I8:FI K "kept_row" o9 q5 A2)
  (I7:FI K "ahead_of" pC q4 A1)
  (I6:FI K "check_place" jU q3 A0)
  (I5:FI K "bit_at" wN q2 z5)
  (I4:FI K "ones_at" rP q1 z4)
  (I3:FI K "noughts_at" lA q0 z3)
  (I2:FI K "one_place" mJ p9 z2)
  (I1:FI K "check_nth" m9 p5 z1)
  (I0:FI K "last_no_greater" fj p4 z0)
  (H9:FI K "is_tree" rF p3 y9)
  (H8:FI K "check_brackets" gh p2 y8)
  (H7:FI K "kept_brackets" gQ p1 y7)
  (H6:FI K "low_of" wI p0 y6)
  (H5:FI K "base_of" qZ o3 y5)
  (H4:FI K "start_within" iJ o2 y4)
  (H3:FI K "end_within" lO o1 y3)
  (H2:FI K "block_count" jT o0 y2)
  (a8:PySem.W.nsIn K mainGlobals "heap_look" = some (some (.ref a3)))(a6:K.lookup a3=some (c5,c2,.func (PySem.W.fnOf "heap_look" "heap_look" (ν cz) (μ cz) (δ cz) .none c8 g1 b9 g7 (.ref Wx) g4),b4))(L7:PySem.W.codeIn K (.ref Wx) "heap_look" = true)(h0:PySem.W.keepIn K (.ref a3)=true)
  (T0:K.lookup Wx=some (y,B,.fields b,u))(S4:b[11]?=some (.ref Ut))(Yg:∃d,(PyProof.Rows.recsOf prog).find? (λe=>e.name == ("heap_look" : Str))=some d)
  (H1:FI K "height" wD n9 y1)
  (H0:FI K "low_behind" kI n7 y0)
  (G2:FI K "first_within" iW n5 x9)
  (G1:FI K "place_of_bit" iV n4 x8)
  (G0:FI K "low_ahead" mq n3 x7)
  (F9:FI K "last_low_upto" gO n2 x6)
  (F8:FI K "last_within" jz n1 x5)
  (F7:FI K "check_bracket" gR n0 x4)
  (F6:FI K "closing" qH m4 x3)
  (F5:FI K "opening" qY m3 x2)
  (F4:FI K "check_depths" jd m2 x1)
  (F3:FI K "brackets_of" jJ m1 x0)
  (F2:FI K "kept_tree" m8 m0 w9)
  (F1:FI K "check_signs" jO l9 w8)
  (F0:FI K "kept_signs" lQ l8 w7)
  (E9:FI K "ranks_among" jB l7 w4)
  (E8:FI K "level_count" jM l6 w3)
  (E7:FI K "level_rows" lN l5 w2)
  (E6:FI K "parted" wj l4 w1)
  (E5:FI K "levels_of" nC l3 w0)
  (E4:FI K "place_below" jL l2 v3)
  (E3:FI K "nought_count" jc l1 v2)
  (E2:FI K "sign_at" sU l0 v1)
  (E1:FI K "node_count" lL k9 v0)
  (D9:FI K "check_node" lK k8 u8)
  (D8:FI K "node_at" rA k7 u7)
  (D7:FI K "place_of" oW k6 u4)
  (D6:FI K "first_of" oR k5 u3)
  (D5:FI K "younger_of" kO k4 u2)
  (D4:FI K "beneath_of" lH k3 u1)
  (D3:FI K "check_words" jR k2 t9)
  (D2:FI K "beginnings_of" gU k1 t8)
  (D1:FI K "parts_of" pA k0 t7)
  (D0:FI K "kept_store" lD j3 t6)
  (C9:FI K "blocks_of_tree" gb j2 t5)
  (C8:FI K "blocks_of_letters" dO j1 t4)
  (C7:FI K "letter_of" mQ i9 t3)
  (C6:FI K "look_at_ends" jh i8 t2)
  (C5:FI K "words_to" oY i7 t1)
  (C4:FI K "young_from" lE i6 t0)
  (C3:FI K "line_of" rB i5 s9)
  (C2:FI K "node_of" qN i4 s8)
  (C1:FI K "node_behind" jD i3 s7)
  (C0:FI K "first_not_ahead" fu i2 s6)
  (B9:FI K "words_ahead" jN i1 s5)
  (B8:FI K "stretch_of" j9 i0 s4)
  (B7:FI K "_law_whole" mC h9 s3)
  (B6:FI K "_law_spelt" mU h8 s2)
  (B5:FI K "_law_word" o6 h7 s1)
  (B4:FI K "_law_words" m7 h6 s0)
  (B3:FI K "_law_text" oK h5 r9)
  (Ze:PySem.W.nsIn K mainGlobals "_law_look" = some (some (.ref a2)))(Zf:K.lookup a2=some (c4,c1,.func (PySem.W.fnOf "_law_look" "_law_look" (ν cO) (μ cO) (δ cO) .none c7 g0 b6 g6 (.ref Wy) g3),b3))(L6:PySem.W.codeIn K (.ref Wy) "_law_look" = true)(g9:PySem.W.keepIn K (.ref a2)=true)
  (P6:K.lookup Wy=some (L,M,.fields i,J))(P5:i[11]?=some (.ref VF))(Yh:∃d,(PyProof.Rows.recsOf prog).find? (λe=>e.name == ("_law_look" : Str))=some d)
  (B2:FI K "_law_there" m5 h4 r8)
  (a5:FI K "law" MJ h3 r7)
  (M5:PySem.W.nsIn K mainGlobals "bool" = some none)
  (P4:PySem.W.nsIn K mainGlobals "enumerate" = some none)
  (M3:PySem.W.nsIn K mainGlobals "int" = some none)
  (S3:PySem.W.nsIn K mainGlobals "isinstance" = some none)
  (M2:PySem.W.nsIn K mainGlobals "len" = some none)
  (M4:PySem.W.nsIn K mainGlobals "list" = some none)
  (N4:PySem.W.nsIn K mainGlobals "max" = some none)
  (N3:PySem.W.nsIn K mainGlobals "min" = some none)
  (M0:PySem.W.nsIn K mainGlobals "range" = some none)
  (Q2:PySem.W.nsIn K mainGlobals "reversed" = some none)
  (N2:PySem.W.nsIn K mainGlobals "set" = some none)
  (P2:PySem.W.nsIn K mainGlobals "sorted" = some none)
  (N1:PySem.W.nsIn K mainGlobals "sum" = some none)
  (L9:PySem.W.nsIn K mainGlobals "tuple" = some none)
  (N0:PySem.W.nsIn K mainGlobals "zip" = some none)
  (U5:PySem.W.nsIn K mainGlobals "BLOCK_BITS" = some (some (.int 32 o)))
  (P1:PySem.W.nsIn K mainGlobals "LETTERS" = some (some (.str "abcdefghijklmnopqrstuvwxyz" P)))
  (P3:PySem.W.nsIn K mainGlobals "MOST_BITS" = some (some (.int 4096 p)))
  (V3:PySem.W.nsIn K mainGlobals "MOST_LETTERS" = some (some (.int 40 k)))
  (U2:PySem.W.nsIn K mainGlobals "MOST_NODES" = some (some (.int 2048 n)))
  (V2:PySem.W.nsIn K mainGlobals "MOST_NUMBERS" = some (some (.int 4096 j)))
  (U1:PySem.W.nsIn K mainGlobals "MOST_SIGNS" = some (some (.int 4096 m)))
  (Zg:PySem.W.nsIn K mainGlobals "NoNode" = some (some (.ref Q)))
  (O0:PySem.W.excIn K Q Yr "ValueError.__new__" = true)
  (N9:PySem.W.hasDictIn K Q=true)
  (Q1:PySem.W.findIn K (.ref Q) "__getattribute__" = some (some (.builtin "BaseException.__getattribute__")))
  (P9:PySem.W.findIn K (.ref Q) "__getattr__" = some none)
  (P8:PySem.W.findIn K (.ref Q) "__class__" = some (some (.builtin "object.__class__")))
  (P7:PySem.W.specialIn K (.builtin "object.__class__") "__get__" = some (some (.builtin "getset_descriptor.__get__")))
  (S2:PySem.W.takesIn K (.builtin "object.__class__")=some true)
  (S1:PySem.W.mroIn K Q (.type "object")=some true)
  (S0:PySem.W.mroIn K Q (.type "BaseException")=some true)
  (Y0:PySem.W.kitOne K (.ref Q) (.ref Q)=some true)
  (Y4:PySem.W.kitOne K (.ref Q) (.type "ValueError")=some true)
  (nt:PySem.W.noTabs K=true)
  (V1:Uv≠Ut)
  (V0:Uv≠VF)
  (U8:Ut≠VF):
  ∃(fd:FuncData) (U:List (Addr×Addr)) (sp:Sp),(∀(s:Shared) (v:Value),BindsTo s fd ([v],[]) [(pq ("_law_script") v)])/\PySem.W.TabsAt U h'/\PySem.W.noTabs K=true/\(∀base:Heap,K.In base->base.Ns mainGlobals mg->BMain mg base->(∀q∈U,PySem.W.CodeHd base q.1 q.2)->aV l.prog w K mg base Ui 16 f fd ["_law_script"] sp) /\
   ∀(H:Hp) (a:Addr) (ns:List Int),ns.length<=63->My K H a (ns.map V.int)->(∀q∈U,H q.2=some (.Uq #[]))->sp [.ref a] H (λv _=>v=.bl true) λ_ _ _=>False:=by
 have G:=TT.g;have e:=h2.symm.trans (PySem.W.mg_of X G a5.a);cases e;obtain⟨_,_,_,_,_,_,_,_,_,rfl,_,_⟩:=a5.F.ex;have b2:=z7 (st:=cC) a7 L8 h1
 have V6:Df K mg "look_from" cC ["look","first"] _ _:=(b2,b2.binds (ps:=["look","first"]) λ_ _ _ _ _ _ R hl=>KH (C:=λR=>bindArgs _ (R,[])=pure (ahw (["look","first"]:List Str) R)) hl (λ_ _=>rfl),PySem.W.mg_of X G a9)
 have b1:=z7 (st:=cz) a6 L7 h0
 have V5:Df K mg "heap_look" cz ["tables"] _ _:=(b1,b1.binds (ps:=["tables"]) λ_ _ _ _ _ _ R hl=>Qm (C:=λR=>bindArgs _ (R,[])=pure (ahw (["tables"]:List Str) R)) hl (λ_=>rfl),PySem.W.mg_of X G a8)
 have b0:=z7 (st:=cO) Zf L6 g9
 have V4:Df K mg "_law_look" cO ["_law_blocks","_law_seen"] _ _:=(b0,b0.binds (ps:=["_law_blocks","_law_seen"]) λ_ _ _ _ _ _ R hl=>KH (C:=λR=>bindArgs _ (R,[])=pure (ahw (["_law_blocks","_law_seen"]:List Str) R)) hl (λ_ _=>rfl),PySem.W.mg_of X G Ze)
 have T:Tx K mg (Ww,Uv,Wx,Ut,Wy,VF,_,_,_,_,_,_,_,_,_,_,_,_,_,_,_,_,_,_,_,_,_,_,_,_,_,_,_,_,_,_,_,_,_,_,_,_,_,_,_,_,_,_,_,_,_,_,_,_,_,_,_,_,_,_,_,_,_,_,_,_,_,_,_,_,_,_,_,_,_,_,_,_,_,_,_,_,_,_,_,_,_,_,_,_,_,_,_,_,_,_,_,_,_,_,_,_,_,_,_,_,_,_,_,_,_,_,_,_,_,_,_,_,_,_,_,_,_,_,_,_,_,_,_,_,_,_,_,_,_,_,_,_,_,_,_,_,_,_,_,_,_,_,_,_,_,_,_,_,_,_,_,_,_,_,_,_,_,_,_,_,_,_,_,_,_,_,_,_,_,_,_,_,_,_,_,_,_,_,_,_,_,_,_,_,_,_,_,_,_,_,_,Q):=(UW X G d0,UW X G d1,UW X G d2,U6 X G d3,U6 X G d4,U6 X G d5,U6 X G d6,U6 X G d7,U6 X G d8,Wb X G d9,Wb X G L5,V6,UW X G L4,UW X G L3,U6 X G L2,Wb X G L1,Wb X G L0,ZP X G K2,U3 X G K0,U3 X G I9,UW X G I8,UW X G I7,U6 X G I6,U3 X G I5,U3 X G I4,U3 X G I3,U3 X G I2,U6 X G I1,U6 X G I0,UW X G H9,UW X G H8,UW X G H7,U3 X G H6,U6 X G H5,U6 X G H4,U6 X G H3,UW X G H2,V5,U3 X G H1,Wb X G H0,ZP X G G2,U6 X G G1,Wb X G G0,Wb X G F9,ZP X G F8,Wb X G F7,U3 X G F6,U3 X G F5,UW X G F4,UW X G F3,UW X G F2,UW X G F1,UW X G F0,U6 X G E9,UW X G E8,U6 X G E7,U6 X G E6,U6 X G E5,U3 X G E4,UW X G E3,U3 X G E2,UW X G E1,U6 X G D9,U3 X G D8,U3 X G D7,U3 X G D6,U3 X G D5,U3 X G D4,UW X G D3,UW X G D2,UW X G D1,UW X G D0,UW X G C9,UW X G C8,U3 X G C7,U6 X G C6,U3 X G C5,Wb X G C4,U3 X G C3,U3 X G C2,U3 X G C1,U3 X G C0,U3 X G B9,U3 X G B8,UW X G B7,Wb X G B6,U6 X G B5,UW X G B4,U6 X G B3,V4,U6 X G B2,UW X G a5,PySem.W.mg_none_of X G M5,PySem.W.mg_none_of X G P4,PySem.W.mg_none_of X G M3,PySem.W.mg_none_of X G S3,PySem.W.mg_none_of X G M2,PySem.W.mg_none_of X G M4,PySem.W.mg_none_of X G N4,PySem.W.mg_none_of X G N3,PySem.W.mg_none_of X G M0,PySem.W.mg_none_of X G Q2,PySem.W.mg_none_of X G N2,PySem.W.mg_none_of X G P2,PySem.W.mg_none_of X G N1,PySem.W.mg_none_of X G L9,PySem.W.mg_none_of X G N0,PySem.W.mg_of X G U5,PySem.W.mg_of X G P1,PySem.W.mg_of X G P3,PySem.W.mg_of X G V3,PySem.W.mg_of X G U2,PySem.W.mg_of X G V2,PySem.W.mg_of X G U1,PySem.W.mg_of X G Zg,(PySem.W.mg_of X G Zg,O0),(N9,Q1,P9,P8,P7,S2,S1,S0),Y0,Y4,rfl,rfl,rfl);obtain⟨Y,Ye⟩:=Ye;have E:=PySem.W.tab_of TT X Ye (vo a9 a7 rfl T2 T1);obtain⟨Z,Yg⟩:=Yg;have I:=PySem.W.tab_of TT X Yg (vo a8 a6 rfl T0 S4);obtain⟨a0,Yh⟩:=Yh;have O:=PySem.W.tab_of TT X Yh (vo Ze Zf rfl P6 P5);exact(_,[(pq Ww Uv),(pq Wx Ut),(pq Wy VF)],afQ K Uv Ut VF,λs v=>.of_eq rfl,ahW.mpr (E,ahW.mpr (I,ahW.mpr (O,λ_ z=>nomatch z))),nt,λbase _ _ bm hc=>QW T (bm,hc _ (.head _),hc _ (.tail _ (.head _)),hc _ (.tail _ (.tail _ (.head _))),V1,V0,U8),λH a ns hl hS a1=>J4 hS hl (a1 _ (.head _)) (a1 _ (.tail _ (.head _))) (a1 _ (.tail _ (.tail _ (.head _)))))
end Tw
end
namespace Tp
open PySem
noncomputable section
abbrev O:=Params→Obj
def sq (l:List Str):Nat→List Value:=@List.rec Str (λ_=>Nat→List Value) (λ_=>[]) (λs _ ih t=>Value.str s t::ih (Nat.add t 1)) l
def ap {α:Type} (a b:List α):List α:=@List.rec α (λ_=>List α) b (λx _ r=>x::r) a
def tk {α:Type} (l:List α):Nat→List α:=@List.rec α (λ_=>Nat→List α) (λ_=>[]) (λx _ ih n=>@Nat.rec (λ_=>List α) [] (λm _=>x::ih m) n) l
def mp {α β:Type} (f:α→β) (l:List α):List β:=@List.rec α (λ_=>List β) [] (λx _ r=>f x::r) l
def ov (l:List O):List (Nat×O)→List O:=@List.rec O (λ_=>List (Nat×O)→List O) (λ_=>[]) (λx _ ih ex=>@List.rec (Nat×O) (λ_=>List O) (x::ih []) (λe r _=>@Nat.rec (λ_=>List O) (e.2::ih r) (λg _=>x::ih ((g,e.2)::r)) e.1) ex) l
def ev (l:List Obj):Bool→List Obj:=@List.rec Obj (λ_=>Bool→List Obj) (λ_=>[]) (λx _ ih b=>@Bool.rec (λ_=>List Obj) (ih true) (x::ih false) b) l
def bt (n:Nat):List Obj→PySem.W.BT:=@Nat.rec (λ_=>List Obj→PySem.W.BT) (λ_=>.nil) (λ_ ih l=>@List.rec Obj (λ_=>PySem.W.BT) .nil (λx xs _=>.node x (ih (ev xs true)) (ih (ev xs false))) l) n
def Z (s:Str) (t:Nat) (v:Value) (P:Params):DictEntry:=.mk (PyData.keyHash P s) (.str s t) v
def E (s:Str) (t r:Nat) (P:Params):DictEntry:=.mk (PyData.keyHash P s) (.str s t) (.ref r)
def gd (l:List (Params→DictEntry)) (n:Nat) (P:Params):Obj:=.mk (.type "dict") none (.dict (mp (λe=>e P) l).toArray n) #[]
def tb (l:List (Nat×Nat)) (P:Params):Obj:=.mk .none none (.fields (@List.rec (Nat×Nat) (λ_=>List Value) [] (λx _ r=>.int (Int.ofNat x.1) 0::.int 0 0::.ref x.2::r) l).toArray) #[]
def h0 (x0:Nat) (x1:Nat) (x2:Nat) (x3:Str):List O:=[λP=>(.mk (.type "tuple") none (.seq #[(.ref 24)] 0) #[]),λP=>(.mk (.type "builtin_function_or_method") none (.fields #[(.builtin "type.__prepare__"),(.type "type")]) #[]),λP=>(.mk (.type "dict") none (.dict #[(.mk (PyData.keyHash P "__module__") (.str "__module__" (Nat.add x0 7)) (.str "thinwood.errors" 187)),(.mk (PyData.keyHash P "__qualname__") (.str "__qualname__" (Nat.add x0 9)) (.str x3 (Nat.add x0 8))),(.mk (PyData.keyHash P "__firstlineno__") (.str "__firstlineno__" (Nat.add x0 11)) (.int (Int.ofNat x1) (Nat.add x0 10))),(.mk (PyData.keyHash P "__static_attributes__") (.str "__static_attributes__" (Nat.add x0 12)) (.ref (Nat.add x2 7)))] 4) #[]),λP=>(.mk (.type "tuple") none (.seq #[] 0) #[]),λP=>(.mk .none none (.fields #[]) #[]),λP=>(.mk (.type "code") none (.fields #[(.str x3 (Nat.add x0 2)),(.str x3 (Nat.add x0 3)),(.str "/claim/cut.py" (Nat.add x0 4)),(.int (Int.ofNat x1) 0),(.int 0 0),(.int 0 0),(.int 0 0),(.int 0 0),(.ref (Nat.add x2 3)),(.bool .false),(.int 181 0),(.ref (Nat.add x2 4)),.none,.none,.none,.none,(.int (Int.ofNat (Nat.add x0 5)) 0),(.int (Int.ofNat x1) 0),(.str "/claim/cut.py" (Nat.add x0 6))]) #[]),λP=>(.mk (.type "frame") none .plain #[(some (.ref (Nat.add x2 5))),(some (.ref 3)),(some (.ref (Nat.add x2 2))),none,(some (.str "thinwood.errors" 187)),none,(some (.ref 0))]),λP=>(.mk (.type "tuple") none (.seq #[] 0) #[]),λP=>(.mk (.type "dict") none (.dict #[(.mk (PyData.keyHash P "__module__") (.str "__module__" (Nat.add x0 7)) (.str "thinwood.errors" 187)),(.mk (PyData.keyHash P "__firstlineno__") (.str "__firstlineno__" (Nat.add x0 11)) (.int (Int.ofNat x1) (Nat.add x0 10))),(.mk (PyData.keyHash P "__static_attributes__") (.str "__static_attributes__" (Nat.add x0 12)) (.ref (Nat.add x2 7))),(.mk (PyData.keyHash P "__doc__") (.str "__doc__" (Nat.add x0 13)) .none)] 2) #[]),λP=>(.mk (.type "type") none (.cls (.mk x3 [(.ref 24)] [(.ref (Nat.add x2 9)),(.ref 24),(.type "ValueError"),(.type "Exception"),(.type "BaseException"),(.type "object")] (Nat.add x2 8) x3 .true [] [] .false none .false)) #[(some (.ref x2)),none,(some (.str x3 x0)),(some (.str x3 (Nat.add x0 8))),(some (.builtin "ValueError.__new__")),(some (.bool .true))]),λP=>(.mk (.type "super") none (.fields #[(.ref (Nat.add x2 9)),(.ref (Nat.add x2 9)),(.ref (Nat.add x2 9))]) #[]),λP=>(.mk (.type "builtin_function_or_method") none (.fields #[(.builtin "object.__init_subclass__"),(.ref (Nat.add x2 9))]) #[])]
def h1 (x0:Nat) (x1:Nat) (x2:Nat) (x3:Nat) (x4:Nat) (x5:Nat) (x6:Str) (x7:Str):List O:=[λP=>(.mk (.type "tuple") none (.seq #[] 0) #[]),λP=>(.mk .none none (.fields #[]) #[]),λP=>(.mk .none none (.func (FuncData.mk x6 x6 (L2.ν (Tw.top x0)) (FuncBody.stmts (L2.μ (Tw.top x0))) (L2.δ (Tw.top x0)) 0 [] .none .none .none .none none .none .none 0)) #[]),λP=>(.mk (.type "code") none (.fields #[(.str x6 x1),(.str x6 (Nat.add x1 1)),(.str "/claim/cut.py" (Nat.add x1 2)),(.int (Int.ofNat x2) 0),(.int (Int.ofNat x3) 0),(.int 0 0),(.int 0 0),(.int 3 0),(.ref x4),(.bool .true),(.int 181 0),(.ref (Nat.add x4 1)),.none,.none,.none,(.ref (Nat.add x4 2)),(.int (Int.ofNat (Nat.add x1 3)) 0),(.int (Int.ofNat x2) 0),(.str "/claim/cut.py" (Nat.add x1 4))]) #[]),λP=>(.mk (.type "function") none (.func (FuncData.mk x6 x6 (L2.ν (Tw.top x0)) (FuncBody.stmts (L2.μ (Tw.top x0))) (L2.δ (Tw.top x0)) 3 [] .none .none .none (.str x7 x5) none (.ref (Nat.add x4 3)) .none 0)) #[])]
def h2 (x0:Nat) (x1:Nat) (x2:Nat) (x3:Nat) (x4:Nat) (x5:Nat) (x6:Nat) (x7:List Str) (x8:Str) (x9:Str):List O:=[λP=>(.mk (.type "tuple") none (.seq #[] 0) #[]),λP=>(.mk .none none (.fields #[]) #[]),λP=>(.mk (.type "tuple") none (.seq (sq x7 (Nat.add x0 3)).toArray 0) #[]),λP=>(.mk (.type "tuple") none (.seq #[] 0) #[]),λP=>(.mk .none none (.func (FuncData.mk x8 x8 (L2.ν (Tw.top x1)) (FuncBody.stmts (L2.μ (Tw.top x1))) (L2.δ (Tw.top x1)) 0 [] .none .none .none .none none .none .none 0)) #[]),λP=>(.mk (.type "code") none (.fields #[(.str x8 x0),(.str x8 (Nat.add x0 1)),(.str "/claim/cut.py" (Nat.add x0 2)),(.int (Int.ofNat x2) 0),(.int (Int.ofNat x3) 0),(.int 0 0),(.int 0 0),(.int 3 0),(.ref x4),(.bool .true),(.int 181 0),(.ref (Nat.add x4 1)),.none,(.ref (Nat.add x4 2)),(.ref (Nat.add x4 3)),(.ref (Nat.add x4 4)),(.int (Int.ofNat x5) 0),(.int (Int.ofNat x2) 0),(.str "/claim/cut.py" (Nat.add x5 1))]) #[]),λP=>(.mk (.type "function") none (.func (FuncData.mk x8 x8 (L2.ν (Tw.top x1)) (FuncBody.stmts (L2.μ (Tw.top x1))) (L2.δ (Tw.top x1)) 3 [] .none .none .none (.str x9 x6) none (.ref (Nat.add x4 5)) .none 0)) #[])]
def g0:List (Params→DictEntry):=[Z "__doc__" 166 .none,Z "__package__" 167 .none,Z "__loader__" 168 (.builtin "__main__.__loader__#opaque"),Z "__spec__" 169 .none,E "__annotations__" 170 6,E "__builtins__" 171 4,Z "__file__" 173 (.str "/claim/cut.py" 172),Z "__cached__" 174 .none,E "WoodError" 206 24,E "TooMany" 222 37]
def g1:List (Params→DictEntry):=[E "NoBit" 238 49,E "NoPlace" 254 61,E "NoNode" 270 73,E "NoTree" 286 85,E "NoSign" 302 97,E "NoWord" 318 109,E "Twice" 334 121,Z "BLOCK_BITS" 338 (.int 32 337),Z "MOST_BITS" 340 (.int 4096 339),E "packed" 346 128]
def g2:List (Params→DictEntry):=[E "check_row" 354 135,E "block_of" 363 142,E "bit_in" 371 149,E "bits_of" 377 154,E "ones_in" 385 161,E "one_in" 396 168,E "nets_of" 407 175,E "low_in" 415 182,E "first_low_in" 427 189,E "last_low_in" 440 196]
def g3:List (Params→DictEntry):=[E "look_from" 450 203,Z "MOST_NUMBERS" 454 (.int 4096 453),E "heap_of" 464 210,E "size_of" 472 217,E "lesser_of" 480 224,E "first_at_most" 491 231,E "last_at_most" 502 238,E "place_beneath" 514 245,E "check_stretch" 523 252,E "cover" 537 259]
def g4:List (Params→DictEntry):=[E "kept_row" 547 266,E "ahead_of" 556 273,E "check_place" 564 280,E "bit_at" 573 287,E "ones_at" 586 294,E "noughts_at" 595 301,E "one_place" 606 308,E "check_nth" 614 315,E "last_no_greater" 625 322,E "is_tree" 637 329]
def g5:List (Params→DictEntry):=[E "check_brackets" 644 336,E "kept_brackets" 650 341,E "low_of" 659 348,E "base_of" 667 355,E "start_within" 675 362,E "end_within" 683 369,E "block_count" 690 376,E "heap_look" 698 383,E "height" 707 390,E "low_behind" 720 397]
def g6:List (Params→DictEntry):=[E "first_within" 733 404,E "place_of_bit" 741 411,E "low_ahead" 752 418,E "last_low_upto" 765 425,E "last_within" 777 432,E "check_bracket" 787 439,E "closing" 796 446,E "opening" 805 453,Z "MOST_NODES" 809 (.int 2048 808),E "check_depths" 818 460]
def g7:List (Params→DictEntry):=[E "brackets_of" 828 467,E "kept_tree" 835 474,Z "MOST_SIGNS" 839 (.int 4096 838),E "check_signs" 847 481,E "kept_signs" 859 488,E "ranks_among" 865 493,E "level_count" 872 500,E "level_rows" 878 505,E "parted" 884 510,E "levels_of" 895 517]
def g8:List (Params→DictEntry):=[E "place_below" 906 524,E "nought_count" 913 531,E "sign_at" 926 538,E "node_count" 935 545,E "check_node" 943 552,E "node_at" 952 559,E "place_of" 961 566,E "first_of" 971 573,E "younger_of" 981 580,E "beneath_of" 991 587]
def g9:List (Params→DictEntry):=[Z "LETTERS" 995 (.str "abcdefghijklmnopqrstuvwxyz" 994),Z "MOST_LETTERS" 997 (.int 40 996),E "check_words" 1006 594,E "beginnings_of" 1012 599,E "parts_of" 1018 604,E "kept_store" 1029 611,E "blocks_of_tree" 1036 618,E "blocks_of_letters" 1042 623,E "letter_of" 1051 630,E "look_at_ends" 1059 637]
def g10:List (Params→DictEntry):=[E "words_to" 1068 644,E "young_from" 1079 651,E "line_of" 1091 658,E "node_of" 1101 665,E "node_behind" 1110 672,E "first_not_ahead" 1122 679,E "words_ahead" 1131 686,E "stretch_of" 1142 693,E "_law_whole" 1151 700,E "_law_spelt" 1164 707]
def g11:List (Params→DictEntry):=[E "_law_word" 1175 714,E "_law_words" 1186 721,E "_law_text" 1198 728,E "_law_look" 1209 735,E "_law_there" 1218 742,E "law" 1224 747]
def gg:List (Params→DictEntry):=ap g0 (ap g1 (ap g2 (ap g3 (ap g4 (ap g5 (ap g6 (ap g7 (ap g8 (ap g9 (ap g10 (g11)))))))))))
def tt:List (Nat×Nat):=[(2,20),(4,33),(6,45),(8,57),(10,69),(12,81),(14,93),(16,105),(18,117),(23,127),(26,134),(32,141),(37,148),(39,153),(41,160),(43,167),(50,174),(57,181),(59,188),(64,195),(70,202),(74,209),(82,216),(87,223),(93,230),(98,237),(103,244),(110,251),(113,258),(131,265),(134,272),(139,279),(142,286),(145,293),(154,300),(156,307),(161,314),(164,321),(175,328),(182,335),(186,340),(193,347),(195,354),(197,361),(199,368),(201,375),(203,382),(206,389),(208,396),(220,403),(224,410),(228,417),(234,424),(245,431),(248,438),(251,445),(254,452),(259,459),(267,466),(276,473),(280,480),(286,487),(296,492),(301,499),(303,504),(311,509),(315,516),(322,523),(328,530),(330,537),(340,544),(342,551),(345,558),(349,565),(352,572),(357,579),(362,586),(368,593),(377,598),(382,603),(392,610),(398,617),(400,622),(402,629),(404,636),(406,643),(408,650),(413,657),(421,664),(426,671),(428,678),(437,685),(439,692),(446,699),(448,706),(455,713),(468,720),(477,727),(491,734),(499,741),(504,746)]
def s0:O:=gd (Z "__name__" 165 (.str "law_thinwood_k76_by_beginnings" 1143)::tk gg 116) 117
def l0:O:=λP=>(.mk (.type "tuple") none (.seq #[] 0) #[])
def s1:O:=tb (tk tt 101)
def l1:O:=λP=>(.mk (.type "code") none (.fields #[(.str "<module>" 182),(.str "<module>" 183),(.str "/claim/cut.py" 184),(.int 1 0),(.int 0 0),(.int 0 0),(.int 0 0),(.int 0 0),(.ref 11),(.bool .false),(.int 181 0),(.ref 12),.none,.none,.none,.none,(.int 185 0),(.int 1 0),(.str "/claim/cut.py" 186)]) #[])
def l2:O:=λP=>(.mk (.type "frame") none .plain #[(some (.ref 13)),(some (.ref 3)),(some (.ref 3)),none,(some (.str "__main__" 164)),none,(some (.ref 0))])
def l3:O:=λP=>(.mk (.type "tuple") none (.seq #[(.type "ValueError")] 0) #[])
def l4:O:=λP=>(.mk (.type "builtin_function_or_method") none (.fields #[(.builtin "type.__prepare__"),(.type "type")]) #[])
def l5:O:=λP=>(.mk (.type "dict") none (.dict #[(.mk (PyData.keyHash P "__module__") (.str "__module__" 196) (.str "thinwood.errors" 187)),(.mk (PyData.keyHash P "__qualname__") (.str "__qualname__" 198) (.str "WoodError" 197)),(.mk (PyData.keyHash P "__firstlineno__") (.str "__firstlineno__" 200) (.int 2 199)),(.mk (PyData.keyHash P "__static_attributes__") (.str "__static_attributes__" 201) (.ref 22))] 4) #[])
def l6:O:=λP=>(.mk .none none (.fields #[]) #[])
def l7:O:=λP=>(.mk (.type "code") none (.fields #[(.str "WoodError" 191),(.str "WoodError" 192),(.str "/claim/cut.py" 193),(.int 2 0),(.int 0 0),(.int 0 0),(.int 0 0),(.int 0 0),(.ref 18),(.bool .false),(.int 181 0),(.ref 19),.none,.none,.none,.none,(.int 194 0),(.int 2 0),(.str "/claim/cut.py" 195)]) #[])
def l8:O:=λP=>(.mk (.type "frame") none .plain #[(some (.ref 20)),(some (.ref 3)),(some (.ref 17)),none,(some (.str "thinwood.errors" 187)),none,(some (.ref 0))])
def l9:O:=λP=>(.mk (.type "dict") none (.dict #[(.mk (PyData.keyHash P "__module__") (.str "__module__" 196) (.str "thinwood.errors" 187)),(.mk (PyData.keyHash P "__firstlineno__") (.str "__firstlineno__" 200) (.int 2 199)),(.mk (PyData.keyHash P "__static_attributes__") (.str "__static_attributes__" 201) (.ref 22)),(.mk (PyData.keyHash P "__weakref__") (.str "__weakref__" 203) (.ref 25)),(.mk (PyData.keyHash P "__doc__") (.str "__doc__" 204) .none)] 3) #[])
def l10:O:=λP=>(.mk (.type "type") none (.cls (.mk "WoodError" [(.type "ValueError")] [(.ref 24),(.type "ValueError"),(.type "Exception"),(.type "BaseException"),(.type "object")] 23 "WoodError" .true [] [(.ref 37),(.ref 49),(.ref 61),(.ref 73),(.ref 85),(.ref 97),(.ref 109),(.ref 121)] .false none .false)) #[(some (.ref 15)),none,(some (.str "WoodError" 189)),(some (.str "WoodError" 197)),(some (.builtin "ValueError.__new__")),(some (.bool .true))])
def l11:O:=λP=>(.mk (.type "getset_descriptor") none (.fields #[(.str "__weakref__" 202),(.ref 24),(.builtin "ExceptionGroup.__weakref__"),.none]) #[])
def l12:O:=λP=>(.mk (.type "super") none (.fields #[(.ref 24),(.ref 24),(.ref 24)]) #[])
def l13:O:=λP=>(.mk (.type "builtin_function_or_method") none (.fields #[(.builtin "object.__init_subclass__"),(.ref 24)]) #[])
def d1:List O:=h0 207 4 28 "TooMany"
def d2:List O:=h0 223 6 40 "NoBit"
def d3:List O:=h0 239 8 52 "NoPlace"
def d4:List O:=h0 255 10 64 "NoNode"
def d5:List O:=h0 271 12 76 "NoTree"
def d6:List O:=h0 287 14 88 "NoSign"
def d7:List O:=h0 303 16 100 "NoWord"
def d8:List O:=h0 319 18 112 "Twice"
def d9:List O:=h1 13 341 23 1 124 335 "packed" "thinwood.blocks"
def d10:List O:=h2 347 14 26 1 129 352 335 ["bits","bit"] "check_row" "thinwood.blocks"
def d11:List O:=h2 355 15 32 1 136 361 335 ["bits","block","bit"] "block_of" "thinwood.blocks"
def d12:List O:=h2 364 16 37 2 143 369 335 ["block","k"] "bit_in" "thinwood.blocks"
def d13:List O:=h1 17 372 39 2 150 335 "bits_of" "thinwood.blocks"
def d14:List O:=h2 378 18 41 2 155 383 335 ["block","upto"] "ones_in" "thinwood.blocks"
def d15:List O:=h2 386 19 43 2 162 394 335 ["block","nth","ones","k","bit"] "one_in" "thinwood.blocks"
def d16:List O:=h2 397 20 50 2 169 405 335 ["block","upto","nets","net","bit"] "nets_of" "thinwood.blocks"
def d17:List O:=h2 408 21 57 2 176 413 335 ["block","upto"] "low_in" "thinwood.blocks"
def d18:List O:=h2 416 22 59 4 183 425 335 ["block","start","stop","goal","k","net"] "first_low_in" "thinwood.blocks"
def d19:List O:=h2 428 23 64 4 190 438 335 ["block","start","stop","goal","found","k","net"] "last_low_in" "thinwood.blocks"
def l14:O:=λP=>(.mk (.type "tuple") none (.seq #[(.str "look" 444),(.str "first" 445)] 0) #[])
def l15:O:=λP=>(.mk (.type "tuple") none (.seq #[(.str "look" 446),(.str "first" 447)] 0) #[])
def l16:O:=λP=>(.mk .none none (.func (FuncData.mk "look_from" "look_from" (L2.ν (Tw.top 24)) (FuncBody.stmts (L2.μ (Tw.top 24))) (L2.δ (Tw.top 24)) 0 [] .none .none .none .none none .none .none 0)) #[])
def l17:O:=λP=>(.mk (.type "code") none (.fields #[(.str "look_from" 441),(.str "look_from" 442),(.str "/claim/cut.py" 443),(.int 70 0),(.int 2 0),(.int 0 0),(.int 0 0),(.int 3 0),(.ref 197),(.bool .true),(.int 181 0),(.ref 198),.none,(.ref 199),(.ref 200),(.ref 201),(.int 448 0),(.int 70 0),(.str "/claim/cut.py" 449)]) #[])
def l18:O:=λP=>(.mk (.type "function") none (.func (FuncData.mk "look_from" "look_from" (L2.ν (Tw.top 24)) (FuncBody.stmts (L2.μ (Tw.top 24))) (L2.δ (Tw.top 24)) 3 [] .none .none .none (.str "thinwood.blocks" 335) none (.ref 202) .none 0)) #[])
def d21:List O:=h2 455 27 74 1 204 462 451 ["numbers","size","nodes","node"] "heap_of" "thinwood.heaps"
def d22:List O:=h2 465 28 82 1 211 470 451 ["many","size"] "size_of" "thinwood.heaps"
def d23:List O:=h2 473 29 87 2 218 478 451 ["one","other"] "lesser_of" "thinwood.heaps"
def d24:List O:=h2 481 30 93 4 225 489 451 ["many","look","start","goal","node"] "first_at_most" "thinwood.heaps"
def d25:List O:=h2 492 31 98 4 232 500 451 ["many","look","stop","goal","node"] "last_at_most" "thinwood.heaps"
def d26:List O:=h2 503 32 103 5 239 512 451 ["size","look","node","goal","side","found"] "place_beneath" "thinwood.heaps"
def d27:List O:=h2 515 33 110 3 246 521 451 ["many","start","stop"] "check_stretch" "thinwood.heaps"
def d28:List O:=h2 524 34 113 3 253 535 451 ["many","start","stop","size","low","high","lefts","rights"] "cover" "thinwood.heaps"
def d29:List O:=h2 540 36 131 1 260 545 538 ["bits","blocks"] "kept_row" "thinwood.rows"
def d30:List O:=h2 548 37 134 1 267 554 538 ["blocks","ahead","block"] "ahead_of" "thinwood.rows"
def d31:List O:=h2 557 38 139 2 274 562 538 ["at","most"] "check_place" "thinwood.rows"
def d32:List O:=h2 565 39 142 3 281 571 538 ["tables","look","at"] "bit_at" "thinwood.rows"
def d33:List O:=h2 574 40 145 3 288 584 538 ["tables","look","at","many","ahead","number","within"] "ones_at" "thinwood.rows"
def d34:List O:=h2 587 41 154 3 295 593 538 ["tables","look","at"] "noughts_at" "thinwood.rows"
def d35:List O:=h2 596 42 156 3 302 604 538 ["tables","look","nth","ahead","number"] "one_place" "thinwood.rows"
def d36:List O:=h2 607 43 161 2 309 612 538 ["nth","many"] "check_nth" "thinwood.rows"
def d37:List O:=h2 615 44 164 2 316 623 538 ["numbers","goal","low","high","middle"] "last_no_greater" "thinwood.rows"
def d38:List O:=h2 628 46 175 1 323 635 626 ["bits","level","at","bit"] "is_tree" "thinwood.brackets"
def d39:List O:=h2 638 47 182 1 330 642 626 ["bits"] "check_brackets" "thinwood.brackets"
def d40:List O:=h1 48 645 186 1 337 626 "kept_brackets" "thinwood.brackets"
def d41:List O:=h2 651 49 193 3 342 657 626 ["tables","number","block"] "low_of" "thinwood.brackets"
def d42:List O:=h2 660 50 195 2 349 665 626 ["tables","number"] "base_of" "thinwood.brackets"
def d43:List O:=h2 668 51 197 2 356 673 626 ["number","at"] "start_within" "thinwood.brackets"
def d44:List O:=h2 676 52 199 2 363 681 626 ["number","upto"] "end_within" "thinwood.brackets"
def d45:List O:=h2 684 53 201 1 370 688 626 ["tables"] "block_count" "thinwood.brackets"
def l19:O:=λP=>(.mk (.type "tuple") none (.seq #[(.str "tables" 694)] 0) #[])
def l20:O:=λP=>(.mk (.type "tuple") none (.seq #[(.str "nodes" 695)] 0) #[])
def l21:O:=λP=>(.mk .none none (.func (FuncData.mk "heap_look" "heap_look" (L2.ν (Tw.top 54)) (FuncBody.stmts (L2.μ (Tw.top 54))) (L2.δ (Tw.top 54)) 0 [] .none .none .none .none none .none .none 0)) #[])
def l22:O:=λP=>(.mk (.type "code") none (.fields #[(.str "heap_look" 691),(.str "heap_look" 692),(.str "/claim/cut.py" 693),(.int 203 0),(.int 1 0),(.int 0 0),(.int 0 0),(.int 3 0),(.ref 377),(.bool .true),(.int 181 0),(.ref 378),.none,(.ref 379),(.ref 380),(.ref 381),(.int 696 0),(.int 203 0),(.str "/claim/cut.py" 697)]) #[])
def l23:O:=λP=>(.mk (.type "function") none (.func (FuncData.mk "heap_look" "heap_look" (L2.ν (Tw.top 54)) (FuncBody.stmts (L2.μ (Tw.top 54))) (L2.δ (Tw.top 54)) 3 [] .none .none .none (.str "thinwood.brackets" 626) none (.ref 382) .none 0)) #[])
def d47:List O:=h2 699 55 206 3 384 705 626 ["tables","look","at"] "height" "thinwood.brackets"
def d48:List O:=h2 708 56 208 4 391 718 626 ["tables","look","at","goal","number","found","further"] "low_behind" "thinwood.brackets"
def d49:List O:=h2 721 57 220 5 398 731 626 ["tables","look","number","at","goal","start","stop"] "first_within" "thinwood.brackets"
def d50:List O:=h2 734 58 224 2 405 739 626 ["number","within"] "place_of_bit" "thinwood.brackets"
def d51:List O:=h2 742 59 228 4 412 750 626 ["tables","look","at","goal","found"] "low_ahead" "thinwood.brackets"
def d52:List O:=h2 753 60 234 4 419 763 626 ["tables","look","upto","goal","number","found","further"] "last_low_upto" "thinwood.brackets"
def d53:List O:=h2 766 61 245 5 426 775 626 ["tables","look","number","upto","goal","stop"] "last_within" "thinwood.brackets"
def d54:List O:=h2 778 62 248 4 433 785 626 ["tables","look","at","bit"] "check_bracket" "thinwood.brackets"
def d55:List O:=h2 788 63 251 3 440 794 626 ["tables","look","at"] "closing" "thinwood.brackets"
def d56:List O:=h2 797 64 254 3 447 803 626 ["tables","look","at"] "opening" "thinwood.brackets"
def d57:List O:=h2 810 67 259 1 454 816 806 ["depths","ahead","depth"] "check_depths" "thinwood.shapes"
def d58:List O:=h2 819 68 267 1 461 826 806 ["depths","bits","unclosed","depth"] "brackets_of" "thinwood.shapes"
def d59:List O:=h2 829 69 276 1 468 833 806 ["depths"] "kept_tree" "thinwood.shapes"
def d60:List O:=h2 840 72 280 1 475 845 836 ["signs","sign"] "check_signs" "thinwood.signs"
def d61:List O:=h2 848 73 286 1 482 857 836 ["signs","kinds","aheads","blocks","bits","row"] "kept_signs" "thinwood.signs"
def d62:List O:=h1 74 860 296 2 489 836 "ranks_among" "thinwood.signs"
def d63:List O:=h2 866 75 301 1 494 870 836 ["kind_count"] "level_count" "thinwood.signs"
def d64:List O:=h1 76 873 303 2 501 836 "level_rows" "thinwood.signs"
def d65:List O:=h1 77 879 311 2 506 836 "parted" "thinwood.signs"
def d66:List O:=h2 885 78 315 2 511 893 836 ["tables","look","levels","first","ahead"] "levels_of" "thinwood.signs"
def d67:List O:=h2 896 79 322 3 518 904 836 ["level","at","bit","row","look"] "place_below" "thinwood.signs"
def d68:List O:=h2 907 80 328 1 525 911 836 ["row"] "nought_count" "thinwood.signs"
def d69:List O:=h2 914 81 330 3 532 924 836 ["tables","look","at","rank","place","level","bit"] "sign_at" "thinwood.signs"
def d70:List O:=h2 929 83 340 1 539 933 927 ["tables"] "node_count" "thinwood.trees"
def d71:List O:=h2 936 84 342 2 546 941 927 ["tables","node"] "check_node" "thinwood.trees"
def d72:List O:=h2 944 85 345 3 553 950 927 ["tables","look","at"] "node_at" "thinwood.trees"
def d73:List O:=h2 953 86 349 3 560 959 927 ["tables","look","node"] "place_of" "thinwood.trees"
def d74:List O:=h2 962 87 352 3 567 969 927 ["tables","look","node","behind"] "first_of" "thinwood.trees"
def d75:List O:=h2 972 88 357 3 574 979 927 ["tables","look","node","behind"] "younger_of" "thinwood.trees"
def d76:List O:=h2 982 89 362 3 581 989 927 ["tables","look","node","at"] "beneath_of" "thinwood.trees"
def d77:List O:=h2 998 93 368 1 588 1004 992 ["words","word","letter"] "check_words" "thinwood.stores"
def d78:List O:=h1 94 1007 377 1 595 992 "beginnings_of" "thinwood.stores"
def d79:List O:=h1 95 1013 382 1 600 992 "parts_of" "thinwood.stores"
def d80:List O:=h2 1019 96 392 1 605 1027 992 ["words","parts","tree","letters","ends"] "kept_store" "thinwood.stores"
def d81:List O:=h2 1030 97 398 1 612 1034 992 ["tables"] "blocks_of_tree" "thinwood.stores"
def d82:List O:=h1 98 1037 400 1 619 992 "blocks_of_letters" "thinwood.stores"
def d83:List O:=h2 1043 99 402 3 624 1049 992 ["tables","look","node"] "letter_of" "thinwood.stores"
def d84:List O:=h2 1052 100 404 2 631 1057 992 ["tables","look"] "look_at_ends" "thinwood.stores"
def d85:List O:=h2 1060 101 406 3 638 1066 992 ["tables","look","node"] "words_to" "thinwood.stores"
def d86:List O:=h2 1069 102 408 4 645 1077 992 ["tables","look","node","letter","young"] "young_from" "thinwood.stores"
def d87:List O:=h2 1080 103 413 3 652 1089 992 ["tables","look","text","nodes","letter","young"] "line_of" "thinwood.stores"
def d88:List O:=h2 1092 104 421 3 659 1099 992 ["tables","look","text","nodes"] "node_of" "thinwood.stores"
def d89:List O:=h2 1102 105 426 3 666 1108 992 ["tables","look","node"] "node_behind" "thinwood.stores"
def d90:List O:=h2 1111 106 428 3 673 1120 992 ["tables","look","text","nodes","last","young"] "first_not_ahead" "thinwood.stores"
def d91:List O:=h2 1123 107 437 3 680 1129 992 ["tables","look","text"] "words_ahead" "thinwood.stores"
def d92:List O:=h2 1132 108 439 3 687 1140 992 ["tables","look","text","node","ahead"] "stretch_of" "thinwood.stores"
def d93:List O:=h2 1145 110 446 1 694 1149 1143 ["_law_found"] "_law_whole" "law_thinwood_k76_by_beginnings"
def d94:List O:=h2 1152 111 448 4 701 1162 1143 ["_law_number","_law_kinds","_law_first","_law_many","_law_word_here","_law_k","_law_at"] "_law_spelt" "law_thinwood_k76_by_beginnings"
def d95:List O:=h2 1165 112 455 2 708 1173 1143 ["_law_cell","_law_words_here","_law_number","_law_way","_law_old"] "_law_word" "law_thinwood_k76_by_beginnings"
def d96:List O:=h2 1176 113 468 1 715 1184 1143 ["_law_script","_law_words_here","_law_room","_law_cell","_law_word_here"] "_law_words" "law_thinwood_k76_by_beginnings"
def d97:List O:=h2 1187 114 477 2 722 1196 1143 ["_law_cell","_law_words_here","_law_number","_law_old","_law_way","_law_at"] "_law_text" "law_thinwood_k76_by_beginnings"
def l24:O:=λP=>(.mk (.type "tuple") none (.seq #[(.str "_law_blocks" 1202),(.str "_law_seen" 1203),(.str "_law_told" 1204)] 0) #[])
def l25:O:=λP=>(.mk (.type "tuple") none (.seq #[(.str "_law_blocks" 1205),(.str "_law_seen" 1206)] 0) #[])
def l26:O:=λP=>(.mk .none none (.func (FuncData.mk "_law_look" "_law_look" (L2.ν (Tw.top 115)) (FuncBody.stmts (L2.μ (Tw.top 115))) (L2.δ (Tw.top 115)) 0 [] .none .none .none .none none .none .none 0)) #[])
def l27:O:=λP=>(.mk (.type "code") none (.fields #[(.str "_law_look" 1199),(.str "_law_look" 1200),(.str "/claim/cut.py" 1201),(.int 491 0),(.int 2 0),(.int 0 0),(.int 0 0),(.int 3 0),(.ref 729),(.bool .true),(.int 181 0),(.ref 730),.none,(.ref 731),(.ref 732),(.ref 733),(.int 1207 0),(.int 491 0),(.str "/claim/cut.py" 1208)]) #[])
def l28:O:=λP=>(.mk (.type "function") none (.func (FuncData.mk "_law_look" "_law_look" (L2.ν (Tw.top 115)) (FuncBody.stmts (L2.μ (Tw.top 115))) (L2.δ (Tw.top 115)) 3 [] .none .none .none (.str "law_thinwood_k76_by_beginnings" 1143) none (.ref 734) .none 0)) #[])
def d99:List O:=h2 1210 116 499 2 736 1216 1143 ["_law_seen","_law_size","_law_number"] "_law_there" "law_thinwood_k76_by_beginnings"
def d100:List O:=h1 117 1219 504 1 743 1143 "law" "law_thinwood_k76_by_beginnings"
def f0:List O:=ap [PySem.W.boot_o_0,PySem.W.boot_o_1,PySem.W.boot_o_2,s0,PySem.W.boot_o_4,PySem.W.boot_o_5,PySem.W.boot_o_6,PySem.W.boot_o_7,PySem.W.boot_o_8,PySem.W.boot_o_9,PySem.W.boot_o_10,l0,s1,l1,l2,l3,l4,l5,l0,l6,l7,l8,l0,l9,l10,l11,l12,l13] (ap d1 (ap d2 (ap d3 (ap d4 (ap d5 (ap d6 (ap d7 (ap d8 (d9)))))))))
def f1:List O:=ap d10 (ap d11 (ap d12 (ap d13 (ap d14 (ap d15 (ap d16 (ap d17 (ap d18 (d19)))))))))
def f2:List O:=ap [l0,l6,l14,l15,l16,l17,l18] (ap d21 (ap d22 (ap d23 (ap d24 (ap d25 (ap d26 (ap d27 (ap d28 (d29)))))))))
def f3:List O:=ap d30 (ap d31 (ap d32 (ap d33 (ap d34 (ap d35 (ap d36 (ap d37 (ap d38 (d39)))))))))
def f4:List O:=ap d40 (ap d41 (ap d42 (ap d43 (ap d44 (ap d45 (ap [l0,l6,l19,l20,l21,l22,l23] (ap d47 (ap d48 (d49)))))))))
def f5:List O:=ap d50 (ap d51 (ap d52 (ap d53 (ap d54 (ap d55 (ap d56 (ap d57 (ap d58 (d59)))))))))
def f6:List O:=ap d60 (ap d61 (ap d62 (ap d63 (ap d64 (ap d65 (ap d66 (ap d67 (ap d68 (d69)))))))))
def f7:List O:=ap d70 (ap d71 (ap d72 (ap d73 (ap d74 (ap d75 (ap d76 (ap d77 (ap d78 (d79)))))))))
def f8:List O:=ap d80 (ap d81 (ap d82 (ap d83 (ap d84 (ap d85 (ap d86 (ap d87 (ap d88 (d89)))))))))
def f9:List O:=ap d90 (ap d91 (ap d92 (ap d93 (ap d94 (ap d95 (ap d96 (ap d97 (ap [l0,l6,l24,l25,l26,l27,l28] (d99)))))))))
def f10:List O:=d100
def ff:List O:=ap f0 (ap f1 (ap f2 (ap f3 (ap f4 (ap f5 (ap f6 (ap f7 (ap f8 (ap f9 (f10))))))))))
def s2:O:=gd (Z "__name__" 165 (.str "thinwood.errors" 187)::tk gg 9) 10
def l29:O:=λP=>(.mk .none none (.fields #[(.int 2 0),(.int 0 0),(.ref 20)]) #[])
def l30:O:=λP=>(.mk (.type "type") none (.cls (.mk "WoodError" [(.type "ValueError")] [(.ref 24),(.type "ValueError"),(.type "Exception"),(.type "BaseException"),(.type "object")] 23 "WoodError" .true [] [] .false none .false)) #[(some (.ref 15)),none,(some (.str "WoodError" 189)),(some (.str "WoodError" 197)),(some (.builtin "ValueError.__new__")),(some (.bool .true))])
def S_tree_63:Params→PySem.W.BT:=λP=>bt 6 (mp (λx=>x P) (ov (tk ff 28) [(3,s2),(8,l29),(11,l30)]))
def s3:O:=gd (Z "__name__" 165 (.str "thinwood.errors" 187)::tk gg 10) 11
def s4:O:=tb (tk tt 2)
def l31:O:=λP=>(.mk (.type "type") none (.cls (.mk "WoodError" [(.type "ValueError")] [(.ref 24),(.type "ValueError"),(.type "Exception"),(.type "BaseException"),(.type "object")] 23 "WoodError" .true [] [(.ref 37)] .false none .false)) #[(some (.ref 15)),none,(some (.str "WoodError" 189)),(some (.str "WoodError" 197)),(some (.builtin "ValueError.__new__")),(some (.bool .true))])
def S_tree_78:Params→PySem.W.BT:=λP=>bt 7 (mp (λx=>x P) (ov (tk ff 40) [(3,s3),(8,s4),(11,l31)]))
def s5:O:=gd (Z "__name__" 165 (.str "thinwood.errors" 187)::tk gg 11) 12
def s6:O:=tb (tk tt 3)
def l32:O:=λP=>(.mk (.type "type") none (.cls (.mk "WoodError" [(.type "ValueError")] [(.ref 24),(.type "ValueError"),(.type "Exception"),(.type "BaseException"),(.type "object")] 23 "WoodError" .true [] [(.ref 37),(.ref 49)] .false none .false)) #[(some (.ref 15)),none,(some (.str "WoodError" 189)),(some (.str "WoodError" 197)),(some (.builtin "ValueError.__new__")),(some (.bool .true))])
def S_tree_93:Params→PySem.W.BT:=λP=>bt 7 (mp (λx=>x P) (ov (tk ff 52) [(3,s5),(8,s6),(11,l32)]))
def s7:O:=gd (Z "__name__" 165 (.str "thinwood.errors" 187)::tk gg 12) 13
def s8:O:=tb (tk tt 4)
def l33:O:=λP=>(.mk (.type "type") none (.cls (.mk "WoodError" [(.type "ValueError")] [(.ref 24),(.type "ValueError"),(.type "Exception"),(.type "BaseException"),(.type "object")] 23 "WoodError" .true [] [(.ref 37),(.ref 49),(.ref 61)] .false none .false)) #[(some (.ref 15)),none,(some (.str "WoodError" 189)),(some (.str "WoodError" 197)),(some (.builtin "ValueError.__new__")),(some (.bool .true))])
def S_tree_108:Params→PySem.W.BT:=λP=>bt 8 (mp (λx=>x P) (ov (tk ff 64) [(3,s7),(8,s8),(11,l33)]))
def s9:O:=gd (Z "__name__" 165 (.str "thinwood.errors" 187)::tk gg 13) 14
def s10:O:=tb (tk tt 5)
def l34:O:=λP=>(.mk (.type "type") none (.cls (.mk "WoodError" [(.type "ValueError")] [(.ref 24),(.type "ValueError"),(.type "Exception"),(.type "BaseException"),(.type "object")] 23 "WoodError" .true [] [(.ref 37),(.ref 49),(.ref 61),(.ref 73)] .false none .false)) #[(some (.ref 15)),none,(some (.str "WoodError" 189)),(some (.str "WoodError" 197)),(some (.builtin "ValueError.__new__")),(some (.bool .true))])
def S_tree_123:Params→PySem.W.BT:=λP=>bt 8 (mp (λx=>x P) (ov (tk ff 76) [(3,s9),(8,s10),(11,l34)]))
def s11:O:=gd (Z "__name__" 165 (.str "thinwood.errors" 187)::tk gg 14) 15
def s12:O:=tb (tk tt 6)
def l35:O:=λP=>(.mk (.type "type") none (.cls (.mk "WoodError" [(.type "ValueError")] [(.ref 24),(.type "ValueError"),(.type "Exception"),(.type "BaseException"),(.type "object")] 23 "WoodError" .true [] [(.ref 37),(.ref 49),(.ref 61),(.ref 73),(.ref 85)] .false none .false)) #[(some (.ref 15)),none,(some (.str "WoodError" 189)),(some (.str "WoodError" 197)),(some (.builtin "ValueError.__new__")),(some (.bool .true))])
def S_tree_138:Params→PySem.W.BT:=λP=>bt 8 (mp (λx=>x P) (ov (tk ff 88) [(3,s11),(8,s12),(11,l35)]))
def s13:O:=gd (Z "__name__" 165 (.str "thinwood.errors" 187)::tk gg 15) 16
def s14:O:=tb (tk tt 7)
def l36:O:=λP=>(.mk (.type "type") none (.cls (.mk "WoodError" [(.type "ValueError")] [(.ref 24),(.type "ValueError"),(.type "Exception"),(.type "BaseException"),(.type "object")] 23 "WoodError" .true [] [(.ref 37),(.ref 49),(.ref 61),(.ref 73),(.ref 85),(.ref 97)] .false none .false)) #[(some (.ref 15)),none,(some (.str "WoodError" 189)),(some (.str "WoodError" 197)),(some (.builtin "ValueError.__new__")),(some (.bool .true))])
def S_tree_153:Params→PySem.W.BT:=λP=>bt 8 (mp (λx=>x P) (ov (tk ff 100) [(3,s13),(8,s14),(11,l36)]))
def s15:O:=gd (Z "__name__" 165 (.str "thinwood.errors" 187)::tk gg 16) 17
def s16:O:=tb (tk tt 8)
def l37:O:=λP=>(.mk (.type "type") none (.cls (.mk "WoodError" [(.type "ValueError")] [(.ref 24),(.type "ValueError"),(.type "Exception"),(.type "BaseException"),(.type "object")] 23 "WoodError" .true [] [(.ref 37),(.ref 49),(.ref 61),(.ref 73),(.ref 85),(.ref 97),(.ref 109)] .false none .false)) #[(some (.ref 15)),none,(some (.str "WoodError" 189)),(some (.str "WoodError" 197)),(some (.builtin "ValueError.__new__")),(some (.bool .true))])
def S_tree_168:Params→PySem.W.BT:=λP=>bt 8 (mp (λx=>x P) (ov (tk ff 112) [(3,s15),(8,s16),(11,l37)]))
def s17:O:=gd (Z "__name__" 165 (.str "thinwood.blocks" 335)::tk gg 24) 25
def s18:O:=tb (tk tt 14)
def S_tree_214:Params→PySem.W.BT:=λP=>bt 9 (mp (λx=>x P) (ov (tk ff 155) [(3,s17),(8,s18)]))
def s19:O:=gd (Z "__name__" 165 (.str "thinwood.heaps" 451)::tk gg 36) 37
def s20:O:=tb (tk tt 25)
def S_tree_293:Params→PySem.W.BT:=λP=>bt 9 (mp (λx=>x P) (ov (tk ff 232) [(3,s19),(8,s20)]))
def s21:O:=gd (Z "__name__" 165 (.str "thinwood.rows" 538)::tk gg 48) 49
def s22:O:=tb (tk tt 37)
def S_tree_379:Params→PySem.W.BT:=λP=>bt 10 (mp (λx=>x P) (ov (tk ff 316) [(3,s21),(8,s22)]))
def s23:O:=gd (Z "__name__" 165 (.str "thinwood.brackets" 626)::tk gg 60) 61
def s24:O:=tb (tk tt 49)
def S_tree_463:Params→PySem.W.BT:=λP=>bt 10 (mp (λx=>x P) (ov (tk ff 398) [(3,s23),(8,s24)]))
def s25:O:=gd (Z "__name__" 165 (.str "thinwood.signs" 836)::tk gg 73) 74
def s26:O:=tb (tk tt 60)
def S_tree_542:Params→PySem.W.BT:=λP=>bt 10 (mp (λx=>x P) (ov (tk ff 475) [(3,s25),(8,s26)]))
def s27:O:=gd (Z "__name__" 165 (.str "thinwood.trees" 927)::tk gg 86) 87
def s28:O:=tb (tk tt 73)
def S_tree_629:Params→PySem.W.BT:=λP=>bt 11 (mp (λx=>x P) (ov (tk ff 560) [(3,s27),(8,s28)]))
def s29:O:=gd (Z "__name__" 165 (.str "thinwood.stores" 992)::tk gg 100) 101
def s30:O:=tb (tk tt 85)
def S_tree_709:Params→PySem.W.BT:=λP=>bt 11 (mp (λx=>x P) (ov (tk ff 638) [(3,s29),(8,s30)]))
def s31:O:=gd (Z "__name__" 165 (.str "law_thinwood_k76_by_beginnings" 1143)::tk gg 112) 113
def s32:O:=tb (tk tt 97)
def S_tree_795:Params→PySem.W.BT:=λP=>bt 11 (mp (λx=>x P) (ov (tk ff 722) [(3,s31),(8,s32)]))
def S_tree_823:Params→PySem.W.BT:=λP=>bt 11 (mp (λx=>x P) (ff))
def S_heap_824:Params→Heap:=λP=>Heap.mk (Array.mk (mp (λx=>x P) (ff))) (.mk [] [] [] 0 [] [] .false #[] [] 0 .false .false .false 0 [2000,10,10] .false 0 .true [] [] 0 .false)
def S_sts_49:List Stmt:=tk (List.drop 0 PySem.Challenge.pw_thinwood_k76_by_beginnings.main.body) 2
def S_sts_64:List Stmt:=tk (List.drop 2 PySem.Challenge.pw_thinwood_k76_by_beginnings.main.body) 1
def S_sts_79:List Stmt:=tk (List.drop 3 PySem.Challenge.pw_thinwood_k76_by_beginnings.main.body) 1
def S_sts_94:List Stmt:=tk (List.drop 4 PySem.Challenge.pw_thinwood_k76_by_beginnings.main.body) 1
def S_sts_109:List Stmt:=tk (List.drop 5 PySem.Challenge.pw_thinwood_k76_by_beginnings.main.body) 1
def S_sts_124:List Stmt:=tk (List.drop 6 PySem.Challenge.pw_thinwood_k76_by_beginnings.main.body) 1
def S_sts_139:List Stmt:=tk (List.drop 7 PySem.Challenge.pw_thinwood_k76_by_beginnings.main.body) 1
def S_sts_154:List Stmt:=tk (List.drop 8 PySem.Challenge.pw_thinwood_k76_by_beginnings.main.body) 1
def S_sts_169:List Stmt:=tk (List.drop 9 PySem.Challenge.pw_thinwood_k76_by_beginnings.main.body) 9
def S_sts_215:List Stmt:=tk (List.drop 18 PySem.Challenge.pw_thinwood_k76_by_beginnings.main.body) 13
def S_sts_294:List Stmt:=tk (List.drop 31 PySem.Challenge.pw_thinwood_k76_by_beginnings.main.body) 13
def S_sts_380:List Stmt:=tk (List.drop 44 PySem.Challenge.pw_thinwood_k76_by_beginnings.main.body) 13
def S_sts_464:List Stmt:=tk (List.drop 57 PySem.Challenge.pw_thinwood_k76_by_beginnings.main.body) 15
def S_sts_543:List Stmt:=tk (List.drop 72 PySem.Challenge.pw_thinwood_k76_by_beginnings.main.body) 14
def S_sts_630:List Stmt:=tk (List.drop 86 PySem.Challenge.pw_thinwood_k76_by_beginnings.main.body) 15
def S_sts_710:List Stmt:=tk (List.drop 101 PySem.Challenge.pw_thinwood_k76_by_beginnings.main.body) 13
def S_sts_796:List Stmt:=tk (List.drop 114 PySem.Challenge.pw_thinwood_k76_by_beginnings.main.body) 4
def S_view:Program:={ PySem.Challenge.pw_thinwood_k76_by_beginnings with main:={ PySem.Challenge.pw_thinwood_k76_by_beginnings.main with body:=mp Tw.top [1,2,3,4,5,6,7,8,9,11,12,13,14,15,16,17,18,19,20,21,22,23,24,26,27,28,29,30,31,32,33,34,36,37,38,39,40,41,42,43,44,46,47,48,49,50,51,52,53,54,55,56,57,58,59,60,61,62,63,64,66,67,68,69,71,72,73,74,75,76,77,78,79,80,81,83,84,85,86,87,88,89,91,92,93,94,95,96,97,98,99,100,101,102,103,104,105,106,107,108,110,111,112,113,114,115,116,117] } }
end
end Tp
theorem PySem.W.Fast.tw14598715356260435866:True:=trivial
noncomputable abbrev PySem.W.Fast.tw6884545591706404819:PySem.Program:=PySem.Challenge.pw_thinwood_k76_by_beginnings
theorem PySem.W.Fast.te6884545591706404819:PySem.Challenge.pw_thinwood_k76_by_beginnings = PySem.W.Fast.tw6884545591706404819:=rfl
lay_quick Tp.g0 Tp.g1 Tp.g2 Tp.g3 Tp.g4 Tp.g5 Tp.g6 Tp.g7 Tp.g8 Tp.g9 Tp.g10 Tp.g11 Tp.gg Tp.s0 Tp.l0 Tp.s1 Tp.l1 Tp.l2 Tp.l3 Tp.l4 Tp.l5 Tp.l6 Tp.l7 Tp.l8 Tp.l9 Tp.l10 Tp.l11 Tp.l12 Tp.l13 Tp.d1 Tp.d2 Tp.d3 Tp.d4 Tp.d5 Tp.d6 Tp.d7 Tp.d8 Tp.d9 Tp.d10 Tp.d11
lay_quick Tp.d12 Tp.d13 Tp.d14 Tp.d15 Tp.d16 Tp.d17 Tp.d18 Tp.d19 Tp.l14 Tp.l15 Tp.l16 Tp.l17 Tp.l18 Tp.d21 Tp.d22 Tp.d23 Tp.d24 Tp.d25 Tp.d26 Tp.d27 Tp.d28 Tp.d29 Tp.d30 Tp.d31 Tp.d32 Tp.d33 Tp.d34 Tp.d35 Tp.d36 Tp.d37 Tp.d38 Tp.d39 Tp.d40 Tp.d41 Tp.d42 Tp.d43 Tp.d44 Tp.d45 Tp.l19 Tp.l20
lay_quick Tp.l21 Tp.l22 Tp.l23 Tp.d47 Tp.d48 Tp.d49 Tp.d50 Tp.d51 Tp.d52 Tp.d53 Tp.d54 Tp.d55 Tp.d56 Tp.d57 Tp.d58 Tp.d59 Tp.d60 Tp.d61 Tp.d62 Tp.d63 Tp.d64 Tp.d65 Tp.d66 Tp.d67 Tp.d68 Tp.d69 Tp.d70 Tp.d71 Tp.d72 Tp.d73 Tp.d74 Tp.d75 Tp.d76 Tp.d77 Tp.d78 Tp.d79 Tp.d80 Tp.d81 Tp.d82 Tp.d83
lay_quick Tp.d84 Tp.d85 Tp.d86 Tp.d87 Tp.d88 Tp.d89 Tp.d90 Tp.d91 Tp.d92 Tp.d93 Tp.d94 Tp.d95 Tp.d96 Tp.d97 Tp.l24 Tp.l25 Tp.l26 Tp.l27 Tp.l28 Tp.d99 Tp.d100 Tp.f0 Tp.f1 Tp.f2 Tp.f3 Tp.f4 Tp.f5 Tp.f6 Tp.f7 Tp.f8 Tp.f9 Tp.f10 Tp.ff Tp.s2 Tp.l29 Tp.l30 Tp.S_tree_63 Tp.s3 Tp.s4 Tp.l31
lay_quick Tp.S_tree_78 Tp.s5 Tp.s6 Tp.l32 Tp.S_tree_93 Tp.s7 Tp.s8 Tp.l33 Tp.S_tree_108 Tp.s9 Tp.s10 Tp.l34 Tp.S_tree_123 Tp.s11 Tp.s12 Tp.l35 Tp.S_tree_138 Tp.s13 Tp.s14 Tp.l36 Tp.S_tree_153 Tp.s15 Tp.s16 Tp.l37 Tp.S_tree_168 Tp.s17 Tp.s18 Tp.S_tree_214 Tp.s19 Tp.s20 Tp.S_tree_293 Tp.s21 Tp.s22 Tp.S_tree_379 Tp.s23 Tp.s24 Tp.S_tree_463 Tp.s25 Tp.s26 Tp.S_tree_542
lay_quick Tp.s27 Tp.s28 Tp.S_tree_629 Tp.s29 Tp.s30 Tp.S_tree_709 Tp.s31 Tp.s32 Tp.S_tree_795 Tp.S_tree_823 Tp.S_heap_824 Tp.S_sts_49 Tp.S_sts_64 Tp.S_sts_79 Tp.S_sts_94 Tp.S_sts_109 Tp.S_sts_124 Tp.S_sts_139 Tp.S_sts_154 Tp.S_sts_169 Tp.S_sts_215 Tp.S_sts_294 Tp.S_sts_380 Tp.S_sts_464 Tp.S_sts_543 Tp.S_sts_630 Tp.S_sts_710 Tp.S_sts_796 Tp.S_view
namespace Tp
open PySem PySem.W.Fast
end Tp
namespace PySem.W.Fast
open PySem Tp
noncomputable section
abbrev tw7785026280563328282:Params→BT:=tw11432227658251013801
theorem te7785026280563328282:S_tree_63=tw7785026280563328282:=te11432227658251013801
abbrev tw11925881620144491716:Params→BT:=tw16269510630359031336
theorem te11925881620144491716:S_tree_78=tw11925881620144491716:=te16269510630359031336
abbrev tw326764474421307582:Params→BT:=tw5549918322004914887
theorem te326764474421307582:S_tree_93=tw326764474421307582:=te5549918322004914887
abbrev tw9397574086220716573:Params→BT:=tw10118726668083288838
theorem te9397574086220716573:S_tree_108=tw9397574086220716573:=te10118726668083288838
abbrev tw408924715089074897:Params→BT:=tw244363406318419850
theorem te408924715089074897:S_tree_123=tw408924715089074897:=te244363406318419850
abbrev tw16410815570201422483:Params→BT:=tw12417361858070979987
theorem te16410815570201422483:S_tree_138=tw16410815570201422483:=te12417361858070979987
abbrev tw13752812743897556707:Params→BT:=tw863085786592867233
theorem te13752812743897556707:S_tree_153=tw13752812743897556707:=te863085786592867233
abbrev tw16853894623507293935:Params→BT:=tw12361961019411380784
theorem te16853894623507293935:S_tree_168=tw16853894623507293935:=te12361961019411380784
abbrev tw5813407857507012062:Params→BT:=tw15182629654053833429
theorem te5813407857507012062:S_tree_214=tw5813407857507012062:=te15182629654053833429
abbrev tw3232444412078148007:Params→BT:=tw12245342217616203890
theorem te3232444412078148007:S_tree_293=tw3232444412078148007:=te12245342217616203890
abbrev tw12228146931170473493:Params→BT:=tw4133028062932887595
theorem te12228146931170473493:S_tree_379=tw12228146931170473493:=te4133028062932887595
abbrev tw2200031236049210755:Params→BT:=tw2418749235743013393
theorem te2200031236049210755:S_tree_463=tw2200031236049210755:=te2418749235743013393
abbrev tw18355964551838788456:Params→BT:=tw8019352753043950259
theorem te18355964551838788456:S_tree_542=tw18355964551838788456:=te8019352753043950259
abbrev tw8346695441856308074:Params→BT:=tw312731823271726943
theorem te8346695441856308074:S_tree_629=tw8346695441856308074:=te312731823271726943
abbrev tw12439508018188052638:Params→BT:=tw16391930838256639100
theorem te12439508018188052638:S_tree_709=tw12439508018188052638:=te16391930838256639100
abbrev tw9936446759649857862:Params→BT:=tw13442361553844308795
theorem te9936446759649857862:S_tree_795=tw9936446759649857862:=te13442361553844308795
abbrev tw4204831053631044199:Params→BT:=tw63499976142692280
theorem te4204831053631044199:S_tree_823=tw4204831053631044199:=te63499976142692280
abbrev tw6830238541295001116:Params→Heap:=tw6156010514109306388
theorem te6830238541295001116:S_heap_824=tw6830238541295001116:=te6156010514109306388
abbrev tw6925276825164800260:List Stmt:=tw666750322614274432
theorem te6925276825164800260:S_sts_49=tw6925276825164800260:=te666750322614274432
abbrev tw12501942547327846549:List Stmt:=tw5768192320520425421
theorem te12501942547327846549:S_sts_64=tw12501942547327846549:=te5768192320520425421
abbrev tw1873734545164421142:List Stmt:=tw16161987442105222805
theorem te1873734545164421142:S_sts_79=tw1873734545164421142:=te16161987442105222805
abbrev tw3077982019356861084:List Stmt:=tw11682420065776883047
theorem te3077982019356861084:S_sts_94=tw3077982019356861084:=te11682420065776883047
abbrev tw3193140548734420936:List Stmt:=tw5728941507444464575
theorem te3193140548734420936:S_sts_109=tw3193140548734420936:=te5728941507444464575
abbrev tw2397347844767090543:List Stmt:=tw3506674074365841151
theorem te2397347844767090543:S_sts_124=tw2397347844767090543:=te3506674074365841151
abbrev tw15317760235062235390:List Stmt:=tw11501099722331979331
theorem te15317760235062235390:S_sts_139=tw15317760235062235390:=te11501099722331979331
abbrev tw10754983296206671966:List Stmt:=tw13451323129798551695
theorem te10754983296206671966:S_sts_154=tw10754983296206671966:=te13451323129798551695
abbrev tw5782862502668203742:List Stmt:=tw8446481660639318910
theorem te5782862502668203742:S_sts_169=tw5782862502668203742:=te8446481660639318910
abbrev tw6852356603118296461:List Stmt:=tw15213887431938716785
theorem te6852356603118296461:S_sts_215=tw6852356603118296461:=te15213887431938716785
abbrev tw1601349501971000381:List Stmt:=tw1349057676744220601
theorem te1601349501971000381:S_sts_294=tw1601349501971000381:=te1349057676744220601
abbrev tw1352939396066555699:List Stmt:=tw6718965177019799211
theorem te1352939396066555699:S_sts_380=tw1352939396066555699:=te6718965177019799211
abbrev tw11715918725504635211:List Stmt:=tw13526298096046685889
theorem te11715918725504635211:S_sts_464=tw11715918725504635211:=te13526298096046685889
abbrev tw3779443661291963988:List Stmt:=tw4865800672744059054
theorem te3779443661291963988:S_sts_543=tw3779443661291963988:=te4865800672744059054
abbrev tw11636175964649985597:List Stmt:=tw16650737794908445876
theorem te11636175964649985597:S_sts_630=tw11636175964649985597:=te16650737794908445876
abbrev tw7187603899757738039:List Stmt:=tw7111635293316734744
theorem te7187603899757738039:S_sts_710=tw7187603899757738039:=te7111635293316734744
abbrev tw2238415070920336911:List Stmt:=tw16317157044752729733
theorem te2238415070920336911:S_sts_796=tw2238415070920336911:=te16317157044752729733
abbrev tw5332624053324074176:Program:=tw11325136443342628617
theorem te5332624053324074176:S_view=tw5332624053324074176:=te11325136443342628617
theorem te6223815167532092229:True:=trivial
end
end PySem.W.Fast
open PySem PySem.W PyProof.Rows
set_option maxRecDepth 100000 in
set_option maxHeartbeats 0 in
theorem PySem.Challenge.cw_thinwood_k76_by_beginnings_holds : PySem.Challenge.rw_thinwood_k76_by_beginnings.Holds := by
 w_on;o_law;k_head;(case hw=>w_witness2)
 k_fill
 refine L2.La (l:=PySem.Challenge.rw_thinwood_k76_by_beginnings) (n:=63) (k:=16) (x := "_law_script") rfl (by decide) rfl ⟨rfl,by decide,by decide⟩ (λw h Y=>PySem.W.km_in_of Y) ?F
 case F =>
  intro w mg mb mean fa h KX TT hmg
  refine' Tw.QT KX TT hmg ?d0 ?d1 ?d2 ?d3 ?d4 ?d5 ?d6 ?d7 ?d8 ?d9 ?d10 ?a11 ?l11 ?c11 ?k11 ?abv ?abw ?Ye ?d12 ?d13 ?d14 ?d15 ?d16 ?d17 ?d18 ?d19 ?d20 ?d21 ?d22 ?d23 ?d24 ?d25 ?d26 ?d27 ?d28 ?d29 ?d30 ?d31 ?d32 ?d33 ?d34 ?d35 ?d36 ?a37 ?l37 ?c37 ?k37 ?abx ?aby ?Yg ?d38 ?d39 ?d40 ?d41 ?d42 ?d43 ?d44 ?d45 ?d46 ?d47 ?d48 ?d49 ?d50 ?d51 ?d52 ?d53 ?d54 ?d55 ?d56 ?d57 ?d58 ?d59 ?d60 ?d61 ?d62 ?d63 ?d64 ?d65 ?d66 ?d67 ?d68 ?d69 ?d70 ?d71 ?d72 ?d73 ?d74 ?d75 ?d76 ?d77 ?d78 ?d79 ?d80 ?d81 ?d82 ?d83 ?d84 ?d85 ?d86 ?d87 ?d88 ?Ze ?Zf ?c89 ?k89 ?ace ?acf ?Yh ?d90 ?d91 ?afR ?acg ?afY ?abz ?afZ ?afS ?af0 ?af1 ?afw ?acV ?af2 ?aeU ?af3 ?afx ?af4 ?abA ?aei ?ach ?aaG ?abB ?aaH ?abC ?Zg ?aej ?aek ?acW ?acX ?acY ?acZ ?ac0 ?ac1 ?ac2 ?Y0 ?Y4 ?nt ?aaj ?aam ?aan
  (case d0|d1|d2|d3|d4|d5|d6|d7|d8|d9|d10|d12|d13|d14|d15|d16|d17|d18|d19|d20|d21|d22|d23|d24|d25|d26|d27|d28|d29|d30|d31|d32|d33|d34|d35|d36|d38|d39|d40|d41|d42|d43|d44|d45|d46|d47|d48|d49|d50|d51|d52|d53|d54|d55|d56|d57|d58|d59|d60|d61|d62|d63|d64|d65|d66|d67|d68|d69|d70|d71|d72|d73|d74|d75|d76|d77|d78|d79|d80|d81|d82|d83|d84|d85|d86|d87|d88|d90|d91=>exact⟨by k_is,L2.z7 (by k_is) (by k_is) (by k_is)⟩);(case a11=>k_is);(case l11=>k_is);(case c11=>k_is);(case k11=>k_is);(case abv=>k_is);(case abw=>rfl);(case Ye=>exact⟨_,rfl⟩);(case a37=>k_is);(case l37=>k_is);(case c37=>k_is);(case k37=>k_is);(case abx=>k_is);(case aby=>rfl);(case Yg=>exact⟨_,rfl⟩);(case Ze=>k_is);(case Zf=>k_is);(case c89=>k_is);(case k89=>k_is);(case ace=>k_is);(case acf=>rfl);(case Yh=>exact⟨_,rfl⟩);(case afR=>k_is);(case acg=>k_is);(case afY=>k_is);(case abz=>k_is);(case afZ=>k_is);(case afS=>k_is);(case af0=>k_is);(case af1=>k_is);(case afw=>k_is);(case acV=>k_is);(case af2=>k_is);(case aeU=>k_is);(case af3=>k_is);(case afx=>k_is);(case af4=>k_is);(case abA=>k_is);(case aei=>k_is);(case ach=>k_is);(case aaG=>k_is);(case abB=>k_is);(case aaH=>k_is);(case abC=>k_is);(case Zg=>k_is);(case aej=>k_exc);(case aek=>k_is);(case acW=>k_is);(case acX=>k_is);(case acY=>k_is);(case acZ=>k_is);(case ac0=>k_is);(case ac1=>k_is);(case ac2=>k_is);(case Y0=>kit_is);(case Y4=>kit_is);(case nt=>kernel_rfl);(case aaj=>decide);(case aam=>decide);(case aan=>decide)
