import PyProof.Rows.All
import Wide.All
import OpenK.AllK
import Wide.FinOn
import Lean
import PyProof.EqAt
import PyProof.EqKinds
import PyProof.TupleCall
import PySem.Challenge.RW_thinwood_k77_longest_word
set_option Elab.async false
set_option linter.all false
set_option maxRecDepth 100000
set_option maxHeartbeats 4000000
theorem bc0{p:Prop}(h:¬p->False):p:=Classical.byContradiction h
local macro_rules
 | `(tactic| obtain $p:rcasesPatMed:=$e:term)=>`(tactic| (refine _root_.bc0 λhG=>?_;rcases $e:term with $p:rcasesPatMed <;> (refine hG ?_;clear hG)))
local macro_rules
 | `(tactic| rintro $ps:rintroPat*)=>do
  let n:=ps.size
  let l:=(ps.getD (n-1) ⟨.missing⟩).raw[0]
  if l.getKind != `Lean.Parser.Tactic.rcasesPat.tuple then Lean.Macro.throwUnsupported
  let q:Lean.TSyntax `rcasesPat:=⟨l⟩
  let arr:=(ps.extract 0 (n-1)).push (<- `(rintroPat| z))
  `(tactic| (rintro $arr*;refine _root_.bc0 λhG=>?_;rcases z with $q:rcasesPat <;> (refine hG ?_;clear hG)))
open List renaming length_map->aaa,getElem?_eq_some_iff->aab,getElem?_eq_getElem->aad,length_append->aaf,getElem?_map->aag,mem_of_getElem?->aah,take_of_length_le->aak,map_append->aal,getElem?_append_right->aas,mem_singleton->aat,mem_append_right->aay,getElem?_append_left->aaz,size_toArray->aaB,map_cons->aaD,replicate->aaE,length_take->aaL,length_cons->aaM,mem_cons->aaO,getElem?_of_mem->aaP,append_assoc->aaQ,mem_cons_of_mem->aaR,mem_map->aa3,mem_append->aba,length_replicate->abp,mem_cons_self->abB,pairwise_iff_getElem->ab2,length_drop->ab3,range->ab5,getElem_mem->acz,drop_eq_getElem_cons->acA,take_add_one->acC,take_append_drop->aeD,length_range->afE,cons_lt_cons_iff->afK,pairwise_append->af4,drop_of_length_le->af5,getElem?_take_of_lt->af6,replicate_succ->af7,Perm->af9,range_succ->agd,getElem_of_mem->agg,flatten_cons->agh,length_singleton->agi,mem_append_left->agl,cons_append->agm,getD_eq_getElem?_getD->agn,extract_eq_drop_take->agq,nodup_cons->ags,getElem?_drop->agw,length->agx,mem_of_mem_drop->agy,getElem?_replicate->agz,mem_singleton_self->agA,map_map->agB,reverse_append->agC,take_length->agF,getElem?_eq_none->agH,getElem?_eq_none_iff->agJ,mem_of_mem_take->agK,take_sublist->agM,eq_of_mem_replicate->agN,getElem_drop->agO,filterMap_cons->agR,filter_cons->agT,mem_range->agU,getElem?_set_self->agV,zip_cons_cons->agW,dropLast_concat_getLast->agX,append_nil->agY,of_mem_zip->agZ,pairwise_reverse->ag1,getElem?_toArray->ag2,find?_cons->ag5,ext_getElem?->ag7,getElem_take->ag8,getElem?_set_ne->aha,drop_zero->ahb,take_take->ahc,mem_reverse->ahe,not_mem_nil->ahf,zip->ahg,map_congr_left->ahh,take_succ_cons->ahi,any_cons->ahl,nil_append->ahm,sum_append->ahn,sum_cons->aho,filter_cons_of_pos->ahr,drop_drop->ahu,lookup_cons->ahw,drop_length->ahx,eq_nil_of_length_eq_zero->ahy,nil_lt_cons->ahz,take_append_of_le_length->ahA,getLastD_concat->ahC,forall_mem_cons->ahD,length_reverse->ahF,toList_toArray->ahG,idxOf_lt_length_of_mem->ahH,length_eraseIdx_of_lt->ahJ,mem_filterMap->ahK,map_nil->ahL,sublist_append_right->ahP,sublist_append_left->ahS,reverse_perm->ahT,map_drop->ahW,getElem?_cons_succ->ahY,lt_trans->ahZ,take_nil->ah0,length_eq_zero_iff->ah1,filter_cons_of_neg->ah2,drop_eq_nil_of_le->ah3,pairwise_lt_range->ah4,Perm.append_left->ah7,perm_append_comm->ah8,not_lt_nil->aic,reverse_reverse->aie,take_zero->aif,lt_irrefl->aig,take_succ->aih,mem_map_of_mem->aii,takeWhile_cons->aik,flatten_append->aim,all_cons->aip,map_take->aiq,filter_append->ais,pairwise_cons->ait,getElem_idxOf->aiv,reverse_cons->aiw,getElem?_inj->aix,pairwise_map->aiA,nodup_append->aiB,all_eq_true->aiH,map_reverse->aiK,getElem_map->aiL,le_antisymm->aiM,mem_filter->aiN,length_set->aiO,foldl_cons->aiP,length_nil->aiR,length_zip->aiS,Perm.trans->aiT,not_lt->aiU,Perm.refl->aiY,take_left->aiZ,foldl->ai0,take_add->ai2,sum_nil->ai7
open Nat renaming le_refl->aac,lt_of_lt_of_le->aai,ne_of_lt->aap,lt_or_ge->aaq,zero_le->aaF,eq_zero_or_pos->ad3,add_sub_cancel_left->aeC,le_of_lt->ae8,min_eq_left->afb,le_trans->afJ,lt_irrefl->afL,two_pow_pos->af8,mul_le_mul_right->aga,mul_comm->agb,lt_succ_self->age,le_add_right->agf,lt_succ_of_lt->agj,lt_trichotomy->ago,ne_of_gt->agr,pow_succ->agt,not_lt_zero->agu,zero_add->agv,min_eq_right->agE,lt_of_le_of_lt->agG,mul_assoc->agI,sub_zero->agQ,le_succ->agS,succ_mul->ag0,add_mul->ag3,one_mul->ag4,sub_self->ag6,add_le_add_left->ahj,le_of_eq->ahk,add_sub_cancel->ahp,pow_zero->ahv,zero_mul->ahM,add_zero->ahN,le_antisymm->ah6,le_total->aib,pow_le_pow_right->aid,mul_le_mul_left->aij,lt_trans->aiG,mul_le_mul->aiW,add_comm->ai6,pow_add->ajc,mod_lt->ajd
open Array renaming length_toList->aae,getElem?_toList->ab4,toList_append->acK,getElem_mem_toList->adu,getElem_toList->adw,toList_push->agp,perm_iff_toList_perm->agD,toList_extract->agL,getElem?_eq_some_iff->ag9,toList_reverse->ahB,getElem?_eq_getElem->ahQ,size_setIfInBounds->ahU,getElem_extract->ah9,Perm.refl->aia,toList_modify->ail,append_assoc->aio,size_extract->aiu,getD->aiz,toList->ai5
open Option renaming some.inj->aao,map_eq_some_iff->abA,map_some->ahq,isSome_iff_exists->ahR,toList_some->air,isSome_map->aiy,some.injEq->aiC,getD_none->aiI,getD_some->aiJ,map->ai1,none->ajb
open Bool renaming false_ne_true->aar,false_eq_true->adT,and_eq_true->ahd,not_eq_true'->aht,eq_iff_iff->ahE,or_false->ahV,or_eq_true->ah5,eq_false_iff->aiD,false_and->aiV,not_false->aiX,false_or->ai3,not_true->ai4,true_or->ai8,not_not->ai9
open Int renaming toNat_natCast->ab1,emod_lt_of_pos->agc,emod_nonneg->agk,fdiv_eq_ediv_of_nonneg->ahI,lt_or_le->ahO,ediv_ediv_of_nonneg->ahX,toNat_of_nonneg->ain,pow_succ->aiE,ediv_one->aiF,le_refl->aiQ,ofNat_lt->aja
open Ne renaming symm->af3
open Or renaming inl->agP,inr->ahs
def dgt(x:Lean.Term):Lean.MacroM (Array Lean.Term):=match x.raw.isNatLit? with
 |some 5=>return #[<-`(_),<-`(rfl)]
 |some 7=>return #[<-`(rfl)]
 |some 9=>return #[<-`(by lia)]
 |some 4=>return #[<-`(_),<-`(_),<-`(rfl),<-`(rfl)]
 |some 6=>return #[<-`(by decide)]
 |some 2=>return #[<-`(_),<-`(rfl),<-`(_),<-`(rfl)]
 |some 1=>return #[<-`(by decide +kernel)]
 |some 3=>return #[<-`(?_)]
 |some 8=>return #[<-`(_),<-`(_)]
 |_=>return #[x]
local macro_rules
 |`(tactic|exists $es,*)=>do
  let l<-es.getElems.flatMapM dgt
  `(tactic|refine ⟨$l,*, ?_⟩)
open Prod renaming mk->pq
local macro_rules
 |`(($a,$b,*))=>do
  let l<-(#[a]++b.getElems).flatMapM dgt
  `(⟨$l,*⟩)
local macro_rules
 |`(⋯)=>`((by lia))
local macro_rules
 |`(∅)=>`((by decide))
namespace L2
open PySem PySem.Spec PyProof.Rows
variable{s:Shared}{w:World}{A:Around}{E:Value->Shared->Prop}{prog:Program}{π:List (Addr×Obj)}{e o b tg:Expr}{K:PySem.W.Frag}{a f C S c dx Pt:Addr}{h' base h:Heap}{mg:Str->Option Value}{x qual name:Str}{N ps:List Str}{scope:Scope}{fd:FuncData}{p apos:Pos}{st:Stmt}{outer:List Env}{n i R:Nat}{d M:List Int}{g:List Addr}{j:Array Keyed}{m:Int}{q:Value}{r:List Value}{u:List Nat}{v:Option Value->Shared->Prop}{y:List Expr}{z:List (Str×Addr)}{B:List (List Nat)}{G:Array Value}{I:List (Str×Nat)}{J:SortSt}{O:SetTable}{Q:Type}{T:Value->Addr->Result->Shared->Prop}{U:List (Int×Value)}{Y:Option Nat->SortSt->Prop}
abbrev Key:=Sum Int Str
def xV:Key->Value->Bool
 |.inl k,v=>Value.isInt k v
 |.inr x,v=>Value.isStrOf x v
def Sv(w:World):Key->Int
 |.inl k=>hashInt k
 |.inr x=>hashStr w x
theorem cC:∀{k:Key}{v:Value},xV k v=true->(∃i t,k=Sum.inl i/\v=Value.int i t)\/(∃x t,k=Sum.inr x/\v=Value.str x t)
 |.inl i,v,h=>by
  obtain⟨t,e⟩:=Value.isInt_shape (k:=i) (v:=v) h;exact .inl (i,t,7,e)
 |.inr x,v,h=>by
  obtain⟨t,e⟩:=Value.isStrOf_shape (x:=x) (v:=v) h;exact .inr (x,t,7,e)
theorem Jx(i:Int)(t:Tok):xV (.inl i) (.int i t)=true:=by simp[xV,Value.isInt]
theorem HS(x:Str)(t:Tok):xV (.inr x) (.str x t)=true:=by simp[xV,Value.isStrOf]
theorem Qz(a b:Int):decide ((Sum.inl a:Key)=Sum.inl b)=(a==b):=by
 by_cases e:a=b
 ·subst e;simp
 ·have h:¬(Sum.inl a:Key)=Sum.inl b:=λq=>e (Sum.inl.inj q);rw[decide_eq_false h];exact(beq_eq_false_iff_ne.mpr e).symm
theorem QS(a b:Str):decide ((Sum.inr a:Key)=Sum.inr b)=decide (a=b):=by
 by_cases e:a=b
 ·subst e;simp
 ·have h:¬(Sum.inr a:Key)=Sum.inr b:=λq=>e (Sum.inr.inj q);rw[decide_eq_false h,decide_eq_false e]
theorem PJ(a:Int)(b:Str):decide ((Sum.inl a:Key)=Sum.inr b)=false:=decide_eq_false (λq=>nomatch q)
theorem Pz(a:Str)(b:Int):decide ((Sum.inr a:Key)=Sum.inl b)=false:=decide_eq_false (λq=>nomatch q)
def dG(prog:Program)(w:World):PySem.KeyKind prog w Key where
 is:=xV
 hash:=Sv w
 inj:=λv a b l f=>by
  rcases cC l with ⟨i,t,rfl,rfl⟩|⟨x,t,rfl,rfl⟩
  ·rcases cC f with ⟨j,u,rfl,e⟩|⟨y,u,rfl,e⟩
   ·injection e with c _;rw[c]
   ·exact nomatch e
  ·rcases cC f with ⟨j,u,rfl,e⟩|⟨y,u,rfl,e⟩
   ·exact nomatch e
   ·injection e with c _;rw[c]
 byValue:=λk v h=>by
  rcases cC h with ⟨i,t,rfl,rfl⟩|⟨x,t,rfl,rfl⟩<;>rfl
 pyHash:=λd h=>by
  rcases cC d with ⟨i,t,rfl,rfl⟩|⟨x,t,rfl,rfl⟩
  ·exact wpAny_pyHash_int h
  ·exact wpAny_pyHash_str h
 eqBool:=λg d h=>by
  rcases cC g with ⟨i,t,rfl,rfl⟩|⟨x,t,rfl,rfl⟩
  ·rcases cC d with ⟨j,u,rfl,rfl⟩|⟨y,u,rfl,rfl⟩
   ·rw[Qz]at h;exact wpAny_eqBool_int h
   ·rw[PJ]at h;exact SeqAt.EqAt.int_str i t y u _ _ _ _ h
  ·rcases cC d with ⟨j,u,rfl,rfl⟩|⟨y,u,rfl,rfl⟩
   ·rw[Pz]at h;exact SeqAt.EqAt.str_int x t j u _ _ _ _ h
   ·rw[QS]at h;exact wpAny_eqBool_str h
 «strs»:=λk x t v h=>by
  rcases cC h with ⟨i,u,rfl,e⟩|⟨y,u,rfl,e⟩
  ·exact nomatch e
  ·injection e with c _
   subst c;cases v<;>rfl
theorem Di(prog:Program)(w:World)(i:Int)(t:Tok):(dG prog w).is (.inl i) (.int i t)=true:=Jx i t
theorem Bk(prog:Program)(w:World)(x:Str)(t:Tok):(dG prog w).is (.inr x) (.str x t)=true:=HS x t
inductive V where
 | non|bl (b:Bool) | int (i:Int) | str (x:Str) | Vd (b:Array UInt8) | flt (b:UInt64) | ref (a:Addr) | ty (n:String)
 deriving DecidableEq
def RelV:V->Value->Prop
 |.non,u=>u=Value.none
 |.bl b,u=>u=Value.bool b
 |.int i,u=>∃t,u=Value.int i t
 |.str x,u=>∃t,u=Value.str x t
 |.Vd b,u=>∃t,u=Value.bytes b t
 |.flt b,u=>∃t,u=Value.float b t
 |.ref a,u=>u=Value.ref a
 |.ty n,u=>u=Value.type n
abbrev Vals:List V->List Value->Prop:=Paired RelV
theorem Vals.length{xs:List V}{a:List Value}(r:Vals xs a):xs.length=a.length:=Paired.length r
theorem Vals.get:∀{xs:List V}{a:List Value}{i:Nat}{x:V},Vals xs a->xs[i]?=some x -> ∃u,a[i]?=some u/\RelV x u
 |_,_,_,_,.nil,e=>by simp at e
 |_,_,0,_,.cons r _,e=>by simp at e;subst e;exact(5,r)
 |_,_,i+1,x,.cons _ t,e=>by
  obtain⟨u,c,b⟩:=Vals.get (i:=i) (x:=x) t (by simpa using e);exact(u,by simpa using c,b)
theorem Vals.set{x:V}{u:Value}(r:RelV x u):∀{xs:List V}{a:List Value} (i:Nat),Vals xs a->Vals (xs.set i x) (a.set i u)
 |_,_,_,.nil=>.nil
 |_,_,0,.cons _ t=>.cons r t
 |_,_,i+1,.cons q t=>.cons q (Vals.set r i t)
theorem Vals.append:∀{xs ys:List V}{b a:List Value},Vals xs b->Vals ys a->Vals (xs++ys) (b++a)
 |_,_,_,_,.nil,s=>s
 |_,_,_,_,.cons r t,s=>.cons r (Vals.append t s)
theorem Vals.take:∀{xs:List V}{a:List Value} (n:Nat),Vals xs a->Vals (xs.take n) (a.take n)
 |_,_,0,_=>.nil
 |_,_,_+1,.nil=>.nil
 |_,_,n+1,.cons r t=>.cons r (Vals.take n t)
theorem Vals.drop:∀{xs:List V}{a:List Value} (n:Nat),Vals xs a->Vals (xs.drop n) (a.drop n)
 |_,_,0,r=>r
 |_,_,_+1,.nil=>.nil
 |_,_,n+1,.cons _ t=>Vals.drop n t
def uH:Option V->Option Value->Prop
 |some v,some u=>RelV v u
 |none,none=>True
 |_,_=>False
def KV{κ:Type}:List (κ×V)->List (κ×Value)->Prop:=Paired λ(p:κ×V) (q:κ×Value)=>p.1=q.1/\RelV p.2 q.2
def kV:Key->V
 |.inl i=>.int i
 |.inr x=>.str x
inductive HO where
  | lst (xs:List V)
  | tup (xs:List V)
  | dK (kvs:List (Key×V)) | dT (kvs:List (List Key×V))
  | set (S:Int->Bool) (n:Nat)
  | ins (C dx:Addr) (fs:List (Str×V))
  | own (x:Addr)
  | xd (fs:List (Str×V))
  | met (f x:Addr)
  | Xw (lo hi:Int)
  | Ul (o:Obj) (u:HO)
  | Tv (ps:Array Value)
  | ext (φ:Heap->Prop)
abbrev Hp:=Addr->Option HO
def upd(H:Hp)(a:Addr)(o:HO):Hp:=λb=>if b=a then some o else H b
theorem aq{H:Hp}{a:Addr}{o:HO}:upd H a o a=some o:=by unfold upd;rw[if_pos rfl]
theorem aH{H:Hp}{a b:Addr}{o:HO}(h:b≠a):upd H a o b=H b:=by unfold upd;rw[if_neg h]
theorem nF{H:Hp}{a:Addr}{o u:HO}:upd (upd H a o) a u=upd H a u:=by
 funext b;unfold upd;split<;>rfl
theorem RG{H:Hp}{a b:Addr}{o u:HO}(h:H a=some o)(h':H b=some u)(d:o≠u):a≠b:=by
 intro e;subst e;rw[h]at h';exact d (aao h')
theorem aJ{H:Hp}{a b:Addr}{o:HO}(h:H a=some o)(h':H b=none):a≠b:=by
 intro e;subst e;rw[h]at h';cases h'
section
variable(P:Program)(w:World)
def bJ(H:Hp)(h:Heap)(a:Addr):HO->Prop
 |.lst d=>d.length<=sizeLine /\ ∃(c:List Value) (n:Nat),Vals d c/\h.get? a=some {cls:=.type "list",data:=.seq c.toArray n}
 |.tup d=>d.length<=sizeLine /\ ∃c:List Value,Vals d c/\IsTup h a c.toArray
 |.dK b=>b.length<=sizeLine/\(a==sysModules)=false /\ ∃k,KV b k/\h.DictOf (dG P w) a k
 |.dT b=>b.length<=sizeLine/\(a==sysModules)=false /\ ∃d:List (List Key×Addr×Value),
   Paired (λ(p:List Key×V) (q:List Key×Addr×Value)=>p.1=q.1/\H q.2.1=some (.tup (p.1.map kV))/\RelV p.2 q.2.2) b d /\
   ∃o r A,h.get? a=some o/\o.ExactDict/\o.data=.dict r A/\r.toList=d.map (entryOfKey (tupleKind (dG P w)))/\(d.map (·.1)).Nodup
 |.set S n=>h.SetOf (intKind P w) a S n
 |.ins C i g=>H i=some (.own a)/\g.length<=1000/\i≠a/\h.get? a=some (PySem.W.instObj C i) /\
   ∃e,h.Ns1 i e/\(∀f,uH (g.lookup f) (e f))/\PySem.Within e (g.map (·.1))
 |.own _=>∃o,h.get? a=some o
 |.xd g=>∃e,h.Ns1 a e /\ ∀f,uH (g.lookup f) (e f)
 |.Xw y z=>∃t u v,h.get? a=some {cls:=.type "range",data:=.fields #[.int y t,.int z u,.int 1 v]}
 |.Ul o u=>h.get? a=some o/\bJ H h a u
 |.Tv s=>h.get? a=some {cls:=.none,data:=.fields s}
 |.met f x=>h.get? a=some (PySem.W.methodObj (.ref f) (.ref x))
 |.ext j=>j h/\(∃o,h.get? a=some o) /\ ∀m l:Heap,j m->(∀o,m.get? a=some o->l.get? a=some o)->j l
def TJ(H:Hp)(h:Heap):Prop:=∀a o,H a=some o->bJ P w H h a o
end
section
variable{P:Program}{H H':Hp}{o:HO}
theorem bJ.lt(x:bJ P w H h a o):a<h.objs.size:=by
 cases o with
 |lst c=>obtain⟨_,_,_,_,e⟩:=x;exact Heap.lt_size e
 |tup c=>obtain⟨_,_,_,p⟩:=x;exact p.lt
 |dK b=>obtain⟨_,_,_,_,o,_,_,e,_⟩:=x;exact Heap.lt_size e
 |dT b=>obtain⟨_,_,_,_,o,_,_,e,_⟩:=x;exact Heap.lt_size e
 |set S n=>obtain⟨o,_,_,_,e,_⟩:=x;exact Heap.lt_size e
 |ins C m d=>obtain⟨_,_,_,e,_⟩:=x;exact Heap.lt_size e
 |own y=>obtain⟨_,e⟩:=x;exact Heap.lt_size e
 |xd d=>obtain⟨_,⟨_,_,_,e,_⟩,_⟩:=x;exact Heap.lt_size e
 |Xw k l=>obtain⟨_,_,_,e⟩:=x;exact Heap.lt_size e
 |Ul j u=>obtain⟨e,_⟩:=x;exact Heap.lt_size e
 |Tv i=>exact Heap.lt_size (show h.get? a=some _ from x)
 |met f y=>exact Heap.lt_size (show h.get? a=some _ from x)
 |ext g=>obtain⟨_,⟨_,e⟩,_⟩:=x;exact Heap.lt_size e
theorem Paired.mapP{e d:Type}{F G:e->d->Prop}:∀{c:List e}{l₂:List d},Paired F c l₂->(∀a b,F a b->G a b)->Paired G c l₂
 |_,_,.nil,_=>.nil
 |_,_,.cons r t,f=>.cons (f _ _ r) (Paired.mapP t f)
theorem bJ.stay(x:bJ P w H h a o)(k:∀b u,(b=a\/H b=some (.own a))->h.get? b=some u->h'.get? b=some u)
  (I:∀b,H b=some (.own a)->H' b=some (.own a))(ht:∀b xs,H b=some (.tup xs)->H' b=some (.tup xs)):bJ P w H' h' a o:=by
 induction o with
 |lst xs=>obtain⟨z,l,n,r,e⟩:=x;exact(z,l,n,r,k _ _ (.inl rfl) e)
 |tup xs=>obtain⟨z,l,r,g,e,c⟩:=x;exact(z,l,r,g,k _ _ (.inl rfl) e,c)
 |dK A=>obtain⟨z,y,E,r,g,i,j,e,c⟩:=x;exact(z,y,E,r,g,i,j,k _ _ (.inl rfl) e,c)
 |dT A=>
  obtain⟨z,y,xs,r,g,i,j,e,c⟩:=x;exact(z,y,xs,Paired.mapP r λp q z=>(z.1,ht _ _ z.2.1,z.2.2),g,i,j,k _ _ (.inl rfl) e,c)
 |set S n=>obtain⟨g,i,j,t,e,c⟩:=x;exact(g,i,j,t,k _ _ (.inl rfl) e,c)
 |ins C O J=>
  obtain⟨d,z,F,e,s,⟨m,i,j,K,c⟩,r⟩:=x;exact(I _ d,z,F,k _ _ (.inl rfl) e,s,(m,i,j,k _ _ (.inr d) K,c),r)
 |own y=>obtain⟨g,e⟩:=x;exact(g,k _ _ (.inl rfl) e)
 |xd J=>obtain⟨s,⟨m,i,j,e,c⟩,r⟩:=x;exact(s,(m,i,j,k _ _ (.inl rfl) e,c),r)
 |Xw M N=>obtain⟨t,u,v,e⟩:=x;exact(t,u,v,k _ _ (.inl rfl) e)
 |Ul g u G=>obtain⟨e,q⟩:=x;exact(k _ _ (.inl rfl) e,G q)
 |Tv D=>
  have e:h.get? a=some {cls:=.none,data:=.fields D}:=x;show h'.get? a=some {cls:=.none,data:=.fields D};exact k a _ (.inl rfl) e
 |met f y=>
  have e:h.get? a=some (PySem.W.methodObj (.ref f) (.ref y)):=x;show h'.get? a=some (PySem.W.methodObj (.ref f) (.ref y));exact k a _ (.inl rfl) e
 |ext L=>obtain⟨p,⟨o,e⟩,B⟩:=x;exact(B _ _ p λo q=>k _ _ (.inl rfl) q,(o,k _ _ (.inl rfl) e),B)
theorem TJ.lt(x:TJ P w H h)(e:H a=some o):a<h.objs.size:=(x a o e).lt
theorem TJ.fresh(x:TJ P w H h)(e:h.objs.size<=a):H a=none:=by
 cases q:H a with
 |none=>rfl
 |some u=>exact absurd (aai (x.lt q) e) (afL _)
theorem TJ.kept(x:TJ P w H h)(k:∀b u,h.get? b=some u->h'.get? b=some u):TJ P w H h':=λa o e=>
 (x a o e).stay (λb u _ q=>k b u q) (λ_ q=>q) λ_ _ q=>q
theorem TJ.laid(x:TJ P w H h)(k:∀b u,h.get? b=some u->h'.get? b=some u)(i:h.objs.size<=a)(d:bJ P w (upd H a o) h' a o):TJ P w (upd H a o) h':=λb u e=>by
 have f:=x.fresh i;by_cases g:b=a
 ·subst g;rw[aq]at e;cases e;exact d
 ·rw[aH g]at e;exact(x b u e).stay (λc v _ q=>k c v q) (λc q=>by rw[aH (aJ q f)];exact q) λc j q=>by rw[aH (aJ q f)];exact q
end
def Rd(H:Hp)(a:Addr)(u:HO):Prop:=H a=some u \/ ∃o,H a=some (.Ul o u)
theorem Rd.ok{w:World}{H:Hp}{a:Addr}{u:HO}(r:Rd H a u)(x:TJ prog w H h'):bJ prog w H h' a u:=by
 rcases r with r|⟨o,r⟩
 ·exact x a u r
 ·obtain⟨_,q⟩:=x a _ r;exact q
def WR:Option HO->Prop
 |some (.lst _)=>True
 |some (.dK _)=>True
 |some (.dT _)=>True
 |some (.set _ _)=>True
 |some (.ins _ _ _)=>True
 |some (.ext _)=>True
 |_=>False
section
variable{P:Program}{H:Hp}{x e:Addr}{o':HO}
theorem TJ.write(s:TJ P w H h)(i:WR (H x))(p:e=x\/H e=some (.own x))(k:∀b u,b≠e->h.get? b=some u->h'.get? b=some u)(n:∃u,h'.get? e=some u)
  (m:bJ P w (upd H x o') h' x o'):TJ P w (upd H x o') h':=λb u q=>by
 have d:∀c y,H c=some (.own y)->c≠x:=λc y r z=>by subst z;rw[r]at i;exact i
 have f:∀c g,H c=some (.tup g)->c≠x:=λc g r z=>by subst z;rw[r]at i;exact i
 by_cases l:b=x
 ·subst l;rw[aq]at q;cases q;exact m
 ·rw[aH l]at q;by_cases a:b=e
  ·have o:H b=some (.own x):=by
    rcases p with z|z
    ·exact absurd (a.trans z) l
    ·rw[a];exact z
   rw[q]at o;cases o;obtain⟨v,t⟩:=n;exact(v,by rw[a];exact t)
  ·refine(s b u q).stay (λc v j r=>k c v ?_ r) (λc r=>by rw[aH (d c b r)];exact r) λc g r=>by rw[aH (f c g r)];exact r
   rcases j with rfl|j
   ·exact a
   ·rintro rfl;rcases p with z|z
    ·exact d c b j z
    ·rw[j]at z;cases z;exact l rfl
end
structure Un(fs ex:List Addr)(H H':Hp)(h h':Heap):Prop where
 keep:∀b o,h.get? b=some o->H b=none->b∉fs->b∉ex->h'.get? b=some o
 slot:∀b o,h.get? b=some o->H b=none->b∈fs->b∉ex -> ∃sl,h'.get? b=some {o with slots:=sl}
 free:∀b o,h.get? b=some o->H b=none->b∉ex->H' b=none
 there:∀b o,h.get? b=some o->b∉ex -> ∃o',h'.get? b=some o'
 tups:∀b xs,H b=some (.tup xs)->H' b=some (.tup xs)
 frzs:∀b o u,H b=some (.Ul o u)->H' b=some (.Ul o u)
 tbls:∀b ps,H b=some (.Tv ps) -> ∃more,H' b=some (.Tv (ps++more))
section
variable{fs fs' ex ex':List Addr}{H H1 H2:Hp}{h1 h2:Heap}{x e:Addr}{o:HO}
theorem Un.any(u:Un fs ex H H1 h h1){b:Addr}{c:Obj}(q:h.get? b=some c)(n:H b=none)(d:b∉ex):∃g,h1.get? b=some {c with slots:=g}:=by
 by_cases f:b∈fs
 ·exact u.slot b c q n f d
 ·exact(c.slots,u.keep b c q n f d)
theorem Un.kept(k:∀b u,h.get? b=some u->h'.get? b=some u):Un fs ex H H h h':=
 (λb c q _ _ _=>k b c q,λb c q _ _ _=>(c.slots,k b c q),λ_ _ _ n _=>n,λb c q _=>(c,k b c q),λ_ _ q=>q,λ_ _ _ q=>q,λ_ d q=>(#[],by rw[q];simp))
theorem Un.refl:Un fs ex H H h h:=Un.kept λ_ _ q=>q
theorem Un.laid(k:∀b u,h.get? b=some u->h'.get? b=some u)(f:h.objs.size<=a)(c:H a=none):Un fs ex H (upd H a o) h h' where
 keep:=λb u q _ _ _=>k b u q
 slot:=λb u q _ _ _=>(u.slots,k b u q)
 free:=λb u q n _=>by rw[aH (aap (aai (Heap.lt_size q) f))];exact n
 there:=λb u q _=>(u,k b u q)
 tups:=λb d q=>by rw[aH (aJ q c)];exact q
 frzs:=λb u d q=>by rw[aH (aJ q c)];exact q
 tbls:=λb g q=>(#[],by rw[aH (aJ q c),q];simp)
theorem Un.write(d:WR (H x))(p:e=x\/H e=some (.own x))(k:∀b u,b≠e->h.get? b=some u->h'.get? b=some u)(g:∃u,h'.get? e=some u):Un fs ex H (upd H x o) h h':=by
 have i:∀b,H b=none->b≠x:=λb n z=>by subst z;rw[n]at d;exact d
 have j:∀b,H b=none->b≠e:=λb n z=>by
  subst z;rcases p with r|r
  ·exact i b n r
  ·rw[n]at r;cases r
 have f:∀b u,H b=some u -> ¬WR (some u)->b≠x:=λb u q m z=>by subst z;rw[q]at d;exact m d
 refine(λb u q n _ _=>k b u (j b n) q,λb u q n _ _=>(u.slots,k b u (j b n) q),λb u q n _=>by rw[aH (i b n)];exact n,λb u q _=>?_,
  λb l q=>by rw[aH (f b _ q λz=>z)];exact q,λb u l q=>by rw[aH (f b _ q λz=>z)];exact q,λb s q=>(#[],by rw[aH (f b _ q λz=>z),q];simp))
 by_cases c:b=e
 ·subst c;exact g
 ·exact(u,k b u c q)
end
def VH(h:Heap)(H:Hp):List Addr:=(ab5 h.objs.size).filter λa=>(H a).isSome
def wg(h:Heap)(H:Hp):Heap:=PySem.W.hideAll h (VH h H)
theorem Jq(h:Heap)(H:Hp):(wg h H).objs.size=h.objs.size:=PySem.W.hideAll_size _ _
theorem J1{H:Hp}{b:Addr}{o:Obj}(e:h'.get? b=some o)(n:H b=none):(wg h' H).get? b=some o:=
 PySem.W.hideAll_get _ e λa=>by
  have q:(H b).isSome=true:=(aiN.mp a).2;rw[n]at q;simp at q
theorem Om{H:Hp}{b:Addr}{o:Obj}(e:(wg h' H).get? b=some o):h'.get? b=some o/\H b=none:=by
 have a:h'.get? b=some o:=PySem.W.of_hideAll (VH h' H) e;exists a;cases q:H b with
 |none=>rfl
 |some x=>
  have c:b∈VH h' H:=aiN.mpr (agU.mpr (Heap.lt_size a),by simp[q]);have z:(wg h' H).get? b=none:=PySem.W.hideAll_none (VH h' H) c;rw[z]at e;cases e
def Oj(g h:Heap)(L:Addr):List (Addr×Obj):=(ab5 h.objs.size).filterMap λa=>if a=L\/(g.get? a).isSome=true then none else (h.get? a).map λo=>(pq a o)
def rest(g h:Heap)(L d:Addr):List (Addr×Obj):=(Oj g h L).filter λp=>decide (p.1≠d)
structure Mod(K:PySem.W.Frag)(mg:Str->Option Value)(base:Heap):Prop where
 WT:K.In base
 glob:base.Ns mainGlobals mg
 blt:∃mb,base.Ns builtinsNs mb /\ ∀x:Str,x ≠ "__name__" -> mb x=bootBuiltins x
 nolimit:base.NoLimit
structure Cx where
 prog:Program
 w:World
 K:PySem.W.Frag
 mg:Str->Option Value
 base:Heap
 A:Around
 N:List Str
 s₀:Shared
 H₀:Hp
 env:Env
 outer:List Env
 stack:List Env
 ex:List Addr
 fn:Str->Bool
 calm:Bool
 pn:List (Addr×Obj)
 xe:Value->Shared->Prop
def frs(l:List Env):List Addr:=l.filterMap (·.frame)
abbrev Cx.fs(X:Cx):List Addr:=frs X.outer
def WW(a:Scope)(x:Str):Prop:=a.names.lookup x=some .local\/a.names.lookup x=some .cell\/a.names.lookup x=some .free
def Loc(a:Scope)(x:Str):Prop:=a.names.lookup x=some .local\/a.names.lookup x=some .cell
def Look(a:Env)(h:Heap)(m:Str->Option Value)(x:Str)(u:Value):Prop:=
 (a.kindOf x=some .local/\m x=some u)\/((a.kindOf x=some .cell\/a.kindOf x=some .free) /\ ∃c,a.cells.lookup x=some c/\h.IsCell c (some u))
structure Cx.Ok(X:Cx):Prop where
 mod:Mod X.K X.mg X.base
 kind:X.env.scope.kind=.function
 glob:X.env.globals=mainGlobals
 blt:X.env.builtins=builtinsNs
 above:X.s₀.heap.objs.size<=X.env.locals
 inj:∀x y c,X.env.cells.lookup x=some c->X.env.cells.lookup y=some c->x=y
 has:∀x,(X.env.kindOf x=some .cell\/X.env.kindOf x=some .free) -> ∃c,X.env.cells.lookup x=some c
 cab:∀x c,X.fn x=true->X.env.cells.lookup x=some c->X.s₀.heap.objs.size<=c
 hd:X.calm=true->X.A.handled=none
 frames:X.A.frames=some X.stack
 V7:X.stack=X.outer\/(X.stack=X.env::X.outer/\X.env.frame=some X.env.locals)
 exf:∀b∈X.ex,b≠X.env.locals /\ ∀x c,X.env.cells.lookup x=some c->c≠b
 bs:∀b o,X.base.get? b=some o->X.s₀.heap.get? b=some o/\X.H₀ b=none
 Ve:X.base.objs.size<=X.s₀.heap.objs.size
 noex:∀b o,X.base.get? b=some o->b∉X.ex
 exfs:∀b∈X.ex,b∉X.fs
 funs:X.s₀.heap.FunFrames X.base X.outer
 Vs:∀b∈X.fs,X.H₀ b=none
structure Inv(X:Cx)(π:List (Addr×Obj))(σ:List (Option V))(H:Hp)(s:Shared):Prop where
 ok:X.Ok
 os:s.os=X.s₀.os
 bare:AllBare s.gens
 base:Un X.fs X.ex X.H₀ H X.s₀.heap s.heap
 loc:∃m,s.heap.Ns X.env.locals m /\ ∀(i:Nat) (x:Str) (v:V),X.N[i]?=some x->σ[i]?=some (some v)->WW X.env.scope x -> ∃u,RelV v u/\Look X.env s.heap m x u
 cell:∀x c,X.env.cells.lookup x=some c -> ∃v,s.heap.IsCell c v
 free:H X.env.locals=none
 freeC:∀x c,X.env.cells.lookup x=some c->H c=none
 pin:∀p∈X.pn++π,s.heap.get? p.1=some p.2/\H p.1=none/\p.1≠X.env.locals/\p.1∉X.fs /\ ∀v,p.2.data ≠ .cell v
 hok:TJ X.prog X.w H s.heap
 len:σ.length=X.N.length
section
variable{X:Cx}{σ:List (Option V)}{H H':Hp}
theorem Cx.Ok.nofr(a:X.Ok){b:Addr}{o:Obj}(e:X.base.get? b=some o):b∉X.fs:=λc=>by
 have:=(a.funs.mem c).1;rw[e]at this;cases this
theorem Inv.bs(I:Inv X π σ H s):∀b o,X.base.get? b=some o->s.heap.get? b=some o/\H b=none:=λb o e=>
 (I.base.keep b o (I.ok.bs b o e).1 (I.ok.bs b o e).2 (I.ok.nofr e) (I.ok.noex b o e),I.base.free b o (I.ok.bs b o e).1 (I.ok.bs b o e).2 (I.ok.noex b o e))
theorem Inv.bk(I:Inv X π σ H s):∀b o,X.base.get? b=some o->s.heap.get? b=some o:=λb o e=>(I.bs b o e).1
theorem Inv.mod(I:Inv X π σ H s):Mod X.K X.mg X.base:=I.ok.mod
theorem Inv.Ur(I:Inv X π σ H s):X.K.In s.heap:=I.ok.mod.WT.keeps I.bk
theorem Inv.lt(I:Inv X π σ H s):X.env.locals<s.heap.objs.size:=let ⟨_,hn,_⟩:=I.loc;hn.lt
theorem Inv.sz(I:Inv X π σ H s):X.s₀.heap.objs.size<=s.heap.objs.size:=afJ I.ok.above (ae8 I.lt)
theorem Inv.nofs(I:Inv X π σ H s){a:Addr}(h:s.heap.objs.size<=a):a∉X.fs:=λc=>by
 obtain⟨_,o,b,_⟩:=I.ok.funs.mem c;exact absurd (aai (Heap.lt_size b) (afJ I.sz h)) (afL _)
theorem Inv.V8(I:Inv X π σ H s):∀x c,X.env.cells.lookup x=some c->c≠X.env.locals:=λx c e z=>by
 obtain⟨v,o,d,hd⟩:=I.cell x c e;obtain⟨m,⟨f,g,h,a,b,_⟩,_⟩:=I.loc;rw[z,a]at d;cases d;rw[b]at hd;cases hd
theorem Inv.funs(I:Inv X π σ H s):s.heap.FunFrames X.base X.outer:=by
 have f:∀(l:List Env),(∀b∈frs l,b∈X.fs)->X.s₀.heap.FunFrames X.base l->s.heap.FunFrames X.base l:=by
  intro l
  induction l with
  |nil=>intro _ _;trivial
  |cons p r h=>
   intro g m;obtain⟨n,⟨L,o,a,k,j,hd⟩,i⟩:=m;have d:L∈X.fs:=g L (by unfold frs;rw[agR,a];exact abB);obtain⟨q,e⟩:=I.base.slot L o j (I.ok.Vs L d) d λz=>I.ok.exfs L z d;exact(n,(L,_,a,k,e,hd),h (λb c=>g b (by unfold frs;rw[agR,a];exact aaR _ c)) i)
 exact f X.outer (λ_ c=>c) I.ok.funs
theorem Inv.stack(I:Inv X π σ H s):s.heap.FunFrames X.base X.stack:=by
 rcases I.ok.V7 with e|⟨e,b⟩
 ·rw[e];exact I.funs
 ·rw[e];obtain⟨m,a,_⟩:=I.loc;refine .cons (by rw[I.ok.kind];decide) b a ?_ I.funs;exact Heap.get?_none_of_le (afJ I.ok.Ve I.ok.above)
theorem Inv.stkSub(I:Inv X π σ H s):∀b∈frs X.stack,b∈X.env.locals::X.fs:=λb a=>by
 rcases I.ok.V7 with e|⟨e,c⟩
 ·rw[e]at a;exact aaR _ a
 ·rw[e]at a;unfold frs at a;rw[agR,c]at a;exact a
theorem Inv.stkFree(I:Inv X π σ H s):∀b∈frs X.stack,H b=none:=λb a=>by
 rcases aaO.mp (I.stkSub b a)with e|a
 ·rw[e];exact I.free
 ·obtain⟨_,o,c,_⟩:=I.ok.funs.mem a;exact I.base.free b o c (I.ok.Vs b a) λz=>I.ok.exfs b z a
theorem Inv.step{g':Array GenState}{t':Nat}{d':Drawn}{ch:List Addr}(I:Inv X π σ H s)
  (g:∀b∈ch,(b∈X.ex\/X.s₀.heap.objs.size<=b)/\b≠X.env.locals/\(∀x c,X.env.cells.lookup x=some c->c≠b) /\ ∀p∈X.pn++π,p.1≠b)
  (h:∀b o,b≠X.env.locals->b∉X.fs->b∉ch->s.heap.get? b=some o->H b=none->h'.get? b=some o)
  (y:∀b o,b≠X.env.locals->b∈X.fs->b∉ch->s.heap.get? b=some o->H b=none -> ∃O,h'.get? b=some {o with slots:=O})(f:∀b o,b∉ch->s.heap.get? b=some o->H b=none->H' b=none)
  (B:∀b o,b∉ch->s.heap.get? b=some o -> ∃D,h'.get? b=some D)
  (J:∀b xs,H b=some (.tup xs)->H' b=some (.tup xs))(M:∀b o u,H b=some (.Ul o u)->H' b=some (.Ul o u))(K:∀b ps,H b=some (.Tv ps) -> ∃L,H' b=some (.Tv (ps++L)))
  (V:∀m,s.heap.Ns X.env.locals m->h'.Ns X.env.locals m)(Q:TJ X.prog X.w H' h')(hg:AllBare g'):
  Inv X π σ H' {s with heap:=h',gens:=g',drawn:=d',toks:=t'}:=by
 have G:∀b o,X.s₀.heap.get? b=some o->b≠X.env.locals:=λb o e=>aap (aai (Heap.lt_size e) I.ok.above);have N:∀b o,X.s₀.heap.get? b=some o->b∉X.ex->b∉ch:=λb o e a A=>by
  rcases(g b A).1 with z|z
  ·exact a z
  ·exact absurd (aai (Heap.lt_size e) z) (afL _)
 have j:∀x c,X.env.cells.lookup x=some c -> ∀v,s.heap.IsCell c v->h'.IsCell c v:=λx c e v ⟨o,C,hd⟩=>by
  have F:c∉ch:=λz=>(g c z).2.2.1 x c e rfl;by_cases U:c∈X.fs
  ·obtain⟨O,q⟩:=y c o (I.V8 x c e) U F C (I.freeC x c e);exact(_,q,hd)
  ·exact(o,h c o (I.V8 x c e) U F C (I.freeC x c e),hd)
 refine(I.ok,I.os,hg,(λb o e n A a=>?_,λb o e n A a=>?_,λb o e n a=>?_,λb o e a=>?_,λb xs e=>J b xs (I.base.tups b xs e),λb o xs e=>M b o xs (I.base.frzs b o xs e),λb ps e=>?_),3,λx c e=>?_,3,λx c e=>?_,λp T=>?_,Q,I.len)
 ·exact h b o (G b o e) A (N b o e a) (I.base.keep b o e n A a) (I.base.free b o e n a)
 ·obtain⟨O,t⟩:=I.base.slot b o e n A a;obtain⟨P,E⟩:=y b _ (G b o e) A (N b o e a) t (I.base.free b o e n a);exact(P,E)
 ·obtain⟨D,t⟩:=I.base.there b o e a;exact f b D (N b o e a) t (I.base.free b o e n a)
 ·obtain⟨D,t⟩:=I.base.there b o e a;exact B b D (N b o e a) t
 ·obtain⟨Y,t⟩:=I.base.tbls b ps e;obtain⟨W,E⟩:=K b _ t;exact(Y++W,by rw[E,aio])
 ·obtain⟨m,Z,hl⟩:=I.loc;refine(m,V m Z,λi x v t E e3=>?_);obtain⟨u,r,l⟩:=hl i x v t E e3;exists u,r;rcases l with l|⟨k,c,e,z⟩
  ·exact .inl l
  ·exact .inr (k,c,e,j x c e _ z)
 ·obtain⟨v,z⟩:=I.cell x c e;exact(v,j x c e v z)
 ·obtain⟨m,⟨o,_,_,C,_⟩,_⟩:=I.loc;exact f _ o (λz=>(g _ z).2.1 rfl) C I.free
 ·obtain⟨v,o,C,hd⟩:=I.cell x c e;exact f c o (λz=>(g c z).2.2.1 x c e rfl) C (I.freeC x c e)
 ·obtain⟨e,n,S,R,d⟩:=I.pin p T;have F:p.1∉ch:=λz=>(g p.1 z).2.2.2 p T rfl;exact(h p.1 p.2 S R F e n,f p.1 p.2 F e n,S,R,d)
theorem Inv.un{t':Nat}(I:Inv X π σ H s)(u:Un X.fs [] H H' s.heap h')(d:TJ X.prog X.w H' h'):Inv X π σ H' {s with heap:=h',toks:=t'}:=by
 obtain⟨m,⟨o,t,v,h,r⟩,_⟩:=id I.loc;obtain⟨l,k⟩:=u.any h I.free (by simp);exact I.step (g':=s.gens) (d':=s.drawn) (ch:=[]) (λ_ z=>nomatch z) (λb o _ c _ e n=>u.keep b o e n c (by simp)) (λb o _ c _ e n=>u.slot b o e n c (by simp)) (λb o _ e n=>u.free b o e n (by simp)) (λb o _ e=>u.there b o e (by simp)) u.tups u.frzs u.tbls (λq j=>by
  obtain⟨p,f,g,a,i⟩:=j;rw[h]at a;cases a;exact(_,f,g,k,i)) d I.bare
theorem Inv.call{g':Array GenState}{t':Nat}{d':Drawn}{ch:List Addr}(I:Inv X π σ H s)(u:Un (frs X.stack) ch H H' s.heap h')(h:TJ X.prog X.w H' h')(t:AllBare g')
  (f:∀b∈ch,(b∈X.ex\/X.s₀.heap.objs.size<=b)/\b≠X.env.locals/\(∀x c,X.env.cells.lookup x=some c->c≠b) /\ ∀p∈X.pn++π,p.1≠b):
  Inv X π σ H' {s with heap:=h',gens:=g',drawn:=d',toks:=t'}:=by
 obtain⟨m,⟨o,C,D,k,r⟩,_⟩:=id I.loc;obtain⟨y,g⟩:=u.any k I.free λz=>(f _ z).2.1 rfl;exact I.step (ch:=ch) f (λb o g v a e n=>u.keep b o e n (λz=>(aaO.mp (I.stkSub b z)).elim g v) a) (λb o _ _ a e n=>u.any e n a) (λb o a e n=>u.free b o e n a) (λb o a e=>u.there b o e a) u.tups u.frzs u.tbls (λB q=>by
  obtain⟨A,i,j,d,l⟩:=q;rw[k]at d;cases d;exact(_,i,j,g,l)) h t
theorem Inv.turned{t':Nat}(I:Inv X π σ H s)(k:∀b o,b≠a->s.heap.get? b=some o->h'.get? b=some o)(i:H a=none)(g:a≠X.env.locals)
  (y:a∈X.ex\/X.s₀.heap.objs.size<=a)(w:∀x c,X.env.cells.lookup x=some c->c≠a)(t:∀p∈X.pn++π,p.1≠a):Inv X π σ H {s with heap:=h',toks:=t'}:=by
 have f:∀b u,H b=some u->b≠a:=λb u e z=>by rw[z,i]at e;cases e
 refine I.step (g':=s.gens) (d':=s.drawn) (ch:=[a]) (λb l=>?_) (λb o _ _ d e _=>k b o (λz=>d (by simp[z])) e) (λb o _ _ d e _=>(o.slots,k b o (λz=>d (by simp[z])) e)) (λ_ _ _ _ n=>n)
  (λb o d e=>(o,k b o (λz=>d (by simp[z])) e)) (λ_ _ e=>e) (λ_ _ _ e=>e) (λb C e=>(#[],by rw[e];simp)) (λm j=>?_) (λb u e=>?_) I.bare
 ·have e:b=a:=by simpa using l
  subst e;exact(y,g,w,t)
 ·obtain⟨o,A,B,h,r⟩:=j;exact(o,A,B,k _ o (af3 g) h,r)
 ·refine(I.hok b u e).stay (λc v d q=>k c v ?_ q) (λ_ q=>q) λ_ _ q=>q;rcases d with z|z
  ·rw[z];exact f b u e
  ·exact f c _ z
theorem Inv.tok(I:Inv X π σ H s)(t:Nat):Inv X π σ H {s with toks:=t}:=I.un (h':=s.heap) (t':=t) Un.refl I.hok
theorem Inv.kept{t':Nat}(I:Inv X π σ H s)(k:∀b u,s.heap.get? b=some u->h'.get? b=some u):Inv X π σ H {s with heap:=h',toks:=t'}:=I.un (Un.kept k) (I.hok.kept k)
theorem Inv.laid{a:Addr}{o:HO}{t':Nat}(I:Inv X π σ H s)(k:∀b u,s.heap.get? b=some u->h'.get? b=some u)(c:s.heap.objs.size<=a)(d:bJ X.prog X.w (upd H a o) h' a o):
  Inv X π σ (upd H a o) {s with heap:=h',toks:=t'}:=I.un (Un.laid k c (I.hok.fresh c)) (I.hok.laid k c d)
theorem Inv.write{x e:Addr}{o:HO}{t':Nat}(I:Inv X π σ H s)(d:WR (H x))(f:e=x\/H e=some (.own x))(k:∀b u,b≠e->s.heap.get? b=some u->h'.get? b=some u)(a:∃u,h'.get? e=some u)
  (c:bJ X.prog X.w (upd H x o) h' x o):Inv X π σ (upd H x o) {s with heap:=h',toks:=t'}:=I.un (Un.write d f k a) (I.hok.write d f k a c)
theorem Inv.pins_of{a:List (Addr×Obj)}(I:Inv X π σ H s)(h:∀p∈a,s.heap.get? p.1=some p.2/\H p.1=none/\p.1≠X.env.locals/\p.1∉X.fs /\ ∀v,p.2.data ≠ .cell v):Inv X a σ H s:=
 (I.ok,I.os,I.bare,I.base,I.loc,I.cell,I.free,I.freeC,λp b=>(aba.mp b).elim (λz=>I.pin p (agl _ z)) (h p),I.hok,I.len)
theorem Ba{N:List Str}(c:N.Nodup){i j:Nat}{x:Str}(a:N[i]?=some x)(b:N[j]?=some x):i=j:=by
 obtain⟨g,e⟩:=aab.mp a;obtain⟨f,d⟩:=aab.mp b;exact(List.getElem_inj c).mp (e.trans d.symm)
theorem mZ{M:Model}{A:Around}{E:Value->Shared->Prop}{i:Nat}{x:Str}{v:V}{u:Value}{Q:Unit->Shared->Prop}(I:Inv X π σ H s)(hN:X.N.Nodup)(L:X.N[i]?=some x)(B:Loc X.env.scope x)(r:RelV v u)
  (h:∀s',Inv X π (σ.set i (some v)) H s'->(∃a,Heap.SameBut a s.heap s'.heap/\(a=X.env.locals\/X.env.cells.lookup x=some a))->Q () s')(hf:X.fn x=true\/X.env.scope.names.lookup x=some .local:=by first|exact .inl rfl|exact .inr rfl|assumption):wpAny M A (storeName X.env x u) Q E s:=by
 obtain⟨m,hn,hl⟩:=id I.loc;have T:(X.env.scope.kind == .class || (X.env.scope.kind == .module&&X.env.locals != X.env.globals))=false:=by rw[I.ok.kind];rfl
 have Xy:i<σ.length:=by rw[I.len];exact(aab.mp L).1
 have V8:=I.V8;have l:∀{a:Addr}{h':Heap},(∃o,s.heap.get? a=some o/\H a=none)->Heap.SameBut a s.heap h'->TJ X.prog X.w H h':=λ{a h'} ha f b ob e=>by
  obtain⟨_,_,C⟩:=ha;refine(I.hok b ob e).stay (λc U t q=>(f.2 c ?_).trans q) (λ_ q=>q) λ_ _ q=>q;rintro rfl;rcases t with rfl|t
  ·rw[C]at e;cases e
  ·rw[C]at t;cases t
 rcases B with F|F
 ·refine wpAny_storeName_local F hn (λh' a1 f=>?_) T;obtain⟨oL,_,_,a0,_⟩:=id hn;refine h _ (I.ok,I.os,I.bare,(λb o e n J B=>?_,λb o e n J B=>?_,I.base.free,λb o e B=>?_,I.base.tups,I.base.frzs,I.base.tbls),(_,a1,λj y Z g D e3=>?_),λy c e=>?_,I.free,I.freeC,λp hp=>?_,l (oL,a0,I.free) f,by simpa using I.len) (_,f,.inl rfl)
  ·exact(f.2 b (aap (aai (Heap.lt_size e) I.ok.above))).trans (I.base.keep b o e n J B)
  ·obtain⟨sl,g⟩:=I.base.slot b o e n J B;exact(sl,(f.2 b (aap (aai (Heap.lt_size e) I.ok.above))).trans g)
  ·obtain⟨o',g⟩:=I.base.there b o e B;exact(o',(f.2 b (aap (aai (Heap.lt_size e) I.ok.above))).trans g)
  ·by_cases G:j=i
   ·subst G;rw[L]at g;cases g;rw[agV Xy]at D;cases D;exact(u,r,.inl (F,by simp))
   ·rw[aha (af3 G)]at D;obtain⟨u',r',q⟩:=hl j y Z g D e3;exists u',r';rcases q with ⟨k,e⟩|⟨k,c,e,z⟩
    ·refine .inl (k,3);have:y≠x:=λe=>G (Ba hN g (e ▸ L));simp[this,e]
    ·exact .inr (k,c,e,z.sameBut f (V8 y c e))
  ·obtain⟨U,z⟩:=I.cell y c e;exact(U,z.sameBut f (V8 y c e))
  ·obtain⟨e,n,W,nf,d⟩:=I.pin p hp;exact((f.2 p.1 W).trans e,n,W,nf,d)
 ·have K:X.fn x=true:=by
   rcases hf with z|z
   ·exact z
   ·rw[z]at F;cases F
  obtain⟨c,t⟩:=I.ok.has x (.inl F);obtain⟨U,z⟩:=I.cell x c t;refine wpAny_storeName_cell I.ok.kind F t z (λh' R f=>?_);obtain⟨oc,O,S⟩:=id z;refine h {s with heap:=h'} (I.ok,I.os,I.bare,(λb o e n J B=>?_,λb o e n J B=>?_,I.base.free,λb o e B=>?_,I.base.tups,I.base.frzs,I.base.tbls),(m,hn.sameBut f (af3 (V8 x c t)),λj y Z g D e3=>?_),λy Y e=>?_,I.free,I.freeC,λp hp=>?_,l (oc,O,I.freeC x c t) f,by simpa using I.len) (c,f,.inr t)
  ·exact(f.2 b (aap (aai (Heap.lt_size e) (I.ok.cab x c K t)))).trans (I.base.keep b o e n J B)
  ·obtain⟨sl,g⟩:=I.base.slot b o e n J B;exact(sl,(f.2 b (aap (aai (Heap.lt_size e) (I.ok.cab x c K t)))).trans g)
  ·obtain⟨o',g⟩:=I.base.there b o e B;exact(o',(f.2 b (aap (aai (Heap.lt_size e) (I.ok.cab x c K t)))).trans g)
  ·by_cases G:j=i
   ·subst G;rw[L]at g;cases g;rw[agV Xy]at D;cases D;exact(u,r,.inr (.inl F,c,t,R))
   ·rw[aha (af3 G)]at D;obtain⟨u',r',q⟩:=hl j y Z g D e3;exists u',r';rcases q with q|⟨k,Y,e,z'⟩
    ·exact .inl q
    ·refine .inr (k,Y,e,z'.sameBut f ?_);rintro rfl;exact G (Ba hN g (I.ok.inj _ _ _ e t ▸ L))
  ·by_cases P:Y=c
   ·subst P;exact(_,R)
   ·obtain⟨w2,z2⟩:=I.cell y Y e;exact(w2,z2.sameBut f P)
  ·obtain⟨e,n,W,nf,d⟩:=I.pin p hp;refine((f.2 p.1 ?_).trans e,n,W,nf,d);intro q;rw[q,O]at e;have q':oc=p.2:=aao e;exact d U (by rw[<-q'];exact S)
theorem uR{M:Model}{A:Around}{E:Value->Shared->Prop}{i:Nat}{x:Str}{v:V}{u:Value}{Q:Unit->Shared->Prop}(I:Inv X π σ H s)(e:X.N.Nodup)(c:X.N[i]?=some x)(b:Loc X.env.scope x)(r:RelV v u)
  (h:∀a,Inv X π (σ.set i (some v)) H a->Q () a)(d:X.fn x=true\/X.env.scope.names.lookup x=some .local:=by first|exact .inl rfl|exact .inr rfl|assumption):wpAny M A (storeName X.env x u) Q E s:=
 mZ I e c b r (λa f _=>h a f) d
theorem Inv.call'{a:Shared}{ch:List Addr}(I:Inv X π σ H s)(i:a.os=s.os)(u:Un (frs X.stack) ch H H' s.heap a.heap)(d:TJ X.prog X.w H' a.heap)(j:AllBare a.gens)
  (f:∀b∈ch,(b∈X.ex\/X.s₀.heap.objs.size<=b)/\b≠X.env.locals/\(∀x c,X.env.cells.lookup x=some c->c≠b) /\ ∀p∈X.pn++π,p.1≠b):Inv X π σ H' a:=by
 obtain⟨h',k,l,g,h⟩:=a;have e:h=s.os:=i;subst e;exact I.call (g':=k) (t':=g) (d':=l) u d j f
end
abbrev XK:=Value->Option Addr->Hp->Prop
abbrev St:=List (Option V)
abbrev VK:=V->Hp->Prop
abbrev TE:=St->Hp->VK->Prop
abbrev TT:=St->Hp->(Bool->Hp->Prop)->Prop
abbrev TA:=St->Hp->(List V->Hp->Prop)->Prop
structure Ends where
 nx:St->Hp->Prop
 rt:VK
 bk:St->Hp->Prop:=λ_ _=>False
 ct:St->Hp->Prop:=λ_ _=>False
abbrev TS:=Ends->St->Hp->Prop
inductive EP(X:Cx)(π:List (Addr×Obj))(σ:St)(Q:VK)(u:Value)(s':Shared):Prop
 | mk (v H':_) (_:Inv X π σ H' s') (_:RelV v u) (_:Q v H')
def TP(X:Cx)(c:List (Addr×Obj))(σ:St)(Q:Bool->Hp->Prop)(b:Bool)(d:Shared):Prop:=∃a,Inv X c σ a d/\Q b a
inductive AP(X:Cx)(π:List (Addr×Obj))(σ:St)(Q:List V->Hp->Prop)(us:List Value)(s':Shared):Prop
 | mk (vs H':_) (_:Inv X π σ H' s') (_:Vals vs us) (_:Q vs H')
def SP(X:Cx)(c:List (Addr×Obj))(D:Ends)(f:Flow)(d:Shared):Prop:=
 match f with
 |.next=>∃a b,Inv X c a b d/\D.nx a b
 |.brk=>∃a b,Inv X c a b d/\D.bk a b
 |.cont=>∃a b,Inv X c a b d/\D.ct a b
 |.ret u=>∃v a b,Inv X c a b d/\RelV v u/\D.rt v b
def PE(X:Cx)(e:Expr)(t:TE):Prop:=
 ∀(b:List (Addr×Obj)) (s:Shared) (a:St) (H:Hp) (Q:VK),Inv X b a H s->t a H Q->wpAny (model X.prog X.w) X.A (eval e X.env) (EP X b a Q) X.xe s
def PT(X:Cx)(e:Expr)(t:TT):Prop:=
 ∀(b:List (Addr×Obj)) (s:Shared) (a:St) (H:Hp) (Q:Bool->Hp->Prop),Inv X b a H s->t a H Q->wpAny (model X.prog X.w) X.A (isTrue e X.env (eval e X.env)) (TP X b a Q) X.xe s
def PW(X:Cx)(e:Expr)(t:TT):Prop:=
 ∀(a:Sem Value) (c:List (Addr×Obj)) (s:Shared) (b:St) (H:Hp) (Q:Bool->Hp->Prop),Inv X c b H s->t b H Q->wpAny (model X.prog X.w) X.A (isTrue e X.env a) (TP X c b Q) X.xe s
theorem PW.pt{X:Cx}{e:Expr}{t:TT}(h:PW X e t):PT X e t:=h _
def PA(X:Cx)(c:List Expr)(t:TA):Prop:=
 ∀(pos:Pos) (b:List (Addr×Obj)) (s:Shared) (a:St) (H:Hp) (Q:List V->Hp->Prop),Inv X b a H s->t a H Q->wpAny (model X.prog X.w) X.A (spliced (backTo pos (starEach c X.env))) (AP X b a Q) X.xe s
def PS(X:Cx)(st:Stmt)(t:TS):Prop:=
 ∀(b:List (Addr×Obj)) (s:Shared) (a:St) (H:Hp) (D:Ends),Inv X b a H s->t D a H->wpAny (model X.prog X.w) X.A (exec st X.env) (SP X b D) X.xe s
def Um(X:Cx)(st:List Stmt)(t:TS):Prop:=
 ∀(b:List (Addr×Obj)) (s:Shared) (a:St) (H:Hp) (D:Ends),Inv X b a H s->t D a H->wpAny (model X.prog X.w) X.A (execs st X.env) (SP X b D) X.xe s
theorem Th{b:Type}{t:Sem b}{Q c:b->Shared->Prop}{M:Model}{A:Around}{E:Value->Shared->Prop}{s:Shared}(h:wpAny M A t Q E s)(d:∀a s,Q a s->c a s):wpAny M A t c E s:=wpAny_mono h d λ_ _ x=>x
section
variable{X:Cx}
theorem bin{a b:Expr}{l k:TE}(z:PE X a l)(t:PE X b k){s:Shared}{σ:St}{H:Hp}{R:V->V->Hp->Prop}(I:Inv X π σ H s)(h:l σ H λx i=>k σ i λy c=>R x y c)
  {j:Type}{Q:j->Shared->Prop}{f:Value->Value->Sem j}
  (r:∀v u g x y c,Inv X π σ c g->RelV x v->RelV y u->R x y c->wpAny (model X.prog X.w) X.A (f v u) Q X.xe g):
  wpAny (model X.prog X.w) X.A (eval a X.env) (λv e=>wpAny (model X.prog X.w) X.A (eval b X.env) (λu d=>wpAny (model X.prog X.w) X.A (f v u) Q X.xe d) X.xe e) X.xe s:=by
 refine Th (z π s σ H _ I h) λv m ⟨x,i,C,o,q⟩=>?_;refine Th (t π m σ i _ C q) λu g ⟨y,c,B,n,p⟩=>?_;exact r v u g x y c B o n p
inductive Ot(i:Nat)(σ:St)(H:Hp)(Q:VK):Prop
 | mk (v:_) (_:σ[i]?=some (some v)) (_:Q v H)
def tC(v:V):TE:=λ_ H Q=>Q v H
theorem Ey{i:Nat}{x:Str}{pos:Pos}(t:X.N[i]?=some x)(n:WW X.env.scope x)(hd:(x==("__debug__" : Str))=false:=by decide)(f:(x==("__classdict__" : Str))=false:=by decide):PE X (.Name x pos) (Ot i):=by
 intro k s j H Q I h;obtain⟨v,e,h⟩:=h;obtain⟨m,o,q⟩:=I.loc;obtain⟨u,r,l⟩:=q i x v t e n;have d:EP X k j Q u s:=(v,H,I,r,h);rcases l with ⟨b,p⟩|⟨b,c,g,a⟩
 ·exact wpAny_Name (wpAny_loadName_local I.ok.kind b o p d) hd
 ·rcases b with b|b
  ·exact wpAny_Name (wpAny_loadName_cell I.ok.kind b g a d) hd
  ·exact wpAny_Name (wpAny_loadName_free I.ok.kind b g a d f) hd
theorem ak{i j pos}:PE X (.Constant (.int i) j pos) (tC (.int i)):=λ_ _ _ H _ I h=>wpAny_Constant_int (.int i,H,I.tok _,(_,7),h)
theorem rZ{b j pos}:PE X (.Constant (.bool b) j pos) (tC (.bl b)):=λ_ _ _ H _ I h=>Constant_bool (.bl b,H,I,7,h)
theorem dM{j pos}:PE X (.Constant .none j pos) (tC .non):=λ_ _ _ H _ I h=>Constant_none (.non,H,I,7,h)
theorem qt{x j pos}:PE X (.Constant (.str x) j pos) (tC (.str x)):=λ_ _ _ H _ I h=>Calls.Constant_str (.str x,H,I.tok _,(_,7),h)
def Gl(X:Cx)(x:Str):Prop:=X.env.kindOf x=some .globalImplicit
theorem zP{E:Value->Shared->Prop}{s:Shared}{σ:St}{H:Hp}{x:Str}{u:Value}{pos:Pos}{Q:Value->Shared->Prop}(I:Inv X π σ H s)(b:Gl X x)(a:X.mg x=some u)(h:Q u s)
  (hd:(x==("__debug__" : Str))=false:=by decide):wpAny (model X.prog X.w) X.A (eval (.Name x pos) X.env) Q E s:=
 Calls.Name_function_global I.ok.kind b (Calls.loadGlobal_global (by rw[I.ok.glob];exact I.mod.glob.keeps I.bk) a h) hd
theorem cZ{E:Value->Shared->Prop}{s:Shared}{σ:St}{H:Hp}{x:Str}{u:Value}{pos:Pos}{Q:Value->Shared->Prop}(I:Inv X π σ H s)(d:Gl X x)(c:X.mg x=none)(a:bootBuiltins x=some u)(h:Q u s)
  (b:x ≠ "__name__":=by decide)(hd:(x==("__debug__" : Str))=false:=by decide):wpAny (model X.prog X.w) X.A (eval (.Name x pos) X.env) Q E s:=by
 obtain⟨g,f,e⟩:=I.mod.blt;exact Calls.Name_function_global I.ok.kind d (Calls.loadGlobal_builtin (by rw[I.ok.glob];exact I.mod.glob.keeps I.bk) c (by rw[I.ok.blt];exact f.keeps I.bk) ((e x b).trans a) h) hd
theorem bF{x:Str}{v:V}{u:Value}{pos:Pos}(b:Gl X x)(a:X.mg x=some u)(r:RelV v u)(hd:(x==("__debug__" : Str))=false:=by decide):PE X (.Name x pos) (tC v):=
 λ_ _ _ H _ I h=>zP I b a (v,H,I,r,h) hd
theorem zJ{x:Str}{v:V}{u:Value}{pos:Pos}(d:Gl X x)(c:X.mg x=none)(a:bootBuiltins x=some u)(r:RelV v u)(b:x ≠ "__name__":=by decide)(hd:(x==("__debug__" : Str))=false:=by decide):PE X (.Name x pos) (tC v):=
 λ_ _ _ H _ I h=>cZ I d c a (v,H,I,r,h) b hd
variable{a:Expr}{ta tb:TE}{pos:Pos}
def PC(X:Cx)(g:CmpOp)(a b:Expr)(t:TE):Prop:=
 ∀(f:List (Addr×Obj)) (s:Shared) (e:St) (H:Hp) (Q:VK),Inv X f e H s->t e H Q ->
  wpAny (model X.prog X.w) X.A (eval a X.env) (λv d=>wpAny (model X.prog X.w) X.A (eval b X.env) (λu c=>wpAny (model X.prog X.w) X.A (compareOp g v u) (EP X f e Q) X.xe c) X.xe d) X.xe s
theorem K4(b:Expr){c:CmpOp}(h:c ≠ .In)(d:c ≠ .NotIn):behindInMarks c b=false:=by
 have f:(c==CmpOp.In)=false:=by cases c<;>first|rfl|exact absurd rfl h
 have e:(c==CmpOp.NotIn)=false:=by cases c<;>first|rfl|exact absurd rfl d
 cases b<;>simp[behindInMarks,f,e]
def N6(Q:VK):VK:=λx c=>Q (.bl (decide (x=.non))) c
def SX(ta:TE):TE:=λ c H Q=>ta c H (N6 Q)
def KQ(Q:VK):VK:=λx c=>Q (.bl (!decide (x=.non))) c
def RV(ta:TE):TE:=λ c H Q=>ta c H (KQ Q)
theorem RelV.none_iff{x:V}{v:Value}(r:RelV x v):(v==Value.none)=decide (x=.non):=by
 cases x with
 |non=>cases r;rfl
 |bl _=>cases r;rfl
 |int _=>obtain⟨t,rfl⟩:=r;rfl
 |str _=>obtain⟨t,rfl⟩:=r;rfl
 |Vd _=>obtain⟨t,rfl⟩:=r;rfl
 |flt _=>obtain⟨t,rfl⟩:=r;rfl
 |ref _=>cases r;rfl
 |ty _=>cases r;rfl
theorem mQ{j pos'}(g:PE X a ta):PC X .Is a (.Constant .none j pos') (SX ta):=by
 intro d s c H Q I h;refine Th (g d s c H _ I h) λv l ⟨x,k,i,e,f⟩=>?_;exact Constant_none (is_none_gen (.bl _,k,i,by rw[e.none_iff];rfl,f))
theorem uz{j pos'}(g:PE X a ta):PC X .IsNot a (.Constant .none j pos') (RV ta):=by
 intro d s c H Q I h;refine Th (g d s c H _ I h) λv l ⟨x,k,i,e,f⟩=>?_;exact Constant_none (isnot_none_gen (.bl _,k,i,by rw[e.none_iff];rfl,f))
inductive R6(Q:Bool->Hp->Prop)(x:V)(H1:Hp):Prop
 | mk (c:_) (_:x=.bl c) (_:Q c H1)
def tB(t:TE):TT:=λ c H Q=>t c H (R6 Q)
theorem fX{e:CmpOp}{t:TE}(h:PC X e a b t)(f:behindInMarks e b=false:=by first|exact K4 _ ∅ ∅ | rfl):PT X (.Compare a [e] [b] pos) (tB t):=by
 intro i s g H Q I l;refine wpAny_isTrue_Compare1 (Th (h i s g H _ I l) λv w f=>Th f λu r m=>Th m λc p ⟨x,o,n,j,k⟩=>?_) f;obtain⟨d,rfl,q⟩:=k;cases j;exact wpAny_truthy_bool (o,n,q)
theorem vL{e:Expr}{t:TE}(h:PE X e t)(l:∀c,isTrue e X.env c=(do let v <-c;standAt e.pos;holding [v] (truthy v)):=by intro _;rfl):PT X e (tB t):=by
 intro g s f H Q I k;refine isTrue_plain (Th (h g s f H _ I k) λv o ⟨x,n,m,i,j⟩=>?_) (l _);obtain⟨d,rfl,q⟩:=j;cases i;exact wpAny_truthy_bool (n,m,q)
variable{tA WY:TT}{rest:List Expr}
def S9(t u:TT):TT:=λ d H Q=>t d H λc e=>if c=true then u d e Q else Q false e
def tOr(t u:TT):TT:=λ d H Q=>t d H λc e=>if c=true then Q true e else u d e Q
def Sq(t:TT):TT:=λ d H Q=>t d H λc e=>Q (!c) e
theorem fY(g:PT X a tA):PW X (.BoolOp .And [a] pos) tA:=by
 intro i f s d H Q I h;refine isTrue_and (Th (g f s d H Q I h) λc j e=>?_);cases c with
 |true=>exact isTrue_and_nil e
 |false=>exact e
theorem kj(g:PT X a tA):PW X (.BoolOp .Or [a] pos) tA:=by
 intro i f s d H Q I h;refine isTrue_or (Th (g f s d H Q I h) λc j e=>?_);cases c with
 |false=>exact isTrue_or_nil e
 |true=>exact e
theorem gD(m:PT X a tA)(l:PW X (.BoolOp .And (b::rest) pos) WY):PW X (.BoolOp .And (a::b::rest) pos) (S9 tA WY):=by
 intro j e s d H Q I h;refine isTrue_and (Th (m e s d H _ I h) λc k ⟨i,g,f⟩=>?_);cases c with
 |true=>exact l j e k d i Q g f
 |false=>exact(i,g,f)
theorem nO(m:PT X a tA)(l:PW X (.BoolOp .Or (b::rest) pos) WY):PW X (.BoolOp .Or (a::b::rest) pos) (tOr tA WY):=by
 intro j e s d H Q I h;refine isTrue_or (Th (m e s d H _ I h) λc k ⟨i,g,f⟩=>?_);cases c with
 |true=>exact(i,g,f)
 |false=>exact l j e k d i Q g f
theorem nU(f:PT X a tA):PT X (.UnaryOp .Not a pos) (Sq tA):=by
 intro e s d H Q I h;exact isTrue_not (f e s d H (λc g=>Q (!c) g) I h)
inductive MF(tb:TE)(σ:St)(Q:VK)(x:V)(H1:Hp):Prop
 | mk (c:_) (_:x=.bl c) (_:if c=true then tb σ H1 Q else Q (.bl false) H1)
def RM(ta tb:TE):TE:=λ c H Q=>ta c H (MF tb c Q)
inductive N8(Q:VK)(x:V)(H1:Hp):Prop
 | mk (c:_) (_:x=.bl c) (_:Q (.bl (!c)) H1)
def Rj(ta:TE):TE:=λ c H Q=>ta c H (N8 Q)
theorem Ma{op}{t:TE}(h:PE X a t):PE X (.BoolOp op [a] pos) t:=λ d s c H Q I e=>BoolOp_one (h d s c H Q I e)
theorem Kd(m:PE X a ta)(l:PE X (.BoolOp .And (b::rest) pos) tb):PE X (.BoolOp .And (a::b::rest) pos) (RM ta tb):=by
 intro f s e H Q I h;refine BoolOp_and (Th (m f s e H _ I h) λv j ⟨x,i,g,k,d⟩=>?_);obtain⟨c,rfl,d⟩:=d;cases k;refine wpAny_truthy_bool ?_;cases c with
 |true=>exact l f j e i Q g d
 |false=>exact(.bl false,i,g,7,d)
theorem Q9(i:PE X a ta):PE X (.UnaryOp .Not a pos) (Rj ta):=by
 intro f s e H Q I h;refine UnaryOp_ (Th (i f s e H _ I h) λv l ⟨x,k,j,g,d⟩=>?_);obtain⟨c,rfl,d⟩:=d;cases g;exact not_of (wpAny_truthy_bool (.bl (!c),k,j,7,d))
def tIf(t:TT)(ta tb:TE):TE:=λ d H Q=>t d H λc e=>if c=true then ta d e Q else tb d e Q
theorem Lh{c:Expr}(l:PT X c tA)(n:PE X a ta)(m:PE X b tb):PE X (.IfExp c a b pos) (tIf tA ta tb):=by
 intro f s e H Q I h;refine wpAny_IfExp (Th (l f s e H _ I h) λd g ⟨k,j,i⟩=>?_);cases d with
 |true=>exact n f g e k Q j i
 |false=>exact m f g e k Q j i
end
def Tg(K:PySem.W.Frag)(H:Hp)(a:Addr)(xs:List V):Prop:=
 Rd H a (.lst xs) \/
  ∃(o:Obj) (b:Array Value) (n:Nat),K.lookup a=some o/\o.cls=.type "list" /\ o.dict=none/\o.data=.seq b n/\b.size<=sizeLine/\Vals xs b.toList
def Tj(K:PySem.W.Frag)(H:Hp)(a:Addr)(xs:List V):Prop:=
 Rd H a (.tup xs) \/
  ∃(o:Obj) (b:Array Value) (n:Nat),K.lookup a=some o/\o.cls=.type "tuple" /\ o.data=.seq b n/\b.size<=sizeLine/\Vals xs b.toList
def Te:Value->Option V
 |.none=>some .non
 |.bool b=>some (.bl b)
 |.int i _=>some (.int i)
 |.str x _=>some (.str x)
 |.bytes b _=>some (.Vd b)
 |.float b _=>some (.flt b)
 |.ref a=>some (.ref a)
 |.type n=>some (.ty n)
 |_=>none
theorem RelV.abs{x:V}{u:Value}(r:RelV x u):Te u=some x:=by
 cases x with
 |non=>cases r;rfl
 |bl _=>cases r;rfl
 |int _=>obtain⟨t,rfl⟩:=r;rfl
 |str _=>obtain⟨t,rfl⟩:=r;rfl
 |Vd _=>obtain⟨t,rfl⟩:=r;rfl
 |flt _=>obtain⟨t,rfl⟩:=r;rfl
 |ref _=>cases r;rfl
 |ty _=>cases r;rfl
theorem RelV.inj{x y:V}{u:Value}(r:RelV x u)(q:RelV y u):x=y:=aao (r.abs.symm.trans q.abs)
theorem Vals.inj:∀{xs ys:List V}{a:List Value},Vals xs a->Vals ys a->xs=ys
 |_,_,_,.nil,.nil=>rfl
 |_,_,_,.cons r t,.cons c b=>by rw[r.inj c,Vals.inj t b]
section
variable{X:Cx}{σ:St}{H:Hp}{xs ys:List V}
theorem Tg.of(h:H a=some (.lst xs)):Tg K H a xs:=.inl (.inl h)
theorem Tj.of(h:H a=some (.tup xs)):Tj K H a xs:=.inl (.inl h)
theorem Inv.list(I:Inv X π σ H s)(h:Tg X.K H a xs):∃b:List Value,Vals xs b/\PlainL s.heap a b.toArray/\xs.length<=sizeLine:=by
 rcases h with h|⟨o,b,n,d,f,hd,c,g,r⟩
 ·obtain⟨z,b,n,r,e⟩:=h.ok I.hok;exact(b,r,(_,n,e,7,7,7),z)
 ·exists b.toList,r,(o,n,I.Ur a o d,f,hd,by simpa using c);have e:=r.length;simp only[aae]at e;lia
theorem Inv.tuple(I:Inv X π σ H s)(h:Tj X.K H a xs):∃b:List Value,Vals xs b/\IsTup s.heap a b.toArray/\xs.length<=sizeLine:=by
 rcases h with h|⟨o,b,n,d,f,c,g,r⟩
 ·obtain⟨z,b,r,p⟩:=h.ok I.hok;exact(b,r,p,z)
 ·exists b.toList,r,(o,I.Ur a o d,f,n,by simpa using c);have e:=r.length;simp only[aae]at e;lia
theorem Inv.list_inj(I:Inv X π σ H s)(h:Tg X.K H a xs)(h':Tg X.K H a ys):xs=ys:=by
 obtain⟨c,r,⟨o,n,e,_,_,d⟩,_⟩:=I.list h;obtain⟨b,i,⟨k,l,f,_,_,g⟩,_⟩:=I.list h';rw[e]at f;cases f;rw[d]at g;injection g with j _
 have:c=b:=by simpa using congrArg ai5 j
 subst this;exact r.inj i
theorem Inv.tuple_inj(I:Inv X π σ H s)(h:Tj X.K H a xs)(h':Tj X.K H a ys):xs=ys:=by
 obtain⟨c,r,⟨o,e,_,n,d⟩,_⟩:=I.tuple h;obtain⟨b,i,⟨k,f,_,l,g⟩,_⟩:=I.tuple h';rw[e]at f;cases f;rw[d]at g;injection g with j _
 have:c=b:=by simpa using congrArg ai5 j
 subst this;exact r.inj i
end
abbrev Cx.wish(X:Cx)(E:Value->Shared->Prop):Cx:={X with xe:=E}
abbrev Cx.Wo(X:Cx):Cx:=X.wish λ_ _=>False
theorem Cx.Ok.wish{X:Cx}(a:X.Ok)(E:Value->Shared->Prop):(X.wish E).Ok:=
 (a.mod,a.kind,a.glob,a.blt,a.above,a.inj,a.has,a.cab,a.hd,a.frames,a.V7,a.exf,a.bs,a.Ve,a.noex,a.exfs,a.funs,a.Vs)
theorem Cx.Ok.unwish{X:Cx}{E:Value->Shared->Prop}(a:(X.wish E).Ok):X.Ok:=
 (a.mod,a.kind,a.glob,a.blt,a.above,a.inj,a.has,a.cab,a.hd,a.frames,a.V7,a.exf,a.bs,a.Ve,a.noex,a.exfs,a.funs,a.Vs)
section
variable{X:Cx}{σ:St}{H:Hp}
theorem Inv.wish(I:Inv X π σ H s)(E:Value->Shared->Prop):Inv (X.wish E) π σ H s:=(I.ok.wish E,I.os,I.bare,I.base,I.loc,I.cell,I.free,I.freeC,I.pin,I.hok,I.len)
theorem Inv.unwish(I:Inv (X.wish E) π σ H s):Inv X π σ H s:=(I.ok.unwish,I.os,I.bare,I.base,I.loc,I.cell,I.free,I.freeC,I.pin,I.hok,I.len)
theorem SP.unwish{D:Ends}{f:Flow}{c:Shared}(h:SP (X.wish E) π D f c):SP X π D f c:=by
 cases f with
 |next=>obtain⟨a,b,I,q⟩:=h;exact(a,b,I.unwish,q)
 |brk=>obtain⟨a,b,I,q⟩:=h;exact(a,b,I.unwish,q)
 |cont=>obtain⟨a,b,I,q⟩:=h;exact(a,b,I.unwish,q)
 |ret u=>obtain⟨v,a,b,I,r,q⟩:=h;exact(v,a,b,I.unwish,r,q)
theorem Um.Wo{st:List Stmt}{t:TS}(h:Um X.Wo st t):Um X st t:=λ π s σ H D I a=>
 wpAny_mono (h π s σ H D (I.wish _) a) (λ_ _ q=>q.unwish) λ_ _ z=>False.elim z
end
section
variable{X:Cx}{rest:List Stmt}{t u:TS}{te:TE}{pos:Pos}
def Ls:TS:=λD a H=>D.nx a H
def Ss(t u:TS):TS:=λD a H=>t {D with nx:=u D} a H
theorem aK:Um X [] Ls:=λ_ _ a H _ I h=>wpAny_execs_nil (a,H,I,h)
theorem aa(i:PS X st t)(g:Um X rest u):Um X (st::rest) (Ss t u):=by
 intro b s c H D I h;refine wpAny_execs_cons (Th (i b s c H {D with nx:=u D} I h) λf d q=>?_);cases f with
 |next=>
  obtain⟨a,k,j,q⟩:=q;exact g b d a k D j q
 |ret v=>exact q
 |brk=>exact q
 |cont=>exact q
theorem ao(c:PS X st t):Um X [st] t:=by
 intro b s a H D I h;refine wpAny_execs_cons (Th (c b s a H D I h) λf d q=>?_);cases f with
 |next=>exact wpAny_execs_nil q
 |ret v=>exact q
 |brk=>exact q
 |cont=>exact q
theorem Inv.quiet{σ:St}{H:Hp}{s:Shared}(I:Inv X π σ H s):interactive X.env=false:=by simp[interactive,I.ok.kind]
def La(D:Ends)(σ:St):VK:=λ_ a=>D.nx σ a
def Rn(te:TE):TS:=λD a H=>te a H (La D a)
theorem bu(f:PE X e te)(d:swapsWith e none pos.line X.env=pure false:=by rfl):PS X (.Expr e pos) (Rn te):=by
 intro b s a H D I h;exact wpAny_Expr_any (Th (f b s a H _ I h) λv j ⟨x,i,g,k,c⟩=>(a,i,g,c)) I.quiet d
def Sx(te:TE):TS:=λD a H=>te a H D.rt
theorem aD(f:PE X e te):PS X (.Return (some e) pos) (Sx te):=by
 intro b s a H D I h;exact wpAny_Return_some (Th (f b s a H _ I h) λv j ⟨x,i,g,c,d⟩=>(x,a,i,g,c,d))
def S8(c:TT)(t u:TS):TS:=λD a H=>c a H λb d=>if b=true then t D a d else u D a d
theorem aX{c:Expr}{a b:List Stmt}{i:TT}(n:PT X c i)(p:Um X a t)(o:Um X b u):PS X (.If c a b pos) (S8 i t u):=by
 intro g s f H D I h;refine wpAny_If (Th (n g s f H _ I h) λd j ⟨m,l,k⟩=>?_);cases d with
 |true=>exact p g j f m D l k
 |false=>exact o g j f m D l k
def QR:TS:=λ_ _ _=>False
theorem b7:PS X st QR:=λ_ _ _ _ _ _ h=>h.elim
end
abbrev TG:=V->St->Hp->(St->Hp->Prop)->Prop
abbrev Wq:=List V->St->Hp->(St->Hp->Prop)->Prop
def PG(X:Cx)(a:Expr)(t:TG):Prop:=
 ∀(d:List (Addr×Obj)) (s:Shared) (c:St) (H:Hp) (v:V) (u:Value) (Q:St->Hp->Prop),Inv X d c H s->RelV v u->t v c H Q ->
  wpAny (model X.prog X.w) X.A (assign a X.env u) (λ_ f=>∃b e,Inv X d b e f/\Q b e) X.xe s
def Xz(X:Cx)(g:List Expr)(t:Wq):Prop:=
 ∀(c:List (Addr×Obj)) (s:Shared) (b:St) (H:Hp) (d:List V) (e:List Value) (Q:St->Hp->Prop),Inv X c b H s->Vals d e->t d b H Q ->
  wpAny (model X.prog X.w) X.A (assignInOrder ((assignEach g X.env).map (·.2)) e) (λ_ h=>∃a f,Inv X c a f h/\Q a f) X.xe s
abbrev KJ:=V->V->V->Hp->(Hp->Prop)->Prop
def Rh(X:Cx)(t:KJ):Prop:=
 ∀(b:List (Addr×Obj)) (s:Shared) (a:St) (H:Hp) (o i v:V) (c d u:Value) (Q:Hp->Prop),Inv X b a H s->RelV o c->RelV i d->RelV v u->t o i v H Q ->
  wpAny (model X.prog X.w) X.A (setItem c d u) (λ_ f=>∃e,Inv X b a e f/\Q e) X.xe s
section
variable{X:Cx}{pos:Pos}
def fL(i:Nat):TG:=λv a H Q=>Q (a.set i (some v)) H
theorem nC{i:Nat}{x:Str}(d:X.N.Nodup)(b:X.N[i]?=some x)(a:Loc X.env.scope x)(c:X.fn x=true\/X.env.scope.names.lookup x=some .local:=by first|exact .inl rfl|exact .inr rfl|assumption):PG X (.Name x pos) (fL i):=by
 intro g s f H v u Q I r h;exact wpAny_assign_Name (uR I d b a r (λj e=>(_,H,e,h)) c)
theorem aU{x:Str}(i:Nat)(d:X.N.Nodup)(b:X.N[i]?=some x:=by rfl)(a:Loc X.env.scope x:=by exact agP rfl)(c:X.fn x=true\/X.env.scope.names.lookup x=some .local:=by first|exact .inl rfl|exact .inr rfl|assumption):PG X (.Name x pos) (fL i):=nC d b a c
def Rq:Wq:=λb a H Q=>b=[]/\Q a H
inductive LR(t:TG)(u:Wq)(vs:List V)(σ:St)(H:Hp)(Q:St->Hp->Prop):Prop
 |mk (v r:_) (_:vs=v::r) (_:t v σ H λ σ' H'=>u r σ' H' Q)
theorem ig:Xz X [] Rq:=by
 intro b s a H c d Q I r h;obtain⟨e,h⟩:=h;subst e;cases r;exact assignInOrder_nil (a,H,I,h)
theorem bL{e:Expr}{t:TG}{u:Wq}(k:PG X e t)(j:Xz X y u)
  (i:(assignEach (e::y) X.env).map (·.2)=assign e X.env::(assignEach y X.env).map (·.2):=by rfl):Xz X (e::y) (LR t u):=by
 intro b s c H o q Q I r h;obtain⟨v,p,l,h⟩:=h;subst l;cases r with
 |cons r f=>
  rw[i];refine assignInOrder_cons (Th (k b s c H _ _ _ I r h) λ_ d ⟨a,n,m,g⟩=>?_);exact j b d a n _ _ Q m f g
inductive Rg(K:PySem.W.Frag)(n:Nat)(t:Wq)(v:V)(σ:St)(H:Hp)(Q:St->Hp->Prop):Prop
 | mk (a xs:_) (_:v=.ref a) (_:Tj K H a xs) (_:xs.length=n) (_:t xs σ H Q)
theorem lr{k:Nat}{t:Wq}{n:Nat}(w:X.calm=true)(h:Xz X y t)
  (p:(assignEach y X.env).length=n:=by rfl)(d:(assignEach y X.env).findIdx? (·.1)=none:=by rfl):PG X (.Tuple y k pos) (Rg X.K n t):=by
 intro g s f H v u Q I r c;obtain⟨a,j,z,m,q,c⟩:=c;subst z;cases r;obtain⟨B,i,ht,C⟩:=I.tuple m;refine assign_Tuple_tuple (I.ok.hd w) ht (by simp[p,<-q,i.length]) d λx l=>?_;have A:Inv X g f H {s with heap:=x}:=I.kept (t':=s.toks) λb o e=>l b o (aap (Heap.lt_size e)) e;exact h g _ f H j _ Q A (by simpa using i) c
def NB(t:KJ)(v:V)(σ:St)(Q:St->Hp->Prop)(o:V):VK:=λi a=>t o i v a (Q σ)
def M6(a:TE)(t:KJ)(v:V)(σ:St)(Q:St->Hp->Prop):VK:=λo b=>a σ b (NB t v σ Q o)
def R4(b c:TE)(t:KJ):TG:=λv a H Q=>b a H (M6 c t v a Q)
theorem QT{o i:Expr}{e f:TE}{t:KJ}(w:PE X o e)(z:PE X i f)(q:Rh X t)
  (A:∀v,assign (.Subscript o i pos) X.env v=(do
   let a <-holding [v] (eval o X.env)
   let b <-holding [v,a] (eval i X.env)
   standAt pos
   holding [v,a,b] (setItem a b v)
   release [v,a,b] []):=by intro _;rfl):PG X (.Subscript o i pos) (R4 e f t):=by
 intro d s c H v u Q I r h;rw[A];refine wpAny_bind (wpAny_holding (Th (w d s c H _ I h) λa j ⟨x,G,D,l,p⟩=>?_));refine wpAny_bind (wpAny_holding (Th (z d j c G _ D p) λb g ⟨y,F,C,k,n⟩=>?_));refine wpAny_bind (wpAny_standAt (wpAny_bind (wpAny_holding (Th (q d g c F x y v a b u _ C l k r n) λ_ J ⟨E,B,m⟩=>?_))));exact wpAny_release (c,E,B,m)
def Nt(g:TG)(D:Ends)(σ:St):VK:=λx a=>g x σ a D.nx
def Ip(b:TE)(g:TG):TS:=λD a H=>b a H (Nt g D a)
theorem JT{e:Expr}{c:TE}{g:TG}(m:PE X e c)(l:PG X o g)(k:swapsWithSole [o] e pos.line X.env=pure false:=by rfl)(j:swappedStores [o] e X.env=pure none:=by rfl)
  (n:(assignEach [o] X.env).map (·.2)=[assign o X.env]:=by rfl):PS X (.Assign [o] e pos) (Ip c g):=by
 intro b s a H D I h;refine wpAny_Assign_stores (Th (m b s a H _ I h) λv d ⟨x,r,p,f,i⟩=>?_) k j;rw[n];exact Th (l b d a r x v _ p f i) λ_ t q=>q
theorem rE{i:Nat}{x:Str}{e:Expr}{a:TE}(n:X.N.Nodup)(k:X.N[i]?=some x)(g:Loc X.env.scope x)(m:PE X e a)(j:swapsWith e (some (.Name x p)) pos.line X.env=pure false:=by rfl)(l:X.fn x=true\/X.env.scope.names.lookup x=some .local:=by first|exact .inl rfl|exact .inr rfl|assumption):
  PS X (.Assign [.Name x p] e pos) (Ip a (fL i)):=by
 intro c s b H D I h;refine wpAny_Assign_Name (Th (m c s b H _ I h) λv u ⟨y,r,q,d,f⟩=>?_) j;exact uR q n k g d (λt o=>(_,r,o,f)) l
theorem aA{x:Str}{e:Expr}{a:TE}(i:Nat)(h:X.N.Nodup)(g:PE X e a)(d:X.N[i]?=some x:=by rfl)(b:Loc X.env.scope x:=by exact agP rfl)(c:swapsWith e (some (.Name x p)) pos.line X.env=pure false:=by rfl)(f:X.fn x=true\/X.env.scope.names.lookup x=some .local:=by first|exact .inl rfl|exact .inr rfl|assumption):
  PS X (.Assign [.Name x p] e pos) (Ip a (fL i)):=rE h d b g c f
end
section
variable{X:Cx}{pos:Pos}
def Qk(c:TT)(h:TS):TS:=λD a H=>∃W:Nat->St->Hp->Prop,(∃m,W m a H) /\ ∀m a H,W m a H ->
 c a H λb f=>if b=true then ∃N:St->Hp->Prop,(∀d g,N d g -> ∃e,e<m/\W e d g)/\h {D with nx:=N,ct:=N,bk:=D.nx} a f else D.nx a f
theorem lW{c:Expr}{e:List Stmt}{u:TT}{x:TS}(y:PassesOwn (model X.prog X.w) X.A X.env X.xe)(Q:PT X c u)(R:Um X e x):PS X (.While c e [] pos) (Qk u x):=by
 intro m s G H D I h;obtain⟨W,⟨P,K⟩,j⟩:=h;refine wpAny_While (codeAny_whileLoop (λn O=>∃i F,Inv X m i F O/\W n i F) ?_ P (G,H,I,K));rintro n M ⟨d,E,S,J⟩;refine wpAny_passesOwn y (Th (Q m M d E _ S (j n d E J)) λb L ⟨C,B,l⟩=>?_);cases b with
 |true=>
  obtain⟨N,z,l⟩:=l;rw[if_pos rfl];refine wpAny_passesOwn y (Th (R m L d C _ B l) λf T k=>?_);cases f with
  |next=>
   obtain⟨a,g,t,p⟩:=k;obtain⟨q,r,o⟩:=z a g p;exact(q,r,a,g,t,o)
  |cont=>
   obtain⟨a,g,t,p⟩:=k;obtain⟨q,r,o⟩:=z a g p;exact(q,r,a,g,t,o)
  |brk=>exact k
  |ret v=>exact k
 |false=>
  rw[if_neg aar];exact wpAny_execs_nil (d,C,B,l)
end
structure It where
 go:Nat->Hp->Prop
 U0:Nat->Hp->V->Hp->Prop
 stop:Nat->Hp->Prop
def gM(X:Cx)(a:List (Addr×Obj))(H:Hp)(b:Addr):Prop:=
 H b=none/\b≠X.env.locals/\b∉X.fs/\(b∈X.ex\/X.s₀.heap.objs.size<=b)/\(∀x c,X.env.cells.lookup x=some c->c≠b) /\ ∀p∈X.pn++a,p.1≠b
theorem Inv.fpOk{X:Cx}{σ:St}{H H':Hp}{s:Shared}{b:Addr}(I:Inv X π σ H s)(a:s.heap.objs.size<=b)(f:H' b=none):gM X π H' b:=by
 refine(f,agr (aai I.lt a),I.nofs a,.inr (afJ I.sz a),λx c e z=>?_,λp d z=>?_)
 ·obtain⟨v,q⟩:=I.cell x c e;exact absurd (aai q.lt (by rw[z];exact a)) (afL _)
 ·exact absurd (aai (Heap.lt_size (I.pin p d).1) (by rw[z];exact a)) (afL _)
structure Turn(P:Program)(w:World)(K:PySem.W.Frag)(tg:Expr)(J:It)(fp:List Addr)(it:Addr)(tn:Nat->Heap->Prop):Prop where
 mem:it∈fp
 obj:∀i h,tn i h -> ∀b∈fp,∃o,h.get? b=some o /\ ∀v,o.data ≠ .cell v
 keep:∀i h h',tn i h->(∀b∈fp,∀o,h.get? b=some o->h'.get? b=some o)->tn i h'
 item:∀(X:Cx),X.prog=P->X.w=w->X.K=K->X.calm=true -> ∀(i:Nat) (π:List (Addr×Obj)) (s:Shared) (σ:St) (H:Hp) (E:Value->Shared->Prop),Inv X π σ H s->(∀b∈fp,gM X π H b)->tn i s.heap->J.go i H ->
  wpAny (model P w) X.A (pyNext (.ref it)) (λr s1=>∃u,r=some u /\
   wpAny (model P w) X.A (letOwnedTupleGo tg (.ref it) u) (λ_ s2=>∃x H',Inv X π σ H' s2/\RelV x u/\J.U0 i H x H'/\tn (i+1) s2.heap /\ ∀b∈fp,H' b=none) E s1) E s
 done:∀(X:Cx),X.prog=P->X.w=w->X.K=K->X.calm=true -> ∀(i:Nat) (π:List (Addr×Obj)) (s:Shared) (σ:St) (H:Hp) (E:Value->Shared->Prop),Inv X π σ H s->(∀b∈fp,gM X π H b)->tn i s.heap->J.stop i H ->
  wpAny (model P w) X.A (pyNext (.ref it)) (λr s1=>r=none/\Inv X π σ H s1) E s
 self:∀(A:Around) (i:Nat) (s:Shared) (Q:Value->Shared->Prop) (E:Value->Shared->Prop),tn i s.heap->Q (.ref it) s->wpAny (model P w) A (pyIter (.ref it)) Q E s
abbrev TI:=St->Hp->(It->Hp->Prop)->Prop
inductive PIE(X:Cx)(π:List (Addr×Obj))(σ:St)(tg:Expr)(R:It->Hp->Prop)(itv:Value)(s2:Shared):Prop
 | mk (it:Addr) (fp:List Addr) (tn:Nat->Heap->Prop) (J:It) (H':Hp) (_:itv=.ref it) (_:Inv X π σ H' s2) (_:Turn X.prog X.w X.K tg J fp it tn) (_:tn 0 s2.heap) (_:(∀b∈fp,gM X π H' b)) (_:R J H')
def PI(X:Cx)(d iter:Expr)(c:TI):Prop:=
 ∀(b:List (Addr×Obj)) (s:Shared) (a:St) (H:Hp) (R:It->Hp->Prop),Inv X b a H s->c a H R ->
  wpAny (model X.prog X.w) X.A (eval iter X.env) (λv e=>wpAny (model X.prog X.w) X.A (pyIter v) (PIE X b a d R) X.xe e) X.xe s
theorem vV{M:Model}{A:Around}{E:Value->Shared->Prop}{s:Shared}{u:Value}{o:Obj}{n:String}{Q:Unit->Shared->Prop}(c:s.heap.get? a=some o)(f:o.cls=.type n)(hd:o.data=.fields G)
    (d:["enumerate","zip","dict_itemiterator","dict_reverseitemiterator","odict_iterator","itertools.zip_longest","itertools.pairwise"].contains n=false)(b:Q () s):wpAny M A (letOwnedTupleGo e (.ref a) u) Q E s:=by
  unfold letOwnedTupleGo;cases e<;>first
    | exact wpAny_pure b
    | (cases u<;>first
        | exact wpAny_pure b
        | (refine wpAny_bind (wpAny_load c ?_)
           rw[f,hd]
           show wpAny M A (if (["enumerate","zip","dict_itemiterator","dict_reverseitemiterator","odict_iterator","itertools.zip_longest","itertools.pairwise"].contains n&&G[0]? == some (rawInt _))=true then _ else _) Q E s
           rw[if_neg (by intro h;rw[d,aiV]at h;cases h)];exact wpAny_pure b))
def VJ(K:PySem.W.Frag)(a:Addr):It:=
 (λi H=>∃b x,Tg K H a b/\b[i]?=some x,λi H x c=>c=H /\ ∀b,Tg K H a b->b[i]?=some x,λi H=>∃b,Tg K H a b/\b.length<=i)
def Wr(K:PySem.W.Frag)(a:Addr):It:=
 (λi H=>∃b x,Tj K H a b/\b[i]?=some x,λi H x c=>c=H /\ ∀b,Tj K H a b->b[i]?=some x,λi H=>∃b,Tj K H a b/\b.length<=i)
def Vt(lo:Int)(n:Nat):It:=(λi _=>i<n,λi H x a=>a=H/\x=.int (lo+i),λi _=>n<=i)
theorem Jj{w:World}(a j:Addr):Turn prog w K e (VJ K a) [j] j (λi h=>h.IsListIter j a i) where
 mem:=by simp
 obj:=λi h g b l=>by
  have f:b=j:=by simpa using l
  subst f;obtain⟨o,f,c,d⟩:=g;exact(o,f,λv z=>by rw[d]at z;cases z)
 keep:=λi h r g k=>g.at λo f=>k j (by simp) o f
 item:=by
  intro X C A D R i Q s O H E I q g B;subst C A D;obtain⟨S,x,n,y⟩:=B;obtain⟨N,t,p,V⟩:=I.list n;obtain⟨u,Z,U⟩:=t.get y;obtain⟨M,L,f2,J,G,F⟩:=q j (by simp);refine wpAny_pyNext_list_item g p.isList (x:=u) (by simpa using Z) λr m T=>?_;have I1:Inv X Q O H {s with heap:=r}:=I.turned (t':=s.toks) (λb o l f=>(T.2 b l).trans f) M L J G F;obtain⟨o,f,c,d⟩:=id m;exact(u,7,vV (s:={s with heap:=r}) f c d ∅ (x,H,I1,U,(7,λys Y=>by rw[I.list_inj Y n];exact y),m,λb l=>(q b l).1))
 done:=by
  intro X C A D R i Q s O H E I q g B;subst C A D;obtain⟨S,n,y⟩:=B;obtain⟨N,t,p,V⟩:=I.list n;obtain⟨M,L,f2,J,G,F⟩:=q j (by simp);have hl:=t.length;exact wpAny_pyNext_list_end (I.ok.hd R) g p.isList (by simp;lia) λr eb=>(7,I.turned (t':=s.toks) (λb o l f=>eb b o l f) M L J G F)
 self:=λ_ _ _ _ _ g h=>wpAny_pyIter_listiter g h
theorem DG{w:World}(a j:Addr):Turn prog w K e (Wr K a) [j] j (λi h=>h.IsTupleIter j a i) where
 mem:=by simp
 obj:=λi h g b l=>by
  have f:b=j:=by simpa using l
  subst f;obtain⟨o,f,c,d⟩:=g;exact(o,f,λv z=>by rw[d]at z;cases z)
 keep:=λi h t g k=>g.at λo f=>k j (by simp) o f
 item:=by
  intro X D B F R i Q s O H E I r g C;subst D B F;obtain⟨S,x,q,A⟩:=C;obtain⟨m,y,p,V⟩:=I.tuple q;obtain⟨u,Z,U⟩:=y.get A;obtain⟨N,M,f2,L,J,G⟩:=r j (by simp);refine wpAny_pyNext_tuple_item g (show s.heap.IsTuple a m.toArray from p) (x:=u) (by simpa using Z) λt n T=>?_;have I1:Inv X Q O H {s with heap:=t}:=I.turned (t':=s.toks) (λb o l f=>(T.2 b l).trans f) N M L J G;obtain⟨o,f,c,d⟩:=id n;exact(u,7,vV (s:={s with heap:=t}) f c d ∅ (x,H,I1,U,(7,λys Y=>by rw[I.tuple_inj Y q];exact A),n,λb l=>(r b l).1))
 done:=by
  intro X D B F R i Q s O H E I r g C;subst D B F;obtain⟨S,q,A⟩:=C;obtain⟨m,y,p,V⟩:=I.tuple q;obtain⟨N,M,f2,L,J,G⟩:=r j (by simp);have hl:=y.length;exact wpAny_pyNext_tuple_end (I.ok.hd R) g (show s.heap.IsTuple a m.toArray from p) (by simp;lia) λt eb=>(7,I.turned (t':=s.toks) (λb o l f=>eb b o l f) N M L J G)
 self:=λ_ _ _ _ _ g h=>wpAny_pyIter_tupleiter g h
theorem Et{w:World}(d:Addr)(lo:Int)(n:Nat):Turn prog w K e (Vt lo n) [d] d (λi h=>IsRangeIter h d (lo+(i:Nat)*1) ((n:Int)-(i:Nat)) 1) where
 mem:=by simp
 obj:=λi h c b f=>by
  have a:b=d:=by simpa using f
  subst a;exact(_,c,λv z=>by
   have J:Data.fields _=Data.cell v:=z;cases J)
 keep:=λi h l c k=>k d (by simp) _ c
 item:=by
  intro X r m u q i F s D H E I j c p;subst r m u;obtain⟨C,B,N,A,y,x⟩:=j d (by simp);have W:=Walks.range (prog:=X.prog) (w:=X.w) (I.ok.hd q) d lo 1 n;refine W.item i s _ _ p c λv l G M g L=>?_;obtain⟨t,rfl⟩:=M;have Q:Inv X F D H {s with heap:=l,toks:=G}:=I.turned (λb o f a=>L b o (by simpa using f) a) C B A y x
  refine(5,vV (s:={s with heap:=l,toks:=G}) (n := "range_iterator") g rfl rfl ∅ (.int (lo+i),H,Q,(t,3),(7,7),g,λb f=>(j b f).1))
  rw[Int.mul_one]
 done:=by
  intro X r m u q i F s D H E I j c p;subst r m u;obtain⟨C,B,N,A,y,x⟩:=j d (by simp);exact wpAny_pyNext_range_end (I.ok.hd q) c (by have:n<=i:=p;lia) λl O=>(7,I.turned (t':=s.toks) (λb o f a=>O b o f a) C B A y x)
 self:=λ_ _ _ _ _ c h=>wpAny_pyIter_rangeiter c h
section
variable{X:Cx}
inductive OD(K:PySem.W.Frag)(R:It->Hp->Prop)(x:V)(H1:Hp):Prop
 | mk (a:_) (_:x=.ref a) (_:(∃xs,Tg K H1 a xs)) (_:R (VJ K a) H1)
def RW(K:PySem.W.Frag)(b:TE):TI:=λ a H R=>b a H (OD K R)
inductive QL(K:PySem.W.Frag)(R:It->Hp->Prop)(x:V)(H1:Hp):Prop
 | mk (a:_) (_:x=.ref a) (_:(∃xs,Tj K H1 a xs)) (_:R (Wr K a) H1)
def SJ(K:PySem.W.Frag)(b:TE):TI:=λ a H R=>b a H (QL K R)
theorem bU{l:Expr}{f:TE}(n:PE X l f):PI X tg l (RW X.K f):=by
 intro i s g H R I h;refine Th (n i s g H _ I h) λv c ⟨x,t,d,j,k⟩=>?_;obtain⟨a,e,⟨w,m⟩,q⟩:=k;subst e;cases j;obtain⟨u,y,p,z⟩:=d.list m;refine wpAny_pyIter_list p.isList ?_;refine(c.heap.objs.size,[c.heap.objs.size],8,t,7,d.kept (t':=c.toks) λb o e=>Heap.get?_push_of_some _ e,Jj a _,(_,Heap.get?_push_size _ rfl,7,7),λb r=>?_,q);have e:b=c.heap.objs.size:=by simpa using r
 subst e;exact d.fpOk (aac _) (d.hok.fresh (aac _))
theorem J5{l:Expr}{g:TE}(r:PE X l g):PI X tg l (SJ X.K g):=by
 intro j s i H R I h;refine Th (r j s i H _ I h) λv c ⟨x,u,d,k,m⟩=>?_;obtain⟨a,e,⟨w,n⟩,q⟩:=m;subst e;cases k;obtain⟨f,y,p,z⟩:=d.tuple n;refine wpAny_pyIter_tuple (show c.heap.IsTuple a f.toArray from p) ?_;refine(c.heap.objs.size,[c.heap.objs.size],8,u,7,d.kept (t':=c.toks) λb o e=>Heap.get?_push_of_some _ e,DG a _,(_,Heap.get?_push_size _ rfl,7,7),λb t=>?_,q);have e:b=c.heap.objs.size:=by simpa using t
 subst e;exact d.fpOk (aac _) (d.hok.fresh (aac _))
theorem Br{σ:St}{H:Hp}{s:Shared}{R:It->Hp->Prop}{E:Value->Shared->Prop}{lo :Int}{t u v:Tok}{tk:Nat}(I:Inv X π σ H s)(h : -(2^62)<=lo)(g:lo<2^62)(f : -(2^62)<=m)(d:m<2^62)
  (q:R (Vt lo (m-lo).toNat) H):wpAny (model X.prog X.w) X.A (pyIter (.ref s.heap.objs.size)) (PIE X π σ tg R) E {s with heap:=s.heap.push {cls:=.type "range",data:=.fields #[.int lo t,.int m u,.int 1 v]},toks:=tk}:=by
 refine wpAny_pyIter_range (IsRange.new ..) (small_one h g f d) ?_
 have a:Inv X π σ H {s with heap:=s.heap.push {cls:=.type "range",data:=.fields #[.int lo t,.int m u,.int 1 v]},toks:=tk}:=I.kept λb o e=>Heap.get?_push_of_some _ e
 refine((s.heap.push {cls:=.type "range",data:=.fields #[.int lo t,.int m u,.int 1 v]}).objs.size,[(s.heap.push {cls:=.type "range",data:=.fields #[.int lo t,.int m u,.int 1 v]}).objs.size],8,H,7,
  a.kept (t':=tk) λb o e=>Heap.get?_push_of_some _ e,Et _ lo (m-lo).toNat,3,λb c=>?_,q)
 ·have j:lo+((0:Nat):Int)*1=lo:=by simp
  have i:(((m-lo).toNat:Nat):Int)-((0:Nat):Int)=Builtin.Range.rangeSize lo m 1:=by rw[rangeSize_one];split<;>lia
  show IsRangeIter _ _ (lo+((0:Nat):Int)*1) ((((m-lo).toNat:Nat):Int)-((0:Nat):Int)) 1;rw[j,i];exact Heap.get?_push_size _ rfl
 ·have e:b=(s.heap.push {cls:=.type "range",data:=.fields #[.int lo t,.int m u,.int 1 v]}).objs.size:=by simpa using c
  subst e;exact a.fpOk (aac _) (a.hok.fresh (aac _))
inductive MT(R:It->Hp->Prop)(vs:List V)(H1:Hp):Prop
 | mk (j:Int) (_:vs=[.int j]) (_ : -(2^62)<=j) (_:j<2^62) (_:R (Vt 0 j.toNat) H1)
def Ri(b:TA):TI:=λ a H R=>b a H (MT R)
inductive Nz(R:It->Hp->Prop)(vs:List V)(H1:Hp):Prop
 | mk (i j:Int) (_:vs=[.int i,.int j]) (_:(-(2^62)<=i/\i<2^62 /\ -(2^62)<=j/\j<2^62)) (_:R (Vt i (j-i).toNat) H1)
def Rw(b:TA):TI:=λ a H R=>b a H (Nz R)
theorem qZ{a:Expr}{c:TA}{p pos:Pos}(n:Gl X "range")(m:X.mg "range" = none)(o:PA X [a] c)(l:starEach [a] X.env=[(pq false (eval a X.env))]:=by rfl):PI X tg (.Call (.Name "range" p) [a] [] pos) (Ri c):=by
 intro f s d H R I h;refine Call_ (cZ I n m boot_range (PyProof.Rows.callWith_type1 (Th (o pos f s d H _ I h) λw x ⟨v,y,u,i,b⟩=>?_) l rfl));obtain⟨j,e,b,k,q⟩:=b;subst e;cases i with
 |cons r g=>
  cases g;obtain⟨t,rfl⟩:=r;exact call_range_1 (Br u ⋯ ⋯ b k (by simpa using q))
theorem Ih{a b:Expr}{g:TA}{p pos:Pos}(y:Gl X "range")(x:X.mg "range" = none)(z:PA X [a,b] g)(w:starEach [a,b] X.env=[(pq false (eval a X.env)),(pq false (eval b X.env))]:=by rfl)(c:starEach [b] X.env=[(pq false (eval b X.env))]:=by rfl):
  PI X tg (.Call (.Name "range" p) [a,b] [] pos) (Rw g):=by
 intro l s k H R I h;refine Call_ (cZ I y x boot_range (PyProof.Rows.callWith_type1 (Th (z pos l s k H _ I h) λC E ⟨B,F,A,m,f⟩=>?_) (by rw[w,c]) (by rw[c];rfl)));obtain⟨i,j,e,⟨f,v,u,o⟩,q⟩:=f;subst e;cases m with
 |cons r d=>
  cases d with
  |cons n d=>
   cases d;obtain⟨t,rfl⟩:=r;obtain⟨D,rfl⟩:=n;exact call_range_2 (Br A f v u o q)
def O2(g:TG)(e:TS)(D:Ends)(σ:St)(H:Hp):It->Hp->Prop:=λJ h=>∃W:Nat->Nat->St->Hp->Prop,(∃m,W 0 m σ h) /\ ∀i m σ H,W i m σ H->(J.stop i H/\D.nx σ H)\/(J.go i H /\ ∃N:St->Hp->Prop,(∀b a,N b a -> ∃d,d<m/\W (i+1) d b a) /\ ∀x a,J.U0 i H x a->g x σ a λ c f=>e {D with nx:=N,ct:=N,bk:=D.nx} c f)
def R9(b:TI)(g:TG)(c:TS):TS:=λD a H=>b a H (O2 g c D a H)
def rP(a:List Addr)(h:Heap):List (Addr×Obj):=a.filterMap λb=>(h.get? b).map λo=>(pq b o)
theorem fU{b:Addr}{o:Obj}(a:b∈g)(e:h'.get? b=some o):(pq b o)∈rP g h':=ahK.mpr (b,a,by rw[e];rfl)
theorem IK{p:Addr×Obj}(a:p∈rP g h'):p.1∈g/\h'.get? p.1=some p.2:=by
 obtain⟨b,c,e⟩:=ahK.mp a;cases q:h'.get? b with
 |none=>rw[q]at e;cases e
 |some o=>
  rw[q]at e;have d:(pq b o)=p:=aao e;subst d;exact(c,q)
theorem Inv.pinned{σ:St}{H:Hp}{s:Shared}(I:Inv X π σ H s)(i:∀b∈g,gM X π H b)(h:∀b∈g,∃o,s.heap.get? b=some o /\ ∀v,o.data ≠ .cell v):Inv X (π++rP g s.heap) σ H s:=
 I.pins_of λp f=>(aba.mp f).elim (λz=>I.pin p (aay _ z)) λz=>by
  obtain⟨a,e⟩:=IK z;obtain⟨l,k,j,_⟩:=i p.1 a;obtain⟨o,c,d⟩:=h p.1 a;rw[e]at c;cases c;exact(e,l,k,j,d)
theorem Inv.ξ{a:List (Addr×Obj)}{σ:St}{H:Hp}{s:Shared}(I:Inv X (π++a) σ H s):Inv X π σ H s:=I.pins_of λp b=>I.pin p (aay _ (agl _ b))
theorem bI{iter:Expr}{B:List Stmt}{Z:TI}{g:TG}{tb:TS}{pos:Pos}(F:PassesOwn (model X.prog X.w) X.A X.env X.xe)(hc:X.calm=true)(hi:PI X tg iter Z)(hg:PG X tg g)(c:Um X B tb)
  (hs:∀x,foldedSetIterable iter X.env x=pure x:=by intro _;rfl):PS X (.For tg iter B [] pos) (R9 Z g tb):=by
 intro C s Y H D I h;refine wpAny_For (Th (hi C s Y H _ I h) λv s1 h1=>Th h1 λa0 s2 h2=>?_) hs;obtain⟨it,G,tn,J,H2,e,I2,T,V,f2,W,⟨m0,w0⟩,L⟩:=h2;subst e;have q:∀{y:Hp},(∀b∈G,y b=none) -> ∀b∈G,gM X C y b:=λhn b c=>(hn b c,(f2 b c).2);refine codeAny_forLoop_any (λn s'=>∃i p y,Inv X C p y s'/\tn i s'.heap/\(∀b∈G,y b=none)/\W i n p y) ?_ m0 (0,Y,H2,I2,V,λb c=>(f2 b c).1,w0);rintro n s3 ⟨i,l,P,I3,K,VL,w3⟩;rcases L i n l P w3 with ⟨M,qn⟩|⟨go,N,hN,O⟩
 ·refine wpAny_passesOwn F (Th (T.done X rfl rfl rfl hc i C s3 l P X.xe I3 (q VL) K M) λr s4 ⟨R,I4⟩=>?_);subst R;exact wpAny_execs_nil (l,P,I4,qn)
 ·refine wpAny_passesOwn F (Th (T.item X rfl rfl rfl hc i C s3 l P X.xe I3 (q VL) K go) λr s4 ⟨u,R,h4⟩=>?_);subst R;refine wpAny_passesOwn F (Th h4 λ_ s5 ⟨x,H5,I5,r5,y5,S,W0⟩=>?_);have W2:=I5.pinned (q W0) (T.obj _ _ S);refine wpAny_passesOwn F (Th (hg _ s5 l H5 x u _ W2 r5 (O x H5 y5)) λ_ s6 ⟨U,H6,I6,q6⟩=>?_);refine wpAny_passesOwn F (Th (c _ s6 U H6 _ I6 q6) λf Q z=>?_);have t:∀{a:St}{k:Hp},Inv X (C++rP G s5.heap) a k Q->N a k -> ∃m,m<n /\ ∃i p y,Inv X C p y Q/\tn i Q.heap/\(∀b∈G,y b=none)/\W i m p y:=λ{a k} j E=>by
   obtain⟨m',hm,w7⟩:=hN a k E;refine(m',hm,i+1,a,k,j.ξ,T.keep _ _ _ S λb c o e=>(j.pin (pq b o) (aay _ (aay _ (fU c e)))).1,λb c=>?_,w7);obtain⟨o,e,d⟩:=T.obj _ _ S b c;exact(j.pin (pq b o) (aay _ (aay _ (fU c e)))).2.1
  cases f with
  |next=>obtain⟨a,k,j,E⟩:=z;exact t j E
  |cont=>obtain⟨a,k,j,E⟩:=z;exact t j E
  |brk=>obtain⟨a,k,j,z⟩:=z;exact(a,k,j.ξ,z)
  |ret v=>obtain⟨x7,a,k,j,r7,z⟩:=z;exact(x7,a,k,j.ξ,r7,z)
end
theorem cz{a:Addr}{xs:List V}{g:TG}{j:TS}{D:Ends}{σ:St}{H:Hp}(b:Nat->St->Hp->Prop)(s:b 0 σ H)(o:∀i σ H,i<=xs.length->b i σ H->Tg K H a xs)
  (n:∀i x σ H,xs[i]?=some x->b i σ H->g x σ H λ c h=>j {D with nx:=b (i+1),ct:=b (i+1),bk:=D.nx} c h)(hd:∀σ H,b xs.length σ H->D.nx σ H):
  ∃W:Nat->Nat->St->Hp->Prop,(∃m,W 0 m σ H) /\ ∀i m σ H,W i m σ H ->
   ((VJ K a).stop i H/\D.nx σ H)\/((VJ K a).go i H /\ ∃N:St->Hp->Prop,(∀d H',N d H' -> ∃k,k<m/\W (i+1) k d H') /\ ∀x H',(VJ K a).U0 i H x H'->g x σ H' λ c h=>j {D with nx:=N,ct:=N,bk:=D.nx} c h):=by
 exists λi m σ H=>m=xs.length-i/\i<=xs.length/\b i σ H,(xs.length,by simp,aaF _,s);rintro i m σ H ⟨rfl,r,p⟩;have q:=o i σ H r p;by_cases f:i<xs.length
 ·refine .inr ((xs,xs[i],q,by simp[f]),b (i+1),λ d H' l=>(xs.length-(i+1),9,7,f,l),λx H' y=>?_);obtain⟨e,y⟩:=y;subst e;exact n i x σ _ (y xs q) p
 ·have e:i=xs.length:=by lia
  subst e;exact .inl ((xs,q,aac _),hd σ H p)
theorem Nf{a:Addr}{xs:List V}{g:TG}{j:TS}{D:Ends}{σ:St}{H:Hp}(b:Nat->St->Hp->Prop)(s:b 0 σ H)(o:∀i σ H,i<=xs.length->b i σ H->Tj K H a xs)
  (n:∀i x σ H,xs[i]?=some x->b i σ H->g x σ H λ c h=>j {D with nx:=b (i+1),ct:=b (i+1),bk:=D.nx} c h)(hd:∀σ H,b xs.length σ H->D.nx σ H):
  ∃W:Nat->Nat->St->Hp->Prop,(∃m,W 0 m σ H) /\ ∀i m σ H,W i m σ H ->
   ((Wr K a).stop i H/\D.nx σ H)\/((Wr K a).go i H /\ ∃N:St->Hp->Prop,(∀d H',N d H' -> ∃k,k<m/\W (i+1) k d H') /\ ∀x H',(Wr K a).U0 i H x H'->g x σ H' λ c h=>j {D with nx:=N,ct:=N,bk:=D.nx} c h):=by
 exists λi m σ H=>m=xs.length-i/\i<=xs.length/\b i σ H,(xs.length,by simp,aaF _,s);rintro i m σ H ⟨rfl,r,p⟩;have q:=o i σ H r p;by_cases f:i<xs.length
 ·refine .inr ((xs,xs[i],q,by simp[f]),b (i+1),λ d H' l=>(xs.length-(i+1),9,7,f,l),λx H' y=>?_);obtain⟨e,y⟩:=y;subst e;exact n i x σ _ (y xs q) p
 ·have e:i=xs.length:=by lia
  subst e;exact .inl ((xs,q,aac _),hd σ H p)
theorem yg{lo:Int}{n:Nat}{g:TG}{h:TS}{D:Ends}{σ:St}{H:Hp}(a:Nat->St->Hp->Prop)(o:a 0 σ H)
  (l:∀i σ H,i<n->a i σ H->g (.int (lo+i)) σ H λ b f=>h {D with nx:=a (i+1),ct:=a (i+1),bk:=D.nx} b f)(hd:∀σ H,a n σ H->D.nx σ H):
  ∃W:Nat->Nat->St->Hp->Prop,(∃m,W 0 m σ H) /\ ∀i m σ H,W i m σ H ->
   ((Vt lo n).stop i H/\D.nx σ H)\/((Vt lo n).go i H /\ ∃N:St->Hp->Prop,(∀c H',N c H' -> ∃j,j<m/\W (i+1) j c H') /\ ∀x H',(Vt lo n).U0 i H x H'->g x σ H' λ b f=>h {D with nx:=N,ct:=N,bk:=D.nx} b f):=by
 exists λi m σ H=>m=n-i/\i<=n/\a i σ H,(n,by simp,aaF _,o);rintro i m σ H ⟨rfl,q,p⟩;by_cases d:i<n
 ·refine .inr (d,a (i+1),λ c H' k=>(n-(i+1),9,7,d,k),λx H' y=>?_);obtain⟨e,y⟩:=y;subst e y;exact l i σ _ d p
 ·have e:i=n:=by lia
  subst e;exact .inl (aac _,hd σ H p)
abbrev R2:=V->V->Hp->VK->Prop
def TY(X:Cx)(f:Value->Value->Sem Value)(r:R2):Prop:=
 ∀(b:List (Addr×Obj)) (s:Shared) (a:St) (H:Hp) (x y:V) (v u:Value) (Q:VK),Inv X b a H s->RelV x v->RelV y u->r x y H Q ->
  wpAny (model X.prog X.w) X.A (f v u) (EP X b a Q) X.xe s
def Yy(X:Cx)(f:Value->Sem Value)(r:V->Hp->VK->Prop):Prop:=
 ∀(b:List (Addr×Obj)) (s:Shared) (a:St) (H:Hp) (x:V) (v:Value) (Q:VK),Inv X b a H s->RelV x v->r x H Q ->
  wpAny (model X.prog X.w) X.A (f v) (EP X b a Q) X.xe s
def gR(X:Cx)(f:Value)(r:List V->Hp->VK->Prop):Prop:=
 ∀(b:List (Addr×Obj)) (s:Shared) (a:St) (H:Hp) (c:List V) (d:List Value) (Q:VK),Inv X b a H s->Vals c d->r c H Q ->
  wpAny (model X.prog X.w) X.A (call f d) (EP X b a Q) X.xe s
def Qj(r:R2)(Q:VK)(x:V):VK:=λy a=>r x y a Q
def Rc(r:R2)(a:TE)(σ:St)(Q:VK):VK:=λx b=>a σ b (Qj r Q x)
def W3(r:R2)(c b:TE):TE:=λ a H Q=>c a H (Rc r b a Q)
def PN(r:V->Hp->VK->Prop)(Q:VK):VK:=λx a=>r x a Q
def tUn(r:V->Hp->VK->Prop)(b:TE):TE:=λ a H Q=>b a H (PN r Q)
inductive rI(C:Int->Int->Prop)(g:Int->Int->V)(x:V)(y:V)(H:Hp)(Q:VK):Prop
 | mk (i j:_) (_:x=.int i) (_:y=.int j) (_:C i j) (_:Q (g i j) H)
inductive Vy(g:Int->Int->V)(x:V)(y:V)(H:Hp)(Q:VK):Prop
 | mk (i j:_) (_:x=.int i) (_:y=.int j) (_:Q (g i j) H)
inductive rU(g:Int->V)(x:V)(H:Hp)(Q:VK):Prop
 | mk (i:_) (_:x=.int i) (_:Q (g i) H)
section
variable{X:Cx}{a c:Expr}{ta tb tc:TE}{pos:Pos}
theorem Rb(r:PE X a ta)(q:PE X b tb){s:Shared}{σ:St}{H:Hp}{R:V->V->Hp->Prop}(I:Inv X π σ H s)
  (h:ta σ H λx j=>tb σ j λy d=>R x y d){Q:Value->Shared->Prop}{f:Value->Value->Sem Value}
  (p:∀v u i x y d,Inv X π σ d i->RelV x v->RelV y u->R x y d->wpAny (model X.prog X.w) X.A (f v u) Q X.xe i):
  wpAny (model X.prog X.w) X.A (eval a X.env) (λv g=>wpAny (model X.prog X.w) X.A (eval b X.env) (λu e=>wpAny (model X.prog X.w) X.A (f v u) Q X.xe e) X.xe g) X.xe s:=by
 refine Th (r π s σ H _ I h) λv k ⟨x,j,z,m,o⟩=>?_;refine Th (q π k σ j _ z o) λu i ⟨y,d,t,l,n⟩=>?_;exact p v u i x y d t m l n
theorem aB{d:Operator}{r:R2}(k:TY X (binaryOp d) r)(m:PE X a ta)(l:PE X b tb):PE X (.BinOp a d b pos) (W3 r ta tb):=by
 intro f s e H Q I h;exact wpAny_BinOp (Rb m l I h λv u g x y o n j i q=>k f g e o x y v u Q n j i q)
theorem nR{f:UnaryOp}{r:V->Hp->VK->Prop}(k:Yy X (unaryOp f) r)(l:PE X a ta):PE X (.UnaryOp f a pos) (tUn r ta):=by
 intro e s d H Q I h;exact UnaryOp_ (Th (l e s d H _ I h) λv g ⟨x,n,m,i,j⟩=>k e g d n x v Q m i j)
theorem W4{f:Value->Value->Sem Value}{C:Int->Int->Prop}{g:Int->Int->Int}
  (d:∀(i j:Int) (t u:Tok) (s:Shared) (Q:Value->Shared->Prop) (E:Value->Shared->Prop),C i j->Q (.int (g i j) s.toks) {s with toks:=s.toks+1}->wpAny (model X.prog X.w) X.A (f (.int i t) (.int j u)) Q E s):
  TY X f (rI C λi j=>.int (g i j)):=by
 intro o s n H x y v u Q I l k h;obtain⟨i,j,rfl,rfl,m,q⟩:=h;obtain⟨t,rfl⟩:=l;obtain⟨e,rfl⟩:=k;exact d i j t e s _ _ m (.int (g i j),H,I.tok _,(_,7),q)
theorem Q0{f:Value->Value->Sem Value}{g:Int->Int->Int}
  (d:∀(i j:Int) (t u:Tok) (s:Shared) (Q:Value->Shared->Prop) (E:Value->Shared->Prop),Q (.int (g i j) s.toks) {s with toks:=s.toks+1}->wpAny (model X.prog X.w) X.A (f (.int i t) (.int j u)) Q E s):
  TY X f (Vy λi j=>.int (g i j)):=by
 intro n s m H x y v u Q I l k h;obtain⟨i,j,rfl,rfl,q⟩:=h;obtain⟨t,rfl⟩:=l;obtain⟨e,rfl⟩:=k;exact d i j t e s _ _ (.int (g i j),H,I.tok _,(_,7),q)
theorem Oo{f:Value->Value->Sem Value}{g:Int->Int->Bool}
  (d:∀(i j:Int) (t u:Tok) (s:Shared) (Q:Value->Shared->Prop) (E:Value->Shared->Prop),Q (.bool (g i j)) s->wpAny (model X.prog X.w) X.A (f (.int i t) (.int j u)) Q E s):
  TY X f (Vy λi j=>.bl (g i j)):=by
 intro n s m H x y v u Q I l k h;obtain⟨i,j,rfl,rfl,q⟩:=h;obtain⟨t,rfl⟩:=l;obtain⟨e,rfl⟩:=k;exact d i j t e s _ _ (.bl (g i j),H,I,7,q)
def Su(i j:Int):Prop:=0<j/\j<1073741824
def Td(i j:Int):Prop:=0<=j/\j<=1000000/\i.natAbs<2^64
def Qu(i j:Int):Prop:=(-(2^64)<i/\i<2^64)\/(-(2^64)<j/\j<2^64)
theorem Qu.ok{i j:Int}(h:Qu i j):IntMulOk i j:=by
 rcases h with ⟨e,d⟩|⟨e,d⟩
 ·exact .of_left (intBits_le_64 e d)
 ·exact .of_right (intBits_le_64 e d)
theorem Eu(k:Nat):(0:Int)<=2^k:=by
 rw[two_pow_cast];exact Int.natCast_nonneg _
theorem aZ:TY X (binaryOp .Add) (Vy λi j=>.int (i+j)):=Q0 λ_ _ _ _ _ _ _ q=>add_int q
theorem bA:TY X (binaryOp .Sub) (Vy λi j=>.int (i-j)):=Q0 λ_ _ _ _ _ _ _ q=>sub_int q
theorem cH:TY X (binaryOp .Mult) (rI Qu λi j=>.int (i*j)):=W4 λ_ _ _ _ _ _ _ d q=>mul_int q d.ok
theorem bG:TY X (binaryOp .FloorDiv) (rI Su λi j=>.int (i / j)):=W4 λi j _ _ _ _ _ d q=>by
 have f:(0:Int)<j:=d.1;have e:j<1073741824:=d.2;exact floordiv_int ⋯ (by rw[ahI i ⋯];exact q) (.inl (PyProof.noPylong_small ⋯))
theorem bO:TY X (binaryOp .Mod) (rI (λ_ j=>0<j) λi j=>.int (i%j)):=W4 λi j _ _ _ _ _ d q=>by
 have e:(0:Int)<j:=d;exact mod_int' ⋯ (by rw[Int.fmod_eq_emod_of_nonneg i ⋯];exact q)
theorem K9:TY X (binaryOp .Pow) (rI Td λi j=>.int (i^j.toNat)):=W4 λ_ _ _ _ _ _ _ d q=>pow_int_small d.1 d.2.1 d.2.2 q
theorem Q6:TY X (binaryOp .RShift) (rI (λ_ j=>0<=j) λi j=>.int (i / 2^j.toNat)):=W4 λi j _ _ _ _ _ d q=>
 rshift_int d (by rw[ahI i (Eu _)];exact q)
theorem Qi:TY X (binaryOp .BitAnd) (Vy λi j=>.int (Builtin.bitAnd i j)):=Q0 λ_ _ _ _ _ _ _ q=>and_int q
theorem unI{f:Value->Sem Value}{g:Int->Int}
  (d:∀(i:Int) (t:Tok) (s:Shared) (Q:Value->Shared->Prop) (E:Value->Shared->Prop),Q (.int (g i) s.toks) {s with toks:=s.toks+1}->wpAny (model X.prog X.w) X.A (f (.int i t)) Q E s):
  Yy X f (rU λi=>.int (g i)):=by
 intro k s j H x v Q I e h;obtain⟨i,rfl,q⟩:=h;obtain⟨t,rfl⟩:=e;exact d i t s _ _ (.int (g i),H,I.tok _,(_,7),q)
theorem jK:Yy X (unaryOp .USub) (rU λi=>.int (-i)):=unI λ_ _ _ _ _ q=>neg_int q
end
def RP:V->V->Bool
 |.non,.non=>true | .non,.int _=>true | .int _,.non=>true | .non,.bl _=>true | .bl _,.non=>true | .non,.str _=>true | .str _,.non=>true
 |.int _,.int _=>true | .bl _,.bl _=>true | .str _,.str _=>true | .Vd _,.Vd _=>true
 |.int _,.str _=>true | .str _,.int _=>true | .bl _,.str _=>true | .str _,.bl _=>true
 |_,_=>false
def rEq:R2:=λx y H Q=>RP x y=true/\Q (.bl (decide (x=y))) H
def rNe:R2:=λx y H Q=>RP x y=true/\Q (.bl (!decide (x=y))) H
theorem Gj{i j:Int}:decide (V.int i=V.int j)=(i==j):=by
 rw[ahE];simp
theorem Ks{i j:Bool}:decide (V.bl i=V.bl j)=(i==j):=by
 rw[ahE];simp
theorem GR{i j:Str}:decide (V.str i=V.str j)=(i==j):=by
 rw[ahE];simp
theorem GX{i j:Array UInt8}:decide (V.Vd i=V.Vd j)=(i.toList==j.toList):=by
 rw[ahE];cases i;cases j;simp
section
variable{X:Cx}{a c:Expr}{ta tb tc:TE}{pos:Pos}
theorem bH{σ:St}{H:Hp}{s:Shared}{Q:VK}{k d:Bool}(I:Inv X π σ H s)(q:Q (.bl k) H)(e:k=d):EP X π σ Q (.bool d) s:=by
 subst e;exact(.bl k,H,I,7,q)
theorem cR:TY X (compareOp .Eq) rEq:=by
 intro l s k H x y v u Q I g d h;obtain⟨f,q⟩:=h;cases x with
 |non=>
  cases g;cases y with
  |non=>cases d;exact PySem.EqNone.eq_none_none (bH I q (by simp))
  |bl j=>cases d;exact PySem.EqNone.eq_none_bool (bH I q (by simp))
  |int j=>obtain⟨e,rfl⟩:=d;exact PySem.EqNone.eq_none_int (bH I q (by simp))
  |str j=>obtain⟨e,rfl⟩:=d;exact PySem.EqNone.eq_none_str (bH I q (by simp))
  |_=>exact absurd (show false=true from f) aar
 |bl i=>
  cases g;cases y with
  |non=>cases d;exact PySem.EqNone.eq_bool_none (bH I q (by simp))
  |bl j=>cases d;exact eq_bool (bH I q Ks)
  |str j=>obtain⟨e,rfl⟩:=d;exact PySem.EqMixed.eq_bool_str (bH I q (by simp))
  |_=>exact absurd (show false=true from f) aar
 |int i=>
  obtain⟨t,rfl⟩:=g;cases y with
  |non=>cases d;exact PySem.EqNone.eq_int_none (bH I q (by simp))
  |int j=>obtain⟨e,rfl⟩:=d;exact eq_int (bH I q Gj)
  |str j=>obtain⟨e,rfl⟩:=d;exact PySem.EqMixed.eq_int_str (bH I q (by simp))
  |_=>exact absurd (show false=true from f) aar
 |str i=>
  obtain⟨t,rfl⟩:=g;cases y with
  |non=>cases d;exact PySem.EqNone.eq_str_none (bH I q (by simp))
  |bl j=>cases d;exact PySem.EqMixed.eq_str_bool (bH I q (by simp))
  |int j=>obtain⟨e,rfl⟩:=d;exact PySem.EqMixed.eq_str_int (bH I q (by simp))
  |str j=>obtain⟨e,rfl⟩:=d;exact eq_str (bH I q GR)
  |_=>exact absurd (show false=true from f) aar
 |Vd i=>
  obtain⟨t,rfl⟩:=g;cases y with
  |Vd j=>obtain⟨e,rfl⟩:=d;exact PySem.W.eq_bytes (bH I q GX)
  |_=>exact absurd (show false=true from f) aar
 |_=>cases y<;>exact absurd (show false=true from f) aar
theorem yc:TY X (compareOp .NotEq) rNe:=by
 intro l s k H x y v u Q I g d h;obtain⟨f,q⟩:=h;cases x with
 |non=>
  cases g;cases y with
  |non=>cases d;exact PySem.EqNone.ne_none_none (bH I q (by simp))
  |bl j=>cases d;exact PySem.EqNone.ne_none_bool (bH I q (by simp))
  |int j=>obtain⟨e,rfl⟩:=d;exact PySem.EqNone.ne_none_int (bH I q (by simp))
  |str j=>obtain⟨e,rfl⟩:=d;exact PySem.EqNone.ne_none_str (bH I q (by simp))
  |_=>exact absurd (show false=true from f) aar
 |bl i=>
  cases g;cases y with
  |non=>cases d;exact PySem.EqNone.ne_bool_none (bH I q (by simp))
  |bl j=>cases d;exact ne_bool (bH I q (congrArg not Ks))
  |str j=>obtain⟨e,rfl⟩:=d;exact PySem.EqMixed.ne_bool_str (bH I q (by simp))
  |_=>exact absurd (show false=true from f) aar
 |int i=>
  obtain⟨t,rfl⟩:=g;cases y with
  |non=>cases d;exact PySem.EqNone.ne_int_none (bH I q (by simp))
  |int j=>obtain⟨e,rfl⟩:=d;exact ne_int (bH I q (congrArg not Gj))
  |str j=>obtain⟨e,rfl⟩:=d;exact PySem.EqMixed.ne_int_str (bH I q (by simp))
  |_=>exact absurd (show false=true from f) aar
 |str i=>
  obtain⟨t,rfl⟩:=g;cases y with
  |non=>cases d;exact PySem.EqNone.ne_str_none (bH I q (by simp))
  |bl j=>cases d;exact PySem.EqMixed.ne_str_bool (bH I q (by simp))
  |int j=>obtain⟨e,rfl⟩:=d;exact PySem.EqMixed.ne_str_int (bH I q (by simp))
  |str j=>obtain⟨e,rfl⟩:=d;exact ne_str (bH I q (congrArg not GR))
  |_=>exact absurd (show false=true from f) aar
 |Vd i=>
  obtain⟨t,rfl⟩:=g;cases y with
  |Vd j=>obtain⟨e,rfl⟩:=d;exact PySem.W.ne_bytes (bH I q (congrArg not GX))
  |_=>exact absurd (show false=true from f) aar
 |_=>cases y<;>exact absurd (show false=true from f) aar
theorem jW:TY X (compareOp .Lt) (Vy λi j=>.bl (decide (i<j))):=Oo λ_ _ _ _ _ _ _ q=>lt_int q
theorem jX:TY X (compareOp .LtE) (Vy λi j=>.bl (decide (i<=j))):=Oo λ_ _ _ _ _ _ _ q=>le_int q
theorem jf:TY X (compareOp .Gt) (Vy λi j=>.bl (decide (j<i))):=Oo λ_ _ _ _ _ _ _ q=>gt_int q
theorem By:TY X (compareOp .GtE) (Vy λi j=>.bl (decide (j<=i))):=Oo λ_ _ _ _ _ _ _ q=>ge_int q
theorem Ko(b:Expr){d:CmpOp}(h:d ≠ .In:=by decide)(e:d ≠ .NotIn:=by decide):behindInMarks d b=false:=by
 have g:(d==CmpOp.In)=false:=by cases d<;>first|rfl|exact absurd rfl h
 have f:(d==CmpOp.NotIn)=false:=by cases d<;>first|rfl|exact absurd rfl e
 cases b<;>simp[behindInMarks,g,f]
theorem zm{d:CmpOp}{r:R2}(k:TY X (compareOp d) r)(n:PE X a ta)(m:PE X b tb)(l:behindInMarks d b=false:=by exact Ko _):PE X (.Compare a [d] [b] pos) (W3 r ta tb):=by
 intro f s e H Q I h;exact wpAny_Compare1 (Rb n m I h λv u g x y p o j i q=>k f g e p x y v u Q o j i q) l
inductive Np(Q:Bool->Hp->Prop)(x:V)(H':Hp):Prop
 | mk (k:_) (_:x=.bl k) (_:Q k H')
def Lw(t:TE):TT:=λ d H Q=>t d H (Np Q)
theorem aG{g:CmpOp}{r:R2}(t:TY X (compareOp g) r)(B:PE X a ta)(A:PE X b tb)(w:behindInMarks g b=false:=by exact Ko _):PT X (.Compare a [g] [b] pos) (Lw (W3 r ta tb)):=by
 intro f s d H Q I h;refine wpAny_isTrue_Compare1 (Th (B f s d H _ I h) λv j ⟨x,J,E,n,q⟩=>Th (A f j d J _ E q) λu i ⟨y,G,D,m,p⟩=>
  Th (t f i d G x y v u _ D n m p) λc K ⟨z,F,C,l,k,e,o⟩=>?_) w
 subst e;cases l;exact wpAny_truthy_bool (F,C,o)
inductive Lx(r':R2)(tc:TE)(σ:St)(Q:VK)(y:V)(z:V)(H3:Hp):Prop
 |mk (k:_) (_:z=.bl k) (_:(if k=true then tc σ H3 λw' H4=>r' y w' H4 Q else Q (.bl false) H3))
def JN(r:R2)(d:R2)(tc:TE)(σ:St)(Q:VK)(x:V):VK:=λy e=>r x y e (Lx d tc σ Q y)
def Jr(r:R2)(d:R2)(tb:TE)(tc:TE)(σ:St)(Q:VK):VK:=λx e=>tb σ e (JN r d tc σ Q x)
def PP(r e:R2)(ta tb tc:TE):TE:=λ d H Q=>ta d H (Jr r e tb tc d Q)
theorem uC{j f:CmpOp}{r n:R2}(P:TY X (compareOp j) r)(l:TY X (compareOp f) n)(U:PE X a ta)(T:PE X b tb)(S:PE X c tc)
  (R:lastMarks [j,f] [b,c]=false:=by with_unfolding_all rfl):PT X (.Compare a [j,f] [b,c] pos) (Lw (PP r n ta tb tc)):=by
 intro i s g H Q I h;refine isTrue_chain (Th (U i s g H _ I h) λv D ⟨x,H1,I1,J,N⟩=>test_link (Th (T i D g H1 _ I1 N) λu C ⟨y,H2,I2,m,M⟩=>
  Th (P i C g H2 x y v u _ I2 J m M) λd B ⟨z,q,p,G,k,e,o⟩=>?_)) R
 subst e;cases G;refine wpAny_truthy_bool ?_;cases k with
 |false=>
  obtain⟨k',W,O⟩:=o;cases W;exact ite_ff (q,p,O)
 |true=>
  refine ite_tt (test_last (Th (S i B g q _ p o) λw A ⟨t,H4,Z,F,L⟩=>Th (l i A g H4 y t u w _ Z m F L) λd' s5 ⟨z2,H5,Y,E,k2,V,K⟩=>?_));subst V;cases E;exact wpAny_truthy_bool (H5,Y,K)
theorem qJ:(sizeLine:Nat)<2^63:=by rw[sizeLine_eq];decide
theorem dh:TY X (binaryOp .Add) (λx y H Q=>∃i j,x=.str i/\y=.str j/\i.length+j.length<=sizeLine/\Q (.str (i++j)) H):=by
 intro l s k H x y v u Q I f e h;obtain⟨i,j,rfl,rfl,g,q⟩:=h;obtain⟨t,rfl⟩:=f;obtain⟨d,rfl⟩:=e;exact add_str (λd m=>(.str (i++j),H,I.tok _,(_,7),q)) g
theorem vals1{x:V}{d:List Value}(r:Vals [x] d):∃u,d=[u]/\RelV x u:=by
 cases r with
 |cons f e=>cases e;exact(5,f)
theorem vals2{x y:V}{e:List Value}(r:Vals [x,y] e):∃u d,e=[u,d]/\RelV x u/\RelV y d:=by
 cases r with
 |cons i h=>
  cases h with
  |cons g f=>cases f;exact(_,5,i,g)
theorem Jg(e:X.calm=true):gR X (.builtin "max") (λxs H Q=>∃i j,xs=[.int i,.int j]/\Q (.int (if j > i then j else i)) H):=by
 intro g s f H xs m Q I r h;obtain⟨i,j,rfl,q⟩:=h;obtain⟨u,l,rfl,⟨t,rfl⟩,⟨o,rfl⟩⟩:=vals2 r;refine max_two_ints (I.ok.hd e) λp n k=>(_,H,I.kept k,3,q);by_cases d:j > i
 ·rw[if_pos d,if_pos d];exact(_,7)
 ·rw[if_neg d,if_neg d];exact(_,7)
theorem xU(e:X.calm=true):gR X (.builtin "min") (λxs H Q=>∃i j,xs=[.int i,.int j]/\Q (.int (if j<i then j else i)) H):=by
 intro g s f H xs m Q I r h;obtain⟨i,j,rfl,q⟩:=h;obtain⟨u,l,rfl,⟨t,rfl⟩,⟨o,rfl⟩⟩:=vals2 r;refine min_two_ints (I.ok.hd e) λp n k=>(_,H,I.kept k,3,q);by_cases d:j<i
 ·rw[if_pos d,if_pos d];exact(_,7)
 ·rw[if_neg d,if_neg d];exact(_,7)
end
structure Qo(h:Heap)(x dx C:Addr)(mA:Str->Option Value):Prop where
 obj:h.get? x=some (PySem.W.instObj C dx)
 ns:h.Ns1 dx mA
 ne:dx≠x
theorem Iu(n:h'.Ns1 a mg):∃d,h'.get? a=some d /\ ∀name,PySem.W.lookIn name d=some (mg name):=by
 obtain⟨o,f,m,i,hd,k,_,j⟩:=n;refine(o,i,λname=>?_);have e:=j name;unfold nsFind findBy at e;rw[<-Array.find?_toList]at e;unfold PySem.W.lookIn;rw[hd];dsimp only;split
 ·rename_i y q;rw[q]at e;exact congrArg some e
 ·rename_i q;rw[q]at e;have b:f.toList.any (·.refKey)=false:=by
   rw[List.any_eq_false];intro y g;obtain⟨z,t,c⟩:=k y (Array.mem_toList_iff.mp g);simp[DictEntry.refKey,c]
  have l:¬f.toList.any (·.refKey)=true:=by rw[b];exact aar
  rw[if_neg l];exact congrArg some e
theorem Qo.look{x C:Addr}(I:Qo h' x a C mg):∃b,PySem.W.InstAt h' x (PySem.W.instObj C a) C (some b) /\ ∀name,PySem.W.lookIn name b=some (mg name):=
 let ⟨b,ho,hl⟩:=Iu I.ns
 (b,(I.obj,7,7,ho),hl)
section
variable{x:Addr}{mA:Str->Option Value}{v:Value}
end
theorem uH.some_of{v:V}{o:Option Value}(r:uH (some v) o):∃u,o=some u/\RelV v u:=by
 cases o with
 |none=>exact(show False from r).elim
 |some u=>exact(u,7,r)
section
variable{P:Program}{H H':Hp}{fs fs':List (Str×V)}
theorem Nb(c:TJ P w H h)(e:H a=some (.ins C dx fs)):∃b,Qo h a dx C b/\(∀f,uH (fs.lookup f) (b f))/\PySem.Within b (fs.map (·.1))/\fs.length<=1000/\H dx=some (.own a):=by
 obtain⟨d,z,i,g,b,n,r,q⟩:=(show bJ P w H h a (.ins C dx fs)from c a _ e);exact(b,(g,n,i),r,q,z,d)
end
structure Yz(K:PySem.W.Frag)(C:Addr):Prop where
 pg:PySem.W.plainGet K C Str.empty=true
 hd:PySem.W.hasDictIn K C=true
 po:PySem.W.plainOver K C=true
 sa:PySem.W.findIn K (.ref C) "__setattr__" = some (some (.builtin "object.__setattr__"))
theorem Yz.get{C:Addr}(c:Yz K C)(f:Str):PySem.W.plainGet K C f=true:=c.pg
section
variable{X:Cx}{σ:St}{H:Hp}{fs:List (Str×V)}{f:Str}{v:V}
end
section
variable{X:Cx}{value:Expr}{f:Str}{pos pos' tpos:Pos}{ta tv:TE}
end
section
variable{X:Cx}{σ:St}{H:Hp}{Q:Value->Shared->Prop}{c:Value}{b:Bool}
inductive q8(K:PySem.W.Frag)(H:Hp):V->Value->Prop where
 | non:q8 K H .non (.type "NoneType")
 | bl (x:Bool):q8 K H (.bl x) (.type "bool")
 | int (i:Int):q8 K H (.int i) (.type "int")
 | str (x:Str):q8 K H (.str x) (.type "str")
 | flt (x:UInt64):q8 K H (.flt x) (.type "float")
 | lst {a:Addr}{xs:List V} (e:H a=some (.lst xs)):q8 K H (.ref a) (.type "list")
 | Ul {a:Addr}{o:Obj}{xs:List V} (e:H a=some (.Ul o (.lst xs))):q8 K H (.ref a) (.type "list")
 | tup {a:Addr}{xs:List V} (e:H a=some (.tup xs)):q8 K H (.ref a) (.type "tuple")
 | dK {a:Addr}{kvs:List (Key×V)} (e:H a=some (.dK kvs)):q8 K H (.ref a) (.type "dict")
 | dT {a:Addr}{kvs:List (List Key×V)} (e:H a=some (.dT kvs)):q8 K H (.ref a) (.type "dict")
 | ins {a C dx:Addr}{fs:List (Str×V)} (e:H a=some (.ins C dx fs)) (cl:Yz K C) (ha:PySem.W.findIn K (.ref C) "__class__" = some (some (.builtin "object.__class__")))
   (hn:PySem.W.specialIn K (.builtin "object.__class__") "__get__" = some (some (.builtin "getset_descriptor.__get__"))) (htk:PySem.W.takesIn K (.builtin "object.__class__")=some true)
   (hm:PySem.W.mroIn K C (.type "object")=some true):q8 K H (.ref a) (.ref C)
theorem Ig{x:V}{u t:Value}(I:Inv X π σ H s)(d:RelV x u)(v:q8 X.K H x t)(e:PySem.W.kitOne X.K t c=some b)(h:∀tk,Q (.bool b) {s with toks:=tk}):
  wpAny (model X.prog X.w) A (call (.builtin "isinstance") [u,c]) Q E s:=by
 cases v with
 |non=>cases (show u=Value.none from d);exact PySem.W.kia_one PySem.W.kitx_none I.Ur True.intro e (λz=>nomatch z) h
 |bl y=>cases (show u=Value.bool y from d);exact PySem.W.kia_one PySem.W.kitx_bool I.Ur True.intro e (λz=>nomatch z) h
 |int i=>obtain⟨t,q⟩:=(show ∃t,u=Value.int i t from d);cases q;exact PySem.W.kia_one PySem.W.kitx_int I.Ur True.intro e (λz=>nomatch z) h
 |str y=>obtain⟨t,q⟩:=(show ∃t,u=Value.str y t from d);cases q;exact PySem.W.kia_one PySem.W.kitx_str I.Ur True.intro e (λz=>nomatch z) h
 |flt y=>obtain⟨t,q⟩:=(show ∃t,u=Value.float y t from d);cases q;exact PySem.W.kia_one PySem.W.kitx_float I.Ur True.intro e (λz=>nomatch z) h
 |@lst a k f=>
  cases (show u=Value.ref a from d);obtain⟨_,_,n,_,g⟩:=(show bJ X.prog X.w H s.heap a (.lst k)from I.hok a _ f);exact PySem.W.kia_one PySem.W.kitx_list I.Ur (_,g,7) e (λz=>nomatch z) h
 |@Ul a B k f=>
  cases (show u=Value.ref a from d);obtain⟨_,_,_,n,_,g⟩:=(show bJ X.prog X.w H s.heap a (.Ul B (.lst k))from I.hok a _ f);exact PySem.W.kia_one PySem.W.kitx_list I.Ur (_,g,7) e (λz=>nomatch z) h
 |@tup a k f=>
  cases (show u=Value.ref a from d);obtain⟨_,_,_,p⟩:=(show bJ X.prog X.w H s.heap a (.tup k)from I.hok a _ f);obtain⟨o,g,l,_⟩:=p;exact PySem.W.kia_one PySem.W.kitx_tuple I.Ur (o,g,l) e (λz=>nomatch z) h
 |@dK a j f=>
  cases (show u=Value.ref a from d);obtain⟨_,_,N,_,p⟩:=(show bJ X.prog X.w H s.heap a (.dK j)from I.hok a _ f);obtain⟨o,L,M,g,l,_⟩:=p;exact PySem.W.kia_one PySem.W.kitx_dict I.Ur (o,g,l.1) e (λz=>nomatch z) h
 |@dT a j f=>
  cases (show u=Value.ref a from d);obtain⟨_,_,k,_,o,L,M,g,l,_⟩:=(show bJ X.prog X.w H s.heap a (.dT j)from I.hok a _ f);exact PySem.W.kia_one PySem.W.kitx_dict I.Ur (o,g,l.1) e (λz=>nomatch z) h
 |@ins a C T S f r G D m F=>
  cases (show u=Value.ref a from d);obtain⟨R,O,_⟩:=Nb I.hok f;obtain⟨P,J,_⟩:=O.look;exact PySem.W.kia_one (PySem.W.kitx_own (r.get _) r.hd G D m F) I.Ur J e (λz=>nomatch z) h
end
structure eF(k:Nat)(A:Around):Prop where
 hd:A.handled=none
 dp:A.depth+3*k+5<recursionLimit
 un:A.units+16*k+200<cLine
theorem eF.mono{j k:Nat}{A:Around}(r:eF k A)(h:j<=k):eF j A:=(r.hd,by have:=r.dp;lia,by have:=r.un;lia)
theorem eF.deeper{k:Nat}{A:Around}(r:eF (k+1) A)(a:Env):eF k (A.deeper a):=
 (r.hd,by have:=r.dp;show A.depth+1+3*k+5<_;lia,by have:=r.un;show A.units+3+16*k+200<_;lia)
theorem eF.depth{k:Nat}{A:Around}(r:eF k A):A.depth<recursionLimit:=by have:=r.dp;lia
theorem eF.units{k:Nat}{A:Around}(r:eF k A):A.units+64<cLine:=by have:=r.un;lia
def Rz:TA:=λ_ H Q=>Q [] H
def K5(Q:List V->Hp->Prop)(x:V):List V->Hp->Prop:=λa b=>Q (x::a) b
def JZ(a:TA)(σ:St)(Q:List V->Hp->Prop):VK:=λx b=>a σ b (K5 Q x)
def Lf(c:TE)(b:TA):TA:=λ a H Q=>c a H (JZ b a Q)
section
variable{X:Cx}{es:List Expr}{te:TE}{t:TA}{pos:Pos}
theorem aj:PA X [] Rz:=λ_ _ _ _ H Q I h=>Calls.spliced_nil ([],H,I,.nil,h)
theorem au(m:PE X e te)(l:PA X es t)(k:starEach (e::es) X.env=(pq false (eval e X.env))::starEach es X.env:=by rfl):PA X (e::es) (Lf te t):=by
 intro pos b s a H Q I h;rw[k];show wpAny _ _ (spliced ((pq false (eval e X.env))::backTo pos (starEach es X.env))) _ _ s;refine Calls.spliced_cons (Th (m b s a H _ I h) λu d ⟨x,q,o,g,j⟩=>?_);exact Th (l pos b d a q _ o j) λr v ⟨c,p,n,f,i⟩=>(x::c,p,n,.cons g f,i)
def Oc(Q:VK):List V->Hp->Prop:=λa b=>a.length<=sizeLine /\ ∀p,b p=none->Q (.ref p) (upd b p (.tup a))
def R5(t:TA):TE:=λ a H Q=>t a H (Oc Q)
def Ng(Q:VK):List V->Hp->Prop:=λa b=>a.length<=sizeLine /\ ∀p,b p=none->Q (.ref p) (upd b p (.lst a))
def RL(t:TA):TE:=λ a H Q=>t a H (Ng Q)
theorem iB{x1}(h:PA X es t):PE X (.Tuple es x1 pos) (R5 t):=by
 intro g s f H Q I k;refine wpAny_Tuple_spliced (Th (h pos g s f H _ I k) λj a ⟨i,d,c,r,z,q⟩=>(by rw[<-r.length];exact z,3));have l:d a.heap.objs.size=none:=c.hok.fresh (aac _);refine(.ref a.heap.objs.size,upd d a.heap.objs.size (.tup i),c.laid (t':=a.toks) (λb u e=>Heap.get?_push_of_some _ e) (aac _) ?_,7,q _ l);exact(z,j,r,(_,Heap.get?_push_size _ rfl,7,5))
theorem cX(h:PA X es t):PE X (.List es pos) (RL t):=by
 intro g s f H Q I k;refine wpAny_List_spliced (Th (h pos g s f H _ I k) λj a ⟨i,d,c,r,z,q⟩=>(by rw[<-r.length];exact z,3));have l:d a.heap.objs.size=none:=c.hok.fresh (aac _);refine(.ref a.heap.objs.size,upd d a.heap.objs.size (.lst i),c.laid (t':=a.toks) (λb u e=>Heap.get?_push_of_some _ e) (aac _) ?_,7,q _ l);exact(z,j,0,r,Heap.get?_push_size _ rfl)
end
abbrev Sp:=List V->Hp->VK->XK->Prop
abbrev Ut:=List Env->Hp->Shared->XK->Value->Shared->Prop
variable{X:Cx}{H H':Hp}{σ:St}{ta tb te:TE}{t:TA}{sp:Sp}{CX:Ut}{l:List V}{D:Addr->Hp->Prop}{Z:List (List Key×V)}
structure FW(P:Program)(w:World)(K:PySem.W.Frag)(mg:Str->Option Value)(base:Heap)(A:Around)(outer:List Env)(s:Shared)(H:Hp):Prop where
 frames:A.frames=some outer
 mod:Mod K mg base
 bs:∀b o,base.get? b=some o->s.heap.get? b=some o/\H b=none
 Ve:base.objs.size<=s.heap.objs.size
 funs:s.heap.FunFrames base outer
 Vs:∀b∈frs outer,H b=none
 hok:TJ P w H s.heap
 bare:AllBare s.gens
inductive CE(outer:List Env)(P:Program)(w:World)(H:Hp)(s:Shared)(Q:VK)(u:Value)(s':Shared):Prop
 | mk (v H':_) (_:s'.os=s.os) (_:AllBare s'.gens) (_:Un (frs outer) [] H H' s.heap s'.heap) (_:TJ P w H' s'.heap) (_:RelV v u) (_:Q v H')
def CR(c:Ut)(a:List Env)(P:Program)(w:World)(H:Hp)(s:Shared)(Q:VK)(E:XK)(r:Result)(b:Shared):Prop:=
 match r with
 |.ok (.ret u)=>CE a P w H s Q u b
 |.ok _=>False
 |.error e=>c a H s E e b
structure aV(P:Program)(w:World)(K:PySem.W.Frag)(mg:Str->Option Value)(base:Heap)(CX:Ut)(k:Nat)(f:Addr)(fd:FuncData)(ps:List Str)(sp:Sp):Prop where
 len:∀vs H Q E,sp vs H Q E->vs.length=ps.length
 run:∀(A:Around) (outer:List Env) (s:Shared) (H:Hp) (args:Args) (us:List Value) (vs:List V) (Q:VK) (E:XK),eF k A->FW P w K mg base A outer s H->BindsTo s fd args (ps.zip us)->Vals vs us->sp vs H Q E ->
  codeAny (model P w) A (.call (.ref f) args) (CR CX outer P w H s Q E) s
theorem aV.mono{P:Program}{w:World}{K:PySem.W.Frag}{mg:Str->Option Value}{base:Heap}{d:Ut}{j k:Nat}{f:Addr}{fd:FuncData}{ps:List Str}{c:Sp}(F:aV P w K mg base d j f fd ps c)(h:j<=k):
  aV P w K mg base d k f fd ps c:=(F.len,λA a s H b g e Q E i=>F.run A a s H b g e Q E (i.mono h))
section
variable{s':Shared}
theorem Inv.env0(I:Inv X π σ H s):FW X.prog X.w X.K X.mg X.base X.A X.stack s H:=
 (I.ok.frames,I.ok.mod,I.bs,afJ I.ok.Ve I.sz,I.stack,I.stkFree,I.hok,I.bare)
theorem Inv.after{Q:VK}{u:Value}(I:Inv X π σ H s)(h:CE X.stack X.prog X.w H s Q u s'):EP X π σ Q u s':=by
 obtain⟨v,k,i,a,f,e,r,q⟩:=h;obtain⟨j,g,d,t,c⟩:=s';obtain rfl:c=s.os:=i;exact(v,k,I.call (h':=j) (g':=g) (d':=d) (t':=t) (ch:=[]) f e a (λb z=>absurd z (by simp)),r,q)
end
def KH(b:Sp)(c:List V)(E:XK)(Q:VK):List V->Hp->Prop:=λa d=>b (a++c) d Q E
def Mu(b:Sp)(c:List V)(E:XK)(t:TA):TE:=λ a H Q=>t a H (KH b c E Q)
def Binds(K:PySem.W.Frag)(fd:FuncData)(ps:List Str)(ds:List Value):Prop:=
 ∀(s:Shared) (a:List Value),K.In s.heap->(a++ds).length=ps.length->BindsTo s fd (a,[]) (ps.zip (a++ds))
theorem Binds.all{fd:FuncData}{ps:List Str}(h:∀a:List Value,a.length=ps.length->bindArgs fd (a,[])=pure (ps.zip a)):Binds K fd ps []:=λs a _ b=>by
 rw[agY]at b ⊢;exact .of_eq (h a b)
def qD(d:Ut)(X:Cx)(E:XK):Prop:=∀(c:List (Addr×Obj)) (b:St) (H:Hp) (s:Shared) (e:Value) (a:Shared),Inv X c b H s->d X.stack H s E e a->X.xe e a
section
variable{k:Nat}{Vk:List V}{ds:List Value}{E:XK}{m:Str}{pos:Pos}{es:List Expr}
theorem Qs{σ:St}{s:Shared}{Q:VK}{a:List Value}(F:aV X.prog X.w X.K X.mg X.base CX k f fd ps sp)(i:eF k X.A)(n:Binds X.K fd ps ds)(hd:Vals Vk ds)(g:qD CX X E)
  (I:Inv X π σ H s)(r:Vals l a)(h:sp (l++Vk) H Q E):wpAny (model X.prog X.w) X.A (call (.ref f) a) (EP X π σ Q) X.xe s:=by
 have c:Vals (l++Vk) (a++ds):=r.append hd;have j:(a++ds).length=ps.length:=by rw[<-c.length];exact F.len _ _ _ _ h
 refine wpAny_call (codeAny_mono (F.run X.A X.stack s H (a,[]) (a++ds) (l++Vk) Q E i I.env0 (n s a I.Ur j) c h) λr d b=>?_);cases r with
 |error e=>exact g π σ H s e d I b
 |ok q=>
  cases q with
  |ret u=>exact I.after b
  |next=>exact False.elim b
  |brk=>exact False.elim b
  |cont=>exact False.elim b
theorem M7(F:aV X.prog X.w X.K X.mg X.base CX k f fd ps sp)(j:eF k X.A)(u:Gl X x)(l:X.mg x=some (.ref f))(n:PySem.W.keepIn X.K (.ref f)=true)(y:Binds X.K fd ps ds)(hd:Vals Vk ds)(i:qD CX X E)
  (z:PA X (e::es) t)(b:(x==("__debug__" : Str))=false:=by decide)(v:starEach (e::es) X.env=(pq false (eval e X.env))::starEach es X.env:=by rfl)(a:(backTo pos (starEach es X.env)).any (·.1)=false:=by rfl):
  PE X (.Call (.Name x p) (e::es) [] pos) (Mu sp Vk E t):=by
 intro g s d H Q I h;refine wpAny_Call_Name_kw (zP I u l ?_ b);refine PySem.W.callWith_K (h₀:=X.base) I.ok.mod.WT n (Th (z pos g s d H _ I h) λD G ⟨B,J,c,r,q⟩=>(c.Ur,3)) v a;exact Qs F j y hd i c r q
end
section
variable{k:Nat}{ks:List Str}{E:XK}{m:Str}{pos kpos:Pos}{es:List Expr}{kws:List Keyword}{tk:TA}{nm:Option Str}
variable{g:List Value->List Value->List Value}{gV:List V->List V->List V}
end
structure aC(N P:List Str)(sc:Scope):Prop where
 kind:sc.kind=.function
 co:sc.isCoroutine=false
 gen:sc.isGenerator=false
 nd:N.Nodup
 pre:N.take P.length=P
 Vz:∀x∈P,sc.names.lookup x=some .local\/sc.names.lookup x=some .cell
 nofree:∀y∈sc.names,y.2 ≠ .free
def scB(N P:List Str)(a:Scope):Bool:=decide (a.kind=.function)&&(!a.isCoroutine&&(!a.isGenerator&&(decide N.Nodup&&(decide (N.take P.length=P)&&(P.all (λx=>decide (a.names.lookup x=some .local\/a.names.lookup x=some .cell))&&a.names.all λy=>decide (y.2 ≠ .free))))))
theorem Tn{N :List Str}(h:scB N ps scope=true:=by decide +kernel):aC N ps scope:=by
 simp only[scB,ahd,decide_eq_true_eq,aht,aiH]at h;exact(h.1,h.2.1,h.2.2.1,h.2.2.2.1,h.2.2.2.2.1,h.2.2.2.2.2.1,h.2.2.2.2.2.2)
theorem xq{a:Str->Option NameKind}{x:Str}:∀{binds:List (Str×Value)} {m:Str->Option Value},(∀v,(pq x v)∉binds)->bindL a binds m x=m x
 |[],_,_=>rfl
 |(n,v)::r,m,h=>by
  unfold bindL;rw[xq λw b=>h w (aaR _ b)];split
  ·have:x≠n:=by rintro rfl;exact h v abB
   simp[this]
  ·rfl
theorem ye{a:Str->Option NameKind}{x:Str}:∀{binds:List (Str×Value)} {m:Str->Option Value},(∀v,(pq x v)∉binds)->bindC a binds m x=m x
 |[],_,_=>rfl
 |(n,v)::r,m,h=>by
  unfold bindC;rw[ye λw b=>h w (aaR _ b)];split
  ·rfl
  ·have:x≠n:=by rintro rfl;exact h v abB
   simp[this]
theorem xW{a:Str->Option NameKind}{x:Str}{v:Value}:∀{P:List Str}{b:List Value}{i:Nat}{m:Str->Option Value},P.Nodup->P[i]?=some x->b[i]?=some v->a x=some .local ->
  bindL a (P.zip b) m x=some v
 |[],_,_,_,_,h,_,_=>by simp at h
 |_::_,[],_,_,_,_,h,_=>by simp at h
 |p::P,w::b,0,m,e,d,c,f=>by
  simp at d c;subst d;subst c;show bindL a ((pq p w)::P.zip b) m p=_;unfold bindL;rw[xq λv g=>(ags.mp e).1 (agZ g).1,if_pos f];simp
 |p::P,w::b,i+1,m,e,d,c,f=>by
  show bindL a ((pq p w)::P.zip b) m x=_;unfold bindL;exact xW (i:=i) (ags.mp e).2 (by simpa using d) (by simpa using c) f
theorem xK{a:Str->Option NameKind}{x:Str}{v:Value}:∀{P:List Str}{b:List Value}{i:Nat}{m:Str->Option Value},P.Nodup->P[i]?=some x->b[i]?=some v->a x≠some .local ->
  bindC a (P.zip b) m x=some v
 |[],_,_,_,_,h,_,_=>by simp at h
 |_::_,[],_,_,_,_,h,_=>by simp at h
 |p::P,w::b,0,m,e,d,c,f=>by
  simp at d c;subst d;subst c;show bindC a ((pq p w)::P.zip b) m p=_;unfold bindC;rw[ye λv g=>(ags.mp e).1 (agZ g).1,if_neg f];simp
 |p::P,w::b,i+1,m,e,d,c,f=>by
  show bindC a ((pq p w)::P.zip b) m x=_;unfold bindC;exact xK (i:=i) (ags.mp e).2 (by simpa using d) (by simpa using c) f
def start(N:List Str)(a:List V):St:=a.map some++aaE (N.length-a.length) none
def ik(h:Ut)(P:Program)(w:World)(K:PySem.W.Frag)(mg:Str->Option Value)(base:Heap)(N:List Str)(c:Str)(a:Scope)(f:Addr)(g:Value)(A:Around)(b:List Env)(s:Shared)(H:Hp)(E:XK):Cx where
 prog:=P
 w:=w
 K:=K
 mg:=mg
 base:=base
 A:=A.deeper (envOfC c a s.heap.objs.size f g)
 N:=N
 s₀:=s
 H₀:=H
 env:=envOfC c a s.heap.objs.size f g
 outer:=b
 stack:=envOfC c a s.heap.objs.size f g::b
 ex:=[]
 calm:=true
 fn:=λ_=>true
 pn:=[]
 xe:=λe i=>wpAny (model P w) (A.deeper (envOfC c a s.heap.objs.size f g)) (leaving (envOfC c a s.heap.objs.size f g) e) (λ_ d=>h b H s E e d) (λj d=>h b H s E j d) i
theorem Cw{n:Nat}{x:Str}(h:scope.names.lookup x=some .cell):∃c,(cellsFrom n scope.names []).lookup x=some c:=by
 have q:=PySem.W.cellsFrom_some scope.names n [] (.inl h);exact ahR.mp q
theorem yC{w:World}{mg:Str->Option Value}{base:Heap}{N ps:List Str}{f:Addr}{A:Around}{s F:Shared}{E:XK}{C:List Value}
  (S:aC N ps scope)(hd:A.handled=none)(j:FW prog w K mg base A outer s H)(R:l.length=ps.length)(r:Vals l C)
  (x:InCallC s s.heap.objs.size (bindL (envOfC qual scope s.heap.objs.size f q).kindOf (ps.zip C) λ_=>none) (cellsFrom (s.heap.objs.size+1) scope.names []) (bindC (envOfC qual scope s.heap.objs.size f q).kindOf (ps.zip C) λ_=>none) F):
  Inv (ik CX prog w K mg base N qual scope f q A outer s H E) [] (start N l) H F:=by
 have O:ps.length<=N.length:=by have:=congrArg agx S.pre;rw[aaL]at this;lia
 obtain⟨B,Q,rfl,I⟩:=x.done;have D:∀b:Addr,b∉(ik CX prog w K mg base N qual scope f q A outer s H E).ex:=λb z=>absurd (show b∈([]:List Addr)from z) (by simp);refine((j.mod,S.kind,7,7,aac _,λy z c B g=>?_,λy m=>?_,λy c _ h=>?_,λ_=>hd,Around.frames_deeper j.frames,.inr (7,7),λb z=>absurd z (D b),j.bs,j.Ve,λb _ _=>D b,λb z=>absurd z (D b),j.funs,j.Vs),
  rfl,j.bare,Un.kept I,(_,x.toInCall.ns,λi y v B g T=>?_),λy c h=>(_,x.cell y c h),j.hok.fresh (aac _),λy c h=>?_,λp o=>absurd (show p∈([]:List (Addr×Obj))from o) (by simp),j.hok.kept I,3)
 ·exact name_of_addr x.apart (PySem.mem_of_lookup B) (PySem.mem_of_lookup g)
 ·have m:scope.names.lookup y=some .cell\/scope.names.lookup y=some .free:=m;rcases m with m|m
  ·exact Cw m
  ·exact absurd rfl (S.nofree _ (PySem.mem_of_lookup m))
 ·exact ae8 (x.above y c (PySem.mem_of_lookup h))
 ·have t:i<l.length:=by
   unfold start at g;by_cases t:i<l.length
   ·exact t
   ·rw[aas (by simpa using t)]at g;rw[agz]at g;split at g<;>cases g
  have M:l[i]?=some v:=by
   unfold start at g;rw[aaz (by simpa using t),aag]at g;cases e:l[i]? with
   |none=>rw[e]at g;cases g
   |some a=>rw[e]at g;cases g;rfl
  obtain⟨u,G,L⟩:=r.get M;have o:ps[i]?=some y:=by
   rw[<-S.pre,af6 ⋯];exact B
  have J:ps.Nodup:=by rw[<-S.pre];exact S.nd.sublist (agM _ _)
  exists u,L;rcases S.Vz y (aah o)with k|k
  ·exact .inl (k,xW J o G k)
  ·obtain⟨c,e⟩:=Cw (n:=s.heap.objs.size+1) k;refine .inr (.inl k,c,e,3);have d:=x.cell y c e;rw[xK J o G (by show scope.names.lookup y≠_;rw[k];decide)]at d;exact d
 ·exact j.hok.fresh (ae8 (x.above y c (PySem.mem_of_lookup h)))
 ·unfold start;show _=N.length;rw[aaf,aaa,abp];lia
theorem Pb{w:World}{mg:Str->Option Value}{base:Heap}{k:Nat}{f:Addr}{name :Str}{h:Arguments}{i:List Stmt}{kV G Y g Z oc:Value}{an od:Option Addr}
  {R:Array (Option Value)}{N ps:List Str}(lk:K.lookup f=some (oc,od,.func (PySem.W.fnOf name x h i scope q kV G Y an g Z),R))(U:PySem.W.codeIn K g x=true)(S:aC N ps scope)
  (C:∀j H Q E,sp j H Q E->j.length=ps.length)
  (p:∀(A:Around) (d:List Env) (s:Shared) (H:Hp) (j:List V) (Q:VK) (E:XK),eF k (A.deeper (envOfC x scope s.heap.objs.size f g))->sp j H Q E ->
   ∃t,Um (ik CX prog w K mg base N x scope f g A d s H E) i t/\t {nx:=λ_ H'=>Q .non H',rt:=Q} (start N j) H):
  aV prog w K mg base CX (k+1) f (PySem.W.fnOf name x h i scope q kV G Y an g Z) ps sp:=by
 refine(C,λA d s H a0 us j Q E O B hb r D=>?_);have hl:=C _ _ _ _ D;have KX:K.In s.heap:=B.mod.WT.keeps λb o e=>(B.bs b o e).1;have T:s.heap.NoLimit:=B.mod.nolimit.keeps λb o e=>(B.bs b o e).1;have m:∀y∈ps.zip us,scope.names.lookup y.1=some .local\/(scope.names.lookup y.1=some .cell/\((cellsFrom (s.heap.objs.size+1) scope.names []).lookup y.1).isSome=true):=λ⟨n,v⟩ hy=>by
  rcases S.Vz n (agZ hy).1 with c|c
  ·exact .inl c
  ·exact .inr (c,PySem.W.cellsFrom_some _ _ _ (.inl c))
 refine codeAny_call_function O.depth (KX _ _ lk) rfl S.co S.gen rfl (PySem.W.codeRec_of KX U) (hb _ _ _ _ ?_);refine wpAny_newFunctionEnv_cells S.kind m λa1 he X a=>?_;subst he;refine(T.keeps a.toInCall.keep,codeAny_func ?_);obtain⟨t,ht,hq⟩:=p A d s H j Q E (O.deeper _) D;have I:Inv (ik CX prog w K mg base N x scope f g A d s H E) [] (start N j) H X:=yC S O.hd B hl r a;refine wpAny_mono (ht [] X (start N j) H _ I hq) (λfl L z=>?_) λe L z=>z;have F:∀{l:St}{H':Hp}{v:V}{u:Value},Inv (ik CX prog w K mg base N x scope f g A d s H E) [] l H' L->RelV v u->Q v H'->CE d prog w H s Q u L:=
  λ{l H' v u} J M c=>(v,H',J.os,J.bare,J.base,J.hok,M,c)
 cases fl with
 |ret u=>
  obtain⟨v,l,H',J,M,c⟩:=z;exact F J M c
 |next=>
  obtain⟨l,H',J,c⟩:=z;exact F (v:=V.non) (u:=Value.none) J rfl c
 |brk=>
  obtain⟨_,_,_,c⟩:=z;exact False.elim c
 |cont=>
  obtain⟨_,_,_,c⟩:=z;exact False.elim c
section
variable{pos:Pos}{es:List Expr}{id T:String}{r:List V->Hp->VK->Prop}
def Qa(r:List V->Hp->VK->Prop)(Q:VK):List V->Hp->Prop:=λa b=>r a b Q
def tCB(r:List V->Hp->VK->Prop)(t:TA):TE:=λ a H Q=>t a H (Qa r Q)
theorem aL(u:gR X (.builtin id) r)(o:Gl X x)(n:X.mg x=none)(l:bootBuiltins x=some (.builtin id))(v:PA X (e::es) t)(m:x ≠ "__name__":=by decide)(b:(x==("__debug__" : Str))=false:=by decide)
  (q:starEach (e::es) X.env=(pq false (eval e X.env))::starEach es X.env:=by rfl)(a:(backTo pos (starEach es X.env)).any (·.1)=false:=by rfl):PE X (.Call (.Name x p) (e::es) [] pos) (tCB r t):=by
 intro d s c H Q I h;refine wpAny_Call_Name_kw (cZ I o n l ?_ m b);exact PyProof.Rows.callWith_builtin1 (Th (v pos d s c H _ I h) λg i ⟨f,y,w,j,k⟩=>u d i c y f g Q w j k) q a
theorem cW(u:gR X (.type T) r)(o:Gl X x)(n:X.mg x=none)(l:bootBuiltins x=some (.type T))(v:PA X (e::es) t)(m:x ≠ "__name__":=by decide)(b:(x==("__debug__" : Str))=false:=by decide)
  (q:starEach (e::es) X.env=(pq false (eval e X.env))::starEach es X.env:=by rfl)(a:(backTo pos (starEach es X.env)).any (·.1)=false:=by rfl):PE X (.Call (.Name x p) (e::es) [] pos) (tCB r t):=by
 intro d s c H Q I h;refine wpAny_Call_Name_kw (cZ I o n l ?_ m b);exact PyProof.Rows.callWith_type1 (Th (v pos d s c H _ I h) λg i ⟨f,y,w,j,k⟩=>u d i c y f g Q w j k) q a
end
end L2
section
open PySem L2
variable{s:Shared}{w:World}{A:Around}{E:Value->Shared->Prop}{prog:Program}{π:List (Addr×Obj)}{e o b tg:Expr}{K:PySem.W.Frag}{a f C S c dx Pt:Addr}{h' base h:Heap}{mg:Str->Option Value}{x qual name:Str}{N ps:List Str}{scope:Scope}{fd:FuncData}{p apos:Pos}{st:Stmt}{outer:List Env}{n i R:Nat}{d M:List Int}{g:List Addr}{j:Array Keyed}{m:Int}{q:Value}{r:List Value}{u:List Nat}{v:Option Value->Shared->Prop}{y:List Expr}{z:List (Str×Addr)}{B:List (List Nat)}{G:Array Value}{I:List (Str×Nat)}{J:SortSt}{O:SetTable}{Q:Type}{T:Value->Addr->Result->Shared->Prop}{U:List (Int×Value)}{Y:Option Nat->SortSt->Prop}{X:Cx}{H H':Hp}{σ:St}{ta tb te:TE}{t:TA}{sp:Sp}{CX:Ut}{l:List V}{D:Addr->Hp->Prop}{Z:List (List Key×V)}
namespace HT
open PyProof.Rows
section
open PySem.SeqAt
open PySem.AutoSeq1 (wpAny_loadPart')
open PySem.MeetsSeq PySem.MeetsSeq2 PySem.MeetsSeq3
end
def T6(n d:Nat):Option Int->Nat
 |none=>d
 |some v=>if v<0 then (v+(n:Int)).toNat else min v.toNat n
theorem mD(n d:Nat):T6 n d none=d:=rfl
theorem lu(n d k:Nat):T6 n d (some (k:Int))=min k n:=by
 show (if (k:Int)<0 then ((k:Int)+(n:Int)).toNat else min (k:Int).toNat n)=min k n;rw[if_neg ⋯,ab1]
theorem QX(n d:Nat)(hd:d<=n)(o:Option Int):T6 n d o<=n:=by
 cases o with
 |none=>exact hd
 |some v=>
  show (if v<0 then (v+(n:Int)).toNat else min v.toNat n)<=n;by_cases a:v<0
  ·rw[if_pos a];lia
  ·rw[if_neg a];exact Nat.min_le_right _ _
end HT
namespace L2
open PySem.Spec PyProof.Rows
abbrev TO:=St->Hp->(Option Int->Hp->Prop)->Prop
def PO(X:Cx)(e:Option Expr)(t:TO):Prop:=
 ∀(b:List (Addr×Obj)) (s:Shared) (a:St) (H:Hp) (Q:Option Int->Hp->Prop),Inv X b a H s->t a H Q ->
  wpAny (model X.prog X.w) X.A (evalPart e X.env) (λu d=>∃o c,Inv X b a c d/\IsPart u o/\Q o c) X.xe s
def MJ:TO:=λ_ H Q=>Q none H
inductive Nq(Q:Option Int->Hp->Prop)(x:V)(H1:Hp):Prop
 | mk (i:_) (_:x=.int i) (_:Q (some i) H1)
def RJ(t:TE):TO:=λ a H Q=>t a H (Nq Q)
theorem intsAre_of:∀{a:List Value},Vals (d.map V.int) a->IntsAre a d:=by
 induction d with
 |nil=>intro a r;rw[ahL]at r;cases r;exact .nil
 |cons n d f=>
  intro a r;rw[aaD]at r;cases r with
  |cons c b=>
   obtain⟨t,e⟩:=c;subst e;exact .cons n t (f b)
section
variable{lo hi:Option Expr}{tl th:TO}{pos p2:Pos}
theorem cO:PO X none MJ:=by
 intro b s a H Q I h;rw[evalPart_none];exact wpAny_pure (none,H,I,.none,h)
theorem cB(h:PE X e te):PO X (some e) (RJ te):=by
 intro b s a H Q I f;rw[evalPart_some];refine Th (h b s a H _ I f) λu k ⟨x,j,g,c,d⟩=>?_;obtain⟨i,rfl,q⟩:=d;obtain⟨t,rfl⟩:=c;exact(some i,j,g,.int i t,q)
def XC(X:Cx)(r:V->Option Int->Option Int->Hp->VK->Prop):Prop:=
 ∀(b:List (Addr×Obj)) (s:Shared) (a:St) (H:Hp) (x:V) (v d c:Value) (lo hi:Option Int) (f:Addr) (Q:VK),Inv X b a H s->RelV x v->s.heap.IsSliceOf f d c .none->IsPart d lo->IsPart c hi->r x lo hi H Q ->
  ∃T g,typeLookup (.type T) "__getitem__" = pure (some (.builtin g))/\s.TypeIs v T/\wpAny (model X.prog X.w) X.A (getItem v (.ref f)) (EP X b a Q) X.xe s
def QF(r:V->Option Int->Option Int->Hp->VK->Prop)(Q:VK)(x:V)(l:Option Int):Option Int->Hp->Prop:=λu a=>r x l u a Q
def Qv(r:V->Option Int->Option Int->Hp->VK->Prop)(th:TO)(σ:St)(Q:VK)(x:V):Option Int->Hp->Prop:=λl a=>th σ a (QF r Q x l)
def Q8(r:V->Option Int->Option Int->Hp->VK->Prop)(tl:TO)(th:TO)(σ:St)(Q:VK):VK:=λx a=>tl σ a (Qv r th σ Q x)
def tSl(r:V->Option Int->Option Int->Hp->VK->Prop)(te:TE)(tl th:TO):TE:=λ a H Q=>te a H (Q8 r tl th a Q)
theorem bZ{r:V->Option Int->Option Int->Hp->VK->Prop}(B:XC X r)(E:PE X e te)(C:PO X lo tl)(z:PO X hi th):PE X (.Subscript e (.Slice lo hi none p2) pos) (tSl r te tl th):=by
 intro d s c H Q I h;refine Subscript_ (Th (E d s c H _ I h) λv k ⟨x,N,L,m,p⟩=>?_);refine wpAny_Slice (Th (C d k c N _ L p) λg j ⟨l,M,K,y,o⟩=>Th (z d j c M _ K o) λf a ⟨u,i,J,t,n⟩=>?_);rw[evalPart_none];refine wpAny_pure ?_
 have G:Inv X d c i {a with heap:=a.heap.push {cls:=.type "slice",data:=.fields #[g,f,.none]}}:=J.kept (t':=a.toks) λb O q=>Heap.get?_push_of_some _ q
 obtain⟨T,P,F,ht,D⟩:=B d {a with heap:=a.heap.push {cls:=.type "slice",data:=.fields #[g,f,.none]}} c i x v g f l u a.heap.objs.size Q G m (Heap.IsSliceOf.new ..) y t n
 show wpAny (model X.prog X.w) X.A (subscriptTail e (.Slice lo hi none p2) v (.ref a.heap.objs.size)) (EP X d c Q) X.xe {a with heap:=a.heap.push {cls:=.type "slice",data:=.fields #[g,f,.none]}}
 exact tail_any (ops:=[.ref a.heap.objs.size,v]) ht F D (by with_unfolding_all rfl)
def fc(xs:List V)(lo hi:Option Int):List V:=(xs.drop (HT.T6 xs.length 0 lo)).take (HT.T6 xs.length xs.length hi-HT.T6 xs.length 0 lo)
theorem sH(xs:List V)(lo hi:Option Int):(fc xs lo hi).length<=xs.length:=by
 unfold fc;rw[aaL,ab3];lia
end
def Vf(n:Nat)(i:Int):Option Nat:=if 0<=i then (if i<n then some i.toNat else none)else if -(n:Int)<=i then some (i+n).toNat else none
def T7{a:Type}(xs:List a)(i:Int):Option a:=(Vf xs.length i).bind λj=>xs[j]?
theorem G4{n:Nat}{i:Int}{j:Nat}(h:Vf n i=some j):seqIndex? i n=some j/\j<n /\ -(n:Int)<=i/\i<n:=by
 unfold Vf at h;by_cases b:0<=i
 ·rw[if_pos b]at h;by_cases a:i<n
  ·rw[if_pos a]at h;have e:i.toNat=j:=aao h;exact(by rw[seqIndex_of b a,e],9,9,a)
  ·rw[if_neg a]at h;cases h
 ·rw[if_neg b]at h;by_cases a : -(n:Int)<=i
  ·rw[if_pos a]at h;have e:(i+n).toNat=j:=aao h;exact(by rw[seqIndex_neg ⋯ a,e],9,a,9)
  ·rw[if_neg a]at h;cases h
theorem zO{xs:List Q}{i:Int}{v:Q}(h:T7 xs i=some v):∃j,seqIndex? i xs.length=some j/\xs[j]?=some v/\j<xs.length /\ -(xs.length:Int)<=i/\i<xs.length:=by
 unfold T7 at h;cases e:Vf xs.length i with
 |none=>rw[e]at h;cases h
 |some j=>
  rw[e]at h;obtain⟨d,c,b,a⟩:=G4 e;exact(j,d,h,c,b,a)
theorem m8{xs:List Q}{j:Nat}{v:Q}(h:xs[j]?=some v):T7 xs (j:Int)=some v:=by
 have a:j<xs.length:=(aab.mp h).1;have e:Vf xs.length (j:Int)=some j:=by
  unfold Vf;rw[if_pos ⋯,if_pos ⋯];simp
 unfold T7;rw[e];exact h
theorem mj(xs:List Q)(v:Q):T7 (xs++[v]) (-1)=some v:=by
 have a:(xs++[v]).length=xs.length+1:=by simp
 have e:Vf (xs++[v]).length (-1)=some xs.length:=by
  unfold Vf;rw[a,if_neg ∅,if_pos ⋯];congr 1;lia
 unfold T7;rw[e];show (xs++[v])[xs.length]?=some v;simp
def Mw(b:Expr):Prop:=∀o i,subscripted b false o i=operate [o,i] (getItem o i)
def XD(X:Cx)(r:R2):Prop:=
 ∀(b a:Expr) (d:List (Addr×Obj)) (s:Shared) (c:St) (H:Hp) (x y:V) (v u:Value) (Q:VK),Inv X d c H s->RelV x v->RelV y u->r x y H Q ->
  subscripted a false v u=operate [v,u] (getItem v u)->wpAny (model X.prog X.w) X.A (subscriptTail b a v u) (EP X d c Q) X.xe s
def XF(X:Cx)(id:String)(r:V->List V->Hp->VK->Prop):Prop:=
 ∀(b:List (Addr×Obj)) (s:Shared) (a:St) (H:Hp) (x:V) (c:List V) (v:Value) (d:List Value) (Q:VK),Inv X b a H s->RelV x v->Vals c d->r x c H Q ->
  wpAny (model X.prog X.w) X.A (call (.builtin id) (v::d)) (EP X b a Q) X.xe s
section
variable{a:Expr}{pos:Pos}
theorem aW{r:R2}(j:XD X r)(l:PE X a ta)(k:PE X b tb)(i:Mw b:=by exact λ_ _=>rfl):PE X (.Subscript a b pos) (W3 r ta tb):=by
 intro d s c H Q I h;exact Subscript_ (Rb l k I h λv u e x y n m g f q=>j a b d e c n x y v u Q m g f q (i _ _))
inductive SM(K:PySem.W.Frag)(x:V)(y:V)(H:Hp)(Q:VK):Prop
 | mk (p xs i v:_) (_:x=.ref p) (_:y=.int i) (_:Tg K H p xs) (_:T7 xs i=some v) (_:Q v H)
inductive R7(K:PySem.W.Frag)(x:V)(y:V)(H:Hp)(Q:VK):Prop
 | mk (p xs i v:_) (_:x=.ref p) (_:y=.int i) (_:Tj K H p xs) (_:T7 xs i=some v) (_:Q v H)
inductive Sy(x:V)(y:V)(H:Hp)(Q:VK):Prop
 | mk (z i c:_) (_:x=.str z) (_:y=.int i) (_:z.length<=sizeLine) (_:T7 z.cps.toList i=some c) (_:Q (.str ⟨#[c]⟩) H)
theorem jm:XD X (SM X.K):=by
 intro k l n s m H x y v u Q I E D h o;obtain⟨p,P,i,z,rfl,rfl,F,J,q⟩:=h;cases E;obtain⟨t,rfl⟩:=D;obtain⟨g,r,e,R⟩:=I.list F;obtain⟨j,d,N,T,M,L⟩:=zO J;obtain⟨w,B,O⟩:=r.get N;have G:=r.length;have S:=qJ;have c:EP X n m Q w s:=(z,H,I,O,q);by_cases A:0<=i
 ·have f:i.toNat=j:=by
   rw[seqIndex_of A L]at d;exact aao d
  exact item_listR e.isList A ⋯ (by rw[f];simpa using B) c o
 ·have f:(i+(g.toArray.size:Int)).toNat=j:=by
   rw[seqIndex_neg ⋯ M]at d;rw[aaB,<-G];exact aao d
  exact subscriptTail_builtinR (x:=w) e.isList.typeIs slot_list_getitem.lookup
   (wpAny_getItem_list_neg (Q:=λr C=>r=w/\EP X n m Q r C) e.isList ⋯ (by rw[aaB]<;>lia) ⋯ (by rw[f];simpa using B) (7,c)) o
theorem aR:XD X (R7 X.K):=by
 intro d e g s f H x y v u Q I n m h o;obtain⟨p,L,i,z,rfl,rfl,A,C,q⟩:=h;cases n;obtain⟨t,rfl⟩:=m;obtain⟨J,r,k,M⟩:=I.tuple A;obtain⟨j,E,D,R,P,O⟩:=zO C;obtain⟨w,F,G⟩:=r.get D;have B:=r.length;have N:=qJ;have c:EP X g f Q w s:=(z,H,I,G,q);exact subscriptTail_builtinR (x:=w) k.typeIs slot_tuple_getitem.lookup
  (getItem_tuple (j:=j) (Q:=λr l=>r=w/\EP X g f Q r l) k ⋯ ⋯ (by rw[aaB,<-B];exact E) (by simpa using F) (7,c)) o
theorem DR:XD X Sy:=by
 intro d e C s B H x y v u Q I k g h l;obtain⟨z,i,c,rfl,rfl,E,n,q⟩:=h;obtain⟨t,rfl⟩:=k;obtain⟨D,rfl⟩:=g;obtain⟨j,f,r,G,p,o⟩:=zO n;have m:z.cps.toList.length=z.length:=by simp[Str.length]
 rw[m]at f p o;have F:=qJ;exact tail_any (typeIs_str s z t) slot_str_getitem.lookup (getItem_str (c:=c) (by
  have A:decide (i < -(2^63:Int))=false:=decide_eq_false ⋯;have w:decide (i >= 2^63)=false:=decide_eq_false ⋯;rw[A,w,ahV]) (by rw[f];simpa using r) (.str ⟨#[c]⟩,H,I.tok _,(_,7),q)) l
theorem Fi(c:List Value)(n j:Nat)(u:Value):Obj.mapSeq (·.setIfInBounds j u) {cls:=.type "list",data:=.seq c.toArray n}={cls:=.type "list",data:=.seq (c.set j u).toArray n}:=by
 simp[Obj.mapSeq]
theorem Inv.lst{σ:St}{s:Shared}{p:Addr}{xs:List V}(I:Inv X π σ H s)(h:H p=some (.lst xs)):
  ∃(c:List Value) (n:Nat),Vals xs c/\s.heap.get? p=some {cls:=.type "list",data:=.seq c.toArray n}/\xs.length<=sizeLine:=by
 obtain⟨z,c,n,r,e⟩:=I.hok p _ h;exact(c,n,r,e,z)
theorem Inv.lstUpd{σ:St}{s:Shared}{p:Addr}{xs ys:List V}{c its':List Value}{n :Nat}{f:Obj->Obj}(I:Inv X π σ H s)(h:H p=some (.lst xs))
  (g:s.heap.get? p=some {cls:=.type "list",data:=.seq c.toArray n})(d:f {cls:=.type "list",data:=.seq c.toArray n}={cls:=.type "list",data:=.seq its'.toArray i})(r:Vals ys its')(hz:ys.length<=sizeLine)(t:Nat):
  Inv X π σ (upd H p (.lst ys)) {s with heap:=s.heap.update p f,toks:=t}:=by
 have e:(s.heap.update p f).get? p=some {cls:=.type "list",data:=.seq its'.toArray i}:=by
  rw[Heap.get?_update_self f g (by rw[d]<;>rfl),d]
 refine I.write (x:=p) (e:=p) (by rw[h];trivial) (.inl rfl) (λb u j q=>(Heap.get?_update_other _ _ (af3 j)).trans q) (_,e) ?_;exact(hz,its',i,r,e)
inductive RK(o:V)(i:V)(v:V)(H:Hp)(Q:Hp->Prop):Prop
 | mk (p xs k j:_) (_:o=.ref p) (_:i=.int k) (_:H p=some (.lst xs)) (_:Vf xs.length k=some j) (_:Q (upd H p (.lst (xs.set j v))))
theorem set_list:Rh X RK:=by
 intro A s z H o i v J K u Q I D E C h;obtain⟨p,B,k,j,rfl,rfl,l,G,q⟩:=h;cases D;obtain⟨t,rfl⟩:=E;obtain⟨c,n,r,e,F⟩:=I.lst l;obtain⟨d,M,w,m⟩:=G4 G;have f:=r.length;have L:=qJ;have y:Inv X A z (upd H p (.lst (B.set j v))) {s with heap:=s.heap.update p (Obj.mapSeq (·.setIfInBounds j u))}:=
  I.lstUpd l e (Fi c n j u) (r.set C j) (by rw[aiO];exact F) s.toks
 by_cases x:0<=k
 ·have g:k.toNat=j:=by
   rw[seqIndex_of x m]at d;exact aao d
  exact PySem.W.ki_setAt e x ⋯ (by rw[aaB,<-f];exact m) (by rw[g];exact(_,y,q))
 ·have g:(k+(c.toArray.size:Int)).toNat=j:=by
   rw[seqIndex_neg ⋯ w]at d;rw[aaB,<-f];exact aao d
  exact PySem.W.ki_setBack e ⋯ (by rw[aaB,<-f];exact w) ⋯ (by rw[g];exact(_,y,q))
theorem za(lo c:Option Int)(n:Nat):(sliceBounds lo c none n).1=((HT.T6 n 0 lo:Nat):Int)/\(sliceBounds lo c none n).2.1=((HT.T6 n n c:Nat):Int)/\(sliceBounds lo c none n).2.2=1:=by
 refine(3,3,7)
 ·cases lo with
  |none=>simp[sliceBounds,HT.T6]
  |some i=>
   simp only[sliceBounds,HT.T6,aiI,show (1:Int) > 0 by decide,if_true];by_cases h:i<0
   ·simp only[h,if_true]<;>lia
   ·simp only[h,if_false]<;>lia
 ·cases c with
  |none=>simp[sliceBounds,HT.T6]
  |some i=>
   simp only[sliceBounds,HT.T6,aiI,show (1:Int) > 0 by decide,if_true];by_cases h:i<0
   ·simp only[h,if_true]<;>lia
   ·simp only[h,if_false]<;>lia
theorem wj(c:List Value)(lo d:Option Int):slicePick c.toArray lo d none=((c.drop (HT.T6 c.length 0 lo)).take (HT.T6 c.length c.length d-HT.T6 c.length 0 lo)).toArray:=by
 obtain⟨g,f,e⟩:=za lo d c.toArray.size;unfold slicePick;rw[g,f,e];simp only[sliceRange_one,pick_run,aaB]<;>rfl
inductive Rf(K:PySem.W.Frag)(x:V)(lo:Option Int)(hi:Option Int)(H:Hp)(Q:VK):Prop
 | mk (a xs:_) (_:x=.ref a) (_:Tg K H a xs) (_:∀p,H p=none->Q (.ref p) (upd H p (.lst (fc xs lo hi))))
theorem p7:XC X (Rf X.K):=by
 intro t s p H x v w u e f y Q I g m j i h;obtain⟨a,c,rfl,l,q⟩:=h;cases g;obtain⟨n,r,ht,k⟩:=I.list l;have d:=r.length
 exists "list",_,slot_list_getitem.lookup,ht.isList.typeIs
 refine wpAny_getItem_list_slice ht.isList m j i .none (by simp) ?_ (by rw[aaB]<;>lia);rw[wj,<-d];refine(.ref s.heap.objs.size,_,I.laid (t':=s.toks) (o:=.lst (fc c e f)) (λb z q=>Heap.get?_push_of_some _ q) (aac _) ?_,7,q _ (I.hok.fresh (aac _)));exact(afJ (sH c e f) k,_,0,(r.drop (HT.T6 c.length 0 e)).take (HT.T6 c.length c.length f-HT.T6 c.length 0 e),Heap.get?_push_size _ rfl)
def pQ:V->Bool
 |.non=>true
 |.bl _=>true
 |.int _=>true
 |.str _=>true
 |_=>false
def Vg:V->V->Bool
 |.non,.non=>true
 |.bl a,.bl b=>a==b
 |.bl a,.int b=>(if a then 1 else 0)==b
 |.int a,.bl b=>a==(if b then 1 else 0)
 |.int a,.int b=>a==b
 |.str a,.str b=>a==b
 |_,_=>false
theorem PL{A:Around}{s:Shared}{y x:V}{u v:Value}(e:RelV y u)(c:RelV x v)(g:pQ y=true)(f:pQ x=true):SeqAt.EqAt A s u v (Vg y x):=by
 cases y with
 |non=>
  cases e;cases x with
  |non=>cases c;exact SeqAt.EqAt.same _
  |bl b=>cases c;exact SeqAt.EqAt.none_bool b
  |int b=>obtain⟨t,rfl⟩:=c;exact SeqAt.EqAt.none_int b t
  |str b=>obtain⟨t,rfl⟩:=c;exact SeqAt.EqAt.none_str b t
  |_=>exact absurd (show false=true from f) aar
 |bl a=>
  cases e;cases x with
  |non=>cases c;exact SeqAt.EqAt.bool_none a
  |bl b=>cases c;exact SeqAt.EqAt.bool_bool a b
  |int b=>obtain⟨t,rfl⟩:=c;exact SeqAt.EqAt.bool_int a b t
  |str b=>obtain⟨t,rfl⟩:=c;exact SeqAt.EqAt.bool_str a b t
  |_=>exact absurd (show false=true from f) aar
 |int a=>
  obtain⟨d,rfl⟩:=e;cases x with
  |non=>cases c;exact SeqAt.EqAt.int_none a d
  |bl b=>cases c;exact SeqAt.EqAt.int_bool a d b
  |int b=>obtain⟨t,rfl⟩:=c;exact SeqAt.EqAt.int_int a d b t
  |str b=>obtain⟨t,rfl⟩:=c;exact SeqAt.EqAt.int_str a d b t
  |_=>exact absurd (show false=true from f) aar
 |str a=>
  obtain⟨d,rfl⟩:=e;cases x with
  |non=>cases c;exact SeqAt.EqAt.str_none a d
  |bl b=>cases c;exact SeqAt.EqAt.str_bool a d b
  |int b=>obtain⟨t,rfl⟩:=c;exact SeqAt.EqAt.str_int a d b t
  |str b=>obtain⟨t,rfl⟩:=c;exact SeqAt.EqAt.str_str a d b t
  |_=>exact absurd (show false=true from f) aar
 |_=>exact absurd (show false=true from g) aar
def UL(x:V)(u:Value):Bool:=match u with
 |.none=>Vg .non x
 |.bool b=>Vg (.bl b) x
 |.int i _=>Vg (.int i) x
 |.str z _=>Vg (.str z) x
 |_=>false
theorem J7{x y:V}{u:Value}(r:RelV y u)(f:pQ y=true):UL x u=Vg y x:=by
 cases y with
 |non=>cases r;rfl
 |bl b=>cases r;rfl
 |int i=>obtain⟨t,rfl⟩:=r;rfl
 |str z=>obtain⟨t,rfl⟩:=r;rfl
 |_=>exact absurd (show false=true from f) aar
theorem pA{x:V}:∀{xs:List V}{c:List Value},Vals xs c->xs.all pQ=true->c.any (UL x)=xs.any λy=>Vg y x
 |_,_,.nil,_=>rfl
 |y::xs,u::c,.cons r t,f=>by
  rw[aip,ahd]at f;rw[ahl,ahl,J7 r f.1,pA t f.2]
theorem lK{A:Around}{s:Shared}{x:V}{v:Value}(e:RelV x v)(g:pQ x=true):∀{xs:List V}{d:List Value},Vals xs d->xs.all pQ=true -> ∀u∈d,SeqAt.EqAt A s u v (UL x u)
 |_,_,.nil,_=>λu c=>by cases c
 |y::xs,u::d,.cons r t,f=>λh c=>by
  rw[aip,ahd]at f;rcases aaO.mp c with rfl|c
  ·rw[J7 r f.1];exact PL r e f.1 g
  ·exact lK e g t f.2 h c
def inV(x:V)(xs:List V):Bool:=xs.any λy=>Vg y x
inductive rIn(K:PySem.W.Frag)(neg:Bool)(x:V)(y:V)(H:Hp)(Q:VK):Prop
 | mk (p xs:_) (_:y=.ref p) (_:(Tg K H p xs\/Tj K H p xs)) (_:pQ x=true) (_:xs.all pQ=true) (_:Q (.bl (if neg then !inV x xs else inV x xs)) H)
theorem Js:TY X (compareOp .In) (rIn X.K false):=by
 intro n s m H x y v u Q I i k h;obtain⟨p,o,rfl,d,j,e,q⟩:=h;cases k;rcases d with d|d
 ·obtain⟨c,r,f,l⟩:=I.list d;refine SeqAt.in_listAt (UL x) f.isList (λw g=>lK i j r e w (by simpa using g)) (.bl _,H,I,7,3);rw[show c.toArray.any (UL x)=c.any (UL x) by simp,pA r e];exact q
 ·obtain⟨c,r,f,l⟩:=I.tuple d;refine SeqAt.in_tupleAt (UL x) f (λw g=>lK i j r e w (by simpa using g)) (.bl _,H,I,7,3);rw[show c.toArray.any (UL x)=c.any (UL x) by simp,pA r e];exact q
theorem zE:TY X (compareOp .NotIn) (rIn X.K true):=by
 intro n s m H x y v u Q I i k h;obtain⟨p,o,rfl,d,j,e,q⟩:=h;cases k;rcases d with d|d
 ·obtain⟨c,r,f,l⟩:=I.list d;refine SeqAt.notIn_listAt (UL x) f.isList (λw g=>lK i j r e w (by simpa using g)) (.bl _,H,I,7,3);rw[show c.toArray.any (UL x)=c.any (UL x) by simp,pA r e];exact q
 ·obtain⟨c,r,f,l⟩:=I.tuple d;refine SeqAt.notIn_tupleAt (UL x) f (λw g=>lK i j r e w (by simpa using g)) (.bl _,H,I,7,3);rw[show c.toArray.any (UL x)=c.any (UL x) by simp,pA r e];exact q
theorem yQ:TY X (compareOp .NotIn) (λx y H Q=>∃i j,x=.str i/\y=.str j/\Q (.bl (!(!(Builtin.Str.occurrences j i 0 j.length 1).isEmpty))) H):=by
 intro f s e H x y v u Q I d c h;obtain⟨i,j,rfl,rfl,q⟩:=h;obtain⟨t,rfl⟩:=d;obtain⟨g,rfl⟩:=c;exact notIn_str (.bl _,H,I,7,q)
theorem aO:gR X (.builtin "len") (λxs H Q=>∃p ys,xs=[.ref p]/\(Tg X.K H p ys\/Tj X.K H p ys)/\Q (.int ys.length) H):=by
 intro l s k H xs m Q I r h;obtain⟨p,ys,rfl,d,q⟩:=h;obtain⟨u,rfl,i⟩:=vals1 r;cases i;have n:=qJ;rcases d with d|d
 ·obtain⟨g,e,f,j⟩:=I.list d;have c:=e.length;exact Calls.call_len_list f.isList (by simp only[aaB]<;>lia) (.int ys.length,H,I.tok _,(s.toks+1,by rw[aaB,c]),q)
 ·obtain⟨g,e,f,j⟩:=I.tuple d;have c:=e.length;exact len_tuple f (by simp only[aaB]<;>lia) (.int ys.length,H,I.tok _,(s.toks+1,by rw[aaB,c]),q)
theorem bz:gR X (.builtin "len") (λxs H Q=>∃z,xs=[.str z]/\z.length<=sizeLine/\Q (.int z.length) H):=by
 intro d s c H xs e Q I r h;obtain⟨z,rfl,f,q⟩:=h;obtain⟨u,rfl,t,rfl⟩:=vals1 r;have g:=qJ;exact len_str ⋯ (.int z.length,H,I.tok _,(_,7),q)
theorem lD:gR X (.type "list") (λxs H Q=>∃p ys,xs=[.ref p]/\(Tg X.K H p ys\/Tj X.K H p ys) /\ ∀l,H l=none->Q (.ref l) (upd H l (.lst ys))):=by
 intro B s A H xs D Q I r h;obtain⟨p,ys,rfl,k,q⟩:=h;obtain⟨u,rfl,C⟩:=vals1 r;cases C;have m:∀(c:List Value),Vals ys c->ys.length<=sizeLine -> ∀(d:Heap) (g:Nat),(∀b z,s.heap.get? b=some z->d.get? b=some z) ->
   d.get? s.heap.objs.size=some {cls:=.type "list",dict:=none,data:=.seq c.toArray g,slots:=#[]}->EP X B A Q (.ref s.heap.objs.size) {s with heap:=d}:=λc f j d g i e=>
  (.ref s.heap.objs.size,_,I.laid (t':=s.toks) i (aac _) (show bJ X.prog X.w _ d _ (.lst ys)from (j,c,g,f,e)),7,q _ (I.hok.fresh (aac _)))
 rcases k with k|k
 ·obtain⟨c,f,v,j⟩:=I.list k;have t:=f.length;obtain⟨o,x,y,n,hd⟩:=v.isList;exact call_list_seq p (.inl rfl) x y hd (λd g i e=>m c f j d g i e) (by simp only[aaB]<;>lia)
 ·obtain⟨c,f,v,j⟩:=I.tuple k;have t:=f.length;obtain⟨o,x,y,n,hd⟩:=v;exact call_list_seq p (.inr rfl) x y hd (λd g i e=>m c f j d g i e) (by simp only[aaB]<;>lia)
theorem gf:gR X (.type "tuple") (λxs H Q=>∃p ys,xs=[.ref p]/\((Tg X.K H p ys /\ ∀l,H l=none->Q (.ref l) (upd H l (.tup ys)))\/(Tj X.K H p ys/\Q (.ref p) H))):=by
 intro k s j H xs z Q I r h;obtain⟨p,ys,rfl,h⟩:=h;obtain⟨u,rfl,v⟩:=vals1 r;cases v;rcases h with ⟨i,q⟩|⟨i,q⟩
 ·obtain⟨c,f,g,m⟩:=I.list i;have t:=f.length;refine call_tuple_list g.isList (λd x=>?_) (by simp only[aaB]<;>lia);have n:Inv X k j H {s with heap:=d}:=I.kept (t':=s.toks) x
  have y:Inv X k j (upd H d.objs.size (.tup ys)) {s with heap:=d.push {cls:=.type "tuple",data:=.seq c.toArray}}:=
   n.laid (t':=s.toks) (λb o e=>Heap.get?_push_of_some _ e) (aac _) (show bJ X.prog X.w _ _ _ (.tup ys)from (m,c,f,IsTup.new _ _))
  exact(.ref d.objs.size,_,y,7,q _ (n.hok.fresh (aac _)))
 ·obtain⟨c,f,g,m⟩:=I.tuple i;exact call_tuple_same g (.ref p,H,I,7,q)
def YB(K:PySem.W.Frag)(T:String)(x:V)(H:Hp):Prop:=match x with
 |.str _=>T = "str"
 |.int _=>T = "int"
 |.ref p=>(T = "list" /\ ∃d,Tg K H p d)\/(T = "tuple" /\ ∃o,K.lookup p=some o/\o.cls=.type "tuple" /\ o.dict=none) \/
   (T = "dict" /\ ((∃c,H p=some (.dK c)) \/ ∃c,H p=some (.dT c)))\/(T = "set" /\ ∃S n,H p=some (.set S n))
 |_=>False
theorem Ky{σ:St}{s:Shared}{T:String}{x:V}{v:Value}(I:Inv X π σ H s)(r:RelV x v)(g:YB X.K T x H):
  s.TypeIs v T /\ ∀a,v=.ref a -> ∃l,s.heap.get? a=some l/\l.dict=none:=by
 cases x with
 |str z=>
  obtain⟨t,rfl⟩:=r
  cases (show T = "str" from g)
  exact(typeIs_str s z t,λ_ e=>nomatch e)
 |int i=>
  obtain⟨t,rfl⟩:=r
  cases (show T = "int" from g)
  exact(typeIs_int s i t,λ_ e=>nomatch e)
 |ref p=>
  cases r;rcases g with ⟨rfl,w,m⟩|⟨rfl,o,d,q,hd⟩|⟨rfl,d⟩|⟨rfl,S,n,d⟩
  ·obtain⟨u,_,k,_⟩:=I.list m;refine(k.isList.typeIs,λa e=>?_);cases e;obtain⟨o,n,e,c,hd,_⟩:=k;exact(o,e,hd)
  ·refine((o,I.Ur p o d,q),λa e=>?_);cases e;exact(o,I.Ur _ o d,hd)
  ·have z:∃o,s.heap.get? p=some o/\o.ExactDict:=by
    rcases d with ⟨j,d⟩|⟨j,d⟩
    ·obtain⟨_,_,_,_,o,_,_,e,f,_⟩:=I.hok p _ d;exact(o,e,f)
    ·obtain⟨_,_,_,_,o,_,_,e,f,_⟩:=I.hok p _ d;exact(o,e,f)
   obtain⟨o,e,f⟩:=z;refine((o,e,f.1),λa h=>?_);cases h;exact(o,e,f.2.1)
  ·obtain⟨o,_,_,_,e,f,_⟩:=I.hok p _ d;refine((o,e,f.1),λa h=>?_);cases h;exact(o,e,f.2.1)
 |_=>exact False.elim g
def Nh(K:PySem.W.Frag)(T:String)(r:V->List V->Hp->VK->Prop)(Q:VK):VK:=λx c=>YB K T x c/\r x [] c Q
def Tf(K:PySem.W.Frag)(T:String)(r:V->List V->Hp->VK->Prop)(d:TE):TE:=λ c H Q=>d c H (Nh K T r Q)
def Py(K:PySem.W.Frag)(T:String)(r:V->List V->Hp->VK->Prop)(t:TA)(σ:St)(Q:VK):VK:=λx c=>YB K T x c/\t σ c λd e=>r x d e Q
def tBM(K:PySem.W.Frag)(T:String)(r:V->List V->Hp->VK->Prop)(d:TE)(t:TA):TE:=λ c H Q=>d c H (Py K T r t c Q)
variable{es:List Expr}{to:TE}{cpos:Pos}{T id:String}{r:V->List V->Hp->VK->Prop}
theorem Qy(q:PlainAttrs T)(f:Slot T name id)(g:typeOf (.builtin id)=pure (.type "method_descriptor"))(w:XF X id r)(u:PE X o to)
  (d:attributeBase o name X.env (eval o X.env)=eval o X.env:=by rfl)(c:(apos.endLine==cpos.line)=true:=by rfl):PE X (.Call (.Attribute o name apos) [] [] cpos) (Tf X.K T r to):=by
 intro j s i H Q I h;refine wpAny_Call_method0_late d c (Th (u j s i H _ I h) λv n ⟨x,A,l,k,m,p⟩=>?_);obtain⟨z,y⟩:=Ky l k m;exact(T,id,q,f,g,z,y,Calls.callWith_builtin rfl (PySem.evalArgs_none (w j n i A x [] v [] Q l k .nil p)))
theorem jg(D:PlainAttrs T)(g:Slot T name id)(l:typeOf (.builtin id)=pure (.type "method_descriptor"))(G:XF X id r)(F:PE X o to)(J:PA X (e::es) t)
  (f:attributeBase o name X.env (eval o X.env)=eval o X.env:=by rfl)
  (i:((backTo cpos (starEach (e::es) X.env)).all (λx=>!x.1)&&(backToKw cpos (keywordEach [] X.env)).all (λx=>x.1.isSome)
   && decide ((e::es).length+([]:List Keyword).length+(if ([]:List Keyword).isEmpty then 0 else 1)<30))=true:=by rfl)
  (d:(apos.endLine==cpos.line)=true:=by rfl)(E:starEach (e::es) X.env=(pq false (eval e X.env))::starEach es X.env:=by rfl)(c:(backTo cpos (starEach es X.env)).any (·.1)=false:=by rfl):
  PE X (.Call (.Attribute o name apos) (e::es) [] cpos) (tBM X.K T r to t):=by
 intro k s j H Q I h;refine wpAny_Call_method_late f i d rfl (Th (F k s j H _ I h) λv z ⟨x,P,p,m,w,C⟩=>?_);obtain⟨M,L⟩:=Ky p m w;exists T,id,D,g,l,M,L;have n:=J cpos k z j P _ p C;rw[E]at n ⊢;refine Calls.callWith_builtin (by show (false || (backTo cpos (starEach es X.env)).any (·.1))=false;rw[c]<;>rfl) (Calls.evalArgs_plain ?_);exact Th n λu y ⟨q,O,N,A,B⟩=>G k y j O x q v u Q N m A B
end
def MtM(X:Cx)(id:String)(r:V->List V->Hp->VK->Prop):Prop:=
 ∀(b:List (Addr×Obj)) (s:Shared) (a:St) (H:Hp) (x:V) (c:List V) (v:Value) (d:List Value) (Q:VK),Inv X b a H s->RelV x v->Vals c d->r x c H Q ->
  wpAny (model X.prog X.w) X.A (call (.builtin id) (v::d)) (EP X b a Q) X.xe s
theorem Vals.one:∀{x:V}{a:List Value},Vals [x] a -> ∃u,a=[u]/\RelV x u
 |_,_,.cons r .nil=>(5,r)
theorem Vals.reverse{xs:List V}(h:Vals xs r):Vals xs.reverse r.reverse:=by
 induction h with
 |nil=>exact .nil
 |cons a t b=>rw[aiw,aiw];exact Vals.append b (.cons a .nil)
theorem Vals.rep{xs:List V}{a:List Value}(h:Vals xs a):∀k:Nat,Vals (aaE k xs).flatten (aaE k a).flatten
 |0=>.nil
 |k+1=>by
  rw[af7,af7,agh,agh];exact Vals.append h (Vals.rep h k)
theorem foldl_rep(a:List Value):∀(k:Nat) (b:List Value),
  ai0 (λd c=>d++c) b.toArray (aaE k a.toArray)=(b++(aaE k a).flatten).toArray
 |0,b=>by simp
 |k+1,b=>by
  have e:b.toArray++a.toArray=(b++a).toArray:=by simp
  have f:(b++a)++(aaE k a).flatten=b++(aaE (k+1) a).flatten:=by
   rw[af7,agh,aaQ]
  rw[<-f,<-foldl_rep a k (b++a),<-e,af7,aiP]
section
variable{l b:Addr}{xs ys zs:List V}
theorem Inv.lset{its':List Value}{n:Nat}{f:Array Value->Array Value}{t':Nat}(I:Inv X π σ H s)(h:H l=some (.lst xs))
  (e:s.heap.get? l=some {cls:=.type "list",data:=.seq r.toArray n})(d:f r.toArray=its'.toArray)(a:Vals ys its')(hz:ys.length<=sizeLine):
  Inv X π σ (upd H l (.lst ys)) {s with heap:=s.heap.update l (Obj.mapSeq f),toks:=t'}:=by
 have q:=PySem.IsL.update e f;rw[d]at q;refine I.write (x:=l) (e:=l) (by rw[h];exact trivial) (.inl rfl) (λi u g c=>(Heap.get?_update_other s.heap (Obj.mapSeq f) (af3 g)).trans c) (_,q) ?_;exact(hz,its',_,a,q)
theorem Inv.lnew{t':Nat}(I:Inv X π σ H s)(a:Vals ys r)(hz:ys.length<=sizeLine):
  Inv X π σ (upd H s.heap.objs.size (.lst ys)) {s with heap:=s.heap.push {cls:=.type "list",data:=.seq r.toArray},toks:=t'}:=
 I.laid (λ_ _ q=>Heap.get?_push_of_some _ q) (aac _) (hz,r,0,a,Heap.get?_push_size _ rfl)
theorem Inv.fresh(I:Inv X π σ H s):H s.heap.objs.size=none:=I.hok.fresh (aac _)
theorem Inv.lstM(I:Inv X π σ H s)(c:H l=some (.lst xs)):xs.length<=sizeLine /\ ∃(a:List Value) (n:Nat),Vals xs a/\xs.length=a.length/\s.heap.get? l=some {cls:=.type "list",data:=.seq a.toArray n}:=by
 obtain⟨z,a,n,r,e⟩:=I.hok l _ c;exact(z,a,n,r,r.length,e)
theorem Cz{n:Nat}(h:n<=sizeLine):Builtin.List.listTooLong n=false:=by
 unfold Builtin.List.listTooLong;exact decide_eq_false ⋯
end
inductive Oz(x:V)(vs:List V)(H:Hp)(Q:VK):Prop
 | mk (l xs y:_) (_:x=.ref l) (_:vs=[y]) (_:H l=some (.lst xs)) (_:xs.length<sizeLine) (_:Q .non (upd H l (.lst (xs++[y]))))
theorem b8:MtM X "list.append" Oz:=by
 intro i s g H x k v m Q I c d h;obtain⟨l,j,y,rfl,rfl,b,o,q⟩:=h;cases c;obtain⟨u,rfl,f⟩:=d.one;obtain⟨z,a,n,r,p,e⟩:=I.lstM b;refine call_meets F.slot_list_append (_,e,7) F.entry_list_append (F.args_list_append_2 _ _) (PySem.list_append l a.toArray n u (by rw[aaB];lia)) (e,3);refine(.non,_,I.lset (its':=a++[u]) b e (by simp) (r.append (.cons f .nil)) ?_,7,q);rw[aaf,agi];lia
inductive Nm(x:V)(vs:List V)(H:Hp)(Q:VK):Prop
 | mk (l b xs zs:_) (_:x=.ref l) (_:vs=[.ref b]) (_:H l=some (.lst xs)) (_:H b=some (.lst zs)) (_:xs.length+zs.length<=sizeLine) (_:Q .non (upd H l (.lst (xs++zs))))
theorem rO:MtM X "list.extend" Nm:=by
 intro A s y H x E v G Q I i j h;obtain⟨l,b,D,B,rfl,rfl,g,p,J,q⟩:=h;cases i;obtain⟨u,rfl,k⟩:=j.one;cases k;obtain⟨z,c,n,r,K,e⟩:=I.lstM g;obtain⟨C,a,o,m,w,t⟩:=I.lstM p;have f:c.toArray.size+a.toArray.size<=sizeLine:=by rw[aaB,aaB];lia
 have d:¬(!c.toArray.isEmpty&&Builtin.List.listTooLong (c.toArray.size+a.toArray.size))=true:=by
  rw[Cz f,Bool.and_false];exact aar
 refine call_meets F.slot_list_extend (_,e,7) F.entry_list_extend (F.args_list_extend_2 _ _)
  (AutoSeq1.list_extend_list_list_0 l c.toArray n b a.toArray o d (by rw[aaB];lia) ⋯) (e,t,3)
 refine(.non,_,I.lset (its':=c++a) g e (by simp) (r.append m) ?_,7,q);rw[aaf];lia
inductive S7(x:V)(y:V)(H:Hp)(Q:VK):Prop
 | mk (l b xs zs:_) (_:x=.ref l) (_:y=.ref b) (_:H l=some (.lst xs)) (_:H b=some (.lst zs)) (_:xs.length+zs.length<=sizeLine) (_:∀p,H p=none->Q (.ref p) (upd H p (.lst (xs++zs))))
theorem lX:TY X (binaryOp .Add) S7:=by
 intro t s p H x y v u Q I f d h;obtain⟨l,b,B,w,rfl,rfl,i,j,D,q⟩:=h;cases f;cases d;obtain⟨z,c,n,r,E,e⟩:=I.lstM i;obtain⟨A,a,C,g,o,m⟩:=I.lstM j;refine PySem.P.add_list e m ?_ (by rw[aaB,aaB];lia);have k:c.toArray++a.toArray=(c++a).toArray:=by simp
 rw[k];exact(.ref _,_,I.lnew (t':=s.toks) (r.append g) (by rw[aaf];lia),7,q _ I.fresh)
inductive Rx(x:V)(y:V)(H:Hp)(Q:VK):Prop
 | mk (l k xs:_) (_:x=.ref l) (_:y=.int k) (_:H l=some (.lst xs)) (_ : -(2^63)<=k) (_:k<2^63) (_:xs.length*k.toNat<=sizeLine) (_:∀p,H p=none->Q (.ref p) (upd H p (.lst (aaE k.toNat xs).flatten)))
theorem len_rep(xs:List Q)(k:Nat):(aaE k xs).flatten.length=k*xs.length:=by
 induction k with
 |zero=>simp
 |succ k a=>rw[af7,agh,aaf,a,ag0,ai6]
theorem yZ:TY X (binaryOp .Mult) Rx:=by
 intro L s K H x y v u Q I B A h;obtain⟨l,k,M,rfl,rfl,D,G,E,p,q⟩:=h;cases B;obtain⟨t,rfl⟩:=A;obtain⟨z,b,n,r,C,e⟩:=I.lstM D;have f:b.toArray.size*k.toNat<=sizeLine:=by rw[aaB,<-C];exact p
 have i:¬b.toArray.size*k.toNat > (2^63-1) / 8:=by
  have:(sizeLine:Nat)<=(2^63-1) / 8:=by decide
  lia
 have g:¬(!Builtin.List.listFitsIndex k)=true:=by
  rw[fitsIndex_both G E];exact aar
 have c:¬Builtin.List.listTooLong (b.toArray.size*k.toNat)=true:=by
  rw[Cz f];exact aar
 have d:ai0 (λo j=>o++j) #[] (aaE (if b.toArray.isEmpty=true then 0 else k.toNat) b.toArray)=(aaE k.toNat b).flatten.toArray:=by
  have J:∀m:Nat,ai0 (λo j=>o++j) #[] (aaE m b.toArray)=(aaE m b).flatten.toArray:=λm=>by
   have:=foldl_rep b m [];rw[ahm]at this;exact this
  rw[J];cases b with
  |nil=>simp
  |cons a N=>rw[if_neg (by simp)]
 refine wpAny_binaryOp_repeat_ref (T := "list") (U := "int") ∅ (_,e,7) (λw=>typeIs_int w k t) noFill_list_mul F.fills_int_mul F.slot_int_rmul repeat_list F.slot_int_index.lookup
  (call_meets F.slot_int_rmul (typeIs_int s k t) F.entry_int_rmul (F.args_int_rmul_2 _ _) (int___rmul___int_list k t l b.toArray n)
   (e,7,(_,e,7),call_meets F.slot_list_mul (_,e,7) F.entry_list_mul (F.args_list_mul_2 _ _) (AutoListH.list___mul___list_int_3 l b.toArray n k t g i c) (e,3)))
 rw[d];exact(.ref _,_,I.lnew (t':=s.toks) (r.rep k.toNat) (by rw[len_rep,agb];exact p),7,q _ I.fresh)
end L2
namespace XH
open PySem.W PySem.Calls PyProof.Rows
theorem tQ{P:Params}:∀(c:List Int) (d:List Value),WellAll P h' d (c.map WData.int)->IntsAre d c:=by
 intro c
 induction c with
 |nil=>
  intro d w;rw[ahL]at w;cases w;exact .nil
 |cons n c e=>
  intro d w;rw[aaD]at w;cases w with
  |cons a b=>
   cases a;exact .cons _ _ (e _ b)
theorem JB{l:OpenLaw}{n:Nat}(x:l.most=some n){P:Params}{c:List WData}
  (f:l.row.toRowW.claim.pre c=true)(m:WellAll P h' r c):
  ∃a p e,r=[Value.ref a]/\c=[WData.list (e.map WData.int)]/\h'.get? a=some {cls:=.type "list",data:=.seq p.toArray}/\IntsAre p e/\e.length<=n:=by
 have o:WShape.hasAll [] c [.list .int]=true:=(pre_splitW f).1;have s:l.pre.holds [] {args:=c}=true:=(pre_splitW f).2;obtain⟨d,b,rfl,A,z⟩:=hasAllW_cons o;obtain rfl:=hasAllW_nil z;obtain⟨B,rfl,y⟩:=hasW_list A;obtain⟨e,rfl⟩:=items_int y;have g:e.length<=n:=by
  unfold OpenLaw.pre at s;have k:(WTm.not (.lt (.lit (.int (n:Int))) (.len (.arg 0)))).holds [] {args:=[.list (e.map .int)]}=true:=by
   have k:=(holds_andW s).1;rw[x]at k;exact k
  have j:=condW_of k (w_not (w_lt w_lit (w_len_list (w_arg rfl))));rw[aaa]at j;refine Nat.le_of_not_lt λq=>?_;have v:(n:Int)<((e.length:Nat):Int):=by lia
  first
   | (rw[decide_eq_true v]at j;exact absurd j ∅)
   | (simp at j;lia)
 cases m with
 |cons u t=>
  cases t;cases u with
  |list w i=>exact(8,e,7,7,w,tQ e _ i,g)
theorem HB(l:OpenLaw)(a:List WData):l.row.toRowW.claim.post a (.bool true) a=true:=
 postW_of (r:=l.row.toRowW) (X:=(true==true))
  (show WShape.has [] (.bool true) .bool=true by first|rfl|decide|simp[WShape.has,WShape.arms,WShape.armsAll])
  (show (WTm.eq .res (.lit (.bool true))).value [] {args:=a,res:=some (.bool true),after:=a}=some (.bool (true==true))from w_eq_bool (w_res rfl) w_lit) rfl
theorem attach_call{l:OpenLaw}{n:Nat}{q:Program}{E:(Str->Option Value)->Heap->Prop}{D:World->Heap->Prop}{d:DefRec}
  (L:l.most=some n)(A:d.params.defaults=[])
  (p:∀(w:World) (c b:Shared) (mg x:Str->Option Value) (i:Addr) (o:Obj) (v u e:Value) (a:Addr) (h:List Value) (t:List Int),
   Ground q N [] E w c mg x b.heap->D w b.heap ->
   b.heap.get? i=some o->o.data=.func (docDef d.name d.params d.body d.scope v u e)->b.heap.CodeRec u d.name->mg d.name=some (.ref i) ->
   b.heap.get? a=some {cls:=.type "list",data:=.seq h.toArray}->IntsAre h t->t.length<=n->b.gens=#[] ->
   codeAny (model l.prog w) callerA (.call (.ref i) ([.ref a],[])) (λr s=>r=.ok (.ret (.bool true))/\OldK b.heap s.heap/\s.os=b.os/\AllBare s.gens) b):
  WalkO q N E D l.row.toRowW d [] (λf h=>PySem.call f h):=by
 intro w c b mg x G Y i o v u e S kV K hd B C z O I F V j H T y U;obtain rfl:S=.none:=Dflts.none C A;obtain rfl:kV=.none:=Dflts.noKw C;obtain⟨a,h,t,rfl,rfl,k,g,m⟩:=JB L j y;refine enter_call (codeAny_mono (p w c b mg x i o v u e a h t G Y K (fd_plain hd) B z k g m O) λr s J=>?_);obtain⟨rfl,R,Q,P⟩:=J;exact(.inl (.bool true,.bool true,[],7,λ_=>rfl,.bool true,HB l _,λ_=>(List.Pairwise.nil,λ_ M=>(nomatch M))),R,Q,P)
section
variable{K:Frag}
end
end XH
namespace L2
open PySem.Spec PyProof.Rows
theorem rG:∀{a:List Value}{b:List Int},IntsAre a b->Vals (b.map V.int) a
 |_,_,.nil=>.nil
 |_,_,.cons n t h=>.cons (t,7) (rG h)
def ν(s:Stmt):Arguments:=match s with
 |.FunctionDef _ a _ _ _ _ _ _ _ _=>a
 |_=>{posonlyargs:=[],args:=[],vararg:=none,kwonlyargs:=[],kw_defaults:=[],kwarg:=none,defaults:=[]}
def μ(s:Stmt):List Stmt:=match s with
 |.FunctionDef _ _ b _ _ _ _ _ _ _=>b
 |_=>[]
def δ(s:Stmt):Scope:=match s with
 |.FunctionDef _ _ _ _ _ _ a _ _ _=>a
 |_=>{kind:=.function,names:=[],isGenerator:=false,isCoroutine:=false}
abbrev Ti:Ut:=λ_ _ _ _ _ _=>False
abbrev E0:XK:=λ_ _ _=>False
theorem RB{X:Cx}:qD Ti X E0:=λ_ _ _ _ _ _ _ h=>h.elim
structure Uh(K:PySem.W.Frag)(x qual:Str)(st:Stmt)(f:Addr)(fd:FuncData):Prop where
 ex:∃(oc:Value) (od:Option Addr) (kV doc pm:Value) (an:Option Addr) (cdv ct:Value) (osl:Array (Option Value)),
  fd=PySem.W.fnOf x qual (ν st) (μ st) (δ st) .none kV doc pm an cdv ct/\K.lookup f=some (oc,od,.func fd,osl)/\PySem.W.codeIn K cdv qual=true
 kp:PySem.W.keepIn K (.ref f)=true
section
variable{P:Program}
theorem Uh.ok{x :Str}{st:Stmt}{f:Addr}{fd:FuncData}{N ps:List Str}{k:Nat}(F:Uh K x qual st f fd)(S:aC N ps (δ st))(e:∀c H Q E,sp c H Q E->c.length=ps.length)
  (d:∀(b:Value) (A:Around) (a:List Env) (s:Shared) (H:Hp) (c:List V) (Q:VK) (E:XK),eF k (A.deeper (envOfC qual (δ st) s.heap.objs.size f b))->sp c H Q E ->
   ∃t,Um (ik Ti P w K mg base N qual (δ st) f b A a s H E).Wo (μ st) t/\t {nx:=λ_ H'=>Q .non H',rt:=Q} (start N c) H):aV P w K mg base Ti (k+1) f fd ps sp:=by
 obtain⟨r,p,kV,n,o,v,b,u,m,rfl,j,i⟩:=F.ex;refine Pb j i S e λA a s H c Q E l g=>?_;obtain⟨t,h,q⟩:=d b A a s H c Q E l g;exact(t,h.Wo,q)
theorem Uh.Tq{x :Str}{st:Stmt}{f:Addr}{fd:FuncData}{N ps:List Str}{k:Nat}(F:Uh K x qual st f fd)(S:aC N ps (δ st))
  (b:∀(d:Value) (A:Around) (a:List Env) (s:Shared) (H:Hp) (c:List V) (Q:VK) (E:XK),eF k (A.deeper (envOfC qual (δ st) s.heap.objs.size f d))->sp c H Q E ->
   ∃t,Um (ik Ti P w K mg base N qual (δ st) f d A a s H E).Wo (μ st) t/\t {nx:=λ_ H'=>Q .non H',rt:=Q} (start N c) H)(e:∀c H Q E,sp c H Q E->c.length=ps.length:=by intro _ _ _ _ h;cases h;subst_vars;rfl):aV P w K mg base Ti (k+1) f fd ps sp:=F.ok S e b
theorem Uh.binds{x :Str}{st:Stmt}{f:Addr}{fd:FuncData}{ps:List Str}(F:Uh K x qual st f fd)
  (h:∀(kV a d:Value) (g:Option Addr) (b e:Value) (c:List Value),c.length=ps.length->bindArgs (PySem.W.fnOf x qual (ν st) (μ st) (δ st) .none kV a d g b e) (c,[])=pure (ps.zip c)):Binds K fd ps []:=by
 obtain⟨l,k,kV,a,d,g,b,e,i,rfl,m,j⟩:=F.ex;exact .all (h kV a d g b e)
theorem zV{x :Str}{st:Stmt}{f:Addr}{i h:Option Addr}{d:Array (Option Value)}{kV b e a g:Value}(l:K.lookup f=some (q,i,.func (PySem.W.fnOf x qual (ν st) (μ st) (δ st) .none kV b e h a g),d))
  (c:PySem.W.codeIn K a qual=true)(k:PySem.W.keepIn K (.ref f)=true):Uh K x qual st f (PySem.W.fnOf x qual (ν st) (μ st) (δ st) .none kV b e h a g):=((q,i,kV,b,e,h,a,g,d,7,l,c),k)
end
theorem pv(i:Nat){x:Str}{pos:Pos}(c:X.N[i]?=some x:=by rfl)(b:WW X.env.scope x:=by first|exact agP rfl|exact ahs (agP rfl) | exact ahs (ahs rfl))(hd:(x==("__debug__" : Str))=false:=by decide)
  (a:(x==("__classdict__" : Str))=false:=by decide):PE X (.Name x pos) (Ot i):=Ey c b hd a
theorem My(i:Nat){x:Str}{pos:Pos}{t:TA}(d:PA X y t)(e:X.N[i]?=some x:=by rfl)(b:WW X.env.scope x:=by first|exact agP rfl|exact ahs (agP rfl) | exact ahs (ahs rfl))(hd:(x==("__debug__" : Str))=false:=by decide)
  (a:(x==("__classdict__" : Str))=false:=by decide)(c:starEach (.Name x pos::y) X.env=(pq false (eval (.Name x pos) X.env))::starEach y X.env:=by rfl):PA X (.Name x pos::y) (Lf (Ot i) t):=au (pv i e b hd a) d c
theorem dN{A B:Prop}(h:B):if false=true then A else B:=by
 rw[if_neg aar];exact h
theorem jj{A B:Prop}(h:A):if true=true then A else B:=by
 rw[if_pos rfl];exact h
theorem bD{c A B:Prop}[Decidable c](b:c->A)(a:¬c->B):if c then A else B:=by
 by_cases h:c
 ·rw[if_pos h];exact b h
 ·rw[if_neg h];exact a h
theorem yj{c A B:Prop}[Decidable c](a:c)(h:B):if (!decide c)=true then A else B:=by
 rw[decide_eq_true a];exact dN h
def aP(H H':Hp):Prop:=∀b o,H b=some o->H' b=some o
theorem aP.refl(H:Hp):aP H H:=λ_ _ h=>h
theorem aP.trans{d:Hp}(a:aP H H')(b:aP H' d):aP H d:=λc o h=>b c o (a c o h)
theorem aP.free{H':Hp}(e:aP H H'){l:Addr}(h:H' l=ajb):H l=ajb:=by
 cases q:H l with
 |none=>rfl
 |some o=>
  rw[e l o q]at h;cases h
theorem aP.seq{H':Hp}{a:Addr}{xs:List V}(e:aP H H')(h:Tg K H a xs):Tg K H' a xs:=by
 rcases h with (h|⟨o,h⟩) | h
 ·exact .inl (.inl (e _ _ h))
 ·exact .inl (.inr (o,e _ _ h))
 ·exact .inr h
end L2
namespace Tw
theorem az{p:Addr}(h:H p=none)(o:HO):aP H (upd H p o):=λb u q=>by rw[aH (aJ q h)];exact q
theorem bT{H':Hp}{p:Addr}(s:aP H H')(h:H p=none)(o:HO):aP H (upd H' p o):=λb u q=>by rw[aH (aJ q h)];exact s b u q
theorem small{n:Nat}(h:n<=4097):n<sizeLine:=agG h ∅
theorem bh:bootBuiltins "len" = some (.builtin "len"):=by decide +kernel
theorem K8:bootBuiltins "sum" = some (.builtin "sum"):=by decide +kernel
theorem ju:bootBuiltins "isinstance" = some (.builtin "isinstance"):=by decide +kernel
theorem Er:bootBuiltins "min" = some (.builtin "min"):=by decide +kernel
theorem QM:bootBuiltins "max" = some (.builtin "max"):=by decide +kernel
theorem xT:bootBuiltins "sorted" = some (.builtin "sorted"):=by decide +kernel
theorem Qq:bootBuiltins "int" = some (.type "int"):=by decide +kernel
theorem M9:bootBuiltins "bool" = some (.type "bool"):=by decide +kernel
theorem o7:bootBuiltins "list" = some (.type "list"):=by decide +kernel
theorem qb:bootBuiltins "tuple" = some (.type "tuple"):=by decide +kernel
theorem QW:bootBuiltins "str" = some (.type "str"):=by decide +kernel
theorem zg:bootBuiltins "enumerate" = some (.type "enumerate"):=by decide +kernel
theorem jq:bootBuiltins "reversed" = some (.type "reversed"):=by decide +kernel
theorem Ff:bootBuiltins "set" = some (.type "set"):=by decide +kernel
theorem Fy:bootBuiltins "zip" = some (.type "zip"):=by decide +kernel
theorem KZ{xs:List V}{lo a:Option Int}{x:V}(h:x∈fc xs lo a):x∈xs:=agy (agK h)
theorem GQ{lo a:Option Int}{i:Nat}{x:V}(h:(fc (d.map V.int) lo a)[i]?=some x):∃c:Int,x=.int c:=by
 obtain⟨c,_,e⟩:=aa3.mp (KZ (aah h));exact(c,e.symm)
theorem Oi(a:List Int)(i j:Nat):fc (a.map V.int) (some (i:Int)) (some (j:Int))=((a.drop i).take (j-i)).map V.int:=by
 unfold fc;rw[HT.lu,HT.lu,aiq,ahW,aaa];rcases aaq a.length i with h|h
 ·rw[agE (ae8 h),af5 (by simp),af5 (by simp;lia)];simp
 ·rw[afb h];rcases aaq a.length j with q|q
  ·rw[agE (ae8 q),aak (by simp),aak (by simp;lia)]
  ·rw[afb q]
theorem Ka(a:List Int)(j:Nat):fc (a.map V.int) none (some (j:Int))=(a.take j).map V.int:=by
 unfold fc;rw[HT.lu,HT.mD,aiq,aaa,ahb,agQ];rcases aaq a.length j with q|q
 ·rw[agE (ae8 q),aak (by simp),aak (by simp;lia)]
 ·rw[afb q]
theorem Kc(a:List Int)(i:Nat):fc (a.map V.int) (some (i:Int)) none=(a.drop i).map V.int:=by
 unfold fc;rw[HT.lu,HT.mD,ahW,aaa];rcases aaq a.length i with h|h
 ·rw[agE (ae8 h),af5 (by simp),af5 (by simp;lia)];simp
 ·rw[afb h,aak (by simp)]
theorem int_at{i:Nat}{x:V}(h:(d.map V.int)[i]?=some x):∃c,d[i]?=some c/\x=.int c:=by
 rw[aag]at h;cases e:d[i]? with
 |none=>rw[e]at h;cases h
 |some c=>rw[e]at h;exact(c,7,(aao h).symm)
theorem pM{i:Nat}{c:Int}(h:d[i]?=some c):T7 (d.map V.int) (i:Int)=some (.int c):=m8 (by rw[aag,h];rfl)
structure Df(K:PySem.W.Frag)(mg:Str->Option Value)(x:Str)(st:Stmt)(ps:List Str)(f:Addr)(fd:FuncData):Prop where
 F:Uh K x x st f fd
 b:Binds K fd ps []
 m:mg x=some (.ref f)
def bit(b:Int)(k:Nat):Int:=b / 2^k%2
def bits(b:Int)(n:Nat):List Int:=(ab5 n).map (bit b)
def ones(b:Int)(n:Nat):Int:=(bits b n).sum
theorem gn(b:Int)(n:Nat):(bits b n).length=n:=by simp[bits]
theorem Ji(b:Int)(n:Nat):bits b (n+1)=bits b n++[bit b n]:=by simp[bits,agd]
theorem qL(b:Int):ones b 0=0:=rfl
theorem iw(b:Int)(n:Nat):ones b (n+1)=ones b n+bit b n:=by
 unfold ones;rw[Ji];simp
theorem vm{b:Int}{n k:Nat}(h:k<n):(bits b n)[k]?=some (bit b k):=by simp[bits,h]
theorem xN(b:Int)(k:Nat):bit b k=0\/bit b k=1:=by
 unfold bit;lia
theorem Hq(b:Int){k n:Nat}(h:k<=n):ones b k<=ones b n:=by
 induction n with
 |zero=>
  have:k=0:=by lia
  subst this;lia
 |succ n a=>
  rcases aaq k (n+1)with c | c
  ·have:=a ⋯;have:=xN b n;rw[iw];lia
  ·have:k=n+1:=by lia
   subst this;lia
theorem place_below{b:Int}{k n:Nat}(a:bit b k=1)(h:k<n):ones b k<ones b n:=by
 have:=Hq b (show k+1<=n by lia);rw[iw]at this;lia
def bc(a:List Int):Prop:=∀b∈a,b=0\/b=1
theorem bc.tail{b:Int}{a:List Int}(h:bc (b::a)):bc a:=λx c=>h x (.tail _ c)
theorem bc.head{b:Int}{a:List Int}(h:bc (b::a)):b=0\/b=1:=h b (.head _)
theorem bc.take(h:bc d)(k:Nat):bc (d.take k):=λx a=>h x (agK a)
theorem bc.drop(h:bc d)(k:Nat):bc (d.drop k):=λx a=>h x (agy a)
def blk:List Int->Int
 |[]=>0
 |b::r=>2*blk r+b
theorem Ce(b:Int):bit b 0=b%2:=by simp[bit]
theorem xQ(b:Int)(k:Nat):bit b (k+1)=bit (b / 2) k:=by
 unfold bit;rw[ahX ∅,<-Int.pow_succ']
theorem um:∀{a:List Int},bc a -> ∀k:Nat,bit (blk a) k=(a[k]?).getD 0
 |[],_,k=>by simp[blk,bit]
 |b::r,h,0=>by
  have:=h.head;rw[Ce];simp only[blk,List.getElem?_cons_zero,aiJ];lia
 |b::r,h,k+1=>by
  have c:=h.head;rw[xQ,ahY];have e:blk (b::r) / 2=blk r:=by simp only[blk];lia
  rw[e];exact um h.tail k
theorem mL{a:List Int}(h:bc a):∀k:Nat,ones (blk a) k=(a.take k).sum
 |0=>by simp[qL]
 |k+1=>by
  rw[iw,mL h k,um h];by_cases b:k<a.length
  ·rw[acC,aad b];simp only[air,ahn,aho,ai7,aiJ];lia
  ·rw[aak ⋯,aak ⋯,agH ⋯];simp
def many(n:Nat):Nat:=(n+31) / 32
def cD(a:List Int)(j:Nat):Int:=blk ((a.drop (32*j)).take 32)
def bB(a:List Int):List Int:=(ab5 (many a.length)).map (cD a)
theorem bC(a:List Int):(bB a).length=many a.length:=by simp[bB]
theorem jT{j:Nat}(h:j<many d.length):(bB d)[j]?=some (cD d j):=by simp[bB,h]
theorem v8(h:bc d)(j:Nat):bc ((d.drop (32*j)).take 32):=(h.drop _).take _
theorem bit_at(h:bc d)(j k:Nat)(a:k<32):bit (cD d j) k=(d[32*j+k]?).getD 0:=by
 unfold cD;rw[um (v8 h j),af6 a,agw]
def net(b:Int)(k:Nat):Int:=2*ones b k-k
theorem Kr(b:Int):net b 0=0:=by simp[net,qL]
theorem Cu(b:Int)(k:Nat):net b (k+1)=net b k+2*bit b k-1:=by
 unfold net;rw[iw];lia
def nets(b:Int)(n:Nat):List Int:=(ab5 n).map λk=>net b (k+1)
theorem eU(b:Int)(n:Nat):(nets b n).length=n:=by simp[nets]
theorem JM(b:Int)(n:Nat):nets b (n+1)=nets b n++[net b (n+1)]:=by simp[nets,agd]
theorem Ca{b:Int}{n k:Nat}(h:k<n):(nets b n)[k]?=some (net b (k+1)):=by simp[nets,h]
theorem Ab{b:Int}{n:Nat}{x:Int}:x∈nets b n ↔ ∃k,1<=k/\k<=n/\x=net b k:=by
 unfold nets;rw[aa3];constructor
 ·rintro⟨k,a,rfl⟩;exact(k+1,9,by have:=agU.mp a;lia,7)
 ·rintro⟨k,d,c,rfl⟩;exists k-1,agU.mpr ⋯;have e:k-1+1=k:=by lia
  rw[e]
def ht(a:List Int)(k:Nat):Int:=2*(a.take k).sum-k
theorem jr(a:List Int):ht a 0=0:=by simp[ht]
theorem kW{k:Nat}{b:Int}(h:d[k]?=some b):ht d (k+1)=ht d k+2*b-1:=by
 unfold ht;rw[acC,h];simp only[air,ahn,aho,ai7];lia
theorem pB(b:List Int)(a k:Nat):(b.take (a+k)).sum=(b.take a).sum+((b.drop a).take k).sum:=by
 rw[ai2,ahn]
theorem ph(h:bc d)(j k:Nat)(a:k<=32):ht d (32*j+k)=ht d (32*j)+net (cD d j) k:=by
 unfold ht net cD;rw[mL (v8 h j),pB,ahc,afb a];lia
theorem Ef(h:bc d)(j k:Nat)(a:k<=32):ones (cD d j) k=((d.drop (32*j)).take k).sum:=by
 unfold cD;rw[mL (v8 h j),ahc,afb a]
theorem mY(h:bc d)(j k:Nat)(a:k<=32):(d.take (32*j)).sum+ones (cD d j) k=(d.take (32*j+k)).sum:=by
 rw[Ef h j k a,pB]
def Due(b:Int)(st a:Nat)(g:Int)(k:Nat):Prop:=st<k/\k<=a/\net b k<=g
theorem JG(b:Int)(n:Nat):bits b (n+1)=b%2::bits (b / 2) n:=by
 unfold bits;rw[List.range_succ_eq_map,aaD,Ce,agB];congr 1;refine ahh λk _=>?_;exact xQ b k
theorem Aw:∀(n:Nat) (b:Int),0<=b->b<2^n->blk (bits b n)=b
 |0,b,c,a=>by
  have:b=0:=by simp at a;lia
  subst this;rfl
 |n+1,b,c,a=>by
  rw[aiE]at a;rw[JG,blk,Aw n (b / 2) ⋯ ⋯];lia
theorem Ar(b:Int)(n:Nat):bc (bits b n):=λx a=>by
 obtain⟨k,_,rfl⟩:=aa3.mp a;exact xN b k
end Tw
namespace L2
open PySem.Spec PyProof.Rows
theorem Inv.turn2{e p:Addr}{o:HO}{t':Nat}(I:Inv X π σ H s)(g:gM X π H e)(f:gM X π H a)
  (k:∀b u,b≠e->b≠a->s.heap.get? b=some u->h'.get? b=some u)(A:s.heap.objs.size<=p)
  (t:bJ X.prog X.w (upd H p o) h' p o):Inv X π σ (upd H p o) {s with heap:=h',toks:=t'}:=by
 have E:=I.hok.fresh A;have y:∀b u,H b=some u->b≠e:=λb u q z=>by rw[z,g.1]at q;cases q
 have x:∀b u,H b=some u->b≠a:=λb u q z=>by rw[z,f.1]at q;cases q
 have h:∀b u,H b=some u->upd H p o b=some u:=λb u q=>by rw[aH (aJ q E)];exact q
 have l:∀b u,b∉[e,a]->s.heap.get? b=some u->h'.get? b=some u:=λb u d q=>k b u (λz=>d (by simp[z])) (λz=>d (by simp[z])) q;refine I.step (g':=s.gens) (d':=s.drawn) (ch:=[e,a]) (λb d=>?_) (λb u _ _ i q _=>l b u i q) (λb u _ _ i q _=>(u.slots,l b u i q))
  (λb u _ q n=>by rw[aH (aap (aai (Heap.lt_size q) A))];exact n) (λb u i q=>(u,l b u i q))
  (λb C q=>h _ _ q) (λb j u q=>h _ _ q) (λb K q=>(#[],by rw[h _ _ q];simp)) (λm F=>?_) (λb u q=>?_) I.bare
 ·rcases aaO.mp d with rfl|d
  ·exact(g.2.2.2.1,g.2.1,g.2.2.2.2.1,g.2.2.2.2.2)
  ·rw[aat.mp d];exact(f.2.2.2.1,f.2.1,f.2.2.2.2.1,f.2.2.2.2.2)
 ·obtain⟨j,G,J,D,r⟩:=F;exact(j,G,J,k _ j (af3 g.2.1) (af3 f.2.1) D,r)
 ·by_cases d:b=p
  ·subst d;rw[aq]at q;cases q;exact t
  ·rw[aH d]at q;refine(I.hok b u q).stay (λc v B r=>k c v ?_ ?_ r) (λc r=>h _ _ r) λc C r=>h _ _ r
   ·rcases B with rfl|z
    ·exact y _ _ q
    ·exact y _ _ z
   ·rcases B with rfl|z
    ·exact x _ _ q
    ·exact x _ _ z
def V9(K:PySem.W.Frag)(a:Addr):It:=
  (λi H=>∃b x,Tg K H a b/\b[i]?=some x,λi H x c=>∃p y,H p=none/\x=.ref p/\c=upd H p (.tup [.int (i:Int),y]) /\ ∀b,Tg K H a b->b[i]?=some y,
   λi H=>∃b,Tg K H a b/\b.length<=i)
theorem IW{w:World}(a e l:Addr)(t:e≠l):
  Turn prog w K (.Tuple y n p) (V9 K a) [e,l] e (λi h=>(∃f,IsEnum h e l (i:Nat) f)/\h.IsListIter l a i) where
 mem:=by simp
 obj:=λi h d b j=>by
  obtain⟨⟨f,g⟩,o,ho,L,hd⟩:=d;rcases aaO.mp j with rfl|j
  ·exact(_,g,λv z=>by cases z)
  ·rw[aat.mp j];exact(o,ho,λv z=>by rw[hd]at z;cases z)
 keep:=λi h h' d k=>by
  obtain⟨⟨f,g⟩,d⟩:=d;exact((f,k e (by simp) _ g),d.at λo q=>k l (by simp) o q)
 item:=by
  intro X M G N L i π s σ H E I r d J;subst M G N;obtain⟨xs,x,B,F⟩:=J;obtain⟨Q,D,c,hz⟩:=I.list B;obtain⟨u,hu,ru⟩:=D.get F;obtain⟨⟨f,g⟩,d⟩:=d;refine wpAny_pyNext_enum_item g d c.isList (x:=u) (by simpa using hu) t λh1 U A R a0 S=>?_;refine(5,wpAny_letOwnedTupleGo_enum U λC V m=>?_);have ee:e<s.heap.objs.size:=Heap.lt_size g
  have g2:C.get? s.heap.objs.size=some {cls:=.type "tuple",data:=.seq #[.int (i:Int) s.toks,u]}:=(m.2 _ (agr ee)).trans R
  have kk:∀b o,b≠e->b≠l->s.heap.get? b=some o->C.get? b=some o:=λb o h3 h4 q=>(m.2 b h3).trans (S b o h3 h4 q);have O:bJ X.prog X.w (upd H s.heap.objs.size (.tup [.int (i:Int),x])) C s.heap.objs.size (.tup [.int (i:Int),x]):=
   ((by show 2<=sizeLine;decide),[.int (i:Int) s.toks,u],.cons (_,7) (.cons ru .nil),_,g2,7,5)
  have I2:=I.turn2 (h':=C) (t':=s.toks+1) (r e (by simp)) (r l (by simp)) kk (aac _) O;have hn:H s.heap.objs.size=none:=I.hok.fresh (aac _);refine(.ref s.heap.objs.size,_,I2,7,(_,x,hn,7,7,λys hy=>by rw[I.list_inj hy B];exact F),((u,by simpa using V),A.extBut m.extBut (af3 t)),λb j=>?_);have Z:=(r b j).1;have Y:b≠s.heap.objs.size:=by
   obtain⟨o,T,_⟩:=d;rcases aaO.mp j with rfl|j
   ·exact aap ee
   ·rw[aat.mp j];exact aap (Heap.lt_size T)
  rw[aH Y];exact Z
 done:=by
  intro X M G N L i π s σ H E I r d J;subst M G N;obtain⟨xs,B,F⟩:=J;obtain⟨Q,D,c,hz⟩:=I.list B;obtain⟨f0,f1,f2,f3,f4,f5⟩:=r l (by simp);obtain⟨⟨f,g⟩,d⟩:=d;have hl:=D.length;exact wpAny_pyNext_enum_end (I.ok.hd L) g d c.isList (by simp;lia) λh' eb=>(7,I.turned (t':=s.toks) (λb o j q=>eb b o j q) f0 f1 f3 f4 f5)
 self:=λ_ _ _ _ _ d h=>by
  obtain⟨⟨f,g⟩,_⟩:=d;exact wpAny_pyIter_enum g h
inductive NZ(K:PySem.W.Frag)(R:It->Hp->Prop)(vs:List V)(H1:Hp):Prop
 | mk (a xs:_) (_:vs=[.ref a]) (_:Tg K H1 a xs) (_:R (V9 K a) H1)
def Ru(K:PySem.W.Frag)(b:TA):TI:=λ a H R=>b a H (NZ K R)
theorem uy{a:Expr}{p pos:Pos}(E:Gl X "enumerate")(C:X.mg "enumerate" = none)(F:PA X [a] t)(A:starEach [a] X.env=[(pq false (eval a X.env))]:=by rfl):
  PI X (.Tuple y n apos) (.Call (.Name "enumerate" p) [a] [] pos) (Ru X.K t):=by
 intro l s k H R I h;refine Call_ (cZ I E C boot_enumerate (PyProof.Rows.callWith_type1 (Th (F pos l s k H _ I h) λP d ⟨O,o,g,v,w⟩=>?_) A rfl));obtain⟨b,N,e,B,q⟩:=w;subst e;obtain⟨u,rfl,r⟩:=vals1 v;cases r;obtain⟨L,Q,x,S⟩:=g.list B;refine call_enumerate_list x.isList λG m j M D=>?_;refine wpAny_pyIter_enum m ?_;have J:Inv X l k o {d with heap:=G}:=g.kept (t':=d.toks) D;have z:d.heap.objs.size+1≠d.heap.objs.size:=by lia
 refine(d.heap.objs.size+1,[d.heap.objs.size+1,d.heap.objs.size],_,V9 X.K b,o,7,J,IW b _ _ z,((_,m),j),λc i=>?_,q);have f:d.heap.objs.size<=c:=by
  rcases aaO.mp i with rfl|i
  ·lia
  ·rw[aat.mp i];lia
 exact g.fpOk f (g.hok.fresh f)
theorem vJ{a:Addr}{xs:List V}{g:TG}{k:TS}{D:Ends}{σ:St}(b:Nat->St->Hp->Prop)(v:b 0 σ H)(t:∀i σ H,i<=xs.length->b i σ H->Tg K H a xs)
  (r:∀i x σ H p,xs[i]?=some x->b i σ H->H p=none->g (.ref p) σ (upd H p (.tup [.int (i:Int),x])) λ d j=>k {D with nx:=b (i+1),ct:=b (i+1),bk:=D.nx} d j)(hd:∀σ H,b xs.length σ H->D.nx σ H):
  ∃W:Nat->Nat->St->Hp->Prop,(∃m,W 0 m σ H) /\ ∀i m σ H,W i m σ H ->
   ((V9 K a).stop i H/\D.nx σ H)\/((V9 K a).go i H /\ ∃N:St->Hp->Prop,(∀f H',N f H' -> ∃l,l<m/\W (i+1) l f H') /\ ∀x H',(V9 K a).U0 i H x H'->g x σ H' λ d j=>k {D with nx:=N,ct:=N,bk:=D.nx} d j):=by
 exists λi m σ H=>m=xs.length-i/\i<=xs.length/\b i σ H,(xs.length,by simp,aaF _,v);rintro i m σ H ⟨rfl,u,p⟩;have q:=t i σ H u p;by_cases h:i<xs.length
 ·refine .inr ((xs,xs[i],q,by simp[h]),b (i+1),λ f H' n=>(xs.length-(i+1),9,7,h,n),λx H' y=>?_);obtain⟨c,y,s,z,w,o⟩:=y;subst z w;exact r i y σ H c (o xs q) p s
 ·have e:i=xs.length:=by lia
  subst e;exact .inl ((xs,q,aac _),hd σ H p)
theorem BK(n:X.calm=true):gR X (.builtin "sum") (λxs H Q=>∃(p:Addr) (a:List Int),xs=[.ref p]/\Tg X.K H p (a.map V.int)/\Q (.int a.sum) H):=by
 intro v s t H xs w Q I r h;obtain⟨p,a,rfl,l,q⟩:=h;obtain⟨u,rfl,i⟩:=vals1 r;cases i;obtain⟨o,j,k,x⟩:=I.list l;have c:=intsAre_of j;obtain⟨b,e⟩:=c.allInts.items;refine sum_intListG (xs:=b) (I.ok.hd n) (by rw[<-e];exact k.isList) λy f g m=>(.int a.sum,H,I.kept (t':=f) m,(g,3),q);have d:numsOf (intItems b).toList=a:=by rw[<-e];exact c.numsOf
 rw[nums_intItems]at d;rw[<-d,preSum_eq,aak (by simp)]
theorem vy:gR X (.builtin "isinstance") (λxs H Q=>∃x T t b,xs=[x,.ty T]/\q8 X.K H x t/\PySem.W.kitOne X.K t (.type T)=some b/\Q (.bl b) H):=by
 intro i s g H xs j Q I r h;obtain⟨x,T,t,b,rfl,a,e,q⟩:=h;obtain⟨u,v,rfl,d,f⟩:=vals2 r;obtain rfl:v=Value.type T:=f;exact Ig I d a e λc=>(.bl b,H,I.tok c,7,q)
def bK(X:Cx)(N:List Str)(a:Scope)(c:List (Str×Addr))(C:Addr)(s:Shared)(H:Hp)(b:List Addr):Cx:=
 {X with N:=N,s₀:=s,H₀:=H,env:=compEnvC a c C X.env,outer:=X.stack,ex:=b,fn:=λ_=>false,pn:=[],xe:=λ_ _=>False}
structure cj(X:Cx)(x:Str)(caps:List (Str×Nat))(scope:Scope)(cl:List (Str×Addr)):Prop where
 kind:scope.kind=.function
 ρ:∀y∈scope.names,y.2 ≠ .cell
 names:∀y∈scope.names,y.2=.local->scope.names.lookup y.1=some .local
 hx:scope.names.lookup x=some .local
 clos:closureFor scope X.env=pure cl
 cls:∀y c,cl.lookup y=some c->X.env.cells.lookup y=some c
 has:∀y,((relabel scope X.env).names.lookup y=some .cell\/(relabel scope X.env).names.lookup y=some .free) -> ∃c,cl.lookup y=some c
 nd:(x::caps.map (·.1)).Nodup
 cap:∀y j,(pq y j)∈caps->X.N[j]?=some y/\(X.env.scope.names.lookup y=some .cell\/X.env.scope.names.lookup y=some .free) /\
  ((relabel scope X.env).names.lookup y=some .cell\/(relabel scope X.env).names.lookup y=some .free)
def fJ(a:List (Str×Nat))(σ:St):St:=a.map λp=>(σ[p.2]?).getD none
theorem su(a:List (Str×Nat))(σ:St):(fJ a σ).length=a.length:=by simp[fJ]
theorem Inv.comp{x:Str}{f:List (Str×Nat)}{h':Heap}{tk:Nat}{m:Str->Option Value}{C:Addr}(I:Inv X π σ H s)(F:cj X x f scope z)(P:∀b∈g,gM X π H b)
  (Y:∀b∈g,b<s.heap.objs.size)(M:s.heap.objs.size<=a)(Q:s.heap.objs.size<=C)(Z:a≠C)(L:∀b o,s.heap.get? b=some o->h'.get? b=some o)(hn:h'.Ns C m)(hL:h'.get? a=some {cls:=.type "list",data:=.seq #[]}):
  Inv (bK X (x::f.map (·.1)) scope z C s H g) [] (none::fJ f σ) (upd H a (.lst [])) {s with heap:=h',toks:=tk}:=by
 have W5:=I.hok.fresh M;have V:=I.hok.fresh Q;have E:∀y c,(bK X (x::f.map (·.1)) scope z C s H g).env.cells.lookup y=some c->X.env.cells.lookup y=some c:=λy c e=>F.cls y c e;have YC:∀y c,X.env.cells.lookup y=some c->c<s.heap.objs.size:=λy c e=>by
  obtain⟨v,q⟩:=I.cell y c e;exact q.lt
 have up:∀b u,H b=some u->upd H a (.lst []) b=some u:=λb u q=>by rw[aH (aJ q W5)];exact q
 have ok:(bK X (x::f.map (·.1)) scope z C s H g).Ok:=by
  refine(I.ok.mod,F.kind,I.ok.glob,I.ok.blt,Q,λy d c h1 h2=>I.ok.inj y d c (E y c h1) (E d c h2),λy hy=>F.has y hy,λy c h=>absurd (show false=true from h) aar,I.ok.hd,I.ok.frames,.inl rfl,λb B=>?_,I.bs,afJ I.ok.Ve I.sz,λb o e B=>?_,λb B hz=>?_,I.stack,I.stkFree)
  ·obtain⟨f0,U,T,S,R,f5⟩:=P b B;exact(aap (aai (Y b B) Q),λy c e=>R y c (E y c e))
  ·obtain⟨f0,U,T,S,R,f5⟩:=P b B;rcases S with d|d
   ·exact I.ok.noex b o e d
   ·exact absurd (aai (aai (Heap.lt_size e) I.ok.Ve) d) (afL _)
  ·obtain⟨f0,U,T,S,R,f5⟩:=P b B;rcases aaO.mp (I.stkSub b hz)with d|d
   ·exact U d
   ·exact T d
 exists ok,7,I.bare,3,(m,hn,λi y v e1 e2 e3=>?_),λy c e=>?_,3,λy c e=>?_,λp hp=>absurd (show p∈([]:List (Addr×Obj))from hp) (by simp),3
 ·exact Un.laid L M W5
 ·cases i with
  |zero=>cases e2
  |succ i=>
   have n:(f.map (·.1))[i]?=some y:=e1;have t:(fJ f σ)[i]?=some (some v):=e2;rw[aag]at n;unfold fJ at t;rw[aag]at t;cases G:f[i]? with
   |none=>rw[G]at n;cases n
   |some p=>
    rw[G]at n t;obtain⟨A,j⟩:=p;have ey:A=y:=aao n;subst ey;have N:(σ[j]?).getD none=some v:=aao t;have a0:σ[j]?=some (some v):=by
     cases q:σ[j]? with
     |none=>rw[q]at N;cases N
     |some w=>rw[q]at N;exact congrArg some N
    obtain⟨c1,c2,c3⟩:=F.cap A j (aah G);obtain⟨m0,a1,hl⟩:=I.loc;obtain⟨u,r,l⟩:=hl j A v c1 a0 (by rcases c2 with d|d;exact .inr (.inl d);exact .inr (.inr d));refine(u,r,.inr (c3,3));rcases l with ⟨k,_⟩|⟨k,c,G,d⟩
    ·have K:X.env.scope.names.lookup A=some .local:=k;rcases c2 with d|d
     ·rw[d]at K;cases K
     ·rw[d]at K;cases K
    ·obtain⟨c',J⟩:=F.has A c3;have e4:=F.cls A c' J;rw[G]at e4;cases e4;obtain⟨o,O,hd⟩:=d;exact(c,J,o,L _ _ O,hd)
 ·obtain⟨v,o,O,hd⟩:=I.cell y c (E y c e);exact(v,o,L _ _ O,hd)
 ·show upd H a (.lst []) C=none;rw[aH (af3 Z)];exact V
 ·have W:=YC y c (E y c e);rw[aH (aap (aai W M))];exact I.freeC y c (E y c e)
 ·exact I.hok.laid L M (aaF _,[],_,.nil,hL)
 ·show (none::fJ f σ).length=(x::f.map (·.1)).length;simp[su]
theorem Inv.comped{N:List Str}{C:Addr}{c:Shared}{a:St}{H':Hp}(I:Inv X π σ H s)(d:∀b∈g,gM X π H b)
  (J:Inv (bK X N scope z C s H g) [] a H' c):Inv X π σ H' c:=by
 refine I.call' (ch:=g) (J.os.trans rfl) J.base J.hok J.bare λb e=>?_;obtain⟨l,j,k,i,h,f⟩:=d b e;exact(i,j,h,f)
def jG(J:It)(e:St)(tt:TT)(j:TE)(k:Addr->Hp->Prop)(H:Hp):Prop:=
 ∀D,H D=none -> ∃W:Nat->Nat->List V->Hp->Prop,(∃m,W 0 m [] (upd H D (.lst []))) /\ ∀i m a d,W i m a d ->
  (J.stop i d/\k D d)\/(J.go i d /\ ∀v h,J.U0 i d v h->tt (some v::e) h λb g=>if b=true then
   j (some v::e) g λy f=>f D=some (.lst a)/\a.length<sizeLine /\ ∃c,c<m/\W (i+1) c (a++[y]) (upd f D (.lst (a++[y])))else ∃c,c<m/\W (i+1) c a g)
def VM(X:Cx)(a:List Expr)(tt:TT):Prop:=
 ∀(π:List (Addr×Obj)) (s:Shared) (σ:St) (H:Hp) (Q:Bool->Hp->Prop),Inv X π σ H s->tt σ H Q ->
  wpAny (model X.prog X.w) X.A (forIn a true λc r=>if r=true then do let b <-isTrue c X.env (eval c X.env);pure (ForInStep.yield b)else pure (ForInStep.yield r)) (TP X π σ Q) X.xe s
def Kv:TT:=λ_ H Q=>Q true H
theorem eZ:VM X [] Kv:=λ_ _ _ H _ I h=>wpAny_tests_nil (H,I,h)
theorem GJ{c:Expr}{tt:TT}(h:PT X c tt):VM X [c] tt:=λ π s σ H Q I q=>wpAny_tests_one (h π s σ H Q I q)
def dZ(X:Cx)(fn:Str->Bool)(N:List Str)(a:Scope)(c:List (Str×Addr))(C:Addr)(s:Shared)(H:Hp)(b:List Addr):Cx:=
 {bK X N a c C s H b with fn:=fn}
theorem Inv.compedG{fn:Str->Bool}{N:List Str}{C:Addr}{c:Shared}{a:St}{H':Hp}(I:Inv X π σ H s)(d:∀b∈g,gM X π H b)
  (J:Inv (dZ X fn N scope z C s H g) [] a H' c):Inv X π σ H' c:=by
 refine I.call' (ch:=g) (J.os.trans rfl) J.base J.hok J.bare λb e=>?_;obtain⟨l,j,k,i,h,f⟩:=d b e;exact(i,j,h,f)
theorem Ez{fn:Str->Bool}{x:Str}{pos:Pos}{B:List (Str×Nat)}{iter:Expr}{Y:List Expr}{J:It}{tn:Nat->Heap->Prop}{tt:TT}{C:Addr}{tk:Nat}
  {RR:Value->Addr->Result->Shared->Prop}(I:Inv X π σ H s)(hc:X.calm=true)(T:Turn X.prog X.w X.K (.Name x p) J g a tn)(hf:∀b∈g,gM X π H b)(a0:∀b∈g,b<s.heap.objs.size)(Z:s.heap.objs.size<=C)(eD:f=s.heap.objs.size)(a8:∀y c,z.lookup y=some c -> ∀b∈g,c≠b)
  (hg:PG (dZ X fn (x::B.map (·.1)) scope z C s H g) (.Name x p) (fL 0))(ht:VM (dZ X fn (x::B.map (·.1)) scope z C s H g) Y tt)(he:PE (dZ X fn (x::B.map (·.1)) scope z C s H g) e ta)(rd:jG J (fJ B σ) tt ta D H)
  (a9:∀f C P H' m,Inv X π σ H' P->P.heap.Ns C m->gM X π H' C->D f H'->RR (.ref f) C (.ok .next) P)
  (I0:Inv (dZ X fn (x::B.map (·.1)) scope z C s H g) [] (none::fJ B σ) (upd H f (.lst [])) {s with heap:=h',toks:=tk})(a5:tn 0 h'):
  codeAny (model X.prog X.w) X.A (.compLoop (.ListComp e [(.Name x p,iter,Y,0)] scope pos) 0 (.ref a) (.ref f) (compEnvC scope z C X.env)) (RR (.ref f) C) {s with heap:=h',toks:=tk}:=by
 obtain⟨W,⟨m0,w0⟩,a1⟩:=rd f (I.hok.fresh (ahk eD.symm));refine codeAny_compLoop_tests (λn P=>∃i M G H',Inv (dZ X fn (x::B.map (·.1)) scope z C s H g) [] (G::fJ B σ) H' P/\tn i P.heap/\(∀b∈g,H' b=none)/\W i n M H') ?_ m0
  (0,[],none,_,I0,a5,λb E=>?_,w0)
 ·rintro n s3 ⟨i,M,G,H3,I3,U,VL,w3⟩;have Wa:∀{H':Hp}{pi:List (Addr×Obj)},(∀b∈g,H' b=none)->(∀k∈pi,k.1∉g) -> ∀b∈g,gM (dZ X fn (x::B.map (·.1)) scope z C s H g) pi H' b:=λ{H' pi} hn hp b E=>by
   obtain⟨f0,f1,f2,f3,f4,f5⟩:=hf b E;refine(hn b E,3,λj=>?_,.inl E,λy c l=>a8 y c l b E,λk a7 j=>?_)
   ·exact aap (aai (a0 b E) Z)
   ·rcases aaO.mp (I.stkSub b j)with q|q
    ·exact f1 q
    ·exact f2 q
   ·exact hp k (by simpa [dZ,bK]using a7) (by rw[j];exact E)
  have clear:∀{α:Type}{t:Sem α}{Q:α->Shared->Prop}{E':Value->Shared->Prop}{s:Shared},wpAny (model X.prog X.w) X.A t Q (λ_ _=>False) s->wpAny (model X.prog X.w) X.A t Q E' s:=λh=>wpAny_mono h (λ_ _ j=>j) λ_ _ j=>j.elim;rcases a1 i n M H3 w3 with ⟨a2,qf⟩|⟨go,a3⟩
  ·refine Th (T.done (dZ X fn (x::B.map (·.1)) scope z C s H g) rfl rfl rfl hc i [] s3 _ H3 _ I3 (Wa VL (by simp)) U a2) λr s4 ⟨hr,I4⟩=>?_;subst hr;obtain⟨m4,XJ,_⟩:=id I4.loc;refine a9 f _ s4 H3 m4 (I.compedG hf I4) XJ ?_ qf;have gC:s.heap.objs.size<=C:=Z;exact I.fpOk gC I4.free
  ·refine clear (Th (T.item (dZ X fn (x::B.map (·.1)) scope z C s H g) rfl rfl rfl hc i [] s3 _ H3 (λ_ _=>False) I3 (Wa VL (by simp)) U go) λr s4 ⟨u,hr,h4⟩=>?_);subst hr;refine clear (show wpAny (model X.prog X.w) X.A (pure () >>= λ_=>assign (.Name x p) (compEnvC scope z C X.env) u) _ _ s4 from wpAny_bind (Th (h4:wpAny (model X.prog X.w) X.A (pure ()) _ _ s4) λ_ s5 ⟨v,H5,I5,r5,y5,U6,W0⟩=>?_));have W2:=I5.pinned (Wa W0 (by simp)) (T.obj _ _ U6);refine Th (hg _ s5 (G::fJ B σ) H5 v u (λ a4 H2=>a4=some v::fJ B σ/\H2=H5) W2 r5 (show _/\_ from (7,7))) λ_ s6 ⟨b0,H6,I6,e6,e7⟩=>?_;subst e6 e7;have q6:=a3 v _ y5;have F:∀{N:Hp}{O:Shared}{G:Option V}{zs:List V}{L:Nat},Inv (dZ X fn (x::B.map (·.1)) scope z C s H g) ([]++rP g s5.heap) (G::fJ B σ) N O->L<n->W (i+1) L zs N ->
     ∃m,m<n /\ ∃i M G H',Inv (dZ X fn (x::B.map (·.1)) scope z C s H g) [] (G::fJ B σ) H' O/\tn i O.heap/\(∀b∈g,H' b=none)/\W i m M H':=λ{N O G zs L} R S w7=>by
    refine(L,S,i+1,zs,G,N,R.ξ,T.keep _ _ _ U6 λb E o l=>(R.pin (pq b o) (aay _ (aay _ (fU E l)))).1,λb E=>?_,w7);obtain⟨o,l,d⟩:=T.obj _ _ U6 b E;exact(R.pin (pq b o) (aay _ (aay _ (fU E l)))).2.1
   refine clear (Th (ht _ s6 _ H6 _ I6 q6) λok O ⟨N,R,q7⟩=>?_);cases ok with
   |false=>
    obtain⟨L,S,w7⟩:=(show ∃L,L<n/\W (i+1) L M N from q7);exact F R S w7
   |true=>
    refine clear (Th (he _ O _ N _ R q7) λxv s8 ⟨y,H8,I8,r8,YD,a6,L,S,w8⟩=>?_);refine clear (Th (b8 _ s8 _ H8 (.ref f) [y] (.ref f) [xv] (λ_ H9=>H9=upd H8 f (.lst (M++[y]))) I8 rfl (.cons r8 .nil) (f,M,y,7,7,YD,a6,7)) λ_ s9 ⟨_,H9,I9,_,e9⟩=>?_);subst e9;exact F I9 S w8
 ·rw[aH (by rw[eD];exact aap (a0 b E))];exact(hf b E).1
theorem yz{x:Str}{pos:Pos}{k:List (Str×Nat)}{iter:Expr}{J:It}{M:Nat->Heap->Prop}{tt:TT}
  {RR:Value->Addr->Result->Shared->Prop}{E:Value->Shared->Prop}(I:Inv X π σ H s)(hc:X.calm=true)(r:cj X x k scope z)(T:Turn X.prog X.w X.K (.Name x p) J g a M)(st:M 0 s.heap)(P:∀b∈g,gM X π H b)
  (ht:∀C N V S,VM (bK X (x::k.map (·.1)) scope z C N V S) y tt)(he:∀C N V S,PE (bK X (x::k.map (·.1)) scope z C N V S) e ta)(rd:jG J (fJ k σ) tt ta D H)
  (W:∀h C O H' m,Inv X π σ H' O->O.heap.Ns C m->gM X π H' C->D h H'->RR (.ref h) C (.ok .next) O):
  wpAny (model X.prog X.w) X.A (newList []) (λG s3=>wpAny (model X.prog X.w) X.A (newFunctionEnv scope X.env.globals z [] X.env.qual none .none (some X.env)) (λq s4=>
   codeAny (model X.prog X.w) X.A (.compStart (.ListComp e [(.Name x p,iter,y,0)] scope pos) 0 (.ref a) G {q with scope:=relabel scope X.env}) (RR G q.locals) s4) E s3) E s:=by
 have F:∀b∈g,b<s.heap.objs.size:=λb Q=>by
  obtain⟨o,f,_⟩:=T.obj _ _ st b Q;exact Heap.lt_size f
 refine wpAny_newObj_type (wpAny_newFunctionEnv r.ρ (by intro j hy;simp at hy) (λR t l=>?_) r.kind);dsimp only at t l ⊢;obtain⟨h,u⟩:∃h:Nat,h=s.heap.objs.size:=(_,7)
 obtain⟨U,L⟩:∃d,d=s.heap.push {cls:=.type "list",dict:=none,data:=.seq ([]:List Value).toArray}:=(_,7)
 rw[<-L]at t l ⊢;rw[<-u];have hC:U.objs.size=h+1:=by rw[L,Heap.size_push,u]
 have B:s.heap.objs.size<=U.objs.size:=by rw[hC,u];exact agS _
 have Y:h≠U.objs.size:=by rw[hC];exact aap (age _)
 have Z:∀b o,s.heap.get? b=some o->R.get? b=some o:=λb o f=>by
  refine l.extBut b o (aap (aai (Heap.lt_size f) B)) (Heap.get?_push_of_some _ ?_);rw[L];exact Heap.get?_push_of_some _ f
 have hL:R.get? h=some {cls:=.type "list",data:=.seq #[]}:=by
  refine l.extBut h _ ⋯ (Heap.get?_push_of_some _ ?_);rw[L,u];exact Heap.get?_push_size _ rfl
 have v:M 0 R:=T.keep _ _ _ st λb _ o f=>Z b o f;have n:=Ez (fn:=λ_=>false) (pos:=pos) (iter:=iter) (RR:=RR) I hc T P F B u (λj c f b Q=>(P b Q).2.2.2.2.1 j c (r.cls j c f)) (nC (i:=0) r.nd rfl (agP (lookup_relabel_local r.hx)) (ahs (lookup_relabel_local r.hx))) (ht _ _ _ _) (he _ _ _ _) rd W (I.comp (tk:=s.toks+([]:List (Str×Value)).length) r P F ⋯ ⋯ Y Z t hL) v;exact codeAny_compStart_list n (T.self _ 0 _ _ _ v n)
def K7(a:List (Str×Nat))(tt:TT)(b:TE)(σ:St)(Q:VK):It->Hp->Prop:=λJ c=>jG J (fJ a σ) tt b (λD d=>Q (.ref D) d) c
def Pa(b:TI)(a:List (Str×Nat))(tt:TT)(c:TE):TE:=λ σ H Q=>b σ H (K7 a tt c σ Q)
theorem m5{x:Str}{pos:Pos}{iter:Expr}{t:TI}{tt:TT}(L:X.calm=true)(i:cj X x I scope z)(G:PI X (.Name x p) iter t)
  (ht:∀C g k j,VM (bK X (x::I.map (·.1)) scope z C g k j) y tt)(K:∀C g k j,PE (bK X (x::I.map (·.1)) scope z C g k j) e ta)(E:∀x,foldedSetIterable iter X.env x=pure x:=by intro _;rfl):
  PE X (.ListComp e [(.Name x p,iter,y,0)] scope pos) (Pa t I tt ta):=by
 intro π s σ H Q a h;rw[eval_ListComp];refine wpAny_comprehension_free (use:=none) rfl E i.clos i.kind i.names (Th (G π s σ H _ a h) λv g O=>Th O λV Y N=>?_);obtain⟨Z,fp,W,J,H2,c,R,T,l,P,B⟩:=N;subst c;refine yz (RR:=λr C=>compPost (model X.prog X.w) X.A X.xe none (EP X π σ Q) r C) R L i T l P ht K B ?_;intro D C u U m S F d q;exact(m,F,λn f=>(.ref D,U,S.turned (h':=n) (t':=u.toks) (λb o M c=>f.extBut b o M c) d.1 d.2.1 d.2.2.2.1 d.2.2.2.2.1 d.2.2.2.2.2,7,q))
theorem lq{i:Nat}{y x:Str}{pos j:Pos}{iter:Expr}{g:List Expr}{O:TI}{tt:TT}(hN:X.N.Nodup)(W6:X.N[i]?=some y)(P:X.env.scope.names.lookup y=some .local)(hc:X.calm=true)
  (u:cj X x I scope z)(Z:PI X (.Name x p) iter O)
  (ht:∀C t E B,VM (bK X (x::I.map (·.1)) scope z C t E B) g tt)(he:∀C t E B,PE (bK X (x::I.map (·.1)) scope z C t E B) e ta)
  (K:swapsWith (.ListComp e [(.Name x p,iter,g,0)] scope pos) (some (.Name y apos)) j.line X.env=pure true:=by rfl)(V:∀x,foldedSetIterable iter X.env x=pure x:=by intro _;rfl):
  PS X (.Assign [.Name y apos] (.ListComp e [(.Name x p,iter,g,0)] scope pos) j) (Ip (Pa O I tt ta) (fL i)):=by
 intro π s σ H R d h;rw[exec_Assign_Name_used _ _ _ _ K];refine wpAny_bind (wpAny_standAt (wpAny_bind ?_));show wpAny _ X.A (do let _ <-comprehension (.ListComp e [(.Name x p,iter,g,0)] scope pos) scope X.env _ (newList []) false (eval iter X.env) (some (assign (.Name y apos) X.env))) _ _ s;refine wpAny_bind (wpAny_mono (wpAny_comprehension_free (use:=some (assign (.Name y apos) X.env)) (Q:=λ_ l=>SP X π R .next l) rfl V u.clos u.kind u.names
  (Th (Z π s σ H _ d h) λv t h1=>Th h1 λa0 s2 h2=>?_)) (λ_ l W=>wpAny_pure (wpAny_pure W)) λ_ _ f=>f)
 obtain⟨it,fp,tn,J,H2,f,I2,T,F,f2,U⟩:=h2;subst f;refine yz (RR:=λM C=>compPost (model X.prog X.w) X.A X.xe (some (assign (.Name y apos) X.env)) (λ_ l=>SP X π R .next l) M C) I2 hc u T F f2 ht he U ?_;intro D C l H' m I' Y k q;show wpAny _ X.A (assign (.Name y apos) X.env (.ref D)) _ _ _;refine wpAny_assign_Name (mZ (v:=.ref D) I' hN W6 (.inl P) rfl (λG W7 ch=>(m,3,λL r=>?_)) (.inr P))
 ·obtain⟨a,S,n⟩:=ch;refine Y.sameBut S λc=>?_;rcases n with n|n
  ·exact k.2.1 (c.trans n)
  ·exact k.2.2.2.2.1 _ a n c.symm
 ·exact(_,H',W7.turned (h':=L) (t':=G.toks) (λb o hb f=>r.extBut b o hb f) k.1 k.2.1 k.2.2.2.1 k.2.2.2.2.1 k.2.2.2.2.2,q)
theorem pF{a:Env}{y:Str}{k:NameKind}(h:(relabel scope a).names.lookup y=some k):∃k0,(pq y k0)∈scope.names/\(k=k0\/(k0=.free/\k=.cell)):=by
 have h:=PySem.mem_of_lookup h;obtain⟨⟨n,k0⟩,d,e⟩:=aa3.mp (show (pq y k)∈scope.names.map _ from h);by_cases c:(k0==NameKind.free&&a.scope.kind == .function&&a.kindOf n==some .cell)=true
 ·have b:(pq n NameKind.cell)=(pq y k):=by rw[<-e];exact(if_pos c).symm
  have f:k0=.free:=by
   simp only[ahd]at c;exact eq_of_beq c.1.1
  cases b;exact(_,d,.inr (f,7))
 ·have b:(pq n k0)=(pq y k):=by rw[<-e];exact(if_neg c).symm
  cases b;exact(_,d,.inl rfl)
theorem cj.zero(a:∀y∈scope.names,y.2 ≠ .free:=by decide)(i:∀y∈scope.names,y.2 ≠ .cell:=by decide)(d:scope.kind=.function:=by rfl)(b:∀y∈scope.names,y.2=.local->scope.names.lookup y.1=some .local:=by decide)
  (k:scope.names.lookup x=some .local:=by rfl):cj X x [] scope []:=by
 refine(d,i,b,k,closureFor_none a,λy c e=>(by cases e),λy f=>?_,by simp,λy j h=>nomatch h);rcases f with f|f
 all_goals
  obtain⟨l,g,e⟩:=pF f;rcases e with e|⟨e,_⟩
  ·subst e
   first|exact absurd rfl (i _ g) | exact absurd rfl (a _ g)
  ·subst e;exact absurd rfl (a _ g)
theorem cj.one{y:Str}{j:Nat}{c:Addr}(t:X.N[j]?=some y)(s:X.env.scope.names.lookup y=some .cell\/X.env.scope.names.lookup y=some .free)(u:X.env.cells.lookup y=some c)(k:closureFor scope X.env=pure [(pq y c)])
  (r:(relabel scope X.env).names.lookup y=some .cell\/(relabel scope X.env).names.lookup y=some .free)
  (a:∀z∈scope.names,z.2=.free->z.1=y:=by decide)(o:∀y∈scope.names,y.2 ≠ .cell:=by decide)(g:scope.kind=.function:=by rfl)(b:∀y∈scope.names,y.2=.local->scope.names.lookup y.1=some .local:=by decide)
  (q:scope.names.lookup x=some .local:=by rfl)(p:[x,y].Nodup:=by decide):cj X x [(pq y j)] scope [(pq y c)]:=by
 have f:([(pq y c)]:List (Str×Addr)).lookup y=some c:=by simp
 refine(g,o,b,q,k,λz d e=>?_,λz l=>?_,p,λz i h=>?_)
 ·have:=PySem.mem_of_lookup e;cases aat.mp this;exact u
 ·have n:z=y:=by
   rcases l with l|l
   all_goals
    obtain⟨v,m,e⟩:=pF l;rcases e with e|⟨e,_⟩
    ·subst e
     first|exact absurd rfl (o _ m) | exact a _ m rfl
    ·subst e;exact a _ m rfl
  subst n;exact(c,f)
 ·cases aat.mp h;exact(t,s,r)
section
variable{R:Result->Shared->Prop}{I:Addr}{fp wr:List Addr}{P:Nat->Value->Prop}{St:Nat->Heap->Prop}{kw:List (Str×Value)}
theorem Hs(W:Walks prog w A.in1 I fp wr n P St)(h:Nat->Nat->Bool)(H:CmpOf prog w A.in1 .Lt P h)(r:S∉fp):
  ∀(k j:Nat) (s:Shared) (x:Value) (c:Nat),j+1+k=n->St (j+1) s.heap->P (argBest h j) x->s.heap.get? S=some {cls:=.type "list",data:=.seq #[x,x] c} ->
   (∀v g t,P (argBest h (n-1)) v->(∀b o,b∉wr->b≠S->s.heap.get? b=some o->g.get? b=some o)->R (.ok (.ret v)) {s with heap:=g,toks:=t}) ->
   codeAny (model prog w) A (.builtin "min.loop" ([.ref I,.none,.ref S],kw)) R s:=by
 have p:S∉wr:=λz=>r (W.sub _ z)
 have J:(toString "min" ++ toString ".loop" : String) = "min.loop":=by decide
 intro k
 induction k with
 |zero=>
  intro j s x c M C u l d;have L:j+1=n:=M;refine codeAny_builtin PySem.F.entry_min_loop ?_;rw[Around.under_plainId PySem.F.plain_min_loop _];show wpAny _ A.in1 (seqItems? (.ref S) >>= _) _ _ s;refine wpAny_bind (wpAny_seqItems l rfl ?_);show wpAny _ A.in1 (tryCatch (pyNext (.ref I)) _ >>= _) _ _ s;refine wpAny_bind (wpAny_tryCatch (W.done s _ _ (L ▸ C) λg t f=>?_));have a:=f S _ p l;show wpAny _ A.in1 (updateSeq S (λ_=>#[]) >>= _) _ _ _;refine wpAny_bind (wpAny_updateSeq a rfl (wpAny_bind (wpAny_letGo (wpAny_pure ?_))));exact d x _ t (by rw[<-L];exact u) λb o e i q=>(Heap.get?_update_other _ _ (af3 i)).trans (f b o e q)
 |succ k K=>
  intro j s x c M C u l d;have O:j+1<n:=by lia
  refine codeAny_builtin PySem.F.entry_min_loop ?_;rw[Around.under_plainId PySem.F.plain_min_loop _];show wpAny _ A.in1 (seqItems? (.ref S) >>= _) _ _ s;refine wpAny_bind (wpAny_seqItems l rfl ?_);show wpAny _ A.in1 (tryCatch (pyNext (.ref I)) _ >>= _) _ _ s;refine wpAny_bind (wpAny_tryCatch (W.item (j+1) s _ _ O C λv g t pv m f=>?_));have a:=f S _ p l;show wpAny _ A.in1 (tryCatch (holding [v,v] (richCompare .Lt v x >>= _)) _ >>= _) _ _ _;refine wpAny_bind (wpAny_tryCatch (wpAny_holding (wpAny_bind (H (j+1) (argBest h j) v x _ _ _ pv u ?_))));refine wpAny_bind (wpAny_holding (wpAny_truthy_bool (wpAny_bind (wpAny_letGo (wpAny_pure ?_)))));cases N:h (j+1) (argBest h j)with
  |true=>
   simp only[if_true];refine wpAny_bind (wpAny_updateSeq a rfl (wpAny_bind (wpAny_letGo ?_)));rw[J];refine wpAny_pure (plainId_quiet PySem.F.plain_min_loop _,K (j+1) _ v _ ⋯ (W.frame _ _ _ m λb Q o q=>?_) (by simp only[argBest,N,if_true];exact pv) (Heap.get?_update_self _ a rfl) λy G B D E=>?_)
   ·exact(Heap.get?_update_other _ _ (λz:S=b=>r (by rw[z];exact Q))).trans q
   ·exact d y G B D λb o e i q=>E b o e i ((Heap.get?_update_other _ _ (af3 i)).trans (f b o e q))
  |false=>
   simp only[adT,if_false];refine wpAny_bind (wpAny_letGo ?_);rw[J];refine wpAny_pure (plainId_quiet PySem.F.plain_min_loop _,K (j+1) _ x c ⋯ m (by simp only[argBest,N,adT,if_false];exact u) a λy G B D E=>?_);exact d y G B D λb o e i q=>E b o e i (f b o e q)
theorem FT(W:Walks prog w A.in1 I fp wr n P St)(e:Nat->Nat->Bool)(j:CmpOf prog w A.in1 .Lt P e)(a:S∉fp)(C:0<n){s:Shared}{c:Nat}(st:St 0 s.heap)
  (l:s.heap.get? S=some {cls:=.type "list",data:=.seq #[] c})
  (i:∀v g t,P (argBest e (n-1)) v->(∀b o,b∉wr->b≠S->s.heap.get? b=some o->g.get? b=some o)->R (.ok (.ret v)) {s with heap:=g,toks:=t}):
  codeAny (model prog w) A (.builtin "min.loop" ([.ref I,.none,.ref S],kw)) R s:=by
 have h:S∉wr:=λz=>a (W.sub _ z)
 have x:(toString "min" ++ toString ".loop" : String) = "min.loop":=by decide
 refine codeAny_builtin PySem.F.entry_min_loop ?_;rw[Around.under_plainId PySem.F.plain_min_loop _];show wpAny _ A.in1 (seqItems? (.ref S) >>= _) _ _ s;refine wpAny_bind (wpAny_seqItems l rfl ?_);show wpAny _ A.in1 (tryCatch (pyNext (.ref I)) _ >>= _) _ _ s;refine wpAny_bind (wpAny_tryCatch (W.item 0 s _ _ C st λv g t pv f k=>?_));have d:=k S _ h l;show wpAny _ A.in1 (updateSeq S (λ_=>#[v,v]) >>= _) _ _ _;refine wpAny_bind (wpAny_updateSeq d rfl ?_);rw[x];refine wpAny_pure (plainId_quiet PySem.F.plain_min_loop _,Hs W e j a (n-1) 0 _ v _ ⋯ (W.frame _ _ _ f λb E o q=>?_) pv (Heap.get?_update_self _ d rfl) λy D r u B=>?_)
 ·exact(Heap.get?_update_other _ _ (λz:S=b=>a (by rw[z];exact E))).trans q
 ·exact i y D r u λb o p m q=>B b o p m ((Heap.get?_update_other _ _ (af3 m)).trans (k b o p q))
end
theorem Ja(a v:Value):argsOk "min" ⟨[a],[(pq (Str.ofString "default") v)]⟩:=by unfold argsOk;kernel_rfl
section
variable{l:Addr}{zs:Array (Int×Tok)}
theorem qW{Q:Value->Shared->Prop}(x:A.handled=none)(r:s.heap.IsList l (intItems zs))(c:0<zs.size)
  (h:∀v g t,(intItems zs)[argBest (λi j=>decide (numAt zs i<numAt zs j)) (zs.size-1)]?=some v->(∀b o,s.heap.get? b=some o->g.get? b=some o)->Q v {s with heap:=g,toks:=t}):
  wpAny (model prog w) A (call (.builtin "min") [.ref l] [(pq (Str.ofString "default") q)]) Q E s:=by
 have u:(toString "min" ++ toString ".loop" : String) = "min.loop":=by decide
 refine PyProof.Rows.kmk_tree PySem.F.kind_min PySem.F.plain_min PySem.F.entry_min (Ja _ _) ?_
 refine wpAny_bind (wpAny_of_eq (show Builtin.Builtins.bindParams "min" ["key","default"] 0 ⟨[],[(pq (Str.ofString "default") q)]⟩=pure [none,some q]from rfl) ?_)
 refine wpAny_bind (wpAny_pure (wpAny_bind (iter_intList r λB e y m f=>?_)));subst e;refine wpAny_bind (wpAny_newObj_type ?_);rw[u];have n:(intItems zs).size=zs.size:=by simp[intItems]
 refine wpAny_pure (plainId_quiet PySem.F.plain_min_loop _,FT (Walks.list (A:=A.in1) x _ l f (intItems zs)) _ (CmpOf.ints_lt (numAt zs) (λ_ _=>intItems_at)) (λz=>afL _ (m _ z)) (by rw[n];exact c)
  ((_,Heap.get?_push_of_some _ (Heap.get?_push_size _ rfl),7,7),(r.push _).push _) (Heap.get?_push_size _ rfl) λv g t p k=>?_)
 refine h v g t (by rw[n]at p;exact p) λb o a=>k b o ?_ ?_ (Heap.get?_push_of_some _ (Heap.get?_push_of_some _ a))
 ·exact λz=>absurd (Heap.lt_size a) (by rw[aat.mp z];exact afL _)
 ·refine aap (aai (Heap.lt_size a) ?_);rw[Heap.size_push];exact agS _
end
def Ku(M:Int)(b:List Int):Prop:=M∈b /\ ∀a∈b,M<=a
theorem Lq{zs:Array (Int×Tok)}(l:IntsAre r d)(e:r.toArray=intItems zs)(f:0<d.length):0<zs.size/\Ku (numAt zs (argBest (λi j=>decide (numAt zs i<numAt zs j)) (zs.size-1))) d:=by
 have b:d=zs.toList.map (·.1):=by rw[<-l.numsOf,<-nums_intItems,<-e]
 have c:0<zs.size:=by
  have h:=f;rw[b,aaa,aae]at h;exact h
 obtain⟨n,m⟩:=argBest_lt (numAt zs) (zs.size-1);refine(c,3,λa g=>?_)
 ·rw[b,numAt_eq];exact getD_mem (by rw[aaa,aae];lia)
 ·rw[b]at g;obtain⟨j,k,rfl⟩:=mem_getD g;rw[aaa,aae]at k;rw[<-numAt_eq];exact m j ⋯
inductive Mz(K:PySem.W.Frag)(Q:VK)(vs:List V)(_:V)(H2:Hp):Prop
 | mk (p:Addr) (ns:List Int) (_:vs=[.ref p]) (_:Tg K H2 p (ns.map V.int)) (_:0<ns.length) (_:∀M,Ku M ns->Q (.int M) H2)
def LC(K:PySem.W.Frag)(b:TE)(σ:St)(Q:VK):List V->Hp->Prop:=λa c=>b σ c (Mz K Q a)
def RZ(K:PySem.W.Frag)(c:TA)(b:TE):TE:=λ a H Q=>c a H (LC K b a Q)
theorem Nj{a :Expr}{p pos :Pos}(T:X.calm=true)(R:Gl X "min")(P:X.mg "min" = none)(U:PA X [a] t)(hd:PE X e ta)
  (j:bootBuiltins "min" = some (.builtin "min"))
  (S:backTo pos (starEach [a] X.env)=(pq false (eval a X.env))::backTo pos (starEach [] X.env):=by rfl)(m:(backTo pos (starEach [a] X.env)).any (·.1)=false:=by rfl)
  (w:(backToKw pos (keywordEach [(some (Str.ofString "default"),e,apos)] X.env)).filterMap (·.1)=[Str.ofString "default"]:=by rfl)
  (i:(backToKw pos (keywordEach [(some (Str.ofString "default"),e,apos)] X.env)).all (·.1.isSome)=true:=by rfl)
  (r:(backToKw pos (keywordEach [(some (Str.ofString "default"),e,apos)] X.env)).any (·.1.isNone)=false:=by rfl):
  PE X (.Call (.Name "min" p) [a] [(some (Str.ofString "default"),e,apos)] pos) (RZ X.K t ta):=by
 intro z s y H Q I h;refine wpAny_Call_Name_kw (cZ I R P j ?_);refine PyProof.Rows.callWith_kw (Th (U pos z s y H _ I h) λus A ⟨vs,Y,V,F,M⟩=>?_) S m i r;show wpAny _ _ (evalAll ((do let v <-eval e X.env;standAt pos;pure v)::[])) _ _ A;refine wpAny_evalAll_cons (wpAny_bind (Th (hd z A y Y _ V M) λdv s2 ⟨x,W,C,_,L⟩=>wpAny_bind (wpAny_standAt (wpAny_pure (wpAny_evalAll_nil ?_)))));obtain⟨b,ns,rfl,O,n,q⟩:=L;obtain⟨u,rfl,E⟩:=vals1 F;cases E;rw[w];obtain⟨Z,G,N,hz⟩:=C.list O;have B:=intsAre_of G;obtain⟨J,f⟩:=B.allInts.items;obtain⟨l,o⟩:=Lq B f n;refine qW (zs:=J) (I.ok.hd T) (by rw[<-f];exact N.isList) l λv g c j k=>?_;obtain⟨D,rfl⟩:=intItems_at j;exact(.int _,W,C.kept (t':=c) k,(D,7),q _ o)
def Wb(lo st:Int)(n:Nat):It:=(λi _=>i<n,λi H x a=>a=H/\x=.int (lo+i*st),λi _=>n<=i)
theorem rA{w:World}(c:Addr)(lo st:Int)(n:Nat):Turn prog w K e (Wb lo st n) [c] c (λi h=>IsRangeIter h c (lo+(i:Nat)*st) ((n:Int)-(i:Nat)) st) where
 mem:=by simp
 obj:=λi h q b d=>by
  have a:b=c:=by simpa using d
  subst a;exact(_,q,λv z=>by
   have J:Data.fields _=Data.cell v:=z;cases J)
 keep:=λi h g q k=>k c (by simp) _ q
 item:=by
  intro X p j r m i D s C H E I f q l;subst p j r;obtain⟨B,A,N,y,x,u⟩:=f c (by simp);have W:=Walks.range (prog:=X.prog) (w:=X.w) (I.ok.hd m) c lo st n;refine W.item i s _ _ l q λv g F M G L=>?_;obtain⟨t,rfl⟩:=M;have Q:Inv X D C H {s with heap:=g,toks:=F}:=I.turned (λb o d a=>L b o (by simpa using d) a) B A y x u
  exact(5,vV (s:={s with heap:=g,toks:=F}) (n := "range_iterator") G rfl rfl ∅ (.int (lo+i*st),H,Q,(t,7),(7,7),G,λb d=>(f b d).1))
 done:=by
  intro X p j r m i D s C H E I f q l;subst p j r;obtain⟨B,A,N,y,x,u⟩:=f c (by simp);exact wpAny_pyNext_range_end (I.ok.hd m) q (by have:n<=i:=l;lia) λg O=>(7,I.turned (t':=s.toks) (λb o d a=>O b o d a) B A y x u)
 self:=λ_ _ _ _ _ q h=>wpAny_pyIter_rangeiter q h
inductive Nv(R:It->Hp->Prop)(vs:List V)(H1:Hp):Prop
 | mk (b:Nat) (_:vs=[.int 0,.int (b:Int),.int 32]) (_:b<536870912) (_:R (Wb 0 32 ((b+31) / 32)) H1)
def Rm(b:TA):TI:=λ a H R=>b a H (Nv R)
theorem GD(b:Nat):Builtin.Range.rangeSize 0 b 32=(((b+31) / 32:Nat):Int):=by
 unfold Builtin.Range.rangeSize;rw[if_pos ∅];split<;>lia
theorem iH{p q:Bool}(b:p=true)(a:q=true):(p&&q)=true:=by rw[b,a];rfl
theorem J3{b:Nat}(h:b<536870912):Builtin.Range.small 0 b 32=true:=by
 unfold Builtin.Range.small Builtin.Range.rangeFitsLong;rw[GD];generalize a:(((b+31) / 32:Nat):Int)=n;have c:n<=16777216:=by lia
 have d:0<=n:=by lia
 have e:(2:Int)^63=9223372036854775808:=by decide
 rw[e,if_pos ∅];refine iH (iH (iH (iH ∅ (iH (decide_eq_true ?_) (decide_eq_true ?_))) ∅) (iH (decide_eq_true ?_) (decide_eq_true ?_))) ?_
 ·lia
 ·lia
 ·lia
 ·lia
 ·rw[ah5];exact .inr (iH (decide_eq_true ⋯) (decide_eq_true ⋯))
theorem Jl{a b c:Expr}{p pos:Pos}(D:Gl X "range")(C:X.mg "range" = none)(F:PA X [a,b,c] t)(B:starEach [a,b,c] X.env=[(pq false (eval a X.env)),(pq false (eval b X.env)),(pq false (eval c X.env))]:=by rfl)
  (j:starEach [b,c] X.env=[(pq false (eval b X.env)),(pq false (eval c X.env))]:=by rfl):PI X tg (.Call (.Name "range" p) [a,b,c] [] pos) (Rm t):=by
 intro u s n H R I h;refine Call_ (cZ I D C boot_range (PyProof.Rows.callWith_type1 (Th (F pos u s n H _ I h) λM g ⟨L,v,K,w,z⟩=>?_) (by rw[B,j]) (by rw[j];rfl)));obtain⟨y,e,A,q⟩:=z;subst e;cases w with
 |cons r i=>
  cases i with
  |cons x i=>
   cases i with
   |cons m i=>
    cases i;obtain⟨d,rfl⟩:=r;obtain⟨k,rfl⟩:=x;obtain⟨f,rfl⟩:=m;refine call_range_3 ∅ ?_ (.inl (PyProof.noPylong_small ⋯));refine wpAny_pyIter_range (IsRange.new ..) (J3 A) ?_
    have l:Inv X u n v {g with heap:=g.heap.push {cls:=.type "range",data:=.fields #[.int 0 d,.int y k,.int 32 f]},toks:=g.toks}:=K.kept λb o e=>Heap.get?_push_of_some _ e
    refine((g.heap.push {cls:=.type "range",data:=.fields #[.int 0 d,.int y k,.int 32 f]}).objs.size,[(g.heap.push {cls:=.type "range",data:=.fields #[.int 0 d,.int y k,.int 32 f]}).objs.size],8,v,7,
     l.kept (t':=g.toks) λb o e=>Heap.get?_push_of_some _ e,rA _ 0 32 ((y+31) / 32),3,λb E=>?_,q)
    ·have J:(0:Int)+((0:Nat):Int)*32=0:=by decide
     have G:(((y+31) / 32:Nat):Int)-((0:Nat):Int)=Builtin.Range.rangeSize 0 y 32:=by rw[GD];simp
     show IsRangeIter _ _ ((0:Int)+((0:Nat):Int)*32) ((((y+31) / 32:Nat):Int)-((0:Nat):Int)) 32;rw[J,G];exact Heap.get?_push_size _ rfl
    ·have e:b=(g.heap.push {cls:=.type "range",data:=.fields #[.int 0 d,.int y k,.int 32 f]}).objs.size:=by simpa using E
     subst e;exact l.fpOk (aac _) (l.hok.fresh (aac _))
theorem Ay{lo st:Int}{n:Nat}{g:TG}{h:TS}{D:Ends}{σ:St}(a:Nat->St->Hp->Prop)(o:a 0 σ H)
  (l:∀(i:Nat) σ H,i<n->a i σ H->g (.int (lo+i*st)) σ H λ b f=>h {D with nx:=a (i+1),ct:=a (i+1),bk:=D.nx} b f)(hd:∀σ H,a n σ H->D.nx σ H):
  ∃W:Nat->Nat->St->Hp->Prop,(∃m,W 0 m σ H) /\ ∀i m σ H,W i m σ H ->
   ((Wb lo st n).stop i H/\D.nx σ H)\/((Wb lo st n).go i H /\ ∃N:St->Hp->Prop,(∀c H',N c H' -> ∃j,j<m/\W (i+1) j c H') /\ ∀x H',(Wb lo st n).U0 i H x H'->g x σ H' λ b f=>h {D with nx:=N,ct:=N,bk:=D.nx} b f):=by
 exists λi m σ H=>m=n-i/\i<=n/\a i σ H,(n,by simp,aaF _,o);rintro i m σ H ⟨rfl,q,p⟩;by_cases d:i<n
 ·refine .inr (d,a (i+1),λ c H' k=>(n-(i+1),9,7,d,k),λx H' y=>?_);obtain⟨rfl,rfl⟩:=y;exact l i σ _ d p
 ·have e:i=n:=by lia
  subst e;exact .inl (aac _,hd σ H p)
def Wu(K:PySem.W.Frag)(a:Addr)(xs:List V):It:=
 (λi H=>Tg K H a xs/\i<xs.length,λi H x b=>b=H/\xs[xs.length-1-i]?=some x,λi _=>xs.length<=i)
theorem LQ{w:World}(a j:Addr)(xs:List V):Turn prog w K e (Wu K a xs) [j] j (λi h=>i<=xs.length/\h.IsRevIter j a ((xs.length:Int)-1-(i:Nat))) where
 mem:=by simp
 obj:=λi h g b l=>by
  have f:b=j:=by simpa using l
  subst f;obtain⟨_,o,f,c,d⟩:=g;exact(o,f,λv z=>by rw[d]at z;cases z)
 keep:=λi h q g k=>(g.1,g.2.at λo f=>k j (by simp) o f)
 item:=by
  intro X y r A O i M s L H E I n g t;subst y r A;obtain⟨U,hi⟩:=t;obtain⟨a0,R,p,hz⟩:=I.list U;obtain⟨x,N⟩:∃x,xs[xs.length-1-i]?=some x:=(_,aad ⋯);obtain⟨u,T,S⟩:=R.get N;obtain⟨G,F,Y,D,C,B⟩:=n j (by simp);obtain⟨J,g⟩:=g;have f:(xs.length:Int)-1-(i:Nat)=((xs.length-1-i:Nat):Int):=by lia
  rw[f]at g;refine wpAny_pyNext_rev_item g p.isList (x:=u) (by simpa using T) λq m Q=>?_;have I1:Inv X M L H {s with heap:=q}:=I.turned (t':=s.toks) (λb o l f=>(Q.2 b l).trans f) G F D C B;have e2:((xs.length-1-i:Nat):Int)-1=(xs.length:Int)-1-((i+1:Nat):Int):=by lia
  rw[e2]at m;obtain⟨o,f,c,d⟩:=id m;exact(u,7,vV (s:={s with heap:=q}) f c d ∅ (x,H,I1,S,(7,N),(9,m),λb l=>(n b l).1))
 done:=by
  intro X y r A O i M s L H E I n g t;subst y r A;obtain⟨G,F,Y,D,C,B⟩:=n j (by simp);obtain⟨J,g⟩:=g;have f:(xs.length:Int)-1-(i:Nat) = -1:=by have:xs.length<=i:=t;lia
  rw[f]at g;exact wpAny_pyNext_rev_end (I.ok.hd O) g λq Z=>(7,I.turned (t':=s.toks) (λb o l f=>Z b o l f) G F D C B)
 self:=λ_ _ _ _ _ g h=>wpAny_pyIter_revIter g.2 h
inductive QK(K:PySem.W.Frag)(R:It->Hp->Prop)(vs:List V)(H1:Hp):Prop
 | mk (a xs:_) (_:vs=[.ref a]) (_:Tg K H1 a xs) (_:R (Wu K a xs) H1)
def Sg(K:PySem.W.Frag)(b:TA):TI:=λ a H R=>b a H (QK K R)
theorem Do{a:Expr}{p pos:Pos}(C:Gl X "reversed")(B:X.mg "reversed" = none)(E:PA X [a] t)(y:bootBuiltins "reversed" = some (.type "reversed"))(z:starEach [a] X.env=[(pq false (eval a X.env))]:=by rfl):
  PI X tg (.Call (.Name "reversed" p) [a] [] pos) (Sg X.K t):=by
 intro k s j H R I h;refine Call_ (cZ I C B y (PyProof.Rows.callWith_type1 (Th (E pos k s j H _ I h) λJ d ⟨G,m,i,v,w⟩=>?_) z rfl));obtain⟨b,g,e,A,q⟩:=w;subst e;obtain⟨u,rfl,n⟩:=vals1 v;cases n;obtain⟨f,r,x,L⟩:=i.list A;refine call_reversed_list x.isList ?_;have M:=r.length;have l:({d with heap:=d.heap.push (revObj b ((f.toArray.size:Int)-1))}:Shared).heap.IsRevIter d.heap.objs.size b ((g.length:Int)-1-((0:Nat):Int)):=by
  exists _,Heap.get?_push_size _ rfl,7;show Data.fields #[.ref b,rawInt ((f.toArray.size:Int)-1)]=_;have e:(f.toArray.size:Int)-1=(g.length:Int)-1-((0:Nat):Int):=by simp;lia
  rw[e]
 refine wpAny_pyIter_revIter l ?_;have F:Inv X k j m {d with heap:=d.heap.push (revObj b ((f.toArray.size:Int)-1))}:=i.kept (t':=d.toks) λc o e=>Heap.get?_push_of_some _ e;refine(d.heap.objs.size,[d.heap.objs.size],_,Wu X.K b g,m,7,F,LQ b _ g,(aaF _,l),λc D=>?_,q);have e:c=d.heap.objs.size:=by simpa using D
 subst e;exact i.fpOk (aac _) (i.hok.fresh (aac _))
theorem zc{a:Addr}{xs:List V}{g:TG}{j:TS}{D:Ends}{σ:St}(b:Nat->St->Hp->Prop)(s:b 0 σ H)(q:∀i σ H,i<=xs.length->b i σ H->Tg K H a xs)
  (o:∀i x σ H,i<xs.length->xs[xs.length-1-i]?=some x->b i σ H->g x σ H λ c h=>j {D with nx:=b (i+1),ct:=b (i+1),bk:=D.nx} c h)(hd:∀σ H,b xs.length σ H->D.nx σ H):
  ∃W:Nat->Nat->St->Hp->Prop,(∃m,W 0 m σ H) /\ ∀i m σ H,W i m σ H ->
   ((Wu K a xs).stop i H/\D.nx σ H)\/((Wu K a xs).go i H /\ ∃N:St->Hp->Prop,(∀d H',N d H' -> ∃k,k<m/\W (i+1) k d H') /\ ∀x H',(Wu K a xs).U0 i H x H'->g x σ H' λ c h=>j {D with nx:=N,ct:=N,bk:=D.nx} c h):=by
 exists λi m σ H=>m=xs.length-i/\i<=xs.length/\b i σ H,(xs.length,by simp,aaF _,s);rintro i m σ H ⟨rfl,r,p⟩;by_cases f:i<xs.length
 ·refine .inr ((q i σ H r p,f),b (i+1),λ d H' l=>(xs.length-(i+1),9,7,f,l),λx H' y=>?_);obtain⟨rfl,n⟩:=y;exact o i x σ _ f n p
 ·have e:i=xs.length:=by lia
  subst e;exact .inl (aac _,hd σ H p)
theorem Bf{T f b:String}{v x:Builtin}{a:List Value}{j:List (Str×Value)}{S:_root_.PySem.Spec}{Q Q1:Value->Shared->Prop}(i:TypeCalled T f b)
  (M:checkTypeCall T (a,j)=pure ())(q:checkBuiltinCall f (.type T::a,j)=pure ())(I:entryFor table f=some v)(J:entryFor table b=some x)
  (g:Meets (v (.type T::a,j)) S)(h:S A.in1 (wants Q1 E) s)
  (D:∀d l,Q1 d l->l.TypeIs d T/\argsOk b (d::a,j) /\ ∃n,Meets (x (d::a,j)) n/\n A.in1 (wants (λr u=>r=.none/\Q d u) E) l):
  wpAny (model prog w) A (call (.type T) a j) Q E s:=by
 obtain⟨c,O,z⟩:=i.mro;have t:=i.made;have y:=i.sub;refine wpAny_call (codeAny_of_tree ?_);show wpAny _ _ (callAny (.type T) _) _ _ _;refine wpAny_pure (Code.quiet_builtin _ (by decide +kernel),codeAny_builtin PySem.F.entry_type_call ?_);rw[Around.under_plain (weight_type_call_type T a j) (units_type_call_type T a j)];have R:=i.notType;have P:=i.canCreate
 repeat (any_goals (first|assumption|wp_step))
 refine codeAny_mono (codeAny_call_builtin i.plain I (wpAny_of_eq q (g prog w A.in1 _ s h))) λr l m=>?_;cases r with
 |error e=>exact m
 |ok H=>
  cases H with
  |ret d=>
   obtain⟨C,p,n,G,o⟩:=D _ _ m;have L:=i.init.lookup;have N:=i.init.bind d
   repeat (any_goals (first|assumption|wp_step))
   refine codeAny_mono (codeAny_call_builtin i.init.plain J (i.init.check _ _ _ _ _ _ _ _ C p (G prog w A.in1 _ l o))) λB u k=>?_;cases B with
   |error e=>exact k
   |ok K=>
    cases K with
    |ret r=>
     obtain⟨rfl,U⟩:=k
     repeat (any_goals (first|assumption|wp_step))
    |_=>exact k.elim
  |_=>exact m.elim
theorem Ao{T b:String}{c:List (Str×Value)}(h:typeLookup (.type T) "__init__" = pure (some (.builtin "object.__init__")))
  (g:Bind.madeBy (.type T)=pure (some b))(f:(some b != some "object.__new__")=true):
  Meets (Builtin.«object.__init__» (q::r,c)) (λ_ R s=>s.TypeIs q T/\R (.ok (.ret .none)) s):=by
 refine Meets.of_wp λprog w A R s e=>?_;obtain⟨i,d⟩:=e;cases r with
 |nil=>
  cases c with
  |nil=>exact wpAny_pure (5,d)
  |cons p c=>
   repeat (any_goals (first|assumption|wp_step))
   exact(5,d)
 |cons a r=>
  repeat (any_goals (first|assumption|wp_step))
  exact(5,d)
theorem DP(a v:Value):checkTypeCall "enumerate" ⟨[a],[(pq (Str.ofString "start") v)]⟩=pure ():=by kernel_rfl
theorem Jc(a v:Value):checkBuiltinCall "enumerate.__new__" ⟨[.type "enumerate",a],[(pq (Str.ofString "start") v)]⟩=pure ():=by kernel_rfl
theorem Dq(o a v:Value):argsOk "object.__init__" ⟨[o,a],[(pq (Str.ofString "start") v)]⟩:=by
 unfold argsOk
 rw[signature?_of (id := "object.__init__") (n:=['_','_','t','i','n','i','_','_']) (o:=['t','c','e','j','b','o']) (by kernel_rfl) PySem.F.owner_object]
 kernel_rfl
open AutoSeq1 (wpAny_loadPart')in
set_option maxHeartbeats 4000000 in
theorem Aq(l:Addr)(items:Array Value)(n:Nat)(e:Option Addr)(k:Array (Option Value))(t:Tok):
  Meets (Builtin.«enumerate.__new__» ⟨[.type "enumerate",.ref l],[(pq (Str.ofString "start") (.int 1 t))]⟩) (λ_ R s=>s.heap.get? l=some {cls:=.type "list",dict:=e,data:=.seq items n,slots:=k} /\
   R (.ok (.ret (.ref (s.heap.push {cls:=.type "list_iterator",data:=.fields #[.ref l,.int 0 0]}).objs.size)))
    {s with heap:=(s.heap.push {cls:=.type "list_iterator",data:=.fields #[.ref l,.int 0 0]}).push {cls:=.type "enumerate",data:=.fields #[.none,.bool false,.ref s.heap.objs.size,rawInt 1,.none,.none]}}):=
 .of_wp λf w A R s h=>by
  obtain⟨o,g,d,j,m⟩:=s;obtain⟨a,h⟩:=h;have i:=sub_enumerate;have b:Heap.IsList (Shared.heap (o,g,d,j,m)) l items:=(_,a,7,n,7)
  wp_walk using wpAny_loadPart' a
  refine wpAny_stack_any λp=>wpAny_pure ?_;split
  ·rename_i c _ _ _ _ _
   cases (c==Value.type "enumerate")
   ·wp_walk using wpAny_loadPart' a,wpAny_pyIter_list b
    exact(5,h)
   ·wp_walk using wpAny_loadPart' a,wpAny_pyIter_list b
    exact(5,h)
  ·wp_walk using wpAny_loadPart' a,wpAny_pyIter_list b
   exact(5,h)
theorem Fe{l:Addr}{items:Array Value}{t:Tok}{Q:Value->Shared->Prop}(r:s.heap.IsList l items)
  (h:∀g,IsEnum g (s.heap.objs.size+1) s.heap.objs.size 1 .none->g.IsListIter s.heap.objs.size l 0->(∀b o,s.heap.get? b=some o->g.get? b=some o)->Q (.ref (s.heap.objs.size+1)) {s with heap:=g}):
  wpAny (model prog w) A (call (.type "enumerate") [.ref l] [(pq (Str.ofString "start") (.int 1 t))]) Q E s:=by
 obtain⟨⟨c,i,u,m⟩,p,f,n,hd⟩:=r
 replace f:c=.type "list":=f
 replace hd:u=.seq items n:=hd
 subst f hd
 have j:(s.heap.push {cls:=.type "list_iterator",data:=.fields #[.ref l,.int 0 0]}).objs.size=s.heap.objs.size+1:=Heap.size_push ..
 refine Bf (Q1:=λa d=>d.TypeIs a "enumerate" /\ Q a d) PySem.F.called_enumerate (DP _ _) (Jc _ _) PySem.F.entry_enumerate_new PySem.F.entry_object_init (Aq l items n i m t) (p,3) λa d e=>
  (e.1,Dq _ _ _,_,Ao PySem.F.called_enumerate.init.lookup PySem.F.called_enumerate.made ∅,e.1,7,e.2)
 show _/\_;rw[j]
 have k:IsEnum ((s.heap.push {cls:=.type "list_iterator",data:=.fields #[.ref l,.int 0 0]}).push {cls:=.type "enumerate",data:=.fields #[.none,.bool false,.ref s.heap.objs.size,rawInt 1,.none,.none]}) (s.heap.objs.size+1) s.heap.objs.size 1 .none:=by
  have:=Heap.get?_push_size (s.heap.push {cls:=.type "list_iterator",data:=.fields #[.ref l,.int 0 0]}) (o:={cls:=.type "enumerate",data:=.fields #[.none,.bool false,.ref s.heap.objs.size,rawInt 1,.none,.none]}) rfl
  rw[j]at this;exact this
 exact((_,k,7),h _ k (_,Heap.get?_push_of_some _ (Heap.get?_push_size _ rfl),7,7) λb o q=>Heap.get?_push_of_some _ (Heap.get?_push_of_some _ q))
theorem NP{prog:Program}{w:World}{A:Around}(d:A.handled=none)(c l:Addr)(b:l≠c)(items:Array Value):
  Draws prog w A c [c,l] (items.size+1) (λi v=>∃j,i=j+1/\items[j]?=some v) (λi h=>∃j,i=j+1/\h.IsListIter c l j/\h.IsList l items) where
 live:=λ_ _ a=>by
  obtain⟨j,_,a⟩:=a;exact(Draws.list (prog:=prog) (w:=w) d c l b items).live j _ a
 frame:=λ_ _ _ a k=>by
  obtain⟨j,e,a⟩:=a;exact(j,e,(Draws.list (prog:=prog) (w:=w) d c l b items).frame j _ _ a k)
 item:=λi s Q E n a f=>by
  obtain⟨j,rfl,a⟩:=a;exact(Draws.list (prog:=prog) (w:=w) d c l b items).item j s Q E ⋯ a λx g t p q r=>f x g t (j,7,p) (j+1,7,q) r
 done:=λs Q E a m=>by
  obtain⟨j,e,a⟩:=a;have:j=items.size:=by lia
  subst this;exact(Draws.list (prog:=prog) (w:=w) d c l b items).done s Q E a m
def Wv(K:PySem.W.Frag)(a:Addr):It:=
  (λi H=>∃b x,Tg K H a b/\b[i]?=some x,λi H x c=>∃p y,H p=none/\x=.ref p/\c=upd H p (.tup [.int ((i+1:Nat):Int),y]) /\ ∀b,Tg K H a b->b[i]?=some y,
   λi H=>∃b,Tg K H a b/\b.length<=i)
theorem uD{prog:Program}{w:World}{A:Around}{E:Value->Shared->Prop}{s:Shared}{e l:Addr}{i:Nat}{k:Int}{items:Array Value}{Q:Option Value->Shared->Prop}(p:A.handled=none)
  (f:IsEnum s.heap e a k q)(d:s.heap.IsListIter a l i)(n:s.heap.IsList l items)(j:items[i]?=none)(u:∀g,Heap.ExtBut a s.heap g->Q none {s with heap:=g}):wpAny (model prog w) A (pyNext (.ref e)) Q E s:=by
 have h:s.TypeIs (.ref e) "enumerate":=(_,f,7)
 unfold pyNext
 refine wpAny_bind (wpAny_attempt (wpAny_callSpecial?_slot (name:=Str.ofString "__next__") h PySem.F.slot_enumerate_next
  (wpAny_call_entry PySem.F.slot_enumerate_next h PySem.F.entry_enumerate_next ?_ (PySem.F.args_enumerate_next_1 _))))
 show wpAny _ _ (field (.ref e) 2 >>= _) _ _ _;refine wpAny_bind (wpAny_field f rfl (x:=.ref a) rfl ?_);refine wpAny_bind (wpAny_nextOf_list_end p d n j λg x r c=>?_);obtain⟨o,m,t⟩:=c
 refine wpAny_bind (wpAny_isInstance (T := "StopIteration") (b:=true) (o,m,t) isSubtype_stop ?_)
 exact wpAny_pure (u _ r)
theorem rK{a b:Addr}{o u:Obj}(d:h'.get? a=some o)(c:h'.get? b=some u)(e:o.cls≠u.cls):a≠b:=by
 rintro rfl;rw[d]at c;cases c;exact e rfl
theorem Ek{w:World}(a e g:Addr)(G:e≠g):
  Turn prog w K (.Tuple y n p) (Wv K a) [e,g] e (λi h=>(∃f,IsEnum h e g ((i+1:Nat):Int) f)/\h.IsListIter g a i) where
 mem:=by simp
 obj:=λi h d b r=>by
  obtain⟨⟨f,l⟩,o,ho,Q,hd⟩:=d;rcases aaO.mp r with rfl|r
  ·exact(_,l,λv z=>by cases z)
  ·rw[aat.mp r];exact(o,ho,λv z=>by rw[hd]at z;cases z)
 keep:=λi h h' d k=>by
  obtain⟨⟨f,l⟩,d⟩:=d;exact((f,k e (by simp) _ l),d.at λo q=>k g (by simp) o q)
 item:=by
  intro X M V Z Q i π s σ H E I L d Y;subst M V Z;obtain⟨xs,x,O,U⟩:=Y;obtain⟨t,T,c,hz⟩:=I.list O;obtain⟨u,hu,ru⟩:=T.get U;obtain⟨⟨f,l⟩,d⟩:=d;obtain⟨oi,C,Ww,_⟩:=id d;obtain⟨ol,B,D,_⟩:=id c.isList;have N:a≠g:=rK B C (by rw[D,Ww];decide)
  have a1:e≠a:=rK l B (by rw[D];show Value.type "enumerate" ≠ Value.type "list";decide)
  have a4:i<t.length:=(aab.mp hu).1;refine wpAny_pyNext_enum_itemD (NP (A:=X.A.in1) (I.ok.hd Q) g a N t.toArray) l (i,7,d,c.isList) (by simpa using a4) G (by simp[G,a1]) λJ h1 S M a6 m a3 b1 a5=>?_;obtain⟨j,hj,a2⟩:=M;have ej:j=i:=by lia
  subst ej;have eu:J=u:=by
   have:t[j]?=some J:=by simpa using a2
   rw[hu]at this;exact(aao this).symm
  subst eu;obtain⟨j',b2,m,_⟩:=m;have b0:j'=j+1:=by lia
  subst b0;refine(5,wpAny_letOwnedTupleGo_enum a6 λR a7 F=>?_);have ee:e<s.heap.objs.size:=Heap.lt_size l
  have g2:R.get? s.heap.objs.size=some {cls:=.type "tuple",data:=.seq #[.int ((j+1:Nat):Int) S,J]}:=(F.2 _ (agr ee)).trans a3
  have kk:∀b o,b≠e->b≠g->s.heap.get? b=some o->R.get? b=some o:=λb o h3 h4 q=>(F.2 b h3).trans (a5 b o h3 h4 q);have a0:bJ X.prog X.w (upd H s.heap.objs.size (.tup [.int ((j+1:Nat):Int),x])) R s.heap.objs.size (.tup [.int ((j+1:Nat):Int),x]):=
   ((by show 2<=sizeLine;decide),[.int ((j+1:Nat):Int) S,J],.cons (_,7) (.cons ru .nil),_,g2,7,5)
  have I2:=I.turn2 (h':=R) (t':=S+1) (L e (by simp)) (L g (by simp)) kk (aac _) a0;have hn:H s.heap.objs.size=none:=I.hok.fresh (aac _);refine(.ref s.heap.objs.size,_,I2,7,(_,x,hn,7,7,λys hy=>by rw[I.list_inj hy O];exact U),((J,by simpa using a7),m.extBut F.extBut (af3 G)),λb r=>?_);have a9:=(L b r).1;have a8:b≠s.heap.objs.size:=by
   rcases aaO.mp r with rfl|r
   ·exact aap ee
   ·rw[aat.mp r];exact aap (Heap.lt_size C)
  rw[aH a8];exact a9
 done:=by
  intro X M V Z Q i π s σ H E I L d Y;subst M V Z;obtain⟨xs,O,U⟩:=Y;obtain⟨t,T,c,hz⟩:=I.list O;obtain⟨f0,f1,f2,f3,f4,f5⟩:=L g (by simp);obtain⟨⟨f,l⟩,d⟩:=d;have hl:=T.length;obtain⟨oi,C,Ww,_⟩:=id d;obtain⟨ol,B,D,_⟩:=id c.isList;have N:a≠g:=rK B C (by rw[D,Ww];decide);refine uD (I.ok.hd Q) l d c.isList (by simp;lia) λh' eb=>(7,I.turned (t':=s.toks) (λb o r e=>eb b o r e) f0 f1 f3 f4 f5)
 self:=λ_ _ _ _ _ d h=>by
  obtain⟨⟨f,l⟩,_⟩:=d;exact wpAny_pyIter_enum l h
section
variable{M:Model}{env:Env}
theorem v5{pos:Pos}{T:String}{e:Expr}{b:List Keyword}{Q:Value->Shared->Prop}
  (h:wpAny M A (spliced (backTo pos (starEach (e::y) env))) (λj d=>wpAny M A (evalAll ((backToKw pos (keywordEach b env)).map (·.2)))
   (λi g=>wpAny M A (call (.type T) j (((backToKw pos (keywordEach b env)).filterMap (·.1)).zip i)) Q E g) E d) E s)
  (m:backTo pos (starEach (e::y) env)=(pq false (eval e env))::backTo pos (starEach y env):=by rfl)(l:(backTo pos (starEach (e::y) env)).any (·.1)=false:=by rfl)
  (c:(backToKw pos (keywordEach b env)).all (·.1.isSome)=true:=by rfl)(f:(backToKw pos (keywordEach b env)).any (·.1.isNone)=false:=by rfl):
  wpAny M A (callWith pos (.type T) [] (backTo pos (starEach (e::y) env)) (backToKw pos (keywordEach b env))) Q E s:=by
 unfold callWith;have n:wpAny M A (evalArgs (.type T) true (backTo pos (starEach (e::y) env)) (backToKw pos (keywordEach b env))) (λa d=>wpAny M A (call (.type T) ([]++a.pos) a.kw) Q E d) E s:=by
  rw[m]at h ⊢;exact PyProof.Rows.evalArgs_kwB c h
 refine wpAny_bind (wpAny_holding (Th n λa d o=>wpAny_bind (wpAny_standAt ?_)));simp only[l,f,ahV];refine wpAny_bind (wpAny_pure ?_);exact wpAny_bind (Th o λr g k=>wpAny_bind (wpAny_holding (wpAny_point (wpAny_pure k))))
end
inductive Mg(K:PySem.W.Frag)(R:It->Hp->Prop)(vs:List V)(d:V)(H2:Hp):Prop
 | mk (a xs:_) (_:d=.int 1) (_:vs=[.ref a]) (_:Tg K H2 a xs) (_:R (Wv K a) H2)
def Ii(K:PySem.W.Frag)(b:TE)(σ:St)(R:It->Hp->Prop):List V->Hp->Prop:=λa c=>b σ c (Mg K R a)
def PQ(K:PySem.W.Frag)(c:TA)(b:TE):TI:=λ a H R=>c a H (Ii K b a R)
theorem Az{a :Expr}{p pos :Pos}{k:Pos}(T:Gl X "enumerate")(Q:X.mg "enumerate" = none)(V:PA X [a] t)(hd:PE X e ta)
  (U:backTo pos (starEach [a] X.env)=(pq false (eval a X.env))::backTo pos (starEach [] X.env):=by rfl)(z:(backTo pos (starEach [a] X.env)).any (·.1)=false:=by rfl)
  (B:(backToKw pos (keywordEach [(some (Str.ofString "start"),e,apos)] X.env)).filterMap (·.1)=[Str.ofString "start"]:=by rfl)
  (l:(backToKw pos (keywordEach [(some (Str.ofString "start"),e,apos)] X.env)).all (·.1.isSome)=true:=by rfl)
  (A:(backToKw pos (keywordEach [(some (Str.ofString "start"),e,apos)] X.env)).any (·.1.isNone)=false:=by rfl):
  PI X (.Tuple y n k) (.Call (.Name "enumerate" p) [a] [(some (Str.ofString "start"),e,apos)] pos) (PQ X.K t ta):=by
 intro r s o H R I h;refine wpAny_Call_Name_kw (cZ I T Q boot_enumerate ?_);refine v5 (Th (V pos r s o H _ I h) λus D ⟨vs,Z,Y,J,M⟩=>?_) U z l A;show wpAny _ _ (evalAll ((do let v <-eval e X.env;standAt pos;pure v)::[])) _ _ D;refine wpAny_evalAll_cons (wpAny_bind (Th (hd r D o Z _ Y M) λdv f ⟨x,E,m,G,L⟩=>wpAny_bind (wpAny_standAt (wpAny_pure (wpAny_evalAll_nil ?_)))));obtain⟨b,xs,rfl,rfl,P,q⟩:=L;obtain⟨u,rfl,F⟩:=vals1 J;cases F;obtain⟨a0,rfl⟩:=G;rw[B];obtain⟨a1,rv,N,hz⟩:=m.list P;refine Fe N.isList λg j C S=>?_;refine wpAny_pyIter_enum j ?_;have W:Inv X r o E {f with heap:=g}:=m.kept (t':=f.toks) S;have O:f.heap.objs.size+1≠f.heap.objs.size:=by lia
 refine(f.heap.objs.size+1,[f.heap.objs.size+1,f.heap.objs.size],_,Wv X.K b,E,7,W,Ek b _ _ O,((_,j),C),λc w=>?_,q);have i:f.heap.objs.size<=c:=by
  rcases aaO.mp w with rfl|w
  ·lia
  ·rw[aat.mp w];lia
 exact m.fpOk i (m.hok.fresh i)
theorem yD{a:Addr}{xs:List V}{g:TG}{k:TS}{D:Ends}{σ:St}(b:Nat->St->Hp->Prop)(v:b 0 σ H)(t:∀i σ H,i<=xs.length->b i σ H->Tg K H a xs)
  (r:∀i x σ H p,xs[i]?=some x->b i σ H->H p=none->g (.ref p) σ (upd H p (.tup [.int ((i+1:Nat):Int),x])) λ d j=>k {D with nx:=b (i+1),ct:=b (i+1),bk:=D.nx} d j)(hd:∀σ H,b xs.length σ H->D.nx σ H):
  ∃W:Nat->Nat->St->Hp->Prop,(∃m,W 0 m σ H) /\ ∀i m σ H,W i m σ H ->
   ((Wv K a).stop i H/\D.nx σ H)\/((Wv K a).go i H /\ ∃N:St->Hp->Prop,(∀f H',N f H' -> ∃l,l<m/\W (i+1) l f H') /\ ∀x H',(Wv K a).U0 i H x H'->g x σ H' λ d j=>k {D with nx:=N,ct:=N,bk:=D.nx} d j):=by
 exists λi m σ H=>m=xs.length-i/\i<=xs.length/\b i σ H,(xs.length,by simp,aaF _,v);rintro i m σ H ⟨rfl,u,p⟩;have q:=t i σ H u p;by_cases h:i<xs.length
 ·refine .inr ((xs,xs[i],q,by simp[h]),b (i+1),λ f H' n=>(xs.length-(i+1),9,7,h,n),λx H' y=>?_);obtain⟨c,y,s,z,w,o⟩:=y;subst z w;exact r i y σ H c (o xs q) p s
 ·have e:i=xs.length:=by lia
  subst e;exact .inl ((xs,q,aac _),hd σ H p)
end L2
namespace Tw
theorem Hf{lo:Int}{n:Nat}{c:L2.St}{tt:TT}(f:Nat->Int)(l:n<sizeLine)
  (g:∀(z:Int) (H':Hp) (Q:Bool->Hp->Prop),Q true H'->tt (some (.int z)::c) H' Q)(k:∀(i:Nat) (H':Hp) (Q:VK),i<n->aP H H'->Q (.int (f i)) H'->ta (some (.int (lo+i))::c) H' Q)
  (q:∀a,H a=none->D a (upd H a (.lst (((ab5 n).map f).map V.int)))):jG (Vt lo n) c tt ta D H:=by
 intro a h;exists λi m d j=>m=n-i/\i<=n/\d=((ab5 i).map f).map V.int/\j=upd H a (.lst d),(5,aaF _,7,7);rintro i m d j ⟨rfl,o,rfl,rfl⟩;by_cases b:i<n
 ·refine .inr (b,λv p y=>?_);obtain⟨rfl,rfl⟩:=y;refine g _ _ _ ?_;rw[if_pos rfl];refine k i _ _ b (az h _) (aq,3,n-(i+1),9,7,b,3,3)
  ·rw[aaa,aaa,afE];lia
  ·rw[agd,aal,aal];rfl
  ·rw[nF]
 ·have e:i=n:=by lia
  subst e;exact .inl (aac _,q a h)
theorem QQ{a:Addr}{o:HO}(h:H a=some o):upd H a o=H:=funext λb=>by
 by_cases e:b=a
 ·rw[e,aq,h]
 ·rw[aH e]
theorem Ha{c A:Prop}[Decidable c]{D:Ends}{σ:St}(R:St->Hp->Prop)(b:¬c->R σ H)(h:∀a H',R a H'->D.nx a H')(d:c->(∀a H',R a H'->D.nx a H')->A):if c then A else Ls D σ H:=by
 by_cases q:c
 ·rw[if_pos q];exact d q h
 ·rw[if_neg q];exact h _ _ (b q)
theorem Hb{t:TA}{i:Nat}{k:Int}{xs:List V}{σ:St}{Q:VK}(ht:∀c:List V->Hp->Prop,c xs H->t σ H c)(e:σ[i]?=some (some (.int k)))(f:k<=100000)(d:xs.length<=2)(g : -100000<=k)
  (q:∀p H',H p=none->aP H H'->H' p=some (.lst (aaE k.toNat xs).flatten)->Q (.ref p) H'):W3 Rx (RL t) (Ot i) σ H Q:=by
 refine ht _ (by rw[sizeLine_eq];lia,λp b=>(_,e,p,k,xs,7,7,aq,9,9,3,λr a=>q r _ ((az b _).free a) ((az b _).trans (az a _)) aq));rw[sizeLine_eq];have:k.toNat<=100000:=by lia
 have:=aiW d this;lia
end Tw
namespace L2
open PySem.Spec PyProof.Rows PySem.W
end L2
namespace Tw
theorem uv{a U A:Prop}[Decidable a]{D:Ends}{σ:St}(N:D.nx σ H)(b:a->D.nx σ H->U):if a then U else (if false=true then A else Ls D σ H):=by
 by_cases q:a
 ·rw[if_pos q];exact b q N
 ·rw[if_neg q];exact dN N
end Tw
namespace L2
open PySem.Spec PyProof.Rows
theorem bJ.ex{w:World}{a:Addr}{o:HO}(x:bJ prog w H h' a o):∃b,h'.get? a=some b:=by
 induction o with
 |lst l=>obtain⟨z,k,n,r,e⟩:=x;exact(_,e)
 |tup l=>obtain⟨z,k,r,b,e,c⟩:=x;exact(_,e)
 |dK j=>obtain⟨z,y,q,r,b,g,i,e,c⟩:=x;exact(_,e)
 |dT j=>obtain⟨z,y,l,r,b,g,i,e,c⟩:=x;exact(_,e)
 |set S n=>obtain⟨b,g,i,t,e,c⟩:=x;exact(_,e)
 |ins C I m=>obtain⟨d,z,B,e,_⟩:=x;exact(_,e)
 |own y=>exact x
 |xd m=>obtain⟨D,⟨A,g,i,e,c⟩,r⟩:=x;exact(_,e)
 |Xw E G=>obtain⟨t,u,v,e⟩:=x;exact(_,e)
 |Ul b u F=>exact(_,x.1)
 |Tv s=>exact(_,x)
 |met f y=>exact(_,x)
 |ext p=>exact x.2.1
structure U3(B:Heap)(fs:List Addr)(H H':Hp)(h:Heap):Prop where
 old:∀b o,h.get? b=some o->b∉fs -> ∃o',B.get? b=some o'/\(H b=none->o'=o)
 VH:∀b u,H' b=some u -> ∃o,B.get? b=some o
def VN(P:Program)(w:World):Ut:=λa H s E e b=>∃(d C t:Addr) (B:Heap) (c:Hp),e=.ref d/\b.os=s.os/\AllBare b.gens/\Un (frs a) [] H c s.heap b.heap/\TJ P w c b.heap /\
  Heap.FlyingW B a d (.ref C) (.ref t) b.heap/\U3 B (frs a) H c s.heap/\E (.ref C) none c
section
variable{P:Program}{cd:Value}{s0:Shared}{H0:Hp}{E:XK}
abbrev X1(P:Program)(w:World)(K:PySem.W.Frag)(mg:Str->Option Value)(base:Heap)(N:List Str)(qual:Str)(scope:Scope)(f:Addr)(cd:Value)(A:Around)(outer:List Env)(s0:Shared)(H0:Hp)(E:XK):Cx:=
 ik (VN P w) P w K mg base N qual scope f cd A outer s0 H0 E
theorem young{b:Addr}{o:Obj}(q:s0.heap.get? b=some o)(c:b∉frs outer):b∉frs (envOfC qual scope s0.heap.objs.size f cd::outer):=λz=>by
 have a:b∈s0.heap.objs.size::frs outer:=z;rcases aaO.mp a with e|e
 ·exact absurd (Heap.lt_size q) (by rw[e];exact afL _)
 ·exact c e
theorem raised{σ:St}{s:Shared}{C:Addr}(I:Inv (X1 P w K mg base N qual scope f cd A outer s0 H0 E) π σ H s)(m:Heap.MadeExcOf s.heap h' a (.ref C) r)(q:E (.ref C) none H):
  (X1 P w K mg base N qual scope f cd A outer s0 H0 E).xe (.ref a) {s with heap:=h'}:=by
 have M:s.heap.FunFrames base (envOfC qual scope s0.heap.objs.size f cd::outer):=I.stack;have G:∀l∈(envOfC qual scope s0.heap.objs.size f cd::outer),∀b,l.frame=some b->b∈frs (envOfC qual scope s0.heap.objs.size f cd::outer):=λl R b g=>ahK.mpr (l,R,g);have U:Un (frs outer) [] H0 H s0.heap s.heap:=I.base;have j:∀b u,H b=some u->b∉frs (envOfC qual scope s0.heap.objs.size f cd::outer):=λb u e z=>by
  have:=I.stkFree b z;rw[this]at e;cases e
 have i:∀b o,s.heap.get? b=some o->b∉frs (envOfC qual scope s0.heap.objs.size f cd::outer)->(PySem.W.hideAll s.heap (frs (envOfC qual scope s0.heap.objs.size f cd::outer))).get? b=some o:=λb o e n=>PySem.W.hideAll_get _ e n;show wpAny _ _ (leaving _ _) _ _ _;refine wpAny_leaves_madeW (base:=PySem.W.hideAll s.heap (frs (envOfC qual scope s0.heap.objs.size f cd::outer))) I.ok.frames rfl (λb o e=>PySem.W.of_hideAll _ e) (PySem.W.funFrames_hide M G) m λS t J V T O=>?_;have k:=J.1;have L:∀b o,s.heap.get? b=some o->b∈frs outer -> ∃y,S.get? b=some {o with slots:=y}:=λb o e g=>by
  obtain⟨_,X,x,Q⟩:=M.mem (b:=b) (aaR _ g);rw[e]at x;cases x;exact O b o (m.keeps _ _ e) Q
 refine(a,C,t,_,H,7,I.os,I.bare,(λb o e n g v=>?_,λb o e n g v=>?_,U.free,λb o e v=>?_,U.tups,U.frzs,U.tbls),λb u e=>?_,J,(λb o e g=>?_,λb u e=>?_),q)
 ·exact k b o (i b o (U.keep b o e n g v) (young e g))
 ·obtain⟨y,h⟩:=U.slot b o e n g v;obtain⟨F,D⟩:=L b _ h g;exact(F,D)
 ·obtain⟨p,h⟩:=U.there b o e v;by_cases g:b∈frs outer
  ·obtain⟨y,D⟩:=L b _ h g;exact(_,D)
  ·exact(p,k b p (i b p h (young e g)))
 ·refine(I.hok b u e).stay (λc o B h=>k c o (i c o h ?_)) (λ_ d=>d) λ_ _ d=>d;rcases B with rfl|B
  ·exact j _ _ e
  ·exact j _ _ B
 ·obtain⟨p,h⟩:=U.there b o e (by simp);refine(p,i b p h (young e g),λn=>?_);have:=U.keep b o e n g (by simp);rw[h]at this;exact aao this
 ·obtain⟨o,h⟩:=(I.hok b u e).ex;exact(o,i b o h (j b u e))
theorem Lg:qD (VN P w) (X1 P w K mg base N qual scope f cd A outer s0 H0 E) E:=by
 intro π σ H s e S I h;obtain⟨ea,C,t,B,H',rfl,V,x,m,L,F,j,q⟩:=h;have U:Un (frs outer) [] H0 H s0.heap s.heap:=I.base;show wpAny _ _ (leaving _ _) _ _ _;refine wpAny_leaves_onW (base:=B) I.ok.frames rfl F λZ O R=>?_;have k:=O.1;have Q:∀b o,S.heap.get? b=some o->b∈frs outer -> ∃y,Z.get? b=some {o with slots:=y}:=λb o e d=>by
  obtain⟨_,p,v,W⟩:=F.2.2.1.mem (b:=b) (aaR _ d);rw[e]at v;cases v;exact R b o e W
 refine(ea,C,t,B,H',7,V.trans I.os,x,(λb o e n d g=>?_,λb o e n d g=>?_,λb o e n g=>?_,λb o e g=>?_,λb M e=>m.tups b M (U.tups b M e),λb o u e=>m.frzs b o u (U.frzs b o u e),λb T e=>?_),λb u e=>?_,O,(λb o e d=>?_,j.VH),q)
 ·obtain⟨p,a,z⟩:=j.old b o (U.keep b o e n d g) (young e d);rw[z (U.free b o e n g)]at a;exact k b o a
 ·obtain⟨y,i⟩:=U.slot b o e n d g;obtain⟨a0,a⟩:=m.slot b _ i (U.free b o e n g) (aaR _ d) g;obtain⟨J,G⟩:=Q b _ a d;exact(J,G)
 ·obtain⟨l,i⟩:=U.there b o e g;exact m.free b l i (U.free b o e n g) g
 ·obtain⟨l,i⟩:=U.there b o e g;by_cases d:b∈frs outer
  ·obtain⟨o2,a⟩:=m.there b l i g;obtain⟨y,G⟩:=Q b _ a d;exact(_,G)
  ·obtain⟨p,a,_⟩:=j.old b l i (young e d);exact(p,k b p a)
 ·obtain⟨Y,i⟩:=U.tbls b T e;obtain⟨X,a⟩:=m.tbls b _ i;exact(Y++X,by rw[a,aio])
 ·refine(L b u e).stay (λc o D i=>?_) (λ_ r=>r) λ_ _ r=>r;have ht:∃o,B.get? c=some o:=by
   rcases D with rfl|D
   ·exact j.VH _ _ e
   ·exact j.VH _ _ D
  obtain⟨l,a⟩:=ht;have:=F.1 c l a;rw[i]at this;cases this;exact k c o a
 ·obtain⟨l,i⟩:=U.there b o e (by simp);obtain⟨p,a,z⟩:=j.old b l i (young e d);refine(p,a,λn=>?_);have:=U.keep b o e n d (by simp);rw[i]at this;rw[z (U.free b o e n (by simp))];exact aao this
end
section
variable{P:Program}
theorem Uh.ok1{x :Str}{st:Stmt}{f:Addr}{fd:FuncData}{N ps:List Str}{k:Nat}(F:Uh K x qual st f fd)(S:aC N ps (δ st))(e:∀c H Q E,sp c H Q E->c.length=ps.length)
  (d:∀(b:Value) (A:Around) (a:List Env) (s:Shared) (H:Hp) (c:List V) (Q:VK) (E:XK),eF k (A.deeper (envOfC qual (δ st) s.heap.objs.size f b))->sp c H Q E ->
   ∃t,Um (X1 P w K mg base N qual (δ st) f b A a s H E) (μ st) t/\t {nx:=λ_ H'=>Q .non H',rt:=Q} (start N c) H):aV P w K mg base (VN P w) (k+1) f fd ps sp:=by
 obtain⟨p,o,kV,m,n,r,b,q,l,rfl,i,h⟩:=F.ex;exact Pb i h S e λA a s H c Q E j g=>d b A a s H c Q E j g
end
abbrev XM:List Value:=[.type "ValueError",.type "Exception",.type "BaseException",.type "object"]
structure Exc(K:PySem.W.Frag)(mg:Str->Option Value)(x:Str)(C:Addr):Prop where
 m:mg x=some (.ref C)
 q:PySem.W.excIn K C XM "ValueError.__new__" = true
theorem Ob{C:Addr}(X:K.In h')(q:PySem.W.excIn K C XM "ValueError.__new__" = true):
  ∃bm N nm d bs hdct sn sub ab col dd k0 k1 k2 k3 k5 mN,h'.get? C=some (excClassObj nm d C N bs bm hdct sn sub ab col dd k0 k1 k2 k3 k5 "ValueError.__new__")/\h'.Ns N mN/\mN "__init__" = none/\OwnTail h' XM bm:=by
 unfold PySem.W.excIn at q;split at q
 ·rename_i dd m f k;split at q
  ·rename_i r bm k0 k1 k2 k3 n k5 i g;simp only[ahd,beq_iff_eq,aht]at q;obtain⟨⟨⟨⟨⟨rfl,rfl⟩,a⟩,ht⟩,b⟩,c⟩:=q;obtain⟨nm,bs,o,j,d,hd,sn,sub,ab,col,p⟩:=m;dsimp only at i a b c;subst i a
   have e:f=#[k0,k1,k2,k3,some (.builtin "ValueError.__new__"),k5]:=by
    obtain⟨l⟩:=f;simp only at g;rw[g]
   subst e;exact(bm,j,nm,d,bs,hd,sn,sub,ab,col,dd,k0,k1,k2,k3,k5,_,X _ _ k,.of_isNs (PySem.W.isNs_of_in X b),PySem.W.nsMap_none_of_in X b c,PySem.W.tail_of_in X ht)
  ·cases q
 ·cases q
section
variable{P:Program}{cd:Value}{s0:Shared}{H0:Hp}{E:XK}
def Jo(C:Addr)(E:XK):List V->Hp->Prop:=λa b=>a.length<=sizeLine/\E (.ref C) none b
def Qc(C:Addr)(E:XK)(b:TA):TS:=λ_ a H=>b a H (Jo C E)
theorem Kg{x:Str}{C:Addr}{a:Expr}{pos:Pos}(e:Exc K mg x C)(R:Gl (X1 P w K mg base N qual scope f cd A outer s0 H0 E) x)(S:PA (X1 P w K mg base N qual scope f cd A outer s0 H0 E) [a] t)
  (i:(x==("__debug__" : Str))=false:=by decide)
  (k:starEach [a] (X1 P w K mg base N qual scope f cd A outer s0 H0 E).env=[(pq false (eval a (X1 P w K mg base N qual scope f cd A outer s0 H0 E).env))]:=by rfl):
  PS (X1 P w K mg base N qual scope f cd A outer s0 H0 E) (.Raise (some (.Call (.Name x p) [a] [] apos)) none pos) (Qc C E t):=by
 intro o s n H D I h;obtain⟨Y,N',B,v,X,b,r,d,Z,j,W,Q,O,M,L,J,G,V,U,g,T⟩:=Ob I.mod.WT e.q;refine wpAny_Raise_call_subU (C:=C) (nm:=B) (q:=v) (N:=N') (bs:=X) (bm:=Y) (hdct:=b) (sn:=r) (sub:=d) (ab:=Z) (col:=j) (dd:=W) (k0:=Q) (k1:=O) (k2:=M) (k3:=L) (k5:=J)
  PySem.F.excBase_ValueError PySem.F.excBase_ValueError.hasB PySem.F.excBase_ValueError (mN:=G) (T.hasType PySem.F.excBase_ValueError.hasBase) (I.ok.hd rfl) (by rw[k];rfl) g (zP I R e.m (7,3) i)
 have l:=S apos o s n H _ I h;rw[k]at l ⊢;refine Calls.evalArgs_plain (Th l λus s2 ⟨vs,H2,c,u,z,y⟩=>(7,3,c.bk _ _ V,U.keeps c.bk,T.keeps c.bk,λh' ea m=>raised c m y));rw[<-u.length];exact z
end
structure Sw(K:PySem.W.Frag)(C:Addr):Prop where
 dct:PySem.W.hasDictIn K C=true
 ga:PySem.W.findIn K (.ref C) "__getattribute__" = some (some (.builtin "BaseException.__getattribute__"))
 nga:PySem.W.findIn K (.ref C) "__getattr__" = some none
 cl:PySem.W.findIn K (.ref C) "__class__" = some (some (.builtin "object.__class__"))
 gt:PySem.W.specialIn K (.builtin "object.__class__") "__get__" = some (some (.builtin "getset_descriptor.__get__"))
 tk:PySem.W.takesIn K (.builtin "object.__class__")=some true
 mo:PySem.W.mroIn K C (.type "object")=some true
 mb:PySem.W.mroIn K C (.type "BaseException")=some true
section
variable{ea:Addr}
end
section
variable{x:Addr}
end
open PySem.W Builtin Builtin.ObjectAttr Builtin.Getset_descriptor
section
variable{x:Addr}
variable{R:Result->Shared->Prop}
end
theorem Pr{w:World}{X:Cx}:qD (VN prog w) X (λ_ _ _=>False):=λ_ _ _ _ _ _ _ h=>by
 obtain⟨_,_,_,_,_,_,_,_,_,_,_,_,z⟩:=h;exact z.elim
section
variable{pins':List (Addr×Obj)}{E:XK}
end
inductive JK(r':R2)(r'':R2)(tc:TE)(td:TE)(σ:St)(Q:VK)(y:V)(z:V)(H3:Hp):Prop
 |mk (k:_) (_:z=.bl k) (_:(if k=true then tc σ H3 λw' H4=>r' y w' H4 λz2 H5=>∃k2,z2=.bl k2/\(if k2=true then td σ H5 λw2 H6=>r'' w' w2 H6 Q else Q (.bl false) H5)else Q (.bl false) H3))
def Eb(r:R2)(d:R2)(a:R2)(c:TE)(b:TE)(σ:St)(Q:VK)(x:V):VK:=λy e=>r x y e (JK d a c b σ Q y)
def DW(r:R2)(e:R2)(a:R2)(d:TE)(c:TE)(b:TE)(σ:St)(Q:VK):VK:=λx f=>d σ f (Eb r e a c b σ Q x)
def NQ(r g a:R2)(f e d c:TE):TE:=λ b H Q=>f b H (DW r g a e d c b Q)
theorem HW{X:Cx}{a b c :Expr}{B:TE}{pos:Pos}{p l g:CmpOp}{r E m:R2}(ho:TY X (compareOp p) r)(t:TY X (compareOp l) E)(n:TY X (compareOp g) m)(ha:PE X a ta)(hb:PE X b tb)(hc:PE X c te)(hd:PE X e B)
  (hm:lastMarks [p,l,g] [b,c,e]=false:=by with_unfolding_all rfl):PT X (.Compare a [p,l,g] [b,c,e] pos) (Lw (NQ r E m ta tb te B)):=by
 intro j s i H Q I h;refine isTrue_chain (Th (ha j s i H _ I h) λv V ⟨x,H1,I1,r1,q1⟩=>test_link (Th (hb j V i H1 _ I1 q1) λu U ⟨y,H2,I2,D,q2⟩=>
  Th (ho j U i H2 x y v u _ I2 r1 D q2) λe T ⟨z,M,K,r3,k,f,G⟩=>?_)) hm
 subst f;cases r3;refine wpAny_truthy_bool ?_;cases k with
 |false=>
  obtain⟨k',q,o⟩:=G;cases q;exact ite_ff (M,K,o)
 |true=>
  refine ite_tt (test_link (Th (hc j T i M _ K G) λA S ⟨w,H4,I4,C,q4⟩=>Th (t j S i H4 y w u A _ I4 D C q4) λd' R ⟨z2,L,J,Z,k2,e2,F⟩=>?_));subst e2;cases Z;refine wpAny_truthy_bool ?_;cases k2 with
  |false=>
   obtain⟨k',q,o⟩:=F;cases q;exact ite_ff (L,J,o)
  |true=>
   refine ite_tt (test_last (Th (hd j R i L _ J F) λO P ⟨N,H6,I6,Y,q6⟩=>Th (n j P i H6 w N A O _ I6 C Y q6) λd2 s7 ⟨z4,H7,I7,W,k3,e3,q7⟩=>?_));subst e3;cases W;exact wpAny_truthy_bool (H7,I7,q7)
def aN(a:Addr)(o:Obj):HO:=.ext λh=>h.get? a=some o
theorem fH{w:World}{a:Addr}{o:Obj}(e:h'.get? a=some o):bJ prog w H h' a (aN a o):=(e,(o,e),λ_ _ p k=>k o p)
theorem cV{w:World}{a:Addr}{o:Obj}(b:TJ prog w H h')(e:H a=some (aN a o)):h'.get? a=some o:=(b a _ e).1
def hide(H:Hp)(cs:List Addr):Hp:=λb=>if b∈cs then none else H b
def over(H:Hp)(cs:List Addr)(H':Hp):Hp:=λb=>if b∈cs then H b else H' b
theorem m9{cs:List Addr}{b:Addr}(h:b∈cs):hide H cs b=none:=if_pos h
theorem bx{cs:List Addr}{b:Addr}(h:b∉cs):hide H cs b=H b:=if_neg h
theorem uo{H':Hp}{cs:List Addr}{b:Addr}(h:b∈cs):over H cs H' b=H b:=if_pos h
theorem dX{H':Hp}{cs:List Addr}{b:Addr}(h:b∉cs):over H cs H' b=H' b:=if_neg h
theorem nD(H:Hp)(cs:List Addr):over H cs (hide H cs)=H:=by
 funext b;by_cases h:b∈cs
 ·rw[uo h]
 ·rw[dX h,bx h]
theorem vq{H':Hp}{cs:List Addr}{a:Addr}{o:HO}(h:a∉cs):over H cs (upd H' a o)=upd (over H cs H') a o:=by
 funext b;by_cases c:b∈cs
 ·have:b≠a:=λe=>h (e ▸ c);rw[uo c,aH this,uo c]
 ·rw[dX c];by_cases e:b=a
  ·subst e;rw[aq,aq]
  ·rw[aH e,aH e,dX c]
section
variable{P:Program}{cs:List Addr}
theorem Gp(f:TJ P w H h)(g:∀a∈cs,∃o,H a=some (aN a o)):TJ P w (hide H cs) h:=λb u e=>by
 have i:b∉cs:=λz=>by rw[m9 z]at e;cases e
 rw[bx i]at e;refine(f b u e).stay (λ_ _ _ q=>q) (λc q=>?_) λc j q=>?_
 ·rw[bx]
  ·exact q
  ·intro z;obtain⟨o,d⟩:=g c z;rw[q]at d;cases d
 ·rw[bx]
  ·exact q
  ·intro z;obtain⟨o,d⟩:=g c z;rw[q]at d;cases d
theorem Gw(s:TJ P w H h)(m:TJ P w H' h')(p:∀a∈cs,∃o,H a=some (aN a o))(y:∀b∈g,H b=none)(u:Un g [] (hide H cs) H' h h'):
  TJ P w (over H cs H') h'/\Un g [] H (over H cs H') h h':=by
 have l:∀a∈cs,∃o,H a=some (aN a o)/\h.get? a=some o:=λa r=>by
  obtain⟨o,e⟩:=p a r;exact(o,e,cV s e)
 have k:∀a∈cs,H' a=none:=λa r=>by
  obtain⟨o,_,e⟩:=l a r;exact u.free a o e (m9 r) (by simp)
 have j:∀b,H b=none->b∉cs:=λb n z=>by
  obtain⟨o,e,_⟩:=l b z;rw[n]at e;cases e
 refine(λb v e=>?_,λb o e n d f=>?_,λb o e n d f=>?_,λb o e n f=>?_,λb o e f=>u.there b o e f,λb t e=>?_,λb o v e=>?_,λb x e=>?_)
 ·by_cases d:b∈cs
  ·obtain⟨o,i,A⟩:=l b d;rw[uo d,i]at e;cases e;exact fH (u.keep b o A (m9 d) (λz=>by rw[y b z]at i;cases i) (by simp))
  ·rw[dX d]at e;refine(m b v e).stay (λ_ _ _ q=>q) (λc q=>?_) λc t q=>?_
   ·rw[dX]
    ·exact q
    ·intro z;rw[k c z]at q;cases q
   ·rw[dX]
    ·exact q
    ·intro z;rw[k c z]at q;cases q
 ·exact u.keep b o e (by rw[bx (j b n)];exact n) d f
 ·exact u.slot b o e (by rw[bx (j b n)];exact n) d f
 ·rw[dX (j b n)];exact u.free b o e (by rw[bx (j b n)];exact n) f
 ·have d:b∉cs:=λz=>by
   obtain⟨o,i⟩:=p b z;rw[e]at i;cases i
  rw[dX d];exact u.tups b t (by rw[bx d];exact e)
 ·have d:b∉cs:=λz=>by
   obtain⟨o,i⟩:=p b z;rw[e]at i;cases i
  rw[dX d];exact u.frzs b o v (by rw[bx d];exact e)
 ·have d:b∉cs:=λz=>by
   obtain⟨o,i⟩:=p b z;rw[e]at i;cases i
  rw[dX d];exact u.tbls b x (by rw[bx d];exact e)
end
structure vX where
 name:Str
 qual:Str
 params:Arguments
 body:List Stmt
 scope:Scope
 ps:List Str
 xs:List Str
structure je(H:Hp)(f:Addr)(c:vX)(cs:List Addr)(Tr:List V):Prop where
 ex:∃(cd:Addr) (doc pm ctv:Value) (oc:Obj) (vs:Array Value) (t:Tok),H f=some (aN f (fnMade c.name c.qual c.params c.body c.scope (c.xs.zip cs) doc pm cd ctv))/\H cd=some (aN cd oc)/\oc.data=.fields vs/\vs[1]?=some (.str c.qual t)
 cells:∀(i:Nat) (a:Addr),cs[i]?=some a -> ∃(co:Obj) (v:V) (u:Value),Tr[i]?=some v/\H a=some (aN a co)/\co.data=.cell (some u)/\RelV v u
 nd:cs.Nodup
 len:cs.length=c.xs.length
 lenV:Tr.length=c.xs.length
theorem je.same{H':Hp}{f:Addr}{c:vX}{cs:List Addr}{Tr:List V}(h:je H f c cs Tr)(s:∀b o,H b=some (aN b o)->H' b=some (aN b o)):je H' f c cs Tr:=by
 obtain⟨⟨C,g,l,j,m,k,t,x,w,r,q⟩,p,n,d,lenV⟩:=h;refine((C,g,l,j,m,k,t,s _ _ x,s _ _ w,r,q),λi a e=>?_,n,d,lenV);obtain⟨B,v,u,A,z,y⟩:=p i a e;exact(B,v,u,A,s _ _ z,y)
structure uL(N:List Str)(c:vX):Prop where
 kind:c.scope.kind=.function
 co:c.scope.isCoroutine=false
 gen:c.scope.isGenerator=false
 ρ:∀x∈c.scope.names,x.2 ≠ .cell
 pre:N.take (c.ps.length+c.xs.length)=c.ps++c.xs
 nd:N.Nodup
 Vz:∀n∈c.ps,c.scope.names.lookup n=some .local
 fr:∀x∈c.scope.names,x.2=.free->x.1∈c.xs
 YH:∀n∈c.xs,c.scope.names.lookup n≠some .local
def sO(P:Program)(w:World)(K:PySem.W.Frag)(mg:Str->Option Value)(base:Heap)(N:List Str)(b:Str)(a:Scope)(f:Addr)(e:Value)(d:List (Str×Addr))(A:Around)(c:List Env)(s:Shared)(H:Hp):Cx where
 prog:=P
 w:=w
 K:=K
 mg:=mg
 base:=base
 A:=A.deeper (envX b a s.heap.objs.size f e d)
 N:=N
 s₀:=s
 H₀:=H
 env:=envX b a s.heap.objs.size f e d
 outer:=c
 stack:=envX b a s.heap.objs.size f e d::c
 ex:=[]
 calm:=true
 fn:=λ_=>false
 pn:=[]
 xe:=λ_ _=>False
theorem cP:∀{xs:List Str}{cs:List Addr}{x:Str}{c:Addr},(xs.zip cs).lookup x=some c -> ∃i:Nat,xs[i]?=some x/\cs[i]?=some c
 |[],_,_,_,h=>by simp at h
 |_::_,[],_,_,h=>by simp at h
 |y::xs,d::cs,x,c,h=>by
  rw[agW,ahw]at h;cases a:x==y with
  |true=>
   rw[a]at h;cases h;exact(0,by rw[eq_of_beq a];rfl,7)
  |false=>
   rw[a]at h;obtain⟨i,e,b⟩:=cP h;exact(i+1,e,b)
theorem yH:∀{xs:List Str}{cs:List Addr}{x:Str},cs.length=xs.length->x∈xs -> ∃c,(xs.zip cs).lookup x=some c
 |[],_,_,_,h=>by simp at h
 |_::_,[],_,l,_=>by simp at l
 |y::xs,d::cs,x,l,h=>by
  rw[agW,ahw];cases a:x==y with
  |true=>exact(d,7)
  |false=>
   rcases aaO.mp h with e|e
   ·rw[e]at a;simp at a
   ·exact yH (by simpa using l) e
theorem FZ:∀{xs:List Str}{cs:List Addr}{i:Nat}{x:Str}{c:Addr},xs.Nodup->xs[i]?=some x->cs[i]?=some c->(xs.zip cs).lookup x=some c
 |[],_,_,_,_,_,h,_=>by simp at h
 |_::_,[],_,_,_,_,_,h=>by simp at h
 |y::xs,d::cs,0,x,c,_,e,b=>by
  simp at e b;subst e b;simp
 |y::xs,d::cs,i+1,x,c,g,e,b=>by
  have a:xs[i]?=some x:=by simpa using e
  have f:(x==y)=false:=by
   cases j:x==y with
   |false=>rfl
   |true=>
    rw[eq_of_beq j]at a;exact absurd (aah a) (ags.mp g).1
  rw[agW,ahw,f];exact FZ (ags.mp g).2 a (by simpa using b)
theorem lookup_mem:∀{l:List (Str×Value)} {y:Str}{u:Value},(l.map (·.1)).Nodup->(pq y u)∈l->l.lookup y=some u
 |[],_,_,_,h=>by simp at h
 |(z,v)::l,y,u,a,h=>by
  rw[aaD]at a;rw[ahw];rcases aaO.mp h with e|e
  ·cases e;simp
  ·cases b:y==z with
   |true=>
    rw[eq_of_beq b]at e;exact absurd (aa3.mpr (_,e,7)) (ags.mp a).1
   |false=>exact lookup_mem (ags.mp a).2 e
theorem sS:∀(ps:List Str) (a:List Value),((ps.zip a).map (·.1)).Sublist ps
 |[],_=>by simp
 |_::_,[]=>by simp
 |p::ps,u::a=>by
  rw[agW,aaD];exact(sS ps a).cons₂ _
theorem G5{ps:List Str}{i:Nat}{y:Str}{u:Value}(a:ps.Nodup)(c:ps[i]?=some y)(b:r[i]?=some u):(ps.zip r).reverse.lookup y=some u:=by
 refine lookup_mem ?_ ?_
 ·rw[aiK];refine ag1.mpr (List.Pairwise.imp (λh=>af3 h) (show ((ps.zip r).map (·.1)).Nodup from a.sublist (sS ps r)))
 ·rw[ahe];exact aah (i:=i) (by rw[List.getElem?_zip_eq_some];exact(c,b))
section
variable{P:Program}{c:vX}{cs:List Addr}{Tr vs:List V}{us:List Value}{k:Nat}{Q:VK}{E:XK}
theorem Oe(S:uL N c)(hr:eF (k+1) A)(d:FW P w K mg base A outer s H)(ca:je H f c cs Tr)(hb:∀(cl:List (Str×Addr)) (F pm l G:Value),BindsTo s (fnX c.name c.qual c.params c.body c.scope cl .none .none F pm none l G) (us,[]) (c.ps.zip us))(r:Vals vs us)(hl:vs.length=c.ps.length)
  (Z:∀l:Addr,eF k (A.deeper (envX c.qual c.scope s.heap.objs.size f (.ref l) (c.xs.zip cs))) -> ∃t,Um (sO P w K mg base N c.qual c.scope f (.ref l) (c.xs.zip cs) A outer s (hide H cs)) c.body t/\t {nx:=λ_ H'=>Q .non (over H cs H'),rt:=λv H'=>Q v (over H cs H')} (start N (vs++Tr)) (hide H cs)):
  codeAny (model P w) A (.call (.ref f) (us,[])) (CR Ti outer P w H s Q E) s:=by
 obtain⟨⟨l,F,pm,G,oc,ws,tk,h1,h2,h3,h4⟩,hc,nd,a1,lenV⟩:=ca;have hx:∀a∈cs,∃o,H a=some (aN a o):=λa R=>by
  obtain⟨i,D⟩:=aaP R;obtain⟨X,v,u,_,e,_⟩:=hc i a D;exact(X,e)
 have a0:s.heap.NoLimit:=d.mod.nolimit.keeps λb o e=>(d.bs b o e).1;have Wt:c.ps.Nodup:=by
  have:c.ps.Sublist N:=by
   have h:(c.ps++c.xs).Sublist N:=by rw[<-S.pre];exact agM _ _
   exact(ahS _ _).trans h
  exact S.nd.sublist this
 have YJ:c.xs.Nodup:=by
  have:c.xs.Sublist N:=by
   have h:(c.ps++c.xs).Sublist N:=by rw[<-S.pre];exact agM _ _
   exact(ahP _ _).trans h
  exact S.nd.sublist this
 have a5:c.ps.length+c.xs.length<=N.length:=by
  have:=congrArg agx S.pre;rw[aaL,aaf]at this;lia
 refine codeAny_call_def (fd:=fnX c.name c.qual c.params c.body c.scope (c.xs.zip cs) .none .none F pm none (.ref l) G) (binds:=c.ps.zip us) hr.depth (cV d.hok h1) rfl a0 (l,oc,ws,tk,7,cV d.hok h2,h3,h4) rfl (hb _ _ _ _ _) S.ρ (λy m=>S.Vz _ (agZ m).1) (λh0 a2 hk=>?_) S.co S.gen S.kind;obtain⟨t,ht,hq⟩:=Z l (hr.deeper _);have C:=Gp d.hok hx;have I:Inv (sO P w K mg base N c.qual c.scope f (.ref l) (c.xs.zip cs) A outer s (hide H cs)) [] (start N (vs++Tr)) (hide H cs) {s with heap:=h0,toks:=s.toks+(c.ps.zip us).length}:=by
  refine((d.mod,S.kind,7,7,aac _,λy z b h g=>?_,λy m=>?_,λy b h _=>absurd h aar,λ_=>hr.hd,Around.frames_deeper d.frames,.inr (7,7),λb z=>absurd (show b∈([]:List Addr)from z) (by simp),λb o e=>((d.bs b o e).1,3),d.Ve,λb _ _ z=>absurd (show b∈([]:List Addr)from z) (by simp),λb z=>absurd (show b∈([]:List Addr)from z) (by simp),d.funs,λb a4=>?_),
   rfl,d.bare,Un.kept hk,(_,a2,λi y v h g h7=>?_),λy b h=>?_,C.fresh (aac _),λy b h=>?_,λp x=>absurd (show p∈([]:List (Addr×Obj))from x) (by simp),C.kept hk,3)
  ·obtain⟨i,i1,M⟩:=cP h;obtain⟨j,j1,j2⟩:=cP g;have:=(aix (aab.mp M).1 nd).mp (M.trans j2.symm);subst this;exact aao (i1.symm.trans j1)
  ·have m:c.scope.names.lookup y=some .cell\/c.scope.names.lookup y=some .free:=m;rcases m with m|m
   ·exact absurd rfl (S.ρ _ (PySem.mem_of_lookup m))
   ·exact yH a1 (S.fr _ (PySem.mem_of_lookup m) rfl)
  ·have n:=(d.bs b o e).2;show hide H cs b=none;rw[bx]
   ·exact n
   ·intro z;obtain⟨o',W⟩:=hx b z;rw[n]at W;cases W
  ·have n:=d.Vs b a4;show hide H cs b=none;rw[bx]
   ·exact n
   ·intro z;obtain⟨o',W⟩:=hx b z;rw[n]at W;cases W
  ·have D:i<(vs++Tr).length:=by
    unfold start at g;by_cases D:i<(vs++Tr).length
    ·exact D
    ·rw[aas (by simpa using D)]at g;rw[agz]at g;split at g<;>cases g
   have R:(vs++Tr)[i]?=some v:=by
    unfold start at g;rw[aaz (by simpa using D),aag]at g;cases e:(vs++Tr)[i]? with
    |none=>rw[e]at g;cases g
    |some a=>rw[e]at g;cases g;rfl
   rw[aaf]at D;have x:(c.ps++c.xs)[i]?=some y:=by
    rw[<-S.pre,af6 ⋯];exact h
   by_cases a3:i<vs.length
   ·rw[aaz a3]at R;rw[aaz ⋯]at x;obtain⟨u,hu,U⟩:=r.get R;exact(u,U,.inl (S.Vz y (aah x),G5 Wt x hu))
   ·rw[aas ⋯]at R;rw[aas ⋯,<-hl]at x;have hj:i-vs.length<cs.length:=by
     have:=(aab.mp x).1;lia
    obtain⟨b,W8⟩:∃b,cs[i-vs.length]?=some b:=(_,aad hj);obtain⟨X,v',u,q1,q2,q3,q4⟩:=hc _ b W8;rw[R]at q1;cases q1;have L:c.scope.names.lookup y=some .free:=by
     rcases h7 with q|q|q
     ·exact absurd q (S.YH y (aah x))
     ·exact absurd rfl (S.ρ _ (PySem.mem_of_lookup q))
     ·exact q
    exact(u,q4,.inr (.inr L,b,FZ YJ x W8,X,hk _ _ (cV d.hok q2),q3))
  ·obtain⟨i,i1,M⟩:=cP h;obtain⟨X,v',u,q1,q2,q3,q4⟩:=hc _ b M;exact(_,X,hk _ _ (cV d.hok q2),q3)
  ·obtain⟨i,i1,M⟩:=cP h;exact m9 (aah M)
  ·unfold start;show _=N.length;rw[aaf,aaa,abp,aaf];lia
 have Y:∀{T:Shared}{B:St}{H':Hp}{v:V}{u:Value},Inv (sO P w K mg base N c.qual c.scope f (.ref l) (c.xs.zip cs) A outer s (hide H cs)) [] B H' T->RelV v u->Q v (over H cs H')->CE outer P w H s Q u T:=λ{T B H' v u} J U q=>by
  obtain⟨k1,k2⟩:=Gw d.hok J.hok hx d.Vs J.base;exact(v,over H cs H',J.os,J.bare,k2,k1,U,q)
 refine wpAny_mono (ht [] _ (start N (vs++Tr)) (hide H cs) _ I hq) (λfl T O=>?_) λe T O=>False.elim O;cases fl with
 |ret u=>
  obtain⟨v,B,H',J,U,q⟩:=O;exact Y J U q
 |next=>
  obtain⟨B,H',J,q⟩:=O;exact Y (v:=V.non) (u:=Value.none) J rfl q
 |brk=>
  obtain⟨_,_,_,q⟩:=O;exact False.elim q
 |cont=>
  obtain⟨_,_,_,q⟩:=O;exact False.elim q
end
def fM(P:Program)(w:World)(K:PySem.W.Frag)(mg:Str->Option Value)(base:Heap)(k:Nat)(d:Addr->Sp):Prop:=
 ∀(f:Addr) (A:Around) (a:List Env) (s:Shared) (H:Hp) (c:List Value) (b:List V) (Q:VK),eF k A->FW P w K mg base A a s H->Vals b c->d f b H Q E0 ->
  codeAny (model P w) A (.call (.ref f) (c,[])) (CR Ti a P w H s Q E0) s
theorem fM.mono{P:Program}{w:World}{K:PySem.W.Frag}{mg:Str->Option Value}{base:Heap}{j k:Nat}{b:Addr->Sp}(F:fM P w K mg base j b)(h:j<=k):fM P w K mg base k b:=
 λf A a s H d c Q e=>F f A a s H d c Q (e.mono h)
inductive QZ(i:Nat)(sp:Addr->Sp)(t:TA)(σ:St)(H:Hp)(Q:VK):Prop
 |mk (f o fd:_) (_:σ[i]?=some (some (.ref f))) (_:H f=some (aN f o)) (_:o.data=.func fd) (_:t σ H λvs H1=>H1 f=some (aN f o)/\sp f vs H1 Q E0)
section
variable{k:Nat}{pos:Pos}{es:List Expr}{sp:Addr->Sp}
theorem dO(C:fM X.prog X.w X.K X.mg X.base k sp)(U:eF k X.A)(V:X.N[i]?=some x)(Y:PA X (e::es) t)(R:WW X.env.scope x:=by first|exact agP rfl|exact ahs (agP rfl) | exact ahs (ahs rfl))
  (hd:(x==("__debug__" : Str))=false:=by decide)(n:(x==("__classdict__" : Str))=false:=by decide)
  (W:starEach (e::es) X.env=(pq false (eval e X.env))::starEach es X.env:=by rfl)(l:(backTo pos (starEach es X.env)).any (·.1)=false:=by rfl):PE X (.Call (.Name x p) (e::es) [] pos) (QZ i sp t):=by
 intro c s b H Q I h;obtain⟨f,o,y,T,g,d,h⟩:=h;refine wpAny_Call_Name_kw (Th (Ey V R hd n c s b H (λv H'=>v=.ref f/\H'=H) I (_,T,7,7)) λu L S=>?_);obtain⟨v,H1,B,M,rfl,rfl⟩:=S;obtain rfl:u=Value.ref f:=M;have z:∀{H:Hp}{s:Shared},Inv X c b H s->H f=some (aN f o)->FnAt f s.heap:=λ{H s} J g=>by
  obtain⟨P,O,dt,F⟩:=o;have d:dt=.func y:=d;subst d;exact(P,O,y,F,cV J.hok g)
 refine callWith_F (z B g) (Th (Y pos c L b H1 _ B h) λE G ⟨D,H2,j,r,m,q⟩=>(z j m,3)) W l;refine wpAny_call (codeAny_mono (C f X.A X.stack G H2 E D Q U j.env0 r q) λr s' a=>?_);cases r with
 |error e=>exact False.elim a
 |ok Z=>
  cases Z with
  |ret u=>exact j.after a
  |next=>exact False.elim a
  |brk=>exact False.elim a
  |cont=>exact False.elim a
end
def BMain(mg:Str->Option Value)(h:Heap):Prop:=∃b a,mg "__builtins__" = some (.ref b)/\b≠builtinsNs/\h.get? b=some a/\a.cls=.type "module" /\ a.dict=some builtinsNs/\a.data=.plain
inductive TabAt(H:Hp)(P:Addr)(pos:Pos)(qual:Str):Prop
 | mk (ps:Array Value) (_:H P=some (.Tv ps)) (_:TriplesOk ps.toList) (_:(codeAmong pos ps.toList=none \/ ∃(cd:Addr) (oc:Obj) (vs:Array Value) (t:Tok),codeAmong pos ps.toList=some (.ref cd)/\H cd=some (aN cd oc)/\oc.data=.fields vs/\vs[1]?=some (.str qual t)))
section
variable{P:Addr}{params:Arguments}{body:List Stmt}{clos:List (Str×Addr)}{pos:Pos}
theorem Nx{M:Model}{A:Around}{E:Value->Shared->Prop}{Q:Value->Shared->Prop}(I:Inv X π σ H s)(bm:BMain X.mg X.base)(v:X.env.code=.ref c)(C:CodeHd X.base c P)(hT:TabAt H P pos qual)(W:closureFor scope X.env=pure clos)
  (h:∀(fi D:Addr) (f pm g:Value) (j:Obj) (B:Array Value) (t:Tok) (L:Hp) (s1:Shared),Inv X π σ L s1->H fi=none->(∀b o,H b=some o->b≠P->L b=some o)->TabAt L P pos qual ->
   L fi=some (aN fi (fnMade name qual params body scope clos f pm D g))->L D=some (aN D j)->j.data=.fields B->B[1]?=some (.str qual t)->Q (.ref fi) s1):
  wpAny M A (makeFunction name qual params (.stmts body) scope X.env [] [] [] pos n) Q E s:=by
 obtain⟨p,m,r,R⟩:=hT;have y:s.heap.get? P=some (tabObj p):=I.hok P _ m;have G:=I.mod.glob.keeps I.bk;obtain⟨bm,ob,b1,b2,b3,b4,b5,b6⟩:=bm;have T:=I.bk _ _ b3;have a2:mainGlobals≠P:=λq=>by
  obtain⟨o,es,ep,e,hd,_⟩:=G;rw[q,y]at e;cases e;cases hd
 have a3:bm≠P:=λq=>by
  rw[q,y]at T;cases T;cases b4
 have a4:bm≠mainGlobals:=λq=>by
  obtain⟨o,es,ep,e,hd,_⟩:=G;rw[q,e]at T;cases T;rw[hd]at b6;cases b6
 have W9:s.heap.BuiltinsAt X.mg P:=(bm,ob,b1,b2,a4,a3,T,b4,b5,b6);rcases R with V|⟨D,j,B,t,hf,Y,hd,S⟩
 ·refine makeFunction_K (mg:=X.mg) W I.ok.glob G v (C.keeps I.bk) y r V a2 W9 λa g f i tk hx w O Z a0=>?_;obtain⟨c2,j,B,t,e2,a1,hd,S⟩:=Z;cases e2;have nc:H a=none:=I.hok.fresh w;have K:H i.objs.size=none:=I.hok.fresh (afJ w (ae8 O));have YK:P≠a:=aJ m nc;have YL:P≠i.objs.size:=aJ m K;have YM:a≠i.objs.size:=aap O
  have k1:∀b,b≠P->b≠a->b≠i.objs.size->upd (upd (upd H P (.Tv (p ++ #[rawInt pos.line,rawInt pos.col,.ref a]))) a (aN a j)) i.objs.size (aN i.objs.size (fnMade name qual params body scope clos f ((X.mg "__name__").getD .none) a g)) b=H b:=λb e1 e2 e3=>by
   rw[aH e3,aH e2,aH e1]
  have l:∀b o,H b=some o->b≠P->upd (upd (upd H P (.Tv (p ++ #[rawInt pos.line,rawInt pos.col,.ref a]))) a (aN a j)) i.objs.size (aN i.objs.size (fnMade name qual params body scope clos f ((X.mg "__name__").getD .none) a g)) b=some o:=λb o e n=>by
   rw[k1 b n (aJ e nc) (aJ e K)];exact e
  have kP:upd (upd (upd H P (.Tv (p ++ #[rawInt pos.line,rawInt pos.col,.ref a]))) a (aN a j)) i.objs.size (aN i.objs.size (fnMade name qual params body scope clos f ((X.mg "__name__").getD .none) a g)) P=some (.Tv (p ++ #[rawInt pos.line,rawInt pos.col,.ref a])):=by
   rw[aH YL,aH YK,aq]
  have kc:upd (upd (upd H P (.Tv (p ++ #[rawInt pos.line,rawInt pos.col,.ref a]))) a (aN a j)) i.objs.size (aN i.objs.size (fnMade name qual params body scope clos f ((X.mg "__name__").getD .none) a g)) a=some (aN a j):=by
   rw[aH YM,aq]
  have kf:upd (upd (upd H P (.Tv (p ++ #[rawInt pos.line,rawInt pos.col,.ref a]))) a (aN a j)) i.objs.size (aN i.objs.size (fnMade name qual params body scope clos f ((X.mg "__name__").getD .none) a g)) i.objs.size=some (aN i.objs.size (fnMade name qual params body scope clos f ((X.mg "__name__").getD .none) a g)):=aq
  generalize upd (upd (upd H P (.Tv (p ++ #[rawInt pos.line,rawInt pos.col,.ref a]))) a (aN a j)) i.objs.size (aN i.objs.size (fnMade name qual params body scope clos f ((X.mg "__name__").getD .none) a g))=L at *
  have k:∀b o,s.heap.get? b=some o->b≠P->(i.push (fnMade name qual params body scope clos f ((X.mg "__name__").getD .none) a g)).get? b=some o:=λb o e n=>Heap.get?_push_of_some _ (hx b o n e)
  have F:(i.push (fnMade name qual params body scope clos f ((X.mg "__name__").getD .none) a g)).get? P=some (tabObj (p ++ #[rawInt pos.line,rawInt pos.col,.ref a])):=Heap.get?_push_of_some _ a0
  have hl:(p ++ #[rawInt pos.line,rawInt pos.col,.ref a]).toList=p.toList++[rawInt pos.line,rawInt pos.col,.ref a]:=by simp
  refine h i.objs.size a f _ g j B t L _ (I.call' (ch:=[]) rfl (λb o e n hb N=>?_,λb o e n hb N=>?_,λb o e n N=>?_,λb o e N=>?_,λb xs e=>?_,λb o u e=>?_,λb qs e=>?_) (λb u e=>?_) I.bare λb z=>absurd z (by simp)) K l (_,kP,by rw[hl];exact TriplesOk_snoc _ _ _ _ r,.inr (a,j,B,t,by rw[hl];exact codeAmong_snoc _ r V,kc,hd,S)) kf kc hd S
  ·exact k b o e λz=>by rw[z,m]at n;cases n
  ·exact(o.slots,k b o e λz=>by rw[z,m]at n;cases n)
  ·rw[k1 b (λz=>by rw[z,m]at n;cases n) (aap (aai (Heap.lt_size e) w)) (aap (aai (Heap.lt_size e) (afJ w (ae8 O))))];exact n
  ·by_cases z:b=P
   ·exact(_,by rw[z];exact F)
   ·exact(o,k b o e z)
  ·exact l b _ e λz=>by rw[z,m]at e;cases e
  ·exact l b _ e λz=>by rw[z,m]at e;cases e
  ·by_cases z:b=P
   ·rw[z,m]at e;cases e;exact(_,by rw[z];exact kP)
   ·exact(#[],by rw[l b _ e z];simp)
  ·by_cases J:b=i.objs.size
   ·rw[J,kf]at e;cases e;rw[J];exact fH (Heap.get?_push_size _ rfl)
   by_cases z2:b=a
   ·rw[z2,kc]at e;cases e;rw[z2];exact fH (Heap.get?_push_of_some _ a1)
   by_cases z3:b=P
   ·rw[z3,kP]at e;cases e;rw[z3];exact F
   rw[k1 b z3 z2 J]at e;refine(I.hok b u e).stay (λd o x q=>k d o q ?_) (λd q=>l d _ q ?_) λd xs q=>l d _ q ?_
   ·rcases x with rfl|x
    ·exact z3
    ·exact λz=>by rw[z,m]at x;cases x
   ·exact λz=>by rw[z,m]at q;cases q
   ·exact λz=>by rw[z,m]at q;cases q
 ·refine makeFunction_hit (mg:=X.mg) W I.ok.glob G v (C.keeps I.bk) y r hf W9 λg f i tk hk U=>?_;have K:H i.objs.size=none:=I.hok.fresh U
  have l:∀b o,H b=some o->upd H i.objs.size (aN i.objs.size (fnMade name qual params body scope clos f ((X.mg "__name__").getD .none) D g)) b=some o:=λb o e=>by
   rw[aH (aJ e K)];exact e
  have k:∀b o,s.heap.get? b=some o->(i.push (fnMade name qual params body scope clos f ((X.mg "__name__").getD .none) D g)).get? b=some o:=λb o e=>Heap.get?_push_of_some _ (hk b o e)
  refine h i.objs.size D f _ g j B t _ _ (I.call' (ch:=[]) rfl (Un.laid k U K) (λb u e=>?_) I.bare λb z=>absurd z (by simp)) K (λb o e _=>l b o e) (p,l _ _ m,r,.inr (D,j,B,t,hf,l _ _ Y,hd,S)) aq (l _ _ Y) hd S;by_cases J:b=i.objs.size
  ·rw[J,aq]at e;cases e;rw[J];exact fH (Heap.get?_push_size _ rfl)
  rw[aH J]at e;exact(I.hok b u e).stay (λd o _ q=>k d o q) (λd q=>l d _ q) λd xs q=>l d _ q
end
section
variable{P:Program}{s0:Shared}{H0:Hp}{E:XK}{Q:VK}
theorem Od{T:vX}{cs:List Addr}{Tr:List V}{pos :Pos}{i:Nat}(I:Inv (ik CX P w K mg base N qual scope f (.ref c) A outer s0 H0 E) [] σ H s)(bm:BMain mg base)(C:CodeHd base c Pt)(hT:TabAt H Pt pos T.qual)
  (a5:N.Nodup)(hi:N[i]?=some T.name)(y:scope.names.lookup T.name=some .local)(hq:qualnameIn (envOfC qual scope s0.heap.objs.size f (.ref c)) T.name T.name=T.qual)
  (b0:closureFor T.scope (envOfC qual scope s0.heap.objs.size f (.ref c))=pure (T.xs.zip cs))(a9:T.params.defaults=[])(a6:T.params.kw_defaults=[])(ha:annTrees T.params none (envOfC qual scope s0.heap.objs.size f (.ref c))=[])
  (Y:cs.Nodup)(Z:cs.length=T.xs.length)(L:Tr.length=T.xs.length)
  (Xa:∀(j:Nat) (a:Addr),cs[j]?=some a -> ∃(x:Str) (m:Nat) (v:V),(envOfC qual scope s0.heap.objs.size f (.ref c)).cells.lookup x=some a/\scope.names.lookup x=some .cell/\N[m]?=some x/\σ[m]?=some (some v)/\Tr[j]?=some v/\m≠i)
  (hQ:∀(D:Addr) (H2:Hp),H D=none->(∀a∈cs,H a=none)->(∀b o,H b=some o->b≠Pt->H2 b=some o)->TabAt H2 Pt pos T.qual->je H2 D T cs Tr->Q (.ref D) H2)
  (a8:(T.name==("__debug__" : Str))=false:=by decide)(a0:(T.name==("__classdict__" : Str))=false:=by decide):
  wpAny (model P w) (A.deeper (envOfC qual scope s0.heap.objs.size f (.ref c))) (execs [.FunctionDef T.name T.params T.body [] none [] T.scope none T.name pos,.Return (some (.Name T.name p)) apos] (envOfC qual scope s0.heap.objs.size f (.ref c)))
   (λfl s'=>∃u,fl=.ret u/\CE outer P w H0 s0 Q u s') (ik CX P w K mg base N qual scope f (.ref c) A outer s0 H0 E).xe s:=by
 refine wpAny_execs_cons (nestDef_K a9 a6 ha ?_);rw[hq];refine Nx (X:=ik CX P w K mg base N qual scope f (.ref c) A outer s0 H0 E) (n:=pos.line) I bm rfl C hT b0 λD cd b3 pm b4 oc vs t H1 s1 I1 YQ W b2 a7 b1 hd hv=>?_;refine uR (X:=ik CX P w K mg base N qual scope f (.ref c) A outer s0 H0 E) (v:=.ref D) I1 a5 hi (.inl y) rfl (λs2 I2=>?_) (.inr y);have Xy:i<σ.length:=by rw[I.len];exact(aab.mp hi).1
 refine wpAny_execs_cons (wpAny_Return_some (Th (Ey (X:=ik CX P w K mg base N qual scope f (.ref c) A outer s0 H0 E) hi (.inl y) a8 a0 [] s2 _ H1 (λv h=>v=.ref D/\h=H1) I2 (_,agV Xy,7,7)) λu F hu=>?_));obtain⟨v,h,J,rv,rfl,rfl⟩:=hu;exists u,7,.ref D,λb=>if b∈cs then (F.heap.get? b).map (aN b)else h b,J.os,J.bare,3,3,rv
 all_goals
  have g:∀a∈cs,∃x,(envOfC qual scope s0.heap.objs.size f (.ref c)).cells.lookup x=some a:=λa k=>by
   obtain⟨j,hj⟩:=aaP k;obtain⟨x,m,v,h1,_⟩:=Xa j a hj;exact(x,h1)
  have fresh:∀a∈cs,s0.heap.objs.size<=a:=λa k=>by
   obtain⟨x,R⟩:=g a k;exact J.ok.cab x a rfl R
  have a1:∀a∈cs,h a=none:=λa k=>by
   obtain⟨x,R⟩:=g a k;exact J.freeC x a R
  have r:∀b o,h b=some o->b∉cs:=λb o e z=>by
   rw[a1 b z]at e;cases e
 ·have U:Un (frs outer) [] H0 h s0.heap F.heap:=J.base;refine(U.keep,U.slot,λb o e n a4=>?_,U.there,λb xs e=>?_,λb o v e=>?_,λb ps e=>?_)
  ·show (if b∈cs then _ else h b)=none;rw[if_neg (λz=>absurd (aai (Heap.lt_size e) (fresh b z)) (afL _))];exact U.free b o e n a4
  ·have B:=U.tups b xs e;show (if b∈cs then _ else h b)=_;rw[if_neg (r b _ B)];exact B
  ·have B:=U.frzs b o v e;show (if b∈cs then _ else h b)=_;rw[if_neg (r b _ B)];exact B
  ·obtain⟨S,B⟩:=U.tbls b ps e;exists S;show (if b∈cs then _ else h b)=_;rw[if_neg (r b _ B)];exact B
 ·intro b M e;have e:(if b∈cs then (F.heap.get? b).map (aN b)else h b)=some M:=e;by_cases hb:b∈cs
  ·rw[if_pos hb]at e;cases q:F.heap.get? b with
   |none=>rw[q]at e;cases e
   |some o=>
    rw[q]at e;cases e;exact fH q
  ·rw[if_neg hb]at e;refine(J.hok b M e).stay (λ_ _ _ q=>q) (λd q=>?_) λd xs q=>?_
   ·show (if d∈cs then _ else h d)=_;rw[if_neg (r d _ q)];exact q
   ·show (if d∈cs then _ else h d)=_;rw[if_neg (r d _ q)];exact q
 ·have O:∀b o,h b=some o->(λb=>if b∈cs then (F.heap.get? b).map (aN b)else h b) b=some o:=λb o e=>by
   show (if b∈cs then _ else h b)=_;rw[if_neg (r b _ e)];exact e
  refine hQ D _ YQ (λa k=>?_) (λb o e n=>O b o (W b o e n)) ?_ ((cd,b3,pm,b4,oc,vs,t,O _ _ a7,O _ _ b1,hd,hv),λj a hj=>?_,Y,Z,L)
  ·obtain⟨x,R⟩:=g a k;exact I.freeC x a R
  ·obtain⟨ps,B,e2,e3⟩:=b2;exists ps,O _ _ B,e2;rcases e3 with e3|⟨b5,a3,a2,t',e4,e5,e6⟩
   ·exact .inl e3
   ·exact .inr (b5,a3,a2,t',e4,O _ _ e5,e6)
  ·obtain⟨x,m,v,h1,h2,h3,h4,h5,h6⟩:=Xa j a hj;obtain⟨mm,_,hl⟩:=J.loc;obtain⟨M,r',l⟩:=hl m x v h3 (by rw[aha (af3 h6)];exact h4) (.inr (.inl h2));have l':∃c',(envOfC qual scope s0.heap.objs.size f (.ref c)).cells.lookup x=some c'/\F.heap.IsCell c' (some M):=by
    rcases l with ⟨G,_⟩|⟨_,l2⟩
    ·have G:scope.names.lookup x=some .local:=G;rw[h2]at G;cases G
    ·exact l2
   obtain⟨c',G,co,l2,l3⟩:=l';rw[h1]at G;cases G;refine(co,v,M,h5,3,l3,r');show (if a∈cs then (F.heap.get? a).map (aN a)else h a)=_;rw[if_pos (aah hj),l2];rfl
theorem En{k:Nat}{name:Str}{g:Arguments}{h:List Stmt}{kV B M d R oc:Value}{T Z:Option Addr}{G:Array (Option Value)}{ps:List Str}(lk:K.lookup f=some (oc,Z,.func (PySem.W.fnOf name qual g h scope q kV B M T d R),G))(L:PySem.W.codeIn K d qual=true)(S:aC N ps scope)
  (t:∀i H Q E,sp i H Q E->i.length=ps.length)
  (l:∀(A:Around) (outer:List Env) (s:Shared) (H:Hp) (i:List V) (Q:VK) (E:XK) (m:Shared),eF k (A.deeper (envOfC qual scope s.heap.objs.size f d))->sp i H Q E->Inv (ik Ti P w K mg base N qual scope f d A outer s H E) [] (start N i) H m ->
   wpAny (model P w) (A.deeper (envOfC qual scope s.heap.objs.size f d)) (execs h (envOfC qual scope s.heap.objs.size f d)) (λO C=>∃u,O=.ret u/\CE outer P w H s Q u C) (ik Ti P w K mg base N qual scope f d A outer s H E).xe m):
  aV P w K mg base Ti (k+1) f (PySem.W.fnOf name qual g h scope q kV B M T d R) ps sp:=by
 refine(t,λA outer s H X Y i Q E F p hb r z=>?_);have hl:=t _ _ _ _ z;have U:K.In s.heap:=p.mod.WT.keeps λb o e=>(p.bs b o e).1;have J:s.heap.NoLimit:=p.mod.nolimit.keeps λb o e=>(p.bs b o e).1;have j:∀y∈ps.zip Y,scope.names.lookup y.1=some .local\/(scope.names.lookup y.1=some .cell/\((cellsFrom (s.heap.objs.size+1) scope.names []).lookup y.1).isSome=true):=λ⟨n,v⟩ hy=>by
  rcases S.Vz n (agZ hy).1 with a|a
  ·exact .inl a
  ·exact .inr (a,PySem.W.cellsFrom_some _ _ _ (.inl a))
 refine codeAny_call_function F.depth (U _ _ lk) rfl S.co S.gen rfl (PySem.W.codeRec_of U L) (hb _ _ _ _ ?_);refine wpAny_newFunctionEnv_cells S.kind j λa0 he m x=>?_;subst he;refine(J.keeps x.toInCall.keep,codeAny_func ?_);have I:Inv (ik Ti P w K mg base N qual scope f d A outer s H E) [] (start N i) H m:=yC S F.hd p hl r x;refine wpAny_mono (l A outer s H i Q E m (F.deeper _) z I) (λO C D=>?_) λe C D=>D;obtain⟨u,rfl,a⟩:=D;exact a
end
theorem JQ{w:World}{mg mb:Str->Option Value}{k:Nat}{a:Addr}{fd:FuncData}{x:Str}{g:Shared}{y:List Value}{i:List (Addr×Addr)}
  (KX:K.In g.heap)(U:g.heap.Ns mainGlobals mg)(hb:g.heap.Ns builtinsNs mb)(a8:∀x:Str,x ≠ "__name__" -> mb x=bootBuiltins x)(Z:g.heap.NoLimit)(a7:BMain mg g.heap)(A:TabsAt i g.heap)(VP:noTabs K=true)(hg:g.gens=#[])
  (O:g.heap.get? a=some {cls:=.type "list",data:=.seq y.toArray})(hi:IntsAre y d)(hl:d.length<=sizeLine)(hr:eF k callerA)
  (F:∀base:Heap,K.In base->base.Ns mainGlobals mg->BMain mg base->(∀q∈i,CodeHd base q.1 q.2)->aV prog w K mg base Ti k f fd [x] sp)(M:∀(s:Shared) (u:Value),BindsTo s fd ([u],[]) [(pq x u)])
  (a5:∀H:Hp,Tg K H a (d.map V.int)->(∀q∈i,H q.2=some (.Tv #[]))->sp [.ref a] H (λv _=>v=.bl true) λ_ _ _=>False):
  codeAny (model prog w) callerA (.call (.ref f) ([.ref a],[])) (λr C=>r=.ok (.ret (.bool true))/\OldK g.heap C.heap/\C.os=g.os/\AllBare C.gens) g:=by
 have rv:=rG hi;have lenV:=hi.length;have D:∀b,b∈i.map (·.2)->K.lookup b=none:=λb p=>by
  cases q:K.lookup b with
  |none=>rfl
  |some o=>
   obtain⟨r,j,rfl⟩:=aa3.mp p;have e:=KX _ _ q;rw[(A r j).2]at e;cases e;have t:=aiH.mp VP _ (mem_of_lookupK q);exact absurd (show false=true from t) aar
 have a2:a∉i.map (·.2):=λz=>by
  obtain⟨r,j,e⟩:=aa3.mp z;have J:=(A r j).2;rw[e,O]at J;cases J
 have I:∀H:Hp,(∀b,H b=none\/(b=a/\K.lookup a=none/\H b=some (.Ul {cls:=.type "list",data:=.seq y.toArray} (.lst (d.map V.int))))\/(b∈i.map (·.2)/\H b=some (.Tv #[])))->(∀q∈i,H q.2=some (.Tv #[]))->Tg K H a (d.map V.int)->TJ prog w H g.heap ->
   codeAny (model prog w) callerA (.call (.ref f) ([.ref a],[])) (λr C=>r=.ok (.ret (.bool true))/\OldK g.heap C.heap/\C.os=g.os/\AllBare C.gens) g:=by
  intro H hO a9 hS T;have l:∀{b:Addr}{o:Obj},g.heap.get? b=some o->H b=none->(wg g.heap H).get? b=some o:=λe n=>J1 e n
  have Ws:∀{b:Addr}{o:Obj},g.heap.get? b=some o->o.cls ≠ .type "list" -> o.cls ≠ .none->H b=none:=λ{b o} e d1 d2=>by
   rcases hO b with z|⟨rfl,_,z⟩|⟨z,_⟩
   ·exact z
   ·rw[O]at e;cases e;exact absurd rfl d1
   ·obtain⟨r,j,rfl⟩:=aa3.mp z;rw[(A r j).2]at e;cases e;exact absurd rfl d2
  have a3:∀{b:Addr}{o:Obj}{Q:Array DictEntry}{R:Nat},g.heap.get? b=some o->o.data=.dict Q R->H b=none:=λ{b o Q R} e c=>by
   rcases hO b with z|⟨rfl,_,z⟩|⟨z,_⟩
   ·exact z
   ·rw[O]at e;cases e;have d':Data.seq y.toArray _=Data.dict Q R:=c;cases d'
   ·obtain⟨r,j,rfl⟩:=aa3.mp z;rw[(A r j).2]at e;cases e;have d':Data.fields _=Data.dict Q R:=c;cases d'
  have XN:∀{b:Addr}{m:Str->Option Value},g.heap.Ns b m->(wg g.heap H).Ns b m:=λ{b m} ⟨o,Q,R,e,c,r⟩=>(o,Q,R,l e (a3 e c),c,r);have X:K.In (wg g.heap H):=λb o e=>l (KX b o e) (by
   rcases hO b with z|⟨rfl,z,_⟩|⟨z,_⟩
   ·exact z
   ·rw[e]at z;cases z
   ·rw[D b z]at e;cases e)
  have hM:Mod K mg (wg g.heap H):=(X,XN U,(mb,XN hb,a8),let ⟨mc,B,t⟩:=Z;(mc,XN B,t));have hB:BMain mg (wg g.heap H):=by
   obtain⟨bm,ob,b1,b2,b3,b4,b5⟩:=a7;exact(bm,ob,b1,b2,l b3 (Ws b3 (by rw[b4];decide) (by rw[b4];nofun)),b4,b5)
  have hC:∀q∈i,CodeHd (wg g.heap H) q.1 q.2:=λq S=>by
   obtain⟨o,ws,a0,tf,N,tg,a4,Y,tt,L,r1,r2⟩:=(A q S).1;exact(o,ws,a0,tf,N,tg,a4,Y,tt,l L (Ws L (by rw[r1];decide) (by rw[r1];nofun)),r1,r2)
  have e0:FW prog w K mg (wg g.heap H) callerA [] g H:=(7,hM,λb o e=>Om e,ahk (Jq _ _),trivial,λb hb=>absurd (show b∈([]:List Addr)from hb) (by simp),T,.of_eq hg);refine codeAny_mono ((F _ X (XN U) hB hC).run callerA [] g H ([.ref a],[]) [.ref a] [.ref a] _ _ hr e0 (M g (.ref a)) (.cons rfl .nil) (a5 H hS a9)) λr C h=>?_;cases r with
  |error e=>exact False.elim h
  |ok fl=>
   cases fl with
   |next=>exact False.elim h
   |brk=>exact False.elim h
   |cont=>exact False.elim h
   |ret u=>
    obtain⟨v,H',os,a1,un,G,r',q⟩:=h;have q':v=.bl true:=q;subst q';obtain rfl:u=Value.bool true:=r';refine(7,(λb o e=>?_,λb o e=>un.there b o e (by simp)),os,a1);rcases hO b with z|⟨rfl,_,z⟩|⟨z1,z⟩
    ·exact .inl (un.keep b o e z (by intro z;exact absurd (show b∈([]:List Addr)from z) (by simp)) (by simp))
    ·have z2:=un.frzs b _ _ z;obtain⟨L,_⟩:=T b _ z;obtain⟨J,_⟩:=G b _ z2;rw[e]at L;cases L;exact .inl J
    ·obtain⟨E,z2⟩:=un.tbls b _ z;have L:C.heap.get? b=some {cls:=.none,data:=.fields (#[]++E)}:=G b _ z2;obtain⟨r,j,rfl⟩:=aa3.mp z1;have J:=(A r j).2;rw[e]at J;cases J;exact .inr (.inl (((A r j).1.tab (A r j).2).isCodeTable,7,#[],E,7,L))
 cases hk:K.lookup a with
 |some o=>
  have e:=KX a o hk;rw[O]at e;cases e;refine I (λb=>if b∈i.map (·.2)then some (.Tv #[])else none) (λb=>?_) (λq S=>if_pos (aii S)) (.inr (_,y.toArray,_,hk,7,7,7,by rw[aaB,lenV];exact hl,by simpa using rv)) (λb u z=>?_)
  ·by_cases p:b∈i.map (·.2)
   ·exact .inr (.inr (p,if_pos p))
   ·exact .inl (if_neg p)
  ·by_cases p:b∈i.map (·.2)
   ·have z':=(if_pos p).symm.trans z;cases z';obtain⟨r,j,rfl⟩:=aa3.mp p;exact(A r j).2
   ·have z':=(if_neg p).symm.trans z;cases z'
 |none=>
  have hA:(λb=>if b=a then some (.Ul {cls:=.type "list",data:=.seq y.toArray} (.lst (d.map V.int)))else if b∈i.map (·.2)then some (.Tv #[])else none:Hp) a=some (.Ul {cls:=.type "list",data:=.seq y.toArray} (.lst (d.map V.int))):=if_pos rfl
  have Xb:∀b∈i.map (·.2),(λb=>if b=a then some (.Ul {cls:=.type "list",data:=.seq y.toArray} (.lst (d.map V.int)))else if b∈i.map (·.2)then some (.Tv #[])else none:Hp) b=some (.Tv #[]):=λb p=>by
   have a6:b≠a:=λe=>a2 (e ▸ p);show (if b=a then _ else if b∈i.map (·.2)then _ else _)=_;rw[if_neg a6,if_pos p]
  have hN:∀b,b≠a->b∉i.map (·.2)->(λb=>if b=a then some (.Ul {cls:=.type "list",data:=.seq y.toArray} (.lst (d.map V.int)))else if b∈i.map (·.2)then some (.Tv #[])else none:Hp) b=none:=λb B t=>by
   show (if b=a then _ else if b∈i.map (·.2)then _ else _)=_;rw[if_neg B,if_neg t]
  generalize (λb=>if b=a then some (.Ul {cls:=.type "list",data:=.seq y.toArray} (.lst (d.map V.int)))else if b∈i.map (·.2)then some (.Tv #[])else none:Hp)=H at *
  refine I H (λb=>?_) (λq S=>Xb _ (aii S)) (.inl (.inr ({cls:=.type "list",data:=.seq y.toArray},hA))) (λb u z=>?_)
  ·by_cases B:b=a
   ·rw[B];exact .inr (.inl (7,hk,hA))
   ·by_cases t:b∈i.map (·.2)
    ·exact .inr (.inr (t,Xb b t))
    ·exact .inl (hN b B t)
  ·by_cases B:b=a
   ·rw[B,hA]at z;cases z;rw[B];exact(O,by rw[aaa];exact hl,y,_,rv,O)
   ·by_cases t:b∈i.map (·.2)
    ·rw[Xb b t]at z;cases z;obtain⟨r,j,rfl⟩:=aa3.mp t;exact(A r j).2
    ·rw[hN b B t]at z;cases z
theorem KR{l:PySem.W.OpenLaw}{n k:Nat}{q:Program}{XP:(Str->Option Value)->Heap->Prop}{I:World->Heap->Prop}{d:DefRec}{K:Params->PySem.W.Frag}{x:Str}
  (P:l.most=some n)(A:n<=sizeLine)(C:d.params.defaults=[])(O:eF k callerA)
  (S:∀(w:World) (h:Heap),I w h->(K w.params).In h)
  (F:∀(w:World) (mg y:Str->Option Value) (j:ExcName->Option Value) (r:Addr) (h:Heap),(K w.params).In h->Top q (looseW q N) j mg y h->mg d.name=some (.ref r) ->
   ∃(fd:FuncData) (c:List (Addr×Addr)) (t:Sp),(∀(s:Shared) (u:Value),BindsTo s fd ([u],[]) [(pq x u)])/\TabsAt c h/\noTabs (K w.params)=true /\
    (∀base:Heap,(K w.params).In base->base.Ns mainGlobals mg->BMain mg base->(∀q∈c,CodeHd base q.1 q.2)->aV l.prog w (K w.params) mg base Ti k r fd [x] t) /\
    ∀(H:Hp) (a:Addr) (p:List Int),p.length<=n->Tg (K w.params) H a (p.map V.int)->(∀q∈c,H q.2=some (.Tv #[]))->t [.ref a] H (λv _=>v=.bl true) λ_ _ _=>False):
  PySem.W.WalkO q N XP I l.row.toRowW d [] (λf E=>PySem.call f E):=by
 refine XH.attach_call P C λw M L mg y r o pm cd a1 a E p G Y ho hd a0 B m i e Q=>?_;have J:=S w _ Y;obtain⟨fd,c,t,R,U,VP,Z,z⟩:=F w mg y _ r _ J G.T B;exact JQ J G.T.g G.T.b G.T.builtins G.T.nolimit G.T.bmain U VP Q m i (afJ e A) O Z R λH X D=>z H a p e X D
def Rp(st:Stmt)(c:Str)(ps xs:List Str):vX:=match st with
 |.FunctionDef n a b _ _ _ d _ _ _=>(n,c,a,b,d,ps,xs)
 |_=>("",c,ν st,[],δ st,ps,xs)
def xM:Stmt->Pos
 |.FunctionDef _ _ _ _ _ _ _ _ _ p=>p
 |_=>(0,0,0,0)
structure Qp(N:List Str)(qual:Str)(scope:Scope)(T:vX)(i:Nat)(slots:List Nat)(Uo:Addr->List Addr):Prop where
 nd:N.Nodup
 hi:N[i]?=some T.name
 loc:scope.names.lookup T.name=some .local
 qn:∀(L f:Addr) (c:Value),qualnameIn (envOfC qual scope L f c) T.name T.name=T.qual
 cl:∀(L f:Addr) (c:Value),closureFor T.scope (envOfC qual scope L f c)=pure (T.xs.zip (Uo L))
 d0:T.params.defaults=[]
 k0:T.params.kw_defaults=[]
 an:∀(L f:Addr) (c:Value),annTrees T.params none (envOfC qual scope L f c)=[]
 YS:∀L:Addr,(Uo L).Nodup
 len:∀L:Addr,(Uo L).length=T.xs.length
 fv:∀(L f:Addr) (c:Value) (j:Nat) (a:Addr),(Uo L)[j]?=some a -> ∃(x:Str) (m:Nat),(envOfC qual scope L f c).cells.lookup x=some a/\scope.names.lookup x=some .cell/\N[m]?=some x/\slots[j]?=some m/\m≠i
 db:(T.name==("__debug__" : Str))=false
 dn:(T.name==("__classdict__" : Str))=false
def Made(H:Hp)(g:Addr)(pos:Pos)(T:vX)(c:List Nat)(σ:St)(Q:VK):Prop:=
 TabAt H g pos T.qual /\ ∃f:List V,(∀j m:Nat,c[j]?=some m -> ∃v,σ[m]?=some (some v)/\f[j]?=some v)/\f.length=T.xs.length /\
  ∀(e:Addr) (h:List Addr) (d:Hp),H e=none->(∀a∈h,H a=none)->(∀b o,H b=some o->b≠g->d b=some o)->TabAt d g pos T.qual->je d e T h f->Q (.ref e) d
section
variable{P:Program}{k:Nat}{T:vX}{slots:List Nat}{Uo:Addr->List Addr}{pos p1 p2:Pos}
theorem Mp{A:Around}{s b:Shared}{Q:VK}{E:XK}{σ:St}(M:Qp N qual (δ st) T i slots Uo)(bm:BMain mg base)(C:CodeHd base c Pt)(I:Inv (ik Ti P w K mg base N qual (δ st) f (.ref c) A outer s H E) [] σ H' b)(h:Made H' Pt pos T slots σ Q):
  wpAny (model P w) (A.deeper (envOfC qual (δ st) s.heap.objs.size f (.ref c))) (execs [.FunctionDef T.name T.params T.body [] none [] T.scope none T.name pos,.Return (some (.Name T.name p1)) p2] (envOfC qual (δ st) s.heap.objs.size f (.ref c)))
   (λB d=>∃u,B=.ret u/\CE outer P w H s Q u d) (ik Ti P w K mg base N qual (δ st) f (.ref c) A outer s H E).xe b:=by
 obtain⟨q,U,z,t,r⟩:=h;refine Od (cs:=Uo s.heap.objs.size) (Tr:=U) I bm C q M.nd M.hi M.loc (M.qn _ _ _) (M.cl _ _ _) M.d0 M.k0 (M.an _ _ _) (M.YS _) (M.len _) t (λj a e=>?_) (λD V p o n l g=>r D _ V p o n l g) M.db M.dn;obtain⟨y,m,S,R,O,L,J⟩:=M.fv s.heap.objs.size f (.ref c) j a e;obtain⟨v,G,F⟩:=z j m L;exact(y,m,v,S,R,O,G,F,J)
theorem Uh.maker0(F:Uh K x qual st f fd)(S:aC N ps (δ st))(M:Qp N qual (δ st) T i slots Uo)(bm:BMain mg base)(b:fd.code=.ref c)(C:CodeHd base c Pt)(d:∀a H Q E,sp a H Q E->a.length=ps.length)
  (n:μ st=[.FunctionDef T.name T.params T.body [] none [] T.scope none T.name pos,.Return (some (.Name T.name p1)) p2])
  (h:∀(a:List V) (H:Hp) (Q:VK) (E:XK),sp a H Q E->Made H Pt pos T slots (start N a) Q):aV P w K mg base Ti (k+1) f fd ps sp:=by
 obtain⟨u,t,kV,p,r,z,j,y,o,rfl,m,g⟩:=F.ex;obtain rfl:j=.ref c:=b;refine En m g S d λA l s H a Q E q v e I=>?_;rw[n];exact Mp M bm C I (h a H Q E e)
theorem P0{sp:Addr->Sp}(S:uL N T)(y:∀(n:List (Str×Addr)) (d m b e:Value) (l:List Value),l.length=T.ps.length->bindArgs (fnX T.name T.qual T.params T.body T.scope n .none .none d m none b e) (l,[])=pure (T.ps.zip l))
  (h:∀(f:Addr) (j:List V) (H:Hp) (Q:VK),sp f j H Q E0->j.length=T.ps.length /\ ∃cs Tr,je H f T cs Tr /\
   ∀(b:Addr) (A:Around) (a:List Env) (s:Shared),eF k (A.deeper (envX T.qual T.scope s.heap.objs.size f (.ref b) (T.xs.zip cs))) -> ∃t,Um (sO P w K mg base N T.qual T.scope f (.ref b) (T.xs.zip cs) A a s (hide H cs)) T.body t/\t {nx:=λ_ H'=>Q .non (over H cs H'),rt:=λv H'=>Q v (over H cs H')} (start N (j++Tr)) (hide H cs)):
  fM P w K mg base (k+1) sp:=by
 intro f A a s H l j Q u z r o;obtain⟨q,cs,Tr,B,g⟩:=h f j H Q o;exact Oe S u z B (λn d m b e=>.of_eq (y n d m b e l (by rw[<-r.length];exact q))) r q λb p=>g b A a s p
end
theorem tab0{pos:Pos}(h:H a=some (.Tv #[])):TabAt H a pos x:=(#[],h,trivial,.inl rfl)
theorem vd{x:Str}{f c :Addr}{e:Value}{h g:Option Addr}{fd:FuncData}{d b:Array (Option Value)}(a:nsIn K mainGlobals x=some (some (.ref f)))(l:K.lookup f=some (q,h,.func fd,d))(i:fd.code=.ref c)
  (t:K.lookup c=some (e,g,.fields G,b))(p:G[11]?=some (.ref C)):tabIn K x=some (pq c C):=by
 unfold tabIn;simp only[a,l,i,t,p]
end L2
namespace PySem
open PyProof.Rows
namespace F
theorem lri_no_len:typeLookup (.type "list_reverseiterator") "__len__" = pure none:=by rw[typeLookup_type,builtinLookup_eq_fast];kernel_rfl
theorem lri_hint:typeLookup (.type "list_reverseiterator") "__length_hint__" = pure (some (.builtin "list_reverseiterator.__length_hint__")):=by rw[typeLookup_type,builtinLookup_eq_fast];kernel_rfl
end F
theorem uK{l:Addr}{i:Int}{Q:Bool->Shared->Prop}(d:s.heap.IsRevIter a l i)(h:Q false s):wpAny (model prog w) A (Builtin.List.listLengthHint (.ref a)) Q E s:=by
 unfold Builtin.List.listLengthHint;refine wpAny_bind (wpAny_specialOf d.typeIs F.lri_no_len ?_)
 show wpAny _ A (specialOf (Value.ref a) (Str.ofString "__length_hint__") >>= _) _ _ _
 refine wpAny_bind (wpAny_specialOf d.typeIs F.lri_hint ?_)
 generalize e:("list_reverseiterator.__length_hint__" : String)=id0
 wp_delta
 rw[show splitId id0=some (pq ("list_reverseiterator") ("__length_hint__"))from by subst e;decide +kernel]
 subst e
 refine wpAny_bind (wpAny_isInstance (T := "list_reverseiterator") (b:=true) d.typeIs (by rw[isSubtype_type];kernel_rfl) ?_)
 refine wpAny_ite_split (λc=>absurd c ∅) (λ_=>?_);refine wpAny_ite_split (λ_=>?_) (λc=>absurd (by decide +kernel) c);refine wpAny_ite_split (λc=>absurd c (by decide +kernel)) (λ_=>?_);exact wpAny_pure h
section
variable{R:Result->Shared->Prop}
theorem rM{l:Addr}{items:Array Value}(P:A.handled=none)(G:l≠a)(S:Addr)(k:Value)(n:Nat)(d:s.heap.IsRevIter a l ((items.size:Int)-1))(L:s.heap.IsList l items)(r:S≠a)(C:S≠l)
  (E:s.heap.get? S=some {cls:=.type "list",data:=.seq #[] n})
  (Q:∀h' tk c y,(∀b o,b≠S->b≠a->s.heap.get? b=some o->h'.get? b=some o)->h'.get? S=some {cls:=.type "list",dict:=none,data:=.seq c y,slots:=#[]} ->
   ItemsOf (λi v=>items[items.size-1-i]?=some v) c items.size->R (.ok (.ret k)) {s with heap:=h',toks:=tk})(N:items.size<=sizeLine):
  wpAny (model prog w) A.in1 (Builtin.List.listExtendWith (.ref S) (.ref a) k)
   (λK p=>match K with | .done f=>R (.ok f) p | .again y=>y.quiet=true/\codeAny (model prog w) A y R p) (λe p=>R (.error e) p) s:=by
 have I:S∉[a,l]:=λx=>by
  rcases aaO.mp x with e|x
  ·exact r e
  ·exact C (aat.mp x)
 have W:=(Walks.listRev (prog:=prog) (w:=w) (A:=A.in1) P a l G items).toS;have B:∀(h:Heap) (j tk:Nat),h.IsRevIter a l ((items.size:Int)-1)->h.IsList l items->(∀b o,b≠S->s.heap.get? b=some o->h.get? b=some o) ->
   h.get? S=some {cls:=.type "list",data:=.seq #[] j}->codeAny (model prog w) A (.builtin "list.extend.loop" ([.ref S,.ref a,k],[])) R {s with heap:=h,toks:=tk}:=by
  intro h j tk m t O u;refine codeAny_extend_loopS W N S I k items.size 0 _ #[] j rfl (aaF _) (aaF _,3,t) u (ItemsOf.nil _) λp c y x J D=>?_
  ·have e:(items.size:Int)-1-((0:Nat):Int)=(items.size:Int)-1:=by lia
   rw[e];exact m
  rw[Moved.eq_with x];refine Q p.heap p.toks c y (λb o z H e=>x.heap b o (λg=>?_) (O b o z e)) J D;rcases aaO.mp g with X | g
  ·exact z X
  ·exact H (aat.mp g)
 unfold Builtin.List.listExtendWith;refine wpAny_bind (wpAny_typeOf d.typeIs ?_);have V:Builtin.List.listSameRef (.ref S) (.ref a)=false:=by simp[Builtin.List.listSameRef,r]
 have U:(Value.type "list_reverseiterator" == Value.type "list")=false:=by decide
 have T:(Value.type "list_reverseiterator" == Value.type "tuple")=false:=by decide
 simp only[V,U,T,ahV,adT,if_false];refine wpAny_bind (wpAny_pyIter_revIter d ?_);refine wpAny_bind (wpAny_holding (uK d ?_));refine wpAny_ite_split (λ_=>?_) (λ_=>wpAny_pure (plainId_quiet F.plain_extend_loop _,B _ n _ d L (λb o _ e=>e) E));refine wpAny_bind (wpAny_rule ?_);refine wpAny_bind ?_;show wpAny _ _ (updateSeq S (·.push .none) >>= λ_=>updateSeq S (·.pop)) _ _ _;refine wpAny_bind (wpAny_updateSeq E rfl ?_);have M:=Heap.get?_update_self (Obj.mapSeq (·.push Value.none)) E rfl;refine wpAny_updateSeq (hz:=by seq_fits) M rfl ?_;have Y:=Heap.get?_update_self (Obj.mapSeq (·.pop)) M rfl;have q:∀b o,b≠S->s.heap.get? b=some o->((s.heap.update S (Obj.mapSeq (·.push Value.none))).update S (Obj.mapSeq (·.pop))).get? b=some o:=
  λb o z e=>(Heap.get?_update_other _ _ (af3 z)).trans ((Heap.get?_update_other _ _ (af3 z)).trans e)
 exact wpAny_pure (plainId_quiet F.plain_extend_loop _,B _ _ _ (d.at λo e=>q a o (af3 r) e) (L.at λo e=>q l o (af3 C) e) q Y)
theorem nH{l:Addr}{items:Array Value}(D:A.handled=none)(r:l≠a)(S:Addr)(t:s.heap.IsRevIter a l ((items.size:Int)-1))(B:s.heap.IsList l items)(j:S≠a)(h:S≠l)
  (p:s.heap.get? S=some {cls:=.type "list",data:=.seq #[]})
  (E:∀h' tk c g,(∀b o,b≠S->b≠a->s.heap.get? b=some o->h'.get? b=some o)->h'.get? S=some {cls:=.type "list",dict:=none,data:=.seq c g,slots:=#[]} ->
   ItemsOf (λi v=>items[items.size-1-i]?=some v) c items.size->R (.ok (.ret .none)) {s with heap:=h',toks:=tk})(z:items.size<=sizeLine):
  wpAny (model prog w) A.in1 (Builtin.«list.__init__» ([.ref S,.ref a],[]))
   (λy m=>match y with | .done f=>R (.ok f) m | .again g=>g.quiet=true/\codeAny (model prog w) A g R m) (λe m=>R (.error e) m) s:=by
 show wpAny _ _ (do let q <-Builtin.List.listItems (.ref S);Builtin.List.listUpdate (.ref S) (λ_=>#[]);letGo q.toList.reverse;Builtin.List.listExtendWith (.ref S) (.ref a) .none) _ _ s;refine wpAny_bind ?_;unfold Builtin.List.listItems;refine wpAny_bind (wpAny_seqItems p rfl (wpAny_pure ?_));show wpAny _ _ (updateSeq S (λ_=>#[]) >>= λ_=>letGo (#[]:Array Value).toList.reverse >>= λ_=>Builtin.List.listExtendWith (.ref S) (.ref a) .none) _ _ s;refine wpAny_bind (wpAny_updateSeq p rfl ?_);have F:=Heap.get?_update_self (Obj.mapSeq (λ_=>(#[]:Array Value))) p rfl;have d:∀b o,b≠S->s.heap.get? b=some o->(s.heap.update S (Obj.mapSeq (λ_=>(#[]:Array Value)))).get? b=some o:=
  λb o n e=>(Heap.get?_update_other _ _ (af3 n)).trans e
 refine wpAny_bind (wpAny_letGo ?_);refine rM D r S .none _ (t.at λo e=>d a o (af3 j) e) (B.at λo e=>d l o (af3 h) e) j h F (λh' tk c g C x k=>?_) z;exact E h' tk c g (λb o n u e=>C b o n u (d b o n e)) x k
end
theorem wF{Q:Value->Shared->Prop}{l:Addr}{items:Array Value}(y:A.handled=none)(p:l≠a)(g:s.heap.IsRevIter a l ((items.size:Int)-1))(r:s.heap.IsList l items)(u:items.size<=sizeLine)
  (B:∀h' tk c k,(∀b o,b≠a->s.heap.get? b=some o->h'.get? b=some o)->h'.get? s.heap.objs.size=some {cls:=.type "list",dict:=none,data:=.seq c k,slots:=#[]} ->
   ItemsOf (λi v=>items[items.size-1-i]?=some v) c items.size->Q (.ref s.heap.objs.size) {s with heap:=h',toks:=tk}):
  wpAny (model prog w) A (call (.type "list") [.ref a]) Q E s:=by
 obtain⟨D,n,_⟩:=id g;obtain⟨C,m,_⟩:=id r
 refine callType_codes (Q₁:=λf d=>f=.ref s.heap.objs.size/\d={s with heap:=s.heap.push {cls:=.type "list",data:=.seq #[]}}) F.called_list (F.typeCall_list_1 _) F.entry_list_init
  (code_list_new _ (7,7)) λf d h=>?_
 obtain⟨rfl,rfl⟩:=h
 have t:(s.heap.push {cls:=.type "list",data:=.seq #[]}).get? s.heap.objs.size=some {cls:=.type "list",data:=.seq #[]}:=Heap.get?_push_size _ rfl
 refine((_,t,7),F.args_list_init_2 _ _,nH (A:=A.in1) y p _ (g.at λo e=>Heap.get?_push_of_some _ e) (r.at λo e=>Heap.get?_push_of_some _ e) (agr (Heap.lt_size n)) (agr (Heap.lt_size m)) t (λh' tk c k x q j=>?_) u);exact(7,B h' tk c k (λb o z e=>x b o (aap (Heap.lt_size e)) z (Heap.get?_push_of_some _ e)) q j)
end PySem
namespace L2
open PySem.Spec PyProof.Rows PySem.W
inductive Ni(K:PySem.W.Frag)(Q:VK)(vs:List V)(H1:Hp):Prop
 | mk (p ys:_) (_:vs=[.ref p]) (_:Tg K H1 p ys) (_:∀l,H1 l=none->Q (.ref l) (upd H1 l (.lst ys.reverse)))
def Rv(K:PySem.W.Frag)(b:TA):TE:=λ a H Q=>b a H (Ni K Q)
theorem Dm{a:Expr}{p pos d:Pos}(hc:X.calm=true)(hg:Gl X "list")(Y:X.mg "list" = none)(U:bootBuiltins "list" = some (.type "list"))(A:Gl X "reversed")(z:X.mg "reversed" = none)(w:bootBuiltins "reversed" = some (.type "reversed"))
  (ha:PA X [a] t)(V:starEach [a] X.env=[(pq false (eval a X.env))]:=by rfl)
  (D:starEach [.Call (.Name "reversed" apos) [a] [] d] X.env=(pq false (eval (.Call (.Name "reversed" apos) [a] [] d) X.env))::starEach [] X.env:=by rfl)(x:(backTo pos (starEach [] X.env)).any (·.1)=false:=by rfl):
  PE X (.Call (.Name "list" p) [.Call (.Name "reversed" apos) [a] [] d] [] pos) (Rv X.K t):=by
 intro M s L H Q I h;refine wpAny_Call_Name_kw (cZ I hg Y U ?_);refine PyProof.Rows.callWith_type1 ?_ D x;rw[D]
 show wpAny _ _ (spliced ((pq false (eval (.Call (.Name "reversed" apos) [a] [] d) X.env))::backTo pos (starEach [] X.env))) _ _ s
 refine Calls.spliced_cons ?_;refine Call_ (cZ I A z w (PyProof.Rows.callWith_type1 (Th (ha d M s L H _ I h) λus j ⟨vs,H1,v,R,S⟩=>?_) V rfl));obtain⟨b,N,e,W,q⟩:=S;subst e;obtain⟨u,rfl,P⟩:=vals1 R;cases P;obtain⟨g,C,n,T⟩:=v.list W;have hl:=C.length;obtain⟨ob,y,J,F,G⟩:=id n.isList;have B:b<j.heap.objs.size:=Heap.lt_size y;refine call_reversed_list n.isList ?_;refine Calls.spliced_nil ?_;refine wF (I.ok.hd hc) (l:=b) (items:=g.toArray) (aap B) (_,Heap.get?_push_size _ rfl,7,7) (n.isList.push _) (by rw[aaB];lia) λh' O f c' Z hS k=>?_;have m:f=g.reverse.toArray:=by
  obtain⟨E,e2⟩:=k;apply Array.ext
  ·rw[E,aaB,aaB,ahF]
  ·intro i r h2;have:=e2 i f[i] (ahQ r);rw[aaB,ag2,<-List.getElem?_reverse (by rw[E,aaB]at r;exact r)]at this;rw[List.getElem_toArray];exact(aao ((aad _).symm.trans this)).symm
 subst m;refine(.ref _,_,v.laid (t':=O) (o:=.lst N.reverse) (λc o e=>Z c o (aap (Heap.lt_size e)) (Heap.get?_push_of_some _ e)) ?_ (by rw[ahF];exact T,g.reverse,c',C.reverse,hS),7,q _ (v.hok.fresh ?_))
 ·show j.heap.objs.size<=(j.heap.push _).objs.size;simp[Heap.push]
 ·show j.heap.objs.size<=(j.heap.push _).objs.size;simp[Heap.push]
end L2
namespace Tw
def Tree(a:List Int):Prop:=2<=a.length/\ht a a.length=0 /\ ∀k,0<k->k<a.length->0<ht a k
inductive il(n:Nat)(S:Nat):Prop
 | mk (h:_) (_:S=2^h) (_:n<=S) (_:∀j,j<h->2^j<n)
theorem il.uniq{n :Nat}(a:il n i)(b:il n R):i=R:=by
 obtain⟨h,rfl,f,d⟩:=a;obtain⟨k,rfl,e,c⟩:=b;rcases ago h k with q|q|q
 ·have:=c h q;lia
 ·rw[q]
 ·have:=d k q;lia
theorem il.pos{n :Nat}(a:il n i):1<=i:=by
 obtain⟨h,rfl,_⟩:=a;exact Nat.one_le_two_pow
theorem il.le{n :Nat}(a:il n i)(h:n<=4096):i<=4096:=by
 obtain⟨k,rfl,c,b⟩:=a;rcases aaq 12 k with q|q
 ·have:=b 12 q;lia
 ·exact afJ (aid ∅ q) ∅
def NodeOk(S st a n e:Nat):Prop:=1<=n/\S<=n*2^e/\(n+1)*2^e<=S+a/\(1<n->S<=n / 2*2^(e+1)/\(n / 2+1)*2^(e+1)<=2*S/\(n / 2*2^(e+1)<S+st\/S+a<(n / 2+1)*2^(e+1)))
def Chain(S st a:Nat):List Nat->Nat->Nat->Prop
 |[],x,y=>x=y
 |n::r,x,y=>∃e,n*2^e=x/\NodeOk S st a n e/\Chain S st a r ((n+1)*2^e) y
theorem Chain.append{S st a:Nat}:∀{l m:List Nat}{x y z:Nat},Chain S st a l x y->Chain S st a m y z->Chain S st a (l++m) x z
 |[],m,x,y,z,h,k=>by
  cases h;exact k
 |n::r,m,x,y,z,h,k=>by
  obtain⟨e,d,c,b⟩:=h;exact(e,d,c,b.append k)
theorem Chain.one{st n e:Nat}(h:NodeOk i st R n e):Chain i st R [n] (n*2^e) ((n+1)*2^e):=(e,7,h,7)
structure U3(S st sp e low high:Nat)(ls rs:List Nat):Prop where
 lo1:S+st<=low*2^e
 lo2:low*2^e<S+st+2^e
 hi1:high*2^e<=S+sp
 hi2:S+sp<high*2^e+2^e
 le:low<=high
 left:Chain S st sp ls (S+st) (low*2^e)
 right:Chain S st sp rs.reverse (high*2^e) (S+sp)
theorem U3.start{st :Nat}(h:st<=i):U3 n st i 0 (n+st) (n+i) [] []:=by
 exists 9,9,9,9,9,3
 ·show n+st=(n+st)*2^0;lia
 ·show (n+i)*2^0=n+i;lia
theorem Ai{e n:Nat}(c:2^i<=n*2^e)(b:n*2^e<2*2^i)(a:1<n):e<i:=by
 rcases aaq e i with q|q
 ·exact q
 ·exfalso;have:2^i<=2^e:=aid ∅ q;have:2*2^e<=n*2^e:=aga _ a;lia
theorem O3{e m:Nat}(d:e<n)(a:2^n<=(2*m+1)*2^e):2^n<=m*2^(e+1):=by
 have c:2^n=2^(n-e-1)*2^(e+1):=by
  rw[<-ajc];congr 1;lia
 rw[c]at a ⊢;refine aga _ ?_;rw[agt]at a;have b:2^(n-e-1)*(2^e*2)=(2*2^(n-e-1))*2^e:=by
  rw[agb (2^e) 2,<-agI,agb _ 2]
 rw[b]at a;have:=Nat.le_of_mul_le_mul_right a (af8 e);lia
theorem U3.leftOdd{st e a:Nat}{f:List Nat}(c:U3 n st i e R a u f)(g:∃h,n=2^h)(q:i<=n)(x:1<=n)(d:R<a)(w:R%2=1):Chain n st i (u++[R]) (n+st) ((R+1)*2^e):=by
 obtain⟨h,b⟩:=g;obtain⟨m,rfl⟩:∃m,R=2*m+1:=(R / 2,9);have v:0<2^e:=af8 e;have t:(2*m+1+1)*2^e<=a*2^e:=aga _ d;have s:=c.lo1;have r:=c.lo2;have y:=c.hi1;have p:(2*m+1) / 2=m:=by lia
 have l:m*2^(e+1)=2*(m*2^e):=by rw[agt,<-agI,agb]
 have k:(2*m+1)*2^e=2*(m*2^e)+2^e:=by rw[ag3,agI,ag4]
 have A:(2*m+1+1)*2^e=2*(m*2^e)+2^e+2^e:=by rw[ag3,k,ag4]
 have z:(m+1)*2^(e+1)=2*(m*2^e)+2*2^e:=by rw[ag3,l,ag4,agt];lia
 refine c.left.append (.one (9,9,9,λj=>?_));rw[p];have ht:e<h:=by
  refine Ai (n:=2*m+1) ?_ ?_ j
  ·rw[<-b];lia
  ·rw[<-b];lia
 have o:=O3 (m:=m) ht (by rw[<-b];lia);rw[<-b]at o;exact(o,9,.inl ⋯)
theorem U3.rightOdd{st e a:Nat}{d:List Nat}(c:U3 n st i e R a u d)(j:∃h,n=2^h)(t:i<=n)(A:1<=n)(v:R<a)(z:a%2=1):Chain n st i (d++[a-1]).reverse ((a-1)*2^e) (n+i):=by
 obtain⟨m,rfl⟩:∃m,a=2*m+1:=(a / 2,9);have y:0<2^e:=af8 e;have x:R*2^e<=(2*m)*2^e:=aga _ ⋯;have f:=c.lo1;have C:=c.hi1;have B:=c.hi2;have w:1<=R:=by
  rcases ad3 R with q|q
  ·rw[q,ahM]at f;lia
  ·exact q
 have s:m*2^(e+1)=2*(m*2^e):=by rw[agt,<-agI,agb]
 have F:(2*m+1)*2^e=2*(m*2^e)+2^e:=by rw[ag3,agI,ag4]
 have E:(2*m)*2^e=2*(m*2^e):=by rw[agI]
 have D:(m+1)*2^(e+1)=2*(m*2^e)+2*2^e:=by rw[ag3,s,ag4,agt];lia
 have r:2*m+1-1=2*m:=by lia
 have p:2*m / 2=m:=by lia
 have g:=c.right;rw[agC,r];refine Chain.append (l:=[2*m]) (.one (9,9,9,λk=>?_)) g;rw[p];obtain⟨h,b⟩:=j;have ht:e<h:=by
  refine Ai (n:=2*m) ?_ ?_ k
  ·rw[<-b];lia
  ·rw[<-b];lia
 have o:2*n=2^(h-e)*2^(e+1):=by
  rw[b,<-ajc,agb,<-agt];congr 1;lia
 refine(9,3,.inr ⋯);rw[o];refine aga _ ?_;have:m*2^(e+1)<2^(h-e)*2^(e+1):=by lia
 have:=Nat.lt_of_mul_lt_mul_right this;lia
theorem U3.step{st e a:Nat}{g:List Nat}(c:U3 n st i e R a u g)(q:∃h,n=2^h)(d:i<=n)(r:1<=n)(f:R<a):
  U3 n st i (e+1) ((R+R%2) / 2) ((a-a%2) / 2) (if R%2=1 then u++[R]else u) (if a%2=1 then g++[a-1]else g):=by
 have w:=c.lo1;have v:=c.lo2;have A:=c.hi1;have y:=c.hi2;have x:0<2^e:=af8 e;have j:2^(e+1)=2*2^e:=by rw[agt,agb]
 have b:∀m,m*2^(e+1)=(2*m)*2^e:=λm=>by rw[j,<-agI,agb m 2]
 have k:2*((R+R%2) / 2)=R+R%2:=by lia
 have l:2*((a-a%2) / 2)=a-a%2:=by lia
 have p:(R+R%2)*2^e=R*2^e+(R%2)*2^e:=ag3 ..;have o:(a-a%2)*2^e+(a%2)*2^e=a*2^e:=by
  rw[<-ag3];congr 1;lia
 have t:(R%2)*2^e=if R%2=1 then 2^e else 0:=by
  split
  ·rename_i z;rw[z,ag4]
  ·rename_i z;rw[show R%2=0 from by lia,ahM]
 have s:(a%2)*2^e=if a%2=1 then 2^e else 0:=by
  split
  ·rename_i z;rw[z,ag4]
  ·rename_i z;rw[show a%2=0 from by lia,ahM]
 exists 3,3,3,3,9,3
 ·rw[b,k,p];lia
 ·rw[b,k,p,j,t];split<;>lia
 ·rw[b,l];lia
 ·rw[b,l,j];rw[s]at o;split at o<;>lia
 ·rw[b,k];split
  ·rename_i z;rw[z];exact c.leftOdd q d r f z
  ·rename_i z;rw[show R%2=0 from by lia,ahN];exact c.left
 ·rw[b,l];split
  ·rename_i z;rw[z];exact c.rightOdd q d r f z
  ·rename_i z;rw[show a%2=0 from by lia,agQ];exact c.right
theorem U3.fin{st e a:Nat}{b:List Nat}(c:U3 n st i e R a u b)(h:a<=R):Chain n st i (u++b.reverse) (n+st) (n+i):=by
 have:R=a:=ah6 c.le h;subst this;exact c.left.append c.right
def CQ:Nat->Nat->Nat->List Nat->List Nat->List Nat
 |0,_,_,d,c=>d++c.reverse
 |f+1,b,a,d,c=>if b<a then CQ f ((b+b%2) / 2) ((a-a%2) / 2) (if b%2=1 then d++[b]else d) (if a%2=1 then c++[a-1]else c)else d++c.reverse
theorem K6{f :Nat}{a:List Nat}(h:i<=n):CQ f n i u a=u++a.reverse:=by
 cases f with
 |zero=>rfl
 |succ f=>
  unfold CQ;rw[if_neg ⋯]
theorem uN{S st g:Nat}(k:∃h,S=2^h)(d:g<=S)(l:1<=S):∀(f e b a:Nat) (j i:List Nat),U3 S st g e b a j i->a-b<=f->Chain S st g (CQ f b a j i) (S+st) (S+g)
 |0,e,b,a,j,i,c,h=>c.fin ⋯
 |f+1,e,b,a,j,i,c,h=>by
  unfold CQ;by_cases q:b<a
  ·rw[if_pos q];exact uN k d l f (e+1) _ _ _ _ (c.step k d l q) ⋯
  ·rw[if_neg q];exact c.fin ⋯
def cover(S st a:Nat):List Nat:=CQ (a-st) (S+st) (S+a) [] []
theorem rW{st :Nat}(b:∃h,n=2^h)(h:st<=i)(a:i<=n)(c:1<=n):Chain n st i (cover n st i) (n+st) (n+i):=
 uN b a c _ 0 _ _ _ _ (.start h) ⋯
end Tw
namespace PySem
open PyProof.Rows
namespace F
end F
end PySem
namespace L2
open PySem.Spec PyProof.Rows
theorem Pk(a b:Nat):Builtin.Range.rangeSize a b (-1)=((a-b:Nat):Int):=by
 unfold Builtin.Range.rangeSize;rw[if_neg ∅,show (- -1:Int)=1 from rfl,aiF];split<;>lia
theorem Gg{a b:Nat}(d:a<536870912)(c:b<536870912):Builtin.Range.small a b (-1)=true:=by
 unfold Builtin.Range.small Builtin.Range.rangeFitsLong;rw[Pk];have e:(2:Int)^63=9223372036854775808:=by decide
 rw[e,if_neg ∅];refine iH (iH (iH (iH (iH (decide_eq_true ?_) (decide_eq_true ?_)) (iH (decide_eq_true ?_) (decide_eq_true ?_))) ∅) (iH (decide_eq_true ?_) (decide_eq_true ?_))) ?_
 ·lia
 ·lia
 ·lia
 ·lia
 ·lia
 ·lia
 ·rw[ah5];exact .inr (iH (decide_eq_true ⋯) (decide_eq_true ⋯))
inductive Ln(R:It->Hp->Prop)(vs:List V)(H1:Hp):Prop
 | mk (a b:Nat) (_:vs=[.int (a:Int),.int (b:Int),.int (-1)]) (_:a<536870912) (_:b<536870912) (_:R (Wb a (-1) (a-b)) H1)
def PX(b:TA):TI:=λ a H R=>b a H (Ln R)
theorem Ex{a b c:Expr}{p pos:Pos}(F:Gl X "range")(E:X.mg "range" = none)(J:PA X [a,b,c] t)(D:starEach [a,b,c] X.env=[(pq false (eval a X.env)),(pq false (eval b X.env)),(pq false (eval c X.env))]:=by rfl)
  (j:starEach [b,c] X.env=[(pq false (eval b X.env)),(pq false (eval c X.env))]:=by rfl):PI X tg (.Call (.Name "range" p) [a,b,c] [] pos) (PX t):=by
 intro u s n H R I h;refine Call_ (cZ I F E boot_range (PyProof.Rows.callWith_type1 (Th (J pos u s n H _ I h) λO g ⟨N,v,M,w,A⟩=>?_) (by rw[D,j]) (by rw[j];rfl)));obtain⟨x,y,e,C,B,q⟩:=A;subst e;cases w with
 |cons r i=>
  cases i with
  |cons z i=>
   cases i with
   |cons m i=>
    cases i;obtain⟨d,rfl⟩:=r;obtain⟨k,rfl⟩:=z;obtain⟨f,rfl⟩:=m;refine call_range_3 ∅ ?_ (.inl (PyProof.noPylong_small ∅));refine wpAny_pyIter_range (IsRange.new ..) (Gg C B) ?_
    have l:Inv X u n v {g with heap:=g.heap.push {cls:=.type "range",data:=.fields #[.int x d,.int y k,.int (-1) f]},toks:=g.toks}:=M.kept λb o e=>Heap.get?_push_of_some _ e
    refine((g.heap.push {cls:=.type "range",data:=.fields #[.int x d,.int y k,.int (-1) f]}).objs.size,[(g.heap.push {cls:=.type "range",data:=.fields #[.int x d,.int y k,.int (-1) f]}).objs.size],8,v,7,
     l.kept (t':=g.toks) λb o e=>Heap.get?_push_of_some _ e,rA _ x (-1) (x-y),3,λb G=>?_,q)
    ·have L:(x:Int)+((0:Nat):Int)*(-1)=x:=by lia
     have K:((x-y:Nat):Int)-((0:Nat):Int)=Builtin.Range.rangeSize x y (-1):=by rw[Pk];lia
     show IsRangeIter _ _ ((x:Int)+((0:Nat):Int)*(-1)) (((x-y:Nat):Int)-((0:Nat):Int)) (-1);rw[L,K];exact Heap.get?_push_size _ rfl
    ·have e:b=(g.heap.push {cls:=.type "range",data:=.fields #[.int x d,.int y k,.int (-1) f]}).objs.size:=by simpa using G
     subst e;exact l.fpOk (aac _) (l.hok.fresh (aac _))
end L2
namespace Tw
def NI(x:V):Prop:=x=.non \/ ∃i,x=.int i
def xP:V->V->V
 |.non,y=>y
 |.int a,.int b=>.int (if b<a then b else a)
 |x,_=>x
theorem yf(y:V):xP .non y=y:=by cases y<;>rfl
theorem J0{x y:V}(b:NI x)(a:NI y):NI (xP x y):=by
 rcases b with rfl|⟨i,rfl⟩
 ·rw[yf];exact a
 ·rcases a with rfl|⟨j,rfl⟩
  ·exact .inr (i,7)
  ·exact .inr (_,7)
def Be(a:List Int)(i:Nat):V:=match a[i]? with|some c=>.int c|none=>.non
theorem vH{i:Nat}{c:Int}(h:d[i]?=some c):Be d i=.int c:=by
 unfold Be;rw[h]
theorem Gf{i:Nat}(h:d.length<=i):Be d i=.non:=by
 unfold Be;rw[agH h]
structure jk(ns:List Int)(S k:Nat)(xs:List V):Prop where
 len:xs.length=2*S
 zero:xs[0]?=some .non
 leaf:∀i,i<S->xs[S+i]?=some (Be ns i)
 node:∀j,k<=j->1<=j->j<S -> ∃x y,xs[2*j]?=some x/\xs[2*j+1]?=some y/\xs[j]?=some (xP x y)
 ni:∀x∈xs,NI x
theorem jk.start(k:1<=n)(b:d.length<=n):jk d n n (aaE n V.non++d.map V.int++aaE (n-d.length) V.non):=by
 refine(3,3,λi c=>?_,λj g f e=>by lia,λx a=>?_)
 ·simp only[aaf,abp,aaa];lia
 ·rw[aaQ,aaz (by rw[abp];lia),agz,if_pos ⋯]
 ·rw[aaQ,aas (by rw[abp];lia),abp,aeC];by_cases h:i<d.length
  ·rw[aaz (by rw[aaa];exact h),aag,aad h,vH (aad h)];rfl
  ·rw[aas (by rw[aaa];lia),aaa,agz,if_pos ⋯,Gf ⋯]
 ·rcases aba.mp a with a|a
  ·rcases aba.mp a with a|a
   ·exact .inl (agN a)
   ·obtain⟨i,_,rfl⟩:=aa3.mp a;exact .inr (i,7)
  ·exact .inl (agN a)
theorem jk.step{k:Nat}{xs:List V}{x y:V}(h:jk d n (k+1) xs)(A:1<=k)(w:k<n)(m:xs[2*k]?=some x)(l:xs[2*k+1]?=some y):jk d n k (xs.set k (xP x y)):=by
 have o:=h.len;have f:∀j,j≠k->(xs.set k (xP x y))[j]?=xs[j]?:=λj p=>aha (af3 p);refine(by rw[aiO];exact o,3,λi q=>?_,λj a b c=>?_,λz g=>?_)
 ·rw[f 0 ⋯];exact h.zero
 ·rw[f (n+i) ⋯];exact h.leaf i q
 ·by_cases e:j=k
  ·subst e;exists x,y,3,?_
   ·rw[f (2*j) ⋯];exact m
   ·rw[f (2*j+1) ⋯];exact l
   ·exact agV ⋯
  ·obtain⟨u,v,t,s,r⟩:=h.node j ⋯ b c;exists u,v,3,?_
   ·rw[f (2*j) ⋯];exact t
   ·rw[f (2*j+1) ⋯];exact s
   ·rw[f j e];exact r
 ·rcases List.mem_or_eq_of_mem_set g with g|rfl
  ·exact h.ni z g
  ·exact J0 (h.ni x (aah m)) (h.ni y (aah l))
theorem Gk{xs:List V}{j:Nat}{x:V}(h:xs[j]?=some x):T7 xs (j:Int)=some x:=m8 h
def vG(d:List Int)(a b:Nat)(M:Int):Prop:=(∃i,a<=i/\i<b/\d[i]?=some M) /\ ∀i c,a<=i->i<b->d[i]?=some c->M<=c
theorem vG.join{a b c:Nat}{N:Int}(h:vG d a b m)(k:vG d b c N)(v:a<=b)(u:b<=c):vG d a c (if N<m then N else m):=by
 obtain⟨⟨i,r,y,p⟩,s⟩:=h;obtain⟨⟨j,w,o,n⟩,l⟩:=k;constructor
 ·split
  ·exact(j,9,o,n)
  ·exact(i,r,9,p)
 ·intro t x g f e;rcases aaq t b with q|q
  ·have:=s t x g q e;split<;>lia
  ·have:=l t x q f e;split<;>lia
theorem jk.least{b:List Int}{S:Nat}{xs:List V}(h:jk b S 1 xs)(k:b.length<=S):∀e n a:Nat,n*2^e=S+a->a+2^e<=b.length->1<=n -> ∃M,xs[n]?=some (.int M)/\vG b a (a+2^e) M
 |0,n,a,d,j,g=>by
  rw[ahv]at j;rw[ahv,Nat.mul_one]at d;have f:b[a]?=some b[a]:=aad ⋯;have:=h.leaf a ⋯;rw[<-d,vH f]at this;refine(_,this,(a,aac _,9,f),λi c B A e=>?_);have:i=a:=by lia
  subst this;rw[f]at e;cases e;exact aiQ _
 |e+1,n,a,d,j,g=>by
  have C:0<2^e:=af8 e;have o:2^(e+1)=2*2^e:=by rw[agt,agb]
  rw[o]at d j;have p:2*n*2^e=S+a:=by rw[<-d,<-agI,agb n 2]
  have w:(2*n+1)*2^e=S+(a+2^e):=by rw[ag3,p,ag4];lia
  have s:n<S:=by
   rcases aaq n S with z|z
   ·exact z
   ·exfalso;have:S*(2*2^e)<=n*(2*2^e):=aga _ z;have:2*S<=S*(2*2^e):=by
     rw[agb 2 S];exact aij _ ⋯
    lia
  obtain⟨M,v,r⟩:=jk.least h k e (2*n) a p ⋯ ⋯;obtain⟨N,u,q⟩:=jk.least h k e (2*n+1) (a+2^e) w ⋯ ⋯;obtain⟨x,y,m,l,t⟩:=h.node n g g s;rw[v]at m;rw[u]at l;cases m;cases l;exists _,t;have:=r.join q ⋯ ⋯;rw[o,show a+2*2^e=a+2^e+2^e from by lia];exact this
def qi(xs:List V)(n:Nat):Int:=match xs[n]? with|some (.int M)=>M|_=>0
theorem gW{xs:List V}{n:Nat}(h:xs[n]?=some (.int m)):qi xs n=m:=by
 unfold qi;rw[h]
theorem oK{d:List Int}{S st j:Nat}{xs:List V}(h:jk d S 1 xs)(x:d.length<=S)(s:j<=d.length):∀{l:List Nat}{a b:Nat},Chain S st j l (S+a) (S+b)->b<=j ->
  a<=b/\(∀n∈l,1<=n/\n<2*S/\xs[n]?=some (.int (qi xs n)))/\(∀v∈l.map (qi xs),∃i,a<=i/\i<b/\d[i]?=some v) /\ ∀i c,a<=i->i<b->d[i]?=some c -> ∃v∈l.map (qi xs),v<=c
 |[],a,b,g,_=>by
  have g:S+a=S+b:=g;exact(9,nofun,nofun,λi c N w _=>by lia)
 |n::r,a,b,g,P=>by
  obtain⟨e,z,⟨t,T,F,_⟩,A⟩:=g;have O:0<2^e:=af8 e;have Q:(n+1)*2^e=S+(a+2^e):=by rw[ag0,z];lia
  rw[Q]at A F;obtain⟨N,w,L,K⟩:=oK h x s A P;obtain⟨M,u,H,G⟩:=h.least x e n a z ⋯ t;have o:=gW u;have R:n<=n*2^e:=Nat.le_mul_of_pos_right _ O;refine(9,λk m=>?_,λv f=>?_,λi c J I y=>?_)
  ·rcases aaO.mp m with rfl|m
   ·exact(t,9,by rw[o];exact u)
   ·exact w k m
  ·rw[aaD]at f;rcases aaO.mp f with rfl|f
   ·obtain⟨i,C,B,p⟩:=H;exact(i,C,9,by rw[o];exact p)
   ·obtain⟨i,C,B,p⟩:=L v f;exact(i,9,B,p)
  ·rcases aaq i (a+2^e)with q|q
   ·exact(M,by rw[aaD,o];exact .head _,G i c J q y)
   ·obtain⟨v,E,D⟩:=K i c q I y;exact(v,by rw[aaD];exact .tail _ E,D)
theorem jk.kids{xs:List V}(h:jk d n 1 xs)(f:d.length<=n){e m b:Nat}(i:m*2^(e+1)=n+b)(s:b+2^(e+1)<=d.length)(g:1<=m):
  ∃M N,xs[2*m]?=some (.int M)/\xs[2*m+1]?=some (.int N)/\vG d b (b+2^e) M/\vG d (b+2^e) (b+2^(e+1)) N/\qi xs m=(if N<M then N else M)/\2*m*2^e=n+b/\(2*m+1)*2^e=n+(b+2^e)/\m<n:=by
 have v:0<2^e:=af8 e;have u:2^(e+1)=2*2^e:=by rw[agt,agb]
 rw[u]at i s ⊢;have a:2*m*2^e=n+b:=by rw[<-i,<-agI,agb m 2]
 have p:(2*m+1)*2^e=n+(b+2^e):=by rw[ag3,a,ag4];lia
 have c:m<n:=by
  rcases aaq m n with z|z
  ·exact z
  ·exfalso;have:n*(2*2^e)<=m*(2*2^e):=aga _ z;have:2*n<=n*(2*2^e):=by
    rw[agb 2 n];exact aij _ ⋯
   lia
 obtain⟨M,o,r⟩:=h.least f e (2*m) b a ⋯ ⋯;obtain⟨N,l,q⟩:=h.least f e (2*m+1) (b+2^e) p ⋯ ⋯;obtain⟨x,y,k,j,t⟩:=h.node m g g c;rw[o]at k;rw[l]at j;cases k;cases j;refine(M,N,o,l,r,3,gW t,a,p,c);rw[show b+2*2^e=b+2^e+2^e from by lia];exact q
def XR(a:List Int)(s x y:Nat)(g:Int)(i:Nat):Prop:=x<=i/\i<y/\(∃c,a[i]?=some c/\c<=g) /\ ∀j c,x<=j->j<y->(if s=0 then j<i else i<j)->a[j]?=some c->g<c
structure wK(ns:List Int)(xs:List V)(S s x y:Nat)(g:Int)(e m b:Nat):Prop where
 at_:m*2^e=S+b
 lo:x<=b
 hi:b+2^e<=y
 one:1<=m
 low:qi xs m<=g
 out:∀j c,x<=j->j<y->(if s=0 then j<b else b+2^e<=j)->ns[j]?=some c->g<c
theorem wK.hit{xs:List V}{s x y m b:Nat}{g:Int}(h:jk d n 1 xs)(q:d.length<=n)(B:y<=d.length)(C:s<=1)(a:wK d xs n s x y g 0 m b):m=n+b/\XR d s x y g b:=by
 have t:=a.at_;have r:=a.hi;rw[ahv]at t r;obtain⟨M,w,⟨i,A,p,o⟩,_⟩:=h.least q 0 m b a.at_ (by rw[ahv];lia) a.one;have u:i=b:=by rw[ahv]at p;lia
 subst u;have e:=a.low;rw[gW w]at e;refine(9,a.lo,9,(M,o,e),λj c l k f v=>a.out j c l k ?_ v);split
 ·rename_i z;rw[if_pos z]at f;exact f
 ·rename_i z;rw[if_neg z]at f;rw[ahv];lia
theorem wK.step{xs:List V}{s x y m b e:Nat}{g:Int}(h:jk d n 1 xs)(H:d.length<=n)(K:y<=d.length)(L:s<=1)(a:wK d xs n s x y g (e+1) m b):
  ∃v,xs[2*m+s]?=some (.int v)/\m<n/\2*m+s<2*n/\(v<=g -> ∃A,wK d xs n s x y g e (2*m+s) A)/\(g<v -> ∃A,wK d xs n s x y g e (2*m+1-s) A):=by
 have B:=a.hi;have r:=a.lo;have t:=a.one;have O:0<2^e:=af8 e;have J:2^(e+1)=2*2^e:=by rw[agt,agb]
 obtain⟨M,N,w,u,G,C,I,F,E,D⟩:=h.kids H a.at_ ⋯ t;have i:=a.low;rw[I]at i;have f:=a.out;rw[J]at B f C;rcases(show s=0\/s=1 by lia)with rfl|rfl
 ·refine(M,w,D,9,λq=>(b,F,r,9,9,by rw[ahN,gW w];exact q,λj c p o k l=>f j c p o k l),λq=>(b+2^e,E,9,9,9,3,λj c p o k l=>?_))
  ·show qi xs (2*m+1-0)<=g;rw[agQ,gW u];split at i<;>lia
  ·rw[if_pos rfl]at k;rcases aaq j b with z|z
   ·exact f j c p o (by rw[if_pos rfl];exact z) l
   ·have:=G.2 j c z k l;lia
 ·refine(N,u,D,9,λq=>(b+2^e,E,9,9,9,by rw[gW u];exact q,λj c p o k l=>f j c p o ?_ l),λq=>(b,3,r,9,9,3,λj c p o k l=>?_))
  ·rw[if_neg ∅]at k ⊢;lia
  ·rw[ahp];exact F
  ·rw[ahp,gW w];split at i<;>lia
  ·rw[if_neg ∅]at k;rcases aaq j (b+2*2^e)with z|z
   ·have:=C.2 j c k z l;lia
   ·exact f j c p o (by rw[if_neg ∅];exact z) l
theorem wK.start{xs:List V}{s n a e:Nat}{g:Int}(k:n*2^e=i+a)(h:1<=n)(f:qi xs n<=g):wK d xs i s a (a+2^e) g e n a:=
 (k,aac _,aac _,h,f,λj c m l b _=>by split at b<;>lia)
theorem sW{S st a:Nat}:∀{l:List Nat}{x y:Nat} (k:Nat),Chain S st a l x y -> ∃z,Chain S st a (l.take k) x z/\Chain S st a (l.drop k) z y
 |l,x,y,0,h=>(x,7,h)
 |[],x,y,k+1,h=>(x,7,h)
 |n::r,x,y,k+1,h=>by
  obtain⟨e,g,f,d⟩:=h;obtain⟨z,c,b⟩:=sW k d;exact(z,(e,g,f,c),b)
theorem Dg{S st a:Nat}:∀{l:List Nat}{x y:Nat},Chain S st a l x y->x<=y
 |[],x,y,h=>ahk h
 |n::r,x,y,h=>by
  obtain⟨e,c,_,b⟩:=h;have:=Dg b;have:n*2^e<=(n+1)*2^e:=aga _ (agS _);lia
def T8(a:List Int)(n:Nat):List Int:=(ab5 (n+1)).map λk=>(a.take (32*k)).sum
theorem dq(a:List Int)(n:Nat):(T8 a n).length=n+1:=by simp[T8]
theorem o8{n k:Nat}(h:k<=n):(T8 d n)[k]?=some (d.take (32*k)).sum:=by
 have:k<n+1:=by lia
 simp[T8,this]
def jJ(bs:List Int)(k:Nat):Int:=((bs.take k).map λb=>ones b 32).sum
theorem sY{bs:List Int}{k:Nat}{b:Int}(h:bs[k]?=some b):jJ bs (k+1)=jJ bs k+ones b 32:=by
 unfold jJ;rw[acC,h];simp[ahn]
def aheads(bs:List Int)(n:Nat):List Int:=(ab5 (n+1)).map (jJ bs)
theorem xj(bs:List Int)(n:Nat):(aheads bs n).length=n+1:=by simp[aheads]
theorem Bw(bs:List Int)(n:Nat):aheads bs (n+1)=aheads bs n++[jJ bs (n+1)]:=by
 unfold aheads;rw[agd,aal];rfl
theorem Dd(bs:List Int)(n:Nat):aheads bs n=(ab5 n).map (jJ bs)++[jJ bs n]:=by
 unfold aheads;rw[agd,aal];rfl
theorem pL{a:List Int}(h:bc a):∀k:Nat,k<=many a.length->jJ (bB a) k=(a.take (32*k)).sum
 |0,_=>by simp[jJ]
 |k+1,b=>by
  rw[sY (jT ⋯),pL h k ⋯,mY h k 32 ⋯];rfl
theorem zQ(h:bc d):aheads (bB d) (bB d).length=T8 d (many d.length):=by
 rw[bC];unfold aheads T8;refine ahh λk a=>?_;have:=agU.mp a;exact pL h k ⋯
def wide(n j:Nat):Nat:=min 32 (n-32*j)
def yd(a:List Int)(j:Nat)(m:Int):Prop:=(∃k,32*j<k/\k<=32*j+32/\k<=a.length/\m=ht a k) /\ ∀k,32*j<k->k<=32*j+32->k<=a.length->m<=ht a k
theorem yd.of(h:bc d){j:Nat}(g:m∈nets (cD d j) (wide d.length j))(b:∀a∈nets (cD d j) (wide d.length j),m<=a):yd d j (ht d (32*j)+m):=by
 unfold wide at *;constructor
 ·obtain⟨k,f,c,rfl⟩:=Ab.mp g;refine(32*j+k,9,9,9,3);rw[ph h j k ⋯]
 ·intro k f c i;have:=b _ (Ab.mpr (k-32*j,9,9,7));have e:=ph h j (k-32*j) ⋯;rw[show 32*j+(k-32*j)=k from by lia]at e;lia
structure DY(ns ls:List Int):Prop where
 len:ls.length=many ns.length
 low:∀j m,ls[j]?=some m->yd ns j m
def hts(a:List Int)(n:Nat):List Int:=(ab5 (n+1)).map (ht a)
theorem Tree.pos(t:Tree d){k:Nat}(h:k<=d.length):0<=ht d k:=by
 obtain⟨e,b,a⟩:=t;rcases ad3 k with rfl|c
 ·rw[jr];decide
 rcases aaq k d.length with q|q
 ·have:=a k c q;lia
 ·have:k=d.length:=by lia
  rw[this,b];decide
def dY(c:List Int)(a b:Nat)(g:Int)(k:Nat):Prop:=a<k/\k<=b/\ht c k<=g /\ ∀i,a<i->i<k->g<ht c i
def jC(c:List Int)(a b:Nat)(g:Int)(k:Nat):Prop:=a<k/\k<=b/\ht c k<=g /\ ∀i,k<i->i<=b->g<ht c i
def cG(c:List Int)(a b:Nat)(g:Int):Prop:=∀i,a<i->i<=b->g<ht c i
theorem o6(h:bc d){j st k:Nat}{g:Int}(e:n<=32):Due (cD d j) st n (g-ht d (32*j)) k ↔ st<k/\k<=n/\ht d (32*j+k)<=g:=by
 unfold Due;constructor
 ·rintro⟨a,b,c⟩;have:=ph h j k ⋯;exact(a,b,9)
 ·rintro⟨a,b,c⟩;have:=ph h j k ⋯;exact(a,b,9)
theorem first_within(h:bc d){j st k:Nat}{g:Int}(e:n<=32)(hd:Due (cD d j) st n (g-ht d (32*j)) k)(f:∀i,Due (cD d j) st n (g-ht d (32*j)) i->k<=i):dY d (32*j+st) (32*j+n) g (32*j+k):=by
 obtain⟨a,b,c⟩:=(o6 h e).mp hd;refine(9,9,c,λi m l=>?_);rcases ahO g (ht d i)with q|q
 ·exact q
 ·have:=f (i-32*j) ((o6 h e).mpr (9,9,by rw[show 32*j+(i-32*j)=i from by lia];exact q));lia
theorem last_within(h:bc d){j st k:Nat}{g:Int}(e:n<=32)(hd:Due (cD d j) st n (g-ht d (32*j)) k)(f:∀i,Due (cD d j) st n (g-ht d (32*j)) i->i<=k):jC d (32*j+st) (32*j+n) g (32*j+k):=by
 obtain⟨a,b,c⟩:=(o6 h e).mp hd;refine(9,9,c,λi m l=>?_);rcases ahO g (ht d i)with q|q
 ·exact q
 ·have:=f (i-32*j) ((o6 h e).mpr (9,9,by rw[show 32*j+(i-32*j)=i from by lia];exact q));lia
theorem sr(h:bc d){j st :Nat}{g:Int}(a:n<=32)(b:∀i,¬Due (cD d j) st n (g-ht d (32*j)) i):cG d (32*j+st) (32*j+n) g:=λi e c=>by
 rcases ahO g (ht d i)with q|q
 ·exact q
 ·exact absurd ((o6 h a).mpr (9,9,by rw[show 32*j+(i-32*j)=i from by lia];exact q)) (b (i-32*j))
theorem cG.join{a b c:Nat}{g:Int}(h:cG d a b g)(k:cG d b c g):cG d a c g:=λi f e=>by
 rcases aaq b i with q|q
 ·exact k i q e
 ·exact h i f q
theorem cG.empty{a b:Nat}{g:Int}(h:b<=a):cG d a b g:=λi e c=>by lia
theorem DY.none(h:DY d M){i j:Nat}{g:Int}(f:∀t c,i<=t->t<j->M[t]?=some c->g<c){b:Nat}(o:b<=32*j)(n:b<=d.length):cG d (32*i) b g:=λk m l=>by
 have a:=h.len;have ht:(k-1) / 32<M.length:=by
  rw[a];unfold many;lia
 have e:=aad ht;have q:=f ((k-1) / 32) _ ⋯ ⋯ e;have p:=(h.low _ _ e).2 k ⋯ ⋯ ⋯;lia
theorem DY.some(h:DY d M){t:Nat}{c g:Int}(e:M[t]?=.some c)(i:c<=g):¬cG d (32*t) (min (32*t+32) d.length) g:=λz=>by
 obtain⟨⟨k,a,f,b,j⟩,_⟩:=h.low t c e;have:=z k a ⋯;lia
theorem dY.after{a b c k:Nat}{g:Int}(h:cG d a b g)(f:dY d b c g k)(o:a<=b):dY d a c g k:=by
 obtain⟨p,n,m,l⟩:=f;refine(9,n,m,λi j e=>?_);rcases aaq b i with q|q
 ·exact l i q e
 ·exact h i j q
theorem dY.wider{a b c k:Nat}{g:Int}(f:dY d a b g k)(h:b<=c):dY d a c g k:=(f.1,by have:=f.2.1;lia,f.2.2)
theorem jC.ahead{a b c k:Nat}{g:Int}(h:cG d b c g)(f:jC d a b g k)(o:b<=c):jC d a c g k:=by
 obtain⟨n,p,m,l⟩:=f;refine(n,9,m,λi j e=>?_);rcases aaq b i with q|q
 ·exact h i q e
 ·exact l i j q
theorem jC.wider{a b k:Nat}{g:Int}(f:jC d a b g k)(h:n<=a):jC d n b g k:=(by have:=f.1;lia,f.2)
def Eg(a:List Int)(b:Nat)(g:Int)(k:Nat):Prop:=k<b/\ht a k<=g /\ ∀i,k<i->i<b->g<ht a i
def Pu(a:List Int)(b:Nat)(g:Int):Prop:=∀i,i<b->g<ht a i
theorem Q5(h:bc d){k:Nat}(a:k<d.length):(d[k]?=some 1/\ht d (k+1)=ht d k+1)\/(d[k]?=some 0/\ht d (k+1)=ht d k-1):=by
 have e:=aad a;rcases h _ (acz a)with z|z
 ·right;rw[z]at e;exact(e,by rw[kW e];lia)
 ·left;rw[z]at e;exact(e,by rw[kW e];lia)
end Tw
namespace L2
open PySem.Spec PyProof.Rows
theorem Fd{iter:Expr}{g k:List Expr}{pos:Pos}{l:Value}{f:Env}{R:Result->Shared->Prop}(J:Nat->Shared->Prop)
  (t:∀n a,J n a->wpAny (model prog w) A (pyNext q) (λr x=>match r with
   |none=>R (.ok .next) x
   |some v=>wpAny (model prog w) A (letOwnedTupleGo (.Tuple g i p) q v) (λ_ F=>wpAny (model prog w) A (assign (.Tuple g i p) f v) (λ_ E=>
     wpAny (model prog w) A (forIn k true λc r=>if r=true then do let j <-isTrue c f (eval c f);pure (ForInStep.yield j)else pure (ForInStep.yield r)) (λj u=>if j=true then
      wpAny (model prog w) A (eval o f) (λy D=>wpAny (model prog w) A (call (.builtin "list.append") [l,y]) (λ_ C=>∃m,m<n/\J m C) (notedBy (model prog w) A f λe b=>R (.error e) b) D) (notedBy (model prog w) A f λe b=>R (.error e) b) u
      else ∃m,m<n/\J m u) (notedBy (model prog w) A f λe b=>R (.error e) b) E)
     (notedBy (model prog w) A f λe b=>R (.error e) b) F) (notedBy (model prog w) A f λe b=>R (.error e) b) x) (notedBy (model prog w) A f λe b=>R (.error e) b) a)
  (n:Nat)(h:J n s):codeAny (model prog w) A (.compLoop (.ListComp o [(.Tuple g i p,iter,k,0)] scope pos) 0 q l f) R s:=by
 refine codeAny_loop rfl J (λn a G=>wpAny_noted ?_) n h;rw[compTurn_list];refine wpAny_bind (wpAny_standAt (wpAny_bind (wpAny_mono (t n a G) (λr x B=>?_) λ_ _ d=>d)));cases r with
 |none=>exact wpAny_pure B
 |some v=>
  refine wpAny_bind (wpAny_mono B (λ_ F L=>wpAny_bind (wpAny_mono L (λ_ E K=>wpAny_bind (wpAny_mono K (λj u z=>?_) λ_ _ d=>d)) λ_ _ d=>d)) λ_ _ d=>d);cases j with
  |false=>exact wpAny_pure (7,z)
  |true=>exact wpAny_bind (wpAny_bind (wpAny_mono z (λy D I=>wpAny_bind (wpAny_mono I (λ_ C H=>wpAny_pure (wpAny_pure (7,H))) λ_ _ d=>d)) λ_ _ d=>d))
structure pC(X:Cx)(x z:Str)(caps:List (Str×Nat))(scope:Scope)(cl:List (Str×Addr)):Prop where
 o:cj X x caps scope cl
 hz:scope.names.lookup z=some .local
 nd:(x::z::caps.map (·.1)).Nodup
theorem Inv.comp2{x :Str}{d:List (Str×Nat)}{h':Heap}{tk:Nat}{m:Str->Option Value}{C:Addr}(I:Inv X π σ H s)(E:pC X x qual d scope z)(O:∀b∈g,gM X π H b)
    (Y:∀b∈g,b<s.heap.objs.size)(L:s.heap.objs.size<=a)(P:s.heap.objs.size<=C)(Z:a≠C)(K:∀b o,s.heap.get? b=some o->h'.get? b=some o)(hn:h'.Ns C m)(hL:h'.get? a=some {cls:=.type "list",data:=.seq #[]}):
    Inv (bK X (x::qual::d.map (·.1)) scope z C s H g) [] (none::none::fJ d σ) (upd H a (.lst [])) {s with heap:=h',toks:=tk}:=by
  have W5:=I.hok.fresh L;have V:=I.hok.fresh P;have B:∀y c,(bK X (x::qual::d.map (·.1)) scope z C s H g).env.cells.lookup y=some c->X.env.cells.lookup y=some c:=λy c e=>E.o.cls y c e;have YC:∀y c,X.env.cells.lookup y=some c->c<s.heap.objs.size:=λy c e=>by
    obtain⟨v,q⟩:=I.cell y c e;exact q.lt
  have up:∀b u,H b=some u->upd H a (.lst []) b=some u:=λb u q=>by rw[aH (aJ q W5)];exact q
  have ok:(bK X (x::qual::d.map (·.1)) scope z C s H g).Ok:=by
    refine(I.ok.mod,E.o.kind,I.ok.glob,I.ok.blt,P,λy qual c h1 h2=>I.ok.inj y qual c (B y c h1) (B qual c h2),λy hy=>E.o.has y hy,λy c h=>absurd (show false=true from h) aar,I.ok.hd,I.ok.frames,.inl rfl,λb A=>?_,I.bs,afJ I.ok.Ve I.sz,λb o e A=>?_,λb A hz=>?_,I.stack,I.stkFree)
    · obtain⟨f0,T,S,R,Q,f5⟩:=O b A
      exact(aap (aai (Y b A) P),λy c e=>Q y c (B y c e))
    · obtain⟨f0,T,S,R,Q,f5⟩:=O b A
      rcases R with qual|qual
      · exact I.ok.noex b o e qual
      · exact absurd (aai (aai (Heap.lt_size e) I.ok.Ve) qual) (afL _)
    · obtain⟨f0,T,S,R,Q,f5⟩:=O b A
      rcases aaO.mp (I.stkSub b hz)with qual|qual
      · exact T qual
      · exact S qual
  exists ok,7,I.bare,3,(m,hn,λi y v e1 U e3=>?_),λy c e=>?_,3,λy c e=>?_,λp hp=>absurd (show p∈([]:List (Addr×Obj))from hp) (by simp),?_
  · exact Un.laid K L W5
  · cases i with
    |zero=>cases U
    |succ i=>
     cases i with
     |zero=>cases U
     |succ i=>
      have f:(d.map (·.1))[i]?=some y:=e1;have n:(fJ d σ)[i]?=some (some v):=U;rw[aag]at f;unfold fJ at n;rw[aag]at n;cases F:d[i]? with
      |none=>rw[F]at f;cases f
      |some p=>
        rw[F]at f n;obtain⟨t,j⟩:=p;have ey:t=y:=aao f;subst ey;have M:(σ[j]?).getD none=some v:=aao n;have a0:σ[j]?=some (some v):=by
          cases q:σ[j]? with
          |none=>rw[q]at M;cases M
          |some w=>rw[q]at M;exact congrArg some M
        obtain⟨c1,c2,c3⟩:=E.o.cap t j (aah F);obtain⟨m0,a1,hl⟩:=I.loc;obtain⟨u,r,l⟩:=hl j t v c1 a0 (by rcases c2 with qual|qual;exact .inr (.inl qual);exact .inr (.inr qual));refine(u,r,.inr (c3,3));rcases l with ⟨k,_⟩|⟨k,c,F,qual⟩
        · have J:X.env.scope.names.lookup t=some .local:=k
          rcases c2 with qual|qual
          · rw[qual]at J;cases J
          · rw[qual]at J;cases J
        · obtain⟨c',G⟩:=E.o.has t c3
          have e4:=E.o.cls t c' G;rw[F]at e4;cases e4;obtain⟨o,N,hd⟩:=qual;exact(c,G,o,K _ _ N,hd)
  · obtain⟨v,o,N,hd⟩:=I.cell y c (B y c e)
    exact(v,o,K _ _ N,hd)
  · show upd H a (.lst []) C=none
    rw[aH (af3 Z)];exact V
  · have W:=YC y c (B y c e)
    rw[aH (aap (aai W L))];exact I.freeC y c (B y c e)
  · exact I.hok.laid K L (aaF _,[],_,.nil,hL)
  · show (none::none::fJ d σ).length=(x::qual::d.map (·.1)).length
    simp[su]
def zN(K:PySem.W.Frag)(J:It)(d:St)(k:TE)(l:Addr->Hp->Prop)(H:Hp):Prop:=
 ∀D,H D=none -> ∃W:Nat->Nat->List V->Hp->Prop,(∃m,W 0 m [] (upd H D (.lst []))) /\ ∀i m a b,W i m a b ->
  (J.stop i b/\l D b)\/(J.go i b /\ ∀v c,J.U0 i b v c -> ∃g f e,v=.ref g/\Tj K c g [f,e] /\
   k (some f::some e::d) c λy j=>j D=some (.lst a)/\a.length<sizeLine /\ ∃h,h<m/\W (i+1) h (a++[y]) (upd j D (.lst (a++[y]))))
def u0(K:PySem.W.Frag)(J:It)(e:St)(tt:TT)(n:TE)(o:Addr->Hp->Prop)(H:Hp):Prop:=
 ∀D,H D=none -> ∃W:Nat->Nat->List V->Hp->Prop,(∃m,W 0 m [] (upd H D (.lst []))) /\ ∀i m a d,W i m a d ->
  (J.stop i d/\o D d)\/(J.go i d /\ ∀v h,J.U0 i d v h -> ∃j g f,v=.ref j/\Tj K h j [g,f] /\
   tt (some g::some f::e) h λb l=>if b=true then
   n (some g::some f::e) l λy k=>k D=some (.lst a)/\a.length<sizeLine /\ ∃c,c<m/\W (i+1) c (a++[y]) (upd k D (.lst (a++[y])))else ∃c,c<m/\W (i+1) c a l)
theorem rR{x :Str}{tp pos:Pos}{L:List (Str×Nat)}{iter:Expr}{J:It}{tn:Nat->Heap->Prop}{tt:TT}
  {RR:Value->Addr->Result->Shared->Prop}{E:Value->Shared->Prop}(I:Inv X π σ H s)(hc:X.calm=true)(P:pC X x qual L scope z)(T:Turn X.prog X.w X.K (.Tuple [.Name x p,.Name qual apos] n tp) J g a tn)(st:tn 0 s.heap)(hf:∀b∈g,gM X π H b)
  (ht:∀C s1 H1 Uc,VM (bK X (x::qual::L.map (·.1)) scope z C s1 H1 Uc) y tt)(he:∀C s1 H1 Uc,PE (bK X (x::qual::L.map (·.1)) scope z C s1 H1 Uc) e ta)(rd:u0 X.K J (fJ L σ) tt ta D H)
  (b5:∀F C s' H' m,Inv X π σ H' s'->s'.heap.Ns C m->gM X π H' C->D F H'->RR (.ref F) C (.ok .next) s'):
  wpAny (model X.prog X.w) X.A (newList []) (λa7 s3=>wpAny (model X.prog X.w) X.A (newFunctionEnv scope X.env.globals z [] X.env.qual none .none (some X.env)) (λa1 s4=>
   codeAny (model X.prog X.w) X.A (.compStart (.ListComp e [(.Tuple [.Name x p,.Name qual apos] n tp,iter,y,0)] scope pos) 0 (.ref a) a7 {a1 with scope:=relabel scope X.env}) (RR a7 a1.locals) s4) E s3) E s:=by
 have a3:∀b∈g,b<s.heap.objs.size:=λb N=>by
  obtain⟨o,B,_⟩:=T.obj _ _ st b N;exact Heap.lt_size B
 refine wpAny_newObj_type (wpAny_newFunctionEnv P.o.ρ (by intro G hy;simp at hy) (λh1 a2 Y=>?_) P.o.kind);dsimp only at a2 Y ⊢;obtain⟨F,eD⟩:∃F:Nat,F=s.heap.objs.size:=(_,7)
 obtain⟨M,UT⟩:∃l,l=s.heap.push {cls:=.type "list",dict:=none,data:=.seq ([]:List Value).toArray}:=(_,7)
 rw[<-UT]at a2 Y ⊢;rw[<-eD];have hC:M.objs.size=F+1:=by rw[UT,Heap.size_push,eD]
 have a6:s.heap.objs.size<=M.objs.size:=by rw[hC,eD];exact agS _
 have b6:F≠M.objs.size:=by rw[hC];exact aap (age _)
 have hk:∀b o,s.heap.get? b=some o->h1.get? b=some o:=λb o B=>by
  refine Y.extBut b o (aap (aai (Heap.lt_size B) a6)) (Heap.get?_push_of_some _ ?_);rw[UT];exact Heap.get?_push_of_some _ B
 have hL:h1.get? F=some {cls:=.type "list",data:=.seq #[]}:=by
  refine Y.extBut F _ ⋯ (Heap.get?_push_of_some _ ?_);rw[UT,eD];exact Heap.get?_push_size _ rfl
 have a5:tn 0 h1:=T.keep _ _ _ st λb _ o B=>hk b o B;obtain⟨W,⟨m0,w0⟩,a8⟩:=rd F (I.hok.fresh ⋯);have a0:codeAny (model X.prog X.w) X.A (.compLoop (.ListComp e [(.Tuple [.Name x p,.Name qual apos] n tp,iter,y,0)] scope pos) 0 (.ref a) (.ref F) (compEnvC scope z M.objs.size X.env)) (RR (.ref F) M.objs.size) {s with heap:=h1,toks:=s.toks+([]:List (Str×Value)).length}:=by
  refine Fd (λj s'=>∃i Z S R H',Inv (bK X (x::qual::L.map (·.1)) scope z M.objs.size s H g) [] (S::R::fJ L σ) H' s'/\tn i s'.heap/\(∀b∈g,H' b=none)/\W i j Z H') ?_ m0
   (0,[],none,none,_,I.comp2 P hf a3 ⋯ ⋯ b6 hk a2 hL,a5,λb N=>?_,w0)
  ·rintro j s3 ⟨i,Z,S,R,H3,I3,a4,VL,w3⟩;have Wa:∀{H':Hp}{pi:List (Addr×Obj)},(∀b∈g,H' b=none)->(∀k∈pi,k.1∉g) -> ∀b∈g,gM (bK X (x::qual::L.map (·.1)) scope z M.objs.size s H g) pi H' b:=λ{H' pi} hn hp b N=>by
    obtain⟨f0,f1,f2,f3,f4,f5⟩:=hf b N;refine(hn b N,3,λqual=>?_,.inl N,λG c B=>f4 G c (P.o.cls G c B),λk b4 qual=>?_)
    ·exact aap (aai (a3 b N) a6)
    ·rcases aaO.mp (I.stkSub b qual)with q|q
     ·exact f1 q
     ·exact f2 q
    ·exact hp k (by simpa [bK]using b4) (by rw[qual];exact N)
   have clear:∀{α:Type}{t:Sem α}{Q:α->Shared->Prop}{E':Value->Shared->Prop}{s:Shared},wpAny (model X.prog X.w) X.A t Q (λ_ _=>False) s->wpAny (model X.prog X.w) X.A t Q E' s:=λh=>wpAny_mono h (λ_ _ qual=>qual) λ_ _ qual=>qual.elim;rcases a8 i j Z H3 w3 with ⟨a9,qf⟩|⟨go,b0⟩
   ·refine Th (T.done (bK X (x::qual::L.map (·.1)) scope z M.objs.size s H g) rfl rfl rfl hc i [] s3 _ H3 _ I3 (Wa VL (by simp)) a4 a9) λr s4 ⟨hr,I4⟩=>?_;subst hr;obtain⟨m4,XJ,_⟩:=id I4.loc;refine b5 F _ s4 H3 m4 (I.comped hf I4) XJ ?_ qf;have gC:s.heap.objs.size<=M.objs.size:=by lia
    exact I.fpOk gC I4.free
   ·refine clear (Th (T.item (bK X (x::qual::L.map (·.1)) scope z M.objs.size s H g) rfl rfl rfl hc i [] s3 _ H3 (λ_ _=>False) I3 (Wa VL (by simp)) a4 go) λr s4 ⟨u,hr,h4⟩=>?_);subst hr;refine clear (Th h4 λ_ s5 ⟨v,H5,I5,r5,y5,U6,W0⟩=>?_);have W2:=I5.pinned (Wa W0 (by simp)) (T.obj _ _ U6);obtain⟨f,v1,v2,ev,b3,q6⟩:=b0 v _ y5;subst ev;have hg:PG (bK X (x::qual::L.map (·.1)) scope z M.objs.size s H g) (.Tuple [.Name x p,.Name qual apos] n tp) (Rg X.K 2 (LR (fL 0) (LR (fL 1) Rq))):=
     lr hc (bL (nC (i:=0) P.nd rfl (agP (lookup_relabel_local P.o.hx)) (ahs (lookup_relabel_local P.o.hx))) (bL (nC (i:=1) P.nd rfl (agP (lookup_relabel_local P.hz)) (ahs (lookup_relabel_local P.hz))) ig))
    refine clear (Th (hg _ s5 (S::R::fJ L σ) H5 (.ref f) u (λ b1 M=>b1=some v1::some v2::fJ L σ/\M=H5) W2 r5 (f,[v1,v2],7,b3,7,v1,[v2],7,v2,[],7,7,(show _/\_ from (7,7)))) λ_ s6 ⟨b9,H6,I6,e6,e7⟩=>?_);subst e6 e7;have O:∀{H7:Hp}{s7:Shared}{S R:Option V}{zs:List V}{U:Nat},Inv (bK X (x::qual::L.map (·.1)) scope z M.objs.size s H g) ([]++rP g s5.heap) (S::R::fJ L σ) H7 s7->U<j->W (i+1) U zs H7 ->
      ∃m,m<j /\ ∃i Z S R H',Inv (bK X (x::qual::L.map (·.1)) scope z M.objs.size s H g) [] (S::R::fJ L σ) H' s7/\tn i s7.heap/\(∀b∈g,H' b=none)/\W i m Z H':=λ{H7 s7 S R zs U} I7 hm w7=>by
     refine(U,hm,i+1,zs,S,R,H7,I7.ξ,T.keep _ _ _ U6 λb N o B=>(I7.pin (pq b o) (aay _ (aay _ (fU N B)))).1,λb N=>?_,w7);obtain⟨o,B,d⟩:=T.obj _ _ U6 b N;exact(I7.pin (pq b o) (aay _ (aay _ (fU N B)))).2.1
    refine clear (Th (ht M.objs.size s H g _ s6 _ H6 _ I6 q6) λok s7 ⟨H7,I7,q7⟩=>?_);cases ok with
    |false=>
     obtain⟨U,hm,w7⟩:=(show ∃U,U<j/\W (i+1) U Z H7 from q7);exact O I7 hm w7
    |true=>
     refine clear (Th (he M.objs.size s H g _ s7 _ H7 _ I7 q7) λxv s8 ⟨G,H8,I8,r8,YD,b2,U,hm,w8⟩=>?_);refine clear (Th (b8 _ s8 _ H8 (.ref F) [G] (.ref F) [xv] (λ_ H9=>H9=upd H8 F (.lst (Z++[G]))) I8 rfl (.cons r8 .nil) (F,Z,G,7,7,YD,b2,7)) λ_ s9 ⟨_,H9,I9,_,e9⟩=>?_);subst e9;exact O I9 hm w8
  ·rw[aH (by rw[eD];exact aap (a3 b N))];exact(hf b N).1
 exact codeAny_compStart_list a0 (T.self _ 0 _ _ _ a5 a0)
theorem Eo{x :Str}{B pos:Pos}{j:List (Str×Nat)}{iter:Expr}{J:It}{F:Nat->Heap->Prop}
  {RR:Value->Addr->Result->Shared->Prop}{E:Value->Shared->Prop}(I:Inv X π σ H s)(Z:X.calm=true)(K0:pC X x qual j scope z)(T:Turn X.prog X.w X.K (.Tuple [.Name x p,.Name qual apos] n B) J g a F)(st:F 0 s.heap)(V:∀b∈g,gM X π H b)
  (Y:∀C S t Uc,PE (bK X (x::qual::j.map (·.1)) scope z C S t Uc) e ta)(U:zN X.K J (fJ j σ) ta D H)
  (u:∀f C r H' m,Inv X π σ H' r->r.heap.Ns C m->gM X π H' C->D f H'->RR (.ref f) C (.ok .next) r):
  wpAny (model X.prog X.w) X.A (newList []) (λl R=>wpAny (model X.prog X.w) X.A (newFunctionEnv scope X.env.globals z [] X.env.qual none .none (some X.env)) (λk Q=>
   codeAny (model X.prog X.w) X.A (.compStart (.ListComp e [(.Tuple [.Name x p,.Name qual apos] n B,iter,[],0)] scope pos) 0 (.ref a) l {k with scope:=relabel scope X.env}) (RR l k.locals) Q) E R) E s:=
 rR I Z K0 T st V (λ_ _ _ _=>eZ) Y (λf hD=>by
  obtain⟨W,M,o⟩:=U f hD;refine(W,M,λi m G t L=>?_);rcases o i m G t L with h|⟨go,q⟩
  ·exact .inl h
  ·refine .inr (go,λv H2 y=>?_);obtain⟨c,O,N,d,P,h⟩:=q v H2 y;exists c,O,N,d,P;unfold Kv
   set_option simprocs false in dsimp only
   rw[if_pos rfl];exact h) u
def Ia(K:PySem.W.Frag)(a:List (Str×Nat))(b:TE)(σ:St)(Q:VK):It->Hp->Prop:=λJ c=>zN K J (fJ a σ) b (λD d=>Q (.ref D) d) c
def QH(K:PySem.W.Frag)(b:TI)(a:List (Str×Nat))(c:TE):TE:=λ σ H Q=>b σ H (Ia K a c σ Q)
theorem Bu{i:Nat}{y x :Str}{t j pos f:Pos}{iter:Expr}{M:TI}(hN:X.N.Nodup)(W6:X.N[i]?=some y)(P:X.env.scope.names.lookup y=some .local)(hc:X.calm=true)
  (u:pC X x qual I scope z)(Z:PI X (.Tuple [.Name x p,.Name qual apos] n t) iter M)
  (he:∀C O H1 Uc,PE (bK X (x::qual::I.map (·.1)) scope z C O H1 Uc) e ta)
  (F:swapsWith (.ListComp e [(.Tuple [.Name x p,.Name qual apos] n t,iter,[],0)] scope pos) (some (.Name y j)) f.line X.env=pure true:=by rfl)(V:∀x,foldedSetIterable iter X.env x=pure x:=by intro _;rfl):
  PS X (.Assign [.Name y j] (.ListComp e [(.Tuple [.Name x p,.Name qual apos] n t,iter,[],0)] scope pos) f) (Ip (QH X.K M I ta) (fL i)):=by
 intro π s σ H R c h;rw[exec_Assign_Name_used _ _ _ _ F];refine wpAny_bind (wpAny_standAt (wpAny_bind ?_));show wpAny _ X.A (do let _ <-comprehension (.ListComp e [(.Tuple [.Name x p,.Name qual apos] n t,iter,[],0)] scope pos) scope X.env _ (newList []) false (eval iter X.env) (some (assign (.Name y j) X.env))) _ _ s;refine wpAny_bind (wpAny_mono (wpAny_comprehension_free (use:=some (assign (.Name y j) X.env)) (Q:=λ_ k=>SP X π R .next k) rfl V u.o.clos u.o.kind u.o.names
  (Th (Z π s σ H _ c h) λv O h1=>Th h1 λa0 s2 h2=>?_)) (λ_ k W=>wpAny_pure (wpAny_pure W)) λ_ _ d=>d)
 obtain⟨it,fp,tn,J,H2,d,I2,T,B,f2,U⟩:=h2;subst d;refine Eo (RR:=λL C=>compPost (model X.prog X.w) X.A X.xe (some (assign (.Name y j) X.env)) (λ_ k=>SP X π R .next k) L C) I2 hc u T B f2 he U ?_;intro D C k H' m I' Y g q;show wpAny _ X.A (assign (.Name y j) X.env (.ref D)) _ _ _;refine wpAny_assign_Name (mZ (v:=.ref D) I' hN W6 (.inl P) rfl (λE W7 ch=>(m,3,λG r=>?_)) (.inr P))
 ·obtain⟨a,S,l⟩:=ch;refine Y.sameBut S λqual=>?_;rcases l with l|l
  ·exact g.2.1 (qual.trans l)
  ·exact g.2.2.2.2.1 _ a l qual.symm
 ·exact(_,H',W7.turned (h':=G) (t':=E.toks) (λb o hb d=>r.extBut b o hb d) g.1 g.2.1 g.2.2.2.1 g.2.2.2.2.1 g.2.2.2.2.2,q)
end L2
namespace Tw
theorem Dr{a:Addr}{o:L2.St}(R:Nat->Int->Prop)(I:Tg K H a (d.map V.int))(L:d.length<sizeLine)
  (J:∀(i:Nat) (b:Int) (H':Hp) (Q:VK),d[i]?=some b->aP H H'->(∀m s,R i m->aP H' s->Q (.int m) s)->ta (some (.int (i:Int))::some (.int b)::o) H' Q)
  (q:∀f H' (g:List Int),H f=none->aP H H'->H' f=some (.lst (g.map V.int))->g.length=d.length->(∀i m,g[i]?=some m->R i m)->D f H'):zN K (V9 K a) o ta D H:=by
 intro f x;exists λi m u t=>m=d.length-i/\i<=d.length/\aP H t/\t f=some (.lst u) /\ ∃g:List Int,u=g.map V.int/\g.length=i /\ ∀i m,g[i]?=some m->R i m,(5,aaF _,az x _,aq,[],7,7,λi m e=>by cases e);rintro i m u t ⟨rfl,M,r,l,g,rfl,z,E⟩;have h:=r.seq I;by_cases k:i<d.length
 ·have C:d[i]?=some d[i]:=aad k;have B:(d.map V.int)[i]?=some (.int d[i]):=by
   rw[aag,C];rfl
  refine .inr ((8,h,B),λv s y=>?_);obtain⟨p,y,F,rfl,rfl,e⟩:=y;have e:=e _ h;rw[B]at e;cases e;have w:=az F (.tup [.int (i:Int),.int d[i]]);exists p,_,5,Tj.of aq;refine J i d[i] _ _ C (r.trans w) λm s G A=>(A _ _ (w _ _ l),3,d.length-(i+1),9,7,k,3,aq,g++[m],3,3,3)
  ·rw[aaa];lia
  ·exact bT (r.trans (w.trans A)) x _
  ·rw[aal];rfl
  ·rw[aaf,z];rfl
  ·intro j n e;rcases aaq j g.length with c|c
   ·rw[aaz c]at e;exact E j n e
   ·rw[aas c]at e;have:j-g.length=0:=by
     have:=(aab.mp e).1;simp at this;lia
    rw[this]at e;cases e;have:j=i:=by lia
    subst this;exact G
 ·have e:i=d.length:=by lia
  exact .inl ((_,h,by rw[aaa,e];exact aac _),q f t g x r l ⋯ E)
theorem xZ{a:Addr}{h:L2.St}{tt:TT}(g:Int->Int)(p:Tg K H a (d.map V.int))(s:d.length<sizeLine)
  (l:∀(z:Int) (H':Hp) (Q:Bool->Hp->Prop),Q true H'->tt (some (.int z)::h) H' Q)(r:∀(z:Int) (H':Hp) (Q:VK),z∈d->aP H H'->Q (.int (g z)) H'->ta (some (.int z)::h) H' Q)
  (q:∀b,H b=none->D b (upd H b (.lst ((d.map g).map V.int)))):jG (VJ K a) h tt ta D H:=by
 intro b k;exists λi m j o=>m=d.length-i/\i<=d.length/\j=((d.take i).map g).map V.int/\o=upd H b (.lst j),(5,aaF _,7,7);rintro i m j o ⟨rfl,t,rfl,rfl⟩;have f:Tg K (upd H b (.lst (((d.take i).map g).map V.int))) a (d.map V.int):=(az k _).seq p;by_cases c:i<d.length
 ·have n:(d.map V.int)[i]?=some (.int d[i]):=by
   rw[aag,aad c];rfl
  refine .inr ((8,f,n),λv u y=>?_);obtain⟨rfl,y⟩:=y;have e:=y _ f;rw[n]at e;cases e;refine l _ _ _ ?_;rw[if_pos rfl];refine r _ _ _ (acz c) (az k _) (aq,3,d.length-(i+1),9,7,c,3,3)
  ·rw[aaa,aaa,aaL];lia
  ·rw[acC,aad c,aal,aal];rfl
  ·rw[nF]
 ·have e:i=d.length:=by lia
  subst e;rw[agF];rw[agF]at f;exact .inl ((_,f,by rw[aaa];exact aac _),q b k)
end Tw
namespace L2
open PySem.Spec PyProof.Rows PySem.W
structure pO where
 qual:Str
 params:Arguments
 body:Expr
 scope:Scope
 ps:List Str
 xs:List Str
def lamOf(st:Stmt)(c:Str)(ps xs:List Str):pO:=match st with
 |.Return (some (.Lambda a b d _)) _=>(c,a,b,d,ps,xs)
 |_=>(c,ν st,.Name "" (0,0,0,0),δ st,ps,xs)
def bW:Stmt->Pos
 |.Return (some (.Lambda _ _ _ p)) _=>p
 |_=>(0,0,0,0)
structure dI(H:Hp)(f:Addr)(c:pO)(cs:List Addr)(Tr:List V):Prop where
 ex:∃(cd:Addr) (pm ctv:Value) (oc:Obj) (vs:Array Value) (t:Tok),H f=some (aN f (kla_obj "<lambda>" c.qual c.params c.body c.scope (c.xs.zip cs) pm cd ctv))/\H cd=some (aN cd oc)/\oc.data=.fields vs/\vs[1]?=some (.str c.qual t)
 cells:∀(i:Nat) (a:Addr),cs[i]?=some a -> ∃(co:Obj) (v:V) (u:Value),Tr[i]?=some v/\H a=some (aN a co)/\co.data=.cell (some u)/\RelV v u
 nd:cs.Nodup
 len:cs.length=c.xs.length
 lenV:Tr.length=c.xs.length
theorem dI.same{H':Hp}{f:Addr}{c:pO}{cs:List Addr}{Tr:List V}(h:dI H f c cs Tr)(s:∀b o,H b=some (aN b o)->H' b=some (aN b o)):dI H' f c cs Tr:=by
 obtain⟨⟨B,k,g,l,j,t,w,r,q,p⟩,n,m,d,lenV⟩:=h;refine((B,k,g,l,j,t,s _ _ w,s _ _ r,q,p),λi a e=>?_,m,d,lenV);obtain⟨A,v,u,z,y,x⟩:=n i a e;exact(A,v,u,z,s _ _ y,x)
structure pR(N:List Str)(c:pO):Prop where
 kind:c.scope.kind=.function
 co:c.scope.isCoroutine=false
 gen:c.scope.isGenerator=false
 ρ:∀x∈c.scope.names,x.2 ≠ .cell
 pre:N.take (c.ps.length+c.xs.length)=c.ps++c.xs
 nd:N.Nodup
 Vz:∀n∈c.ps,c.scope.names.lookup n=some .local
 fr:∀x∈c.scope.names,x.2=.free->x.1∈c.xs
 YH:∀n∈c.xs,c.scope.names.lookup n≠some .local
section
variable{P:Program}{c:pO}{cs:List Addr}{Tr vs:List V}{us:List Value}{k:Nat}{Q:VK}{E:XK}
theorem O1(S:pR N c)(hr:eF (k+1) A)(d:FW P w K mg base A outer s H)(ca:dI H f c cs Tr)(hb:∀(cl:List (Str×Addr)) (pm l W:Value),bindArgs (kla_fn "<lambda>" c.qual c.params c.body c.scope cl pm l W) (us,[])=pure (c.ps.zip us))(r:Vals vs us)(hl:vs.length=c.ps.length)
  (X:∀l:Addr,eF k (A.deeper (envX c.qual c.scope s.heap.objs.size f (.ref l) (c.xs.zip cs))) -> ∃t,PE (sO P w K mg base N c.qual c.scope f (.ref l) (c.xs.zip cs) A outer s (hide H cs)) c.body t/\t (start N (vs++Tr)) (hide H cs) λv H'=>Q v (over H cs H')):
  codeAny (model P w) A (.call (.ref f) (us,[])) (CR Ti outer P w H s Q E) s:=by
 obtain⟨⟨l,pm,W,oc,ws,tk,h1,h2,h3,h4⟩,hc,nd,a1,lenV⟩:=ca;have Y:∀a∈cs,∃o,H a=some (aN a o):=λa G=>by
  obtain⟨i,C⟩:=aaP G;obtain⟨R,v,u,_,e,_⟩:=hc i a C;exact(R,e)
 have a0:s.heap.NoLimit:=d.mod.nolimit.keeps λb o e=>(d.bs b o e).1;have Wt:c.ps.Nodup:=by
  have:c.ps.Sublist N:=by
   have h:(c.ps++c.xs).Sublist N:=by rw[<-S.pre];exact agM _ _
   exact(ahS _ _).trans h
  exact S.nd.sublist this
 have YJ:c.xs.Nodup:=by
  have:c.xs.Sublist N:=by
   have h:(c.ps++c.xs).Sublist N:=by rw[<-S.pre];exact agM _ _
   exact(ahP _ _).trans h
  exact S.nd.sublist this
 have a6:c.ps.length+c.xs.length<=N.length:=by
  have:=congrArg agx S.pre;rw[aaL,aaf]at this;lia
 refine kla_callFunE hr.depth (cV d.hok h1) rfl S.co S.gen rfl (l,oc,ws,tk,7,cV d.hok h2,h3,h4) ?_;rw[hb];refine wpAny_pure (wpAny_newFunctionEnv S.ρ (λy m=>S.Vz _ (agZ m).1) (λh0 a2 U=>(a0.fresh _ U,3)) S.kind);show codeAny _ _ (.expr c.body (envX c.qual c.scope s.heap.objs.size f (.ref l) (c.xs.zip cs))) _ _;have Z:∀b o,s.heap.get? b=some o->h0.get? b=some o:=λb o e=>U.extBut b o (aap (Heap.lt_size e)) (Heap.get?_push_of_some _ e);refine kla_codeExpr ?_;obtain⟨t,ht,hq⟩:=X l (hr.deeper _);have B:=Gp d.hok Y;have I:Inv (sO P w K mg base N c.qual c.scope f (.ref l) (c.xs.zip cs) A outer s (hide H cs)) [] (start N (vs++Tr)) (hide H cs) {s with heap:=h0,toks:=s.toks+(c.ps.zip us).length}:=by
  refine((d.mod,S.kind,7,7,aac _,λy z b h g=>?_,λy m=>?_,λy b h _=>absurd h aar,λ_=>hr.hd,Around.frames_deeper d.frames,.inr (7,7),λb z=>absurd (show b∈([]:List Addr)from z) (by simp),λb o e=>((d.bs b o e).1,3),d.Ve,λb _ _ z=>absurd (show b∈([]:List Addr)from z) (by simp),λb z=>absurd (show b∈([]:List Addr)from z) (by simp),d.funs,λb a4=>?_),
   rfl,d.bare,Un.kept Z,(_,a2,λi y v h g h7=>?_),λy b h=>?_,B.fresh (aac _),λy b h=>?_,λp x=>absurd (show p∈([]:List (Addr×Obj))from x) (by simp),B.kept Z,3)
  ·obtain⟨i,i1,F⟩:=cP h;obtain⟨j,j1,j2⟩:=cP g;have:=(aix (aab.mp F).1 nd).mp (F.trans j2.symm);subst this;exact aao (i1.symm.trans j1)
  ·have m:c.scope.names.lookup y=some .cell\/c.scope.names.lookup y=some .free:=m;rcases m with m|m
   ·exact absurd rfl (S.ρ _ (PySem.mem_of_lookup m))
   ·exact yH a1 (S.fr _ (PySem.mem_of_lookup m) rfl)
  ·have n:=(d.bs b o e).2;show hide H cs b=none;rw[bx]
   ·exact n
   ·intro z;obtain⟨o',O⟩:=Y b z;rw[n]at O;cases O
  ·have n:=d.Vs b a4;show hide H cs b=none;rw[bx]
   ·exact n
   ·intro z;obtain⟨o',O⟩:=Y b z;rw[n]at O;cases O
  ·have C:i<(vs++Tr).length:=by
    unfold start at g;by_cases C:i<(vs++Tr).length
    ·exact C
    ·rw[aas (by simpa using C)]at g;rw[agz]at g;split at g<;>cases g
   have G:(vs++Tr)[i]?=some v:=by
    unfold start at g;rw[aaz (by simpa using C),aag]at g;cases e:(vs++Tr)[i]? with
    |none=>rw[e]at g;cases g
    |some a=>rw[e]at g;cases g;rfl
   rw[aaf]at C;have x:(c.ps++c.xs)[i]?=some y:=by
    rw[<-S.pre,af6 ⋯];exact h
   by_cases a3:i<vs.length
   ·rw[aaz a3]at G;rw[aaz ⋯]at x;obtain⟨u,hu,M⟩:=r.get G;exact(u,M,.inl (S.Vz y (aah x),G5 Wt x hu))
   ·rw[aas ⋯]at G;rw[aas ⋯,<-hl]at x;have hj:i-vs.length<cs.length:=by
     have:=(aab.mp x).1;lia
    obtain⟨b,W8⟩:∃b,cs[i-vs.length]?=some b:=(_,aad hj);obtain⟨R,v',u,q1,q2,q3,q4⟩:=hc _ b W8;rw[G]at q1;cases q1;have D:c.scope.names.lookup y=some .free:=by
     rcases h7 with q|q|q
     ·exact absurd q (S.YH y (aah x))
     ·exact absurd rfl (S.ρ _ (PySem.mem_of_lookup q))
     ·exact q
    exact(u,q4,.inr (.inr D,b,FZ YJ x W8,R,Z _ _ (cV d.hok q2),q3))
  ·obtain⟨i,i1,F⟩:=cP h;obtain⟨R,v',u,q1,q2,q3,q4⟩:=hc _ b F;exact(_,R,Z _ _ (cV d.hok q2),q3)
  ·obtain⟨i,i1,F⟩:=cP h;exact m9 (aah F)
  ·unfold start;show _=N.length;rw[aaf,aaa,abp,aaf];lia
 have a5:∀{L:Shared}{T:St}{H':Hp}{v:V}{u:Value},Inv (sO P w K mg base N c.qual c.scope f (.ref l) (c.xs.zip cs) A outer s (hide H cs)) [] T H' L->RelV v u->Q v (over H cs H')->CE outer P w H s Q u L:=λ{L T H' v u} J M q=>by
  obtain⟨k1,k2⟩:=Gw d.hok J.hok Y d.Vs J.base;exact(v,over H cs H',J.os,J.bare,k2,k1,M,q)
 refine wpAny_mono (ht [] _ (start N (vs++Tr)) (hide H cs) _ I hq) (λu L hs=>?_) λe L hs=>False.elim hs;obtain⟨v,H',J,M,q⟩:=hs;exact a5 J M q
end
section
variable{P:Addr}{params:Arguments}{body:Expr}{clos:List (Str×Addr)}{pos:Pos}
theorem Lz{M:Model}{A:Around}{E:Value->Shared->Prop}{Q:Value->Shared->Prop}(I:Inv X π σ H s)(bm:BMain X.mg X.base)(r:X.env.code=.ref c)(C:CodeHd X.base c P)(hT:TabAt H P pos qual)(V:closureFor scope X.env=pure clos)
  (h:∀(fi B:Addr) (pm f:Value) (i:Obj) (y:Array Value) (t:Tok) (K:Hp) (s1:Shared),Inv X π σ K s1->H fi=none->(∀b o,H b=some o->b≠P->K b=some o)->TabAt K P pos qual ->
   K fi=some (aN fi (kla_obj name qual params body scope clos pm B f))->K B=some (aN B i)->i.data=.fields y->y[1]?=some (.str qual t)->Q (.ref fi) s1):
  wpAny M A (makeFunction name qual params (.expr body) scope X.env [] [] [] pos n) Q E s:=by
 obtain⟨m,l,p,O⟩:=hT;have x:s.heap.get? P=some (tabObj m):=I.hok P _ l;have G:=I.mod.glob.keeps I.bk;obtain⟨bm,ob,b1,b2,b3,b4,b5,b6⟩:=bm;have S:=I.bk _ _ b3;have a2:mainGlobals≠P:=λq=>by
  obtain⟨o,es,ep,e,hd,_⟩:=G;rw[q,x]at e;cases e;cases hd
 have a3:bm≠P:=λq=>by
  rw[q,x]at S;cases S;cases b4
 have a4:bm≠mainGlobals:=λq=>by
  obtain⟨o,es,ep,e,hd,_⟩:=G;rw[q,e]at S;cases S;rw[hd]at b6;cases b6
 have W9:s.heap.BuiltinsAt X.mg P:=(bm,ob,b1,b2,a4,a3,S,b4,b5,b6);rcases O with U|⟨B,i,y,t,hf,W,hd,R⟩
 ·refine kla_makeFunction (mg:=X.mg) V I.ok.glob G r (C.keeps I.bk) x p U a2 W9 λa f g tk hx v N Y a0=>?_;obtain⟨c2,i,y,t,e2,a1,hd,R⟩:=Y;cases e2;have nc:H a=none:=I.hok.fresh v;have J:H g.objs.size=none:=I.hok.fresh (afJ v (ae8 N));have YK:P≠a:=aJ l nc;have YL:P≠g.objs.size:=aJ l J;have YM:a≠g.objs.size:=aap N
  have k1:∀b,b≠P->b≠a->b≠g.objs.size->upd (upd (upd H P (.Tv (m ++ #[rawInt pos.line,rawInt pos.col,.ref a]))) a (aN a i)) g.objs.size (aN g.objs.size (kla_obj name qual params body scope clos ((X.mg "__name__").getD .none) a f)) b=H b:=λb e1 e2 e3=>by
   rw[aH e3,aH e2,aH e1]
  have k:∀b o,H b=some o->b≠P->upd (upd (upd H P (.Tv (m ++ #[rawInt pos.line,rawInt pos.col,.ref a]))) a (aN a i)) g.objs.size (aN g.objs.size (kla_obj name qual params body scope clos ((X.mg "__name__").getD .none) a f)) b=some o:=λb o e n=>by
   rw[k1 b n (aJ e nc) (aJ e J)];exact e
  have kP:upd (upd (upd H P (.Tv (m ++ #[rawInt pos.line,rawInt pos.col,.ref a]))) a (aN a i)) g.objs.size (aN g.objs.size (kla_obj name qual params body scope clos ((X.mg "__name__").getD .none) a f)) P=some (.Tv (m ++ #[rawInt pos.line,rawInt pos.col,.ref a])):=by
   rw[aH YL,aH YK,aq]
  have kc:upd (upd (upd H P (.Tv (m ++ #[rawInt pos.line,rawInt pos.col,.ref a]))) a (aN a i)) g.objs.size (aN g.objs.size (kla_obj name qual params body scope clos ((X.mg "__name__").getD .none) a f)) a=some (aN a i):=by
   rw[aH YM,aq]
  have kf:upd (upd (upd H P (.Tv (m ++ #[rawInt pos.line,rawInt pos.col,.ref a]))) a (aN a i)) g.objs.size (aN g.objs.size (kla_obj name qual params body scope clos ((X.mg "__name__").getD .none) a f)) g.objs.size=some (aN g.objs.size (kla_obj name qual params body scope clos ((X.mg "__name__").getD .none) a f)):=aq
  generalize upd (upd (upd H P (.Tv (m ++ #[rawInt pos.line,rawInt pos.col,.ref a]))) a (aN a i)) g.objs.size (aN g.objs.size (kla_obj name qual params body scope clos ((X.mg "__name__").getD .none) a f))=K at *
  have j:∀b o,s.heap.get? b=some o->b≠P->(g.push (kla_obj name qual params body scope clos ((X.mg "__name__").getD .none) a f)).get? b=some o:=λb o e n=>Heap.get?_push_of_some _ (hx b o n e)
  have D:(g.push (kla_obj name qual params body scope clos ((X.mg "__name__").getD .none) a f)).get? P=some (tabObj (m ++ #[rawInt pos.line,rawInt pos.col,.ref a])):=Heap.get?_push_of_some _ a0
  have hl:(m ++ #[rawInt pos.line,rawInt pos.col,.ref a]).toList=m.toList++[rawInt pos.line,rawInt pos.col,.ref a]:=by simp
  refine h g.objs.size a _ f i y t K _ (I.call' (ch:=[]) rfl (λb o e n hb L=>?_,λb o e n hb L=>?_,λb o e n L=>?_,λb o e L=>?_,λb xs e=>?_,λb o u e=>?_,λb qs e=>?_) (λb u e=>?_) I.bare λb z=>absurd z (by simp)) J k (_,kP,by rw[hl];exact TriplesOk_snoc _ _ _ _ p,.inr (a,i,y,t,by rw[hl];exact codeAmong_snoc _ p U,kc,hd,R)) kf kc hd R
  ·exact j b o e λz=>by rw[z,l]at n;cases n
  ·exact(o.slots,j b o e λz=>by rw[z,l]at n;cases n)
  ·rw[k1 b (λz=>by rw[z,l]at n;cases n) (aap (aai (Heap.lt_size e) v)) (aap (aai (Heap.lt_size e) (afJ v (ae8 N))))];exact n
  ·by_cases z:b=P
   ·exact(_,by rw[z];exact D)
   ·exact(o,j b o e z)
  ·exact k b _ e λz=>by rw[z,l]at e;cases e
  ·exact k b _ e λz=>by rw[z,l]at e;cases e
  ·by_cases z:b=P
   ·rw[z,l]at e;cases e;exact(_,by rw[z];exact kP)
   ·exact(#[],by rw[k b _ e z];simp)
  ·by_cases F:b=g.objs.size
   ·rw[F,kf]at e;cases e;rw[F];exact fH (Heap.get?_push_size _ rfl)
   by_cases z2:b=a
   ·rw[z2,kc]at e;cases e;rw[z2];exact fH (Heap.get?_push_of_some _ a1)
   by_cases Z:b=P
   ·rw[Z,kP]at e;cases e;rw[Z];exact D
   rw[k1 b Z z2 F]at e;refine(I.hok b u e).stay (λd o w q=>j d o q ?_) (λd q=>k d _ q ?_) λd xs q=>k d _ q ?_
   ·rcases w with rfl|w
    ·exact Z
    ·exact λz=>by rw[z,l]at w;cases w
   ·exact λz=>by rw[z,l]at q;cases q
   ·exact λz=>by rw[z,l]at q;cases q
 ·refine kla_makeFunctionHit (mg:=X.mg) V I.ok.glob G r (C.keeps I.bk) x p hf W9 λf g tk hk T=>?_;have J:H g.objs.size=none:=I.hok.fresh T
  have k:∀b o,H b=some o->upd H g.objs.size (aN g.objs.size (kla_obj name qual params body scope clos ((X.mg "__name__").getD .none) B f)) b=some o:=λb o e=>by
   rw[aH (aJ e J)];exact e
  have j:∀b o,s.heap.get? b=some o->(g.push (kla_obj name qual params body scope clos ((X.mg "__name__").getD .none) B f)).get? b=some o:=λb o e=>Heap.get?_push_of_some _ (hk b o e)
  refine h g.objs.size B _ f i y t _ _ (I.call' (ch:=[]) rfl (Un.laid j T J) (λb u e=>?_) I.bare λb z=>absurd z (by simp)) J (λb o e _=>k b o e) (m,k _ _ l,p,.inr (B,i,y,t,hf,k _ _ W,hd,R)) aq (k _ _ W) hd R;by_cases F:b=g.objs.size
  ·rw[F,aq]at e;cases e;rw[F];exact fH (Heap.get?_push_size _ rfl)
  rw[aH F]at e;exact(I.hok b u e).stay (λd o _ q=>j d o q) (λd q=>k d _ q) λd xs q=>k d _ q
end
section
variable{P:Program}{s0:Shared}{H0:Hp}{E:XK}{Q:VK}
theorem NK{T:pO}{cs:List Addr}{Tr:List V}{pos :Pos}(I:Inv (ik CX P w K mg base N qual scope f (.ref c) A outer s0 H0 E) [] σ H s)(bm:BMain mg base)(C:CodeHd base c Pt)(hT:TabAt H Pt pos T.qual)
  (hq:(envOfC qual scope s0.heap.objs.size f (.ref c)).qual ++ "<lambda>" = T.qual)
  (a5:closureFor T.scope (envOfC qual scope s0.heap.objs.size f (.ref c))=pure (T.xs.zip cs))(a4:defaultsOf T.params (envOfC qual scope s0.heap.objs.size f (.ref c))=(pq ([]) ([])))
  (S:cs.Nodup)(W:cs.length=T.xs.length)(G:Tr.length=T.xs.length)
  (Xa:∀(j:Nat) (a:Addr),cs[j]?=some a -> ∃(x:Str) (m:Nat) (v:V),(envOfC qual scope s0.heap.objs.size f (.ref c)).cells.lookup x=some a/\scope.names.lookup x=some .cell/\N[m]?=some x/\σ[m]?=some (some v)/\Tr[j]?=some v)
  (hQ:∀(D:Addr) (H2:Hp),H D=none->(∀a∈cs,H a=none)->(∀b o,H b=some o->b≠Pt->H2 b=some o)->TabAt H2 Pt pos T.qual->dI H2 D T cs Tr->Q (.ref D) H2):
  wpAny (model P w) (A.deeper (envOfC qual scope s0.heap.objs.size f (.ref c))) (execs [.Return (some (.Lambda T.params T.body T.scope pos)) p] (envOfC qual scope s0.heap.objs.size f (.ref c)))
   (λfl s'=>∃u,fl=.ret u/\CE outer P w H0 s0 Q u s') (ik CX P w K mg base N qual scope f (.ref c) A outer s0 H0 E).xe s:=by
 refine wpAny_execs_cons (wpAny_Return_some (kla_eval a4 ?_));rw[hq];refine Lz (X:=ik CX P w K mg base N qual scope f (.ref c) A outer s0 H0 E) (n:=pos.line) I bm rfl C hT a5 λD cd pm a8 oc vs t h y F YQ R a7 a3 a6 hd hv=>?_;exists .ref D,7,.ref D,λb=>if b∈cs then (y.heap.get? b).map (aN b)else h b,F.os,F.bare,3,3,7
 all_goals
  have g:∀a∈cs,∃x,(envOfC qual scope s0.heap.objs.size f (.ref c)).cells.lookup x=some a:=λa i=>by
   obtain⟨j,Z⟩:=aaP i;obtain⟨x,m,v,h1,_⟩:=Xa j a Z;exact(x,h1)
  have fresh:∀a∈cs,s0.heap.objs.size<=a:=λa i=>by
   obtain⟨x,M⟩:=g a i;exact F.ok.cab x a rfl M
  have Y:∀a∈cs,h a=none:=λa i=>by
   obtain⟨x,M⟩:=g a i;exact F.freeC x a M
  have k:∀b o,h b=some o->b∉cs:=λb o e z=>by
   rw[Y b z]at e;cases e
 ·have U:Un (frs outer) [] H0 h s0.heap y.heap:=F.base;refine(U.keep,U.slot,λb o e n a2=>?_,U.there,λb xs e=>?_,λb o v e=>?_,λb ps e=>?_)
  ·show (if b∈cs then _ else h b)=none;rw[if_neg (λz=>absurd (aai (Heap.lt_size e) (fresh b z)) (afL _))];exact U.free b o e n a2
  ·have r:=U.tups b xs e;show (if b∈cs then _ else h b)=_;rw[if_neg (k b _ r)];exact r
  ·have r:=U.frzs b o v e;show (if b∈cs then _ else h b)=_;rw[if_neg (k b _ r)];exact r
  ·obtain⟨O,r⟩:=U.tbls b ps e;exists O;show (if b∈cs then _ else h b)=_;rw[if_neg (k b _ r)];exact r
 ·intro b J e;have e:(if b∈cs then (y.heap.get? b).map (aN b)else h b)=some J:=e;by_cases hb:b∈cs
  ·rw[if_pos hb]at e;cases q:y.heap.get? b with
   |none=>rw[q]at e;cases e
   |some o=>
    rw[q]at e;cases e;exact fH q
  ·rw[if_neg hb]at e;refine(F.hok b J e).stay (λ_ _ _ q=>q) (λd q=>?_) λd xs q=>?_
   ·show (if d∈cs then _ else h d)=_;rw[if_neg (k d _ q)];exact q
   ·show (if d∈cs then _ else h d)=_;rw[if_neg (k d _ q)];exact q
 ·have L:∀b o,h b=some o->(λb=>if b∈cs then (y.heap.get? b).map (aN b)else h b) b=some o:=λb o e=>by
   show (if b∈cs then _ else h b)=_;rw[if_neg (k b _ e)];exact e
  refine hQ D _ YQ (λa i=>?_) (λb o e n=>L b o (R b o e n)) ?_ ((cd,pm,a8,oc,vs,t,L _ _ a3,L _ _ a6,hd,hv),λj a Z=>?_,S,W,G)
  ·obtain⟨x,M⟩:=g a i;exact I.freeC x a M
  ·obtain⟨ps,r,e2,e3⟩:=a7;exists ps,L _ _ r,e2;rcases e3 with e3|⟨a9,a1,a0,t',e4,e5,e6⟩
   ·exact .inl e3
   ·exact .inr (a9,a1,a0,t',e4,L _ _ e5,e6)
  ·obtain⟨x,m,v,h1,h2,h3,h4,h5⟩:=Xa j a Z;obtain⟨mm,_,hl⟩:=F.loc;obtain⟨J,r',l⟩:=hl m x v h3 h4 (.inr (.inl h2));have l':∃c',(envOfC qual scope s0.heap.objs.size f (.ref c)).cells.lookup x=some c'/\y.heap.IsCell c' (some J):=by
    rcases l with ⟨B,_⟩|⟨_,l2⟩
    ·have B:scope.names.lookup x=some .local:=B;rw[h2]at B;cases B
    ·exact l2
   obtain⟨c',B,co,l2,l3⟩:=l';rw[h1]at B;cases B;refine(co,v,J,h5,3,l3,r');show (if a∈cs then (y.heap.get? a).map (aN a)else h a)=_;rw[if_pos (aah Z),l2];rfl
end
structure Cg(N:List Str)(qual:Str)(scope:Scope)(T:pO)(slots:List Nat)(Uo:Addr->List Addr):Prop where
 qn:∀(L f:Addr) (c:Value),(envOfC qual scope L f c).qual ++ "<lambda>" = T.qual
 cl:∀(L f:Addr) (c:Value),closureFor T.scope (envOfC qual scope L f c)=pure (T.xs.zip (Uo L))
 d0:∀(L f:Addr) (c:Value),defaultsOf T.params (envOfC qual scope L f c)=(pq ([]) ([]))
 YS:∀L:Addr,(Uo L).Nodup
 len:∀L:Addr,(Uo L).length=T.xs.length
 fv:∀(L f:Addr) (c:Value) (j:Nat) (a:Addr),(Uo L)[j]?=some a -> ∃(x:Str) (m:Nat),(envOfC qual scope L f c).cells.lookup x=some a/\scope.names.lookup x=some .cell/\N[m]?=some x/\slots[j]?=some m
def Ml(H:Hp)(g:Addr)(pos:Pos)(T:pO)(c:List Nat)(σ:St)(Q:VK):Prop:=
 TabAt H g pos T.qual /\ ∃f:List V,(∀j m:Nat,c[j]?=some m -> ∃v,σ[m]?=some (some v)/\f[j]?=some v)/\f.length=T.xs.length /\
  ∀(e:Addr) (h:List Addr) (d:Hp),H e=none->(∀a∈h,H a=none)->(∀b o,H b=some o->b≠g->d b=some o)->TabAt d g pos T.qual->dI d e T h f->Q (.ref e) d
section
variable{P:Program}{k:Nat}{T:pO}{slots:List Nat}{Uo:Addr->List Addr}{pos p1 p2:Pos}
theorem yp{A:Around}{s b:Shared}{Q:VK}{E:XK}{σ:St}(M:Cg N qual (δ st) T slots Uo)(bm:BMain mg base)(C:CodeHd base c Pt)(I:Inv (ik Ti P w K mg base N qual (δ st) f (.ref c) A outer s H E) [] σ H' b)(h:Ml H' Pt pos T slots σ Q):
  wpAny (model P w) (A.deeper (envOfC qual (δ st) s.heap.objs.size f (.ref c))) (execs [.Return (some (.Lambda T.params T.body T.scope pos)) p2] (envOfC qual (δ st) s.heap.objs.size f (.ref c)))
   (λB d=>∃u,B=.ret u/\CE outer P w H s Q u d) (ik Ti P w K mg base N qual (δ st) f (.ref c) A outer s H E).xe b:=by
 obtain⟨q,S,z,t,r⟩:=h;refine NK (cs:=Uo s.heap.objs.size) (Tr:=S) I bm C q (M.qn _ _ _) (M.cl _ _ _) (M.d0 _ _ _) (M.YS _) (M.len _) t (λj a e=>?_) (λD U p o n l g=>r D _ U p o n l g);obtain⟨y,m,R,O,L,J⟩:=M.fv s.heap.objs.size f (.ref c) j a e;obtain⟨v,G,F⟩:=z j m J;exact(y,m,v,R,O,L,G,F)
theorem Uh.makerL1{g:Stmt}(F:Uh K x qual st f fd)(S:aC N ps (δ st))(M:Cg N qual (δ st) T slots Uo)(bm:BMain mg base)(e:fd.code=.ref c)(C:CodeHd base c Pt)(j:∀d H Q E,sp d H Q E->d.length=ps.length)
  (r:μ st=[g,.Return (some (.Lambda T.params T.body T.scope pos)) p2])
  (h:∀(b:Value) (A:Around) (a:List Env) (s:Shared) (H:Hp) (d:List V) (Q:VK) (E:XK),eF k (A.deeper (envOfC qual (δ st) s.heap.objs.size f b))->sp d H Q E ->
   ∃t,PS (ik Ti P w K mg base N qual (δ st) f b A a s H E).Wo g t/\t {nx:=λ σ H'=>Ml H' Pt pos T slots σ Q,rt:=λ_ _=>False} (start N d) H):aV P w K mg base Ti (k+1) f fd ps sp:=by
 obtain⟨U,R,kV,J,O,X,b,W,G,rfl,o,m⟩:=F.ex;obtain rfl:b=.ref c:=e;refine En o m S j λA a s H d Q E n p l I=>?_;rw[r];obtain⟨t,y,v⟩:=h _ A a s H d Q E p l;refine wpAny_execs_cons (wpAny_mono (y [] n (start N d) H _ (I.wish _) v) (λB L q=>?_) λ_ _ z=>False.elim z);cases B with
 |next=>
  obtain⟨σ,Y,D,q⟩:=q;exact yp M bm C D.unwish q
 |ret u=>obtain⟨_,_,_,_,_,z⟩:=q;exact False.elim z
 |brk=>obtain⟨_,_,_,z⟩:=q;exact False.elim z
 |cont=>obtain⟨_,_,_,z⟩:=q;exact False.elim z
theorem Ec{sp:Addr->Sp}(S:pR N T)(u:∀(m:List (Str×Addr)) (l b d:Value) (j:List Value),j.length=T.ps.length->bindArgs (kla_fn "<lambda>" T.qual T.params T.body T.scope m l b d) (j,[])=pure (T.ps.zip j))
  (h:∀(f:Addr) (g:List V) (H:Hp) (Q:VK),sp f g H Q E0->g.length=T.ps.length /\ ∃cs Tr,dI H f T cs Tr /\
   ∀(b:Addr) (A:Around) (a:List Env) (s:Shared),eF k (A.deeper (envX T.qual T.scope s.heap.objs.size f (.ref b) (T.xs.zip cs))) -> ∃t,PE (sO P w K mg base N T.qual T.scope f (.ref b) (T.xs.zip cs) A a s (hide H cs)) T.body t/\t (start N (g++Tr)) (hide H cs) λv H'=>Q v (over H cs H')):
  fM P w K mg base (k+1) sp:=by
 intro f A a s H j g Q q y r n;obtain⟨p,cs,Tr,z,e⟩:=h f g H Q n;exact O1 S q y z (λm l b d=>u m l b d j (by rw[<-r.length];exact p)) r p λb o=>e b A a s o
end
theorem Inv.turnN{ch:List Addr}{p:Addr}{o:HO}{t':Nat}(I:Inv X π σ H s)(h:∀b∈ch,gM X π H b)
  (k:∀b u,b∉ch->s.heap.get? b=some u->h'.get? b=some u)(l:s.heap.objs.size<=p)
  (i:bJ X.prog X.w (upd H p o) h' p o):Inv X π σ (upd H p o) {s with heap:=h',toks:=t'}:=by
 have y:=I.hok.fresh l;have j:∀b u,H b=some u->b∉ch:=λb u q z=>by rw[(h b z).1]at q;cases q
 have a:∀b u,H b=some u->upd H p o b=some u:=λb u q=>by rw[aH (aJ q y)];exact q
 refine I.step (g':=s.gens) (d':=s.drawn) (ch:=ch) (λb e=>?_) (λb u _ _ d q _=>k b u d q) (λb u _ _ d q _=>(u.slots,k b u d q))
  (λb u _ q n=>by rw[aH (aap (aai (Heap.lt_size q) l))];exact n) (λb u d q=>(u,k b u d q))
  (λb t q=>a _ _ q) (λb g u q=>a _ _ q) (λb E q=>(#[],by rw[a _ _ q];simp)) (λm A=>?_) (λb u q=>?_) I.bare
 ·have f:=h b e;exact(f.2.2.2.1,f.2.1,f.2.2.2.2.1,f.2.2.2.2.2)
 ·obtain⟨g,C,D,x,r⟩:=A;exact(g,C,D,k _ g (λz=>(h _ z).2.1 rfl) x,r)
 ·by_cases e:b=p
  ·subst e;rw[aq]at q;cases q;exact i
  ·rw[aH e]at q;refine(I.hok b u q).stay (λc v B r=>k c v ?_ r) (λc r=>a _ _ r) λc t r=>a _ _ r;rcases B with rfl|z
   ·exact j _ _ q
   ·exact j _ _ z
theorem Inv.turnedN{ch:List Addr}{t':Nat}(I:Inv X π σ H s)(e:∀b∈ch,gM X π H b)
  (k:∀b u,b∉ch->s.heap.get? b=some u->h'.get? b=some u):Inv X π σ H {s with heap:=h',toks:=t'}:=by
 have g:∀b u,H b=some u->b∉ch:=λb u q z=>by rw[(e b z).1]at q;cases q
 refine I.step (g':=s.gens) (d':=s.drawn) (ch:=ch) (λb l=>?_) (λb u _ _ a q _=>k b u a q) (λb u _ _ a q _=>(u.slots,k b u a q))
  (λ_ _ _ _ n=>n) (λb u a q=>(u,k b u a q))
  (λ_ _ q=>q) (λ_ _ _ q=>q) (λb w q=>(#[],by rw[q];simp)) (λm i=>?_) (λb u q=>?_) I.bare
 ·have d:=e b l;exact(d.2.2.2.1,d.2.1,d.2.2.2.2.1,d.2.2.2.2.2)
 ·obtain⟨f,o,p,h,r⟩:=i;exact(f,o,p,k _ f (λz=>(e _ z).2.1 rfl) h,r)
 ·refine(I.hok b u q).stay (λc v j r=>k c v ?_ r) (λc r=>r) λc t r=>r;rcases j with rfl|z
  ·exact g _ _ q
  ·exact g _ _ z
def Wd(K:PySem.W.Frag)(a b:Addr):It:=
  (λi H=>∃d c x y,Tg K H a d/\Tg K H b c/\d[i]?=some x/\c[i]?=some y,
   λi H v e=>∃p x y,H p=none/\v=.ref p/\e=upd H p (.tup [x,y])/\(∀d,Tg K H a d->d[i]?=some x) /\ ∀c,Tg K H b c->c[i]?=some y,
   λi H=>∃d c,Tg K H a d/\Tg K H b c/\(d.length<=i\/c.length<=i))
structure El(z TI TO i1 i2:Addr):Prop where
 TIz:TI≠z
 TOz:TO≠z
 i1z:i1≠z
 i2z:i2≠z
 TITO:TI≠TO
 TIi1:TI≠i1
 TIi2:TI≠i2
 TOi1:TO≠i1
 TOi2:TO≠i2
 i12:i1≠i2
def Pq(a b z TI TO d c:Addr)(i:Nat)(h:Heap):Prop:=IsZip h z TI TO .none/\IsPair h TI (.ref d) (.ref c)/\(∃x y,IsPair h TO x y)/\h.IsListIter d a i/\h.IsListIter c b i
theorem mU{a b:Addr}{o u:Obj}(d:h'.get? a=some o)(c:h'.get? b=some u)(e:o.cls≠u.cls):a≠b:=λz=>by
 subst z;rw[d]at c;cases c;exact e rfl
theorem Bm{a b :Addr}{i:Nat}{xs ys:Array Value}(D:El f C S c dx)(st:Pq a b f C S c dx i h')(r:h'.IsList a xs)(q:h'.IsList b ys):ZipApart f C S c dx a b:=by
 obtain⟨l,s,⟨x,y,d⟩,⟨w,n,p,_⟩,⟨v,m,o,_⟩⟩:=st;obtain⟨u,g,k,_⟩:=r;obtain⟨t,e,j,_⟩:=q;exact(D.TIz,D.TOz,D.i1z,D.i2z,D.TITO,D.TIi1,D.TIi2,D.TOi1,D.TOi2,D.i12,
  mU g l (by rw[k];show Value.type "list" ≠ Value.type "zip";decide),mU g d (by rw[k];show Value.type "list" ≠ Value.type "tuple";decide),mU g n (by rw[k,p];decide),mU g m (by rw[k,o];decide),
  mU e l (by rw[j];show Value.type "list" ≠ Value.type "zip";decide),mU e d (by rw[j];show Value.type "list" ≠ Value.type "tuple";decide),mU e n (by rw[j,p];decide),mU e m (by rw[j,o];decide))
theorem Kz{w:World}(a b z TI TO F C:Addr)(D:El z TI TO F C):
  Turn prog w K (.Tuple y n p) (Wd K a b) [z,TI,TO,F,C] z (Pq a b z TI TO F C) where
 mem:=by simp
 obj:=λi h m c U=>by
  obtain⟨r,f,⟨x,d,g⟩,⟨o1,e1,c1,d1⟩,⟨o2,e2,c2,d2⟩⟩:=m;have G:c=z\/c=TI\/c=TO\/c=F\/c=C:=by simpa using U
  rcases G with rfl|rfl|rfl|rfl|rfl
  ·exact(_,r,λv q=>by cases q)
  ·exact(_,f,λv q=>by cases q)
  ·exact(_,g,λv q=>by cases q)
  ·exact(_,e1,λv q=>by rw[d1]at q;cases q)
  ·exact(_,e2,λv q=>by rw[d2]at q;cases q)
 keep:=λi h h' m k=>by
  obtain⟨r,f,⟨x,d,g⟩,h1,M⟩:=m;exact(k z (by simp) _ r,k TI (by simp) _ f,(x,d,k TO (by simp) _ g),h1.at λo q=>k F (by simp) o q,M.at λo q=>k C (by simp) o q)
 item:=by
  intro X hP V hK U i π s σ H E I T m Z;subst hP V hK;obtain⟨xs,ys,x,d,B,A,L,hy⟩:=Z;obtain⟨b0,XS,O,b2⟩:=I.list B;obtain⟨a9,XX,N,b1⟩:=I.list A;obtain⟨R,b4,a7⟩:=XS.get L;obtain⟨Q,b3,a0⟩:=XX.get hy;have D7:=Bm D m O.isList N.isList;obtain⟨r,f,⟨v1,v2,g⟩,u,t⟩:=id m;refine wpAny_pyNext_zip_item D7 r f g u t O.isList N.isList (x:=R) (by simpa using b4) (y:=Q) (by simpa using b3) λh1 a1 a2 a3 a4 a5 a6 S=>?_;refine(5,wpAny_letOwnedTupleGo_zip a1 λM b5 l=>?_);have J:∀{c o},s.heap.get? c=some o->s.heap.objs.size≠c:=λe=>agr (Heap.lt_size e)
  have g2:M.get? s.heap.objs.size=some {cls:=.type "tuple",data:=.seq #[R,Q]}:=(l.2 _ (J r)).trans a5
  have kk:∀b o,b∉[z,TI,TO,F,C]->s.heap.get? b=some o->M.get? b=some o:=λb o j q=>
   (l.2 b (λe=>j (by simp[e]))).trans (S b o (λe=>j (by simp[e])) (λe=>j (by simp[e])) (λe=>j (by simp[e])) (λe=>j (by simp[e])) q)
  have a8:bJ X.prog X.w (upd H s.heap.objs.size (.tup [x,d])) M s.heap.objs.size (.tup [x,d]):=
   ((by show 2<=sizeLine;decide),[R,Q],.cons a7 (.cons a0 .nil),_,g2,7,5)
  have I2:=I.turnN (h':=M) (t':=s.toks) T kk (aac _) a8;have hn:H s.heap.objs.size=none:=I.hok.fresh (aac _);refine(.ref s.heap.objs.size,_,I2,7,(_,x,d,hn,7,7,λzs Y=>by rw[I.list_inj Y B];exact L,λzs Y=>by rw[I.list_inj Y A];exact hy),
   (b5,(l.2 _ D.TIz).trans (S _ _ D.TIz D.TITO D.TIi1 D.TIi2 f),(R,Q,(l.2 _ D.TOz).trans a2),a3.extBut l.extBut D.i1z,a4.extBut l.extBut D.i2z),λb j=>?_)
  have b6:b≠s.heap.objs.size:=by
   obtain⟨o1,e1,_⟩:=u;obtain⟨o2,e2,_⟩:=t;have G:b=z\/b=TI\/b=TO\/b=F\/b=C:=by simpa using j
   rcases G with rfl|rfl|rfl|rfl|rfl
   ·exact(J r).symm
   ·exact(J f).symm
   ·exact(J g).symm
   ·exact(J e1).symm
   ·exact(J e2).symm
  rw[aH b6];exact(T b j).1
 done:=by
  intro X hP V hK U i π s σ H E I T m Z;subst hP V hK;obtain⟨xs,ys,B,A,L⟩:=Z;obtain⟨b0,XS,O,b2⟩:=I.list B;obtain⟨a9,XX,N,b1⟩:=I.list A;have D7:=Bm D m O.isList N.isList;obtain⟨r,f,⟨v1,v2,g⟩,u,t⟩:=id m;have l1:=XS.length;have l2:=XX.length;refine wpAny_pyNext_zip_end (I.ok.hd U) D7 r f g u t O.isList N.isList ?_ λh' S=>(7,I.turnedN (t':=s.toks) T λb o j q=>S b o (λe=>j (by simp[e])) (λe=>j (by simp[e])) (λe=>j (by simp[e])) (λe=>j (by simp[e])) q);rcases L with L|L
  ·exact .inl (by simp;lia)
  ·exact .inr (by simp;lia)
 self:=λ_ _ _ _ _ m h=>wpAny_pyIter_zip m.1 h
inductive Qn(K:PySem.W.Frag)(R:It->Hp->Prop)(vs:List V)(H1:Hp):Prop
 | mk (a b xs ys:_) (_:vs=[.ref a,.ref b]) (_:Tg K H1 a xs) (_:Tg K H1 b ys) (_:R (Wd K a b) H1)
def R8(K:PySem.W.Frag)(b:TA):TI:=λ a H R=>b a H (Qn K R)
theorem DN{a b:Expr}{p pos:Pos}(W:Gl X "zip")(U:X.mg "zip" = none)(S:bootBuiltins "zip" = some (.type "zip"))(Z:PA X [a,b] t)
  (T:starEach [a,b] X.env=[(pq false (eval a X.env)),(pq false (eval b X.env))]:=by rfl)(l:starEach [b] X.env=[(pq false (eval b X.env))]:=by rfl):
  PI X (.Tuple y n apos) (.Call (.Name "zip" p) [a,b] [] pos) (R8 X.K t):=by
 intro E s C H R I h;refine Call_ (cZ I W U S (PyProof.Rows.callWith_type1 (Th (Z pos E s C H _ I h) λus f ⟨vs,L,g,M,O⟩=>?_) (by rw[T,l]) (by rw[l];rfl)));obtain⟨G,F,xs,ys,e,v,u,q⟩:=O;subst e;cases M with
 |cons r o=>
  cases o with
  |cons N o=>
   cases o;cases r;cases N;obtain⟨a1,XS,Q,a3⟩:=g.list v;obtain⟨a0,XX,P,a2⟩:=g.list u;refine call_zip_2 Q.isList P.isList λh' J B A x w a4 V=>?_;refine wpAny_pyIter_zip J ?_;have I2:Inv X E C L {f with heap:=h'}:=g.kept (t':=f.toks) V;have D:El (f.heap.objs.size+4) (f.heap.objs.size+2) (f.heap.objs.size+3) f.heap.objs.size (f.heap.objs.size+1):=by
    have k:∀d i j:Nat,i≠j->d+i≠d+j:=λd i j h=>by lia
    exact(k _ 2 4 ∅,k _ 3 4 ∅,k _ 0 4 ∅,k _ 1 4 ∅,k _ 2 3 ∅,k _ 2 0 ∅,k _ 2 1 ∅,k _ 3 0 ∅,k _ 3 1 ∅,k _ 0 1 ∅)
   refine(f.heap.objs.size+4,8,Wd X.K G F,L,7,I2,Kz G F _ _ _ _ _ D,(J,B,(8,A),x,w),λc Y=>?_,q);have m:f.heap.objs.size<=c:=by
    have z:c=f.heap.objs.size+4\/c=f.heap.objs.size+2\/c=f.heap.objs.size+3\/c=f.heap.objs.size\/c=f.heap.objs.size+1:=by simpa using Y
    rcases z with rfl|rfl|rfl|rfl|rfl
    ·exact agf _ _
    ·exact agf _ _
    ·exact agf _ _
    ·exact aac _
    ·exact agf _ _
   exact g.fpOk m (g.hok.fresh m)
theorem O5{a b:Addr}{xs ys:List V}{g:TG}{o:TS}{D:Ends}{σ:St}(d:Nat->St->Hp->Prop)(C:d 0 σ H)(A:∀i σ H,i<=min xs.length ys.length->d i σ H->Tg K H a xs/\Tg K H b ys)
  (w:∀i x y σ H p,xs[i]?=some x->ys[i]?=some y->d i σ H->H p=none->g (.ref p) σ (upd H p (.tup [x,y])) λ f l=>o {D with nx:=d (i+1),ct:=d (i+1),bk:=D.nx} f l)(hd:∀σ H,d (min xs.length ys.length) σ H->D.nx σ H):
  ∃W:Nat->Nat->St->Hp->Prop,(∃m,W 0 m σ H) /\ ∀i m σ H,W i m σ H ->
   ((Wd K a b).stop i H/\D.nx σ H)\/((Wd K a b).go i H /\ ∃N:St->Hp->Prop,(∀h H',N h H' -> ∃q,q<m/\W (i+1) q h H') /\ ∀x H',(Wd K a b).U0 i H x H'->g x σ H' λ f l=>o {D with nx:=N,ct:=N,bk:=D.nx} f l):=by
 exists λi m σ H=>m=min xs.length ys.length-i/\i<=min xs.length ys.length/\d i σ H,(min xs.length ys.length,7,aaF _,C);rintro i m σ H ⟨rfl,B,p⟩;obtain⟨k,j⟩:=A i σ H B p;by_cases n:i<min xs.length ys.length
 ·have t:i<xs.length:=by lia
  have s:i<ys.length:=by lia
  refine .inr ((xs,ys,xs[i],ys[i],k,j,aad t,aad s),d (i+1),λ h H' r=>(min xs.length ys.length-(i+1),9,7,n,r),λx H' y=>?_);obtain⟨c,x,y,z,F,E,v,u⟩:=y;subst F E;exact w i x y σ H c (v xs k) (u ys j) p z
 ·have e:i=min xs.length ys.length:=by lia
  subst e;exact .inl ((xs,ys,k,j,9),hd σ H p)
end L2
namespace Tw
def brk:List Int->Int->List Int
 |[],u=>aaE u.toNat 0
 |d::r,u=>aaE (u-d).toNat 0++1::brk r (d+1)
def Dp:List Int->Int->Prop
 |[],u=>0<=u
 |d::r,u=>0<=d/\d<=u/\Dp r (d+1)
theorem Dp.pos:∀{l:List Int}{u:Int},Dp l u->0<=u
 |[],_,h=>h
 |_::_,_,h=>Int.le_trans h.1 h.2.1
theorem j4:∀{l:List Int}{u:Int},Dp l u->(brk l u).length=u.toNat+2*l.length
 |[],u,_=>by simp[brk]
 |d::r,u,h=>by
  have:=j4 h.2.2;have b:=h.1;have a:=h.2.1;simp only[brk,aaf,abp,aaM,this];lia
theorem CW{l:List Int}{u x:Int}{t:List Int}(h:Dp l u)(e:brk l u=x::t):
  (x=0/\1<=u/\t=brk l (u-1)/\Dp l (u-1)) \/ ∃r,l=u::r/\x=1/\t=brk r (u+1)/\Dp r (u+1):=by
 cases l with
 |nil=>
  have i:0<=u:=h;rcases ahO 0 u with z|z
  ·refine .inl ?_;have c:u.toNat=(u-1).toNat+1:=by lia
   simp only[brk]at e ⊢;rw[c,af7]at e;injection e with b a
   exact(b.symm,z,a.symm,show 0<=u-1 by lia)
  ·have:u.toNat=0:=by lia
   simp only[brk]at e;rw[this]at e;cases e
 |cons d r=>
  obtain⟨g,j,f⟩:=h;rcases ahO d u with z|z
  ·refine .inl ?_;have c:(u-d).toNat=(u-1-d).toNat+1:=by lia
   simp only[brk]at e ⊢;rw[c,af7,agm]at e;injection e with b a
   exact(b.symm,9,a.symm,g,9,f)
  ·have:u=d:=by lia
   subst this;refine .inr (r,7,3);simp only[brk]at e;rw[Int.sub_self]at e;injection e with b a
   exact(b.symm,a.symm,f)
theorem Nr{l:List Int}{u:Int}(h:Dp l u)(e:brk l u=[]):l=[]/\u=0:=by
 have:=j4 h;rw[e]at this;have a:=h.pos;cases l with
 |nil=>
  exists 7;have:0=u.toNat+2*0:=this;lia
 |cons d r=>
  rw[aaM]at this;have:0=u.toNat+2*(r.length+1):=this;lia
def gr(ds:List Int):Prop:=ds[0]?=some 0 /\ ∀i x y,ds[i]?=some x->ds[i+1]?=some y->1<=y/\y<=x+1
theorem Pg:∀(r:List Int) (a:Int),(∀(i:Nat) (x y:Int),(a::r)[i]?=some x->(a::r)[i+1]?=some y->1<=y/\y<=x+1)->0<=a->Dp r (a+1)
 |[],a,_,b=>by show 0<=a+1;lia
 |d::r,a,h,b=>by
  have f:=h 0 a d rfl rfl;exact(9,f.2,Pg r d (λi x y e c=>h (i+1) x y e c) ⋯)
theorem gr.dp{ds:List Int}(h:gr ds):Dp ds 0:=by
 cases ds with
 |nil=>exact absurd h.1 (by simp)
 |cons d r=>
  have:d=0:=by
   have:=h.1;exact aao this
  subst this;exact(6,6,Pg r 0 h.2 ∅)
theorem gr.one{ds:List Int}(h:gr ds){i:Nat}(b:0<i)(hd:ds[i]?=some m):1<=m:=by
 obtain⟨j,rfl⟩:∃j,i=j+1:=(i-1,9);have a:=(aab.mp hd).1;have:=h.2 j ds[j] m (aad ⋯) hd;exact this.1
end Tw
namespace L2
open PySem.Spec PyProof.Rows
section
variable(P:Program)(w:World)
end
section
variable{P:Program}{o:HO}
end
section
variable{P:Program}{x e:Addr}{o':HO}
end
section
variable{fs fs' ex ex':List Addr}{H1 H2:Hp}{h1 h2:Heap}{x e:Addr}{o:HO}
end
section
variable{σ:List (Option V)}
end
section
variable{a:Expr}{pos:Pos}
variable{tA WY:TT}{rest:List Expr}
end
section
variable{xs ys:List V}
end
section
variable{rest:List Stmt}{t u:TS}{pos:Pos}
end
section
variable{pos:Pos}
end
section
variable{pos:Pos}
end
section
variable{a c:Expr}{tc:TE}{pos:Pos}
end
section
variable{a c:Expr}{tc:TE}{pos:Pos}
end
section
variable{x:Addr}{mA:Str->Option Value}{v:Value}
end
section
variable{P:Program}{fs fs':List (Str×V)}
end
section
variable{fs:List (Str×V)}{f:Str}{v:V}
end
section
variable{value:Expr}{f:Str}{pos pos' tpos:Pos}{tv:TE}
end
section
variable{Q:Value->Shared->Prop}{c:Value}{b:Bool}
end
section
variable{es:List Expr}{pos:Pos}
end
section
variable{s':Shared}
end
section
variable{k:Nat}{Vk:List V}{ds:List Value}{E:XK}{m:Str}{pos:Pos}{es:List Expr}
end
section
variable{k:Nat}{ks:List Str}{E:XK}{m:Str}{pos kpos:Pos}{es:List Expr}{kws:List Keyword}{tk:TA}{nm:Option Str}
variable{g:List Value->List Value->List Value}{gV:List V->List V->List V}
end
section
variable{pos:Pos}{es:List Expr}{id T:String}{r:List V->Hp->VK->Prop}
end
section
variable{κ:Type}[DecidableEq κ]
def ir(a:List (κ×V))(k:κ):Option V:=(a.find? λb=>decide (b.1=k)).map (·.2)
def putK(a:List (κ×V))(k:κ)(v:V):List (κ×V):=
 if (a.any λb=>decide (b.1=k))=true then a.map (λb=>if b.1=k then (pq b.1 v)else b)else a++[(pq k v)]
theorem dg{p:κ×V}{r:List (κ×V)}{k:κ}(e:p.1=k):ir (p::r) k=some p.2:=by simp[ir,ag5,e]
theorem dw{p:κ×V}{r:List (κ×V)}{k:κ}(e:¬p.1=k):ir (p::r) k=ir r k:=by simp[ir,ag5,e]
theorem jV(k:κ):∀a:List (κ×V),(a.any λb=>decide (b.1=k))=(ir a k).isSome
 |[]=>rfl
 |p::r=>by
  rw[ahl];by_cases e:p.1=k
  ·simp only[dg e,decide_eq_true e,ai8,Option.isSome_some]
  ·rw[dw e,decide_eq_false e,ai3];exact jV k r
theorem Af(k j:κ)(y:V):∀a:List (κ×V),ir (a.map λb=>if b.1=k then (pq b.1 y)else b) j=(ir a j).map λx=>if j=k then y else x
 |[]=>rfl
 |p::r=>by
  have c:=Af k j y r;rw[aaD];by_cases h:p.1=k
  ·rw[if_pos h];by_cases e:p.1=j
   ·rw[dg (p:=(pq p.1 y)) e,dg e,ahq,if_pos (e.symm.trans h)]
   ·rw[dw (p:=(pq p.1 y)) e,dw e,c]
  ·rw[if_neg h];by_cases e:p.1=j
   ·rw[dg (p:=p) e,dg e,ahq,if_neg (λz=>h (e.trans z))]
   ·rw[dw (p:=p) e,dw e,c]
theorem yh(k j:κ)(y:V):∀a:List (κ×V),ir a k=none->ir (a++[(pq k y)]) j=if j=k then some y else ir a j
 |[],_=>by
  by_cases e:k=j
  ·rw[if_pos e.symm];exact dg (p:=(pq k y)) e
  ·rw[if_neg (λz=>e z.symm)];exact dw (p:=(pq k y)) e
 |p::r,b=>by
  rw[agm];have c:¬p.1=k:=λz=>by rw[dg z]at b;cases b
  rw[dw c]at b;have d:=yh k j y r b;by_cases e:p.1=j
  ·rw[dg e,dg e,if_neg (λz=>c (e.trans z))]
  ·rw[dw e,dw e,d]
theorem Cq(b:List (κ×V))(k j:κ)(y:V):ir (putK b k y) j=if j=k then some y else ir b j:=by
 unfold putK;by_cases a:(b.any λc=>decide (c.1=k))=true
 ·rw[if_pos a,Af];rw[jV]at a;by_cases e:j=k
  ·obtain⟨x,d⟩:=ahR.mp a;rw[if_pos e,e,d,ahq,if_pos rfl]
  ·rw[if_neg e];cases ir b j with
   |none=>rfl
   |some x=>rw[ahq,if_neg e]
 ·rw[if_neg a];refine yh k j y b ?_;rw[jV]at a;cases q:ir b k with
  |none=>rfl
  |some x=>rw[q]at a;exact(a rfl).elim
theorem sI(a:List (κ×V))(k:κ)(v:V):(putK a k v).length<=a.length+1:=by
 unfold putK;split
 ·rw[aaa];lia
 ·rw[aaf,aaM,aiR];lia
theorem Kq{a:List (κ×V)}{k:κ}(v:V)(h:ir a k=none):putK a k v=a++[(pq k v)]:=by
 unfold putK;rw[jV,h];exact if_neg ∅
theorem uH.isSome_eq{o:Option V}{u:Option Value}(r:uH o u):o.isSome=u.isSome:=by
 cases o with
 |none=>cases u with
  |none=>rfl
  |some _=>exact(show False from r).elim
 |some _=>cases u with
  |none=>exact(show False from r).elim
  |some _=>rfl
theorem KV.val{a:List (κ×V)}{f:List (κ×Value)}(r:KV a f)(k:κ):uH (ir a k) (valueAt f k):=by
 unfold KV at r
 induction r with
 |nil=>exact True.intro
 |@cons p q l c h t i=>
  obtain⟨g,j⟩:=h;by_cases e:p.1=k
  ·have d:q.1=k:=g.symm.trans e;have b:valueAt (q::c) k=some q.2:=by simp[valueAt,ag5,d]
   rw[dg e,b];exact j
  ·have d:¬q.1=k:=λz=>e (g.trans z);have b:valueAt (q::c) k=valueAt c k:=by simp[valueAt,ag5,d]
   rw[dw e,b];exact i
theorem KV.any{a:List (κ×V)}{c:List (κ×Value)}(r:KV a c)(k:κ):(a.any λb=>decide (b.1=k))=c.any λb=>decide (b.1=k):=by
 unfold KV at r
 induction r with
 |nil=>rfl
 |cons h t d=>rw[ahl,ahl,d,h.1]
theorem KV.repl{b:List (κ×V)}{d:List (κ×Value)}(r:KV b d)(k:κ){y:V}{u:Value}(f:RelV y u):
  KV (b.map λa=>if a.1=k then (pq a.1 y)else a) (d.map λa=>if a.1=k then (pq a.1 u)else a):=by
 unfold KV at r ⊢
 induction r with
 |nil=>exact .nil
 |@cons p q l j h t g=>
  rw[aaD,aaD];refine .cons ?_ g;obtain⟨c,i⟩:=h;by_cases e:p.1=k
  ·rw[if_pos e,if_pos (c.symm.trans e)];exact(c,f)
  ·rw[if_neg e,if_neg (λz=>e (c.trans z))];exact(c,i)
theorem KV.put{a:List (κ×V)}{b:List (κ×Value)}(r:KV a b)(k:κ){y:V}{u:Value}(c:RelV y u):KV (putK a k y) (stored b k u):=by
 unfold putK stored;rw[r.any k];by_cases e:(b.any λd=>decide (d.1=k))=true
 ·rw[if_pos e,if_pos e];exact r.repl k c
 ·rw[if_neg e,if_neg e];exact Paired.snoc r (7,c)
theorem KV.length{a:List (κ×V)}{b:List (κ×Value)}(r:KV a b):a.length=b.length:=Paired.length r
end
theorem Gq{w:World}{k:Key}{u:Value}(r:RelV (kV k) u):(dG prog w).is k u=true:=by
 cases k with
 |inl i=>obtain⟨t,e⟩:=(show ∃t,u=Value.int i t from r);subst e;exact Di prog w i t
 |inr x=>obtain⟨t,e⟩:=(show ∃t,u=Value.str x t from r);subst e;exact Bk prog w x t
theorem ym{P:Program}{w:World}:∀{a:List Key}{b:List Value},Vals (a.map kV) b->ItemsAre (dG P w) a b
 |[],_,r=>by rw[ahL]at r;cases r;exact .nil
 |k::a,_,r=>by
  rw[aaD]at r;cases r with
  |cons h t=>exact .cons (Gq h) (ym t)
abbrev KT(H:Hp):List (List Key×V)->List (List Key×Addr×Value)->Prop:=Paired λp q=>p.1=q.1/\H q.2.1=some (.tup (p.1.map kV))/\RelV p.2 q.2.2
theorem KT.val{xs:List (List Key×Addr×Value)}(r:KT H Z xs)(k:List Key):uH (ir Z k) ((atKey xs k).map (·.2)):=by
 induction r with
 |nil=>exact True.intro
 |@cons p q i a h t f=>
  obtain⟨d,_,g⟩:=h;by_cases e:p.1=k
  ·have c:q.1=k:=d.symm.trans e;have b:atKey (q::a) k=some q.2:=by simp[atKey,ag5,c]
   rw[dg e,b];exact g
  ·have c:¬q.1=k:=λz=>e (d.trans z);have b:atKey (q::a) k=atKey a k:=by simp[atKey,ag5,c]
   rw[dw e,b];exact f
theorem KT.repl{xs:List (List Key×Addr×Value)}(r:KT H Z xs)(k:List Key){y:V}{u:Value}(d:RelV y u):
  KT H (Z.map λb=>if b.1=k then (pq b.1 y)else b) (xs.map (putAt k u)):=by
 induction r with
 |nil=>exact .nil
 |@cons p q j i h t f=>
  rw[aaD,aaD];refine .cons ?_ f;obtain⟨a,c,g⟩:=h;unfold putAt;by_cases e:p.1=k
  ·rw[if_pos e,if_pos (a.symm.trans e)];exact(a,c,d)
  ·rw[if_neg e,if_neg (λz=>e (a.trans z))];exact(a,c,g)
theorem KT.put{xs:List (List Key×Addr×Value)}(r:KT H Z xs)(k:List Key){b:Addr}{y:V}{u:Value}(d:H b=some (.tup (k.map kV)))(a:RelV y u):
  KT H (putK Z k y) (storedH xs k b u):=by
 have e:(Z.any λc=>decide (c.1=k))=(atKey xs k).isSome:=by
  rw[jV,(r.val k).isSome_eq,aiy]
 unfold putK storedH;rw[e];by_cases q:(atKey xs k).isSome=true
 ·rw[if_pos q,if_pos q];exact r.repl k a
 ·rw[if_neg q,if_neg q];exact Paired.snoc r (7,d,a)
theorem KT.keeps{H':Hp}{xs:List (List Key×Addr×Value)}(r:KT H Z xs)(ht:∀b ys,H b=some (.tup ys)->H' b=some (.tup ys)):KT H' Z xs:=
 Paired.mapP r λ_ _ z=>(z.1,ht _ _ z.2.1,z.2.2)
section
variable{P:Program}
theorem O8{u:HO}(b:TJ P w H h)(e:Rd H a u):bJ P w H h a u:=e.ok b
theorem Hc{b:List (Key×V)}(d:TJ P w H h)(e:Rd H a (.dK b)):b.length<=sizeLine/\(a==sysModules)=false /\ ∃c,KV b c/\h.DictOf (dG P w) a c:=
 show bJ P w H h a (.dK b)from O8 d e
theorem RC{b:List (Key×V)}(d:TJ P w H h)(e:H a=some (.dK b)):b.length<=sizeLine/\(a==sysModules)=false /\ ∃c,KV b c/\h.DictOf (dG P w) a c:=Hc d (.inl e)
theorem zu{b:List Key}(d:TJ P w H h)(e:H a=some (.tup (b.map kV))):(tupleKind (dG P w)).is h b a:=by
 obtain⟨_,c,r,o,i,g,n,f⟩:=(show bJ P w H h a (.tup (b.map kV))from d a _ e);exact(o,c.toArray,n,i,g,f,by simpa using ym r)
theorem Gh(d:TJ P w H h)(e:Rd H a (.dT Z)):Z.length<=sizeLine/\(a==sysModules)=false /\
  ∃xs,KT H Z xs/\h.DictOfH (tupleKind (dG P w)) a xs:=by
 obtain⟨z,y,xs,r,o,u,v,s,n,k,j,i⟩:=(show bJ P w H h a (.dT Z)from O8 d e);refine(z,y,xs,r,o,u,v,s,n,k,j,λx b=>?_,i);have c:∀{l:List (List Key×V)} {m:List (List Key×Addr×Value)},KT H l m -> ∀x∈m,(tupleKind (dG P w)).is h x.1 x.2.1:=by
  intro l m q
  induction q with
  |nil=>intro x b;exact nomatch b
  |@cons p q B A f t g=>
   intro x b;rcases aaO.mp b with e|b
   ·subst e;exact zu d (by rw[<-f.1];exact f.2.1)
   ·exact g x b
 exact c r x b
theorem RQ(b:TJ P w H h)(e:H a=some (.dT Z)):Z.length<=sizeLine/\(a==sysModules)=false /\
  ∃xs,KT H Z xs/\h.DictOfH (tupleKind (dG P w)) a xs:=Gh b (.inl e)
end
def zq(H:Hp)(a:Addr)(y:V)(r:Option V):Prop:=
 (∃c k,Rd H a (.dK c)/\y=kV k/\r=ir c k) \/ ∃c k b,Rd H a (.dT c)/\y=.ref b/\H b=some (.tup (k.map kV))/\r=ir c k
def Rr(H:Hp)(a:Addr)(y v:V)(H':Hp):Prop:=
 (∃c k,H a=some (.dK c)/\y=kV k/\c.length<sizeLine/\H'=upd H a (.dK (putK c k v))) \/
 ∃c k b,H a=some (.dT c)/\y=.ref b/\H b=some (.tup (k.map kV))/\c.length<sizeLine/\H'=upd H a (.dT (putK c k v))
theorem zq.k{H:Hp}{a:Addr}{b:List (Key×V)}{k:Key}(e:H a=some (.dK b)):zq H a (kV k) (ir b k):=.inl (b,k,.inl e,7,7)
section
variable{y v:V}{u r:Value}{o:Option V}
theorem Inv.big(I:Inv X π σ H s):sysModules<s.heap.objs.size:=by
 have h:mainGlobals<s.heap.objs.size:=(I.mod.glob.keeps I.bk).lt;exact aiG ∅ h
theorem Hu{Q:Value->Shared->Prop}(D:A.units+1<cLine)(I:Inv X π σ H s)(g:zq H a y (some v))(x:RelV y u)(h:∀d t,Inv X π σ H t->RelV v d->Q d t):
  wpAny (model X.prog X.w) A (getItem (.ref a) u) Q E s:=by
 rcases g with ⟨n,k,e,i,l⟩|⟨n,k,b,e,i,G,l⟩
 ·subst i;obtain⟨z,hd,C,c,j⟩:=Hc I.hok e;obtain⟨d,f,m⟩:=uH.some_of (v:=v) (o:=valueAt C k) (by rw[l];exact c.val k);exact wpAny_getItem_of (Gq x) j.mapOf f (h d _ (I.tok _) m)
 ·subst i;cases (show u=Value.ref b from x);obtain⟨z,hd,B,c,j⟩:=Gh I.hok e;obtain⟨d,f,m⟩:=uH.some_of (v:=v) (o:=(atKey B k).map (·.2)) (by rw[l];exact c.val k);obtain⟨p,F,q⟩:=abA.mp f;refine wpAny_getItem_heap (tupleKind_room_in1 D) (zu I.hok G) j F ?_;rw[q];exact h d _ (I.tok _) m
theorem R3{Q:Value->Shared->Prop}(n:A.units+1<cLine)(I:Inv X π σ H s)(g:zq H a y o)(m:RelV y u)(h:∀j,Inv X π σ H j->Q (.bool o.isSome) j):
  wpAny (model X.prog X.w) A (compareOp .In u (.ref a)) Q E s:=by
 rcases g with ⟨i,k,e,d,l⟩|⟨i,k,b,e,d,p,l⟩
 ·subst d;obtain⟨z,hd,x,c,f⟩:=Hc I.hok e;refine wpAny_in_of (Gq m) hd f.mapOf ?_;rw[<-(c.val k).isSome_eq,<-l];exact h _ (I.tok _)
 ·subst d;cases (show u=Value.ref b from m);obtain⟨z,hd,t,c,f⟩:=Gh I.hok e;refine wpAny_in_heap (tupleKind_room_in1 n) (zu I.hok p) hd f ?_;have q:=(c.val k).isSome_eq;rw[aiy]at q;rw[<-q,<-l];exact h _ (I.tok _)
theorem Gr{h':Heap}{t':Nat}{c:HO}(I:Inv X π σ H s)(f:WR (H a))(g:Heap.SameBut a s.heap h')(h:∃q,h'.get? a=some q)(d:bJ X.prog X.w (upd H a c) h' a c):
  Inv X π σ (upd H a c) {s with heap:=h',toks:=t'}:=
 I.write (x:=a) (e:=a) f (.inl rfl) (λb q i z=>(g.2 b i).trans z) h d
theorem QC{w:World}{H':Hp}{h':Heap}{b:List (Key×V)}{c:List (Key×Value)}(z:b.length<=sizeLine)(hd:(a==sysModules)=false)(d:KV b c)(dd:h'.DictOf (dG prog w) a c):
  bJ prog w H' h' a (.dK b):=(z,hd,c,d,dd)
theorem Ho{H':Hp}{Q:Unit->Shared->Prop}(N:A.units+1<cLine)(I:Inv X π σ H s)(g:Rr H a y v H')(D:RelV y u)(F:RelV v r)(h:∀C,Inv X π σ H' C->Q () C):
  wpAny (model X.prog X.w) A (setItem (.ref a) u r) Q E s:=by
 rcases g with ⟨f,k,e,t,l,x⟩|⟨f,k,b,e,t,K,l,x⟩
 ·subst t x;obtain⟨z,hd,M,d,B⟩:=RC I.hok e;have m:M.length<=sizeLine:=by rw[<-d.length];exact z
  have p:(putK f k v).length<=sizeLine:=by have:=sI f k v;lia
  refine wpAny_setItem_pairs (hsz:=m) (Gq D) B λG j n=>h _ ?_;have O:∃q,G.get? a=some q:=let ⟨q,_,_,i,_⟩:=j;(q,i);exact Gr I (by rw[e];exact True.intro) n O (QC p hd (d.put k F) j)
 ·subst t x;cases (show u=Value.ref b from D);obtain⟨z,hd,L,d,B⟩:=RQ I.hok e;have m:L.length<=sizeLine:=by rw[<-Paired.length d];exact z
  have p:(putK f k v).length<=sizeLine:=by have:=sI f k v;lia
  refine wpAny_setItem_heap (hsz:=m) (tupleKind_room_in1 N) (zu I.hok K) B λG j n=>h _ ?_;obtain⟨q,U,V,i,T,S,R,_,P⟩:=j;refine Gr I (by rw[e];exact True.intro) n (q,i) (p,hd,_,(d.put k K F).keeps λc W J=>?_,q,U,V,i,T,S,R,P);rw[aH (RG J e (λz=>nomatch z))];exact J
end
section
variable{kvs:List (Key×V)}{k:Key}{u:Value}
end
def RN(i:Expr):Prop:=∀a b,subscripted i false a b=operate [a,b] (getItem a b)
theorem Nu{prog:Program}{w:World}{A:Around}{E:Value->Shared->Prop}{s:Shared}{j:Env}{pos:Pos}{T id:String}{Q:Value->Shared->Prop}
  (p:typeLookup (.type T) "__getitem__" = pure (some (.builtin id)))(n:RN b)
  (h:wpAny (model prog w) A (eval e j) (λo f=>wpAny (model prog w) A (eval b j) (λi a=>a.TypeIs o T/\wpAny (model prog w) A (getItem o i) Q E a) E f) E s):
  wpAny (model prog w) A (eval (.Subscript e b pos) j) Q E s:=by
 refine Subscript_ (wpAny_mono h (λo f l=>wpAny_mono l (λi a c=>?_) λ_ _ x=>x) λ_ _ x=>x);obtain⟨m,c⟩:=c;unfold subscriptTail;refine wpAny_bind ?_;rw[getitemInPython_of_ne m.not_modules];refine wpAny_bind (wpAny_specialOf m p ?_);have g:wpAny (model prog w) A (subscripted b false o i) (λr d=>wpAny (model prog w) A (letTemporaryGo e o r >>= λ_=>pure r) Q E d) E a:=by
  rw[n o i];exact wpAny_operating (wpAny_mono c (λr d k=>wpAny_bind (wpAny_letTemporaryGo (wpAny_pure k))) λ_ _ x=>x)
 first
  | exact wpAny_pure (wpAny_bind g)
  | exact wpAny_bind (wpAny_pure (wpAny_bind g))
  | exact wpAny_bind g
theorem Ak{X:Cx}{σ:St}{s:Shared}{a:Addr}{y:V}{o:Option V}(I:Inv X π σ H s)(g:zq H a y o):s.TypeIs (.ref a) "dict":=by
 rcases g with ⟨d,k,e,_,_⟩|⟨d,k,b,e,_,_,_⟩
 ·obtain⟨_,_,h,_,c⟩:=Hc I.hok e;exact c.typeIs
 ·obtain⟨_,_,f,_,c⟩:=Gh I.hok e;exact c.typeIs
inductive Ov(Q:VK)(x:V)(y:V)(H2:Hp):Prop
 | mk (a v:_) (_:x=.ref a) (_:zq H2 a y (some v)) (_:Q v H2)
def Mh(a:TE)(σ:St)(Q:VK):VK:=λx b=>a σ b (Ov Q x)
def RD(c b:TE):TE:=λ a H Q=>c a H (Mh b a Q)
inductive QD(Q:VK)(y:V)(x:V)(H2:Hp):Prop
 | mk (a o:_) (_:x=.ref a) (_:zq H2 a y o) (_:Q (.bl o.isSome) H2)
def M8(a:TE)(σ:St)(Q:VK):VK:=λy b=>a σ b (QD Q y)
def Sh(b c:TE):TE:=λ a H Q=>b a H (M8 c a Q)
inductive Mx(D:Ends)(σ:St)(v:V)(x:V)(y:V)(H3:Hp):Prop
 | mk (a H4:_) (_:x=.ref a) (_:Rr H3 a y v H4) (_:D.nx σ H4)
def JV(a:TE)(D:Ends)(σ:St)(v:V):VK:=λx b=>a σ b (Mx D σ v x)
def Mi(b:TE)(a:TE)(D:Ends)(σ:St):VK:=λv c=>b σ c (JV a D σ v)
def R0(d b c:TE):TS:=λD a H=>c a H (Mi d b D a)
section
variable{i value:Expr}{pos pos' tpos:Pos}{td ty tv:TE}
theorem Ow(n:X.A.units+1<cLine)(q:PE X o td)(r:PE X i ty)(p:RN i):PE X (.Subscript o i pos) (RD td ty):=by
 intro c s b H Q I h;refine Nu PySem.F.slot_dict_getitem.lookup p (Th (q c s b H _ I h) λu f ⟨x,D,B,k,m⟩=>Th (r c f b D _ B m) λK J ⟨y,C,d,j,a,v,t,g,l⟩=>?_);subst t;obtain rfl:u=Value.ref a:=k;exact(Ak d g,Hu n d g j λE G z w=>(v,C,z,w,l))
theorem Q7(n:X.A.units+1<cLine)(q:PE X i ty)(p:PE X o td):PC X .In i o (Sh ty td):=by
 intro c s b H Q I h;refine Th (q c s b H _ I h) λE d ⟨y,B,w,f,l⟩=>Th (p c d b B _ w l) λu D ⟨x,z,v,j,a,m,r,g,k⟩=>?_;subst r;obtain rfl:u=Value.ref a:=j;exact R3 n v g f λC t=>(.bl m.isSome,z,t,7,k)
theorem GF(t:X.A.units+1<cLine)(z:PE X o td)(B:PE X i ty)(q:PE X value tv)(w:swapsWith value (some (.Subscript o i pos')) pos.line X.env=pure false):
  PS X (.Assign [.Subscript o i pos'] value pos) (R0 td ty tv):=by
 intro c s b H D I h;refine wpAny_Assign_Subscript (Th (q c s b H _ I h) λr f ⟨v,M,J,l,p⟩=>Th (z c f b M _ J p) λu d ⟨x,L,G,k,n⟩=>Th (B c d b L _ G n) λP O ⟨y,Q,F,j,a,K,C,g,m⟩=>?_) w;subst C;obtain rfl:u=Value.ref a:=k;exact Ho t F g j l λN E=>(b,K,E,m)
end
theorem J9{w:World}(h:Heap)(a:sysModules<h.objs.size):bJ prog w H (h.push {cls:=.type "dict",data:=.dict #[]}) h.objs.size (.dK []):=
 (aaF _,beq_eq_false_iff_ne.mpr (af3 (aap a)),[],.nil,Heap.DictOf.new h)
def Qx:TE:=λ_ H Q=>∀p,H p=none->Q (.ref p) (upd H p (.dK []))
section
variable{pos:Pos}
theorem BZ:PE X (.Dict [] [] pos) Qx:=λ c s b H Q I h=>
 wpAny_Dict_empty (.ref s.heap.objs.size,_,I.laid (a:=s.heap.objs.size) (o:=.dK []) (t':=s.toks) (λ_ _ q=>Heap.get?_push_of_some _ q) (aac _) (J9 s.heap I.big),7,h _ (I.hok.fresh (aac _)))
end
structure M1(X:Cx)(o:Expr)(m:Str)(apos:Pos)(e:Expr)(cpos:Pos):Prop where
 base:attributeBase o m X.env (eval o X.env)=eval o X.env
 few:((backTo cpos (starEach [e] X.env)).all (λx=>!x.1)&&(backToKw cpos (keywordEach [] X.env)).all (λx=>x.1.isSome)
  && decide (([e]:List Expr).length+([]:List Keyword).length+(if ([]:List Keyword).isEmpty then 0 else 1)<30))=true
 line:(apos.endLine==cpos.line)=true
 trees:backTo cpos (starEach [e] X.env)=[(pq false (eval e X.env))]
section
variable{y d:V}{u r:Value}{o:Option V}
end
section
variable{f:Expr}{cpos:Pos}{td ty tx:TE}
end
section
variable{kvs:List (Key×V)}
end
section
variable{y:V}{u:Value}
end
end L2
namespace XH
open PySem.W PySem.Calls PyProof.Rows
section
variable{K:Frag}
end
end XH
namespace L2
open PySem.Spec PyProof.Rows
section
variable{P:Program}
end
section
variable{κ:Type}[DecidableEq κ]
end
section
variable{rest:List Stmt}{t u:TS}
def SN(t u:TS):TS:=λD c H=>∃R:St->Hp->Prop,t {D with nx:=R} c H /\ ∀a b,R a b->u D a b
theorem MP(i:PS X st t)(g:Um X rest u):Um X (st::rest) (SN t u):=by
 rintro b s c H D I ⟨R,h,e⟩;refine wpAny_execs_cons (Th (i b s c H {D with nx:=R} I h) λf d q=>?_);cases f with
 |next=>
  obtain⟨a,k,j,q⟩:=q;exact g b d a k D j (e _ _ q)
 |ret v=>exact q
 |brk=>exact q
 |cont=>exact q
theorem yt{x:Str}{d:Stmt}{ps:List Str}{f:Addr}{fd:FuncData}{j k:Nat}{E:XK}{e:Expr}{p pos:Pos}{t:TA}(D:Tw.Df X.K X.mg x d ps f fd)(F:aV X.prog X.w X.K X.mg X.base CX j f fd ps sp)(i:j<=k)(h:eF k X.A)(g:qD CX X E)(l:Gl X x)
  (o:PA X (e::y) t)(c:(x==("__debug__" : Str))=false:=by decide)(n:starEach (e::y) X.env=(pq false (eval e X.env))::starEach y X.env:=by rfl)(a:(backTo pos (starEach y X.env)).any (·.1)=false:=by rfl):
  PE X (.Call (.Name x p) (e::y) [] pos) (Mu sp [] E t):=M7 (F.mono i) h l D.m D.F.kp D.b .nil g o c n a
theorem aF{x:Str}{c:Stmt}{ps:List Str}{f:Addr}{fd:FuncData}{j k:Nat}{e:Expr}{p pos:Pos}{t:TA}(D:Tw.Df X.K X.mg x c ps f fd)(F:aV X.prog X.w X.K X.mg X.base Ti j f fd ps sp)(d:eF k X.A)
  (l:PA X (e::y) t)(g:j<=k:=by decide)(h:Gl X x:=by rfl)(b:(x==("__debug__" : Str))=false:=by decide)(i:starEach (e::y) X.env=(pq false (eval e X.env))::starEach y X.env:=by rfl)(a:(backTo pos (starEach y X.env)).any (·.1)=false:=by rfl):
  PE X (.Call (.Name x p) (e::y) [] pos) (Mu sp [] E0 t):=yt D F g d RB h l b i a
end
end L2
namespace Tw
theorem jh{k:Nat}{b:Int}(h:d[k]?=some b):(d.take (k+1)).sum=(d.take k).sum+b:=by
 rw[acC,h];simp[ahn]
theorem iQ{a:List Int}(h:bc a)(i:Nat):∀j:Nat,i<=j->(a.take i).sum<=(a.take j).sum
 |0,c=>by
  have:i=0:=by lia
  subst this;exact aiQ _
 |j+1,c=>by
  by_cases e:i=j+1
  ·subst e;exact aiQ _
  have:=iQ h i j ⋯;cases q:a[j]? with
  |none=>
   rw[acC,q];simp;exact this
  |some b=>
   rw[jh q];have:=h b (aah q);lia
theorem CT:∀l:List Int,blk (l.map λx=>1-x)=2^l.length-1-blk l
 |[]=>by simp[blk]
 |x::l=>by
  rw[aaD,aaM,aiE];simp only[blk];rw[CT l];lia
theorem Bd:∀(l:List Int) (k:Nat),k<=l.length->((l.map λx=>1-x).take k).sum=k-(l.take k).sum
 |_,0,_=>by simp
 |[],k+1,h=>by simp at h
 |x::l,k+1,h=>by
  have:=Bd l k (by simpa using h);rw[aaD,ahi,ahi,aho,aho,this];lia
theorem turned{b:Int}(j:0<=b)(i:b<2^32):(∀k:Nat,k<32->bit (2^32-1-b) k=1-bit b k) /\ ∀k:Nat,k<=32->ones (2^32-1-b) k=k-ones b k:=by
 have c:=Ar b 32;have e:=Aw 32 b j i;have h:=gn b 32;have ht:bc ((bits b 32).map λx=>1-x):=λx g=>by
  obtain⟨y,f,rfl⟩:=aa3.mp g;have:=c y f;lia
 have d:blk ((bits b 32).map λx=>1-x)=2^32-1-b:=by rw[CT,h,e]
 refine(λk a=>?_,λk a=>?_)
 ·rw[<-d,um ht,aag,vm a];rfl
 ·rw[<-d,mL ht,Bd _ _ ⋯,<-mL c,e]
theorem Lj(b t:Int)(ht:0<=t):∀n:Nat,t<ones b n -> ∃k,k<n/\bit b k=1/\ones b k=t
 |0,h=>by
  rw[qL]at h;lia
 |n+1,h=>by
  by_cases c:t<ones b n
  ·obtain⟨k,e,a⟩:=Lj b t ht n c;exact(k,9,a)
  ·rw[iw]at h;have d:bit b n=0\/bit b n=1:=by
    unfold bit;lia
   exact(n,9,9,9)
theorem n8:∀(l:List Int) (u:Int),bc (brk l u)
 |[],u=>λb a=>.inl (agN a)
 |d::r,u=>λb a=>by
  simp only[brk,aba,aaO]at a;rcases a with a|rfl|a
  ·exact .inl (agN a)
  ·exact .inr rfl
  ·exact n8 r _ b a
theorem KD{k:Nat}{b:Int}(h:d[k]?=some b):(d.take (k+1)).sum=(d.take k).sum+b:=by
 rw[acC,h];simp
theorem zK{ds:List Int}(h:gr ds):∀k:Nat,k<=(brk ds 0).length -> ∃a:Nat,a<=ds.length/\a<=k/\((brk ds 0).take k).sum=a/\(brk ds 0).drop k=brk (ds.drop a) (ht (brk ds 0) k)/\Dp (ds.drop a) (ht (brk ds 0) k)
 |0,_=>(0,aaF _,aac _,7,by rw[jr];rfl,by rw[jr];exact h.dp)
 |k+1,q=>by
  obtain⟨a,o,t,s,i,n⟩:=zK h k ⋯;have c:(brk ds 0)[k]?=some (brk ds 0)[k]:=aad ⋯;have p:(brk ds 0).drop k=(brk ds 0)[k]::(brk ds 0).drop (k+1):=acA ⋯;rw[p]at i;have b:=kW c;have g:=KD c;rcases CW n i.symm with ⟨z,_,d,e⟩|⟨r,m,z,d,e⟩
  ·rw[z]at b g;exists a,o,9,9,?_
   ·rw[b,d];congr 1;lia
   ·rw[b,show ht (brk ds 0) k+2*0-1=ht (brk ds 0) k-1 from by lia];exact e
  ·rw[z]at b g;have f:a<ds.length:=by
    have:=congrArg agx m;rw[ab3,aaM]at this;lia
   have l:ds.drop (a+1)=r:=by
    have:ds.drop (a+1)=(ds.drop a).drop 1:=by rw[ahu]
    rw[this,m];rfl
   have j:ht (brk ds 0) k+2*1-1=ht (brk ds 0) k+1:=by lia
   exists a+1,f,9,9,?_
   ·rw[b,j,l];exact d
   ·rw[b,j,l];exact e
theorem nq{ds:List Int}(a:gr ds):(brk ds 0).length=2*ds.length:=by
 rw[j4 a.dp];show 0+_=_;lia
theorem CG{ds:List Int}(e:gr ds){k:Nat}(n:k<(brk ds 0).length):((brk ds 0)[k]?=some 0/\0<ht (brk ds 0) k)\/((brk ds 0)[k]?=some 1 /\ ∃a:Nat,((brk ds 0).take k).sum=a/\a<ds.length/\ds[a]?=some (ht (brk ds 0) k)):=by
 obtain⟨a,p,o,g,c,f⟩:=zK e k ⋯;have b:(brk ds 0)[k]?=some (brk ds 0)[k]:=aad ⋯;have l:(brk ds 0).drop k=(brk ds 0)[k]::(brk ds 0).drop (k+1):=acA ⋯;rw[l]at c;rcases CW f c.symm with ⟨z,u,h,m⟩|⟨r,d,z,h,m⟩
 ·exact .inl (by rw[b,z],9)
 ·refine .inr (by rw[b,z],a,g,3,3)
  ·have:=congrArg agx d;rw[ab3,aaM]at this;lia
  ·have:=agw (xs:=ds) (i:=a) (j:=0);rw[d]at this;exact this.symm
theorem uP{ds:List Int}(a:gr ds):Tree (brk ds 0):=by
 have i:=nq a;have n:0<ds.length:=(aab.mp a.1).1;refine(9,3,λk h e=>?_)
 ·obtain⟨c,m,l,j,d,b⟩:=zK a _ (aac _);rw[ahx]at d;exact(Nr b d.symm).2
 ·rcases CG a e with ⟨_,z⟩|⟨_,c,p,o,g⟩
  ·exact z
  ·obtain⟨_,_,_,_,_,b⟩:=zK a k ⋯;have f:=b.pos;rcases ad3 c with rfl|z
   ·unfold ht at f;lia
   ·have:=a.one z g;lia
theorem MN{ds:List Int}(a:gr ds){k:Nat}(b:(brk ds 0).length<=k):((brk ds 0).take k).sum=ds.length:=by
 have h:=(uP a).2.1;have c:=nq a;unfold ht at h;rw[agF]at h;rw[aak b];lia
theorem Aj{ds:List Int}(a:gr ds):(brk ds 0).sum=ds.length:=by
 have:=MN a (k:=(brk ds 0).length) (aac _);rw[agF]at this;exact this
theorem Km{ds:List Int}(e:gr ds){i p:Nat}(a:(brk ds 0)[p]?=some 1)(h:((brk ds 0).take p).sum=(i:Int)):ds[i]?=some (ht (brk ds 0) p):=by
 have d:=(aab.mp a).1;rcases CG e d with ⟨z,_⟩|⟨_,b,g,f,c⟩
 ·rw[z]at a;cases a
 ·have:b=i:=by lia
  subst this;exact c
structure Pair(ns:List Int)(a b:Nat):Prop where
 lt:a<b
 X4:b<ns.length
 one:ns[a]?=some 1
 nought:ns[b]?=some 0
 eq:ht ns (b+1)=ht ns a
 above:∀k,a<k->k<=b->ht ns a<ht ns k
theorem zj(m:bc d){a k:Nat}(g:d[a]?=some 1)(f:dY d a d.length (ht d a) (k+1)):Pair d a k:=by
 obtain⟨r,q,p,h⟩:=f;have e:=kW g;have b:a<k:=by
  rcases aaq a k with z|z
  ·exact z
  ·have:k=a:=by lia
   subst this;lia
 have n:=h k b ⋯;rcases Q5 m (show k<d.length by lia)with ⟨c,j⟩|⟨c,j⟩
 ·lia
 ·exact(b,9,g,c,9,λi l o=>h i l ⋯)
theorem Mm(a:List Int)(n:Nat):T8 a n=(ab5 n).map (λk=>(a.take (32*k)).sum)++[(a.take (32*n)).sum]:=by
 unfold T8;rw[agd,aal];rfl
theorem BX{ds:List Int}(a:gr ds){i:Nat}(h:ds[i]?=some m):0<=m:=by
 rcases ad3 i with z|z
 ·subst z;rw[a.1]at h;have:=aao h;lia
 ·have:=a.one z h;lia
theorem QB(b:bc d){m:Nat}(h:(m:Int)<d.sum):∃p,d[p]?=some 1/\(d.take p).sum=(m:Int):=by
 have:∀n:Nat,n<=d.length->(m:Int)<(d.take n).sum -> ∃p,d[p]?=some 1/\(d.take p).sum=(m:Int):=by
  intro n
  induction n with
  |zero=>
   intro _ z;rw[aif]at z;have:([]:List Int).sum=0:=rfl;lia
  |succ n a=>
   intro f z;have e:=aad (show n<d.length by lia);rw[jh e]at z;by_cases c:(m:Int)<(d.take n).sum
   ·exact a ⋯ c
   ·rcases b _ (acz (show n<d.length by lia))with y|y
    ·lia
    ·rw[y]at e z;exact(n,e,9)
 exact this d.length (aac _) (by rw[agF];exact h)
def run(ds:List Int)(k:Nat)(g:Int):Nat:=((ds.drop k).takeWhile λx=>decide (g<x)).length
theorem xR{ds:List Int}{k:Nat}{x:Int}(h:ds[k]?=some x):ds.drop k=x::ds.drop (k+1):=by
 have a:=(aab.mp h);rw[acA a.1,a.2]
theorem yW{ds:List Int}{k:Nat}{g x:Int}(h:ds[k]?=some x)(a:g<x):run ds k g=run ds (k+1) g+1:=by
 unfold run;rw[xR h,aik,if_pos (decide_eq_true a),aaM]
theorem G7{ds:List Int}{k:Nat}{g x:Int}(h:ds[k]?=some x)(a:¬g<x):run ds k g=0:=by
 unfold run;rw[xR h,aik,if_neg (λz=>a (of_decide_eq_true z))];rfl
theorem G9{ds:List Int}{k:Nat}{g:Int}(h:ds.length<=k):run ds k g=0:=by
 unfold run;rw[ah3 h];rfl
theorem Cp{ds:List Int}{g:Int}:∀(n k:Nat),(∀m,m<n -> ∃x,ds[k+m]?=some x/\g<x)->(∀x,ds[k+n]?=some x -> ¬g<x)->run ds k g=n
 |0,k,_,h=>by
  cases e:ds[k]? with
  |none=>exact G9 (agJ.mp e)
  |some x=>exact G7 e (h x (by rw[ahN];exact e))
 |n+1,k,a,d=>by
  obtain⟨x,e,c⟩:=a 0 ⋯;rw[ahN]at e;rw[yW e c,Cp n (k+1) (λm f=>by
   obtain⟨y,e,b⟩:=a (m+1) ⋯;exact(y,by rw[<-e];congr 1;lia,b)) (λy e=>d y (by rw[<-e];congr 1;lia))]
theorem Bh{ds:List Int}{g:Int}:∀(n k:Nat),run ds k g=n->(∀m,m<n -> ∃x,ds[k+m]?=some x/\g<x)/\(∀x,ds[k+n]?=some x -> ¬g<x)
 |0,k,h=>by
  refine(λm d=>absurd d (agu _),λx e c=>?_);rw[ahN]at e;rw[yW e c]at h;lia
 |n+1,k,h=>by
  cases e:ds[k]? with
  |none=>
   rw[G9 (agJ.mp e)]at h;lia
  |some x=>
   by_cases c:g<x
   ·rw[yW e c]at h;obtain⟨a,b⟩:=Bh (ds:=ds) (g:=g) n (k+1) ⋯;refine(λm d=>?_,λy e=>b y (by rw[<-e];congr 1;lia));rcases ad3 m with z|z
    ·subst z;exact(x,e,c)
    ·obtain⟨y,e,f⟩:=a (m-1) ⋯;exact(y,by rw[<-e];congr 1;lia,f)
   ·rw[G7 e c]at h;lia
end Tw
namespace L2
open PySem.Spec PyProof.Rows
theorem Mv(a b:Int):Builtin.Range.rangeSize a b (-1)=((a-b).toNat:Int):=by
 unfold Builtin.Range.rangeSize;rw[if_neg ∅,show (- -1:Int)=1 from rfl,aiF];split<;>lia
theorem Dc{a b:Int}(d : -1<=a)(c : -1<=b)(g:a<536870912)(f:b<536870912):Builtin.Range.small a b (-1)=true:=by
 unfold Builtin.Range.small Builtin.Range.rangeFitsLong;rw[Mv];have e:(2:Int)^63=9223372036854775808:=by decide
 rw[e,if_neg ∅];refine iH (iH (iH (iH (iH (decide_eq_true ?_) (decide_eq_true ?_)) (iH (decide_eq_true ?_) (decide_eq_true ?_))) ∅) (iH (decide_eq_true ?_) (decide_eq_true ?_))) ?_
 ·lia
 ·lia
 ·lia
 ·lia
 ·lia
 ·lia
 ·rw[ah5];exact .inr (iH (decide_eq_true ⋯) (decide_eq_true ⋯))
inductive Iw(R:It->Hp->Prop)(vs:List V)(H1:Hp):Prop
 | mk (a b:Int) (_:vs=[.int a,.int b,.int (-1)]) (_ : -1<=a) (_ : -1<=b) (_:a<536870912) (_:b<536870912) (_:R (Wb a (-1) (a-b).toNat) H1)
def Og(b:TA):TI:=λ a H R=>b a H (Iw R)
theorem Cm{a b c:Expr}{p pos:Pos}(J:Gl X "range")(G:X.mg "range" = none)(L:PA X [a,b,c] t)(F:starEach [a,b,c] X.env=[(pq false (eval a X.env)),(pq false (eval b X.env)),(pq false (eval c X.env))]:=by rfl)
  (j:starEach [b,c] X.env=[(pq false (eval b X.env)),(pq false (eval c X.env))]:=by rfl):PI X tg (.Call (.Name "range" p) [a,b,c] [] pos) (Og t):=by
 intro u s n H R I h;refine Call_ (cZ I J G boot_range (PyProof.Rows.callWith_type1 (Th (L pos u s n H _ I h) λQ g ⟨P,v,O,w,A⟩=>?_) (by rw[F,j]) (by rw[j];rfl)));obtain⟨x,y,e,C,B,E,D,q⟩:=A;subst e;cases w with
 |cons r i=>
  cases i with
  |cons z i=>
   cases i with
   |cons m i=>
    cases i;obtain⟨d,rfl⟩:=r;obtain⟨k,rfl⟩:=z;obtain⟨f,rfl⟩:=m;refine call_range_3 ∅ ?_ (.inl (PyProof.noPylong_small ∅));refine wpAny_pyIter_range (IsRange.new ..) (Dc C B E D) ?_
    have l:Inv X u n v {g with heap:=g.heap.push {cls:=.type "range",data:=.fields #[.int x d,.int y k,.int (-1) f]},toks:=g.toks}:=O.kept λb o e=>Heap.get?_push_of_some _ e
    refine((g.heap.push {cls:=.type "range",data:=.fields #[.int x d,.int y k,.int (-1) f]}).objs.size,[(g.heap.push {cls:=.type "range",data:=.fields #[.int x d,.int y k,.int (-1) f]}).objs.size],8,v,7,
     l.kept (t':=g.toks) λb o e=>Heap.get?_push_of_some _ e,rA _ x (-1) (x-y).toNat,3,λb K=>?_,q)
    ·have N:x+((0:Nat):Int)*(-1)=x:=by lia
     have M:(((x-y).toNat:Nat):Int)-((0:Nat):Int)=Builtin.Range.rangeSize x y (-1):=by rw[Mv];lia
     show IsRangeIter _ _ (x+((0:Nat):Int)*(-1)) ((((x-y).toNat:Nat):Int)-((0:Nat):Int)) (-1);rw[N,M];exact Heap.get?_push_size _ rfl
    ·have e:b=(g.heap.push {cls:=.type "range",data:=.fields #[.int x d,.int y k,.int (-1) f]}).objs.size:=by simpa using K
     subst e;exact l.fpOk (aac _) (l.hok.fresh (aac _))
end L2
namespace Tw
end Tw
namespace L2
open PySem.Spec PyProof.Rows
def Fo(K:PySem.W.Frag)(a:List (Str×Nat))(tt:TT)(b:TE)(σ:St)(Q:VK):It->Hp->Prop:=λJ c=>u0 K J (fJ a σ) tt b (λD d=>Q (.ref D) d) c
def Oa(K:PySem.W.Frag)(b:TI)(a:List (Str×Nat))(tt:TT)(c:TE):TE:=λ σ H Q=>b σ H (Fo K a tt c σ Q)
theorem pH{i:Nat}{y x :Str}{u k pos g:Pos}{iter:Expr}{f:List Expr}{S:TI}{tt:TT}(hN:X.N.Nodup)(W6:X.N[i]?=some y)(U:X.env.scope.names.lookup y=some .local)(hc:X.calm=true)
  (E:pC X x qual I scope z)(hi:PI X (.Tuple [.Name x p,.Name qual apos] n u) iter S)
  (ht:∀C B G F,VM (bK X (x::qual::I.map (·.1)) scope z C B G F) f tt)(he:∀C B G F,PE (bK X (x::qual::I.map (·.1)) scope z C B G F) e ta)
  (O:swapsWith (.ListComp e [(.Tuple [.Name x p,.Name qual apos] n u,iter,f,0)] scope pos) (some (.Name y k)) g.line X.env=pure true:=by rfl)(Z:∀x,foldedSetIterable iter X.env x=pure x:=by intro _;rfl):
  PS X (.Assign [.Name y k] (.ListComp e [(.Tuple [.Name x p,.Name qual apos] n u,iter,f,0)] scope pos) g) (Ip (Oa X.K S I tt ta) (fL i)):=by
 intro π s σ H V c h;rw[exec_Assign_Name_used _ _ _ _ O];refine wpAny_bind (wpAny_standAt (wpAny_bind ?_));show wpAny _ X.A (do let _ <-comprehension (.ListComp e [(.Tuple [.Name x p,.Name qual apos] n u,iter,f,0)] scope pos) scope X.env _ (newList []) false (eval iter X.env) (some (assign (.Name y k) X.env))) _ _ s;refine wpAny_bind (wpAny_mono (wpAny_comprehension_free (use:=some (assign (.Name y k) X.env)) (Q:=λ_ l=>SP X π V .next l) rfl Z E.o.clos E.o.kind E.o.names
  (Th (hi π s σ H _ c h) λv B h1=>Th h1 λa0 s2 h2=>?_)) (λ_ l hq=>wpAny_pure (wpAny_pure hq)) λ_ _ d=>d)
 obtain⟨it,fp,tn,J,H2,d,I2,T,L,f2,Y⟩:=h2;subst d;refine rR (RR:=λR C=>compPost (model X.prog X.w) X.A X.xe (some (assign (.Name y k) X.env)) (λ_ l=>SP X π V .next l) R C) I2 hc E T L f2 ht he Y ?_;intro D C l H' m I' hn j q;show wpAny _ X.A (assign (.Name y k) X.env (.ref D)) _ _ _;refine wpAny_assign_Name (mZ (v:=.ref D) I' hN W6 (.inl U) rfl (λM W7 ch=>(m,3,λP t=>?_)) (.inr U))
 ·obtain⟨a,W,r⟩:=ch;refine hn.sameBut W λqual=>?_;rcases r with r|r
  ·exact j.2.1 (qual.trans r)
  ·exact j.2.2.2.2.1 _ a r qual.symm
 ·exact(_,H',W7.turned (h':=P) (t':=M.toks) (λb o hb d=>t.extBut b o hb d) j.1 j.2.1 j.2.2.2.1 j.2.2.2.2.1 j.2.2.2.2.2,q)
end L2
namespace Tw
theorem xu{a b:Addr}{os bs:List Int}{l:L2.St}{tt:TT}(o:Int->Int->Bool)(g:Int->Int->Int)(I:Tg K H a (os.map V.int))(G:Tg K H b (bs.map V.int))(L:os.length=bs.length)(hz:os.length<sizeLine)
  (B:∀(x y:Int) (H':Hp) (Q:Bool->Hp->Prop),aP H H'->Q (o x y) H'->tt (some (.int x)::some (.int y)::l) H' Q)
  (J:∀(x y:Int) (H':Hp) (Q:VK),aP H H'->Q (.int (g x y)) H'->ta (some (.int x)::some (.int y)::l) H' Q)
  (q:∀c H',H c=none->aP H H'->H' c=some (.lst ((((os.zip bs).filter λp=>o p.1 p.2).map λp=>g p.1 p.2).map V.int))->D c H'):u0 K (Wd K a b) l tt ta D H:=by
 intro c w;exists λi m u t=>m=os.length-i/\i<=os.length/\aP H t/\u=(((((os.zip bs).take i).filter λp=>o p.1 p.2).map λp=>g p.1 p.2).map V.int)/\t c=some (.lst u),(5,aaF _,az w _,7,aq);rintro i m u t ⟨rfl,M,j,rfl,f⟩;have z:=j.seq I;have A:=j.seq G;by_cases k:i<os.length
 ·have E:(os.map V.int)[i]?=some (.int os[i]):=by rw[aag,aad k];rfl
  have C:(bs.map V.int)[i]?=some (.int (bs[i]'(by omega))):=by rw[aag,aad (by omega)];rfl
  refine .inr ((8,8,z,A,E,C),λv N y=>?_);obtain⟨p,x,y,F,rfl,rfl,s,r⟩:=y;have s:=s _ z;have r:=r _ A;rw[E]at s;rw[C]at r;cases s;cases r;have n:=az F (.tup [.int os[i],.int (bs[i]'(by omega))]);have h:(os.zip bs).take (i+1)=(os.zip bs).take i++[(pq (os[i]) (bs[i]'(by omega)))]:=by
   rw[acC,aad (by rw[aiS];lia)];simp
  refine(p,_,5,Tj.of aq,B _ _ _ _ (j.trans n) ?_);by_cases d:o os[i] (bs[i]'(by omega))=true
  ·rw[if_pos d];refine J _ _ _ _ (j.trans n) (n _ _ f,3,os.length-(i+1),9,7,k,bT (j.trans n) w _,3,aq)
   ·have:=List.length_filter_le (λp:Int×Int=>o p.1 p.2) ((os.zip bs).take i);rw[aaL]at this;rw[aaa,aaa];lia
   ·rw[h,ais,aal,aal];simp[d]
  ·rw[if_neg d];refine(os.length-(i+1),9,7,k,j.trans n,3,n _ _ f);rw[h,ais,aal,aal];simp[d]
 ·have e:i=os.length:=by lia
  subst e;refine .inl ((8,z,A,.inl (by rw[aaa];exact aac _)),q c t w j ?_);rw[aak (by rw[aiS];lia)]at f;exact f
end Tw
namespace L2
open PySem.Spec PyProof.Rows
inductive Rt(x:V)(vs:List V)(H:Hp)(Q:VK):Prop
 | mk (i:_) (_:x=.int i) (_:vs=[]) (_:Q (.int (Builtin.Int.intBits i)) H)
theorem wz:XF X "int.bit_length" Rt:=by
 intro d s c H x e v f Q I a b h;obtain⟨i,rfl,rfl,q⟩:=h;obtain⟨t,rfl⟩:=a;cases b;exact call_int_bit_length (.int (Builtin.Int.intBits i),H,I.tok _,(_,7),q)
end L2
namespace Tw
def fK(b:Bool)(t:SetTable):Prop:=t.led=b/\t.place.toList.Pairwise (· < ·)
theorem pJ{xs:Array Nat}(h:xs.toList.Pairwise (· < ·)){i j:Nat}(a:i<j)(b:j<xs.size):xs[i]'(by omega)<xs[j]:=by
 have:=ab2.mp h i j (by simpa using (by lia:i<xs.size)) (by simpa using b) a;simpa using this
theorem vp{xs:Array Nat}(h:xs.toList.Pairwise (· < ·))(j:Nat):∀(a lo b:Nat),b-lo<=a->lo<=b->b<=xs.size->(∀k (d:k<xs.size),k<lo->xs[k]<j)->(∀k (d:k<xs.size),b<=k->j<=xs[k]) ->
  SetTable.below.go xs j a lo b<=xs.size/\(∀k (d:k<xs.size),k<SetTable.below.go xs j a lo b->xs[k]<j) /\ ∀k (d:k<xs.size),SetTable.below.go xs j a lo b<=k->j<=xs[k]
 |0,lo,b,n,o,g,f,e=>by
  have:lo=b:=by lia
  subst this;unfold SetTable.below.go;exact(g,f,e)
 |a+1,lo,b,n,o,g,f,e=>by
  unfold SetTable.below.go;by_cases c:lo<b
  ·rw[if_pos c];have l:(lo+b) / 2<xs.size:=by lia
   have p:xs.getD ((lo+b) / 2) j=xs[(lo+b) / 2]:=by simp[aiz,l]
   dsimp only;rw[p];by_cases i:xs[(lo+b) / 2]<j
   ·rw[if_pos i];refine vp h j a _ _ ⋯ ⋯ g (λk d m=>?_) e;rcases aaq k ((lo+b) / 2)with z|z
    ·exact aiG (pJ h z l) i
    ·have:k=(lo+b) / 2:=by lia
     subst this;exact i
   ·rw[if_neg i];refine vp h j a _ _ ⋯ ⋯ ⋯ f (λk d m=>?_);rcases aaq ((lo+b) / 2) k with z|z
    ·have:=pJ h z d;lia
    ·have:k=(lo+b) / 2:=by lia
     subst this;lia
  ·rw[if_neg c];have:lo=b:=by lia
   subst this;exact(g,f,e)
theorem BJ{xs:Array Nat}(h:xs.toList.Pairwise (· < ·))(j:Nat):SetTable.below xs j<=xs.size/\(∀k (a:k<xs.size),k<SetTable.below xs j->xs[k]<j) /\ ∀k (a:k<xs.size),SetTable.below xs j<=k->j<=xs[k]:=by
 unfold SetTable.below;exact vp h j xs.size 0 xs.size ⋯ (aaF _) (aac _) (λk _ a=>absurd a (agu _)) (λk a b=>by lia)
theorem Qt{b:Bool}{t:SetTable}(h:fK b t){j:Nat}(q:t.place[SetTable.below t.place j]? ≠ some j):fK b (t.put j).1:=by
 exists h.1;obtain⟨s,r,o⟩:=BJ h.2 j;show (SetTable.insertAt t.place (SetTable.below t.place j) j).toList.Pairwise (· < ·);rw[SetTable.toList_insertAt];generalize SetTable.below t.place j=p at *;have i:∀x∈t.place.toList.take p,x<j:=λx g=>by
  obtain⟨k,f⟩:=aaP g;have n:=(aab.mp f).1;rw[aaL]at n;rw[af6 ⋯,ab4]at f;obtain⟨d,e⟩:=ag9.mp f;rw[<-e];exact r k d ⋯
 have l:∀x∈t.place.toList.drop p,j<x:=λx g=>by
  obtain⟨k,f⟩:=aaP g;rw[agw,ab4]at f;obtain⟨d,e⟩:=ag9.mp f;have a:=o (p+k) d ⋯;rcases ad3 k with z|z
  ·subst z;have:x≠j:=λy=>q (by rw[<-y];exact f);lia
  ·have b:=pJ h.2 (show p<p+k by lia) d;have c:=o p ⋯ (aac _);lia
 refine af4.mpr (h.2.sublist (agM _ _),ait.mpr (l,h.2.sublist (List.drop_sublist _ _)),λx g y m=>?_);rcases aaO.mp m with rfl|m
 ·exact i x g
 ·exact aiG (i x g) (l y m)
theorem lg{b:Bool}{t:SetTable}(h:t.led=b)(n:Nat):fK b (t.standIn n):=by
 exists h;show (Array.range n).toList.Pairwise (· < ·);rw[Array.toList_range];exact ah4
theorem Je{t:SetTable}{j:Nat}(h:∀i,t.slot j ≠ .live i):t.place[SetTable.below t.place j]? ≠ some j:=λe=>by
 refine h (SetTable.below t.place j) ?_;unfold SetTable.slot;simp[e]
theorem vZ{t:SetTable}{f:Nat->Int}{h:Int}:∀(a:Nat) (p:SetTable.Probe) (j:Nat) (d:Option Nat),(∀x,p.dummy=some x->t.slot x=.dummy)->SetTable.probe.go t f h a p=some (.empty j d)->t.slot j=.empty /\ ∀x,d=some x->t.slot x=.dummy
 |0,p,j,d,_,e=>by
  unfold SetTable.probe.go at e;cases e
 |a+1,p,j,d,hd,e=>by
  unfold SetTable.probe.go at e;have g:∀q:SetTable.Probe,(t.advance q).dummy=q.dummy:=λq=>by
   unfold SetTable.advance;split<;>rfl
  cases c:t.slot p.j with
  |empty=>
   rw[c]at e;cases e;exact(c,hd)
  |dummy=>
   rw[c]at e;refine vZ a _ j d (λx b=>?_) e;rw[g]at b;cases b;exact c
  |live i=>
   rw[c]at e;dsimp only at e;split at e
   ·cases e
   ·exact vZ a _ j d (λx b=>hd x (by rw[g]at b;exact b)) e
theorem xg{t:SetTable}{j:Nat}{w:Bool}(e:t.freeSlot m=some (pq j w)):∀i,t.slot j ≠ .live i:=by
 unfold SetTable.freeSlot SetTable.probe at e;split at e
 ·rename_i a d c;cases e;obtain⟨g,f⟩:=vZ _ _ _ _ (λx b=>by cases b) c;cases d with
  |none=>
   intro i z;rw[show (none:Option Nat).getD a=a from rfl,g]at z;cases z
  |some x=>
   intro i z;rw[show (some x:Option Nat).getD a=x from rfl,f x rfl]at z;cases z
 ·cases e
theorem zF{b:Bool}{t:SetTable}(h:fK b t)(n:Nat):fK b (t.orStandIn n):=by
 unfold SetTable.orStandIn;split
 ·exact h
 ·exact lg h.1 n
theorem Jd{b:Bool}{t:SetTable}(h:fK b t)(c:Array (Int×Value))(i:Int)(x:Value):fK b (layNew t c i x).2.1:=by
 unfold layNew;split
 ·rename_i a w e;exact zF (Qt h (Je (xg e))) _
 ·exact lg h.1 _
theorem O6{m f v:Nat}{l p:Bool}{g:Array Int}{t:SetTable}{o:Array Nat}(e:SetTable.laid m f v l p g=some (pq t o)):fK l t:=by
 unfold SetTable.laid at e;cases h:SetTable.layClean m g with
 |none=>
  rw[h]at e;cases e
 |some j=>
  rw[h]at e;cases e;exists 7;show (List.toArray _).toList.Pairwise (· < ·);rw[aiA];refine List.Pairwise.filterMap _ (R:=(· < ·)) (λa n d b i k c=>?_) ah4;obtain⟨x,_,rfl⟩:=abA.mp i;obtain⟨y,_,rfl⟩:=abA.mp c;exact d
theorem Bo{b:Bool}{t:SetTable}(h:fK b t)(a:Array (Int×Value))(n:Nat):fK b (relayAll t a n).2.1:=by
 unfold relayAll;split
 ·rename_i c o e;dsimp only;split
  ·have:=O6 e;rw[h.1]at this;exact this
  ·exact lg h.1 _
 ·exact lg h.1 _
theorem Ms{b:Bool}{t:SetTable}(h:fK b t):fK b {t with plain:=false}:=h
open PySem.Spec PyProof.Rows
section
variable{α β:Type}
theorem Iv{f:α->β}{k l:List β}(h:af9 k l):∀L:List α,L.map f=l -> ∃g,af9 g L/\g.map f=k:=by
 induction h with
 |nil=>
  intro L e;exact(L,.rfl,e)
 |cons x p r=>
  intro L e;cases L with
  |nil=>cases e
  |cons a L=>
   rw[aaD]at e;injection e with d c
   obtain⟨g,o,t⟩:=r L c;exact(a::g,o.cons a,by rw[aaD,t,d])
 |swap x y l=>
  intro L e
  match L,e with
  |a::b::L,e=>
   rw[aaD,aaD]at e;injection e with d c
   injection c with c s
   exact(b::a::L,.swap a b L,by rw[aaD,aaD,d,c,s])
 |trans p q j i=>
  intro L e;obtain⟨v,n,d⟩:=i L e;obtain⟨u,m,c⟩:=j v d;exact(u,m.trans n,c)
end
section
variable{K:Type}[DecidableEq K]{knd:KeyKind prog w K}{b:Bool}
structure mF(knd:KeyKind prog w K)(es:List (Int×Value))(ks:List K)(ps:List (K×(Int×Value))):Prop where
 snd:ps.map (·.2)=es
 fst:af9 (ps.map (·.1)) ks
 is:∀p∈ps,knd.is p.1 p.2.2=true/\p.2.1=knd.hash p.1/\p.2.2.scannable=true
theorem mF.elems{c:List K}{ps:List (K×(Int×Value))}(h:mF knd U c ps):ElemsOf knd U:=λe a=>by
 rw[<-h.snd]at a;obtain⟨p,d,rfl⟩:=aa3.mp a;obtain⟨i,g,f⟩:=h.is p d;exact((p.1,i,g),f)
theorem mF.size{a:List K}{ps:List (K×(Int×Value))}(h:mF knd U a ps):U.length=a.length:=by
 rw[<-h.snd,aaa,<-h.fst.length_eq,aaa]
theorem mF.mem{d:List K}{ps:List (K×(Int×Value))}(h:mF knd U d ps)(k:K):k∈d ↔ ∃e∈U,knd.is k e.2=true:=by
 rw[<-h.fst.mem_iff];constructor
 ·intro c;obtain⟨p,a,rfl⟩:=aa3.mp c;exact(p.2,by rw[<-h.snd];exact aa3.mpr (p,a,7),(h.is p a).1)
 ·rintro⟨e,f,c⟩;rw[<-h.snd]at f;obtain⟨p,a,rfl⟩:=aa3.mp f;have:=knd.inj _ _ _ c (h.is p a).1;rw[this];exact aa3.mpr (p,a,7)
theorem mF.perm{c:List (Int×Value)}{f:List K}{ps:List (K×(Int×Value))}(h:mF knd U f ps)(p:af9 c U):∃a,mF knd c f a:=by
 obtain⟨a,d,e⟩:=Iv p ps h.snd;exact(a,e,(d.map _).trans h.fst,λq g=>h.is q (d.mem_iff.mp g))
theorem mF.push{c:List K}{ps:List (K×(Int×Value))}(h:mF knd U c ps){k:K}{x:Value}(e:knd.is k x=true)(d:x.scannable=true):mF knd (U++[(pq (knd.hash k) x)]) (c++[k]) (ps++[(pq k ((pq (knd.hash k) x)))]):=by
 refine(by rw[aal,h.snd];rfl,by rw[aal];exact h.fst.append_right _,λp a=>?_);rcases aba.mp a with a|a
 ·exact h.is p a
 ·rw[aat.mp a];exact(e,7,d)
def jt(b:Bool)(knd:KeyKind prog w K)(h:Heap)(a:Addr)(e:List K):Prop:=
 ∃o c f t d,h.get? a=some o/\o.ExactSet/\o.data=.set c f t/\c.size<scanBound/\t.fits c.size=true/\fK b t/\mF knd c.toList e d
theorem J6{a:Addr}{o:Obj}{l:Array (Int×Value)}{t:SetTable}(i:h'.get? a=some o)(d:o.ExactSet)(hd:o.data=.set l n t)
  {c:Array (Int×Value)}{t':SetTable}{e:List K}{ps:List (K×(Int×Value))}(k:c.size<scanBound)(j:t'.fits c.size=true)(ht:fK b t')(f:mF knd c.toList e ps):
  (h'.update a (Obj.putSet c t')).get? a=some {o with data:=.set c (n+1) t'}/\jt b knd (h'.update a (Obj.putSet c t')) a e:=by
 have g:=Heap.get?_update_self (Obj.putSet c t') i (by rw[putSet_of c t' hd];rfl);rw[putSet_of c t' hd]at g;exact(g,_,c,n+1,t',ps,g,d,7,k,j,ht,f)
theorem O9{g:Bool->Sem Unit}(G:∀(c:Bool) (u:Shared) (Q1:Unit->Shared->Prop),Q1 () u->wpAny (model prog w) A (g c) Q1 E u)
  {a:Addr}{o:Obj}{I d:Array (Int×Value)}{t :SetTable}{v:List K}{ps:List (K×(Int×Value))}{C:Bool}{R:Option Bool->Shared->Prop}
  (y:s.heap.get? a=some o)(e:o.ExactSet)(hd:o.data=.set I n t)(l:d.size<scanBound)(H:O.fits d.size=true)(ht:fK b O)(x:mF knd d.toList v ps)
  (h:∀m,Heap.SameBut a s.heap m->jt b knd m a v->R (some true) {s with heap:=m}):
  wpAny (model prog w) A (do
   storeSet a d O
   if (!C&&O.tooFull)=true then do
    g (relayAll O d (SetTable.grown d.size)).2.2
    storeSet a (relayAll O d (SetTable.grown d.size)).1 (relayAll O d (SetTable.grown d.size)).2.1
    pure (some true)
   else pure (some true)) R E s:=by
 obtain⟨z,D⟩:=J6 (knd:=knd) y e hd l H ht x;have B:=Heap.SameBut.update s.heap a (Obj.putSet d O);refine wpAny_bind (wpAny_storeSet_of y hd ?_ (fits_of_scanBound l));split
 ·have j:=relayAll_perm O d (SetTable.grown d.size);have p:=relayAll_fits O d (SetTable.grown d.size);have k:=Bo ht d (SetTable.grown d.size);generalize relayAll O d (SetTable.grown d.size)=r at j p k ⊢;obtain⟨i,L,M⟩:=r;dsimp only at j p k ⊢;obtain⟨J,q⟩:=x.perm j;have F:i.size=d.size:=by simpa using j.length_eq
  have f:i.size<scanBound:=F ▸ l;refine wpAny_bind (G _ _ _ (wpAny_bind (wpAny_storeSet_of z rfl ?_ (fits_of_scanBound f))));exact wpAny_pure (h _ (B.trans (Heap.SameBut.update _ a _)) (J6 (knd:=knd) z e rfl f p k q).2)
 ·exact wpAny_pure (h _ B D)
theorem Ny{a:Addr}{d:List K}{k:K}{x:Value}{Q:Bool->Shared->Prop}(f:knd.is k x=true)(l:x.scannable=true)(Y:jt b knd s.heap a d)(P:d.length+1<scanBound)
  (h:∀g,Heap.SameBut a s.heap g->jt b knd g a (if k∈d then d else d++[k])->Q (!decide (k∈d)) {s with heap:=g}):
  wpAny (model prog w) A (setAddHashed a x (knd.hash k)) Q E s:=by
 obtain⟨o,i,Z,t,U,u,m,hd,T,H,ht,r⟩:=Y;have C:=r.elems;have hn:i.size=d.length:=by simpa using r.size
 unfold setAddHashed setAddHashedIn;refine wpAny_holding (wpAny_bind (wpAny_setState_of u hd H ?_));dsimp only;rw[byScan_of l T C,if_pos rfl];unfold setAddByScan;refine wpAny_bind (wpAny_bind (wpAny_rule (wpAny_bind (wpAny_setScan_of f u hd H C ?_))));have S:=r.mem k;cases R:List.findIdx? (λe=>knd.is k e.2) i.toList with
 |some j=>
  obtain⟨W,N,_⟩:=List.findIdx?_eq_some_iff_getElem.mp R;have v:k∈d:=S.mpr (_,acz W,N);have e:s={s with heap:=s.heap}:=by cases s;rfl
  have q:=h s.heap (Heap.SameBut.refl a s.heap) (by rw[if_pos v];exact(o,i,Z,t,U,u,m,hd,T,H,ht,r));rw[decide_eq_true v]at q;dsimp only;rw[e];exact wpAny_pure (wpAny_pure q)
 |none=>
  have v:¬k∈d:=λz=>by
   obtain⟨e,X,V⟩:=S.mp z;have:=List.findIdx?_eq_none_iff.mp R e X;rw[V]at this;cases this
  rw[if_neg v,decide_eq_false v]at h;dsimp only;have n:=layNew_perm t i (knd.hash k) x;have y:=layNew_fits t i (knd.hash k) x;have p:=Jd ht i (knd.hash k) x;generalize layNew t i (knd.hash k) x=L at n y p ⊢;obtain⟨O,t1,wd,gv⟩:=L;dsimp only at n y p ⊢;rw[agp]at n;obtain⟨a0,B⟩:=(r.push f l).perm n;have D:O.size<scanBound:=by
   have:=n.length_eq;rw[aaf,agi,aae,aae]at this;lia
  have G:∀(c:Bool) (F:Shared) (M:Unit->Shared->Prop),M () F->wpAny (model prog w) A (match c with|true=>rule "set.scan.the-table-gave-way" |false=>pure ()) M E F:=λc F M q=>by
   cases c
   ·exact wpAny_pure q
   ·exact wpAny_rule q
  refine wpAny_bind (G _ _ _ ?_);split
  ·refine wpAny_bind ?_;rw[hashByValue_scannable 8 l];refine wpAny_pure (O9 (b:=b) G u m hd D ?_ ?_ B λg J I=>?_)
   ·split
    ·exact y
    ·exact SetTable.fits_plain_off y
   ·split
    ·exact p
    ·exact Ms p
   ·exact wpAny_pure (h g J I)
  ·refine wpAny_bind (wpAny_pure ?_);rw[if_pos rfl];exact O9 (b:=b) G u m hd D y p B λg J I=>wpAny_pure (h g J I)
end
section
variable{K:Type}[DecidableEq K]
def met(f:Nat->K):Nat->List K
 |0=>[]
 |n+1=>if f n∈met f n then met f n else met f n++[f n]
theorem uA(f:Nat->K):∀(n:Nat) (k:K),k∈met f n ↔ ∃i,i<n/\f i=k
 |0,k=>by simp[met]
 |n+1,k=>by
  unfold met;have a:=uA f n;constructor
  ·intro h;split at h
   ·obtain⟨i,c,b⟩:=(a k).mp h;exact(i,9,b)
   ·rcases aba.mp h with h|h
    ·obtain⟨i,c,b⟩:=(a k).mp h;exact(i,9,b)
    ·exact(n,9,(aat.mp h).symm)
  ·rintro⟨i,c,rfl⟩;rcases aaq i n with z|z
   ·have:=(a (f i)).mpr (i,z,7);split
    ·exact this
    ·exact agl _ this
   ·have e:i=n:=by lia
    subst e;split
    ·assumption
    ·exact aay _ (aat.mpr rfl)
theorem m6(f:Nat->K):∀n:Nat,(met f n).Nodup
 |0=>.nil
 |n+1=>by
  unfold met;split
  ·exact m6 f n
  ·rename_i h;refine aiB.mpr (m6 f n,by simp,λa d b c e=>?_);rw[aat.mp c]at e;exact h (e ▸ d)
theorem uw(f:Nat->K):∀n:Nat,(met f n).length<=n
 |0=>aac _
 |n+1=>by
  unfold met;have:=uw f n;split
  ·lia
  ·rw[aaf,agi];lia
theorem Cv(f:Nat->K){i:Nat}:∀n:Nat,i<=n->(met f i).length<=(met f n).length
 |0,h=>by
  have:i=0:=by lia
  subst this;exact aac _
 |n+1,h=>by
  rcases aaq i (n+1)with z|z
  ·have:=Cv f n (show i<=n by lia);show _<=(if f n∈met f n then met f n else met f n++[f n]).length;split
   ·exact this
   ·rw[aaf];lia
  ·have:i=n+1:=by lia
   subst this;exact aac _
end
section
variable{K:Type}[DecidableEq K]{knd:KeyKind prog w K}{R:Result->Shared->Prop}{I:Addr}{fp wr:List Addr}{G:Array GenState->Array GenState->Prop}{P:Nat->Value->Prop}{St:Nat->Shared->Prop}{b:Bool}
theorem jt.at{h':Heap}{a:Addr}{c:List K}(g:jt b knd base a c)(e:∀o,base.get? a=some o->h'.get? a=some o):jt b knd h' a c:=by
 obtain⟨o,i,j,t,d,f,r⟩:=g;exact(o,i,j,t,d,e o f,r)
theorem Ry(W:WalksS prog w A.in1 I fp wr G n P St)(S:Addr)(t:S∉fp)(f:Nat->K)(Q:∀i v,P i v->knd.is (f i) v=true/\v.scannable=true)(T:(met f n).length+1<scanBound):
  ∀(k i:Nat) (s:Shared),n-i=k->i<=n->St i s->jt b knd s.heap S (met f i) ->
   (∀a,Moved (S::wr) G s a->jt b knd a.heap S (met f n)->R (.ok (.ret .none)) a) ->
   codeAny (model prog w) A (.builtin "set.update.loop" ([.ref S,.ref I],[])) R s:=by
 have B:S∉wr:=λz=>t (W.sub _ z);have l:∀c∈wr,c∈S::wr:=λc j=>.tail _ j;intro k
 induction k with
 |zero=>
  intro i s O C d x q;obtain rfl:i=n:=by lia
  refine codeAny_builtin PyProof.Rows.F.entry_set_update_loop ?_;rw[Around.under_plainId PyProof.Rows.F.plain_set_update_loop _];refine wpAny_bind (m:=pyNext (.ref I)) (W.done s _ _ d λa h=>?_);exact wpAny_pure (q a (h.mono l) (x.at λo e=>h.heap S _ B e))
 |succ k M=>
  intro i s O C d x q;have p:i<n:=by lia
  refine codeAny_builtin PyProof.Rows.F.entry_set_update_loop ?_;rw[Around.under_plainId PyProof.Rows.F.plain_set_update_loop _];refine wpAny_bind (m:=pyNext (.ref I)) (W.item i s _ _ p d λv a N u h=>?_);obtain⟨r,y⟩:=Q i v N;refine wpAny_bind (m:=holding [v] (setAdd S v)) (wpAny_holding ?_);unfold setAdd;refine wpAny_holding (wpAny_bind (knd.pyHash r ?_));have g:(met f i).length+1<scanBound:=by
   have:=Cv f n C;lia
  refine Ny (s:={a with toks:=a.toks+1}) r y (x.at λo e=>h.heap S _ B e) g λU D H=>?_;refine wpAny_pure (plainId_quiet PyProof.Rows.F.plain_set_update_loop _,M (i+1) _ ⋯ p (W.frame _ a _ _ u (agS _) λc j o e=>?_) H λJ L E=>?_)
  ·rw[D.2 c (λz:c=S=>t (z ▸ j))];exact e
  ·refine q J (Moved.trans W.gtrans ((h.mono l).then_heap (agS _) λc o j e=>?_) L) E;rw[D.2 c (λz:c=S=>j (by rw[z];exact .head _))];exact e
theorem Qe(b:Bool){a:Addr}(e:h'.get? a=some {cls:=.type "set",dict:=none,data:=.set #[] 0 (.fresh 0 0 b)}):jt b knd h' a []:=
 (_,#[],0,_,[],e,(7,7,7),7,6,7,(7,.nil),7,.nil,λp c=>by cases c)
end
section
variable{K:Type}[DecidableEq K]{knd:KeyKind prog w K}
def cQ(w:World):Bool:=!w.params.followText "set-order"
abbrev newS(w:World):Obj:={cls:=.type "set",dict:=none,data:=.set #[] 0 (.fresh 0 0 (cQ w))}
theorem Hy(x:Value){Q:Value->Shared->Prop}(h:Q (.ref s.heap.objs.size) {s with heap:=s.heap.push (newS w)}):
  codeAny (model prog w) A (.call (.builtin "set.__new__") ([.type "set",x],[])) (wants Q E) s:=by
 refine codeAny_of_tree ?_
 refine wpAny_bind (m:=checkBuiltinCall "set.__new__" ([.type "set",x],[])) (wpAny_of_eq (PySem.F.newCall_set_1 x) (wpAny_pure (plainId_quiet PySem.F.plain_set_new _,codeAny_builtin PySem.F.entry_set_new ?_)))
 rw[Around.under_plainId PySem.F.plain_set_new _];unfold Builtin.«set.__new__» Builtin.Frozenset.newClass;have a:=PySem.sub_set_self;obtain⟨e,g,d,b,c⟩:=s;dsimp only
 wp_walk
 refine wpAny_askSetting (wpAny_pure ?_);dsimp only;simp only[newObj];refine wpAny_bind (wpAny_alloc (wpAny_pure ?_));exact wpAny_pure h
set_option maxRecDepth 100000 in
set_option maxHeartbeats 3200000 in
theorem yw{l:Addr}{f:Nat->K}{Q:Value->Shared->Prop}(hh:A.handled=none)(hl:s.heap.IsList l G)(hf:∀i v,G[i]?=some v->knd.is (f i) v=true/\v.scannable=true)(hb:(met f G.size).length+1<scanBound)
  (h:∀(a:Heap) (tk:Nat),jt (cQ w) knd a s.heap.objs.size (met f G.size)->(∀c o,c<s.heap.objs.size->s.heap.get? c=some o->a.get? c=some o)->Q (.ref s.heap.objs.size) {s with heap:=a,toks:=tk}):
  wpAny (model prog w) A (call (.type "set") [.ref l]) Q E s:=by
 obtain⟨c,tl,T⟩:=PySem.F.called_set.mro;have H:=PySem.F.called_set.made;have S:=PySem.F.called_set.sub
 refine wpAny_call (codeAny_of_tree (show wpAny _ _ (callAny (.type "set") _) _ _ _ from ?_))
 refine wpAny_pure (Code.quiet_builtin _ (by decide +kernel),codeAny_builtin PySem.F.entry_type_call ?_)
 rw[Around.under_plain (weight_type_call_type "set" [.ref l] []) rfl]
 have n1:=PySem.F.called_set.notType;have n2:=PySem.F.called_set.canCreate;have n3:=PySem.F.typeCall_set_1 (.ref l)
 repeat (any_goals (first|assumption|wp_step))
 refine codeAny_mono (Hy (.ref l) (E:=E) (Q:=λL J=>L=.ref s.heap.objs.size/\J={s with heap:=s.heap.push (newS w)}) (7,7)) λr J x=>?_;cases r with
 |error e=>exact x
 |ok fl=>
  cases fl with
  |ret L=>
   obtain⟨rfl,rfl⟩:=x;have O:(s.heap.push (newS w)).get? s.heap.objs.size=some (newS w):=Heap.get?_push_size _ rfl
   have hT:Shared.TypeIs {s with heap:=s.heap.push (newS w)} (.ref s.heap.objs.size) "set":=(_,O,7)
   have i1:=PySem.F.called_set.init.lookup;have i2:=PySem.F.called_set.init.bind (.ref s.heap.objs.size)
   repeat (any_goals (first|assumption|wp_step))
   refine codeAny_mono (codeAny_call_builtin (R:=wants (λr I=>r=.none /\ ∃a tk,I={s with heap:=a,toks:=tk}/\jt (cQ w) knd a s.heap.objs.size (met f G.size)/\(∀c o,c<s.heap.objs.size->s.heap.get? c=some o->a.get? c=some o)) E)
    PySem.F.called_set.init.plain PySem.F.entry_set_init (check_set_init_1 hT ?_)) λX I g=>?_
   ·obtain⟨Y,k,q,M,p⟩:=hl;obtain⟨P,j,D,d⟩:=Y;simp only at q p;subst q;subst p
    have e1:(s.heap.push (newS w)).get? l=some {cls:=.type "list",dict:=j,data:=.seq G M,slots:=d}:=Heap.get?_push_of_some _ k
    have q1:=PySem.F.sub_list_set;have q2:=PySem.F.sub_list_frozenset
    have q3:(Value.type "list" == Value.type "dict")=false:=by decide
    have n:(s.heap.push (newS w)).IsList l G:=(_,e1,7,M,7);unfold Builtin.«set.__init__» noKeywords Builtin.Frozenset.updateFrom;generalize C:pyIter=PI
    wp_walk
    subst C;refine wpAny_pyIter_list n (wpAny_bind (wpAny_runValue ?_));have m:l<s.heap.objs.size:=Heap.lt_size k;have u:(s.heap.push (newS w)).objs.size=s.heap.objs.size+1:=Heap.size_push ..;have h3:A.in1.in1.in1.handled=none:=by simp[hh]
    have n4:l≠(s.heap.push (newS w)).objs.size:=by rw[u];exact aap (agj m)
    have Z:s.heap.objs.size∉[(s.heap.push (newS w)).objs.size,l]:=λz=>by
     rcases aaO.mp z with z|z
     ·exact absurd (z.trans u) (aap (age _))
     ·exact absurd (aat.mp z).symm (aap m)
    refine Ry (b:=cQ w) (knd:=knd) ((Walks.list h3 _ l n4 G).toS) s.heap.objs.size Z f hf hb (G.size-0) 0 _ ⋯ (aaF _) ((_,Heap.get?_push_size _ rfl,7,7),n.push _) (Qe (cQ w) (Heap.get?_push_of_some _ O)) λW t U=>?_;obtain⟨a,g1,d1,y,B⟩:=W;have eg:g1=s.gens:=t.gens;have ed:d1=s.drawn:=t.drawn;have eo:B=s.os:=t.os;subst eg;subst ed;subst eo;refine wpAny_pure (show wpAny _ _ (ret Value.none) _ _ _ from wpAny_pure (7,a,y,7,U,λc o N e=>?_));refine t.heap c o (λz=>?_) (Heap.get?_push_of_some _ (Heap.get?_push_of_some _ e));rcases aaO.mp z with z|z
    ·exact absurd z (aap N)
    ·exact absurd ((aat.mp z).trans u) (aap (agj N))
   ·cases X with
    |error e=>exact g
    |ok YG=>
     cases YG with
     |ret r=>
      obtain⟨rfl,a,tk,rfl,V,k1⟩:=g
      repeat (any_goals (first|assumption|wp_step))
      exact h _ _ V k1
     |_=>exact g.elim
  |_=>exact x.elim
end
theorem eV:Slot "set_iterator" "__next__" "set_iterator.__next__":=
 Slot.of (id := "set_iterator.__next__") (owner := "set_iterator") (n := "__next__") (by rw[typeLookup_type,builtinLookup_eq_fast];kernel_rfl) (by decide +kernel) (by decide +kernel) (by decide +kernel) (by first|exact .inl (by decide +kernel) | exact .inr (by decide +kernel)) (by rw[isSubtype_type];kernel_rfl)
theorem fZ:entryFor table "set_iterator.__next__" = some Builtin.«set_iterator.__next__»:=entryFor_of_fast (by kernel_rfl)
theorem gY(x:Value):argsOk "set_iterator.__next__" ([x],[]):=by unfold argsOk;kernel_rfl
theorem Gz:Slot "set_iterator" "__iter__" "set_iterator.__iter__":=
 Slot.of (id := "set_iterator.__iter__") (owner := "set_iterator") (n := "__iter__") (by rw[typeLookup_type,builtinLookup_eq_fast];kernel_rfl) (by decide +kernel) (by decide +kernel) (by decide +kernel) (by first|exact .inl (by decide +kernel) | exact .inr (by decide +kernel)) (by rw[isSubtype_type];kernel_rfl)
theorem wN:entryFor table "set_iterator.__iter__" = some Builtin.«dict_keyiterator.__iter__»:=entryFor_alias (id' := "dict_keyiterator.__iter__") (by kernel_rfl) rfl (by decide +kernel) (by kernel_rfl)
theorem yF(x:Value):argsOk "set_iterator.__iter__" ([x],[]):=by unfold argsOk;kernel_rfl
theorem vU:entryFor table "set.__iter__" = some Builtin.«frozenset.__iter__»:=entryFor_alias (id' := "frozenset.__iter__") (by kernel_rfl) rfl (by decide +kernel) (by kernel_rfl)
abbrev U4(first:Value)(i:Int)(a:Value)(n b:Nat):Obj:={cls:=.type "set_iterator",data:=.fields #[first,.int i 0,a,.int n 0,.int b 0]}
structure cA(h:Heap)(S:Addr)(o:Obj)(es:Array (Int×Value))(ep:Nat)(t:SetTable):Prop where
 get:h.get? S=some o
 dat:o.data=.set es ep t
 fit:t.fits es.size=true
theorem Hd{o:Obj}{c:Array (Int×Value)}{nx i:Nat}{t:SetTable}{x:Value}{Q:Option Value->Shared->Prop}(b:s.heap.get? a=some (U4 (.int R 0) i (.ref f) c.size n))(d:cA s.heap f o c n t)
  (e:∀(q:Around) (j:Option (Value×Nat)->Shared->Prop) (p:Value->Shared->Prop),j (some (pq x nx)) s->wpAny (model prog w) q (setNext f R i n) j p s)
  (k:∀h',h'.get? a=some (U4 (.int nx 0) (i+1:Nat) (.ref f) c.size n)->Heap.SameBut a s.heap h'->Q (some x) {s with heap:=h'}):wpAny (model prog w) A (pyNext (.ref a)) Q E s:=by
 have g:s.TypeIs (.ref a) "set_iterator":=(_,b,7)
 unfold pyNext
 refine wpAny_bind (wpAny_attempt (wpAny_callSpecial?_slot (name:=Str.ofString "__next__") g eV (wpAny_call_entry eV g fZ ?_ (gY _))))
 unfold Builtin.«set_iterator.__next__»
 refine wpAny_bind (m:=slotArgs "__next__" 0 _) (wpAny_pure ?_)
 refine wpAny_bind (wpAny_fieldsOf b rfl ?_);dsimp only;refine wpAny_bind (wpAny_setEntries_of d.get d.dat d.fit ?_);rw[if_neg (by simp)];rw[ab1,ab1,ab1];refine wpAny_bind (e _ _ _ ?_);dsimp only;refine wpAny_bind (wpAny_setField b rfl (by simp) ?_);have h:(s.heap.update a (Obj.mapFields (·.setIfInBounds 0 (rawInt nx)))).get? a=some (U4 (.int nx 0) i (.ref f) c.size n):=Heap.get?_update_self _ b rfl;refine wpAny_bind (wpAny_setField (s:={s with heap:=s.heap.update a (Obj.mapFields (·.setIfInBounds 0 (rawInt nx)))}) h rfl (by simp) ?_);have l:((s.heap.update a (Obj.mapFields (·.setIfInBounds 0 (rawInt nx)))).update a (Obj.mapFields (·.setIfInBounds 1 (rawInt ((i:Int)+1))))).get? a=some (U4 (.int nx 0) (i+1:Nat) (.ref f) c.size n):=Heap.get?_update_self _ h rfl;exact wpAny_pure (x,7,wpAny_pure (k _ l ((Heap.SameBut.update ..).trans (Heap.SameBut.update ..))))
theorem next_end{o:Obj}{h:Array (Int×Value)}{i:Nat}{t:SetTable}{Q:Option Value->Shared->Prop}(k:A.handled=none)(c:s.heap.get? a=some (U4 (.int R 0) i (.ref f) h.size n))(d:cA s.heap f o h n t)
  (e:∀(q:Around) (j:Option (Value×Nat)->Shared->Prop) (p:Value->Shared->Prop),j none s->wpAny (model prog w) q (setNext f R i n) j p s)
  (l:∀h',Heap.ExtBut a s.heap h'->Q none {s with heap:=h'}):wpAny (model prog w) A (pyNext (.ref a)) Q E s:=by
 have g:s.TypeIs (.ref a) "set_iterator":=(_,c,7)
 unfold pyNext
 refine wpAny_bind (wpAny_attempt (wpAny_callSpecial?_slot (name:=Str.ofString "__next__") g eV (wpAny_call_entry eV g fZ ?_ (gY _))))
 unfold Builtin.«set_iterator.__next__»
 refine wpAny_bind (m:=slotArgs "__next__" 0 _) (wpAny_pure ?_)
 refine wpAny_bind (wpAny_fieldsOf c rfl ?_);dsimp only;refine wpAny_bind (wpAny_setEntries_of d.get d.dat d.fit ?_);rw[if_neg (by simp),ab1,ab1,ab1];refine wpAny_bind (e _ _ _ ?_);dsimp only;refine wpAny_bind (wpAny_setField c rfl (by simp) ?_)
 refine wpAny_bind (m:=newExc (.type "StopIteration") []) ?_
 simp only[newExc,newTuple];refine wpAny_bind (wpAny_newObj_type ?_ (by size_fits));refine wpAny_bind (m:=firstArgMember _ _) (wpAny_of_eq (a:=Value.none) (by first|rfl | (simp only[firstArgMember];rfl)) ?_);refine wpAny_newObj_type ?_ (by size_fits);simp only[raiseNew];refine wpAny_bind (wpAny_handled ?_);rw[show A.in1.handled=none from k];refine wpAny_bind (wpAny_pure (wpAny_throw ?_))
 refine wpAny_bind (wpAny_isInstance (T := "StopIteration") (b:=true) (_,Heap.get?_push_size _ rfl,7) isSubtype_stop ?_)
 exact wpAny_pure (l _ (((Heap.SameBut.update ..).extBut.push _).push _))
theorem oR{b:Type}:∀{l:List b}{i:Nat}{x:b},l[i]?=some x->af9 (x::l.eraseIdx i) l
 |[],i,x,h=>by simp at h
 |a::l,0,x,h=>by
  cases h;exact .rfl
 |a::l,i+1,x,h=>by
  rw[List.eraseIdx_cons_succ];exact(List.Perm.swap a x _).trans ((oR (by simpa using h)).cons a)
theorem Gm{c:Type}(nx:Nat->Nat):∀(a k:Nat) (left:List c) (out:Array c),left.length=a->af9 (pickOrder.go nx a k left out).toList (out.toList++left)
 |0,k,left,out,h=>by
  have:left=[]:=ahy h;subst this;unfold pickOrder.go;simp
 |a+1,k,left,out,h=>by
  have b:nx k%left.length<left.length:=ajd _ ⋯;have e:=aad b;unfold pickOrder.go;rw[e];refine(Gm nx a (k+1) _ _ (by rw[ahJ b];lia)).trans ?_;rw[agp,aaQ];exact(oR e).append_left _
theorem qX(nx:Nat->Nat)(xs:Array Q):af9 (pickOrder nx xs).toList xs.toList:=by
 have:=Gm nx xs.size 0 xs.toList #[] (by simp);rw[ahm]at this;exact this
section
variable{o:Obj}{es:Array (Int×Value)}{ep:Nat}{t:SetTable}
theorem nG{Q:Bool->Shared->Prop}(h:Q (!cQ w) s):wpAny (model prog w) A setsByText Q E s:=by
 unfold setsByText;refine wpAny_bind (wpAny_askSetting (wpAny_pure ?_));unfold cQ at h;rw[ai9]at h;exact h
theorem CP(a:cA s.heap S o es ep t)(ht:cQ w=false){i:Nat}{Q:Option (Value×Nat)->Shared->Prop}(h:Q (((pickOrder (w.params.setOrder S ep) es)[i]?).map λe=>(pq e.2 n)) s):wpAny (model prog w) A (setNext S n i ep) Q E s:=by
 unfold setNext;refine wpAny_bind (wpAny_setState_of a.get a.dat a.fit ?_);dsimp only;refine wpAny_bind (nG ?_);rw[ht];simp only[aiX,if_true,bne_self_eq_false,adT,if_false];refine wpAny_bind ?_;unfold setWalk;refine wpAny_bind (wpAny_setState_of a.get a.dat a.fit ?_);dsimp only;refine wpAny_bind (nG ?_);rw[ht];simp only[aiX,if_true];refine wpAny_bind (wpAny_askSetting (wpAny_pure (wpAny_pure h)))
theorem yu(a:cA s.heap S o es ep t)(ht:cQ w=true)(c:t.led=true)(b:¬((!t.plain&&decide (es.size > 1))=true)){i:Nat}{Q:Option (Value×Nat)->Shared->Prop}
  (h:Q (match es[SetTable.below t.place n]?,t.place[SetTable.below t.place n]? with|some (_,x),some j=>some (pq x (j+1)) | _,_=>none) s):wpAny (model prog w) A (setNext S n i ep) Q E s:=by
 unfold setNext;refine wpAny_bind (wpAny_setState_of a.get a.dat a.fit ?_);dsimp only;refine wpAny_bind (nG ?_);rw[ht];simp only[ai4,adT,if_false];split
 ·rename_i d;exact absurd d b
 refine wpAny_bind (show wpAny _ _ (if (!t.led && !es.isEmpty)=true then unsupported "set:maker-not-led" else pure PUnit.unit) _ _ _ from ?_)
 rw[c,ai4,aiV,if_neg aar];exact wpAny_pure (wpAny_pure h)
theorem Hj(a:cA s.heap S o es ep t){k:Nat}{e:Int×Value}(b:es[k]?=some e){Q:Value->Shared->Prop}(h:Q e.2 s):wpAny (model prog w) A (setNextDrawn S k ep) Q E s:=by
 unfold setNextDrawn;refine wpAny_bind (wpAny_setState_of a.get a.dat a.fit ?_);dsimp only;rw[bne_self_eq_false,if_neg aar,b];exact wpAny_pure h
theorem Gu{c:Type}:∀(n:Nat) (xs:List c) (s:Shared) {Q:List c->Shared->Prop},xs.length=n->(∀l d,af9 l xs->Q l {s with drawn:=d})->wpAny (model prog w) A (drawOrder n xs) Q E s
 |0,xs,s,Q,a,h=>by
  have:xs=[]:=ahy a;subst this;unfold drawOrder;have:=h [] s.drawn .rfl;exact wpAny_pure this
 |n+1,[],s,Q,a,h=>by simp at a
 |n+1,x::xs,s,Q,a,h=>by
  unfold drawOrder;refine wpAny_bind ?_;intro Γ p hΓ;rw[show (choose Source.order (x::xs).length:Sem Nat)=Sem.choose .order (x::xs).length pure from rfl,Sem.wp_choose];refine(by simp,3);generalize (model prog w).w.draws Source.order (s.drawn.get Source.order)=v;have b:v%(x::xs).length<(x::xs).length:=ajd _ (by simp);have e:=aad b
  show wpAny (model prog w) A (match (x::xs)[v%(x::xs).length]? with|some y=>(do return y::(<-drawOrder n ((x::xs).eraseIdx (v%(x::xs).length)))) | none=>unsupported "internal:drawOrder") Q E {s with drawn:=s.drawn.bump Source.order}
  rw[e];refine wpAny_bind (Gu n _ _ (by rw[ahJ b];simp at a ⊢;lia) λl d p=>wpAny_pure (h _ d ((p.cons _).trans (oR e))))
end
section
variable{o:Obj}{es:Array (Int×Value)}{ep:Nat}{t:SetTable}
theorem KC(a:cA s.heap S o es ep t)(g:o.cls=.type "set")(h:es.size<scanBound){Q:Value->Shared->Prop}
  (k:¬((cQ w&&(!t.plain&&decide (es.size > 1)))=true)->Q (.ref s.heap.objs.size) {s with heap:=s.heap.push (U4 (.int 0 0) 0 (.ref S) es.size ep)})
  (j:(cQ w&&(!t.plain&&decide (es.size > 1)))=true -> ∀(l:List Nat) d,af9 l (ab5 es.size)->Q (.ref (s.heap.objs.size+1)) {s with heap:=(s.heap.push {cls:=.type "tuple",data:=.seq (l.map λi:Nat=>rawInt i).toArray 0}).push (U4 (.ref s.heap.objs.size) 0 (.ref S) es.size ep),drawn:=d}):
  wpAny (model prog w) A (pyIter (.ref S)) Q E s:=by
 have f:s.TypeIs (.ref S) "set":=(_,a.get,g)
 refine wpAny_pyIter_slot f PySem.F.slot_set_iter (wpAny_call_entry PySem.F.slot_set_iter f vU ?_ (PySem.F.args_set_iter_1 _));unfold Builtin.«frozenset.__iter__»
 refine wpAny_bind (m:=Builtin.Frozenset.slot0 "__iter__" _) (wpAny_pure ?_)
 refine wpAny_bind (m:=Builtin.Frozenset.sizeOf S) (wpAny_bind (wpAny_setEntries_of a.get a.dat a.fit (wpAny_pure ?_)));refine wpAny_bind (m:=setDrawn S) ?_;unfold setDrawn;refine wpAny_bind (wpAny_setState_of a.get a.dat a.fit ?_);dsimp only;refine wpAny_bind (nG (wpAny_pure ?_));rw[ai9];split
 ·rename_i b;refine wpAny_bind (Gu _ _ _ afE λl d c=>?_);refine wpAny_bind (wpAny_newTuple ?_ (by rw[aaa,c.length_eq,afE];exact fits_of_scanBound h));refine wpAny_bind (wpAny_setEpoch_of (Heap.get?_push_of_some _ a.get) a.dat a.fit ?_)
  refine wpAny_bind (wpAny_newObj_type (wpAny_pure (5,"set_iterator",_,(_,Heap.get?_push_size _ rfl,7),eV.lookup,3)))
  have e:(s.heap.push {cls:=.type "tuple",data:=.seq (l.map λi:Nat=>rawInt i).toArray 0}).objs.size=s.heap.objs.size+1:=Heap.size_push ..
  have q:=j b l d c;rw[<-e]at q;exact q
 ·rename_i b;refine wpAny_bind (wpAny_pure ?_);refine wpAny_bind (wpAny_setEpoch_of a.get a.dat a.fit ?_)
  refine wpAny_bind (wpAny_newObj_type (wpAny_pure (5,"set_iterator",_,(_,Heap.get?_push_size _ rfl,7),eV.lookup,3)))
  exact k b
abbrev X5(l:List Nat):Obj:={cls:=.type "tuple",data:=.seq (l.map λi:Nat=>rawInt i).toArray 0}
theorem Lk{T:Addr}{i k:Nat}{l:List Nat}{e:Int×Value}{Q:Option Value->Shared->Prop}(b:s.heap.get? a=some (U4 (.ref T) i (.ref S) es.size ep))(n:s.heap.get? T=some (X5 l))(c:cA s.heap S o es ep t)(f:l[i]?=some k)(g:es[k]?=some e)
  (h:∀h',h'.get? a=some (U4 (.ref T) (i+1:Nat) (.ref S) es.size ep)->Heap.SameBut a s.heap h'->Q (some e.2) {s with heap:=h'}):wpAny (model prog w) A (pyNext (.ref a)) Q E s:=by
 have d:s.TypeIs (.ref a) "set_iterator":=(_,b,7)
 unfold pyNext
 refine wpAny_bind (wpAny_attempt (wpAny_callSpecial?_slot (name:=Str.ofString "__next__") d eV (wpAny_call_entry eV d fZ ?_ (gY _))))
 unfold Builtin.«set_iterator.__next__»
 refine wpAny_bind (m:=slotArgs "__next__" 0 _) (wpAny_pure ?_)
 refine wpAny_bind (wpAny_fieldsOf b rfl ?_);dsimp only;refine wpAny_bind (wpAny_setEntries_of c.get c.dat c.fit ?_);rw[if_neg (by simp)];refine wpAny_bind (wpAny_seqItems n rfl ?_);have j:(l.map λi:Nat=>rawInt i).toArray[(i:Int).toNat]?=some (rawInt k):=by
  rw[ab1,ag2,aag,f];rfl
 dsimp only;rw[j];dsimp only [rawInt];rw[ab1,ab1];refine wpAny_bind (Hj c g ?_);refine wpAny_bind (wpAny_setField b rfl (by simp) ?_);exact wpAny_pure (5,wpAny_pure (h _ (Heap.get?_update_self _ b rfl) (Heap.SameBut.update ..)))
theorem HY{T:Addr}{i:Nat}{l:List Nat}{Q:Option Value->Shared->Prop}(g:A.handled=none)(c:s.heap.get? a=some (U4 (.ref T) i (.ref S) es.size ep))(n:s.heap.get? T=some (X5 l))(d:cA s.heap S o es ep t)(f:l[i]?=none)
  (h:∀h',Heap.ExtBut a s.heap h'->Q none {s with heap:=h'}):wpAny (model prog w) A (pyNext (.ref a)) Q E s:=by
 have e:s.TypeIs (.ref a) "set_iterator":=(_,c,7)
 unfold pyNext
 refine wpAny_bind (wpAny_attempt (wpAny_callSpecial?_slot (name:=Str.ofString "__next__") e eV (wpAny_call_entry eV e fZ ?_ (gY _))))
 unfold Builtin.«set_iterator.__next__»
 refine wpAny_bind (m:=slotArgs "__next__" 0 _) (wpAny_pure ?_)
 refine wpAny_bind (wpAny_fieldsOf c rfl ?_);dsimp only;refine wpAny_bind (wpAny_setEntries_of d.get d.dat d.fit ?_);rw[if_neg (by simp)];refine wpAny_bind (wpAny_seqItems n rfl ?_);have k:(l.map λi:Nat=>rawInt i).toArray[(i:Int).toNat]?=none:=by
  rw[ab1,ag2,aag,f];rfl
 dsimp only;rw[k];dsimp only;refine wpAny_bind (wpAny_setField c rfl (by simp) ?_);have j:(s.heap.update a (Obj.mapFields (·.setIfInBounds 0 (rawInt 0)))).get? a=some (U4 (.int 0 0) i (.ref S) es.size ep):=Heap.get?_update_self _ c rfl;refine wpAny_bind (wpAny_setField (s:={s with heap:=s.heap.update a (Obj.mapFields (·.setIfInBounds 0 (rawInt 0)))}) j rfl (by simp) ?_)
 refine wpAny_bind (m:=newExc (.type "StopIteration") []) ?_
 simp only[newExc,newTuple];refine wpAny_bind (wpAny_newObj_type ?_ (by size_fits));refine wpAny_bind (m:=firstArgMember _ _) (wpAny_of_eq (a:=Value.none) (by first|rfl | (simp only[firstArgMember];rfl)) ?_);refine wpAny_newObj_type ?_ (by size_fits);simp only[raiseNew];refine wpAny_bind (wpAny_handled ?_);rw[show A.in1.handled=none from g];refine wpAny_bind (wpAny_pure (wpAny_throw ?_))
 refine wpAny_bind (wpAny_isInstance (T := "StopIteration") (b:=true) (_,Heap.get?_push_size _ rfl,7) isSubtype_stop ?_)
 exact wpAny_pure (h _ ((((Heap.SameBut.update ..).trans (Heap.SameBut.update ..)).extBut.push _).push _))
end
section
variable{it:Addr}{o:Obj}{es:Array (Int×Value)}{ep:Nat}{t:SetTable}
theorem qT(a:s.TypeIs (.ref it) "set_iterator"){Q:Value->Shared->Prop}(h:Q (.ref it) s):wpAny (model prog w) A (pyIter (.ref it)) Q E s:=by
 refine wpAny_pyIter_slot a Gz (wpAny_call_entry Gz a wN ?_ (yF _));show wpAny _ _ (ret (.ref it)) _ _ s
 exact wpAny_pure (5,"set_iterator",_,a,eV.lookup,h)
theorem cA.at{h':Heap}(a:cA base S o es ep t)(e:∀o,base.get? S=some o->h'.get? S=some o):cA h' S o es ep t:=(e _ a.get,a.dat,a.fit)
abbrev uM(ps:List (Int×Value))(i:Nat)(v:Value):Prop:=∃e,ps[i]?=some e/\v=e.2
theorem JD(p:A.handled=none)(ht:cQ w=false)(k:S≠it):
  Walks prog w A it [it,S] [it] es.size (uM (pickOrder (w.params.setOrder S ep) es).toList) (λi h=>h.get? it=some (U4 (.int 0 0) i (.ref S) es.size ep)/\cA h S o es ep t) where
 sub:=λb c=>by simp at c;simp[c]
 frame:=λ_ _ _ a m=>(m it (by simp) _ a.1,a.2.at λo e=>m S (by simp) o e)
 item:=λi s Q E n a d=>by
  have g:(pickOrder (w.params.setOrder S ep) es).size=es.size:=by
   have:=(qX (w.params.setOrder S ep) es).length_eq;simpa using this
  obtain⟨e,f⟩:∃e,(pickOrder (w.params.setOrder S ep) es)[i]?=some e:=((pickOrder (w.params.setOrder S ep) es)[i]'(by omega),by simp[g,n]);refine Hd a.1 a.2 (x:=e.2) (nx:=0) (λv r u h=>CP a.2 ht (by rw[f];exact h)) λj q l=>?_;exact d e.2 j s.toks (e,by rw[ab4];exact f,7) (q,a.2.at λo e=>l.extBut S o k e) λb o c e=>l.extBut b o (λh=>c (by simp[h])) e
 done:=λs Q E a d=>by
  have g:(pickOrder (w.params.setOrder S ep) es).size=es.size:=by
   have:=(qX (w.params.setOrder S ep) es).length_eq;simpa using this
  refine next_end p a.1 a.2 (λv r u h=>CP a.2 ht (by rw[show (pickOrder (w.params.setOrder S ep) es)[es.size]?=none by simp[g]];exact h)) λj f=>?_;exact d j s.toks λb o c e=>f b o (λh=>c (by simp[h])) e
 self:=λ_ _ _ _ a d=>qT (_,a.1,7) d
def slotAt(t:SetTable):Nat->Nat
 |0=>0
 |i+1=>t.place.getD i 0+1
theorem vD(h:t.place.toList.Pairwise (· < ·)){i:Nat}(d:i<=t.place.size):SetTable.below t.place (slotAt t i)=i:=by
 obtain⟨k,g,f⟩:=BJ h (slotAt t i);generalize SetTable.below t.place (slotAt t i)=b at k g f;rcases ago b i with c|c|c
 ·exfalso
  match i,d,c,g,f with
  |i+1,d,c,g,f=>
   have a:=f b ⋯ (aac _);have e:slotAt t (i+1)=t.place[i]'(by omega)+1:=by simp[slotAt,aiz,show i<t.place.size by omega]
   rw[e]at a;rcases aaq b i with j|j
   ·have:=pJ h j (show i<t.place.size by lia);lia
   ·have:b=i:=by lia
    subst this;lia
 ·exact c
 ·exfalso;have a:=g i ⋯ c
  match i,d,c,a with
  |0,d,c,a=>exact absurd a (agu _)
  |i+1,d,c,a=>
   have e:slotAt t (i+1)=t.place[i]'(by omega)+1:=by simp[slotAt,aiz,show i<t.place.size by omega]
   rw[e]at a;have:=pJ h (show i<i+1 by lia) (show i+1<t.place.size by lia);lia
theorem Ej(v:A.handled=none)(ht:cQ w=true)(j:fK true t)(f:t.fits es.size=true)(n:¬((!t.plain&&decide (es.size > 1))=true))(l:S≠it):
  Walks prog w A it [it,S] [it] es.size (uM es.toList) (λi h=>h.get? it=some (U4 (.int (slotAt t i) 0) i (.ref S) es.size ep)/\cA h S o es ep t) where
 sub:=λb c=>by simp at c;simp[c]
 frame:=λ_ _ _ a q=>(q it (by simp) _ a.1,a.2.at λo e=>q S (by simp) o e)
 item:=λi s Q E r a d=>by
  have p:t.place.size=es.size:=by
   simp[SetTable.fits]at f;exact f.1
  have g:es[i]?=some es[i]:=by simp[r]
  have u:t.place[i]?=some (t.place[i]'(by omega)):=by simp[p,r]
  have e:slotAt t (i+1)=t.place[i]'(by omega)+1:=by simp[slotAt,aiz,show i<t.place.size by omega]
  refine Hd a.1 a.2 (x:=es[i].2) (nx:=slotAt t (i+1)) (λC z B h=>yu a.2 ht j.1 n (by rw[vD j.2 ⋯,g,u];rw[e]at h;exact h)) λk y m=>?_;exact d es[i].2 k s.toks (es[i],by rw[ab4];exact g,7) (y,a.2.at λo e=>m.extBut S o l e) λb o c e=>m.extBut b o (λh=>c (by simp[h])) e
 done:=λs Q E a d=>by
  have p:t.place.size=es.size:=by
   simp[SetTable.fits]at f;exact f.1
  refine next_end v a.1 a.2 (λC z B h=>yu a.2 ht j.1 n (by rw[vD j.2 ⋯,show es[es.size]?=none by simp];exact h)) λk g=>?_;exact d k s.toks λb o c e=>g b o (λh=>c (by simp[h])) e
 self:=λ_ _ _ _ a d=>qT (_,a.1,7) d
theorem Em{T:Addr}{l:List Nat}(I:A.handled=none)(n:af9 l (ab5 es.size))(u:S≠it)(z:T≠it):
  Walks prog w A it [it,S,T] [it] es.size (uM (l.filterMap λk=>es[k]?)) (λi h=>h.get? it=some (U4 (.ref T) i (.ref S) es.size ep)/\cA h S o es ep t/\h.get? T=some (X5 l)) where
 sub:=λb j=>by simp at j;simp[j]
 frame:=λ_ _ _ c d=>(d it (by simp) _ c.1,c.2.1.at λo e=>d S (by simp) o e,d T (by simp) _ c.2.2)
 item:=λi s Q E H c m=>by
  have f:l.length=es.size:=by rw[n.length_eq,afE]
  have d:l[i]?=some (l[i]'(by omega)):=by simp[f,H]
  have v:l[i]'(by omega)<es.size:=agU.mp (n.mem_iff.mp (acz _));have p:es[l[i]'(by omega)]?=some (es[l[i]'(by omega)]):=by simp[v]
  have F:(l.filterMap λk=>es[k]?)[i]?=some (es[l[i]'(by omega)]):=by
   have G:∀g:List Nat,(∀k∈g,k<es.size)->(g.filterMap λk=>es[k]?).map some=g.map λk=>es[k]?:=by
    intro g
    induction g with
    |nil=>intro _;rfl
    |cons a g D=>
     intro h;have C:es[a]?=some (es[a]'(h a abB)):=by simp[h a abB]
     rw[agR,C,aaD,aaD,D λk d=>h k (aaR _ d),C]
   have:=congrArg (λx=>x[i]?) (G l λk d=>agU.mp (n.mem_iff.mp d));simp only[aag,d,ahq,p]at this;cases B:(l.filterMap λk=>es[k]?)[i]? with
   |none=>rw[B]at this;cases this
   |some y=>rw[B]at this;injection this
  refine Lk c.1 c.2.2 c.2.1 d p λr J q=>?_;exact m _ r s.toks (_,F,7) (J,c.2.1.at λo e=>q.extBut S o u e,q.extBut T _ z c.2.2) λb o j e=>q.extBut b o (λh=>j (by simp[h])) e
 done:=λs Q E c m=>by
  have f:l.length=es.size:=by rw[n.length_eq,afE]
  refine HY I c.1 c.2.2 c.2.1 (by simp[f]) λr p=>?_;exact m r s.toks λb o j e=>p b o (λh=>j (by simp[h])) e
 self:=λ_ _ _ _ c m=>qT (_,c.1,7) m
theorem wB(es:Array (Int×Value)):((ab5 es.size).filterMap λk=>es[k]?)=es.toList:=by
 apply ag7;intro i;have c:∀n,n<=es.size->((ab5 n).filterMap λk=>es[k]?)=es.toList.take n:=by
  intro n
  induction n with
  |zero=>intro _;simp
  |succ n b=>
   intro h;have a:es[n]?=some (es[n]'(by omega)):=by simp[show n<es.size by omega]
   rw[agd,List.filterMap_append,b ⋯,agR,a,List.filterMap_nil,acC,ab4,a];rfl
 rw[c es.size (aac _)];rw[aak (by simp)]
theorem Jt(i:A.handled=none)(g:cA s.heap S o es ep t)(n:o.cls=.type "set")(a:es.size<scanBound)(m:fK (cQ w) t){Q:Value->Shared->Prop}
  (h:∀(I:Addr) (h':Heap) d fp ps St,af9 ps es.toList->Walks prog w A I fp [I] es.size (uM ps) St->St 0 h'->(∀b o,s.heap.get? b=some o->h'.get? b=some o)->s.heap.objs.size<=I->(∀b∈fp,b=S\/s.heap.objs.size<=b)->Q (.ref I) {s with heap:=h',drawn:=d}):
  wpAny (model prog w) A (pyIter (.ref S)) Q E s:=by
 have f:S<s.heap.objs.size:=Heap.lt_size g.get;refine KC g n a (λc=>?_) λc l d j=>?_
 ·cases ht:cQ w with
  |false=>
   refine h s.heap.objs.size _ s.drawn _ _ _ (qX _ _) (JD (o:=o) (t:=t) i ht (aap f)) (Heap.get?_push_size _ rfl,g.at λo e=>Heap.get?_push_of_some _ e) (λb o e=>Heap.get?_push_of_some _ e) (aac _) ?_;intro b a;simp at a;rcases a with rfl|rfl
   ·exact .inr (aac _)
   ·exact .inl rfl
  |true=>
   rw[ht]at m c;rw[Bool.true_and]at c;refine h s.heap.objs.size _ s.drawn _ _ _ .rfl (Ej (o:=o) (t:=t) i ht m g.fit c (aap f)) (Heap.get?_push_size _ rfl,g.at λo e=>Heap.get?_push_of_some _ e) (λb o e=>Heap.get?_push_of_some _ e) (aac _) ?_;intro b a;simp at a;rcases a with rfl|rfl
   ·exact .inr (aac _)
   ·exact .inl rfl
 ·have p:(s.heap.push (X5 l)).objs.size=s.heap.objs.size+1:=Heap.size_push ..;refine h (s.heap.objs.size+1) _ d _ _ _ ?_ (Em (o:=o) (t:=t) (T:=s.heap.objs.size) i j (aap (agj f)) (aap (age _))) (3,g.at λo e=>Heap.get?_push_of_some _ (Heap.get?_push_of_some _ e),Heap.get?_push_of_some _ (Heap.get?_push_size _ rfl)) (λb o e=>Heap.get?_push_of_some _ (Heap.get?_push_of_some _ e)) (agS _) ?_
  ·have:=j.filterMap λk=>es[k]?;rw[wB]at this;exact this
  ·rw[<-p];exact Heap.get?_push_size _ rfl
  ·intro b a;simp at a;rcases a with rfl|rfl|rfl
   ·exact .inr (agS _)
   ·exact .inl rfl
   ·exact .inr (aac _)
end
section
variable{o:Obj}{es:Array (Int×Value)}{ep:Nat}{t:SetTable}
theorem Mq{Q:Bool->Shared->Prop}(a:s.TypeIs (.ref S) "set")(h:Q false s):wpAny (model prog w) A (Builtin.List.listLengthHint (.ref S)) Q E s:=by
 unfold Builtin.List.listLengthHint;refine wpAny_bind (wpAny_specialOf a PySem.F.slot_set_len.lookup ?_)
 generalize d:("set.__len__" : String)=i0
 wp_delta
 rw[show splitId i0=some (pq ("set") ("__len__")) by subst d;decide +kernel]
 subst d
 refine wpAny_bind (wpAny_isInstance (T := "set") (b:=true) a (by rw[isSubtype_type];kernel_rfl) ?_)
 refine wpAny_ite_split (λc=>absurd c ∅) λ_=>wpAny_ite_split (λ_=>?_) λc=>absurd (by decide +kernel) c;exact wpAny_bind (wpAny_typeOf a (wpAny_pure h))
theorem Dz{s d:Shared}(m:Moved g (λa b=>b=a) s d):d={s with heap:=d.heap,toks:=d.toks}:=by
 obtain⟨j,l,p,e,h⟩:=d;obtain⟨k,n,q,f,i⟩:=s;have a:=m.gens;have b:=m.drawn;have c:=m.os;dsimp only at a b c;subst a;subst b;subst c;rfl
theorem sX{Q:List Value->Shared->Prop}(V:A.handled=none)(D:cA s.heap S o es ep t)(B:o.cls=.type "set")(i:es.size<scanBound)(X:fK (cQ w) t)
  (h:∀(c:Array Value) (h':Heap) d tk ps,af9 ps es.toList->ItemsOf (uM ps) c es.size->s.heap.objs.size<h'.objs.size->(∀b o,s.heap.get? b=some o->h'.get? b=some o)->Q c.toList {s with heap:=h',drawn:=d,toks:=tk}):
  wpAny (model prog w) A (collect (.ref S)) Q E s:=by
 have J:=Heap.lt_size D.get
 have a0:s.TypeIs (.ref S) "set":=(_,D.get,B)
 have H:es.size<=sizeLine:=fits_of_scanBound i;unfold collect;refine wpAny_bind (wpAny_runValue (codeAny_builtin PySem.F.entry_proto_collect ?_));rw[Around.under_plainId PySem.F.plain_proto_collect _];refine wpAny_bind (m:=newList []) (wpAny_newObj_type (wpAny_pure (plainId_quiet PySem.F.plain_list_iadd _,codeAny_builtin PySem.F.entry_list_iadd ?_)));rw[Around.under_plainId PySem.F.plain_list_iadd _]
 show wpAny _ A.in1 (Builtin.List.listExtendWith (.ref s.heap.objs.size) (.ref S) (.ref s.heap.objs.size)) _ _ {s with heap:=s.heap.push (seqObj "list" #[] 0)}
 generalize k:s.heap.objs.size=L at *
 have g:∀b o,s.heap.get? b=some o->(s.heap.push (seqObj "list" #[] 0)).get? b=some o:=λb o e=>Heap.get?_push_of_some _ e
 have M:(s.heap.push (seqObj "list" #[] 0)).get? L=some (seqObj "list" #[] 0):=by
  rw[<-k];exact Heap.get?_push_size _ rfl
 have a:(s.heap.push (seqObj "list" #[] 0)).objs.size=L+1:=by rw[<-k];exact Heap.size_push ..
 generalize s.heap.push (seqObj "list" #[] 0)=G at *
 have j:cA G S o es ep t:=D.at λo e=>g _ _ e;have p:L≠S:=λe=>absurd J (by rw[e];exact afL _)
 have x:Shared.TypeIs {s with heap:=G} (.ref S) "set":=(_,j.get,B)
 unfold Builtin.List.listExtendWith;refine wpAny_bind (wpAny_typeOf x ?_);rw[if_neg (by simp[Builtin.List.listSameRef,p])];refine wpAny_bind (Jt (s:={s with heap:=G}) (by simp[V]) j B i X λI l d Y ps St U W R C P K=>?_)
 have r:l.get? L=some (seqObj "list" #[] 0):=C _ _ M
 have v:Shared.TypeIs {s with heap:=l,drawn:=d} (.ref S) "set":=(_,C _ _ j.get,B)
 refine wpAny_bind (wpAny_holding (Mq v ?_));rw[if_pos ∅];refine wpAny_bind (wpAny_rule (wpAny_bind ?_));have a1:L≠I:=λe=>by
  have:L+1<=I:=a ▸ P;lia
 have n:L∉Y:=λz=>by
  rcases K _ z with z|z
  ·exact p z
  ·rw[a]at z;lia
 show wpAny _ _ (updateSeq L (·.push .none) >>= λ_=>updateSeq L (·.pop)) _ _ _;refine wpAny_bind (wpAny_updateSeq r rfl ?_);have q:=Heap.get?_update_self (Obj.mapSeq (·.push Value.none)) r rfl;refine wpAny_updateSeq (hz:=by seq_fits) q rfl ?_;have Z:=Heap.get?_update_self (Obj.mapSeq (·.pop)) q rfl;have f:∀b o,b≠L->l.get? b=some o->((l.update L (Obj.mapSeq (·.push Value.none))).update L (Obj.mapSeq (·.pop))).get? b=some o:=λb o i e=>(Heap.get?_update_other _ _ (af3 i)).trans ((Heap.get?_update_other _ _ (af3 i)).trans e);generalize ((l.update L (Obj.mapSeq (·.push Value.none))).update L (Obj.mapSeq (·.pop)))=h2 at *;refine wpAny_pure (plainId_quiet PySem.F.plain_extend_loop _,codeAny_extend_loopS W.toS H L n _ es.size 0 _ #[] _ rfl (aaF _) (W.frame 0 _ _ R λb i o e=>f b o (λz=>n (z ▸ i)) e) Z (ItemsOf.nil _) λT c c' O u y=>?_);rw[Dz O];refine wpAny_bind (wpAny_load u (wpAny_pure ?_));refine h c T.heap d _ ps U y (Heap.lt_size u) λb o e=>O.heap b o (λz=>?_) (f b o ?_ (C _ _ (g _ _ e)))
 ·have:=Heap.lt_size e;rcases aaO.mp z with z|z
  ·rw[z,k]at this;exact afL _ this
  ·rw[aat.mp z,k]at this;have N:L+1<=I:=by rw[<-a];exact P
   exact absurd (aai (age L) N) (Nat.lt_asymm this)
 ·intro z;have:=Heap.lt_size e;rw[z,k]at this;exact afL _ this
end
theorem Jw{c:Array (Int×Value)}{n:List (Int×(Int×Value))}(u:mF (intKind prog w) c.toList d n){ps:List (Int×Value)}(f:af9 ps c.toList)(g:ItemsOf (uM ps) G c.size):∃j,IntsAre G.toList j/\af9 j d:=by
 obtain⟨h,a⟩:=u.perm f;have l:ps.length=c.size:=by rw[f.length_eq,aae]
 have k:G.toList=ps.map (·.2):=by
  apply ag7;intro i;rw[aag];cases m:G.toList[i]? with
  |none=>
   have:G.toList.length<=i:=agJ.mp m;rw[aae,g.1,<-l]at this;rw[agH this];rfl
  |some v=>
   obtain⟨e,y,x⟩:=g.2 i v (by rw[<-ab4];exact m);rw[y,x];rfl
 refine(h.map (·.1),3,a.fst);rw[k,<-a.snd];have b:=a.is
 clear a k l g f
 induction h with
 |nil=>exact .nil
 |cons p h o=>
  obtain⟨t,ht⟩:=Value.isInt_shape (b p abB).1;rw[aaD,aaD,aaD,ht];exact .cons _ t (o λq r=>b q (aaR _ r))
end Tw
namespace L2
open PySem.Spec PyProof.Rows Tw
theorem Inv.drawnTo(I:Inv X π σ H s)(d:Drawn):Inv X π σ H {s with drawn:=d}:=
 I.step (g':=s.gens) (t':=s.toks) (d':=d) (ch:=[]) (λ_ z=>nomatch z) (λ_ _ _ _ _ e _=>e) (λb o _ _ _ e _=>(o.slots,e)) (λ_ _ _ _ n=>n) (λb o _ e=>(o,e)) (λ_ _ e=>e) (λ_ _ _ e=>e) (λb a e=>(#[],by rw[e];simp)) (λ_ h=>h) I.hok I.bare
def QG(P:Program)(w:World)(a:Addr)(b:List Int):HO:=.ext λh=>jt (cQ w) (intKind P w) h a b
theorem Oq{w:World}{a:Addr}(e:jt (cQ w) (intKind prog w) h' a d):bJ prog w H h' a (QG prog w a d):=by
 refine(e,3,λ_ _ p k=>p.at k);obtain⟨o,_,_,_,_,b,_⟩:=e;exact(o,b)
theorem HD(F:X.calm=true):gR X (.type "set") (λxs H Q=>∃(p:Addr) (a:List Int),xs=[.ref p]/\Tg X.K H p (a.map V.int)/\(met (λi=>a.getD i 0) a.length).length+1<scanBound /\
  ∀l k o,H l=none->k=met (λi=>a.getD i 0) a.length->o=QG X.prog X.w l k->Q (.ref l) (upd H l o)):=by
 intro π s σ H xs M Q I r h;obtain⟨p,a,rfl,D,G,q⟩:=h;obtain⟨u,rfl,z⟩:=vals1 r;cases z;obtain⟨c,A,B,N⟩:=I.list D;have m:=intsAre_of A;have g:=m.length;have d:c.toArray.size=a.length:=by simpa using g
 refine yw (knd:=intKind X.prog X.w) (f:=λi=>a.getD i 0) (I.ok.hd F) B.isList (λi v e=>?_) (by rw[d];exact G) λO y x E=>?_
 ·have L:c[i]?=some v:=by simpa using e
  have:∀{j:List Value}{a:List Int},IntsAre j a -> ∀(i:Nat) v,j[i]?=some v->Value.isInt (a.getD i 0) v=true/\v.scannable=true:=by
   intro j a J
   induction J with
   |nil=>intro i v e;simp at e
   |cons n t _ C=>
    intro i v e;cases i with
    |zero=>
     simp at e;subst e;exact(by simp[Value.isInt],7)
    |succ i=>exact C i v (by simpa using e)
  exact this m i v L
 ·rw[d]at x;exact(.ref s.heap.objs.size,_,I.laid (t':=y) (λb o e=>E b o (Heap.lt_size e) e) (aac _) (Oq x),7,q _ _ _ (I.hok.fresh (aac _)) rfl rfl)
end L2
namespace Tw
open PyProof.Rows
structure TB(a₀:Array Keyed)(pd:Array (Nat×Nat×Nat))(st:SortSt):Prop where
 perm:(arrOf st).Perm a₀
 kind:kindOf st=oneType'
 failed:failedOf st=none
 pend:pendingOf st=pd
theorem TB.size{a₀:Array Keyed}{a:Array (Nat×Nat×Nat)}{st:SortSt}(h:TB a₀ a st):(arrOf st).size=a₀.size:=h.perm.size_eq
theorem TB.set{a₀:Array Keyed}{a:Array (Nat×Nat×Nat)}{st:SortSt}(h:TB a₀ a st){xs:Array Keyed}(b:xs.Perm (arrOf st)):TB a₀ a (setArr st xs):=(b.trans h.perm,h.kind,h.failed,h.pend)
def Uu(κ:KeyKind)(xs:Array Keyed)(lo n:Nat):Prop:=∀i j,i<=j->j<n->κ.kle (KK κ xs (lo+i)) (KK κ xs (lo+j))
def U5(κ:KeyKind)(xs:Array Keyed)(lo n:Nat):Prop:=∀i j,i<=j->j<n->κ.kle (KK κ xs (lo+j)) (KK κ xs (lo+i))
def Ui(lo:Nat)(xs ys:Array Keyed):Prop:=∀k:Nat,k<lo->ys[k]?=xs[k]?
theorem Ui.refl(lo:Nat)(xs:Array Keyed):Ui lo xs xs:=λ_ _=>rfl
theorem Ui.trans{lo:Nat}{xs ys zs:Array Keyed}(h:Ui lo xs ys)(g:Ui lo ys zs):Ui lo xs zs:=λk a=>(g k a).trans (h k a)
theorem jb{lo i j:Nat}{xs:Array Keyed}(a:j<=xs.size)(c:lo<=i):Ui lo xs (mirror xs i j ((j-i) / 2)):=λk b=>by
 rw[getElem?_mirror_all a,if_neg ⋯]
theorem Uu.one(κ:KeyKind)(xs:Array Keyed)(lo:Nat):Uu κ xs lo 1:=λi j a b=>by
 have:i=j:=by lia
 subst this;exact KeyOrd.kle_refl _
theorem Uu.more{κ:KeyKind}{xs:Array Keyed}{lo x:Nat}(h:Uu κ xs lo x)(g:1<=x)(e:κ.blt (KK κ xs (lo+x)) (KK κ xs (lo+x-1))=false):Uu κ xs lo (x+1):=λi j c f=>by
 by_cases a:j<x
 ·exact h i j c a
 have b:j=x:=by lia
 subst b;by_cases d:i=j
 ·subst d;exact KeyOrd.kle_refl _
 refine KeyOrd.kle_trans (h i (j-1) ⋯ ⋯) ?_;rw[show lo+(j-1)=lo+j-1 by lia];exact e
theorem U5.more{κ:KeyKind}{xs:Array Keyed}{lo x:Nat}(h:U5 κ xs lo x)(g:1<=x)(e:κ.kle (KK κ xs (lo+x)) (KK κ xs (lo+x-1))):U5 κ xs lo (x+1):=λi j c f=>by
 by_cases a:j<x
 ·exact h i j c a
 have b:j=x:=by lia
 subst b;by_cases d:i=j
 ·subst d;exact KeyOrd.kle_refl _
 have q:=h i (j-1) ⋯ ⋯;rw[show lo+(j-1)=lo+j-1 by lia]at q;exact KeyOrd.kle_trans e q
theorem U5.turn{κ:KeyKind}{xs:Array Keyed}{lo n:Nat}(h:U5 κ xs lo n)(a:lo+n<=xs.size):Uu κ (mirror xs lo (lo+n) ((lo+n-lo) / 2)) lo n:=λi j b c=>by
 rw[KK_mirror a,KK_mirror a,if_pos ⋯,if_pos ⋯];have q:=h (n-1-j) (n-1-i) ⋯ ⋯;rw[show lo+(lo+n)-1-(lo+i)=lo+(n-1-i) by lia,show lo+(lo+n)-1-(lo+j)=lo+(n-1-j) by lia];exact q
theorem U5.keys{κ:KeyKind}{xs ys:Array Keyed}{lo n:Nat}(h:U5 κ xs lo n)(e:∀k,KK κ ys k=KK κ xs k):U5 κ ys lo n:=λi j a b=>by
 rw[e,e];exact h i j a b
section
variable{a₀:Array Keyed}{κ:KeyKind}{pd:Array (Nat×Nat×Nat)}
theorem TB.atK{st:SortSt}(h:TB a₀ pd st)(g:KeysOf κ a₀){i:Nat}(f:i<a₀.size):∃x p a,(arrOf st)[i]?=some (pq x p)/\κ.keyOf x=some a/\KK κ (arrOf st) i=a:=by
 have b:i<(arrOf st).size:=by rw[h.size];exact f
 have d:(arrOf st)[i]∈a₀.toList:=(agD.mp h.perm).mem_iff.mp (adu _);obtain⟨a,c⟩:=g _ d;have e:(arrOf st)[i]?=some (pq ((arrOf st)[i].1) ((arrOf st)[i].2)):=getElem?_pos _ i b;exact(8,a,e,c,by unfold KK;rw[e];simp[c])
theorem pU{st:SortSt}{i j:Nat}{Q:Option Bool->SortSt->Prop}(n:κ.OneLt)(c:TB a₀ pd st)(d:KeysOf κ a₀)(k:i<a₀.size)(g:j<a₀.size)
  (h:Q (some (κ.blt (KK κ (arrOf st) i) (KK κ (arrOf st) j))) st):wpS (model prog w) A E s (ltAt' i j) Q st:=by
 obtain⟨x,p,a,r,m,f⟩:=c.atK d k;obtain⟨y,q,b,o,l,e⟩:=c.atK d g;rw[f,e]at h;exact wpS_ltAtK n c.kind r o m l h
theorem Bg{st:SortSt}{lo :Nat}{Q:Option Nat->SortSt->Prop}(hO:κ.OneLt)(h0:KeysOf κ a₀)(P:TB a₀ pd st)(hn:lo+n<=a₀.size)(h1:1<=n)
  (h:∀m e,TB a₀ pd e->Ui lo (arrOf st) (arrOf e)->1<=m->m<=n->Uu κ (arrOf e) lo m->Q (some m) e):wpS (model prog w) A E s (countRun' lo n) Q st:=by
 have a0:∀(a:Nat) (f:SortSt),TB a₀ pd f->1<=a->a<=n->Uu κ (arrOf f) lo a -> ∀(G:Option (Option Nat)×Nat->SortSt->Prop),
   (∀d,a<=d->d<=n->Uu κ (arrOf f) lo d->(d=n\/κ.klt (KK κ (arrOf f) (lo+d)) (KK κ (arrOf f) (lo+d-1)))->G (pq none d) f) ->
   wpS (model prog w) A E s (forIn [a:n] ((pq none a):Option (Option Nat)×Nat) λ_ r=>do
    let x <-ltAt' (lo+r.2) (lo+r.2-1)
    match x with
    |some b=>if b=true then pure (ForInStep.done (pq none r.2))else pure (ForInStep.yield (pq none (r.2+1)))
    |_=>pure (ForInStep.done (pq (some none) r.2))) G f:=by
  intro a f U b6 b1 T G O;refine wpS_forRange (I:=λx c e=>e=f/\c=(pq none x)/\Uu κ (arrOf f) lo x) ?_ ?_ (7,7,T)
  ·rintro x c e S a3 ⟨rfl,rfl,C⟩;refine wpS_bind (pU hO U h0 ⋯ ⋯ ?_);cases V:κ.blt (KK κ (arrOf e) (lo+x)) (KK κ (arrOf e) (lo+x-1))
   ·exact wpS_pure (7,7,C.more ⋯ V)
   ·exact wpS_pure (O x S ⋯ C (.inr V))
  ·rintro c e ⟨rfl,rfl,C⟩;rw[show max a n=n by lia]at C ⊢;exact O n b1 (aac _) C (.inl rfl)
 have B:∀{i j:Nat}{f:SortSt}{G:Unit->SortSt->Prop},G () (setArr f (mirror (arrOf f) i j ((j-i) / 2)))->wpS (model prog w) A E s (reverseSlice' i j) G f:=λO=>by
  rw[reverseSlice'_eq];exact wpS_modify O
 have L:∀(d:Nat) (f:SortSt) (k:Option (Option Nat)×Nat->StateT SortSt Sem (Option Nat)),(∀m,k (pq none m)=pure (some m))->TB a₀ pd f->Ui lo (arrOf st) (arrOf f)->1<=d->d<=n->U5 κ (arrOf f) lo d ->
   wpS (model prog w) A E s (reverseSlice' lo (lo+d) >>= λ_=>(forIn [d:n] ((pq none d):Option (Option Nat)×Nat) λ_ r=>do
     let x <-ltAt' (lo+r.2) (lo+r.2-1)
     match x with
     |some b=>if b=true then pure (ForInStep.done (pq none r.2))else pure (ForInStep.yield (pq none (r.2+1)))
     |_=>pure (ForInStep.done (pq (some none) r.2))) >>= k) Q f:=by
  intro d f k hk U hL J H hd;have p:lo+d<=(arrOf f).size:=by rw[U.size];lia
  refine wpS_bind (B ?_);have K:TB a₀ pd (setArr f (mirror (arrOf f) lo (lo+d) ((lo+d-lo) / 2))):=U.set (mirror_perm _ _ _ _);refine wpS_bind (a0 d _ K J H (hd.turn p) _ λm X v a4 _=>?_);rw[hk];exact wpS_pure (h m _ K (hL.trans (jb p (aac _))) ⋯ v a4)
 have N:∀(M:Nat) (f:SortSt),TB a₀ pd f->Ui lo (arrOf st) (arrOf f)->1<=M->M<=n->U5 κ (arrOf f) lo M -> ∀(G:Option (Option Nat)×Nat×Nat->SortSt->Prop),
   (∀m q e,TB a₀ pd e->Ui lo (arrOf st) (arrOf e)->M<=m->m<=n->U5 κ (arrOf e) lo m->q+1<=m->(∀i,lo+m-(q+1)<=i->i<lo+m->KK κ (arrOf e) i=KK κ (arrOf e) (lo+m-1))->G (pq none (pq m q)) e) ->
   wpS (model prog w) A E s (forIn [M:n] ((pq none (pq M 0)):Option (Option Nat)×Nat×Nat) λ_ r=>ltAt' (lo+r.2.1) (lo+r.2.1-1) >>= λx=>match x with
    |some b=>if b=true then (if r.2.2 > 0 then (reverseSlice' (lo+r.2.1-(r.2.2+1)) (lo+r.2.1) >>= λ_=>pure (ForInStep.yield (pq none (pq (r.2.1+1) 0))))else pure (ForInStep.yield (pq none (pq (r.2.1+1) 0))))
     else (ltAt' (lo+r.2.1-1) (lo+r.2.1) >>= λy=>match y with
      |some b=>if b=true then pure (ForInStep.done (pq none (pq r.2.1 r.2.2)))else pure (ForInStep.yield (pq none (pq (r.2.1+1) (r.2.2+1))))
      |_=>pure (ForInStep.done (pq (some none) (pq r.2.1 r.2.2))))
    |_=>pure (ForInStep.done (pq (some none) (pq r.2.1 r.2.2)))) G f:=by
  intro M f U hL b5 D hd G O;refine wpS_forRange (I:=λx c e=>∃q,c=(pq none (pq x q))/\TB a₀ pd e/\Ui lo (arrOf st) (arrOf e)/\U5 κ (arrOf e) lo x/\q+1<=x /\ ∀i,lo+x-(q+1)<=i->i<lo+x->KK κ (arrOf e) i=KK κ (arrOf e) (lo+x-1)) ?_ ?_ (0,7,U,hL,hd,9,λi a b=>by congr 1;lia)
  ·rintro x c e S a3 ⟨q,rfl,g,o,l,X6,F⟩;have p:lo+x<=(arrOf e).size:=by rw[g.size];lia
   dsimp only;refine wpS_bind (pU hO g h0 ⋯ ⋯ ?_);cases V:κ.blt (KK κ (arrOf e) (lo+x)) (KK κ (arrOf e) (lo+x-1))
   ·refine wpS_bind (pU hO g h0 ⋯ ⋯ ?_);cases hg:κ.blt (KK κ (arrOf e) (lo+x-1)) (KK κ (arrOf e) (lo+x))
    ·have eq:KK κ (arrOf e) (lo+x)=KK κ (arrOf e) (lo+x-1):=κ.total _ _ V hg;refine wpS_pure (q+1,7,g,o,l.more ⋯ (by rw[eq];exact KeyOrd.kle_refl _),9,λi a b=>?_);rw[show lo+(x+1)-1=lo+x by lia,eq];by_cases hi:i=lo+x
     ·rw[hi,eq]
     ·exact F i ⋯ ⋯
    ·exact wpS_pure (O x q e g o S ⋯ l X6 F)
   ·have W:∀ys:Array Keyed,(∀k,KK κ ys k=KK κ (arrOf e) k)->U5 κ ys lo (x+1):=λys hk=>(l.more ⋯ (KeyOrd.kle_of_klt V)).keys hk;show wpS _ _ _ _ (if q > 0 then _ else _) _ _;by_cases t:q > 0
    ·rw[if_pos t];refine wpS_bind (B (wpS_pure (0,7,g.set (mirror_perm _ _ _ _),o.trans (jb p ⋯),W _ λk=>KK_mirror_equal p F k,9,λi a b=>by congr 1;lia)))
    ·rw[if_neg t];exact wpS_pure (0,7,g,o,W _ λk=>rfl,9,λi a b=>by congr 1;lia)
  ·rintro c e ⟨q,rfl,g,o,l,X6,F⟩;rw[show max M n=n by lia]at l X6 F ⊢;exact O n q e g o D (aac _) l X6 F
 rw[countRun'_eq];refine wpS_bind (a0 1 st P (aac _) h1 (Uu.one κ _ lo) _ λd J H T a7=>?_);dsimp only;by_cases D:d=n
 ·rw[if_pos (by simpa using D)];exact wpS_pure (h d st P (Ui.refl _ _) J H T)
 rw[if_neg (by simpa using D)];have Y:=a7.resolve_left D;by_cases Z:d > 1
 ·rw[if_pos Z];refine wpS_bind (pU hO P h0 ⋯ ⋯ ?_);have p:lo+d<=(arrOf st).size:=by rw[P.size];lia
  cases a5:κ.blt (KK κ (arrOf st) lo) (KK κ (arrOf st) (lo+d-1))
  ·have z:∀k,lo<=k->k<lo+d->KK κ (arrOf st) k=KK κ (arrOf st) (lo+d-1):=λk b3 b2=>by
    have a1:=T 0 (k-lo) ⋯ ⋯;have a2:=T (k-lo) (d-1) ⋯ ⋯;rw[show lo+(k-lo)=k by lia]at a1 a2;rw[show lo+(d-1)=lo+d-1 by lia]at a2;exact KeyOrd.kle_antisymm a2 (KeyOrd.kle_trans a5 a1)
   refine wpS_bind (B (wpS_bind (wpS_lift (wpAny_rule (7,3)))));have K:TB a₀ pd (setArr st (mirror (arrOf st) lo (lo+d) ((lo+d-lo) / 2))):=P.set (mirror_perm _ _ _ _);refine wpS_bind (N (d+1) _ K (jb p (aac _)) ⋯ ⋯ ?_ _ λm q e g o X v l a6 F=>?_)
   ·refine U5.keys (xs:=arrOf st) (λi j a9 hj=>?_) λk=>KK_mirror_equal p z k;by_cases b4:j<d
    ·rw[z (lo+i) ⋯ ⋯,z (lo+j) ⋯ ⋯];exact KeyOrd.kle_refl _
    have:j=d:=by lia
    subst this;by_cases R:i=j
    ·subst R;exact KeyOrd.kle_refl _
    rw[z (lo+i) ⋯ ⋯];exact KeyOrd.kle_of_klt Y
   ·have u:lo+m<=(arrOf e).size:=by rw[g.size];lia
    dsimp only;by_cases t:q > 0
    ·rw[if_pos t];exact wpS_bind (B (L m _ _ (λ_=>rfl) (g.set (mirror_perm _ _ _ _)) (o.trans (jb u ⋯)) ⋯ v (l.keys λk=>KK_mirror_equal u F k)))
    ·rw[if_neg t];exact L m _ _ (λ_=>rfl) g o ⋯ v l
  ·exact wpS_pure (h d st P (Ui.refl _ _) J H T)
 ·rw[if_neg Z];have:d=1:=by lia
  subst this;refine wpS_bind (wpS_lift (wpAny_rule (7,3)));refine wpS_bind (N (1+1) _ P (Ui.refl _ _) ⋯ ⋯ ?_ _ λm q e g o X v l a6 F=>?_)
  ·intro i j a9 hj;by_cases R:i=j
   ·subst R;exact KeyOrd.kle_refl _
   have b0:i=0:=by lia
   have a8:j=1:=by lia
   subst b0;subst a8;exact KeyOrd.kle_of_klt Y
  ·have u:lo+m<=(arrOf e).size:=by rw[g.size];lia
   dsimp only;by_cases t:q > 0
   ·rw[if_pos t];exact wpS_bind (B (L m _ _ (λ_=>rfl) (g.set (mirror_perm _ _ _ _)) (o.trans (jb u ⋯)) ⋯ v (l.keys λk=>KK_mirror_equal u F k)))
   ·rw[if_neg t];exact L m _ _ (λ_=>rfl) g o ⋯ v l
theorem wC{st:SortSt}{lo n :Nat}{Q:Bool->SortSt->Prop}(R:κ.OneLt)(U:KeysOf κ a₀)(S:TB a₀ pd st)(hn:lo+n<=a₀.size)(W:i<=n)(O:Uu κ (arrOf st) lo i)
  (h:∀b,TB a₀ pd b->Ui lo (arrOf st) (arrOf b)->Uu κ (arrOf b) lo n->Q true b):wpS (model prog w) A E s (binarySort' lo n i) Q st:=by
 rw[binarySort'_eq];refine wpS_bind (wpS_mono (wpS_forRange (I:=λk c b=>c=(pq none (()))/\TB a₀ pd b/\Ui lo (arrOf st) (arrOf b)/\Uu κ (arrOf b) lo (min k n)) (Q:=λc b=>c=(pq none (()))/\TB a₀ pd b/\Ui lo (arrOf st) (arrOf b)/\Uu κ (arrOf b) lo n) ?_ ?_ ?_) ?_)
 ·rintro k c b Z Y ⟨rfl,f,o,e⟩;rw[show min k n=k by lia]at e;have y:lo+k<a₀.size:=by lia
  refine wpS_bind (wpS_mono (wpS_forRange (I:=λx c d=>d=b /\ ∃l r,c=(pq none (pq l r))/\l<=r/\r<=k/\r-l<=k-x/\(∀a,a<l->κ.kle (KK κ (arrOf b) (lo+a)) (KK κ (arrOf b) (lo+k))) /\ ∀a,r<=a->a<k->κ.klt (KK κ (arrOf b) (lo+k)) (KK κ (arrOf b) (lo+a)))
   (Q:=λc d=>d=b /\ ∃l r,c=(pq none (pq l r))/\l<=k/\(∀a,a<l->κ.kle (KK κ (arrOf b) (lo+a)) (KK κ (arrOf b) (lo+k))) /\ ∀a,l<=a->a<k->κ.klt (KK κ (arrOf b) (lo+k)) (KK κ (arrOf b) (lo+a))) ?_ ?_ ?_) ?_)
  ·rintro x c d _ V ⟨rfl,l,r,rfl,z,p,P,g,m⟩;dsimp only;by_cases v:l >= r
   ·rw[if_pos v];have:l=r:=by lia
    subst this;exact wpS_pure (7,l,l,7,p,g,m)
   rw[if_neg v];refine wpS_bind (pU R f U y ⋯ ?_);cases K:κ.blt (KK κ (arrOf d) (lo+k)) (KK κ (arrOf d) (lo+(l+r) / 2))
   ·refine wpS_pure (7,_,5,9,p,9,λa M=>?_,m);exact KeyOrd.kle_trans (e a ((l+r) / 2) ⋯ ⋯) K
   ·refine wpS_pure (7,_,5,9,9,9,g,λa C B=>?_);exact KeyOrd.klt_of_klt_of_kle K (e ((l+r) / 2) a C B)
  ·rintro c d ⟨rfl,l,r,rfl,z,p,P,g,m⟩;have:l=r:=by lia
   subst this;exact(7,l,l,7,p,g,m)
  ·exact(7,0,k,7,9,9,9,λa M=>by lia,λa T h2=>by lia)
  ·rintro c d ⟨rfl,l,r,rfl,X,g,m⟩;dsimp only;rw[moveDown'_eq];refine wpS_bind (wpS_modify (wpS_pure (7,f.set (bubble_perm _ _ _),o.trans λa M=>?_,λa j q L=>?_)))
   ·rw[getElem?_bubble (by rw[f.size];exact y) _ ⋯,if_neg ⋯,if_neg ⋯]
   have N:∀t,t<=k->KK κ (bubble (arrOf d) (lo+k) (lo+k-(lo+l))) (lo+t)=if t=l then KK κ (arrOf d) (lo+k)else if l<t then KK κ (arrOf d) (lo+(t-1))else KK κ (arrOf d) (lo+t):=λt ht=>by
    rw[KK_bubble (by rw[f.size];exact y) ⋯];by_cases F:t=l
    ·rw[if_pos ⋯,if_pos F]
    rw[if_neg ⋯,if_neg F];by_cases D:l<t
    ·rw[if_pos ⋯,if_pos D,show lo+t-1=lo+(t-1) by lia]
    ·rw[if_neg ⋯,if_neg D]
   rw[show min (k+1) n=k+1 by lia]at L;show κ.kle (KK κ (bubble (arrOf d) (lo+k) (lo+k-(lo+l))) (lo+a)) (KK κ (bubble (arrOf d) (lo+k) (lo+k-(lo+l))) (lo+j));rw[N a ⋯,N j ⋯];by_cases J:a=l
   ·rw[if_pos J];by_cases u:j=l
    ·rw[if_pos u];exact KeyOrd.kle_refl _
    rw[if_neg u,if_pos ⋯];exact KeyOrd.kle_of_klt (m (j-1) ⋯ ⋯)
   rw[if_neg J];by_cases H:l<a
   ·rw[if_pos H,if_neg (show ¬j=l by lia),if_pos (show l<j by lia)];exact e (a-1) (j-1) ⋯ ⋯
   rw[if_neg H];by_cases u:j=l
   ·rw[if_pos u];exact g a ⋯
   rw[if_neg u];by_cases G:l<j
   ·rw[if_pos G];exact e a (j-1) ⋯ ⋯
   rw[if_neg G];exact e a j q ⋯
 ·rintro c b ⟨rfl,f,o,e⟩;rw[show min (max (max i 1) n) n=n by lia]at e;exact(7,f,o,e)
 ·refine(7,S,Ui.refl _ _,λa j q L=>?_);by_cases T:i=0
  ·have:a=j:=by lia
   subst this;exact KeyOrd.kle_refl _
  ·exact O a j q ⋯
 ·rintro c b ⟨rfl,f,o,e⟩;exact wpS_pure (h b f o e)
end
def gj:Bool->Keyed->Array Keyed->Nat->Nat->Nat->StateT SortSt Sem (Option Nat):=sortPriv% PySem.Builtin.gallop
def Qd(b:Nat->StateT SortSt Sem (Option Bool))(n hint:Nat):StateT SortSt Sem (Option Nat):=do
 let mut la:=0
 let mut u:=1
 let mut l:=0
 let mut h:=0
 let some r <-b hint|return none
 if r then
  let a:=n-hint
  for _ in [0:n] do
   if u >= a then break
   let some mo <-b (hint+u) | return none
   if !mo then break
   la:=u
   u:=2*u+1
  l:=hint+la+1
  h:=hint+min u a
 else
  let a:=hint+1
  for _ in [0:n] do
   if u >= a then break
   let some fo <-b (hint-u) | return none
   if fo then break
   la:=u
   u:=2*u+1
  l:=hint+1-min u a
  h:=hint-la
 for _ in [0:n] do
  if l >= h then break
  let m:=l+(h-l) / 2
  let some mo <-b m|return none
  if mo then l:=m+1 else h:=m
 return some h
def Gv(left:Bool)(a:Keyed)(b:Array Keyed)(base i:Nat):StateT SortSt Sem (Option Bool):=do
 let x <-elem' b (base+i)
 if left then lt' x a else return (<-lt' a x).map (!·)
theorem Ep(left:Bool)(a:Keyed)(b:Array Keyed)(base n hint:Nat):gj left a b base n hint=Qd (Gv left a b base) n hint:=rfl
section
variable{κ:KeyKind}
theorem Ou{N:Nat->StateT SortSt Sem (Option Bool)}{n hint:Nat}{st:SortSt}{Q:Option Nat->SortSt->Prop}(e:Nat->Bool)(T:hint<n)
  (J:∀i,i<n -> ∀(Q1:Option Bool->SortSt->Prop),Q1 (some (e i)) st->wpS (model prog w) A E s (N i) Q1 st)(g:∀i j,i<=j->j<n->e j=true->e i=true)
  (h:∀r,r<=n->(∀i,i<r->e i=true)->(∀i,r<=i->i<n->e i=false)->Q (some r) st):wpS (model prog w) A E s (Qd N n hint) Q st:=by
 have bin:∀(l u:Nat),l<=u->u<=n->(∀i,i<l->e i=true)->(∀i,u<=i->i<n->e i=false) -> ∀(Q1:Option (Option Nat)×Nat×Nat->SortSt->Prop),
   (∀r,r<=n->(∀i,i<r->e i=true)->(∀i,r<=i->i<n->e i=false)->Q1 (pq none (pq r r)) st) ->
   wpS (model prog w) A E s (forIn [0:n] ((pq none (pq l u)):Option (Option Nat)×Nat×Nat) λ_ r=>if r.2.1 >= r.2.2 then pure (ForInStep.done (pq none (pq r.2.1 r.2.2)))else N (r.2.1+(r.2.2-r.2.1) / 2) >>= λx=>match x with
    |some b=>if b=true then pure (ForInStep.yield (pq none (pq (r.2.1+(r.2.2-r.2.1) / 2+1) r.2.2)))else pure (ForInStep.yield (pq none (pq r.2.1 (r.2.1+(r.2.2-r.2.1) / 2))))
    |_=>pure (ForInStep.done (pq (some none) (pq r.2.1 r.2.2)))) Q1 st:=by
  intro l u L m o p Q1 B;refine wpS_forRange (I:=λx c a=>a=st /\ ∃l u,c=(pq none (pq l u))/\l<=u/\u<=n/\(u-l)+x<=n/\(∀i,i<l->e i=true) /\ ∀i,u<=i->i<n->e i=false) ?_ ?_ (7,l,u,7,L,m,9,o,p)
  ·rintro x c a _ P ⟨rfl,l,u,rfl,L,m,R,o,p⟩;dsimp only;by_cases f:l >= u
   ·rw[if_pos f];have:l=u:=by lia
    subst this;exact wpS_pure (B l m o p)
   rw[if_neg f];refine wpS_bind (J _ ⋯ _ ?_);cases C:e (l+(u-l) / 2)
   ·refine wpS_pure (7,l,5,9,9,9,o,λi z v=>?_);cases D:e i
    ·rfl
    ·rw[g _ i z v D]at C;exact absurd C ∅
   ·exact wpS_pure (7,_,u,7,9,m,9,λi D=>g i _ ⋯ ⋯ C,p)
  ·rintro c a ⟨rfl,l,u,rfl,L,m,R,o,p⟩;have:l=u:=by lia
   subst this;exact B l m o p
 unfold Qd;refine wpS_bind (J hint T _ ?_);have H:∀i j,i<=j->j<n->e i=false->e j=false:=λi j O S D=>by
  cases C:e j
  ·rfl
  ·rw[g i j O S C]at D;exact absurd D ∅
 cases C:e hint
 ·dsimp only;rw[if_neg ∅];refine wpS_bind (wpS_mono (wpS_forRange (I:=λx c a=>a=st /\ ∃d u,c=(pq none (pq d u))/\d<u/\x+1<=u/\d<=hint/\e (hint-d)=false) (Q:=λc a=>a=st /\ ∃d u,c=(pq none (pq d u))/\d<u/\d<=hint/\e (hint-d)=false/\(u >= hint+1\/e (hint-u)=true)) ?_ ?_ (7,0,(1),7,9,9,9,C)) ?_)
  ·rintro x c a _ P ⟨rfl,d,u,rfl,t,K,q,k⟩;dsimp only;by_cases f:u >= hint+1
   ·rw[if_pos f];exact wpS_pure (7,d,u,7,t,q,k,.inl f)
   rw[if_neg f];refine wpS_bind (J _ ⋯ _ ?_);cases B:e (hint-u)
   ·exact wpS_pure (7,u,5,9,9,9,B)
   ·exact wpS_pure (7,d,u,7,t,q,k,.inr B)
  ·rintro c a ⟨rfl,d,u,rfl,t,K,q,k⟩;exact(7,d,u,7,t,q,k,.inl ⋯)
  ·rintro c a ⟨rfl,d,u,rfl,t,q,k,y⟩;dsimp only;refine wpS_bind (bin _ _ ⋯ ⋯ (λi D=>?_) (λi z v=>H _ i z v k) _ λr G F M=>wpS_pure (h r G F M));rcases y with y|y
   ·lia
   ·exact g i _ ⋯ ⋯ y
 ·dsimp only;rw[if_pos rfl];refine wpS_bind (wpS_mono (wpS_forRange (I:=λx c a=>a=st /\ ∃d u,c=(pq none (pq d u))/\d<u/\x+1<=u/\hint+d<n/\e (hint+d)=true) (Q:=λc a=>a=st /\ ∃d u,c=(pq none (pq d u))/\d<u/\hint+d<n/\e (hint+d)=true/\(u >= n-hint\/e (hint+u)=false)) ?_ ?_ (7,0,(1),7,9,9,9,C)) ?_)
  ·rintro x c a _ P ⟨rfl,d,u,rfl,t,K,q,k⟩;dsimp only;by_cases f:u >= n-hint
   ·rw[if_pos f];exact wpS_pure (7,d,u,7,t,q,k,.inl f)
   rw[if_neg f];refine wpS_bind (J _ ⋯ _ ?_);cases B:e (hint+u)
   ·exact wpS_pure (7,d,u,7,t,q,k,.inr B)
   ·exact wpS_pure (7,u,5,9,9,9,B)
  ·rintro c a ⟨rfl,d,u,rfl,t,K,q,k⟩;exact(7,d,u,7,t,q,k,.inl ⋯)
  ·rintro c a ⟨rfl,d,u,rfl,t,q,k,y⟩;dsimp only;refine wpS_bind (bin _ _ ⋯ ⋯ (λi D=>g i _ ⋯ ⋯ k) (λi z v=>?_) _ λr G F M=>wpS_pure (h r G F M));rcases y with y|y
   ·lia
   ·rcases aaq u (n-hint)with c|c
    ·exact H _ i ⋯ v y
    ·lia
def ky(κ:KeyKind)(x:Keyed):κ.α:=(κ.keyOf x.1).getD κ.dflt
theorem Gy{st:SortSt}{x y:Keyed}{Q:Option Bool->SortSt->Prop}(i:κ.OneLt)(g:kindOf st=oneType')(f:∃a,κ.keyOf x.1=some a)(e:∃a,κ.keyOf y.1=some a)
  (h:Q (some (κ.blt (ky κ x) (ky κ y))) st):wpS (model prog w) A E s (lt' x y) Q st:=by
 obtain⟨a,d⟩:=f;obtain⟨b,c⟩:=e;have k:ky κ x=a:=by unfold ky;rw[d];rfl
 have j:ky κ y=b:=by unfold ky;rw[c];rfl
 rw[k,j]at h;rw[lt'_eq];refine wpS_bind (wpS_get ?_);rw[g,keyLt'_oneType];exact wpS_bind (wpS_lift (wpAny_attempt (i prog w A _ s _ _ a b d c (7,wpS_pure h))))
theorem bj{st:SortSt}{xs:Array Keyed}{i:Nat}{Q:Keyed->SortSt->Prop}(a:i<xs.size)(h:Q xs[i] st):wpS (model prog w) A E s (elem' xs i) Q st:=by
 rw[elem'_eq,getElem?_pos xs i a];exact wpS_pure h
def Sd(κ:KeyKind)(xs:Array Keyed)(lo a:Nat):Prop:=∀i j,lo<=i->i<=j->j<a->κ.kle (KK κ xs i) (KK κ xs j)
theorem bM{xs:Array Keyed}{i:Nat}(a:i<xs.size):KK κ xs i=ky κ xs[i]:=by
 unfold KK ky;rw[getElem?_pos xs i a]
theorem yo{st:SortSt}{left:Bool}{b:Keyed}{xs:Array Keyed}{base n hint:Nat}{Q:Option Nat->SortSt->Prop}(m:κ.OneLt)(k:kindOf st=oneType')(q:KeysOf κ xs)(g:∃a,κ.keyOf b.1=some a)(o:Sd κ xs base (base+n))(u:base+n<=xs.size)(p:hint<n)
  (h:∀r,r<=n->(∀i,i<r->(if left then κ.blt (KK κ xs (base+i)) (ky κ b)else !κ.blt (ky κ b) (KK κ xs (base+i)))=true)->(∀i,r<=i->i<n->(if left then κ.blt (KK κ xs (base+i)) (ky κ b)else !κ.blt (ky κ b) (KK κ xs (base+i)))=false)->Q (some r) st):
  wpS (model prog w) A E s (gj left b xs base n hint) Q st:=by
 rw[Ep];have c:∀i (l:i<xs.size),∃a,κ.keyOf xs[i].1=some a:=λi l=>q _ (adu _);refine Ou (λi=>if left then κ.blt (KK κ xs (base+i)) (ky κ b)else !κ.blt (ky κ b) (KK κ xs (base+i))) p (λi l x f=>?_) (λi j t v d=>?_) h
 ·rw[bM ⋯]at f;unfold Gv;refine wpS_bind (bj ⋯ ?_);cases left
  ·rw[if_neg ∅];exact wpS_bind (Gy m k g (c _ ⋯) (wpS_pure f))
  ·rw[if_pos rfl];exact Gy m k (c _ ⋯) g f
 ·have e:=o (base+i) (base+j) ⋯ ⋯ ⋯;cases left
  ·have d:(!κ.blt (ky κ b) (KK κ xs (base+j)))=true:=d;show (!κ.blt (ky κ b) (KK κ xs (base+i)))=true;rw[aht]at d ⊢;exact KeyOrd.kle_trans e d
  ·exact KeyOrd.klt_of_kle_of_klt e d
theorem j7{st:SortSt}{c:Keyed}{xs:Array Keyed}{base n hint:Nat}{Q:Option Nat->SortSt->Prop}(m:κ.OneLt)(j:kindOf st=oneType')(o:KeysOf κ xs)(d:∃a,κ.keyOf c.1=some a)(e:Sd κ xs base (base+n))(g:base+n<=xs.size)(l:hint<n)
  (h:∀r,r<=n->(∀i,i<r->κ.kle (KK κ xs (base+i)) (ky κ c))->(∀i,r<=i->i<n->κ.klt (ky κ c) (KK κ xs (base+i)))->Q (some r) st):wpS (model prog w) A E s (gj false c xs base n hint) Q st:=by
 refine yo m j o d e g l λr f t p=>h r f (λi k=>?_) λi a b=>?_
 ·have q:(!κ.blt (ky κ c) (KK κ xs (base+i)))=true:=t i k;rw[aht]at q;exact q
 ·have q:(!κ.blt (ky κ c) (KK κ xs (base+i)))=false:=p i a b;rw[Bool.not_eq_false']at q;exact q
theorem gm{st:SortSt}{c:Keyed}{xs:Array Keyed}{base n hint:Nat}{Q:Option Nat->SortSt->Prop}(m:κ.OneLt)(j:kindOf st=oneType')(o:KeysOf κ xs)(d:∃a,κ.keyOf c.1=some a)(e:Sd κ xs base (base+n))(g:base+n<=xs.size)(l:hint<n)
  (h:∀r,r<=n->(∀i,i<r->κ.klt (KK κ xs (base+i)) (ky κ c))->(∀i,r<=i->i<n->κ.kle (ky κ c) (KK κ xs (base+i)))->Q (some r) st):wpS (model prog w) A E s (gj true c xs base n hint) Q st:=
 yo m j o d e g l λr f q p=>h r f (λi k=>q i k) λi a b=>p i a b
end
structure MI(le:Keyed->Keyed->Prop)(L O X Y:List Keyed):Prop where
 perm:af9 (O++X++Y) L
 so:O.Pairwise le
 sx:X.Pairwise le
 sy:Y.Pairwise le
 ox:∀o∈O,∀x∈X,le o x
 oy:∀o∈O,∀y∈Y,le o y
theorem MI.left{d:Keyed->Keyed->Prop}{L O X e Y:List Keyed}(h:MI d L O (X++e) Y)(f:∀x∈X,∀y∈Y,d x y):MI d L (O++X) e Y:=by
 have s:=af4.mp h.sx;refine(by rw[aaQ O X e];exact h.perm,af4.mpr (h.so,s.1,λo a x c=>h.ox o a x (agl _ c)),s.2.1,h.sy,λo a x c=>?_,λo a y b=>?_)
 ·rcases aba.mp a with a|a
  ·exact h.ox o a x (aay _ c)
  ·exact s.2.2 o a x c
 ·rcases aba.mp a with a|a
  ·exact h.oy o a y b
  ·exact f o a y b
theorem MI.right{d:Keyed->Keyed->Prop}{L O X Y e:List Keyed}(h:MI d L O X (Y++e))(f:∀y∈Y,∀x∈X,d y x):MI d L (O++Y) X e:=by
 have s:=af4.mp h.sy;refine(aiT ?_ h.perm,af4.mpr (h.so,s.1,λo a y c=>h.oy o a y (agl _ c)),h.sx,s.2.1,λo a x b=>?_,λo a y c=>?_)
 ·rw[aaQ O Y X,aaQ,aaQ O X,<-aaQ X,aaQ Y];refine ah7 O ?_;rw[<-aaQ];exact(ah8).append_right e
 ·rcases aba.mp a with a|a
  ·exact h.ox o a x b
  ·exact f o a x b
 ·rcases aba.mp a with a|a
  ·exact h.oy o a y (aay _ c)
  ·exact s.2.2 o a y c
def Fin(a:Keyed->Keyed->Prop)(L r:List Keyed):Prop:=af9 r L/\r.Pairwise a
theorem MI.xy{c:Keyed->Keyed->Prop}{L O X Y:List Keyed}(h:MI c L O X Y)(d:∀x∈X,∀y∈Y,c x y):Fin c L (O++X++Y):=by
 refine(h.perm,af4.mpr (af4.mpr (h.so,h.sx,h.ox),h.sy,λa b y e=>?_));rcases aba.mp b with b|b
 ·exact h.oy a b y e
 ·exact d a b y e
theorem MI.yx{c:Keyed->Keyed->Prop}{L O X Y:List Keyed}(h:MI c L O X Y)(d:∀y∈Y,∀x∈X,c y x):Fin c L (O++Y++X):=by
 refine(aiT ?_ h.perm,af4.mpr (af4.mpr (h.so,h.sy,h.oy),h.sx,λa b x e=>?_))
 ·rw[aaQ,aaQ];exact ah7 O ah8
 ·rcases aba.mp b with b|b
  ·exact h.ox a b x e
  ·exact d a b x e
def vR:Array Keyed->Array Keyed->StateT SortSt Sem (Array Keyed):=sortPriv% PySem.Builtin.mergeLo
def setG:Nat->StateT SortSt Sem Unit:=sortPriv% PySem.Builtin.setMinGallop
theorem Nk(g:Nat):setG g=modify λst=>SortSt.mk' (kindOf st) (arrOf st) (pendingOf st) g (failedOf st):=rfl
def mlo(a b:Array Keyed):StateT SortSt Sem (Array Keyed):=do
 rule "list.sort.merge-lo"
 let t:=a.size+b.size
 let c (o:Array Keyed) (i j:Nat):=o++a.extract i a.size++b.extract j b.size
 let d (o:Array Keyed) (i j:Nat):=o++b.extract j b.size++a.extract i a.size
 let mut o:Array Keyed:=#[<-elem' b 0]
 let mut i:=0
 let mut j:=1
 if j==b.size then return c o i j
 if i+1==a.size then return d o i j
 let mut g:=gallopOf (<-get)
 for _ in [0:t] do
  let mut p:=0
  let mut q:=0
  for _ in [0:t] do
   let some v <-lt' (<-elem' b j) (<-elem' a i) | return c o i j
   if v then
    o:=o.push (<-elem' b j);j:=j+1;q:=q+1;p:=0
    if j==b.size then return c o i j
    if q >= g then break
   else
    o:=o.push (<-elem' a i);i:=i+1;p:=p+1;q:=0
    if i+1==a.size then return d o i j
    if p >= g then break
  rule "list.sort.gallop"
  g:=g+1
  for _ in [0:t] do
   if g > 1 then g:=g-1
   setG g
   let some k <-gj false (<-elem' b j) a i (a.size-i) 0|return c o i j
   p:=k
   if k > 0 then
    o:=o++a.extract i (i+k);i:=i+k
    if i+1==a.size then return d o i j
    if i==a.size then return c o i j
   o:=o.push (<-elem' b j);j:=j+1
   if j==b.size then return c o i j
   let some k <-gj true (<-elem' a i) b j (b.size-j) 0|return c o i j
   q:=k
   if k > 0 then
    o:=o++b.extract j (j+k);j:=j+k
    if j==b.size then return c o i j
   o:=o.push (<-elem' a i);i:=i+1
   if i+1==a.size then return d o i j
   if p<7&&q<7 then break
  g:=g+1
  setG g
 (unsupported "internal:list.sort.merge-bound" : StateT SortSt Sem (Array Keyed))
theorem Bj(a b:Array Keyed):vR a b=mlo a b:=rfl
section
variable{κ:KeyKind}
theorem aQ{a:Type}{c:Prop}[Decidable c]{x y:StateT SortSt Sem a}{Q:a->SortSt->Prop}{st:SortSt}(d:c->wpS (model prog w) A E s x Q st)(b:¬c->wpS (model prog w) A E s y Q st):wpS (model prog w) A E s (if c then x else y) Q st:=by
 by_cases h:c
 ·rw[if_pos h];exact d h
 ·rw[if_neg h];exact b h
def kl(κ:KeyKind)(x y:Keyed):Prop:=κ.kle (ky κ x) (ky κ y)
theorem dU{x y z:Keyed}(h:kl κ x y)(g:kl κ y z):kl κ x z:=KeyOrd.kle_trans h g
theorem uB{xs:Array Keyed}(h:xs.toList.Pairwise (kl κ)){lo :Nat}(c:n<=xs.size):Sd κ xs lo n:=λi j _ a b=>by
 rw[bM (show i<xs.size by lia),bM (show j<xs.size by lia)];by_cases e:i=j
 ·subst e;exact KeyOrd.kle_refl _
 have q:=ab2.mp h i j (by rw[aae];lia) (by rw[aae];lia) ⋯;rw[adw,adw]at q;exact q
theorem xx{xs:Array Keyed}{i:Nat}(a:i<xs.size):xs.toList.drop i=[xs[i]]++xs.toList.drop (i+1):=by
 rw[acA (by rw[aae];exact a),adw];rfl
theorem fB{xs:Array Keyed}{i:Nat}{x:Keyed}(h:x∈xs.toList.drop i):∃k,∃a:i+k<xs.size,x=xs[i+k]:=by
 obtain⟨k,a,e⟩:=agg h;rw[ab3,aae]at a;refine(k,9,3);rw[<-e,agO,adw]
theorem jZ{xs:Array Keyed}{i k:Nat}{x:Keyed}(h:x∈(xs.toList.drop i).take k):∃d,d<k /\ ∃hd:i+d<xs.size,x=xs[i+d]:=by
 obtain⟨d,hd,e⟩:=agg h;rw[aaL,ab3,aae]at hd;refine(d,9,9,3);rw[<-e,ag8,agO,adw]
theorem oG(xs:Array Keyed)(i k:Nat):(xs.extract i (i+k)).toList=(xs.toList.drop i).take k:=by
 rw[agL,agq,aeC]
theorem m7(xs:Array Keyed)(i:Nat):(xs.extract i xs.size).toList=xs.toList.drop i:=by
 rw[agL,agq,aak (by rw[ab3,aae];lia)]
section
variable{le:Keyed->Keyed->Prop}{L:List Keyed}{o a b:Array Keyed}{j k:Nat}{X:List Keyed}
theorem MI.pushR(h:MI le L o.toList X (b.toList.drop j))(f:j<b.size)(e:∀x∈X,le b[j] x):MI le L (o.push b[j]).toList X (b.toList.drop (j+1)):=by
 rw[xx f]at h;rw[agp];exact h.right λy d x c=>by rw[aat.mp d];exact e x c
theorem MI.pushL(h:MI le L o.toList (a.toList.drop i) X)(f:i<a.size)(e:∀x∈X,le a[i] x):MI le L (o.push a[i]).toList (a.toList.drop (i+1)) X:=by
 rw[xx f]at h;rw[agp];exact h.left λy d x c=>by rw[aat.mp d];exact e x c
theorem MI.moreR(h:MI le L o.toList X (b.toList.drop j))(c:∀y∈(b.toList.drop j).take k,∀x∈X,le y x):MI le L (o++b.extract j (j+k)).toList X (b.toList.drop (j+k)):=by
 rw[<-aeD k (b.toList.drop j),ahu]at h;rw[acK,oG];exact h.right c
theorem MI.moreL(h:MI le L o.toList (a.toList.drop i) X)(c:∀y∈(a.toList.drop i).take k,∀x∈X,le y x):MI le L (o++a.extract i (i+k)).toList (a.toList.drop (i+k)) X:=by
 rw[<-aeD k (a.toList.drop i),ahu]at h;rw[acK,oG];exact h.left c
theorem MI.fa(h:MI le L o.toList (a.toList.drop i) (b.toList.drop j))(c:∀x∈a.toList.drop i,∀y∈b.toList.drop j,le x y):Fin le L (o++a.extract i a.size++b.extract j b.size).toList:=by
 rw[acK,acK,m7,m7];exact h.xy c
theorem MI.fb(h:MI le L o.toList (a.toList.drop i) (b.toList.drop j))(c:∀y∈b.toList.drop j,∀x∈a.toList.drop i,le y x):Fin le L (o++b.extract j b.size++a.extract i a.size).toList:=by
 rw[acK,acK,m7,m7];exact h.yx c
theorem jc(h:b.size<=j):b.toList.drop j=[]:=ah3 (by rw[aae];exact h)
end
structure cL(st st':SortSt):Prop where
 kind:kindOf st'=kindOf st
 arr:arrOf st'=arrOf st
 pend:pendingOf st'=pendingOf st
 failed:failedOf st'=failedOf st
theorem cL.refl(st:SortSt):cL st st:=(7,7,7,7)
theorem ux{st:SortSt}{g:Nat}{Q:Unit->SortSt->Prop}(b:cL J st)(h:∀a,cL J a->Q () a):wpS (model prog w) A E s (setG g) Q st:=by
 rw[Nk];exact wpS_modify (h _ (b.kind,b.arr,b.pend,b.failed))
theorem Fj{st:SortSt}{a b:Array Keyed}{Q:Array Keyed->SortSt->Prop}(hO:κ.OneLt)(hk:kindOf st=oneType')(hA:KeysOf κ a)(hB:KeysOf κ b)(sa:a.toList.Pairwise (kl κ))(sb:b.toList.Pairwise (kl κ))(na:0<a.size)(nb:0<b.size)
  (hf:∀x∈a.toList,kl κ b[0] x)(hl:∀y∈b.toList,kl κ y (a[a.size-1]'(by omega)))(h:∀r m,cL st m->Fin (kl κ) (a.toList++b.toList) r.toList->Q r m):wpS (model prog w) A E s (vR a b) Q st:=by
 have kA:∀i (C:i<a.size),∃x,κ.keyOf a[i].1=some x:=λi C=>hA _ (adu _);have kB:∀i (C:i<b.size),∃x,κ.keyOf b[i].1=some x:=λi C=>hB _ (adu _);have B:∀i j,i+1=a.size -> ∀y∈b.toList.drop j,∀x∈a.toList.drop i,kl κ y x:=λi j C y f x F=>by
  obtain⟨k,hk,rfl⟩:=fB F;have:i+k=a.size-1:=by lia
  have q:=hl y (agy f);simp only[this];exact q
 have sA:=λlo=>uB sa (lo:=lo) (aac _);have sB:=λlo=>uB sb (lo:=lo) (aac _);have M0:MI (kl κ) (a.toList++b.toList) (#[b[0]]:Array Keyed).toList (a.toList.drop 0) (b.toList.drop 1):=by
  have M:MI (kl κ) (a.toList++b.toList) (#[]:Array Keyed).toList (a.toList.drop 0) (b.toList.drop 0):=(.rfl,.nil,sa,sb,λo ho=>(ahf ho).elim,λo ho=>(ahf ho).elim);exact M.pushR nb λx F=>hf x F
 rw[Bj];unfold mlo;refine wpS_bind (wpS_lift (wpAny_rule (7,3)));refine wpS_bind (bj nb ?_);refine aQ (λc=>wpS_pure (h _ _ (cL.refl _) (M0.fa λx _ y f=>?_))) λc1=>?_
 ·rw[jc (by have:=beq_iff_eq.mp c;lia)]at f;cases f
 refine aQ (λc=>wpS_pure (h _ _ (cL.refl _) (M0.fb (B _ _ (beq_iff_eq.mp c))))) λc2=>?_;have c1:1≠b.size:=λz=>c1 (beq_iff_eq.mpr z);have c2:0+1≠a.size:=λz=>c2 (beq_iff_eq.mpr z);refine wpS_bind (wpS_get ?_);have a7:∀r m,cL st m->Fin (kl κ) (a.toList++b.toList) r.toList->Q r m:=h;refine wpS_bind (wpS_mono (wpS_forRange (I:=λx c m=>cL st m /\ ∃o i j g,c=(pq none (pq o (pq i (pq j g))))/\MI (kl κ) (a.toList++b.toList) o.toList (a.toList.drop i) (b.toList.drop j)/\i+1<a.size/\j<b.size/\x+1<=i+j)
  (Q:=λc m=>cL st m /\ ∃r,c.1=some r/\Fin (kl κ) (a.toList++b.toList) r.toList) ?_ ?_ (cL.refl _,_,0,(1),5,M0,9,9,9)) ?_)
 ·rintro x c S _ F ⟨L,o,i,j,g,rfl,M,C,t,K⟩;refine wpS_bind (wpS_mono (wpS_forRange (I:=λy c m=>cL st m /\ ∃o i j p q,c=(pq none (pq o (pq i (pq j (pq p q)))))/\MI (kl κ) (a.toList++b.toList) o.toList (a.toList.drop i) (b.toList.drop j)/\i+1<a.size/\j<b.size/\x+1+y<=i+j)
   (Q:=λc m=>cL st m/\((∃r,c.1=some r/\Fin (kl κ) (a.toList++b.toList) r.toList) \/ ∃o i j p q,c=(pq none (pq o (pq i (pq j (pq p q)))))/\MI (kl κ) (a.toList++b.toList) o.toList (a.toList.drop i) (b.toList.drop j)/\i+1<a.size/\j<b.size/\x+2<=i+j)) ?_ ?_ (L,o,i,j,0,0,7,M,C,t,K)) ?_)
  ·rintro y c a1 _ f ⟨u,o,i,j,p,q,rfl,M,C,t,K⟩;refine wpS_bind (bj t (wpS_bind (bj (show i<a.size by lia) (wpS_bind (Gy hO (u.kind.trans hk) (kB j t) (kA i ⋯) ?_)))));cases hv:κ.blt (ky κ b[j]) (ky κ (a[i]'(by omega)))
   ·refine aQ (λz=>absurd z ∅) λ_=>?_;refine wpS_bind (bj (show i<a.size by lia) ?_);have R:=M.pushL (show i<a.size by lia) λy f=>by
     obtain⟨d,hd,rfl⟩:=fB f;have q:=sB j j (j+d) (aac _) ⋯ hd;rw[bM t,bM hd]at q;exact dU hv q
    refine aQ (λz=>wpS_pure (u,.inl (5,R.fb (B _ _ (beq_iff_eq.mp z))))) λz=>?_;have z:i+1+1≠a.size:=λe=>z (beq_iff_eq.mpr e);exact aQ (λ_=>wpS_pure (u,.inr (_,i+1,j,_,5,R,9,t,9))) λ_=>wpS_pure (u,_,i+1,j,_,5,R,9,t,9)
   ·refine aQ (λ_=>?_) λz=>absurd rfl z;refine wpS_bind (bj t ?_);have R:=M.pushR t λy f=>by
     obtain⟨d,hd,rfl⟩:=fB f;have q:=sA i i (i+d) (aac _) ⋯ hd;rw[bM (show i<a.size by lia),bM hd]at q;exact dU (KeyOrd.kle_of_klt hv) q
    refine aQ (λz=>wpS_pure (u,.inl (5,R.fa λx _ y f=>?_))) λz=>?_
    ·have z:j+1=b.size:=beq_iff_eq.mp z;rw[jc ⋯]at f;cases f
    have z:j+1≠b.size:=λe=>z (beq_iff_eq.mpr e);exact aQ (λ_=>wpS_pure (u,.inr (_,i,j+1,_,5,R,C,9,9))) λ_=>wpS_pure (u,_,i,j+1,_,5,R,C,9,9)
  ·rintro c a1 ⟨u,o,i,j,p,q,rfl,M,C,t,K⟩;exact(u,.inr (o,i,j,p,q,7,M,C,t,9))
  ·rintro c a1 ⟨u,hc⟩;rcases hc with ⟨r,Z,hF⟩|⟨o,i,j,p,q,rfl,M,C,t,K⟩
   ·obtain⟨c1,c2⟩:=c;cases Z;exact wpS_pure (u,r,7,hF)
   refine wpS_bind (wpS_lift (wpAny_rule (7,3)));refine wpS_bind (wpS_mono (wpS_forRange (I:=λy c m=>cL st m /\ ∃o i j g p q,c=(pq none (pq o (pq i (pq j (pq g (pq p q))))))/\MI (kl κ) (a.toList++b.toList) o.toList (a.toList.drop i) (b.toList.drop j)/\i+1<a.size/\j<b.size/\x+2<=i+j)
    (Q:=λc m=>cL st m/\((∃r,c.1=some r/\Fin (kl κ) (a.toList++b.toList) r.toList) \/ ∃o i j g p q,c=(pq none (pq o (pq i (pq j (pq g (pq p q))))))/\MI (kl κ) (a.toList++b.toList) o.toList (a.toList.drop i) (b.toList.drop j)/\i+1<a.size/\j<b.size/\x+2<=i+j)) ?_ ?_ (u,o,i,j,_,p,q,7,M,C,t,K)) ?_)
   ·rintro y c a0 _ f ⟨W,o,i,j,g,p,q,rfl,M,C,t,K⟩;refine aQ (λ_=>?_) λ_=>?_
    all_goals
     refine wpS_bind (ux W λUW v=>?_);refine wpS_bind (bj t (wpS_bind (j7 (base:=i) (n:=a.size-i) (hint:=0) hO (v.kind.trans hk) hA (kB j t) (by rw[show i+(a.size-i)=a.size by lia];exact sA i) ⋯ ⋯ λk a6 a4 a3=>?_)));have M1:MI (kl κ) (a.toList++b.toList) (o++a.extract i (i+k)).toList (a.toList.drop (i+k)) (b.toList.drop j):=M.moreL λx F y f=>by
      obtain⟨d,hd,J,rfl⟩:=jZ F;obtain⟨e,O,rfl⟩:=fB f;have D:=a4 d hd;rw[bM J]at D;have N:=sB j j (j+e) (aac _) ⋯ O;rw[bM t,bM O]at N;exact dU D N
     have B1:∀x∈a.toList.drop (i+k),kl κ b[j] x:=λx F=>by
      obtain⟨d,hd,rfl⟩:=fB F;have D:=a3 (k+d) ⋯ ⋯;rw[show i+(k+d)=i+k+d by lia,bM hd]at D;exact KeyOrd.kle_of_klt D
     refine aQ (λa5=>aQ (λz=>wpS_pure (v,.inl (5,M1.fb (B _ _ (beq_iff_eq.mp z))))) λz1=>aQ (λz=>wpS_pure (v,.inl (5,M1.fa λx F=>?_))) λz2=>?_) λa5=>?_
     ·have z:i+k=a.size:=beq_iff_eq.mp z;rw[jc ⋯]at F;cases F
     ·have z1:i+k+1≠a.size:=λe=>z1 (beq_iff_eq.mpr e);have z2:i+k≠a.size:=λe=>z2 (beq_iff_eq.mpr e);refine wpS_bind (bj t ?_);have P:=M1.pushR t B1;refine aQ (λz=>wpS_pure (v,.inl (5,P.fa λx _ y f=>?_))) λY=>?_
      ·have z:j+1=b.size:=beq_iff_eq.mp z;rw[jc ⋯]at f;cases f
      have Y:j+1≠b.size:=λe=>Y (beq_iff_eq.mpr e);refine wpS_bind (bj (show i+k<a.size by lia) (wpS_bind (gm (base:=j+1) (n:=b.size-(j+1)) (hint:=0) hO (v.kind.trans hk) hB (kA (i+k) ⋯) (by rw[show j+1+(b.size-(j+1))=b.size by lia];exact sB _) ⋯ ⋯ λl a2 U T=>?_)));have M4:=P.moreR (k:=l) λy f x F=>by
       obtain⟨d,hd,J,rfl⟩:=jZ f;obtain⟨e,O,rfl⟩:=fB F;have D:=U d hd;rw[bM J]at D;have N:=sA (i+k) (i+k) (i+k+e) (aac _) ⋯ O;rw[bM (show i+k<a.size by lia),bM O]at N;exact dU (KeyOrd.kle_of_klt D) N
      have A4:∀y∈b.toList.drop (j+1+l),kl κ (a[i+k]'(by omega)) y:=λy f=>by
       obtain⟨d,hd,rfl⟩:=fB f;have D:=T (l+d) ⋯ ⋯;rw[show j+1+(l+d)=j+1+l+d by lia,bM hd]at D;exact D
      refine aQ (λV=>aQ (λz=>wpS_pure (v,.inl (5,M4.fa λx _ y f=>?_))) λX=>?_) λV=>?_
      ·have z:j+1+l=b.size:=beq_iff_eq.mp z;rw[jc ⋯]at f;cases f
      ·have X:j+1+l≠b.size:=λe=>X (beq_iff_eq.mpr e);refine wpS_bind (bj (show i+k<a.size by lia) ?_);have G:=M4.pushL (show i+k<a.size by lia) A4;refine aQ (λz=>wpS_pure (v,.inl (5,G.fb (B _ _ (beq_iff_eq.mp z))))) λH=>?_;have H:i+k+1+1≠a.size:=λe=>H (beq_iff_eq.mpr e);exact aQ (λ_=>wpS_pure (v,.inr (_,i+k+1,j+1+l,8,5,G,9,9,9))) λ_=>wpS_pure (v,_,i+k+1,j+1+l,8,5,G,9,9,9)
      ·have:l=0:=by lia
       subst this;refine wpS_bind (bj (show i+k<a.size by lia) ?_);have G:=P.pushL (show i+k<a.size by lia) A4;refine aQ (λz=>wpS_pure (v,.inl (5,G.fb (B _ _ (beq_iff_eq.mp z))))) λH=>?_;have H:i+k+1+1≠a.size:=λe=>H (beq_iff_eq.mpr e);exact aQ (λ_=>wpS_pure (v,.inr (_,i+k+1,j+1,8,5,G,9,9,9))) λ_=>wpS_pure (v,_,i+k+1,j+1,8,5,G,9,9,9)
     ·have:k=0:=by lia
      subst this;refine wpS_bind (bj t ?_);have P:=M.pushR t B1;refine aQ (λz=>wpS_pure (v,.inl (5,P.fa λx _ y f=>?_))) λY=>?_
      ·have z:j+1=b.size:=beq_iff_eq.mp z;rw[jc ⋯]at f;cases f
      have Y:j+1≠b.size:=λe=>Y (beq_iff_eq.mpr e);refine wpS_bind (bj (show i<a.size by lia) (wpS_bind (gm (base:=j+1) (n:=b.size-(j+1)) (hint:=0) hO (v.kind.trans hk) hB (kA (i) ⋯) (by rw[show j+1+(b.size-(j+1))=b.size by lia];exact sB _) ⋯ ⋯ λl a2 U T=>?_)));have M4:=P.moreR (k:=l) λy f x F=>by
       obtain⟨d,hd,J,rfl⟩:=jZ f;obtain⟨e,O,rfl⟩:=fB F;have D:=U d hd;rw[bM J]at D;have N:=sA (i) (i) (i+e) (aac _) ⋯ O;rw[bM (show i<a.size by lia),bM O]at N;exact dU (KeyOrd.kle_of_klt D) N
      have A4:∀y∈b.toList.drop (j+1+l),kl κ (a[i]'(by omega)) y:=λy f=>by
       obtain⟨d,hd,rfl⟩:=fB f;have D:=T (l+d) ⋯ ⋯;rw[show j+1+(l+d)=j+1+l+d by lia,bM hd]at D;exact D
      refine aQ (λV=>aQ (λz=>wpS_pure (v,.inl (5,M4.fa λx _ y f=>?_))) λX=>?_) λV=>?_
      ·have z:j+1+l=b.size:=beq_iff_eq.mp z;rw[jc ⋯]at f;cases f
      ·have X:j+1+l≠b.size:=λe=>X (beq_iff_eq.mpr e);refine wpS_bind (bj (show i<a.size by lia) ?_);have G:=M4.pushL (show i<a.size by lia) A4;refine aQ (λz=>wpS_pure (v,.inl (5,G.fb (B _ _ (beq_iff_eq.mp z))))) λH=>?_;have H:i+1+1≠a.size:=λe=>H (beq_iff_eq.mpr e);exact aQ (λ_=>wpS_pure (v,.inr (_,i+1,j+1+l,8,5,G,9,9,9))) λ_=>wpS_pure (v,_,i+1,j+1+l,8,5,G,9,9,9)
      ·have:l=0:=by lia
       subst this;refine wpS_bind (bj (show i<a.size by lia) ?_);have G:=P.pushL (show i<a.size by lia) A4;refine aQ (λz=>wpS_pure (v,.inl (5,G.fb (B _ _ (beq_iff_eq.mp z))))) λH=>?_;have H:i+1+1≠a.size:=λe=>H (beq_iff_eq.mpr e);exact aQ (λ_=>wpS_pure (v,.inr (_,i+1,j+1,8,5,G,9,9,9))) λ_=>wpS_pure (v,_,i+1,j+1,8,5,G,9,9,9)
   ·rintro c a0 ⟨W,o,i,j,g,p,q,rfl,M,C,t,K⟩;exact(W,.inr (o,i,j,g,p,q,7,M,C,t,K))
   ·rintro c a0 ⟨W,hc⟩;rcases hc with ⟨r,Z,hF⟩|⟨o,i,j,g,p,q,rfl,M,C,t,K⟩
    ·obtain⟨c1,c2⟩:=c;cases Z;exact wpS_pure (W,r,7,hF)
    exact wpS_bind (ux W λUW v=>wpS_pure (v,o,i,j,5,M,C,t,9))
 ·rintro c S ⟨L,o,i,j,g,rfl,M,C,t,K⟩;exfalso;lia
 ·rintro c S ⟨L,r,Z,hF⟩;obtain⟨c1,c2⟩:=c;cases Z;exact wpS_pure (h r S L hF)
end
def vK:Array Keyed->Array Keyed->StateT SortSt Sem (Array Keyed):=sortPriv% PySem.Builtin.mergeHi
def mhi(a b:Array Keyed):StateT SortSt Sem (Array Keyed):=do
 rule "list.sort.merge-hi"
 let t:=a.size+b.size
 let c (o:Array Keyed) (m n:Nat):=a.extract 0 m++b.extract 0 n++o.reverse
 let d (o:Array Keyed) (m n:Nat):=b.extract 0 n++a.extract 0 m++o.reverse
 let mut m:=a.size-1
 let mut n:=b.size
 let mut o:Array Keyed:=#[<-elem' a m]
 if m==0 then return c o m n
 if n==1 then return d o m n
 let mut g:=gallopOf (<-get)
 for _ in [0:t] do
  let mut p:=0
  let mut q:=0
  for _ in [0:t] do
   let some v <-lt' (<-elem' b (n-1)) (<-elem' a (m-1)) | return c o m n
   if v then
    m:=m-1;o:=o.push (<-elem' a m);p:=p+1;q:=0
    if m==0 then return c o m n
    if p >= g then break
   else
    n:=n-1;o:=o.push (<-elem' b n);q:=q+1;p:=0
    if n==1 then return d o m n
    if q >= g then break
  rule "list.sort.gallop"
  g:=g+1
  for _ in [0:t] do
   if g > 1 then g:=g-1
   setG g
   let some z <-gj false (<-elem' b (n-1)) a 0 m (m-1) | return c o m n
   let k:=m-z
   p:=k
   if k > 0 then
    o:=o++(a.extract z m).reverse;m:=z
    if m==0 then return c o m n
   n:=n-1;o:=o.push (<-elem' b n)
   if n==1 then return d o m n
   let some z <-gj true (<-elem' a (m-1)) b 0 n (n-1) | return c o m n
   let k:=n-z
   q:=k
   if k > 0 then
    o:=o++(b.extract z n).reverse;n:=z
    if n==1 then return d o m n
    if n==0 then return c o m n
   m:=m-1;o:=o.push (<-elem' a m)
   if m==0 then return c o m n
   if p<7&&q<7 then break
  g:=g+1
  setG g
 (unsupported "internal:list.sort.merge-bound" : StateT SortSt Sem (Array Keyed))
theorem BW(a b:Array Keyed):vK a b=mhi a b:=rfl
section
variable{κ:KeyKind}
def kr(κ:KeyKind)(x y:Keyed):Prop:=kl κ y x
abbrev hd(xs:Array Keyed)(m:Nat):List Keyed:=(xs.toList.take m).reverse
theorem GP{xs:Array Keyed}{m:Nat}(b:1<=m)(a:m<=xs.size):hd xs m=[xs[m-1]'(by omega)]++hd xs (m-1):=by
 obtain⟨k,rfl⟩:∃k,m=k+1:=(m-1,9);unfold hd;rw[acC,aad (by rw[aae];lia),adw];simp
theorem Mj{xs:Array Keyed}{m :Nat}(hz:n<=m):hd xs m=((xs.toList.take m).drop n).reverse++hd xs n:=by
 unfold hd;rw[<-agC,show xs.toList.take n=(xs.toList.take m).take n by rw[ahc,afb hz],aeD]
theorem eG{xs:Array Keyed}{m:Nat}{x:Keyed}(h:x∈hd xs m):∃d,d<m /\ ∃hd:d<xs.size,x=xs[d]:=by
 obtain⟨d,a,e⟩:=agg (ahe.mp h);rw[aaL,aae]at a;exact(d,9,9,by rw[<-e,ag8,adw])
theorem zW{xs:Array Keyed}{m :Nat}{x:Keyed}(h:x∈((xs.toList.take m).drop n).reverse):∃d,n<=d/\d<m /\ ∃hd:d<xs.size,x=xs[d]:=by
 obtain⟨d,a,e⟩:=agg (ahe.mp h);rw[ab3,aaL,aae]at a;exact(n+d,9,9,9,by rw[<-e,agO,ag8,adw])
section
variable{le:Keyed->Keyed->Prop}{L:List Keyed}{o a b:Array Keyed}{m z:Nat}{X:List Keyed}
theorem MI.popL(h:MI le L o.toList (hd a m) X)(g:1<=m)(f:m<=a.size)(e:∀x∈X,le (a[m-1]'(by omega)) x):MI le L (o.push (a[m-1]'(by omega))).toList (hd a (m-1)) X:=by
 rw[GP g f]at h;rw[agp];exact h.left λy d x c=>by rw[aat.mp d];exact e x c
theorem MI.popR(h:MI le L o.toList X (hd b n))(g:1<=n)(f:n<=b.size)(e:∀x∈X,le (b[n-1]'(by omega)) x):MI le L (o.push (b[n-1]'(by omega))).toList X (hd b (n-1)):=by
 rw[GP g f]at h;rw[agp];exact h.right λy d x c=>by rw[aat.mp d];exact e x c
theorem An(xs:Array Keyed)(m z:Nat):(o++(xs.extract z m).reverse).toList=o.toList++((xs.toList.take m).drop z).reverse:=by
 rw[acK,ahB,agL,agq,<-List.drop_take]
theorem MI.cutL(h:MI le L o.toList (hd a m) X)(hz:z<=m)(c:∀y∈((a.toList.take m).drop z).reverse,∀x∈X,le y x):MI le L (o++(a.extract z m).reverse).toList (hd a z) X:=by
 rw[Mj hz]at h;rw[An];exact h.left c
theorem MI.cutR(h:MI le L o.toList X (hd b n))(hz:z<=n)(c:∀y∈((b.toList.take n).drop z).reverse,∀x∈X,le y x):MI le L (o++(b.extract z n).reverse).toList X (hd b z):=by
 rw[Mj hz]at h;rw[An];exact h.right c
theorem Gi{r:List Keyed}(h:Fin (kr κ) L r.reverse):Fin (kl κ) L r:=((ahT r).symm.trans h.1,ag1.mp h.2)
theorem kE(xs:Array Keyed)(m:Nat):(xs.extract 0 m).toList=xs.toList.take m:=by
 rw[agL,agq,ahb,agQ]
theorem MI.ha(h:MI (kr κ) L o.toList (hd a m) (hd b n))(c:∀y∈hd b n,∀x∈hd a m,kr κ y x):Fin (kl κ) L (a.extract 0 m++b.extract 0 n++o.reverse).toList:=by
 refine Gi ?_;rw[acK,acK,kE,kE,ahB,agC,aie,agC,<-aaQ];exact h.yx c
theorem MI.hb(h:MI (kr κ) L o.toList (hd a m) (hd b n))(c:∀x∈hd a m,∀y∈hd b n,kr κ x y):Fin (kl κ) L (b.extract 0 n++a.extract 0 m++o.reverse).toList:=by
 refine Gi ?_;rw[acK,acK,kE,kE,ahB,agC,aie,agC,<-aaQ];exact h.xy c
end
theorem FP{st:SortSt}{a b:Array Keyed}{Q:Array Keyed->SortSt->Prop}(hO:κ.OneLt)(hk:kindOf st=oneType')(hA:KeysOf κ a)(hB:KeysOf κ b)(sa:a.toList.Pairwise (kl κ))(sb:b.toList.Pairwise (kl κ))(na:0<a.size)(nb:0<b.size)
  (hf:∀x∈a.toList,kl κ b[0] x)(hl:∀y∈b.toList,kl κ y (a[a.size-1]'(by omega)))(h:∀r t,cL st t->Fin (kl κ) (a.toList++b.toList) r.toList->Q r t):wpS (model prog w) A E s (vK a b) Q st:=by
 have kA:∀i (hi:i<a.size),∃x,κ.keyOf a[i].1=some x:=λi hi=>hA _ (adu _);have kB:∀i (hi:i<b.size),∃x,κ.keyOf b[i].1=some x:=λi hi=>hB _ (adu _);have first:∀m,∀x∈hd a m,∀y∈hd b 1,kr κ x y:=λm x J y F=>by
  obtain⟨d,a9,a8,rfl⟩:=eG F;have:d=0:=by lia
  subst this;exact hf x (agK (ahe.mp J))
 have sA:=uB sa (lo:=0) (aac _);have sB:=uB sb (lo:=0) (aac _);have YZ:∀d e (hd:d<a.size) (T:e<a.size),d<=e->kl κ a[d] a[e]:=λd e hd T a1=>by
  have q:=sA d e (aaF _) a1 T;rw[bM hd,bM T]at q;exact q
 have a4:∀d e (hd:d<b.size) (T:e<b.size),d<=e->kl κ b[d] b[e]:=λd e hd T a1=>by
  have q:=sB d e (aaF _) a1 T;rw[bM hd,bM T]at q;exact q
 have a7:∀y∈hd b b.size,∀x∈hd a 0,kr κ y x:=λy _ x J=>by
  obtain⟨d,hd,_⟩:=eG J;lia
 have S:∀n,∀y∈hd b n,∀x∈hd a 0,kr κ y x:=λn y _ x J=>by
  obtain⟨d,hd,_⟩:=eG J;lia
 have zB:∀m,∀y∈hd b 0,∀x∈hd a m,kr κ y x:=λm y F x _=>by
  obtain⟨d,hd,_⟩:=eG F;lia
 have M0:MI (kr κ) (a.toList++b.toList) (#[a[a.size-1]'(by omega)]:Array Keyed).toList (hd a (a.size-1)) (hd b b.size):=by
  have ea:a.toList.take a.size=a.toList:=aak (by rw[aae];exact aac _);have eb:b.toList.take b.size=b.toList:=aak (by rw[aae];exact aac _);have M:MI (kr κ) (a.toList++b.toList) (#[]:Array Keyed).toList (hd a a.size) (hd b b.size):=by
   refine(3,.nil,3,3,λo ho=>(ahf ho).elim,λo ho=>(ahf ho).elim)
   ·show af9 ([]++hd a a.size++hd b b.size) _;unfold hd;rw[ea,eb];exact(ahT _).append (ahT _)
   ·unfold hd;rw[ea];exact ag1.mpr sa
   ·unfold hd;rw[eb];exact ag1.mpr sb
  exact M.popL na (aac _) λy F=>hl y (by have:=ahe.mp F;rw[eb]at this;exact this)
 rw[BW];unfold mhi;refine wpS_bind (wpS_lift (wpAny_rule (7,3)));refine wpS_bind (bj (show a.size-1<a.size by lia) ?_);refine aQ (λc=>wpS_pure (h _ _ (cL.refl _) (M0.ha ?_))) λc1=>?_
 ·have c:a.size-1=0:=beq_iff_eq.mp c;rw[c];exact S _
 refine aQ (λc=>wpS_pure (h _ _ (cL.refl _) (M0.hb ?_))) λc2=>?_
 ·have c:b.size=1:=beq_iff_eq.mp c;rw[c];exact first _
 have c1:a.size-1≠0:=λz=>c1 (beq_iff_eq.mpr z);have c2:b.size≠1:=λz=>c2 (beq_iff_eq.mpr z);refine wpS_bind (wpS_get ?_);refine wpS_bind (wpS_mono (wpS_forRange (I:=λx c t=>cL st t /\ ∃m n o g,c=(pq none (pq m (pq n (pq o g))))/\MI (kr κ) (a.toList++b.toList) o.toList (hd a m) (hd b n)/\1<=m/\m<=a.size/\2<=n/\n<=b.size/\x+1+(m+n)<=a.size+b.size)
  (Q:=λc t=>cL st t /\ ∃r,c.1=some r/\Fin (kl κ) (a.toList++b.toList) r.toList) ?_ ?_ (cL.refl _,a.size-1,b.size,_,5,M0,9,9,9,9,9)) ?_)
 ·rintro x c X _ J ⟨R,m,n,o,g,rfl,M,k,j,u,f,G⟩;refine wpS_bind (wpS_mono (wpS_forRange (I:=λy c t=>cL st t /\ ∃m n o p q,c=(pq none (pq m (pq n (pq o (pq p q)))))/\MI (kr κ) (a.toList++b.toList) o.toList (hd a m) (hd b n)/\1<=m/\m<=a.size/\2<=n/\n<=b.size/\x+1+y+(m+n)<=a.size+b.size)
   (Q:=λc t=>cL st t/\((∃r,c.1=some r/\Fin (kl κ) (a.toList++b.toList) r.toList) \/ ∃m n o p q,c=(pq none (pq m (pq n (pq o (pq p q)))))/\MI (kr κ) (a.toList++b.toList) o.toList (hd a m) (hd b n)/\1<=m/\m<=a.size/\2<=n/\n<=b.size/\x+2+(m+n)<=a.size+b.size)) ?_ ?_ (R,m,n,o,0,0,7,M,k,j,u,f,G)) ?_)
  ·rintro y c a3 _ F ⟨C,m,n,o,p,q,rfl,M,k,j,u,f,G⟩;refine wpS_bind (bj (show n-1<b.size by lia) (wpS_bind (bj (show m-1<a.size by lia) (wpS_bind (Gy hO (C.kind.trans hk) (kB (n-1) ⋯) (kA (m-1) ⋯) ?_)))));cases hv:κ.blt (ky κ (b[n-1]'(by omega))) (ky κ (a[m-1]'(by omega)))
   ·refine aQ (λz=>absurd z ∅) λ_=>?_;refine wpS_bind (bj (show n-1<b.size by lia) ?_);have W:=M.popR ⋯ f λx J=>by
     obtain⟨d,B,v,rfl⟩:=eG J;exact dU (YZ d (m-1) v ⋯ ⋯) hv
    refine aQ (λz=>wpS_pure (C,.inl (5,W.hb ?_))) λz=>?_
    ·have z:n-1=1:=beq_iff_eq.mp z;rw[z];exact first _
    have z:n-1≠1:=λe=>z (beq_iff_eq.mpr e);exact aQ (λ_=>wpS_pure (C,.inr (m,n-1,8,5,W,k,j,9,9,9))) λ_=>wpS_pure (C,m,n-1,8,5,W,k,j,9,9,9)
   ·refine aQ (λ_=>?_) λz=>absurd rfl z;refine wpS_bind (bj (show m-1<a.size by lia) ?_);have W:=M.popL k j λy F=>by
     obtain⟨d,B,v,rfl⟩:=eG F;exact dU (a4 d (n-1) v ⋯ ⋯) (KeyOrd.kle_of_klt hv)
    refine aQ (λz=>wpS_pure (C,.inl (5,W.ha ?_))) λz=>?_
    ·have z:m-1=0:=beq_iff_eq.mp z;rw[z];exact S _
    have z:m-1≠0:=λe=>z (beq_iff_eq.mpr e);exact aQ (λ_=>wpS_pure (C,.inr (m-1,n,8,5,W,9,9,u,f,9))) λ_=>wpS_pure (C,m-1,n,8,5,W,9,9,u,f,9)
  ·rintro c a3 ⟨C,m,n,o,p,q,rfl,M,k,j,u,f,G⟩;exact(C,.inr (m,n,o,p,q,7,M,k,j,u,f,9))
  ·rintro c a3 ⟨C,hc⟩;rcases hc with ⟨r,hr,hF⟩|⟨m,n,o,p,q,rfl,M,k,j,u,f,G⟩
   ·obtain⟨c1,c2⟩:=c;cases hr;exact wpS_pure (C,r,7,hF)
   refine wpS_bind (wpS_lift (wpAny_rule (7,3)));refine wpS_bind (wpS_mono (wpS_forRange (I:=λy c t=>cL st t /\ ∃m n o g p q,c=(pq none (pq m (pq n (pq o (pq g (pq p q))))))/\MI (kr κ) (a.toList++b.toList) o.toList (hd a m) (hd b n)/\1<=m/\m<=a.size/\2<=n/\n<=b.size/\x+2+(m+n)<=a.size+b.size)
    (Q:=λc t=>cL st t/\((∃r,c.1=some r/\Fin (kl κ) (a.toList++b.toList) r.toList) \/ ∃m n o g p q,c=(pq none (pq m (pq n (pq o (pq g (pq p q))))))/\MI (kr κ) (a.toList++b.toList) o.toList (hd a m) (hd b n)/\1<=m/\m<=a.size/\2<=n/\n<=b.size/\x+2+(m+n)<=a.size+b.size)) ?_ ?_ (C,m,n,o,_,p,q,7,M,k,j,u,f,G)) ?_)
   ·rintro y c a2 _ F ⟨U8,m,n,o,g,p,q,rfl,M,k,j,u,f,G⟩;refine aQ (λ_=>?_) λ_=>?_
    all_goals
     refine wpS_bind (ux U8 λUW D=>?_);refine wpS_bind (bj (show n-1<b.size by lia) (wpS_bind (j7 (base:=0) (n:=m) (hint:=m-1) hO (D.kind.trans hk) hA (kB (n-1) ⋯) (by rw[agv];exact uB sa j) ⋯ ⋯ λz a5 P X7=>?_)));have P:∀d (hd:d<a.size),d<z->kl κ a[d] (b[n-1]'(by omega)):=λd hd a6=>by
      have q:=P d a6;rw[agv,bM hd]at q;exact q
     have X7:∀d (hd:d<a.size),z<=d->d<m->kl κ (b[n-1]'(by omega)) a[d]:=λd hd B v=>by
      have q:=X7 d B v;rw[agv,bM hd]at q;exact KeyOrd.kle_of_klt q
     have M1:MI (kr κ) (a.toList++b.toList) (o++(a.extract z m).reverse).toList (hd a z) (hd b n):=M.cutL a5 λx J y F=>by
      obtain⟨d,B,v,h3,rfl⟩:=zW J;obtain⟨e,h4,h5,rfl⟩:=eG F;exact dU (a4 e (n-1) h5 ⋯ ⋯) (X7 d h3 B v)
     refine aQ (λZ=>aQ (λc=>wpS_pure (D,.inl (5,M1.ha ?_))) λc3=>?_) λZ=>?_
     ·have c:z=0:=beq_iff_eq.mp c;rw[c];exact S _
     ·have c3:z≠0:=λe=>c3 (beq_iff_eq.mpr e);refine wpS_bind (bj (show n-1<b.size by lia) ?_);have V:=M1.popR ⋯ f λx J=>by
       obtain⟨d,B,v,rfl⟩:=eG J;exact P d v B
      refine aQ (λc=>wpS_pure (D,.inl (5,V.hb ?_))) λc4=>?_
      ·have c:n-1=1:=beq_iff_eq.mp c;rw[c];exact first _
      have c4:n-1≠1:=λe=>c4 (beq_iff_eq.mpr e);refine wpS_bind (bj (show z-1<a.size by lia) (wpS_bind (gm (base:=0) (n:=n-1) (hint:=n-1-1) hO (D.kind.trans hk) hB (kA (z-1) ⋯) (by rw[agv];exact uB sb ⋯) ⋯ ⋯ λl Y H L=>?_)));have H:∀d (hd:d<b.size),d<l->kl κ b[d] (a[z-1]'(by omega)):=λd hd a0=>by
       have q:=H d a0;rw[agv,bM hd]at q;exact KeyOrd.kle_of_klt q
      have L:∀d (hd:d<b.size),l<=d->d<n-1->kl κ (a[z-1]'(by omega)) b[d]:=λd hd B v=>by
       have q:=L d B v;rw[agv,bM hd]at q;exact q
      have U:=V.cutR Y λy F x J=>by
       obtain⟨d,B,v,h3,rfl⟩:=zW F;obtain⟨e,h4,h5,rfl⟩:=eG J;exact dU (YZ e (z-1) h5 ⋯ ⋯) (L d h3 B v)
      refine aQ (λN=>aQ (λc=>wpS_pure (D,.inl (5,U.hb ?_))) λc6=>aQ (λc=>wpS_pure (D,.inl (5,U.ha ?_))) λc7=>?_) λN=>?_
      ·have c:l=1:=beq_iff_eq.mp c;rw[c];exact first _
      ·have c:l=0:=beq_iff_eq.mp c;rw[c];exact zB _
      ·have c6:l≠1:=λe=>c6 (beq_iff_eq.mpr e);have c7:l≠0:=λe=>c7 (beq_iff_eq.mpr e);refine wpS_bind (bj (show z-1<a.size by lia) ?_);have K:=U.popL ⋯ ⋯ λy F=>by obtain⟨d,B,v,rfl⟩:=eG F;exact H d v B
       refine aQ (λc=>wpS_pure (D,.inl (5,K.ha ?_))) λO=>?_
       ·have c:z-1=0:=beq_iff_eq.mp c;rw[c];exact S _
       have O:z-1≠0:=λe=>O (beq_iff_eq.mpr e);exact aQ (λ_=>wpS_pure (D,.inr (z-1,l,8,_,5,K,9,9,9,9,9))) λ_=>wpS_pure (D,z-1,l,8,_,5,K,9,9,9,9,9)
      ·have N:¬n-1-l > 0:=N;have:l=n-1:=by lia
       subst this;refine wpS_bind (bj (show z-1<a.size by lia) ?_);have K:=V.popL ⋯ ⋯ λy F=>by obtain⟨d,B,v,rfl⟩:=eG F;exact H d v B
       refine aQ (λc=>wpS_pure (D,.inl (5,K.ha ?_))) λO=>?_
       ·have c:z-1=0:=beq_iff_eq.mp c;rw[c];exact S _
       have O:z-1≠0:=λe=>O (beq_iff_eq.mpr e);exact aQ (λ_=>wpS_pure (D,.inr (z-1,(n-1),8,_,5,K,9,9,9,9,9))) λ_=>wpS_pure (D,z-1,(n-1),8,_,5,K,9,9,9,9,9)
     ·have Z:¬m-z > 0:=Z;have:z=m:=by lia
      subst this;refine wpS_bind (bj (show n-1<b.size by lia) ?_);have V:=M.popR ⋯ f λx J=>by
       obtain⟨d,B,v,rfl⟩:=eG J;exact P d v B
      refine aQ (λc=>wpS_pure (D,.inl (5,V.hb ?_))) λc4=>?_
      ·have c:n-1=1:=beq_iff_eq.mp c;rw[c];exact first _
      have c4:n-1≠1:=λe=>c4 (beq_iff_eq.mpr e);refine wpS_bind (bj (show z-1<a.size by lia) (wpS_bind (gm (base:=0) (n:=n-1) (hint:=n-1-1) hO (D.kind.trans hk) hB (kA (z-1) ⋯) (by rw[agv];exact uB sb ⋯) ⋯ ⋯ λl Y H L=>?_)));have H:∀d (hd:d<b.size),d<l->kl κ b[d] (a[z-1]'(by omega)):=λd hd a0=>by
       have q:=H d a0;rw[agv,bM hd]at q;exact KeyOrd.kle_of_klt q
      have L:∀d (hd:d<b.size),l<=d->d<n-1->kl κ (a[z-1]'(by omega)) b[d]:=λd hd B v=>by
       have q:=L d B v;rw[agv,bM hd]at q;exact q
      have U:=V.cutR Y λy F x J=>by
       obtain⟨d,B,v,h3,rfl⟩:=zW F;obtain⟨e,h4,h5,rfl⟩:=eG J;exact dU (YZ e (z-1) h5 ⋯ ⋯) (L d h3 B v)
      refine aQ (λN=>aQ (λc=>wpS_pure (D,.inl (5,U.hb ?_))) λc6=>aQ (λc=>wpS_pure (D,.inl (5,U.ha ?_))) λc7=>?_) λN=>?_
      ·have c:l=1:=beq_iff_eq.mp c;rw[c];exact first _
      ·have c:l=0:=beq_iff_eq.mp c;rw[c];exact zB _
      ·have c6:l≠1:=λe=>c6 (beq_iff_eq.mpr e);have c7:l≠0:=λe=>c7 (beq_iff_eq.mpr e);refine wpS_bind (bj (show z-1<a.size by lia) ?_);have K:=U.popL ⋯ ⋯ λy F=>by obtain⟨d,B,v,rfl⟩:=eG F;exact H d v B
       refine aQ (λc=>wpS_pure (D,.inl (5,K.ha ?_))) λO=>?_
       ·have c:z-1=0:=beq_iff_eq.mp c;rw[c];exact S _
       have O:z-1≠0:=λe=>O (beq_iff_eq.mpr e);exact aQ (λ_=>wpS_pure (D,.inr (z-1,l,8,_,5,K,9,9,9,9,9))) λ_=>wpS_pure (D,z-1,l,8,_,5,K,9,9,9,9,9)
      ·have N:¬n-1-l > 0:=N;have:l=n-1:=by lia
       subst this;refine wpS_bind (bj (show z-1<a.size by lia) ?_);have K:=V.popL ⋯ ⋯ λy F=>by obtain⟨d,B,v,rfl⟩:=eG F;exact H d v B
       refine aQ (λc=>wpS_pure (D,.inl (5,K.ha ?_))) λO=>?_
       ·have c:z-1=0:=beq_iff_eq.mp c;rw[c];exact S _
       have O:z-1≠0:=λe=>O (beq_iff_eq.mpr e);exact aQ (λ_=>wpS_pure (D,.inr (z-1,(n-1),8,_,5,K,9,9,9,9,9))) λ_=>wpS_pure (D,z-1,(n-1),8,_,5,K,9,9,9,9,9)
   ·rintro c a2 ⟨U8,m,n,o,g,p,q,rfl,M,k,j,u,f,G⟩;exact(U8,.inr (m,n,o,g,p,q,7,M,k,j,u,f,G))
   ·rintro c a2 ⟨U8,hc⟩;rcases hc with ⟨r,hr,hF⟩|⟨m,n,o,g,p,q,rfl,M,k,j,u,f,G⟩
    ·obtain⟨c1,c2⟩:=c;cases hr;exact wpS_pure (U8,r,7,hF)
    exact wpS_bind (ux U8 λUW D=>wpS_pure (D,m,n,o,5,M,k,j,u,f,9))
 ·rintro c X ⟨R,m,n,o,g,rfl,M,k,j,u,f,G⟩;exfalso;lia
 ·rintro c X ⟨R,r,hr,hF⟩;obtain⟨c1,c2⟩:=c;cases hr;exact wpS_pure (h r X R hF)
end
theorem Bl(i:Nat):mergeAt' i=(do
 let u <-get
 let (pq (some (pq sa (pq m pw))) (some (pq sb (pq n _)))):=(pq ((pendingOf u)[i]?) ((pendingOf u)[i+1]?)) | unsupported "internal:list.sort.pending"
 set (setPending u (((pendingOf u).setIfInBounds i (pq sa (pq (m+n) pw))).eraseIdxIfInBounds (i+1)))
 let some k <-gj false (<-elem' (arrOf u) sb) (arrOf u) sa m 0|return false
 let (pq sa m):=(pq (sa+k) (m-k))
 if m==0 then return true
 let some n <-gj true (<-elem' (arrOf u) (sa+m-1)) (arrOf u) sb n (n-1) | return false
 if n==0 then return true
 let x:=(arrOf u).extract sa sb
 let y:=(arrOf u).extract sb (sb+n)
 let r <-if m<=n then vR x y else vK x y
 modify λv=>setArr v (r.toList.zipIdx.foldl (λc (p,j)=>c.setIfInBounds (sa+j) p) (arrOf v))
 return (failedOf (<-get)).isNone):=rfl
def wr(xs:Array Keyed)(base:Nat)(r:List Keyed):Array Keyed:=r.zipIdx.foldl (λc (p,j)=>c.setIfInBounds (base+j) p) xs
theorem Pj(base:Nat):∀(r:List Keyed) (n:Nat) (xs:Array Keyed),base+n+r.length<=xs.size->((r.zipIdx n).foldl (λc (p,j)=>c.setIfInBounds (base+j) p) xs).size=xs.size /\ ∀t:Nat,((r.zipIdx n).foldl (λc (p,j)=>c.setIfInBounds (base+j) p) xs)[t]?=if base+n<=t/\t<base+n+r.length then r[t-(base+n)]? else xs[t]?
 |[],n,xs,_=>(7,λt=>by rw[if_neg (by rw[aiR];lia)];rfl)
 |p::r,n,xs,h=>by
  rw[aaM]at h;have a:=Pj base r (n+1) (xs.setIfInBounds (base+n) p) (by rw[ahU];lia);rw[List.zipIdx_cons,aiP];refine(a.1.trans ahU,λt=>(a.2 t).trans ?_);rw[aaM];by_cases d:t=base+n
  ·subst d;rw[if_neg ⋯,if_pos ⋯,ag6,Array.getElem?_setIfInBounds_self_of_lt ⋯];rfl
  by_cases b:base+(n+1)<=t/\t<base+(n+1)+r.length
  ·rw[if_pos b,if_pos ⋯,show t-(base+n)=t-(base+(n+1))+1 by lia,ahY]
  ·rw[if_neg b,if_neg ⋯,Array.getElem?_setIfInBounds_ne ⋯]
theorem DX{xs:Array Keyed}{base:Nat}{r:List Keyed}(h:base+r.length<=xs.size)(t:Nat):(wr xs base r)[t]?=if base<=t/\t<base+r.length then r[t-base]? else xs[t]?:=(Pj base r 0 xs h).2 t
theorem N7{xs:Array Keyed}{base:Nat}{r:List Keyed}(h:base+r.length<=xs.size):(wr xs base r).toList=xs.toList.take base++r++xs.toList.drop (base+r.length):=by
 apply ag7;intro t;have a:(xs.toList.take base).length=base:=by rw[aaL,aae];lia
 rw[ab4,DX h];by_cases b:t<base
 ·rw[if_neg ⋯,aaQ,aaz ⋯,af6 b,ab4]
 by_cases c:t<base+r.length
 ·rw[if_pos ⋯,aaQ,aas ⋯,a,aaz ⋯]
 ·rw[if_neg ⋯,aas (by rw[aaf];lia),aaf,a,agw,ab4];congr 1;lia
section
variable{a₀:Array Keyed}{κ:KeyKind}{pd:Array (Nat×Nat×Nat)}
theorem NT{σ:Type}{M:Model}{st a:σ}{Q:PUnit->σ->Prop}(h:Q ⟨⟩ a):wpS M A E s (set a:StateT σ Sem PUnit) Q st:=by
 unfold wpS;rw[StateT.run_set];exact wpAny_pure (7,h)
theorem HQ{xs ys:Array Keyed}(h:KeysOf κ ys)(p:xs.Perm ys):KeysOf κ xs:=λq a=>h q ((agD.mp p).mem_iff.mp a)
theorem J4{xs:Array Keyed}(h:KeysOf κ xs){i:Nat}(b:i<xs.size):∃a,κ.keyOf xs[i].1=some a:=h _ (adu _)
theorem BL{xs:Array Keyed}{lo n:Nat}(h:Sd κ xs lo (lo+n))(d:lo+n<=xs.size):((xs.toList.drop lo).take n).Pairwise (kl κ):=by
 refine ab2.mpr λi j b a c=>?_;rw[aaL,ab3,aae]at b a;rw[ag8,agO,adw,ag8,agO,adw];have q:=h (lo+i) (lo+j) ⋯ ⋯ ⋯;rw[bM (show lo+i<xs.size by lia),bM (show lo+j<xs.size by lia)]at q;exact q
theorem Dn{st:SortSt}{i m f n S Xd:Nat}{Q:Bool->SortSt->Prop}(hO:κ.OneLt)(h0:KeysOf κ a₀)(C:TB a₀ pd st)(h1:pd[i]?=some (pq R (pq m S)))(h2:pd[i+1]?=some (pq f (pq n Xd)))(a6:f=R+m)(hm:1<=m)(hn:1<=n)(hz:f+n<=a₀.size)(G:Sd κ (arrOf st) R f)(F:Sd κ (arrOf st) f (f+n))
  (h:∀j,TB a₀ ((pd.setIfInBounds i (pq R (pq (m+n) S))).eraseIdxIfInBounds (i+1)) j->Sd κ (arrOf j) R (f+n)->(∀k:Nat,k<R\/f+n<=k->(arrOf j)[k]?=(arrOf st)[k]?)->Q true j):wpS (model prog w) A E s (mergeAt' i) Q st:=by
 have a8:=C.size;have N:KeysOf κ (arrOf st):=HQ h0 C.perm;rw[Bl];refine wpS_bind (wpS_get ?_);dsimp only;rw[C.pend,h1,h2];dsimp only;refine wpS_bind (NT ?_);have O:TB a₀ ((pd.setIfInBounds i (pq R (pq (m+n) S))).eraseIdxIfInBounds (i+1)) (setPending st ((pd.setIfInBounds i (pq R (pq (m+n) S))).eraseIdxIfInBounds (i+1))):=(C.perm,C.kind,C.failed,7);refine wpS_bind (bj (show f<(arrOf st).size by lia) (wpS_bind (j7 hO O.kind N (J4 N ⋯) (by rw[<-a6];exact G) ⋯ ⋯ λk b0 Z Y=>?_)));dsimp only;have ek:ky κ ((arrOf st)[f]'(by omega))=KK κ (arrOf st) f:=(bM _).symm;rw[ek]at Z Y;have I:∀t,R<=t->t<R+k->κ.kle (KK κ (arrOf st) t) (KK κ (arrOf st) f):=λt a b=>by
  have q:=Z (t-R) ⋯
  rwa [show R+(t-R)=t by lia]at q
 have a5:∀t,R+k<=t->t<f->κ.klt (KK κ (arrOf st) f) (KK κ (arrOf st) t):=λt a b=>by
  have q:=Y (t-R) ⋯ ⋯
  rwa [show R+(t-R)=t by lia]at q
 refine aQ (λc=>wpS_pure (h _ O (λt u a b d=>?_) λt _=>rfl)) λc=>?_
 ·have c:m-k=0:=beq_iff_eq.mp c;by_cases L:u<f
  ·exact G t u a b L
  by_cases o:t<f
  ·exact KeyOrd.kle_trans (I t a ⋯) (F f u (aac _) ⋯ d)
  ·exact F t u ⋯ b d
 have c:m-k≠0:=λe=>c (beq_iff_eq.mpr e);refine wpS_bind (bj (show R+k+(m-k)-1<(arrOf st).size by lia) (wpS_bind (gm hO O.kind N (J4 N ⋯) F ⋯ ⋯ λl a9 X W=>?_)));dsimp only;have el:ky κ ((arrOf st)[R+k+(m-k)-1]'(by omega))=KK κ (arrOf st) (f-1):=by
  rw[<-bM];congr 1;lia
 rw[el]at X W;have a2:∀t,f<=t->t<f+l->κ.klt (KK κ (arrOf st) t) (KK κ (arrOf st) (f-1)):=λt a b=>by
  have q:=X (t-f) ⋯
  rwa [show f+(t-f)=t by lia]at q
 have T:∀t,f+l<=t->t<f+n->κ.kle (KK κ (arrOf st) (f-1)) (KK κ (arrOf st) t):=λt a b=>by
  have q:=W (t-f) ⋯ ⋯
  rwa [show f+(t-f)=t by lia]at q
 refine aQ (λc=>wpS_pure (h _ O (λt u a b d=>?_) λt _=>rfl)) λc2=>?_
 ·have c:l=0:=beq_iff_eq.mp c;by_cases L:u<f
  ·exact G t u a b L
  by_cases o:t<f
  ·exact KeyOrd.kle_trans (G t (f-1) a ⋯ ⋯) (T u ⋯ d)
  ·exact F t u ⋯ b d
 have c2:l≠0:=λe=>c2 (beq_iff_eq.mpr e);have a4:((arrOf st).extract (R+k) f).size=m-k:=by rw[aiu];lia
 have a3:((arrOf st).extract f (f+l)).size=l:=by rw[aiu];lia
 have xl:((arrOf st).extract (R+k) f).toList=((arrOf st).toList.drop (R+k)).take (m-k):=by
  rw[agL,agq,show f-(R+k)=m-k by lia]
 have yl:((arrOf st).extract f (f+l)).toList=((arrOf st).toList.drop f).take l:=oG _ _ _;have sx:((arrOf st).extract (R+k) f).toList.Pairwise (kl κ):=by
  rw[xl];exact BL (λt u a b d=>G t u ⋯ b ⋯) ⋯
 have sy:((arrOf st).extract f (f+l)).toList.Pairwise (kl κ):=by
  rw[yl];exact BL (λt u a b d=>F t u a b ⋯) ⋯
 have x:∀z∈((arrOf st).extract (R+k) f).toList,∃t,R+k<=t/\t<f/\ky κ z=KK κ (arrOf st) t/\z∈(arrOf st).toList:=λz hz=>by
  rw[xl]at hz;obtain⟨d,hd,J,rfl⟩:=jZ hz;exact(R+k+d,9,9,(bM J).symm,adu _)
 have p:∀z∈((arrOf st).extract f (f+l)).toList,∃t,f<=t/\t<f+l/\ky κ z=KK κ (arrOf st) t/\z∈(arrOf st).toList:=λz hz=>by
  rw[yl]at hz;obtain⟨d,hd,J,rfl⟩:=jZ hz;exact(f+d,9,9,(bM J).symm,adu _)
 have kx:KeysOf κ ((arrOf st).extract (R+k) f):=λz hz=>N z (x z hz).choose_spec.2.2.2;have U:KeysOf κ ((arrOf st).extract f (f+l)):=λz hz=>N z (p z hz).choose_spec.2.2.2;have y0:ky κ (((arrOf st).extract f (f+l))[0]'(by omega))=KK κ (arrOf st) f:=by
  rw[ah9];exact(bM ⋯).symm
 have K:ky κ (((arrOf st).extract (R+k) f)[((arrOf st).extract (R+k) f).size-1]'(by omega))=KK κ (arrOf st) (f-1):=by
  rw[ah9,<-bM];congr 1;lia
 have hf:∀z∈((arrOf st).extract (R+k) f).toList,kl κ (((arrOf st).extract f (f+l))[0]'(by omega)) z:=λz hz=>by
  obtain⟨t,o,M,e,_⟩:=x z hz;unfold kl;rw[y0,e];exact KeyOrd.kle_of_klt (a5 t o M)
 have hl:∀z∈((arrOf st).extract f (f+l)).toList,kl κ z (((arrOf st).extract (R+k) f)[((arrOf st).extract (R+k) f).size-1]'(by omega)):=λz hz=>by
  obtain⟨t,o,M,e,_⟩:=p z hz;unfold kl;rw[K,e];exact KeyOrd.kle_of_klt (a2 t o M)
 have a0:∀(r:Array Keyed) (j:SortSt),cL (setPending st ((pd.setIfInBounds i (pq R (pq (m+n) S))).eraseIdxIfInBounds (i+1))) j->Fin (kl κ) (((arrOf st).extract (R+k) f).toList++((arrOf st).extract f (f+l)).toList) r.toList ->
   wpS (model prog w) A E s (do
    modify λv=>setArr v (wr (arrOf v) (R+k) r.toList)
    return (failedOf (<-get)).isNone) Q j:=by
  intro r j hg hF;have a7:r.toList.length=m-k+l:=by rw[hF.1.length_eq,aaf,aae,aae,a4,a3]
  have ea:arrOf j=arrOf st:=hg.arr;have y:R+k+r.toList.length<=(arrOf st).size:=by lia
  refine wpS_bind (wpS_modify (wpS_bind (wpS_get ?_)));have e3:failedOf (setArr j (wr (arrOf j) (R+k) r.toList))=none:=hg.failed.trans C.failed;rw[e3];refine wpS_pure (h _ (3,hg.kind.trans C.kind,e3,hg.pend) ?_ ?_)
  ·show (wr (arrOf j) (R+k) r.toList).Perm a₀;rw[ea];refine Array.Perm.trans (agD.mpr ?_) C.perm;rw[N7 y,a7];have e4:(arrOf st).toList=(arrOf st).toList.take (R+k)++(((arrOf st).extract (R+k) f).toList++((arrOf st).extract f (f+l)).toList)++(arrOf st).toList.drop (R+k+(m-k+l)):=by
    rw[xl,yl,aaQ]
    conv=>lhs;rw[<-aeD (R+k) (arrOf st).toList]
    congr 1
    conv=>lhs;rw[<-aeD (m-k+l) ((arrOf st).toList.drop (R+k))]
    rw[ahu,ai2,ahu,show R+k+(m-k)=f by lia]
   conv=>rhs;rw[e4]
   exact((aiY _).append hF.1).append (aiY _)
  ·have a1:∀t,KK κ (wr (arrOf st) (R+k) r.toList) t=if ht:R+k<=t/\t<f+l then ky κ (r.toList[t-(R+k)]'(by omega))else KK κ (arrOf st) t:=λt=>by
    have g:=DX y t;by_cases ht:R+k<=t/\t<f+l
    ·rw[dif_pos ht];rw[if_pos ⋯,aad ⋯]at g;unfold KK ky;rw[g]
    ·rw[dif_neg ht];rw[if_neg ⋯]at g;exact KK_congr g
   have H:∀z∈r.toList,∃t,R+k<=t/\t<f+l/\ky κ z=KK κ (arrOf st) t:=λz hz=>by
    rcases aba.mp (hF.1.mem_iff.mp hz)with hz|hz
    ·obtain⟨t,o,M,e,_⟩:=x z hz;exact(t,o,9,e)
    ·obtain⟨t,o,M,e,_⟩:=p z hz;exact(t,9,M,e)
   have B:∀t,R<=t->t<R+k -> ∀u,R+k<=u->u<f+n->κ.kle (KK κ (arrOf st) t) (KK κ (arrOf st) u):=λt a b u c d=>by
    by_cases L:u<f
    ·exact G t u a ⋯ L
    ·exact KeyOrd.kle_trans (I t a b) (F f u (aac _) ⋯ d)
   have D:∀t,R+k<=t->t<f+l -> ∀u,f+l<=u->u<f+n->κ.kle (KK κ (arrOf st) t) (KK κ (arrOf st) u):=λt a b u c d=>by
    by_cases o:t<f
    ·exact KeyOrd.kle_trans (G t (f-1) ⋯ ⋯ ⋯) (T u c d)
    ·exact F t u ⋯ ⋯ d
   show Sd κ (wr (arrOf j) (R+k) r.toList) R (f+n);rw[ea];intro t u a b d;rw[a1,a1];by_cases tr:R+k<=t/\t<f+l
   ·rw[dif_pos tr];by_cases P:R+k<=u/\u<f+l
    ·rw[dif_pos P];by_cases e:t=u
     ·subst e;exact KeyOrd.kle_refl _
     ·exact ab2.mp hF.2 (t-(R+k)) (u-(R+k)) ⋯ ⋯ ⋯
    ·rw[dif_neg P];obtain⟨v,v1,v2,e⟩:=H _ (acz (show t-(R+k)<r.toList.length by lia));rw[e];exact D v v1 v2 u ⋯ d
   ·rw[dif_neg tr];by_cases P:R+k<=u/\u<f+l
    ·rw[dif_pos P];obtain⟨v,v1,v2,e⟩:=H _ (acz (show u-(R+k)<r.toList.length by lia));rw[e];exact B t a ⋯ v v1 ⋯
    ·rw[dif_neg P];by_cases o:t<R+k
     ·by_cases L:u<R+k
      ·exact G t u a b ⋯
      ·exact B t a o u ⋯ d
     ·exact F t u ⋯ b d
  ·intro t ht;show (wr (arrOf j) (R+k) r.toList)[t]?=_;rw[ea,DX y,if_neg ⋯]
 by_cases V:m-k<=l
 ·rw[if_pos V];exact wpS_bind (Fj hO O.kind kx U sx sy ⋯ ⋯ hf hl a0)
 ·rw[if_neg V];exact wpS_bind (FP hO O.kind kx U sx sy ⋯ ⋯ hf hl a0)
end
def Lay:Nat->List (Nat×Nat×Nat)->Nat->Prop
 |s,[],e=>s=e
 |s,x::r,e=>s=x.1/\1<=x.2.1/\Lay (x.1+x.2.1) r e
theorem p8:∀{P R:List (Nat×Nat×Nat)} {s e:Nat},Lay s (P++R) e ↔ ∃m,Lay s P m/\Lay m R e
 |[],R,s,e=>(λh=>(s,7,h),λ⟨m,b,a⟩=>by cases b;exact a)
 |x::P,R,s,e=>by
  constructor
  ·rintro⟨b,a,f⟩;obtain⟨m,d,c⟩:=p8.mp f;exact(m,(b,a,d),c)
  ·rintro⟨m,⟨b,a,d⟩,c⟩;exact(b,a,p8.mpr (m,d,c))
theorem jd:∀{R:List (Nat×Nat×Nat)} {s e:Nat},Lay s R e->s+R.length<=e /\ ∀x∈R,s<=x.1/\x.1+x.2.1<=e
 |[],s,e,h=>(ahk h,λx a=>by cases a)
 |y::R,s,e,h=>by
  obtain⟨f,d,b⟩:=h;obtain⟨g,c⟩:=jd b;refine(by rw[aaM];lia,λx a=>?_);rcases aaO.mp a with rfl|a
  ·lia
  ·have:=c x a;lia
structure Runs(κ:KeyKind)(xs:Array Keyed)(pd:Array (Nat×Nat×Nat))(lo:Nat):Prop where
 lay:Lay 0 pd.toList lo
 sd:∀x∈pd.toList,Sd κ xs x.1 (x.1+x.2.1)
theorem mX{κ:KeyKind}{xs ys:Array Keyed}{lo :Nat}(h:Sd κ xs lo n)(e:∀k:Nat,lo<=k->k<n->ys[k]?=xs[k]?):Sd κ ys lo n:=λi j a b c=>by
 rw[KK_congr (e i a ⋯),KK_congr (e j ⋯ c)];exact h i j a b c
theorem Runs.low{κ:KeyKind}{xs ys:Array Keyed}{a:Array (Nat×Nat×Nat)}{lo:Nat}(h:Runs κ xs a lo)(e:Ui lo xs ys):Runs κ ys a lo:=
 (h.lay,λx b=>mX (h.sd x b) λk _ c=>e k (by have:=(jd h.lay).2 x b;lia))
theorem Runs.push{κ:KeyKind}{xs:Array Keyed}{b:Array (Nat×Nat×Nat)}{lo n p:Nat}(h:Runs κ xs b lo)(d:1<=n)(c:Sd κ xs lo (lo+n)):Runs κ xs (b.push (pq lo (pq n p))) (lo+n):=by
 refine(by rw[agp];exact p8.mpr (lo,h.lay,7,d,7),λx a=>?_);rw[agp]at a;rcases aba.mp a with a|a
 ·exact h.sd x a
 ·rw[aat.mp a];exact c
theorem Al:∀{R b:List (Nat×Nat×Nat)} {s e:Nat},R.map (λx=>(pq x.1 x.2.1))=b.map (λx=>(pq x.1 x.2.1))->Lay s R e->Lay s b e
 |[],[],_,_,_,h=>h
 |[],_::_,_,_,h,_=>by cases h
 |_::_,[],_,_,h,_=>by cases h
 |x::R,y::b,s,e,h,l=>by
  rw[aaD,aaD]at h;injection h with j i
  injection j with g f
  obtain⟨d,c,a⟩:=l;rw[g]at d a;rw[f]at c a;exact(d,c,Al i a)
theorem Runs.same{κ:KeyKind}{xs:Array Keyed}{a b:Array (Nat×Nat×Nat)}{lo:Nat}(h:Runs κ xs a lo)(e:a.toList.map (λx=>(pq x.1 x.2.1))=b.toList.map (λx=>(pq x.1 x.2.1))):Runs κ xs b lo:=by
 refine(Al e h.lay,λx d=>?_);have f:(pq x.1 x.2.1)∈a.toList.map (λx=>(pq x.1 x.2.1)):=by
  rw[e];exact aa3.mpr (x,d,7)
 obtain⟨y,c,j⟩:=aa3.mp f;injection j with i g
 have q:=h.sd y c;rw[i,g]at q;exact q
theorem PB{c:Prop}[Decidable c]{n:Nat}(h:¬n<=1):(if c then n-2-1 else n-2)+1<n:=by
 split<;>lia
theorem Cd{a:Type}(l:List Q)(i:Nat)(f:Q->Q)(g:Q->a)(h:∀x,g (f x)=g x):(l.modify i f).map g=l.map g:=by
 apply ag7;intro t;rw[aag,aag,List.getElem?_modify];cases l[t]? with
 |none=>rfl
 |some x=>
  by_cases e:i=t
  ·simp[e,h]
  ·simp[e]
section
variable{a₀:Array Keyed}{κ:KeyKind}{pd:Array (Nat×Nat×Nat)}
theorem j6{st:SortSt}{i lo:Nat}{Q:Bool->SortSt->Prop}(U:κ.OneLt)(W:KeysOf κ a₀)(V:TB a₀ pd st)(l:Runs κ (arrOf st) pd lo)(T:i+1<pd.size)(a0:lo<=a₀.size)
  (h:∀a D,TB a₀ D a->Runs κ (arrOf a) D lo->D.size+1=pd.size->(∀k:Nat,lo<=k->(arrOf a)[k]?=(arrOf st)[k]?)->Q true a):wpS (model prog w) A E s (mergeAt' i) Q st:=by
 obtain⟨⟨b,m,j⟩,O⟩:∃x,pd[i]?=some x:=(_,getElem?_pos pd i ⋯);obtain⟨⟨g,n,C⟩,N⟩:∃x,pd[i+1]?=some x:=(_,getElem?_pos pd (i+1) T);have f:pd.toList=pd.toList.take i++(pq b (pq m j))::(pq g (pq n C))::pd.toList.drop (i+2):=by
  have Y:pd.toList[i]?=some (pq b (pq m j)):=by rw[ab4];exact O
  have X:pd.toList[i+1]?=some (pq g (pq n C)):=by rw[ab4];exact N
  have z:=aab.mp Y;have y:=aab.mp X;obtain⟨z,I⟩:=z;obtain⟨y,H⟩:=y
  conv=>lhs;rw[<-aeD i pd.toList]
  rw[acA z,I,acA y,H]
 have d:=l.lay;rw[f]at d;obtain⟨S,M,L,K,u,J,t⟩:=p8.mp d;dsimp only at L K u J t;have Z:=jd M;have B:=jd t;have r:(pq b (pq m j))∈pd.toList:=by rw[f];exact aay _ abB
 have p:(pq g (pq n C))∈pd.toList:=by rw[f];exact aay _ (aaR _ abB)
 have R:=l.sd _ r;have P:=l.sd _ p;dsimp only at R P;refine Dn U W V O N u.symm K J (by have:=B.1;lia) (by rw[<-u];exact R) P λa G F e=>?_;have v:((pd.setIfInBounds i (pq b (pq (m+n) j))).eraseIdxIfInBounds (i+1)).toList=pd.toList.take i++(pq b (pq (m+n) j))::pd.toList.drop (i+2):=by
  have o:(pd.toList.take i).length=i:=by rw[aaL,aae];lia
  rw[Array.toList_eraseIdxIfInBounds,Array.toList_setIfInBounds]
  conv=>lhs;rw[f]
  rw[List.set_append_right _ _ ⋯,o,ag6,List.set_cons_zero,List.eraseIdx_append_of_length_le ⋯,o,aeC];rfl
 refine h a _ G (3,λx c=>?_) ?_ λk hk=>e k (.inr (by have:=B.1;lia))
 ·rw[v];refine p8.mpr (S,M,L,by show 1<=m+n;lia,3);show Lay (b+(m+n)) _ lo;rw[show b+(m+n)=g+n by lia];exact t
 ·rw[v]at c;rcases aba.mp c with c|c
  ·have q:=l.sd x (by rw[f];exact agl _ c);exact mX q λk _ a1=>e k (.inl (by have:=Z.2 x c;lia))
  ·rcases aaO.mp c with rfl|c
   ·show Sd κ (arrOf a) b (b+(m+n));rw[show b+(m+n)=g+n by lia];exact F
   ·have q:=l.sd x (by rw[f];exact aay _ (aaR _ (aaR _ c)));exact mX q λk a2 _=>e k (.inr (by have:=B.2 x c;lia))
 ·have:=congrArg agx v;rw[aae,aaf,aaL,aaM,ab3,aae]at this;lia
theorem Le{xs:Array Keyed}{lo n:Nat}(h:Uu κ xs lo n):Sd κ xs lo (lo+n):=λi j a b c=>by
 have q:=h (i-lo) (j-lo) ⋯ ⋯
 rwa [show lo+(i-lo)=i by lia,show lo+(j-lo)=j by lia]at q
theorem CN{st:SortSt}{Q:Unit->SortSt->Prop}(K:κ.OneLt)(L:KeysOf κ a₀)(hB:TB a₀ #[] st)(h2:2<=a₀.size)
  (h:∀a,(arrOf a).Perm a₀->failedOf a=none->SortedToK κ (arrOf a) a₀.size->Q () a):wpS (model prog w) A E s sortRuns' Q st:=by
 rw[sortRuns'_eq];refine wpS_bind (wpS_get ?_);dsimp only;rw[hB.size];refine wpS_bind (wpS_mono (wpS_forRange (I:=λx c a=>∃b pd,c=(pq none b)/\TB a₀ pd a/\Runs κ (arrOf a) pd b/\x<=b/\b<=a₀.size) (Q:=λc a=>∃pd,c=(pq none a₀.size)/\TB a₀ pd a/\Runs κ (arrOf a) pd a₀.size) ?_ ?_ (0,#[],7,hB,(7,λx U=>by cases U),aac _,aaF _)) ?_)
 ·rintro x c O _ U ⟨b,pd,rfl,J,C,X8,F⟩;dsimp only;by_cases P:b >= a₀.size
  ·rw[if_pos P];have:b=a₀.size:=by lia
   subst this;exact wpS_pure (pd,7,J,C)
  rw[if_neg P];refine wpS_bind (Bg K L J ⋯ ⋯ λm u f a6 a3 a7 o=>?_);dsimp only;have v:=C.low a6;by_cases D:m<minRun' a₀.size a₀.size 0
  ·rw[if_pos D];generalize minRun' a₀.size a₀.size 0=mr at D ⊢;refine wpS_bind (wpS_lift (wpAny_rule (7,3)));refine wpS_bind (wC K L f ⋯ ⋯ o λN d YW a5=>?_);rw[if_neg ∅];have B:=v.low YW;have l:=Le a5;obtain⟨n,hn,M,XJ⟩:∃n,min (a₀.size-b) mr=n/\1<=n/\b+n<=a₀.size:=(5,9,9);rw[hn]at l ⊢;refine wpS_bind (wpS_get ?_);rw[d.pend];cases VV:pd.back? with
   |none=>
    dsimp only;exact wpS_bind (wpS_modify (wpS_pure (b+n,pd.push (pq b (pq n 0)),7,(d.perm,d.kind,d.failed,by show (pendingOf N).push _=_;rw[d.pend]),B.push M l,9,9)))
   |some t=>
    obtain⟨s1,n1,p1⟩:=t;dsimp only;refine wpS_bind (wpS_mono (wpS_forRange (I:=λ_ c a=>c=(pq none (())) /\ ∃e,TB a₀ e a/\Runs κ (arrOf a) e b/\Sd κ (arrOf a) b (b+n)) (Q:=λc a=>c=(pq none (())) /\ ∃e,TB a₀ e a/\Runs κ (arrOf a) e b/\Sd κ (arrOf a) b (b+n)) ?_ ?_ (7,pd,d,B,l)) ?_)
    ·rintro y c r _ _ ⟨rfl,e,g,q,p⟩;refine wpS_bind (wpS_get ?_);rw[g.pend];by_cases z:e.size > 1
     ·rw[if_pos z,getElem?_pos e (e.size-2) ⋯];generalize e[e.size-2]=T;obtain⟨a1,a2,G⟩:=T;dsimp only;refine aQ (λ_=>wpS_pure (7,e,g,q,p)) λ_=>wpS_bind (j6 K L g q ⋯ F λU6 Z Wg Y _ X=>?_);rw[if_neg ∅];exact wpS_pure (7,Z,Wg,Y,mX p λk V _=>X k V)
     ·rw[if_neg z];exact wpS_pure (7,e,g,q,p)
    ·rintro c r W;exact W
    ·rintro c r ⟨rfl,e,g,q,p⟩;dsimp only;refine wpS_bind (wpS_modify (wpS_bind (wpS_modify (wpS_pure (b+n,5,(g.perm,g.kind,g.failed,7),3,9,9)))));show Runs κ (arrOf r) (((pendingOf r).modify ((pendingOf r).size-1) _).push (pq b (pq n 0))) (b+n);rw[g.pend];refine Runs.push (q.same ?_) M p;rw[ail];refine(Cd _ _ _ _ ?_).symm;exact λ_=>rfl
  ·rw[if_neg D];have d:=f;have B:=v;have l:=Le o;have M:=a3;refine wpS_bind (wpS_get ?_);rw[d.pend];cases VV:pd.back? with
   |none=>
    dsimp only;exact wpS_bind (wpS_modify (wpS_pure (b+m,pd.push (pq b (pq m 0)),7,(d.perm,d.kind,d.failed,by show (pendingOf u).push _=_;rw[d.pend]),B.push M l,9,9)))
   |some t=>
    obtain⟨s1,n1,p1⟩:=t;dsimp only;refine wpS_bind (wpS_mono (wpS_forRange (I:=λ_ c a=>c=(pq none (())) /\ ∃e,TB a₀ e a/\Runs κ (arrOf a) e b/\Sd κ (arrOf a) b (b+m)) (Q:=λc a=>c=(pq none (())) /\ ∃e,TB a₀ e a/\Runs κ (arrOf a) e b/\Sd κ (arrOf a) b (b+m)) ?_ ?_ (7,pd,d,B,l)) ?_)
    ·rintro y c r _ _ ⟨rfl,e,g,q,p⟩;refine wpS_bind (wpS_get ?_);rw[g.pend];by_cases z:e.size > 1
     ·rw[if_pos z,getElem?_pos e (e.size-2) ⋯];generalize e[e.size-2]=T;obtain⟨a1,a2,G⟩:=T;dsimp only;refine aQ (λ_=>wpS_pure (7,e,g,q,p)) λ_=>wpS_bind (j6 K L g q ⋯ F λU6 Z Wg Y _ X=>?_);rw[if_neg ∅];exact wpS_pure (7,Z,Wg,Y,mX p λk V _=>X k V)
     ·rw[if_neg z];exact wpS_pure (7,e,g,q,p)
    ·rintro c r W;exact W
    ·rintro c r ⟨rfl,e,g,q,p⟩;dsimp only;refine wpS_bind (wpS_modify (wpS_bind (wpS_modify (wpS_pure (b+m,5,(g.perm,g.kind,g.failed,7),3,9,9)))));show Runs κ (arrOf r) (((pendingOf r).modify ((pendingOf r).size-1) _).push (pq b (pq m 0))) (b+m);rw[g.pend];refine Runs.push (q.same ?_) M p;rw[ail];refine(Cd _ _ _ _ ?_).symm;exact λ_=>rfl
 ·rintro c O ⟨b,pd,rfl,J,C,X8,F⟩;have:b=a₀.size:=by lia
  subst this;exact(pd,7,J,C)
 ·rintro c O ⟨pd,rfl,J,C⟩;dsimp only;refine wpS_bind (wpS_mono (wpS_forRange (I:=λx c a=>c=(pq none (())) /\ ∃pd,TB a₀ pd a/\Runs κ (arrOf a) pd a₀.size/\pd.size+x<=a₀.size) (Q:=λc a=>c=(pq none (())) /\ ∃pd,TB a₀ pd a/\Runs κ (arrOf a) pd a₀.size/\pd.size<=1) ?_ ?_ (7,pd,J,C,3)) ?_)
  ·rintro x c u _ U ⟨rfl,H,f,v,o⟩;refine wpS_bind (wpS_get ?_);rw[f.pend];refine aQ (λz=>wpS_pure (7,H,f,v,z)) λz=>?_;refine wpS_bind (j6 K L f v (PB z) (aac _) λN a0 d B X7 _=>?_);rw[if_neg ∅];exact wpS_pure (7,a0,d,B,9)
  ·rintro c u ⟨rfl,H,f,v,o⟩;exact(7,H,f,v,9)
  ·have:=(jd C.lay).1;rw[aae]at this;lia
  ·rintro c u ⟨rfl,H,f,v,o⟩;refine wpS_pure (h u f.perm f.failed λi j a4 hj=>?_);have R:H.toList.length<=1:=by rw[aae];exact o
   have S:=v.lay;have hd:=v.sd
   match hpl:H.toList,R with
   |[],_=>
    rw[hpl]at S;have:0=a₀.size:=S;lia
   |[y],_=>
    rw[hpl]at S hd;obtain⟨y1,y2,y3⟩:=S;have y3:y.1+y.2.1=a₀.size:=y3;exact hd y abB i j ⋯ a4 ⋯
end
theorem xY{κ:PyProof.Rows.KeyKind}(G:κ.OneLt){l:Addr}{a:List Value}{n:Nat}{Q:PySem.Fin->Shared->Prop}(m:s.heap.get? l=some (seqObj "list" a.toArray n))(H:KeysOf κ (pairsOf a))(F:∀u v r,a=u::v::r->keyKind' (u::v::r).toArray=pure oneType')(hz:a.length<=100000)
  (h:∀z:SortSt,(arrOf z).Perm (pairsOf a)->SortedToK κ (arrOf z) (pairsOf a).size->Q (.done (.ret .none)) {s with heap:=sortedHeap s.heap l a ((arrOf z).map (·.2))}):wpAny (model prog w) A (Builtin.«list.sort» ([.ref l],[])) Q E s:=by
 have o:=Heap.lt_size m;have d:a.length<=sizeLine:=by rw[sizeLine_eq];lia
 obtain⟨e,x⟩:∃e,(s.heap.update l (Obj.mapSeq λ_=>#[])).get? l=some (seqObj "list" #[] e):=(_,get?_update_seq m (λ_=>#[]))
 have b:(((s.heap.update l (Obj.mapSeq λ_=>#[])).push (seqObj "tuple" a.toArray 0)).push (seqObj "list" #[] 0)).get? l=some (seqObj "list" #[] e):=by
  have t:l<(s.heap.update l (Obj.mapSeq λ_=>#[])).objs.size:=by rw[Heap.size_update];exact o
  rw[Heap.get?_push_ne _ _ _ (by rw[size_push'];exact aap (agj t)),Heap.get?_push_ne _ _ _ (aap t)];exact x
 rw[list_sort_plain];refine wpAny_bind (listItems_at m rfl (wpAny_bind (listUpdate_at m rfl ?_ (by show a.toArray.size<=sizeLine;rw[aaB];exact d) (by show 0<=_;exact aaF _))));refine wpAny_bind (seqEpoch_at x rfl (wpAny_bind (wpAny_newTuple ?_ (by simpa using d))));refine wpAny_bind (wpAny_newList (wpAny_holding ?_))
 show wpAny (model prog w) A _ Q E {s with heap:=((s.heap.update l (Obj.mapSeq λ_=>#[])).push (seqObj "tuple" a.toArray 0)).push (seqObj "list" #[] 0)}
 dsimp only;have y:a.toArray.size=a.length:=by simp
 have g:∀z:SortSt,(arrOf z).Perm (pairsOf a)->((arrOf z).map (·.2)).size<=sizeLine+1:=λz k=>by
  rw[Array.size_map,k.size_eq,pairsOf_size];lia
 by_cases c:a.toArray.size<2
 ·rw[if_pos c,if_pos c];refine wpAny_bind (wpAny_pure ?_);rw[StateT.run_pure];refine wpAny_bind (wpAny_pure (wpAny_bind (seqEpoch_at b rfl (wpAny_bind (listUpdate_at b rfl ?_ (aaF _) (g (SortSt.mk' general' (a.toArray.zip a.toArray) #[] 7 none) (aia _)))))));simp only[bne_self_eq_false,adT,if_false];refine wpAny_pure (h (SortSt.mk' general' (a.toArray.zip a.toArray) #[] 7 none) (aia _) λi j I C=>?_);rw[pairsOf_size]at C;have:i=j:=by lia
  subst this;exact KeyOrd.kle_refl _
 ·rw[if_neg c,if_neg c];obtain⟨u,v,r,rfl⟩:∃u v r,a=u::v::r:=by
   match a,y,c with
   |[],_,z=>exact absurd ∅ z
   |[_],_,z=>exact absurd (by show 1<2;decide) z
   |u::v::r,_,_=>exact(u,v,r,7)
  rw[F _ _ _ rfl];refine wpAny_bind (wpAny_pure (wpAny_bind (wpAny_mono (CN (κ:=κ) G (a₀:=pairsOf (u::v::r)) (st:=SortSt.mk' oneType' ((u::v::r).toArray.zip (u::v::r).toArray) #[] 7 none)
   (Q:=λ_ z=>(arrOf z).Perm (pairsOf (u::v::r))/\failedOf z=none/\SortedToK κ (arrOf z) (pairsOf (u::v::r)).size) H (aia _,7,7,7) (by rw[pairsOf_size,aaM,aaM];lia) λz p f q=>(p,f,q)) ?_ λ_ _ q=>q)))
  rintro⟨⟨⟩,z⟩ J ⟨rfl,k,D,B⟩;dsimp only;refine wpAny_bind (seqEpoch_at b rfl (wpAny_bind (listUpdate_at b rfl ?_ (aaF _) (g z k))));rw[D];simp only[bne_self_eq_false,adT,if_false];exact wpAny_pure (h z k B)
@[reducible] def zT:PyProof.Rows.KeyKind where
 α:=Int
 blt a b:=decide (a<b)
 irrefl a:=decide_eq_false (Int.lt_irrefl a)
 trans a b c h1 h2:=decide_eq_true (Int.lt_trans (of_decide_eq_true h1) (of_decide_eq_true h2))
 negTrans a b c h:=by
  have h:=of_decide_eq_true h;by_cases q:a<b
  ·exact .inl (decide_eq_true q)
  ·exact .inr (decide_eq_true ⋯)
 total a b h1 h2:=by
  have h1:=of_decide_eq_false h1;have h2:=of_decide_eq_false h2;lia
 keyOf v:=match v with | .int n _=>some n|_=>none
 dflt:=0
theorem HX:zT.OneLt:=by
 intro e w A E s x y a b Q d c h;cases x<;>simp only[zT,reduceCtorEq,aiC]at d;cases y<;>simp only[zT,reduceCtorEq,aiC]at c;cases d;cases c;exact oneLt_int h
theorem Ld(xs:Array Keyed)(i:Nat):KK zT xs i=PyProof.Rows.K xs i:=by
 unfold KK PyProof.Rows.K;cases xs[i]? with
 |none=>rfl
 |some p=>
  obtain⟨x,q⟩:=p;cases x<;>rfl
theorem HR{l:Addr}{n:Nat}{Q:PySem.Fin->Shared->Prop}(x:s.heap.get? l=some (seqObj "list" r.toArray n))(f:IntsAre r d)(hz:r.length<=100000)
  (h:∀(out:Array Value) (b:List Int),IntsAre out.toList b->b.Perm d->b.Pairwise (· <= ·)->Q (.done (.ret .none)) {s with heap:=sortedHeap s.heap l r out}):wpAny (model prog w) A (Builtin.«list.sort» ([.ref l],[])) Q E s:=by
 refine xY HX x (λp c=>?_) (λu v a e=>?_) hz λz c o=>?_
 ·obtain⟨m,t,e⟩:=f.intKeys p c;exact(m,by rw[e])
 ·subst e;exact keyKind_ints f
 ·have g:SortedTo (arrOf z) (pairsOf r).size:=λi j k y=>by
   have q:=o i j k y;rw[Ld,Ld]at q;have q:=of_decide_eq_false q;lia
  obtain⟨b,D,C,B⟩:=sorted_out f c g;exact h _ b D C B
open PySem.Spec
theorem CJ{Q:Value->Shared->Prop}(F:A.handled=none)(K:jt (cQ w) (intKind prog w) s.heap S d)
  (h:∀(D:Addr) (h':Heap) a tk (vs:List Value) (g:List Int) (e:Nat),s.heap.objs.size<=D->(∀b o,s.heap.get? b=some o->h'.get? b=some o)->h'.get? D=some (seqObj "list" vs.toArray e)->IntsAre vs g->af9 g d->g.Pairwise (· <= ·)->g.length<=4096->Q (.ref D) {s with heap:=h',drawn:=a,toks:=tk}):
  wpAny (model prog w) A (call (.builtin "sorted") [.ref S]) Q E s:=by
 obtain⟨o,T,U,t,R,C,r,hd,I,G,J,L⟩:=K;have O:scanBound=4096:=rfl;refine Calls.call_function_entry kind_sorted plain_sorted entry_sorted (args_sorted1 _) ?_;unfold Builtin.«sorted»
 refine wpAny_bind (m:=checkCount "sorted" 1 1 _) (wpAny_pure ?_)
 refine wpAny_bind (sX (by simp[F]) (C,hd,G) r.1 I J λf l a tk P B v p u=>?_);obtain⟨g,x,q⟩:=Jw L B v;have k:f.toList.length<=4096:=by rw[aae,v.1];lia
 refine wpAny_bind (wpAny_newList ?_ (by rw[sizeLine_eq];lia))
 have c:(l.push (seqObj "list" f.toList.toArray 0)).get? l.objs.size=some (seqObj "list" f.toList.toArray 0):=Heap.get?_push_size _ rfl
 refine wpAny_bind (wpAny_holding (wpAny_call_entry slot_list_sort (_,c,7) entry_list_sort (HR c x ⋯ λi n N z M=>(5,3)) (args_list_sort _)));refine wpAny_pure (5,3);obtain⟨e,H⟩:=sortedHeap_at (out:=i) c;refine h l.objs.size _ a _ i.toList n e (ae8 p) (λb o y=>?_) (by simpa using H) N (z.trans q) M (by rw[z.length_eq,<-x.length];exact k);have j:=Heap.lt_size (u _ _ y);rw[sortedHeap_old (aap j) (by rw[Heap.size_push];exact agj j)];exact Heap.get?_push_of_some _ (u _ _ y)
end Tw
namespace L2
open PySem.Spec PyProof.Rows Tw
theorem zp(v:X.calm=true):gR X (.builtin "sorted") (λxs H Q=>∃(p:Addr) (a:List Int),xs=[.ref p]/\H p=some (QG X.prog X.w p a) /\
  ∀l b,H l=none->af9 b a->b.Pairwise (· <= ·)->Q (.ref l) (upd H l (.lst (b.map V.int)))):=by
 intro B s A H xs C Q I r h;obtain⟨p,a,rfl,n,q⟩:=h;obtain⟨u,rfl,j⟩:=vals1 r;cases j;have x:jt (cQ X.w) (intKind X.prog X.w) s.heap p a:=(I.hok p _ n).1;refine CJ (I.ok.hd v) x λD z d i g k e f o t y c m E=>?_;exact(.ref D,_,(I.laid (t':=i) o f (show bJ X.prog X.w _ z D (.lst (k.map V.int))from (by rw[aaa,sizeLine_eq];lia,g,e,rG y,t))).drawnTo d,7,q _ _ (I.hok.fresh f) c m)
open PySem.W
section
variable{P:Program}{k:Nat}{T:pO}{slots:List Nat}{Uo:Addr->List Addr}{pos p1 p2:Pos}
theorem Uh.makerL0(F:Uh K x qual st f fd)(S:aC N ps (δ st))(M:Cg N qual (δ st) T slots Uo)(bm:BMain mg base)(b:fd.code=.ref c)(C:CodeHd base c Pt)(d:∀a H Q E,sp a H Q E->a.length=ps.length)
  (n:μ st=[.Return (some (.Lambda T.params T.body T.scope pos)) p2])
  (h:∀(a:List V) (H:Hp) (Q:VK) (E:XK),sp a H Q E->Ml H Pt pos T slots (start N a) Q):aV P w K mg base Ti (k+1) f fd ps sp:=by
 obtain⟨u,t,kV,p,r,z,j,y,o,rfl,m,g⟩:=F.ex;obtain rfl:j=.ref c:=b;refine En m g S d λA l s H a Q E q v e I=>?_;rw[n];exact yp M bm C I (h a H Q E e)
end
def nJ(x:Str)(lo a:Option Int):Str:=⟨((x.cps.toList.drop (HT.T6 x.length 0 lo)).take (HT.T6 x.length x.length a-HT.T6 x.length 0 lo)).toArray⟩
theorem p6(n d:Nat)(lo:Option Int):HT.T6 n d lo=lo.elim d (clipAt n):=by
 cases lo with
 |none=>rfl
 |some v=>
  show (if v<0 then (v+(n:Int)).toNat else min v.toNat n)=clipAt n v;unfold clipAt;split<;>lia
theorem part_of{v:Value}{lo:Option Int}(h:IsPart v lo):∃l:Option (Int×Tok),v=partValue l/\l.map (·.1)=lo:=by
 cases h with
 |none=>exact(none,7,7)
 |int i t=>exact(some (pq i t),7,7)
theorem rY(z:Str)(l u:Option (Int×Tok)):((slicePicked z l u none).filterMap (z.cps[·]?)).toArray=(nJ z (l.map (·.1)) (u.map (·.1))).cps:=by
 unfold slicePicked nJ;have e:Builtin.Str.strSliceIndices (l.map (·.1)) (u.map (·.1)) 1 z.length=sliceRange (HT.T6 z.length 0 (l.map (·.1)):Nat) (HT.T6 z.length z.length (u.map (·.1)):Nat) 1:=by
  unfold Builtin.Str.strSliceIndices;rw[p6,p6];cases l<;>cases u<;>simp[clipAt_cast]
 show (List.filterMap (z.cps[·]?) (Builtin.Str.strSliceIndices (l.map (·.1)) (u.map (·.1)) 1 z.length)).toArray=_;rw[e,sliceRange_one,pick_run]
theorem Hi{l u:Option (Int×Tok)}(h:(slicePicked x l u none).length=x.length):nJ x (l.map (·.1)) (u.map (·.1))=x:=by
 have g:=rY x l u;have d:slicePicked x l u none=sliceRange (HT.T6 x.length 0 (l.map (·.1)):Nat) (HT.T6 x.length x.length (u.map (·.1)):Nat) 1:=by
  unfold slicePicked;show Builtin.Str.strSliceIndices (l.map (·.1)) (u.map (·.1)) 1 x.length=_;unfold Builtin.Str.strSliceIndices;rw[p6,p6];cases l<;>cases u<;>simp[clipAt_cast]
 rw[d,sliceRange_one,aaa,afE]at h;have f:HT.T6 x.length x.length (u.map (·.1))<=x.length:=HT.QX _ _ (aac _) _;unfold nJ;have b:x.length=x.cps.size:=rfl;rcases ad3 x.length with c|c
 ·have:x.cps=#[]:=Array.eq_empty_of_size_eq_zero (b ▸ c);cases x with
  |mk a=>
   have:a=#[]:=this;subst this;simp
 ·have e:HT.T6 x.length 0 (l.map (·.1))=0:=by lia
  rw[e,ahb,agQ,show HT.T6 x.length x.length (u.map (·.1))=x.length by lia,aak (by rw[aae];exact ahk b.symm)]
theorem gq(z:Str)(lo a:Option Int):(nJ z lo a).length<=z.length:=by
 unfold nJ;show ((z.cps.toList.drop _).take _).toArray.size<=z.cps.size;rw[aaB,aaL,ab3,aae];lia
inductive S6(x:V)(lo:Option Int)(hi:Option Int)(H:Hp)(Q:VK):Prop
 | mk (z:_) (_:x=.str z) (_:z.length<=sizeLine) (_:Q (.str (nJ z lo hi)) H)
theorem iI{X:Cx}:XC X S6:=by
 intro k s j H x v n m p r o Q I b g d c h;obtain⟨z,rfl,f,q⟩:=h;obtain⟨t,rfl⟩:=b
 exists "str",_,F.slot_str_getitem.lookup,typeIs_str _ _ _
 obtain⟨l,rfl,rfl⟩:=part_of d;obtain⟨u,rfl,rfl⟩:=part_of c;refine wpAny_getItem_str_slice (l:=l) (u:=u) (st:=none) g rfl ?_;unfold sliceMade;split
 ·rename_i a;have i:(slicePicked z l u none).length=z.length:=by
   simp at a;exact a
  rw[Hi i]at q;exact(.str z,H,I,(t,7),q)
 ·have e:(⟨((slicePicked z l u none).filterMap (z.cps[·]?)).toArray⟩:Str)=nJ z (l.map (·.1)) (u.map (·.1)):=by rw[rY]
  rw[e];exact(afJ (gq _ _ _) f,(.str _,H,I.tok _,(_,7),q))
def Hw(x:Str):It:=
 (λi _=>i<x.cps.size,λi H v a=>a=H /\ ∃c,x.cps[i]?=some c/\v=.str ⟨#[c]⟩,λi _=>x.cps.size<=i)
theorem Ik{w:World}(g:Addr)(x:Str)(t:Tok):Turn prog w K e (Hw x) [g] g (λi h=>h.IsStrIter g "str_ascii_iterator" x t i) where
 mem:=by simp
 obj:=λi h f b l=>by
  have a:b=g:=by simpa using l
  subst a;obtain⟨o,a,c,d⟩:=f;exact(o,a,λv z=>by rw[d]at z;cases z)
 keep:=λi h p f k=>let ⟨o,ho,r⟩:=f;(o,k g (by simp) o ho,r)
 item:=by
  intro X u q y L i J s G H E I n f j;subst u q y;have j:i<x.cps.size:=j;obtain⟨F,D,N,C,B,A⟩:=n g (by simp);refine wpAny_pyNext_ascii_item f (c:=x.cps[i]) (by simp[j]) λp m M=>?_;have Q:Inv X J G H {s with heap:=p,toks:=s.toks+1}:=I.turned (t':=s.toks+1) (λb o l a=>(M.2 b l).trans a) F D C B A;obtain⟨o,a,c,d⟩:=id m;exact(5,vV (s:={s with heap:=p,toks:=s.toks+1}) a c d ∅ (.str ⟨#[x.cps[i]]⟩,H,Q,(_,7),(7,_,by simp[j],7),m,λb l=>(n b l).1))
 done:=by
  intro X u q y L i J s G H E I n f j;subst u q y;have j:x.cps.size<=i:=j;obtain⟨F,D,N,C,B,A⟩:=n g (by simp);exact wpAny_pyNext_ascii_end (I.ok.hd L) f (by simp;lia) λp O=>(7,I.turned (t':=s.toks) (λb o l a=>O b o l a) F D C B A)
 self:=λ_ _ _ _ _ f h=>wpAny_pyIter_striter_ascii f h
theorem Ib{w:World}(g:Addr)(x:Str)(t:Tok):Turn prog w K e (Hw x) [g] g (λi h=>h.IsStrIter g "str_iterator" x t i) where
 mem:=by simp
 obj:=λi h f b l=>by
  have a:b=g:=by simpa using l
  subst a;obtain⟨o,a,c,d⟩:=f;exact(o,a,λv z=>by rw[d]at z;cases z)
 keep:=λi h p f k=>let ⟨o,ho,r⟩:=f;(o,k g (by simp) o ho,r)
 item:=by
  intro X u q y L i J s G H E I n f j;subst u q y;have j:i<x.cps.size:=j;obtain⟨F,D,N,C,B,A⟩:=n g (by simp);refine wpAny_pyNext_wide_item f (c:=x.cps[i]) (by simp[j]) λp m M=>?_;have Q:Inv X J G H {s with heap:=p,toks:=s.toks+1}:=I.turned (t':=s.toks+1) (λb o l a=>(M.2 b l).trans a) F D C B A;obtain⟨o,a,c,d⟩:=id m;exact(5,vV (s:={s with heap:=p,toks:=s.toks+1}) a c d ∅ (.str ⟨#[x.cps[i]]⟩,H,Q,(_,7),(7,_,by simp[j],7),m,λb l=>(n b l).1))
 done:=by
  intro X u q y L i J s G H E I n f j;subst u q y;have j:x.cps.size<=i:=j;obtain⟨F,D,N,C,B,A⟩:=n g (by simp);exact wpAny_pyNext_wide_end (I.ok.hd L) f (by simp;lia) λp O=>(7,I.turned (t':=s.toks) (λb o l a=>O b o l a) F D C B A)
 self:=λ_ _ _ _ _ f h=>wpAny_pyIter_striter_wide f h
inductive Ql(R:It->Hp->Prop)(v:V)(H1:Hp):Prop
 | mk (x:_) (_:v=.str x) (_:R (Hw x) H1)
def Tc(b:TE):TI:=λ a H R=>b a H (Ql R)
theorem Mt{l:Expr}(n:PE X l ta):PI X tg l (Tc ta):=by
 intro f s j H R I h;refine Th (n f s j H _ I h) λv a ⟨y,d,c,k,m⟩=>?_;obtain⟨x,e,q⟩:=m;subst e;obtain⟨t,rfl⟩:=k;have i:∀b∈[a.heap.objs.size],gM X f d b:=λb p=>by
  have e:b=a.heap.objs.size:=by simpa using p
  subst e;exact c.fpOk (aac _) (c.hok.fresh (aac _))
 cases g:x.cps.all (· < 128)
 ·refine wpAny_pyIter_wide g ?_;exact(a.heap.objs.size,[a.heap.objs.size],8,d,7,c.kept (t':=a.toks) λb o e=>Heap.get?_push_of_some _ e,Ib _ x t,(_,Heap.get?_push_size _ rfl,7,7),i,q)
 ·refine wpAny_pyIter_ascii g ?_;exact(a.heap.objs.size,[a.heap.objs.size],8,d,7,c.kept (t':=a.toks) λb o e=>Heap.get?_push_of_some _ e,Ik _ x t,(_,Heap.get?_push_size _ rfl,7,7),i,q)
theorem Gx{x:Str}{g:TG}{j:TS}{D:Ends}{σ:St}(a:Nat->St->Hp->Prop)(q:a 0 σ H)
  (n:∀i c σ H,x.cps[i]?=some c->a i σ H->g (.str ⟨#[c]⟩) σ H λ b h=>j {D with nx:=a (i+1),ct:=a (i+1),bk:=D.nx} b h)(hd:∀σ H,a x.cps.size σ H->D.nx σ H):
  ∃W:Nat->Nat->St->Hp->Prop,(∃m,W 0 m σ H) /\ ∀i m σ H,W i m σ H ->
   ((Hw x).stop i H/\D.nx σ H)\/((Hw x).go i H /\ ∃N:St->Hp->Prop,(∀d H',N d H' -> ∃k,k<m/\W (i+1) k d H') /\ ∀v H',(Hw x).U0 i H v H'->g v σ H' λ b h=>j {D with nx:=N,ct:=N,bk:=D.nx} b h):=by
 exists λi m σ H=>m=x.cps.size-i/\i<=x.cps.size/\a i σ H,(x.cps.size,by simp,aaF _,q);rintro i m σ H ⟨rfl,r,p⟩;by_cases f:i<x.cps.size
 ·refine .inr (f,a (i+1),λ d H' l=>(x.cps.size-(i+1),9,7,f,l),λv H' y=>?_);obtain⟨rfl,c,o,rfl⟩:=y;exact n i c σ _ o p
 ·have e:i=x.cps.size:=by lia
  subst e;exact .inl (aac _,hd σ H p)
end L2
namespace Tw
open PySem.Spec PyProof.Rows
def Wz(c:List Str):Prop:=c.Pairwise λa b=>¬b.cps.toList<a.cps.toList
theorem tL(g:StrsAre r N){xs:Array Keyed}(l:xs.Perm (pairsOf r))(w:SortedToK PyProof.Rows.strKind xs (pairsOf r).size):
  ∃d,StrsAre (xs.map (·.2)).toList d/\d.Perm N/\Wz d:=by
 have m:xs.toList.Perm (r.zip r):=by rw[<-pairsOf_toList];exact agD.mp l
 have a:∀p,p∈xs.toList->p.1=p.2/\p.1∈r:=λp b=>mem_zip_self (m.mem_iff.mp b);exists xs.toList.map (λp=>strOf p.1),3,3
 ·have e:(xs.map (·.2)).toList=xs.toList.map (·.1):=by
   rw[Array.toList_map];exact ahh λp b=>(a p b).1.symm
  rw[e];have c:=strsAre_map (xs.toList.map (·.1)) (by
   intro v s;obtain⟨p,b,rfl⟩:=aa3.mp s;exact g.all _ (a p b).2)
  rwa [agB]at c
 ·have c:=m.map (λp=>strOf p.1);have B:(r.zip r).map (λp=>strOf p.1)=N:=by
   have:(r.zip r).map (λp=>strOf p.1)=((r.zip r).map Prod.fst).map strOf:=by
    rw[agB];rfl
   rw[this,List.map_fst_zip (aac _),g.strs]
  rwa [B]at c
 ·unfold Wz;rw[ab2];intro i j A z h;have k:i<xs.size:=by simpa using A
  have f:j<xs.size:=by simpa using z
  have c:=w i j (ae8 h) (by rw[<-l.size_eq];exact f);obtain⟨x,t,o⟩:=g.all _ (a xs[i] (by simp)).2;obtain⟨y,u,n⟩:=g.all _ (a xs[j] (by simp)).2;rw[KK_str k (x:=x) (t:=t) (q:=xs[i].2) (Prod.ext o rfl),KK_str f (x:=y) (t:=u) (q:=xs[j].2) (Prod.ext n rfl)]at c;change decide (y.cps.toList<x.cps.toList)=false at c;simp only[aiL,adw];rw[show strOf xs[i].1=x by rw[o];rfl,show strOf xs[j].1=y by rw[n];rfl];exact of_decide_eq_false c
theorem IV{l:Addr}{n:Nat}{Q:PySem.Fin->Shared->Prop}(g:s.heap.get? l=some (seqObj "list" r.toArray n))(c:StrsAre r N)(hz:r.length<=100000)
  (h:∀(out:Array Value) (b:List Str),StrsAre out.toList b->b.Perm N->Wz b->Q (.done (.ret .none)) {s with heap:=sortedHeap s.heap l r out}):wpAny (model prog w) A (Builtin.«list.sort» ([.ref l],[])) Q E s:=by
 refine xY strKind_oneLt g c.keysOf (λu v a e=>keyKind_strs (by rw[<-e];exact c)) hz λz f d=>?_;obtain⟨b,k,j,i⟩:=tL c f d;exact h _ b k j i
theorem Hl{d:Array (Int×Value)}{o:List (Str×(Int×Value))}(x:mF (PySem.strKind prog w) d.toList N o){ps:List (Int×Value)}(b:af9 ps d.toList)(f:ItemsOf (uM ps) G d.size):∃h,StrsAre G.toList h/\af9 h N:=by
 obtain⟨n,a⟩:=x.perm b;have k:ps.length=d.size:=by rw[b.length_eq,aae]
 have j:G.toList=ps.map (·.2):=by
  apply ag7;intro i;rw[aag];cases l:G.toList[i]? with
  |none=>
   have:G.toList.length<=i:=agJ.mp l;rw[aae,f.1,<-k]at this;rw[agH this];rfl
  |some v=>
   obtain⟨e,g,m⟩:=f.2 i v (by rw[<-ab4];exact l);rw[g,m];rfl
 refine(n.map (·.1),3,a.fst);rw[j,<-a.snd];have c:=a.is
 clear a j k f b
 induction n with
 |nil=>exact .nil
 |cons q r u=>
  obtain⟨g,m,y⟩:=c q abB;obtain⟨t,e⟩:=Value.isStrOf_shape (show Value.isStrOf q.1 q.2.2=true from g);rw[aaD,aaD,aaD,e];exact .cons q.1 t (u λp b=>c p (aaR _ b))
theorem wU{Q:Value->Shared->Prop}(F:A.handled=none)(K:jt (cQ w) (PySem.strKind prog w) s.heap S N)
  (h:∀(D:Addr) (h':Heap) d tk (vs:List Value) (f:List Str) (e:Nat),s.heap.objs.size<=D->(∀b o,s.heap.get? b=some o->h'.get? b=some o)->h'.get? D=some (seqObj "list" vs.toArray e)->StrsAre vs f->af9 f N->Wz f->f.length<=4096->Q (.ref D) {s with heap:=h',drawn:=d,toks:=tk}):
  wpAny (model prog w) A (call (.builtin "sorted") [.ref S]) Q E s:=by
 obtain⟨o,U,V,t,T,C,r,hd,I,G,J,L⟩:=K;have P:scanBound=4096:=rfl;refine Calls.call_function_entry kind_sorted plain_sorted entry_sorted (args_sorted1 _) ?_;unfold Builtin.«sorted»
 refine wpAny_bind (m:=checkCount "sorted" 1 1 _) (wpAny_pure ?_)
 refine wpAny_bind (sX (by simp[F]) (C,hd,G) r.1 I J λa k d tk R B v n u=>?_);obtain⟨f,x,p⟩:=Hl L B v;have j:a.toList.length<=4096:=by rw[aae,v.1];lia
 have q:f.length=a.toList.length:=by rw[<-x.strs,aaa]
 refine wpAny_bind (wpAny_newList ?_ (by rw[sizeLine_eq];lia))
 have c:(k.push (seqObj "list" a.toList.toArray 0)).get? k.objs.size=some (seqObj "list" a.toList.toArray 0):=Heap.get?_push_size _ rfl
 refine wpAny_bind (wpAny_holding (wpAny_call_entry slot_list_sort (_,c,7) entry_list_sort (IV c x ⋯ λg l O z M=>(5,3)) (args_list_sort _)));refine wpAny_pure (5,3);obtain⟨e,H⟩:=sortedHeap_at (out:=g) c;refine h k.objs.size _ d _ g.toList l e (ae8 n) (λb o y=>?_) (by simpa using H) O (z.trans p) M (by rw[z.length_eq,q];exact j);have i:=Heap.lt_size (u _ _ y);rw[sortedHeap_old (aap i) (by rw[Heap.size_push];exact agj i)];exact Heap.get?_push_of_some _ (u _ _ y)
end Tw
namespace L2
open PySem.Spec PyProof.Rows Tw
theorem Fv:∀{c:List Value},Vals (N.map V.str) c->StrsAre c N:=by
 induction N with
 |nil=>
  intro c r;rw[ahL]at r;cases r;exact .nil
 |cons n e d=>
  intro c r;rw[aaD]at r;cases r with
  |cons a b=>
   obtain⟨t,rfl⟩:=a;exact .cons n t (d b)
theorem xJ:∀{a:List Value}{b:List Str},StrsAre a b->Vals (b.map V.str) a
 |_,_,.nil=>.nil
 |_,_,.cons _ t h=>.cons (t,7) (xJ h)
theorem Aa(h:StrsAre r N):r.length=N.length:=by
 rw[<-h.strs,aaa]
def Gs(P:Program)(w:World)(a:Addr)(b:List Str):HO:=.ext λh=>jt (cQ w) (PySem.strKind P w) h a b
theorem J8{w:World}{a:Addr}(e:jt (cQ w) (PySem.strKind prog w) h' a N):bJ prog w H h' a (Gs prog w a N):=by
 refine(e,3,λ_ _ p k=>p.at k);obtain⟨o,_,_,_,_,b,_⟩:=e;exact(o,b)
theorem rT(G:X.calm=true):gR X (.type "set") (λxs H Q=>∃(p:Addr) (c:List Str),xs=[.ref p]/\Tg X.K H p (c.map V.str)/\(met (λi=>c.getD i ⟨#[]⟩) c.length).length+1<scanBound /\
  ∀l m o,H l=none->m=met (λi=>c.getD i ⟨#[]⟩) c.length->o=Gs X.prog X.w l m->Q (.ref l) (upd H l o)):=by
 intro O s N H xs P Q I r h;obtain⟨p,a,rfl,E,J,q⟩:=h;obtain⟨u,rfl,A⟩:=vals1 r;cases A;obtain⟨d,B,C,R⟩:=I.list E;have x:=Fv B;have j:=Aa x;have g:d.toArray.size=a.length:=by simpa using j
 refine yw (knd:=PySem.strKind X.prog X.w) (f:=λi=>a.getD i ⟨#[]⟩) (I.ok.hd G) C.isList (λi v e=>?_) (by rw[g];exact J) λS z y F=>?_
 ·have M:d[i]?=some v:=by simpa using e
  have:∀{k:List Value}{a:List Str},StrsAre k a -> ∀(i:Nat) v,k[i]?=some v->Value.isStrOf (a.getD i ⟨#[]⟩) v=true/\v.scannable=true:=by
   intro k a L
   induction L with
   |nil=>intro i v e;simp at e
   |cons n t _ D=>
    intro i v e;cases i with
    |zero=>
     simp at e;subst e;exact(by simp[Value.isStrOf],7)
    |succ i=>exact D i v (by simpa using e)
  exact this x i v M
 ·rw[g]at y;exact(.ref s.heap.objs.size,_,I.laid (t':=z) (λb o e=>F b o (Heap.lt_size e) e) (aac _) (J8 y),7,q _ _ _ (I.hok.fresh (aac _)) rfl rfl)
theorem tD:gR X (.builtin "len") (λxs H Q=>∃(p:Addr) (a:List Str),xs=[.ref p]/\H p=some (Gs X.prog X.w p a)/\Q (.int (a.length:Int)) H):=by
 intro x s v H xs y Q I r h;obtain⟨p,a,rfl,g,q⟩:=h;obtain⟨u,rfl,f⟩:=vals1 r;cases f;have k:jt (cQ X.w) (PySem.strKind X.prog X.w) s.heap p a:=(I.hok p _ g).1;obtain⟨o,l,B,t,z,i,b,hd,A,j,_,c⟩:=k;have m:l.size=a.length:=by
  have e:=congrArg agx c.snd;have d:=c.fst.length_eq;rw[aaa]at e d;rw[<-d,e,aae]
 have n:scanBound=4096:=rfl;refine call_len_set i b hd j ⋯ ?_;exact(.int (a.length:Int),H,I.tok (s.toks+1+1),(_,by rw[<-m]),q)
theorem qe(v:X.calm=true):gR X (.builtin "sorted") (λxs H Q=>∃(p:Addr) (a:List Str),xs=[.ref p]/\H p=some (Gs X.prog X.w p a) /\
  ∀l b,H l=none->af9 b a->Wz b->Q (.ref l) (upd H l (.lst (b.map V.str)))):=by
 intro B s A H xs C Q I r h;obtain⟨p,a,rfl,n,q⟩:=h;obtain⟨u,rfl,j⟩:=vals1 r;cases j;have x:jt (cQ X.w) (PySem.strKind X.prog X.w) s.heap p a:=(I.hok p _ n).1;refine wU (I.ok.hd v) x λD z d i g k e f o t y c m E=>?_;exact(.ref D,_,(I.laid (t':=i) o f (show bJ X.prog X.w _ z D (.lst (k.map V.str))from (by rw[aaa,sizeLine_eq];lia,g,e,xJ y,t))).drawnTo d,7,q _ _ (I.hok.fresh f) c m)
open PySem.W
inductive GK(x:V)(xs:List V)(H:Hp)(Q:VK):Prop
 | mk (z y:Str) (i:Nat) (rest:List Nat) (_:x=.str z) (_:xs=[.str y]) (_:Builtin.Str.occurrences z y 0 z.length 1=i::rest) (_:Q (.int (i:Int)) H)
theorem Jy:XF X "str.index" GK:=by
 intro g s f H x j v k Q I b c h;obtain⟨z,y,i,rest,rfl,rfl,e,q⟩:=h;obtain⟨t,rfl⟩:=b;obtain⟨u,rfl,d⟩:=vals1 c;obtain⟨a,rfl⟩:=d;exact call_gives F.slot_str_index (typeIs_str _ _ _) F.entry_str_index (F.args_str_index_2 _ _) (gives_str_index z y t a i rest e) (.int (i:Int),H,I.tok _,(_,7),q)
inductive S5(x:V)(y:V)(H:Hp)(Q:VK):Prop
 | mk (u v:Str) (_:x=.str u) (_:y=.str v) (_:Q (.bl (decide (u.cps.toList<v.cps.toList))) H)
theorem QV:TY X (compareOp .Lt) S5:=by
 intro f s e H x y v u Q I d c h;obtain⟨a,b,rfl,rfl,q⟩:=h;obtain⟨t,rfl⟩:=d;obtain⟨g,rfl⟩:=c;exact P.lt_str (.bl _,H,I,7,q)
end L2
namespace Tw
def U9(a b:Str):Prop:=a.cps.toList<b.cps.toList
theorem iu{a b:Str}(h:a.cps.toList=b.cps.toList):a=b:=by
 cases a;cases b;congr 1;exact Array.toList_inj.mp h
theorem Ra{a b:Str}(h:¬b.cps.toList<a.cps.toList)(e:a≠b):U9 a b:=by
 rcases List.le_total (a.cps.toList) (b.cps.toList)with c|c
 ·by_cases d:a.cps.toList<b.cps.toList
  ·exact d
  ·exact absurd (iu (aiM (aiU.mp h) (aiU.mp d))) e
 ·exact absurd (iu (aiM (aiU.mp h) c)) e
theorem oM(a:Str):¬U9 a a:=aig _
theorem yq{a b c:Str}(h:U9 a b)(h':U9 b c):U9 a c:=ahZ h h'
theorem Gb(h:Wz N)(c:N.Nodup):N.Pairwise U9:=List.Pairwise.imp₂ (λa b e d=>Ra e d) h c
def beg(w:Str)(k:Nat):Str:=⟨(w.cps.toList.take k).toArray⟩
theorem bY(w:Str)(k:Nat):(beg w k).cps.toList=w.cps.toList.take k:=by
 unfold beg;exact ahG
theorem uq(w:Str)(k:Nat):(beg w k).length=min k w.length:=by
 show (beg w k).cps.size=min k w.cps.size;rw[<-aae,bY,aaL,aae]
theorem Ol(w:Str){j k:Nat}(h:j<=k):beg (beg w k) j=beg w j:=iu (by rw[bY,bY,bY,ahc,afb h])
theorem Gn(w:Str){k:Nat}(h:w.length<=k):beg w k=w:=iu (by rw[bY,aak (by rw[aae];exact h)])
theorem nA(w:Str)(k:Nat):nJ w none (some (k:Int))=beg w k:=by
 refine iu ?_;rw[bY];unfold nJ;rw[ahG,HT.mD,ahb,agQ,HT.lu];rcases aib k w.length with c|c
 ·rw[afb c]
 ·rw[agE c,aak (by rw[aae];exact aac _),aak (by rw[aae];exact c)]
theorem sV:∀{p u:List Nat}{c:Nat},¬u<p->u<p++[c]->p.length<=u.length
 |[],_,_,_,_=>aaF _
 |a::p,[],c,h,_=>absurd (ahz a p) h
 |a::p,b::u,c,h,d=>by
  rw[agm,afK]at d;rw[afK]at h;have e:b=a/\u<p++[c]:=by
   rcases d with d | d
   ·exact absurd (.inl d) h
   ·exact d
  have:=sV (λz=>h (.inr (e.1,z))) e.2;rw[aaM,aaM];lia
structure pI(ws ts:List Str):Prop where
 up:ts.Pairwise U9
 mem:∀t,t∈ts ↔ t=⟨#[]⟩ \/ ∃w∈ws,∃k:Nat,t=beg w k
theorem pI.pre(h:pI N ps){t:Str}(ht:t∈ps)(k:Nat):beg t k∈ps:=by
 rcases(h.mem t).mp ht with e|⟨w,a,j,e⟩
 ·refine(h.mem _).mpr (.inl ?_);rw[e];refine iu ?_;rw[bY];exact ah0
 ·rcases aib k j with c|c
  ·exact(h.mem _).mpr (.inr (w,a,k,by rw[e,Ol w c]))
  ·refine(h.mem _).mpr (.inr (w,a,j,3));rw[e];refine Gn _ ?_;rw[uq];lia
theorem pI.zero(h:pI N ps):ps[0]?=some ⟨#[]⟩:=by
 have b:=(h.mem ⟨#[]⟩).mpr (.inl rfl);cases ps with
 |nil=>exact absurd b ahf
 |cons a r=>
  rcases aaO.mp b with e|e
  ·rw[e];rfl
  ·have c:=(ait.mp h.up).1 _ e;unfold U9 at c;exact absurd c (aic _)
theorem pI.good(h:pI N ps):gr (ps.map λt=>(t.length:Int)):=by
 refine(by rw[aag,h.zero];rfl,λi x y A w=>?_);rw[aag]at A w;obtain⟨u,F,rfl⟩:=abA.mp A;obtain⟨t,ht,rfl⟩:=abA.mp w;obtain⟨B,q⟩:=aab.mp F;obtain⟨m,s⟩:=aab.mp ht;have b:U9 u t:=by
  rw[<-q,<-s];exact ab2.mp h.up i (i+1) B m (age _)
 have H:t.length≠0:=λe=>by
  have:t.cps.toList=[]:=ah1.mp (by rw[aae];exact e);unfold U9 at b;rw[this]at b;exact absurd b (aic _)
 refine(9,3);have G:=h.pre (aah ht) (t.length-1);obtain⟨j,I⟩:=aaP G;obtain⟨l,f⟩:=aab.mp I;have d:t.cps.toList.length=t.length:=aae;obtain⟨c,C⟩:∃c,t.cps.toList=(beg t (t.length-1)).cps.toList++[c]:=by
  rw[bY];have k:t.cps.toList≠[]:=λe=>H (by rw[<-d,e];rfl);exists t.cps.toList.getLast k;rw[show t.length-1=t.cps.toList.length-1 by rw[d],<-List.dropLast_eq_take];exact(agX k).symm
 have v:U9 (beg t (t.length-1)) t:=by
  unfold U9;rw[C];have:∀(p:List Nat) (c:Nat),p<p++[c]:=λp c=>by
   induction p with
   |nil=>exact ahz c []
   |cons a r E=>
    rw[agm,afK];exact .inr (7,E)
  exact this _ _
 have J:j<=i:=by
  rcases aaq i j with g|g
  ·rcases aaq (i+1) j with D|D
   ·have:=ab2.mp h.up (i+1) j m l D;rw[s,f]at this;exact absurd (yq this v) (oM _)
   ·have e:j=i+1:=by lia
    subst e;rw[s]at f;rw[<-f]at v;exact absurd v (oM _)
  ·exact g
 have n:¬u.cps.toList<(beg t (t.length-1)).cps.toList:=λz=>by
  rcases aaq j i with g|g
  ·have:=ab2.mp h.up j i l B g;rw[f,q]at this;exact absurd (yq this z) (oM _)
  ·have e:j=i:=by lia
   subst e;rw[q]at f;rw[f]at z;exact absurd z (aig _)
 have o:=sV n (by rw[<-C];exact b);rw[bY,aaL,d,aae]at o;have:u.cps.size=u.length:=rfl;lia
def Y6:List Nat->List Nat->Nat
 |a::u,b::v=>if a=b then Y6 u v+1 else 0
 |_,_=>0
def fresh(u w:Str):List Str:=(ab5 (w.length-Y6 u.cps.toList w.cps.toList)).map λi=>beg w (Y6 u.cps.toList w.cps.toList+i+1)
theorem gZ(x:List Nat):¬x<x:=aig x
theorem Ft:∀(p:List Nat) {x y:List Nat},p++x<p++y ↔ x<y
 |[],_,_=>Iff.rfl
 |a::p,x,y=>by
  rw[agm,agm,afK,Ft p];constructor
  ·rintro(h|⟨_,h⟩)
   ·exact absurd h (afL _)
   ·exact h
  ·exact λh=>.inr (7,h)
theorem pZ(p:List Nat)(c:Nat)(s:List Nat):p<p++c::s:=by
 have:=(Ft p (x:=[]) (y:=c::s)).mpr (ahz c s);rw[agY]at this;exact this
theorem G6:∀{u v:List Nat},u.length=v.length->u<v -> ∀a b:List Nat,u++a<v++b
 |[],[],_,h,_,_=>absurd h (gZ _)
 |[],_::_,h,_,_,_=>by cases h
 |_::_,[],h,_,_,_=>by cases h
 |x::u,y::v,h,d,a,b=>by
  rw[agm,agm,afK];rcases afK.mp d with z|⟨z,c⟩
  ·exact .inl z
  ·exact .inr (z,G6 (by simpa using h) c a b)
theorem vo:∀{p x s:List Nat},¬x<p -> ¬p++s<x->x.take p.length=p
 |[],x,s,_,_=>by simp
 |a::p,[],s,h,_=>absurd (ahz a p) h
 |a::p,b::x,s,h,c=>by
  rw[agm,afK]at c;rw[afK]at h;have e:a=b:=by
   rcases ago a b with z|z|z
   ·exact absurd (.inl z) c
   ·exact z
   ·exact absurd (.inl z) h
  subst e;rw[aaM,ahi,vo (λz=>h (.inr (7,z))) (λz=>c (.inr (7,z)))]
theorem zM(x:List Nat)(k:Nat):¬x<x.take k:=λh=>by
 have e:=aeD k x;cases q:x.drop k with
 |nil=>
  rw[q,agY]at e;rw[e]at h;exact gZ _ h
 |cons c s=>
  rw[q]at e;have:=pZ (x.take k) c s;rw[e]at this;exact gZ _ (ahZ this h)
structure PC(L:List (List Nat)):Prop where
 up:L.Pairwise (· < ·)
 pre:∀t∈L,∀k,t.take k∈L
theorem PC.lt{L:List (List Nat)}(h:PC L){i j:Nat}{x y:List Nat}(e:L[i]?=some x)(d:L[j]?=some y)(b:i<j):x<y:=by
 obtain⟨c,rfl⟩:=aab.mp e;obtain⟨a,rfl⟩:=aab.mp d;exact ab2.mp h.up i j c a b
theorem PC.le{L:List (List Nat)}(h:PC L){i j:Nat}{x y:List Nat}(c:L[i]?=some x)(b:L[j]?=some y)(a:¬y<x):i<=j:=by
 rcases aaq j i with z|z
 ·exact absurd (h.lt b c z) a
 ·exact z
theorem PC.idx{L:List (List Nat)}(h:PC L){i j:Nat}{x:List Nat}(b:L[i]?=some x)(a:L[j]?=some x):i=j:=ah6 (h.le b a (gZ _)) (h.le a b (gZ _))
theorem PC.under{L:List (List Nat)}(h:PC L){i j:Nat}{t x:List Nat}(e:L[j]?=some t)(d:L[i]?=some x)(b:j<i)(f:∀m y,j<m->m<=i->L[m]?=some y->t.length<y.length):x.take t.length=t:=by
 obtain⟨k,a⟩:=aaP (h.pre x (aah d) t.length);have c:(x.take t.length).length=t.length:=by
  rw[aaL];have:=f i x b (aac _) d;lia
 have g:=h.le a d (zM x _);rcases ago k j with z|z|z
 ·have:=G6 c (h.lt a e z) (x.drop t.length) [];rw[aeD,agY]at this;exact absurd (ahZ this (h.lt e d b)) (gZ _)
 ·subst z;rw[e]at a;exact(aao a).symm
 ·have:=f k _ z g a;lia
theorem zf{x t:List Nat}(h:x.take t.length=t)(b:x.length=t.length+1):∃e,x=t++[e]:=by
 have e:=aeD t.length x;rw[h]at e;have:(x.drop t.length).length=1:=by rw[ab3];lia
 obtain⟨c,a⟩:=List.length_eq_one_iff.mp this;exact(c,by rw[<-a,e])
theorem o9{t:List Nat}{a b:Nat}:t++[a]<t++[b] ↔ a<b:=by
 rw[Ft,afK];constructor
 ·rintro(h|⟨_,h⟩)
  ·exact h
  ·exact absurd h (gZ _)
 ·exact .inl
abbrev lens(L:List (List Nat)):List Int:=L.map λt=>(t.length:Int)
theorem GC{L:List (List Nat)}{i:Nat}(h:(lens L)[i]?=some m):∃t,L[i]?=some t/\m=t.length:=by
 rw[aag]at h;obtain⟨t,b,a⟩:=abA.mp h;exact(t,b,a.symm)
theorem nj{L:List (List Nat)}{i:Nat}{t:List Nat}(h:L[i]?=some t):(lens L)[i]?=some (t.length:Int):=by
 rw[aag,h];rfl
theorem PC.of_lt{L:List (List Nat)}(h:PC L){i j:Nat}{x y:List Nat}(c:L[i]?=some x)(b:L[j]?=some y)(a:x<y):i<j:=by
 rcases aaq i j with z|z
 ·exact z
 ·have e:i=j:=ah6 (h.le c b λq=>gZ _ (ahZ a q)) z;subst e;rw[c]at b;cases b;exact absurd a (gZ _)
theorem PC.mid{L:List (List Nat)}(h:PC L){i j k:Nat}{t x s:List Nat}(c:L[j]?=some t)(a:L[i]?=some x)(b:L[k]?=some (t++s))(e:j<=i)(d:i<=k):x.take t.length=t:=by
 refine vo (s:=s) (λq=>?_) (λq=>?_)
 ·have:=h.of_lt a c q;lia
 ·have:=h.of_lt b a q;lia
theorem xF{x t:List Nat}(h:x.take t.length=t):t.length<=x.length:=by
 have:=congrArg agx h;rw[aaL]at this;lia
theorem PC.first{L:List (List Nat)}(h:PC L){j:Nat}{t:List Nat}(g:L[j]?=some t):
  ((lens L)[j+1]?=some ((t.length:Int)+1) -> ∃e,L[j+1]?=some (t++[e]) /\ ∀c,c<e->t++[c]∉L) /\
  ((lens L)[j+1]? ≠ some ((t.length:Int)+1) -> ∀c,t++[c]∉L):=by
 refine(λhd=>?_,λhd c q=>hd ?_)
 ·obtain⟨x,a,e⟩:=GC hd;have p:x.length=t.length+1:=by lia
  have b:=h.under g a (age j) λm y D C o=>by
   have:m=j+1:=by lia
   subst this;rw[a]at o;cases o;lia
  obtain⟨c,rfl⟩:=zf b p;refine(c,a,λe i d=>?_);obtain⟨k,f⟩:=aaP d;have B:=h.of_lt f a (o9.mpr i);have n:=h.of_lt g f (pZ t e []);lia
 ·obtain⟨k,f⟩:=aaP q;have n:=h.of_lt g f (pZ t c []);have u:=(aab.mp f).1;obtain⟨x,a⟩:∃x,L[j+1]?=some x:=(_,aad ⋯);have b:=h.mid g a f (agS j) n;have v:=xF b;rw[nj a];have s:x.length≠t.length:=λz=>by
   rw[aak ⋯]at b;have:=h.idx g (b ▸ a);lia
  obtain⟨m,d⟩:=aaP (h.pre x (aah a) (t.length+1));have A:=h.le d a (zM x _);have r:(x.take (t.length+1)).take t.length=t:=by rw[ahc,afb (agS _)];exact b
  have l:(x.take (t.length+1)).length=t.length+1:=by rw[aaL];lia
  obtain⟨e,i⟩:=zf r l;have w:=h.of_lt g d (by rw[i];exact pZ t e []);have:m=j+1:=by lia
  subst this;rw[a]at d;have:=congrArg agx (aao d);rw[l]at this;rw[this];rfl
theorem PC.next{L:List (List Nat)}(h:PC L){i:Nat}{t:List Nat}{e:Nat}(o:L[i]?=some (t++[e])):
  ((lens L)[i+1+run (lens L) (i+1) ((t.length:Int)+1)]?=some ((t.length:Int)+1) -> ∃p,L[i+1+run (lens L) (i+1) ((t.length:Int)+1)]?=some (t++[p])/\e<p /\ ∀c,e<c->c<p->t++[c]∉L) /\
  ((lens L)[i+1+run (lens L) (i+1) ((t.length:Int)+1)]? ≠ some ((t.length:Int)+1) -> ∀c,e<c->t++[c]∉L):=by
 obtain⟨E,D⟩:=Bh _ (i+1) (rfl:run (lens L) (i+1) ((t.length:Int)+1)=_);generalize run (lens L) (i+1) ((t.length:Int)+1)=n at *;have g:∀m y,i<m->m<i+1+n->L[m]?=some y->t.length+1<y.length:=λm y B A G=>by
  obtain⟨d,C,R⟩:=E (m-(i+1)) ⋯;rw[show i+1+(m-(i+1))=m by lia,nj G]at C;have:=aao C;lia
 have a:∀c,e<c -> ∀k,L[k]?=some (t++[c])->i+1+n<=k:=λc v k b=>by
  have r:=h.of_lt o b (o9.mpr v);rcases aaq k (i+1+n)with z|z
  ·have:=g k _ r z b;simp at this
  ·exact z
 obtain⟨j,u⟩:=aaP (h.pre _ (aah o) t.length);rw[aiZ]at u;have J:=h.of_lt u o (pZ t e []);refine(λhd=>?_,λhd c v l=>hd ?_)
 ·obtain⟨x,f,Q⟩:=GC hd;have H:x.length=t.length+1:=by lia
  obtain⟨k,b⟩:=aaP (h.pre x (aah f) t.length);have w:(x.take t.length).length=t.length:=by rw[aaL];lia
  have r:=h.le b f (zM x _);have F:k<i:=by
   rcases ago k i with z|z|z
   ·exact z
   ·subst z;rw[o]at b;have:=congrArg agx (aao b);rw[w]at this;simp at this
   ·rcases aaq k (i+1+n)with y|y
    ·have:=g k _ z y b;lia
    ·have:k=i+1+n:=by lia
     subst this;rw[f]at b;have:=congrArg agx (aao b);lia
  have q:=h.mid b o (s:=x.drop t.length) (by rw[aeD];exact f) (ae8 F) ⋯;rw[w,aiZ]at q;obtain⟨p,rfl⟩:=zf q.symm H;refine(p,f,o9.mp (h.lt o f ⋯),λc B A l=>?_);obtain⟨m,l⟩:=aaP l;have P:=a c B m l;have O:=h.of_lt l f (o9.mpr A);lia
 ·obtain⟨k,b⟩:=aaP l;have r:=a c v k b;have I:=(aab.mp b).1;obtain⟨x,f⟩:∃x,L[i+1+n]?=some x:=(_,aad ⋯);have q:=h.mid u f b ⋯ r;have N:=xF q;have M:x.length≠t.length:=λz=>by
   rw[aak ⋯]at q;have:=h.idx u (q ▸ f);lia
  have K:=D _ (nj f);rw[nj f];congr 1;lia
end Tw
namespace PySem
abbrev gb(h:Heap)(e b:Addr)(i:Int)(c:Value)(g:Bool)(a:Value):Prop:=
 h.get? e=some {cls:=.type "enumerate",dict:=none,data:=.fields #[c,.bool g,.ref b,rawInt i,.none,a],slots:=#[]}
theorem Fq{e l T:Addr}{oT:Obj}{g:Bool}{i:Nat}{items:Array Value}{x :Value}{Q:Option Value->Shared->Prop}
  (R:gb s.heap e a i (rawInt T) g q)(hT:s.heap.get? T=some oT)(nT:T≠e/\T≠a)(a0:s.heap.IsListIter a l i)(hl:s.heap.IsList l items)(hx:items[i]?=some x)(u:e≠a)
  (hQ:∀h',gb h' e a ((i:Int)+1) (rawInt T) true q->h'.IsListIter a l (i+1)->h'.get? s.heap.objs.size=some {cls:=.type "tuple",data:=.seq #[.int i s.toks,x]}->h'.objs.size=s.heap.objs.size+1 ->
   (∀b o,b≠e->b≠a->s.heap.get? b=some o->h'.get? b=some o)->Q (some (.ref s.heap.objs.size)) {s with heap:=h',toks:=s.toks+1}):
  wpAny (model prog w) A (pyNext (.ref e)) Q E s:=by
 have P:s.TypeIs (.ref e) "enumerate":=(_,R,7)
 unfold pyNext
 refine wpAny_bind (wpAny_attempt (wpAny_callSpecial?_slot (name:=Str.ofString "__next__") P F.slot_enumerate_next
  (wpAny_call_entry F.slot_enumerate_next P F.entry_enumerate_next ?_ (F.args_enumerate_next_1 _))))
 obtain⟨K,D,d,m,C⟩:=s;show wpAny _ _ (field (.ref e) 2 >>= _) _ _ _;refine wpAny_bind (wpAny_field R rfl (x:=.ref a) rfl ?_);refine wpAny_bind (wpAny_nextOf_list_item a0 hl hx λk B N=>?_)
 replace N:Heap.SameBut a K k:=N
 have W:gb k e a i (rawInt T) g q:=(N.2 e u).trans R;show wpAny _ _ (field (.ref e) 3 >>= _) _ _ (k,D,d,m,C);refine wpAny_bind (wpAny_field W rfl (x:=rawInt i) rfl ?_);show wpAny _ _ (field (.ref e) 4 >>= _) _ _ (k,D,d,m,C);refine wpAny_bind (wpAny_field W rfl (x:=.none) rfl ?_);show wpAny _ _ (mkInt i >>= _) _ _ (k,D,d,m,C);refine wpAny_bind (wpAny_mkInt ?_);show wpAny _ _ (setField (.ref e) 3 (rawInt ((i:Int)+1)) >>= _) _ _ (k,D,d,m+1,C);refine wpAny_bind (wpAny_setField_rec W (by simp) λn V M=>?_)
 replace M:Heap.SameBut e k n:=M
 replace V:gb n e a ((i:Int)+1) (rawInt T) g q:=V
 show wpAny _ _ (setField (.ref e) 4 .none >>= _) _ _ (n,D,d,m+1,C);refine wpAny_bind (wpAny_setField_rec V (by simp) λj U L=>?_)
 replace L:Heap.SameBut e n j:=L
 replace U:gb j e a ((i:Int)+1) (rawInt T) g q:=U
 show wpAny _ _ (newTuple [.int i m,x] >>= _) _ _ (j,D,d,m+1,C);refine wpAny_bind (wpAny_newTuple ?_)
 have S:gb (j.push {cls:=.type "tuple",data:=.seq #[.int i m,x]}) e a ((i:Int)+1) (rawInt T) g q:=Heap.get?_push_of_some _ U
 have H:j.objs.size=K.objs.size:=by rw[L.1,M.1,N.1]
 have J:(j.push {cls:=.type "tuple",data:=.seq #[.int i m,x]}).get? K.objs.size=some {cls:=.type "tuple",data:=.seq #[.int i m,x]}:=by rw[<-H];exact Heap.get?_push_size _ rfl
 have I:(j.push {cls:=.type "tuple",data:=.seq #[.int i m,x]}).objs.size=K.objs.size+1:=by rw[Heap.size_push,H]
 have t:∀b o,b≠e->b≠a->K.get? b=some o->(j.push {cls:=.type "tuple",data:=.seq #[.int i m,x]}).get? b=some o:=λb o O a1 hb=>
  Heap.get?_push_of_some _ (L.extBut b o O (M.extBut b o O (N.extBut b o a1 hb)))
 have z:(j.push {cls:=.type "tuple",data:=.seq #[.int i m,x]}).IsListIter a l (i+1):=by
  obtain⟨o,ho,r⟩:=(B.extBut M.extBut (af3 u)).extBut L.extBut (af3 u);exact(o,Heap.get?_push_of_some _ ho,r)
 generalize j.push {cls:=.type "tuple",data:=.seq #[.int i m,x]}=G at *
 show wpAny _ _ (Builtin.SmallTypes.ownedTupleIsFree (.ref e) >>= _) _ _ (G,D,d,m+1,C);rw[H];have y:∀h',gb h' e a ((i:Int)+1) (rawInt T) true q->Heap.SameBut e G h'->wpAny (model prog w) A.in1 (pure (Fin.done (.ret (.ref K.objs.size))):Sem Fin) (λy s'=>∃v,y=.done (.ret v)/\wpAny (model prog w) A (pure (some v)) Q E s') E (h',D,d,m+1,C):=λh' h b=>wpAny_pure (5,wpAny_pure (hQ h' h (z.extBut b.extBut (af3 u)) (b.extBut _ _ (agr (Heap.lt_size R)) J) (by rw[b.1,I]) λc o c1 c2 f=>b.extBut _ _ c1 (t c o c1 c2 f)));unfold Builtin.SmallTypes.ownedTupleIsFree;refine wpAny_bind (wpAny_bind (wpAny_field S rfl (x:=rawInt T) rfl ?_));show wpAny _ _ (loadIfAlive (T:Int).toNat >>= _) _ _ _;refine wpAny_bind (λ Γ p X=>?_);unfold loadIfAlive;rw[Sem.wp_loadIfAlive];refine(wpAny_pure ?_) Γ p X;rw[ab1,t T _ nT.1 nT.2 hT];rw[if_neg (by simp)];refine wpAny_bind (wpAny_field S rfl (x:=.bool g) rfl ?_);cases g with
 |true=>
  rw[if_neg (by simp)];exact wpAny_pure (y _ S (7,λ_ _=>rfl))
 |false=>
  rw[if_pos (by simp)];exact wpAny_bind (wpAny_setField_rec S (by simp) λh1 Y Z=>wpAny_pure (y h1 Y Z))
theorem uD{e l:Addr}{g:Bool}{i:Nat}{items:Array Value}{c:Value}{Q:Option Value->Shared->Prop}(r:A.handled=none)
  (j:gb s.heap e a i q g c)(f:s.heap.IsListIter a l i)(p:s.heap.IsList l items)(m:items[i]?=none)
  (u:∀h',Heap.ExtBut a s.heap h'->Q none {s with heap:=h'}):wpAny (model prog w) A (pyNext (.ref e)) Q E s:=by
 have k:s.TypeIs (.ref e) "enumerate":=(_,j,7)
 unfold pyNext
 refine wpAny_bind (wpAny_attempt (wpAny_callSpecial?_slot (name:=Str.ofString "__next__") k F.slot_enumerate_next
  (wpAny_call_entry F.slot_enumerate_next k F.entry_enumerate_next ?_ (F.args_enumerate_next_1 _))))
 show wpAny _ _ (field (.ref e) 2 >>= _) _ _ _;refine wpAny_bind (wpAny_field j rfl (x:=.ref a) rfl ?_);refine wpAny_bind (wpAny_nextOf_list_end r f p m λh' x h d=>?_);obtain⟨o,n,t⟩:=d
 refine wpAny_bind (wpAny_isInstance (T := "StopIteration") (b:=true) (o,n,t) isSubtype_stop ?_)
 exact wpAny_pure (u _ h)
namespace F
theorem enum_no_len:typeLookup (.type "enumerate") "__len__" = pure none:=by rw[typeLookup_type,builtinLookup_eq_fast];kernel_rfl
theorem enum_no_hint:typeLookup (.type "enumerate") "__length_hint__" = pure none:=by rw[typeLookup_type,builtinLookup_eq_fast];kernel_rfl
end F
structure Fb(e it l:Addr)(xs:Array Value)(N i:Nat)(h:Heap):Prop where
 en:∃f g x,gb h e it i f g x/\(f=.none/\g=false \/ ∃T:Nat,f=rawInt T/\N<=T /\ ∃o,h.get? T=some o)
 ii:h.IsListIter it l i
 li:h.IsList l xs
 sz:h.objs.size=N+i
 tp:∀j x,j<i->xs[j]?=some x -> ∃t,h.get? (N+j)=some {cls:=.type "tuple",data:=.seq #[.int j t,x]}
def pN(N i:Nat):Array Value:=((ab5 i).map λj=>Value.ref (N+j)).toArray
theorem Fx(N i:Nat):(pN N i).push (.ref (N+i))=pN N (i+1):=by simp[pN,agd]
theorem vQ(N i:Nat):(pN N i).size=i:=by simp[pN]
section
variable{e it l:Addr}{xs:Array Value}{N:Nat}
theorem Fb.next{E:Value->Shared->Prop}{i:Nat}{x:Value}{Q:Option Value->Shared->Prop}(st:Fb e it l xs N i s.heap)(p:e≠it)(D:l≠e)(C:l≠it)(I:e<N)(G:it<N)(z:xs[i]?=some x)
  (J:∀h' tk,Fb e it l xs N (i+1) h'->(∀b o,b≠e->b≠it->s.heap.get? b=some o->h'.get? b=some o)->Q (some (.ref (N+i))) {s with heap:=h',toks:=tk}):
  wpAny (model prog w) A (pyNext (.ref e)) Q E s:=by
 obtain⟨f,g,L,r,H⟩:=st.en;have d:∀{b:Nat},N<=b->b≠e/\b≠it:=λh=>(agr (aai I h),agr (aai G h))
 have mk:∀h',(∃f g x,gb h' e it ((i:Int)+1) f g x/\(∃T:Nat,f=rawInt T/\N<=T /\ ∃o,h'.get? T=some o))->h'.IsListIter it l (i+1)->h'.get? s.heap.objs.size=some {cls:=.type "tuple",data:=.seq #[.int i s.toks,x]}->h'.objs.size=s.heap.objs.size+1 ->
   (∀b o,b≠e->b≠it->s.heap.get? b=some o->h'.get? b=some o)->Q (some (.ref s.heap.objs.size)) {s with heap:=h',toks:=s.toks+1}:=λh' ⟨f,g,y,n,K⟩ m a c k=>by
  rw[st.sz]at a c ⊢;refine J h' _ ((f,g,y,n,.inr K),m,st.li.at λo q=>k l o D C q,c,λj y B v=>?_) k;rcases Nat.lt_succ_iff_lt_or_eq.mp B with B|rfl
  ·obtain⟨t,ht⟩:=st.tp j y B v;exact(t,k _ _ (d (agf _ _)).1 (d (agf _ _)).2 ht)
  ·rw[z]at v;cases v;exact(_,a)
 rcases H with ⟨rfl,rfl⟩|⟨T,rfl,u,o,F⟩
 ·exact wpAny_pyNext_enum_item r st.ii st.li z p λh' n m a c k=>mk h' (8,_,n,5,by rw[st.sz];exact agf _ _,_,a) m a c k
 ·exact Fq r F (d u) st.ii st.li z p λh' n m a c k=>mk h' (8,_,n,5,u,_,k _ _ (d u).1 (d u).2 F) m a c k
theorem Fb.stay{i:Nat}{h':Heap}(st:Fb e it l xs N i base)(v:S<N)(p:S≠e)(n:S≠it)(m:S≠l)(z:h'.objs.size=base.objs.size)(k:∀b o,b≠S->base.get? b=some o->h'.get? b=some o):Fb e it l xs N i h':=by
 have d:∀{b:Nat},N<=b->b≠S:=λbase=>agr (aai v base);obtain⟨f,g,x,B,y⟩:=st.en;refine((f,g,x,k _ _ p.symm B,y.imp id λ⟨T,a,b,o,c⟩=>(T,a,b,o,k _ _ (d b) c)),st.ii.at λo q=>k _ o n.symm q,st.li.at λo q=>k _ o m.symm q,z.trans st.sz,λj x u r=>?_);obtain⟨t,ht⟩:=st.tp j x u r;exact(t,k _ _ (d (agf _ _)) ht)
theorem JC{R:Result->Shared->Prop}(W:A.handled=none)(n:Value)(D:e≠it)(G:l≠e)(E:l≠it)(X:e<N)(M:it<N)(Z:S<N)(J:S≠e)(v:S≠it)(Q:S≠l)(hn:xs.size<=sizeLine):
  ∀(k i:Nat) (s:Shared) (d:Array Value) (c:Nat),xs.size-i=k->i<=xs.size->d=pN N i->Fb e it l xs N i s.heap->s.heap.get? S=some {cls:=.type "list",dict:=none,data:=.seq d c,slots:=#[]} ->
  (∀h' tk c',(∀b o,b≠S->b≠e->b≠it->s.heap.get? b=some o->h'.get? b=some o)->h'.get? S=some {cls:=.type "list",dict:=none,data:=.seq (pN N xs.size) c',slots:=#[]} ->
   (∀j x,xs[j]?=some x -> ∃t,h'.get? (N+j)=some {cls:=.type "tuple",data:=.seq #[.int j t,x]})->R (.ok (.ret n)) {s with heap:=h',toks:=tk}) ->
  codeAny (model prog w) A (.builtin "list.extend.loop" ([.ref S,.ref e,n],[])) R s:=by
 intro k
 induction k with
 |zero=>
  intro i s d c V H z m h y;subst z;obtain rfl:i=xs.size:=by lia
  refine codeAny_builtin F.entry_extend_loop ?_;rw[Around.under_plainId F.plain_extend_loop _];obtain⟨f,g,a0,I,_⟩:=m.en;refine wpAny_bind (uD (A:=A.in1) W I m.ii m.li (Array.getElem?_eq_none (aac _)) λh' k=>?_);refine wpAny_pure (y h' s.toks c (λb o _ _ u q=>k b o u q) (k _ _ v h) λj x L=>?_);obtain⟨t,ht⟩:=m.tp j x (ag9.mp L).1 L;exact(t,k _ _ (agr (aai M (agf _ _))) ht)
 |succ k U=>
  intro i s d c V H z m h y;subst z;refine codeAny_builtin F.entry_extend_loop ?_;rw[Around.under_plainId F.plain_extend_loop _];refine wpAny_bind (m.next D G E X M (ahQ (show i<xs.size by lia)) λh' tk C K=>?_);have r:=K _ _ J v h;show wpAny _ A.in1 (updateSeq S (·.push (.ref (N+i))) >>= _) _ _ _;have p:∀b o,b≠S->h'.get? b=some o->(h'.update S (Obj.mapSeq (·.push (.ref (N+i))))).get? b=some o:=λb o Y q=>(Heap.get?_update_other _ _ (af3 Y)).trans q;refine wpAny_bind (wpAny_updateSeq r rfl (wpAny_pure (plainId_quiet F.plain_extend_loop _,U (i+1) _ _ _ ⋯ ⋯ (Fx N i) (C.stay Z J v Q (Heap.size_update ..) p) (Heap.get?_update_self _ r rfl) λh2 B c2 T a b=>y h2 B c2 (λb o P O u q=>T b o P O u (p b o P (K b o O u q))) a b)) ?_ ?_)
  ·rw[vQ];lia
  ·show ((pN N i).push _).size<=sizeLine+1;rw[Array.size_push,vQ];lia
theorem uO{E:Value->Shared->Prop}{Q:Value->Shared->Prop}(hh:A.handled=none)(L:e≠it)(hn:xs.size<=sizeLine)(c:IsEnum s.heap e it 0 .none)(u:s.heap.IsListIter it l 0)(T:s.heap.IsList l xs)
  (hQ:∀h' tk I,(∀b o,b≠e->b≠it->s.heap.get? b=some o->h'.get? b=some o)->h'.get? s.heap.objs.size=some {cls:=.type "list",dict:=none,data:=.seq (pN (s.heap.objs.size+1) xs.size) I,slots:=#[]} ->
   (∀j x,xs[j]?=some x -> ∃t,h'.get? (s.heap.objs.size+1+j)=some {cls:=.type "tuple",data:=.seq #[.int j t,x]})->Q (.ref s.heap.objs.size) {s with heap:=h',toks:=tk}):
  wpAny (model prog w) A (call (.type "list") [.ref e]) Q E s:=by
 obtain⟨oi,h,ci,di⟩:=id u;obtain⟨ol,d,H,_,dl⟩:=id T;have le:=Heap.lt_size c;have Z:=Heap.lt_size h;have ll:=Heap.lt_size d
 have O:l≠e:=λz=>by rw[z,c]at d;cases d;exact absurd H (show Value.type "enumerate" ≠ Value.type "list" by decide)
 have M:l≠it:=λz=>by rw[z,h]at d;cases d;rw[ci]at H;exact absurd H ∅
 refine callType_codes (Q₁:=λr g=>r=.ref s.heap.objs.size/\g={s with heap:=s.heap.push {cls:=.type "list",data:=.seq #[]}}) F.called_list (F.typeCall_list_1 _) F.entry_list_init
  (code_list_new _ (7,7)) λr g v=>?_
 obtain⟨rfl,rfl⟩:=v
 have D:(s.heap.push {cls:=.type "list",data:=.seq #[]}).get? s.heap.objs.size=some {cls:=.type "list",data:=.seq #[]}:=Heap.get?_push_size _ rfl
 have y:∀b o,s.heap.get? b=some o->(s.heap.push {cls:=.type "list",data:=.seq #[]}).get? b=some o:=λb o e=>Heap.get?_push_of_some _ e
 have K:(s.heap.push {cls:=.type "list",data:=.seq #[]}).objs.size=s.heap.objs.size+1:=Heap.size_push ..
 have f:∀{b o},s.heap.get? b=some o->b≠s.heap.objs.size:=λq=>aap (Heap.lt_size q);exists (_,D,7),F.args_list_init_2 _ _
 generalize s.heap.push {cls:=.type "list",data:=.seq #[]}=n at *
 generalize a1:s.heap.objs.size=N at *
 have a0:Shared.TypeIs {s with heap:=n} (.ref e) "enumerate":=(_,y _ _ c,7)
 show wpAny _ _ (do let J <-Builtin.List.listItems (.ref N);Builtin.List.listUpdate (.ref N) (λ_=>#[]);letGo J.toList.reverse;Builtin.List.listExtendWith (.ref N) (.ref e) .none) _ _ _;refine wpAny_bind ?_;unfold Builtin.List.listItems;refine wpAny_bind (wpAny_seqItems D rfl (wpAny_pure ?_));show wpAny _ _ (updateSeq N (λ_=>#[]) >>= λ_=>letGo (#[]:Array Value).toList.reverse >>= λ_=>Builtin.List.listExtendWith (.ref N) (.ref e) .none) _ _ _;refine wpAny_bind (wpAny_updateSeq D rfl ?_);have V:=Heap.get?_update_self (Obj.mapSeq (λ_=>(#[]:Array Value))) D rfl;have G:∀b o,b≠N->n.get? b=some o->(n.update N (Obj.mapSeq (λ_=>(#[]:Array Value)))).get? b=some o:=λb o C q=>(Heap.get?_update_other _ _ (af3 C)).trans q;have X:(n.update N (Obj.mapSeq (λ_=>(#[]:Array Value)))).objs.size=n.objs.size:=Heap.size_update ..;refine wpAny_bind (wpAny_letGo ?_);generalize n.update N (Obj.mapSeq (λ_=>(#[]:Array Value)))=p at *
 have i:Shared.TypeIs {s with heap:=p} (.ref e) "enumerate":=(_,G _ _ (f c) (y _ _ c),7)
 unfold Builtin.List.listExtendWith;refine wpAny_bind (wpAny_typeOf i ?_);have h1:Builtin.List.listSameRef (.ref N) (.ref e)=false:=by simp[Builtin.List.listSameRef,(f c).symm]
 have R:(Value.type "enumerate" == Value.type "list")=false:=by decide
 have h3:(Value.type "enumerate" == Value.type "tuple")=false:=by decide
 simp only[h1,R,h3,ahV,adT,if_false];refine wpAny_bind (wpAny_pyIter_enum (G _ _ (f c) (y _ _ c)) ?_);refine wpAny_bind (wpAny_holding ?_);unfold Builtin.List.listLengthHint;refine wpAny_bind (wpAny_specialOf i F.enum_no_len ?_)
 show wpAny _ _ (specialOf (Value.ref e) (Str.ofString "__length_hint__") >>= _) _ _ _
 refine wpAny_bind (wpAny_specialOf i F.enum_no_hint (wpAny_pure ?_));refine wpAny_ite_split (λ_=>?_) (λP=>absurd rfl P);refine wpAny_bind (wpAny_rule (wpAny_bind ?_));show wpAny _ _ (updateSeq N (·.push .none) >>= λ_=>updateSeq N (·.pop)) _ _ _;refine wpAny_bind (wpAny_updateSeq V rfl ?_);have U:=Heap.get?_update_self (Obj.mapSeq (·.push Value.none)) V rfl;refine wpAny_updateSeq (hz:=by seq_fits) U rfl ?_;have m:=Heap.get?_update_self (Obj.mapSeq (·.pop)) U rfl;have Y:∀b o,b≠N->p.get? b=some o->((p.update N (Obj.mapSeq (·.push Value.none))).update N (Obj.mapSeq (·.pop))).get? b=some o:=λb o C q=>(Heap.get?_update_other _ _ (af3 C)).trans ((Heap.get?_update_other _ _ (af3 C)).trans q);have W:((p.update N (Obj.mapSeq (·.push Value.none))).update N (Obj.mapSeq (·.pop))).objs.size=N+1:=by rw[Heap.size_update,Heap.size_update,X,K]
 have B:∀b o,s.heap.get? b=some o->((p.update N (Obj.mapSeq (·.push Value.none))).update N (Obj.mapSeq (·.pop))).get? b=some o:=λb o q=>Y b o (f q) (G b o (f q) (y b o q));exact wpAny_pure (plainId_quiet F.plain_extend_loop _,JC (A:=A.in1) (N:=N+1) hh .none L O M (agj le) (agj Z) (age _) (f c).symm (f h).symm (f d).symm hn _ 0 _ _ _ rfl (aaF _) rfl
  ((8,_,B _ _ c,.inl (7,7)),u.at λo q=>B _ o q,T.at λo q=>B _ o q,W,λj x hj=>absurd hj (agu _)) m λh' tk I k a b=>(7,hQ h' tk I (λb o b2 b3 q=>k b o (f q) b2 b3 (B b o q)) a b))
end
end PySem
namespace L2
open PySem.Spec PyProof.Rows PySem.W
theorem Inv.laidMany{t':Nat}(I:Inv X π σ H s)(k:∀b u,s.heap.get? b=some u->h'.get? b=some u)(a:∀b u,H b=some u->H' b=some u)(f:∀b u,s.heap.get? b=some u->H b=none->H' b=none)
  (g:∀b u,H b=none->H' b=some u->bJ X.prog X.w H' h' b u):Inv X π σ H' {s with heap:=h',toks:=t'}:=by
 refine I.un (λb u q _ _ _=>k b u q,λb u q _ _ _=>(u.slots,k b u q),λb u q n _=>f b u q n,λb u q _=>(u,k b u q),λb h q=>a b _ q,λb u h q=>a b _ q,λb i q=>(#[],by rw[a b _ q];simp)) λb u e=>?_;cases d:H b with
 |none=>exact g b u d e
 |some v=>
  have:=a b v d;rw[e]at this;cases this;exact(I.hok b u d).stay (λc v _ q=>k c v q) (λc q=>a c _ q) λc h q=>a c _ q
inductive KY(K:PySem.W.Frag)(Q:VK)(vs:List V)(H1:Hp):Prop
 |mk (a xs:_) (_:vs=[.ref a]) (_:Tg K H1 a xs) (_:∀(l N:Nat) H',H1 l=none->(∀b o,H1 b=some o->H' b=some o)->H' l=some (.lst ((ab5 xs.length).map λj=>V.ref (N+j)))->(∀(j:Nat) x,xs[j]?=some x->H' (N+j)=some (.tup [.int j,x]))->Q (.ref l) H')
def Q4(K:PySem.W.Frag)(a:TA):TE:=λ σ H Q=>a σ H (KY K Q)
theorem Dl(N n:Nat):Vals ((ab5 n).map λj=>V.ref (N+j)) ((ab5 n).map λj=>Value.ref (N+j)):=by
 generalize ab5 n=l
 induction l with
 |nil=>exact .nil
 |cons j l a=>exact .cons (show RelV (.ref _) (.ref _)from rfl) a
theorem Bt{a:Expr}{p pos f:Pos}(hc:X.calm=true)(C:Gl X "list")(hm:X.mg "list" = none)(hv:bootBuiltins "list" = some (.type "list"))(O:Gl X "enumerate")(L:X.mg "enumerate" = none)(G:bootBuiltins "enumerate" = some (.type "enumerate"))
  (ha:PA X [a] t)(hs:starEach [a] X.env=[(pq false (eval a X.env))]:=by rfl)
  (W:starEach [.Call (.Name "enumerate" apos) [a] [] f] X.env=(pq false (eval (.Call (.Name "enumerate" apos) [a] [] f) X.env))::starEach [] X.env:=by rfl)(J:(backTo pos (starEach [] X.env)).any (·.1)=false:=by rfl):
  PE X (.Call (.Name "list" p) [.Call (.Name "enumerate" apos) [a] [] f] [] pos) (Q4 X.K t):=by
 intro π s σ H Q I h;refine wpAny_Call_Name_kw (cZ I C hm hv ?_);refine PyProof.Rows.callWith_type1 ?_ W J;rw[W]
 show wpAny _ _ (spliced ((pq false (eval (.Call (.Name "enumerate" apos) [a] [] f) X.env))::backTo pos (starEach [] X.env))) _ _ s
 refine Calls.spliced_cons ?_;refine Call_ (cZ I O L G (PyProof.Rows.callWith_type1 (Th (ha f π s σ H _ I h) λus g ⟨vs,w,D,r1,q1⟩=>?_) hs rfl));obtain⟨b,m,e,hq,q⟩:=q1;subst e;obtain⟨u,rfl,rx⟩:=vals1 r1;cases rx;obtain⟨z,S,T,hz⟩:=D.list hq;have hl:=S.length;have A:z.toArray.size=m.length:=by rw[aaB];exact hl.symm
 refine call_enumerate_list T.isList λh1 P M l U=>?_;refine Calls.spliced_nil ?_;refine uO (s:={g with heap:=h1}) (xs:=z.toArray) (I.ok.hd hc) (Nat.succ_ne_self _) (by rw[A];exact hz) P M (T.isList.at λo e=>U _ o e) λh2 tk c' k2 E B=>?_
 replace l:({g with heap:=h1}:Shared).heap.objs.size=g.heap.objs.size+2:=l
 rw[l]at E B ⊢;rw[A]at E;have C:∀(b:Nat) u,g.heap.get? b=some u->b<g.heap.objs.size:=λb u e=>Heap.lt_size e;have hf:∀(b:Nat) u,w b=some u->b<g.heap.objs.size:=λb u e=>by
  rcases aaq b g.heap.objs.size with c|c
  ·exact c
  ·rw[D.hok.fresh c]at e;cases e
 have F:∀b u,g.heap.get? b=some u->h2.get? b=some u:=λb u e=>by
  have Y:=C b u e;exact k2 b u (aap (agj Y)) (aap Y) (U b u e)
 have fr:∀k,w (g.heap.objs.size+k)=none:=λk=>D.hok.fresh (agf _ _);generalize g.heap.objs.size=N at *;obtain⟨i,r⟩:∃i:Hp,∀b:Nat,i b=if b=N+2 then some (.lst ((ab5 m.length).map λj=>V.ref (N+2+1+j)))else if N+2<b then (m[b-(N+2+1)]?).map λx=>.tup [.int ((b-(N+2+1):Nat):Int),x]else w b:=(λb=>_,λb=>rfl)
 have y:∀b:Nat,b<N->i b=w b:=λb h=>by rw[r,if_neg ⋯,if_neg ⋯]
 have R:∀b u,w b=some u->i b=some u:=λb u e=>(y b (hf b u e)).trans e;have hT:∀(j:Nat) x,m[j]?=some x->i (N+2+1+j)=some (.tup [.int j,x]):=λj x e=>by
  rw[r,if_neg ⋯,if_pos ⋯,aeC,e];rfl
 have Z:i (N+2)=some (.lst ((ab5 m.length).map λj=>V.ref (N+2+1+j))):=by rw[r,if_pos rfl]
 refine(.ref (N+2),i,D.laidMany (t':=tk) F R (λb u e n=>(y b (C b u e)).trans n) λb u n e=>?_,7,q _ (N+2+1) i (fr 2) R Z hT);rcases ago b (N+2)with c|rfl|c
 ·rw[r,if_neg (aap c),if_neg (Nat.not_lt_of_lt c),n]at e;cases e
 ·rw[Z]at e;cases e;exact(by rw[aaa,afE];lia,_,c',Dl _ _,E)
 ·obtain⟨j,rfl⟩:∃j,b=N+2+1+j:=(_,(Nat.add_sub_cancel' c).symm);rw[r,if_neg (agr c),if_pos c,aeC]at e;obtain⟨x,hx,rfl⟩:=abA.mp e;obtain⟨v,b1,b2⟩:=S.get hx;obtain⟨d,ht⟩:=B j v (by rw[ag2];exact b1);exact((by show 2<=sizeLine;decide),[.int j d,v],.cons (d,7) (.cons b2 .nil),_,ht,7,5)
end L2
namespace Tw
def top(i:Nat):Stmt:=PySem.Challenge.pw_thinwood_k77_longest_word.main.body.getD i (.Pass (0,0,0,0))
abbrev vY:Stmt:=top 13
theorem Im:aC ["bits"] ["bits"] (δ vY):=Tn
abbrev mz:Stmt:=top 14
theorem pK:aC ["bits","bit"] ["bits"] (δ mz):=Tn
abbrev oN:Stmt:=top 15
theorem jo:aC ["bits","block","bit"] ["bits"] (δ oN):=Tn
abbrev vh:Stmt:=top 16
theorem Hk:aC ["block","k"] ["block","k"] (δ vh):=Tn
abbrev qj:Stmt:=top 17
theorem Fg:aC ["block","upto"] ["block","upto"] (δ qj):=Tn
abbrev q9:Stmt:=top 18
theorem Ed:aC ["block","upto"] ["block","upto"] (δ q9):=Tn
abbrev uX:Stmt:=top 19
theorem jY:aC ["block","nth","ones","k","bit"] ["block","nth"] (δ uX):=Tn
abbrev rD:Stmt:=top 20
theorem iR:aC ["block","upto","nets","net","bit"] ["block","upto"] (δ rD):=Tn
abbrev vz:Stmt:=top 21
theorem JL:aC ["block","upto"] ["block","upto"] (δ vz):=Tn
abbrev iC:Stmt:=top 22
theorem gG:aC ["block","start","stop","goal","k","net"] ["block","start","stop","goal"] (δ iC):=Tn
abbrev jz:Stmt:=top 23
theorem dB:aC ["block","start","stop","goal","found","k","net"] ["block","start","stop","goal"] (δ jz):=Tn
abbrev cF:Stmt:=top 24
theorem yJ:aC ["look","first"] ["look","first"] (δ cF):=Tn
abbrev rN:Stmt:=top 27
theorem lB:aC ["numbers","size","nodes","node"] ["numbers"] (δ rN):=Tn
abbrev rC:Stmt:=top 28
theorem oF:aC ["many","size"] ["many"] (δ rC):=Tn
abbrev mH:Stmt:=top 29
theorem yL:aC ["one","other"] ["one","other"] (δ mH):=Tn
abbrev gP:Stmt:=top 30
theorem jQ:aC ["many","look","start","goal","node"] ["many","look","start","goal"] (δ gP):=Tn
abbrev iJ:Stmt:=top 31
theorem lG:aC ["many","look","stop","goal","node"] ["many","look","stop","goal"] (δ iJ):=Tn
abbrev gF:Stmt:=top 32
theorem dF:aC ["size","look","node","goal","side","found"] ["size","look","node","goal","side"] (δ gF):=Tn
abbrev gQ:Stmt:=top 33
theorem qY:aC ["many","start","stop"] ["many","start","stop"] (δ gQ):=Tn
abbrev yG:Stmt:=top 34
theorem dR:aC ["many","start","stop","size","low","high","lefts","rights"] ["many","start","stop"] (δ yG):=Tn
abbrev oA:Stmt:=top 36
theorem sG:aC ["bits","blocks"] ["bits"] (δ oA):=Tn
abbrev nZ:Stmt:=top 37
theorem lU:aC ["blocks","ahead","block"] ["blocks"] (δ nZ):=Tn
abbrev jy:Stmt:=top 38
theorem vW:aC ["at","most"] ["at","most"] (δ jy):=Tn
abbrev vM:Stmt:=top 39
theorem HF:aC ["tables","look","at"] ["tables","look","at"] (δ vM):=Tn
abbrev qM:Stmt:=top 40
theorem iV:aC ["tables","look","at","many","ahead","number","within"] ["tables","look","at"] (δ qM):=Tn
abbrev kY:Stmt:=top 41
theorem wY:aC ["tables","look","at"] ["tables","look","at"] (δ kY):=Tn
abbrev lO:Stmt:=top 42
theorem j0:aC ["tables","look","nth","ahead","number"] ["tables","look","nth"] (δ lO):=Tn
abbrev lM:Stmt:=top 43
theorem z8:aC ["nth","many"] ["nth","many"] (δ lM):=Tn
abbrev fG:Stmt:=top 44
theorem bN:aC ["numbers","goal","low","high","middle"] ["numbers","goal"] (δ fG):=Tn
abbrev rF:Stmt:=top 46
theorem iZ:aC ["bits","level","at","bit"] ["bits"] (δ rF):=Tn
abbrev fQ:Stmt:=top 47
theorem pP:aC ["bits"] ["bits"] (δ fQ):=Tn
abbrev gB:Stmt:=top 48
theorem cI:aC ["bits","row","tables","blocks","lows"] ["bits"] (δ gB):=Tn
abbrev u6:Stmt:=top 49
theorem Hx:aC ["tables","number","block"] ["tables","number","block"] (δ u6):=Tn
abbrev qx:Stmt:=top 50
theorem Dy:aC ["tables","number"] ["tables","number"] (δ qx):=Tn
abbrev iz:Stmt:=top 51
theorem tX:aC ["number","at"] ["number","at"] (δ iz):=Tn
abbrev lA:Stmt:=top 52
theorem xn:aC ["number","upto"] ["number","upto"] (δ lA):=Tn
abbrev jD:Stmt:=top 53
theorem v7:aC ["tables"] ["tables"] (δ jD):=Tn
abbrev cu:Stmt:=top 54
theorem oW:aC ["tables","nodes"] ["tables"] (δ cu):=Tn
abbrev u5:Stmt:=top 55
theorem HJ:aC ["tables","look","at"] ["tables","look","at"] (δ u5):=Tn
abbrev j5:Stmt:=top 56
theorem gk:aC ["tables","look","at","goal","number","found","further"] ["tables","look","at","goal"] (δ j5):=Tn
abbrev iT:Stmt:=top 57
theorem gH:aC ["tables","look","number","at","goal","start","stop"] ["tables","look","number","at","goal"] (δ iT):=Tn
abbrev iG:Stmt:=top 58
theorem tU:aC ["number","within"] ["number","within"] (δ iG):=Tn
abbrev mG:Stmt:=top 59
theorem qd:aC ["tables","look","at","goal","found"] ["tables","look","at","goal"] (δ mG):=Tn
abbrev gJ:Stmt:=top 60
theorem dH:aC ["tables","look","upto","goal","number","found","further"] ["tables","look","upto","goal"] (δ gJ):=Tn
abbrev jN:Stmt:=top 61
theorem lN:aC ["tables","look","number","upto","goal","stop"] ["tables","look","number","upto","goal"] (δ jN):=Tn
abbrev gA:Stmt:=top 62
theorem qR:aC ["tables","look","at","bit"] ["tables","look","at","bit"] (δ gA):=Tn
abbrev qN:Stmt:=top 63
theorem FQ:aC ["tables","look","at"] ["tables","look","at"] (δ qN):=Tn
abbrev rz:Stmt:=top 64
theorem DQ:aC ["tables","look","at"] ["tables","look","at"] (δ rz):=Tn
abbrev iK:Stmt:=top 67
theorem gO:aC ["depths","ahead","depth"] ["depths"] (δ iK):=Tn
abbrev jx:Stmt:=top 68
theorem cY:aC ["depths","bits","unclosed","depth"] ["depths"] (δ jx):=Tn
abbrev lR:Stmt:=top 69
theorem zx:aC ["depths"] ["depths"] (δ lR):=Tn
abbrev jM:Stmt:=top 72
theorem mW:aC ["signs","sign"] ["signs"] (δ jM):=Tn
abbrev j9:Stmt:=top 73
theorem cT:aC ["signs","kinds","aheads","blocks","bits","row"] ["signs"] (δ j9):=Tn
abbrev jL:Stmt:=top 74
theorem eX:aC ["kinds","signs","ranks","rank","kind"] ["kinds","signs"] (δ jL):=Tn
abbrev jF:Stmt:=top 75
theorem uV:aC ["kind_count"] ["kind_count"] (δ jF):=Tn
abbrev lz:Stmt:=top 76
theorem cU:aC ["ranks","kind_count","rows","order","k","bits"] ["ranks","kind_count"] (δ lz):=Tn
abbrev vf:Stmt:=top 77
theorem qH:aC ["order","bits","noughts","ones"] ["order","bits"] (δ vf):=Tn
abbrev lJ:Stmt:=top 78
theorem fu:aC ["tables","look","levels","first","ahead"] ["tables","look"] (δ lJ):=Tn
abbrev jO:Stmt:=top 79
theorem iM:aC ["level","at","bit","row","look"] ["level","at","bit"] (δ jO):=Tn
abbrev ji:Stmt:=top 80
theorem uf:aC ["row"] ["row"] (δ ji):=Tn
abbrev qy:Stmt:=top 81
theorem eE:aC ["tables","look","at","rank","place","level","bit"] ["tables","look","at"] (δ qy):=Tn
abbrev j8:Stmt:=top 83
theorem wA:aC ["tables"] ["tables"] (δ j8):=Tn
abbrev kO:Stmt:=top 84
theorem xm:aC ["tables","node"] ["tables","node"] (δ kO):=Tn
abbrev qU:Stmt:=top 85
theorem Du:aC ["tables","look","at"] ["tables","look","at"] (δ qU):=Tn
abbrev oh:Stmt:=top 86
theorem Bx:aC ["tables","look","node"] ["tables","look","node"] (δ oh):=Tn
abbrev n6:Stmt:=top 87
theorem sZ:aC ["tables","look","node","behind"] ["tables","look","node"] (δ n6):=Tn
abbrev kZ:Stmt:=top 88
theorem nQ:aC ["tables","look","node","behind"] ["tables","look","node"] (δ kZ):=Tn
abbrev jE:Stmt:=top 92
theorem iW:aC ["words","word","letter"] ["words"] (δ jE):=Tn
abbrev gK:Stmt:=top 93
theorem fW:aC ["words","texts","word"] ["words"] (δ gK):=Tn
abbrev oJ:Stmt:=top 94
theorem dz:aC ["words","texts","depths","letters","whole","word","ends"] ["words"] (δ oJ):=Tn
abbrev kh:Stmt:=top 95
theorem dW:aC ["words","parts","tree","letters","ends"] ["words"] (δ kh):=Tn
abbrev fV:Stmt:=top 96
theorem o5:aC ["tables"] ["tables"] (δ fV):=Tn
abbrev dJ:Stmt:=top 97
theorem lZ:aC ["tables"] ["tables"] (δ dJ):=Tn
abbrev lH:Stmt:=top 98
theorem yU:aC ["tables","look","node"] ["tables","look","node"] (δ lH):=Tn
abbrev iU:Stmt:=top 99
theorem ug:aC ["tables","look"] ["tables","look"] (δ iU):=Tn
abbrev uI:Stmt:=top 100
theorem Il:aC ["tables","look","node"] ["tables","look","node"] (δ uI):=Tn
abbrev lw:Stmt:=top 101
theorem jH:aC ["tables","look","node","letter","young"] ["tables","look","node","letter"] (δ lw):=Tn
abbrev rB:Stmt:=top 102
theorem kJ:aC ["tables","look","text","nodes","letter","young"] ["tables","look","text"] (δ rB):=Tn
abbrev kI:Stmt:=top 103
theorem jB:aC ["tables","look","text","length","node"] ["tables","look","text"] (δ kI):=Tn
abbrev mV:Stmt:=top 105
theorem zX:aC ["_law_found"] ["_law_found"] (δ mV):=Tn
abbrev mR:Stmt:=top 106
theorem dD:aC ["_law_number","_law_kinds","_law_first","_law_many","_law_word_here","_law_k","_law_at"] ["_law_number","_law_kinds","_law_first","_law_many"] (δ mR):=Tn
abbrev nW:Stmt:=top 107
theorem gw:aC ["_law_cell","_law_words_here","_law_number","_law_way","_law_old","_law_at"] ["_law_cell","_law_words_here"] (δ nW):=Tn
abbrev mq:Stmt:=top 108
theorem dC:aC ["_law_script","_law_words_here","_law_room","_law_cell","_law_word_here"] ["_law_script"] (δ mq):=Tn
abbrev oE:Stmt:=top 109
theorem eQ:aC ["_law_cell","_law_words_here","_law_number","_law_old","_law_way","_law_at"] ["_law_cell","_law_words_here"] (δ oE):=Tn
abbrev cN:Stmt:=top 110
theorem sJ:aC ["_law_blocks","_law_seen","_law_told"] ["_law_blocks","_law_seen"] (δ cN):=Tn
abbrev lY:Stmt:=top 111
theorem oU:aC ["_law_seen","_law_size","_law_number"] ["_law_seen","_law_size"] (δ lY):=Tn
abbrev jw:Stmt:=top 112
theorem fj:aC ["_law_text_here","_law_words_here","_law_best","_law_many"] ["_law_text_here","_law_words_here"] (δ jw):=Tn
abbrev Li:Stmt:=top 113
theorem mO:aC ["_law_script","_law_words_here","_law_tables","_law_blocks","_law_text_here","_law_seen","_law_found","_law_due"] ["_law_script"] (δ Li):=Tn
abbrev bw:Stmt:=(μ cF).getD 0 (.Pass (0,0,0,0))
abbrev aM:pO:=lamOf bw "look_from.<locals>.<lambda>" ["number"] ["look","first"]
theorem jP:pR ["number","look","first"] aM:=(7,7,7,1,7,1,1,1,1)
theorem yX:Cg ["look","first"] "look_from" (δ cF) aM [0,1] (λL=>[L+1,L+2]):=(λ_ _ _=>rfl,λ_ _ _=>rfl,λ_ _ _=>rfl,λL=>by simp,λ_=>rfl,λL f c j a h=>match j,h with|0,h=>("look",0,by cases h;rfl,1,7,7)|1,h=>("first",(1),by cases h;rfl,1,7,7)|j+2,h=>absurd h (by simp))
abbrev bR:Stmt:=(μ cu).getD 1 (.Pass (0,0,0,0))
abbrev aY:pO:=lamOf bR "heap_look.<locals>.<lambda>" ["node"] ["nodes"]
theorem qp:pR ["node","nodes"] aY:=(7,7,7,1,7,1,1,1,1)
theorem yE:Cg ["tables","nodes"] "heap_look" (δ cu) aY [1] (λL=>[L+1]):=(λ_ _ _=>rfl,λ_ _ _=>rfl,λ_ _ _=>rfl,λL=>by simp,λ_=>rfl,λL f c j a h=>match j,h with|0,h=>("nodes",(1),by cases h;rfl,1,7,7)|j+1,h=>absurd h (by simp))
abbrev eO:Stmt:=(μ cN).getD 0 (.Pass (0,0,0,0))
abbrev bV:vX:=Rp eO "_law_look.<locals>._law_told" ["_law_number"] ["_law_seen","_law_blocks"]
theorem Bv:uL ["_law_number","_law_seen","_law_blocks"] bV:=(7,7,7,1,7,1,1,1,1)
theorem Ci:Qp ["_law_blocks","_law_seen","_law_told"] "_law_look" (δ cN) bV 2 [1,0] (λL=>[L+2,L+1]):=(sJ.nd,7,1,λ_ _ _=>rfl,λ_ _ _=>rfl,7,7,λ_ _ _=>rfl,λL=>by simp,λ_=>rfl,λL f c j a h=>match j,h with|0,h=>("_law_seen",(1),by cases h;rfl,1,7,7,6)|1,h=>("_law_blocks",0,by cases h;rfl,1,7,7,6)|j+2,h=>absurd h (by simp),6,6)
structure FI(K:PySem.W.Frag)(n:Str)(st:Stmt)(f:Addr)(fd:FuncData):Prop where
 a:PySem.W.nsIn K mainGlobals n=some (some (.ref f))
 F:Uh K n n st f fd
theorem Pn{C:List Q->Prop}{a:List Q}(c:a.length=1)(h:∀b,C [b]):C a:=match a,c with | [_],_=>h _
theorem T9{mg:Str->Option Value}{n :Str}{st:Stmt}{f:Addr}{fd:FuncData}(X:K.In h')(G:h'.Ns mainGlobals mg)(d:FI K n st f fd)(b:∀(kV c i:Value) (k:Option Addr) (e j:Value) (l:Value),bindArgs (PySem.W.fnOf n n (ν st) (μ st) (δ st) .none kV c i k e j) ([l],[])=pure (ahg [x] [l]):=by intros;exact rfl):Df K mg n st [x] f fd:=(d.F,d.F.binds (ps:=[x]) λkV c i k e j g m=>Pn (C:=λg=>bindArgs _ (g,[])=pure (ahg ([x]:List Str) g)) m (b kV c i k e j),PySem.W.mg_of X G d.a)
theorem KN{C:List Q->Prop}{a:List Q}(d:a.length=2)(h:∀c b,C [c,b]):C a:=match a,d with | [_,_],_=>h _ _
theorem Ua{mg:Str->Option Value}{n :Str}{st:Stmt}{f:Addr}{fd:FuncData}(X:K.In h')(G:h'.Ns mainGlobals mg)(d:FI K n st f fd)(b:∀(kV c i:Value) (k:Option Addr) (e j:Value) (m l:Value),bindArgs (PySem.W.fnOf n n (ν st) (μ st) (δ st) .none kV c i k e j) ([m,l],[])=pure (ahg [x,qual] [m,l]):=by intros;exact rfl):Df K mg n st [x,qual] f fd:=(d.F,d.F.binds (ps:=[x,qual]) λkV c i k e j g o=>KN (C:=λg=>bindArgs _ (g,[])=pure (ahg ([x,qual]:List Str) g)) o (b kV c i k e j),PySem.W.mg_of X G d.a)
theorem Rk{C:List Q->Prop}{a:List Q}(e:a.length=3)(h:∀d c b,C [d,c,b]):C a:=match a,e with | [_,_,_],_=>h _ _ _
theorem Uj{mg:Str->Option Value}{n :Str}{st:Stmt}{f:Addr}{fd:FuncData}(X:K.In h')(G:h'.Ns mainGlobals mg)(d:FI K n st f fd)(b:∀(kV c i:Value) (k:Option Addr) (e j:Value) (o m l:Value),bindArgs (PySem.W.fnOf n n (ν st) (μ st) (δ st) .none kV c i k e j) ([o,m,l],[])=pure (ahg [x,qual,name] [o,m,l]):=by intros;exact rfl):Df K mg n st [x,qual,name] f fd:=(d.F,d.F.binds (ps:=[x,qual,name]) λkV c i k e j g p=>Rk (C:=λg=>bindArgs _ (g,[])=pure (ahg ([x,qual,name]:List Str) g)) p (b kV c i k e j),PySem.W.mg_of X G d.a)
theorem R1{C:List Q->Prop}{a:List Q}(f:a.length=4)(h:∀e d c b,C [e,d,c,b]):C a:=match a,f with | [_,_,_,_],_=>h _ _ _ _
theorem Vv{mg:Str->Option Value}{n g:Str}{st:Stmt}{f:Addr}{fd:FuncData}(X:K.In h')(G:h'.Ns mainGlobals mg)(d:FI K n st f fd)(b:∀(kV c j:Value) (l:Option Addr) (e k:Value) (q p o m:Value),bindArgs (PySem.W.fnOf n n (ν st) (μ st) (δ st) .none kV c j l e k) ([q,p,o,m],[])=pure (ahg [x,qual,name,g] [q,p,o,m]):=by intros;exact rfl):Df K mg n st [x,qual,name,g] f fd:=(d.F,d.F.binds (ps:=[x,qual,name,g]) λkV c j l e k i r=>R1 (C:=λi=>bindArgs _ (i,[])=pure (ahg ([x,qual,name,g]:List Str) i)) r (b kV c j l e k),PySem.W.mg_of X G d.a)
theorem RT{C:List Q->Prop}{a:List Q}(g:a.length=5)(h:∀f e d c b,C [f,e,d,c,b]):C a:=match a,g with | [_,_,_,_,_],_=>h _ _ _ _ _
theorem Za{mg:Str->Option Value}{n i g:Str}{st:Stmt}{f:Addr}{fd:FuncData}(X:K.In h')(G:h'.Ns mainGlobals mg)(d:FI K n st f fd)(b:∀(kV c k:Value) (m:Option Addr) (e l:Value) (s r q p o:Value),bindArgs (PySem.W.fnOf n n (ν st) (μ st) (δ st) .none kV c k m e l) ([s,r,q,p,o],[])=pure (ahg [x,qual,name,i,g] [s,r,q,p,o]):=by intros;exact rfl):Df K mg n st [x,qual,name,i,g] f fd:=(d.F,d.F.binds (ps:=[x,qual,name,i,g]) λkV c k m e l j t=>RT (C:=λj=>bindArgs _ (j,[])=pure (ahg ([x,qual,name,i,g]:List Str) j)) t (b kV c k m e l),PySem.W.mg_of X G d.a)
set_option genInjectivity false in
set_option genSizeOf false in
structure Ad where
 V0:Addr
 T3:Addr
 V1:Addr
 TV:Addr
 V2:Addr
 Va:Addr
 afk:Addr
 aeF:FuncData
 adx:Addr
 acT:FuncData
 ad9:Addr
 ady:FuncData
 afl:Addr
 aeG:FuncData
 aeH:Addr
 aea:FuncData
 aeI:Addr
 aeb:FuncData
 afm:Addr
 aeJ:FuncData
 aeK:Addr
 aec:FuncData
 afn:Addr
 aeL:FuncData
 abC:Addr
 aa2:FuncData
 aca:Addr
 abD:FuncData
 adz:Addr
 Zb:FuncData
 aeM:Addr
 aed:FuncData
 aeN:Addr
 aee:FuncData
 adA:Addr
 acU:FuncData
 aa4:Addr
 aaS:FuncData
 abE:Addr
 aa5:FuncData
 aa6:Addr
 aaT:FuncData
 aa7:Addr
 aaU:FuncData
 afD:Addr
 afo:FuncData
 aef:Addr
 adB:FuncData
 aeg:Addr
 adC:FuncData
 acb:Addr
 abF:FuncData
 afp:Addr
 aeO:FuncData
 aeP:Addr
 aeh:FuncData
 acV:Addr
 acd:FuncData
 adD:Addr
 acW:FuncData
 adE:Addr
 acX:FuncData
 aaI:Addr
 aaC:FuncData
 aeQ:Addr
 aei:FuncData
 aaV:Addr
 aaJ:FuncData
 aa8:Addr
 aaW:FuncData
 afq:Addr
 aeR:FuncData
 aeS:Addr
 aej:FuncData
 abG:Addr
 aa9:FuncData
 acY:Addr
 ace:FuncData
 acf:Addr
 abH:FuncData
 adF:Addr
 Zc:FuncData
 afr:Addr
 aeT:FuncData
 acZ:Addr
 acg:FuncData
 abI:Addr
 abb:FuncData
 abJ:Addr
 abd:FuncData
 adG:Addr
 ac0:FuncData
 abe:Addr
 aaX:FuncData
 ach:Addr
 abK:FuncData
 abf:Addr
 aaY:FuncData
 aeU:Addr
 aek:FuncData
 aeV:Addr
 ael:FuncData
 abL:Addr
 abg:FuncData
 aci:Addr
 abM:FuncData
 adH:Addr
 ac1:FuncData
 acj:Addr
 abN:FuncData
 ac2:Addr
 ack:FuncData
 acl:Addr
 abO:FuncData
 acn:Addr
 abP:FuncData
 ac3:Addr
 aco:FuncData
 afs:Addr
 aeW:FuncData
 adI:Addr
 ac4:FuncData
 acp:Addr
 abQ:FuncData
 abR:Addr
 abh:FuncData
 aeX:Addr
 aem:FuncData
 ac5:Addr
 acq:FuncData
 ac6:Addr
 acr:FuncData
 aeY:Addr
 aen:FuncData
 aeo:Addr
 adJ:FuncData
 aep:Addr
 adK:FuncData
 ac7:Addr
 acs:FuncData
 acu:Addr
 abS:FuncData
 abi:Addr
 aaZ:FuncData
 aeq:Addr
 adL:FuncData
 ac8:Addr
 acv:FuncData
 aa0:Addr
 aaK:FuncData
 aax:Addr
 aau:FuncData
 adM:Addr
 ac9:FuncData
 abT:Addr
 abj:FuncData
 aft:Addr
 aeZ:FuncData
 ada:Addr
 acw:FuncData
 ae0:Addr
 aer:FuncData
 adb:Addr
 acx:FuncData
 adN:Addr
 adc:FuncData
 adO:Addr
 ade:FuncData
 aes:Addr
 adP:FuncData
 adQ:Addr
 adf:FuncData
 aet:Addr
 adR:FuncData
 aeu:Addr
 Zd:FuncData
 adS:Addr
 adg:FuncData
 acy:Addr
 abU:FuncData
 afU:Addr
 afI:FuncData
 t_BLOCK_BITS:Tok
 t_LETTERS:Tok
 t_MOST_BITS:Tok
 t_MOST_LETTERS:Tok
 t_MOST_NODES:Tok
 t_MOST_NUMBERS:Tok
 t_MOST_SIGNS:Tok
 Ud:Addr
structure Tx(K:PySem.W.Frag)(mg:Str->Option Value)(a:Ad):Prop where
 afu:Df K mg "packed" vY ["bits"] a.afk a.aeF
 Ze:Df K mg "check_row" mz ["bits"] a.adx a.acT
 aev:Df K mg "block_of" oN ["bits"] a.ad9 a.ady
 Yc:Df K mg "bit_in" vh ["block","k"] a.afl a.aeG
 Yd:Df K mg "bits_of" qj ["block","upto"] a.aeH a.aea
 Zf:Df K mg "ones_in" q9 ["block","upto"] a.aeI a.aeb
 afv:Df K mg "one_in" uX ["block","nth"] a.afm a.aeJ
 Ye:Df K mg "nets_of" rD ["block","upto"] a.aeK a.aec
 afw:Df K mg "low_in" vz ["block","upto"] a.afn a.aeL
 abV:Df K mg "first_low_in" iC ["block","start","stop","goal"] a.abC a.aa2
 acB:Df K mg "last_low_in" jz ["block","start","stop","goal"] a.aca a.abD
 Yg:Df K mg "look_from" cF ["look","first"] a.adz a.Zb
 ae1:Df K mg "heap_of" rN ["numbers"] a.aeM a.aed
 WD:Df K mg "size_of" rC ["many"] a.aeN a.aee
 adU:Df K mg "lesser_of" mH ["one","other"] a.adA a.acU
 abk:Df K mg "first_at_most" gP ["many","look","start","goal"] a.aa4 a.aaS
 abW:Df K mg "last_at_most" iJ ["many","look","stop","goal"] a.abE a.aa5
 Zg:Df K mg "place_beneath" gF ["size","look","node","goal","side"] a.aa6 a.aaT
 abl:Df K mg "check_stretch" gQ ["many","start","stop"] a.aa7 a.aaU
 Zh:Df K mg "cover" yG ["many","start","stop"] a.afD a.afo
 Yh:Df K mg "kept_row" oA ["bits"] a.aef a.adB
 aew:Df K mg "ahead_of" nZ ["blocks"] a.aeg a.adC
 WF:Df K mg "check_place" jy ["at","most"] a.acb a.abF
 Wi:Df K mg "bit_at" vM ["tables","look","at"] a.afp a.aeO
 WK:Df K mg "ones_at" qM ["tables","look","at"] a.aeP a.aeh
 adh:Df K mg "noughts_at" kY ["tables","look","at"] a.acV a.acd
 adV:Df K mg "one_place" lO ["tables","look","nth"] a.adD a.acW
 adW:Df K mg "check_nth" lM ["nth","many"] a.adE a.acX
 aaN:Df K mg "last_no_greater" fG ["numbers","goal"] a.aaI a.aaC
 ae2:Df K mg "is_tree" rF ["bits"] a.aeQ a.aei
 aa1:Df K mg "check_brackets" fQ ["bits"] a.aaV a.aaJ
 abm:Df K mg "kept_brackets" gB ["bits"] a.aa8 a.aaW
 afx:Df K mg "low_of" u6 ["tables","number","block"] a.afq a.aeR
 Yi:Df K mg "base_of" qx ["tables","number"] a.aeS a.aej
 abX:Df K mg "start_within" iz ["number","at"] a.abG a.aa9
 Yj:Df K mg "end_within" lA ["number","upto"] a.acY a.ace
 Zi:Df K mg "block_count" jD ["tables"] a.acf a.abH
 Zj:Df K mg "heap_look" cu ["tables"] a.adF a.Zc
 Zk:Df K mg "height" u5 ["tables","look","at"] a.afr a.aeT
 adi:Df K mg "low_behind" j5 ["tables","look","at","goal"] a.acZ a.acg
 Zm:Df K mg "first_within" iT ["tables","look","number","at","goal"] a.abI a.abb
 Zn:Df K mg "place_of_bit" iG ["number","within"] a.abJ a.abd
 adX:Df K mg "low_ahead" mG ["tables","look","at","goal"] a.adG a.ac0
 abn:Df K mg "last_low_upto" gJ ["tables","look","upto","goal"] a.abe a.aaX
 Zo:Df K mg "last_within" jN ["tables","look","number","upto","goal"] a.ach a.abK
 Zq:Df K mg "check_bracket" gA ["tables","look","at","bit"] a.abf a.aaY
 ae3:Df K mg "closing" qN ["tables","look","at"] a.aeU a.aek
 ae4:Df K mg "opening" rz ["tables","look","at"] a.aeV a.ael
 abY:Df K mg "check_depths" iK ["depths"] a.abL a.abg
 acD:Df K mg "brackets_of" jx ["depths"] a.aci a.abM
 adY:Df K mg "kept_tree" lR ["depths"] a.adH a.ac1
 acE:Df K mg "check_signs" jM ["signs"] a.acj a.abN
 adk:Df K mg "kept_signs" j9 ["signs"] a.ac2 a.ack
 acF:Df K mg "ranks_among" jL ["kinds","signs"] a.acl a.abO
 acG:Df K mg "level_count" jF ["kind_count"] a.acn a.abP
 adl:Df K mg "level_rows" lz ["ranks","kind_count"] a.ac3 a.aco
 afy:Df K mg "parted" vf ["order","bits"] a.afs a.aeW
 adZ:Df K mg "levels_of" lJ ["tables","look"] a.adI a.ac4
 acH:Df K mg "place_below" jO ["level","at","bit"] a.acp a.abQ
 abZ:Df K mg "nought_count" ji ["row"] a.abR a.abh
 ae5:Df K mg "sign_at" qy ["tables","look","at"] a.aeX a.aem
 adm:Df K mg "node_count" j8 ["tables"] a.ac5 a.acq
 adn:Df K mg "check_node" kO ["tables","node"] a.ac6 a.acr
 ae6:Df K mg "node_at" qU ["tables","look","at"] a.aeY a.aen
 Zr:Df K mg "place_of" oh ["tables","look","node"] a.aeo a.adJ
 aex:Df K mg "first_of" n6 ["tables","look","node"] a.aep a.adK
 ado:Df K mg "younger_of" kZ ["tables","look","node"] a.ac7 a.acs
 acI:Df K mg "check_words" jE ["words"] a.acu a.abS
 abo:Df K mg "beginnings_of" gK ["words"] a.abi a.aaZ
 aey:Df K mg "parts_of" oJ ["words"] a.aeq a.adL
 adp:Df K mg "kept_store" kh ["words"] a.ac8 a.acv
 Zt:Df K mg "blocks_of_tree" fV ["tables"] a.aa0 a.aaK
 aaA:Df K mg "blocks_of_letters" dJ ["tables"] a.aax a.aau
 Zu:Df K mg "letter_of" lH ["tables","look","node"] a.adM a.ac9
 ab0:Df K mg "look_at_ends" iU ["tables","look"] a.abT a.abj
 afz:Df K mg "is_end" uI ["tables","look","node"] a.aft a.aeZ
 adq:Df K mg "young_from" lw ["tables","look","node","letter"] a.ada a.acw
 ae7:Df K mg "line_of" rB ["tables","look","text"] a.ae0 a.aer
 adt:Df K mg "longest_in" kI ["tables","look","text"] a.adb a.acx
 ad0:Df K mg "_law_whole" mV ["_law_found"] a.adN a.adc
 V3:Df K mg "_law_spelt" mR ["_law_number","_law_kinds","_law_first","_law_many"] a.adO a.ade
 aez:Df K mg "_law_word" nW ["_law_cell","_law_words_here"] a.aes a.adP
 ad1:Df K mg "_law_words" mq ["_law_script"] a.adQ a.adf
 aeA:Df K mg "_law_text" oE ["_law_cell","_law_words_here"] a.aet a.adR
 aeB:Df K mg "_law_look" cN ["_law_blocks","_law_seen"] a.aeu a.Zd
 ad2:Df K mg "_law_there" lY ["_law_seen","_law_size"] a.adS a.adg
 acJ:Df K mg "_law_longest" jw ["_law_text_here","_law_words_here"] a.acy a.abU
 afZ:Df K mg "law" Li ["_law_script"] a.afU a.afI
 afV:mg "bool" = none
 Wj:mg "enumerate" = none
 af0:mg "int" = none
 Zv:mg "isinstance" = none
 Tz:mg "len" = none
 Xi:mg "list" = none
 af1:mg "max" = none
 Zw:mg "min" = none
 Wk:mg "range" = none
 Yk:mg "reversed" = none
 Zx:mg "set" = none
 afA:mg "sorted" = none
 af2:mg "str" = none
 afW:mg "sum" = none
 Yl:mg "tuple" = none
 Zy:mg "zip" = none
 Uv:mg "BLOCK_BITS" = some (.int 32 a.t_BLOCK_BITS)
 Zz:mg "LETTERS" = some (.str "abcdefghijklmnopqrstuvwxyz" a.t_LETTERS)
 afc:mg "MOST_BITS" = some (.int 4096 a.t_MOST_BITS)
 ad7:mg "MOST_LETTERS" = some (.int 40 a.t_MOST_LETTERS)
 ae9:mg "MOST_NODES" = some (.int 2048 a.t_MOST_NODES)
 ad8:mg "MOST_NUMBERS" = some (.int 4096 a.t_MOST_NUMBERS)
 afa:mg "MOST_SIGNS" = some (.int 4096 a.t_MOST_SIGNS)
 afX:mg "NoNode" = some (.ref a.Ud)
 afH:Exc K mg "NoNode" a.Ud
 afY:Sw K a.Ud
 Ym:PySem.W.kitOne K (.ref a.Ud) (.ref a.Ud)=some true
 Yn:PySem.W.kitOne K (.ref a.Ud) (.type "ValueError")=some true
 afd:a.Zb.code=.ref a.V0
 afe:a.Zc.code=.ref a.V1
 afB:a.Zd.code=.ref a.V2
structure Bs(mg:Str->Option Value)(base:Heap)(a:Ad):Prop where
 bm:BMain mg base
 afg:PySem.W.CodeHd base a.V0 a.T3
 afh:PySem.W.CodeHd base a.V1 a.TV
 afC:PySem.W.CodeHd base a.V2 a.Va
 abq:a.T3≠a.TV
 aav:a.T3≠a.Va
 aaw:a.TV≠a.Va
theorem Ah(a:List (Key×V))(k:Key)(v:V):(putK a k v).length<=a.length+1:=by
 cases h:ir a k with
 |none=>rw[Kq v h,aaf];exact aac _
 |some x=>
  unfold putK;rw[jV,h];simp
theorem je.out{f b:Addr}{c:vX}{cs:List Addr}{Tr:List V}{xs:List V}(h:je H f c cs Tr)(e:H b=some (.lst xs)):b∉cs:=λz=>by
 obtain⟨i,d⟩:=aaP z;obtain⟨g,v,u,_,a,_⟩:=h.cells i b d;rw[e]at a;cases a
theorem TabAt.same{H':Hp}{pos:Pos}{q:Str}(h:TabAt H a pos q)(s:aP H H'):TabAt H' a pos q:=by
 obtain⟨d,k,j,b⟩:=h;exists d,s _ _ k,j;rcases b with b|⟨l,e,c,t,i,g,f⟩
 ·exact .inl b
 ·exact .inr (l,e,c,t,i,s _ _ g,f)
def nM(P:Addr)(H H':Hp):Prop:=∀b o,H b=some o->b≠P->H' b=some o
theorem TabAt.ex{pos:Pos}{q:Str}(h:TabAt H a pos q):∃o,H a=some o:=by
 obtain⟨c,b,_⟩:=h;exact(_,b)
theorem TabAt.ne{b:Addr}{pos:Pos}{q:Str}{o:HO}(h:TabAt H a pos q)(e:H b=some o)(n:∀ps,o ≠ .Tv ps):b≠a:=λz=>by
 obtain⟨ps,c,_⟩:=h;rw[z,c]at e;cases e;exact n _ rfl
theorem TabAt.upd{H:Hp}{P x:Addr}{pos:Pos}{q:Str}{xs ys:List V}(h:TabAt H P pos q)(e:H x=some (.lst xs)):TabAt (L2.upd H x (.lst ys)) P pos q:=by
 obtain⟨i,r,p,a⟩:=h;have d:∀b o,H b=some o->(∀f,o ≠ .lst f)->L2.upd H x (.lst ys) b=some o:=λb o c n=>by
  rw[aH (λz=>by rw[z,e]at c;cases c;exact n _ rfl)];exact c
 exists i,d _ _ r nofun,p;rcases a with a|⟨s,j,g,t,m,l,k⟩
 ·exact .inl a
 ·exact .inr (s,j,g,t,m,d _ _ l nofun,k)
theorem Ox{n j:Nat}(h:j<n):Vf n (j:Int)=some j:=by
 unfold Vf;simp;lia
theorem GZ(k:Nat)(v:Int):(aaE k [V.int v]).flatten=(aaE k v).map V.int:=by
 induction k with
 |zero=>rfl
 |succ k a=>rw[af7,agh,a,af7];rfl
structure LK where
 f:Addr
 wr:Option Addr
 bl:Addr
 off:Nat
 all:List V
def LK.put(L:LK)(H:Hp)(a:List Int):Hp:=match L.wr with
 |some b=>upd H b (.lst (a.map V.int))
 |none=>H
theorem Ht{cs:List Addr}{b:Addr}{o:HO}(h:hide H cs b=some o):b∉cs/\H b=some o:=by
 by_cases z:b∈cs
 ·rw[m9 z]at h;cases h
 ·rw[bx z]at h;exact(z,h)
def Us(H:Hp)(L:LK):Prop:=L.off=0 /\ ∃(a:Addr) (b:List Addr),L.wr=some a/\je H L.f bV b [.ref a,.ref L.bl]
inductive Vw(R:Hp->LK->Prop)(H:Hp)(L:LK):Prop
 | mk (g:Addr) (o:Nat) (cs:List Addr) (_:o<=L.off) (_:dI H L.f aM cs [.ref g,.int (o:Int)]) (_:R (hide H cs) (g,L.wr,L.bl,L.off-o,L.all))
def Keeps(R:Hp->LK->Prop):Prop:=∀(H a:Hp) (L:LK),R H L->(∀b o,H b=some (aN b o)->a b=some (aN b o))->R a L
theorem Us.keeps:Keeps Us:=λH f L h s=>by
 obtain⟨c,a,d,b,e⟩:=h;exact(c,a,d,b,e.same s)
theorem Vw.keeps{R:Hp->LK->Prop}(k:Keeps R):Keeps (Vw R):=λH i L h s=>by
 obtain⟨g,o,f,c,a,d⟩:=h;refine(g,o,f,c,a.same s,k _ _ _ d λb u e=>?_);obtain⟨z,e⟩:=Ht e;rw[bx z];exact s b u e
theorem Keeps.hid{R:Hp->LK->Prop}(k:Keeps R){H':Hp}{L:LK}{cs:List Addr}(h:R H L)(f:∀b∈cs,H b=none)(s:∀b o,H b=some (aN b o)->H' b=some (aN b o)):R (hide H' cs) L:=k _ _ _ h λb o e=>by
 rw[bx λz=>by rw[f b z]at e;cases e];exact s b o e
def Uw:Hp->LK->Prop:=Vw Us
def V4:Hp->LK->Prop:=Vw Uw
theorem Uw.keeps:Keeps Uw:=Vw.keeps Us.keeps
theorem V4.keeps:Keeps V4:=Vw.keeps Uw.keeps
def HasFn(R:Hp->LK->Prop):Prop:=∀(H:Hp) (L:LK),R H L->(∃o b,H L.f=some (aN L.f o)/\o.data=.func b) /\ ∃a,L.wr=some a
theorem Us.hasFn:HasFn Us:=λH L h=>by
 obtain⟨_,a,k,b,d⟩:=h;obtain⟨l,e,i,f,j,g,t,c,_⟩:=d.ex;exact((8,c,7),a,b)
theorem Vw.hasFn{R:Hp->LK->Prop}(k:HasFn R):HasFn (Vw R):=λH L h=>by
 obtain⟨g,o,j,_,c,a⟩:=h;obtain⟨l,f,d,i,e,t,b,_⟩:=c.ex;exact((8,b,7),(k _ _ a).2)
theorem Uw.hasFn:HasFn Uw:=Vw.hasFn Us.hasFn
theorem V4.hasFn:HasFn V4:=Vw.hasFn Uw.hasFn
def gU(H:Hp)(L:LK):Prop:=Us H L\/Uw H L\/V4 H L
theorem gU.both{L:LK}(h:gU H L):(∃o fd,H L.f=some (aN L.f o)/\o.data=.func fd) /\ ∃sn,L.wr=some sn:=by
 rcases h with h|h|h
 ·exact Us.hasFn _ _ h
 ·exact Uw.hasFn _ _ h
 ·exact V4.hasFn _ _ h
theorem gU.fn{L:LK}(h:gU H L):∃o fd,H L.f=some (aN L.f o)/\o.data=.func fd:=h.both.1
theorem gU.kept{H':Hp}{L:LK}(h:gU H L)(s:∀b o,H b=some o->(∀ps,o ≠ .Tv ps)->(∀ps,o ≠ .lst ps)->H' b=some o):gU H' L:=by
 rcases h with h|h|h
 ·exact .inl (Us.keeps _ _ _ h λb o e=>s _ _ e nofun nofun)
 ·exact .inr (.inl (Uw.keeps _ _ _ h λb o e=>s _ _ e nofun nofun))
 ·exact .inr (.inr (V4.keeps _ _ _ h λb o e=>s _ _ e nofun nofun))
theorem gU.same{H':Hp}{L:LK}(h:gU H L)(s:aP H H'):gU H' L:=h.kept λb o e _ _=>s _ _ e
theorem gU.upd{L:LK}{b:Addr}{xs ys:List V}(h:gU H L)(e:H b=some (.lst xs)):gU (L2.upd H b (.lst ys)) L:=h.kept λc o a _ n=>by
 rw[aH (λz=>by rw[z,e]at a;cases a;exact n _ rfl)];exact a
structure Asks(H:Hp)(L:LK)(ss:List Int):Prop where
 look:gU H L
 seen:∀sn,L.wr=some sn->H sn=some (.lst (ss.map V.int))/\sn≠L.bl
 nodes:H L.bl=some (.lst L.all)
 few:ss.length<=16000000
theorem Asks.same{H H':Hp}{L:LK}{a:List Int}(h:Asks H L a)(s:aP H H'):Asks H' L a:=(h.look.same s,λb e=>(s _ _ (h.seen b e).1,(h.seen b e).2),s _ _ h.nodes,h.few)
theorem LK.put_none{L:LK}(e:L.wr=none)(H:Hp)(a:List Int):L.put H a=H:=by unfold LK.put;rw[e]
theorem LK.put_some{L:LK}{sn:Addr}(e:L.wr=some sn)(H:Hp)(a:List Int):L.put H a=upd H sn (.lst (a.map V.int)):=by unfold LK.put;rw[e]
theorem LK.put_ne{L:LK}{b:Addr}(n:L.wr≠some b)(H:Hp)(a:List Int):L.put H a b=H b:=by
 cases e:L.wr with
 |none=>rw[LK.put_none e]
 |some c=>rw[LK.put_some e,aH (λz=>n (by rw[e,z]))]
theorem Asks.id{L:LK}(h:Asks H L d):L.put H d=H:=by
 cases e:L.wr with
 |none=>rw[LK.put_none e]
 |some a=>rw[LK.put_some e];exact QQ (h.seen a e).1
theorem Asks.putN{L:LK}{tt:List Int}{b:Addr}{o:HO}(h:Asks H L d)(e:H b=some o)(n:∀xs,o ≠ .lst xs):L.put H tt b=some o:=by
 rw[LK.put_ne (λz=>?_)]
 ·exact e
 ·rw[(h.seen b z).1]at e;cases e;exact n _ rfl
theorem Asks.putT{L:LK}{tt:List Int}{b:Addr}{xs:List V}(h:Asks H L d)(e:H b=some (.tup xs)):L.put H tt b=some (.tup xs):=h.putN e nofun
theorem Asks.put{L:LK}{tt:List Int}(h:Asks H L d)(b:tt.length<=16000000):Asks (L.put H tt) L tt:=by
 cases e:L.wr with
 |none=>
  rw[LK.put_none e];exact(h.look,λa z=>(by rw[e]at z;cases z),h.nodes,b)
 |some a=>
  obtain⟨f,c⟩:=h.seen a e;rw[LK.put_some e];refine(h.look.upd f,λg z=>?_,by rw[aH (af3 c)];exact h.nodes,b);rw[e]at z;cases z;exact(aq,c)
theorem Asks.more{L:LK}{tt:List Int}(h:Asks H L d)(a:tt.length<=16000000):Asks (L.put H tt) L tt:=h.put a
inductive O7(f:Addr)(vs:List V)(H:Hp)(Q:VK)(_e1:XK):Prop
 | mk (L:LK) (ss:List Int) (n:Nat) (x:V) (_:f=L.f) (_:vs=[.int (n:Int)]) (_:Asks H L ss) (_:ss.length<16000000) (_:L.all[L.off+n]?=some x) (_:Q x (L.put H (ss++[((L.off+n:Nat):Int)])))
section
variable{P:Program}{a:Ad}
theorem Kh(x:Int):Builtin.bitAnd x 1=x%2:=by
 unfold Builtin.bitAnd;by_cases b:0<=x
 ·simp[b];lia
 ·simp[b];unfold Builtin.bitNot;lia
inductive Ju(vs:List V)(H:Hp)(Q:VK)(_e1:XK):Prop
 | mk (b k:Int) (_:vs=[.int b,.int k]) (_:0<=k) (_:Q (.int (bit b k.toNat)) H)
theorem rH(T:Tx K mg a):aV P w K mg base Ti 1 a.afl a.aeG ["block","k"] Ju:=by
 refine T.Yc.F.Tq Hk λf A c s H g Q E i h=>?_;obtain⟨b,k,rfl,d,q⟩:=h;exists _,(ao (aD (aB Qi (aB Q6 (pv 0) (pv 1)) ak)));exists 2,4,d,4;have e:Builtin.bitAnd (b / 2^k.toNat) 1=bit b k.toNat:=Kh _;show Q (.int (Builtin.bitAnd (b / 2^k.toNat) 1)) H;rw[e];exact q
inductive Dk(vs:List V)(H:Hp)(Q:VK)(_e1:XK):Prop
 | mk (b n:Int) (_:vs=[.int b,.int n]) (_:0<=n) (_:n<=32) (_:∀r,H r=none->Q (.ref r) (upd H r (.lst ((bits b n.toNat).map V.int))))
theorem nY(T:Tx K mg a):aV P w K mg base Ti 2 a.aeH a.aea ["block","upto"] Dk:=by
 refine T.Yd.F.Tq Fg λf A c s H g Q E d h=>?_;obtain⟨b,n,rfl,m,l,q⟩:=h;exists _,(ao (aD (m5 rfl (cj.one (j:=0) rfl (agP rfl) rfl rfl (agP rfl)) (qZ rfl T.Wk (My 1 aj)) (λ_ _ _ _=>eZ) (λ_ _ _ _=>(aF T.Yc (rH T) d (My 1 (My 0 aj)))))));refine(5,n,7,9,9,3);refine Hf (λj=>bit b j) (by rw[sizeLine_eq];lia) (λ_ _ _ q=>q) (λj o Q k i q=>(2,_,5,9,3)) λD e=>q D e;rw[show ((0:Int)+(j:Int)).toNat=j from by lia];exact q
inductive Fz(vs:List V)(H:Hp)(Q:VK)(_e1:XK):Prop
 | mk (b n:Int) (_:vs=[.int b,.int n]) (_:0<=n) (_:n<=32) (_:∀H',aP H H'->Q (.int (ones b n.toNat)) H')
theorem uY(T:Tx K mg a):aV P w K mg base Ti 3 a.aeI a.aeb ["block","upto"] Fz:=by
 refine T.Zf.F.Tq Ed λi A d s H j Q E e h=>?_;obtain⟨b,n,rfl,g,f,q⟩:=h;exists _,(ao (aD (aL (BK rfl) rfl T.afW Tw.K8 (au (aF T.Yd (nY T) e (My 0 (My 1 aj))) aj))));exact(2,b,n,7,g,f,λr c=>(r,bits b n.toNat,7,Tg.of aq,q _ (az c _)))
inductive JH(vs:List V)(H:Hp)(Q:VK)(_e1:XK):Prop
 | mk (b t:Int) (_:vs=[.int b,.int t]) (_:(∀H',aP H H' -> ∀k:Nat,k<32->bit b k=1->ones b k=t->Q (.int (k:Int)) H')) (_:∀H',aP H H'->(∀k:Nat,k<32 -> ¬(bit b k=1/\ones b k=t))->Q .non H')
theorem Ie(T:Tx K mg a):aV P w K mg base Ti 3 a.afm a.aeJ ["block","nth"] JH:=by
 refine T.afv.F.Tq jY λU A G s H W Q E N h=>?_;obtain⟨b,t,rfl,M,L⟩:=h;refine(_,(aa (aA 2 jY.nd ak)
  (aa (bI PassesOwn.never rfl (uy rfl T.Wj (au (aF T.Yd (nY T) N (My 0 (au (bF (v:=.int 32) rfl T.Uv (_,7)) aj))) aj)) (lr rfl (bL (aU 3 jY.nd) (bL (aU 4 jY.nd) ig))) (aa (aX (PW.pt (gD (aG cR (pv 4) ak) (fY (aG cR (pv 2) (pv 1))))) (ao (aD (pv 3))) aK)
  (ao (aA 2 jY.nd (aB aZ (pv 2) (pv 4))))))
  (ao (aD dM)))),3)
 refine(5,b,32,7,6,6,λr m=>(r,5,Tg.of aq,3));refine vJ (xs:=(bits b 32).map V.int) (λi n e=>(∃k o,n=[some (.int b),some (.int t),some (.int (ones b i)),k,o])/\aP (upd H r (.lst ((bits b 32).map V.int))) e /\ ∀j:Nat,j<i -> ¬(bit b j=1/\ones b j=t)) ?_ ?_ ?_ ?_
 ·exact((none,none,7),aP.refl _,λj I=>absurd I (agu _))
 ·rintro i n e y ⟨_,f,_⟩;exact Tg.of (f _ _ aq)
 ·rintro i x n e p u ⟨⟨k,o,rfl⟩,f,q⟩ O;have y:i<32:=by
   have:=(aab.mp u).1;rw[aaa,gn]at this;exact this
  have S:x=.int (bit b i):=by
   rw[aag,vm y]at u;exact(aao u).symm
  subst S;have g:aP (upd H r (.lst ((bits b 32).map V.int))) (upd e p (.tup [.int (i:Int),.int (bit b i)])):=f.trans (az O _);have D:=(az m (.lst ((bits b 32).map V.int))).trans g;have next:(∀j:Nat,j<i+1 -> ¬(bit b j=1/\ones b j=t)) ↔ ¬(bit b i=1/\ones b i=t):=by
   refine(λh=>h i (age _),λh j I=>?_);rcases aaq j i with l|l
   ·exact q j l
   ·have:j=i:=by lia
    subst this;exact h
  have J:¬(bit b i=1/\ones b i=t)->(∃k o,[some (V.int b),some (V.int t),some (V.int (ones b i+bit b i)),some (V.int (i:Int)),some (V.int (bit b i))]=[some (.int b),some (.int t),some (.int (ones b (i+1))),k,o]) /\
    aP (upd H r (.lst ((bits b 32).map V.int))) (upd e p (.tup [.int (i:Int),.int (bit b i)])) /\ ∀j:Nat,j<i+1 -> ¬(bit b j=1/\ones b j=t):=λh=>
   ((8,by rw[iw]),g,next.mpr h)
  exists p,5,Tj.of aq,7,_,5,4;exists 5,7,5;refine bD (λc=>?_) (λc=>?_)
  ·have C:V.int (bit b i)=V.int 1:=of_decide_eq_true c;exists 2,7,5;refine bD (λd=>?_) (λd=>?_)
   ·have B:V.int (ones b i)=V.int t:=of_decide_eq_true d;exact(5,M _ D i y (V.int.inj C) (V.int.inj B))
   ·have B:¬V.int (ones b i)=V.int t:=λz=>d (decide_eq_true z);exact(2,4,J λz=>B (congrArg V.int z.2))
  ·have C:¬V.int (bit b i)=V.int 1:=λz=>c (decide_eq_true z);exact dN (2,4,J λz=>C (congrArg V.int z.1))
 ·rintro n e ⟨_,f,q⟩;refine L _ ((az m _).trans f) λk R=>q k ?_;rw[aaa,gn];exact R
inductive Ac(K:PySem.W.Frag)(vs:List V)(H:Hp)(Q:VK)(_e1:XK):Prop
 | mk (p:Addr) (ns:List Int) (_:vs=[.ref p]) (_:Tg K H p (ns.map V.int)) (_:Q (.int (blk ns)) H)
theorem Ae(T:Tx K mg a):aV P w K mg base Ti 1 a.ad9 a.ady ["bits"] (Ac K):=by
 refine T.aev.F.Tq jo λt A g s H u Q E v h=>?_;obtain⟨p,b,rfl,l,q⟩:=h;refine(_,(aa (aA 1 jo.nd ak)
  (aa (bI PassesOwn.never rfl (Do rfl T.Yk (My 0 aj) Tw.jq) (aU 2 jo.nd) (ao (aA 1 jo.nd (aB aZ (aB cH ak (pv 1)) (pv 2)))))
  (ao (aD (pv 1))))),3)
 exists 5,p,5,l;refine zc (xs:=b.map V.int) (λi d f=>(∃k,d=[some (.ref p),some (.int (blk (b.drop (b.length-i)))),k])/\f=H) ?_ ?_ ?_ ?_
 ·refine((none,3),7);rw[agQ,ahx];rfl
 ·rintro i d f _ ⟨_,rfl⟩;exact l
 ·rintro i x d f n m ⟨⟨k,rfl⟩,rfl⟩;obtain⟨c,j,rfl⟩:=int_at m;rw[aaa]at n j;refine(5,4,.inl (6,6),5,4,(some (.int c),3),7);have e:b.drop (b.length-(i+1))=c::b.drop (b.length-i):=by
   have r:b.length-(i+1)=b.length-1-i:=by lia
   have o:b.length-i=b.length-1-i+1:=by lia
   rw[r,o,acA ⋯];congr 1;have:=aab.mp j;exact this.2
  rw[e];rfl
 ·rintro d f ⟨⟨k,rfl⟩,rfl⟩;rw[aaa,ag6,ahb];exact(5,q)
inductive Kw(vs:List V)(H:Hp)(Q:VK)(_e1:XK):Prop
 | mk (i:Int) (_:vs=[.int i]) (_:Q (.bl true) H)
theorem zb(T:Tx K mg a):aV P w K mg base Ti 1 a.adN a.adc ["_law_found"] Kw:=by
 refine T.ad0.F.Tq zX λc A b s H d Q E e h=>?_;obtain⟨i,rfl,q⟩:=h
 exists _,(ao (aD (Kd (aL vy rfl T.Zv Tw.ju (My 0 (au (zJ (v:=.ty "int") rfl T.af0 Tw.Qq rfl) aj))) (Ma (Q9 (aL vy rfl T.Zv Tw.ju (My 0 (au (zJ (v:=.ty "bool") rfl T.afV Tw.M9 rfl) aj))))))))
 refine(5,_,"int",_,true,7,.int i,7,true,7,jj ?_)
 exact(5,_,"bool",_,false,7,.int i,7,false,7,q)
inductive yV(K:PySem.W.Frag)(vs:List V)(H:Hp)(Q:VK)(_e1:XK):Prop
 | mk (p:Addr) (ns:List Int) (_:vs=[.ref p]) (_:Tg K H p (ns.map V.int)) (_:ns.length<=4096) (_:bc ns) (_:Q .non H)
theorem oZ(T:Tx K mg a):aV P w K mg base Ti 1 a.adx a.acT ["bits"] (yV K):=by
 refine T.Ze.F.Tq pK λn A f s H o Q E r h=>?_;obtain⟨p,g,rfl,e,t,m,q⟩:=h;refine(_,(aa (aX (aG jf (aL aO rfl T.Tz Tw.bh (My 0 aj)) (bF (v:=.int 4096) rfl T.afc (_,7))) (ao b7) aK)
  (ao (bI PassesOwn.never rfl (bU (pv 0)) (aU 1 pK.nd) (ao (aX (PW.pt (gD (aG yc (pv 1) ak) (fY (aG yc (pv 1) ak)))) (ao b7) aK))))),3)
 refine(5,p,5,.inl e,4,5,bD (λc=>?_) λ_=>?_)
 ·have c:=of_decide_eq_true c;rw[aaa]at c;lia
 exists 5,p,7,(_,e);refine cz (xs:=g.map V.int) (λi b d=>(∃k,b=[some (.ref p),k])/\d=H) ((none,7),7) ?_ ?_ ?_
 ·rintro i b d _ ⟨_,rfl⟩;exact e
 ·rintro i x b d j ⟨⟨k,rfl⟩,rfl⟩;obtain⟨c,l,rfl⟩:=int_at j;rcases m c (aah l)with rfl|rfl
  ·exact(5,7,5,yj rfl (dN ((_,7),7)))
  ·refine(5,7,5,bD (λ_=>(5,7,5,yj rfl ((_,7),7))) λz=>absurd ?_ z);decide
 ·rintro b d ⟨_,rfl⟩;exact q
inductive Ir(K:PySem.W.Frag)(vs:List V)(H:Hp)(Q:VK)(_e1:XK):Prop
 | mk (p:Addr) (ns:List Int) (_:vs=[.ref p]) (_:Tg K H p (ns.map V.int)) (_:ns.length<=4096) (_:bc ns) (_:∀r H',H r=none->aP H H'->H' r=some (.lst ((bB ns).map V.int))->Q (.ref r) H')
theorem Hz(T:Tx K mg a):aV P w K mg base Ti 2 a.afk a.aeF ["bits"] (Ir K):=by
 refine T.afu.F.Tq Im λG A r s H I Q E u h=>?_;obtain⟨p,b,rfl,n,x,B,q⟩:=h;refine(_,(aa (bu (aF T.Ze (oZ T) u (My 0 aj)))
  (ao (aD (m5 rfl (cj.one (j:=0) rfl (agP rfl) rfl rfl (agP rfl)) (Jl rfl T.Wk (au ak (au (aL aO rfl T.Tz Tw.bh (My 0 aj)) (au (bF (v:=.int 32) rfl T.Uv (_,7)) aj)))) (λ_ _ _ _=>eZ) (λ_ _ _ _=>(aF T.aev (Ae T) u (au (bZ (show XC _ (Rf K)from p7) (pv 1) (cB (pv 0)) (cB (aB aZ (pv 0) (bF (v:=.int 32) rfl T.Uv (_,7))))) aj))))))),3)
 exists 5,p,b,7,n,x,B;exists 5,p,5,.inl n,(b.map V.int).length,7,3
 ·rw[aaa];exact agG x ∅
 rw[aaa];intro D o;exists λi m k g=>m=many b.length-i/\i<=many b.length/\k=((ab5 i).map (cD b)).map V.int/\aP H g/\g D=some (.lst k),(5,aaF _,7,az o _,aq);rintro i m k g ⟨rfl,J,rfl,l,d⟩;by_cases c:i<many b.length
 ·refine .inr (c,λv M y=>?_);obtain⟨rfl,rfl⟩:=y;unfold Kv;refine jj ?_;refine(2,2,4,5,p,5,l.seq n,λt f=>?_);have C:(0:Int)+(i:Int)*32=((32*i:Nat):Int):=by lia
  have L:(0:Int)+(i:Int)*32+32=((32*i+32:Nat):Int):=by lia
  rw[C,show ((32*i:Nat):Int)+32=((32*i+32:Nat):Int)from by lia,Oi,aeC];exists t,5,Tg.of aq;have z:D≠t:=aJ d f;refine(by rw[aH z];exact d,3,many b.length-(i+1),9,7,c,3,bT (l.trans (az f _)) o _,aq)
  ·rw[aaa,aaa,afE];unfold many at c;exact small ⋯
  ·rw[agd,aal,aal];rfl
 ·have e:i=many b.length:=by lia
  subst e;exact .inl (aac _,q D g o l d)
inductive Bp(K:PySem.W.Frag)(vs:List V)(H:Hp)(Q:VK)(_e1:XK):Prop
 | mk (p:Addr) (bs:List Int) (_:vs=[.ref p]) (_:Tg K H p (bs.map V.int)) (_:bs.length<=4096) (_:∀r H',H r=none->aP H H'->H' r=some (.tup ((aheads bs bs.length).map V.int))->Q (.ref r) H')
theorem CV(T:Tx K mg a):aV P w K mg base Ti 4 a.aeg a.adC ["blocks"] (Bp K):=by
 refine T.aew.F.Tq lU λC A o s H D Q E B h=>?_;obtain⟨p,j,rfl,u,m,q⟩:=h;refine(_,(aa (aA 1 lU.nd (cX (au ak aj)))
  (aa (bI PassesOwn.never rfl (bU (pv 0)) (aU 2 lU.nd) (ao (bu (jg PySem.F.plainAttrs_list PySem.F.slot_list_append PySem.F.type_list_append b8 (pv 1) (au (aB aZ (aW jm (pv 1) (nR jK ak)) (aF T.Zf (uY T) B (My 2 (au (bF (v:=.int 32) rfl T.Uv (_,7)) aj)))) aj)))))
  (ao (aD (cW gf rfl T.Yl Tw.qb (My 1 aj)))))),3)
 refine((by show 1<=sizeLine;decide),λr d=>?_);exists 5,p,7,(_,(az d _).seq u);refine cz (xs:=j.map V.int) (λi g f=>(∃k,g=[some (.ref p),some (.ref r),k])/\aP H f/\f r=some (.lst ((aheads j i).map V.int))) ?_ ?_ ?_ ?_
 ·exact((none,7),az d _,aq)
 ·rintro i g f _ ⟨_,e,_⟩;exact e.seq u
 ·rintro i x g f z ⟨⟨k,rfl⟩,e,c⟩;obtain⟨b,t,rfl⟩:=int_at z;have G:=(aab.mp t).1;have n:T7 ((aheads j i).map V.int) (-1)=some (.int (jJ j i)):=by
   rw[Dd,aal];exact mj _ _
  refine(5,.inl (7,_,Tg.of c),2,r,_,4,Tg.of c,n,5,b,32,7,6,6,λI y=>(4,r,4,y _ _ c,3,(_,7),bT (e.trans y) d _,3))
  ·rw[aaa,xj];exact small ⋯
  ·rw[aq,Bw,aal,sY t];rfl
 ·rintro g f ⟨⟨k,rfl⟩,e,c⟩;rw[aaa]at c;exact(5,r,5,.inl (Tg.of c,λl m=>q l _ (e.free m) (e.trans (az m _)) aq))
inductive Ew(vs:List V)(H:Hp)(Q:VK)(_e1:XK):Prop
 | mk (b n:Int) (_:vs=[.int b,.int n]) (_:0<=n) (_:n<=32) (_:∀r H',H r=none->aP H H'->H' r=some (.lst ((nets b n.toNat).map V.int))->Q (.ref r) H')
theorem ou(T:Tx K mg a):aV P w K mg base Ti 3 a.aeK a.aec ["block","upto"] Ew:=by
 refine T.Ye.F.Tq iR λI A t s H J Q E z h=>?_;obtain⟨b,n,rfl,D,C,q⟩:=h;refine(_,(aa (aA 2 iR.nd (cX aj))
  (aa (aA 3 iR.nd ak)
  (aa (bI PassesOwn.never rfl (bU (aF T.Yd (nY T) z (My 0 (My 1 aj)))) (aU 4 iR.nd) (aa (aA 3 iR.nd (aB bA (aB aZ (pv 3) (aB cH ak (pv 4))) ak))
  (ao (bu (jg PySem.F.plainAttrs_list PySem.F.slot_list_append PySem.F.type_list_append b8 (pv 2) (My 3 aj))))))
  (ao (aD (pv 2)))))),3)
 refine((by show 0<=sizeLine;decide),λr f=>?_);refine(2,b,n,7,D,C,λp v=>(p,7,(_,Tg.of aq),3));have u:r≠p:=aJ aq v;refine cz (xs:=(bits b n.toNat).map V.int) (λi j e=>(∃k,j=[some (.int b),some (.int n),some (.ref r),some (.int (net b i)),k])/\aP H e/\e r=some (.lst ((nets b i).map V.int))/\e p=some (.lst ((bits b n.toNat).map V.int))) ?_ ?_ ?_ ?_
 ·refine((none,by rw[Kr];rfl),(az f _).trans (az v _),3,aq);rw[aH u,aq];rfl
 ·rintro i j e _ ⟨_,_,_,o⟩;exact Tg.of o
 ·rintro i x j e y ⟨⟨k,rfl⟩,l,d,g⟩;obtain⟨c,m,rfl⟩:=int_at y;have B:i<n.toNat:=by
   have:=(aab.mp m).1;rw[gn]at this;exact this
  have G:c=bit b i:=by
   rw[vm B]at m;exact(aao m).symm
  subst G;exists 2,4,.inl (6,6),4,4;exists 5,.inl (7,_,Tg.of d),5,r,4,d,?_
  ·rw[aaa,eU];exact small ⋯
  ·exists (some (.int (bit b i)),by rw[Cu];rfl),bT l f _,?_
   ·rw[aq,JM,Cu,aal];rfl
   ·rw[aH (af3 u)];exact g
 ·rintro j e ⟨⟨k,rfl⟩,l,d,g⟩;rw[aaa,gn]at d;exact(5,q r e f l d)
inductive Jp(vs:List V)(H:Hp)(Q:VK)(_e1:XK):Prop
 | mk (b n:Int) (_:vs=[.int b,.int n]) (_:1<=n) (_:n<=32) (_:∀M H',Ku M (nets b n.toNat)->aP H H'->Q (.int M) H')
theorem Iz(T:Tx K mg a):aV P w K mg base Ti 4 a.afn a.aeL ["block","upto"] Jp:=by
 refine T.afw.F.Tq JL λk A c s H l Q E e h=>?_;obtain⟨b,n,rfl,o,g,q⟩:=h;exists _,(ao (aD (Nj rfl rfl T.Zw (au (aF T.Ye (ou T) e (My 0 (My 1 aj))) aj) ak Tw.Er)));refine(2,b,n,7,9,g,λp j m d i=>(p,5,Tg.of i,3,λM f=>q M j f d));rw[eU];lia
inductive tG(vs:List V)(H:Hp)(Q:VK)(_e1:XK):Prop
 | mk (b:Int) (st sp:Nat) (g:Int) (_:vs=[.int b,.int (st:Int),.int (sp:Int),.int g]) (_:sp<=32) (_:(∀H' (k:Nat),aP H H'->Due b st sp g k->(∀j,Due b st sp g j->k<=j)->Q (.int (k:Int)) H')) (_:∀H',aP H H'->(∀k,¬Due b st sp g k)->Q .non H')
theorem tK(T:Tx K mg a):aV P w K mg base Ti 4 a.abC a.aa2 ["block","start","stop","goal"] tG:=by
 refine T.abV.F.Tq gG λZ A D s H vs Q E O h=>?_;obtain⟨b,o,e,g,rfl,X,M,L⟩:=h;refine(_,(aa (bI PassesOwn.never rfl (Az rfl T.Wj (au (aF T.Ye (ou T) O (My 0 (My 2 aj))) aj) ak) (lr rfl (bL (aU 4 gG.nd) (bL (aU 5 gG.nd) ig))) (ao (aX (PW.pt (gD (aG jf (pv 4) (pv 1)) (fY (aG jX (pv 5) (pv 3))))) (ao (aD (pv 4))) aK)))
  (ao (aD dM))),3)
 refine(2,b,(e:Int),7,9,9,λr J Y I C=>?_);rw[ab1]at C;exists r,5,7,Tg.of C;refine yD (xs:=(nets b e).map V.int) (λi v u=>(∃k n,v=[some (.int b),some (.int (o:Int)),some (.int (e:Int)),some (.int g),k,n])/\aP J u /\ ∀j,j<=i -> ¬Due b o e g j) ?_ ?_ ?_ ?_
 ·exact((none,none,7),aP.refl _,λj S d=>by have:=d.1;lia)
 ·rintro i v u _ ⟨_,q,_⟩;exact Tg.of (q _ _ C)
 ·rintro i x v u p N ⟨⟨k,n,rfl⟩,q,y⟩ R;obtain⟨c,B,rfl⟩:=int_at N;have U:i<e:=by
   have:=(aab.mp B).1;rw[eU]at this;exact this
  have W:c=net b (i+1):=by
   rw[Ca U]at B;exact(aao B).symm
  subst W;have m:aP J (upd u p (.tup [.int ((i+1:Nat):Int),.int (net b (i+1))])):=q.trans (az R _);have G:¬Due b o e g (i+1) -> ∀j,j<=i+1 -> ¬Due b o e g j:=λh j S=>by
   rcases aaq i j with l|l
   ·have:j=i+1:=by lia
    subst this;exact h
   ·exact y j l
  exists p,5,Tj.of aq,7,_,5,4;refine(2,4,5,bD (λt=>?_) λt=>?_)
  ·have t:=of_decide_eq_true t;refine(2,4,5,bD (λf=>?_) λf=>?_)
   ·have f:=of_decide_eq_true f;exact(5,M _ (i+1) (I.trans m) (9,9,f) λj d=>by
     rcases aaq i j with l|l
     ·exact l
     ·exact absurd d (y j l))
   ·have f:¬net b (i+1)<=g:=λz=>f (decide_eq_true z);exact((_,5),m,G λd=>f d.2.2)
  ·have t:¬(o:Int)<((i+1:Nat):Int):=λz=>t (decide_eq_true z);exact dN ((_,5),m,G λd=>by have:=d.1;lia)
 ·rintro v u ⟨_,q,y⟩;refine L _ (I.trans q) λk d=>y k ?_ d;rw[aaa,eU];exact d.2.1
inductive vC(vs:List V)(H:Hp)(Q:VK)(_e1:XK):Prop
 | mk (b:Int) (st sp:Nat) (g:Int) (_:vs=[.int b,.int (st:Int),.int (sp:Int),.int g]) (_:sp<=32) (_:(∀H' (k:Nat),aP H H'->Due b st sp g k->(∀j,Due b st sp g j->j<=k)->Q (.int (k:Int)) H')) (_:∀H',aP H H'->(∀k,¬Due b st sp g k)->Q .non H')
theorem vP(T:Tx K mg a):aV P w K mg base Ti 4 a.aca a.abD ["block","start","stop","goal"] vC:=by
 refine T.acB.F.Tq dB λa2 A O s H vs Q E Z h=>?_;obtain⟨b,o,m,g,rfl,a0,W,U⟩:=h;refine(_,(aa (aA 4 dB.nd dM)
  (aa (bI PassesOwn.never rfl (Az rfl T.Wj (au (aF T.Ye (ou T) Z (My 0 (My 2 aj))) aj) ak) (lr rfl (bL (aU 5 dB.nd) (bL (aU 6 dB.nd) ig))) (ao (aX (PW.pt (gD (aG jf (pv 5) (pv 1)) (fY (aG jX (pv 6) (pv 3))))) (ao (aA 4 dB.nd (pv 5))) aK)))
  (ao (aD (pv 4))))),3)
 refine(2,b,(m:Int),7,9,9,λr S a1 R N=>?_);rw[ab1]at N;exists r,5,7,Tg.of N;refine yD (xs:=(nets b m).map V.int) (λi D B=>∃f,(∃k n,D=[some (.int b),some (.int (o:Int)),some (.int (m:Int)),some (.int g),some f,k,n])/\aP S B /\
  ((f=.non /\ ∀j,j<=i -> ¬Due b o m g j) \/ ∃k:Nat,f=.int (k:Int)/\k<=i/\Due b o m g k /\ ∀j,j<=i->Due b o m g j->j<=k)) ?_ ?_ ?_ ?_
 ·exact(.non,(none,none,7),aP.refl _,.inl (7,λj G d=>by have:=d.1;lia))
 ·rintro i D B _ ⟨_,_,u,_⟩;exact Tg.of (u _ _ N)
 ·rintro i x D B p Y ⟨f,⟨k,n,rfl⟩,u,I⟩ hp;obtain⟨c,M,rfl⟩:=int_at Y;have hi:i<m:=by
   have:=(aab.mp M).1;rw[eU]at this;exact this
  have ec:c=net b (i+1):=by
   rw[Ca hi]at M;exact(aao M).symm
  subst ec;have t:aP S (upd B p (.tup [.int ((i+1:Nat):Int),.int (net b (i+1))])):=u.trans (az hp _);have C:¬Due b o m g (i+1)->(f=.non /\ ∀j,j<=i+1 -> ¬Due b o m g j) \/ ∃k:Nat,f=.int (k:Int)/\k<=i+1/\Due b o m g k /\ ∀j,j<=i+1->Due b o m g j->j<=k:=λh=>by
   rcases I with ⟨e,J⟩|⟨k,e,X,d,L⟩
   ·refine .inl (e,λj G=>?_);rcases aaq i j with l|l
    ·have:j=i+1:=by lia
     subst this;exact h
    ·exact J j l
   ·refine .inr (k,e,9,d,λj G v=>?_);rcases aaq i j with l|l
    ·have:j=i+1:=by lia
     subst this;exact absurd v h
    ·exact L j l v
  exists p,5,Tj.of aq,7,_,5,4;refine(2,4,5,bD (λy=>?_) λy=>?_)
  ·have y:=of_decide_eq_true y;refine(2,4,5,bD (λq=>?_) λq=>?_)
   ·have q:=of_decide_eq_true q;exact(5,_,(_,5),t,.inr (i+1,7,aac _,(9,9,q),λj G _=>G))
   ·have q:¬net b (i+1)<=g:=λz=>q (decide_eq_true z);exact(f,(_,5),t,C λd=>q d.2.2)
  ·have y:¬(o:Int)<((i+1:Nat):Int):=λz=>y (decide_eq_true z);exact dN (f,(_,5),t,C λd=>by have:=d.1;lia)
 ·rintro D B ⟨f,⟨k,n,rfl⟩,u,I⟩;rw[aaa,eU]at I;exists 5;rcases I with ⟨rfl,J⟩|⟨k,rfl,X,d,L⟩
  ·exact U _ (R.trans u) λk d=>J k d.2.1 d
  ·exact W _ k (R.trans u) d λj v=>L j v.2.1 v
inductive Fl(vs:List V)(H:Hp)(Q:VK)(_e1:XK):Prop
 | mk (n:Nat) (_:vs=[.int (n:Int)]) (_:n<=100000) (_:∀S,il n S->Q (.int (S:Int)) H)
theorem iY(T:Tx K mg a):aV P w K mg base Ti 1 a.aeN a.aee ["many"] Fl:=by
 refine T.WD.F.Tq oF λo A d s H p Q E r h=>?_;obtain⟨n,rfl,u,q⟩:=h;refine(_,(aa (aA 1 oF.nd ak)
  (aa (lW PassesOwn.never (aG jW (pv 1) (pv 0)) (ao (aA 1 oF.nd (aB cH ak (pv 1)))))
  (ao (aD (pv 1))))),3)
 exists λm f g=>∃h:Nat,f=[some (.int (n:Int)),some (.int ((2^h:Nat):Int))]/\g=H/\m=n-2^h /\ ∀j,j<h->2^j<n,(_,0,7,7,7,λj b=>absurd b (agu _));rintro m f g ⟨h,rfl,rfl,rfl,b⟩;refine(2,4,5,bD (λc=>?_) λc=>?_)
 ·have c:((2^h:Nat):Int)<(n:Int):=of_decide_eq_true c;have t:0<2^h:=af8 h;refine(_,λ i v z=>z,5,4,.inl (6,6),n-2^(h+1),by rw[agt];lia,h+1,3,7,7,λj k=>?_)
  ·have e:(2:Int)*((2^h:Nat):Int)=((2^(h+1):Nat):Int):=by rw[agt];lia
   rw[<-e];rfl
  ·rcases aaq j h with l|l
   ·exact b j l
   ·have:j=h:=by lia
    subst this;lia
 ·have c:¬((2^h:Nat):Int)<(n:Int):=λz=>c (decide_eq_true z);exact(5,q (2^h) (h,7,9,b))
abbrev nats(l:List Nat):List V:=l.map λn:Nat=>V.int (n:Int)
inductive qz(vs:List V)(H:Hp)(Q:VK)(_e1:XK):Prop
 | mk (n st sp:Nat) (_:vs=[.int (n:Int),.int (st:Int),.int (sp:Int)]) (_:st<=sp) (_:sp<=n) (_:Q .non H)
theorem qF(T:Tx K mg a):aV P w K mg base Ti 1 a.aa7 a.aaU ["many","start","stop"] qz:=by
 refine T.abl.F.Tq qY λe A b s H f Q E g h=>?_;obtain⟨n,c,d,rfl,j,i,q⟩:=h;exists _,(ao (aX (nU (HW jX jX jX ak (pv 1) (pv 2) (pv 0))) (ao b7) aK));refine(5,4,5,bD (λ_=>?_) λz=>absurd (decide_eq_true (show (0:Int)<=(c:Int)from by lia)) z);refine(5,4,5,bD (λ_=>?_) λz=>absurd (decide_eq_true (show (c:Int)<=(d:Int)from by lia)) z);exists 5,4,5;rw[decide_eq_true (show (d:Int)<=(n:Int)from by lia)];exact dN q
inductive K3(vs:List V)(H:Hp)(Q:VK)(_e1:XK):Prop
 | mk (many st sp:Nat) (_:vs=[.int (many:Int),.int (st:Int),.int (sp:Int)]) (_:st<=sp) (_:sp<=many) (_:many<=4096) (_:∀S r H',il many S->H r=none->aP H H'->H' r=some (.lst (nats (cover S st sp)))->Q (.ref r) H')
theorem JS(h:n<i):(i-i%2) / 2-(n+n%2) / 2<i-n:=by lia
theorem Px{f:Nat}(h:n<i)(b:i-n<=f+1):(i-i%2) / 2-(n+n%2) / 2<=f:=Nat.le_of_lt_succ (aai (JS h) b)
theorem CZ(T:Tx K mg a):aV P w K mg base Ti 2 a.afD a.afo ["many","start","stop"] K3:=by
 refine T.Zh.F.Tq dR λa8 A a3 s H vs Q E hr h=>?_;obtain⟨n,u,x,rfl,h1,h2,h3,q⟩:=h;refine(_,(aa (bu (aF T.abl (qF T) hr (My 0 (My 1 (My 2 aj)))))
  (aa (aA 3 dR.nd (aF T.WD (iY T) hr (My 0 aj)))
  (aa (aA 4 dR.nd (aB aZ (pv 3) (pv 1)))
  (aa (aA 5 dR.nd (aB aZ (pv 3) (pv 2)))
  (aa (aA 6 dR.nd (cX aj))
  (aa (aA 7 dR.nd (cX aj))
  (aa (lW PassesOwn.never (aG jW (pv 4) (pv 5)) (aa (aX (aG cR (aB bO (pv 4) ak) ak) (aa (bu (jg PySem.F.plainAttrs_list PySem.F.slot_list_append PySem.F.type_list_append b8 (pv 6) (My 4 aj)))
  (ao (aA 4 dR.nd (aB aZ (pv 4) ak)))) aK)
  (aa (aX (aG cR (aB bO (pv 5) ak) ak) (aa (aA 5 dR.nd (aB bA (pv 5) ak))
  (ao (bu (jg PySem.F.plainAttrs_list PySem.F.slot_list_append PySem.F.type_list_append b8 (pv 7) (My 5 aj))))) aK)
  (aa (aA 4 dR.nd (aB bG (pv 4) ak))
  (ao (aA 5 dR.nd (aB bG (pv 5) ak)))))))
  (ao (aD (aB lX (pv 6) (Dm rfl rfl T.Xi Tw.o7 rfl T.Yk Tw.jq (My 7 aj)))))))))))),3)
 exists 2,5,n,u,x,7,h1,h2;refine(5,n,7,9,λS hS=>?_);exists 2,4;exists 2,4;refine((by show 0<=sizeLine;decide),λp Z=>?_);refine((by show 0<=sizeLine;decide),λk Y=>?_);have X:p≠k:=aJ aq Y;have J:=(az Z (.lst [])).free Y;have a0:=(az Z (.lst [])).trans (az Y (.lst []));have a7:=hS.le h3;refine(λm C O=>∃(e b f:Nat) (o j:List Nat),C=[some (.int (n:Int)),some (.int (u:Int)),some (.int (x:Int)),some (.int (S:Int)),some (.int (e:Int)),some (.int (b:Int)),some (.ref p),some (.ref k)]/\m=b-e/\aP H O/\O p=some (.lst (nats o))/\O k=some (.lst (nats j))/\b-e<=f/\CQ f e b o j=cover S u x/\o.length+j.length+2*f<=20000,
  (_,S+u,S+x,x-u,[],[],7,7,a0,by rw[aH X,aq];rfl,aq,9,7,by simp;lia),3)
 rintro m C O ⟨e,b,f,o,j,rfl,rfl,L,M,B,hf,y,hz⟩;refine(2,4,5,bD (λc=>?_) λc=>?_)
 ·have c:(e:Int)<(b:Int):=of_decide_eq_true c;obtain⟨f,rfl⟩:∃g,f=g+1:=(f-1,9);unfold CQ at y;rw[if_pos ⋯]at y;exists _,λ a6 I z=>z;exists 5,4,(by show (0:Int)<2;decide),7,5;refine Ha (λ C I=>∃(D:List Nat),C=[some (.int (n:Int)),some (.int (u:Int)),some (.int (x:Int)),some (.int (S:Int)),some (.int ((e+e%2:Nat):Int)),some (.int (b:Int)),some (.ref p),some (.ref k)]/\D=(if e%2=1 then o++[e]else o)/\aP H I/\I p=some (.lst (nats D))/\I k=some (.lst (nats j))) (λd=>?_) ?_ (λd m=>?_)
  ·have d:¬(e:Int)%2=1:=λz=>d (decide_eq_true (congrArg V.int z));refine(o,3,by rw[if_neg ⋯],L,M,B);rw[show e+e%2=e from by lia]
  rotate_left
  ·have d:V.int ((e:Int)%2)=V.int 1:=of_decide_eq_true d;injection d with d
   exists 5,.inl (7,_,Tg.of M),5,p,4,M,?_
   ·rw[aaa,sizeLine_eq];lia
   refine(5,4,m _ _ (o++[e],3,by rw[if_pos ⋯],bT L Z _,3,3))
   ·rw[show ((e+e%2:Nat):Int)=(e:Int)+1 from by lia];rfl
   ·rw[aq];unfold nats;rw[aal];rfl
   ·rw[aH X.symm];exact B
  rintro a5 I ⟨D,rfl,W,Ue,t,i⟩;exists 5,4,(by show (0:Int)<2;decide),7,5;refine Ha (λ C N=>∃(G:List Nat),C=[some (.int (n:Int)),some (.int (u:Int)),some (.int (x:Int)),some (.int (S:Int)),some (.int ((e+e%2:Nat):Int)),some (.int ((b-b%2:Nat):Int)),some (.ref p),some (.ref k)]/\G=(if b%2=1 then j++[b-1]else j)/\aP H N/\N p=some (.lst (nats D))/\N k=some (.lst (nats G))) (λd=>?_) ?_ (λd m=>?_)
  ·have d:¬(b:Int)%2=1:=λz=>d (decide_eq_true (congrArg V.int z));refine(j,3,by rw[if_neg ⋯],Ue,t,i);rw[show b-b%2=b from by lia]
  rotate_left
  ·have d:V.int ((b:Int)%2)=V.int 1:=of_decide_eq_true d;injection d with d
   exists 5,4;refine(5,.inl (7,_,Tg.of i),5,k,4,i,3,m _ _ (j++[b-1],3,by rw[if_pos ⋯],bT Ue J _,3,3))
   ·rw[aaa,sizeLine_eq];lia
   ·rw[show ((b-b%2:Nat):Int)=(b:Int)-1 from by lia];rfl
   ·rw[aH X];exact t
   ·rw[aq];unfold nats;rw[aal];exact congrArg (λv=>some (HO.lst (j.map (λn:Nat=>V.int (n:Int))++[v]))) (congrArg V.int (show (b:Int)-1=((b-1:Nat):Int)from by lia))
  rintro a4 N ⟨G,rfl,U,a1,a2,Xc⟩;rw[<-W,<-U]at y;have z2:D.length<=o.length+1:=by
   rw[W];split<;>simp
  have z3:G.length<=j.length+1:=by
   rw[U];split<;>simp
  exists 5,4,(6,6);refine(5,4,(6,6),(b-b%2) / 2-(e+e%2) / 2,JS (aja.mp c),(e+e%2) / 2,(b-b%2) / 2,f,D,G,3,7,a1,a2,Xc,Px (aja.mp c) hf,y,by clear y W U hf;lia);rw[show (((e+e%2) / 2:Nat):Int)=((e+e%2:Nat):Int) / 2 from by lia,show (((b-b%2) / 2:Nat):Int)=((b-b%2:Nat):Int) / 2 from by lia];rfl
 ·have c:¬(e:Int)<(b:Int):=λz=>c (decide_eq_true z);rw[K6 ⋯]at y;refine(2,k,5,Tg.of B,λl t=>?_);have R:=az t (.lst (nats j).reverse);refine(p,l,4,R _ _ M,aq,3,λr i=>?_)
  ·rw[ahF,aaa,aaa,sizeLine_eq];lia
  refine q S r _ hS ((L.trans R).free i) (L.trans (R.trans (az i _))) ?_;rw[aq,<-y];unfold nats;rw[aal,aiK]
inductive Jb(vs:List V)(H:Hp)(Q:VK)(_e1:XK):Prop
 | mk (x y:V) (_:vs=[x,y]) (_:NI x) (_:NI y) (_:Q (xP x y) H)
theorem zR(T:Tx K mg a):aV P w K mg base Ti 1 a.adA a.acU ["one","other"] Jb:=by
 refine T.adU.F.Tq yL λe A b s H f Q E g h=>?_;obtain⟨x,y,rfl,d,c,q⟩:=h;refine(_,(aa (aX (fX (mQ (pv 0))) (ao (aD (pv 1))) aK)
  (aa (aX (fX (mQ (pv 1))) (ao (aD (pv 0))) aK)
  (ao (aD (aL (xU rfl) rfl T.Zw Tw.Er (My 0 (My 1 aj))))))),3)
 rcases d with rfl|⟨i,rfl⟩
 ·rw[yf]at q;exact(2,jj (5,q))
 refine(2,dN ?_);rcases c with rfl|⟨j,rfl⟩
 ·exact(2,jj (5,q))
 exact(2,dN (2,i,j,7,q))
inductive Fw(K:PySem.W.Frag)(vs:List V)(H:Hp)(Q:VK)(E:XK):Prop
 | mk (p:Addr) (ns:List Int) (_:vs=[.ref p]) (_:Tg K H p (ns.map V.int)) (_:ns.length<=4096) (_:∀S r H' xs,il ns.length S->H r=none->aP H H'->H' r=some (.lst xs)->jk ns S 1 xs->Q (.ref r) H')
theorem Dw(T:Tx K mg a):aV P w K mg base Ti 2 a.aeM a.aed ["numbers"] (Fw K):=by
 refine T.ae1.F.Tq lB λa3 A R s H vs Q E hr h=>?_;obtain⟨p,b,rfl,o,hl,q⟩:=h;refine(_,(aa (aX (aG jf (aL aO rfl T.Tz Tw.bh (My 0 aj)) (bF (v:=.int 4096) rfl T.ad8 (_,7))) (ao b7) aK)
  (aa (aA 1 lB.nd (aF T.WD (iY T) hr (au (aL aO rfl T.Tz Tw.bh (My 0 aj)) aj)))
  (aa (aA 2 lB.nd (aB lX (aB lX (aB yZ (cX (au dM aj)) (pv 1)) (cW lD rfl T.Xi Tw.o7 (My 0 aj))) (aB yZ (cX (au dM aj)) (aB bA (pv 1) (aL aO rfl T.Tz Tw.bh (My 0 aj))))))
  (aa (bI PassesOwn.never rfl (Ex rfl T.Wk (au (aB bA (pv 1) ak) (au ak (au (nR jK ak) aj)))) (aU 3 lB.nd) (ao (JT (aF T.adU (zR T) hr (au (aW jm (pv 2) (aB cH ak (pv 3))) (au (aW jm (pv 2) (aB aZ (aB cH ak (pv 3)) ak)) aj))) (QT (pv 2) (pv 3) set_list))))
  (ao (aD (pv 2))))))),3)
 have u:(b.map V.int).length=b.length:=aaa ..;refine(5,p,5,.inl o,4,5,bD (λz=>?_) λ_=>?_)
 ·have z:(4096:Int)<((b.map V.int).length:Int):=of_decide_eq_true z;lia
 refine(5,p,5,.inl o,b.length,3,9,λS x=>?_)
 ·rw[u];rfl
 have O:=x.pos;have a2:=x.le hl;have J:b.length<=S:=by
  obtain⟨_,_,z,_⟩:=x;exact z
 refine Hb (t:=Lf (tC .non) Rz) (σ:=[some (.ref p),some (.int (S:Int)),none,none]) (i:=1) (k:=(S:Int)) (xs:=[.non]) (λQ' q=>q) rfl ⋯ ∅ ⋯ λp1 H1 a1 Z U=>?_;refine(5,p,5,.inl (Z.seq o),λl2 M=>?_);have Y:=az M (.lst (b.map V.int));have e1:(aaE (S:Int).toNat [V.non]).flatten=aaE S V.non:=by
  rw[ab1];simp
 rw[e1]at U;refine(p1,l2,4,Y _ _ U,aq,3,λp3 I=>?_)
 ·rw[u,abp,sizeLine_eq];lia
 have s3:=az I (.lst (aaE S V.non++b.map V.int));refine((by show 1<=sizeLine;decide),λl4 L=>?_);have X:=az L (.lst [.non]);have j:=Z.trans (Y.trans (s3.trans X));refine(2,p,5,.inl (j.seq o),4,l4,((S-b.length:Nat):Int),[.non],7,3,aq,9,9,3,λp5 G=>?_)
 ·show V.int ((S:Int)-((b.map V.int).length:Int))=_;rw[u];exact congrArg V.int ⋯
 ·rw[sizeLine_eq];show 1*_<=_;lia
 have e5:(aaE ((S-b.length:Nat):Int).toNat [V.non]).flatten=aaE (S-b.length) V.non:=by
  rw[ab1];simp
 rw[e5];have W:=az G (.lst (aaE (S-b.length) V.non));refine(p3,p5,4,W _ _ (X _ _ aq),aq,3,λr m=>?_)
 ·rw[aaf,u,abp,abp,sizeLine_eq];lia
 have g:=j.trans W;have l:=g.free m;have s6:=g.trans (az m (.lst (aaE S V.non++b.map V.int++aaE (S-b.length) V.non)));refine(5,4,5,S-1,0,3,9,9,3)
 ·rw[show ((S-1:Nat):Int)=(S:Int)-1 from by lia];rfl
 refine Ay (n:=S-1-0) (λi y f=>(∃C,y=[some (.ref p),some (.int (S:Int)),some (.ref r),C])/\aP H f /\ ∃c,f r=some (.lst c)/\jk b S (S-i) c) ((none,7),s6,_,aq,jk.start O J) ?_ ?_
 ·rintro i y f hi ⟨⟨C,rfl⟩,B,c,d,e⟩;obtain⟨k,rfl⟩:∃k,S=k+i+1:=(S-i-1,9);have D:((k+i+1-1:Nat):Int)+(i:Int)*(-1)=(k:Int):=by lia
  rw[show k+i+1-i=k+1 from by lia]at e;have a0:=e.len;have hx:c[2*k]?=some c[2*k]:=aad ⋯;have hy:c[2*k+1]?=some c[2*k+1]:=aad ⋯;have ha:T7 c (2*(((k+i+1-1:Nat):Int)+(i:Int)*(-1)))=some c[2*k]:=by
   rw[D,show 2*(k:Int)=((2*k:Nat):Int)from by lia];exact Gk hx
  have hb:T7 c (2*(((k+i+1-1:Nat):Int)+(i:Int)*(-1))+1)=some c[2*k+1]:=by
   rw[D,show 2*(k:Int)+1=((2*k+1:Nat):Int)from by lia];exact Gk hy
  have N:Vf c.length (((k+i+1-1:Nat):Int)+(i:Int)*(-1))=some k:=by
   rw[D];exact Ox ⋯
  exists 2,4,.inl (6,6),r,_,4,Tg.of d,ha;exists 2,4,.inl (6,6),4,r,_,4,Tg.of d,hb;exists _,5,e.ni _ (acz _),e.ni _ (acz _);exists 2,r,8,k,7,7,d,N,(_,7),bT B l _,_,aq;rw[show k+i+1-(i+1)=k from by lia];exact e.step ⋯ ⋯ hx hy
 ·rintro y f ⟨⟨C,rfl⟩,B,c,d,e⟩;rw[show S-(S-1-0)=1 from by lia]at e;exact(5,q S r f c x l B d e)
inductive Ga(K:PySem.W.Frag)(vs:List V)(H:Hp)(Q:VK)(_e1:XK):Prop
 | mk (p:Addr) (ns:List Int) (_:vs=[.ref p]) (_:Tg K H p (ns.map V.int)) (_:∀b H',(b=true ↔ Tree ns)->aP H H'->Q (.bl b) H')
theorem Ge(T:Tx K mg a):aV P w K mg base Ti 1 a.aeQ a.aei ["bits"] (Ga K):=by
 refine T.ae2.F.Tq iZ λL A v s H M Q E O h=>?_;obtain⟨p,d,rfl,u,q⟩:=h;refine(_,(aa (aA 1 iZ.nd ak)
  (aa (bI PassesOwn.never rfl (uy rfl T.Wj (My 0 aj)) (lr rfl (bL (aU 2 iZ.nd) (bL (aU 3 iZ.nd) ig))) (aa (aX (PW.pt (gD (aG jf (pv 2) ak) (fY (aG jX (pv 1) ak)))) (ao (aD rZ)) aK)
  (ao (aA 1 iZ.nd (aB bA (aB aZ (pv 1) (aB cH ak (pv 3))) ak)))))
  (ao (aD (Kd (zm By (aL aO rfl T.Tz Tw.bh (My 0 aj)) ak) (Ma (zm cR (pv 1) ak))))))),3)
 exists 5,p,5,u;refine vJ (xs:=d.map V.int) (λi o f=>(∃j g,o=[some (.ref p),some (.int (ht d i)),j,g])/\aP H f /\ ∀k,0<k->k<i->0<ht d k) ((none,none,by rw[jr];rfl),aP.refl _,λk _ h=>absurd h (agu _)) ?_ ?_ ?_
 ·rintro i o f _ ⟨_,e,_⟩;exact e.seq u
 ·rintro i x o f y G ⟨⟨j,g,rfl⟩,e,r⟩ J;obtain⟨b,C,rfl⟩:=int_at G;have I:=(aab.mp C).1;have n:=e.trans (az J (.tup [.int (i:Int),.int b]));exists y,5,Tj.of aq,7,_,5,4;have D:(0<i->0<ht d i)->(∃j g,[some (V.ref p),some (.int (ht d i+2*b-1)),some (.int (i:Int)),some (.int b)]=[some (.ref p),some (.int (ht d (i+1))),j,g])/\aP H (upd f y (.tup [.int (i:Int),.int b])) /\ ∀k,0<k->k<i+1->0<ht d k:=λh=>
   ((8,by rw[kW C]),n,λk B N=>by
    rcases aaq k i with l|l
    ·exact r k B l
    ·have:k=i:=by lia
     subst this;exact h B)
  refine(5,4,5,bD (λc=>?_) λc=>?_)
  ·have c:(0:Int)<(i:Int):=of_decide_eq_true c;refine(5,4,5,bD (λm=>?_) λm=>?_)
   ·have m:ht d i<=0:=of_decide_eq_true m;exact q false _ (λz=>absurd z aar,λt=>by have:=t.2.2 i ⋯ I;lia) n
   ·have m:¬ht d i<=0:=λz=>m (decide_eq_true z);exact(2,4,.inl (6,6),4,4,D λ_=>by lia)
  ·have c:¬(0:Int)<(i:Int):=λz=>c (decide_eq_true z);refine dN ?_;exact(2,4,.inl (6,6),4,4,D λz=>by lia)
 ·rintro o f ⟨⟨j,g,rfl⟩,e,r⟩;rw[aaa]at r ⊢;refine(5,p,5,.inl (e.seq u),4,5,bD (λc=>?_) λc=>?_)
  ·have c:(2:Int)<=((d.map V.int).length:Int):=of_decide_eq_true c;rw[aaa]at c;exists 5,7;refine q _ f ?_ e;rw[decide_eq_true_iff];exact(λz=>(9,V.int.inj z,r),λt=>congrArg V.int t.2.1)
  ·have c:¬(2:Int)<=((d.map V.int).length:Int):=λz=>c (decide_eq_true z);rw[aaa]at c;exact q false f (λz=>absurd z aar,λt=>by have:=t.1;lia) e
structure Tab(H:Hp)(t ah:Addr)(ns:List Int)(rest:List V):Prop where
 tup:H t=some (.tup (.int (ns.length:Int)::.ref ah::rest))
 Uy:H ah=some (.tup ((T8 ns (many ns.length)).map V.int))
 few:rest.length<=1
theorem Tab.same{H':Hp}{t :Addr}(h:Tab H t f d l)(s:aP H H'):Tab H' t f d l:=(s _ _ h.tup,s _ _ h.Uy,h.few)
theorem nu(x y:V):∀rest:List V,rest.length<=1->T7 (x::y::rest) 0=some x
 |[],_=>rfl
 |[_],_=>rfl
 |_::_::_,h=>absurd h (by simp)
theorem oX(x y:V):∀rest:List V,rest.length<=1->T7 (x::y::rest) 1=some y
 |[],_=>rfl
 |[_],_=>rfl
 |_::_::_,h=>absurd h (by simp)
theorem Ly{n j:Nat}(h:j<=n):T7 ((T8 d n).map V.int) (j:Int)=some (.int (d.take (32*j)).sum):=pM (o8 h)
inductive De(K:PySem.W.Frag)(vs:List V)(H:Hp)(Q:VK)(_e1:XK):Prop
 | mk (p:Addr) (ns:List Int) (_:vs=[.ref p]) (_:Tg K H p (ns.map V.int)) (_:ns.length<=4096) (_:bc ns) (_:∀r b t ah H',H b=none->aP H H'->H' r=some (.tup [.ref t,.ref b])->Tab H' t ah ns []->H' b=some (.lst ((bB ns).map V.int))->Q (.ref r) H')
theorem lL(T:Tx K mg a):aV P w K mg base Ti 5 a.aef a.adB ["bits"] (De K):=by
 refine T.Yh.F.Tq sG λz A i s H B Q E j h=>?_;obtain⟨p,c,rfl,l,x,k,q⟩:=h;refine(_,(aa (aA 1 sG.nd (aF T.afu (Hz T) j (My 0 aj)))
  (ao (aD (iB (au (iB (au (aL aO rfl T.Tz Tw.bh (My 0 aj)) (au (aF T.aew (CV T) j (My 1 aj)) aj))) (My 1 aj)))))),3)
 refine(5,p,c,7,l,x,k,λb G g v n=>?_);refine(5,p,5,.inl (v.seq l),5,b,bB c,7,Tg.of n,3,λo D C u m=>?_)
 ·rw[bC];unfold many;lia
 rw[zQ k]at m;have y:(c.map V.int).length=c.length:=aaa ..;rw[y];refine((by show 2<=sizeLine;decide),λt ht=>(5,(by show 2<=sizeLine;decide),λr f=>?_));have e:=az ht (.tup [.int (c.length:Int),.ref o]);have d:=az f (.tup [.ref t,.ref b]);exact q r b t o _ g (v.trans (u.trans (e.trans d))) aq (d _ _ aq,d _ _ (e _ _ m),6) (d _ _ (e _ _ (u _ _ n)))
inductive oY(K:PySem.W.Frag)(vs:List V)(H:Hp)(Q:VK)(_e1:XK):Prop
 | mk (p:Addr) (ns:List Int) (_:vs=[.ref p]) (_:Tg K H p (ns.map V.int)) (_:ns.length<=4096) (_:bc ns) (_:Tree ns) (_:∀H',aP H H'->Q .non H')
theorem pD(T:Tx K mg a):aV P w K mg base Ti 2 a.aaV a.aaJ ["bits"] (oY K):=by
 refine T.aa1.F.Tq pP λm A d s H n Q E f h=>?_;obtain⟨p,e,rfl,g,j,k,ht,q⟩:=h;refine(_,(aa (bu (aF T.Ze (oZ T) f (My 0 aj)))
  (ao (aX (nU (vL (aF T.ae2 (Ge T) f (My 0 aj)))) (ao b7) aK))),3)
 exists 5,p,e,7,g,j,k;refine(5,p,e,7,g,λb l c i=>?_);have:b=true:=c.mpr ht;subst this;exact(true,7,dN (q l i))
inductive Es(vs:List V)(H:Hp)(Q:VK)(_e1:XK):Prop
 | mk (t ah:Addr) (ns:List Int) (rest:List V) (j:Nat) (_:vs=[.ref t,.int (j:Int)]) (_:Tab H t ah ns rest) (_:j<=many ns.length) (_:Q (.int (ht ns (32*j))) H)
theorem oH(T:Tx K mg a):aV P w K mg base Ti 1 a.aeS a.aej ["tables","number"] Es:=by
 refine T.Yi.F.Tq Dy λf A c s H g Q E k h=>?_;obtain⟨t,e,i,rest,j,rfl,b,d,q⟩:=h;exists _,(ao (aD (aB bA (aB cH ak (aW aR (aW aR (pv 0) ak) (pv 1))) (aB cH (bF (v:=.int 32) rfl T.Uv (_,7)) (pv 1)))));exists 5,t,_,4,Tj.of b.tup,oX _ _ _ b.few,5,e,_,4,Tj.of b.Uy,Ly d,4,.inl (6,6),5,4,.inl (6,6),4;unfold ht at q;rw[show ((32*j:Nat):Int)=32*(j:Int)from by lia]at q;exact q
inductive wG(vs:List V)(H:Hp)(Q:VK)(_e1:XK):Prop
 | mk (j n:Nat) (_:vs=[.int (j:Int),.int (n:Int)]) (_:32*j<=n) (_:Q (.int (wide n j:Nat)) H)
theorem jA(T:Tx K mg a):aV P w K mg base Ti 1 a.acY a.ace ["number","upto"] wG:=by
 refine T.Yj.F.Tq xn λc A b s H d Q E f h=>?_;obtain⟨j,n,rfl,g,q⟩:=h;exists _,(ao (aD (aL (xU rfl) rfl T.Zw Tw.Er (au (aB bA (pv 1) (aB cH (bF (v:=.int 32) rfl T.Uv (_,7)) (pv 0))) (au (bF (v:=.int 32) rfl T.Uv (_,7)) aj)))));exists 2,4,.inl (6,6),4,_,5;have e:(if (32:Int)<(n:Int)-32*(j:Int)then (32:Int)else (n:Int)-32*(j:Int))=((wide n j:Nat):Int):=by
  unfold wide;split<;>lia
 rw[<-e]at q;exact q
inductive Jv(vs:List V)(H:Hp)(Q:VK)(_e1:XK):Prop
 | mk (t ah:Addr) (ns:List Int) (rest:List V) (j:Nat) (_:vs=[.ref t,.int (j:Int),.int (cD ns j)]) (_:Tab H t ah ns rest) (_:bc ns) (_:32*j<ns.length) (_:∀m H',yd ns j m->aP H H'->Q (.int m) H')
theorem JF(T:Tx K mg a):aV P w K mg base Ti 5 a.afq a.aeR ["tables","number","block"] Jv:=by
 refine T.afx.F.Tq Hx λn A f s H o Q E c h=>?_;obtain⟨t,l,b,rest,j,rfl,d,k,r,q⟩:=h;exists _,(ao (aD (aB aZ (aF T.Yi (oH T) c (My 0 (My 1 aj))) (aF T.afw (Iz T) c (My 2 (au (aF T.Yj (jA T) c (My 1 (au (aW aR (pv 0) ak) aj))) aj))))));have i:j<=many b.length:=by
  unfold many;lia
 have p:1<=wide b.length j/\wide b.length j<=32:=by
  unfold wide;lia
 exists 2,t,l,b,rest,j,7,d,i;refine(2,5,t,_,4,Tj.of d.tup,nu _ _ _ d.few,j,b.length,7,9,3);refine(cD b j,((wide b.length j:Nat):Int),7,9,9,λM m e g=>(4,3));rw[ab1]at e;exact q _ m (yd.of k e.1 e.2) g
structure KB(H:Hp)(t ah nd bl:Addr)(ns lows:List Int)(S:Nat)(xs:List V):Prop where
 tab:Tab H t ah ns [.ref nd]
 VD:H nd=some (.tup xs)
 ZG:H bl=some (.lst ((bB ns).map V.int))
 low:DY ns lows
 sz:il lows.length S
 heap:jk lows S 1 xs
inductive qC(K:PySem.W.Frag)(vs:List V)(H:Hp)(Q:VK)(_e1:XK):Prop
 | mk (p:Addr) (ns:List Int) (_:vs=[.ref p]) (_:Tg K H p (ns.map V.int)) (_:ns.length<=4096) (_:bc ns) (_:Tree ns) (_:∀r t ah nd bl lows S xs H',H bl=none->H r=none->H t=none->aP H H'->H' r=some (.tup [.ref t,.ref bl])->KB H' t ah nd bl ns lows S xs->Q (.ref r) H')
theorem rJ(T:Tx K mg a):aV P w K mg base Ti 6 a.aa8 a.aaW ["bits"] (qC K):=by
 refine T.abm.F.Tq cI λa1 A U s H vs Q E n h=>?_;obtain⟨p,d,rfl,hS,Z,L,ht,q⟩:=h;refine(_,(aa (bu (aF T.aa1 (pD T) n (My 0 aj)))
  (aa (aA 1 cI.nd (aF T.Yh (lL T) n (My 0 aj)))
  (aa (rE (i:=2) cI.nd rfl (ahs rfl) (aW aR (pv 1) ak))
  (aa (aA 3 cI.nd (aW aR (pv 1) ak))
  (aa (Bu (i:=4) cI.nd rfl rfl rfl ((cj.one (j:=2) rfl (agP rfl) rfl rfl (agP rfl)),7,6) (uy rfl T.Wj (My 3 aj)) (λ_ _ _ _=>(aF T.afx (JF T) n (My 2 (My 0 (My 1 aj))))))
  (ao (aD (iB (au (iB (au (aW aR (pv 2) ak) (au (aW aR (pv 2) ak) (au (cW gf rfl T.Yl Tw.qb (au (aF T.ae1 (Dw T) n (My 4 aj)) aj)) aj)))) (My 3 aj)))))))))),3)
 refine(5,p,d,7,hS,Z,L,ht,λH1 g=>?_);refine(5,p,d,7,g.seq hS,Z,L,λr b t M H2 O C W o u=>?_);exists 5,r,_,4,Tj.of W,7;exists 5,r,_,4,Tj.of W,7;have e:=bC d;have ZJ:many d.length<=128:=by
  unfold many;lia
 exists 5,b,5,Tg.of u;refine Dr (yd d) (Tg.of u) (by rw[e,sizeLine_eq];lia) (λi c H' Q J sm qq=>?_) λD H3 G hD f xD m hR=>?_
 ·have I:=(aab.mp J).1;rw[e]at I;rw[jT I]at J;cases J;refine(2,5,t,M,d,[],i,7,o.same sm,L,3,qq);unfold many at I;lia
 have R:DY d G:=(by rw[m,e],hR);exists 5,t,_,4,Tj.of (f _ _ o.tup),7;exists 5,t,_,4,Tj.of (f _ _ o.tup),7;refine(5,D,G,7,Tg.of xD,9,λS r4 H4 V Ux a0 B x4 hv=>?_);refine(r4,5,.inl (Tg.of x4,λY N=>?_));have z:=az N (.tup V);refine((by show 3<=sizeLine;decide),λX k=>?_);have y:=az k (.tup [.int (d.length:Int),.ref M,.ref Y]);refine(5,(by show 2<=sizeLine;decide),λr7 l=>?_);have x:=az l (.tup [.ref X,.ref b]);have v:=f.trans (B.trans (z.trans (y.trans x)));refine q r7 X M Y b G S V _ (g.free O) ((g.trans (C.trans (f.trans (B.trans (z.trans y))))).free l) ((g.trans (C.trans (f.trans (B.trans z)))).free k) (g.trans (C.trans v)) aq ((x _ _ aq,v _ _ o.Uy,aac _),x _ _ (y _ _ aq),v _ _ u,R,Ux,hv)
inductive tR(vs:List V)(H:Hp)(Q:VK)(_e1:XK):Prop
 | mk (p:Addr) (ds:List Int) (_:vs=[.ref p]) (_:H p=some (.lst (ds.map V.int))) (_:gr ds) (_:ds.length<=2048) (_:∀H',aP H H'->Q .non H')
theorem tW(T:Tx K mg a):aV P w K mg base Ti 1 a.abL a.abg ["depths"] tR:=by
 refine T.abY.F.Tq gO λO A l s H R Q E S h=>?_;obtain⟨p,b,rfl,e,k,U,q⟩:=h;refine(_,(aa (aX (aG jf (aL aO rfl T.Tz Tw.bh (My 0 aj)) (bF (v:=.int 2048) rfl T.ae9 (_,7))) (ao b7) aK)
  (aa (aX (PW.pt (nO (aG cR (aL aO rfl T.Tz Tw.bh (My 0 aj)) ak) (kj (aG yc (aW jm (pv 0) ak) ak)))) (ao b7) aK)
  (ao (bI PassesOwn.never rfl (DN rfl T.Zy Tw.Fy (My 0 (au (bZ p7 (pv 0) (cB ak) cO) aj))) (lr rfl (bL (aU 1 gO.nd) (bL (aU 2 gO.nd) ig))) (ao (aX (nU (uC jX jX ak (pv 2) (aB aZ (pv 1) ak))) (ao b7) aK)))))),3)
 have C:(b.map V.int).length=b.length:=aaa ..;have W:0<b.length:=(aab.mp k.1).1;refine(5,p,5,.inl (Tg.of e),4,5,bD (λc=>?_) λc=>?_)
 ·have c:(2048:Int)<((b.map V.int).length:Int):=of_decide_eq_true c;rw[C]at c;lia
 refine(5,p,5,.inl (Tg.of e),7,5,bD (λc=>?_) λc=>?_)
 ·have c:V.int ((b.map V.int).length:Int)=V.int 0:=of_decide_eq_true c;injection c with c
  rw[C]at c;lia
 refine(5,p,_,4,Tg.of e,pM (i:=0) k.1,7,5,yj rfl ?_);refine(2,5,p,5,Tg.of e,λc L=>?_);have j:=az L (.lst (fc (b.map V.int) (some 1) none));have M:fc (b.map V.int) (some 1) none=(b.drop 1).map V.int:=Kc b 1;have m:upd H c (.lst (fc (b.map V.int) (some 1) none)) c=some (.lst ((b.drop 1).map V.int)):=by rw[aq,M]
 generalize upd H c (.lst (fc (b.map V.int) (some 1) none))=N at *;exists p,c,_,5,Tg.of (j _ _ e),Tg.of m;refine O5 (xs:=b.map V.int) (ys:=(b.drop 1).map V.int) (λi g f=>(∃o n,g=[some (.ref p),o,n])/\aP N f) ((none,none,7),aP.refl _) ?_ ?_ ?_
 ·rintro i g f _ ⟨_,d⟩;exact(Tg.of (d _ _ (j _ _ e)),Tg.of (d _ _ m))
 ·rintro i x y g f t I G ⟨⟨o,n,rfl⟩,d⟩ ht;obtain⟨u,J,rfl⟩:=int_at I;obtain⟨v,r,rfl⟩:=int_at G;rw[agw,ai6]at r;have B:=k.2 i u v J r;have D:=az ht (.tup [.int u,.int v]);exists t,5,Tj.of aq,7,_,5,4;exact(5,4,5,bD (λ_=>(5,4,4,5,yj B.2 ((_,5),d.trans D))) λz=>absurd (decide_eq_true B.1) z)
 ·rintro g f ⟨_,d⟩;exact q f (j.trans d)
inductive v4(vs:List V)(H:Hp)(Q:VK)(_e1:XK):Prop
 | mk (p:Addr) (ds:List Int) (_:vs=[.ref p]) (_:H p=some (.lst (ds.map V.int))) (_:gr ds) (_:ds.length<=2048) (_:∀r H',H r=none->aP H H'->H' r=some (.lst ((brk ds 0).map V.int))->Q (.ref r) H')
theorem uG(T:Tx K mg a):aV P w K mg base Ti 2 a.aci a.abM ["depths"] v4:=by
 refine T.acD.F.Tq cY λa1 A O s H vs Q E hr h=>?_;obtain⟨p,g,rfl,G,I,hl,q⟩:=h;refine(_,(aa (bu (aF T.abY (tW T) hr (My 0 aj)))
  (aa (aA 1 cY.nd (cX aj))
  (aa (aA 2 cY.nd ak)
  (aa (bI PassesOwn.never rfl (bU (pv 0)) (aU 3 cY.nd) (aa (bu (jg PySem.F.plainAttrs_list PySem.F.slot_list_extend PySem.F.type_list_extend rO (pv 1) (au (aB yZ (cX (au ak aj)) (aB bA (pv 2) (pv 3))) aj)))
  (aa (bu (jg PySem.F.plainAttrs_list PySem.F.slot_list_append PySem.F.type_list_append b8 (pv 1) (au ak aj)))
  (ao (aA 2 cY.nd (aB aZ (pv 3) ak))))))
  (ao (aD (aB lX (pv 1) (aB yZ (cX (au ak aj)) (pv 2))))))))),3)
 have X:=j4 I.dp;refine(5,p,g,7,G,I,hl,λZ U=>?_);refine((by show 0<=sizeLine;decide),λb W=>?_);have S:=U.trans (az W (.lst []));have xb:upd Z b (.lst []) b=some (.lst (([]:List Int).map V.int)):=aq;have t:H b=none:=U.free W;generalize upd Z b (.lst [])=H2 at *;exists 5,p,7,(_,Tg.of (S _ _ G));refine cz (xs:=g.map V.int) (λi v j=>(∃(u:Int) (D:Option V) (e:List Int),v=[some (.ref p),some (.ref b),some (.int u),D]/\j b=some (.lst (e.map V.int))/\e++brk (g.drop i) u=brk g 0/\Dp (g.drop i) u)/\aP H j) ((0,none,[],7,xb,7,I.dp),S) ?_ ?_ ?_
 ·rintro i v j _ ⟨_,m⟩;exact Tg.of (m _ _ G)
 ·rintro i x v j hx ⟨⟨u,D,e,rfl,z,f,hd⟩,m⟩;obtain⟨d,r,rfl⟩:=int_at hx;have hi:=(aab.mp r).1;have N:g.drop i=d::g.drop (i+1):=by
   rw[acA hi];congr 1;exact(aab.mp r).2
  rw[N]at f hd;obtain⟨d0,du,M⟩:=hd;have c:=congrArg agx f;simp only[brk,aaf,abp,aaM]at c;rw[X]at c;have hu:u-d<=4096:=by lia
  have ub:e.length<=4096:=by lia
  exists 5,.inl (7,_,Tg.of z);refine((by show 1<=sizeLine;decide),λC h1=>(2,4,C,u-d,[.int 0],7,7,aq,9,9,3,λy L=>?_))
  ·rw[sizeLine_eq];show 1*_<=_;lia
  have R:=(az h1 (.lst [.int 0])).trans (az L (.lst (aaE (u-d).toNat [.int 0]).flatten));have x3:upd (upd j C (.lst [.int 0])) y (.lst (aaE (u-d).toNat [.int 0]).flatten) y=some (.lst ((aaE (u-d).toNat (0:Int)).map V.int)):=by
   rw[aq,GZ]
  have ZK:=R _ _ z;have J:=m.trans R;generalize upd (upd j C (.lst [.int 0])) y (.lst (aaE (u-d).toNat [.int 0]).flatten)=Y at *;exists b,y,4,ZK,x3,?_
  ·rw[aaa,aaa,abp,sizeLine_eq];lia
  have n:upd Y b (.lst (e.map V.int++(aaE (u-d).toNat (0:Int)).map V.int)) b=some (.lst ((e++aaE (u-d).toNat 0).map V.int)):=by
   rw[aq,aal]
  have Vq:=bT J t (.lst (e.map V.int++(aaE (u-d).toNat (0:Int)).map V.int));generalize upd Y b (.lst (e.map V.int++(aaE (u-d).toNat (0:Int)).map V.int))=H4 at *;exists 5,.inl (7,_,Tg.of n),b,4,n,?_
  ·rw[aaa,aaf,abp,sizeLine_eq];lia
  refine(5,4,(d+1,_,e++aaE (u-d).toNat 0++[1],7,3,3,M),bT Vq t _)
  ·rw[aq,aal (l₂:=[1])];rfl
  ·rw[<-f];simp[brk]
 ·rintro v j ⟨⟨u,D,e,rfl,z,f,hd⟩,m⟩;rw[aaa,ahx]at f hd;have hu:0<=u:=hd;have c:=congrArg agx f;simp only[brk,aaf,abp]at c;rw[X]at c;exists 5;refine Hb (i:=2) (k:=u) (xs:=[.int 0]) (λQ' q=>q) rfl ⋯ ∅ ⋯ λp1 H4 a0 B n=>?_;rw[GZ]at n;refine(b,p1,4,B _ _ z,n,3,λp2 o=>?_)
  ·rw[aaa,aaa,abp,sizeLine_eq];lia
  refine q p2 _ ((m.trans B).free o) (m.trans (B.trans (az o _))) ?_;rw[aq,<-aal];exact congrArg (λl:List Int=>some (HO.lst (l.map V.int))) f
inductive uU(vs:List V)(H:Hp)(Q:VK)(E:XK):Prop
 | mk (at0 most:Int) (_:vs=[.int at0,.int most]) (_:0<=at0) (_:at0<=most) (_:Q .non H)
theorem dm(T:Tx K mg a):aV P w K mg base Ti 1 a.acb a.abF ["at","most"] uU:=by
 refine T.WF.F.Tq vW λf A d s H i Q E j h=>?_;obtain⟨g,e,rfl,l,k,q⟩:=h;exists _,(ao (aX (PW.pt (nO (aG jW (pv 0) ak) (kj (aG jf (pv 0) (pv 1))))) (ao b7) aK));refine(5,4,5,bD (λc=>?_) λc=>?_)
 ·have c:=of_decide_eq_true c;lia
 refine(2,4,5,bD (λb=>?_) λb=>?_)
 ·have b:=of_decide_eq_true b;lia
 exact q
theorem dI.outL{f b:Addr}{c:pO}{cs:List Addr}{Tr:List V}{xs:List V}(h:dI H f c cs Tr)(e:H b=some (.lst xs)):b∉cs:=λz=>by
 obtain⟨i,g⟩:=aaP z;obtain⟨j,v,u,_,d,_⟩:=h.cells i b g;rw[e]at d;cases d
inductive JR(f:Addr)(vs:List V)(H:Hp)(Q:VK)(_e1:XK):Prop
 | mk (sn bl:Addr) (ss:List Int) (xs:List V) (n:Nat) (x:V) (cs:List Addr) (_:vs=[.int (n:Int)]) (_:je H f bV cs [.ref sn,.ref bl]) (_:H sn=some (.lst (ss.map V.int))) (_:H bl=some (.lst xs)) (_:sn≠bl) (_:ss.length<=16000000) (_:xs[n]?=some x) (_:Q x (upd H sn (.lst ((ss++[(n:Int)]).map V.int))))
theorem Av(T:Tx K mg a):fM P w K mg base 1 JR:=by
 refine P0 Bv (λ_ _ _ _ _ t y=>match t,y with | [_],_=>rfl) λf C H Q h=>?_;obtain⟨b,d,e,j,n,x,c,rfl,g,o,m,v,B,l,q⟩:=h;have k:=je.out g o;have u:=je.out g m;refine(7,c,[.ref b,.ref d],g,λG A i s D=>(_,(aa (bu (jg PySem.F.plainAttrs_list PySem.F.slot_list_append PySem.F.type_list_append b8 (pv 1) (My 0 aj)))
  (aa (aX (uC jX jW ak (pv 0) (aL aO rfl T.Tz Tw.bh (My 2 aj))) (ao (aD (aW jm (pv 2) (pv 0)))) aK)
  (ao (aD ak)))),3))
 have r:hide H c b=some (.lst (e.map V.int)):=by rw[bx k];exact o
 have p:upd (hide H c) b (.lst (e.map V.int++[.int (n:Int)])) d=some (.lst j):=by rw[aH (af3 v),bx u];exact m
 have E:=(aab.mp l).1;exists 5,.inl (7,_,Tg.of r),5,b,4,r,3
 ·rw[aaa,sizeLine_eq];lia
 refine(5,4,5,bD (λ_=>?_) λz=>absurd (decide_eq_true (show (0:Int)<=(n:Int) by lia)) z);refine(5,d,5,.inl (Tg.of p),4,5,bD (λ_=>?_) λz=>absurd (decide_eq_true (show (n:Int)<(j.length:Int) by lia)) z);exists 2,d,_,4,Tg.of p,Gk l;show Q x (over H c (upd (hide H c) b (.lst (e.map V.int++[.int (n:Int)]))));rw[vq k,nD];rw[aal]at q;exact q
inductive Cj(Pt:Addr)(vs:List V)(H:Hp)(Q:VK)(_e1:XK):Prop
 | mk (bl sn:Addr) (_:vs=[.ref bl,.ref sn]) (_:TabAt H Pt (xM eO) bV.qual) (_:∀f cs H2,H f=none->nM Pt H H2->TabAt H2 Pt (xM eO) bV.qual->je H2 f bV cs [.ref sn,.ref bl]->Q (.ref f) H2)
theorem BR(T:Tx K mg a)(B:Bs mg base a):aV P w K mg base Ti 1 a.aeu a.Zd ["_law_blocks","_law_seen"] (Cj a.Va):=by
 refine Uh.maker0 (T:=bV) (pos:=xM eO) T.aeB.F sJ Ci B.bm T.afB B.afC (λc H Q E h=>?_) rfl (λc H Q E h=>?_)
 ·obtain⟨s,b,rfl,_⟩:=h;rfl
 obtain⟨d,b,rfl,l,q⟩:=h;refine(l,[.ref b,.ref d],λj m e=>?_,7,λn o p k r i g f=>q n o p k i g f)
 match j,e with
 |0,e=>cases e;exact(5,7)
 |1,e=>cases e;exact(5,7)
 |j+2,e=>simp at e
theorem fM.weak{P:Program}{w:World}{K:PySem.W.Frag}{mg:Str->Option Value}{base:Heap}{k:Nat}{e d:Addr->Sp}(F:fM P w K mg base k e)(h:∀f c H Q,d f c H Q E0->e f c H Q E0):fM P w K mg base k d:=
 λf A b s H g c Q j l r i=>F f A b s H g c Q j l r (h f c H Q i)
inductive lV(R:Hp->LK->Prop)(f:Addr)(vs:List V)(H:Hp)(Q:VK)(_e1:XK):Prop
 | mk (L:LK) (ss:List Int) (n:Nat) (x:V) (sn:Addr) (_:f=L.f) (_:vs=[.int (n:Int)]) (_:R H L) (_:L.wr=some sn) (_:H sn=some (.lst (ss.map V.int))) (_:sn≠L.bl) (_:H L.bl=some (.lst L.all)) (_:ss.length<16000000) (_:L.all[L.off+n]?=some x) (_:Q x (L.put H (ss++[((L.off+n:Nat):Int)])))
theorem Cr(T:Tx K mg a):fM P w K mg base 1 (lV Us):=fM.weak (Av T) λf r H Q h=>by
 obtain⟨L,e,n,x,g,rfl,rfl,⟨l,p,m,d,o⟩,b,j,i,k,s,c,q⟩:=h;rw[d]at b;cases b;rw[l,agv]at c q;rw[LK.put_some d]at q;exact(g,L.bl,e,L.all,n,x,m,7,o,j,k,i,9,c,q)
theorem Dh(T:Tx K mg a):fM P w K mg base 2 (lV Uw):=by
 refine Ec jP (λ_ _ _ _ C F=>match C,F with | [_],_=>rfl) λf R H Q h=>?_;obtain⟨L,d,n,x,j,rfl,rfl,⟨g,o,c,S,l,B⟩,k,e,O,y,m,p,q⟩:=h;have t:j∉c:=dI.outL l e;have D:L.bl∉c:=dI.outL l y;have b:Tx K mg a->fM P w K mg base 1 (lV Us):=Cr;refine(7,c,[.ref g,.int (o:Int)],l,λU A r s E=>(_,(dO ((b T).mono ∅) E (i:=1) rfl (au (aB aZ (pv 2) (pv 0)) aj)),3));have I:hide H c j=some (.lst (d.map V.int)):=by rw[bx t];exact e
 have G:hide H c L.bl=some (.lst L.all):=by rw[bx D];exact y
 obtain⟨u,J,z,N⟩:=(Us.hasFn _ _ B).1;exists g,u,J,7,z,N,2,4,z,(g,L.wr,L.bl,L.off-o,L.all),d,o+n,x,j,7,3,B,k,I,O,G,m,3
 ·exact congrArg (λv=>[V.int v]) ⋯
 ·show L.all[L.off-o+(o+n)]?=some x;rw[show L.off-o+(o+n)=L.off+n by lia];exact p
 have M:((g,L.wr,L.bl,L.off-o,L.all):LK).put (hide H c) (d++[((L.off-o+(o+n):Nat):Int)])=upd (hide H c) j (.lst ((d++[((L.off+n:Nat):Int)]).map V.int)):=by
  rw[LK.put_some (L:=(g,L.wr,L.bl,L.off-o,L.all)) k,show L.off-o+(o+n)=L.off+n by lia]
 show Q x (over H c (((g,L.wr,L.bl,L.off-o,L.all):LK).put (hide H c) (d++[((L.off-o+(o+n):Nat):Int)])));rw[M,vq t,nD];rw[LK.put_some k]at q;exact q
theorem JW(T:Tx K mg a):fM P w K mg base 3 (lV V4):=by
 refine Ec jP (λ_ _ _ _ C F=>match C,F with | [_],_=>rfl) λf R H Q h=>?_;obtain⟨L,d,n,x,j,rfl,rfl,⟨g,o,c,S,l,B⟩,k,e,O,y,m,p,q⟩:=h;have t:j∉c:=dI.outL l e;have D:L.bl∉c:=dI.outL l y;have b:Tx K mg a->fM P w K mg base 2 (lV Uw):=Dh;refine(7,c,[.ref g,.int (o:Int)],l,λU A r s E=>(_,(dO ((b T).mono ∅) E (i:=1) rfl (au (aB aZ (pv 2) (pv 0)) aj)),3));have I:hide H c j=some (.lst (d.map V.int)):=by rw[bx t];exact e
 have G:hide H c L.bl=some (.lst L.all):=by rw[bx D];exact y
 obtain⟨u,J,z,N⟩:=(Uw.hasFn _ _ B).1;exists g,u,J,7,z,N,2,4,z,(g,L.wr,L.bl,L.off-o,L.all),d,o+n,x,j,7,3,B,k,I,O,G,m,3
 ·exact congrArg (λv=>[V.int v]) ⋯
 ·show L.all[L.off-o+(o+n)]?=some x;rw[show L.off-o+(o+n)=L.off+n by lia];exact p
 have M:((g,L.wr,L.bl,L.off-o,L.all):LK).put (hide H c) (d++[((L.off-o+(o+n):Nat):Int)])=upd (hide H c) j (.lst ((d++[((L.off+n:Nat):Int)]).map V.int)):=by
  rw[LK.put_some (L:=(g,L.wr,L.bl,L.off-o,L.all)) k,show L.off-o+(o+n)=L.off+n by lia]
 show Q x (over H c (((g,L.wr,L.bl,L.off-o,L.all):LK).put (hide H c) (d++[((L.off-o+(o+n):Nat):Int)])));rw[M,vq t,nD];rw[LK.put_some k]at q;exact q
theorem cJ(T:Tx K mg a):fM P w K mg base 3 O7:=λf A b s H k u Q m t r h=>by
 obtain⟨L,l,n,x,rfl,rfl,e,c,d,q⟩:=h;obtain⟨i,j⟩:=e.look.both.2;obtain⟨p,o⟩:=e.seen i j;rcases e.look with g|g|g
 ·exact((Cr T).mono ∅) L.f A b s H k _ Q m t r (L,l,n,x,i,7,7,g,j,p,o,e.nodes,c,d,q)
 ·exact((Dh T).mono ∅) L.f A b s H k _ Q m t r (L,l,n,x,i,7,7,g,j,p,o,e.nodes,c,d,q)
 ·exact(JW T) L.f A b s H k _ Q m t r (L,l,n,x,i,7,7,g,j,p,o,e.nodes,c,d,q)
inductive yI(Pt:Addr)(vs:List V)(H:Hp)(Q:VK)(_e1:XK):Prop
 | mk (g:Addr) (off:Nat) (_:vs=[.ref g,.int (off:Int)]) (_:TabAt H Pt (bW bw) aM.qual) (_:∀f cs H2,H f=none->(∀c∈cs,H c=none)->nM Pt H H2->TabAt H2 Pt (bW bw) aM.qual->dI H2 f aM cs [.ref g,.int (off:Int)]->Q (.ref f) H2)
theorem lC(T:Tx K mg a)(B:Bs mg base a):aV P w K mg base Ti 1 a.adz a.Zb ["look","first"] (yI a.T3):=by
 refine Uh.makerL0 (T:=aM) (pos:=bW bw) T.Yg.F yJ yX B.bm T.afd B.afg (λc H Q E h=>?_) rfl (λc H Q E h=>?_)
 ·obtain⟨t,s,rfl,_⟩:=h;rfl
 obtain⟨g,b,rfl,n,q⟩:=h;refine(n,[.ref g,.int (b:Int)],λj m e=>?_,7,λo p r l k i f d=>q o p r l k i f d)
 match j,e with
 |0,e=>cases e;exact(5,7)
 |1,e=>cases e;exact(5,7)
 |j+2,e=>simp at e
structure Ask(H:Hp)(t:Addr)(L:LK)(ah:Addr)(ns ss:List Int)(rest:List V):Prop where
 tab:Tab H t ah ns rest
 asks:Asks H L ss
 bits:bc ns
 len:ns.length<=4096
 blk:∀n,n<many ns.length->L.all[L.off+n]?=some (.int (cD ns n))
theorem Ask.same{H H':Hp}{t:Addr}{L:LK}{d:Addr}{c b:List Int}{rest:List V}(h:Ask H t L d c b rest)(s:aP H H'):Ask H' t L d c b rest:=(h.tab.same s,h.asks.same s,h.bits,h.len,h.blk)
theorem Ask.more{H:Hp}{t:Addr}{L:LK}{c:Addr}{b d tt:List Int}{rest:List V}(h:Ask H t L c b d rest)(e:tt.length<=16000000):Ask (L.put H tt) t L c b tt rest:=
 ((h.asks.putT h.tab.tup,h.asks.putT h.tab.Uy,h.tab.few),h.asks.more e,h.bits,h.len,h.blk)
inductive bQ(n:Nat)(k:Nat)(ss:List Int)(ss':List Int):Prop
 | mk (tt:List Int) (_:ss'=ss++tt) (_:tt.length<=k) (_:∀x∈tt,0<=x/\x<n)
theorem bQ.none{n k:Nat}(b:List Int):bQ n k b b:=([],by simp,by simp,nofun)
theorem bQ.one{n:Nat}(b:List Int){i:Int}(e:0<=i)(d:i<n):bQ n 1 b (b++[i]):=([i],7,by simp,λx c=>by rw[aat.mp c];exact(e,d))
theorem bQ.trans{n j k:Nat}{a b c:List Int}(h:bQ n j a b)(h':bQ n k b c):bQ n (j+k) a c:=by
 obtain⟨t,rfl,l,m⟩:=h;obtain⟨u,rfl,f,e⟩:=h';refine(t++u,by rw[aaQ],by rw[aaf];lia,λx d=>?_);rcases aba.mp d with d|d
 ·exact m x d
 ·exact e x d
theorem bQ.le{n j k:Nat}{a b:List Int}(h:bQ n j a b)(c:j<=k):bQ n k a b:=by
 obtain⟨t,e,l,m⟩:=h;exact(t,e,9,m)
theorem bQ.len{n k:Nat}{a b:List Int}(h:bQ n k a b):b.length<=a.length+k:=by
 obtain⟨t,rfl,l,m⟩:=h;rw[aaf];lia
theorem Ask.wr{t:Addr}{L:LK}(h:Ask H t L f d M l){n:Nat}(b:n<many d.length):bQ L.all.length 1 M (M++[((L.off+n:Nat):Int)]):=by
 have:=(aab.mp (h.blk n b)).1;exact bQ.one M ⋯ ⋯
inductive Eh(vs:List V)(H:Hp)(Q:VK)(E:XK):Prop
 | mk (t:Addr) (L:LK) (ah:Addr) (ns ss:List Int) (rest:List V) (at0:Nat) (_:vs=[.ref t,.ref L.f,.int (at0:Int)]) (_:Ask H t L ah ns ss rest) (_:ss.length<16000000) (_:at0<=ns.length) (_:∀ss' H',bQ L.all.length 1 ss ss'->aP (L.put H ss') H'->Q (.int (ns.take at0).sum) H')
theorem iD(T:Tx K mg a):aV P w K mg base Ti 4 a.aeP a.aeh ["tables","look","at"] Eh:=by
 refine T.WK.F.Tq iV λI A n s H J Q E l h=>?_;obtain⟨t,L,x,g,k,rest,b,rfl,d,m,y,q⟩:=h;refine(_,(aa (aA 3 iV.nd (aW aR (pv 0) ak))
  (aa (aA 4 iV.nd (aW aR (pv 0) ak))
  (aa (bu (aF T.WF (dm T) l (My 2 (My 3 aj))))
  (aa (aA 5 iV.nd (aB bG (pv 2) (bF (v:=.int 32) rfl T.Uv (_,7))))
  (aa (aA 6 iV.nd (aB bO (pv 2) (bF (v:=.int 32) rfl T.Uv (_,7))))
  (aa (aX (aG cR (pv 6) ak) (ao (aD (aW aR (pv 4) (pv 5)))) aK)
  (ao (aD (aB aZ (aW aR (pv 4) (pv 5)) (aF T.Zf (uY T) l (au (dO ((cJ T).mono ∅) l (i:=1) rfl (My 5 aj)) (My 6 aj)))))))))))),3)
 exists 5,t,_,4,Tj.of d.tab.tup,nu _ _ _ d.tab.few;exists 5,t,_,4,Tj.of d.tab.tup,oX _ _ _ d.tab.few;refine(2,_,5,9,9,3);exists 5,4,(6,6);exists 5,4,(by show (0:Int)<32;decide);have r:(b:Int) / 32=((b / 32:Nat):Int):=by lia
 have j:T7 ((T8 g (many g.length)).map V.int) ((b:Int) / 32)=some (.int (g.take (32*(b / 32))).sum):=by
  rw[r];exact Ly (by unfold many;lia)
 refine(5,7,5,bD (λc=>?_) λc=>?_)
 ·have c:V.int ((b:Int)%32)=V.int 0:=of_decide_eq_true c;injection c with c
  exists 2,x,_,4,Tj.of d.tab.Uy,j;have:=q k H (bQ.none k) (by rw[d.asks.id];exact aP.refl _);rw[show b=32*(b / 32)from by lia]at this;exact this
 have c:(b:Int)%32≠0:=λz=>c (decide_eq_true (congrArg V.int z));obtain⟨o,D,u,C⟩:=d.asks.look.fn;have p:b / 32<many g.length:=by
  unfold many;lia
 exists 2,x,_,4,Tj.of d.tab.Uy,j,L.f,o,D,7,u,C,5,u,L,k,b / 32,5,congrArg (λv=>[v]) (congrArg V.int r),d.asks,m,d.blk _ (by first|exact p|lia);refine(5,_,5,(show 0<=(b:Int)%32 from by lia),(show (b:Int)%32<=32 from by lia),λG B=>(4,3));have:=q _ G (d.wr p) B;have e:(g.take b).sum=(g.take (32*(b / 32))).sum+ones (cD g (b / 32)) ((b:Int)%32).toNat:=by
  rw[mY d.bits _ _ ⋯];congr 2;lia
 rw[e]at this;exact this
inductive Jh(vs:List V)(H:Hp)(Q:VK)(E:XK):Prop
 | mk (t:Addr) (L:LK) (ah:Addr) (ns ss:List Int) (rest:List V) (at0:Nat) (_:vs=[.ref t,.ref L.f,.int (at0:Int)]) (_:Ask H t L ah ns ss rest) (_:ss.length<16000000) (_:at0<=ns.length) (_:∀ss' H',bQ L.all.length 1 ss ss'->aP (L.put H ss') H'->Q (.int (ht ns at0)) H')
theorem xH(T:Tx K mg a):aV P w K mg base Ti 5 a.afr a.aeT ["tables","look","at"] Jh:=by
 refine T.Zk.F.Tq HJ λo A f s H p Q E k h=>?_;obtain⟨t,L,m,j,g,rest,e,rfl,l,d,b,q⟩:=h;exists _,(ao (aD (aB bA (aB cH ak (aF T.WK (iD T) k (My 0 (My 1 (My 2 aj))))) (pv 2))));exact(2,5,t,L,m,j,g,rest,e,7,l,d,b,λc n w i=>(4,.inl (6,6),5,4,q c n w i))
inductive HH(vs:List V)(H:Hp)(Q:VK)(E:XK):Prop
 | mk (t:Addr) (L:LK) (ah:Addr) (ns ss:List Int) (rest:List V) (at0:Nat) (b:Int) (_:vs=[.ref t,.ref L.f,.int (at0:Int)]) (_:Ask H t L ah ns ss rest) (_:ss.length<16000000) (_:ns[at0]?=some b) (_:∀ss' H',bQ L.all.length 1 ss ss'->aP (L.put H ss') H'->Q (.int b) H')
theorem iy(T:Tx K mg a):aV P w K mg base Ti 4 a.afp a.aeO ["tables","look","at"] HH:=by
 refine T.Wi.F.Tq HF λz A j s H B Q E e h=>?_;obtain⟨t,L,C,k,r,rest,c,b,rfl,d,g,m,q⟩:=h;have p:=(aab.mp m).1;refine(_,(aa (bu (aF T.WF (dm T) e (My 2 (au (aB bA (aW aR (pv 0) ak) ak) aj))))
  (ao (aD (aF T.Yc (rH T) e (au (dO ((cJ T).mono ∅) e (i:=1) rfl (au (aB bG (pv 2) (bF (v:=.int 32) rfl T.Uv (_,7))) aj)) (au (aB bO (pv 2) (bF (v:=.int 32) rfl T.Uv (_,7))) aj)))))),3)
 refine(2,t,_,4,Tj.of d.tab.tup,nu _ _ _ d.tab.few,4,_,5,9,9,3);obtain⟨o,x,n,u⟩:=d.asks.look.fn;have l:c / 32<many k.length:=by
  unfold many;lia
 have y:(c:Int) / 32=((c / 32:Nat):Int):=by lia
 exists L.f,o,x,7,n,u,5,4,(6,6),n,L,r,c / 32,5,congrArg (λv=>[v]) (congrArg V.int y),d.asks,g,d.blk _ (by first|exact l|lia);exists 5,4,(by show (0:Int)<32;decide),_,5,(show 0<=(c:Int)%32 from by lia);rw[show bit (cD k (c / 32)) ((c:Int)%32).toNat=b from by rw[show ((c:Int)%32).toNat=c%32 from by lia,bit_at d.bits _ _ ⋯,show 32*(c / 32)+c%32=c from by lia,m];rfl];exact q _ _ (d.wr l) (aP.refl _)
inductive Qh(K:PySem.W.Frag)(vs:List V)(H:Hp)(Q:VK)(_e1:XK):Prop
 | mk (p:Addr) (ns:List Int) (goal:Int) (_:vs=[.ref p,.int goal]) (_:Tj K H p (ns.map V.int)) (_:0<ns.length) (_:ns.length<=4096) (_:∀lo:Nat,lo<ns.length->(lo=0 \/ ∃x,ns[lo]?=some x/\x<=goal)->(lo+1=ns.length \/ ∃x,ns[lo+1]?=some x/\goal<x)->Q (.int (lo:Int)) H)
theorem oO(T:Tx K mg a):aV P w K mg base Ti 1 a.aaI a.aaC ["numbers","goal"] (Qh K):=by
 refine T.aaN.F.Tq bN λJ A r s H L Q E M h=>?_;obtain⟨p,i,g,rfl,u,D,N,q⟩:=h;refine(_,(aa (aA 2 bN.nd ak)
  (aa (aA 3 bN.nd (aL aO rfl T.Tz Tw.bh (My 0 aj)))
  (aa (lW PassesOwn.never (aG jf (aB bA (pv 3) (pv 2)) ak) (aa (aA 4 bN.nd (aB bG (aB aZ (pv 2) (pv 3)) ak))
  (ao (aX (aG jX (aW aR (pv 0) (pv 4)) (pv 1)) (ao (aA 2 bN.nd (pv 4))) (ao (aA 3 bN.nd (pv 4)))))))
  (ao (aD (pv 2)))))),3)
 exists 5,p,5,.inr u;exists λm t B=>∃(b f:Nat) (k:Option V),t=[some (.ref p),some (.int g),some (.int (b:Int)),some (.int (f:Int)),k]/\B=H/\m=f-b/\b<f/\f<=i.length/\(b=0 \/ ∃x,i[b]?=some x/\x<=g)/\(f=i.length \/ ∃x,i[f]?=some x/\g<x),(_,0,i.length,none,3,7,7,D,aac _,.inl rfl,.inl rfl)
 ·rw[aaa];rfl
 rintro m t B ⟨b,f,k,rfl,rfl,rfl,I,n,y,v⟩;refine(2,4,4,5,bD (λc=>?_) λc=>?_)
 ·have c:(1:Int)<(f:Int)-(b:Int):=of_decide_eq_true c;exists _,λ G O z=>z;have l:((b:Int)+(f:Int)) / 2=(((b+f) / 2:Nat):Int):=by lia
  have C:(b+f) / 2<i.length:=by lia
  have j:i[(b+f) / 2]?=some i[(b+f) / 2]:=aad C;have o:T7 (i.map V.int) (((b:Int)+(f:Int)) / 2)=some (.int i[(b+f) / 2]):=by
   rw[l];exact pM j
  exists 2,4,4,(6,6);refine(2,p,_,4,u,o,5,4,5,bD (λd=>?_) λd=>?_)
  ·have d:=of_decide_eq_true d;refine(5,f-(b+f) / 2,9,(b+f) / 2,f,some (.int (((b:Int)+(f:Int)) / 2)),3,7,7,9,n,.inr (_,j,d),v);rw[<-l];rfl
  ·have d:¬i[(b+f) / 2]<=g:=λz=>d (decide_eq_true z);refine(5,(b+f) / 2-b,9,b,(b+f) / 2,some (.int (((b:Int)+(f:Int)) / 2)),3,7,7,9,9,y,.inr (_,j,9));rw[<-l];rfl
 ·have c:¬(1:Int)<(f:Int)-(b:Int):=λz=>c (decide_eq_true z);have e:f=b+1:=by lia
  subst e;exact(5,q b ⋯ y v)
inductive yO(vs:List V)(H:Hp)(Q:VK)(E:XK):Prop
 | mk (nth many:Int) (_:vs=[.int nth,.int many]) (_:0<=nth) (_:nth<many) (_:Q .non H)
theorem z7(T:Tx K mg a):aV P w K mg base Ti 1 a.adE a.acX ["nth","many"] yO:=by
 refine T.adW.F.Tq z8 λg A d s H i Q E j h=>?_;obtain⟨e,f,rfl,l,k,q⟩:=h;exists _,(ao (aX (PW.pt (nO (aG jW (pv 0) ak) (kj (aG By (pv 0) (pv 1))))) (ao b7) aK));refine(5,4,5,bD (λc=>?_) λc=>?_)
 ·have c:=of_decide_eq_true c;lia
 refine(2,4,5,bD (λb=>?_) λb=>?_)
 ·have b:=of_decide_eq_true b;lia
 exact q
inductive zY(vs:List V)(H:Hp)(Q:VK)(E:XK):Prop
 | mk (t:Addr) (L:LK) (ah:Addr) (ns ss:List Int) (rest:List V) (nth:Int) (_:vs=[.ref t,.ref L.f,.int nth]) (_:Ask H t L ah ns ss rest) (_:ss.length<16000000) (_:0<=nth) (_:nth<ns.sum) (_:∀(H':Hp) (p:Nat) (ss':List Int),ns[p]?=some 1->(ns.take p).sum=nth->bQ L.all.length 1 ss ss'->aP (L.put H ss') H'->Q (.int (p:Int)) H')
theorem yP(T:Tx K mg a):aV P w K mg base Ti 4 a.adD a.acW ["tables","look","nth"] zY:=by
 refine T.adV.F.Tq j0 λa0 A N s H vs Q E p h=>?_;obtain⟨t,L,y,b,Y,rest,d,rfl,R,B,S,Z,q⟩:=h;have ht:=R.tab.tup;have z:=R.tab.Uy;have r:=R.bits;have hl:=R.len;have hM:many b.length<=128:=by
  unfold many;lia
 have g:b.take (32*many b.length)=b:=aak (by unfold many;lia);have D:T7 ((T8 b (many b.length)).map V.int) (-1)=some (.int b.sum):=by
  rw[Mm,aal,g];exact mj _ _
 refine(_,(aa (aA 3 j0.nd (aW aR (pv 0) ak))
  (aa (bu (aF T.adW (z7 T) p (My 2 (au (aW aR (pv 3) (nR jK ak)) aj))))
  (aa (aA 4 j0.nd (aF T.aaN (oO T) p (My 3 (My 2 aj))))
  (ao (aD (aB aZ (aB cH (bF (v:=.int 32) rfl T.Uv (_,7)) (pv 4)) (aF T.afv (Ie T) p (au (dO ((cJ T).mono ∅) p (i:=1) rfl (My 4 aj)) (au (aB bA (pv 2) (aW aR (pv 3) (pv 4))) aj))))))))),3)
 exists 5,t,_,4,Tj.of ht,oX _ _ _ R.tab.few;exists 2,5,y,_,4,Tj.of z,D,_,5,S,Z;refine(2,y,_,5,Tj.of z,(by rw[dq];lia),(by rw[dq];lia),λc C j m=>?_);rw[dq]at C m;have n:c<many b.length:=by
  rcases m with m|⟨x,e,_⟩
  ·have e:c=many b.length:=by lia
   rcases j with j|⟨x,l,j⟩
   ·have e3:many b.length=0:=by lia
    have:b.sum=0:=by
     rw[<-g,e3];rfl
    lia
   ·rw[o8 ⋯]at l;cases l;rw[e,g]at j;lia
  ·have:=(aab.mp e).1;rw[dq]at this;lia
 have d1:(b.take (32*c)).sum<=d:=by
  rcases j with j|⟨x,l,j⟩
  ·subst j;exact S
  ·rw[o8 ⋯]at l;cases l;exact j
 have d2:d<(b.take (32*c+32)).sum:=by
  rcases m with m|⟨x,l,m⟩
  ·lia
  ·rw[o8 ⋯]at l;cases l;exact m
 have M:T7 ((T8 b (many b.length)).map V.int) (c:Int)=some (.int (b.take (32*c)).sum):=pM (o8 ⋯);have sb:=mY r c 32 ⋯;obtain⟨k0,J,I,G⟩:=Lj (cD b c) (d-(b.take (32*c)).sum) ⋯ 32 ⋯;obtain⟨o,fd,W,g1⟩:=R.asks.look.fn;exists 5,4,.inl (6,6),L.f,o,fd,7,W,g1,5,W,L,Y,c,5,7,R.asks,B,R.blk _ (by first|exact hm|lia);exists 2,5,y,_,4,Tj.of (R.asks.putT z),M,4;refine(_,5,λX O k hk u U=>?_,λX O no=>absurd (I,G) (no k0 J));exists 4;have u:bit (cD b c) k=1:=u;have U:ones (cD b c) k=d-(b.take (32*c)).sum:=U;have hp:b[32*c+k]?=some 1:=by
  have:=bit_at r c k hk;rw[u]at this;cases e:b[32*c+k]? with
  |none=>rw[e]at this;cases this
  |some x=>
   rw[e]at this;have this:1=x:=this;rw[this]
 have hs:(b.take (32*c+k)).sum=d:=by
  have:=mY r c k ⋯;lia
 have:=q X (32*c+k) _ hp hs (R.wr n) O;rw[show ((32*c+k:Nat):Int)=32*(c:Int)+(k:Int)from by lia]at this;exact this
theorem dI.out{f b:Addr}{c:pO}{cs:List Addr}{Tr:List V}{xs:List V}(h:dI H f c cs Tr)(e:H b=some (.tup xs)):b∉cs:=λz=>by
 obtain⟨i,g⟩:=aaP z;obtain⟨j,v,u,_,d,_⟩:=h.cells i b g;rw[e]at d;cases d
def Quiet(H:Hp)(f b:Addr)(xs:List V):Prop:=(∃c,dI H f aY c [.ref b])/\H b=some (.tup xs)
theorem Quiet.fn{f :Addr}{xs:List V}(h:Quiet H f C xs):∃o fd,H f=some (aN f o)/\o.data=.func fd:=by
 obtain⟨⟨j,c⟩,_⟩:=h;obtain⟨k,g,d,i,e,t,b,_⟩:=c.ex;exact(8,b,7)
theorem Quiet.same{H H':Hp}{f c:Addr}{xs:List V}(h:Quiet H f c xs)(s:aP H H'):Quiet H' f c xs:=by
 obtain⟨⟨g,i⟩,d⟩:=h;exact((g,i.same λb o e=>s _ _ e),s _ _ d)
inductive rn(f:Addr)(vs:List V)(H:Hp)(Q:VK)(_e1:XK):Prop
 | mk (nd:Addr) (xs:List V) (n:Nat) (x:V) (_:vs=[.int (n:Int)]) (_:Quiet H f nd xs) (_:xs[n]?=some x) (_:Q x H)
theorem fP(T:Tx K mg a):fM P w K mg base 1 rn:=by
 refine Ec qp (λ_ _ _ _ j l=>match j,l with | [_],_=>rfl) λf p H Q h=>?_;obtain⟨c,i,n,x,rfl,⟨⟨b,g⟩,e⟩,m,q⟩:=h;have k:=dI.out g e;refine(7,b,[.ref c],g,λt A d s r=>(_,(aW aR (pv 1) (pv 0)),3));have o:hide H b c=some (.tup i):=by rw[bx k];exact e
 exists 2,c,_,4,Tj.of o,Gk m;show Q x (over H b (hide H b));rw[nD];exact q
inductive zL(Pt:Addr)(vs:List V)(H:Hp)(Q:VK)(_e1:XK):Prop
 | mk (t nd:Addr) (x y:V) (xs:List V) (_:vs=[.ref t]) (_:H t=some (.tup [x,y,.ref nd])) (_:H nd=some (.tup xs)) (_:TabAt H Pt (bW bR) aY.qual) (_:∀f H2,H f=none->nM Pt H H2->TabAt H2 Pt (bW bR) aY.qual->Quiet H2 f nd xs->Q (.ref f) H2)
theorem pY(T:Tx K mg a)(B:Bs mg base a):aV P w K mg base Ti 1 a.adF a.Zc ["tables"] (zL a.TV):=by
 refine Uh.makerL1 (T:=aY) (pos:=bW bR) T.Zj.F oW yE B.bm T.afe B.afh (λl H Q E h=>?_) rfl (λz A b s H l Q E D h=>?_)
 ·obtain⟨t,c,x,y,k,rfl,_⟩:=h;rfl
 obtain⟨t,c,x,y,k,rfl,ht,f,g,q⟩:=h;exists _,(rE (i:=1) oW.nd rfl (ahs rfl) (aW aR (pv 0) ak));exists 5,t,_,4,Tj.of ht,7;refine(g,[.ref c],λj m e=>?_,7,λr u v p C d o n=>q r v p d o ((u,n),d _ _ f (TabAt.ne g f nofun)))
 match j,e with
 |0,e=>cases e;exact(5,7)
 |j+1,e=>simp at e
inductive Ea(vs:List V)(H:Hp)(Q:VK)(_e1:XK):Prop
 | mk (f nd:Addr) (xs:List V) (ns:List Int) (S s n a0 e:Nat) (g:Int) (_:vs=[.int (S:Int),.ref f,.int (n:Int),.int g,.int (s:Int)]) (_:Quiet H f nd xs) (_:jk ns S 1 xs) (_:ns.length<=S) (_:s<=1) (_:n*2^e=S+a0) (_:a0+2^e<=ns.length) (_:1<=n) (_:qi xs n<=g) (_:∀i:Nat,XR ns s a0 (a0+2^e) g i->Q (.int (i:Int)) H)
theorem jU(T:Tx K mg a):aV P w K mg base Ti 2 a.aa6 a.aaT ["size","look","node","goal","side"] Ea:=by
 refine T.Zg.F.Tq dF λa2 A D s H vs Q E X h=>?_;obtain⟨f,U,J,R,S,j,n,C,e,g,rfl,L,p,l,r,Y,t,h1,hg,q⟩:=h;refine(_,(aa (aA 5 dF.nd (pv 2))
  (aa (lW PassesOwn.never (aG jW (pv 5) (pv 0)) (aa (aA 5 dF.nd (aB aZ (aB cH ak (pv 5)) (pv 4)))
  (ao (aX (aG jf (dO ((fP T).mono ∅) X (i:=1) rfl (My 5 aj)) (pv 3)) (ao (aA 5 dF.nd (aB bA (aB aZ (pv 5) ak) (aB cH ak (pv 4))))) aK))))
  (ao (aD (aB bA (pv 5) (pv 0)))))),3)
 exists 5;refine(λm G N=>∃(k d b:Nat),G=[some (.int (S:Int)),some (.ref f),some (.int (n:Int)),some (.int g),some (.int (j:Int)),some (.int (k:Int))]/\m=d/\wK R J S j C (C+2^e) g d k b/\N=H,
  (_,n,e,C,7,7,wK.start Y h1 hg,7),3)
 rintro d G N ⟨k,_,b,rfl,rfl,hd,rfl⟩;refine(2,4,5,bD (λc=>?_) λc=>?_)
 ·have c:(k:Int)<(S:Int):=of_decide_eq_true c;rcases d with _|d
  ·have:=(hd.hit p l t r).1;lia
  obtain⟨v,I,W,kb,d1,d2⟩:=hd.step p l t r;exists _,λ a1 H2 z=>z;exists 5,4,.inl (6,6),5,4;obtain⟨o,fd,M,g1⟩:=L.fn;have u:(2:Int)*(k:Int)+(j:Int)=((2*k+j:Nat):Int):=by lia
  have O:=hd.one;exists f,o,fd,7,M,g1,5,M,U,J,2*k+j,_,3,L,I
  ·exact congrArg (λv=>[v]) (congrArg V.int u)
  refine(5,4,5,bD (λz=>?_) λz=>?_)
  ·have z:g<v:=of_decide_eq_true z;obtain⟨B,x⟩:=d2 z;refine(5,4,5,4,.inl (6,6),4,d,9,2*k+1-j,d,B,3,7,x,7);rw[show ((2*k+1-j:Nat):Int)=2*(k:Int)+(j:Int)+1-2*(j:Int)from by lia];rfl
  ·have z:¬g<v:=λy=>z (decide_eq_true y);obtain⟨B,x⟩:=d1 ⋯;refine(d,9,2*k+j,d,B,3,7,x,7);rw[<-u];rfl
 ·have c:¬(k:Int)<(S:Int):=λy=>c (decide_eq_true y);rcases d with _|d
  ·obtain⟨u,Z⟩:=hd.hit p l t r;exists 2,4;have:=q b Z;rw[show (b:Int)=(k:Int)-(S:Int)from by lia]at this;exact this
  ·obtain⟨v,I,W,_⟩:=hd.step p l t r;lia
inductive Lb(vs:List V)(H:Hp)(Q:VK)(_e1:XK):Prop
 | mk (f nd:Addr) (xs:List V) (ns:List Int) (S st:Nat) (g:Int) (_:vs=[.int (ns.length:Int),.ref f,.int (st:Int),.int g]) (_:Quiet H f nd xs) (_:il ns.length S) (_:jk ns S 1 xs) (_:ns.length<=4096) (_:st<=ns.length) (_:∀(x:V) (H':Hp),aP H H'->((x=.non /\ ∀j c,st<=j->ns[j]?=some c->g<c) \/ ∃i:Nat,x=.int (i:Int)/\XR ns 0 st ns.length g i)->Q x H')
theorem qI(T:Tx K mg a):aV P w K mg base Ti 3 a.aa4 a.aaS ["many","look","start","goal"] Lb:=by
 refine T.abk.F.Tq jQ λa4 A a2 s H vs Q E J h=>?_;obtain⟨f,nd,I,d,S,k,g,rfl,hA,L,U,hl,h1,q⟩:=h;refine(_,(aa (bI PassesOwn.never rfl (bU (aF T.Zh (CZ T) J (My 0 (My 2 (My 0 aj))))) (aU 4 jQ.nd) (ao (aX (aG jX (dO ((fP T).mono ∅) J (i:=1) rfl (My 4 aj)) (pv 3)) (ao (aD (aF T.Zg (jU T) J (au (aF T.WD (iY T) J (My 0 aj)) (My 1 (My 4 (My 3 (au ak aj)))))))) aK)))
  (ao (aD dM))),3)
 have a0:=L.pos;obtain⟨h,eS,t,hj⟩:=id L;refine(2,5,d.length,k,d.length,7,h1,aac _,hl,λl r H1 a1 a3 Y D=>?_);have:=il.uniq a1 L;subst this;have ch:=rW (st:=k) (h,eS) h1 t a0;obtain⟨_,v1,_,_⟩:=oK U t (aac _) ch (aac _);have X:=hA.same Y;exists r,7,(_,Tg.of D);refine cz (xs:=nats (cover l k d.length)) (λi G N=>(∃O,G=[some (.int (d.length:Int)),some (.ref f),some (.int (k:Int)),some (.int g),O])/\N=H1 /\ ∃(b:Nat),Chain l k d.length ((cover l k d.length).drop i) (l+b) (l+d.length)/\k<=b /\ ∀j c,k<=j->j<b->d[j]?=some c->g<c) ((none,7),7,k,ch,aac _,λj c v R=>by lia) ?_ ?_ ?_
 ·rintro i G N _ ⟨_,rfl,_⟩;exact Tg.of D
 ·rintro i x G N B ⟨⟨O,rfl⟩,rfl,b,C,hb,m⟩;unfold nats at B;rw[aag]at B;obtain⟨n,V,rfl⟩:∃n,(cover l k d.length)[i]?=some n/\x=.int (n:Int):=by
   cases e:(cover l k d.length)[i]? with
   |none=>rw[e]at B;cases B
   |some n=>rw[e]at B;exact(n,7,(aao B).symm)
  have hi:=(aab.mp V).1;have hd:(cover l k d.length).drop i=n::(cover l k d.length).drop (i+1):=by
   rw[acA hi];congr 1;exact(aab.mp V).2
  rw[hd]at C;obtain⟨e,W,⟨n1,n2,n3,n4⟩,WM⟩:=C;have hp:0<2^e:=af8 e;have e5:(n+1)*2^e=l+(b+2^e):=by rw[ag0,W];lia
  rw[e5]at WM n3;obtain⟨w1,w2,w3⟩:=v1 n (aah V);obtain⟨M,m1,m2,m3⟩:=U.least t e n b W ⋯ n1;have ev:=gW m1;obtain⟨o,fd,e1,g1⟩:=X.fn;exists f,o,fd,7,e1,g1,5,e1,nd,I,n,5,X,w3;refine(5,4,5,bD (λz=>?_) λz=>?_)
  ·have z:qi I n<=g:=of_decide_eq_true z;refine(5,d.length,7,9,λS2 Z=>?_);have:=il.uniq Z L;subst this;refine(2,5,f,nd,I,d,S2,0,n,b,e,g,7,X,U,t,6,W,9,n1,z,λp ZL=>?_);refine q _ _ Y (.inr (p,7,3));obtain⟨p1,p2,p3,p4⟩:=ZL;refine(9,9,p3,λj c v R j3 u=>?_);rw[if_pos rfl]at j3;rcases aaq j b with y|y
   ·exact m j c v y u
   ·exact p4 j c y ⋯ (by rw[if_pos rfl];exact j3) u
  ·have z:¬qi I n<=g:=λy=>z (decide_eq_true y);refine((_,7),7,b+2^e,WM,9,λj c v R u=>?_);rcases aaq j b with y|y
   ·exact m j c v y u
   ·have:=m3 j c y R u;lia
 ·rintro G N ⟨⟨O,rfl⟩,rfl,b,C,hb,m⟩;have e0:(nats (cover l k d.length)).length=(cover l k d.length).length:=aaa ..;rw[e0,ahx]at C;have C:l+b=l+d.length:=C;refine q _ _ Y (.inl (7,λj c v u=>?_));have:=(aab.mp u).1;exact m j c v ⋯ u
inductive OJ(vs:List V)(H:Hp)(Q:VK)(_e1:XK):Prop
 | mk (f nd:Addr) (xs:List V) (ns:List Int) (S sp:Nat) (g:Int) (_:vs=[.int (ns.length:Int),.ref f,.int (sp:Int),.int g]) (_:Quiet H f nd xs) (_:il ns.length S) (_:jk ns S 1 xs) (_:ns.length<=4096) (_:sp<=ns.length) (_:∀(x:V) (H':Hp),aP H H'->((x=.non /\ ∀j c,j<sp->ns[j]?=some c->g<c) \/ ∃i:Nat,x=.int (i:Int)/\XR ns 1 0 sp g i)->Q x H')
theorem tH(T:Tx K mg a):aV P w K mg base Ti 3 a.abE a.aa5 ["many","look","stop","goal"] OJ:=by
 refine T.abW.F.Tq lG λa6 A a4 s H vs Q E O h=>?_;obtain⟨f,nd,L,C,S,k,g,rfl,hA,R,X,hl,h1,q⟩:=h;refine(_,(aa (bI PassesOwn.never rfl (Do rfl T.Yk (au (aF T.Zh (CZ T) O (My 0 (au ak (My 2 aj)))) aj) Tw.jq) (aU 4 lG.nd) (ao (aX (aG jX (dO ((fP T).mono ∅) O (i:=1) rfl (My 4 aj)) (pv 3)) (ao (aD (aF T.Zg (jU T) O (au (aF T.WD (iY T) O (My 0 aj)) (My 1 (My 4 (My 3 (au ak aj)))))))) aK)))
  (ao (aD dM))),3)
 have a2:=R.pos;obtain⟨h,eS,v,hj⟩:=id R;refine(2,C.length,0,k,7,aaF _,h1,hl,λd r H1 a3 a5 TF I=>?_);have:=il.uniq a3 R;subst this;have ch:=rW (st:=0) (h,eS) (aaF k) ⋯ a2;obtain⟨_,v1,_,_⟩:=oK X v h1 ch (aac _);have Vm:=hA.same TF;have e0:(nats (cover d 0 k)).length=(cover d 0 k).length:=aaa ..;exists r,5,Tg.of I;refine zc (xs:=nats (cover d 0 k)) (λi J U=>(∃W,J=[some (.int (C.length:Int)),some (.ref f),some (.int (k:Int)),some (.int g),W])/\U=H1 /\ ∃(b:Nat),Chain d 0 k ((cover d 0 k).take ((cover d 0 k).length-i)) (d+0) (d+b)/\b<=k /\ ∀j c,b<=j->j<k->C[j]?=some c->g<c) ((none,7),7,k,by rw[agQ,agF];exact ch,aac _,λj c D N=>by lia) ?_ ?_ ?_
 ·rintro i J U _ ⟨_,rfl,_⟩;exact Tg.of I
 ·rintro i x J U hi t ⟨⟨W,rfl⟩,rfl,b,G,hb,l⟩;rw[e0]at hi t;unfold nats at t;rw[aag]at t;obtain⟨n,hn,rfl⟩:∃n,(cover d 0 k)[(cover d 0 k).length-1-i]?=some n/\x=.int (n:Int):=by
   cases e:(cover d 0 k)[(cover d 0 k).length-1-i]? with
   |none=>rw[e]at t;cases t
   |some n=>rw[e]at t;exact(n,7,(aao t).symm)
  have et:(cover d 0 k).take ((cover d 0 k).length-i)=(cover d 0 k).take ((cover d 0 k).length-(i+1))++[n]:=by
   rw[show (cover d 0 k).length-i=((cover d 0 k).length-(i+1))+1 from by lia,acC,show (cover d 0 k).length-(i+1)=(cover d 0 k).length-1-i from by lia,hn];rfl
  obtain⟨y,V,y2⟩:=sW ((cover d 0 k).length-(i+1)) G;have m:((cover d 0 k).take ((cover d 0 k).length-(i+1))).length=(cover d 0 k).length-(i+1):=by
   rw[aaL];lia
  rw[et,ahA (by rw[m];exact aac _),aak (by rw[m];exact aac _)]at V;rw[et,List.drop_append_of_le_length (by rw[m];exact aac _),af5 (by rw[m];exact aac _),ahm]at y2;obtain⟨e,Y,⟨n1,n2,n3,n4⟩,Z⟩:=y2;have hy:=Dg V;obtain⟨B,rfl⟩:∃B,y=d+B:=(y-d,9);have hp:0<2^e:=af8 e;have e5:(n+1)*2^e=d+(B+2^e):=by rw[ag0,Y];lia
  have Z:(n+1)*2^e=d+b:=Z;rw[e5]at Z n3;obtain⟨w1,w2,w3⟩:=v1 n (aah hn);obtain⟨M,m1,m2,m3⟩:=X.least v e n B Y ⋯ n1;have ev:=gW m1;obtain⟨o,fd,e1,g1⟩:=Vm.fn;exists f,o,fd,7,e1,g1,5,e1,nd,L,n,5,Vm,w3;refine(5,4,5,bD (λz=>?_) λz=>?_)
  ·have z:qi L n<=g:=of_decide_eq_true z;refine(5,C.length,7,9,λS2 a1=>?_);have:=il.uniq a1 R;subst this;refine(2,5,f,nd,L,C,S2,(1),n,B,e,g,7,Vm,X,v,6,Y,9,n1,z,λp ZL=>?_);refine q _ _ TF (.inr (p,7,3));obtain⟨p1,p2,p3,p4⟩:=ZL;refine(aaF _,9,p3,λj c D N j3 u=>?_);rw[if_neg ∅]at j3;rcases aaq j b with y|y
   ·exact p4 j c ⋯ ⋯ (by rw[if_neg ∅];exact j3) u
   ·exact l j c y N u
  ·have z:¬qi L n<=g:=λy=>z (decide_eq_true y);refine((_,7),7,B,V,9,λj c D N u=>?_);rcases aaq j b with y|y
   ·have:=m3 j c D ⋯ u;lia
   ·exact l j c y N u
 ·rintro J U ⟨⟨W,rfl⟩,rfl,b,G,hb,l⟩;rw[e0,ag6,aif]at G;have G:d+0=d+b:=G;exact q _ _ TF (.inl (7,λj c D u=>l j c ⋯ D u))
structure BP where
 t:Addr
 L:LK
 ah:Addr
 nd:Addr
 ns:List Int
 lows:List Int
 S:Nat
 xs:List V
structure Ug(H:Hp)(Ph:Addr)(p:BP)(ss:List Int):Prop where
 ask:Ask H p.t p.L p.ah p.ns ss [.ref p.nd]
 VD:H p.nd=some (.tup p.xs)
 low:DY p.ns p.lows
 sz:il p.lows.length p.S
 heap:jk p.lows p.S 1 p.xs
 tab:TabAt H Ph (bW bR) aY.qual
structure Did(H H':Hp)(Ph:Addr)(L:LK)(k:Nat)(ss ss':List Int):Prop where
 kp:∀b o,H b=some o->b≠Ph->L.wr≠some b->H' b=some o
 seen:∀sn,L.wr=some sn->H' sn=some (.lst (ss'.map V.int))
 tab:TabAt H' Ph (bW bR) aY.qual
 wr:bQ L.all.length k ss ss'
theorem Did.trans{H l i:Hp}{d:Addr}{L:LK}{j k:Nat}{a b c:List Int}(h:Did H l d L j a b)(h':Did l i d L k b c):Did H i d L (j+k) a c:=
 (λx o e g f=>h'.kp x o (h.kp x o e g f) g f,h'.seen,h'.tab,h.wr.trans h'.wr)
theorem Did.le{H d:Hp}{c:Addr}{L:LK}{j k:Nat}{a b:List Int}(h:Did H d c L j a b)(e:j<=k):Did H d c L k a b:=(h.kp,h.seen,h.tab,h.wr.le e)
theorem Did.same{H f d:Hp}{c:Addr}{L:LK}{j:Nat}{a b:List Int}(h:Did H f c L j a b)(s:aP f d):Did H d c L j a b:=
 (λx o e k i=>s _ _ (h.kp x o e k i),λg e=>s _ _ (h.seen g e),TabAt.same h.tab s,h.wr)
theorem Ug.self{p:BP}(h:Ug H f p d):Did H H f p.L 0 d d:=(λ_ _ e _ _=>e,λb e=>(h.ask.asks.seen b e).1,h.tab,bQ.none d)
theorem TabAt.put{P:Addr}{pos:Pos}{q:Str}{L:LK}{tt:List Int}(h:TabAt H P pos q)(a:Asks H L d):TabAt (L.put H tt) P pos q:=by
 cases e:L.wr with
 |none=>
  rw[LK.put_none e];exact h
 |some b=>
  rw[LK.put_some e];exact TabAt.upd h (a.seen b e).1
theorem Ug.look{H':Hp}{p:BP}(h:Ug H f p d){k:Nat}(w:bQ p.L.all.length k d M)(s:aP (p.L.put H M) H'):Did H H' f p.L k d M:=
 (λx o e g b=>s _ _ (by rw[LK.put_ne b];exact e),λc e=>s _ _ (by rw[LK.put_some e];exact aq),TabAt.same (TabAt.put h.tab h.ask.asks) s,w)
theorem Ug.did{H':Hp}{p:BP}{k:Nat}(h:Ug H f p d)(c:Did H H' f p.L k d M)(t:M.length<=16000000):Ug H' f p M:=by
 have l:∀b o,H b=some o->(∀g,o ≠ .Tv g)->b≠f:=λb o e n=>TabAt.ne h.tab e n;have m:∀b o,H b=some o->(∀g,o ≠ .lst g)->p.L.wr≠some b:=λb o e n z=>by
  rw[(h.ask.asks.seen b z).1]at e;cases e;exact n _ rfl
 have i:∀b o,H b=some o->(∀g,o ≠ .Tv g)->(∀g,o ≠ .lst g)->H' b=some o:=λb o e s r=>c.kp b o e (l b o e s) (m b o e r);have q:p.L.wr≠some p.L.bl:=λz=>(h.ask.asks.seen _ z).2 rfl;have u:=c.kp _ _ h.ask.asks.nodes (l _ _ h.ask.asks.nodes nofun) q;exact(((i _ _ h.ask.tab.tup nofun nofun,i _ _ h.ask.tab.Uy nofun nofun,h.ask.tab.few),(h.ask.asks.look.kept i,λj e=>(c.seen j e,(h.ask.asks.seen j e).2),u,t),h.ask.bits,h.ask.len,h.ask.blk),i _ _ h.VD nofun nofun,h.low,h.sz,h.heap,c.tab)
theorem Ug.same{H H':Hp}{c:Addr}{p:BP}{b:List Int}(h:Ug H c p b)(s:aP H H'):Ug H' c p b:=(h.ask.same s,s _ _ h.VD,h.low,h.sz,h.heap,TabAt.same h.tab s)
theorem Ug.lenL{p:BP}(h:Ug H f p d):p.lows.length=many p.ns.length/\many p.ns.length<=128:=(h.low.len,by have:=h.ask.len;unfold many;lia)
theorem Ug.made{H':Hp}{p:BP}(h:Ug H f p d)(b:nM f H H')(t:TabAt H' f (bW bR) aY.qual):Did H H' f p.L 0 d d:=
 (λx o e g _=>b x o e g,λc e=>b _ _ (h.ask.asks.seen c e).1 (TabAt.ne h.tab (h.ask.asks.seen c e).1 nofun),t,bQ.none d)
inductive uc(vs:List V)(H:Hp)(Q:VK)(_e1:XK):Prop
 | mk (j at0:Nat) (_:vs=[.int (j:Int),.int (at0:Int)]) (_:Q (.int ((at0-32*j:Nat):Int)) H)
theorem uh(T:Tx K mg a):aV P w K mg base Ti 1 a.abG a.aa9 ["number","at"] uc:=by
 refine T.abX.F.Tq tX λd A c s H f Q E g h=>?_;obtain⟨j,b,rfl,q⟩:=h;exists _,(ao (aD (aL (Jg rfl) rfl T.af1 Tw.QM (au (aB bA (pv 1) (aB cH (bF (v:=.int 32) rfl T.Uv (_,7)) (pv 0))) (au ak aj)))));exists 2,4,.inl (6,6),4,_,5;have e:(if (b:Int)-32*(j:Int)<0 then (0:Int)else (b:Int)-32*(j:Int))=((b-32*j:Nat):Int):=by
  split<;>lia
 rw[<-e]at q;exact q
inductive uZ(vs:List V)(H:Hp)(Q:VK)(_e1:XK):Prop
 | mk (t ah:Addr) (ns:List Int) (rest:List V) (_:vs=[.ref t]) (_:Tab H t ah ns rest) (_:Q (.int (many ns.length:Nat)) H)
theorem mJ(T:Tx K mg a):aV P w K mg base Ti 1 a.acf a.abH ["tables"] uZ:=by
 refine T.Zi.F.Tq v7 λg A d s H i Q E j h=>?_;obtain⟨t,f,b,rest,rfl,c,q⟩:=h;exists _,(ao (aD (aB bA (aL aO rfl T.Tz Tw.bh (au (aW aR (pv 0) ak) aj)) ak)));exists 5,t,_,4,Tj.of c.tup,oX _ _ _ c.few,f,5,.inr (Tj.of c.Uy),4;have e:(((T8 b (many b.length)).map V.int).length:Int)-1=((many b.length:Nat):Int):=by
  rw[aaa,dq];lia
 rw[<-e]at q;exact q
inductive tZ(vs:List V)(H:Hp)(Q:VK)(_e1:XK):Prop
 | mk (j:Nat) (x:V) (_:vs=[.int (j:Int),x]) (_:((x=.non/\Q .non H) \/ ∃k:Nat,x=.int (k:Int)/\Q (.int ((32*j+k:Nat):Int)) H))
theorem lF(T:Tx K mg a):aV P w K mg base Ti 1 a.abJ a.abd ["number","within"] tZ:=by
 refine T.Zn.F.Tq tU λc A b s H d Q E e h=>?_;obtain⟨j,x,rfl,h⟩:=h;refine(_,(aa (aX (fX (mQ (pv 1))) (ao (aD dM)) aK)
  (ao (aD (aB aZ (aB cH (bF (v:=.int 32) rfl T.Uv (_,7)) (pv 0)) (pv 1))))),3)
 rcases h with ⟨rfl,q⟩|⟨k,rfl,q⟩
 ·exact(2,jj q)
 ·refine(2,dN (5,4,.inl (6,6),5,4,3));rw[show ((32*j+k:Nat):Int)=32*(j:Int)+(k:Int)from by lia]at q;exact q
inductive tE(vs:List V)(H:Hp)(Q:VK)(_e1:XK):Prop
 | mk (t:Addr) (L:LK) (ah:Addr) (ns ss:List Int) (rest:List V) (j at0:Nat) (g:Int) (_:vs=[.ref t,.ref L.f,.int (j:Int),.int (at0:Int),.int g]) (_:Ask H t L ah ns ss rest) (_:ss.length<16000000) (_:32*j<ns.length) (_:∀x ss' H',((x=.non/\cG ns (max at0 (32*j)) (32*j+wide ns.length j) g) \/ ∃k:Nat,x=.int (k:Int)/\dY ns (max at0 (32*j)) (32*j+wide ns.length j) g k)->bQ L.all.length 1 ss ss'->aP (L.put H ss') H'->Q x H')
theorem lE(T:Tx K mg a):aV P w K mg base Ti 5 a.abI a.abb ["tables","look","number","at","goal"] tE:=by
 refine T.Zm.F.Tq gH λM A x s H N Q E e h=>?_;obtain⟨t,L,I,d,y,rest,j,c,g,rfl,b,u,C,q⟩:=h;refine(_,(aa (aA 5 gH.nd (aF T.abX (uh T) e (My 2 (My 3 aj))))
  (aa (aA 6 gH.nd (aF T.Yj (jA T) e (My 2 (au (aW aR (pv 0) ak) aj))))
  (ao (aD (aF T.Zn (lF T) e (My 2 (au (aF T.abV (tK T) e (au (dO ((cJ T).mono ∅) e (i:=1) rfl (My 2 aj)) (My 5 (My 6 (au (aB bA (pv 4) (aF T.Yi (oH T) e (My 0 (My 2 aj)))) aj))))) aj))))))),3)
 obtain⟨o,G,B,D⟩:=b.asks.look.fn;have n:j<many d.length:=by
  unfold many;lia
 have m:wide d.length j<=32:=by
  unfold wide;lia
 exists 2,j,c,7;exists 2,t,_,4,Tj.of b.tab.tup,nu _ _ _ b.tab.few,j,d.length,7,ae8 C;exists 5,L.f,o,G,7,B,D,5,B,L,y,j,5,7,b.asks,u,b.blk _ (by first|exact n|lia);have J:=b.more (tt:=y++[((L.off+j:Nat):Int)]) (by rw[aaf,agi];lia);exists 2,2,5,t,I,d,rest,j,7,J.tab,ae8 n,4;have z:32*j+(c-32*j)=max c (32*j):=by lia
 have w:=b.wr n;refine(cD d j,c-32*j,wide d.length j,g-ht d (32*j),7,m,λp k l hd v=>?_,λp l r=>?_)
 ·have:=first_within b.bits m hd v;rw[z]at this;exact(j,5,.inr (k,7,q _ _ p (.inr (5,this)) w l))
 ·have:=sr b.bits m r;rw[z]at this;exact(j,5,.inl (7,q _ _ p (.inl (7,this)) w l))
inductive wW(Ph:Addr)(vs:List V)(H:Hp)(Q:VK)(_e1:XK):Prop
 | mk (p:BP) (ss:List Int) (at0:Nat) (g:Int) (_:vs=[.ref p.t,.ref p.L.f,.int (at0:Int),.int g]) (_:Ug H Ph p ss) (_:ss.length<=15999990) (_:at0<=p.ns.length) (_:∀x ss' H',((x=.non/\cG p.ns at0 p.ns.length g) \/ ∃k:Nat,x=.int (k:Int)/\dY p.ns at0 p.ns.length g k)->Did H H' Ph p.L 2 ss ss'->Q x H')
theorem wD(T:Tx K mg a)(B:Bs mg base a):aV P w K mg base Ti 6 a.acZ a.acg ["tables","look","at","goal"] (wW a.TV):=by
 refine T.adi.F.Tq gk λa3 A R s H vs Q E o h=>?_;obtain⟨p,W,b,g,rfl,d,a1,h1,q⟩:=h;refine(_,(aa (bu (aF T.WF (dm T) o (My 2 (au (aW aR (pv 0) ak) aj))))
  (aa (aX (aG cR (pv 2) (aW aR (pv 0) ak)) (ao (aD dM)) aK)
  (aa (aA 4 gk.nd (aB bG (pv 2) (bF (v:=.int 32) rfl T.Uv (_,7))))
  (aa (aA 5 gk.nd (aF T.Zm (lE T) o (My 0 (My 1 (My 4 (My 2 (My 3 aj)))))))
  (aa (aX (fX (uz (pv 5))) (ao (aD (pv 5))) aK)
  (aa (aA 6 gk.nd (aF T.abk (qI T) o (au (aF T.Zi (mJ T) o (My 0 aj)) (au (aF T.Zj (pY T B) o (My 0 aj)) (au (aB aZ (pv 4) ak) (My 3 aj))))))
  (aa (aX (fX (mQ (pv 6))) (ao (aD dM)) aK)
  (ao (aD (aF T.Zm (lE T) o (My 0 (My 1 (My 6 (My 2 (My 3 aj))))))))))))))),3)
 have a0:=d.ask.len;refine(2,p.t,_,4,Tj.of d.ask.tab.tup,7,_,5,9,9,3);refine(2,p.t,_,4,Tj.of d.ask.tab.tup,7,7,5,bD (λc=>?_) λc=>?_)
 ·have c:V.int (b:Int)=V.int (p.ns.length:Int):=of_decide_eq_true c;injection c with c
  exact q _ W H (.inl (7,cG.empty ⋯)) (d.self.le ∅)
 have c:(b:Int)≠(p.ns.length:Int):=λz=>c (decide_eq_true (congrArg V.int z));have Z:(b:Int) / 32=((b / 32:Nat):Int):=by lia
 exists 5,4,(6,6);refine(2,2,5,p.t,p.L,p.ah,p.ns,W,_,b / 32,b,g,3,d.ask,9,9,λx N H1 m Xl s1=>?_)
 ·rw[<-Z];rfl
 have J:=d.look Xl s1;have l1:=Xl.len;have r:=d.did J ⋯;rw[show max b (32*(b / 32))=b from by lia]at m;rcases m with ⟨rfl,l⟩|⟨k,rfl,D⟩
 rotate_left
 ·refine(2,jj (5,q _ N H1 (.inr (k,7,D.wider (by unfold wide;lia))) (J.le ∅)))
 refine(2,dN ?_);obtain⟨I,e2⟩:=d.lenL;exists 5,p.t,p.ah,p.ns,5,r.ask.tab;refine(5,p.t,p.nd,8,p.xs,7,r.ask.tab.tup,r.VD,r.tab,λG H5 nf b5 O qu=>?_);have d5:=J.trans (r.made b5 O);have Wg:=d.did d5 ⋯;have ev:[V.int ((many p.ns.length:Nat):Int),.ref G,.int ((b:Int) / 32+1),.int g]=[.int (p.lows.length:Int),.ref G,.int ((b / 32+1:Nat):Int),.int g]:=by
  rw[I,Z];rfl
 have a2:b / 32+1<=many p.ns.length:=by
  unfold many;lia
 refine(5,4,5,G,p.nd,p.xs,p.lows,p.S,b / 32+1,g,ev,qu,d.sz,d.heap,9,9,λx H6 X m=>?_);have d6:=d5.same X;have Xm:=Wg.same X;have f:cG p.ns b (32*(b / 32+1)) g\/32*(b / 32+1) > p.ns.length:=by
  rcases aaq p.ns.length (32*(b / 32+1))with z|z
  ·exact .inr z
  ·rw[show 32*(b / 32)+wide p.ns.length (b / 32)=32*(b / 32+1)from by unfold wide;lia]at l;exact .inl l
 rcases m with ⟨rfl,y⟩|⟨i,rfl,h3,Y,⟨c5,h5,ZP⟩,h6⟩
 ·refine(2,jj (q _ N H6 (.inl (7,3)) (d6.le ∅)));rcases f with f|z
  ·refine f.join (d.low.none (i:=b / 32+1) (j:=many p.ns.length) (λt M C U e=>y t M C e) ?_ (aac _));unfold many;lia
  ·rw[show 32*(b / 32)+wide p.ns.length (b / 32)=p.ns.length from by unfold wide;lia]at l;exact l
 rw[I]at Y;have hi:32*i<p.ns.length:=by
  unfold many at Y;lia
 have n:cG p.ns b (32*(b / 32+1)) g:=by
  rcases f with z|z
  ·exact z
  ·lia
 refine(2,dN ?_);refine(2,2,5,p.t,p.L,p.ah,p.ns,N,_,i,b,g,7,Xm.ask,9,hi,λx ZQ H7 m ZR s7=>?_);have d7:=d6.trans (Xm.look ZR s7);rw[show max b (32*i)=32*i from by lia,show 32*i+wide p.ns.length i=min (32*i+32) p.ns.length from by unfold wide;lia]at m;have u:cG p.ns b (32*i) g:=n.join (d.low.none (i:=b / 32+1) (j:=i) (λt M C U e=>h6 t M C (by rw[I];lia) (by rw[if_pos rfl];exact U) e) (aac _) ⋯);rcases m with ⟨rfl,hn⟩|⟨k,rfl,D⟩
 ·exact absurd hn (d.low.some h5 ZP)
 ·refine q _ ZQ H7 (.inr (k,7,3)) d7;exact((dY.after u D ⋯).wider ⋯)
inductive uJ(vs:List V)(H:Hp)(Q:VK)(_e1:XK):Prop
 | mk (t:Addr) (L:LK) (ah:Addr) (ns ss:List Int) (rest:List V) (j up:Nat) (g:Int) (_:vs=[.ref t,.ref L.f,.int (j:Int),.int (up:Int),.int g]) (_:Ask H t L ah ns ss rest) (_:ss.length<16000000) (_:32*j<up) (_:up<=ns.length) (_:∀x ss' H',((x=.non/\cG ns (32*j) (32*j+wide up j) g) \/ ∃k:Nat,x=.int (k:Int)/\jC ns (32*j) (32*j+wide up j) g k)->bQ L.all.length 1 ss ss'->aP (L.put H ss') H'->Q x H')
theorem lQ(T:Tx K mg a):aV P w K mg base Ti 5 a.ach a.abK ["tables","look","number","upto","goal"] uJ:=by
 refine T.Zo.F.Tq lN λM A x s H N Q E c h=>?_;obtain⟨t,L,G,d,y,rest,j,e,g,rfl,b,u,B,J,q⟩:=h;refine(_,(aa (aA 5 lN.nd (aF T.Yj (jA T) c (My 2 (My 3 aj))))
  (ao (aD (aF T.Zn (lF T) c (My 2 (au (aF T.acB (vP T) c (au (dO ((cJ T).mono ∅) c (i:=1) rfl (My 2 aj)) (au ak (My 5 (au (aB bA (pv 4) (aF T.Yi (oH T) c (My 0 (My 2 aj)))) aj))))) aj)))))),3)
 obtain⟨o,D,z,C⟩:=b.asks.look.fn;have n:j<many d.length:=by
  unfold many;lia
 have m:wide e j<=32:=by
  unfold wide;lia
 exists 2,j,e,7,ae8 B;exists 5,L.f,o,D,7,z,C,5,z,L,y,j,5,7,b.asks,u,b.blk _ (by first|exact n|lia);have I:=b.more (tt:=y++[((L.off+j:Nat):Int)]) (by rw[aaf,agi];lia);exists 2,2,t,G,d,rest,j,7,I.tab,ae8 n,4;have w:=b.wr n;refine(cD d j,0,wide e j,g-ht d (32*j),7,m,λp k l hd v=>?_,λp l r=>?_)
 ·exact(j,5,.inr (k,7,q _ _ p (.inr (5,last_within b.bits m hd v)) w l))
 ·exact(j,5,.inl (7,q _ _ p (.inl (7,sr b.bits m r)) w l))
inductive qO(Ph:Addr)(vs:List V)(H:Hp)(Q:VK)(_e1:XK):Prop
 | mk (p:BP) (ss:List Int) (at0:Nat) (g:Int) (_:vs=[.ref p.t,.ref p.L.f,.int ((at0:Int)-1),.int g]) (_:Ug H Ph p ss) (_:ss.length<=15999990) (_:at0<=p.ns.length+1) (_:∀x ss' H',((x=.non/\cG p.ns 0 (at0-1) g) \/ ∃k:Nat,x=.int (k:Int)/\jC p.ns 0 (at0-1) g k)->Did H H' Ph p.L 2 ss ss'->Q x H')
theorem ql(T:Tx K mg a)(B:Bs mg base a):aV P w K mg base Ti 6 a.abe a.aaX ["tables","look","upto","goal"] (qO a.TV):=by
 refine T.abn.F.Tq dH λa3 A O s H vs Q E n h=>?_;obtain⟨p,R,l,g,rfl,f,a1,h1,q⟩:=h;refine(_,(aa (aX (aG jW (pv 2) ak) (ao (aD dM)) aK)
  (aa (aA 4 dH.nd (aB bG (aB bA (pv 2) ak) (bF (v:=.int 32) rfl T.Uv (_,7))))
  (aa (aA 5 dH.nd (aF T.Zo (lQ T) n (My 0 (My 1 (My 4 (My 2 (My 3 aj)))))))
  (aa (aX (fX (uz (pv 5))) (ao (aD (pv 5))) aK)
  (aa (aA 6 dH.nd (aF T.abW (tH T) n (au (aF T.Zi (mJ T) n (My 0 aj)) (au (aF T.Zj (pY T B) n (My 0 aj)) (My 4 (My 3 aj))))))
  (aa (aX (fX (mQ (pv 6))) (ao (aD dM)) aK)
  (ao (aD (aF T.Zo (lQ T) n (My 0 (My 1 (My 6 (My 2 (My 3 aj)))))))))))))),3)
 have a0:=f.ask.len;refine(5,4,5,bD (λc=>?_) λc=>?_)
 ·have c:(l:Int)-1<1:=of_decide_eq_true c;exact q _ R H (.inl (7,cG.empty ⋯)) (f.self.le ∅)
 have c:¬(l:Int)-1<1:=λz=>c (decide_eq_true z);obtain⟨d,rfl⟩:∃d,l=d+1:=(l-1,9);rw[ahp]at q;have W:((d+1:Nat):Int)-1=(d:Int):=by lia
 have X:(((d+1:Nat):Int)-1-1) / 32=(((d-1) / 32:Nat):Int):=by lia
 exists 5,4,4,(6,6);refine(2,2,5,p.t,p.L,p.ah,p.ns,R,_,(d-1) / 32,d,g,3,f.ask,9,9,9,λx M H1 m Xl s1=>?_)
 ·rw[<-X,<-W];rfl
 have I:=f.look Xl s1;have l1:=Xl.len;have o:=f.did I ⋯;rw[show 32*((d-1) / 32)+wide d ((d-1) / 32)=d from by unfold wide;lia]at m;rcases m with ⟨rfl,r⟩|⟨k,rfl,D⟩
 rotate_left
 ·refine(2,jj (5,q _ M H1 (.inr (k,7,D.wider ⋯)) (I.le ∅)))
 refine(2,dN ?_);obtain⟨e1,e2⟩:=f.lenL;exists 5,p.t,p.ah,p.ns,5,o.ask.tab;refine(5,p.t,p.nd,8,p.xs,7,o.ask.tab.tup,o.VD,o.tab,λG H5 nf b5 N qu=>?_);have Z:=I.trans (o.made b5 N);have Wg:=f.did Z ⋯;have ev:[V.int ((many p.ns.length:Nat):Int),.ref G,.int ((((d+1:Nat):Int)-1-1) / 32),.int g]=[.int (p.lows.length:Int),.ref G,.int (((d-1) / 32:Nat):Int),.int g]:=by
  rw[e1,X]
 have a2:(d-1) / 32<=many p.ns.length:=by
  unfold many;lia
 refine(2,G,p.nd,p.xs,p.lows,p.S,(d-1) / 32,g,ev,qu,f.sz,f.heap,9,9,λx H6 U m=>?_);have Y:=Z.same U;have Xm:=Wg.same U;rcases m with ⟨rfl,y⟩|⟨i,rfl,h3,h4,⟨c5,h5,ZP⟩,h6⟩
 ·refine(2,jj (q _ M H6 (.inl (7,3)) (Y.le ∅)));have:=f.low.none (i:=0) (j:=(d-1) / 32) (b:=32*((d-1) / 32)) (λt J t1 C e=>y t J C e) (aac _) ⋯;exact this.join r
 refine(2,dN ?_);refine(2,2,5,p.t,p.L,p.ah,p.ns,M,_,i,d,g,3,Xm.ask,9,9,9,λx ZQ H7 m ZR s7=>?_)
 ·rw[<-W];rfl
 have d7:=Y.trans (Xm.look ZR s7);rw[show 32*i+wide d i=32*(i+1)from by unfold wide;lia]at m;have u:cG p.ns (32*(i+1)) d g:=(f.low.none (i:=i+1) (j:=(d-1) / 32) (b:=32*((d-1) / 32)) (λt J t1 C e=>h6 t J (aaF _) C (by rw[if_neg ∅];lia) e) (aac _) ⋯).join r;rcases m with ⟨rfl,hn⟩|⟨k,rfl,D⟩
 ·refine absurd ?_ (f.low.some h5 ZP);rw[show min (32*i+32) p.ns.length=32*(i+1)from by lia];exact hn
 ·exact q _ ZQ H7 (.inr (k,7,(jC.ahead u D ⋯).wider ⋯)) d7
inductive z9(Ph:Addr)(vs:List V)(H:Hp)(Q:VK)(_e1:XK):Prop
 | mk (p:BP) (ss:List Int) (at0:Nat) (g:Int) (_:vs=[.ref p.t,.ref p.L.f,.int (at0:Int),.int g]) (_:Ug H Ph p ss) (_:ss.length<=15999990) (_:at0<=p.ns.length) (_:∀x ss' H',((x=.non/\Pu p.ns at0 g) \/ ∃k:Nat,x=.int (k:Int)/\Eg p.ns at0 g k)->Did H H' Ph p.L 2 ss ss'->Q x H')
theorem zZ(T:Tx K mg a)(B:Bs mg base a):aV P w K mg base Ti 7 a.adG a.ac0 ["tables","look","at","goal"] (z9 a.TV):=by
 refine T.adX.F.Tq qd λL A o s H M Q E r h=>?_;obtain⟨p,v,b,g,rfl,u,n,N,q⟩:=h;refine(_,(aa (bu (aF T.WF (dm T) r (My 2 (au (aW aR (pv 0) ak) aj))))
  (aa (aA 4 qd.nd (aF T.abn (ql T B) r (My 0 (My 1 (au (aB bA (pv 2) ak) (My 3 aj))))))
  (aa (aX (PW.pt (gD (fX (mQ (pv 4))) (gD (aG jf (pv 2) ak) (fY (aG By (pv 3) ak))))) (ao (aD ak)) aK)
  (ao (aD (pv 4)))))),3)
 refine(2,p.t,_,4,Tj.of u.ask.tab.tup,7,_,5,9,9,3);refine(2,5,4,5,p,v,b,g,7,u,n,9,λx j l C f=>?_);rcases C with ⟨rfl,e⟩|⟨k,rfl,R,O,J,I⟩
 rotate_left
 ·refine(2,dN (dN (5,q _ j l (.inr (k,7,9,J,λi m y=>I i m ⋯)) f)))
 refine(2,jj ?_);refine(5,4,5,bD (λd=>?_) λd=>dN (5,q _ j l (.inl (7,λi D=>?_)) f))
 rotate_left
 ·have d:¬(0:Int)<(b:Int):=λz=>d (decide_eq_true z);lia
 have d:(0:Int)<(b:Int):=of_decide_eq_true d;refine(5,4,5,bD (λc=>?_) λc=>(5,q _ j l (.inl (7,λi D=>?_)) f))
 ·have c:(0:Int)<=g:=of_decide_eq_true c;have:=q _ j l (.inr (0,7,9,by rw[jr];exact c,λi m y=>e i m ⋯)) f;exact this
 ·have c:¬(0:Int)<=g:=λz=>c (decide_eq_true z);rcases ad3 i with rfl|G
  ·rw[jr];lia
  ·exact e i G ⋯
inductive qG(vs:List V)(H:Hp)(Q:VK)(E:XK):Prop
 | mk (t:Addr) (L:LK) (ah:Addr) (ns ss:List Int) (rest:List V) (at0:Nat) (b:Int) (_:vs=[.ref t,.ref L.f,.int (at0:Int),.int b]) (_:Ask H t L ah ns ss rest) (_:ss.length<16000000) (_:ns[at0]?=some b) (_:∀ss' H',bQ L.all.length 1 ss ss'->aP (L.put H ss') H'->Q .non H')
theorem jR(T:Tx K mg a):aV P w K mg base Ti 5 a.abf a.aaY ["tables","look","at","bit"] qG:=by
 refine T.Zq.F.Tq qR λp A f s H r Q E k h=>?_;obtain⟨t,L,n,j,g,rest,e,b,rfl,m,d,l,q⟩:=h;exists _,(ao (aX (aG yc (aF T.Wi (iy T) k (My 0 (My 1 (My 2 aj)))) (pv 3)) (ao b7) aK));exact(2,5,t,L,n,j,g,rest,e,b,7,m,d,l,λc o w i=>(5,7,5,yj rfl (q c o w i)))
inductive Fp(Ph:Addr)(vs:List V)(H:Hp)(Q:VK)(_e1:XK):Prop
 | mk (p:BP) (ss:List Int) (at0:Nat) (_:vs=[.ref p.t,.ref p.L.f,.int (at0:Int)]) (_:Ug H Ph p ss) (_:ss.length<=15999980) (_:Tree p.ns) (_:p.ns[at0]?=some 1) (_:∀(k:Nat) ss' H',dY p.ns at0 p.ns.length (ht p.ns at0) (k+1)->Did H H' Ph p.L 4 ss ss'->Q (.int (k:Int)) H')
theorem Dj(T:Tx K mg a)(B:Bs mg base a):aV P w K mg base Ti 7 a.aeU a.aek ["tables","look","at"] (Fp a.TV):=by
 refine T.ae3.F.Tq FQ λS A i s H U Q E e h=>?_;obtain⟨p,y,b,rfl,d,R,c,o,q⟩:=h;have f:=(aab.mp o).1;refine(_,(aa (bu (aF T.Zq (jR T) e (My 0 (My 1 (My 2 (au ak aj))))))
  (ao (aD (aB bA (aF T.adi (wD T B) e (My 0 (My 1 (My 2 (au (aF T.Zk (xH T) e (My 0 (My 1 (My 2 aj)))) aj))))) ak)))),3)
 refine(2,5,p.t,p.L,p.ah,p.ns,y,_,b,(1),7,d.ask,9,o,λN Y m C=>?_);have u:=d.look m C;have W:=m.len;have v:=d.did u ⋯;refine(2,2,2,p.t,p.L,p.ah,p.ns,N,_,b,7,v.ask,9,9,λM X l z=>?_);have r:=u.trans (v.look l z);have V:=l.len;have g:=d.did r ⋯;refine(p,M,b,ht p.ns b,7,g,9,9,λx J O D I=>?_);rcases D with ⟨rfl,G⟩|⟨k,rfl,n⟩
 ·have:=G p.ns.length f (aac _);rw[c.2.1]at this;have:=c.pos (k:=b) ⋯;lia
 ·obtain⟨k,rfl⟩:∃j,k=j+1:=(k-1,by have:=n.1;lia);exists 4;have:=q k J O n (r.trans I);rw[show (k:Int)=((k+1:Nat):Int)-1 from by lia]at this;exact this
inductive Gd(Ph:Addr)(vs:List V)(H:Hp)(Q:VK)(_e1:XK):Prop
 | mk (p:BP) (ss:List Int) (at0:Nat) (_:vs=[.ref p.t,.ref p.L.f,.int (at0:Int)]) (_:Ug H Ph p ss) (_:ss.length<=15999980) (_:Tree p.ns) (_:p.ns[at0]?=some 0) (_:∀(k:Nat) ss' H',Eg p.ns at0 (ht p.ns at0-1) k->Did H H' Ph p.L 4 ss ss'->Q (.int (k:Int)) H')
theorem Ds(T:Tx K mg a)(B:Bs mg base a):aV P w K mg base Ti 8 a.aeV a.ael ["tables","look","at"] (Gd a.TV):=by
 refine T.ae4.F.Tq DQ λV A j s H W Q E e h=>?_;obtain⟨p,u,b,rfl,d,S,g,f,q⟩:=h;have U:=(aab.mp f).1;refine(_,(aa (bu (aF T.Zq (jR T) e (My 0 (My 1 (My 2 (au ak aj))))))
  (ao (aD (aF T.adX (zZ T B) e (My 0 (My 1 (My 2 (au (aB bA (aF T.Zk (xH T) e (My 0 (My 1 (My 2 aj)))) ak) aj)))))))),3)
 refine(2,5,p.t,p.L,p.ah,p.ns,u,_,b,0,7,d.ask,9,f,λO H1 m y=>?_);have o:=d.look m y;have Y:=m.len;have r:=d.did o ⋯;refine(2,2,2,p.t,p.L,p.ah,p.ns,O,_,b,7,r.ask,9,9,λN H2 l v=>?_);have n:=o.trans (r.look l v);have X:=l.len;have i:=d.did n ⋯;refine(4,p,N,b,ht p.ns b-1,7,i,9,9,λx M R C J=>?_);have c:0<b/\0<=ht p.ns b-1:=by
  have I:=kW f;have Z:=g.pos (k:=b+1) ⋯;refine(3,9);rcases ad3 b with rfl|z
  ·rw[jr]at I;lia
  ·exact z
 rcases C with ⟨rfl,D⟩|⟨k,rfl,G⟩
 ·have:=D 0 c.1;rw[jr]at this;lia
 ·exact q k M R G (n.trans J)
inductive yS(vs:List V)(H:Hp)(Q:VK)(E:XK):Prop
 | mk (p:Addr) (ds:List Int) (_:vs=[.ref p]) (_:H p=some (.lst (ds.map V.int))) (_:ds.length<=2048) (_:gr ds) (_:∀r t ah nd bl lows S xs H',H bl=none->aP H H'->H' r=some (.tup [.ref t,.ref bl])->KB H' t ah nd bl (brk ds 0) lows S xs->Q (.ref r) H')
theorem zU(T:Tx K mg a):aV P w K mg base Ti 7 a.adH a.ac1 ["depths"] yS:=by
 refine T.adY.F.Tq zx λC A e s H D Q E g h=>?_;obtain⟨p,i,rfl,u,v,d,q⟩:=h;exists _,(ao (aD (aF T.abm (rJ T) g (au (aF T.acD (uG T) g (My 0 aj)) aj))));refine(5,p,i,7,u,d,v,λb M G f l=>?_);have L:=nq d;exact(b,brk i 0,7,Tg.of l,9,n8 _ _,uP d,λr t z n y c S j B x J I m k o=>q r t z n y c S j B (f.free x) (f.trans m) k o)
inductive w5(vs:List V)(H:Hp)(Q:VK)(_e1:XK):Prop
 | mk (t ah:Addr) (ns:List Int) (rest:List V) (_:vs=[.ref t]) (_:Tab H t ah ns rest) (_:Q (.int ((ns.length:Int) / 2)) H)
theorem wO(T:Tx K mg a):aV P w K mg base Ti 1 a.ac5 a.acq ["tables"] w5:=by
 refine T.adm.F.Tq wA λd A b s H e Q E g h=>?_;obtain⟨t,i,f,rest,rfl,c,q⟩:=h;exists _,(ao (aD (aB bG (aW aR (pv 0) ak) ak)));exact(5,t,_,4,Tj.of c.tup,nu _ _ _ c.few,4,(6,6),q)
inductive wI(C:Addr)(vs:List V)(H:Hp)(Q:VK)(E:XK):Prop
 | mk (t ah:Addr) (ns:List Int) (rest:List V) (node:Int) (_:vs=[.ref t,.int node]) (_:Tab H t ah ns rest) (_:((0<=node/\node<(ns.length:Int) / 2/\Q .non H)\/((node<0\/(ns.length:Int) / 2<=node)/\E (.ref C) none H)))
theorem wZ(T:Tx K mg a):aV P w K mg base (VN P w) 2 a.ac6 a.acr ["tables","node"] (wI a.Ud):=by
 refine T.adn.F.ok1 xm (λi H Q E h=>?_) (λm A f s H i Q E j h=>?_)
 ·obtain⟨t,g,e,rest,b,rfl,_⟩:=h;rfl
 obtain⟨t,g,e,rest,b,rfl,k,h⟩:=h;exists _,(ao (aX (PW.pt (nO (aG jW (pv 1) ak) (kj (aG By (pv 1) (aF T.adm (wO T) j (My 0 aj)))))) (ao (Kg T.afH rfl (au qt aj))) aK));refine(5,4,5,bD (λc=>?_) λc=>?_)
 ·have c:=of_decide_eq_true c;rcases h with ⟨l,_⟩|⟨_,q⟩
  ·lia
  ·exact jj ((by show 1<=sizeLine;decide),q)
 have c:¬b<0:=λz=>c (decide_eq_true z);refine(2,t,g,e,rest,7,k,4,5,bD (λd=>?_) λd=>?_)
 ·have d:=of_decide_eq_true d;rcases h with ⟨l,n,_⟩|⟨_,q⟩
  ·lia
  ·exact((by show 1<=sizeLine;decide),q)
 have d:¬(e.length:Int) / 2<=b:=λz=>d (decide_eq_true z);rcases h with ⟨_,_,q⟩|⟨z,_⟩
 ·exact q
 ·lia
structure Nd(H:Hp)(Ph:Addr)(p:BP)(ss ds:List Int):Prop where
 b:Ug H Ph p ss
 few:ss.length<=15999900
 eq:p.ns=brk ds 0
 good:gr ds
theorem Nd.sum{p:BP}{ds:List Int}(h:Nd H f p d ds):p.ns.sum=ds.length:=by
 rw[h.eq];exact Aj h.good
theorem Nd.len{p:BP}{ds:List Int}(h:Nd H f p d ds):p.ns.length=2*ds.length:=by
 rw[h.eq];exact nq h.good
theorem Nd.tree{p:BP}{ds:List Int}(h:Nd H f p d ds):Tree p.ns:=by
 rw[h.eq];exact uP h.good
theorem Nd.bits{H:Hp}{d:Addr}{p:BP}{c ds:List Int}(h:Nd H d p c ds):bc p.ns:=h.b.ask.bits
theorem Nd.deep{p:BP}{ds:List Int}(h:Nd H f p d ds){i x:Nat}(c:p.ns[x]?=some 1)(b:(p.ns.take x).sum=(i:Int)):ds[i]?=some (ht p.ns x):=by
 rw[h.eq]at c b ⊢;exact Km h.good c b
theorem Nd.at{p:BP}{ds:List Int}(h:Nd H f p d ds){j:Nat}(b:j<ds.length):∃x,p.ns[x]?=some 1/\(p.ns.take x).sum=(j:Int):=QB h.bits (by rw[h.sum];lia)
theorem Nd.nat{p:BP}{ds:List Int}(h:Nd H f p d ds)(k:Nat):∃i:Nat,(p.ns.take k).sum=(i:Int):=by
 have:=iQ h.bits 0 k (aaF _);rw[aif]at this;have e:([]:List Int).sum=0:=rfl;exact((p.ns.take k).sum.toNat,9)
theorem Nd.btw{p:BP}{ds:List Int}(h:Nd H f p d ds){k x i j:Nat}{g:Int}(u:k<=x)(v:(p.ns.take k).sum=(i:Int))(t:(p.ns.take x).sum=(j:Int))(b:∀q,k<=q->q<x->p.ns[q]?=some 1->g<ht p.ns q):∀m y,i<=m->m<j->ds[m]?=some y->g<y:=λm y s r l=>by
 have o:=(aab.mp l).1;obtain⟨q,c,n⟩:=h.at o;have e:=h.deep c n;rw[l]at e;rw[aao e];refine b q ?_ ?_ c
 ·rcases aaq q k with z|z
  ·have:=iQ h.bits (q+1) k z;rw[jh c]at this;lia
  ·exact z
 ·rcases aaq q x with z|z
  ·exact z
  ·have:=iQ h.bits x q z;lia
theorem Nd.beneath{p:BP}{ds:List Int}(h:Nd H f p d ds){x c j:Nat}(s:p.ns[x]?=some 1)(G:(p.ns.take x).sum=(j:Int))(b:Pair p.ns x c):((c:Int)-x) / 2=((run ds (j+1) (ht p.ns x):Nat):Int)/\(p.ns.take (c+1)).sum=((j+1+run ds (j+1) (ht p.ns x):Nat):Int):=by
 have E:=jh s;have D:=jh b.nought;have e:ht p.ns (c+1)=ht p.ns x:=b.eq;have F:=b.lt;have I:=b.X4;obtain⟨n,u⟩:=h.nat (c+1);have v:=iQ h.bits (x+1) (c+1) ⋯;have C:2*((n:Int))-((c+1:Nat):Int)=2*(j:Int)-(x:Int):=by
  have:ht p.ns (c+1)=2*(p.ns.take (c+1)).sum-((c+1:Nat):Int):=rfl;have:ht p.ns x=2*(p.ns.take x).sum-((x:Nat):Int):=rfl;lia
 have r:run ds (j+1) (ht p.ns x)=n-(j+1):=by
  refine Cp _ _ (λm v=>?_) (λy g=>?_)
  ·have A:j+1+m<ds.length:=by
    have:=iQ h.bits (c+1) p.ns.length ⋯;rw[agF,h.sum]at this;lia
   have g:=aad A;exact(_,g,h.btw (k:=x+1) (x:=c+1) (i:=j+1) (j:=n) ⋯ ⋯ u (λq l t _=>b.above q ⋯ ⋯) (j+1+m) _ ⋯ ⋯ g)
  ·obtain⟨q,l,t⟩:=h.at (aab.mp g).1;have o:=h.deep l t;rw[g]at o;have o:=aao o;have B:c+1<=q:=by
    rcases aaq q (c+1)with z|z
    ·have:=iQ h.bits (q+1) (c+1) z;rw[jh l]at this;lia
    ·exact z
   have:ht p.ns q=2*(p.ns.take q).sum-((q:Nat):Int):=rfl;have:ht p.ns x=2*(p.ns.take x).sum-((x:Nat):Int):=rfl;lia
 rw[r];lia
inductive BV(Ph:Addr)(C:Addr)(vs:List V)(H:Hp)(Q:VK)(E:XK):Prop
 | mk (p:BP) (ss ds:List Int) (node:Int) (_:vs=[.ref p.t,.ref p.L.f,.int node]) (_:Nd H Ph p ss ds) (_:((∃j:Nat,node=(j:Int)/\j<ds.length /\ ∀(x:Nat) ss' H',p.ns[x]?=some 1->(p.ns.take x).sum=(j:Int)->Did H H' Ph p.L 1 ss ss'->Q (.int (x:Int)) H')\/((node<0\/(ds.length:Int)<=node)/\E (.ref C) none H)))
theorem sU(T:Tx K mg a):aV P w K mg base (VN P w) 5 a.aeo a.adJ ["tables","look","node"] (BV a.TV a.Ud):=by
 refine T.Zr.F.ok1 Bx (λn H Q E h=>?_) (λB A e s H n Q E g h=>?_)
 ·obtain⟨p,f,u,c,rfl,_⟩:=h;rfl
 obtain⟨p,f,u,c,rfl,d,h⟩:=h;refine(_,(aa (bu (yt T.adn (wZ T) ∅ g Lg rfl (My 0 (My 2 aj))))
  (ao (aD (aF T.adV (yP T) g (My 0 (My 1 (My 2 aj))))))),3)
 have k:=d.sum;have l:=d.len;have z:=d.few;exists 2,p.t,p.ah,p.ns,_,c,7,d.b.ask.tab;rcases h with ⟨j,rfl,C,q⟩|⟨i,q⟩
 ·exact .inl (9,9,2,5,p.t,p.L,p.ah,p.ns,f,[.ref p.nd],(j:Int),7,d.b.ask,9,9,9,λy x v i r m o=>q x v y i r (d.b.look m o))
 ·exact .inr (9,q)
inductive Ei(Ph:Addr)(vs:List V)(H:Hp)(Q:VK)(_e1:XK):Prop
 | mk (p:BP) (ss:List Int) (at0:Nat) (_:vs=[.ref p.t,.ref p.L.f,.int (at0:Int)]) (_:Ug H Ph p ss) (_:ss.length<=15999960) (_:Tree p.ns) (_:((p.ns[at0]?=some 1 /\ ∀ss' H',Did H H' Ph p.L 2 ss ss'->Q (.int (p.ns.take at0).sum) H')\/(p.ns[at0]?=some 0 /\ ∀(k:Nat) ss' H',Eg p.ns at0 (ht p.ns at0-1) k->Did H H' Ph p.L 6 ss ss'->Q (.int (p.ns.take k).sum) H')))
theorem Dv(T:Tx K mg a)(B:Bs mg base a):aV P w K mg base Ti 9 a.aeY a.aen ["tables","look","at"] (Ei a.TV):=by
 refine T.ae6.F.Tq Du λS A u s H U Q E j h=>?_;obtain⟨p,v,b,rfl,d,W,G,h⟩:=h;refine(_,(aa (aX (aG cR (aF T.Wi (iy T) j (My 0 (My 1 (My 2 aj)))) ak) (ao (aD (aF T.WK (iD T) j (My 0 (My 1 (My 2 aj)))))) aK)
  (ao (aD (aF T.WK (iD T) j (My 0 (My 1 (au (aF T.ae4 (Ds T B) j (My 0 (My 1 (My 2 aj)))) aj))))))),3)
 rcases h with ⟨c,q⟩|⟨c,q⟩
 ·have r:=(aab.mp c).1;refine(2,5,p.t,p.L,p.ah,p.ns,v,[.ref p.nd],b,(1),7,d.ask,9,c,λo R e l=>?_);have f:=d.look e l;have M:=e.len;have g:=d.did f ⋯;refine(7,5,bD (λ_=>?_) λz=>absurd ∅ z);exact(2,5,p.t,p.L,p.ah,p.ns,o,[.ref p.nd],b,7,g.ask,9,9,λn y D J=>q n y (f.trans (g.look D J)))
 ·have r:=(aab.mp c).1;refine(2,5,p.t,p.L,p.ah,p.ns,v,[.ref p.nd],b,0,7,d.ask,9,c,λo R e l=>?_);have f:=d.look e l;have M:=e.len;have g:=d.did f ⋯;refine(7,5,bD (λz=>absurd z ∅) λ_=>?_);refine(2,2,5,p,o,b,7,g,9,G,c,λk n y x m=>?_);have V:=m.wr.len;have i:=g.did m ⋯;have:=x.1;exact(p.t,p.L,p.ah,p.ns,n,[.ref p.nd],k,7,i.ask,9,9,λN O C I=>q k N O x ((f.trans m).trans (i.look C I)))
inductive Ro(R:List Int->Nat->V->Prop)(k:Nat)(Ph:Addr)(C:Addr)(vs:List V)(H:Hp)(Q:VK)(E:XK):Prop
 | mk (p:BP) (ss ds:List Int) (node:Int) (_:vs=[.ref p.t,.ref p.L.f,.int node]) (_:Nd H Ph p ss ds) (_:((∃j:Nat,node=(j:Int)/\j<ds.length /\ ∀x ss' H',R ds j x->Did H H' Ph p.L k ss ss'->Q x H')\/((node<0\/(ds.length:Int)<=node)/\E (.ref C) none H)))
inductive Qm(ds:List Int)(j:Nat)(x:V):Prop
 | mk (d:_) (_:ds[j]?=some d) (_:((x=.int ((j:Int)+1)/\ds[j+1]?=some (d+1))\/(x=.non/\ds[j+1]? ≠ some (d+1))))
theorem Bb(T:Tx K mg a):aV P w K mg base (VN P w) 6 a.aep a.adK ["tables","look","node"] (Ro Qm 2 a.TV a.Ud):=by
 refine T.aex.F.ok1 sZ (λO H Q E h=>?_) (λZ A v s H O Q E B h=>?_)
 ·obtain⟨p,y,D,f,rfl,_⟩:=h;rfl
 obtain⟨p,y,D,f,rfl,c,h⟩:=h;refine(_,(aa (aA 3 sZ.nd (aB aZ (yt T.Zr (sU T) ∅ B Lg rfl (My 0 (My 1 (My 2 aj)))) ak))
  (aa (aX (aG cR (aF T.Wi (iy T) B (My 0 (My 1 (My 3 aj)))) ak) (ao (aD dM)) aK)
  (ao (aD (aB aZ (pv 2) ak))))),3)
 have Y:=c.few;exists 2,5,p,y,D,f,7,c;rcases h with ⟨j,rfl,V,q⟩|⟨u,e⟩
 rotate_left
 ·exact .inr (u,e)
 refine .inl (j,7,V,λx W H1 d o m=>?_);have l1:=m.wr.len;have J:=c.b.did m ⋯;have X8:=(aab.mp d).1;have n:=c.deep d o;have C:=kW d;have X:=BX c.good n;obtain⟨_,R,_⟩:=c.tree;have g:x+1<p.ns.length:=by
  rcases aaq (x+1) p.ns.length with z|z
  ·exact z
  ·have:x+1=p.ns.length:=by lia
   rw[this,R]at C;lia
 have s1:=jh d;exists 4,2,5;obtain⟨b,k⟩:∃b,p.ns[x+1]?=some b:=(_,aad g);refine(p.t,p.L,p.ah,p.ns,W,[.ref p.nd],x+1,b,7,J.ask,9,k,λI M N S=>(7,5,3));have G:=m.trans (J.look N S);rcases c.bits b (aah k)with rfl|rfl
 ·refine jj (q _ I M (_,n,.inr (7,λz=>?_)) G);obtain⟨r,l,U⟩:=c.at (aab.mp z).1;have e:=c.deep l U;rw[z]at e;have e:=aao e;have e1:ht p.ns r=2*(p.ns.take r).sum-((r:Nat):Int):=rfl;have e2:ht p.ns x=2*(p.ns.take x).sum-((x:Nat):Int):=rfl;have:r=x+1:=by lia
  subst this;rw[k]at l;cases l
 ·refine dN (5,4,q _ I M (_,n,.inl (7,3)) G);have:=c.deep (i:=j+1) k ⋯;rw[C,show ht p.ns x+2*1-1=ht p.ns x+1 from by lia]at this;exact this
inductive ZS(ds:List Int)(j:Nat)(x:V):Prop
 | mk (d:_) (_:ds[j]?=some d) (_:((x=.int ((j+1+run ds (j+1) d:Nat):Int)/\ds[j+1+run ds (j+1) d]?=some d)\/(x=.non/\ds[j+1+run ds (j+1) d]? ≠ some d)))
theorem wM(T:Tx K mg a)(B:Bs mg base a):aV P w K mg base (VN P w) 10 a.ac7 a.acs ["tables","look","node"] (Ro ZS 8 a.TV a.Ud):=by
 refine T.ado.F.ok1 nQ (λvs H Q E h=>?_) (λa1 A R s H vs Q E u h=>?_)
 ·obtain⟨p,S,v,k,rfl,_⟩:=h;rfl
 obtain⟨p,S,v,k,rfl,d,h⟩:=h;refine(_,(aa (aA 3 nQ.nd (aB aZ (aF T.ae3 (Dj T B) u (My 0 (My 1 (au (yt T.Zr (sU T) ∅ u Lg rfl (My 0 (My 1 (My 2 aj)))) aj)))) ak))
  (aa (aX (PW.pt (nO (aG cR (pv 3) (aW aR (pv 0) ak)) (kj (aG cR (aF T.Wi (iy T) u (My 0 (My 1 (My 3 aj)))) ak)))) (ao (aD dM)) aK)
  (ao (aD (aF T.ae6 (Dv T B) u (My 0 (My 1 (My 3 aj)))))))),3)
 have a0:=d.few;exists 2,2,5,p,S,v,k,7,d;rcases h with ⟨j,rfl,hj,q⟩|⟨N,e⟩
 rotate_left
 ·exact .inr (N,e)
 refine .inl (j,7,hj,λx T4 H1 g n I=>?_);have l1:=I.wr.len;have Z:=d.b.did I ⋯;have J:=d.deep g n;refine(p,T4,x,7,Z,9,d.tree,g,λc Y H2 hc G=>?_);have D:=zj d.bits g hc;have l2:=G.wr.len;have f:=Z.did G ⋯;have l:=I.trans G;obtain⟨_,C⟩:=d.beneath g n D;have W:=D.eq;have X4:=D.X4;have i:p.ns[c+1]? ≠ some 1->v[j+1+run v (j+1) (ht p.ns x)]? ≠ some (ht p.ns x):=λn1 z=>by
  obtain⟨r,U,r2⟩:=d.at (aab.mp z).1;have e:=d.deep U r2;rw[z]at e;have e:=aao e;have e1:ht p.ns r=2*(p.ns.take r).sum-((r:Nat):Int):=rfl;have e2:ht p.ns (c+1)=2*(p.ns.take (c+1)).sum-((c+1:Nat):Int):=rfl;have:r=c+1:=by lia
  subst this;exact n1 U
 exists 4,2,p.t,_,4,Tj.of f.ask.tab.tup,nu _ _ _ f.ask.tab.few,7,5;by_cases o:c+1=p.ns.length
 ·rw[decide_eq_true (show V.int ((c:Int)+1)=V.int (p.ns.length:Int)from congrArg V.int ⋯)];refine jj (jj (q _ Y H2 (_,J,.inr (7,i (by rw[o,agH (aac _)];exact nofun))) (l.le ∅)))
 rw[decide_eq_false (show ¬V.int ((c:Int)+1)=V.int (p.ns.length:Int)from λz=>o (by have:=V.int.inj z;lia))];obtain⟨b,m⟩:∃b,p.ns[c+1]?=some b:=(_,aad ⋯);refine dN (2,5,p.t,p.L,p.ah,p.ns,Y,[.ref p.nd],c+1,b,7,f.ask,9,m,λX H3 w3 s3=>(7,5,3));have y:=f.look w3 s3;have l3:=y.wr.len;have O:=f.did y ⋯;rcases d.bits b (aah m)with rfl|rfl
 ·exact jj (q _ X H3 (_,J,.inr (7,i (by rw[m];exact nofun))) ((l.trans y).le ∅))
 ·refine dN (2,5,p,X,c+1,7,O,9,d.tree,.inl (m,λM H4 d4=>q _ M H4 (_,J,.inl (by rw[C],3)) ((l.trans y).trans d4)));rw[<-W];rw[<-W]at C;exact d.deep m C
def ZV(b:List Int):Prop:=∀z∈b,-(10:Int)^60<z/\z<10^60
inductive vO(K:PySem.W.Frag)(vs:List V)(H:Hp)(Q:VK)(_e1:XK):Prop
 | mk (p:Addr) (ns:List Int) (_:vs=[.ref p]) (_:Tg K H p (ns.map V.int)) (_:ns.length<=4096) (_:ZV ns) (_:Q .non H)
theorem v6(T:Tx K mg a):aV P w K mg base Ti 1 a.acj a.abN ["signs"] (vO K):=by
 refine T.acE.F.Tq mW λt A j s H u Q E e h=>?_;obtain⟨p,l,rfl,f,y,r,q⟩:=h;refine(_,(aa (aX (aG jf (aL aO rfl T.Tz Tw.bh (My 0 aj)) (bF (v:=.int 4096) rfl T.afa (_,7))) (ao b7) aK)
  (ao (bI PassesOwn.never rfl (bU (pv 0)) (aU 1 mW.nd) (ao (aX (nU (uC jW jW (nR jK (aB K9 ak ak)) (pv 1) (aB K9 ak ak))) (ao b7) aK))))),3)
 refine(5,p,5,.inl f,4,5,bD (λc=>?_) λc=>?_)
 ·have c:(4096:Int)<((l.map V.int).length:Int):=of_decide_eq_true c;rw[aaa]at c;lia
 exists 5,p,7,(_,f);refine cz (xs:=l.map V.int) (λi b d=>(∃k,b=[some (.ref p),k])/\d=H) ((none,7),7) ?_ ?_ ?_
 ·rintro i b d _ ⟨_,rfl⟩;exact f
 ·rintro i x b d o ⟨⟨k,rfl⟩,rfl⟩;obtain⟨z,n,rfl⟩:=int_at o;have e:=r z (aah n);refine(4,(6,6,6),2,4,5,bD (λm=>?_) λm=>absurd (decide_eq_true e.1) m);refine(4,(6,6,6),4,5,bD (λg=>?_) λg=>((_,7),7));rw[decide_eq_true (show z<10^(60:Int).toNat from e.2)]at g;exact absurd g ∅
 ·rintro b d ⟨_,rfl⟩;exact q
def rks(c b:List Int):List Int:=b.map λz=>(c.idxOf z:Int)
inductive vA(K:PySem.W.Frag)(vs:List V)(H:Hp)(Q:VK)(_e1:XK):Prop
 | mk (q p:Addr) (ms ns:List Int) (_:vs=[.ref q,.ref p]) (_:Tg K H q (ms.map V.int)) (_:Tg K H p (ns.map V.int)) (_:ms.Nodup) (_:(∀z∈ns,z∈ms)) (_:ms.length<=4096) (_:ns.length<=4096) (_:∀r H',H r=none->aP H H'->H' r=some (.lst ((rks ms ns).map V.int))->Q (.ref r) H')
theorem uF(T:Tx K mg a):aV P w K mg base Ti 1 a.acl a.abO ["kinds","signs"] (vA K):=by
 refine T.acF.F.Tq eX λa0 A L s H vs Q E S h=>?_;obtain⟨R,p,u,ns,rfl,X,W,nd,J,hm,hn,q⟩:=h;refine(_,(aa (rE (i:=2) eX.nd rfl (ahs rfl) BZ)
  (aa (bI PassesOwn.never rfl (uy rfl T.Wj (My 0 aj)) (lr rfl (bL (aU 3 eX.nd) (bL (aU 4 eX.nd) ig))) (ao (GF (agG (ahj (by decide:1<=64) _) S.units) (pv 2) (pv 4) (pv 3) rfl)))
  (ao (aD (m5 rfl (cj.one (j:=2) rfl (agP rfl) rfl rfl (agP rfl)) (bU (pv 1)) (λ_ _ _ _=>eZ) (λ_ _ _ _=>(Ow (agG (ahj (by decide:1<=64) _) S.units) (pv 1) (pv 0) (λ_ _=>rfl)))))))),3)
 intro d hd;have N:=az hd (.dK []);exists 5,R,5,N.seq X;refine vJ (xs:=u.map V.int) (λi t r=>(∃G C,t=[some (.ref R),some (.ref p),some (.ref d),G,C])/\aP H r /\ ∃b:List (Key×V),r d=some (.dK b)/\b.length<=i /\ ∀(j:Nat) (z:Int),j<i->u[j]?=some z->ir b (Sum.inl z)=some (.int (j:Int))) ((none,none,7),N,[],aq,aac _,λj z U=>absurd U (agu _)) ?_ ?_ ?_
 ·rintro i t r _ ⟨_,c,_⟩;exact c.seq X
 ·rintro i x t r pt hx ⟨⟨G,C,rfl⟩,c,b,B,hl,v⟩ Wh;obtain⟨z,f,rfl⟩:=int_at hx;have I:=(aab.mp f).1;have M:=az Wh (.tup [.int (i:Int),.int z]);exists pt,5,Tj.of aq,7,_,5,4;exists 2,5,d,5,.inl (b,Sum.inl z,M _ _ B,7,by rw[sizeLine_eq];lia,7);refine((_,5),bT (c.trans M) hd _,_,aq,3,λj y U o=>?_)
  ·have:=Ah b (Sum.inl z) (.int (i:Int));lia
  ·rw[Cq];by_cases e:y=z
   ·subst e;rw[if_pos rfl];have:j=i:=by
     have n:=(aab.mp o).1;rw[aad n]at o;rw[aad I]at f;have e:=(aao o).trans (aao f).symm;have O:=ab2.mp nd;rcases ago j i with l|l|l
     ·exact absurd e (O j i n I l)
     ·exact l
     ·exact absurd e.symm (O i j I n l)
    rw[this]
   ·rw[if_neg (λz=>e (Sum.inl.inj z))];refine v j y ?_ o;rcases aaq j i with l|l
    ·exact l
    ·have:j=i:=by lia
     subst this;rw[f]at o;exact absurd (aao o).symm e
 ·rintro t r ⟨⟨G,C,rfl⟩,c,b,B,hl,v⟩;rw[aaa]at v;exists 5,p,7,(_,c.seq W);refine xZ (λz=>(u.idxOf z:Int)) (c.seq W) (by rw[sizeLine_eq];lia) (λ_ _ _ q=>q) (λz H2 Q f Z q=>(2,d,5,3,q)) λD Y=>?_
  ·have f:=J z f;have m:=ahH f;have e:=v (u.idxOf z) z m (by rw[aad m];exact congrArg some (aiv m));have g:=zq.k (k:=Sum.inl z) (Z _ _ B);rw[e]at g;exact g
  ·exact q D _ (c.free Y) (c.trans (az Y _)) aq
inductive uQ(vs:List V)(H:Hp)(Q:VK)(_e1:XK):Prop
 | mk (n:Nat) (_:vs=[.int (n:Int)]) (_:n<=100000) (_:∀h:Nat,il n (2^h)->Q (.int (h:Int)) H)
theorem Kl(h:Nat):Builtin.Int.intBits ((2^h:Nat):Int)=h+1:=by
 unfold Builtin.Int.intBits;have:0<2^h:=af8 h;rw[if_neg (by rw[beq_iff_eq];lia),Int.natAbs_natCast,Nat.log2_two_pow]
theorem u9(T:Tx K mg a):aV P w K mg base Ti 2 a.acn a.abP ["kind_count"] uQ:=by
 refine T.acG.F.Tq uV λj A b s H k Q E c h=>?_;obtain⟨n,rfl,d,q⟩:=h;exists _,(ao (aD (aB bA (Qy PySem.F.plainAttrs_int PySem.F.slot_int_bit_length PySem.F.type_int_bit_length wz (aF T.WD (iY T) c (My 0 aj))) ak)));refine(5,n,7,d,λS f=>?_);obtain⟨h,rfl,i,g⟩:=f;exists 7,5,7,4;have e:((Builtin.Int.intBits ((2^h:Nat):Int):Nat):Int)-1=(h:Int):=by
  rw[Kl];lia
 show Q (.int (((Builtin.Int.intBits ((2^h:Nat):Int):Nat):Int)-1)) H;rw[e];exact q h (h,7,i,g)
def UG(os:List Int)(k:Nat):List Int:=(os.filter λz=>bit z k=0)++os.filter λz=>bit z k=1
theorem ut(os:List Int)(k:Nat):(UG os k).length=os.length:=by
 unfold UG;rw[aaf]
 induction os with
 |nil=>rfl
 |cons z os b=>
  have:bit z k=0\/bit z k=1:=by
   unfold bit;lia
  rcases this with e|e
  ·simp only[agT,e,decide_true,if_true,aaM,show decide ((0:Int)=1)=false from rfl,adT,if_false];lia
  ·simp only[agT,e,decide_true,if_true,aaM,show decide ((1:Int)=0)=false from rfl,adT,if_false];lia
theorem Am(os:List Int)(f:Int->Int)(c:Int):((os.zip (os.map f)).filter λp=>decide (V.int p.2=V.int c)).map (λp=>p.1)=os.filter λz=>f z=c:=by
 induction os with
 |nil=>rfl
 |cons z os b=>
  rw[aaD,agW,agT,agT];by_cases e:f z=c
  ·rw[if_pos (decide_eq_true (by rw[e])),if_pos (decide_eq_true e),aaD,b]
  ·rw[if_neg (by simp[e]),if_neg (by simp[e]),b]
inductive Hv(K:PySem.W.Frag)(vs:List V)(H:Hp)(Q:VK)(_e1:XK):Prop
 |mk (p r:Addr) (os:List Int) (k:Nat) (_:vs=[.ref p,.ref r]) (_:Tg K H p (os.map V.int)) (_:Tg K H r ((os.map λz=>bit z k).map V.int)) (_:os.length<=4096) (_:∀l H',H l=none->aP H H'->H' l=some (.lst ((UG os k).map V.int))->Q (.ref l) H')
theorem HN(T:Tx K mg a):aV P w K mg base Ti 1 a.afs a.aeW ["order","bits"] (Hv K):=by
 refine T.afy.F.Tq qH λI A n s H J Q E L h=>?_;obtain⟨p,r,b,k,rfl,g,f,M,q⟩:=h;refine(_,(aa (pH (i:=2) qH.nd rfl rfl rfl (cj.zero,7,6) (DN rfl T.Zy Tw.Fy (My 0 (My 1 aj))) (λ_ _ _ _=>(GJ (aG cR (pv 1) ak))) (λ_ _ _ _=>(pv 0)))
  (aa (pH (i:=3) qH.nd rfl rfl rfl (cj.zero,7,6) (DN rfl T.Zy Tw.Fy (My 0 (My 1 aj))) (λ_ _ _ _=>(GJ (aG cR (pv 1) ak))) (λ_ _ _ _=>(pv 0)))
  (ao (aD (aB lX (pv 2) (pv 3)))))),3)
 exists 2,p,r,_,5,g,f;refine xu (os:=b) (bs:=b.map λz=>bit z k) (λ_ y=>decide (V.int y=V.int 0)) (λx _=>x) g f (by rw[aaa]) (by rw[sizeLine_eq];lia) (λx y m Q j q=>(5,7,5,q)) (λx y m Q j q=>(5,q)) λC O G c t=>?_;rw[Am]at t;exists 2,p,r,_,5,c.seq g,c.seq f;refine xu (os:=b) (bs:=b.map λz=>bit z k) (λ_ y=>decide (V.int y=V.int 1)) (λx _=>x) (c.seq g) (c.seq f) (by rw[aaa]) (by rw[sizeLine_eq];lia) (λx y m Q j q=>(5,7,5,q)) (λx y m Q j q=>(5,q)) λB N D v o=>?_;rw[Am]at o;have e:=ut b k;unfold UG at e;rw[aaf]at e;refine(2,C,B,4,v _ _ t,o,3,λl d=>?_)
 ·rw[aaa,aaa,sizeLine_eq];lia
 have u:=c.trans v;refine q l _ (u.free d) (u.trans (az d _)) ?_;rw[aq];unfold UG;rw[aal]
def TX:Nat->List Int->List (List Int)
 |0,_=>[]
 |k+1,b=>(b.map λz=>bit z k)::TX k (UG b k)
theorem jn:∀(k:Nat) (os:List Int),(TX k os).length=k
 |0,_=>rfl
 |k+1,os=>by
  unfold TX;rw[aaM,jn k]
theorem qg:∀(k:Nat) (os bs:List Int),bs∈TX k os->bc bs/\bs.length=os.length
 |0,_,_,h=>by cases h
 |k+1,os,bs,h=>by
  unfold TX at h;rcases aaO.mp h with rfl|h
  ·refine(λx b=>?_,aaa ..);obtain⟨z,_,rfl⟩:=aa3.mp b;unfold bit;lia
  ·obtain⟨d,c⟩:=qg k _ _ h;exact(d,c.trans (ut os k))
def tM(H:Hp)(c:List Addr)(d:List (List Int)):Prop:=c.length=d.length /\ ∀(i:Nat) (l:Addr) (b:List Int),c[i]?=some l->d[i]?=some b->H l=some (.lst (b.map V.int))
theorem tM.same{H':Hp}{b:List (List Int)}(h:tM H g b)(s:aP H H'):tM H' g b:=(h.1,λi l c e d=>s _ _ (h.2 i l c e d))
theorem tM.snoc{j:List (List Int)}{l:Addr}{xs:List Int}(h:tM H g j)(e:H l=some (.lst (xs.map V.int))):tM H (g++[l]) (j++[xs]):=by
 refine(by rw[aaf,aaf,h.1];rfl,λi k f b d=>?_);rcases aaq i g.length with c|c
 ·rw[aaz c]at b;rw[aaz (by rw[<-h.1];exact c)]at d;exact h.2 i k f b d
 ·rw[aas c]at b;rw[aas (by rw[<-h.1];exact c),<-h.1]at d;have:i-g.length=0:=by
   have:=(aab.mp b).1;simp at this;lia
  rw[this]at b d;cases b;cases d;exact e
theorem tM.upd{c:List (List Int)}{x:Addr}{o:HO}(h:tM H g c)(e:x∉g):tM (upd H x o) g c:=
 (h.1,λi l d b f=>by rw[aH (λz:l=x=>e (z ▸ aah b))];exact h.2 i l d b f)
def VF(K:PySem.W.Frag)(H:Hp)(r o:Addr)(xs:List V):Prop:=(Rd H o (.lst xs)/\o≠r) \/ ∀b,Tg K b o xs
theorem VF.of{r o:Addr}{xs:List V}(h:Tg K H o xs)(b:H r=none):VF K H r o xs:=by
 rcases h with h|h
 ·refine .inl (h,λz=>?_);subst z;unfold Rd at h;rcases h with h|⟨_,h⟩
  ·rw[b]at h;cases h
  ·rw[b]at h;cases h
 ·exact .inr λ_=>.inr h
theorem VF.sq{r o:Addr}{xs:List V}(h:VF K H r o xs):Tg K H o xs:=by
 rcases h with h|h
 ·exact .inl h.1
 ·exact h H
theorem VF.to{H':Hp}{r o:Addr}{xs:List V}(h:VF K H r o xs)(s:∀b u,b≠r->H b=some u->H' b=some u):VF K H' r o xs:=by
 rcases h with ⟨h,n⟩|h
 ·refine .inl (3,n);unfold Rd at h ⊢;rcases h with h|⟨c,h⟩
  ·exact .inl (s _ _ n h)
  ·exact .inr (c,s _ _ n h)
 ·exact .inr h
inductive xf(K:PySem.W.Frag)(vs:List V)(H:Hp)(Q:VK)(_e1:XK):Prop
 | mk (p:Addr) (os:List Int) (n:Nat) (_:vs=[.ref p,.int (n:Int)]) (_:Tg K H p (os.map V.int)) (_:os.length<=4096) (_:n<=4096) (_:∀(h:Nat) (r:Addr) (ls:List Addr) (H':Hp),il n (2^h)->h<=12->H r=none->aP H H'->H' r=some (.lst (ls.map V.ref))->tM H' ls (TX h os)->(∀l∈ls,H l=none)->Q (.ref r) H')
theorem RX{n :Nat}(g:n<=4096)(b:il n (2^i)):i<=12:=by
 obtain⟨f,e,j,d⟩:=b;have:i=f:=(Nat.pow_right_inj (a:=2) ∅).mp e;subst this;rcases aaq 12 i with c|c
 ·have:=d 12 c;lia
 ·exact c
theorem wk(T:Tx K mg a):aV P w K mg base Ti 3 a.ac3 a.aco ["ranks","kind_count"] (xf K):=by
 refine T.adl.F.Tq cU λa4 A a3 s H vs Q E hr h=>?_;obtain⟨p,t,n,rfl,hS,X,hn,q⟩:=h;refine(_,(aa (aA 2 cU.nd (cX aj))
  (aa (aA 3 cU.nd (pv 0))
  (aa (bI PassesOwn.never rfl (Cm rfl T.Wk (au (aB bA (aF T.acG (u9 T) hr (My 1 aj)) ak) (au (nR jK ak) (au (nR jK ak) aj)))) (nC (i:=4) cU.nd rfl (ahs rfl)) (aa (lq (i:=5) cU.nd rfl rfl rfl (cj.one (j:=4) rfl (agP rfl) rfl rfl (agP rfl)) (bU (pv 3)) (λ_ _ _ _=>eZ) (λ_ _ _ _=>(aF T.Yc (rH T) hr (My 0 (My 1 aj)))))
  (aa (bu (jg PySem.F.plainAttrs_list PySem.F.slot_list_append PySem.F.type_list_append b8 (pv 2) (My 5 aj)))
  (ao (aA 3 cU.nd (aF T.afy (HN T) hr (My 3 (My 5 aj))))))))
  (ao (aD (pv 2)))))),3)
 refine((by show 0<=sizeLine;decide),λr v=>(5,3));have s0:=az v (.lst []);refine(5,n,7,9,λh hz=>?_);have a2:=RX hn hz;refine(4,2,(h:Int)-1,-1,7,9,6,9,6,3);refine Ay (λi σ m=>∃(o:Addr) (c:List Int) (d:List Addr) (k4 k5:Option V) (C:List (List Int)),σ=[some (.ref p),some (.int (n:Int)),some (.ref r),some (.ref o),k4,k5]/\aP H m/\VF K m r o (c.map V.int)/\c.length=t.length/\m r=some (.lst (d.map V.ref))/\tM m d C/\C.length=i/\(∀l∈d,H l=none/\l≠r)/\TX h t=C++TX (h-i) c) ?_ ?_ ?_
 ·exact(p,t,[],none,none,[],7,s0,(VF.of hS v).to (λb u n e=>by rw[aH n];exact e),7,aq,(7,λi l xs e=>by cases e),7,(λl X=>nomatch X),7)
 ·rintro i σ m hi ⟨o,c,d,k4,k5,C,rfl,G,I,R,f,g,B,y,Y⟩;have ei:(h:Int)-1+(i:Int) * -1=((h-1-i:Nat):Int):=by lia
  rw[ei];obtain⟨k,hk⟩:∃k,h-i=k+1:=(h-i-1,9);have ek:h-1-i=k:=by lia
  rw[ek];exists 5,o,7,(_,I.sq);refine xZ (λz=>bit z k) I.sq (by rw[sizeLine_eq];lia) (λ_ _ _ q=>q) (λz H2 Q hz s2 q=>(2,z,(k:Int),7,9,q)) λb Z=>?_;have W:=az Z (.lst ((c.map λz=>bit z k).map V.int));have xb:upd m b (.lst ((c.map λz=>bit z k).map V.int)) b=some (.lst ((c.map λz=>bit z k).map V.int)):=aq;have a0:H b=none:=G.free Z;have N:b≠r:=λz=>by rw[z,f]at Z;cases Z
  replace I:=I.to λb u _ e=>W b u e
  replace f:=W _ _ f
  replace g:=g.same W
  replace G:=G.trans W
  generalize upd m b (.lst ((c.map λz=>bit z k).map V.int))=L at *;exists 5,.inl (7,_,Tg.of f),5,r,4,f,?_
  ·rw[aaa,g.1,B,sizeLine_eq];lia
  have s2:=bT G v (.lst (d.map V.ref++[.ref b]));have M:upd L r (.lst (d.map V.ref++[.ref b])) b=some (.lst ((c.map λz=>bit z k).map V.int)):=by rw[aH N];exact xb
  have a1:=(I.to (H':=upd L r (.lst (d.map V.ref++[.ref b]))) λb u n e=>by rw[aH n];exact e).sq;have U:tM (upd L r (.lst (d.map V.ref++[.ref b]))) (d++[b]) (C++[c.map λz=>bit z k]):=(g.upd λz=>(y r z).2 rfl).snoc M;have O:upd L r (.lst (d.map V.ref++[.ref b])) r=some (.lst ((d++[b]).map V.ref)):=by
   rw[aq,aal];rfl
  generalize upd L r (.lst (d.map V.ref++[.ref b]))=H2 at *;refine(2,o,b,c,k,7,a1,Tg.of M,9,λl H3 S D x3=>?_);exists l,UG c k,d++[b],8,C++[c.map λz=>bit z k],7,s2.trans D,.inl (.inl x3,3),(ut c k).trans R,D _ _ O,U.same D,3,λx J=>?_
  ·intro z;rw[z,O]at S;cases S
  ·rw[aaf,B];rfl
  ·rcases aba.mp J with J|J
   ·exact y x J
   ·rw[aat.mp J];exact(a0,N)
  ·rw[Y,hk,aaQ,show h-(i+1)=k from by lia];rfl
 ·rintro σ m ⟨o,c,d,k4,k5,C,rfl,G,I,R,f,g,B,y,Y⟩;have ei:((h:Int)-1 - -1).toNat=h:=by lia
  rw[ei]at B Y;have:TX h t=C:=by
   rw[Y,ag6];exact agY _
  rw[<-this]at g;exact(5,q h r d m hz a2 v G f g λl X=>(y l X).1)
theorem Q3(c:List Int)(z:Int):z∈met (λi=>c.getD i 0) c.length ↔ z∈c:=by
 rw[uA];constructor
 ·rintro⟨i,b,rfl⟩;rw[agn,aad b];exact acz b
 ·intro h;obtain⟨i,b,rfl⟩:=agg h;exact(i,b,by rw[agn,aad b];rfl)
structure Kinds(ns ms:List Int):Prop where
 up:ms.Pairwise (· < ·)
 mem:∀z,z∈ms ↔ z∈ns
theorem Kinds.nd(h:Kinds d M):M.Nodup:=h.up.imp λa=>Int.ne_of_lt a
theorem kinds_of{e:List Int}(f:e=met (λi=>d.getD i 0) d.length)(c:af9 M e)(g:M.Pairwise (· <= ·)):Kinds d M:=by
 have h:M.Nodup:=c.nodup_iff.mpr (by rw[f];exact m6 _ _);refine((g.and h).imp λ⟨a,b⟩=>by lia,λz=>?_);rw[c.mem_iff,f];exact Q3 d z
def tu(H:Hp)(c:List Addr)(d:List (List Int)):Prop:=c.length=d.length /\ ∀(i:Nat) (l:Addr) (b:List Int),c[i]?=some l->d[i]?=some b->H l=some (.tup (b.map V.int))
theorem tu.to{H':Hp}{c:List (List Int)}(h:tu H g c)(s:∀b xs,H b=some (.tup xs)->H' b=some (.tup xs)):tu H' g c:=(h.1,λi l xs e d=>s _ _ (h.2 i l xs e d))
theorem tu.snoc{j:List (List Int)}{l:Addr}{xs:List Int}(h:tu H g j)(e:H l=some (.tup (xs.map V.int))):tu H (g++[l]) (j++[xs]):=by
 refine(by rw[aaf,aaf,h.1];rfl,λi k f b d=>?_);rcases aaq i g.length with c|c
 ·rw[aaz c]at b;rw[aaz (by rw[<-h.1];exact c)]at d;exact h.2 i k f b d
 ·rw[aas c]at b;rw[aas (by rw[<-h.1];exact c),<-h.1]at d;have:i-g.length=0:=by
   have:=(aab.mp b).1;simp at this;lia
  rw[this]at b d;cases b;cases d;exact e
structure Kept(H:Hp)(r t b k c:Addr)(ns ms:List Int)(h:Nat)(ls:List Addr):Prop where
 r:H r=some (.tup [.ref t,.ref b])
 t:H t=some (.tup [.int (ns.length:Int),.ref k,.ref c])
 k:H k=some (.tup (ms.map V.int))
 c:H c=some (.tup (ls.map V.ref))
 ls:tu H ls ((TX h (rks ms ns)).map λbs=>T8 bs (many ns.length))
 b:H b=some (.lst ((((TX h (rks ms ns)).map bB).flatten).map V.int))
 kd:Kinds ns ms
 sz:il ms.length (2^h)
 h12:h<=12
inductive wH(K:PySem.W.Frag)(vs:List V)(H:Hp)(Q:VK)(_e1:XK):Prop
 | mk (p:Addr) (ns:List Int) (_:vs=[.ref p]) (_:Tg K H p (ns.map V.int)) (_:ns.length<=4000) (_:ZV ns) (_:∀(r t b k c:Addr) (ms:List Int) (h:Nat) (ls:List Addr) (H':Hp),H b=none->aP H H'->Kept H' r t b k c ns ms h ls->Q (.ref r) H')
theorem wX(T:Tx K mg a):aV P w K mg base Ti 6 a.ac2 a.ack ["signs"] (wH K):=by
 refine T.adk.F.Tq cT λd6 A d1 s H vs Q E hr h=>?_;obtain⟨p,d,rfl,hS,hl,hi,q⟩:=h;refine(_,(aa (bu (aF T.acE (v6 T) hr (My 0 aj)))
  (aa (aA 1 cT.nd (aL (zp rfl) rfl T.afA Tw.xT (au (cW (HD rfl) rfl T.Zx Tw.Ff (My 0 aj)) aj)))
  (aa (aA 2 cT.nd (cX aj))
  (aa (aA 3 cT.nd (cX aj))
  (aa (bI PassesOwn.never rfl (bU (aF T.adl (wk T) hr (au (aF T.acF (uF T) hr (My 1 (My 0 aj))) (au (aL aO rfl T.Tz Tw.bh (My 1 aj)) aj)))) (aU 4 cT.nd) (aa (aA 5 cT.nd (aF T.Yh (lL T) hr (My 4 aj)))
  (aa (bu (jg PySem.F.plainAttrs_list PySem.F.slot_list_append PySem.F.type_list_append b8 (pv 2) (au (aW aR (aW aR (pv 5) ak) ak) aj)))
  (ao (bu (jg PySem.F.plainAttrs_list PySem.F.slot_list_extend PySem.F.type_list_extend rO (pv 3) (au (aW aR (pv 5) ak) aj)))))))
  (ao (aD (iB (au (iB (au (aL aO rfl T.Tz Tw.bh (My 0 aj)) (au (cW gf rfl T.Yl Tw.qb (My 1 aj)) (au (cW gf rfl T.Yl Tw.qb (My 2 aj)) aj)))) (My 3 aj)))))))))),3)
 exists 5,p,d,7,hS,9,hi;have d2:(met (λi=>d.getD i 0) d.length).length<=d.length:=uw _ _;refine(5,p,d,7,hS,3,λl0 ks o0 a0 a1 ZW=>(l0,ks,7,by rw[aq,ZW],λy g a2 pm b2=>?_))
 ·have:scanBound=4096:=rfl;lia
 have sA:=(az a0 o0).trans (az a2 (.lst (g.map V.int)));have B:upd (upd H l0 o0) y (.lst (g.map V.int)) y=some (.lst (g.map V.int)):=aq;have d3:H y=none:=(az a0 _).free a2;have hK:=kinds_of a1 pm b2;have c1:∀z∈d,z∈g:=λz hz=>(hK.mem z).mpr hz;have lm:g.length<=4000:=by rw[pm.length_eq,a1];lia
 generalize upd (upd H l0 o0) y (.lst (g.map V.int))=H1 at *;refine((by show 0<=sizeLine;decide),λf X=>((by show 0<=sizeLine;decide),λm Vc=>?_));have sB:=(az X (.lst [])).trans (az Vc (.lst []));have ZX:f≠m:=aJ aq Vc;have U:upd (upd H1 f (.lst [])) m (.lst []) f=some (.lst []):=by rw[aH ZX];exact aq
 have S:upd (upd H1 f (.lst [])) m (.lst []) m=some (.lst []):=aq;have a7:H f=none:=sA.free X;have G:H m=none:=sA.free ((az X _).free Vc);have b6:y≠f:=aJ B X;have b5:y≠m:=aJ B ((az X _).free Vc)
 replace B:=sB _ _ B
 have sC:=sA.trans sB;generalize upd (upd H1 f (.lst [])) m (.lst [])=H2 at *;refine(2,y,p,g,d,7,Tg.of B,sC.seq hS,hK.nd,c1,9,9,λrk H3 d4 u x3=>?_);refine(5,y,5,.inl (Tg.of (u _ _ B)),rk,rks g d,g.length,3,Tg.of x3,(by unfold rks;rw[aaa];lia),9,λh T5 ls H4 hz d0 Yp Vq x4 L a3=>?_)
 ·rw[aaa];rfl
 have c5:∀l∈ls,l≠f/\l≠m:=λl hl=>((aJ (u _ _ U) (a3 l hl)).symm,(aJ (u _ _ S) (a3 l hl)).symm);have b4:T5≠f:=(aJ (u _ _ U) Yp).symm;have b3:T5≠m:=(aJ (u _ _ S) Yp).symm;have sD:=u.trans Vq
 replace B:=sD _ _ B
 replace U:=sD _ _ U
 replace S:=sD _ _ S
 have sE:=sC.trans sD;have d5:ls.length=h:=by rw[L.1,jn]
 exists T5,7,(_,Tg.of x4);refine cz (xs:=ls.map V.ref) (λi σ D=>(∃k4 k5,σ=[some (.ref p),some (.ref y),some (.ref f),some (.ref m),k4,k5])/\aP H D/\(∀b o,b≠f->b≠m->H4 b=some o->D b=some o) /\ ∃j:List Addr,D f=some (.lst (j.map V.ref))/\D m=some (.lst (((((TX h (rks g d)).take i).map bB).flatten).map V.int))/\tu D j (((TX h (rks g d)).take i).map λn=>T8 n (many d.length))/\((((TX h (rks g d)).take i).map bB).flatten).length<=128*i) ?_ ?_ ?_ ?_
 ·exact((none,none,7),sE,λb o _ _ e=>e,[],U,S,(7,λi l I e=>by cases e),aaF _)
 ·rintro i σ D _ ⟨_,_,R,_⟩;exact Tg.of (R _ _ b4 b3 x4)
 ·rintro i x σ D hx ⟨⟨k4,k5,rfl⟩,sm,R,j,ya,yb,hts,c2⟩;rw[aag]at hx;obtain⟨l,M,rfl⟩:=abA.mp hx;have c6:=(aab.mp M).1;obtain⟨n,N⟩:∃n,(TX h (rks g d))[i]?=some n:=(_,aad (by rw[<-L.1];exact c6));obtain⟨c8,a6⟩:=qg h _ n (aah N);have c3:(rks g d).length=d.length:=by unfold rks;exact aaa ..
  have c7:n.length=d.length:=a6.trans c3;have Yq:=c5 l (aah M);have yl:=R _ _ Yq.1 Yq.2 (L.2 i l n M N);have X8:j.length=i:=by
   rw[hts.1,aaa,aaL,jn];lia
  refine(5,l,n,7,Tg.of yl,9,c8,λr b t v C c9 W y1 Z y2=>?_);have Yr:=W _ _ ya;have a8:=W _ _ yb;have b9:b≠f:=(aJ ya c9).symm;exists 5,.inl (7,_,Tg.of Yr),5,r,_,4,Tj.of y1,7,t,_,4,Tj.of Z.tup,7,f,4,Yr,?_
  ·rw[aaa,X8,sizeLine_eq];lia
  have a4:r≠f:=λz=>by rw[z,Yr]at y1;cases y1
  have b1:upd C f (.lst (j.map V.ref++[.ref v])) r=some (.tup [.ref t,.ref b]):=by rw[aH a4];exact y1
  have b0:upd C f (.lst (j.map V.ref++[.ref v])) b=some (.lst ((bB n).map V.int)):=by rw[aH b9];exact y2
  have ZZ:upd C f (.lst (j.map V.ref++[.ref v])) m=some (.lst (((((TX h (rks g d)).take i).map bB).flatten).map V.int)):=by rw[aH (af3 ZX)];exact a8
  have a9:upd C f (.lst (j.map V.ref++[.ref v])) f=some (.lst ((j++[v]).map V.ref)):=by rw[aq,aal];rfl
  have s6:=bT (sm.trans W) a7 (.lst (j.map V.ref++[.ref v]));have c0:∀c o,c≠f->c≠m->H4 c=some o->upd C f (.lst (j.map V.ref++[.ref v])) c=some o:=λc o n1 n2 e=>by rw[aH n1];exact W _ _ (R c o n1 n2 e)
  have Y:∀c I,C c=some (.tup I)->upd C f (.lst (j.map V.ref++[.ref v])) c=some (.tup I):=λc I e=>by
   rw[aH λz=>?_]
   ·exact e
   ·rw[z,Yr]at e;cases e
  have a5:tu (upd C f (.lst (j.map V.ref++[.ref v]))) (j++[v]) ((((TX h (rks g d)).take i).map λn=>T8 n (many d.length))++[T8 n (many d.length)]):=by
   refine tu.snoc (hts.to λc I e=>Y _ _ (W _ _ e)) (Y _ _ ?_);have:=Z.Uy;rw[c7]at this;exact this
  have pl:(bB n).length<=128:=by rw[bC];unfold many;lia
  generalize upd C f (.lst (j.map V.ref++[.ref v]))=H6 at *;have Z0:(TX h (rks g d)).take (i+1)=(TX h (rks g d)).take i++[n]:=by rw[acC,N];rfl
  exists 5,.inl (7,_,Tg.of ZZ),5,r,_,4,Tj.of b1,7,m,b,4,ZZ,b0,?_
  ·rw[aaa,aaa,sizeLine_eq];lia
  exists (_,5),bT s6 G _,λc o n1 n2 e=>by rw[aH n2];exact c0 c o n1 n2 e,j++[v],by rw[aH ZX];exact a9,3,?_
  ·rw[aq,Z0,aal,aim,aal];simp
  ·rw[Z0,aal];refine a5.to λc I e=>?_;rw[aH λz=>?_]
   ·exact e
   ·rw[z,ZZ]at e;cases e
  ·rw[Z0,aal,aim,aaf];simp only[aaD,ahL,agh,List.flatten_nil,agY];lia
 ·rintro σ D ⟨⟨k4,k5,rfl⟩,sm,R,j,ya,yb,hts,c2⟩;have O:(TX h (rks g d)).take (ls.map V.ref).length=TX h (rks g d):=aak (by rw[aaa,jn];lia);rw[O]at yb hts;have yk:=R _ _ b6 b5 B;refine(5,p,5,.inl (sm.seq hS),5,y,5,.inl (Tg.of yk,λk hk=>?_));have s1:=az hk (.tup (g.map V.int));refine(5,f,5,.inl (Tg.of (s1 _ _ ya),λc hc=>?_));have s2:=az hc (.tup (j.map V.ref));have Vp:(d.map V.int).length=d.length:=aaa ..;rw[Vp];refine((by show 3<=sizeLine;decide),λt ht=>(5,(by show 2<=sizeLine;decide),λr c4=>?_));have s3:=az ht (.tup [.int (d.length:Int),.ref k,.ref c]);have s4:=az c4 (.tup [.ref t,.ref m]);have J:=s1.trans (s2.trans (s3.trans s4));exact q r t m k c g h j _ G (sm.trans J) (aq,s4 _ _ aq,s4 _ _ (s3 _ _ (s2 _ _ aq)),s4 _ _ (s3 _ _ aq),hts.to λb I e=>J _ _ e,J _ _ yb,hK,hz,d0)
def Uq(w:Str):Prop:=w.length<=40 /\ ∀c∈w.cps.toList,97<=c/\c<=122
abbrev letters:Str := "abcdefghijklmnopqrstuvwxyz"
theorem CK:∀k,k<26->(97+k)∈letters.cps.toList/\Builtin.Str.occurrences letters ⟨#[97+k]⟩ 0 letters.length 1=[k]:=by
 decide +kernel
theorem xG{c:Nat}(h:97<=c/\c<=122):c∈letters.cps.toList/\Builtin.Str.occurrences letters ⟨#[c]⟩ 0 letters.length 1=[c-97]:=by
 have:=CK (c-97) ⋯;rw[show 97+(c-97)=c by lia]at this;exact this
theorem FJ(d:N.Nodup):(met (λi=>N.getD i ⟨#[]⟩) N.length).length=N.length:=by
 have m:=uw (λi=>N.getD i ⟨#[]⟩) N.length;have k:N.length<=(met (λi=>N.getD i ⟨#[]⟩) N.length).length:=by
  have:∀{l U:List Str},l.Nodup->(∀z∈l,z∈U)->l.length<=U.length:=by
   intro l
   induction l with
   |nil=>intro U _ _;exact aaF _
   |cons a l j=>
    intro U d h;have g:=h a abB;have b:=ags.mp d;have q:=j (U:=U.erase a) b.2 λz c=>(List.mem_erase_of_ne λe:z=a=>b.1 (e ▸ c)).mpr (h z (aaR _ c));have e:=List.length_erase_of_mem g;have p:=List.length_pos_of_mem g;rw[aaM];lia
  refine this d λz c=>?_;obtain⟨i,f,e⟩:=agg c;refine(uA _ _ _).mpr (i,f,3);rw[agn,aad f];exact e
 lia
theorem Qw(b:List Str)(z:Str):z∈met (λi=>b.getD i ⟨#[]⟩) b.length ↔ z∈b:=by
 rw[uA];constructor
 ·rintro⟨i,c,rfl⟩;show b.getD i ⟨#[]⟩∈b;rw[agn,aad c];exact acz c
 ·intro d;obtain⟨i,c,e⟩:=agg d;exists i,c;show b.getD i ⟨#[]⟩=z;rw[agn,aad c];exact e
inductive uW(K:PySem.W.Frag)(vs:List V)(H:Hp)(Q:VK)(_e1:XK):Prop
 | mk (p:Addr) (ws:List Str) (_:vs=[.ref p]) (_:Tg K H p (ws.map V.str)) (_:(∀w∈ws,Uq w)) (_:ws.Nodup) (_:ws.length<=4000) (_:∀H',aP H H'->Q .non H')
theorem vB(T:Tx K mg a):aV P w K mg base Ti 1 a.acu a.abS ["words"] (uW K):=by
 refine T.acI.F.Tq iW λN A z s H O Q E R h=>?_;obtain⟨p,n,rfl,m,L,G,S,q⟩:=h;refine(_,(aa (bI PassesOwn.never rfl (bU (pv 0)) (aU 1 iW.nd) (aa (aX (aG jf (aL bz rfl T.Tz Tw.bh (My 1 aj)) (bF (v:=.int 40) rfl T.ad7 (_,7))) (ao b7) aK)
  (ao (bI PassesOwn.never rfl (Mt (pv 1)) (aU 2 iW.nd) (ao (aX (aG yQ (pv 2) (bF (v:=.str "abcdefghijklmnopqrstuvwxyz") rfl T.Zz (_,7)) (by with_unfolding_all rfl)) (ao b7) aK))))))
  (ao (aX (aG jW (aL tD rfl T.Tz Tw.bh (au (cW (rT rfl) rfl T.Zx Tw.Ff (My 0 aj)) aj)) (aL aO rfl T.Tz Tw.bh (My 0 aj))) (ao b7) aK))),3)
 exists 5,p,7,(_,m);refine cz (xs:=n.map V.str) (λi b f=>(∃r d,b=[some (.ref p),r,d])/\f=H) ((none,none,7),7) ?_ ?_ ?_
 ·rintro i b f _ ⟨_,rfl⟩;exact m
 ·rintro i x b f C ⟨⟨r,d,rfl⟩,rfl⟩;rw[aag]at C;obtain⟨e,M,rfl⟩:=abA.mp C;obtain⟨U,k⟩:=L e (aah M);refine(5,e,7,by rw[sizeLine_eq];lia,4,5,bD (λc=>?_) λ_=>?_)
  ·have c:(40:Int)<(e.length:Int):=of_decide_eq_true c;lia
  exists 5,e,7;refine Gx (x:=e) (λi b t=>(∃d,b=[some (.ref p),some (.str e),d])/\t=f) ((_,7),7) ?_ ?_
  ·rintro j c b t J ⟨⟨d,rfl⟩,rfl⟩;have y:=k c (by
    have:=Array.mem_of_getElem? J;simpa using this)
   exists 5,4,5;rw[PySem.StrLaws.found_one,decide_eq_true (xG y).1];exact dN ((_,7),7)
  ·rintro b t ⟨⟨d,rfl⟩,rfl⟩;exact((_,5),7)
 ·rintro b f ⟨⟨r,d,rfl⟩,rfl⟩;have D:=FJ G;refine(5,p,n,7,m,(by rw[D];show _+1<4096;lia),λl B o g u I=>?_);refine(l,B,7,by rw[aq,I],5,p,5,.inl (az g _ |>.seq m),4,5,bD (λc=>?_) λ_=>q _ (az g _));have c:(B.length:Int)<((n.map V.str).length:Int):=of_decide_eq_true c;rw[u,D,aaa]at c;lia
theorem Hr{lo:Int}{n:Nat}{d:L2.St}{tt:TT}(f:Nat->V)(o:n<sizeLine)
  (h:∀(z:Int) (H':Hp) (Q:Bool->Hp->Prop),Q true H'->tt (some (.int z)::d) H' Q)(l:∀(i:Nat) (H':Hp) (Q:VK),i<n->aP H H'->Q (f i) H'->ta (some (.int (lo+i))::d) H' Q)
  (q:∀b,H b=none->D b (upd H b (.lst ((ab5 n).map f)))):jG (Vt lo n) d tt ta D H:=by
 intro b j;exists λi m g k=>m=n-i/\i<=n/\g=(ab5 i).map f/\k=upd H b (.lst g),(5,aaF _,7,7);rintro i m g k ⟨rfl,p,rfl,rfl⟩;by_cases c:i<n
 ·refine .inr (c,λv r y=>?_);obtain⟨rfl,rfl⟩:=y;refine h _ _ _ ?_;rw[if_pos rfl];refine l i _ _ c (az j _) (aq,3,n-(i+1),9,7,c,3,3)
  ·rw[aaa,afE];lia
  ·rw[agd,aal];rfl
  ·rw[nF]
 ·have e:i=n:=by lia
  subst e;exact .inl (aac _,q b j)
theorem qw{K:PySem.W.Frag}{a:Addr}{xs:List V}{d:L2.St}{tt:TT}(g:V->V)(o:Tg K H a xs)(r:xs.length<sizeLine)
  (l:∀(x:V) (H':Hp) (Q:Bool->Hp->Prop),Q true H'->tt (some x::d) H' Q)(p:∀(x:V) (H':Hp) (Q:VK),x∈xs->aP H H'->Q (g x) H'->ta (some x::d) H' Q)
  (q:∀b,H b=none->D b (upd H b (.lst (xs.map g)))):jG (VJ K a) d tt ta D H:=by
 intro b j;exists λi m f n=>m=xs.length-i/\i<=xs.length/\f=(xs.take i).map g/\n=upd H b (.lst f),(5,aaF _,7,7);rintro i m f n ⟨rfl,s,rfl,rfl⟩;have k:=(az j (.lst ((xs.take i).map g))).seq o;by_cases c:i<xs.length
 ·have h:=aad c;refine .inr ((8,k,h),λv t y=>?_);obtain⟨rfl,y⟩:=y;have e:=y _ k;rw[h]at e;cases e;refine l _ _ _ ?_;rw[if_pos rfl];refine p _ _ _ (acz c) (az j _) (aq,3,xs.length-(i+1),9,7,c,3,3)
  ·rw[aaa,aaL];lia
  ·rw[aih,h,aal];rfl
  ·rw[nF]
 ·have e:i=xs.length:=by lia
  subst e;refine .inl ((_,k,aac _),3);have:=q b j;rw[aak (aac _)];exact this
def much:List Str->Nat
 |[]=>0
 |w::b=>w.length+much b
theorem Jf(b:List Str):∀i,much (b.take i)<=much b:=by
 induction b with
 |nil=>intro i;rw[ah0];exact aac _
 |cons w b c=>
  intro i;cases i with
  |zero=>exact aaF _
  |succ i=>
   have:=c i;show w.length+much (b.take i)<=w.length+much b;lia
theorem Hn(b:List Str)(w:Str):much (b++[w])=much b+w.length:=by
 induction b with
 |nil=>show w.length+0=0+w.length;lia
 |cons v b c=>
  show v.length+much (b++[w])=v.length+much b+w.length;lia
def fO(w:Str):List Str:=(ab5 w.length).map λi=>beg w (i+1)
theorem JX(f:List Str)(t:Str):(t=⟨#[]⟩ \/ ∃w∈f,t∈fO w) ↔ (t=⟨#[]⟩ \/ ∃w∈f,∃k:Nat,t=beg w k):=by
 constructor
 ·rintro(h|⟨b,e,ht⟩)
  ·exact .inl h
  ·unfold fO at ht;obtain⟨j,_,rfl⟩:=aa3.mp ht;exact .inr (b,e,j+1,7)
 ·rintro(h|⟨b,e,k,rfl⟩)
  ·exact .inl h
  ·rcases ad3 (min k b.length)with c|c
   ·refine .inl (iu ?_);rw[bY];rcases ad3 k with d|d
    ·rw[d];rfl
    ·have:b.cps.toList=[]:=ah1.mp (by rw[aae];show b.length=0;lia);rw[this];exact ah0
   ·refine .inr (b,e,3);unfold fO;refine aa3.mpr (min k b.length-1,agU.mpr ⋯,3);rw[show min k b.length-1+1=min k b.length by lia];refine iu ?_;rw[bY,bY];rcases aib k b.length with d|d
    ·rw[afb d]
    ·rw[agE d,aak (by rw[aae];exact aac _),aak (by rw[aae];exact d)]
theorem qQ:∀b:List Str,(b.flatMap fO).length=much b
 |[]=>rfl
 |w::b=>by
  rw[List.flatMap_cons,aaf,qQ b];show ((ab5 w.length).map _).length+much b=w.length+much b;rw[aaa,afE]
inductive qm(K:PySem.W.Frag)(vs:List V)(H:Hp)(Q:VK)(_e1:XK):Prop
 | mk (p:Addr) (ws:List Str) (_:vs=[.ref p]) (_:Tg K H p (ws.map V.str)) (_:(∀w∈ws,w.length<=40)) (_:much ws<=4000) (_:∀(r:Addr) (ts:List Str) (H':Hp),H r=none->aP H H'->H' r=some (.lst (ts.map V.str))->pI ws ts->ts.length<=much ws+1->Q (.ref r) H')
theorem qP(T:Tx K mg a):aV P w K mg base Ti 1 a.abi a.aaZ ["words"] (qm K):=by
 refine T.abo.F.Tq fW λa1 A z s H vs Q E hr h=>?_;obtain⟨p,c,rfl,J,Z1,hm,q⟩:=h;refine(_,(aa (aA 1 fW.nd (cX (au qt aj)))
  (aa (bI PassesOwn.never rfl (bU (pv 0)) (nC (i:=2) fW.nd rfl (ahs rfl)) (ao (bu (jg PySem.F.plainAttrs_list PySem.F.slot_list_extend PySem.F.type_list_extend rO (pv 1) (au (m5 rfl (cj.one (j:=2) rfl (agP rfl) rfl rfl (agP rfl)) (Ih rfl T.Wk (au ak (au (aB aZ (aL bz rfl T.Tz Tw.bh (My 2 aj)) ak) aj))) (λ_ _ _ _=>eZ) (λ_ _ _ _=>(bZ iI (pv 1) cO (cB (pv 0))))) aj)))))
  (ao (aD (aL (qe rfl) rfl T.afA Tw.xT (au (cW (rT rfl) rfl T.Zx Tw.Ff (My 1 aj)) aj)))))),3)
 refine((by show 1<=sizeLine;decide),λr l=>?_)
 have C:=az l (.lst [.str ""])
 exists 5,p,7,(_,C.seq J);refine cz (xs:=c.map V.str) (λi o g=>(∃y,o=[some (.ref p),some (.ref r),y])/\aP H g/\g r=some (.lst (((⟨#[]⟩:Str)::(c.take i).flatMap fO).map V.str))) ((none,7),C,aq) ?_ ?_ ?_
 ·rintro i o g _ ⟨_,e,_⟩;exact e.seq J
 ·rintro i x o g I ⟨⟨y,rfl⟩,e,f⟩;rw[aag]at I;obtain⟨b,L,rfl⟩:=abA.mp I;have hw:=Z1 b (aah L);have hts:((⟨#[]⟩:Str)::(c.take i).flatMap fO).length=1+much (c.take i):=by
   rw[aaM,qQ];lia
  have a0:=Jf c i;exists 5,.inl (7,_,Tg.of f),5,b,7,by rw[sizeLine_eq];lia,4,(1),5,(6,6,9,9);have Y:((b.length:Int)+1-1).toNat=b.length:=by lia
  show jG (Vt 1 ((b.length:Int)+1-1).toNat) _ _ _ _ _;rw[Y];refine Hr (λi=>.str (beg b (i+1))) (by rw[sizeLine_eq];lia) (λ_ _ _ q=>q) (λj H2 Q hj Ue R=>(2,5,b,7,by rw[sizeLine_eq];lia,3)) λD X=>?_
  ·rw[show (1:Int)+(j:Int)=((j+1:Nat):Int) by lia,nA];exact R
  have B:=az X (.lst ((ab5 b.length).map λi=>V.str (beg b (i+1))));have n:((ab5 b.length).map λi=>V.str (beg b (i+1)))=(fO b).map V.str:=by
   unfold fO;rw[agB];rfl
  have Vc:(fO b).length=b.length:=by
   unfold fO;rw[aaa,afE]
  refine(r,D,4,B _ _ f,aq,3,((_,7),bT (e.trans B) l _,3))
  ·rw[aaa,hts,n,aaa,Vc,sizeLine_eq];lia
  ·rw[aq,n,aih,L,List.flatMap_append,<-aal];simp
 ·rintro o g ⟨⟨y,rfl⟩,e,f⟩;rw[aaa,aak (aac _)]at f;have hts:((⟨#[]⟩:Str)::c.flatMap fO).length=1+much c:=by
   rw[aaM,qQ];lia
  have ZJ:=uw (λi=>((⟨#[]⟩:Str)::c.flatMap fO).getD i ⟨#[]⟩) ((⟨#[]⟩:Str)::c.flatMap fO).length;refine(5,r,5,Tg.of f,3,λU W G m d Z=>(U,W,7,by rw[aq,Z],λO u k v M=>?_))
  ·show _+1<4096;lia
  have S:u.Nodup:=v.nodup_iff.mpr (by rw[d];exact m6 _ _);have N:=(az m G).trans (az k (.lst (u.map V.str)));refine q O u _ (e.free (az m G |>.free k)) (e.trans N) aq (Gb M S,λt=>?_) ?_
  ·rw[v.mem_iff,d,Qw,aaO,List.mem_flatMap];exact JX c t
  ·rw[v.length_eq,d];lia
theorem xO(xs:List V)(i:Nat):fc xs (some (i:Int)) none=xs.drop i:=by
 unfold fc;rw[HT.mD,HT.lu];rcases aib i xs.length with c|c
 ·rw[afb c,aak (by rw[ab3];exact aac _)]
 ·rw[agE c,af5 (aac _),af5 c,ah0]
def lenV:V->V
 |.str t=>.int (t.length:Int)
 |v=>v
def fD(t:Str):Int:=((t.cps.toList.getLastD 97:Nat):Int)-97
def G8:V->V
 |.str t=>.int (fD t)
 |v=>v
def mC(b:List Str)(t:Str):Int:=if t∈b then 1 else 0
def MK(b:List Str):V->V
 |.str t=>.int (mC b t)
 |v=>v
theorem pI.low(h:pI N ps)(f:∀w∈N,Uq w){t:Str}(ht:t∈ps):Uq t:=by
 rcases(h.mem t).mp ht with e|⟨w,d,k,e⟩
 ·rw[e];exact(aaF _,λc b=>by cases b)
 ·obtain⟨i,g⟩:=f w d;refine(by rw[e,uq];lia,λc b=>g c ?_);rw[e,bY]at b;exact agK b
inductive Ag(K:PySem.W.Frag)(vs:List V)(H:Hp)(Q:VK)(_e1:XK):Prop
 |mk (p:Addr) (ws:List Str) (_:vs=[.ref p]) (_:Tg K H p (ws.map V.str)) (_:(∀w∈ws,Uq w)) (_:ws.Nodup) (_:ws.length<=3000) (_:much ws<=3000) (_:∀(r d l e:Addr) (ts:List Str) (H':Hp),aP H H'->H' r=some (.tup [.ref d,.ref l,.ref e])->H' d=some (.lst ((ts.map λt=>(t.length:Int)).map V.int))->H' l=some (.lst (((ts.drop 1).map fD).map V.int))->H' e=some (.lst ((ts.map (mC ws)).map V.int))->pI ws ts->ts.length<=much ws+1->Q (.ref r) H')
theorem Bq(T:Tx K mg a):aV P w K mg base Ti 2 a.aeq a.adL ["words"] (Ag K):=by
 refine T.aey.F.Tq dz λb5 A b2 s H vs Q E W h=>?_;obtain⟨p,m,rfl,Y,X,nd,hl,hm,q⟩:=h;refine(_,(aa (bu (aF T.acI (vB T) W (My 0 aj)))
  (aa (aA 1 dz.nd (aF T.abo (qP T) W (My 0 aj)))
  (aa (lq (i:=2) dz.nd rfl rfl rfl cj.zero (bU (pv 1)) (λ_ _ _ _=>eZ) (λ_ _ _ _=>(aL bz rfl T.Tz Tw.bh (My 0 aj))))
  (aa (lq (i:=3) dz.nd rfl rfl rfl cj.zero (bU (bZ p7 (pv 1) (cB ak) cO)) (λ_ _ _ _=>eZ) (λ_ _ _ _=>(show PE _ _ (tBM K "str" GK _ _)from (jg PySem.F.plainAttrs_str PySem.F.slot_str_index PySem.F.type_str_index Jy (bF (v:=.str "abcdefghijklmnopqrstuvwxyz") rfl T.Zz (_,7)) (au (aW DR (pv 0) (nR jK ak)) aj)))))
  (aa (rE (i:=4) dz.nd rfl (ahs rfl) BZ)
  (aa (bI PassesOwn.never rfl (bU (pv 0)) (aU 5 dz.nd) (ao (GF (agG (ahj (by decide:1<=64) _) W.units) (pv 4) (pv 5) rZ rfl)))
  (aa (lq (i:=6) dz.nd rfl rfl rfl (cj.one (j:=4) rfl (agP rfl) rfl rfl (agP rfl)) (bU (pv 1)) (λ_ _ _ _=>eZ) (λ_ _ _ _=>(Lh (fX (Q7 (agG (ahj (by decide:1<=64) _) W.units) (pv 0) (pv 1))) ak ak)))
  (ao (aD (iB (My 2 (My 3 (My 6 aj))))))))))))),3)
 refine(5,p,m,7,Y,X,nd,9,λH1 TF=>?_);refine(5,p,m,7,TF.seq Y,λw hw=>(X w hw).1,9,λS b Z b4 Ue o I a1=>?_);have s2:=TF.trans Ue;have M:(b.map V.str).length=b.length:=aaa ..;exists 5,S,7,(_,Tg.of o);refine qw lenV (Tg.of o) (by rw[sizeLine_eq,M];lia) (λ_ _ _ q=>q) (λx y Q D C n=>?_) λd hd=>?_
 ·obtain⟨t,ht,rfl⟩:=aa3.mp D;have:=(I.low X ht).1;exact(5,t,7,by rw[sizeLine_eq];lia,n)
 have t3:=az hd (.lst ((b.map V.str).map lenV));have G:upd Z d (.lst ((b.map V.str).map lenV)) d=some (.lst ((b.map λt=>(t.length:Int)).map V.int)):=by
  rw[aq,agB,agB];rfl
 replace o:=t3 _ _ o
 have s3:=s2.trans t3;generalize upd Z d (.lst ((b.map V.str).map lenV))=H3 at *;refine(2,S,5,Tg.of o,λc hc=>(c,7,(_,Tg.of aq),3));have t4:=az hc (.lst (fc (b.map V.str) (some 1) none));have xc:upd H3 c (.lst (fc (b.map V.str) (some 1) none)) c=some (.lst ((b.drop 1).map V.str)):=by
  rw[aq,show (1:Int)=((1:Nat):Int)from rfl,xO,ahW]
 replace o:=t4 _ _ o
 replace G:=t4 _ _ G
 have s4:=s3.trans t4;rw[show fc (b.map V.str) (some 1) none=(b.drop 1).map V.str by rw[show (1:Int)=((1:Nat):Int)from rfl,xO,ahW]]at *;generalize upd H3 c (.lst ((b.drop 1).map V.str))=H4 at *;refine qw G8 (Tg.of xc) (by rw[sizeLine_eq,aaa,ab3];lia) (λ_ _ _ q=>q) (λx y Q D C n=>?_) λl a6=>?_
 ·obtain⟨t,ht,rfl⟩:=aa3.mp D;have a0:=agy ht;obtain⟨b3,N⟩:=I.low X a0;have a3:t.cps.toList≠[]:=λe=>by
   obtain⟨i,hi,ei⟩:=agg ht;rw[agO]at ei;have a4:1+i<b.length:=by
    rw[ab3]at hi;lia
   have h0:=I.zero;obtain⟨b0,b1⟩:=aab.mp h0;have:=ab2.mp I.up 0 (1+i) b0 a4 ⋯;rw[b1,ei]at this;unfold U9 at this;rw[e]at this;exact absurd this (aic _)
  obtain⟨rr,u,WN⟩:∃rr u,t.cps.toList=rr++[u]:=(8,(agX a3).symm);have a5:=N u (by rw[WN];exact aay _ (agA _));have a9:T7 t.cps.toList (-1)=some u:=by
   rw[WN];exact mj rr u
  have a8:=(xG a5).2;have el:fD t=((u-97:Nat):Int):=by
   unfold fD;rw[WN,ahC];lia
  exists 7,2,t,-1,u,7,7,by rw[sizeLine_eq];lia,a9,letters,⟨#[u]⟩,u-97,[],7,7,a8;rw[<-el];exact n
 have t5:=az a6 (.lst (((b.drop 1).map V.str).map G8));have xl:upd H4 l (.lst (((b.drop 1).map V.str).map G8)) l=some (.lst (((b.drop 1).map fD).map V.int)):=by
  rw[aq,agB,agB];rfl
 replace o:=t5 _ _ o
 replace G:=t5 _ _ G
 have s5:=s4.trans t5;generalize upd H4 l (.lst (((b.drop 1).map V.str).map G8))=H5 at *;intro R L;have t6:=az L (.dK []);have s6:=s5.trans t6;exists 5,p,7,(_,s6.seq Y);refine cz (xs:=m.map V.str) (λi O y=>(∃k5,O=[some (.ref p),some (.ref S),some (.ref d),some (.ref l),some (.ref R),k5,none])/\aP H5 y /\ ∃f:List (Key×V),y R=some (.dK f)/\f.length<=i /\ ∀t:Str,(ir f (Sum.inr t)).isSome=decide (t∈m.take i)) ((none,7),t6,[],aq,aac _,λt=>rfl) ?_ ?_ ?_
 ·rintro i O y _ ⟨_,C,_⟩;exact(s5.trans C).seq Y
 ·rintro i x O y D ⟨⟨k5,rfl⟩,C,f,xw,a7,B⟩;rw[aag]at D;obtain⟨wd,Vx,rfl⟩:=abA.mp D;have hi:=(aab.mp Vx).1;exists 2,R,5,.inl (f,Sum.inr wd,xw,7,by rw[sizeLine_eq];lia,7);refine((_,7),bT C L _,_,aq,3,λt=>?_)
  ·have:=Ah f (Sum.inr wd) (.bl true);lia
  ·rw[Cq,aih,Vx];by_cases e:t=wd
   ·subst e;rw[if_pos rfl];exact(decide_eq_true (aay _ (agA _))).symm
   ·rw[if_neg (λz=>e (Sum.inr.inj z)),B t];refine decide_eq_decide.mpr (λz=>agl _ z,λz=>?_);rcases aba.mp z with z|z
    ·exact z
    ·exact absurd (aat.mp z) e
 ·rintro O y ⟨⟨k5,rfl⟩,C,f,xw,a7,B⟩;rw[aaa,aak (aac _)]at B;have J:=C _ _ o;exists 5,S,7,(_,Tg.of J);refine qw (MK m) (Tg.of J) (by rw[sizeLine_eq,M];lia) (λ_ _ _ q=>q) (λx Z Q D Ue n=>?_) λe he=>?_
  ·obtain⟨t,ht,rfl⟩:=aa3.mp D;have g:=zq.k (k:=Sum.inr t) (Ue _ _ xw);exists 2,R,5,g,5;rw[B t];have n:Q (.int (mC m t)) Z:=n;unfold mC at n;by_cases c:t∈m
   ·rw[decide_eq_true c];rw[if_pos c]at n;exact jj n
   ·rw[decide_eq_false c];rw[if_neg c]at n;exact dN n
  have t7:=az he (.lst ((b.map V.str).map (MK m)));have xe:upd y e (.lst ((b.map V.str).map (MK m))) e=some (.lst ((b.map (mC m)).map V.int)):=by
   rw[aq,agB,agB];rfl
  have s7:=C.trans t7;generalize upd y e (.lst ((b.map V.str).map (MK m)))=H7 at *;refine(2,5,(by show 3<=sizeLine;decide),λr a2=>?_);have U:=az a2 (.tup [.ref d,.ref l,.ref e]);exact q r d l e b _ ((s5.trans s7).trans U) aq (U _ _ (s7 _ _ G)) (U _ _ (s7 _ _ xl)) (U _ _ xe) I a1
structure Store(H:Hp)(r t bl:Addr)(ws ts:List Str):Prop where
 r:H r=some (.tup [.ref t,.ref bl])
 ex:∃(t1 t2 t3 ah nd b1 r2 b2 k2 c2 VG b3:Addr) (lows:List Int) (S:Nat) (xs:List V) (ms:List Int) (h:Nat) (ls:List Addr),
  H t=some (.tup [.ref t1,.ref t2,.ref t3])/\KB H t1 ah nd b1 (brk (ts.map λt=>(t.length:Int)) 0) lows S xs/\Kept H r2 t2 b2 k2 c2 ((ts.drop 1).map fD) ms h ls/\Tab H t3 VG (ts.map (mC ws)) [] /\
  H bl=some (.lst (((bB (brk (ts.map λt=>(t.length:Int)) 0))++((TX h (rks ms ((ts.drop 1).map fD))).map bB).flatten++bB (ts.map (mC ws))).map V.int))
 begs:pI ws ts
theorem Jk{t:Str}(h:Uq t):0<=fD t/\fD t<=25:=by
 unfold fD;cases e:t.cps.toList with
 |nil=>decide
 |cons a r=>
  have c:t.cps.toList≠[]:=λz=>by rw[e]at z;cases z
  obtain⟨d,b,f⟩:∃d b,t.cps.toList=d++[b]:=(8,(agX c).symm);have g:=h.2 b (by rw[f];exact aay _ (agA _));rw[<-e,f,ahC];lia
theorem xX(c d:List Str):bc (d.map (mC c)):=λb e=>by
 obtain⟨t,_,rfl⟩:=aa3.mp e;unfold mC;split
 ·exact .inr rfl
 ·exact .inl rfl
theorem rQ{n:Nat}:∀{L:List (List Int)},(∀x∈L,x.length=n)->((L.map bB).flatten).length=L.length*many n
 |[],_=>by simp
 |x::L,h=>by
  rw[aaD,agh,aaf,rQ λy b=>h y (aaR _ b),bC,h x abB,aaM,ag0];lia
theorem Kept.size{r t b k c:Addr}(x:Kept H r t b k c d M n g)(j:d.length<=4000):((((TX n (rks M d)).map bB).flatten).map V.int).length<=1600:=by
 rw[aaa,rQ (n:=d.length) λl i=>by
  rw[(Tw.qg _ _ _ i).2];unfold rks;exact aaa ..,jn]
 have e:=x.h12;have f:many d.length<=126:=by
  unfold many;lia
 exact afJ (aiW e f) ∅
inductive wQ(K:PySem.W.Frag)(vs:List V)(H:Hp)(Q:VK)(_e1:XK):Prop
 | mk (p:Addr) (ws:List Str) (_:vs=[.ref p]) (_:Tg K H p (ws.map V.str)) (_:(∀w∈ws,Uq w)) (_:ws.Nodup) (_:ws.length<=2000) (_:much ws<=2000) (_:∀r t bl ts H',aP H H'->Store H' r t bl ws ts->ts.length<=much ws+1->Q (.ref r) H')
theorem wV(T:Tx K mg a):aV P w K mg base Ti 8 a.ac8 a.acv ["words"] (wQ K):=by
 refine T.adp.F.Tq dW λb6 A a6 s H vs Q E U h=>?_;obtain⟨p,N,rfl,hS,hW,nd,hl,hm,q⟩:=h;refine(_,(aa (aA 1 dW.nd (aF T.aey (Bq T) U (My 0 aj)))
  (aa (aA 2 dW.nd (aF T.adY (zU T) U (au (aW aR (pv 1) ak) aj)))
  (aa (aA 3 dW.nd (aF T.adk (wX T) U (au (aW aR (pv 1) ak) aj)))
  (aa (aA 4 dW.nd (aF T.Yh (lL T) U (au (aW aR (pv 1) ak) aj)))
  (ao (aD (iB (au (iB (au (aW aR (pv 2) ak) (au (aW aR (pv 3) ak) (au (aW aR (pv 4) ak) aj)))) (au (aB lX (aB lX (aW aR (pv 2) ak) (aW aR (pv 3) ak)) (aW aR (pv 4) ak)) aj))))))))),3)
 refine(5,p,N,7,hS,hW,nd,9,9,λpr d l e f H1 TF X xd xl xe hB a2=>?_);have Xo:=hB.good;have I:(f.map λt=>(t.length:Int)).length=f.length:=aaa ..;refine(5,pr,_,4,Tj.of X,7,d,5,xd,by rw[I];lia,Xo,λr1 t1 ah G b1 n S M H2 b5 W a0 x=>?_);have Yq:((f.drop 1).map fD).length=f.length-1:=by rw[aaa,ab3]
 have L:ZV ((f.drop 1).map fD):=λz hz=>by
  obtain⟨t,ht,rfl⟩:=aa3.mp hz;have:=Jk (hB.low hW (agy ht));lia
 have VV:=nq Xo;rw[I]at VV;refine(5,pr,_,4,Tj.of (W _ _ X),7,l,(f.drop 1).map fD,7,Tg.of (W _ _ xl),9,L,λO Z b2 k2 c2 R h ls H3 b4 D j=>?_);have s3:=W.trans D;refine(5,pr,_,4,Tj.of (s3 _ _ X),7,e,f.map (mC N),7,Tg.of (s3 _ _ xe),by rw[aaa];lia,xX _ _,λr3 b3 t3 VG H4 b0 v B J ZK=>?_);have y:=D.trans v;have u:KB H4 t1 ah G b1 (brk (f.map λt=>(t.length:Int)) 0) n S M:=(x.tab.same y,y _ _ x.VD,y _ _ x.ZG,x.low,x.sz,x.heap);have m:=y _ _ a0;have g:Kept H4 O Z b2 k2 c2 ((f.drop 1).map fD) R h ls:=(v _ _ j.r,v _ _ j.t,v _ _ j.k,v _ _ j.c,j.ls.to λb M e=>v _ _ e,v _ _ j.b,j.kd,j.sz,j.h12);refine(5,r1,_,4,Tj.of m,7,5,O,_,4,Tj.of g.r,7,5,r3,_,4,Tj.of B,7,(by show 3<=sizeLine;decide),λtt a1=>?_);have o:=az a1 (.tup [.ref t1,.ref Z,.ref t3]);have a7:=j.size (by rw[Yq];lia);have a9:((bB (brk (f.map λt=>(t.length:Int)) 0)).map V.int).length<=200:=by
  rw[aaa,bC,VV];unfold many;lia
 have a8:((bB (f.map (mC N))).map V.int).length<=200:=by
  rw[aaa,bC,aaa];unfold many;lia
 refine(5,r1,_,4,Tj.of (o _ _ m),7,5,O,_,4,Tj.of (o _ _ g.r),7,b1,b2,4,o _ _ u.ZG,o _ _ g.b,by rw[sizeLine_eq];lia,λc1 a5=>?_);have Y:=az a5 (.lst ((bB (brk (f.map λt=>(t.length:Int)) 0)).map V.int++(((TX h (rks R ((f.drop 1).map fD))).map bB).flatten).map V.int));refine(5,r3,_,4,Tj.of (Y _ _ (o _ _ B)),7,c1,b3,4,aq,Y _ _ (o _ _ ZK),by rw[aaf,sizeLine_eq];lia,λc3 a4=>?_);have u3:=az a4 (.lst ((bB (brk (f.map λt=>(t.length:Int)) 0)).map V.int++(((TX h (rks R ((f.drop 1).map fD))).map bB).flatten).map V.int++(bB (f.map (mC N))).map V.int));refine((by show 2<=sizeLine;decide),λrr a3=>?_);have u4:=az a3 (.tup [.ref tt,.ref c3]);have C:=Y.trans (u3.trans u4);have i:=o.trans C;refine q rr tt c3 f _ (((TF.trans W).trans y).trans i) (aq,(t1,Z,t3,ah,G,b1,O,b2,k2,c2,VG,b3,n,S,M,R,h,ls,C _ _ aq,(u.tab.same i,i _ _ u.VD,i _ _ u.ZG,u.low,u.sz,u.heap),(i _ _ g.r,i _ _ g.t,i _ _ g.k,i _ _ g.c,g.ls.to λb M e=>i _ _ e,i _ _ g.b,g.kd,g.sz,g.h12),J.same i,3),hB) a2;rw[u4 _ _ aq,aal,aal]
abbrev UJ(n k:Nat)(d c b:List Int):Prop:=bQ n k c b
theorem UJ.none{n k:Nat}(U b:List Int):UJ n k U b b:=bQ.none b
theorem UJ.le{n j k:Nat}{U V a b:List Int}(h:UJ n j U a b)(c:j<=k)(_:∀x∈U,x∈V):UJ n k V a b:=bQ.le h c
theorem UJ.len{n k:Nat}{U a b:List Int}(h:UJ n k U a b):b.length<=a.length+k:=bQ.len h
theorem UJ.trans{n j k:Nat}{U V a b c:List Int}(h:UJ n j U a b)(h':UJ n k V b c):UJ n (j+k) (U++V) a c:=bQ.trans h h'
structure SG where
 t:Addr
 k:Addr
 c:Addr
 bl:Addr
 sn:Addr
 g:Addr
 ls:List Addr
 ns:List Int
 ms:List Int
 h:Nat
 off:Nat
 al:List V
def SG.lv(p:SG):List (List Int):=TX p.h (rks p.ms p.ns)
abbrev SG.all(p:SG):List V:=p.al
theorem SG.lv_len(p:SG):p.lv.length=p.h:=jn _ _
theorem SG.lv_mem(p:SG){bs:List Int}(h:bs∈p.lv):bc bs/\bs.length=p.ns.length:=by
 obtain⟨c,b⟩:=Tw.qg _ _ _ h;refine(c,b.trans ?_);unfold rks;exact aaa ..
theorem G3{m:Nat}:∀{L:List (List Int)} {i:Nat}{bs:List Int},(∀x∈L,(bB x).length=m)->L[i]?=some bs->(((L.map bB).flatten).drop (i*m)).take m=bB bs
 |[],i,bs,_,h=>by cases h
 |x::L,0,bs,b,h=>by
  cases h;rw[ahM,ahb,aaD,agh,ahA (by rw[b x abB];exact aac _),aak (by rw[b x abB];exact aac _)]
 |x::L,i+1,bs,b,h=>by
  have c:=b x abB;rw[aaD,agh,List.drop_append,af5 (by rw[c,ag0];lia),ahm,c,show (i+1)*m-m=i*m by rw[ag0];lia];exact G3 (λy d=>b y (aaR _ d)) h
theorem SG.all_at(p:SG){i n:Nat}{bs:List Int}(f:∀j x,((p.lv.map bB).flatten)[j]?=some x->p.al[p.off+j]?=some (.int x))(h:p.lv[i]?=some bs)(b:n<many p.ns.length):p.all[p.off+i*many p.ns.length+n]?=some (.int (cD bs n)):=by
 have d:=(p.lv_mem (aah h)).2;have e:=G3 (m:=many p.ns.length) (λx c=>by rw[bC,(p.lv_mem c).2]) h;rw[Nat.add_assoc];refine f _ _ ?_;rw[<-agw,<-af6 b,e,jT (by rw[d];exact b)]
structure SQ(H:Hp)(Ph:Addr)(p:SG)(ss:List Int):Prop where
 t:H p.t=some (.tup [.int (p.ns.length:Int),.ref p.k,.ref p.c])
 k:H p.k=some (.tup (p.ms.map V.int))
 c:H p.c=some (.tup (p.ls.map V.ref))
 ls:tu H p.ls (p.lv.map λbs=>T8 bs (many p.ns.length))
 b:H p.bl=some (.lst p.all)
 at0:∀j x,((p.lv.map bB).flatten)[j]?=some x->p.al[p.off+j]?=some (.int x)
 kd:Kinds p.ns p.ms
 sz:il p.ms.length (2^p.h)
 h12:p.h<=12
 len:p.ns.length<=4000
 sn:H p.sn=some (.lst (ss.map V.int))
 ne:p.sn≠p.bl
 few:ss.length<=15900000
 clo:Uw H (p.g,some p.sn,p.bl,p.off,p.al)
 tab:TabAt H Ph (bW bw) aM.qual
structure ie(H H':Hp)(Ph:Addr)(p:SG)(k:Nat)(U ss ss':List Int):Prop where
 kp:∀b o,H b=some o->b≠Ph->b≠p.sn->H' b=some o
 seen:H' p.sn=some (.lst (ss'.map V.int))
 tab:TabAt H' Ph (bW bw) aM.qual
 wr:UJ p.all.length k U ss ss'
theorem ie.trans{H l i:Hp}{d:Addr}{p:SG}{j k:Nat}{U V a b c:List Int}(h:ie H l d p j U a b)(h':ie l i d p k V b c):ie H i d p (j+k) (U++V) a c:=
 (λx o e g f=>h'.kp x o (h.kp x o e g f) g f,h'.seen,h'.tab,h.wr.trans h'.wr)
theorem ie.le{H d:Hp}{c:Addr}{p:SG}{j k:Nat}{U V a b:List Int}(h:ie H d c p j U a b)(f:j<=k)(e:∀x∈U,x∈V):ie H d c p k V a b:=(h.kp,h.seen,h.tab,h.wr.le f e)
theorem ie.same{H f d:Hp}{c:Addr}{p:SG}{j:Nat}{U a b:List Int}(h:ie H f c p j U a b)(s:aP f d):ie H d c p j U a b:=
 (λx o e i g=>s _ _ (h.kp x o e i g),s _ _ h.seen,TabAt.same h.tab s,h.wr)
theorem ie.set{X:Hp}{r:Addr}{p:SG}{k:Nat}{U :List Int}{g:List V}(c:ie H X f p k U d M)(n:H r=none)(m:X r=some (.lst l))(h:r≠p.sn):ie H (L2.upd X r (.lst g)) f p k U d M:=
 (λb o e j i=>by rw[aH (aJ e n)];exact c.kp b o e j i,by rw[aH h.symm];exact c.seen,TabAt.upd c.tab m,c.wr)
theorem SQ.self{p:SG}(h:SQ H f p d):ie H H f p 0 [] d d:=(λ_ _ e _ _=>e,h.sn,h.tab,UJ.none _ d)
def Kp(H H':Hp):Prop:=∀b o,H b=some o->(∀c,o ≠ .Tv c)->(∀c,o ≠ .lst c)->H' b=some o
theorem SQ.kp{H H':Hp}{g:Addr}{p:SG}{k:Nat}{U f c:List Int}(h:SQ H g p f)(d:ie H H' g p k U f c):Kp H H':=λb o e j i=>d.kp b o e (TabAt.ne h.tab e j) λz=>by
 rw[z,h.sn]at e;cases e;exact i _ rfl
theorem SQ.did{H':Hp}{p:SG}{k:Nat}{U :List Int}(h:SQ H f p d)(g:ie H H' f p k U d M)(j:M.length<=15900000):SQ H' f p M:=by
 have i:=h.kp g;refine(i _ _ h.t nofun nofun,i _ _ h.k nofun nofun,i _ _ h.c nofun nofun,h.ls.to λb l e=>i _ _ e nofun nofun,g.kp _ _ h.b (TabAt.ne h.tab h.b nofun) h.ne.symm,h.at0,h.kd,h.sz,h.h12,h.len,g.seen,h.ne,j,Uw.keeps _ _ _ h.clo λb o e=>i _ _ e nofun nofun,g.tab)
theorem SQ.same{H H':Hp}{c:Addr}{p:SG}{b:List Int}(h:SQ H c p b)(s:aP H H'):SQ H' c p b:=h.did (h.self.same s) h.few
inductive Lv(H:Hp)(p:SG)(i:Nat)(l:Addr):Prop
 | mk (T5 ah f:Addr) (bs:List Int) (_:p.lv[i]?=some bs) (_:H l=some (.tup [.ref T5,.ref f])) (_:H T5=some (.tup [.int (p.ns.length:Int),.ref ah])) (_:H ah=some (.tup ((T8 bs (many p.ns.length)).map V.int))) (_:gU H (f,some p.sn,p.bl,p.off+i*many p.ns.length,p.all))
theorem Lv.kept{H H':Hp}{p:SG}{i:Nat}{l:Addr}(h:Lv H p i l)(s:Kp H H'):Lv H' p i l:=by
 obtain⟨m,k,f,j,g,e,d,c,b⟩:=h;exact(m,k,f,j,g,s _ _ e nofun nofun,s _ _ d nofun nofun,s _ _ c nofun nofun,b.kept s)
theorem Kp.of{H':Hp}(s:aP H H'):Kp H H':=λb o e _ _=>s _ _ e
theorem Lv.ask{p:SG}{i:Nat}{l:Addr}(x:SQ H C p d)(h:Lv H p i l):∃(c k f:Addr) (bs:List Int),p.lv[i]?=some bs/\H l=some (.tup [.ref c,.ref f])/\Ask H c (f,some p.sn,p.bl,p.off+i*many p.ns.length,p.all) k bs d []:=by
 obtain⟨c,k,f,bs,j,t,s,r,q⟩:=h;obtain⟨o,g⟩:=p.lv_mem (aah j);refine(c,k,f,bs,j,t,(by rw[g];exact s,by rw[g];exact r,6),(q,λsn e=>?_,x.b,3),o,3,λn m=>p.all_at x.at0 j (by rw[<-g];exact m))
 ·cases e;exact(x.sn,x.ne)
 ·have:=x.few;lia
 ·have:=x.len;lia
theorem SQ.look{H':Hp}{p:SG}{U:List Int}{k:Nat}{L:LK}(h:SQ H f p d)(c:L.wr=some p.sn)(g:L.all=p.all)(w:UJ L.all.length k U d M)(s:aP (L.put H M) H'):ie H H' f p k U d M:=by
 rw[LK.put_some c]at s;rw[g]at w;exact(λx o e i b=>s _ _ (by rw[aH b];exact e),s _ _ aq,TabAt.same (TabAt.upd h.tab h.sn) s,w)
inductive zz(Ph:Addr)(vs:List V)(H:Hp)(Q:VK)(_e1:XK):Prop
 | mk (p:SG) (ss:List Int) (_:vs=[.ref p.t,.ref p.g]) (_:SQ H Ph p ss) (_:∀(r:Addr) (lv:List Addr) (H':Hp),H r=none->H' r=some (.lst (lv.map V.ref))->lv.length=p.h->(∀i l,lv[i]?=some l->Lv H' p i l)->ie H H' Ph p 0 [] ss ss->Q (.ref r) H')
theorem zH(T:Tx K mg a)(B:Bs mg base a):aV P w K mg base Ti 2 a.adI a.ac4 ["tables","look"] (zz a.T3):=by
 refine T.adZ.F.Tq fu λa7 A a3 s H vs Q E hr h=>?_;obtain⟨p,O,rfl,x,q⟩:=h;refine(_,(aa (aA 2 fu.nd (cX aj))
  (aa (aA 3 fu.nd ak)
  (aa (bI PassesOwn.never rfl (J5 (aW aR (pv 0) ak)) (aU 4 fu.nd) (aa (bu (jg PySem.F.plainAttrs_list PySem.F.slot_list_append PySem.F.type_list_append b8 (pv 2) (au (iB (au (iB (au (aW aR (pv 0) ak) (My 4 aj))) (au (aF T.Yg (lC T B) hr (My 1 (My 3 aj))) aj))) aj)))
  (ao (aA 3 fu.nd (aB bA (aB aZ (pv 3) (aL aO rfl T.Tz Tw.bh (My 4 aj))) ak)))))
  (ao (aD (pv 2)))))),3)
 refine((by show 0<=sizeLine;decide),λr D=>?_);have Wm:r≠p.sn:=(aJ x.sn D).symm;have d0:=(x.self).same (az D (.lst []));have x0:=x.did d0 x.few;have k:upd H r (.lst []) r=some (.lst []):=aq;generalize upd H r (.lst [])=H0 at *;have a0:p.ls.length=p.h:=by rw[x.ls.1,aaa,p.lv_len]
 have a6:=x.h12;have a4:=x.len;exists 5,p.t,_,4,Tj.of x0.t,7,p.c,7,(_,Tj.of x0.c);refine Nf (xs:=p.ls.map V.ref) (λi X u=>(∃k4,X=[some (.ref p.t),some (.ref p.g),some (.ref r),some (.int ((i*many p.ns.length:Nat):Int)),k4])/\ie H u a.T3 p 0 [] O O /\ ∃m:List Addr,u r=some (.lst (m.map V.ref))/\m.length=i /\ ∀j l,m[j]?=some l->Lv u p j l) ((none,3),d0,[],k,7,λj l e=>by cases e) ?_ ?_ ?_
 ·rw[ahM];rfl
 ·rintro i X u _ ⟨_,d,_⟩;exact Tj.of ((x.did d x.few).c)
 ·rintro i y X u hy ⟨⟨k4,rfl⟩,d,m,k,V5,v⟩;rw[aag]at hy;obtain⟨C,Vb,rfl⟩:=abA.mp hy;have a5:=(aab.mp Vb).1;obtain⟨N,U⟩:∃N,p.lv[i]?=some N:=(_,aad (by rw[p.lv_len];lia));have x1:=x.did d x.few;have G:=x1.ls.2 i C (T8 N (many p.ns.length)) Vb (by rw[aag,U];rfl);refine(5,.inl (7,_,Tg.of k),5,p.t,_,4,Tj.of x1.t,7,5,(by show 2<=sizeLine;decide),λn Yp=>?_);have R:=az Yp (.tup [.int (p.ns.length:Int),.ref C]);have I:=x1.same R;have S:upd u n (.tup [.int (p.ns.length:Int),.ref C]) n=some (.tup [.int (p.ns.length:Int),.ref C]):=aq
  replace k:=R _ _ k
  replace G:=R _ _ G
  replace d:=d.same R
  replace v:∀j l,m[j]?=some l->Lv (upd u n (.tup [.int (p.ns.length:Int),.ref C])) p j l:=λj l e=>(v j l e).kept (Kp.of R)
  generalize upd u n (.tup [.int (p.ns.length:Int),.ref C])=H1 at *;have cg:=I.clo;refine(2,p.g,i*many p.ns.length,7,I.tab,λf cs J hf a1 Y W la=>?_);have Z:Kp H1 J:=λb o e n1 n2=>Y _ _ e (TabAt.ne I.tab e n1);have d2:ie H1 J a.T3 p 0 [] O O:=(λb o e n1 n2=>Y _ _ e n1,Y _ _ I.sn (TabAt.ne I.tab I.sn nofun),W,UJ.none _ O);have lk:gU J (f,some p.sn,p.bl,p.off+i*many p.ns.length,p.all):=.inr (.inr (p.g,i*many p.ns.length,cs,Nat.le_add_left _ _,la,by rw[ahp];exact Uw.keeps.hid cg a1 λb o e=>Z _ _ e nofun nofun))
  replace k:=Y _ _ k (TabAt.ne I.tab k nofun)
  replace G:=Z _ _ G nofun nofun
  replace S:=Z _ _ S nofun nofun
  replace d:=d.trans d2
  replace v:∀j l,m[j]?=some l->Lv J p j l:=λj l e=>(v j l e).kept Z
  refine((by show 2<=sizeLine;decide),λl hl=>(r,4,az hl _ _ _ k,3,3))
  ·rw[aaa,V5,sizeLine_eq];lia
  have L:=az hl (.tup [.ref n,.ref f]);have xl:upd J l (.tup [.ref n,.ref f]) l=some (.tup [.ref n,.ref f]):=aq
  replace k:=L _ _ k
  replace G:=L _ _ G
  replace S:=L _ _ S
  replace lk:=lk.same L
  replace d:=d.same L
  replace v:∀j M,m[j]?=some M->Lv (upd J l (.tup [.ref n,.ref f])) p j M:=λj M e=>(v j M e).kept (Kp.of L)
  generalize upd J l (.tup [.ref n,.ref f])=H3 at *;have Z2:Kp H3 (upd H3 r (.lst (m.map V.ref++[.ref l]))):=λb o e _ n2=>by
   rw[aH λz=>by rw[z,k]at e;cases e;exact n2 _ rfl];exact e
  have a2:((T8 N (many p.ns.length)).map V.int).length=many p.ns.length+1:=by rw[aaa,dq]
  refine(2,C,5,.inr (Tj.of (Z2 _ _ G nofun nofun)),4,4,(some (.ref C),3),d.set D k Wm,m++[l],3,3,λj M e=>?_)
  ·have e:((i*many p.ns.length:Nat):Int)+(((T8 N (many p.ns.length)).map V.int).length:Int)-1=(((i+1)*many p.ns.length:Nat):Int):=by
    rw[a2,ag0];lia
   rw[<-e];rfl
  ·rw[aq,aal];rfl
  ·rw[aaf,V5];rfl
  ·rcases aaq j m.length with c|c
   ·rw[aaz c]at e;exact(v j M e).kept Z2
   ·rw[aas c]at e;have:j-m.length=0:=by
     have:=(aab.mp e).1;simp at this;lia
    rw[this]at e;cases e;have hj:j=i:=by lia
    subst hj;exact Lv.kept (n,C,f,N,U,xl,S,G,lk) Z2
 ·rintro X u ⟨⟨k4,rfl⟩,d,m,k,V5,v⟩;exact(5,q r m u D k (by rw[V5,aaa];exact a0) v d)
def cnt(os:List Int)(k:Nat)(c:Int)(j:Nat):Nat:=((os.take j).filter λz=>bit z k=c).length
def pos(os:List Int)(k:Nat)(c:Int)(j:Nat):Nat:=(if c=0 then 0 else (os.filter λz=>bit z k=0).length)+cnt os k c j
def Z3(bs:List Int)(j:Nat)(c:Int):Int:=if c=0 then (j:Int)-(bs.take j).sum else (bs.length:Int)-bs.sum+(bs.take j).sum
theorem yR(z:Int)(k:Nat):bit z k=0\/bit z k=1:=by
 unfold bit;lia
theorem Ck(os:List Int)(k:Nat):((os.map λz=>bit z k).sum=((os.filter λz=>bit z k=1).length:Int))/\(os.filter λz=>bit z k=0).length+(os.filter λz=>bit z k=1).length=os.length:=by
 induction os with
 |nil=>exact(7,7)
 |cons z os b=>
  rw[aaD,aho,b.1];rcases yR z k with e|e
  ·simp only[agT,e,decide_true,if_true,aaM,show decide ((0:Int)=1)=false from rfl,adT,if_false];lia
  ·simp only[agT,e,decide_true,if_true,aaM,show decide ((1:Int)=0)=false from rfl,adT,if_false];lia
theorem Oh{os:List Int}{k j:Nat}{c:Int}(d:j<=os.length)(e:c=0\/c=1):Z3 (os.map λz=>bit z k) j c=((pos os k c j:Nat):Int):=by
 have b:=Ck (os.take j) k;have f:=Ck os k;rw[aaL,afb d]at b;unfold Z3 pos cnt;rw[<-aiq,b.1,f.1,aaa];rcases e with rfl|rfl
 ·rw[if_pos rfl,if_pos rfl];lia
 ·rw[if_neg ∅,if_neg ∅];lia
theorem yK{f:Int->Bool}:∀{os:List Int}{j:Nat}{z:Int},os[j]?=some z->f z=true->(os.filter f)[((os.take j).filter f).length]?=some z
 |[],j,z,h,_=>by cases h
 |y::os,0,z,h,b=>by
  cases h;rw[ahr b];rfl
 |y::os,j+1,z,h,b=>by
  have c:=yK (os:=os) (j:=j) h b;rw[ahi];by_cases e:f y=true
  ·rw[ahr e,ahr e];exact c
  ·rw[ah2 e,ah2 e];exact c
theorem QJ{os:List Int}{k j:Nat}(h:os[j]?=some m):(UG os k)[pos os k (bit m k) j]?=some m:=by
 unfold UG pos cnt;rcases yR m k with e|e
 ·rw[e,if_pos rfl,agv];have:=yK (f:=λm=>decide (bit m k=0)) h (decide_eq_true e);rw[aaz (aab.mp this).1];exact this
 ·rw[e,if_neg ∅,aas ⋯,aeC];exact yK (f:=λm=>decide (bit m k=1)) h (decide_eq_true e)
inductive w6(vs:List V)(H:Hp)(Q:VK)(E:XK):Prop
 | mk (t:Addr) (L:LK) (ah:Addr) (ns ss:List Int) (rest:List V) (at0:Nat) (_:vs=[.ref t,.ref L.f,.int (at0:Int)]) (_:Ask H t L ah ns ss rest) (_:ss.length<16000000) (_:at0<=ns.length) (_:∀ss' H',UJ L.all.length 1 [((L.off+at0 / 32:Nat):Int)] ss ss'->aP (L.put H ss') H'->Q (.int ((at0:Int)-(ns.take at0).sum)) H')
theorem wR(T:Tx K mg a):aV P w K mg base Ti 5 a.acV a.acd ["tables","look","at"] w6:=by
 refine T.adh.F.Tq wY λo A f s H p Q E k h=>?_;obtain⟨t,L,m,j,g,rest,e,rfl,l,d,b,q⟩:=h;exists _,(ao (aD (aB bA (pv 2) (aF T.WK (iD T) k (My 0 (My 1 (My 2 aj)))))));exact(2,2,t,L,m,j,g,rest,e,7,l,d,b,λc n w i=>(4,q c n w i))
inductive ue(vs:List V)(H:Hp)(Q:VK)(E:XK):Prop
 | mk (t ah:Addr) (ns:List Int) (_:vs=[.ref t]) (_:Tab H t ah ns []) (_:Q (.int ((ns.length:Int)-ns.sum)) H)
theorem tY(T:Tx K mg a):aV P w K mg base Ti 1 a.abR a.abh ["row"] ue:=by
 refine T.abZ.F.Tq uf λg A e s H i Q E j h=>?_;obtain⟨t,f,b,rfl,c,q⟩:=h;exists _,(ao (aD (aB bA (aW aR (pv 0) ak) (aW aR (aW aR (pv 0) ak) (nR jK ak)))));have d:T7 ((T8 b (many b.length)).map V.int) (-1)=some (.int b.sum):=by
  unfold T8;rw[agd,aal,aal];refine(mj _ _).trans ?_;show some (V.int (b.take (32*many b.length)).sum)=_;rw[aak (by unfold many;lia)]
 exact(5,t,_,4,Tj.of c.tup,7,5,t,_,4,Tj.of c.tup,7,5,f,_,4,Tj.of c.Uy,d,4,q)
inductive vI(Ph:Addr)(vs:List V)(H:Hp)(Q:VK)(E:XK):Prop
 | mk (p:SG) (ss:List Int) (i:Nat) (l:Addr) (bs:List Int) (at0:Nat) (c:Int) (_:vs=[.ref l,.int (at0:Int),.int c]) (_:SQ H Ph p ss) (_:Lv H p i l) (_:p.lv[i]?=some bs) (_:at0<=p.ns.length) (_:(c=0\/c=1)) (_:∀ss' H',ie H H' Ph p 1 [((i*many p.ns.length+at0 / 32:Nat):Int)] ss ss'->Q (.int (Z3 bs at0 c)) H')
theorem v9(T:Tx K mg a):aV P w K mg base Ti 6 a.acp a.abQ ["level","at","bit"] (vI a.T3):=by
 refine T.acH.F.Tq iM λG A u s H J Q E k h=>?_;obtain⟨p,y,i,l,n,g,c,rfl,x,C,e,D,B,q⟩:=h;refine(_,(aa (aA 3 iM.nd (aW aR (pv 0) ak))
  (aa (aA 4 iM.nd (aW aR (pv 0) ak))
  (aa (aX (aG cR (pv 2) ak) (ao (aD (aF T.adh (wR T) k (My 3 (My 4 (My 1 aj)))))) aK)
  (ao (aD (aB aZ (aF T.abZ (tY T) k (My 3 aj)) (aF T.WK (iD T) k (My 3 (My 4 (My 1 aj)))))))))),3)
 obtain⟨r,o,f,I,b,v,m⟩:=C.ask x;rw[e]at b;cases b;have L:=(p.lv_mem (aah e)).2;have z:=x.few;exists 5,l,_,4,Tj.of v,7,5,l,_,4,Tj.of v,7;rcases B with rfl|rfl
 ·refine(5,7,5,jj ?_);exact(2,5,r,_,o,n,y,[],g,7,m,9,9,λd t w j=>q d t (x.look rfl rfl w j))
 ·refine(5,7,5,dN ?_);refine(5,r,o,n,7,m.tab,2,5,r,_,o,n,y,[],g,7,m,9,9,λd t w j=>(4,q d t (x.look rfl rfl w j)))
def ord(h:Nat)(os:List Int):Nat->List Int
 |0=>os
 |i+1=>UG (ord h os i) (h-1-i)
theorem ord_len(h:Nat)(os:List Int):∀i,(ord h os i).length=os.length
 |0=>rfl
 |i+1=>(ut _ _).trans (ord_len h os i)
theorem Ax(k:Nat)(os:List Int):∀i,ord (k+1) os (i+1)=ord k (UG os k) i
 |0=>rfl
 |i+1=>by
  show UG (ord (k+1) os (i+1)) (k+1-1-(i+1))=UG (ord k (UG os k) i) (k-1-i);rw[Ax k os i,show k+1-1-(i+1)=k-1-i by lia]
theorem Mf:∀(h:Nat) (os:List Int) (i:Nat),i<h->(TX h os)[i]?=some ((ord h os i).map λz=>bit z (h-1-i))
 |0,_,_,b=>by lia
 |k+1,os,0,_=>rfl
 |k+1,os,i+1,b=>by
  rw[Ax];show (TX k (UG os k))[i]?=_;rw[Mf k (UG os k) i ⋯,show k+1-1-(i+1)=k-1-i by lia]
theorem Hm(r:Int)(k:Nat):2*(r / 2^(k+1))+bit r k=r / 2^k:=by
 unfold bit;have e:r / 2^(k+1)=r / 2^k / 2:=by
  rw[aiE,ahX (Int.pow_nonneg ∅)]
 rw[e];lia
theorem SG.lv_at(p:SG){i:Nat}(b:i<p.h):p.lv[i]?=some ((ord p.h (rks p.ms p.ns) i).map λz=>bit z (p.h-1-i)):=Mf _ _ _ b
theorem SG.ord_len(p:SG)(i:Nat):(ord p.h (rks p.ms p.ns) i).length=p.ns.length:=by
 rw[Tw.ord_len];unfold rks;exact aaa ..
theorem Jm(j:Nat):((2^j:Nat):Int)=(2:Int)^j:=by
 rw[Int.natCast_pow];rfl
theorem SQ.rank{p:SG}(x:SQ H f p d){j:Nat}(h:p.ns[j]?=some m):(rks p.ms p.ns)[j]?=some (p.ms.idxOf m:Int)/\(p.ms.idxOf m:Int) / 2^p.h=0/\p.ms[p.ms.idxOf m]?=some m:=by
 have c:m∈p.ms:=(x.kd.mem m).mpr (aah h);have b:=ahH c;obtain⟨_,_,g,_⟩:=x.sz;have i:p.ms.length<=2^p.h:=by
  obtain⟨k,e,g,_⟩:=x.sz;lia
 exists 3,3
 ·unfold rks;rw[aag,h];rfl
 ·refine Int.ediv_eq_zero_of_lt ⋯ ?_;rw[<-Jm];lia
 ·rw[aad b];exact congrArg some (aiv b)
inductive DK(Ph:Addr)(vs:List V)(H:Hp)(Q:VK)(E:XK):Prop
 | mk (p:SG) (ss:List Int) (at0:Int) (_:vs=[.ref p.t,.ref p.g,.int at0]) (_:SQ H Ph p ss) (_:ss.length<=15800000) (j:Nat) (z:Int) (_:at0=(j:Int)) (_:p.ns[j]?=some z) (_:∀ss' U H',ie H H' Ph p (2*p.h) U ss ss'->Q (.int z) H')
theorem FN(T:Tx K mg a)(B:Bs mg base a):aV P w K mg base Ti 7 a.aeX a.aem ["tables","look","at"] (DK a.T3):=by
 refine T.ae5.F.Tq eE λa8 A a3 s H vs Q E O h=>?_;obtain⟨p,S,b0,rfl,x,a4,j,z,rfl,hz,q⟩:=h;refine(_,(aa (bu (aF T.WF (dm T) O (My 2 (au (aB bA (aW aR (pv 0) ak) ak) aj))))
  (aa (aA 3 eE.nd ak)
  (aa (aA 4 eE.nd (pv 2))
  (aa (bI PassesOwn.never rfl (bU (aF T.adZ (zH T B) O (My 0 (My 1 aj)))) (aU 5 eE.nd) (aa (aA 6 eE.nd (aF T.Wi (iy T) O (au (aW aR (pv 5) ak) (au (aW aR (pv 5) ak) (My 4 aj)))))
  (aa (aA 3 eE.nd (aB aZ (aB cH ak (pv 3)) (pv 6)))
  (ao (aA 4 eE.nd (aF T.acH (v9 T) O (My 5 (My 4 (My 6 aj)))))))))
  (ao (aD (aW aR (aW aR (pv 0) ak) (pv 3)))))))),3)
 have a6:=(aab.mp hz).1;refine(2,p.t,_,4,Tj.of x.t,7,4,_,5,9,9,3);refine(2,5,p,S,7,x,λr lv H1 G xr Y hL d1=>?_);have N:=x.did d1 x.few;have a7:=x.h12;obtain⟨r1,r2,r3⟩:=x.rank hz;generalize a0:(p.ms.idxOf z:Int)=C at *;have Wm:r≠p.sn:=(aJ x.sn G).symm;have Z:r≠a.T3:=λe=>by
  obtain⟨o,ho⟩:=TabAt.ex x.tab;rw[<-e,G]at ho;cases ho
 exists r,7,(_,Tg.of xr);refine cz (xs:=lv.map V.ref) (λi M D=>∃(m:Nat) (X W:Option V) (b U:List Int),M=[some (.ref p.t),some (.ref p.g),some (.int (j:Int)),some (.int (C / 2^(p.h-i))),some (.int (m:Int)),X,W]/\(ord p.h (rks p.ms p.ns) i)[m]?=some C/\ie H1 D a.T3 p (2*i) U S b/\U.length<=i) ?_ ?_ ?_ ?_
 ·refine(j,none,none,S,[],3,r1,N.self,aac _);rw[agQ,r2];rfl
 ·rintro i M D _ ⟨_,_,_,_,_,_,_,d,_⟩;exact Tg.of (d.kp _ _ xr Z Wm)
 ·rintro i y M D c ⟨m,X,W,b,U,rfl,n,d,hU⟩;rw[aag]at c;obtain⟨l,hl,rfl⟩:=abA.mp c;have I:=(aab.mp hl).1;rw[Y]at I;have a2:=d.wr.len;have v:=N.did d ⋯;have L2:=(hL i l hl).kept (N.kp d);have J:=p.lv_at I;obtain⟨T5,ah,f,a9,u,xl,hA⟩:=L2.ask v;rw[J]at u;cases u;have L:=(aab.mp n).1;rw[p.ord_len]at L;refine(5,l,_,4,Tj.of xl,7,5,l,_,4,Tj.of xl,7,5,T5,_,ah,_,b,[],m,bit C (p.h-1-i),7,hA,9,3,λUb H2 w sm=>?_)
  ·rw[aag,n];rfl
  have R:=v.look (U:=[((i*many p.ns.length+m / 32:Nat):Int)]) rfl rfl w sm;have a5:=R.wr.len;have x3:=v.did R ⋯;have L3:=L2.kept (v.kp R);exists 5,4,.inl (6,6),5,4;refine(2,5,p,Ub,i,l,_,m,bit C (p.h-1-i),7,x3,L3,J,9,yR _ _,λUz H3 d3=>?_);have hk:p.h-i=(p.h-1-i)+1:=by lia
  have a1:m<=(ord p.h (rks p.ms p.ns) i).length:=by rw[p.ord_len];lia
  rw[Oh a1 (yR _ _)];exists _,some (.ref l),some (.int (bit C (p.h-1-i))),Uz,U++[((i*many p.ns.length+m / 32:Nat):Int)],3,QJ n,((d.trans R).trans d3).le ⋯ ?_
  ·have e:=Hm C (p.h-1-i);rw[<-hk]at e;rw[show p.h-(i+1)=p.h-1-i by lia,<-e];rfl
  ·intro y c;rcases aba.mp c with c|c
   ·exact c
   ·exact aay _ c
  ·rw[aaf,agi];lia
 ·rintro M D ⟨m,X,W,b,U,rfl,n,d,hU⟩;have e:p.h-(lv.map V.ref).length=0:=by rw[aaa,Y,ag6]
  rw[aaa,Y]at hU d;have a2:=d.wr.len;have v:=N.did d ⋯;rw[e,Int.pow_zero,aiF];subst a0;exists 5,p.t,_,4,Tj.of v.t,7,5,p.k,_,4,Tj.of v.k,pM r3;exact q b U D ((d1.trans d).le ⋯ λy c=>c)
structure SR where
 t:Addr
 t1:Addr
 t2:Addr
 t3:Addr
 ah:Addr
 nd:Addr
 k2:Addr
 c2:Addr
 VG:Addr
 f:Addr
 sn:Addr
 bl:Addr
 lows:List Int
 S:Nat
 xs:List V
 ms:List Int
 h:Nat
 ls:List Addr
 ws:List Str
 ts:List Str
abbrev SR.ds(p:SR):List Int:=p.ts.map λt=>(t.length:Int)
abbrev SR.ns(p:SR):List Int:=(p.ts.drop 1).map fD
abbrev SR.es(p:SR):List Int:=p.ts.map (mC p.ws)
abbrev SR.L(p:SR):List (List Nat):=p.ts.map λt=>t.cps.toList
def SR.al(p:SR):List V:=(bB (brk p.ds 0)++((TX p.h (rks p.ms p.ns)).map bB).flatten++bB p.es).map V.int
def SR.bp(p:SR):BP:=(p.t1,(p.f,some p.sn,p.bl,0,p.al),p.ah,p.nd,brk p.ds 0,p.lows,p.S,p.xs)
def SR.sg(p:SR)(g:Addr):SG:=(p.t2,p.k2,p.c2,p.bl,p.sn,g,p.ls,p.ns,p.ms,p.h,many (brk p.ds 0).length,p.al)
structure SA(H:Hp)(Ph Pt:Addr)(p:SR)(ss:List Int):Prop where
 t:H p.t=some (.tup [.ref p.t1,.ref p.t2,.ref p.t3])
 nd:Nd H Ph p.bp ss p.ds
 t2:H p.t2=some (.tup [.int (p.ns.length:Int),.ref p.k2,.ref p.c2])
 k:H p.k2=some (.tup (p.ms.map V.int))
 c:H p.c2=some (.tup (p.ls.map V.ref))
 ls:tu H p.ls ((TX p.h (rks p.ms p.ns)).map λbs=>T8 bs (many p.ns.length))
 kd:Kinds p.ns p.ms
 sz:il p.ms.length (2^p.h)
 h12:p.h<=12
 t3:Tab H p.t3 p.VG p.es []
 clo:Us H (p.f,some p.sn,p.bl,0,p.al)
 tab:TabAt H Pt (bW bw) aM.qual
 begs:pI p.ws p.ts
 low:∀w∈p.ws,Uq w
 len:p.ts.length<=2001
 few:ss.length<=15000000
 ne:Pt≠Ph
 nod:p.ws.Nodup
structure eY(H H':Hp)(Ph Pt:Addr)(p:SR)(k:Nat)(ss ss':List Int):Prop where
 kp:∀b o,H b=some o->b≠Ph->b≠Pt->b≠p.sn->H' b=some o
 seen:H' p.sn=some (.lst (ss'.map V.int))
 tab:TabAt H' Ph (bW bR) aY.qual
 tabT:TabAt H' Pt (bW bw) aM.qual
 wr:bQ p.al.length k ss ss'
theorem eY.trans{H n m:Hp}{f d:Addr}{p:SR}{j k:Nat}{a b c:List Int}(h:eY H n f d p j a b)(h':eY n m f d p k b c):eY H m f d p (j+k) a c:=
 (λx o e l i g=>h'.kp x o (h.kp x o e l i g) l i g,h'.seen,h'.tab,h'.tabT,h.wr.trans h'.wr)
theorem eY.le{H e:Hp}{d c:Addr}{p:SR}{j k:Nat}{a b:List Int}(h:eY H e d c p j a b)(f:j<=k):eY H e d c p k a b:=(h.kp,h.seen,h.tab,h.tabT,h.wr.le f)
theorem eY.same{H g f:Hp}{d c:Addr}{p:SR}{j:Nat}{a b:List Int}(h:eY H g d c p j a b)(s:aP g f):eY H f d c p j a b:=
 (λx o e l k i=>s _ _ (h.kp x o e l k i),s _ _ h.seen,TabAt.same h.tab s,TabAt.same h.tabT s,h.wr)
theorem eY.set{X:Hp}{r:Addr}{p:SR}{k:Nat}{h:List V}(c:eY H X f C p k d M)(q:H r=none)(g:X r=some (.lst l))(i:r≠p.sn):eY H (L2.upd X r (.lst h)) f C p k d M:=
 (λb o e n m j=>by rw[aH (aJ e q)];exact c.kp b o e n m j,by rw[aH i.symm];exact c.seen,TabAt.upd c.tab g,TabAt.upd c.tabT g,c.wr)
theorem K1{c :Nat}:(V.str ⟨#[c]⟩=V.str ⟨#[n]⟩) ↔ c=n:=by
 constructor
 ·intro h;injection h with h
  injection h with h
  injection h with h
  injection h
 ·rintro rfl;rfl
theorem SA.sn{p:SR}(x:SA H f C p d):H p.sn=some (.lst (d.map V.int))/\p.sn≠p.bl:=x.nd.b.ask.asks.seen _ rfl
theorem SA.self{p:SR}(x:SA H f C p d):eY H H f C p 0 d d:=(λ_ _ e _ _ _=>e,x.sn.1,x.nd.b.tab,x.tab,bQ.none d)
theorem SA.kp{H H':Hp}{i h:Addr}{p:SR}{k:Nat}{f c:List Int}(x:SA H i h p f)(d:eY H H' i h p k f c):Kp H H':=λb o e g j=>d.kp b o e (TabAt.ne x.nd.b.tab e g) (TabAt.ne x.tab e g) λz=>by
 rw[z,x.sn.1]at e;cases e;exact j _ rfl
theorem SA.did{H':Hp}{p:SR}{k:Nat}(x:SA H f C p d)(g:eY H H' f C p k d M)(i:M.length<=15000000):SA H' f C p M:=by
 have h:=x.kp g;have B:=x.nd.b;have j:=g.kp _ _ B.ask.asks.nodes (TabAt.ne B.tab B.ask.asks.nodes nofun) (TabAt.ne x.tab B.ask.asks.nodes nofun) x.sn.2.symm;refine(h _ _ x.t nofun nofun,((((h _ _ B.ask.tab.tup nofun nofun,h _ _ B.ask.tab.Uy nofun nofun,B.ask.tab.few),(B.ask.asks.look.kept h,λm e=>?_,j,9),B.ask.bits,B.ask.len,B.ask.blk),h _ _ B.VD nofun nofun,B.low,B.sz,B.heap,g.tab),9,x.nd.eq,x.nd.good),h _ _ x.t2 nofun nofun,h _ _ x.k nofun nofun,h _ _ x.c nofun nofun,x.ls.to λb l e=>h _ _ e nofun nofun,x.kd,x.sz,x.h12,(h _ _ x.t3.tup nofun nofun,h _ _ x.t3.Uy nofun nofun,x.t3.few),Us.keeps _ _ _ x.clo λb o e=>h _ _ e nofun nofun,g.tabT,x.begs,x.low,x.len,i,x.ne,x.nod);cases e;exact(g.seen,x.sn.2)
theorem SA.same{H H':Hp}{d c:Addr}{p:SR}{b:List Int}(x:SA H d c p b)(s:aP H H'):SA H' d c p b:=x.did (x.self.same s) x.few
theorem TabAt.keep{H':Hp}{P :Addr}{pos :Pos}{q :Str}(h:TabAt H P pos q)(h':TabAt H f p x)(n:P≠f)(s:∀b o,H b=some o->b≠f->(∀ps,o ≠ .lst ps)->H' b=some o):TabAt H' P pos q:=by
 obtain⟨ps,l,k,c⟩:=h;exists ps,s _ _ l n nofun,k;rcases c with c|⟨m,g,e,t,j,d,i⟩
 ·exact .inl c
 ·exact .inr (m,g,e,t,j,s _ _ d (TabAt.ne h' d nofun) nofun,i)
theorem SA.tree{H':Hp}{p:SR}{k:Nat}(x:SA H f C p d)(c:Did H H' f p.bp.L k d M):eY H H' f C p k d M:=by
 have h:∀b,b≠p.sn->p.bp.L.wr≠some b:=λb n z=>n (aao z).symm;refine(λb o e g _ i=>c.kp b o e g (h b i),c.seen _ rfl,c.tab,TabAt.keep x.tab x.nd.b.tab x.ne λb o e g j=>c.kp b o e g (h b λz=>?_),c.wr);rw[z,x.sn.1]at e;cases e;exact j _ rfl
theorem SA.signs{H':Hp}{g:Addr}{p:SR}{k:Nat}{U :List Int}(x:SA H f C p d)(c:ie H H' C (p.sg g) k U d M):eY H H' f C p k d M:=by
 refine(λb o e _ h i=>c.kp b o e h i,c.seen,TabAt.keep x.nd.b.tab x.tab x.ne.symm λb o e j h=>c.kp b o e j λz=>?_,c.tab,c.wr);rw[show b=p.sn from z,x.sn.1]at e;cases e;exact h _ rfl
theorem SA.made{H':Hp}{p:SR}(x:SA H f C p d)(s:nM C H H')(t:TabAt H' C (bW bw) aM.qual):eY H H' f C p 0 d d:=
 (λb o e _ c _=>s b o e c,s _ _ x.sn.1 (TabAt.ne x.tab x.sn.1 nofun),TabAt.keep x.nd.b.tab x.tab x.ne.symm λb o e g _=>s b o e g,t,bQ.none d)
theorem SR.off_len(p:SR):(bB (brk p.ds 0)).length=many (brk p.ds 0).length:=bC _
theorem SA.sq{f:Addr}{p:SR}{cs:List Addr}(x:SA H C S p d)(l:∀c∈cs,H c=none)(s:nM S H H')(t:TabAt H' S (bW bw) aM.qual)(m:dI H' f aM cs [.ref p.f,.int ((many (brk p.ds 0).length:Nat):Int)]):SQ H' S (p.sg f) d:=by
 have g:=x.made s t;have y:=x.did g x.few;have q:=x.few;have n:=x.len;refine(y.t2,y.k,y.c,y.ls,y.nd.b.ask.asks.nodes,λj z i=>?_,x.kd,x.sz,x.h12,3,y.sn.1,y.sn.2,9,(p.f,_,cs,aac _,m,3),t)
 ·have i:(((TX p.h (rks p.ms p.ns)).map bB).flatten)[j]?=some z:=i;show p.al[many (brk p.ds 0).length+j]?=some (.int z);unfold SR.al;rw[aag,aaQ,aas (by rw[p.off_len];lia),p.off_len,aeC,aaz (aab.mp i).1];exact congrArg (ai1 V.int) i
 ·show p.ns.length<=4000;rw[aaa,ab3];lia
 ·rw[ag6];exact Us.keeps.hid x.clo l λb o e=>x.kp g _ _ e nofun nofun
inductive pG(vs:List V)(H:Hp)(Q:VK)(_e1:XK):Prop
 | mk (t t1 ah:Addr) (x y:V) (ns:List Int) (rest:List V) (_:vs=[.ref t]) (_:H t=some (.tup [.ref t1,x,y])) (_:Tab H t1 ah ns rest) (_:Q (.int (many ns.length:Nat)) H)
theorem jl(T:Tx K mg a):aV P w K mg base Ti 1 a.aa0 a.aaK ["tables"] pG:=by
 refine T.Zt.F.Tq o5 λi A d s H j Q E k h=>?_;obtain⟨t,f,g,x,y,b,rest,rfl,ht,c,q⟩:=h;exists _,(ao (aD (aB bA (aL aO rfl T.Tz Tw.bh (au (aW aR (aW aR (pv 0) ak) ak) aj)) ak)));exists 5,t,_,4,Tj.of ht,7,f,_,4,Tj.of c.tup,oX _ _ _ c.few,g,5,.inr (Tj.of c.Uy),4;have e:(((T8 b (many b.length)).map V.int).length:Int)-1=((many b.length:Nat):Int):=by
  rw[aaa,dq];lia
 rw[<-e]at q;exact q
theorem uT:∀k,k<26->letters.cps.toList[k]?=some (97+k):=by decide +kernel
theorem J2{t:Str}{u:List Nat}{c:Nat}(h:t.cps.toList=u++[c]):fD t=(c:Int)-97:=by
 unfold fD;rw[h,ahC]
theorem SA.at{H:Hp}{f e:Addr}{p:SR}{c:List Int}(x:SA H f e p c){i:Nat}{u:List Nat}(h:p.L[i]?=some u):∃t,p.ts[i]?=some t/\t.cps.toList=u/\Uq t:=by
 rw[aag]at h;obtain⟨t,b,d⟩:=abA.mp h;exact(t,b,d,x.begs.low x.low (aah b))
inductive zG(Ph:Addr)(Pt:Addr)(vs:List V)(H:Hp)(Q:VK)(_e1:XK):Prop
 | mk (p:SR) (ss:List Int) (i:Nat) (u:List Nat) (c:Nat) (_:vs=[.ref p.t,.ref p.f,.int (i:Int)]) (_:SA H Ph Pt p ss) (_:p.L[i]?=some (u++[c])) (_:∀ss' H',eY H H' Ph Pt p 24 ss ss'->Q (.str ⟨#[c]⟩) H')
theorem pX(T:Tx K mg a)(B:Bs mg base a):aV P w K mg base Ti 8 a.adM a.ac9 ["tables","look","node"] (zG a.TV a.T3):=by
 refine T.Zu.F.Tq yU λO A n s H R Q E g h=>?_;obtain⟨p,D,i,u,c,rfl,x,J,q⟩:=h
 exists _,(ao (aD (aW DR (bF (v:=.str "abcdefghijklmnopqrstuvwxyz") rfl T.Zz (_,7)) (aF T.ae5 (FN T B) g (au (aW aR (pv 0) ak) (au (aF T.Yg (lC T B) g (My 1 (au (aF T.Zt (jl T) g (My 0 aj)) aj))) (au (aB bA (pv 2) ak) aj)))))))
 have m:=x.few;obtain⟨t,ht,e,I⟩:=x.at J;have r:=x.begs.zero;have S:1<=i:=by
  rcases ad3 i with z|z
  ·subst z;rw[ht]at r;cases r;simp at e
  ·exact z
 have W:=I.2 c (by rw[e];exact aay _ (agA _));have l:p.ns[i-1]?=some ((c:Int)-97):=by
  rw[aag,agw,show 1+(i-1)=i by lia,ht];exact congrArg some (J2 e)
 exists 5,p.t,_,4,Tj.of x.t,7,2,p.t,p.t1,p.ah,8,p.bp.ns,5,x.t,x.nd.b.ask.tab;refine(p.f,many p.bp.ns.length,7,x.tab,λf X Y V k o d G=>?_);have y:=x.made o d;have C:=x.did y m;refine(5,4,p.sg f,D,5,x.sq k o d G,9,i-1,_,9,l,λj U M L=>?_);have N:=x.h12;exists letters,_,97+(c-97),7,7,6,3
 ·rw[show ((c:Int)-97)=((c-97:Nat):Int) by lia];exact m8 (uT _ ⋯)
 ·rw[show 97+(c-97)=c by lia];exact q j M ((y.trans (C.signs L)).le (by show 0+2*p.h<=24;lia))
def YF(L:List (List Nat))(t:List Nat)(c:Nat)(v:V):Prop:=(v=.non /\ ∀e,c<=e->t++[e]∉L) \/ ∃i e:Nat,v=.int (i:Int)/\L[i]?=some (t++[e])/\c<=e /\ ∀b,c<=b->b<e->t++[b]∉L
theorem SA.pc{p:SR}(x:SA H f C p d):PC p.L:=by
 refine(aiA.mpr x.begs.up,λt ht k=>?_);obtain⟨u,b,rfl⟩:=aa3.mp ht;exact aa3.mpr (beg u k,x.begs.pre b k,bY u k)
theorem SR.lens(p:SR):p.ds=Tw.lens p.L:=by
 show p.ts.map _=(p.ts.map _).map _;rw[agB];exact ahh λt _=>congrArg Nat.cast (aae).symm
theorem Qm.of{L:List (List Nat)}{j:Nat}{v:V}{t:List Nat}(h:PC L)(b:L[j]?=some t)(f:Qm (lens L) j v):(v=.non /\ ∀e,t++[e]∉L) \/ ∃i e:Nat,v=.int (i:Int)/\L[i]?=some (t++[e]) /\ ∀c,c<e->t++[c]∉L:=by
 obtain⟨d,hd,f⟩:=f;rw[nj b]at hd;cases hd;obtain⟨k,g⟩:=h.first b;rcases f with ⟨rfl,f⟩|⟨rfl,f⟩
 ·obtain⟨e,m,l⟩:=k f;exact .inr (j+1,e,7,m,l)
 ·exact .inl (7,g f)
theorem ZS.of{L:List (List Nat)}{i e:Nat}{v:V}{t:List Nat}(h:PC L)(j:L[i]?=some (t++[e]))(f:ZS (lens L) i v):(v=.non /\ ∀c,e<c->t++[c]∉L) \/ ∃g b:Nat,v=.int (g:Int)/\L[g]?=some (t++[b])/\e<b /\ ∀c,e<c->c<b->t++[c]∉L:=by
 obtain⟨d,hd,f⟩:=f;rw[nj j]at hd;have hd:d=((t.length:Int)+1):=by
  have:=aao hd;rw[aaf]at this;exact this.symm
 subst hd;obtain⟨l,k⟩:=h.next j;rcases f with ⟨rfl,f⟩|⟨rfl,f⟩
 ·obtain⟨b,n,m⟩:=l f;exact .inr (_,b,7,n,m)
 ·exact .inl (7,k f)
theorem Lp{c :Nat}:(([c]:List Nat) < [n]) ↔ c<n:=o9 (t:=[])
inductive wu(Ph:Addr)(Pt:Addr)(vs:List V)(H:Hp)(Q:VK)(_e1:XK):Prop
 | mk (p:SR) (ss:List Int) (j:Nat) (t:List Nat) (c:Nat) (_:vs=[.ref p.t,.ref p.f,.int (j:Int),.str ⟨#[c]⟩]) (_:SA H Ph Pt p ss) (_:ss.length<=14000000) (_:p.L[j]?=some t) (_:∀v ss' H',YF p.L t c v->eY H H' Ph Pt p 1000 ss ss'->Q v H')
theorem wJ(T:Tx K mg a)(B:Bs mg base a):aV P w K mg base Ti 11 a.ada a.acw ["tables","look","node","letter"] (wu a.TV a.T3):=by
 refine T.adq.F.Tq jH λa5 A U s H vs Q E J h=>?_;obtain⟨p,Y,j,t,c,rfl,x,a2,hj,q⟩:=h;refine(_,(aa (aA 4 jH.nd (yt T.aex (Bb T) ∅ J Pr rfl (au (aW aR (pv 0) ak) (My 1 (My 2 aj)))))
  (aa (lW PassesOwn.never (PW.pt (gD (fX (uz (pv 4))) (fY (aG QV (aF T.Zu (pX T B) J (My 0 (My 1 (My 4 aj)))) (pv 3))))) (ao (aA 4 jH.nd (yt T.ado (wM T B) ∅ J Pr rfl (au (aW aR (pv 0) ak) (My 1 (My 4 aj)))))))
  (ao (aD (pv 4))))),3)
 have Z:=x.pc;have R:j<p.ds.length:=by
  have:=(aab.mp hj).1;rw[aaa]at this ⊢;exact this
 refine(5,p.t,_,4,Tj.of x.t,7,2,p.bp,Y,p.ds,5,x.nd,.inl (j,7,R,λv T4 H1 n D=>?_));rw[p.lens]at n;have o:=n.of Z hj;have D:=x.tree D;have I:∀{i e:Nat},p.L[i]?=some (t++[e])->97<=e/\e<=122:=λ{i e} h=>by
  obtain⟨u,_,hu,hw⟩:=x.at h;exact hw.2 e (by rw[hu];exact aay _ (agA _))
 exists λm W O=>∃(v:V) (k:Nat) (b:List Int),W=[some (.ref p.t),some (.ref p.f),some (.int (j:Int)),some (.str ⟨#[c]⟩),some v]/\eY H O a.TV a.T3 p k Y b/\k+32*m<=900/\((v=.non /\ ∀e,c<=e->t++[e]∉p.L) \/ ∃i e:Nat,v=.int (i:Int)/\p.L[i]?=some (t++[e])/\m=123-e /\ ∀l,c<=l->l<e->t++[l]∉p.L),3
 ·rcases o with ⟨rfl,o⟩|⟨i,e,rfl,g,o⟩
  ·exact(0,_,(2),T4,7,D,6,.inl (7,λe _=>o e))
  ·have:=I g;exact(123-e,_,(2),T4,7,D,9,.inr (i,e,7,g,7,λl _ h=>o l h))
 ·rintro m W O ⟨v,k,b,rfl,d,hk,h⟩;have wl:=d.wr.len;have X:=x.did d ⋯;rcases h with ⟨rfl,h⟩|⟨i,e,rfl,g,hm,h⟩
  ·refine(2,dN (dN (5,q _ b O (.inl (7,h)) (d.le ⋯))))
  ·have a3:=I g;refine(2,jj ?_);refine(2,5,p,b,i,t,e,7,X,g,λUb H2 M=>?_);have a1:=M.wr.len;have G:=X.did M ⋯;have Xq:=d.trans M;refine(5,4,5,bD (λz=>?_) λz=>?_)
   ·have z:=Lp.mp (of_decide_eq_true z);have S:i<p.ds.length:=by
     have:=(aab.mp g).1;rw[aaa]at this ⊢;exact this
    exists _,λ a0 H2 z=>z;refine(5,p.t,_,4,Tj.of G.t,7,2,p.bp,Ub,p.ds,5,G.nd,.inl (i,7,S,λv Uz H3 n C=>?_));rw[p.lens]at n;have C:=Xq.trans (G.tree C);rcases n.of Z g with ⟨rfl,f⟩|⟨i',l,rfl,r,a4,f⟩
    ·exact(0,9,8,Uz,7,C,9,.inl (7,λN h1=>f N ⋯))
    ·have:=I r;refine(123-l,9,8,Uz,7,C,9,.inr (i',l,7,r,7,λN h1 h2=>?_));exact f N ⋯ h2
   ·have z:¬e<c:=λy=>z (decide_eq_true (Lp.mpr y));exact(5,q _ Ub H2 (.inr (i,e,7,g,9,h)) (Xq.le ⋯))
structure Lr(L:List (List Nat))(u:List Nat)(is:List Nat):Prop where
 one:1<=is.length
 le:is.length<=u.length+1
 at':∀k i,is[k]?=some i->L[i]?=some (u.take k)
 no:is.length<=u.length->u.take is.length∉L
theorem Hg{i j:Nat}(c:u.length=i+1)(b:u[i]?=some j):T7 (nats u) (-1)=some (.int (j:Int)):=by
 have e:u=u.take i++[j]:=by
  have:=acC (l:=u) (i:=i);rw[b,aak ⋯]at this;exact this
 rw[e];show T7 ((u.take i++[j]).map _) (-1)=_;rw[aal];exact mj _ _
inductive EY(Ph:Addr)(Pt:Addr)(vs:List V)(H:Hp)(Q:VK)(_e1:XK):Prop
 | mk (p:SR) (ss:List Int) (u:Str) (_:vs=[.ref p.t,.ref p.f,.str u]) (_:SA H Ph Pt p ss) (_:ss.length<=12000000) (_:u.length<=150) (_:∀(r:Addr) (is:List Nat) (ss':List Int) (H':Hp),H r=none->H' r=some (.lst (nats is))->Lr p.L u.cps.toList is->eY H H' Ph Pt p (1100*is.length) ss ss'->Q (.ref r) H')
theorem Dt(T:Tx K mg a)(B:Bs mg base a):aV P w K mg base Ti 12 a.ae0 a.aer ["tables","look","text"] (EY a.TV a.T3):=by
 refine T.ae7.F.Tq kJ λa6 A a1 s H vs Q E hr h=>?_;obtain⟨p,ss,u,rfl,x,a4,Z4,q⟩:=h;refine(_,(aa (aA 3 kJ.nd (cX (au ak aj)))
  (aa (bI PassesOwn.never rfl (Mt (pv 2)) (aU 4 kJ.nd) (aa (aA 5 kJ.nd (aF T.adq (wJ T B) hr (My 0 (My 1 (au (aW jm (pv 3) (nR jK ak)) (My 4 aj))))))
  (aa (aX (PW.pt (nO (fX (mQ (pv 5))) (kj (aG yc (aF T.Zu (pX T B) hr (My 0 (My 1 (My 5 aj)))) (pv 4))))) (ao (aD (pv 3))) aK)
  (ao (bu (jg PySem.F.plainAttrs_list PySem.F.slot_list_append PySem.F.type_list_append b8 (pv 3) (My 5 aj)))))))
  (ao (aD (pv 3))))),3)
 have ul:u.cps.toList.length=u.length:=aae;have z0:p.L[0]?=some []:=by rw[aag,x.begs.zero];rfl
 refine((by show 1<=sizeLine;decide),λr g=>?_);have s0:=az g (.lst [.int 0]);have d0:=x.self.same s0;have xr:upd H r (.lst [.int 0]) r=some (.lst [.int 0]):=aq;generalize upd H r (.lst [.int 0])=H0 at *;have Wm:r≠p.sn:=(aJ x.sn.1 g).symm;have U:r≠a.TV:=λe=>by
  obtain⟨o,N⟩:=TabAt.ex x.nd.b.tab;rw[<-e,g]at N;cases N
 have S:r≠a.T3:=λe=>by
  obtain⟨o,N⟩:=TabAt.ex x.tab;rw[<-e,g]at N;cases N
 exists 5,u,7;refine Gx (λi σ O=>∃(k4 k5:Option V) (l:List Nat) (D:List Int),σ=[some (.ref p.t),some (.ref p.f),some (.str u),some (.ref r),k4,k5]/\O r=some (.lst (nats l))/\l.length=i+1/\(∀k m,l[k]?=some m->p.L[m]?=some (u.cps.toList.take k))/\eY H O a.TV a.T3 p (1050*i) ss D) ?_ ?_ ?_
 ·refine(none,none,[0],ss,7,xr,7,λk m e=>?_,d0);cases k with
  |zero=>cases e;exact z0
  |succ k=>cases e
 ·rintro i c σ O hc ⟨k4,k5,l,D,rfl,Y,n,C,d⟩;have wl:=d.wr.len;have Ww:u.cps.toList[i]?=some c:=by rw[ab4];exact hc
  have a2:=(aab.mp Ww).1;have x1:=x.did d ⋯;obtain⟨j,hj⟩:∃j,l[i]?=some j:=(_,aad ⋯);have a0:=C i j hj;have I:=Hg n hj;have G:u.cps.toList.take (i+1)=u.cps.toList.take i++[c]:=by rw[acC,Ww];rfl
  refine(2,2,r,_,4,Tg.of Y,I,5,p,D,j,_,c,7,x1,9,a0,λv Ub H2 M d2=>?_);have a3:=d2.wr.len;have x2:=x1.did d2 ⋯;have R:=d2.kp _ _ Y U S Wm;have Xq:=d.trans d2;rcases M with ⟨rfl,M⟩|⟨Z,e,rfl,W,a5,M⟩
  ·refine(2,jj (jj (5,q r l Ub H2 g R (9,9,C,λz=>?_) (Xq.le ⋯))));rw[n,G];exact M c (aac _)
  ·refine(2,dN ?_);refine(2,5,p,Ub,Z,_,e,7,x2,W,λUz H3 d3=>?_);have Yt:=d3.kp _ _ R U S Wm;have X:=Xq.trans d3;refine(5,7,5,bD (λz=>?_) λz=>?_)
   ·have z:e≠c:=λy=>by rw[decide_eq_true (K1.mpr y)]at z;cases z
    refine(5,q r l Uz H3 g Yt (9,9,C,λ_=>?_) (X.le ⋯));rw[n,G];exact M c (aac _) ⋯
   ·have z:e=c:=Decidable.byContradiction λy=>z (by rw[decide_eq_false λh=>y (K1.mp h)];rfl);subst z;exists 5,.inl (7,_,Tg.of Yt),5,r,4,Yt,?_
    ·rw[aaa,n,sizeLine_eq];lia
    exists some (.str ⟨#[e]⟩),some (.int (Z:Int)),l++[Z],Uz,7,3,3,λk m J=>?_
    ·rw[aq];show _=some (HO.lst ((l++[Z]).map _));rw[aal];rfl
    ·rw[aaf,n];rfl
    ·rcases aaq k l.length with y|y
     ·rw[aaz y]at J;exact C k m J
     ·rw[aas y]at J;have:k-l.length=0:=by
       have:=(aab.mp J).1;simp at this;lia
      rw[this]at J;cases J;rw[show k=i+1 by lia,G];exact W
    ·exact(X.set g Yt Wm).le ⋯
 ·rintro σ O ⟨k4,k5,l,D,rfl,Y,n,C,d⟩;have e:u.cps.size=u.length:=rfl;refine(5,q r l D O g Y (9,9,C,λz=>by lia) (d.le ⋯))
theorem SR.mem{p:SR}{u:Str}(h:u∈p.ts):u.cps.toList∈p.L:=aa3.mpr (u,h,7)
theorem JP{K:PySem.W.Frag}{a:Addr}{xs:List V}{d:L2.St}{tt:TT}(R:V->Prop)(p:H a=some (.tup xs))(s:xs.length<sizeLine)
  (j:∀(x:V) (H':Hp) (Q:Bool->Hp->Prop),Q true H'->tt (some x::d) H' Q)(r:∀(x:V) (H':Hp) (Q:VK),x∈xs->aP H H'->(∀y,R y->Q y H')->ta (some x::d) H' Q)
  (q:∀b ys,H b=none->ys.length=xs.length->(∀y∈ys,R y)->D b (upd H b (.lst ys))):jG (Wr K a) d tt ta D H:=by
 intro b g;exists λi m ys n=>m=xs.length-i/\i<=xs.length/\ys.length=i/\(∀y∈ys,R y)/\n=upd H b (.lst ys),(5,aaF _,7,nofun,7);rintro i m ys n ⟨rfl,t,rfl,l,rfl⟩;have h:Tj K (upd H b (.lst ys)) a xs:=Tj.of (az g _ _ _ p);by_cases c:ys.length<xs.length
 ·have k:=aad c;refine .inr ((8,h,k),λv u y=>?_);obtain⟨rfl,y⟩:=y;have e:=y _ h;rw[k]at e;cases e;refine j _ _ _ ?_;rw[if_pos rfl];refine r _ _ _ (acz c) (az g _) λy o=>(aq,9,xs.length-(ys.length+1),9,7,c,by rw[aaf];rfl,λz f=>?_,3)
  ·rcases aba.mp f with f|f
   ·exact l z f
   ·rw[aat.mp f];exact o
  ·rw[nF]
 ·have e:ys.length=xs.length:=by lia
  exact .inl ((_,h,ahk e.symm),q b ys g e l)
theorem SR.let_len(p:SR):(((TX p.h (rks p.ms p.ns)).map bB).flatten).length=p.h*many p.ns.length:=by
 rw[rQ (n:=p.ns.length) λc b=>by
  rw[(Tw.qg _ _ _ b).2];unfold rks;exact aaa ..,jn]
theorem uE{m:Int}:∀{ys:List V},(∀y∈ys,y=V.int m) -> ∃b:List Int,ys=b.map V.int/\b.sum=ys.length*m
 |[],_=>([],7,by simp)
 |y::ys,h=>by
  obtain⟨b,e,d⟩:=uE (ys:=ys) λz c=>h z (aaR _ c);refine(m::b,by rw[e,h y abB];rfl,3);rw[aho,d,aaM,Int.natCast_succ,Int.add_mul,Int.one_mul,Int.add_comm]
inductive mK(Ph:Addr)(Pt:Addr)(vs:List V)(H:Hp)(Q:VK)(_e1:XK):Prop
 | mk (p:SR) (ss:List Int) (_:vs=[.ref p.t]) (_:SA H Ph Pt p ss) (_:∀H',aP H H'->Q (.int ((p.h*many p.ns.length:Nat):Int)) H')
theorem my(T:Tx K mg a):aV P w K mg base Ti 1 a.aax a.aau ["tables"] (mK a.TV a.T3):=by
 refine T.aaA.F.Tq lZ λJ A n s H L Q E N h=>?_;obtain⟨p,M,rfl,x,q⟩:=h
 exists _,(ao (aD (aL (BK rfl) rfl T.afW Tw.K8 (au (m5 rfl cj.zero (J5 (aW aR (aW aR (pv 0) ak) ak)) (λ_ _ _ _=>eZ) (λ_ _ _ _=>(aB bA (aL (show gR _ (.builtin "len") (λr H Q=>∃p f,r=[.ref p]/\(Tg K H p f\/Tj K H p f)/\Q (.int f.length) H)from aO) rfl T.Tz Tw.bh (My 0 aj)) ak))) aj))))
 have k:p.ls.length=p.h:=by rw[x.ls.1,aaa,jn]
 have I:=x.h12;exists 5,p.t,_,4,Tj.of x.t,7,p.t2,_,4,Tj.of x.t2,7,p.c2,7,(_,Tj.of x.c);refine JP (λy=>y=.int ((many p.ns.length:Nat):Int)) x.c (by rw[aaa,sizeLine_eq];lia) (λ_ _ _ q=>q) (λy R O B u v=>?_) λl f C j g=>?_
 ·obtain⟨b,D,rfl⟩:=aa3.mp B;obtain⟨i,o⟩:=aaP D;have m:=(aab.mp o).1;have d:=aad (l:=(TX p.h (rks p.ms p.ns)).map λG=>T8 G (many p.ns.length)) (by rw[<-x.ls.1];exact m);rw[aiL]at d;refine(5,b,5,.inr (Tj.of (u _ _ (x.ls.2 i b _ o d))),4,v _ ?_);rw[aaa,dq];exact congrArg V.int ⋯
 ·obtain⟨z,rfl,e⟩:=uE g;exists l,z,7,Tg.of aq;rw[e,j,aaa,k,<-Int.natCast_mul];exact q _ (az C _)
abbrev SR.off(p:SR):Nat:=many (brk p.ds 0).length+p.h*many p.ns.length
abbrev SR.le(p:SR)(f:Addr):LK:=(f,some p.sn,p.bl,p.off,p.al)
theorem SA.ends{f:Addr}{p:SR}{cs:List Addr}(x:SA H C S p d)(i:∀c∈cs,H c=none)(s:nM S H H')(t:TabAt H' S (bW bw) aM.qual)(j:dI H' f aM cs [.ref p.f,.int (p.off:Int)]):Ask H' p.t3 (p.le f) p.VG p.es d []:=by
 have g:=x.made s t;have y:=x.did g x.few;have m:=x.few;have l:=x.len;refine(y.t3,(.inr (.inl (p.f,_,cs,aac _,j,3)),λq e=>?_,y.nd.b.ask.asks.nodes,9),xX _ _,by rw[aaa];lia,λn k=>?_)
 ·rw[ag6];exact Us.keeps.hid x.clo i λb o e=>x.kp g _ _ e nofun nofun
 ·cases e;exact y.sn
 ·show p.al[p.off+n]?=_;unfold SR.al;have e:(bB (brk p.ds 0)++((TX p.h (rks p.ms p.ns)).map bB).flatten).length=p.off:=by rw[aaf,p.off_len,p.let_len]
  rw[aag,aas (by rw[e];lia),e,aeC];exact congrArg (ai1 V.int) (jT k)
theorem SA.asked{i:Hp}{f:Addr}{p:SR}(x:SA H C S p d)(s:nM S H H')(t:TabAt H' S (bW bw) aM.qual)(w:bQ p.al.length 1 d M)(g:aP ((p.le f).put H' M) i):eY H i C S p 1 d M:=by
 have c:=x.made s t;have y:=x.did c x.few;rw[LK.put_some (L:=p.le f) rfl]at g;refine(λb o e k j h=>g _ _ (by rw[aH h];exact c.kp b o e k j h),g _ _ aq,TabAt.same (TabAt.upd c.tab c.seen) g,TabAt.same (TabAt.upd c.tabT c.seen) g,w)
inductive ud(Ph:Addr)(Pt:Addr)(vs:List V)(H:Hp)(Q:VK)(_e1:XK):Prop
 | mk (p:SR) (ss:List Int) (_:vs=[.ref p.t,.ref p.f]) (_:SA H Ph Pt p ss) (_:∀f cs H1 H2,aP H H1->(∀c∈cs,H1 c=none)->nM Pt H1 H2->TabAt H2 Pt (bW bw) aM.qual->dI H2 f aM cs [.ref p.f,.int (p.off:Int)]->Q (.ref f) H2)
theorem tO(T:Tx K mg a)(B:Bs mg base a):aV P w K mg base Ti 2 a.abT a.abj ["tables","look"] (ud a.TV a.T3):=by
 refine T.ab0.F.Tq ug λr A g s H u Q E d h=>?_;obtain⟨p,k,rfl,x,q⟩:=h;exists _,(ao (aD (aF T.Yg (lC T B) d (My 1 (au (aB aZ (aF T.Zt (jl T) d (My 0 aj)) (aF T.aaA (my T) d (My 0 aj))) aj)))));refine(2,p.t,p.t1,p.ah,8,p.bp.ns,5,x.t,x.nd.b.ask.tab,5,p,k,7,x,λo i=>?_);refine(4,p.f,p.off,7,TabAt.same x.tab i,λf m n _ e j c l=>q f m o n i e j c l)
inductive Ij(Ph:Addr)(Pt:Addr)(vs:List V)(H:Hp)(Q:VK)(_e1:XK):Prop
 | mk (p:SR) (ss:List Int) (i:Nat) (t:Str) (_:vs=[.ref p.t,.ref p.f,.int (i:Int)]) (_:SA H Ph Pt p ss) (_:p.ts[i]?=some t) (_:∀ss' H',eY H H' Ph Pt p 1 ss ss'->Q (.bl (decide (t∈p.ws))) H')
theorem Io(T:Tx K mg a)(B:Bs mg base a):aV P w K mg base Ti 5 a.aft a.aeZ ["tables","look","node"] (Ij a.TV a.T3):=by
 refine T.afz.F.Tq Il λD A k s H G Q E r h=>?_;obtain⟨p,n,i,t,rfl,x,v,q⟩:=h;exists _,(ao (aD (zm cR (aF T.Wi (iy T) r (au (aW aR (pv 0) ak) (au (aF T.ab0 (tO T B) r (My 0 (My 1 aj))) (My 2 aj)))) ak)));have C:=x.few;refine(5,p.t,_,4,Tj.of x.t,7,2,p,n,7,x,λf I L J o j m b u=>?_);have l:=x.same o;refine(5,p.t3,p.le f,p.VG,p.es,n,[],i,mC p.ws t,7,l.ends j m b u,9,3,λc y wr g=>?_)
 ·rw[aag,v];rfl
 ·exists 7;have d:=(x.self.same o).trans (l.asked m b wr g);have e:decide (V.int (mC p.ws t)=V.int 1)=decide (t∈p.ws):=by
   unfold mC;by_cases z:t∈p.ws
   ·rw[if_pos z,decide_eq_true z];exact decide_eq_true rfl
   ·rw[if_neg z,decide_eq_false z];exact decide_eq_false nofun
  have:=q c y d;rw[<-e]at this;exact this
def oV(x:Str):Prop:=∀c∈x.cps.toList,97<=c/\c<=122
theorem add_list(x y:Str):(x++y).cps.toList=x.cps.toList++y.cps.toList:=by
 show (x.cps++y.cps).toList=_;exact acK
theorem gh(x y:Str):(x++y).length=x.length+y.length:=by
 show (x.cps++y.cps).size=x.cps.size+y.cps.size;exact Array.size_append
theorem oV.add{x y:Str}(h:oV x)(h':oV y):oV (x++y):=λc b=>by
 rw[add_list]at b;rcases aba.mp b with b|b
 ·exact h c b
 ·exact h' c b
theorem oV.cut{x:Str}(h:oV x)(lo d:Option Int):oV (nJ x lo d):=λc b=>by
 unfold nJ at b;rw[ahG]at b;exact h c (agy (agK b))
theorem yN(x:Str):x.cps.toList.length=x.length:=aae
inductive pW(vs:List V)(H:Hp)(Q:VK)(_e1:XK):Prop
 | mk (n kd f:Int) (m:Nat) (_:vs=[.int n,.int kd,.int f,.int (m:Int)]) (_:0<=n) (_:n<2147483647) (_:0<kd) (_:0<=f) (_:m<=100) (_:∀x:Str,x.length=m->oV x->Q (.str x) H)
theorem cM(T:Tx K mg a):aV P w K mg base Ti 1 a.adO a.ade ["_law_number","_law_kinds","_law_first","_law_many"] pW:=by
 refine T.V3.F.Tq dD λO A z s H R Q E S h=>?_;obtain⟨n,g,f,m,rfl,C,B,G,Y,U,q⟩:=h;refine(_,(aa (aA 4 dD.nd qt)
  (aa (bI PassesOwn.never rfl (qZ rfl T.Wk (My 3 aj)) (aU 5 dD.nd) (aa (aA 0 dD.nd (aB bO (aB aZ (aB aZ (aB cH (pv 0) (pv 0)) (aB cH ak (pv 0))) (pv 5)) ak))
  (aa (aA 6 dD.nd (aB bO (aB aZ (pv 2) (aB bO (aB bG (pv 0) ak) (pv 1))) ak))
  (ao (aA 4 dD.nd (aB dh (pv 4) (aW DR qt (pv 6))))))))
  (ao (aD (pv 4))))),3)
 refine(5,(m:Int),7,9,9,3);rw[ab1];refine yg (λi l u=>∃(n:Int) (x:Str) (p o:Option V),l=[some (.int n),some (.int g),some (.int f),some (.int (m:Int)),some (.str x),p,o]/\u=H/\0<=n/\n<2147483647/\x.length=i/\oV x) (n,⟨#[]⟩,none,none,7,7,C,B,7,λc k=>by cases k) ?_ ?_
 ·rintro i l u X ⟨b,x,p,o,rfl,rfl,D,v,r,t⟩;exists 2,4,.inl (9,9),5,4,.inl (6,6),4,5,4,4,(by show (0:Int)<2147483647;decide);have J:=agk (b*b+16807*b+(0+(i:Int))) (show (2147483647:Int)≠0 by decide);have I:=agc (b*b+16807*b+(0+(i:Int))) (show (0:Int)<2147483647 by decide);show fL 0 (.int ((b*b+16807*b+(0+(i:Int)))%2147483647)) _ _ _;generalize (b*b+16807*b+(0+(i:Int)))%2147483647=d at *;have Z:=agk (d / 64) (show g≠0 by lia);have N:=agk (f+d / 64%g) (show (26:Int)≠0 by decide);have M:=agc (f+d / 64%g) (show (0:Int)<26 by decide);exists 2,4,(6,6),5,4,G,4,4,(by show (0:Int)<26;decide);obtain⟨j,L⟩:∃j:Nat,(f+d / 64%g)%26=j:=(((f+d / 64%g)%26).toNat,9);show fL 6 (.int ((f+d / 64%g)%26)) _ _ _;rw[L]at N M ⊢;have y:T7 letters.cps.toList (j:Int)=some (97+j):=by
   have:=uT j ⋯;obtain⟨W,e⟩:=aab.mp this;exact m8 this
  exists 2,letters,(j:Int),97+j,7,7,6,y,x,⟨#[97+j]⟩,7,7,?_
  ·rw[sizeLine_eq];show x.length+1<=_;lia
  refine(d,x++⟨#[97+j]⟩,4,J,I,by rw[gh,r];rfl,t.add λc k=>?_);have k:c∈[97+j]:=k;rw[aat.mp k];lia
 ·rintro l u ⟨b,x,p,o,rfl,rfl,D,v,r,t⟩;exact(5,q x r t)
theorem Uq.cut{x:Str}(h:Uq x)(lo b:Option Int):Uq (nJ x lo b):=(afJ (gq _ _ _) h.1,oV.cut h.2 lo b)
inductive O4(K:PySem.W.Frag)(vs:List V)(H:Hp)(Q:VK)(_e1:XK):Prop
 | mk (c:Int) (p:Addr) (ws:List Str) (_:vs=[.int c,.ref p]) (_:Tg K H p (ws.map V.str)) (_:(∀w∈ws,Uq w)) (_:∀x:Str,Uq x->Q (.str x) H)
theorem Cy(T:Tx K mg a):aV P w K mg base Ti 2 a.aes a.adP ["_law_cell","_law_words_here"] (O4 K):=by
 refine T.aez.F.Tq gw λa1 A L s H vs Q E C h=>?_;obtain⟨c,p,e,rfl,I,S,q⟩:=h;refine(_,(aa (aA 2 gw.nd (aB bO (aB cH (aB bG (pv 0) ak) ak) ak))
  (aa (aA 3 gw.nd (aB bO (pv 0) ak))
  (aa (aX (PW.pt (nO (aG cR (pv 3) ak) (kj (aG cR (aL aO rfl T.Tz Tw.bh (My 1 aj)) ak)))) (ao (aD (aF T.V3 (cM T) C (My 2 (au (aB aZ ak (aB bO (pv 2) ak)) (au (aB bO (aB bG (pv 2) ak) ak) (au (aB aZ ak (aB bO (aB bG (pv 2) ak) ak)) aj))))))) aK)
  (aa (aA 4 gw.nd (aW jm (pv 1) (aB bO (pv 2) (aL aO rfl T.Tz Tw.bh (My 1 aj)))))
  (aa (aX (aG cR (pv 3) ak) (ao (aD (bZ iI (pv 4) cO (cB (aB bO (aB bG (pv 2) ak) (aB aZ (aL bz rfl T.Tz Tw.bh (My 4 aj)) ak)))))) aK)
  (aa (aX (aG cR (pv 3) ak) (ao (aD (bZ iI (aB dh (pv 4) (aF T.V3 (cM T) C (My 2 (au ak (au (aB bO (aB bG (pv 2) ak) ak) (au (aB aZ ak (aB bO (aB bG (pv 2) ak) ak)) aj)))))) cO (cB ak)))) aK)
  (aa (aX (PW.pt (gD (aG cR (pv 3) ak) (fY (aG jf (aL bz rfl T.Tz Tw.bh (My 4 aj)) ak)))) (aa (aA 5 gw.nd (aB bO (aB bG (pv 2) ak) (aL bz rfl T.Tz Tw.bh (My 4 aj))))
  (ao (aD (aB dh (aB dh (bZ iI (pv 4) cO (cB (pv 5))) (aF T.V3 (cM T) C (My 2 (au ak (au ak (au ak aj)))))) (bZ iI (pv 4) (cB (aB aZ (pv 5) ak)) cO))))) aK)
  (ao (aD (aF T.V3 (cM T) C (My 2 (au ak (au ak (au (aB bO (aB bG (pv 2) ak) ak) aj)))))))))))))),3)
 have k:(e.map V.str).length=e.length:=aaa ..;exists 5,4,(6,6),4,.inr (6,6),4,(by show (0:Int)<2147483647;decide);have D:=agk (c / 6*16807) (show (2147483647:Int)≠0 by decide);have n1:=agc (c / 6*16807) (show (0:Int)<2147483647 by decide);show fL 2 (.int (c / 6*16807%2147483647)) _ _ _;generalize c / 6*16807%2147483647=n at *;exists 5,4,(by show (0:Int)<6;decide);show fL 3 (.int (c%6)) _ _ _;generalize c%6=wy;have u:∀(B f:Int) (m:Nat),0<B->0<=f->m<=40->pW [.int n,.int B,.int f,.int (m:Int)] H (λv t=>Q v t) (λ_ _ _=>False):=λB f m W U h3=>(n,B,f,m,7,D,9,W,U,9,λx l r=>q x (9,r));have g:pW [.int n,.int (1+n%2),.int (n / 2%4),.int (1+n / 8%6)] H (λv t=>Q v t) (λ_ _ _=>False):=by
  have:=u (1+n%2) (n / 2%4) (1+n / 8%6).toNat ⋯ ⋯ ⋯;rw[ain ⋯]at this;exact this
 refine(5,7,5,bD (λ_=>?_) λ_=>?_)
 ·exact jj (2,4,(by show (0:Int)<2;decide),4,5,4,(6,6),4,(by show (0:Int)<4;decide),5,4,(6,6),4,(by show (0:Int)<6;decide),4,g)
 refine(5,p,5,.inl I,7,5,bD (λ_=>?_) λO=>?_)
 ·exact(2,4,(by show (0:Int)<2;decide),4,5,4,(6,6),4,(by show (0:Int)<4;decide),5,4,(6,6),4,(by show (0:Int)<6;decide),4,g)
 have O:e.length≠0:=λz=>O (decide_eq_true (congrArg V.int (by rw[k,z];rfl)));have M:(0:Int)<(e.length:Int):=by lia
 have g0:=agk n (show (e.length:Int)≠0 by lia);have g1:=agc n M;obtain⟨i,Y⟩:∃i:Nat,n%(e.length:Int)=i:=((n%(e.length:Int)).toNat,9);have N:i<e.length:=by lia
 have J:T7 (e.map V.str) (n%((e.map V.str).length:Int))=some (.str e[i]):=by
  rw[k,Y];exact m8 (by rw[aag,aad N];rfl)
 have o:=S _ (acz N);exists 2,5,p,5,.inl I,4,(by rw[k];exact M),p,_,4,I,J;generalize e[i]=b at *;have a0:=o.1;have d:b.length<=sizeLine:=by rw[sizeLine_eq];lia
 refine(5,7,5,bD (λ_=>?_) λ_=>?_)
 ·exact(2,4,(6,6),5,b,7,d,4,4,(by show (0:Int)<(b.length:Int)+1;lia),5,b,7,d,q _ (o.cut _ _))
 refine(5,7,5,bD (λ_=>?_) λ_=>?_)
 ·have Z:1+n / 64%4=(((1+n / 64%4).toNat:Nat):Int):=by lia
  refine(2,5,4,(6,6),4,(by show (0:Int)<4;decide),5,4,(6,6),4,(by show (0:Int)<4;decide),4,n,(2),n / 2%4,(1+n / 64%4).toNat,by rw[<-Z];rfl,D,9,9,9,9,λx l r=>?_);refine(b,x,7,7,by rw[sizeLine_eq];lia,2,by rw[gh,sizeLine_eq];lia,q _ (3,oV.cut (oV.add o.2 r) _ _));rw[show (40:Int)=((40:Nat):Int)from rfl,nA,uq];lia
 refine(5,7,5,uv ?_ λ_ R=>(5,b,7,d,4,5,bD (λc=>?_) λ_=>R))
 rotate_left
 ·have c:(0:Int)<(b.length:Int):=of_decide_eq_true c;have b0:=agk (n / 64) (show (b.length:Int)≠0 by lia);have b1:=agc (n / 64) c;exists 5,4,(6,6),5,b,7,d,4,(by show (0:Int)<(b.length:Int);lia);obtain⟨j,X⟩:∃j:Nat,n / 64%(b.length:Int)=j:=((n / 64%(b.length:Int)).toNat,9);show fL 5 (.int (n / 64%(b.length:Int))) _ _ _;rw[X]at b0 b1 ⊢;refine(2,5,b,7,d,5,n,26,0,(1),7,D,9,6,6,6,λx l r=>?_);have G:(nJ b none (some (j:Int))).length=j:=by
   rw[nA,uq];lia
  exists _,x,7,7,by rw[G,l,sizeLine_eq];lia,2,4,5,b,7,d;have l2:(nJ b (some ((j:Int)+1)) none).length<=b.length-(j+1):=by
   unfold nJ;show ((b.cps.toList.drop _).take _).toArray.size<=_;rw[aaB,aaL,ab3,yN,show (j:Int)+1=((j+1:Nat):Int) by lia,HT.lu,HT.mD];lia
  exact(4,by rw[gh,G,l,sizeLine_eq];lia,q _ (by rw[gh,gh,G,l];lia,((oV.cut o.2 _ _).add r).add (oV.cut o.2 _ _)))
 have y:pW [.int n,.int (26),.int (0),.int (n / 8%5)] H (λv t=>Q v t) (λ_ _ _=>False):=by
  have:=u (26) (0) (n / 8%5).toNat ⋯ ⋯ ⋯;rw[ain ⋯]at this;exact this
 exact(2,4,(6,6),4,(by show (0:Int)<5;decide),y)
theorem zy(x:Str):∀b:List Str,inV (.str x) (b.map V.str)=decide (x∈b)
 |[]=>rfl
 |w::b=>by
  have c:=zy x b;unfold inV at c ⊢;rw[aaD,ahl,c];by_cases e:w=x
  ·subst e;rw[decide_eq_true (show w∈w::b from abB)];have:Vg (.str w) (.str w)=true:=by simp[Vg]
   rw[this,ai8]
  ·have:Vg (.str w) (.str x)=false:=by simp[Vg,e]
   rw[this,ai3];exact decide_eq_decide.mpr (λh=>aaR _ h,λh=>by rcases aaO.mp h with h|h;exact absurd h.symm e;exact h)
theorem qK:∀b:List Str,(b.map V.str).all pQ=true
 |[]=>rfl
 |w::b=>by
  rw[aaD,aip,qK b];rfl
inductive Ke(K:PySem.W.Frag)(vs:List V)(H:Hp)(Q:VK)(_e1:XK):Prop
 | mk (s:Addr) (zs:List Int) (_:vs=[.ref s]) (_:Tg K H s (zs.map V.int)) (_:∀(r:Addr) (ws:List Str) (H':Hp),H r=none->aP H H'->H' r=some (.lst (ws.map V.str))->(∀w∈ws,Uq w)->ws.Nodup->ws.length<=63->much ws<=150->Q (.ref r) H')
theorem zr(T:Tx K mg a):aV P w K mg base Ti 3 a.adQ a.adf ["_law_script"] (Ke K):=by
 refine T.ad1.F.Tq dC λa1 A U s H vs Q E hr h=>?_;obtain⟨G,M,rfl,hS,q⟩:=h;refine(_,(aa (aA 1 dC.nd (cX aj))
  (aa (aA 2 dC.nd ak)
  (aa (bI PassesOwn.never rfl (bU (bZ p7 (pv 0) cO (cB ak))) (aU 3 dC.nd) (aa (aA 4 dC.nd (aF T.aez (Cy T) hr (My 3 (My 1 aj))))
  (ao (aX (PW.pt (gD (aG zE (pv 4) (pv 1) (by with_unfolding_all rfl)) (gD (aG jX (aL bz rfl T.Tz Tw.bh (My 4 aj)) (pv 2)) (fY (aG jW (aL aO rfl T.Tz Tw.bh (My 1 aj)) ak))))) (aa (bu (jg PySem.F.plainAttrs_list PySem.F.slot_list_append PySem.F.type_list_append b8 (pv 1) (My 4 aj)))
  (ao (aA 2 dC.nd (aB bA (pv 2) (aL bz rfl T.Tz Tw.bh (My 4 aj)))))) aK))))
  (ao (aD (pv 1)))))),3)
 refine((by show 0<=sizeLine;decide),λr m=>?_);have W:=az m (.lst []);refine(2,G,5,W.seq hS,λc O=>(c,7,(_,Tg.of aq),3));have S:c≠r:=(aJ aq O).symm;refine cz (xs:=fc (M.map V.int) none (some 63)) (λi C k=>∃(o n:Option V) (d:List Str) (j:Nat),C=[some (.ref G),some (.ref r),some (.int (j:Int)),o,n]/\aP H k/\k c=some (.lst (fc (M.map V.int) none (some 63)))/\k r=some (.lst (d.map V.str))/\(∀w∈d,Uq w)/\d.Nodup/\d.length<=i/\much d+j=150) (none,none,[],150,7,W.trans (az O _),aq,az O _ _ _ aq,nofun,List.nodup_nil,aac _,7) ?_ ?_ ?_
 ·rintro i C k _ ⟨_,_,_,_,_,_,h,_⟩;exact Tg.of h
 ·rintro i x C k X ⟨o,n,d,j,rfl,D,N,l,t,I,J,Y⟩;have hi:=(aab.mp X).1;have a0:i<63:=by
   rw[show (63:Int)=((63:Nat):Int)from rfl,Ka,aaa,aaL]at hi;lia
  obtain⟨z,rfl⟩:=GQ X;refine(2,z,r,d,7,Tg.of l,t,λf Vx=>?_);have Z1:=Vx.1;exists 2,r,5,.inl (Tg.of l),7,qK d,5;have y:∃(o n:Option V) (g:List Str) (u:Nat),[some (.ref G),some (.ref r),some (.int (j:Int)),some (.int z),some (.str f)]=[some (.ref G),some (.ref r),some (.int (u:Int)),o,n]/\aP H k/\k c=some (.lst (fc (M.map V.int) none (some 63)))/\k r=some (.lst (g.map V.str))/\(∀w∈g,Uq w)/\g.Nodup/\g.length<=i+1/\much g+u=150:=(8,d,j,7,D,N,l,t,I,9,Y);refine uv y λL nn=>(5,f,7,by rw[sizeLine_eq];lia,5,4,5,uv nn λZ R=>(5,r,5,.inl (Tg.of l),4,5,bD (λ_=>?_) λ_=>R));have Z:(f.length:Int)<=(j:Int):=of_decide_eq_true Z;have B:f∉d:=λh=>by
   have L:(!inV (.str f) (d.map V.str))=true:=L;rw[zy,decide_eq_true h]at L;cases L
  exists 5,.inl (7,_,Tg.of l),5,r,4,l,?_
  ·rw[aaa,sizeLine_eq];lia
  refine(2,f,7,by rw[sizeLine_eq];lia,4,some (.int z),some (.str f),d++[f],j-f.length,3,bT D m _,by rw[aH S];exact N,by rw[aq,aal];rfl,λv p=>?_,3,by rw[aaf,agi];lia,3)
  ·rw[show ((j-f.length:Nat):Int)=(j:Int)-(f.length:Int) by lia];rfl
  ·rcases aba.mp p with p|p
   ·exact t v p
   ·rw[aat.mp p];exact Vx
  ·refine aiB.mpr (I,List.pairwise_singleton _ _,λa ha b hb e=>?_);rw[aat.mp hb]at e;exact B (e ▸ ha)
  ·rw[Hn];lia
 ·rintro C k ⟨o,n,d,j,rfl,D,N,l,t,I,J,Y⟩;have J:d.length<=63:=by
   rw[show (63:Int)=((63:Nat):Int)from rfl,Ka,aaa,aaL]at J;lia
  exact(5,q r d k m D l t I J ⋯)
inductive N5(K:PySem.W.Frag)(vs:List V)(H:Hp)(Q:VK)(_e1:XK):Prop
 | mk (c:Int) (p:Addr) (ws:List Str) (_:vs=[.int c,.ref p]) (_:Tg K H p (ws.map V.str)) (_:(∀w∈ws,Uq w)) (_:∀x:Str,x.length<=145->Q (.str x) H)
theorem Bc(T:Tx K mg a):aV P w K mg base Ti 2 a.aet a.adR ["_law_cell","_law_words_here"] (N5 K):=by
 refine T.aeA.F.Tq eQ λR A u s H U Q E l h=>?_;obtain⟨c,p,e,rfl,m,L,q⟩:=h;refine(_,(aa (aA 2 eQ.nd (aB bO (aB cH (aB bG (pv 0) ak) ak) ak))
  (aa (aA 3 eQ.nd qt)
  (MP (aX (aG jf (aL aO rfl T.Tz Tw.bh (My 1 aj)) ak) (ao (aA 3 eQ.nd (aW jm (pv 1) (aB bO (aB bG (pv 2) ak) (aL aO rfl T.Tz Tw.bh (My 1 aj)))))) aK)
  (aa (aA 4 eQ.nd (aB bO (pv 0) ak))
  (aa (aX (aG cR (pv 4) ak) (ao (aD (bZ iI (pv 3) cO (cB (aB bO (aB bG (pv 2) ak) (aB aZ (aL bz rfl T.Tz Tw.bh (My 3 aj)) ak)))))) aK)
  (aa (aX (aG cR (pv 4) ak) (ao (aD (aB dh (pv 3) (aF T.V3 (cM T) l (My 2 (au ak (au ak (au (aB aZ ak (aB bO (aB bG (pv 2) ak) (aB bA ak (aL bz rfl T.Tz Tw.bh (My 3 aj))))) aj)))))))) aK)
  (aa (aX (PW.pt (gD (aG cR (pv 4) ak) (fY (aG jf (aL bz rfl T.Tz Tw.bh (My 3 aj)) ak)))) (aa (aA 5 eQ.nd (aB bO (aB bG (pv 2) ak) (aL bz rfl T.Tz Tw.bh (My 3 aj))))
  (ao (aD (aB dh (aB dh (bZ iI (pv 3) cO (cB (pv 5))) (aF T.V3 (cM T) l (My 2 (au ak (au ak (au ak aj)))))) (bZ iI (pv 3) (cB (aB aZ (pv 5) ak)) cO))))) aK)
  (aa (aX (aG cR (pv 4) ak) (ao (aD (pv 3))) aK)
  (ao (aD (aB dh (pv 3) (aF T.V3 (cM T) l (My 2 (au (aB aZ ak (aB bO (pv 2) ak)) (au (aB bO (aB bG (pv 2) ak) ak) (au (aB aZ ak (aB bO (aB bG (pv 2) ak) ak)) aj)))))))))))))))),3)
 have f:(e.map V.str).length=e.length:=aaa ..;exists 5,4,(6,6),4,.inr (6,6),4,(by show (0:Int)<2147483647;decide);have k:=agk (c / 6*48271) (show (2147483647:Int)≠0 by decide);have W:=agc (c / 6*48271) (show (0:Int)<2147483647 by decide);show fL 2 (.int (c / 6*48271%2147483647)) _ _ _;generalize c / 6*48271%2147483647=n at *;exists λ v D=>∃b:Str,Uq b/\v=[some (.int c),some (.ref p),some (.int n),some (.str b),none,none]/\D=H,3
 ·refine(5,p,5,.inl m,4,5,bD (λg=>?_) λ_=>(_,(aaF _,λc J=>by cases J),7,7));have g:(0:Int)<((e.map V.str).length:Int):=of_decide_eq_true g;rw[f]at g;have g0:=agk (n / 8) (show (e.length:Int)≠0 by lia);have Z:=agc (n / 8) g;obtain⟨i,N⟩:∃i:Nat,n / 8%(e.length:Int)=i:=((n / 8%(e.length:Int)).toNat,9);have z:i<e.length:=by lia
  have o:T7 (e.map V.str) (n / 8%((e.map V.str).length:Int))=some (.str e[i]):=by
   rw[f,N];exact m8 (by rw[aag,aad z];rfl)
  exact(2,4,(6,6),5,p,5,.inl m,4,(by rw[f];exact g),p,_,4,m,o,_,L _ (acz z),7,7)
 rintro v D ⟨b,I,rfl,rfl⟩;have O:=I.1;have d:b.length<=sizeLine:=by rw[sizeLine_eq];lia
 exists 5,4,(by show (0:Int)<6;decide);show fL 4 (.int (c%6)) _ _ _;generalize c%6=S;refine(5,7,5,bD (λ_=>?_) λ_=>?_)
 ·exact(2,4,(6,6),5,b,7,d,4,4,(by show (0:Int)<(b.length:Int)+1;lia),5,b,7,d,q _ (afJ (gq _ _ _) ⋯))
 refine(5,7,5,bD (λ_=>?_) λ_=>?_)
 ·have C:=agk (n / 128) (show 100-(b.length:Int)≠0 by lia);have B:=agc (n / 128) (show 0<100-(b.length:Int) by lia);have t:1+n / 128%(100-(b.length:Int))=(((1+n / 128%(100-(b.length:Int))).toNat:Nat):Int):=by lia
  exact(2,5,4,(6,6),5,b,7,d,4,4,(by show (0:Int)<100-(b.length:Int);lia),4,n,26,0,(1+n / 128%(100-(b.length:Int))).toNat,by rw[<-t];rfl,k,9,9,9,9,λx y _=>(b,x,7,7,by rw[sizeLine_eq];lia,q _ (by rw[gh];lia)))
 refine(5,7,5,uv ?_ λ_ G=>(5,b,7,d,4,5,bD (λc=>?_) λ_=>G))
 rotate_left
 ·have c:(0:Int)<(b.length:Int):=of_decide_eq_true c;have C:=agk (n / 512) (show (b.length:Int)≠0 by lia);have B:=agc (n / 512) c;exists 5,4,(6,6),5,b,7,d,4,(by show (0:Int)<(b.length:Int);lia);obtain⟨j,M⟩:∃j:Nat,n / 512%(b.length:Int)=j:=((n / 512%(b.length:Int)).toNat,9);show fL 5 (.int (n / 512%(b.length:Int))) _ _ _;rw[M]at C B ⊢;have Y:=gq b none (some (j:Int));have X:=gq b (some ((j:Int)+1)) none;exact(2,5,b,7,d,5,n,26,0,(1),7,k,9,6,6,6,λx y _=>(_,x,7,7,by rw[sizeLine_eq];lia,2,4,5,b,7,d,4,by rw[gh,sizeLine_eq];lia,q _ (by rw[gh,gh];lia)))
 refine(5,7,5,bD (λ_=>?_) λ_=>?_)
 ·exact(5,q _ ⋯)
 have r:1+n / 128%8=(((1+n / 128%8).toNat:Nat):Int):=by lia
 exact(2,5,4,(by show (0:Int)<2;decide),4,5,4,(6,6),4,(by show (0:Int)<4;decide),5,4,(6,6),4,(by show (0:Int)<8;decide),4,n,1+n%2,n / 2%4,(1+n / 128%8).toNat,by rw[<-r];rfl,k,9,9,9,9,λx y _=>(b,x,7,7,by rw[sizeLine_eq];lia,q _ (by rw[gh];lia)))
def WP(b:List Str)(u:Str)(n:Nat)(v:V):Prop:=(v=.non /\ ∀k,k<n->beg u k∉b) \/ ∃k,k<n/\v=.str (beg u k)/\beg u k∈b /\ ∀j,k<j->j<n->beg u j∉b
theorem WP.uniq{u:Str}{n:Nat}{v f:V}(h:WP N u n v)(h':WP N u n f):v=f:=by
 rcases h with ⟨rfl,h⟩|⟨k,i,rfl,g,h⟩<;>rcases h' with ⟨rfl,h'⟩|⟨e,d,rfl,b,h'⟩
 ·rfl
 ·exact absurd b (h e d)
 ·exact absurd g (h' k i)
 ·rcases ago k e with c|rfl|c
  ·exact absurd b (h e c d)
  ·rfl
  ·exact absurd g (h' k c i)
theorem pI.self(h:pI N ps){w:Str}(b:w∈N):w∈ps:=(h.mem w).mpr (.inr (w,b,w.length,(Gn w (aac _)).symm))
theorem SA.uni{p:SR}(x:SA H f C p d){u:Str}{b:List Nat}(h:Lr p.L u.cps.toList b){k:Nat}(g:b.length<=k)(i:k<=u.length):beg u k∉p.ws:=λc=>by
 have e:u.cps.toList.length=u.length:=aae;have:=x.pc.pre _ (SR.mem (x.begs.self c)) b.length;rw[bY,ahc,afb g]at this;exact h.no ⋯ this
inductive wL(Ph:Addr)(Pt:Addr)(vs:List V)(H:Hp)(Q:VK)(_e1:XK):Prop
 | mk (p:SR) (ss:List Int) (u:Str) (_:vs=[.ref p.t,.ref p.f,.str u]) (_:SA H Ph Pt p ss) (_:ss.length<=1000) (_:u.length<=150) (_:∀v ss' H',WP p.ws u (u.length+1) v->eY H H' Ph Pt p 170000 ss ss'->Q v H')
theorem ww(T:Tx K mg a)(B:Bs mg base a):aV P w K mg base Ti 13 a.adb a.acx ["tables","look","text"] (wL a.TV a.T3):=by
 refine T.adt.F.Tq jB λa4 A S s H vs Q E U h=>?_;obtain⟨p,ss,u,rfl,x,a1,Z4,q⟩:=h;refine(_,(aa (bI PassesOwn.never rfl (Do rfl T.Yk (au (Bt rfl rfl T.Xi Tw.o7 rfl T.Wj Tw.zg (au (aF T.ae7 (Dt T B) U (My 0 (My 1 (My 2 aj)))) aj)) aj) Tw.jq) (lr rfl (bL (aU 3 jB.nd) (bL (aU 4 jB.nd) ig))) (ao (aX (vL (aF T.afz (Io T B) U (My 0 (My 1 (My 4 aj))))) (ao (aD (bZ iI (pv 2) cO (cB (pv 3))))) aK)))
  (ao (aD dM))),3)
 have ul:u.cps.toList.length=u.length:=aae;refine(2,5,p,ss,u,7,x,9,Z4,λr e T4 H1 a2 yr M R=>?_);have a3:=M.le;have a0:=R.wr.len;refine(r,5,Tg.of yr,λl N H2 hl up G hT=>(l,5,Tg.of G,3));have O:=R.same up;have n:=x.did O ⋯;have nl:l≠p.sn:=(aJ R.seen hl).symm;have X:((ab5 (nats e).length).map λj=>V.ref (N+j)).length=e.length:=by rw[aaa,afE,aaa]
 refine zc (xs:=(ab5 (nats e).length).map λj=>V.ref (N+j)) (λi D C=>∃J I g,D=[some (.ref p.t),some (.ref p.f),some (.str u),J,I]/\eY H2 C a.TV a.T3 p i T4 g /\ ∀k,e.length-i<=k->k<=u.length->beg u k∉p.ws) (none,none,T4,7,n.self,λk y m=>x.uni M y m) ?_ ?_ ?_
 ·rintro i D C _ ⟨_,_,_,_,d,_⟩;exact Tg.of (d.kp _ _ G (TabAt.ne n.nd.b.tab G nofun) (TabAt.ne n.tab G nofun) nl)
 ·rintro i v D C hi L ⟨J,I,g,rfl,d,o⟩;rw[X]at hi L;rw[aag,List.getElem?_range (by rw[aaa];lia)]at L;cases L;obtain⟨j,W⟩:∃j,e[e.length-1-i]?=some j:=(_,aad ⋯);have Xb:=n.kp d _ _ (hT (e.length-1-i) (.int j) (by rw[aag,W];rfl)) nofun nofun;have wl:=d.wr.len;have x3:=n.did d ⋯;obtain⟨t,y,m,_⟩:=x.at (M.at' _ _ W);obtain rfl:t=beg u (e.length-1-i):=iu (by rw[m,bY]);exists _,5,Tj.of Xb,7,_,5,4;refine(2,5,p,g,j,5,x3,y,λZ H3 Y=>?_);have d4:=(O.trans (d.trans Y)).le (k:=170000) ⋯;refine(5,bD (λz=>?_) λz=>?_)
  ·have z:beg u (e.length-1-i)∈p.ws:=of_decide_eq_true z;refine(2,5,u,7,by rw[sizeLine_eq];lia,3);rw[nA];exact q _ Z H3 (.inr (e.length-1-i,9,7,z,λj y m=>o j ⋯ ⋯)) d4
  ·have z:beg u (e.length-1-i)∉p.ws:=of_decide_eq_false (aiD.mpr z);refine(8,Z,7,d.trans Y,λk y m=>?_);rcases aaq k (e.length-i)with c|c
   ·obtain rfl:k=e.length-1-i:=by lia
    exact z
   ·exact o k c m
 ·rintro D C ⟨J,I,g,rfl,d,o⟩;rw[X]at d o;exact q _ g C (.inl (7,λk hk=>o k ⋯ ⋯)) ((O.trans d).le ⋯)
inductive vg(K:PySem.W.Frag)(vs:List V)(H:Hp)(Q:VK)(_e1:XK):Prop
 | mk (u:Str) (l:Addr) (ws:List Str) (_:vs=[.str u,.ref l]) (_:Tg K H l (ws.map V.str)) (_:u.length<=150) (_:∀v,WP ws u (u.length+1) v->Q v H)
theorem vN(T:Tx K mg a):aV P w K mg base Ti 1 a.acy a.abU ["_law_text_here","_law_words_here"] (vg K):=by
 refine T.acJ.F.Tq fj λB A n s H C Q E D h=>?_;obtain⟨u,l,d,rfl,y,I,q⟩:=h;refine(_,(aa (aA 2 fj.nd dM)
  (aa (bI PassesOwn.never rfl (qZ rfl T.Wk (au (aB aZ (aL bz rfl T.Tz Tw.bh (My 0 aj)) ak) aj)) (aU 3 fj.nd) (ao (aX (aG Js (bZ iI (pv 0) cO (cB (pv 3))) (pv 1) (by with_unfolding_all rfl)) (ao (aA 2 fj.nd (bZ iI (pv 0) cO (cB (pv 3))))) aK)))
  (ao (aD (pv 2))))),3)
 refine(5,u,7,by rw[sizeLine_eq];lia,4,(u.length:Int)+1,7,9,9,3);rw[show ((u.length:Int)+1).toNat=u.length+1 by lia];refine yg (λi c m=>∃v f,c=[some (.str u),some (.ref l),some v,f]/\m=H/\WP d u i v) (_,none,7,7,.inl (7,λk h=>absurd h (agu _))) ?_ ?_
 ·rintro i c m G ⟨v,f,rfl,rfl,g⟩;rw[Int.zero_add];have b:u.length<=sizeLine:=by rw[sizeLine_eq];lia
  exists 2,5,u,7,b,5,l,5,.inl y,7,qK _;rw[nA,zy];refine(5,bD (λz=>?_) λz=>?_)
  ·have z:beg u i∈d:=of_decide_eq_true z;exists 2,5,u,7,b;rw[nA];exact(4,.inr (i,age _,7,z,λj t r=>by lia))
  ·have z:beg u i∉d:=of_decide_eq_false (aiD.mpr z);have o:∀{k},k<i+1->k<i\/k=i:=λh=>by lia
   exists 4;rcases g with ⟨rfl,h⟩|⟨k,p,rfl,x,h⟩
   ·exact .inl (7,λk p=>(o p).elim (h k) λe=>e ▸ z)
   ·exact .inr (k,9,7,x,λj t r=>(o r).elim (h j t) λe=>e ▸ z)
 ·rintro c m ⟨v,f,rfl,rfl,g⟩;exact(5,q _ g)
inductive Mr(K:PySem.W.Frag)(vs:List V)(H:Hp)(Q:VK)(_e1:XK):Prop
 | mk (p:Addr) (ss:List Int) (size:Int) (_:vs=[.ref p,.int size]) (_:Tg K H p (ss.map V.int)) (_:(∀x∈ss,0<=x/\x<size)) (_:Q (.bl true) H)
theorem yM(T:Tx K mg a):aV P w K mg base Ti 2 a.adS a.adg ["_law_seen","_law_size"] (Mr K):=by
 refine T.ad2.F.Tq oU λt A g s H u Q E n h=>?_;obtain⟨p,l,b,rfl,j,m,q⟩:=h;refine(_,(aa (bI PassesOwn.never rfl (bU (pv 0)) (aU 2 oU.nd) (ao (aX (PW.pt (nO (nU (vL (aF T.ad0 (zb T) n (My 2 aj)))) (nO (aG jW (pv 2) ak) (kj (aG By (pv 2) (pv 1)))))) (ao (aD rZ)) aK)))
  (ao (aD rZ))),3)
 exists 5,p,7,(_,j);refine cz (xs:=l.map V.int) (λi d e=>(∃k,d=[some (.ref p),some (.int b),k])/\e=H) ((none,7),7) ?_ ?_ ?_
 ·rintro i d e _ ⟨_,rfl⟩;exact j
 ·rintro i x d e f ⟨⟨k,rfl⟩,rfl⟩;obtain⟨c,o,rfl⟩:=int_at f;have r:=m c (aah o);refine(5,c,7,true,7,dN ?_);refine(5,4,5,bD (λz=>?_) λ_=>?_)
  ·have z:=of_decide_eq_true z;lia
  refine(2,4,5,bD (λz=>?_) λ_=>?_)
  ·have z:=of_decide_eq_true z;lia
  exact((_,7),7)
 ·rintro d e ⟨⟨k,rfl⟩,rfl⟩;exact q
theorem Store.sa{r t :Addr}(St:Store H r t C N ps)(hW:∀w∈N,Uq w)(y:N.Nodup)(hl:ps.length<=2001):∃q:SR,q.t=t/\q.ws=N/\q.ts=ps/\H C=some (.lst q.al)/\q.al.length<=3000 /\
  ∀(l:Hp) (v u f sn o:Addr) (cs:List Addr),Kp H l->l sn=some (.lst [])->l o=some (.lst q.al)->sn≠o->je l f bV cs [.ref sn,.ref o]->TabAt l v (bW bR) aY.qual->TabAt l u (bW bw) aM.qual->u≠v->SA l v u {q with f:=f,sn:=sn,bl:=o} []:=by
 obtain⟨xr,⟨R,Q,O,ah,W,b1,r2,b2,Z,c2,VG,b3,p,S,D,X,h,Y,J,m,j,g,WQ⟩,E⟩:=St;have I:=E.good;have z:(ps.map λt:Str=>((t.length:Nat):Int)).length=ps.length:=aaa ..;have x:=nq I;rw[z]at x;refine((t,R,Q,O,ah,W,Z,c2,VG,0,0,0,p,S,D,X,h,Y,N,ps),7,7,7,WQ,3,λl v u f sn o cs i hs hb U G M L T=>?_)
 ·have F:=j.size (by rw[aaa,ab3];lia);rw[aaa]at F;have h2:(bB (brk (ps.map λt:Str=>((t.length:Nat):Int)) 0)).length<=126:=by rw[bC,x];unfold many;lia
  have h3:(bB (ps.map (mC N))).length<=63:=by rw[bC,aaa];unfold many;lia
  have e:∀A B d:List Int,A.length<=126->B.length<=1600->d.length<=63->((A++B++d).map V.int).length<=3000:=λA B d a b c=>by
   rw[aaa,aaf,aaf];lia
  exact e _ _ _ h2 F h3
 ·refine(i _ _ J nofun nofun,((((i _ _ m.tab.tup nofun nofun,i _ _ m.tab.Uy nofun nofun,m.tab.few),(.inl (7,sn,cs,7,G),λa0 e=>?_,hb,6),3,3,λn s=>?_),i _ _ m.VD nofun nofun,m.low,m.sz,m.heap,M),6,7,I),i _ _ j.t nofun nofun,i _ _ j.k nofun nofun,i _ _ j.c nofun nofun,j.ls.to λb D e=>i _ _ e nofun nofun,j.kd,j.sz,j.h12,(i _ _ g.tup nofun nofun,i _ _ g.Uy nofun nofun,g.few),(7,sn,cs,7,G),L,E,hW,hl,6,T,y)
  ·cases e;exact(hs,U)
  ·exact n8 _ _
  ·show (brk (ps.map λt:Str=>((t.length:Nat):Int)) 0).length<=4096;rw[x];lia
  ·show (List.map V.int (_++_++_))[0+n]?=_;have s:n<many (brk (ps.map λt:Str=>((t.length:Nat):Int)) 0).length:=s;rw[agv,aag,aaQ,aaz (by rw[bC];exact s)];exact congrArg (ai1 V.int) (jT s)
structure tV(H6 H':Hp)(Pt Ph Pl:Addr):Prop where
 ob:∀b o,H6 b=some o->(∀ps,o ≠ .Tv ps)->H' b=some o
 tt:TabAt H' Pt (bW bw) aM.qual
 th:TabAt H' Ph (bW bR) aY.qual
 tl:TabAt H' Pl (xM eO) bV.qual
theorem tV.same{g H' i:Hp}{c f d:Addr}(h:tV g H' c f d)(s:aP H' i):tV g i c f d:=(λb o e n=>s _ _ (h.ob b o e n),TabAt.same h.tt s,TabAt.same h.th s,TabAt.same h.tl s)
theorem tV.made{d:Hp}(h:tV H H' f C S)(j:f≠S)(i:C≠S)(c:nM S H' d)(g:TabAt d S (xM eO) bV.qual):tV H d f C S:=
 (λb o e n=>c b o (h.ob b o e n) (TabAt.ne h.tl (h.ob b o e n) n),TabAt.keep h.tt h.tl j λb o e n _=>c b o e n,TabAt.keep h.th h.tl i λb o e n _=>c b o e n,g)
theorem tV.did{l:Hp}{p:SR}{k:Nat}(h:tV H H' f C S)(y:f≠S)(v:C≠S)(A:∀b o,H b=some o->(∀ps,o ≠ .Tv ps)->b≠p.sn)(x:SA H' C f p d)(c:eY H' l C f p k d M):tV H l f C S:=by
 exists λb o e n=>c.kp b o (h.ob b o e n) (TabAt.ne h.th (h.ob b o e n) n) (TabAt.ne h.tt (h.ob b o e n) n) (A b o e n),c.tabT,c.tab;obtain⟨ps,j,r,i⟩:=h.tl;exists ps,c.kp _ _ j v.symm y.symm (λz=>by rw[z,x.sn.1]at j;cases j),r;rcases i with i|⟨B,u,s,t,q,g,m⟩
 ·exact .inl i
 ·exact .inr (B,u,s,t,q,c.kp _ _ g (TabAt.ne h.th g nofun) (TabAt.ne h.tt g nofun) (λz=>by rw[z,x.sn.1]at g;cases g),m)
theorem tV.fresh{H':Hp}{sn:Addr}(h:tV H H' f C S)(c:H' sn=none):∀b o,H b=some o->(∀ps,o ≠ .Tv ps)->b≠sn:=λb o e n=>aJ (h.ob b o e n) c
theorem Jz{K:PySem.W.Frag}{a:Addr}{xs:List V}{d:L2.St}{tt:TT}(R:V->Prop)(p:Tg K H a xs)(s:xs.length<sizeLine)
  (j:∀(x:V) (H':Hp) (Q:Bool->Hp->Prop),Q true H'->tt (some x::d) H' Q)(r:∀(x:V) (H':Hp) (Q:VK),x∈xs->aP H H'->(∀y,R y->Q y H')->ta (some x::d) H' Q)
  (q:∀b ys,H b=none->ys.length=xs.length->(∀y∈ys,R y)->D b (upd H b (.lst ys))):jG (VJ K a) d tt ta D H:=by
 intro b g;exists λi m ys n=>m=xs.length-i/\i<=xs.length/\ys.length=i/\(∀y∈ys,R y)/\n=upd H b (.lst ys),(5,aaF _,7,nofun,7);rintro i m ys n ⟨rfl,t,rfl,l,rfl⟩;have h:=(az g (.lst ys)).seq p;by_cases c:ys.length<xs.length
 ·have k:=aad c;refine .inr ((8,h,k),λv u y=>?_);obtain⟨rfl,y⟩:=y;have e:=y _ h;rw[k]at e;cases e;refine j _ _ _ ?_;rw[if_pos rfl];refine r _ _ _ (acz c) (az g _) λy o=>(aq,9,xs.length-(ys.length+1),9,7,c,by rw[aaf];rfl,λz f=>?_,3)
  ·rcases aba.mp f with f|f
   ·exact l z f
   ·rw[aat.mp f];exact o
  ·rw[nF]
 ·have e:ys.length=xs.length:=by lia
  exact .inl ((_,h,ahk e.symm),q b ys g e l)
inductive Z5(K:PySem.W.Frag)(Pt:Addr)(Ph:Addr)(Pl:Addr)(vs:List V)(H:Hp)(Q:VK)(_e1:XK):Prop
 | mk (s:Addr) (ns:List Int) (_:vs=[.ref s]) (_:Tg K H s (ns.map V.int)) (_:ns.length<=63) (_:TabAt H Pt (bW bw) aM.qual) (_:TabAt H Ph (bW bR) aY.qual) (_:TabAt H Pl (xM eO) bV.qual) (_:∀H',Q (.bl true) H')
theorem PK(T:Tx K mg a)(B:Bs mg base a):aV P w K mg base Ti 14 a.afU a.afI ["_law_script"] (Z5 K a.T3 a.TV a.Va):=by
 refine T.afZ.F.Tq mO λc2 A b2 s H vs Q E I h=>?_;obtain⟨sa,C,rfl,hS,hl,tt,th,tl,q⟩:=h;refine(_,(aa (rE (i:=1) mO.nd rfl (ahs rfl) (aF T.ad1 (zr T) I (My 0 aj)))
  (aa (JT (aF T.adp (wV T) I (au (cW lD rfl T.Xi Tw.o7 (My 1 aj)) aj)) (lr rfl (bL (aU 2 mO.nd) (bL (aU 3 mO.nd) ig))))
  (aa (bI PassesOwn.never rfl (bU (aB lX (cX (au qt aj)) (m5 rfl (cj.one (j:=1) rfl (agP rfl) rfl rfl (agP rfl)) (bU (bZ p7 (pv 0) (cB (nR jK ak)) cO)) (λ_ _ _ _=>eZ) (λ_ _ _ _=>(aF T.aeA (Bc T) I (My 0 (My 1 aj))))))) (aU 4 mO.nd) (aa (aA 5 mO.nd (cX aj))
  (aa (aA 6 mO.nd (aF T.adt (ww T B) I (My 2 (au (aF T.aeB (BR T B) I (au (cW lD rfl T.Xi Tw.o7 (My 3 aj)) (My 5 aj))) (My 4 aj)))))
  (aa (aA 7 mO.nd (aF T.acJ (vN T) I (My 4 (My 1 aj))))
  (aa (aX (nU (vL (aF T.ad2 (yM T) I (My 5 (au (aL aO rfl T.Tz Tw.bh (My 3 aj)) aj))))) (ao (aD rZ)) aK)
  (ao (aX (fX (mQ (pv 7))) (ao (aX (fX (uz (pv 6))) (ao (aD rZ)) aK)) (ao (aX (PW.pt (nO (nU (vL (aL vy rfl T.Zv Tw.ju (My 6 (au (zJ (v:=.ty "str") rfl T.af2 Tw.QW rfl) aj))))) (kj (aG yc (pv 6) (pv 7))))) (ao (aD rZ)) aK)))))))))
  (ao (aD rZ))))),3)
 refine(5,sa,C,7,hS,λwl N H1 b9 l m hW nd b3 hm=>?_);refine(5,wl,5,.inl (Tg.of m),λhn b1=>?_);have s2:=az b1 (.lst (N.map V.str));have xh:upd H1 hn (.lst (N.map V.str)) hn=some (.lst (N.map V.str)):=aq
 replace m:=s2 _ _ m
 replace l:=l.trans s2
 generalize upd H1 hn (.lst (N.map V.str))=H2 at *;refine(hn,N,7,Tg.of xh,hW,nd,9,9,λr t b0 ts S W St c0=>?_)
 replace m:=W _ _ m
 replace l:=l.trans W
 exists r,5,Tj.of St.r,7,_,5,4;obtain⟨p,rfl,rfl,rfl,Yu,c1,mk⟩:=St.sa hW nd ⋯;refine((by show 1<=sizeLine;decide),λL a1=>?_)
 have u1:=az a1 (.lst [V.str ""])
 refine(2,5,sa,5,(l.trans u1).seq hS,λc hc=>(c,7,(_,Tg.of aq),3));have u2:=az hc (.lst (fc (C.map V.int) (some (-6)) none))
 have U:=u2 _ _ (aq:upd S L (.lst [V.str ""]) L=_)
 have cl:(fc (C.map V.int) (some (-6)) none).length<=63:=by
  have:=sH (C.map V.int) (some (-6)) none;rw[aaa]at this;lia
 refine Jz (λy=>∃x:Str,y=.str x/\x.length<=145) (Tg.of aq) (by rw[sizeLine_eq];lia) (λ_ _ _ q=>q) (λy n Q' hy sm qq=>?_) λl2 g a0 a6 a5=>?_
 ·obtain⟨i,hi⟩:=aaP hy;obtain⟨z,rfl⟩:=GQ hi;exact(2,z,wl,p.ws,7,Tg.of (sm _ _ (u2 _ _ (u1 _ _ m))),hW,λx G=>qq _ (x,7,G))
 have u3:=az a0 (.lst g);refine(L,l2,4,u3 _ _ U,aq,by rw[sizeLine_eq,a6];show 1+_<=_;lia,λR Z=>(R,7,(_,Tg.of aq),3))
 have u4:=az Z (.lst ([V.str ""]++g))
 have O:=((u1.trans u2).trans u3).trans u4
 have a3:upd (upd (upd (upd S L (.lst [V.str ""])) c (.lst (fc (C.map V.int) (some (-6)) none))) l2 (.lst g)) R (.lst ([V.str ""]++g)) R=some (.lst (V.str ""::g)):=aq
 replace Yu:=O _ _ Yu
 replace m:=O _ _ m
 replace l:=l.trans O
 have a4:Kp S (upd (upd (upd (upd S L (.lst [V.str ""])) c (.lst (fc (C.map V.int) (some (-6)) none))) l2 (.lst g)) R (.lst ([V.str ""]++g))):=Kp.of O
 clear u1 u2 u3 u4 O U hc a1 a0 Z
 generalize upd (upd (upd (upd S L (.lst [V.str ""])) c (.lst (fc (C.map V.int) (some (-6)) none))) l2 (.lst g)) R (.lst ([V.str ""]++g))=H6 at *
 have a7:∀x∈(V.str ""::g),∃u:Str,x=.str u/\u.length<=145:=λx G=>by
  rcases aaO.mp G with rfl|G
  ·exact("",7,6)
  ·exact a5 x G
 generalize b6:(V.str ""::g)=xs at *
 refine cz (xs:=xs) (λi σ n=>(∃k4 k5 k6 k7,σ=[some (.ref sa),some (.ref wl),some (.ref p.t),some (.ref b0),k4,k5,k6,k7])/\tV H6 n a.T3 a.TV a.Va) ((8,_,5),λ_ _ e _=>e,TabAt.same tt l,TabAt.same th l,TabAt.same tl l) ?_ ?_ ?_
 ·rintro i σ n _ ⟨_,e⟩;exact Tg.of (e.ob _ _ a3 nofun)
 ·rintro i x σ n G ⟨⟨k4,k5,k6,k7,rfl⟩,e⟩;obtain⟨u,rfl,hu⟩:=a7 x (aah G);refine((by show 0<=sizeLine;decide),λD Y=>?_);have v1:=az Y (.lst []);have e1:=e.same v1;have fr:=e.fresh Y;have J:upd n D (.lst []) D=some (.lst []):=aq;generalize upd n D (.lst [])=H7 at *;refine(2,b0,5,.inl (Tg.of (e1.ob _ _ Yu nofun)),λM Vc=>?_);have v2:=az Vc (.lst p.al);have e2:=e1.same v2;have Xk:D≠M:=aJ J Vc
  replace J:=v2 _ _ J
  have WQ:upd H7 M (.lst p.al) M=some (.lst p.al):=aq;generalize upd H7 M (.lst p.al)=H8 at *;refine(5,M,D,7,e2.tl,λf cs H9 hf Z6 a2 ca=>?_);have e3:=e2.made B.aav B.aaw Z6 a2
  replace J:=Z6 _ _ J (TabAt.ne e2.tl J nofun)
  replace WQ:=Z6 _ _ WQ (TabAt.ne e2.tl WQ nofun)
  have x:=mk H9 a.TV a.T3 f D M cs (λb o h n1 n2=>e3.ob _ _ (a4 b o h n1 n2) n1) J WQ Xk ca e3.th e3.tt B.abq;refine(5,_,[],u,7,x,6,9,λv b5 c3 hv d=>?_);have e4:=e3.did B.aav B.aaw fr x d;obtain⟨b4,X,_,a9⟩:=d.wr;rw[ahm]at X;subst X;refine(2,u,wl,p.ws,7,Tg.of (e4.ob _ _ m nofun),9,λv' a8=>?_);refine(2,b0,5,.inl (Tg.of (e4.ob _ _ Yu nofun)),D,_,5,Tg.of d.seen,a9,true,7,dN ?_);obtain rfl:=a8.uniq hv;rcases hv with ⟨rfl,_⟩|⟨k,_,rfl,_⟩
  ·exact(2,jj (2,dN ((8,_,5),e4)))
  ·refine(2,dN ?_)
   refine(5,_,"str",_,true,7,.str _,7,true,7,dN ?_)
   exact(2,7,5,yj rfl ((8,_,5),e4))
 ·rintro σ n ⟨_,_⟩;exact q n
theorem Hh{s :Addr}(c:Tg K H s (d.map V.int))(b:d.length<=63)(h:H f=some (.Tv #[]))(g:H C=some (.Tv #[]))(e:H S=some (.Tv #[])):Z5 K f C S [.ref s] H (λv _=>v=.bl true) λ_ _ _=>False:=
 (s,d,7,c,b,tab0 h,tab0 g,tab0 e,λ_=>rfl)
end
theorem Qg{l:PySem.W.OpenLaw}{w:World}{mg:Str->Option Value}{f5 f6 f7 f8 f9 q7 a1 q6 q5 q4 q3 q2 q1 q0 p9 p5 p4 p3 p2 p1 p0 o4 o3 o2 o1 o0 n9 n7 n5 n4 n3 n2 Z7 n1 n0 m4 m3 m2 m1 m0 l9 l8 l7 l6 l5 l4 l3 l2 l1 l0 k9 k8 k7 k6 k5 k4 k3 k2 k1 k0 j3 j2 j1 i9 i8 i7 i6 i5 i4 i3 i2 i1 i0 h9 h8 h7 h6 h5 h4 Z8 h3 h2 h1:Addr}{e0 e1 e2 e3 e4 e5 e6 e7 e8 e9 z6 z5 z4 z3 z2 z1 z0 y9 y8 y7 y6 y5 y4 y3 y2 y1 y0 x9 x8 x7 x6 x5 x4 x3 x2 x1 x0 w9 w8 w7 w4 w3 w2 w1 w0 v3 v2 v1 v0 u8 u7 u4 u3 u2 u1 t9 t8 t7 t6 t5 t4 t3 t2 t1 t0 s9 s8 s7 s6 s5 s4 s3 s2 s1 s0 r9 r8 r7 r6 r5 r4 r3 r2 r1 r0:FuncData}{c0 g6 b9 g5 b6 g4:Option Addr}{b2 b1 b0:Array (Option Value)}{c3 c7 g0 b5 g3 c2 c6 c9 b4 g2 c1 c5 c8 b3 g1:Value}{p O r m o k n:Tok}{P:Addr}{V0 T3 V1 TV V2 Va:Addr}{x y J:Value}{A B L:Option Addr}{i j:Array Value}{t u I:Array (Option Value)}{mb:Str->Option Value}{c4:ExcName->Option Value}(X:K.In h')(TT:PyProof.Rows.Top prog N c4 mg mb h')(h0:mg "law" = some (.ref f))
  (d0:FI K "packed" vY C e0)
  (d1:FI K "check_row" mz S e1)
  (d2:FI K "block_of" oN c e2)
  (d3:FI K "bit_in" vh dx e3)
  (d4:FI K "bits_of" qj Pt e4)
  (d5:FI K "ones_in" q9 f5 e5)
  (d6:FI K "one_in" uX f6 e6)
  (d7:FI K "nets_of" rD f7 e7)
  (d8:FI K "low_in" vz f8 e8)
  (d9:FI K "first_low_in" iC f9 e9)
  (I1:FI K "last_low_in" jz q7 z6)
  (a6:PySem.W.nsIn K mainGlobals "look_from" = some (some (.ref a1)))(a4:K.lookup a1=some (c3,c0,.func (PySem.W.fnOf "look_from" "look_from" (ν cF) (μ cF) (δ cF) .none c7 g0 b5 g6 (.ref V0) g3),b2))(Z9:PySem.W.codeIn K (.ref V0) "look_from" = true)(g9:PySem.W.keepIn K (.ref a1)=true)
  (P2:K.lookup V0=some (x,A,.fields G,t))(P1:G[11]?=some (.ref T3))(Xr:∃d,(PyProof.Rows.recsOf prog).find? (λe=>e.name==("look_from" : Str))=some d)
  (I0:FI K "heap_of" rN q6 z5)
  (H9:FI K "size_of" rC q5 z4)
  (H8:FI K "lesser_of" mH q4 z3)
  (H7:FI K "first_at_most" gP q3 z2)
  (H6:FI K "last_at_most" iJ q2 z1)
  (H5:FI K "place_beneath" gF q1 z0)
  (H4:FI K "check_stretch" gQ q0 y9)
  (H3:FI K "cover" yG p9 y8)
  (H2:FI K "kept_row" oA p5 y7)
  (H1:FI K "ahead_of" nZ p4 y6)
  (H0:FI K "check_place" jy p3 y5)
  (G2:FI K "bit_at" vM p2 y4)
  (G1:FI K "ones_at" qM p1 y3)
  (G0:FI K "noughts_at" kY p0 y2)
  (F9:FI K "one_place" lO o4 y1)
  (F8:FI K "check_nth" lM o3 y0)
  (F7:FI K "last_no_greater" fG o2 x9)
  (F6:FI K "is_tree" rF o1 x8)
  (F5:FI K "check_brackets" fQ o0 x7)
  (F4:FI K "kept_brackets" gB n9 x6)
  (F3:FI K "low_of" u6 n7 x5)
  (F2:FI K "base_of" qx n5 x4)
  (F1:FI K "start_within" iz n4 x3)
  (F0:FI K "end_within" lA n3 x2)
  (E9:FI K "block_count" jD n2 x1)
  (a5:PySem.W.nsIn K mainGlobals "heap_look" = some (some (.ref Z7)))(a3:K.lookup Z7=some (c2,b9,.func (PySem.W.fnOf "heap_look" "heap_look" (ν cu) (μ cu) (δ cu) .none c6 c9 b4 g5 (.ref V1) g2),b1))(I3:PySem.W.codeIn K (.ref V1) "heap_look" = true)(g8:PySem.W.keepIn K (.ref Z7)=true)
  (O0:K.lookup V1=some (y,B,.fields i,u))(N9:i[11]?=some (.ref TV))(Xu:∃d,(PyProof.Rows.recsOf prog).find? (λe=>e.name==("heap_look" : Str))=some d)
  (E8:FI K "height" u5 n1 x0)
  (E7:FI K "low_behind" j5 n0 w9)
  (E6:FI K "first_within" iT m4 w8)
  (E5:FI K "place_of_bit" iG m3 w7)
  (E4:FI K "low_ahead" mG m2 w4)
  (E3:FI K "last_low_upto" gJ m1 w3)
  (E2:FI K "last_within" jN m0 w2)
  (E1:FI K "check_bracket" gA l9 w1)
  (D9:FI K "closing" qN l8 w0)
  (D8:FI K "opening" rz l7 v3)
  (D7:FI K "check_depths" iK l6 v2)
  (D6:FI K "brackets_of" jx l5 v1)
  (D5:FI K "kept_tree" lR l4 v0)
  (D4:FI K "check_signs" jM l3 u8)
  (D3:FI K "kept_signs" j9 l2 u7)
  (D2:FI K "ranks_among" jL l1 u4)
  (D1:FI K "level_count" jF l0 u3)
  (D0:FI K "level_rows" lz k9 u2)
  (C9:FI K "parted" vf k8 u1)
  (C8:FI K "levels_of" lJ k7 t9)
  (C7:FI K "place_below" jO k6 t8)
  (C6:FI K "nought_count" ji k5 t7)
  (C5:FI K "sign_at" qy k4 t6)
  (C4:FI K "node_count" j8 k3 t5)
  (C3:FI K "check_node" kO k2 t4)
  (C2:FI K "node_at" qU k1 t3)
  (C1:FI K "place_of" oh k0 t2)
  (C0:FI K "first_of" n6 j3 t1)
  (B9:FI K "younger_of" kZ j2 t0)
  (B8:FI K "check_words" jE j1 s9)
  (B7:FI K "beginnings_of" gK i9 s8)
  (B6:FI K "parts_of" oJ i8 s7)
  (B5:FI K "kept_store" kh i7 s6)
  (B4:FI K "blocks_of_tree" fV i6 s5)
  (B3:FI K "blocks_of_letters" dJ i5 s4)
  (B2:FI K "letter_of" lH i4 s3)
  (B1:FI K "look_at_ends" iU i3 s2)
  (B0:FI K "is_end" uI i2 s1)
  (A9:FI K "young_from" lw i1 s0)
  (A8:FI K "line_of" rB i0 r9)
  (A7:FI K "longest_in" kI h9 r8)
  (A6:FI K "_law_whole" mV h8 r7)
  (A5:FI K "_law_spelt" mR h7 r6)
  (A4:FI K "_law_word" nW h6 r5)
  (A3:FI K "_law_words" mq h5 r4)
  (A2:FI K "_law_text" oE h4 r3)
  (Yv:PySem.W.nsIn K mainGlobals "_law_look" = some (some (.ref Z8)))(Yw:K.lookup Z8=some (c1,b6,.func (PySem.W.fnOf "_law_look" "_law_look" (ν cN) (μ cN) (δ cN) .none c5 c8 b3 g4 (.ref V2) g1),b0))(I2:PySem.W.codeIn K (.ref V2) "_law_look" = true)(g7:PySem.W.keepIn K (.ref Z8)=true)
  (P6:K.lookup V2=some (J,L,.fields j,I))(P5:j[11]?=some (.ref Va))(Xv:∃d,(PyProof.Rows.recsOf prog).find? (λe=>e.name==("_law_look" : Str))=some d)
  (A1:FI K "_law_there" lY h3 r2)
  (A0:FI K "_law_longest" jw h2 r1)
  (a2:FI K "law" Li h1 r0)
  (L3:PySem.W.nsIn K mainGlobals "bool" = some none)
  (P4:PySem.W.nsIn K mainGlobals "enumerate" = some none)
  (L1:PySem.W.nsIn K mainGlobals "int" = some none)
  (N4:PySem.W.nsIn K mainGlobals "isinstance" = some none)
  (L0:PySem.W.nsIn K mainGlobals "len" = some none)
  (L2:PySem.W.nsIn K mainGlobals "list" = some none)
  (K2:PySem.W.nsIn K mainGlobals "max" = some none)
  (K0:PySem.W.nsIn K mainGlobals "min" = some none)
  (I5:PySem.W.nsIn K mainGlobals "range" = some none)
  (N0:PySem.W.nsIn K mainGlobals "reversed" = some none)
  (I9:PySem.W.nsIn K mainGlobals "set" = some none)
  (L4:PySem.W.nsIn K mainGlobals "sorted" = some none)
  (I8:PySem.W.nsIn K mainGlobals "str" = some none)
  (I7:PySem.W.nsIn K mainGlobals "sum" = some none)
  (I4:PySem.W.nsIn K mainGlobals "tuple" = some none)
  (I6:PySem.W.nsIn K mainGlobals "zip" = some none)
  (N3:PySem.W.nsIn K mainGlobals "BLOCK_BITS" = some (some (.int 32 p)))
  (L7:PySem.W.nsIn K mainGlobals "LETTERS" = some (some (.str "abcdefghijklmnopqrstuvwxyz" O)))
  (P3:PySem.W.nsIn K mainGlobals "MOST_BITS" = some (some (.int 4096 r)))
  (Q2:PySem.W.nsIn K mainGlobals "MOST_LETTERS" = some (some (.int 40 m)))
  (N2:PySem.W.nsIn K mainGlobals "MOST_NODES" = some (some (.int 2048 o)))
  (Q1:PySem.W.nsIn K mainGlobals "MOST_NUMBERS" = some (some (.int 4096 k)))
  (N1:PySem.W.nsIn K mainGlobals "MOST_SIGNS" = some (some (.int 4096 n)))
  (Yx:PySem.W.nsIn K mainGlobals "NoNode" = some (some (.ref P)))
  (L6:PySem.W.excIn K P XM "ValueError.__new__" = true)
  (L5:PySem.W.hasDictIn K P=true)
  (M5:PySem.W.findIn K (.ref P) "__getattribute__" = some (some (.builtin "BaseException.__getattribute__")))
  (M4:PySem.W.findIn K (.ref P) "__getattr__" = some none)
  (M3:PySem.W.findIn K (.ref P) "__class__" = some (some (.builtin "object.__class__")))
  (M2:PySem.W.specialIn K (.builtin "object.__class__") "__get__" = some (some (.builtin "getset_descriptor.__get__")))
  (M0:PySem.W.takesIn K (.builtin "object.__class__")=some true)
  (L9:PySem.W.mroIn K P (.type "object")=some true)
  (L8:PySem.W.mroIn K P (.type "BaseException")=some true)
  (Ym:PySem.W.kitOne K (.ref P) (.ref P)=some true)
  (Yn:PySem.W.kitOne K (.ref P) (.type "ValueError")=some true)
  (nt:PySem.W.noTabs K=true)
  (P9:T3≠TV)
  (P8:T3≠Va)
  (P7:TV≠Va):
  ∃(fd:FuncData) (R:List (Addr×Addr)) (sp:Sp),(∀(s:Shared) (v:Value),BindsTo s fd ([v],[]) [(pq ("_law_script") v)])/\PySem.W.TabsAt R h'/\PySem.W.noTabs K=true/\(∀base:Heap,K.In base->base.Ns mainGlobals mg->BMain mg base->(∀q∈R,PySem.W.CodeHd base q.1 q.2)->aV l.prog w K mg base Ti 14 f fd ["_law_script"] sp) /\
   ∀(H:Hp) (a:Addr) (ns:List Int),ns.length<=63->Tg K H a (ns.map V.int)->(∀q∈R,H q.2=some (.Tv #[]))->sp [.ref a] H (λv _=>v=.bl true) λ_ _ _=>False:=by
 have b:=TT.g;have e:=h0.symm.trans (PySem.W.mg_of X b a2.a);cases e;obtain⟨_,_,_,_,_,_,_,_,_,rfl,_,_⟩:=a2.F.ex;have a9:=zV (st:=cF) a4 Z9 g9
 have S2:Df K mg "look_from" cF ["look","first"] _ _:=(a9,a9.binds (ps:=["look","first"]) λ_ _ _ _ _ _ Q hl=>KN (C:=λQ=>bindArgs _ (Q,[])=pure (ahg (["look","first"]:List Str) Q)) hl (λ_ _=>rfl),PySem.W.mg_of X b a6)
 have a8:=zV (st:=cu) a3 I3 g8
 have S1:Df K mg "heap_look" cu ["tables"] _ _:=(a8,a8.binds (ps:=["tables"]) λ_ _ _ _ _ _ Q hl=>Pn (C:=λQ=>bindArgs _ (Q,[])=pure (ahg (["tables"]:List Str) Q)) hl (λ_=>rfl),PySem.W.mg_of X b a5)
 have a7:=zV (st:=cN) Yw I2 g7
 have S0:Df K mg "_law_look" cN ["_law_blocks","_law_seen"] _ _:=(a7,a7.binds (ps:=["_law_blocks","_law_seen"]) λ_ _ _ _ _ _ Q hl=>KN (C:=λQ=>bindArgs _ (Q,[])=pure (ahg (["_law_blocks","_law_seen"]:List Str) Q)) hl (λ_ _=>rfl),PySem.W.mg_of X b Yv)
 have T:Tx K mg (V0,T3,V1,TV,V2,Va,8,8,8,8,8,8,8,8,8,8,8,8,8,8,8,8,8,8,8,8,8,8,8,8,8,8,8,8,8,8,8,8,8,8,8,8,8,8,8,8,8,8,8,8,8,8,8,8,8,8,8,8,8,8,8,8,8,8,8,8,8,8,8,8,8,8,8,8,8,8,8,8,8,8,8,8,8,8,8,8,8,8,8,8,8,8,8,8,8,8,8,_,P):=(T9 X b d0,T9 X b d1,T9 X b d2,Ua X b d3,Ua X b d4,Ua X b d5,Ua X b d6,Ua X b d7,Ua X b d8,Vv X b d9,Vv X b I1,S2,T9 X b I0,T9 X b H9,Ua X b H8,Vv X b H7,Vv X b H6,Za X b H5,Uj X b H4,Uj X b H3,T9 X b H2,T9 X b H1,Ua X b H0,Uj X b G2,Uj X b G1,Uj X b G0,Uj X b F9,Ua X b F8,Ua X b F7,T9 X b F6,T9 X b F5,T9 X b F4,Uj X b F3,Ua X b F2,Ua X b F1,Ua X b F0,T9 X b E9,S1,Uj X b E8,Vv X b E7,Za X b E6,Ua X b E5,Vv X b E4,Vv X b E3,Za X b E2,Vv X b E1,Uj X b D9,Uj X b D8,T9 X b D7,T9 X b D6,T9 X b D5,T9 X b D4,T9 X b D3,Ua X b D2,T9 X b D1,Ua X b D0,Ua X b C9,Ua X b C8,Uj X b C7,T9 X b C6,Uj X b C5,T9 X b C4,Ua X b C3,Uj X b C2,Uj X b C1,Uj X b C0,Uj X b B9,T9 X b B8,T9 X b B7,T9 X b B6,T9 X b B5,T9 X b B4,T9 X b B3,Uj X b B2,Ua X b B1,Uj X b B0,Vv X b A9,Uj X b A8,Uj X b A7,T9 X b A6,Vv X b A5,Ua X b A4,T9 X b A3,Ua X b A2,S0,Ua X b A1,Ua X b A0,T9 X b a2,PySem.W.mg_none_of X b L3,PySem.W.mg_none_of X b P4,PySem.W.mg_none_of X b L1,PySem.W.mg_none_of X b N4,PySem.W.mg_none_of X b L0,PySem.W.mg_none_of X b L2,PySem.W.mg_none_of X b K2,PySem.W.mg_none_of X b K0,PySem.W.mg_none_of X b I5,PySem.W.mg_none_of X b N0,PySem.W.mg_none_of X b I9,PySem.W.mg_none_of X b L4,PySem.W.mg_none_of X b I8,PySem.W.mg_none_of X b I7,PySem.W.mg_none_of X b I4,PySem.W.mg_none_of X b I6,PySem.W.mg_of X b N3,PySem.W.mg_of X b L7,PySem.W.mg_of X b P3,PySem.W.mg_of X b Q2,PySem.W.mg_of X b N2,PySem.W.mg_of X b Q1,PySem.W.mg_of X b N1,PySem.W.mg_of X b Yx,(PySem.W.mg_of X b Yx,L6),(L5,M5,M4,M3,M2,M0,L9,L8),Ym,Yn,7,7,7);obtain⟨U,Xr⟩:=Xr;have D:=PySem.W.tab_of TT X Xr (vd a6 a4 rfl P2 P1);obtain⟨Y,Xu⟩:=Xu;have E:=PySem.W.tab_of TT X Xu (vd a5 a3 rfl O0 N9);obtain⟨Z,Xv⟩:=Xv;have M:=PySem.W.tab_of TT X Xv (vd Yv Yw rfl P6 P5);exact(_,[(pq V0 T3),(pq V1 TV),(pq V2 Va)],Z5 K T3 TV Va,λs v=>.of_eq rfl,ahD.mpr (D,ahD.mpr (E,ahD.mpr (M,λ_ z=>nomatch z))),nt,λbase _ _ bm hc=>PK T (bm,hc _ (.head _),hc _ (.tail _ (.head _)),hc _ (.tail _ (.tail _ (.head _))),P9,P8,P7),λH a ns hl hS a0=>Hh hS hl (a0 _ (.head _)) (a0 _ (.tail _ (.head _))) (a0 _ (.tail _ (.tail _ (.head _)))))
end Tw
end
namespace Tp
open PySem
noncomputable section
abbrev O:=Params→Obj
def sq (l:List Str):Nat→List Value:=@List.rec Str (λ_=>Nat→List Value) (λ_=>[]) (λs _ ih t=>Value.str s t::ih (Nat.add t 1)) l
def ap {α:Type} (a b:List α):List α:=@List.rec α (λ_=>List α) b (λx _ r=>x::r) a
def tk {α:Type} (l:List α):Nat→List α:=@List.rec α (λ_=>Nat→List α) (λ_=>[]) (λx _ ih n=>@Nat.rec (λ_=>List α) [] (λm _=>x::ih m) n) l
def mp {α β:Type} (f:α→β) (l:List α):List β:=@List.rec α (λ_=>List β) [] (λx _ r=>f x::r) l
def ov (l:List O):List (Nat×O)→List O:=@List.rec O (λ_=>List (Nat×O)→List O) (λ_=>[]) (λx _ ih ex=>@List.rec (Nat×O) (λ_=>List O) (x::ih []) (λe r _=>@Nat.rec (λ_=>List O) (e.2::ih r) (λg _=>x::ih ((g,e.2)::r)) e.1) ex) l
def ev (l:List Obj):Bool→List Obj:=@List.rec Obj (λ_=>Bool→List Obj) (λ_=>[]) (λx _ ih b=>@Bool.rec (λ_=>List Obj) (ih true) (x::ih false) b) l
def bt (n:Nat):List Obj→PySem.W.BT:=@Nat.rec (λ_=>List Obj→PySem.W.BT) (λ_=>.nil) (λ_ ih l=>@List.rec Obj (λ_=>PySem.W.BT) .nil (λx xs _=>.node x (ih (ev xs true)) (ih (ev xs false))) l) n
def Z (s:Str) (t:Nat) (v:Value) (P:Params):DictEntry:=.mk (PyData.keyHash P s) (.str s t) v
def E (s:Str) (t r:Nat) (P:Params):DictEntry:=.mk (PyData.keyHash P s) (.str s t) (.ref r)
def gd (l:List (Params→DictEntry)) (n:Nat) (P:Params):Obj:=.mk (.type "dict") none (.dict (mp (λe=>e P) l).toArray n) #[]
def tb (l:List (Nat×Nat)) (P:Params):Obj:=.mk .none none (.fields (@List.rec (Nat×Nat) (λ_=>List Value) [] (λx _ r=>.int (Int.ofNat x.1) 0::.int 0 0::.ref x.2::r) l).toArray) #[]
def h0 (x0:Nat) (x1:Nat) (x2:Nat) (x3:Str):List O:=[λP=>(.mk (.type "tuple") none (.seq #[(.ref 24)] 0) #[]),λP=>(.mk (.type "builtin_function_or_method") none (.fields #[(.builtin "type.__prepare__"),(.type "type")]) #[]),λP=>(.mk (.type "dict") none (.dict #[(.mk (PyData.keyHash P "__module__") (.str "__module__" (Nat.add x0 7)) (.str "thinwood.errors" 187)),(.mk (PyData.keyHash P "__qualname__") (.str "__qualname__" (Nat.add x0 9)) (.str x3 (Nat.add x0 8))),(.mk (PyData.keyHash P "__firstlineno__") (.str "__firstlineno__" (Nat.add x0 11)) (.int (Int.ofNat x1) (Nat.add x0 10))),(.mk (PyData.keyHash P "__static_attributes__") (.str "__static_attributes__" (Nat.add x0 12)) (.ref (Nat.add x2 7)))] 4) #[]),λP=>(.mk (.type "tuple") none (.seq #[] 0) #[]),λP=>(.mk .none none (.fields #[]) #[]),λP=>(.mk (.type "code") none (.fields #[(.str x3 (Nat.add x0 2)),(.str x3 (Nat.add x0 3)),(.str "/claim/cut.py" (Nat.add x0 4)),(.int (Int.ofNat x1) 0),(.int 0 0),(.int 0 0),(.int 0 0),(.int 0 0),(.ref (Nat.add x2 3)),(.bool .false),(.int 181 0),(.ref (Nat.add x2 4)),.none,.none,.none,.none,(.int (Int.ofNat (Nat.add x0 5)) 0),(.int (Int.ofNat x1) 0),(.str "/claim/cut.py" (Nat.add x0 6))]) #[]),λP=>(.mk (.type "frame") none .plain #[(some (.ref (Nat.add x2 5))),(some (.ref 3)),(some (.ref (Nat.add x2 2))),none,(some (.str "thinwood.errors" 187)),none,(some (.ref 0))]),λP=>(.mk (.type "tuple") none (.seq #[] 0) #[]),λP=>(.mk (.type "dict") none (.dict #[(.mk (PyData.keyHash P "__module__") (.str "__module__" (Nat.add x0 7)) (.str "thinwood.errors" 187)),(.mk (PyData.keyHash P "__firstlineno__") (.str "__firstlineno__" (Nat.add x0 11)) (.int (Int.ofNat x1) (Nat.add x0 10))),(.mk (PyData.keyHash P "__static_attributes__") (.str "__static_attributes__" (Nat.add x0 12)) (.ref (Nat.add x2 7))),(.mk (PyData.keyHash P "__doc__") (.str "__doc__" (Nat.add x0 13)) .none)] 2) #[]),λP=>(.mk (.type "type") none (.cls (.mk x3 [(.ref 24)] [(.ref (Nat.add x2 9)),(.ref 24),(.type "ValueError"),(.type "Exception"),(.type "BaseException"),(.type "object")] (Nat.add x2 8) x3 .true [] [] .false none .false)) #[(some (.ref x2)),none,(some (.str x3 x0)),(some (.str x3 (Nat.add x0 8))),(some (.builtin "ValueError.__new__")),(some (.bool .true))]),λP=>(.mk (.type "super") none (.fields #[(.ref (Nat.add x2 9)),(.ref (Nat.add x2 9)),(.ref (Nat.add x2 9))]) #[]),λP=>(.mk (.type "builtin_function_or_method") none (.fields #[(.builtin "object.__init_subclass__"),(.ref (Nat.add x2 9))]) #[])]
def h1 (x0:Nat) (x1:Nat) (x2:Nat) (x3:Nat) (x4:Nat) (x5:Nat) (x6:Str) (x7:Str):List O:=[λP=>(.mk (.type "tuple") none (.seq #[] 0) #[]),λP=>(.mk .none none (.fields #[]) #[]),λP=>(.mk .none none (.func (FuncData.mk x6 x6 (L2.ν (Tw.top x0)) (FuncBody.stmts (L2.μ (Tw.top x0))) (L2.δ (Tw.top x0)) 0 [] .none .none .none .none none .none .none 0)) #[]),λP=>(.mk (.type "code") none (.fields #[(.str x6 x1),(.str x6 (Nat.add x1 1)),(.str "/claim/cut.py" (Nat.add x1 2)),(.int (Int.ofNat x2) 0),(.int (Int.ofNat x3) 0),(.int 0 0),(.int 0 0),(.int 3 0),(.ref x4),(.bool .true),(.int 181 0),(.ref (Nat.add x4 1)),.none,.none,.none,(.ref (Nat.add x4 2)),(.int (Int.ofNat (Nat.add x1 3)) 0),(.int (Int.ofNat x2) 0),(.str "/claim/cut.py" (Nat.add x1 4))]) #[]),λP=>(.mk (.type "function") none (.func (FuncData.mk x6 x6 (L2.ν (Tw.top x0)) (FuncBody.stmts (L2.μ (Tw.top x0))) (L2.δ (Tw.top x0)) 3 [] .none .none .none (.str x7 x5) none (.ref (Nat.add x4 3)) .none 0)) #[])]
def h2 (x0:Nat) (x1:Nat) (x2:Nat) (x3:Nat) (x4:Nat) (x5:Nat) (x6:Nat) (x7:List Str) (x8:Str) (x9:Str):List O:=[λP=>(.mk (.type "tuple") none (.seq #[] 0) #[]),λP=>(.mk .none none (.fields #[]) #[]),λP=>(.mk (.type "tuple") none (.seq (sq x7 (Nat.add x0 3)).toArray 0) #[]),λP=>(.mk (.type "tuple") none (.seq #[] 0) #[]),λP=>(.mk .none none (.func (FuncData.mk x8 x8 (L2.ν (Tw.top x1)) (FuncBody.stmts (L2.μ (Tw.top x1))) (L2.δ (Tw.top x1)) 0 [] .none .none .none .none none .none .none 0)) #[]),λP=>(.mk (.type "code") none (.fields #[(.str x8 x0),(.str x8 (Nat.add x0 1)),(.str "/claim/cut.py" (Nat.add x0 2)),(.int (Int.ofNat x2) 0),(.int (Int.ofNat x3) 0),(.int 0 0),(.int 0 0),(.int 3 0),(.ref x4),(.bool .true),(.int 181 0),(.ref (Nat.add x4 1)),.none,(.ref (Nat.add x4 2)),(.ref (Nat.add x4 3)),(.ref (Nat.add x4 4)),(.int (Int.ofNat x5) 0),(.int (Int.ofNat x2) 0),(.str "/claim/cut.py" (Nat.add x5 1))]) #[]),λP=>(.mk (.type "function") none (.func (FuncData.mk x8 x8 (L2.ν (Tw.top x1)) (FuncBody.stmts (L2.μ (Tw.top x1))) (L2.δ (Tw.top x1)) 3 [] .none .none .none (.str x9 x6) none (.ref (Nat.add x4 5)) .none 0)) #[])]
def g0:List (Params→DictEntry):=[Z "__doc__" 166 .none,Z "__package__" 167 .none,Z "__loader__" 168 (.builtin "__main__.__loader__#opaque"),Z "__spec__" 169 .none,E "__annotations__" 170 6,E "__builtins__" 171 4,Z "__file__" 173 (.str "/claim/cut.py" 172),Z "__cached__" 174 .none,E "WoodError" 206 24,E "TooMany" 222 37]
def g1:List (Params→DictEntry):=[E "NoBit" 238 49,E "NoPlace" 254 61,E "NoNode" 270 73,E "NoTree" 286 85,E "NoSign" 302 97,E "NoWord" 318 109,E "Twice" 334 121,Z "BLOCK_BITS" 338 (.int 32 337),Z "MOST_BITS" 340 (.int 4096 339),E "packed" 346 128]
def g2:List (Params→DictEntry):=[E "check_row" 354 135,E "block_of" 363 142,E "bit_in" 371 149,E "bits_of" 377 154,E "ones_in" 385 161,E "one_in" 396 168,E "nets_of" 407 175,E "low_in" 415 182,E "first_low_in" 427 189,E "last_low_in" 440 196]
def g3:List (Params→DictEntry):=[E "look_from" 450 203,Z "MOST_NUMBERS" 454 (.int 4096 453),E "heap_of" 464 210,E "size_of" 472 217,E "lesser_of" 480 224,E "first_at_most" 491 231,E "last_at_most" 502 238,E "place_beneath" 514 245,E "check_stretch" 523 252,E "cover" 537 259]
def g4:List (Params→DictEntry):=[E "kept_row" 547 266,E "ahead_of" 556 273,E "check_place" 564 280,E "bit_at" 573 287,E "ones_at" 586 294,E "noughts_at" 595 301,E "one_place" 606 308,E "check_nth" 614 315,E "last_no_greater" 625 322,E "is_tree" 637 329]
def g5:List (Params→DictEntry):=[E "check_brackets" 644 336,E "kept_brackets" 650 341,E "low_of" 659 348,E "base_of" 667 355,E "start_within" 675 362,E "end_within" 683 369,E "block_count" 690 376,E "heap_look" 698 383,E "height" 707 390,E "low_behind" 720 397]
def g6:List (Params→DictEntry):=[E "first_within" 733 404,E "place_of_bit" 741 411,E "low_ahead" 752 418,E "last_low_upto" 765 425,E "last_within" 777 432,E "check_bracket" 787 439,E "closing" 796 446,E "opening" 805 453,Z "MOST_NODES" 809 (.int 2048 808),E "check_depths" 818 460]
def g7:List (Params→DictEntry):=[E "brackets_of" 828 467,E "kept_tree" 835 474,Z "MOST_SIGNS" 839 (.int 4096 838),E "check_signs" 847 481,E "kept_signs" 859 488,E "ranks_among" 865 493,E "level_count" 872 500,E "level_rows" 878 505,E "parted" 884 510,E "levels_of" 895 517]
def g8:List (Params→DictEntry):=[E "place_below" 906 524,E "nought_count" 913 531,E "sign_at" 926 538,E "node_count" 935 545,E "check_node" 943 552,E "node_at" 952 559,E "place_of" 961 566,E "first_of" 971 573,E "younger_of" 981 580,Z "LETTERS" 985 (.str "abcdefghijklmnopqrstuvwxyz" 984)]
def g9:List (Params→DictEntry):=[Z "MOST_LETTERS" 987 (.int 40 986),E "check_words" 996 587,E "beginnings_of" 1002 592,E "parts_of" 1008 597,E "kept_store" 1019 604,E "blocks_of_tree" 1026 611,E "blocks_of_letters" 1032 616,E "letter_of" 1041 623,E "look_at_ends" 1049 630,E "is_end" 1058 637]
def g10:List (Params→DictEntry):=[E "young_from" 1069 644,E "line_of" 1081 651,E "longest_in" 1092 658,E "_law_whole" 1101 665,E "_law_spelt" 1114 672,E "_law_word" 1126 679,E "_law_words" 1137 686,E "_law_text" 1149 693,E "_law_look" 1160 700,E "_law_there" 1169 707]
def g11:List (Params→DictEntry):=[E "_law_longest" 1179 714,E "law" 1185 719]
def gg:List (Params→DictEntry):=ap g0 (ap g1 (ap g2 (ap g3 (ap g4 (ap g5 (ap g6 (ap g7 (ap g8 (ap g9 (ap g10 (g11)))))))))))
def tt:List (Nat×Nat):=[((2),20),((4),33),((6),45),((8),57),(10,69),(12,81),(14,93),(16,105),(18,117),(23,127),(26,134),(32,141),(37,148),(39,153),(41,160),(43,167),(50,174),(57,181),(59,188),(64,195),(70,202),(74,209),(82,216),(87,223),(93,230),(98,237),(103,244),(110,251),(113,258),(131,265),(134,272),(139,279),(142,286),(145,293),(154,300),(156,307),(161,314),(164,321),(175,328),(182,335),(186,340),(193,347),(195,354),(197,361),(199,368),(201,375),(203,382),(206,389),(208,396),(220,403),(224,410),(228,417),(234,424),(245,431),(248,438),(251,445),(254,452),(259,459),(267,466),(276,473),(280,480),(286,487),(296,492),(301,499),(303,504),(311,509),(315,516),(322,523),(328,530),(330,537),(340,544),(342,551),(345,558),(349,565),(352,572),(357,579),(365,586),(374,591),(379,596),(389,603),(395,610),(397,615),(399,622),(401,629),(403,636),(405,643),(410,650),(418,657),(424,664),(426,671),(433,678),(447,685),(456,692),(472,699),(480,706),(485,713),(491,718)]
def s0:O:=gd (Z "__name__" 165 (.str "law_thinwood_k77_longest_word" 1093)::tk gg 112) 113
def l0:O:=λP=>(.mk (.type "tuple") none (.seq #[] 0) #[])
def s1:O:=tb (tk tt 97)
def l1:O:=λP=>(.mk (.type "code") none (.fields #[(.str "<module>" 182),(.str "<module>" 183),(.str "/claim/cut.py" 184),(.int 1 0),(.int 0 0),(.int 0 0),(.int 0 0),(.int 0 0),(.ref 11),(.bool .false),(.int 181 0),(.ref 12),.none,.none,.none,.none,(.int 185 0),(.int 1 0),(.str "/claim/cut.py" 186)]) #[])
def l2:O:=λP=>(.mk (.type "frame") none .plain #[(some (.ref 13)),(some (.ref 3)),(some (.ref 3)),none,(some (.str "__main__" 164)),none,(some (.ref 0))])
def l3:O:=λP=>(.mk (.type "tuple") none (.seq #[(.type "ValueError")] 0) #[])
def l4:O:=λP=>(.mk (.type "builtin_function_or_method") none (.fields #[(.builtin "type.__prepare__"),(.type "type")]) #[])
def l5:O:=λP=>(.mk (.type "dict") none (.dict #[(.mk (PyData.keyHash P "__module__") (.str "__module__" 196) (.str "thinwood.errors" 187)),(.mk (PyData.keyHash P "__qualname__") (.str "__qualname__" 198) (.str "WoodError" 197)),(.mk (PyData.keyHash P "__firstlineno__") (.str "__firstlineno__" 200) (.int 2 199)),(.mk (PyData.keyHash P "__static_attributes__") (.str "__static_attributes__" 201) (.ref 22))] 4) #[])
def l6:O:=λP=>(.mk .none none (.fields #[]) #[])
def l7:O:=λP=>(.mk (.type "code") none (.fields #[(.str "WoodError" 191),(.str "WoodError" 192),(.str "/claim/cut.py" 193),(.int 2 0),(.int 0 0),(.int 0 0),(.int 0 0),(.int 0 0),(.ref 18),(.bool .false),(.int 181 0),(.ref 19),.none,.none,.none,.none,(.int 194 0),(.int 2 0),(.str "/claim/cut.py" 195)]) #[])
def l8:O:=λP=>(.mk (.type "frame") none .plain #[(some (.ref 20)),(some (.ref 3)),(some (.ref 17)),none,(some (.str "thinwood.errors" 187)),none,(some (.ref 0))])
def l9:O:=λP=>(.mk (.type "dict") none (.dict #[(.mk (PyData.keyHash P "__module__") (.str "__module__" 196) (.str "thinwood.errors" 187)),(.mk (PyData.keyHash P "__firstlineno__") (.str "__firstlineno__" 200) (.int 2 199)),(.mk (PyData.keyHash P "__static_attributes__") (.str "__static_attributes__" 201) (.ref 22)),(.mk (PyData.keyHash P "__weakref__") (.str "__weakref__" 203) (.ref 25)),(.mk (PyData.keyHash P "__doc__") (.str "__doc__" 204) .none)] 3) #[])
def l10:O:=λP=>(.mk (.type "type") none (.cls (.mk "WoodError" [(.type "ValueError")] [(.ref 24),(.type "ValueError"),(.type "Exception"),(.type "BaseException"),(.type "object")] 23 "WoodError" .true [] [(.ref 37),(.ref 49),(.ref 61),(.ref 73),(.ref 85),(.ref 97),(.ref 109),(.ref 121)] .false none .false)) #[(some (.ref 15)),none,(some (.str "WoodError" 189)),(some (.str "WoodError" 197)),(some (.builtin "ValueError.__new__")),(some (.bool .true))])
def l11:O:=λP=>(.mk (.type "getset_descriptor") none (.fields #[(.str "__weakref__" 202),(.ref 24),(.builtin "ExceptionGroup.__weakref__"),.none]) #[])
def l12:O:=λP=>(.mk (.type "super") none (.fields #[(.ref 24),(.ref 24),(.ref 24)]) #[])
def l13:O:=λP=>(.mk (.type "builtin_function_or_method") none (.fields #[(.builtin "object.__init_subclass__"),(.ref 24)]) #[])
def d1:List O:=h0 207 4 28 "TooMany"
def d2:List O:=h0 223 6 40 "NoBit"
def d3:List O:=h0 239 8 52 "NoPlace"
def d4:List O:=h0 255 10 64 "NoNode"
def d5:List O:=h0 271 12 76 "NoTree"
def d6:List O:=h0 287 14 88 "NoSign"
def d7:List O:=h0 303 16 100 "NoWord"
def d8:List O:=h0 319 18 112 "Twice"
def d9:List O:=h1 13 341 23 1 124 335 "packed" "thinwood.blocks"
def d10:List O:=h2 347 14 26 1 129 352 335 ["bits","bit"] "check_row" "thinwood.blocks"
def d11:List O:=h2 355 15 32 1 136 361 335 ["bits","block","bit"] "block_of" "thinwood.blocks"
def d12:List O:=h2 364 16 37 2 143 369 335 ["block","k"] "bit_in" "thinwood.blocks"
def d13:List O:=h1 17 372 39 2 150 335 "bits_of" "thinwood.blocks"
def d14:List O:=h2 378 18 41 2 155 383 335 ["block","upto"] "ones_in" "thinwood.blocks"
def d15:List O:=h2 386 19 43 2 162 394 335 ["block","nth","ones","k","bit"] "one_in" "thinwood.blocks"
def d16:List O:=h2 397 20 50 2 169 405 335 ["block","upto","nets","net","bit"] "nets_of" "thinwood.blocks"
def d17:List O:=h2 408 21 57 2 176 413 335 ["block","upto"] "low_in" "thinwood.blocks"
def d18:List O:=h2 416 22 59 4 183 425 335 ["block","start","stop","goal","k","net"] "first_low_in" "thinwood.blocks"
def d19:List O:=h2 428 23 64 4 190 438 335 ["block","start","stop","goal","found","k","net"] "last_low_in" "thinwood.blocks"
def l14:O:=λP=>(.mk (.type "tuple") none (.seq #[(.str "look" 444),(.str "first" 445)] 0) #[])
def l15:O:=λP=>(.mk (.type "tuple") none (.seq #[(.str "look" 446),(.str "first" 447)] 0) #[])
def l16:O:=λP=>(.mk .none none (.func (FuncData.mk "look_from" "look_from" (L2.ν (Tw.top 24)) (FuncBody.stmts (L2.μ (Tw.top 24))) (L2.δ (Tw.top 24)) 0 [] .none .none .none .none none .none .none 0)) #[])
def l17:O:=λP=>(.mk (.type "code") none (.fields #[(.str "look_from" 441),(.str "look_from" 442),(.str "/claim/cut.py" 443),(.int 70 0),(.int 2 0),(.int 0 0),(.int 0 0),(.int 3 0),(.ref 197),(.bool .true),(.int 181 0),(.ref 198),.none,(.ref 199),(.ref 200),(.ref 201),(.int 448 0),(.int 70 0),(.str "/claim/cut.py" 449)]) #[])
def l18:O:=λP=>(.mk (.type "function") none (.func (FuncData.mk "look_from" "look_from" (L2.ν (Tw.top 24)) (FuncBody.stmts (L2.μ (Tw.top 24))) (L2.δ (Tw.top 24)) 3 [] .none .none .none (.str "thinwood.blocks" 335) none (.ref 202) .none 0)) #[])
def d21:List O:=h2 455 27 74 1 204 462 451 ["numbers","size","nodes","node"] "heap_of" "thinwood.heaps"
def d22:List O:=h2 465 28 82 1 211 470 451 ["many","size"] "size_of" "thinwood.heaps"
def d23:List O:=h2 473 29 87 2 218 478 451 ["one","other"] "lesser_of" "thinwood.heaps"
def d24:List O:=h2 481 30 93 4 225 489 451 ["many","look","start","goal","node"] "first_at_most" "thinwood.heaps"
def d25:List O:=h2 492 31 98 4 232 500 451 ["many","look","stop","goal","node"] "last_at_most" "thinwood.heaps"
def d26:List O:=h2 503 32 103 5 239 512 451 ["size","look","node","goal","side","found"] "place_beneath" "thinwood.heaps"
def d27:List O:=h2 515 33 110 3 246 521 451 ["many","start","stop"] "check_stretch" "thinwood.heaps"
def d28:List O:=h2 524 34 113 3 253 535 451 ["many","start","stop","size","low","high","lefts","rights"] "cover" "thinwood.heaps"
def d29:List O:=h2 540 36 131 1 260 545 538 ["bits","blocks"] "kept_row" "thinwood.rows"
def d30:List O:=h2 548 37 134 1 267 554 538 ["blocks","ahead","block"] "ahead_of" "thinwood.rows"
def d31:List O:=h2 557 38 139 2 274 562 538 ["at","most"] "check_place" "thinwood.rows"
def d32:List O:=h2 565 39 142 3 281 571 538 ["tables","look","at"] "bit_at" "thinwood.rows"
def d33:List O:=h2 574 40 145 3 288 584 538 ["tables","look","at","many","ahead","number","within"] "ones_at" "thinwood.rows"
def d34:List O:=h2 587 41 154 3 295 593 538 ["tables","look","at"] "noughts_at" "thinwood.rows"
def d35:List O:=h2 596 42 156 3 302 604 538 ["tables","look","nth","ahead","number"] "one_place" "thinwood.rows"
def d36:List O:=h2 607 43 161 2 309 612 538 ["nth","many"] "check_nth" "thinwood.rows"
def d37:List O:=h2 615 44 164 2 316 623 538 ["numbers","goal","low","high","middle"] "last_no_greater" "thinwood.rows"
def d38:List O:=h2 628 46 175 1 323 635 626 ["bits","level","at","bit"] "is_tree" "thinwood.brackets"
def d39:List O:=h2 638 47 182 1 330 642 626 ["bits"] "check_brackets" "thinwood.brackets"
def d40:List O:=h1 48 645 186 1 337 626 "kept_brackets" "thinwood.brackets"
def d41:List O:=h2 651 49 193 3 342 657 626 ["tables","number","block"] "low_of" "thinwood.brackets"
def d42:List O:=h2 660 50 195 2 349 665 626 ["tables","number"] "base_of" "thinwood.brackets"
def d43:List O:=h2 668 51 197 2 356 673 626 ["number","at"] "start_within" "thinwood.brackets"
def d44:List O:=h2 676 52 199 2 363 681 626 ["number","upto"] "end_within" "thinwood.brackets"
def d45:List O:=h2 684 53 201 1 370 688 626 ["tables"] "block_count" "thinwood.brackets"
def l19:O:=λP=>(.mk (.type "tuple") none (.seq #[(.str "tables" 694)] 0) #[])
def l20:O:=λP=>(.mk (.type "tuple") none (.seq #[(.str "nodes" 695)] 0) #[])
def l21:O:=λP=>(.mk .none none (.func (FuncData.mk "heap_look" "heap_look" (L2.ν (Tw.top 54)) (FuncBody.stmts (L2.μ (Tw.top 54))) (L2.δ (Tw.top 54)) 0 [] .none .none .none .none none .none .none 0)) #[])
def l22:O:=λP=>(.mk (.type "code") none (.fields #[(.str "heap_look" 691),(.str "heap_look" 692),(.str "/claim/cut.py" 693),(.int 203 0),(.int 1 0),(.int 0 0),(.int 0 0),(.int 3 0),(.ref 377),(.bool .true),(.int 181 0),(.ref 378),.none,(.ref 379),(.ref 380),(.ref 381),(.int 696 0),(.int 203 0),(.str "/claim/cut.py" 697)]) #[])
def l23:O:=λP=>(.mk (.type "function") none (.func (FuncData.mk "heap_look" "heap_look" (L2.ν (Tw.top 54)) (FuncBody.stmts (L2.μ (Tw.top 54))) (L2.δ (Tw.top 54)) 3 [] .none .none .none (.str "thinwood.brackets" 626) none (.ref 382) .none 0)) #[])
def d47:List O:=h2 699 55 206 3 384 705 626 ["tables","look","at"] "height" "thinwood.brackets"
def d48:List O:=h2 708 56 208 4 391 718 626 ["tables","look","at","goal","number","found","further"] "low_behind" "thinwood.brackets"
def d49:List O:=h2 721 57 220 5 398 731 626 ["tables","look","number","at","goal","start","stop"] "first_within" "thinwood.brackets"
def d50:List O:=h2 734 58 224 2 405 739 626 ["number","within"] "place_of_bit" "thinwood.brackets"
def d51:List O:=h2 742 59 228 4 412 750 626 ["tables","look","at","goal","found"] "low_ahead" "thinwood.brackets"
def d52:List O:=h2 753 60 234 4 419 763 626 ["tables","look","upto","goal","number","found","further"] "last_low_upto" "thinwood.brackets"
def d53:List O:=h2 766 61 245 5 426 775 626 ["tables","look","number","upto","goal","stop"] "last_within" "thinwood.brackets"
def d54:List O:=h2 778 62 248 4 433 785 626 ["tables","look","at","bit"] "check_bracket" "thinwood.brackets"
def d55:List O:=h2 788 63 251 3 440 794 626 ["tables","look","at"] "closing" "thinwood.brackets"
def d56:List O:=h2 797 64 254 3 447 803 626 ["tables","look","at"] "opening" "thinwood.brackets"
def d57:List O:=h2 810 67 259 1 454 816 806 ["depths","ahead","depth"] "check_depths" "thinwood.shapes"
def d58:List O:=h2 819 68 267 1 461 826 806 ["depths","bits","unclosed","depth"] "brackets_of" "thinwood.shapes"
def d59:List O:=h2 829 69 276 1 468 833 806 ["depths"] "kept_tree" "thinwood.shapes"
def d60:List O:=h2 840 72 280 1 475 845 836 ["signs","sign"] "check_signs" "thinwood.signs"
def d61:List O:=h2 848 73 286 1 482 857 836 ["signs","kinds","aheads","blocks","bits","row"] "kept_signs" "thinwood.signs"
def d62:List O:=h1 74 860 296 2 489 836 "ranks_among" "thinwood.signs"
def d63:List O:=h2 866 75 301 1 494 870 836 ["kind_count"] "level_count" "thinwood.signs"
def d64:List O:=h1 76 873 303 2 501 836 "level_rows" "thinwood.signs"
def d65:List O:=h1 77 879 311 2 506 836 "parted" "thinwood.signs"
def d66:List O:=h2 885 78 315 2 511 893 836 ["tables","look","levels","first","ahead"] "levels_of" "thinwood.signs"
def d67:List O:=h2 896 79 322 3 518 904 836 ["level","at","bit","row","look"] "place_below" "thinwood.signs"
def d68:List O:=h2 907 80 328 1 525 911 836 ["row"] "nought_count" "thinwood.signs"
def d69:List O:=h2 914 81 330 3 532 924 836 ["tables","look","at","rank","place","level","bit"] "sign_at" "thinwood.signs"
def d70:List O:=h2 929 83 340 1 539 933 927 ["tables"] "node_count" "thinwood.trees"
def d71:List O:=h2 936 84 342 2 546 941 927 ["tables","node"] "check_node" "thinwood.trees"
def d72:List O:=h2 944 85 345 3 553 950 927 ["tables","look","at"] "node_at" "thinwood.trees"
def d73:List O:=h2 953 86 349 3 560 959 927 ["tables","look","node"] "place_of" "thinwood.trees"
def d74:List O:=h2 962 87 352 3 567 969 927 ["tables","look","node","behind"] "first_of" "thinwood.trees"
def d75:List O:=h2 972 88 357 3 574 979 927 ["tables","look","node","behind"] "younger_of" "thinwood.trees"
def d76:List O:=h2 988 92 365 1 581 994 982 ["words","word","letter"] "check_words" "thinwood.stores"
def d77:List O:=h1 93 997 374 1 588 982 "beginnings_of" "thinwood.stores"
def d78:List O:=h1 94 1003 379 1 593 982 "parts_of" "thinwood.stores"
def d79:List O:=h2 1009 95 389 1 598 1017 982 ["words","parts","tree","letters","ends"] "kept_store" "thinwood.stores"
def d80:List O:=h2 1020 96 395 1 605 1024 982 ["tables"] "blocks_of_tree" "thinwood.stores"
def d81:List O:=h1 97 1027 397 1 612 982 "blocks_of_letters" "thinwood.stores"
def d82:List O:=h2 1033 98 399 3 617 1039 982 ["tables","look","node"] "letter_of" "thinwood.stores"
def d83:List O:=h2 1042 99 401 2 624 1047 982 ["tables","look"] "look_at_ends" "thinwood.stores"
def d84:List O:=h2 1050 100 403 3 631 1056 982 ["tables","look","node"] "is_end" "thinwood.stores"
def d85:List O:=h2 1059 101 405 4 638 1067 982 ["tables","look","node","letter","young"] "young_from" "thinwood.stores"
def d86:List O:=h2 1070 102 410 3 645 1079 982 ["tables","look","text","nodes","letter","young"] "line_of" "thinwood.stores"
def d87:List O:=h2 1082 103 418 3 652 1090 982 ["tables","look","text","length","node"] "longest_in" "thinwood.stores"
def d88:List O:=h2 1095 105 424 1 659 1099 1093 ["_law_found"] "_law_whole" "law_thinwood_k77_longest_word"
def d89:List O:=h2 1102 106 426 4 666 1112 1093 ["_law_number","_law_kinds","_law_first","_law_many","_law_word_here","_law_k","_law_at"] "_law_spelt" "law_thinwood_k77_longest_word"
def d90:List O:=h2 1115 107 433 2 673 1124 1093 ["_law_cell","_law_words_here","_law_number","_law_way","_law_old","_law_at"] "_law_word" "law_thinwood_k77_longest_word"
def d91:List O:=h2 1127 108 447 1 680 1135 1093 ["_law_script","_law_words_here","_law_room","_law_cell","_law_word_here"] "_law_words" "law_thinwood_k77_longest_word"
def d92:List O:=h2 1138 109 456 2 687 1147 1093 ["_law_cell","_law_words_here","_law_number","_law_old","_law_way","_law_at"] "_law_text" "law_thinwood_k77_longest_word"
def l24:O:=λP=>(.mk (.type "tuple") none (.seq #[(.str "_law_blocks" 1153),(.str "_law_seen" 1154),(.str "_law_told" 1155)] 0) #[])
def l25:O:=λP=>(.mk (.type "tuple") none (.seq #[(.str "_law_blocks" 1156),(.str "_law_seen" 1157)] 0) #[])
def l26:O:=λP=>(.mk .none none (.func (FuncData.mk "_law_look" "_law_look" (L2.ν (Tw.top 110)) (FuncBody.stmts (L2.μ (Tw.top 110))) (L2.δ (Tw.top 110)) 0 [] .none .none .none .none none .none .none 0)) #[])
def l27:O:=λP=>(.mk (.type "code") none (.fields #[(.str "_law_look" 1150),(.str "_law_look" 1151),(.str "/claim/cut.py" 1152),(.int 472 0),(.int 2 0),(.int 0 0),(.int 0 0),(.int 3 0),(.ref 694),(.bool .true),(.int 181 0),(.ref 695),.none,(.ref 696),(.ref 697),(.ref 698),(.int 1158 0),(.int 472 0),(.str "/claim/cut.py" 1159)]) #[])
def l28:O:=λP=>(.mk (.type "function") none (.func (FuncData.mk "_law_look" "_law_look" (L2.ν (Tw.top 110)) (FuncBody.stmts (L2.μ (Tw.top 110))) (L2.δ (Tw.top 110)) 3 [] .none .none .none (.str "law_thinwood_k77_longest_word" 1093) none (.ref 699) .none 0)) #[])
def d94:List O:=h2 1161 111 480 2 701 1167 1093 ["_law_seen","_law_size","_law_number"] "_law_there" "law_thinwood_k77_longest_word"
def d95:List O:=h2 1170 112 485 2 708 1177 1093 ["_law_text_here","_law_words_here","_law_best","_law_many"] "_law_longest" "law_thinwood_k77_longest_word"
def d96:List O:=h1 113 1180 491 1 715 1093 "law" "law_thinwood_k77_longest_word"
def f0:List O:=ap [PySem.W.boot_o_0,PySem.W.boot_o_1,PySem.W.boot_o_2,s0,PySem.W.boot_o_4,PySem.W.boot_o_5,PySem.W.boot_o_6,PySem.W.boot_o_7,PySem.W.boot_o_8,PySem.W.boot_o_9,PySem.W.boot_o_10,l0,s1,l1,l2,l3,l4,l5,l0,l6,l7,l8,l0,l9,l10,l11,l12,l13] (ap d1 (ap d2 (ap d3 (ap d4 (ap d5 (ap d6 (ap d7 (ap d8 (d9)))))))))
def f1:List O:=ap d10 (ap d11 (ap d12 (ap d13 (ap d14 (ap d15 (ap d16 (ap d17 (ap d18 (d19)))))))))
def f2:List O:=ap [l0,l6,l14,l15,l16,l17,l18] (ap d21 (ap d22 (ap d23 (ap d24 (ap d25 (ap d26 (ap d27 (ap d28 (d29)))))))))
def f3:List O:=ap d30 (ap d31 (ap d32 (ap d33 (ap d34 (ap d35 (ap d36 (ap d37 (ap d38 (d39)))))))))
def f4:List O:=ap d40 (ap d41 (ap d42 (ap d43 (ap d44 (ap d45 (ap [l0,l6,l19,l20,l21,l22,l23] (ap d47 (ap d48 (d49)))))))))
def f5:List O:=ap d50 (ap d51 (ap d52 (ap d53 (ap d54 (ap d55 (ap d56 (ap d57 (ap d58 (d59)))))))))
def f6:List O:=ap d60 (ap d61 (ap d62 (ap d63 (ap d64 (ap d65 (ap d66 (ap d67 (ap d68 (d69)))))))))
def f7:List O:=ap d70 (ap d71 (ap d72 (ap d73 (ap d74 (ap d75 (ap d76 (ap d77 (ap d78 (d79)))))))))
def f8:List O:=ap d80 (ap d81 (ap d82 (ap d83 (ap d84 (ap d85 (ap d86 (ap d87 (ap d88 (d89)))))))))
def f9:List O:=ap d90 (ap d91 (ap d92 (ap [l0,l6,l24,l25,l26,l27,l28] (ap d94 (ap d95 (d96))))))
def ff:List O:=ap f0 (ap f1 (ap f2 (ap f3 (ap f4 (ap f5 (ap f6 (ap f7 (ap f8 (f9)))))))))
def s2:O:=gd (Z "__name__" 165 (.str "thinwood.errors" 187)::tk gg 9) 10
def l29:O:=λP=>(.mk .none none (.fields #[(.int 2 0),(.int 0 0),(.ref 20)]) #[])
def l30:O:=λP=>(.mk (.type "type") none (.cls (.mk "WoodError" [(.type "ValueError")] [(.ref 24),(.type "ValueError"),(.type "Exception"),(.type "BaseException"),(.type "object")] 23 "WoodError" .true [] [] .false none .false)) #[(some (.ref 15)),none,(some (.str "WoodError" 189)),(some (.str "WoodError" 197)),(some (.builtin "ValueError.__new__")),(some (.bool .true))])
def S_tree_63:Params→PySem.W.BT:=λP=>bt 6 (mp (λx=>x P) (ov (tk ff 28) [((3),s2),((8),l29),(11,l30)]))
def s3:O:=gd (Z "__name__" 165 (.str "thinwood.errors" 187)::tk gg 10) 11
def s4:O:=tb (tk tt 2)
def l31:O:=λP=>(.mk (.type "type") none (.cls (.mk "WoodError" [(.type "ValueError")] [(.ref 24),(.type "ValueError"),(.type "Exception"),(.type "BaseException"),(.type "object")] 23 "WoodError" .true [] [(.ref 37)] .false none .false)) #[(some (.ref 15)),none,(some (.str "WoodError" 189)),(some (.str "WoodError" 197)),(some (.builtin "ValueError.__new__")),(some (.bool .true))])
def S_tree_78:Params→PySem.W.BT:=λP=>bt 7 (mp (λx=>x P) (ov (tk ff 40) [((3),s3),((8),s4),(11,l31)]))
def s5:O:=gd (Z "__name__" 165 (.str "thinwood.errors" 187)::tk gg 11) 12
def s6:O:=tb (tk tt 3)
def l32:O:=λP=>(.mk (.type "type") none (.cls (.mk "WoodError" [(.type "ValueError")] [(.ref 24),(.type "ValueError"),(.type "Exception"),(.type "BaseException"),(.type "object")] 23 "WoodError" .true [] [(.ref 37),(.ref 49)] .false none .false)) #[(some (.ref 15)),none,(some (.str "WoodError" 189)),(some (.str "WoodError" 197)),(some (.builtin "ValueError.__new__")),(some (.bool .true))])
def S_tree_93:Params→PySem.W.BT:=λP=>bt 7 (mp (λx=>x P) (ov (tk ff 52) [((3),s5),((8),s6),(11,l32)]))
def s7:O:=gd (Z "__name__" 165 (.str "thinwood.errors" 187)::tk gg 12) 13
def s8:O:=tb (tk tt 4)
def l33:O:=λP=>(.mk (.type "type") none (.cls (.mk "WoodError" [(.type "ValueError")] [(.ref 24),(.type "ValueError"),(.type "Exception"),(.type "BaseException"),(.type "object")] 23 "WoodError" .true [] [(.ref 37),(.ref 49),(.ref 61)] .false none .false)) #[(some (.ref 15)),none,(some (.str "WoodError" 189)),(some (.str "WoodError" 197)),(some (.builtin "ValueError.__new__")),(some (.bool .true))])
def S_tree_108:Params→PySem.W.BT:=λP=>bt 8 (mp (λx=>x P) (ov (tk ff 64) [((3),s7),((8),s8),(11,l33)]))
def s9:O:=gd (Z "__name__" 165 (.str "thinwood.errors" 187)::tk gg 13) 14
def s10:O:=tb (tk tt 5)
def l34:O:=λP=>(.mk (.type "type") none (.cls (.mk "WoodError" [(.type "ValueError")] [(.ref 24),(.type "ValueError"),(.type "Exception"),(.type "BaseException"),(.type "object")] 23 "WoodError" .true [] [(.ref 37),(.ref 49),(.ref 61),(.ref 73)] .false none .false)) #[(some (.ref 15)),none,(some (.str "WoodError" 189)),(some (.str "WoodError" 197)),(some (.builtin "ValueError.__new__")),(some (.bool .true))])
def S_tree_123:Params→PySem.W.BT:=λP=>bt 8 (mp (λx=>x P) (ov (tk ff 76) [((3),s9),((8),s10),(11,l34)]))
def s11:O:=gd (Z "__name__" 165 (.str "thinwood.errors" 187)::tk gg 14) 15
def s12:O:=tb (tk tt 6)
def l35:O:=λP=>(.mk (.type "type") none (.cls (.mk "WoodError" [(.type "ValueError")] [(.ref 24),(.type "ValueError"),(.type "Exception"),(.type "BaseException"),(.type "object")] 23 "WoodError" .true [] [(.ref 37),(.ref 49),(.ref 61),(.ref 73),(.ref 85)] .false none .false)) #[(some (.ref 15)),none,(some (.str "WoodError" 189)),(some (.str "WoodError" 197)),(some (.builtin "ValueError.__new__")),(some (.bool .true))])
def S_tree_138:Params→PySem.W.BT:=λP=>bt 8 (mp (λx=>x P) (ov (tk ff 88) [((3),s11),((8),s12),(11,l35)]))
def s13:O:=gd (Z "__name__" 165 (.str "thinwood.errors" 187)::tk gg 15) 16
def s14:O:=tb (tk tt 7)
def l36:O:=λP=>(.mk (.type "type") none (.cls (.mk "WoodError" [(.type "ValueError")] [(.ref 24),(.type "ValueError"),(.type "Exception"),(.type "BaseException"),(.type "object")] 23 "WoodError" .true [] [(.ref 37),(.ref 49),(.ref 61),(.ref 73),(.ref 85),(.ref 97)] .false none .false)) #[(some (.ref 15)),none,(some (.str "WoodError" 189)),(some (.str "WoodError" 197)),(some (.builtin "ValueError.__new__")),(some (.bool .true))])
def S_tree_153:Params→PySem.W.BT:=λP=>bt 8 (mp (λx=>x P) (ov (tk ff 100) [((3),s13),((8),s14),(11,l36)]))
def s15:O:=gd (Z "__name__" 165 (.str "thinwood.errors" 187)::tk gg 16) 17
def s16:O:=tb (tk tt 8)
def l37:O:=λP=>(.mk (.type "type") none (.cls (.mk "WoodError" [(.type "ValueError")] [(.ref 24),(.type "ValueError"),(.type "Exception"),(.type "BaseException"),(.type "object")] 23 "WoodError" .true [] [(.ref 37),(.ref 49),(.ref 61),(.ref 73),(.ref 85),(.ref 97),(.ref 109)] .false none .false)) #[(some (.ref 15)),none,(some (.str "WoodError" 189)),(some (.str "WoodError" 197)),(some (.builtin "ValueError.__new__")),(some (.bool .true))])
def S_tree_168:Params→PySem.W.BT:=λP=>bt 8 (mp (λx=>x P) (ov (tk ff 112) [((3),s15),((8),s16),(11,l37)]))
def s17:O:=gd (Z "__name__" 165 (.str "thinwood.blocks" 335)::tk gg 24) 25
def s18:O:=tb (tk tt 14)
def S_tree_214:Params→PySem.W.BT:=λP=>bt 9 (mp (λx=>x P) (ov (tk ff 155) [((3),s17),((8),s18)]))
def s19:O:=gd (Z "__name__" 165 (.str "thinwood.heaps" 451)::tk gg 36) 37
def s20:O:=tb (tk tt 25)
def S_tree_293:Params→PySem.W.BT:=λP=>bt 9 (mp (λx=>x P) (ov (tk ff 232) [((3),s19),((8),s20)]))
def s21:O:=gd (Z "__name__" 165 (.str "thinwood.rows" 538)::tk gg 48) 49
def s22:O:=tb (tk tt 37)
def S_tree_379:Params→PySem.W.BT:=λP=>bt 10 (mp (λx=>x P) (ov (tk ff 316) [((3),s21),((8),s22)]))
def s23:O:=gd (Z "__name__" 165 (.str "thinwood.brackets" 626)::tk gg 60) 61
def s24:O:=tb (tk tt 49)
def S_tree_463:Params→PySem.W.BT:=λP=>bt 10 (mp (λx=>x P) (ov (tk ff 398) [((3),s23),((8),s24)]))
def s25:O:=gd (Z "__name__" 165 (.str "thinwood.signs" 836)::tk gg 73) 74
def s26:O:=tb (tk tt 60)
def S_tree_542:Params→PySem.W.BT:=λP=>bt 10 (mp (λx=>x P) (ov (tk ff 475) [((3),s25),((8),s26)]))
def s27:O:=gd (Z "__name__" 165 (.str "thinwood.trees" 927)::tk gg 86) 87
def s28:O:=tb (tk tt 73)
def S_tree_629:Params→PySem.W.BT:=λP=>bt 11 (mp (λx=>x P) (ov (tk ff 560) [((3),s27),((8),s28)]))
def s29:O:=gd (Z "__name__" 165 (.str "thinwood.stores" 982)::tk gg 100) 101
def s30:O:=tb (tk tt 85)
def S_tree_709:Params→PySem.W.BT:=λP=>bt 11 (mp (λx=>x P) (ov (tk ff 638) [((3),s29),((8),s30)]))
def S_tree_793:Params→PySem.W.BT:=λP=>bt 11 (mp (λx=>x P) (ff))
def S_heap_794:Params→Heap:=λP=>Heap.mk (Array.mk (mp (λx=>x P) (ff))) (.mk [] [] [] 0 [] [] .false #[] [] 0 .false .false .false 0 [2000,10,10] .false 0 .true [] [] 0 .false)
def S_sts_49:List Stmt:=tk (List.drop 0 PySem.Challenge.pw_thinwood_k77_longest_word.main.body) 2
def S_sts_64:List Stmt:=tk (List.drop 2 PySem.Challenge.pw_thinwood_k77_longest_word.main.body) 1
def S_sts_79:List Stmt:=tk (List.drop 3 PySem.Challenge.pw_thinwood_k77_longest_word.main.body) 1
def S_sts_94:List Stmt:=tk (List.drop 4 PySem.Challenge.pw_thinwood_k77_longest_word.main.body) 1
def S_sts_109:List Stmt:=tk (List.drop 5 PySem.Challenge.pw_thinwood_k77_longest_word.main.body) 1
def S_sts_124:List Stmt:=tk (List.drop 6 PySem.Challenge.pw_thinwood_k77_longest_word.main.body) 1
def S_sts_139:List Stmt:=tk (List.drop 7 PySem.Challenge.pw_thinwood_k77_longest_word.main.body) 1
def S_sts_154:List Stmt:=tk (List.drop 8 PySem.Challenge.pw_thinwood_k77_longest_word.main.body) 1
def S_sts_169:List Stmt:=tk (List.drop 9 PySem.Challenge.pw_thinwood_k77_longest_word.main.body) 9
def S_sts_215:List Stmt:=tk (List.drop 18 PySem.Challenge.pw_thinwood_k77_longest_word.main.body) 13
def S_sts_294:List Stmt:=tk (List.drop 31 PySem.Challenge.pw_thinwood_k77_longest_word.main.body) 13
def S_sts_380:List Stmt:=tk (List.drop 44 PySem.Challenge.pw_thinwood_k77_longest_word.main.body) 13
def S_sts_464:List Stmt:=tk (List.drop 57 PySem.Challenge.pw_thinwood_k77_longest_word.main.body) 15
def S_sts_543:List Stmt:=tk (List.drop 72 PySem.Challenge.pw_thinwood_k77_longest_word.main.body) 14
def S_sts_630:List Stmt:=tk (List.drop 86 PySem.Challenge.pw_thinwood_k77_longest_word.main.body) 15
def S_sts_710:List Stmt:=tk (List.drop 101 PySem.Challenge.pw_thinwood_k77_longest_word.main.body) 13
def S_view:Program:={ PySem.Challenge.pw_thinwood_k77_longest_word with main:={ PySem.Challenge.pw_thinwood_k77_longest_word.main with body:=mp Tw.top [1,2,3,4,5,6,7,8,9,11,12,13,14,15,16,17,18,19,20,21,22,23,24,26,27,28,29,30,31,32,33,34,36,37,38,39,40,41,42,43,44,46,47,48,49,50,51,52,53,54,55,56,57,58,59,60,61,62,63,64,66,67,68,69,71,72,73,74,75,76,77,78,79,80,81,83,84,85,86,87,88,90,91,92,93,94,95,96,97,98,99,100,101,102,103,105,106,107,108,109,110,111,112,113] } }
end
end Tp
theorem PySem.W.Fast.tw14598715356260435866:True:=trivial
noncomputable abbrev PySem.W.Fast.tw8228971057688547071:PySem.Program:=PySem.Challenge.pw_thinwood_k77_longest_word
theorem PySem.W.Fast.te8228971057688547071:PySem.Challenge.pw_thinwood_k77_longest_word = PySem.W.Fast.tw8228971057688547071:=rfl
lay_quick Tp.g0 Tp.g1 Tp.g2 Tp.g3 Tp.g4 Tp.g5 Tp.g6 Tp.g7 Tp.g8 Tp.g9 Tp.g10 Tp.g11 Tp.gg Tp.s0 Tp.l0 Tp.s1 Tp.l1 Tp.l2 Tp.l3 Tp.l4 Tp.l5 Tp.l6 Tp.l7 Tp.l8 Tp.l9 Tp.l10 Tp.l11 Tp.l12 Tp.l13 Tp.d1 Tp.d2 Tp.d3 Tp.d4 Tp.d5 Tp.d6 Tp.d7 Tp.d8 Tp.d9 Tp.d10 Tp.d11
lay_quick Tp.d12 Tp.d13 Tp.d14 Tp.d15 Tp.d16 Tp.d17 Tp.d18 Tp.d19 Tp.l14 Tp.l15 Tp.l16 Tp.l17 Tp.l18 Tp.d21 Tp.d22 Tp.d23 Tp.d24 Tp.d25 Tp.d26 Tp.d27 Tp.d28 Tp.d29 Tp.d30 Tp.d31 Tp.d32 Tp.d33 Tp.d34 Tp.d35 Tp.d36 Tp.d37 Tp.d38 Tp.d39 Tp.d40 Tp.d41 Tp.d42 Tp.d43 Tp.d44 Tp.d45 Tp.l19 Tp.l20
lay_quick Tp.l21 Tp.l22 Tp.l23 Tp.d47 Tp.d48 Tp.d49 Tp.d50 Tp.d51 Tp.d52 Tp.d53 Tp.d54 Tp.d55 Tp.d56 Tp.d57 Tp.d58 Tp.d59 Tp.d60 Tp.d61 Tp.d62 Tp.d63 Tp.d64 Tp.d65 Tp.d66 Tp.d67 Tp.d68 Tp.d69 Tp.d70 Tp.d71 Tp.d72 Tp.d73 Tp.d74 Tp.d75 Tp.d76 Tp.d77 Tp.d78 Tp.d79 Tp.d80 Tp.d81 Tp.d82 Tp.d83
lay_quick Tp.d84 Tp.d85 Tp.d86 Tp.d87 Tp.d88 Tp.d89 Tp.d90 Tp.d91 Tp.d92 Tp.l24 Tp.l25 Tp.l26 Tp.l27 Tp.l28 Tp.d94 Tp.d95 Tp.d96 Tp.f0 Tp.f1 Tp.f2 Tp.f3 Tp.f4 Tp.f5 Tp.f6 Tp.f7 Tp.f8 Tp.f9 Tp.ff Tp.s2 Tp.l29 Tp.l30 Tp.S_tree_63 Tp.s3 Tp.s4 Tp.l31 Tp.S_tree_78 Tp.s5 Tp.s6 Tp.l32 Tp.S_tree_93
lay_quick Tp.s7 Tp.s8 Tp.l33 Tp.S_tree_108 Tp.s9 Tp.s10 Tp.l34 Tp.S_tree_123 Tp.s11 Tp.s12 Tp.l35 Tp.S_tree_138 Tp.s13 Tp.s14 Tp.l36 Tp.S_tree_153 Tp.s15 Tp.s16 Tp.l37 Tp.S_tree_168 Tp.s17 Tp.s18 Tp.S_tree_214 Tp.s19 Tp.s20 Tp.S_tree_293 Tp.s21 Tp.s22 Tp.S_tree_379 Tp.s23 Tp.s24 Tp.S_tree_463 Tp.s25 Tp.s26 Tp.S_tree_542 Tp.s27 Tp.s28 Tp.S_tree_629 Tp.s29 Tp.s30
lay_quick Tp.S_tree_709 Tp.S_tree_793 Tp.S_heap_794 Tp.S_sts_49 Tp.S_sts_64 Tp.S_sts_79 Tp.S_sts_94 Tp.S_sts_109 Tp.S_sts_124 Tp.S_sts_139 Tp.S_sts_154 Tp.S_sts_169 Tp.S_sts_215 Tp.S_sts_294 Tp.S_sts_380 Tp.S_sts_464 Tp.S_sts_543 Tp.S_sts_630 Tp.S_sts_710 Tp.S_view
namespace Tp
open PySem PySem.W.Fast
end Tp
namespace PySem.W.Fast
open PySem Tp
noncomputable section
abbrev tw12651045762107477267:Params→BT:=tw11432227658251013801
theorem te12651045762107477267:S_tree_63=tw12651045762107477267:=te11432227658251013801
abbrev tw11090000218515243029:Params→BT:=tw16269510630359031336
theorem te11090000218515243029:S_tree_78=tw11090000218515243029:=te16269510630359031336
abbrev tw6079619667203421167:Params→BT:=tw5549918322004914887
theorem te6079619667203421167:S_tree_93=tw6079619667203421167:=te5549918322004914887
abbrev tw5477464457622667660:Params→BT:=tw10118726668083288838
theorem te5477464457622667660:S_tree_108=tw5477464457622667660:=te10118726668083288838
abbrev tw17103169883278715608:Params→BT:=tw244363406318419850
theorem te17103169883278715608:S_tree_123=tw17103169883278715608:=te244363406318419850
abbrev tw18094566077420475034:Params→BT:=tw12417361858070979987
theorem te18094566077420475034:S_tree_138=tw18094566077420475034:=te12417361858070979987
abbrev tw783842310601026634:Params→BT:=tw863085786592867233
theorem te783842310601026634:S_tree_153=tw783842310601026634:=te863085786592867233
abbrev tw16506701452078738366:Params→BT:=tw12361961019411380784
theorem te16506701452078738366:S_tree_168=tw16506701452078738366:=te12361961019411380784
abbrev tw3514815389712376783:Params→BT:=tw15182629654053833429
theorem te3514815389712376783:S_tree_214=tw3514815389712376783:=te15182629654053833429
abbrev tw16810017372512638550:Params→BT:=tw12245342217616203890
theorem te16810017372512638550:S_tree_293=tw16810017372512638550:=te12245342217616203890
abbrev tw1533888891477502660:Params→BT:=tw4133028062932887595
theorem te1533888891477502660:S_tree_379=tw1533888891477502660:=te4133028062932887595
abbrev tw5434997035964827050:Params→BT:=tw2418749235743013393
theorem te5434997035964827050:S_tree_463=tw5434997035964827050:=te2418749235743013393
abbrev tw12072999161591153473:Params→BT:=tw8019352753043950259
theorem te12072999161591153473:S_tree_542=tw12072999161591153473:=te8019352753043950259
abbrev tw7543901862908068675:Params→BT:=tw312731823271726943
theorem te7543901862908068675:S_tree_629=tw7543901862908068675:=te312731823271726943
abbrev tw10541529476083564175:Params→BT:=tw16391930838256639100
theorem te10541529476083564175:S_tree_709=tw10541529476083564175:=te16391930838256639100
abbrev tw8739009053018305093:Params→BT:=tw11106749391860951085
theorem te8739009053018305093:S_tree_793=tw8739009053018305093:=te11106749391860951085
abbrev tw3250842402405399598:Params→Heap:=tw4976705011942046932
theorem te3250842402405399598:S_heap_794=tw3250842402405399598:=te4976705011942046932
abbrev tw16850794251847193685:List Stmt:=tw666750322614274432
theorem te16850794251847193685:S_sts_49=tw16850794251847193685:=te666750322614274432
abbrev tw8839523034206113092:List Stmt:=tw5768192320520425421
theorem te8839523034206113092:S_sts_64=tw8839523034206113092:=te5768192320520425421
abbrev tw9174233855353406311:List Stmt:=tw16161987442105222805
theorem te9174233855353406311:S_sts_79=tw9174233855353406311:=te16161987442105222805
abbrev tw13236005840898783373:List Stmt:=tw11682420065776883047
theorem te13236005840898783373:S_sts_94=tw13236005840898783373:=te11682420065776883047
abbrev tw17399975845613294177:List Stmt:=tw5728941507444464575
theorem te17399975845613294177:S_sts_109=tw17399975845613294177:=te5728941507444464575
abbrev tw1492089323045647422:List Stmt:=tw3506674074365841151
theorem te1492089323045647422:S_sts_124=tw1492089323045647422:=te3506674074365841151
abbrev tw11320090959960984623:List Stmt:=tw11501099722331979331
theorem te11320090959960984623:S_sts_139=tw11320090959960984623:=te11501099722331979331
abbrev tw2767192360255108687:List Stmt:=tw13451323129798551695
theorem te2767192360255108687:S_sts_154=tw2767192360255108687:=te13451323129798551695
abbrev tw8413620977639793871:List Stmt:=tw8446481660639318910
theorem te8413620977639793871:S_sts_169=tw8413620977639793871:=te8446481660639318910
abbrev tw323952787651479452:List Stmt:=tw15213887431938716785
theorem te323952787651479452:S_sts_215=tw323952787651479452:=te15213887431938716785
abbrev tw14685579630938192108:List Stmt:=tw1349057676744220601
theorem te14685579630938192108:S_sts_294=tw14685579630938192108:=te1349057676744220601
abbrev tw885569347493706234:List Stmt:=tw6718965177019799211
theorem te885569347493706234:S_sts_380=tw885569347493706234:=te6718965177019799211
abbrev tw4552496408684359346:List Stmt:=tw13526298096046685889
theorem te4552496408684359346:S_sts_464=tw4552496408684359346:=te13526298096046685889
abbrev tw16158546576037564805:List Stmt:=tw4865800672744059054
theorem te16158546576037564805:S_sts_543=tw16158546576037564805:=te4865800672744059054
abbrev tw12508672545531239148:List Stmt:=tw16650737794908445876
theorem te12508672545531239148:S_sts_630=tw12508672545531239148:=te16650737794908445876
abbrev tw1488794748127154758:List Stmt:=tw7111635293316734744
theorem te1488794748127154758:S_sts_710=tw1488794748127154758:=te7111635293316734744
abbrev tw17558632806189749401:Program:=tw11325136443342628617
theorem te17558632806189749401:S_view=tw17558632806189749401:=te11325136443342628617
theorem te12351259723997134868:True:=trivial
end
end PySem.W.Fast
open PySem PySem.W PyProof.Rows
set_option maxRecDepth 100000 in
set_option maxHeartbeats 0 in
theorem PySem.Challenge.cw_thinwood_k77_longest_word_holds : PySem.Challenge.rw_thinwood_k77_longest_word.Holds := by
 w_on;o_law;k_head;(case hw=>w_witness2)
 k_fill
 refine L2.KR (l:=PySem.Challenge.rw_thinwood_k77_longest_word) (n:=63) (k:=14) (x := "_law_script") rfl (by decide) rfl ⟨rfl,by decide,by decide⟩ (λw h Y=>PySem.W.km_in_of Y) ?F
 case F=>
  intro w mg mb mean fa h KX TT hmg
  refine' Tw.Qg KX TT hmg ?d0 ?d1 ?d2 ?d3 ?d4 ?d5 ?d6 ?d7 ?d8 ?d9 ?d10 ?a11 ?l11 ?Z9 ?k11 ?abr ?abt ?Xr ?d12 ?d13 ?d14 ?d15 ?d16 ?d17 ?d18 ?d19 ?d20 ?d21 ?d22 ?d23 ?d24 ?d25 ?d26 ?d27 ?d28 ?d29 ?d30 ?d31 ?d32 ?d33 ?d34 ?d35 ?d36 ?a37 ?l37 ?c37 ?k37 ?abu ?abv ?Xu ?d38 ?d39 ?d40 ?d41 ?d42 ?d43 ?d44 ?d45 ?d46 ?d47 ?d48 ?d49 ?d50 ?d51 ?d52 ?d53 ?d54 ?d55 ?d56 ?d57 ?d58 ?d59 ?d60 ?d61 ?d62 ?d63 ?d64 ?d65 ?d66 ?d67 ?d68 ?d69 ?d70 ?d71 ?d72 ?d73 ?d74 ?d75 ?d76 ?d77 ?d78 ?d79 ?d80 ?d81 ?d82 ?d83 ?Yv ?Yw ?c84 ?k84 ?ab6 ?ab7 ?Xv ?d85 ?d86 ?d87 ?afF ?ab8 ?afM ?abw ?afN ?afG ?afO ?afP ?afi ?acL ?afQ ?aeE ?afR ?afS ?afj ?afT ?abx ?ad4 ?ab9 ?aaG ?aby ?aaH ?abz ?Yx ?ad5 ?ad6 ?acM ?acN ?acO ?acP ?acQ ?acR ?acS ?Ym ?Yn ?nt ?aaj ?aam ?aan
  (case d0|d1|d2|d3|d4|d5|d6|d7|d8|d9|d10|d12|d13|d14|d15|d16|d17|d18|d19|d20|d21|d22|d23|d24|d25|d26|d27|d28|d29|d30|d31|d32|d33|d34|d35|d36|d38|d39|d40|d41|d42|d43|d44|d45|d46|d47|d48|d49|d50|d51|d52|d53|d54|d55|d56|d57|d58|d59|d60|d61|d62|d63|d64|d65|d66|d67|d68|d69|d70|d71|d72|d73|d74|d75|d76|d77|d78|d79|d80|d81|d82|d83|d85|d86|d87=>exact⟨by k_is,L2.zV (by k_is) (by k_is) (by k_is)⟩);(case a11=>k_is);(case l11=>k_is);(case Z9=>k_is);(case k11=>k_is);(case abr=>k_is);(case abt=>rfl);(case Xr=>exact⟨_,rfl⟩);(case a37=>k_is);(case l37=>k_is);(case c37=>k_is);(case k37=>k_is);(case abu=>k_is);(case abv=>rfl);(case Xu=>exact⟨_,rfl⟩);(case Yv=>k_is);(case Yw=>k_is);(case c84=>k_is);(case k84=>k_is);(case ab6=>k_is);(case ab7=>rfl);(case Xv=>exact⟨_,rfl⟩);(case afF=>k_is);(case ab8=>k_is);(case afM=>k_is);(case abw=>k_is);(case afN=>k_is);(case afG=>k_is);(case afO=>k_is);(case afP=>k_is);(case afi=>k_is);(case acL=>k_is);(case afQ=>k_is);(case aeE=>k_is);(case afR=>k_is);(case afS=>k_is);(case afj=>k_is);(case afT=>k_is);(case abx=>k_is);(case ad4=>k_is);(case ab9=>k_is);(case aaG=>k_is);(case aby=>k_is);(case aaH=>k_is);(case abz=>k_is);(case Yx=>k_is);(case ad5=>k_exc);(case ad6=>k_is);(case acM=>k_is);(case acN=>k_is);(case acO=>k_is);(case acP=>k_is);(case acQ=>k_is);(case acR=>k_is);(case acS=>k_is);(case Ym=>kit_is);(case Yn=>kit_is);(case nt=>kernel_rfl);(case aaj=>decide);(case aam=>decide);(case aan=>decide)
