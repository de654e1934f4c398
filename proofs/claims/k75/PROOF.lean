import PyProof.Rows.All
import Wide.All
import OpenK.AllK
import Wide.FinOn
import Lean
import PyProof.EqAt
import PyProof.EqKinds
import PyProof.TupleCall
import PySem.Challenge.RW_thinwood_k75_words_by_number
set_option Elab.async false
set_option linter.all false
set_option maxRecDepth 100000
set_option maxHeartbeats 4000000
theorem bc0{p:Prop}(h:¬p->False):p:=Classical.byContradiction h
local macro_rules
 | `(tactic| obtain $p:rcasesPatMed:=$e:term)=>`(tactic| (refine _root_.bc0 λhG=>?_;rcases $e:term with $p:rcasesPatMed <;> (refine hG ?_;clear hG)))
local macro_rules
 | `(tactic| rintro $ps:rintroPat*)=>do
  let n:=ps.size
  let l:=(ps.getD (n-1) ⟨.missing⟩).raw[0]
  if l.getKind != `Lean.Parser.Tactic.rcasesPat.tuple then Lean.Macro.throwUnsupported
  let q:Lean.TSyntax `rcasesPat:=⟨l⟩
  let arr:=(ps.extract 0 (n-1)).push (<- `(rintroPat| z))
  `(tactic| (rintro $arr*;refine _root_.bc0 λhG=>?_;rcases z with $q:rcasesPat <;> (refine hG ?_;clear hG)))
open List renaming length_map->aaa,getElem?_eq_some_iff->aab,getElem?_eq_getElem->aad,length_append->aae,getElem?_map->aag,mem_of_getElem?->aah,take_of_length_le->aai,map_append->aaj,mem_singleton->aam,size_toArray->aao,getElem?_append_right->aap,map_cons->aar,mem_cons->aas,mem_append_right->aat,getElem?_append_left->aaw,length_take->aaz,replicate->aaA,length_cons->aaB,mem_cons_of_mem->aaC,append_assoc->aaG,mem_cons_self->aaL,mem_append->aaW,mem_map->aaZ,length_replicate->aba,getElem?_of_mem->abg,length_drop->abo,pairwise_iff_getElem->abF,take_add_one->abH,filter_cons_of_pos->acM,getElem_mem->acV,getElem?_take_of_lt->adI,take_append_drop->aft,drop_eq_getElem_cons->af4,drop_of_length_le->af5,range->agq,pairwise_append->agv,filter_append->agw,Perm->agx,replicate_succ->agy,cons_lt_cons_iff->agz,length_range->agA,mem_append_left->agC,getElem?_drop->agF,getElem_of_mem->agI,flatten_cons->agJ,length_singleton->agK,range_succ->agL,cons_append->agM,filter_cons->agN,getD_eq_getElem?_getD->agP,length_reverse->agQ,extract_eq_drop_take->agS,nodup_cons->agT,mem_of_mem_drop->agX,getElem?_replicate->agY,dropLast_concat_getLast->agZ,filter_cons_of_neg->ag0,map_map->ag1,take_sublist->ag2,append_nil->ag3,reverse_append->ag4,getElem?_set_self->ag5,mem_reverse->ag8,not_mem_nil->ag9,getElem?_eq_none->ahb,getElem?_set_ne->ahf,mem_of_mem_take->ahg,eq_of_mem_replicate->ahj,ext_getElem?->ahl,getElem_drop->ahm,filterMap_cons->aho,length->ahp,sum_cons->ahq,take_succ_cons->ahr,mem_singleton_self->ahs,map_reverse->aht,take_length->ahu,take_append_of_le_length->ahv,mem_range->ahw,drop_zero->ahx,zip_cons_cons->ahz,of_mem_zip->ahC,pairwise_reverse->ahE,getElem?_toArray->ahF,find?_cons->ahI,getElem_take->ahM,reverse_reverse->ahN,zip->ahQ,map_congr_left->ahR,mem_filter->ahU,any_cons->ahV,nil_append->ahW,map_take->ahX,getElem?_cons_succ->ahY,sum_append->ahZ,length_nil->ah1,pairwise_cons->ah2,reverse_perm->ah3,take_take->ah4,drop_drop->ah5,lookup_cons->ah8,eq_nil_of_length_eq_zero->aia,nil_lt_cons->aib,getLastD_concat->aid,forall_mem_cons->aie,map_drop->aif,foldl_cons->aih,toList_toArray->aii,not_lt_nil->aij,idxOf_lt_length_of_mem->aik,length_eraseIdx_of_lt->aio,mem_filterMap->aiq,map_nil->air,sublist_append_right->ait,take_zero->aiu,getElem?_eq_none_iff->aiv,reverse_cons->aix,foldl->aiy,sublist_append_left->aiz,lt_trans->aiC,take_nil->aiD,length_eq_zero_iff->aiE,drop_length->aiF,pairwise_lt_range->aiG,getElem?_reverse->aiI,length_filter_le->aiK,Perm.append_left->aiL,perm_append_comm->aiM,lt_irrefl->aiR,take_succ->aiS,mem_map_of_mem->aiT,flatten_append->aiW,all_cons->aiY,take_add->ai0,getElem_idxOf->ai2,Pairwise.imp->ai3,getElem?_inj->ai4,pairwise_map->ai7,nodup_append->ai8,all_eq_true->aje,getElem_map->ajh,le_antisymm->aji,length_set->ajj,length_zip->ajm,Perm.trans->ajn,not_lt->ajo,Perm.refl->ajs,sum_nil->ajA
open Nat renaming le_refl->aac,lt_of_lt_of_le->aak,ne_of_lt->aan,lt_or_ge->aay,zero_le->aaD,min_eq_left->acW,le_trans->aeY,eq_zero_or_pos->ags,lt_irrefl->agt,le_of_lt->agu,add_sub_cancel_left->agB,mul_le_mul_right->agD,mul_comm->agE,two_pow_pos->agH,zero_add->agO,pow_succ->agU,lt_succ_self->agW,min_eq_right->ag7,lt_of_le_of_lt->aha,mul_assoc->ahc,le_succ->ahe,lt_succ_of_lt->ahk,sub_zero->ahn,add_sub_cancel->ahA,ne_of_gt->ahB,le_of_eq->ahD,add_mul->ahG,one_mul->ahH,not_lt_zero->ahJ,sub_self->ahK,lt_trichotomy->ahL,add_le_add_left->ahS,succ_mul->ahT,pow_zero->ah7,le_add_right->ah9,zero_mul->ais,le_total->aiP,pow_le_pow_right->aiQ,mul_le_mul_left->aiU,add_zero->ajb,lt_trans->ajd,le_antisymm->ajk,mul_le_mul->ajq,add_assoc->ajw,add_comm->ajz,pow_add->ajF,mod_lt->ajG
open Array renaming length_toList->aaf,getElem?_toList->abv,toList_append->acK,getElem_mem_toList->adJ,getElem_toList->adK,toList_push->agR,perm_iff_toList_perm->ag6,toList_extract->ahh,getElem?_eq_getElem->ahO,toList_reverse->aic,getElem?_eq_some_iff->ain,append_assoc->aip,size_setIfInBounds->aiA,getElem_extract->aiN,Perm.refl->aiO,toList_modify->aiV,size_extract->ai1,getD->ai6,toList->ajy
open Bool renaming false_ne_true->aal,false_eq_true->agr,not_eq_true'->ahi,and_eq_true->ahP,eq_iff_iff->aig,or_eq_true->aiH,or_false->aiX,false_and->ajp,not_false->ajr,false_or->aju,not_true->ajv,true_or->ajB,not_not->ajC
open Option renaming some.inj->aax,map_eq_some_iff->aaM,map_some->ah0,isSome_iff_exists->aiw,toList_some->aiZ,isSome_map->ai5,some.injEq->ai9,getD_none->ajf,getD_some->ajg,map->ajt,none->ajE
open Int renaming toNat_natCast->abG,emod_nonneg->agV,emod_lt_of_pos->ahd,toNat_of_nonneg->ail,fdiv_eq_ediv_of_nonneg->aim,ediv_ediv_of_nonneg->aiB,lt_or_le->aiJ,pow_succ->aja,ediv_one->ajc,le_refl->ajl,ofNat.inj->ajx,ofNat_lt->ajD
open Ne renaming symm->agG
open Or renaming inl->ahy,inr->ah6
def dgt(x:Lean.Term):Lean.MacroM (Array Lean.Term):=match x.raw.isNatLit? with
 |some 5=>return #[<-`(_),<-`(rfl)]
 |some 7=>return #[<-`(rfl)]
 |some 9=>return #[<-`(by lia)]
 |some 2=>return #[<-`(_),<-`(_),<-`(rfl),<-`(rfl)]
 |some 4=>return #[<-`(by decide)]
 |some 6=>return #[<-`(_),<-`(rfl),<-`(_),<-`(rfl)]
 |some 1=>return #[<-`(_),<-`(_)]
 |some 3=>return #[<-`(by decide +kernel)]
 |some 8=>return #[<-`(?_)]
 |_=>return #[x]
local macro_rules
 |`(tactic|exists $es,*)=>do
  let l<-es.getElems.flatMapM dgt
  `(tactic|refine ⟨$l,*, ?_⟩)
open Prod renaming mk->pq
local macro_rules
 |`(($a,$b,*))=>do
  let l<-(#[a]++b.getElems).flatMapM dgt
  `(⟨$l,*⟩)
local macro_rules
 |`(⋯)=>`((by lia))
local macro_rules
 |`(∅)=>`((by decide))
namespace L2
open PySem PySem.Spec PyProof.Rows
variable{s:Shared}{w:World}{A:Around}{E:Value->Shared->Prop}{prog:Program}{π:List (Addr×Obj)}{e o b tg:Expr}{K:PySem.W.Frag}{a f C S c dx Pt:Addr}{h' base h:Heap}{mg:Str->Option Value}{x qual name:Str}{N ps:List Str}{scope:Scope}{fd:FuncData}{p apos:Pos}{st:Stmt}{outer:List Env}{n i R:Nat}{d J:List Int}{g:List Addr}{l:Array Keyed}{m:Int}{q:Value}{r:List Value}{u:List Expr}{v:List (Str×Addr)}{y:Array Value}{z:List Nat}{D:List (Str×Nat)}{G:Option Value->Shared->Prop}{I:SortSt}{M:List (List Nat)}{O:Type}{Q:SetTable}{T:Value->Addr->Result->Shared->Prop}{Y:List (Int×Value)}{Z:Option Nat->SortSt->Prop}
abbrev Key:=Sum Int Str
def yp:Key->Value->Bool
 |.inl k,v=>Value.isInt k v
 |.inr x,v=>Value.isStrOf x v
def Tc(w:World):Key->Int
 |.inl k=>hashInt k
 |.inr x=>hashStr w x
theorem cD:∀{k:Key}{v:Value},yp k v=true->(∃i t,k=Sum.inl i/\v=Value.int i t)\/(∃x t,k=Sum.inr x/\v=Value.str x t)
 |.inl i,v,h=>by
  obtain⟨t,e⟩:=Value.isInt_shape (k:=i) (v:=v) h;exact .inl (i,t,7,e)
 |.inr x,v,h=>by
  obtain⟨t,e⟩:=Value.isStrOf_shape (x:=x) (v:=v) h;exact .inr (x,t,7,e)
theorem Jm(i:Int)(t:Tok):yp (.inl i) (.int i t)=true:=by simp[yp,Value.isInt]
theorem Ia(x:Str)(t:Tok):yp (.inr x) (.str x t)=true:=by simp[yp,Value.isStrOf]
theorem QT(a b:Int):decide ((Sum.inl a:Key)=Sum.inl b)=(a==b):=by
 by_cases e:a=b
 ·subst e;simp
 ·have h:¬(Sum.inl a:Key)=Sum.inl b:=λq=>e (Sum.inl.inj q);rw[decide_eq_false h];exact(beq_eq_false_iff_ne.mpr e).symm
theorem Qt(a b:Str):decide ((Sum.inr a:Key)=Sum.inr b)=decide (a=b):=by
 by_cases e:a=b
 ·subst e;simp
 ·have h:¬(Sum.inr a:Key)=Sum.inr b:=λq=>e (Sum.inr.inj q);rw[decide_eq_false h,decide_eq_false e]
theorem Rq(a:Int)(b:Str):decide ((Sum.inl a:Key)=Sum.inr b)=false:=decide_eq_false (λq=>nomatch q)
theorem QX(a:Str)(b:Int):decide ((Sum.inr a:Key)=Sum.inl b)=false:=decide_eq_false (λq=>nomatch q)
def dC(prog:Program)(w:World):PySem.KeyKind prog w Key where
 is:=yp
 hash:=Tc w
 inj:=λv a b l f=>by
  rcases cD l with ⟨i,t,rfl,rfl⟩|⟨x,t,rfl,rfl⟩
  ·rcases cD f with ⟨j,u,rfl,e⟩|⟨y,u,rfl,e⟩
   ·injection e with c _;rw[c]
   ·exact nomatch e
  ·rcases cD f with ⟨j,u,rfl,e⟩|⟨y,u,rfl,e⟩
   ·exact nomatch e
   ·injection e with c _;rw[c]
 byValue:=λk v h=>by
  rcases cD h with ⟨i,t,rfl,rfl⟩|⟨x,t,rfl,rfl⟩<;>rfl
 pyHash:=λd h=>by
  rcases cD d with ⟨i,t,rfl,rfl⟩|⟨x,t,rfl,rfl⟩
  ·exact wpAny_pyHash_int h
  ·exact wpAny_pyHash_str h
 eqBool:=λg d h=>by
  rcases cD g with ⟨i,t,rfl,rfl⟩|⟨x,t,rfl,rfl⟩
  ·rcases cD d with ⟨j,u,rfl,rfl⟩|⟨y,u,rfl,rfl⟩
   ·rw[QT]at h;exact wpAny_eqBool_int h
   ·rw[Rq]at h;exact SeqAt.EqAt.int_str i t y u _ _ _ _ h
  ·rcases cD d with ⟨j,u,rfl,rfl⟩|⟨y,u,rfl,rfl⟩
   ·rw[QX]at h;exact SeqAt.EqAt.str_int x t j u _ _ _ _ h
   ·rw[Qt]at h;exact wpAny_eqBool_str h
 «strs»:=λk x t v h=>by
  rcases cD h with ⟨i,u,rfl,e⟩|⟨y,u,rfl,e⟩
  ·exact nomatch e
  ·injection e with c _
   subst c;cases v<;>rfl
theorem Bw(prog:Program)(w:World)(i:Int)(t:Tok):(dC prog w).is (.inl i) (.int i t)=true:=Jm i t
theorem Dq(prog:Program)(w:World)(x:Str)(t:Tok):(dC prog w).is (.inr x) (.str x t)=true:=Ia x t
inductive V where
 | non|bl (b:Bool) | int (i:Int) | str (x:Str) | VB (b:Array UInt8) | flt (b:UInt64) | ref (a:Addr) | ty (n:String)
 deriving DecidableEq
def RelV:V->Value->Prop
 |.non,u=>u=Value.none
 |.bl b,u=>u=Value.bool b
 |.int i,u=>∃t,u=Value.int i t
 |.str x,u=>∃t,u=Value.str x t
 |.VB b,u=>∃t,u=Value.bytes b t
 |.flt b,u=>∃t,u=Value.float b t
 |.ref a,u=>u=Value.ref a
 |.ty n,u=>u=Value.type n
abbrev Vals:List V->List Value->Prop:=Paired RelV
theorem Vals.length{xs:List V}{a:List Value}(r:Vals xs a):xs.length=a.length:=Paired.length r
theorem Vals.get:∀{xs:List V}{a:List Value}{i:Nat}{x:V},Vals xs a->xs[i]?=some x -> ∃u,a[i]?=some u/\RelV x u
 |_,_,_,_,.nil,e=>by simp at e
 |_,_,0,_,.cons r _,e=>by simp at e;subst e;exact(5,r)
 |_,_,i+1,x,.cons _ t,e=>by
  obtain⟨u,c,b⟩:=Vals.get (i:=i) (x:=x) t (by simpa using e);exact(u,by simpa using c,b)
theorem Vals.set{x:V}{u:Value}(r:RelV x u):∀{xs:List V}{a:List Value} (i:Nat),Vals xs a->Vals (xs.set i x) (a.set i u)
 |_,_,_,.nil=>.nil
 |_,_,0,.cons _ t=>.cons r t
 |_,_,i+1,.cons q t=>.cons q (Vals.set r i t)
theorem Vals.append:∀{xs ys:List V}{a ws:List Value},Vals xs a->Vals ys ws->Vals (xs++ys) (a++ws)
 |_,_,_,_,.nil,s=>s
 |_,_,_,_,.cons r t,s=>.cons r (Vals.append t s)
theorem Vals.take:∀{xs:List V}{a:List Value} (n:Nat),Vals xs a->Vals (xs.take n) (a.take n)
 |_,_,0,_=>.nil
 |_,_,_+1,.nil=>.nil
 |_,_,n+1,.cons r t=>.cons r (Vals.take n t)
theorem Vals.drop:∀{xs:List V}{a:List Value} (n:Nat),Vals xs a->Vals (xs.drop n) (a.drop n)
 |_,_,0,r=>r
 |_,_,_+1,.nil=>.nil
 |_,_,n+1,.cons _ t=>Vals.drop n t
def v8:Option V->Option Value->Prop
 |some v,some u=>RelV v u
 |none,none=>True
 |_,_=>False
def KV{κ:Type}:List (κ×V)->List (κ×Value)->Prop:=Paired λ(p:κ×V) (q:κ×Value)=>p.1=q.1/\RelV p.2 q.2
def kV:Key->V
 |.inl i=>.int i
 |.inr x=>.str x
inductive HO where
  | lst (xs:List V)
  | tup (xs:List V)
  | dK (kvs:List (Key×V)) | dT (kvs:List (List Key×V))
  | set (S:Int->Bool) (n:Nat)
  | ins (C dx:Addr) (fs:List (Str×V))
  | own (x:Addr)
  | xd (fs:List (Str×V))
  | met (f x:Addr)
  | Ys (lo hi:Int)
  | U4 (o:Obj) (u:HO)
  | Ug (ps:Array Value)
  | ext (φ:Heap->Prop)
abbrev Hp:=Addr->Option HO
def upd(H:Hp)(a:Addr)(o:HO):Hp:=λb=>if b=a then some o else H b
theorem ao{H:Hp}{a:Addr}{o:HO}:upd H a o a=some o:=by unfold upd;rw[if_pos rfl]
theorem aG{H:Hp}{a b:Addr}{o:HO}(h:b≠a):upd H a o b=H b:=by unfold upd;rw[if_neg h]
theorem m6{H:Hp}{a:Addr}{o u:HO}:upd (upd H a o) a u=upd H a u:=by
 funext b;unfold upd;split<;>rfl
theorem RM{H:Hp}{a b:Addr}{o u:HO}(h:H a=some o)(h':H b=some u)(d:o≠u):a≠b:=by
 intro e;subst e;rw[h]at h';exact d (aax h')
theorem aD{H:Hp}{a b:Addr}{o:HO}(h:H a=some o)(h':H b=none):a≠b:=by
 intro e;subst e;rw[h]at h';cases h'
section
variable(P:Program)(w:World)
def bH(H:Hp)(h:Heap)(a:Addr):HO->Prop
 |.lst d=>d.length<=sizeLine /\ ∃(c:List Value) (n:Nat),Vals d c/\h.get? a=some {cls:=.type "list",data:=.seq c.toArray n}
 |.tup d=>d.length<=sizeLine /\ ∃c:List Value,Vals d c/\IsTup h a c.toArray
 |.dK b=>b.length<=sizeLine/\(a==sysModules)=false /\ ∃k,KV b k/\h.DictOf (dC P w) a k
 |.dT b=>b.length<=sizeLine/\(a==sysModules)=false /\ ∃d:List (List Key×Addr×Value),
   Paired (λ(p:List Key×V) (q:List Key×Addr×Value)=>p.1=q.1/\H q.2.1=some (.tup (p.1.map kV))/\RelV p.2 q.2.2) b d /\
   ∃o r A,h.get? a=some o/\o.ExactDict/\o.data=.dict r A/\r.toList=d.map (entryOfKey (tupleKind (dC P w)))/\(d.map (·.1)).Nodup
 |.set S n=>h.SetOf (intKind P w) a S n
 |.ins C i g=>H i=some (.own a)/\g.length<=1000/\i≠a/\h.get? a=some (PySem.W.instObj C i) /\
   ∃e,h.Ns1 i e/\(∀f,v8 (g.lookup f) (e f))/\PySem.Within e (g.map (·.1))
 |.own _=>∃o,h.get? a=some o
 |.xd g=>∃e,h.Ns1 a e /\ ∀f,v8 (g.lookup f) (e f)
 |.Ys y z=>∃t u v,h.get? a=some {cls:=.type "range",data:=.fields #[.int y t,.int z u,.int 1 v]}
 |.U4 o u=>h.get? a=some o/\bH H h a u
 |.Ug s=>h.get? a=some {cls:=.none,data:=.fields s}
 |.met f x=>h.get? a=some (PySem.W.methodObj (.ref f) (.ref x))
 |.ext j=>j h/\(∃o,h.get? a=some o) /\ ∀m l:Heap,j m->(∀o,m.get? a=some o->l.get? a=some o)->j l
def Uj(H:Hp)(h:Heap):Prop:=∀a o,H a=some o->bH P w H h a o
end
section
variable{P:Program}{H H':Hp}{o:HO}
theorem bH.lt(x:bH P w H h a o):a<h.objs.size:=by
 cases o with
 |lst c=>obtain⟨_,_,_,_,e⟩:=x;exact Heap.lt_size e
 |tup c=>obtain⟨_,_,_,p⟩:=x;exact p.lt
 |dK b=>obtain⟨_,_,_,_,o,_,_,e,_⟩:=x;exact Heap.lt_size e
 |dT b=>obtain⟨_,_,_,_,o,_,_,e,_⟩:=x;exact Heap.lt_size e
 |set S n=>obtain⟨o,_,_,_,e,_⟩:=x;exact Heap.lt_size e
 |ins C m d=>obtain⟨_,_,_,e,_⟩:=x;exact Heap.lt_size e
 |own y=>obtain⟨_,e⟩:=x;exact Heap.lt_size e
 |xd d=>obtain⟨_,⟨_,_,_,e,_⟩,_⟩:=x;exact Heap.lt_size e
 |Ys k l=>obtain⟨_,_,_,e⟩:=x;exact Heap.lt_size e
 |U4 j u=>obtain⟨e,_⟩:=x;exact Heap.lt_size e
 |Ug i=>exact Heap.lt_size (show h.get? a=some _ from x)
 |met f y=>exact Heap.lt_size (show h.get? a=some _ from x)
 |ext g=>obtain⟨_,⟨_,e⟩,_⟩:=x;exact Heap.lt_size e
theorem Paired.mapP{e d:Type}{F G:e->d->Prop}:∀{c:List e}{l₂:List d},Paired F c l₂->(∀a b,F a b->G a b)->Paired G c l₂
 |_,_,.nil,_=>.nil
 |_,_,.cons r t,f=>.cons (f _ _ r) (Paired.mapP t f)
theorem bH.stay(x:bH P w H h a o)(k:∀b u,(b=a\/H b=some (.own a))->h.get? b=some u->h'.get? b=some u)
  (I:∀b,H b=some (.own a)->H' b=some (.own a))(ht:∀b xs,H b=some (.tup xs)->H' b=some (.tup xs)):bH P w H' h' a o:=by
 induction o with
 |lst xs=>obtain⟨z,l,n,r,e⟩:=x;exact(z,l,n,r,k _ _ (.inl rfl) e)
 |tup xs=>obtain⟨z,l,r,g,e,c⟩:=x;exact(z,l,r,g,k _ _ (.inl rfl) e,c)
 |dK A=>obtain⟨z,y,E,r,g,i,j,e,c⟩:=x;exact(z,y,E,r,g,i,j,k _ _ (.inl rfl) e,c)
 |dT A=>
  obtain⟨z,y,xs,r,g,i,j,e,c⟩:=x;exact(z,y,xs,Paired.mapP r λp q z=>(z.1,ht _ _ z.2.1,z.2.2),g,i,j,k _ _ (.inl rfl) e,c)
 |set S n=>obtain⟨g,i,j,t,e,c⟩:=x;exact(g,i,j,t,k _ _ (.inl rfl) e,c)
 |ins C O J=>
  obtain⟨d,z,F,e,s,⟨m,i,j,K,c⟩,r⟩:=x;exact(I _ d,z,F,k _ _ (.inl rfl) e,s,(m,i,j,k _ _ (.inr d) K,c),r)
 |own y=>obtain⟨g,e⟩:=x;exact(g,k _ _ (.inl rfl) e)
 |xd J=>obtain⟨s,⟨m,i,j,e,c⟩,r⟩:=x;exact(s,(m,i,j,k _ _ (.inl rfl) e,c),r)
 |Ys M N=>obtain⟨t,u,v,e⟩:=x;exact(t,u,v,k _ _ (.inl rfl) e)
 |U4 g u G=>obtain⟨e,q⟩:=x;exact(k _ _ (.inl rfl) e,G q)
 |Ug D=>
  have e:h.get? a=some {cls:=.none,data:=.fields D}:=x;show h'.get? a=some {cls:=.none,data:=.fields D};exact k a _ (.inl rfl) e
 |met f y=>
  have e:h.get? a=some (PySem.W.methodObj (.ref f) (.ref y)):=x;show h'.get? a=some (PySem.W.methodObj (.ref f) (.ref y));exact k a _ (.inl rfl) e
 |ext L=>obtain⟨p,⟨o,e⟩,B⟩:=x;exact(B _ _ p λo q=>k _ _ (.inl rfl) q,(o,k _ _ (.inl rfl) e),B)
theorem Uj.lt(x:Uj P w H h)(e:H a=some o):a<h.objs.size:=(x a o e).lt
theorem Uj.fresh(x:Uj P w H h)(e:h.objs.size<=a):H a=none:=by
 cases q:H a with
 |none=>rfl
 |some u=>exact absurd (aak (x.lt q) e) (agt _)
theorem Uj.kept(x:Uj P w H h)(k:∀b u,h.get? b=some u->h'.get? b=some u):Uj P w H h':=λa o e=>
 (x a o e).stay (λb u _ q=>k b u q) (λ_ q=>q) λ_ _ q=>q
theorem Uj.laid(x:Uj P w H h)(k:∀b u,h.get? b=some u->h'.get? b=some u)(i:h.objs.size<=a)(d:bH P w (upd H a o) h' a o):Uj P w (upd H a o) h':=λb u e=>by
 have f:=x.fresh i;by_cases g:b=a
 ·subst g;rw[ao]at e;cases e;exact d
 ·rw[aG g]at e;exact(x b u e).stay (λc v _ q=>k c v q) (λc q=>by rw[aG (aD q f)];exact q) λc j q=>by rw[aG (aD q f)];exact q
end
def Rd(H:Hp)(a:Addr)(u:HO):Prop:=H a=some u \/ ∃o,H a=some (.U4 o u)
theorem Rd.ok{w:World}{H:Hp}{a:Addr}{u:HO}(r:Rd H a u)(x:Uj prog w H h'):bH prog w H h' a u:=by
 rcases r with r|⟨o,r⟩
 ·exact x a u r
 ·obtain⟨_,q⟩:=x a _ r;exact q
def Xo:Option HO->Prop
 |some (.lst _)=>True
 |some (.dK _)=>True
 |some (.dT _)=>True
 |some (.set _ _)=>True
 |some (.ins _ _ _)=>True
 |some (.ext _)=>True
 |_=>False
section
variable{P:Program}{H:Hp}{x e:Addr}{o':HO}
theorem Uj.write(s:Uj P w H h)(i:Xo (H x))(p:e=x\/H e=some (.own x))(k:∀b u,b≠e->h.get? b=some u->h'.get? b=some u)(n:∃u,h'.get? e=some u)
  (m:bH P w (upd H x o') h' x o'):Uj P w (upd H x o') h':=λb u q=>by
 have d:∀c y,H c=some (.own y)->c≠x:=λc y r z=>by subst z;rw[r]at i;exact i
 have f:∀c g,H c=some (.tup g)->c≠x:=λc g r z=>by subst z;rw[r]at i;exact i
 by_cases l:b=x
 ·subst l;rw[ao]at q;cases q;exact m
 ·rw[aG l]at q;by_cases a:b=e
  ·have o:H b=some (.own x):=by
    rcases p with z|z
    ·exact absurd (a.trans z) l
    ·rw[a];exact z
   rw[q]at o;cases o;obtain⟨v,t⟩:=n;exact(v,by rw[a];exact t)
  ·refine(s b u q).stay (λc v j r=>k c v ?_ r) (λc r=>by rw[aG (d c b r)];exact r) λc g r=>by rw[aG (f c g r)];exact r
   rcases j with rfl|j
   ·exact a
   ·rintro rfl;rcases p with z|z
    ·exact d c b j z
    ·rw[j]at z;cases z;exact l rfl
end
structure Un(fs ex:List Addr)(H H':Hp)(h h':Heap):Prop where
 keep:∀b o,h.get? b=some o->H b=none->b∉fs->b∉ex->h'.get? b=some o
 slot:∀b o,h.get? b=some o->H b=none->b∈fs->b∉ex -> ∃sl,h'.get? b=some {o with slots:=sl}
 free:∀b o,h.get? b=some o->H b=none->b∉ex->H' b=none
 there:∀b o,h.get? b=some o->b∉ex -> ∃o',h'.get? b=some o'
 tups:∀b xs,H b=some (.tup xs)->H' b=some (.tup xs)
 frzs:∀b o u,H b=some (.U4 o u)->H' b=some (.U4 o u)
 tbls:∀b ps,H b=some (.Ug ps) -> ∃more,H' b=some (.Ug (ps++more))
section
variable{fs fs' ex ex':List Addr}{H H1 H2:Hp}{h1 h2:Heap}{x e:Addr}{o:HO}
theorem Un.any(u:Un fs ex H H1 h h1){b:Addr}{c:Obj}(q:h.get? b=some c)(n:H b=none)(d:b∉ex):∃g,h1.get? b=some {c with slots:=g}:=by
 by_cases f:b∈fs
 ·exact u.slot b c q n f d
 ·exact(c.slots,u.keep b c q n f d)
theorem Un.trans(a:Un fs ex H H1 h h1)(b:Un fs ex H1 H2 h1 h2):Un fs ex H H2 h h2 where
 keep:=λc d q n j f=>b.keep c d (a.keep c d q n j f) (a.free c d q n f) j f
 slot:=λc d q n j f=>by
  obtain⟨t,g⟩:=a.slot c d q n j f;obtain⟨m,l⟩:=b.slot c _ g (a.free c d q n f) j f;exact(m,l)
 free:=λc d q n f=>by
  obtain⟨k,g⟩:=a.there c d q f;exact b.free c k g (a.free c d q n f) f
 there:=λc d q f=>by
  obtain⟨k,g⟩:=a.there c d q f;exact b.there c k g f
 tups:=λc i q=>b.tups c i (a.tups c i q)
 frzs:=λc d i q=>b.frzs c d i (a.frzs c d i q)
 tbls:=λc p q=>by
  obtain⟨s,g⟩:=a.tbls c p q;obtain⟨r,l⟩:=b.tbls c _ g;exact(s++r,by rw[l,aip])
theorem Un.kept(k:∀b u,h.get? b=some u->h'.get? b=some u):Un fs ex H H h h':=
 (λb c q _ _ _=>k b c q,λb c q _ _ _=>(c.slots,k b c q),λ_ _ _ n _=>n,λb c q _=>(c,k b c q),λ_ _ q=>q,λ_ _ _ q=>q,λ_ d q=>(#[],by rw[q];simp))
theorem Un.refl:Un fs ex H H h h:=Un.kept λ_ _ q=>q
theorem Un.laid(k:∀b u,h.get? b=some u->h'.get? b=some u)(f:h.objs.size<=a)(c:H a=none):Un fs ex H (upd H a o) h h' where
 keep:=λb u q _ _ _=>k b u q
 slot:=λb u q _ _ _=>(u.slots,k b u q)
 free:=λb u q n _=>by rw[aG (aan (aak (Heap.lt_size q) f))];exact n
 there:=λb u q _=>(u,k b u q)
 tups:=λb d q=>by rw[aG (aD q c)];exact q
 frzs:=λb u d q=>by rw[aG (aD q c)];exact q
 tbls:=λb g q=>(#[],by rw[aG (aD q c),q];simp)
theorem Un.write(d:Xo (H x))(p:e=x\/H e=some (.own x))(k:∀b u,b≠e->h.get? b=some u->h'.get? b=some u)(g:∃u,h'.get? e=some u):Un fs ex H (upd H x o) h h':=by
 have i:∀b,H b=none->b≠x:=λb n z=>by subst z;rw[n]at d;exact d
 have j:∀b,H b=none->b≠e:=λb n z=>by
  subst z;rcases p with r|r
  ·exact i b n r
  ·rw[n]at r;cases r
 have f:∀b u,H b=some u -> ¬Xo (some u)->b≠x:=λb u q m z=>by subst z;rw[q]at d;exact m d
 refine(λb u q n _ _=>k b u (j b n) q,λb u q n _ _=>(u.slots,k b u (j b n) q),λb u q n _=>by rw[aG (i b n)];exact n,λb u q _=>?_,
  λb l q=>by rw[aG (f b _ q λz=>z)];exact q,λb u l q=>by rw[aG (f b _ q λz=>z)];exact q,λb s q=>(#[],by rw[aG (f b _ q λz=>z),q];simp))
 by_cases c:b=e
 ·subst c;exact g
 ·exact(u,k b u c q)
end
def VJ(h:Heap)(H:Hp):List Addr:=(agq h.objs.size).filter λa=>(H a).isSome
def vD(h:Heap)(H:Hp):Heap:=PySem.W.hideAll h (VJ h H)
theorem HD(h:Heap)(H:Hp):(vD h H).objs.size=h.objs.size:=PySem.W.hideAll_size _ _
theorem Ka{H:Hp}{b:Addr}{o:Obj}(e:h'.get? b=some o)(n:H b=none):(vD h' H).get? b=some o:=
 PySem.W.hideAll_get _ e λa=>by
  have q:(H b).isSome=true:=(ahU.mp a).2;rw[n]at q;simp at q
theorem Nh{H:Hp}{b:Addr}{o:Obj}(e:(vD h' H).get? b=some o):h'.get? b=some o/\H b=none:=by
 have a:h'.get? b=some o:=PySem.W.of_hideAll (VJ h' H) e;exists a;cases q:H b with
 |none=>rfl
 |some x=>
  have c:b∈VJ h' H:=ahU.mpr (ahw.mpr (Heap.lt_size a),by simp[q]);have z:(vD h' H).get? b=none:=PySem.W.hideAll_none (VJ h' H) c;rw[z]at e;cases e
def Oz(g h:Heap)(L:Addr):List (Addr×Obj):=(agq h.objs.size).filterMap λa=>if a=L\/(g.get? a).isSome=true then none else (h.get? a).map λo=>(pq a o)
def rest(g h:Heap)(L d:Addr):List (Addr×Obj):=(Oz g h L).filter λp=>decide (p.1≠d)
structure Mod(K:PySem.W.Frag)(mg:Str->Option Value)(base:Heap):Prop where
 Xp:K.In base
 glob:base.Ns mainGlobals mg
 blt:∃mb,base.Ns builtinsNs mb /\ ∀x:Str,x ≠ "__name__" -> mb x=bootBuiltins x
 nolimit:base.NoLimit
structure Cx where
 prog:Program
 w:World
 K:PySem.W.Frag
 mg:Str->Option Value
 base:Heap
 A:Around
 N:List Str
 s₀:Shared
 H₀:Hp
 env:Env
 outer:List Env
 stack:List Env
 ex:List Addr
 fn:Str->Bool
 calm:Bool
 pn:List (Addr×Obj)
 xe:Value->Shared->Prop
def frs(l:List Env):List Addr:=l.filterMap (·.frame)
abbrev Cx.fs(X:Cx):List Addr:=frs X.outer
def Xq(a:Scope)(x:Str):Prop:=a.names.lookup x=some .local\/a.names.lookup x=some .cell\/a.names.lookup x=some .free
def Loc(a:Scope)(x:Str):Prop:=a.names.lookup x=some .local\/a.names.lookup x=some .cell
def Look(a:Env)(h:Heap)(m:Str->Option Value)(x:Str)(u:Value):Prop:=
 (a.kindOf x=some .local/\m x=some u)\/((a.kindOf x=some .cell\/a.kindOf x=some .free) /\ ∃c,a.cells.lookup x=some c/\h.IsCell c (some u))
structure Cx.Ok(X:Cx):Prop where
 mod:Mod X.K X.mg X.base
 kind:X.env.scope.kind=.function
 glob:X.env.globals=mainGlobals
 blt:X.env.builtins=builtinsNs
 above:X.s₀.heap.objs.size<=X.env.locals
 inj:∀x y c,X.env.cells.lookup x=some c->X.env.cells.lookup y=some c->x=y
 has:∀x,(X.env.kindOf x=some .cell\/X.env.kindOf x=some .free) -> ∃c,X.env.cells.lookup x=some c
 cab:∀x c,X.fn x=true->X.env.cells.lookup x=some c->X.s₀.heap.objs.size<=c
 hd:X.calm=true->X.A.handled=none
 frames:X.A.frames=some X.stack
 V5:X.stack=X.outer\/(X.stack=X.env::X.outer/\X.env.frame=some X.env.locals)
 Xr:∀b∈X.ex,b≠X.env.locals /\ ∀x c,X.env.cells.lookup x=some c->c≠b
 bs:∀b o,X.base.get? b=some o->X.s₀.heap.get? b=some o/\X.H₀ b=none
 Vj:X.base.objs.size<=X.s₀.heap.objs.size
 noex:∀b o,X.base.get? b=some o->b∉X.ex
 exfs:∀b∈X.ex,b∉X.fs
 funs:X.s₀.heap.FunFrames X.base X.outer
 Vt:∀b∈X.fs,X.H₀ b=none
structure Inv(X:Cx)(π:List (Addr×Obj))(σ:List (Option V))(H:Hp)(s:Shared):Prop where
 ok:X.Ok
 os:s.os=X.s₀.os
 bare:AllBare s.gens
 base:Un X.fs X.ex X.H₀ H X.s₀.heap s.heap
 loc:∃m,s.heap.Ns X.env.locals m /\ ∀(i:Nat) (x:Str) (v:V),X.N[i]?=some x->σ[i]?=some (some v)->Xq X.env.scope x -> ∃u,RelV v u/\Look X.env s.heap m x u
 cell:∀x c,X.env.cells.lookup x=some c -> ∃v,s.heap.IsCell c v
 free:H X.env.locals=none
 freeC:∀x c,X.env.cells.lookup x=some c->H c=none
 pin:∀p∈X.pn++π,s.heap.get? p.1=some p.2/\H p.1=none/\p.1≠X.env.locals/\p.1∉X.fs /\ ∀v,p.2.data ≠ .cell v
 hok:Uj X.prog X.w H s.heap
 len:σ.length=X.N.length
section
variable{X:Cx}{σ:List (Option V)}{H H':Hp}
theorem Cx.Ok.nofr(a:X.Ok){b:Addr}{o:Obj}(e:X.base.get? b=some o):b∉X.fs:=λc=>by
 have:=(a.funs.mem c).1;rw[e]at this;cases this
theorem Inv.bs(I:Inv X π σ H s):∀b o,X.base.get? b=some o->s.heap.get? b=some o/\H b=none:=λb o e=>
 (I.base.keep b o (I.ok.bs b o e).1 (I.ok.bs b o e).2 (I.ok.nofr e) (I.ok.noex b o e),I.base.free b o (I.ok.bs b o e).1 (I.ok.bs b o e).2 (I.ok.noex b o e))
theorem Inv.bk(I:Inv X π σ H s):∀b o,X.base.get? b=some o->s.heap.get? b=some o:=λb o e=>(I.bs b o e).1
theorem Inv.mod(I:Inv X π σ H s):Mod X.K X.mg X.base:=I.ok.mod
theorem Inv.UT(I:Inv X π σ H s):X.K.In s.heap:=I.ok.mod.Xp.keeps I.bk
theorem Inv.lt(I:Inv X π σ H s):X.env.locals<s.heap.objs.size:=let ⟨_,hn,_⟩:=I.loc;hn.lt
theorem Inv.sz(I:Inv X π σ H s):X.s₀.heap.objs.size<=s.heap.objs.size:=aeY I.ok.above (agu I.lt)
theorem Inv.nofs(I:Inv X π σ H s){a:Addr}(h:s.heap.objs.size<=a):a∉X.fs:=λc=>by
 obtain⟨_,o,b,_⟩:=I.ok.funs.mem c;exact absurd (aak (Heap.lt_size b) (aeY I.sz h)) (agt _)
theorem Inv.VL(I:Inv X π σ H s):∀x c,X.env.cells.lookup x=some c->c≠X.env.locals:=λx c e z=>by
 obtain⟨v,o,d,hd⟩:=I.cell x c e;obtain⟨m,⟨f,g,h,a,b,_⟩,_⟩:=I.loc;rw[z,a]at d;cases d;rw[b]at hd;cases hd
theorem Inv.funs(I:Inv X π σ H s):s.heap.FunFrames X.base X.outer:=by
 have f:∀(l:List Env),(∀b∈frs l,b∈X.fs)->X.s₀.heap.FunFrames X.base l->s.heap.FunFrames X.base l:=by
  intro l
  induction l with
  |nil=>intro _ _;trivial
  |cons p r h=>
   intro g m;obtain⟨n,⟨L,o,a,k,j,hd⟩,i⟩:=m;have d:L∈X.fs:=g L (by unfold frs;rw[aho,a];exact aaL);obtain⟨q,e⟩:=I.base.slot L o j (I.ok.Vt L d) d λz=>I.ok.exfs L z d;exact(n,(L,_,a,k,e,hd),h (λb c=>g b (by unfold frs;rw[aho,a];exact aaC _ c)) i)
 exact f X.outer (λ_ c=>c) I.ok.funs
theorem Inv.stack(I:Inv X π σ H s):s.heap.FunFrames X.base X.stack:=by
 rcases I.ok.V5 with e|⟨e,b⟩
 ·rw[e];exact I.funs
 ·rw[e];obtain⟨m,a,_⟩:=I.loc;refine .cons (by rw[I.ok.kind];decide) b a ?_ I.funs;exact Heap.get?_none_of_le (aeY I.ok.Vj I.ok.above)
theorem Inv.stkSub(I:Inv X π σ H s):∀b∈frs X.stack,b∈X.env.locals::X.fs:=λb a=>by
 rcases I.ok.V5 with e|⟨e,c⟩
 ·rw[e]at a;exact aaC _ a
 ·rw[e]at a;unfold frs at a;rw[aho,c]at a;exact a
theorem Inv.stkFree(I:Inv X π σ H s):∀b∈frs X.stack,H b=none:=λb a=>by
 rcases aas.mp (I.stkSub b a)with e|a
 ·rw[e];exact I.free
 ·obtain⟨_,o,c,_⟩:=I.ok.funs.mem a;exact I.base.free b o c (I.ok.Vt b a) λz=>I.ok.exfs b z a
theorem Inv.step{g':Array GenState}{t':Nat}{d':Drawn}{ch:List Addr}(I:Inv X π σ H s)
  (g:∀b∈ch,(b∈X.ex\/X.s₀.heap.objs.size<=b)/\b≠X.env.locals/\(∀x c,X.env.cells.lookup x=some c->c≠b) /\ ∀p∈X.pn++π,p.1≠b)
  (h:∀b o,b≠X.env.locals->b∉X.fs->b∉ch->s.heap.get? b=some o->H b=none->h'.get? b=some o)
  (y:∀b o,b≠X.env.locals->b∈X.fs->b∉ch->s.heap.get? b=some o->H b=none -> ∃O,h'.get? b=some {o with slots:=O})(f:∀b o,b∉ch->s.heap.get? b=some o->H b=none->H' b=none)
  (B:∀b o,b∉ch->s.heap.get? b=some o -> ∃D,h'.get? b=some D)
  (J:∀b xs,H b=some (.tup xs)->H' b=some (.tup xs))(M:∀b o u,H b=some (.U4 o u)->H' b=some (.U4 o u))(K:∀b ps,H b=some (.Ug ps) -> ∃L,H' b=some (.Ug (ps++L)))
  (V:∀m,s.heap.Ns X.env.locals m->h'.Ns X.env.locals m)(Q:Uj X.prog X.w H' h')(hg:AllBare g'):
  Inv X π σ H' {s with heap:=h',gens:=g',drawn:=d',toks:=t'}:=by
 have G:∀b o,X.s₀.heap.get? b=some o->b≠X.env.locals:=λb o e=>aan (aak (Heap.lt_size e) I.ok.above);have N:∀b o,X.s₀.heap.get? b=some o->b∉X.ex->b∉ch:=λb o e a A=>by
  rcases(g b A).1 with z|z
  ·exact a z
  ·exact absurd (aak (Heap.lt_size e) z) (agt _)
 have j:∀x c,X.env.cells.lookup x=some c -> ∀v,s.heap.IsCell c v->h'.IsCell c v:=λx c e v ⟨o,C,hd⟩=>by
  have F:c∉ch:=λz=>(g c z).2.2.1 x c e rfl;by_cases U:c∈X.fs
  ·obtain⟨O,q⟩:=y c o (I.VL x c e) U F C (I.freeC x c e);exact(_,q,hd)
  ·exact(o,h c o (I.VL x c e) U F C (I.freeC x c e),hd)
 refine(I.ok,I.os,hg,(λb o e n A a=>?_,λb o e n A a=>?_,λb o e n a=>?_,λb o e a=>?_,λb xs e=>J b xs (I.base.tups b xs e),λb o xs e=>M b o xs (I.base.frzs b o xs e),λb ps e=>?_),8,λx c e=>?_,8,λx c e=>?_,λp T=>?_,Q,I.len)
 ·exact h b o (G b o e) A (N b o e a) (I.base.keep b o e n A a) (I.base.free b o e n a)
 ·obtain⟨O,t⟩:=I.base.slot b o e n A a;obtain⟨P,E⟩:=y b _ (G b o e) A (N b o e a) t (I.base.free b o e n a);exact(P,E)
 ·obtain⟨D,t⟩:=I.base.there b o e a;exact f b D (N b o e a) t (I.base.free b o e n a)
 ·obtain⟨D,t⟩:=I.base.there b o e a;exact B b D (N b o e a) t
 ·obtain⟨Y,t⟩:=I.base.tbls b ps e;obtain⟨W,E⟩:=K b _ t;exact(Y++W,by rw[E,aip])
 ·obtain⟨m,Z,hl⟩:=I.loc;refine(m,V m Z,λi x v t E e3=>?_);obtain⟨u,r,l⟩:=hl i x v t E e3;exists u,r;rcases l with l|⟨k,c,e,z⟩
  ·exact .inl l
  ·exact .inr (k,c,e,j x c e _ z)
 ·obtain⟨v,z⟩:=I.cell x c e;exact(v,j x c e v z)
 ·obtain⟨m,⟨o,_,_,C,_⟩,_⟩:=I.loc;exact f _ o (λz=>(g _ z).2.1 rfl) C I.free
 ·obtain⟨v,o,C,hd⟩:=I.cell x c e;exact f c o (λz=>(g c z).2.2.1 x c e rfl) C (I.freeC x c e)
 ·obtain⟨e,n,S,R,d⟩:=I.pin p T;have F:p.1∉ch:=λz=>(g p.1 z).2.2.2 p T rfl;exact(h p.1 p.2 S R F e n,f p.1 p.2 F e n,S,R,d)
theorem Inv.un{t':Nat}(I:Inv X π σ H s)(u:Un X.fs [] H H' s.heap h')(d:Uj X.prog X.w H' h'):Inv X π σ H' {s with heap:=h',toks:=t'}:=by
 obtain⟨m,⟨o,t,v,h,r⟩,_⟩:=id I.loc;obtain⟨l,k⟩:=u.any h I.free (by simp);exact I.step (g':=s.gens) (d':=s.drawn) (ch:=[]) (λ_ z=>nomatch z) (λb o _ c _ e n=>u.keep b o e n c (by simp)) (λb o _ c _ e n=>u.slot b o e n c (by simp)) (λb o _ e n=>u.free b o e n (by simp)) (λb o _ e=>u.there b o e (by simp)) u.tups u.frzs u.tbls (λq j=>by
  obtain⟨p,f,g,a,i⟩:=j;rw[h]at a;cases a;exact(_,f,g,k,i)) d I.bare
theorem Inv.call{g':Array GenState}{t':Nat}{d':Drawn}{ch:List Addr}(I:Inv X π σ H s)(u:Un (frs X.stack) ch H H' s.heap h')(h:Uj X.prog X.w H' h')(t:AllBare g')
  (f:∀b∈ch,(b∈X.ex\/X.s₀.heap.objs.size<=b)/\b≠X.env.locals/\(∀x c,X.env.cells.lookup x=some c->c≠b) /\ ∀p∈X.pn++π,p.1≠b):
  Inv X π σ H' {s with heap:=h',gens:=g',drawn:=d',toks:=t'}:=by
 obtain⟨m,⟨o,C,D,k,r⟩,_⟩:=id I.loc;obtain⟨y,g⟩:=u.any k I.free λz=>(f _ z).2.1 rfl;exact I.step (ch:=ch) f (λb o g v a e n=>u.keep b o e n (λz=>(aas.mp (I.stkSub b z)).elim g v) a) (λb o _ _ a e n=>u.any e n a) (λb o a e n=>u.free b o e n a) (λb o a e=>u.there b o e a) u.tups u.frzs u.tbls (λB q=>by
  obtain⟨A,i,j,d,l⟩:=q;rw[k]at d;cases d;exact(_,i,j,g,l)) h t
theorem Inv.turned{t':Nat}(I:Inv X π σ H s)(k:∀b o,b≠a->s.heap.get? b=some o->h'.get? b=some o)(i:H a=none)(g:a≠X.env.locals)
  (y:a∈X.ex\/X.s₀.heap.objs.size<=a)(w:∀x c,X.env.cells.lookup x=some c->c≠a)(t:∀p∈X.pn++π,p.1≠a):Inv X π σ H {s with heap:=h',toks:=t'}:=by
 have f:∀b u,H b=some u->b≠a:=λb u e z=>by rw[z,i]at e;cases e
 refine I.step (g':=s.gens) (d':=s.drawn) (ch:=[a]) (λb l=>?_) (λb o _ _ d e _=>k b o (λz=>d (by simp[z])) e) (λb o _ _ d e _=>(o.slots,k b o (λz=>d (by simp[z])) e)) (λ_ _ _ _ n=>n)
  (λb o d e=>(o,k b o (λz=>d (by simp[z])) e)) (λ_ _ e=>e) (λ_ _ _ e=>e) (λb C e=>(#[],by rw[e];simp)) (λm j=>?_) (λb u e=>?_) I.bare
 ·have e:b=a:=by simpa using l
  subst e;exact(y,g,w,t)
 ·obtain⟨o,A,B,h,r⟩:=j;exact(o,A,B,k _ o (agG g) h,r)
 ·refine(I.hok b u e).stay (λc v d q=>k c v ?_ q) (λ_ q=>q) λ_ _ q=>q;rcases d with z|z
  ·rw[z];exact f b u e
  ·exact f c _ z
theorem Inv.tok(I:Inv X π σ H s)(t:Nat):Inv X π σ H {s with toks:=t}:=I.un (h':=s.heap) (t':=t) Un.refl I.hok
theorem Inv.kept{t':Nat}(I:Inv X π σ H s)(k:∀b u,s.heap.get? b=some u->h'.get? b=some u):Inv X π σ H {s with heap:=h',toks:=t'}:=I.un (Un.kept k) (I.hok.kept k)
theorem Inv.laid{a:Addr}{o:HO}{t':Nat}(I:Inv X π σ H s)(k:∀b u,s.heap.get? b=some u->h'.get? b=some u)(c:s.heap.objs.size<=a)(d:bH X.prog X.w (upd H a o) h' a o):
  Inv X π σ (upd H a o) {s with heap:=h',toks:=t'}:=I.un (Un.laid k c (I.hok.fresh c)) (I.hok.laid k c d)
theorem Inv.write{x e:Addr}{o:HO}{t':Nat}(I:Inv X π σ H s)(d:Xo (H x))(f:e=x\/H e=some (.own x))(k:∀b u,b≠e->s.heap.get? b=some u->h'.get? b=some u)(a:∃u,h'.get? e=some u)
  (c:bH X.prog X.w (upd H x o) h' x o):Inv X π σ (upd H x o) {s with heap:=h',toks:=t'}:=I.un (Un.write d f k a) (I.hok.write d f k a c)
theorem Inv.pins_of{a:List (Addr×Obj)}(I:Inv X π σ H s)(h:∀p∈a,s.heap.get? p.1=some p.2/\H p.1=none/\p.1≠X.env.locals/\p.1∉X.fs /\ ∀v,p.2.data ≠ .cell v):Inv X a σ H s:=
 (I.ok,I.os,I.bare,I.base,I.loc,I.cell,I.free,I.freeC,λp b=>(aaW.mp b).elim (λz=>I.pin p (agC _ z)) (h p),I.hok,I.len)
theorem vH{N:List Str}(c:N.Nodup){i j:Nat}{x:Str}(a:N[i]?=some x)(b:N[j]?=some x):i=j:=by
 obtain⟨g,e⟩:=aab.mp a;obtain⟨f,d⟩:=aab.mp b;exact(List.getElem_inj c).mp (e.trans d.symm)
theorem mY{M:Model}{A:Around}{E:Value->Shared->Prop}{i:Nat}{x:Str}{v:V}{u:Value}{Q:Unit->Shared->Prop}(I:Inv X π σ H s)(hN:X.N.Nodup)(L:X.N[i]?=some x)(B:Loc X.env.scope x)(r:RelV v u)
  (h:∀s',Inv X π (σ.set i (some v)) H s'->(∃a,Heap.SameBut a s.heap s'.heap/\(a=X.env.locals\/X.env.cells.lookup x=some a))->Q () s')(hf:X.fn x=true\/X.env.scope.names.lookup x=some .local:=by first|exact .inl rfl|exact .inr rfl|assumption):wpAny M A (storeName X.env x u) Q E s:=by
 obtain⟨m,hn,hl⟩:=id I.loc;have T:(X.env.scope.kind == .class || (X.env.scope.kind == .module&&X.env.locals != X.env.globals))=false:=by rw[I.ok.kind];rfl
 have W8:i<σ.length:=by rw[I.len];exact(aab.mp L).1
 have VL:=I.VL;have l:∀{a:Addr}{h':Heap},(∃o,s.heap.get? a=some o/\H a=none)->Heap.SameBut a s.heap h'->Uj X.prog X.w H h':=λ{a h'} ha f b ob e=>by
  obtain⟨_,_,C⟩:=ha;refine(I.hok b ob e).stay (λc U t q=>(f.2 c ?_).trans q) (λ_ q=>q) λ_ _ q=>q;rintro rfl;rcases t with rfl|t
  ·rw[C]at e;cases e
  ·rw[C]at t;cases t
 rcases B with F|F
 ·refine wpAny_storeName_local F hn (λh' a1 f=>?_) T;obtain⟨oL,_,_,a0,_⟩:=id hn;refine h _ (I.ok,I.os,I.bare,(λb o e n J B=>?_,λb o e n J B=>?_,I.base.free,λb o e B=>?_,I.base.tups,I.base.frzs,I.base.tbls),(_,a1,λj y Z g D e3=>?_),λy c e=>?_,I.free,I.freeC,λp hp=>?_,l (oL,a0,I.free) f,by simpa using I.len) (_,f,.inl rfl)
  ·exact(f.2 b (aan (aak (Heap.lt_size e) I.ok.above))).trans (I.base.keep b o e n J B)
  ·obtain⟨sl,g⟩:=I.base.slot b o e n J B;exact(sl,(f.2 b (aan (aak (Heap.lt_size e) I.ok.above))).trans g)
  ·obtain⟨o',g⟩:=I.base.there b o e B;exact(o',(f.2 b (aan (aak (Heap.lt_size e) I.ok.above))).trans g)
  ·by_cases G:j=i
   ·subst G;rw[L]at g;cases g;rw[ag5 W8]at D;cases D;exact(u,r,.inl (F,by simp))
   ·rw[ahf (agG G)]at D;obtain⟨u',r',q⟩:=hl j y Z g D e3;exists u',r';rcases q with ⟨k,e⟩|⟨k,c,e,z⟩
    ·refine .inl (k,8);have:y≠x:=λe=>G (vH hN g (e ▸ L));simp[this,e]
    ·exact .inr (k,c,e,z.sameBut f (VL y c e))
  ·obtain⟨U,z⟩:=I.cell y c e;exact(U,z.sameBut f (VL y c e))
  ·obtain⟨e,n,W,nf,d⟩:=I.pin p hp;exact((f.2 p.1 W).trans e,n,W,nf,d)
 ·have K:X.fn x=true:=by
   rcases hf with z|z
   ·exact z
   ·rw[z]at F;cases F
  obtain⟨c,t⟩:=I.ok.has x (.inl F);obtain⟨U,z⟩:=I.cell x c t;refine wpAny_storeName_cell I.ok.kind F t z (λh' R f=>?_);obtain⟨oc,O,S⟩:=id z;refine h {s with heap:=h'} (I.ok,I.os,I.bare,(λb o e n J B=>?_,λb o e n J B=>?_,I.base.free,λb o e B=>?_,I.base.tups,I.base.frzs,I.base.tbls),(m,hn.sameBut f (agG (VL x c t)),λj y Z g D e3=>?_),λy Y e=>?_,I.free,I.freeC,λp hp=>?_,l (oc,O,I.freeC x c t) f,by simpa using I.len) (c,f,.inr t)
  ·exact(f.2 b (aan (aak (Heap.lt_size e) (I.ok.cab x c K t)))).trans (I.base.keep b o e n J B)
  ·obtain⟨sl,g⟩:=I.base.slot b o e n J B;exact(sl,(f.2 b (aan (aak (Heap.lt_size e) (I.ok.cab x c K t)))).trans g)
  ·obtain⟨o',g⟩:=I.base.there b o e B;exact(o',(f.2 b (aan (aak (Heap.lt_size e) (I.ok.cab x c K t)))).trans g)
  ·by_cases G:j=i
   ·subst G;rw[L]at g;cases g;rw[ag5 W8]at D;cases D;exact(u,r,.inr (.inl F,c,t,R))
   ·rw[ahf (agG G)]at D;obtain⟨u',r',q⟩:=hl j y Z g D e3;exists u',r';rcases q with q|⟨k,Y,e,z'⟩
    ·exact .inl q
    ·refine .inr (k,Y,e,z'.sameBut f ?_);rintro rfl;exact G (vH hN g (I.ok.inj _ _ _ e t ▸ L))
  ·by_cases P:Y=c
   ·subst P;exact(_,R)
   ·obtain⟨w2,z2⟩:=I.cell y Y e;exact(w2,z2.sameBut f P)
  ·obtain⟨e,n,W,nf,d⟩:=I.pin p hp;refine((f.2 p.1 ?_).trans e,n,W,nf,d);intro q;rw[q,O]at e;have q':oc=p.2:=aax e;exact d U (by rw[<-q'];exact S)
theorem pF{M:Model}{A:Around}{E:Value->Shared->Prop}{i:Nat}{x:Str}{v:V}{u:Value}{Q:Unit->Shared->Prop}(I:Inv X π σ H s)(e:X.N.Nodup)(c:X.N[i]?=some x)(b:Loc X.env.scope x)(r:RelV v u)
  (h:∀a,Inv X π (σ.set i (some v)) H a->Q () a)(d:X.fn x=true\/X.env.scope.names.lookup x=some .local:=by first|exact .inl rfl|exact .inr rfl|assumption):wpAny M A (storeName X.env x u) Q E s:=
 mY I e c b r (λa f _=>h a f) d
theorem Inv.call'{a:Shared}{ch:List Addr}(I:Inv X π σ H s)(i:a.os=s.os)(u:Un (frs X.stack) ch H H' s.heap a.heap)(d:Uj X.prog X.w H' a.heap)(j:AllBare a.gens)
  (f:∀b∈ch,(b∈X.ex\/X.s₀.heap.objs.size<=b)/\b≠X.env.locals/\(∀x c,X.env.cells.lookup x=some c->c≠b) /\ ∀p∈X.pn++π,p.1≠b):Inv X π σ H' a:=by
 obtain⟨h',k,l,g,h⟩:=a;have e:h=s.os:=i;subst e;exact I.call (g':=k) (t':=g) (d':=l) u d j f
end
abbrev XK:=Value->Option Addr->Hp->Prop
abbrev St:=List (Option V)
abbrev VK:=V->Hp->Prop
abbrev TE:=St->Hp->VK->Prop
abbrev TT:=St->Hp->(Bool->Hp->Prop)->Prop
abbrev TA:=St->Hp->(List V->Hp->Prop)->Prop
structure Ends where
 nx:St->Hp->Prop
 rt:VK
 bk:St->Hp->Prop:=λ_ _=>False
 ct:St->Hp->Prop:=λ_ _=>False
abbrev TS:=Ends->St->Hp->Prop
inductive EP(X:Cx)(π:List (Addr×Obj))(σ:St)(Q:VK)(u:Value)(s':Shared):Prop
 | mk (v H':_) (_:Inv X π σ H' s') (_:RelV v u) (_:Q v H')
def TP(X:Cx)(c:List (Addr×Obj))(σ:St)(Q:Bool->Hp->Prop)(b:Bool)(d:Shared):Prop:=∃a,Inv X c σ a d/\Q b a
inductive AP(X:Cx)(π:List (Addr×Obj))(σ:St)(Q:List V->Hp->Prop)(us:List Value)(s':Shared):Prop
 | mk (vs H':_) (_:Inv X π σ H' s') (_:Vals vs us) (_:Q vs H')
def SP(X:Cx)(c:List (Addr×Obj))(D:Ends)(f:Flow)(d:Shared):Prop:=
 match f with
 |.next=>∃a b,Inv X c a b d/\D.nx a b
 |.brk=>∃a b,Inv X c a b d/\D.bk a b
 |.cont=>∃a b,Inv X c a b d/\D.ct a b
 |.ret u=>∃v a b,Inv X c a b d/\RelV v u/\D.rt v b
def PE(X:Cx)(e:Expr)(t:TE):Prop:=
 ∀(b:List (Addr×Obj)) (s:Shared) (a:St) (H:Hp) (Q:VK),Inv X b a H s->t a H Q->wpAny (model X.prog X.w) X.A (eval e X.env) (EP X b a Q) X.xe s
def PT(X:Cx)(e:Expr)(t:TT):Prop:=
 ∀(b:List (Addr×Obj)) (s:Shared) (a:St) (H:Hp) (Q:Bool->Hp->Prop),Inv X b a H s->t a H Q->wpAny (model X.prog X.w) X.A (isTrue e X.env (eval e X.env)) (TP X b a Q) X.xe s
def PW(X:Cx)(e:Expr)(t:TT):Prop:=
 ∀(a:Sem Value) (c:List (Addr×Obj)) (s:Shared) (b:St) (H:Hp) (Q:Bool->Hp->Prop),Inv X c b H s->t b H Q->wpAny (model X.prog X.w) X.A (isTrue e X.env a) (TP X c b Q) X.xe s
theorem PW.pt{X:Cx}{e:Expr}{t:TT}(h:PW X e t):PT X e t:=h _
def PA(X:Cx)(c:List Expr)(t:TA):Prop:=
 ∀(pos:Pos) (b:List (Addr×Obj)) (s:Shared) (a:St) (H:Hp) (Q:List V->Hp->Prop),Inv X b a H s->t a H Q->wpAny (model X.prog X.w) X.A (spliced (backTo pos (starEach c X.env))) (AP X b a Q) X.xe s
def PS(X:Cx)(st:Stmt)(t:TS):Prop:=
 ∀(b:List (Addr×Obj)) (s:Shared) (a:St) (H:Hp) (D:Ends),Inv X b a H s->t D a H->wpAny (model X.prog X.w) X.A (exec st X.env) (SP X b D) X.xe s
def U5(X:Cx)(st:List Stmt)(t:TS):Prop:=
 ∀(b:List (Addr×Obj)) (s:Shared) (a:St) (H:Hp) (D:Ends),Inv X b a H s->t D a H->wpAny (model X.prog X.w) X.A (execs st X.env) (SP X b D) X.xe s
theorem T7{t:Sem O}{Q b:O->Shared->Prop}{M:Model}{A:Around}{E:Value->Shared->Prop}{s:Shared}(h:wpAny M A t Q E s)(c:∀a s,Q a s->b a s):wpAny M A t b E s:=wpAny_mono h c λ_ _ x=>x
section
variable{X:Cx}
theorem bin{a b:Expr}{k j:TE}(t:PE X a k)(r:PE X b j){s:Shared}{σ:St}{H:Hp}{R:V->V->Hp->Prop}(I:Inv X π σ H s)(h:k σ H λx i=>j σ i λy c=>R x y c)
  {Q:O->Shared->Prop}{f:Value->Value->Sem O}
  (q:∀v u g x y c,Inv X π σ c g->RelV x v->RelV y u->R x y c->wpAny (model X.prog X.w) X.A (f v u) Q X.xe g):
  wpAny (model X.prog X.w) X.A (eval a X.env) (λv e=>wpAny (model X.prog X.w) X.A (eval b X.env) (λu d=>wpAny (model X.prog X.w) X.A (f v u) Q X.xe d) X.xe e) X.xe s:=by
 refine T7 (t π s σ H _ I h) λv l ⟨x,i,B,n,p⟩=>?_;refine T7 (r π l σ i _ B p) λu g ⟨y,c,z,m,o⟩=>?_;exact q v u g x y c z n m o
inductive OJ(i:Nat)(σ:St)(H:Hp)(Q:VK):Prop
 | mk (v:_) (_:σ[i]?=some (some v)) (_:Q v H)
def tC(v:V):TE:=λ_ H Q=>Q v H
theorem Gb{i:Nat}{x:Str}{pos:Pos}(t:X.N[i]?=some x)(n:Xq X.env.scope x)(hd:(x==("__debug__" : Str))=false:=by decide)(f:(x==("__classdict__" : Str))=false:=by decide):PE X (.Name x pos) (OJ i):=by
 intro k s j H Q I h;obtain⟨v,e,h⟩:=h;obtain⟨m,o,q⟩:=I.loc;obtain⟨u,r,l⟩:=q i x v t e n;have d:EP X k j Q u s:=(v,H,I,r,h);rcases l with ⟨b,p⟩|⟨b,c,g,a⟩
 ·exact wpAny_Name (wpAny_loadName_local I.ok.kind b o p d) hd
 ·rcases b with b|b
  ·exact wpAny_Name (wpAny_loadName_cell I.ok.kind b g a d) hd
  ·exact wpAny_Name (wpAny_loadName_free I.ok.kind b g a d f) hd
theorem aq{i j pos}:PE X (.Constant (.int i) j pos) (tC (.int i)):=λ_ _ _ H _ I h=>wpAny_Constant_int (.int i,H,I.tok _,(_,7),h)
theorem iz{b j pos}:PE X (.Constant (.bool b) j pos) (tC (.bl b)):=λ_ _ _ H _ I h=>Constant_bool (.bl b,H,I,7,h)
theorem jn{j pos}:PE X (.Constant .none j pos) (tC .non):=λ_ _ _ H _ I h=>Constant_none (.non,H,I,7,h)
theorem oG{x j pos}:PE X (.Constant (.str x) j pos) (tC (.str x)):=λ_ _ _ H _ I h=>Calls.Constant_str (.str x,H,I.tok _,(_,7),h)
def Gl(X:Cx)(x:Str):Prop:=X.env.kindOf x=some .globalImplicit
theorem ul{E:Value->Shared->Prop}{s:Shared}{σ:St}{H:Hp}{x:Str}{u:Value}{pos:Pos}{Q:Value->Shared->Prop}(I:Inv X π σ H s)(b:Gl X x)(a:X.mg x=some u)(h:Q u s)
  (hd:(x==("__debug__" : Str))=false:=by decide):wpAny (model X.prog X.w) X.A (eval (.Name x pos) X.env) Q E s:=
 Calls.Name_function_global I.ok.kind b (Calls.loadGlobal_global (by rw[I.ok.glob];exact I.mod.glob.keeps I.bk) a h) hd
theorem dH{E:Value->Shared->Prop}{s:Shared}{σ:St}{H:Hp}{x:Str}{u:Value}{pos:Pos}{Q:Value->Shared->Prop}(I:Inv X π σ H s)(d:Gl X x)(c:X.mg x=none)(a:bootBuiltins x=some u)(h:Q u s)
  (b:x ≠ "__name__":=by decide)(hd:(x==("__debug__" : Str))=false:=by decide):wpAny (model X.prog X.w) X.A (eval (.Name x pos) X.env) Q E s:=by
 obtain⟨g,f,e⟩:=I.mod.blt;exact Calls.Name_function_global I.ok.kind d (Calls.loadGlobal_builtin (by rw[I.ok.glob];exact I.mod.glob.keeps I.bk) c (by rw[I.ok.blt];exact f.keeps I.bk) ((e x b).trans a) h) hd
theorem bF{x:Str}{v:V}{u:Value}{pos:Pos}(b:Gl X x)(a:X.mg x=some u)(r:RelV v u)(hd:(x==("__debug__" : Str))=false:=by decide):PE X (.Name x pos) (tC v):=
 λ_ _ _ H _ I h=>ul I b a (v,H,I,r,h) hd
theorem pA{x:Str}{v:V}{u:Value}{pos:Pos}(d:Gl X x)(c:X.mg x=none)(a:bootBuiltins x=some u)(r:RelV v u)(b:x ≠ "__name__":=by decide)(hd:(x==("__debug__" : Str))=false:=by decide):PE X (.Name x pos) (tC v):=
 λ_ _ _ H _ I h=>dH I d c a (v,H,I,r,h) b hd
variable{a:Expr}{ta tb:TE}{pos:Pos}
def PC(X:Cx)(g:CmpOp)(a b:Expr)(t:TE):Prop:=
 ∀(f:List (Addr×Obj)) (s:Shared) (e:St) (H:Hp) (Q:VK),Inv X f e H s->t e H Q ->
  wpAny (model X.prog X.w) X.A (eval a X.env) (λv d=>wpAny (model X.prog X.w) X.A (eval b X.env) (λu c=>wpAny (model X.prog X.w) X.A (compareOp g v u) (EP X f e Q) X.xe c) X.xe d) X.xe s
theorem LR(b:Expr){c:CmpOp}(h:c ≠ .In)(d:c ≠ .NotIn):behindInMarks c b=false:=by
 have f:(c==CmpOp.In)=false:=by cases c<;>first|rfl|exact absurd rfl h
 have e:(c==CmpOp.NotIn)=false:=by cases c<;>first|rfl|exact absurd rfl d
 cases b<;>simp[behindInMarks,f,e]
def N7(Q:VK):VK:=λx c=>Q (.bl (decide (x=.non))) c
def Tv(ta:TE):TE:=λ c H Q=>ta c H (N7 Q)
def Ld(Q:VK):VK:=λx c=>Q (.bl (!decide (x=.non))) c
def Rw(ta:TE):TE:=λ c H Q=>ta c H (Ld Q)
theorem RelV.none_iff{x:V}{v:Value}(r:RelV x v):(v==Value.none)=decide (x=.non):=by
 cases x with
 |non=>cases r;rfl
 |bl _=>cases r;rfl
 |int _=>obtain⟨t,rfl⟩:=r;rfl
 |str _=>obtain⟨t,rfl⟩:=r;rfl
 |VB _=>obtain⟨t,rfl⟩:=r;rfl
 |flt _=>obtain⟨t,rfl⟩:=r;rfl
 |ref _=>cases r;rfl
 |ty _=>cases r;rfl
theorem nF{j pos'}(g:PE X a ta):PC X .Is a (.Constant .none j pos') (Tv ta):=by
 intro d s c H Q I h;refine T7 (g d s c H _ I h) λv l ⟨x,k,i,e,f⟩=>?_;exact Constant_none (is_none_gen (.bl _,k,i,by rw[e.none_iff];rfl,f))
theorem Ox{j pos'}(g:PE X a ta):PC X .IsNot a (.Constant .none j pos') (Rw ta):=by
 intro d s c H Q I h;refine T7 (g d s c H _ I h) λv l ⟨x,k,i,e,f⟩=>?_;exact Constant_none (isnot_none_gen (.bl _,k,i,by rw[e.none_iff];rfl,f))
inductive Th(Q:Bool->Hp->Prop)(x:V)(H1:Hp):Prop
 | mk (c:_) (_:x=.bl c) (_:Q c H1)
def tB(t:TE):TT:=λ c H Q=>t c H (Th Q)
theorem jY{e:CmpOp}{t:TE}(h:PC X e a b t)(f:behindInMarks e b=false:=by first|exact LR _ ∅ ∅ | rfl):PT X (.Compare a [e] [b] pos) (tB t):=by
 intro i s g H Q I l;refine wpAny_isTrue_Compare1 (T7 (h i s g H _ I l) λv w f=>T7 f λu r m=>T7 m λc p ⟨x,o,n,j,k⟩=>?_) f;obtain⟨d,rfl,q⟩:=k;cases j;exact wpAny_truthy_bool (o,n,q)
theorem iJ{e:Expr}{t:TE}(h:PE X e t)(l:∀c,isTrue e X.env c=(do let v <-c;standAt e.pos;holding [v] (truthy v)):=by intro _;rfl):PT X e (tB t):=by
 intro g s f H Q I k;refine isTrue_plain (T7 (h g s f H _ I k) λv o ⟨x,n,m,i,j⟩=>?_) (l _);obtain⟨d,rfl,q⟩:=j;cases i;exact wpAny_truthy_bool (n,m,q)
variable{tA Xv:TT}{rest:List Expr}
def Tq(t u:TT):TT:=λ d H Q=>t d H λc e=>if c=true then u d e Q else Q false e
def tOr(t u:TT):TT:=λ d H Q=>t d H λc e=>if c=true then Q true e else u d e Q
def T4(t:TT):TT:=λ d H Q=>t d H λc e=>Q (!c) e
theorem je(g:PT X a tA):PW X (.BoolOp .And [a] pos) tA:=by
 intro i f s d H Q I h;refine isTrue_and (T7 (g f s d H Q I h) λc j e=>?_);cases c with
 |true=>exact isTrue_and_nil e
 |false=>exact e
theorem jm(g:PT X a tA):PW X (.BoolOp .Or [a] pos) tA:=by
 intro i f s d H Q I h;refine isTrue_or (T7 (g f s d H Q I h) λc j e=>?_);cases c with
 |false=>exact isTrue_or_nil e
 |true=>exact e
theorem jC(m:PT X a tA)(l:PW X (.BoolOp .And (b::rest) pos) Xv):PW X (.BoolOp .And (a::b::rest) pos) (Tq tA Xv):=by
 intro j e s d H Q I h;refine isTrue_and (T7 (m e s d H _ I h) λc k ⟨i,g,f⟩=>?_);cases c with
 |true=>exact l j e k d i Q g f
 |false=>exact(i,g,f)
theorem mz(m:PT X a tA)(l:PW X (.BoolOp .Or (b::rest) pos) Xv):PW X (.BoolOp .Or (a::b::rest) pos) (tOr tA Xv):=by
 intro j e s d H Q I h;refine isTrue_or (T7 (m e s d H _ I h) λc k ⟨i,g,f⟩=>?_);cases c with
 |true=>exact(i,g,f)
 |false=>exact l j e k d i Q g f
theorem fX(f:PT X a tA):PT X (.UnaryOp .Not a pos) (T4 tA):=by
 intro e s d H Q I h;exact isTrue_not (f e s d H (λc g=>Q (!c) g) I h)
inductive Ov(tb:TE)(σ:St)(Q:VK)(x:V)(H1:Hp):Prop
 | mk (c:_) (_:x=.bl c) (_:if c=true then tb σ H1 Q else Q (.bl false) H1)
def RP(ta tb:TE):TE:=λ c H Q=>ta c H (Ov tb c Q)
inductive Ol(Q:VK)(x:V)(H1:Hp):Prop
 | mk (c:_) (_:x=.bl c) (_:Q (.bl (!c)) H1)
def RL(ta:TE):TE:=λ c H Q=>ta c H (Ol Q)
theorem Lh{op}{t:TE}(h:PE X a t):PE X (.BoolOp op [a] pos) t:=λ d s c H Q I e=>BoolOp_one (h d s c H Q I e)
theorem J0(m:PE X a ta)(l:PE X (.BoolOp .And (b::rest) pos) tb):PE X (.BoolOp .And (a::b::rest) pos) (RP ta tb):=by
 intro f s e H Q I h;refine BoolOp_and (T7 (m f s e H _ I h) λv j ⟨x,i,g,k,d⟩=>?_);obtain⟨c,rfl,d⟩:=d;cases k;refine wpAny_truthy_bool ?_;cases c with
 |true=>exact l f j e i Q g d
 |false=>exact(.bl false,i,g,7,d)
theorem PQ(i:PE X a ta):PE X (.UnaryOp .Not a pos) (RL ta):=by
 intro f s e H Q I h;refine UnaryOp_ (T7 (i f s e H _ I h) λv l ⟨x,k,j,g,d⟩=>?_);obtain⟨c,rfl,d⟩:=d;cases g;exact not_of (wpAny_truthy_bool (.bl (!c),k,j,7,d))
def tIf(t:TT)(ta tb:TE):TE:=λ d H Q=>t d H λc e=>if c=true then ta d e Q else tb d e Q
theorem La{c:Expr}(l:PT X c tA)(n:PE X a ta)(m:PE X b tb):PE X (.IfExp c a b pos) (tIf tA ta tb):=by
 intro f s e H Q I h;refine wpAny_IfExp (T7 (l f s e H _ I h) λd g ⟨k,j,i⟩=>?_);cases d with
 |true=>exact n f g e k Q j i
 |false=>exact m f g e k Q j i
end
def T6(K:PySem.W.Frag)(H:Hp)(a:Addr)(xs:List V):Prop:=
 Rd H a (.lst xs) \/
  ∃(o:Obj) (b:Array Value) (n:Nat),K.lookup a=some o/\o.cls=.type "list" /\ o.dict=none/\o.data=.seq b n/\b.size<=sizeLine/\Vals xs b.toList
def T8(K:PySem.W.Frag)(H:Hp)(a:Addr)(xs:List V):Prop:=
 Rd H a (.tup xs) \/
  ∃(o:Obj) (b:Array Value) (n:Nat),K.lookup a=some o/\o.cls=.type "tuple" /\ o.data=.seq b n/\b.size<=sizeLine/\Vals xs b.toList
def Tr:Value->Option V
 |.none=>some .non
 |.bool b=>some (.bl b)
 |.int i _=>some (.int i)
 |.str x _=>some (.str x)
 |.bytes b _=>some (.VB b)
 |.float b _=>some (.flt b)
 |.ref a=>some (.ref a)
 |.type n=>some (.ty n)
 |_=>none
theorem RelV.abs{x:V}{u:Value}(r:RelV x u):Tr u=some x:=by
 cases x with
 |non=>cases r;rfl
 |bl _=>cases r;rfl
 |int _=>obtain⟨t,rfl⟩:=r;rfl
 |str _=>obtain⟨t,rfl⟩:=r;rfl
 |VB _=>obtain⟨t,rfl⟩:=r;rfl
 |flt _=>obtain⟨t,rfl⟩:=r;rfl
 |ref _=>cases r;rfl
 |ty _=>cases r;rfl
theorem RelV.inj{x y:V}{u:Value}(r:RelV x u)(q:RelV y u):x=y:=aax (r.abs.symm.trans q.abs)
theorem Vals.inj:∀{xs ys:List V}{a:List Value},Vals xs a->Vals ys a->xs=ys
 |_,_,_,.nil,.nil=>rfl
 |_,_,_,.cons r t,.cons c b=>by rw[r.inj c,Vals.inj t b]
section
variable{X:Cx}{σ:St}{H:Hp}{xs ys:List V}
theorem T6.of(h:H a=some (.lst xs)):T6 K H a xs:=.inl (.inl h)
theorem T8.of(h:H a=some (.tup xs)):T8 K H a xs:=.inl (.inl h)
theorem Inv.list(I:Inv X π σ H s)(h:T6 X.K H a xs):∃b:List Value,Vals xs b/\PlainL s.heap a b.toArray/\xs.length<=sizeLine:=by
 rcases h with h|⟨o,b,n,d,f,hd,c,g,r⟩
 ·obtain⟨z,b,n,r,e⟩:=h.ok I.hok;exact(b,r,(_,n,e,7,7,7),z)
 ·exists b.toList,r,(o,n,I.UT a o d,f,hd,by simpa using c);have e:=r.length;simp only[aaf]at e;lia
theorem Inv.tuple(I:Inv X π σ H s)(h:T8 X.K H a xs):∃b:List Value,Vals xs b/\IsTup s.heap a b.toArray/\xs.length<=sizeLine:=by
 rcases h with h|⟨o,b,n,d,f,c,g,r⟩
 ·obtain⟨z,b,r,p⟩:=h.ok I.hok;exact(b,r,p,z)
 ·exists b.toList,r,(o,I.UT a o d,f,n,by simpa using c);have e:=r.length;simp only[aaf]at e;lia
theorem Inv.list_inj(I:Inv X π σ H s)(h:T6 X.K H a xs)(h':T6 X.K H a ys):xs=ys:=by
 obtain⟨c,r,⟨o,n,e,_,_,d⟩,_⟩:=I.list h;obtain⟨b,i,⟨k,l,f,_,_,g⟩,_⟩:=I.list h';rw[e]at f;cases f;rw[d]at g;injection g with j _
 have:c=b:=by simpa using congrArg ajy j
 subst this;exact r.inj i
theorem Inv.tuple_inj(I:Inv X π σ H s)(h:T8 X.K H a xs)(h':T8 X.K H a ys):xs=ys:=by
 obtain⟨c,r,⟨o,e,_,n,d⟩,_⟩:=I.tuple h;obtain⟨b,i,⟨k,f,_,l,g⟩,_⟩:=I.tuple h';rw[e]at f;cases f;rw[d]at g;injection g with j _
 have:c=b:=by simpa using congrArg ajy j
 subst this;exact r.inj i
end
abbrev Cx.wish(X:Cx)(E:Value->Shared->Prop):Cx:={X with xe:=E}
abbrev Cx.W9(X:Cx):Cx:=X.wish λ_ _=>False
theorem Cx.Ok.wish{X:Cx}(a:X.Ok)(E:Value->Shared->Prop):(X.wish E).Ok:=
 (a.mod,a.kind,a.glob,a.blt,a.above,a.inj,a.has,a.cab,a.hd,a.frames,a.V5,a.Xr,a.bs,a.Vj,a.noex,a.exfs,a.funs,a.Vt)
theorem Cx.Ok.unwish{X:Cx}{E:Value->Shared->Prop}(a:(X.wish E).Ok):X.Ok:=
 (a.mod,a.kind,a.glob,a.blt,a.above,a.inj,a.has,a.cab,a.hd,a.frames,a.V5,a.Xr,a.bs,a.Vj,a.noex,a.exfs,a.funs,a.Vt)
section
variable{X:Cx}{σ:St}{H:Hp}
theorem Inv.wish(I:Inv X π σ H s)(E:Value->Shared->Prop):Inv (X.wish E) π σ H s:=(I.ok.wish E,I.os,I.bare,I.base,I.loc,I.cell,I.free,I.freeC,I.pin,I.hok,I.len)
theorem Inv.unwish(I:Inv (X.wish E) π σ H s):Inv X π σ H s:=(I.ok.unwish,I.os,I.bare,I.base,I.loc,I.cell,I.free,I.freeC,I.pin,I.hok,I.len)
theorem SP.unwish{D:Ends}{f:Flow}{c:Shared}(h:SP (X.wish E) π D f c):SP X π D f c:=by
 cases f with
 |next=>obtain⟨a,b,I,q⟩:=h;exact(a,b,I.unwish,q)
 |brk=>obtain⟨a,b,I,q⟩:=h;exact(a,b,I.unwish,q)
 |cont=>obtain⟨a,b,I,q⟩:=h;exact(a,b,I.unwish,q)
 |ret u=>obtain⟨v,a,b,I,r,q⟩:=h;exact(v,a,b,I.unwish,r,q)
theorem U5.W9{st:List Stmt}{t:TS}(h:U5 X.W9 st t):U5 X st t:=λ π s σ H D I a=>
 wpAny_mono (h π s σ H D (I.wish _) a) (λ_ _ q=>q.unwish) λ_ _ z=>False.elim z
end
section
variable{X:Cx}{rest:List Stmt}{t u:TS}{te:TE}{pos:Pos}
def Kw:TS:=λD a H=>D.nx a H
def TX(t u:TS):TS:=λD a H=>t {D with nx:=u D} a H
theorem aN:U5 X [] Kw:=λ_ _ a H _ I h=>wpAny_execs_nil (a,H,I,h)
theorem aj(i:PS X st t)(g:U5 X rest u):U5 X (st::rest) (TX t u):=by
 intro b s c H D I h;refine wpAny_execs_cons (T7 (i b s c H {D with nx:=u D} I h) λf d q=>?_);cases f with
 |next=>
  obtain⟨a,k,j,q⟩:=q;exact g b d a k D j q
 |ret v=>exact q
 |brk=>exact q
 |cont=>exact q
theorem au(c:PS X st t):U5 X [st] t:=by
 intro b s a H D I h;refine wpAny_execs_cons (T7 (c b s a H D I h) λf d q=>?_);cases f with
 |next=>exact wpAny_execs_nil q
 |ret v=>exact q
 |brk=>exact q
 |cont=>exact q
theorem Inv.quiet{σ:St}{H:Hp}{s:Shared}(I:Inv X π σ H s):interactive X.env=false:=by simp[interactive,I.ok.kind]
def LC(D:Ends)(σ:St):VK:=λ_ a=>D.nx σ a
def R5(te:TE):TS:=λD a H=>te a H (LC D a)
theorem bc(f:PE X e te)(d:swapsWith e none pos.line X.env=pure false:=by rfl):PS X (.Expr e pos) (R5 te):=by
 intro b s a H D I h;exact wpAny_Expr_any (T7 (f b s a H _ I h) λv j ⟨x,i,g,k,c⟩=>(a,i,g,c)) I.quiet d
def SM(te:TE):TS:=λD a H=>te a H D.rt
theorem aF(f:PE X e te):PS X (.Return (some e) pos) (SM te):=by
 intro b s a H D I h;exact wpAny_Return_some (T7 (f b s a H _ I h) λv j ⟨x,i,g,c,d⟩=>(x,a,i,g,c,d))
def TV(c:TT)(t u:TS):TS:=λD a H=>c a H λb d=>if b=true then t D a d else u D a d
theorem bh{c:Expr}{a b:List Stmt}{i:TT}(n:PT X c i)(p:U5 X a t)(o:U5 X b u):PS X (.If c a b pos) (TV i t u):=by
 intro g s f H D I h;refine wpAny_If (T7 (n g s f H _ I h) λd j ⟨m,l,k⟩=>?_);cases d with
 |true=>exact p g j f m D l k
 |false=>exact o g j f m D l k
def QV:TS:=λ_ _ _=>False
theorem cz:PS X st QV:=λ_ _ _ _ _ _ h=>h.elim
end
abbrev TG:=V->St->Hp->(St->Hp->Prop)->Prop
abbrev Xa:=List V->St->Hp->(St->Hp->Prop)->Prop
def PG(X:Cx)(a:Expr)(t:TG):Prop:=
 ∀(d:List (Addr×Obj)) (s:Shared) (c:St) (H:Hp) (v:V) (u:Value) (Q:St->Hp->Prop),Inv X d c H s->RelV v u->t v c H Q ->
  wpAny (model X.prog X.w) X.A (assign a X.env u) (λ_ f=>∃b e,Inv X d b e f/\Q b e) X.xe s
def Yu(X:Cx)(g:List Expr)(t:Xa):Prop:=
 ∀(c:List (Addr×Obj)) (s:Shared) (b:St) (H:Hp) (d:List V) (e:List Value) (Q:St->Hp->Prop),Inv X c b H s->Vals d e->t d b H Q ->
  wpAny (model X.prog X.w) X.A (assignInOrder ((assignEach g X.env).map (·.2)) e) (λ_ h=>∃a f,Inv X c a f h/\Q a f) X.xe s
abbrev K3:=V->V->V->Hp->(Hp->Prop)->Prop
def R9(X:Cx)(t:K3):Prop:=
 ∀(b:List (Addr×Obj)) (s:Shared) (a:St) (H:Hp) (o i v:V) (c d u:Value) (Q:Hp->Prop),Inv X b a H s->RelV o c->RelV i d->RelV v u->t o i v H Q ->
  wpAny (model X.prog X.w) X.A (setItem c d u) (λ_ f=>∃e,Inv X b a e f/\Q e) X.xe s
section
variable{X:Cx}{pos:Pos}
def iY(i:Nat):TG:=λv a H Q=>Q (a.set i (some v)) H
theorem mL{i:Nat}{x:Str}(d:X.N.Nodup)(b:X.N[i]?=some x)(a:Loc X.env.scope x)(c:X.fn x=true\/X.env.scope.names.lookup x=some .local:=by first|exact .inl rfl|exact .inr rfl|assumption):PG X (.Name x pos) (iY i):=by
 intro g s f H v u Q I r h;exact wpAny_assign_Name (pF I d b a r (λj e=>(_,H,e,h)) c)
theorem aP{x:Str}(i:Nat)(d:X.N.Nodup)(b:X.N[i]?=some x:=by rfl)(a:Loc X.env.scope x:=by exact ahy rfl)(c:X.fn x=true\/X.env.scope.names.lookup x=some .local:=by first|exact .inl rfl|exact .inr rfl|assumption):PG X (.Name x pos) (iY i):=mL d b a c
def RV:Xa:=λb a H Q=>b=[]/\Q a H
inductive MF(t:TG)(u:Xa)(vs:List V)(σ:St)(H:Hp)(Q:St->Hp->Prop):Prop
 |mk (v r:_) (_:vs=v::r) (_:t v σ H λ σ' H'=>u r σ' H' Q)
theorem fB:Yu X [] RV:=by
 intro b s a H c d Q I r h;obtain⟨e,h⟩:=h;subst e;cases r;exact assignInOrder_nil (a,H,I,h)
theorem bA{e:Expr}{a:List Expr}{t:TG}{u:Xa}(l:PG X e t)(k:Yu X a u)
  (j:(assignEach (e::a) X.env).map (·.2)=assign e X.env::(assignEach a X.env).map (·.2):=by rfl):Yu X (e::a) (MF t u):=by
 intro c s d H p w Q I r h;obtain⟨v,q,m,h⟩:=h;subst m;cases r with
 |cons r g=>
  rw[j];refine assignInOrder_cons (T7 (l c s d H _ _ _ I r h) λ_ f ⟨b,o,n,i⟩=>?_);exact k c f b o _ _ Q n g i
inductive R0(K:PySem.W.Frag)(n:Nat)(t:Xa)(v:V)(σ:St)(H:Hp)(Q:St->Hp->Prop):Prop
 | mk (a xs:_) (_:v=.ref a) (_:T8 K H a xs) (_:xs.length=n) (_:t xs σ H Q)
theorem iT{k:Nat}{t:Xa}{n:Nat}(x:X.calm=true)(h:Yu X u t)
  (q:(assignEach u X.env).length=n:=by rfl)(f:(assignEach u X.env).findIdx? (·.1)=none:=by rfl):PG X (.Tuple u k pos) (R0 X.K n t):=by
 intro i s g H v c Q I r d;obtain⟨a,l,z,p,w,d⟩:=d;subst z;cases r;obtain⟨B,j,ht,C⟩:=I.tuple p;refine assign_Tuple_tuple (I.ok.hd x) ht (by simp[q,<-w,j.length]) f λy m=>?_;have A:Inv X i g H {s with heap:=y}:=I.kept (t':=s.toks) λb o e=>m b o (aan (Heap.lt_size e)) e;exact h i _ g H l _ Q A (by simpa using j) d
def Nu(t:K3)(v:V)(σ:St)(Q:St->Hp->Prop)(o:V):VK:=λi a=>t o i v a (Q σ)
def N5(a:TE)(t:K3)(v:V)(σ:St)(Q:St->Hp->Prop):VK:=λo b=>a σ b (Nu t v σ Q o)
def T3(b c:TE)(t:K3):TG:=λv a H Q=>b a H (N5 c t v a Q)
theorem Rc{o i:Expr}{e f:TE}{t:K3}(w:PE X o e)(z:PE X i f)(q:R9 X t)
  (A:∀v,assign (.Subscript o i pos) X.env v=(do
   let a <-holding [v] (eval o X.env)
   let b <-holding [v,a] (eval i X.env)
   standAt pos
   holding [v,a,b] (setItem a b v)
   release [v,a,b] []):=by intro _;rfl):PG X (.Subscript o i pos) (T3 e f t):=by
 intro d s c H v u Q I r h;rw[A];refine wpAny_bind (wpAny_holding (T7 (w d s c H _ I h) λa j ⟨x,G,D,l,p⟩=>?_));refine wpAny_bind (wpAny_holding (T7 (z d j c G _ D p) λb g ⟨y,F,C,k,n⟩=>?_));refine wpAny_bind (wpAny_standAt (wpAny_bind (wpAny_holding (T7 (q d g c F x y v a b u _ C l k r n) λ_ J ⟨E,B,m⟩=>?_))));exact wpAny_release (c,E,B,m)
def Nj(g:TG)(D:Ends)(σ:St):VK:=λx a=>g x σ a D.nx
def Hf(b:TE)(g:TG):TS:=λD a H=>b a H (Nj g D a)
theorem Ln{e:Expr}{c:TE}{g:TG}(m:PE X e c)(l:PG X o g)(k:swapsWithSole [o] e pos.line X.env=pure false:=by rfl)(j:swappedStores [o] e X.env=pure none:=by rfl)
  (n:(assignEach [o] X.env).map (·.2)=[assign o X.env]:=by rfl):PS X (.Assign [o] e pos) (Hf c g):=by
 intro b s a H D I h;refine wpAny_Assign_stores (T7 (m b s a H _ I h) λv d ⟨x,r,p,f,i⟩=>?_) k j;rw[n];exact T7 (l b d a r x v _ p f i) λ_ t q=>q
theorem vO{i:Nat}{x:Str}{e:Expr}{a:TE}(n:X.N.Nodup)(k:X.N[i]?=some x)(g:Loc X.env.scope x)(m:PE X e a)(j:swapsWith e (some (.Name x p)) pos.line X.env=pure false:=by rfl)(l:X.fn x=true\/X.env.scope.names.lookup x=some .local:=by first|exact .inl rfl|exact .inr rfl|assumption):
  PS X (.Assign [.Name x p] e pos) (Hf a (iY i)):=by
 intro c s b H D I h;refine wpAny_Assign_Name (T7 (m c s b H _ I h) λv u ⟨y,r,q,d,f⟩=>?_) j;exact pF q n k g d (λt o=>(_,r,o,f)) l
theorem aA{x:Str}{e:Expr}{a:TE}(i:Nat)(h:X.N.Nodup)(g:PE X e a)(d:X.N[i]?=some x:=by rfl)(b:Loc X.env.scope x:=by exact ahy rfl)(c:swapsWith e (some (.Name x p)) pos.line X.env=pure false:=by rfl)(f:X.fn x=true\/X.env.scope.names.lookup x=some .local:=by first|exact .inl rfl|exact .inr rfl|assumption):
  PS X (.Assign [.Name x p] e pos) (Hf a (iY i)):=vO h d b g c f
end
section
variable{X:Cx}{pos:Pos}
def Q0(c:TT)(h:TS):TS:=λD a H=>∃W:Nat->St->Hp->Prop,(∃m,W m a H) /\ ∀m a H,W m a H ->
 c a H λb f=>if b=true then ∃N:St->Hp->Prop,(∀d g,N d g -> ∃e,e<m/\W e d g)/\h {D with nx:=N,ct:=N,bk:=D.nx} a f else D.nx a f
theorem o5{c:Expr}{e:List Stmt}{u:TT}{x:TS}(y:PassesOwn (model X.prog X.w) X.A X.env X.xe)(Q:PT X c u)(R:U5 X e x):PS X (.While c e [] pos) (Q0 u x):=by
 intro m s G H D I h;obtain⟨W,⟨P,K⟩,j⟩:=h;refine wpAny_While (codeAny_whileLoop (λn O=>∃i F,Inv X m i F O/\W n i F) ?_ P (G,H,I,K));rintro n M ⟨d,E,S,J⟩;refine wpAny_passesOwn y (T7 (Q m M d E _ S (j n d E J)) λb L ⟨C,B,l⟩=>?_);cases b with
 |true=>
  obtain⟨N,z,l⟩:=l;rw[if_pos rfl];refine wpAny_passesOwn y (T7 (R m L d C _ B l) λf T k=>?_);cases f with
  |next=>
   obtain⟨a,g,t,p⟩:=k;obtain⟨q,r,o⟩:=z a g p;exact(q,r,a,g,t,o)
  |cont=>
   obtain⟨a,g,t,p⟩:=k;obtain⟨q,r,o⟩:=z a g p;exact(q,r,a,g,t,o)
  |brk=>exact k
  |ret v=>exact k
 |false=>
  rw[if_neg aal];exact wpAny_execs_nil (d,C,B,l)
end
structure It where
 go:Nat->Hp->Prop
 Vo:Nat->Hp->V->Hp->Prop
 stop:Nat->Hp->Prop
def gK(X:Cx)(a:List (Addr×Obj))(H:Hp)(b:Addr):Prop:=
 H b=none/\b≠X.env.locals/\b∉X.fs/\(b∈X.ex\/X.s₀.heap.objs.size<=b)/\(∀x c,X.env.cells.lookup x=some c->c≠b) /\ ∀p∈X.pn++a,p.1≠b
theorem Inv.fpOk{X:Cx}{σ:St}{H H':Hp}{s:Shared}{b:Addr}(I:Inv X π σ H s)(a:s.heap.objs.size<=b)(f:H' b=none):gK X π H' b:=by
 refine(f,ahB (aak I.lt a),I.nofs a,.inr (aeY I.sz a),λx c e z=>?_,λp d z=>?_)
 ·obtain⟨v,q⟩:=I.cell x c e;exact absurd (aak q.lt (by rw[z];exact a)) (agt _)
 ·exact absurd (aak (Heap.lt_size (I.pin p d).1) (by rw[z];exact a)) (agt _)
structure Turn(P:Program)(w:World)(K:PySem.W.Frag)(tg:Expr)(J:It)(fp:List Addr)(it:Addr)(tn:Nat->Heap->Prop):Prop where
 mem:it∈fp
 obj:∀i h,tn i h -> ∀b∈fp,∃o,h.get? b=some o /\ ∀v,o.data ≠ .cell v
 keep:∀i h h',tn i h->(∀b∈fp,∀o,h.get? b=some o->h'.get? b=some o)->tn i h'
 item:∀(X:Cx),X.prog=P->X.w=w->X.K=K->X.calm=true -> ∀(i:Nat) (π:List (Addr×Obj)) (s:Shared) (σ:St) (H:Hp) (E:Value->Shared->Prop),Inv X π σ H s->(∀b∈fp,gK X π H b)->tn i s.heap->J.go i H ->
  wpAny (model P w) X.A (pyNext (.ref it)) (λr s1=>∃u,r=some u /\
   wpAny (model P w) X.A (letOwnedTupleGo tg (.ref it) u) (λ_ s2=>∃x H',Inv X π σ H' s2/\RelV x u/\J.Vo i H x H'/\tn (i+1) s2.heap /\ ∀b∈fp,H' b=none) E s1) E s
 done:∀(X:Cx),X.prog=P->X.w=w->X.K=K->X.calm=true -> ∀(i:Nat) (π:List (Addr×Obj)) (s:Shared) (σ:St) (H:Hp) (E:Value->Shared->Prop),Inv X π σ H s->(∀b∈fp,gK X π H b)->tn i s.heap->J.stop i H ->
  wpAny (model P w) X.A (pyNext (.ref it)) (λr s1=>r=none/\Inv X π σ H s1) E s
 self:∀(A:Around) (i:Nat) (s:Shared) (Q:Value->Shared->Prop) (E:Value->Shared->Prop),tn i s.heap->Q (.ref it) s->wpAny (model P w) A (pyIter (.ref it)) Q E s
abbrev TI:=St->Hp->(It->Hp->Prop)->Prop
inductive PIE(X:Cx)(π:List (Addr×Obj))(σ:St)(tg:Expr)(R:It->Hp->Prop)(itv:Value)(s2:Shared):Prop
 | mk (it:Addr) (fp:List Addr) (tn:Nat->Heap->Prop) (J:It) (H':Hp) (_:itv=.ref it) (_:Inv X π σ H' s2) (_:Turn X.prog X.w X.K tg J fp it tn) (_:tn 0 s2.heap) (_:(∀b∈fp,gK X π H' b)) (_:R J H')
def PI(X:Cx)(d iter:Expr)(c:TI):Prop:=
 ∀(b:List (Addr×Obj)) (s:Shared) (a:St) (H:Hp) (R:It->Hp->Prop),Inv X b a H s->c a H R ->
  wpAny (model X.prog X.w) X.A (eval iter X.env) (λv e=>wpAny (model X.prog X.w) X.A (pyIter v) (PIE X b a d R) X.xe e) X.xe s
theorem vB{M:Model}{A:Around}{E:Value->Shared->Prop}{s:Shared}{u:Value}{o:Obj}{n:String}{Q:Unit->Shared->Prop}(c:s.heap.get? a=some o)(f:o.cls=.type n)(hd:o.data=.fields y)
    (d:["enumerate","zip","dict_itemiterator","dict_reverseitemiterator","odict_iterator","itertools.zip_longest","itertools.pairwise"].contains n=false)(b:Q () s):wpAny M A (letOwnedTupleGo e (.ref a) u) Q E s:=by
  unfold letOwnedTupleGo;cases e<;>first
    | exact wpAny_pure b
    | (cases u<;>first
        | exact wpAny_pure b
        | (refine wpAny_bind (wpAny_load c ?_)
           rw[f,hd]
           show wpAny M A (if (["enumerate","zip","dict_itemiterator","dict_reverseitemiterator","odict_iterator","itertools.zip_longest","itertools.pairwise"].contains n&&y[0]? == some (rawInt _))=true then _ else _) Q E s
           rw[if_neg (by intro h;rw[d,ajp]at h;cases h)];exact wpAny_pure b))
def Wl(K:PySem.W.Frag)(a:Addr):It:=
 (λi H=>∃b x,T6 K H a b/\b[i]?=some x,λi H x c=>c=H /\ ∀b,T6 K H a b->b[i]?=some x,λi H=>∃b,T6 K H a b/\b.length<=i)
def Xb(K:PySem.W.Frag)(a:Addr):It:=
 (λi H=>∃b x,T8 K H a b/\b[i]?=some x,λi H x c=>c=H /\ ∀b,T8 K H a b->b[i]?=some x,λi H=>∃b,T8 K H a b/\b.length<=i)
def V6(lo:Int)(n:Nat):It:=(λi _=>i<n,λi H x a=>a=H/\x=.int (lo+i),λi _=>n<=i)
theorem Jf{w:World}(a j:Addr):Turn prog w K e (Wl K a) [j] j (λi h=>h.IsListIter j a i) where
 mem:=by simp
 obj:=λi h g b l=>by
  have f:b=j:=by simpa using l
  subst f;obtain⟨o,f,c,d⟩:=g;exact(o,f,λv z=>by rw[d]at z;cases z)
 keep:=λi h r g k=>g.at λo f=>k j (by simp) o f
 item:=by
  intro X C A D R i Q s O H E I q g B;subst C A D;obtain⟨S,x,n,y⟩:=B;obtain⟨N,t,p,V⟩:=I.list n;obtain⟨u,Z,U⟩:=t.get y;obtain⟨M,L,f2,J,G,F⟩:=q j (by simp);refine wpAny_pyNext_list_item g p.isList (x:=u) (by simpa using Z) λr m T=>?_;have I1:Inv X Q O H {s with heap:=r}:=I.turned (t':=s.toks) (λb o l f=>(T.2 b l).trans f) M L J G F;obtain⟨o,f,c,d⟩:=id m;exact(u,7,vB (s:={s with heap:=r}) f c d ∅ (x,H,I1,U,(7,λys Y=>by rw[I.list_inj Y n];exact y),m,λb l=>(q b l).1))
 done:=by
  intro X C A D R i Q s O H E I q g B;subst C A D;obtain⟨S,n,y⟩:=B;obtain⟨N,t,p,V⟩:=I.list n;obtain⟨M,L,f2,J,G,F⟩:=q j (by simp);have hl:=t.length;exact wpAny_pyNext_list_end (I.ok.hd R) g p.isList (by simp;lia) λr eb=>(7,I.turned (t':=s.toks) (λb o l f=>eb b o l f) M L J G F)
 self:=λ_ _ _ _ _ g h=>wpAny_pyIter_listiter g h
theorem Fd{w:World}(a j:Addr):Turn prog w K e (Xb K a) [j] j (λi h=>h.IsTupleIter j a i) where
 mem:=by simp
 obj:=λi h g b l=>by
  have f:b=j:=by simpa using l
  subst f;obtain⟨o,f,c,d⟩:=g;exact(o,f,λv z=>by rw[d]at z;cases z)
 keep:=λi h t g k=>g.at λo f=>k j (by simp) o f
 item:=by
  intro X D B F R i Q s O H E I r g C;subst D B F;obtain⟨S,x,q,A⟩:=C;obtain⟨m,y,p,V⟩:=I.tuple q;obtain⟨u,Z,U⟩:=y.get A;obtain⟨N,M,f2,L,J,G⟩:=r j (by simp);refine wpAny_pyNext_tuple_item g (show s.heap.IsTuple a m.toArray from p) (x:=u) (by simpa using Z) λt n T=>?_;have I1:Inv X Q O H {s with heap:=t}:=I.turned (t':=s.toks) (λb o l f=>(T.2 b l).trans f) N M L J G;obtain⟨o,f,c,d⟩:=id n;exact(u,7,vB (s:={s with heap:=t}) f c d ∅ (x,H,I1,U,(7,λys Y=>by rw[I.tuple_inj Y q];exact A),n,λb l=>(r b l).1))
 done:=by
  intro X D B F R i Q s O H E I r g C;subst D B F;obtain⟨S,q,A⟩:=C;obtain⟨m,y,p,V⟩:=I.tuple q;obtain⟨N,M,f2,L,J,G⟩:=r j (by simp);have hl:=y.length;exact wpAny_pyNext_tuple_end (I.ok.hd R) g (show s.heap.IsTuple a m.toArray from p) (by simp;lia) λt eb=>(7,I.turned (t':=s.toks) (λb o l f=>eb b o l f) N M L J G)
 self:=λ_ _ _ _ _ g h=>wpAny_pyIter_tupleiter g h
theorem Ea{w:World}(d:Addr)(lo:Int)(n:Nat):Turn prog w K e (V6 lo n) [d] d (λi h=>IsRangeIter h d (lo+(i:Nat)*1) ((n:Int)-(i:Nat)) 1) where
 mem:=by simp
 obj:=λi h c b f=>by
  have a:b=d:=by simpa using f
  subst a;exact(_,c,λv z=>by
   have J:Data.fields _=Data.cell v:=z;cases J)
 keep:=λi h l c k=>k d (by simp) _ c
 item:=by
  intro X r m u q i F s D H E I j c p;subst r m u;obtain⟨C,B,N,A,y,x⟩:=j d (by simp);have W:=Walks.range (prog:=X.prog) (w:=X.w) (I.ok.hd q) d lo 1 n;refine W.item i s _ _ p c λv l G M g L=>?_;obtain⟨t,rfl⟩:=M;have Q:Inv X F D H {s with heap:=l,toks:=G}:=I.turned (λb o f a=>L b o (by simpa using f) a) C B A y x
  refine(5,vB (s:={s with heap:=l,toks:=G}) (n := "range_iterator") g rfl rfl ∅ (.int (lo+i),H,Q,(t,8),(7,7),g,λb f=>(j b f).1))
  rw[Int.mul_one]
 done:=by
  intro X r m u q i F s D H E I j c p;subst r m u;obtain⟨C,B,N,A,y,x⟩:=j d (by simp);exact wpAny_pyNext_range_end (I.ok.hd q) c (by have:n<=i:=p;lia) λl O=>(7,I.turned (t':=s.toks) (λb o f a=>O b o f a) C B A y x)
 self:=λ_ _ _ _ _ c h=>wpAny_pyIter_rangeiter c h
section
variable{X:Cx}
inductive Nf(K:PySem.W.Frag)(R:It->Hp->Prop)(x:V)(H1:Hp):Prop
 | mk (a:_) (_:x=.ref a) (_:(∃xs,T6 K H1 a xs)) (_:R (Wl K a) H1)
def R4(K:PySem.W.Frag)(b:TE):TI:=λ a H R=>b a H (Nf K R)
inductive Ro(K:PySem.W.Frag)(R:It->Hp->Prop)(x:V)(H1:Hp):Prop
 | mk (a:_) (_:x=.ref a) (_:(∃xs,T8 K H1 a xs)) (_:R (Xb K a) H1)
def T5(K:PySem.W.Frag)(b:TE):TI:=λ a H R=>b a H (Ro K R)
theorem bJ{l:Expr}{f:TE}(n:PE X l f):PI X tg l (R4 X.K f):=by
 intro i s g H R I h;refine T7 (n i s g H _ I h) λv c ⟨x,t,d,j,k⟩=>?_;obtain⟨a,e,⟨w,m⟩,q⟩:=k;subst e;cases j;obtain⟨u,y,p,z⟩:=d.list m;refine wpAny_pyIter_list p.isList ?_;refine(c.heap.objs.size,[c.heap.objs.size],1,t,7,d.kept (t':=c.toks) λb o e=>Heap.get?_push_of_some _ e,Jf a _,(_,Heap.get?_push_size _ rfl,7,7),λb r=>?_,q);have e:b=c.heap.objs.size:=by simpa using r
 subst e;exact d.fpOk (aac _) (d.hok.fresh (aac _))
theorem JV{l:Expr}{g:TE}(r:PE X l g):PI X tg l (T5 X.K g):=by
 intro j s i H R I h;refine T7 (r j s i H _ I h) λv c ⟨x,u,d,k,m⟩=>?_;obtain⟨a,e,⟨w,n⟩,q⟩:=m;subst e;cases k;obtain⟨f,y,p,z⟩:=d.tuple n;refine wpAny_pyIter_tuple (show c.heap.IsTuple a f.toArray from p) ?_;refine(c.heap.objs.size,[c.heap.objs.size],1,u,7,d.kept (t':=c.toks) λb o e=>Heap.get?_push_of_some _ e,Fd a _,(_,Heap.get?_push_size _ rfl,7,7),λb t=>?_,q);have e:b=c.heap.objs.size:=by simpa using t
 subst e;exact d.fpOk (aac _) (d.hok.fresh (aac _))
theorem CG{σ:St}{H:Hp}{s:Shared}{R:It->Hp->Prop}{E:Value->Shared->Prop}{lo :Int}{t u v:Tok}{tk:Nat}(I:Inv X π σ H s)(h : -(2^62)<=lo)(g:lo<2^62)(f : -(2^62)<=m)(d:m<2^62)
  (q:R (V6 lo (m-lo).toNat) H):wpAny (model X.prog X.w) X.A (pyIter (.ref s.heap.objs.size)) (PIE X π σ tg R) E {s with heap:=s.heap.push {cls:=.type "range",data:=.fields #[.int lo t,.int m u,.int 1 v]},toks:=tk}:=by
 refine wpAny_pyIter_range (IsRange.new ..) (small_one h g f d) ?_
 have a:Inv X π σ H {s with heap:=s.heap.push {cls:=.type "range",data:=.fields #[.int lo t,.int m u,.int 1 v]},toks:=tk}:=I.kept λb o e=>Heap.get?_push_of_some _ e
 refine((s.heap.push {cls:=.type "range",data:=.fields #[.int lo t,.int m u,.int 1 v]}).objs.size,[(s.heap.push {cls:=.type "range",data:=.fields #[.int lo t,.int m u,.int 1 v]}).objs.size],1,H,7,
  a.kept (t':=tk) λb o e=>Heap.get?_push_of_some _ e,Ea _ lo (m-lo).toNat,8,λb c=>?_,q)
 ·have j:lo+((0:Nat):Int)*1=lo:=by simp
  have i:(((m-lo).toNat:Nat):Int)-((0:Nat):Int)=Builtin.Range.rangeSize lo m 1:=by rw[rangeSize_one];split<;>lia
  show IsRangeIter _ _ (lo+((0:Nat):Int)*1) ((((m-lo).toNat:Nat):Int)-((0:Nat):Int)) 1;rw[j,i];exact Heap.get?_push_size _ rfl
 ·have e:b=(s.heap.push {cls:=.type "range",data:=.fields #[.int lo t,.int m u,.int 1 v]}).objs.size:=by simpa using c
  subst e;exact a.fpOk (aac _) (a.hok.fresh (aac _))
inductive NQ(R:It->Hp->Prop)(vs:List V)(H1:Hp):Prop
 | mk (j:Int) (_:vs=[.int j]) (_ : -(2^62)<=j) (_:j<2^62) (_:R (V6 0 j.toNat) H1)
def RW(b:TA):TI:=λ a H R=>b a H (NQ R)
inductive M9(R:It->Hp->Prop)(vs:List V)(H1:Hp):Prop
 | mk (i j:Int) (_:vs=[.int i,.int j]) (_:(-(2^62)<=i/\i<2^62 /\ -(2^62)<=j/\j<2^62)) (_:R (V6 i (j-i).toNat) H1)
def Sh(b:TA):TI:=λ a H R=>b a H (M9 R)
theorem q9{a:Expr}{c:TA}{p pos:Pos}(n:Gl X "range")(m:X.mg "range" = none)(o:PA X [a] c)(l:starEach [a] X.env=[(pq false (eval a X.env))]:=by rfl):PI X tg (.Call (.Name "range" p) [a] [] pos) (RW c):=by
 intro f s d H R I h;refine Call_ (dH I n m boot_range (PyProof.Rows.callWith_type1 (T7 (o pos f s d H _ I h) λw x ⟨v,y,u,i,b⟩=>?_) l rfl));obtain⟨j,e,b,k,q⟩:=b;subst e;cases i with
 |cons r g=>
  cases g;obtain⟨t,rfl⟩:=r;exact call_range_1 (CG u ⋯ ⋯ b k (by simpa using q))
theorem ye{a b:Expr}{g:TA}{p pos:Pos}(y:Gl X "range")(x:X.mg "range" = none)(z:PA X [a,b] g)(w:starEach [a,b] X.env=[(pq false (eval a X.env)),(pq false (eval b X.env))]:=by rfl)(c:starEach [b] X.env=[(pq false (eval b X.env))]:=by rfl):
  PI X tg (.Call (.Name "range" p) [a,b] [] pos) (Sh g):=by
 intro l s k H R I h;refine Call_ (dH I y x boot_range (PyProof.Rows.callWith_type1 (T7 (z pos l s k H _ I h) λC E ⟨B,F,A,m,f⟩=>?_) (by rw[w,c]) (by rw[c];rfl)));obtain⟨i,j,e,⟨f,v,u,o⟩,q⟩:=f;subst e;cases m with
 |cons r d=>
  cases d with
  |cons n d=>
   cases d;obtain⟨t,rfl⟩:=r;obtain⟨D,rfl⟩:=n;exact call_range_2 (CG A f v u o q)
def O4(g:TG)(e:TS)(D:Ends)(σ:St)(H:Hp):It->Hp->Prop:=λJ h=>∃W:Nat->Nat->St->Hp->Prop,(∃m,W 0 m σ h) /\ ∀i m σ H,W i m σ H->(J.stop i H/\D.nx σ H)\/(J.go i H /\ ∃N:St->Hp->Prop,(∀b a,N b a -> ∃d,d<m/\W (i+1) d b a) /\ ∀x a,J.Vo i H x a->g x σ a λ c f=>e {D with nx:=N,ct:=N,bk:=D.nx} c f)
def Tj(b:TI)(g:TG)(c:TS):TS:=λD a H=>b a H (O4 g c D a H)
def qe(a:List Addr)(h:Heap):List (Addr×Obj):=a.filterMap λb=>(h.get? b).map λo=>(pq b o)
theorem fW{b:Addr}{o:Obj}(a:b∈g)(e:h'.get? b=some o):(pq b o)∈qe g h':=aiq.mpr (b,a,by rw[e];rfl)
theorem Ib{p:Addr×Obj}(a:p∈qe g h'):p.1∈g/\h'.get? p.1=some p.2:=by
 obtain⟨b,c,e⟩:=aiq.mp a;cases q:h'.get? b with
 |none=>rw[q]at e;cases e
 |some o=>
  rw[q]at e;have d:(pq b o)=p:=aax e;subst d;exact(c,q)
theorem Inv.pinned{σ:St}{H:Hp}{s:Shared}(I:Inv X π σ H s)(i:∀b∈g,gK X π H b)(h:∀b∈g,∃o,s.heap.get? b=some o /\ ∀v,o.data ≠ .cell v):Inv X (π++qe g s.heap) σ H s:=
 I.pins_of λp f=>(aaW.mp f).elim (λz=>I.pin p (aat _ z)) λz=>by
  obtain⟨a,e⟩:=Ib z;obtain⟨l,k,j,_⟩:=i p.1 a;obtain⟨o,c,d⟩:=h p.1 a;rw[e]at c;cases c;exact(e,l,k,j,d)
theorem Inv.ξ{a:List (Addr×Obj)}{σ:St}{H:Hp}{s:Shared}(I:Inv X (π++a) σ H s):Inv X π σ H s:=I.pins_of λp b=>I.pin p (aat _ (agC _ b))
theorem bC{iter:Expr}{B:List Stmt}{Z:TI}{g:TG}{tb:TS}{pos:Pos}(F:PassesOwn (model X.prog X.w) X.A X.env X.xe)(hc:X.calm=true)(hi:PI X tg iter Z)(hg:PG X tg g)(c:U5 X B tb)
  (hs:∀x,foldedSetIterable iter X.env x=pure x:=by intro _;rfl):PS X (.For tg iter B [] pos) (Tj Z g tb):=by
 intro C s Y H D I h;refine wpAny_For (T7 (hi C s Y H _ I h) λv s1 h1=>T7 h1 λa0 s2 h2=>?_) hs;obtain⟨it,G,tn,J,H2,e,I2,T,V,f2,W,⟨m0,w0⟩,L⟩:=h2;subst e;have q:∀{y:Hp},(∀b∈G,y b=none) -> ∀b∈G,gK X C y b:=λhn b c=>(hn b c,(f2 b c).2);refine codeAny_forLoop_any (λn s'=>∃i p y,Inv X C p y s'/\tn i s'.heap/\(∀b∈G,y b=none)/\W i n p y) ?_ m0 (0,Y,H2,I2,V,λb c=>(f2 b c).1,w0);rintro n s3 ⟨i,l,P,I3,K,Wm,w3⟩;rcases L i n l P w3 with ⟨M,qn⟩|⟨go,N,hN,O⟩
 ·refine wpAny_passesOwn F (T7 (T.done X rfl rfl rfl hc i C s3 l P X.xe I3 (q Wm) K M) λr s4 ⟨R,I4⟩=>?_);subst R;exact wpAny_execs_nil (l,P,I4,qn)
 ·refine wpAny_passesOwn F (T7 (T.item X rfl rfl rfl hc i C s3 l P X.xe I3 (q Wm) K go) λr s4 ⟨u,R,h4⟩=>?_);subst R;refine wpAny_passesOwn F (T7 h4 λ_ s5 ⟨x,H5,I5,r5,y5,S,Xw⟩=>?_);have Xx:=I5.pinned (q Xw) (T.obj _ _ S);refine wpAny_passesOwn F (T7 (hg _ s5 l H5 x u _ Xx r5 (O x H5 y5)) λ_ s6 ⟨U,H6,I6,q6⟩=>?_);refine wpAny_passesOwn F (T7 (c _ s6 U H6 _ I6 q6) λf Q z=>?_);have t:∀{a:St}{k:Hp},Inv X (C++qe G s5.heap) a k Q->N a k -> ∃m,m<n /\ ∃i p y,Inv X C p y Q/\tn i Q.heap/\(∀b∈G,y b=none)/\W i m p y:=λ{a k} j E=>by
   obtain⟨m',hm,w7⟩:=hN a k E;refine(m',hm,i+1,a,k,j.ξ,T.keep _ _ _ S λb c o e=>(j.pin (pq b o) (aat _ (aat _ (fW c e)))).1,λb c=>?_,w7);obtain⟨o,e,d⟩:=T.obj _ _ S b c;exact(j.pin (pq b o) (aat _ (aat _ (fW c e)))).2.1
  cases f with
  |next=>obtain⟨a,k,j,E⟩:=z;exact t j E
  |cont=>obtain⟨a,k,j,E⟩:=z;exact t j E
  |brk=>obtain⟨a,k,j,z⟩:=z;exact(a,k,j.ξ,z)
  |ret v=>obtain⟨x7,a,k,j,r7,z⟩:=z;exact(x7,a,k,j.ξ,r7,z)
end
theorem bU{a:Addr}{xs:List V}{g:TG}{j:TS}{D:Ends}{σ:St}{H:Hp}(b:Nat->St->Hp->Prop)(s:b 0 σ H)(o:∀i σ H,i<=xs.length->b i σ H->T6 K H a xs)
  (n:∀i x σ H,xs[i]?=some x->b i σ H->g x σ H λ c h=>j {D with nx:=b (i+1),ct:=b (i+1),bk:=D.nx} c h)(hd:∀σ H,b xs.length σ H->D.nx σ H):
  ∃W:Nat->Nat->St->Hp->Prop,(∃m,W 0 m σ H) /\ ∀i m σ H,W i m σ H ->
   ((Wl K a).stop i H/\D.nx σ H)\/((Wl K a).go i H /\ ∃N:St->Hp->Prop,(∀d H',N d H' -> ∃k,k<m/\W (i+1) k d H') /\ ∀x H',(Wl K a).Vo i H x H'->g x σ H' λ c h=>j {D with nx:=N,ct:=N,bk:=D.nx} c h):=by
 exists λi m σ H=>m=xs.length-i/\i<=xs.length/\b i σ H,(xs.length,by simp,aaD _,s);rintro i m σ H ⟨rfl,r,p⟩;have q:=o i σ H r p;by_cases f:i<xs.length
 ·refine .inr ((xs,xs[i],q,by simp[f]),b (i+1),λ d H' l=>(xs.length-(i+1),9,7,f,l),λx H' y=>?_);obtain⟨e,y⟩:=y;subst e;exact n i x σ _ (y xs q) p
 ·have e:i=xs.length:=by lia
  subst e;exact .inl ((xs,q,aac _),hd σ H p)
theorem M7{a:Addr}{xs:List V}{g:TG}{j:TS}{D:Ends}{σ:St}{H:Hp}(b:Nat->St->Hp->Prop)(s:b 0 σ H)(o:∀i σ H,i<=xs.length->b i σ H->T8 K H a xs)
  (n:∀i x σ H,xs[i]?=some x->b i σ H->g x σ H λ c h=>j {D with nx:=b (i+1),ct:=b (i+1),bk:=D.nx} c h)(hd:∀σ H,b xs.length σ H->D.nx σ H):
  ∃W:Nat->Nat->St->Hp->Prop,(∃m,W 0 m σ H) /\ ∀i m σ H,W i m σ H ->
   ((Xb K a).stop i H/\D.nx σ H)\/((Xb K a).go i H /\ ∃N:St->Hp->Prop,(∀d H',N d H' -> ∃k,k<m/\W (i+1) k d H') /\ ∀x H',(Xb K a).Vo i H x H'->g x σ H' λ c h=>j {D with nx:=N,ct:=N,bk:=D.nx} c h):=by
 exists λi m σ H=>m=xs.length-i/\i<=xs.length/\b i σ H,(xs.length,by simp,aaD _,s);rintro i m σ H ⟨rfl,r,p⟩;have q:=o i σ H r p;by_cases f:i<xs.length
 ·refine .inr ((xs,xs[i],q,by simp[f]),b (i+1),λ d H' l=>(xs.length-(i+1),9,7,f,l),λx H' y=>?_);obtain⟨e,y⟩:=y;subst e;exact n i x σ _ (y xs q) p
 ·have e:i=xs.length:=by lia
  subst e;exact .inl ((xs,q,aac _),hd σ H p)
theorem qI{lo:Int}{n:Nat}{g:TG}{h:TS}{D:Ends}{σ:St}{H:Hp}(a:Nat->St->Hp->Prop)(o:a 0 σ H)
  (l:∀i σ H,i<n->a i σ H->g (.int (lo+i)) σ H λ b f=>h {D with nx:=a (i+1),ct:=a (i+1),bk:=D.nx} b f)(hd:∀σ H,a n σ H->D.nx σ H):
  ∃W:Nat->Nat->St->Hp->Prop,(∃m,W 0 m σ H) /\ ∀i m σ H,W i m σ H ->
   ((V6 lo n).stop i H/\D.nx σ H)\/((V6 lo n).go i H /\ ∃N:St->Hp->Prop,(∀c H',N c H' -> ∃j,j<m/\W (i+1) j c H') /\ ∀x H',(V6 lo n).Vo i H x H'->g x σ H' λ b f=>h {D with nx:=N,ct:=N,bk:=D.nx} b f):=by
 exists λi m σ H=>m=n-i/\i<=n/\a i σ H,(n,by simp,aaD _,o);rintro i m σ H ⟨rfl,q,p⟩;by_cases d:i<n
 ·refine .inr (d,a (i+1),λ c H' k=>(n-(i+1),9,7,d,k),λx H' y=>?_);obtain⟨e,y⟩:=y;subst e y;exact l i σ _ d p
 ·have e:i=n:=by lia
  subst e;exact .inl (aac _,hd σ H p)
abbrev R2:=V->V->Hp->VK->Prop
def Us(X:Cx)(f:Value->Value->Sem Value)(r:R2):Prop:=
 ∀(b:List (Addr×Obj)) (s:Shared) (a:St) (H:Hp) (x y:V) (v u:Value) (Q:VK),Inv X b a H s->RelV x v->RelV y u->r x y H Q ->
  wpAny (model X.prog X.w) X.A (f v u) (EP X b a Q) X.xe s
def Zx(X:Cx)(f:Value->Sem Value)(r:V->Hp->VK->Prop):Prop:=
 ∀(b:List (Addr×Obj)) (s:Shared) (a:St) (H:Hp) (x:V) (v:Value) (Q:VK),Inv X b a H s->RelV x v->r x H Q ->
  wpAny (model X.prog X.w) X.A (f v) (EP X b a Q) X.xe s
def eU(X:Cx)(f:Value)(r:List V->Hp->VK->Prop):Prop:=
 ∀(b:List (Addr×Obj)) (s:Shared) (a:St) (H:Hp) (c:List V) (d:List Value) (Q:VK),Inv X b a H s->Vals c d->r c H Q ->
  wpAny (model X.prog X.w) X.A (call f d) (EP X b a Q) X.xe s
def QK(r:R2)(Q:VK)(x:V):VK:=λy a=>r x y a Q
def Rg(r:R2)(a:TE)(σ:St)(Q:VK):VK:=λx b=>a σ b (QK r Q x)
def Xy(r:R2)(c b:TE):TE:=λ a H Q=>c a H (Rg r b a Q)
def QF(r:V->Hp->VK->Prop)(Q:VK):VK:=λx a=>r x a Q
def tUn(r:V->Hp->VK->Prop)(b:TE):TE:=λ a H Q=>b a H (QF r Q)
inductive rI(C:Int->Int->Prop)(g:Int->Int->V)(x:V)(y:V)(H:Hp)(Q:VK):Prop
 | mk (i j:_) (_:x=.int i) (_:y=.int j) (_:C i j) (_:Q (g i j) H)
inductive Wb(g:Int->Int->V)(x:V)(y:V)(H:Hp)(Q:VK):Prop
 | mk (i j:_) (_:x=.int i) (_:y=.int j) (_:Q (g i j) H)
inductive rU(g:Int->V)(x:V)(H:Hp)(Q:VK):Prop
 | mk (i:_) (_:x=.int i) (_:Q (g i) H)
section
variable{X:Cx}{a c:Expr}{ta tb tc:TE}{pos:Pos}
theorem QJ(r:PE X a ta)(q:PE X b tb){s:Shared}{σ:St}{H:Hp}{R:V->V->Hp->Prop}(I:Inv X π σ H s)
  (h:ta σ H λx j=>tb σ j λy d=>R x y d){Q:Value->Shared->Prop}{f:Value->Value->Sem Value}
  (p:∀v u i x y d,Inv X π σ d i->RelV x v->RelV y u->R x y d->wpAny (model X.prog X.w) X.A (f v u) Q X.xe i):
  wpAny (model X.prog X.w) X.A (eval a X.env) (λv g=>wpAny (model X.prog X.w) X.A (eval b X.env) (λu e=>wpAny (model X.prog X.w) X.A (f v u) Q X.xe e) X.xe g) X.xe s:=by
 refine T7 (r π s σ H _ I h) λv k ⟨x,j,z,m,o⟩=>?_;refine T7 (q π k σ j _ z o) λu i ⟨y,d,t,l,n⟩=>?_;exact p v u i x y d t m l n
theorem aB{d:Operator}{r:R2}(k:Us X (binaryOp d) r)(m:PE X a ta)(l:PE X b tb):PE X (.BinOp a d b pos) (Xy r ta tb):=by
 intro f s e H Q I h;exact wpAny_BinOp (QJ m l I h λv u g x y o n j i q=>k f g e o x y v u Q n j i q)
theorem gB{f:UnaryOp}{r:V->Hp->VK->Prop}(k:Zx X (unaryOp f) r)(l:PE X a ta):PE X (.UnaryOp f a pos) (tUn r ta):=by
 intro e s d H Q I h;exact UnaryOp_ (T7 (l e s d H _ I h) λv g ⟨x,n,m,i,j⟩=>k e g d n x v Q m i j)
theorem Xz{f:Value->Value->Sem Value}{C:Int->Int->Prop}{g:Int->Int->Int}
  (d:∀(i j:Int) (t u:Tok) (s:Shared) (Q:Value->Shared->Prop) (E:Value->Shared->Prop),C i j->Q (.int (g i j) s.toks) {s with toks:=s.toks+1}->wpAny (model X.prog X.w) X.A (f (.int i t) (.int j u)) Q E s):
  Us X f (rI C λi j=>.int (g i j)):=by
 intro o s n H x y v u Q I l k h;obtain⟨i,j,rfl,rfl,m,q⟩:=h;obtain⟨t,rfl⟩:=l;obtain⟨e,rfl⟩:=k;exact d i j t e s _ _ m (.int (g i j),H,I.tok _,(_,7),q)
theorem Qe{f:Value->Value->Sem Value}{g:Int->Int->Int}
  (d:∀(i j:Int) (t u:Tok) (s:Shared) (Q:Value->Shared->Prop) (E:Value->Shared->Prop),Q (.int (g i j) s.toks) {s with toks:=s.toks+1}->wpAny (model X.prog X.w) X.A (f (.int i t) (.int j u)) Q E s):
  Us X f (Wb λi j=>.int (g i j)):=by
 intro n s m H x y v u Q I l k h;obtain⟨i,j,rfl,rfl,q⟩:=h;obtain⟨t,rfl⟩:=l;obtain⟨e,rfl⟩:=k;exact d i j t e s _ _ (.int (g i j),H,I.tok _,(_,7),q)
theorem Od{f:Value->Value->Sem Value}{g:Int->Int->Bool}
  (d:∀(i j:Int) (t u:Tok) (s:Shared) (Q:Value->Shared->Prop) (E:Value->Shared->Prop),Q (.bool (g i j)) s->wpAny (model X.prog X.w) X.A (f (.int i t) (.int j u)) Q E s):
  Us X f (Wb λi j=>.bl (g i j)):=by
 intro n s m H x y v u Q I l k h;obtain⟨i,j,rfl,rfl,q⟩:=h;obtain⟨t,rfl⟩:=l;obtain⟨e,rfl⟩:=k;exact d i j t e s _ _ (.bl (g i j),H,I,7,q)
def Tf(i j:Int):Prop:=0<j/\j<1073741824
def S8(i j:Int):Prop:=0<=j/\j<=1000000/\i.natAbs<2^64
def Q9(i j:Int):Prop:=(-(2^64)<i/\i<2^64)\/(-(2^64)<j/\j<2^64)
theorem Q9.ok{i j:Int}(h:Q9 i j):IntMulOk i j:=by
 rcases h with ⟨e,d⟩|⟨e,d⟩
 ·exact .of_left (intBits_le_64 e d)
 ·exact .of_right (intBits_le_64 e d)
theorem FN(k:Nat):(0:Int)<=2^k:=by
 rw[two_pow_cast];exact Int.natCast_nonneg _
theorem aX:Us X (binaryOp .Add) (Wb λi j=>.int (i+j)):=Qe λ_ _ _ _ _ _ _ q=>add_int q
theorem bz:Us X (binaryOp .Sub) (Wb λi j=>.int (i-j)):=Qe λ_ _ _ _ _ _ _ q=>sub_int q
theorem cI:Us X (binaryOp .Mult) (rI Q9 λi j=>.int (i*j)):=Xz λ_ _ _ _ _ _ _ d q=>mul_int q d.ok
theorem cj:Us X (binaryOp .FloorDiv) (rI Tf λi j=>.int (i / j)):=Xz λi j _ _ _ _ _ d q=>by
 have f:(0:Int)<j:=d.1;have e:j<1073741824:=d.2;exact floordiv_int ⋯ (by rw[aim i ⋯];exact q) (.inl (PyProof.noPylong_small ⋯))
theorem bZ:Us X (binaryOp .Mod) (rI (λ_ j=>0<j) λi j=>.int (i%j)):=Xz λi j _ _ _ _ _ d q=>by
 have e:(0:Int)<j:=d;exact mod_int' ⋯ (by rw[Int.fmod_eq_emod_of_nonneg i ⋯];exact q)
theorem DQ:Us X (binaryOp .Pow) (rI S8 λi j=>.int (i^j.toNat)):=Xz λ_ _ _ _ _ _ _ d q=>pow_int_small d.1 d.2.1 d.2.2 q
theorem Rb:Us X (binaryOp .RShift) (rI (λ_ j=>0<=j) λi j=>.int (i / 2^j.toNat)):=Xz λi j _ _ _ _ _ d q=>
 rshift_int d (by rw[aim i (FN _)];exact q)
theorem QD:Us X (binaryOp .BitAnd) (Wb λi j=>.int (Builtin.bitAnd i j)):=Qe λ_ _ _ _ _ _ _ q=>and_int q
theorem unI{f:Value->Sem Value}{g:Int->Int}
  (d:∀(i:Int) (t:Tok) (s:Shared) (Q:Value->Shared->Prop) (E:Value->Shared->Prop),Q (.int (g i) s.toks) {s with toks:=s.toks+1}->wpAny (model X.prog X.w) X.A (f (.int i t)) Q E s):
  Zx X f (rU λi=>.int (g i)):=by
 intro k s j H x v Q I e h;obtain⟨i,rfl,q⟩:=h;obtain⟨t,rfl⟩:=e;exact d i t s _ _ (.int (g i),H,I.tok _,(_,7),q)
theorem dh:Zx X (unaryOp .USub) (rU λi=>.int (-i)):=unI λ_ _ _ _ _ q=>neg_int q
end
def RJ:V->V->Bool
 |.non,.non=>true | .non,.int _=>true | .int _,.non=>true | .non,.bl _=>true | .bl _,.non=>true | .non,.str _=>true | .str _,.non=>true
 |.int _,.int _=>true | .bl _,.bl _=>true | .str _,.str _=>true | .VB _,.VB _=>true
 |.int _,.str _=>true | .str _,.int _=>true | .bl _,.str _=>true | .str _,.bl _=>true
 |_,_=>false
def rEq:R2:=λx y H Q=>RJ x y=true/\Q (.bl (decide (x=y))) H
def rNe:R2:=λx y H Q=>RJ x y=true/\Q (.bl (!decide (x=y))) H
theorem GD{i j:Int}:decide (V.int i=V.int j)=(i==j):=by
 rw[aig];simp
theorem K8{i j:Bool}:decide (V.bl i=V.bl j)=(i==j):=by
 rw[aig];simp
theorem Hb{i j:Str}:decide (V.str i=V.str j)=(i==j):=by
 rw[aig];simp
theorem GK{i j:Array UInt8}:decide (V.VB i=V.VB j)=(i.toList==j.toList):=by
 rw[aig];cases i;cases j;simp
section
variable{X:Cx}{a c:Expr}{ta tb tc:TE}{pos:Pos}
theorem bG{σ:St}{H:Hp}{s:Shared}{Q:VK}{k d:Bool}(I:Inv X π σ H s)(q:Q (.bl k) H)(e:k=d):EP X π σ Q (.bool d) s:=by
 subst e;exact(.bl k,H,I,7,q)
theorem dR:Us X (compareOp .Eq) rEq:=by
 intro l s k H x y v u Q I g d h;obtain⟨f,q⟩:=h;cases x with
 |non=>
  cases g;cases y with
  |non=>cases d;exact PySem.EqNone.eq_none_none (bG I q (by simp))
  |bl j=>cases d;exact PySem.EqNone.eq_none_bool (bG I q (by simp))
  |int j=>obtain⟨e,rfl⟩:=d;exact PySem.EqNone.eq_none_int (bG I q (by simp))
  |str j=>obtain⟨e,rfl⟩:=d;exact PySem.EqNone.eq_none_str (bG I q (by simp))
  |_=>exact absurd (show false=true from f) aal
 |bl i=>
  cases g;cases y with
  |non=>cases d;exact PySem.EqNone.eq_bool_none (bG I q (by simp))
  |bl j=>cases d;exact eq_bool (bG I q K8)
  |str j=>obtain⟨e,rfl⟩:=d;exact PySem.EqMixed.eq_bool_str (bG I q (by simp))
  |_=>exact absurd (show false=true from f) aal
 |int i=>
  obtain⟨t,rfl⟩:=g;cases y with
  |non=>cases d;exact PySem.EqNone.eq_int_none (bG I q (by simp))
  |int j=>obtain⟨e,rfl⟩:=d;exact eq_int (bG I q GD)
  |str j=>obtain⟨e,rfl⟩:=d;exact PySem.EqMixed.eq_int_str (bG I q (by simp))
  |_=>exact absurd (show false=true from f) aal
 |str i=>
  obtain⟨t,rfl⟩:=g;cases y with
  |non=>cases d;exact PySem.EqNone.eq_str_none (bG I q (by simp))
  |bl j=>cases d;exact PySem.EqMixed.eq_str_bool (bG I q (by simp))
  |int j=>obtain⟨e,rfl⟩:=d;exact PySem.EqMixed.eq_str_int (bG I q (by simp))
  |str j=>obtain⟨e,rfl⟩:=d;exact eq_str (bG I q Hb)
  |_=>exact absurd (show false=true from f) aal
 |VB i=>
  obtain⟨t,rfl⟩:=g;cases y with
  |VB j=>obtain⟨e,rfl⟩:=d;exact PySem.W.eq_bytes (bG I q GK)
  |_=>exact absurd (show false=true from f) aal
 |_=>cases y<;>exact absurd (show false=true from f) aal
theorem vA:Us X (compareOp .NotEq) rNe:=by
 intro l s k H x y v u Q I g d h;obtain⟨f,q⟩:=h;cases x with
 |non=>
  cases g;cases y with
  |non=>cases d;exact PySem.EqNone.ne_none_none (bG I q (by simp))
  |bl j=>cases d;exact PySem.EqNone.ne_none_bool (bG I q (by simp))
  |int j=>obtain⟨e,rfl⟩:=d;exact PySem.EqNone.ne_none_int (bG I q (by simp))
  |str j=>obtain⟨e,rfl⟩:=d;exact PySem.EqNone.ne_none_str (bG I q (by simp))
  |_=>exact absurd (show false=true from f) aal
 |bl i=>
  cases g;cases y with
  |non=>cases d;exact PySem.EqNone.ne_bool_none (bG I q (by simp))
  |bl j=>cases d;exact ne_bool (bG I q (congrArg not K8))
  |str j=>obtain⟨e,rfl⟩:=d;exact PySem.EqMixed.ne_bool_str (bG I q (by simp))
  |_=>exact absurd (show false=true from f) aal
 |int i=>
  obtain⟨t,rfl⟩:=g;cases y with
  |non=>cases d;exact PySem.EqNone.ne_int_none (bG I q (by simp))
  |int j=>obtain⟨e,rfl⟩:=d;exact ne_int (bG I q (congrArg not GD))
  |str j=>obtain⟨e,rfl⟩:=d;exact PySem.EqMixed.ne_int_str (bG I q (by simp))
  |_=>exact absurd (show false=true from f) aal
 |str i=>
  obtain⟨t,rfl⟩:=g;cases y with
  |non=>cases d;exact PySem.EqNone.ne_str_none (bG I q (by simp))
  |bl j=>cases d;exact PySem.EqMixed.ne_str_bool (bG I q (by simp))
  |int j=>obtain⟨e,rfl⟩:=d;exact PySem.EqMixed.ne_str_int (bG I q (by simp))
  |str j=>obtain⟨e,rfl⟩:=d;exact ne_str (bG I q (congrArg not Hb))
  |_=>exact absurd (show false=true from f) aal
 |VB i=>
  obtain⟨t,rfl⟩:=g;cases y with
  |VB j=>obtain⟨e,rfl⟩:=d;exact PySem.W.ne_bytes (bG I q (congrArg not GK))
  |_=>exact absurd (show false=true from f) aal
 |_=>cases y<;>exact absurd (show false=true from f) aal
theorem jh:Us X (compareOp .Lt) (Wb λi j=>.bl (decide (i<j))):=Od λ_ _ _ _ _ _ _ q=>lt_int q
theorem mD:Us X (compareOp .LtE) (Wb λi j=>.bl (decide (i<=j))):=Od λ_ _ _ _ _ _ _ q=>le_int q
theorem lw:Us X (compareOp .Gt) (Wb λi j=>.bl (decide (j<i))):=Od λ_ _ _ _ _ _ _ q=>gt_int q
theorem Ax:Us X (compareOp .GtE) (Wb λi j=>.bl (decide (j<=i))):=Od λ_ _ _ _ _ _ _ q=>ge_int q
theorem Kl(b:Expr){d:CmpOp}(h:d ≠ .In:=by decide)(e:d ≠ .NotIn:=by decide):behindInMarks d b=false:=by
 have g:(d==CmpOp.In)=false:=by cases d<;>first|rfl|exact absurd rfl h
 have f:(d==CmpOp.NotIn)=false:=by cases d<;>first|rfl|exact absurd rfl e
 cases b<;>simp[behindInMarks,g,f]
theorem uq{d:CmpOp}{r:R2}(k:Us X (compareOp d) r)(n:PE X a ta)(m:PE X b tb)(l:behindInMarks d b=false:=by exact Kl _):PE X (.Compare a [d] [b] pos) (Xy r ta tb):=by
 intro f s e H Q I h;exact wpAny_Compare1 (QJ n m I h λv u g x y p o j i q=>k f g e p x y v u Q o j i q) l
inductive Oh(Q:Bool->Hp->Prop)(x:V)(H':Hp):Prop
 | mk (k:_) (_:x=.bl k) (_:Q k H')
def Ml(t:TE):TT:=λ d H Q=>t d H (Oh Q)
theorem aK{g:CmpOp}{r:R2}(t:Us X (compareOp g) r)(B:PE X a ta)(A:PE X b tb)(w:behindInMarks g b=false:=by exact Kl _):PT X (.Compare a [g] [b] pos) (Ml (Xy r ta tb)):=by
 intro f s d H Q I h;refine wpAny_isTrue_Compare1 (T7 (B f s d H _ I h) λv j ⟨x,J,E,n,q⟩=>T7 (A f j d J _ E q) λu i ⟨y,G,D,m,p⟩=>
  T7 (t f i d G x y v u _ D n m p) λc K ⟨z,F,C,l,k,e,o⟩=>?_) w
 subst e;cases l;exact wpAny_truthy_bool (F,C,o)
inductive Mf(r':R2)(tc:TE)(σ:St)(Q:VK)(y:V)(z:V)(H3:Hp):Prop
 |mk (k:_) (_:z=.bl k) (_:(if k=true then tc σ H3 λw' H4=>r' y w' H4 Q else Q (.bl false) H3))
def HB(r:R2)(d:R2)(tc:TE)(σ:St)(Q:VK)(x:V):VK:=λy e=>r x y e (Mf d tc σ Q y)
def IV(r:R2)(d:R2)(tb:TE)(tc:TE)(σ:St)(Q:VK):VK:=λx e=>tb σ e (HB r d tc σ Q x)
def Q3(r e:R2)(ta tb tc:TE):TE:=λ d H Q=>ta d H (IV r e tb tc d Q)
theorem wB{j f:CmpOp}{r n:R2}(P:Us X (compareOp j) r)(l:Us X (compareOp f) n)(U:PE X a ta)(T:PE X b tb)(S:PE X c tc)
  (R:lastMarks [j,f] [b,c]=false:=by with_unfolding_all rfl):PT X (.Compare a [j,f] [b,c] pos) (Ml (Q3 r n ta tb tc)):=by
 intro i s g H Q I h;refine isTrue_chain (T7 (U i s g H _ I h) λv D ⟨x,H1,I1,J,N⟩=>test_link (T7 (T i D g H1 _ I1 N) λu C ⟨y,H2,I2,m,M⟩=>
  T7 (P i C g H2 x y v u _ I2 J m M) λd B ⟨z,q,p,G,k,e,o⟩=>?_)) R
 subst e;cases G;refine wpAny_truthy_bool ?_;cases k with
 |false=>
  obtain⟨k',W,O⟩:=o;cases W;exact ite_ff (q,p,O)
 |true=>
  refine ite_tt (test_last (T7 (S i B g q _ p o) λw A ⟨t,H4,Z,F,L⟩=>T7 (l i A g H4 y t u w _ Z m F L) λd' s5 ⟨z2,H5,Y,E,k2,V,K⟩=>?_));subst V;cases E;exact wpAny_truthy_bool (H5,Y,K)
theorem qO:(sizeLine:Nat)<2^63:=by rw[sizeLine_eq];decide
theorem iw:Us X (binaryOp .Add) (λx y H Q=>∃i j,x=.str i/\y=.str j/\i.length+j.length<=sizeLine/\Q (.str (i++j)) H):=by
 intro l s k H x y v u Q I f e h;obtain⟨i,j,rfl,rfl,g,q⟩:=h;obtain⟨t,rfl⟩:=f;obtain⟨d,rfl⟩:=e;exact add_str (λd m=>(.str (i++j),H,I.tok _,(_,7),q)) g
theorem vals1{x:V}{d:List Value}(r:Vals [x] d):∃u,d=[u]/\RelV x u:=by
 cases r with
 |cons f e=>cases e;exact(5,f)
theorem vals2{x y:V}{e:List Value}(r:Vals [x,y] e):∃u d,e=[u,d]/\RelV x u/\RelV y d:=by
 cases r with
 |cons i h=>
  cases h with
  |cons g f=>cases f;exact(_,5,i,g)
theorem rJ(e:X.calm=true):eU X (.builtin "min") (λxs H Q=>∃i j,xs=[.int i,.int j]/\Q (.int (if j<i then j else i)) H):=by
 intro g s f H xs m Q I r h;obtain⟨i,j,rfl,q⟩:=h;obtain⟨u,l,rfl,⟨t,rfl⟩,⟨o,rfl⟩⟩:=vals2 r;refine min_two_ints (I.ok.hd e) λp n k=>(_,H,I.kept k,8,q);by_cases d:j<i
 ·rw[if_pos d,if_pos d];exact(_,7)
 ·rw[if_neg d,if_neg d];exact(_,7)
end
structure Qv(h:Heap)(x dx C:Addr)(mA:Str->Option Value):Prop where
 obj:h.get? x=some (PySem.W.instObj C dx)
 ns:h.Ns1 dx mA
 ne:dx≠x
theorem Jg(n:h'.Ns1 a mg):∃d,h'.get? a=some d /\ ∀name,PySem.W.lookIn name d=some (mg name):=by
 obtain⟨o,f,m,i,hd,k,_,j⟩:=n;refine(o,i,λname=>?_);have e:=j name;unfold nsFind findBy at e;rw[<-Array.find?_toList]at e;unfold PySem.W.lookIn;rw[hd];dsimp only;split
 ·rename_i y q;rw[q]at e;exact congrArg some e
 ·rename_i q;rw[q]at e;have b:f.toList.any (·.refKey)=false:=by
   rw[List.any_eq_false];intro y g;obtain⟨z,t,c⟩:=k y (Array.mem_toList_iff.mp g);simp[DictEntry.refKey,c]
  have l:¬f.toList.any (·.refKey)=true:=by rw[b];exact aal
  rw[if_neg l];exact congrArg some e
theorem Qv.look{x C:Addr}(I:Qv h' x a C mg):∃b,PySem.W.InstAt h' x (PySem.W.instObj C a) C (some b) /\ ∀name,PySem.W.lookIn name b=some (mg name):=
 let ⟨b,ho,hl⟩:=Jg I.ns
 (b,(I.obj,7,7,ho),hl)
section
variable{x:Addr}{mA:Str->Option Value}{v:Value}
end
theorem v8.some_of{v:V}{o:Option Value}(r:v8 (some v) o):∃u,o=some u/\RelV v u:=by
 cases o with
 |none=>exact(show False from r).elim
 |some u=>exact(u,7,r)
section
variable{P:Program}{H H':Hp}{fs fs':List (Str×V)}
theorem N8(c:Uj P w H h)(e:H a=some (.ins C dx fs)):∃b,Qv h a dx C b/\(∀f,v8 (fs.lookup f) (b f))/\PySem.Within b (fs.map (·.1))/\fs.length<=1000/\H dx=some (.own a):=by
 obtain⟨d,z,i,g,b,n,r,q⟩:=(show bH P w H h a (.ins C dx fs)from c a _ e);exact(b,(g,n,i),r,q,z,d)
end
structure Zy(K:PySem.W.Frag)(C:Addr):Prop where
 pg:PySem.W.plainGet K C Str.empty=true
 hd:PySem.W.hasDictIn K C=true
 po:PySem.W.plainOver K C=true
 sa:PySem.W.findIn K (.ref C) "__setattr__" = some (some (.builtin "object.__setattr__"))
theorem Zy.get{C:Addr}(c:Zy K C)(f:Str):PySem.W.plainGet K C f=true:=c.pg
section
variable{X:Cx}{σ:St}{H:Hp}{fs:List (Str×V)}{f:Str}{v:V}
end
section
variable{X:Cx}{value:Expr}{f:Str}{pos pos' tpos:Pos}{ta tv:TE}
end
section
variable{X:Cx}{σ:St}{H:Hp}{Q:Value->Shared->Prop}{c:Value}{b:Bool}
inductive qM(K:PySem.W.Frag)(H:Hp):V->Value->Prop where
 | non:qM K H .non (.type "NoneType")
 | bl (x:Bool):qM K H (.bl x) (.type "bool")
 | int (i:Int):qM K H (.int i) (.type "int")
 | str (x:Str):qM K H (.str x) (.type "str")
 | flt (x:UInt64):qM K H (.flt x) (.type "float")
 | lst {a:Addr}{xs:List V} (e:H a=some (.lst xs)):qM K H (.ref a) (.type "list")
 | U4 {a:Addr}{o:Obj}{xs:List V} (e:H a=some (.U4 o (.lst xs))):qM K H (.ref a) (.type "list")
 | tup {a:Addr}{xs:List V} (e:H a=some (.tup xs)):qM K H (.ref a) (.type "tuple")
 | dK {a:Addr}{kvs:List (Key×V)} (e:H a=some (.dK kvs)):qM K H (.ref a) (.type "dict")
 | dT {a:Addr}{kvs:List (List Key×V)} (e:H a=some (.dT kvs)):qM K H (.ref a) (.type "dict")
 | ins {a C dx:Addr}{fs:List (Str×V)} (e:H a=some (.ins C dx fs)) (cl:Zy K C) (ha:PySem.W.findIn K (.ref C) "__class__" = some (some (.builtin "object.__class__")))
   (hn:PySem.W.specialIn K (.builtin "object.__class__") "__get__" = some (some (.builtin "getset_descriptor.__get__"))) (htk:PySem.W.takesIn K (.builtin "object.__class__")=some true)
   (hm:PySem.W.mroIn K C (.type "object")=some true):qM K H (.ref a) (.ref C)
theorem Ij{x:V}{u t:Value}(I:Inv X π σ H s)(d:RelV x u)(v:qM X.K H x t)(e:PySem.W.kitOne X.K t c=some b)(h:∀tk,Q (.bool b) {s with toks:=tk}):
  wpAny (model X.prog X.w) A (call (.builtin "isinstance") [u,c]) Q E s:=by
 cases v with
 |non=>cases (show u=Value.none from d);exact PySem.W.kia_one PySem.W.kitx_none I.UT True.intro e (λz=>nomatch z) h
 |bl y=>cases (show u=Value.bool y from d);exact PySem.W.kia_one PySem.W.kitx_bool I.UT True.intro e (λz=>nomatch z) h
 |int i=>obtain⟨t,q⟩:=(show ∃t,u=Value.int i t from d);cases q;exact PySem.W.kia_one PySem.W.kitx_int I.UT True.intro e (λz=>nomatch z) h
 |str y=>obtain⟨t,q⟩:=(show ∃t,u=Value.str y t from d);cases q;exact PySem.W.kia_one PySem.W.kitx_str I.UT True.intro e (λz=>nomatch z) h
 |flt y=>obtain⟨t,q⟩:=(show ∃t,u=Value.float y t from d);cases q;exact PySem.W.kia_one PySem.W.kitx_float I.UT True.intro e (λz=>nomatch z) h
 |@lst a k f=>
  cases (show u=Value.ref a from d);obtain⟨_,_,n,_,g⟩:=(show bH X.prog X.w H s.heap a (.lst k)from I.hok a _ f);exact PySem.W.kia_one PySem.W.kitx_list I.UT (_,g,7) e (λz=>nomatch z) h
 |@U4 a B k f=>
  cases (show u=Value.ref a from d);obtain⟨_,_,_,n,_,g⟩:=(show bH X.prog X.w H s.heap a (.U4 B (.lst k))from I.hok a _ f);exact PySem.W.kia_one PySem.W.kitx_list I.UT (_,g,7) e (λz=>nomatch z) h
 |@tup a k f=>
  cases (show u=Value.ref a from d);obtain⟨_,_,_,p⟩:=(show bH X.prog X.w H s.heap a (.tup k)from I.hok a _ f);obtain⟨o,g,l,_⟩:=p;exact PySem.W.kia_one PySem.W.kitx_tuple I.UT (o,g,l) e (λz=>nomatch z) h
 |@dK a j f=>
  cases (show u=Value.ref a from d);obtain⟨_,_,N,_,p⟩:=(show bH X.prog X.w H s.heap a (.dK j)from I.hok a _ f);obtain⟨o,L,M,g,l,_⟩:=p;exact PySem.W.kia_one PySem.W.kitx_dict I.UT (o,g,l.1) e (λz=>nomatch z) h
 |@dT a j f=>
  cases (show u=Value.ref a from d);obtain⟨_,_,k,_,o,L,M,g,l,_⟩:=(show bH X.prog X.w H s.heap a (.dT j)from I.hok a _ f);exact PySem.W.kia_one PySem.W.kitx_dict I.UT (o,g,l.1) e (λz=>nomatch z) h
 |@ins a C T S f r G D m F=>
  cases (show u=Value.ref a from d);obtain⟨R,O,_⟩:=N8 I.hok f;obtain⟨P,J,_⟩:=O.look;exact PySem.W.kia_one (PySem.W.kitx_own (r.get _) r.hd G D m F) I.UT J e (λz=>nomatch z) h
end
structure dX(k:Nat)(A:Around):Prop where
 hd:A.handled=none
 dp:A.depth+3*k+5<recursionLimit
 un:A.units+16*k+200<cLine
theorem dX.mono{j k:Nat}{A:Around}(r:dX k A)(h:j<=k):dX j A:=(r.hd,by have:=r.dp;lia,by have:=r.un;lia)
theorem dX.deeper{k:Nat}{A:Around}(r:dX (k+1) A)(a:Env):dX k (A.deeper a):=
 (r.hd,by have:=r.dp;show A.depth+1+3*k+5<_;lia,by have:=r.un;show A.units+3+16*k+200<_;lia)
theorem dX.depth{k:Nat}{A:Around}(r:dX k A):A.depth<recursionLimit:=by have:=r.dp;lia
theorem dX.units{k:Nat}{A:Around}(r:dX k A):A.units+64<cLine:=by have:=r.un;lia
def R8:TA:=λ_ H Q=>Q [] H
def Li(Q:List V->Hp->Prop)(x:V):List V->Hp->Prop:=λa b=>Q (x::a) b
def Kr(a:TA)(σ:St)(Q:List V->Hp->Prop):VK:=λx b=>a σ b (Li Q x)
def Lg(c:TE)(b:TA):TA:=λ a H Q=>c a H (Kr b a Q)
section
variable{X:Cx}{es:List Expr}{te:TE}{t:TA}{pos:Pos}
theorem aa:PA X [] R8:=λ_ _ _ _ H Q I h=>Calls.spliced_nil ([],H,I,.nil,h)
theorem ak(m:PE X e te)(l:PA X es t)(k:starEach (e::es) X.env=(pq false (eval e X.env))::starEach es X.env:=by rfl):PA X (e::es) (Lg te t):=by
 intro pos b s a H Q I h;rw[k];show wpAny _ _ (spliced ((pq false (eval e X.env))::backTo pos (starEach es X.env))) _ _ s;refine Calls.spliced_cons (T7 (m b s a H _ I h) λu d ⟨x,q,o,g,j⟩=>?_);exact T7 (l pos b d a q _ o j) λr v ⟨c,p,n,f,i⟩=>(x::c,p,n,.cons g f,i)
def Oc(Q:VK):List V->Hp->Prop:=λa b=>a.length<=sizeLine /\ ∀p,b p=none->Q (.ref p) (upd b p (.tup a))
def Tt(t:TA):TE:=λ a H Q=>t a H (Oc Q)
def NT(Q:VK):List V->Hp->Prop:=λa b=>a.length<=sizeLine /\ ∀p,b p=none->Q (.ref p) (upd b p (.lst a))
def R1(t:TA):TE:=λ a H Q=>t a H (NT Q)
theorem b8{x1}(h:PA X es t):PE X (.Tuple es x1 pos) (Tt t):=by
 intro g s f H Q I k;refine wpAny_Tuple_spliced (T7 (h pos g s f H _ I k) λj a ⟨i,d,c,r,z,q⟩=>(by rw[<-r.length];exact z,8));have l:d a.heap.objs.size=none:=c.hok.fresh (aac _);refine(.ref a.heap.objs.size,upd d a.heap.objs.size (.tup i),c.laid (t':=a.toks) (λb u e=>Heap.get?_push_of_some _ e) (aac _) ?_,7,q _ l);exact(z,j,r,(_,Heap.get?_push_size _ rfl,7,5))
theorem bQ(h:PA X es t):PE X (.List es pos) (R1 t):=by
 intro g s f H Q I k;refine wpAny_List_spliced (T7 (h pos g s f H _ I k) λj a ⟨i,d,c,r,z,q⟩=>(by rw[<-r.length];exact z,8));have l:d a.heap.objs.size=none:=c.hok.fresh (aac _);refine(.ref a.heap.objs.size,upd d a.heap.objs.size (.lst i),c.laid (t':=a.toks) (λb u e=>Heap.get?_push_of_some _ e) (aac _) ?_,7,q _ l);exact(z,j,0,r,Heap.get?_push_size _ rfl)
end
abbrev Sp:=List V->Hp->VK->XK->Prop
abbrev Vc:=List Env->Hp->Shared->XK->Value->Shared->Prop
variable{X:Cx}{H H':Hp}{σ:St}{ta tb te:TE}{t:TA}{sp:Sp}{CX:Vc}{j:List V}{B:Addr->Hp->Prop}
structure Ek(P:Program)(w:World)(K:PySem.W.Frag)(mg:Str->Option Value)(base:Heap)(A:Around)(outer:List Env)(s:Shared)(H:Hp):Prop where
 frames:A.frames=some outer
 mod:Mod K mg base
 bs:∀b o,base.get? b=some o->s.heap.get? b=some o/\H b=none
 Vj:base.objs.size<=s.heap.objs.size
 funs:s.heap.FunFrames base outer
 Vt:∀b∈frs outer,H b=none
 hok:Uj P w H s.heap
 bare:AllBare s.gens
inductive CE(outer:List Env)(P:Program)(w:World)(H:Hp)(s:Shared)(Q:VK)(u:Value)(s':Shared):Prop
 | mk (v H':_) (_:s'.os=s.os) (_:AllBare s'.gens) (_:Un (frs outer) [] H H' s.heap s'.heap) (_:Uj P w H' s'.heap) (_:RelV v u) (_:Q v H')
def CR(c:Vc)(a:List Env)(P:Program)(w:World)(H:Hp)(s:Shared)(Q:VK)(E:XK)(r:Result)(b:Shared):Prop:=
 match r with
 |.ok (.ret u)=>CE a P w H s Q u b
 |.ok _=>False
 |.error e=>c a H s E e b
structure aV(P:Program)(w:World)(K:PySem.W.Frag)(mg:Str->Option Value)(base:Heap)(CX:Vc)(k:Nat)(f:Addr)(fd:FuncData)(ps:List Str)(sp:Sp):Prop where
 len:∀vs H Q E,sp vs H Q E->vs.length=ps.length
 run:∀(A:Around) (outer:List Env) (s:Shared) (H:Hp) (args:Args) (us:List Value) (vs:List V) (Q:VK) (E:XK),dX k A->Ek P w K mg base A outer s H->BindsTo s fd args (ps.zip us)->Vals vs us->sp vs H Q E ->
  codeAny (model P w) A (.call (.ref f) args) (CR CX outer P w H s Q E) s
theorem aV.mono{P:Program}{w:World}{K:PySem.W.Frag}{mg:Str->Option Value}{base:Heap}{d:Vc}{j k:Nat}{f:Addr}{fd:FuncData}{ps:List Str}{c:Sp}(F:aV P w K mg base d j f fd ps c)(h:j<=k):
  aV P w K mg base d k f fd ps c:=(F.len,λA a s H b g e Q E i=>F.run A a s H b g e Q E (i.mono h))
section
variable{s':Shared}
theorem Inv.env0(I:Inv X π σ H s):Ek X.prog X.w X.K X.mg X.base X.A X.stack s H:=
 (I.ok.frames,I.ok.mod,I.bs,aeY I.ok.Vj I.sz,I.stack,I.stkFree,I.hok,I.bare)
theorem Inv.after{Q:VK}{u:Value}(I:Inv X π σ H s)(h:CE X.stack X.prog X.w H s Q u s'):EP X π σ Q u s':=by
 obtain⟨v,k,i,a,f,e,r,q⟩:=h;obtain⟨j,g,d,t,c⟩:=s';obtain rfl:c=s.os:=i;exact(v,k,I.call (h':=j) (g':=g) (d':=d) (t':=t) (ch:=[]) f e a (λb z=>absurd z (by simp)),r,q)
end
def Le(b:Sp)(c:List V)(E:XK)(Q:VK):List V->Hp->Prop:=λa d=>b (a++c) d Q E
def KD(b:Sp)(c:List V)(E:XK)(t:TA):TE:=λ a H Q=>t a H (Le b c E Q)
def Binds(K:PySem.W.Frag)(fd:FuncData)(ps:List Str)(b:List Value):Prop:=
 ∀(s:Shared) (a:List Value),K.In s.heap->(a++b).length=ps.length->BindsTo s fd (a,[]) (ps.zip (a++b))
theorem Binds.all{fd:FuncData}{ps:List Str}(h:∀a:List Value,a.length=ps.length->bindArgs fd (a,[])=pure (ps.zip a)):Binds K fd ps []:=λs a _ b=>by
 rw[ag3]at b ⊢;exact .of_eq (h a b)
def nR(d:Vc)(X:Cx)(E:XK):Prop:=∀(c:List (Addr×Obj)) (b:St) (H:Hp) (s:Shared) (e:Value) (a:Shared),Inv X c b H s->d X.stack H s E e a->X.xe e a
section
variable{k:Nat}{VM:List V}{ds:List Value}{E:XK}{m:Str}{pos:Pos}{es:List Expr}
theorem Rn{σ:St}{s:Shared}{Q:VK}{a:List Value}(F:aV X.prog X.w X.K X.mg X.base CX k f fd ps sp)(i:dX k X.A)(n:Binds X.K fd ps ds)(hd:Vals VM ds)(g:nR CX X E)
  (I:Inv X π σ H s)(r:Vals j a)(h:sp (j++VM) H Q E):wpAny (model X.prog X.w) X.A (call (.ref f) a) (EP X π σ Q) X.xe s:=by
 have c:Vals (j++VM) (a++ds):=r.append hd;have l:(a++ds).length=ps.length:=by rw[<-c.length];exact F.len _ _ _ _ h
 refine wpAny_call (codeAny_mono (F.run X.A X.stack s H (a,[]) (a++ds) (j++VM) Q E i I.env0 (n s a I.UT l) c h) λr d b=>?_);cases r with
 |error e=>exact g π σ H s e d I b
 |ok q=>
  cases q with
  |ret u=>exact I.after b
  |next=>exact False.elim b
  |brk=>exact False.elim b
  |cont=>exact False.elim b
theorem Nm(F:aV X.prog X.w X.K X.mg X.base CX k f fd ps sp)(j:dX k X.A)(u:Gl X x)(l:X.mg x=some (.ref f))(n:PySem.W.keepIn X.K (.ref f)=true)(y:Binds X.K fd ps ds)(hd:Vals VM ds)(i:nR CX X E)
  (z:PA X (e::es) t)(b:(x==("__debug__" : Str))=false:=by decide)(v:starEach (e::es) X.env=(pq false (eval e X.env))::starEach es X.env:=by rfl)(a:(backTo pos (starEach es X.env)).any (·.1)=false:=by rfl):
  PE X (.Call (.Name x p) (e::es) [] pos) (KD sp VM E t):=by
 intro g s d H Q I h;refine wpAny_Call_Name_kw (ul I u l ?_ b);refine PySem.W.callWith_K (h₀:=X.base) I.ok.mod.Xp n (T7 (z pos g s d H _ I h) λD G ⟨B,J,c,r,q⟩=>(c.UT,8)) v a;exact Rn F j y hd i c r q
end
section
variable{k:Nat}{ks:List Str}{E:XK}{m:Str}{pos kpos:Pos}{es:List Expr}{kws:List Keyword}{tk:TA}{nm:Option Str}
variable{g:List Value->List Value->List Value}{gV:List V->List V->List V}
end
structure aC(N P:List Str)(sc:Scope):Prop where
 kind:sc.kind=.function
 co:sc.isCoroutine=false
 gen:sc.isGenerator=false
 nd:N.Nodup
 pre:N.take P.length=P
 Wc:∀x∈P,sc.names.lookup x=some .local\/sc.names.lookup x=some .cell
 nofree:∀y∈sc.names,y.2 ≠ .free
def scB(N P:List Str)(a:Scope):Bool:=decide (a.kind=.function)&&(!a.isCoroutine&&(!a.isGenerator&&(decide N.Nodup&&(decide (N.take P.length=P)&&(P.all (λx=>decide (a.names.lookup x=some .local\/a.names.lookup x=some .cell))&&a.names.all λy=>decide (y.2 ≠ .free))))))
theorem Ua{N :List Str}(h:scB N ps scope=true:=by decide +kernel):aC N ps scope:=by
 simp only[scB,ahP,decide_eq_true_eq,ahi,aje]at h;exact(h.1,h.2.1,h.2.2.1,h.2.2.2.1,h.2.2.2.2.1,h.2.2.2.2.2.1,h.2.2.2.2.2.2)
theorem xW{a:Str->Option NameKind}{x:Str}:∀{binds:List (Str×Value)} {m:Str->Option Value},(∀v,(pq x v)∉binds)->bindL a binds m x=m x
 |[],_,_=>rfl
 |(n,v)::r,m,h=>by
  unfold bindL;rw[xW λw b=>h w (aaC _ b)];split
  ·have:x≠n:=by rintro rfl;exact h v aaL
   simp[this]
  ·rfl
theorem yj{a:Str->Option NameKind}{x:Str}:∀{binds:List (Str×Value)} {m:Str->Option Value},(∀v,(pq x v)∉binds)->bindC a binds m x=m x
 |[],_,_=>rfl
 |(n,v)::r,m,h=>by
  unfold bindC;rw[yj λw b=>h w (aaC _ b)];split
  ·rfl
  ·have:x≠n:=by rintro rfl;exact h v aaL
   simp[this]
theorem yt{a:Str->Option NameKind}{x:Str}{v:Value}:∀{P:List Str}{b:List Value}{i:Nat}{m:Str->Option Value},P.Nodup->P[i]?=some x->b[i]?=some v->a x=some .local ->
  bindL a (P.zip b) m x=some v
 |[],_,_,_,_,h,_,_=>by simp at h
 |_::_,[],_,_,_,_,h,_=>by simp at h
 |p::P,w::b,0,m,e,d,c,f=>by
  simp at d c;subst d;subst c;show bindL a ((pq p w)::P.zip b) m p=_;unfold bindL;rw[xW λv g=>(agT.mp e).1 (ahC g).1,if_pos f];simp
 |p::P,w::b,i+1,m,e,d,c,f=>by
  show bindL a ((pq p w)::P.zip b) m x=_;unfold bindL;exact yt (i:=i) (agT.mp e).2 (by simpa using d) (by simpa using c) f
theorem xX{a:Str->Option NameKind}{x:Str}{v:Value}:∀{P:List Str}{b:List Value}{i:Nat}{m:Str->Option Value},P.Nodup->P[i]?=some x->b[i]?=some v->a x≠some .local ->
  bindC a (P.zip b) m x=some v
 |[],_,_,_,_,h,_,_=>by simp at h
 |_::_,[],_,_,_,_,h,_=>by simp at h
 |p::P,w::b,0,m,e,d,c,f=>by
  simp at d c;subst d;subst c;show bindC a ((pq p w)::P.zip b) m p=_;unfold bindC;rw[yj λv g=>(agT.mp e).1 (ahC g).1,if_neg f];simp
 |p::P,w::b,i+1,m,e,d,c,f=>by
  show bindC a ((pq p w)::P.zip b) m x=_;unfold bindC;exact xX (i:=i) (agT.mp e).2 (by simpa using d) (by simpa using c) f
def start(N:List Str)(a:List V):St:=a.map some++aaA (N.length-a.length) none
def gW(h:Vc)(P:Program)(w:World)(K:PySem.W.Frag)(mg:Str->Option Value)(base:Heap)(N:List Str)(c:Str)(a:Scope)(f:Addr)(g:Value)(A:Around)(b:List Env)(s:Shared)(H:Hp)(E:XK):Cx where
 prog:=P
 w:=w
 K:=K
 mg:=mg
 base:=base
 A:=A.deeper (envOfC c a s.heap.objs.size f g)
 N:=N
 s₀:=s
 H₀:=H
 env:=envOfC c a s.heap.objs.size f g
 outer:=b
 stack:=envOfC c a s.heap.objs.size f g::b
 ex:=[]
 calm:=true
 fn:=λ_=>true
 pn:=[]
 xe:=λe i=>wpAny (model P w) (A.deeper (envOfC c a s.heap.objs.size f g)) (leaving (envOfC c a s.heap.objs.size f g) e) (λ_ d=>h b H s E e d) (λj d=>h b H s E j d) i
theorem Bc{n:Nat}{x:Str}(h:scope.names.lookup x=some .cell):∃c,(cellsFrom n scope.names []).lookup x=some c:=by
 have q:=PySem.W.cellsFrom_some scope.names n [] (.inl h);exact aiw.mp q
theorem xV{w:World}{mg:Str->Option Value}{base:Heap}{N ps:List Str}{f:Addr}{A:Around}{s F:Shared}{E:XK}{C:List Value}
  (S:aC N ps scope)(hd:A.handled=none)(l:Ek prog w K mg base A outer s H)(R:j.length=ps.length)(r:Vals j C)
  (x:InCallC s s.heap.objs.size (bindL (envOfC qual scope s.heap.objs.size f q).kindOf (ps.zip C) λ_=>none) (cellsFrom (s.heap.objs.size+1) scope.names []) (bindC (envOfC qual scope s.heap.objs.size f q).kindOf (ps.zip C) λ_=>none) F):
  Inv (gW CX prog w K mg base N qual scope f q A outer s H E) [] (start N j) H F:=by
 have O:ps.length<=N.length:=by have:=congrArg ahp S.pre;rw[aaz]at this;lia
 obtain⟨B,Q,rfl,I⟩:=x.done;have D:∀b:Addr,b∉(gW CX prog w K mg base N qual scope f q A outer s H E).ex:=λb z=>absurd (show b∈([]:List Addr)from z) (by simp);refine((l.mod,S.kind,7,7,aac _,λy z c B g=>?_,λy m=>?_,λy c _ h=>?_,λ_=>hd,Around.frames_deeper l.frames,.inr (7,7),λb z=>absurd z (D b),l.bs,l.Vj,λb _ _=>D b,λb z=>absurd z (D b),l.funs,l.Vt),
  rfl,l.bare,Un.kept I,(_,x.toInCall.ns,λi y v B g T=>?_),λy c h=>(_,x.cell y c h),l.hok.fresh (aac _),λy c h=>?_,λp o=>absurd (show p∈([]:List (Addr×Obj))from o) (by simp),l.hok.kept I,8)
 ·exact name_of_addr x.apart (PySem.mem_of_lookup B) (PySem.mem_of_lookup g)
 ·have m:scope.names.lookup y=some .cell\/scope.names.lookup y=some .free:=m;rcases m with m|m
  ·exact Bc m
  ·exact absurd rfl (S.nofree _ (PySem.mem_of_lookup m))
 ·exact agu (x.above y c (PySem.mem_of_lookup h))
 ·have t:i<j.length:=by
   unfold start at g;by_cases t:i<j.length
   ·exact t
   ·rw[aap (by simpa using t)]at g;rw[agY]at g;split at g<;>cases g
  have M:j[i]?=some v:=by
   unfold start at g;rw[aaw (by simpa using t),aag]at g;cases e:j[i]? with
   |none=>rw[e]at g;cases g
   |some a=>rw[e]at g;cases g;rfl
  obtain⟨u,G,L⟩:=r.get M;have o:ps[i]?=some y:=by
   rw[<-S.pre,adI ⋯];exact B
  have J:ps.Nodup:=by rw[<-S.pre];exact S.nd.sublist (ag2 _ _)
  exists u,L;rcases S.Wc y (aah o)with k|k
  ·exact .inl (k,yt J o G k)
  ·obtain⟨c,e⟩:=Bc (n:=s.heap.objs.size+1) k;refine .inr (.inl k,c,e,8);have d:=x.cell y c e;rw[xX J o G (by show scope.names.lookup y≠_;rw[k];decide)]at d;exact d
 ·exact l.hok.fresh (agu (x.above y c (PySem.mem_of_lookup h)))
 ·unfold start;show _=N.length;rw[aae,aaa,aba];lia
theorem PB{w:World}{mg:Str->Option Value}{base:Heap}{k:Nat}{f:Addr}{name :Str}{h:Arguments}{i:List Stmt}{kV G Y g Z oc:Value}{an od:Option Addr}
  {R:Array (Option Value)}{N ps:List Str}(lk:K.lookup f=some (oc,od,.func (PySem.W.fnOf name x h i scope q kV G Y an g Z),R))(U:PySem.W.codeIn K g x=true)(S:aC N ps scope)
  (C:∀j H Q E,sp j H Q E->j.length=ps.length)
  (p:∀(A:Around) (d:List Env) (s:Shared) (H:Hp) (j:List V) (Q:VK) (E:XK),dX k (A.deeper (envOfC x scope s.heap.objs.size f g))->sp j H Q E ->
   ∃t,U5 (gW CX prog w K mg base N x scope f g A d s H E) i t/\t {nx:=λ_ H'=>Q .non H',rt:=Q} (start N j) H):
  aV prog w K mg base CX (k+1) f (PySem.W.fnOf name x h i scope q kV G Y an g Z) ps sp:=by
 refine(C,λA d s H a0 us j Q E O B hb r D=>?_);have hl:=C _ _ _ _ D;have KX:K.In s.heap:=B.mod.Xp.keeps λb o e=>(B.bs b o e).1;have T:s.heap.NoLimit:=B.mod.nolimit.keeps λb o e=>(B.bs b o e).1;have m:∀y∈ps.zip us,scope.names.lookup y.1=some .local\/(scope.names.lookup y.1=some .cell/\((cellsFrom (s.heap.objs.size+1) scope.names []).lookup y.1).isSome=true):=λ⟨n,v⟩ hy=>by
  rcases S.Wc n (ahC hy).1 with a|a
  ·exact .inl a
  ·exact .inr (a,PySem.W.cellsFrom_some _ _ _ (.inl a))
 refine codeAny_call_function O.depth (KX _ _ lk) rfl S.co S.gen rfl (PySem.W.codeRec_of KX U) (hb _ _ _ _ ?_);refine wpAny_newFunctionEnv_cells S.kind m λa1 he X c=>?_;subst he;refine(T.keeps c.toInCall.keep,codeAny_func ?_);obtain⟨t,ht,hq⟩:=p A d s H j Q E (O.deeper _) D;have I:Inv (gW CX prog w K mg base N x scope f g A d s H E) [] (start N j) H X:=xV S O.hd B hl r c;refine wpAny_mono (ht [] X (start N j) H _ I hq) (λfl L z=>?_) λe L z=>z;have F:∀{l:St}{H':Hp}{v:V}{u:Value},Inv (gW CX prog w K mg base N x scope f g A d s H E) [] l H' L->RelV v u->Q v H'->CE d prog w H s Q u L:=
  λ{l H' v u} J M a=>(v,H',J.os,J.bare,J.base,J.hok,M,a)
 cases fl with
 |ret u=>
  obtain⟨v,l,H',J,M,a⟩:=z;exact F J M a
 |next=>
  obtain⟨l,H',J,a⟩:=z;exact F (v:=V.non) (u:=Value.none) J rfl a
 |brk=>
  obtain⟨_,_,_,a⟩:=z;exact False.elim a
 |cont=>
  obtain⟨_,_,_,a⟩:=z;exact False.elim a
section
variable{pos:Pos}{es:List Expr}{id T:String}{r:List V->Hp->VK->Prop}
def P0(r:List V->Hp->VK->Prop)(Q:VK):List V->Hp->Prop:=λa b=>r a b Q
def tCB(r:List V->Hp->VK->Prop)(t:TA):TE:=λ a H Q=>t a H (P0 r Q)
theorem aJ(u:eU X (.builtin id) r)(o:Gl X x)(n:X.mg x=none)(l:bootBuiltins x=some (.builtin id))(v:PA X (e::es) t)(m:x ≠ "__name__":=by decide)(b:(x==("__debug__" : Str))=false:=by decide)
  (q:starEach (e::es) X.env=(pq false (eval e X.env))::starEach es X.env:=by rfl)(a:(backTo pos (starEach es X.env)).any (·.1)=false:=by rfl):PE X (.Call (.Name x p) (e::es) [] pos) (tCB r t):=by
 intro d s c H Q I h;refine wpAny_Call_Name_kw (dH I o n l ?_ m b);exact PyProof.Rows.callWith_builtin1 (T7 (v pos d s c H _ I h) λg i ⟨f,y,w,j,k⟩=>u d i c y f g Q w j k) q a
theorem cV(u:eU X (.type T) r)(o:Gl X x)(n:X.mg x=none)(l:bootBuiltins x=some (.type T))(v:PA X (e::es) t)(m:x ≠ "__name__":=by decide)(b:(x==("__debug__" : Str))=false:=by decide)
  (q:starEach (e::es) X.env=(pq false (eval e X.env))::starEach es X.env:=by rfl)(a:(backTo pos (starEach es X.env)).any (·.1)=false:=by rfl):PE X (.Call (.Name x p) (e::es) [] pos) (tCB r t):=by
 intro d s c H Q I h;refine wpAny_Call_Name_kw (dH I o n l ?_ m b);exact PyProof.Rows.callWith_type1 (T7 (v pos d s c H _ I h) λg i ⟨f,y,w,j,k⟩=>u d i c y f g Q w j k) q a
end
end L2
section
open PySem L2
variable{s:Shared}{w:World}{A:Around}{E:Value->Shared->Prop}{prog:Program}{π:List (Addr×Obj)}{e o b tg:Expr}{K:PySem.W.Frag}{a f C S c dx Pt:Addr}{h' base h:Heap}{mg:Str->Option Value}{x qual name:Str}{N ps:List Str}{scope:Scope}{fd:FuncData}{p apos:Pos}{st:Stmt}{outer:List Env}{n i R:Nat}{d J:List Int}{g:List Addr}{l:Array Keyed}{m:Int}{q:Value}{r:List Value}{u:List Expr}{v:List (Str×Addr)}{y:Array Value}{z:List Nat}{D:List (Str×Nat)}{G:Option Value->Shared->Prop}{I:SortSt}{M:List (List Nat)}{O:Type}{Q:SetTable}{T:Value->Addr->Result->Shared->Prop}{Y:List (Int×Value)}{Z:Option Nat->SortSt->Prop}{X:Cx}{H H':Hp}{σ:St}{ta tb te:TE}{t:TA}{sp:Sp}{CX:Vc}{j:List V}{B:Addr->Hp->Prop}
namespace HT
open PyProof.Rows
section
open PySem.SeqAt
open PySem.AutoSeq1 (wpAny_loadPart')
open PySem.MeetsSeq PySem.MeetsSeq2 PySem.MeetsSeq3
end
def Ut(n d:Nat):Option Int->Nat
 |none=>d
 |some v=>if v<0 then (v+(n:Int)).toNat else min v.toNat n
theorem jN(n d:Nat):Ut n d none=d:=rfl
theorem ie(n d k:Nat):Ut n d (some (k:Int))=min k n:=by
 show (if (k:Int)<0 then ((k:Int)+(n:Int)).toNat else min (k:Int).toNat n)=min k n;rw[if_neg ⋯,abG]
theorem QM(n d:Nat)(hd:d<=n)(o:Option Int):Ut n d o<=n:=by
 cases o with
 |none=>exact hd
 |some v=>
  show (if v<0 then (v+(n:Int)).toNat else min v.toNat n)<=n;by_cases a:v<0
  ·rw[if_pos a];lia
  ·rw[if_neg a];exact Nat.min_le_right _ _
end HT
namespace L2
open PySem.Spec PyProof.Rows
abbrev TO:=St->Hp->(Option Int->Hp->Prop)->Prop
def PO(X:Cx)(e:Option Expr)(t:TO):Prop:=
 ∀(b:List (Addr×Obj)) (s:Shared) (a:St) (H:Hp) (Q:Option Int->Hp->Prop),Inv X b a H s->t a H Q ->
  wpAny (model X.prog X.w) X.A (evalPart e X.env) (λu d=>∃o c,Inv X b a c d/\IsPart u o/\Q o c) X.xe s
def Oi:TO:=λ_ H Q=>Q none H
inductive Oq(Q:Option Int->Hp->Prop)(x:V)(H1:Hp):Prop
 | mk (i:_) (_:x=.int i) (_:Q (some i) H1)
def Sv(t:TE):TO:=λ a H Q=>t a H (Oq Q)
theorem intsAre_of:∀{a:List Value},Vals (d.map V.int) a->IntsAre a d:=by
 induction d with
 |nil=>intro a r;rw[air]at r;cases r;exact .nil
 |cons n d f=>
  intro a r;rw[aar]at r;cases r with
  |cons c b=>
   obtain⟨t,e⟩:=c;subst e;exact .cons n t (f b)
section
variable{lo hi:Option Expr}{tl th:TO}{pos p2:Pos}
theorem fM:PO X none Oi:=by
 intro b s a H Q I h;rw[evalPart_none];exact wpAny_pure (none,H,I,.none,h)
theorem cO(h:PE X e te):PO X (some e) (Sv te):=by
 intro b s a H Q I f;rw[evalPart_some];refine T7 (h b s a H _ I f) λu k ⟨x,j,g,c,d⟩=>?_;obtain⟨i,rfl,q⟩:=d;obtain⟨t,rfl⟩:=c;exact(some i,j,g,.int i t,q)
def Yv(X:Cx)(r:V->Option Int->Option Int->Hp->VK->Prop):Prop:=
 ∀(b:List (Addr×Obj)) (s:Shared) (a:St) (H:Hp) (x:V) (v d c:Value) (lo hi:Option Int) (f:Addr) (Q:VK),Inv X b a H s->RelV x v->s.heap.IsSliceOf f d c .none->IsPart d lo->IsPart c hi->r x lo hi H Q ->
  ∃T g,typeLookup (.type T) "__getitem__" = pure (some (.builtin g))/\s.TypeIs v T/\wpAny (model X.prog X.w) X.A (getItem v (.ref f)) (EP X b a Q) X.xe s
def QC(r:V->Option Int->Option Int->Hp->VK->Prop)(Q:VK)(x:V)(l:Option Int):Option Int->Hp->Prop:=λu a=>r x l u a Q
def Qp(r:V->Option Int->Option Int->Hp->VK->Prop)(th:TO)(σ:St)(Q:VK)(x:V):Option Int->Hp->Prop:=λl a=>th σ a (QC r Q x l)
def Q7(r:V->Option Int->Option Int->Hp->VK->Prop)(tl:TO)(th:TO)(σ:St)(Q:VK):VK:=λx a=>tl σ a (Qp r th σ Q x)
def tSl(r:V->Option Int->Option Int->Hp->VK->Prop)(te:TE)(tl th:TO):TE:=λ a H Q=>te a H (Q7 r tl th a Q)
theorem cG{r:V->Option Int->Option Int->Hp->VK->Prop}(B:Yv X r)(E:PE X e te)(C:PO X lo tl)(z:PO X hi th):PE X (.Subscript e (.Slice lo hi none p2) pos) (tSl r te tl th):=by
 intro d s c H Q I h;refine Subscript_ (T7 (E d s c H _ I h) λv k ⟨x,N,L,m,p⟩=>?_);refine wpAny_Slice (T7 (C d k c N _ L p) λg j ⟨l,M,K,y,o⟩=>T7 (z d j c M _ K o) λf a ⟨u,i,J,t,n⟩=>?_);rw[evalPart_none];refine wpAny_pure ?_
 have G:Inv X d c i {a with heap:=a.heap.push {cls:=.type "slice",data:=.fields #[g,f,.none]}}:=J.kept (t':=a.toks) λb O q=>Heap.get?_push_of_some _ q
 obtain⟨T,P,F,ht,D⟩:=B d {a with heap:=a.heap.push {cls:=.type "slice",data:=.fields #[g,f,.none]}} c i x v g f l u a.heap.objs.size Q G m (Heap.IsSliceOf.new ..) y t n
 show wpAny (model X.prog X.w) X.A (subscriptTail e (.Slice lo hi none p2) v (.ref a.heap.objs.size)) (EP X d c Q) X.xe {a with heap:=a.heap.push {cls:=.type "slice",data:=.fields #[g,f,.none]}}
 exact tail_any (ops:=[.ref a.heap.objs.size,v]) ht F D (by with_unfolding_all rfl)
def cR(xs:List V)(lo hi:Option Int):List V:=(xs.drop (HT.Ut xs.length 0 lo)).take (HT.Ut xs.length xs.length hi-HT.Ut xs.length 0 lo)
theorem sW(xs:List V)(lo hi:Option Int):(cR xs lo hi).length<=xs.length:=by
 unfold cR;rw[aaz,abo];lia
end
def VD(n:Nat)(i:Int):Option Nat:=if 0<=i then (if i<n then some i.toNat else none)else if -(n:Int)<=i then some (i+n).toNat else none
def Ux{a:Type}(xs:List a)(i:Int):Option a:=(VD xs.length i).bind λj=>xs[j]?
theorem Gq{n:Nat}{i:Int}{j:Nat}(h:VD n i=some j):seqIndex? i n=some j/\j<n /\ -(n:Int)<=i/\i<n:=by
 unfold VD at h;by_cases b:0<=i
 ·rw[if_pos b]at h;by_cases a:i<n
  ·rw[if_pos a]at h;have e:i.toNat=j:=aax h;exact(by rw[seqIndex_of b a,e],9,9,a)
  ·rw[if_neg a]at h;cases h
 ·rw[if_neg b]at h;by_cases a : -(n:Int)<=i
  ·rw[if_pos a]at h;have e:(i+n).toNat=j:=aax h;exact(by rw[seqIndex_neg ⋯ a,e],9,a,9)
  ·rw[if_neg a]at h;cases h
theorem zY{xs:List O}{i:Int}{v:O}(h:Ux xs i=some v):∃j,seqIndex? i xs.length=some j/\xs[j]?=some v/\j<xs.length /\ -(xs.length:Int)<=i/\i<xs.length:=by
 unfold Ux at h;cases e:VD xs.length i with
 |none=>rw[e]at h;cases h
 |some j=>
  rw[e]at h;obtain⟨d,c,b,a⟩:=Gq e;exact(j,d,h,c,b,a)
theorem mR{xs:List O}{j:Nat}{v:O}(h:xs[j]?=some v):Ux xs (j:Int)=some v:=by
 have a:j<xs.length:=(aab.mp h).1;have e:VD xs.length (j:Int)=some j:=by
  unfold VD;rw[if_pos ⋯,if_pos ⋯];simp
 unfold Ux;rw[e];exact h
theorem lE(xs:List O)(v:O):Ux (xs++[v]) (-1)=some v:=by
 have a:(xs++[v]).length=xs.length+1:=by simp
 have e:VD (xs++[v]).length (-1)=some xs.length:=by
  unfold VD;rw[a,if_neg ∅,if_pos ⋯];congr 1;lia
 unfold Ux;rw[e];show (xs++[v])[xs.length]?=some v;simp
def NZ(b:Expr):Prop:=∀o i,subscripted b false o i=operate [o,i] (getItem o i)
def Yw(X:Cx)(r:R2):Prop:=
 ∀(b a:Expr) (d:List (Addr×Obj)) (s:Shared) (c:St) (H:Hp) (x y:V) (v u:Value) (Q:VK),Inv X d c H s->RelV x v->RelV y u->r x y H Q ->
  subscripted a false v u=operate [v,u] (getItem v u)->wpAny (model X.prog X.w) X.A (subscriptTail b a v u) (EP X d c Q) X.xe s
def Yx(X:Cx)(id:String)(r:V->List V->Hp->VK->Prop):Prop:=
 ∀(b:List (Addr×Obj)) (s:Shared) (a:St) (H:Hp) (x:V) (c:List V) (v:Value) (d:List Value) (Q:VK),Inv X b a H s->RelV x v->Vals c d->r x c H Q ->
  wpAny (model X.prog X.w) X.A (call (.builtin id) (v::d)) (EP X b a Q) X.xe s
section
variable{a:Expr}{pos:Pos}
theorem aW{r:R2}(j:Yw X r)(l:PE X a ta)(k:PE X b tb)(i:NZ b:=by exact λ_ _=>rfl):PE X (.Subscript a b pos) (Xy r ta tb):=by
 intro d s c H Q I h;exact Subscript_ (QJ l k I h λv u e x y n m g f q=>j a b d e c n x y v u Q m g f q (i _ _))
inductive Te(K:PySem.W.Frag)(x:V)(y:V)(H:Hp)(Q:VK):Prop
 | mk (p xs i v:_) (_:x=.ref p) (_:y=.int i) (_:T6 K H p xs) (_:Ux xs i=some v) (_:Q v H)
inductive S5(K:PySem.W.Frag)(x:V)(y:V)(H:Hp)(Q:VK):Prop
 | mk (p xs i v:_) (_:x=.ref p) (_:y=.int i) (_:T8 K H p xs) (_:Ux xs i=some v) (_:Q v H)
inductive Tg(x:V)(y:V)(H:Hp)(Q:VK):Prop
 | mk (z i c:_) (_:x=.str z) (_:y=.int i) (_:z.length<=sizeLine) (_:Ux z.cps.toList i=some c) (_:Q (.str ⟨#[c]⟩) H)
theorem lg:Yw X (Te X.K):=by
 intro k l n s m H x y v u Q I E D h o;obtain⟨p,P,i,z,rfl,rfl,F,J,q⟩:=h;cases E;obtain⟨t,rfl⟩:=D;obtain⟨g,r,e,R⟩:=I.list F;obtain⟨j,d,N,T,M,L⟩:=zY J;obtain⟨w,B,O⟩:=r.get N;have G:=r.length;have S:=qO;have c:EP X n m Q w s:=(z,H,I,O,q);by_cases A:0<=i
 ·have f:i.toNat=j:=by
   rw[seqIndex_of A L]at d;exact aax d
  exact item_listR e.isList A ⋯ (by rw[f];simpa using B) c o
 ·have f:(i+(g.toArray.size:Int)).toNat=j:=by
   rw[seqIndex_neg ⋯ M]at d;rw[aao,<-G];exact aax d
  exact subscriptTail_builtinR (x:=w) e.isList.typeIs slot_list_getitem.lookup
   (wpAny_getItem_list_neg (Q:=λr C=>r=w/\EP X n m Q r C) e.isList ⋯ (by rw[aao]<;>lia) ⋯ (by rw[f];simpa using B) (7,c)) o
theorem aQ:Yw X (S5 X.K):=by
 intro d e g s f H x y v u Q I n m h o;obtain⟨p,L,i,z,rfl,rfl,A,C,q⟩:=h;cases n;obtain⟨t,rfl⟩:=m;obtain⟨J,r,k,M⟩:=I.tuple A;obtain⟨j,E,D,R,P,O⟩:=zY C;obtain⟨w,F,G⟩:=r.get D;have B:=r.length;have N:=qO;have c:EP X g f Q w s:=(z,H,I,G,q);exact subscriptTail_builtinR (x:=w) k.typeIs slot_tuple_getitem.lookup
  (getItem_tuple (j:=j) (Q:=λr l=>r=w/\EP X g f Q r l) k ⋯ ⋯ (by rw[aao,<-B];exact E) (by simpa using F) (7,c)) o
theorem Et:Yw X Tg:=by
 intro d e C s B H x y v u Q I k g h l;obtain⟨z,i,c,rfl,rfl,E,n,q⟩:=h;obtain⟨t,rfl⟩:=k;obtain⟨D,rfl⟩:=g;obtain⟨j,f,r,G,p,o⟩:=zY n;have m:z.cps.toList.length=z.length:=by simp[Str.length]
 rw[m]at f p o;have F:=qO;exact tail_any (typeIs_str s z t) slot_str_getitem.lookup (getItem_str (c:=c) (by
  have A:decide (i < -(2^63:Int))=false:=decide_eq_false ⋯;have w:decide (i >= 2^63)=false:=decide_eq_false ⋯;rw[A,w,aiX]) (by rw[f];simpa using r) (.str ⟨#[c]⟩,H,I.tok _,(_,7),q)) l
theorem Es(c:List Value)(n j:Nat)(u:Value):Obj.mapSeq (·.setIfInBounds j u) {cls:=.type "list",data:=.seq c.toArray n}={cls:=.type "list",data:=.seq (c.set j u).toArray n}:=by
 simp[Obj.mapSeq]
theorem Inv.lst{σ:St}{s:Shared}{p:Addr}{xs:List V}(I:Inv X π σ H s)(h:H p=some (.lst xs)):
  ∃(c:List Value) (n:Nat),Vals xs c/\s.heap.get? p=some {cls:=.type "list",data:=.seq c.toArray n}/\xs.length<=sizeLine:=by
 obtain⟨z,c,n,r,e⟩:=I.hok p _ h;exact(c,n,r,e,z)
theorem Inv.lstUpd{σ:St}{s:Shared}{p:Addr}{xs ys:List V}{c its':List Value}{n :Nat}{f:Obj->Obj}(I:Inv X π σ H s)(h:H p=some (.lst xs))
  (g:s.heap.get? p=some {cls:=.type "list",data:=.seq c.toArray n})(d:f {cls:=.type "list",data:=.seq c.toArray n}={cls:=.type "list",data:=.seq its'.toArray i})(r:Vals ys its')(hz:ys.length<=sizeLine)(t:Nat):
  Inv X π σ (upd H p (.lst ys)) {s with heap:=s.heap.update p f,toks:=t}:=by
 have e:(s.heap.update p f).get? p=some {cls:=.type "list",data:=.seq its'.toArray i}:=by
  rw[Heap.get?_update_self f g (by rw[d]<;>rfl),d]
 refine I.write (x:=p) (e:=p) (by rw[h];trivial) (.inl rfl) (λb u j q=>(Heap.get?_update_other _ _ (agG j)).trans q) (_,e) ?_;exact(hz,its',i,r,e)
inductive Ss(o:V)(i:V)(v:V)(H:Hp)(Q:Hp->Prop):Prop
 | mk (p xs k j:_) (_:o=.ref p) (_:i=.int k) (_:H p=some (.lst xs)) (_:VD xs.length k=some j) (_:Q (upd H p (.lst (xs.set j v))))
theorem set_list:R9 X Ss:=by
 intro A s z H o i v J K u Q I D E C h;obtain⟨p,B,k,j,rfl,rfl,l,G,q⟩:=h;cases D;obtain⟨t,rfl⟩:=E;obtain⟨c,n,r,e,F⟩:=I.lst l;obtain⟨d,M,w,m⟩:=Gq G;have f:=r.length;have L:=qO;have y:Inv X A z (upd H p (.lst (B.set j v))) {s with heap:=s.heap.update p (Obj.mapSeq (·.setIfInBounds j u))}:=
  I.lstUpd l e (Es c n j u) (r.set C j) (by rw[ajj];exact F) s.toks
 by_cases x:0<=k
 ·have g:k.toNat=j:=by
   rw[seqIndex_of x m]at d;exact aax d
  exact PySem.W.ki_setAt e x ⋯ (by rw[aao,<-f];exact m) (by rw[g];exact(_,y,q))
 ·have g:(k+(c.toArray.size:Int)).toNat=j:=by
   rw[seqIndex_neg ⋯ w]at d;rw[aao,<-f];exact aax d
  exact PySem.W.ki_setBack e ⋯ (by rw[aao,<-f];exact w) ⋯ (by rw[g];exact(_,y,q))
theorem zF(lo c:Option Int)(n:Nat):(sliceBounds lo c none n).1=((HT.Ut n 0 lo:Nat):Int)/\(sliceBounds lo c none n).2.1=((HT.Ut n n c:Nat):Int)/\(sliceBounds lo c none n).2.2=1:=by
 refine(8,8,7)
 ·cases lo with
  |none=>simp[sliceBounds,HT.Ut]
  |some i=>
   simp only[sliceBounds,HT.Ut,ajf,show (1:Int) > 0 by decide,if_true];by_cases h:i<0
   ·simp only[h,if_true]<;>lia
   ·simp only[h,if_false]<;>lia
 ·cases c with
  |none=>simp[sliceBounds,HT.Ut]
  |some i=>
   simp only[sliceBounds,HT.Ut,ajf,show (1:Int) > 0 by decide,if_true];by_cases h:i<0
   ·simp only[h,if_true]<;>lia
   ·simp only[h,if_false]<;>lia
theorem wQ(c:List Value)(lo d:Option Int):slicePick c.toArray lo d none=((c.drop (HT.Ut c.length 0 lo)).take (HT.Ut c.length c.length d-HT.Ut c.length 0 lo)).toArray:=by
 obtain⟨g,f,e⟩:=zF lo d c.toArray.size;unfold slicePick;rw[g,f,e];simp only[sliceRange_one,pick_run,aao]<;>rfl
inductive R7(K:PySem.W.Frag)(x:V)(lo:Option Int)(hi:Option Int)(H:Hp)(Q:VK):Prop
 | mk (a xs:_) (_:x=.ref a) (_:T6 K H a xs) (_:∀p,H p=none->Q (.ref p) (upd H p (.lst (cR xs lo hi))))
theorem jZ:Yv X (R7 X.K):=by
 intro t s p H x v w u e f y Q I g m j i h;obtain⟨a,c,rfl,l,q⟩:=h;cases g;obtain⟨n,r,ht,k⟩:=I.list l;have d:=r.length
 exists "list",_,slot_list_getitem.lookup,ht.isList.typeIs
 refine wpAny_getItem_list_slice ht.isList m j i .none (by simp) ?_ (by rw[aao]<;>lia);rw[wQ,<-d];refine(.ref s.heap.objs.size,_,I.laid (t':=s.toks) (o:=.lst (cR c e f)) (λb z q=>Heap.get?_push_of_some _ q) (aac _) ?_,7,q _ (I.hok.fresh (aac _)));exact(aeY (sW c e f) k,_,0,(r.drop (HT.Ut c.length 0 e)).take (HT.Ut c.length c.length f-HT.Ut c.length 0 e),Heap.get?_push_size _ rfl)
def oK:V->Bool
 |.non=>true
 |.bl _=>true
 |.int _=>true
 |.str _=>true
 |_=>false
def VF:V->V->Bool
 |.non,.non=>true
 |.bl a,.bl b=>a==b
 |.bl a,.int b=>(if a then 1 else 0)==b
 |.int a,.bl b=>a==(if b then 1 else 0)
 |.int a,.int b=>a==b
 |.str a,.str b=>a==b
 |_,_=>false
theorem Qk{A:Around}{s:Shared}{y x:V}{u v:Value}(e:RelV y u)(c:RelV x v)(g:oK y=true)(f:oK x=true):SeqAt.EqAt A s u v (VF y x):=by
 cases y with
 |non=>
  cases e;cases x with
  |non=>cases c;exact SeqAt.EqAt.same _
  |bl b=>cases c;exact SeqAt.EqAt.none_bool b
  |int b=>obtain⟨t,rfl⟩:=c;exact SeqAt.EqAt.none_int b t
  |str b=>obtain⟨t,rfl⟩:=c;exact SeqAt.EqAt.none_str b t
  |_=>exact absurd (show false=true from f) aal
 |bl a=>
  cases e;cases x with
  |non=>cases c;exact SeqAt.EqAt.bool_none a
  |bl b=>cases c;exact SeqAt.EqAt.bool_bool a b
  |int b=>obtain⟨t,rfl⟩:=c;exact SeqAt.EqAt.bool_int a b t
  |str b=>obtain⟨t,rfl⟩:=c;exact SeqAt.EqAt.bool_str a b t
  |_=>exact absurd (show false=true from f) aal
 |int a=>
  obtain⟨d,rfl⟩:=e;cases x with
  |non=>cases c;exact SeqAt.EqAt.int_none a d
  |bl b=>cases c;exact SeqAt.EqAt.int_bool a d b
  |int b=>obtain⟨t,rfl⟩:=c;exact SeqAt.EqAt.int_int a d b t
  |str b=>obtain⟨t,rfl⟩:=c;exact SeqAt.EqAt.int_str a d b t
  |_=>exact absurd (show false=true from f) aal
 |str a=>
  obtain⟨d,rfl⟩:=e;cases x with
  |non=>cases c;exact SeqAt.EqAt.str_none a d
  |bl b=>cases c;exact SeqAt.EqAt.str_bool a d b
  |int b=>obtain⟨t,rfl⟩:=c;exact SeqAt.EqAt.str_int a d b t
  |str b=>obtain⟨t,rfl⟩:=c;exact SeqAt.EqAt.str_str a d b t
  |_=>exact absurd (show false=true from f) aal
 |_=>exact absurd (show false=true from g) aal
def We(x:V)(u:Value):Bool:=match u with
 |.none=>VF .non x
 |.bool b=>VF (.bl b) x
 |.int i _=>VF (.int i) x
 |.str z _=>VF (.str z) x
 |_=>false
theorem J7{x y:V}{u:Value}(r:RelV y u)(f:oK y=true):We x u=VF y x:=by
 cases y with
 |non=>cases r;rfl
 |bl b=>cases r;rfl
 |int i=>obtain⟨t,rfl⟩:=r;rfl
 |str z=>obtain⟨t,rfl⟩:=r;rfl
 |_=>exact absurd (show false=true from f) aal
theorem Ag{x:V}:∀{xs:List V}{c:List Value},Vals xs c->xs.all oK=true->c.any (We x)=xs.any λy=>VF y x
 |_,_,.nil,_=>rfl
 |y::xs,u::c,.cons r t,f=>by
  rw[aiY,ahP]at f;rw[ahV,ahV,J7 r f.1,Ag t f.2]
theorem vI{A:Around}{s:Shared}{x:V}{v:Value}(e:RelV x v)(g:oK x=true):∀{xs:List V}{d:List Value},Vals xs d->xs.all oK=true -> ∀u∈d,SeqAt.EqAt A s u v (We x u)
 |_,_,.nil,_=>λu c=>by cases c
 |y::xs,u::d,.cons r t,f=>λh c=>by
  rw[aiY,ahP]at f;rcases aas.mp c with rfl|c
  ·rw[J7 r f.1];exact Qk r e f.1 g
  ·exact vI e g t f.2 h c
def inV(x:V)(xs:List V):Bool:=xs.any λy=>VF y x
inductive rIn(K:PySem.W.Frag)(neg:Bool)(x:V)(y:V)(H:Hp)(Q:VK):Prop
 | mk (p xs:_) (_:y=.ref p) (_:(T6 K H p xs\/T8 K H p xs)) (_:oK x=true) (_:xs.all oK=true) (_:Q (.bl (if neg then !inV x xs else inV x xs)) H)
theorem yZ:Us X (compareOp .NotIn) (rIn X.K true):=by
 intro n s m H x y v u Q I i k h;obtain⟨p,o,rfl,d,j,e,q⟩:=h;cases k;rcases d with d|d
 ·obtain⟨c,r,f,l⟩:=I.list d;refine SeqAt.notIn_listAt (We x) f.isList (λw g=>vI i j r e w (by simpa using g)) (.bl _,H,I,7,8);rw[show c.toArray.any (We x)=c.any (We x) by simp,Ag r e];exact q
 ·obtain⟨c,r,f,l⟩:=I.tuple d;refine SeqAt.notIn_tupleAt (We x) f (λw g=>vI i j r e w (by simpa using g)) (.bl _,H,I,7,8);rw[show c.toArray.any (We x)=c.any (We x) by simp,Ag r e];exact q
theorem yO:Us X (compareOp .NotIn) (λx y H Q=>∃i j,x=.str i/\y=.str j/\Q (.bl (!(!(Builtin.Str.occurrences j i 0 j.length 1).isEmpty))) H):=by
 intro f s e H x y v u Q I d c h;obtain⟨i,j,rfl,rfl,q⟩:=h;obtain⟨t,rfl⟩:=d;obtain⟨g,rfl⟩:=c;exact notIn_str (.bl _,H,I,7,q)
theorem aO:eU X (.builtin "len") (λxs H Q=>∃p ys,xs=[.ref p]/\(T6 X.K H p ys\/T8 X.K H p ys)/\Q (.int ys.length) H):=by
 intro l s k H xs m Q I r h;obtain⟨p,ys,rfl,d,q⟩:=h;obtain⟨u,rfl,i⟩:=vals1 r;cases i;have n:=qO;rcases d with d|d
 ·obtain⟨g,e,f,j⟩:=I.list d;have c:=e.length;exact Calls.call_len_list f.isList (by simp only[aao]<;>lia) (.int ys.length,H,I.tok _,(s.toks+1,by rw[aao,c]),q)
 ·obtain⟨g,e,f,j⟩:=I.tuple d;have c:=e.length;exact len_tuple f (by simp only[aao]<;>lia) (.int ys.length,H,I.tok _,(s.toks+1,by rw[aao,c]),q)
theorem cC:eU X (.builtin "len") (λxs H Q=>∃z,xs=[.str z]/\z.length<=sizeLine/\Q (.int z.length) H):=by
 intro d s c H xs e Q I r h;obtain⟨z,rfl,f,q⟩:=h;obtain⟨u,rfl,t,rfl⟩:=vals1 r;have g:=qO;exact len_str ⋯ (.int z.length,H,I.tok _,(_,7),q)
theorem j7:eU X (.type "list") (λxs H Q=>∃p ys,xs=[.ref p]/\(T6 X.K H p ys\/T8 X.K H p ys) /\ ∀l,H l=none->Q (.ref l) (upd H l (.lst ys))):=by
 intro B s A H xs D Q I r h;obtain⟨p,ys,rfl,k,q⟩:=h;obtain⟨u,rfl,C⟩:=vals1 r;cases C;have m:∀(c:List Value),Vals ys c->ys.length<=sizeLine -> ∀(d:Heap) (g:Nat),(∀b z,s.heap.get? b=some z->d.get? b=some z) ->
   d.get? s.heap.objs.size=some {cls:=.type "list",dict:=none,data:=.seq c.toArray g,slots:=#[]}->EP X B A Q (.ref s.heap.objs.size) {s with heap:=d}:=λc f j d g i e=>
  (.ref s.heap.objs.size,_,I.laid (t':=s.toks) i (aac _) (show bH X.prog X.w _ d _ (.lst ys)from (j,c,g,f,e)),7,q _ (I.hok.fresh (aac _)))
 rcases k with k|k
 ·obtain⟨c,f,v,j⟩:=I.list k;have t:=f.length;obtain⟨o,x,y,n,hd⟩:=v.isList;exact call_list_seq p (.inl rfl) x y hd (λd g i e=>m c f j d g i e) (by simp only[aao]<;>lia)
 ·obtain⟨c,f,v,j⟩:=I.tuple k;have t:=f.length;obtain⟨o,x,y,n,hd⟩:=v;exact call_list_seq p (.inr rfl) x y hd (λd g i e=>m c f j d g i e) (by simp only[aao]<;>lia)
theorem gk:eU X (.type "tuple") (λxs H Q=>∃p ys,xs=[.ref p]/\((T6 X.K H p ys /\ ∀l,H l=none->Q (.ref l) (upd H l (.tup ys)))\/(T8 X.K H p ys/\Q (.ref p) H))):=by
 intro k s j H xs z Q I r h;obtain⟨p,ys,rfl,h⟩:=h;obtain⟨u,rfl,v⟩:=vals1 r;cases v;rcases h with ⟨i,q⟩|⟨i,q⟩
 ·obtain⟨c,f,g,m⟩:=I.list i;have t:=f.length;refine call_tuple_list g.isList (λd x=>?_) (by simp only[aao]<;>lia);have n:Inv X k j H {s with heap:=d}:=I.kept (t':=s.toks) x
  have y:Inv X k j (upd H d.objs.size (.tup ys)) {s with heap:=d.push {cls:=.type "tuple",data:=.seq c.toArray}}:=
   n.laid (t':=s.toks) (λb o e=>Heap.get?_push_of_some _ e) (aac _) (show bH X.prog X.w _ _ _ (.tup ys)from (m,c,f,IsTup.new _ _))
  exact(.ref d.objs.size,_,y,7,q _ (n.hok.fresh (aac _)))
 ·obtain⟨c,f,g,m⟩:=I.tuple i;exact call_tuple_same g (.ref p,H,I,7,q)
def Zz(K:PySem.W.Frag)(T:String)(x:V)(H:Hp):Prop:=match x with
 |.str _=>T = "str"
 |.int _=>T = "int"
 |.ref p=>(T = "list" /\ ∃d,T6 K H p d)\/(T = "tuple" /\ ∃o,K.lookup p=some o/\o.cls=.type "tuple" /\ o.dict=none) \/
   (T = "dict" /\ ((∃c,H p=some (.dK c)) \/ ∃c,H p=some (.dT c)))\/(T = "set" /\ ∃S n,H p=some (.set S n))
 |_=>False
theorem KQ{σ:St}{s:Shared}{T:String}{x:V}{v:Value}(I:Inv X π σ H s)(r:RelV x v)(g:Zz X.K T x H):
  s.TypeIs v T /\ ∀a,v=.ref a -> ∃l,s.heap.get? a=some l/\l.dict=none:=by
 cases x with
 |str z=>
  obtain⟨t,rfl⟩:=r
  cases (show T = "str" from g)
  exact(typeIs_str s z t,λ_ e=>nomatch e)
 |int i=>
  obtain⟨t,rfl⟩:=r
  cases (show T = "int" from g)
  exact(typeIs_int s i t,λ_ e=>nomatch e)
 |ref p=>
  cases r;rcases g with ⟨rfl,w,m⟩|⟨rfl,o,d,q,hd⟩|⟨rfl,d⟩|⟨rfl,S,n,d⟩
  ·obtain⟨u,_,k,_⟩:=I.list m;refine(k.isList.typeIs,λa e=>?_);cases e;obtain⟨o,n,e,c,hd,_⟩:=k;exact(o,e,hd)
  ·refine((o,I.UT p o d,q),λa e=>?_);cases e;exact(o,I.UT _ o d,hd)
  ·have z:∃o,s.heap.get? p=some o/\o.ExactDict:=by
    rcases d with ⟨j,d⟩|⟨j,d⟩
    ·obtain⟨_,_,_,_,o,_,_,e,f,_⟩:=I.hok p _ d;exact(o,e,f)
    ·obtain⟨_,_,_,_,o,_,_,e,f,_⟩:=I.hok p _ d;exact(o,e,f)
   obtain⟨o,e,f⟩:=z;refine((o,e,f.1),λa h=>?_);cases h;exact(o,e,f.2.1)
  ·obtain⟨o,_,_,_,e,f,_⟩:=I.hok p _ d;refine((o,e,f.1),λa h=>?_);cases h;exact(o,e,f.2.1)
 |_=>exact False.elim g
def Ng(K:PySem.W.Frag)(T:String)(r:V->List V->Hp->VK->Prop)(Q:VK):VK:=λx c=>Zz K T x c/\r x [] c Q
def Tz(K:PySem.W.Frag)(T:String)(r:V->List V->Hp->VK->Prop)(d:TE):TE:=λ c H Q=>d c H (Ng K T r Q)
def Qx(K:PySem.W.Frag)(T:String)(r:V->List V->Hp->VK->Prop)(t:TA)(σ:St)(Q:VK):VK:=λx c=>Zz K T x c/\t σ c λd e=>r x d e Q
def tBM(K:PySem.W.Frag)(T:String)(r:V->List V->Hp->VK->Prop)(d:TE)(t:TA):TE:=λ c H Q=>d c H (Qx K T r t c Q)
variable{es:List Expr}{to:TE}{cpos:Pos}{T id:String}{r:V->List V->Hp->VK->Prop}
theorem Ql(q:PlainAttrs T)(f:Slot T name id)(g:typeOf (.builtin id)=pure (.type "method_descriptor"))(w:Yx X id r)(u:PE X o to)
  (d:attributeBase o name X.env (eval o X.env)=eval o X.env:=by rfl)(c:(apos.endLine==cpos.line)=true:=by rfl):PE X (.Call (.Attribute o name apos) [] [] cpos) (Tz X.K T r to):=by
 intro j s i H Q I h;refine wpAny_Call_method0_late d c (T7 (u j s i H _ I h) λv n ⟨x,A,l,k,m,p⟩=>?_);obtain⟨z,y⟩:=KQ l k m;exact(T,id,q,f,g,z,y,Calls.callWith_builtin rfl (PySem.evalArgs_none (w j n i A x [] v [] Q l k .nil p)))
theorem gn(D:PlainAttrs T)(g:Slot T name id)(l:typeOf (.builtin id)=pure (.type "method_descriptor"))(G:Yx X id r)(F:PE X o to)(J:PA X (e::es) t)
  (f:attributeBase o name X.env (eval o X.env)=eval o X.env:=by rfl)
  (i:((backTo cpos (starEach (e::es) X.env)).all (λx=>!x.1)&&(backToKw cpos (keywordEach [] X.env)).all (λx=>x.1.isSome)
   && decide ((e::es).length+([]:List Keyword).length+(if ([]:List Keyword).isEmpty then 0 else 1)<30))=true:=by rfl)
  (d:(apos.endLine==cpos.line)=true:=by rfl)(E:starEach (e::es) X.env=(pq false (eval e X.env))::starEach es X.env:=by rfl)(c:(backTo cpos (starEach es X.env)).any (·.1)=false:=by rfl):
  PE X (.Call (.Attribute o name apos) (e::es) [] cpos) (tBM X.K T r to t):=by
 intro k s j H Q I h;refine wpAny_Call_method_late f i d rfl (T7 (F k s j H _ I h) λv z ⟨x,P,p,m,w,C⟩=>?_);obtain⟨M,L⟩:=KQ p m w;exists T,id,D,g,l,M,L;have n:=J cpos k z j P _ p C;rw[E]at n ⊢;refine Calls.callWith_builtin (by show (false || (backTo cpos (starEach es X.env)).any (·.1))=false;rw[c]<;>rfl) (Calls.evalArgs_plain ?_);exact T7 n λu y ⟨q,O,N,A,B⟩=>G k y j O x q v u Q N m A B
end
def MtM(X:Cx)(id:String)(r:V->List V->Hp->VK->Prop):Prop:=
 ∀(b:List (Addr×Obj)) (s:Shared) (a:St) (H:Hp) (x:V) (c:List V) (v:Value) (d:List Value) (Q:VK),Inv X b a H s->RelV x v->Vals c d->r x c H Q ->
  wpAny (model X.prog X.w) X.A (call (.builtin id) (v::d)) (EP X b a Q) X.xe s
theorem Vals.one:∀{x:V}{a:List Value},Vals [x] a -> ∃u,a=[u]/\RelV x u
 |_,_,.cons r .nil=>(5,r)
theorem Vals.reverse{xs:List V}(h:Vals xs r):Vals xs.reverse r.reverse:=by
 induction h with
 |nil=>exact .nil
 |cons a t b=>rw[aix,aix];exact Vals.append b (.cons a .nil)
theorem Vals.rep{xs:List V}{a:List Value}(h:Vals xs a):∀k:Nat,Vals (aaA k xs).flatten (aaA k a).flatten
 |0=>.nil
 |k+1=>by
  rw[agy,agy,agJ,agJ];exact Vals.append h (Vals.rep h k)
theorem foldl_rep(a:List Value):∀(k:Nat) (b:List Value),
  aiy (λd c=>d++c) b.toArray (aaA k a.toArray)=(b++(aaA k a).flatten).toArray
 |0,b=>by simp
 |k+1,b=>by
  have e:b.toArray++a.toArray=(b++a).toArray:=by simp
  have f:(b++a)++(aaA k a).flatten=b++(aaA (k+1) a).flatten:=by
   rw[agy,agJ,aaG]
  rw[<-f,<-foldl_rep a k (b++a),<-e,agy,aih]
section
variable{l b:Addr}{xs ys zs:List V}
theorem Inv.lset{its':List Value}{n:Nat}{f:Array Value->Array Value}{t':Nat}(I:Inv X π σ H s)(h:H l=some (.lst xs))
  (e:s.heap.get? l=some {cls:=.type "list",data:=.seq r.toArray n})(d:f r.toArray=its'.toArray)(a:Vals ys its')(hz:ys.length<=sizeLine):
  Inv X π σ (upd H l (.lst ys)) {s with heap:=s.heap.update l (Obj.mapSeq f),toks:=t'}:=by
 have q:=PySem.IsL.update e f;rw[d]at q;refine I.write (x:=l) (e:=l) (by rw[h];exact trivial) (.inl rfl) (λi u g c=>(Heap.get?_update_other s.heap (Obj.mapSeq f) (agG g)).trans c) (_,q) ?_;exact(hz,its',_,a,q)
theorem Inv.lnew{t':Nat}(I:Inv X π σ H s)(a:Vals ys r)(hz:ys.length<=sizeLine):
  Inv X π σ (upd H s.heap.objs.size (.lst ys)) {s with heap:=s.heap.push {cls:=.type "list",data:=.seq r.toArray},toks:=t'}:=
 I.laid (λ_ _ q=>Heap.get?_push_of_some _ q) (aac _) (hz,r,0,a,Heap.get?_push_size _ rfl)
theorem Inv.fresh(I:Inv X π σ H s):H s.heap.objs.size=none:=I.hok.fresh (aac _)
theorem Inv.lstM(I:Inv X π σ H s)(c:H l=some (.lst xs)):xs.length<=sizeLine /\ ∃(a:List Value) (n:Nat),Vals xs a/\xs.length=a.length/\s.heap.get? l=some {cls:=.type "list",data:=.seq a.toArray n}:=by
 obtain⟨z,a,n,r,e⟩:=I.hok l _ c;exact(z,a,n,r,r.length,e)
theorem Ar{n:Nat}(h:n<=sizeLine):Builtin.List.listTooLong n=false:=by
 unfold Builtin.List.listTooLong;exact decide_eq_false ⋯
end
inductive Np(x:V)(vs:List V)(H:Hp)(Q:VK):Prop
 | mk (l xs y:_) (_:x=.ref l) (_:vs=[y]) (_:H l=some (.lst xs)) (_:xs.length<sizeLine) (_:Q .non (upd H l (.lst (xs++[y]))))
theorem bN:MtM X "list.append" Np:=by
 intro i s g H x k v m Q I c d h;obtain⟨l,j,y,rfl,rfl,b,o,q⟩:=h;cases c;obtain⟨u,rfl,f⟩:=d.one;obtain⟨z,a,n,r,p,e⟩:=I.lstM b;refine call_meets F.slot_list_append (_,e,7) F.entry_list_append (F.args_list_append_2 _ _) (PySem.list_append l a.toArray n u (by rw[aao];lia)) (e,8);refine(.non,_,I.lset (its':=a++[u]) b e (by simp) (r.append (.cons f .nil)) ?_,7,q);rw[aae,agK];lia
inductive M6(x:V)(vs:List V)(H:Hp)(Q:VK):Prop
 | mk (l b xs zs:_) (_:x=.ref l) (_:vs=[.ref b]) (_:H l=some (.lst xs)) (_:H b=some (.lst zs)) (_:xs.length+zs.length<=sizeLine) (_:Q .non (upd H l (.lst (xs++zs))))
theorem qt:MtM X "list.extend" M6:=by
 intro A s y H x E v G Q I i j h;obtain⟨l,b,D,B,rfl,rfl,g,p,J,q⟩:=h;cases i;obtain⟨u,rfl,k⟩:=j.one;cases k;obtain⟨z,c,n,r,K,e⟩:=I.lstM g;obtain⟨C,a,o,m,w,t⟩:=I.lstM p;have f:c.toArray.size+a.toArray.size<=sizeLine:=by rw[aao,aao];lia
 have d:¬(!c.toArray.isEmpty&&Builtin.List.listTooLong (c.toArray.size+a.toArray.size))=true:=by
  rw[Ar f,Bool.and_false];exact aal
 refine call_meets F.slot_list_extend (_,e,7) F.entry_list_extend (F.args_list_extend_2 _ _)
  (AutoSeq1.list_extend_list_list_0 l c.toArray n b a.toArray o d (by rw[aao];lia) ⋯) (e,t,8)
 refine(.non,_,I.lset (its':=c++a) g e (by simp) (r.append m) ?_,7,q);rw[aae];lia
inductive TQ(x:V)(y:V)(H:Hp)(Q:VK):Prop
 | mk (l b xs zs:_) (_:x=.ref l) (_:y=.ref b) (_:H l=some (.lst xs)) (_:H b=some (.lst zs)) (_:xs.length+zs.length<=sizeLine) (_:∀p,H p=none->Q (.ref p) (upd H p (.lst (xs++zs))))
theorem nY:Us X (binaryOp .Add) TQ:=by
 intro t s p H x y v u Q I f d h;obtain⟨l,b,B,w,rfl,rfl,i,j,D,q⟩:=h;cases f;cases d;obtain⟨z,c,n,r,E,e⟩:=I.lstM i;obtain⟨A,a,C,g,o,m⟩:=I.lstM j;refine PySem.P.add_list e m ?_ (by rw[aao,aao];lia);have k:c.toArray++a.toArray=(c++a).toArray:=by simp
 rw[k];exact(.ref _,_,I.lnew (t':=s.toks) (r.append g) (by rw[aae];lia),7,q _ I.fresh)
inductive RZ(x:V)(y:V)(H:Hp)(Q:VK):Prop
 | mk (l k xs:_) (_:x=.ref l) (_:y=.int k) (_:H l=some (.lst xs)) (_ : -(2^63)<=k) (_:k<2^63) (_:xs.length*k.toNat<=sizeLine) (_:∀p,H p=none->Q (.ref p) (upd H p (.lst (aaA k.toNat xs).flatten)))
theorem len_rep(xs:List O)(k:Nat):(aaA k xs).flatten.length=k*xs.length:=by
 induction k with
 |zero=>simp
 |succ k a=>rw[agy,agJ,aae,a,ahT,ajz]
theorem Af:Us X (binaryOp .Mult) RZ:=by
 intro L s K H x y v u Q I B A h;obtain⟨l,k,M,rfl,rfl,D,G,E,p,q⟩:=h;cases B;obtain⟨t,rfl⟩:=A;obtain⟨z,b,n,r,C,e⟩:=I.lstM D;have f:b.toArray.size*k.toNat<=sizeLine:=by rw[aao,<-C];exact p
 have i:¬b.toArray.size*k.toNat > (2^63-1) / 8:=by
  have:(sizeLine:Nat)<=(2^63-1) / 8:=by decide
  lia
 have g:¬(!Builtin.List.listFitsIndex k)=true:=by
  rw[fitsIndex_both G E];exact aal
 have c:¬Builtin.List.listTooLong (b.toArray.size*k.toNat)=true:=by
  rw[Ar f];exact aal
 have d:aiy (λo j=>o++j) #[] (aaA (if b.toArray.isEmpty=true then 0 else k.toNat) b.toArray)=(aaA k.toNat b).flatten.toArray:=by
  have J:∀m:Nat,aiy (λo j=>o++j) #[] (aaA m b.toArray)=(aaA m b).flatten.toArray:=λm=>by
   have:=foldl_rep b m [];rw[ahW]at this;exact this
  rw[J];cases b with
  |nil=>simp
  |cons a N=>rw[if_neg (by simp)]
 refine wpAny_binaryOp_repeat_ref (T := "list") (U := "int") ∅ (_,e,7) (λw=>typeIs_int w k t) noFill_list_mul F.fills_int_mul F.slot_int_rmul repeat_list F.slot_int_index.lookup
  (call_meets F.slot_int_rmul (typeIs_int s k t) F.entry_int_rmul (F.args_int_rmul_2 _ _) (int___rmul___int_list k t l b.toArray n)
   (e,7,(_,e,7),call_meets F.slot_list_mul (_,e,7) F.entry_list_mul (F.args_list_mul_2 _ _) (AutoListH.list___mul___list_int_3 l b.toArray n k t g i c) (e,8)))
 rw[d];exact(.ref _,_,I.lnew (t':=s.toks) (r.rep k.toNat) (by rw[len_rep,agE];exact p),7,q _ I.fresh)
end L2
namespace Yy
open PySem.W PySem.Calls PyProof.Rows
theorem sZ{P:Params}:∀(c:List Int) (d:List Value),WellAll P h' d (c.map WData.int)->IntsAre d c:=by
 intro c
 induction c with
 |nil=>
  intro d w;rw[air]at w;cases w;exact .nil
 |cons n c e=>
  intro d w;rw[aar]at w;cases w with
  |cons a b=>
   cases a;exact .cons _ _ (e _ b)
theorem Jh{l:OpenLaw}{n:Nat}(x:l.most=some n){P:Params}{c:List WData}
  (f:l.row.toRowW.claim.pre c=true)(m:WellAll P h' r c):
  ∃a p e,r=[Value.ref a]/\c=[WData.list (e.map WData.int)]/\h'.get? a=some {cls:=.type "list",data:=.seq p.toArray}/\IntsAre p e/\e.length<=n:=by
 have o:WShape.hasAll [] c [.list .int]=true:=(pre_splitW f).1;have s:l.pre.holds [] {args:=c}=true:=(pre_splitW f).2;obtain⟨d,b,rfl,A,z⟩:=hasAllW_cons o;obtain rfl:=hasAllW_nil z;obtain⟨B,rfl,y⟩:=hasW_list A;obtain⟨e,rfl⟩:=items_int y;have g:e.length<=n:=by
  unfold OpenLaw.pre at s;have k:(WTm.not (.lt (.lit (.int (n:Int))) (.len (.arg 0)))).holds [] {args:=[.list (e.map .int)]}=true:=by
   have k:=(holds_andW s).1;rw[x]at k;exact k
  have j:=condW_of k (w_not (w_lt w_lit (w_len_list (w_arg rfl))));rw[aaa]at j;refine Nat.le_of_not_lt λq=>?_;have v:(n:Int)<((e.length:Nat):Int):=by lia
  first
   | (rw[decide_eq_true v]at j;exact absurd j ∅)
   | (simp at j;lia)
 cases m with
 |cons u t=>
  cases t;cases u with
  |list w i=>exact(1,e,7,7,w,sZ e _ i,g)
theorem Il(l:OpenLaw)(a:List WData):l.row.toRowW.claim.post a (.bool true) a=true:=
 postW_of (r:=l.row.toRowW) (X:=(true==true))
  (show WShape.has [] (.bool true) .bool=true by first|rfl|decide|simp[WShape.has,WShape.arms,WShape.armsAll])
  (show (WTm.eq .res (.lit (.bool true))).value [] {args:=a,res:=some (.bool true),after:=a}=some (.bool (true==true))from w_eq_bool (w_res rfl) w_lit) rfl
theorem attach_call{l:OpenLaw}{n:Nat}{q:Program}{E:(Str->Option Value)->Heap->Prop}{D:World->Heap->Prop}{d:DefRec}
  (L:l.most=some n)(A:d.params.defaults=[])
  (p:∀(w:World) (c b:Shared) (mg x:Str->Option Value) (i:Addr) (o:Obj) (v u e:Value) (a:Addr) (h:List Value) (t:List Int),
   Ground q N [] E w c mg x b.heap->D w b.heap ->
   b.heap.get? i=some o->o.data=.func (docDef d.name d.params d.body d.scope v u e)->b.heap.CodeRec u d.name->mg d.name=some (.ref i) ->
   b.heap.get? a=some {cls:=.type "list",data:=.seq h.toArray}->IntsAre h t->t.length<=n->b.gens=#[] ->
   codeAny (model l.prog w) callerA (.call (.ref i) ([.ref a],[])) (λr s=>r=.ok (.ret (.bool true))/\OldK b.heap s.heap/\s.os=b.os/\AllBare s.gens) b):
  WalkO q N E D l.row.toRowW d [] (λf h=>PySem.call f h):=by
 intro w c b mg x G Y i o v u e S kV K hd B C z O I F V j H T y U;obtain rfl:S=.none:=Dflts.none C A;obtain rfl:kV=.none:=Dflts.noKw C;obtain⟨a,h,t,rfl,rfl,k,g,m⟩:=Jh L j y;refine enter_call (codeAny_mono (p w c b mg x i o v u e a h t G Y K (fd_plain hd) B z k g m O) λr s J=>?_);obtain⟨rfl,R,Q,P⟩:=J;exact(.inl (.bool true,.bool true,[],7,λ_=>rfl,.bool true,Il l _,λ_=>(List.Pairwise.nil,λ_ M=>(nomatch M))),R,Q,P)
section
variable{K:Frag}
end
end Yy
namespace L2
open PySem.Spec PyProof.Rows
theorem qH:∀{a:List Value}{b:List Int},IntsAre a b->Vals (b.map V.int) a
 |_,_,.nil=>.nil
 |_,_,.cons n t h=>.cons (t,7) (qH h)
def ν(s:Stmt):Arguments:=match s with
 |.FunctionDef _ a _ _ _ _ _ _ _ _=>a
 |_=>{posonlyargs:=[],args:=[],vararg:=none,kwonlyargs:=[],kw_defaults:=[],kwarg:=none,defaults:=[]}
def μ(s:Stmt):List Stmt:=match s with
 |.FunctionDef _ _ b _ _ _ _ _ _ _=>b
 |_=>[]
def δ(s:Stmt):Scope:=match s with
 |.FunctionDef _ _ _ _ _ _ a _ _ _=>a
 |_=>{kind:=.function,names:=[],isGenerator:=false,isCoroutine:=false}
abbrev T9:Vc:=λ_ _ _ _ _ _=>False
abbrev E0:XK:=λ_ _ _=>False
theorem Rz{X:Cx}:nR T9 X E0:=λ_ _ _ _ _ _ _ h=>h.elim
structure UV(K:PySem.W.Frag)(x qual:Str)(st:Stmt)(f:Addr)(fd:FuncData):Prop where
 ex:∃(oc:Value) (od:Option Addr) (kV doc pm:Value) (an:Option Addr) (cdv ct:Value) (osl:Array (Option Value)),
  fd=PySem.W.fnOf x qual (ν st) (μ st) (δ st) .none kV doc pm an cdv ct/\K.lookup f=some (oc,od,.func fd,osl)/\PySem.W.codeIn K cdv qual=true
 kp:PySem.W.keepIn K (.ref f)=true
section
variable{P:Program}
theorem UV.ok{x :Str}{st:Stmt}{f:Addr}{fd:FuncData}{N ps:List Str}{k:Nat}(F:UV K x qual st f fd)(S:aC N ps (δ st))(e:∀c H Q E,sp c H Q E->c.length=ps.length)
  (d:∀(b:Value) (A:Around) (a:List Env) (s:Shared) (H:Hp) (c:List V) (Q:VK) (E:XK),dX k (A.deeper (envOfC qual (δ st) s.heap.objs.size f b))->sp c H Q E ->
   ∃t,U5 (gW T9 P w K mg base N qual (δ st) f b A a s H E).W9 (μ st) t/\t {nx:=λ_ H'=>Q .non H',rt:=Q} (start N c) H):aV P w K mg base T9 (k+1) f fd ps sp:=by
 obtain⟨r,p,kV,n,o,v,b,u,m,rfl,j,i⟩:=F.ex;refine PB j i S e λA a s H c Q E l g=>?_;obtain⟨t,h,q⟩:=d b A a s H c Q E l g;exact(t,h.W9,q)
theorem UV.Ub{x :Str}{st:Stmt}{f:Addr}{fd:FuncData}{N ps:List Str}{k:Nat}(F:UV K x qual st f fd)(S:aC N ps (δ st))
  (b:∀(d:Value) (A:Around) (a:List Env) (s:Shared) (H:Hp) (c:List V) (Q:VK) (E:XK),dX k (A.deeper (envOfC qual (δ st) s.heap.objs.size f d))->sp c H Q E ->
   ∃t,U5 (gW T9 P w K mg base N qual (δ st) f d A a s H E).W9 (μ st) t/\t {nx:=λ_ H'=>Q .non H',rt:=Q} (start N c) H)(e:∀c H Q E,sp c H Q E->c.length=ps.length:=by intro _ _ _ _ h;cases h;subst_vars;rfl):aV P w K mg base T9 (k+1) f fd ps sp:=F.ok S e b
theorem UV.binds{x :Str}{st:Stmt}{f:Addr}{fd:FuncData}{ps:List Str}(F:UV K x qual st f fd)
  (h:∀(kV a d:Value) (g:Option Addr) (b e:Value) (c:List Value),c.length=ps.length->bindArgs (PySem.W.fnOf x qual (ν st) (μ st) (δ st) .none kV a d g b e) (c,[])=pure (ps.zip c)):Binds K fd ps []:=by
 obtain⟨l,k,kV,a,d,g,b,e,i,rfl,m,j⟩:=F.ex;exact .all (h kV a d g b e)
theorem yR{x :Str}{st:Stmt}{f:Addr}{i h:Option Addr}{d:Array (Option Value)}{kV b e a g:Value}(l:K.lookup f=some (q,i,.func (PySem.W.fnOf x qual (ν st) (μ st) (δ st) .none kV b e h a g),d))
  (c:PySem.W.codeIn K a qual=true)(k:PySem.W.keepIn K (.ref f)=true):UV K x qual st f (PySem.W.fnOf x qual (ν st) (μ st) (δ st) .none kV b e h a g):=((q,i,kV,b,e,h,a,g,d,7,l,c),k)
end
theorem pv(i:Nat){x:Str}{pos:Pos}(c:X.N[i]?=some x:=by rfl)(b:Xq X.env.scope x:=by first|exact ahy rfl|exact ah6 (ahy rfl) | exact ah6 (ah6 rfl))(hd:(x==("__debug__" : Str))=false:=by decide)
  (a:(x==("__classdict__" : Str))=false:=by decide):PE X (.Name x pos) (OJ i):=Gb c b hd a
theorem My(i:Nat){x:Str}{pos:Pos}{t:TA}(d:PA X u t)(e:X.N[i]?=some x:=by rfl)(b:Xq X.env.scope x:=by first|exact ahy rfl|exact ah6 (ahy rfl) | exact ah6 (ah6 rfl))(hd:(x==("__debug__" : Str))=false:=by decide)
  (a:(x==("__classdict__" : Str))=false:=by decide)(c:starEach (.Name x pos::u) X.env=(pq false (eval (.Name x pos) X.env))::starEach u X.env:=by rfl):PA X (.Name x pos::u) (Lg (OJ i) t):=ak (pv i e b hd a) d c
theorem eF{A B:Prop}(h:B):if false=true then A else B:=by
 rw[if_neg aal];exact h
theorem kE{A B:Prop}(h:A):if true=true then A else B:=by
 rw[if_pos rfl];exact h
theorem bL{c A B:Prop}[Decidable c](b:c->A)(a:¬c->B):if c then A else B:=by
 by_cases h:c
 ·rw[if_pos h];exact b h
 ·rw[if_neg h];exact a h
theorem rN{c A B:Prop}[Decidable c](a:c)(h:B):if (!decide c)=true then A else B:=by
 rw[decide_eq_true a];exact eF h
def aU(H H':Hp):Prop:=∀b o,H b=some o->H' b=some o
theorem aU.refl(H:Hp):aU H H:=λ_ _ h=>h
theorem aU.trans{d:Hp}(a:aU H H')(b:aU H' d):aU H d:=λc o h=>b c o (a c o h)
theorem aU.free{H':Hp}(e:aU H H'){l:Addr}(h:H' l=ajE):H l=ajE:=by
 cases q:H l with
 |none=>rfl
 |some o=>
  rw[e l o q]at h;cases h
theorem aU.seq{H':Hp}{a:Addr}{xs:List V}(e:aU H H')(h:T6 K H a xs):T6 K H' a xs:=by
 rcases h with (h|⟨o,h⟩) | h
 ·exact .inl (.inl (e _ _ h))
 ·exact .inl (.inr (o,e _ _ h))
 ·exact .inr h
end L2
namespace Tw
theorem az{p:Addr}(h:H p=none)(o:HO):aU H (upd H p o):=λb u q=>by rw[aG (aD q h)];exact q
theorem bT{H':Hp}{p:Addr}(s:aU H H')(h:H p=none)(o:HO):aU H (upd H' p o):=λb u q=>by rw[aG (aD q h)];exact s b u q
theorem small{n:Nat}(h:n<=4097):n<sizeLine:=aha h ∅
theorem bx:bootBuiltins "len" = some (.builtin "len"):=by decide +kernel
theorem Em:bootBuiltins "sum" = some (.builtin "sum"):=by decide +kernel
theorem b7:bootBuiltins "isinstance" = some (.builtin "isinstance"):=by decide +kernel
theorem zc:bootBuiltins "min" = some (.builtin "min"):=by decide +kernel
theorem rD:bootBuiltins "sorted" = some (.builtin "sorted"):=by decide +kernel
theorem Qi:bootBuiltins "int" = some (.type "int"):=by decide +kernel
theorem Pj:bootBuiltins "bool" = some (.type "bool"):=by decide +kernel
theorem pZ:bootBuiltins "list" = some (.type "list"):=by decide +kernel
theorem oW:bootBuiltins "tuple" = some (.type "tuple"):=by decide +kernel
theorem J3:bootBuiltins "str" = some (.type "str"):=by decide +kernel
theorem jc:bootBuiltins "reversed" = some (.type "reversed"):=by decide +kernel
theorem DG:bootBuiltins "set" = some (.type "set"):=by decide +kernel
theorem yU:bootBuiltins "zip" = some (.type "zip"):=by decide +kernel
theorem Ky{xs:List V}{lo a:Option Int}{x:V}(h:x∈cR xs lo a):x∈xs:=agX (ahg h)
theorem zP{lo a:Option Int}{i:Nat}{x:V}(h:(cR (d.map V.int) lo a)[i]?=some x):∃c:Int,x=.int c:=by
 obtain⟨c,_,e⟩:=aaZ.mp (Ky (aah h));exact(c,e.symm)
theorem Pk(a:List Int)(i j:Nat):cR (a.map V.int) (some (i:Int)) (some (j:Int))=((a.drop i).take (j-i)).map V.int:=by
 unfold cR;rw[HT.ie,HT.ie,ahX,aif,aaa];rcases aay a.length i with h|h
 ·rw[ag7 (agu h),af5 (by simp),af5 (by simp;lia)];simp
 ·rw[acW h];rcases aay a.length j with q|q
  ·rw[ag7 (agu q),aai (by simp),aai (by simp;lia)]
  ·rw[acW q]
theorem Ko(a:List Int)(j:Nat):cR (a.map V.int) none (some (j:Int))=(a.take j).map V.int:=by
 unfold cR;rw[HT.ie,HT.jN,ahX,aaa,ahx,ahn];rcases aay a.length j with q|q
 ·rw[ag7 (agu q),aai (by simp),aai (by simp;lia)]
 ·rw[acW q]
theorem Mj(a:List Int)(i:Nat):cR (a.map V.int) (some (i:Int)) none=(a.drop i).map V.int:=by
 unfold cR;rw[HT.ie,HT.jN,aif,aaa];rcases aay a.length i with h|h
 ·rw[ag7 (agu h),af5 (by simp),af5 (by simp;lia)];simp
 ·rw[acW h,aai (by simp)]
theorem int_at{i:Nat}{x:V}(h:(d.map V.int)[i]?=some x):∃c,d[i]?=some c/\x=.int c:=by
 rw[aag]at h;cases e:d[i]? with
 |none=>rw[e]at h;cases h
 |some c=>rw[e]at h;exact(c,7,(aax h).symm)
theorem pR{i:Nat}{c:Int}(h:d[i]?=some c):Ux (d.map V.int) (i:Int)=some (.int c):=mR (by rw[aag,h];rfl)
structure Df(K:PySem.W.Frag)(mg:Str->Option Value)(x:Str)(st:Stmt)(ps:List Str)(f:Addr)(fd:FuncData):Prop where
 F:UV K x x st f fd
 b:Binds K fd ps []
 m:mg x=some (.ref f)
def bit(b:Int)(k:Nat):Int:=b / 2^k%2
def bits(b:Int)(n:Nat):List Int:=(agq n).map (bit b)
def ones(b:Int)(n:Nat):Int:=(bits b n).sum
theorem gF(b:Int)(n:Nat):(bits b n).length=n:=by simp[bits]
theorem Hx(b:Int)(n:Nat):bits b (n+1)=bits b n++[bit b n]:=by simp[bits,agL]
theorem rz(b:Int):ones b 0=0:=rfl
theorem ig(b:Int)(n:Nat):ones b (n+1)=ones b n+bit b n:=by
 unfold ones;rw[Hx];simp
theorem uQ{b:Int}{n k:Nat}(h:k<n):(bits b n)[k]?=some (bit b k):=by simp[bits,h]
theorem yd(b:Int)(k:Nat):bit b k=0\/bit b k=1:=by
 unfold bit;lia
theorem Hm(b:Int){k n:Nat}(h:k<=n):ones b k<=ones b n:=by
 induction n with
 |zero=>
  have:k=0:=by lia
  subst this;lia
 |succ n a=>
  rcases aay k (n+1)with c | c
  ·have:=a ⋯;have:=yd b n;rw[ig];lia
  ·have:k=n+1:=by lia
   subst this;lia
theorem place_below{b:Int}{k n:Nat}(a:bit b k=1)(h:k<n):ones b k<ones b n:=by
 have:=Hm b (show k+1<=n by lia);rw[ig]at this;lia
def aZ(a:List Int):Prop:=∀b∈a,b=0\/b=1
theorem aZ.tail{b:Int}{a:List Int}(h:aZ (b::a)):aZ a:=λx c=>h x (.tail _ c)
theorem aZ.head{b:Int}{a:List Int}(h:aZ (b::a)):b=0\/b=1:=h b (.head _)
theorem aZ.take(h:aZ d)(k:Nat):aZ (d.take k):=λx a=>h x (ahg a)
theorem aZ.drop(h:aZ d)(k:Nat):aZ (d.drop k):=λx a=>h x (agX a)
def blk:List Int->Int
 |[]=>0
 |b::r=>2*blk r+b
theorem BV(b:Int):bit b 0=b%2:=by simp[bit]
theorem yI(b:Int)(k:Nat):bit b (k+1)=bit (b / 2) k:=by
 unfold bit;rw[aiB ∅,<-Int.pow_succ']
theorem ug:∀{a:List Int},aZ a -> ∀k:Nat,bit (blk a) k=(a[k]?).getD 0
 |[],_,k=>by simp[blk,bit]
 |b::r,h,0=>by
  have:=h.head;rw[BV];simp only[blk,List.getElem?_cons_zero,ajg];lia
 |b::r,h,k+1=>by
  have c:=h.head;rw[yI,ahY];have e:blk (b::r) / 2=blk r:=by simp only[blk];lia
  rw[e];exact ug h.tail k
theorem lZ{a:List Int}(h:aZ a):∀k:Nat,ones (blk a) k=(a.take k).sum
 |0=>by simp[rz]
 |k+1=>by
  rw[ig,lZ h k,ug h];by_cases b:k<a.length
  ·rw[abH,aad b];simp only[aiZ,ahZ,ahq,ajA,ajg];lia
  ·rw[aai ⋯,aai ⋯,ahb ⋯];simp
def many(n:Nat):Nat:=(n+31) / 32
def cL(a:List Int)(j:Nat):Int:=blk ((a.drop (32*j)).take 32)
def bB(a:List Int):List Int:=(agq (many a.length)).map (cL a)
theorem bD(a:List Int):(bB a).length=many a.length:=by simp[bB]
theorem jH{j:Nat}(h:j<many d.length):(bB d)[j]?=some (cL d j):=by simp[bB,h]
theorem uC(h:aZ d)(j:Nat):aZ ((d.drop (32*j)).take 32):=(h.drop _).take _
theorem bit_at(h:aZ d)(j k:Nat)(a:k<32):bit (cL d j) k=(d[32*j+k]?).getD 0:=by
 unfold cL;rw[ug (uC h j),adI a,agF]
def net(b:Int)(k:Nat):Int:=2*ones b k-k
theorem KN(b:Int):net b 0=0:=by simp[net,rz]
theorem An(b:Int)(k:Nat):net b (k+1)=net b k+2*bit b k-1:=by
 unfold net;rw[ig];lia
def nets(b:Int)(n:Nat):List Int:=(agq n).map λk=>net b (k+1)
theorem jg(b:Int)(n:Nat):(nets b n).length=n:=by simp[nets]
theorem JD(b:Int)(n:Nat):nets b (n+1)=nets b n++[net b (n+1)]:=by simp[nets,agL]
theorem K7{b:Int}{n k:Nat}(h:k<n):(nets b n)[k]?=some (net b (k+1)):=by simp[nets,h]
theorem Cd{b:Int}{n:Nat}{x:Int}:x∈nets b n ↔ ∃k,1<=k/\k<=n/\x=net b k:=by
 unfold nets;rw[aaZ];constructor
 ·rintro⟨k,a,rfl⟩;exact(k+1,9,by have:=ahw.mp a;lia,7)
 ·rintro⟨k,d,c,rfl⟩;exists k-1,ahw.mpr ⋯;have e:k-1+1=k:=by lia
  rw[e]
def ht(a:List Int)(k:Nat):Int:=2*(a.take k).sum-k
theorem gh(a:List Int):ht a 0=0:=by simp[ht]
theorem pM{k:Nat}{b:Int}(h:d[k]?=some b):ht d (k+1)=ht d k+2*b-1:=by
 unfold ht;rw[abH,h];simp only[aiZ,ahZ,ahq,ajA];lia
theorem oR(b:List Int)(a k:Nat):(b.take (a+k)).sum=(b.take a).sum+((b.drop a).take k).sum:=by
 rw[ai0,ahZ]
theorem pC(h:aZ d)(j k:Nat)(a:k<=32):ht d (32*j+k)=ht d (32*j)+net (cL d j) k:=by
 unfold ht net cL;rw[lZ (uC h j),oR,ah4,acW a];lia
theorem Ge(h:aZ d)(j k:Nat)(a:k<=32):ones (cL d j) k=((d.drop (32*j)).take k).sum:=by
 unfold cL;rw[lZ (uC h j),ah4,acW a]
theorem m8(h:aZ d)(j k:Nat)(a:k<=32):(d.take (32*j)).sum+ones (cL d j) k=(d.take (32*j+k)).sum:=by
 rw[Ge h j k a,oR]
def Due(b:Int)(st a:Nat)(g:Int)(k:Nat):Prop:=st<k/\k<=a/\net b k<=g
theorem Jb(b:Int)(n:Nat):bits b (n+1)=b%2::bits (b / 2) n:=by
 unfold bits;rw[List.range_succ_eq_map,aar,BV,ag1];congr 1;refine ahR λk _=>?_;exact yI b k
theorem Av:∀(n:Nat) (b:Int),0<=b->b<2^n->blk (bits b n)=b
 |0,b,c,a=>by
  have:b=0:=by simp at a;lia
  subst this;rfl
 |n+1,b,c,a=>by
  rw[aja]at a;rw[Jb,blk,Av n (b / 2) ⋯ ⋯];lia
theorem Be(b:Int)(n:Nat):aZ (bits b n):=λx a=>by
 obtain⟨k,_,rfl⟩:=aaZ.mp a;exact yd b k
end Tw
namespace L2
open PySem.Spec PyProof.Rows
theorem Inv.turn2{e p:Addr}{o:HO}{t':Nat}(I:Inv X π σ H s)(g:gK X π H e)(f:gK X π H a)
  (k:∀b u,b≠e->b≠a->s.heap.get? b=some u->h'.get? b=some u)(A:s.heap.objs.size<=p)
  (t:bH X.prog X.w (upd H p o) h' p o):Inv X π σ (upd H p o) {s with heap:=h',toks:=t'}:=by
 have E:=I.hok.fresh A;have y:∀b u,H b=some u->b≠e:=λb u q z=>by rw[z,g.1]at q;cases q
 have x:∀b u,H b=some u->b≠a:=λb u q z=>by rw[z,f.1]at q;cases q
 have h:∀b u,H b=some u->upd H p o b=some u:=λb u q=>by rw[aG (aD q E)];exact q
 have l:∀b u,b∉[e,a]->s.heap.get? b=some u->h'.get? b=some u:=λb u d q=>k b u (λz=>d (by simp[z])) (λz=>d (by simp[z])) q;refine I.step (g':=s.gens) (d':=s.drawn) (ch:=[e,a]) (λb d=>?_) (λb u _ _ i q _=>l b u i q) (λb u _ _ i q _=>(u.slots,l b u i q))
  (λb u _ q n=>by rw[aG (aan (aak (Heap.lt_size q) A))];exact n) (λb u i q=>(u,l b u i q))
  (λb C q=>h _ _ q) (λb j u q=>h _ _ q) (λb K q=>(#[],by rw[h _ _ q];simp)) (λm F=>?_) (λb u q=>?_) I.bare
 ·rcases aas.mp d with rfl|d
  ·exact(g.2.2.2.1,g.2.1,g.2.2.2.2.1,g.2.2.2.2.2)
  ·rw[aam.mp d];exact(f.2.2.2.1,f.2.1,f.2.2.2.2.1,f.2.2.2.2.2)
 ·obtain⟨j,G,J,D,r⟩:=F;exact(j,G,J,k _ j (agG g.2.1) (agG f.2.1) D,r)
 ·by_cases d:b=p
  ·subst d;rw[ao]at q;cases q;exact t
  ·rw[aG d]at q;refine(I.hok b u q).stay (λc v B r=>k c v ?_ ?_ r) (λc r=>h _ _ r) λc C r=>h _ _ r
   ·rcases B with rfl|z
    ·exact y _ _ q
    ·exact y _ _ z
   ·rcases B with rfl|z
    ·exact x _ _ q
    ·exact x _ _ z
def WQ(K:PySem.W.Frag)(a:Addr):It:=
  (λi H=>∃b x,T6 K H a b/\b[i]?=some x,λi H x c=>∃p y,H p=none/\x=.ref p/\c=upd H p (.tup [.int (i:Int),y]) /\ ∀b,T6 K H a b->b[i]?=some y,
   λi H=>∃b,T6 K H a b/\b.length<=i)
theorem Jc{w:World}(a e m:Addr)(y:e≠m):
  Turn prog w K (.Tuple u n p) (WQ K a) [e,m] e (λi h=>(∃g,IsEnum h e m (i:Nat) g)/\h.IsListIter m a i) where
 mem:=by simp
 obj:=λi h f b l=>by
  obtain⟨⟨g,j⟩,o,ho,L,hd⟩:=f;rcases aas.mp l with rfl|l
  ·exact(_,j,λv z=>by cases z)
  ·rw[aam.mp l];exact(o,ho,λv z=>by rw[hd]at z;cases z)
 keep:=λi h h' f k=>by
  obtain⟨⟨g,j⟩,f⟩:=f;exact((g,k e (by simp) _ j),f.at λo q=>k m (by simp) o q)
 item:=by
  intro X M G N L i π s σ H E I t f J;subst M G N;obtain⟨xs,x,B,F⟩:=J;obtain⟨Q,D,c,hz⟩:=I.list B;obtain⟨d,hu,ru⟩:=D.get F;obtain⟨⟨g,j⟩,f⟩:=f;refine wpAny_pyNext_enum_item j f c.isList (x:=d) (by simpa using hu) y λh1 U A R a0 S=>?_;refine(5,wpAny_letOwnedTupleGo_enum U λC V r=>?_);have ee:e<s.heap.objs.size:=Heap.lt_size j
  have g2:C.get? s.heap.objs.size=some {cls:=.type "tuple",data:=.seq #[.int (i:Int) s.toks,d]}:=(r.2 _ (ahB ee)).trans R
  have kk:∀b o,b≠e->b≠m->s.heap.get? b=some o->C.get? b=some o:=λb o h3 h4 q=>(r.2 b h3).trans (S b o h3 h4 q);have O:bH X.prog X.w (upd H s.heap.objs.size (.tup [.int (i:Int),x])) C s.heap.objs.size (.tup [.int (i:Int),x]):=
   ((by show 2<=sizeLine;decide),[.int (i:Int) s.toks,d],.cons (_,7) (.cons ru .nil),_,g2,7,5)
  have I2:=I.turn2 (h':=C) (t':=s.toks+1) (t e (by simp)) (t m (by simp)) kk (aac _) O;have hn:H s.heap.objs.size=none:=I.hok.fresh (aac _);refine(.ref s.heap.objs.size,_,I2,7,(_,x,hn,7,7,λys hy=>by rw[I.list_inj hy B];exact F),((d,by simpa using V),A.extBut r.extBut (agG y)),λb l=>?_);have Z:=(t b l).1;have Y:b≠s.heap.objs.size:=by
   obtain⟨o,T,_⟩:=f;rcases aas.mp l with rfl|l
   ·exact aan ee
   ·rw[aam.mp l];exact aan (Heap.lt_size T)
  rw[aG Y];exact Z
 done:=by
  intro X M G N L i π s σ H E I t f J;subst M G N;obtain⟨xs,B,F⟩:=J;obtain⟨Q,D,c,hz⟩:=I.list B;obtain⟨f0,f1,f2,f3,f4,f5⟩:=t m (by simp);obtain⟨⟨g,j⟩,f⟩:=f;have hl:=D.length;exact wpAny_pyNext_enum_end (I.ok.hd L) j f c.isList (by simp;lia) λh' eb=>(7,I.turned (t':=s.toks) (λb o l q=>eb b o l q) f0 f1 f3 f4 f5)
 self:=λ_ _ _ _ _ f h=>by
  obtain⟨⟨g,j⟩,_⟩:=f;exact wpAny_pyIter_enum j h
inductive Pq(K:PySem.W.Frag)(R:It->Hp->Prop)(vs:List V)(H1:Hp):Prop
 | mk (a xs:_) (_:vs=[.ref a]) (_:T6 K H1 a xs) (_:R (WQ K a) H1)
def RT(K:PySem.W.Frag)(b:TA):TI:=λ a H R=>b a H (Pq K R)
theorem ud{a:Expr}{p pos:Pos}(E:Gl X "enumerate")(C:X.mg "enumerate" = none)(F:PA X [a] t)(A:starEach [a] X.env=[(pq false (eval a X.env))]:=by rfl):
  PI X (.Tuple u n apos) (.Call (.Name "enumerate" p) [a] [] pos) (RT X.K t):=by
 intro m s l H R I h;refine Call_ (dH I E C boot_enumerate (PyProof.Rows.callWith_type1 (T7 (F pos m s l H _ I h) λP f ⟨O,r,i,w,x⟩=>?_) A rfl));obtain⟨b,N,e,B,q⟩:=x;subst e;obtain⟨d,rfl,v⟩:=vals1 w;cases v;obtain⟨L,Q,y,S⟩:=i.list B;refine call_enumerate_list y.isList λG o k M D=>?_;refine wpAny_pyIter_enum o ?_;have J:Inv X m l r {f with heap:=G}:=i.kept (t':=f.toks) D;have z:f.heap.objs.size+1≠f.heap.objs.size:=by lia
 refine(f.heap.objs.size+1,[f.heap.objs.size+1,f.heap.objs.size],_,WQ X.K b,r,7,J,Jc b _ _ z,((_,o),k),λc j=>?_,q);have g:f.heap.objs.size<=c:=by
  rcases aas.mp j with rfl|j
  ·lia
  ·rw[aam.mp j];lia
 exact i.fpOk g (i.hok.fresh g)
theorem uE{a:Addr}{xs:List V}{g:TG}{k:TS}{D:Ends}{σ:St}(b:Nat->St->Hp->Prop)(v:b 0 σ H)(t:∀i σ H,i<=xs.length->b i σ H->T6 K H a xs)
  (r:∀i x σ H p,xs[i]?=some x->b i σ H->H p=none->g (.ref p) σ (upd H p (.tup [.int (i:Int),x])) λ d j=>k {D with nx:=b (i+1),ct:=b (i+1),bk:=D.nx} d j)(hd:∀σ H,b xs.length σ H->D.nx σ H):
  ∃W:Nat->Nat->St->Hp->Prop,(∃m,W 0 m σ H) /\ ∀i m σ H,W i m σ H ->
   ((WQ K a).stop i H/\D.nx σ H)\/((WQ K a).go i H /\ ∃N:St->Hp->Prop,(∀f H',N f H' -> ∃l,l<m/\W (i+1) l f H') /\ ∀x H',(WQ K a).Vo i H x H'->g x σ H' λ d j=>k {D with nx:=N,ct:=N,bk:=D.nx} d j):=by
 exists λi m σ H=>m=xs.length-i/\i<=xs.length/\b i σ H,(xs.length,by simp,aaD _,v);rintro i m σ H ⟨rfl,u,p⟩;have q:=t i σ H u p;by_cases h:i<xs.length
 ·refine .inr ((xs,xs[i],q,by simp[h]),b (i+1),λ f H' n=>(xs.length-(i+1),9,7,h,n),λx H' y=>?_);obtain⟨c,y,s,z,w,o⟩:=y;subst z w;exact r i y σ H c (o xs q) p s
 ·have e:i=xs.length:=by lia
  subst e;exact .inl ((xs,q,aac _),hd σ H p)
theorem wA(n:X.calm=true):eU X (.builtin "sum") (λxs H Q=>∃(p:Addr) (a:List Int),xs=[.ref p]/\T6 X.K H p (a.map V.int)/\Q (.int a.sum) H):=by
 intro v s t H xs w Q I r h;obtain⟨p,a,rfl,l,q⟩:=h;obtain⟨u,rfl,i⟩:=vals1 r;cases i;obtain⟨o,j,k,x⟩:=I.list l;have c:=intsAre_of j;obtain⟨b,e⟩:=c.allInts.items;refine sum_intListG (xs:=b) (I.ok.hd n) (by rw[<-e];exact k.isList) λy f g m=>(.int a.sum,H,I.kept (t':=f) m,(g,8),q);have d:numsOf (intItems b).toList=a:=by rw[<-e];exact c.numsOf
 rw[nums_intItems]at d;rw[<-d,preSum_eq,aai (by simp)]
theorem lD:eU X (.builtin "isinstance") (λxs H Q=>∃x T t b,xs=[x,.ty T]/\qM X.K H x t/\PySem.W.kitOne X.K t (.type T)=some b/\Q (.bl b) H):=by
 intro i s g H xs j Q I r h;obtain⟨x,T,t,b,rfl,a,e,q⟩:=h;obtain⟨u,v,rfl,d,f⟩:=vals2 r;obtain rfl:v=Value.type T:=f;exact Ij I d a e λc=>(.bl b,H,I.tok c,7,q)
def bI(X:Cx)(N:List Str)(a:Scope)(c:List (Str×Addr))(C:Addr)(s:Shared)(H:Hp)(b:List Addr):Cx:=
 {X with N:=N,s₀:=s,H₀:=H,env:=compEnvC a c C X.env,outer:=X.stack,ex:=b,fn:=λ_=>false,pn:=[],xe:=λ_ _=>False}
structure cu(X:Cx)(x:Str)(caps:List (Str×Nat))(scope:Scope)(cl:List (Str×Addr)):Prop where
 kind:scope.kind=.function
 ρ:∀y∈scope.names,y.2 ≠ .cell
 names:∀y∈scope.names,y.2=.local->scope.names.lookup y.1=some .local
 hx:scope.names.lookup x=some .local
 clos:closureFor scope X.env=pure cl
 cls:∀y c,cl.lookup y=some c->X.env.cells.lookup y=some c
 has:∀y,((relabel scope X.env).names.lookup y=some .cell\/(relabel scope X.env).names.lookup y=some .free) -> ∃c,cl.lookup y=some c
 nd:(x::caps.map (·.1)).Nodup
 cap:∀y j,(pq y j)∈caps->X.N[j]?=some y/\(X.env.scope.names.lookup y=some .cell\/X.env.scope.names.lookup y=some .free) /\
  ((relabel scope X.env).names.lookup y=some .cell\/(relabel scope X.env).names.lookup y=some .free)
def fQ(a:List (Str×Nat))(σ:St):St:=a.map λp=>(σ[p.2]?).getD none
theorem rO(a:List (Str×Nat))(σ:St):(fQ a σ).length=a.length:=by simp[fQ]
theorem Inv.comp{x:Str}{h':Heap}{tk:Nat}{m:Str->Option Value}{C:Addr}(I:Inv X π σ H s)(E:cu X x D scope v)(O:∀b∈g,gK X π H b)
  (W:∀b∈g,b<s.heap.objs.size)(L:s.heap.objs.size<=a)(P:s.heap.objs.size<=C)(Y:a≠C)(K:∀b o,s.heap.get? b=some o->h'.get? b=some o)(hn:h'.Ns C m)(hL:h'.get? a=some {cls:=.type "list",data:=.seq #[]}):
  Inv (bI X (x::D.map (·.1)) scope v C s H g) [] (none::fQ D σ) (upd H a (.lst [])) {s with heap:=h',toks:=tk}:=by
 have XC:=I.hok.fresh L;have U:=I.hok.fresh P;have B:∀y c,(bI X (x::D.map (·.1)) scope v C s H g).env.cells.lookup y=some c->X.env.cells.lookup y=some c:=λy c e=>E.cls y c e;have ZC:∀y c,X.env.cells.lookup y=some c->c<s.heap.objs.size:=λy c e=>by
  obtain⟨d,q⟩:=I.cell y c e;exact q.lt
 have up:∀b u,H b=some u->upd H a (.lst []) b=some u:=λb u q=>by rw[aG (aD q XC)];exact q
 have ok:(bI X (x::D.map (·.1)) scope v C s H g).Ok:=by
  refine(I.ok.mod,E.kind,I.ok.glob,I.ok.blt,P,λy z c h1 h2=>I.ok.inj y z c (B y c h1) (B z c h2),λy hy=>E.has y hy,λy c h=>absurd (show false=true from h) aal,I.ok.hd,I.ok.frames,.inl rfl,λb A=>?_,I.bs,aeY I.ok.Vj I.sz,λb o e A=>?_,λb A hz=>?_,I.stack,I.stkFree)
  ·obtain⟨f0,T,S,R,Q,f5⟩:=O b A;exact(aan (aak (W b A) P),λy c e=>Q y c (B y c e))
  ·obtain⟨f0,T,S,R,Q,f5⟩:=O b A;rcases R with z|z
   ·exact I.ok.noex b o e z
   ·exact absurd (aak (aak (Heap.lt_size e) I.ok.Vj) z) (agt _)
  ·obtain⟨f0,T,S,R,Q,f5⟩:=O b A;rcases aas.mp (I.stkSub b hz)with z|z
   ·exact T z
   ·exact S z
 exists ok,7,I.bare,8,(m,hn,λi y d e1 e2 e3=>?_),λy c e=>?_,8,λy c e=>?_,λp hp=>absurd (show p∈([]:List (Addr×Obj))from hp) (by simp),8
 ·exact Un.laid K L XC
 ·cases i with
  |zero=>cases e2
  |succ i=>
   have f:(D.map (·.1))[i]?=some y:=e1;have n:(fQ D σ)[i]?=some (some d):=e2;rw[aag]at f;unfold fQ at n;rw[aag]at n;cases F:D[i]? with
   |none=>rw[F]at f;cases f
   |some p=>
    rw[F]at f n;obtain⟨t,j⟩:=p;have ey:t=y:=aax f;subst ey;have M:(σ[j]?).getD none=some d:=aax n;have Z:σ[j]?=some (some d):=by
     cases q:σ[j]? with
     |none=>rw[q]at M;cases M
     |some w=>rw[q]at M;exact congrArg some M
    obtain⟨c1,c2,c3⟩:=E.cap t j (aah F);obtain⟨m0,a0,hl⟩:=I.loc;obtain⟨u,r,l⟩:=hl j t d c1 Z (by rcases c2 with z|z;exact .inr (.inl z);exact .inr (.inr z));refine(u,r,.inr (c3,8));rcases l with ⟨k,_⟩|⟨k,c,F,z⟩
    ·have J:X.env.scope.names.lookup t=some .local:=k;rcases c2 with z|z
     ·rw[z]at J;cases J
     ·rw[z]at J;cases J
    ·obtain⟨c',G⟩:=E.has t c3;have e4:=E.cls t c' G;rw[F]at e4;cases e4;obtain⟨o,N,hd⟩:=z;exact(c,G,o,K _ _ N,hd)
 ·obtain⟨d,o,N,hd⟩:=I.cell y c (B y c e);exact(d,o,K _ _ N,hd)
 ·show upd H a (.lst []) C=none;rw[aG (agG Y)];exact U
 ·have V:=ZC y c (B y c e);rw[aG (aan (aak V L))];exact I.freeC y c (B y c e)
 ·exact I.hok.laid K L (aaD _,[],_,.nil,hL)
 ·show (none::fQ D σ).length=(x::D.map (·.1)).length;simp[rO]
theorem Inv.comped{N:List Str}{C:Addr}{c:Shared}{a:St}{H':Hp}(I:Inv X π σ H s)(d:∀b∈g,gK X π H b)
  (J:Inv (bI X N scope v C s H g) [] a H' c):Inv X π σ H' c:=by
 refine I.call' (ch:=g) (J.os.trans rfl) J.base J.hok J.bare λb e=>?_;obtain⟨l,j,k,i,h,f⟩:=d b e;exact(i,j,h,f)
def jw(J:It)(e:St)(tt:TT)(j:TE)(k:Addr->Hp->Prop)(H:Hp):Prop:=
 ∀D,H D=none -> ∃W:Nat->Nat->List V->Hp->Prop,(∃m,W 0 m [] (upd H D (.lst []))) /\ ∀i m a d,W i m a d ->
  (J.stop i d/\k D d)\/(J.go i d /\ ∀v h,J.Vo i d v h->tt (some v::e) h λb g=>if b=true then
   j (some v::e) g λy f=>f D=some (.lst a)/\a.length<sizeLine /\ ∃c,c<m/\W (i+1) c (a++[y]) (upd f D (.lst (a++[y])))else ∃c,c<m/\W (i+1) c a g)
def Wn(X:Cx)(a:List Expr)(tt:TT):Prop:=
 ∀(π:List (Addr×Obj)) (s:Shared) (σ:St) (H:Hp) (Q:Bool->Hp->Prop),Inv X π σ H s->tt σ H Q ->
  wpAny (model X.prog X.w) X.A (forIn a true λc r=>if r=true then do let b <-isTrue c X.env (eval c X.env);pure (ForInStep.yield b)else pure (ForInStep.yield r)) (TP X π σ Q) X.xe s
def Kc:TT:=λ_ H Q=>Q true H
theorem fu:Wn X [] Kc:=λ_ _ _ H _ I h=>wpAny_tests_nil (H,I,h)
theorem GQ{c:Expr}{tt:TT}(h:PT X c tt):Wn X [c] tt:=λ π s σ H Q I q=>wpAny_tests_one (h π s σ H Q I q)
def dU(X:Cx)(fn:Str->Bool)(N:List Str)(a:Scope)(c:List (Str×Addr))(C:Addr)(s:Shared)(H:Hp)(b:List Addr):Cx:=
 {bI X N a c C s H b with fn:=fn}
theorem Inv.compedG{fn:Str->Bool}{N:List Str}{C:Addr}{c:Shared}{a:St}{H':Hp}(I:Inv X π σ H s)(d:∀b∈g,gK X π H b)
  (J:Inv (dU X fn N scope v C s H g) [] a H' c):Inv X π σ H' c:=by
 refine I.call' (ch:=g) (J.os.trans rfl) J.base J.hok J.bare λb e=>?_;obtain⟨l,j,k,i,h,f⟩:=d b e;exact(i,j,h,f)
theorem Ej{fn:Str->Bool}{x:Str}{pos:Pos}{iter:Expr}{J:It}{tn:Nat->Heap->Prop}{tt:TT}{C:Addr}{tk:Nat}
  {RR:Value->Addr->Result->Shared->Prop}(I:Inv X π σ H s)(hc:X.calm=true)(T:Turn X.prog X.w X.K (.Name x p) J g a tn)(hf:∀b∈g,gK X π H b)(a0:∀b∈g,b<s.heap.objs.size)(Z:s.heap.objs.size<=C)(eD:f=s.heap.objs.size)(a8:∀y c,v.lookup y=some c -> ∀b∈g,c≠b)
  (hg:PG (dU X fn (x::D.map (·.1)) scope v C s H g) (.Name x p) (iY 0))(ht:Wn (dU X fn (x::D.map (·.1)) scope v C s H g) u tt)(he:PE (dU X fn (x::D.map (·.1)) scope v C s H g) e ta)(rd:jw J (fQ D σ) tt ta B H)
  (a9:∀f C R H' m,Inv X π σ H' R->R.heap.Ns C m->gK X π H' C->B f H'->RR (.ref f) C (.ok .next) R)
  (I0:Inv (dU X fn (x::D.map (·.1)) scope v C s H g) [] (none::fQ D σ) (upd H f (.lst [])) {s with heap:=h',toks:=tk})(a5:tn 0 h'):
  codeAny (model X.prog X.w) X.A (.compLoop (.ListComp e [(.Name x p,iter,u,0)] scope pos) 0 (.ref a) (.ref f) (compEnvC scope v C X.env)) (RR (.ref f) C) {s with heap:=h',toks:=tk}:=by
 obtain⟨W,⟨m0,w0⟩,a1⟩:=rd f (I.hok.fresh (ahD eD.symm));refine codeAny_compLoop_tests (λn R=>∃i N L H',Inv (dU X fn (x::D.map (·.1)) scope v C s H g) [] (L::fQ D σ) H' R/\tn i R.heap/\(∀b∈g,H' b=none)/\W i n N H') ?_ m0
  (0,[],none,_,I0,a5,λb F=>?_,w0)
 ·rintro n s3 ⟨i,N,L,H3,I3,Y,Wm,w3⟩;have WR:∀{H':Hp}{pi:List (Addr×Obj)},(∀b∈g,H' b=none)->(∀j∈pi,j.1∉g) -> ∀b∈g,gK (dU X fn (x::D.map (·.1)) scope v C s H g) pi H' b:=λ{H' pi} hn hp b F=>by
   obtain⟨f0,f1,f2,f3,f4,f5⟩:=hf b F;refine(hn b F,8,λz=>?_,.inl F,λy c k=>a8 y c k b F,λj a7 z=>?_)
   ·exact aan (aak (a0 b F) Z)
   ·rcases aas.mp (I.stkSub b z)with q|q
    ·exact f1 q
    ·exact f2 q
   ·exact hp j (by simpa [dU,bI]using a7) (by rw[z];exact F)
  have clear:∀{α:Type}{t:Sem α}{Q:α->Shared->Prop}{E':Value->Shared->Prop}{s:Shared},wpAny (model X.prog X.w) X.A t Q (λ_ _=>False) s->wpAny (model X.prog X.w) X.A t Q E' s:=λh=>wpAny_mono h (λ_ _ z=>z) λ_ _ z=>z.elim;rcases a1 i n N H3 w3 with ⟨a2,qf⟩|⟨go,a3⟩
  ·refine T7 (T.done (dU X fn (x::D.map (·.1)) scope v C s H g) rfl rfl rfl hc i [] s3 _ H3 _ I3 (WR Wm (by simp)) Y a2) λr s4 ⟨hr,I4⟩=>?_;subst hr;obtain⟨m4,Yz,_⟩:=id I4.loc;refine a9 f _ s4 H3 m4 (I.compedG hf I4) Yz ?_ qf;have gC:s.heap.objs.size<=C:=Z;exact I.fpOk gC I4.free
  ·refine clear (T7 (T.item (dU X fn (x::D.map (·.1)) scope v C s H g) rfl rfl rfl hc i [] s3 _ H3 (λ_ _=>False) I3 (WR Wm (by simp)) Y go) λr s4 ⟨E,hr,h4⟩=>?_);subst hr;refine clear (show wpAny (model X.prog X.w) X.A (pure () >>= λ_=>assign (.Name x p) (compEnvC scope v C X.env) E) _ _ s4 from wpAny_bind (T7 (h4:wpAny (model X.prog X.w) X.A (pure ()) _ _ s4) λ_ s5 ⟨l,H5,I5,r5,y5,Vu,Xw⟩=>?_));have Xx:=I5.pinned (WR Xw (by simp)) (T.obj _ _ Vu);refine T7 (hg _ s5 (L::fQ D σ) H5 l E (λ a4 H2=>a4=some l::fQ D σ/\H2=H5) Xx r5 (show _/\_ from (7,7))) λ_ s6 ⟨b0,H6,I6,e6,e7⟩=>?_;subst e6 e7;have q6:=a3 l _ y5;have G:∀{O:Hp}{P:Shared}{L:Option V}{zs:List V}{M:Nat},Inv (dU X fn (x::D.map (·.1)) scope v C s H g) ([]++qe g s5.heap) (L::fQ D σ) O P->M<n->W (i+1) M zs O ->
     ∃m,m<n /\ ∃i N L H',Inv (dU X fn (x::D.map (·.1)) scope v C s H g) [] (L::fQ D σ) H' P/\tn i P.heap/\(∀b∈g,H' b=none)/\W i m N H':=λ{O P L zs M} S U w7=>by
    refine(M,U,i+1,zs,L,O,S.ξ,T.keep _ _ _ Vu λb F o k=>(S.pin (pq b o) (aat _ (aat _ (fW F k)))).1,λb F=>?_,w7);obtain⟨o,k,d⟩:=T.obj _ _ Vu b F;exact(S.pin (pq b o) (aat _ (aat _ (fW F k)))).2.1
   refine clear (T7 (ht _ s6 _ H6 _ I6 q6) λok P ⟨O,S,q7⟩=>?_);cases ok with
   |false=>
    obtain⟨M,U,w7⟩:=(show ∃M,M<n/\W (i+1) M N O from q7);exact G S U w7
   |true=>
    refine clear (T7 (he _ P _ O _ S q7) λxv s8 ⟨y,H8,I8,r8,ZD,a6,M,U,w8⟩=>?_);refine clear (T7 (bN _ s8 _ H8 (.ref f) [y] (.ref f) [xv] (λ_ H9=>H9=upd H8 f (.lst (N++[y]))) I8 rfl (.cons r8 .nil) (f,N,y,7,7,ZD,a6,7)) λ_ s9 ⟨_,H9,I9,_,e9⟩=>?_);subst e9;exact G I9 U w8
 ·rw[aG (by rw[eD];exact aan (a0 b F))];exact(hf b F).1
theorem xY{x:Str}{pos:Pos}{iter:Expr}{J:It}{M:Nat->Heap->Prop}{tt:TT}
  {RR:Value->Addr->Result->Shared->Prop}{E:Value->Shared->Prop}(I:Inv X π σ H s)(hc:X.calm=true)(n:cu X x D scope v)(T:Turn X.prog X.w X.K (.Name x p) J g a M)(st:M 0 s.heap)(P:∀b∈g,gK X π H b)
  (ht:∀C N V S,Wn (bI X (x::D.map (·.1)) scope v C N V S) u tt)(he:∀C N V S,PE (bI X (x::D.map (·.1)) scope v C N V S) e ta)(rd:jw J (fQ D σ) tt ta B H)
  (W:∀h C O H' m,Inv X π σ H' O->O.heap.Ns C m->gK X π H' C->B h H'->RR (.ref h) C (.ok .next) O):
  wpAny (model X.prog X.w) X.A (newList []) (λG s3=>wpAny (model X.prog X.w) X.A (newFunctionEnv scope X.env.globals v [] X.env.qual none .none (some X.env)) (λl s4=>
   codeAny (model X.prog X.w) X.A (.compStart (.ListComp e [(.Name x p,iter,u,0)] scope pos) 0 (.ref a) G {l with scope:=relabel scope X.env}) (RR G l.locals) s4) E s3) E s:=by
 have F:∀b∈g,b<s.heap.objs.size:=λb Q=>by
  obtain⟨o,d,_⟩:=T.obj _ _ st b Q;exact Heap.lt_size d
 refine wpAny_newObj_type (wpAny_newFunctionEnv n.ρ (by intro y hy;simp at hy) (λR q j=>?_) n.kind);dsimp only at q j ⊢;obtain⟨h,r⟩:∃h:Nat,h=s.heap.objs.size:=(_,7)
 obtain⟨U,L⟩:∃f,f=s.heap.push {cls:=.type "list",dict:=none,data:=.seq ([]:List Value).toArray}:=(_,7)
 rw[<-L]at q j ⊢;rw[<-r];have hC:U.objs.size=h+1:=by rw[L,Heap.size_push,r]
 have z:s.heap.objs.size<=U.objs.size:=by rw[hC,r];exact ahe _
 have Y:h≠U.objs.size:=by rw[hC];exact aan (agW _)
 have Z:∀b o,s.heap.get? b=some o->R.get? b=some o:=λb o d=>by
  refine j.extBut b o (aan (aak (Heap.lt_size d) z)) (Heap.get?_push_of_some _ ?_);rw[L];exact Heap.get?_push_of_some _ d
 have hL:R.get? h=some {cls:=.type "list",data:=.seq #[]}:=by
  refine j.extBut h _ ⋯ (Heap.get?_push_of_some _ ?_);rw[L,r];exact Heap.get?_push_size _ rfl
 have t:M 0 R:=T.keep _ _ _ st λb _ o d=>Z b o d;have k:=Ej (fn:=λ_=>false) (pos:=pos) (iter:=iter) (RR:=RR) I hc T P F z r (λy c d b Q=>(P b Q).2.2.2.2.1 y c (n.cls y c d)) (mL (i:=0) n.nd rfl (ahy (lookup_relabel_local n.hx)) (ah6 (lookup_relabel_local n.hx))) (ht _ _ _ _) (he _ _ _ _) rd W (I.comp (tk:=s.toks+([]:List (Str×Value)).length) n P F ⋯ ⋯ Y Z q hL) t;exact codeAny_compStart_list k (T.self _ 0 _ _ _ t k)
def Mt(a:List (Str×Nat))(tt:TT)(b:TE)(σ:St)(Q:VK):It->Hp->Prop:=λJ c=>jw J (fQ a σ) tt b (λD d=>Q (.ref D) d) c
def PL(b:TI)(a:List (Str×Nat))(tt:TT)(c:TE):TE:=λ σ H Q=>b σ H (Mt a tt c σ Q)
theorem mO{x:Str}{pos:Pos}{iter:Expr}{y:TI}{tt:TT}(L:X.calm=true)(j:cu X x D scope v)(G:PI X (.Name x p) iter y)
  (ht:∀C i l k,Wn (bI X (x::D.map (·.1)) scope v C i l k) u tt)(K:∀C i l k,PE (bI X (x::D.map (·.1)) scope v C i l k) e ta)(E:∀x,foldedSetIterable iter X.env x=pure x:=by intro _;rfl):
  PE X (.ListComp e [(.Name x p,iter,u,0)] scope pos) (PL y D tt ta):=by
 intro π s σ H Q I h;rw[eval_ListComp];refine wpAny_comprehension_free (use:=none) rfl E j.clos j.kind j.names (T7 (G π s σ H _ I h) λc i O=>T7 O λV Y N=>?_);obtain⟨Z,fp,W,J,H2,a,R,T,n,P,B⟩:=N;subst a;refine xY (RR:=λt C=>compPost (model X.prog X.w) X.A X.xe none (EP X π σ Q) t C) R L j T n P ht K B ?_;intro d C z U m S F f q;exact(m,F,λr g=>(.ref d,U,S.turned (h':=r) (t':=z.toks) (λb o M a=>g.extBut b o M a) f.1 f.2.1 f.2.2.2.1 f.2.2.2.2.1 f.2.2.2.2.2,7,q))
theorem kW{i:Nat}{y x:Str}{pos g:Pos}{iter:Expr}{O:TI}{tt:TT}(hN:X.N.Nodup)(XD:X.N[i]?=some y)(P:X.env.scope.names.lookup y=some .local)(hc:X.calm=true)
  (t:cu X x D scope v)(Z:PI X (.Name x p) iter O)
  (ht:∀C r E B,Wn (bI X (x::D.map (·.1)) scope v C r E B) u tt)(he:∀C r E B,PE (bI X (x::D.map (·.1)) scope v C r E B) e ta)
  (K:swapsWith (.ListComp e [(.Name x p,iter,u,0)] scope pos) (some (.Name y apos)) g.line X.env=pure true:=by rfl)(V:∀x,foldedSetIterable iter X.env x=pure x:=by intro _;rfl):
  PS X (.Assign [.Name y apos] (.ListComp e [(.Name x p,iter,u,0)] scope pos) g) (Hf (PL O D tt ta) (iY i)):=by
 intro π s σ H R I h;rw[exec_Assign_Name_used _ _ _ _ K];refine wpAny_bind (wpAny_standAt (wpAny_bind ?_));show wpAny _ X.A (do let _ <-comprehension (.ListComp e [(.Name x p,iter,u,0)] scope pos) scope X.env _ (newList []) false (eval iter X.env) (some (assign (.Name y apos) X.env))) _ _ s;refine wpAny_bind (wpAny_mono (wpAny_comprehension_free (use:=some (assign (.Name y apos) X.env)) (Q:=λ_ k=>SP X π R .next k) rfl V t.clos t.kind t.names
  (T7 (Z π s σ H _ I h) λd r h1=>T7 h1 λa0 s2 h2=>?_)) (λ_ k W=>wpAny_pure (wpAny_pure W)) λ_ _ c=>c)
 obtain⟨it,fp,tn,J,H2,c,I2,T,F,f2,U⟩:=h2;subst c;refine xY (RR:=λM C=>compPost (model X.prog X.w) X.A X.xe (some (assign (.Name y apos) X.env)) (λ_ k=>SP X π R .next k) M C) I2 hc t T F f2 ht he U ?_;intro f C k H' m I' Y j q;show wpAny _ X.A (assign (.Name y apos) X.env (.ref f)) _ _ _;refine wpAny_assign_Name (mY (v:=.ref f) I' hN XD (.inl P) rfl (λG XF ch=>(m,8,λL n=>?_)) (.inr P))
 ·obtain⟨a,S,l⟩:=ch;refine Y.sameBut S λz=>?_;rcases l with l|l
  ·exact j.2.1 (z.trans l)
  ·exact j.2.2.2.2.1 _ a l z.symm
 ·exact(_,H',XF.turned (h':=L) (t':=G.toks) (λb o hb c=>n.extBut b o hb c) j.1 j.2.1 j.2.2.2.1 j.2.2.2.2.1 j.2.2.2.2.2,q)
theorem oJ{a:Env}{y:Str}{k:NameKind}(h:(relabel scope a).names.lookup y=some k):∃k0,(pq y k0)∈scope.names/\(k=k0\/(k0=.free/\k=.cell)):=by
 have h:=PySem.mem_of_lookup h;obtain⟨⟨n,k0⟩,d,e⟩:=aaZ.mp (show (pq y k)∈scope.names.map _ from h);by_cases c:(k0==NameKind.free&&a.scope.kind == .function&&a.kindOf n==some .cell)=true
 ·have b:(pq n NameKind.cell)=(pq y k):=by rw[<-e];exact(if_pos c).symm
  have f:k0=.free:=by
   simp only[ahP]at c;exact eq_of_beq c.1.1
  cases b;exact(_,d,.inr (f,7))
 ·have b:(pq n k0)=(pq y k):=by rw[<-e];exact(if_neg c).symm
  cases b;exact(_,d,.inl rfl)
theorem cu.zero(a:∀y∈scope.names,y.2 ≠ .free:=by decide)(i:∀y∈scope.names,y.2 ≠ .cell:=by decide)(d:scope.kind=.function:=by rfl)(b:∀y∈scope.names,y.2=.local->scope.names.lookup y.1=some .local:=by decide)
  (k:scope.names.lookup x=some .local:=by rfl):cu X x [] scope []:=by
 refine(d,i,b,k,closureFor_none a,λy c e=>(by cases e),λy f=>?_,by simp,λy j h=>nomatch h);rcases f with f|f
 all_goals
  obtain⟨l,g,e⟩:=oJ f;rcases e with e|⟨e,_⟩
  ·subst e
   first|exact absurd rfl (i _ g) | exact absurd rfl (a _ g)
  ·subst e;exact absurd rfl (a _ g)
theorem cu.one{y:Str}{j:Nat}{c:Addr}(t:X.N[j]?=some y)(s:X.env.scope.names.lookup y=some .cell\/X.env.scope.names.lookup y=some .free)(u:X.env.cells.lookup y=some c)(k:closureFor scope X.env=pure [(pq y c)])
  (r:(relabel scope X.env).names.lookup y=some .cell\/(relabel scope X.env).names.lookup y=some .free)
  (a:∀z∈scope.names,z.2=.free->z.1=y:=by decide)(o:∀y∈scope.names,y.2 ≠ .cell:=by decide)(g:scope.kind=.function:=by rfl)(b:∀y∈scope.names,y.2=.local->scope.names.lookup y.1=some .local:=by decide)
  (q:scope.names.lookup x=some .local:=by rfl)(p:[x,y].Nodup:=by decide):cu X x [(pq y j)] scope [(pq y c)]:=by
 have f:([(pq y c)]:List (Str×Addr)).lookup y=some c:=by simp
 refine(g,o,b,q,k,λz d e=>?_,λz l=>?_,p,λz i h=>?_)
 ·have:=PySem.mem_of_lookup e;cases aam.mp this;exact u
 ·have n:z=y:=by
   rcases l with l|l
   all_goals
    obtain⟨v,m,e⟩:=oJ l;rcases e with e|⟨e,_⟩
    ·subst e
     first|exact absurd rfl (o _ m) | exact a _ m rfl
    ·subst e;exact a _ m rfl
  subst n;exact(c,f)
 ·cases aam.mp h;exact(t,s,r)
section
variable{R:Result->Shared->Prop}{I:Addr}{fp wr:List Addr}{P:Nat->Value->Prop}{St:Nat->Heap->Prop}{kw:List (Str×Value)}
theorem Hl(W:Walks prog w A.in1 I fp wr n P St)(h:Nat->Nat->Bool)(H:CmpOf prog w A.in1 .Lt P h)(r:S∉fp):
  ∀(k j:Nat) (s:Shared) (x:Value) (c:Nat),j+1+k=n->St (j+1) s.heap->P (argBest h j) x->s.heap.get? S=some {cls:=.type "list",data:=.seq #[x,x] c} ->
   (∀v g t,P (argBest h (n-1)) v->(∀b o,b∉wr->b≠S->s.heap.get? b=some o->g.get? b=some o)->R (.ok (.ret v)) {s with heap:=g,toks:=t}) ->
   codeAny (model prog w) A (.builtin "min.loop" ([.ref I,.none,.ref S],kw)) R s:=by
 have p:S∉wr:=λz=>r (W.sub _ z)
 have J:(toString "min" ++ toString ".loop" : String) = "min.loop":=by decide
 intro k
 induction k with
 |zero=>
  intro j s x c M C u l d;have L:j+1=n:=M;refine codeAny_builtin PySem.F.entry_min_loop ?_;rw[Around.under_plainId PySem.F.plain_min_loop _];show wpAny _ A.in1 (seqItems? (.ref S) >>= _) _ _ s;refine wpAny_bind (wpAny_seqItems l rfl ?_);show wpAny _ A.in1 (tryCatch (pyNext (.ref I)) _ >>= _) _ _ s;refine wpAny_bind (wpAny_tryCatch (W.done s _ _ (L ▸ C) λg t f=>?_));have a:=f S _ p l;show wpAny _ A.in1 (updateSeq S (λ_=>#[]) >>= _) _ _ _;refine wpAny_bind (wpAny_updateSeq a rfl (wpAny_bind (wpAny_letGo (wpAny_pure ?_))));exact d x _ t (by rw[<-L];exact u) λb o e i q=>(Heap.get?_update_other _ _ (agG i)).trans (f b o e q)
 |succ k K=>
  intro j s x c M C u l d;have O:j+1<n:=by lia
  refine codeAny_builtin PySem.F.entry_min_loop ?_;rw[Around.under_plainId PySem.F.plain_min_loop _];show wpAny _ A.in1 (seqItems? (.ref S) >>= _) _ _ s;refine wpAny_bind (wpAny_seqItems l rfl ?_);show wpAny _ A.in1 (tryCatch (pyNext (.ref I)) _ >>= _) _ _ s;refine wpAny_bind (wpAny_tryCatch (W.item (j+1) s _ _ O C λv g t pv m f=>?_));have a:=f S _ p l;show wpAny _ A.in1 (tryCatch (holding [v,v] (richCompare .Lt v x >>= _)) _ >>= _) _ _ _;refine wpAny_bind (wpAny_tryCatch (wpAny_holding (wpAny_bind (H (j+1) (argBest h j) v x _ _ _ pv u ?_))));refine wpAny_bind (wpAny_holding (wpAny_truthy_bool (wpAny_bind (wpAny_letGo (wpAny_pure ?_)))));cases N:h (j+1) (argBest h j)with
  |true=>
   simp only[if_true];refine wpAny_bind (wpAny_updateSeq a rfl (wpAny_bind (wpAny_letGo ?_)));rw[J];refine wpAny_pure (plainId_quiet PySem.F.plain_min_loop _,K (j+1) _ v _ ⋯ (W.frame _ _ _ m λb Q o q=>?_) (by simp only[argBest,N,if_true];exact pv) (Heap.get?_update_self _ a rfl) λy G B D E=>?_)
   ·exact(Heap.get?_update_other _ _ (λz:S=b=>r (by rw[z];exact Q))).trans q
   ·exact d y G B D λb o e i q=>E b o e i ((Heap.get?_update_other _ _ (agG i)).trans (f b o e q))
  |false=>
   simp only[agr,if_false];refine wpAny_bind (wpAny_letGo ?_);rw[J];refine wpAny_pure (plainId_quiet PySem.F.plain_min_loop _,K (j+1) _ x c ⋯ m (by simp only[argBest,N,agr,if_false];exact u) a λy G B D E=>?_);exact d y G B D λb o e i q=>E b o e i (f b o e q)
theorem DY(W:Walks prog w A.in1 I fp wr n P St)(e:Nat->Nat->Bool)(j:CmpOf prog w A.in1 .Lt P e)(a:S∉fp)(C:0<n){s:Shared}{c:Nat}(st:St 0 s.heap)
  (l:s.heap.get? S=some {cls:=.type "list",data:=.seq #[] c})
  (i:∀v g t,P (argBest e (n-1)) v->(∀b o,b∉wr->b≠S->s.heap.get? b=some o->g.get? b=some o)->R (.ok (.ret v)) {s with heap:=g,toks:=t}):
  codeAny (model prog w) A (.builtin "min.loop" ([.ref I,.none,.ref S],kw)) R s:=by
 have h:S∉wr:=λz=>a (W.sub _ z)
 have x:(toString "min" ++ toString ".loop" : String) = "min.loop":=by decide
 refine codeAny_builtin PySem.F.entry_min_loop ?_;rw[Around.under_plainId PySem.F.plain_min_loop _];show wpAny _ A.in1 (seqItems? (.ref S) >>= _) _ _ s;refine wpAny_bind (wpAny_seqItems l rfl ?_);show wpAny _ A.in1 (tryCatch (pyNext (.ref I)) _ >>= _) _ _ s;refine wpAny_bind (wpAny_tryCatch (W.item 0 s _ _ C st λv g t pv f k=>?_));have d:=k S _ h l;show wpAny _ A.in1 (updateSeq S (λ_=>#[v,v]) >>= _) _ _ _;refine wpAny_bind (wpAny_updateSeq d rfl ?_);rw[x];refine wpAny_pure (plainId_quiet PySem.F.plain_min_loop _,Hl W e j a (n-1) 0 _ v _ ⋯ (W.frame _ _ _ f λb E o q=>?_) pv (Heap.get?_update_self _ d rfl) λy D r u B=>?_)
 ·exact(Heap.get?_update_other _ _ (λz:S=b=>a (by rw[z];exact E))).trans q
 ·exact i y D r u λb o p m q=>B b o p m ((Heap.get?_update_other _ _ (agG m)).trans (k b o p q))
end
theorem Iv(a v:Value):argsOk "min" ⟨[a],[(pq (Str.ofString "default") v)]⟩:=by unfold argsOk;kernel_rfl
section
variable{l:Addr}{zs:Array (Int×Tok)}
theorem qR{Q:Value->Shared->Prop}(x:A.handled=none)(r:s.heap.IsList l (intItems zs))(c:0<zs.size)
  (h:∀v g t,(intItems zs)[argBest (λi j=>decide (numAt zs i<numAt zs j)) (zs.size-1)]?=some v->(∀b o,s.heap.get? b=some o->g.get? b=some o)->Q v {s with heap:=g,toks:=t}):
  wpAny (model prog w) A (call (.builtin "min") [.ref l] [(pq (Str.ofString "default") q)]) Q E s:=by
 have u:(toString "min" ++ toString ".loop" : String) = "min.loop":=by decide
 refine PyProof.Rows.kmk_tree PySem.F.kind_min PySem.F.plain_min PySem.F.entry_min (Iv _ _) ?_
 refine wpAny_bind (wpAny_of_eq (show Builtin.Builtins.bindParams "min" ["key","default"] 0 ⟨[],[(pq (Str.ofString "default") q)]⟩=pure [none,some q]from rfl) ?_)
 refine wpAny_bind (wpAny_pure (wpAny_bind (iter_intList r λB e y m f=>?_)));subst e;refine wpAny_bind (wpAny_newObj_type ?_);rw[u];have n:(intItems zs).size=zs.size:=by simp[intItems]
 refine wpAny_pure (plainId_quiet PySem.F.plain_min_loop _,DY (Walks.list (A:=A.in1) x _ l f (intItems zs)) _ (CmpOf.ints_lt (numAt zs) (λ_ _=>intItems_at)) (λz=>agt _ (m _ z)) (by rw[n];exact c)
  ((_,Heap.get?_push_of_some _ (Heap.get?_push_size _ rfl),7,7),(r.push _).push _) (Heap.get?_push_size _ rfl) λv g t p k=>?_)
 refine h v g t (by rw[n]at p;exact p) λb o a=>k b o ?_ ?_ (Heap.get?_push_of_some _ (Heap.get?_push_of_some _ a))
 ·exact λz=>absurd (Heap.lt_size a) (by rw[aam.mp z];exact agt _)
 ·refine aan (aak (Heap.lt_size a) ?_);rw[Heap.size_push];exact ahe _
end
def Mw(M:Int)(b:List Int):Prop:=M∈b /\ ∀a∈b,M<=a
theorem Mh{zs:Array (Int×Tok)}(l:IntsAre r d)(e:r.toArray=intItems zs)(f:0<d.length):0<zs.size/\Mw (numAt zs (argBest (λi j=>decide (numAt zs i<numAt zs j)) (zs.size-1))) d:=by
 have b:d=zs.toList.map (·.1):=by rw[<-l.numsOf,<-nums_intItems,<-e]
 have c:0<zs.size:=by
  have h:=f;rw[b,aaa,aaf]at h;exact h
 obtain⟨n,m⟩:=argBest_lt (numAt zs) (zs.size-1);refine(c,8,λa g=>?_)
 ·rw[b,numAt_eq];exact getD_mem (by rw[aaa,aaf];lia)
 ·rw[b]at g;obtain⟨j,k,rfl⟩:=mem_getD g;rw[aaa,aaf]at k;rw[<-numAt_eq];exact m j ⋯
inductive Ny(K:PySem.W.Frag)(Q:VK)(vs:List V)(_:V)(H2:Hp):Prop
 | mk (p:Addr) (ns:List Int) (_:vs=[.ref p]) (_:T6 K H2 p (ns.map V.int)) (_:0<ns.length) (_:∀M,Mw M ns->Q (.int M) H2)
def Kq(K:PySem.W.Frag)(b:TE)(σ:St)(Q:VK):List V->Hp->Prop:=λa c=>b σ c (Ny K Q a)
def RC(K:PySem.W.Frag)(c:TA)(b:TE):TE:=λ a H Q=>c a H (Kq K b a Q)
theorem O6{a :Expr}{p pos :Pos}(T:X.calm=true)(R:Gl X "min")(P:X.mg "min" = none)(U:PA X [a] t)(hd:PE X e ta)
  (j:bootBuiltins "min" = some (.builtin "min"))
  (S:backTo pos (starEach [a] X.env)=(pq false (eval a X.env))::backTo pos (starEach [] X.env):=by rfl)(m:(backTo pos (starEach [a] X.env)).any (·.1)=false:=by rfl)
  (w:(backToKw pos (keywordEach [(some (Str.ofString "default"),e,apos)] X.env)).filterMap (·.1)=[Str.ofString "default"]:=by rfl)
  (i:(backToKw pos (keywordEach [(some (Str.ofString "default"),e,apos)] X.env)).all (·.1.isSome)=true:=by rfl)
  (r:(backToKw pos (keywordEach [(some (Str.ofString "default"),e,apos)] X.env)).any (·.1.isNone)=false:=by rfl):
  PE X (.Call (.Name "min" p) [a] [(some (Str.ofString "default"),e,apos)] pos) (RC X.K t ta):=by
 intro z s y H Q I h;refine wpAny_Call_Name_kw (dH I R P j ?_);refine PyProof.Rows.callWith_kw (T7 (U pos z s y H _ I h) λus A ⟨vs,Y,V,F,M⟩=>?_) S m i r;show wpAny _ _ (evalAll ((do let v <-eval e X.env;standAt pos;pure v)::[])) _ _ A;refine wpAny_evalAll_cons (wpAny_bind (T7 (hd z A y Y _ V M) λdv s2 ⟨x,W,C,_,L⟩=>wpAny_bind (wpAny_standAt (wpAny_pure (wpAny_evalAll_nil ?_)))));obtain⟨b,ns,rfl,O,n,q⟩:=L;obtain⟨u,rfl,E⟩:=vals1 F;cases E;rw[w];obtain⟨Z,G,N,hz⟩:=C.list O;have B:=intsAre_of G;obtain⟨J,f⟩:=B.allInts.items;obtain⟨l,o⟩:=Mh B f n;refine qR (zs:=J) (I.ok.hd T) (by rw[<-f];exact N.isList) l λv g c j k=>?_;obtain⟨D,rfl⟩:=intItems_at j;exact(.int _,W,C.kept (t':=c) k,(D,7),q _ o)
def WT(lo st:Int)(n:Nat):It:=(λi _=>i<n,λi H x a=>a=H/\x=.int (lo+i*st),λi _=>n<=i)
theorem qx{w:World}(c:Addr)(lo st:Int)(n:Nat):Turn prog w K e (WT lo st n) [c] c (λi h=>IsRangeIter h c (lo+(i:Nat)*st) ((n:Int)-(i:Nat)) st) where
 mem:=by simp
 obj:=λi h q b d=>by
  have a:b=c:=by simpa using d
  subst a;exact(_,q,λv z=>by
   have J:Data.fields _=Data.cell v:=z;cases J)
 keep:=λi h g q k=>k c (by simp) _ q
 item:=by
  intro X p j r m i D s C H E I f q l;subst p j r;obtain⟨B,A,N,y,x,u⟩:=f c (by simp);have W:=Walks.range (prog:=X.prog) (w:=X.w) (I.ok.hd m) c lo st n;refine W.item i s _ _ l q λv g F M G L=>?_;obtain⟨t,rfl⟩:=M;have Q:Inv X D C H {s with heap:=g,toks:=F}:=I.turned (λb o d a=>L b o (by simpa using d) a) B A y x u
  exact(5,vB (s:={s with heap:=g,toks:=F}) (n := "range_iterator") G rfl rfl ∅ (.int (lo+i*st),H,Q,(t,7),(7,7),G,λb d=>(f b d).1))
 done:=by
  intro X p j r m i D s C H E I f q l;subst p j r;obtain⟨B,A,N,y,x,u⟩:=f c (by simp);exact wpAny_pyNext_range_end (I.ok.hd m) q (by have:n<=i:=l;lia) λg O=>(7,I.turned (t':=s.toks) (λb o d a=>O b o d a) B A y x u)
 self:=λ_ _ _ _ _ q h=>wpAny_pyIter_rangeiter q h
inductive Ni(R:It->Hp->Prop)(vs:List V)(H1:Hp):Prop
 | mk (b:Nat) (_:vs=[.int 0,.int (b:Int),.int 32]) (_:b<536870912) (_:R (WT 0 32 ((b+31) / 32)) H1)
def Sq(b:TA):TI:=λ a H R=>b a H (Ni R)
theorem Gw(b:Nat):Builtin.Range.rangeSize 0 b 32=(((b+31) / 32:Nat):Int):=by
 unfold Builtin.Range.rangeSize;rw[if_pos ∅];split<;>lia
theorem iH{p q:Bool}(b:p=true)(a:q=true):(p&&q)=true:=by rw[b,a];rfl
theorem Lz{b:Nat}(h:b<536870912):Builtin.Range.small 0 b 32=true:=by
 unfold Builtin.Range.small Builtin.Range.rangeFitsLong;rw[Gw];generalize a:(((b+31) / 32:Nat):Int)=n;have c:n<=16777216:=by lia
 have d:0<=n:=by lia
 have e:(2:Int)^63=9223372036854775808:=by decide
 rw[e,if_pos ∅];refine iH (iH (iH (iH ∅ (iH (decide_eq_true ?_) (decide_eq_true ?_))) ∅) (iH (decide_eq_true ?_) (decide_eq_true ?_))) ?_
 ·lia
 ·lia
 ·lia
 ·lia
 ·rw[aiH];exact .inr (iH (decide_eq_true ⋯) (decide_eq_true ⋯))
theorem Hv{a b c:Expr}{p pos:Pos}(D:Gl X "range")(C:X.mg "range" = none)(F:PA X [a,b,c] t)(B:starEach [a,b,c] X.env=[(pq false (eval a X.env)),(pq false (eval b X.env)),(pq false (eval c X.env))]:=by rfl)
  (j:starEach [b,c] X.env=[(pq false (eval b X.env)),(pq false (eval c X.env))]:=by rfl):PI X tg (.Call (.Name "range" p) [a,b,c] [] pos) (Sq t):=by
 intro u s n H R I h;refine Call_ (dH I D C boot_range (PyProof.Rows.callWith_type1 (T7 (F pos u s n H _ I h) λM g ⟨L,v,K,w,z⟩=>?_) (by rw[B,j]) (by rw[j];rfl)));obtain⟨y,e,A,q⟩:=z;subst e;cases w with
 |cons r i=>
  cases i with
  |cons x i=>
   cases i with
   |cons m i=>
    cases i;obtain⟨d,rfl⟩:=r;obtain⟨k,rfl⟩:=x;obtain⟨f,rfl⟩:=m;refine call_range_3 ∅ ?_ (.inl (PyProof.noPylong_small ⋯));refine wpAny_pyIter_range (IsRange.new ..) (Lz A) ?_
    have l:Inv X u n v {g with heap:=g.heap.push {cls:=.type "range",data:=.fields #[.int 0 d,.int y k,.int 32 f]},toks:=g.toks}:=K.kept λb o e=>Heap.get?_push_of_some _ e
    refine((g.heap.push {cls:=.type "range",data:=.fields #[.int 0 d,.int y k,.int 32 f]}).objs.size,[(g.heap.push {cls:=.type "range",data:=.fields #[.int 0 d,.int y k,.int 32 f]}).objs.size],1,v,7,
     l.kept (t':=g.toks) λb o e=>Heap.get?_push_of_some _ e,qx _ 0 32 ((y+31) / 32),8,λb E=>?_,q)
    ·have J:(0:Int)+((0:Nat):Int)*32=0:=by decide
     have G:(((y+31) / 32:Nat):Int)-((0:Nat):Int)=Builtin.Range.rangeSize 0 y 32:=by rw[Gw];simp
     show IsRangeIter _ _ ((0:Int)+((0:Nat):Int)*32) ((((y+31) / 32:Nat):Int)-((0:Nat):Int)) 32;rw[J,G];exact Heap.get?_push_size _ rfl
    ·have e:b=(g.heap.push {cls:=.type "range",data:=.fields #[.int 0 d,.int y k,.int 32 f]}).objs.size:=by simpa using E
     subst e;exact l.fpOk (aac _) (l.hok.fresh (aac _))
theorem CN{lo st:Int}{n:Nat}{g:TG}{h:TS}{D:Ends}{σ:St}(a:Nat->St->Hp->Prop)(o:a 0 σ H)
  (l:∀(i:Nat) σ H,i<n->a i σ H->g (.int (lo+i*st)) σ H λ b f=>h {D with nx:=a (i+1),ct:=a (i+1),bk:=D.nx} b f)(hd:∀σ H,a n σ H->D.nx σ H):
  ∃W:Nat->Nat->St->Hp->Prop,(∃m,W 0 m σ H) /\ ∀i m σ H,W i m σ H ->
   ((WT lo st n).stop i H/\D.nx σ H)\/((WT lo st n).go i H /\ ∃N:St->Hp->Prop,(∀c H',N c H' -> ∃j,j<m/\W (i+1) j c H') /\ ∀x H',(WT lo st n).Vo i H x H'->g x σ H' λ b f=>h {D with nx:=N,ct:=N,bk:=D.nx} b f):=by
 exists λi m σ H=>m=n-i/\i<=n/\a i σ H,(n,by simp,aaD _,o);rintro i m σ H ⟨rfl,q,p⟩;by_cases d:i<n
 ·refine .inr (d,a (i+1),λ c H' k=>(n-(i+1),9,7,d,k),λx H' y=>?_);obtain⟨rfl,rfl⟩:=y;exact l i σ _ d p
 ·have e:i=n:=by lia
  subst e;exact .inl (aac _,hd σ H p)
def Xe(K:PySem.W.Frag)(a:Addr)(xs:List V):It:=
 (λi H=>T6 K H a xs/\i<xs.length,λi H x b=>b=H/\xs[xs.length-1-i]?=some x,λi _=>xs.length<=i)
theorem JW{w:World}(a j:Addr)(xs:List V):Turn prog w K e (Xe K a xs) [j] j (λi h=>i<=xs.length/\h.IsRevIter j a ((xs.length:Int)-1-(i:Nat))) where
 mem:=by simp
 obj:=λi h g b l=>by
  have f:b=j:=by simpa using l
  subst f;obtain⟨_,o,f,c,d⟩:=g;exact(o,f,λv z=>by rw[d]at z;cases z)
 keep:=λi h q g k=>(g.1,g.2.at λo f=>k j (by simp) o f)
 item:=by
  intro X y r A O i M s L H E I n g t;subst y r A;obtain⟨U,hi⟩:=t;obtain⟨a0,R,p,hz⟩:=I.list U;obtain⟨x,N⟩:∃x,xs[xs.length-1-i]?=some x:=(_,aad ⋯);obtain⟨u,T,S⟩:=R.get N;obtain⟨G,F,Y,D,C,B⟩:=n j (by simp);obtain⟨J,g⟩:=g;have f:(xs.length:Int)-1-(i:Nat)=((xs.length-1-i:Nat):Int):=by lia
  rw[f]at g;refine wpAny_pyNext_rev_item g p.isList (x:=u) (by simpa using T) λq m Q=>?_;have I1:Inv X M L H {s with heap:=q}:=I.turned (t':=s.toks) (λb o l f=>(Q.2 b l).trans f) G F D C B;have e2:((xs.length-1-i:Nat):Int)-1=(xs.length:Int)-1-((i+1:Nat):Int):=by lia
  rw[e2]at m;obtain⟨o,f,c,d⟩:=id m;exact(u,7,vB (s:={s with heap:=q}) f c d ∅ (x,H,I1,S,(7,N),(9,m),λb l=>(n b l).1))
 done:=by
  intro X y r A O i M s L H E I n g t;subst y r A;obtain⟨G,F,Y,D,C,B⟩:=n j (by simp);obtain⟨J,g⟩:=g;have f:(xs.length:Int)-1-(i:Nat) = -1:=by have:xs.length<=i:=t;lia
  rw[f]at g;exact wpAny_pyNext_rev_end (I.ok.hd O) g λq Z=>(7,I.turned (t':=s.toks) (λb o l f=>Z b o l f) G F D C B)
 self:=λ_ _ _ _ _ g h=>wpAny_pyIter_revIter g.2 h
inductive Qs(K:PySem.W.Frag)(R:It->Hp->Prop)(vs:List V)(H1:Hp):Prop
 | mk (a xs:_) (_:vs=[.ref a]) (_:T6 K H1 a xs) (_:R (Xe K a xs) H1)
def Td(K:PySem.W.Frag)(b:TA):TI:=λ a H R=>b a H (Qs K R)
theorem JZ{a:Expr}{p pos:Pos}(C:Gl X "reversed")(B:X.mg "reversed" = none)(E:PA X [a] t)(y:bootBuiltins "reversed" = some (.type "reversed"))(z:starEach [a] X.env=[(pq false (eval a X.env))]:=by rfl):
  PI X tg (.Call (.Name "reversed" p) [a] [] pos) (Td X.K t):=by
 intro k s j H R I h;refine Call_ (dH I C B y (PyProof.Rows.callWith_type1 (T7 (E pos k s j H _ I h) λJ d ⟨G,m,i,v,w⟩=>?_) z rfl));obtain⟨b,g,e,A,q⟩:=w;subst e;obtain⟨u,rfl,n⟩:=vals1 v;cases n;obtain⟨f,r,x,L⟩:=i.list A;refine call_reversed_list x.isList ?_;have M:=r.length;have l:({d with heap:=d.heap.push (revObj b ((f.toArray.size:Int)-1))}:Shared).heap.IsRevIter d.heap.objs.size b ((g.length:Int)-1-((0:Nat):Int)):=by
  exists _,Heap.get?_push_size _ rfl,7;show Data.fields #[.ref b,rawInt ((f.toArray.size:Int)-1)]=_;have e:(f.toArray.size:Int)-1=(g.length:Int)-1-((0:Nat):Int):=by simp;lia
  rw[e]
 refine wpAny_pyIter_revIter l ?_;have F:Inv X k j m {d with heap:=d.heap.push (revObj b ((f.toArray.size:Int)-1))}:=i.kept (t':=d.toks) λc o e=>Heap.get?_push_of_some _ e;refine(d.heap.objs.size,[d.heap.objs.size],_,Xe X.K b g,m,7,F,JW b _ g,(aaD _,l),λc D=>?_,q);have e:c=d.heap.objs.size:=by simpa using D
 subst e;exact i.fpOk (aac _) (i.hok.fresh (aac _))
theorem GC{a:Addr}{xs:List V}{g:TG}{j:TS}{D:Ends}{σ:St}(b:Nat->St->Hp->Prop)(s:b 0 σ H)(q:∀i σ H,i<=xs.length->b i σ H->T6 K H a xs)
  (o:∀i x σ H,i<xs.length->xs[xs.length-1-i]?=some x->b i σ H->g x σ H λ c h=>j {D with nx:=b (i+1),ct:=b (i+1),bk:=D.nx} c h)(hd:∀σ H,b xs.length σ H->D.nx σ H):
  ∃W:Nat->Nat->St->Hp->Prop,(∃m,W 0 m σ H) /\ ∀i m σ H,W i m σ H ->
   ((Xe K a xs).stop i H/\D.nx σ H)\/((Xe K a xs).go i H /\ ∃N:St->Hp->Prop,(∀d H',N d H' -> ∃k,k<m/\W (i+1) k d H') /\ ∀x H',(Xe K a xs).Vo i H x H'->g x σ H' λ c h=>j {D with nx:=N,ct:=N,bk:=D.nx} c h):=by
 exists λi m σ H=>m=xs.length-i/\i<=xs.length/\b i σ H,(xs.length,by simp,aaD _,s);rintro i m σ H ⟨rfl,r,p⟩;by_cases f:i<xs.length
 ·refine .inr ((q i σ H r p,f),b (i+1),λ d H' l=>(xs.length-(i+1),9,7,f,l),λx H' y=>?_);obtain⟨rfl,n⟩:=y;exact o i x σ _ f n p
 ·have e:i=xs.length:=by lia
  subst e;exact .inl (aac _,hd σ H p)
theorem Am{T f b:String}{v x:Builtin}{a:List Value}{j:List (Str×Value)}{S:_root_.PySem.Spec}{Q Q1:Value->Shared->Prop}(i:TypeCalled T f b)
  (M:checkTypeCall T (a,j)=pure ())(q:checkBuiltinCall f (.type T::a,j)=pure ())(I:entryFor table f=some v)(J:entryFor table b=some x)
  (g:Meets (v (.type T::a,j)) S)(h:S A.in1 (wants Q1 E) s)
  (D:∀d l,Q1 d l->l.TypeIs d T/\argsOk b (d::a,j) /\ ∃n,Meets (x (d::a,j)) n/\n A.in1 (wants (λr u=>r=.none/\Q d u) E) l):
  wpAny (model prog w) A (call (.type T) a j) Q E s:=by
 obtain⟨c,O,z⟩:=i.mro;have t:=i.made;have y:=i.sub;refine wpAny_call (codeAny_of_tree ?_);show wpAny _ _ (callAny (.type T) _) _ _ _;refine wpAny_pure (Code.quiet_builtin _ (by decide +kernel),codeAny_builtin PySem.F.entry_type_call ?_);rw[Around.under_plain (weight_type_call_type T a j) (units_type_call_type T a j)];have R:=i.notType;have P:=i.canCreate
 repeat (any_goals (first|assumption|wp_step))
 refine codeAny_mono (codeAny_call_builtin i.plain I (wpAny_of_eq q (g prog w A.in1 _ s h))) λr l m=>?_;cases r with
 |error e=>exact m
 |ok H=>
  cases H with
  |ret d=>
   obtain⟨C,p,n,G,o⟩:=D _ _ m;have L:=i.init.lookup;have N:=i.init.bind d
   repeat (any_goals (first|assumption|wp_step))
   refine codeAny_mono (codeAny_call_builtin i.init.plain J (i.init.check _ _ _ _ _ _ _ _ C p (G prog w A.in1 _ l o))) λB u k=>?_;cases B with
   |error e=>exact k
   |ok K=>
    cases K with
    |ret r=>
     obtain⟨rfl,U⟩:=k
     repeat (any_goals (first|assumption|wp_step))
    |_=>exact k.elim
  |_=>exact m.elim
theorem Cg{T b:String}{c:List (Str×Value)}(h:typeLookup (.type T) "__init__" = pure (some (.builtin "object.__init__")))
  (g:Bind.madeBy (.type T)=pure (some b))(f:(some b != some "object.__new__")=true):
  Meets (Builtin.«object.__init__» (q::r,c)) (λ_ R s=>s.TypeIs q T/\R (.ok (.ret .none)) s):=by
 refine Meets.of_wp λprog w A R s e=>?_;obtain⟨i,d⟩:=e;cases r with
 |nil=>
  cases c with
  |nil=>exact wpAny_pure (5,d)
  |cons p c=>
   repeat (any_goals (first|assumption|wp_step))
   exact(5,d)
 |cons a r=>
  repeat (any_goals (first|assumption|wp_step))
  exact(5,d)
theorem Eh(a v:Value):checkTypeCall "enumerate" ⟨[a],[(pq (Str.ofString "start") v)]⟩=pure ():=by kernel_rfl
theorem HX(a v:Value):checkBuiltinCall "enumerate.__new__" ⟨[.type "enumerate",a],[(pq (Str.ofString "start") v)]⟩=pure ():=by kernel_rfl
theorem Fe(o a v:Value):argsOk "object.__init__" ⟨[o,a],[(pq (Str.ofString "start") v)]⟩:=by
 unfold argsOk
 rw[signature?_of (id := "object.__init__") (n:=['_','_','t','i','n','i','_','_']) (o:=['t','c','e','j','b','o']) (by kernel_rfl) PySem.F.owner_object]
 kernel_rfl
open AutoSeq1 (wpAny_loadPart')in
set_option maxHeartbeats 4000000 in
theorem Bu(l:Addr)(items:Array Value)(n:Nat)(e:Option Addr)(k:Array (Option Value))(t:Tok):
  Meets (Builtin.«enumerate.__new__» ⟨[.type "enumerate",.ref l],[(pq (Str.ofString "start") (.int 1 t))]⟩) (λ_ R s=>s.heap.get? l=some {cls:=.type "list",dict:=e,data:=.seq items n,slots:=k} /\
   R (.ok (.ret (.ref (s.heap.push {cls:=.type "list_iterator",data:=.fields #[.ref l,.int 0 0]}).objs.size)))
    {s with heap:=(s.heap.push {cls:=.type "list_iterator",data:=.fields #[.ref l,.int 0 0]}).push {cls:=.type "enumerate",data:=.fields #[.none,.bool false,.ref s.heap.objs.size,rawInt 1,.none,.none]}}):=
 .of_wp λf w A R s h=>by
  obtain⟨o,g,d,j,m⟩:=s;obtain⟨a,h⟩:=h;have i:=sub_enumerate;have b:Heap.IsList (Shared.heap (o,g,d,j,m)) l items:=(_,a,7,n,7)
  wp_walk using wpAny_loadPart' a
  refine wpAny_stack_any λp=>wpAny_pure ?_;split
  ·rename_i c _ _ _ _ _
   cases (c==Value.type "enumerate")
   ·wp_walk using wpAny_loadPart' a,wpAny_pyIter_list b
    exact(5,h)
   ·wp_walk using wpAny_loadPart' a,wpAny_pyIter_list b
    exact(5,h)
  ·wp_walk using wpAny_loadPart' a,wpAny_pyIter_list b
   exact(5,h)
theorem Gf{l:Addr}{items:Array Value}{t:Tok}{Q:Value->Shared->Prop}(r:s.heap.IsList l items)
  (h:∀g,IsEnum g (s.heap.objs.size+1) s.heap.objs.size 1 .none->g.IsListIter s.heap.objs.size l 0->(∀b o,s.heap.get? b=some o->g.get? b=some o)->Q (.ref (s.heap.objs.size+1)) {s with heap:=g}):
  wpAny (model prog w) A (call (.type "enumerate") [.ref l] [(pq (Str.ofString "start") (.int 1 t))]) Q E s:=by
 obtain⟨⟨c,i,u,m⟩,p,f,n,hd⟩:=r
 replace f:c=.type "list":=f
 replace hd:u=.seq items n:=hd
 subst f hd
 have j:(s.heap.push {cls:=.type "list_iterator",data:=.fields #[.ref l,.int 0 0]}).objs.size=s.heap.objs.size+1:=Heap.size_push ..
 refine Am (Q1:=λa d=>d.TypeIs a "enumerate" /\ Q a d) PySem.F.called_enumerate (Eh _ _) (HX _ _) PySem.F.entry_enumerate_new PySem.F.entry_object_init (Bu l items n i m t) (p,8) λa d e=>
  (e.1,Fe _ _ _,_,Cg PySem.F.called_enumerate.init.lookup PySem.F.called_enumerate.made ∅,e.1,7,e.2)
 show _/\_;rw[j]
 have k:IsEnum ((s.heap.push {cls:=.type "list_iterator",data:=.fields #[.ref l,.int 0 0]}).push {cls:=.type "enumerate",data:=.fields #[.none,.bool false,.ref s.heap.objs.size,rawInt 1,.none,.none]}) (s.heap.objs.size+1) s.heap.objs.size 1 .none:=by
  have:=Heap.get?_push_size (s.heap.push {cls:=.type "list_iterator",data:=.fields #[.ref l,.int 0 0]}) (o:={cls:=.type "enumerate",data:=.fields #[.none,.bool false,.ref s.heap.objs.size,rawInt 1,.none,.none]}) rfl
  rw[j]at this;exact this
 exact((_,k,7),h _ k (_,Heap.get?_push_of_some _ (Heap.get?_push_size _ rfl),7,7) λb o q=>Heap.get?_push_of_some _ (Heap.get?_push_of_some _ q))
theorem NK{prog:Program}{w:World}{A:Around}(d:A.handled=none)(c l:Addr)(b:l≠c)(items:Array Value):
  Draws prog w A c [c,l] (items.size+1) (λi v=>∃j,i=j+1/\items[j]?=some v) (λi h=>∃j,i=j+1/\h.IsListIter c l j/\h.IsList l items) where
 live:=λ_ _ a=>by
  obtain⟨j,_,a⟩:=a;exact(Draws.list (prog:=prog) (w:=w) d c l b items).live j _ a
 frame:=λ_ _ _ a k=>by
  obtain⟨j,e,a⟩:=a;exact(j,e,(Draws.list (prog:=prog) (w:=w) d c l b items).frame j _ _ a k)
 item:=λi s Q E n a f=>by
  obtain⟨j,rfl,a⟩:=a;exact(Draws.list (prog:=prog) (w:=w) d c l b items).item j s Q E ⋯ a λx g t p q r=>f x g t (j,7,p) (j+1,7,q) r
 done:=λs Q E a m=>by
  obtain⟨j,e,a⟩:=a;have:j=items.size:=by lia
  subst this;exact(Draws.list (prog:=prog) (w:=w) d c l b items).done s Q E a m
def Xf(K:PySem.W.Frag)(a:Addr):It:=
  (λi H=>∃b x,T6 K H a b/\b[i]?=some x,λi H x c=>∃p y,H p=none/\x=.ref p/\c=upd H p (.tup [.int ((i+1:Nat):Int),y]) /\ ∀b,T6 K H a b->b[i]?=some y,
   λi H=>∃b,T6 K H a b/\b.length<=i)
theorem Ku{prog:Program}{w:World}{A:Around}{E:Value->Shared->Prop}{s:Shared}{e l:Addr}{i:Nat}{k:Int}{items:Array Value}{Q:Option Value->Shared->Prop}(p:A.handled=none)
  (f:IsEnum s.heap e a k q)(d:s.heap.IsListIter a l i)(n:s.heap.IsList l items)(j:items[i]?=none)(u:∀g,Heap.ExtBut a s.heap g->Q none {s with heap:=g}):wpAny (model prog w) A (pyNext (.ref e)) Q E s:=by
 have h:s.TypeIs (.ref e) "enumerate":=(_,f,7)
 unfold pyNext
 refine wpAny_bind (wpAny_attempt (wpAny_callSpecial?_slot (name:=Str.ofString "__next__") h PySem.F.slot_enumerate_next
  (wpAny_call_entry PySem.F.slot_enumerate_next h PySem.F.entry_enumerate_next ?_ (PySem.F.args_enumerate_next_1 _))))
 show wpAny _ _ (field (.ref e) 2 >>= _) _ _ _;refine wpAny_bind (wpAny_field f rfl (x:=.ref a) rfl ?_);refine wpAny_bind (wpAny_nextOf_list_end p d n j λg x r c=>?_);obtain⟨o,m,t⟩:=c
 refine wpAny_bind (wpAny_isInstance (T := "StopIteration") (b:=true) (o,m,t) isSubtype_stop ?_)
 exact wpAny_pure (u _ r)
theorem qY{a b:Addr}{o u:Obj}(d:h'.get? a=some o)(c:h'.get? b=some u)(e:o.cls≠u.cls):a≠b:=by
 rintro rfl;rw[d]at c;cases c;exact e rfl
theorem DW{w:World}(a e l:Addr)(G:e≠l):
  Turn prog w K (.Tuple u n p) (Xf K a) [e,l] e (λi h=>(∃g,IsEnum h e l ((i+1:Nat):Int) g)/\h.IsListIter l a i) where
 mem:=by simp
 obj:=λi h f b t=>by
  obtain⟨⟨g,m⟩,o,ho,Q,hd⟩:=f;rcases aas.mp t with rfl|t
  ·exact(_,m,λv z=>by cases z)
  ·rw[aam.mp t];exact(o,ho,λv z=>by rw[hd]at z;cases z)
 keep:=λi h h' f k=>by
  obtain⟨⟨g,m⟩,f⟩:=f;exact((g,k e (by simp) _ m),f.at λo q=>k l (by simp) o q)
 item:=by
  intro X M V Z Q i π s σ H E I L f Y;subst M V Z;obtain⟨xs,x,O,U⟩:=Y;obtain⟨y,T,c,hz⟩:=I.list O;obtain⟨d,hu,ru⟩:=T.get U;obtain⟨⟨g,m⟩,f⟩:=f;obtain⟨oi,C,ZG,_⟩:=id f;obtain⟨ol,B,D,_⟩:=id c.isList;have N:a≠l:=qY B C (by rw[D,ZG];decide)
  have a1:e≠a:=qY m B (by rw[D];show Value.type "enumerate" ≠ Value.type "list";decide)
  have a4:i<y.length:=(aab.mp hu).1;refine wpAny_pyNext_enum_itemD (NK (A:=X.A.in1) (I.ok.hd Q) l a N y.toArray) m (i,7,f,c.isList) (by simpa using a4) G (by simp[G,a1]) λJ h1 S M a6 r a3 b1 a5=>?_;obtain⟨j,hj,a2⟩:=M;have ej:j=i:=by lia
  subst ej;have eu:J=d:=by
   have:y[j]?=some J:=by simpa using a2
   rw[hu]at this;exact(aax this).symm
  subst eu;obtain⟨j',b2,r,_⟩:=r;have b0:j'=j+1:=by lia
  subst b0;refine(5,wpAny_letOwnedTupleGo_enum a6 λR a7 F=>?_);have ee:e<s.heap.objs.size:=Heap.lt_size m
  have g2:R.get? s.heap.objs.size=some {cls:=.type "tuple",data:=.seq #[.int ((j+1:Nat):Int) S,J]}:=(F.2 _ (ahB ee)).trans a3
  have kk:∀b o,b≠e->b≠l->s.heap.get? b=some o->R.get? b=some o:=λb o h3 h4 q=>(F.2 b h3).trans (a5 b o h3 h4 q);have a0:bH X.prog X.w (upd H s.heap.objs.size (.tup [.int ((j+1:Nat):Int),x])) R s.heap.objs.size (.tup [.int ((j+1:Nat):Int),x]):=
   ((by show 2<=sizeLine;decide),[.int ((j+1:Nat):Int) S,J],.cons (_,7) (.cons ru .nil),_,g2,7,5)
  have I2:=I.turn2 (h':=R) (t':=S+1) (L e (by simp)) (L l (by simp)) kk (aac _) a0;have hn:H s.heap.objs.size=none:=I.hok.fresh (aac _);refine(.ref s.heap.objs.size,_,I2,7,(_,x,hn,7,7,λys hy=>by rw[I.list_inj hy O];exact U),((J,by simpa using a7),r.extBut F.extBut (agG G)),λb t=>?_);have a9:=(L b t).1;have a8:b≠s.heap.objs.size:=by
   rcases aas.mp t with rfl|t
   ·exact aan ee
   ·rw[aam.mp t];exact aan (Heap.lt_size C)
  rw[aG a8];exact a9
 done:=by
  intro X M V Z Q i π s σ H E I L f Y;subst M V Z;obtain⟨xs,O,U⟩:=Y;obtain⟨y,T,c,hz⟩:=I.list O;obtain⟨f0,f1,f2,f3,f4,f5⟩:=L l (by simp);obtain⟨⟨g,m⟩,f⟩:=f;have hl:=T.length;obtain⟨oi,C,ZG,_⟩:=id f;obtain⟨ol,B,D,_⟩:=id c.isList;have N:a≠l:=qY B C (by rw[D,ZG];decide);refine Ku (I.ok.hd Q) m f c.isList (by simp;lia) λh' eb=>(7,I.turned (t':=s.toks) (λb o t e=>eb b o t e) f0 f1 f3 f4 f5)
 self:=λ_ _ _ _ _ f h=>by
  obtain⟨⟨g,m⟩,_⟩:=f;exact wpAny_pyIter_enum m h
section
variable{M:Model}{env:Env}
theorem vP{pos:Pos}{T:String}{e:Expr}{b:List Keyword}{Q:Value->Shared->Prop}
  (h:wpAny M A (spliced (backTo pos (starEach (e::u) env))) (λi d=>wpAny M A (evalAll ((backToKw pos (keywordEach b env)).map (·.2)))
   (λws g=>wpAny M A (call (.type T) i (((backToKw pos (keywordEach b env)).filterMap (·.1)).zip ws)) Q E g) E d) E s)
  (l:backTo pos (starEach (e::u) env)=(pq false (eval e env))::backTo pos (starEach u env):=by rfl)(k:(backTo pos (starEach (e::u) env)).any (·.1)=false:=by rfl)
  (c:(backToKw pos (keywordEach b env)).all (·.1.isSome)=true:=by rfl)(f:(backToKw pos (keywordEach b env)).any (·.1.isNone)=false:=by rfl):
  wpAny M A (callWith pos (.type T) [] (backTo pos (starEach (e::u) env)) (backToKw pos (keywordEach b env))) Q E s:=by
 unfold callWith;have m:wpAny M A (evalArgs (.type T) true (backTo pos (starEach (e::u) env)) (backToKw pos (keywordEach b env))) (λa d=>wpAny M A (call (.type T) ([]++a.pos) a.kw) Q E d) E s:=by
  rw[l]at h ⊢;exact PyProof.Rows.evalArgs_kwB c h
 refine wpAny_bind (wpAny_holding (T7 m λa d n=>wpAny_bind (wpAny_standAt ?_)));simp only[k,f,aiX];refine wpAny_bind (wpAny_pure ?_);exact wpAny_bind (T7 n λr g j=>wpAny_bind (wpAny_holding (wpAny_point (wpAny_pure j))))
end
inductive JS(K:PySem.W.Frag)(R:It->Hp->Prop)(vs:List V)(d:V)(H2:Hp):Prop
 | mk (a xs:_) (_:d=.int 1) (_:vs=[.ref a]) (_:T6 K H2 a xs) (_:R (Xf K a) H2)
def Hh(K:PySem.W.Frag)(b:TE)(σ:St)(R:It->Hp->Prop):List V->Hp->Prop:=λa c=>b σ c (JS K R a)
def Qc(K:PySem.W.Frag)(c:TA)(b:TE):TI:=λ a H R=>c a H (Hh K b a R)
theorem KZ{a :Expr}{p pos :Pos}{l:Pos}(T:Gl X "enumerate")(Q:X.mg "enumerate" = none)(V:PA X [a] t)(hd:PE X e ta)
  (U:backTo pos (starEach [a] X.env)=(pq false (eval a X.env))::backTo pos (starEach [] X.env):=by rfl)(z:(backTo pos (starEach [a] X.env)).any (·.1)=false:=by rfl)
  (B:(backToKw pos (keywordEach [(some (Str.ofString "start"),e,apos)] X.env)).filterMap (·.1)=[Str.ofString "start"]:=by rfl)
  (m:(backToKw pos (keywordEach [(some (Str.ofString "start"),e,apos)] X.env)).all (·.1.isSome)=true:=by rfl)
  (A:(backToKw pos (keywordEach [(some (Str.ofString "start"),e,apos)] X.env)).any (·.1.isNone)=false:=by rfl):
  PI X (.Tuple u n l) (.Call (.Name "enumerate" p) [a] [(some (Str.ofString "start"),e,apos)] pos) (Qc X.K t ta):=by
 intro w s r H R I h;refine wpAny_Call_Name_kw (dH I T Q boot_enumerate ?_);refine vP (T7 (V pos w s r H _ I h) λus D ⟨vs,Z,Y,J,M⟩=>?_) U z m A;show wpAny _ _ (evalAll ((do let v <-eval e X.env;standAt pos;pure v)::[])) _ _ D;refine wpAny_evalAll_cons (wpAny_bind (T7 (hd w D r Z _ Y M) λdv i ⟨x,E,o,G,L⟩=>wpAny_bind (wpAny_standAt (wpAny_pure (wpAny_evalAll_nil ?_)))));obtain⟨b,xs,rfl,rfl,P,q⟩:=L;obtain⟨f,rfl,F⟩:=vals1 J;cases F;obtain⟨a0,rfl⟩:=G;rw[B];obtain⟨a1,rv,N,hz⟩:=o.list P;refine Gf N.isList λg k C S=>?_;refine wpAny_pyIter_enum k ?_;have W:Inv X w r E {i with heap:=g}:=o.kept (t':=i.toks) S;have O:i.heap.objs.size+1≠i.heap.objs.size:=by lia
 refine(i.heap.objs.size+1,[i.heap.objs.size+1,i.heap.objs.size],_,Xf X.K b,E,7,W,DW b _ _ O,((_,k),C),λc y=>?_,q);have j:i.heap.objs.size<=c:=by
  rcases aas.mp y with rfl|y
  ·lia
  ·rw[aam.mp y];lia
 exact o.fpOk j (o.hok.fresh j)
theorem HQ{a:Addr}{xs:List V}{g:TG}{k:TS}{D:Ends}{σ:St}(b:Nat->St->Hp->Prop)(v:b 0 σ H)(t:∀i σ H,i<=xs.length->b i σ H->T6 K H a xs)
  (r:∀i x σ H p,xs[i]?=some x->b i σ H->H p=none->g (.ref p) σ (upd H p (.tup [.int ((i+1:Nat):Int),x])) λ d j=>k {D with nx:=b (i+1),ct:=b (i+1),bk:=D.nx} d j)(hd:∀σ H,b xs.length σ H->D.nx σ H):
  ∃W:Nat->Nat->St->Hp->Prop,(∃m,W 0 m σ H) /\ ∀i m σ H,W i m σ H ->
   ((Xf K a).stop i H/\D.nx σ H)\/((Xf K a).go i H /\ ∃N:St->Hp->Prop,(∀f H',N f H' -> ∃l,l<m/\W (i+1) l f H') /\ ∀x H',(Xf K a).Vo i H x H'->g x σ H' λ d j=>k {D with nx:=N,ct:=N,bk:=D.nx} d j):=by
 exists λi m σ H=>m=xs.length-i/\i<=xs.length/\b i σ H,(xs.length,by simp,aaD _,v);rintro i m σ H ⟨rfl,u,p⟩;have q:=t i σ H u p;by_cases h:i<xs.length
 ·refine .inr ((xs,xs[i],q,by simp[h]),b (i+1),λ f H' n=>(xs.length-(i+1),9,7,h,n),λx H' y=>?_);obtain⟨c,y,s,z,w,o⟩:=y;subst z w;exact r i y σ H c (o xs q) p s
 ·have e:i=xs.length:=by lia
  subst e;exact .inl ((xs,q,aac _),hd σ H p)
mutual
inductive tM(K:PySem.W.Frag)(H:Hp):V->PyData->Prop where
 | non:tM K H .non .none
 | bl (b:Bool):tM K H (.bl b) (.bool b)
 | int (i:Int):tM K H (.int i) (.int i)
 | str (x:Str):tM K H (.str x) (.str x)
 | lst {a:Addr}{xs:List V}{ds:List PyData} (h:T6 K H a xs) (r:nA K H xs ds):tM K H (.ref a) (.list ds)
 | tup {a:Addr}{xs:List V}{ds:List PyData} (h:T8 K H a xs) (r:nA K H xs ds):tM K H (.ref a) (.tuple ds)
inductive nA(K:PySem.W.Frag)(H:Hp):List V->List PyData->Prop where
 | nil:nA K H [] []
 | cons {x:V}{xs:List V}{d:PyData}{ds:List PyData} (h:tM K H x d) (r:nA K H xs ds):nA K H (x::xs) (d::ds)
end
mutual
theorem tM.reads(I:Inv X π σ H s){x:V}{d:PyData}{u:Value}:tM X.K H x d->RelV x u -> ∃j,Reads s.heap u d j
 |.non,r=>(_,by cases (show u=Value.none from r);exact .none)
 |.bl b,r=>(_,by cases (show u=Value.bool b from r);exact .bool b)
 |.int i,r=>by
  obtain⟨t,rfl⟩:=r;exact(_,.int i t)
 |.str y,r=>by
  obtain⟨t,rfl⟩:=r;exact(_,.str y t)
 |.lst (a:=a) h q,r=>by
  cases (show u=Value.ref a from r);obtain⟨k,f,p,_⟩:=I.list h;obtain⟨j,g⟩:=nA.reads I q f;obtain⟨o,n,e,c,_,d⟩:=p;exact(_,.list e c d (by simpa using g))
 |.tup (a:=a) h q,r=>by
  cases (show u=Value.ref a from r);obtain⟨k,f,p,_⟩:=I.tuple h;obtain⟨j,g⟩:=nA.reads I q f;obtain⟨o,e,c,n,d⟩:=p;exact(_,.tuple e c d (by simpa using g))
theorem nA.reads(I:Inv X π σ H s){xs:List V}{b:List PyData}{a:List Value}:nA X.K H xs b->Vals xs a -> ∃c,ReadsAll s.heap a b c
 |.nil,r=>by
  cases r;exact(_,.nil)
 |.cons h q,r=>by
  cases r with
  |cons g f=>
   obtain⟨c,e⟩:=tM.reads I h g;obtain⟨i,d⟩:=nA.reads I q f;exact(_,.cons e d)
end
inductive SN(K:PySem.W.Frag)(x:V)(y:V)(H:Hp)(Q:VK):Prop
 | mk (a b:Addr) (ns ms:List Int) (_:x=.ref a) (_:y=.ref b) (_:T6 K H a (ns.map V.int)) (_:T6 K H b (ms.map V.int)) (_:Q (.bl (decide (ns=ms))) H)
inductive TY(K:PySem.W.Frag)(x:V)(y:V)(H:Hp)(Q:VK):Prop
 | mk (d1 d2:PyData) (_:tM K H x d1) (_:tM K H y d2) (_:SeqAt.shaped d1=true) (_:SeqAt.shaped d2=true) (_:Q (.bl (PyData.eqv d1 d2)) H)
theorem Q8(e:X.A.units+64<cLine):Us X (compareOp .Eq) (λx y H Q=>SN X.K x y H Q\/TY X.K x y H Q):=by
 intro z s w H x y u v Q I d c h;rcases h with ⟨a,b,D,E,rfl,rfl,n,m,q⟩|⟨G,F,p,o,t,r,q⟩
 ·cases (show u=Value.ref a from d);cases (show v=Value.ref b from c);obtain⟨C,j,l,_⟩:=I.list n;obtain⟨B,i,k,_⟩:=I.list m;exact PySem.W.ke_eq_ints l.isList k.isList (intsAre_of j) (intsAre_of i) e (.bl _,H,I,7,q)
 ·obtain⟨L,g⟩:=p.reads I d;obtain⟨J,f⟩:=o.reads I c;exact eq_dataH g f t r e (.bl _,H,I,7,q)
end L2
namespace Tw
theorem JG{lo:Int}{n:Nat}{b:L2.St}{tt:TT}(f:Nat->Int)(k:n<sizeLine)
  (d:∀(z:Int) (H':Hp) (Q:Bool->Hp->Prop),Q true H'->tt (some (.int z)::b) H' Q)(j:∀(i:Nat) (H':Hp) (Q:VK),i<n->aU H H'->Q (.int (f i)) H'->ta (some (.int (lo+i))::b) H' Q)
  (q:∀D,H D=none->B D (upd H D (.lst (((agq n).map f).map V.int)))):jw (V6 lo n) b tt ta B H:=by
 intro D g;exists λi m c h=>m=n-i/\i<=n/\c=((agq i).map f).map V.int/\h=upd H D (.lst c),(5,aaD _,7,7);rintro i m c h ⟨rfl,l,rfl,rfl⟩;by_cases a:i<n
 ·refine .inr (a,λv o y=>?_);obtain⟨rfl,rfl⟩:=y;refine d _ _ _ ?_;rw[if_pos rfl];refine j i _ _ a (az g _) (ao,8,n-(i+1),9,7,a,8,8)
  ·rw[aaa,aaa,agA];lia
  ·rw[agL,aaj,aaj];rfl
  ·rw[m6]
 ·have e:i=n:=by lia
  subst e;exact .inl (aac _,q D g)
theorem Ra{a:Addr}{o:HO}(h:H a=some o):upd H a o=H:=funext λb=>by
 by_cases e:b=a
 ·rw[e,ao,h]
 ·rw[aG e]
theorem GR{c A:Prop}[Decidable c]{D:Ends}{σ:St}(R:St->Hp->Prop)(b:¬c->R σ H)(h:∀a H',R a H'->D.nx a H')(d:c->(∀a H',R a H'->D.nx a H')->A):if c then A else Kw D σ H:=by
 by_cases q:c
 ·rw[if_pos q];exact d q h
 ·rw[if_neg q];exact h _ _ (b q)
theorem G8{t:TA}{i:Nat}{k:Int}{xs:List V}{σ:St}{Q:VK}(ht:∀c:List V->Hp->Prop,c xs H->t σ H c)(e:σ[i]?=some (some (.int k)))(f:k<=100000)(d:xs.length<=2)(g : -100000<=k)
  (q:∀p H',H p=none->aU H H'->H' p=some (.lst (aaA k.toNat xs).flatten)->Q (.ref p) H'):Xy RZ (R1 t) (OJ i) σ H Q:=by
 refine ht _ (by rw[sizeLine_eq];lia,λp b=>(_,e,p,k,xs,7,7,ao,9,9,8,λr a=>q r _ ((az b _).free a) ((az b _).trans (az a _)) ao));rw[sizeLine_eq];have:k.toNat<=100000:=by lia
 have:=ajq d this;lia
end Tw
namespace L2
open PySem.Spec PyProof.Rows PySem.W
end L2
namespace Tw
theorem um{a U A:Prop}[Decidable a]{D:Ends}{σ:St}(N:D.nx σ H)(b:a->D.nx σ H->U):if a then U else (if false=true then A else Kw D σ H):=by
 by_cases q:a
 ·rw[if_pos q];exact b q N
 ·rw[if_neg q];exact eF N
end Tw
namespace L2
open PySem.Spec PyProof.Rows
theorem bH.ex{w:World}{a:Addr}{o:HO}(x:bH prog w H h' a o):∃b,h'.get? a=some b:=by
 induction o with
 |lst l=>obtain⟨z,k,n,r,e⟩:=x;exact(_,e)
 |tup l=>obtain⟨z,k,r,b,e,c⟩:=x;exact(_,e)
 |dK j=>obtain⟨z,y,q,r,b,g,i,e,c⟩:=x;exact(_,e)
 |dT j=>obtain⟨z,y,l,r,b,g,i,e,c⟩:=x;exact(_,e)
 |set S n=>obtain⟨b,g,i,t,e,c⟩:=x;exact(_,e)
 |ins C I m=>obtain⟨d,z,B,e,_⟩:=x;exact(_,e)
 |own y=>exact x
 |xd m=>obtain⟨D,⟨A,g,i,e,c⟩,r⟩:=x;exact(_,e)
 |Ys E G=>obtain⟨t,u,v,e⟩:=x;exact(_,e)
 |U4 b u F=>exact(_,x.1)
 |Ug s=>exact(_,x)
 |met f y=>exact(_,x)
 |ext p=>exact x.2.1
structure Vl(B:Heap)(fs:List Addr)(H H':Hp)(h:Heap):Prop where
 old:∀b o,h.get? b=some o->b∉fs -> ∃o',B.get? b=some o'/\(H b=none->o'=o)
 VJ:∀b u,H' b=some u -> ∃o,B.get? b=some o
def U9(P:Program)(w:World):Vc:=λa H s E e b=>∃(d C t:Addr) (B:Heap) (c:Hp),e=.ref d/\b.os=s.os/\AllBare b.gens/\Un (frs a) [] H c s.heap b.heap/\Uj P w c b.heap /\
  Heap.FlyingW B a d (.ref C) (.ref t) b.heap/\Vl B (frs a) H c s.heap/\E (.ref C) none c
section
variable{P:Program}{cd:Value}{s0:Shared}{H0:Hp}{E:XK}
abbrev X1(P:Program)(w:World)(K:PySem.W.Frag)(mg:Str->Option Value)(base:Heap)(N:List Str)(qual:Str)(scope:Scope)(f:Addr)(cd:Value)(A:Around)(outer:List Env)(s0:Shared)(H0:Hp)(E:XK):Cx:=
 gW (U9 P w) P w K mg base N qual scope f cd A outer s0 H0 E
theorem young{b:Addr}{o:Obj}(q:s0.heap.get? b=some o)(c:b∉frs outer):b∉frs (envOfC qual scope s0.heap.objs.size f cd::outer):=λz=>by
 have a:b∈s0.heap.objs.size::frs outer:=z;rcases aas.mp a with e|e
 ·exact absurd (Heap.lt_size q) (by rw[e];exact agt _)
 ·exact c e
theorem raised{σ:St}{s:Shared}{C:Addr}(I:Inv (X1 P w K mg base N qual scope f cd A outer s0 H0 E) π σ H s)(m:Heap.MadeExcOf s.heap h' a (.ref C) r)(q:E (.ref C) none H):
  (X1 P w K mg base N qual scope f cd A outer s0 H0 E).xe (.ref a) {s with heap:=h'}:=by
 have M:s.heap.FunFrames base (envOfC qual scope s0.heap.objs.size f cd::outer):=I.stack;have G:∀l∈(envOfC qual scope s0.heap.objs.size f cd::outer),∀b,l.frame=some b->b∈frs (envOfC qual scope s0.heap.objs.size f cd::outer):=λl R b g=>aiq.mpr (l,R,g);have U:Un (frs outer) [] H0 H s0.heap s.heap:=I.base;have j:∀b u,H b=some u->b∉frs (envOfC qual scope s0.heap.objs.size f cd::outer):=λb u e z=>by
  have:=I.stkFree b z;rw[this]at e;cases e
 have i:∀b o,s.heap.get? b=some o->b∉frs (envOfC qual scope s0.heap.objs.size f cd::outer)->(PySem.W.hideAll s.heap (frs (envOfC qual scope s0.heap.objs.size f cd::outer))).get? b=some o:=λb o e n=>PySem.W.hideAll_get _ e n;show wpAny _ _ (leaving _ _) _ _ _;refine wpAny_leaves_madeW (base:=PySem.W.hideAll s.heap (frs (envOfC qual scope s0.heap.objs.size f cd::outer))) I.ok.frames rfl (λb o e=>PySem.W.of_hideAll _ e) (PySem.W.funFrames_hide M G) m λS t J V T O=>?_;have k:=J.1;have L:∀b o,s.heap.get? b=some o->b∈frs outer -> ∃y,S.get? b=some {o with slots:=y}:=λb o e g=>by
  obtain⟨_,X,x,Q⟩:=M.mem (b:=b) (aaC _ g);rw[e]at x;cases x;exact O b o (m.keeps _ _ e) Q
 refine(a,C,t,_,H,7,I.os,I.bare,(λb o e n g v=>?_,λb o e n g v=>?_,U.free,λb o e v=>?_,U.tups,U.frzs,U.tbls),λb u e=>?_,J,(λb o e g=>?_,λb u e=>?_),q)
 ·exact k b o (i b o (U.keep b o e n g v) (young e g))
 ·obtain⟨y,h⟩:=U.slot b o e n g v;obtain⟨F,D⟩:=L b _ h g;exact(F,D)
 ·obtain⟨p,h⟩:=U.there b o e v;by_cases g:b∈frs outer
  ·obtain⟨y,D⟩:=L b _ h g;exact(_,D)
  ·exact(p,k b p (i b p h (young e g)))
 ·refine(I.hok b u e).stay (λc o B h=>k c o (i c o h ?_)) (λ_ d=>d) λ_ _ d=>d;rcases B with rfl|B
  ·exact j _ _ e
  ·exact j _ _ B
 ·obtain⟨p,h⟩:=U.there b o e (by simp);refine(p,i b p h (young e g),λn=>?_);have:=U.keep b o e n g (by simp);rw[h]at this;exact aax this
 ·obtain⟨o,h⟩:=(I.hok b u e).ex;exact(o,i b o h (j b u e))
theorem lr:nR (U9 P w) (X1 P w K mg base N qual scope f cd A outer s0 H0 E) E:=by
 intro π σ H s e S I h;obtain⟨ea,C,t,B,H',rfl,V,x,m,L,F,j,q⟩:=h;have U:Un (frs outer) [] H0 H s0.heap s.heap:=I.base;show wpAny _ _ (leaving _ _) _ _ _;refine wpAny_leaves_onW (base:=B) I.ok.frames rfl F λZ O R=>?_;have k:=O.1;have Q:∀b o,S.heap.get? b=some o->b∈frs outer -> ∃y,Z.get? b=some {o with slots:=y}:=λb o e d=>by
  obtain⟨_,p,v,W⟩:=F.2.2.1.mem (b:=b) (aaC _ d);rw[e]at v;cases v;exact R b o e W
 refine(ea,C,t,B,H',7,V.trans I.os,x,(λb o e n d g=>?_,λb o e n d g=>?_,λb o e n g=>?_,λb o e g=>?_,λb M e=>m.tups b M (U.tups b M e),λb o u e=>m.frzs b o u (U.frzs b o u e),λb T e=>?_),λb u e=>?_,O,(λb o e d=>?_,j.VJ),q)
 ·obtain⟨p,a,z⟩:=j.old b o (U.keep b o e n d g) (young e d);rw[z (U.free b o e n g)]at a;exact k b o a
 ·obtain⟨y,i⟩:=U.slot b o e n d g;obtain⟨a0,a⟩:=m.slot b _ i (U.free b o e n g) (aaC _ d) g;obtain⟨J,G⟩:=Q b _ a d;exact(J,G)
 ·obtain⟨l,i⟩:=U.there b o e g;exact m.free b l i (U.free b o e n g) g
 ·obtain⟨l,i⟩:=U.there b o e g;by_cases d:b∈frs outer
  ·obtain⟨o2,a⟩:=m.there b l i g;obtain⟨y,G⟩:=Q b _ a d;exact(_,G)
  ·obtain⟨p,a,_⟩:=j.old b l i (young e d);exact(p,k b p a)
 ·obtain⟨Y,i⟩:=U.tbls b T e;obtain⟨X,a⟩:=m.tbls b _ i;exact(Y++X,by rw[a,aip])
 ·refine(L b u e).stay (λc o D i=>?_) (λ_ r=>r) λ_ _ r=>r;have ht:∃o,B.get? c=some o:=by
   rcases D with rfl|D
   ·exact j.VJ _ _ e
   ·exact j.VJ _ _ D
  obtain⟨l,a⟩:=ht;have:=F.1 c l a;rw[i]at this;cases this;exact k c o a
 ·obtain⟨l,i⟩:=U.there b o e (by simp);obtain⟨p,a,z⟩:=j.old b l i (young e d);refine(p,a,λn=>?_);have:=U.keep b o e n d (by simp);rw[i]at this;rw[z (U.free b o e n (by simp))];exact aax this
theorem Nx:PassesOwn (model P w) (X1 P w K mg base N qual scope f cd A outer s0 H0 E).A (X1 P w K mg base N qual scope f cd A outer s0 H0 E).env (X1 P w K mg base N qual scope f cd A outer s0 H0 E).xe:=PassesOwn.leaving
end
section
variable{P:Program}
theorem UV.ok1{x :Str}{st:Stmt}{f:Addr}{fd:FuncData}{N ps:List Str}{k:Nat}(F:UV K x qual st f fd)(S:aC N ps (δ st))(e:∀c H Q E,sp c H Q E->c.length=ps.length)
  (d:∀(b:Value) (A:Around) (a:List Env) (s:Shared) (H:Hp) (c:List V) (Q:VK) (E:XK),dX k (A.deeper (envOfC qual (δ st) s.heap.objs.size f b))->sp c H Q E ->
   ∃t,U5 (X1 P w K mg base N qual (δ st) f b A a s H E) (μ st) t/\t {nx:=λ_ H'=>Q .non H',rt:=Q} (start N c) H):aV P w K mg base (U9 P w) (k+1) f fd ps sp:=by
 obtain⟨p,o,kV,m,n,r,b,q,l,rfl,i,h⟩:=F.ex;exact PB i h S e λA a s H c Q E j g=>d b A a s H c Q E j g
end
abbrev XH:List Value:=[.type "ValueError",.type "Exception",.type "BaseException",.type "object"]
structure Exc(K:PySem.W.Frag)(mg:Str->Option Value)(x:Str)(C:Addr):Prop where
 m:mg x=some (.ref C)
 q:PySem.W.excIn K C XH "ValueError.__new__" = true
theorem Ha{C:Addr}(X:K.In h')(q:PySem.W.excIn K C XH "ValueError.__new__" = true):
  ∃bm N nm d bs hdct sn sub ab col dd k0 k1 k2 k3 k5 mN,h'.get? C=some (excClassObj nm d C N bs bm hdct sn sub ab col dd k0 k1 k2 k3 k5 "ValueError.__new__")/\h'.Ns N mN/\mN "__init__" = none/\OwnTail h' XH bm:=by
 unfold PySem.W.excIn at q;split at q
 ·rename_i dd m f k;split at q
  ·rename_i r bm k0 k1 k2 k3 n k5 i g;simp only[ahP,beq_iff_eq,ahi]at q;obtain⟨⟨⟨⟨⟨rfl,rfl⟩,a⟩,ht⟩,b⟩,c⟩:=q;obtain⟨nm,bs,o,j,d,hd,sn,sub,ab,col,p⟩:=m;dsimp only at i a b c;subst i a
   have e:f=#[k0,k1,k2,k3,some (.builtin "ValueError.__new__"),k5]:=by
    obtain⟨l⟩:=f;simp only at g;rw[g]
   subst e;exact(bm,j,nm,d,bs,hd,sn,sub,ab,col,dd,k0,k1,k2,k3,k5,_,X _ _ k,.of_isNs (PySem.W.isNs_of_in X b),PySem.W.nsMap_none_of_in X b c,PySem.W.tail_of_in X ht)
  ·cases q
 ·cases q
section
variable{P:Program}{cd:Value}{s0:Shared}{H0:Hp}{E:XK}
def HY(C:Addr)(E:XK):List V->Hp->Prop:=λa b=>a.length<=sizeLine/\E (.ref C) none b
def Qu(C:Addr)(E:XK)(b:TA):TS:=λ_ a H=>b a H (HY C E)
theorem uD{x:Str}{C:Addr}{a:Expr}{pos:Pos}(e:Exc K mg x C)(R:Gl (X1 P w K mg base N qual scope f cd A outer s0 H0 E) x)(S:PA (X1 P w K mg base N qual scope f cd A outer s0 H0 E) [a] t)
  (i:(x==("__debug__" : Str))=false:=by decide)
  (k:starEach [a] (X1 P w K mg base N qual scope f cd A outer s0 H0 E).env=[(pq false (eval a (X1 P w K mg base N qual scope f cd A outer s0 H0 E).env))]:=by rfl):
  PS (X1 P w K mg base N qual scope f cd A outer s0 H0 E) (.Raise (some (.Call (.Name x p) [a] [] apos)) none pos) (Qu C E t):=by
 intro o s n H D I h;obtain⟨Y,N',B,v,X,b,r,d,Z,j,W,Q,O,M,L,J,G,V,U,g,T⟩:=Ha I.mod.Xp e.q;refine wpAny_Raise_call_subU (C:=C) (nm:=B) (q:=v) (N:=N') (bs:=X) (bm:=Y) (hdct:=b) (sn:=r) (sub:=d) (ab:=Z) (col:=j) (dd:=W) (k0:=Q) (k1:=O) (k2:=M) (k3:=L) (k5:=J)
  PySem.F.excBase_ValueError PySem.F.excBase_ValueError.hasB PySem.F.excBase_ValueError (mN:=G) (T.hasType PySem.F.excBase_ValueError.hasBase) (I.ok.hd rfl) (by rw[k];rfl) g (ul I R e.m (7,8) i)
 have l:=S apos o s n H _ I h;rw[k]at l ⊢;refine Calls.evalArgs_plain (T7 l λus s2 ⟨vs,H2,c,u,z,y⟩=>(7,8,c.bk _ _ V,U.keeps c.bk,T.keeps c.bk,λh' ea m=>raised c m y));rw[<-u.length];exact z
end
def Jx(b C:Addr):HO:=.ext λh=>∃o a,h.get? b=some o/\o.cls=.ref C/\o.data=.fields a
structure xu(K:PySem.W.Frag)(C:Addr):Prop where
 dct:PySem.W.hasDictIn K C=true
 ga:PySem.W.findIn K (.ref C) "__getattribute__" = some (some (.builtin "BaseException.__getattribute__"))
 nga:PySem.W.findIn K (.ref C) "__getattr__" = some none
 cl:PySem.W.findIn K (.ref C) "__class__" = some (some (.builtin "object.__class__"))
 gt:PySem.W.specialIn K (.builtin "object.__class__") "__get__" = some (some (.builtin "getset_descriptor.__get__"))
 tk:PySem.W.takesIn K (.builtin "object.__class__")=some true
 mo:PySem.W.mroIn K C (.type "object")=some true
 mb:PySem.W.mroIn K C (.type "BaseException")=some true
def Cx.suite(X:Cx)(a:Addr):Cx:={X with A:=X.A.mark (some (.ref a)),calm:=false,xe:=λ_ _=>False}
section
variable{ea:Addr}
theorem Cx.Ok.suite(a:X.Ok):(X.suite ea).Ok:=
 (a.mod,a.kind,a.glob,a.blt,a.above,a.inj,a.has,a.cab,λz=>absurd z aal,a.frames,a.V5,a.Xr,a.bs,a.Vj,a.noex,a.exfs,a.funs,a.Vt)
theorem Inv.suite(I:Inv X π σ H s):Inv (X.suite ea) π σ H s:=(I.ok.suite,I.os,I.bare,I.base,I.loc,I.cell,I.free,I.freeC,I.pin,I.hok,I.len)
theorem Inv.unsuite(a:X.Ok)(I:Inv (X.suite ea) π σ H s):Inv X π σ H s:=(a,I.os,I.bare,I.base,I.loc,I.cell,I.free,I.freeC,I.pin,I.hok,I.len)
theorem name_goes{M:Model}{A:Around}{E:Value->Shared->Prop}{i:Nat}{n:Str}{pos:Pos}{Q:Unit->Shared->Prop}(I:Inv X π σ H s)(hN:X.N.Nodup)(L:X.N[i]?=some n)(Z:X.env.scope.names.lookup n=some .local)
  (h:∀G,Inv X π (σ.set i none) H G->Q () G):wpAny M A (do bindName X.env n .none;unbindBehindTheSuite X.env n pos) Q E s:=by
 obtain⟨m,K,u⟩:=id I.loc;have w:(X.env.scope.kind == .class || (X.env.scope.kind == .module&&X.env.locals != X.env.globals))=false:=by rw[I.ok.kind];rfl
 have W8:i<σ.length:=by rw[I.len];exact(aab.mp L).1
 have O:=I.VL;obtain⟨oL,_,_,a0,_⟩:=id K;refine wpAny_nameGoes_keeps Z K w λh' v D a=>?_;have f:∀b o,X.s₀.heap.get? b=some o->b≠X.env.locals:=λb o e=>aan (aak (Heap.lt_size e) I.ok.above);refine h _ (I.ok,I.os,I.bare,(λb o e r C t=>?_,λb o e r C t=>?_,I.base.free,λb o e t=>?_,I.base.tups,I.base.frzs,I.base.tbls),(_,D,λj y P l x e3=>?_),λy c e=>?_,I.free,I.freeC,λp Y=>?_,λb U e=>?_,by simpa using I.len)
 ·exact(a.2 b (f b o e)).trans (I.base.keep b o e r C t)
 ·obtain⟨S,l⟩:=I.base.slot b o e r C t;exact(S,(a.2 b (f b o e)).trans l)
 ·obtain⟨V,l⟩:=I.base.there b o e t;exact(V,(a.2 b (f b o e)).trans l)
 ·by_cases B:j=i
  ·subst B;rw[ag5 W8]at x;cases x
  ·rw[ahf (agG B)]at x;obtain⟨R,T,q⟩:=u j y P l x e3;exists R,T;rcases q with ⟨k,e⟩|⟨k,c,e,z⟩
   ·refine .inl (k,8);have:y≠n:=λe=>B (vH hN l (e ▸ L));simp[this,e]
   ·exact .inr (k,c,e,z.sameBut a (O y c e))
 ·obtain⟨F,z⟩:=I.cell y c e;exact(F,z.sameBut a (O y c e))
 ·obtain⟨e,r,J,W,d⟩:=I.pin p Y;exact((a.2 p.1 J).trans e,r,J,W,d)
 ·refine(I.hok b U e).stay (λc F g q=>(a.2 c ?_).trans q) (λ_ q=>q) λ_ _ q=>q;intro z;rcases g with g|g
  ·rw[<-g,z,I.free]at e;cases e
  ·rw[z,I.free]at g;cases g
theorem landed{C t:Addr}{H':Hp}{h:Shared}(I:Inv X π σ H s)(os:h.os=s.os)(E:AllBare h.gens)(l:Un (frs X.stack) [] H H' s.heap h.heap)(M:Uj X.prog X.w H' h.heap)
  (F:Heap.FlyingW h' X.stack ea (.ref C) (.ref t) h.heap)(f:Vl h' (frs X.stack) H H' s.heap)(y:Heap.FlyingW h' X.stack ea (.ref C) (.ref t) base)(V:h.heap.UpToSlots base):
  H' ea=none/\Inv X π σ (upd H' ea (Jx ea C)) {h with heap:=base}:=by
 have T:H' ea=none:=by
  cases q:H' ea with
  |none=>rfl
  |some u=>
   obtain⟨o,e⟩:=f.VJ ea u q;rw[F.2.1]at e;cases e
 obtain⟨Q,P,j,N,A,_⟩:=y.first;have fresh:s.heap.get? ea=none:=by
  cases q:s.heap.get? ea with
  |none=>rfl
  |some o=>
   by_cases a:ea∈frs X.stack
   ·obtain⟨_,m,g,J⟩:=y.2.2.1.mem a;rw[j]at g;cases g;exact absurd A (J P)
   ·obtain⟨m,e,_⟩:=f.old ea o q a;rw[F.2.1]at e;cases e
 have S:∀b o,h.heap.get? b=some o->b∈frs X.stack -> ∃G,base.get? b=some {o with slots:=G}:=λb o e a=>by
  obtain⟨_,m,g,J⟩:=F.2.2.1.mem a;rw[e]at g;cases g;exact V b o e J
 have x:∀b u,H' b=some u->b≠ea:=λb u e=>aD e T;refine(T,I.call' (ch:=[]) os (λb o e n a v=>?_,λb o e n a v=>?_,λb o e n v=>?_,λb o e v=>?_,λb O e=>?_,λb o u e=>?_,λb W e=>?_) (λb u e=>?_) E λb z=>absurd z (by simp))
 ·obtain⟨m,d,z⟩:=f.old b o e a;rw[z n]at d;exact y.1 b o d
 ·obtain⟨G,i⟩:=l.slot b o e n a v;obtain⟨L,d⟩:=S b _ i a;exact(L,d)
 ·have:b≠ea:=λz=>by rw[z,fresh]at e;cases e
  rw[aG this];exact l.free b o e n v
 ·by_cases a:b∈frs X.stack
  ·obtain⟨R,i⟩:=l.there b o e v;obtain⟨G,d⟩:=S b _ i a;exact(_,d)
  ·obtain⟨m,d,_⟩:=f.old b o e a;exact(m,y.1 b m d)
 ·have q:=l.tups b O e;rw[aG (x b _ q)];exact q
 ·have q:=l.frzs b o u e;rw[aG (x b _ q)];exact q
 ·obtain⟨D,q⟩:=l.tbls b W e;exact(D,by rw[aG (x b _ q)];exact q)
 ·by_cases a:b=ea
  ·subst a;rw[ao]at e;cases e;refine((Q,P,j,N,A),(Q,j),λh1 Z p k=>?_);obtain⟨o,U,i,d,Y⟩:=p;exact(o,U,k o i,d,Y)
  ·rw[aG a]at e;refine(M b u e).stay (λc o K i=>?_) (λc r=>by rw[aG (x c _ r)];exact r) λc O r=>by rw[aG (x c _ r)];exact r
   have ht:∃o,h'.get? c=some o:=by
    rcases K with rfl|K
    ·exact f.VJ _ _ e
    ·exact f.VJ _ _ K
   obtain⟨R,d⟩:=ht;have:=F.1 c R d;rw[i]at this;cases this;exact y.1 c o d
end
section
variable{x:Addr}
def ExcAt(x C:Addr)(h:Heap):Prop:=∃o a,h.get? x=some o/\o.cls=.ref C/\o.data=.fields a
theorem vK{M:Model}(p:ExcAt x C h'):PySem.W.Looks M h' (typeOf (.ref x)) (.ref C):=by
 obtain⟨o,c,b,a,_⟩:=p;exact a ▸ (PySem.W.Looks.ld b).andThen .now
end
open PySem.W Builtin Builtin.ObjectAttr Builtin.Getset_descriptor
section
variable{x:Addr}
theorem K6{M:Model}(X:K.In h')(k:xu K C):Looks M h' (find (.ref x) (.ref C) "__class__") (.bind (.builtin "getset_descriptor.__get__") (.builtin "object.__class__")):=by
 refine(looks_findIn X k.cl).andThen ?_
 refine Looks.andThen (show Looks M h' (getOf (some (.builtin "object.__class__"))) (some (.builtin "getset_descriptor.__get__"))from looks_specialIn X k.gt) ?_
 exact(show Looks M h' (dataDescriptor? (some (.builtin "object.__class__")) (some (.builtin "getset_descriptor.__get__"))) (some (pq (.builtin "getset_descriptor.__get__") (.builtin "object.__class__")))from (looks_takesIn X k.tk).andThen .now).andThen (Looks.tag .now)
variable{R:Result->Shared->Prop}
theorem JX(X:K.In s.heap)(p:ExcAt x C s.heap)(k:xu K C)(h:R (.ok (.ret (.ref C))) s):
  codeAny (model prog w) A (.call (.builtin "getset_descriptor.__get__") ([.builtin "object.__class__",.ref x,q],[])) R s:=by
 obtain⟨b,g,c,t,a⟩:=s;have e:=vK (M:=model prog w) p;have d:=looks_mroIn (M:=model prog w) X k.mo;refine codeAny_call_builtin KF.slot_gs.plain KF.entry_gs (KF.slot_gs.check _ _ _ _ _ _ _ _ KF.type_class (KF.args_gs _ _ _) ?_);unfold Builtin.«getset_descriptor.__get__» Builtin.Getset_descriptor.descrGet;rw[dga_obj];refine wpAny_bind (wpAny_pure ?_);unfold descrGetter descrCheckInstance descrNameAndClass isInstance;simp only[KF.owner_class]
 repeat lk
 refine(Code.quiet_builtin _ (by decide +kernel),codeAny_builtin KF.entry_class ?_);unfold Builtin.«object.__class__» shownTypeOf
 repeat lk
 exact h
theorem QS{tk:Tok}(X:K.In s.heap)(p:ExcAt x C s.heap)(k:xu K C)(h:R (.ok (.ret (.ref C))) s):
  codeAny (model prog w) A (.call (.builtin "BaseException.__getattribute__") ([.ref x,.str "__class__" tk],[])) R s:=by
 obtain⟨l,g,v,t,q⟩:=s;have o:=vK (M:=model prog w) p;have B:=looks_mroIn (M:=model prog w) X k.mb
 have y:Looks (model prog w) l (isInstance (.ref x) (.type "BaseException")) true:=o.andThen B
 have z:=K6 (M:=model prog w) (x:=x) X k;refine codeAny_call_builtin (by decide +kernel) PySem.F.entry_bexc_ga ?_
 have r:builtinKind "BaseException.__getattribute__" = some .slot:=by decide +kernel
 have a:splitId "BaseException.__getattribute__" = some (pq ("BaseException") ("__getattribute__")):=by decide +kernel
 have u:=PySem.F.args_bexc_ga (.ref x) (.str "__class__" tk)
 simp only[checkBuiltinCall,r,a];refine wpAny_bind (y.at ?_);rw[if_neg ∅]
 have m:wpAny (model prog w) A.in1 («object.__getattribute__» ([.ref x,.str "__class__" tk],[])) (λj c=>match j with | .done f=>R (.ok f) c | .again n=>n.quiet=true/\codeAny (model prog w) A n R c) (λe c=>R (.error e) c) (l,g,v,t,q):=by
  refine wpAny_bind (wpAny_pure (wpAny_bind (wpAny_pure (wpAny_bind (o.at (wpAny_bind (z.at ?_)))))))
  show wpAny _ _ (call (.builtin "getset_descriptor.__get__") [.builtin "object.__class__",.ref x,.ref C] >>= ret) _ _ _
  exact wpAny_bind (wpAny_call (JX X p k (wpAny_pure h)))
 cases b:Manifest.signature? "BaseException.__getattribute__" with
 |none=>exact wpAny_pure m
 |some d=>
  have i:Bind.checkArgs "BaseException.__getattribute__" d ([.ref x,.str "__class__" tk],[])=pure ():=by simpa only [argsOk,b]using u
  simp only[i];exact wpAny_pure m
theorem Jj{Q:Option Value->Shared->Prop}(X:K.In s.heap)(p:ExcAt x C s.heap)(k:xu K C)(h:Q (some (.ref C)) {s with toks:=s.toks+1}):wpAny (model prog w) A (getAttr? (.ref x) "__class__") Q E s:=by
 obtain⟨b,g,d,t,a⟩:=s;have i:=vK (M:=model prog w) p;have f:=looks_findIn (M:=model prog w) X k.ga;have e:=looks_findIn (M:=model prog w) X k.nga;have c:=PySem.F.attrBase_ValueError.ga.bind (.ref x);unfold getAttr? getAttrBy? getAttrBy;refine wpAny_bind (wpAny_mkText (wpAny_bind (wpAny_attempt (wpAny_holding (wpAny_bind (i.at (wpAny_bind (f.at ?_))))))));show wpAny _ _ (getAttrByItsOwn _ _ _ _ _ _) _ _ _;unfold getAttrByItsOwn;refine wpAny_bind (e.at (wpAny_bind (wpAny_attempt (wpAny_holding ?_))));show wpAny _ _ (boundAndCalled _ _ _) _ _ _;unfold boundAndCalled;exact wpAny_bind (wpAny_of_eq c (wpAny_call (QS (s:=(b,g,d,t+1,a)) X p k (wpAny_pure (wpAny_pure h)))))
theorem Mp(k:xu K C):KitX K (.ref x) (.ref C) (ExcAt x C) where
 ty:=λ_ _ _ p=>vK p
 it:=λ_ _ X _=>by
  obtain⟨f,a,_⟩:=any_some k.dct;unfold clsIn at a;split at a
  ·rename_i m l g c b;intro B v y t j q;unfold isType loadHead;exact wpAny_bind (wpAny_loadPart (j _ _ (X _ _ b)) (wpAny_pure q))
  ·cases a
 ne:=λh i u o n r X d=>by
  obtain⟨f,a,_⟩:=any_some k.dct;refine Bool.eq_false_iff.mpr λq=>?_;have e:C=i:=Value.ref.inj (beq_iff_eq.mp q);subst e;unfold clsIn at a;split at a
  ·rename_i m l g c b;have z:=(X _ _ b).symm.trans d;cases z
  ·cases a
 ca:=λX p h=>Jj X p k h
end
theorem Qg{σ:St}{s:Shared}{C:Addr}(I:Inv X π σ H s)(h:H a=some (Jx a C)):ExcAt a C s.heap:=(I.hok a _ h).1
abbrev Nz(K:PySem.W.Frag)(xs:List V)(H:Hp)(Q:VK):Prop:=∃(a C:Addr) (d:V) (c:Value) (b:Bool),xs=[.ref a,d]/\((∃D,d=.ref D/\c=.ref D) \/ ∃T,d=.ty T/\c=.type T)/\H a=some (Jx a C)/\xu K C/\kitOne K (.ref C) c=some b/\Q (.bl b) H
theorem vq:eU X (.builtin "isinstance") (Nz X.K):=by
 intro n s m H o p Q I r h;obtain⟨l,C,d,c,b,rfl,hd,i,k,e,q⟩:=h;obtain⟨u,v,rfl,g,a⟩:=vals2 r;cases (show u=Value.ref l from g);have j:v=c:=by
  rcases hd with ⟨D,rfl,rfl⟩|⟨T,rfl,rfl⟩
  ·exact a
  ·exact a
 subst j;exact kia_one (Mp k) I.UT (Qg I i) e (λz=>nomatch z) λf=>(.bl b,H,I.tok f,7,q)
theorem Az{w:World}{X:Cx}:nR (U9 prog w) X (λ_ _ _=>False):=λ_ _ _ _ _ _ _ h=>by
 obtain⟨_,_,_,_,_,_,_,_,_,_,_,_,z⟩:=h;exact z.elim
def K4(K:PySem.W.Frag)(Q:VK)(x:V):VK:=λy b=>y=.int (-1) /\ ∃a c,x=.ref a/\T6 K b a c /\ ∀p,b p=none->Q (.ref p) (upd b p (.lst c.reverse))
def J1(K:PySem.W.Frag)(tk:TE)(σ:St)(Q:VK):VK:=λx a=>tk σ a (K4 K Q x)
def Sg(K:PySem.W.Frag)(b tk:TE):TE:=λ a H Q=>b a H (J1 K tk a Q)
theorem MP{X:Cx}{e k:Expr}{tk:TE}{pos:Pos}(G:PE X e ta)(F:PE X k tk):PE X (.Subscript e (.Slice none none (some k) p) pos) (Sg X.K ta tk):=by
 intro g s f H Q I h;refine Subscript_ (T7 (G g s f H _ I h) λv n ⟨x,N,L,u,B⟩=>?_);refine wpAny_Slice ?_;rw[evalPart_none];refine wpAny_pure ?_;refine wpAny_pure ?_;rw[evalPart_some];refine T7 (F g n f N _ L B) λO c ⟨y,M,J,t,z⟩=>?_;obtain⟨rfl,a,m,rfl,E,q⟩:=z;obtain⟨d,rfl⟩:=t;cases u
 have i:Inv X g f M {c with heap:=c.heap.push {cls:=.type "slice",data:=.fields #[.none,.none,.int (-1) d]}}:=J.kept (t':=c.toks) λb C q=>Heap.get?_push_of_some _ q
 obtain⟨j,r,ht,D⟩:=i.list E;have l:=r.length
 show wpAny (model X.prog X.w) X.A (subscriptTail e (.Slice none none (some k) p) (.ref a) (.ref c.heap.objs.size)) (EP X g f Q) X.xe {c with heap:=c.heap.push {cls:=.type "slice",data:=.fields #[.none,.none,.int (-1) d]}}
 refine tail_any (ops:=[.ref a,.ref c.heap.objs.size]) ht.isList.typeIs slot_list_getitem.lookup ?_ (by with_unfolding_all rfl);refine wpAny_getItem_list_slice ht.isList (Heap.IsSliceOf.new ..) .none .none (.int (-1) d) ∅ ?_ (by rw[aao];lia);rw[krv_pick];refine(.ref _,_,i.laid (t':=c.toks) (o:=.lst m.reverse) (λb C q=>Heap.get?_push_of_some _ q) (aac _) ?_,7,q _ (i.hok.fresh (aac _)));exists by rw[agQ];exact D,j.reverse,0,r.reverse;exact Heap.get?_push_size _ rfl
def Cx.tr(X:Cx)(a:List (Addr×Obj))(E:XK):Cx:={X with pn:=X.pn++a,xe:=λe c=>∃b H s,Inv X a b H s/\U9 X.prog X.w X.stack H s E e c}
section
variable{pins':List (Addr×Obj)}{E:XK}
theorem Cx.Ok.tr(a:X.Ok):(X.tr π E).Ok:=
 (a.mod,a.kind,a.glob,a.blt,a.above,a.inj,a.has,a.cab,a.hd,a.frames,a.V5,a.Xr,a.bs,a.Vj,a.noex,a.exfs,a.funs,a.Vt)
theorem Cx.Ok.untr(a:(X.tr π E).Ok):X.Ok:=
 (a.mod,a.kind,a.glob,a.blt,a.above,a.inj,a.has,a.cab,a.hd,a.frames,a.V5,a.Xr,a.bs,a.Vj,a.noex,a.exfs,a.funs,a.Vt)
theorem Inv.tr(I:Inv X π σ H s):Inv (X.tr π E) [] σ H s:=
 (I.ok.tr,I.os,I.bare,I.base,I.loc,I.cell,I.free,I.freeC,λp b=>I.pin p (by
  have a:p∈(X.pn++π)++[]:=b
  rwa [ag3]at a),I.hok,I.len)
theorem Inv.untr(I:Inv (X.tr π E) pins' σ H s):Inv X π σ H s:=
 (I.ok.untr,I.os,I.bare,I.base,I.loc,I.cell,I.free,I.freeC,λp a=>I.pin p (agC _ a),I.hok,I.len)
theorem PK:nR (U9 X.prog X.w) (X.tr π E) E:=λ_ σ H s _ _ I h=>(σ,H,s,I.untr,h)
theorem SP.untr{D:Ends}{f:Flow}{a:Shared}(h:SP (X.tr π E) [] D f a):SP X π D f a:=by
 cases f with
 |next=>obtain⟨σ,H,I,q⟩:=h;exact(σ,H,I.untr,q)
 |ret v=>obtain⟨x,σ,H,I,r,q⟩:=h;exact(x,σ,H,I.untr,r,q)
 |brk=>obtain⟨σ,H,I,q⟩:=h;exact(σ,H,I.untr,q)
 |cont=>obtain⟨σ,H,I,q⟩:=h;exact(σ,H,I.untr,q)
end
abbrev TH:=Addr->Ends->St->Hp->Prop
def PH(X:Cx)(i:List ExceptHandler)(h:TH):Prop:=∀(g:List (Addr×Obj)) (a C t:Addr) (B:Heap) (e:Hp) (b:Shared) (f:St) (D:Ends) (d:Heap),
 (∀c,Heap.FlyingW B X.stack a (.ref C) (.ref t) c->b.heap.UpToSlots c->Inv X g f (upd e a (Jx a C)) {b with heap:=c}) ->
 Heap.FlyingW B X.stack a (.ref C) (.ref t) d->b.heap.UpToSlots d->e a=none->h C D f e ->
 wpAny (model X.prog X.w) X.A (handleBy (.ref a) X.env i) (SP X g D) X.xe {b with heap:=d}
def S7:TH:=λ_ _ _ _=>False
theorem Ri{X:Cx}:PH X [] S7:=λ_ _ _ _ _ _ _ _ _ _ _ _ _ _ z=>z.elim
theorem Rk{X:Cx}{C t:Addr}{b:Bool}{σ:St}(r:Exc X.K X.mg x a)(u:xu X.K a)(k:Inv X π σ H {s with heap:=base})
  (v:Heap.FlyingW h' X.stack f (.ref C) (.ref t) base)(c:kitOne X.K (.ref C) (.ref a)=some b){M:Model}{A:Around}{Q:Bool->Shared->Prop}{E:Value->Shared->Prop}(i:Q b {s with heap:=base}):
  wpAny M A (excMatches (.ref f) (.ref a)) Q E {s with heap:=base}:=by
 obtain⟨m,g,d,e,h,_⟩:=v.first;by_cases j:C=a
 ·subst j;have o:b=true:=by
   unfold kitOne at c;rw[if_pos (by simp)]at c;exact(aax c).symm
  subst o;obtain⟨W,Z,J,I,V,l,G,w,Y,D,U,S,R,P,O,N,L,p,z,y,T⟩:=Ha k.UT r.q;exact wpAny_excMatches_sub_self p d e (T.hasType PySem.F.excBase_ValueError.hasBase) i
 ·have n:exmOne X.K (.ref C) (.ref a)=some b:=by
   unfold exmOne
   rw[if_pos (beq_iff_eq.mpr (show subIn X.K (.ref a) (.type "BaseException")=some true from u.mb))]
   unfold kitOne at c;rw[if_neg (by simpa using j)]at c;exact c
  exact(exm_one (M:=M) k.UT (vK (m,g,d,e,h)) n).at i
def hAs(K:PySem.W.Frag)(i:Nat)(h:Addr)(e:TS)(f:TH):TH:=λC D d H=>∃b,kitOne K (.ref C) (.ref h)=some b/\if b=true then (∀a,H a=none ->
 e {nx:=λ c g=>D.nx (c.set i none) g,rt:=λ_ _=>False} (d.set i (some (.ref a))) (upd H a (Jx a C)))else f C D d H
theorem R6{X:Cx}{n:Str}{i:Nat}{c:List Stmt}{s:TS}{rest:List ExceptHandler}{u:TH}
  (E:Exc X.K X.mg x a)(S:xu X.K a)(l:Gl X x)(y:X.N.Nodup)(w:X.N[i]?=some n)(h:X.env.scope.names.lookup n=some .local)
  (M:∀d,U5 (X.suite d) (st::c) s)(O:PH X rest u)(o:(x==("__debug__" : Str))=false:=by decide):
  PH X (.ExceptHandler (some (.Name x p)) (some n) (st::c) apos::rest) (hAs X.K i a s u):=by
 intro r d C t B H' I G D A L g j F q;obtain⟨b,e,q⟩:=q;have k:=L A g j;refine wpAny_handleBy_cons (codeAny_handlers_test (ul (X:=X.suite d) k.suite l E.m ?_ o)) (by intro z;cases z);refine Rk E S k g e ?_;cases b with
 |false=>
  rw[if_neg aal]at q;exact O r d C t B H' I G D A L g j F q
 |true=>
  rw[if_pos rfl]at q;refine codeAny_handlers_suite_as ?_;refine lands_againW g λP T R=>?_;have Y:=L P T (j.trans R);refine pF (X:=X.suite d) (v:=.ref d) Y.suite y w (.inl h) rfl (λH W=>?_) (.inr h);refine wpAny_mono (M d r H _ _ _ W (q d F)) (λQ s8 f=>?_) λ_ _ z=>False.elim z;cases Q with
  |next=>
   obtain⟨a0,Z,V,J⟩:=f;exact name_goes (V.unsuite k.ok) y w h λs9 U=>(_,Z,U,J)
  |ret v=>obtain⟨_,_,_,_,_,z⟩:=f;exact False.elim z
  |brk=>obtain⟨_,_,_,z⟩:=f;exact False.elim z
  |cont=>obtain⟨_,_,_,z⟩:=f;exact False.elim z
def RN(d:XK->TS)(c:TH):TS:=λD b H=>d (λe _ f=>∃C,e=.ref C /\ ∀a:St,a.length=b.length->c C D a f) D b H
theorem Qh{X:Cx}{b:List Stmt}{J:ExceptHandler}{F:List ExceptHandler}{pos:Pos}{w:XK->TS}{u:TH}(d:X.stack=X.env::X.outer)(p:X.env.frame=some X.env.locals)
  (Q:∀l E,U5 (X.tr l E) b (w E))(P:PH X (J::F) u):PS X (.Try b (J::F) [] [] pos) (RN w u):=by
 intro l s N H D I h;refine wpAny_Try_except ?_;refine wpAny_mono (Q l _ [] s N H D I.tr h) (λR y q=>?_) λe y q=>?_
 ·have m:=q.untr;cases R with
  |next=>exact wpAny_execs_nil m
  |ret v=>exact m
  |brk=>exact m
  |cont=>exact m
 ·obtain⟨f,H1,Z,o,K,M,x,B,Y,rfl,z,c,t,i,n,j,C,S,O⟩:=q;cases S;have r:X.A.frames=some (X.env::X.outer):=by rw[<-d];exact I.ok.frames
  refine wpAny_looks_onW (base:=B) r p (by rw[<-d];exact n) λh4 k g=>wpAny_landsW k λG U L=>?_;have a:Heap.FlyingW B X.stack K (.ref M) (.ref x) G:=by rw[d];exact U
  obtain⟨W,_⟩:=landed o z c t i n j a (g.trans L);exact P l K M x B Y y f D G (λh6 V T=>(landed o z c t i n j V T).2) a (g.trans L) W (O f (by rw[o.len,I.len]))
inductive IW(r':R2)(r'':R2)(tc:TE)(td:TE)(σ:St)(Q:VK)(y:V)(z:V)(H3:Hp):Prop
 |mk (k:_) (_:z=.bl k) (_:(if k=true then tc σ H3 λw' H4=>r' y w' H4 λz2 H5=>∃k2,z2=.bl k2/\(if k2=true then td σ H5 λw2 H6=>r'' w' w2 H6 Q else Q (.bl false) H5)else Q (.bl false) H3))
def Dv(r:R2)(d:R2)(a:R2)(c:TE)(b:TE)(σ:St)(Q:VK)(x:V):VK:=λy e=>r x y e (IW d a c b σ Q y)
def DN(r:R2)(e:R2)(a:R2)(d:TE)(c:TE)(b:TE)(σ:St)(Q:VK):VK:=λx f=>d σ f (Dv r e a c b σ Q x)
def NP(r g a:R2)(f e d c:TE):TE:=λ b H Q=>f b H (DN r g a e d c b Q)
theorem Ho{X:Cx}{a b c :Expr}{B:TE}{pos:Pos}{p l g:CmpOp}{r E m:R2}(ho:Us X (compareOp p) r)(t:Us X (compareOp l) E)(n:Us X (compareOp g) m)(ha:PE X a ta)(hb:PE X b tb)(hc:PE X c te)(hd:PE X e B)
  (hm:lastMarks [p,l,g] [b,c,e]=false:=by with_unfolding_all rfl):PT X (.Compare a [p,l,g] [b,c,e] pos) (Ml (NP r E m ta tb te B)):=by
 intro j s i H Q I h;refine isTrue_chain (T7 (ha j s i H _ I h) λv V ⟨x,H1,I1,r1,q1⟩=>test_link (T7 (hb j V i H1 _ I1 q1) λu U ⟨y,H2,I2,D,q2⟩=>
  T7 (ho j U i H2 x y v u _ I2 r1 D q2) λe T ⟨z,M,K,r3,k,f,G⟩=>?_)) hm
 subst f;cases r3;refine wpAny_truthy_bool ?_;cases k with
 |false=>
  obtain⟨k',q,o⟩:=G;cases q;exact ite_ff (M,K,o)
 |true=>
  refine ite_tt (test_link (T7 (hc j T i M _ K G) λA S ⟨w,H4,I4,C,q4⟩=>T7 (t j S i H4 y w u A _ I4 D C q4) λd' R ⟨z2,L,J,Z,k2,e2,F⟩=>?_));subst e2;cases Z;refine wpAny_truthy_bool ?_;cases k2 with
  |false=>
   obtain⟨k',q,o⟩:=F;cases q;exact ite_ff (L,J,o)
  |true=>
   refine ite_tt (test_last (T7 (hd j R i L _ J F) λO P ⟨N,H6,I6,Y,q6⟩=>T7 (n j P i H6 w N A O _ I6 C Y q6) λd2 s7 ⟨z4,H7,I7,W,k3,e3,q7⟩=>?_));subst e3;cases W;exact wpAny_truthy_bool (H7,I7,q7)
def aM(a:Addr)(o:Obj):HO:=.ext λh=>h.get? a=some o
theorem fH{w:World}{a:Addr}{o:Obj}(e:h'.get? a=some o):bH prog w H h' a (aM a o):=(e,(o,e),λ_ _ p k=>k o p)
theorem cW{w:World}{a:Addr}{o:Obj}(b:Uj prog w H h')(e:H a=some (aM a o)):h'.get? a=some o:=(b a _ e).1
def hide(H:Hp)(cs:List Addr):Hp:=λb=>if b∈cs then none else H b
def over(H:Hp)(cs:List Addr)(H':Hp):Hp:=λb=>if b∈cs then H b else H' b
theorem mX{cs:List Addr}{b:Addr}(h:b∈cs):hide H cs b=none:=if_pos h
theorem bw{cs:List Addr}{b:Addr}(h:b∉cs):hide H cs b=H b:=if_neg h
theorem ut{H':Hp}{cs:List Addr}{b:Addr}(h:b∈cs):over H cs H' b=H b:=if_pos h
theorem dN{H':Hp}{cs:List Addr}{b:Addr}(h:b∉cs):over H cs H' b=H' b:=if_neg h
theorem m7(H:Hp)(cs:List Addr):over H cs (hide H cs)=H:=by
 funext b;by_cases h:b∈cs
 ·rw[ut h]
 ·rw[dN h,bw h]
theorem vZ{H':Hp}{cs:List Addr}{a:Addr}{o:HO}(h:a∉cs):over H cs (upd H' a o)=upd (over H cs H') a o:=by
 funext b;by_cases c:b∈cs
 ·have:b≠a:=λe=>h (e ▸ c);rw[ut c,aG this,ut c]
 ·rw[dN c];by_cases e:b=a
  ·subst e;rw[ao,ao]
  ·rw[aG e,aG e,dN c]
section
variable{P:Program}{cs:List Addr}
theorem Hc(f:Uj P w H h)(g:∀a∈cs,∃o,H a=some (aM a o)):Uj P w (hide H cs) h:=λb u e=>by
 have i:b∉cs:=λz=>by rw[mX z]at e;cases e
 rw[bw i]at e;refine(f b u e).stay (λ_ _ _ q=>q) (λc q=>?_) λc j q=>?_
 ·rw[bw]
  ·exact q
  ·intro z;obtain⟨o,d⟩:=g c z;rw[q]at d;cases d
 ·rw[bw]
  ·exact q
  ·intro z;obtain⟨o,d⟩:=g c z;rw[q]at d;cases d
theorem Gh(s:Uj P w H h)(m:Uj P w H' h')(p:∀a∈cs,∃o,H a=some (aM a o))(y:∀b∈g,H b=none)(u:Un g [] (hide H cs) H' h h'):
  Uj P w (over H cs H') h'/\Un g [] H (over H cs H') h h':=by
 have l:∀a∈cs,∃o,H a=some (aM a o)/\h.get? a=some o:=λa r=>by
  obtain⟨o,e⟩:=p a r;exact(o,e,cW s e)
 have k:∀a∈cs,H' a=none:=λa r=>by
  obtain⟨o,_,e⟩:=l a r;exact u.free a o e (mX r) (by simp)
 have j:∀b,H b=none->b∉cs:=λb n z=>by
  obtain⟨o,e,_⟩:=l b z;rw[n]at e;cases e
 refine(λb v e=>?_,λb o e n d f=>?_,λb o e n d f=>?_,λb o e n f=>?_,λb o e f=>u.there b o e f,λb t e=>?_,λb o v e=>?_,λb x e=>?_)
 ·by_cases d:b∈cs
  ·obtain⟨o,i,A⟩:=l b d;rw[ut d,i]at e;cases e;exact fH (u.keep b o A (mX d) (λz=>by rw[y b z]at i;cases i) (by simp))
  ·rw[dN d]at e;refine(m b v e).stay (λ_ _ _ q=>q) (λc q=>?_) λc t q=>?_
   ·rw[dN]
    ·exact q
    ·intro z;rw[k c z]at q;cases q
   ·rw[dN]
    ·exact q
    ·intro z;rw[k c z]at q;cases q
 ·exact u.keep b o e (by rw[bw (j b n)];exact n) d f
 ·exact u.slot b o e (by rw[bw (j b n)];exact n) d f
 ·rw[dN (j b n)];exact u.free b o e (by rw[bw (j b n)];exact n) f
 ·have d:b∉cs:=λz=>by
   obtain⟨o,i⟩:=p b z;rw[e]at i;cases i
  rw[dN d];exact u.tups b t (by rw[bw d];exact e)
 ·have d:b∉cs:=λz=>by
   obtain⟨o,i⟩:=p b z;rw[e]at i;cases i
  rw[dN d];exact u.frzs b o v (by rw[bw d];exact e)
 ·have d:b∉cs:=λz=>by
   obtain⟨o,i⟩:=p b z;rw[e]at i;cases i
  rw[dN d];exact u.tbls b x (by rw[bw d];exact e)
end
structure uA where
 name:Str
 qual:Str
 params:Arguments
 body:List Stmt
 scope:Scope
 ps:List Str
 xs:List Str
structure ik(H:Hp)(f:Addr)(c:uA)(cs:List Addr)(Uc:List V):Prop where
 ex:∃(cd:Addr) (doc pm ctv:Value) (oc:Obj) (vs:Array Value) (t:Tok),H f=some (aM f (fnMade c.name c.qual c.params c.body c.scope (c.xs.zip cs) doc pm cd ctv))/\H cd=some (aM cd oc)/\oc.data=.fields vs/\vs[1]?=some (.str c.qual t)
 cells:∀(i:Nat) (a:Addr),cs[i]?=some a -> ∃(co:Obj) (v:V) (u:Value),Uc[i]?=some v/\H a=some (aM a co)/\co.data=.cell (some u)/\RelV v u
 nd:cs.Nodup
 len:cs.length=c.xs.length
 lenV:Uc.length=c.xs.length
theorem ik.same{H':Hp}{f:Addr}{c:uA}{cs:List Addr}{Uc:List V}(h:ik H f c cs Uc)(s:∀b o,H b=some (aM b o)->H' b=some (aM b o)):ik H' f c cs Uc:=by
 obtain⟨⟨C,g,l,j,m,k,t,x,w,r,q⟩,p,n,d,lenV⟩:=h;refine((C,g,l,j,m,k,t,s _ _ x,s _ _ w,r,q),λi a e=>?_,n,d,lenV);obtain⟨B,v,u,A,z,y⟩:=p i a e;exact(B,v,u,A,s _ _ z,y)
structure vL(N:List Str)(c:uA):Prop where
 kind:c.scope.kind=.function
 co:c.scope.isCoroutine=false
 gen:c.scope.isGenerator=false
 ρ:∀x∈c.scope.names,x.2 ≠ .cell
 pre:N.take (c.ps.length+c.xs.length)=c.ps++c.xs
 nd:N.Nodup
 Wc:∀n∈c.ps,c.scope.names.lookup n=some .local
 fr:∀x∈c.scope.names,x.2=.free->x.1∈c.xs
 ZL:∀n∈c.xs,c.scope.names.lookup n≠some .local
def sX(P:Program)(w:World)(K:PySem.W.Frag)(mg:Str->Option Value)(base:Heap)(N:List Str)(b:Str)(a:Scope)(f:Addr)(e:Value)(d:List (Str×Addr))(A:Around)(c:List Env)(s:Shared)(H:Hp):Cx where
 prog:=P
 w:=w
 K:=K
 mg:=mg
 base:=base
 A:=A.deeper (envX b a s.heap.objs.size f e d)
 N:=N
 s₀:=s
 H₀:=H
 env:=envX b a s.heap.objs.size f e d
 outer:=c
 stack:=envX b a s.heap.objs.size f e d::c
 ex:=[]
 calm:=true
 fn:=λ_=>false
 pn:=[]
 xe:=λ_ _=>False
theorem cQ:∀{xs:List Str}{cs:List Addr}{x:Str}{c:Addr},(xs.zip cs).lookup x=some c -> ∃i:Nat,xs[i]?=some x/\cs[i]?=some c
 |[],_,_,_,h=>by simp at h
 |_::_,[],_,_,h=>by simp at h
 |y::xs,d::cs,x,c,h=>by
  rw[ahz,ah8]at h;cases a:x==y with
  |true=>
   rw[a]at h;cases h;exact(0,by rw[eq_of_beq a];rfl,7)
  |false=>
   rw[a]at h;obtain⟨i,e,b⟩:=cQ h;exact(i+1,e,b)
theorem yP:∀{xs:List Str}{cs:List Addr}{x:Str},cs.length=xs.length->x∈xs -> ∃c,(xs.zip cs).lookup x=some c
 |[],_,_,_,h=>by simp at h
 |_::_,[],_,l,_=>by simp at l
 |y::xs,d::cs,x,l,h=>by
  rw[ahz,ah8];cases a:x==y with
  |true=>exact(d,7)
  |false=>
   rcases aas.mp h with e|e
   ·rw[e]at a;simp at a
   ·exact yP (by simpa using l) e
theorem Ft:∀{xs:List Str}{cs:List Addr}{i:Nat}{x:Str}{c:Addr},xs.Nodup->xs[i]?=some x->cs[i]?=some c->(xs.zip cs).lookup x=some c
 |[],_,_,_,_,_,h,_=>by simp at h
 |_::_,[],_,_,_,_,_,h=>by simp at h
 |y::xs,d::cs,0,x,c,_,e,b=>by
  simp at e b;subst e b;simp
 |y::xs,d::cs,i+1,x,c,g,e,b=>by
  have a:xs[i]?=some x:=by simpa using e
  have f:(x==y)=false:=by
   cases j:x==y with
   |false=>rfl
   |true=>
    rw[eq_of_beq j]at a;exact absurd (aah a) (agT.mp g).1
  rw[ahz,ah8,f];exact Ft (agT.mp g).2 a (by simpa using b)
theorem lookup_mem:∀{l:List (Str×Value)} {y:Str}{u:Value},(l.map (·.1)).Nodup->(pq y u)∈l->l.lookup y=some u
 |[],_,_,_,h=>by simp at h
 |(z,v)::l,y,u,a,h=>by
  rw[aar]at a;rw[ah8];rcases aas.mp h with e|e
  ·cases e;simp
  ·cases b:y==z with
   |true=>
    rw[eq_of_beq b]at e;exact absurd (aaZ.mpr (_,e,7)) (agT.mp a).1
   |false=>exact lookup_mem (agT.mp a).2 e
theorem sH:∀(ps:List Str) (a:List Value),((ps.zip a).map (·.1)).Sublist ps
 |[],_=>by simp
 |_::_,[]=>by simp
 |p::ps,u::a=>by
  rw[ahz,aar];exact(sH ps a).cons₂ _
theorem G3{ps:List Str}{i:Nat}{y:Str}{u:Value}(a:ps.Nodup)(c:ps[i]?=some y)(b:r[i]?=some u):(ps.zip r).reverse.lookup y=some u:=by
 refine lookup_mem ?_ ?_
 ·rw[aht];refine ahE.mpr (ai3 (λh=>agG h) (show ((ps.zip r).map (·.1)).Nodup from a.sublist (sH ps r)))
 ·rw[ag8];exact aah (i:=i) (by rw[List.getElem?_zip_eq_some];exact(c,b))
section
variable{P:Program}{c:uA}{cs:List Addr}{Uc vs:List V}{us:List Value}{k:Nat}{Q:VK}{E:XK}
theorem Ow(S:vL N c)(hr:dX (k+1) A)(d:Ek P w K mg base A outer s H)(ca:ik H f c cs Uc)(hb:∀(cl:List (Str×Addr)) (F pm l G:Value),BindsTo s (fnX c.name c.qual c.params c.body c.scope cl .none .none F pm none l G) (us,[]) (c.ps.zip us))(r:Vals vs us)(hl:vs.length=c.ps.length)
  (Z:∀l:Addr,dX k (A.deeper (envX c.qual c.scope s.heap.objs.size f (.ref l) (c.xs.zip cs))) -> ∃t,U5 (sX P w K mg base N c.qual c.scope f (.ref l) (c.xs.zip cs) A outer s (hide H cs)) c.body t/\t {nx:=λ_ H'=>Q .non (over H cs H'),rt:=λv H'=>Q v (over H cs H')} (start N (vs++Uc)) (hide H cs)):
  codeAny (model P w) A (.call (.ref f) (us,[])) (CR T9 outer P w H s Q E) s:=by
 obtain⟨⟨l,F,pm,G,oc,ws,tk,h1,h2,h3,h4⟩,hc,nd,a1,lenV⟩:=ca;have hx:∀a∈cs,∃o,H a=some (aM a o):=λa R=>by
  obtain⟨i,D⟩:=abg R;obtain⟨X,v,u,_,e,_⟩:=hc i a D;exact(X,e)
 have a0:s.heap.NoLimit:=d.mod.nolimit.keeps λb o e=>(d.bs b o e).1;have Xd:c.ps.Nodup:=by
  have:c.ps.Sublist N:=by
   have h:(c.ps++c.xs).Sublist N:=by rw[<-S.pre];exact ag2 _ _
   exact(aiz _ _).trans h
  exact S.nd.sublist this
 have ZM:c.xs.Nodup:=by
  have:c.xs.Sublist N:=by
   have h:(c.ps++c.xs).Sublist N:=by rw[<-S.pre];exact ag2 _ _
   exact(ait _ _).trans h
  exact S.nd.sublist this
 have a5:c.ps.length+c.xs.length<=N.length:=by
  have:=congrArg ahp S.pre;rw[aaz,aae]at this;lia
 refine codeAny_call_def (fd:=fnX c.name c.qual c.params c.body c.scope (c.xs.zip cs) .none .none F pm none (.ref l) G) (binds:=c.ps.zip us) hr.depth (cW d.hok h1) rfl a0 (l,oc,ws,tk,7,cW d.hok h2,h3,h4) rfl (hb _ _ _ _ _) S.ρ (λy m=>S.Wc _ (ahC m).1) (λh0 a2 hk=>?_) S.co S.gen S.kind;obtain⟨t,ht,hq⟩:=Z l (hr.deeper _);have C:=Hc d.hok hx;have I:Inv (sX P w K mg base N c.qual c.scope f (.ref l) (c.xs.zip cs) A outer s (hide H cs)) [] (start N (vs++Uc)) (hide H cs) {s with heap:=h0,toks:=s.toks+(c.ps.zip us).length}:=by
  refine((d.mod,S.kind,7,7,aac _,λy z b h g=>?_,λy m=>?_,λy b h _=>absurd h aal,λ_=>hr.hd,Around.frames_deeper d.frames,.inr (7,7),λb z=>absurd (show b∈([]:List Addr)from z) (by simp),λb o e=>((d.bs b o e).1,8),d.Vj,λb _ _ z=>absurd (show b∈([]:List Addr)from z) (by simp),λb z=>absurd (show b∈([]:List Addr)from z) (by simp),d.funs,λb a4=>?_),
   rfl,d.bare,Un.kept hk,(_,a2,λi y v h g h7=>?_),λy b h=>?_,C.fresh (aac _),λy b h=>?_,λp x=>absurd (show p∈([]:List (Addr×Obj))from x) (by simp),C.kept hk,8)
  ·obtain⟨i,i1,M⟩:=cQ h;obtain⟨j,j1,j2⟩:=cQ g;have:=(ai4 (aab.mp M).1 nd).mp (M.trans j2.symm);subst this;exact aax (i1.symm.trans j1)
  ·have m:c.scope.names.lookup y=some .cell\/c.scope.names.lookup y=some .free:=m;rcases m with m|m
   ·exact absurd rfl (S.ρ _ (PySem.mem_of_lookup m))
   ·exact yP a1 (S.fr _ (PySem.mem_of_lookup m) rfl)
  ·have n:=(d.bs b o e).2;show hide H cs b=none;rw[bw]
   ·exact n
   ·intro z;obtain⟨o',W⟩:=hx b z;rw[n]at W;cases W
  ·have n:=d.Vt b a4;show hide H cs b=none;rw[bw]
   ·exact n
   ·intro z;obtain⟨o',W⟩:=hx b z;rw[n]at W;cases W
  ·have D:i<(vs++Uc).length:=by
    unfold start at g;by_cases D:i<(vs++Uc).length
    ·exact D
    ·rw[aap (by simpa using D)]at g;rw[agY]at g;split at g<;>cases g
   have R:(vs++Uc)[i]?=some v:=by
    unfold start at g;rw[aaw (by simpa using D),aag]at g;cases e:(vs++Uc)[i]? with
    |none=>rw[e]at g;cases g
    |some a=>rw[e]at g;cases g;rfl
   rw[aae]at D;have x:(c.ps++c.xs)[i]?=some y:=by
    rw[<-S.pre,adI ⋯];exact h
   by_cases a3:i<vs.length
   ·rw[aaw a3]at R;rw[aaw ⋯]at x;obtain⟨u,hu,U⟩:=r.get R;exact(u,U,.inl (S.Wc y (aah x),G3 Xd x hu))
   ·rw[aap ⋯]at R;rw[aap ⋯,<-hl]at x;have hj:i-vs.length<cs.length:=by
     have:=(aab.mp x).1;lia
    obtain⟨b,XJ⟩:∃b,cs[i-vs.length]?=some b:=(_,aad hj);obtain⟨X,v',u,q1,q2,q3,q4⟩:=hc _ b XJ;rw[R]at q1;cases q1;have L:c.scope.names.lookup y=some .free:=by
     rcases h7 with q|q|q
     ·exact absurd q (S.ZL y (aah x))
     ·exact absurd rfl (S.ρ _ (PySem.mem_of_lookup q))
     ·exact q
    exact(u,q4,.inr (.inr L,b,Ft ZM x XJ,X,hk _ _ (cW d.hok q2),q3))
  ·obtain⟨i,i1,M⟩:=cQ h;obtain⟨X,v',u,q1,q2,q3,q4⟩:=hc _ b M;exact(_,X,hk _ _ (cW d.hok q2),q3)
  ·obtain⟨i,i1,M⟩:=cQ h;exact mX (aah M)
  ·unfold start;show _=N.length;rw[aae,aaa,aba,aae];lia
 have Y:∀{T:Shared}{B:St}{H':Hp}{v:V}{u:Value},Inv (sX P w K mg base N c.qual c.scope f (.ref l) (c.xs.zip cs) A outer s (hide H cs)) [] B H' T->RelV v u->Q v (over H cs H')->CE outer P w H s Q u T:=λ{T B H' v u} J U q=>by
  obtain⟨k1,k2⟩:=Gh d.hok J.hok hx d.Vt J.base;exact(v,over H cs H',J.os,J.bare,k2,k1,U,q)
 refine wpAny_mono (ht [] _ (start N (vs++Uc)) (hide H cs) _ I hq) (λfl T O=>?_) λe T O=>False.elim O;cases fl with
 |ret u=>
  obtain⟨v,B,H',J,U,q⟩:=O;exact Y J U q
 |next=>
  obtain⟨B,H',J,q⟩:=O;exact Y (v:=V.non) (u:=Value.none) J rfl q
 |brk=>
  obtain⟨_,_,_,q⟩:=O;exact False.elim q
 |cont=>
  obtain⟨_,_,_,q⟩:=O;exact False.elim q
end
def fV(P:Program)(w:World)(K:PySem.W.Frag)(mg:Str->Option Value)(base:Heap)(k:Nat)(d:Addr->Sp):Prop:=
 ∀(f:Addr) (A:Around) (a:List Env) (s:Shared) (H:Hp) (c:List Value) (b:List V) (Q:VK),dX k A->Ek P w K mg base A a s H->Vals b c->d f b H Q E0 ->
  codeAny (model P w) A (.call (.ref f) (c,[])) (CR T9 a P w H s Q E0) s
theorem fV.mono{P:Program}{w:World}{K:PySem.W.Frag}{mg:Str->Option Value}{base:Heap}{j k:Nat}{b:Addr->Sp}(F:fV P w K mg base j b)(h:j<=k):fV P w K mg base k b:=
 λf A a s H d c Q e=>F f A a s H d c Q (e.mono h)
inductive Qj(i:Nat)(sp:Addr->Sp)(t:TA)(σ:St)(H:Hp)(Q:VK):Prop
 |mk (f o fd:_) (_:σ[i]?=some (some (.ref f))) (_:H f=some (aM f o)) (_:o.data=.func fd) (_:t σ H λvs H1=>H1 f=some (aM f o)/\sp f vs H1 Q E0)
section
variable{k:Nat}{pos:Pos}{es:List Expr}{sp:Addr->Sp}
theorem gA(C:fV X.prog X.w X.K X.mg X.base k sp)(U:dX k X.A)(V:X.N[i]?=some x)(Y:PA X (e::es) t)(R:Xq X.env.scope x:=by first|exact ahy rfl|exact ah6 (ahy rfl) | exact ah6 (ah6 rfl))
  (hd:(x==("__debug__" : Str))=false:=by decide)(n:(x==("__classdict__" : Str))=false:=by decide)
  (W:starEach (e::es) X.env=(pq false (eval e X.env))::starEach es X.env:=by rfl)(l:(backTo pos (starEach es X.env)).any (·.1)=false:=by rfl):PE X (.Call (.Name x p) (e::es) [] pos) (Qj i sp t):=by
 intro c s b H Q I h;obtain⟨f,o,y,T,g,d,h⟩:=h;refine wpAny_Call_Name_kw (T7 (Gb V R hd n c s b H (λv H'=>v=.ref f/\H'=H) I (_,T,7,7)) λu L S=>?_);obtain⟨v,H1,B,M,rfl,rfl⟩:=S;obtain rfl:u=Value.ref f:=M;have z:∀{H:Hp}{s:Shared},Inv X c b H s->H f=some (aM f o)->FnAt f s.heap:=λ{H s} J g=>by
  obtain⟨P,O,dt,F⟩:=o;have d:dt=.func y:=d;subst d;exact(P,O,y,F,cW J.hok g)
 refine callWith_F (z B g) (T7 (Y pos c L b H1 _ B h) λE G ⟨D,H2,j,r,m,q⟩=>(z j m,8)) W l;refine wpAny_call (codeAny_mono (C f X.A X.stack G H2 E D Q U j.env0 r q) λr s' a=>?_);cases r with
 |error e=>exact False.elim a
 |ok Z=>
  cases Z with
  |ret u=>exact j.after a
  |next=>exact False.elim a
  |brk=>exact False.elim a
  |cont=>exact False.elim a
end
def BMain(mg:Str->Option Value)(h:Heap):Prop:=∃b a,mg "__builtins__" = some (.ref b)/\b≠builtinsNs/\h.get? b=some a/\a.cls=.type "module" /\ a.dict=some builtinsNs/\a.data=.plain
inductive TabAt(H:Hp)(P:Addr)(pos:Pos)(qual:Str):Prop
 | mk (ps:Array Value) (_:H P=some (.Ug ps)) (_:TriplesOk ps.toList) (_:(codeAmong pos ps.toList=none \/ ∃(cd:Addr) (oc:Obj) (vs:Array Value) (t:Tok),codeAmong pos ps.toList=some (.ref cd)/\H cd=some (aM cd oc)/\oc.data=.fields vs/\vs[1]?=some (.str qual t)))
section
variable{P:Addr}{params:Arguments}{body:List Stmt}{clos:List (Str×Addr)}{pos:Pos}
theorem Pb{M:Model}{A:Around}{E:Value->Shared->Prop}{Q:Value->Shared->Prop}(I:Inv X π σ H s)(bm:BMain X.mg X.base)(v:X.env.code=.ref c)(C:CodeHd X.base c P)(hT:TabAt H P pos qual)(W:closureFor scope X.env=pure clos)
  (h:∀(fi D:Addr) (f pm g:Value) (j:Obj) (B:Array Value) (t:Tok) (L:Hp) (s1:Shared),Inv X π σ L s1->H fi=none->(∀b o,H b=some o->b≠P->L b=some o)->TabAt L P pos qual ->
   L fi=some (aM fi (fnMade name qual params body scope clos f pm D g))->L D=some (aM D j)->j.data=.fields B->B[1]?=some (.str qual t)->Q (.ref fi) s1):
  wpAny M A (makeFunction name qual params (.stmts body) scope X.env [] [] [] pos n) Q E s:=by
 obtain⟨p,m,r,R⟩:=hT;have y:s.heap.get? P=some (tabObj p):=I.hok P _ m;have G:=I.mod.glob.keeps I.bk;obtain⟨bm,ob,b1,b2,b3,b4,b5,b6⟩:=bm;have T:=I.bk _ _ b3;have a2:mainGlobals≠P:=λq=>by
  obtain⟨o,es,ep,e,hd,_⟩:=G;rw[q,y]at e;cases e;cases hd
 have a3:bm≠P:=λq=>by
  rw[q,y]at T;cases T;cases b4
 have a4:bm≠mainGlobals:=λq=>by
  obtain⟨o,es,ep,e,hd,_⟩:=G;rw[q,e]at T;cases T;rw[hd]at b6;cases b6
 have XM:s.heap.BuiltinsAt X.mg P:=(bm,ob,b1,b2,a4,a3,T,b4,b5,b6);rcases R with V|⟨D,j,B,t,hf,Y,hd,S⟩
 ·refine makeFunction_K (mg:=X.mg) W I.ok.glob G v (C.keeps I.bk) y r V a2 XM λa g f i tk hx w O Z a0=>?_;obtain⟨c2,j,B,t,e2,a1,hd,S⟩:=Z;cases e2;have nc:H a=none:=I.hok.fresh w;have K:H i.objs.size=none:=I.hok.fresh (aeY w (agu O));have ZP:P≠a:=aD m nc;have ZQ:P≠i.objs.size:=aD m K;have ZR:a≠i.objs.size:=aan O
  have k1:∀b,b≠P->b≠a->b≠i.objs.size->upd (upd (upd H P (.Ug (p ++ #[rawInt pos.line,rawInt pos.col,.ref a]))) a (aM a j)) i.objs.size (aM i.objs.size (fnMade name qual params body scope clos f ((X.mg "__name__").getD .none) a g)) b=H b:=λb e1 e2 e3=>by
   rw[aG e3,aG e2,aG e1]
  have l:∀b o,H b=some o->b≠P->upd (upd (upd H P (.Ug (p ++ #[rawInt pos.line,rawInt pos.col,.ref a]))) a (aM a j)) i.objs.size (aM i.objs.size (fnMade name qual params body scope clos f ((X.mg "__name__").getD .none) a g)) b=some o:=λb o e n=>by
   rw[k1 b n (aD e nc) (aD e K)];exact e
  have kP:upd (upd (upd H P (.Ug (p ++ #[rawInt pos.line,rawInt pos.col,.ref a]))) a (aM a j)) i.objs.size (aM i.objs.size (fnMade name qual params body scope clos f ((X.mg "__name__").getD .none) a g)) P=some (.Ug (p ++ #[rawInt pos.line,rawInt pos.col,.ref a])):=by
   rw[aG ZQ,aG ZP,ao]
  have kc:upd (upd (upd H P (.Ug (p ++ #[rawInt pos.line,rawInt pos.col,.ref a]))) a (aM a j)) i.objs.size (aM i.objs.size (fnMade name qual params body scope clos f ((X.mg "__name__").getD .none) a g)) a=some (aM a j):=by
   rw[aG ZR,ao]
  have kf:upd (upd (upd H P (.Ug (p ++ #[rawInt pos.line,rawInt pos.col,.ref a]))) a (aM a j)) i.objs.size (aM i.objs.size (fnMade name qual params body scope clos f ((X.mg "__name__").getD .none) a g)) i.objs.size=some (aM i.objs.size (fnMade name qual params body scope clos f ((X.mg "__name__").getD .none) a g)):=ao
  generalize upd (upd (upd H P (.Ug (p ++ #[rawInt pos.line,rawInt pos.col,.ref a]))) a (aM a j)) i.objs.size (aM i.objs.size (fnMade name qual params body scope clos f ((X.mg "__name__").getD .none) a g))=L at *
  have k:∀b o,s.heap.get? b=some o->b≠P->(i.push (fnMade name qual params body scope clos f ((X.mg "__name__").getD .none) a g)).get? b=some o:=λb o e n=>Heap.get?_push_of_some _ (hx b o n e)
  have F:(i.push (fnMade name qual params body scope clos f ((X.mg "__name__").getD .none) a g)).get? P=some (tabObj (p ++ #[rawInt pos.line,rawInt pos.col,.ref a])):=Heap.get?_push_of_some _ a0
  have hl:(p ++ #[rawInt pos.line,rawInt pos.col,.ref a]).toList=p.toList++[rawInt pos.line,rawInt pos.col,.ref a]:=by simp
  refine h i.objs.size a f _ g j B t L _ (I.call' (ch:=[]) rfl (λb o e n hb N=>?_,λb o e n hb N=>?_,λb o e n N=>?_,λb o e N=>?_,λb xs e=>?_,λb o u e=>?_,λb qs e=>?_) (λb u e=>?_) I.bare λb z=>absurd z (by simp)) K l (_,kP,by rw[hl];exact TriplesOk_snoc _ _ _ _ r,.inr (a,j,B,t,by rw[hl];exact codeAmong_snoc _ r V,kc,hd,S)) kf kc hd S
  ·exact k b o e λz=>by rw[z,m]at n;cases n
  ·exact(o.slots,k b o e λz=>by rw[z,m]at n;cases n)
  ·rw[k1 b (λz=>by rw[z,m]at n;cases n) (aan (aak (Heap.lt_size e) w)) (aan (aak (Heap.lt_size e) (aeY w (agu O))))];exact n
  ·by_cases z:b=P
   ·exact(_,by rw[z];exact F)
   ·exact(o,k b o e z)
  ·exact l b _ e λz=>by rw[z,m]at e;cases e
  ·exact l b _ e λz=>by rw[z,m]at e;cases e
  ·by_cases z:b=P
   ·rw[z,m]at e;cases e;exact(_,by rw[z];exact kP)
   ·exact(#[],by rw[l b _ e z];simp)
  ·by_cases J:b=i.objs.size
   ·rw[J,kf]at e;cases e;rw[J];exact fH (Heap.get?_push_size _ rfl)
   by_cases z2:b=a
   ·rw[z2,kc]at e;cases e;rw[z2];exact fH (Heap.get?_push_of_some _ a1)
   by_cases z3:b=P
   ·rw[z3,kP]at e;cases e;rw[z3];exact F
   rw[k1 b z3 z2 J]at e;refine(I.hok b u e).stay (λd o x q=>k d o q ?_) (λd q=>l d _ q ?_) λd xs q=>l d _ q ?_
   ·rcases x with rfl|x
    ·exact z3
    ·exact λz=>by rw[z,m]at x;cases x
   ·exact λz=>by rw[z,m]at q;cases q
   ·exact λz=>by rw[z,m]at q;cases q
 ·refine makeFunction_hit (mg:=X.mg) W I.ok.glob G v (C.keeps I.bk) y r hf XM λg f i tk hk U=>?_;have K:H i.objs.size=none:=I.hok.fresh U
  have l:∀b o,H b=some o->upd H i.objs.size (aM i.objs.size (fnMade name qual params body scope clos f ((X.mg "__name__").getD .none) D g)) b=some o:=λb o e=>by
   rw[aG (aD e K)];exact e
  have k:∀b o,s.heap.get? b=some o->(i.push (fnMade name qual params body scope clos f ((X.mg "__name__").getD .none) D g)).get? b=some o:=λb o e=>Heap.get?_push_of_some _ (hk b o e)
  refine h i.objs.size D f _ g j B t _ _ (I.call' (ch:=[]) rfl (Un.laid k U K) (λb u e=>?_) I.bare λb z=>absurd z (by simp)) K (λb o e _=>l b o e) (p,l _ _ m,r,.inr (D,j,B,t,hf,l _ _ Y,hd,S)) ao (l _ _ Y) hd S;by_cases J:b=i.objs.size
  ·rw[J,ao]at e;cases e;rw[J];exact fH (Heap.get?_push_size _ rfl)
  rw[aG J]at e;exact(I.hok b u e).stay (λd o _ q=>k d o q) (λd q=>l d _ q) λd xs q=>l d _ q
end
section
variable{P:Program}{s0:Shared}{H0:Hp}{E:XK}{Q:VK}
theorem MJ{T:uA}{cs:List Addr}{Uc:List V}{pos :Pos}{i:Nat}(I:Inv (gW CX P w K mg base N qual scope f (.ref c) A outer s0 H0 E) [] σ H s)(bm:BMain mg base)(C:CodeHd base c Pt)(hT:TabAt H Pt pos T.qual)
  (a5:N.Nodup)(hi:N[i]?=some T.name)(y:scope.names.lookup T.name=some .local)(hq:qualnameIn (envOfC qual scope s0.heap.objs.size f (.ref c)) T.name T.name=T.qual)
  (b0:closureFor T.scope (envOfC qual scope s0.heap.objs.size f (.ref c))=pure (T.xs.zip cs))(a9:T.params.defaults=[])(a6:T.params.kw_defaults=[])(ha:annTrees T.params none (envOfC qual scope s0.heap.objs.size f (.ref c))=[])
  (Y:cs.Nodup)(Z:cs.length=T.xs.length)(L:Uc.length=T.xs.length)
  (XN:∀(j:Nat) (a:Addr),cs[j]?=some a -> ∃(x:Str) (m:Nat) (v:V),(envOfC qual scope s0.heap.objs.size f (.ref c)).cells.lookup x=some a/\scope.names.lookup x=some .cell/\N[m]?=some x/\σ[m]?=some (some v)/\Uc[j]?=some v/\m≠i)
  (hQ:∀(D:Addr) (H2:Hp),H D=none->(∀a∈cs,H a=none)->(∀b o,H b=some o->b≠Pt->H2 b=some o)->TabAt H2 Pt pos T.qual->ik H2 D T cs Uc->Q (.ref D) H2)
  (a8:(T.name==("__debug__" : Str))=false:=by decide)(a0:(T.name==("__classdict__" : Str))=false:=by decide):
  wpAny (model P w) (A.deeper (envOfC qual scope s0.heap.objs.size f (.ref c))) (execs [.FunctionDef T.name T.params T.body [] none [] T.scope none T.name pos,.Return (some (.Name T.name p)) apos] (envOfC qual scope s0.heap.objs.size f (.ref c)))
   (λfl s'=>∃u,fl=.ret u/\CE outer P w H0 s0 Q u s') (gW CX P w K mg base N qual scope f (.ref c) A outer s0 H0 E).xe s:=by
 refine wpAny_execs_cons (nestDef_K a9 a6 ha ?_);rw[hq];refine Pb (X:=gW CX P w K mg base N qual scope f (.ref c) A outer s0 H0 E) (n:=pos.line) I bm rfl C hT b0 λD cd b3 pm b4 oc vs t H1 s1 I1 ZS W b2 a7 b1 hd hv=>?_;refine pF (X:=gW CX P w K mg base N qual scope f (.ref c) A outer s0 H0 E) (v:=.ref D) I1 a5 hi (.inl y) rfl (λs2 I2=>?_) (.inr y);have W8:i<σ.length:=by rw[I.len];exact(aab.mp hi).1
 refine wpAny_execs_cons (wpAny_Return_some (T7 (Gb (X:=gW CX P w K mg base N qual scope f (.ref c) A outer s0 H0 E) hi (.inl y) a8 a0 [] s2 _ H1 (λv h=>v=.ref D/\h=H1) I2 (_,ag5 W8,7,7)) λu F hu=>?_));obtain⟨v,h,J,rv,rfl,rfl⟩:=hu;exists u,7,.ref D,λb=>if b∈cs then (F.heap.get? b).map (aM b)else h b,J.os,J.bare,8,8,rv
 all_goals
  have g:∀a∈cs,∃x,(envOfC qual scope s0.heap.objs.size f (.ref c)).cells.lookup x=some a:=λa k=>by
   obtain⟨j,hj⟩:=abg k;obtain⟨x,m,v,h1,_⟩:=XN j a hj;exact(x,h1)
  have fresh:∀a∈cs,s0.heap.objs.size<=a:=λa k=>by
   obtain⟨x,R⟩:=g a k;exact J.ok.cab x a rfl R
  have a1:∀a∈cs,h a=none:=λa k=>by
   obtain⟨x,R⟩:=g a k;exact J.freeC x a R
  have r:∀b o,h b=some o->b∉cs:=λb o e z=>by
   rw[a1 b z]at e;cases e
 ·have U:Un (frs outer) [] H0 h s0.heap F.heap:=J.base;refine(U.keep,U.slot,λb o e n a4=>?_,U.there,λb xs e=>?_,λb o v e=>?_,λb ps e=>?_)
  ·show (if b∈cs then _ else h b)=none;rw[if_neg (λz=>absurd (aak (Heap.lt_size e) (fresh b z)) (agt _))];exact U.free b o e n a4
  ·have B:=U.tups b xs e;show (if b∈cs then _ else h b)=_;rw[if_neg (r b _ B)];exact B
  ·have B:=U.frzs b o v e;show (if b∈cs then _ else h b)=_;rw[if_neg (r b _ B)];exact B
  ·obtain⟨S,B⟩:=U.tbls b ps e;exists S;show (if b∈cs then _ else h b)=_;rw[if_neg (r b _ B)];exact B
 ·intro b M e;have e:(if b∈cs then (F.heap.get? b).map (aM b)else h b)=some M:=e;by_cases hb:b∈cs
  ·rw[if_pos hb]at e;cases q:F.heap.get? b with
   |none=>rw[q]at e;cases e
   |some o=>
    rw[q]at e;cases e;exact fH q
  ·rw[if_neg hb]at e;refine(J.hok b M e).stay (λ_ _ _ q=>q) (λd q=>?_) λd xs q=>?_
   ·show (if d∈cs then _ else h d)=_;rw[if_neg (r d _ q)];exact q
   ·show (if d∈cs then _ else h d)=_;rw[if_neg (r d _ q)];exact q
 ·have O:∀b o,h b=some o->(λb=>if b∈cs then (F.heap.get? b).map (aM b)else h b) b=some o:=λb o e=>by
   show (if b∈cs then _ else h b)=_;rw[if_neg (r b _ e)];exact e
  refine hQ D _ ZS (λa k=>?_) (λb o e n=>O b o (W b o e n)) ?_ ((cd,b3,pm,b4,oc,vs,t,O _ _ a7,O _ _ b1,hd,hv),λj a hj=>?_,Y,Z,L)
  ·obtain⟨x,R⟩:=g a k;exact I.freeC x a R
  ·obtain⟨ps,B,e2,e3⟩:=b2;exists ps,O _ _ B,e2;rcases e3 with e3|⟨b5,a3,a2,t',e4,e5,e6⟩
   ·exact .inl e3
   ·exact .inr (b5,a3,a2,t',e4,O _ _ e5,e6)
  ·obtain⟨x,m,v,h1,h2,h3,h4,h5,h6⟩:=XN j a hj;obtain⟨mm,_,hl⟩:=J.loc;obtain⟨M,r',l⟩:=hl m x v h3 (by rw[ahf (agG h6)];exact h4) (.inr (.inl h2));have l':∃c',(envOfC qual scope s0.heap.objs.size f (.ref c)).cells.lookup x=some c'/\F.heap.IsCell c' (some M):=by
    rcases l with ⟨G,_⟩|⟨_,l2⟩
    ·have G:scope.names.lookup x=some .local:=G;rw[h2]at G;cases G
    ·exact l2
   obtain⟨c',G,co,l2,l3⟩:=l';rw[h1]at G;cases G;refine(co,v,M,h5,8,l3,r');show (if a∈cs then (F.heap.get? a).map (aM a)else h a)=_;rw[if_pos (aah hj),l2];rfl
theorem FT{k:Nat}{name:Str}{g:Arguments}{h:List Stmt}{kV B M d R oc:Value}{T Z:Option Addr}{G:Array (Option Value)}{ps:List Str}(lk:K.lookup f=some (oc,Z,.func (PySem.W.fnOf name qual g h scope q kV B M T d R),G))(L:PySem.W.codeIn K d qual=true)(S:aC N ps scope)
  (t:∀i H Q E,sp i H Q E->i.length=ps.length)
  (l:∀(A:Around) (outer:List Env) (s:Shared) (H:Hp) (i:List V) (Q:VK) (E:XK) (m:Shared),dX k (A.deeper (envOfC qual scope s.heap.objs.size f d))->sp i H Q E->Inv (gW T9 P w K mg base N qual scope f d A outer s H E) [] (start N i) H m ->
   wpAny (model P w) (A.deeper (envOfC qual scope s.heap.objs.size f d)) (execs h (envOfC qual scope s.heap.objs.size f d)) (λO C=>∃u,O=.ret u/\CE outer P w H s Q u C) (gW T9 P w K mg base N qual scope f d A outer s H E).xe m):
  aV P w K mg base T9 (k+1) f (PySem.W.fnOf name qual g h scope q kV B M T d R) ps sp:=by
 refine(t,λA outer s H X Y i Q E F p hb r z=>?_);have hl:=t _ _ _ _ z;have U:K.In s.heap:=p.mod.Xp.keeps λb o e=>(p.bs b o e).1;have J:s.heap.NoLimit:=p.mod.nolimit.keeps λb o e=>(p.bs b o e).1;have j:∀y∈ps.zip Y,scope.names.lookup y.1=some .local\/(scope.names.lookup y.1=some .cell/\((cellsFrom (s.heap.objs.size+1) scope.names []).lookup y.1).isSome=true):=λ⟨n,v⟩ hy=>by
  rcases S.Wc n (ahC hy).1 with a|a
  ·exact .inl a
  ·exact .inr (a,PySem.W.cellsFrom_some _ _ _ (.inl a))
 refine codeAny_call_function F.depth (U _ _ lk) rfl S.co S.gen rfl (PySem.W.codeRec_of U L) (hb _ _ _ _ ?_);refine wpAny_newFunctionEnv_cells S.kind j λa0 he m x=>?_;subst he;refine(J.keeps x.toInCall.keep,codeAny_func ?_);have I:Inv (gW T9 P w K mg base N qual scope f d A outer s H E) [] (start N i) H m:=xV S F.hd p hl r x;refine wpAny_mono (l A outer s H i Q E m (F.deeper _) z I) (λO C D=>?_) λe C D=>D;obtain⟨u,rfl,a⟩:=D;exact a
end
theorem JL{w:World}{mg mb:Str->Option Value}{k:Nat}{a:Addr}{fd:FuncData}{x:Str}{g:Shared}{y:List Value}{i:List (Addr×Addr)}
  (KX:K.In g.heap)(U:g.heap.Ns mainGlobals mg)(hb:g.heap.Ns builtinsNs mb)(a8:∀x:Str,x ≠ "__name__" -> mb x=bootBuiltins x)(Z:g.heap.NoLimit)(a7:BMain mg g.heap)(A:TabsAt i g.heap)(ZV:noTabs K=true)(hg:g.gens=#[])
  (O:g.heap.get? a=some {cls:=.type "list",data:=.seq y.toArray})(hi:IntsAre y d)(hl:d.length<=sizeLine)(hr:dX k callerA)
  (F:∀base:Heap,K.In base->base.Ns mainGlobals mg->BMain mg base->(∀q∈i,CodeHd base q.1 q.2)->aV prog w K mg base T9 k f fd [x] sp)(M:∀(s:Shared) (u:Value),BindsTo s fd ([u],[]) [(pq x u)])
  (a5:∀H:Hp,T6 K H a (d.map V.int)->(∀q∈i,H q.2=some (.Ug #[]))->sp [.ref a] H (λv _=>v=.bl true) λ_ _ _=>False):
  codeAny (model prog w) callerA (.call (.ref f) ([.ref a],[])) (λr C=>r=.ok (.ret (.bool true))/\OldK g.heap C.heap/\C.os=g.os/\AllBare C.gens) g:=by
 have rv:=qH hi;have lenV:=hi.length;have D:∀b,b∈i.map (·.2)->K.lookup b=none:=λb p=>by
  cases q:K.lookup b with
  |none=>rfl
  |some o=>
   obtain⟨r,j,rfl⟩:=aaZ.mp p;have e:=KX _ _ q;rw[(A r j).2]at e;cases e;have t:=aje.mp ZV _ (mem_of_lookupK q);exact absurd (show false=true from t) aal
 have a2:a∉i.map (·.2):=λz=>by
  obtain⟨r,j,e⟩:=aaZ.mp z;have J:=(A r j).2;rw[e,O]at J;cases J
 have I:∀H:Hp,(∀b,H b=none\/(b=a/\K.lookup a=none/\H b=some (.U4 {cls:=.type "list",data:=.seq y.toArray} (.lst (d.map V.int))))\/(b∈i.map (·.2)/\H b=some (.Ug #[])))->(∀q∈i,H q.2=some (.Ug #[]))->T6 K H a (d.map V.int)->Uj prog w H g.heap ->
   codeAny (model prog w) callerA (.call (.ref f) ([.ref a],[])) (λr C=>r=.ok (.ret (.bool true))/\OldK g.heap C.heap/\C.os=g.os/\AllBare C.gens) g:=by
  intro H hO a9 hS T;have l:∀{b:Addr}{o:Obj},g.heap.get? b=some o->H b=none->(vD g.heap H).get? b=some o:=λe n=>Ka e n
  have Xc:∀{b:Addr}{o:Obj},g.heap.get? b=some o->o.cls ≠ .type "list" -> o.cls ≠ .none->H b=none:=λ{b o} e d1 d2=>by
   rcases hO b with z|⟨rfl,_,z⟩|⟨z,_⟩
   ·exact z
   ·rw[O]at e;cases e;exact absurd rfl d1
   ·obtain⟨r,j,rfl⟩:=aaZ.mp z;rw[(A r j).2]at e;cases e;exact absurd rfl d2
  have a3:∀{b:Addr}{o:Obj}{Q:Array DictEntry}{R:Nat},g.heap.get? b=some o->o.data=.dict Q R->H b=none:=λ{b o Q R} e c=>by
   rcases hO b with z|⟨rfl,_,z⟩|⟨z,_⟩
   ·exact z
   ·rw[O]at e;cases e;have d':Data.seq y.toArray _=Data.dict Q R:=c;cases d'
   ·obtain⟨r,j,rfl⟩:=aaZ.mp z;rw[(A r j).2]at e;cases e;have d':Data.fields _=Data.dict Q R:=c;cases d'
  have YB:∀{b:Addr}{m:Str->Option Value},g.heap.Ns b m->(vD g.heap H).Ns b m:=λ{b m} ⟨o,Q,R,e,c,r⟩=>(o,Q,R,l e (a3 e c),c,r);have X:K.In (vD g.heap H):=λb o e=>l (KX b o e) (by
   rcases hO b with z|⟨rfl,z,_⟩|⟨z,_⟩
   ·exact z
   ·rw[e]at z;cases z
   ·rw[D b z]at e;cases e)
  have hM:Mod K mg (vD g.heap H):=(X,YB U,(mb,YB hb,a8),let ⟨mc,B,t⟩:=Z;(mc,YB B,t));have hB:BMain mg (vD g.heap H):=by
   obtain⟨bm,ob,b1,b2,b3,b4,b5⟩:=a7;exact(bm,ob,b1,b2,l b3 (Xc b3 (by rw[b4];decide) (by rw[b4];nofun)),b4,b5)
  have hC:∀q∈i,CodeHd (vD g.heap H) q.1 q.2:=λq S=>by
   obtain⟨o,ws,a0,tf,N,tg,a4,Y,tt,L,r1,r2⟩:=(A q S).1;exact(o,ws,a0,tf,N,tg,a4,Y,tt,l L (Xc L (by rw[r1];decide) (by rw[r1];nofun)),r1,r2)
  have e0:Ek prog w K mg (vD g.heap H) callerA [] g H:=(7,hM,λb o e=>Nh e,ahD (HD _ _),trivial,λb hb=>absurd (show b∈([]:List Addr)from hb) (by simp),T,.of_eq hg);refine codeAny_mono ((F _ X (YB U) hB hC).run callerA [] g H ([.ref a],[]) [.ref a] [.ref a] _ _ hr e0 (M g (.ref a)) (.cons rfl .nil) (a5 H hS a9)) λr C h=>?_;cases r with
  |error e=>exact False.elim h
  |ok fl=>
   cases fl with
   |next=>exact False.elim h
   |brk=>exact False.elim h
   |cont=>exact False.elim h
   |ret u=>
    obtain⟨v,H',os,a1,un,G,r',q⟩:=h;have q':v=.bl true:=q;subst q';obtain rfl:u=Value.bool true:=r';refine(7,(λb o e=>?_,λb o e=>un.there b o e (by simp)),os,a1);rcases hO b with z|⟨rfl,_,z⟩|⟨z1,z⟩
    ·exact .inl (un.keep b o e z (by intro z;exact absurd (show b∈([]:List Addr)from z) (by simp)) (by simp))
    ·have z2:=un.frzs b _ _ z;obtain⟨L,_⟩:=T b _ z;obtain⟨J,_⟩:=G b _ z2;rw[e]at L;cases L;exact .inl J
    ·obtain⟨E,z2⟩:=un.tbls b _ z;have L:C.heap.get? b=some {cls:=.none,data:=.fields (#[]++E)}:=G b _ z2;obtain⟨r,j,rfl⟩:=aaZ.mp z1;have J:=(A r j).2;rw[e]at J;cases J;exact .inr (.inl (((A r j).1.tab (A r j).2).isCodeTable,7,#[],E,7,L))
 cases hk:K.lookup a with
 |some o=>
  have e:=KX a o hk;rw[O]at e;cases e;refine I (λb=>if b∈i.map (·.2)then some (.Ug #[])else none) (λb=>?_) (λq S=>if_pos (aiT S)) (.inr (_,y.toArray,_,hk,7,7,7,by rw[aao,lenV];exact hl,by simpa using rv)) (λb u z=>?_)
  ·by_cases p:b∈i.map (·.2)
   ·exact .inr (.inr (p,if_pos p))
   ·exact .inl (if_neg p)
  ·by_cases p:b∈i.map (·.2)
   ·have z':=(if_pos p).symm.trans z;cases z';obtain⟨r,j,rfl⟩:=aaZ.mp p;exact(A r j).2
   ·have z':=(if_neg p).symm.trans z;cases z'
 |none=>
  have hA:(λb=>if b=a then some (.U4 {cls:=.type "list",data:=.seq y.toArray} (.lst (d.map V.int)))else if b∈i.map (·.2)then some (.Ug #[])else none:Hp) a=some (.U4 {cls:=.type "list",data:=.seq y.toArray} (.lst (d.map V.int))):=if_pos rfl
  have ZW:∀b∈i.map (·.2),(λb=>if b=a then some (.U4 {cls:=.type "list",data:=.seq y.toArray} (.lst (d.map V.int)))else if b∈i.map (·.2)then some (.Ug #[])else none:Hp) b=some (.Ug #[]):=λb p=>by
   have a6:b≠a:=λe=>a2 (e ▸ p);show (if b=a then _ else if b∈i.map (·.2)then _ else _)=_;rw[if_neg a6,if_pos p]
  have hN:∀b,b≠a->b∉i.map (·.2)->(λb=>if b=a then some (.U4 {cls:=.type "list",data:=.seq y.toArray} (.lst (d.map V.int)))else if b∈i.map (·.2)then some (.Ug #[])else none:Hp) b=none:=λb B t=>by
   show (if b=a then _ else if b∈i.map (·.2)then _ else _)=_;rw[if_neg B,if_neg t]
  generalize (λb=>if b=a then some (.U4 {cls:=.type "list",data:=.seq y.toArray} (.lst (d.map V.int)))else if b∈i.map (·.2)then some (.Ug #[])else none:Hp)=H at *
  refine I H (λb=>?_) (λq S=>ZW _ (aiT S)) (.inl (.inr ({cls:=.type "list",data:=.seq y.toArray},hA))) (λb u z=>?_)
  ·by_cases B:b=a
   ·rw[B];exact .inr (.inl (7,hk,hA))
   ·by_cases t:b∈i.map (·.2)
    ·exact .inr (.inr (t,ZW b t))
    ·exact .inl (hN b B t)
  ·by_cases B:b=a
   ·rw[B,hA]at z;cases z;rw[B];exact(O,by rw[aaa];exact hl,y,_,rv,O)
   ·by_cases t:b∈i.map (·.2)
    ·rw[ZW b t]at z;cases z;obtain⟨r,j,rfl⟩:=aaZ.mp t;exact(A r j).2
    ·rw[hN b B t]at z;cases z
theorem J6{l:PySem.W.OpenLaw}{n k:Nat}{q:Program}{XP:(Str->Option Value)->Heap->Prop}{I:World->Heap->Prop}{d:DefRec}{K:Params->PySem.W.Frag}{x:Str}
  (P:l.most=some n)(A:n<=sizeLine)(C:d.params.defaults=[])(O:dX k callerA)
  (S:∀(w:World) (h:Heap),I w h->(K w.params).In h)
  (F:∀(w:World) (mg y:Str->Option Value) (j:ExcName->Option Value) (r:Addr) (h:Heap),(K w.params).In h->Top q (looseW q N) j mg y h->mg d.name=some (.ref r) ->
   ∃(fd:FuncData) (c:List (Addr×Addr)) (t:Sp),(∀(s:Shared) (u:Value),BindsTo s fd ([u],[]) [(pq x u)])/\TabsAt c h/\noTabs (K w.params)=true /\
    (∀base:Heap,(K w.params).In base->base.Ns mainGlobals mg->BMain mg base->(∀q∈c,CodeHd base q.1 q.2)->aV l.prog w (K w.params) mg base T9 k r fd [x] t) /\
    ∀(H:Hp) (a:Addr) (p:List Int),p.length<=n->T6 (K w.params) H a (p.map V.int)->(∀q∈c,H q.2=some (.Ug #[]))->t [.ref a] H (λv _=>v=.bl true) λ_ _ _=>False):
  PySem.W.WalkO q N XP I l.row.toRowW d [] (λf E=>PySem.call f E):=by
 refine Yy.attach_call P C λw M L mg y r o pm cd a1 a E p G Y ho hd a0 B m i e Q=>?_;have J:=S w _ Y;obtain⟨fd,c,t,R,U,ZV,Z,z⟩:=F w mg y _ r _ J G.T B;exact JL J G.T.g G.T.b G.T.builtins G.T.nolimit G.T.bmain U ZV Q m i (aeY e A) O Z R λH X D=>z H a p e X D
def RD(st:Stmt)(c:Str)(ps xs:List Str):uA:=match st with
 |.FunctionDef n a b _ _ _ d _ _ _=>(n,c,a,b,d,ps,xs)
 |_=>("",c,ν st,[],δ st,ps,xs)
def yN:Stmt->Pos
 |.FunctionDef _ _ _ _ _ _ _ _ _ p=>p
 |_=>(0,0,0,0)
structure Qw(N:List Str)(qual:Str)(scope:Scope)(T:uA)(i:Nat)(slots:List Nat)(U6:Addr->List Addr):Prop where
 nd:N.Nodup
 hi:N[i]?=some T.name
 loc:scope.names.lookup T.name=some .local
 qn:∀(L f:Addr) (c:Value),qualnameIn (envOfC qual scope L f c) T.name T.name=T.qual
 cl:∀(L f:Addr) (c:Value),closureFor T.scope (envOfC qual scope L f c)=pure (T.xs.zip (U6 L))
 d0:T.params.defaults=[]
 k0:T.params.kw_defaults=[]
 an:∀(L f:Addr) (c:Value),annTrees T.params none (envOfC qual scope L f c)=[]
 ZX:∀L:Addr,(U6 L).Nodup
 len:∀L:Addr,(U6 L).length=T.xs.length
 fv:∀(L f:Addr) (c:Value) (j:Nat) (a:Addr),(U6 L)[j]?=some a -> ∃(x:Str) (m:Nat),(envOfC qual scope L f c).cells.lookup x=some a/\scope.names.lookup x=some .cell/\N[m]?=some x/\slots[j]?=some m/\m≠i
 db:(T.name==("__debug__" : Str))=false
 dn:(T.name==("__classdict__" : Str))=false
def Made(H:Hp)(g:Addr)(pos:Pos)(T:uA)(c:List Nat)(σ:St)(Q:VK):Prop:=
 TabAt H g pos T.qual /\ ∃f:List V,(∀j m:Nat,c[j]?=some m -> ∃v,σ[m]?=some (some v)/\f[j]?=some v)/\f.length=T.xs.length /\
  ∀(e:Addr) (h:List Addr) (d:Hp),H e=none->(∀a∈h,H a=none)->(∀b o,H b=some o->b≠g->d b=some o)->TabAt d g pos T.qual->ik d e T h f->Q (.ref e) d
section
variable{P:Program}{k:Nat}{T:uA}{slots:List Nat}{U6:Addr->List Addr}{pos p1 p2:Pos}
theorem JR{A:Around}{s b:Shared}{Q:VK}{E:XK}{σ:St}(M:Qw N qual (δ st) T i slots U6)(bm:BMain mg base)(C:CodeHd base c Pt)(I:Inv (gW T9 P w K mg base N qual (δ st) f (.ref c) A outer s H E) [] σ H' b)(h:Made H' Pt pos T slots σ Q):
  wpAny (model P w) (A.deeper (envOfC qual (δ st) s.heap.objs.size f (.ref c))) (execs [.FunctionDef T.name T.params T.body [] none [] T.scope none T.name pos,.Return (some (.Name T.name p1)) p2] (envOfC qual (δ st) s.heap.objs.size f (.ref c)))
   (λB d=>∃u,B=.ret u/\CE outer P w H s Q u d) (gW T9 P w K mg base N qual (δ st) f (.ref c) A outer s H E).xe b:=by
 obtain⟨q,U,z,t,r⟩:=h;refine MJ (cs:=U6 s.heap.objs.size) (Uc:=U) I bm C q M.nd M.hi M.loc (M.qn _ _ _) (M.cl _ _ _) M.d0 M.k0 (M.an _ _ _) (M.ZX _) (M.len _) t (λj a e=>?_) (λD V p o n l g=>r D _ V p o n l g) M.db M.dn;obtain⟨y,m,S,R,O,L,J⟩:=M.fv s.heap.objs.size f (.ref c) j a e;obtain⟨v,G,F⟩:=z j m L;exact(y,m,v,S,R,O,G,F,J)
theorem UV.maker0(F:UV K x qual st f fd)(S:aC N ps (δ st))(M:Qw N qual (δ st) T i slots U6)(bm:BMain mg base)(b:fd.code=.ref c)(C:CodeHd base c Pt)(d:∀a H Q E,sp a H Q E->a.length=ps.length)
  (n:μ st=[.FunctionDef T.name T.params T.body [] none [] T.scope none T.name pos,.Return (some (.Name T.name p1)) p2])
  (h:∀(a:List V) (H:Hp) (Q:VK) (E:XK),sp a H Q E->Made H Pt pos T slots (start N a) Q):aV P w K mg base T9 (k+1) f fd ps sp:=by
 obtain⟨u,t,kV,p,r,z,j,y,o,rfl,m,g⟩:=F.ex;obtain rfl:j=.ref c:=b;refine FT m g S d λA l s H a Q E q v e I=>?_;rw[n];exact JR M bm C I (h a H Q E e)
theorem Qz{sp:Addr->Sp}(S:vL N T)(y:∀(n:List (Str×Addr)) (d m b e:Value) (l:List Value),l.length=T.ps.length->bindArgs (fnX T.name T.qual T.params T.body T.scope n .none .none d m none b e) (l,[])=pure (T.ps.zip l))
  (h:∀(f:Addr) (j:List V) (H:Hp) (Q:VK),sp f j H Q E0->j.length=T.ps.length /\ ∃cs Uc,ik H f T cs Uc /\
   ∀(b:Addr) (A:Around) (a:List Env) (s:Shared),dX k (A.deeper (envX T.qual T.scope s.heap.objs.size f (.ref b) (T.xs.zip cs))) -> ∃t,U5 (sX P w K mg base N T.qual T.scope f (.ref b) (T.xs.zip cs) A a s (hide H cs)) T.body t/\t {nx:=λ_ H'=>Q .non (over H cs H'),rt:=λv H'=>Q v (over H cs H')} (start N (j++Uc)) (hide H cs)):
  fV P w K mg base (k+1) sp:=by
 intro f A a s H l j Q u z r o;obtain⟨q,cs,Uc,B,g⟩:=h f j H Q o;exact Ow S u z B (λn d m b e=>.of_eq (y n d m b e l (by rw[<-r.length];exact q))) r q λb p=>g b A a s p
end
theorem tab0{pos:Pos}(h:H a=some (.Ug #[])):TabAt H a pos x:=(#[],h,trivial,.inl rfl)
theorem u0{x:Str}{f c :Addr}{e:Value}{h g:Option Addr}{fd:FuncData}{d b:Array (Option Value)}(a:nsIn K mainGlobals x=some (some (.ref f)))(l:K.lookup f=some (q,h,.func fd,d))(i:fd.code=.ref c)
  (t:K.lookup c=some (e,g,.fields y,b))(p:y[11]?=some (.ref C)):tabIn K x=some (pq c C):=by
 unfold tabIn;simp only[a,l,i,t,p]
end L2
namespace PySem
open PyProof.Rows
namespace F
theorem lri_no_len:typeLookup (.type "list_reverseiterator") "__len__" = pure none:=by rw[typeLookup_type,builtinLookup_eq_fast];kernel_rfl
theorem lri_hint:typeLookup (.type "list_reverseiterator") "__length_hint__" = pure (some (.builtin "list_reverseiterator.__length_hint__")):=by rw[typeLookup_type,builtinLookup_eq_fast];kernel_rfl
end F
theorem v7{l:Addr}{i:Int}{Q:Bool->Shared->Prop}(d:s.heap.IsRevIter a l i)(h:Q false s):wpAny (model prog w) A (Builtin.List.listLengthHint (.ref a)) Q E s:=by
 unfold Builtin.List.listLengthHint;refine wpAny_bind (wpAny_specialOf d.typeIs F.lri_no_len ?_)
 show wpAny _ A (specialOf (Value.ref a) (Str.ofString "__length_hint__") >>= _) _ _ _
 refine wpAny_bind (wpAny_specialOf d.typeIs F.lri_hint ?_)
 generalize e:("list_reverseiterator.__length_hint__" : String)=id0
 wp_delta
 rw[show splitId id0=some (pq ("list_reverseiterator") ("__length_hint__"))from by subst e;decide +kernel]
 subst e
 refine wpAny_bind (wpAny_isInstance (T := "list_reverseiterator") (b:=true) d.typeIs (by rw[isSubtype_type];kernel_rfl) ?_)
 refine wpAny_ite_split (λc=>absurd c ∅) (λ_=>?_);refine wpAny_ite_split (λ_=>?_) (λc=>absurd (by decide +kernel) c);refine wpAny_ite_split (λc=>absurd c (by decide +kernel)) (λ_=>?_);exact wpAny_pure h
section
variable{R:Result->Shared->Prop}
theorem jK{l:Addr}{items:Array Value}(Q:A.handled=none)(H:l≠a)(S:Addr)(k:Value)(n:Nat)(d:s.heap.IsRevIter a l ((items.size:Int)-1))(M:s.heap.IsList l items)(r:S≠a)(D:S≠l)
  (G:s.heap.get? S=some {cls:=.type "list",data:=.seq #[] n})
  (T:∀h' tk c z,(∀b o,b≠S->b≠a->s.heap.get? b=some o->h'.get? b=some o)->h'.get? S=some {cls:=.type "list",dict:=none,data:=.seq c z,slots:=#[]} ->
   ItemsOf (λi v=>items[items.size-1-i]?=some v) c items.size->R (.ok (.ret k)) {s with heap:=h',toks:=tk})(O:items.size<=sizeLine):
  wpAny (model prog w) A.in1 (Builtin.List.listExtendWith (.ref S) (.ref a) k)
   (λL p=>match L with | .done f=>R (.ok f) p | .again z=>z.quiet=true/\codeAny (model prog w) A z R p) (λe p=>R (.error e) p) s:=by
 have J:S∉[a,l]:=λy=>by
  rcases aas.mp y with e|y
  ·exact r e
  ·exact D (aam.mp y)
 have W:=(Walks.listRev (prog:=prog) (w:=w) (A:=A.in1) Q a l H items).toS;have C:∀(h:Heap) (j tk:Nat),h.IsRevIter a l ((items.size:Int)-1)->h.IsList l items->(∀b o,b≠S->s.heap.get? b=some o->h.get? b=some o) ->
   h.get? S=some {cls:=.type "list",data:=.seq #[] j}->codeAny (model prog w) A (.builtin "list.extend.loop" ([.ref S,.ref a,k],[])) R {s with heap:=h,toks:=tk}:=by
  intro h j tk m t P x;refine codeAny_extend_loopS W O S J k items.size 0 _ #[] j rfl (aaD _) (aaD _,8,t) x (ItemsOf.nil _) λp c z y K E=>?_
  ·have e:(items.size:Int)-1-((0:Nat):Int)=(items.size:Int)-1:=by lia
   rw[e];exact m
  rw[Moved.eq_with y];refine T p.heap p.toks c z (λb o B I e=>y.heap b o (λg=>?_) (P b o B e)) K E;rcases aas.mp g with Y | g
  ·exact B Y
  ·exact I (aam.mp g)
 unfold Builtin.List.listExtendWith;refine wpAny_bind (wpAny_typeOf d.typeIs ?_);have X:Builtin.List.listSameRef (.ref S) (.ref a)=false:=by simp[Builtin.List.listSameRef,r]
 have V:(Value.type "list_reverseiterator" == Value.type "list")=false:=by decide
 have U:(Value.type "list_reverseiterator" == Value.type "tuple")=false:=by decide
 simp only[X,V,U,aiX,agr,if_false];refine wpAny_bind (wpAny_pyIter_revIter d ?_);refine wpAny_bind (wpAny_holding (v7 d ?_));refine wpAny_ite_split (λ_=>?_) (λ_=>wpAny_pure (plainId_quiet F.plain_extend_loop _,C _ n _ d M (λb o _ e=>e) G));refine wpAny_bind (wpAny_rule ?_);refine wpAny_bind ?_;show wpAny _ _ (updateSeq S (·.push .none) >>= λ_=>updateSeq S (·.pop)) _ _ _;refine wpAny_bind (wpAny_updateSeq G rfl ?_);have N:=Heap.get?_update_self (Obj.mapSeq (·.push Value.none)) G rfl;refine wpAny_updateSeq (hz:=by seq_fits) N rfl ?_;have u:=Heap.get?_update_self (Obj.mapSeq (·.pop)) N rfl;have q:∀b o,b≠S->s.heap.get? b=some o->((s.heap.update S (Obj.mapSeq (·.push Value.none))).update S (Obj.mapSeq (·.pop))).get? b=some o:=
  λb o B e=>(Heap.get?_update_other _ _ (agG B)).trans ((Heap.get?_update_other _ _ (agG B)).trans e)
 exact wpAny_pure (plainId_quiet F.plain_extend_loop _,C _ _ _ (d.at λo e=>q a o (agG r) e) (M.at λo e=>q l o (agG D) e) q u)
theorem nj{l:Addr}{items:Array Value}(D:A.handled=none)(r:l≠a)(S:Addr)(t:s.heap.IsRevIter a l ((items.size:Int)-1))(B:s.heap.IsList l items)(j:S≠a)(h:S≠l)
  (p:s.heap.get? S=some {cls:=.type "list",data:=.seq #[]})
  (E:∀h' tk c g,(∀b o,b≠S->b≠a->s.heap.get? b=some o->h'.get? b=some o)->h'.get? S=some {cls:=.type "list",dict:=none,data:=.seq c g,slots:=#[]} ->
   ItemsOf (λi v=>items[items.size-1-i]?=some v) c items.size->R (.ok (.ret .none)) {s with heap:=h',toks:=tk})(z:items.size<=sizeLine):
  wpAny (model prog w) A.in1 (Builtin.«list.__init__» ([.ref S,.ref a],[]))
   (λy m=>match y with | .done f=>R (.ok f) m | .again g=>g.quiet=true/\codeAny (model prog w) A g R m) (λe m=>R (.error e) m) s:=by
 show wpAny _ _ (do let q <-Builtin.List.listItems (.ref S);Builtin.List.listUpdate (.ref S) (λ_=>#[]);letGo q.toList.reverse;Builtin.List.listExtendWith (.ref S) (.ref a) .none) _ _ s;refine wpAny_bind ?_;unfold Builtin.List.listItems;refine wpAny_bind (wpAny_seqItems p rfl (wpAny_pure ?_));show wpAny _ _ (updateSeq S (λ_=>#[]) >>= λ_=>letGo (#[]:Array Value).toList.reverse >>= λ_=>Builtin.List.listExtendWith (.ref S) (.ref a) .none) _ _ s;refine wpAny_bind (wpAny_updateSeq p rfl ?_);have F:=Heap.get?_update_self (Obj.mapSeq (λ_=>(#[]:Array Value))) p rfl;have d:∀b o,b≠S->s.heap.get? b=some o->(s.heap.update S (Obj.mapSeq (λ_=>(#[]:Array Value)))).get? b=some o:=
  λb o n e=>(Heap.get?_update_other _ _ (agG n)).trans e
 refine wpAny_bind (wpAny_letGo ?_);refine jK D r S .none _ (t.at λo e=>d a o (agG j) e) (B.at λo e=>d l o (agG h) e) j h F (λh' tk c g C x k=>?_) z;exact E h' tk c g (λb o n u e=>C b o n u (d b o n e)) x k
end
theorem wM{Q:Value->Shared->Prop}{l:Addr}{items:Array Value}(y:A.handled=none)(p:l≠a)(g:s.heap.IsRevIter a l ((items.size:Int)-1))(r:s.heap.IsList l items)(u:items.size<=sizeLine)
  (B:∀h' tk c k,(∀b o,b≠a->s.heap.get? b=some o->h'.get? b=some o)->h'.get? s.heap.objs.size=some {cls:=.type "list",dict:=none,data:=.seq c k,slots:=#[]} ->
   ItemsOf (λi v=>items[items.size-1-i]?=some v) c items.size->Q (.ref s.heap.objs.size) {s with heap:=h',toks:=tk}):
  wpAny (model prog w) A (call (.type "list") [.ref a]) Q E s:=by
 obtain⟨D,n,_⟩:=id g;obtain⟨C,m,_⟩:=id r
 refine callType_codes (Q₁:=λf d=>f=.ref s.heap.objs.size/\d={s with heap:=s.heap.push {cls:=.type "list",data:=.seq #[]}}) F.called_list (F.typeCall_list_1 _) F.entry_list_init
  (code_list_new _ (7,7)) λf d h=>?_
 obtain⟨rfl,rfl⟩:=h
 have t:(s.heap.push {cls:=.type "list",data:=.seq #[]}).get? s.heap.objs.size=some {cls:=.type "list",data:=.seq #[]}:=Heap.get?_push_size _ rfl
 refine((_,t,7),F.args_list_init_2 _ _,nj (A:=A.in1) y p _ (g.at λo e=>Heap.get?_push_of_some _ e) (r.at λo e=>Heap.get?_push_of_some _ e) (ahB (Heap.lt_size n)) (ahB (Heap.lt_size m)) t (λh' tk c k x q j=>?_) u);exact(7,B h' tk c k (λb o z e=>x b o (aan (Heap.lt_size e)) z (Heap.get?_push_of_some _ e)) q j)
end PySem
namespace L2
open PySem.Spec PyProof.Rows PySem.W
inductive Oa(K:PySem.W.Frag)(Q:VK)(vs:List V)(H1:Hp):Prop
 | mk (p ys:_) (_:vs=[.ref p]) (_:T6 K H1 p ys) (_:∀l,H1 l=none->Q (.ref l) (upd H1 l (.lst ys.reverse)))
def Sy(K:PySem.W.Frag)(b:TA):TE:=λ a H Q=>b a H (Oa K Q)
theorem Fo{a:Expr}{p pos d:Pos}(hc:X.calm=true)(hg:Gl X "list")(Y:X.mg "list" = none)(U:bootBuiltins "list" = some (.type "list"))(A:Gl X "reversed")(z:X.mg "reversed" = none)(w:bootBuiltins "reversed" = some (.type "reversed"))
  (ha:PA X [a] t)(V:starEach [a] X.env=[(pq false (eval a X.env))]:=by rfl)
  (D:starEach [.Call (.Name "reversed" apos) [a] [] d] X.env=(pq false (eval (.Call (.Name "reversed" apos) [a] [] d) X.env))::starEach [] X.env:=by rfl)(x:(backTo pos (starEach [] X.env)).any (·.1)=false:=by rfl):
  PE X (.Call (.Name "list" p) [.Call (.Name "reversed" apos) [a] [] d] [] pos) (Sy X.K t):=by
 intro M s L H Q I h;refine wpAny_Call_Name_kw (dH I hg Y U ?_);refine PyProof.Rows.callWith_type1 ?_ D x;rw[D]
 show wpAny _ _ (spliced ((pq false (eval (.Call (.Name "reversed" apos) [a] [] d) X.env))::backTo pos (starEach [] X.env))) _ _ s
 refine Calls.spliced_cons ?_;refine Call_ (dH I A z w (PyProof.Rows.callWith_type1 (T7 (ha d M s L H _ I h) λus j ⟨vs,H1,v,R,S⟩=>?_) V rfl));obtain⟨b,N,e,W,q⟩:=S;subst e;obtain⟨u,rfl,P⟩:=vals1 R;cases P;obtain⟨g,C,n,T⟩:=v.list W;have hl:=C.length;obtain⟨ob,y,J,F,G⟩:=id n.isList;have B:b<j.heap.objs.size:=Heap.lt_size y;refine call_reversed_list n.isList ?_;refine Calls.spliced_nil ?_;refine wM (I.ok.hd hc) (l:=b) (items:=g.toArray) (aan B) (_,Heap.get?_push_size _ rfl,7,7) (n.isList.push _) (by rw[aao];lia) λh' O f c' Z hS k=>?_;have m:f=g.reverse.toArray:=by
  obtain⟨E,e2⟩:=k;apply Array.ext
  ·rw[E,aao,aao,agQ]
  ·intro i r h2;have:=e2 i f[i] (ahO r);rw[aao,ahF,<-aiI (by rw[E,aao]at r;exact r)]at this;rw[List.getElem_toArray];exact(aax ((aad _).symm.trans this)).symm
 subst m;refine(.ref _,_,v.laid (t':=O) (o:=.lst N.reverse) (λc o e=>Z c o (aan (Heap.lt_size e)) (Heap.get?_push_of_some _ e)) ?_ (by rw[agQ];exact T,g.reverse,c',C.reverse,hS),7,q _ (v.hok.fresh ?_))
 ·show j.heap.objs.size<=(j.heap.push _).objs.size;simp[Heap.push]
 ·show j.heap.objs.size<=(j.heap.push _).objs.size;simp[Heap.push]
end L2
namespace Tw
def pairs(f:Nat):List Int:=(aaA f [1,0]).flatten
def Tree(a:List Int):Prop:=2<=a.length/\ht a a.length=0 /\ ∀k,0<k->k<a.length->0<ht a k
inductive jx(n:Nat)(S:Nat):Prop
 | mk (h:_) (_:S=2^h) (_:n<=S) (_:∀j,j<h->2^j<n)
theorem jx.uniq{n :Nat}(a:jx n i)(b:jx n R):i=R:=by
 obtain⟨h,rfl,f,d⟩:=a;obtain⟨k,rfl,e,c⟩:=b;rcases ahL h k with q|q|q
 ·have:=c h q;lia
 ·rw[q]
 ·have:=d k q;lia
theorem jx.pos{n :Nat}(a:jx n i):1<=i:=by
 obtain⟨h,rfl,_⟩:=a;exact Nat.one_le_two_pow
theorem jx.le{n :Nat}(a:jx n i)(h:n<=4096):i<=4096:=by
 obtain⟨k,rfl,c,b⟩:=a;rcases aay 12 k with q|q
 ·have:=b 12 q;lia
 ·exact aeY (aiQ ∅ q) ∅
def NodeOk(S st a n e:Nat):Prop:=1<=n/\S<=n*2^e/\(n+1)*2^e<=S+a/\(1<n->S<=n / 2*2^(e+1)/\(n / 2+1)*2^(e+1)<=2*S/\(n / 2*2^(e+1)<S+st\/S+a<(n / 2+1)*2^(e+1)))
def Chain(S st a:Nat):List Nat->Nat->Nat->Prop
 |[],x,y=>x=y
 |n::r,x,y=>∃e,n*2^e=x/\NodeOk S st a n e/\Chain S st a r ((n+1)*2^e) y
theorem Chain.append{S st a:Nat}:∀{l m:List Nat}{x y z:Nat},Chain S st a l x y->Chain S st a m y z->Chain S st a (l++m) x z
 |[],m,x,y,z,h,k=>by
  cases h;exact k
 |n::r,m,x,y,z,h,k=>by
  obtain⟨e,d,c,b⟩:=h;exact(e,d,c,b.append k)
theorem Chain.one{st n e:Nat}(h:NodeOk i st R n e):Chain i st R [n] (n*2^e) ((n+1)*2^e):=(e,7,h,7)
structure Vl(S st sp e low high:Nat)(ls rs:List Nat):Prop where
 lo1:S+st<=low*2^e
 lo2:low*2^e<S+st+2^e
 hi1:high*2^e<=S+sp
 hi2:S+sp<high*2^e+2^e
 le:low<=high
 left:Chain S st sp ls (S+st) (low*2^e)
 right:Chain S st sp rs.reverse (high*2^e) (S+sp)
theorem Vl.start{st :Nat}(h:st<=i):Vl n st i 0 (n+st) (n+i) [] []:=by
 exists 9,9,9,9,9,8
 ·show n+st=(n+st)*2^0;lia
 ·show (n+i)*2^0=n+i;lia
theorem BZ{e n:Nat}(c:2^i<=n*2^e)(b:n*2^e<2*2^i)(a:1<n):e<i:=by
 rcases aay e i with q|q
 ·exact q
 ·exfalso;have:2^i<=2^e:=aiQ ∅ q;have:2*2^e<=n*2^e:=agD _ a;lia
theorem O2{e m:Nat}(d:e<n)(a:2^n<=(2*m+1)*2^e):2^n<=m*2^(e+1):=by
 have c:2^n=2^(n-e-1)*2^(e+1):=by
  rw[<-ajF];congr 1;lia
 rw[c]at a ⊢;refine agD _ ?_;rw[agU]at a;have b:2^(n-e-1)*(2^e*2)=(2*2^(n-e-1))*2^e:=by
  rw[agE (2^e) 2,<-ahc,agE _ 2]
 rw[b]at a;have:=Nat.le_of_mul_le_mul_right a (agH e);lia
theorem Vl.leftOdd{st e a:Nat}{f:List Nat}(c:Vl n st i e R a z f)(g:∃h,n=2^h)(q:i<=n)(w:1<=n)(d:R<a)(v:R%2=1):Chain n st i (z++[R]) (n+st) ((R+1)*2^e):=by
 obtain⟨h,b⟩:=g;obtain⟨m,rfl⟩:∃m,R=2*m+1:=(R / 2,9);have u:0<2^e:=agH e;have t:(2*m+1+1)*2^e<=a*2^e:=agD _ d;have s:=c.lo1;have r:=c.lo2;have x:=c.hi1;have p:(2*m+1) / 2=m:=by lia
 have l:m*2^(e+1)=2*(m*2^e):=by rw[agU,<-ahc,agE]
 have k:(2*m+1)*2^e=2*(m*2^e)+2^e:=by rw[ahG,ahc,ahH]
 have A:(2*m+1+1)*2^e=2*(m*2^e)+2^e+2^e:=by rw[ahG,k,ahH]
 have y:(m+1)*2^(e+1)=2*(m*2^e)+2*2^e:=by rw[ahG,l,ahH,agU];lia
 refine c.left.append (.one (9,9,9,λj=>?_));rw[p];have ht:e<h:=by
  refine BZ (n:=2*m+1) ?_ ?_ j
  ·rw[<-b];lia
  ·rw[<-b];lia
 have o:=O2 (m:=m) ht (by rw[<-b];lia);rw[<-b]at o;exact(o,9,.inl ⋯)
theorem Vl.rightOdd{st e a:Nat}{d:List Nat}(c:Vl n st i e R a z d)(j:∃h,n=2^h)(t:i<=n)(A:1<=n)(u:R<a)(y:a%2=1):Chain n st i (d++[a-1]).reverse ((a-1)*2^e) (n+i):=by
 obtain⟨m,rfl⟩:∃m,a=2*m+1:=(a / 2,9);have x:0<2^e:=agH e;have w:R*2^e<=(2*m)*2^e:=agD _ ⋯;have f:=c.lo1;have C:=c.hi1;have B:=c.hi2;have v:1<=R:=by
  rcases ags R with q|q
  ·rw[q,ais]at f;lia
  ·exact q
 have s:m*2^(e+1)=2*(m*2^e):=by rw[agU,<-ahc,agE]
 have F:(2*m+1)*2^e=2*(m*2^e)+2^e:=by rw[ahG,ahc,ahH]
 have E:(2*m)*2^e=2*(m*2^e):=by rw[ahc]
 have D:(m+1)*2^(e+1)=2*(m*2^e)+2*2^e:=by rw[ahG,s,ahH,agU];lia
 have r:2*m+1-1=2*m:=by lia
 have p:2*m / 2=m:=by lia
 have g:=c.right;rw[ag4,r];refine Chain.append (l:=[2*m]) (.one (9,9,9,λk=>?_)) g;rw[p];obtain⟨h,b⟩:=j;have ht:e<h:=by
  refine BZ (n:=2*m) ?_ ?_ k
  ·rw[<-b];lia
  ·rw[<-b];lia
 have o:2*n=2^(h-e)*2^(e+1):=by
  rw[b,<-ajF,agE,<-agU];congr 1;lia
 refine(9,8,.inr ⋯);rw[o];refine agD _ ?_;have:m*2^(e+1)<2^(h-e)*2^(e+1):=by lia
 have:=Nat.lt_of_mul_lt_mul_right this;lia
theorem Vl.step{st e b:Nat}{j:List Nat}(c:Vl n st i e R b z j)(r:∃h,n=2^h)(f:i<=n)(s:1<=n)(g:R<b):
  Vl n st i (e+1) ((R+R%2) / 2) ((b-b%2) / 2) (if R%2=1 then z++[R]else z) (if b%2=1 then j++[b-1]else j):=by
 have w:=c.lo1;have v:=c.lo2;have A:=c.hi1;have y:=c.hi2;have x:0<2^e:=agH e;have k:2^(e+1)=2*2^e:=by rw[agU,agE]
 have d:∀m,m*2^(e+1)=(2*m)*2^e:=λm=>by rw[k,<-ahc,agE m 2]
 have l:2*((R+R%2) / 2)=R+R%2:=by lia
 have o:2*((b-b%2) / 2)=b-b%2:=by lia
 have q:(R+R%2)*2^e=R*2^e+(R%2)*2^e:=ahG ..;have p:(b-b%2)*2^e+(b%2)*2^e=b*2^e:=by
  rw[<-ahG];congr 1;lia
 have u:(R%2)*2^e=if R%2=1 then 2^e else 0:=by
  split
  ·rename_i a;rw[a,ahH]
  ·rename_i a;rw[show R%2=0 from by lia,ais]
 have t:(b%2)*2^e=if b%2=1 then 2^e else 0:=by
  split
  ·rename_i a;rw[a,ahH]
  ·rename_i a;rw[show b%2=0 from by lia,ais]
 exists 8,8,8,8,9,8
 ·rw[d,l,q];lia
 ·rw[d,l,q,k,u];split<;>lia
 ·rw[d,o];lia
 ·rw[d,o,k];rw[t]at p;split at p<;>lia
 ·rw[d,l];split
  ·rename_i a;rw[a];exact c.leftOdd r f s g a
  ·rename_i a;rw[show R%2=0 from by lia,ajb];exact c.left
 ·rw[d,o];split
  ·rename_i a;rw[a];exact c.rightOdd r f s g a
  ·rename_i a;rw[show b%2=0 from by lia,ahn];exact c.right
theorem Vl.fin{st e a:Nat}{b:List Nat}(c:Vl n st i e R a z b)(h:a<=R):Chain n st i (z++b.reverse) (n+st) (n+i):=by
 have:R=a:=ajk c.le h;subst this;exact c.left.append c.right
def Cy:Nat->Nat->Nat->List Nat->List Nat->List Nat
 |0,_,_,d,c=>d++c.reverse
 |f+1,b,a,d,c=>if b<a then Cy f ((b+b%2) / 2) ((a-a%2) / 2) (if b%2=1 then d++[b]else d) (if a%2=1 then c++[a-1]else c)else d++c.reverse
theorem Kz{f :Nat}{a:List Nat}(h:i<=n):Cy f n i z a=z++a.reverse:=by
 cases f with
 |zero=>rfl
 |succ f=>
  unfold Cy;rw[if_neg ⋯]
theorem wD{S st g:Nat}(k:∃h,S=2^h)(d:g<=S)(l:1<=S):∀(f e b a:Nat) (j i:List Nat),Vl S st g e b a j i->a-b<=f->Chain S st g (Cy f b a j i) (S+st) (S+g)
 |0,e,b,a,j,i,c,h=>c.fin ⋯
 |f+1,e,b,a,j,i,c,h=>by
  unfold Cy;by_cases q:b<a
  ·rw[if_pos q];exact wD k d l f (e+1) _ _ _ _ (c.step k d l q) ⋯
  ·rw[if_neg q];exact c.fin ⋯
def cover(S st a:Nat):List Nat:=Cy (a-st) (S+st) (S+a) [] []
theorem Dd{st :Nat}(b:∃h,n=2^h)(h:st<=i)(a:i<=n)(c:1<=n):Chain n st i (cover n st i) (n+st) (n+i):=
 wD b a c _ 0 _ _ _ _ (.start h) ⋯
end Tw
namespace PySem
open PyProof.Rows
namespace F
end F
end PySem
namespace L2
open PySem.Spec PyProof.Rows
theorem Pu(a b:Nat):Builtin.Range.rangeSize a b (-1)=((a-b:Nat):Int):=by
 unfold Builtin.Range.rangeSize;rw[if_neg ∅,show (- -1:Int)=1 from rfl,ajc];split<;>lia
theorem Dt{a b:Nat}(d:a<536870912)(c:b<536870912):Builtin.Range.small a b (-1)=true:=by
 unfold Builtin.Range.small Builtin.Range.rangeFitsLong;rw[Pu];have e:(2:Int)^63=9223372036854775808:=by decide
 rw[e,if_neg ∅];refine iH (iH (iH (iH (iH (decide_eq_true ?_) (decide_eq_true ?_)) (iH (decide_eq_true ?_) (decide_eq_true ?_))) ∅) (iH (decide_eq_true ?_) (decide_eq_true ?_))) ?_
 ·lia
 ·lia
 ·lia
 ·lia
 ·lia
 ·lia
 ·rw[aiH];exact .inr (iH (decide_eq_true ⋯) (decide_eq_true ⋯))
inductive Ke(R:It->Hp->Prop)(vs:List V)(H1:Hp):Prop
 | mk (a b:Nat) (_:vs=[.int (a:Int),.int (b:Int),.int (-1)]) (_:a<536870912) (_:b<536870912) (_:R (WT a (-1) (a-b)) H1)
def QZ(b:TA):TI:=λ a H R=>b a H (Ke R)
theorem Ga{a b c:Expr}{p pos:Pos}(F:Gl X "range")(E:X.mg "range" = none)(J:PA X [a,b,c] t)(D:starEach [a,b,c] X.env=[(pq false (eval a X.env)),(pq false (eval b X.env)),(pq false (eval c X.env))]:=by rfl)
  (j:starEach [b,c] X.env=[(pq false (eval b X.env)),(pq false (eval c X.env))]:=by rfl):PI X tg (.Call (.Name "range" p) [a,b,c] [] pos) (QZ t):=by
 intro u s n H R I h;refine Call_ (dH I F E boot_range (PyProof.Rows.callWith_type1 (T7 (J pos u s n H _ I h) λO g ⟨N,v,M,w,A⟩=>?_) (by rw[D,j]) (by rw[j];rfl)));obtain⟨x,y,e,C,B,q⟩:=A;subst e;cases w with
 |cons r i=>
  cases i with
  |cons z i=>
   cases i with
   |cons m i=>
    cases i;obtain⟨d,rfl⟩:=r;obtain⟨k,rfl⟩:=z;obtain⟨f,rfl⟩:=m;refine call_range_3 ∅ ?_ (.inl (PyProof.noPylong_small ∅));refine wpAny_pyIter_range (IsRange.new ..) (Dt C B) ?_
    have l:Inv X u n v {g with heap:=g.heap.push {cls:=.type "range",data:=.fields #[.int x d,.int y k,.int (-1) f]},toks:=g.toks}:=M.kept λb o e=>Heap.get?_push_of_some _ e
    refine((g.heap.push {cls:=.type "range",data:=.fields #[.int x d,.int y k,.int (-1) f]}).objs.size,[(g.heap.push {cls:=.type "range",data:=.fields #[.int x d,.int y k,.int (-1) f]}).objs.size],1,v,7,
     l.kept (t':=g.toks) λb o e=>Heap.get?_push_of_some _ e,qx _ x (-1) (x-y),8,λb G=>?_,q)
    ·have L:(x:Int)+((0:Nat):Int)*(-1)=x:=by lia
     have K:((x-y:Nat):Int)-((0:Nat):Int)=Builtin.Range.rangeSize x y (-1):=by rw[Pu];lia
     show IsRangeIter _ _ ((x:Int)+((0:Nat):Int)*(-1)) (((x-y:Nat):Int)-((0:Nat):Int)) (-1);rw[L,K];exact Heap.get?_push_size _ rfl
    ·have e:b=(g.heap.push {cls:=.type "range",data:=.fields #[.int x d,.int y k,.int (-1) f]}).objs.size:=by simpa using G
     subst e;exact l.fpOk (aac _) (l.hok.fresh (aac _))
end L2
namespace Tw
def NI(x:V):Prop:=x=.non \/ ∃i,x=.int i
def yH:V->V->V
 |.non,y=>y
 |.int a,.int b=>.int (if b<a then b else a)
 |x,_=>x
theorem yg(y:V):yH .non y=y:=by cases y<;>rfl
theorem Ks{x y:V}(b:NI x)(a:NI y):NI (yH x y):=by
 rcases b with rfl|⟨i,rfl⟩
 ·rw[yg];exact a
 ·rcases a with rfl|⟨j,rfl⟩
  ·exact .inr (i,7)
  ·exact .inr (_,7)
def BR(a:List Int)(i:Nat):V:=match a[i]? with|some c=>.int c|none=>.non
theorem vM{i:Nat}{c:Int}(h:d[i]?=some c):BR d i=.int c:=by
 unfold BR;rw[h]
theorem Dy{i:Nat}(h:d.length<=i):BR d i=.non:=by
 unfold BR;rw[ahb h]
structure ju(ns:List Int)(S k:Nat)(xs:List V):Prop where
 len:xs.length=2*S
 zero:xs[0]?=some .non
 leaf:∀i,i<S->xs[S+i]?=some (BR ns i)
 node:∀j,k<=j->1<=j->j<S -> ∃x y,xs[2*j]?=some x/\xs[2*j+1]?=some y/\xs[j]?=some (yH x y)
 ni:∀x∈xs,NI x
theorem ju.start(k:1<=n)(b:d.length<=n):ju d n n (aaA n V.non++d.map V.int++aaA (n-d.length) V.non):=by
 refine(8,8,λi c=>?_,λj g f e=>by lia,λx a=>?_)
 ·simp only[aae,aba,aaa];lia
 ·rw[aaG,aaw (by rw[aba];lia),agY,if_pos ⋯]
 ·rw[aaG,aap (by rw[aba];lia),aba,agB];by_cases h:i<d.length
  ·rw[aaw (by rw[aaa];exact h),aag,aad h,vM (aad h)];rfl
  ·rw[aap (by rw[aaa];lia),aaa,agY,if_pos ⋯,Dy ⋯]
 ·rcases aaW.mp a with a|a
  ·rcases aaW.mp a with a|a
   ·exact .inl (ahj a)
   ·obtain⟨i,_,rfl⟩:=aaZ.mp a;exact .inr (i,7)
  ·exact .inl (ahj a)
theorem ju.step{k:Nat}{xs:List V}{x y:V}(h:ju d n (k+1) xs)(A:1<=k)(w:k<n)(m:xs[2*k]?=some x)(l:xs[2*k+1]?=some y):ju d n k (xs.set k (yH x y)):=by
 have o:=h.len;have f:∀j,j≠k->(xs.set k (yH x y))[j]?=xs[j]?:=λj p=>ahf (agG p);refine(by rw[ajj];exact o,8,λi q=>?_,λj a b c=>?_,λz g=>?_)
 ·rw[f 0 ⋯];exact h.zero
 ·rw[f (n+i) ⋯];exact h.leaf i q
 ·by_cases e:j=k
  ·subst e;exists x,y,8,?_
   ·rw[f (2*j) ⋯];exact m
   ·rw[f (2*j+1) ⋯];exact l
   ·exact ag5 ⋯
  ·obtain⟨u,v,t,s,r⟩:=h.node j ⋯ b c;exists u,v,8,?_
   ·rw[f (2*j) ⋯];exact t
   ·rw[f (2*j+1) ⋯];exact s
   ·rw[f j e];exact r
 ·rcases List.mem_or_eq_of_mem_set g with g|rfl
  ·exact h.ni z g
  ·exact Ks (h.ni x (aah m)) (h.ni y (aah l))
theorem GX{xs:List V}{j:Nat}{x:V}(h:xs[j]?=some x):Ux xs (j:Int)=some x:=mR h
def uB(d:List Int)(a b:Nat)(M:Int):Prop:=(∃i,a<=i/\i<b/\d[i]?=some M) /\ ∀i c,a<=i->i<b->d[i]?=some c->M<=c
theorem uB.join{a b c:Nat}{M N:Int}(h:uB d a b M)(k:uB d b c N)(u:a<=b)(s:b<=c):uB d a c (if N<M then N else M):=by
 obtain⟨⟨i,p,w,o⟩,r⟩:=h;obtain⟨⟨j,v,n,m⟩,l⟩:=k;constructor
 ·split
  ·exact(j,9,n,m)
  ·exact(i,p,9,o)
 ·intro t x g f e;rcases aay t b with q|q
  ·have:=r t x g q e;split<;>lia
  ·have:=l t x q f e;split<;>lia
theorem ju.least{b:List Int}{S:Nat}{xs:List V}(h:ju b S 1 xs)(k:b.length<=S):∀e n a:Nat,n*2^e=S+a->a+2^e<=b.length->1<=n -> ∃M,xs[n]?=some (.int M)/\uB b a (a+2^e) M
 |0,n,a,d,j,g=>by
  rw[ah7]at j;rw[ah7,Nat.mul_one]at d;have f:b[a]?=some b[a]:=aad ⋯;have:=h.leaf a ⋯;rw[<-d,vM f]at this;refine(_,this,(a,aac _,9,f),λi c B A e=>?_);have:i=a:=by lia
  subst this;rw[f]at e;cases e;exact ajl _
 |e+1,n,a,d,j,g=>by
  have C:0<2^e:=agH e;have o:2^(e+1)=2*2^e:=by rw[agU,agE]
  rw[o]at d j;have p:2*n*2^e=S+a:=by rw[<-d,<-ahc,agE n 2]
  have w:(2*n+1)*2^e=S+(a+2^e):=by rw[ahG,p,ahH];lia
  have s:n<S:=by
   rcases aay n S with z|z
   ·exact z
   ·exfalso;have:S*(2*2^e)<=n*(2*2^e):=agD _ z;have:2*S<=S*(2*2^e):=by
     rw[agE 2 S];exact aiU _ ⋯
    lia
  obtain⟨M,v,r⟩:=ju.least h k e (2*n) a p ⋯ ⋯;obtain⟨N,u,q⟩:=ju.least h k e (2*n+1) (a+2^e) w ⋯ ⋯;obtain⟨x,y,m,l,t⟩:=h.node n g g s;rw[v]at m;rw[u]at l;cases m;cases l;exists _,t;have:=r.join q ⋯ ⋯;rw[o,show a+2*2^e=a+2^e+2^e from by lia];exact this
def tV(xs:List V)(n:Nat):Int:=match xs[n]? with|some (.int M)=>M|_=>0
theorem jb{xs:List V}{n:Nat}{M:Int}(h:xs[n]?=some (.int M)):tV xs n=M:=by
 unfold tV;rw[h]
theorem vG{d:List Int}{S st j:Nat}{xs:List V}(h:ju d S 1 xs)(x:d.length<=S)(s:j<=d.length):∀{l:List Nat}{a b:Nat},Chain S st j l (S+a) (S+b)->b<=j ->
  a<=b/\(∀n∈l,1<=n/\n<2*S/\xs[n]?=some (.int (tV xs n)))/\(∀v∈l.map (tV xs),∃i,a<=i/\i<b/\d[i]?=some v) /\ ∀i c,a<=i->i<b->d[i]?=some c -> ∃v∈l.map (tV xs),v<=c
 |[],a,b,g,_=>by
  have g:S+a=S+b:=g;exact(9,nofun,nofun,λi c N w _=>by lia)
 |n::r,a,b,g,P=>by
  obtain⟨e,z,⟨t,T,F,_⟩,A⟩:=g;have O:0<2^e:=agH e;have Q:(n+1)*2^e=S+(a+2^e):=by rw[ahT,z];lia
  rw[Q]at A F;obtain⟨N,w,L,K⟩:=vG h x s A P;obtain⟨M,u,H,G⟩:=h.least x e n a z ⋯ t;have o:=jb u;have R:n<=n*2^e:=Nat.le_mul_of_pos_right _ O;refine(9,λk m=>?_,λv f=>?_,λi c J I y=>?_)
  ·rcases aas.mp m with rfl|m
   ·exact(t,9,by rw[o];exact u)
   ·exact w k m
  ·rw[aar]at f;rcases aas.mp f with rfl|f
   ·obtain⟨i,C,B,p⟩:=H;exact(i,C,9,by rw[o];exact p)
   ·obtain⟨i,C,B,p⟩:=L v f;exact(i,9,B,p)
  ·rcases aay i (a+2^e)with q|q
   ·exact(M,by rw[aar,o];exact .head _,G i c J q y)
   ·obtain⟨v,E,D⟩:=K i c q I y;exact(v,by rw[aar];exact .tail _ E,D)
theorem ju.kids{xs:List V}(h:ju d n 1 xs)(f:d.length<=n){e m b:Nat}(i:m*2^(e+1)=n+b)(s:b+2^(e+1)<=d.length)(g:1<=m):
  ∃M N,xs[2*m]?=some (.int M)/\xs[2*m+1]?=some (.int N)/\uB d b (b+2^e) M/\uB d (b+2^e) (b+2^(e+1)) N/\tV xs m=(if N<M then N else M)/\2*m*2^e=n+b/\(2*m+1)*2^e=n+(b+2^e)/\m<n:=by
 have v:0<2^e:=agH e;have u:2^(e+1)=2*2^e:=by rw[agU,agE]
 rw[u]at i s ⊢;have a:2*m*2^e=n+b:=by rw[<-i,<-ahc,agE m 2]
 have p:(2*m+1)*2^e=n+(b+2^e):=by rw[ahG,a,ahH];lia
 have c:m<n:=by
  rcases aay m n with z|z
  ·exact z
  ·exfalso;have:n*(2*2^e)<=m*(2*2^e):=agD _ z;have:2*n<=n*(2*2^e):=by
    rw[agE 2 n];exact aiU _ ⋯
   lia
 obtain⟨M,o,r⟩:=h.least f e (2*m) b a ⋯ ⋯;obtain⟨N,l,q⟩:=h.least f e (2*m+1) (b+2^e) p ⋯ ⋯;obtain⟨x,y,k,j,t⟩:=h.node m g g c;rw[o]at k;rw[l]at j;cases k;cases j;refine(M,N,o,l,r,8,jb t,a,p,c);rw[show b+2*2^e=b+2^e+2^e from by lia];exact q
def ZZ(a:List Int)(s x y:Nat)(g:Int)(i:Nat):Prop:=x<=i/\i<y/\(∃c,a[i]?=some c/\c<=g) /\ ∀j c,x<=j->j<y->(if s=0 then j<i else i<j)->a[j]?=some c->g<c
structure wR(ns:List Int)(xs:List V)(S s x y:Nat)(g:Int)(e m b:Nat):Prop where
 at_:m*2^e=S+b
 lo:x<=b
 hi:b+2^e<=y
 one:1<=m
 low:tV xs m<=g
 out:∀j c,x<=j->j<y->(if s=0 then j<b else b+2^e<=j)->ns[j]?=some c->g<c
theorem wR.hit{xs:List V}{s x y m b:Nat}{g:Int}(h:ju d n 1 xs)(q:d.length<=n)(B:y<=d.length)(C:s<=1)(a:wR d xs n s x y g 0 m b):m=n+b/\ZZ d s x y g b:=by
 have t:=a.at_;have r:=a.hi;rw[ah7]at t r;obtain⟨M,w,⟨i,A,p,o⟩,_⟩:=h.least q 0 m b a.at_ (by rw[ah7];lia) a.one;have u:i=b:=by rw[ah7]at p;lia
 subst u;have e:=a.low;rw[jb w]at e;refine(9,a.lo,9,(M,o,e),λj c l k f v=>a.out j c l k ?_ v);split
 ·rename_i z;rw[if_pos z]at f;exact f
 ·rename_i z;rw[if_neg z]at f;rw[ah7];lia
theorem wR.step{xs:List V}{s x y m b e:Nat}{g:Int}(h:ju d n 1 xs)(H:d.length<=n)(K:y<=d.length)(L:s<=1)(a:wR d xs n s x y g (e+1) m b):
  ∃v,xs[2*m+s]?=some (.int v)/\m<n/\2*m+s<2*n/\(v<=g -> ∃A,wR d xs n s x y g e (2*m+s) A)/\(g<v -> ∃A,wR d xs n s x y g e (2*m+1-s) A):=by
 have B:=a.hi;have r:=a.lo;have t:=a.one;have O:0<2^e:=agH e;have J:2^(e+1)=2*2^e:=by rw[agU,agE]
 obtain⟨M,N,w,u,G,C,I,F,E,D⟩:=h.kids H a.at_ ⋯ t;have i:=a.low;rw[I]at i;have f:=a.out;rw[J]at B f C;rcases(show s=0\/s=1 by lia)with rfl|rfl
 ·refine(M,w,D,9,λq=>(b,F,r,9,9,by rw[ajb,jb w];exact q,λj c p o k l=>f j c p o k l),λq=>(b+2^e,E,9,9,9,8,λj c p o k l=>?_))
  ·show tV xs (2*m+1-0)<=g;rw[ahn,jb u];split at i<;>lia
  ·rw[if_pos rfl]at k;rcases aay j b with z|z
   ·exact f j c p o (by rw[if_pos rfl];exact z) l
   ·have:=G.2 j c z k l;lia
 ·refine(N,u,D,9,λq=>(b+2^e,E,9,9,9,by rw[jb u];exact q,λj c p o k l=>f j c p o ?_ l),λq=>(b,8,r,9,9,8,λj c p o k l=>?_))
  ·rw[if_neg ∅]at k ⊢;lia
  ·rw[ahA];exact F
  ·rw[ahA,jb w];split at i<;>lia
  ·rw[if_neg ∅]at k;rcases aay j (b+2*2^e)with z|z
   ·have:=C.2 j c k z l;lia
   ·exact f j c p o (by rw[if_neg ∅];exact z) l
theorem wR.start{xs:List V}{s n a e:Nat}(k:n*2^e=i+a)(h:1<=n)(f:tV xs n<=m):wR d xs i s a (a+2^e) m e n a:=
 (k,aac _,aac _,h,f,λj c o l b _=>by split at b<;>lia)
theorem sG{S st a:Nat}:∀{l:List Nat}{x y:Nat} (k:Nat),Chain S st a l x y -> ∃z,Chain S st a (l.take k) x z/\Chain S st a (l.drop k) z y
 |l,x,y,0,h=>(x,7,h)
 |[],x,y,k+1,h=>(x,7,h)
 |n::r,x,y,k+1,h=>by
  obtain⟨e,g,f,d⟩:=h;obtain⟨z,c,b⟩:=sG k d;exact(z,(e,g,f,c),b)
theorem Bp{S st a:Nat}:∀{l:List Nat}{x y:Nat},Chain S st a l x y->x<=y
 |[],x,y,h=>ahD h
 |n::r,x,y,h=>by
  obtain⟨e,c,_,b⟩:=h;have:=Bp b;have:n*2^e<=(n+1)*2^e:=agD _ (ahe _);lia
def Uv(a:List Int)(n:Nat):List Int:=(agq (n+1)).map λk=>(a.take (32*k)).sum
theorem cZ(a:List Int)(n:Nat):(Uv a n).length=n+1:=by simp[Uv]
theorem o8{n k:Nat}(h:k<=n):(Uv d n)[k]?=some (d.take (32*k)).sum:=by
 have:k<n+1:=by lia
 simp[Uv,this]
def jr(bs:List Int)(k:Nat):Int:=((bs.take k).map λb=>ones b 32).sum
theorem rP{bs:List Int}{k:Nat}{b:Int}(h:bs[k]?=some b):jr bs (k+1)=jr bs k+ones b 32:=by
 unfold jr;rw[abH,h];simp[ahZ]
def aheads(bs:List Int)(n:Nat):List Int:=(agq (n+1)).map (jr bs)
theorem xm(bs:List Int)(n:Nat):(aheads bs n).length=n+1:=by simp[aheads]
theorem Dl(bs:List Int)(n:Nat):aheads bs (n+1)=aheads bs n++[jr bs (n+1)]:=by
 unfold aheads;rw[agL,aaj];rfl
theorem Bj(bs:List Int)(n:Nat):aheads bs n=(agq n).map (jr bs)++[jr bs n]:=by
 unfold aheads;rw[agL,aaj];rfl
theorem pG{a:List Int}(h:aZ a):∀k:Nat,k<=many a.length->jr (bB a) k=(a.take (32*k)).sum
 |0,_=>by simp[jr]
 |k+1,b=>by
  rw[rP (jH ⋯),pG h k ⋯,m8 h k 32 ⋯];rfl
theorem zZ(h:aZ d):aheads (bB d) (bB d).length=Uv d (many d.length):=by
 rw[bD];unfold aheads Uv;refine ahR λk a=>?_;have:=ahw.mp a;exact pG h k ⋯
def wide(n j:Nat):Nat:=min 32 (n-32*j)
def yc(a:List Int)(j:Nat)(m:Int):Prop:=(∃k,32*j<k/\k<=32*j+32/\k<=a.length/\m=ht a k) /\ ∀k,32*j<k->k<=32*j+32->k<=a.length->m<=ht a k
theorem yc.of(h:aZ d){j:Nat}{M:Int}(g:M∈nets (cL d j) (wide d.length j))(b:∀a∈nets (cL d j) (wide d.length j),M<=a):yc d j (ht d (32*j)+M):=by
 unfold wide at *;constructor
 ·obtain⟨k,f,c,rfl⟩:=Cd.mp g;refine(32*j+k,9,9,9,8);rw[pC h j k ⋯]
 ·intro k f c i;have:=b _ (Cd.mpr (k-32*j,9,9,7));have e:=pC h j (k-32*j) ⋯;rw[show 32*j+(k-32*j)=k from by lia]at e;lia
structure Dz(ns ls:List Int):Prop where
 len:ls.length=many ns.length
 low:∀j m,ls[j]?=some m->yc ns j m
def hts(a:List Int)(n:Nat):List Int:=(agq (n+1)).map (ht a)
theorem Tree.pos(t:Tree d){k:Nat}(h:k<=d.length):0<=ht d k:=by
 obtain⟨e,b,a⟩:=t;rcases ags k with rfl|c
 ·rw[gh];decide
 rcases aay k d.length with q|q
 ·have:=a k c q;lia
 ·have:k=d.length:=by lia
  rw[this,b];decide
def jA(c:List Int)(a b:Nat)(g:Int)(k:Nat):Prop:=a<k/\k<=b/\ht c k<=g /\ ∀i,k<i->i<=b->g<ht c i
def eV(c:List Int)(a b:Nat)(g:Int):Prop:=∀i,a<i->i<=b->g<ht c i
theorem zr(h:aZ d){j st k:Nat}(e:n<=32):Due (cL d j) st n (m-ht d (32*j)) k ↔ st<k/\k<=n/\ht d (32*j+k)<=m:=by
 unfold Due;constructor
 ·rintro⟨a,b,c⟩;have:=pC h j k ⋯;exact(a,b,9)
 ·rintro⟨a,b,c⟩;have:=pC h j k ⋯;exact(a,b,9)
theorem last_within(h:aZ d){j st k:Nat}(e:n<=32)(hd:Due (cL d j) st n (m-ht d (32*j)) k)(f:∀i,Due (cL d j) st n (m-ht d (32*j)) i->i<=k):jA d (32*j+st) (32*j+n) m (32*j+k):=by
 obtain⟨a,b,c⟩:=(zr h e).mp hd;refine(9,9,c,λi o l=>?_);rcases aiJ m (ht d i)with q|q
 ·exact q
 ·have:=f (i-32*j) ((zr h e).mpr (9,9,by rw[show 32*j+(i-32*j)=i from by lia];exact q));lia
theorem Dc(h:aZ d){j st :Nat}(a:n<=32)(b:∀i,¬Due (cL d j) st n (m-ht d (32*j)) i):eV d (32*j+st) (32*j+n) m:=λi e c=>by
 rcases aiJ m (ht d i)with q|q
 ·exact q
 ·exact absurd ((zr h a).mpr (9,9,by rw[show 32*j+(i-32*j)=i from by lia];exact q)) (b (i-32*j))
theorem eV.join{a b c:Nat}(h:eV d a b m)(k:eV d b c m):eV d a c m:=λi f e=>by
 rcases aay b i with q|q
 ·exact k i q e
 ·exact h i f q
theorem eV.empty{a b:Nat}(h:b<=a):eV d a b m:=λi e c=>by lia
theorem Dz.none(h:Dz d J){i j:Nat}(f:∀t c,i<=t->t<j->J[t]?=some c->m<c){b:Nat}(p:b<=32*j)(o:b<=d.length):eV d (32*i) b m:=λk n l=>by
 have a:=h.len;have ht:(k-1) / 32<J.length:=by
  rw[a];unfold many;lia
 have e:=aad ht;have r:=f ((k-1) / 32) _ ⋯ ⋯ e;have q:=(h.low _ _ e).2 k ⋯ ⋯ ⋯;lia
theorem Dz.some(h:Dz d J){t:Nat}{c :Int}(e:J[t]?=.some c)(i:c<=m):¬eV d (32*t) (min (32*t+32) d.length) m:=λz=>by
 obtain⟨⟨k,a,f,b,j⟩,_⟩:=h.low t c e;have:=z k a ⋯;lia
theorem jA.ahead{a b c k:Nat}(h:eV d b c m)(f:jA d a b m k)(p:b<=c):jA d a c m k:=by
 obtain⟨o,r,n,l⟩:=f;refine(o,9,n,λi j e=>?_);rcases aay b i with q|q
 ·exact h i q e
 ·exact l i j q
theorem jA.wider{a b k:Nat}(f:jA d a b m k)(h:n<=a):jA d n b m k:=(by have:=f.1;lia,f.2)
def uO(a:List Int)(b:Nat)(g:Int)(k:Nat):Prop:=k<b/\ht a k<=g /\ ∀i,k<i->i<b->g<ht a i
def LQ(a:List Int)(b:Nat)(g:Int):Prop:=∀i,i<b->g<ht a i
theorem Q4(h:aZ d){k:Nat}(a:k<d.length):(d[k]?=some 1/\ht d (k+1)=ht d k+1)\/(d[k]?=some 0/\ht d (k+1)=ht d k-1):=by
 have e:=aad a;rcases h _ (acV a)with z|z
 ·right;rw[z]at e;exact(e,by rw[pM e];lia)
 ·left;rw[z]at e;exact(e,by rw[pM e];lia)
end Tw
namespace L2
open PySem.Spec PyProof.Rows
theorem Ew{iter:Expr}{j:List Expr}{pos:Pos}{k:Value}{f:Env}{R:Result->Shared->Prop}(J:Nat->Shared->Prop)
  (l:∀n a,J n a->wpAny (model prog w) A (pyNext q) (λr x=>match r with
   |none=>R (.ok .next) x
   |some v=>wpAny (model prog w) A (letOwnedTupleGo (.Tuple u i p) q v) (λ_ F=>wpAny (model prog w) A (assign (.Tuple u i p) f v) (λ_ E=>
     wpAny (model prog w) A (forIn j true λc r=>if r=true then do let g <-isTrue c f (eval c f);pure (ForInStep.yield g)else pure (ForInStep.yield r)) (λg t=>if g=true then
      wpAny (model prog w) A (eval o f) (λy D=>wpAny (model prog w) A (call (.builtin "list.append") [k,y]) (λ_ C=>∃m,m<n/\J m C) (notedBy (model prog w) A f λe b=>R (.error e) b) D) (notedBy (model prog w) A f λe b=>R (.error e) b) t
      else ∃m,m<n/\J m t) (notedBy (model prog w) A f λe b=>R (.error e) b) E)
     (notedBy (model prog w) A f λe b=>R (.error e) b) F) (notedBy (model prog w) A f λe b=>R (.error e) b) x) (notedBy (model prog w) A f λe b=>R (.error e) b) a)
  (n:Nat)(h:J n s):codeAny (model prog w) A (.compLoop (.ListComp o [(.Tuple u i p,iter,j,0)] scope pos) 0 q k f) R s:=by
 refine codeAny_loop rfl J (λn a G=>wpAny_noted ?_) n h;rw[compTurn_list];refine wpAny_bind (wpAny_standAt (wpAny_bind (wpAny_mono (l n a G) (λr x B=>?_) λ_ _ d=>d)));cases r with
 |none=>exact wpAny_pure B
 |some v=>
  refine wpAny_bind (wpAny_mono B (λ_ F L=>wpAny_bind (wpAny_mono L (λ_ E K=>wpAny_bind (wpAny_mono K (λg t z=>?_) λ_ _ d=>d)) λ_ _ d=>d)) λ_ _ d=>d);cases g with
  |false=>exact wpAny_pure (7,z)
  |true=>exact wpAny_bind (wpAny_bind (wpAny_mono z (λy D I=>wpAny_bind (wpAny_mono I (λ_ C H=>wpAny_pure (wpAny_pure (7,H))) λ_ _ d=>d)) λ_ _ d=>d))
structure o7(X:Cx)(x z:Str)(caps:List (Str×Nat))(scope:Scope)(cl:List (Str×Addr)):Prop where
 o:cu X x caps scope cl
 hz:scope.names.lookup z=some .local
 nd:(x::z::caps.map (·.1)).Nodup
theorem Inv.comp2{x :Str}{h':Heap}{tk:Nat}{m:Str->Option Value}{C:Addr}(I:Inv X π σ H s)(E:o7 X x qual D scope v)(O:∀b∈g,gK X π H b)
    (Y:∀b∈g,b<s.heap.objs.size)(L:s.heap.objs.size<=a)(P:s.heap.objs.size<=C)(Z:a≠C)(K:∀b o,s.heap.get? b=some o->h'.get? b=some o)(hn:h'.Ns C m)(hL:h'.get? a=some {cls:=.type "list",data:=.seq #[]}):
    Inv (bI X (x::qual::D.map (·.1)) scope v C s H g) [] (none::none::fQ D σ) (upd H a (.lst [])) {s with heap:=h',toks:=tk}:=by
  have XC:=I.hok.fresh L;have V:=I.hok.fresh P;have B:∀y c,(bI X (x::qual::D.map (·.1)) scope v C s H g).env.cells.lookup y=some c->X.env.cells.lookup y=some c:=λy c e=>E.o.cls y c e;have ZC:∀y c,X.env.cells.lookup y=some c->c<s.heap.objs.size:=λy c e=>by
    obtain⟨d,q⟩:=I.cell y c e;exact q.lt
  have up:∀b u,H b=some u->upd H a (.lst []) b=some u:=λb u q=>by rw[aG (aD q XC)];exact q
  have ok:(bI X (x::qual::D.map (·.1)) scope v C s H g).Ok:=by
    refine(I.ok.mod,E.o.kind,I.ok.glob,I.ok.blt,P,λy qual c h1 h2=>I.ok.inj y qual c (B y c h1) (B qual c h2),λy hy=>E.o.has y hy,λy c h=>absurd (show false=true from h) aal,I.ok.hd,I.ok.frames,.inl rfl,λb A=>?_,I.bs,aeY I.ok.Vj I.sz,λb o e A=>?_,λb A hz=>?_,I.stack,I.stkFree)
    · obtain⟨f0,T,S,R,Q,f5⟩:=O b A
      exact(aan (aak (Y b A) P),λy c e=>Q y c (B y c e))
    · obtain⟨f0,T,S,R,Q,f5⟩:=O b A
      rcases R with qual|qual
      · exact I.ok.noex b o e qual
      · exact absurd (aak (aak (Heap.lt_size e) I.ok.Vj) qual) (agt _)
    · obtain⟨f0,T,S,R,Q,f5⟩:=O b A
      rcases aas.mp (I.stkSub b hz)with qual|qual
      · exact T qual
      · exact S qual
  exists ok,7,I.bare,8,(m,hn,λi y d e1 U e3=>?_),λy c e=>?_,8,λy c e=>?_,λp hp=>absurd (show p∈([]:List (Addr×Obj))from hp) (by simp),?_
  · exact Un.laid K L XC
  · cases i with
    |zero=>cases U
    |succ i=>
     cases i with
     |zero=>cases U
     |succ i=>
      have f:(D.map (·.1))[i]?=some y:=e1;have n:(fQ D σ)[i]?=some (some d):=U;rw[aag]at f;unfold fQ at n;rw[aag]at n;cases F:D[i]? with
      |none=>rw[F]at f;cases f
      |some p=>
        rw[F]at f n;obtain⟨t,j⟩:=p;have ey:t=y:=aax f;subst ey;have M:(σ[j]?).getD none=some d:=aax n;have a0:σ[j]?=some (some d):=by
          cases q:σ[j]? with
          |none=>rw[q]at M;cases M
          |some w=>rw[q]at M;exact congrArg some M
        obtain⟨c1,c2,c3⟩:=E.o.cap t j (aah F);obtain⟨m0,a1,hl⟩:=I.loc;obtain⟨u,r,l⟩:=hl j t d c1 a0 (by rcases c2 with qual|qual;exact .inr (.inl qual);exact .inr (.inr qual));refine(u,r,.inr (c3,8));rcases l with ⟨k,_⟩|⟨k,c,F,qual⟩
        · have J:X.env.scope.names.lookup t=some .local:=k
          rcases c2 with qual|qual
          · rw[qual]at J;cases J
          · rw[qual]at J;cases J
        · obtain⟨c',G⟩:=E.o.has t c3
          have e4:=E.o.cls t c' G;rw[F]at e4;cases e4;obtain⟨o,N,hd⟩:=qual;exact(c,G,o,K _ _ N,hd)
  · obtain⟨d,o,N,hd⟩:=I.cell y c (B y c e)
    exact(d,o,K _ _ N,hd)
  · show upd H a (.lst []) C=none
    rw[aG (agG Z)];exact V
  · have W:=ZC y c (B y c e)
    rw[aG (aan (aak W L))];exact I.freeC y c (B y c e)
  · exact I.hok.laid K L (aaD _,[],_,.nil,hL)
  · show (none::none::fQ D σ).length=(x::qual::D.map (·.1)).length
    simp[rO]
def Aa(K:PySem.W.Frag)(J:It)(d:St)(k:TE)(l:Addr->Hp->Prop)(H:Hp):Prop:=
 ∀D,H D=none -> ∃W:Nat->Nat->List V->Hp->Prop,(∃m,W 0 m [] (upd H D (.lst []))) /\ ∀i m a b,W i m a b ->
  (J.stop i b/\l D b)\/(J.go i b /\ ∀v c,J.Vo i b v c -> ∃g f e,v=.ref g/\T8 K c g [f,e] /\
   k (some f::some e::d) c λy j=>j D=some (.lst a)/\a.length<sizeLine /\ ∃h,h<m/\W (i+1) h (a++[y]) (upd j D (.lst (a++[y]))))
def vg(K:PySem.W.Frag)(J:It)(e:St)(tt:TT)(n:TE)(o:Addr->Hp->Prop)(H:Hp):Prop:=
 ∀D,H D=none -> ∃W:Nat->Nat->List V->Hp->Prop,(∃m,W 0 m [] (upd H D (.lst []))) /\ ∀i m a d,W i m a d ->
  (J.stop i d/\o D d)\/(J.go i d /\ ∀v h,J.Vo i d v h -> ∃j g f,v=.ref j/\T8 K h j [g,f] /\
   tt (some g::some f::e) h λb l=>if b=true then
   n (some g::some f::e) l λy k=>k D=some (.lst a)/\a.length<sizeLine /\ ∃c,c<m/\W (i+1) c (a++[y]) (upd k D (.lst (a++[y])))else ∃c,c<m/\W (i+1) c a l)
theorem sI{x :Str}{tp pos:Pos}{iter:Expr}{J:It}{tn:Nat->Heap->Prop}{tt:TT}
  {RR:Value->Addr->Result->Shared->Prop}{E:Value->Shared->Prop}(I:Inv X π σ H s)(hc:X.calm=true)(R:o7 X x qual D scope v)(T:Turn X.prog X.w X.K (.Tuple [.Name x p,.Name qual apos] n tp) J g a tn)(st:tn 0 s.heap)(hf:∀b∈g,gK X π H b)
  (ht:∀C s1 H1 Uy,Wn (bI X (x::qual::D.map (·.1)) scope v C s1 H1 Uy) u tt)(he:∀C s1 H1 Uy,PE (bI X (x::qual::D.map (·.1)) scope v C s1 H1 Uy) e ta)(rd:vg X.K J (fQ D σ) tt ta B H)
  (b5:∀G C s' H' m,Inv X π σ H' s'->s'.heap.Ns C m->gK X π H' C->B G H'->RR (.ref G) C (.ok .next) s'):
  wpAny (model X.prog X.w) X.A (newList []) (λa7 s3=>wpAny (model X.prog X.w) X.A (newFunctionEnv scope X.env.globals v [] X.env.qual none .none (some X.env)) (λa1 s4=>
   codeAny (model X.prog X.w) X.A (.compStart (.ListComp e [(.Tuple [.Name x p,.Name qual apos] n tp,iter,u,0)] scope pos) 0 (.ref a) a7 {a1 with scope:=relabel scope X.env}) (RR a7 a1.locals) s4) E s3) E s:=by
 have a3:∀b∈g,b<s.heap.objs.size:=λb O=>by
  obtain⟨o,j,_⟩:=T.obj _ _ st b O;exact Heap.lt_size j
 refine wpAny_newObj_type (wpAny_newFunctionEnv R.o.ρ (by intro y hy;simp at hy) (λh1 a2 Z=>?_) R.o.kind);dsimp only at a2 Z ⊢;obtain⟨G,eD⟩:∃G:Nat,G=s.heap.objs.size:=(_,7)
 obtain⟨N,Wf⟩:∃k,k=s.heap.push {cls:=.type "list",dict:=none,data:=.seq ([]:List Value).toArray}:=(_,7)
 rw[<-Wf]at a2 Z ⊢;rw[<-eD];have hC:N.objs.size=G+1:=by rw[Wf,Heap.size_push,eD]
 have a6:s.heap.objs.size<=N.objs.size:=by rw[hC,eD];exact ahe _
 have b6:G≠N.objs.size:=by rw[hC];exact aan (agW _)
 have hk:∀b o,s.heap.get? b=some o->h1.get? b=some o:=λb o j=>by
  refine Z.extBut b o (aan (aak (Heap.lt_size j) a6)) (Heap.get?_push_of_some _ ?_);rw[Wf];exact Heap.get?_push_of_some _ j
 have hL:h1.get? G=some {cls:=.type "list",data:=.seq #[]}:=by
  refine Z.extBut G _ ⋯ (Heap.get?_push_of_some _ ?_);rw[Wf,eD];exact Heap.get?_push_size _ rfl
 have a5:tn 0 h1:=T.keep _ _ _ st λb _ o j=>hk b o j;obtain⟨W,⟨m0,w0⟩,a8⟩:=rd G (I.hok.fresh ⋯);have a0:codeAny (model X.prog X.w) X.A (.compLoop (.ListComp e [(.Tuple [.Name x p,.Name qual apos] n tp,iter,u,0)] scope pos) 0 (.ref a) (.ref G) (compEnvC scope v N.objs.size X.env)) (RR (.ref G) N.objs.size) {s with heap:=h1,toks:=s.toks+([]:List (Str×Value)).length}:=by
  refine Ew (λM s'=>∃i ys U S H',Inv (bI X (x::qual::D.map (·.1)) scope v N.objs.size s H g) [] (U::S::fQ D σ) H' s'/\tn i s'.heap/\(∀b∈g,H' b=none)/\W i M ys H') ?_ m0
   (0,[],none,none,_,I.comp2 R hf a3 ⋯ ⋯ b6 hk a2 hL,a5,λb O=>?_,w0)
  ·rintro M s3 ⟨i,ys,U,S,H3,I3,a4,Wm,w3⟩;have WR:∀{H':Hp}{pi:List (Addr×Obj)},(∀b∈g,H' b=none)->(∀f∈pi,f.1∉g) -> ∀b∈g,gK (bI X (x::qual::D.map (·.1)) scope v N.objs.size s H g) pi H' b:=λ{H' pi} hn hp b O=>by
    obtain⟨f0,f1,f2,f3,f4,f5⟩:=hf b O;refine(hn b O,8,λqual=>?_,.inl O,λy c j=>f4 y c (R.o.cls y c j),λf b4 qual=>?_)
    ·exact aan (aak (a3 b O) a6)
    ·rcases aas.mp (I.stkSub b qual)with q|q
     ·exact f1 q
     ·exact f2 q
    ·exact hp f (by simpa [bI]using b4) (by rw[qual];exact O)
   have clear:∀{α:Type}{t:Sem α}{Q:α->Shared->Prop}{E':Value->Shared->Prop}{s:Shared},wpAny (model X.prog X.w) X.A t Q (λ_ _=>False) s->wpAny (model X.prog X.w) X.A t Q E' s:=λh=>wpAny_mono h (λ_ _ qual=>qual) λ_ _ qual=>qual.elim;rcases a8 i M ys H3 w3 with ⟨a9,qf⟩|⟨go,b0⟩
   ·refine T7 (T.done (bI X (x::qual::D.map (·.1)) scope v N.objs.size s H g) rfl rfl rfl hc i [] s3 _ H3 _ I3 (WR Wm (by simp)) a4 a9) λr s4 ⟨hr,I4⟩=>?_;subst hr;obtain⟨m4,Yz,_⟩:=id I4.loc;refine b5 G _ s4 H3 m4 (I.comped hf I4) Yz ?_ qf;have gC:s.heap.objs.size<=N.objs.size:=by lia
    exact I.fpOk gC I4.free
   ·refine clear (T7 (T.item (bI X (x::qual::D.map (·.1)) scope v N.objs.size s H g) rfl rfl rfl hc i [] s3 _ H3 (λ_ _=>False) I3 (WR Wm (by simp)) a4 go) λr s4 ⟨L,hr,h4⟩=>?_);subst hr;refine clear (T7 h4 λ_ s5 ⟨l,H5,I5,r5,y5,Vu,Xw⟩=>?_);have Xx:=I5.pinned (WR Xw (by simp)) (T.obj _ _ Vu);obtain⟨F,v1,v2,ev,b3,q6⟩:=b0 l _ y5;subst ev;have hg:PG (bI X (x::qual::D.map (·.1)) scope v N.objs.size s H g) (.Tuple [.Name x p,.Name qual apos] n tp) (R0 X.K 2 (MF (iY 0) (MF (iY 1) RV))):=
     iT hc (bA (mL (i:=0) R.nd rfl (ahy (lookup_relabel_local R.o.hx)) (ah6 (lookup_relabel_local R.o.hx))) (bA (mL (i:=1) R.nd rfl (ahy (lookup_relabel_local R.hz)) (ah6 (lookup_relabel_local R.hz))) fB))
    refine clear (T7 (hg _ s5 (U::S::fQ D σ) H5 (.ref F) L (λ b1 N=>b1=some v1::some v2::fQ D σ/\N=H5) Xx r5 (F,[v1,v2],7,b3,7,v1,[v2],7,v2,[],7,7,(show _/\_ from (7,7)))) λ_ s6 ⟨b9,H6,I6,e6,e7⟩=>?_);subst e6 e7;have P:∀{H7:Hp}{s7:Shared}{U S:Option V}{zs:List V}{Y:Nat},Inv (bI X (x::qual::D.map (·.1)) scope v N.objs.size s H g) ([]++qe g s5.heap) (U::S::fQ D σ) H7 s7->Y<M->W (i+1) Y zs H7 ->
      ∃m,m<M /\ ∃i ys U S H',Inv (bI X (x::qual::D.map (·.1)) scope v N.objs.size s H g) [] (U::S::fQ D σ) H' s7/\tn i s7.heap/\(∀b∈g,H' b=none)/\W i m ys H':=λ{H7 s7 U S zs Y} I7 hm w7=>by
     refine(Y,hm,i+1,zs,U,S,H7,I7.ξ,T.keep _ _ _ Vu λb O o j=>(I7.pin (pq b o) (aat _ (aat _ (fW O j)))).1,λb O=>?_,w7);obtain⟨o,j,d⟩:=T.obj _ _ Vu b O;exact(I7.pin (pq b o) (aat _ (aat _ (fW O j)))).2.1
    refine clear (T7 (ht N.objs.size s H g _ s6 _ H6 _ I6 q6) λok s7 ⟨H7,I7,q7⟩=>?_);cases ok with
    |false=>
     obtain⟨Y,hm,w7⟩:=(show ∃Y,Y<M/\W (i+1) Y ys H7 from q7);exact P I7 hm w7
    |true=>
     refine clear (T7 (he N.objs.size s H g _ s7 _ H7 _ I7 q7) λxv s8 ⟨y,H8,I8,r8,ZD,b2,Y,hm,w8⟩=>?_);refine clear (T7 (bN _ s8 _ H8 (.ref G) [y] (.ref G) [xv] (λ_ H9=>H9=upd H8 G (.lst (ys++[y]))) I8 rfl (.cons r8 .nil) (G,ys,y,7,7,ZD,b2,7)) λ_ s9 ⟨_,H9,I9,_,e9⟩=>?_);subst e9;exact P I9 hm w8
  ·rw[aG (by rw[eD];exact aan (a3 b O))];exact(hf b O).1
 exact codeAny_compStart_list a0 (T.self _ 0 _ _ _ a5 a0)
theorem Er{x :Str}{F pos:Pos}{iter:Expr}{J:It}{G:Nat->Heap->Prop}
  {RR:Value->Addr->Result->Shared->Prop}{E:Value->Shared->Prop}(I:Inv X π σ H s)(hc:X.calm=true)(K0:o7 X x qual D scope v)(T:Turn X.prog X.w X.K (.Tuple [.Name x p,.Name qual apos] n F) J g a G)(st:G 0 s.heap)(Y:∀b∈g,gK X π H b)
  (Z:∀C U t Uy,PE (bI X (x::qual::D.map (·.1)) scope v C U t Uy) e ta)(V:Aa X.K J (fQ D σ) ta B H)
  (u:∀j C r H' m,Inv X π σ H' r->r.heap.Ns C m->gK X π H' C->B j H'->RR (.ref j) C (.ok .next) r):
  wpAny (model X.prog X.w) X.A (newList []) (λl S=>wpAny (model X.prog X.w) X.A (newFunctionEnv scope X.env.globals v [] X.env.qual none .none (some X.env)) (λk R=>
   codeAny (model X.prog X.w) X.A (.compStart (.ListComp e [(.Tuple [.Name x p,.Name qual apos] n F,iter,[],0)] scope pos) 0 (.ref a) l {k with scope:=relabel scope X.env}) (RR l k.locals) R) E S) E s:=
 sI I hc K0 T st Y (λ_ _ _ _=>fu) Z (λj hD=>by
  obtain⟨W,N,o⟩:=V j hD;refine(W,N,λi m L t M=>?_);rcases o i m L t M with h|⟨go,q⟩
  ·exact .inl h
  ·refine .inr (go,λd H2 y=>?_);obtain⟨f,P,O,c,Q,h⟩:=q d H2 y;exists f,P,O,c,Q;unfold Kc
   set_option simprocs false in dsimp only
   rw[if_pos rfl];exact h) u
def HW(K:PySem.W.Frag)(a:List (Str×Nat))(b:TE)(σ:St)(Q:VK):It->Hp->Prop:=λJ c=>Aa K J (fQ a σ) b (λD d=>Q (.ref D) d) c
def Qq(K:PySem.W.Frag)(b:TI)(a:List (Str×Nat))(c:TE):TE:=λ σ H Q=>b σ H (HW K a c σ Q)
theorem CQ{i:Nat}{y x :Str}{u k pos g:Pos}{iter:Expr}{O:TI}(hN:X.N.Nodup)(XD:X.N[i]?=some y)(R:X.env.scope.names.lookup y=some .local)(hc:X.calm=true)
  (B:o7 X x qual D scope v)(hi:PI X (.Tuple [.Name x p,.Name qual apos] n u) iter O)
  (he:∀C P H1 Uy,PE (bI X (x::qual::D.map (·.1)) scope v C P H1 Uy) e ta)
  (G:swapsWith (.ListComp e [(.Tuple [.Name x p,.Name qual apos] n u,iter,[],0)] scope pos) (some (.Name y k)) g.line X.env=pure true:=by rfl)(W:∀x,foldedSetIterable iter X.env x=pure x:=by intro _;rfl):
  PS X (.Assign [.Name y k] (.ListComp e [(.Tuple [.Name x p,.Name qual apos] n u,iter,[],0)] scope pos) g) (Hf (Qq X.K O D ta) (iY i)):=by
 intro π s σ H S I h;rw[exec_Assign_Name_used _ _ _ _ G];refine wpAny_bind (wpAny_standAt (wpAny_bind ?_));show wpAny _ X.A (do let _ <-comprehension (.ListComp e [(.Tuple [.Name x p,.Name qual apos] n u,iter,[],0)] scope pos) scope X.env _ (newList []) false (eval iter X.env) (some (assign (.Name y k) X.env))) _ _ s;refine wpAny_bind (wpAny_mono (wpAny_comprehension_free (use:=some (assign (.Name y k) X.env)) (Q:=λ_ l=>SP X π S .next l) rfl W B.o.clos B.o.kind B.o.names
  (T7 (hi π s σ H _ I h) λd P h1=>T7 h1 λa0 s2 h2=>?_)) (λ_ l Y=>wpAny_pure (wpAny_pure Y)) λ_ _ c=>c)
 obtain⟨it,fp,tn,J,H2,c,I2,T,E,f2,V⟩:=h2;subst c;refine Er (RR:=λM C=>compPost (model X.prog X.w) X.A X.xe (some (assign (.Name y k) X.env)) (λ_ l=>SP X π S .next l) M C) I2 hc B T E f2 he V ?_;intro f C l H' m I' Z j q;show wpAny _ X.A (assign (.Name y k) X.env (.ref f)) _ _ _;refine wpAny_assign_Name (mY (v:=.ref f) I' hN XD (.inl R) rfl (λF XF ch=>(m,8,λL t=>?_)) (.inr R))
 ·obtain⟨a,U,r⟩:=ch;refine Z.sameBut U λqual=>?_;rcases r with r|r
  ·exact j.2.1 (qual.trans r)
  ·exact j.2.2.2.2.1 _ a r qual.symm
 ·exact(_,H',XF.turned (h':=L) (t':=F.toks) (λb o hb c=>t.extBut b o hb c) j.1 j.2.1 j.2.2.2.1 j.2.2.2.2.1 j.2.2.2.2.2,q)
end L2
namespace Tw
theorem Dw{a:Addr}{l:L2.St}(R:Nat->Int->Prop)(I:T6 K H a (d.map V.int))(L:d.length<sizeLine)
  (J:∀(i:Nat) (b:Int) (H':Hp) (Q:VK),d[i]?=some b->aU H H'->(∀m r,R i m->aU H' r->Q (.int m) r)->ta (some (.int (i:Int))::some (.int b)::l) H' Q)
  (q:∀D H' (f:List Int),H D=none->aU H H'->H' D=some (.lst (f.map V.int))->f.length=d.length->(∀i m,f[i]?=some m->R i m)->B D H'):Aa K (WQ K a) l ta B H:=by
 intro D w;exists λi m t s=>m=d.length-i/\i<=d.length/\aU H s/\s D=some (.lst t) /\ ∃f:List Int,t=f.map V.int/\f.length=i /\ ∀i m,f[i]?=some m->R i m,(5,aaD _,az w _,ao,[],7,7,λi m e=>by cases e);rintro i m t s ⟨rfl,M,o,k,f,rfl,x,E⟩;have g:=o.seq I;by_cases h:i<d.length
 ·have C:d[i]?=some d[i]:=aad h;have A:(d.map V.int)[i]?=some (.int d[i]):=by
   rw[aag,C];rfl
  refine .inr ((1,g,A),λv r y=>?_);obtain⟨p,y,F,rfl,rfl,e⟩:=y;have e:=e _ g;rw[A]at e;cases e;have u:=az F (.tup [.int (i:Int),.int d[i]]);exists p,_,5,T8.of ao;refine J i d[i] _ _ C (o.trans u) λm r G z=>(z _ _ (u _ _ k),8,d.length-(i+1),9,7,h,8,ao,f++[m],8,8,8)
  ·rw[aaa];lia
  ·exact bT (o.trans (u.trans z)) w _
  ·rw[aaj];rfl
  ·rw[aae,x];rfl
  ·intro j n e;rcases aay j f.length with c|c
   ·rw[aaw c]at e;exact E j n e
   ·rw[aap c]at e;have:j-f.length=0:=by
     have:=(aab.mp e).1;simp at this;lia
    rw[this]at e;cases e;have:j=i:=by lia
    subst this;exact G
 ·have e:i=d.length:=by lia
  exact .inl ((_,g,by rw[aaa,e];exact aac _),q D s f w o k ⋯ E)
theorem yM{a:Addr}{f:L2.St}{tt:TT}(g:Int->Int)(o:T6 K H a (d.map V.int))(r:d.length<sizeLine)
  (k:∀(z:Int) (H':Hp) (Q:Bool->Hp->Prop),Q true H'->tt (some (.int z)::f) H' Q)(p:∀(z:Int) (H':Hp) (Q:VK),z∈d->aU H H'->Q (.int (g z)) H'->ta (some (.int z)::f) H' Q)
  (q:∀D,H D=none->B D (upd H D (.lst ((d.map g).map V.int)))):jw (Wl K a) f tt ta B H:=by
 intro D j;exists λi m h n=>m=d.length-i/\i<=d.length/\h=((d.take i).map g).map V.int/\n=upd H D (.lst h),(5,aaD _,7,7);rintro i m h n ⟨rfl,s,rfl,rfl⟩;have c:T6 K (upd H D (.lst (((d.take i).map g).map V.int))) a (d.map V.int):=(az j _).seq o;by_cases b:i<d.length
 ·have l:(d.map V.int)[i]?=some (.int d[i]):=by
   rw[aag,aad b];rfl
  refine .inr ((1,c,l),λv t y=>?_);obtain⟨rfl,y⟩:=y;have e:=y _ c;rw[l]at e;cases e;refine k _ _ _ ?_;rw[if_pos rfl];refine p _ _ _ (acV b) (az j _) (ao,8,d.length-(i+1),9,7,b,8,8)
  ·rw[aaa,aaa,aaz];lia
  ·rw[abH,aad b,aaj,aaj];rfl
  ·rw[m6]
 ·have e:i=d.length:=by lia
  subst e;rw[ahu];rw[ahu]at c;exact .inl ((_,c,by rw[aaa];exact aac _),q D j)
end Tw
namespace L2
open PySem.Spec PyProof.Rows PySem.W
structure pW where
 qual:Str
 params:Arguments
 body:Expr
 scope:Scope
 ps:List Str
 xs:List Str
def lamOf(st:Stmt)(c:Str)(ps xs:List Str):pW:=match st with
 |.Return (some (.Lambda a b d _)) _=>(c,a,b,d,ps,xs)
 |_=>(c,ν st,.Name "" (0,0,0,0),δ st,ps,xs)
def bW:Stmt->Pos
 |.Return (some (.Lambda _ _ _ p)) _=>p
 |_=>(0,0,0,0)
structure dG(H:Hp)(f:Addr)(c:pW)(cs:List Addr)(Uc:List V):Prop where
 ex:∃(cd:Addr) (pm ctv:Value) (oc:Obj) (vs:Array Value) (t:Tok),H f=some (aM f (kla_obj "<lambda>" c.qual c.params c.body c.scope (c.xs.zip cs) pm cd ctv))/\H cd=some (aM cd oc)/\oc.data=.fields vs/\vs[1]?=some (.str c.qual t)
 cells:∀(i:Nat) (a:Addr),cs[i]?=some a -> ∃(co:Obj) (v:V) (u:Value),Uc[i]?=some v/\H a=some (aM a co)/\co.data=.cell (some u)/\RelV v u
 nd:cs.Nodup
 len:cs.length=c.xs.length
 lenV:Uc.length=c.xs.length
theorem dG.same{H':Hp}{f:Addr}{c:pW}{cs:List Addr}{Uc:List V}(h:dG H f c cs Uc)(s:∀b o,H b=some (aM b o)->H' b=some (aM b o)):dG H' f c cs Uc:=by
 obtain⟨⟨B,k,g,l,j,t,w,r,q,p⟩,n,m,d,lenV⟩:=h;refine((B,k,g,l,j,t,s _ _ w,s _ _ r,q,p),λi a e=>?_,m,d,lenV);obtain⟨A,v,u,z,y,x⟩:=n i a e;exact(A,v,u,z,s _ _ y,x)
structure pO(N:List Str)(c:pW):Prop where
 kind:c.scope.kind=.function
 co:c.scope.isCoroutine=false
 gen:c.scope.isGenerator=false
 ρ:∀x∈c.scope.names,x.2 ≠ .cell
 pre:N.take (c.ps.length+c.xs.length)=c.ps++c.xs
 nd:N.Nodup
 Wc:∀n∈c.ps,c.scope.names.lookup n=some .local
 fr:∀x∈c.scope.names,x.2=.free->x.1∈c.xs
 ZL:∀n∈c.xs,c.scope.names.lookup n≠some .local
section
variable{P:Program}{c:pW}{cs:List Addr}{Uc vs:List V}{us:List Value}{k:Nat}{Q:VK}{E:XK}
theorem Oj(S:pO N c)(hr:dX (k+1) A)(d:Ek P w K mg base A outer s H)(ca:dG H f c cs Uc)(hb:∀(cl:List (Str×Addr)) (pm l W:Value),bindArgs (kla_fn "<lambda>" c.qual c.params c.body c.scope cl pm l W) (us,[])=pure (c.ps.zip us))(r:Vals vs us)(hl:vs.length=c.ps.length)
  (X:∀l:Addr,dX k (A.deeper (envX c.qual c.scope s.heap.objs.size f (.ref l) (c.xs.zip cs))) -> ∃t,PE (sX P w K mg base N c.qual c.scope f (.ref l) (c.xs.zip cs) A outer s (hide H cs)) c.body t/\t (start N (vs++Uc)) (hide H cs) λv H'=>Q v (over H cs H')):
  codeAny (model P w) A (.call (.ref f) (us,[])) (CR T9 outer P w H s Q E) s:=by
 obtain⟨⟨l,pm,W,oc,ws,tk,h1,h2,h3,h4⟩,hc,nd,a1,lenV⟩:=ca;have Y:∀a∈cs,∃o,H a=some (aM a o):=λa G=>by
  obtain⟨i,C⟩:=abg G;obtain⟨R,v,u,_,e,_⟩:=hc i a C;exact(R,e)
 have a0:s.heap.NoLimit:=d.mod.nolimit.keeps λb o e=>(d.bs b o e).1;have Xd:c.ps.Nodup:=by
  have:c.ps.Sublist N:=by
   have h:(c.ps++c.xs).Sublist N:=by rw[<-S.pre];exact ag2 _ _
   exact(aiz _ _).trans h
  exact S.nd.sublist this
 have ZM:c.xs.Nodup:=by
  have:c.xs.Sublist N:=by
   have h:(c.ps++c.xs).Sublist N:=by rw[<-S.pre];exact ag2 _ _
   exact(ait _ _).trans h
  exact S.nd.sublist this
 have a6:c.ps.length+c.xs.length<=N.length:=by
  have:=congrArg ahp S.pre;rw[aaz,aae]at this;lia
 refine kla_callFunE hr.depth (cW d.hok h1) rfl S.co S.gen rfl (l,oc,ws,tk,7,cW d.hok h2,h3,h4) ?_;rw[hb];refine wpAny_pure (wpAny_newFunctionEnv S.ρ (λy m=>S.Wc _ (ahC m).1) (λh0 a2 U=>(a0.fresh _ U,8)) S.kind);show codeAny _ _ (.expr c.body (envX c.qual c.scope s.heap.objs.size f (.ref l) (c.xs.zip cs))) _ _;have Z:∀b o,s.heap.get? b=some o->h0.get? b=some o:=λb o e=>U.extBut b o (aan (Heap.lt_size e)) (Heap.get?_push_of_some _ e);refine kla_codeExpr ?_;obtain⟨t,ht,hq⟩:=X l (hr.deeper _);have B:=Hc d.hok Y;have I:Inv (sX P w K mg base N c.qual c.scope f (.ref l) (c.xs.zip cs) A outer s (hide H cs)) [] (start N (vs++Uc)) (hide H cs) {s with heap:=h0,toks:=s.toks+(c.ps.zip us).length}:=by
  refine((d.mod,S.kind,7,7,aac _,λy z b h g=>?_,λy m=>?_,λy b h _=>absurd h aal,λ_=>hr.hd,Around.frames_deeper d.frames,.inr (7,7),λb z=>absurd (show b∈([]:List Addr)from z) (by simp),λb o e=>((d.bs b o e).1,8),d.Vj,λb _ _ z=>absurd (show b∈([]:List Addr)from z) (by simp),λb z=>absurd (show b∈([]:List Addr)from z) (by simp),d.funs,λb a4=>?_),
   rfl,d.bare,Un.kept Z,(_,a2,λi y v h g h7=>?_),λy b h=>?_,B.fresh (aac _),λy b h=>?_,λp x=>absurd (show p∈([]:List (Addr×Obj))from x) (by simp),B.kept Z,8)
  ·obtain⟨i,i1,F⟩:=cQ h;obtain⟨j,j1,j2⟩:=cQ g;have:=(ai4 (aab.mp F).1 nd).mp (F.trans j2.symm);subst this;exact aax (i1.symm.trans j1)
  ·have m:c.scope.names.lookup y=some .cell\/c.scope.names.lookup y=some .free:=m;rcases m with m|m
   ·exact absurd rfl (S.ρ _ (PySem.mem_of_lookup m))
   ·exact yP a1 (S.fr _ (PySem.mem_of_lookup m) rfl)
  ·have n:=(d.bs b o e).2;show hide H cs b=none;rw[bw]
   ·exact n
   ·intro z;obtain⟨o',O⟩:=Y b z;rw[n]at O;cases O
  ·have n:=d.Vt b a4;show hide H cs b=none;rw[bw]
   ·exact n
   ·intro z;obtain⟨o',O⟩:=Y b z;rw[n]at O;cases O
  ·have C:i<(vs++Uc).length:=by
    unfold start at g;by_cases C:i<(vs++Uc).length
    ·exact C
    ·rw[aap (by simpa using C)]at g;rw[agY]at g;split at g<;>cases g
   have G:(vs++Uc)[i]?=some v:=by
    unfold start at g;rw[aaw (by simpa using C),aag]at g;cases e:(vs++Uc)[i]? with
    |none=>rw[e]at g;cases g
    |some a=>rw[e]at g;cases g;rfl
   rw[aae]at C;have x:(c.ps++c.xs)[i]?=some y:=by
    rw[<-S.pre,adI ⋯];exact h
   by_cases a3:i<vs.length
   ·rw[aaw a3]at G;rw[aaw ⋯]at x;obtain⟨u,hu,M⟩:=r.get G;exact(u,M,.inl (S.Wc y (aah x),G3 Xd x hu))
   ·rw[aap ⋯]at G;rw[aap ⋯,<-hl]at x;have hj:i-vs.length<cs.length:=by
     have:=(aab.mp x).1;lia
    obtain⟨b,XJ⟩:∃b,cs[i-vs.length]?=some b:=(_,aad hj);obtain⟨R,v',u,q1,q2,q3,q4⟩:=hc _ b XJ;rw[G]at q1;cases q1;have D:c.scope.names.lookup y=some .free:=by
     rcases h7 with q|q|q
     ·exact absurd q (S.ZL y (aah x))
     ·exact absurd rfl (S.ρ _ (PySem.mem_of_lookup q))
     ·exact q
    exact(u,q4,.inr (.inr D,b,Ft ZM x XJ,R,Z _ _ (cW d.hok q2),q3))
  ·obtain⟨i,i1,F⟩:=cQ h;obtain⟨R,v',u,q1,q2,q3,q4⟩:=hc _ b F;exact(_,R,Z _ _ (cW d.hok q2),q3)
  ·obtain⟨i,i1,F⟩:=cQ h;exact mX (aah F)
  ·unfold start;show _=N.length;rw[aae,aaa,aba,aae];lia
 have a5:∀{L:Shared}{T:St}{H':Hp}{v:V}{u:Value},Inv (sX P w K mg base N c.qual c.scope f (.ref l) (c.xs.zip cs) A outer s (hide H cs)) [] T H' L->RelV v u->Q v (over H cs H')->CE outer P w H s Q u L:=λ{L T H' v u} J M q=>by
  obtain⟨k1,k2⟩:=Gh d.hok J.hok Y d.Vt J.base;exact(v,over H cs H',J.os,J.bare,k2,k1,M,q)
 refine wpAny_mono (ht [] _ (start N (vs++Uc)) (hide H cs) _ I hq) (λu L hs=>?_) λe L hs=>False.elim hs;obtain⟨v,H',J,M,q⟩:=hs;exact a5 J M q
end
section
variable{P:Addr}{params:Arguments}{body:Expr}{clos:List (Str×Addr)}{pos:Pos}
theorem JT{M:Model}{A:Around}{E:Value->Shared->Prop}{Q:Value->Shared->Prop}(I:Inv X π σ H s)(bm:BMain X.mg X.base)(r:X.env.code=.ref c)(C:CodeHd X.base c P)(hT:TabAt H P pos qual)(V:closureFor scope X.env=pure clos)
  (h:∀(fi B:Addr) (pm f:Value) (i:Obj) (y:Array Value) (t:Tok) (K:Hp) (s1:Shared),Inv X π σ K s1->H fi=none->(∀b o,H b=some o->b≠P->K b=some o)->TabAt K P pos qual ->
   K fi=some (aM fi (kla_obj name qual params body scope clos pm B f))->K B=some (aM B i)->i.data=.fields y->y[1]?=some (.str qual t)->Q (.ref fi) s1):
  wpAny M A (makeFunction name qual params (.expr body) scope X.env [] [] [] pos n) Q E s:=by
 obtain⟨m,l,p,O⟩:=hT;have x:s.heap.get? P=some (tabObj m):=I.hok P _ l;have G:=I.mod.glob.keeps I.bk;obtain⟨bm,ob,b1,b2,b3,b4,b5,b6⟩:=bm;have S:=I.bk _ _ b3;have a2:mainGlobals≠P:=λq=>by
  obtain⟨o,es,ep,e,hd,_⟩:=G;rw[q,x]at e;cases e;cases hd
 have a3:bm≠P:=λq=>by
  rw[q,x]at S;cases S;cases b4
 have a4:bm≠mainGlobals:=λq=>by
  obtain⟨o,es,ep,e,hd,_⟩:=G;rw[q,e]at S;cases S;rw[hd]at b6;cases b6
 have XM:s.heap.BuiltinsAt X.mg P:=(bm,ob,b1,b2,a4,a3,S,b4,b5,b6);rcases O with U|⟨B,i,y,t,hf,W,hd,R⟩
 ·refine kla_makeFunction (mg:=X.mg) V I.ok.glob G r (C.keeps I.bk) x p U a2 XM λa f g tk hx v N Y a0=>?_;obtain⟨c2,i,y,t,e2,a1,hd,R⟩:=Y;cases e2;have nc:H a=none:=I.hok.fresh v;have J:H g.objs.size=none:=I.hok.fresh (aeY v (agu N));have ZP:P≠a:=aD l nc;have ZQ:P≠g.objs.size:=aD l J;have ZR:a≠g.objs.size:=aan N
  have k1:∀b,b≠P->b≠a->b≠g.objs.size->upd (upd (upd H P (.Ug (m ++ #[rawInt pos.line,rawInt pos.col,.ref a]))) a (aM a i)) g.objs.size (aM g.objs.size (kla_obj name qual params body scope clos ((X.mg "__name__").getD .none) a f)) b=H b:=λb e1 e2 e3=>by
   rw[aG e3,aG e2,aG e1]
  have k:∀b o,H b=some o->b≠P->upd (upd (upd H P (.Ug (m ++ #[rawInt pos.line,rawInt pos.col,.ref a]))) a (aM a i)) g.objs.size (aM g.objs.size (kla_obj name qual params body scope clos ((X.mg "__name__").getD .none) a f)) b=some o:=λb o e n=>by
   rw[k1 b n (aD e nc) (aD e J)];exact e
  have kP:upd (upd (upd H P (.Ug (m ++ #[rawInt pos.line,rawInt pos.col,.ref a]))) a (aM a i)) g.objs.size (aM g.objs.size (kla_obj name qual params body scope clos ((X.mg "__name__").getD .none) a f)) P=some (.Ug (m ++ #[rawInt pos.line,rawInt pos.col,.ref a])):=by
   rw[aG ZQ,aG ZP,ao]
  have kc:upd (upd (upd H P (.Ug (m ++ #[rawInt pos.line,rawInt pos.col,.ref a]))) a (aM a i)) g.objs.size (aM g.objs.size (kla_obj name qual params body scope clos ((X.mg "__name__").getD .none) a f)) a=some (aM a i):=by
   rw[aG ZR,ao]
  have kf:upd (upd (upd H P (.Ug (m ++ #[rawInt pos.line,rawInt pos.col,.ref a]))) a (aM a i)) g.objs.size (aM g.objs.size (kla_obj name qual params body scope clos ((X.mg "__name__").getD .none) a f)) g.objs.size=some (aM g.objs.size (kla_obj name qual params body scope clos ((X.mg "__name__").getD .none) a f)):=ao
  generalize upd (upd (upd H P (.Ug (m ++ #[rawInt pos.line,rawInt pos.col,.ref a]))) a (aM a i)) g.objs.size (aM g.objs.size (kla_obj name qual params body scope clos ((X.mg "__name__").getD .none) a f))=K at *
  have j:∀b o,s.heap.get? b=some o->b≠P->(g.push (kla_obj name qual params body scope clos ((X.mg "__name__").getD .none) a f)).get? b=some o:=λb o e n=>Heap.get?_push_of_some _ (hx b o n e)
  have D:(g.push (kla_obj name qual params body scope clos ((X.mg "__name__").getD .none) a f)).get? P=some (tabObj (m ++ #[rawInt pos.line,rawInt pos.col,.ref a])):=Heap.get?_push_of_some _ a0
  have hl:(m ++ #[rawInt pos.line,rawInt pos.col,.ref a]).toList=m.toList++[rawInt pos.line,rawInt pos.col,.ref a]:=by simp
  refine h g.objs.size a _ f i y t K _ (I.call' (ch:=[]) rfl (λb o e n hb L=>?_,λb o e n hb L=>?_,λb o e n L=>?_,λb o e L=>?_,λb xs e=>?_,λb o u e=>?_,λb qs e=>?_) (λb u e=>?_) I.bare λb z=>absurd z (by simp)) J k (_,kP,by rw[hl];exact TriplesOk_snoc _ _ _ _ p,.inr (a,i,y,t,by rw[hl];exact codeAmong_snoc _ p U,kc,hd,R)) kf kc hd R
  ·exact j b o e λz=>by rw[z,l]at n;cases n
  ·exact(o.slots,j b o e λz=>by rw[z,l]at n;cases n)
  ·rw[k1 b (λz=>by rw[z,l]at n;cases n) (aan (aak (Heap.lt_size e) v)) (aan (aak (Heap.lt_size e) (aeY v (agu N))))];exact n
  ·by_cases z:b=P
   ·exact(_,by rw[z];exact D)
   ·exact(o,j b o e z)
  ·exact k b _ e λz=>by rw[z,l]at e;cases e
  ·exact k b _ e λz=>by rw[z,l]at e;cases e
  ·by_cases z:b=P
   ·rw[z,l]at e;cases e;exact(_,by rw[z];exact kP)
   ·exact(#[],by rw[k b _ e z];simp)
  ·by_cases F:b=g.objs.size
   ·rw[F,kf]at e;cases e;rw[F];exact fH (Heap.get?_push_size _ rfl)
   by_cases z2:b=a
   ·rw[z2,kc]at e;cases e;rw[z2];exact fH (Heap.get?_push_of_some _ a1)
   by_cases Z:b=P
   ·rw[Z,kP]at e;cases e;rw[Z];exact D
   rw[k1 b Z z2 F]at e;refine(I.hok b u e).stay (λd o w q=>j d o q ?_) (λd q=>k d _ q ?_) λd xs q=>k d _ q ?_
   ·rcases w with rfl|w
    ·exact Z
    ·exact λz=>by rw[z,l]at w;cases w
   ·exact λz=>by rw[z,l]at q;cases q
   ·exact λz=>by rw[z,l]at q;cases q
 ·refine kla_makeFunctionHit (mg:=X.mg) V I.ok.glob G r (C.keeps I.bk) x p hf XM λf g tk hk T=>?_;have J:H g.objs.size=none:=I.hok.fresh T
  have k:∀b o,H b=some o->upd H g.objs.size (aM g.objs.size (kla_obj name qual params body scope clos ((X.mg "__name__").getD .none) B f)) b=some o:=λb o e=>by
   rw[aG (aD e J)];exact e
  have j:∀b o,s.heap.get? b=some o->(g.push (kla_obj name qual params body scope clos ((X.mg "__name__").getD .none) B f)).get? b=some o:=λb o e=>Heap.get?_push_of_some _ (hk b o e)
  refine h g.objs.size B _ f i y t _ _ (I.call' (ch:=[]) rfl (Un.laid j T J) (λb u e=>?_) I.bare λb z=>absurd z (by simp)) J (λb o e _=>k b o e) (m,k _ _ l,p,.inr (B,i,y,t,hf,k _ _ W,hd,R)) ao (k _ _ W) hd R;by_cases F:b=g.objs.size
  ·rw[F,ao]at e;cases e;rw[F];exact fH (Heap.get?_push_size _ rfl)
  rw[aG F]at e;exact(I.hok b u e).stay (λd o _ q=>j d o q) (λd q=>k d _ q) λd xs q=>k d _ q
end
section
variable{P:Program}{s0:Shared}{H0:Hp}{E:XK}{Q:VK}
theorem MK{T:pW}{cs:List Addr}{Uc:List V}{pos :Pos}(I:Inv (gW CX P w K mg base N qual scope f (.ref c) A outer s0 H0 E) [] σ H s)(bm:BMain mg base)(C:CodeHd base c Pt)(hT:TabAt H Pt pos T.qual)
  (hq:(envOfC qual scope s0.heap.objs.size f (.ref c)).qual ++ "<lambda>" = T.qual)
  (a5:closureFor T.scope (envOfC qual scope s0.heap.objs.size f (.ref c))=pure (T.xs.zip cs))(a4:defaultsOf T.params (envOfC qual scope s0.heap.objs.size f (.ref c))=(pq ([]) ([])))
  (S:cs.Nodup)(W:cs.length=T.xs.length)(G:Uc.length=T.xs.length)
  (XN:∀(j:Nat) (a:Addr),cs[j]?=some a -> ∃(x:Str) (m:Nat) (v:V),(envOfC qual scope s0.heap.objs.size f (.ref c)).cells.lookup x=some a/\scope.names.lookup x=some .cell/\N[m]?=some x/\σ[m]?=some (some v)/\Uc[j]?=some v)
  (hQ:∀(D:Addr) (H2:Hp),H D=none->(∀a∈cs,H a=none)->(∀b o,H b=some o->b≠Pt->H2 b=some o)->TabAt H2 Pt pos T.qual->dG H2 D T cs Uc->Q (.ref D) H2):
  wpAny (model P w) (A.deeper (envOfC qual scope s0.heap.objs.size f (.ref c))) (execs [.Return (some (.Lambda T.params T.body T.scope pos)) p] (envOfC qual scope s0.heap.objs.size f (.ref c)))
   (λfl s'=>∃u,fl=.ret u/\CE outer P w H0 s0 Q u s') (gW CX P w K mg base N qual scope f (.ref c) A outer s0 H0 E).xe s:=by
 refine wpAny_execs_cons (wpAny_Return_some (kla_eval a4 ?_));rw[hq];refine JT (X:=gW CX P w K mg base N qual scope f (.ref c) A outer s0 H0 E) (n:=pos.line) I bm rfl C hT a5 λD cd pm a8 oc vs t h y F ZS R a7 a3 a6 hd hv=>?_;exists .ref D,7,.ref D,λb=>if b∈cs then (y.heap.get? b).map (aM b)else h b,F.os,F.bare,8,8,7
 all_goals
  have g:∀a∈cs,∃x,(envOfC qual scope s0.heap.objs.size f (.ref c)).cells.lookup x=some a:=λa i=>by
   obtain⟨j,Z⟩:=abg i;obtain⟨x,m,v,h1,_⟩:=XN j a Z;exact(x,h1)
  have fresh:∀a∈cs,s0.heap.objs.size<=a:=λa i=>by
   obtain⟨x,M⟩:=g a i;exact F.ok.cab x a rfl M
  have Y:∀a∈cs,h a=none:=λa i=>by
   obtain⟨x,M⟩:=g a i;exact F.freeC x a M
  have k:∀b o,h b=some o->b∉cs:=λb o e z=>by
   rw[Y b z]at e;cases e
 ·have U:Un (frs outer) [] H0 h s0.heap y.heap:=F.base;refine(U.keep,U.slot,λb o e n a2=>?_,U.there,λb xs e=>?_,λb o v e=>?_,λb ps e=>?_)
  ·show (if b∈cs then _ else h b)=none;rw[if_neg (λz=>absurd (aak (Heap.lt_size e) (fresh b z)) (agt _))];exact U.free b o e n a2
  ·have r:=U.tups b xs e;show (if b∈cs then _ else h b)=_;rw[if_neg (k b _ r)];exact r
  ·have r:=U.frzs b o v e;show (if b∈cs then _ else h b)=_;rw[if_neg (k b _ r)];exact r
  ·obtain⟨O,r⟩:=U.tbls b ps e;exists O;show (if b∈cs then _ else h b)=_;rw[if_neg (k b _ r)];exact r
 ·intro b J e;have e:(if b∈cs then (y.heap.get? b).map (aM b)else h b)=some J:=e;by_cases hb:b∈cs
  ·rw[if_pos hb]at e;cases q:y.heap.get? b with
   |none=>rw[q]at e;cases e
   |some o=>
    rw[q]at e;cases e;exact fH q
  ·rw[if_neg hb]at e;refine(F.hok b J e).stay (λ_ _ _ q=>q) (λd q=>?_) λd xs q=>?_
   ·show (if d∈cs then _ else h d)=_;rw[if_neg (k d _ q)];exact q
   ·show (if d∈cs then _ else h d)=_;rw[if_neg (k d _ q)];exact q
 ·have L:∀b o,h b=some o->(λb=>if b∈cs then (y.heap.get? b).map (aM b)else h b) b=some o:=λb o e=>by
   show (if b∈cs then _ else h b)=_;rw[if_neg (k b _ e)];exact e
  refine hQ D _ ZS (λa i=>?_) (λb o e n=>L b o (R b o e n)) ?_ ((cd,pm,a8,oc,vs,t,L _ _ a3,L _ _ a6,hd,hv),λj a Z=>?_,S,W,G)
  ·obtain⟨x,M⟩:=g a i;exact I.freeC x a M
  ·obtain⟨ps,r,e2,e3⟩:=a7;exists ps,L _ _ r,e2;rcases e3 with e3|⟨a9,a1,a0,t',e4,e5,e6⟩
   ·exact .inl e3
   ·exact .inr (a9,a1,a0,t',e4,L _ _ e5,e6)
  ·obtain⟨x,m,v,h1,h2,h3,h4,h5⟩:=XN j a Z;obtain⟨mm,_,hl⟩:=F.loc;obtain⟨J,r',l⟩:=hl m x v h3 h4 (.inr (.inl h2));have l':∃c',(envOfC qual scope s0.heap.objs.size f (.ref c)).cells.lookup x=some c'/\y.heap.IsCell c' (some J):=by
    rcases l with ⟨B,_⟩|⟨_,l2⟩
    ·have B:scope.names.lookup x=some .local:=B;rw[h2]at B;cases B
    ·exact l2
   obtain⟨c',B,co,l2,l3⟩:=l';rw[h1]at B;cases B;refine(co,v,J,h5,8,l3,r');show (if a∈cs then (y.heap.get? a).map (aM a)else h a)=_;rw[if_pos (aah Z),l2];rfl
end
structure Do(N:List Str)(qual:Str)(scope:Scope)(T:pW)(slots:List Nat)(U6:Addr->List Addr):Prop where
 qn:∀(L f:Addr) (c:Value),(envOfC qual scope L f c).qual ++ "<lambda>" = T.qual
 cl:∀(L f:Addr) (c:Value),closureFor T.scope (envOfC qual scope L f c)=pure (T.xs.zip (U6 L))
 d0:∀(L f:Addr) (c:Value),defaultsOf T.params (envOfC qual scope L f c)=(pq ([]) ([]))
 ZX:∀L:Addr,(U6 L).Nodup
 len:∀L:Addr,(U6 L).length=T.xs.length
 fv:∀(L f:Addr) (c:Value) (j:Nat) (a:Addr),(U6 L)[j]?=some a -> ∃(x:Str) (m:Nat),(envOfC qual scope L f c).cells.lookup x=some a/\scope.names.lookup x=some .cell/\N[m]?=some x/\slots[j]?=some m
def J5(H:Hp)(g:Addr)(pos:Pos)(T:pW)(c:List Nat)(σ:St)(Q:VK):Prop:=
 TabAt H g pos T.qual /\ ∃f:List V,(∀j m:Nat,c[j]?=some m -> ∃v,σ[m]?=some (some v)/\f[j]?=some v)/\f.length=T.xs.length /\
  ∀(e:Addr) (h:List Addr) (d:Hp),H e=none->(∀a∈h,H a=none)->(∀b o,H b=some o->b≠g->d b=some o)->TabAt d g pos T.qual->dG d e T h f->Q (.ref e) d
section
variable{P:Program}{k:Nat}{T:pW}{slots:List Nat}{U6:Addr->List Addr}{pos p1 p2:Pos}
theorem yJ{A:Around}{s b:Shared}{Q:VK}{E:XK}{σ:St}(M:Do N qual (δ st) T slots U6)(bm:BMain mg base)(C:CodeHd base c Pt)(I:Inv (gW T9 P w K mg base N qual (δ st) f (.ref c) A outer s H E) [] σ H' b)(h:J5 H' Pt pos T slots σ Q):
  wpAny (model P w) (A.deeper (envOfC qual (δ st) s.heap.objs.size f (.ref c))) (execs [.Return (some (.Lambda T.params T.body T.scope pos)) p2] (envOfC qual (δ st) s.heap.objs.size f (.ref c)))
   (λB d=>∃u,B=.ret u/\CE outer P w H s Q u d) (gW T9 P w K mg base N qual (δ st) f (.ref c) A outer s H E).xe b:=by
 obtain⟨q,S,z,t,r⟩:=h;refine MK (cs:=U6 s.heap.objs.size) (Uc:=S) I bm C q (M.qn _ _ _) (M.cl _ _ _) (M.d0 _ _ _) (M.ZX _) (M.len _) t (λj a e=>?_) (λD U p o n l g=>r D _ U p o n l g);obtain⟨y,m,R,O,L,J⟩:=M.fv s.heap.objs.size f (.ref c) j a e;obtain⟨v,G,F⟩:=z j m J;exact(y,m,v,R,O,L,G,F)
theorem UV.makerL1{g:Stmt}(F:UV K x qual st f fd)(S:aC N ps (δ st))(M:Do N qual (δ st) T slots U6)(bm:BMain mg base)(e:fd.code=.ref c)(C:CodeHd base c Pt)(j:∀d H Q E,sp d H Q E->d.length=ps.length)
  (r:μ st=[g,.Return (some (.Lambda T.params T.body T.scope pos)) p2])
  (h:∀(b:Value) (A:Around) (a:List Env) (s:Shared) (H:Hp) (d:List V) (Q:VK) (E:XK),dX k (A.deeper (envOfC qual (δ st) s.heap.objs.size f b))->sp d H Q E ->
   ∃t,PS (gW T9 P w K mg base N qual (δ st) f b A a s H E).W9 g t/\t {nx:=λ σ H'=>J5 H' Pt pos T slots σ Q,rt:=λ_ _=>False} (start N d) H):aV P w K mg base T9 (k+1) f fd ps sp:=by
 obtain⟨U,R,kV,J,O,X,b,W,G,rfl,o,m⟩:=F.ex;obtain rfl:b=.ref c:=e;refine FT o m S j λA a s H d Q E n p l I=>?_;rw[r];obtain⟨t,y,v⟩:=h _ A a s H d Q E p l;refine wpAny_execs_cons (wpAny_mono (y [] n (start N d) H _ (I.wish _) v) (λB L q=>?_) λ_ _ z=>False.elim z);cases B with
 |next=>
  obtain⟨σ,Y,D,q⟩:=q;exact yJ M bm C D.unwish q
 |ret u=>obtain⟨_,_,_,_,_,z⟩:=q;exact False.elim z
 |brk=>obtain⟨_,_,_,z⟩:=q;exact False.elim z
 |cont=>obtain⟨_,_,_,z⟩:=q;exact False.elim z
theorem El{sp:Addr->Sp}(S:pO N T)(u:∀(m:List (Str×Addr)) (l b d:Value) (j:List Value),j.length=T.ps.length->bindArgs (kla_fn "<lambda>" T.qual T.params T.body T.scope m l b d) (j,[])=pure (T.ps.zip j))
  (h:∀(f:Addr) (g:List V) (H:Hp) (Q:VK),sp f g H Q E0->g.length=T.ps.length /\ ∃cs Uc,dG H f T cs Uc /\
   ∀(b:Addr) (A:Around) (a:List Env) (s:Shared),dX k (A.deeper (envX T.qual T.scope s.heap.objs.size f (.ref b) (T.xs.zip cs))) -> ∃t,PE (sX P w K mg base N T.qual T.scope f (.ref b) (T.xs.zip cs) A a s (hide H cs)) T.body t/\t (start N (g++Uc)) (hide H cs) λv H'=>Q v (over H cs H')):
  fV P w K mg base (k+1) sp:=by
 intro f A a s H j g Q q y r n;obtain⟨p,cs,Uc,z,e⟩:=h f g H Q n;exact Oj S q y z (λm l b d=>u m l b d j (by rw[<-r.length];exact p)) r p λb o=>e b A a s o
end
theorem Inv.turnN{ch:List Addr}{p:Addr}{o:HO}{t':Nat}(I:Inv X π σ H s)(h:∀b∈ch,gK X π H b)
  (k:∀b u,b∉ch->s.heap.get? b=some u->h'.get? b=some u)(l:s.heap.objs.size<=p)
  (i:bH X.prog X.w (upd H p o) h' p o):Inv X π σ (upd H p o) {s with heap:=h',toks:=t'}:=by
 have y:=I.hok.fresh l;have j:∀b u,H b=some u->b∉ch:=λb u q z=>by rw[(h b z).1]at q;cases q
 have a:∀b u,H b=some u->upd H p o b=some u:=λb u q=>by rw[aG (aD q y)];exact q
 refine I.step (g':=s.gens) (d':=s.drawn) (ch:=ch) (λb e=>?_) (λb u _ _ d q _=>k b u d q) (λb u _ _ d q _=>(u.slots,k b u d q))
  (λb u _ q n=>by rw[aG (aan (aak (Heap.lt_size q) l))];exact n) (λb u d q=>(u,k b u d q))
  (λb t q=>a _ _ q) (λb g u q=>a _ _ q) (λb E q=>(#[],by rw[a _ _ q];simp)) (λm A=>?_) (λb u q=>?_) I.bare
 ·have f:=h b e;exact(f.2.2.2.1,f.2.1,f.2.2.2.2.1,f.2.2.2.2.2)
 ·obtain⟨g,C,D,x,r⟩:=A;exact(g,C,D,k _ g (λz=>(h _ z).2.1 rfl) x,r)
 ·by_cases e:b=p
  ·subst e;rw[ao]at q;cases q;exact i
  ·rw[aG e]at q;refine(I.hok b u q).stay (λc v B r=>k c v ?_ r) (λc r=>a _ _ r) λc t r=>a _ _ r;rcases B with rfl|z
   ·exact j _ _ q
   ·exact j _ _ z
theorem Inv.turnedN{ch:List Addr}{t':Nat}(I:Inv X π σ H s)(e:∀b∈ch,gK X π H b)
  (k:∀b u,b∉ch->s.heap.get? b=some u->h'.get? b=some u):Inv X π σ H {s with heap:=h',toks:=t'}:=by
 have g:∀b u,H b=some u->b∉ch:=λb u q z=>by rw[(e b z).1]at q;cases q
 refine I.step (g':=s.gens) (d':=s.drawn) (ch:=ch) (λb l=>?_) (λb u _ _ a q _=>k b u a q) (λb u _ _ a q _=>(u.slots,k b u a q))
  (λ_ _ _ _ n=>n) (λb u a q=>(u,k b u a q))
  (λ_ _ q=>q) (λ_ _ _ q=>q) (λb w q=>(#[],by rw[q];simp)) (λm i=>?_) (λb u q=>?_) I.bare
 ·have d:=e b l;exact(d.2.2.2.1,d.2.1,d.2.2.2.2.1,d.2.2.2.2.2)
 ·obtain⟨f,o,p,h,r⟩:=i;exact(f,o,p,k _ f (λz=>(e _ z).2.1 rfl) h,r)
 ·refine(I.hok b u q).stay (λc v j r=>k c v ?_ r) (λc r=>r) λc t r=>r;rcases j with rfl|z
  ·exact g _ _ q
  ·exact g _ _ z
def WX(K:PySem.W.Frag)(a b:Addr):It:=
  (λi H=>∃d c x y,T6 K H a d/\T6 K H b c/\d[i]?=some x/\c[i]?=some y,
   λi H v e=>∃p x y,H p=none/\v=.ref p/\e=upd H p (.tup [x,y])/\(∀d,T6 K H a d->d[i]?=some x) /\ ∀c,T6 K H b c->c[i]?=some y,
   λi H=>∃d c,T6 K H a d/\T6 K H b c/\(d.length<=i\/c.length<=i))
structure DR(z TI TO i1 i2:Addr):Prop where
 TIz:TI≠z
 TOz:TO≠z
 i1z:i1≠z
 i2z:i2≠z
 TITO:TI≠TO
 TIi1:TI≠i1
 TIi2:TI≠i2
 TOi1:TO≠i1
 TOi2:TO≠i2
 i12:i1≠i2
def Py(a b z TI TO d c:Addr)(i:Nat)(h:Heap):Prop:=IsZip h z TI TO .none/\IsPair h TI (.ref d) (.ref c)/\(∃x y,IsPair h TO x y)/\h.IsListIter d a i/\h.IsListIter c b i
theorem lO{a b:Addr}{o u:Obj}(d:h'.get? a=some o)(c:h'.get? b=some u)(e:o.cls≠u.cls):a≠b:=λz=>by
 subst z;rw[d]at c;cases c;exact e rfl
theorem Bb{a b :Addr}{i:Nat}{xs ys:Array Value}(D:DR f C S c dx)(st:Py a b f C S c dx i h')(r:h'.IsList a xs)(q:h'.IsList b ys):ZipApart f C S c dx a b:=by
 obtain⟨l,s,⟨x,y,d⟩,⟨w,n,p,_⟩,⟨v,m,o,_⟩⟩:=st;obtain⟨u,g,k,_⟩:=r;obtain⟨t,e,j,_⟩:=q;exact(D.TIz,D.TOz,D.i1z,D.i2z,D.TITO,D.TIi1,D.TIi2,D.TOi1,D.TOi2,D.i12,
  lO g l (by rw[k];show Value.type "list" ≠ Value.type "zip";decide),lO g d (by rw[k];show Value.type "list" ≠ Value.type "tuple";decide),lO g n (by rw[k,p];decide),lO g m (by rw[k,o];decide),
  lO e l (by rw[j];show Value.type "list" ≠ Value.type "zip";decide),lO e d (by rw[j];show Value.type "list" ≠ Value.type "tuple";decide),lO e n (by rw[j,p];decide),lO e m (by rw[j,o];decide))
theorem KJ{w:World}(a b z TI TO F C:Addr)(D:DR z TI TO F C):
  Turn prog w K (.Tuple u n p) (WX K a b) [z,TI,TO,F,C] z (Py a b z TI TO F C) where
 mem:=by simp
 obj:=λi h l c U=>by
  obtain⟨m,d,⟨x,y,f⟩,⟨o1,e1,c1,d1⟩,⟨o2,e2,c2,d2⟩⟩:=l;have G:c=z\/c=TI\/c=TO\/c=F\/c=C:=by simpa using U
  rcases G with rfl|rfl|rfl|rfl|rfl
  ·exact(_,m,λv q=>by cases q)
  ·exact(_,d,λv q=>by cases q)
  ·exact(_,f,λv q=>by cases q)
  ·exact(_,e1,λv q=>by rw[d1]at q;cases q)
  ·exact(_,e2,λv q=>by rw[d2]at q;cases q)
 keep:=λi h h' l k=>by
  obtain⟨m,d,⟨x,y,f⟩,h1,M⟩:=l;exact(k z (by simp) _ m,k TI (by simp) _ d,(x,y,k TO (by simp) _ f),h1.at λo q=>k F (by simp) o q,M.at λo q=>k C (by simp) o q)
 item:=by
  intro X hP V hK U i π s σ H E I T l Z;subst hP V hK;obtain⟨xs,ys,x,y,B,A,L,hy⟩:=Z;obtain⟨b0,YD,O,b2⟩:=I.list B;obtain⟨a9,YF,N,b1⟩:=I.list A;obtain⟨R,b4,a7⟩:=YD.get L;obtain⟨Q,b3,a0⟩:=YF.get hy;have D7:=Bb D l O.isList N.isList;obtain⟨m,d,⟨v1,v2,f⟩,t,r⟩:=id l;refine wpAny_pyNext_zip_item D7 m d f t r O.isList N.isList (x:=R) (by simpa using b4) (y:=Q) (by simpa using b3) λh1 a1 a2 a3 a4 a5 a6 S=>?_;refine(5,wpAny_letOwnedTupleGo_zip a1 λM b5 j=>?_);have J:∀{c o},s.heap.get? c=some o->s.heap.objs.size≠c:=λe=>ahB (Heap.lt_size e)
  have g2:M.get? s.heap.objs.size=some {cls:=.type "tuple",data:=.seq #[R,Q]}:=(j.2 _ (J m)).trans a5
  have kk:∀b o,b∉[z,TI,TO,F,C]->s.heap.get? b=some o->M.get? b=some o:=λb o g q=>
   (j.2 b (λe=>g (by simp[e]))).trans (S b o (λe=>g (by simp[e])) (λe=>g (by simp[e])) (λe=>g (by simp[e])) (λe=>g (by simp[e])) q)
  have a8:bH X.prog X.w (upd H s.heap.objs.size (.tup [x,y])) M s.heap.objs.size (.tup [x,y]):=
   ((by show 2<=sizeLine;decide),[R,Q],.cons a7 (.cons a0 .nil),_,g2,7,5)
  have I2:=I.turnN (h':=M) (t':=s.toks) T kk (aac _) a8;have hn:H s.heap.objs.size=none:=I.hok.fresh (aac _);refine(.ref s.heap.objs.size,_,I2,7,(_,x,y,hn,7,7,λzs Y=>by rw[I.list_inj Y B];exact L,λzs Y=>by rw[I.list_inj Y A];exact hy),
   (b5,(j.2 _ D.TIz).trans (S _ _ D.TIz D.TITO D.TIi1 D.TIi2 d),(R,Q,(j.2 _ D.TOz).trans a2),a3.extBut j.extBut D.i1z,a4.extBut j.extBut D.i2z),λb g=>?_)
  have b6:b≠s.heap.objs.size:=by
   obtain⟨o1,e1,_⟩:=t;obtain⟨o2,e2,_⟩:=r;have G:b=z\/b=TI\/b=TO\/b=F\/b=C:=by simpa using g
   rcases G with rfl|rfl|rfl|rfl|rfl
   ·exact(J m).symm
   ·exact(J d).symm
   ·exact(J f).symm
   ·exact(J e1).symm
   ·exact(J e2).symm
  rw[aG b6];exact(T b g).1
 done:=by
  intro X hP V hK U i π s σ H E I T l Z;subst hP V hK;obtain⟨xs,ys,B,A,L⟩:=Z;obtain⟨b0,YD,O,b2⟩:=I.list B;obtain⟨a9,YF,N,b1⟩:=I.list A;have D7:=Bb D l O.isList N.isList;obtain⟨m,d,⟨v1,v2,f⟩,t,r⟩:=id l;have l1:=YD.length;have l2:=YF.length;refine wpAny_pyNext_zip_end (I.ok.hd U) D7 m d f t r O.isList N.isList ?_ λh' S=>(7,I.turnedN (t':=s.toks) T λb o g q=>S b o (λe=>g (by simp[e])) (λe=>g (by simp[e])) (λe=>g (by simp[e])) (λe=>g (by simp[e])) q);rcases L with L|L
  ·exact .inl (by simp;lia)
  ·exact .inr (by simp;lia)
 self:=λ_ _ _ _ _ l h=>wpAny_pyIter_zip l.1 h
inductive Rm(K:PySem.W.Frag)(R:It->Hp->Prop)(vs:List V)(H1:Hp):Prop
 | mk (a b xs ys:_) (_:vs=[.ref a,.ref b]) (_:T6 K H1 a xs) (_:T6 K H1 b ys) (_:R (WX K a b) H1)
def Ti(K:PySem.W.Frag)(b:TA):TI:=λ a H R=>b a H (Rm K R)
theorem yS{a b:Expr}{p pos:Pos}(W:Gl X "zip")(U:X.mg "zip" = none)(S:bootBuiltins "zip" = some (.type "zip"))(Z:PA X [a,b] t)
  (T:starEach [a,b] X.env=[(pq false (eval a X.env)),(pq false (eval b X.env))]:=by rfl)(l:starEach [b] X.env=[(pq false (eval b X.env))]:=by rfl):
  PI X (.Tuple u n apos) (.Call (.Name "zip" p) [a,b] [] pos) (Ti X.K t):=by
 intro E s C H R I h;refine Call_ (dH I W U S (PyProof.Rows.callWith_type1 (T7 (Z pos E s C H _ I h) λus f ⟨vs,L,g,M,O⟩=>?_) (by rw[T,l]) (by rw[l];rfl)));obtain⟨G,F,xs,ys,e,w,v,q⟩:=O;subst e;cases M with
 |cons r o=>
  cases o with
  |cons N o=>
   cases o;cases r;cases N;obtain⟨a1,YD,Q,a3⟩:=g.list w;obtain⟨a0,YF,P,a2⟩:=g.list v;refine call_zip_2 Q.isList P.isList λh' J B A y x a4 V=>?_;refine wpAny_pyIter_zip J ?_;have I2:Inv X E C L {f with heap:=h'}:=g.kept (t':=f.toks) V;have D:DR (f.heap.objs.size+4) (f.heap.objs.size+2) (f.heap.objs.size+3) f.heap.objs.size (f.heap.objs.size+1):=by
    have k:∀d i j:Nat,i≠j->d+i≠d+j:=λd i j h=>by lia
    exact(k _ 2 4 ∅,k _ 3 4 ∅,k _ 0 4 ∅,k _ 1 4 ∅,k _ 2 3 ∅,k _ 2 0 ∅,k _ 2 1 ∅,k _ 3 0 ∅,k _ 3 1 ∅,k _ 0 1 ∅)
   refine(f.heap.objs.size+4,1,WX X.K G F,L,7,I2,KJ G F _ _ _ _ _ D,(J,B,(1,A),y,x),λc Y=>?_,q);have m:f.heap.objs.size<=c:=by
    have z:c=f.heap.objs.size+4\/c=f.heap.objs.size+2\/c=f.heap.objs.size+3\/c=f.heap.objs.size\/c=f.heap.objs.size+1:=by simpa using Y
    rcases z with rfl|rfl|rfl|rfl|rfl
    ·exact ah9 _ _
    ·exact ah9 _ _
    ·exact ah9 _ _
    ·exact aac _
    ·exact ah9 _ _
   exact g.fpOk m (g.hok.fresh m)
theorem Gp{a b:Addr}{xs ys:List V}{g:TG}{o:TS}{D:Ends}{σ:St}(d:Nat->St->Hp->Prop)(C:d 0 σ H)(A:∀i σ H,i<=min xs.length ys.length->d i σ H->T6 K H a xs/\T6 K H b ys)
  (w:∀i x y σ H p,xs[i]?=some x->ys[i]?=some y->d i σ H->H p=none->g (.ref p) σ (upd H p (.tup [x,y])) λ f l=>o {D with nx:=d (i+1),ct:=d (i+1),bk:=D.nx} f l)(hd:∀σ H,d (min xs.length ys.length) σ H->D.nx σ H):
  ∃W:Nat->Nat->St->Hp->Prop,(∃m,W 0 m σ H) /\ ∀i m σ H,W i m σ H ->
   ((WX K a b).stop i H/\D.nx σ H)\/((WX K a b).go i H /\ ∃N:St->Hp->Prop,(∀h H',N h H' -> ∃q,q<m/\W (i+1) q h H') /\ ∀x H',(WX K a b).Vo i H x H'->g x σ H' λ f l=>o {D with nx:=N,ct:=N,bk:=D.nx} f l):=by
 exists λi m σ H=>m=min xs.length ys.length-i/\i<=min xs.length ys.length/\d i σ H,(min xs.length ys.length,7,aaD _,C);rintro i m σ H ⟨rfl,B,p⟩;obtain⟨k,j⟩:=A i σ H B p;by_cases n:i<min xs.length ys.length
 ·have t:i<xs.length:=by lia
  have s:i<ys.length:=by lia
  refine .inr ((xs,ys,xs[i],ys[i],k,j,aad t,aad s),d (i+1),λ h H' r=>(min xs.length ys.length-(i+1),9,7,n,r),λx H' y=>?_);obtain⟨c,x,y,z,F,E,v,u⟩:=y;subst F E;exact w i x y σ H c (v xs k) (u ys j) p z
 ·have e:i=min xs.length ys.length:=by lia
  subst e;exact .inl ((xs,ys,k,j,9),hd σ H p)
end L2
namespace Tw
def brk:List Int->Int->List Int
 |[],u=>aaA u.toNat 0
 |d::r,u=>aaA (u-d).toNat 0++1::brk r (d+1)
def Dp:List Int->Int->Prop
 |[],u=>0<=u
 |d::r,u=>0<=d/\d<=u/\Dp r (d+1)
theorem Dp.pos:∀{l:List Int}{u:Int},Dp l u->0<=u
 |[],_,h=>h
 |_::_,_,h=>Int.le_trans h.1 h.2.1
theorem jX:∀{l:List Int}{u:Int},Dp l u->(brk l u).length=u.toNat+2*l.length
 |[],u,_=>by simp[brk]
 |d::r,u,h=>by
  have:=jX h.2.2;have b:=h.1;have a:=h.2.1;simp only[brk,aae,aba,aaB,this];lia
theorem Dh{l:List Int}{u x:Int}{t:List Int}(h:Dp l u)(e:brk l u=x::t):
  (x=0/\1<=u/\t=brk l (u-1)/\Dp l (u-1)) \/ ∃r,l=u::r/\x=1/\t=brk r (u+1)/\Dp r (u+1):=by
 cases l with
 |nil=>
  have i:0<=u:=h;rcases aiJ 0 u with z|z
  ·refine .inl ?_;have c:u.toNat=(u-1).toNat+1:=by lia
   simp only[brk]at e ⊢;rw[c,agy]at e;injection e with b a
   exact(b.symm,z,a.symm,show 0<=u-1 by lia)
  ·have:u.toNat=0:=by lia
   simp only[brk]at e;rw[this]at e;cases e
 |cons d r=>
  obtain⟨g,j,f⟩:=h;rcases aiJ d u with z|z
  ·refine .inl ?_;have c:(u-d).toNat=(u-1-d).toNat+1:=by lia
   simp only[brk]at e ⊢;rw[c,agy,agM]at e;injection e with b a
   exact(b.symm,9,a.symm,g,9,f)
  ·have:u=d:=by lia
   subst this;refine .inr (r,7,8);simp only[brk]at e;rw[Int.sub_self]at e;injection e with b a
   exact(b.symm,a.symm,f)
theorem Og{l:List Int}{u:Int}(h:Dp l u)(e:brk l u=[]):l=[]/\u=0:=by
 have:=jX h;rw[e]at this;have a:=h.pos;cases l with
 |nil=>
  exists 7;have:0=u.toNat+2*0:=this;lia
 |cons d r=>
  rw[aaB]at this;have:0=u.toNat+2*(r.length+1):=this;lia
def gR(a:List Int):Prop:=a[0]?=some 0 /\ ∀i x y,a[i]?=some x->a[i+1]?=some y->1<=y/\y<=x+1
theorem PN:∀(r:List Int) (a:Int),(∀(i:Nat) (x y:Int),(a::r)[i]?=some x->(a::r)[i+1]?=some y->1<=y/\y<=x+1)->0<=a->Dp r (a+1)
 |[],a,_,b=>by show 0<=a+1;lia
 |d::r,a,h,b=>by
  have f:=h 0 a d rfl rfl;exact(9,f.2,PN r d (λi x y e c=>h (i+1) x y e c) ⋯)
theorem gR.dp(h:gR d):Dp d 0:=by
 cases d with
 |nil=>exact absurd h.1 (by simp)
 |cons a r=>
  have:a=0:=by
   have:=h.1;exact aax this
  subst this;exact(4,4,PN r 0 h.2 ∅)
theorem gR.one(h:gR d){i:Nat}(b:0<i)(hd:d[i]?=some m):1<=m:=by
 obtain⟨j,rfl⟩:∃j,i=j+1:=(i-1,9);have a:=(aab.mp hd).1;have:=h.2 j d[j] m (aad ⋯) hd;exact this.1
end Tw
namespace L2
open PySem.Spec PyProof.Rows
section
variable(P:Program)(w:World)
end
section
variable{P:Program}{o:HO}
end
section
variable{P:Program}{x e:Addr}{o':HO}
end
section
variable{fs fs' ex ex':List Addr}{H1 H2:Hp}{h1 h2:Heap}{x e:Addr}{o:HO}
end
section
variable{σ:List (Option V)}
end
section
variable{a:Expr}{pos:Pos}
variable{tA Xv:TT}{rest:List Expr}
end
section
variable{xs ys:List V}
end
section
variable{rest:List Stmt}{t u:TS}{pos:Pos}
end
section
variable{pos:Pos}
end
section
variable{pos:Pos}
end
section
variable{a c:Expr}{tc:TE}{pos:Pos}
end
section
variable{a c:Expr}{tc:TE}{pos:Pos}
end
section
variable{x:Addr}{mA:Str->Option Value}{v:Value}
end
section
variable{P:Program}{fs fs':List (Str×V)}
end
section
variable{fs:List (Str×V)}{f:Str}{v:V}
end
section
variable{value:Expr}{f:Str}{pos pos' tpos:Pos}{tv:TE}
end
section
variable{Q:Value->Shared->Prop}{c:Value}{b:Bool}
end
section
variable{es:List Expr}{pos:Pos}
end
section
variable{s':Shared}
end
section
variable{k:Nat}{VM:List V}{ds:List Value}{E:XK}{m:Str}{pos:Pos}{es:List Expr}
end
section
variable{k:Nat}{ks:List Str}{E:XK}{m:Str}{pos kpos:Pos}{es:List Expr}{kws:List Keyword}{tk:TA}{nm:Option Str}
variable{g:List Value->List Value->List Value}{gV:List V->List V->List V}
end
section
variable{pos:Pos}{es:List Expr}{id T:String}{r:List V->Hp->VK->Prop}
end
section
variable{κ:Type}[DecidableEq κ]
def gY(a:List (κ×V))(k:κ):Option V:=(a.find? λb=>decide (b.1=k)).map (·.2)
def putK(a:List (κ×V))(k:κ)(v:V):List (κ×V):=
 if (a.any λb=>decide (b.1=k))=true then a.map (λb=>if b.1=k then (pq b.1 v)else b)else a++[(pq k v)]
def Px(a:List (κ×V))(k:κ):List (κ×V):=a.filter λb=>decide (b.1≠k)
theorem cY{p:κ×V}{r:List (κ×V)}{k:κ}(e:p.1=k):gY (p::r) k=some p.2:=by simp[gY,ahI,e]
theorem dm{p:κ×V}{r:List (κ×V)}{k:κ}(e:¬p.1=k):gY (p::r) k=gY r k:=by simp[gY,ahI,e]
theorem jM(k:κ):∀a:List (κ×V),(a.any λb=>decide (b.1=k))=(gY a k).isSome
 |[]=>rfl
 |p::r=>by
  rw[ahV];by_cases e:p.1=k
  ·simp only[cY e,decide_eq_true e,ajB,Option.isSome_some]
  ·rw[dm e,decide_eq_false e,aju];exact jM k r
theorem BK(k j:κ)(y:V):∀a:List (κ×V),gY (a.map λb=>if b.1=k then (pq b.1 y)else b) j=(gY a j).map λx=>if j=k then y else x
 |[]=>rfl
 |p::r=>by
  have c:=BK k j y r;rw[aar];by_cases h:p.1=k
  ·rw[if_pos h];by_cases e:p.1=j
   ·rw[cY (p:=(pq p.1 y)) e,cY e,ah0,if_pos (e.symm.trans h)]
   ·rw[dm (p:=(pq p.1 y)) e,dm e,c]
  ·rw[if_neg h];by_cases e:p.1=j
   ·rw[cY (p:=p) e,cY e,ah0,if_neg (λz=>h (e.trans z))]
   ·rw[dm (p:=p) e,dm e,c]
theorem yL(k j:κ)(y:V):∀a:List (κ×V),gY a k=none->gY (a++[(pq k y)]) j=if j=k then some y else gY a j
 |[],_=>by
  by_cases e:k=j
  ·rw[if_pos e.symm];exact cY (p:=(pq k y)) e
  ·rw[if_neg (λz=>e z.symm)];exact dm (p:=(pq k y)) e
 |p::r,b=>by
  rw[agM];have c:¬p.1=k:=λz=>by rw[cY z]at b;cases b
  rw[dm c]at b;have d:=yL k j y r b;by_cases e:p.1=j
  ·rw[cY e,cY e,if_neg (λz=>c (e.trans z))]
  ·rw[dm e,dm e,d]
theorem Aj(b:List (κ×V))(k j:κ)(y:V):gY (putK b k y) j=if j=k then some y else gY b j:=by
 unfold putK;by_cases a:(b.any λc=>decide (c.1=k))=true
 ·rw[if_pos a,BK];rw[jM]at a;by_cases e:j=k
  ·obtain⟨x,d⟩:=aiw.mp a;rw[if_pos e,e,d,ah0,if_pos rfl]
  ·rw[if_neg e];cases gY b j with
   |none=>rfl
   |some x=>rw[ah0,if_neg e]
 ·rw[if_neg a];refine yL k j y b ?_;rw[jM]at a;cases q:gY b k with
  |none=>rfl
  |some x=>rw[q]at a;exact(a rfl).elim
theorem rT(a:List (κ×V))(k:κ)(v:V):(putK a k v).length<=a.length+1:=by
 unfold putK;split
 ·rw[aaa];lia
 ·rw[aae,aaB,ah1];lia
theorem KY{a:List (κ×V)}{k:κ}(v:V)(h:gY a k=none):putK a k v=a++[(pq k v)]:=by
 unfold putK;rw[jM,h];exact if_neg ∅
theorem v8.isSome_eq{o:Option V}{u:Option Value}(r:v8 o u):o.isSome=u.isSome:=by
 cases o with
 |none=>cases u with
  |none=>rfl
  |some _=>exact(show False from r).elim
 |some _=>cases u with
  |none=>exact(show False from r).elim
  |some _=>rfl
theorem KV.val{a:List (κ×V)}{f:List (κ×Value)}(r:KV a f)(k:κ):v8 (gY a k) (valueAt f k):=by
 unfold KV at r
 induction r with
 |nil=>exact True.intro
 |@cons p q l c h t i=>
  obtain⟨g,j⟩:=h;by_cases e:p.1=k
  ·have d:q.1=k:=g.symm.trans e;have b:valueAt (q::c) k=some q.2:=by simp[valueAt,ahI,d]
   rw[cY e,b];exact j
  ·have d:¬q.1=k:=λz=>e (g.trans z);have b:valueAt (q::c) k=valueAt c k:=by simp[valueAt,ahI,d]
   rw[dm e,b];exact i
theorem KV.any{a:List (κ×V)}{c:List (κ×Value)}(r:KV a c)(k:κ):(a.any λb=>decide (b.1=k))=c.any λb=>decide (b.1=k):=by
 unfold KV at r
 induction r with
 |nil=>rfl
 |cons h t d=>rw[ahV,ahV,d,h.1]
theorem KV.repl{b:List (κ×V)}{d:List (κ×Value)}(r:KV b d)(k:κ){y:V}{u:Value}(f:RelV y u):
  KV (b.map λa=>if a.1=k then (pq a.1 y)else a) (d.map λa=>if a.1=k then (pq a.1 u)else a):=by
 unfold KV at r ⊢
 induction r with
 |nil=>exact .nil
 |@cons p q l j h t g=>
  rw[aar,aar];refine .cons ?_ g;obtain⟨c,i⟩:=h;by_cases e:p.1=k
  ·rw[if_pos e,if_pos (c.symm.trans e)];exact(c,f)
  ·rw[if_neg e,if_neg (λz=>e (c.trans z))];exact(c,i)
theorem KV.put{a:List (κ×V)}{b:List (κ×Value)}(r:KV a b)(k:κ){y:V}{u:Value}(c:RelV y u):KV (putK a k y) (stored b k u):=by
 unfold putK stored;rw[r.any k];by_cases e:(b.any λd=>decide (d.1=k))=true
 ·rw[if_pos e,if_pos e];exact r.repl k c
 ·rw[if_neg e,if_neg e];exact Paired.snoc r (7,c)
theorem KV.drop{c:List (κ×V)}{f:List (κ×Value)}(r:KV c f)(k:κ):KV (Px c k) (without f k):=by
 unfold KV at r ⊢;unfold Px without
 induction r with
 |nil=>exact .nil
 |@cons p q m l h t g=>
  obtain⟨d,i⟩:=h;rw[agN,agN];by_cases e:p.1=k
  ·have a:¬decide (p.1≠k)=true:=by simp[e]
   have b:¬decide (q.1≠k)=true:=by simp[d.symm.trans e]
   rw[if_neg a,if_neg b];exact g
  ·have j:¬q.1=k:=λz=>e (d.trans z);have a:decide (p.1≠k)=true:=by simp[e]
   have b:decide (q.1≠k)=true:=by simp[j]
   rw[if_pos a,if_pos b];exact .cons (d,i) g
theorem KV.length{a:List (κ×V)}{b:List (κ×Value)}(r:KV a b):a.length=b.length:=Paired.length r
end
theorem G9{w:World}{k:Key}{u:Value}(r:RelV (kV k) u):(dC prog w).is k u=true:=by
 cases k with
 |inl i=>obtain⟨t,e⟩:=(show ∃t,u=Value.int i t from r);subst e;exact Bw prog w i t
 |inr x=>obtain⟨t,e⟩:=(show ∃t,u=Value.str x t from r);subst e;exact Dq prog w x t
theorem yu{P:Program}{w:World}:∀{a:List Key}{b:List Value},Vals (a.map kV) b->ItemsAre (dC P w) a b
 |[],_,r=>by rw[air]at r;cases r;exact .nil
 |k::a,_,r=>by
  rw[aar]at r;cases r with
  |cons h t=>exact .cons (G9 h) (yu t)
abbrev KT(H:Hp):List (List Key×V)->List (List Key×Addr×Value)->Prop:=Paired λp q=>p.1=q.1/\H q.2.1=some (.tup (p.1.map kV))/\RelV p.2 q.2.2
theorem KT.val{a:List (List Key×V)}{xs:List (List Key×Addr×Value)}(r:KT H a xs)(k:List Key):v8 (gY a k) ((atKey xs k).map (·.2)):=by
 induction r with
 |nil=>exact True.intro
 |@cons p q j c h t g=>
  obtain⟨f,_,i⟩:=h;by_cases e:p.1=k
  ·have d:q.1=k:=f.symm.trans e;have b:atKey (q::c) k=some q.2:=by simp[atKey,ahI,d]
   rw[cY e,b];exact i
  ·have d:¬q.1=k:=λz=>e (f.trans z);have b:atKey (q::c) k=atKey c k:=by simp[atKey,ahI,d]
   rw[dm e,b];exact g
theorem KT.repl{a:List (List Key×V)}{xs:List (List Key×Addr×Value)}(r:KT H a xs)(k:List Key){y:V}{u:Value}(f:RelV y u):
  KT H (a.map λc=>if c.1=k then (pq c.1 y)else c) (xs.map (putAt k u)):=by
 induction r with
 |nil=>exact .nil
 |@cons p q l j h t g=>
  rw[aar,aar];refine .cons ?_ g;obtain⟨b,d,i⟩:=h;unfold putAt;by_cases e:p.1=k
  ·rw[if_pos e,if_pos (b.symm.trans e)];exact(b,d,f)
  ·rw[if_neg e,if_neg (λz=>e (b.trans z))];exact(b,d,i)
theorem KT.put{a:List (List Key×V)}{xs:List (List Key×Addr×Value)}(r:KT H a xs)(k:List Key){b:Addr}{y:V}{u:Value}(f:H b=some (.tup (k.map kV)))(c:RelV y u):
  KT H (putK a k y) (storedH xs k b u):=by
 have e:(a.any λd=>decide (d.1=k))=(atKey xs k).isSome:=by
  rw[jM,(r.val k).isSome_eq,ai5]
 unfold putK storedH;rw[e];by_cases q:(atKey xs k).isSome=true
 ·rw[if_pos q,if_pos q];exact r.repl k c
 ·rw[if_neg q,if_neg q];exact Paired.snoc r (7,f,c)
theorem KT.keeps{H':Hp}{a:List (List Key×V)}{xs:List (List Key×Addr×Value)}(r:KT H a xs)(ht:∀b ys,H b=some (.tup ys)->H' b=some (.tup ys)):KT H' a xs:=
 Paired.mapP r λ_ _ z=>(z.1,ht _ _ z.2.1,z.2.2)
section
variable{P:Program}
theorem PP{u:HO}(b:Uj P w H h)(e:Rd H a u):bH P w H h a u:=e.ok b
theorem G7{b:List (Key×V)}(d:Uj P w H h)(e:Rd H a (.dK b)):b.length<=sizeLine/\(a==sysModules)=false /\ ∃c,KV b c/\h.DictOf (dC P w) a c:=
 show bH P w H h a (.dK b)from PP d e
theorem Su{b:List (Key×V)}(d:Uj P w H h)(e:H a=some (.dK b)):b.length<=sizeLine/\(a==sysModules)=false /\ ∃c,KV b c/\h.DictOf (dC P w) a c:=G7 d (.inl e)
theorem zy{b:List Key}(d:Uj P w H h)(e:H a=some (.tup (b.map kV))):(tupleKind (dC P w)).is h b a:=by
 obtain⟨_,c,r,o,i,g,n,f⟩:=(show bH P w H h a (.tup (b.map kV))from d a _ e);exact(o,c.toArray,n,i,g,f,by simpa using yu r)
theorem Gy{b:List (List Key×V)}(f:Uj P w H h)(e:Rd H a (.dT b)):b.length<=sizeLine/\(a==sysModules)=false /\
  ∃xs,KT H b xs/\h.DictOfH (tupleKind (dC P w)) a xs:=by
 obtain⟨z,y,xs,r,o,v,A,u,s,n,k,j⟩:=(show bH P w H h a (.dT b)from PP f e);refine(z,y,xs,r,o,v,A,u,s,n,k,λx c=>?_,j);have d:∀{l:List (List Key×V)} {m:List (List Key×Addr×Value)},KT H l m -> ∀x∈m,(tupleKind (dC P w)).is h x.1 x.2.1:=by
  intro l m q
  induction q with
  |nil=>intro x c;exact nomatch c
  |@cons p q C B g t i=>
   intro x c;rcases aas.mp c with e|c
   ·subst e;exact zy f (by rw[<-g.1];exact g.2.1)
   ·exact i x c
 exact d r x c
theorem RK{b:List (List Key×V)}(c:Uj P w H h)(e:H a=some (.dT b)):b.length<=sizeLine/\(a==sysModules)=false /\
  ∃xs,KT H b xs/\h.DictOfH (tupleKind (dC P w)) a xs:=Gy c (.inl e)
end
def yX(H:Hp)(a:Addr)(y:V)(r:Option V):Prop:=
 (∃c k,Rd H a (.dK c)/\y=kV k/\r=gY c k) \/ ∃c k b,Rd H a (.dT c)/\y=.ref b/\H b=some (.tup (k.map kV))/\r=gY c k
def SJ(H:Hp)(a:Addr)(y v:V)(H':Hp):Prop:=
 (∃c k,H a=some (.dK c)/\y=kV k/\c.length<sizeLine/\H'=upd H a (.dK (putK c k v))) \/
 ∃c k b,H a=some (.dT c)/\y=.ref b/\H b=some (.tup (k.map kV))/\c.length<sizeLine/\H'=upd H a (.dT (putK c k v))
theorem yX.k{H:Hp}{a:Addr}{b:List (Key×V)}{k:Key}(e:H a=some (.dK b)):yX H a (kV k) (gY b k):=.inl (b,k,.inl e,7,7)
section
variable{y v:V}{u r:Value}{o:Option V}
theorem Inv.big(I:Inv X π σ H s):sysModules<s.heap.objs.size:=by
 have h:mainGlobals<s.heap.objs.size:=(I.mod.glob.keeps I.bk).lt;exact ajd ∅ h
theorem Hw{Q:Value->Shared->Prop}(D:A.units+1<cLine)(I:Inv X π σ H s)(g:yX H a y (some v))(x:RelV y u)(h:∀d t,Inv X π σ H t->RelV v d->Q d t):
  wpAny (model X.prog X.w) A (getItem (.ref a) u) Q E s:=by
 rcases g with ⟨n,k,e,i,l⟩|⟨n,k,b,e,i,G,l⟩
 ·subst i;obtain⟨z,hd,C,c,j⟩:=G7 I.hok e;obtain⟨d,f,m⟩:=v8.some_of (v:=v) (o:=valueAt C k) (by rw[l];exact c.val k);exact wpAny_getItem_of (G9 x) j.mapOf f (h d _ (I.tok _) m)
 ·subst i;cases (show u=Value.ref b from x);obtain⟨z,hd,B,c,j⟩:=Gy I.hok e;obtain⟨d,f,m⟩:=v8.some_of (v:=v) (o:=(atKey B k).map (·.2)) (by rw[l];exact c.val k);obtain⟨p,F,q⟩:=aaM.mp f;refine wpAny_getItem_heap (tupleKind_room_in1 D) (zy I.hok G) j F ?_;rw[q];exact h d _ (I.tok _) m
theorem Tu{Q:Value->Shared->Prop}(n:A.units+1<cLine)(I:Inv X π σ H s)(g:yX H a y o)(m:RelV y u)(h:∀j,Inv X π σ H j->Q (.bool o.isSome) j):
  wpAny (model X.prog X.w) A (compareOp .In u (.ref a)) Q E s:=by
 rcases g with ⟨i,k,e,d,l⟩|⟨i,k,b,e,d,p,l⟩
 ·subst d;obtain⟨z,hd,x,c,f⟩:=G7 I.hok e;refine wpAny_in_of (G9 m) hd f.mapOf ?_;rw[<-(c.val k).isSome_eq,<-l];exact h _ (I.tok _)
 ·subst d;cases (show u=Value.ref b from m);obtain⟨z,hd,t,c,f⟩:=Gy I.hok e;refine wpAny_in_heap (tupleKind_room_in1 n) (zy I.hok p) hd f ?_;have q:=(c.val k).isSome_eq;rw[ai5]at q;rw[<-q,<-l];exact h _ (I.tok _)
theorem Gm{h':Heap}{t':Nat}{c:HO}(I:Inv X π σ H s)(f:Xo (H a))(g:Heap.SameBut a s.heap h')(h:∃q,h'.get? a=some q)(d:bH X.prog X.w (upd H a c) h' a c):
  Inv X π σ (upd H a c) {s with heap:=h',toks:=t'}:=
 I.write (x:=a) (e:=a) f (.inl rfl) (λb q i z=>(g.2 b i).trans z) h d
theorem Qm{w:World}{H':Hp}{h':Heap}{b:List (Key×V)}{c:List (Key×Value)}(z:b.length<=sizeLine)(hd:(a==sysModules)=false)(d:KV b c)(dd:h'.DictOf (dC prog w) a c):
  bH prog w H' h' a (.dK b):=(z,hd,c,d,dd)
theorem Hg{H':Hp}{Q:Unit->Shared->Prop}(N:A.units+1<cLine)(I:Inv X π σ H s)(g:SJ H a y v H')(D:RelV y u)(F:RelV v r)(h:∀C,Inv X π σ H' C->Q () C):
  wpAny (model X.prog X.w) A (setItem (.ref a) u r) Q E s:=by
 rcases g with ⟨f,k,e,t,l,x⟩|⟨f,k,b,e,t,K,l,x⟩
 ·subst t x;obtain⟨z,hd,M,d,B⟩:=Su I.hok e;have m:M.length<=sizeLine:=by rw[<-d.length];exact z
  have p:(putK f k v).length<=sizeLine:=by have:=rT f k v;lia
  refine wpAny_setItem_pairs (hsz:=m) (G9 D) B λG j n=>h _ ?_;have O:∃q,G.get? a=some q:=let ⟨q,_,_,i,_⟩:=j;(q,i);exact Gm I (by rw[e];exact True.intro) n O (Qm p hd (d.put k F) j)
 ·subst t x;cases (show u=Value.ref b from D);obtain⟨z,hd,L,d,B⟩:=RK I.hok e;have m:L.length<=sizeLine:=by rw[<-Paired.length d];exact z
  have p:(putK f k v).length<=sizeLine:=by have:=rT f k v;lia
  refine wpAny_setItem_heap (hsz:=m) (tupleKind_room_in1 N) (zy I.hok K) B λG j n=>h _ ?_;obtain⟨q,U,V,i,T,S,R,_,P⟩:=j;refine Gm I (by rw[e];exact True.intro) n (q,i) (p,hd,_,(d.put k K F).keeps λc W J=>?_,q,U,V,i,T,S,R,P);rw[aG (RM J e (λz=>nomatch z))];exact J
end
section
variable{kvs:List (Key×V)}{k:Key}{u:Value}
end
def Ru(i:Expr):Prop:=∀a b,subscripted i false a b=operate [a,b] (getItem a b)
theorem Nk{prog:Program}{w:World}{A:Around}{E:Value->Shared->Prop}{s:Shared}{j:Env}{pos:Pos}{T id:String}{Q:Value->Shared->Prop}
  (p:typeLookup (.type T) "__getitem__" = pure (some (.builtin id)))(n:Ru b)
  (h:wpAny (model prog w) A (eval e j) (λo f=>wpAny (model prog w) A (eval b j) (λi a=>a.TypeIs o T/\wpAny (model prog w) A (getItem o i) Q E a) E f) E s):
  wpAny (model prog w) A (eval (.Subscript e b pos) j) Q E s:=by
 refine Subscript_ (wpAny_mono h (λo f l=>wpAny_mono l (λi a c=>?_) λ_ _ x=>x) λ_ _ x=>x);obtain⟨m,c⟩:=c;unfold subscriptTail;refine wpAny_bind ?_;rw[getitemInPython_of_ne m.not_modules];refine wpAny_bind (wpAny_specialOf m p ?_);have g:wpAny (model prog w) A (subscripted b false o i) (λr d=>wpAny (model prog w) A (letTemporaryGo e o r >>= λ_=>pure r) Q E d) E a:=by
  rw[n o i];exact wpAny_operating (wpAny_mono c (λr d k=>wpAny_bind (wpAny_letTemporaryGo (wpAny_pure k))) λ_ _ x=>x)
 first
  | exact wpAny_pure (wpAny_bind g)
  | exact wpAny_bind (wpAny_pure (wpAny_bind g))
  | exact wpAny_bind g
theorem Cj{X:Cx}{σ:St}{s:Shared}{a:Addr}{y:V}{o:Option V}(I:Inv X π σ H s)(g:yX H a y o):s.TypeIs (.ref a) "dict":=by
 rcases g with ⟨d,k,e,_,_⟩|⟨d,k,b,e,_,_,_⟩
 ·obtain⟨_,_,h,_,c⟩:=G7 I.hok e;exact c.typeIs
 ·obtain⟨_,_,f,_,c⟩:=Gy I.hok e;exact c.typeIs
inductive OD(Q:VK)(x:V)(y:V)(H2:Hp):Prop
 | mk (a v:_) (_:x=.ref a) (_:yX H2 a y (some v)) (_:Q v H2)
def Mz(a:TE)(σ:St)(Q:VK):VK:=λx b=>a σ b (OD Q x)
def RB(c b:TE):TE:=λ a H Q=>c a H (Mz b a Q)
inductive QB(Q:VK)(y:V)(x:V)(H2:Hp):Prop
 | mk (a o:_) (_:x=.ref a) (_:yX H2 a y o) (_:Q (.bl o.isSome) H2)
def Nb(a:TE)(σ:St)(Q:VK):VK:=λy b=>a σ b (QB Q y)
def TJ(b c:TE):TE:=λ a H Q=>b a H (Nb c a Q)
inductive O8(D:Ends)(σ:St)(v:V)(x:V)(y:V)(H3:Hp):Prop
 | mk (a H4:_) (_:x=.ref a) (_:SJ H3 a y v H4) (_:D.nx σ H4)
def Lr(a:TE)(D:Ends)(σ:St)(v:V):VK:=λx b=>a σ b (O8 D σ v x)
def Lb(b:TE)(a:TE)(D:Ends)(σ:St):VK:=λv c=>b σ c (Lr a D σ v)
def Ry(d b c:TE):TS:=λD a H=>c a H (Lb d b D a)
section
variable{i value:Expr}{pos pos' tpos:Pos}{td ty tv:TE}
theorem Pn(n:X.A.units+1<cLine)(q:PE X o td)(r:PE X i ty)(p:Ru i):PE X (.Subscript o i pos) (RB td ty):=by
 intro c s b H Q I h;refine Nk PySem.F.slot_dict_getitem.lookup p (T7 (q c s b H _ I h) λu f ⟨x,D,B,k,m⟩=>T7 (r c f b D _ B m) λK J ⟨y,C,d,j,a,v,t,g,l⟩=>?_);subst t;obtain rfl:u=Value.ref a:=k;exact(Cj d g,Hw n d g j λE G z w=>(v,C,z,w,l))
theorem Rh(n:X.A.units+1<cLine)(q:PE X i ty)(p:PE X o td):PC X .In i o (TJ ty td):=by
 intro c s b H Q I h;refine T7 (q c s b H _ I h) λE d ⟨y,B,w,f,l⟩=>T7 (p c d b B _ w l) λu D ⟨x,z,v,j,a,m,r,g,k⟩=>?_;subst r;obtain rfl:u=Value.ref a:=j;exact Tu n v g f λC t=>(.bl m.isSome,z,t,7,k)
theorem GZ(t:X.A.units+1<cLine)(z:PE X o td)(B:PE X i ty)(q:PE X value tv)(w:swapsWith value (some (.Subscript o i pos')) pos.line X.env=pure false):
  PS X (.Assign [.Subscript o i pos'] value pos) (Ry td ty tv):=by
 intro c s b H D I h;refine wpAny_Assign_Subscript (T7 (q c s b H _ I h) λr f ⟨v,M,J,l,p⟩=>T7 (z c f b M _ J p) λu d ⟨x,L,G,k,n⟩=>T7 (B c d b L _ G n) λP O ⟨y,Q,F,j,a,K,C,g,m⟩=>?_) w;subst C;obtain rfl:u=Value.ref a:=k;exact Hg t F g j l λN E=>(b,K,E,m)
end
theorem Lk{w:World}(h:Heap)(a:sysModules<h.objs.size):bH prog w H (h.push {cls:=.type "dict",data:=.dict #[]}) h.objs.size (.dK []):=
 (aaD _,beq_eq_false_iff_ne.mpr (agG (aan a)),[],.nil,Heap.DictOf.new h)
def Rp:TE:=λ_ H Q=>∀p,H p=none->Q (.ref p) (upd H p (.dK []))
section
variable{pos:Pos}
theorem CP:PE X (.Dict [] [] pos) Rp:=λ c s b H Q I h=>
 wpAny_Dict_empty (.ref s.heap.objs.size,_,I.laid (a:=s.heap.objs.size) (o:=.dK []) (t':=s.toks) (λ_ _ q=>Heap.get?_push_of_some _ q) (aac _) (Lk s.heap I.big),7,h _ (I.hok.fresh (aac _)))
end
structure M1(X:Cx)(o:Expr)(m:Str)(apos:Pos)(e:Expr)(cpos:Pos):Prop where
 base:attributeBase o m X.env (eval o X.env)=eval o X.env
 few:((backTo cpos (starEach [e] X.env)).all (λx=>!x.1)&&(backToKw cpos (keywordEach [] X.env)).all (λx=>x.1.isSome)
  && decide (([e]:List Expr).length+([]:List Keyword).length+(if ([]:List Keyword).isEmpty then 0 else 1)<30))=true
 line:(apos.endLine==cpos.line)=true
 trees:backTo cpos (starEach [e] X.env)=[(pq false (eval e X.env))]
section
variable{y d:V}{u r:Value}{o:Option V}
end
section
variable{f:Expr}{cpos:Pos}{td ty tx:TE}
end
section
variable{kvs:List (Key×V)}
end
section
variable{y:V}{u:Value}
end
end L2
namespace Yy
open PySem.W PySem.Calls PyProof.Rows
section
variable{K:Frag}
end
end Yy
namespace L2
open PySem.Spec PyProof.Rows
section
variable{P:Program}
end
section
variable{κ:Type}[DecidableEq κ]
end
section
variable{rest:List Stmt}{t u:TS}
theorem eQ{x:Str}{g:Stmt}{ps:List Str}{f:Addr}{fd:FuncData}{j k:Nat}{E:XK}{e:Expr}{a:List Expr}{p pos:Pos}{t:TA}(D:Tw.Df X.K X.mg x g ps f fd)(F:aV X.prog X.w X.K X.mg X.base CX j f fd ps sp)(l:j<=k)(i:dX k X.A)(h:nR CX X E)(n:Gl X x)
  (q:PA X (e::a) t)(d:(x==("__debug__" : Str))=false:=by decide)(o:starEach (e::a) X.env=(pq false (eval e X.env))::starEach a X.env:=by rfl)(c:(backTo pos (starEach a X.env)).any (·.1)=false:=by rfl):
  PE X (.Call (.Name x p) (e::a) [] pos) (KD sp [] E t):=Nm (F.mono l) i n D.m D.F.kp D.b .nil h q d o c
theorem aH{x:Str}{d:Stmt}{ps:List Str}{f:Addr}{fd:FuncData}{j k:Nat}{e:Expr}{a:List Expr}{p pos:Pos}{t:TA}(D:Tw.Df X.K X.mg x d ps f fd)(F:aV X.prog X.w X.K X.mg X.base T9 j f fd ps sp)(g:dX k X.A)
  (m:PA X (e::a) t)(h:j<=k:=by decide)(i:Gl X x:=by rfl)(c:(x==("__debug__" : Str))=false:=by decide)(l:starEach (e::a) X.env=(pq false (eval e X.env))::starEach a X.env:=by rfl)(b:(backTo pos (starEach a X.env)).any (·.1)=false:=by rfl):
  PE X (.Call (.Name x p) (e::a) [] pos) (KD sp [] E0 t):=eQ D F h g Rz i m c l b
end
end L2
namespace Tw
theorem mC{k:Nat}{b:Int}(h:d[k]?=some b):(d.take (k+1)).sum=(d.take k).sum+b:=by
 rw[abH,h];simp[ahZ]
theorem lW{a:List Int}(h:aZ a)(i:Nat):∀j:Nat,i<=j->(a.take i).sum<=(a.take j).sum
 |0,c=>by
  have:i=0:=by lia
  subst this;exact ajl _
 |j+1,c=>by
  by_cases e:i=j+1
  ·subst e;exact ajl _
  have:=lW h i j ⋯;cases q:a[j]? with
  |none=>
   rw[abH,q];simp;exact this
  |some b=>
   rw[mC q];have:=h b (aah q);lia
theorem BW:∀l:List Int,blk (l.map λx=>1-x)=2^l.length-1-blk l
 |[]=>by simp[blk]
 |x::l=>by
  rw[aar,aaB,aja];simp only[blk];rw[BW l];lia
theorem Ao:∀(l:List Int) (k:Nat),k<=l.length->((l.map λx=>1-x).take k).sum=k-(l.take k).sum
 |_,0,_=>by simp
 |[],k+1,h=>by simp at h
 |x::l,k+1,h=>by
  have:=Ao l k (by simpa using h);rw[aar,ahr,ahr,ahq,ahq,this];lia
theorem turned{b:Int}(j:0<=b)(i:b<2^32):(∀k:Nat,k<32->bit (2^32-1-b) k=1-bit b k) /\ ∀k:Nat,k<=32->ones (2^32-1-b) k=k-ones b k:=by
 have c:=Be b 32;have e:=Av 32 b j i;have h:=gF b 32;have ht:aZ ((bits b 32).map λx=>1-x):=λx g=>by
  obtain⟨y,f,rfl⟩:=aaZ.mp g;have:=c y f;lia
 have d:blk ((bits b 32).map λx=>1-x)=2^32-1-b:=by rw[BW,h,e]
 refine(λk a=>?_,λk a=>?_)
 ·rw[<-d,ug ht,aag,uQ a];rfl
 ·rw[<-d,lZ ht,Ao _ _ ⋯,<-lZ c,e]
theorem Mg(b t:Int)(ht:0<=t):∀n:Nat,t<ones b n -> ∃k,k<n/\bit b k=1/\ones b k=t
 |0,h=>by
  rw[rz]at h;lia
 |n+1,h=>by
  by_cases c:t<ones b n
  ·obtain⟨k,e,a⟩:=Mg b t ht n c;exact(k,9,a)
  ·rw[ig]at h;have d:bit b n=0\/bit b n=1:=by
    unfold bit;lia
   exact(n,9,9,9)
theorem nG:∀(l:List Int) (u:Int),aZ (brk l u)
 |[],u=>λb a=>.inl (ahj a)
 |d::r,u=>λb a=>by
  simp only[brk,aaW,aas]at a;rcases a with a|rfl|a
  ·exact .inl (ahj a)
  ·exact .inr rfl
  ·exact nG r _ b a
theorem K9{k:Nat}{b:Int}(h:d[k]?=some b):(d.take (k+1)).sum=(d.take k).sum+b:=by
 rw[abH,h];simp
theorem zu{a:List Int}(i:gR a):∀k:Nat,k<=(brk a 0).length -> ∃b:Nat,b<=a.length/\b<=k/\((brk a 0).take k).sum=b/\(brk a 0).drop k=brk (a.drop b) (ht (brk a 0) k)/\Dp (a.drop b) (ht (brk a 0) k)
 |0,_=>(0,aaD _,aac _,7,by rw[gh];rfl,by rw[gh];exact i.dp)
 |k+1,s=>by
  obtain⟨b,p,u,t,j,o⟩:=zu i k ⋯;have d:(brk a 0)[k]?=some (brk a 0)[k]:=aad ⋯;have q:(brk a 0).drop k=(brk a 0)[k]::(brk a 0).drop (k+1):=af4 ⋯;rw[q]at j;have c:=pM d;have h:=K9 d;rcases Dh o j.symm with ⟨z,_,e,f⟩|⟨r,n,z,e,f⟩
  ·rw[z]at c h;exists b,p,9,9,?_
   ·rw[c,e];congr 1;lia
   ·rw[c,show ht (brk a 0) k+2*0-1=ht (brk a 0) k-1 from by lia];exact f
  ·rw[z]at c h;have g:b<a.length:=by
    have:=congrArg ahp n;rw[abo,aaB]at this;lia
   have m:a.drop (b+1)=r:=by
    have:a.drop (b+1)=(a.drop b).drop 1:=by rw[ah5]
    rw[this,n];rfl
   have l:ht (brk a 0) k+2*1-1=ht (brk a 0) k+1:=by lia
   exists b+1,g,9,9,?_
   ·rw[c,l,m];exact e
   ·rw[c,l,m];exact f
theorem mV(a:gR d):(brk d 0).length=2*d.length:=by
 rw[jX a.dp];show 0+_=_;lia
theorem Br(f:gR d){k:Nat}(o:k<(brk d 0).length):((brk d 0)[k]?=some 0/\0<ht (brk d 0) k)\/((brk d 0)[k]?=some 1 /\ ∃a:Nat,((brk d 0).take k).sum=a/\a<d.length/\d[a]?=some (ht (brk d 0) k)):=by
 obtain⟨a,q,p,h,c,g⟩:=zu f k ⋯;have b:(brk d 0)[k]?=some (brk d 0)[k]:=aad ⋯;have m:(brk d 0).drop k=(brk d 0)[k]::(brk d 0).drop (k+1):=af4 ⋯;rw[m]at c;rcases Dh g c.symm with ⟨z,u,l,n⟩|⟨r,e,z,l,n⟩
 ·exact .inl (by rw[b,z],9)
 ·refine .inr (by rw[b,z],a,h,8,8)
  ·have:=congrArg ahp e;rw[abo,aaB]at this;lia
  ·have:=agF (xs:=d) (i:=a) (j:=0);rw[e]at this;exact this.symm
theorem uw(a:gR d):Tree (brk d 0):=by
 have j:=mV a;have o:0<d.length:=(aab.mp a.1).1;refine(9,8,λk i f=>?_)
 ·obtain⟨c,n,m,l,e,b⟩:=zu a _ (aac _);rw[aiF]at e;exact(Og b e.symm).2
 ·rcases Br a f with ⟨_,z⟩|⟨_,c,q,p,h⟩
  ·exact z
  ·obtain⟨_,_,_,_,_,b⟩:=zu a k ⋯;have g:=b.pos;rcases ags c with rfl|z
   ·unfold ht at g;lia
   ·have:=a.one z h;lia
theorem Ou(a:gR d){k:Nat}(b:(brk d 0).length<=k):((brk d 0).take k).sum=d.length:=by
 have h:=(uw a).2.1;have c:=mV a;unfold ht at h;rw[ahu]at h;rw[aai b];lia
theorem CZ(a:gR d):(brk d 0).sum=d.length:=by
 have:=Ou a (k:=(brk d 0).length) (aac _);rw[ahu]at this;exact this
theorem JP(f:gR d){i p:Nat}(a:(brk d 0)[p]?=some 1)(j:((brk d 0).take p).sum=(i:Int)):d[i]?=some (ht (brk d 0) p):=by
 have e:=(aab.mp a).1;rcases Br f e with ⟨z,_⟩|⟨_,b,h,g,c⟩
 ·rw[z]at a;cases a
 ·have:b=i:=by lia
  subst this;exact c
theorem z6(l:aZ d){a k:Nat}(j:m<ht d a)(p:a<=d.length)(f:uO d a m k):d[k]?=some 1/\ht d k=m /\ ∀i,k<i->i<=a->m<ht d i:=by
 obtain⟨r,q,n⟩:=f;have c:∀i,k<i->i<=a->m<ht d i:=λi h o=>by
  rcases aay i a with z|z
  ·exact n i h z
  ·have:i=a:=by lia
   rw[this];exact j
 have:=c (k+1) ⋯ ⋯;rcases Q4 l (show k<d.length by lia)with ⟨b,e⟩|⟨b,e⟩
 ·exact(b,9,c)
 ·lia
theorem Dg(a:List Int)(n:Nat):Uv a n=(agq n).map (λk=>(a.take (32*k)).sum)++[(a.take (32*n)).sum]:=by
 unfold Uv;rw[agL,aaj];rfl
def Xh(a:List Int)(j:Nat)(g:Int)(i:Nat):Prop:=i<=j/\a[i]?=some g /\ ∀m x,i<m->m<=j->a[m]?=some x->g<x
theorem Xh.trans{j i e:Nat}(h:Xh d j m i)(h':Xh d i (m-1) e):Xh d j (m-1) e:=by
 obtain⟨p,o,l⟩:=h;obtain⟨n,k,f⟩:=h';refine(9,k,λa x c b e=>?_);rcases aay i a with z|z
 ·have:=l a x z b e;lia
 ·exact f a x c z e
theorem Qo(b:aZ d){m:Nat}(h:(m:Int)<d.sum):∃p,d[p]?=some 1/\(d.take p).sum=(m:Int):=by
 have:∀n:Nat,n<=d.length->(m:Int)<(d.take n).sum -> ∃p,d[p]?=some 1/\(d.take p).sum=(m:Int):=by
  intro n
  induction n with
  |zero=>
   intro _ z;rw[aiu]at z;have:([]:List Int).sum=0:=rfl;lia
  |succ n a=>
   intro f z;have e:=aad (show n<d.length by lia);rw[mC e]at z;by_cases c:(m:Int)<(d.take n).sum
   ·exact a ⋯ c
   ·rcases b _ (acV (show n<d.length by lia))with y|y
    ·lia
    ·rw[y]at e z;exact(n,e,9)
 exact this d.length (aac _) (by rw[ahu];exact h)
def run(a:List Int)(k:Nat)(g:Int):Nat:=((a.drop k).takeWhile λx=>decide (g<x)).length
end Tw
namespace L2
open PySem.Spec PyProof.Rows
theorem K1(a b:Int):Builtin.Range.rangeSize a b (-1)=((a-b).toNat:Int):=by
 unfold Builtin.Range.rangeSize;rw[if_neg ∅,show (- -1:Int)=1 from rfl,ajc];split<;>lia
theorem Cr{a b:Int}(d : -1<=a)(c : -1<=b)(g:a<536870912)(f:b<536870912):Builtin.Range.small a b (-1)=true:=by
 unfold Builtin.Range.small Builtin.Range.rangeFitsLong;rw[K1];have e:(2:Int)^63=9223372036854775808:=by decide
 rw[e,if_neg ∅];refine iH (iH (iH (iH (iH (decide_eq_true ?_) (decide_eq_true ?_)) (iH (decide_eq_true ?_) (decide_eq_true ?_))) ∅) (iH (decide_eq_true ?_) (decide_eq_true ?_))) ?_
 ·lia
 ·lia
 ·lia
 ·lia
 ·lia
 ·lia
 ·rw[aiH];exact .inr (iH (decide_eq_true ⋯) (decide_eq_true ⋯))
inductive HH(R:It->Hp->Prop)(vs:List V)(H1:Hp):Prop
 | mk (a b:Int) (_:vs=[.int a,.int b,.int (-1)]) (_ : -1<=a) (_ : -1<=b) (_:a<536870912) (_:b<536870912) (_:R (WT a (-1) (a-b).toNat) H1)
def Oo(b:TA):TI:=λ a H R=>b a H (HH R)
theorem Bm{a b c:Expr}{p pos:Pos}(J:Gl X "range")(G:X.mg "range" = none)(L:PA X [a,b,c] t)(F:starEach [a,b,c] X.env=[(pq false (eval a X.env)),(pq false (eval b X.env)),(pq false (eval c X.env))]:=by rfl)
  (j:starEach [b,c] X.env=[(pq false (eval b X.env)),(pq false (eval c X.env))]:=by rfl):PI X tg (.Call (.Name "range" p) [a,b,c] [] pos) (Oo t):=by
 intro u s n H R I h;refine Call_ (dH I J G boot_range (PyProof.Rows.callWith_type1 (T7 (L pos u s n H _ I h) λQ g ⟨P,v,O,w,A⟩=>?_) (by rw[F,j]) (by rw[j];rfl)));obtain⟨x,y,e,C,B,E,D,q⟩:=A;subst e;cases w with
 |cons r i=>
  cases i with
  |cons z i=>
   cases i with
   |cons m i=>
    cases i;obtain⟨d,rfl⟩:=r;obtain⟨k,rfl⟩:=z;obtain⟨f,rfl⟩:=m;refine call_range_3 ∅ ?_ (.inl (PyProof.noPylong_small ∅));refine wpAny_pyIter_range (IsRange.new ..) (Cr C B E D) ?_
    have l:Inv X u n v {g with heap:=g.heap.push {cls:=.type "range",data:=.fields #[.int x d,.int y k,.int (-1) f]},toks:=g.toks}:=O.kept λb o e=>Heap.get?_push_of_some _ e
    refine((g.heap.push {cls:=.type "range",data:=.fields #[.int x d,.int y k,.int (-1) f]}).objs.size,[(g.heap.push {cls:=.type "range",data:=.fields #[.int x d,.int y k,.int (-1) f]}).objs.size],1,v,7,
     l.kept (t':=g.toks) λb o e=>Heap.get?_push_of_some _ e,qx _ x (-1) (x-y).toNat,8,λb K=>?_,q)
    ·have N:x+((0:Nat):Int)*(-1)=x:=by lia
     have M:(((x-y).toNat:Nat):Int)-((0:Nat):Int)=Builtin.Range.rangeSize x y (-1):=by rw[K1];lia
     show IsRangeIter _ _ (x+((0:Nat):Int)*(-1)) ((((x-y).toNat:Nat):Int)-((0:Nat):Int)) (-1);rw[N,M];exact Heap.get?_push_size _ rfl
    ·have e:b=(g.heap.push {cls:=.type "range",data:=.fields #[.int x d,.int y k,.int (-1) f]}).objs.size:=by simpa using K
     subst e;exact l.fpOk (aac _) (l.hok.fresh (aac _))
end L2
namespace Tw
end Tw
namespace L2
open PySem.Spec PyProof.Rows
def FW(K:PySem.W.Frag)(a:List (Str×Nat))(tt:TT)(b:TE)(σ:St)(Q:VK):It->Hp->Prop:=λJ c=>vg K J (fQ a σ) tt b (λD d=>Q (.ref D) d) c
def MN(K:PySem.W.Frag)(b:TI)(a:List (Str×Nat))(tt:TT)(c:TE):TE:=λ σ H Q=>b σ H (FW K a tt c σ Q)
theorem oN{i:Nat}{y x :Str}{B k pos g:Pos}{iter:Expr}{U:TI}{tt:TT}(hN:X.N.Nodup)(XD:X.N[i]?=some y)(V:X.env.scope.names.lookup y=some .local)(hc:X.calm=true)
  (F:o7 X x qual D scope v)(hi:PI X (.Tuple [.Name x p,.Name qual apos] n B) iter U)
  (ht:∀C E L G,Wn (bI X (x::qual::D.map (·.1)) scope v C E L G) u tt)(he:∀C E L G,PE (bI X (x::qual::D.map (·.1)) scope v C E L G) e ta)
  (P:swapsWith (.ListComp e [(.Tuple [.Name x p,.Name qual apos] n B,iter,u,0)] scope pos) (some (.Name y k)) g.line X.env=pure true:=by rfl)(hs:∀x,foldedSetIterable iter X.env x=pure x:=by intro _;rfl):
  PS X (.Assign [.Name y k] (.ListComp e [(.Tuple [.Name x p,.Name qual apos] n B,iter,u,0)] scope pos) g) (Hf (MN X.K U D tt ta) (iY i)):=by
 intro π s σ H W I h;rw[exec_Assign_Name_used _ _ _ _ P];refine wpAny_bind (wpAny_standAt (wpAny_bind ?_));show wpAny _ X.A (do let _ <-comprehension (.ListComp e [(.Tuple [.Name x p,.Name qual apos] n B,iter,u,0)] scope pos) scope X.env _ (newList []) false (eval iter X.env) (some (assign (.Name y k) X.env))) _ _ s;refine wpAny_bind (wpAny_mono (wpAny_comprehension_free (use:=some (assign (.Name y k) X.env)) (Q:=λ_ l=>SP X π W .next l) rfl hs F.o.clos F.o.kind F.o.names
  (T7 (hi π s σ H _ I h) λd E h1=>T7 h1 λa0 s2 h2=>?_)) (λ_ l hq=>wpAny_pure (wpAny_pure hq)) λ_ _ c=>c)
 obtain⟨it,fp,tn,J,H2,c,I2,T,M,f2,Z⟩:=h2;subst c;refine sI (RR:=λS C=>compPost (model X.prog X.w) X.A X.xe (some (assign (.Name y k) X.env)) (λ_ l=>SP X π W .next l) S C) I2 hc F T M f2 ht he Z ?_;intro f C l H' m I' hn j q;show wpAny _ X.A (assign (.Name y k) X.env (.ref f)) _ _ _;refine wpAny_assign_Name (mY (v:=.ref f) I' hN XD (.inl V) rfl (λO XF ch=>(m,8,λR t=>?_)) (.inr V))
 ·obtain⟨a,Y,r⟩:=ch;refine hn.sameBut Y λqual=>?_;rcases r with r|r
  ·exact j.2.1 (qual.trans r)
  ·exact j.2.2.2.2.1 _ a r qual.symm
 ·exact(_,H',XF.turned (h':=R) (t':=O.toks) (λb o hb c=>t.extBut b o hb c) j.1 j.2.1 j.2.2.2.1 j.2.2.2.2.1 j.2.2.2.2.2,q)
end L2
namespace Tw
theorem yK{a b:Addr}{os bs:List Int}{k:L2.St}{tt:TT}(n:Int->Int->Bool)(g:Int->Int->Int)(I:T6 K H a (os.map V.int))(G:T6 K H b (bs.map V.int))(L:os.length=bs.length)(hz:os.length<sizeLine)
  (A:∀(x y:Int) (H':Hp) (Q:Bool->Hp->Prop),aU H H'->Q (n x y) H'->tt (some (.int x)::some (.int y)::k) H' Q)
  (J:∀(x y:Int) (H':Hp) (Q:VK),aU H H'->Q (.int (g x y)) H'->ta (some (.int x)::some (.int y)::k) H' Q)
  (q:∀D H',H D=none->aU H H'->H' D=some (.lst ((((os.zip bs).filter λp=>n p.1 p.2).map λp=>g p.1 p.2).map V.int))->B D H'):vg K (WX K a b) k tt ta B H:=by
 intro D u;exists λi m t s=>m=os.length-i/\i<=os.length/\aU H s/\t=(((((os.zip bs).take i).filter λp=>n p.1 p.2).map λp=>g p.1 p.2).map V.int)/\s D=some (.lst t),(5,aaD _,az u _,7,ao);rintro i m t s ⟨rfl,M,h,rfl,d⟩;have w:=h.seq I;have z:=h.seq G;by_cases j:i<os.length
 ·have E:(os.map V.int)[i]?=some (.int os[i]):=by rw[aag,aad j];rfl
  have C:(bs.map V.int)[i]?=some (.int (bs[i]'(by omega))):=by rw[aag,aad (by omega)];rfl
  refine .inr ((1,1,w,z,E,C),λv N y=>?_);obtain⟨p,x,y,F,rfl,rfl,r,o⟩:=y;have r:=r _ w;have o:=o _ z;rw[E]at r;rw[C]at o;cases r;cases o;have l:=az F (.tup [.int os[i],.int (bs[i]'(by omega))]);have f:(os.zip bs).take (i+1)=(os.zip bs).take i++[(pq (os[i]) (bs[i]'(by omega)))]:=by
   rw[abH,aad (by rw[ajm];lia)];simp
  refine(p,_,5,T8.of ao,A _ _ _ _ (h.trans l) ?_);by_cases c:n os[i] (bs[i]'(by omega))=true
  ·rw[if_pos c];refine J _ _ _ _ (h.trans l) (l _ _ d,8,os.length-(i+1),9,7,j,bT (h.trans l) u _,8,ao)
   ·have:=aiK (λp:Int×Int=>n p.1 p.2) ((os.zip bs).take i);rw[aaz]at this;rw[aaa,aaa];lia
   ·rw[f,agw,aaj,aaj];simp[c]
  ·rw[if_neg c];refine(os.length-(i+1),9,7,j,h.trans l,8,l _ _ d);rw[f,agw,aaj,aaj];simp[c]
 ·have e:i=os.length:=by lia
  subst e;refine .inl ((1,w,z,.inl (by rw[aaa];exact aac _)),q D s u h ?_);rw[aai (by rw[ajm];lia)]at d;exact d
end Tw
namespace L2
open PySem.Spec PyProof.Rows
inductive RG(x:V)(vs:List V)(H:Hp)(Q:VK):Prop
 | mk (i:_) (_:x=.int i) (_:vs=[]) (_:Q (.int (Builtin.Int.intBits i)) H)
theorem xj:Yx X "int.bit_length" RG:=by
 intro d s c H x e v f Q I a b h;obtain⟨i,rfl,rfl,q⟩:=h;obtain⟨t,rfl⟩:=a;cases b;exact call_int_bit_length (.int (Builtin.Int.intBits i),H,I.tok _,(_,7),q)
end L2
namespace Tw
def fU(b:Bool)(t:SetTable):Prop:=t.led=b/\t.place.toList.Pairwise (· < ·)
theorem pQ{xs:Array Nat}(h:xs.toList.Pairwise (· < ·)){i j:Nat}(a:i<j)(b:j<xs.size):xs[i]'(by omega)<xs[j]:=by
 have:=abF.mp h i j (by simpa using (by lia:i<xs.size)) (by simpa using b) a;simpa using this
theorem uP{xs:Array Nat}(h:xs.toList.Pairwise (· < ·))(j:Nat):∀(a lo b:Nat),b-lo<=a->lo<=b->b<=xs.size->(∀k (d:k<xs.size),k<lo->xs[k]<j)->(∀k (d:k<xs.size),b<=k->j<=xs[k]) ->
  SetTable.below.go xs j a lo b<=xs.size/\(∀k (d:k<xs.size),k<SetTable.below.go xs j a lo b->xs[k]<j) /\ ∀k (d:k<xs.size),SetTable.below.go xs j a lo b<=k->j<=xs[k]
 |0,lo,b,n,o,g,f,e=>by
  have:lo=b:=by lia
  subst this;unfold SetTable.below.go;exact(g,f,e)
 |a+1,lo,b,n,o,g,f,e=>by
  unfold SetTable.below.go;by_cases c:lo<b
  ·rw[if_pos c];have l:(lo+b) / 2<xs.size:=by lia
   have p:xs.getD ((lo+b) / 2) j=xs[(lo+b) / 2]:=by simp[ai6,l]
   dsimp only;rw[p];by_cases i:xs[(lo+b) / 2]<j
   ·rw[if_pos i];refine uP h j a _ _ ⋯ ⋯ g (λk d m=>?_) e;rcases aay k ((lo+b) / 2)with z|z
    ·exact ajd (pQ h z l) i
    ·have:k=(lo+b) / 2:=by lia
     subst this;exact i
   ·rw[if_neg i];refine uP h j a _ _ ⋯ ⋯ ⋯ f (λk d m=>?_);rcases aay ((lo+b) / 2) k with z|z
    ·have:=pQ h z d;lia
    ·have:k=(lo+b) / 2:=by lia
     subst this;lia
  ·rw[if_neg c];have:lo=b:=by lia
   subst this;exact(g,f,e)
theorem De{xs:Array Nat}(h:xs.toList.Pairwise (· < ·))(j:Nat):SetTable.below xs j<=xs.size/\(∀k (a:k<xs.size),k<SetTable.below xs j->xs[k]<j) /\ ∀k (a:k<xs.size),SetTable.below xs j<=k->j<=xs[k]:=by
 unfold SetTable.below;exact uP h j xs.size 0 xs.size ⋯ (aaD _) (aac _) (λk _ a=>absurd a (ahJ _)) (λk a b=>by lia)
theorem Q6{b:Bool}{t:SetTable}(h:fU b t){j:Nat}(q:t.place[SetTable.below t.place j]? ≠ some j):fU b (t.put j).1:=by
 exists h.1;obtain⟨s,r,o⟩:=De h.2 j;show (SetTable.insertAt t.place (SetTable.below t.place j) j).toList.Pairwise (· < ·);rw[SetTable.toList_insertAt];generalize SetTable.below t.place j=p at *;have i:∀x∈t.place.toList.take p,x<j:=λx g=>by
  obtain⟨k,f⟩:=abg g;have n:=(aab.mp f).1;rw[aaz]at n;rw[adI ⋯,abv]at f;obtain⟨d,e⟩:=ain.mp f;rw[<-e];exact r k d ⋯
 have l:∀x∈t.place.toList.drop p,j<x:=λx g=>by
  obtain⟨k,f⟩:=abg g;rw[agF,abv]at f;obtain⟨d,e⟩:=ain.mp f;have a:=o (p+k) d ⋯;rcases ags k with z|z
  ·subst z;have:x≠j:=λy=>q (by rw[<-y];exact f);lia
  ·have b:=pQ h.2 (show p<p+k by lia) d;have c:=o p ⋯ (aac _);lia
 refine agv.mpr (h.2.sublist (ag2 _ _),ah2.mpr (l,h.2.sublist (List.drop_sublist _ _)),λx g y m=>?_);rcases aas.mp m with rfl|m
 ·exact i x g
 ·exact ajd (i x g) (l y m)
theorem j4{b:Bool}{t:SetTable}(h:t.led=b)(n:Nat):fU b (t.standIn n):=by
 exists h;show (Array.range n).toList.Pairwise (· < ·);rw[Array.toList_range];exact aiG
theorem Hr{t:SetTable}{j:Nat}(h:∀i,t.slot j ≠ .live i):t.place[SetTable.below t.place j]? ≠ some j:=λe=>by
 refine h (SetTable.below t.place j) ?_;unfold SetTable.slot;simp[e]
theorem vh{t:SetTable}{f:Nat->Int}{h:Int}:∀(a:Nat) (p:SetTable.Probe) (j:Nat) (d:Option Nat),(∀x,p.dummy=some x->t.slot x=.dummy)->SetTable.probe.go t f h a p=some (.empty j d)->t.slot j=.empty /\ ∀x,d=some x->t.slot x=.dummy
 |0,p,j,d,_,e=>by
  unfold SetTable.probe.go at e;cases e
 |a+1,p,j,d,hd,e=>by
  unfold SetTable.probe.go at e;have g:∀q:SetTable.Probe,(t.advance q).dummy=q.dummy:=λq=>by
   unfold SetTable.advance;split<;>rfl
  cases c:t.slot p.j with
  |empty=>
   rw[c]at e;cases e;exact(c,hd)
  |dummy=>
   rw[c]at e;refine vh a _ j d (λx b=>?_) e;rw[g]at b;cases b;exact c
  |live i=>
   rw[c]at e;dsimp only at e;split at e
   ·cases e
   ·exact vh a _ j d (λx b=>hd x (by rw[g]at b;exact b)) e
theorem wL{t:SetTable}{j:Nat}{w:Bool}(e:t.freeSlot m=some (pq j w)):∀i,t.slot j ≠ .live i:=by
 unfold SetTable.freeSlot SetTable.probe at e;split at e
 ·rename_i a d c;cases e;obtain⟨g,f⟩:=vh _ _ _ _ (λx b=>by cases b) c;cases d with
  |none=>
   intro i z;rw[show (none:Option Nat).getD a=a from rfl,g]at z;cases z
  |some x=>
   intro i z;rw[show (some x:Option Nat).getD a=x from rfl,f x rfl]at z;cases z
 ·cases e
theorem zR{b:Bool}{t:SetTable}(h:fU b t)(n:Nat):fU b (t.orStandIn n):=by
 unfold SetTable.orStandIn;split
 ·exact h
 ·exact j4 h.1 n
theorem Jr{b:Bool}{t:SetTable}(h:fU b t)(c:Array (Int×Value))(i:Int)(x:Value):fU b (layNew t c i x).2.1:=by
 unfold layNew;split
 ·rename_i a w e;exact zR (Q6 h (Hr (wL e))) _
 ·exact j4 h.1 _
theorem Nr{m f v:Nat}{l p:Bool}{g:Array Int}{t:SetTable}{o:Array Nat}(e:SetTable.laid m f v l p g=some (pq t o)):fU l t:=by
 unfold SetTable.laid at e;cases h:SetTable.layClean m g with
 |none=>
  rw[h]at e;cases e
 |some j=>
  rw[h]at e;cases e;exists 7;show (List.toArray _).toList.Pairwise (· < ·);rw[ai7];refine List.Pairwise.filterMap _ (R:=(· < ·)) (λa n d b i k c=>?_) aiG;obtain⟨x,_,rfl⟩:=aaM.mp i;obtain⟨y,_,rfl⟩:=aaM.mp c;exact d
theorem CK{b:Bool}{t:SetTable}(h:fU b t)(a:Array (Int×Value))(n:Nat):fU b (relayAll t a n).2.1:=by
 unfold relayAll;split
 ·rename_i c o e;dsimp only;split
  ·have:=Nr e;rw[h.1]at this;exact this
  ·exact j4 h.1 _
 ·exact j4 h.1 _
theorem Mi{b:Bool}{t:SetTable}(h:fU b t):fU b {t with plain:=false}:=h
open PySem.Spec PyProof.Rows
section
variable{α β:Type}
theorem Jp{f:α->β}{k l:List β}(h:agx k l):∀L:List α,L.map f=l -> ∃g,agx g L/\g.map f=k:=by
 induction h with
 |nil=>
  intro L e;exact(L,.rfl,e)
 |cons x p r=>
  intro L e;cases L with
  |nil=>cases e
  |cons a L=>
   rw[aar]at e;injection e with d c
   obtain⟨g,o,t⟩:=r L c;exact(a::g,o.cons a,by rw[aar,t,d])
 |swap x y l=>
  intro L e
  match L,e with
  |a::b::L,e=>
   rw[aar,aar]at e;injection e with d c
   injection c with c s
   exact(b::a::L,.swap a b L,by rw[aar,aar,d,c,s])
 |trans p q j i=>
  intro L e;obtain⟨v,n,d⟩:=i L e;obtain⟨u,m,c⟩:=j v d;exact(u,m.trans n,c)
end
section
variable{K:Type}[DecidableEq K]{knd:KeyKind prog w K}{b:Bool}
structure lH(knd:KeyKind prog w K)(es:List (Int×Value))(ks:List K)(ps:List (K×(Int×Value))):Prop where
 snd:ps.map (·.2)=es
 fst:agx (ps.map (·.1)) ks
 is:∀p∈ps,knd.is p.1 p.2.2=true/\p.2.1=knd.hash p.1/\p.2.2.scannable=true
theorem lH.elems{c:List K}{ps:List (K×(Int×Value))}(h:lH knd Y c ps):ElemsOf knd Y:=λe a=>by
 rw[<-h.snd]at a;obtain⟨p,d,rfl⟩:=aaZ.mp a;obtain⟨i,g,f⟩:=h.is p d;exact((p.1,i,g),f)
theorem lH.size{a:List K}{ps:List (K×(Int×Value))}(h:lH knd Y a ps):Y.length=a.length:=by
 rw[<-h.snd,aaa,<-h.fst.length_eq,aaa]
theorem lH.mem{d:List K}{ps:List (K×(Int×Value))}(h:lH knd Y d ps)(k:K):k∈d ↔ ∃e∈Y,knd.is k e.2=true:=by
 rw[<-h.fst.mem_iff];constructor
 ·intro c;obtain⟨p,a,rfl⟩:=aaZ.mp c;exact(p.2,by rw[<-h.snd];exact aaZ.mpr (p,a,7),(h.is p a).1)
 ·rintro⟨e,f,c⟩;rw[<-h.snd]at f;obtain⟨p,a,rfl⟩:=aaZ.mp f;have:=knd.inj _ _ _ c (h.is p a).1;rw[this];exact aaZ.mpr (p,a,7)
theorem lH.perm{c:List (Int×Value)}{f:List K}{ps:List (K×(Int×Value))}(h:lH knd Y f ps)(p:agx c Y):∃a,lH knd c f a:=by
 obtain⟨a,d,e⟩:=Jp p ps h.snd;exact(a,e,(d.map _).trans h.fst,λq g=>h.is q (d.mem_iff.mp g))
theorem lH.push{c:List K}{ps:List (K×(Int×Value))}(h:lH knd Y c ps){k:K}{x:Value}(e:knd.is k x=true)(d:x.scannable=true):lH knd (Y++[(pq (knd.hash k) x)]) (c++[k]) (ps++[(pq k ((pq (knd.hash k) x)))]):=by
 refine(by rw[aaj,h.snd];rfl,by rw[aaj];exact h.fst.append_right _,λp a=>?_);rcases aaW.mp a with a|a
 ·exact h.is p a
 ·rw[aam.mp a];exact(e,7,d)
def jo(b:Bool)(knd:KeyKind prog w K)(h:Heap)(a:Addr)(e:List K):Prop:=
 ∃o c f t d,h.get? a=some o/\o.ExactSet/\o.data=.set c f t/\c.size<scanBound/\t.fits c.size=true/\fU b t/\lH knd c.toList e d
theorem Kv{a:Addr}{o:Obj}{l:Array (Int×Value)}{t:SetTable}(i:h'.get? a=some o)(d:o.ExactSet)(hd:o.data=.set l n t)
  {c:Array (Int×Value)}{t':SetTable}{e:List K}{ps:List (K×(Int×Value))}(k:c.size<scanBound)(j:t'.fits c.size=true)(ht:fU b t')(f:lH knd c.toList e ps):
  (h'.update a (Obj.putSet c t')).get? a=some {o with data:=.set c (n+1) t'}/\jo b knd (h'.update a (Obj.putSet c t')) a e:=by
 have g:=Heap.get?_update_self (Obj.putSet c t') i (by rw[putSet_of c t' hd];rfl);rw[putSet_of c t' hd]at g;exact(g,_,c,n+1,t',ps,g,d,7,k,j,ht,f)
theorem Pz{g:Bool->Sem Unit}(G:∀(c:Bool) (u:Shared) (Q1:Unit->Shared->Prop),Q1 () u->wpAny (model prog w) A (g c) Q1 E u)
  {a:Addr}{o:Obj}{I d:Array (Int×Value)}{t :SetTable}{v:List K}{ps:List (K×(Int×Value))}{C:Bool}{R:Option Bool->Shared->Prop}
  (y:s.heap.get? a=some o)(e:o.ExactSet)(hd:o.data=.set I n t)(l:d.size<scanBound)(H:Q.fits d.size=true)(ht:fU b Q)(x:lH knd d.toList v ps)
  (h:∀m,Heap.SameBut a s.heap m->jo b knd m a v->R (some true) {s with heap:=m}):
  wpAny (model prog w) A (do
   storeSet a d Q
   if (!C&&Q.tooFull)=true then do
    g (relayAll Q d (SetTable.grown d.size)).2.2
    storeSet a (relayAll Q d (SetTable.grown d.size)).1 (relayAll Q d (SetTable.grown d.size)).2.1
    pure (some true)
   else pure (some true)) R E s:=by
 obtain⟨z,D⟩:=Kv (knd:=knd) y e hd l H ht x;have B:=Heap.SameBut.update s.heap a (Obj.putSet d Q);refine wpAny_bind (wpAny_storeSet_of y hd ?_ (fits_of_scanBound l));split
 ·have j:=relayAll_perm Q d (SetTable.grown d.size);have p:=relayAll_fits Q d (SetTable.grown d.size);have k:=CK ht d (SetTable.grown d.size);generalize relayAll Q d (SetTable.grown d.size)=r at j p k ⊢;obtain⟨i,L,M⟩:=r;dsimp only at j p k ⊢;obtain⟨J,q⟩:=x.perm j;have F:i.size=d.size:=by simpa using j.length_eq
  have f:i.size<scanBound:=F ▸ l;refine wpAny_bind (G _ _ _ (wpAny_bind (wpAny_storeSet_of z rfl ?_ (fits_of_scanBound f))));exact wpAny_pure (h _ (B.trans (Heap.SameBut.update _ a _)) (Kv (knd:=knd) z e rfl f p k q).2)
 ·exact wpAny_pure (h _ B D)
theorem O3{a:Addr}{d:List K}{k:K}{x:Value}{Q:Bool->Shared->Prop}(f:knd.is k x=true)(l:x.scannable=true)(Y:jo b knd s.heap a d)(P:d.length+1<scanBound)
  (h:∀g,Heap.SameBut a s.heap g->jo b knd g a (if k∈d then d else d++[k])->Q (!decide (k∈d)) {s with heap:=g}):
  wpAny (model prog w) A (setAddHashed a x (knd.hash k)) Q E s:=by
 obtain⟨o,i,Z,t,U,u,m,hd,T,H,ht,r⟩:=Y;have C:=r.elems;have hn:i.size=d.length:=by simpa using r.size
 unfold setAddHashed setAddHashedIn;refine wpAny_holding (wpAny_bind (wpAny_setState_of u hd H ?_));dsimp only;rw[byScan_of l T C,if_pos rfl];unfold setAddByScan;refine wpAny_bind (wpAny_bind (wpAny_rule (wpAny_bind (wpAny_setScan_of f u hd H C ?_))));have S:=r.mem k;cases R:List.findIdx? (λe=>knd.is k e.2) i.toList with
 |some j=>
  obtain⟨W,N,_⟩:=List.findIdx?_eq_some_iff_getElem.mp R;have v:k∈d:=S.mpr (_,acV W,N);have e:s={s with heap:=s.heap}:=by cases s;rfl
  have q:=h s.heap (Heap.SameBut.refl a s.heap) (by rw[if_pos v];exact(o,i,Z,t,U,u,m,hd,T,H,ht,r));rw[decide_eq_true v]at q;dsimp only;rw[e];exact wpAny_pure (wpAny_pure q)
 |none=>
  have v:¬k∈d:=λz=>by
   obtain⟨e,X,V⟩:=S.mp z;have:=List.findIdx?_eq_none_iff.mp R e X;rw[V]at this;cases this
  rw[if_neg v,decide_eq_false v]at h;dsimp only;have n:=layNew_perm t i (knd.hash k) x;have y:=layNew_fits t i (knd.hash k) x;have p:=Jr ht i (knd.hash k) x;generalize layNew t i (knd.hash k) x=L at n y p ⊢;obtain⟨O,t1,wd,gv⟩:=L;dsimp only at n y p ⊢;rw[agR]at n;obtain⟨a0,B⟩:=(r.push f l).perm n;have D:O.size<scanBound:=by
   have:=n.length_eq;rw[aae,agK,aaf,aaf]at this;lia
  have G:∀(c:Bool) (F:Shared) (M:Unit->Shared->Prop),M () F->wpAny (model prog w) A (match c with|true=>rule "set.scan.the-table-gave-way" |false=>pure ()) M E F:=λc F M q=>by
   cases c
   ·exact wpAny_pure q
   ·exact wpAny_rule q
  refine wpAny_bind (G _ _ _ ?_);split
  ·refine wpAny_bind ?_;rw[hashByValue_scannable 8 l];refine wpAny_pure (Pz (b:=b) G u m hd D ?_ ?_ B λg J I=>?_)
   ·split
    ·exact y
    ·exact SetTable.fits_plain_off y
   ·split
    ·exact p
    ·exact Mi p
   ·exact wpAny_pure (h g J I)
  ·refine wpAny_bind (wpAny_pure ?_);rw[if_pos rfl];exact Pz (b:=b) G u m hd D y p B λg J I=>wpAny_pure (h g J I)
end
section
variable{K:Type}[DecidableEq K]
def met(f:Nat->K):Nat->List K
 |0=>[]
 |n+1=>if f n∈met f n then met f n else met f n++[f n]
theorem tZ(f:Nat->K):∀(n:Nat) (k:K),k∈met f n ↔ ∃i,i<n/\f i=k
 |0,k=>by simp[met]
 |n+1,k=>by
  unfold met;have a:=tZ f n;constructor
  ·intro h;split at h
   ·obtain⟨i,c,b⟩:=(a k).mp h;exact(i,9,b)
   ·rcases aaW.mp h with h|h
    ·obtain⟨i,c,b⟩:=(a k).mp h;exact(i,9,b)
    ·exact(n,9,(aam.mp h).symm)
  ·rintro⟨i,c,rfl⟩;rcases aay i n with z|z
   ·have:=(a (f i)).mpr (i,z,7);split
    ·exact this
    ·exact agC _ this
   ·have e:i=n:=by lia
    subst e;split
    ·assumption
    ·exact aat _ (aam.mpr rfl)
theorem mU(f:Nat->K):∀n:Nat,(met f n).Nodup
 |0=>.nil
 |n+1=>by
  unfold met;split
  ·exact mU f n
  ·rename_i h;refine ai8.mpr (mU f n,by simp,λa d b c e=>?_);rw[aam.mp c]at e;exact h (e ▸ d)
theorem uh(f:Nat->K):∀n:Nat,(met f n).length<=n
 |0=>aac _
 |n+1=>by
  unfold met;have:=uh f n;split
  ·lia
  ·rw[aae,agK];lia
theorem BL(f:Nat->K){i:Nat}:∀n:Nat,i<=n->(met f i).length<=(met f n).length
 |0,h=>by
  have:i=0:=by lia
  subst this;exact aac _
 |n+1,h=>by
  rcases aay i (n+1)with z|z
  ·have:=BL f n (show i<=n by lia);show _<=(if f n∈met f n then met f n else met f n++[f n]).length;split
   ·exact this
   ·rw[aae];lia
  ·have:i=n+1:=by lia
   subst this;exact aac _
end
section
variable{K:Type}[DecidableEq K]{knd:KeyKind prog w K}{R:Result->Shared->Prop}{I:Addr}{fp wr:List Addr}{G:Array GenState->Array GenState->Prop}{P:Nat->Value->Prop}{St:Nat->Shared->Prop}{b:Bool}
theorem jo.at{h':Heap}{a:Addr}{c:List K}(g:jo b knd base a c)(e:∀o,base.get? a=some o->h'.get? a=some o):jo b knd h' a c:=by
 obtain⟨o,i,j,t,d,f,r⟩:=g;exact(o,i,j,t,d,e o f,r)
theorem Rv(W:WalksS prog w A.in1 I fp wr G n P St)(S:Addr)(t:S∉fp)(f:Nat->K)(Q:∀i v,P i v->knd.is (f i) v=true/\v.scannable=true)(T:(met f n).length+1<scanBound):
  ∀(k i:Nat) (s:Shared),n-i=k->i<=n->St i s->jo b knd s.heap S (met f i) ->
   (∀a,Moved (S::wr) G s a->jo b knd a.heap S (met f n)->R (.ok (.ret .none)) a) ->
   codeAny (model prog w) A (.builtin "set.update.loop" ([.ref S,.ref I],[])) R s:=by
 have B:S∉wr:=λz=>t (W.sub _ z);have l:∀c∈wr,c∈S::wr:=λc j=>.tail _ j;intro k
 induction k with
 |zero=>
  intro i s O C d x q;obtain rfl:i=n:=by lia
  refine codeAny_builtin PyProof.Rows.F.entry_set_update_loop ?_;rw[Around.under_plainId PyProof.Rows.F.plain_set_update_loop _];refine wpAny_bind (m:=pyNext (.ref I)) (W.done s _ _ d λa h=>?_);exact wpAny_pure (q a (h.mono l) (x.at λo e=>h.heap S _ B e))
 |succ k M=>
  intro i s O C d x q;have p:i<n:=by lia
  refine codeAny_builtin PyProof.Rows.F.entry_set_update_loop ?_;rw[Around.under_plainId PyProof.Rows.F.plain_set_update_loop _];refine wpAny_bind (m:=pyNext (.ref I)) (W.item i s _ _ p d λv a N u h=>?_);obtain⟨r,y⟩:=Q i v N;refine wpAny_bind (m:=holding [v] (setAdd S v)) (wpAny_holding ?_);unfold setAdd;refine wpAny_holding (wpAny_bind (knd.pyHash r ?_));have g:(met f i).length+1<scanBound:=by
   have:=BL f n C;lia
  refine O3 (s:={a with toks:=a.toks+1}) r y (x.at λo e=>h.heap S _ B e) g λU D H=>?_;refine wpAny_pure (plainId_quiet PyProof.Rows.F.plain_set_update_loop _,M (i+1) _ ⋯ p (W.frame _ a _ _ u (ahe _) λc j o e=>?_) H λJ L E=>?_)
  ·rw[D.2 c (λz:c=S=>t (z ▸ j))];exact e
  ·refine q J (Moved.trans W.gtrans ((h.mono l).then_heap (ahe _) λc o j e=>?_) L) E;rw[D.2 c (λz:c=S=>j (by rw[z];exact .head _))];exact e
theorem Qn(b:Bool){a:Addr}(e:h'.get? a=some {cls:=.type "set",dict:=none,data:=.set #[] 0 (.fresh 0 0 b)}):jo b knd h' a []:=
 (_,#[],0,_,[],e,(7,7,7),7,4,7,(7,.nil),7,.nil,λp c=>by cases c)
end
section
variable{K:Type}[DecidableEq K]{knd:KeyKind prog w K}
def cT(w:World):Bool:=!w.params.followText "set-order"
abbrev newS(w:World):Obj:={cls:=.type "set",dict:=none,data:=.set #[] 0 (.fresh 0 0 (cT w))}
theorem Iw(x:Value){Q:Value->Shared->Prop}(h:Q (.ref s.heap.objs.size) {s with heap:=s.heap.push (newS w)}):
  codeAny (model prog w) A (.call (.builtin "set.__new__") ([.type "set",x],[])) (wants Q E) s:=by
 refine codeAny_of_tree ?_
 refine wpAny_bind (m:=checkBuiltinCall "set.__new__" ([.type "set",x],[])) (wpAny_of_eq (PySem.F.newCall_set_1 x) (wpAny_pure (plainId_quiet PySem.F.plain_set_new _,codeAny_builtin PySem.F.entry_set_new ?_)))
 rw[Around.under_plainId PySem.F.plain_set_new _];unfold Builtin.«set.__new__» Builtin.Frozenset.newClass;have a:=PySem.sub_set_self;obtain⟨e,g,d,b,c⟩:=s;dsimp only
 wp_walk
 refine wpAny_askSetting (wpAny_pure ?_);dsimp only;simp only[newObj];refine wpAny_bind (wpAny_alloc (wpAny_pure ?_));exact wpAny_pure h
set_option maxRecDepth 100000 in
set_option maxHeartbeats 3200000 in
theorem yC{l:Addr}{f:Nat->K}{Q:Value->Shared->Prop}(hh:A.handled=none)(hl:s.heap.IsList l y)(hf:∀i v,y[i]?=some v->knd.is (f i) v=true/\v.scannable=true)(hb:(met f y.size).length+1<scanBound)
  (h:∀(a:Heap) (tk:Nat),jo (cT w) knd a s.heap.objs.size (met f y.size)->(∀c o,c<s.heap.objs.size->s.heap.get? c=some o->a.get? c=some o)->Q (.ref s.heap.objs.size) {s with heap:=a,toks:=tk}):
  wpAny (model prog w) A (call (.type "set") [.ref l]) Q E s:=by
 obtain⟨c,tl,T⟩:=PySem.F.called_set.mro;have H:=PySem.F.called_set.made;have S:=PySem.F.called_set.sub
 refine wpAny_call (codeAny_of_tree (show wpAny _ _ (callAny (.type "set") _) _ _ _ from ?_))
 refine wpAny_pure (Code.quiet_builtin _ (by decide +kernel),codeAny_builtin PySem.F.entry_type_call ?_)
 rw[Around.under_plain (weight_type_call_type "set" [.ref l] []) rfl]
 have n1:=PySem.F.called_set.notType;have n2:=PySem.F.called_set.canCreate;have n3:=PySem.F.typeCall_set_1 (.ref l)
 repeat (any_goals (first|assumption|wp_step))
 refine codeAny_mono (Iw (.ref l) (E:=E) (Q:=λL J=>L=.ref s.heap.objs.size/\J={s with heap:=s.heap.push (newS w)}) (7,7)) λr J x=>?_;cases r with
 |error e=>exact x
 |ok fl=>
  cases fl with
  |ret L=>
   obtain⟨rfl,rfl⟩:=x;have O:(s.heap.push (newS w)).get? s.heap.objs.size=some (newS w):=Heap.get?_push_size _ rfl
   have hT:Shared.TypeIs {s with heap:=s.heap.push (newS w)} (.ref s.heap.objs.size) "set":=(_,O,7)
   have i1:=PySem.F.called_set.init.lookup;have i2:=PySem.F.called_set.init.bind (.ref s.heap.objs.size)
   repeat (any_goals (first|assumption|wp_step))
   refine codeAny_mono (codeAny_call_builtin (R:=wants (λr I=>r=.none /\ ∃a tk,I={s with heap:=a,toks:=tk}/\jo (cT w) knd a s.heap.objs.size (met f y.size)/\(∀c o,c<s.heap.objs.size->s.heap.get? c=some o->a.get? c=some o)) E)
    PySem.F.called_set.init.plain PySem.F.entry_set_init (check_set_init_1 hT ?_)) λX I g=>?_
   ·obtain⟨Y,k,q,M,p⟩:=hl;obtain⟨P,j,G,d⟩:=Y;simp only at q p;subst q;subst p
    have e1:(s.heap.push (newS w)).get? l=some {cls:=.type "list",dict:=j,data:=.seq y M,slots:=d}:=Heap.get?_push_of_some _ k
    have q1:=PySem.F.sub_list_set;have q2:=PySem.F.sub_list_frozenset
    have q3:(Value.type "list" == Value.type "dict")=false:=by decide
    have n:(s.heap.push (newS w)).IsList l y:=(_,e1,7,M,7);unfold Builtin.«set.__init__» noKeywords Builtin.Frozenset.updateFrom;generalize D:pyIter=PI
    wp_walk
    subst D;refine wpAny_pyIter_list n (wpAny_bind (wpAny_runValue ?_));have m:l<s.heap.objs.size:=Heap.lt_size k;have u:(s.heap.push (newS w)).objs.size=s.heap.objs.size+1:=Heap.size_push ..;have h3:A.in1.in1.in1.handled=none:=by simp[hh]
    have n4:l≠(s.heap.push (newS w)).objs.size:=by rw[u];exact aan (ahk m)
    have Z:s.heap.objs.size∉[(s.heap.push (newS w)).objs.size,l]:=λz=>by
     rcases aas.mp z with z|z
     ·exact absurd (z.trans u) (aan (agW _))
     ·exact absurd (aam.mp z).symm (aan m)
    refine Rv (b:=cT w) (knd:=knd) ((Walks.list h3 _ l n4 y).toS) s.heap.objs.size Z f hf hb (y.size-0) 0 _ ⋯ (aaD _) ((_,Heap.get?_push_size _ rfl,7,7),n.push _) (Qn (cT w) (Heap.get?_push_of_some _ O)) λW t U=>?_;obtain⟨a,g1,d1,B,C⟩:=W;have eg:g1=s.gens:=t.gens;have ed:d1=s.drawn:=t.drawn;have eo:C=s.os:=t.os;subst eg;subst ed;subst eo;refine wpAny_pure (show wpAny _ _ (ret Value.none) _ _ _ from wpAny_pure (7,a,B,7,U,λc o N e=>?_));refine t.heap c o (λz=>?_) (Heap.get?_push_of_some _ (Heap.get?_push_of_some _ e));rcases aas.mp z with z|z
    ·exact absurd z (aan N)
    ·exact absurd ((aam.mp z).trans u) (aan (ahk N))
   ·cases X with
    |error e=>exact g
    |ok ZF=>
     cases ZF with
     |ret r=>
      obtain⟨rfl,a,tk,rfl,V,k1⟩:=g
      repeat (any_goals (first|assumption|wp_step))
      exact h _ _ V k1
     |_=>exact g.elim
  |_=>exact x.elim
end
theorem fD:Slot "set_iterator" "__next__" "set_iterator.__next__":=
 Slot.of (id := "set_iterator.__next__") (owner := "set_iterator") (n := "__next__") (by rw[typeLookup_type,builtinLookup_eq_fast];kernel_rfl) (by decide +kernel) (by decide +kernel) (by decide +kernel) (by first|exact .inl (by decide +kernel) | exact .inr (by decide +kernel)) (by rw[isSubtype_type];kernel_rfl)
theorem gm:entryFor table "set_iterator.__next__" = some Builtin.«set_iterator.__next__»:=entryFor_of_fast (by kernel_rfl)
theorem gZ(x:Value):argsOk "set_iterator.__next__" ([x],[]):=by unfold argsOk;kernel_rfl
theorem Gi:Slot "set_iterator" "__iter__" "set_iterator.__iter__":=
 Slot.of (id := "set_iterator.__iter__") (owner := "set_iterator") (n := "__iter__") (by rw[typeLookup_type,builtinLookup_eq_fast];kernel_rfl) (by decide +kernel) (by decide +kernel) (by decide +kernel) (by first|exact .inl (by decide +kernel) | exact .inr (by decide +kernel)) (by rw[isSubtype_type];kernel_rfl)
theorem xx:entryFor table "set_iterator.__iter__" = some Builtin.«dict_keyiterator.__iter__»:=entryFor_alias (id' := "dict_keyiterator.__iter__") (by kernel_rfl) rfl (by decide +kernel) (by kernel_rfl)
theorem zN(x:Value):argsOk "set_iterator.__iter__" ([x],[]):=by unfold argsOk;kernel_rfl
theorem uZ:entryFor table "set.__iter__" = some Builtin.«frozenset.__iter__»:=entryFor_alias (id' := "frozenset.__iter__") (by kernel_rfl) rfl (by decide +kernel) (by kernel_rfl)
abbrev Vp(first:Value)(i:Int)(a:Value)(n b:Nat):Obj:={cls:=.type "set_iterator",data:=.fields #[first,.int i 0,a,.int n 0,.int b 0]}
structure cF(h:Heap)(S:Addr)(o:Obj)(es:Array (Int×Value))(ep:Nat)(t:SetTable):Prop where
 get:h.get? S=some o
 dat:o.data=.set es ep t
 fit:t.fits es.size=true
theorem Gz{o:Obj}{c:Array (Int×Value)}{nx i:Nat}{t:SetTable}{x:Value}{Q:Option Value->Shared->Prop}(b:s.heap.get? a=some (Vp (.int R 0) i (.ref f) c.size n))(d:cF s.heap f o c n t)
  (e:∀(q:Around) (j:Option (Value×Nat)->Shared->Prop) (p:Value->Shared->Prop),j (some (pq x nx)) s->wpAny (model prog w) q (setNext f R i n) j p s)
  (k:∀h',h'.get? a=some (Vp (.int nx 0) (i+1:Nat) (.ref f) c.size n)->Heap.SameBut a s.heap h'->Q (some x) {s with heap:=h'}):wpAny (model prog w) A (pyNext (.ref a)) Q E s:=by
 have g:s.TypeIs (.ref a) "set_iterator":=(_,b,7)
 unfold pyNext
 refine wpAny_bind (wpAny_attempt (wpAny_callSpecial?_slot (name:=Str.ofString "__next__") g fD (wpAny_call_entry fD g gm ?_ (gZ _))))
 unfold Builtin.«set_iterator.__next__»
 refine wpAny_bind (m:=slotArgs "__next__" 0 _) (wpAny_pure ?_)
 refine wpAny_bind (wpAny_fieldsOf b rfl ?_);dsimp only;refine wpAny_bind (wpAny_setEntries_of d.get d.dat d.fit ?_);rw[if_neg (by simp)];rw[abG,abG,abG];refine wpAny_bind (e _ _ _ ?_);dsimp only;refine wpAny_bind (wpAny_setField b rfl (by simp) ?_);have h:(s.heap.update a (Obj.mapFields (·.setIfInBounds 0 (rawInt nx)))).get? a=some (Vp (.int nx 0) i (.ref f) c.size n):=Heap.get?_update_self _ b rfl;refine wpAny_bind (wpAny_setField (s:={s with heap:=s.heap.update a (Obj.mapFields (·.setIfInBounds 0 (rawInt nx)))}) h rfl (by simp) ?_);have l:((s.heap.update a (Obj.mapFields (·.setIfInBounds 0 (rawInt nx)))).update a (Obj.mapFields (·.setIfInBounds 1 (rawInt ((i:Int)+1))))).get? a=some (Vp (.int nx 0) (i+1:Nat) (.ref f) c.size n):=Heap.get?_update_self _ h rfl;exact wpAny_pure (x,7,wpAny_pure (k _ l ((Heap.SameBut.update ..).trans (Heap.SameBut.update ..))))
theorem next_end{o:Obj}{h:Array (Int×Value)}{i:Nat}{t:SetTable}{Q:Option Value->Shared->Prop}(k:A.handled=none)(c:s.heap.get? a=some (Vp (.int R 0) i (.ref f) h.size n))(d:cF s.heap f o h n t)
  (e:∀(q:Around) (j:Option (Value×Nat)->Shared->Prop) (p:Value->Shared->Prop),j none s->wpAny (model prog w) q (setNext f R i n) j p s)
  (l:∀h',Heap.ExtBut a s.heap h'->Q none {s with heap:=h'}):wpAny (model prog w) A (pyNext (.ref a)) Q E s:=by
 have g:s.TypeIs (.ref a) "set_iterator":=(_,c,7)
 unfold pyNext
 refine wpAny_bind (wpAny_attempt (wpAny_callSpecial?_slot (name:=Str.ofString "__next__") g fD (wpAny_call_entry fD g gm ?_ (gZ _))))
 unfold Builtin.«set_iterator.__next__»
 refine wpAny_bind (m:=slotArgs "__next__" 0 _) (wpAny_pure ?_)
 refine wpAny_bind (wpAny_fieldsOf c rfl ?_);dsimp only;refine wpAny_bind (wpAny_setEntries_of d.get d.dat d.fit ?_);rw[if_neg (by simp),abG,abG,abG];refine wpAny_bind (e _ _ _ ?_);dsimp only;refine wpAny_bind (wpAny_setField c rfl (by simp) ?_)
 refine wpAny_bind (m:=newExc (.type "StopIteration") []) ?_
 simp only[newExc,newTuple];refine wpAny_bind (wpAny_newObj_type ?_ (by size_fits));refine wpAny_bind (m:=firstArgMember _ _) (wpAny_of_eq (a:=Value.none) (by first|rfl | (simp only[firstArgMember];rfl)) ?_);refine wpAny_newObj_type ?_ (by size_fits);simp only[raiseNew];refine wpAny_bind (wpAny_handled ?_);rw[show A.in1.handled=none from k];refine wpAny_bind (wpAny_pure (wpAny_throw ?_))
 refine wpAny_bind (wpAny_isInstance (T := "StopIteration") (b:=true) (_,Heap.get?_push_size _ rfl,7) isSubtype_stop ?_)
 exact wpAny_pure (l _ (((Heap.SameBut.update ..).extBut.push _).push _))
theorem nD{b:Type}:∀{l:List b}{i:Nat}{x:b},l[i]?=some x->agx (x::l.eraseIdx i) l
 |[],i,x,h=>by simp at h
 |a::l,0,x,h=>by
  cases h;exact .rfl
 |a::l,i+1,x,h=>by
  rw[List.eraseIdx_cons_succ];exact(List.Perm.swap a x _).trans ((nD (by simpa using h)).cons a)
theorem Gk{c:Type}(nx:Nat->Nat):∀(a k:Nat) (left:List c) (out:Array c),left.length=a->agx (pickOrder.go nx a k left out).toList (out.toList++left)
 |0,k,left,out,h=>by
  have:left=[]:=aia h;subst this;unfold pickOrder.go;simp
 |a+1,k,left,out,h=>by
  have b:nx k%left.length<left.length:=ajG _ ⋯;have e:=aad b;unfold pickOrder.go;rw[e];refine(Gk nx a (k+1) _ _ (by rw[aio b];lia)).trans ?_;rw[agR,aaG];exact(nD e).append_left _
theorem qF(nx:Nat->Nat)(xs:Array O):agx (pickOrder nx xs).toList xs.toList:=by
 have:=Gk nx xs.size 0 xs.toList #[] (by simp);rw[ahW]at this;exact this
section
variable{o:Obj}{es:Array (Int×Value)}{ep:Nat}{t:SetTable}
theorem m5{Q:Bool->Shared->Prop}(h:Q (!cT w) s):wpAny (model prog w) A setsByText Q E s:=by
 unfold setsByText;refine wpAny_bind (wpAny_askSetting (wpAny_pure ?_));unfold cT at h;rw[ajC]at h;exact h
theorem Ai(a:cF s.heap S o es ep t)(ht:cT w=false){i:Nat}{Q:Option (Value×Nat)->Shared->Prop}(h:Q (((pickOrder (w.params.setOrder S ep) es)[i]?).map λe=>(pq e.2 n)) s):wpAny (model prog w) A (setNext S n i ep) Q E s:=by
 unfold setNext;refine wpAny_bind (wpAny_setState_of a.get a.dat a.fit ?_);dsimp only;refine wpAny_bind (m5 ?_);rw[ht];simp only[ajr,if_true,bne_self_eq_false,agr,if_false];refine wpAny_bind ?_;unfold setWalk;refine wpAny_bind (wpAny_setState_of a.get a.dat a.fit ?_);dsimp only;refine wpAny_bind (m5 ?_);rw[ht];simp only[ajr,if_true];refine wpAny_bind (wpAny_askSetting (wpAny_pure (wpAny_pure h)))
theorem yq(a:cF s.heap S o es ep t)(ht:cT w=true)(c:t.led=true)(b:¬((!t.plain&&decide (es.size > 1))=true)){i:Nat}{Q:Option (Value×Nat)->Shared->Prop}
  (h:Q (match es[SetTable.below t.place n]?,t.place[SetTable.below t.place n]? with|some (_,x),some j=>some (pq x (j+1)) | _,_=>none) s):wpAny (model prog w) A (setNext S n i ep) Q E s:=by
 unfold setNext;refine wpAny_bind (wpAny_setState_of a.get a.dat a.fit ?_);dsimp only;refine wpAny_bind (m5 ?_);rw[ht];simp only[ajv,agr,if_false];split
 ·rename_i d;exact absurd d b
 refine wpAny_bind (show wpAny _ _ (if (!t.led && !es.isEmpty)=true then unsupported "set:maker-not-led" else pure PUnit.unit) _ _ _ from ?_)
 rw[c,ajv,ajp,if_neg aal];exact wpAny_pure (wpAny_pure h)
theorem HS(a:cF s.heap S o es ep t){k:Nat}{e:Int×Value}(b:es[k]?=some e){Q:Value->Shared->Prop}(h:Q e.2 s):wpAny (model prog w) A (setNextDrawn S k ep) Q E s:=by
 unfold setNextDrawn;refine wpAny_bind (wpAny_setState_of a.get a.dat a.fit ?_);dsimp only;rw[bne_self_eq_false,if_neg aal,b];exact wpAny_pure h
theorem G5{c:Type}:∀(n:Nat) (xs:List c) (s:Shared) {Q:List c->Shared->Prop},xs.length=n->(∀l d,agx l xs->Q l {s with drawn:=d})->wpAny (model prog w) A (drawOrder n xs) Q E s
 |0,xs,s,Q,a,h=>by
  have:xs=[]:=aia a;subst this;unfold drawOrder;have:=h [] s.drawn .rfl;exact wpAny_pure this
 |n+1,[],s,Q,a,h=>by simp at a
 |n+1,x::xs,s,Q,a,h=>by
  unfold drawOrder;refine wpAny_bind ?_;intro Γ p hΓ;rw[show (choose Source.order (x::xs).length:Sem Nat)=Sem.choose .order (x::xs).length pure from rfl,Sem.wp_choose];refine(by simp,8);generalize (model prog w).w.draws Source.order (s.drawn.get Source.order)=v;have b:v%(x::xs).length<(x::xs).length:=ajG _ (by simp);have e:=aad b
  show wpAny (model prog w) A (match (x::xs)[v%(x::xs).length]? with|some y=>(do return y::(<-drawOrder n ((x::xs).eraseIdx (v%(x::xs).length)))) | none=>unsupported "internal:drawOrder") Q E {s with drawn:=s.drawn.bump Source.order}
  rw[e];refine wpAny_bind (G5 n _ _ (by rw[aio b];simp at a ⊢;lia) λl d p=>wpAny_pure (h _ d ((p.cons _).trans (nD e))))
end
section
variable{o:Obj}{es:Array (Int×Value)}{ep:Nat}{t:SetTable}
theorem K5(a:cF s.heap S o es ep t)(g:o.cls=.type "set")(h:es.size<scanBound){Q:Value->Shared->Prop}
  (k:¬((cT w&&(!t.plain&&decide (es.size > 1)))=true)->Q (.ref s.heap.objs.size) {s with heap:=s.heap.push (Vp (.int 0 0) 0 (.ref S) es.size ep)})
  (j:(cT w&&(!t.plain&&decide (es.size > 1)))=true -> ∀(l:List Nat) d,agx l (agq es.size)->Q (.ref (s.heap.objs.size+1)) {s with heap:=(s.heap.push {cls:=.type "tuple",data:=.seq (l.map λi:Nat=>rawInt i).toArray 0}).push (Vp (.ref s.heap.objs.size) 0 (.ref S) es.size ep),drawn:=d}):
  wpAny (model prog w) A (pyIter (.ref S)) Q E s:=by
 have f:s.TypeIs (.ref S) "set":=(_,a.get,g)
 refine wpAny_pyIter_slot f PySem.F.slot_set_iter (wpAny_call_entry PySem.F.slot_set_iter f uZ ?_ (PySem.F.args_set_iter_1 _));unfold Builtin.«frozenset.__iter__»
 refine wpAny_bind (m:=Builtin.Frozenset.slot0 "__iter__" _) (wpAny_pure ?_)
 refine wpAny_bind (m:=Builtin.Frozenset.sizeOf S) (wpAny_bind (wpAny_setEntries_of a.get a.dat a.fit (wpAny_pure ?_)));refine wpAny_bind (m:=setDrawn S) ?_;unfold setDrawn;refine wpAny_bind (wpAny_setState_of a.get a.dat a.fit ?_);dsimp only;refine wpAny_bind (m5 (wpAny_pure ?_));rw[ajC];split
 ·rename_i b;refine wpAny_bind (G5 _ _ _ agA λl d c=>?_);refine wpAny_bind (wpAny_newTuple ?_ (by rw[aaa,c.length_eq,agA];exact fits_of_scanBound h));refine wpAny_bind (wpAny_setEpoch_of (Heap.get?_push_of_some _ a.get) a.dat a.fit ?_)
  refine wpAny_bind (wpAny_newObj_type (wpAny_pure (5,"set_iterator",_,(_,Heap.get?_push_size _ rfl,7),fD.lookup,8)))
  have e:(s.heap.push {cls:=.type "tuple",data:=.seq (l.map λi:Nat=>rawInt i).toArray 0}).objs.size=s.heap.objs.size+1:=Heap.size_push ..
  have q:=j b l d c;rw[<-e]at q;exact q
 ·rename_i b;refine wpAny_bind (wpAny_pure ?_);refine wpAny_bind (wpAny_setEpoch_of a.get a.dat a.fit ?_)
  refine wpAny_bind (wpAny_newObj_type (wpAny_pure (5,"set_iterator",_,(_,Heap.get?_push_size _ rfl,7),fD.lookup,8)))
  exact k b
abbrev YH(l:List Nat):Obj:={cls:=.type "tuple",data:=.seq (l.map λi:Nat=>rawInt i).toArray 0}
theorem JQ{T:Addr}{i k:Nat}{l:List Nat}{e:Int×Value}{Q:Option Value->Shared->Prop}(b:s.heap.get? a=some (Vp (.ref T) i (.ref S) es.size ep))(n:s.heap.get? T=some (YH l))(c:cF s.heap S o es ep t)(f:l[i]?=some k)(g:es[k]?=some e)
  (h:∀h',h'.get? a=some (Vp (.ref T) (i+1:Nat) (.ref S) es.size ep)->Heap.SameBut a s.heap h'->Q (some e.2) {s with heap:=h'}):wpAny (model prog w) A (pyNext (.ref a)) Q E s:=by
 have d:s.TypeIs (.ref a) "set_iterator":=(_,b,7)
 unfold pyNext
 refine wpAny_bind (wpAny_attempt (wpAny_callSpecial?_slot (name:=Str.ofString "__next__") d fD (wpAny_call_entry fD d gm ?_ (gZ _))))
 unfold Builtin.«set_iterator.__next__»
 refine wpAny_bind (m:=slotArgs "__next__" 0 _) (wpAny_pure ?_)
 refine wpAny_bind (wpAny_fieldsOf b rfl ?_);dsimp only;refine wpAny_bind (wpAny_setEntries_of c.get c.dat c.fit ?_);rw[if_neg (by simp)];refine wpAny_bind (wpAny_seqItems n rfl ?_);have j:(l.map λi:Nat=>rawInt i).toArray[(i:Int).toNat]?=some (rawInt k):=by
  rw[abG,ahF,aag,f];rfl
 dsimp only;rw[j];dsimp only [rawInt];rw[abG,abG];refine wpAny_bind (HS c g ?_);refine wpAny_bind (wpAny_setField b rfl (by simp) ?_);exact wpAny_pure (5,wpAny_pure (h _ (Heap.get?_update_self _ b rfl) (Heap.SameBut.update ..)))
theorem JN{T:Addr}{i:Nat}{l:List Nat}{Q:Option Value->Shared->Prop}(g:A.handled=none)(c:s.heap.get? a=some (Vp (.ref T) i (.ref S) es.size ep))(n:s.heap.get? T=some (YH l))(d:cF s.heap S o es ep t)(f:l[i]?=none)
  (h:∀h',Heap.ExtBut a s.heap h'->Q none {s with heap:=h'}):wpAny (model prog w) A (pyNext (.ref a)) Q E s:=by
 have e:s.TypeIs (.ref a) "set_iterator":=(_,c,7)
 unfold pyNext
 refine wpAny_bind (wpAny_attempt (wpAny_callSpecial?_slot (name:=Str.ofString "__next__") e fD (wpAny_call_entry fD e gm ?_ (gZ _))))
 unfold Builtin.«set_iterator.__next__»
 refine wpAny_bind (m:=slotArgs "__next__" 0 _) (wpAny_pure ?_)
 refine wpAny_bind (wpAny_fieldsOf c rfl ?_);dsimp only;refine wpAny_bind (wpAny_setEntries_of d.get d.dat d.fit ?_);rw[if_neg (by simp)];refine wpAny_bind (wpAny_seqItems n rfl ?_);have k:(l.map λi:Nat=>rawInt i).toArray[(i:Int).toNat]?=none:=by
  rw[abG,ahF,aag,f];rfl
 dsimp only;rw[k];dsimp only;refine wpAny_bind (wpAny_setField c rfl (by simp) ?_);have j:(s.heap.update a (Obj.mapFields (·.setIfInBounds 0 (rawInt 0)))).get? a=some (Vp (.int 0 0) i (.ref S) es.size ep):=Heap.get?_update_self _ c rfl;refine wpAny_bind (wpAny_setField (s:={s with heap:=s.heap.update a (Obj.mapFields (·.setIfInBounds 0 (rawInt 0)))}) j rfl (by simp) ?_)
 refine wpAny_bind (m:=newExc (.type "StopIteration") []) ?_
 simp only[newExc,newTuple];refine wpAny_bind (wpAny_newObj_type ?_ (by size_fits));refine wpAny_bind (m:=firstArgMember _ _) (wpAny_of_eq (a:=Value.none) (by first|rfl | (simp only[firstArgMember];rfl)) ?_);refine wpAny_newObj_type ?_ (by size_fits);simp only[raiseNew];refine wpAny_bind (wpAny_handled ?_);rw[show A.in1.handled=none from g];refine wpAny_bind (wpAny_pure (wpAny_throw ?_))
 refine wpAny_bind (wpAny_isInstance (T := "StopIteration") (b:=true) (_,Heap.get?_push_size _ rfl,7) isSubtype_stop ?_)
 exact wpAny_pure (h _ ((((Heap.SameBut.update ..).trans (Heap.SameBut.update ..)).extBut.push _).push _))
end
section
variable{it:Addr}{o:Obj}{es:Array (Int×Value)}{ep:Nat}{t:SetTable}
theorem rF(a:s.TypeIs (.ref it) "set_iterator"){Q:Value->Shared->Prop}(h:Q (.ref it) s):wpAny (model prog w) A (pyIter (.ref it)) Q E s:=by
 refine wpAny_pyIter_slot a Gi (wpAny_call_entry Gi a xx ?_ (zN _));show wpAny _ _ (ret (.ref it)) _ _ s
 exact wpAny_pure (5,"set_iterator",_,a,fD.lookup,h)
theorem cF.at{h':Heap}(a:cF base S o es ep t)(e:∀o,base.get? S=some o->h'.get? S=some o):cF h' S o es ep t:=(e _ a.get,a.dat,a.fit)
abbrev uF(ps:List (Int×Value))(i:Nat)(v:Value):Prop:=∃e,ps[i]?=some e/\v=e.2
theorem Jw(p:A.handled=none)(ht:cT w=false)(k:S≠it):
  Walks prog w A it [it,S] [it] es.size (uF (pickOrder (w.params.setOrder S ep) es).toList) (λi h=>h.get? it=some (Vp (.int 0 0) i (.ref S) es.size ep)/\cF h S o es ep t) where
 sub:=λb c=>by simp at c;simp[c]
 frame:=λ_ _ _ a m=>(m it (by simp) _ a.1,a.2.at λo e=>m S (by simp) o e)
 item:=λi s Q E n a d=>by
  have g:(pickOrder (w.params.setOrder S ep) es).size=es.size:=by
   have:=(qF (w.params.setOrder S ep) es).length_eq;simpa using this
  obtain⟨e,f⟩:∃e,(pickOrder (w.params.setOrder S ep) es)[i]?=some e:=((pickOrder (w.params.setOrder S ep) es)[i]'(by omega),by simp[g,n]);refine Gz a.1 a.2 (x:=e.2) (nx:=0) (λv r u h=>Ai a.2 ht (by rw[f];exact h)) λj q l=>?_;exact d e.2 j s.toks (e,by rw[abv];exact f,7) (q,a.2.at λo e=>l.extBut S o k e) λb o c e=>l.extBut b o (λh=>c (by simp[h])) e
 done:=λs Q E a d=>by
  have g:(pickOrder (w.params.setOrder S ep) es).size=es.size:=by
   have:=(qF (w.params.setOrder S ep) es).length_eq;simpa using this
  refine next_end p a.1 a.2 (λv r u h=>Ai a.2 ht (by rw[show (pickOrder (w.params.setOrder S ep) es)[es.size]?=none by simp[g]];exact h)) λj f=>?_;exact d j s.toks λb o c e=>f b o (λh=>c (by simp[h])) e
 self:=λ_ _ _ _ a d=>rF (_,a.1,7) d
def slotAt(t:SetTable):Nat->Nat
 |0=>0
 |i+1=>t.place.getD i 0+1
theorem vy(h:t.place.toList.Pairwise (· < ·)){i:Nat}(d:i<=t.place.size):SetTable.below t.place (slotAt t i)=i:=by
 obtain⟨k,g,f⟩:=De h (slotAt t i);generalize SetTable.below t.place (slotAt t i)=b at k g f;rcases ahL b i with c|c|c
 ·exfalso
  match i,d,c,g,f with
  |i+1,d,c,g,f=>
   have a:=f b ⋯ (aac _);have e:slotAt t (i+1)=t.place[i]'(by omega)+1:=by simp[slotAt,ai6,show i<t.place.size by omega]
   rw[e]at a;rcases aay b i with j|j
   ·have:=pQ h j (show i<t.place.size by lia);lia
   ·have:b=i:=by lia
    subst this;lia
 ·exact c
 ·exfalso;have a:=g i ⋯ c
  match i,d,c,a with
  |0,d,c,a=>exact absurd a (ahJ _)
  |i+1,d,c,a=>
   have e:slotAt t (i+1)=t.place[i]'(by omega)+1:=by simp[slotAt,ai6,show i<t.place.size by omega]
   rw[e]at a;have:=pQ h (show i<i+1 by lia) (show i+1<t.place.size by lia);lia
theorem Ep(v:A.handled=none)(ht:cT w=true)(j:fU true t)(f:t.fits es.size=true)(n:¬((!t.plain&&decide (es.size > 1))=true))(l:S≠it):
  Walks prog w A it [it,S] [it] es.size (uF es.toList) (λi h=>h.get? it=some (Vp (.int (slotAt t i) 0) i (.ref S) es.size ep)/\cF h S o es ep t) where
 sub:=λb c=>by simp at c;simp[c]
 frame:=λ_ _ _ a q=>(q it (by simp) _ a.1,a.2.at λo e=>q S (by simp) o e)
 item:=λi s Q E r a d=>by
  have p:t.place.size=es.size:=by
   simp[SetTable.fits]at f;exact f.1
  have g:es[i]?=some es[i]:=by simp[r]
  have u:t.place[i]?=some (t.place[i]'(by omega)):=by simp[p,r]
  have e:slotAt t (i+1)=t.place[i]'(by omega)+1:=by simp[slotAt,ai6,show i<t.place.size by omega]
  refine Gz a.1 a.2 (x:=es[i].2) (nx:=slotAt t (i+1)) (λC z B h=>yq a.2 ht j.1 n (by rw[vy j.2 ⋯,g,u];rw[e]at h;exact h)) λk y m=>?_;exact d es[i].2 k s.toks (es[i],by rw[abv];exact g,7) (y,a.2.at λo e=>m.extBut S o l e) λb o c e=>m.extBut b o (λh=>c (by simp[h])) e
 done:=λs Q E a d=>by
  have p:t.place.size=es.size:=by
   simp[SetTable.fits]at f;exact f.1
  refine next_end v a.1 a.2 (λC z B h=>yq a.2 ht j.1 n (by rw[vy j.2 ⋯,show es[es.size]?=none by simp];exact h)) λk g=>?_;exact d k s.toks λb o c e=>g b o (λh=>c (by simp[h])) e
 self:=λ_ _ _ _ a d=>rF (_,a.1,7) d
theorem Ec{T:Addr}{l:List Nat}(I:A.handled=none)(n:agx l (agq es.size))(u:S≠it)(z:T≠it):
  Walks prog w A it [it,S,T] [it] es.size (uF (l.filterMap λk=>es[k]?)) (λi h=>h.get? it=some (Vp (.ref T) i (.ref S) es.size ep)/\cF h S o es ep t/\h.get? T=some (YH l)) where
 sub:=λb j=>by simp at j;simp[j]
 frame:=λ_ _ _ c d=>(d it (by simp) _ c.1,c.2.1.at λo e=>d S (by simp) o e,d T (by simp) _ c.2.2)
 item:=λi s Q E H c m=>by
  have f:l.length=es.size:=by rw[n.length_eq,agA]
  have d:l[i]?=some (l[i]'(by omega)):=by simp[f,H]
  have v:l[i]'(by omega)<es.size:=ahw.mp (n.mem_iff.mp (acV _));have p:es[l[i]'(by omega)]?=some (es[l[i]'(by omega)]):=by simp[v]
  have F:(l.filterMap λk=>es[k]?)[i]?=some (es[l[i]'(by omega)]):=by
   have G:∀g:List Nat,(∀k∈g,k<es.size)->(g.filterMap λk=>es[k]?).map some=g.map λk=>es[k]?:=by
    intro g
    induction g with
    |nil=>intro _;rfl
    |cons a g D=>
     intro h;have C:es[a]?=some (es[a]'(h a aaL)):=by simp[h a aaL]
     rw[aho,C,aar,aar,D λk d=>h k (aaC _ d),C]
   have:=congrArg (λx=>x[i]?) (G l λk d=>ahw.mp (n.mem_iff.mp d));simp only[aag,d,ah0,p]at this;cases B:(l.filterMap λk=>es[k]?)[i]? with
   |none=>rw[B]at this;cases this
   |some y=>rw[B]at this;injection this
  refine JQ c.1 c.2.2 c.2.1 d p λr J q=>?_;exact m _ r s.toks (_,F,7) (J,c.2.1.at λo e=>q.extBut S o u e,q.extBut T _ z c.2.2) λb o j e=>q.extBut b o (λh=>j (by simp[h])) e
 done:=λs Q E c m=>by
  have f:l.length=es.size:=by rw[n.length_eq,agA]
  refine JN I c.1 c.2.2 c.2.1 (by simp[f]) λr p=>?_;exact m r s.toks λb o j e=>p b o (λh=>j (by simp[h])) e
 self:=λ_ _ _ _ c m=>rF (_,c.1,7) m
theorem wZ(es:Array (Int×Value)):((agq es.size).filterMap λk=>es[k]?)=es.toList:=by
 apply ahl;intro i;have c:∀n,n<=es.size->((agq n).filterMap λk=>es[k]?)=es.toList.take n:=by
  intro n
  induction n with
  |zero=>intro _;simp
  |succ n b=>
   intro h;have a:es[n]?=some (es[n]'(by omega)):=by simp[show n<es.size by omega]
   rw[agL,List.filterMap_append,b ⋯,aho,a,List.filterMap_nil,abH,abv,a];rfl
 rw[c es.size (aac _)];rw[aai (by simp)]
theorem HF(i:A.handled=none)(g:cF s.heap S o es ep t)(n:o.cls=.type "set")(a:es.size<scanBound)(m:fU (cT w) t){Q:Value->Shared->Prop}
  (h:∀(I:Addr) (h':Heap) d fp ps St,agx ps es.toList->Walks prog w A I fp [I] es.size (uF ps) St->St 0 h'->(∀b o,s.heap.get? b=some o->h'.get? b=some o)->s.heap.objs.size<=I->(∀b∈fp,b=S\/s.heap.objs.size<=b)->Q (.ref I) {s with heap:=h',drawn:=d}):
  wpAny (model prog w) A (pyIter (.ref S)) Q E s:=by
 have f:S<s.heap.objs.size:=Heap.lt_size g.get;refine K5 g n a (λc=>?_) λc l d j=>?_
 ·cases ht:cT w with
  |false=>
   refine h s.heap.objs.size _ s.drawn _ _ _ (qF _ _) (Jw (o:=o) (t:=t) i ht (aan f)) (Heap.get?_push_size _ rfl,g.at λo e=>Heap.get?_push_of_some _ e) (λb o e=>Heap.get?_push_of_some _ e) (aac _) ?_;intro b a;simp at a;rcases a with rfl|rfl
   ·exact .inr (aac _)
   ·exact .inl rfl
  |true=>
   rw[ht]at m c;rw[Bool.true_and]at c;refine h s.heap.objs.size _ s.drawn _ _ _ .rfl (Ep (o:=o) (t:=t) i ht m g.fit c (aan f)) (Heap.get?_push_size _ rfl,g.at λo e=>Heap.get?_push_of_some _ e) (λb o e=>Heap.get?_push_of_some _ e) (aac _) ?_;intro b a;simp at a;rcases a with rfl|rfl
   ·exact .inr (aac _)
   ·exact .inl rfl
 ·have p:(s.heap.push (YH l)).objs.size=s.heap.objs.size+1:=Heap.size_push ..;refine h (s.heap.objs.size+1) _ d _ _ _ ?_ (Ec (o:=o) (t:=t) (T:=s.heap.objs.size) i j (aan (ahk f)) (aan (agW _))) (8,g.at λo e=>Heap.get?_push_of_some _ (Heap.get?_push_of_some _ e),Heap.get?_push_of_some _ (Heap.get?_push_size _ rfl)) (λb o e=>Heap.get?_push_of_some _ (Heap.get?_push_of_some _ e)) (ahe _) ?_
  ·have:=j.filterMap λk=>es[k]?;rw[wZ]at this;exact this
  ·rw[<-p];exact Heap.get?_push_size _ rfl
  ·intro b a;simp at a;rcases a with rfl|rfl|rfl
   ·exact .inr (ahe _)
   ·exact .inl rfl
   ·exact .inr (aac _)
end
section
variable{o:Obj}{es:Array (Int×Value)}{ep:Nat}{t:SetTable}
theorem Mx{Q:Bool->Shared->Prop}(a:s.TypeIs (.ref S) "set")(h:Q false s):wpAny (model prog w) A (Builtin.List.listLengthHint (.ref S)) Q E s:=by
 unfold Builtin.List.listLengthHint;refine wpAny_bind (wpAny_specialOf a PySem.F.slot_set_len.lookup ?_)
 generalize d:("set.__len__" : String)=i0
 wp_delta
 rw[show splitId i0=some (pq ("set") ("__len__")) by subst d;decide +kernel]
 subst d
 refine wpAny_bind (wpAny_isInstance (T := "set") (b:=true) a (by rw[isSubtype_type];kernel_rfl) ?_)
 refine wpAny_ite_split (λc=>absurd c ∅) λ_=>wpAny_ite_split (λ_=>?_) λc=>absurd (by decide +kernel) c;exact wpAny_bind (wpAny_typeOf a (wpAny_pure h))
theorem Fp{s d:Shared}(m:Moved g (λa b=>b=a) s d):d={s with heap:=d.heap,toks:=d.toks}:=by
 obtain⟨j,l,p,e,h⟩:=d;obtain⟨k,n,q,f,i⟩:=s;have a:=m.gens;have b:=m.drawn;have c:=m.os;dsimp only at a b c;subst a;subst b;subst c;rfl
theorem rW{Q:List Value->Shared->Prop}(V:A.handled=none)(D:cF s.heap S o es ep t)(B:o.cls=.type "set")(i:es.size<scanBound)(X:fU (cT w) t)
  (h:∀(c:Array Value) (h':Heap) d tk ps,agx ps es.toList->ItemsOf (uF ps) c es.size->s.heap.objs.size<h'.objs.size->(∀b o,s.heap.get? b=some o->h'.get? b=some o)->Q c.toList {s with heap:=h',drawn:=d,toks:=tk}):
  wpAny (model prog w) A (collect (.ref S)) Q E s:=by
 have J:=Heap.lt_size D.get
 have a0:s.TypeIs (.ref S) "set":=(_,D.get,B)
 have H:es.size<=sizeLine:=fits_of_scanBound i;unfold collect;refine wpAny_bind (wpAny_runValue (codeAny_builtin PySem.F.entry_proto_collect ?_));rw[Around.under_plainId PySem.F.plain_proto_collect _];refine wpAny_bind (m:=newList []) (wpAny_newObj_type (wpAny_pure (plainId_quiet PySem.F.plain_list_iadd _,codeAny_builtin PySem.F.entry_list_iadd ?_)));rw[Around.under_plainId PySem.F.plain_list_iadd _]
 show wpAny _ A.in1 (Builtin.List.listExtendWith (.ref s.heap.objs.size) (.ref S) (.ref s.heap.objs.size)) _ _ {s with heap:=s.heap.push (seqObj "list" #[] 0)}
 generalize k:s.heap.objs.size=L at *
 have g:∀b o,s.heap.get? b=some o->(s.heap.push (seqObj "list" #[] 0)).get? b=some o:=λb o e=>Heap.get?_push_of_some _ e
 have M:(s.heap.push (seqObj "list" #[] 0)).get? L=some (seqObj "list" #[] 0):=by
  rw[<-k];exact Heap.get?_push_size _ rfl
 have a:(s.heap.push (seqObj "list" #[] 0)).objs.size=L+1:=by rw[<-k];exact Heap.size_push ..
 generalize s.heap.push (seqObj "list" #[] 0)=G at *
 have j:cF G S o es ep t:=D.at λo e=>g _ _ e;have p:L≠S:=λe=>absurd J (by rw[e];exact agt _)
 have x:Shared.TypeIs {s with heap:=G} (.ref S) "set":=(_,j.get,B)
 unfold Builtin.List.listExtendWith;refine wpAny_bind (wpAny_typeOf x ?_);rw[if_neg (by simp[Builtin.List.listSameRef,p])];refine wpAny_bind (HF (s:={s with heap:=G}) (by simp[V]) j B i X λI l d Y ps St U W R C P K=>?_)
 have r:l.get? L=some (seqObj "list" #[] 0):=C _ _ M
 have v:Shared.TypeIs {s with heap:=l,drawn:=d} (.ref S) "set":=(_,C _ _ j.get,B)
 refine wpAny_bind (wpAny_holding (Mx v ?_));rw[if_pos ∅];refine wpAny_bind (wpAny_rule (wpAny_bind ?_));have a1:L≠I:=λe=>by
  have:L+1<=I:=a ▸ P;lia
 have n:L∉Y:=λz=>by
  rcases K _ z with z|z
  ·exact p z
  ·rw[a]at z;lia
 show wpAny _ _ (updateSeq L (·.push .none) >>= λ_=>updateSeq L (·.pop)) _ _ _;refine wpAny_bind (wpAny_updateSeq r rfl ?_);have q:=Heap.get?_update_self (Obj.mapSeq (·.push Value.none)) r rfl;refine wpAny_updateSeq (hz:=by seq_fits) q rfl ?_;have Z:=Heap.get?_update_self (Obj.mapSeq (·.pop)) q rfl;have f:∀b o,b≠L->l.get? b=some o->((l.update L (Obj.mapSeq (·.push Value.none))).update L (Obj.mapSeq (·.pop))).get? b=some o:=λb o i e=>(Heap.get?_update_other _ _ (agG i)).trans ((Heap.get?_update_other _ _ (agG i)).trans e);generalize ((l.update L (Obj.mapSeq (·.push Value.none))).update L (Obj.mapSeq (·.pop)))=h2 at *;refine wpAny_pure (plainId_quiet PySem.F.plain_extend_loop _,codeAny_extend_loopS W.toS H L n _ es.size 0 _ #[] _ rfl (aaD _) (W.frame 0 _ _ R λb i o e=>f b o (λz=>n (z ▸ i)) e) Z (ItemsOf.nil _) λT c c' O u y=>?_);rw[Fp O];refine wpAny_bind (wpAny_load u (wpAny_pure ?_));refine h c T.heap d _ ps U y (Heap.lt_size u) λb o e=>O.heap b o (λz=>?_) (f b o ?_ (C _ _ (g _ _ e)))
 ·have:=Heap.lt_size e;rcases aas.mp z with z|z
  ·rw[z,k]at this;exact agt _ this
  ·rw[aam.mp z,k]at this;have N:L+1<=I:=by rw[<-a];exact P
   exact absurd (aak (agW L) N) (Nat.lt_asymm this)
 ·intro z;have:=Heap.lt_size e;rw[z,k]at this;exact agt _ this
end
theorem JB{c:Array (Int×Value)}{n:List (Int×(Int×Value))}(u:lH (intKind prog w) c.toList d n){ps:List (Int×Value)}(f:agx ps c.toList)(g:ItemsOf (uF ps) y c.size):∃j,IntsAre y.toList j/\agx j d:=by
 obtain⟨h,a⟩:=u.perm f;have l:ps.length=c.size:=by rw[f.length_eq,aaf]
 have k:y.toList=ps.map (·.2):=by
  apply ahl;intro i;rw[aag];cases m:y.toList[i]? with
  |none=>
   have:y.toList.length<=i:=aiv.mp m;rw[aaf,g.1,<-l]at this;rw[ahb this];rfl
  |some v=>
   obtain⟨e,z,x⟩:=g.2 i v (by rw[<-abv];exact m);rw[z,x];rfl
 refine(h.map (·.1),8,a.fst);rw[k,<-a.snd];have b:=a.is
 clear a k l g f
 induction h with
 |nil=>exact .nil
 |cons p h o=>
  obtain⟨t,ht⟩:=Value.isInt_shape (b p aaL).1;rw[aar,aar,aar,ht];exact .cons _ t (o λq r=>b q (aaC _ r))
end Tw
namespace L2
open PySem.Spec PyProof.Rows Tw
theorem Inv.drawnTo(I:Inv X π σ H s)(d:Drawn):Inv X π σ H {s with drawn:=d}:=
 I.step (g':=s.gens) (t':=s.toks) (d':=d) (ch:=[]) (λ_ z=>nomatch z) (λ_ _ _ _ _ e _=>e) (λb o _ _ _ e _=>(o.slots,e)) (λ_ _ _ _ n=>n) (λb o _ e=>(o,e)) (λ_ _ e=>e) (λ_ _ _ e=>e) (λb a e=>(#[],by rw[e];simp)) (λ_ h=>h) I.hok I.bare
def QR(P:Program)(w:World)(a:Addr)(b:List Int):HO:=.ext λh=>jo (cT w) (intKind P w) h a b
theorem O9{w:World}{a:Addr}(e:jo (cT w) (intKind prog w) h' a d):bH prog w H h' a (QR prog w a d):=by
 refine(e,8,λ_ _ p k=>p.at k);obtain⟨o,_,_,_,_,b,_⟩:=e;exact(o,b)
theorem Jk(F:X.calm=true):eU X (.type "set") (λxs H Q=>∃(p:Addr) (a:List Int),xs=[.ref p]/\T6 X.K H p (a.map V.int)/\(met (λi=>a.getD i 0) a.length).length+1<scanBound /\
  ∀l k o,H l=none->k=met (λi=>a.getD i 0) a.length->o=QR X.prog X.w l k->Q (.ref l) (upd H l o)):=by
 intro π s σ H xs M Q I r h;obtain⟨p,a,rfl,D,G,q⟩:=h;obtain⟨u,rfl,z⟩:=vals1 r;cases z;obtain⟨c,A,B,N⟩:=I.list D;have m:=intsAre_of A;have g:=m.length;have d:c.toArray.size=a.length:=by simpa using g
 refine yC (knd:=intKind X.prog X.w) (f:=λi=>a.getD i 0) (I.ok.hd F) B.isList (λi v e=>?_) (by rw[d];exact G) λO y x E=>?_
 ·have L:c[i]?=some v:=by simpa using e
  have:∀{j:List Value}{a:List Int},IntsAre j a -> ∀(i:Nat) v,j[i]?=some v->Value.isInt (a.getD i 0) v=true/\v.scannable=true:=by
   intro j a J
   induction J with
   |nil=>intro i v e;simp at e
   |cons n t _ C=>
    intro i v e;cases i with
    |zero=>
     simp at e;subst e;exact(by simp[Value.isInt],7)
    |succ i=>exact C i v (by simpa using e)
  exact this m i v L
 ·rw[d]at x;exact(.ref s.heap.objs.size,_,I.laid (t':=y) (λb o e=>E b o (Heap.lt_size e) e) (aac _) (O9 x),7,q _ _ _ (I.hok.fresh (aac _)) rfl rfl)
end L2
namespace Tw
open PyProof.Rows
structure TB(a₀:Array Keyed)(pd:Array (Nat×Nat×Nat))(st:SortSt):Prop where
 perm:(arrOf st).Perm a₀
 kind:kindOf st=oneType'
 failed:failedOf st=none
 pend:pendingOf st=pd
theorem TB.size{a₀:Array Keyed}{a:Array (Nat×Nat×Nat)}{st:SortSt}(h:TB a₀ a st):(arrOf st).size=a₀.size:=h.perm.size_eq
theorem TB.set{a₀:Array Keyed}{a:Array (Nat×Nat×Nat)}{st:SortSt}(h:TB a₀ a st){xs:Array Keyed}(b:xs.Perm (arrOf st)):TB a₀ a (setArr st xs):=(b.trans h.perm,h.kind,h.failed,h.pend)
def Vd(κ:KeyKind)(xs:Array Keyed)(lo n:Nat):Prop:=∀i j,i<=j->j<n->κ.kle (KK κ xs (lo+i)) (KK κ xs (lo+j))
def Vq(κ:KeyKind)(xs:Array Keyed)(lo n:Nat):Prop:=∀i j,i<=j->j<n->κ.kle (KK κ xs (lo+j)) (KK κ xs (lo+i))
def UW(lo:Nat)(xs ys:Array Keyed):Prop:=∀k:Nat,k<lo->ys[k]?=xs[k]?
theorem UW.refl(lo:Nat)(xs:Array Keyed):UW lo xs xs:=λ_ _=>rfl
theorem UW.trans{lo:Nat}{xs ys zs:Array Keyed}(h:UW lo xs ys)(g:UW lo ys zs):UW lo xs zs:=λk a=>(g k a).trans (h k a)
theorem iU{lo i j:Nat}{xs:Array Keyed}(a:j<=xs.size)(c:lo<=i):UW lo xs (mirror xs i j ((j-i) / 2)):=λk b=>by
 rw[getElem?_mirror_all a,if_neg ⋯]
theorem Vd.one(κ:KeyKind)(xs:Array Keyed)(lo:Nat):Vd κ xs lo 1:=λi j a b=>by
 have:i=j:=by lia
 subst this;exact KeyOrd.kle_refl _
theorem Vd.more{κ:KeyKind}{xs:Array Keyed}{lo x:Nat}(h:Vd κ xs lo x)(g:1<=x)(e:κ.blt (KK κ xs (lo+x)) (KK κ xs (lo+x-1))=false):Vd κ xs lo (x+1):=λi j c f=>by
 by_cases a:j<x
 ·exact h i j c a
 have b:j=x:=by lia
 subst b;by_cases d:i=j
 ·subst d;exact KeyOrd.kle_refl _
 refine KeyOrd.kle_trans (h i (j-1) ⋯ ⋯) ?_;rw[show lo+(j-1)=lo+j-1 by lia];exact e
theorem Vq.more{κ:KeyKind}{xs:Array Keyed}{lo x:Nat}(h:Vq κ xs lo x)(g:1<=x)(e:κ.kle (KK κ xs (lo+x)) (KK κ xs (lo+x-1))):Vq κ xs lo (x+1):=λi j c f=>by
 by_cases a:j<x
 ·exact h i j c a
 have b:j=x:=by lia
 subst b;by_cases d:i=j
 ·subst d;exact KeyOrd.kle_refl _
 have q:=h i (j-1) ⋯ ⋯;rw[show lo+(j-1)=lo+j-1 by lia]at q;exact KeyOrd.kle_trans e q
theorem Vq.turn{κ:KeyKind}{xs:Array Keyed}{lo n:Nat}(h:Vq κ xs lo n)(a:lo+n<=xs.size):Vd κ (mirror xs lo (lo+n) ((lo+n-lo) / 2)) lo n:=λi j b c=>by
 rw[KK_mirror a,KK_mirror a,if_pos ⋯,if_pos ⋯];have q:=h (n-1-j) (n-1-i) ⋯ ⋯;rw[show lo+(lo+n)-1-(lo+i)=lo+(n-1-i) by lia,show lo+(lo+n)-1-(lo+j)=lo+(n-1-j) by lia];exact q
theorem Vq.keys{κ:KeyKind}{xs ys:Array Keyed}{lo n:Nat}(h:Vq κ xs lo n)(e:∀k,KK κ ys k=KK κ xs k):Vq κ ys lo n:=λi j a b=>by
 rw[e,e];exact h i j a b
section
variable{a₀:Array Keyed}{κ:KeyKind}{pd:Array (Nat×Nat×Nat)}
theorem TB.atK{st:SortSt}(h:TB a₀ pd st)(g:KeysOf κ a₀){i:Nat}(f:i<a₀.size):∃x p a,(arrOf st)[i]?=some (pq x p)/\κ.keyOf x=some a/\KK κ (arrOf st) i=a:=by
 have b:i<(arrOf st).size:=by rw[h.size];exact f
 have d:(arrOf st)[i]∈a₀.toList:=(ag6.mp h.perm).mem_iff.mp (adJ _);obtain⟨a,c⟩:=g _ d;have e:(arrOf st)[i]?=some (pq ((arrOf st)[i].1) ((arrOf st)[i].2)):=getElem?_pos _ i b;exact(1,a,e,c,by unfold KK;rw[e];simp[c])
theorem oZ{st:SortSt}{i j:Nat}{Q:Option Bool->SortSt->Prop}(n:κ.OneLt)(c:TB a₀ pd st)(d:KeysOf κ a₀)(k:i<a₀.size)(g:j<a₀.size)
  (h:Q (some (κ.blt (KK κ (arrOf st) i) (KK κ (arrOf st) j))) st):wpS (model prog w) A E s (ltAt' i j) Q st:=by
 obtain⟨x,p,a,r,m,f⟩:=c.atK d k;obtain⟨y,q,b,o,l,e⟩:=c.atK d g;rw[f,e]at h;exact wpS_ltAtK n c.kind r o m l h
theorem Bo{st:SortSt}{lo :Nat}{Q:Option Nat->SortSt->Prop}(hO:κ.OneLt)(h0:KeysOf κ a₀)(P:TB a₀ pd st)(hn:lo+n<=a₀.size)(h1:1<=n)
  (h:∀m e,TB a₀ pd e->UW lo (arrOf st) (arrOf e)->1<=m->m<=n->Vd κ (arrOf e) lo m->Q (some m) e):wpS (model prog w) A E s (countRun' lo n) Q st:=by
 have a0:∀(a:Nat) (f:SortSt),TB a₀ pd f->1<=a->a<=n->Vd κ (arrOf f) lo a -> ∀(G:Option (Option Nat)×Nat->SortSt->Prop),
   (∀d,a<=d->d<=n->Vd κ (arrOf f) lo d->(d=n\/κ.klt (KK κ (arrOf f) (lo+d)) (KK κ (arrOf f) (lo+d-1)))->G (pq none d) f) ->
   wpS (model prog w) A E s (forIn [a:n] ((pq none a):Option (Option Nat)×Nat) λ_ r=>do
    let x <-ltAt' (lo+r.2) (lo+r.2-1)
    match x with
    |some b=>if b=true then pure (ForInStep.done (pq none r.2))else pure (ForInStep.yield (pq none (r.2+1)))
    |_=>pure (ForInStep.done (pq (some none) r.2))) G f:=by
  intro a f U b6 b1 T G O;refine wpS_forRange (I:=λx c e=>e=f/\c=(pq none x)/\Vd κ (arrOf f) lo x) ?_ ?_ (7,7,T)
  ·rintro x c e S a3 ⟨rfl,rfl,C⟩;refine wpS_bind (oZ hO U h0 ⋯ ⋯ ?_);cases V:κ.blt (KK κ (arrOf e) (lo+x)) (KK κ (arrOf e) (lo+x-1))
   ·exact wpS_pure (7,7,C.more ⋯ V)
   ·exact wpS_pure (O x S ⋯ C (.inr V))
  ·rintro c e ⟨rfl,rfl,C⟩;rw[show max a n=n by lia]at C ⊢;exact O n b1 (aac _) C (.inl rfl)
 have B:∀{i j:Nat}{f:SortSt}{G:Unit->SortSt->Prop},G () (setArr f (mirror (arrOf f) i j ((j-i) / 2)))->wpS (model prog w) A E s (reverseSlice' i j) G f:=λO=>by
  rw[reverseSlice'_eq];exact wpS_modify O
 have L:∀(d:Nat) (f:SortSt) (k:Option (Option Nat)×Nat->StateT SortSt Sem (Option Nat)),(∀m,k (pq none m)=pure (some m))->TB a₀ pd f->UW lo (arrOf st) (arrOf f)->1<=d->d<=n->Vq κ (arrOf f) lo d ->
   wpS (model prog w) A E s (reverseSlice' lo (lo+d) >>= λ_=>(forIn [d:n] ((pq none d):Option (Option Nat)×Nat) λ_ r=>do
     let x <-ltAt' (lo+r.2) (lo+r.2-1)
     match x with
     |some b=>if b=true then pure (ForInStep.done (pq none r.2))else pure (ForInStep.yield (pq none (r.2+1)))
     |_=>pure (ForInStep.done (pq (some none) r.2))) >>= k) Q f:=by
  intro d f k hk U hL J H hd;have p:lo+d<=(arrOf f).size:=by rw[U.size];lia
  refine wpS_bind (B ?_);have K:TB a₀ pd (setArr f (mirror (arrOf f) lo (lo+d) ((lo+d-lo) / 2))):=U.set (mirror_perm _ _ _ _);refine wpS_bind (a0 d _ K J H (hd.turn p) _ λm X v a4 _=>?_);rw[hk];exact wpS_pure (h m _ K (hL.trans (iU p (aac _))) ⋯ v a4)
 have N:∀(M:Nat) (f:SortSt),TB a₀ pd f->UW lo (arrOf st) (arrOf f)->1<=M->M<=n->Vq κ (arrOf f) lo M -> ∀(G:Option (Option Nat)×Nat×Nat->SortSt->Prop),
   (∀m q e,TB a₀ pd e->UW lo (arrOf st) (arrOf e)->M<=m->m<=n->Vq κ (arrOf e) lo m->q+1<=m->(∀i,lo+m-(q+1)<=i->i<lo+m->KK κ (arrOf e) i=KK κ (arrOf e) (lo+m-1))->G (pq none (pq m q)) e) ->
   wpS (model prog w) A E s (forIn [M:n] ((pq none (pq M 0)):Option (Option Nat)×Nat×Nat) λ_ r=>ltAt' (lo+r.2.1) (lo+r.2.1-1) >>= λx=>match x with
    |some b=>if b=true then (if r.2.2 > 0 then (reverseSlice' (lo+r.2.1-(r.2.2+1)) (lo+r.2.1) >>= λ_=>pure (ForInStep.yield (pq none (pq (r.2.1+1) 0))))else pure (ForInStep.yield (pq none (pq (r.2.1+1) 0))))
     else (ltAt' (lo+r.2.1-1) (lo+r.2.1) >>= λy=>match y with
      |some b=>if b=true then pure (ForInStep.done (pq none (pq r.2.1 r.2.2)))else pure (ForInStep.yield (pq none (pq (r.2.1+1) (r.2.2+1))))
      |_=>pure (ForInStep.done (pq (some none) (pq r.2.1 r.2.2))))
    |_=>pure (ForInStep.done (pq (some none) (pq r.2.1 r.2.2)))) G f:=by
  intro M f U hL b5 D hd G O;refine wpS_forRange (I:=λx c e=>∃q,c=(pq none (pq x q))/\TB a₀ pd e/\UW lo (arrOf st) (arrOf e)/\Vq κ (arrOf e) lo x/\q+1<=x /\ ∀i,lo+x-(q+1)<=i->i<lo+x->KK κ (arrOf e) i=KK κ (arrOf e) (lo+x-1)) ?_ ?_ (0,7,U,hL,hd,9,λi a b=>by congr 1;lia)
  ·rintro x c e S a3 ⟨q,rfl,g,o,l,YJ,F⟩;have p:lo+x<=(arrOf e).size:=by rw[g.size];lia
   dsimp only;refine wpS_bind (oZ hO g h0 ⋯ ⋯ ?_);cases V:κ.blt (KK κ (arrOf e) (lo+x)) (KK κ (arrOf e) (lo+x-1))
   ·refine wpS_bind (oZ hO g h0 ⋯ ⋯ ?_);cases hg:κ.blt (KK κ (arrOf e) (lo+x-1)) (KK κ (arrOf e) (lo+x))
    ·have eq:KK κ (arrOf e) (lo+x)=KK κ (arrOf e) (lo+x-1):=κ.total _ _ V hg;refine wpS_pure (q+1,7,g,o,l.more ⋯ (by rw[eq];exact KeyOrd.kle_refl _),9,λi a b=>?_);rw[show lo+(x+1)-1=lo+x by lia,eq];by_cases hi:i=lo+x
     ·rw[hi,eq]
     ·exact F i ⋯ ⋯
    ·exact wpS_pure (O x q e g o S ⋯ l YJ F)
   ·have W:∀ys:Array Keyed,(∀k,KK κ ys k=KK κ (arrOf e) k)->Vq κ ys lo (x+1):=λys hk=>(l.more ⋯ (KeyOrd.kle_of_klt V)).keys hk;show wpS _ _ _ _ (if q > 0 then _ else _) _ _;by_cases t:q > 0
    ·rw[if_pos t];refine wpS_bind (B (wpS_pure (0,7,g.set (mirror_perm _ _ _ _),o.trans (iU p ⋯),W _ λk=>KK_mirror_equal p F k,9,λi a b=>by congr 1;lia)))
    ·rw[if_neg t];exact wpS_pure (0,7,g,o,W _ λk=>rfl,9,λi a b=>by congr 1;lia)
  ·rintro c e ⟨q,rfl,g,o,l,YJ,F⟩;rw[show max M n=n by lia]at l YJ F ⊢;exact O n q e g o D (aac _) l YJ F
 rw[countRun'_eq];refine wpS_bind (a0 1 st P (aac _) h1 (Vd.one κ _ lo) _ λd J H T a7=>?_);dsimp only;by_cases D:d=n
 ·rw[if_pos (by simpa using D)];exact wpS_pure (h d st P (UW.refl _ _) J H T)
 rw[if_neg (by simpa using D)];have Y:=a7.resolve_left D;by_cases Z:d > 1
 ·rw[if_pos Z];refine wpS_bind (oZ hO P h0 ⋯ ⋯ ?_);have p:lo+d<=(arrOf st).size:=by rw[P.size];lia
  cases a5:κ.blt (KK κ (arrOf st) lo) (KK κ (arrOf st) (lo+d-1))
  ·have z:∀k,lo<=k->k<lo+d->KK κ (arrOf st) k=KK κ (arrOf st) (lo+d-1):=λk b3 b2=>by
    have a1:=T 0 (k-lo) ⋯ ⋯;have a2:=T (k-lo) (d-1) ⋯ ⋯;rw[show lo+(k-lo)=k by lia]at a1 a2;rw[show lo+(d-1)=lo+d-1 by lia]at a2;exact KeyOrd.kle_antisymm a2 (KeyOrd.kle_trans a5 a1)
   refine wpS_bind (B (wpS_bind (wpS_lift (wpAny_rule (7,8)))));have K:TB a₀ pd (setArr st (mirror (arrOf st) lo (lo+d) ((lo+d-lo) / 2))):=P.set (mirror_perm _ _ _ _);refine wpS_bind (N (d+1) _ K (iU p (aac _)) ⋯ ⋯ ?_ _ λm q e g o X v l a6 F=>?_)
   ·refine Vq.keys (xs:=arrOf st) (λi j a9 hj=>?_) λk=>KK_mirror_equal p z k;by_cases b4:j<d
    ·rw[z (lo+i) ⋯ ⋯,z (lo+j) ⋯ ⋯];exact KeyOrd.kle_refl _
    have:j=d:=by lia
    subst this;by_cases R:i=j
    ·subst R;exact KeyOrd.kle_refl _
    rw[z (lo+i) ⋯ ⋯];exact KeyOrd.kle_of_klt Y
   ·have u:lo+m<=(arrOf e).size:=by rw[g.size];lia
    dsimp only;by_cases t:q > 0
    ·rw[if_pos t];exact wpS_bind (B (L m _ _ (λ_=>rfl) (g.set (mirror_perm _ _ _ _)) (o.trans (iU u ⋯)) ⋯ v (l.keys λk=>KK_mirror_equal u F k)))
    ·rw[if_neg t];exact L m _ _ (λ_=>rfl) g o ⋯ v l
  ·exact wpS_pure (h d st P (UW.refl _ _) J H T)
 ·rw[if_neg Z];have:d=1:=by lia
  subst this;refine wpS_bind (wpS_lift (wpAny_rule (7,8)));refine wpS_bind (N (1+1) _ P (UW.refl _ _) ⋯ ⋯ ?_ _ λm q e g o X v l a6 F=>?_)
  ·intro i j a9 hj;by_cases R:i=j
   ·subst R;exact KeyOrd.kle_refl _
   have b0:i=0:=by lia
   have a8:j=1:=by lia
   subst b0;subst a8;exact KeyOrd.kle_of_klt Y
  ·have u:lo+m<=(arrOf e).size:=by rw[g.size];lia
   dsimp only;by_cases t:q > 0
   ·rw[if_pos t];exact wpS_bind (B (L m _ _ (λ_=>rfl) (g.set (mirror_perm _ _ _ _)) (o.trans (iU u ⋯)) ⋯ v (l.keys λk=>KK_mirror_equal u F k)))
   ·rw[if_neg t];exact L m _ _ (λ_=>rfl) g o ⋯ v l
theorem wY{st:SortSt}{lo n :Nat}{Q:Bool->SortSt->Prop}(R:κ.OneLt)(U:KeysOf κ a₀)(S:TB a₀ pd st)(hn:lo+n<=a₀.size)(W:i<=n)(O:Vd κ (arrOf st) lo i)
  (h:∀b,TB a₀ pd b->UW lo (arrOf st) (arrOf b)->Vd κ (arrOf b) lo n->Q true b):wpS (model prog w) A E s (binarySort' lo n i) Q st:=by
 rw[binarySort'_eq];refine wpS_bind (wpS_mono (wpS_forRange (I:=λk c b=>c=(pq none (()))/\TB a₀ pd b/\UW lo (arrOf st) (arrOf b)/\Vd κ (arrOf b) lo (min k n)) (Q:=λc b=>c=(pq none (()))/\TB a₀ pd b/\UW lo (arrOf st) (arrOf b)/\Vd κ (arrOf b) lo n) ?_ ?_ ?_) ?_)
 ·rintro k c b Z Y ⟨rfl,f,o,e⟩;rw[show min k n=k by lia]at e;have y:lo+k<a₀.size:=by lia
  refine wpS_bind (wpS_mono (wpS_forRange (I:=λx c d=>d=b /\ ∃l r,c=(pq none (pq l r))/\l<=r/\r<=k/\r-l<=k-x/\(∀a,a<l->κ.kle (KK κ (arrOf b) (lo+a)) (KK κ (arrOf b) (lo+k))) /\ ∀a,r<=a->a<k->κ.klt (KK κ (arrOf b) (lo+k)) (KK κ (arrOf b) (lo+a)))
   (Q:=λc d=>d=b /\ ∃l r,c=(pq none (pq l r))/\l<=k/\(∀a,a<l->κ.kle (KK κ (arrOf b) (lo+a)) (KK κ (arrOf b) (lo+k))) /\ ∀a,l<=a->a<k->κ.klt (KK κ (arrOf b) (lo+k)) (KK κ (arrOf b) (lo+a))) ?_ ?_ ?_) ?_)
  ·rintro x c d _ V ⟨rfl,l,r,rfl,z,p,P,g,m⟩;dsimp only;by_cases v:l >= r
   ·rw[if_pos v];have:l=r:=by lia
    subst this;exact wpS_pure (7,l,l,7,p,g,m)
   rw[if_neg v];refine wpS_bind (oZ R f U y ⋯ ?_);cases K:κ.blt (KK κ (arrOf d) (lo+k)) (KK κ (arrOf d) (lo+(l+r) / 2))
   ·refine wpS_pure (7,_,5,9,p,9,λa M=>?_,m);exact KeyOrd.kle_trans (e a ((l+r) / 2) ⋯ ⋯) K
   ·refine wpS_pure (7,_,5,9,9,9,g,λa C B=>?_);exact KeyOrd.klt_of_klt_of_kle K (e ((l+r) / 2) a C B)
  ·rintro c d ⟨rfl,l,r,rfl,z,p,P,g,m⟩;have:l=r:=by lia
   subst this;exact(7,l,l,7,p,g,m)
  ·exact(7,0,k,7,9,9,9,λa M=>by lia,λa T h2=>by lia)
  ·rintro c d ⟨rfl,l,r,rfl,X,g,m⟩;dsimp only;rw[moveDown'_eq];refine wpS_bind (wpS_modify (wpS_pure (7,f.set (bubble_perm _ _ _),o.trans λa M=>?_,λa j q L=>?_)))
   ·rw[getElem?_bubble (by rw[f.size];exact y) _ ⋯,if_neg ⋯,if_neg ⋯]
   have N:∀t,t<=k->KK κ (bubble (arrOf d) (lo+k) (lo+k-(lo+l))) (lo+t)=if t=l then KK κ (arrOf d) (lo+k)else if l<t then KK κ (arrOf d) (lo+(t-1))else KK κ (arrOf d) (lo+t):=λt ht=>by
    rw[KK_bubble (by rw[f.size];exact y) ⋯];by_cases F:t=l
    ·rw[if_pos ⋯,if_pos F]
    rw[if_neg ⋯,if_neg F];by_cases D:l<t
    ·rw[if_pos ⋯,if_pos D,show lo+t-1=lo+(t-1) by lia]
    ·rw[if_neg ⋯,if_neg D]
   rw[show min (k+1) n=k+1 by lia]at L;show κ.kle (KK κ (bubble (arrOf d) (lo+k) (lo+k-(lo+l))) (lo+a)) (KK κ (bubble (arrOf d) (lo+k) (lo+k-(lo+l))) (lo+j));rw[N a ⋯,N j ⋯];by_cases J:a=l
   ·rw[if_pos J];by_cases u:j=l
    ·rw[if_pos u];exact KeyOrd.kle_refl _
    rw[if_neg u,if_pos ⋯];exact KeyOrd.kle_of_klt (m (j-1) ⋯ ⋯)
   rw[if_neg J];by_cases H:l<a
   ·rw[if_pos H,if_neg (show ¬j=l by lia),if_pos (show l<j by lia)];exact e (a-1) (j-1) ⋯ ⋯
   rw[if_neg H];by_cases u:j=l
   ·rw[if_pos u];exact g a ⋯
   rw[if_neg u];by_cases G:l<j
   ·rw[if_pos G];exact e a (j-1) ⋯ ⋯
   rw[if_neg G];exact e a j q ⋯
 ·rintro c b ⟨rfl,f,o,e⟩;rw[show min (max (max i 1) n) n=n by lia]at e;exact(7,f,o,e)
 ·refine(7,S,UW.refl _ _,λa j q L=>?_);by_cases T:i=0
  ·have:a=j:=by lia
   subst this;exact KeyOrd.kle_refl _
  ·exact O a j q ⋯
 ·rintro c b ⟨rfl,f,o,e⟩;exact wpS_pure (h b f o e)
end
def gj:Bool->Keyed->Array Keyed->Nat->Nat->Nat->StateT SortSt Sem (Option Nat):=sortPriv% PySem.Builtin.gallop
def Q5(b:Nat->StateT SortSt Sem (Option Bool))(n hint:Nat):StateT SortSt Sem (Option Nat):=do
 let mut la:=0
 let mut u:=1
 let mut l:=0
 let mut h:=0
 let some r <-b hint|return none
 if r then
  let a:=n-hint
  for _ in [0:n] do
   if u >= a then break
   let some mo <-b (hint+u) | return none
   if !mo then break
   la:=u
   u:=2*u+1
  l:=hint+la+1
  h:=hint+min u a
 else
  let a:=hint+1
  for _ in [0:n] do
   if u >= a then break
   let some fo <-b (hint-u) | return none
   if fo then break
   la:=u
   u:=2*u+1
  l:=hint+1-min u a
  h:=hint-la
 for _ in [0:n] do
  if l >= h then break
  let m:=l+(h-l) / 2
  let some mo <-b m|return none
  if mo then l:=m+1 else h:=m
 return some h
def Gj(left:Bool)(a:Keyed)(b:Array Keyed)(base i:Nat):StateT SortSt Sem (Option Bool):=do
 let x <-elem' b (base+i)
 if left then lt' x a else return (<-lt' a x).map (!·)
theorem FJ(left:Bool)(a:Keyed)(b:Array Keyed)(base n hint:Nat):gj left a b base n hint=Q5 (Gj left a b base) n hint:=rfl
section
variable{κ:KeyKind}
theorem MT{N:Nat->StateT SortSt Sem (Option Bool)}{n hint:Nat}{st:SortSt}{Q:Option Nat->SortSt->Prop}(e:Nat->Bool)(T:hint<n)
  (J:∀i,i<n -> ∀(Q1:Option Bool->SortSt->Prop),Q1 (some (e i)) st->wpS (model prog w) A E s (N i) Q1 st)(g:∀i j,i<=j->j<n->e j=true->e i=true)
  (h:∀r,r<=n->(∀i,i<r->e i=true)->(∀i,r<=i->i<n->e i=false)->Q (some r) st):wpS (model prog w) A E s (Q5 N n hint) Q st:=by
 have bin:∀(l u:Nat),l<=u->u<=n->(∀i,i<l->e i=true)->(∀i,u<=i->i<n->e i=false) -> ∀(Q1:Option (Option Nat)×Nat×Nat->SortSt->Prop),
   (∀r,r<=n->(∀i,i<r->e i=true)->(∀i,r<=i->i<n->e i=false)->Q1 (pq none (pq r r)) st) ->
   wpS (model prog w) A E s (forIn [0:n] ((pq none (pq l u)):Option (Option Nat)×Nat×Nat) λ_ r=>if r.2.1 >= r.2.2 then pure (ForInStep.done (pq none (pq r.2.1 r.2.2)))else N (r.2.1+(r.2.2-r.2.1) / 2) >>= λx=>match x with
    |some b=>if b=true then pure (ForInStep.yield (pq none (pq (r.2.1+(r.2.2-r.2.1) / 2+1) r.2.2)))else pure (ForInStep.yield (pq none (pq r.2.1 (r.2.1+(r.2.2-r.2.1) / 2))))
    |_=>pure (ForInStep.done (pq (some none) (pq r.2.1 r.2.2)))) Q1 st:=by
  intro l u L m o p Q1 B;refine wpS_forRange (I:=λx c a=>a=st /\ ∃l u,c=(pq none (pq l u))/\l<=u/\u<=n/\(u-l)+x<=n/\(∀i,i<l->e i=true) /\ ∀i,u<=i->i<n->e i=false) ?_ ?_ (7,l,u,7,L,m,9,o,p)
  ·rintro x c a _ P ⟨rfl,l,u,rfl,L,m,R,o,p⟩;dsimp only;by_cases f:l >= u
   ·rw[if_pos f];have:l=u:=by lia
    subst this;exact wpS_pure (B l m o p)
   rw[if_neg f];refine wpS_bind (J _ ⋯ _ ?_);cases C:e (l+(u-l) / 2)
   ·refine wpS_pure (7,l,5,9,9,9,o,λi z v=>?_);cases D:e i
    ·rfl
    ·rw[g _ i z v D]at C;exact absurd C ∅
   ·exact wpS_pure (7,_,u,7,9,m,9,λi D=>g i _ ⋯ ⋯ C,p)
  ·rintro c a ⟨rfl,l,u,rfl,L,m,R,o,p⟩;have:l=u:=by lia
   subst this;exact B l m o p
 unfold Q5;refine wpS_bind (J hint T _ ?_);have H:∀i j,i<=j->j<n->e i=false->e j=false:=λi j O S D=>by
  cases C:e j
  ·rfl
  ·rw[g i j O S C]at D;exact absurd D ∅
 cases C:e hint
 ·dsimp only;rw[if_neg ∅];refine wpS_bind (wpS_mono (wpS_forRange (I:=λx c a=>a=st /\ ∃d u,c=(pq none (pq d u))/\d<u/\x+1<=u/\d<=hint/\e (hint-d)=false) (Q:=λc a=>a=st /\ ∃d u,c=(pq none (pq d u))/\d<u/\d<=hint/\e (hint-d)=false/\(u >= hint+1\/e (hint-u)=true)) ?_ ?_ (7,0,(1),7,9,9,9,C)) ?_)
  ·rintro x c a _ P ⟨rfl,d,u,rfl,t,K,q,k⟩;dsimp only;by_cases f:u >= hint+1
   ·rw[if_pos f];exact wpS_pure (7,d,u,7,t,q,k,.inl f)
   rw[if_neg f];refine wpS_bind (J _ ⋯ _ ?_);cases B:e (hint-u)
   ·exact wpS_pure (7,u,5,9,9,9,B)
   ·exact wpS_pure (7,d,u,7,t,q,k,.inr B)
  ·rintro c a ⟨rfl,d,u,rfl,t,K,q,k⟩;exact(7,d,u,7,t,q,k,.inl ⋯)
  ·rintro c a ⟨rfl,d,u,rfl,t,q,k,y⟩;dsimp only;refine wpS_bind (bin _ _ ⋯ ⋯ (λi D=>?_) (λi z v=>H _ i z v k) _ λr G F M=>wpS_pure (h r G F M));rcases y with y|y
   ·lia
   ·exact g i _ ⋯ ⋯ y
 ·dsimp only;rw[if_pos rfl];refine wpS_bind (wpS_mono (wpS_forRange (I:=λx c a=>a=st /\ ∃d u,c=(pq none (pq d u))/\d<u/\x+1<=u/\hint+d<n/\e (hint+d)=true) (Q:=λc a=>a=st /\ ∃d u,c=(pq none (pq d u))/\d<u/\hint+d<n/\e (hint+d)=true/\(u >= n-hint\/e (hint+u)=false)) ?_ ?_ (7,0,(1),7,9,9,9,C)) ?_)
  ·rintro x c a _ P ⟨rfl,d,u,rfl,t,K,q,k⟩;dsimp only;by_cases f:u >= n-hint
   ·rw[if_pos f];exact wpS_pure (7,d,u,7,t,q,k,.inl f)
   rw[if_neg f];refine wpS_bind (J _ ⋯ _ ?_);cases B:e (hint+u)
   ·exact wpS_pure (7,d,u,7,t,q,k,.inr B)
   ·exact wpS_pure (7,u,5,9,9,9,B)
  ·rintro c a ⟨rfl,d,u,rfl,t,K,q,k⟩;exact(7,d,u,7,t,q,k,.inl ⋯)
  ·rintro c a ⟨rfl,d,u,rfl,t,q,k,y⟩;dsimp only;refine wpS_bind (bin _ _ ⋯ ⋯ (λi D=>g i _ ⋯ ⋯ k) (λi z v=>?_) _ λr G F M=>wpS_pure (h r G F M));rcases y with y|y
   ·lia
   ·rcases aay u (n-hint)with c|c
    ·exact H _ i ⋯ v y
    ·lia
def ky(κ:KeyKind)(x:Keyed):κ.α:=(κ.keyOf x.1).getD κ.dflt
theorem Gx{st:SortSt}{x y:Keyed}{Q:Option Bool->SortSt->Prop}(i:κ.OneLt)(g:kindOf st=oneType')(f:∃a,κ.keyOf x.1=some a)(e:∃a,κ.keyOf y.1=some a)
  (h:Q (some (κ.blt (ky κ x) (ky κ y))) st):wpS (model prog w) A E s (lt' x y) Q st:=by
 obtain⟨a,d⟩:=f;obtain⟨b,c⟩:=e;have k:ky κ x=a:=by unfold ky;rw[d];rfl
 have j:ky κ y=b:=by unfold ky;rw[c];rfl
 rw[k,j]at h;rw[lt'_eq];refine wpS_bind (wpS_get ?_);rw[g,keyLt'_oneType];exact wpS_bind (wpS_lift (wpAny_attempt (i prog w A _ s _ _ a b d c (7,wpS_pure h))))
theorem bj{st:SortSt}{xs:Array Keyed}{i:Nat}{Q:Keyed->SortSt->Prop}(a:i<xs.size)(h:Q xs[i] st):wpS (model prog w) A E s (elem' xs i) Q st:=by
 rw[elem'_eq,getElem?_pos xs i a];exact wpS_pure h
def Sd(κ:KeyKind)(xs:Array Keyed)(lo a:Nat):Prop:=∀i j,lo<=i->i<=j->j<a->κ.kle (KK κ xs i) (KK κ xs j)
theorem bK{xs:Array Keyed}{i:Nat}(a:i<xs.size):KK κ xs i=ky κ xs[i]:=by
 unfold KK ky;rw[getElem?_pos xs i a]
theorem ym{st:SortSt}{left:Bool}{b:Keyed}{xs:Array Keyed}{base n hint:Nat}{Q:Option Nat->SortSt->Prop}(m:κ.OneLt)(k:kindOf st=oneType')(q:KeysOf κ xs)(g:∃a,κ.keyOf b.1=some a)(o:Sd κ xs base (base+n))(u:base+n<=xs.size)(p:hint<n)
  (h:∀r,r<=n->(∀i,i<r->(if left then κ.blt (KK κ xs (base+i)) (ky κ b)else !κ.blt (ky κ b) (KK κ xs (base+i)))=true)->(∀i,r<=i->i<n->(if left then κ.blt (KK κ xs (base+i)) (ky κ b)else !κ.blt (ky κ b) (KK κ xs (base+i)))=false)->Q (some r) st):
  wpS (model prog w) A E s (gj left b xs base n hint) Q st:=by
 rw[FJ];have c:∀i (l:i<xs.size),∃a,κ.keyOf xs[i].1=some a:=λi l=>q _ (adJ _);refine MT (λi=>if left then κ.blt (KK κ xs (base+i)) (ky κ b)else !κ.blt (ky κ b) (KK κ xs (base+i))) p (λi l x f=>?_) (λi j t v d=>?_) h
 ·rw[bK ⋯]at f;unfold Gj;refine wpS_bind (bj ⋯ ?_);cases left
  ·rw[if_neg ∅];exact wpS_bind (Gx m k g (c _ ⋯) (wpS_pure f))
  ·rw[if_pos rfl];exact Gx m k (c _ ⋯) g f
 ·have e:=o (base+i) (base+j) ⋯ ⋯ ⋯;cases left
  ·have d:(!κ.blt (ky κ b) (KK κ xs (base+j)))=true:=d;show (!κ.blt (ky κ b) (KK κ xs (base+i)))=true;rw[ahi]at d ⊢;exact KeyOrd.kle_trans e d
  ·exact KeyOrd.klt_of_kle_of_klt e d
theorem j5{st:SortSt}{c:Keyed}{xs:Array Keyed}{base n hint:Nat}{Q:Option Nat->SortSt->Prop}(m:κ.OneLt)(j:kindOf st=oneType')(o:KeysOf κ xs)(d:∃a,κ.keyOf c.1=some a)(e:Sd κ xs base (base+n))(g:base+n<=xs.size)(l:hint<n)
  (h:∀r,r<=n->(∀i,i<r->κ.kle (KK κ xs (base+i)) (ky κ c))->(∀i,r<=i->i<n->κ.klt (ky κ c) (KK κ xs (base+i)))->Q (some r) st):wpS (model prog w) A E s (gj false c xs base n hint) Q st:=by
 refine ym m j o d e g l λr f t p=>h r f (λi k=>?_) λi a b=>?_
 ·have q:(!κ.blt (ky κ c) (KK κ xs (base+i)))=true:=t i k;rw[ahi]at q;exact q
 ·have q:(!κ.blt (ky κ c) (KK κ xs (base+i)))=false:=p i a b;rw[Bool.not_eq_false']at q;exact q
theorem gq{st:SortSt}{c:Keyed}{xs:Array Keyed}{base n hint:Nat}{Q:Option Nat->SortSt->Prop}(m:κ.OneLt)(j:kindOf st=oneType')(o:KeysOf κ xs)(d:∃a,κ.keyOf c.1=some a)(e:Sd κ xs base (base+n))(g:base+n<=xs.size)(l:hint<n)
  (h:∀r,r<=n->(∀i,i<r->κ.klt (KK κ xs (base+i)) (ky κ c))->(∀i,r<=i->i<n->κ.kle (ky κ c) (KK κ xs (base+i)))->Q (some r) st):wpS (model prog w) A E s (gj true c xs base n hint) Q st:=
 ym m j o d e g l λr f q p=>h r f (λi k=>q i k) λi a b=>p i a b
end
structure MI(le:Keyed->Keyed->Prop)(L O X Y:List Keyed):Prop where
 perm:agx (O++X++Y) L
 so:O.Pairwise le
 sx:X.Pairwise le
 sy:Y.Pairwise le
 ox:∀o∈O,∀x∈X,le o x
 oy:∀o∈O,∀y∈Y,le o y
theorem MI.left{d:Keyed->Keyed->Prop}{L O X e Y:List Keyed}(h:MI d L O (X++e) Y)(f:∀x∈X,∀y∈Y,d x y):MI d L (O++X) e Y:=by
 have s:=agv.mp h.sx;refine(by rw[aaG O X e];exact h.perm,agv.mpr (h.so,s.1,λo a x c=>h.ox o a x (agC _ c)),s.2.1,h.sy,λo a x c=>?_,λo a y b=>?_)
 ·rcases aaW.mp a with a|a
  ·exact h.ox o a x (aat _ c)
  ·exact s.2.2 o a x c
 ·rcases aaW.mp a with a|a
  ·exact h.oy o a y b
  ·exact f o a y b
theorem MI.right{d:Keyed->Keyed->Prop}{L O X Y e:List Keyed}(h:MI d L O X (Y++e))(f:∀y∈Y,∀x∈X,d y x):MI d L (O++Y) X e:=by
 have s:=agv.mp h.sy;refine(ajn ?_ h.perm,agv.mpr (h.so,s.1,λo a y c=>h.oy o a y (agC _ c)),h.sx,s.2.1,λo a x b=>?_,λo a y c=>?_)
 ·rw[aaG O Y X,aaG,aaG O X,<-aaG X,aaG Y];refine aiL O ?_;rw[<-aaG];exact(aiM).append_right e
 ·rcases aaW.mp a with a|a
  ·exact h.ox o a x b
  ·exact f o a x b
 ·rcases aaW.mp a with a|a
  ·exact h.oy o a y (aat _ c)
  ·exact s.2.2 o a y c
def Fin(a:Keyed->Keyed->Prop)(L r:List Keyed):Prop:=agx r L/\r.Pairwise a
theorem MI.xy{c:Keyed->Keyed->Prop}{L O X Y:List Keyed}(h:MI c L O X Y)(d:∀x∈X,∀y∈Y,c x y):Fin c L (O++X++Y):=by
 refine(h.perm,agv.mpr (agv.mpr (h.so,h.sx,h.ox),h.sy,λa b y e=>?_));rcases aaW.mp b with b|b
 ·exact h.oy a b y e
 ·exact d a b y e
theorem MI.yx{c:Keyed->Keyed->Prop}{L O X Y:List Keyed}(h:MI c L O X Y)(d:∀y∈Y,∀x∈X,c y x):Fin c L (O++Y++X):=by
 refine(ajn ?_ h.perm,agv.mpr (agv.mpr (h.so,h.sy,h.oy),h.sx,λa b x e=>?_))
 ·rw[aaG,aaG];exact aiL O aiM
 ·rcases aaW.mp b with b|b
  ·exact h.ox a b x e
  ·exact d a b x e
def uJ:Array Keyed->Array Keyed->StateT SortSt Sem (Array Keyed):=sortPriv% PySem.Builtin.mergeLo
def setG:Nat->StateT SortSt Sem Unit:=sortPriv% PySem.Builtin.setMinGallop
theorem Om(g:Nat):setG g=modify λst=>SortSt.mk' (kindOf st) (arrOf st) (pendingOf st) g (failedOf st):=rfl
def mlo(a b:Array Keyed):StateT SortSt Sem (Array Keyed):=do
 rule "list.sort.merge-lo"
 let t:=a.size+b.size
 let c (o:Array Keyed) (i j:Nat):=o++a.extract i a.size++b.extract j b.size
 let d (o:Array Keyed) (i j:Nat):=o++b.extract j b.size++a.extract i a.size
 let mut o:Array Keyed:=#[<-elem' b 0]
 let mut i:=0
 let mut j:=1
 if j==b.size then return c o i j
 if i+1==a.size then return d o i j
 let mut g:=gallopOf (<-get)
 for _ in [0:t] do
  let mut p:=0
  let mut q:=0
  for _ in [0:t] do
   let some v <-lt' (<-elem' b j) (<-elem' a i) | return c o i j
   if v then
    o:=o.push (<-elem' b j);j:=j+1;q:=q+1;p:=0
    if j==b.size then return c o i j
    if q >= g then break
   else
    o:=o.push (<-elem' a i);i:=i+1;p:=p+1;q:=0
    if i+1==a.size then return d o i j
    if p >= g then break
  rule "list.sort.gallop"
  g:=g+1
  for _ in [0:t] do
   if g > 1 then g:=g-1
   setG g
   let some k <-gj false (<-elem' b j) a i (a.size-i) 0|return c o i j
   p:=k
   if k > 0 then
    o:=o++a.extract i (i+k);i:=i+k
    if i+1==a.size then return d o i j
    if i==a.size then return c o i j
   o:=o.push (<-elem' b j);j:=j+1
   if j==b.size then return c o i j
   let some k <-gj true (<-elem' a i) b j (b.size-j) 0|return c o i j
   q:=k
   if k > 0 then
    o:=o++b.extract j (j+k);j:=j+k
    if j==b.size then return c o i j
   o:=o.push (<-elem' a i);i:=i+1
   if i+1==a.size then return d o i j
   if p<7&&q<7 then break
  g:=g+1
  setG g
 (unsupported "internal:list.sort.merge-bound" : StateT SortSt Sem (Array Keyed))
theorem Bd(a b:Array Keyed):uJ a b=mlo a b:=rfl
section
variable{κ:KeyKind}
theorem aR{c:Prop}[Decidable c]{x y:StateT SortSt Sem O}{Q:O->SortSt->Prop}{st:SortSt}(b:c->wpS (model prog w) A E s x Q st)(a:¬c->wpS (model prog w) A E s y Q st):wpS (model prog w) A E s (if c then x else y) Q st:=by
 by_cases h:c
 ·rw[if_pos h];exact b h
 ·rw[if_neg h];exact a h
def kl(κ:KeyKind)(x y:Keyed):Prop:=κ.kle (ky κ x) (ky κ y)
theorem dO{x y z:Keyed}(h:kl κ x y)(g:kl κ y z):kl κ x z:=KeyOrd.kle_trans h g
theorem uY{xs:Array Keyed}(h:xs.toList.Pairwise (kl κ)){lo :Nat}(c:n<=xs.size):Sd κ xs lo n:=λi j _ a b=>by
 rw[bK (show i<xs.size by lia),bK (show j<xs.size by lia)];by_cases e:i=j
 ·subst e;exact KeyOrd.kle_refl _
 have q:=abF.mp h i j (by rw[aaf];lia) (by rw[aaf];lia) ⋯;rw[adK,adK]at q;exact q
theorem yG{xs:Array Keyed}{i:Nat}(a:i<xs.size):xs.toList.drop i=[xs[i]]++xs.toList.drop (i+1):=by
 rw[af4 (by rw[aaf];exact a),adK];rfl
theorem fL{xs:Array Keyed}{i:Nat}{x:Keyed}(h:x∈xs.toList.drop i):∃k,∃a:i+k<xs.size,x=xs[i+k]:=by
 obtain⟨k,a,e⟩:=agI h;rw[abo,aaf]at a;refine(k,9,8);rw[<-e,ahm,adK]
theorem jL{xs:Array Keyed}{i k:Nat}{x:Keyed}(h:x∈(xs.toList.drop i).take k):∃d,d<k /\ ∃hd:i+d<xs.size,x=xs[i+d]:=by
 obtain⟨d,hd,e⟩:=agI h;rw[aaz,abo,aaf]at hd;refine(d,9,9,8);rw[<-e,ahM,ahm,adK]
theorem oE(xs:Array Keyed)(i k:Nat):(xs.extract i (i+k)).toList=(xs.toList.drop i).take k:=by
 rw[ahh,agS,agB]
theorem mZ(xs:Array Keyed)(i:Nat):(xs.extract i xs.size).toList=xs.toList.drop i:=by
 rw[ahh,agS,aai (by rw[abo,aaf];lia)]
section
variable{le:Keyed->Keyed->Prop}{L:List Keyed}{o a b:Array Keyed}{j k:Nat}{X:List Keyed}
theorem MI.pushR(h:MI le L o.toList X (b.toList.drop j))(f:j<b.size)(e:∀x∈X,le b[j] x):MI le L (o.push b[j]).toList X (b.toList.drop (j+1)):=by
 rw[yG f]at h;rw[agR];exact h.right λy d x c=>by rw[aam.mp d];exact e x c
theorem MI.pushL(h:MI le L o.toList (a.toList.drop i) X)(f:i<a.size)(e:∀x∈X,le a[i] x):MI le L (o.push a[i]).toList (a.toList.drop (i+1)) X:=by
 rw[yG f]at h;rw[agR];exact h.left λy d x c=>by rw[aam.mp d];exact e x c
theorem MI.moreR(h:MI le L o.toList X (b.toList.drop j))(c:∀y∈(b.toList.drop j).take k,∀x∈X,le y x):MI le L (o++b.extract j (j+k)).toList X (b.toList.drop (j+k)):=by
 rw[<-aft k (b.toList.drop j),ah5]at h;rw[acK,oE];exact h.right c
theorem MI.moreL(h:MI le L o.toList (a.toList.drop i) X)(c:∀y∈(a.toList.drop i).take k,∀x∈X,le y x):MI le L (o++a.extract i (i+k)).toList (a.toList.drop (i+k)) X:=by
 rw[<-aft k (a.toList.drop i),ah5]at h;rw[acK,oE];exact h.left c
theorem MI.fa(h:MI le L o.toList (a.toList.drop i) (b.toList.drop j))(c:∀x∈a.toList.drop i,∀y∈b.toList.drop j,le x y):Fin le L (o++a.extract i a.size++b.extract j b.size).toList:=by
 rw[acK,acK,mZ,mZ];exact h.xy c
theorem MI.fb(h:MI le L o.toList (a.toList.drop i) (b.toList.drop j))(c:∀y∈b.toList.drop j,∀x∈a.toList.drop i,le y x):Fin le L (o++b.extract j b.size++a.extract i a.size).toList:=by
 rw[acK,acK,mZ,mZ];exact h.yx c
theorem iW(h:b.size<=j):b.toList.drop j=[]:=List.drop_eq_nil_of_le (by rw[aaf];exact h)
end
structure cM(st st':SortSt):Prop where
 kind:kindOf st'=kindOf st
 arr:arrOf st'=arrOf st
 pend:pendingOf st'=pendingOf st
 failed:failedOf st'=failedOf st
theorem cM.refl(st:SortSt):cM st st:=(7,7,7,7)
theorem uc{st:SortSt}{Q:Unit->SortSt->Prop}(b:cM I st)(h:∀a,cM I a->Q () a):wpS (model prog w) A E s (setG n) Q st:=by
 rw[Om];exact wpS_modify (h _ (b.kind,b.arr,b.pend,b.failed))
theorem Fx{st:SortSt}{a b:Array Keyed}{Q:Array Keyed->SortSt->Prop}(hO:κ.OneLt)(hk:kindOf st=oneType')(hA:KeysOf κ a)(hB:KeysOf κ b)(sa:a.toList.Pairwise (kl κ))(sb:b.toList.Pairwise (kl κ))(na:0<a.size)(nb:0<b.size)
  (hf:∀x∈a.toList,kl κ b[0] x)(hl:∀y∈b.toList,kl κ y (a[a.size-1]'(by omega)))(h:∀r m,cM st m->Fin (kl κ) (a.toList++b.toList) r.toList->Q r m):wpS (model prog w) A E s (uJ a b) Q st:=by
 have kA:∀i (C:i<a.size),∃x,κ.keyOf a[i].1=some x:=λi C=>hA _ (adJ _);have kB:∀i (C:i<b.size),∃x,κ.keyOf b[i].1=some x:=λi C=>hB _ (adJ _);have B:∀i j,i+1=a.size -> ∀y∈b.toList.drop j,∀x∈a.toList.drop i,kl κ y x:=λi j C y f x F=>by
  obtain⟨k,hk,rfl⟩:=fL F;have:i+k=a.size-1:=by lia
  have q:=hl y (agX f);simp only[this];exact q
 have sA:=λlo=>uY sa (lo:=lo) (aac _);have sB:=λlo=>uY sb (lo:=lo) (aac _);have M0:MI (kl κ) (a.toList++b.toList) (#[b[0]]:Array Keyed).toList (a.toList.drop 0) (b.toList.drop 1):=by
  have M:MI (kl κ) (a.toList++b.toList) (#[]:Array Keyed).toList (a.toList.drop 0) (b.toList.drop 0):=(.rfl,.nil,sa,sb,λo ho=>(ag9 ho).elim,λo ho=>(ag9 ho).elim);exact M.pushR nb λx F=>hf x F
 rw[Bd];unfold mlo;refine wpS_bind (wpS_lift (wpAny_rule (7,8)));refine wpS_bind (bj nb ?_);refine aR (λc=>wpS_pure (h _ _ (cM.refl _) (M0.fa λx _ y f=>?_))) λc1=>?_
 ·rw[iW (by have:=beq_iff_eq.mp c;lia)]at f;cases f
 refine aR (λc=>wpS_pure (h _ _ (cM.refl _) (M0.fb (B _ _ (beq_iff_eq.mp c))))) λc2=>?_;have c1:1≠b.size:=λz=>c1 (beq_iff_eq.mpr z);have c2:0+1≠a.size:=λz=>c2 (beq_iff_eq.mpr z);refine wpS_bind (wpS_get ?_);have a7:∀r m,cM st m->Fin (kl κ) (a.toList++b.toList) r.toList->Q r m:=h;refine wpS_bind (wpS_mono (wpS_forRange (I:=λx c m=>cM st m /\ ∃o i j g,c=(pq none (pq o (pq i (pq j g))))/\MI (kl κ) (a.toList++b.toList) o.toList (a.toList.drop i) (b.toList.drop j)/\i+1<a.size/\j<b.size/\x+1<=i+j)
  (Q:=λc m=>cM st m /\ ∃r,c.1=some r/\Fin (kl κ) (a.toList++b.toList) r.toList) ?_ ?_ (cM.refl _,_,0,(1),5,M0,9,9,9)) ?_)
 ·rintro x c S _ F ⟨L,o,i,j,g,rfl,M,C,t,K⟩;refine wpS_bind (wpS_mono (wpS_forRange (I:=λy c m=>cM st m /\ ∃o i j p q,c=(pq none (pq o (pq i (pq j (pq p q)))))/\MI (kl κ) (a.toList++b.toList) o.toList (a.toList.drop i) (b.toList.drop j)/\i+1<a.size/\j<b.size/\x+1+y<=i+j)
   (Q:=λc m=>cM st m/\((∃r,c.1=some r/\Fin (kl κ) (a.toList++b.toList) r.toList) \/ ∃o i j p q,c=(pq none (pq o (pq i (pq j (pq p q)))))/\MI (kl κ) (a.toList++b.toList) o.toList (a.toList.drop i) (b.toList.drop j)/\i+1<a.size/\j<b.size/\x+2<=i+j)) ?_ ?_ (L,o,i,j,0,0,7,M,C,t,K)) ?_)
  ·rintro y c a1 _ f ⟨u,o,i,j,p,q,rfl,M,C,t,K⟩;refine wpS_bind (bj t (wpS_bind (bj (show i<a.size by lia) (wpS_bind (Gx hO (u.kind.trans hk) (kB j t) (kA i ⋯) ?_)))));cases hv:κ.blt (ky κ b[j]) (ky κ (a[i]'(by omega)))
   ·refine aR (λz=>absurd z ∅) λ_=>?_;refine wpS_bind (bj (show i<a.size by lia) ?_);have R:=M.pushL (show i<a.size by lia) λy f=>by
     obtain⟨d,hd,rfl⟩:=fL f;have q:=sB j j (j+d) (aac _) ⋯ hd;rw[bK t,bK hd]at q;exact dO hv q
    refine aR (λz=>wpS_pure (u,.inl (5,R.fb (B _ _ (beq_iff_eq.mp z))))) λz=>?_;have z:i+1+1≠a.size:=λe=>z (beq_iff_eq.mpr e);exact aR (λ_=>wpS_pure (u,.inr (_,i+1,j,_,5,R,9,t,9))) λ_=>wpS_pure (u,_,i+1,j,_,5,R,9,t,9)
   ·refine aR (λ_=>?_) λz=>absurd rfl z;refine wpS_bind (bj t ?_);have R:=M.pushR t λy f=>by
     obtain⟨d,hd,rfl⟩:=fL f;have q:=sA i i (i+d) (aac _) ⋯ hd;rw[bK (show i<a.size by lia),bK hd]at q;exact dO (KeyOrd.kle_of_klt hv) q
    refine aR (λz=>wpS_pure (u,.inl (5,R.fa λx _ y f=>?_))) λz=>?_
    ·have z:j+1=b.size:=beq_iff_eq.mp z;rw[iW ⋯]at f;cases f
    have z:j+1≠b.size:=λe=>z (beq_iff_eq.mpr e);exact aR (λ_=>wpS_pure (u,.inr (_,i,j+1,_,5,R,C,9,9))) λ_=>wpS_pure (u,_,i,j+1,_,5,R,C,9,9)
  ·rintro c a1 ⟨u,o,i,j,p,q,rfl,M,C,t,K⟩;exact(u,.inr (o,i,j,p,q,7,M,C,t,9))
  ·rintro c a1 ⟨u,hc⟩;rcases hc with ⟨r,Z,hF⟩|⟨o,i,j,p,q,rfl,M,C,t,K⟩
   ·obtain⟨c1,c2⟩:=c;cases Z;exact wpS_pure (u,r,7,hF)
   refine wpS_bind (wpS_lift (wpAny_rule (7,8)));refine wpS_bind (wpS_mono (wpS_forRange (I:=λy c m=>cM st m /\ ∃o i j g p q,c=(pq none (pq o (pq i (pq j (pq g (pq p q))))))/\MI (kl κ) (a.toList++b.toList) o.toList (a.toList.drop i) (b.toList.drop j)/\i+1<a.size/\j<b.size/\x+2<=i+j)
    (Q:=λc m=>cM st m/\((∃r,c.1=some r/\Fin (kl κ) (a.toList++b.toList) r.toList) \/ ∃o i j g p q,c=(pq none (pq o (pq i (pq j (pq g (pq p q))))))/\MI (kl κ) (a.toList++b.toList) o.toList (a.toList.drop i) (b.toList.drop j)/\i+1<a.size/\j<b.size/\x+2<=i+j)) ?_ ?_ (u,o,i,j,_,p,q,7,M,C,t,K)) ?_)
   ·rintro y c a0 _ f ⟨W,o,i,j,g,p,q,rfl,M,C,t,K⟩;refine aR (λ_=>?_) λ_=>?_
    all_goals
     refine wpS_bind (uc W λVm v=>?_);refine wpS_bind (bj t (wpS_bind (j5 (base:=i) (n:=a.size-i) (hint:=0) hO (v.kind.trans hk) hA (kB j t) (by rw[show i+(a.size-i)=a.size by lia];exact sA i) ⋯ ⋯ λk a6 a4 a3=>?_)));have M1:MI (kl κ) (a.toList++b.toList) (o++a.extract i (i+k)).toList (a.toList.drop (i+k)) (b.toList.drop j):=M.moreL λx F y f=>by
      obtain⟨d,hd,J,rfl⟩:=jL F;obtain⟨e,O,rfl⟩:=fL f;have D:=a4 d hd;rw[bK J]at D;have N:=sB j j (j+e) (aac _) ⋯ O;rw[bK t,bK O]at N;exact dO D N
     have B1:∀x∈a.toList.drop (i+k),kl κ b[j] x:=λx F=>by
      obtain⟨d,hd,rfl⟩:=fL F;have D:=a3 (k+d) ⋯ ⋯;rw[show i+(k+d)=i+k+d by lia,bK hd]at D;exact KeyOrd.kle_of_klt D
     refine aR (λa5=>aR (λz=>wpS_pure (v,.inl (5,M1.fb (B _ _ (beq_iff_eq.mp z))))) λz1=>aR (λz=>wpS_pure (v,.inl (5,M1.fa λx F=>?_))) λz2=>?_) λa5=>?_
     ·have z:i+k=a.size:=beq_iff_eq.mp z;rw[iW ⋯]at F;cases F
     ·have z1:i+k+1≠a.size:=λe=>z1 (beq_iff_eq.mpr e);have z2:i+k≠a.size:=λe=>z2 (beq_iff_eq.mpr e);refine wpS_bind (bj t ?_);have P:=M1.pushR t B1;refine aR (λz=>wpS_pure (v,.inl (5,P.fa λx _ y f=>?_))) λY=>?_
      ·have z:j+1=b.size:=beq_iff_eq.mp z;rw[iW ⋯]at f;cases f
      have Y:j+1≠b.size:=λe=>Y (beq_iff_eq.mpr e);refine wpS_bind (bj (show i+k<a.size by lia) (wpS_bind (gq (base:=j+1) (n:=b.size-(j+1)) (hint:=0) hO (v.kind.trans hk) hB (kA (i+k) ⋯) (by rw[show j+1+(b.size-(j+1))=b.size by lia];exact sB _) ⋯ ⋯ λl a2 U T=>?_)));have M4:=P.moreR (k:=l) λy f x F=>by
       obtain⟨d,hd,J,rfl⟩:=jL f;obtain⟨e,O,rfl⟩:=fL F;have D:=U d hd;rw[bK J]at D;have N:=sA (i+k) (i+k) (i+k+e) (aac _) ⋯ O;rw[bK (show i+k<a.size by lia),bK O]at N;exact dO (KeyOrd.kle_of_klt D) N
      have A4:∀y∈b.toList.drop (j+1+l),kl κ (a[i+k]'(by omega)) y:=λy f=>by
       obtain⟨d,hd,rfl⟩:=fL f;have D:=T (l+d) ⋯ ⋯;rw[show j+1+(l+d)=j+1+l+d by lia,bK hd]at D;exact D
      refine aR (λV=>aR (λz=>wpS_pure (v,.inl (5,M4.fa λx _ y f=>?_))) λX=>?_) λV=>?_
      ·have z:j+1+l=b.size:=beq_iff_eq.mp z;rw[iW ⋯]at f;cases f
      ·have X:j+1+l≠b.size:=λe=>X (beq_iff_eq.mpr e);refine wpS_bind (bj (show i+k<a.size by lia) ?_);have G:=M4.pushL (show i+k<a.size by lia) A4;refine aR (λz=>wpS_pure (v,.inl (5,G.fb (B _ _ (beq_iff_eq.mp z))))) λH=>?_;have H:i+k+1+1≠a.size:=λe=>H (beq_iff_eq.mpr e);exact aR (λ_=>wpS_pure (v,.inr (_,i+k+1,j+1+l,1,5,G,9,9,9))) λ_=>wpS_pure (v,_,i+k+1,j+1+l,1,5,G,9,9,9)
      ·have:l=0:=by lia
       subst this;refine wpS_bind (bj (show i+k<a.size by lia) ?_);have G:=P.pushL (show i+k<a.size by lia) A4;refine aR (λz=>wpS_pure (v,.inl (5,G.fb (B _ _ (beq_iff_eq.mp z))))) λH=>?_;have H:i+k+1+1≠a.size:=λe=>H (beq_iff_eq.mpr e);exact aR (λ_=>wpS_pure (v,.inr (_,i+k+1,j+1,1,5,G,9,9,9))) λ_=>wpS_pure (v,_,i+k+1,j+1,1,5,G,9,9,9)
     ·have:k=0:=by lia
      subst this;refine wpS_bind (bj t ?_);have P:=M.pushR t B1;refine aR (λz=>wpS_pure (v,.inl (5,P.fa λx _ y f=>?_))) λY=>?_
      ·have z:j+1=b.size:=beq_iff_eq.mp z;rw[iW ⋯]at f;cases f
      have Y:j+1≠b.size:=λe=>Y (beq_iff_eq.mpr e);refine wpS_bind (bj (show i<a.size by lia) (wpS_bind (gq (base:=j+1) (n:=b.size-(j+1)) (hint:=0) hO (v.kind.trans hk) hB (kA (i) ⋯) (by rw[show j+1+(b.size-(j+1))=b.size by lia];exact sB _) ⋯ ⋯ λl a2 U T=>?_)));have M4:=P.moreR (k:=l) λy f x F=>by
       obtain⟨d,hd,J,rfl⟩:=jL f;obtain⟨e,O,rfl⟩:=fL F;have D:=U d hd;rw[bK J]at D;have N:=sA (i) (i) (i+e) (aac _) ⋯ O;rw[bK (show i<a.size by lia),bK O]at N;exact dO (KeyOrd.kle_of_klt D) N
      have A4:∀y∈b.toList.drop (j+1+l),kl κ (a[i]'(by omega)) y:=λy f=>by
       obtain⟨d,hd,rfl⟩:=fL f;have D:=T (l+d) ⋯ ⋯;rw[show j+1+(l+d)=j+1+l+d by lia,bK hd]at D;exact D
      refine aR (λV=>aR (λz=>wpS_pure (v,.inl (5,M4.fa λx _ y f=>?_))) λX=>?_) λV=>?_
      ·have z:j+1+l=b.size:=beq_iff_eq.mp z;rw[iW ⋯]at f;cases f
      ·have X:j+1+l≠b.size:=λe=>X (beq_iff_eq.mpr e);refine wpS_bind (bj (show i<a.size by lia) ?_);have G:=M4.pushL (show i<a.size by lia) A4;refine aR (λz=>wpS_pure (v,.inl (5,G.fb (B _ _ (beq_iff_eq.mp z))))) λH=>?_;have H:i+1+1≠a.size:=λe=>H (beq_iff_eq.mpr e);exact aR (λ_=>wpS_pure (v,.inr (_,i+1,j+1+l,1,5,G,9,9,9))) λ_=>wpS_pure (v,_,i+1,j+1+l,1,5,G,9,9,9)
      ·have:l=0:=by lia
       subst this;refine wpS_bind (bj (show i<a.size by lia) ?_);have G:=P.pushL (show i<a.size by lia) A4;refine aR (λz=>wpS_pure (v,.inl (5,G.fb (B _ _ (beq_iff_eq.mp z))))) λH=>?_;have H:i+1+1≠a.size:=λe=>H (beq_iff_eq.mpr e);exact aR (λ_=>wpS_pure (v,.inr (_,i+1,j+1,1,5,G,9,9,9))) λ_=>wpS_pure (v,_,i+1,j+1,1,5,G,9,9,9)
   ·rintro c a0 ⟨W,o,i,j,g,p,q,rfl,M,C,t,K⟩;exact(W,.inr (o,i,j,g,p,q,7,M,C,t,K))
   ·rintro c a0 ⟨W,hc⟩;rcases hc with ⟨r,Z,hF⟩|⟨o,i,j,g,p,q,rfl,M,C,t,K⟩
    ·obtain⟨c1,c2⟩:=c;cases Z;exact wpS_pure (W,r,7,hF)
    exact wpS_bind (uc W λVm v=>wpS_pure (v,o,i,j,5,M,C,t,9))
 ·rintro c S ⟨L,o,i,j,g,rfl,M,C,t,K⟩;exfalso;lia
 ·rintro c S ⟨L,r,Z,hF⟩;obtain⟨c1,c2⟩:=c;cases Z;exact wpS_pure (h r S L hF)
end
def vY:Array Keyed->Array Keyed->StateT SortSt Sem (Array Keyed):=sortPriv% PySem.Builtin.mergeHi
def mhi(a b:Array Keyed):StateT SortSt Sem (Array Keyed):=do
 rule "list.sort.merge-hi"
 let t:=a.size+b.size
 let c (o:Array Keyed) (m n:Nat):=a.extract 0 m++b.extract 0 n++o.reverse
 let d (o:Array Keyed) (m n:Nat):=b.extract 0 n++a.extract 0 m++o.reverse
 let mut m:=a.size-1
 let mut n:=b.size
 let mut o:Array Keyed:=#[<-elem' a m]
 if m==0 then return c o m n
 if n==1 then return d o m n
 let mut g:=gallopOf (<-get)
 for _ in [0:t] do
  let mut p:=0
  let mut q:=0
  for _ in [0:t] do
   let some v <-lt' (<-elem' b (n-1)) (<-elem' a (m-1)) | return c o m n
   if v then
    m:=m-1;o:=o.push (<-elem' a m);p:=p+1;q:=0
    if m==0 then return c o m n
    if p >= g then break
   else
    n:=n-1;o:=o.push (<-elem' b n);q:=q+1;p:=0
    if n==1 then return d o m n
    if q >= g then break
  rule "list.sort.gallop"
  g:=g+1
  for _ in [0:t] do
   if g > 1 then g:=g-1
   setG g
   let some z <-gj false (<-elem' b (n-1)) a 0 m (m-1) | return c o m n
   let k:=m-z
   p:=k
   if k > 0 then
    o:=o++(a.extract z m).reverse;m:=z
    if m==0 then return c o m n
   n:=n-1;o:=o.push (<-elem' b n)
   if n==1 then return d o m n
   let some z <-gj true (<-elem' a (m-1)) b 0 n (n-1) | return c o m n
   let k:=n-z
   q:=k
   if k > 0 then
    o:=o++(b.extract z n).reverse;n:=z
    if n==1 then return d o m n
    if n==0 then return c o m n
   m:=m-1;o:=o.push (<-elem' a m)
   if m==0 then return c o m n
   if p<7&&q<7 then break
  g:=g+1
  setG g
 (unsupported "internal:list.sort.merge-bound" : StateT SortSt Sem (Array Keyed))
theorem Dk(a b:Array Keyed):vY a b=mhi a b:=rfl
section
variable{κ:KeyKind}
def kr(κ:KeyKind)(x y:Keyed):Prop:=kl κ y x
abbrev hd(xs:Array Keyed)(m:Nat):List Keyed:=(xs.toList.take m).reverse
theorem GP{xs:Array Keyed}{m:Nat}(b:1<=m)(a:m<=xs.size):hd xs m=[xs[m-1]'(by omega)]++hd xs (m-1):=by
 obtain⟨k,rfl⟩:∃k,m=k+1:=(m-1,9);unfold hd;rw[abH,aad (by rw[aaf];lia),adK];simp
theorem J2{xs:Array Keyed}{m :Nat}(hz:n<=m):hd xs m=((xs.toList.take m).drop n).reverse++hd xs n:=by
 unfold hd;rw[<-ag4,show xs.toList.take n=(xs.toList.take m).take n by rw[ah4,acW hz],aft]
theorem eG{xs:Array Keyed}{m:Nat}{x:Keyed}(h:x∈hd xs m):∃d,d<m /\ ∃hd:d<xs.size,x=xs[d]:=by
 obtain⟨d,a,e⟩:=agI (ag8.mp h);rw[aaz,aaf]at a;exact(d,9,9,by rw[<-e,ahM,adK])
theorem zW{xs:Array Keyed}{m :Nat}{x:Keyed}(h:x∈((xs.toList.take m).drop n).reverse):∃d,n<=d/\d<m /\ ∃hd:d<xs.size,x=xs[d]:=by
 obtain⟨d,a,e⟩:=agI (ag8.mp h);rw[abo,aaz,aaf]at a;exact(n+d,9,9,9,by rw[<-e,ahm,ahM,adK])
section
variable{le:Keyed->Keyed->Prop}{L:List Keyed}{o a b:Array Keyed}{m z:Nat}{X:List Keyed}
theorem MI.popL(h:MI le L o.toList (hd a m) X)(g:1<=m)(f:m<=a.size)(e:∀x∈X,le (a[m-1]'(by omega)) x):MI le L (o.push (a[m-1]'(by omega))).toList (hd a (m-1)) X:=by
 rw[GP g f]at h;rw[agR];exact h.left λy d x c=>by rw[aam.mp d];exact e x c
theorem MI.popR(h:MI le L o.toList X (hd b n))(g:1<=n)(f:n<=b.size)(e:∀x∈X,le (b[n-1]'(by omega)) x):MI le L (o.push (b[n-1]'(by omega))).toList X (hd b (n-1)):=by
 rw[GP g f]at h;rw[agR];exact h.right λy d x c=>by rw[aam.mp d];exact e x c
theorem Cq(xs:Array Keyed)(m z:Nat):(o++(xs.extract z m).reverse).toList=o.toList++((xs.toList.take m).drop z).reverse:=by
 rw[acK,aic,ahh,agS,<-List.drop_take]
theorem MI.cutL(h:MI le L o.toList (hd a m) X)(hz:z<=m)(c:∀y∈((a.toList.take m).drop z).reverse,∀x∈X,le y x):MI le L (o++(a.extract z m).reverse).toList (hd a z) X:=by
 rw[J2 hz]at h;rw[Cq];exact h.left c
theorem MI.cutR(h:MI le L o.toList X (hd b n))(hz:z<=n)(c:∀y∈((b.toList.take n).drop z).reverse,∀x∈X,le y x):MI le L (o++(b.extract z n).reverse).toList X (hd b z):=by
 rw[J2 hz]at h;rw[Cq];exact h.right c
theorem Gu{r:List Keyed}(h:Fin (kr κ) L r.reverse):Fin (kl κ) L r:=((ah3 r).symm.trans h.1,ahE.mp h.2)
theorem jV(xs:Array Keyed)(m:Nat):(xs.extract 0 m).toList=xs.toList.take m:=by
 rw[ahh,agS,ahx,ahn]
theorem MI.ha(h:MI (kr κ) L o.toList (hd a m) (hd b n))(c:∀y∈hd b n,∀x∈hd a m,kr κ y x):Fin (kl κ) L (a.extract 0 m++b.extract 0 n++o.reverse).toList:=by
 refine Gu ?_;rw[acK,acK,jV,jV,aic,ag4,ahN,ag4,<-aaG];exact h.yx c
theorem MI.hb(h:MI (kr κ) L o.toList (hd a m) (hd b n))(c:∀x∈hd a m,∀y∈hd b n,kr κ x y):Fin (kl κ) L (b.extract 0 n++a.extract 0 m++o.reverse).toList:=by
 refine Gu ?_;rw[acK,acK,jV,jV,aic,ag4,ahN,ag4,<-aaG];exact h.xy c
end
theorem Fb{st:SortSt}{a b:Array Keyed}{Q:Array Keyed->SortSt->Prop}(hO:κ.OneLt)(hk:kindOf st=oneType')(hA:KeysOf κ a)(hB:KeysOf κ b)(sa:a.toList.Pairwise (kl κ))(sb:b.toList.Pairwise (kl κ))(na:0<a.size)(nb:0<b.size)
  (hf:∀x∈a.toList,kl κ b[0] x)(hl:∀y∈b.toList,kl κ y (a[a.size-1]'(by omega)))(h:∀r t,cM st t->Fin (kl κ) (a.toList++b.toList) r.toList->Q r t):wpS (model prog w) A E s (vY a b) Q st:=by
 have kA:∀i (hi:i<a.size),∃x,κ.keyOf a[i].1=some x:=λi hi=>hA _ (adJ _);have kB:∀i (hi:i<b.size),∃x,κ.keyOf b[i].1=some x:=λi hi=>hB _ (adJ _);have first:∀m,∀x∈hd a m,∀y∈hd b 1,kr κ x y:=λm x J y F=>by
  obtain⟨d,a9,a8,rfl⟩:=eG F;have:d=0:=by lia
  subst this;exact hf x (ahg (ag8.mp J))
 have sA:=uY sa (lo:=0) (aac _);have sB:=uY sb (lo:=0) (aac _);have Z3:∀d e (hd:d<a.size) (T:e<a.size),d<=e->kl κ a[d] a[e]:=λd e hd T a1=>by
  have q:=sA d e (aaD _) a1 T;rw[bK hd,bK T]at q;exact q
 have a4:∀d e (hd:d<b.size) (T:e<b.size),d<=e->kl κ b[d] b[e]:=λd e hd T a1=>by
  have q:=sB d e (aaD _) a1 T;rw[bK hd,bK T]at q;exact q
 have a7:∀y∈hd b b.size,∀x∈hd a 0,kr κ y x:=λy _ x J=>by
  obtain⟨d,hd,_⟩:=eG J;lia
 have S:∀n,∀y∈hd b n,∀x∈hd a 0,kr κ y x:=λn y _ x J=>by
  obtain⟨d,hd,_⟩:=eG J;lia
 have zB:∀m,∀y∈hd b 0,∀x∈hd a m,kr κ y x:=λm y F x _=>by
  obtain⟨d,hd,_⟩:=eG F;lia
 have M0:MI (kr κ) (a.toList++b.toList) (#[a[a.size-1]'(by omega)]:Array Keyed).toList (hd a (a.size-1)) (hd b b.size):=by
  have ea:a.toList.take a.size=a.toList:=aai (by rw[aaf];exact aac _);have eb:b.toList.take b.size=b.toList:=aai (by rw[aaf];exact aac _);have M:MI (kr κ) (a.toList++b.toList) (#[]:Array Keyed).toList (hd a a.size) (hd b b.size):=by
   refine(8,.nil,8,8,λo ho=>(ag9 ho).elim,λo ho=>(ag9 ho).elim)
   ·show agx ([]++hd a a.size++hd b b.size) _;unfold hd;rw[ea,eb];exact(ah3 _).append (ah3 _)
   ·unfold hd;rw[ea];exact ahE.mpr sa
   ·unfold hd;rw[eb];exact ahE.mpr sb
  exact M.popL na (aac _) λy F=>hl y (by have:=ag8.mp F;rw[eb]at this;exact this)
 rw[Dk];unfold mhi;refine wpS_bind (wpS_lift (wpAny_rule (7,8)));refine wpS_bind (bj (show a.size-1<a.size by lia) ?_);refine aR (λc=>wpS_pure (h _ _ (cM.refl _) (M0.ha ?_))) λc1=>?_
 ·have c:a.size-1=0:=beq_iff_eq.mp c;rw[c];exact S _
 refine aR (λc=>wpS_pure (h _ _ (cM.refl _) (M0.hb ?_))) λc2=>?_
 ·have c:b.size=1:=beq_iff_eq.mp c;rw[c];exact first _
 have c1:a.size-1≠0:=λz=>c1 (beq_iff_eq.mpr z);have c2:b.size≠1:=λz=>c2 (beq_iff_eq.mpr z);refine wpS_bind (wpS_get ?_);refine wpS_bind (wpS_mono (wpS_forRange (I:=λx c t=>cM st t /\ ∃m n o g,c=(pq none (pq m (pq n (pq o g))))/\MI (kr κ) (a.toList++b.toList) o.toList (hd a m) (hd b n)/\1<=m/\m<=a.size/\2<=n/\n<=b.size/\x+1+(m+n)<=a.size+b.size)
  (Q:=λc t=>cM st t /\ ∃r,c.1=some r/\Fin (kl κ) (a.toList++b.toList) r.toList) ?_ ?_ (cM.refl _,a.size-1,b.size,_,5,M0,9,9,9,9,9)) ?_)
 ·rintro x c X _ J ⟨R,m,n,o,g,rfl,M,k,j,u,f,G⟩;refine wpS_bind (wpS_mono (wpS_forRange (I:=λy c t=>cM st t /\ ∃m n o p q,c=(pq none (pq m (pq n (pq o (pq p q)))))/\MI (kr κ) (a.toList++b.toList) o.toList (hd a m) (hd b n)/\1<=m/\m<=a.size/\2<=n/\n<=b.size/\x+1+y+(m+n)<=a.size+b.size)
   (Q:=λc t=>cM st t/\((∃r,c.1=some r/\Fin (kl κ) (a.toList++b.toList) r.toList) \/ ∃m n o p q,c=(pq none (pq m (pq n (pq o (pq p q)))))/\MI (kr κ) (a.toList++b.toList) o.toList (hd a m) (hd b n)/\1<=m/\m<=a.size/\2<=n/\n<=b.size/\x+2+(m+n)<=a.size+b.size)) ?_ ?_ (R,m,n,o,0,0,7,M,k,j,u,f,G)) ?_)
  ·rintro y c a3 _ F ⟨C,m,n,o,p,q,rfl,M,k,j,u,f,G⟩;refine wpS_bind (bj (show n-1<b.size by lia) (wpS_bind (bj (show m-1<a.size by lia) (wpS_bind (Gx hO (C.kind.trans hk) (kB (n-1) ⋯) (kA (m-1) ⋯) ?_)))));cases hv:κ.blt (ky κ (b[n-1]'(by omega))) (ky κ (a[m-1]'(by omega)))
   ·refine aR (λz=>absurd z ∅) λ_=>?_;refine wpS_bind (bj (show n-1<b.size by lia) ?_);have W:=M.popR ⋯ f λx J=>by
     obtain⟨d,B,v,rfl⟩:=eG J;exact dO (Z3 d (m-1) v ⋯ ⋯) hv
    refine aR (λz=>wpS_pure (C,.inl (5,W.hb ?_))) λz=>?_
    ·have z:n-1=1:=beq_iff_eq.mp z;rw[z];exact first _
    have z:n-1≠1:=λe=>z (beq_iff_eq.mpr e);exact aR (λ_=>wpS_pure (C,.inr (m,n-1,1,5,W,k,j,9,9,9))) λ_=>wpS_pure (C,m,n-1,1,5,W,k,j,9,9,9)
   ·refine aR (λ_=>?_) λz=>absurd rfl z;refine wpS_bind (bj (show m-1<a.size by lia) ?_);have W:=M.popL k j λy F=>by
     obtain⟨d,B,v,rfl⟩:=eG F;exact dO (a4 d (n-1) v ⋯ ⋯) (KeyOrd.kle_of_klt hv)
    refine aR (λz=>wpS_pure (C,.inl (5,W.ha ?_))) λz=>?_
    ·have z:m-1=0:=beq_iff_eq.mp z;rw[z];exact S _
    have z:m-1≠0:=λe=>z (beq_iff_eq.mpr e);exact aR (λ_=>wpS_pure (C,.inr (m-1,n,1,5,W,9,9,u,f,9))) λ_=>wpS_pure (C,m-1,n,1,5,W,9,9,u,f,9)
  ·rintro c a3 ⟨C,m,n,o,p,q,rfl,M,k,j,u,f,G⟩;exact(C,.inr (m,n,o,p,q,7,M,k,j,u,f,9))
  ·rintro c a3 ⟨C,hc⟩;rcases hc with ⟨r,hr,hF⟩|⟨m,n,o,p,q,rfl,M,k,j,u,f,G⟩
   ·obtain⟨c1,c2⟩:=c;cases hr;exact wpS_pure (C,r,7,hF)
   refine wpS_bind (wpS_lift (wpAny_rule (7,8)));refine wpS_bind (wpS_mono (wpS_forRange (I:=λy c t=>cM st t /\ ∃m n o g p q,c=(pq none (pq m (pq n (pq o (pq g (pq p q))))))/\MI (kr κ) (a.toList++b.toList) o.toList (hd a m) (hd b n)/\1<=m/\m<=a.size/\2<=n/\n<=b.size/\x+2+(m+n)<=a.size+b.size)
    (Q:=λc t=>cM st t/\((∃r,c.1=some r/\Fin (kl κ) (a.toList++b.toList) r.toList) \/ ∃m n o g p q,c=(pq none (pq m (pq n (pq o (pq g (pq p q))))))/\MI (kr κ) (a.toList++b.toList) o.toList (hd a m) (hd b n)/\1<=m/\m<=a.size/\2<=n/\n<=b.size/\x+2+(m+n)<=a.size+b.size)) ?_ ?_ (C,m,n,o,_,p,q,7,M,k,j,u,f,G)) ?_)
   ·rintro y c a2 _ F ⟨Vw,m,n,o,g,p,q,rfl,M,k,j,u,f,G⟩;refine aR (λ_=>?_) λ_=>?_
    all_goals
     refine wpS_bind (uc Vw λVm D=>?_);refine wpS_bind (bj (show n-1<b.size by lia) (wpS_bind (j5 (base:=0) (n:=m) (hint:=m-1) hO (D.kind.trans hk) hA (kB (n-1) ⋯) (by rw[agO];exact uY sa j) ⋯ ⋯ λz a5 P YK=>?_)));have P:∀d (hd:d<a.size),d<z->kl κ a[d] (b[n-1]'(by omega)):=λd hd a6=>by
      have q:=P d a6;rw[agO,bK hd]at q;exact q
     have YK:∀d (hd:d<a.size),z<=d->d<m->kl κ (b[n-1]'(by omega)) a[d]:=λd hd B v=>by
      have q:=YK d B v;rw[agO,bK hd]at q;exact KeyOrd.kle_of_klt q
     have M1:MI (kr κ) (a.toList++b.toList) (o++(a.extract z m).reverse).toList (hd a z) (hd b n):=M.cutL a5 λx J y F=>by
      obtain⟨d,B,v,h3,rfl⟩:=zW J;obtain⟨e,h4,h5,rfl⟩:=eG F;exact dO (a4 e (n-1) h5 ⋯ ⋯) (YK d h3 B v)
     refine aR (λZ=>aR (λc=>wpS_pure (D,.inl (5,M1.ha ?_))) λc3=>?_) λZ=>?_
     ·have c:z=0:=beq_iff_eq.mp c;rw[c];exact S _
     ·have c3:z≠0:=λe=>c3 (beq_iff_eq.mpr e);refine wpS_bind (bj (show n-1<b.size by lia) ?_);have V:=M1.popR ⋯ f λx J=>by
       obtain⟨d,B,v,rfl⟩:=eG J;exact P d v B
      refine aR (λc=>wpS_pure (D,.inl (5,V.hb ?_))) λc4=>?_
      ·have c:n-1=1:=beq_iff_eq.mp c;rw[c];exact first _
      have c4:n-1≠1:=λe=>c4 (beq_iff_eq.mpr e);refine wpS_bind (bj (show z-1<a.size by lia) (wpS_bind (gq (base:=0) (n:=n-1) (hint:=n-1-1) hO (D.kind.trans hk) hB (kA (z-1) ⋯) (by rw[agO];exact uY sb ⋯) ⋯ ⋯ λl Y H L=>?_)));have H:∀d (hd:d<b.size),d<l->kl κ b[d] (a[z-1]'(by omega)):=λd hd a0=>by
       have q:=H d a0;rw[agO,bK hd]at q;exact KeyOrd.kle_of_klt q
      have L:∀d (hd:d<b.size),l<=d->d<n-1->kl κ (a[z-1]'(by omega)) b[d]:=λd hd B v=>by
       have q:=L d B v;rw[agO,bK hd]at q;exact q
      have U:=V.cutR Y λy F x J=>by
       obtain⟨d,B,v,h3,rfl⟩:=zW F;obtain⟨e,h4,h5,rfl⟩:=eG J;exact dO (Z3 e (z-1) h5 ⋯ ⋯) (L d h3 B v)
      refine aR (λN=>aR (λc=>wpS_pure (D,.inl (5,U.hb ?_))) λc6=>aR (λc=>wpS_pure (D,.inl (5,U.ha ?_))) λc7=>?_) λN=>?_
      ·have c:l=1:=beq_iff_eq.mp c;rw[c];exact first _
      ·have c:l=0:=beq_iff_eq.mp c;rw[c];exact zB _
      ·have c6:l≠1:=λe=>c6 (beq_iff_eq.mpr e);have c7:l≠0:=λe=>c7 (beq_iff_eq.mpr e);refine wpS_bind (bj (show z-1<a.size by lia) ?_);have K:=U.popL ⋯ ⋯ λy F=>by obtain⟨d,B,v,rfl⟩:=eG F;exact H d v B
       refine aR (λc=>wpS_pure (D,.inl (5,K.ha ?_))) λO=>?_
       ·have c:z-1=0:=beq_iff_eq.mp c;rw[c];exact S _
       have O:z-1≠0:=λe=>O (beq_iff_eq.mpr e);exact aR (λ_=>wpS_pure (D,.inr (z-1,l,1,_,5,K,9,9,9,9,9))) λ_=>wpS_pure (D,z-1,l,1,_,5,K,9,9,9,9,9)
      ·have N:¬n-1-l > 0:=N;have:l=n-1:=by lia
       subst this;refine wpS_bind (bj (show z-1<a.size by lia) ?_);have K:=V.popL ⋯ ⋯ λy F=>by obtain⟨d,B,v,rfl⟩:=eG F;exact H d v B
       refine aR (λc=>wpS_pure (D,.inl (5,K.ha ?_))) λO=>?_
       ·have c:z-1=0:=beq_iff_eq.mp c;rw[c];exact S _
       have O:z-1≠0:=λe=>O (beq_iff_eq.mpr e);exact aR (λ_=>wpS_pure (D,.inr (z-1,(n-1),1,_,5,K,9,9,9,9,9))) λ_=>wpS_pure (D,z-1,(n-1),1,_,5,K,9,9,9,9,9)
     ·have Z:¬m-z > 0:=Z;have:z=m:=by lia
      subst this;refine wpS_bind (bj (show n-1<b.size by lia) ?_);have V:=M.popR ⋯ f λx J=>by
       obtain⟨d,B,v,rfl⟩:=eG J;exact P d v B
      refine aR (λc=>wpS_pure (D,.inl (5,V.hb ?_))) λc4=>?_
      ·have c:n-1=1:=beq_iff_eq.mp c;rw[c];exact first _
      have c4:n-1≠1:=λe=>c4 (beq_iff_eq.mpr e);refine wpS_bind (bj (show z-1<a.size by lia) (wpS_bind (gq (base:=0) (n:=n-1) (hint:=n-1-1) hO (D.kind.trans hk) hB (kA (z-1) ⋯) (by rw[agO];exact uY sb ⋯) ⋯ ⋯ λl Y H L=>?_)));have H:∀d (hd:d<b.size),d<l->kl κ b[d] (a[z-1]'(by omega)):=λd hd a0=>by
       have q:=H d a0;rw[agO,bK hd]at q;exact KeyOrd.kle_of_klt q
      have L:∀d (hd:d<b.size),l<=d->d<n-1->kl κ (a[z-1]'(by omega)) b[d]:=λd hd B v=>by
       have q:=L d B v;rw[agO,bK hd]at q;exact q
      have U:=V.cutR Y λy F x J=>by
       obtain⟨d,B,v,h3,rfl⟩:=zW F;obtain⟨e,h4,h5,rfl⟩:=eG J;exact dO (Z3 e (z-1) h5 ⋯ ⋯) (L d h3 B v)
      refine aR (λN=>aR (λc=>wpS_pure (D,.inl (5,U.hb ?_))) λc6=>aR (λc=>wpS_pure (D,.inl (5,U.ha ?_))) λc7=>?_) λN=>?_
      ·have c:l=1:=beq_iff_eq.mp c;rw[c];exact first _
      ·have c:l=0:=beq_iff_eq.mp c;rw[c];exact zB _
      ·have c6:l≠1:=λe=>c6 (beq_iff_eq.mpr e);have c7:l≠0:=λe=>c7 (beq_iff_eq.mpr e);refine wpS_bind (bj (show z-1<a.size by lia) ?_);have K:=U.popL ⋯ ⋯ λy F=>by obtain⟨d,B,v,rfl⟩:=eG F;exact H d v B
       refine aR (λc=>wpS_pure (D,.inl (5,K.ha ?_))) λO=>?_
       ·have c:z-1=0:=beq_iff_eq.mp c;rw[c];exact S _
       have O:z-1≠0:=λe=>O (beq_iff_eq.mpr e);exact aR (λ_=>wpS_pure (D,.inr (z-1,l,1,_,5,K,9,9,9,9,9))) λ_=>wpS_pure (D,z-1,l,1,_,5,K,9,9,9,9,9)
      ·have N:¬n-1-l > 0:=N;have:l=n-1:=by lia
       subst this;refine wpS_bind (bj (show z-1<a.size by lia) ?_);have K:=V.popL ⋯ ⋯ λy F=>by obtain⟨d,B,v,rfl⟩:=eG F;exact H d v B
       refine aR (λc=>wpS_pure (D,.inl (5,K.ha ?_))) λO=>?_
       ·have c:z-1=0:=beq_iff_eq.mp c;rw[c];exact S _
       have O:z-1≠0:=λe=>O (beq_iff_eq.mpr e);exact aR (λ_=>wpS_pure (D,.inr (z-1,(n-1),1,_,5,K,9,9,9,9,9))) λ_=>wpS_pure (D,z-1,(n-1),1,_,5,K,9,9,9,9,9)
   ·rintro c a2 ⟨Vw,m,n,o,g,p,q,rfl,M,k,j,u,f,G⟩;exact(Vw,.inr (m,n,o,g,p,q,7,M,k,j,u,f,G))
   ·rintro c a2 ⟨Vw,hc⟩;rcases hc with ⟨r,hr,hF⟩|⟨m,n,o,g,p,q,rfl,M,k,j,u,f,G⟩
    ·obtain⟨c1,c2⟩:=c;cases hr;exact wpS_pure (Vw,r,7,hF)
    exact wpS_bind (uc Vw λVm D=>wpS_pure (D,m,n,o,5,M,k,j,u,f,9))
 ·rintro c X ⟨R,m,n,o,g,rfl,M,k,j,u,f,G⟩;exfalso;lia
 ·rintro c X ⟨R,r,hr,hF⟩;obtain⟨c1,c2⟩:=c;cases hr;exact wpS_pure (h r X R hF)
end
theorem BJ(i:Nat):mergeAt' i=(do
 let u <-get
 let (pq (some (pq sa (pq m pw))) (some (pq sb (pq n _)))):=(pq ((pendingOf u)[i]?) ((pendingOf u)[i+1]?)) | unsupported "internal:list.sort.pending"
 set (setPending u (((pendingOf u).setIfInBounds i (pq sa (pq (m+n) pw))).eraseIdxIfInBounds (i+1)))
 let some k <-gj false (<-elem' (arrOf u) sb) (arrOf u) sa m 0|return false
 let (pq sa m):=(pq (sa+k) (m-k))
 if m==0 then return true
 let some n <-gj true (<-elem' (arrOf u) (sa+m-1)) (arrOf u) sb n (n-1) | return false
 if n==0 then return true
 let x:=(arrOf u).extract sa sb
 let y:=(arrOf u).extract sb (sb+n)
 let r <-if m<=n then uJ x y else vY x y
 modify λv=>setArr v (r.toList.zipIdx.foldl (λc (p,j)=>c.setIfInBounds (sa+j) p) (arrOf v))
 return (failedOf (<-get)).isNone):=rfl
def wr(xs:Array Keyed)(base:Nat)(r:List Keyed):Array Keyed:=r.zipIdx.foldl (λc (p,j)=>c.setIfInBounds (base+j) p) xs
theorem Pr(base:Nat):∀(r:List Keyed) (n:Nat) (xs:Array Keyed),base+n+r.length<=xs.size->((r.zipIdx n).foldl (λc (p,j)=>c.setIfInBounds (base+j) p) xs).size=xs.size /\ ∀t:Nat,((r.zipIdx n).foldl (λc (p,j)=>c.setIfInBounds (base+j) p) xs)[t]?=if base+n<=t/\t<base+n+r.length then r[t-(base+n)]? else xs[t]?
 |[],n,xs,_=>(7,λt=>by rw[if_neg (by rw[ah1];lia)];rfl)
 |p::r,n,xs,h=>by
  rw[aaB]at h;have a:=Pr base r (n+1) (xs.setIfInBounds (base+n) p) (by rw[aiA];lia);rw[List.zipIdx_cons,aih];refine(a.1.trans aiA,λt=>(a.2 t).trans ?_);rw[aaB];by_cases d:t=base+n
  ·subst d;rw[if_neg ⋯,if_pos ⋯,ahK,Array.getElem?_setIfInBounds_self_of_lt ⋯];rfl
  by_cases b:base+(n+1)<=t/\t<base+(n+1)+r.length
  ·rw[if_pos b,if_pos ⋯,show t-(base+n)=t-(base+(n+1))+1 by lia,ahY]
  ·rw[if_neg b,if_neg ⋯,Array.getElem?_setIfInBounds_ne ⋯]
theorem Fi{xs:Array Keyed}{base:Nat}{r:List Keyed}(h:base+r.length<=xs.size)(t:Nat):(wr xs base r)[t]?=if base<=t/\t<base+r.length then r[t-base]? else xs[t]?:=(Pr base r 0 xs h).2 t
theorem Nv{xs:Array Keyed}{base:Nat}{r:List Keyed}(h:base+r.length<=xs.size):(wr xs base r).toList=xs.toList.take base++r++xs.toList.drop (base+r.length):=by
 apply ahl;intro t;have a:(xs.toList.take base).length=base:=by rw[aaz,aaf];lia
 rw[abv,Fi h];by_cases b:t<base
 ·rw[if_neg ⋯,aaG,aaw ⋯,adI b,abv]
 by_cases c:t<base+r.length
 ·rw[if_pos ⋯,aaG,aap ⋯,a,aaw ⋯]
 ·rw[if_neg ⋯,aap (by rw[aae];lia),aae,a,agF,abv];congr 1;lia
section
variable{a₀:Array Keyed}{κ:KeyKind}{pd:Array (Nat×Nat×Nat)}
theorem Oe{σ:Type}{M:Model}{st a:σ}{Q:PUnit->σ->Prop}(h:Q ⟨⟩ a):wpS M A E s (set a:StateT σ Sem PUnit) Q st:=by
 unfold wpS;rw[StateT.run_set];exact wpAny_pure (7,h)
theorem Ja{xs ys:Array Keyed}(h:KeysOf κ ys)(p:xs.Perm ys):KeysOf κ xs:=λq a=>h q ((ag6.mp p).mem_iff.mp a)
theorem KR{xs:Array Keyed}(h:KeysOf κ xs){i:Nat}(b:i<xs.size):∃a,κ.keyOf xs[i].1=some a:=h _ (adJ _)
theorem Ci{xs:Array Keyed}{lo n:Nat}(h:Sd κ xs lo (lo+n))(d:lo+n<=xs.size):((xs.toList.drop lo).take n).Pairwise (kl κ):=by
 refine abF.mpr λi j b a c=>?_;rw[aaz,abo,aaf]at b a;rw[ahM,ahm,adK,ahM,ahm,adK];have q:=h (lo+i) (lo+j) ⋯ ⋯ ⋯;rw[bK (show lo+i<xs.size by lia),bK (show lo+j<xs.size by lia)]at q;exact q
theorem Fv{st:SortSt}{i m f n S XR:Nat}{Q:Bool->SortSt->Prop}(hO:κ.OneLt)(h0:KeysOf κ a₀)(C:TB a₀ pd st)(h1:pd[i]?=some (pq R (pq m S)))(h2:pd[i+1]?=some (pq f (pq n XR)))(a6:f=R+m)(hm:1<=m)(hn:1<=n)(hz:f+n<=a₀.size)(G:Sd κ (arrOf st) R f)(F:Sd κ (arrOf st) f (f+n))
  (h:∀j,TB a₀ ((pd.setIfInBounds i (pq R (pq (m+n) S))).eraseIdxIfInBounds (i+1)) j->Sd κ (arrOf j) R (f+n)->(∀k:Nat,k<R\/f+n<=k->(arrOf j)[k]?=(arrOf st)[k]?)->Q true j):wpS (model prog w) A E s (mergeAt' i) Q st:=by
 have a8:=C.size;have N:KeysOf κ (arrOf st):=Ja h0 C.perm;rw[BJ];refine wpS_bind (wpS_get ?_);dsimp only;rw[C.pend,h1,h2];dsimp only;refine wpS_bind (Oe ?_);have O:TB a₀ ((pd.setIfInBounds i (pq R (pq (m+n) S))).eraseIdxIfInBounds (i+1)) (setPending st ((pd.setIfInBounds i (pq R (pq (m+n) S))).eraseIdxIfInBounds (i+1))):=(C.perm,C.kind,C.failed,7);refine wpS_bind (bj (show f<(arrOf st).size by lia) (wpS_bind (j5 hO O.kind N (KR N ⋯) (by rw[<-a6];exact G) ⋯ ⋯ λk b0 Z Y=>?_)));dsimp only;have ek:ky κ ((arrOf st)[f]'(by omega))=KK κ (arrOf st) f:=(bK _).symm;rw[ek]at Z Y;have I:∀t,R<=t->t<R+k->κ.kle (KK κ (arrOf st) t) (KK κ (arrOf st) f):=λt a b=>by
  have q:=Z (t-R) ⋯
  rwa [show R+(t-R)=t by lia]at q
 have a5:∀t,R+k<=t->t<f->κ.klt (KK κ (arrOf st) f) (KK κ (arrOf st) t):=λt a b=>by
  have q:=Y (t-R) ⋯ ⋯
  rwa [show R+(t-R)=t by lia]at q
 refine aR (λc=>wpS_pure (h _ O (λt u a b d=>?_) λt _=>rfl)) λc=>?_
 ·have c:m-k=0:=beq_iff_eq.mp c;by_cases L:u<f
  ·exact G t u a b L
  by_cases o:t<f
  ·exact KeyOrd.kle_trans (I t a ⋯) (F f u (aac _) ⋯ d)
  ·exact F t u ⋯ b d
 have c:m-k≠0:=λe=>c (beq_iff_eq.mpr e);refine wpS_bind (bj (show R+k+(m-k)-1<(arrOf st).size by lia) (wpS_bind (gq hO O.kind N (KR N ⋯) F ⋯ ⋯ λl a9 X W=>?_)));dsimp only;have el:ky κ ((arrOf st)[R+k+(m-k)-1]'(by omega))=KK κ (arrOf st) (f-1):=by
  rw[<-bK];congr 1;lia
 rw[el]at X W;have a2:∀t,f<=t->t<f+l->κ.klt (KK κ (arrOf st) t) (KK κ (arrOf st) (f-1)):=λt a b=>by
  have q:=X (t-f) ⋯
  rwa [show f+(t-f)=t by lia]at q
 have T:∀t,f+l<=t->t<f+n->κ.kle (KK κ (arrOf st) (f-1)) (KK κ (arrOf st) t):=λt a b=>by
  have q:=W (t-f) ⋯ ⋯
  rwa [show f+(t-f)=t by lia]at q
 refine aR (λc=>wpS_pure (h _ O (λt u a b d=>?_) λt _=>rfl)) λc2=>?_
 ·have c:l=0:=beq_iff_eq.mp c;by_cases L:u<f
  ·exact G t u a b L
  by_cases o:t<f
  ·exact KeyOrd.kle_trans (G t (f-1) a ⋯ ⋯) (T u ⋯ d)
  ·exact F t u ⋯ b d
 have c2:l≠0:=λe=>c2 (beq_iff_eq.mpr e);have a4:((arrOf st).extract (R+k) f).size=m-k:=by rw[ai1];lia
 have a3:((arrOf st).extract f (f+l)).size=l:=by rw[ai1];lia
 have xl:((arrOf st).extract (R+k) f).toList=((arrOf st).toList.drop (R+k)).take (m-k):=by
  rw[ahh,agS,show f-(R+k)=m-k by lia]
 have yl:((arrOf st).extract f (f+l)).toList=((arrOf st).toList.drop f).take l:=oE _ _ _;have sx:((arrOf st).extract (R+k) f).toList.Pairwise (kl κ):=by
  rw[xl];exact Ci (λt u a b d=>G t u ⋯ b ⋯) ⋯
 have sy:((arrOf st).extract f (f+l)).toList.Pairwise (kl κ):=by
  rw[yl];exact Ci (λt u a b d=>F t u a b ⋯) ⋯
 have x:∀z∈((arrOf st).extract (R+k) f).toList,∃t,R+k<=t/\t<f/\ky κ z=KK κ (arrOf st) t/\z∈(arrOf st).toList:=λz hz=>by
  rw[xl]at hz;obtain⟨d,hd,J,rfl⟩:=jL hz;exact(R+k+d,9,9,(bK J).symm,adJ _)
 have p:∀z∈((arrOf st).extract f (f+l)).toList,∃t,f<=t/\t<f+l/\ky κ z=KK κ (arrOf st) t/\z∈(arrOf st).toList:=λz hz=>by
  rw[yl]at hz;obtain⟨d,hd,J,rfl⟩:=jL hz;exact(f+d,9,9,(bK J).symm,adJ _)
 have kx:KeysOf κ ((arrOf st).extract (R+k) f):=λz hz=>N z (x z hz).choose_spec.2.2.2;have U:KeysOf κ ((arrOf st).extract f (f+l)):=λz hz=>N z (p z hz).choose_spec.2.2.2;have y0:ky κ (((arrOf st).extract f (f+l))[0]'(by omega))=KK κ (arrOf st) f:=by
  rw[aiN];exact(bK ⋯).symm
 have K:ky κ (((arrOf st).extract (R+k) f)[((arrOf st).extract (R+k) f).size-1]'(by omega))=KK κ (arrOf st) (f-1):=by
  rw[aiN,<-bK];congr 1;lia
 have hf:∀z∈((arrOf st).extract (R+k) f).toList,kl κ (((arrOf st).extract f (f+l))[0]'(by omega)) z:=λz hz=>by
  obtain⟨t,o,M,e,_⟩:=x z hz;unfold kl;rw[y0,e];exact KeyOrd.kle_of_klt (a5 t o M)
 have hl:∀z∈((arrOf st).extract f (f+l)).toList,kl κ z (((arrOf st).extract (R+k) f)[((arrOf st).extract (R+k) f).size-1]'(by omega)):=λz hz=>by
  obtain⟨t,o,M,e,_⟩:=p z hz;unfold kl;rw[K,e];exact KeyOrd.kle_of_klt (a2 t o M)
 have a0:∀(r:Array Keyed) (j:SortSt),cM (setPending st ((pd.setIfInBounds i (pq R (pq (m+n) S))).eraseIdxIfInBounds (i+1))) j->Fin (kl κ) (((arrOf st).extract (R+k) f).toList++((arrOf st).extract f (f+l)).toList) r.toList ->
   wpS (model prog w) A E s (do
    modify λv=>setArr v (wr (arrOf v) (R+k) r.toList)
    return (failedOf (<-get)).isNone) Q j:=by
  intro r j hg hF;have a7:r.toList.length=m-k+l:=by rw[hF.1.length_eq,aae,aaf,aaf,a4,a3]
  have ea:arrOf j=arrOf st:=hg.arr;have y:R+k+r.toList.length<=(arrOf st).size:=by lia
  refine wpS_bind (wpS_modify (wpS_bind (wpS_get ?_)));have e3:failedOf (setArr j (wr (arrOf j) (R+k) r.toList))=none:=hg.failed.trans C.failed;rw[e3];refine wpS_pure (h _ (8,hg.kind.trans C.kind,e3,hg.pend) ?_ ?_)
  ·show (wr (arrOf j) (R+k) r.toList).Perm a₀;rw[ea];refine Array.Perm.trans (ag6.mpr ?_) C.perm;rw[Nv y,a7];have e4:(arrOf st).toList=(arrOf st).toList.take (R+k)++(((arrOf st).extract (R+k) f).toList++((arrOf st).extract f (f+l)).toList)++(arrOf st).toList.drop (R+k+(m-k+l)):=by
    rw[xl,yl,aaG]
    conv=>lhs;rw[<-aft (R+k) (arrOf st).toList]
    congr 1
    conv=>lhs;rw[<-aft (m-k+l) ((arrOf st).toList.drop (R+k))]
    rw[ah5,ai0,ah5,show R+k+(m-k)=f by lia]
   conv=>rhs;rw[e4]
   exact((ajs _).append hF.1).append (ajs _)
  ·have a1:∀t,KK κ (wr (arrOf st) (R+k) r.toList) t=if ht:R+k<=t/\t<f+l then ky κ (r.toList[t-(R+k)]'(by omega))else KK κ (arrOf st) t:=λt=>by
    have g:=Fi y t;by_cases ht:R+k<=t/\t<f+l
    ·rw[dif_pos ht];rw[if_pos ⋯,aad ⋯]at g;unfold KK ky;rw[g]
    ·rw[dif_neg ht];rw[if_neg ⋯]at g;exact KK_congr g
   have H:∀z∈r.toList,∃t,R+k<=t/\t<f+l/\ky κ z=KK κ (arrOf st) t:=λz hz=>by
    rcases aaW.mp (hF.1.mem_iff.mp hz)with hz|hz
    ·obtain⟨t,o,M,e,_⟩:=x z hz;exact(t,o,9,e)
    ·obtain⟨t,o,M,e,_⟩:=p z hz;exact(t,9,M,e)
   have B:∀t,R<=t->t<R+k -> ∀u,R+k<=u->u<f+n->κ.kle (KK κ (arrOf st) t) (KK κ (arrOf st) u):=λt a b u c d=>by
    by_cases L:u<f
    ·exact G t u a ⋯ L
    ·exact KeyOrd.kle_trans (I t a b) (F f u (aac _) ⋯ d)
   have D:∀t,R+k<=t->t<f+l -> ∀u,f+l<=u->u<f+n->κ.kle (KK κ (arrOf st) t) (KK κ (arrOf st) u):=λt a b u c d=>by
    by_cases o:t<f
    ·exact KeyOrd.kle_trans (G t (f-1) ⋯ ⋯ ⋯) (T u c d)
    ·exact F t u ⋯ ⋯ d
   show Sd κ (wr (arrOf j) (R+k) r.toList) R (f+n);rw[ea];intro t u a b d;rw[a1,a1];by_cases tr:R+k<=t/\t<f+l
   ·rw[dif_pos tr];by_cases P:R+k<=u/\u<f+l
    ·rw[dif_pos P];by_cases e:t=u
     ·subst e;exact KeyOrd.kle_refl _
     ·exact abF.mp hF.2 (t-(R+k)) (u-(R+k)) ⋯ ⋯ ⋯
    ·rw[dif_neg P];obtain⟨v,v1,v2,e⟩:=H _ (acV (show t-(R+k)<r.toList.length by lia));rw[e];exact D v v1 v2 u ⋯ d
   ·rw[dif_neg tr];by_cases P:R+k<=u/\u<f+l
    ·rw[dif_pos P];obtain⟨v,v1,v2,e⟩:=H _ (acV (show u-(R+k)<r.toList.length by lia));rw[e];exact B t a ⋯ v v1 ⋯
    ·rw[dif_neg P];by_cases o:t<R+k
     ·by_cases L:u<R+k
      ·exact G t u a b ⋯
      ·exact B t a o u ⋯ d
     ·exact F t u ⋯ b d
  ·intro t ht;show (wr (arrOf j) (R+k) r.toList)[t]?=_;rw[ea,Fi y,if_neg ⋯]
 by_cases V:m-k<=l
 ·rw[if_pos V];exact wpS_bind (Fx hO O.kind kx U sx sy ⋯ ⋯ hf hl a0)
 ·rw[if_neg V];exact wpS_bind (Fb hO O.kind kx U sx sy ⋯ ⋯ hf hl a0)
end
def Lay:Nat->List (Nat×Nat×Nat)->Nat->Prop
 |s,[],e=>s=e
 |s,x::r,e=>s=x.1/\1<=x.2.1/\Lay (x.1+x.2.1) r e
theorem o4:∀{P R:List (Nat×Nat×Nat)} {s e:Nat},Lay s (P++R) e ↔ ∃m,Lay s P m/\Lay m R e
 |[],R,s,e=>(λh=>(s,7,h),λ⟨m,b,a⟩=>by cases b;exact a)
 |x::P,R,s,e=>by
  constructor
  ·rintro⟨b,a,f⟩;obtain⟨m,d,c⟩:=o4.mp f;exact(m,(b,a,d),c)
  ·rintro⟨m,⟨b,a,d⟩,c⟩;exact(b,a,o4.mpr (m,d,c))
theorem iB:∀{R:List (Nat×Nat×Nat)} {s e:Nat},Lay s R e->s+R.length<=e /\ ∀x∈R,s<=x.1/\x.1+x.2.1<=e
 |[],s,e,h=>(ahD h,λx a=>by cases a)
 |y::R,s,e,h=>by
  obtain⟨f,d,b⟩:=h;obtain⟨g,c⟩:=iB b;refine(by rw[aaB];lia,λx a=>?_);rcases aas.mp a with rfl|a
  ·lia
  ·have:=c x a;lia
structure Runs(κ:KeyKind)(xs:Array Keyed)(pd:Array (Nat×Nat×Nat))(lo:Nat):Prop where
 lay:Lay 0 pd.toList lo
 sd:∀x∈pd.toList,Sd κ xs x.1 (x.1+x.2.1)
theorem lQ{κ:KeyKind}{xs ys:Array Keyed}{lo :Nat}(h:Sd κ xs lo n)(e:∀k:Nat,lo<=k->k<n->ys[k]?=xs[k]?):Sd κ ys lo n:=λi j a b c=>by
 rw[KK_congr (e i a ⋯),KK_congr (e j ⋯ c)];exact h i j a b c
theorem Runs.low{κ:KeyKind}{xs ys:Array Keyed}{a:Array (Nat×Nat×Nat)}{lo:Nat}(h:Runs κ xs a lo)(e:UW lo xs ys):Runs κ ys a lo:=
 (h.lay,λx b=>lQ (h.sd x b) λk _ c=>e k (by have:=(iB h.lay).2 x b;lia))
theorem Runs.push{κ:KeyKind}{xs:Array Keyed}{b:Array (Nat×Nat×Nat)}{lo n p:Nat}(h:Runs κ xs b lo)(d:1<=n)(c:Sd κ xs lo (lo+n)):Runs κ xs (b.push (pq lo (pq n p))) (lo+n):=by
 refine(by rw[agR];exact o4.mpr (lo,h.lay,7,d,7),λx a=>?_);rw[agR]at a;rcases aaW.mp a with a|a
 ·exact h.sd x a
 ·rw[aam.mp a];exact c
theorem Cz:∀{R b:List (Nat×Nat×Nat)} {s e:Nat},R.map (λx=>(pq x.1 x.2.1))=b.map (λx=>(pq x.1 x.2.1))->Lay s R e->Lay s b e
 |[],[],_,_,_,h=>h
 |[],_::_,_,_,h,_=>by cases h
 |_::_,[],_,_,h,_=>by cases h
 |x::R,y::b,s,e,h,l=>by
  rw[aar,aar]at h;injection h with j i
  injection j with g f
  obtain⟨d,c,a⟩:=l;rw[g]at d a;rw[f]at c a;exact(d,c,Cz i a)
theorem Runs.same{κ:KeyKind}{xs:Array Keyed}{a b:Array (Nat×Nat×Nat)}{lo:Nat}(h:Runs κ xs a lo)(e:a.toList.map (λx=>(pq x.1 x.2.1))=b.toList.map (λx=>(pq x.1 x.2.1))):Runs κ xs b lo:=by
 refine(Cz e h.lay,λx d=>?_);have f:(pq x.1 x.2.1)∈a.toList.map (λx=>(pq x.1 x.2.1)):=by
  rw[e];exact aaZ.mpr (x,d,7)
 obtain⟨y,c,j⟩:=aaZ.mp f;injection j with i g
 have q:=h.sd y c;rw[i,g]at q;exact q
theorem QQ{c:Prop}[Decidable c]{n:Nat}(h:¬n<=1):(if c then n-2-1 else n-2)+1<n:=by
 split<;>lia
theorem CV{a:Type}(l:List O)(i:Nat)(f:O->O)(g:O->a)(h:∀x,g (f x)=g x):(l.modify i f).map g=l.map g:=by
 apply ahl;intro t;rw[aag,aag,List.getElem?_modify];cases l[t]? with
 |none=>rfl
 |some x=>
  by_cases e:i=t
  ·simp[e,h]
  ·simp[e]
section
variable{a₀:Array Keyed}{κ:KeyKind}{pd:Array (Nat×Nat×Nat)}
theorem j6{st:SortSt}{i lo:Nat}{Q:Bool->SortSt->Prop}(U:κ.OneLt)(W:KeysOf κ a₀)(V:TB a₀ pd st)(l:Runs κ (arrOf st) pd lo)(T:i+1<pd.size)(a0:lo<=a₀.size)
  (h:∀a D,TB a₀ D a->Runs κ (arrOf a) D lo->D.size+1=pd.size->(∀k:Nat,lo<=k->(arrOf a)[k]?=(arrOf st)[k]?)->Q true a):wpS (model prog w) A E s (mergeAt' i) Q st:=by
 obtain⟨⟨b,m,j⟩,O⟩:∃x,pd[i]?=some x:=(_,getElem?_pos pd i ⋯);obtain⟨⟨g,n,C⟩,N⟩:∃x,pd[i+1]?=some x:=(_,getElem?_pos pd (i+1) T);have f:pd.toList=pd.toList.take i++(pq b (pq m j))::(pq g (pq n C))::pd.toList.drop (i+2):=by
  have Y:pd.toList[i]?=some (pq b (pq m j)):=by rw[abv];exact O
  have X:pd.toList[i+1]?=some (pq g (pq n C)):=by rw[abv];exact N
  have z:=aab.mp Y;have y:=aab.mp X;obtain⟨z,I⟩:=z;obtain⟨y,H⟩:=y
  conv=>lhs;rw[<-aft i pd.toList]
  rw[af4 z,I,af4 y,H]
 have d:=l.lay;rw[f]at d;obtain⟨S,M,L,K,u,J,t⟩:=o4.mp d;dsimp only at L K u J t;have Z:=iB M;have B:=iB t;have r:(pq b (pq m j))∈pd.toList:=by rw[f];exact aat _ aaL
 have p:(pq g (pq n C))∈pd.toList:=by rw[f];exact aat _ (aaC _ aaL)
 have R:=l.sd _ r;have P:=l.sd _ p;dsimp only at R P;refine Fv U W V O N u.symm K J (by have:=B.1;lia) (by rw[<-u];exact R) P λa G F e=>?_;have v:((pd.setIfInBounds i (pq b (pq (m+n) j))).eraseIdxIfInBounds (i+1)).toList=pd.toList.take i++(pq b (pq (m+n) j))::pd.toList.drop (i+2):=by
  have o:(pd.toList.take i).length=i:=by rw[aaz,aaf];lia
  rw[Array.toList_eraseIdxIfInBounds,Array.toList_setIfInBounds]
  conv=>lhs;rw[f]
  rw[List.set_append_right _ _ ⋯,o,ahK,List.set_cons_zero,List.eraseIdx_append_of_length_le ⋯,o,agB];rfl
 refine h a _ G (8,λx c=>?_) ?_ λk hk=>e k (.inr (by have:=B.1;lia))
 ·rw[v];refine o4.mpr (S,M,L,by show 1<=m+n;lia,8);show Lay (b+(m+n)) _ lo;rw[show b+(m+n)=g+n by lia];exact t
 ·rw[v]at c;rcases aaW.mp c with c|c
  ·have q:=l.sd x (by rw[f];exact agC _ c);exact lQ q λk _ a1=>e k (.inl (by have:=Z.2 x c;lia))
  ·rcases aas.mp c with rfl|c
   ·show Sd κ (arrOf a) b (b+(m+n));rw[show b+(m+n)=g+n by lia];exact F
   ·have q:=l.sd x (by rw[f];exact aat _ (aaC _ (aaC _ c)));exact lQ q λk a2 _=>e k (.inr (by have:=B.2 x c;lia))
 ·have:=congrArg ahp v;rw[aaf,aae,aaz,aaB,abo,aaf]at this;lia
theorem Lp{xs:Array Keyed}{lo n:Nat}(h:Vd κ xs lo n):Sd κ xs lo (lo+n):=λi j a b c=>by
 have q:=h (i-lo) (j-lo) ⋯ ⋯
 rwa [show lo+(i-lo)=i by lia,show lo+(j-lo)=j by lia]at q
theorem Dj{st:SortSt}{Q:Unit->SortSt->Prop}(K:κ.OneLt)(L:KeysOf κ a₀)(hB:TB a₀ #[] st)(h2:2<=a₀.size)
  (h:∀a,(arrOf a).Perm a₀->failedOf a=none->SortedToK κ (arrOf a) a₀.size->Q () a):wpS (model prog w) A E s sortRuns' Q st:=by
 rw[sortRuns'_eq];refine wpS_bind (wpS_get ?_);dsimp only;rw[hB.size];refine wpS_bind (wpS_mono (wpS_forRange (I:=λx c a=>∃b pd,c=(pq none b)/\TB a₀ pd a/\Runs κ (arrOf a) pd b/\x<=b/\b<=a₀.size) (Q:=λc a=>∃pd,c=(pq none a₀.size)/\TB a₀ pd a/\Runs κ (arrOf a) pd a₀.size) ?_ ?_ (0,#[],7,hB,(7,λx U=>by cases U),aac _,aaD _)) ?_)
 ·rintro x c O _ U ⟨b,pd,rfl,J,C,XS,F⟩;dsimp only;by_cases P:b >= a₀.size
  ·rw[if_pos P];have:b=a₀.size:=by lia
   subst this;exact wpS_pure (pd,7,J,C)
  rw[if_neg P];refine wpS_bind (Bo K L J ⋯ ⋯ λm u f a6 a3 a7 o=>?_);dsimp only;have v:=C.low a6;by_cases D:m<minRun' a₀.size a₀.size 0
  ·rw[if_pos D];generalize minRun' a₀.size a₀.size 0=mr at D ⊢;refine wpS_bind (wpS_lift (wpAny_rule (7,8)));refine wpS_bind (wY K L f ⋯ ⋯ o λN d Z1 a5=>?_);rw[if_neg ∅];have B:=v.low Z1;have l:=Lp a5;obtain⟨n,hn,M,Yz⟩:∃n,min (a₀.size-b) mr=n/\1<=n/\b+n<=a₀.size:=(5,9,9);rw[hn]at l ⊢;refine wpS_bind (wpS_get ?_);rw[d.pend];cases Wr:pd.back? with
   |none=>
    dsimp only;exact wpS_bind (wpS_modify (wpS_pure (b+n,pd.push (pq b (pq n 0)),7,(d.perm,d.kind,d.failed,by show (pendingOf N).push _=_;rw[d.pend]),B.push M l,9,9)))
   |some t=>
    obtain⟨s1,n1,p1⟩:=t;dsimp only;refine wpS_bind (wpS_mono (wpS_forRange (I:=λ_ c a=>c=(pq none (())) /\ ∃e,TB a₀ e a/\Runs κ (arrOf a) e b/\Sd κ (arrOf a) b (b+n)) (Q:=λc a=>c=(pq none (())) /\ ∃e,TB a₀ e a/\Runs κ (arrOf a) e b/\Sd κ (arrOf a) b (b+n)) ?_ ?_ (7,pd,d,B,l)) ?_)
    ·rintro y c p _ _ ⟨rfl,e,g,r,q⟩;refine wpS_bind (wpS_get ?_);rw[g.pend];by_cases z:e.size > 1
     ·rw[if_pos z,getElem?_pos e (e.size-2) ⋯];generalize e[e.size-2]=T;obtain⟨a1,a2,G⟩:=T;dsimp only;refine aR (λ_=>wpS_pure (7,e,g,r,q)) λ_=>wpS_bind (j6 K L g r ⋯ F λVu Z X3 Y _ X=>?_);rw[if_neg ∅];exact wpS_pure (7,Z,X3,Y,lQ q λk V _=>X k V)
     ·rw[if_neg z];exact wpS_pure (7,e,g,r,q)
    ·rintro c p W;exact W
    ·rintro c p ⟨rfl,e,g,r,q⟩;dsimp only;refine wpS_bind (wpS_modify (wpS_bind (wpS_modify (wpS_pure (b+n,5,(g.perm,g.kind,g.failed,7),8,9,9)))));show Runs κ (arrOf p) (((pendingOf p).modify ((pendingOf p).size-1) _).push (pq b (pq n 0))) (b+n);rw[g.pend];refine Runs.push (r.same ?_) M q;rw[aiV];refine(CV _ _ _ _ ?_).symm;exact λ_=>rfl
  ·rw[if_neg D];have d:=f;have B:=v;have l:=Lp o;have M:=a3;refine wpS_bind (wpS_get ?_);rw[d.pend];cases Wr:pd.back? with
   |none=>
    dsimp only;exact wpS_bind (wpS_modify (wpS_pure (b+m,pd.push (pq b (pq m 0)),7,(d.perm,d.kind,d.failed,by show (pendingOf u).push _=_;rw[d.pend]),B.push M l,9,9)))
   |some t=>
    obtain⟨s1,n1,p1⟩:=t;dsimp only;refine wpS_bind (wpS_mono (wpS_forRange (I:=λ_ c a=>c=(pq none (())) /\ ∃e,TB a₀ e a/\Runs κ (arrOf a) e b/\Sd κ (arrOf a) b (b+m)) (Q:=λc a=>c=(pq none (())) /\ ∃e,TB a₀ e a/\Runs κ (arrOf a) e b/\Sd κ (arrOf a) b (b+m)) ?_ ?_ (7,pd,d,B,l)) ?_)
    ·rintro y c p _ _ ⟨rfl,e,g,r,q⟩;refine wpS_bind (wpS_get ?_);rw[g.pend];by_cases z:e.size > 1
     ·rw[if_pos z,getElem?_pos e (e.size-2) ⋯];generalize e[e.size-2]=T;obtain⟨a1,a2,G⟩:=T;dsimp only;refine aR (λ_=>wpS_pure (7,e,g,r,q)) λ_=>wpS_bind (j6 K L g r ⋯ F λVu Z X3 Y _ X=>?_);rw[if_neg ∅];exact wpS_pure (7,Z,X3,Y,lQ q λk V _=>X k V)
     ·rw[if_neg z];exact wpS_pure (7,e,g,r,q)
    ·rintro c p W;exact W
    ·rintro c p ⟨rfl,e,g,r,q⟩;dsimp only;refine wpS_bind (wpS_modify (wpS_bind (wpS_modify (wpS_pure (b+m,5,(g.perm,g.kind,g.failed,7),8,9,9)))));show Runs κ (arrOf p) (((pendingOf p).modify ((pendingOf p).size-1) _).push (pq b (pq m 0))) (b+m);rw[g.pend];refine Runs.push (r.same ?_) M q;rw[aiV];refine(CV _ _ _ _ ?_).symm;exact λ_=>rfl
 ·rintro c O ⟨b,pd,rfl,J,C,XS,F⟩;have:b=a₀.size:=by lia
  subst this;exact(pd,7,J,C)
 ·rintro c O ⟨pd,rfl,J,C⟩;dsimp only;refine wpS_bind (wpS_mono (wpS_forRange (I:=λx c a=>c=(pq none (())) /\ ∃pd,TB a₀ pd a/\Runs κ (arrOf a) pd a₀.size/\pd.size+x<=a₀.size) (Q:=λc a=>c=(pq none (())) /\ ∃pd,TB a₀ pd a/\Runs κ (arrOf a) pd a₀.size/\pd.size<=1) ?_ ?_ (7,pd,J,C,8)) ?_)
  ·rintro x c u _ U ⟨rfl,H,f,v,o⟩;refine wpS_bind (wpS_get ?_);rw[f.pend];refine aR (λz=>wpS_pure (7,H,f,v,z)) λz=>?_;refine wpS_bind (j6 K L f v (QQ z) (aac _) λN a0 d B YK _=>?_);rw[if_neg ∅];exact wpS_pure (7,a0,d,B,9)
  ·rintro c u ⟨rfl,H,f,v,o⟩;exact(7,H,f,v,9)
  ·have:=(iB C.lay).1;rw[aaf]at this;lia
  ·rintro c u ⟨rfl,H,f,v,o⟩;refine wpS_pure (h u f.perm f.failed λi j a4 hj=>?_);have R:H.toList.length<=1:=by rw[aaf];exact o
   have S:=v.lay;have hd:=v.sd
   match hpl:H.toList,R with
   |[],_=>
    rw[hpl]at S;have:0=a₀.size:=S;lia
   |[y],_=>
    rw[hpl]at S hd;obtain⟨y1,y2,y3⟩:=S;have y3:y.1+y.2.1=a₀.size:=y3;exact hd y aaL i j ⋯ a4 ⋯
end
theorem yE{κ:PyProof.Rows.KeyKind}(G:κ.OneLt){l:Addr}{a:List Value}{n:Nat}{Q:PySem.Fin->Shared->Prop}(m:s.heap.get? l=some (seqObj "list" a.toArray n))(H:KeysOf κ (pairsOf a))(F:∀u v r,a=u::v::r->keyKind' (u::v::r).toArray=pure oneType')(hz:a.length<=100000)
  (h:∀z:SortSt,(arrOf z).Perm (pairsOf a)->SortedToK κ (arrOf z) (pairsOf a).size->Q (.done (.ret .none)) {s with heap:=sortedHeap s.heap l a ((arrOf z).map (·.2))}):wpAny (model prog w) A (Builtin.«list.sort» ([.ref l],[])) Q E s:=by
 have o:=Heap.lt_size m;have d:a.length<=sizeLine:=by rw[sizeLine_eq];lia
 obtain⟨e,x⟩:∃e,(s.heap.update l (Obj.mapSeq λ_=>#[])).get? l=some (seqObj "list" #[] e):=(_,get?_update_seq m (λ_=>#[]))
 have b:(((s.heap.update l (Obj.mapSeq λ_=>#[])).push (seqObj "tuple" a.toArray 0)).push (seqObj "list" #[] 0)).get? l=some (seqObj "list" #[] e):=by
  have t:l<(s.heap.update l (Obj.mapSeq λ_=>#[])).objs.size:=by rw[Heap.size_update];exact o
  rw[Heap.get?_push_ne _ _ _ (by rw[size_push'];exact aan (ahk t)),Heap.get?_push_ne _ _ _ (aan t)];exact x
 rw[list_sort_plain];refine wpAny_bind (listItems_at m rfl (wpAny_bind (listUpdate_at m rfl ?_ (by show a.toArray.size<=sizeLine;rw[aao];exact d) (by show 0<=_;exact aaD _))));refine wpAny_bind (seqEpoch_at x rfl (wpAny_bind (wpAny_newTuple ?_ (by simpa using d))));refine wpAny_bind (wpAny_newList (wpAny_holding ?_))
 show wpAny (model prog w) A _ Q E {s with heap:=((s.heap.update l (Obj.mapSeq λ_=>#[])).push (seqObj "tuple" a.toArray 0)).push (seqObj "list" #[] 0)}
 dsimp only;have y:a.toArray.size=a.length:=by simp
 have g:∀z:SortSt,(arrOf z).Perm (pairsOf a)->((arrOf z).map (·.2)).size<=sizeLine+1:=λz k=>by
  rw[Array.size_map,k.size_eq,pairsOf_size];lia
 by_cases c:a.toArray.size<2
 ·rw[if_pos c,if_pos c];refine wpAny_bind (wpAny_pure ?_);rw[StateT.run_pure];refine wpAny_bind (wpAny_pure (wpAny_bind (seqEpoch_at b rfl (wpAny_bind (listUpdate_at b rfl ?_ (aaD _) (g (SortSt.mk' general' (a.toArray.zip a.toArray) #[] 7 none) (aiO _)))))));simp only[bne_self_eq_false,agr,if_false];refine wpAny_pure (h (SortSt.mk' general' (a.toArray.zip a.toArray) #[] 7 none) (aiO _) λi j I C=>?_);rw[pairsOf_size]at C;have:i=j:=by lia
  subst this;exact KeyOrd.kle_refl _
 ·rw[if_neg c,if_neg c];obtain⟨u,v,r,rfl⟩:∃u v r,a=u::v::r:=by
   match a,y,c with
   |[],_,z=>exact absurd ∅ z
   |[_],_,z=>exact absurd (by show 1<2;decide) z
   |u::v::r,_,_=>exact(u,v,r,7)
  rw[F _ _ _ rfl];refine wpAny_bind (wpAny_pure (wpAny_bind (wpAny_mono (Dj (κ:=κ) G (a₀:=pairsOf (u::v::r)) (st:=SortSt.mk' oneType' ((u::v::r).toArray.zip (u::v::r).toArray) #[] 7 none)
   (Q:=λ_ z=>(arrOf z).Perm (pairsOf (u::v::r))/\failedOf z=none/\SortedToK κ (arrOf z) (pairsOf (u::v::r)).size) H (aiO _,7,7,7) (by rw[pairsOf_size,aaB,aaB];lia) λz p f q=>(p,f,q)) ?_ λ_ _ q=>q)))
  rintro⟨⟨⟩,z⟩ J ⟨rfl,k,D,B⟩;dsimp only;refine wpAny_bind (seqEpoch_at b rfl (wpAny_bind (listUpdate_at b rfl ?_ (aaD _) (g z k))));rw[D];simp only[bne_self_eq_false,agr,if_false];exact wpAny_pure (h z k B)
@[reducible] def z7:PyProof.Rows.KeyKind where
 α:=Int
 blt a b:=decide (a<b)
 irrefl a:=decide_eq_false (Int.lt_irrefl a)
 trans a b c h1 h2:=decide_eq_true (Int.lt_trans (of_decide_eq_true h1) (of_decide_eq_true h2))
 negTrans a b c h:=by
  have h:=of_decide_eq_true h;by_cases q:a<b
  ·exact .inl (decide_eq_true q)
  ·exact .inr (decide_eq_true ⋯)
 total a b h1 h2:=by
  have h1:=of_decide_eq_false h1;have h2:=of_decide_eq_false h2;lia
 keyOf v:=match v with | .int n _=>some n|_=>none
 dflt:=0
theorem Jl:z7.OneLt:=by
 intro e w A E s x y a b Q d c h;cases x<;>simp only[z7,reduceCtorEq,ai9]at d;cases y<;>simp only[z7,reduceCtorEq,ai9]at c;cases d;cases c;exact oneLt_int h
theorem Ls(xs:Array Keyed)(i:Nat):KK z7 xs i=PyProof.Rows.K xs i:=by
 unfold KK PyProof.Rows.K;cases xs[i]? with
 |none=>rfl
 |some p=>
  obtain⟨x,q⟩:=p;cases x<;>rfl
theorem HJ{l:Addr}{n:Nat}{Q:PySem.Fin->Shared->Prop}(x:s.heap.get? l=some (seqObj "list" r.toArray n))(f:IntsAre r d)(hz:r.length<=100000)
  (h:∀(out:Array Value) (b:List Int),IntsAre out.toList b->b.Perm d->b.Pairwise (· <= ·)->Q (.done (.ret .none)) {s with heap:=sortedHeap s.heap l r out}):wpAny (model prog w) A (Builtin.«list.sort» ([.ref l],[])) Q E s:=by
 refine yE Jl x (λp c=>?_) (λu v a e=>?_) hz λz c o=>?_
 ·obtain⟨m,t,e⟩:=f.intKeys p c;exact(m,by rw[e])
 ·subst e;exact keyKind_ints f
 ·have g:SortedTo (arrOf z) (pairsOf r).size:=λi j k y=>by
   have q:=o i j k y;rw[Ls,Ls]at q;have q:=of_decide_eq_false q;lia
  obtain⟨b,D,C,B⟩:=sorted_out f c g;exact h _ b D C B
open PySem.Spec
theorem Cm{Q:Value->Shared->Prop}(F:A.handled=none)(K:jo (cT w) (intKind prog w) s.heap S d)
  (h:∀(D:Addr) (h':Heap) a tk (vs:List Value) (g:List Int) (e:Nat),s.heap.objs.size<=D->(∀b o,s.heap.get? b=some o->h'.get? b=some o)->h'.get? D=some (seqObj "list" vs.toArray e)->IntsAre vs g->agx g d->g.Pairwise (· <= ·)->g.length<=4096->Q (.ref D) {s with heap:=h',drawn:=a,toks:=tk}):
  wpAny (model prog w) A (call (.builtin "sorted") [.ref S]) Q E s:=by
 obtain⟨o,T,U,t,R,C,r,hd,I,G,J,L⟩:=K;have O:scanBound=4096:=rfl;refine Calls.call_function_entry kind_sorted plain_sorted entry_sorted (args_sorted1 _) ?_;unfold Builtin.«sorted»
 refine wpAny_bind (m:=checkCount "sorted" 1 1 _) (wpAny_pure ?_)
 refine wpAny_bind (rW (by simp[F]) (C,hd,G) r.1 I J λf l a tk P B v p u=>?_);obtain⟨g,x,q⟩:=JB L B v;have k:f.toList.length<=4096:=by rw[aaf,v.1];lia
 refine wpAny_bind (wpAny_newList ?_ (by rw[sizeLine_eq];lia))
 have c:(l.push (seqObj "list" f.toList.toArray 0)).get? l.objs.size=some (seqObj "list" f.toList.toArray 0):=Heap.get?_push_size _ rfl
 refine wpAny_bind (wpAny_holding (wpAny_call_entry slot_list_sort (_,c,7) entry_list_sort (HJ c x ⋯ λi n N z M=>(5,8)) (args_list_sort _)));refine wpAny_pure (5,8);obtain⟨e,H⟩:=sortedHeap_at (out:=i) c;refine h l.objs.size _ a _ i.toList n e (agu p) (λb o y=>?_) (by simpa using H) N (z.trans q) M (by rw[z.length_eq,<-x.length];exact k);have j:=Heap.lt_size (u _ _ y);rw[sortedHeap_old (aan j) (by rw[Heap.size_push];exact ahk j)];exact Heap.get?_push_of_some _ (u _ _ y)
end Tw
namespace L2
open PySem.Spec PyProof.Rows Tw
theorem zq(v:X.calm=true):eU X (.builtin "sorted") (λxs H Q=>∃(p:Addr) (a:List Int),xs=[.ref p]/\H p=some (QR X.prog X.w p a) /\
  ∀l b,H l=none->agx b a->b.Pairwise (· <= ·)->Q (.ref l) (upd H l (.lst (b.map V.int)))):=by
 intro B s A H xs C Q I r h;obtain⟨p,a,rfl,n,q⟩:=h;obtain⟨u,rfl,j⟩:=vals1 r;cases j;have x:jo (cT X.w) (intKind X.prog X.w) s.heap p a:=(I.hok p _ n).1;refine Cm (I.ok.hd v) x λD z d i g k e f o t y c m E=>?_;exact(.ref D,_,(I.laid (t':=i) o f (show bH X.prog X.w _ z D (.lst (k.map V.int))from (by rw[aaa,sizeLine_eq];lia,g,e,qH y,t))).drawnTo d,7,q _ _ (I.hok.fresh f) c m)
open PySem.W
section
variable{P:Program}{k:Nat}{T:pW}{slots:List Nat}{U6:Addr->List Addr}{pos p1 p2:Pos}
theorem UV.makerL0(F:UV K x qual st f fd)(S:aC N ps (δ st))(M:Do N qual (δ st) T slots U6)(bm:BMain mg base)(b:fd.code=.ref c)(C:CodeHd base c Pt)(d:∀a H Q E,sp a H Q E->a.length=ps.length)
  (n:μ st=[.Return (some (.Lambda T.params T.body T.scope pos)) p2])
  (h:∀(a:List V) (H:Hp) (Q:VK) (E:XK),sp a H Q E->J5 H Pt pos T slots (start N a) Q):aV P w K mg base T9 (k+1) f fd ps sp:=by
 obtain⟨u,t,kV,p,r,z,j,y,o,rfl,m,g⟩:=F.ex;obtain rfl:j=.ref c:=b;refine FT m g S d λA l s H a Q E q v e I=>?_;rw[n];exact yJ M bm C I (h a H Q E e)
end
def lC(x:Str)(lo a:Option Int):Str:=⟨((x.cps.toList.drop (HT.Ut x.length 0 lo)).take (HT.Ut x.length x.length a-HT.Ut x.length 0 lo)).toArray⟩
theorem pU(n d:Nat)(lo:Option Int):HT.Ut n d lo=lo.elim d (clipAt n):=by
 cases lo with
 |none=>rfl
 |some v=>
  show (if v<0 then (v+(n:Int)).toNat else min v.toNat n)=clipAt n v;unfold clipAt;split<;>lia
theorem part_of{v:Value}{lo:Option Int}(h:IsPart v lo):∃l:Option (Int×Tok),v=partValue l/\l.map (·.1)=lo:=by
 cases h with
 |none=>exact(none,7,7)
 |int i t=>exact(some (pq i t),7,7)
theorem sV(z:Str)(l u:Option (Int×Tok)):((slicePicked z l u none).filterMap (z.cps[·]?)).toArray=(lC z (l.map (·.1)) (u.map (·.1))).cps:=by
 unfold slicePicked lC;have e:Builtin.Str.strSliceIndices (l.map (·.1)) (u.map (·.1)) 1 z.length=sliceRange (HT.Ut z.length 0 (l.map (·.1)):Nat) (HT.Ut z.length z.length (u.map (·.1)):Nat) 1:=by
  unfold Builtin.Str.strSliceIndices;rw[pU,pU];cases l<;>cases u<;>simp[clipAt_cast]
 show (List.filterMap (z.cps[·]?) (Builtin.Str.strSliceIndices (l.map (·.1)) (u.map (·.1)) 1 z.length)).toArray=_;rw[e,sliceRange_one,pick_run]
theorem JK{l u:Option (Int×Tok)}(h:(slicePicked x l u none).length=x.length):lC x (l.map (·.1)) (u.map (·.1))=x:=by
 have g:=sV x l u;have d:slicePicked x l u none=sliceRange (HT.Ut x.length 0 (l.map (·.1)):Nat) (HT.Ut x.length x.length (u.map (·.1)):Nat) 1:=by
  unfold slicePicked;show Builtin.Str.strSliceIndices (l.map (·.1)) (u.map (·.1)) 1 x.length=_;unfold Builtin.Str.strSliceIndices;rw[pU,pU];cases l<;>cases u<;>simp[clipAt_cast]
 rw[d,sliceRange_one,aaa,agA]at h;have f:HT.Ut x.length x.length (u.map (·.1))<=x.length:=HT.QM _ _ (aac _) _;unfold lC;have b:x.length=x.cps.size:=rfl;rcases ags x.length with c|c
 ·have:x.cps=#[]:=Array.eq_empty_of_size_eq_zero (b ▸ c);cases x with
  |mk a=>
   have:a=#[]:=this;subst this;simp
 ·have e:HT.Ut x.length 0 (l.map (·.1))=0:=by lia
  rw[e,ahx,ahn,show HT.Ut x.length x.length (u.map (·.1))=x.length by lia,aai (by rw[aaf];exact ahD b.symm)]
theorem sO(z:Str)(lo a:Option Int):(lC z lo a).length<=z.length:=by
 unfold lC;show ((z.cps.toList.drop _).take _).toArray.size<=z.cps.size;rw[aao,aaz,abo,aaf];lia
inductive SX(x:V)(lo:Option Int)(hi:Option Int)(H:Hp)(Q:VK):Prop
 | mk (z:_) (_:x=.str z) (_:z.length<=sizeLine) (_:Q (.str (lC z lo hi)) H)
theorem qJ{X:Cx}:Yv X SX:=by
 intro k s j H x v n m p r o Q I b g d c h;obtain⟨z,rfl,f,q⟩:=h;obtain⟨t,rfl⟩:=b
 exists "str",_,F.slot_str_getitem.lookup,typeIs_str _ _ _
 obtain⟨l,rfl,rfl⟩:=part_of d;obtain⟨u,rfl,rfl⟩:=part_of c;refine wpAny_getItem_str_slice (l:=l) (u:=u) (st:=none) g rfl ?_;unfold sliceMade;split
 ·rename_i a;have i:(slicePicked z l u none).length=z.length:=by
   simp at a;exact a
  rw[JK i]at q;exact(.str z,H,I,(t,7),q)
 ·have e:(⟨((slicePicked z l u none).filterMap (z.cps[·]?)).toArray⟩:Str)=lC z (l.map (·.1)) (u.map (·.1)):=by rw[sV]
  rw[e];exact(aeY (sO _ _ _) f,(.str _,H,I.tok _,(_,7),q))
def Ik(x:Str):It:=
 (λi _=>i<x.cps.size,λi H v a=>a=H /\ ∃c,x.cps[i]?=some c/\v=.str ⟨#[c]⟩,λi _=>x.cps.size<=i)
theorem Iu{w:World}(g:Addr)(x:Str)(t:Tok):Turn prog w K e (Ik x) [g] g (λi h=>h.IsStrIter g "str_ascii_iterator" x t i) where
 mem:=by simp
 obj:=λi h f b l=>by
  have a:b=g:=by simpa using l
  subst a;obtain⟨o,a,c,d⟩:=f;exact(o,a,λv z=>by rw[d]at z;cases z)
 keep:=λi h p f k=>let ⟨o,ho,r⟩:=f;(o,k g (by simp) o ho,r)
 item:=by
  intro X u q y L i J s G H E I n f j;subst u q y;have j:i<x.cps.size:=j;obtain⟨F,D,N,C,B,A⟩:=n g (by simp);refine wpAny_pyNext_ascii_item f (c:=x.cps[i]) (by simp[j]) λp m M=>?_;have Q:Inv X J G H {s with heap:=p,toks:=s.toks+1}:=I.turned (t':=s.toks+1) (λb o l a=>(M.2 b l).trans a) F D C B A;obtain⟨o,a,c,d⟩:=id m;exact(5,vB (s:={s with heap:=p,toks:=s.toks+1}) a c d ∅ (.str ⟨#[x.cps[i]]⟩,H,Q,(_,7),(7,_,by simp[j],7),m,λb l=>(n b l).1))
 done:=by
  intro X u q y L i J s G H E I n f j;subst u q y;have j:x.cps.size<=i:=j;obtain⟨F,D,N,C,B,A⟩:=n g (by simp);exact wpAny_pyNext_ascii_end (I.ok.hd L) f (by simp;lia) λp O=>(7,I.turned (t':=s.toks) (λb o l a=>O b o l a) F D C B A)
 self:=λ_ _ _ _ _ f h=>wpAny_pyIter_striter_ascii f h
theorem HN{w:World}(g:Addr)(x:Str)(t:Tok):Turn prog w K e (Ik x) [g] g (λi h=>h.IsStrIter g "str_iterator" x t i) where
 mem:=by simp
 obj:=λi h f b l=>by
  have a:b=g:=by simpa using l
  subst a;obtain⟨o,a,c,d⟩:=f;exact(o,a,λv z=>by rw[d]at z;cases z)
 keep:=λi h p f k=>let ⟨o,ho,r⟩:=f;(o,k g (by simp) o ho,r)
 item:=by
  intro X u q y L i J s G H E I n f j;subst u q y;have j:i<x.cps.size:=j;obtain⟨F,D,N,C,B,A⟩:=n g (by simp);refine wpAny_pyNext_wide_item f (c:=x.cps[i]) (by simp[j]) λp m M=>?_;have Q:Inv X J G H {s with heap:=p,toks:=s.toks+1}:=I.turned (t':=s.toks+1) (λb o l a=>(M.2 b l).trans a) F D C B A;obtain⟨o,a,c,d⟩:=id m;exact(5,vB (s:={s with heap:=p,toks:=s.toks+1}) a c d ∅ (.str ⟨#[x.cps[i]]⟩,H,Q,(_,7),(7,_,by simp[j],7),m,λb l=>(n b l).1))
 done:=by
  intro X u q y L i J s G H E I n f j;subst u q y;have j:x.cps.size<=i:=j;obtain⟨F,D,N,C,B,A⟩:=n g (by simp);exact wpAny_pyNext_wide_end (I.ok.hd L) f (by simp;lia) λp O=>(7,I.turned (t':=s.toks) (λb o l a=>O b o l a) F D C B A)
 self:=λ_ _ _ _ _ f h=>wpAny_pyIter_striter_wide f h
inductive Rj(R:It->Hp->Prop)(v:V)(H1:Hp):Prop
 | mk (x:_) (_:v=.str x) (_:R (Ik x) H1)
def S6(b:TE):TI:=λ a H R=>b a H (Rj R)
theorem QH{l:Expr}(n:PE X l ta):PI X tg l (S6 ta):=by
 intro f s j H R I h;refine T7 (n f s j H _ I h) λv a ⟨y,d,c,k,m⟩=>?_;obtain⟨x,e,q⟩:=m;subst e;obtain⟨t,rfl⟩:=k;have i:∀b∈[a.heap.objs.size],gK X f d b:=λb p=>by
  have e:b=a.heap.objs.size:=by simpa using p
  subst e;exact c.fpOk (aac _) (c.hok.fresh (aac _))
 cases g:x.cps.all (· < 128)
 ·refine wpAny_pyIter_wide g ?_;exact(a.heap.objs.size,[a.heap.objs.size],1,d,7,c.kept (t':=a.toks) λb o e=>Heap.get?_push_of_some _ e,HN _ x t,(_,Heap.get?_push_size _ rfl,7,7),i,q)
 ·refine wpAny_pyIter_ascii g ?_;exact(a.heap.objs.size,[a.heap.objs.size],1,d,7,c.kept (t':=a.toks) λb o e=>Heap.get?_push_of_some _ e,Iu _ x t,(_,Heap.get?_push_size _ rfl,7,7),i,q)
theorem O1{x:Str}{g:TG}{j:TS}{D:Ends}{σ:St}(a:Nat->St->Hp->Prop)(q:a 0 σ H)
  (n:∀i c σ H,x.cps[i]?=some c->a i σ H->g (.str ⟨#[c]⟩) σ H λ b h=>j {D with nx:=a (i+1),ct:=a (i+1),bk:=D.nx} b h)(hd:∀σ H,a x.cps.size σ H->D.nx σ H):
  ∃W:Nat->Nat->St->Hp->Prop,(∃m,W 0 m σ H) /\ ∀i m σ H,W i m σ H ->
   ((Ik x).stop i H/\D.nx σ H)\/((Ik x).go i H /\ ∃N:St->Hp->Prop,(∀d H',N d H' -> ∃k,k<m/\W (i+1) k d H') /\ ∀v H',(Ik x).Vo i H v H'->g v σ H' λ b h=>j {D with nx:=N,ct:=N,bk:=D.nx} b h):=by
 exists λi m σ H=>m=x.cps.size-i/\i<=x.cps.size/\a i σ H,(x.cps.size,by simp,aaD _,q);rintro i m σ H ⟨rfl,r,p⟩;by_cases f:i<x.cps.size
 ·refine .inr (f,a (i+1),λ d H' l=>(x.cps.size-(i+1),9,7,f,l),λv H' y=>?_);obtain⟨rfl,c,o,rfl⟩:=y;exact n i c σ _ o p
 ·have e:i=x.cps.size:=by lia
  subst e;exact .inl (aac _,hd σ H p)
end L2
namespace Tw
open PySem.Spec PyProof.Rows
def Ws(c:List Str):Prop:=c.Pairwise λa b=>¬b.cps.toList<a.cps.toList
theorem tY(g:StrsAre r N){xs:Array Keyed}(l:xs.Perm (pairsOf r))(w:SortedToK PyProof.Rows.strKind xs (pairsOf r).size):
  ∃d,StrsAre (xs.map (·.2)).toList d/\d.Perm N/\Ws d:=by
 have m:xs.toList.Perm (r.zip r):=by rw[<-pairsOf_toList];exact ag6.mp l
 have a:∀p,p∈xs.toList->p.1=p.2/\p.1∈r:=λp b=>mem_zip_self (m.mem_iff.mp b);exists xs.toList.map (λp=>strOf p.1),8,8
 ·have e:(xs.map (·.2)).toList=xs.toList.map (·.1):=by
   rw[Array.toList_map];exact ahR λp b=>(a p b).1.symm
  rw[e];have c:=strsAre_map (xs.toList.map (·.1)) (by
   intro v s;obtain⟨p,b,rfl⟩:=aaZ.mp s;exact g.all _ (a p b).2)
  rwa [ag1]at c
 ·have c:=m.map (λp=>strOf p.1);have B:(r.zip r).map (λp=>strOf p.1)=N:=by
   have:(r.zip r).map (λp=>strOf p.1)=((r.zip r).map Prod.fst).map strOf:=by
    rw[ag1];rfl
   rw[this,List.map_fst_zip (aac _),g.strs]
  rwa [B]at c
 ·unfold Ws;rw[abF];intro i j A z h;have k:i<xs.size:=by simpa using A
  have f:j<xs.size:=by simpa using z
  have c:=w i j (agu h) (by rw[<-l.size_eq];exact f);obtain⟨x,t,o⟩:=g.all _ (a xs[i] (by simp)).2;obtain⟨y,u,n⟩:=g.all _ (a xs[j] (by simp)).2;rw[KK_str k (x:=x) (t:=t) (q:=xs[i].2) (Prod.ext o rfl),KK_str f (x:=y) (t:=u) (q:=xs[j].2) (Prod.ext n rfl)]at c;change decide (y.cps.toList<x.cps.toList)=false at c;simp only[ajh,adK];rw[show strOf xs[i].1=x by rw[o];rfl,show strOf xs[j].1=y by rw[n];rfl];exact of_decide_eq_false c
theorem xZ{l:Addr}{n:Nat}{Q:PySem.Fin->Shared->Prop}(g:s.heap.get? l=some (seqObj "list" r.toArray n))(c:StrsAre r N)(hz:r.length<=100000)
  (h:∀(out:Array Value) (b:List Str),StrsAre out.toList b->b.Perm N->Ws b->Q (.done (.ret .none)) {s with heap:=sortedHeap s.heap l r out}):wpAny (model prog w) A (Builtin.«list.sort» ([.ref l],[])) Q E s:=by
 refine yE strKind_oneLt g c.keysOf (λu v a e=>keyKind_strs (by rw[<-e];exact c)) hz λz f d=>?_;obtain⟨b,k,j,i⟩:=tY c f d;exact h _ b k j i
theorem wG{l:Addr}{Q:Value->Shared->Prop}(d:s.heap.IsList l r.toArray)(e:StrsAre r N)(hz:r.length<=100000)
  (h:∀(out:Array Value) (a:List Str),StrsAre out.toList a->a.Perm N->Ws a->Q (.ref (s.heap.objs.size+1)) {s with heap:=sortedAll s.heap r out}):
  wpAny (model prog w) A (call (.builtin "sorted") [.ref l]) Q E s:=by
 have c:r.length<=sizeLine:=by rw[sizeLine_eq];lia
 refine Calls.call_function_entry kind_sorted plain_sorted entry_sorted (args_sorted1 _) ?_;unfold Builtin.«sorted»
 refine wpAny_bind (m:=checkCount "sorted" 1 1 _) (wpAny_pure (wpAny_bind (collect_list d ?_ c)))
 refine wpAny_bind (wpAny_newList ?_ c)
 have z:((s.heap.push (seqObj "list" #[] 0)).update s.heap.objs.size (Obj.mapSeq (· ++ r.toArray))).objs.size=s.heap.objs.size+1:=by rw[Heap.size_update,size_push']
 have g:(((s.heap.push (seqObj "list" #[] 0)).update s.heap.objs.size (Obj.mapSeq (· ++ r.toArray))).push (seqObj "list" r.toArray 0)).get? (s.heap.objs.size+1)=some (seqObj "list" r.toArray 0):=by
  rw[<-z];exact Heap.get?_push_size _ rfl
 show wpAny _ _ _ _ _ {s with heap:=((s.heap.push (seqObj "list" #[] 0)).update s.heap.objs.size (Obj.mapSeq (· ++ r.toArray))).push (seqObj "list" r.toArray 0)}
 rw[z];exact wpAny_bind (wpAny_holding (wpAny_call_entry slot_list_sort (_,g,7) entry_list_sort (xZ g e hz λout b j i f=>(5,wpAny_pure (5,h out b j i f))) (args_list_sort _)))
theorem Iz{d:Array (Int×Value)}{o:List (Str×(Int×Value))}(x:lH (PySem.strKind prog w) d.toList N o){ps:List (Int×Value)}(b:agx ps d.toList)(f:ItemsOf (uF ps) y d.size):∃h,StrsAre y.toList h/\agx h N:=by
 obtain⟨n,a⟩:=x.perm b;have k:ps.length=d.size:=by rw[b.length_eq,aaf]
 have j:y.toList=ps.map (·.2):=by
  apply ahl;intro i;rw[aag];cases l:y.toList[i]? with
  |none=>
   have:y.toList.length<=i:=aiv.mp l;rw[aaf,f.1,<-k]at this;rw[ahb this];rfl
  |some v=>
   obtain⟨e,g,m⟩:=f.2 i v (by rw[<-abv];exact l);rw[g,m];rfl
 refine(n.map (·.1),8,a.fst);rw[j,<-a.snd];have c:=a.is
 clear a j k f b
 induction n with
 |nil=>exact .nil
 |cons q r u=>
  obtain⟨g,m,z⟩:=c q aaL;obtain⟨t,e⟩:=Value.isStrOf_shape (show Value.isStrOf q.1 q.2.2=true from g);rw[aar,aar,aar,e];exact .cons q.1 t (u λp b=>c p (aaC _ b))
theorem w6{Q:Value->Shared->Prop}(F:A.handled=none)(K:jo (cT w) (PySem.strKind prog w) s.heap S N)
  (h:∀(D:Addr) (h':Heap) d tk (vs:List Value) (f:List Str) (e:Nat),s.heap.objs.size<=D->(∀b o,s.heap.get? b=some o->h'.get? b=some o)->h'.get? D=some (seqObj "list" vs.toArray e)->StrsAre vs f->agx f N->Ws f->f.length<=4096->Q (.ref D) {s with heap:=h',drawn:=d,toks:=tk}):
  wpAny (model prog w) A (call (.builtin "sorted") [.ref S]) Q E s:=by
 obtain⟨o,U,V,t,T,C,r,hd,I,G,J,L⟩:=K;have P:scanBound=4096:=rfl;refine Calls.call_function_entry kind_sorted plain_sorted entry_sorted (args_sorted1 _) ?_;unfold Builtin.«sorted»
 refine wpAny_bind (m:=checkCount "sorted" 1 1 _) (wpAny_pure ?_)
 refine wpAny_bind (rW (by simp[F]) (C,hd,G) r.1 I J λa k d tk R B v n u=>?_);obtain⟨f,x,p⟩:=Iz L B v;have j:a.toList.length<=4096:=by rw[aaf,v.1];lia
 have q:f.length=a.toList.length:=by rw[<-x.strs,aaa]
 refine wpAny_bind (wpAny_newList ?_ (by rw[sizeLine_eq];lia))
 have c:(k.push (seqObj "list" a.toList.toArray 0)).get? k.objs.size=some (seqObj "list" a.toList.toArray 0):=Heap.get?_push_size _ rfl
 refine wpAny_bind (wpAny_holding (wpAny_call_entry slot_list_sort (_,c,7) entry_list_sort (xZ c x ⋯ λg l O z M=>(5,8)) (args_list_sort _)));refine wpAny_pure (5,8);obtain⟨e,H⟩:=sortedHeap_at (out:=g) c;refine h k.objs.size _ d _ g.toList l e (agu n) (λb o y=>?_) (by simpa using H) O (z.trans p) M (by rw[z.length_eq,q];exact j);have i:=Heap.lt_size (u _ _ y);rw[sortedHeap_old (aan i) (by rw[Heap.size_push];exact ahk i)];exact Heap.get?_push_of_some _ (u _ _ y)
end Tw
namespace L2
open PySem.Spec PyProof.Rows Tw
theorem uV:∀{c:List Value},Vals (N.map V.str) c->StrsAre c N:=by
 induction N with
 |nil=>
  intro c r;rw[air]at r;cases r;exact .nil
 |cons n e d=>
  intro c r;rw[aar]at r;cases r with
  |cons a b=>
   obtain⟨t,rfl⟩:=a;exact .cons n t (d b)
theorem qL:∀{a:List Value}{b:List Str},StrsAre a b->Vals (b.map V.str) a
 |_,_,.nil=>.nil
 |_,_,.cons _ t h=>.cons (t,7) (qL h)
theorem rY(h:StrsAre r N):r.length=N.length:=by
 rw[<-h.strs,aaa]
def Gg(P:Program)(w:World)(a:Addr)(b:List Str):HO:=.ext λh=>jo (cT w) (PySem.strKind P w) h a b
theorem KH{w:World}{a:Addr}(e:jo (cT w) (PySem.strKind prog w) h' a N):bH prog w H h' a (Gg prog w a N):=by
 refine(e,8,λ_ _ p k=>p.at k);obtain⟨o,_,_,_,_,b,_⟩:=e;exact(o,b)
theorem sr(G:X.calm=true):eU X (.type "set") (λxs H Q=>∃(p:Addr) (c:List Str),xs=[.ref p]/\T6 X.K H p (c.map V.str)/\(met (λi=>c.getD i ⟨#[]⟩) c.length).length+1<scanBound /\
  ∀l m o,H l=none->m=met (λi=>c.getD i ⟨#[]⟩) c.length->o=Gg X.prog X.w l m->Q (.ref l) (upd H l o)):=by
 intro O s N H xs P Q I r h;obtain⟨p,a,rfl,E,J,q⟩:=h;obtain⟨u,rfl,A⟩:=vals1 r;cases A;obtain⟨d,B,C,R⟩:=I.list E;have x:=uV B;have j:=rY x;have g:d.toArray.size=a.length:=by simpa using j
 refine yC (knd:=PySem.strKind X.prog X.w) (f:=λi=>a.getD i ⟨#[]⟩) (I.ok.hd G) C.isList (λi v e=>?_) (by rw[g];exact J) λS z y F=>?_
 ·have M:d[i]?=some v:=by simpa using e
  have:∀{k:List Value}{a:List Str},StrsAre k a -> ∀(i:Nat) v,k[i]?=some v->Value.isStrOf (a.getD i ⟨#[]⟩) v=true/\v.scannable=true:=by
   intro k a L
   induction L with
   |nil=>intro i v e;simp at e
   |cons n t _ D=>
    intro i v e;cases i with
    |zero=>
     simp at e;subst e;exact(by simp[Value.isStrOf],7)
    |succ i=>exact D i v (by simpa using e)
  exact this x i v M
 ·rw[g]at y;exact(.ref s.heap.objs.size,_,I.laid (t':=z) (λb o e=>F b o (Heap.lt_size e) e) (aac _) (KH y),7,q _ _ _ (I.hok.fresh (aac _)) rfl rfl)
theorem tD:eU X (.builtin "len") (λxs H Q=>∃(p:Addr) (a:List Str),xs=[.ref p]/\H p=some (Gg X.prog X.w p a)/\Q (.int (a.length:Int)) H):=by
 intro x s v H xs y Q I r h;obtain⟨p,a,rfl,g,q⟩:=h;obtain⟨u,rfl,f⟩:=vals1 r;cases f;have k:jo (cT X.w) (PySem.strKind X.prog X.w) s.heap p a:=(I.hok p _ g).1;obtain⟨o,l,B,t,z,i,b,hd,A,j,_,c⟩:=k;have m:l.size=a.length:=by
  have e:=congrArg ahp c.snd;have d:=c.fst.length_eq;rw[aaa]at e d;rw[<-d,e,aaf]
 have n:scanBound=4096:=rfl;refine call_len_set i b hd j ⋯ ?_;exact(.int (a.length:Int),H,I.tok (s.toks+1+1),(_,by rw[<-m]),q)
theorem oH(v:X.calm=true):eU X (.builtin "sorted") (λxs H Q=>∃(p:Addr) (a:List Str),xs=[.ref p]/\H p=some (Gg X.prog X.w p a) /\
  ∀l b,H l=none->agx b a->Ws b->Q (.ref l) (upd H l (.lst (b.map V.str)))):=by
 intro B s A H xs C Q I r h;obtain⟨p,a,rfl,n,q⟩:=h;obtain⟨u,rfl,j⟩:=vals1 r;cases j;have x:jo (cT X.w) (PySem.strKind X.prog X.w) s.heap p a:=(I.hok p _ n).1;refine w6 (I.ok.hd v) x λD z d i g k e f o t y c m E=>?_;exact(.ref D,_,(I.laid (t':=i) o f (show bH X.prog X.w _ z D (.lst (k.map V.str))from (by rw[aaa,sizeLine_eq];lia,g,e,qL y,t))).drawnTo d,7,q _ _ (I.hok.fresh f) c m)
theorem wI:eU X (.builtin "sorted") (λxs H Q=>∃(p:Addr) (c:List Str),xs=[.ref p]/\T6 X.K H p (c.map V.str)/\c.length<=100000 /\ ∀l d,H l=none->agx d c->Ws d->Q (.ref l) (upd H l (.lst (d.map V.str)))):=by
 intro A s z H xs B Q I r h;obtain⟨p,C,rfl,o,E,q⟩:=h;obtain⟨u,rfl,k⟩:=vals1 r;cases k;obtain⟨f,m,n,D⟩:=I.list o;have g:=uV m;have j:=rY g;refine wG n.isList (by simpa using g) ⋯ λa b y i x=>?_;obtain⟨e,v⟩:=sortedAll_at s.heap f a;have t:b.length<=sizeLine:=by
  rw[i.length_eq,sizeLine_eq];lia
 refine(.ref (s.heap.objs.size+1),_,I.laid (t':=s.toks) (λ_ _=>sortedAll_old) (ahe _) (show bH X.prog X.w _ _ _ (.lst (b.map V.str))from (by rw[aaa];exact t,a.toList,e,qL y,8)),7,q _ _ (I.hok.fresh (ahe _)) i x);rw[v]
open PySem.W
inductive GJ(x:V)(xs:List V)(H:Hp)(Q:VK):Prop
 | mk (z y:Str) (i:Nat) (rest:List Nat) (_:x=.str z) (_:xs=[.str y]) (_:Builtin.Str.occurrences z y 0 z.length 1=i::rest) (_:Q (.int (i:Int)) H)
theorem Hq:Yx X "str.index" GJ:=by
 intro g s f H x j v k Q I b c h;obtain⟨z,y,i,rest,rfl,rfl,e,q⟩:=h;obtain⟨t,rfl⟩:=b;obtain⟨u,rfl,d⟩:=vals1 c;obtain⟨a,rfl⟩:=d;exact call_gives F.slot_str_index (typeIs_str _ _ _) F.entry_str_index (F.args_str_index_2 _ _) (gives_str_index z y t a i rest e) (.int (i:Int),H,I.tok _,(_,7),q)
end L2
namespace Tw
def Ve(a b:Str):Prop:=a.cps.toList<b.cps.toList
theorem eZ{a b:Str}(h:a.cps.toList=b.cps.toList):a=b:=by
 cases a;cases b;congr 1;exact Array.toList_inj.mp h
theorem Rr{a b:Str}(h:¬b.cps.toList<a.cps.toList)(e:a≠b):Ve a b:=by
 rcases List.le_total (a.cps.toList) (b.cps.toList)with c|c
 ·by_cases d:a.cps.toList<b.cps.toList
  ·exact d
  ·exact absurd (eZ (aji (ajo.mp h) (ajo.mp d))) e
 ·exact absurd (eZ (aji (ajo.mp h) c)) e
theorem dY(a:Str):¬Ve a a:=aiR _
theorem rM{a b c:Str}(h:Ve a b)(h':Ve b c):Ve a c:=aiC h h'
theorem uH(h:Ws N)(c:N.Nodup):N.Pairwise Ve:=List.Pairwise.imp₂ (λa b e d=>Rr e d) h c
theorem yh:∀{l g:List Str},l.Pairwise Ve->g.Pairwise Ve->(∀z,z∈l ↔ z∈g)->l=g
 |[],[],_,_,_=>rfl
 |[],b::j,_,_,h=>absurd ((h b).mpr aaL) ag9
 |a::r,[],_,_,h=>absurd ((h a).mp aaL) ag9
 |a::r,b::j,p,k,h=>by
  have f:=ah2.mp p;have d:=ah2.mp k;have e:a=b:=by
   rcases aas.mp ((h a).mp aaL)with e|e
   ·exact e
   ·rcases aas.mp ((h b).mpr aaL)with i|i
    ·exact i.symm
    ·exact absurd (rM (d.1 a e) (f.1 b i)) (dY _)
  subst e;rw[yh f.2 d.2 λz=>?_];constructor
  ·intro c;rcases aas.mp ((h z).mp (aaC _ c))with e|e
   ·exact absurd (e ▸ f.1 z c) (dY _)
   ·exact e
  ·intro c;rcases aas.mp ((h z).mpr (aaC _ c))with e|e
   ·exact absurd (e ▸ d.1 z c) (dY _)
   ·exact e
def beg(w:Str)(k:Nat):Str:=⟨(w.cps.toList.take k).toArray⟩
theorem bY(w:Str)(k:Nat):(beg w k).cps.toList=w.cps.toList.take k:=by
 unfold beg;exact aii
theorem pP(w:Str)(k:Nat):(beg w k).length=min k w.length:=by
 show (beg w k).cps.size=min k w.cps.size;rw[<-aaf,bY,aaz,aaf]
theorem Nq(w:Str){j k:Nat}(h:j<=k):beg (beg w k) j=beg w j:=eZ (by rw[bY,bY,bY,ah4,acW h])
theorem Pg(w:Str){k:Nat}(h:w.length<=k):beg w k=w:=eZ (by rw[bY,aai (by rw[aaf];exact h)])
theorem uo(w:Str)(k:Nat):lC w none (some (k:Int))=beg w k:=by
 refine eZ ?_;rw[bY];unfold lC;rw[aii,HT.jN,ahx,ahn,HT.ie];rcases aiP k w.length with c|c
 ·rw[acW c]
 ·rw[ag7 c,aai (by rw[aaf];exact aac _),aai (by rw[aaf];exact c)]
theorem rR:∀{p u:List Nat}{c:Nat},¬u<p->u<p++[c]->p.length<=u.length
 |[],_,_,_,_=>aaD _
 |a::p,[],c,h,_=>absurd (aib a p) h
 |a::p,b::u,c,h,d=>by
  rw[agM,agz]at d;rw[agz]at h;have e:b=a/\u<p++[c]:=by
   rcases d with d | d
   ·exact absurd (.inl d) h
   ·exact d
  have:=rR (λz=>h (.inr (e.1,z))) e.2;rw[aaB,aaB];lia
structure m9(ws ts:List Str):Prop where
 up:ts.Pairwise Ve
 mem:∀t,t∈ts ↔ t=⟨#[]⟩ \/ ∃w∈ws,∃k:Nat,t=beg w k
theorem m9.pre{ws :List Str}(h:m9 ws N){t:Str}(ht:t∈N)(k:Nat):beg t k∈N:=by
 rcases(h.mem t).mp ht with e|⟨w,a,j,e⟩
 ·refine(h.mem _).mpr (.inl ?_);rw[e];refine eZ ?_;rw[bY];exact aiD
 ·rcases aiP k j with c|c
  ·exact(h.mem _).mpr (.inr (w,a,k,by rw[e,Nq w c]))
  ·refine(h.mem _).mpr (.inr (w,a,j,8));rw[e];refine Pg _ ?_;rw[pP];lia
theorem m9.zero{ws :List Str}(h:m9 ws N):N[0]?=some ⟨#[]⟩:=by
 have b:=(h.mem ⟨#[]⟩).mpr (.inl rfl);cases N with
 |nil=>exact absurd b ag9
 |cons a r=>
  rcases aas.mp b with e|e
  ·rw[e];rfl
  ·have c:=(ah2.mp h.up).1 _ e;unfold Ve at c;exact absurd c (aij _)
theorem m9.good{ws :List Str}(h:m9 ws N):gR (N.map λt=>(t.length:Int)):=by
 refine(by rw[aag,h.zero];rfl,λi x y A w=>?_);rw[aag]at A w;obtain⟨u,F,rfl⟩:=aaM.mp A;obtain⟨t,ht,rfl⟩:=aaM.mp w;obtain⟨B,q⟩:=aab.mp F;obtain⟨m,s⟩:=aab.mp ht;have b:Ve u t:=by
  rw[<-q,<-s];exact abF.mp h.up i (i+1) B m (agW _)
 have H:t.length≠0:=λe=>by
  have:t.cps.toList=[]:=aiE.mp (by rw[aaf];exact e);unfold Ve at b;rw[this]at b;exact absurd b (aij _)
 refine(9,8);have G:=h.pre (aah ht) (t.length-1);obtain⟨j,I⟩:=abg G;obtain⟨l,f⟩:=aab.mp I;have d:t.cps.toList.length=t.length:=aaf;obtain⟨c,C⟩:∃c,t.cps.toList=(beg t (t.length-1)).cps.toList++[c]:=by
  rw[bY];have k:t.cps.toList≠[]:=λe=>H (by rw[<-d,e];rfl);exists t.cps.toList.getLast k;rw[show t.length-1=t.cps.toList.length-1 by rw[d],<-List.dropLast_eq_take];exact(agZ k).symm
 have v:Ve (beg t (t.length-1)) t:=by
  unfold Ve;rw[C];have:∀(p:List Nat) (c:Nat),p<p++[c]:=λp c=>by
   induction p with
   |nil=>exact aib c []
   |cons a r E=>
    rw[agM,agz];exact .inr (7,E)
  exact this _ _
 have J:j<=i:=by
  rcases aay i j with g|g
  ·rcases aay (i+1) j with D|D
   ·have:=abF.mp h.up (i+1) j m l D;rw[s,f]at this;exact absurd (rM this v) (dY _)
   ·have e:j=i+1:=by lia
    subst e;rw[s]at f;rw[<-f]at v;exact absurd v (dY _)
  ·exact g
 have n:¬u.cps.toList<(beg t (t.length-1)).cps.toList:=λz=>by
  rcases aay j i with g|g
  ·have:=abF.mp h.up j i l B g;rw[f,q]at this;exact absurd (rM this z) (dY _)
  ·have e:j=i:=by lia
   subst e;rw[q]at f;rw[f]at z;exact absurd z (aiR _)
 have o:=rR n (by rw[<-C];exact b);rw[bY,aaz,d,aaf]at o;have:u.cps.size=u.length:=rfl;lia
def Z7:List Nat->List Nat->Nat
 |a::u,b::v=>if a=b then Z7 u v+1 else 0
 |_,_=>0
def fresh(u w:Str):List Str:=(agq (w.length-Z7 u.cps.toList w.cps.toList)).map λi=>beg w (Z7 u.cps.toList w.cps.toList+i+1)
theorem mQ(x:List Nat):¬x<x:=aiR x
theorem Lq:∀(p:List Nat) {x y:List Nat},p++x<p++y ↔ x<y
 |[],_,_=>Iff.rfl
 |a::p,x,y=>by
  rw[agM,agM,agz,Lq p];constructor
  ·rintro(h|⟨_,h⟩)
   ·exact absurd h (agt _)
   ·exact h
  ·exact λh=>.inr (7,h)
theorem Gv(p:List Nat)(c:Nat)(s:List Nat):p<p++c::s:=by
 have:=(Lq p (x:=[]) (y:=c::s)).mpr (aib c s);rw[ag3]at this;exact this
theorem G6:∀{u v:List Nat},u.length=v.length->u<v -> ∀a b:List Nat,u++a<v++b
 |[],[],_,h,_,_=>absurd h (mQ _)
 |[],_::_,h,_,_,_=>by cases h
 |_::_,[],h,_,_,_=>by cases h
 |x::u,y::v,h,d,a,b=>by
  rw[agM,agM,agz];rcases agz.mp d with z|⟨z,c⟩
  ·exact .inl z
  ·exact .inr (z,G6 (by simpa using h) c a b)
theorem vW:∀{p x s:List Nat},¬x<p -> ¬p++s<x->x.take p.length=p
 |[],x,s,_,_=>by simp
 |a::p,[],s,h,_=>absurd (aib a p) h
 |a::p,b::x,s,h,c=>by
  rw[agM,agz]at c;rw[agz]at h;have e:a=b:=by
   rcases ahL a b with z|z|z
   ·exact absurd (.inl z) c
   ·exact z
   ·exact absurd (.inl z) h
  subst e;rw[aaB,ahr,vW (λz=>h (.inr (7,z))) (λz=>c (.inr (7,z)))]
theorem M8(x:List Nat)(k:Nat):¬x<x.take k:=λh=>by
 have e:=aft k x;cases q:x.drop k with
 |nil=>
  rw[q,ag3]at e;rw[e]at h;exact mQ _ h
 |cons c s=>
  rw[q]at e;have:=Gv (x.take k) c s;rw[e]at this;exact mQ _ (aiC this h)
structure PC(L:List (List Nat)):Prop where
 up:L.Pairwise (· < ·)
 pre:∀t∈L,∀k,t.take k∈L
theorem PC.lt{L:List (List Nat)}(h:PC L){i j:Nat}{x y:List Nat}(e:L[i]?=some x)(d:L[j]?=some y)(b:i<j):x<y:=by
 obtain⟨c,rfl⟩:=aab.mp e;obtain⟨a,rfl⟩:=aab.mp d;exact abF.mp h.up i j c a b
theorem PC.le{L:List (List Nat)}(h:PC L){i j:Nat}{x y:List Nat}(c:L[i]?=some x)(b:L[j]?=some y)(a:¬y<x):i<=j:=by
 rcases aay j i with z|z
 ·exact absurd (h.lt b c z) a
 ·exact z
theorem PC.under{L:List (List Nat)}(h:PC L){i j:Nat}{t x:List Nat}(e:L[j]?=some t)(d:L[i]?=some x)(b:j<i)(f:∀m y,j<m->m<=i->L[m]?=some y->t.length<y.length):x.take t.length=t:=by
 obtain⟨k,a⟩:=abg (h.pre x (aah d) t.length);have c:(x.take t.length).length=t.length:=by
  rw[aaz];have:=f i x b (aac _) d;lia
 have g:=h.le a d (M8 x _);rcases ahL k j with z|z|z
 ·have:=G6 c (h.lt a e z) (x.drop t.length) [];rw[aft,ag3]at this;exact absurd (aiC this (h.lt e d b)) (mQ _)
 ·subst z;rw[e]at a;exact(aax a).symm
 ·have:=f k _ z g a;lia
abbrev lens(L:List (List Nat)):List Int:=L.map λt=>(t.length:Int)
theorem O5{L:List (List Nat)}{i:Nat}(h:(lens L)[i]?=some m):∃t,L[i]?=some t/\m=t.length:=by
 rw[aag]at h;obtain⟨t,b,a⟩:=aaM.mp h;exact(t,b,a.symm)
theorem ue{L:List (List Nat)}{i:Nat}{t:List Nat}(h:L[i]?=some t):(lens L)[i]?=some (t.length:Int):=by
 rw[aag,h];rfl
theorem PC.of_lt{L:List (List Nat)}(h:PC L){i j:Nat}{x y:List Nat}(c:L[i]?=some x)(b:L[j]?=some y)(a:x<y):i<j:=by
 rcases aay i j with z|z
 ·exact z
 ·have e:i=j:=ajk (h.le c b λq=>mQ _ (aiC a q)) z;subst e;rw[c]at b;cases b;exact absurd a (mQ _)
theorem PC.mid{L:List (List Nat)}(h:PC L){i j k:Nat}{t x s:List Nat}(c:L[j]?=some t)(a:L[i]?=some x)(b:L[k]?=some (t++s))(e:j<=i)(d:i<=k):x.take t.length=t:=by
 refine vW (s:=s) (λq=>?_) (λq=>?_)
 ·have:=h.of_lt a c q;lia
 ·have:=h.of_lt b a q;lia
theorem Lj{l a:List O}(h:l.Nodup)(h':a.Nodup)(e:∀x,x∈l ↔ x∈a):l.length=a.length:=((List.perm_ext_iff_of_nodup h h').mpr e).length_eq
end Tw
namespace PySem
open PyProof.Rows Builtin Builtin.Str
theorem rC{R:Result->Shared->Prop}{l :Addr}{items:Array Value}(m:A.handled=none)(d:l≠a)(e:s.heap.IsRevIter a l ((items.size:Int)-1))(k:s.heap.IsList l items)(h:f≠a)(g:f≠l)
  (n:s.heap.get? f=some {cls:=.type "list",data:=.seq #[]})(j:items.size<=sizeLine)
  (p:∀h' tk c q,(∀b o,b≠f->b≠a->s.heap.get? b=some o->h'.get? b=some o)->h'.get? f=some {cls:=.type "list",dict:=none,data:=.seq c q,slots:=#[]} ->
   ItemsOf (λi v=>items[items.size-1-i]?=some v) c items.size->R (.ok (.ret (.ref f))) {s with heap:=h',toks:=tk}):codeAny (model prog w) A (.builtin "list.__iadd__" ([.ref f,.ref a],[])) R s:=by
 refine codeAny_builtin F.entry_list_iadd ?_;rw[Around.under_plainId F.plain_list_iadd _];show wpAny _ A.in1 (Builtin.List.listExtendWith (.ref f) (.ref a) (.ref f)) _ _ _;exact jK m d f (.ref f) 0 e k h g n p j
theorem oV{l:Addr}{items:Array Value}{Q:List Value->Shared->Prop}(q:A.handled=none)(j:l≠a)(d:s.heap.IsRevIter a l ((items.size:Int)-1))(m:s.heap.IsList l items)(n:items.size<=sizeLine)
  (u:∀h' tk c,(∀b o,b≠a->s.heap.get? b=some o->h'.get? b=some o)->ItemsOf (λi v=>items[items.size-1-i]?=some v) c items.size->Q c.toList {s with heap:=h',toks:=tk}):wpAny (model prog w) A (collect (.ref a)) Q E s:=by
 obtain⟨y,h,_⟩:=id d;obtain⟨x,g,_⟩:=id m;unfold collect;refine wpAny_bind (wpAny_runValue (codeAny_builtin F.entry_proto_collect ?_));rw[Around.under_plainId F.plain_proto_collect _]
 show wpAny _ A.in1 (newList [] >>= λl=>again (.builtin "list.__iadd__" ([l,.ref a],[]))) _ _ s
 refine wpAny_bind (wpAny_newObj_type ?_)
 have t:(s.heap.push {cls:=.type "list",data:=.seq ([]:List Value).toArray}).get? s.heap.objs.size=some {cls:=.type "list",data:=.seq ([]:List Value).toArray}:=Heap.get?_push_size _ rfl
 refine wpAny_pure (plainId_quiet F.plain_list_iadd _,rC (s:={s with heap:=s.heap.push {cls:=.type "list",data:=.seq ([]:List Value).toArray}}) q j (d.at λo e=>Heap.get?_push_of_some _ e) (m.at λo e=>Heap.get?_push_of_some _ e) (ahB (Heap.lt_size h)) (ahB (Heap.lt_size g)) t n λh' tk c z p k f=>?_)
 show wpAny _ A (load s.heap.objs.size >>= _) _ _ _;refine wpAny_bind (wpAny_load k ?_);exact wpAny_pure (u h' tk c (λb o r e=>p b o (aan (Heap.lt_size e)) r (Heap.get?_push_of_some _ e)) f)
theorem uM{x:Str}{t:Tok}{l:Addr}{ps:List (Str×Tok)}{Q:Value->Shared->Prop}(y:A.handled=none)(n:l≠a)(f:s.heap.IsRevIter a l (((strValues ps).length:Int)-1))(u:s.heap.IsList l (strValues ps).toArray)(J:ps.length<=sizeLine)
  (c:JoinOk x (ps.reverse.map (·.1))=true)(B:∀h' tk t',(∀b o,b≠a->s.heap.get? b=some o->h'.get? b=some o)->Q (.str (Txt.join x (ps.reverse.map (·.1))) t') {s with heap:=h',toks:=tk}):
  wpAny (model prog w) A (call (.builtin "str.join") [.str x t,.ref a]) Q E s:=by
 refine wpAny_call (codeAny_call_builtin F.slot_str_join.plain F.entry_str_join (F.slot_str_join.check _ _ _ _ _ _ _ _ (typeIs_str _ _ _) (F.args_str_join_2 _ _) ?_));rw[join_tree_other];refine wpAny_bind (wpAny_typeOf f.typeIs ?_);show wpAny _ A.in1 ((pyIter (.ref a)).tryCatch _ >>= λa=>collect a >>= λh=>joinTail x h) _ _ s;refine wpAny_bind (wpAny_tryCatch (wpAny_pyIter_revIter f ?_));have G:(strValues ps).toArray.size=ps.length:=by simp[strValues]
 refine wpAny_bind (oV (items:=(strValues ps).toArray) y n (by rw[aao];exact f) u ⋯ λh' tk d v j=>?_);have e:d.toList=strValues ps.reverse:=by
  obtain⟨D,C⟩:=j;refine ahl λi=>?_;rcases aay i d.size with z|z
  ·have q:i<(strValues ps).length:=by simpa [strValues,D]using z
   have:=C i d[i] (ahO z);rw[aao,ahF,<-aiI q]at this;rw[abv,ahO z,<-this];simp[strValues]
  ·rw[abv,Array.getElem?_eq_none z,ahb];simp only[strValues,aaa,agQ];lia
 rw[e];unfold JoinOk at c;rw[ahi]at c;have g:∀l:List (Str×Tok),tooLong ((l.map (·.1)).toArray.foldl (· + ·.length+x.length) 0)=false->Gives (joinTail x (strValues l)) (joinMade x l):=λl c=>by
  have m:=gives_joinTail x l c;cases l with
  |nil=>exact m
  |cons p r=>cases r with
   |nil=>exact m
   |cons I H=>exact m
 exact g _ c prog w A (wants Q E) _ (post_join ps.reverse (joinFit_length c,λt' k=>B h' k t' v))
end PySem
namespace L2
open PySem.Spec PyProof.Rows PySem.W
inductive Ob(K:PySem.W.Frag)(ta:TA)(σ:St)(Q:VK)(x:V)(H1:Hp):Prop
 |mk (sep:Str) (_:x=.str sep) (_:ta σ H1 λvs H2=>∃(p:Addr) (ws:List Str),vs=[.ref p]/\T6 K H2 p (ws.map V.str)/\JoinOk sep ws.reverse=true/\Q (.str (Txt.join sep ws.reverse)) H2)
def Rt(K:PySem.W.Frag)(b:TE)(c:TA):TE:=λ a H Q=>b a H (Ob K c a Q)
theorem Gn:∀{ws:List Str}{a:List Value},Vals (ws.map V.str) a -> ∃ps:List (Str×Tok),a=strValues ps/\ps.map (·.1)=ws
 |[],_,.nil=>([],7,7)
 |w::ws,_::_,.cons r t=>by
  obtain⟨b,rfl⟩:=r;obtain⟨ps,rfl,e⟩:=Gn t;exact((pq w b)::ps,7,by rw[aar,e])
theorem Gd{o a:Expr}{d f:Pos}(hc:X.calm=true)(ho:PE X o ta)(A:Gl X "reversed")(z:X.mg "reversed" = none)(r:bootBuiltins "reversed" = some (.type "reversed"))
  (ha:PA X [a] t)(i:attributeBase o "join" X.env (eval o X.env)=eval o X.env:=by rfl)
  (j:((backTo f (starEach [.Call (.Name "reversed" p) [a] [] apos] X.env)).all (λx=>!x.1)&&(backToKw f (keywordEach [] X.env)).all (λx=>x.1.isSome)
   && decide ([Expr.Call (.Name "reversed" p) [a] [] apos].length+([]:List Keyword).length+(if ([]:List Keyword).isEmpty then 0 else 1)<30))=true:=by rfl)
  (g:(d.endLine==f.line)=true:=by rfl)(hs:starEach [a] X.env=[(pq false (eval a X.env))]:=by rfl)
  (he:starEach [.Call (.Name "reversed" p) [a] [] apos] X.env=[(pq false (eval (.Call (.Name "reversed" p) [a] [] apos) X.env))]:=by rfl):
  PE X (.Call (.Attribute o "join" d) [.Call (.Name "reversed" p) [a] [] apos] [] f) (Rt X.K ta t):=by
 intro D s C H Q I h;refine wpAny_Call_method_late i j g rfl (T7 (ho D s C H _ I h) λv G ⟨x,H0,N,Z,k⟩=>?_);obtain⟨a0,rfl,k⟩:=k;obtain⟨ts,rfl⟩:=Z
 exists "str","str.join",PySem.F.plainAttrs_str,PySem.F.slot_str_join,PySem.F.type_str_join,typeIs_str _ _ _,nofun
 rw[he];refine Calls.callWith_builtin rfl (Calls.evalArgs_plain ?_)
 show wpAny _ _ (spliced ((pq false (eval (.Call (.Name "reversed" p) [a] [] apos) X.env))::[])) _ _ G
 refine Calls.spliced_cons ?_;refine Call_ (dH N A z r (PyProof.Rows.callWith_type1 (T7 (ha apos D G C H0 _ N k) λus U ⟨vs,H1,M,Y,q1⟩=>?_) hs rfl));obtain⟨b,E,e,hq,w,q⟩:=q1;subst e;obtain⟨u,rfl,V⟩:=vals1 Y;cases V;obtain⟨a1,W,n,hz⟩:=M.list hq;obtain⟨m,rfl,L⟩:=Gn W;have S:m.length=E.length:=by rw[<-L,aaa]
 obtain⟨ob,y,R,O,P⟩:=id n.isList;have B:b<U.heap.objs.size:=Heap.lt_size y;refine call_reversed_list n.isList ?_;refine Calls.spliced_nil ?_;rw[aaa]at hz;have J:m.reverse.map (·.1)=E.reverse:=by rw[aht,L]
 refine uM (I.ok.hd hc) (l:=b) (ps:=m) (aan B) ?_ (n.isList.push _) ⋯ (by rw[J];exact w) λh' T t' hk=>?_
 ·exact(_,Heap.get?_push_size _ rfl,7,7)
 rw[J];exact(.str _,H1,M.kept (t':=T) λc o e=>hk c o (aan (Heap.lt_size e)) (Heap.get?_push_of_some _ e),(_,7),q)
end L2
namespace Tw
def top(i:Nat):Stmt:=PySem.Challenge.pw_thinwood_k75_words_by_number.main.body.getD i (.Pass (0,0,0,0))
abbrev wK:Stmt:=top 13
theorem Hn:aC ["bits"] ["bits"] (δ wK):=Ua
abbrev mH:Stmt:=top 14
theorem oY:aC ["bits","bit"] ["bits"] (δ mH):=Ua
abbrev nM:Stmt:=top 15
theorem jf:aC ["bits","block","bit"] ["bits"] (δ nM):=Ua
abbrev vN:Stmt:=top 16
theorem JM:aC ["block","k"] ["block","k"] (δ vN):=Ua
abbrev qg:Stmt:=top 17
theorem Eu:aC ["block","upto"] ["block","upto"] (δ qg):=Ua
abbrev qj:Stmt:=top 18
theorem En:aC ["block","upto"] ["block","upto"] (δ qj):=Ua
abbrev uR:Stmt:=top 19
theorem jQ:aC ["block","nth","ones","k","bit"] ["block","nth"] (δ uR):=Ua
abbrev qb:Stmt:=top 20
theorem iQ:aC ["block","upto","nets","net","bit"] ["block","upto"] (δ qb):=Ua
abbrev wF:Stmt:=top 21
theorem Ih:aC ["block","upto"] ["block","upto"] (δ wF):=Ua
abbrev jj:Stmt:=top 22
theorem dq:aC ["block","start","stop","goal","found","k","net"] ["block","start","stop","goal"] (δ jj):=Ua
abbrev cA:Stmt:=top 23
theorem zx:aC ["look","first"] ["look","first"] (δ cA):=Ua
abbrev rH:Stmt:=top 26
theorem kY:aC ["numbers","size","nodes","node"] ["numbers"] (δ rH):=Ua
abbrev rn:Stmt:=top 27
theorem oA:aC ["many","size"] ["many"] (δ rn):=Ua
abbrev lV:Stmt:=top 28
theorem zK:aC ["one","other"] ["one","other"] (δ lV):=Ua
abbrev iV:Stmt:=top 29
theorem lu:aC ["many","look","stop","goal","node"] ["many","look","stop","goal"] (δ iV):=Ua
abbrev gM:Stmt:=top 30
theorem dz:aC ["size","look","node","goal","side","found"] ["size","look","node","goal","side"] (δ gM):=Ua
abbrev gG:Stmt:=top 31
theorem qy:aC ["many","start","stop"] ["many","start","stop"] (δ gG):=Ua
abbrev zm:Stmt:=top 32
theorem dJ:aC ["many","start","stop","size","low","high","lefts","rights"] ["many","start","stop"] (δ zm):=Ua
abbrev nW:Stmt:=top 34
theorem rQ:aC ["bits","blocks"] ["bits"] (δ nW):=Ua
abbrev nT:Stmt:=top 35
theorem lB:aC ["blocks","ahead","block"] ["blocks"] (δ nT):=Ua
abbrev jG:Stmt:=top 36
theorem uK:aC ["at","most"] ["at","most"] (δ jG):=Ua
abbrev v6:Stmt:=top 37
theorem Ip:aC ["tables","look","at"] ["tables","look","at"] (δ v6):=Ua
abbrev qZ:Stmt:=top 38
theorem iM:aC ["tables","look","at","many","ahead","number","within"] ["tables","look","at"] (δ qZ):=Ua
abbrev jU:Stmt:=top 39
theorem xO:aC ["tables","look","at"] ["tables","look","at"] (δ jU):=Ua
abbrev lK:Stmt:=top 40
theorem kI:aC ["tables","look","nth","ahead","number"] ["tables","look","nth"] (δ lK):=Ua
abbrev lL:Stmt:=top 41
theorem zU:aC ["nth","many"] ["nth","many"] (δ lL):=Ua
abbrev fP:Stmt:=top 42
theorem bM:aC ["numbers","goal","low","high","middle"] ["numbers","goal"] (δ fP):=Ua
abbrev rA:Stmt:=top 44
theorem iC:aC ["bits","level","at","bit"] ["bits"] (δ rA):=Ua
abbrev fZ:Stmt:=top 45
theorem oM:aC ["bits"] ["bits"] (δ fZ):=Ua
abbrev gQ:Stmt:=top 46
theorem cH:aC ["bits","row","tables","blocks","lows"] ["bits"] (δ gQ):=Ua
abbrev uN:Stmt:=top 47
theorem Ht:aC ["tables","number","block"] ["tables","number","block"] (δ uN):=Ua
abbrev p8:Stmt:=top 48
theorem Ed:aC ["tables","number"] ["tables","number"] (δ p8):=Ua
abbrev kJ:Stmt:=top 49
theorem xf:aC ["number","upto"] ["number","upto"] (δ kJ):=Ua
abbrev jy:Stmt:=top 50
theorem wz:aC ["tables"] ["tables"] (δ jy):=Ua
abbrev cB:Stmt:=top 51
theorem o6:aC ["tables","nodes"] ["tables"] (δ cB):=Ua
abbrev wk:Stmt:=top 52
theorem Je:aC ["tables","look","at"] ["tables","look","at"] (δ wk):=Ua
abbrev iy:Stmt:=top 53
theorem tL:aC ["number","within"] ["number","within"] (δ iy):=Ua
abbrev lJ:Stmt:=top 54
theorem pL:aC ["tables","look","at","goal","found"] ["tables","look","at","goal"] (δ lJ):=Ua
abbrev gP:Stmt:=top 55
theorem dF:aC ["tables","look","upto","goal","number","found","further"] ["tables","look","upto","goal"] (δ gP):=Ua
abbrev jq:Stmt:=top 56
theorem lU:aC ["tables","look","number","upto","goal","stop"] ["tables","look","number","upto","goal"] (δ jq):=Ua
abbrev gH:Stmt:=top 57
theorem qC:aC ["tables","look","at","bit"] ["tables","look","at","bit"] (δ gH):=Ua
abbrev qw:Stmt:=top 58
theorem Fy:aC ["tables","look","at"] ["tables","look","at"] (δ qw):=Ua
abbrev jD:Stmt:=top 59
theorem vX:aC ["tables","look","at","pairs"] ["tables","look","at","pairs"] (δ jD):=Ua
abbrev iR:Stmt:=top 62
theorem gO:aC ["depths","ahead","depth"] ["depths"] (δ iR):=Ua
abbrev jE:Stmt:=top 63
theorem di:aC ["depths","bits","unclosed","depth"] ["depths"] (δ jE):=Ua
abbrev mj:Stmt:=top 64
theorem yQ:aC ["depths"] ["depths"] (δ mj):=Ua
abbrev jk:Stmt:=top 67
theorem mK:aC ["signs","sign"] ["signs"] (δ jk):=Ua
abbrev j8:Stmt:=top 68
theorem cX:aC ["signs","kinds","aheads","blocks","bits","row"] ["signs"] (δ j8):=Ua
abbrev ji:Stmt:=top 69
theorem fc:aC ["kinds","signs","ranks","rank","kind"] ["kinds","signs"] (δ ji):=Ua
abbrev jF:Stmt:=top 70
theorem vQ:aC ["kind_count"] ["kind_count"] (δ jF):=Ua
abbrev kO:Stmt:=top 71
theorem cU:aC ["ranks","kind_count","rows","order","k","bits"] ["ranks","kind_count"] (δ kO):=Ua
abbrev uL:Stmt:=top 72
theorem rB:aC ["order","bits","noughts","ones"] ["order","bits"] (δ uL):=Ua
abbrev lz:Stmt:=top 73
theorem fO:aC ["tables","look","levels","first","ahead"] ["tables","look"] (δ lz):=Ua
abbrev jz:Stmt:=top 74
theorem iD:aC ["level","at","bit","row","look"] ["level","at","bit"] (δ jz):=Ua
abbrev iG:Stmt:=top 75
theorem sY:aC ["row"] ["row"] (δ iG):=Ua
abbrev rK:Stmt:=top 76
theorem dZ:aC ["tables","look","at","rank","place","level","bit"] ["tables","look","at"] (δ rK):=Ua
abbrev kh:Stmt:=top 78
theorem xP:aC ["tables"] ["tables"] (δ kh):=Ua
abbrev jW:Stmt:=top 79
theorem xH:aC ["tables","node"] ["tables","node"] (δ jW):=Ua
abbrev qG:Stmt:=top 80
theorem DK:aC ["tables","look","at"] ["tables","look","at"] (δ qG):=Ua
abbrev nU:Stmt:=top 81
theorem CW:aC ["tables","look","node"] ["tables","look","node"] (δ nU):=Ua
abbrev nO:Stmt:=top 82
theorem Dm:aC ["tables","look","node"] ["tables","look","node"] (δ nO):=Ua
abbrev nJ:Stmt:=top 83
theorem Dn:aC ["tables","look","node"] ["tables","look","node"] (δ nJ):=Ua
abbrev zg:Stmt:=top 84
theorem Ak:aC ["tables","look","node","steps","at"] ["tables","look","node","steps"] (δ zg):=Ua
abbrev jt:Stmt:=top 88
theorem iK:aC ["words","word","letter"] ["words"] (δ jt):=Ua
abbrev gJ:Stmt:=top 89
theorem gf:aC ["words","texts","word"] ["words"] (δ gJ):=Ua
abbrev nZ:Stmt:=top 90
theorem dg:aC ["words","texts","depths","letters","whole","word","ends"] ["words"] (δ nZ):=Ua
abbrev jT:Stmt:=top 91
theorem xg:aC ["ahead","depth","letter"] ["ahead","depth","letter"] (δ jT):=Ua
abbrev kj:Stmt:=top 92
theorem dM:aC ["words","parts","tree","letters","ends"] ["words"] (δ kj):=Ua
abbrev gb:Stmt:=top 93
theorem pY:aC ["tables"] ["tables"] (δ gb):=Ua
abbrev dI:Stmt:=top 94
theorem lF:aC ["tables"] ["tables"] (δ dI):=Ua
abbrev mJ:Stmt:=top 95
theorem zp:aC ["tables","look","node"] ["tables","look","node"] (δ mJ):=Ua
abbrev iu:Stmt:=top 96
theorem tW:aC ["tables","look"] ["tables","look"] (δ iu):=Ua
abbrev wH:Stmt:=top 97
theorem Jt:aC ["tables","look","node"] ["tables","look","node"] (δ wH):=Ua
abbrev nH:Stmt:=top 98
theorem Bx:aC ["tables","look","nth"] ["tables","look","nth"] (δ nH):=Ua
abbrev j9:Stmt:=top 99
theorem xK:aC ["tables"] ["tables"] (δ j9):=Ua
abbrev qd:Stmt:=top 100
theorem il:aC ["tables","look","node","letters","up","step"] ["tables","look","node"] (δ qd):=Ua
abbrev rE:Stmt:=top 101
theorem Du:aC ["tables","look","nth"] ["tables","look","nth"] (δ rE):=Ua
abbrev ou:Stmt:=top 102
theorem eO:aC ["tables","look","start","stop","first","text","words","node"] ["tables","look","start","stop"] (δ ou):=Ua
abbrev mF:Stmt:=top 104
theorem zV:aC ["_law_found"] ["_law_found"] (δ mF):=Ua
abbrev lN:Stmt:=top 105
theorem dD:aC ["_law_number","_law_kinds","_law_first","_law_many","_law_word_here","_law_k","_law_at"] ["_law_number","_law_kinds","_law_first","_law_many"] (δ lN):=Ua
abbrev nQ:Stmt:=top 106
theorem gw:aC ["_law_cell","_law_words_here","_law_number","_law_way","_law_old","_law_at"] ["_law_cell","_law_words_here"] (δ nQ):=Ua
abbrev mq:Stmt:=top 107
theorem dw:aC ["_law_script","_law_words_here","_law_room","_law_cell","_law_word_here"] ["_law_script"] (δ mq):=Ua
abbrev cN:Stmt:=top 108
theorem sJ:aC ["_law_blocks","_law_seen","_law_told"] ["_law_blocks","_law_seen"] (δ cN):=Ua
abbrev lY:Stmt:=top 109
theorem o9:aC ["_law_seen","_law_size","_law_number"] ["_law_seen","_law_size"] (δ lY):=Ua
abbrev fj:Stmt:=top 110
theorem dW:aC ["_law_found","_law_due","_law_one","_law_other"] ["_law_found","_law_due"] (δ fj):=Ua
abbrev jB:Stmt:=top 111
theorem eX:aC ["_law_tables","_law_look_here","_law_start","_law_stop","_law_told_here","e"] ["_law_tables","_law_look_here","_law_start","_law_stop"] (δ jB):=Ua
abbrev Kd:Stmt:=top 112
theorem cP:aC ["_law_script","_law_words_here","_law_many","_law_tables","_law_blocks","_law_seen","_law_look_here","_law_stretches","_law_cell","_law_start","_law_stop","_law_found","_law_far","_law_nth"] ["_law_script"] (δ Kd):=Ua
abbrev bu:Stmt:=(μ cA).getD 0 (.Pass (0,0,0,0))
abbrev aL:pW:=lamOf bu "look_from.<locals>.<lambda>" ["number"] ["look","first"]
theorem jR:pO ["number","look","first"] aL:=(7,7,7,3,7,3,3,3,3)
theorem zQ:Do ["look","first"] "look_from" (δ cA) aL [0,1] (λL=>[L+1,L+2]):=(λ_ _ _=>rfl,λ_ _ _=>rfl,λ_ _ _=>rfl,λL=>by simp,λ_=>rfl,λL f c j a h=>match j,h with|0,h=>("look",0,by cases h;rfl,3,7,7)|1,h=>("first",(1),by cases h;rfl,3,7,7)|j+2,h=>absurd h (by simp))
abbrev bR:Stmt:=(μ cB).getD 1 (.Pass (0,0,0,0))
abbrev aY:pW:=lamOf bR "heap_look.<locals>.<lambda>" ["node"] ["nodes"]
theorem qW:pO ["node","nodes"] aY:=(7,7,7,3,7,3,3,3,3)
theorem zJ:Do ["tables","nodes"] "heap_look" (δ cB) aY [1] (λL=>[L+1]):=(λ_ _ _=>rfl,λ_ _ _=>rfl,λ_ _ _=>rfl,λL=>by simp,λ_=>rfl,λL f c j a h=>match j,h with|0,h=>("nodes",(1),by cases h;rfl,3,7,7)|j+1,h=>absurd h (by simp))
abbrev eE:Stmt:=(μ cN).getD 0 (.Pass (0,0,0,0))
abbrev bV:uA:=RD eE "_law_look.<locals>._law_told" ["_law_number"] ["_law_seen","_law_blocks"]
theorem Bt:vL ["_law_number","_law_seen","_law_blocks"] bV:=(7,7,7,3,7,3,3,3,3)
theorem Ba:Qw ["_law_blocks","_law_seen","_law_told"] "_law_look" (δ cN) bV 2 [1,0] (λL=>[L+2,L+1]):=(sJ.nd,7,3,λ_ _ _=>rfl,λ_ _ _=>rfl,7,7,λ_ _ _=>rfl,λL=>by simp,λ_=>rfl,λL f c j a h=>match j,h with|0,h=>("_law_seen",(1),by cases h;rfl,3,7,7,4)|1,h=>("_law_blocks",0,by cases h;rfl,3,7,7,4)|j+2,h=>absurd h (by simp),4,4)
structure FI(K:PySem.W.Frag)(n:Str)(st:Stmt)(f:Addr)(fd:FuncData):Prop where
 a:PySem.W.nsIn K mainGlobals n=some (some (.ref f))
 F:UV K n n st f fd
theorem PJ{C:List O->Prop}{a:List O}(c:a.length=1)(h:∀b,C [b]):C a:=match a,c with | [_],_=>h _
theorem Uw{mg:Str->Option Value}{n :Str}{st:Stmt}{f:Addr}{fd:FuncData}(X:K.In h')(G:h'.Ns mainGlobals mg)(d:FI K n st f fd)(b:∀(kV c i:Value) (k:Option Addr) (e j:Value) (l:Value),bindArgs (PySem.W.fnOf n n (ν st) (μ st) (δ st) .none kV c i k e j) ([l],[])=pure (ahQ [x] [l]):=by intros;exact rfl):Df K mg n st [x] f fd:=(d.F,d.F.binds (ps:=[x]) λkV c i k e j g m=>PJ (C:=λg=>bindArgs _ (g,[])=pure (ahQ ([x]:List Str) g)) m (b kV c i k e j),PySem.W.mg_of X G d.a)
theorem Ms{C:List O->Prop}{a:List O}(d:a.length=2)(h:∀c b,C [c,b]):C a:=match a,d with | [_,_],_=>h _ _
theorem UG{mg:Str->Option Value}{n :Str}{st:Stmt}{f:Addr}{fd:FuncData}(X:K.In h')(G:h'.Ns mainGlobals mg)(d:FI K n st f fd)(b:∀(kV c i:Value) (k:Option Addr) (e j:Value) (m l:Value),bindArgs (PySem.W.fnOf n n (ν st) (μ st) (δ st) .none kV c i k e j) ([m,l],[])=pure (ahQ [x,qual] [m,l]):=by intros;exact rfl):Df K mg n st [x,qual] f fd:=(d.F,d.F.binds (ps:=[x,qual]) λkV c i k e j g o=>Ms (C:=λg=>bindArgs _ (g,[])=pure (ahQ ([x,qual]:List Str) g)) o (b kV c i k e j),PySem.W.mg_of X G d.a)
theorem RQ{C:List O->Prop}{a:List O}(e:a.length=3)(h:∀d c b,C [d,c,b]):C a:=match a,e with | [_,_,_],_=>h _ _ _
theorem UJ{mg:Str->Option Value}{n :Str}{st:Stmt}{f:Addr}{fd:FuncData}(X:K.In h')(G:h'.Ns mainGlobals mg)(d:FI K n st f fd)(b:∀(kV c i:Value) (k:Option Addr) (e j:Value) (o m l:Value),bindArgs (PySem.W.fnOf n n (ν st) (μ st) (δ st) .none kV c i k e j) ([o,m,l],[])=pure (ahQ [x,qual,name] [o,m,l]):=by intros;exact rfl):Df K mg n st [x,qual,name] f fd:=(d.F,d.F.binds (ps:=[x,qual,name]) λkV c i k e j g p=>RQ (C:=λg=>bindArgs _ (g,[])=pure (ahQ ([x,qual,name]:List Str) g)) p (b kV c i k e j),PySem.W.mg_of X G d.a)
theorem Sx{C:List O->Prop}{a:List O}(f:a.length=4)(h:∀e d c b,C [e,d,c,b]):C a:=match a,f with | [_,_,_,_],_=>h _ _ _ _
theorem V8{mg:Str->Option Value}{n g:Str}{st:Stmt}{f:Addr}{fd:FuncData}(X:K.In h')(G:h'.Ns mainGlobals mg)(d:FI K n st f fd)(b:∀(kV c j:Value) (l:Option Addr) (e k:Value) (q p o m:Value),bindArgs (PySem.W.fnOf n n (ν st) (μ st) (δ st) .none kV c j l e k) ([q,p,o,m],[])=pure (ahQ [x,qual,name,g] [q,p,o,m]):=by intros;exact rfl):Df K mg n st [x,qual,name,g] f fd:=(d.F,d.F.binds (ps:=[x,qual,name,g]) λkV c j l e k i r=>Sx (C:=λi=>bindArgs _ (i,[])=pure (ahQ ([x,qual,name,g]:List Str) i)) r (b kV c j l e k),PySem.W.mg_of X G d.a)
theorem Sw{C:List O->Prop}{a:List O}(g:a.length=5)(h:∀f e d c b,C [f,e,d,c,b]):C a:=match a,g with | [_,_,_,_,_],_=>h _ _ _ _ _
theorem df5{mg:Str->Option Value}{n i g:Str}{st:Stmt}{f:Addr}{fd:FuncData}(X:K.In h')(G:h'.Ns mainGlobals mg)(d:FI K n st f fd)(b:∀(kV c k:Value) (m:Option Addr) (e l:Value) (s r q p o:Value),bindArgs (PySem.W.fnOf n n (ν st) (μ st) (δ st) .none kV c k m e l) ([s,r,q,p,o],[])=pure (ahQ [x,qual,name,i,g] [s,r,q,p,o]):=by intros;exact rfl):Df K mg n st [x,qual,name,i,g] f fd:=(d.F,d.F.binds (ps:=[x,qual,name,i,g]) λkV c k m e l j t=>Sw (C:=λj=>bindArgs _ (j,[])=pure (ahQ ([x,qual,name,i,g]:List Str) j)) t (b kV c k m e l),PySem.W.mg_of X G d.a)
set_option genInjectivity false in
set_option genSizeOf false in
structure Ad where
 Wt:Addr
 Ui:Addr
 Wu:Addr
 Uh:Addr
 Wv:Addr
 Vx:Addr
 afE:Addr
 ae1:FuncData
 adL:Addr
 ada:FuncData
 aet:Addr
 adM:FuncData
 afF:Addr
 ae2:FuncData
 ae3:Addr
 aeu:FuncData
 ae4:Addr
 aev:FuncData
 afG:Addr
 ae5:FuncData
 ae6:Addr
 aew:FuncData
 afH:Addr
 ae7:FuncData
 aco:Addr
 abK:FuncData
 adN:Addr
 Z8:FuncData
 ae8:Addr
 aex:FuncData
 ae9:Addr
 aey:FuncData
 adO:Addr
 adb:FuncData
 abL:Addr
 abb:FuncData
 abd:Addr
 aa1:FuncData
 abe:Addr
 aa2:FuncData
 afX:Addr
 afI:FuncData
 aez:Addr
 adP:FuncData
 aeA:Addr
 adQ:FuncData
 acp:Addr
 abM:FuncData
 afJ:Addr
 afa:FuncData
 afb:Addr
 aeB:FuncData
 adc:Addr
 acq:FuncData
 adR:Addr
 ade:FuncData
 adS:Addr
 adf:FuncData
 aaS:Addr
 aaN:FuncData
 afc:Addr
 aeC:FuncData
 aa3:Addr
 aaT:FuncData
 abf:Addr
 aa4:FuncData
 afK:Addr
 afd:FuncData
 afe:Addr
 aeD:FuncData
 adg:Addr
 acr:FuncData
 acs:Addr
 abN:FuncData
 adT:Addr
 Z9:FuncData
 afL:Addr
 afg:FuncData
 abO:Addr
 abh:FuncData
 adU:Addr
 adh:FuncData
 abi:Addr
 aa5:FuncData
 acu:Addr
 abP:FuncData
 abj:Addr
 aa6:FuncData
 afh:Addr
 aeE:FuncData
 acv:Addr
 abQ:FuncData
 abR:Addr
 abk:FuncData
 acw:Addr
 abS:FuncData
 adV:Addr
 adi:FuncData
 acx:Addr
 abT:FuncData
 adk:Addr
 acy:FuncData
 acz:Addr
 abU:FuncData
 acA:Addr
 abV:FuncData
 adl:Addr
 acB:FuncData
 afM:Addr
 afi:FuncData
 adW:Addr
 adm:FuncData
 acC:Addr
 abW:FuncData
 abX:Addr
 abl:FuncData
 afj:Addr
 aeF:FuncData
 adn:Addr
 acD:FuncData
 ado:Addr
 acE:FuncData
 afk:Addr
 aeG:FuncData
 aeH:Addr
 adX:FuncData
 aeI:Addr
 adY:FuncData
 aeJ:Addr
 adZ:FuncData
 afY:Addr
 afN:FuncData
 acF:Addr
 abY:FuncData
 abm:Addr
 aa7:FuncData
 aeK:Addr
 ad0:FuncData
 adp:Addr
 acG:FuncData
 adq:Addr
 acH:FuncData
 aa8:Addr
 aaU:FuncData
 aaH:Addr
 aaF:FuncData
 ad1:Addr
 adt:FuncData
 abZ:Addr
 abn:FuncData
 afO:Addr
 afl:FuncData
 aeL:Addr
 ad2:FuncData
 adu:Addr
 acI:FuncData
 afm:Addr
 aeM:FuncData
 afn:Addr
 aeN:FuncData
 aeO:Addr
 ad3:FuncData
 ad4:Addr
 adw:FuncData
 ad5:Addr
 adx:FuncData
 aeP:Addr
 ad6:FuncData
 ad7:Addr
 ady:FuncData
 aeQ:Addr
 ab5:FuncData
 ad8:Addr
 adz:FuncData
 aaV:Addr
 aaO:FuncData
 acJ:Addr
 ab0:FuncData
 agj:Addr
 af9:FuncData
 t_BLOCK_BITS:Tok
 t_LETTERS:Tok
 t_MOST_BITS:Tok
 t_MOST_LETTERS:Tok
 t_MOST_NODES:Tok
 t_MOST_NUMBERS:Tok
 t_MOST_SIGNS:Tok
 Uq:Addr
 Uo:Addr
 Wh:Addr
 Wi:Addr
structure Tx(K:PySem.W.Frag)(mg:Str->Option Value)(a:Ad):Prop where
 afP:Df K mg "packed" wK ["bits"] a.afE a.ae1
 ab6:Df K mg "check_row" mH ["bits"] a.adL a.ada
 aeR:Df K mg "block_of" nM ["bits"] a.aet a.adM
 YM:Df K mg "bit_in" vN ["block","k"] a.afF a.ae2
 YQ:Df K mg "bits_of" qg ["block","upto"] a.ae3 a.aeu
 ad9:Df K mg "ones_in" qj ["block","upto"] a.ae4 a.aev
 afQ:Df K mg "one_in" uR ["block","nth"] a.afG a.ae5
 aea:Df K mg "nets_of" qb ["block","upto"] a.ae6 a.aew
 afR:Df K mg "low_in" wF ["block","upto"] a.afH a.ae7
 acL:Df K mg "last_low_in" jj ["block","start","stop","goal"] a.aco a.abK
 YS:Df K mg "look_from" cA ["look","first"] a.adN a.Z8
 afo:Df K mg "heap_of" rH ["numbers"] a.ae8 a.aex
 X4:Df K mg "size_of" rn ["many"] a.ae9 a.aey
 aeb:Df K mg "lesser_of" lV ["one","other"] a.adO a.adb
 ab1:Df K mg "last_at_most" iV ["many","look","stop","goal"] a.abL a.abb
 abp:Df K mg "place_beneath" gM ["size","look","node","goal","side"] a.abd a.aa1
 aaI:Df K mg "check_stretch" gG ["many","start","stop"] a.abe a.aa2
 afZ:Df K mg "cover" zm ["many","start","stop"] a.afX a.afI
 YT:Df K mg "kept_row" nW ["bits"] a.aez a.adP
 aeS:Df K mg "ahead_of" nT ["blocks"] a.aeA a.adQ
 X5:Df K mg "check_place" jG ["at","most"] a.acp a.abM
 X6:Df K mg "bit_at" v6 ["tables","look","at"] a.afJ a.afa
 Xk:Df K mg "ones_at" qZ ["tables","look","at"] a.afb a.aeB
 adA:Df K mg "noughts_at" jU ["tables","look","at"] a.adc a.acq
 ab7:Df K mg "one_place" lK ["tables","look","nth"] a.adR a.ade
 aec:Df K mg "check_nth" lL ["nth","many"] a.adS a.adf
 aaX:Df K mg "last_no_greater" fP ["numbers","goal"] a.aaS a.aaN
 afp:Df K mg "is_tree" rA ["bits"] a.afc a.aeC
 aa9:Df K mg "check_brackets" fZ ["bits"] a.aa3 a.aaT
 abq:Df K mg "kept_brackets" gQ ["bits"] a.abf a.aa4
 afS:Df K mg "low_of" uN ["tables","number","block"] a.afK a.afd
 aed:Df K mg "base_of" p8 ["tables","number"] a.afe a.aeD
 abr:Df K mg "end_within" kJ ["number","upto"] a.adg a.acr
 acN:Df K mg "block_count" jy ["tables"] a.acs a.abN
 aee:Df K mg "heap_look" cB ["tables"] a.adT a.Z9
 YW:Df K mg "height" wk ["tables","look","at"] a.afL a.afg
 ab2:Df K mg "place_of_bit" iy ["number","within"] a.abO a.abh
 ab8:Df K mg "low_ahead" lJ ["tables","look","at","goal"] a.adU a.adh
 abt:Df K mg "last_low_upto" gP ["tables","look","upto","goal"] a.abi a.aa5
 aa0:Df K mg "last_within" jq ["tables","look","number","upto","goal"] a.acu a.abP
 aaJ:Df K mg "check_bracket" gH ["tables","look","at","bit"] a.abj a.aa6
 afq:Df K mg "opening" qw ["tables","look","at"] a.afh a.aeE
 acO:Df K mg "further_out" jD ["tables","look","at","pairs"] a.acv a.abQ
 ab3:Df K mg "check_depths" iR ["depths"] a.abR a.abk
 acP:Df K mg "brackets_of" jE ["depths"] a.acw a.abS
 aef:Df K mg "kept_tree" mj ["depths"] a.adV a.adi
 acQ:Df K mg "check_signs" jk ["signs"] a.acx a.abT
 adB:Df K mg "kept_signs" j8 ["signs"] a.adk a.acy
 acR:Df K mg "ranks_among" ji ["kinds","signs"] a.acz a.abU
 acS:Df K mg "level_count" jF ["kind_count"] a.acA a.abV
 adC:Df K mg "level_rows" kO ["ranks","kind_count"] a.adl a.acB
 afT:Df K mg "parted" uL ["order","bits"] a.afM a.afi
 aeg:Df K mg "levels_of" lz ["tables","look"] a.adW a.adm
 acT:Df K mg "place_below" jz ["level","at","bit"] a.acC a.abW
 ab4:Df K mg "nought_count" iG ["row"] a.abX a.abl
 afr:Df K mg "sign_at" rK ["tables","look","at"] a.afj a.aeF
 adD:Df K mg "node_count" kh ["tables"] a.adn a.acD
 adE:Df K mg "check_node" jW ["tables","node"] a.ado a.acE
 afs:Df K mg "node_at" qG ["tables","look","at"] a.afk a.aeG
 acX:Df K mg "place_of" nU ["tables","look","node"] a.aeH a.adX
 acY:Df K mg "depth_of" nO ["tables","look","node"] a.aeI a.adY
 aeT:Df K mg "elder_of" nJ ["tables","look","node"] a.aeJ a.adZ
 af0:Df K mg "up_of" zg ["tables","look","node","steps"] a.afY a.afN
 acU:Df K mg "check_words" jt ["words"] a.acF a.abY
 abu:Df K mg "beginnings_of" gJ ["words"] a.abm a.aa7
 aeU:Df K mg "parts_of" nZ ["words"] a.aeK a.ad0
 adF:Df K mg "text_below" jT ["ahead","depth","letter"] a.adp a.acG
 adG:Df K mg "kept_store" kj ["words"] a.adq a.acH
 aaE:Df K mg "blocks_of_tree" gb ["tables"] a.aa8 a.aaU
 aaK:Df K mg "blocks_of_letters" dI ["tables"] a.aaH a.aaF
 ab9:Df K mg "letter_of" mJ ["tables","look","node"] a.ad1 a.adt
 aaP:Df K mg "look_at_ends" iu ["tables","look"] a.abZ a.abn
 afU:Df K mg "is_end" wH ["tables","look","node"] a.afO a.afl
 YX:Df K mg "end_node" nH ["tables","look","nth"] a.aeL a.ad2
 adH:Df K mg "word_count" j9 ["tables"] a.adu a.acI
 aeh:Df K mg "text_of" qd ["tables","look","node"] a.afm a.aeM
 aei:Df K mg "word_at" rE ["tables","look","nth"] a.afn a.aeN
 acZ:Df K mg "words_in" ou ["tables","look","start","stop"] a.aeO a.ad3
 aej:Df K mg "_law_whole" mF ["_law_found"] a.ad4 a.adw
 Xl:Df K mg "_law_spelt" lN ["_law_number","_law_kinds","_law_first","_law_many"] a.ad5 a.adx
 aeV:Df K mg "_law_word" nQ ["_law_cell","_law_words_here"] a.aeP a.ad6
 aek:Df K mg "_law_words" mq ["_law_script"] a.ad7 a.ady
 aeW:Df K mg "_law_look" cN ["_law_blocks","_law_seen"] a.aeQ a.ab5
 ael:Df K mg "_law_there" lY ["_law_seen","_law_size"] a.ad8 a.adz
 aaY:Df K mg "_law_texts_alike" fj ["_law_found","_law_due"] a.aaV a.aaO
 X7:Df K mg "_law_refused" jB ["_law_tables","_law_look_here","_law_start","_law_stop"] a.acJ a.ab0
 ago:Df K mg "law" Kd ["_law_script"] a.agj a.af9
 agk:mg "bool" = none
 X8:mg "enumerate" = none
 agp:mg "int" = none
 Ww:mg "isinstance" = none
 Ul:mg "len" = none
 Yb:mg "list" = none
 YZ:mg "min" = none
 Wx:mg "range" = none
 Y0:mg "reversed" = none
 aga:mg "set" = none
 aeX:mg "sorted" = none
 agl:mg "str" = none
 agb:mg "sum" = none
 Y4:mg "tuple" = none
 Y5:mg "zip" = none
 Vr:mg "BLOCK_BITS" = some (.int 32 a.t_BLOCK_BITS)
 aem:mg "LETTERS" = some (.str "abcdefghijklmnopqrstuvwxyz" a.t_LETTERS)
 afw:mg "MOST_BITS" = some (.int 4096 a.t_MOST_BITS)
 aer:mg "MOST_LETTERS" = some (.int 40 a.t_MOST_LETTERS)
 afu:mg "MOST_NODES" = some (.int 2048 a.t_MOST_NODES)
 aes:mg "MOST_NUMBERS" = some (.int 4096 a.t_MOST_NUMBERS)
 afv:mg "MOST_SIGNS" = some (.int 4096 a.t_MOST_SIGNS)
 af6:mg "NoNode" = some (.ref a.Uq)
 agm:mg "NoPlace" = some (.ref a.Uo)
 af7:mg "NoWord" = some (.ref a.Wh)
 afx:mg "WoodError" = some (.ref a.Wi)
 af8:Exc K mg "NoNode" a.Uq
 agn:xu K a.Uq
 Y6:PySem.W.kitOne K (.ref a.Uq) (.ref a.Uq)=some true
 Y7:PySem.W.kitOne K (.ref a.Uq) (.ref a.Uo)=some false
 Y8:PySem.W.kitOne K (.ref a.Uq) (.ref a.Wh)=some false
 Y9:PySem.W.kitOne K (.ref a.Uq) (.ref a.Wi)=some true
 Za:PySem.W.kitOne K (.ref a.Uq) (.type "ValueError")=some true
 aen:Exc K mg "NoPlace" a.Uo
 Zb:xu K a.Uo
 Yc:PySem.W.kitOne K (.ref a.Uo) (.ref a.Uq)=some false
 Yd:PySem.W.kitOne K (.ref a.Uo) (.ref a.Uo)=some true
 Ye:PySem.W.kitOne K (.ref a.Uo) (.ref a.Wh)=some false
 Yg:PySem.W.kitOne K (.ref a.Uo) (.ref a.Wi)=some true
 Zc:PySem.W.kitOne K (.ref a.Uo) (.type "ValueError")=some true
 afy:a.Z8.code=.ref a.Wt
 afz:a.Z9.code=.ref a.Wu
 afV:a.ab5.code=.ref a.Wv
structure Bs(mg:Str->Option Value)(base:Heap)(a:Ad):Prop where
 bm:BMain mg base
 afA:PySem.W.CodeHd base a.Wt a.Ui
 afB:PySem.W.CodeHd base a.Wu a.Uh
 afW:PySem.W.CodeHd base a.Wv a.Vx
 abw:a.Ui≠a.Uh
 abI:a.Ui≠a.Vx
 abJ:a.Uh≠a.Vx
theorem Aq(a:List (Key×V))(k:Key)(v:V):(putK a k v).length<=a.length+1:=by
 cases h:gY a k with
 |none=>rw[KY v h,aae];exact aac _
 |some x=>
  unfold putK;rw[jM,h];simp
theorem ik.out{f b:Addr}{c:uA}{cs:List Addr}{Uc:List V}{xs:List V}(h:ik H f c cs Uc)(e:H b=some (.lst xs)):b∉cs:=λz=>by
 obtain⟨i,d⟩:=abg z;obtain⟨g,v,u,_,a,_⟩:=h.cells i b d;rw[e]at a;cases a
theorem TabAt.same{H':Hp}{pos:Pos}{q:Str}(h:TabAt H a pos q)(s:aU H H'):TabAt H' a pos q:=by
 obtain⟨d,k,j,b⟩:=h;exists d,s _ _ k,j;rcases b with b|⟨l,e,c,t,i,g,f⟩
 ·exact .inl b
 ·exact .inr (l,e,c,t,i,s _ _ g,f)
def gr(P:Addr)(H H':Hp):Prop:=∀b o,H b=some o->b≠P->H' b=some o
theorem gr.trans{c:Hp}(s:gr a H H')(d:gr a H' c):gr a H c:=λb o e n=>d b o (s b o e n) n
theorem TabAt.ex{pos:Pos}{q:Str}(h:TabAt H a pos q):∃o,H a=some o:=by
 obtain⟨c,b,_⟩:=h;exact(_,b)
theorem TabAt.ne{b:Addr}{pos:Pos}{q:Str}{o:HO}(h:TabAt H a pos q)(e:H b=some o)(n:∀ps,o ≠ .Ug ps):b≠a:=λz=>by
 obtain⟨ps,c,_⟩:=h;rw[z,c]at e;cases e;exact n _ rfl
theorem TabAt.upd{H:Hp}{P x:Addr}{pos:Pos}{q:Str}{xs ys:List V}(h:TabAt H P pos q)(e:H x=some (.lst xs)):TabAt (L2.upd H x (.lst ys)) P pos q:=by
 obtain⟨i,r,p,a⟩:=h;have d:∀b o,H b=some o->(∀f,o ≠ .lst f)->L2.upd H x (.lst ys) b=some o:=λb o c n=>by
  rw[aG (λz=>by rw[z,e]at c;cases c;exact n _ rfl)];exact c
 exists i,d _ _ r nofun,p;rcases a with a|⟨s,j,g,t,m,l,k⟩
 ·exact .inl a
 ·exact .inr (s,j,g,t,m,d _ _ l nofun,k)
theorem gr.free(s:gr a H H'){l:Addr}(c:∃o,H' a=some o)(h:H' l=none):H l=none:=by
 cases e:H l with
 |none=>rfl
 |some o=>
  by_cases z:l=a
  ·obtain⟨o,b⟩:=c;rw[z,b]at h;cases h
  ·rw[s l o e z]at h;cases h
theorem TF{p:Addr}{H':Hp}{ps:Array Value}{xs:List V}(s:gr a H H')(b:H a=some (.Ug ps))(h:T6 K H p xs):T6 K H' p xs:=by
 rcases h with (e|⟨o,e⟩) | h
 ·exact .inl (.inl (s _ _ e λz=>by rw[z,b]at e;cases e))
 ·exact .inl (.inr (o,s _ _ e λz=>by rw[z,b]at e;cases e))
 ·exact .inr h
theorem Pa{n j:Nat}(h:j<n):VD n (j:Int)=some j:=by
 unfold VD;simp;lia
theorem Gr(k:Nat)(v:Int):(aaA k [V.int v]).flatten=(aaA k v).map V.int:=by
 induction k with
 |zero=>rfl
 |succ k a=>rw[agy,agJ,a,agy];rfl
structure LK where
 f:Addr
 wr:Option Addr
 bl:Addr
 off:Nat
 all:List V
def LK.put(L:LK)(H:Hp)(a:List Int):Hp:=match L.wr with
 |some b=>upd H b (.lst (a.map V.int))
 |none=>H
theorem Hj{cs:List Addr}{b:Addr}{o:HO}(h:hide H cs b=some o):b∉cs/\H b=some o:=by
 by_cases z:b∈cs
 ·rw[mX z]at h;cases h
 ·rw[bw z]at h;exact(z,h)
def Va(H:Hp)(L:LK):Prop:=L.off=0 /\ ∃(a:Addr) (b:List Addr),L.wr=some a/\ik H L.f bV b [.ref a,.ref L.bl]
inductive V9(R:Hp->LK->Prop)(H:Hp)(L:LK):Prop
 | mk (g:Addr) (o:Nat) (cs:List Addr) (_:o<=L.off) (_:dG H L.f aL cs [.ref g,.int (o:Int)]) (_:R (hide H cs) (g,L.wr,L.bl,L.off-o,L.all))
def Keeps(R:Hp->LK->Prop):Prop:=∀(H a:Hp) (L:LK),R H L->(∀b o,H b=some (aM b o)->a b=some (aM b o))->R a L
theorem Va.keeps:Keeps Va:=λH f L h s=>by
 obtain⟨c,a,d,b,e⟩:=h;exact(c,a,d,b,e.same s)
theorem V9.keeps{R:Hp->LK->Prop}(k:Keeps R):Keeps (V9 R):=λH i L h s=>by
 obtain⟨g,o,f,c,a,d⟩:=h;refine(g,o,f,c,a.same s,k _ _ _ d λb u e=>?_);obtain⟨z,e⟩:=Hj e;rw[bw z];exact s b u e
theorem Keeps.hid{R:Hp->LK->Prop}(k:Keeps R){H':Hp}{L:LK}{cs:List Addr}(h:R H L)(f:∀b∈cs,H b=none)(s:∀b o,H b=some (aM b o)->H' b=some (aM b o)):R (hide H' cs) L:=k _ _ _ h λb o e=>by
 rw[bw λz=>by rw[f b z]at e;cases e];exact s b o e
def Vf:Hp->LK->Prop:=V9 Va
def Wy:Hp->LK->Prop:=V9 Vf
theorem Vf.keeps:Keeps Vf:=V9.keeps Va.keeps
theorem Wy.keeps:Keeps Wy:=V9.keeps Vf.keeps
def HasFn(R:Hp->LK->Prop):Prop:=∀(H:Hp) (L:LK),R H L->(∃o b,H L.f=some (aM L.f o)/\o.data=.func b) /\ ∃a,L.wr=some a
theorem Va.hasFn:HasFn Va:=λH L h=>by
 obtain⟨_,a,k,b,d⟩:=h;obtain⟨l,e,i,f,j,g,t,c,_⟩:=d.ex;exact((1,c,7),a,b)
theorem V9.hasFn{R:Hp->LK->Prop}(k:HasFn R):HasFn (V9 R):=λH L h=>by
 obtain⟨g,o,j,_,c,a⟩:=h;obtain⟨l,f,d,i,e,t,b,_⟩:=c.ex;exact((1,b,7),(k _ _ a).2)
theorem Vf.hasFn:HasFn Vf:=V9.hasFn Va.hasFn
theorem Wy.hasFn:HasFn Wy:=V9.hasFn Vf.hasFn
def gU(H:Hp)(L:LK):Prop:=Va H L\/Vf H L\/Wy H L
theorem gU.both{L:LK}(h:gU H L):(∃o fd,H L.f=some (aM L.f o)/\o.data=.func fd) /\ ∃sn,L.wr=some sn:=by
 rcases h with h|h|h
 ·exact Va.hasFn _ _ h
 ·exact Vf.hasFn _ _ h
 ·exact Wy.hasFn _ _ h
theorem gU.fn{L:LK}(h:gU H L):∃o fd,H L.f=some (aM L.f o)/\o.data=.func fd:=h.both.1
theorem gU.kept{H':Hp}{L:LK}(h:gU H L)(s:∀b o,H b=some o->(∀ps,o ≠ .Ug ps)->(∀ps,o ≠ .lst ps)->H' b=some o):gU H' L:=by
 rcases h with h|h|h
 ·exact .inl (Va.keeps _ _ _ h λb o e=>s _ _ e nofun nofun)
 ·exact .inr (.inl (Vf.keeps _ _ _ h λb o e=>s _ _ e nofun nofun))
 ·exact .inr (.inr (Wy.keeps _ _ _ h λb o e=>s _ _ e nofun nofun))
theorem gU.same{H':Hp}{L:LK}(h:gU H L)(s:aU H H'):gU H' L:=h.kept λb o e _ _=>s _ _ e
theorem gU.upd{L:LK}{b:Addr}{xs ys:List V}(h:gU H L)(e:H b=some (.lst xs)):gU (L2.upd H b (.lst ys)) L:=h.kept λc o a _ n=>by
 rw[aG (λz=>by rw[z,e]at a;cases a;exact n _ rfl)];exact a
structure Asks(H:Hp)(L:LK)(ss:List Int):Prop where
 look:gU H L
 seen:∀sn,L.wr=some sn->H sn=some (.lst (ss.map V.int))/\sn≠L.bl
 nodes:H L.bl=some (.lst L.all)
 few:ss.length<=16000000
theorem Asks.same{H H':Hp}{L:LK}{a:List Int}(h:Asks H L a)(s:aU H H'):Asks H' L a:=(h.look.same s,λb e=>(s _ _ (h.seen b e).1,(h.seen b e).2),s _ _ h.nodes,h.few)
theorem LK.put_none{L:LK}(e:L.wr=none)(H:Hp)(a:List Int):L.put H a=H:=by unfold LK.put;rw[e]
theorem LK.put_some{L:LK}{sn:Addr}(e:L.wr=some sn)(H:Hp)(a:List Int):L.put H a=upd H sn (.lst (a.map V.int)):=by unfold LK.put;rw[e]
theorem LK.put_ne{L:LK}{b:Addr}(n:L.wr≠some b)(H:Hp)(a:List Int):L.put H a b=H b:=by
 cases e:L.wr with
 |none=>rw[LK.put_none e]
 |some c=>rw[LK.put_some e,aG (λz=>n (by rw[e,z]))]
theorem Asks.id{L:LK}(h:Asks H L d):L.put H d=H:=by
 cases e:L.wr with
 |none=>rw[LK.put_none e]
 |some a=>rw[LK.put_some e];exact Ra (h.seen a e).1
theorem Asks.putN{L:LK}{tt:List Int}{b:Addr}{o:HO}(h:Asks H L d)(e:H b=some o)(n:∀xs,o ≠ .lst xs):L.put H tt b=some o:=by
 rw[LK.put_ne (λz=>?_)]
 ·exact e
 ·rw[(h.seen b z).1]at e;cases e;exact n _ rfl
theorem Asks.putT{L:LK}{tt:List Int}{b:Addr}{xs:List V}(h:Asks H L d)(e:H b=some (.tup xs)):L.put H tt b=some (.tup xs):=h.putN e nofun
theorem Asks.put{L:LK}{tt:List Int}(h:Asks H L d)(b:tt.length<=16000000):Asks (L.put H tt) L tt:=by
 cases e:L.wr with
 |none=>
  rw[LK.put_none e];exact(h.look,λa z=>(by rw[e]at z;cases z),h.nodes,b)
 |some a=>
  obtain⟨f,c⟩:=h.seen a e;rw[LK.put_some e];refine(h.look.upd f,λg z=>?_,by rw[aG (agG c)];exact h.nodes,b);rw[e]at z;cases z;exact(ao,c)
theorem Asks.more{L:LK}{tt:List Int}(h:Asks H L d)(a:tt.length<=16000000):Asks (L.put H tt) L tt:=h.put a
inductive Ot(f:Addr)(vs:List V)(H:Hp)(Q:VK)(_e1:XK):Prop
 | mk (L:LK) (ss:List Int) (n:Nat) (x:V) (_:f=L.f) (_:vs=[.int (n:Int)]) (_:Asks H L ss) (_:ss.length<16000000) (_:L.all[L.off+n]?=some x) (_:Q x (L.put H (ss++[((L.off+n:Nat):Int)])))
section
variable{P:Program}{a:Ad}
theorem Lx(x:Int):Builtin.bitAnd x 1=x%2:=by
 unfold Builtin.bitAnd;by_cases b:0<=x
 ·simp[b];lia
 ·simp[b];unfold Builtin.bitNot;lia
inductive Js(vs:List V)(H:Hp)(Q:VK)(_e1:XK):Prop
 | mk (b k:Int) (_:vs=[.int b,.int k]) (_:0<=k) (_:Q (.int (bit b k.toNat)) H)
theorem qz(T:Tx K mg a):aV P w K mg base T9 1 a.afF a.ae2 ["block","k"] Js:=by
 refine T.YM.F.Ub JM λf A c s H g Q E i h=>?_;obtain⟨b,k,rfl,d,q⟩:=h;exists _,(au (aF (aB QD (aB Rb (pv 0) (pv 1)) aq)));exists 6,2,d,2;have e:Builtin.bitAnd (b / 2^k.toNat) 1=bit b k.toNat:=Lx _;show Q (.int (Builtin.bitAnd (b / 2^k.toNat) 1)) H;rw[e];exact q
inductive FQ(vs:List V)(H:Hp)(Q:VK)(_e1:XK):Prop
 | mk (b n:Int) (_:vs=[.int b,.int n]) (_:0<=n) (_:n<=32) (_:∀r,H r=none->Q (.ref r) (upd H r (.lst ((bits b n.toNat).map V.int))))
theorem oh(T:Tx K mg a):aV P w K mg base T9 2 a.ae3 a.aeu ["block","upto"] FQ:=by
 refine T.YQ.F.Ub Eu λf A c s H g Q E d h=>?_;obtain⟨b,n,rfl,m,l,q⟩:=h;exists _,(au (aF (mO rfl (cu.one (j:=0) rfl (ahy rfl) rfl rfl (ahy rfl)) (q9 rfl T.Wx (My 1 aa)) (λ_ _ _ _=>fu) (λ_ _ _ _=>(aH T.YM (qz T) d (My 1 (My 0 aa)))))));refine(5,n,7,9,9,8);refine JG (λj=>bit b j) (by rw[sizeLine_eq];lia) (λ_ _ _ q=>q) (λj o Q k i q=>(6,_,5,9,8)) λD e=>q D e;rw[show ((0:Int)+(j:Int)).toNat=j from by lia];exact q
inductive Ei(vs:List V)(H:Hp)(Q:VK)(_e1:XK):Prop
 | mk (b n:Int) (_:vs=[.int b,.int n]) (_:0<=n) (_:n<=32) (_:∀H',aU H H'->Q (.int (ones b n.toNat)) H')
theorem wC(T:Tx K mg a):aV P w K mg base T9 3 a.ae4 a.aev ["block","upto"] Ei:=by
 refine T.ad9.F.Ub En λi A d s H j Q E e h=>?_;obtain⟨b,n,rfl,g,f,q⟩:=h;exists _,(au (aF (aJ (wA rfl) rfl T.agb Tw.Em (ak (aH T.YQ (oh T) e (My 0 (My 1 aa))) aa))));exact(6,b,n,7,g,f,λr c=>(r,bits b n.toNat,7,T6.of ao,q _ (az c _)))
inductive Jo(vs:List V)(H:Hp)(Q:VK)(_e1:XK):Prop
 | mk (b t:Int) (_:vs=[.int b,.int t]) (_:(∀H',aU H H' -> ∀k:Nat,k<32->bit b k=1->ones b k=t->Q (.int (k:Int)) H')) (_:∀H',aU H H'->(∀k:Nat,k<32 -> ¬(bit b k=1/\ones b k=t))->Q .non H')
theorem Ji(T:Tx K mg a):aV P w K mg base T9 3 a.afG a.ae5 ["block","nth"] Jo:=by
 refine T.afQ.F.Ub jQ λU A G s H W Q E N h=>?_;obtain⟨b,t,rfl,M,L⟩:=h;refine(_,(aj (aA 2 jQ.nd aq)
  (aj (bC PassesOwn.never rfl (ud rfl T.X8 (ak (aH T.YQ (oh T) N (My 0 (ak (bF (v:=.int 32) rfl T.Vr (_,7)) aa))) aa)) (iT rfl (bA (aP 3 jQ.nd) (bA (aP 4 jQ.nd) fB))) (aj (bh (PW.pt (jC (aK dR (pv 4) aq) (je (aK dR (pv 2) (pv 1))))) (au (aF (pv 3))) aN)
  (au (aA 2 jQ.nd (aB aX (pv 2) (pv 4))))))
  (au (aF jn)))),8)
 refine(5,b,32,7,4,4,λr m=>(r,5,T6.of ao,8));refine uE (xs:=(bits b 32).map V.int) (λi n e=>(∃k o,n=[some (.int b),some (.int t),some (.int (ones b i)),k,o])/\aU (upd H r (.lst ((bits b 32).map V.int))) e /\ ∀j:Nat,j<i -> ¬(bit b j=1/\ones b j=t)) ?_ ?_ ?_ ?_
 ·exact((none,none,7),aU.refl _,λj I=>absurd I (ahJ _))
 ·rintro i n e y ⟨_,f,_⟩;exact T6.of (f _ _ ao)
 ·rintro i x n e p u ⟨⟨k,o,rfl⟩,f,q⟩ O;have y:i<32:=by
   have:=(aab.mp u).1;rw[aaa,gF]at this;exact this
  have S:x=.int (bit b i):=by
   rw[aag,uQ y]at u;exact(aax u).symm
  subst S;have g:aU (upd H r (.lst ((bits b 32).map V.int))) (upd e p (.tup [.int (i:Int),.int (bit b i)])):=f.trans (az O _);have D:=(az m (.lst ((bits b 32).map V.int))).trans g;have next:(∀j:Nat,j<i+1 -> ¬(bit b j=1/\ones b j=t)) ↔ ¬(bit b i=1/\ones b i=t):=by
   refine(λh=>h i (agW _),λh j I=>?_);rcases aay j i with l|l
   ·exact q j l
   ·have:j=i:=by lia
    subst this;exact h
  have J:¬(bit b i=1/\ones b i=t)->(∃k o,[some (V.int b),some (V.int t),some (V.int (ones b i+bit b i)),some (V.int (i:Int)),some (V.int (bit b i))]=[some (.int b),some (.int t),some (.int (ones b (i+1))),k,o]) /\
    aU (upd H r (.lst ((bits b 32).map V.int))) (upd e p (.tup [.int (i:Int),.int (bit b i)])) /\ ∀j:Nat,j<i+1 -> ¬(bit b j=1/\ones b j=t):=λh=>
   ((1,by rw[ig]),g,next.mpr h)
  exists p,5,T8.of ao,7,_,5,2;exists 5,7,5;refine bL (λc=>?_) (λc=>?_)
  ·have C:V.int (bit b i)=V.int 1:=of_decide_eq_true c;exists 6,7,5;refine bL (λd=>?_) (λd=>?_)
   ·have B:V.int (ones b i)=V.int t:=of_decide_eq_true d;exact(5,M _ D i y (V.int.inj C) (V.int.inj B))
   ·have B:¬V.int (ones b i)=V.int t:=λz=>d (decide_eq_true z);exact(6,2,J λz=>B (congrArg V.int z.2))
  ·have C:¬V.int (bit b i)=V.int 1:=λz=>c (decide_eq_true z);exact eF (6,2,J λz=>C (congrArg V.int z.1))
 ·rintro n e ⟨_,f,q⟩;refine L _ ((az m _).trans f) λk R=>q k ?_;rw[aaa,gF];exact R
inductive Aw(K:PySem.W.Frag)(vs:List V)(H:Hp)(Q:VK)(_e1:XK):Prop
 | mk (p:Addr) (ns:List Int) (_:vs=[.ref p]) (_:T6 K H p (ns.map V.int)) (_:Q (.int (blk ns)) H)
theorem Ay(T:Tx K mg a):aV P w K mg base T9 1 a.aet a.adM ["bits"] (Aw K):=by
 refine T.aeR.F.Ub jf λt A g s H u Q E v h=>?_;obtain⟨p,b,rfl,l,q⟩:=h;refine(_,(aj (aA 1 jf.nd aq)
  (aj (bC PassesOwn.never rfl (JZ rfl T.Y0 (My 0 aa) Tw.jc) (aP 2 jf.nd) (au (aA 1 jf.nd (aB aX (aB cI aq (pv 1)) (pv 2)))))
  (au (aF (pv 1))))),8)
 exists 5,p,5,l;refine GC (xs:=b.map V.int) (λi d f=>(∃k,d=[some (.ref p),some (.int (blk (b.drop (b.length-i)))),k])/\f=H) ?_ ?_ ?_ ?_
 ·refine((none,8),7);rw[ahn,aiF];rfl
 ·rintro i d f _ ⟨_,rfl⟩;exact l
 ·rintro i x d f n m ⟨⟨k,rfl⟩,rfl⟩;obtain⟨c,j,rfl⟩:=int_at m;rw[aaa]at n j;refine(5,2,.inl (4,4),5,2,(some (.int c),8),7);have e:b.drop (b.length-(i+1))=c::b.drop (b.length-i):=by
   have r:b.length-(i+1)=b.length-1-i:=by lia
   have o:b.length-i=b.length-1-i+1:=by lia
   rw[r,o,af4 ⋯];congr 1;have:=aab.mp j;exact this.2
  rw[e];rfl
 ·rintro d f ⟨⟨k,rfl⟩,rfl⟩;rw[aaa,ahK,ahx];exact(5,q)
inductive Kg(vs:List V)(H:Hp)(Q:VK)(_e1:XK):Prop
 | mk (i:Int) (_:vs=[.int i]) (_:Q (.bl true) H)
theorem zf(T:Tx K mg a):aV P w K mg base T9 1 a.ad4 a.adw ["_law_found"] Kg:=by
 refine T.aej.F.Ub zV λc A b s H d Q E e h=>?_;obtain⟨i,rfl,q⟩:=h
 exists _,(au (aF (J0 (aJ lD rfl T.Ww Tw.b7 (My 0 (ak (pA (v:=.ty "int") rfl T.agp Tw.Qi rfl) aa))) (Lh (PQ (aJ lD rfl T.Ww Tw.b7 (My 0 (ak (pA (v:=.ty "bool") rfl T.agk Tw.Pj rfl) aa))))))))
 refine(5,_,"int",_,true,7,.int i,7,true,7,kE ?_)
 exact(5,_,"bool",_,false,7,.int i,7,false,7,q)
inductive yV(K:PySem.W.Frag)(vs:List V)(H:Hp)(Q:VK)(_e1:XK):Prop
 | mk (p:Addr) (ns:List Int) (_:vs=[.ref p]) (_:T6 K H p (ns.map V.int)) (_:ns.length<=4096) (_:aZ ns) (_:Q .non H)
theorem pN(T:Tx K mg a):aV P w K mg base T9 1 a.adL a.ada ["bits"] (yV K):=by
 refine T.ab6.F.Ub oY λn A f s H o Q E r h=>?_;obtain⟨p,g,rfl,e,t,m,q⟩:=h;refine(_,(aj (bh (aK lw (aJ aO rfl T.Ul Tw.bx (My 0 aa)) (bF (v:=.int 4096) rfl T.afw (_,7))) (au cz) aN)
  (au (bC PassesOwn.never rfl (bJ (pv 0)) (aP 1 oY.nd) (au (bh (PW.pt (jC (aK vA (pv 1) aq) (je (aK vA (pv 1) aq)))) (au cz) aN))))),8)
 refine(5,p,5,.inl e,2,5,bL (λc=>?_) λ_=>?_)
 ·have c:=of_decide_eq_true c;rw[aaa]at c;lia
 exists 5,p,7,(_,e);refine bU (xs:=g.map V.int) (λi b d=>(∃k,b=[some (.ref p),k])/\d=H) ((none,7),7) ?_ ?_ ?_
 ·rintro i b d _ ⟨_,rfl⟩;exact e
 ·rintro i x b d j ⟨⟨k,rfl⟩,rfl⟩;obtain⟨c,l,rfl⟩:=int_at j;rcases m c (aah l)with rfl|rfl
  ·exact(5,7,5,rN rfl (eF ((_,7),7)))
  ·refine(5,7,5,bL (λ_=>(5,7,5,rN rfl ((_,7),7))) λz=>absurd ?_ z);decide
 ·rintro b d ⟨_,rfl⟩;exact q
inductive Jy(K:PySem.W.Frag)(vs:List V)(H:Hp)(Q:VK)(_e1:XK):Prop
 | mk (p:Addr) (ns:List Int) (_:vs=[.ref p]) (_:T6 K H p (ns.map V.int)) (_:ns.length<=4096) (_:aZ ns) (_:∀r H',H r=none->aU H H'->H' r=some (.lst ((bB ns).map V.int))->Q (.ref r) H')
theorem JC(T:Tx K mg a):aV P w K mg base T9 2 a.afE a.ae1 ["bits"] (Jy K):=by
 refine T.afP.F.Ub Hn λG A r s H I Q E u h=>?_;obtain⟨p,b,rfl,n,x,B,q⟩:=h;refine(_,(aj (bc (aH T.ab6 (pN T) u (My 0 aa)))
  (au (aF (mO rfl (cu.one (j:=0) rfl (ahy rfl) rfl rfl (ahy rfl)) (Hv rfl T.Wx (ak aq (ak (aJ aO rfl T.Ul Tw.bx (My 0 aa)) (ak (bF (v:=.int 32) rfl T.Vr (_,7)) aa)))) (λ_ _ _ _=>fu) (λ_ _ _ _=>(aH T.aeR (Ay T) u (ak (cG (show Yv _ (R7 K)from jZ) (pv 1) (cO (pv 0)) (cO (aB aX (pv 0) (bF (v:=.int 32) rfl T.Vr (_,7))))) aa))))))),8)
 exists 5,p,b,7,n,x,B;exists 5,p,5,.inl n,(b.map V.int).length,7,8
 ·rw[aaa];exact aha x ∅
 rw[aaa];intro D o;exists λi m k g=>m=many b.length-i/\i<=many b.length/\k=((agq i).map (cL b)).map V.int/\aU H g/\g D=some (.lst k),(5,aaD _,7,az o _,ao);rintro i m k g ⟨rfl,J,rfl,l,d⟩;by_cases c:i<many b.length
 ·refine .inr (c,λv M y=>?_);obtain⟨rfl,rfl⟩:=y;unfold Kc;refine kE ?_;refine(6,6,2,5,p,5,l.seq n,λt f=>?_);have C:(0:Int)+(i:Int)*32=((32*i:Nat):Int):=by lia
  have L:(0:Int)+(i:Int)*32+32=((32*i+32:Nat):Int):=by lia
  rw[C,show ((32*i:Nat):Int)+32=((32*i+32:Nat):Int)from by lia,Pk,agB];exists t,5,T6.of ao;have z:D≠t:=aD d f;refine(by rw[aG z];exact d,8,many b.length-(i+1),9,7,c,8,bT (l.trans (az f _)) o _,ao)
  ·rw[aaa,aaa,agA];unfold many at c;exact small ⋯
  ·rw[agL,aaj,aaj];rfl
 ·have e:i=many b.length:=by lia
  subst e;exact .inl (aac _,q D g o l d)
inductive CJ(K:PySem.W.Frag)(vs:List V)(H:Hp)(Q:VK)(_e1:XK):Prop
 | mk (p:Addr) (bs:List Int) (_:vs=[.ref p]) (_:T6 K H p (bs.map V.int)) (_:bs.length<=4096) (_:∀r H',H r=none->aU H H'->H' r=some (.tup ((aheads bs bs.length).map V.int))->Q (.ref r) H')
theorem By(T:Tx K mg a):aV P w K mg base T9 4 a.aeA a.adQ ["blocks"] (CJ K):=by
 refine T.aeS.F.Ub lB λC A o s H D Q E B h=>?_;obtain⟨p,j,rfl,u,m,q⟩:=h;refine(_,(aj (aA 1 lB.nd (bQ (ak aq aa)))
  (aj (bC PassesOwn.never rfl (bJ (pv 0)) (aP 2 lB.nd) (au (bc (gn PySem.F.plainAttrs_list PySem.F.slot_list_append PySem.F.type_list_append bN (pv 1) (ak (aB aX (aW lg (pv 1) (gB dh aq)) (aH T.ad9 (wC T) B (My 2 (ak (bF (v:=.int 32) rfl T.Vr (_,7)) aa)))) aa)))))
  (au (aF (cV gk rfl T.Y4 Tw.oW (My 1 aa)))))),8)
 refine((by show 1<=sizeLine;decide),λr d=>?_);exists 5,p,7,(_,(az d _).seq u);refine bU (xs:=j.map V.int) (λi g f=>(∃k,g=[some (.ref p),some (.ref r),k])/\aU H f/\f r=some (.lst ((aheads j i).map V.int))) ?_ ?_ ?_ ?_
 ·exact((none,7),az d _,ao)
 ·rintro i g f _ ⟨_,e,_⟩;exact e.seq u
 ·rintro i x g f z ⟨⟨k,rfl⟩,e,c⟩;obtain⟨b,t,rfl⟩:=int_at z;have G:=(aab.mp t).1;have n:Ux ((aheads j i).map V.int) (-1)=some (.int (jr j i)):=by
   rw[Bj,aaj];exact lE _ _
  refine(5,.inl (7,_,T6.of c),6,r,_,2,T6.of c,n,5,b,32,7,4,4,λI y=>(2,r,2,y _ _ c,8,(_,7),bT (e.trans y) d _,8))
  ·rw[aaa,xm];exact small ⋯
  ·rw[ao,Dl,aaj,rP t];rfl
 ·rintro g f ⟨⟨k,rfl⟩,e,c⟩;rw[aaa]at c;exact(5,r,5,.inl (T6.of c,λl m=>q l _ (e.free m) (e.trans (az m _)) ao))
inductive Fq(vs:List V)(H:Hp)(Q:VK)(_e1:XK):Prop
 | mk (b n:Int) (_:vs=[.int b,.int n]) (_:0<=n) (_:n<=32) (_:∀r H',H r=none->aU H H'->H' r=some (.lst ((nets b n.toNat).map V.int))->Q (.ref r) H')
theorem vf(T:Tx K mg a):aV P w K mg base T9 3 a.ae6 a.aew ["block","upto"] Fq:=by
 refine T.aea.F.Ub iQ λI A t s H J Q E z h=>?_;obtain⟨b,n,rfl,D,C,q⟩:=h;refine(_,(aj (aA 2 iQ.nd (bQ aa))
  (aj (aA 3 iQ.nd aq)
  (aj (bC PassesOwn.never rfl (bJ (aH T.YQ (oh T) z (My 0 (My 1 aa)))) (aP 4 iQ.nd) (aj (aA 3 iQ.nd (aB bz (aB aX (pv 3) (aB cI aq (pv 4))) aq))
  (au (bc (gn PySem.F.plainAttrs_list PySem.F.slot_list_append PySem.F.type_list_append bN (pv 2) (My 3 aa))))))
  (au (aF (pv 2)))))),8)
 refine((by show 0<=sizeLine;decide),λr f=>?_);refine(6,b,n,7,D,C,λp v=>(p,7,(_,T6.of ao),8));have u:r≠p:=aD ao v;refine bU (xs:=(bits b n.toNat).map V.int) (λi j e=>(∃k,j=[some (.int b),some (.int n),some (.ref r),some (.int (net b i)),k])/\aU H e/\e r=some (.lst ((nets b i).map V.int))/\e p=some (.lst ((bits b n.toNat).map V.int))) ?_ ?_ ?_ ?_
 ·refine((none,by rw[KN];rfl),(az f _).trans (az v _),8,ao);rw[aG u,ao];rfl
 ·rintro i j e _ ⟨_,_,_,o⟩;exact T6.of o
 ·rintro i x j e y ⟨⟨k,rfl⟩,l,d,g⟩;obtain⟨c,m,rfl⟩:=int_at y;have B:i<n.toNat:=by
   have:=(aab.mp m).1;rw[gF]at this;exact this
  have G:c=bit b i:=by
   rw[uQ B]at m;exact(aax m).symm
  subst G;exists 6,2,.inl (4,4),2,2;exists 5,.inl (7,_,T6.of d),5,r,2,d,?_
  ·rw[aaa,jg];exact small ⋯
  ·exists (some (.int (bit b i)),by rw[An];rfl),bT l f _,?_
   ·rw[ao,JD,An,aaj];rfl
   ·rw[aG (agG u)];exact g
 ·rintro j e ⟨⟨k,rfl⟩,l,d,g⟩;rw[aaa,gF]at d;exact(5,q r e f l d)
inductive Jq(vs:List V)(H:Hp)(Q:VK)(_e1:XK):Prop
 | mk (b n:Int) (_:vs=[.int b,.int n]) (_:1<=n) (_:n<=32) (_:∀M H',Mw M (nets b n.toNat)->aU H H'->Q (.int M) H')
theorem Im(T:Tx K mg a):aV P w K mg base T9 4 a.afH a.ae7 ["block","upto"] Jq:=by
 refine T.afR.F.Ub Ih λk A c s H l Q E e h=>?_;obtain⟨b,n,rfl,o,g,q⟩:=h;exists _,(au (aF (O6 rfl rfl T.YZ (ak (aH T.aea (vf T) e (My 0 (My 1 aa))) aa) aq Tw.zc)));refine(6,b,n,7,9,g,λp j m d i=>(p,5,T6.of i,8,λM f=>q M j f d));rw[jg];lia
inductive wj(vs:List V)(H:Hp)(Q:VK)(_e1:XK):Prop
 | mk (b:Int) (st sp:Nat) (g:Int) (_:vs=[.int b,.int (st:Int),.int (sp:Int),.int g]) (_:sp<=32) (_:(∀H' (k:Nat),aU H H'->Due b st sp g k->(∀j,Due b st sp g j->j<=k)->Q (.int (k:Int)) H')) (_:∀H',aU H H'->(∀k,¬Due b st sp g k)->Q .non H')
theorem vo(T:Tx K mg a):aV P w K mg base T9 4 a.aco a.abK ["block","start","stop","goal"] wj:=by
 refine T.acL.F.Ub dq λa2 A O s H vs Q E Z h=>?_;obtain⟨b,o,m,g,rfl,a0,W,U⟩:=h;refine(_,(aj (aA 4 dq.nd jn)
  (aj (bC PassesOwn.never rfl (KZ rfl T.X8 (ak (aH T.aea (vf T) Z (My 0 (My 2 aa))) aa) aq) (iT rfl (bA (aP 5 dq.nd) (bA (aP 6 dq.nd) fB))) (au (bh (PW.pt (jC (aK lw (pv 5) (pv 1)) (je (aK mD (pv 6) (pv 3))))) (au (aA 4 dq.nd (pv 5))) aN)))
  (au (aF (pv 4))))),8)
 refine(6,b,(m:Int),7,9,9,λr S a1 R N=>?_);rw[abG]at N;exists r,5,7,T6.of N;refine HQ (xs:=(nets b m).map V.int) (λi D B=>∃f,(∃k n,D=[some (.int b),some (.int (o:Int)),some (.int (m:Int)),some (.int g),some f,k,n])/\aU S B /\
  ((f=.non /\ ∀j,j<=i -> ¬Due b o m g j) \/ ∃k:Nat,f=.int (k:Int)/\k<=i/\Due b o m g k /\ ∀j,j<=i->Due b o m g j->j<=k)) ?_ ?_ ?_ ?_
 ·exact(.non,(none,none,7),aU.refl _,.inl (7,λj G d=>by have:=d.1;lia))
 ·rintro i D B _ ⟨_,_,u,_⟩;exact T6.of (u _ _ N)
 ·rintro i x D B p Y ⟨f,⟨k,n,rfl⟩,u,I⟩ hp;obtain⟨c,M,rfl⟩:=int_at Y;have hi:i<m:=by
   have:=(aab.mp M).1;rw[jg]at this;exact this
  have ec:c=net b (i+1):=by
   rw[K7 hi]at M;exact(aax M).symm
  subst ec;have t:aU S (upd B p (.tup [.int ((i+1:Nat):Int),.int (net b (i+1))])):=u.trans (az hp _);have C:¬Due b o m g (i+1)->(f=.non /\ ∀j,j<=i+1 -> ¬Due b o m g j) \/ ∃k:Nat,f=.int (k:Int)/\k<=i+1/\Due b o m g k /\ ∀j,j<=i+1->Due b o m g j->j<=k:=λh=>by
   rcases I with ⟨e,J⟩|⟨k,e,X,d,L⟩
   ·refine .inl (e,λj G=>?_);rcases aay i j with l|l
    ·have:j=i+1:=by lia
     subst this;exact h
    ·exact J j l
   ·refine .inr (k,e,9,d,λj G v=>?_);rcases aay i j with l|l
    ·have:j=i+1:=by lia
     subst this;exact absurd v h
    ·exact L j l v
  exists p,5,T8.of ao,7,_,5,2;refine(6,2,5,bL (λy=>?_) λy=>?_)
  ·have y:=of_decide_eq_true y;refine(6,2,5,bL (λq=>?_) λq=>?_)
   ·have q:=of_decide_eq_true q;exact(5,_,(_,5),t,.inr (i+1,7,aac _,(9,9,q),λj G _=>G))
   ·have q:¬net b (i+1)<=g:=λz=>q (decide_eq_true z);exact(f,(_,5),t,C λd=>q d.2.2)
  ·have y:¬(o:Int)<((i+1:Nat):Int):=λz=>y (decide_eq_true z);exact eF (f,(_,5),t,C λd=>by have:=d.1;lia)
 ·rintro D B ⟨f,⟨k,n,rfl⟩,u,I⟩;rw[aaa,jg]at I;exists 5;rcases I with ⟨rfl,J⟩|⟨k,rfl,X,d,L⟩
  ·exact U _ (R.trans u) λk d=>J k d.2.1 d
  ·exact W _ k (R.trans u) d λj v=>L j v.2.1 v
inductive EY(vs:List V)(H:Hp)(Q:VK)(_e1:XK):Prop
 | mk (n:Nat) (_:vs=[.int (n:Int)]) (_:n<=100000) (_:∀S,jx n S->Q (.int (S:Int)) H)
theorem kZ(T:Tx K mg a):aV P w K mg base T9 1 a.ae9 a.aey ["many"] EY:=by
 refine T.X4.F.Ub oA λo A d s H p Q E r h=>?_;obtain⟨n,rfl,u,q⟩:=h;refine(_,(aj (aA 1 oA.nd aq)
  (aj (o5 PassesOwn.never (aK jh (pv 1) (pv 0)) (au (aA 1 oA.nd (aB cI aq (pv 1)))))
  (au (aF (pv 1))))),8)
 exists λm f g=>∃h:Nat,f=[some (.int (n:Int)),some (.int ((2^h:Nat):Int))]/\g=H/\m=n-2^h /\ ∀j,j<h->2^j<n,(_,0,7,7,7,λj b=>absurd b (ahJ _));rintro m f g ⟨h,rfl,rfl,rfl,b⟩;refine(6,2,5,bL (λc=>?_) λc=>?_)
 ·have c:((2^h:Nat):Int)<(n:Int):=of_decide_eq_true c;have t:0<2^h:=agH h;refine(_,λ i v z=>z,5,2,.inl (4,4),n-2^(h+1),by rw[agU];lia,h+1,8,7,7,λj k=>?_)
  ·have e:(2:Int)*((2^h:Nat):Int)=((2^(h+1):Nat):Int):=by rw[agU];lia
   rw[<-e];rfl
  ·rcases aay j h with l|l
   ·exact b j l
   ·have:j=h:=by lia
    subst this;lia
 ·have c:¬((2^h:Nat):Int)<(n:Int):=λz=>c (decide_eq_true z);exact(5,q (2^h) (h,7,9,b))
abbrev nats(l:List Nat):List V:=l.map λn:Nat=>V.int (n:Int)
inductive qT(C:Addr)(vs:List V)(H:Hp)(Q:VK)(E:XK):Prop
 | mk (n st sp:Int) (_:vs=[.int n,.int st,.int sp]) (_:((0<=st/\st<=sp/\sp<=n/\Q .non H)\/(¬(0<=st/\st<=sp/\sp<=n)/\E (.ref C) none H)))
theorem jO(T:Tx K mg a):aV P w K mg base (U9 P w) 1 a.abe a.aa2 ["many","start","stop"] (qT a.Uo):=by
 refine T.aaI.F.ok1 qy (λj H Q E h=>?_) (λo A i s H j Q E p h=>?_)
 ·obtain⟨n,b,c,rfl,_⟩:=h;rfl
 obtain⟨n,b,c,rfl,h⟩:=h;exists _,(au (bh (fX (Ho mD mD mD aq (pv 1) (pv 2) (pv 0))) (au (uD T.aen rfl (ak oG aa))) aN));rcases h with ⟨m,l,k,q⟩|⟨d,e⟩
 rotate_left
 ·refine(5,2,5,bL (λg=>?_) λg=>(5,kE ((by show 1<=sizeLine;decide),e)));have g:(0:Int)<=b:=of_decide_eq_true g;refine(5,2,5,bL (λf=>?_) λf=>(5,kE ((by show 1<=sizeLine;decide),e)));have f:b<=c:=of_decide_eq_true f;exists 5,2,5;rw[decide_eq_false (show ¬c<=n from λz=>d (g,f,z))];exact kE ((by show 1<=sizeLine;decide),e)
 refine(5,2,5,bL (λ_=>?_) λz=>absurd (decide_eq_true (show (0:Int)<=b from m)) z);refine(5,2,5,bL (λ_=>?_) λz=>absurd (decide_eq_true (show b<=c from l)) z);exists 5,2,5;rw[decide_eq_true (show c<=n from k)];exact eF q
inductive Km(vs:List V)(H:Hp)(Q:VK)(_e1:XK):Prop
 | mk (many st sp:Nat) (_:vs=[.int (many:Int),.int (st:Int),.int (sp:Int)]) (_:st<=sp) (_:sp<=many) (_:many<=4096) (_:∀S r H',jx many S->H r=none->aU H H'->H' r=some (.lst (nats (cover S st sp)))->Q (.ref r) H')
theorem Mr(h:n<i):(i-i%2) / 2-(n+n%2) / 2<i-n:=by lia
theorem QG{f:Nat}(h:n<i)(b:i-n<=f+1):(i-i%2) / 2-(n+n%2) / 2<=f:=Nat.le_of_lt_succ (aak (Mr h) b)
theorem Ly(T:Tx K mg a):aV P w K mg base T9 2 a.afX a.afI ["many","start","stop"] Km:=by
 refine T.afZ.F.Ub dJ λa8 A a3 s H vs Q E hr h=>?_;obtain⟨n,u,x,rfl,h1,h2,h3,q⟩:=h;refine(_,(aj (bc (eQ T.aaI (jO T) ∅ hr Az rfl (My 0 (My 1 (My 2 aa)))))
  (aj (aA 3 dJ.nd (aH T.X4 (kZ T) hr (My 0 aa)))
  (aj (aA 4 dJ.nd (aB aX (pv 3) (pv 1)))
  (aj (aA 5 dJ.nd (aB aX (pv 3) (pv 2)))
  (aj (aA 6 dJ.nd (bQ aa))
  (aj (aA 7 dJ.nd (bQ aa))
  (aj (o5 PassesOwn.never (aK jh (pv 4) (pv 5)) (aj (bh (aK dR (aB bZ (pv 4) aq) aq) (aj (bc (gn PySem.F.plainAttrs_list PySem.F.slot_list_append PySem.F.type_list_append bN (pv 6) (My 4 aa)))
  (au (aA 4 dJ.nd (aB aX (pv 4) aq)))) aN)
  (aj (bh (aK dR (aB bZ (pv 5) aq) aq) (aj (aA 5 dJ.nd (aB bz (pv 5) aq))
  (au (bc (gn PySem.F.plainAttrs_list PySem.F.slot_list_append PySem.F.type_list_append bN (pv 7) (My 5 aa))))) aN)
  (aj (aA 4 dJ.nd (aB cj (pv 4) aq))
  (au (aA 5 dJ.nd (aB cj (pv 5) aq)))))))
  (au (aF (aB nY (pv 6) (Fo rfl rfl T.Yb Tw.pZ rfl T.Y0 Tw.jc (My 7 aa)))))))))))),8)
 refine(6,5,n,u,x,7,.inl (9,9,9,8));refine(5,n,7,9,λS hS=>?_);exists 6,2;exists 6,2;refine((by show 0<=sizeLine;decide),λp G=>?_);refine((by show 0<=sizeLine;decide),λk D=>?_);have B:p≠k:=aD ao D;have N:=(az G (.lst [])).free D;have a0:=(az G (.lst [])).trans (az D (.lst []));have a7:=hS.le h3;refine(λm I W=>∃(e b f:Nat) (o j:List Nat),I=[some (.int (n:Int)),some (.int (u:Int)),some (.int (x:Int)),some (.int (S:Int)),some (.int (e:Int)),some (.int (b:Int)),some (.ref p),some (.ref k)]/\m=b-e/\aU H W/\W p=some (.lst (nats o))/\W k=some (.lst (nats j))/\b-e<=f/\Cy f e b o j=cover S u x/\o.length+j.length+2*f<=20000,
  (_,S+u,S+x,x-u,[],[],7,7,a0,by rw[aG B,ao];rfl,ao,9,7,by simp;lia),8)
 rintro m I W ⟨e,b,f,o,j,rfl,rfl,O,R,C,hf,y,hz⟩;refine(6,2,5,bL (λc=>?_) λc=>?_)
 ·have c:(e:Int)<(b:Int):=of_decide_eq_true c;obtain⟨f,rfl⟩:∃g,f=g+1:=(f-1,9);unfold Cy at y;rw[if_pos ⋯]at y;exists _,λ a6 M z=>z;exists 5,2,(by show (0:Int)<2;decide),7,5;refine GR (λ I M=>∃(J:List Nat),I=[some (.int (n:Int)),some (.int (u:Int)),some (.int (x:Int)),some (.int (S:Int)),some (.int ((e+e%2:Nat):Int)),some (.int (b:Int)),some (.ref p),some (.ref k)]/\J=(if e%2=1 then o++[e]else o)/\aU H M/\M p=some (.lst (nats J))/\M k=some (.lst (nats j))) (λd=>?_) ?_ (λd m=>?_)
  ·have d:¬(e:Int)%2=1:=λz=>d (decide_eq_true (congrArg V.int z));refine(o,8,by rw[if_neg ⋯],O,R,C);rw[show e+e%2=e from by lia]
  rotate_left
  ·have d:V.int ((e:Int)%2)=V.int 1:=of_decide_eq_true d;injection d with d
   exists 5,.inl (7,_,T6.of R),5,p,2,R,?_
   ·rw[aaa,sizeLine_eq];lia
   refine(5,2,m _ _ (o++[e],8,by rw[if_pos ⋯],bT O G _,8,8))
   ·rw[show ((e+e%2:Nat):Int)=(e:Int)+1 from by lia];rfl
   ·rw[ao];unfold nats;rw[aaj];rfl
   ·rw[aG B.symm];exact C
  rintro a5 M ⟨J,rfl,Z,UL,t,i⟩;exists 5,2,(by show (0:Int)<2;decide),7,5;refine GR (λ I U=>∃(L:List Nat),I=[some (.int (n:Int)),some (.int (u:Int)),some (.int (x:Int)),some (.int (S:Int)),some (.int ((e+e%2:Nat):Int)),some (.int ((b-b%2:Nat):Int)),some (.ref p),some (.ref k)]/\L=(if b%2=1 then j++[b-1]else j)/\aU H U/\U p=some (.lst (nats J))/\U k=some (.lst (nats L))) (λd=>?_) ?_ (λd m=>?_)
  ·have d:¬(b:Int)%2=1:=λz=>d (decide_eq_true (congrArg V.int z));refine(j,8,by rw[if_neg ⋯],UL,t,i);rw[show b-b%2=b from by lia]
  rotate_left
  ·have d:V.int ((b:Int)%2)=V.int 1:=of_decide_eq_true d;injection d with d
   exists 5,2;refine(5,.inl (7,_,T6.of i),5,k,2,i,8,m _ _ (j++[b-1],8,by rw[if_pos ⋯],bT UL N _,8,8))
   ·rw[aaa,sizeLine_eq];lia
   ·rw[show ((b-b%2:Nat):Int)=(b:Int)-1 from by lia];rfl
   ·rw[aG B];exact t
   ·rw[ao];unfold nats;rw[aaj];exact congrArg (λv=>some (HO.lst (j.map (λn:Nat=>V.int (n:Int))++[v]))) (congrArg V.int (show (b:Int)-1=((b-1:Nat):Int)from by lia))
  rintro a4 U ⟨L,rfl,Y,a1,a2,XQ⟩;rw[<-Z,<-Y]at y;have z2:J.length<=o.length+1:=by
   rw[Z];split<;>simp
  have z3:L.length<=j.length+1:=by
   rw[Y];split<;>simp
  exists 5,2,(4,4);refine(5,2,(4,4),(b-b%2) / 2-(e+e%2) / 2,Mr (ajD.mp c),(e+e%2) / 2,(b-b%2) / 2,f,J,L,8,7,a1,a2,XQ,QG (ajD.mp c) hf,y,by clear y Z Y hf;lia);rw[show (((e+e%2) / 2:Nat):Int)=((e+e%2:Nat):Int) / 2 from by lia,show (((b-b%2) / 2:Nat):Int)=((b-b%2:Nat):Int) / 2 from by lia];rfl
 ·have c:¬(e:Int)<(b:Int):=λz=>c (decide_eq_true z);rw[Kz ⋯]at y;refine(6,k,5,T6.of C,λl t=>?_);have X:=az t (.lst (nats j).reverse);refine(p,l,2,X _ _ R,ao,8,λr i=>?_)
  ·rw[agQ,aaa,aaa,sizeLine_eq];lia
  refine q S r _ hS ((O.trans X).free i) (O.trans (X.trans (az i _))) ?_;rw[ao,<-y];unfold nats;rw[aaj,aht]
inductive IK(vs:List V)(H:Hp)(Q:VK)(_e1:XK):Prop
 | mk (x y:V) (_:vs=[x,y]) (_:NI x) (_:NI y) (_:Q (yH x y) H)
theorem Ah(T:Tx K mg a):aV P w K mg base T9 1 a.adO a.adb ["one","other"] IK:=by
 refine T.aeb.F.Ub zK λe A b s H f Q E g h=>?_;obtain⟨x,y,rfl,d,c,q⟩:=h;refine(_,(aj (bh (jY (nF (pv 0))) (au (aF (pv 1))) aN)
  (aj (bh (jY (nF (pv 1))) (au (aF (pv 0))) aN)
  (au (aF (aJ (rJ rfl) rfl T.YZ Tw.zc (My 0 (My 1 aa))))))),8)
 rcases d with rfl|⟨i,rfl⟩
 ·rw[yg]at q;exact(6,kE (5,q))
 refine(6,eF ?_);rcases c with rfl|⟨j,rfl⟩
 ·exact(6,kE (5,q))
 exact(6,eF (6,i,j,7,q))
inductive DP(K:PySem.W.Frag)(vs:List V)(H:Hp)(Q:VK)(E:XK):Prop
 | mk (p:Addr) (ns:List Int) (_:vs=[.ref p]) (_:T6 K H p (ns.map V.int)) (_:ns.length<=4096) (_:∀S r H' xs,jx ns.length S->H r=none->aU H H'->H' r=some (.lst xs)->ju ns S 1 xs->Q (.ref r) H')
theorem Fg(T:Tx K mg a):aV P w K mg base T9 2 a.ae8 a.aex ["numbers"] (DP K):=by
 refine T.afo.F.Ub kY λa3 A R s H vs Q E hr h=>?_;obtain⟨p,b,rfl,o,hl,q⟩:=h;refine(_,(aj (bh (aK lw (aJ aO rfl T.Ul Tw.bx (My 0 aa)) (bF (v:=.int 4096) rfl T.aes (_,7))) (au cz) aN)
  (aj (aA 1 kY.nd (aH T.X4 (kZ T) hr (ak (aJ aO rfl T.Ul Tw.bx (My 0 aa)) aa)))
  (aj (aA 2 kY.nd (aB nY (aB nY (aB Af (bQ (ak jn aa)) (pv 1)) (cV j7 rfl T.Yb Tw.pZ (My 0 aa))) (aB Af (bQ (ak jn aa)) (aB bz (pv 1) (aJ aO rfl T.Ul Tw.bx (My 0 aa))))))
  (aj (bC PassesOwn.never rfl (Ga rfl T.Wx (ak (aB bz (pv 1) aq) (ak aq (ak (gB dh aq) aa)))) (aP 3 kY.nd) (au (Ln (aH T.aeb (Ah T) hr (ak (aW lg (pv 2) (aB cI aq (pv 3))) (ak (aW lg (pv 2) (aB aX (aB cI aq (pv 3)) aq)) aa))) (Rc (pv 2) (pv 3) set_list))))
  (au (aF (pv 2))))))),8)
 have u:(b.map V.int).length=b.length:=aaa ..;refine(5,p,5,.inl o,2,5,bL (λz=>?_) λ_=>?_)
 ·have z:(4096:Int)<((b.map V.int).length:Int):=of_decide_eq_true z;lia
 refine(5,p,5,.inl o,b.length,8,9,λS x=>?_)
 ·rw[u];rfl
 have O:=x.pos;have a2:=x.le hl;have J:b.length<=S:=by
  obtain⟨_,_,z,_⟩:=x;exact z
 refine G8 (t:=Lg (tC .non) R8) (σ:=[some (.ref p),some (.int (S:Int)),none,none]) (i:=1) (k:=(S:Int)) (xs:=[.non]) (λQ' q=>q) rfl ⋯ ∅ ⋯ λp1 H1 a1 Z U=>?_;refine(5,p,5,.inl (Z.seq o),λl2 M=>?_);have Y:=az M (.lst (b.map V.int));have e1:(aaA (S:Int).toNat [V.non]).flatten=aaA S V.non:=by
  rw[abG];simp
 rw[e1]at U;refine(p1,l2,2,Y _ _ U,ao,8,λp3 I=>?_)
 ·rw[u,aba,sizeLine_eq];lia
 have s3:=az I (.lst (aaA S V.non++b.map V.int));refine((by show 1<=sizeLine;decide),λl4 L=>?_);have X:=az L (.lst [.non]);have j:=Z.trans (Y.trans (s3.trans X));refine(6,p,5,.inl (j.seq o),2,l4,((S-b.length:Nat):Int),[.non],7,8,ao,9,9,8,λp5 G=>?_)
 ·show V.int ((S:Int)-((b.map V.int).length:Int))=_;rw[u];exact congrArg V.int ⋯
 ·rw[sizeLine_eq];show 1*_<=_;lia
 have e5:(aaA ((S-b.length:Nat):Int).toNat [V.non]).flatten=aaA (S-b.length) V.non:=by
  rw[abG];simp
 rw[e5];have W:=az G (.lst (aaA (S-b.length) V.non));refine(p3,p5,2,W _ _ (X _ _ ao),ao,8,λr m=>?_)
 ·rw[aae,u,aba,aba,sizeLine_eq];lia
 have g:=j.trans W;have l:=g.free m;have s6:=g.trans (az m (.lst (aaA S V.non++b.map V.int++aaA (S-b.length) V.non)));refine(5,2,5,S-1,0,8,9,9,8)
 ·rw[show ((S-1:Nat):Int)=(S:Int)-1 from by lia];rfl
 refine CN (n:=S-1-0) (λi y f=>(∃C,y=[some (.ref p),some (.int (S:Int)),some (.ref r),C])/\aU H f /\ ∃c,f r=some (.lst c)/\ju b S (S-i) c) ((none,7),s6,_,ao,ju.start O J) ?_ ?_
 ·rintro i y f hi ⟨⟨C,rfl⟩,B,c,d,e⟩;obtain⟨k,rfl⟩:∃k,S=k+i+1:=(S-i-1,9);have D:((k+i+1-1:Nat):Int)+(i:Int)*(-1)=(k:Int):=by lia
  rw[show k+i+1-i=k+1 from by lia]at e;have a0:=e.len;have hx:c[2*k]?=some c[2*k]:=aad ⋯;have hy:c[2*k+1]?=some c[2*k+1]:=aad ⋯;have ha:Ux c (2*(((k+i+1-1:Nat):Int)+(i:Int)*(-1)))=some c[2*k]:=by
   rw[D,show 2*(k:Int)=((2*k:Nat):Int)from by lia];exact GX hx
  have hb:Ux c (2*(((k+i+1-1:Nat):Int)+(i:Int)*(-1))+1)=some c[2*k+1]:=by
   rw[D,show 2*(k:Int)+1=((2*k+1:Nat):Int)from by lia];exact GX hy
  have N:VD c.length (((k+i+1-1:Nat):Int)+(i:Int)*(-1))=some k:=by
   rw[D];exact Pa ⋯
  exists 6,2,.inl (4,4),r,_,2,T6.of d,ha;exists 6,2,.inl (4,4),2,r,_,2,T6.of d,hb;exists _,5,e.ni _ (acV _),e.ni _ (acV _);exists 6,r,1,k,7,7,d,N,(_,7),bT B l _,_,ao;rw[show k+i+1-(i+1)=k from by lia];exact e.step ⋯ ⋯ hx hy
 ·rintro y f ⟨⟨C,rfl⟩,B,c,d,e⟩;rw[show S-(S-1-0)=1 from by lia]at e;exact(5,q S r f c x l B d e)
inductive Ef(K:PySem.W.Frag)(vs:List V)(H:Hp)(Q:VK)(_e1:XK):Prop
 | mk (p:Addr) (ns:List Int) (_:vs=[.ref p]) (_:T6 K H p (ns.map V.int)) (_:∀b H',(b=true ↔ Tree ns)->aU H H'->Q (.bl b) H')
theorem Ds(T:Tx K mg a):aV P w K mg base T9 1 a.afc a.aeC ["bits"] (Ef K):=by
 refine T.afp.F.Ub iC λL A v s H M Q E O h=>?_;obtain⟨p,d,rfl,u,q⟩:=h;refine(_,(aj (aA 1 iC.nd aq)
  (aj (bC PassesOwn.never rfl (ud rfl T.X8 (My 0 aa)) (iT rfl (bA (aP 2 iC.nd) (bA (aP 3 iC.nd) fB))) (aj (bh (PW.pt (jC (aK lw (pv 2) aq) (je (aK mD (pv 1) aq)))) (au (aF iz)) aN)
  (au (aA 1 iC.nd (aB bz (aB aX (pv 1) (aB cI aq (pv 3))) aq)))))
  (au (aF (J0 (uq Ax (aJ aO rfl T.Ul Tw.bx (My 0 aa)) aq) (Lh (uq dR (pv 1) aq))))))),8)
 exists 5,p,5,u;refine uE (xs:=d.map V.int) (λi o f=>(∃j g,o=[some (.ref p),some (.int (ht d i)),j,g])/\aU H f /\ ∀k,0<k->k<i->0<ht d k) ((none,none,by rw[gh];rfl),aU.refl _,λk _ h=>absurd h (ahJ _)) ?_ ?_ ?_
 ·rintro i o f _ ⟨_,e,_⟩;exact e.seq u
 ·rintro i x o f y G ⟨⟨j,g,rfl⟩,e,r⟩ J;obtain⟨b,C,rfl⟩:=int_at G;have I:=(aab.mp C).1;have n:=e.trans (az J (.tup [.int (i:Int),.int b]));exists y,5,T8.of ao,7,_,5,2;have D:(0<i->0<ht d i)->(∃j g,[some (V.ref p),some (.int (ht d i+2*b-1)),some (.int (i:Int)),some (.int b)]=[some (.ref p),some (.int (ht d (i+1))),j,g])/\aU H (upd f y (.tup [.int (i:Int),.int b])) /\ ∀k,0<k->k<i+1->0<ht d k:=λh=>
   ((1,by rw[pM C]),n,λk B N=>by
    rcases aay k i with l|l
    ·exact r k B l
    ·have:k=i:=by lia
     subst this;exact h B)
  refine(5,2,5,bL (λc=>?_) λc=>?_)
  ·have c:(0:Int)<(i:Int):=of_decide_eq_true c;refine(5,2,5,bL (λm=>?_) λm=>?_)
   ·have m:ht d i<=0:=of_decide_eq_true m;exact q false _ (λz=>absurd z aal,λt=>by have:=t.2.2 i ⋯ I;lia) n
   ·have m:¬ht d i<=0:=λz=>m (decide_eq_true z);exact(6,2,.inl (4,4),2,2,D λ_=>by lia)
  ·have c:¬(0:Int)<(i:Int):=λz=>c (decide_eq_true z);refine eF ?_;exact(6,2,.inl (4,4),2,2,D λz=>by lia)
 ·rintro o f ⟨⟨j,g,rfl⟩,e,r⟩;rw[aaa]at r ⊢;refine(5,p,5,.inl (e.seq u),2,5,bL (λc=>?_) λc=>?_)
  ·have c:(2:Int)<=((d.map V.int).length:Int):=of_decide_eq_true c;rw[aaa]at c;exists 5,7;refine q _ f ?_ e;rw[decide_eq_true_iff];exact(λz=>(9,V.int.inj z,r),λt=>congrArg V.int t.2.1)
  ·have c:¬(2:Int)<=((d.map V.int).length:Int):=λz=>c (decide_eq_true z);rw[aaa]at c;exact q false f (λz=>absurd z aal,λt=>by have:=t.1;lia) e
structure Tab(H:Hp)(t ah:Addr)(ns:List Int)(rest:List V):Prop where
 tup:H t=some (.tup (.int (ns.length:Int)::.ref ah::rest))
 Vb:H ah=some (.tup ((Uv ns (many ns.length)).map V.int))
 few:rest.length<=1
theorem Tab.same{H':Hp}{t :Addr}(h:Tab H t f d j)(s:aU H H'):Tab H' t f d j:=(s _ _ h.tup,s _ _ h.Vb,h.few)
theorem uf(x y:V):∀rest:List V,rest.length<=1->Ux (x::y::rest) 0=some x
 |[],_=>rfl
 |[_],_=>rfl
 |_::_::_,h=>absurd h (by simp)
theorem pB(x y:V):∀rest:List V,rest.length<=1->Ux (x::y::rest) 1=some y
 |[],_=>rfl
 |[_],_=>rfl
 |_::_::_,h=>absurd h (by simp)
theorem Mq{n j:Nat}(h:j<=n):Ux ((Uv d n).map V.int) (j:Int)=some (.int (d.take (32*j)).sum):=pR (o8 h)
inductive CT(K:PySem.W.Frag)(vs:List V)(H:Hp)(Q:VK)(_e1:XK):Prop
 | mk (p:Addr) (ns:List Int) (_:vs=[.ref p]) (_:T6 K H p (ns.map V.int)) (_:ns.length<=4096) (_:aZ ns) (_:∀r b t ah H',H b=none->aU H H'->H' r=some (.tup [.ref t,.ref b])->Tab H' t ah ns []->H' b=some (.lst ((bB ns).map V.int))->Q (.ref r) H')
theorem lX(T:Tx K mg a):aV P w K mg base T9 5 a.aez a.adP ["bits"] (CT K):=by
 refine T.YT.F.Ub rQ λz A i s H B Q E j h=>?_;obtain⟨p,c,rfl,l,x,k,q⟩:=h;refine(_,(aj (aA 1 rQ.nd (aH T.afP (JC T) j (My 0 aa)))
  (au (aF (b8 (ak (b8 (ak (aJ aO rfl T.Ul Tw.bx (My 0 aa)) (ak (aH T.aeS (By T) j (My 1 aa)) aa))) (My 1 aa)))))),8)
 refine(5,p,c,7,l,x,k,λb G g u n=>?_);refine(5,p,5,.inl (u.seq l),5,b,bB c,7,T6.of n,8,λo D C v m=>?_)
 ·rw[bD];unfold many;lia
 rw[zZ k]at m;have y:(c.map V.int).length=c.length:=aaa ..;rw[y];refine((by show 2<=sizeLine;decide),λt ht=>(5,(by show 2<=sizeLine;decide),λr f=>?_));have e:=az ht (.tup [.int (c.length:Int),.ref o]);have d:=az f (.tup [.ref t,.ref b]);exact q r b t o _ g (u.trans (v.trans (e.trans d))) ao (d _ _ ao,d _ _ (e _ _ m),4) (d _ _ (e _ _ (v _ _ n)))
inductive oO(K:PySem.W.Frag)(vs:List V)(H:Hp)(Q:VK)(_e1:XK):Prop
 | mk (p:Addr) (ns:List Int) (_:vs=[.ref p]) (_:T6 K H p (ns.map V.int)) (_:ns.length<=4096) (_:aZ ns) (_:Tree ns) (_:∀H',aU H H'->Q .non H')
theorem oU(T:Tx K mg a):aV P w K mg base T9 2 a.aa3 a.aaT ["bits"] (oO K):=by
 refine T.aa9.F.Ub oM λm A d s H n Q E f h=>?_;obtain⟨p,e,rfl,g,j,k,ht,q⟩:=h;refine(_,(aj (bc (aH T.ab6 (pN T) f (My 0 aa)))
  (au (bh (fX (iJ (aH T.afp (Ds T) f (My 0 aa)))) (au cz) aN))),8)
 exists 5,p,e,7,g,j,k;refine(5,p,e,7,g,λb l c i=>?_);have:b=true:=c.mpr ht;subst this;exact(true,7,eF (q l i))
inductive Fz(vs:List V)(H:Hp)(Q:VK)(_e1:XK):Prop
 | mk (t ah:Addr) (ns:List Int) (rest:List V) (j:Nat) (_:vs=[.ref t,.int (j:Int)]) (_:Tab H t ah ns rest) (_:j<=many ns.length) (_:Q (.int (ht ns (32*j))) H)
theorem uX(T:Tx K mg a):aV P w K mg base T9 1 a.afe a.aeD ["tables","number"] Fz:=by
 refine T.aed.F.Ub Ed λf A c s H g Q E k h=>?_;obtain⟨t,e,i,rest,j,rfl,b,d,q⟩:=h;exists _,(au (aF (aB bz (aB cI aq (aW aQ (aW aQ (pv 0) aq) (pv 1))) (aB cI (bF (v:=.int 32) rfl T.Vr (_,7)) (pv 1)))));exists 5,t,_,2,T8.of b.tup,pB _ _ _ b.few,5,e,_,2,T8.of b.Vb,Mq d,2,.inl (4,4),5,2,.inl (4,4),2;unfold ht at q;rw[show ((32*j:Nat):Int)=32*(j:Int)from by lia]at q;exact q
inductive xR(vs:List V)(H:Hp)(Q:VK)(_e1:XK):Prop
 | mk (j n:Nat) (_:vs=[.int (j:Int),.int (n:Int)]) (_:32*j<=n) (_:Q (.int (wide n j:Nat)) H)
theorem nu(T:Tx K mg a):aV P w K mg base T9 1 a.adg a.acr ["number","upto"] xR:=by
 refine T.abr.F.Ub xf λc A b s H d Q E f h=>?_;obtain⟨j,n,rfl,g,q⟩:=h;exists _,(au (aF (aJ (rJ rfl) rfl T.YZ Tw.zc (ak (aB bz (pv 1) (aB cI (bF (v:=.int 32) rfl T.Vr (_,7)) (pv 0))) (ak (bF (v:=.int 32) rfl T.Vr (_,7)) aa)))));exists 6,2,.inl (4,4),2,_,5;have e:(if (32:Int)<(n:Int)-32*(j:Int)then (32:Int)else (n:Int)-32*(j:Int))=((wide n j:Nat):Int):=by
  unfold wide;split<;>lia
 rw[<-e]at q;exact q
inductive Ju(vs:List V)(H:Hp)(Q:VK)(_e1:XK):Prop
 | mk (t ah:Addr) (ns:List Int) (rest:List V) (j:Nat) (_:vs=[.ref t,.int (j:Int),.int (cL ns j)]) (_:Tab H t ah ns rest) (_:aZ ns) (_:32*j<ns.length) (_:∀m H',yc ns j m->aU H H'->Q (.int m) H')
theorem Jv(T:Tx K mg a):aV P w K mg base T9 5 a.afK a.afd ["tables","number","block"] Ju:=by
 refine T.afS.F.Ub Ht λn A f s H o Q E c h=>?_;obtain⟨t,l,b,rest,j,rfl,d,k,r,q⟩:=h;exists _,(au (aF (aB aX (aH T.aed (uX T) c (My 0 (My 1 aa))) (aH T.afR (Im T) c (My 2 (ak (aH T.abr (nu T) c (My 1 (ak (aW aQ (pv 0) aq) aa))) aa))))));have i:j<=many b.length:=by
  unfold many;lia
 have p:1<=wide b.length j/\wide b.length j<=32:=by
  unfold wide;lia
 exists 6,t,l,b,rest,j,7,d,i;refine(6,5,t,_,2,T8.of d.tup,uf _ _ _ d.few,j,b.length,7,9,8);refine(cL b j,((wide b.length j:Nat):Int),7,9,9,λM m e g=>(2,8));rw[abG]at e;exact q _ m (yc.of k e.1 e.2) g
structure KB(H:Hp)(t ah nd bl:Addr)(ns lows:List Int)(S:Nat)(xs:List V):Prop where
 tab:Tab H t ah ns [.ref nd]
 Wz:H nd=some (.tup xs)
 bls:H bl=some (.lst ((bB ns).map V.int))
 low:Dz ns lows
 sz:jx lows.length S
 heap:ju lows S 1 xs
inductive ql(K:PySem.W.Frag)(vs:List V)(H:Hp)(Q:VK)(_e1:XK):Prop
 | mk (p:Addr) (ns:List Int) (_:vs=[.ref p]) (_:T6 K H p (ns.map V.int)) (_:ns.length<=4096) (_:aZ ns) (_:Tree ns) (_:∀r t ah nd bl lows S xs H',H bl=none->H r=none->H t=none->aU H H'->H' r=some (.tup [.ref t,.ref bl])->KB H' t ah nd bl ns lows S xs->Q (.ref r) H')
theorem qN(T:Tx K mg a):aV P w K mg base T9 6 a.abf a.aa4 ["bits"] (ql K):=by
 refine T.abq.F.Ub cH λa2 A U s H vs Q E n h=>?_;obtain⟨p,d,rfl,hS,Z,L,ht,q⟩:=h;refine(_,(aj (bc (aH T.aa9 (oU T) n (My 0 aa)))
  (aj (aA 1 cH.nd (aH T.YT (lX T) n (My 0 aa)))
  (aj (vO (i:=2) cH.nd rfl (ah6 rfl) (aW aQ (pv 1) aq))
  (aj (aA 3 cH.nd (aW aQ (pv 1) aq))
  (aj (CQ (i:=4) cH.nd rfl rfl rfl ((cu.one (j:=2) rfl (ahy rfl) rfl rfl (ahy rfl)),7,4) (ud rfl T.X8 (My 3 aa)) (λ_ _ _ _=>(aH T.afS (Jv T) n (My 2 (My 0 (My 1 aa))))))
  (au (aF (b8 (ak (b8 (ak (aW aQ (pv 2) aq) (ak (aW aQ (pv 2) aq) (ak (cV gk rfl T.Y4 Tw.oW (ak (aH T.afo (Fg T) n (My 4 aa)) aa)) aa)))) (My 3 aa)))))))))),8)
 refine(5,p,d,7,hS,Z,L,ht,λH1 g=>?_);refine(5,p,d,7,g.seq hS,Z,L,λr b t M H2 O C W o u=>?_);exists 5,r,_,2,T8.of W,7;exists 5,r,_,2,T8.of W,7;have e:=bD d;have a1:many d.length<=128:=by
  unfold many;lia
 exists 5,b,5,T6.of u;refine Dw (yc d) (T6.of u) (by rw[e,sizeLine_eq];lia) (λi c H' Q J sm qq=>?_) λD H3 G hD f xD m hR=>?_
 ·have I:=(aab.mp J).1;rw[e]at I;rw[jH I]at J;cases J;refine(6,5,t,M,d,[],i,7,o.same sm,L,8,qq);unfold many at I;lia
 have R:Dz d G:=(by rw[m,e],hR);exists 5,t,_,2,T8.of (f _ _ o.tup),7;exists 5,t,_,2,T8.of (f _ _ o.tup),7;refine(5,D,G,7,T6.of xD,9,λS r4 H4 V V0 a0 B x4 hv=>?_);refine(r4,5,.inl (T6.of x4,λY N=>?_));have z:=az N (.tup V);refine((by show 3<=sizeLine;decide),λX k=>?_);have y:=az k (.tup [.int (d.length:Int),.ref M,.ref Y]);refine(5,(by show 2<=sizeLine;decide),λr7 l=>?_);have x:=az l (.tup [.ref X,.ref b]);have v:=f.trans (B.trans (z.trans (y.trans x)));refine q r7 X M Y b G S V _ (g.free O) ((g.trans (C.trans (f.trans (B.trans (z.trans y))))).free l) ((g.trans (C.trans (f.trans (B.trans z)))).free k) (g.trans (C.trans v)) ao ((x _ _ ao,v _ _ o.Vb,aac _),x _ _ (y _ _ ao),v _ _ u,R,V0,hv)
inductive tU(vs:List V)(H:Hp)(Q:VK)(_e1:XK):Prop
 | mk (p:Addr) (ds:List Int) (_:vs=[.ref p]) (_:H p=some (.lst (ds.map V.int))) (_:gR ds) (_:ds.length<=2048) (_:∀H',aU H H'->Q .non H')
theorem tE(T:Tx K mg a):aV P w K mg base T9 1 a.abR a.abk ["depths"] tU:=by
 refine T.ab3.F.Ub gO λO A l s H R Q E S h=>?_;obtain⟨p,b,rfl,e,k,U,q⟩:=h;refine(_,(aj (bh (aK lw (aJ aO rfl T.Ul Tw.bx (My 0 aa)) (bF (v:=.int 2048) rfl T.afu (_,7))) (au cz) aN)
  (aj (bh (PW.pt (mz (aK dR (aJ aO rfl T.Ul Tw.bx (My 0 aa)) aq) (jm (aK vA (aW lg (pv 0) aq) aq)))) (au cz) aN)
  (au (bC PassesOwn.never rfl (yS rfl T.Y5 Tw.yU (My 0 (ak (cG jZ (pv 0) (cO aq) fM) aa))) (iT rfl (bA (aP 1 gO.nd) (bA (aP 2 gO.nd) fB))) (au (bh (fX (wB mD mD aq (pv 2) (aB aX (pv 1) aq))) (au cz) aN)))))),8)
 have C:(b.map V.int).length=b.length:=aaa ..;have W:0<b.length:=(aab.mp k.1).1;refine(5,p,5,.inl (T6.of e),2,5,bL (λc=>?_) λc=>?_)
 ·have c:(2048:Int)<((b.map V.int).length:Int):=of_decide_eq_true c;rw[C]at c;lia
 refine(5,p,5,.inl (T6.of e),7,5,bL (λc=>?_) λc=>?_)
 ·have c:V.int ((b.map V.int).length:Int)=V.int 0:=of_decide_eq_true c;injection c with c
  rw[C]at c;lia
 refine(5,p,_,2,T6.of e,pR (i:=0) k.1,7,5,rN rfl ?_);refine(6,5,p,5,T6.of e,λc L=>?_);have j:=az L (.lst (cR (b.map V.int) (some 1) none));have M:cR (b.map V.int) (some 1) none=(b.drop 1).map V.int:=Mj b 1;have m:upd H c (.lst (cR (b.map V.int) (some 1) none)) c=some (.lst ((b.drop 1).map V.int)):=by rw[ao,M]
 generalize upd H c (.lst (cR (b.map V.int) (some 1) none))=N at *;exists p,c,_,5,T6.of (j _ _ e),T6.of m;refine Gp (xs:=b.map V.int) (ys:=(b.drop 1).map V.int) (λi g f=>(∃o n,g=[some (.ref p),o,n])/\aU N f) ((none,none,7),aU.refl _) ?_ ?_ ?_
 ·rintro i g f _ ⟨_,d⟩;exact(T6.of (d _ _ (j _ _ e)),T6.of (d _ _ m))
 ·rintro i x y g f t I G ⟨⟨o,n,rfl⟩,d⟩ ht;obtain⟨u,J,rfl⟩:=int_at I;obtain⟨v,r,rfl⟩:=int_at G;rw[agF,ajz]at r;have B:=k.2 i u v J r;have D:=az ht (.tup [.int u,.int v]);exists t,5,T8.of ao,7,_,5,2;exact(5,2,5,bL (λ_=>(5,2,2,5,rN B.2 ((_,5),d.trans D))) λz=>absurd (decide_eq_true B.1) z)
 ·rintro g f ⟨_,d⟩;exact q f (j.trans d)
inductive vR(vs:List V)(H:Hp)(Q:VK)(_e1:XK):Prop
 | mk (p:Addr) (ds:List Int) (_:vs=[.ref p]) (_:H p=some (.lst (ds.map V.int))) (_:gR ds) (_:ds.length<=2048) (_:∀r H',H r=none->aU H H'->H' r=some (.lst ((brk ds 0).map V.int))->Q (.ref r) H')
theorem wJ(T:Tx K mg a):aV P w K mg base T9 2 a.acw a.abS ["depths"] vR:=by
 refine T.acP.F.Ub di λa1 A R s H vs Q E hr h=>?_;obtain⟨p,g,rfl,G,I,hl,q⟩:=h;refine(_,(aj (bc (aH T.ab3 (tE T) hr (My 0 aa)))
  (aj (aA 1 di.nd (bQ aa))
  (aj (aA 2 di.nd aq)
  (aj (bC PassesOwn.never rfl (bJ (pv 0)) (aP 3 di.nd) (aj (bc (gn PySem.F.plainAttrs_list PySem.F.slot_list_extend PySem.F.type_list_extend qt (pv 1) (ak (aB Af (bQ (ak aq aa)) (aB bz (pv 2) (pv 3))) aa)))
  (aj (bc (gn PySem.F.plainAttrs_list PySem.F.slot_list_append PySem.F.type_list_append bN (pv 1) (ak aq aa)))
  (au (aA 2 di.nd (aB aX (pv 3) aq))))))
  (au (aF (aB nY (pv 1) (aB Af (bQ (ak aq aa)) (pv 2))))))))),8)
 have Y:=jX I.dp;refine(5,p,g,7,G,I,hl,λH1 W=>?_);refine((by show 0<=sizeLine;decide),λb X=>?_);have U:=W.trans (az X (.lst []));have xb:upd H1 b (.lst []) b=some (.lst (([]:List Int).map V.int)):=ao;have t:H b=none:=W.free X;generalize upd H1 b (.lst [])=H2 at *;exists 5,p,7,(_,T6.of (U _ _ G));refine bU (xs:=g.map V.int) (λi v j=>(∃(u:Int) (D:Option V) (e:List Int),v=[some (.ref p),some (.ref b),some (.int u),D]/\j b=some (.lst (e.map V.int))/\e++brk (g.drop i) u=brk g 0/\Dp (g.drop i) u)/\aU H j) ((0,none,[],7,xb,7,I.dp),U) ?_ ?_ ?_
 ·rintro i v j _ ⟨_,m⟩;exact T6.of (m _ _ G)
 ·rintro i x v j hx ⟨⟨u,D,e,rfl,z,f,hd⟩,m⟩;obtain⟨d,r,rfl⟩:=int_at hx;have hi:=(aab.mp r).1;have O:g.drop i=d::g.drop (i+1):=by
   rw[af4 hi];congr 1;exact(aab.mp r).2
  rw[O]at f hd;obtain⟨d0,du,N⟩:=hd;have c:=congrArg ahp f;simp only[brk,aae,aba,aaB]at c;rw[Y]at c;have hu:u-d<=4096:=by lia
  have ub:e.length<=4096:=by lia
  exists 5,.inl (7,_,T6.of z);refine((by show 1<=sizeLine;decide),λC h1=>(6,2,C,u-d,[.int 0],7,7,ao,9,9,8,λy M=>?_))
  ·rw[sizeLine_eq];show 1*_<=_;lia
  have S:=(az h1 (.lst [.int 0])).trans (az M (.lst (aaA (u-d).toNat [.int 0]).flatten));have x3:upd (upd j C (.lst [.int 0])) y (.lst (aaA (u-d).toNat [.int 0]).flatten) y=some (.lst ((aaA (u-d).toNat (0:Int)).map V.int)):=by
   rw[ao,Gr]
  have J:=S _ _ z;have L:=m.trans S;generalize upd (upd j C (.lst [.int 0])) y (.lst (aaA (u-d).toNat [.int 0]).flatten)=Z at *;exists b,y,2,J,x3,?_
  ·rw[aaa,aaa,aba,sizeLine_eq];lia
  have n:upd Z b (.lst (e.map V.int++(aaA (u-d).toNat (0:Int)).map V.int)) b=some (.lst ((e++aaA (u-d).toNat 0).map V.int)):=by
   rw[ao,aaj]
  have V1:=bT L t (.lst (e.map V.int++(aaA (u-d).toNat (0:Int)).map V.int));generalize upd Z b (.lst (e.map V.int++(aaA (u-d).toNat (0:Int)).map V.int))=H4 at *;exists 5,.inl (7,_,T6.of n),b,2,n,?_
  ·rw[aaa,aae,aba,sizeLine_eq];lia
  refine(5,2,(d+1,_,e++aaA (u-d).toNat 0++[1],7,8,8,N),bT V1 t _)
  ·rw[ao,aaj (l₂:=[1])];rfl
  ·rw[<-f];simp[brk]
 ·rintro v j ⟨⟨u,D,e,rfl,z,f,hd⟩,m⟩;rw[aaa,aiF]at f hd;have hu:0<=u:=hd;have c:=congrArg ahp f;simp only[brk,aae,aba]at c;rw[Y]at c;exists 5;refine G8 (i:=2) (k:=u) (xs:=[.int 0]) (λQ' q=>q) rfl ⋯ ∅ ⋯ λp1 H4 a0 B n=>?_;rw[Gr]at n;refine(b,p1,2,B _ _ z,n,8,λp2 o=>?_)
  ·rw[aaa,aaa,aba,sizeLine_eq];lia
  refine q p2 _ ((m.trans B).free o) (m.trans (B.trans (az o _))) ?_;rw[ao,<-aaj];exact congrArg (λl:List Int=>some (HO.lst (l.map V.int))) f
inductive vz(vs:List V)(H:Hp)(Q:VK)(E:XK):Prop
 | mk (at0 most:Int) (_:vs=[.int at0,.int most]) (_:0<=at0) (_:at0<=most) (_:Q .non H)
theorem fJ(T:Tx K mg a):aV P w K mg base T9 1 a.acp a.abM ["at","most"] vz:=by
 refine T.X5.F.Ub uK λf A d s H i Q E j h=>?_;obtain⟨g,e,rfl,l,k,q⟩:=h;exists _,(au (bh (PW.pt (mz (aK jh (pv 0) aq) (jm (aK lw (pv 0) (pv 1))))) (au cz) aN));refine(5,2,5,bL (λc=>?_) λc=>?_)
 ·have c:=of_decide_eq_true c;lia
 refine(6,2,5,bL (λb=>?_) λb=>?_)
 ·have b:=of_decide_eq_true b;lia
 exact q
theorem dG.outL{f b:Addr}{c:pW}{cs:List Addr}{Uc:List V}{xs:List V}(h:dG H f c cs Uc)(e:H b=some (.lst xs)):b∉cs:=λz=>by
 obtain⟨i,g⟩:=abg z;obtain⟨j,v,u,_,d,_⟩:=h.cells i b g;rw[e]at d;cases d
inductive Mv(f:Addr)(vs:List V)(H:Hp)(Q:VK)(_e1:XK):Prop
 | mk (sn bl:Addr) (ss:List Int) (xs:List V) (n:Nat) (x:V) (cs:List Addr) (_:vs=[.int (n:Int)]) (_:ik H f bV cs [.ref sn,.ref bl]) (_:H sn=some (.lst (ss.map V.int))) (_:H bl=some (.lst xs)) (_:sn≠bl) (_:ss.length<=16000000) (_:xs[n]?=some x) (_:Q x (upd H sn (.lst ((ss++[(n:Int)]).map V.int))))
theorem Al(T:Tx K mg a):fV P w K mg base 1 Mv:=by
 refine Qz Bt (λ_ _ _ _ _ t y=>match t,y with | [_],_=>rfl) λf C H Q h=>?_;obtain⟨b,d,e,j,n,x,c,rfl,g,o,m,v,B,l,q⟩:=h;have k:=ik.out g o;have u:=ik.out g m;refine(7,c,[.ref b,.ref d],g,λG A i s D=>(_,(aj (bc (gn PySem.F.plainAttrs_list PySem.F.slot_list_append PySem.F.type_list_append bN (pv 1) (My 0 aa)))
  (aj (bh (wB mD jh aq (pv 0) (aJ aO rfl T.Ul Tw.bx (My 2 aa))) (au (aF (aW lg (pv 2) (pv 0)))) aN)
  (au (aF aq)))),8))
 have r:hide H c b=some (.lst (e.map V.int)):=by rw[bw k];exact o
 have p:upd (hide H c) b (.lst (e.map V.int++[.int (n:Int)])) d=some (.lst j):=by rw[aG (agG v),bw u];exact m
 have E:=(aab.mp l).1;exists 5,.inl (7,_,T6.of r),5,b,2,r,8
 ·rw[aaa,sizeLine_eq];lia
 refine(5,2,5,bL (λ_=>?_) λz=>absurd (decide_eq_true (show (0:Int)<=(n:Int) by lia)) z);refine(5,d,5,.inl (T6.of p),2,5,bL (λ_=>?_) λz=>absurd (decide_eq_true (show (n:Int)<(j.length:Int) by lia)) z);exists 6,d,_,2,T6.of p,GX l;show Q x (over H c (upd (hide H c) b (.lst (e.map V.int++[.int (n:Int)]))));rw[vZ k,m7];rw[aaj]at q;exact q
inductive BX(Pt:Addr)(vs:List V)(H:Hp)(Q:VK)(_e1:XK):Prop
 | mk (bl sn:Addr) (_:vs=[.ref bl,.ref sn]) (_:TabAt H Pt (yN eE) bV.qual) (_:∀f cs H2,H f=none->gr Pt H H2->TabAt H2 Pt (yN eE) bV.qual->ik H2 f bV cs [.ref sn,.ref bl]->Q (.ref f) H2)
theorem Cp(T:Tx K mg a)(B:Bs mg base a):aV P w K mg base T9 1 a.aeQ a.ab5 ["_law_blocks","_law_seen"] (BX a.Vx):=by
 refine UV.maker0 (T:=bV) (pos:=yN eE) T.aeW.F sJ Ba B.bm T.afV B.afW (λc H Q E h=>?_) rfl (λc H Q E h=>?_)
 ·obtain⟨s,b,rfl,_⟩:=h;rfl
 obtain⟨d,b,rfl,l,q⟩:=h;refine(l,[.ref b,.ref d],λj m e=>?_,7,λn o p k r i g f=>q n o p k i g f)
 match j,e with
 |0,e=>cases e;exact(5,7)
 |1,e=>cases e;exact(5,7)
 |j+2,e=>simp at e
theorem fV.weak{P:Program}{w:World}{K:PySem.W.Frag}{mg:Str->Option Value}{base:Heap}{k:Nat}{e d:Addr->Sp}(F:fV P w K mg base k e)(h:∀f c H Q,d f c H Q E0->e f c H Q E0):fV P w K mg base k d:=
 λf A b s H g c Q j l r i=>F f A b s H g c Q j l r (h f c H Q i)
inductive lR(R:Hp->LK->Prop)(f:Addr)(vs:List V)(H:Hp)(Q:VK)(_e1:XK):Prop
 | mk (L:LK) (ss:List Int) (n:Nat) (x:V) (sn:Addr) (_:f=L.f) (_:vs=[.int (n:Int)]) (_:R H L) (_:L.wr=some sn) (_:H sn=some (.lst (ss.map V.int))) (_:sn≠L.bl) (_:H L.bl=some (.lst L.all)) (_:ss.length<16000000) (_:L.all[L.off+n]?=some x) (_:Q x (L.put H (ss++[((L.off+n:Nat):Int)])))
theorem Bg(T:Tx K mg a):fV P w K mg base 1 (lR Va):=fV.weak (Al T) λf r H Q h=>by
 obtain⟨L,e,n,x,g,rfl,rfl,⟨l,p,m,d,o⟩,b,j,i,k,s,c,q⟩:=h;rw[d]at b;cases b;rw[l,agO]at c q;rw[LK.put_some d]at q;exact(g,L.bl,e,L.all,n,x,m,7,o,j,k,i,9,c,q)
theorem Di(T:Tx K mg a):fV P w K mg base 2 (lR Vf):=by
 refine El jR (λ_ _ _ _ C F=>match C,F with | [_],_=>rfl) λf R H Q h=>?_;obtain⟨L,d,n,x,j,rfl,rfl,⟨g,o,c,S,l,B⟩,k,e,O,y,m,p,q⟩:=h;have t:j∉c:=dG.outL l e;have D:L.bl∉c:=dG.outL l y;have b:Tx K mg a->fV P w K mg base 1 (lR Va):=Bg;refine(7,c,[.ref g,.int (o:Int)],l,λU A r s E=>(_,(gA ((b T).mono ∅) E (i:=1) rfl (ak (aB aX (pv 2) (pv 0)) aa)),8));have I:hide H c j=some (.lst (d.map V.int)):=by rw[bw t];exact e
 have G:hide H c L.bl=some (.lst L.all):=by rw[bw D];exact y
 obtain⟨u,J,z,N⟩:=(Va.hasFn _ _ B).1;exists g,u,J,7,z,N,6,2,z,(g,L.wr,L.bl,L.off-o,L.all),d,o+n,x,j,7,8,B,k,I,O,G,m,8
 ·exact congrArg (λv=>[V.int v]) ⋯
 ·show L.all[L.off-o+(o+n)]?=some x;rw[show L.off-o+(o+n)=L.off+n by lia];exact p
 have M:((g,L.wr,L.bl,L.off-o,L.all):LK).put (hide H c) (d++[((L.off-o+(o+n):Nat):Int)])=upd (hide H c) j (.lst ((d++[((L.off+n:Nat):Int)]).map V.int)):=by
  rw[LK.put_some (L:=(g,L.wr,L.bl,L.off-o,L.all)) k,show L.off-o+(o+n)=L.off+n by lia]
 show Q x (over H c (((g,L.wr,L.bl,L.off-o,L.all):LK).put (hide H c) (d++[((L.off-o+(o+n):Nat):Int)])));rw[M,vZ t,m7];rw[LK.put_some k]at q;exact q
theorem Ma(T:Tx K mg a):fV P w K mg base 3 (lR Wy):=by
 refine El jR (λ_ _ _ _ C F=>match C,F with | [_],_=>rfl) λf R H Q h=>?_;obtain⟨L,d,n,x,j,rfl,rfl,⟨g,o,c,S,l,B⟩,k,e,O,y,m,p,q⟩:=h;have t:j∉c:=dG.outL l e;have D:L.bl∉c:=dG.outL l y;have b:Tx K mg a->fV P w K mg base 2 (lR Vf):=Di;refine(7,c,[.ref g,.int (o:Int)],l,λU A r s E=>(_,(gA ((b T).mono ∅) E (i:=1) rfl (ak (aB aX (pv 2) (pv 0)) aa)),8));have I:hide H c j=some (.lst (d.map V.int)):=by rw[bw t];exact e
 have G:hide H c L.bl=some (.lst L.all):=by rw[bw D];exact y
 obtain⟨u,J,z,N⟩:=(Vf.hasFn _ _ B).1;exists g,u,J,7,z,N,6,2,z,(g,L.wr,L.bl,L.off-o,L.all),d,o+n,x,j,7,8,B,k,I,O,G,m,8
 ·exact congrArg (λv=>[V.int v]) ⋯
 ·show L.all[L.off-o+(o+n)]?=some x;rw[show L.off-o+(o+n)=L.off+n by lia];exact p
 have M:((g,L.wr,L.bl,L.off-o,L.all):LK).put (hide H c) (d++[((L.off-o+(o+n):Nat):Int)])=upd (hide H c) j (.lst ((d++[((L.off+n:Nat):Int)]).map V.int)):=by
  rw[LK.put_some (L:=(g,L.wr,L.bl,L.off-o,L.all)) k,show L.off-o+(o+n)=L.off+n by lia]
 show Q x (over H c (((g,L.wr,L.bl,L.off-o,L.all):LK).put (hide H c) (d++[((L.off-o+(o+n):Nat):Int)])));rw[M,vZ t,m7];rw[LK.put_some k]at q;exact q
theorem dB(T:Tx K mg a):fV P w K mg base 3 Ot:=λf A b s H k u Q m t r h=>by
 obtain⟨L,l,n,x,rfl,rfl,e,c,d,q⟩:=h;obtain⟨i,j⟩:=e.look.both.2;obtain⟨p,o⟩:=e.seen i j;rcases e.look with g|g|g
 ·exact((Bg T).mono ∅) L.f A b s H k _ Q m t r (L,l,n,x,i,7,7,g,j,p,o,e.nodes,c,d,q)
 ·exact((Di T).mono ∅) L.f A b s H k _ Q m t r (L,l,n,x,i,7,7,g,j,p,o,e.nodes,c,d,q)
 ·exact(Ma T) L.f A b s H k _ Q m t r (L,l,n,x,i,7,7,g,j,p,o,e.nodes,c,d,q)
inductive zj(Pt:Addr)(vs:List V)(H:Hp)(Q:VK)(_e1:XK):Prop
 | mk (g:Addr) (off:Nat) (_:vs=[.ref g,.int (off:Int)]) (_:TabAt H Pt (bW bu) aL.qual) (_:∀f cs H2,H f=none->(∀c∈cs,H c=none)->gr Pt H H2->TabAt H2 Pt (bW bu) aL.qual->dG H2 f aL cs [.ref g,.int (off:Int)]->Q (.ref f) H2)
theorem j0(T:Tx K mg a)(B:Bs mg base a):aV P w K mg base T9 1 a.adN a.Z8 ["look","first"] (zj a.Ui):=by
 refine UV.makerL0 (T:=aL) (pos:=bW bu) T.YS.F zx zQ B.bm T.afy B.afA (λc H Q E h=>?_) rfl (λc H Q E h=>?_)
 ·obtain⟨t,s,rfl,_⟩:=h;rfl
 obtain⟨g,b,rfl,n,q⟩:=h;refine(n,[.ref g,.int (b:Int)],λj m e=>?_,7,λo p r l k i f d=>q o p r l k i f d)
 match j,e with
 |0,e=>cases e;exact(5,7)
 |1,e=>cases e;exact(5,7)
 |j+2,e=>simp at e
structure Ask(H:Hp)(t:Addr)(L:LK)(ah:Addr)(ns ss:List Int)(rest:List V):Prop where
 tab:Tab H t ah ns rest
 asks:Asks H L ss
 bits:aZ ns
 len:ns.length<=4096
 blk:∀n,n<many ns.length->L.all[L.off+n]?=some (.int (cL ns n))
theorem Ask.same{H H':Hp}{t:Addr}{L:LK}{d:Addr}{c b:List Int}{rest:List V}(h:Ask H t L d c b rest)(s:aU H H'):Ask H' t L d c b rest:=(h.tab.same s,h.asks.same s,h.bits,h.len,h.blk)
theorem Ask.more{H:Hp}{t:Addr}{L:LK}{c:Addr}{b d tt:List Int}{rest:List V}(h:Ask H t L c b d rest)(e:tt.length<=16000000):Ask (L.put H tt) t L c b tt rest:=
 ((h.asks.putT h.tab.tup,h.asks.putT h.tab.Vb,h.tab.few),h.asks.more e,h.bits,h.len,h.blk)
inductive bO(n:Nat)(k:Nat)(ss:List Int)(ss':List Int):Prop
 | mk (tt:List Int) (_:ss'=ss++tt) (_:tt.length<=k) (_:∀x∈tt,0<=x/\x<n)
theorem bO.none{n k:Nat}(b:List Int):bO n k b b:=([],by simp,by simp,nofun)
theorem bO.one{n:Nat}(b:List Int){i:Int}(e:0<=i)(d:i<n):bO n 1 b (b++[i]):=([i],7,by simp,λx c=>by rw[aam.mp c];exact(e,d))
theorem bO.trans{n j k:Nat}{a b c:List Int}(h:bO n j a b)(h':bO n k b c):bO n (j+k) a c:=by
 obtain⟨t,rfl,l,m⟩:=h;obtain⟨u,rfl,f,e⟩:=h';refine(t++u,by rw[aaG],by rw[aae];lia,λx d=>?_);rcases aaW.mp d with d|d
 ·exact m x d
 ·exact e x d
theorem bO.le{n j k:Nat}{a b:List Int}(h:bO n j a b)(c:j<=k):bO n k a b:=by
 obtain⟨t,e,l,m⟩:=h;exact(t,e,9,m)
theorem bO.len{n k:Nat}{a b:List Int}(h:bO n k a b):b.length<=a.length+k:=by
 obtain⟨t,rfl,l,m⟩:=h;rw[aae];lia
theorem Ask.wr{t:Addr}{L:LK}(h:Ask H t L f d J j){n:Nat}(b:n<many d.length):bO L.all.length 1 J (J++[((L.off+n:Nat):Int)]):=by
 have:=(aab.mp (h.blk n b)).1;exact bO.one J ⋯ ⋯
inductive Eo(vs:List V)(H:Hp)(Q:VK)(E:XK):Prop
 | mk (t:Addr) (L:LK) (ah:Addr) (ns ss:List Int) (rest:List V) (at0:Nat) (_:vs=[.ref t,.ref L.f,.int (at0:Int)]) (_:Ask H t L ah ns ss rest) (_:ss.length<16000000) (_:at0<=ns.length) (_:∀ss' H',bO L.all.length 1 ss ss'->aU (L.put H ss') H'->Q (.int (ns.take at0).sum) H')
theorem ir(T:Tx K mg a):aV P w K mg base T9 4 a.afb a.aeB ["tables","look","at"] Eo:=by
 refine T.Xk.F.Ub iM λI A n s H J Q E l h=>?_;obtain⟨t,L,x,g,k,rest,b,rfl,d,m,y,q⟩:=h;refine(_,(aj (aA 3 iM.nd (aW aQ (pv 0) aq))
  (aj (aA 4 iM.nd (aW aQ (pv 0) aq))
  (aj (bc (aH T.X5 (fJ T) l (My 2 (My 3 aa))))
  (aj (aA 5 iM.nd (aB cj (pv 2) (bF (v:=.int 32) rfl T.Vr (_,7))))
  (aj (aA 6 iM.nd (aB bZ (pv 2) (bF (v:=.int 32) rfl T.Vr (_,7))))
  (aj (bh (aK dR (pv 6) aq) (au (aF (aW aQ (pv 4) (pv 5)))) aN)
  (au (aF (aB aX (aW aQ (pv 4) (pv 5)) (aH T.ad9 (wC T) l (ak (gA ((dB T).mono ∅) l (i:=1) rfl (My 5 aa)) (My 6 aa)))))))))))),8)
 exists 5,t,_,2,T8.of d.tab.tup,uf _ _ _ d.tab.few;exists 5,t,_,2,T8.of d.tab.tup,pB _ _ _ d.tab.few;refine(6,_,5,9,9,8);exists 5,2,(4,4);exists 5,2,(by show (0:Int)<32;decide);have r:(b:Int) / 32=((b / 32:Nat):Int):=by lia
 have j:Ux ((Uv g (many g.length)).map V.int) ((b:Int) / 32)=some (.int (g.take (32*(b / 32))).sum):=by
  rw[r];exact Mq (by unfold many;lia)
 refine(5,7,5,bL (λc=>?_) λc=>?_)
 ·have c:V.int ((b:Int)%32)=V.int 0:=of_decide_eq_true c;injection c with c
  exists 6,x,_,2,T8.of d.tab.Vb,j;have:=q k H (bO.none k) (by rw[d.asks.id];exact aU.refl _);rw[show b=32*(b / 32)from by lia]at this;exact this
 have c:(b:Int)%32≠0:=λz=>c (decide_eq_true (congrArg V.int z));obtain⟨o,D,u,C⟩:=d.asks.look.fn;have p:b / 32<many g.length:=by
  unfold many;lia
 exists 6,x,_,2,T8.of d.tab.Vb,j,L.f,o,D,7,u,C,5,u,L,k,b / 32,5,congrArg (λv=>[v]) (congrArg V.int r),d.asks,m,d.blk _ (by first|exact p|lia);refine(5,_,5,(show 0<=(b:Int)%32 from by lia),(show (b:Int)%32<=32 from by lia),λG B=>(2,8));have:=q _ G (d.wr p) B;have e:(g.take b).sum=(g.take (32*(b / 32))).sum+ones (cL g (b / 32)) ((b:Int)%32).toNat:=by
  rw[m8 d.bits _ _ ⋯];congr 2;lia
 rw[e]at this;exact this
inductive Hy(vs:List V)(H:Hp)(Q:VK)(E:XK):Prop
 | mk (t:Addr) (L:LK) (ah:Addr) (ns ss:List Int) (rest:List V) (at0:Nat) (_:vs=[.ref t,.ref L.f,.int (at0:Int)]) (_:Ask H t L ah ns ss rest) (_:ss.length<16000000) (_:at0<=ns.length) (_:∀ss' H',bO L.all.length 1 ss ss'->aU (L.put H ss') H'->Q (.int (ht ns at0)) H')
theorem qP(T:Tx K mg a):aV P w K mg base T9 5 a.afL a.afg ["tables","look","at"] Hy:=by
 refine T.YW.F.Ub Je λo A f s H p Q E k h=>?_;obtain⟨t,L,m,j,g,rest,e,rfl,l,d,b,q⟩:=h;exists _,(au (aF (aB bz (aB cI aq (aH T.Xk (ir T) k (My 0 (My 1 (My 2 aa))))) (pv 2))));exact(6,5,t,L,m,j,g,rest,e,7,l,d,b,λc n w i=>(2,.inl (4,4),5,2,q c n w i))
inductive HR(vs:List V)(H:Hp)(Q:VK)(E:XK):Prop
 | mk (t:Addr) (L:LK) (ah:Addr) (ns ss:List Int) (rest:List V) (at0:Nat) (b:Int) (_:vs=[.ref t,.ref L.f,.int (at0:Int)]) (_:Ask H t L ah ns ss rest) (_:ss.length<16000000) (_:ns[at0]?=some b) (_:∀ss' H',bO L.all.length 1 ss ss'->aU (L.put H ss') H'->Q (.int b) H')
theorem mW(T:Tx K mg a):aV P w K mg base T9 4 a.afJ a.afa ["tables","look","at"] HR:=by
 refine T.X6.F.Ub Ip λz A j s H B Q E e h=>?_;obtain⟨t,L,C,k,r,rest,c,b,rfl,d,g,m,q⟩:=h;have p:=(aab.mp m).1;refine(_,(aj (bc (aH T.X5 (fJ T) e (My 2 (ak (aB bz (aW aQ (pv 0) aq) aq) aa))))
  (au (aF (aH T.YM (qz T) e (ak (gA ((dB T).mono ∅) e (i:=1) rfl (ak (aB cj (pv 2) (bF (v:=.int 32) rfl T.Vr (_,7))) aa)) (ak (aB bZ (pv 2) (bF (v:=.int 32) rfl T.Vr (_,7))) aa)))))),8)
 refine(6,t,_,2,T8.of d.tab.tup,uf _ _ _ d.tab.few,2,_,5,9,9,8);obtain⟨o,x,n,u⟩:=d.asks.look.fn;have l:c / 32<many k.length:=by
  unfold many;lia
 have y:(c:Int) / 32=((c / 32:Nat):Int):=by lia
 exists L.f,o,x,7,n,u,5,2,(4,4),n,L,r,c / 32,5,congrArg (λv=>[v]) (congrArg V.int y),d.asks,g,d.blk _ (by first|exact l|lia);exists 5,2,(by show (0:Int)<32;decide),_,5,(show 0<=(c:Int)%32 from by lia);rw[show bit (cL k (c / 32)) ((c:Int)%32).toNat=b from by rw[show ((c:Int)%32).toNat=c%32 from by lia,bit_at d.bits _ _ ⋯,show 32*(c / 32)+c%32=c from by lia,m];rfl];exact q _ _ (d.wr l) (aU.refl _)
inductive Rf(K:PySem.W.Frag)(vs:List V)(H:Hp)(Q:VK)(_e1:XK):Prop
 | mk (p:Addr) (ns:List Int) (goal:Int) (_:vs=[.ref p,.int goal]) (_:T8 K H p (ns.map V.int)) (_:0<ns.length) (_:ns.length<=4096) (_:∀lo:Nat,lo<ns.length->(lo=0 \/ ∃x,ns[lo]?=some x/\x<=goal)->(lo+1=ns.length \/ ∃x,ns[lo+1]?=some x/\goal<x)->Q (.int (lo:Int)) H)
theorem nC(T:Tx K mg a):aV P w K mg base T9 1 a.aaS a.aaN ["numbers","goal"] (Rf K):=by
 refine T.aaX.F.Ub bM λJ A r s H L Q E M h=>?_;obtain⟨p,i,g,rfl,u,D,N,q⟩:=h;refine(_,(aj (aA 2 bM.nd aq)
  (aj (aA 3 bM.nd (aJ aO rfl T.Ul Tw.bx (My 0 aa)))
  (aj (o5 PassesOwn.never (aK lw (aB bz (pv 3) (pv 2)) aq) (aj (aA 4 bM.nd (aB cj (aB aX (pv 2) (pv 3)) aq))
  (au (bh (aK mD (aW aQ (pv 0) (pv 4)) (pv 1)) (au (aA 2 bM.nd (pv 4))) (au (aA 3 bM.nd (pv 4)))))))
  (au (aF (pv 2)))))),8)
 exists 5,p,5,.inr u;exists λm t B=>∃(b f:Nat) (k:Option V),t=[some (.ref p),some (.int g),some (.int (b:Int)),some (.int (f:Int)),k]/\B=H/\m=f-b/\b<f/\f<=i.length/\(b=0 \/ ∃x,i[b]?=some x/\x<=g)/\(f=i.length \/ ∃x,i[f]?=some x/\g<x),(_,0,i.length,none,8,7,7,D,aac _,.inl rfl,.inl rfl)
 ·rw[aaa];rfl
 rintro m t B ⟨b,f,k,rfl,rfl,rfl,I,n,y,v⟩;refine(6,2,2,5,bL (λc=>?_) λc=>?_)
 ·have c:(1:Int)<(f:Int)-(b:Int):=of_decide_eq_true c;exists _,λ G O z=>z;have l:((b:Int)+(f:Int)) / 2=(((b+f) / 2:Nat):Int):=by lia
  have C:(b+f) / 2<i.length:=by lia
  have j:i[(b+f) / 2]?=some i[(b+f) / 2]:=aad C;have o:Ux (i.map V.int) (((b:Int)+(f:Int)) / 2)=some (.int i[(b+f) / 2]):=by
   rw[l];exact pR j
  exists 6,2,2,(4,4);refine(6,p,_,2,u,o,5,2,5,bL (λd=>?_) λd=>?_)
  ·have d:=of_decide_eq_true d;refine(5,f-(b+f) / 2,9,(b+f) / 2,f,some (.int (((b:Int)+(f:Int)) / 2)),8,7,7,9,n,.inr (_,j,d),v);rw[<-l];rfl
  ·have d:¬i[(b+f) / 2]<=g:=λz=>d (decide_eq_true z);refine(5,(b+f) / 2-b,9,b,(b+f) / 2,some (.int (((b:Int)+(f:Int)) / 2)),8,7,7,9,9,y,.inr (_,j,9));rw[<-l];rfl
 ·have c:¬(1:Int)<(f:Int)-(b:Int):=λz=>c (decide_eq_true z);have e:f=b+1:=by lia
  subst e;exact(5,q b ⋯ y v)
inductive za(C:Addr)(vs:List V)(H:Hp)(Q:VK)(E:XK):Prop
 | mk (at0 most:Int) (_:vs=[.int at0,.int most]) (_:((0<=at0/\at0<most/\Q .non H)\/((at0<0\/most<=at0)/\E (.ref C) none H)))
theorem zM(T:Tx K mg a):aV P w K mg base (U9 P w) 1 a.adS a.adf ["nth","many"] (za a.Uo):=by
 refine T.aec.F.ok1 zU (λg H Q E h=>?_) (λj A f s H g Q E k h=>?_)
 ·obtain⟨p,m,rfl,_⟩:=h;rfl
 obtain⟨d,e,rfl,h⟩:=h;exists _,(au (bh (PW.pt (mz (aK jh (pv 0) aq) (jm (aK Ax (pv 0) (pv 1))))) (au (uD T.aen rfl (ak oG aa))) aN));refine(5,2,5,bL (λc=>?_) λc=>?_)
 ·have c:=of_decide_eq_true c;rcases h with ⟨i,_⟩|⟨_,q⟩
  ·lia
  ·exact kE ((by show 1<=sizeLine;decide),q)
 have c:¬d<0:=λz=>c (decide_eq_true z);refine(6,2,5,bL (λb=>?_) λb=>?_)
 ·have b:=of_decide_eq_true b;rcases h with ⟨i,l,_⟩|⟨_,q⟩
  ·lia
  ·exact((by show 1<=sizeLine;decide),q)
 have b:¬e<=d:=λz=>b (decide_eq_true z);rcases h with ⟨_,_,q⟩|⟨z,_⟩
 ·exact q
 ·lia
inductive z8(C:Addr)(vs:List V)(H:Hp)(Q:VK)(E:XK):Prop
 | mk (t:Addr) (L:LK) (ah:Addr) (ns ss:List Int) (rest:List V) (nth:Int) (_:vs=[.ref t,.ref L.f,.int nth]) (_:Ask H t L ah ns ss rest) (_:ss.length<16000000) (_:((0<=nth/\nth<ns.sum /\ ∀(H':Hp) (p:Nat) (ss':List Int),ns[p]?=some 1->(ns.take p).sum=nth->bO L.all.length 1 ss ss'->aU (L.put H ss') H'->Q (.int (p:Int)) H')\/((nth<0\/ns.sum<=nth)/\E (.ref C) none H)))
theorem pK(T:Tx K mg a):aV P w K mg base (U9 P w) 4 a.adR a.ade ["tables","look","nth"] (z8 a.Uo):=by
 refine T.ab7.F.ok1 kI (λvs H Q E h=>?_) (λa0 A O s H vs Q E r h=>?_)
 ·obtain⟨t,L,u,b,S,rest,d,rfl,_⟩:=h;rfl
 obtain⟨t,L,u,b,S,rest,d,rfl,R,C,h⟩:=h;have ht:=R.tab.tup;have B:=R.tab.Vb;have y:=R.bits;have hl:=R.len;have hM:many b.length<=128:=by
  unfold many;lia
 have g:b.take (32*many b.length)=b:=aai (by unfold many;lia);have G:Ux ((Uv b (many b.length)).map V.int) (-1)=some (.int b.sum):=by
  rw[Dg,aaj,g];exact lE _ _
 refine(_,(aj (aA 3 kI.nd (aW aQ (pv 0) aq))
  (aj (bc (eQ T.aec (zM T) ∅ r lr rfl (My 2 (ak (aW aQ (pv 3) (gB dh aq)) aa))))
  (aj (aA 4 kI.nd (aH T.aaX (nC T) r (My 3 (My 2 aa))))
  (au (aF (aB aX (aB cI (bF (v:=.int 32) rfl T.Vr (_,7)) (pv 4)) (aH T.afQ (Ji T) r (ak (gA ((dB T).mono ∅) r (i:=1) rfl (My 4 aa)) (ak (aB bz (pv 2) (aW aQ (pv 3) (pv 4))) aa))))))))),8)
 exists 5,t,_,2,T8.of ht,pB _ _ _ R.tab.few;exists 6,5,u,_,2,T8.of B,G,_,5;rcases h with ⟨W,p1,q⟩|⟨p,e⟩
 rotate_left
 ·exact .inr (p,e)
 refine .inl (W,p1,8);refine(6,u,_,5,T8.of B,(by rw[cZ];lia),(by rw[cZ];lia),λc D j m=>?_);rw[cZ]at D m;have n:c<many b.length:=by
  rcases m with m|⟨x,e,_⟩
  ·have e:c=many b.length:=by lia
   rcases j with j|⟨x,l,j⟩
   ·have e3:many b.length=0:=by lia
    have:b.sum=0:=by
     rw[<-g,e3];rfl
    lia
   ·rw[o8 ⋯]at l;cases l;rw[e,g]at j;lia
  ·have:=(aab.mp e).1;rw[cZ]at this;lia
 have d1:(b.take (32*c)).sum<=d:=by
  rcases j with j|⟨x,l,j⟩
  ·subst j;exact W
  ·rw[o8 ⋯]at l;cases l;exact j
 have d2:d<(b.take (32*c+32)).sum:=by
  rcases m with m|⟨x,l,m⟩
  ·lia
  ·rw[o8 ⋯]at l;cases l;exact m
 have N:Ux ((Uv b (many b.length)).map V.int) (c:Int)=some (.int (b.take (32*c)).sum):=pR (o8 ⋯);have sb:=m8 y c 32 ⋯;obtain⟨k0,M,J,I⟩:=Mg (cL b c) (d-(b.take (32*c)).sum) ⋯ 32 ⋯;obtain⟨o,fd,Y,g1⟩:=R.asks.look.fn;exists 5,2,.inl (4,4),L.f,o,fd,7,Y,g1,5,Y,L,S,c,5,7,R.asks,C,R.blk _ (by first|exact hm|lia);exists 6,5,u,_,2,T8.of (R.asks.putT B),N,2;refine(_,5,λZ U k hk z X=>?_,λZ U no=>absurd (J,I) (no k0 M));exists 2;have z:bit (cL b c) k=1:=z;have X:ones (cL b c) k=d-(b.take (32*c)).sum:=X;have hp:b[32*c+k]?=some 1:=by
  have:=bit_at y c k hk;rw[z]at this;cases e:b[32*c+k]? with
  |none=>rw[e]at this;cases this
  |some x=>
   rw[e]at this;have this:1=x:=this;rw[this]
 have hs:(b.take (32*c+k)).sum=d:=by
  have:=m8 y c k ⋯;lia
 have:=q Z (32*c+k) _ hp hs (R.wr n) U;rw[show ((32*c+k:Nat):Int)=32*(c:Int)+(k:Int)from by lia]at this;exact this
theorem dG.out{f b:Addr}{c:pW}{cs:List Addr}{Uc:List V}{xs:List V}(h:dG H f c cs Uc)(e:H b=some (.tup xs)):b∉cs:=λz=>by
 obtain⟨i,g⟩:=abg z;obtain⟨j,v,u,_,d,_⟩:=h.cells i b g;rw[e]at d;cases d
def Quiet(H:Hp)(f b:Addr)(xs:List V):Prop:=(∃c,dG H f aY c [.ref b])/\H b=some (.tup xs)
theorem Quiet.fn{f :Addr}{xs:List V}(h:Quiet H f C xs):∃o fd,H f=some (aM f o)/\o.data=.func fd:=by
 obtain⟨⟨j,c⟩,_⟩:=h;obtain⟨k,g,d,i,e,t,b,_⟩:=c.ex;exact(1,b,7)
theorem Quiet.same{H H':Hp}{f c:Addr}{xs:List V}(h:Quiet H f c xs)(s:aU H H'):Quiet H' f c xs:=by
 obtain⟨⟨g,i⟩,d⟩:=h;exact((g,i.same λb o e=>s _ _ e),s _ _ d)
inductive qp(f:Addr)(vs:List V)(H:Hp)(Q:VK)(_e1:XK):Prop
 | mk (nd:Addr) (xs:List V) (n:Nat) (x:V) (_:vs=[.int (n:Int)]) (_:Quiet H f nd xs) (_:xs[n]?=some x) (_:Q x H)
theorem jP(T:Tx K mg a):fV P w K mg base 1 qp:=by
 refine El qW (λ_ _ _ _ j l=>match j,l with | [_],_=>rfl) λf p H Q h=>?_;obtain⟨c,i,n,x,rfl,⟨⟨b,g⟩,e⟩,m,q⟩:=h;have k:=dG.out g e;refine(7,b,[.ref c],g,λt A d s r=>(_,(aW aQ (pv 1) (pv 0)),8));have o:hide H b c=some (.tup i):=by rw[bw k];exact e
 exists 6,c,_,2,T8.of o,GX m;show Q x (over H b (hide H b));rw[m7];exact q
inductive zG(Pt:Addr)(vs:List V)(H:Hp)(Q:VK)(_e1:XK):Prop
 | mk (t nd:Addr) (x y:V) (xs:List V) (_:vs=[.ref t]) (_:H t=some (.tup [x,y,.ref nd])) (_:H nd=some (.tup xs)) (_:TabAt H Pt (bW bR) aY.qual) (_:∀f H2,H f=none->gr Pt H H2->TabAt H2 Pt (bW bR) aY.qual->Quiet H2 f nd xs->Q (.ref f) H2)
theorem Ac(T:Tx K mg a)(B:Bs mg base a):aV P w K mg base T9 1 a.adT a.Z9 ["tables"] (zG a.Uh):=by
 refine UV.makerL1 (T:=aY) (pos:=bW bR) T.aee.F o6 zJ B.bm T.afz B.afB (λl H Q E h=>?_) rfl (λz A b s H l Q E D h=>?_)
 ·obtain⟨t,c,x,y,k,rfl,_⟩:=h;rfl
 obtain⟨t,c,x,y,k,rfl,ht,f,g,q⟩:=h;exists _,(vO (i:=1) o6.nd rfl (ah6 rfl) (aW aQ (pv 0) aq));exists 5,t,_,2,T8.of ht,7;refine(g,[.ref c],λj m e=>?_,7,λr u v p C d o n=>q r v p d o ((u,n),d _ _ f (TabAt.ne g f nofun)))
 match j,e with
 |0,e=>cases e;exact(5,7)
 |j+1,e=>simp at e
inductive Ey(vs:List V)(H:Hp)(Q:VK)(_e1:XK):Prop
 | mk (f nd:Addr) (xs:List V) (ns:List Int) (S s n a0 e:Nat) (g:Int) (_:vs=[.int (S:Int),.ref f,.int (n:Int),.int g,.int (s:Int)]) (_:Quiet H f nd xs) (_:ju ns S 1 xs) (_:ns.length<=S) (_:s<=1) (_:n*2^e=S+a0) (_:a0+2^e<=ns.length) (_:1<=n) (_:tV xs n<=g) (_:∀i:Nat,ZZ ns s a0 (a0+2^e) g i->Q (.int (i:Int)) H)
theorem qQ(T:Tx K mg a):aV P w K mg base T9 2 a.abd a.aa1 ["size","look","node","goal","side"] Ey:=by
 refine T.abp.F.Ub dz λa2 A D s H vs Q E X h=>?_;obtain⟨f,U,J,R,S,j,n,C,e,g,rfl,L,p,l,r,Y,t,h1,hg,q⟩:=h;refine(_,(aj (aA 5 dz.nd (pv 2))
  (aj (o5 PassesOwn.never (aK jh (pv 5) (pv 0)) (aj (aA 5 dz.nd (aB aX (aB cI aq (pv 5)) (pv 4)))
  (au (bh (aK lw (gA ((jP T).mono ∅) X (i:=1) rfl (My 5 aa)) (pv 3)) (au (aA 5 dz.nd (aB bz (aB aX (pv 5) aq) (aB cI aq (pv 4))))) aN))))
  (au (aF (aB bz (pv 5) (pv 0)))))),8)
 exists 5;refine(λm G N=>∃(k d b:Nat),G=[some (.int (S:Int)),some (.ref f),some (.int (n:Int)),some (.int g),some (.int (j:Int)),some (.int (k:Int))]/\m=d/\wR R J S j C (C+2^e) g d k b/\N=H,
  (_,n,e,C,7,7,wR.start Y h1 hg,7),8)
 rintro d G N ⟨k,_,b,rfl,rfl,hd,rfl⟩;refine(6,2,5,bL (λc=>?_) λc=>?_)
 ·have c:(k:Int)<(S:Int):=of_decide_eq_true c;rcases d with _|d
  ·have:=(hd.hit p l t r).1;lia
  obtain⟨v,I,W,kb,d1,d2⟩:=hd.step p l t r;exists _,λ a1 H2 z=>z;exists 5,2,.inl (4,4),5,2;obtain⟨o,fd,M,g1⟩:=L.fn;have u:(2:Int)*(k:Int)+(j:Int)=((2*k+j:Nat):Int):=by lia
  have O:=hd.one;exists f,o,fd,7,M,g1,5,M,U,J,2*k+j,_,8,L,I
  ·exact congrArg (λv=>[v]) (congrArg V.int u)
  refine(5,2,5,bL (λz=>?_) λz=>?_)
  ·have z:g<v:=of_decide_eq_true z;obtain⟨B,x⟩:=d2 z;refine(5,2,5,2,.inl (4,4),2,d,9,2*k+1-j,d,B,8,7,x,7);rw[show ((2*k+1-j:Nat):Int)=2*(k:Int)+(j:Int)+1-2*(j:Int)from by lia];rfl
  ·have z:¬g<v:=λy=>z (decide_eq_true y);obtain⟨B,x⟩:=d1 ⋯;refine(d,9,2*k+j,d,B,8,7,x,7);rw[<-u];rfl
 ·have c:¬(k:Int)<(S:Int):=λy=>c (decide_eq_true y);rcases d with _|d
  ·obtain⟨u,Z⟩:=hd.hit p l t r;exists 6,2;have:=q b Z;rw[show (b:Int)=(k:Int)-(S:Int)from by lia]at this;exact this
  ·obtain⟨v,I,W,_⟩:=hd.step p l t r;lia
inductive N6(vs:List V)(H:Hp)(Q:VK)(_e1:XK):Prop
 | mk (f nd:Addr) (xs:List V) (ns:List Int) (S sp:Nat) (g:Int) (_:vs=[.int (ns.length:Int),.ref f,.int (sp:Int),.int g]) (_:Quiet H f nd xs) (_:jx ns.length S) (_:ju ns S 1 xs) (_:ns.length<=4096) (_:sp<=ns.length) (_:∀(x:V) (H':Hp),aU H H'->((x=.non /\ ∀j c,j<sp->ns[j]?=some c->g<c) \/ ∃i:Nat,x=.int (i:Int)/\ZZ ns 1 0 sp g i)->Q x H')
theorem tQ(T:Tx K mg a):aV P w K mg base T9 3 a.abL a.abb ["many","look","stop","goal"] N6:=by
 refine T.ab1.F.Ub lu λa7 A a5 s H vs Q E R h=>?_;obtain⟨f,nd,N,D,S,k,g,rfl,hA,U,Y,hl,h1,q⟩:=h;refine(_,(aj (bC PassesOwn.never rfl (JZ rfl T.Y0 (ak (aH T.afZ (Ly T) R (My 0 (ak aq (My 2 aa)))) aa) Tw.jc) (aP 4 lu.nd) (au (bh (aK mD (gA ((jP T).mono ∅) R (i:=1) rfl (My 4 aa)) (pv 3)) (au (aF (aH T.abp (qQ T) R (ak (aH T.X4 (kZ T) R (My 0 aa)) (My 1 (My 4 (My 3 (ak aq aa)))))))) aN)))
  (au (aF jn))),8)
 have a3:=U.pos;obtain⟨h,eS,v,hj⟩:=id U;refine(6,D.length,0,k,7,aaD _,h1,hl,λd r H1 a4 a6 Um J=>?_);have:=jx.uniq a4 U;subst this;have ch:=Dd (st:=0) (h,eS) (aaD k) ⋯ a3;obtain⟨_,v1,_,_⟩:=vG Y v h1 ch (aac _);have WY:=hA.same Um;have e0:(nats (cover d 0 k)).length=(cover d 0 k).length:=aaa ..;exists r,5,T6.of J;refine GC (xs:=nats (cover d 0 k)) (λi L V=>(∃X,L=[some (.int (D.length:Int)),some (.ref f),some (.int (k:Int)),some (.int g),X])/\V=H1 /\ ∃(b:Nat),Chain d 0 k ((cover d 0 k).take ((cover d 0 k).length-i)) (d+0) (d+b)/\b<=k /\ ∀j c,b<=j->j<k->D[j]?=some c->g<c) ((none,7),7,k,by rw[ahn,ahu];exact ch,aac _,λj c G O=>by lia) ?_ ?_ ?_
 ·rintro i L V _ ⟨_,rfl,_⟩;exact T6.of J
 ·rintro i x L V hi t ⟨⟨X,rfl⟩,rfl,b,I,hb,l⟩;rw[e0]at hi t;unfold nats at t;rw[aag]at t;obtain⟨n,hn,rfl⟩:∃n,(cover d 0 k)[(cover d 0 k).length-1-i]?=some n/\x=.int (n:Int):=by
   cases e:(cover d 0 k)[(cover d 0 k).length-1-i]? with
   |none=>rw[e]at t;cases t
   |some n=>rw[e]at t;exact(n,7,(aax t).symm)
  have et:(cover d 0 k).take ((cover d 0 k).length-i)=(cover d 0 k).take ((cover d 0 k).length-(i+1))++[n]:=by
   rw[show (cover d 0 k).length-i=((cover d 0 k).length-(i+1))+1 from by lia,abH,show (cover d 0 k).length-(i+1)=(cover d 0 k).length-1-i from by lia,hn];rfl
  obtain⟨y,W,y2⟩:=sG ((cover d 0 k).length-(i+1)) I;have m:((cover d 0 k).take ((cover d 0 k).length-(i+1))).length=(cover d 0 k).length-(i+1):=by
   rw[aaz];lia
  rw[et,ahv (by rw[m];exact aac _),aai (by rw[m];exact aac _)]at W;rw[et,List.drop_append_of_le_length (by rw[m];exact aac _),af5 (by rw[m];exact aac _),ahW]at y2;obtain⟨e,Z,⟨n1,n2,n3,n4⟩,B⟩:=y2;have hy:=Bp W;obtain⟨C,rfl⟩:∃C,y=d+C:=(y-d,9);have hp:0<2^e:=agH e;have e5:(n+1)*2^e=d+(C+2^e):=by rw[ahT,Z];lia
  have B:(n+1)*2^e=d+b:=B;rw[e5]at B n3;obtain⟨w1,w2,w3⟩:=v1 n (aah hn);obtain⟨M,m1,m2,m3⟩:=Y.least v e n C Z ⋯ n1;have ev:=jb m1;obtain⟨o,fd,e1,g1⟩:=WY.fn;exists f,o,fd,7,e1,g1,5,e1,nd,N,n,5,WY,w3;refine(5,2,5,bL (λz=>?_) λz=>?_)
  ·have z:tV N n<=g:=of_decide_eq_true z;refine(5,D.length,7,9,λS2 a2=>?_);have:=jx.uniq a2 U;subst this;refine(6,5,f,nd,N,D,S2,(1),n,C,e,g,7,WY,Y,v,4,Z,9,n1,z,λp a1=>?_);refine q _ _ Um (.inr (p,7,8));obtain⟨p1,p2,p3,p4⟩:=a1;refine(aaD _,9,p3,λj c G O j3 u=>?_);rw[if_neg ∅]at j3;rcases aay j b with y|y
   ·exact p4 j c ⋯ ⋯ (by rw[if_neg ∅];exact j3) u
   ·exact l j c y O u
  ·have z:¬tV N n<=g:=λy=>z (decide_eq_true y);refine((_,7),7,C,W,9,λj c G O u=>?_);rcases aay j b with y|y
   ·have:=m3 j c G ⋯ u;lia
   ·exact l j c y O u
 ·rintro L V ⟨⟨X,rfl⟩,rfl,b,I,hb,l⟩;rw[e0,ahK,aiu]at I;have I:d+0=d+b:=I;exact q _ _ Um (.inl (7,λj c G u=>l j c ⋯ G u))
structure BP where
 t:Addr
 L:LK
 ah:Addr
 nd:Addr
 ns:List Int
 lows:List Int
 S:Nat
 xs:List V
structure U0(H:Hp)(Ph:Addr)(p:BP)(ss:List Int):Prop where
 ask:Ask H p.t p.L p.ah p.ns ss [.ref p.nd]
 Wz:H p.nd=some (.tup p.xs)
 low:Dz p.ns p.lows
 sz:jx p.lows.length p.S
 heap:ju p.lows p.S 1 p.xs
 tab:TabAt H Ph (bW bR) aY.qual
structure Did(H H':Hp)(Ph:Addr)(L:LK)(k:Nat)(ss ss':List Int):Prop where
 kp:∀b o,H b=some o->b≠Ph->L.wr≠some b->H' b=some o
 seen:∀sn,L.wr=some sn->H' sn=some (.lst (ss'.map V.int))
 tab:TabAt H' Ph (bW bR) aY.qual
 wr:bO L.all.length k ss ss'
theorem Did.trans{H l i:Hp}{d:Addr}{L:LK}{j k:Nat}{a b c:List Int}(h:Did H l d L j a b)(h':Did l i d L k b c):Did H i d L (j+k) a c:=
 (λx o e g f=>h'.kp x o (h.kp x o e g f) g f,h'.seen,h'.tab,h.wr.trans h'.wr)
theorem Did.le{H d:Hp}{c:Addr}{L:LK}{j k:Nat}{a b:List Int}(h:Did H d c L j a b)(e:j<=k):Did H d c L k a b:=(h.kp,h.seen,h.tab,h.wr.le e)
theorem Did.same{H f d:Hp}{c:Addr}{L:LK}{j:Nat}{a b:List Int}(h:Did H f c L j a b)(s:aU f d):Did H d c L j a b:=
 (λx o e k i=>s _ _ (h.kp x o e k i),λg e=>s _ _ (h.seen g e),TabAt.same h.tab s,h.wr)
theorem U0.self{p:BP}(h:U0 H f p d):Did H H f p.L 0 d d:=(λ_ _ e _ _=>e,λb e=>(h.ask.asks.seen b e).1,h.tab,bO.none d)
theorem TabAt.put{P:Addr}{pos:Pos}{q:Str}{L:LK}{tt:List Int}(h:TabAt H P pos q)(a:Asks H L d):TabAt (L.put H tt) P pos q:=by
 cases e:L.wr with
 |none=>
  rw[LK.put_none e];exact h
 |some b=>
  rw[LK.put_some e];exact TabAt.upd h (a.seen b e).1
theorem U0.look{H':Hp}{p:BP}(h:U0 H f p d){k:Nat}(w:bO p.L.all.length k d J)(s:aU (p.L.put H J) H'):Did H H' f p.L k d J:=
 (λx o e g b=>s _ _ (by rw[LK.put_ne b];exact e),λc e=>s _ _ (by rw[LK.put_some e];exact ao),TabAt.same (TabAt.put h.tab h.ask.asks) s,w)
theorem U0.did{H':Hp}{p:BP}{k:Nat}(h:U0 H f p d)(c:Did H H' f p.L k d J)(t:J.length<=16000000):U0 H' f p J:=by
 have l:∀b o,H b=some o->(∀g,o ≠ .Ug g)->b≠f:=λb o e n=>TabAt.ne h.tab e n;have m:∀b o,H b=some o->(∀g,o ≠ .lst g)->p.L.wr≠some b:=λb o e n z=>by
  rw[(h.ask.asks.seen b z).1]at e;cases e;exact n _ rfl
 have i:∀b o,H b=some o->(∀g,o ≠ .Ug g)->(∀g,o ≠ .lst g)->H' b=some o:=λb o e s r=>c.kp b o e (l b o e s) (m b o e r);have q:p.L.wr≠some p.L.bl:=λz=>(h.ask.asks.seen _ z).2 rfl;have u:=c.kp _ _ h.ask.asks.nodes (l _ _ h.ask.asks.nodes nofun) q;exact(((i _ _ h.ask.tab.tup nofun nofun,i _ _ h.ask.tab.Vb nofun nofun,h.ask.tab.few),(h.ask.asks.look.kept i,λj e=>(c.seen j e,(h.ask.asks.seen j e).2),u,t),h.ask.bits,h.ask.len,h.ask.blk),i _ _ h.Wz nofun nofun,h.low,h.sz,h.heap,c.tab)
theorem U0.same{H H':Hp}{c:Addr}{p:BP}{b:List Int}(h:U0 H c p b)(s:aU H H'):U0 H' c p b:=(h.ask.same s,s _ _ h.Wz,h.low,h.sz,h.heap,TabAt.same h.tab s)
theorem U0.lenL{p:BP}(h:U0 H f p d):p.lows.length=many p.ns.length/\many p.ns.length<=128:=(h.low.len,by have:=h.ask.len;unfold many;lia)
theorem U0.made{H':Hp}{p:BP}(h:U0 H f p d)(b:gr f H H')(t:TabAt H' f (bW bR) aY.qual):Did H H' f p.L 0 d d:=
 (λx o e g _=>b x o e g,λc e=>b _ _ (h.ask.asks.seen c e).1 (TabAt.ne h.tab (h.ask.asks.seen c e).1 nofun),t,bO.none d)
theorem Did.free{H':Hp}{l:Addr}{L:LK}{k:Nat}(b:Did H H' f L k d J)(h:H' l=none):H l=none:=by
 cases e:H l with
 |none=>rfl
 |some o=>
  by_cases g:l=f
  ·obtain⟨j,i,_⟩:=b.tab;rw[g,i]at h;cases h
  by_cases c:L.wr=some l
  ·rw[b.seen l c]at h;cases h
  rw[b.kp l o e g c]at h;cases h
inductive vd(vs:List V)(H:Hp)(Q:VK)(_e1:XK):Prop
 | mk (t ah:Addr) (ns:List Int) (rest:List V) (_:vs=[.ref t]) (_:Tab H t ah ns rest) (_:Q (.int (many ns.length:Nat)) H)
theorem uG(T:Tx K mg a):aV P w K mg base T9 1 a.acs a.abN ["tables"] vd:=by
 refine T.acN.F.Ub wz λg A d s H i Q E j h=>?_;obtain⟨t,f,b,rest,rfl,c,q⟩:=h;exists _,(au (aF (aB bz (aJ aO rfl T.Ul Tw.bx (ak (aW aQ (pv 0) aq) aa)) aq)));exists 5,t,_,2,T8.of c.tup,pB _ _ _ c.few,f,5,.inr (T8.of c.Vb),2;have e:(((Uv b (many b.length)).map V.int).length:Int)-1=((many b.length:Nat):Int):=by
  rw[aaa,cZ];lia
 rw[<-e]at q;exact q
inductive tO(vs:List V)(H:Hp)(Q:VK)(_e1:XK):Prop
 | mk (j:Nat) (x:V) (_:vs=[.int (j:Int),x]) (_:((x=.non/\Q .non H) \/ ∃k:Nat,x=.int (k:Int)/\Q (.int ((32*j+k:Nat):Int)) H))
theorem tH(T:Tx K mg a):aV P w K mg base T9 1 a.abO a.abh ["number","within"] tO:=by
 refine T.ab2.F.Ub tL λc A b s H d Q E e h=>?_;obtain⟨j,x,rfl,h⟩:=h;refine(_,(aj (bh (jY (nF (pv 1))) (au (aF jn)) aN)
  (au (aF (aB aX (aB cI (bF (v:=.int 32) rfl T.Vr (_,7)) (pv 0)) (pv 1))))),8)
 rcases h with ⟨rfl,q⟩|⟨k,rfl,q⟩
 ·exact(6,kE q)
 ·refine(6,eF (5,2,.inl (4,4),5,2,8));rw[show ((32*j+k:Nat):Int)=32*(j:Int)+(k:Int)from by lia]at q;exact q
inductive uI(vs:List V)(H:Hp)(Q:VK)(_e1:XK):Prop
 | mk (t:Addr) (L:LK) (ah:Addr) (ns ss:List Int) (rest:List V) (j up:Nat) (g:Int) (_:vs=[.ref t,.ref L.f,.int (j:Int),.int (up:Int),.int g]) (_:Ask H t L ah ns ss rest) (_:ss.length<16000000) (_:32*j<up) (_:up<=ns.length) (_:∀x ss' H',((x=.non/\eV ns (32*j) (32*j+wide up j) g) \/ ∃k:Nat,x=.int (k:Int)/\jA ns (32*j) (32*j+wide up j) g k)->bO L.all.length 1 ss ss'->aU (L.put H ss') H'->Q x H')
theorem lG(T:Tx K mg a):aV P w K mg base T9 5 a.acu a.abP ["tables","look","number","upto","goal"] uI:=by
 refine T.aa0.F.Ub lU λM A y s H N Q E c h=>?_;obtain⟨t,L,I,d,z,rest,j,e,g,rfl,b,u,C,J,q⟩:=h;refine(_,(aj (aA 5 lU.nd (aH T.abr (nu T) c (My 2 (My 3 aa))))
  (au (aF (aH T.ab2 (tH T) c (My 2 (ak (aH T.acL (vo T) c (ak (gA ((dB T).mono ∅) c (i:=1) rfl (My 2 aa)) (ak aq (My 5 (ak (aB bz (pv 4) (aH T.aed (uX T) c (My 0 (My 2 aa)))) aa))))) aa)))))),8)
 obtain⟨o,G,B,D⟩:=b.asks.look.fn;have n:j<many d.length:=by
  unfold many;lia
 have m:wide e j<=32:=by
  unfold wide;lia
 exists 6,j,e,7,agu C;exists 5,L.f,o,G,7,B,D,5,B,L,z,j,5,7,b.asks,u,b.blk _ (by first|exact n|lia);have x:=b.more (tt:=z++[((L.off+j:Nat):Int)]) (by rw[aae,agK];lia);exists 6,6,t,I,d,rest,j,7,x.tab,agu n,2;have w:=b.wr n;refine(cL d j,0,wide e j,g-ht d (32*j),7,m,λp k l hd v=>?_,λp l r=>?_)
 ·exact(j,5,.inr (k,7,q _ _ p (.inr (5,last_within b.bits m hd v)) w l))
 ·exact(j,5,.inl (7,q _ _ p (.inl (7,Dc b.bits m r)) w l))
inductive p7(Ph:Addr)(vs:List V)(H:Hp)(Q:VK)(_e1:XK):Prop
 | mk (p:BP) (ss:List Int) (at0:Nat) (g:Int) (_:vs=[.ref p.t,.ref p.L.f,.int ((at0:Int)-1),.int g]) (_:U0 H Ph p ss) (_:ss.length<=15999990) (_:at0<=p.ns.length+1) (_:∀x ss' H',((x=.non/\eV p.ns 0 (at0-1) g) \/ ∃k:Nat,x=.int (k:Int)/\jA p.ns 0 (at0-1) g k)->Did H H' Ph p.L 2 ss ss'->Q x H')
theorem qU(T:Tx K mg a)(B:Bs mg base a):aV P w K mg base T9 6 a.abi a.aa5 ["tables","look","upto","goal"] (p7 a.Uh):=by
 refine T.abt.F.Ub dF λa3 A X s H vs Q E n h=>?_;obtain⟨p,Y,l,g,rfl,f,a1,h1,q⟩:=h;refine(_,(aj (bh (aK jh (pv 2) aq) (au (aF jn)) aN)
  (aj (aA 4 dF.nd (aB cj (aB bz (pv 2) aq) (bF (v:=.int 32) rfl T.Vr (_,7))))
  (aj (aA 5 dF.nd (aH T.aa0 (lG T) n (My 0 (My 1 (My 4 (My 2 (My 3 aa)))))))
  (aj (bh (jY (Ox (pv 5))) (au (aF (pv 5))) aN)
  (aj (aA 6 dF.nd (aH T.ab1 (tQ T) n (ak (aH T.acN (uG T) n (My 0 aa)) (ak (aH T.aee (Ac T B) n (My 0 aa)) (My 4 (My 3 aa))))))
  (aj (bh (jY (nF (pv 6))) (au (aF jn)) aN)
  (au (aF (aH T.aa0 (lG T) n (My 0 (My 1 (My 6 (My 2 (My 3 aa)))))))))))))),8)
 have a0:=f.ask.len;refine(5,2,5,bL (λc=>?_) λc=>?_)
 ·have c:(l:Int)-1<1:=of_decide_eq_true c;exact q _ Y H (.inl (7,eV.empty ⋯)) (f.self.le ∅)
 have c:¬(l:Int)-1<1:=λz=>c (decide_eq_true z);obtain⟨d,rfl⟩:∃d,l=d+1:=(l-1,9);rw[ahA]at q;have eu:((d+1:Nat):Int)-1=(d:Int):=by lia
 have ef:(((d+1:Nat):Int)-1-1) / 32=(((d-1) / 32:Nat):Int):=by lia
 exists 5,2,2,(4,4);refine(6,6,5,p.t,p.L,p.ah,p.ns,Y,_,(d-1) / 32,d,g,8,f.ask,9,9,9,λx O H1 m r s1=>?_)
 ·rw[<-ef,<-eu];rfl
 have M:=f.look r s1;have l1:=r.len;have o:=f.did M ⋯;rw[show 32*((d-1) / 32)+wide d ((d-1) / 32)=d from by unfold wide;lia]at m;rcases m with ⟨rfl,u⟩|⟨k,rfl,I⟩
 rotate_left
 ·refine(6,kE (5,q _ O H1 (.inr (k,7,I.wider ⋯)) (M.le ∅)))
 refine(6,eF ?_);obtain⟨e1,e2⟩:=f.lenL;exists 5,p.t,p.ah,p.ns,5,o.ask.tab;refine(5,p.t,p.nd,1,p.xs,7,o.ask.tab.tup,o.Wz,o.tab,λJ H5 nf b5 U qu=>?_);have d5:=M.trans (o.made b5 U);have X3:=f.did d5 ⋯;have ev:[V.int ((many p.ns.length:Nat):Int),.ref J,.int ((((d+1:Nat):Int)-1-1) / 32),.int g]=[.int (p.lows.length:Int),.ref J,.int (((d-1) / 32:Nat):Int),.int g]:=by
  rw[e1,ef]
 have a2:(d-1) / 32<=many p.ns.length:=by
  unfold many;lia
 refine(6,J,p.nd,p.xs,p.lows,p.S,(d-1) / 32,g,ev,qu,f.sz,f.heap,9,9,λx H6 Z m=>?_);have d6:=d5.same Z;have y:=X3.same Z;rcases m with ⟨rfl,D⟩|⟨i,rfl,h3,h4,⟨c5,h5,W⟩,h6⟩
 ·refine(6,kE (q _ O H6 (.inl (7,8)) (d6.le ∅)));have:=f.low.none (i:=0) (j:=(d-1) / 32) (b:=32*((d-1) / 32)) (λt N t1 G e=>D t N G e) (aac _) ⋯;exact this.join u
 refine(6,eF ?_);refine(6,6,5,p.t,p.L,p.ah,p.ns,O,_,i,d,g,8,y.ask,9,9,9,λx Ze H7 m R s7=>?_)
 ·rw[<-eu];rfl
 have d7:=d6.trans (y.look R s7);rw[show 32*i+wide d i=32*(i+1)from by unfold wide;lia]at m;have C:eV p.ns (32*(i+1)) d g:=(f.low.none (i:=i+1) (j:=(d-1) / 32) (b:=32*((d-1) / 32)) (λt N t1 G e=>h6 t N (aaD _) G (by rw[if_neg ∅];lia) e) (aac _) ⋯).join u;rcases m with ⟨rfl,hn⟩|⟨k,rfl,I⟩
 ·refine absurd ?_ (f.low.some h5 W);rw[show min (32*i+32) p.ns.length=32*(i+1)from by lia];exact hn
 ·exact q _ Ze H7 (.inr (k,7,(jA.ahead C I ⋯).wider ⋯)) d7
inductive zT(Ph:Addr)(vs:List V)(H:Hp)(Q:VK)(_e1:XK):Prop
 | mk (p:BP) (ss:List Int) (at0:Nat) (g:Int) (_:vs=[.ref p.t,.ref p.L.f,.int (at0:Int),.int g]) (_:U0 H Ph p ss) (_:ss.length<=15999990) (_:at0<=p.ns.length) (_:∀x ss' H',((x=.non/\LQ p.ns at0 g) \/ ∃k:Nat,x=.int (k:Int)/\uO p.ns at0 g k)->Did H H' Ph p.L 2 ss ss'->Q x H')
theorem oX(T:Tx K mg a)(B:Bs mg base a):aV P w K mg base T9 7 a.adU a.adh ["tables","look","at","goal"] (zT a.Uh):=by
 refine T.ab8.F.Ub pL λL A o s H M Q E r h=>?_;obtain⟨p,v,b,g,rfl,u,n,N,q⟩:=h;refine(_,(aj (bc (aH T.X5 (fJ T) r (My 2 (ak (aW aQ (pv 0) aq) aa))))
  (aj (aA 4 pL.nd (aH T.abt (qU T B) r (My 0 (My 1 (ak (aB bz (pv 2) aq) (My 3 aa))))))
  (aj (bh (PW.pt (jC (jY (nF (pv 4))) (jC (aK lw (pv 2) aq) (je (aK Ax (pv 3) aq))))) (au (aF aq)) aN)
  (au (aF (pv 4)))))),8)
 refine(6,p.t,_,2,T8.of u.ask.tab.tup,7,_,5,9,9,8);refine(6,5,2,5,p,v,b,g,7,u,n,9,λx j l C f=>?_);rcases C with ⟨rfl,e⟩|⟨k,rfl,R,O,J,I⟩
 rotate_left
 ·refine(6,eF (eF (5,q _ j l (.inr (k,7,9,J,λi m y=>I i m ⋯)) f)))
 refine(6,kE ?_);refine(5,2,5,bL (λd=>?_) λd=>eF (5,q _ j l (.inl (7,λi D=>?_)) f))
 rotate_left
 ·have d:¬(0:Int)<(b:Int):=λz=>d (decide_eq_true z);lia
 have d:(0:Int)<(b:Int):=of_decide_eq_true d;refine(5,2,5,bL (λc=>?_) λc=>(5,q _ j l (.inl (7,λi D=>?_)) f))
 ·have c:(0:Int)<=g:=of_decide_eq_true c;have:=q _ j l (.inr (0,7,9,by rw[gh];exact c,λi m y=>e i m ⋯)) f;exact this
 ·have c:¬(0:Int)<=g:=λz=>c (decide_eq_true z);rcases ags i with rfl|G
  ·rw[gh];lia
  ·exact e i G ⋯
inductive qD(vs:List V)(H:Hp)(Q:VK)(E:XK):Prop
 | mk (t:Addr) (L:LK) (ah:Addr) (ns ss:List Int) (rest:List V) (at0:Nat) (b:Int) (_:vs=[.ref t,.ref L.f,.int (at0:Int),.int b]) (_:Ask H t L ah ns ss rest) (_:ss.length<16000000) (_:ns[at0]?=some b) (_:∀ss' H',bO L.all.length 1 ss ss'->aU (L.put H ss') H'->Q .non H')
theorem jJ(T:Tx K mg a):aV P w K mg base T9 5 a.abj a.aa6 ["tables","look","at","bit"] qD:=by
 refine T.aaJ.F.Ub qC λp A f s H r Q E k h=>?_;obtain⟨t,L,n,j,g,rest,e,b,rfl,m,d,l,q⟩:=h;exists _,(au (bh (aK vA (aH T.X6 (mW T) k (My 0 (My 1 (My 2 aa)))) (pv 3)) (au cz) aN));exact(6,5,t,L,n,j,g,rest,e,b,7,m,d,l,λc o w i=>(5,7,5,rN rfl (q c o w i)))
inductive Eb(Ph:Addr)(vs:List V)(H:Hp)(Q:VK)(_e1:XK):Prop
 | mk (p:BP) (ss:List Int) (at0:Nat) (_:vs=[.ref p.t,.ref p.L.f,.int (at0:Int)]) (_:U0 H Ph p ss) (_:ss.length<=15999980) (_:Tree p.ns) (_:p.ns[at0]?=some 0) (_:∀(k:Nat) ss' H',uO p.ns at0 (ht p.ns at0-1) k->Did H H' Ph p.L 4 ss ss'->Q (.int (k:Int)) H')
theorem Ex(T:Tx K mg a)(B:Bs mg base a):aV P w K mg base T9 8 a.afh a.aeE ["tables","look","at"] (Eb a.Uh):=by
 refine T.afq.F.Ub Fy λV A j s H W Q E e h=>?_;obtain⟨p,u,b,rfl,d,S,g,f,q⟩:=h;have U:=(aab.mp f).1;refine(_,(aj (bc (aH T.aaJ (jJ T) e (My 0 (My 1 (My 2 (ak aq aa))))))
  (au (aF (aH T.ab8 (oX T B) e (My 0 (My 1 (My 2 (ak (aB bz (aH T.YW (qP T) e (My 0 (My 1 (My 2 aa)))) aq) aa)))))))),8)
 refine(6,5,p.t,p.L,p.ah,p.ns,u,_,b,0,7,d.ask,9,f,λO H1 m y=>?_);have o:=d.look m y;have Y:=m.len;have r:=d.did o ⋯;refine(6,6,6,p.t,p.L,p.ah,p.ns,O,_,b,7,r.ask,9,9,λN H2 l v=>?_);have n:=o.trans (r.look l v);have X:=l.len;have i:=d.did n ⋯;refine(2,p,N,b,ht p.ns b-1,7,i,9,9,λx M R C J=>?_);have c:0<b/\0<=ht p.ns b-1:=by
  have I:=pM f;have Z:=g.pos (k:=b+1) ⋯;refine(8,9);rcases ags b with rfl|z
  ·rw[gh]at I;lia
  ·exact z
 rcases C with ⟨rfl,D⟩|⟨k,rfl,G⟩
 ·have:=D 0 c.1;rw[gh]at this;lia
 ·exact q k M R G (n.trans J)
inductive Fj(Ph:Addr)(vs:List V)(H:Hp)(Q:VK)(_e1:XK):Prop
 | mk (p:BP) (ss:List Int) (at0:Nat) (pairs:Int) (_:vs=[.ref p.t,.ref p.L.f,.int (at0:Int),.int pairs]) (_:U0 H Ph p ss) (_:ss.length<=15999980) (_:Tree p.ns) (_:p.ns[at0]?=some 1) (_:∀x ss' H',((pairs=0/\x=.int (at0:Int))\/(pairs≠0/\((x=.non/\LQ p.ns at0 (ht p.ns at0-pairs)) \/ ∃k:Nat,x=.int (k:Int)/\uO p.ns at0 (ht p.ns at0-pairs) k)))->Did H H' Ph p.L 4 ss ss'->Q x H')
theorem vJ(T:Tx K mg a)(B:Bs mg base a):aV P w K mg base T9 8 a.acv a.abQ ["tables","look","at","pairs"] (Fj a.Uh):=by
 refine T.acO.F.Ub vX λR A i s H S Q E e h=>?_;obtain⟨p,r,b,pairs,rfl,d,N,M,l,q⟩:=h;have O:=(aab.mp l).1;refine(_,(aj (bc (aH T.aaJ (jJ T) e (My 0 (My 1 (My 2 (ak aq aa))))))
  (aj (bh (aK dR (pv 3) aq) (au (aF (pv 2))) aN)
  (au (aF (aH T.ab8 (oX T B) e (My 0 (My 1 (My 2 (ak (aB bz (aH T.YW (qP T) e (My 0 (My 1 (My 2 aa)))) (pv 3)) aa))))))))),8)
 refine(6,5,p.t,p.L,p.ah,p.ns,r,_,b,(1),7,d.ask,9,l,λn J k v=>?_);have f:=d.look k v;have W:=k.len;have o:=d.did f ⋯;refine(5,7,5,bL (λc=>?_) λc=>?_)
 ·have c:V.int pairs=V.int 0:=of_decide_eq_true c;injection c with c
  exact(5,q _ n J (.inl (c,7)) (f.le ∅))
 have c:pairs≠0:=λz=>c (decide_eq_true (congrArg V.int z));refine(6,6,6,p.t,p.L,p.ah,p.ns,n,_,b,7,o.ask,9,9,λG X j u=>?_);have m:=f.trans (o.look j u);have U:=j.len;have g:=d.did m ⋯;exact(5,2,p,G,b,ht p.ns b-pairs,7,g,9,9,λx D I y C=>q x D I (.inr (c,y)) (m.trans C))
inductive zb(vs:List V)(H:Hp)(Q:VK)(E:XK):Prop
 | mk (p:Addr) (ds:List Int) (_:vs=[.ref p]) (_:H p=some (.lst (ds.map V.int))) (_:ds.length<=2048) (_:gR ds) (_:∀r t ah nd bl lows S xs H',H bl=none->aU H H'->H' r=some (.tup [.ref t,.ref bl])->KB H' t ah nd bl (brk ds 0) lows S xs->Q (.ref r) H')
theorem zz(T:Tx K mg a):aV P w K mg base T9 7 a.adV a.adi ["depths"] zb:=by
 refine T.aef.F.Ub yQ λC A e s H D Q E g h=>?_;obtain⟨p,i,rfl,u,v,d,q⟩:=h;exists _,(au (aF (aH T.abq (qN T) g (ak (aH T.acP (wJ T) g (My 0 aa)) aa))));refine(5,p,i,7,u,d,v,λb M G f l=>?_);have L:=mV d;exact(b,brk i 0,7,T6.of l,9,nG _ _,uw d,λr t z n y c S j B x J I m k o=>q r t z n y c S j B (f.free x) (f.trans m) k o)
inductive xn(vs:List V)(H:Hp)(Q:VK)(_e1:XK):Prop
 | mk (t ah:Addr) (ns:List Int) (rest:List V) (_:vs=[.ref t]) (_:Tab H t ah ns rest) (_:Q (.int ((ns.length:Int) / 2)) H)
theorem wX(T:Tx K mg a):aV P w K mg base T9 1 a.adn a.acD ["tables"] xn:=by
 refine T.adD.F.Ub xP λd A b s H e Q E g h=>?_;obtain⟨t,i,f,rest,rfl,c,q⟩:=h;exists _,(au (aF (aB cj (aW aQ (pv 0) aq) aq)));exact(5,t,_,2,T8.of c.tup,uf _ _ _ c.few,2,(4,4),q)
inductive xJ(C:Addr)(vs:List V)(H:Hp)(Q:VK)(E:XK):Prop
 | mk (t ah:Addr) (ns:List Int) (rest:List V) (node:Int) (_:vs=[.ref t,.int node]) (_:Tab H t ah ns rest) (_:((0<=node/\node<(ns.length:Int) / 2/\Q .non H)\/((node<0\/(ns.length:Int) / 2<=node)/\E (.ref C) none H)))
theorem wV(T:Tx K mg a):aV P w K mg base (U9 P w) 2 a.ado a.acE ["tables","node"] (xJ a.Uq):=by
 refine T.adE.F.ok1 xH (λi H Q E h=>?_) (λm A f s H i Q E j h=>?_)
 ·obtain⟨t,g,e,rest,b,rfl,_⟩:=h;rfl
 obtain⟨t,g,e,rest,b,rfl,k,h⟩:=h;exists _,(au (bh (PW.pt (mz (aK jh (pv 1) aq) (jm (aK Ax (pv 1) (aH T.adD (wX T) j (My 0 aa)))))) (au (uD T.af8 rfl (ak oG aa))) aN));refine(5,2,5,bL (λc=>?_) λc=>?_)
 ·have c:=of_decide_eq_true c;rcases h with ⟨l,_⟩|⟨_,q⟩
  ·lia
  ·exact kE ((by show 1<=sizeLine;decide),q)
 have c:¬b<0:=λz=>c (decide_eq_true z);refine(6,t,g,e,rest,7,k,2,5,bL (λd=>?_) λd=>?_)
 ·have d:=of_decide_eq_true d;rcases h with ⟨l,n,_⟩|⟨_,q⟩
  ·lia
  ·exact((by show 1<=sizeLine;decide),q)
 have d:¬(e.length:Int) / 2<=b:=λz=>d (decide_eq_true z);rcases h with ⟨_,_,q⟩|⟨z,_⟩
 ·exact q
 ·lia
structure Nd(H:Hp)(Ph:Addr)(p:BP)(ss ds:List Int):Prop where
 b:U0 H Ph p ss
 few:ss.length<=15999900
 eq:p.ns=brk ds 0
 good:gR ds
theorem Nd.sum{p:BP}(h:Nd H f p d J):p.ns.sum=J.length:=by
 rw[h.eq];exact CZ h.good
theorem Nd.len{p:BP}(h:Nd H f p d J):p.ns.length=2*J.length:=by
 rw[h.eq];exact mV h.good
theorem Nd.tree{p:BP}(h:Nd H f p d J):Tree p.ns:=by
 rw[h.eq];exact uw h.good
theorem Nd.bits{H:Hp}{e:Addr}{p:BP}{c d:List Int}(h:Nd H e p c d):aZ p.ns:=h.b.ask.bits
theorem Nd.deep{p:BP}(h:Nd H f p d J){i x:Nat}(c:p.ns[x]?=some 1)(b:(p.ns.take x).sum=(i:Int)):J[i]?=some (ht p.ns x):=by
 rw[h.eq]at c b ⊢;exact JP h.good c b
theorem Nd.at{p:BP}(h:Nd H f p d J){j:Nat}(b:j<J.length):∃x,p.ns[x]?=some 1/\(p.ns.take x).sum=(j:Int):=Qo h.bits (by rw[h.sum];lia)
theorem Nd.nat{p:BP}(h:Nd H f p d J)(k:Nat):∃i:Nat,(p.ns.take k).sum=(i:Int):=by
 have:=lW h.bits 0 k (aaD _);rw[aiu]at this;have e:([]:List Int).sum=0:=rfl;exact((p.ns.take k).sum.toNat,9)
theorem Nd.btw{p:BP}(h:Nd H f p d J){k x i j:Nat}{g:Int}(u:k<=x)(v:(p.ns.take k).sum=(i:Int))(t:(p.ns.take x).sum=(j:Int))(b:∀q,k<=q->q<x->p.ns[q]?=some 1->g<ht p.ns q):∀m y,i<=m->m<j->J[m]?=some y->g<y:=λm y s r l=>by
 have o:=(aab.mp l).1;obtain⟨q,c,n⟩:=h.at o;have e:=h.deep c n;rw[l]at e;rw[aax e];refine b q ?_ ?_ c
 ·rcases aay q k with z|z
  ·have:=lW h.bits (q+1) k z;rw[mC c]at this;lia
  ·exact z
 ·rcases aay q x with z|z
  ·exact z
  ·have:=lW h.bits x q z;lia
theorem Nd.up{p:BP}(h:Nd H f p d J){k x i j:Nat}(n:k<=x)(c:p.ns[k]?=some 1)(o:(p.ns.take k).sum=(i:Int))(r:ht p.ns k=m)(l:p.ns[x]?=some 1)(E:(p.ns.take x).sum=(j:Int))(e:∀q,k<q->q<=x->m<ht p.ns q):Xh J j m i:=by
 have F:=lW h.bits k x n;refine(9,by rw[<-r];exact h.deep c o,λb y D C s=>?_);have v:=mC c;have u:=mC l;have t:k<x:=by
  rcases aay k x with z|z
  ·exact z
  ·have:k=x:=by lia
   subst this;lia
 exact h.btw (k:=k+1) (x:=x+1) (i:=i+1) (j:=j+1) ⋯ ⋯ ⋯ (λq B A _=>e q ⋯ ⋯) b y ⋯ ⋯ s
inductive Bv(Ph:Addr)(C:Addr)(vs:List V)(H:Hp)(Q:VK)(E:XK):Prop
 | mk (p:BP) (ss ds:List Int) (node:Int) (_:vs=[.ref p.t,.ref p.L.f,.int node]) (_:Nd H Ph p ss ds) (_:((∃j:Nat,node=(j:Int)/\j<ds.length /\ ∀(x:Nat) ss' H',p.ns[x]?=some 1->(p.ns.take x).sum=(j:Int)->Did H H' Ph p.L 1 ss ss'->Q (.int (x:Int)) H')\/((node<0\/(ds.length:Int)<=node)/\E (.ref C) none H)))
theorem sS(T:Tx K mg a):aV P w K mg base (U9 P w) 5 a.aeH a.adX ["tables","look","node"] (Bv a.Uh a.Uq):=by
 refine T.acX.F.ok1 CW (λn H Q E h=>?_) (λB A e s H n Q E g h=>?_)
 ·obtain⟨p,f,u,c,rfl,_⟩:=h;rfl
 obtain⟨p,f,u,c,rfl,d,h⟩:=h;refine(_,(aj (bc (eQ T.adE (wV T) ∅ g lr rfl (My 0 (My 2 aa))))
  (au (aF (eQ T.ab7 (pK T) ∅ g lr rfl (My 0 (My 1 (My 2 aa))))))),8)
 have k:=d.sum;have l:=d.len;have z:=d.few;exists 6,p.t,p.ah,p.ns,_,c,7,d.b.ask.tab;rcases h with ⟨j,rfl,C,q⟩|⟨i,q⟩
 ·exact .inl (9,9,6,5,p.t,p.L,p.ah,p.ns,f,[.ref p.nd],(j:Int),7,d.b.ask,9,.inl (9,9,λy x v i r m o=>q x v y i r (d.b.look m o)))
 ·exact .inr (9,q)
inductive Fl(Ph:Addr)(vs:List V)(H:Hp)(Q:VK)(_e1:XK):Prop
 | mk (p:BP) (ss:List Int) (at0:Nat) (_:vs=[.ref p.t,.ref p.L.f,.int (at0:Int)]) (_:U0 H Ph p ss) (_:ss.length<=15999960) (_:Tree p.ns) (_:((p.ns[at0]?=some 1 /\ ∀ss' H',Did H H' Ph p.L 2 ss ss'->Q (.int (p.ns.take at0).sum) H')\/(p.ns[at0]?=some 0 /\ ∀(k:Nat) ss' H',uO p.ns at0 (ht p.ns at0-1) k->Did H H' Ph p.L 6 ss ss'->Q (.int (p.ns.take k).sum) H')))
theorem Ez(T:Tx K mg a)(B:Bs mg base a):aV P w K mg base T9 9 a.afk a.aeG ["tables","look","at"] (Fl a.Uh):=by
 refine T.afs.F.Ub DK λS A u s H U Q E j h=>?_;obtain⟨p,v,b,rfl,d,W,G,h⟩:=h;refine(_,(aj (bh (aK dR (aH T.X6 (mW T) j (My 0 (My 1 (My 2 aa)))) aq) (au (aF (aH T.Xk (ir T) j (My 0 (My 1 (My 2 aa)))))) aN)
  (au (aF (aH T.Xk (ir T) j (My 0 (My 1 (ak (aH T.afq (Ex T B) j (My 0 (My 1 (My 2 aa)))) aa))))))),8)
 rcases h with ⟨c,q⟩|⟨c,q⟩
 ·have r:=(aab.mp c).1;refine(6,5,p.t,p.L,p.ah,p.ns,v,[.ref p.nd],b,(1),7,d.ask,9,c,λo R e l=>?_);have f:=d.look e l;have M:=e.len;have g:=d.did f ⋯;refine(7,5,bL (λ_=>?_) λz=>absurd ∅ z);exact(6,5,p.t,p.L,p.ah,p.ns,o,[.ref p.nd],b,7,g.ask,9,9,λn y D J=>q n y (f.trans (g.look D J)))
 ·have r:=(aab.mp c).1;refine(6,5,p.t,p.L,p.ah,p.ns,v,[.ref p.nd],b,0,7,d.ask,9,c,λo R e l=>?_);have f:=d.look e l;have M:=e.len;have g:=d.did f ⋯;refine(7,5,bL (λz=>absurd z ∅) λ_=>?_);refine(6,6,5,p,o,b,7,g,9,G,c,λk n y x m=>?_);have V:=m.wr.len;have i:=g.did m ⋯;have:=x.1;exact(p.t,p.L,p.ah,p.ns,n,[.ref p.nd],k,7,i.ask,9,9,λN O C I=>q k N O x ((f.trans m).trans (i.look C I)))
inductive UpV(ds:List Int)(j:Nat)(steps:Int)(x:V):Prop
 | mk (d:_) (_:ds[j]?=some d) (_:((x=.non/\d<steps) \/ ∃i:Nat,x=.int (i:Int)/\Xh ds j (d-steps) i))
inductive J9(Ph:Addr)(C:Addr)(vs:List V)(H:Hp)(Q:VK)(E:XK):Prop
 | mk (p:BP) (ss ds:List Int) (node steps:Int) (_:vs=[.ref p.t,.ref p.L.f,.int node,.int steps]) (_:Nd H Ph p ss ds) (_:((∃j:Nat,node=(j:Int)/\j<ds.length/\0<=steps /\ ∀x ss' H',UpV ds j steps x->Did H H' Ph p.L 7 ss ss'->Q x H')\/((node<0\/ds.length<=node)/\E (.ref C) none H)))
theorem KC(T:Tx K mg a)(B:Bs mg base a):aV P w K mg base (U9 P w) 10 a.afY a.afN ["tables","look","node","steps"] (J9 a.Uh a.Uq):=by
 refine T.af0.F.ok1 Ak (λW H Q E h=>?_) (λa4 A N s H W Q E u h=>?_)
 ·obtain⟨p,O,y,g,c,rfl,_⟩:=h;rfl
 obtain⟨p,O,y,g,c,rfl,f,h⟩:=h;refine(_,(aj (aA 4 Ak.nd (aH T.acO (vJ T B) u (My 0 (My 1 (ak (eQ T.acX (sS T) ∅ u lr rfl (My 0 (My 1 (My 2 aa)))) (My 3 aa))))))
  (aj (bh (jY (nF (pv 4))) (au (aF jn)) aN)
  (au (aF (aH T.afs (Ez T B) u (My 0 (My 1 (My 4 aa)))))))),8)
 have a3:=f.few;exists 6,6,5,p,O,y,g,7,f;rcases h with ⟨j,rfl,hj,a1,q⟩|⟨M,e⟩
 rotate_left
 ·exact .inr (M,e)
 refine .inl (j,7,hj,λx Ur H1 d m G=>?_);have l1:=G.wr.len;have V:=f.b.did G ⋯;have t:=f.tree;have n:=f.deep d m;have XS:=(aab.mp d).1;refine(5,p,Ur,x,c,7,V,9,t,d,λv J H2 hv D=>?_);have l2:=D.wr.len;have l:=G.trans D;have o:=V.did D ⋯;have r:∀(k:Nat),k<=x->p.ns[k]?=some 1->ht p.ns k=ht p.ns x-c->(∀i,k<i->i<=x->ht p.ns x-c<ht p.ns i)->UpV y j c (.int (p.ns.take k).sum):=λk k1 k2 k3 Z=>by
  obtain⟨i,U⟩:=f.nat k;exact(_,n,.inr (i,by rw[U],f.up k1 k2 U k3 d m Z))
 rcases hv with ⟨rfl,rfl⟩|⟨a0,⟨rfl,hn⟩|⟨k,rfl,S⟩⟩
 ·refine(6,eF ?_);exact(6,5,p,J,x,7,o,9,t,.inl (d,λI L C=>q _ I L (r x (aac _) d ⋯ (λi i1 i2=>by lia)) (l.trans C)))
 ·refine(6,kE ?_);refine q _ J H2 (_,n,.inl (7,8)) (l.le ∅);rcases ags x with z|z
  ·subst z;rw[gh];lia
  ·have:=hn 0 z;rw[gh]at this;lia
 ·obtain⟨R,Y,X⟩:=z6 f.bits (show ht p.ns x-c<ht p.ns x by lia) ⋯ S;have a2:=S.1;refine(6,eF ?_);exact(6,5,p,J,k,7,o,9,t,.inl (R,λI L C=>q _ I L (r k ⋯ R Y X) (l.trans C)))
inductive Rx(R:List Int->Nat->V->Prop)(k:Nat)(Ph:Addr)(C:Addr)(vs:List V)(H:Hp)(Q:VK)(E:XK):Prop
 | mk (p:BP) (ss ds:List Int) (node:Int) (_:vs=[.ref p.t,.ref p.L.f,.int node]) (_:Nd H Ph p ss ds) (_:((∃j:Nat,node=(j:Int)/\j<ds.length /\ ∀x ss' H',R ds j x->Did H H' Ph p.L k ss ss'->Q x H')\/((node<0\/(ds.length:Int)<=node)/\E (.ref C) none H)))
inductive Tn(ds:List Int)(j:Nat)(x:V):Prop
 | mk (d:_) (_:ds[j]?=some d) (_:x=.int d)
theorem rZ(T:Tx K mg a):aV P w K mg base (U9 P w) 6 a.aeI a.adY ["tables","look","node"] (Rx Tn 2 a.Uh a.Uq):=by
 refine T.acY.F.ok1 Dm (λv H Q E h=>?_) (λI A l s H v Q E n h=>?_)
 ·obtain⟨p,m,o,c,rfl,_⟩:=h;rfl
 obtain⟨p,m,o,c,rfl,f,h⟩:=h;exists _,(au (aF (aH T.YW (qP T) n (My 0 (My 1 (ak (eQ T.acX (sS T) ∅ n lr rfl (My 0 (My 1 (My 2 aa)))) aa))))));have G:=f.few;exists 6,6,5,p,m,o,c,7,f;rcases h with ⟨j,rfl,z,q⟩|⟨k,e⟩
 rotate_left
 ·exact .inr (k,e)
 refine .inl (j,7,z,λx C N d i g=>?_);have J:=g.wr.len;have r:=f.b.did g ⋯;have M:=(aab.mp d).1;exact(p.t,p.L,p.ah,p.ns,C,[.ref p.nd],x,7,r.ask,9,9,λB D u y=>q _ B D (_,f.deep d i,7) (g.trans (r.look u y)))
def PX(b:List Int)(j:Nat)(x:V):Prop:=UpV b j 1 x
theorem Ck(T:Tx K mg a)(B:Bs mg base a):aV P w K mg base (U9 P w) 11 a.aeJ a.adZ ["tables","look","node"] (Rx PX 7 a.Uh a.Uq):=by
 refine T.aeT.F.ok1 Dn (λi H Q E h=>?_) (λn A d s H i Q E k h=>?_)
 ·obtain⟨p,f,g,b,rfl,_⟩:=h;rfl
 obtain⟨p,f,g,b,rfl,m,h⟩:=h;exists _,(au (aF (eQ T.af0 (KC T B) ∅ k lr rfl (My 0 (My 1 (My 2 (ak aq aa)))))));exists 6,5,p,f,g,b,(1),7,m;rcases h with ⟨j,rfl,l,q⟩|⟨c,e⟩
 ·exact .inl (j,7,l,9,q)
 ·exact .inr (c,e)
def InR(b:List Int):Prop:=∀z∈b,-(10:Int)^60<z/\z<10^60
inductive uU(K:PySem.W.Frag)(vs:List V)(H:Hp)(Q:VK)(_e1:XK):Prop
 | mk (p:Addr) (ns:List Int) (_:vs=[.ref p]) (_:T6 K H p (ns.map V.int)) (_:ns.length<=4096) (_:InR ns) (_:Q .non H)
theorem wu(T:Tx K mg a):aV P w K mg base T9 1 a.acx a.abT ["signs"] (uU K):=by
 refine T.acQ.F.Ub mK λt A j s H u Q E e h=>?_;obtain⟨p,l,rfl,f,y,r,q⟩:=h;refine(_,(aj (bh (aK lw (aJ aO rfl T.Ul Tw.bx (My 0 aa)) (bF (v:=.int 4096) rfl T.afv (_,7))) (au cz) aN)
  (au (bC PassesOwn.never rfl (bJ (pv 0)) (aP 1 mK.nd) (au (bh (fX (wB jh jh (gB dh (aB DQ aq aq)) (pv 1) (aB DQ aq aq))) (au cz) aN))))),8)
 refine(5,p,5,.inl f,2,5,bL (λc=>?_) λc=>?_)
 ·have c:(4096:Int)<((l.map V.int).length:Int):=of_decide_eq_true c;rw[aaa]at c;lia
 exists 5,p,7,(_,f);refine bU (xs:=l.map V.int) (λi b d=>(∃k,b=[some (.ref p),k])/\d=H) ((none,7),7) ?_ ?_ ?_
 ·rintro i b d _ ⟨_,rfl⟩;exact f
 ·rintro i x b d o ⟨⟨k,rfl⟩,rfl⟩;obtain⟨z,n,rfl⟩:=int_at o;have e:=r z (aah n);refine(2,(4,4,4),6,2,5,bL (λm=>?_) λm=>absurd (decide_eq_true e.1) m);refine(2,(4,4,4),2,5,bL (λg=>?_) λg=>((_,7),7));rw[decide_eq_true (show z<10^(60:Int).toNat from e.2)]at g;exact absurd g ∅
 ·rintro b d ⟨_,rfl⟩;exact q
def rks(c b:List Int):List Int:=b.map λz=>(c.idxOf z:Int)
inductive uz(K:PySem.W.Frag)(vs:List V)(H:Hp)(Q:VK)(_e1:XK):Prop
 | mk (q p:Addr) (ms ns:List Int) (_:vs=[.ref q,.ref p]) (_:T6 K H q (ms.map V.int)) (_:T6 K H p (ns.map V.int)) (_:ms.Nodup) (_:(∀z∈ns,z∈ms)) (_:ms.length<=4096) (_:ns.length<=4096) (_:∀r H',H r=none->aU H H'->H' r=some (.lst ((rks ms ns).map V.int))->Q (.ref r) H')
theorem uy(T:Tx K mg a):aV P w K mg base T9 1 a.acz a.abU ["kinds","signs"] (uz K):=by
 refine T.acR.F.Ub fc λa0 A L s H vs Q E S h=>?_;obtain⟨R,p,u,ns,rfl,X,W,nd,J,hm,hn,q⟩:=h;refine(_,(aj (vO (i:=2) fc.nd rfl (ah6 rfl) CP)
  (aj (bC PassesOwn.never rfl (ud rfl T.X8 (My 0 aa)) (iT rfl (bA (aP 3 fc.nd) (bA (aP 4 fc.nd) fB))) (au (GZ (aha (ahS (by decide:1<=64) _) S.units) (pv 2) (pv 4) (pv 3) rfl)))
  (au (aF (mO rfl (cu.one (j:=2) rfl (ahy rfl) rfl rfl (ahy rfl)) (bJ (pv 1)) (λ_ _ _ _=>fu) (λ_ _ _ _=>(Pn (aha (ahS (by decide:1<=64) _) S.units) (pv 1) (pv 0) (λ_ _=>rfl)))))))),8)
 intro d hd;have N:=az hd (.dK []);exists 5,R,5,N.seq X;refine uE (xs:=u.map V.int) (λi t r=>(∃G C,t=[some (.ref R),some (.ref p),some (.ref d),G,C])/\aU H r /\ ∃b:List (Key×V),r d=some (.dK b)/\b.length<=i /\ ∀(j:Nat) (z:Int),j<i->u[j]?=some z->gY b (Sum.inl z)=some (.int (j:Int))) ((none,none,7),N,[],ao,aac _,λj z U=>absurd U (ahJ _)) ?_ ?_ ?_
 ·rintro i t r _ ⟨_,c,_⟩;exact c.seq X
 ·rintro i x t r pt hx ⟨⟨G,C,rfl⟩,c,b,B,hl,v⟩ W3;obtain⟨z,f,rfl⟩:=int_at hx;have I:=(aab.mp f).1;have M:=az W3 (.tup [.int (i:Int),.int z]);exists pt,5,T8.of ao,7,_,5,2;exists 6,5,d,5,.inl (b,Sum.inl z,M _ _ B,7,by rw[sizeLine_eq];lia,7);refine((_,5),bT (c.trans M) hd _,_,ao,8,λj y U o=>?_)
  ·have:=Aq b (Sum.inl z) (.int (i:Int));lia
  ·rw[Aj];by_cases e:y=z
   ·subst e;rw[if_pos rfl];have:j=i:=by
     have n:=(aab.mp o).1;rw[aad n]at o;rw[aad I]at f;have e:=(aax o).trans (aax f).symm;have O:=abF.mp nd;rcases ahL j i with l|l|l
     ·exact absurd e (O j i n I l)
     ·exact l
     ·exact absurd e.symm (O i j I n l)
    rw[this]
   ·rw[if_neg (λz=>e (Sum.inl.inj z))];refine v j y ?_ o;rcases aay j i with l|l
    ·exact l
    ·have:j=i:=by lia
     subst this;rw[f]at o;exact absurd (aax o).symm e
 ·rintro t r ⟨⟨G,C,rfl⟩,c,b,B,hl,v⟩;rw[aaa]at v;exists 5,p,7,(_,c.seq W);refine yM (λz=>(u.idxOf z:Int)) (c.seq W) (by rw[sizeLine_eq];lia) (λ_ _ _ q=>q) (λz H2 Q f Z q=>(6,d,5,8,q)) λD Y=>?_
  ·have f:=J z f;have m:=aik f;have e:=v (u.idxOf z) z m (by rw[aad m];exact congrArg some (ai2 m));have g:=yX.k (k:=Sum.inl z) (Z _ _ B);rw[e]at g;exact g
  ·exact q D _ (c.free Y) (c.trans (az Y _)) ao
inductive vU(vs:List V)(H:Hp)(Q:VK)(_e1:XK):Prop
 | mk (n:Nat) (_:vs=[.int (n:Int)]) (_:n<=100000) (_:∀h:Nat,jx n (2^h)->Q (.int (h:Int)) H)
theorem Lw(h:Nat):Builtin.Int.intBits ((2^h:Nat):Int)=h+1:=by
 unfold Builtin.Int.intBits;have:0<2^h:=agH h;rw[if_neg (by rw[beq_iff_eq];lia),Int.natAbs_natCast,Nat.log2_two_pow]
theorem vm(T:Tx K mg a):aV P w K mg base T9 2 a.acA a.abV ["kind_count"] vU:=by
 refine T.acS.F.Ub vQ λj A b s H k Q E c h=>?_;obtain⟨n,rfl,d,q⟩:=h;exists _,(au (aF (aB bz (Ql PySem.F.plainAttrs_int PySem.F.slot_int_bit_length PySem.F.type_int_bit_length xj (aH T.X4 (kZ T) c (My 0 aa))) aq)));refine(5,n,7,d,λS f=>?_);obtain⟨h,rfl,i,g⟩:=f;exists 7,5,7,2;have e:((Builtin.Int.intBits ((2^h:Nat):Int):Nat):Int)-1=(h:Int):=by
  rw[Lw];lia
 show Q (.int (((Builtin.Int.intBits ((2^h:Nat):Int):Nat):Int)-1)) H;rw[e];exact q h (h,7,i,g)
def Vg(os:List Int)(k:Nat):List Int:=(os.filter λz=>bit z k=0)++os.filter λz=>bit z k=1
theorem uv(os:List Int)(k:Nat):(Vg os k).length=os.length:=by
 unfold Vg;rw[aae]
 induction os with
 |nil=>rfl
 |cons z os b=>
  have:bit z k=0\/bit z k=1:=by
   unfold bit;lia
  rcases this with e|e
  ·simp only[agN,e,decide_true,if_true,aaB,show decide ((0:Int)=1)=false from rfl,agr,if_false];lia
  ·simp only[agN,e,decide_true,if_true,aaB,show decide ((1:Int)=0)=false from rfl,agr,if_false];lia
theorem Ca(os:List Int)(f:Int->Int)(c:Int):((os.zip (os.map f)).filter λp=>decide (V.int p.2=V.int c)).map (λp=>p.1)=os.filter λz=>f z=c:=by
 induction os with
 |nil=>rfl
 |cons z os b=>
  rw[aar,ahz,agN,agN];by_cases e:f z=c
  ·rw[if_pos (decide_eq_true (by rw[e])),if_pos (decide_eq_true e),aar,b]
  ·rw[if_neg (by simp[e]),if_neg (by simp[e]),b]
inductive Jz(K:PySem.W.Frag)(vs:List V)(H:Hp)(Q:VK)(_e1:XK):Prop
 |mk (p r:Addr) (os:List Int) (k:Nat) (_:vs=[.ref p,.ref r]) (_:T6 K H p (os.map V.int)) (_:T6 K H r ((os.map λz=>bit z k).map V.int)) (_:os.length<=4096) (_:∀l H',H l=none->aU H H'->H' l=some (.lst ((Vg os k).map V.int))->Q (.ref l) H')
theorem Io(T:Tx K mg a):aV P w K mg base T9 1 a.afM a.afi ["order","bits"] (Jz K):=by
 refine T.afT.F.Ub rB λI A n s H J Q E L h=>?_;obtain⟨p,r,b,k,rfl,g,f,M,q⟩:=h;refine(_,(aj (oN (i:=2) rB.nd rfl rfl rfl (cu.zero,7,4) (yS rfl T.Y5 Tw.yU (My 0 (My 1 aa))) (λ_ _ _ _=>(GQ (aK dR (pv 1) aq))) (λ_ _ _ _=>(pv 0)))
  (aj (oN (i:=3) rB.nd rfl rfl rfl (cu.zero,7,4) (yS rfl T.Y5 Tw.yU (My 0 (My 1 aa))) (λ_ _ _ _=>(GQ (aK dR (pv 1) aq))) (λ_ _ _ _=>(pv 0)))
  (au (aF (aB nY (pv 2) (pv 3)))))),8)
 exists 6,p,r,_,5,g,f;refine yK (os:=b) (bs:=b.map λz=>bit z k) (λ_ y=>decide (V.int y=V.int 0)) (λx _=>x) g f (by rw[aaa]) (by rw[sizeLine_eq];lia) (λx y m Q j q=>(5,7,5,q)) (λx y m Q j q=>(5,q)) λC O G c t=>?_;rw[Ca]at t;exists 6,p,r,_,5,c.seq g,c.seq f;refine yK (os:=b) (bs:=b.map λz=>bit z k) (λ_ y=>decide (V.int y=V.int 1)) (λx _=>x) (c.seq g) (c.seq f) (by rw[aaa]) (by rw[sizeLine_eq];lia) (λx y m Q j q=>(5,7,5,q)) (λx y m Q j q=>(5,q)) λB N D v o=>?_;rw[Ca]at o;have e:=uv b k;unfold Vg at e;rw[aae]at e;refine(6,C,B,2,v _ _ t,o,8,λl d=>?_)
 ·rw[aaa,aaa,sizeLine_eq];lia
 have u:=c.trans v;refine q l _ (u.free d) (u.trans (az d _)) ?_;rw[ao];unfold Vg;rw[aaj]
def Up:Nat->List Int->List (List Int)
 |0,_=>[]
 |k+1,b=>(b.map λz=>bit z k)::Up k (Vg b k)
theorem jd:∀(k:Nat) (os:List Int),(Up k os).length=k
 |0,_=>rfl
 |k+1,os=>by
  unfold Up;rw[aaB,jd k]
theorem pI:∀(k:Nat) (os bs:List Int),bs∈Up k os->aZ bs/\bs.length=os.length
 |0,_,_,h=>by cases h
 |k+1,os,bs,h=>by
  unfold Up at h;rcases aas.mp h with rfl|h
  ·refine(λx b=>?_,aaa ..);obtain⟨z,_,rfl⟩:=aaZ.mp b;unfold bit;lia
  ·obtain⟨d,c⟩:=pI k _ _ h;exact(d,c.trans (uv os k))
def tX(H:Hp)(c:List Addr)(d:List (List Int)):Prop:=c.length=d.length /\ ∀(i:Nat) (l:Addr) (b:List Int),c[i]?=some l->d[i]?=some b->H l=some (.lst (b.map V.int))
theorem tX.same{H':Hp}{b:List (List Int)}(h:tX H g b)(s:aU H H'):tX H' g b:=(h.1,λi l c e d=>s _ _ (h.2 i l c e d))
theorem tX.snoc{j:List (List Int)}{l:Addr}{xs:List Int}(h:tX H g j)(e:H l=some (.lst (xs.map V.int))):tX H (g++[l]) (j++[xs]):=by
 refine(by rw[aae,aae,h.1];rfl,λi k f b d=>?_);rcases aay i g.length with c|c
 ·rw[aaw c]at b;rw[aaw (by rw[<-h.1];exact c)]at d;exact h.2 i k f b d
 ·rw[aap c]at b;rw[aap (by rw[<-h.1];exact c),<-h.1]at d;have:i-g.length=0:=by
   have:=(aab.mp b).1;simp at this;lia
  rw[this]at b d;cases b;cases d;exact e
theorem tX.upd{c:List (List Int)}{x:Addr}{o:HO}(h:tX H g c)(e:x∉g):tX (upd H x o) g c:=
 (h.1,λi l d b f=>by rw[aG (λz:l=x=>e (z ▸ aah b))];exact h.2 i l d b f)
def Wj(K:PySem.W.Frag)(H:Hp)(r o:Addr)(xs:List V):Prop:=(Rd H o (.lst xs)/\o≠r) \/ ∀b,T6 K b o xs
theorem Wj.of{r o:Addr}{xs:List V}(h:T6 K H o xs)(b:H r=none):Wj K H r o xs:=by
 rcases h with h|h
 ·refine .inl (h,λz=>?_);subst z;unfold Rd at h;rcases h with h|⟨_,h⟩
  ·rw[b]at h;cases h
  ·rw[b]at h;cases h
 ·exact .inr λ_=>.inr h
theorem Wj.sq{r o:Addr}{xs:List V}(h:Wj K H r o xs):T6 K H o xs:=by
 rcases h with h|h
 ·exact .inl h.1
 ·exact h H
theorem Wj.to{H':Hp}{r o:Addr}{xs:List V}(h:Wj K H r o xs)(s:∀b u,b≠r->H b=some u->H' b=some u):Wj K H' r o xs:=by
 rcases h with ⟨h,n⟩|h
 ·refine .inl (8,n);unfold Rd at h ⊢;rcases h with h|⟨c,h⟩
  ·exact .inl (s _ _ n h)
  ·exact .inr (c,s _ _ n h)
 ·exact .inr h
inductive xG(K:PySem.W.Frag)(vs:List V)(H:Hp)(Q:VK)(_e1:XK):Prop
 | mk (p:Addr) (os:List Int) (n:Nat) (_:vs=[.ref p,.int (n:Int)]) (_:T6 K H p (os.map V.int)) (_:os.length<=4096) (_:n<=4096) (_:∀(h:Nat) (r:Addr) (ls:List Addr) (H':Hp),jx n (2^h)->h<=12->H r=none->aU H H'->H' r=some (.lst (ls.map V.ref))->tX H' ls (Up h os)->(∀l∈ls,H l=none)->Q (.ref r) H')
theorem RX{n :Nat}(g:n<=4096)(b:jx n (2^i)):i<=12:=by
 obtain⟨f,e,j,d⟩:=b;have:i=f:=(Nat.pow_right_inj (a:=2) ∅).mp e;subst this;rcases aay 12 i with c|c
 ·have:=d 12 c;lia
 ·exact c
theorem wU(T:Tx K mg a):aV P w K mg base T9 3 a.adl a.acB ["ranks","kind_count"] (xG K):=by
 refine T.adC.F.Ub cU λa4 A a3 s H vs Q E hr h=>?_;obtain⟨p,t,n,rfl,hS,X,hn,q⟩:=h;refine(_,(aj (aA 2 cU.nd (bQ aa))
  (aj (aA 3 cU.nd (pv 0))
  (aj (bC PassesOwn.never rfl (Bm rfl T.Wx (ak (aB bz (aH T.acS (vm T) hr (My 1 aa)) aq) (ak (gB dh aq) (ak (gB dh aq) aa)))) (mL (i:=4) cU.nd rfl (ah6 rfl)) (aj (kW (i:=5) cU.nd rfl rfl rfl (cu.one (j:=4) rfl (ahy rfl) rfl rfl (ahy rfl)) (bJ (pv 3)) (λ_ _ _ _=>fu) (λ_ _ _ _=>(aH T.YM (qz T) hr (My 0 (My 1 aa)))))
  (aj (bc (gn PySem.F.plainAttrs_list PySem.F.slot_list_append PySem.F.type_list_append bN (pv 2) (My 5 aa)))
  (au (aA 3 cU.nd (aH T.afT (Io T) hr (My 3 (My 5 aa))))))))
  (au (aF (pv 2)))))),8)
 refine((by show 0<=sizeLine;decide),λr v=>(5,8));have s0:=az v (.lst []);refine(5,n,7,9,λh hz=>?_);have a2:=RX hn hz;refine(2,6,(h:Int)-1,-1,7,9,4,9,4,8);refine CN (λi σ m=>∃(o:Addr) (c:List Int) (d:List Addr) (k4 k5:Option V) (C:List (List Int)),σ=[some (.ref p),some (.int (n:Int)),some (.ref r),some (.ref o),k4,k5]/\aU H m/\Wj K m r o (c.map V.int)/\c.length=t.length/\m r=some (.lst (d.map V.ref))/\tX m d C/\C.length=i/\(∀l∈d,H l=none/\l≠r)/\Up h t=C++Up (h-i) c) ?_ ?_ ?_
 ·exact(p,t,[],none,none,[],7,s0,(Wj.of hS v).to (λb u n e=>by rw[aG n];exact e),7,ao,(7,λi l xs e=>by cases e),7,(λl X=>nomatch X),7)
 ·rintro i σ m hi ⟨o,c,d,k4,k5,C,rfl,G,I,R,f,g,B,y,Y⟩;have ei:(h:Int)-1+(i:Int) * -1=((h-1-i:Nat):Int):=by lia
  rw[ei];obtain⟨k,hk⟩:∃k,h-i=k+1:=(h-i-1,9);have ek:h-1-i=k:=by lia
  rw[ek];exists 5,o,7,(_,I.sq);refine yM (λz=>bit z k) I.sq (by rw[sizeLine_eq];lia) (λ_ _ _ q=>q) (λz H2 Q hz s2 q=>(6,z,(k:Int),7,9,q)) λb Z=>?_;have W:=az Z (.lst ((c.map λz=>bit z k).map V.int));have xb:upd m b (.lst ((c.map λz=>bit z k).map V.int)) b=some (.lst ((c.map λz=>bit z k).map V.int)):=ao;have a0:H b=none:=G.free Z;have N:b≠r:=λz=>by rw[z,f]at Z;cases Z
  replace I:=I.to λb u _ e=>W b u e
  replace f:=W _ _ f
  replace g:=g.same W
  replace G:=G.trans W
  generalize upd m b (.lst ((c.map λz=>bit z k).map V.int))=L at *;exists 5,.inl (7,_,T6.of f),5,r,2,f,?_
  ·rw[aaa,g.1,B,sizeLine_eq];lia
  have s2:=bT G v (.lst (d.map V.ref++[.ref b]));have M:upd L r (.lst (d.map V.ref++[.ref b])) b=some (.lst ((c.map λz=>bit z k).map V.int)):=by rw[aG N];exact xb
  have a1:=(I.to (H':=upd L r (.lst (d.map V.ref++[.ref b]))) λb u n e=>by rw[aG n];exact e).sq;have U:tX (upd L r (.lst (d.map V.ref++[.ref b]))) (d++[b]) (C++[c.map λz=>bit z k]):=(g.upd λz=>(y r z).2 rfl).snoc M;have O:upd L r (.lst (d.map V.ref++[.ref b])) r=some (.lst ((d++[b]).map V.ref)):=by
   rw[ao,aaj];rfl
  generalize upd L r (.lst (d.map V.ref++[.ref b]))=H2 at *;refine(6,o,b,c,k,7,a1,T6.of M,9,λl H3 S D x3=>?_);exists l,Vg c k,d++[b],1,C++[c.map λz=>bit z k],7,s2.trans D,.inl (.inl x3,8),(uv c k).trans R,D _ _ O,U.same D,8,λx J=>?_
  ·intro z;rw[z,O]at S;cases S
  ·rw[aae,B];rfl
  ·rcases aaW.mp J with J|J
   ·exact y x J
   ·rw[aam.mp J];exact(a0,N)
  ·rw[Y,hk,aaG,show h-(i+1)=k from by lia];rfl
 ·rintro σ m ⟨o,c,d,k4,k5,C,rfl,G,I,R,f,g,B,y,Y⟩;have ei:((h:Int)-1 - -1).toNat=h:=by lia
  rw[ei]at B Y;have:Up h t=C:=by
   rw[Y,ahK];exact ag3 _
  rw[<-this]at g;exact(5,q h r d m hz a2 v G f g λl X=>(y l X).1)
theorem Qd(c:List Int)(z:Int):z∈met (λi=>c.getD i 0) c.length ↔ z∈c:=by
 rw[tZ];constructor
 ·rintro⟨i,b,rfl⟩;rw[agP,aad b];exact acV b
 ·intro h;obtain⟨i,b,rfl⟩:=agI h;exact(i,b,by rw[agP,aad b];rfl)
structure Kinds(ns ms:List Int):Prop where
 up:ms.Pairwise (· < ·)
 mem:∀z,z∈ms ↔ z∈ns
theorem Kinds.nd(h:Kinds d J):J.Nodup:=h.up.imp λa=>Int.ne_of_lt a
theorem kinds_of{e:List Int}(f:e=met (λi=>d.getD i 0) d.length)(c:agx J e)(g:J.Pairwise (· <= ·)):Kinds d J:=by
 have h:J.Nodup:=c.nodup_iff.mpr (by rw[f];exact mU _ _);refine((g.and h).imp λ⟨a,b⟩=>by lia,λz=>?_);rw[c.mem_iff,f];exact Qd d z
def tK(H:Hp)(c:List Addr)(d:List (List Int)):Prop:=c.length=d.length /\ ∀(i:Nat) (l:Addr) (b:List Int),c[i]?=some l->d[i]?=some b->H l=some (.tup (b.map V.int))
theorem tK.to{H':Hp}{c:List (List Int)}(h:tK H g c)(s:∀b xs,H b=some (.tup xs)->H' b=some (.tup xs)):tK H' g c:=(h.1,λi l xs e d=>s _ _ (h.2 i l xs e d))
theorem tK.snoc{j:List (List Int)}{l:Addr}{xs:List Int}(h:tK H g j)(e:H l=some (.tup (xs.map V.int))):tK H (g++[l]) (j++[xs]):=by
 refine(by rw[aae,aae,h.1];rfl,λi k f b d=>?_);rcases aay i g.length with c|c
 ·rw[aaw c]at b;rw[aaw (by rw[<-h.1];exact c)]at d;exact h.2 i k f b d
 ·rw[aap c]at b;rw[aap (by rw[<-h.1];exact c),<-h.1]at d;have:i-g.length=0:=by
   have:=(aab.mp b).1;simp at this;lia
  rw[this]at b d;cases b;cases d;exact e
structure Kept(H:Hp)(r t b k c:Addr)(ns ms:List Int)(h:Nat)(ls:List Addr):Prop where
 r:H r=some (.tup [.ref t,.ref b])
 t:H t=some (.tup [.int (ns.length:Int),.ref k,.ref c])
 k:H k=some (.tup (ms.map V.int))
 c:H c=some (.tup (ls.map V.ref))
 ls:tK H ls ((Up h (rks ms ns)).map λbs=>Uv bs (many ns.length))
 b:H b=some (.lst ((((Up h (rks ms ns)).map bB).flatten).map V.int))
 kd:Kinds ns ms
 sz:jx ms.length (2^h)
 h12:h<=12
inductive xN(K:PySem.W.Frag)(vs:List V)(H:Hp)(Q:VK)(_e1:XK):Prop
 | mk (p:Addr) (ns:List Int) (_:vs=[.ref p]) (_:T6 K H p (ns.map V.int)) (_:ns.length<=4000) (_:InR ns) (_:∀(r t b k c:Addr) (ms:List Int) (h:Nat) (ls:List Addr) (H':Hp),H b=none->aU H H'->Kept H' r t b k c ns ms h ls->Q (.ref r) H')
theorem xU(T:Tx K mg a):aV P w K mg base T9 6 a.adk a.acy ["signs"] (xN K):=by
 refine T.adB.F.Ub cX λd8 A d3 s H vs Q E hr h=>?_;obtain⟨p,d,rfl,hS,hl,hi,q⟩:=h;refine(_,(aj (bc (aH T.acQ (wu T) hr (My 0 aa)))
  (aj (aA 1 cX.nd (aJ (zq rfl) rfl T.aeX Tw.rD (ak (cV (Jk rfl) rfl T.aga Tw.DG (My 0 aa)) aa)))
  (aj (aA 2 cX.nd (bQ aa))
  (aj (aA 3 cX.nd (bQ aa))
  (aj (bC PassesOwn.never rfl (bJ (aH T.adC (wU T) hr (ak (aH T.acR (uy T) hr (My 1 (My 0 aa))) (ak (aJ aO rfl T.Ul Tw.bx (My 1 aa)) aa)))) (aP 4 cX.nd) (aj (aA 5 cX.nd (aH T.YT (lX T) hr (My 4 aa)))
  (aj (bc (gn PySem.F.plainAttrs_list PySem.F.slot_list_append PySem.F.type_list_append bN (pv 2) (ak (aW aQ (aW aQ (pv 5) aq) aq) aa)))
  (au (bc (gn PySem.F.plainAttrs_list PySem.F.slot_list_extend PySem.F.type_list_extend qt (pv 3) (ak (aW aQ (pv 5) aq) aa)))))))
  (au (aF (b8 (ak (b8 (ak (aJ aO rfl T.Ul Tw.bx (My 0 aa)) (ak (cV gk rfl T.Y4 Tw.oW (My 1 aa)) (ak (cV gk rfl T.Y4 Tw.oW (My 2 aa)) aa)))) (My 3 aa)))))))))),8)
 exists 5,p,d,7,hS,9,hi;have d4:(met (λi=>d.getD i 0) d.length).length<=d.length:=uh _ _;refine(5,p,d,7,hS,8,λl0 ks o0 a2 a3 c6=>(l0,ks,7,by rw[ao,c6],λy g a4 pm b4=>?_))
 ·have:scanBound=4096:=rfl;lia
 have sA:=(az a2 o0).trans (az a4 (.lst (g.map V.int)));have B:upd (upd H l0 o0) y (.lst (g.map V.int)) y=some (.lst (g.map V.int)):=ao;have d5:H y=none:=(az a2 _).free a4;have hK:=kinds_of a3 pm b4;have c3:∀z∈d,z∈g:=λz hz=>(hK.mem z).mpr hz;have lm:g.length<=4000:=by rw[pm.length_eq,a3];lia
 generalize upd (upd H l0 o0) y (.lst (g.map V.int))=H1 at *;refine((by show 0<=sizeLine;decide),λf Z=>((by show 0<=sizeLine;decide),λm Vz=>?_));have sB:=(az Z (.lst [])).trans (az Vz (.lst []));have M:f≠m:=aD ao Vz;have X:upd (upd H1 f (.lst [])) m (.lst []) f=some (.lst []):=by rw[aG M];exact ao
 have W:upd (upd H1 f (.lst [])) m (.lst []) m=some (.lst []):=ao;have a9:H f=none:=sA.free Z;have G:H m=none:=sA.free ((az Z _).free Vz);have c0:y≠f:=aD B Z;have b9:y≠m:=aD B ((az Z _).free Vz)
 replace B:=sB _ _ B
 have sC:=sA.trans sB;generalize upd (upd H1 f (.lst [])) m (.lst [])=H2 at *;refine(6,y,p,g,d,7,T6.of B,sC.seq hS,hK.nd,c3,9,9,λrk H3 d6 u x3=>?_);refine(5,y,5,.inl (T6.of (u _ _ B)),rk,rks g d,g.length,8,T6.of x3,(by unfold rks;rw[aaa];lia),9,λh Uu ls H4 hz d2 Zf V1 x4 N a5=>?_)
 ·rw[aaa];rfl
 have c7:∀l∈ls,l≠f/\l≠m:=λl hl=>((aD (u _ _ X) (a5 l hl)).symm,(aD (u _ _ W) (a5 l hl)).symm);have b6:Uu≠f:=(aD (u _ _ X) Zf).symm;have b5:Uu≠m:=(aD (u _ _ W) Zf).symm;have sD:=u.trans V1
 replace B:=sD _ _ B
 replace X:=sD _ _ X
 replace W:=sD _ _ W
 have sE:=sC.trans sD;have d7:ls.length=h:=by rw[N.1,jd]
 exists Uu,7,(_,T6.of x4);refine bU (xs:=ls.map V.ref) (λi σ D=>(∃k4 k5,σ=[some (.ref p),some (.ref y),some (.ref f),some (.ref m),k4,k5])/\aU H D/\(∀b o,b≠f->b≠m->H4 b=some o->D b=some o) /\ ∃j:List Addr,D f=some (.lst (j.map V.ref))/\D m=some (.lst (((((Up h (rks g d)).take i).map bB).flatten).map V.int))/\tK D j (((Up h (rks g d)).take i).map λn=>Uv n (many d.length))/\((((Up h (rks g d)).take i).map bB).flatten).length<=128*i) ?_ ?_ ?_ ?_
 ·exact((none,none,7),sE,λb o _ _ e=>e,[],X,W,(7,λi l I e=>by cases e),aaD _)
 ·rintro i σ D _ ⟨_,_,U,_⟩;exact T6.of (U _ _ b6 b5 x4)
 ·rintro i x σ D hx ⟨⟨k4,k5,rfl⟩,sm,U,j,ya,yb,hts,YL⟩;rw[aag]at hx;obtain⟨l,O,rfl⟩:=aaM.mp hx;have c8:=(aab.mp O).1;obtain⟨n,R⟩:∃n,(Up h (rks g d))[i]?=some n:=(_,aad (by rw[<-N.1];exact c8));obtain⟨d0,a8⟩:=pI h _ n (aah R);have c4:(rks g d).length=d.length:=by unfold rks;exact aaa ..
  have c9:n.length=d.length:=a8.trans c4;have Zg:=c7 l (aah O);have yl:=U _ _ Zg.1 Zg.2 (N.2 i l n O R);have XS:j.length=i:=by
   rw[hts.1,aaa,aaz,jd];lia
  refine(5,l,n,7,T6.of yl,9,d0,λr b t v C d1 Y y1 a1 y2=>?_);have Zh:=Y _ _ ya;have b0:=Y _ _ yb;have c1:b≠f:=(aD ya d1).symm;exists 5,.inl (7,_,T6.of Zh),5,r,_,2,T8.of y1,7,t,_,2,T8.of a1.tup,7,f,2,Zh,?_
  ·rw[aaa,XS,sizeLine_eq];lia
  have a6:r≠f:=λz=>by rw[z,Zh]at y1;cases y1
  have b3:upd C f (.lst (j.map V.ref++[.ref v])) r=some (.tup [.ref t,.ref b]):=by rw[aG a6];exact y1
  have b2:upd C f (.lst (j.map V.ref++[.ref v])) b=some (.lst ((bB n).map V.int)):=by rw[aG c1];exact y2
  have J:upd C f (.lst (j.map V.ref++[.ref v])) m=some (.lst (((((Up h (rks g d)).take i).map bB).flatten).map V.int)):=by rw[aG (agG M)];exact b0
  have b1:upd C f (.lst (j.map V.ref++[.ref v])) f=some (.lst ((j++[v]).map V.ref)):=by rw[ao,aaj];rfl
  have s6:=bT (sm.trans Y) a9 (.lst (j.map V.ref++[.ref v]));have c2:∀c o,c≠f->c≠m->H4 c=some o->upd C f (.lst (j.map V.ref++[.ref v])) c=some o:=λc o n1 n2 e=>by rw[aG n1];exact Y _ _ (U c o n1 n2 e)
  have a0:∀c I,C c=some (.tup I)->upd C f (.lst (j.map V.ref++[.ref v])) c=some (.tup I):=λc I e=>by
   rw[aG λz=>?_]
   ·exact e
   ·rw[z,Zh]at e;cases e
  have a7:tK (upd C f (.lst (j.map V.ref++[.ref v]))) (j++[v]) ((((Up h (rks g d)).take i).map λn=>Uv n (many d.length))++[Uv n (many d.length)]):=by
   refine tK.snoc (hts.to λc I e=>a0 _ _ (Y _ _ e)) (a0 _ _ ?_);have:=a1.Vb;rw[c9]at this;exact this
  have pl:(bB n).length<=128:=by rw[bD];unfold many;lia
  generalize upd C f (.lst (j.map V.ref++[.ref v]))=H6 at *;have WD:(Up h (rks g d)).take (i+1)=(Up h (rks g d)).take i++[n]:=by rw[abH,R];rfl
  exists 5,.inl (7,_,T6.of J),5,r,_,2,T8.of b3,7,m,b,2,J,b2,?_
  ·rw[aaa,aaa,sizeLine_eq];lia
  exists (_,5),bT s6 G _,λc o n1 n2 e=>by rw[aG n2];exact c2 c o n1 n2 e,j++[v],by rw[aG M];exact b1,8,?_
  ·rw[ao,WD,aaj,aiW,aaj];simp
  ·rw[WD,aaj];refine a7.to λc I e=>?_;rw[aG λz=>?_]
   ·exact e
   ·rw[z,J]at e;cases e
  ·rw[WD,aaj,aiW,aae];simp only[aar,air,agJ,List.flatten_nil,ag3];lia
 ·rintro σ D ⟨⟨k4,k5,rfl⟩,sm,U,j,ya,yb,hts,YL⟩;have S:(Up h (rks g d)).take (ls.map V.ref).length=Up h (rks g d):=aai (by rw[aaa,jd];lia);rw[S]at yb hts;have yk:=U _ _ c0 b9 B;refine(5,p,5,.inl (sm.seq hS),5,y,5,.inl (T6.of yk,λk hk=>?_));have s1:=az hk (.tup (g.map V.int));refine(5,f,5,.inl (T6.of (s1 _ _ ya),λc hc=>?_));have s2:=az hc (.tup (j.map V.ref));have VV:(d.map V.int).length=d.length:=aaa ..;rw[VV];refine((by show 3<=sizeLine;decide),λt ht=>(5,(by show 2<=sizeLine;decide),λr c5=>?_));have s3:=az ht (.tup [.int (d.length:Int),.ref k,.ref c]);have s4:=az c5 (.tup [.ref t,.ref m]);have L:=s1.trans (s2.trans (s3.trans s4));exact q r t m k c g h j _ G (sm.trans L) (ao,s4 _ _ ao,s4 _ _ (s3 _ _ (s2 _ _ ao)),s4 _ _ (s3 _ _ ao),hts.to λb I e=>L _ _ e,L _ _ yb,hK,hz,d2)
def U8(w:Str):Prop:=w.length<=40 /\ ∀c∈w.cps.toList,97<=c/\c<=122
abbrev letters:Str := "abcdefghijklmnopqrstuvwxyz"
theorem Bh:∀k,k<26->(97+k)∈letters.cps.toList/\Builtin.Str.occurrences letters ⟨#[97+k]⟩ 0 letters.length 1=[k]:=by
 decide +kernel
theorem yD{c:Nat}(h:97<=c/\c<=122):c∈letters.cps.toList/\Builtin.Str.occurrences letters ⟨#[c]⟩ 0 letters.length 1=[c-97]:=by
 have:=Bh (c-97) ⋯;rw[show 97+(c-97)=c by lia]at this;exact this
theorem Eg(d:N.Nodup):(met (λi=>N.getD i ⟨#[]⟩) N.length).length=N.length:=by
 have m:=uh (λi=>N.getD i ⟨#[]⟩) N.length;have k:N.length<=(met (λi=>N.getD i ⟨#[]⟩) N.length).length:=by
  have:∀{l U:List Str},l.Nodup->(∀z∈l,z∈U)->l.length<=U.length:=by
   intro l
   induction l with
   |nil=>intro U _ _;exact aaD _
   |cons a l j=>
    intro U d h;have g:=h a aaL;have b:=agT.mp d;have q:=j (U:=U.erase a) b.2 λz c=>(List.mem_erase_of_ne λe:z=a=>b.1 (e ▸ c)).mpr (h z (aaC _ c));have e:=List.length_erase_of_mem g;have p:=List.length_pos_of_mem g;rw[aaB];lia
  refine this d λz c=>?_;obtain⟨i,f,e⟩:=agI c;refine(tZ _ _ _).mpr (i,f,8);rw[agP,aad f];exact e
 lia
theorem QL(b:List Str)(z:Str):z∈met (λi=>b.getD i ⟨#[]⟩) b.length ↔ z∈b:=by
 rw[tZ];constructor
 ·rintro⟨i,c,rfl⟩;show b.getD i ⟨#[]⟩∈b;rw[agP,aad c];exact acV c
 ·intro d;obtain⟨i,c,e⟩:=agI d;exists i,c;show b.getD i ⟨#[]⟩=z;rw[agP,aad c];exact e
inductive wg(K:PySem.W.Frag)(vs:List V)(H:Hp)(Q:VK)(_e1:XK):Prop
 | mk (p:Addr) (ws:List Str) (_:vs=[.ref p]) (_:T6 K H p (ws.map V.str)) (_:(∀w∈ws,U8 w)) (_:ws.Nodup) (_:ws.length<=4000) (_:∀H',aU H H'->Q .non H')
theorem v9(T:Tx K mg a):aV P w K mg base T9 1 a.acF a.abY ["words"] (wg K):=by
 refine T.acU.F.Ub iK λN A z s H O Q E R h=>?_;obtain⟨p,n,rfl,m,L,G,S,q⟩:=h;refine(_,(aj (bC PassesOwn.never rfl (bJ (pv 0)) (aP 1 iK.nd) (aj (bh (aK lw (aJ cC rfl T.Ul Tw.bx (My 1 aa)) (bF (v:=.int 40) rfl T.aer (_,7))) (au cz) aN)
  (au (bC PassesOwn.never rfl (QH (pv 1)) (aP 2 iK.nd) (au (bh (aK yO (pv 2) (bF (v:=.str "abcdefghijklmnopqrstuvwxyz") rfl T.aem (_,7)) (by with_unfolding_all rfl)) (au cz) aN))))))
  (au (bh (aK jh (aJ tD rfl T.Ul Tw.bx (ak (cV (sr rfl) rfl T.aga Tw.DG (My 0 aa)) aa)) (aJ aO rfl T.Ul Tw.bx (My 0 aa))) (au cz) aN))),8)
 exists 5,p,7,(_,m);refine bU (xs:=n.map V.str) (λi b f=>(∃r d,b=[some (.ref p),r,d])/\f=H) ((none,none,7),7) ?_ ?_ ?_
 ·rintro i b f _ ⟨_,rfl⟩;exact m
 ·rintro i x b f C ⟨⟨r,d,rfl⟩,rfl⟩;rw[aag]at C;obtain⟨e,M,rfl⟩:=aaM.mp C;obtain⟨U,k⟩:=L e (aah M);refine(5,e,7,by rw[sizeLine_eq];lia,2,5,bL (λc=>?_) λ_=>?_)
  ·have c:(40:Int)<(e.length:Int):=of_decide_eq_true c;lia
  exists 5,e,7;refine O1 (x:=e) (λi b t=>(∃d,b=[some (.ref p),some (.str e),d])/\t=f) ((_,7),7) ?_ ?_
  ·rintro j c b t J ⟨⟨d,rfl⟩,rfl⟩;have y:=k c (by
    have:=Array.mem_of_getElem? J;simpa using this)
   exists 5,2,5;rw[PySem.StrLaws.found_one,decide_eq_true (yD y).1];exact eF ((_,7),7)
  ·rintro b t ⟨⟨d,rfl⟩,rfl⟩;exact((_,5),7)
 ·rintro b f ⟨⟨r,d,rfl⟩,rfl⟩;have D:=Eg G;refine(5,p,n,7,m,(by rw[D];show _+1<4096;lia),λl B o g u I=>?_);refine(l,B,7,by rw[ao,I],5,p,5,.inl (az g _ |>.seq m),2,5,bL (λc=>?_) λ_=>q _ (az g _));have c:(B.length:Int)<((n.map V.str).length:Int):=of_decide_eq_true c;rw[u,D,aaa]at c;lia
theorem Hi{lo:Int}{n:Nat}{c:L2.St}{tt:TT}(f:Nat->V)(l:n<sizeLine)
  (g:∀(z:Int) (H':Hp) (Q:Bool->Hp->Prop),Q true H'->tt (some (.int z)::c) H' Q)(k:∀(i:Nat) (H':Hp) (Q:VK),i<n->aU H H'->Q (f i) H'->ta (some (.int (lo+i))::c) H' Q)
  (q:∀D,H D=none->B D (upd H D (.lst ((agq n).map f)))):jw (V6 lo n) c tt ta B H:=by
 intro D h;exists λi m d j=>m=n-i/\i<=n/\d=(agq i).map f/\j=upd H D (.lst d),(5,aaD _,7,7);rintro i m d j ⟨rfl,o,rfl,rfl⟩;by_cases b:i<n
 ·refine .inr (b,λv p y=>?_);obtain⟨rfl,rfl⟩:=y;refine g _ _ _ ?_;rw[if_pos rfl];refine k i _ _ b (az h _) (ao,8,n-(i+1),9,7,b,8,8)
  ·rw[aaa,agA];lia
  ·rw[agL,aaj];rfl
  ·rw[m6]
 ·have e:i=n:=by lia
  subst e;exact .inl (aac _,q D h)
theorem qm{K:PySem.W.Frag}{a:Addr}{xs:List V}{c:L2.St}{tt:TT}(g:V->V)(n:T6 K H a xs)(p:xs.length<sizeLine)
  (k:∀(x:V) (H':Hp) (Q:Bool->Hp->Prop),Q true H'->tt (some x::c) H' Q)(o:∀(x:V) (H':Hp) (Q:VK),x∈xs->aU H H'->Q (g x) H'->ta (some x::c) H' Q)
  (q:∀D,H D=none->B D (upd H D (.lst (xs.map g)))):jw (Wl K a) c tt ta B H:=by
 intro D h;exists λi m d l=>m=xs.length-i/\i<=xs.length/\d=(xs.take i).map g/\l=upd H D (.lst d),(5,aaD _,7,7);rintro i m d l ⟨rfl,r,rfl,rfl⟩;have j:=(az h (.lst ((xs.take i).map g))).seq n;by_cases b:i<xs.length
 ·have f:=aad b;refine .inr ((1,j,f),λv s y=>?_);obtain⟨rfl,y⟩:=y;have e:=y _ j;rw[f]at e;cases e;refine k _ _ _ ?_;rw[if_pos rfl];refine o _ _ _ (acV b) (az h _) (ao,8,xs.length-(i+1),9,7,b,8,8)
  ·rw[aaa,aaz];lia
  ·rw[aiS,f,aaj];rfl
  ·rw[m6]
 ·have e:i=xs.length:=by lia
  subst e;refine .inl ((_,j,aac _),8);have:=q D h;rw[aai (aac _)];exact this
def much:List Str->Nat
 |[]=>0
 |w::b=>w.length+much b
theorem Ie(ws:List Str):∀i,much (ws.take i)<=much ws:=by
 induction ws with
 |nil=>intro i;rw[aiD];exact aac _
 |cons w ws b=>
  intro i;cases i with
  |zero=>exact aaD _
  |succ i=>
   have:=b i;show w.length+much (ws.take i)<=w.length+much ws;lia
theorem Hu(ws:List Str)(w:Str):much (ws++[w])=much ws+w.length:=by
 induction ws with
 |nil=>show w.length+0=0+w.length;lia
 |cons v ws b=>
  show v.length+much (ws++[w])=v.length+much ws+w.length;lia
def fY(w:Str):List Str:=(agq w.length).map λi=>beg w (i+1)
theorem J4(ws:List Str)(t:Str):(t=⟨#[]⟩ \/ ∃w∈ws,t∈fY w) ↔ (t=⟨#[]⟩ \/ ∃w∈ws,∃k:Nat,t=beg w k):=by
 constructor
 ·rintro(h|⟨b,e,ht⟩)
  ·exact .inl h
  ·unfold fY at ht;obtain⟨j,_,rfl⟩:=aaZ.mp ht;exact .inr (b,e,j+1,7)
 ·rintro(h|⟨b,e,k,rfl⟩)
  ·exact .inl h
  ·rcases ags (min k b.length)with c|c
   ·refine .inl (eZ ?_);rw[bY];rcases ags k with d|d
    ·rw[d];rfl
    ·have:b.cps.toList=[]:=aiE.mp (by rw[aaf];show b.length=0;lia);rw[this];exact aiD
   ·refine .inr (b,e,8);unfold fY;refine aaZ.mpr (min k b.length-1,ahw.mpr ⋯,8);rw[show min k b.length-1+1=min k b.length by lia];refine eZ ?_;rw[bY,bY];rcases aiP k b.length with d|d
    ·rw[acW d]
    ·rw[ag7 d,aai (by rw[aaf];exact aac _),aai (by rw[aaf];exact d)]
theorem qi:∀ws:List Str,(ws.flatMap fY).length=much ws
 |[]=>rfl
 |w::ws=>by
  rw[List.flatMap_cons,aae,qi ws];show ((agq w.length).map _).length+much ws=w.length+much ws;rw[aaa,agA]
inductive qK(K:PySem.W.Frag)(vs:List V)(H:Hp)(Q:VK)(_e1:XK):Prop
 | mk (p:Addr) (ws:List Str) (_:vs=[.ref p]) (_:T6 K H p (ws.map V.str)) (_:(∀w∈ws,w.length<=40)) (_:much ws<=4000) (_:∀(r:Addr) (ts:List Str) (H':Hp),H r=none->aU H H'->H' r=some (.lst (ts.map V.str))->m9 ws ts->ts.length<=much ws+1->Q (.ref r) H')
theorem qX(T:Tx K mg a):aV P w K mg base T9 1 a.abm a.aa7 ["words"] (qK K):=by
 refine T.abu.F.Ub gf λa2 A B s H vs Q E hr h=>?_;obtain⟨p,c,rfl,L,Zi,hm,q⟩:=h;refine(_,(aj (aA 1 gf.nd (bQ (ak oG aa)))
  (aj (bC PassesOwn.never rfl (bJ (pv 0)) (mL (i:=2) gf.nd rfl (ah6 rfl)) (au (bc (gn PySem.F.plainAttrs_list PySem.F.slot_list_extend PySem.F.type_list_extend qt (pv 1) (ak (mO rfl (cu.one (j:=2) rfl (ahy rfl) rfl rfl (ahy rfl)) (ye rfl T.Wx (ak aq (ak (aB aX (aJ cC rfl T.Ul Tw.bx (My 2 aa)) aq) aa))) (λ_ _ _ _=>fu) (λ_ _ _ _=>(cG qJ (pv 1) fM (cO (pv 0))))) aa)))))
  (au (aF (aJ (oH rfl) rfl T.aeX Tw.rD (ak (cV (sr rfl) rfl T.aga Tw.DG (My 1 aa)) aa)))))),8)
 refine((by show 1<=sizeLine;decide),λr l=>?_)
 have G:=az l (.lst [.str ""])
 exists 5,p,7,(_,G.seq L);refine bU (xs:=c.map V.str) (λi o g=>(∃y,o=[some (.ref p),some (.ref r),y])/\aU H g/\g r=some (.lst (((⟨#[]⟩:Str)::(c.take i).flatMap fY).map V.str))) ((none,7),G,ao) ?_ ?_ ?_
 ·rintro i o g _ ⟨_,e,_⟩;exact e.seq L
 ·rintro i x o g J ⟨⟨y,rfl⟩,e,f⟩;rw[aag]at J;obtain⟨b,M,rfl⟩:=aaM.mp J;have hw:=Zi b (aah M);have hts:((⟨#[]⟩:Str)::(c.take i).flatMap fY).length=1+much (c.take i):=by
   rw[aaB,qi];lia
  have a0:=Ie c i;exists 5,.inl (7,_,T6.of f),5,b,7,by rw[sizeLine_eq];lia,2,(1),5,(4,4,9,9);have Z:((b.length:Int)+1-1).toNat=b.length:=by lia
  show jw (V6 1 ((b.length:Int)+1-1).toNat) _ _ _ _ _;rw[Z];refine Hi (λi=>.str (beg b (i+1))) (by rw[sizeLine_eq];lia) (λ_ _ _ q=>q) (λj H2 Q hj UL S=>(6,5,b,7,by rw[sizeLine_eq];lia,8)) λD Y=>?_
  ·rw[show (1:Int)+(j:Int)=((j+1:Nat):Int) by lia,uo];exact S
  have C:=az Y (.lst ((agq b.length).map λi=>V.str (beg b (i+1))));have n:((agq b.length).map λi=>V.str (beg b (i+1)))=(fY b).map V.str:=by
   unfold fY;rw[ag1];rfl
  have Vz:(fY b).length=b.length:=by
   unfold fY;rw[aaa,agA]
  refine(r,D,2,C _ _ f,ao,8,((_,7),bT (e.trans C) l _,8))
  ·rw[aaa,hts,n,aaa,Vz,sizeLine_eq];lia
  ·rw[ao,n,aiS,M,List.flatMap_append,<-aaj];simp
 ·rintro o g ⟨⟨y,rfl⟩,e,f⟩;rw[aaa,aai (aac _)]at f;have hts:((⟨#[]⟩:Str)::c.flatMap fY).length=1+much c:=by
   rw[aaB,qi];lia
  have a1:=uh (λi=>((⟨#[]⟩:Str)::c.flatMap fY).getD i ⟨#[]⟩) ((⟨#[]⟩:Str)::c.flatMap fY).length;refine(5,r,5,T6.of f,8,λW X I m d z=>(W,X,7,by rw[ao,z],λR u k v N=>?_))
  ·show _+1<4096;lia
  have U:u.Nodup:=v.nodup_iff.mpr (by rw[d];exact mU _ _);have O:=(az m I).trans (az k (.lst (u.map V.str)));refine q R u _ (e.free (az m I |>.free k)) (e.trans O) ao (uH N U,λt=>?_) ?_
  ·rw[v.mem_iff,d,QL,aas,List.mem_flatMap];exact J4 c t
  ·rw[v.length_eq,d];lia
theorem yz(xs:List V)(i:Nat):cR xs (some (i:Int)) none=xs.drop i:=by
 unfold cR;rw[HT.jN,HT.ie];rcases aiP i xs.length with c|c
 ·rw[acW c,aai (by rw[abo];exact aac _)]
 ·rw[ag7 c,af5 (aac _),af5 c,aiD]
def lenV:V->V
 |.str t=>.int (t.length:Int)
 |v=>v
def fK(t:Str):Int:=((t.cps.toList.getLastD 97:Nat):Int)-97
def Gs:V->V
 |.str t=>.int (fK t)
 |v=>v
def iI(ws:List Str)(t:Str):Int:=if t∈ws then 1 else 0
def Nt(ws:List Str):V->V
 |.str t=>.int (iI ws t)
 |v=>v
theorem m9.low{ws :List Str}(h:m9 ws N)(f:∀w∈ws,U8 w){t:Str}(ht:t∈N):U8 t:=by
 rcases(h.mem t).mp ht with e|⟨w,d,k,e⟩
 ·rw[e];exact(aaD _,λc b=>by cases b)
 ·obtain⟨i,g⟩:=f w d;refine(by rw[e,pP];lia,λc b=>g c ?_);rw[e,bY]at b;exact ahg b
inductive Ce(K:PySem.W.Frag)(vs:List V)(H:Hp)(Q:VK)(_e1:XK):Prop
 |mk (p:Addr) (ws:List Str) (_:vs=[.ref p]) (_:T6 K H p (ws.map V.str)) (_:(∀w∈ws,U8 w)) (_:ws.Nodup) (_:ws.length<=3000) (_:much ws<=3000) (_:∀(r d l e:Addr) (ts:List Str) (H':Hp),aU H H'->H' r=some (.tup [.ref d,.ref l,.ref e])->H' d=some (.lst ((ts.map λt=>(t.length:Int)).map V.int))->H' l=some (.lst (((ts.drop 1).map fK).map V.int))->H' e=some (.lst ((ts.map (iI ws)).map V.int))->m9 ws ts->ts.length<=much ws+1->Q (.ref r) H')
theorem Bq(T:Tx K mg a):aV P w K mg base T9 2 a.aeK a.ad0 ["words"] (Ce K):=by
 refine T.aeU.F.Ub dg λb5 A b2 s H vs Q E W h=>?_;obtain⟨p,m,rfl,Y,X,nd,hl,hm,q⟩:=h;refine(_,(aj (bc (aH T.acU (v9 T) W (My 0 aa)))
  (aj (aA 1 dg.nd (aH T.abu (qX T) W (My 0 aa)))
  (aj (kW (i:=2) dg.nd rfl rfl rfl cu.zero (bJ (pv 1)) (λ_ _ _ _=>fu) (λ_ _ _ _=>(aJ cC rfl T.Ul Tw.bx (My 0 aa))))
  (aj (kW (i:=3) dg.nd rfl rfl rfl cu.zero (bJ (cG jZ (pv 1) (cO aq) fM)) (λ_ _ _ _=>fu) (λ_ _ _ _=>(show PE _ _ (tBM K "str" GJ _ _)from (gn PySem.F.plainAttrs_str PySem.F.slot_str_index PySem.F.type_str_index Hq (bF (v:=.str "abcdefghijklmnopqrstuvwxyz") rfl T.aem (_,7)) (ak (aW Et (pv 0) (gB dh aq)) aa)))))
  (aj (vO (i:=4) dg.nd rfl (ah6 rfl) CP)
  (aj (bC PassesOwn.never rfl (bJ (pv 0)) (aP 5 dg.nd) (au (GZ (aha (ahS (by decide:1<=64) _) W.units) (pv 4) (pv 5) iz rfl)))
  (aj (kW (i:=6) dg.nd rfl rfl rfl (cu.one (j:=4) rfl (ahy rfl) rfl rfl (ahy rfl)) (bJ (pv 1)) (λ_ _ _ _=>fu) (λ_ _ _ _=>(La (jY (Rh (aha (ahS (by decide:1<=64) _) W.units) (pv 0) (pv 1))) aq aq)))
  (au (aF (b8 (My 2 (My 3 (My 6 aa))))))))))))),8)
 refine(5,p,m,7,Y,X,nd,9,λH1 Um=>?_);refine(5,p,m,7,Um.seq Y,λw hw=>(X w hw).1,9,λS b Z b4 UL o I a1=>?_);have s2:=Um.trans UL;have M:(b.map V.str).length=b.length:=aaa ..;exists 5,S,7,(_,T6.of o);refine qm lenV (T6.of o) (by rw[sizeLine_eq,M];lia) (λ_ _ _ q=>q) (λx y Q D C n=>?_) λd hd=>?_
 ·obtain⟨t,ht,rfl⟩:=aaZ.mp D;have:=(I.low X ht).1;exact(5,t,7,by rw[sizeLine_eq];lia,n)
 have t3:=az hd (.lst ((b.map V.str).map lenV));have G:upd Z d (.lst ((b.map V.str).map lenV)) d=some (.lst ((b.map λt=>(t.length:Int)).map V.int)):=by
  rw[ao,ag1,ag1];rfl
 replace o:=t3 _ _ o
 have s3:=s2.trans t3;generalize upd Z d (.lst ((b.map V.str).map lenV))=H3 at *;refine(6,S,5,T6.of o,λc hc=>(c,7,(_,T6.of ao),8));have t4:=az hc (.lst (cR (b.map V.str) (some 1) none));have xc:upd H3 c (.lst (cR (b.map V.str) (some 1) none)) c=some (.lst ((b.drop 1).map V.str)):=by
  rw[ao,show (1:Int)=((1:Nat):Int)from rfl,yz,aif]
 replace o:=t4 _ _ o
 replace G:=t4 _ _ G
 have s4:=s3.trans t4;rw[show cR (b.map V.str) (some 1) none=(b.drop 1).map V.str by rw[show (1:Int)=((1:Nat):Int)from rfl,yz,aif]]at *;generalize upd H3 c (.lst ((b.drop 1).map V.str))=H4 at *;refine qm Gs (T6.of xc) (by rw[sizeLine_eq,aaa,abo];lia) (λ_ _ _ q=>q) (λx y Q D C n=>?_) λl a6=>?_
 ·obtain⟨t,ht,rfl⟩:=aaZ.mp D;have a0:=agX ht;obtain⟨b3,N⟩:=I.low X a0;have a3:t.cps.toList≠[]:=λe=>by
   obtain⟨i,hi,ei⟩:=agI ht;rw[ahm]at ei;have a4:1+i<b.length:=by
    rw[abo]at hi;lia
   have h0:=I.zero;obtain⟨b0,b1⟩:=aab.mp h0;have:=abF.mp I.up 0 (1+i) b0 a4 ⋯;rw[b1,ei]at this;unfold Ve at this;rw[e]at this;exact absurd this (aij _)
  obtain⟨rr,u,Xn⟩:∃rr u,t.cps.toList=rr++[u]:=(1,(agZ a3).symm);have a5:=N u (by rw[Xn];exact aat _ (ahs _));have a9:Ux t.cps.toList (-1)=some u:=by
   rw[Xn];exact lE rr u
  have a8:=(yD a5).2;have el:fK t=((u-97:Nat):Int):=by
   unfold fK;rw[Xn,aid];lia
  exists 7,6,t,-1,u,7,7,by rw[sizeLine_eq];lia,a9,letters,⟨#[u]⟩,u-97,[],7,7,a8;rw[<-el];exact n
 have t5:=az a6 (.lst (((b.drop 1).map V.str).map Gs));have xl:upd H4 l (.lst (((b.drop 1).map V.str).map Gs)) l=some (.lst (((b.drop 1).map fK).map V.int)):=by
  rw[ao,ag1,ag1];rfl
 replace o:=t5 _ _ o
 replace G:=t5 _ _ G
 have s5:=s4.trans t5;generalize upd H4 l (.lst (((b.drop 1).map V.str).map Gs))=H5 at *;intro R L;have t6:=az L (.dK []);have s6:=s5.trans t6;exists 5,p,7,(_,s6.seq Y);refine bU (xs:=m.map V.str) (λi O y=>(∃k5,O=[some (.ref p),some (.ref S),some (.ref d),some (.ref l),some (.ref R),k5,none])/\aU H5 y /\ ∃f:List (Key×V),y R=some (.dK f)/\f.length<=i /\ ∀t:Str,(gY f (Sum.inr t)).isSome=decide (t∈m.take i)) ((none,7),t6,[],ao,aac _,λt=>rfl) ?_ ?_ ?_
 ·rintro i O y _ ⟨_,C,_⟩;exact(s5.trans C).seq Y
 ·rintro i x O y D ⟨⟨k5,rfl⟩,C,f,xw,a7,B⟩;rw[aag]at D;obtain⟨wd,Wa,rfl⟩:=aaM.mp D;have hi:=(aab.mp Wa).1;exists 6,R,5,.inl (f,Sum.inr wd,xw,7,by rw[sizeLine_eq];lia,7);refine((_,7),bT C L _,_,ao,8,λt=>?_)
  ·have:=Aq f (Sum.inr wd) (.bl true);lia
  ·rw[Aj,aiS,Wa];by_cases e:t=wd
   ·subst e;rw[if_pos rfl];exact(decide_eq_true (aat _ (ahs _))).symm
   ·rw[if_neg (λz=>e (Sum.inr.inj z)),B t];refine decide_eq_decide.mpr (λz=>agC _ z,λz=>?_);rcases aaW.mp z with z|z
    ·exact z
    ·exact absurd (aam.mp z) e
 ·rintro O y ⟨⟨k5,rfl⟩,C,f,xw,a7,B⟩;rw[aaa,aai (aac _)]at B;have J:=C _ _ o;exists 5,S,7,(_,T6.of J);refine qm (Nt m) (T6.of J) (by rw[sizeLine_eq,M];lia) (λ_ _ _ q=>q) (λx Z Q D UL n=>?_) λe he=>?_
  ·obtain⟨t,ht,rfl⟩:=aaZ.mp D;have g:=yX.k (k:=Sum.inr t) (UL _ _ xw);exists 6,R,5,g,5;rw[B t];have n:Q (.int (iI m t)) Z:=n;unfold iI at n;by_cases c:t∈m
   ·rw[decide_eq_true c];rw[if_pos c]at n;exact kE n
   ·rw[decide_eq_false c];rw[if_neg c]at n;exact eF n
  have t7:=az he (.lst ((b.map V.str).map (Nt m)));have xe:upd y e (.lst ((b.map V.str).map (Nt m))) e=some (.lst ((b.map (iI m)).map V.int)):=by
   rw[ao,ag1,ag1];rfl
  have s7:=C.trans t7;generalize upd y e (.lst ((b.map V.str).map (Nt m)))=H7 at *;refine(6,5,(by show 3<=sizeLine;decide),λr a2=>?_);have U:=az a2 (.tup [.ref d,.ref l,.ref e]);exact q r d l e b _ ((s5.trans s7).trans U) ao (U _ _ (s7 _ _ G)) (U _ _ (s7 _ _ xl)) (U _ _ xe) I a1
structure Store(H:Hp)(r t bl:Addr)(ws ts:List Str):Prop where
 r:H r=some (.tup [.ref t,.ref bl])
 ex:∃(t1 t2 t3 ah nd b1 r2 b2 k2 c2 V2 b3:Addr) (lows:List Int) (S:Nat) (xs:List V) (ms:List Int) (h:Nat) (ls:List Addr),
  H t=some (.tup [.ref t1,.ref t2,.ref t3])/\KB H t1 ah nd b1 (brk (ts.map λt=>(t.length:Int)) 0) lows S xs/\Kept H r2 t2 b2 k2 c2 ((ts.drop 1).map fK) ms h ls/\Tab H t3 V2 (ts.map (iI ws)) [] /\
  H bl=some (.lst (((bB (brk (ts.map λt=>(t.length:Int)) 0))++((Up h (rks ms ((ts.drop 1).map fK))).map bB).flatten++bB (ts.map (iI ws))).map V.int))
 begs:m9 ws ts
theorem Ii{t:Str}(h:U8 t):0<=fK t/\fK t<=25:=by
 unfold fK;cases e:t.cps.toList with
 |nil=>decide
 |cons a r=>
  have c:t.cps.toList≠[]:=λz=>by rw[e]at z;cases z
  obtain⟨d,b,f⟩:∃d b,t.cps.toList=d++[b]:=(1,(agZ c).symm);have g:=h.2 b (by rw[f];exact aat _ (ahs _));rw[<-e,f,aid];lia
theorem yf(ws c:List Str):aZ (c.map (iI ws)):=λb d=>by
 obtain⟨t,_,rfl⟩:=aaZ.mp d;unfold iI;split
 ·exact .inr rfl
 ·exact .inl rfl
theorem rG{n:Nat}:∀{L:List (List Int)},(∀x∈L,x.length=n)->((L.map bB).flatten).length=L.length*many n
 |[],_=>by simp
 |x::L,h=>by
  rw[aar,agJ,aae,rG λy b=>h y (aaC _ b),bD,h x aaL,aaB,ahT];lia
theorem Kept.size{r t b k c:Addr}(x:Kept H r t b k c d J n g)(j:d.length<=4000):((((Up n (rks J d)).map bB).flatten).map V.int).length<=1600:=by
 rw[aaa,rG (n:=d.length) λl i=>by
  rw[(Tw.pI _ _ _ i).2];unfold rks;exact aaa ..,jd]
 have e:=x.h12;have f:many d.length<=126:=by
  unfold many;lia
 exact aeY (ajq e f) ∅
inductive w5(K:PySem.W.Frag)(vs:List V)(H:Hp)(Q:VK)(_e1:XK):Prop
 | mk (p:Addr) (ws:List Str) (_:vs=[.ref p]) (_:T6 K H p (ws.map V.str)) (_:(∀w∈ws,U8 w)) (_:ws.Nodup) (_:ws.length<=2000) (_:much ws<=2000) (_:∀r t bl ts H',aU H H'->Store H' r t bl ws ts->ts.length<=much ws+1->Q (.ref r) H')
theorem wW(T:Tx K mg a):aV P w K mg base T9 8 a.adq a.acH ["words"] (w5 K):=by
 refine T.adG.F.Ub dM λb9 A a7 s H vs Q E U h=>?_;obtain⟨p,N,rfl,hS,hW,nd,hl,hm,q⟩:=h;refine(_,(aj (aA 1 dM.nd (aH T.aeU (Bq T) U (My 0 aa)))
  (aj (aA 2 dM.nd (aH T.aef (zz T) U (ak (aW aQ (pv 1) aq) aa)))
  (aj (aA 3 dM.nd (aH T.adB (xU T) U (ak (aW aQ (pv 1) aq) aa)))
  (aj (aA 4 dM.nd (aH T.YT (lX T) U (ak (aW aQ (pv 1) aq) aa)))
  (au (aF (b8 (ak (b8 (ak (aW aQ (pv 2) aq) (ak (aW aQ (pv 3) aq) (ak (aW aQ (pv 4) aq) aa)))) (ak (aB nY (aB nY (aW aQ (pv 2) aq) (aW aQ (pv 3) aq)) (aW aQ (pv 4) aq)) aa))))))))),8)
 refine(5,p,N,7,hS,hW,nd,9,9,λpr d l e f H1 Um X xd xl xe hB a3=>?_);have Yk:=hB.good;have I:(f.map λt=>(t.length:Int)).length=f.length:=aaa ..;refine(5,pr,_,2,T8.of X,7,d,5,xd,by rw[I];lia,Yk,λr1 t1 ah G b1 n S M H2 b6 W a0 x=>?_);have Zg:((f.drop 1).map fK).length=f.length-1:=by rw[aaa,abo]
 have L:InR ((f.drop 1).map fK):=λz hz=>by
  obtain⟨t,ht,rfl⟩:=aaZ.mp hz;have:=Ii (hB.low hW (agX ht));lia
 have Wr:=mV Yk;rw[I]at Wr;refine(5,pr,_,2,T8.of (W _ _ X),7,l,(f.drop 1).map fK,7,T6.of (W _ _ xl),9,L,λO Z b2 k2 c2 R h ls H3 b5 D j=>?_);have s3:=W.trans D;refine(5,pr,_,2,T8.of (s3 _ _ X),7,e,f.map (iI N),7,T6.of (s3 _ _ xe),by rw[aaa];lia,yf _ _,λr3 b3 t3 V2 H4 b4 v B J a1=>?_);have y:=D.trans v;have u:KB H4 t1 ah G b1 (brk (f.map λt=>(t.length:Int)) 0) n S M:=(x.tab.same y,y _ _ x.Wz,y _ _ x.bls,x.low,x.sz,x.heap);have m:=y _ _ a0;have g:Kept H4 O Z b2 k2 c2 ((f.drop 1).map fK) R h ls:=(v _ _ j.r,v _ _ j.t,v _ _ j.k,v _ _ j.c,j.ls.to λb M e=>v _ _ e,v _ _ j.b,j.kd,j.sz,j.h12);refine(5,r1,_,2,T8.of m,7,5,O,_,2,T8.of g.r,7,5,r3,_,2,T8.of B,7,(by show 3<=sizeLine;decide),λtt a2=>?_);have o:=az a2 (.tup [.ref t1,.ref Z,.ref t3]);have a8:=j.size (by rw[Zg];lia);have b0:((bB (brk (f.map λt=>(t.length:Int)) 0)).map V.int).length<=200:=by
  rw[aaa,bD,Wr];unfold many;lia
 have a9:((bB (f.map (iI N))).map V.int).length<=200:=by
  rw[aaa,bD,aaa];unfold many;lia
 refine(5,r1,_,2,T8.of (o _ _ m),7,5,O,_,2,T8.of (o _ _ g.r),7,b1,b2,2,o _ _ u.bls,o _ _ g.b,by rw[sizeLine_eq];lia,λc1 a6=>?_);have Y:=az a6 (.lst ((bB (brk (f.map λt=>(t.length:Int)) 0)).map V.int++(((Up h (rks R ((f.drop 1).map fK))).map bB).flatten).map V.int));refine(5,r3,_,2,T8.of (Y _ _ (o _ _ B)),7,c1,b3,2,ao,Y _ _ (o _ _ a1),by rw[aae,sizeLine_eq];lia,λc3 a5=>?_);have u3:=az a5 (.lst ((bB (brk (f.map λt=>(t.length:Int)) 0)).map V.int++(((Up h (rks R ((f.drop 1).map fK))).map bB).flatten).map V.int++(bB (f.map (iI N))).map V.int));refine((by show 2<=sizeLine;decide),λrr a4=>?_);have u4:=az a4 (.tup [.ref tt,.ref c3]);have C:=Y.trans (u3.trans u4);have i:=o.trans C;refine q rr tt c3 f _ (((Um.trans W).trans y).trans i) (ao,(t1,Z,t3,ah,G,b1,O,b2,k2,c2,V2,b3,n,S,M,R,h,ls,C _ _ ao,(u.tab.same i,i _ _ u.Wz,i _ _ u.bls,u.low,u.sz,u.heap),(i _ _ g.r,i _ _ g.t,i _ _ g.k,i _ _ g.c,g.ls.to λb M e=>i _ _ e,i _ _ g.b,g.kd,g.sz,g.h12),J.same i,8),hB) a3;rw[u4 _ _ ao,aaj,aaj]
abbrev Vh(n k:Nat)(d c b:List Int):Prop:=bO n k c b
theorem Vh.none{n k:Nat}(U b:List Int):Vh n k U b b:=bO.none b
theorem Vh.le{n j k:Nat}{U V a b:List Int}(h:Vh n j U a b)(c:j<=k)(_:∀x∈U,x∈V):Vh n k V a b:=bO.le h c
theorem Vh.len{n k:Nat}{U a b:List Int}(h:Vh n k U a b):b.length<=a.length+k:=bO.len h
theorem Vh.trans{n j k:Nat}{U V a b c:List Int}(h:Vh n j U a b)(h':Vh n k V b c):Vh n (j+k) (U++V) a c:=bO.trans h h'
structure SG where
 t:Addr
 k:Addr
 c:Addr
 bl:Addr
 sn:Addr
 g:Addr
 ls:List Addr
 ns:List Int
 ms:List Int
 h:Nat
 off:Nat
 al:List V
def SG.lv(p:SG):List (List Int):=Up p.h (rks p.ms p.ns)
abbrev SG.all(p:SG):List V:=p.al
theorem SG.lv_len(p:SG):p.lv.length=p.h:=jd _ _
theorem SG.lv_mem(p:SG){bs:List Int}(h:bs∈p.lv):aZ bs/\bs.length=p.ns.length:=by
 obtain⟨c,b⟩:=Tw.pI _ _ _ h;refine(c,b.trans ?_);unfold rks;exact aaa ..
theorem G4{m:Nat}:∀{L:List (List Int)} {i:Nat}{bs:List Int},(∀x∈L,(bB x).length=m)->L[i]?=some bs->(((L.map bB).flatten).drop (i*m)).take m=bB bs
 |[],i,bs,_,h=>by cases h
 |x::L,0,bs,b,h=>by
  cases h;rw[ais,ahx,aar,agJ,ahv (by rw[b x aaL];exact aac _),aai (by rw[b x aaL];exact aac _)]
 |x::L,i+1,bs,b,h=>by
  have c:=b x aaL;rw[aar,agJ,List.drop_append,af5 (by rw[c,ahT];lia),ahW,c,show (i+1)*m-m=i*m by rw[ahT];lia];exact G4 (λy d=>b y (aaC _ d)) h
theorem SG.all_at(p:SG){i n:Nat}{bs:List Int}(f:∀j x,((p.lv.map bB).flatten)[j]?=some x->p.al[p.off+j]?=some (.int x))(h:p.lv[i]?=some bs)(b:n<many p.ns.length):p.all[p.off+i*many p.ns.length+n]?=some (.int (cL bs n)):=by
 have d:=(p.lv_mem (aah h)).2;have e:=G4 (m:=many p.ns.length) (λx c=>by rw[bD,(p.lv_mem c).2]) h;rw[ajw];refine f _ _ ?_;rw[<-agF,<-adI b,e,jH (by rw[d];exact b)]
structure SQ(H:Hp)(Ph:Addr)(p:SG)(ss:List Int):Prop where
 t:H p.t=some (.tup [.int (p.ns.length:Int),.ref p.k,.ref p.c])
 k:H p.k=some (.tup (p.ms.map V.int))
 c:H p.c=some (.tup (p.ls.map V.ref))
 ls:tK H p.ls (p.lv.map λbs=>Uv bs (many p.ns.length))
 b:H p.bl=some (.lst p.all)
 at0:∀j x,((p.lv.map bB).flatten)[j]?=some x->p.al[p.off+j]?=some (.int x)
 kd:Kinds p.ns p.ms
 sz:jx p.ms.length (2^p.h)
 h12:p.h<=12
 len:p.ns.length<=4000
 sn:H p.sn=some (.lst (ss.map V.int))
 ne:p.sn≠p.bl
 few:ss.length<=15900000
 clo:Vf H (p.g,some p.sn,p.bl,p.off,p.al)
 tab:TabAt H Ph (bW bu) aL.qual
structure gD(H H':Hp)(Ph:Addr)(p:SG)(k:Nat)(U ss ss':List Int):Prop where
 kp:∀b o,H b=some o->b≠Ph->b≠p.sn->H' b=some o
 seen:H' p.sn=some (.lst (ss'.map V.int))
 tab:TabAt H' Ph (bW bu) aL.qual
 wr:Vh p.all.length k U ss ss'
theorem gD.trans{H l i:Hp}{d:Addr}{p:SG}{j k:Nat}{U V a b c:List Int}(h:gD H l d p j U a b)(h':gD l i d p k V b c):gD H i d p (j+k) (U++V) a c:=
 (λx o e g f=>h'.kp x o (h.kp x o e g f) g f,h'.seen,h'.tab,h.wr.trans h'.wr)
theorem gD.le{H d:Hp}{c:Addr}{p:SG}{j k:Nat}{U V a b:List Int}(h:gD H d c p j U a b)(f:j<=k)(e:∀x∈U,x∈V):gD H d c p k V a b:=(h.kp,h.seen,h.tab,h.wr.le f e)
theorem gD.same{H f d:Hp}{c:Addr}{p:SG}{j:Nat}{U a b:List Int}(h:gD H f c p j U a b)(s:aU f d):gD H d c p j U a b:=
 (λx o e i g=>s _ _ (h.kp x o e i g),s _ _ h.seen,TabAt.same h.tab s,h.wr)
theorem gD.free{H':Hp}{l:Addr}{p:SG}{k:Nat}{U :List Int}(b:gD H H' f p k U d J)(h:H' l=none):H l=none:=by
 cases e:H l with
 |none=>rfl
 |some o=>
  by_cases g:l=f
  ·obtain⟨j,i,_⟩:=b.tab;rw[g,i]at h;cases h
  by_cases c:l=p.sn
  ·rw[c,b.seen]at h;cases h
  rw[b.kp l o e g c]at h;cases h
theorem gD.set{X:Hp}{r:Addr}{p:SG}{k:Nat}{U :List Int}{ws:List V}(c:gD H X f p k U d J)(m:H r=none)(l:X r=some (.lst j))(g:r≠p.sn):gD H (L2.upd X r (.lst ws)) f p k U d J:=
 (λb o e i h=>by rw[aG (aD e m)];exact c.kp b o e i h,by rw[aG g.symm];exact c.seen,TabAt.upd c.tab l,c.wr)
theorem SQ.self{p:SG}(h:SQ H f p d):gD H H f p 0 [] d d:=(λ_ _ e _ _=>e,h.sn,h.tab,Vh.none _ d)
def Kp(H H':Hp):Prop:=∀b o,H b=some o->(∀c,o ≠ .Ug c)->(∀c,o ≠ .lst c)->H' b=some o
theorem SQ.kp{H H':Hp}{g:Addr}{p:SG}{k:Nat}{U f c:List Int}(h:SQ H g p f)(d:gD H H' g p k U f c):Kp H H':=λb o e j i=>d.kp b o e (TabAt.ne h.tab e j) λz=>by
 rw[z,h.sn]at e;cases e;exact i _ rfl
theorem SQ.did{H':Hp}{p:SG}{k:Nat}{U :List Int}(h:SQ H f p d)(g:gD H H' f p k U d J)(j:J.length<=15900000):SQ H' f p J:=by
 have i:=h.kp g;refine(i _ _ h.t nofun nofun,i _ _ h.k nofun nofun,i _ _ h.c nofun nofun,h.ls.to λb l e=>i _ _ e nofun nofun,g.kp _ _ h.b (TabAt.ne h.tab h.b nofun) h.ne.symm,h.at0,h.kd,h.sz,h.h12,h.len,g.seen,h.ne,j,Vf.keeps _ _ _ h.clo λb o e=>i _ _ e nofun nofun,g.tab)
theorem SQ.same{H H':Hp}{c:Addr}{p:SG}{b:List Int}(h:SQ H c p b)(s:aU H H'):SQ H' c p b:=h.did (h.self.same s) h.few
inductive Lv(H:Hp)(p:SG)(i:Nat)(l:Addr):Prop
 | mk (Uu ah f:Addr) (bs:List Int) (_:p.lv[i]?=some bs) (_:H l=some (.tup [.ref Uu,.ref f])) (_:H Uu=some (.tup [.int (p.ns.length:Int),.ref ah])) (_:H ah=some (.tup ((Uv bs (many p.ns.length)).map V.int))) (_:gU H (f,some p.sn,p.bl,p.off+i*many p.ns.length,p.all))
theorem Lv.kept{H H':Hp}{p:SG}{i:Nat}{l:Addr}(h:Lv H p i l)(s:Kp H H'):Lv H' p i l:=by
 obtain⟨m,k,f,j,g,e,d,c,b⟩:=h;exact(m,k,f,j,g,s _ _ e nofun nofun,s _ _ d nofun nofun,s _ _ c nofun nofun,b.kept s)
theorem Kp.of{H':Hp}(s:aU H H'):Kp H H':=λb o e _ _=>s _ _ e
theorem Lv.ask{p:SG}{i:Nat}{l:Addr}(x:SQ H C p d)(h:Lv H p i l):∃(c k f:Addr) (bs:List Int),p.lv[i]?=some bs/\H l=some (.tup [.ref c,.ref f])/\Ask H c (f,some p.sn,p.bl,p.off+i*many p.ns.length,p.all) k bs d []:=by
 obtain⟨c,k,f,bs,j,t,s,r,q⟩:=h;obtain⟨o,g⟩:=p.lv_mem (aah j);refine(c,k,f,bs,j,t,(by rw[g];exact s,by rw[g];exact r,4),(q,λsn e=>?_,x.b,8),o,8,λn m=>p.all_at x.at0 j (by rw[<-g];exact m))
 ·cases e;exact(x.sn,x.ne)
 ·have:=x.few;lia
 ·have:=x.len;lia
theorem SQ.look{H':Hp}{p:SG}{U:List Int}{k:Nat}{L:LK}(h:SQ H f p d)(c:L.wr=some p.sn)(g:L.all=p.all)(w:Vh L.all.length k U d J)(s:aU (L.put H J) H'):gD H H' f p k U d J:=by
 rw[LK.put_some c]at s;rw[g]at w;exact(λx o e i b=>s _ _ (by rw[aG b];exact e),s _ _ ao,TabAt.same (TabAt.upd h.tab h.sn) s,w)
inductive zL(Ph:Addr)(vs:List V)(H:Hp)(Q:VK)(_e1:XK):Prop
 | mk (p:SG) (ss:List Int) (_:vs=[.ref p.t,.ref p.g]) (_:SQ H Ph p ss) (_:∀(r:Addr) (lv:List Addr) (H':Hp),H r=none->H' r=some (.lst (lv.map V.ref))->lv.length=p.h->(∀i l,lv[i]?=some l->Lv H' p i l)->gD H H' Ph p 0 [] ss ss->Q (.ref r) H')
theorem zH(T:Tx K mg a)(B:Bs mg base a):aV P w K mg base T9 2 a.adW a.adm ["tables","look"] (zL a.Ui):=by
 refine T.aeg.F.Ub fO λa7 A a3 s H vs Q E hr h=>?_;obtain⟨p,R,rfl,x,q⟩:=h;refine(_,(aj (aA 2 fO.nd (bQ aa))
  (aj (aA 3 fO.nd aq)
  (aj (bC PassesOwn.never rfl (JV (aW aQ (pv 0) aq)) (aP 4 fO.nd) (aj (bc (gn PySem.F.plainAttrs_list PySem.F.slot_list_append PySem.F.type_list_append bN (pv 2) (ak (b8 (ak (b8 (ak (aW aQ (pv 0) aq) (My 4 aa))) (ak (aH T.YS (j0 T B) hr (My 1 (My 3 aa))) aa))) aa)))
  (au (aA 3 fO.nd (aB bz (aB aX (pv 3) (aJ aO rfl T.Ul Tw.bx (My 4 aa))) aq)))))
  (au (aF (pv 2)))))),8)
 refine((by show 0<=sizeLine;decide),λr D=>?_);have Vs:r≠p.sn:=(aD x.sn D).symm;have d0:=(x.self).same (az D (.lst []));have x0:=x.did d0 x.few;have k:upd H r (.lst []) r=some (.lst []):=ao;generalize upd H r (.lst [])=H0 at *;have a0:p.ls.length=p.h:=by rw[x.ls.1,aaa,p.lv_len]
 have a6:=x.h12;have a4:=x.len;exists 5,p.t,_,2,T8.of x0.t,7,p.c,7,(_,T8.of x0.c);refine M7 (xs:=p.ls.map V.ref) (λi Y u=>(∃k4,Y=[some (.ref p.t),some (.ref p.g),some (.ref r),some (.int ((i*many p.ns.length:Nat):Int)),k4])/\gD H u a.Ui p 0 [] R R /\ ∃m:List Addr,u r=some (.lst (m.map V.ref))/\m.length=i /\ ∀j l,m[j]?=some l->Lv u p j l) ((none,8),d0,[],k,7,λj l e=>by cases e) ?_ ?_ ?_
 ·rw[ais];rfl
 ·rintro i Y u _ ⟨_,d,_⟩;exact T8.of ((x.did d x.few).c)
 ·rintro i y Y u hy ⟨⟨k4,rfl⟩,d,m,k,WF,v⟩;rw[aag]at hy;obtain⟨C,Vy,rfl⟩:=aaM.mp hy;have a5:=(aab.mp Vy).1;obtain⟨O,W⟩:∃O,p.lv[i]?=some O:=(_,aad (by rw[p.lv_len];lia));have x1:=x.did d x.few;have G:=x1.ls.2 i C (Uv O (many p.ns.length)) Vy (by rw[aag,W];rfl);refine(5,.inl (7,_,T6.of k),5,p.t,_,2,T8.of x1.t,7,5,(by show 2<=sizeLine;decide),λn Zf=>?_);have S:=az Zf (.tup [.int (p.ns.length:Int),.ref C]);have I:=x1.same S;have U:upd u n (.tup [.int (p.ns.length:Int),.ref C]) n=some (.tup [.int (p.ns.length:Int),.ref C]):=ao
  replace k:=S _ _ k
  replace G:=S _ _ G
  replace d:=d.same S
  replace v:∀j l,m[j]?=some l->Lv (upd u n (.tup [.int (p.ns.length:Int),.ref C])) p j l:=λj l e=>(v j l e).kept (Kp.of S)
  generalize upd u n (.tup [.int (p.ns.length:Int),.ref C])=H1 at *;have cg:=I.clo;refine(6,p.g,i*many p.ns.length,7,I.tab,λf cs J hf a1 Z X la=>?_);have Zj:Kp H1 J:=λb o e n1 n2=>Z _ _ e (TabAt.ne I.tab e n1);have d2:gD H1 J a.Ui p 0 [] R R:=(λb o e n1 n2=>Z _ _ e n1,Z _ _ I.sn (TabAt.ne I.tab I.sn nofun),X,Vh.none _ R);have lk:gU J (f,some p.sn,p.bl,p.off+i*many p.ns.length,p.all):=.inr (.inr (p.g,i*many p.ns.length,cs,Nat.le_add_left _ _,la,by rw[ahA];exact Vf.keeps.hid cg a1 λb o e=>Zj _ _ e nofun nofun))
  replace k:=Z _ _ k (TabAt.ne I.tab k nofun)
  replace G:=Zj _ _ G nofun nofun
  replace U:=Zj _ _ U nofun nofun
  replace d:=d.trans d2
  replace v:∀j l,m[j]?=some l->Lv J p j l:=λj l e=>(v j l e).kept Zj
  refine((by show 2<=sizeLine;decide),λl hl=>(r,2,az hl _ _ _ k,8,8))
  ·rw[aaa,WF,sizeLine_eq];lia
  have M:=az hl (.tup [.ref n,.ref f]);have xl:upd J l (.tup [.ref n,.ref f]) l=some (.tup [.ref n,.ref f]):=ao
  replace k:=M _ _ k
  replace G:=M _ _ G
  replace U:=M _ _ U
  replace lk:=lk.same M
  replace d:=d.same M
  replace v:∀j N,m[j]?=some N->Lv (upd J l (.tup [.ref n,.ref f])) p j N:=λj N e=>(v j N e).kept (Kp.of M)
  generalize upd J l (.tup [.ref n,.ref f])=H3 at *;have L:Kp H3 (upd H3 r (.lst (m.map V.ref++[.ref l]))):=λb o e _ n2=>by
   rw[aG λz=>by rw[z,k]at e;cases e;exact n2 _ rfl];exact e
  have a2:((Uv O (many p.ns.length)).map V.int).length=many p.ns.length+1:=by rw[aaa,cZ]
  refine(6,C,5,.inr (T8.of (L _ _ G nofun nofun)),2,2,(some (.ref C),8),d.set D k Vs,m++[l],8,8,λj N e=>?_)
  ·have e:((i*many p.ns.length:Nat):Int)+(((Uv O (many p.ns.length)).map V.int).length:Int)-1=(((i+1)*many p.ns.length:Nat):Int):=by
    rw[a2,ahT];lia
   rw[<-e];rfl
  ·rw[ao,aaj];rfl
  ·rw[aae,WF];rfl
  ·rcases aay j m.length with c|c
   ·rw[aaw c]at e;exact(v j N e).kept L
   ·rw[aap c]at e;have:j-m.length=0:=by
     have:=(aab.mp e).1;simp at this;lia
    rw[this]at e;cases e;have hj:j=i:=by lia
    subst hj;exact Lv.kept (n,C,f,O,W,xl,U,G,lk) L
 ·rintro Y u ⟨⟨k4,rfl⟩,d,m,k,WF,v⟩;exact(5,q r m u D k (by rw[WF,aaa];exact a0) v d)
def cnt(os:List Int)(k:Nat)(c:Int)(j:Nat):Nat:=((os.take j).filter λz=>bit z k=c).length
def pos(os:List Int)(k:Nat)(c:Int)(j:Nat):Nat:=(if c=0 then 0 else (os.filter λz=>bit z k=0).length)+cnt os k c j
def blw(bs:List Int)(j:Nat)(c:Int):Int:=if c=0 then (j:Int)-(bs.take j).sum else (bs.length:Int)-bs.sum+(bs.take j).sum
theorem Ae(z:Int)(k:Nat):bit z k=0\/bit z k=1:=by
 unfold bit;lia
theorem Bl(os:List Int)(k:Nat):((os.map λz=>bit z k).sum=((os.filter λz=>bit z k=1).length:Int))/\(os.filter λz=>bit z k=0).length+(os.filter λz=>bit z k=1).length=os.length:=by
 induction os with
 |nil=>exact(7,7)
 |cons z os b=>
  rw[aar,ahq,b.1];rcases Ae z k with e|e
  ·simp only[agN,e,decide_true,if_true,aaB,show decide ((0:Int)=1)=false from rfl,agr,if_false];lia
  ·simp only[agN,e,decide_true,if_true,aaB,show decide ((1:Int)=0)=false from rfl,agr,if_false];lia
theorem O7{os:List Int}{k j:Nat}{c:Int}(d:j<=os.length)(e:c=0\/c=1):blw (os.map λz=>bit z k) j c=((pos os k c j:Nat):Int):=by
 have b:=Bl (os.take j) k;have f:=Bl os k;rw[aaz,acW d]at b;unfold blw pos cnt;rw[<-ahX,b.1,f.1,aaa];rcases e with rfl|rfl
 ·rw[if_pos rfl,if_pos rfl];lia
 ·rw[if_neg ∅,if_neg ∅];lia
theorem zX{f:Int->Bool}:∀{os:List Int}{j:Nat}{z:Int},os[j]?=some z->f z=true->(os.filter f)[((os.take j).filter f).length]?=some z
 |[],j,z,h,_=>by cases h
 |y::os,0,z,h,b=>by
  cases h;rw[acM b];rfl
 |y::os,j+1,z,h,b=>by
  have c:=zX (os:=os) (j:=j) h b;rw[ahr];by_cases e:f y=true
  ·rw[acM e,acM e];exact c
  ·rw[ag0 e,ag0 e];exact c
theorem Qy{os:List Int}{k j:Nat}(h:os[j]?=some m):(Vg os k)[pos os k (bit m k) j]?=some m:=by
 unfold Vg pos cnt;rcases Ae m k with e|e
 ·rw[e,if_pos rfl,agO];have:=zX (f:=λm=>decide (bit m k=0)) h (decide_eq_true e);rw[aaw (aab.mp this).1];exact this
 ·rw[e,if_neg ∅,aap ⋯,agB];exact zX (f:=λm=>decide (bit m k=1)) h (decide_eq_true e)
inductive xF(vs:List V)(H:Hp)(Q:VK)(E:XK):Prop
 | mk (t:Addr) (L:LK) (ah:Addr) (ns ss:List Int) (rest:List V) (at0:Nat) (_:vs=[.ref t,.ref L.f,.int (at0:Int)]) (_:Ask H t L ah ns ss rest) (_:ss.length<16000000) (_:at0<=ns.length) (_:∀ss' H',Vh L.all.length 1 [((L.off+at0 / 32:Nat):Int)] ss ss'->aU (L.put H ss') H'->Q (.int ((at0:Int)-(ns.take at0).sum)) H')
theorem xT(T:Tx K mg a):aV P w K mg base T9 5 a.adc a.acq ["tables","look","at"] xF:=by
 refine T.adA.F.Ub xO λo A f s H p Q E k h=>?_;obtain⟨t,L,m,j,g,rest,e,rfl,l,d,b,q⟩:=h;exists _,(au (aF (aB bz (pv 2) (aH T.Xk (ir T) k (My 0 (My 1 (My 2 aa)))))));exact(6,6,t,L,m,j,g,rest,e,7,l,d,b,λc n w i=>(2,q c n w i))
inductive tG(vs:List V)(H:Hp)(Q:VK)(E:XK):Prop
 | mk (t ah:Addr) (ns:List Int) (_:vs=[.ref t]) (_:Tab H t ah ns []) (_:Q (.int ((ns.length:Int)-ns.sum)) H)
theorem tu(T:Tx K mg a):aV P w K mg base T9 1 a.abX a.abl ["row"] tG:=by
 refine T.ab4.F.Ub sY λg A e s H i Q E j h=>?_;obtain⟨t,f,b,rfl,c,q⟩:=h;exists _,(au (aF (aB bz (aW aQ (pv 0) aq) (aW aQ (aW aQ (pv 0) aq) (gB dh aq)))));have d:Ux ((Uv b (many b.length)).map V.int) (-1)=some (.int b.sum):=by
  unfold Uv;rw[agL,aaj,aaj];refine(lE _ _).trans ?_;show some (V.int (b.take (32*many b.length)).sum)=_;rw[aai (by unfold many;lia)]
 exact(5,t,_,2,T8.of c.tup,7,5,t,_,2,T8.of c.tup,7,5,f,_,2,T8.of c.Vb,d,2,q)
inductive vp(Ph:Addr)(vs:List V)(H:Hp)(Q:VK)(E:XK):Prop
 | mk (p:SG) (ss:List Int) (i:Nat) (l:Addr) (bs:List Int) (at0:Nat) (c:Int) (_:vs=[.ref l,.int (at0:Int),.int c]) (_:SQ H Ph p ss) (_:Lv H p i l) (_:p.lv[i]?=some bs) (_:at0<=p.ns.length) (_:(c=0\/c=1)) (_:∀ss' H',gD H H' Ph p 1 [((i*many p.ns.length+at0 / 32:Nat):Int)] ss ss'->Q (.int (blw bs at0 c)) H')
theorem uT(T:Tx K mg a):aV P w K mg base T9 6 a.acC a.abW ["level","at","bit"] (vp a.Ui):=by
 refine T.acT.F.Ub iD λG A u s H J Q E k h=>?_;obtain⟨p,y,i,l,n,g,c,rfl,x,C,e,D,B,q⟩:=h;refine(_,(aj (aA 3 iD.nd (aW aQ (pv 0) aq))
  (aj (aA 4 iD.nd (aW aQ (pv 0) aq))
  (aj (bh (aK dR (pv 2) aq) (au (aF (aH T.adA (xT T) k (My 3 (My 4 (My 1 aa)))))) aN)
  (au (aF (aB aX (aH T.ab4 (tu T) k (My 3 aa)) (aH T.Xk (ir T) k (My 3 (My 4 (My 1 aa)))))))))),8)
 obtain⟨r,o,f,I,b,v,m⟩:=C.ask x;rw[e]at b;cases b;have L:=(p.lv_mem (aah e)).2;have z:=x.few;exists 5,l,_,2,T8.of v,7,5,l,_,2,T8.of v,7;rcases B with rfl|rfl
 ·refine(5,7,5,kE ?_);exact(6,5,r,_,o,n,y,[],g,7,m,9,9,λd t w j=>q d t (x.look rfl rfl w j))
 ·refine(5,7,5,eF ?_);refine(5,r,o,n,7,m.tab,6,5,r,_,o,n,y,[],g,7,m,9,9,λd t w j=>(2,q d t (x.look rfl rfl w j)))
def ord(h:Nat)(os:List Int):Nat->List Int
 |0=>os
 |i+1=>Vg (ord h os i) (h-1-i)
theorem ord_len(h:Nat)(os:List Int):∀i,(ord h os i).length=os.length
 |0=>rfl
 |i+1=>(uv _ _).trans (ord_len h os i)
theorem Cv(k:Nat)(os:List Int):∀i,ord (k+1) os (i+1)=ord k (Vg os k) i
 |0=>rfl
 |i+1=>by
  show Vg (ord (k+1) os (i+1)) (k+1-1-(i+1))=Vg (ord k (Vg os k) i) (k-1-i);rw[Cv k os i,show k+1-1-(i+1)=k-1-i by lia]
theorem Mm:∀(h:Nat) (os:List Int) (i:Nat),i<h->(Up h os)[i]?=some ((ord h os i).map λz=>bit z (h-1-i))
 |0,_,_,b=>by lia
 |k+1,os,0,_=>rfl
 |k+1,os,i+1,b=>by
  rw[Cv];show (Up k (Vg os k))[i]?=_;rw[Mm k (Vg os k) i ⋯,show k+1-1-(i+1)=k-1-i by lia]
theorem JF(r:Int)(k:Nat):2*(r / 2^(k+1))+bit r k=r / 2^k:=by
 unfold bit;have e:r / 2^(k+1)=r / 2^k / 2:=by
  rw[aja,aiB (Int.pow_nonneg ∅)]
 rw[e];lia
theorem SG.lv_at(p:SG){i:Nat}(b:i<p.h):p.lv[i]?=some ((ord p.h (rks p.ms p.ns) i).map λz=>bit z (p.h-1-i)):=Mm _ _ _ b
theorem SG.ord_len(p:SG)(i:Nat):(ord p.h (rks p.ms p.ns) i).length=p.ns.length:=by
 rw[Tw.ord_len];unfold rks;exact aaa ..
theorem Ig(j:Nat):((2^j:Nat):Int)=(2:Int)^j:=by
 rw[Int.natCast_pow];rfl
theorem SQ.rank{p:SG}(x:SQ H f p d){j:Nat}(h:p.ns[j]?=some m):(rks p.ms p.ns)[j]?=some (p.ms.idxOf m:Int)/\(p.ms.idxOf m:Int) / 2^p.h=0/\p.ms[p.ms.idxOf m]?=some m:=by
 have c:m∈p.ms:=(x.kd.mem m).mpr (aah h);have b:=aik c;obtain⟨_,_,g,_⟩:=x.sz;have i:p.ms.length<=2^p.h:=by
  obtain⟨k,e,g,_⟩:=x.sz;lia
 exists 8,8
 ·unfold rks;rw[aag,h];rfl
 ·refine Int.ediv_eq_zero_of_lt ⋯ ?_;rw[<-Ig];lia
 ·rw[aad b];exact congrArg some (ai2 b)
inductive FP(Ph:Addr)(vs:List V)(H:Hp)(Q:VK)(E:XK):Prop
 | mk (p:SG) (ss:List Int) (at0:Int) (_:vs=[.ref p.t,.ref p.g,.int at0]) (_:SQ H Ph p ss) (_:ss.length<=15800000) (j:Nat) (z:Int) (_:at0=(j:Int)) (_:p.ns[j]?=some z) (_:∀ss' U H',gD H H' Ph p (2*p.h) U ss ss'->Q (.int z) H')
theorem FZ(T:Tx K mg a)(B:Bs mg base a):aV P w K mg base T9 7 a.afj a.aeF ["tables","look","at"] (FP a.Ui):=by
 refine T.afr.F.Ub dZ λa8 A a3 s H vs Q E O h=>?_;obtain⟨p,S,b0,rfl,x,a4,j,z,rfl,hz,q⟩:=h;refine(_,(aj (bc (aH T.X5 (fJ T) O (My 2 (ak (aB bz (aW aQ (pv 0) aq) aq) aa))))
  (aj (aA 3 dZ.nd aq)
  (aj (aA 4 dZ.nd (pv 2))
  (aj (bC PassesOwn.never rfl (bJ (aH T.aeg (zH T B) O (My 0 (My 1 aa)))) (aP 5 dZ.nd) (aj (aA 6 dZ.nd (aH T.X6 (mW T) O (ak (aW aQ (pv 5) aq) (ak (aW aQ (pv 5) aq) (My 4 aa)))))
  (aj (aA 3 dZ.nd (aB aX (aB cI aq (pv 3)) (pv 6)))
  (au (aA 4 dZ.nd (aH T.acT (uT T) O (My 5 (My 4 (My 6 aa)))))))))
  (au (aF (aW aQ (aW aQ (pv 0) aq) (pv 3)))))))),8)
 have a6:=(aab.mp hz).1;refine(6,p.t,_,2,T8.of x.t,7,2,_,5,9,9,8);refine(6,5,p,S,7,x,λr lv H1 G xr Y hL d1=>?_);have N:=x.did d1 x.few;have a7:=x.h12;obtain⟨r1,r2,r3⟩:=x.rank hz;generalize a0:(p.ms.idxOf z:Int)=C at *;have Vs:r≠p.sn:=(aD x.sn G).symm;have Z:r≠a.Ui:=λe=>by
  obtain⟨o,ho⟩:=TabAt.ex x.tab;rw[<-e,G]at ho;cases ho
 exists r,7,(_,T6.of xr);refine bU (xs:=lv.map V.ref) (λi M D=>∃(m:Nat) (X W:Option V) (b U:List Int),M=[some (.ref p.t),some (.ref p.g),some (.int (j:Int)),some (.int (C / 2^(p.h-i))),some (.int (m:Int)),X,W]/\(ord p.h (rks p.ms p.ns) i)[m]?=some C/\gD H1 D a.Ui p (2*i) U S b/\U.length<=i) ?_ ?_ ?_ ?_
 ·refine(j,none,none,S,[],8,r1,N.self,aac _);rw[ahn,r2];rfl
 ·rintro i M D _ ⟨_,_,_,_,_,_,_,d,_⟩;exact T6.of (d.kp _ _ xr Z Vs)
 ·rintro i y M D c ⟨m,X,W,b,U,rfl,n,d,hU⟩;rw[aag]at c;obtain⟨l,hl,rfl⟩:=aaM.mp c;have I:=(aab.mp hl).1;rw[Y]at I;have a2:=d.wr.len;have v:=N.did d ⋯;have L2:=(hL i l hl).kept (N.kp d);have J:=p.lv_at I;obtain⟨Uu,ah,f,a9,u,xl,hA⟩:=L2.ask v;rw[J]at u;cases u;have L:=(aab.mp n).1;rw[p.ord_len]at L;refine(5,l,_,2,T8.of xl,7,5,l,_,2,T8.of xl,7,5,Uu,_,ah,_,b,[],m,bit C (p.h-1-i),7,hA,9,8,λUz H2 w sm=>?_)
  ·rw[aag,n];rfl
  have R:=v.look (U:=[((i*many p.ns.length+m / 32:Nat):Int)]) rfl rfl w sm;have a5:=R.wr.len;have x3:=v.did R ⋯;have L3:=L2.kept (v.kp R);exists 5,2,.inl (4,4),5,2;refine(6,5,p,Uz,i,l,_,m,bit C (p.h-1-i),7,x3,L3,J,9,Ae _ _,λVn H3 d3=>?_);have hk:p.h-i=(p.h-1-i)+1:=by lia
  have a1:m<=(ord p.h (rks p.ms p.ns) i).length:=by rw[p.ord_len];lia
  rw[O7 a1 (Ae _ _)];exists _,some (.ref l),some (.int (bit C (p.h-1-i))),Vn,U++[((i*many p.ns.length+m / 32:Nat):Int)],8,Qy n,((d.trans R).trans d3).le ⋯ ?_
  ·have e:=JF C (p.h-1-i);rw[<-hk]at e;rw[show p.h-(i+1)=p.h-1-i by lia,<-e];rfl
  ·intro y c;rcases aaW.mp c with c|c
   ·exact c
   ·exact aat _ c
  ·rw[aae,agK];lia
 ·rintro M D ⟨m,X,W,b,U,rfl,n,d,hU⟩;have e:p.h-(lv.map V.ref).length=0:=by rw[aaa,Y,ahK]
  rw[aaa,Y]at hU d;have a2:=d.wr.len;have v:=N.did d ⋯;rw[e,Int.pow_zero,ajc];subst a0;exists 5,p.t,_,2,T8.of v.t,7,5,p.k,_,2,T8.of v.k,pR r3;exact q b U D ((d1.trans d).le ⋯ λy c=>c)
structure SR where
 t:Addr
 t1:Addr
 t2:Addr
 t3:Addr
 ah:Addr
 nd:Addr
 k2:Addr
 c2:Addr
 V2:Addr
 f:Addr
 sn:Addr
 bl:Addr
 lows:List Int
 S:Nat
 xs:List V
 ms:List Int
 h:Nat
 ls:List Addr
 ws:List Str
 ts:List Str
abbrev SR.ds(p:SR):List Int:=p.ts.map λt=>(t.length:Int)
abbrev SR.ns(p:SR):List Int:=(p.ts.drop 1).map fK
abbrev SR.es(p:SR):List Int:=p.ts.map (iI p.ws)
abbrev SR.L(p:SR):List (List Nat):=p.ts.map λt=>t.cps.toList
def SR.al(p:SR):List V:=(bB (brk p.ds 0)++((Up p.h (rks p.ms p.ns)).map bB).flatten++bB p.es).map V.int
def SR.bp(p:SR):BP:=(p.t1,(p.f,some p.sn,p.bl,0,p.al),p.ah,p.nd,brk p.ds 0,p.lows,p.S,p.xs)
def SR.sg(p:SR)(g:Addr):SG:=(p.t2,p.k2,p.c2,p.bl,p.sn,g,p.ls,p.ns,p.ms,p.h,many (brk p.ds 0).length,p.al)
structure SA(H:Hp)(Ph Pt:Addr)(p:SR)(ss:List Int):Prop where
 t:H p.t=some (.tup [.ref p.t1,.ref p.t2,.ref p.t3])
 nd:Nd H Ph p.bp ss p.ds
 t2:H p.t2=some (.tup [.int (p.ns.length:Int),.ref p.k2,.ref p.c2])
 k:H p.k2=some (.tup (p.ms.map V.int))
 c:H p.c2=some (.tup (p.ls.map V.ref))
 ls:tK H p.ls ((Up p.h (rks p.ms p.ns)).map λbs=>Uv bs (many p.ns.length))
 kd:Kinds p.ns p.ms
 sz:jx p.ms.length (2^p.h)
 h12:p.h<=12
 t3:Tab H p.t3 p.V2 p.es []
 clo:Va H (p.f,some p.sn,p.bl,0,p.al)
 tab:TabAt H Pt (bW bu) aL.qual
 begs:m9 p.ws p.ts
 low:∀w∈p.ws,U8 w
 len:p.ts.length<=2001
 few:ss.length<=15000000
 ne:Pt≠Ph
 nod:p.ws.Nodup
structure cJ(H H':Hp)(Ph Pt:Addr)(p:SR)(k:Nat)(ss ss':List Int):Prop where
 kp:∀b o,H b=some o->b≠Ph->b≠Pt->b≠p.sn->H' b=some o
 seen:H' p.sn=some (.lst (ss'.map V.int))
 tab:TabAt H' Ph (bW bR) aY.qual
 tabT:TabAt H' Pt (bW bu) aL.qual
 wr:bO p.al.length k ss ss'
theorem cJ.trans{H n m:Hp}{f d:Addr}{p:SR}{j k:Nat}{a b c:List Int}(h:cJ H n f d p j a b)(h':cJ n m f d p k b c):cJ H m f d p (j+k) a c:=
 (λx o e l i g=>h'.kp x o (h.kp x o e l i g) l i g,h'.seen,h'.tab,h'.tabT,h.wr.trans h'.wr)
theorem cJ.le{H e:Hp}{d c:Addr}{p:SR}{j k:Nat}{a b:List Int}(h:cJ H e d c p j a b)(f:j<=k):cJ H e d c p k a b:=(h.kp,h.seen,h.tab,h.tabT,h.wr.le f)
theorem cJ.same{H g f:Hp}{d c:Addr}{p:SR}{j:Nat}{a b:List Int}(h:cJ H g d c p j a b)(s:aU g f):cJ H f d c p j a b:=
 (λx o e l k i=>s _ _ (h.kp x o e l k i),s _ _ h.seen,TabAt.same h.tab s,TabAt.same h.tabT s,h.wr)
theorem cJ.set{X:Hp}{r:Addr}{p:SR}{k:Nat}{ws:List V}(c:cJ H X f C p k d J)(n:H r=none)(g:X r=some (.lst j))(h:r≠p.sn):cJ H (L2.upd X r (.lst ws)) f C p k d J:=
 (λb o e m l i=>by rw[aG (aD e n)];exact c.kp b o e m l i,by rw[aG h.symm];exact c.seen,TabAt.upd c.tab g,TabAt.upd c.tabT g,c.wr)
theorem SA.sn{p:SR}(x:SA H f C p d):H p.sn=some (.lst (d.map V.int))/\p.sn≠p.bl:=x.nd.b.ask.asks.seen _ rfl
theorem SA.self{p:SR}(x:SA H f C p d):cJ H H f C p 0 d d:=(λ_ _ e _ _ _=>e,x.sn.1,x.nd.b.tab,x.tab,bO.none d)
theorem SA.kp{H H':Hp}{i h:Addr}{p:SR}{k:Nat}{f c:List Int}(x:SA H i h p f)(d:cJ H H' i h p k f c):Kp H H':=λb o e g j=>d.kp b o e (TabAt.ne x.nd.b.tab e g) (TabAt.ne x.tab e g) λz=>by
 rw[z,x.sn.1]at e;cases e;exact j _ rfl
theorem SA.did{H':Hp}{p:SR}{k:Nat}(x:SA H f C p d)(g:cJ H H' f C p k d J)(i:J.length<=15000000):SA H' f C p J:=by
 have h:=x.kp g;have B:=x.nd.b;have j:=g.kp _ _ B.ask.asks.nodes (TabAt.ne B.tab B.ask.asks.nodes nofun) (TabAt.ne x.tab B.ask.asks.nodes nofun) x.sn.2.symm;refine(h _ _ x.t nofun nofun,((((h _ _ B.ask.tab.tup nofun nofun,h _ _ B.ask.tab.Vb nofun nofun,B.ask.tab.few),(B.ask.asks.look.kept h,λm e=>?_,j,9),B.ask.bits,B.ask.len,B.ask.blk),h _ _ B.Wz nofun nofun,B.low,B.sz,B.heap,g.tab),9,x.nd.eq,x.nd.good),h _ _ x.t2 nofun nofun,h _ _ x.k nofun nofun,h _ _ x.c nofun nofun,x.ls.to λb l e=>h _ _ e nofun nofun,x.kd,x.sz,x.h12,(h _ _ x.t3.tup nofun nofun,h _ _ x.t3.Vb nofun nofun,x.t3.few),Va.keeps _ _ _ x.clo λb o e=>h _ _ e nofun nofun,g.tabT,x.begs,x.low,x.len,i,x.ne,x.nod);cases e;exact(g.seen,x.sn.2)
theorem SA.same{H H':Hp}{d c:Addr}{p:SR}{b:List Int}(x:SA H d c p b)(s:aU H H'):SA H' d c p b:=x.did (x.self.same s) x.few
theorem TabAt.keep{H':Hp}{P :Addr}{pos :Pos}{q :Str}(h:TabAt H P pos q)(h':TabAt H f p x)(n:P≠f)(s:∀b o,H b=some o->b≠f->(∀ps,o ≠ .lst ps)->H' b=some o):TabAt H' P pos q:=by
 obtain⟨ps,l,k,c⟩:=h;exists ps,s _ _ l n nofun,k;rcases c with c|⟨m,g,e,t,j,d,i⟩
 ·exact .inl c
 ·exact .inr (m,g,e,t,j,s _ _ d (TabAt.ne h' d nofun) nofun,i)
theorem SA.tree{H':Hp}{p:SR}{k:Nat}(x:SA H f C p d)(c:Did H H' f p.bp.L k d J):cJ H H' f C p k d J:=by
 have h:∀b,b≠p.sn->p.bp.L.wr≠some b:=λb n z=>n (aax z).symm;refine(λb o e g _ i=>c.kp b o e g (h b i),c.seen _ rfl,c.tab,TabAt.keep x.tab x.nd.b.tab x.ne λb o e g j=>c.kp b o e g (h b λz=>?_),c.wr);rw[z,x.sn.1]at e;cases e;exact j _ rfl
theorem SA.signs{H':Hp}{p:SR}{k:Nat}{U :List Int}(x:SA H f C p d)(c:gD H H' C (p.sg S) k U d J):cJ H H' f C p k d J:=by
 refine(λb o e _ h i=>c.kp b o e h i,c.seen,TabAt.keep x.nd.b.tab x.tab x.ne.symm λb o e j h=>c.kp b o e j λz=>?_,c.tab,c.wr);rw[show b=p.sn from z,x.sn.1]at e;cases e;exact h _ rfl
theorem SA.made{H':Hp}{p:SR}(x:SA H f C p d)(s:gr C H H')(t:TabAt H' C (bW bu) aL.qual):cJ H H' f C p 0 d d:=
 (λb o e _ c _=>s b o e c,s _ _ x.sn.1 (TabAt.ne x.tab x.sn.1 nofun),TabAt.keep x.nd.b.tab x.tab x.ne.symm λb o e g _=>s b o e g,t,bO.none d)
theorem SR.off_len(p:SR):(bB (brk p.ds 0)).length=many (brk p.ds 0).length:=bD _
theorem SA.sq{f:Addr}{p:SR}{cs:List Addr}(x:SA H C S p d)(l:∀c∈cs,H c=none)(s:gr S H H')(t:TabAt H' S (bW bu) aL.qual)(m:dG H' f aL cs [.ref p.f,.int ((many (brk p.ds 0).length:Nat):Int)]):SQ H' S (p.sg f) d:=by
 have g:=x.made s t;have y:=x.did g x.few;have q:=x.few;have n:=x.len;refine(y.t2,y.k,y.c,y.ls,y.nd.b.ask.asks.nodes,λj z i=>?_,x.kd,x.sz,x.h12,8,y.sn.1,y.sn.2,9,(p.f,_,cs,aac _,m,8),t)
 ·have i:(((Up p.h (rks p.ms p.ns)).map bB).flatten)[j]?=some z:=i;show p.al[many (brk p.ds 0).length+j]?=some (.int z);unfold SR.al;rw[aag,aaG,aap (by rw[p.off_len];lia),p.off_len,agB,aaw (aab.mp i).1];exact congrArg (ajt V.int) i
 ·show p.ns.length<=4000;rw[aaa,abo];lia
 ·rw[ahK];exact Va.keeps.hid x.clo l λb o e=>x.kp g _ _ e nofun nofun
inductive ph(vs:List V)(H:Hp)(Q:VK)(_e1:XK):Prop
 | mk (t t1 ah:Addr) (x y:V) (ns:List Int) (rest:List V) (_:vs=[.ref t]) (_:H t=some (.tup [.ref t1,x,y])) (_:Tab H t1 ah ns rest) (_:Q (.int (many ns.length:Nat)) H)
theorem iZ(T:Tx K mg a):aV P w K mg base T9 1 a.aa8 a.aaU ["tables"] ph:=by
 refine T.aaE.F.Ub pY λi A d s H j Q E k h=>?_;obtain⟨t,f,g,x,y,b,rest,rfl,ht,c,q⟩:=h;exists _,(au (aF (aB bz (aJ aO rfl T.Ul Tw.bx (ak (aW aQ (aW aQ (pv 0) aq) aq) aa)) aq)));exists 5,t,_,2,T8.of ht,7,f,_,2,T8.of c.tup,pB _ _ _ c.few,g,5,.inr (T8.of c.Vb),2;have e:(((Uv b (many b.length)).map V.int).length:Int)-1=((many b.length:Nat):Int):=by
  rw[aaa,cZ];lia
 rw[<-e]at q;exact q
theorem vV:∀k,k<26->letters.cps.toList[k]?=some (97+k):=by decide +kernel
theorem Lf{t:Str}{u:List Nat}{c:Nat}(h:t.cps.toList=u++[c]):fK t=(c:Int)-97:=by
 unfold fK;rw[h,aid]
theorem SA.at{H:Hp}{f e:Addr}{p:SR}{c:List Int}(x:SA H f e p c){i:Nat}{u:List Nat}(h:p.L[i]?=some u):∃t,p.ts[i]?=some t/\t.cps.toList=u/\U8 t:=by
 rw[aag]at h;obtain⟨t,b,d⟩:=aaM.mp h;exact(t,b,d,x.begs.low x.low (aah b))
inductive Ab(Ph:Addr)(Pt:Addr)(vs:List V)(H:Hp)(Q:VK)(_e1:XK):Prop
 | mk (p:SR) (ss:List Int) (i:Nat) (u:List Nat) (c:Nat) (_:vs=[.ref p.t,.ref p.f,.int (i:Int)]) (_:SA H Ph Pt p ss) (_:p.L[i]?=some (u++[c])) (_:∀ss' H',cJ H H' Ph Pt p 24 ss ss'->Q (.str ⟨#[c]⟩) H')
theorem pD(T:Tx K mg a)(B:Bs mg base a):aV P w K mg base T9 8 a.ad1 a.adt ["tables","look","node"] (Ab a.Uh a.Ui):=by
 refine T.ab9.F.Ub zp λO A n s H R Q E g h=>?_;obtain⟨p,D,i,u,c,rfl,x,J,q⟩:=h
 exists _,(au (aF (aW Et (bF (v:=.str "abcdefghijklmnopqrstuvwxyz") rfl T.aem (_,7)) (aH T.afr (FZ T B) g (ak (aW aQ (pv 0) aq) (ak (aH T.YS (j0 T B) g (My 1 (ak (aH T.aaE (iZ T) g (My 0 aa)) aa))) (ak (aB bz (pv 2) aq) aa)))))))
 have m:=x.few;obtain⟨t,ht,e,I⟩:=x.at J;have r:=x.begs.zero;have S:1<=i:=by
  rcases ags i with z|z
  ·subst z;rw[ht]at r;cases r;simp at e
  ·exact z
 have W:=I.2 c (by rw[e];exact aat _ (ahs _));have l:p.ns[i-1]?=some ((c:Int)-97):=by
  rw[aag,agF,show 1+(i-1)=i by lia,ht];exact congrArg some (Lf e)
 exists 5,p.t,_,2,T8.of x.t,7,6,p.t,p.t1,p.ah,1,p.bp.ns,5,x.t,x.nd.b.ask.tab;refine(p.f,many p.bp.ns.length,7,x.tab,λf X Y V k o d G=>?_);have y:=x.made o d;have C:=x.did y m;refine(5,2,p.sg f,D,5,x.sq k o d G,9,i-1,_,9,l,λj U M L=>?_);have N:=x.h12;exists letters,_,97+(c-97),7,7,4,8
 ·rw[show ((c:Int)-97)=((c-97:Nat):Int) by lia];exact mR (vV _ ⋯)
 ·rw[show 97+(c-97)=c by lia];exact q j M ((y.trans (C.signs L)).le (by show 0+2*p.h<=24;lia))
theorem SA.pc{p:SR}(x:SA H f C p d):PC p.L:=by
 refine(ai7.mpr x.begs.up,λt ht k=>?_);obtain⟨u,b,rfl⟩:=aaZ.mp ht;exact aaZ.mpr (beg u k,x.begs.pre b k,bY u k)
theorem SR.lens(p:SR):p.ds=Tw.lens p.L:=by
 show p.ts.map _=(p.ts.map _).map _;rw[ag1];exact ahR λt _=>congrArg Nat.cast (aaf).symm
theorem Hz{K:PySem.W.Frag}{a:Addr}{xs:List V}{c:L2.St}{tt:TT}(R:V->Prop)(o:H a=some (.tup xs))(r:xs.length<sizeLine)
  (h:∀(x:V) (H':Hp) (Q:Bool->Hp->Prop),Q true H'->tt (some x::c) H' Q)(p:∀(x:V) (H':Hp) (Q:VK),x∈xs->aU H H'->(∀y,R y->Q y H')->ta (some x::c) H' Q)
  (q:∀D ys,H D=none->ys.length=xs.length->(∀y∈ys,R y)->B D (upd H D (.lst ys))):jw (Xb K a) c tt ta B H:=by
 intro D f;exists λi m ys l=>m=xs.length-i/\i<=xs.length/\ys.length=i/\(∀y∈ys,R y)/\l=upd H D (.lst ys),(5,aaD _,7,nofun,7);rintro i m ys l ⟨rfl,s,rfl,k,rfl⟩;have g:T8 K (upd H D (.lst ys)) a xs:=T8.of (az f _ _ _ o);by_cases b:ys.length<xs.length
 ·have j:=aad b;refine .inr ((1,g,j),λv t y=>?_);obtain⟨rfl,y⟩:=y;have e:=y _ g;rw[j]at e;cases e;refine h _ _ _ ?_;rw[if_pos rfl];refine p _ _ _ (acV b) (az f _) λy n=>(ao,9,xs.length-(ys.length+1),9,7,b,by rw[aae];rfl,λz d=>?_,8)
  ·rcases aaW.mp d with d|d
   ·exact k z d
   ·rw[aam.mp d];exact n
  ·rw[m6]
 ·have e:ys.length=xs.length:=by lia
  exact .inl ((_,g,ahD e.symm),q D ys f e k)
theorem SR.L_at{p:SR}{k:Nat}{t:Str}(h:p.ts[k]?=some t):p.L[k]?=some t.cps.toList:=by
 rw[aag,h];rfl
theorem cJ.free{H':Hp}{l:Addr}{p:SR}{k:Nat}(b:cJ H H' f C p k d J)(h:H' l=none):H l=none:=by
 cases e:H l with
 |none=>rfl
 |some o=>
  by_cases j:l=f
  ·obtain⟨m,c,_⟩:=b.tab;rw[j,c]at h;cases h
  by_cases i:l=C
  ·obtain⟨m,c,_⟩:=b.tabT;rw[i,c]at h;cases h
  by_cases g:l=p.sn
  ·rw[g,b.seen]at h;cases h
  rw[b.kp l o e j i g]at h;cases h
theorem SR.let_len(p:SR):(((Up p.h (rks p.ms p.ns)).map bB).flatten).length=p.h*many p.ns.length:=by
 rw[rG (n:=p.ns.length) λc b=>by
  rw[(Tw.pI _ _ _ b).2];unfold rks;exact aaa ..,jd]
theorem vC{m:Int}:∀{ys:List V},(∀y∈ys,y=V.int m) -> ∃b:List Int,ys=b.map V.int/\b.sum=ys.length*m
 |[],_=>([],7,by simp)
 |y::ys,h=>by
  obtain⟨b,e,d⟩:=vC (ys:=ys) λz c=>h z (aaC _ c);refine(m::b,by rw[e,h y aaL];rfl,8);rw[ahq,d,aaB,Int.natCast_succ,Int.add_mul,Int.one_mul,Int.add_comm]
inductive lM(Ph:Addr)(Pt:Addr)(vs:List V)(H:Hp)(Q:VK)(_e1:XK):Prop
 | mk (p:SR) (ss:List Int) (_:vs=[.ref p.t]) (_:SA H Ph Pt p ss) (_:∀H',aU H H'->Q (.int ((p.h*many p.ns.length:Nat):Int)) H')
theorem mG(T:Tx K mg a):aV P w K mg base T9 1 a.aaH a.aaF ["tables"] (lM a.Uh a.Ui):=by
 refine T.aaK.F.Ub lF λJ A n s H L Q E N h=>?_;obtain⟨p,M,rfl,x,q⟩:=h
 exists _,(au (aF (aJ (wA rfl) rfl T.agb Tw.Em (ak (mO rfl cu.zero (JV (aW aQ (aW aQ (pv 0) aq) aq)) (λ_ _ _ _=>fu) (λ_ _ _ _=>(aB bz (aJ (show eU _ (.builtin "len") (λr H Q=>∃p f,r=[.ref p]/\(T6 K H p f\/T8 K H p f)/\Q (.int f.length) H)from aO) rfl T.Ul Tw.bx (My 0 aa)) aq))) aa))))
 have k:p.ls.length=p.h:=by rw[x.ls.1,aaa,jd]
 have I:=x.h12;exists 5,p.t,_,2,T8.of x.t,7,p.t2,_,2,T8.of x.t2,7,p.c2,7,(_,T8.of x.c);refine Hz (λy=>y=.int ((many p.ns.length:Nat):Int)) x.c (by rw[aaa,sizeLine_eq];lia) (λ_ _ _ q=>q) (λy R O B u v=>?_) λl f C j g=>?_
 ·obtain⟨b,D,rfl⟩:=aaZ.mp B;obtain⟨i,o⟩:=abg D;have m:=(aab.mp o).1;have d:=aad (l:=(Up p.h (rks p.ms p.ns)).map λG=>Uv G (many p.ns.length)) (by rw[<-x.ls.1];exact m);rw[ajh]at d;refine(5,b,5,.inr (T8.of (u _ _ (x.ls.2 i b _ o d))),2,v _ ?_);rw[aaa,cZ];exact congrArg V.int ⋯
 ·obtain⟨z,rfl,e⟩:=vC g;exists l,z,7,T6.of ao;rw[e,j,aaa,k,<-Int.natCast_mul];exact q _ (az C _)
abbrev SR.off(p:SR):Nat:=many (brk p.ds 0).length+p.h*many p.ns.length
abbrev SR.le(p:SR)(f:Addr):LK:=(f,some p.sn,p.bl,p.off,p.al)
theorem SA.ends{f:Addr}{p:SR}{cs:List Addr}(x:SA H C S p d)(i:∀c∈cs,H c=none)(s:gr S H H')(t:TabAt H' S (bW bu) aL.qual)(j:dG H' f aL cs [.ref p.f,.int (p.off:Int)]):Ask H' p.t3 (p.le f) p.V2 p.es d []:=by
 have g:=x.made s t;have y:=x.did g x.few;have m:=x.few;have l:=x.len;refine(y.t3,(.inr (.inl (p.f,_,cs,aac _,j,8)),λq e=>?_,y.nd.b.ask.asks.nodes,9),yf _ _,by rw[aaa];lia,λn k=>?_)
 ·rw[ahK];exact Va.keeps.hid x.clo i λb o e=>x.kp g _ _ e nofun nofun
 ·cases e;exact y.sn
 ·show p.al[p.off+n]?=_;unfold SR.al;have e:(bB (brk p.ds 0)++((Up p.h (rks p.ms p.ns)).map bB).flatten).length=p.off:=by rw[aae,p.off_len,p.let_len]
  rw[aag,aap (by rw[e];lia),e,agB];exact congrArg (ajt V.int) (jH k)
theorem SA.asked{i:Hp}{f:Addr}{p:SR}(x:SA H C S p d)(s:gr S H H')(t:TabAt H' S (bW bu) aL.qual)(w:bO p.al.length 1 d J)(g:aU ((p.le f).put H' J) i):cJ H i C S p 1 d J:=by
 have c:=x.made s t;have y:=x.did c x.few;rw[LK.put_some (L:=p.le f) rfl]at g;refine(λb o e k j h=>g _ _ (by rw[aG h];exact c.kp b o e k j h),g _ _ ao,TabAt.same (TabAt.upd c.tab c.seen) g,TabAt.same (TabAt.upd c.tabT c.seen) g,w)
inductive tR(Ph:Addr)(Pt:Addr)(vs:List V)(H:Hp)(Q:VK)(_e1:XK):Prop
 | mk (p:SR) (ss:List Int) (_:vs=[.ref p.t,.ref p.f]) (_:SA H Ph Pt p ss) (_:∀f cs H1 H2,aU H H1->(∀c∈cs,H1 c=none)->gr Pt H1 H2->TabAt H2 Pt (bW bu) aL.qual->dG H2 f aL cs [.ref p.f,.int (p.off:Int)]->Q (.ref f) H2)
theorem lq(T:Tx K mg a)(B:Bs mg base a):aV P w K mg base T9 2 a.abZ a.abn ["tables","look"] (tR a.Uh a.Ui):=by
 refine T.aaP.F.Ub tW λr A g s H u Q E d h=>?_;obtain⟨p,k,rfl,x,q⟩:=h;exists _,(au (aF (aH T.YS (j0 T B) d (My 1 (ak (aB aX (aH T.aaE (iZ T) d (My 0 aa)) (aH T.aaK (mG T) d (My 0 aa))) aa)))));refine(6,p.t,p.t1,p.ah,1,p.bp.ns,5,x.t,x.nd.b.ask.tab,5,p,k,7,x,λo i=>?_);refine(2,p.f,p.off,7,TabAt.same x.tab i,λf m n _ e j c l=>q f m o n i e j c l)
inductive Hk(Ph:Addr)(Pt:Addr)(vs:List V)(H:Hp)(Q:VK)(_e1:XK):Prop
 | mk (p:SR) (ss:List Int) (i:Nat) (t:Str) (_:vs=[.ref p.t,.ref p.f,.int (i:Int)]) (_:SA H Ph Pt p ss) (_:p.ts[i]?=some t) (_:∀ss' H',cJ H H' Ph Pt p 1 ss ss'->Q (.bl (decide (t∈p.ws))) H')
theorem Hd(T:Tx K mg a)(B:Bs mg base a):aV P w K mg base T9 5 a.afO a.afl ["tables","look","node"] (Hk a.Uh a.Ui):=by
 refine T.afU.F.Ub Jt λD A k s H G Q E r h=>?_;obtain⟨p,n,i,t,rfl,x,v,q⟩:=h;exists _,(au (aF (uq dR (aH T.X6 (mW T) r (ak (aW aQ (pv 0) aq) (ak (aH T.aaP (lq T B) r (My 0 (My 1 aa))) (My 2 aa)))) aq)));have C:=x.few;refine(5,p.t,_,2,T8.of x.t,7,6,p,n,7,x,λf I L J o j m b u=>?_);have l:=x.same o;refine(5,p.t3,p.le f,p.V2,p.es,n,[],i,iI p.ws t,7,l.ends j m b u,9,8,λc y wr g=>?_)
 ·rw[aag,v];rfl
 ·exists 7;have d:=(x.self.same o).trans (l.asked m b wr g);have e:decide (V.int (iI p.ws t)=V.int 1)=decide (t∈p.ws):=by
   unfold iI;by_cases z:t∈p.ws
   ·rw[if_pos z,decide_eq_true z];exact decide_eq_true rfl
   ·rw[if_neg z,decide_eq_false z];exact decide_eq_false nofun
  have:=q c y d;rw[<-e]at this;exact this
theorem pH(ws:List Str):∀b:List Str,(b.map (iI ws)).sum=((b.filter λt=>decide (t∈ws)).length:Int)
 |[]=>rfl
 |t::b=>by
  rw[aar,ahq,pH ws b,agN];unfold iI;by_cases z:t∈ws
  ·rw[if_pos z,if_pos (decide_eq_true z),aaB];lia
  ·rw[if_neg z,if_neg (by simpa using z)];lia
theorem m9.nodup{ws :List Str}(h:m9 ws N):N.Nodup:=ai3 (λ{a b} h e=>by subst e;exact dY _ h) h.up
theorem m9.self{ws :List Str}(h:m9 ws N){w:Str}(b:w∈ws):w∈N:=(h.mem w).mpr (.inr (w,b,w.length,by
 refine eZ ?_;rw[bY];exact(aai (ahD aaf)).symm))
theorem SA.cnt{p:SR}(x:SA H C S p d){i:Nat}{f:Str->Bool}(h:∀k t,p.ts[k]?=some t->(k<i ↔ f t=true)):(p.es.take i).sum=((p.ws.filter f).length:Int):=by
 show ((p.ts.map (iI p.ws)).take i).sum=_;rw[<-ahX,pH];refine congrArg Nat.cast (Lj ((x.begs.nodup.sublist (ag2 _ _)).filter _) (x.nod.filter _) λw=>?_);rw[ahU,ahU];constructor
 ·rintro⟨e,g⟩;obtain⟨k,c⟩:=abg e;have b:=(aab.mp c).1;rw[aaz]at b;rw[adI ⋯]at c;exact(of_decide_eq_true g,(h k w c).mp ⋯)
 ·rintro⟨e,g⟩;obtain⟨k,c⟩:=abg (x.begs.self e);have b:=(h k w c).mpr g;refine(aah (i:=k) ?_,decide_eq_true e);rw[adI b];exact c
inductive R3(Ph:Addr)(Pt:Addr)(vs:List V)(H:Hp)(Q:VK)(_e1:XK):Prop
 | mk (p:SR) (ss:List Int) (u:Str) (_:vs=[.ref p.t,.ref p.f,.str u]) (_:SA H Ph Pt p ss) (_:ss.length<=12000000) (_:u.length<=150) (_:∀ss' H',cJ H H' Ph Pt p 170001 ss ss'->Q (.bl (decide (u∈p.ws))) H')
inductive xQ(Ph:Addr)(Pt:Addr)(vs:List V)(H:Hp)(Q:VK)(_e1:XK):Prop
 | mk (p:SR) (ss:List Int) (_:vs=[.ref p.t]) (_:SA H Ph Pt p ss) (_:Q (.int (p.ws.length:Int)) H)
theorem SA.all{p:SR}(x:SA H f C p d):p.es.sum=(p.ws.length:Int):=by
 have:=x.cnt (i:=p.ts.length) (f:=λ_=>true) λk t b=>(λ_=>rfl,λ_=>(aab.mp b).1);rw[aai (by rw[aaa];exact aac _),List.filter_eq_self.mpr λ_ _=>rfl]at this;exact this
theorem wN(T:Tx K mg a):aV P w K mg base T9 1 a.adu a.acI ["tables"] (xQ a.Uh a.Ui):=by
 refine T.adH.F.Ub xK λe A d s H f Q E i h=>?_;obtain⟨p,g,rfl,x,q⟩:=h;exists _,(au (aF (aW aQ (aW aQ (aW aQ (pv 0) aq) aq) (gB dh aq))));have b:p.es.take (32*many p.es.length)=p.es:=aai (by unfold many;lia);have c:Ux ((Uv p.es (many p.es.length)).map V.int) (-1)=some (.int p.es.sum):=by
  rw[Dg,aaj,b];exact lE _ _
 rw[<-x.all]at q;exact(5,p.t,_,2,T8.of x.t,7,p.t3,_,2,T8.of x.t3.tup,7,5,p.V2,_,2,T8.of x.t3.Vb,c,q)
theorem yo{b:Type}{f:b->Bool}:∀{l:List b}{i:Nat}{x:b},l[i]?=some x->f x=true->(l.filter f)[((l.take i).filter f).length]?=some x
 |[],_,_,h,_=>by simp at h
 |y::l,0,x,h,c=>by
  cases h;rw[acM c];rfl
 |y::l,i+1,x,h,c=>by
  have e:=yo (l:=l) (i:=i) (by simpa using h) c;rw[ahr];cases q:f y with
  |true=>
   rw[acM q,acM q,aaB,ahY];exact e
  |false=>
   have d:¬f y=true:=by rw[q];exact aal
   rw[ag0 d,ag0 d];exact e
abbrev SR.ok(p:SR)(t:Str):Bool:=decide (t∈p.ws)
def SR.so(p:SR):List Str:=p.ts.filter p.ok
theorem SA.so_len{p:SR}(x:SA H f C p d):p.so.length=p.ws.length:=by
 have:=x.all;unfold SR.es at this;rw[pH]at this;exact ajx this
theorem SA.so_up{p:SR}(x:SA H f C p d):p.so.Pairwise Ve:=x.begs.up.sublist (List.filter_sublist)
theorem SA.so_mem{p:SR}(x:SA H f C p d)(t:Str):t∈p.so ↔ t∈p.ws:=by
 unfold SR.so;rw[ahU,decide_eq_true_eq];exact(λh=>h.2,λh=>(x.begs.self h,h))
structure pX(p:SR)(n i:Nat)(t:Str):Prop where
 nd:p.ts[i]?=some t
 wd:t∈p.ws
 ct:((p.ts.take i).filter p.ok).length=n
theorem pX.so{p:SR}{n i:Nat}{t:Str}(h:pX p n i t):p.so[n]?=some t:=by
 have:=yo (f:=p.ok) h.nd (decide_eq_true h.wd);rw[h.ct]at this;exact this
inductive Bk(Ph:Addr)(Pt:Addr)(C:Addr)(vs:List V)(H:Hp)(Q:VK)(E:XK):Prop
 | mk (p:SR) (ss:List Int) (nth:Int) (_:vs=[.ref p.t,.ref p.f,.int nth]) (_:SA H Ph Pt p ss) (_:((∃n:Nat,nth=(n:Int)/\n<p.ws.length /\ ∀(i:Nat) (t:Str) ss' H',pX p n i t->cJ H H' Ph Pt p 1 ss ss'->Q (.int (i:Int)) H')\/((nth<0\/(p.ws.length:Int)<=nth) /\ ∀H',cJ H H' Ph Pt p 0 ss ss->E (.ref C) none H')))
theorem lA(T:Tx K mg a)(B:Bs mg base a):aV P w K mg base (U9 P w) 5 a.aeL a.ad2 ["tables","look","nth"] (Bk a.Uh a.Ui a.Uo):=by
 refine T.YX.F.ok1 Bx (λD H Q E h=>?_) (λN A v s H D Q E y h=>?_)
 ·obtain⟨p,l,d,rfl,_⟩:=h;rfl
 obtain⟨p,l,d,rfl,x,h⟩:=h;exists _,(au (aF (eQ T.ab7 (pK T) ∅ y lr rfl (ak (aW aQ (pv 0) aq) (ak (aH T.aaP (lq T B) y (My 0 (My 1 aa))) (My 2 aa))))));have M:=x.few;have C:=x.all;refine(5,p.t,_,2,T8.of x.t,7,6,p,l,7,x,λf R S J m u k b G=>?_);have j:=x.same m;refine(5,p.t3,p.le f,p.V2,p.es,l,[],d,7,j.ends u k b G,9,8);rcases h with ⟨n,rfl,O,q⟩|⟨z,e⟩
 ·refine .inl (9,9,λL i o c g wr r=>?_);have I:i<p.ts.length:=by
   have:=(aab.mp c).1;rw[aaa]at this;exact this
  have ht:=aad I;refine q i p.ts[i] o L (ht,8,8) ((x.self.same m).trans (j.asked k b wr r))
  ·rw[aag,ht]at c;have c:iI p.ws p.ts[i]=1:=aax c;unfold iI at c;split at c
   ·assumption
   ·cases c
  ·have g:((p.ts.map (iI p.ws)).take i).sum=_:=g;rw[<-ahX,pH]at g;exact ajx g
 ·exact .inr (9,e J ((x.self.same m).trans (j.made k b)))
inductive wO(vs:List V)(H:Hp)(Q:VK)(_e1:XK):Prop
 | mk (u t:Str) (d:Nat) (c:Nat) (_:vs=[.str u,.int (d:Int),.str ⟨#[c]⟩]) (_:u.length<=40) (_:t.cps.toList=u.cps.toList.take (d-1)++[c]) (_:1<=d) (_:Q (.str t) H)
theorem xM(T:Tx K mg a):aV P w K mg base T9 1 a.adp a.acG ["ahead","depth","letter"] wO:=by
 refine T.adF.F.Ub xg λg A b s H i Q E k h=>?_;obtain⟨u,t,d,c,rfl,j,ht,hd,q⟩:=h;exists _,(au (aF (aB iw (cG qJ (pv 0) fM (cO (aB bz (pv 1) aq))) (pv 2))));have e:(d:Int)-1=((d-1:Nat):Int):=by lia
 have f:lC u none (some ((d:Int)-1))=beg u (d-1):=by rw[e,uo]
 have l:(beg u (d-1)).length<=40:=by rw[pP];lia
 refine(6,2,5,u,7,by rw[sizeLine_eq];lia,8);rw[f];refine(5,2,by rw[sizeLine_eq];show _+1<=_;lia,8);have:beg u (d-1)++(⟨#[c]⟩:Str)=t:=eZ (by
  rw[Str.cps_append,acK,bY,ht])
 rw[this];exact q
theorem join_ones:∀cs:List Nat,(Txt.join "" (cs.map λc=>(⟨#[c]⟩:Str))).cps.toList=cs:=by
 have d:∀(cs:List Nat) (b:Array Nat),(aiy (λb (p:Str)=>b++(Str.ofString "").cps++p.cps) b (cs.map λc=>(⟨#[c]⟩:Str))).toList=b.toList++cs:=by
  intro cs
  induction cs with
  |nil=>intro b;simp
  |cons c cs f=>
   intro b;rw[aar,aih,f]
   have e:(Str.ofString "").cps=#[]:=rfl
   rw[e,Array.append_empty,acK,aaG];rfl
 intro cs;cases cs with
 |nil=>rfl
 |cons c cs=>
  show (aiy (λb (p:Str)=>b++(Str.ofString "").cps++p.cps) #[c] (cs.map λc=>(⟨#[c]⟩:Str))).toList=_
  rw[d];rfl
theorem Ir{cs:List Nat}(h:cs.length<=40):JoinOk "" (cs.map λc=>(⟨#[c]⟩:Str))=true:=by
 have b:∀(cs:List Nat) (n:Nat),aiy (λ(e:Nat) (d:Str)=>e+d.length+(Str.ofString "").length) n (cs.map λc=>(⟨#[c]⟩:Str))=n+cs.length:=by
  intro cs
  induction cs with
  |nil=>intro n;rfl
  |cons c cs f=>
   intro n;rw[aar,aih,f];show n+1+0+cs.length=n+(cs.length+1);lia
 unfold JoinOk;rw[List.foldl_toArray,b,agO];unfold Builtin.Str.tooLong;simp only[ahi,decide_eq_false_iff_not];rw[sizeLine_eq];lia
inductive DX(Ph:Addr)(Pt:Addr)(vs:List V)(H:Hp)(Q:VK)(_e1:XK):Prop
 | mk (p:SR) (ss:List Int) (i:Nat) (t:Str) (_:vs=[.ref p.t,.ref p.f,.int (i:Int)]) (_:SA H Ph Pt p ss) (_:ss.length<=12000000) (_:p.ts[i]?=some t) (_:∀ss' H',cJ H H' Ph Pt p 2000 ss ss'->Q (.str t) H')
theorem uW(T:Tx K mg a)(B:Bs mg base a):aV P w K mg base T9 12 a.afm a.aeM ["tables","look","node"] (DX a.Uh a.Ui):=by
 refine T.aeh.F.Ub il λb1 A a7 s H vs Q E hr h=>?_;obtain⟨p,ss,i,t,rfl,x,b0,hi,q⟩:=h;refine(_,(aj (aA 3 il.nd (bQ aa))
  (aj (aA 4 il.nd (pv 2))
  (aj (bC PassesOwn.never rfl (q9 rfl T.Wx (ak (eQ T.acY (rZ T) ∅ hr Az rfl (ak (aW aQ (pv 0) aq) (My 1 (My 2 aa)))) aa)) (aP 5 il.nd) (aj (bc (gn PySem.F.plainAttrs_list PySem.F.slot_list_append PySem.F.type_list_append bN (pv 3) (ak (aH T.ab9 (pD T B) hr (My 0 (My 1 (My 4 aa)))) aa)))
  (au (aA 4 il.nd (eQ T.aeT (Ck T B) ∅ hr Az rfl (ak (aW aQ (pv 0) aq) (My 1 (My 4 aa))))))))
  (au (aF (Gd rfl oG rfl T.Y0 Tw.jc (My 3 aa))))))),8)
 have pc:=x.pc;have hL:=SR.L_at hi;have hw:=x.begs.low x.low (aah hi);have tl:t.cps.toList.length=t.length:=aaf;have Zi:=hw.1;have jl:∀{j:Nat}{u:List Nat},p.L[j]?=some u->j<p.ds.length:=λ{j u} h=>by
  have:=(aab.mp h).1;rw[aaa]at this ⊢;exact this
 refine((by show 0<=sizeLine;decide),λr l=>?_);have s0:=az l (.lst []);have d0:=x.self.same s0;have xr:upd H r (.lst []) r=some (.lst []):=ao;have x0:=x.did d0 x.few;have X:r≠p.sn:=(aD x.sn.1 l).symm;have WL:r≠a.Uh:=λe=>by
  obtain⟨o,J⟩:=TabAt.ex x.nd.b.tab;rw[<-e,l]at J;cases J
 have WM:r≠a.Ui:=λe=>by
  obtain⟨o,J⟩:=TabAt.ex x.tab;rw[<-e,l]at J;cases J
 generalize upd H r (.lst [])=H0 at *;exists 5;refine(5,p.t,_,2,T8.of x0.t,7,6,p.bp,ss,p.ds,5,x0.nd,.inl (i,7,jl hL,λv Ur H1 D W=>?_));rw[p.lens]at D;obtain⟨d,hd,rfl⟩:=D;rw[ue hL]at hd;cases hd;have W:=x0.tree W;have a1:=W.kp _ _ xr WL WM X;have a6:=d0.trans W;refine((t.cps.toList.length:Int),7,9,9,8);rw[abG];refine qI (λk Y M=>∃(j:Nat) (k5:Option V) (g:List Int),Y=[some (.ref p.t),some (.ref p.f),some (.int (i:Int)),some (.ref r),some (.int (j:Int)),k5]/\p.L[j]?=some (t.cps.toList.take (t.length-k))/\M r=some (.lst ((((t.cps.toList.drop (t.length-k)).reverse).map λc=>(⟨#[c]⟩:Str)).map V.str))/\cJ H M a.Uh a.Ui p (2+40*k) ss g) ?_ ?_ ?_
 ·refine(i,none,Ur,7,8,8,a6.le ⋯)
  ·rw[aai ⋯];exact hL
  ·rw[af5 ⋯];exact a1
 ·rintro k Y M hk ⟨j,k5,g,rfl,G,I,d⟩;have wl:=d.wr.len;have x1:=x.did d ⋯;have O:t.length-k=t.length-(k+1)+1:=by lia
  have n:t.length-(k+1)<t.cps.toList.length:=by lia
  obtain⟨c,hc⟩:∃c,t.cps.toList[t.length-(k+1)]?=some c:=(_,aad n);have WD:t.cps.toList.take (t.length-k)=t.cps.toList.take (t.length-(k+1))++[c]:=by
   rw[O,abH,hc];rfl
  rw[WD]at G;refine(5,.inl (7,_,T6.of I),6,5,p,g,j,_,c,7,x1,G,λUz H2 d2=>?_);have a8:=d2.wr.len;have N:=d2.kp _ _ I WL WM X;exists r,2,N,?_
  ·rw[aaa,aaa,agQ,abo,sizeLine_eq];lia
  have Ym:=(d.trans d2).set (ws:=((((t.cps.toList.drop (t.length-k)).reverse).map λc=>(⟨#[c]⟩:Str)).map V.str)++[V.str ⟨#[c]⟩]) l N X;have Z:=x.did Ym ⋯;have a2:upd H2 r (.lst (((((t.cps.toList.drop (t.length-k)).reverse).map λc=>(⟨#[c]⟩:Str)).map V.str)++[V.str ⟨#[c]⟩])) r=_:=ao;generalize upd H2 r (.lst (((((t.cps.toList.drop (t.length-k)).reverse).map λc=>(⟨#[c]⟩:Str)).map V.str)++[V.str ⟨#[c]⟩]))=H3 at *;refine(5,p.t,_,2,T8.of Z.t,7,6,p.bp,Uz,p.ds,5,Z.nd,.inl (j,7,jl G,λv Vn H4 D U=>?_));rw[p.lens]at D;obtain⟨dd,hd,D⟩:=D;rw[ue G]at hd;have hd:(((t.cps.toList.take (t.length-(k+1))++[c]).length:Nat):Int)=dd:=aax hd;rw[aae,aaz]at hd;have a4:dd-1=((t.length-(k+1):Nat):Int):=by
   rw[<-hd,acW (agu n)];show ((t.length-(k+1):Nat):Int)+1-1=_;exact Int.add_sub_cancel _ 1
  have U:=Z.tree U;rcases D with ⟨_,z⟩|⟨R,rfl,u1,u2,u3⟩
  ·lia
  rw[a4]at u2 u3;obtain⟨u,S,el⟩:=O5 u2;have a9:u.length=t.length-(k+1):=by lia
  have a3:R<j:=by
   rcases aay R j with z|z
   ·exact z
   ·have:R=j:=by lia
    subst this;rw[G]at S;have:=congrArg ahp (aax S);rw[aae,aaz,agK]at this;lia
  have C:=pc.under S G a3 λm y h1 h2 hy=>by
   have:=u3 m _ h1 h2 (ue hy);lia
  rw[ahv (by rw[aaz];lia),aai (by rw[aaz];lia)]at C;refine(R,some (.int (0+(k:Int))),Vn,7,by rw[C];exact S,8,(Ym.trans U).le ⋯);have a0:=U.kp _ _ a2 WL WM X;rw[a0];have a5:t.cps.toList.drop (t.length-(k+1))=c::t.cps.toList.drop (t.length-k):=by
   rw[af4 n,O];rw[aad n]at hc;cases hc;rfl
  rw[a5,aix,aaj,aaj];rfl
 ·rintro Y M ⟨j,k5,g,rfl,G,I,d⟩;have e0:t.length-t.cps.toList.length=0:=by lia
  rw[e0,ahx]at I
  exists "",7,5,r,5,T6.of I,?_
  ·rw[<-aht,ahN];exact Ir ⋯
  ·rw[<-aht,ahN,eZ (join_ones t.cps.toList)];exact q g M (d.le ⋯)
theorem PC.prev{L:List (List Nat)}(h:PC L){j c:Nat}{u v:List Nat}(d:L[j+1]?=some (u++[c]))(e:L[j]?=some v):v.take u.length=u:=by
 obtain⟨k,b⟩:=abg (h.pre _ (aah d) u.length);rw[List.take_left]at b;have:=h.of_lt b d (Gv u c []);exact h.mid b e d ⋯ (ahe _)
theorem PC.ne_nil{L:List (List Nat)}(h:PC L){j:Nat}{u:List Nat}(b:L[j+1]?=some u):∃v c,u=v++[c]:=by
 have f:u≠[]:=λe=>by
  subst e;obtain⟨x,d⟩:∃x,L[j]?=some x:=(_,aad (by have:=(aab.mp b).1;lia));exact aij x (h.lt d b (agW j))
 exact(1,(agZ f).symm)
inductive Fw(Ph:Addr)(Pt:Addr)(C:Addr)(vs:List V)(H:Hp)(Q:VK)(E:XK):Prop
 | mk (p:SR) (ss:List Int) (nth:Int) (_:vs=[.ref p.t,.ref p.f,.int nth]) (_:SA H Ph Pt p ss) (_:ss.length<=11000000) (_:((∃(n:Nat) (w:Str),nth=(n:Int)/\p.so[n]?=some w /\ ∀ss' H',cJ H H' Ph Pt p 2001 ss ss'->Q (.str w) H')\/((nth<0\/(p.ws.length:Int)<=nth) /\ ∀H',cJ H H' Ph Pt p 0 ss ss->E (.ref C) none H')))
theorem ux(T:Tx K mg a)(B:Bs mg base a):aV P w K mg base (U9 P w) 13 a.afn a.aeN ["tables","look","nth"] (Fw a.Uh a.Ui a.Uo):=by
 refine T.aei.F.ok1 Du (λm H Q E h=>?_) (λC A f s H m Q E k h=>?_)
 ·obtain⟨p,g,b,rfl,_⟩:=h;rfl
 obtain⟨p,g,b,rfl,x,z,h⟩:=h;exists _,(au (aF (aH T.aeh (uW T B) k (My 0 (My 1 (ak (eQ T.YX (lA T B) ∅ k lr rfl (My 0 (My 1 (My 2 aa)))) aa))))));exists 6,6,5,p,g,b,7,x;rcases h with ⟨n,w,rfl,j,q⟩|⟨c,e⟩
 ·have o:n<p.ws.length:=by rw[<-x.so_len];exact(aab.mp j).1
  refine .inl (n,7,o,λi t v G l d=>?_);have D:=d.wr.len;have:=l.so;rw[j]at this;cases this;exact(p,v,i,w,7,x.did d ⋯,9,l.nd,λu y r=>q u y ((d.trans r).le ⋯))
 ·exact .inr (c,e)
theorem pX.le{p:SR}{m n i j:Nat}{t u:Str}(h:pX p m i t)(h':pX p n j u)(c:m<=n):i<=j:=by
 rcases aay j i with z|z
 ·have e:p.ts.take i=p.ts.take j++[u]++(p.ts.take i).drop (j+1):=by
   have b:=aft (j+1) (p.ts.take i);rw[ah4,acW ⋯,abH,h'.nd]at b;exact b.symm
  have:=h.ct;rw[e,agw,agw,aae,aae,h'.ct,acM (p:=p.ok) (decide_eq_true h'.wd),aaB]at this;lia
 ·exact z
theorem pX.mid{p:SR}{m n i j:Nat}{t u:Str}(h:pX p m i t)(h':pX p n j u)(g:i<=j)(f:m<=n):((p.ts.drop i).take (j-i+1)).filter p.ok=(p.so.drop m).take (n+1-m):=by
 have b:p.ts.take (j+1)=p.ts.take i++(p.ts.drop i).take (j-i+1):=by
  rw[show j+1=i+(j-i+1) by lia,ai0]
 have c:p.ts=p.ts.take i++(p.ts.drop i).take (j-i+1)++p.ts.drop (j+1):=by
  rw[<-b,aft]
 have e:((p.ts.take (j+1)).filter p.ok).length=n+1:=by
  rw[abH,h'.nd,agw,aae,h'.ct];show n+([u].filter p.ok).length=n+1;rw[acM (p:=p.ok) (decide_eq_true h'.wd)];rfl
 rw[b,agw,aae,h.ct]at e;have d:(((p.ts.drop i).take (j-i+1)).filter p.ok).length=n+1-m:=by lia
 unfold SR.so
 conv=>rhs;rw[c]
 rw[agw,agw,aaG,List.drop_left' h.ct,List.take_left' d]
inductive Bf(Ph:Addr)(Pt:Addr)(C:Addr)(vs:List V)(H:Hp)(Q:VK)(E:XK):Prop
 | mk (p:SR) (ss:List Int) (st sp:Int) (_:vs=[.ref p.t,.ref p.f,.int st,.int sp]) (_:SA H Ph Pt p ss) (_:ss.length<=11000000) (_:((∃x y:Nat,st=(x:Int)/\sp=(y:Int)/\x<=y/\y<=p.ws.length /\ ∀(r:Addr) ss' H',H r=none->H' r=some (.lst (((p.so.drop x).take (y-x)).map V.str))->cJ H H' Ph Pt p 70000 ss ss'->Q (.ref r) H')\/(¬(0<=st/\st<=sp/\sp<=(p.ws.length:Int))/\E (.ref C) none H)))
theorem sU(T:Tx K mg a)(B:Bs mg base a):aV P w K mg base (U9 P w) 13 a.aeO a.ad3 ["tables","look","start","stop"] (Bf a.Uh a.Ui a.Uo):=by
 refine T.acZ.F.ok1 eO (λvs H Q E h=>?_) (λb9 A a8 s H vs Q E C h=>?_)
 ·obtain⟨p,M,st,sp,rfl,_⟩:=h;rfl
 obtain⟨p,M,st,sp,rfl,x,b4,h⟩:=h;refine(_,(aj (bc (eQ T.aaI (jO T) ∅ C lr rfl (ak (aH T.adH (wN T) C (My 0 aa)) (My 2 (My 3 aa)))))
  (aj (bh (aK dR (pv 2) (pv 3)) (au (aF (bQ aa))) aN)
  (aj (aA 4 eO.nd (eQ T.YX (lA T B) ∅ C lr rfl (My 0 (My 1 (My 2 aa)))))
  (aj (aA 5 eO.nd (aH T.aeh (uW T B) C (My 0 (My 1 (My 4 aa)))))
  (aj (aA 6 eO.nd (bQ (My 5 aa)))
  (aj (bC Nx rfl (ye rfl T.Wx (ak (aB aX (pv 4) aq) (ak (aB aX (eQ T.YX (lA T B) ∅ C lr rfl (My 0 (My 1 (ak (aB bz (pv 3) aq) aa)))) aq) aa))) (aP 7 eO.nd) (aj (aA 5 eO.nd (aH T.adF (xM T) C (My 5 (ak (eQ T.acY (rZ T) ∅ C lr rfl (ak (aW aQ (pv 0) aq) (My 1 (My 7 aa)))) (ak (aH T.ab9 (pD T B) C (My 0 (My 1 (My 7 aa)))) aa)))))
  (au (bh (iJ (aH T.afU (Hd T B) C (My 0 (My 1 (My 7 aa))))) (au (bc (gn PySem.F.plainAttrs_list PySem.F.slot_list_append PySem.F.type_list_append bN (pv 6) (My 5 aa)))) aN))))
  (au (aF (pv 6))))))))),8)
 exists 5,p,M,7,x,6,(p.ws.length:Int),st,sp,7;rcases h with ⟨m,n,rfl,rfl,b5,hn,q⟩|⟨Z,e⟩
 rotate_left
 ·exact .inr (Z,e)
 refine .inl (9,9,9,8);refine(6,7,5,bL (λc=>?_) λc=>?_)
 ·have c:V.int (m:Int)=V.int (n:Int):=of_decide_eq_true c;injection c with c
  refine((by show 0<=sizeLine;decide),λr i=>?_);refine q r M _ i ?_ ((x.self.same (az i _)).le ⋯);rw[show n-m=0 by lia,aiu,ao];rfl
 have c:m≠n:=λz=>c (decide_eq_true (by rw[z]));refine(6,5,p,M,(m:Int),7,x,.inl (m,7,9,λg D Ur H1 J d1=>?_));have Yn:=d1.wr.len;have x1:=x.did d1 ⋯;refine(6,5,p,Ur,g,D,7,x1,9,J.nd,λUz H2 d2=>?_);have b3:=d2.wr.len;have I:=x1.did d2 ⋯;refine(5,(by show 1<=sizeLine;decide),λr i=>?_);have Ym:=d1.trans d2;have U:=Ym.free i;have s3:=az i (.lst [V.str D]);have xr:upd H2 r (.lst [V.str D]) r=some (.lst [V.str D]):=ao;have x3:=I.did (I.self.same s3) I.few;have a7:=Ym.same s3;have O:r≠p.sn:=(aD I.sn.1 i).symm;have WL:r≠a.Uh:=λe=>by
  obtain⟨o,N⟩:=TabAt.ex I.nd.b.tab;rw[<-e,i]at N;cases N
 have WM:r≠a.Ui:=λe=>by
  obtain⟨o,N⟩:=TabAt.ex I.tab;rw[<-e,i]at N;cases N
 generalize upd H2 r (.lst [V.str D])=H3 at *;refine(5,2,6,5,2,p,Uz,((n:Int)-1),7,x3,.inl (n-1,9,9,λi1 t1 Vn H4 e1 d4=>?_));have a5:=J.le e1 ⋯;have Y:=J.mid e1 a5 ⋯;have b6:=(aab.mp e1.nd).1;have a9:=x.len;have b2:=d4.wr.len;have a6:=a7.trans d4;have a0:=d4.kp _ _ xr WL WM O;exists 2,_,5,(9,9,9,9);rw[show ((i1:Int)+1-((g:Int)+1)).toNat=i1-g by lia];have pc:=x.pc;refine qI (λk σ R=>∃(t:Str) (k7:Option V) (u:List Int),σ=[some (.ref p.t),some (.ref p.f),some (.int (m:Int)),some (.int (n:Int)),some (.int (g:Int)),some (.str t),some (.ref r),k7]/\p.ts[g+k]?=some t/\R r=some (.lst ((((p.ts.drop g).take (k+1)).filter p.ok).map V.str))/\cJ H R a.Uh a.Ui p (2002+1+30*k) M u) ?_ ?_ ?_
 ·refine(D,none,Vn,7,J.nd,8,a6.le ⋯);rw[a0,show (p.ts.drop g).take (0+1)=[D]from ?_,acM (p:=p.ok) (decide_eq_true J.wd)]
  ·rfl
  ·rw[abH,agF,ajb,J.nd];rfl
 ·rintro k σ R hk ⟨t,k7,u,rfl,ht,yr,d⟩;have wl:=d.wr.len;have x5:=x.did d ⋯;have hj:g+k+1<p.ts.length:=by lia
  have j:=aad hj;generalize p.ts[g+k+1]=l at j;have hL:=SR.L_at j;obtain⟨v,c,hv⟩:=pc.ne_nil hL;have G:=hL;rw[hv]at G;have a4:=pc.prev G (SR.L_at ht);have S:l.cps.toList.length=l.length:=aaf;have a3:v.length+1=l.length:=by rw[<-S,hv,aae];rfl
  have jl:g+k+1<p.ds.length:=by rw[aaa];exact hj
  have X:=(x.begs.low x.low (aah ht)).1;have ei:(g:Int)+1+(k:Int)=((g+k+1:Nat):Int):=by lia
  refine(6,p.t,_,2,T8.of x5.t,7,6,p.bp,u,p.ds,5,x5.nd,.inl (g+k+1,ei,jl,λw a2 H5 hw L=>?_));rw[p.lens]at hw;obtain⟨dd,hd,rfl⟩:=hw;rw[ue hL]at hd;cases hd;have L:=x5.tree L;have b1:=L.wr.len;have x6:=x5.did L ⋯;refine(6,5,p,a2,g+k+1,v,c,by rw[<-ei];rfl,x6,G,λa1 H6 d6=>?_);have b0:=d6.wr.len;have x7:=x6.did d6 ⋯;refine(t,l,l.length,c,by rw[S];rfl,X,8,9,8)
  ·rw[hv,<-a3,ahA,a4]
  refine(6,5,p,a1,g+k+1,l,by rw[<-ei];rfl,x7,j,λZe H7 d7=>?_);have Zk:=d7.kp _ _ (d6.kp _ _ (L.kp _ _ yr WL WM O) WL WM O) WL WM O;have W:=(((d.trans L).trans d6).trans d7).le (k:=2002+1+30*(k+1)) ⋯;have WD:(p.ts.drop g).take (k+1+1)=(p.ts.drop g).take (k+1)++[l]:=by
   rw[abH,agF,<-ajw,j];rfl
  refine(5,bL (λz=>?_) λz=>?_)
  ·have hm:l∈p.ws:=of_decide_eq_true z;exists 5,.inl (7,_,T6.of Zk),5,r,2,Zk,?_
   ·have:=aiK p.ok ((p.ts.drop g).take (k+1));rw[aaz]at this;rw[aaa,sizeLine_eq];lia
   ·refine(l,_,Ze,7,j,8,W.set U Zk O);rw[ao,WD,agw,aaj,acM (p:=p.ok) (decide_eq_true hm)];rfl
  ·have hm:¬l∈p.ws:=λy=>z (decide_eq_true y);refine(l,_,Ze,7,j,8,W);rw[Zk,WD,agw,ag0 (p:=p.ok) (λy=>hm (of_decide_eq_true y)),List.filter_nil,ag3]
 ·rintro σ R ⟨t,k7,u,rfl,ht,yr,d⟩;rw[show i1-g+1=i1-g+1 from rfl,Y,show n-1+1-m=n-m by lia]at yr;exact(5,q r u R U yr (d.le ⋯))
def p6(x:Str):Prop:=∀c∈x.cps.toList,97<=c/\c<=122
theorem add_list(x y:Str):(x++y).cps.toList=x.cps.toList++y.cps.toList:=by
 show (x.cps++y.cps).toList=_;exact acK
theorem pJ(x y:Str):(x++y).length=x.length+y.length:=by
 show (x.cps++y.cps).size=x.cps.size+y.cps.size;exact Array.size_append
theorem p6.add{x y:Str}(h:p6 x)(h':p6 y):p6 (x++y):=λc b=>by
 rw[add_list]at b;rcases aaW.mp b with b|b
 ·exact h c b
 ·exact h' c b
theorem p6.cut{x:Str}(h:p6 x)(lo d:Option Int):p6 (lC x lo d):=λc b=>by
 unfold lC at b;rw[aii]at b;exact h c (agX (ahg b))
theorem yW(x:Str):x.cps.toList.length=x.length:=aaf
inductive my(vs:List V)(H:Hp)(Q:VK)(_e1:XK):Prop
 | mk (n kd f:Int) (m:Nat) (_:vs=[.int n,.int kd,.int f,.int (m:Int)]) (_:0<=n) (_:n<2147483647) (_:0<kd) (_:0<=f) (_:m<=100) (_:∀x:Str,x.length=m->p6 x->Q (.str x) H)
theorem fG(T:Tx K mg a):aV P w K mg base T9 1 a.ad5 a.adx ["_law_number","_law_kinds","_law_first","_law_many"] my:=by
 refine T.Xl.F.Ub dD λN A z s H O Q E R h=>?_;obtain⟨n,g,f,m,rfl,C,B,G,Y,S,q⟩:=h;refine(_,(aj (aA 4 dD.nd oG)
  (aj (bC PassesOwn.never rfl (q9 rfl T.Wx (My 3 aa)) (aP 5 dD.nd) (aj (aA 0 dD.nd (aB bZ (aB aX (aB aX (aB cI (pv 0) (pv 0)) (aB cI aq (pv 0))) (pv 5)) aq))
  (aj (aA 6 dD.nd (aB bZ (aB aX (pv 2) (aB bZ (aB cj (pv 0) aq) (pv 1))) aq))
  (au (aA 4 dD.nd (aB iw (pv 4) (aW Et oG (pv 6))))))))
  (au (aF (pv 4))))),8)
 refine(5,(m:Int),7,9,9,8);rw[abG];refine qI (λi l u=>∃(n:Int) (x:Str) (p o:Option V),l=[some (.int n),some (.int g),some (.int f),some (.int (m:Int)),some (.str x),p,o]/\u=H/\0<=n/\n<2147483647/\x.length=i/\p6 x) (n,⟨#[]⟩,none,none,7,7,C,B,7,λc k=>by cases k) ?_ ?_
 ·rintro i l u W ⟨b,x,p,o,rfl,rfl,D,v,r,t⟩;exists 6,2,.inl (9,9),5,2,.inl (4,4),2,5,2,2,(by show (0:Int)<2147483629;decide);have I:=agV (b*b+16807*b+(0+(i:Int))) (show (2147483629:Int)≠0 by decide);have X:=ahd (b*b+16807*b+(0+(i:Int))) (show (0:Int)<2147483629 by decide);show iY 0 (.int ((b*b+16807*b+(0+(i:Int)))%2147483629)) _ _ _;generalize (b*b+16807*b+(0+(i:Int)))%2147483629=d at *;have Z:=agV (d / 128) (show g≠0 by lia);have M:=agV (f+d / 128%g) (show (26:Int)≠0 by decide);have L:=ahd (f+d / 128%g) (show (0:Int)<26 by decide);exists 6,2,(4,4),5,2,G,2,2,(by show (0:Int)<26;decide);obtain⟨j,J⟩:∃j:Nat,(f+d / 128%g)%26=j:=(((f+d / 128%g)%26).toNat,9);show iY 6 (.int ((f+d / 128%g)%26)) _ _ _;rw[J]at M L ⊢;have y:Ux letters.cps.toList (j:Int)=some (97+j):=by
   have:=vV j ⋯;obtain⟨U,e⟩:=aab.mp this;exact mR this
  exists 6,letters,(j:Int),97+j,7,7,4,y,x,⟨#[97+j]⟩,7,7,?_
  ·rw[sizeLine_eq];show x.length+1<=_;lia
  refine(d,x++⟨#[97+j]⟩,2,I,9,by rw[pJ,r];rfl,t.add λc k=>?_);have k:c∈[97+j]:=k;rw[aam.mp k];lia
 ·rintro l u ⟨b,x,p,o,rfl,rfl,D,v,r,t⟩;exact(5,q x r t)
theorem U8.cut{x:Str}(h:U8 x)(lo b:Option Int):U8 (lC x lo b):=(aeY (sO _ _ _) h.1,p6.cut h.2 lo b)
inductive NB(K:PySem.W.Frag)(vs:List V)(H:Hp)(Q:VK)(_e1:XK):Prop
 | mk (c:Int) (p:Addr) (ws:List Str) (_:vs=[.int c,.ref p]) (_:T6 K H p (ws.map V.str)) (_:(∀w∈ws,U8 w)) (_:∀x:Str,U8 x->Q (.str x) H)
theorem Dr(T:Tx K mg a):aV P w K mg base T9 2 a.aeP a.ad6 ["_law_cell","_law_words_here"] (NB K):=by
 refine T.aeV.F.Ub gw λa1 A N s H vs Q E t h=>?_;obtain⟨c,p,e,rfl,L,U,q⟩:=h;refine(_,(aj (aA 2 gw.nd (aB bZ (aB cI (aB cj (pv 0) aq) aq) aq))
  (aj (aA 3 gw.nd (aB bZ (pv 0) aq))
  (aj (bh (PW.pt (mz (aK dR (pv 3) aq) (jm (aK dR (aJ aO rfl T.Ul Tw.bx (My 1 aa)) aq)))) (au (aF (aH T.Xl (fG T) t (My 2 (ak (aB aX aq (aB bZ (pv 2) aq)) (ak (aB bZ (aB cj (pv 2) aq) aq) (ak (aB aX aq (aB bZ (aB cj (pv 2) aq) aq)) aa))))))) aN)
  (aj (aA 4 gw.nd (aW lg (pv 1) (aB bZ (pv 2) (aJ aO rfl T.Ul Tw.bx (My 1 aa)))))
  (aj (bh (aK dR (pv 3) aq) (au (aF (cG qJ (pv 4) fM (cO (aB bZ (aB cj (pv 2) aq) (aB aX (aJ cC rfl T.Ul Tw.bx (My 4 aa)) aq)))))) aN)
  (aj (bh (aK dR (pv 3) aq) (au (aF (cG qJ (aB iw (pv 4) (aH T.Xl (fG T) t (My 2 (ak aq (ak aq (ak (aB aX aq (aB bZ (aB cj (pv 2) aq) aq)) aa)))))) fM (cO aq)))) aN)
  (aj (bh (PW.pt (jC (aK dR (pv 3) aq) (je (aK lw (aJ cC rfl T.Ul Tw.bx (My 4 aa)) aq)))) (aj (aA 5 gw.nd (aB bZ (aB cj (pv 2) aq) (aJ cC rfl T.Ul Tw.bx (My 4 aa))))
  (au (aF (aB iw (aB iw (cG qJ (pv 4) fM (cO (pv 5))) (aH T.Xl (fG T) t (My 2 (ak aq (ak aq (ak aq aa)))))) (cG qJ (pv 4) (cO (aB aX (pv 5) aq)) fM))))) aN)
  (aj (bh (PW.pt (jC (aK dR (pv 3) aq) (je (aK dR (aB bZ (pv 2) aq) aq)))) (au (aF (aH T.Xl (fG T) t (My 2 (ak aq (ak aq (ak (aB aX aq (aB bZ (aB cj (pv 2) aq) aq)) aa))))))) aN)
  (au (aF (aH T.Xl (fG T) t (My 2 (ak aq (ak aq (ak (aB bZ (aB cj (pv 2) aq) aq) aa))))))))))))))),8)
 have o:(e.map V.str).length=e.length:=aaa ..;exists 5,2,(4,4),2,.inr (4,4),2,(by show (0:Int)<2147483629;decide);have I:=agV (c / 7*16807) (show (2147483629:Int)≠0 by decide);have n1:=ahd (c / 7*16807) (show (0:Int)<2147483629 by decide);show iY 2 (.int (c / 7*16807%2147483629)) _ _ _;generalize c / 7*16807%2147483629=n at *;exists 5,2,(by show (0:Int)<7;decide);show iY 3 (.int (c%7)) _ _ _;generalize c%7=wy;have l:∀(D f:Int) (m:Nat),0<D->0<=f->m<=40->my [.int n,.int D,.int f,.int (m:Int)] H (λv k=>Q v k) (λ_ _ _=>False):=λD f m X W h3=>(n,D,f,m,7,I,9,X,W,9,λx r y=>q x (9,y));have g:my [.int n,.int (2+n%3),.int (n / 3%26),.int (1+n / 78%7)] H (λv k=>Q v k) (λ_ _ _=>False):=by
  have:=l (2+n%3) (n / 3%26) (1+n / 78%7).toNat ⋯ ⋯ ⋯;rw[ail ⋯]at this;exact this
 refine(5,7,5,bL (λ_=>?_) λ_=>?_)
 ·exact kE (6,2,(by show (0:Int)<3;decide),2,5,2,(4,4),2,(by show (0:Int)<26;decide),5,2,(4,4),2,(by show (0:Int)<7;decide),2,g)
 refine(5,p,5,.inl L,7,5,bL (λ_=>?_) λS=>?_)
 ·exact(6,2,(by show (0:Int)<3;decide),2,5,2,(4,4),2,(by show (0:Int)<26;decide),5,2,(4,4),2,(by show (0:Int)<7;decide),2,g)
 have S:e.length≠0:=λz=>S (decide_eq_true (congrArg V.int (by rw[o,z];rfl)));have O:(0:Int)<(e.length:Int):=by lia
 have g0:=agV n (show (e.length:Int)≠0 by lia);have g1:=ahd n O;obtain⟨i,Z⟩:∃i:Nat,n%(e.length:Int)=i:=((n%(e.length:Int)).toNat,9);have R:i<e.length:=by lia
 have M:Ux (e.map V.str) (n%((e.map V.str).length:Int))=some (.str e[i]):=by
  rw[o,Z];exact mR (by rw[aag,aad R];rfl)
 have u:=U _ (acV R);exists 6,5,p,5,.inl L,2,(by rw[o];exact O),p,_,2,L,M;generalize e[i]=b at *;have a0:=u.1;have d:b.length<=sizeLine:=by rw[sizeLine_eq];lia
 refine(5,7,5,bL (λ_=>?_) λ_=>?_)
 ·exact(6,2,(4,4),5,b,7,d,2,2,(by show (0:Int)<(b.length:Int)+1;lia),5,b,7,d,q _ (u.cut _ _))
 refine(5,7,5,bL (λ_=>?_) λ_=>?_)
 ·have e3:1+n / 64%4=(((1+n / 64%4).toNat:Nat):Int):=by lia
  refine(6,5,2,(4,4),2,(by show (0:Int)<4;decide),2,n,(3),13,(1+n / 64%4).toNat,by rw[<-e3];rfl,I,9,4,4,9,λx r y=>?_);refine(b,x,7,7,by rw[sizeLine_eq];lia,6,by rw[pJ,sizeLine_eq];lia,q _ (8,p6.cut (p6.add u.2 y) _ _));rw[show (40:Int)=((40:Nat):Int)from rfl,uo,pP];lia
 refine(5,7,5,um ?_ λ_ G=>(5,b,7,d,2,5,bL (λc=>?_) λ_=>G))
 rotate_left
 ·have c:(0:Int)<(b.length:Int):=of_decide_eq_true c;have b0:=agV (n / 64) (show (b.length:Int)≠0 by lia);have b1:=ahd (n / 64) c;exists 5,2,(4,4),5,b,7,d,2,(by show (0:Int)<(b.length:Int);lia);obtain⟨j,Y⟩:∃j:Nat,n / 64%(b.length:Int)=j:=((n / 64%(b.length:Int)).toNat,9);show iY 5 (.int (n / 64%(b.length:Int))) _ _ _;rw[Y]at b0 b1 ⊢;refine(6,5,b,7,d,5,n,26,0,(1),7,I,9,4,4,4,λx r y=>?_);have J:(lC b none (some (j:Int))).length=j:=by
   rw[uo,pP];lia
  exists _,x,7,7,by rw[J,r,sizeLine_eq];lia,6,2,5,b,7,d;have l2:(lC b (some ((j:Int)+1)) none).length<=b.length-(j+1):=by
   unfold lC;show ((b.cps.toList.drop _).take _).toArray.size<=_;rw[aao,aaz,abo,yW,show (j:Int)+1=((j+1:Nat):Int) by lia,HT.ie,HT.jN];lia
  exact(2,by rw[pJ,J,r,sizeLine_eq];lia,q _ (by rw[pJ,pJ,J,r];lia,((p6.cut u.2 _ _).add y).add (p6.cut u.2 _ _)))
 refine(5,7,5,um ?_ λ_ G=>(5,2,(by show (0:Int)<4;decide),7,5,bL (λ_=>?_) λ_=>G))
 rotate_left
 ·have C:my [.int n,.int (26),.int (0),.int (30+n / 4%11)] H (λv k=>Q v k) (λ_ _ _=>False):=by
   have:=l (26) (0) (30+n / 4%11).toNat ⋯ ⋯ ⋯;rw[ail ⋯]at this;exact this
  exact(6,2,(4,4),2,(by show (0:Int)<11;decide),2,C)
 have B:my [.int n,.int (26),.int (0),.int (n / 8%6)] H (λv k=>Q v k) (λ_ _ _=>False):=by
  have:=l (26) (0) (n / 8%6).toNat ⋯ ⋯ ⋯;rw[ail ⋯]at this;exact this
 exact(6,2,(4,4),2,(by show (0:Int)<6;decide),B)
theorem GF(x:Str):∀ws:List Str,inV (.str x) (ws.map V.str)=decide (x∈ws)
 |[]=>rfl
 |w::ws=>by
  have b:=GF x ws;unfold inV at b ⊢;rw[aar,ahV,b];by_cases e:w=x
  ·subst e;rw[decide_eq_true (show w∈w::ws from aaL)];have:VF (.str w) (.str w)=true:=by simp[VF]
   rw[this,ajB]
  ·have:VF (.str w) (.str x)=false:=by simp[VF,e]
   rw[this,aju];exact decide_eq_decide.mpr (λh=>aaC _ h,λh=>by rcases aas.mp h with h|h;exact absurd h.symm e;exact h)
theorem yF:∀ws:List Str,(ws.map V.str).all oK=true
 |[]=>rfl
 |w::ws=>by
  rw[aar,aiY,yF ws];rfl
inductive J8(K:PySem.W.Frag)(vs:List V)(H:Hp)(Q:VK)(_e1:XK):Prop
 | mk (s:Addr) (zs:List Int) (_:vs=[.ref s]) (_:T6 K H s (zs.map V.int)) (_:∀(r:Addr) (ws:List Str) (H':Hp),H r=none->aU H H'->H' r=some (.lst (ws.map V.str))->(∀w∈ws,U8 w)->ws.Nodup->ws.length<=63->much ws<=120->Q (.ref r) H')
theorem zE(T:Tx K mg a):aV P w K mg base T9 3 a.ad7 a.ady ["_law_script"] (J8 K):=by
 refine T.aek.F.Ub dw λa1 A U s H vs Q E hr h=>?_;obtain⟨G,M,rfl,hS,q⟩:=h;refine(_,(aj (aA 1 dw.nd (bQ aa))
  (aj (aA 2 dw.nd aq)
  (aj (bC PassesOwn.never rfl (bJ (cG jZ (pv 0) fM (cO aq))) (aP 3 dw.nd) (aj (aA 4 dw.nd (aH T.aeV (Dr T) hr (My 3 (My 1 aa))))
  (au (bh (PW.pt (jC (aK yZ (pv 4) (pv 1) (by with_unfolding_all rfl)) (jC (aK mD (aJ cC rfl T.Ul Tw.bx (My 4 aa)) (pv 2)) (je (aK jh (aJ aO rfl T.Ul Tw.bx (My 1 aa)) aq))))) (aj (bc (gn PySem.F.plainAttrs_list PySem.F.slot_list_append PySem.F.type_list_append bN (pv 1) (My 4 aa)))
  (au (aA 2 dw.nd (aB bz (pv 2) (aJ cC rfl T.Ul Tw.bx (My 4 aa)))))) aN))))
  (au (aF (pv 1)))))),8)
 refine((by show 0<=sizeLine;decide),λr m=>?_);have W:=az m (.lst []);refine(6,G,5,W.seq hS,λc O=>(c,7,(_,T6.of ao),8));have S:c≠r:=(aD ao O).symm;refine bU (xs:=cR (M.map V.int) none (some 63)) (λi C k=>∃(o n:Option V) (d:List Str) (j:Nat),C=[some (.ref G),some (.ref r),some (.int (j:Int)),o,n]/\aU H k/\k c=some (.lst (cR (M.map V.int) none (some 63)))/\k r=some (.lst (d.map V.str))/\(∀w∈d,U8 w)/\d.Nodup/\d.length<=i/\much d+j=120) (none,none,[],120,7,W.trans (az O _),ao,az O _ _ _ ao,nofun,List.nodup_nil,aac _,7) ?_ ?_ ?_
 ·rintro i C k _ ⟨_,_,_,_,_,_,h,_⟩;exact T6.of h
 ·rintro i x C k X ⟨o,n,d,j,rfl,D,N,l,t,I,J,Y⟩;have hi:=(aab.mp X).1;have a0:i<63:=by
   rw[show (63:Int)=((63:Nat):Int)from rfl,Ko,aaa,aaz]at hi;lia
  obtain⟨z,rfl⟩:=zP X;refine(6,z,r,d,7,T6.of l,t,λf Wa=>?_);have Zi:=Wa.1;exists 6,r,5,.inl (T6.of l),7,yF d,5;have y:∃(o n:Option V) (g:List Str) (u:Nat),[some (.ref G),some (.ref r),some (.int (j:Int)),some (.int z),some (.str f)]=[some (.ref G),some (.ref r),some (.int (u:Int)),o,n]/\aU H k/\k c=some (.lst (cR (M.map V.int) none (some 63)))/\k r=some (.lst (g.map V.str))/\(∀w∈g,U8 w)/\g.Nodup/\g.length<=i+1/\much g+u=120:=(1,d,j,7,D,N,l,t,I,9,Y);refine um y λL nn=>(5,f,7,by rw[sizeLine_eq];lia,5,2,5,um nn λZ R=>(5,r,5,.inl (T6.of l),2,5,bL (λ_=>?_) λ_=>R));have Z:(f.length:Int)<=(j:Int):=of_decide_eq_true Z;have B:f∉d:=λh=>by
   have L:(!inV (.str f) (d.map V.str))=true:=L;rw[GF,decide_eq_true h]at L;cases L
  exists 5,.inl (7,_,T6.of l),5,r,2,l,?_
  ·rw[aaa,sizeLine_eq];lia
  refine(6,f,7,by rw[sizeLine_eq];lia,2,some (.int z),some (.str f),d++[f],j-f.length,8,bT D m _,by rw[aG S];exact N,by rw[ao,aaj];rfl,λv p=>?_,8,by rw[aae,agK];lia,8)
  ·rw[show ((j-f.length:Nat):Int)=(j:Int)-(f.length:Int) by lia];rfl
  ·rcases aaW.mp p with p|p
   ·exact t v p
   ·rw[aam.mp p];exact Wa
  ·refine ai8.mpr (I,List.pairwise_singleton _ _,λa ha b hb e=>?_);rw[aam.mp hb]at e;exact B (e ▸ ha)
  ·rw[Hu];lia
 ·rintro C k ⟨o,n,d,j,rfl,D,N,l,t,I,J,Y⟩;have J:d.length<=63:=by
   rw[show (63:Int)=((63:Nat):Int)from rfl,Ko,aaa,aaz]at J;lia
  exact(5,q r d k m D l t I J ⋯)
theorem yw{l :List Str}(h:l.Perm N):much l=much N:=by
 induction h with
 |nil=>rfl
 |cons x _ b=>exact congrArg (x.length + ·) b
 |swap x y l=>
  show y.length+(x.length+much l)=x.length+(y.length+much l);lia
 |trans _ _ d c=>exact d.trans c
inductive Ff(Ph:Addr)(Pt:Addr)(vs:List V)(H:Hp)(Q:VK)(_e1:XK):Prop
 | mk (p:SR) (ss:List Int) (st:Int) (v:V) (_:vs=[.ref p.t,.ref p.f,.int st,v]) (_:SA H Ph Pt p ss) (_:ss.length<=11000000) (_:((v=.non/\(st<0\/(p.ws.length:Int)<=st)) \/ ∃sp:Int,v=.int sp /\ ¬(0<=st/\st<=sp/\sp<=(p.ws.length:Int)))) (_:∀H',cJ H H' Ph Pt p 0 ss ss->Q (.bl true) H')
theorem eY(T:Tx K mg a)(B:Bs mg base a):aV P w K mg base T9 14 a.acJ a.ab0 ["_law_tables","_law_look_here","_law_start","_law_stop"] (Ff a.Uh a.Ui):=by
 refine T.X7.F.Ub eX λX A z s H Y Q E n h=>?_;obtain⟨p,D,C,v,rfl,x,e,g,q⟩:=h;refine(_,(aj (aA 4 eX.nd (bQ aa))
  (aj (Qh rfl rfl (λ_ _=>(au (bh (jY (nF (pv 3))) (au (bc (eQ T.aei (ux T B) ∅ n PK rfl (My 0 (My 1 (My 2 aa)))))) (au (bc (eQ T.acZ (sU T B) ∅ n PK rfl (My 0 (My 1 (My 2 (My 3 aa)))))))))) (R6 (i:=5) T.aen T.Zb rfl eX.nd rfl rfl (λ_=>(au (aA 4 eX.nd (bQ (ak (aJ (show eU _ _ (Nz K)from vq) rfl T.Ww Tw.b7 (My 5 (ak (bF (v:=.ref a.Wi) rfl T.afx rfl) aa))) (ak (aJ (show eU _ _ (Nz K)from vq) rfl T.Ww Tw.b7 (My 5 (ak (bF (v:=.ref a.Wh) rfl T.af7 rfl) aa))) (ak (aJ (show eU _ _ (Nz K)from vq) rfl T.Ww Tw.b7 (My 5 (ak (bF (v:=.ref a.Uq) rfl T.af6 rfl) aa))) aa))))))) Ri))
  (au (aF (uq (Q8 n.units) (pv 4) (bQ (ak iz (ak iz (ak iz aa))))))))),8)
 refine((by show 0<=sizeLine;decide),λO r=>?_);have o:=x.self.same (az r (.lst []));have m:=x.did o x.few;have y:∀{b:L2.St},b.length=6 -> ∃N M L J I G,b=[N,M,L,J,I,G]:=λ{b} h=>match b,h with
  |[_,_,_,_,_,_],_=>(1,1,_,5)
 rcases g with ⟨rfl,c⟩|⟨R,rfl,c⟩
 rotate_left
 focus
  refine(6,eF ?_);refine(6,6,p,D,C,R,7,m,e,.inr (c,5,λ b d=>?_));have k:=o.trans m.self;generalize upd H O (.lst [])=W at *
 rotate_left
 focus
  refine(6,kE ?_);refine(6,5,p,D,C,7,m,e,.inr (c,λW k=>(5,λ b d=>?_)))
  replace k:=o.trans k
 all_goals
  obtain⟨N,M,L,J,I,G,rfl⟩:=y d;refine(true,T.Yd,kE λj u=>?_);have V:=k.same (az u (Jx j a.Uo));exists 5,j,1,_,5,.inl (5,7),ao,T.Zb,T.Yg;exists 5,j,1,_,5,.inl (5,7),ao,T.Zb,T.Ye;exists 5,j,1,_,5,.inl (5,7),ao,T.Zb,T.Yc;refine((by show 3<=sizeLine;decide),λl t=>?_);refine(5,(by show 3<=sizeLine;decide),λU f=>?_);have S:l≠U:=aD ao f;refine .inr (1,.lst (T6.of (by rw[aG S];exact ao)) (.cons (.bl _) (.cons (.bl _) (.cons (.bl _) .nil))),.lst (T6.of ao) (.cons (.bl _) (.cons (.bl _) (.cons (.bl _) .nil))),7,7,8);exact q _ (V.same ((az t _).trans (az f _)))
inductive ww(K:PySem.W.Frag)(vs:List V)(H:Hp)(Q:VK)(_e1:XK):Prop
 | mk (l r:Addr) (us:List Str) (_:vs=[.ref l,.ref r]) (_:H l=some (.lst (us.map V.str))) (_:H r=some (.lst (us.map V.str))) (_:us.length<5000) (_:∀H',aU H H'->Q (.bl true) H')
theorem oF(T:Tx K mg a):aV P w K mg base T9 1 a.aaV a.aaO ["_law_found","_law_due"] (ww K):=by
 refine T.aaY.F.Ub dW λz A m s H B Q E C h=>?_;obtain⟨l,r,n,rfl,f,b,D,q⟩:=h
 refine(_,(aj (bh (PW.pt (mz (fX (iJ (aJ lD rfl T.Ww Tw.b7 (My 0 (ak (pA (v:=.ty "list") rfl T.Yb Tw.pZ rfl) aa))))) (jm (aK vA (aJ aO rfl T.Ul Tw.bx (My 0 aa)) (aJ aO rfl T.Ul Tw.bx (My 1 aa)))))) (au (aF iz)) aN)
  (aj (bC PassesOwn.never rfl (yS rfl T.Y5 Tw.yU (My 0 (My 1 aa))) (iT rfl (bA (aP 2 dW.nd) (bA (aP 3 dW.nd) fB))) (au (bh (PW.pt (mz (fX (iJ (aJ lD rfl T.Ww Tw.b7 (My 2 (ak (pA (v:=.ty "str") rfl T.agl Tw.J3 rfl) aa))))) (jm (aK vA (pv 2) (pv 3))))) (au (aF iz)) aN)))
  (au (aF iz)))),8)
 refine(5,_,"list",_,true,7,.lst f,7,true,7,eF ?_)
 refine(5,l,5,.inl (T6.of f),5,r,5,.inl (T6.of b),7,5,rN rfl ?_);exists 6,l,r,_,5,T6.of f,T6.of b;refine Gp (xs:=n.map V.str) (ys:=n.map V.str) (λi e d=>(∃j g,e=[some (.ref l),some (.ref r),j,g])/\aU H d) ((none,none,7),aU.refl _) ?_ ?_ ?_
 ·rintro i e d _ ⟨_,c⟩;exact(T6.of (c _ _ f),T6.of (c _ _ b))
 ·rintro i x y e d p k o ⟨⟨j,g,rfl⟩,c⟩ t;rw[k]at o;cases o;rw[aag]at k;obtain⟨u,_,rfl⟩:=aaM.mp k;exists p,5,T8.of ao,7,_,5,_,5,rfl
  refine(5,_,"str",_,true,7,.str u,7,true,7,eF ?_)
  exact(6,7,5,rN rfl ((_,5),c.trans (az t _)))
 ·rintro e d ⟨⟨j,g,rfl⟩,c⟩;exact q d c
inductive Mu(K:PySem.W.Frag)(vs:List V)(H:Hp)(Q:VK)(_e1:XK):Prop
 | mk (p:Addr) (ss:List Int) (size:Int) (_:vs=[.ref p,.int size]) (_:T6 K H p (ss.map V.int)) (_:(∀x∈ss,0<=x/\x<size)) (_:Q (.bl true) H)
theorem zO(T:Tx K mg a):aV P w K mg base T9 2 a.ad8 a.adz ["_law_seen","_law_size"] (Mu K):=by
 refine T.ael.F.Ub o9 λt A g s H u Q E n h=>?_;obtain⟨p,l,b,rfl,j,m,q⟩:=h;refine(_,(aj (bC PassesOwn.never rfl (bJ (pv 0)) (aP 2 o9.nd) (au (bh (PW.pt (mz (fX (iJ (aH T.aej (zf T) n (My 2 aa)))) (mz (aK jh (pv 2) aq) (jm (aK Ax (pv 2) (pv 1)))))) (au (aF iz)) aN)))
  (au (aF iz))),8)
 exists 5,p,7,(_,j);refine bU (xs:=l.map V.int) (λi d e=>(∃k,d=[some (.ref p),some (.int b),k])/\e=H) ((none,7),7) ?_ ?_ ?_
 ·rintro i d e _ ⟨_,rfl⟩;exact j
 ·rintro i x d e f ⟨⟨k,rfl⟩,rfl⟩;obtain⟨c,o,rfl⟩:=int_at f;have r:=m c (aah o);refine(5,c,7,true,7,eF ?_);refine(5,2,5,bL (λz=>?_) λ_=>?_)
  ·have z:=of_decide_eq_true z;lia
  refine(6,2,5,bL (λz=>?_) λ_=>?_)
  ·have z:=of_decide_eq_true z;lia
  exact((_,7),7)
 ·rintro d e ⟨⟨k,rfl⟩,rfl⟩;exact q
theorem Store.sa{r t :Addr}{ws :List Str}(St:Store H r t C ws N)(hW:∀w∈ws,U8 w)(z:ws.Nodup)(hl:N.length<=2001):∃q:SR,q.t=t/\q.ws=ws/\q.ts=N/\H C=some (.lst q.al)/\q.al.length<=3000 /\
  ∀(l:Hp) (v u f sn o:Addr) (cs:List Addr),Kp H l->l sn=some (.lst [])->l o=some (.lst q.al)->sn≠o->ik l f bV cs [.ref sn,.ref o]->TabAt l v (bW bR) aY.qual->TabAt l u (bW bu) aL.qual->u≠v->SA l v u {q with f:=f,sn:=sn,bl:=o} []:=by
 obtain⟨xr,⟨T,R,Q,ah,X,b1,r2,b2,k2,c2,V2,b3,p,S,E,Y,h,Z,L,m,j,g,y⟩,F⟩:=St;have J:=F.good;have D:(N.map λt:Str=>((t.length:Nat):Int)).length=N.length:=aaa ..;have x:=mV J;rw[D]at x;refine((t,T,R,Q,ah,X,k2,c2,V2,0,0,0,p,S,E,Y,h,Z,ws,N),7,7,7,y,8,λl v u f sn o cs i hs hb W I O M U=>?_)
 ·have G:=j.size (by rw[aaa,abo];lia);rw[aaa]at G;have h2:(bB (brk (N.map λt:Str=>((t.length:Nat):Int)) 0)).length<=126:=by rw[bD,x];unfold many;lia
  have h3:(bB (N.map (iI ws))).length<=63:=by rw[bD,aaa];unfold many;lia
  have e:∀A B d:List Int,A.length<=126->B.length<=1600->d.length<=63->((A++B++d).map V.int).length<=3000:=λA B d a b c=>by
   rw[aaa,aae,aae];lia
  exact e _ _ _ h2 G h3
 ·refine(i _ _ L nofun nofun,((((i _ _ m.tab.tup nofun nofun,i _ _ m.tab.Vb nofun nofun,m.tab.few),(.inl (7,sn,cs,7,I),λa0 e=>?_,hb,4),8,8,λn s=>?_),i _ _ m.Wz nofun nofun,m.low,m.sz,m.heap,O),4,7,J),i _ _ j.t nofun nofun,i _ _ j.k nofun nofun,i _ _ j.c nofun nofun,j.ls.to λb E e=>i _ _ e nofun nofun,j.kd,j.sz,j.h12,(i _ _ g.tup nofun nofun,i _ _ g.Vb nofun nofun,g.few),(7,sn,cs,7,I),M,F,hW,hl,4,U,z)
  ·cases e;exact(hs,W)
  ·exact nG _ _
  ·show (brk (N.map λt:Str=>((t.length:Nat):Int)) 0).length<=4096;rw[x];lia
  ·show (List.map V.int (_++_++_))[0+n]?=_;have s:n<many (brk (N.map λt:Str=>((t.length:Nat):Int)) 0).length:=s;rw[agO,aag,aaG,aaw (by rw[bD];exact s)];exact congrArg (ajt V.int) (jH s)
structure Jd(H6 H':Hp)(Pt Ph Pl:Addr):Prop where
 ob:∀b o,H6 b=some o->(∀ps,o ≠ .Ug ps)->H' b=some o
 tt:TabAt H' Pt (bW bu) aL.qual
 th:TabAt H' Ph (bW bR) aY.qual
 tl:TabAt H' Pl (yN eE) bV.qual
theorem Jd.kp{H':Hp}(h:Jd H H' f C S):Kp H H':=λb o e n _=>h.ob b o e n
theorem Jd.made{d:Hp}(h:Jd H H' f C S)(j:f≠S)(i:C≠S)(c:gr S H' d)(g:TabAt d S (yN eE) bV.qual):Jd H d f C S:=
 (λb o e n=>c b o (h.ob b o e n) (TabAt.ne h.tl (h.ob b o e n) n),TabAt.keep h.tt h.tl j λb o e n _=>c b o e n,TabAt.keep h.th h.tl i λb o e n _=>c b o e n,g)
theorem Hs{K:PySem.W.Frag}{a:Addr}{xs:List V}{c:L2.St}{tt:TT}(R:V->Prop)(o:T6 K H a xs)(r:xs.length<sizeLine)
  (h:∀(x:V) (H':Hp) (Q:Bool->Hp->Prop),Q true H'->tt (some x::c) H' Q)(p:∀(x:V) (H':Hp) (Q:VK),x∈xs->aU H H'->(∀y,R y->Q y H')->ta (some x::c) H' Q)
  (q:∀D ys,H D=none->ys.length=xs.length->(∀y∈ys,R y)->B D (upd H D (.lst ys))):jw (Wl K a) c tt ta B H:=by
 intro D f;exists λi m ys l=>m=xs.length-i/\i<=xs.length/\ys.length=i/\(∀y∈ys,R y)/\l=upd H D (.lst ys),(5,aaD _,7,nofun,7);rintro i m ys l ⟨rfl,s,rfl,k,rfl⟩;have g:=(az f (.lst ys)).seq o;by_cases b:ys.length<xs.length
 ·have j:=aad b;refine .inr ((1,g,j),λv t y=>?_);obtain⟨rfl,y⟩:=y;have e:=y _ g;rw[j]at e;cases e;refine h _ _ _ ?_;rw[if_pos rfl];refine p _ _ _ (acV b) (az f _) λy n=>(ao,9,xs.length-(ys.length+1),9,7,b,by rw[aae];rfl,λz d=>?_,8)
  ·rcases aaW.mp d with d|d
   ·exact k z d
   ·rw[aam.mp d];exact n
  ·rw[m6]
 ·have e:ys.length=xs.length:=by lia
  exact .inl ((_,g,ahD e.symm),q D ys f e k)
theorem Kh(xs:List V)(k:Nat):(cR xs (some (-((k:Int)+1))) none).length<=k+1:=by
 have e:HT.Ut xs.length 0 (some (-((k:Int)+1)))=(-((k:Int)+1)+(xs.length:Int)).toNat:=if_pos ⋯;unfold cR;rw[e,HT.jN,aaz,abo];lia
theorem T6.keep{K:PySem.W.Frag}{H':Hp}{b:Addr}{xs:List V}(h:T6 K H b xs)(s:∀o,(∀ps,o ≠ .Ug ps)->H b=some o->H' b=some o):T6 K H' b xs:=by
 rcases h with (e|⟨o,e⟩) | h
 ·exact .inl (.inl (s _ nofun e))
 ·exact .inl (.inr (o,s _ nofun e))
 ·exact .inr h
theorem SA.W5{H':Hp}{b:Addr}{p:SR}{k:Nat}{xs:List V}(x:SA H f C p d)(c:cJ H H' f C p k d J)(e:H b=some (.lst xs))(n:b≠p.sn):H' b=some (.lst xs):=c.kp _ _ e (TabAt.ne x.nd.b.tab e nofun) (TabAt.ne x.tab e nofun) n
theorem Cu:∀{ys:List V},(∀y∈ys,∃z:Int,y=.int z/\0<=z) -> ∃b:List Int,ys=b.map V.int/\0<=b.sum
 |[],_=>([],7,4)
 |y::ys,h=>by
  obtain⟨b,rfl,d⟩:=Cu (ys:=ys) λz c=>h z (aaC _ c);obtain⟨z,rfl,c⟩:=h y aaL;exact(z::b,7,by rw[ahq];lia)
theorem le9{i:Nat}(h:i<6):0+(80000*i+70000)<=1000000:=by lia
structure W6(H:Hp)(l:Addr)(as:List Addr)(R:Int->Int->Prop):Prop where
 li:H l=some (.lst (as.map V.ref))
 at_:∀b∈as,∃x y:Int,H b=some (.tup [.int x,.int y])/\R x y
theorem W6.same{H':Hp}{l:Addr}{R:Int->Int->Prop}(h:W6 H l g R)(s:aU H H'):W6 H' l g R:=(s _ _ h.li,λb c=>by
 obtain⟨x,y,e,r⟩:=h.at_ b c;exact(x,y,s _ _ e,r))
inductive af1(K:PySem.W.Frag)(Pt:Addr)(Ph:Addr)(Pl:Addr)(vs:List V)(H:Hp)(Q:VK)(_e1:XK):Prop
 | mk (s:Addr) (ns:List Int) (_:vs=[.ref s]) (_:T6 K H s (ns.map V.int)) (_:ns.length<=63) (_:TabAt H Pt (bW bu) aL.qual) (_:TabAt H Ph (bW bR) aY.qual) (_:TabAt H Pl (yN eE) bV.qual) (_:∀H',Q (.bl true) H')
theorem Qa(T:Tx K mg a)(B:Bs mg base a):aV P w K mg base T9 15 a.agj a.af9 ["_law_script"] (af1 K a.Ui a.Uh a.Vx):=by
 refine T.ago.F.Ub cP λk4 A i2 s H vs Q E hr h=>?_;obtain⟨sa,zs,rfl,hS,hl,tt,th,tl,q⟩:=h;refine(_,(aj (aA 1 cP.nd (aJ wI rfl T.aeX Tw.rD (ak (aH T.aek (zE T) hr (My 0 aa)) aa)))
  (aj (aA 2 cP.nd (aJ aO rfl T.Ul Tw.bx (My 1 aa)))
  (aj (Ln (aH T.adG (wW T) hr (ak (cV j7 rfl T.Yb Tw.pZ (ak (MP (pv 1) (gB dh aq)) aa)) aa)) (iT rfl (bA (aP 3 cP.nd) (bA (aP 4 cP.nd) fB))))
  (aj (aA 5 cP.nd (bQ aa))
  (aj (aA 6 cP.nd (aH T.aeW (Cp T B) hr (ak (cV j7 rfl T.Yb Tw.pZ (My 4 aa)) (My 5 aa))))
  (aj (aA 7 cP.nd (bQ (ak (b8 (ak aq (My 2 aa))) (ak (b8 (My 2 (My 2 aa))) (ak (b8 (ak (aB cj (pv 2) aq) (ak (aB cj (pv 2) aq) aa))) aa)))))
  (aj (bC PassesOwn.never rfl (bJ (cG jZ (pv 0) (cO (gB dh aq)) fM)) (aP 8 cP.nd) (aj (aA 9 cP.nd (aB bZ (aB bZ (aB cI (pv 8) aq) aq) (aB aX (pv 2) aq)))
  (au (bc (gn PySem.F.plainAttrs_list PySem.F.slot_list_append PySem.F.type_list_append bN (pv 7) (ak (b8 (My 9 (ak (aJ (rJ rfl) rfl T.YZ Tw.zc (My 2 (ak (aB aX (pv 9) (aB bZ (aB bZ (aB cI (pv 8) aq) aq) aq)) aa))) aa))) aa))))))
  (aj (bC PassesOwn.never rfl (bJ (pv 7)) (iT rfl (bA (aP 9 cP.nd) (bA (aP 10 cP.nd) fB))) (aj (bh (fX (iJ (aH T.aaY (oF T) hr (ak (eQ T.acZ (sU T B) ∅ hr Az rfl (My 3 (My 6 (My 9 (My 10 aa))))) (ak (cG jZ (pv 1) (cO (pv 9)) (cO (pv 10))) aa))))) (au (aF iz)) aN)
  (au (bh (aK jh (pv 9) (pv 2)) (aj (aA 11 cP.nd (eQ T.aei (ux T B) ∅ hr Az rfl (My 3 (My 6 (My 9 aa)))))
  (au (bh (PW.pt (mz (fX (iJ (aJ lD rfl T.Ww Tw.b7 (My 11 (ak (pA (v:=.ty "str") rfl T.agl Tw.J3 rfl) aa))))) (jm (aK vA (pv 11) (aW lg (pv 1) (pv 9)))))) (au (aF iz)) aN))) aN))))
  (aj (aA 12 cP.nd (aJ (wA rfl) rfl T.agb Tw.Em (ak (mO rfl cu.zero (bJ (cG jZ (pv 0) fM (cO aq))) (λ_ _ _ _=>fu) (λ_ _ _ _=>(aB bZ (pv 0) (aB DQ aq aq)))) aa)))
  (aj (bC PassesOwn.never rfl (bJ (bQ (My 2 (ak (aB aX (pv 2) (pv 12)) (ak (gB dh aq) (ak (aB bz (gB dh aq) (pv 12)) aa)))))) (aP 13 cP.nd) (au (bh (PW.pt (mz (fX (iJ (aH T.X7 (eY T B) hr (My 3 (My 6 (My 13 (ak jn aa))))))) (jm (fX (iJ (aH T.X7 (eY T B) hr (My 3 (My 6 (My 13 (ak (aB aX (pv 13) aq) aa)))))))))) (au (aF iz)) aN)))
  (aj (bC PassesOwn.never rfl (bJ (bQ (ak (b8 (ak aq (ak (aB aX (pv 2) aq) aa))) (ak (b8 (ak (aB aX (pv 2) aq) (ak (aB aX (pv 2) aq) aa))) (ak (b8 (ak (aB aX (pv 2) aq) (ak (aB aX (aB aX (pv 2) aq) (pv 12)) aa))) (ak (b8 (ak (aB aX (pv 2) aq) (My 2 aa))) (ak (b8 (ak aq (ak aq aa))) aa))))))) (iT rfl (bA (aP 9 cP.nd) (bA (aP 10 cP.nd) fB))) (au (bh (fX (iJ (aH T.X7 (eY T B) hr (My 3 (My 6 (My 9 (My 10 aa))))))) (au (aF iz)) aN)))
  (aj (bC PassesOwn.never rfl (bJ (bQ (ak (b8 (ak (gB dh aq) (My 2 aa))) (ak (b8 (ak (aB bz (gB dh aq) (pv 12)) (ak (gB dh aq) aa))) (ak (b8 (ak (gB dh aq) (ak aq aa))) aa))))) (iT rfl (bA (aP 9 cP.nd) (bA (aP 10 cP.nd) fB))) (au (bh (fX (iJ (aH T.X7 (eY T B) hr (My 3 (My 6 (My 9 (My 10 aa))))))) (au (aF iz)) aN)))
  (au (aF (aH T.ael (zO T) hr (My 5 (ak (aJ aO rfl T.Ul Tw.bx (My 4 aa)) aa))))))))))))))))),8)
 refine(5,sa,zs,7,hS,λw0 f6 H0 _ f7 V4 h6 g0 i4 g8=>?_);refine(w0,f6,7,T6.of V4,9,λwl g g4 pm su=>?_);have hW:∀w∈g,U8 w:=λw h=>h6 w (pm.mem_iff.mp h);have nd:g.Nodup:=pm.nodup_iff.mpr g0;have g5:=uH su nd;have i3:=pm.length_eq;have hm:much g<=120:=by rw[yw pm];exact g8
 have s1:=az g4 (.lst (g.map V.str));have xw:upd H0 wl (.lst (g.map V.str)) wl=some (.lst (g.map V.str)):=ao;have Um:=f7.trans s1;generalize upd H0 wl (.lst (g.map V.str))=H1 at *;exists 5,wl,5,.inl (T6.of xw);rw[aaa];refine(5,(1),7,7,wl,5,T6.of xw,λrv g6=>?_);have c1:=az g6 (.lst (g.map V.str).reverse);have f3:upd H1 rv (.lst (g.map V.str).reverse) rv=some (.lst (g.reverse.map V.str)):=by rw[ao,aht]
 replace xw:=c1 _ _ xw
 replace Um:=Um.trans c1
 generalize upd H1 rv (.lst (g.map V.str).reverse)=e7 at *;refine(rv,5,.inl (T6.of f3),λhn h4=>?_);have s2:=az h4 (.lst (g.reverse.map V.str));have xh:upd e7 hn (.lst (g.reverse.map V.str)) hn=some (.lst (g.reverse.map V.str)):=ao
 replace xw:=s2 _ _ xw
 replace Um:=Um.trans s2
 generalize upd e7 hn (.lst (g.reverse.map V.str))=H2 at *;have pr:=ah3 g;have d9:∀w∈g.reverse,U8 w:=λw h=>hW w (ag8.mp h);have c6:g.reverse.Nodup:=pr.nodup_iff.mpr nd;have k1:much g.reverse<=120:=by rw[yw pr];exact hm
 have g9:g.reverse.length=g.length:=agQ;refine(hn,g.reverse,7,T6.of xh,d9,c6,9,9,λr t b0 ts H3 c0 St j3=>?_)
 replace xw:=c0 _ _ xw
 replace Um:=Um.trans c0
 exists r,5,T8.of St.r,7,_,5,2;obtain⟨p,rfl,c4,rfl,b1,k3,mk⟩:=St.sa d9 c6 ⋯;have h8:=Um.seq hS;refine((by show 0<=sizeLine;decide),λD a7=>?_);have v1:=az a7 (.lst []);have b2:wl≠D:=aD xw a7;have Zm:b0≠D:=aD b1 a7;have Zn:upd H3 D (.lst []) D=some (.lst []):=ao;generalize upd H3 D (.lst [])=H7 at *;refine(5,b0,5,.inl (T6.of (v1 _ _ b1)),λbl Vz=>?_);have v2:=az Vz (.lst p.al);have Yi:D≠bl:=aD Zn Vz
 replace Zn:=v2 _ _ Zn
 have f5:upd H7 bl (.lst p.al) bl=some (.lst p.al):=ao
 replace v1:=v1.trans v2
 replace Um:=Um.trans v1
 generalize upd H7 bl (.lst p.al)=H8 at *;refine(5,bl,D,7,TabAt.same tl Um,λf cs H9 hf b9 e8 ca=>?_);have e0:Jd H8 H8 a.Ui a.Uh a.Vx:=(λ_ _ e _=>e,TabAt.same tt Um,TabAt.same th Um,TabAt.same tl Um);have e9:=e0.made B.abI B.abJ b9 e8;have x:=mk H9 a.Uh a.Ui f D bl cs (λb o h n1 n2=>e9.ob _ _ (v1 b o h) n1) (e9.ob _ _ Zn nofun) (e9.ob _ _ f5 nofun) Yi ca e9.th e9.tt B.abw;have L:=e9.ob _ _ (v1 _ _ b1) nofun;have f1:=e9.ob _ _ (v1 _ _ xw) nofun;obtain⟨pl,g7,_⟩:=e0.tl;have Yo:=TF b9 g7 (Um.seq hS);have h9:p.sn=0\/True:=.inr trivial;have c8:({p with f:=f,sn:=D,bl:=bl}:SR).so=g:=yh x.so_up g5 λz=>by
  rw[x.so_mem z];show z∈p.ws ↔ _;rw[c4,ag8]
 have a2:({p with f:=f,sn:=D,bl:=bl}:SR).ws.length=g.length:=by
  show p.ws.length=_;rw[c4,g9]
 have Vi:({p with f:=f,sn:=D,bl:=bl}:SR).sn=D:=rfl;have i0:({p with f:=f,sn:=D,bl:=bl}:SR).f=f/\({p with f:=f,sn:=D,bl:=bl}:SR).t=p.t/\({p with f:=f,sn:=D,bl:=bl}:SR).al=p.al:=(7,7,7);have i7:p.t=p.t:=rfl
 clear mk St h9
 generalize ({p with f:=f,sn:=D,bl:=bl}:SR)=N at *;obtain⟨ef,et,i1⟩:=i0;rw[<-ef,<-et];have V4:=f1;refine(5,(by show 2<=sizeLine;decide),λq1 a1=>?_);have W:=az a1 (.tup [.int 0,.int (g.length:Int)]);refine(6,(by show 2<=sizeLine;decide),λZ a0=>?_);have u2:=az a0 (.tup [.int (g.length:Int),.int (g.length:Int)]);refine(5,2,(4,4),5,2,(4,4),(by show 2<=sizeLine;decide),λY WN=>?_);have u3:=az WN (.tup [.int ((g.length:Int) / 2),.int ((g.length:Int) / 2)]);refine((by show 3<=sizeLine;decide),λR a5=>?_);have u4:=az a5 (.lst [.ref q1,.ref Z,.ref Y]);have s4:=((W.trans u2).trans u3).trans u4;have hP:W6 (upd (upd (upd (upd H9 q1 (.tup [.int 0,.int (g.length:Int)])) Z (.tup [.int (g.length:Int),.int (g.length:Int)])) Y (.tup [.int ((g.length:Int) / 2),.int ((g.length:Int) / 2)])) R (.lst [.ref q1,.ref Z,.ref Y])) R [q1,Z,Y] (λu v=>0<=u/\u<=v/\v<=(g.length:Int)):=(ao,λb I=>by
  rcases aas.mp I with rfl|I
  ·exact(1,u4 _ _ (u3 _ _ (u2 _ _ ao)),9,9,9)
  rcases aas.mp I with rfl|I
  ·exact(1,u4 _ _ (u3 _ _ ao),9,9,9)
  ·rw[aam.mp I];exact(1,u4 _ _ ao,9,9,9))
 have c5:R≠D:=(aD (u3 _ _ (u2 _ _ (W _ _ (by rw[<-Vi];exact x.sn.1)))) a5).symm;have f8:wl≠R:=aD (u3 _ _ (u2 _ _ (W _ _ V4))) a5;have g2:b0≠R:=aD (u3 _ _ (u2 _ _ (W _ _ L))) a5;have a8:H9 R=none:=((W.trans u2).trans u3).free a5;have S9:=s4;have x4:=x.did (x.self.same s4) ∅
 replace L:=s4 _ _ L
 replace V4:=s4 _ _ V4
 replace Yo:=s4.seq Yo
 clear W u2 u3 u4 s4 a1 a0 WN a5
 generalize upd (upd (upd (upd H9 q1 (.tup [.int 0,.int (g.length:Int)])) Z (.tup [.int (g.length:Int),.int (g.length:Int)])) Y (.tup [.int ((g.length:Int) / 2),.int ((g.length:Int) / 2)])) R (.lst [.ref q1,.ref Z,.ref Y])=e6 at *;refine(6,5,sa,5,Yo,λc hc=>(c,7,(_,T6.of ao),8));have u5:=az hc (.lst (cR (zs.map V.int) (some (-3)) none));have cl:(cR (zs.map V.int) (some (-3)) none).length<=3:=Kh _ 2;have xc:upd e6 c (.lst (cR (zs.map V.int) (some (-3)) none)) c=_:=ao;have g1:R≠c:=aD hP.li hc;have i8:c≠D:=(aD (by rw[<-Vi];exact x4.sn.1) hc).symm;have x5:=x4.did (x4.self.same u5) ∅
 replace hP:=hP.same u5
 replace S9:=S9.trans u5
 replace L:=u5 _ _ L
 replace V4:=u5 _ _ V4
 replace Yo:=u5.seq Yo
 clear u5 hc
 generalize upd e6 c (.lst (cR (zs.map V.int) (some (-3)) none))=e5 at *;have a6:∀i y,(cR (zs.map V.int) (some (-3)) none)[i]?=some y -> ∃z:Int,y=V.int z:=λi y G=>zP G;generalize cR (zs.map V.int) (some (-3)) none=xs at *;refine bU (xs:=xs) (λi J C=>(∃k8 S,J=[some (.ref sa),some (.ref wl),some (.int (g.length:Int)),some (.ref N.t),some (.ref b0),some (.ref D),some (.ref N.f),some (.ref R),k8,S,none,none,none,none])/\(∀b o,b≠R->e5 b=some o->C b=some o) /\ ∃as:List Addr,as.length=3+i/\W6 C R as (λu v=>0<=u/\u<=v/\v<=(g.length:Int))) ((_,5),λ_ _ _ e=>e,5,hP) ?_ ?_ ?_
 ·rintro i J C _ ⟨_,kk,_⟩;exact T6.of (kk _ _ g1.symm xc)
 ·rintro i y J C G ⟨⟨k8,S,rfl⟩,kk,as,a9,Wk⟩;obtain⟨z,rfl⟩:=a6 i y G;have d4:=(aab.mp G).1;exists 5,2,.inr (4,4),2,(by show (0:Int)<2147483647;decide),5,2,2,(by show (0:Int)<(g.length:Int)+1;lia);exists 5,.inl (7,_,T6.of Wk.li),6,6,2,.inr (4,4),2,(by show (0:Int)<2147483647;decide),2,(by show (0:Int)<4;decide),2,_,5;refine((by show 2<=sizeLine;decide),λqa WP=>?_);have e1:=agV (z*48271%2147483647) (show (g.length:Int)+1≠0 by lia);have e2:=ahd (z*48271%2147483647) (show (0:Int)<(g.length:Int)+1 by lia);have e3:=agV (z*39373%2147483647) (show (4:Int)≠0 by decide);have e4:∀b c:Int,0<=b->0<=c->b<=(g.length:Int)->(0<=b/\b<=(if b+c<(g.length:Int)then b+c else (g.length:Int))/\(if b+c<(g.length:Int)then b+c else (g.length:Int))<=(g.length:Int)):=λb c h1 h2 h3=>by
   split<;>lia
  have f9:R≠qa:=aD Wk.li WP;have u6:=az WP (.tup [.int (z*48271%2147483647%((g.length:Int)+1)),.int (if z*48271%2147483647%((g.length:Int)+1)+z*39373%2147483647%4<(g.length:Int)then z*48271%2147483647%((g.length:Int)+1)+z*39373%2147483647%4 else (g.length:Int))]);refine(R,2,u6 _ _ Wk.li,by rw[aaa,sizeLine_eq];lia,8);refine((_,5),λb o n e=>?_,as++[qa],by rw[aae,a9];rfl,8,λb I=>?_)
  ·rw[aG n];exact u6 _ _ (kk b o n e)
  ·rw[ao,aaj];rfl
  ·rcases aaW.mp I with I|I
   ·obtain⟨u,v,e,r⟩:=Wk.at_ b I;refine(u,v,8,r);rw[aG (λz=>by rw[z,Wk.li]at e;cases e)];exact u6 _ _ e
   ·rw[aam.mp I];refine(1,8,e4 _ _ e1 e3 ⋯);rw[aG f9.symm];exact ao
 ·rintro J C ⟨⟨k8,S,rfl⟩,kk,as,a9,Wk⟩;have nl:∀b o,e5 b=some o->(∀ps,o ≠ .lst ps)->b≠R:=λb o e n z=>by
   rw[z,hP.li]at e;cases e;exact n _ rfl
  have x6:SA C a.Uh a.Ui N []:=x.did (k:=0) (λb o e _ _ _=>kk b o (aD e a8) (S9 b o e),kk _ _ (by rw[Vi];exact c5.symm) (S9 _ _ x.sn.1),TabAt.keep x5.nd.b.tab x5.tab x5.ne.symm λb o e _ n=>kk b o (nl b o e n) e,TabAt.keep x5.tab x5.nd.b.tab x5.ne λb o e _ n=>kk b o (nl b o e n) e,bO.none _) ∅
  replace L:=kk _ _ g2 L
  replace V4:=kk _ _ f8 V4
  have Zo:∀b o,(∀ps,o ≠ .Ug ps)->H3 b=some o->C b=some o:=λb o n e=>kk b o (aD (e9.ob _ _ (v1 b o e) n) a8) (S9 b o (e9.ob _ _ (v1 b o e) n))
  clear kk nl hP x5 x4 S9 a6
  exists 5,R,7,(_,T6.of Wk.li);have kp:∀{k:Nat}{X:List Int}{H2:Hp}{b:Addr}{ys:List V},cJ C H2 a.Uh a.Ui N k [] X->C b=some (.lst ys)->b≠D->H2 b=some (.lst ys):=λd e n=>d.kp _ _ e (TabAt.ne x6.nd.b.tab e nofun) (TabAt.ne x6.tab e nofun) (by rw[Vi];exact n);refine bU (xs:=as.map V.ref) (λi J H2=>(∃k8 S m l,J=[some (.ref sa),some (.ref wl),some (.int (g.length:Int)),some (.ref N.t),some (.ref b0),some (.ref D),some (.ref N.f),some (.ref R),k8,S,m,l,none,none]) /\ ∃X,cJ C H2 a.Uh a.Ui N (80000*i) [] X) ((1,_,5),[],x6.self) ?_ ?_ ?_
  ·rintro i J H2 _ ⟨_,X,d⟩;exact T6.of (kp d Wk.li c5)
  ·rintro i y J H2 G ⟨⟨k8,S,m,l,rfl⟩,X,d⟩;have d4:=(aab.mp G).1;rw[aaa]at d4;rw[aag]at G;obtain⟨qa,WP,rfl⟩:=aaM.mp G;obtain⟨u,v,xq,j2,j1,i9⟩:=Wk.at_ qa (aah WP);have Yn:=d.wr.len;rw[ah1]at Yn;have x7:=x6.did d ⋯;obtain⟨u,rfl⟩:∃n:Nat,u=(n:Int):=(u.toNat,9);obtain⟨v,rfl⟩:∃n:Nat,v=(n:Int):=(v.toNat,9);exists qa,5,T8.of (x6.kp d _ _ xq nofun nofun),7,_,5,2;refine(6,6,N,X,u,v,7,x7,9,.inl (u,v,7,7,9,9,λr Ur H4 k0 xr d1=>?_));have i6:=d1.wr.len;have x8:=x7.did d1 ⋯;rw[c8]at xr;have f2:=x7.W5 d1 (kp d V4 b2) (by rw[Vi];exact b2);refine(6,6,5,wl,5,T6.of f2,λc2 h5=>?_);have u7:=az h5 (.lst (cR (g.map V.str) (some (u:Int)) (some (v:Int))));have ec:cR (g.map V.str) (some (u:Int)) (some (v:Int))=((g.drop u).take (v-u)).map V.str:=by
    unfold cR;rw[HT.ie,HT.ie,aaa,acW ⋯,acW ⋯,ahX,aif]
   have f4:upd H4 c2 (.lst (cR (g.map V.str) (some (u:Int)) (some (v:Int)))) c2=some (.lst (((g.drop u).take (v-u)).map V.str)):=by rw[ao,ec]
   refine(r,c2,5,u7 _ _ xr,f4,8,λH5 W4=>(true,7,eF ?_))
   ·rw[aaz,abo];lia
   have d5:=((d.trans d1).same u7).same W4;have b6:=d5.wr.len;rw[ah1]at b6;have h0:i<6:=by lia
   have b5:Ur.length<=1000000:=aeY b6 (le9 h0);have x9:=x6.did d5 (aeY b5 ∅);refine(6,2,5,bL (λz=>?_) λz=>?_)
   ·have z:(u:Int)<(g.length:Int):=of_decide_eq_true z;obtain⟨w,hw⟩:∃w,g[u]?=some w:=(_,aad ⋯);refine(6,5,N,Ur,(u:Int),7,x9,aeY b5 ∅,.inl (u,w,7,by rw[c8];exact hw,λUz H6 d6=>?_));have i5:=d6.wr.len
    refine(5,_,"str",_,true,7,.str w,7,true,7,eF ?_)
    refine(6,5,wl,_,2,T6.of (kp (d5.trans d6) V4 b2),mR (show (g.map V.str)[u]?=some (.str w) by rw[aag,hw];rfl),7,5,rN rfl ?_);exact((1,_,5),Uz,(d5.trans d6).le ⋯)
   ·exact((1,_,5),Ur,d5.le ⋯)
  ·rintro J H2 ⟨⟨k8,S,m,l,rfl⟩,X,d⟩;have Yn:=d.wr.len;rw[ah1,aaa]at Yn;have k2:as.length<=6:=by lia
   have x7:=x6.did d ⋯;have h7:T6 K H2 sa (zs.map V.int):=T6.keep h8 λo n e=>d.kp _ _ (Zo _ _ n e) (TabAt.ne x6.nd.b.tab (Zo _ _ n e) n) (TabAt.ne x6.tab (Zo _ _ n e) n) (by rw[Vi];exact aD e a7)
   replace L:=kp d L Zm
   have w0:=d.wr
   replace Yn:X.length<=480000:=by lia
   clear d kp Zo
   refine(6,sa,5,h7,λc3 d8=>(c3,7,(_,T6.of ao),8));have u8:=az d8 (.lst (cR (zs.map V.int) none (some 63)));refine Hs (λy=>∃z:Int,y=.int z/\0<=z) (T6.of ao) (by have:=sW (zs.map V.int) none (some 63);rw[aaa]at this;rw[sizeLine_eq];lia) (λ_ _ _ q=>q) (λy C Q' G sm qq=>?_) λl2 ys d2 g3 c7=>?_
   ·obtain⟨i,hi⟩:=abg G;obtain⟨z,rfl⟩:=zP hi;exact(5,2,(4,4,4),2,(by show (0:Int)<10^(59:Int).toNat;decide),qq _ (5,agV z ∅))
   ·obtain⟨fs,rfl,f0⟩:=Cu c7;have u9:=az d2 (.lst (fs.map V.int));exists l2,fs,7,T6.of ao;have s9:=u8.trans u9;have x8:=x7.did (x7.self.same s9) ⋯
    replace L:=s9 _ _ L
    clear c7 g3 d8 d2 u8 u9 s9
    generalize upd (upd H2 c3 (.lst (cR (zs.map V.int) none (some 63)))) l2 (.lst (fs.map V.int))=H4 at *;generalize fs.sum=j at *;refine(6,5,2,6,5,2,(by show 4<=sizeLine;decide),λl5 b3=>(l5,7,(_,T6.of ao),8));have W:=az b3 (.lst [.int (g.length:Int),.int ((g.length:Int)+j),.int (-1),.int (-1-j)]);have n5:l5≠D:=(aD (by rw[<-Vi];exact x8.sn.1) b3).symm;have x9:=x8.did (x8.self.same W) ⋯;have b4:upd H4 l5 (.lst [.int (g.length:Int),.int ((g.length:Int)+j),.int (-1),.int (-1-j)]) l5=_:=ao
    replace L:=W _ _ L
    have O:∀(i:Nat) (y:V),[V.int (g.length:Int),.int ((g.length:Int)+j),.int (-1),.int (-1-j)][i]?=some y -> ∃z:Int,y=.int z/\(z<0\/(g.length:Int)<=z):=λi y G=>by
     match i,G with
     |0,G=>cases G;exact(5,.inr ⋯)
     |1,G=>cases G;exact(5,.inr ⋯)
     |2,G=>cases G;exact(5,.inl ⋯)
     |3,G=>cases G;exact(5,.inl ⋯)
    clear W b3
    generalize upd H4 l5 (.lst [.int (g.length:Int),.int ((g.length:Int)+j),.int (-1),.int (-1-j)])=H5 at *;generalize [V.int (g.length:Int),.int ((g.length:Int)+j),.int (-1),.int (-1-j)]=ls at *;refine bU (xs:=ls) (λi J C=>(∃S m l M,J=[some (.ref sa),some (.ref wl),some (.int (g.length:Int)),some (.ref N.t),some (.ref b0),some (.ref D),some (.ref N.f),some (.ref R),k8,S,m,l,some (.int j),M])/\cJ H5 C a.Uh a.Ui N 0 X X) ((1,_,5),x9.self) ?_ ?_ ?_
    ·rintro i J C _ ⟨_,d⟩;exact T6.of (x9.W5 d b4 (by rw[Vi];exact n5))
    ·rintro i y J C G ⟨⟨S,m,l,M,rfl⟩,d⟩;obtain⟨z,rfl,hz⟩:=O i y G;have y0:=x9.did d ⋯;refine(6,5,N,X,z,.non,7,y0,9,.inl (7,by rw[a2];exact hz),λH6 d6=>(true,7,eF ?_));have y1:=y0.did d6 ⋯;refine(6,6,2,N,X,z,.int (z+1),7,y1,9,.inr (z+1,7,by rw[a2];lia),λH7 d7=>(true,7,eF ?_));exact((1,_,5),(d.trans d6).trans d7)
    ·rintro J C ⟨⟨S,m,l,M,rfl⟩,d⟩
     replace L:=x9.W5 d L (by rw[Vi];exact Zm)
     replace x9:=x9.did d ⋯
     clear d b4 O
     refine(5,2,(by show 2<=sizeLine;decide),λq1 a1=>?_);have W:=az a1 (.tup [.int 0,.int ((g.length:Int)+1)]);refine(5,2,5,2,(by show 2<=sizeLine;decide),λZ a0=>?_);have u2:=az a0 (.tup [.int ((g.length:Int)+1),.int ((g.length:Int)+1)]);refine(5,2,5,2,5,2,(by show 2<=sizeLine;decide),λY WN=>?_);have u3:=az WN (.tup [.int ((g.length:Int)+1),.int ((g.length:Int)+1+j)]);refine(5,2,5,(by show 2<=sizeLine;decide),λq4 d0=>?_);have u4:=az d0 (.tup [.int ((g.length:Int)+1),.int (g.length:Int)]);refine((by show 2<=sizeLine;decide),λq5 c9=>?_);have u5:=az c9 (.tup [.int 1,.int 0]);refine((by show 5<=sizeLine;decide),λs6 W7=>(s6,7,(_,T6.of ao),8));have u6:=az W7 (.lst [.ref q1,.ref Z,.ref Y,.ref q4,.ref q5]);have v5:=u5.trans u6;have v4:=u4.trans v5;have v3:=u3.trans v4;have v2:=u2.trans v3;have w1:=W.trans v2;have n6:s6≠D:=(aD (u5 _ _ (u4 _ _ (u3 _ _ (u2 _ _ (W _ _ (by rw[<-Vi];exact x9.sn.1)))))) W7).symm;have U:=x9.did (x9.self.same w1) ⋯
     replace L:=w1 _ _ L
     obtain⟨Zq,a4⟩:∃Zq,Zq=upd (upd (upd (upd (upd (upd C q1 (.tup [.int 0,.int ((g.length:Int)+1)])) Z (.tup [.int ((g.length:Int)+1),.int ((g.length:Int)+1)])) Y (.tup [.int ((g.length:Int)+1),.int ((g.length:Int)+1+j)])) q4 (.tup [.int ((g.length:Int)+1),.int (g.length:Int)])) q5 (.tup [.int 1,.int 0])) s6 (.lst [.ref q1,.ref Z,.ref Y,.ref q4,.ref q5]):=(_,7);have hP:W6 Zq s6 [q1,Z,Y,q4,q5] (λu v=>¬(0<=u/\u<=v/\v<=(g.length:Int))):=(by rw[a4];exact ao,λb I=>by
      rw[a4];rcases aas.mp I with rfl|I
      ·exact(1,v2 _ _ ao,9)
      rcases aas.mp I with rfl|I
      ·exact(1,v3 _ _ ao,9)
      rcases aas.mp I with rfl|I
      ·exact(1,v4 _ _ ao,9)
      rcases aas.mp I with rfl|I
      ·exact(1,v5 _ _ ao,9)
      rw[aam.mp I];exact(1,u6 _ _ ao,9))
     rw[<-a4]at U L ⊢
     clear v5 v4 v3 v2 w1 W u2 u3 u4 u5 u6 a1 a0 WN d0 c9 W7 a4
     generalize [q1,Z,Y,q4,q5]=qs at *;refine bU (xs:=qs.map V.ref) (λi J C=>(∃S m l M,J=[some (.ref sa),some (.ref wl),some (.int (g.length:Int)),some (.ref N.t),some (.ref b0),some (.ref D),some (.ref N.f),some (.ref R),k8,S,m,l,some (.int j),M])/\cJ Zq C a.Uh a.Ui N 0 X X) ((1,_,5),U.self) ?_ ?_ ?_
     ·rintro i J C _ ⟨_,d⟩;exact T6.of (U.W5 d hP.li (by rw[Vi];exact n6))
     ·rintro i y J C G ⟨⟨S,m,l,M,rfl⟩,d⟩;rw[aag]at G;obtain⟨qa,WP,rfl⟩:=aaM.mp G;obtain⟨u,v,xq,O⟩:=hP.at_ qa (aah WP);have y0:=U.did d ⋯;exists qa,5,T8.of (U.kp d _ _ xq nofun nofun),7,_,5,2;exact(6,6,N,X,u,.int v,7,y0,9,.inr (v,7,by rw[a2];exact O),λH6 d6=>(true,7,eF ((1,_,5),d.trans d6)))
     ·rintro J C ⟨⟨S,m,l,M,rfl⟩,d⟩
      replace L:=U.W5 d L (by rw[Vi];exact Zm)
      replace U:=U.did d ⋯
      clear d hP n6
      refine(6,(by show 2<=sizeLine;decide),λq1 a1=>?_);have W:=az a1 (.tup [.int (-1),.int (g.length:Int)]);refine(6,2,5,(by show 2<=sizeLine;decide),λZ a0=>?_);have u2:=az a0 (.tup [.int (-1-j),.int (-1)]);refine(5,(by show 2<=sizeLine;decide),λY WN=>?_);have u3:=az WN (.tup [.int (-1),.int 0]);refine((by show 3<=sizeLine;decide),λs6 W7=>(s6,7,(_,T6.of ao),8));have u6:=az W7 (.lst [.ref q1,.ref Z,.ref Y]);have v3:=u3.trans u6;have v2:=u2.trans v3;have w1:=W.trans v2;have n6:s6≠D:=(aD (u3 _ _ (u2 _ _ (W _ _ (by rw[<-Vi];exact U.sn.1)))) W7).symm
      replace U:=U.did (U.self.same w1) ⋯
      replace L:=w1 _ _ L
      obtain⟨Zr,a3⟩:∃Zr,Zr=upd (upd (upd (upd C q1 (.tup [.int (-1),.int (g.length:Int)])) Z (.tup [.int (-1-j),.int (-1)])) Y (.tup [.int (-1),.int 0])) s6 (.lst [.ref q1,.ref Z,.ref Y]):=(_,7);have hP:W6 Zr s6 [q1,Z,Y] (λu v=>¬(0<=u/\u<=v/\v<=(g.length:Int))):=(by rw[a3];exact ao,λb I=>by
       rw[a3];rcases aas.mp I with rfl|I
       ·exact(1,v2 _ _ ao,9)
       rcases aas.mp I with rfl|I
       ·exact(1,v3 _ _ ao,9)
       rw[aam.mp I];exact(1,u6 _ _ ao,9))
      rw[<-a3]at U L ⊢
      clear v3 v2 w1 W u2 u3 u6 a1 a0 WN W7 a3
      generalize [q1,Z,Y]=qs at *;refine bU (xs:=qs.map V.ref) (λi J C=>(∃S m l M,J=[some (.ref sa),some (.ref wl),some (.int (g.length:Int)),some (.ref N.t),some (.ref b0),some (.ref D),some (.ref N.f),some (.ref R),k8,S,m,l,some (.int j),M])/\cJ Zr C a.Uh a.Ui N 0 X X) ((1,_,5),U.self) ?_ ?_ ?_
      ·rintro i J C _ ⟨_,d⟩;exact T6.of (U.W5 d hP.li (by rw[Vi];exact n6))
      ·rintro i y J C G ⟨⟨S,m,l,M,rfl⟩,d⟩;rw[aag]at G;obtain⟨qa,WP,rfl⟩:=aaM.mp G;obtain⟨u,v,xq,O⟩:=hP.at_ qa (aah WP);have y0:=U.did d ⋯;exists qa,5,T8.of (U.kp d _ _ xq nofun nofun),7,_,5,2;exact(6,6,N,X,u,.int v,7,y0,9,.inr (v,7,by rw[a2];exact O),λH6 d6=>(true,7,eF ((1,_,5),d.trans d6)))
      ·rintro J C ⟨⟨S,m,l,M,rfl⟩,d⟩;obtain⟨t2,e2,_,d3⟩:=w0;rw[ahW]at e2;subst e2;rw[i1]at d3;refine(6,b0,5,.inl (T6.of (U.W5 d L (by rw[Vi];exact Zm))),D,_,5,T6.of (by rw[<-Vi];exact d.seen),d3,q C)
theorem JH{s :Addr}(c:T6 K H s (d.map V.int))(b:d.length<=63)(h:H f=some (.Ug #[]))(g:H C=some (.Ug #[]))(e:H S=some (.Ug #[])):af1 K f C S [.ref s] H (λv _=>v=.bl true) λ_ _ _=>False:=
 (s,d,7,c,b,tab0 h,tab0 g,tab0 e,λ_=>rfl)
end
theorem QW{l:PySem.W.OpenLaw}{w:World}{mg:Str->Option Value}{f5 f6 f7 f8 f9 a4 q8 q7 q6 q5 q4 q3 q2 q1 q0 p9 p5 p4 p3 p2 p1 p0 o3 o2 o1 o0 n9 n8 n7 a3 n6 n5 n4 n3 n2 n1 n0 m4 m3 m2 m1 m0 l9 l8 l7 l6 l5 l4 l3 l2 l1 l0 k9 k8 k7 k6 k5 k4 k3 k2 k1 k0 j3 j2 j1 i9 i8 i7 i6 i5 i4 i3 i2 i1 i0 h9 h8 a2 h7 h6 h5 h4:Addr}{e0 e1 e2 e3 e4 e5 e6 e7 e8 e9 z0 y9 y8 y7 y6 y5 y4 y3 y2 y1 y0 x9 x8 x7 x6 x5 x4 x3 x2 x1 x0 w9 w8 w7 w4 w3 w2 w1 w0 v5 v4 v3 v2 v1 v0 u9 u8 u7 u6 u5 u4 u3 u2 u1 t9 t8 t7 t6 t5 t4 t3 t2 t1 t0 s9 s8 s7 s6 s5 s4 s3 s2 s1 s0 r9 r8 r7 r6 r5 r4 r3 r2 r1 r0:FuncData}{c3 g9 c2 g8 c1 g7:Option Addr}{b5 b4 b3:Array (Option Value)}{c6 g0 g3 c0 g6 c5 c9 g2 b9 g5 c4 c8 g1 b6 g4:Value}{o O p k n j m:Tok}{P Q Wh Wi:Addr}{Wt Ui Wu Uh Wv Vx:Addr}{u x J:Value}{A B L:Option Addr}{b i:Array Value}{r t I:Array (Option Value)}{mb:Str->Option Value}{c7:ExcName->Option Value}(X:K.In h')(TT:PyProof.Rows.Top prog N c7 mg mb h')(h3:mg "law" = some (.ref f))
  (d0:FI K "packed" wK C e0)
  (d1:FI K "check_row" mH S e1)
  (d2:FI K "block_of" nM c e2)
  (d3:FI K "bit_in" vN dx e3)
  (d4:FI K "bits_of" qg Pt e4)
  (d5:FI K "ones_in" qj f5 e5)
  (d6:FI K "one_in" uR f6 e6)
  (d7:FI K "nets_of" qb f7 e7)
  (d8:FI K "low_in" wF f8 e8)
  (d9:FI K "last_low_in" jj f9 e9)
  (a9:PySem.W.nsIn K mainGlobals "look_from" = some (some (.ref a4)))(a7:K.lookup a4=some (c6,c3,.func (PySem.W.fnOf "look_from" "look_from" (ν cA) (μ cA) (δ cA) .none g0 g3 c0 g9 (.ref Wt) g6),b5))(H7:PySem.W.codeIn K (.ref Wt) "look_from" = true)(h2:PySem.W.keepIn K (.ref a4)=true)
  (P5:K.lookup Wt=some (u,A,.fields y,r))(P4:y[11]?=some (.ref Ui))(Yp:∃d,(PyProof.Rows.recsOf prog).find? (λe=>e.name==("look_from" : Str))=some d)
  (H4:FI K "heap_of" rH q8 z0)
  (H3:FI K "size_of" rn q7 y9)
  (H2:FI K "lesser_of" lV q6 y8)
  (H1:FI K "last_at_most" iV q5 y7)
  (H0:FI K "place_beneath" gM q4 y6)
  (G2:FI K "check_stretch" gG q3 y5)
  (G1:FI K "cover" zm q2 y4)
  (G0:FI K "kept_row" nW q1 y3)
  (F9:FI K "ahead_of" nT q0 y2)
  (F8:FI K "check_place" jG p9 y1)
  (F7:FI K "bit_at" v6 p5 y0)
  (F6:FI K "ones_at" qZ p4 x9)
  (F5:FI K "noughts_at" jU p3 x8)
  (F4:FI K "one_place" lK p2 x7)
  (F3:FI K "check_nth" lL p1 x6)
  (F2:FI K "last_no_greater" fP p0 x5)
  (F1:FI K "is_tree" rA o3 x4)
  (F0:FI K "check_brackets" fZ o2 x3)
  (E9:FI K "kept_brackets" gQ o1 x2)
  (E8:FI K "low_of" uN o0 x1)
  (E7:FI K "base_of" p8 n9 x0)
  (E6:FI K "end_within" kJ n8 w9)
  (E5:FI K "block_count" jy n7 w8)
  (a8:PySem.W.nsIn K mainGlobals "heap_look" = some (some (.ref a3)))(a6:K.lookup a3=some (c5,c2,.func (PySem.W.fnOf "heap_look" "heap_look" (ν cB) (μ cB) (δ cB) .none c9 g2 b9 g8 (.ref Wu) g5),b4))(H6:PySem.W.codeIn K (.ref Wu) "heap_look" = true)(h1:PySem.W.keepIn K (.ref a3)=true)
  (P3:K.lookup Wu=some (x,B,.fields b,t))(Q1:b[11]?=some (.ref Uh))(Yq:∃d,(PyProof.Rows.recsOf prog).find? (λe=>e.name==("heap_look" : Str))=some d)
  (E4:FI K "height" wk n6 w7)
  (E3:FI K "place_of_bit" iy n5 w4)
  (E2:FI K "low_ahead" lJ n4 w3)
  (E1:FI K "last_low_upto" gP n3 w2)
  (D9:FI K "last_within" jq n2 w1)
  (D8:FI K "check_bracket" gH n1 w0)
  (D7:FI K "opening" qw n0 v5)
  (D6:FI K "further_out" jD m4 v4)
  (D5:FI K "check_depths" iR m3 v3)
  (D4:FI K "brackets_of" jE m2 v2)
  (D3:FI K "kept_tree" mj m1 v1)
  (D2:FI K "check_signs" jk m0 v0)
  (D1:FI K "kept_signs" j8 l9 u9)
  (D0:FI K "ranks_among" ji l8 u8)
  (C9:FI K "level_count" jF l7 u7)
  (C8:FI K "level_rows" kO l6 u6)
  (C7:FI K "parted" uL l5 u5)
  (C6:FI K "levels_of" lz l4 u4)
  (C5:FI K "place_below" jz l3 u3)
  (C4:FI K "nought_count" iG l2 u2)
  (C3:FI K "sign_at" rK l1 u1)
  (C2:FI K "node_count" kh l0 t9)
  (C1:FI K "check_node" jW k9 t8)
  (C0:FI K "node_at" qG k8 t7)
  (B9:FI K "place_of" nU k7 t6)
  (B8:FI K "depth_of" nO k6 t5)
  (B7:FI K "elder_of" nJ k5 t4)
  (B6:FI K "up_of" zg k4 t3)
  (B5:FI K "check_words" jt k3 t2)
  (B4:FI K "beginnings_of" gJ k2 t1)
  (B3:FI K "parts_of" nZ k1 t0)
  (B2:FI K "text_below" jT k0 s9)
  (B1:FI K "kept_store" kj j3 s8)
  (B0:FI K "blocks_of_tree" gb j2 s7)
  (A9:FI K "blocks_of_letters" dI j1 s6)
  (A8:FI K "letter_of" mJ i9 s5)
  (A7:FI K "look_at_ends" iu i8 s4)
  (A6:FI K "is_end" wH i7 s3)
  (A5:FI K "end_node" nH i6 s2)
  (A4:FI K "word_count" j9 i5 s1)
  (A3:FI K "text_of" qd i4 s0)
  (A2:FI K "word_at" rE i3 r9)
  (A1:FI K "words_in" ou i2 r8)
  (A0:FI K "_law_whole" mF i1 r7)
  (z9:FI K "_law_spelt" lN i0 r6)
  (z5:FI K "_law_word" nQ h9 r5)
  (z4:FI K "_law_words" mq h8 r4)
  (Zt:PySem.W.nsIn K mainGlobals "_law_look" = some (some (.ref a2)))(Zu:K.lookup a2=some (c4,c1,.func (PySem.W.fnOf "_law_look" "_law_look" (ν cN) (μ cN) (δ cN) .none c8 g1 b6 g7 (.ref Wv) g4),b3))(H5:PySem.W.codeIn K (.ref Wv) "_law_look" = true)(h0:PySem.W.keepIn K (.ref a2)=true)
  (M4:K.lookup Wv=some (J,L,.fields i,I))(M3:i[11]?=some (.ref Vx))(Yr:∃d,(PyProof.Rows.recsOf prog).find? (λe=>e.name==("_law_look" : Str))=some d)
  (z3:FI K "_law_there" lY h7 r3)
  (z2:FI K "_law_texts_alike" fj h6 r2)
  (z1:FI K "_law_refused" jB h5 r1)
  (a5:FI K "law" Kd h4 r0)
  (I8:PySem.W.nsIn K mainGlobals "bool" = some none)
  (M2:PySem.W.nsIn K mainGlobals "enumerate" = some none)
  (I4:PySem.W.nsIn K mainGlobals "int" = some none)
  (P9:PySem.W.nsIn K mainGlobals "isinstance" = some none)
  (I3:PySem.W.nsIn K mainGlobals "len" = some none)
  (I7:PySem.W.nsIn K mainGlobals "list" = some none)
  (I2:PySem.W.nsIn K mainGlobals "min" = some none)
  (I6:PySem.W.nsIn K mainGlobals "range" = some none)
  (P2:PySem.W.nsIn K mainGlobals "reversed" = some none)
  (I1:PySem.W.nsIn K mainGlobals "set" = some none)
  (L0:PySem.W.nsIn K mainGlobals "sorted" = some none)
  (I0:PySem.W.nsIn K mainGlobals "str" = some none)
  (H9:PySem.W.nsIn K mainGlobals "sum" = some none)
  (I5:PySem.W.nsIn K mainGlobals "tuple" = some none)
  (H8:PySem.W.nsIn K mainGlobals "zip" = some none)
  (P8:PySem.W.nsIn K mainGlobals "BLOCK_BITS" = some (some (.int 32 o)))
  (K2:PySem.W.nsIn K mainGlobals "LETTERS" = some (some (.str "abcdefghijklmnopqrstuvwxyz" O)))
  (M0:PySem.W.nsIn K mainGlobals "MOST_BITS" = some (some (.int 4096 p)))
  (S3:PySem.W.nsIn K mainGlobals "MOST_LETTERS" = some (some (.int 40 k)))
  (P7:PySem.W.nsIn K mainGlobals "MOST_NODES" = some (some (.int 2048 n)))
  (S2:PySem.W.nsIn K mainGlobals "MOST_NUMBERS" = some (some (.int 4096 j)))
  (P6:PySem.W.nsIn K mainGlobals "MOST_SIGNS" = some (some (.int 4096 m)))
  (Zv:PySem.W.nsIn K mainGlobals "NoNode" = some (some (.ref P)))
  (Zw:PySem.W.nsIn K mainGlobals "NoPlace" = some (some (.ref Q)))
  (L1:PySem.W.nsIn K mainGlobals "NoWord" = some (some (.ref Wh)))
  (L9:PySem.W.nsIn K mainGlobals "WoodError" = some (some (.ref Wi)))
  (K0:PySem.W.excIn K P XH "ValueError.__new__" = true)
  (I9:PySem.W.hasDictIn K P=true)
  (P1:PySem.W.findIn K (.ref P) "__getattribute__" = some (some (.builtin "BaseException.__getattribute__")))
  (O0:PySem.W.findIn K (.ref P) "__getattr__" = some none)
  (N9:PySem.W.findIn K (.ref P) "__class__" = some (some (.builtin "object.__class__")))
  (N4:PySem.W.specialIn K (.builtin "object.__class__") "__get__" = some (some (.builtin "getset_descriptor.__get__")))
  (N3:PySem.W.takesIn K (.builtin "object.__class__")=some true)
  (N2:PySem.W.mroIn K P (.type "object")=some true)
  (N1:PySem.W.mroIn K P (.type "BaseException")=some true)
  (Y6:PySem.W.kitOne K (.ref P) (.ref P)=some true)
  (Y7:PySem.W.kitOne K (.ref P) (.ref Q)=some false)
  (Y8:PySem.W.kitOne K (.ref P) (.ref Wh)=some false)
  (Y9:PySem.W.kitOne K (.ref P) (.ref Wi)=some true)
  (Za:PySem.W.kitOne K (.ref P) (.type "ValueError")=some true)
  (N0:PySem.W.excIn K Q XH "ValueError.__new__" = true)
  (M5:PySem.W.hasDictIn K Q=true)
  (L8:PySem.W.findIn K (.ref Q) "__getattribute__" = some (some (.builtin "BaseException.__getattribute__")))
  (L7:PySem.W.findIn K (.ref Q) "__getattr__" = some none)
  (L6:PySem.W.findIn K (.ref Q) "__class__" = some (some (.builtin "object.__class__")))
  (L5:PySem.W.specialIn K (.builtin "object.__class__") "__get__" = some (some (.builtin "getset_descriptor.__get__")))
  (L4:PySem.W.takesIn K (.builtin "object.__class__")=some true)
  (L3:PySem.W.mroIn K Q (.type "object")=some true)
  (L2:PySem.W.mroIn K Q (.type "BaseException")=some true)
  (Yc:PySem.W.kitOne K (.ref Q) (.ref P)=some false)
  (Yd:PySem.W.kitOne K (.ref Q) (.ref Q)=some true)
  (Ye:PySem.W.kitOne K (.ref Q) (.ref Wh)=some false)
  (Yg:PySem.W.kitOne K (.ref Q) (.ref Wi)=some true)
  (Zc:PySem.W.kitOne K (.ref Q) (.type "ValueError")=some true)
  (nt:PySem.W.noTabs K=true)
  (S1:Ui≠Uh)
  (S0:Ui≠Vx)
  (Q2:Uh≠Vx):
  ∃(fd:FuncData) (U:List (Addr×Addr)) (sp:Sp),(∀(s:Shared) (v:Value),BindsTo s fd ([v],[]) [(pq ("_law_script") v)])/\PySem.W.TabsAt U h'/\PySem.W.noTabs K=true/\(∀base:Heap,K.In base->base.Ns mainGlobals mg->BMain mg base->(∀q∈U,PySem.W.CodeHd base q.1 q.2)->aV l.prog w K mg base T9 15 f fd ["_law_script"] sp) /\
   ∀(H:Hp) (a:Addr) (ns:List Int),ns.length<=63->T6 K H a (ns.map V.int)->(∀q∈U,H q.2=some (.Ug #[]))->sp [.ref a] H (λv _=>v=.bl true) λ_ _ _=>False:=by
 have G:=TT.g;have e:=h3.symm.trans (PySem.W.mg_of X G a5.a);cases e;obtain⟨_,_,_,_,_,_,_,_,_,rfl,_,_⟩:=a5.F.ex;have b2:=yR (st:=cA) a7 H7 h2
 have T0:Df K mg "look_from" cA ["look","first"] _ _:=(b2,b2.binds (ps:=["look","first"]) λ_ _ _ _ _ _ R hl=>Ms (C:=λR=>bindArgs _ (R,[])=pure (ahQ (["look","first"]:List Str) R)) hl (λ_ _=>rfl),PySem.W.mg_of X G a9)
 have b1:=yR (st:=cB) a6 H6 h1
 have S9:Df K mg "heap_look" cB ["tables"] _ _:=(b1,b1.binds (ps:=["tables"]) λ_ _ _ _ _ _ R hl=>PJ (C:=λR=>bindArgs _ (R,[])=pure (ahQ (["tables"]:List Str) R)) hl (λ_=>rfl),PySem.W.mg_of X G a8)
 have b0:=yR (st:=cN) Zu H5 h0
 have S4:Df K mg "_law_look" cN ["_law_blocks","_law_seen"] _ _:=(b0,b0.binds (ps:=["_law_blocks","_law_seen"]) λ_ _ _ _ _ _ R hl=>Ms (C:=λR=>bindArgs _ (R,[])=pure (ahQ (["_law_blocks","_law_seen"]:List Str) R)) hl (λ_ _=>rfl),PySem.W.mg_of X G Zt)
 have T:Tx K mg (Wt,Ui,Wu,Uh,Wv,Vx,1,1,1,1,1,1,1,1,1,1,1,1,1,1,1,1,1,1,1,1,1,1,1,1,1,1,1,1,1,1,1,1,1,1,1,1,1,1,1,1,1,1,1,1,1,1,1,1,1,1,1,1,1,1,1,1,1,1,1,1,1,1,1,1,1,1,1,1,1,1,1,1,1,1,1,1,1,1,1,1,1,1,1,1,1,1,1,1,1,1,_,P,Q,Wh,Wi):=(Uw X G d0,Uw X G d1,Uw X G d2,UG X G d3,UG X G d4,UG X G d5,UG X G d6,UG X G d7,UG X G d8,V8 X G d9,T0,Uw X G H4,Uw X G H3,UG X G H2,V8 X G H1,df5 X G H0,UJ X G G2,UJ X G G1,Uw X G G0,Uw X G F9,UG X G F8,UJ X G F7,UJ X G F6,UJ X G F5,UJ X G F4,UG X G F3,UG X G F2,Uw X G F1,Uw X G F0,Uw X G E9,UJ X G E8,UG X G E7,UG X G E6,Uw X G E5,S9,UJ X G E4,UG X G E3,V8 X G E2,V8 X G E1,df5 X G D9,V8 X G D8,UJ X G D7,V8 X G D6,Uw X G D5,Uw X G D4,Uw X G D3,Uw X G D2,Uw X G D1,UG X G D0,Uw X G C9,UG X G C8,UG X G C7,UG X G C6,UJ X G C5,Uw X G C4,UJ X G C3,Uw X G C2,UG X G C1,UJ X G C0,UJ X G B9,UJ X G B8,UJ X G B7,V8 X G B6,Uw X G B5,Uw X G B4,Uw X G B3,UJ X G B2,Uw X G B1,Uw X G B0,Uw X G A9,UJ X G A8,UG X G A7,UJ X G A6,UJ X G A5,Uw X G A4,UJ X G A3,UJ X G A2,V8 X G A1,Uw X G A0,V8 X G z9,UG X G z5,Uw X G z4,S4,UG X G z3,UG X G z2,V8 X G z1,Uw X G a5,PySem.W.mg_none_of X G I8,PySem.W.mg_none_of X G M2,PySem.W.mg_none_of X G I4,PySem.W.mg_none_of X G P9,PySem.W.mg_none_of X G I3,PySem.W.mg_none_of X G I7,PySem.W.mg_none_of X G I2,PySem.W.mg_none_of X G I6,PySem.W.mg_none_of X G P2,PySem.W.mg_none_of X G I1,PySem.W.mg_none_of X G L0,PySem.W.mg_none_of X G I0,PySem.W.mg_none_of X G H9,PySem.W.mg_none_of X G I5,PySem.W.mg_none_of X G H8,PySem.W.mg_of X G P8,PySem.W.mg_of X G K2,PySem.W.mg_of X G M0,PySem.W.mg_of X G S3,PySem.W.mg_of X G P7,PySem.W.mg_of X G S2,PySem.W.mg_of X G P6,PySem.W.mg_of X G Zv,PySem.W.mg_of X G Zw,PySem.W.mg_of X G L1,PySem.W.mg_of X G L9,(PySem.W.mg_of X G Zv,K0),(I9,P1,O0,N9,N4,N3,N2,N1),Y6,Y7,Y8,Y9,Za,(PySem.W.mg_of X G Zw,N0),(M5,L8,L7,L6,L5,L4,L3,L2),Yc,Yd,Ye,Yg,Zc,7,7,7);obtain⟨Y,Yp⟩:=Yp;have D:=PySem.W.tab_of TT X Yp (u0 a9 a7 rfl P5 P4);obtain⟨Z,Yq⟩:=Yq;have E:=PySem.W.tab_of TT X Yq (u0 a8 a6 rfl P3 Q1);obtain⟨a0,Yr⟩:=Yr;have M:=PySem.W.tab_of TT X Yr (u0 Zt Zu rfl M4 M3);exact(_,[(pq Wt Ui),(pq Wu Uh),(pq Wv Vx)],af1 K Ui Uh Vx,λs v=>.of_eq rfl,aie.mpr (D,aie.mpr (E,aie.mpr (M,λ_ z=>nomatch z))),nt,λbase _ _ bm hc=>Qa T (bm,hc _ (.head _),hc _ (.tail _ (.head _)),hc _ (.tail _ (.tail _ (.head _))),S1,S0,Q2),λH a ns hl hS a1=>JH hS hl (a1 _ (.head _)) (a1 _ (.tail _ (.head _))) (a1 _ (.tail _ (.tail _ (.head _)))))
end Tw
variable{U:SR}
end
namespace Tp
open PySem
noncomputable section
abbrev O:=Params→Obj
def sq (l:List Str):Nat→List Value:=@List.rec Str (λ_=>Nat→List Value) (λ_=>[]) (λs _ ih t=>Value.str s t::ih (Nat.add t 1)) l
def ap {α:Type} (a b:List α):List α:=@List.rec α (λ_=>List α) b (λx _ r=>x::r) a
def tk {α:Type} (l:List α):Nat→List α:=@List.rec α (λ_=>Nat→List α) (λ_=>[]) (λx _ ih n=>@Nat.rec (λ_=>List α) [] (λm _=>x::ih m) n) l
def mp {α β:Type} (f:α→β) (l:List α):List β:=@List.rec α (λ_=>List β) [] (λx _ r=>f x::r) l
def ov (l:List O):List (Nat×O)→List O:=@List.rec O (λ_=>List (Nat×O)→List O) (λ_=>[]) (λx _ ih ex=>@List.rec (Nat×O) (λ_=>List O) (x::ih []) (λe r _=>@Nat.rec (λ_=>List O) (e.2::ih r) (λg _=>x::ih ((g,e.2)::r)) e.1) ex) l
def ev (l:List Obj):Bool→List Obj:=@List.rec Obj (λ_=>Bool→List Obj) (λ_=>[]) (λx _ ih b=>@Bool.rec (λ_=>List Obj) (ih true) (x::ih false) b) l
def bt (n:Nat):List Obj→PySem.W.BT:=@Nat.rec (λ_=>List Obj→PySem.W.BT) (λ_=>.nil) (λ_ ih l=>@List.rec Obj (λ_=>PySem.W.BT) .nil (λx xs _=>.node x (ih (ev xs true)) (ih (ev xs false))) l) n
def Z (s:Str) (t:Nat) (v:Value) (P:Params):DictEntry:=.mk (PyData.keyHash P s) (.str s t) v
def E (s:Str) (t r:Nat) (P:Params):DictEntry:=.mk (PyData.keyHash P s) (.str s t) (.ref r)
def gd (l:List (Params→DictEntry)) (n:Nat) (P:Params):Obj:=.mk (.type "dict") none (.dict (mp (λe=>e P) l).toArray n) #[]
def tb (l:List (Nat×Nat)) (P:Params):Obj:=.mk .none none (.fields (@List.rec (Nat×Nat) (λ_=>List Value) [] (λx _ r=>.int (Int.ofNat x.1) 0::.int 0 0::.ref x.2::r) l).toArray) #[]
def h0 (x0:Nat) (x1:Nat) (x2:Nat) (x3:Str):List O:=[λP=>(.mk (.type "tuple") none (.seq #[(.ref 24)] 0) #[]),λP=>(.mk (.type "builtin_function_or_method") none (.fields #[(.builtin "type.__prepare__"),(.type "type")]) #[]),λP=>(.mk (.type "dict") none (.dict #[(.mk (PyData.keyHash P "__module__") (.str "__module__" (Nat.add x0 7)) (.str "thinwood.errors" 187)),(.mk (PyData.keyHash P "__qualname__") (.str "__qualname__" (Nat.add x0 9)) (.str x3 (Nat.add x0 8))),(.mk (PyData.keyHash P "__firstlineno__") (.str "__firstlineno__" (Nat.add x0 11)) (.int (Int.ofNat x1) (Nat.add x0 10))),(.mk (PyData.keyHash P "__static_attributes__") (.str "__static_attributes__" (Nat.add x0 12)) (.ref (Nat.add x2 7)))] 4) #[]),λP=>(.mk (.type "tuple") none (.seq #[] 0) #[]),λP=>(.mk .none none (.fields #[]) #[]),λP=>(.mk (.type "code") none (.fields #[(.str x3 (Nat.add x0 2)),(.str x3 (Nat.add x0 3)),(.str "/claim/cut.py" (Nat.add x0 4)),(.int (Int.ofNat x1) 0),(.int 0 0),(.int 0 0),(.int 0 0),(.int 0 0),(.ref (Nat.add x2 3)),(.bool .false),(.int 181 0),(.ref (Nat.add x2 4)),.none,.none,.none,.none,(.int (Int.ofNat (Nat.add x0 5)) 0),(.int (Int.ofNat x1) 0),(.str "/claim/cut.py" (Nat.add x0 6))]) #[]),λP=>(.mk (.type "frame") none .plain #[(some (.ref (Nat.add x2 5))),(some (.ref 3)),(some (.ref (Nat.add x2 2))),none,(some (.str "thinwood.errors" 187)),none,(some (.ref 0))]),λP=>(.mk (.type "tuple") none (.seq #[] 0) #[]),λP=>(.mk (.type "dict") none (.dict #[(.mk (PyData.keyHash P "__module__") (.str "__module__" (Nat.add x0 7)) (.str "thinwood.errors" 187)),(.mk (PyData.keyHash P "__firstlineno__") (.str "__firstlineno__" (Nat.add x0 11)) (.int (Int.ofNat x1) (Nat.add x0 10))),(.mk (PyData.keyHash P "__static_attributes__") (.str "__static_attributes__" (Nat.add x0 12)) (.ref (Nat.add x2 7))),(.mk (PyData.keyHash P "__doc__") (.str "__doc__" (Nat.add x0 13)) .none)] 2) #[]),λP=>(.mk (.type "type") none (.cls (.mk x3 [(.ref 24)] [(.ref (Nat.add x2 9)),(.ref 24),(.type "ValueError"),(.type "Exception"),(.type "BaseException"),(.type "object")] (Nat.add x2 8) x3 .true [] [] .false none .false)) #[(some (.ref x2)),none,(some (.str x3 x0)),(some (.str x3 (Nat.add x0 8))),(some (.builtin "ValueError.__new__")),(some (.bool .true))]),λP=>(.mk (.type "super") none (.fields #[(.ref (Nat.add x2 9)),(.ref (Nat.add x2 9)),(.ref (Nat.add x2 9))]) #[]),λP=>(.mk (.type "builtin_function_or_method") none (.fields #[(.builtin "object.__init_subclass__"),(.ref (Nat.add x2 9))]) #[])]
def h1 (x0:Nat) (x1:Nat) (x2:Nat) (x3:Nat) (x4:Nat) (x5:Nat) (x6:Str) (x7:Str):List O:=[λP=>(.mk (.type "tuple") none (.seq #[] 0) #[]),λP=>(.mk .none none (.fields #[]) #[]),λP=>(.mk .none none (.func (FuncData.mk x6 x6 (L2.ν (Tw.top x0)) (FuncBody.stmts (L2.μ (Tw.top x0))) (L2.δ (Tw.top x0)) 0 [] .none .none .none .none none .none .none 0)) #[]),λP=>(.mk (.type "code") none (.fields #[(.str x6 x1),(.str x6 (Nat.add x1 1)),(.str "/claim/cut.py" (Nat.add x1 2)),(.int (Int.ofNat x2) 0),(.int (Int.ofNat x3) 0),(.int 0 0),(.int 0 0),(.int 3 0),(.ref x4),(.bool .true),(.int 181 0),(.ref (Nat.add x4 1)),.none,.none,.none,(.ref (Nat.add x4 2)),(.int (Int.ofNat (Nat.add x1 3)) 0),(.int (Int.ofNat x2) 0),(.str "/claim/cut.py" (Nat.add x1 4))]) #[]),λP=>(.mk (.type "function") none (.func (FuncData.mk x6 x6 (L2.ν (Tw.top x0)) (FuncBody.stmts (L2.μ (Tw.top x0))) (L2.δ (Tw.top x0)) 3 [] .none .none .none (.str x7 x5) none (.ref (Nat.add x4 3)) .none 0)) #[])]
def h2 (x0:Nat) (x1:Nat) (x2:Nat) (x3:Nat) (x4:Nat) (x5:Nat) (x6:Nat) (x7:List Str) (x8:Str) (x9:Str):List O:=[λP=>(.mk (.type "tuple") none (.seq #[] 0) #[]),λP=>(.mk .none none (.fields #[]) #[]),λP=>(.mk (.type "tuple") none (.seq (sq x7 (Nat.add x0 3)).toArray 0) #[]),λP=>(.mk (.type "tuple") none (.seq #[] 0) #[]),λP=>(.mk .none none (.func (FuncData.mk x8 x8 (L2.ν (Tw.top x1)) (FuncBody.stmts (L2.μ (Tw.top x1))) (L2.δ (Tw.top x1)) 0 [] .none .none .none .none none .none .none 0)) #[]),λP=>(.mk (.type "code") none (.fields #[(.str x8 x0),(.str x8 (Nat.add x0 1)),(.str "/claim/cut.py" (Nat.add x0 2)),(.int (Int.ofNat x2) 0),(.int (Int.ofNat x3) 0),(.int 0 0),(.int 0 0),(.int 3 0),(.ref x4),(.bool .true),(.int 181 0),(.ref (Nat.add x4 1)),.none,(.ref (Nat.add x4 2)),(.ref (Nat.add x4 3)),(.ref (Nat.add x4 4)),(.int (Int.ofNat x5) 0),(.int (Int.ofNat x2) 0),(.str "/claim/cut.py" (Nat.add x5 1))]) #[]),λP=>(.mk (.type "function") none (.func (FuncData.mk x8 x8 (L2.ν (Tw.top x1)) (FuncBody.stmts (L2.μ (Tw.top x1))) (L2.δ (Tw.top x1)) 3 [] .none .none .none (.str x9 x6) none (.ref (Nat.add x4 5)) .none 0)) #[])]
def g0:List (Params→DictEntry):=[Z "__doc__" 166 .none,Z "__package__" 167 .none,Z "__loader__" 168 (.builtin "__main__.__loader__#opaque"),Z "__spec__" 169 .none,E "__annotations__" 170 6,E "__builtins__" 171 4,Z "__file__" 173 (.str "/claim/cut.py" 172),Z "__cached__" 174 .none,E "WoodError" 206 24,E "TooMany" 222 37]
def g1:List (Params→DictEntry):=[E "NoBit" 238 49,E "NoPlace" 254 61,E "NoNode" 270 73,E "NoTree" 286 85,E "NoSign" 302 97,E "NoWord" 318 109,E "Twice" 334 121,Z "BLOCK_BITS" 338 (.int 32 337),Z "MOST_BITS" 340 (.int 4096 339),E "packed" 346 128]
def g2:List (Params→DictEntry):=[E "check_row" 354 135,E "block_of" 363 142,E "bit_in" 371 149,E "bits_of" 377 154,E "ones_in" 385 161,E "one_in" 396 168,E "nets_of" 407 175,E "low_in" 415 182,E "last_low_in" 428 189,E "look_from" 438 196]
def g3:List (Params→DictEntry):=[Z "MOST_NUMBERS" 442 (.int 4096 441),E "heap_of" 452 203,E "size_of" 460 210,E "lesser_of" 468 217,E "last_at_most" 479 224,E "place_beneath" 491 231,E "check_stretch" 500 238,E "cover" 514 245,E "kept_row" 524 252,E "ahead_of" 533 259]
def g4:List (Params→DictEntry):=[E "check_place" 541 266,E "bit_at" 550 273,E "ones_at" 563 280,E "noughts_at" 572 287,E "one_place" 583 294,E "check_nth" 591 301,E "last_no_greater" 602 308,E "is_tree" 614 315,E "check_brackets" 621 322,E "kept_brackets" 627 327]
def g5:List (Params→DictEntry):=[E "low_of" 636 334,E "base_of" 644 341,E "end_within" 652 348,E "block_count" 659 355,E "heap_look" 667 362,E "height" 676 369,E "place_of_bit" 684 376,E "low_ahead" 695 383,E "last_low_upto" 708 390,E "last_within" 720 397]
def g6:List (Params→DictEntry):=[E "check_bracket" 730 404,E "opening" 739 411,E "further_out" 749 418,Z "MOST_NODES" 753 (.int 2048 752),E "check_depths" 762 425,E "brackets_of" 772 432,E "kept_tree" 779 439,Z "MOST_SIGNS" 783 (.int 4096 782),E "check_signs" 791 446,E "kept_signs" 803 453]
def g7:List (Params→DictEntry):=[E "ranks_among" 809 458,E "level_count" 816 465,E "level_rows" 822 470,E "parted" 828 475,E "levels_of" 839 482,E "place_below" 850 489,E "nought_count" 857 496,E "sign_at" 870 503,E "node_count" 879 510,E "check_node" 887 517]
def g8:List (Params→DictEntry):=[E "node_at" 896 524,E "place_of" 905 531,E "depth_of" 914 538,E "elder_of" 923 545,E "up_of" 934 552,Z "LETTERS" 938 (.str "abcdefghijklmnopqrstuvwxyz" 937),Z "MOST_LETTERS" 940 (.int 40 939),E "check_words" 949 559,E "beginnings_of" 955 564,E "parts_of" 961 569]
def g9:List (Params→DictEntry):=[E "text_below" 970 576,E "kept_store" 981 583,E "blocks_of_tree" 988 590,E "blocks_of_letters" 994 595,E "letter_of" 1003 602,E "look_at_ends" 1011 609,E "is_end" 1020 616,E "end_node" 1029 623,E "word_count" 1036 630,E "text_of" 1048 637]
def g10:List (Params→DictEntry):=[E "word_at" 1057 644,E "words_in" 1071 651,E "_law_whole" 1080 658,E "_law_spelt" 1093 665,E "_law_word" 1105 672,E "_law_words" 1116 679,E "_law_look" 1127 686,E "_law_there" 1136 693,E "_law_texts_alike" 1146 700,E "_law_refused" 1158 707]
def g11:List (Params→DictEntry):=[E "law" 1164 712]
def gg:List (Params→DictEntry):=ap g0 (ap g1 (ap g2 (ap g3 (ap g4 (ap g5 (ap g6 (ap g7 (ap g8 (ap g9 (ap g10 (g11)))))))))))
def tt:List (Nat×Nat):=[((2),20),((4),33),((6),45),((8),57),(10,69),(12,81),(14,93),(16,105),(18,117),(23,127),(26,134),(32,141),(37,148),(39,153),(41,160),(43,167),(50,174),(57,181),(59,188),(65,195),(69,202),(77,209),(82,216),(88,223),(93,230),(100,237),(103,244),(121,251),(124,258),(129,265),(132,272),(135,279),(144,286),(146,293),(151,300),(154,307),(165,314),(172,321),(176,326),(183,333),(185,340),(187,347),(189,354),(191,361),(194,368),(196,375),(200,382),(206,389),(217,396),(220,403),(223,410),(226,417),(233,424),(241,431),(250,438),(254,445),(260,452),(270,457),(275,464),(277,469),(285,474),(289,481),(296,488),(302,495),(304,502),(314,509),(316,516),(319,523),(323,530),(326,537),(328,544),(330,551),(338,558),(347,563),(352,568),(362,575),(364,582),(370,589),(372,594),(374,601),(376,608),(378,615),(380,622),(382,629),(384,636),(391,643),(393,650),(406,657),(408,664),(415,671),(431,678),(440,685),(448,692),(453,699),(460,706),(470,711)]
def s0:O:=gd (Z "__name__" 165 (.str "law_thinwood_k75_words_by_number" 1072)::tk gg 111) 112
def l0:O:=λP=>(.mk (.type "tuple") none (.seq #[] 0) #[])
def s1:O:=tb (tk tt 96)
def l1:O:=λP=>(.mk (.type "code") none (.fields #[(.str "<module>" 182),(.str "<module>" 183),(.str "/claim/cut.py" 184),(.int 1 0),(.int 0 0),(.int 0 0),(.int 0 0),(.int 0 0),(.ref 11),(.bool .false),(.int 181 0),(.ref 12),.none,.none,.none,.none,(.int 185 0),(.int 1 0),(.str "/claim/cut.py" 186)]) #[])
def l2:O:=λP=>(.mk (.type "frame") none .plain #[(some (.ref 13)),(some (.ref 3)),(some (.ref 3)),none,(some (.str "__main__" 164)),none,(some (.ref 0))])
def l3:O:=λP=>(.mk (.type "tuple") none (.seq #[(.type "ValueError")] 0) #[])
def l4:O:=λP=>(.mk (.type "builtin_function_or_method") none (.fields #[(.builtin "type.__prepare__"),(.type "type")]) #[])
def l5:O:=λP=>(.mk (.type "dict") none (.dict #[(.mk (PyData.keyHash P "__module__") (.str "__module__" 196) (.str "thinwood.errors" 187)),(.mk (PyData.keyHash P "__qualname__") (.str "__qualname__" 198) (.str "WoodError" 197)),(.mk (PyData.keyHash P "__firstlineno__") (.str "__firstlineno__" 200) (.int 2 199)),(.mk (PyData.keyHash P "__static_attributes__") (.str "__static_attributes__" 201) (.ref 22))] 4) #[])
def l6:O:=λP=>(.mk .none none (.fields #[]) #[])
def l7:O:=λP=>(.mk (.type "code") none (.fields #[(.str "WoodError" 191),(.str "WoodError" 192),(.str "/claim/cut.py" 193),(.int 2 0),(.int 0 0),(.int 0 0),(.int 0 0),(.int 0 0),(.ref 18),(.bool .false),(.int 181 0),(.ref 19),.none,.none,.none,.none,(.int 194 0),(.int 2 0),(.str "/claim/cut.py" 195)]) #[])
def l8:O:=λP=>(.mk (.type "frame") none .plain #[(some (.ref 20)),(some (.ref 3)),(some (.ref 17)),none,(some (.str "thinwood.errors" 187)),none,(some (.ref 0))])
def l9:O:=λP=>(.mk (.type "dict") none (.dict #[(.mk (PyData.keyHash P "__module__") (.str "__module__" 196) (.str "thinwood.errors" 187)),(.mk (PyData.keyHash P "__firstlineno__") (.str "__firstlineno__" 200) (.int 2 199)),(.mk (PyData.keyHash P "__static_attributes__") (.str "__static_attributes__" 201) (.ref 22)),(.mk (PyData.keyHash P "__weakref__") (.str "__weakref__" 203) (.ref 25)),(.mk (PyData.keyHash P "__doc__") (.str "__doc__" 204) .none)] 3) #[])
def l10:O:=λP=>(.mk (.type "type") none (.cls (.mk "WoodError" [(.type "ValueError")] [(.ref 24),(.type "ValueError"),(.type "Exception"),(.type "BaseException"),(.type "object")] 23 "WoodError" .true [] [(.ref 37),(.ref 49),(.ref 61),(.ref 73),(.ref 85),(.ref 97),(.ref 109),(.ref 121)] .false none .false)) #[(some (.ref 15)),none,(some (.str "WoodError" 189)),(some (.str "WoodError" 197)),(some (.builtin "ValueError.__new__")),(some (.bool .true))])
def l11:O:=λP=>(.mk (.type "getset_descriptor") none (.fields #[(.str "__weakref__" 202),(.ref 24),(.builtin "ExceptionGroup.__weakref__"),.none]) #[])
def l12:O:=λP=>(.mk (.type "super") none (.fields #[(.ref 24),(.ref 24),(.ref 24)]) #[])
def l13:O:=λP=>(.mk (.type "builtin_function_or_method") none (.fields #[(.builtin "object.__init_subclass__"),(.ref 24)]) #[])
def d1:List O:=h0 207 4 28 "TooMany"
def d2:List O:=h0 223 6 40 "NoBit"
def d3:List O:=h0 239 8 52 "NoPlace"
def d4:List O:=h0 255 10 64 "NoNode"
def d5:List O:=h0 271 12 76 "NoTree"
def d6:List O:=h0 287 14 88 "NoSign"
def d7:List O:=h0 303 16 100 "NoWord"
def d8:List O:=h0 319 18 112 "Twice"
def d9:List O:=h1 13 341 23 1 124 335 "packed" "thinwood.blocks"
def d10:List O:=h2 347 14 26 1 129 352 335 ["bits","bit"] "check_row" "thinwood.blocks"
def d11:List O:=h2 355 15 32 1 136 361 335 ["bits","block","bit"] "block_of" "thinwood.blocks"
def d12:List O:=h2 364 16 37 2 143 369 335 ["block","k"] "bit_in" "thinwood.blocks"
def d13:List O:=h1 17 372 39 2 150 335 "bits_of" "thinwood.blocks"
def d14:List O:=h2 378 18 41 2 155 383 335 ["block","upto"] "ones_in" "thinwood.blocks"
def d15:List O:=h2 386 19 43 2 162 394 335 ["block","nth","ones","k","bit"] "one_in" "thinwood.blocks"
def d16:List O:=h2 397 20 50 2 169 405 335 ["block","upto","nets","net","bit"] "nets_of" "thinwood.blocks"
def d17:List O:=h2 408 21 57 2 176 413 335 ["block","upto"] "low_in" "thinwood.blocks"
def d18:List O:=h2 416 22 59 4 183 426 335 ["block","start","stop","goal","found","k","net"] "last_low_in" "thinwood.blocks"
def l14:O:=λP=>(.mk (.type "tuple") none (.seq #[(.str "look" 432),(.str "first" 433)] 0) #[])
def l15:O:=λP=>(.mk (.type "tuple") none (.seq #[(.str "look" 434),(.str "first" 435)] 0) #[])
def l16:O:=λP=>(.mk .none none (.func (FuncData.mk "look_from" "look_from" (L2.ν (Tw.top 23)) (FuncBody.stmts (L2.μ (Tw.top 23))) (L2.δ (Tw.top 23)) 0 [] .none .none .none .none none .none .none 0)) #[])
def l17:O:=λP=>(.mk (.type "code") none (.fields #[(.str "look_from" 429),(.str "look_from" 430),(.str "/claim/cut.py" 431),(.int 65 0),(.int 2 0),(.int 0 0),(.int 0 0),(.int 3 0),(.ref 190),(.bool .true),(.int 181 0),(.ref 191),.none,(.ref 192),(.ref 193),(.ref 194),(.int 436 0),(.int 65 0),(.str "/claim/cut.py" 437)]) #[])
def l18:O:=λP=>(.mk (.type "function") none (.func (FuncData.mk "look_from" "look_from" (L2.ν (Tw.top 23)) (FuncBody.stmts (L2.μ (Tw.top 23))) (L2.δ (Tw.top 23)) 3 [] .none .none .none (.str "thinwood.blocks" 335) none (.ref 195) .none 0)) #[])
def d20:List O:=h2 443 26 69 1 197 450 439 ["numbers","size","nodes","node"] "heap_of" "thinwood.heaps"
def d21:List O:=h2 453 27 77 1 204 458 439 ["many","size"] "size_of" "thinwood.heaps"
def d22:List O:=h2 461 28 82 2 211 466 439 ["one","other"] "lesser_of" "thinwood.heaps"
def d23:List O:=h2 469 29 88 4 218 477 439 ["many","look","stop","goal","node"] "last_at_most" "thinwood.heaps"
def d24:List O:=h2 480 30 93 5 225 489 439 ["size","look","node","goal","side","found"] "place_beneath" "thinwood.heaps"
def d25:List O:=h2 492 31 100 3 232 498 439 ["many","start","stop"] "check_stretch" "thinwood.heaps"
def d26:List O:=h2 501 32 103 3 239 512 439 ["many","start","stop","size","low","high","lefts","rights"] "cover" "thinwood.heaps"
def d27:List O:=h2 517 34 121 1 246 522 515 ["bits","blocks"] "kept_row" "thinwood.rows"
def d28:List O:=h2 525 35 124 1 253 531 515 ["blocks","ahead","block"] "ahead_of" "thinwood.rows"
def d29:List O:=h2 534 36 129 2 260 539 515 ["at","most"] "check_place" "thinwood.rows"
def d30:List O:=h2 542 37 132 3 267 548 515 ["tables","look","at"] "bit_at" "thinwood.rows"
def d31:List O:=h2 551 38 135 3 274 561 515 ["tables","look","at","many","ahead","number","within"] "ones_at" "thinwood.rows"
def d32:List O:=h2 564 39 144 3 281 570 515 ["tables","look","at"] "noughts_at" "thinwood.rows"
def d33:List O:=h2 573 40 146 3 288 581 515 ["tables","look","nth","ahead","number"] "one_place" "thinwood.rows"
def d34:List O:=h2 584 41 151 2 295 589 515 ["nth","many"] "check_nth" "thinwood.rows"
def d35:List O:=h2 592 42 154 2 302 600 515 ["numbers","goal","low","high","middle"] "last_no_greater" "thinwood.rows"
def d36:List O:=h2 605 44 165 1 309 612 603 ["bits","level","at","bit"] "is_tree" "thinwood.brackets"
def d37:List O:=h2 615 45 172 1 316 619 603 ["bits"] "check_brackets" "thinwood.brackets"
def d38:List O:=h1 46 622 176 1 323 603 "kept_brackets" "thinwood.brackets"
def d39:List O:=h2 628 47 183 3 328 634 603 ["tables","number","block"] "low_of" "thinwood.brackets"
def d40:List O:=h2 637 48 185 2 335 642 603 ["tables","number"] "base_of" "thinwood.brackets"
def d41:List O:=h2 645 49 187 2 342 650 603 ["number","upto"] "end_within" "thinwood.brackets"
def d42:List O:=h2 653 50 189 1 349 657 603 ["tables"] "block_count" "thinwood.brackets"
def l19:O:=λP=>(.mk (.type "tuple") none (.seq #[(.str "tables" 663)] 0) #[])
def l20:O:=λP=>(.mk (.type "tuple") none (.seq #[(.str "nodes" 664)] 0) #[])
def l21:O:=λP=>(.mk .none none (.func (FuncData.mk "heap_look" "heap_look" (L2.ν (Tw.top 51)) (FuncBody.stmts (L2.μ (Tw.top 51))) (L2.δ (Tw.top 51)) 0 [] .none .none .none .none none .none .none 0)) #[])
def l22:O:=λP=>(.mk (.type "code") none (.fields #[(.str "heap_look" 660),(.str "heap_look" 661),(.str "/claim/cut.py" 662),(.int 191 0),(.int 1 0),(.int 0 0),(.int 0 0),(.int 3 0),(.ref 356),(.bool .true),(.int 181 0),(.ref 357),.none,(.ref 358),(.ref 359),(.ref 360),(.int 665 0),(.int 191 0),(.str "/claim/cut.py" 666)]) #[])
def l23:O:=λP=>(.mk (.type "function") none (.func (FuncData.mk "heap_look" "heap_look" (L2.ν (Tw.top 51)) (FuncBody.stmts (L2.μ (Tw.top 51))) (L2.δ (Tw.top 51)) 3 [] .none .none .none (.str "thinwood.brackets" 603) none (.ref 361) .none 0)) #[])
def d44:List O:=h2 668 52 194 3 363 674 603 ["tables","look","at"] "height" "thinwood.brackets"
def d45:List O:=h2 677 53 196 2 370 682 603 ["number","within"] "place_of_bit" "thinwood.brackets"
def d46:List O:=h2 685 54 200 4 377 693 603 ["tables","look","at","goal","found"] "low_ahead" "thinwood.brackets"
def d47:List O:=h2 696 55 206 4 384 706 603 ["tables","look","upto","goal","number","found","further"] "last_low_upto" "thinwood.brackets"
def d48:List O:=h2 709 56 217 5 391 718 603 ["tables","look","number","upto","goal","stop"] "last_within" "thinwood.brackets"
def d49:List O:=h2 721 57 220 4 398 728 603 ["tables","look","at","bit"] "check_bracket" "thinwood.brackets"
def d50:List O:=h2 731 58 223 3 405 737 603 ["tables","look","at"] "opening" "thinwood.brackets"
def d51:List O:=h2 740 59 226 4 412 747 603 ["tables","look","at","pairs"] "further_out" "thinwood.brackets"
def d52:List O:=h2 754 62 233 1 419 760 750 ["depths","ahead","depth"] "check_depths" "thinwood.shapes"
def d53:List O:=h2 763 63 241 1 426 770 750 ["depths","bits","unclosed","depth"] "brackets_of" "thinwood.shapes"
def d54:List O:=h2 773 64 250 1 433 777 750 ["depths"] "kept_tree" "thinwood.shapes"
def d55:List O:=h2 784 67 254 1 440 789 780 ["signs","sign"] "check_signs" "thinwood.signs"
def d56:List O:=h2 792 68 260 1 447 801 780 ["signs","kinds","aheads","blocks","bits","row"] "kept_signs" "thinwood.signs"
def d57:List O:=h1 69 804 270 2 454 780 "ranks_among" "thinwood.signs"
def d58:List O:=h2 810 70 275 1 459 814 780 ["kind_count"] "level_count" "thinwood.signs"
def d59:List O:=h1 71 817 277 2 466 780 "level_rows" "thinwood.signs"
def d60:List O:=h1 72 823 285 2 471 780 "parted" "thinwood.signs"
def d61:List O:=h2 829 73 289 2 476 837 780 ["tables","look","levels","first","ahead"] "levels_of" "thinwood.signs"
def d62:List O:=h2 840 74 296 3 483 848 780 ["level","at","bit","row","look"] "place_below" "thinwood.signs"
def d63:List O:=h2 851 75 302 1 490 855 780 ["row"] "nought_count" "thinwood.signs"
def d64:List O:=h2 858 76 304 3 497 868 780 ["tables","look","at","rank","place","level","bit"] "sign_at" "thinwood.signs"
def d65:List O:=h2 873 78 314 1 504 877 871 ["tables"] "node_count" "thinwood.trees"
def d66:List O:=h2 880 79 316 2 511 885 871 ["tables","node"] "check_node" "thinwood.trees"
def d67:List O:=h2 888 80 319 3 518 894 871 ["tables","look","at"] "node_at" "thinwood.trees"
def d68:List O:=h2 897 81 323 3 525 903 871 ["tables","look","node"] "place_of" "thinwood.trees"
def d69:List O:=h2 906 82 326 3 532 912 871 ["tables","look","node"] "depth_of" "thinwood.trees"
def d70:List O:=h2 915 83 328 3 539 921 871 ["tables","look","node"] "elder_of" "thinwood.trees"
def d71:List O:=h2 924 84 330 4 546 932 871 ["tables","look","node","steps","at"] "up_of" "thinwood.trees"
def d72:List O:=h2 941 88 338 1 553 947 935 ["words","word","letter"] "check_words" "thinwood.stores"
def d73:List O:=h1 89 950 347 1 560 935 "beginnings_of" "thinwood.stores"
def d74:List O:=h1 90 956 352 1 565 935 "parts_of" "thinwood.stores"
def d75:List O:=h2 962 91 362 3 570 968 935 ["ahead","depth","letter"] "text_below" "thinwood.stores"
def d76:List O:=h2 971 92 364 1 577 979 935 ["words","parts","tree","letters","ends"] "kept_store" "thinwood.stores"
def d77:List O:=h2 982 93 370 1 584 986 935 ["tables"] "blocks_of_tree" "thinwood.stores"
def d78:List O:=h1 94 989 372 1 591 935 "blocks_of_letters" "thinwood.stores"
def d79:List O:=h2 995 95 374 3 596 1001 935 ["tables","look","node"] "letter_of" "thinwood.stores"
def d80:List O:=h2 1004 96 376 2 603 1009 935 ["tables","look"] "look_at_ends" "thinwood.stores"
def d81:List O:=h2 1012 97 378 3 610 1018 935 ["tables","look","node"] "is_end" "thinwood.stores"
def d82:List O:=h2 1021 98 380 3 617 1027 935 ["tables","look","nth"] "end_node" "thinwood.stores"
def d83:List O:=h2 1030 99 382 1 624 1034 935 ["tables"] "word_count" "thinwood.stores"
def d84:List O:=h2 1037 100 384 3 631 1046 935 ["tables","look","node","letters","up","step"] "text_of" "thinwood.stores"
def d85:List O:=h2 1049 101 391 3 638 1055 935 ["tables","look","nth"] "word_at" "thinwood.stores"
def d86:List O:=h2 1058 102 393 4 645 1069 935 ["tables","look","start","stop","first","text","words","node"] "words_in" "thinwood.stores"
def d87:List O:=h2 1074 104 406 1 652 1078 1072 ["_law_found"] "_law_whole" "law_thinwood_k75_words_by_number"
def d88:List O:=h2 1081 105 408 4 659 1091 1072 ["_law_number","_law_kinds","_law_first","_law_many","_law_word_here","_law_k","_law_at"] "_law_spelt" "law_thinwood_k75_words_by_number"
def d89:List O:=h2 1094 106 415 2 666 1103 1072 ["_law_cell","_law_words_here","_law_number","_law_way","_law_old","_law_at"] "_law_word" "law_thinwood_k75_words_by_number"
def d90:List O:=h2 1106 107 431 1 673 1114 1072 ["_law_script","_law_words_here","_law_room","_law_cell","_law_word_here"] "_law_words" "law_thinwood_k75_words_by_number"
def l24:O:=λP=>(.mk (.type "tuple") none (.seq #[(.str "_law_blocks" 1120),(.str "_law_seen" 1121),(.str "_law_told" 1122)] 0) #[])
def l25:O:=λP=>(.mk (.type "tuple") none (.seq #[(.str "_law_blocks" 1123),(.str "_law_seen" 1124)] 0) #[])
def l26:O:=λP=>(.mk .none none (.func (FuncData.mk "_law_look" "_law_look" (L2.ν (Tw.top 108)) (FuncBody.stmts (L2.μ (Tw.top 108))) (L2.δ (Tw.top 108)) 0 [] .none .none .none .none none .none .none 0)) #[])
def l27:O:=λP=>(.mk (.type "code") none (.fields #[(.str "_law_look" 1117),(.str "_law_look" 1118),(.str "/claim/cut.py" 1119),(.int 440 0),(.int 2 0),(.int 0 0),(.int 0 0),(.int 3 0),(.ref 680),(.bool .true),(.int 181 0),(.ref 681),.none,(.ref 682),(.ref 683),(.ref 684),(.int 1125 0),(.int 440 0),(.str "/claim/cut.py" 1126)]) #[])
def l28:O:=λP=>(.mk (.type "function") none (.func (FuncData.mk "_law_look" "_law_look" (L2.ν (Tw.top 108)) (FuncBody.stmts (L2.μ (Tw.top 108))) (L2.δ (Tw.top 108)) 3 [] .none .none .none (.str "law_thinwood_k75_words_by_number" 1072) none (.ref 685) .none 0)) #[])
def d92:List O:=h2 1128 109 448 2 687 1134 1072 ["_law_seen","_law_size","_law_number"] "_law_there" "law_thinwood_k75_words_by_number"
def d93:List O:=h2 1137 110 453 2 694 1144 1072 ["_law_found","_law_due","_law_one","_law_other"] "_law_texts_alike" "law_thinwood_k75_words_by_number"
def d94:List O:=h2 1147 111 460 4 701 1156 1072 ["_law_tables","_law_look_here","_law_start","_law_stop","_law_told_here","e"] "_law_refused" "law_thinwood_k75_words_by_number"
def d95:List O:=h1 112 1159 470 1 708 1072 "law" "law_thinwood_k75_words_by_number"
def f0:List O:=ap [PySem.W.boot_o_0,PySem.W.boot_o_1,PySem.W.boot_o_2,s0,PySem.W.boot_o_4,PySem.W.boot_o_5,PySem.W.boot_o_6,PySem.W.boot_o_7,PySem.W.boot_o_8,PySem.W.boot_o_9,PySem.W.boot_o_10,l0,s1,l1,l2,l3,l4,l5,l0,l6,l7,l8,l0,l9,l10,l11,l12,l13] (ap d1 (ap d2 (ap d3 (ap d4 (ap d5 (ap d6 (ap d7 (ap d8 (d9)))))))))
def f1:List O:=ap d10 (ap d11 (ap d12 (ap d13 (ap d14 (ap d15 (ap d16 (ap d17 (ap d18 ([l0,l6,l14,l15,l16,l17,l18])))))))))
def f2:List O:=ap d20 (ap d21 (ap d22 (ap d23 (ap d24 (ap d25 (ap d26 (ap d27 (ap d28 (d29)))))))))
def f3:List O:=ap d30 (ap d31 (ap d32 (ap d33 (ap d34 (ap d35 (ap d36 (ap d37 (ap d38 (d39)))))))))
def f4:List O:=ap d40 (ap d41 (ap d42 (ap [l0,l6,l19,l20,l21,l22,l23] (ap d44 (ap d45 (ap d46 (ap d47 (ap d48 (d49)))))))))
def f5:List O:=ap d50 (ap d51 (ap d52 (ap d53 (ap d54 (ap d55 (ap d56 (ap d57 (ap d58 (d59)))))))))
def f6:List O:=ap d60 (ap d61 (ap d62 (ap d63 (ap d64 (ap d65 (ap d66 (ap d67 (ap d68 (d69)))))))))
def f7:List O:=ap d70 (ap d71 (ap d72 (ap d73 (ap d74 (ap d75 (ap d76 (ap d77 (ap d78 (d79)))))))))
def f8:List O:=ap d80 (ap d81 (ap d82 (ap d83 (ap d84 (ap d85 (ap d86 (ap d87 (ap d88 (d89)))))))))
def f9:List O:=ap d90 (ap [l0,l6,l24,l25,l26,l27,l28] (ap d92 (ap d93 (ap d94 (d95)))))
def ff:List O:=ap f0 (ap f1 (ap f2 (ap f3 (ap f4 (ap f5 (ap f6 (ap f7 (ap f8 (f9)))))))))
def s2:O:=gd (Z "__name__" 165 (.str "thinwood.errors" 187)::tk gg 9) 10
def l29:O:=λP=>(.mk .none none (.fields #[(.int 2 0),(.int 0 0),(.ref 20)]) #[])
def l30:O:=λP=>(.mk (.type "type") none (.cls (.mk "WoodError" [(.type "ValueError")] [(.ref 24),(.type "ValueError"),(.type "Exception"),(.type "BaseException"),(.type "object")] 23 "WoodError" .true [] [] .false none .false)) #[(some (.ref 15)),none,(some (.str "WoodError" 189)),(some (.str "WoodError" 197)),(some (.builtin "ValueError.__new__")),(some (.bool .true))])
def S_tree_63:Params→PySem.W.BT:=λP=>bt 6 (mp (λx=>x P) (ov (tk ff 28) [((3),s2),((8),l29),(11,l30)]))
def s3:O:=gd (Z "__name__" 165 (.str "thinwood.errors" 187)::tk gg 10) 11
def s4:O:=tb (tk tt 2)
def l31:O:=λP=>(.mk (.type "type") none (.cls (.mk "WoodError" [(.type "ValueError")] [(.ref 24),(.type "ValueError"),(.type "Exception"),(.type "BaseException"),(.type "object")] 23 "WoodError" .true [] [(.ref 37)] .false none .false)) #[(some (.ref 15)),none,(some (.str "WoodError" 189)),(some (.str "WoodError" 197)),(some (.builtin "ValueError.__new__")),(some (.bool .true))])
def S_tree_78:Params→PySem.W.BT:=λP=>bt 7 (mp (λx=>x P) (ov (tk ff 40) [((3),s3),((8),s4),(11,l31)]))
def s5:O:=gd (Z "__name__" 165 (.str "thinwood.errors" 187)::tk gg 11) 12
def s6:O:=tb (tk tt 3)
def l32:O:=λP=>(.mk (.type "type") none (.cls (.mk "WoodError" [(.type "ValueError")] [(.ref 24),(.type "ValueError"),(.type "Exception"),(.type "BaseException"),(.type "object")] 23 "WoodError" .true [] [(.ref 37),(.ref 49)] .false none .false)) #[(some (.ref 15)),none,(some (.str "WoodError" 189)),(some (.str "WoodError" 197)),(some (.builtin "ValueError.__new__")),(some (.bool .true))])
def S_tree_93:Params→PySem.W.BT:=λP=>bt 7 (mp (λx=>x P) (ov (tk ff 52) [((3),s5),((8),s6),(11,l32)]))
def s7:O:=gd (Z "__name__" 165 (.str "thinwood.errors" 187)::tk gg 12) 13
def s8:O:=tb (tk tt 4)
def l33:O:=λP=>(.mk (.type "type") none (.cls (.mk "WoodError" [(.type "ValueError")] [(.ref 24),(.type "ValueError"),(.type "Exception"),(.type "BaseException"),(.type "object")] 23 "WoodError" .true [] [(.ref 37),(.ref 49),(.ref 61)] .false none .false)) #[(some (.ref 15)),none,(some (.str "WoodError" 189)),(some (.str "WoodError" 197)),(some (.builtin "ValueError.__new__")),(some (.bool .true))])
def S_tree_108:Params→PySem.W.BT:=λP=>bt 8 (mp (λx=>x P) (ov (tk ff 64) [((3),s7),((8),s8),(11,l33)]))
def s9:O:=gd (Z "__name__" 165 (.str "thinwood.errors" 187)::tk gg 13) 14
def s10:O:=tb (tk tt 5)
def l34:O:=λP=>(.mk (.type "type") none (.cls (.mk "WoodError" [(.type "ValueError")] [(.ref 24),(.type "ValueError"),(.type "Exception"),(.type "BaseException"),(.type "object")] 23 "WoodError" .true [] [(.ref 37),(.ref 49),(.ref 61),(.ref 73)] .false none .false)) #[(some (.ref 15)),none,(some (.str "WoodError" 189)),(some (.str "WoodError" 197)),(some (.builtin "ValueError.__new__")),(some (.bool .true))])
def S_tree_123:Params→PySem.W.BT:=λP=>bt 8 (mp (λx=>x P) (ov (tk ff 76) [((3),s9),((8),s10),(11,l34)]))
def s11:O:=gd (Z "__name__" 165 (.str "thinwood.errors" 187)::tk gg 14) 15
def s12:O:=tb (tk tt 6)
def l35:O:=λP=>(.mk (.type "type") none (.cls (.mk "WoodError" [(.type "ValueError")] [(.ref 24),(.type "ValueError"),(.type "Exception"),(.type "BaseException"),(.type "object")] 23 "WoodError" .true [] [(.ref 37),(.ref 49),(.ref 61),(.ref 73),(.ref 85)] .false none .false)) #[(some (.ref 15)),none,(some (.str "WoodError" 189)),(some (.str "WoodError" 197)),(some (.builtin "ValueError.__new__")),(some (.bool .true))])
def S_tree_138:Params→PySem.W.BT:=λP=>bt 8 (mp (λx=>x P) (ov (tk ff 88) [((3),s11),((8),s12),(11,l35)]))
def s13:O:=gd (Z "__name__" 165 (.str "thinwood.errors" 187)::tk gg 15) 16
def s14:O:=tb (tk tt 7)
def l36:O:=λP=>(.mk (.type "type") none (.cls (.mk "WoodError" [(.type "ValueError")] [(.ref 24),(.type "ValueError"),(.type "Exception"),(.type "BaseException"),(.type "object")] 23 "WoodError" .true [] [(.ref 37),(.ref 49),(.ref 61),(.ref 73),(.ref 85),(.ref 97)] .false none .false)) #[(some (.ref 15)),none,(some (.str "WoodError" 189)),(some (.str "WoodError" 197)),(some (.builtin "ValueError.__new__")),(some (.bool .true))])
def S_tree_153:Params→PySem.W.BT:=λP=>bt 8 (mp (λx=>x P) (ov (tk ff 100) [((3),s13),((8),s14),(11,l36)]))
def s15:O:=gd (Z "__name__" 165 (.str "thinwood.errors" 187)::tk gg 16) 17
def s16:O:=tb (tk tt 8)
def l37:O:=λP=>(.mk (.type "type") none (.cls (.mk "WoodError" [(.type "ValueError")] [(.ref 24),(.type "ValueError"),(.type "Exception"),(.type "BaseException"),(.type "object")] 23 "WoodError" .true [] [(.ref 37),(.ref 49),(.ref 61),(.ref 73),(.ref 85),(.ref 97),(.ref 109)] .false none .false)) #[(some (.ref 15)),none,(some (.str "WoodError" 189)),(some (.str "WoodError" 197)),(some (.builtin "ValueError.__new__")),(some (.bool .true))])
def S_tree_168:Params→PySem.W.BT:=λP=>bt 8 (mp (λx=>x P) (ov (tk ff 112) [((3),s15),((8),s16),(11,l37)]))
def s17:O:=gd (Z "__name__" 165 (.str "thinwood.blocks" 335)::tk gg 24) 25
def s18:O:=tb (tk tt 14)
def S_tree_214:Params→PySem.W.BT:=λP=>bt 9 (mp (λx=>x P) (ov (tk ff 155) [((3),s17),((8),s18)]))
def s19:O:=gd (Z "__name__" 165 (.str "thinwood.heaps" 439)::tk gg 36) 37
def s20:O:=tb (tk tt 25)
def S_tree_293:Params→PySem.W.BT:=λP=>bt 9 (mp (λx=>x P) (ov (tk ff 232) [((3),s19),((8),s20)]))
def s21:O:=gd (Z "__name__" 165 (.str "thinwood.brackets" 603)::tk gg 47) 48
def s22:O:=tb (tk tt 36)
def S_tree_372:Params→PySem.W.BT:=λP=>bt 10 (mp (λx=>x P) (ov (tk ff 309) [((3),s21),((8),s22)]))
def s23:O:=gd (Z "__name__" 165 (.str "thinwood.brackets" 603)::tk gg 60) 61
def s24:O:=tb (tk tt 49)
def S_tree_463:Params→PySem.W.BT:=λP=>bt 10 (mp (λx=>x P) (ov (tk ff 398) [((3),s23),((8),s24)]))
def s25:O:=gd (Z "__name__" 165 (.str "thinwood.signs" 780)::tk gg 74) 75
def s26:O:=tb (tk tt 61)
def S_tree_543:Params→PySem.W.BT:=λP=>bt 10 (mp (λx=>x P) (ov (tk ff 476) [((3),s25),((8),s26)]))
def s27:O:=gd (Z "__name__" 165 (.str "thinwood.stores" 935)::tk gg 87) 88
def s28:O:=tb (tk tt 72)
def S_tree_622:Params→PySem.W.BT:=λP=>bt 11 (mp (λx=>x P) (ov (tk ff 553) [((3),s27),((8),s28)]))
def s29:O:=gd (Z "__name__" 165 (.str "thinwood.stores" 935)::tk gg 100) 101
def s30:O:=tb (tk tt 85)
def S_tree_709:Params→PySem.W.BT:=λP=>bt 11 (mp (λx=>x P) (ov (tk ff 638) [((3),s29),((8),s30)]))
def S_tree_786:Params→PySem.W.BT:=λP=>bt 11 (mp (λx=>x P) (ff))
def S_heap_787:Params→Heap:=λP=>Heap.mk (Array.mk (mp (λx=>x P) (ff))) (.mk [] [] [] 0 [] [] .false #[] [] 0 .false .false .false 0 [2000,10,10] .false 0 .true [] [] 0 .false)
def S_sts_49:List Stmt:=tk (List.drop 0 PySem.Challenge.pw_thinwood_k75_words_by_number.main.body) 2
def S_sts_64:List Stmt:=tk (List.drop 2 PySem.Challenge.pw_thinwood_k75_words_by_number.main.body) 1
def S_sts_79:List Stmt:=tk (List.drop 3 PySem.Challenge.pw_thinwood_k75_words_by_number.main.body) 1
def S_sts_94:List Stmt:=tk (List.drop 4 PySem.Challenge.pw_thinwood_k75_words_by_number.main.body) 1
def S_sts_109:List Stmt:=tk (List.drop 5 PySem.Challenge.pw_thinwood_k75_words_by_number.main.body) 1
def S_sts_124:List Stmt:=tk (List.drop 6 PySem.Challenge.pw_thinwood_k75_words_by_number.main.body) 1
def S_sts_139:List Stmt:=tk (List.drop 7 PySem.Challenge.pw_thinwood_k75_words_by_number.main.body) 1
def S_sts_154:List Stmt:=tk (List.drop 8 PySem.Challenge.pw_thinwood_k75_words_by_number.main.body) 1
def S_sts_169:List Stmt:=tk (List.drop 9 PySem.Challenge.pw_thinwood_k75_words_by_number.main.body) 9
def S_sts_215:List Stmt:=tk (List.drop 18 PySem.Challenge.pw_thinwood_k75_words_by_number.main.body) 13
def S_sts_294:List Stmt:=tk (List.drop 31 PySem.Challenge.pw_thinwood_k75_words_by_number.main.body) 13
def S_sts_373:List Stmt:=tk (List.drop 44 PySem.Challenge.pw_thinwood_k75_words_by_number.main.body) 13
def S_sts_464:List Stmt:=tk (List.drop 57 PySem.Challenge.pw_thinwood_k75_words_by_number.main.body) 16
def S_sts_544:List Stmt:=tk (List.drop 73 PySem.Challenge.pw_thinwood_k75_words_by_number.main.body) 15
def S_sts_623:List Stmt:=tk (List.drop 88 PySem.Challenge.pw_thinwood_k75_words_by_number.main.body) 13
def S_sts_710:List Stmt:=tk (List.drop 101 PySem.Challenge.pw_thinwood_k75_words_by_number.main.body) 12
def S_view:Program:={ PySem.Challenge.pw_thinwood_k75_words_by_number with main:={ PySem.Challenge.pw_thinwood_k75_words_by_number.main with body:=mp Tw.top [1,2,3,4,5,6,7,8,9,11,12,13,14,15,16,17,18,19,20,21,22,23,25,26,27,28,29,30,31,32,34,35,36,37,38,39,40,41,42,44,45,46,47,48,49,50,51,52,53,54,55,56,57,58,59,61,62,63,64,66,67,68,69,70,71,72,73,74,75,76,78,79,80,81,82,83,84,86,87,88,89,90,91,92,93,94,95,96,97,98,99,100,101,102,104,105,106,107,108,109,110,111,112] } }
end
end Tp
theorem PySem.W.Fast.tw14598715356260435866:True:=trivial
noncomputable abbrev PySem.W.Fast.tw18005042219705657690:PySem.Program:=PySem.Challenge.pw_thinwood_k75_words_by_number
theorem PySem.W.Fast.te18005042219705657690:PySem.Challenge.pw_thinwood_k75_words_by_number = PySem.W.Fast.tw18005042219705657690:=rfl
lay_quick Tp.g0 Tp.g1 Tp.g2 Tp.g3 Tp.g4 Tp.g5 Tp.g6 Tp.g7 Tp.g8 Tp.g9 Tp.g10 Tp.g11 Tp.gg Tp.s0 Tp.l0 Tp.s1 Tp.l1 Tp.l2 Tp.l3 Tp.l4 Tp.l5 Tp.l6 Tp.l7 Tp.l8 Tp.l9 Tp.l10 Tp.l11 Tp.l12 Tp.l13 Tp.d1 Tp.d2 Tp.d3 Tp.d4 Tp.d5 Tp.d6 Tp.d7 Tp.d8 Tp.d9 Tp.d10 Tp.d11
lay_quick Tp.d12 Tp.d13 Tp.d14 Tp.d15 Tp.d16 Tp.d17 Tp.d18 Tp.l14 Tp.l15 Tp.l16 Tp.l17 Tp.l18 Tp.d20 Tp.d21 Tp.d22 Tp.d23 Tp.d24 Tp.d25 Tp.d26 Tp.d27 Tp.d28 Tp.d29 Tp.d30 Tp.d31 Tp.d32 Tp.d33 Tp.d34 Tp.d35 Tp.d36 Tp.d37 Tp.d38 Tp.d39 Tp.d40 Tp.d41 Tp.d42 Tp.l19 Tp.l20 Tp.l21 Tp.l22 Tp.l23
lay_quick Tp.d44 Tp.d45 Tp.d46 Tp.d47 Tp.d48 Tp.d49 Tp.d50 Tp.d51 Tp.d52 Tp.d53 Tp.d54 Tp.d55 Tp.d56 Tp.d57 Tp.d58 Tp.d59 Tp.d60 Tp.d61 Tp.d62 Tp.d63 Tp.d64 Tp.d65 Tp.d66 Tp.d67 Tp.d68 Tp.d69 Tp.d70 Tp.d71 Tp.d72 Tp.d73 Tp.d74 Tp.d75 Tp.d76 Tp.d77 Tp.d78 Tp.d79 Tp.d80 Tp.d81 Tp.d82 Tp.d83
lay_quick Tp.d84 Tp.d85 Tp.d86 Tp.d87 Tp.d88 Tp.d89 Tp.d90 Tp.l24 Tp.l25 Tp.l26 Tp.l27 Tp.l28 Tp.d92 Tp.d93 Tp.d94 Tp.d95 Tp.f0 Tp.f1 Tp.f2 Tp.f3 Tp.f4 Tp.f5 Tp.f6 Tp.f7 Tp.f8 Tp.f9 Tp.ff Tp.s2 Tp.l29 Tp.l30 Tp.S_tree_63 Tp.s3 Tp.s4 Tp.l31 Tp.S_tree_78 Tp.s5 Tp.s6 Tp.l32 Tp.S_tree_93 Tp.s7
lay_quick Tp.s8 Tp.l33 Tp.S_tree_108 Tp.s9 Tp.s10 Tp.l34 Tp.S_tree_123 Tp.s11 Tp.s12 Tp.l35 Tp.S_tree_138 Tp.s13 Tp.s14 Tp.l36 Tp.S_tree_153 Tp.s15 Tp.s16 Tp.l37 Tp.S_tree_168 Tp.s17 Tp.s18 Tp.S_tree_214 Tp.s19 Tp.s20 Tp.S_tree_293 Tp.s21 Tp.s22 Tp.S_tree_372 Tp.s23 Tp.s24 Tp.S_tree_463 Tp.s25 Tp.s26 Tp.S_tree_543 Tp.s27 Tp.s28 Tp.S_tree_622 Tp.s29 Tp.s30 Tp.S_tree_709
lay_quick Tp.S_tree_786 Tp.S_heap_787 Tp.S_sts_49 Tp.S_sts_64 Tp.S_sts_79 Tp.S_sts_94 Tp.S_sts_109 Tp.S_sts_124 Tp.S_sts_139 Tp.S_sts_154 Tp.S_sts_169 Tp.S_sts_215 Tp.S_sts_294 Tp.S_sts_373 Tp.S_sts_464 Tp.S_sts_544 Tp.S_sts_623 Tp.S_sts_710 Tp.S_view
namespace Tp
open PySem PySem.W.Fast
end Tp
namespace PySem.W.Fast
open PySem Tp
noncomputable section
abbrev tw3404420551574679738:Params→BT:=tw11432227658251013801
theorem te3404420551574679738:S_tree_63=tw3404420551574679738:=te11432227658251013801
abbrev tw711769936670732388:Params→BT:=tw16269510630359031336
theorem te711769936670732388:S_tree_78=tw711769936670732388:=te16269510630359031336
abbrev tw13948355962100082462:Params→BT:=tw5549918322004914887
theorem te13948355962100082462:S_tree_93=tw13948355962100082462:=te5549918322004914887
abbrev tw3971271454093507389:Params→BT:=tw10118726668083288838
theorem te3971271454093507389:S_tree_108=tw3971271454093507389:=te10118726668083288838
abbrev tw6382704766692804401:Params→BT:=tw244363406318419850
theorem te6382704766692804401:S_tree_123=tw6382704766692804401:=te244363406318419850
abbrev tw17288869002987157875:Params→BT:=tw12417361858070979987
theorem te17288869002987157875:S_tree_138=tw17288869002987157875:=te12417361858070979987
abbrev tw9315791135609745347:Params→BT:=tw863085786592867233
theorem te9315791135609745347:S_tree_153=tw9315791135609745347:=te863085786592867233
abbrev tw5390834367360675343:Params→BT:=tw12361961019411380784
theorem te5390834367360675343:S_tree_168=tw5390834367360675343:=te12361961019411380784
abbrev tw9636769781626754814:Params→BT:=tw15182629654053833429
theorem te9636769781626754814:S_tree_214=tw9636769781626754814:=te15182629654053833429
abbrev tw10087074254465836551:Params→BT:=tw12245342217616203890
theorem te10087074254465836551:S_tree_293=tw10087074254465836551:=te12245342217616203890
abbrev tw18145163535073334901:Params→BT:=tw3666341462131425558
theorem te18145163535073334901:S_tree_372=tw18145163535073334901:=te3666341462131425558
abbrev tw2924062394472794403:Params→BT:=tw2418749235743013393
theorem te2924062394472794403:S_tree_463=tw2924062394472794403:=te2418749235743013393
abbrev tw10521767700742190502:Params→BT:=tw13114960354746964194
theorem te10521767700742190502:S_tree_543=tw10521767700742190502:=te13114960354746964194
abbrev tw8636509987644961433:Params→BT:=tw2609577367129330242
theorem te8636509987644961433:S_tree_622=tw8636509987644961433:=te2609577367129330242
abbrev tw9312960272877976638:Params→BT:=tw16391930838256639100
theorem te9312960272877976638:S_tree_709=tw9312960272877976638:=te16391930838256639100
abbrev tw7053037000759661171:Params→BT:=tw13189851270684404222
theorem te7053037000759661171:S_tree_786=tw7053037000759661171:=te13189851270684404222
abbrev tw10667303629466047990:Params→Heap:=tw751670288431447724
theorem te10667303629466047990:S_heap_787=tw10667303629466047990:=te751670288431447724
abbrev tw15982854868446777380:List Stmt:=tw666750322614274432
theorem te15982854868446777380:S_sts_49=tw15982854868446777380:=te666750322614274432
abbrev tw10532659299181799285:List Stmt:=tw5768192320520425421
theorem te10532659299181799285:S_sts_64=tw10532659299181799285:=te5768192320520425421
abbrev tw16185068864023688118:List Stmt:=tw16161987442105222805
theorem te16185068864023688118:S_sts_79=tw16185068864023688118:=te16161987442105222805
abbrev tw12216104051588811836:List Stmt:=tw11682420065776883047
theorem te12216104051588811836:S_sts_94=tw12216104051588811836:=te11682420065776883047
abbrev tw2718144216268145512:List Stmt:=tw5728941507444464575
theorem te2718144216268145512:S_sts_109=tw2718144216268145512:=te5728941507444464575
abbrev tw13145681825833727631:List Stmt:=tw3506674074365841151
theorem te13145681825833727631:S_sts_124=tw13145681825833727631:=te3506674074365841151
abbrev tw15982006374549659614:List Stmt:=tw11501099722331979331
theorem te15982006374549659614:S_sts_139=tw15982006374549659614:=te11501099722331979331
abbrev tw13629827569418125182:List Stmt:=tw13451323129798551695
theorem te13629827569418125182:S_sts_154=tw13629827569418125182:=te13451323129798551695
abbrev tw10871452188868701694:List Stmt:=tw8446481660639318910
theorem te10871452188868701694:S_sts_169=tw10871452188868701694:=te8446481660639318910
abbrev tw3565422064126328429:List Stmt:=tw15213887431938716785
theorem te3565422064126328429:S_sts_215=tw3565422064126328429:=te15213887431938716785
abbrev tw5964769612761005341:List Stmt:=tw1349057676744220601
theorem te5964769612761005341:S_sts_294=tw5964769612761005341:=te1349057676744220601
abbrev tw10375862948450802275:List Stmt:=tw2360824560619862890
theorem te10375862948450802275:S_sts_373=tw10375862948450802275:=te2360824560619862890
abbrev tw5772841506710486443:List Stmt:=tw13526298096046685889
theorem te5772841506710486443:S_sts_464=tw5772841506710486443:=te13526298096046685889
abbrev tw13650256881516447288:List Stmt:=tw9524706262802827144
theorem te13650256881516447288:S_sts_544=tw13650256881516447288:=te9524706262802827144
abbrev tw210678145715338360:List Stmt:=tw1978453874161514108
theorem te210678145715338360:S_sts_623=tw210678145715338360:=te1978453874161514108
abbrev tw2820735548640829207:List Stmt:=tw7111635293316734744
theorem te2820735548640829207:S_sts_710=tw2820735548640829207:=te7111635293316734744
abbrev tw11923685611732291872:Program:=tw11325136443342628617
theorem te11923685611732291872:S_view=tw11923685611732291872:=te11325136443342628617
theorem te1721734728330652773:True:=trivial
end
end PySem.W.Fast
open PySem PySem.W PyProof.Rows
set_option maxRecDepth 100000 in
set_option maxHeartbeats 0 in
theorem PySem.Challenge.cw_thinwood_k75_words_by_number_holds : PySem.Challenge.rw_thinwood_k75_words_by_number.Holds := by
 w_on;o_law;k_head;(case hw=>w_witness2)
 k_fill
 refine L2.J6 (l:=PySem.Challenge.rw_thinwood_k75_words_by_number) (n:=63) (k:=15) (x := "_law_script") rfl (by decide) rfl ⟨rfl,by decide,by decide⟩ (λw h Y=>PySem.W.km_in_of Y) ?F
 case F=>
  intro w mg mb mean fa h KX TT hmg
  refine' Tw.QW KX TT hmg ?d0 ?d1 ?d2 ?d3 ?d4 ?d5 ?d6 ?d7 ?d8 ?d9 ?a10 ?l10 ?c10 ?k10 ?abx ?aby ?Yp ?d11 ?d12 ?d13 ?d14 ?d15 ?d16 ?d17 ?d18 ?d19 ?d20 ?d21 ?d22 ?d23 ?d24 ?d25 ?d26 ?d27 ?d28 ?d29 ?d30 ?d31 ?d32 ?d33 ?a34 ?l34 ?c34 ?k34 ?abz ?abA ?Yq ?d35 ?d36 ?d37 ?d38 ?d39 ?d40 ?d41 ?d42 ?d43 ?d44 ?d45 ?d46 ?d47 ?d48 ?d49 ?d50 ?d51 ?d52 ?d53 ?d54 ?d55 ?d56 ?d57 ?d58 ?d59 ?d60 ?d61 ?d62 ?d63 ?d64 ?d65 ?d66 ?d67 ?d68 ?d69 ?d70 ?d71 ?d72 ?d73 ?d74 ?d75 ?d76 ?d77 ?d78 ?d79 ?d80 ?d81 ?Zt ?Zu ?c82 ?k82 ?aca ?acb ?Yr ?d83 ?d84 ?d85 ?d86 ?af2 ?acd ?agc ?abB ?agd ?af3 ?age ?afC ?ac0 ?agf ?aeZ ?agg ?agh ?afD ?agi ?abC ?aeo ?ace ?aaQ ?abD ?aaR ?abE ?Zv ?Zw ?ae0 ?acf ?aep ?aeq ?ac1 ?ac2 ?ac3 ?ac4 ?ac5 ?ac6 ?ac7 ?Y6 ?Y7 ?Y8 ?Y9 ?Za ?ac8 ?ac9 ?acg ?ach ?aci ?acj ?ack ?acl ?acn ?Yc ?Yd ?Ye ?Yg ?Zc ?nt ?aaq ?aau ?aav
  (case d0|d1|d2|d3|d4|d5|d6|d7|d8|d9|d11|d12|d13|d14|d15|d16|d17|d18|d19|d20|d21|d22|d23|d24|d25|d26|d27|d28|d29|d30|d31|d32|d33|d35|d36|d37|d38|d39|d40|d41|d42|d43|d44|d45|d46|d47|d48|d49|d50|d51|d52|d53|d54|d55|d56|d57|d58|d59|d60|d61|d62|d63|d64|d65|d66|d67|d68|d69|d70|d71|d72|d73|d74|d75|d76|d77|d78|d79|d80|d81|d83|d84|d85|d86=>exact⟨by k_is,L2.yR (by k_is) (by k_is) (by k_is)⟩);(case a10=>k_is);(case l10=>k_is);(case c10=>k_is);(case k10=>k_is);(case abx=>k_is);(case aby=>rfl);(case Yp=>exact⟨_,rfl⟩);(case a34=>k_is);(case l34=>k_is);(case c34=>k_is);(case k34=>k_is);(case abz=>k_is);(case abA=>rfl);(case Yq=>exact⟨_,rfl⟩);(case Zt=>k_is);(case Zu=>k_is);(case c82=>k_is);(case k82=>k_is);(case aca=>k_is);(case acb=>rfl);(case Yr=>exact⟨_,rfl⟩);(case af2=>k_is);(case acd=>k_is);(case agc=>k_is);(case abB=>k_is);(case agd=>k_is);(case af3=>k_is);(case age=>k_is);(case afC=>k_is);(case ac0=>k_is);(case agf=>k_is);(case aeZ=>k_is);(case agg=>k_is);(case agh=>k_is);(case afD=>k_is);(case agi=>k_is);(case abC=>k_is);(case aeo=>k_is);(case ace=>k_is);(case aaQ=>k_is);(case abD=>k_is);(case aaR=>k_is);(case abE=>k_is);(case Zv=>k_is);(case Zw=>k_is);(case ae0=>k_is);(case acf=>k_is);(case aep=>k_exc);(case aeq=>k_is);(case ac1=>k_is);(case ac2=>k_is);(case ac3=>k_is);(case ac4=>k_is);(case ac5=>k_is);(case ac6=>k_is);(case ac7=>k_is);(case Y6=>kit_is);(case Y7=>kit_is);(case Y8=>kit_is);(case Y9=>kit_is);(case Za=>kit_is);(case ac8=>k_exc);(case ac9=>k_is);(case acg=>k_is);(case ach=>k_is);(case aci=>k_is);(case acj=>k_is);(case ack=>k_is);(case acl=>k_is);(case acn=>k_is);(case Yc=>kit_is);(case Yd=>kit_is);(case Ye=>kit_is);(case Yg=>kit_is);(case Zc=>kit_is);(case nt=>kernel_rfl);(case aaq=>decide);(case aau=>decide);(case aav=>decide)
