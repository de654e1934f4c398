import PyProof.Rows.All
import Wide.All
import OpenK.AllK
import Wide.FinOn
import Lean
import PyProof.EqAt
import PyProof.EqKinds
import PyProof.TupleCall
import PySem.Challenge.RW_thinwood_k89_whole_octets
set_option Elab.async false
set_option linter.all false
set_option maxRecDepth 100000
set_option maxHeartbeats 4000000
theorem bc0{p:Prop}(h:¬p->False):p:=Classical.byContradiction h
local macro_rules
 | `(tactic| obtain $p:rcasesPatMed:=$e:term)=>`(tactic| (refine _root_.bc0 λhG=>?_;rcases $e:term with $p:rcasesPatMed <;> (refine hG ?_;clear hG)))
local macro_rules
 | `(tactic| rintro $ps:rintroPat*)=>do
  let n:=ps.size
  let l:=(ps.getD (n-1) ⟨.missing⟩).raw[0]
  if l.getKind != `Lean.Parser.Tactic.rcasesPat.tuple then Lean.Macro.throwUnsupported
  let q:Lean.TSyntax `rcasesPat:=⟨l⟩
  let arr:=(ps.extract 0 (n-1)).push (<- `(rintroPat| z))
  `(tactic| (rintro $arr*;refine _root_.bc0 λhG=>?_;rcases z with $q:rcasesPat <;> (refine hG ?_;clear hG)))
open List renaming length_map->aaa,getElem?_eq_getElem->aab,length_append->aac,getElem?_eq_some_iff->aad,map_append->aag,mem_cons_of_mem->aai,take_of_length_le->aaj,getElem?_map->aak,mem_cons_self->aal,mem_singleton->aan,length_cons->aao,replicate->aap,length_take->aaq,mem_append_right->aau,mem_cons->aav,mem_of_getElem?->aaw,map_cons->aax,getElem?_eq_none->aaC,mem_append->aaG,length_drop->aaM,getD_eq_getElem?_getD->aaN,mem_map->afs,getElem?_append_left->af4,append_assoc->af5,size_toArray->af6,take_add_one->af7,length_range->af8,getElem?_take_of_lt->af9,range->aga,length_replicate->agb,getElem?_append_right->agd,getElem_mem->age,pairwise_iff_getElem->agf,take_length->agi,mem_append_left->agj,drop_of_length_le->agk,range_succ->agl,getElem?_drop->agm,ext_getElem?->agn,mem_of_mem_drop->ago,append_nil->agr,mem_of_mem_take->agt,length_singleton->agu,drop_eq_getElem_cons->agv,drop_drop->agw,replicate_succ->agz,map_map->agC,mem_singleton_self->agD,getElem?_set_ne->agE,pairwise_append->agF,getElem?_set_self->agG,Perm->agH,getElem?_range->agI,take_append_drop->agJ,mem_range->agK,drop_zero->agL,cons_append->agM,getElem?_of_mem->agO,filter_cons->agQ,map_congr_left->agR,getElem_of_mem->agS,length_filter_le->agT,nodup_cons->agU,not_mem_nil->agV,flatten_cons->agW,flatMap_cons->agX,extract_eq_drop_take->agZ,cons_lt_cons_iff->ag2,eq_of_mem_replicate->ag5,filter_append->ag7,length_erase_of_mem->ag8,take_append_of_le_length->ahc,dropLast_concat_getLast->ahd,filterMap_cons->ahf,of_mem_zip->ahg,sum_append->ahh,take_succ_cons->ahi,flatMap_append->ahk,pairwise_cons->aho,take_take->ahq,mem_erase_of_ne->ahs,getElem_drop->ahv,drop_left'->ahx,getElem?_replicate->ahz,map_drop->ahA,getElem?_cons_succ->ahC,sum_cons->ahD,reverse_append->ahF,take_zero->ahI,length_pos_of_mem->ahJ,mem_filterMap->ahL,mem_filter->ahM,length_set->ahN,nil_append->ahO,find?_cons->ahP,length_zip->ahQ,idxOf_lt_length_of_mem->ahS,getElem_take->ahT,mem_flatMap->ahW,drop_append->ahX,length->ahY,length_eq_zero_iff->ah2,zip_cons_cons->ah3,filter_cons_of_pos->ah4,filter_cons_of_neg->ah5,take_succ->ah8,map_nil->ah9,pairwise_reverse->aib,drop_length->aif,eq_nil_of_length_eq_zero->aig,mem_reverse->aih,nil_lt_cons->aii,take_nil->aik,mem_map_of_mem->ain,toList_toArray->aio,length_eraseIdx_of_lt->ais,zip->aiw,mem_or_eq_of_mem_set->aiz,getElem?_eq_none_iff->aiA,getElem?_zip_eq_some->aiB,reverse_perm->aiD,any_cons->aiG,take_append->aiI,pairwise_lt_range->aiJ,length_nil->aiL,getElem?_toArray->aiN,Perm.append_left->aiO,perm_append_comm->aiP,not_lt_nil->aiS,dropLast_eq_take->aiT,reverse_reverse->aiV,getLastD_concat->aiW,lt_irrefl->aiX,drop_succ_cons->aiZ,flatten_append->ai0,filter_sublist->ai2,getElem_idxOf->ai5,map_inj_right->ai6,take_sublist->ai7,reverse_cons->ai8,pairwise_map->ajc,nodup_append->ajd,sum_nil->ajh,all_eq_true->ajj,map_fst_zip->ajl,le_antisymm->ajm,foldl_cons->ajn,Perm.trans->ajo,not_lt->ajp,filter_map->ajs,drop_take->ajv,Perm.refl->ajw,tail_cons->ajx,foldl->ajy,map_take->ajA,take_add->ajB,lt_trans->ajE,map->ajF,drop_one->ajH,lookup->ajQ
open Nat renaming le_refl->aae,lt_of_lt_of_le->aas,ne_of_lt->aaA,zero_le->af3,lt_or_ge->agc,min_eq_left->ags,le_trans->agx,lt_irrefl->agB,add_sub_cancel_left->agN,le_of_lt->ag0,lt_of_le_of_lt->ag4,eq_zero_or_pos->ag6,min_eq_right->aha,lt_succ_self->ahb,le_add_right->ahn,mul_succ->ahp,not_lt_zero->aht,lt_succ_of_lt->ahu,sub_self->ahy,le_succ->ahE,add_le_add_left->ahG,mul_le_mul->ahU,add_comm->ah0,lt_trichotomy->ah7,sub_zero->aia,zero_add->aic,le_total->aid,ne_of_gt->ait,succ_mul->aiu,le_of_eq->aiv,lt_succ_iff_lt_or_eq->aiF,lt_trans->aiM,pow_le_pow_right->aiU,mul_le_mul_left->ai1,pow_right_inj->ajg,two_pow_pos->ajr,pow_succ->ajM,zero_mul->ajN,mul_zero->ajO,mod_lt->ajT
open Array renaming length_toList->aaf,getElem_mem_toList->agg,getElem?_toList->agh,toList_append->agq,getElem_toList->agy,toList_push->agY,getElem?_eq_some_iff->ahl,perm_iff_toList_perm->ahm,toList_extract->ahr,getElem?_setIfInBounds_ne->ahw,append_assoc->ahK,toList_reverse->aij,size_setIfInBounds->aiE,getElem_extract->aiQ,Perm.refl->aiR,toList_modify->aiY,size_extract->ai4,getD->ajb,toList->ajI
open Option renaming some.inj->aat,map_eq_some_iff->agp,map_some->ag1,getD_some->ahH,isSome_iff_exists->aiC,toList_some->ai3,isSome_map->aja,some.injEq->aje,getD_none->ajk,none->ajP
open Int renaming toNat_natCast->aaz,emod_lt_of_pos->ag9,pow_succ->ahe,emod_nonneg->ahj,ediv_ediv_of_nonneg->ahB,emod_add_mul_ediv->ahR,ediv_one->ahZ,pow_zero->aie,mul_assoc->ail,le_refl->aip,toNat_of_nonneg->aiq,fdiv_eq_ediv_of_nonneg->air,mul_comm->aix,zero_add->aiy,emod_eq_of_lt->ajf,sub_self->aji,pow_pos->ajq,lt_or_le->ajJ,mul_add->ajR
open Bool renaming false_ne_true->aaT,false_eq_true->agP,and_eq_true->ahV,not_eq_true'->ah6,eq_iff_iff->aim,true_and->aiH,or_eq_true->aiK,eq_false_iff->ai9,false_and->ajt,not_false->aju,or_false->ajz,false_or->ajC,not_true->ajD,and_self->ajG,true_or->ajK,not_not->ajL
open Ne renaming symm->agA
open Or renaming inl->ag3,inr->ah1
open Prod renaming ext->ajS
def dgt(x:Lean.Term):Lean.MacroM (Array Lean.Term):=match x.raw.isNatLit? with
 |some 7=>return #[<-`(rfl)]
 |some 9=>return #[<-`(_),<-`(rfl)]
 |some 6=>return #[<-`(by lia)]
 |some 4=>return #[<-`(by decide)]
 |some 5=>return #[<-`(_),<-`(_),<-`(rfl),<-`(rfl)]
 |some 2=>return #[<-`(?_)]
 |some 1=>return #[<-`(_),<-`(_)]
 |some 8=>return #[<-`(_),<-`(rfl),<-`(_),<-`(rfl)]
 |some 3=>return #[<-`(none)]
 |_=>return #[x]
local macro_rules
 |`(tactic|exists $es,*)=>do
  let l<-es.getElems.flatMapM dgt
  `(tactic|refine ⟨$l,*, ?_⟩)
open Prod renaming mk->pq
local macro_rules
 |`(($a,$b,*))=>do
  let l<-(#[a]++b.getElems).flatMapM dgt
  `(⟨$l,*⟩)
local macro_rules
 |`(⋯)=>`((by lia))
local macro_rules
 |`(∅)=>`((by decide))
local macro_rules
 |`(!!$x:ident)=>`(($x).map $(Lean.mkIdent `V.int))
 |`(!!!$x:ident)=>`(some (.ref $x))
 |`(!!!!$x:ident)=>`(some (.int $x))
local macro_rules
 |`(‹$x›)=>`(($x).map $(Lean.mkIdent `V.int))
namespace L2
open PySem PySem.Spec PyProof.Rows
theorem sl0:0<=sizeLine:=by decide
theorem sl1:1<=sizeLine:=by decide
theorem sl2:2<=sizeLine:=by decide
theorem sl3:3<=sizeLine:=by decide
variable{s s0:Shared}{A:Around}{E:Value->Shared->Prop}{prog:Program}{π:List (Addr×Obj)}{K:PySem.W.Frag}{base h' h:Heap}{e tg o b:Expr}{a f C S dx:Addr}{mg:Str->Option Value}{outer:List Env}{scope:Scope}{es:List Expr}{x qual:Str}{N ps:List Str}{p apos:Pos}{cd:Value}{fd:FuncData}{n z:Nat}{c T:List Int}{d:Array Keyed}{g:Int}{i:List Addr}{j:List Value}{l:List (Str×Addr)}{r:List (Str×Nat)}{u:World}{y:Array Value}{B:Value->Addr->Result->Shared->Prop}{D:SortSt}{G:Type}{I:SetTable}{J:Option Value->Shared->Prop}{L:List (Int×Value)}{O:Option Nat->SortSt->Prop}{Q:Obj}{R:Value->Value->Sem Value}{Z:Array (Int×Value)}
abbrev Key:=Sum Int Str
def yP:Key->Value->Bool
 |.inl k,v=>Value.isInt k v
 |.inr x,v=>Value.isStrOf x v
def Wf(w:World):Key->Int
 |.inl k=>hashInt k
 |.inr x=>hashStr w x
theorem cL:∀{k:Key}{v:Value},yP k v=true->(∃i t,k=Sum.inl i/\v=Value.int i t)\/(∃x t,k=Sum.inr x/\v=Value.str x t)
 |.inl i,v,h=>by
  obtain⟨t,e⟩:=Value.isInt_shape (k:=i) (v:=v) h;exact .inl (i,t,7,e)
 |.inr x,v,h=>by
  obtain⟨t,e⟩:=Value.isStrOf_shape (x:=x) (v:=v) h;exact .inr (x,t,7,e)
theorem Ld(i:Int)(t:Tok):yP (.inl i) (.int i t)=true:=by simp[yP,Value.isInt]
theorem JV(x:Str)(t:Tok):yP (.inr x) (.str x t)=true:=by simp[yP,Value.isStrOf]
theorem Sw(a b:Int):decide ((Sum.inl a:Key)=Sum.inl b)=(a==b):=by
 by_cases e:a=b
 ·subst e;simp
 ·have h:¬(Sum.inl a:Key)=Sum.inl b:=λq=>e (Sum.inl.inj q);rw[decide_eq_false h];exact(beq_eq_false_iff_ne.mpr e).symm
theorem TJ(a b:Str):decide ((Sum.inr a:Key)=Sum.inr b)=decide (a=b):=by
 by_cases e:a=b
 ·subst e;simp
 ·have h:¬(Sum.inr a:Key)=Sum.inr b:=λq=>e (Sum.inr.inj q);rw[decide_eq_false h,decide_eq_false e]
theorem Ur(a:Int)(b:Str):decide ((Sum.inl a:Key)=Sum.inr b)=false:=decide_eq_false (λq=>nomatch q)
theorem T3(a:Str)(b:Int):decide ((Sum.inr a:Key)=Sum.inl b)=false:=decide_eq_false (λq=>nomatch q)
def cY(prog:Program)(w:World):PySem.KeyKind prog w Key where
 is:=yP
 hash:=Wf w
 inj:=λv a b l f=>by
  rcases cL l with ⟨i,t,rfl,rfl⟩|⟨x,t,rfl,rfl⟩
  ·rcases cL f with ⟨j,u,rfl,e⟩|⟨y,u,rfl,e⟩
   ·injection e with c _;rw[c]
   ·exact nomatch e
  ·rcases cL f with ⟨j,u,rfl,e⟩|⟨y,u,rfl,e⟩
   ·exact nomatch e
   ·injection e with c _;rw[c]
 byValue:=λk v h=>by
  rcases cL h with ⟨i,t,rfl,rfl⟩|⟨x,t,rfl,rfl⟩<;>rfl
 pyHash:=λd h=>by
  rcases cL d with ⟨i,t,rfl,rfl⟩|⟨x,t,rfl,rfl⟩
  ·exact wpAny_pyHash_int h
  ·exact wpAny_pyHash_str h
 eqBool:=λg d h=>by
  rcases cL g with ⟨i,t,rfl,rfl⟩|⟨x,t,rfl,rfl⟩
  ·rcases cL d with ⟨j,u,rfl,rfl⟩|⟨y,u,rfl,rfl⟩
   ·rw[Sw]at h;exact wpAny_eqBool_int h
   ·rw[Ur]at h;exact SeqAt.EqAt.int_str i t y u _ _ _ _ h
  ·rcases cL d with ⟨j,u,rfl,rfl⟩|⟨y,u,rfl,rfl⟩
   ·rw[T3]at h;exact SeqAt.EqAt.str_int x t j u _ _ _ _ h
   ·rw[TJ]at h;exact wpAny_eqBool_str h
 «strs»:=λk x t v h=>by
  rcases cL h with ⟨i,u,rfl,e⟩|⟨y,u,rfl,e⟩
  ·exact nomatch e
  ·injection e with c _
   subst c;cases v<;>rfl
theorem Dg(prog:Program)(w:World)(i:Int)(t:Tok):(cY prog w).is (.inl i) (.int i t)=true:=Ld i t
theorem Bt(prog:Program)(w:World)(x:Str)(t:Tok):(cY prog w).is (.inr x) (.str x t)=true:=JV x t
inductive V where
 | non|bl (b:Bool) | int (i:Int) | str (x:Str) | Yk (b:Array UInt8) | flt (b:UInt64) | ref (a:Addr) | ty (n:String)
 deriving DecidableEq
def RelV:V->Value->Prop
 |.non,u=>u=Value.none
 |.bl b,u=>u=Value.bool b
 |.int i,u=>∃t,u=Value.int i t
 |.str x,u=>∃t,u=Value.str x t
 |.Yk b,u=>∃t,u=Value.bytes b t
 |.flt b,u=>∃t,u=Value.float b t
 |.ref a,u=>u=Value.ref a
 |.ty n,u=>u=Value.type n
abbrev Vals:List V->List Value->Prop:=Paired RelV
theorem Vals.length{xs:List V}{a:List Value}(r:Vals xs a):xs.length=a.length:=Paired.length r
theorem Vals.get:∀{xs:List V}{a:List Value}{i:Nat}{x:V},Vals xs a->xs[i]?=some x -> ∃u,a[i]?=some u/\RelV x u
 |_,_,_,_,.nil,e=>by simp at e
 |_,_,0,_,.cons r _,e=>by simp at e;subst e;exact(9,r)
 |_,_,i+1,x,.cons _ t,e=>by
  obtain⟨u,c,b⟩:=Vals.get (i:=i) (x:=x) t (by simpa using e);exact(u,by simpa using c,b)
theorem Vals.set{x:V}{u:Value}(r:RelV x u):∀{xs:List V}{a:List Value} (i:Nat),Vals xs a->Vals (xs.set i x) (a.set i u)
 |_,_,_,.nil=>.nil
 |_,_,0,.cons _ t=>.cons r t
 |_,_,i+1,.cons q t=>.cons q (Vals.set r i t)
theorem Vals.append:∀{xs ys:List V}{a ws:List Value},Vals xs a->Vals ys ws->Vals (xs++ys) (a++ws)
 |_,_,_,_,.nil,s=>s
 |_,_,_,_,.cons r t,s=>.cons r (Vals.append t s)
theorem Vals.take:∀{xs:List V}{a:List Value} (n:Nat),Vals xs a->Vals (xs.take n) (a.take n)
 |_,_,0,_=>.nil
 |_,_,_+1,.nil=>.nil
 |_,_,n+1,.cons r t=>.cons r (Vals.take n t)
theorem Vals.drop:∀{xs:List V}{a:List Value} (n:Nat),Vals xs a->Vals (xs.drop n) (a.drop n)
 |_,_,0,r=>r
 |_,_,_+1,.nil=>.nil
 |_,_,n+1,.cons _ t=>Vals.drop n t
def vq:Option V->Option Value->Prop
 |some v,some u=>RelV v u
 |none,none=>True
 |_,_=>False
def KV{κ:Type}:List (κ×V)->List (κ×Value)->Prop:=Paired λ(p:κ×V) (q:κ×Value)=>p.1=q.1/\RelV p.2 q.2
def kV:Key->V
 |.inl i=>.int i
 |.inr x=>.str x
inductive HO where
  | lst (xs:List V)
  | tup (xs:List V)
  | dK (kvs:List (Key×V)) | dT (kvs:List (List Key×V))
  | set (S:Int->Bool) (n:Nat)
  | ins (C dx:Addr) (fs:List (Str×V))
  | own (x:Addr)
  | xd (fs:List (Str×V))
  | met (f x:Addr)
  | rng (lo hi:Int)
  | Xn (o:Obj) (u:HO)
  | WW (ps:Array Value)
  | ext (φ:Heap->Prop)
abbrev Hp:=Addr->Option HO
def upd(H:Hp)(a:Addr)(o:HO):Hp:=λb=>if b=a then some o else H b
theorem aa{H:Hp}{a:Addr}{o:HO}:upd H a o a=some o:=by unfold upd;rw[if_pos rfl]
theorem aJ{H:Hp}{a b:Addr}{o:HO}(h:b≠a):upd H a o b=H b:=by unfold upd;rw[if_neg h]
theorem jq{H:Hp}{a:Addr}{o u:HO}:upd (upd H a o) a u=upd H a u:=by
 funext b;unfold upd;split<;>rfl
theorem Vw{H:Hp}{a b:Addr}{o u:HO}(h:H a=some o)(h':H b=some u)(d:o≠u):a≠b:=by
 intro e;subst e;rw[h]at h';exact d (aat h')
theorem aH{H:Hp}{a b:Addr}{o:HO}(h:H a=some o)(h':H b=none):a≠b:=by
 intro e;subst e;rw[h]at h';cases h'
section
variable(P:Program)(w:World)
def bN(H:Hp)(h:Heap)(a:Addr):HO->Prop
 |.lst d=>d.length<=sizeLine /\ ∃(c:List Value) (n:Nat),Vals d c/\h.get? a=some {cls:=.type "list",data:=.seq c.toArray n}
 |.tup d=>d.length<=sizeLine /\ ∃c:List Value,Vals d c/\IsTup h a c.toArray
 |.dK b=>b.length<=sizeLine/\(a==sysModules)=false /\ ∃k,KV b k/\h.DictOf (cY P w) a k
 |.dT b=>b.length<=sizeLine/\(a==sysModules)=false /\ ∃d:List (List Key×Addr×Value),
   Paired (λ(p:List Key×V) (q:List Key×Addr×Value)=>p.1=q.1/\H q.2.1=some (.tup (p.1.map kV))/\RelV p.2 q.2.2) b d /\
   ∃o r A,h.get? a=some o/\o.ExactDict/\o.data=.dict r A/\r.toList=d.map (entryOfKey (tupleKind (cY P w)))/\(d.map (·.1)).Nodup
 |.set S n=>h.SetOf (intKind P w) a S n
 |.ins C i g=>H i=some (.own a)/\g.length<=1000/\i≠a/\h.get? a=some (PySem.W.instObj C i) /\
   ∃e,h.Ns1 i e/\(∀f,vq (g.lookup f) (e f))/\PySem.Within e (g.map (·.1))
 |.own _=>∃o,h.get? a=some o
 |.xd g=>∃e,h.Ns1 a e /\ ∀f,vq (g.lookup f) (e f)
 |.rng y z=>∃t u v,h.get? a=some {cls:=.type "range",data:=.fields #[.int y t,.int z u,.int 1 v]}
 |.Xn o u=>h.get? a=some o/\bN H h a u
 |.WW s=>h.get? a=some {cls:=.none,data:=.fields s}
 |.met f x=>h.get? a=some (PySem.W.methodObj (.ref f) (.ref x))
 |.ext j=>j h/\(∃o,h.get? a=some o) /\ ∀m l:Heap,j m->(∀o,m.get? a=some o->l.get? a=some o)->j l
def WK(H:Hp)(h:Heap):Prop:=∀a o,H a=some o->bN P w H h a o
end
section
variable{P:Program}{w:World}{H H':Hp}{o:HO}
theorem bN.lt(x:bN P w H h a o):a<h.objs.size:=by
 cases o with
 |lst c=>obtain⟨_,_,_,_,e⟩:=x;exact Heap.lt_size e
 |tup c=>obtain⟨_,_,_,p⟩:=x;exact p.lt
 |dK b=>obtain⟨_,_,_,_,o,_,_,e,_⟩:=x;exact Heap.lt_size e
 |dT b=>obtain⟨_,_,_,_,o,_,_,e,_⟩:=x;exact Heap.lt_size e
 |set S n=>obtain⟨o,_,_,_,e,_⟩:=x;exact Heap.lt_size e
 |ins C m d=>obtain⟨_,_,_,e,_⟩:=x;exact Heap.lt_size e
 |own y=>obtain⟨_,e⟩:=x;exact Heap.lt_size e
 |xd d=>obtain⟨_,⟨_,_,_,e,_⟩,_⟩:=x;exact Heap.lt_size e
 |rng k l=>obtain⟨_,_,_,e⟩:=x;exact Heap.lt_size e
 |Xn j u=>obtain⟨e,_⟩:=x;exact Heap.lt_size e
 |WW i=>exact Heap.lt_size (show h.get? a=some _ from x)
 |met f y=>exact Heap.lt_size (show h.get? a=some _ from x)
 |ext g=>obtain⟨_,⟨_,e⟩,_⟩:=x;exact Heap.lt_size e
theorem Paired.mapP{d c:Type}{F G:d->c->Prop}:∀{l₁:List d}{l₂:List c},Paired F l₁ l₂->(∀a b,F a b->G a b)->Paired G l₁ l₂
 |_,_,.nil,_=>.nil
 |_,_,.cons r t,f=>.cons (f _ _ r) (Paired.mapP t f)
theorem bN.stay(x:bN P w H h a o)(k:∀b u,(b=a\/H b=some (.own a))->h.get? b=some u->h'.get? b=some u)
  (I:∀b,H b=some (.own a)->H' b=some (.own a))(ht:∀b xs,H b=some (.tup xs)->H' b=some (.tup xs)):bN P w H' h' a o:=by
 induction o with
 |lst xs=>obtain⟨z,l,n,r,e⟩:=x;exact(z,l,n,r,k _ _ (.inl rfl) e)
 |tup xs=>obtain⟨z,l,r,g,e,c⟩:=x;exact(z,l,r,g,k _ _ (.inl rfl) e,c)
 |dK A=>obtain⟨z,y,E,r,g,i,j,e,c⟩:=x;exact(z,y,E,r,g,i,j,k _ _ (.inl rfl) e,c)
 |dT A=>
  obtain⟨z,y,xs,r,g,i,j,e,c⟩:=x;exact(z,y,xs,Paired.mapP r λp q z=>(z.1,ht _ _ z.2.1,z.2.2),g,i,j,k _ _ (.inl rfl) e,c)
 |set S n=>obtain⟨g,i,j,t,e,c⟩:=x;exact(g,i,j,t,k _ _ (.inl rfl) e,c)
 |ins C O J=>
  obtain⟨d,z,F,e,s,⟨m,i,j,K,c⟩,r⟩:=x;exact(I _ d,z,F,k _ _ (.inl rfl) e,s,(m,i,j,k _ _ (.inr d) K,c),r)
 |own y=>obtain⟨g,e⟩:=x;exact(g,k _ _ (.inl rfl) e)
 |xd J=>obtain⟨s,⟨m,i,j,e,c⟩,r⟩:=x;exact(s,(m,i,j,k _ _ (.inl rfl) e,c),r)
 |rng M N=>obtain⟨t,u,v,e⟩:=x;exact(t,u,v,k _ _ (.inl rfl) e)
 |Xn g u G=>obtain⟨e,q⟩:=x;exact(k _ _ (.inl rfl) e,G q)
 |WW D=>
  have e:h.get? a=some {cls:=.none,data:=.fields D}:=x;show h'.get? a=some {cls:=.none,data:=.fields D};exact k a _ (.inl rfl) e
 |met f y=>
  have e:h.get? a=some (PySem.W.methodObj (.ref f) (.ref y)):=x;show h'.get? a=some (PySem.W.methodObj (.ref f) (.ref y));exact k a _ (.inl rfl) e
 |ext L=>obtain⟨p,⟨o,e⟩,B⟩:=x;exact(B _ _ p λo q=>k _ _ (.inl rfl) q,(o,k _ _ (.inl rfl) e),B)
theorem WK.lt(x:WK P w H h)(e:H a=some o):a<h.objs.size:=(x a o e).lt
theorem WK.fresh(x:WK P w H h)(e:h.objs.size<=a):H a=none:=by
 cases q:H a with
 |none=>rfl
 |some u=>exact absurd (aas (x.lt q) e) (agB _)
theorem WK.kept(x:WK P w H h)(k:∀b u,h.get? b=some u->h'.get? b=some u):WK P w H h':=λa o e=>
 (x a o e).stay (λb u _ q=>k b u q) (λ_ q=>q) λ_ _ q=>q
theorem WK.laid(x:WK P w H h)(k:∀b u,h.get? b=some u->h'.get? b=some u)(i:h.objs.size<=a)(d:bN P w (upd H a o) h' a o):WK P w (upd H a o) h':=λb u e=>by
 have f:=x.fresh i;by_cases g:b=a
 ·subst g;rw[aa]at e;cases e;exact d
 ·rw[aJ g]at e;exact(x b u e).stay (λc v _ q=>k c v q) (λc q=>by rw[aJ (aH q f)];exact q) λc j q=>by rw[aJ (aH q f)];exact q
end
def Rd(H:Hp)(a:Addr)(u:HO):Prop:=H a=some u \/ ∃o,H a=some (.Xn o u)
theorem Rd.ok{w:World}{H:Hp}{a:Addr}{u:HO}(r:Rd H a u)(x:WK prog w H base):bN prog w H base a u:=by
 rcases r with r|⟨o,r⟩
 ·exact x a u r
 ·obtain⟨_,q⟩:=x a _ r;exact q
def Mut:Option HO->Prop
 |some (.lst _)=>True
 |some (.dK _)=>True
 |some (.dT _)=>True
 |some (.set _ _)=>True
 |some (.ins _ _ _)=>True
 |some (.ext _)=>True
 |_=>False
section
variable{P:Program}{w:World}{H:Hp}{x e:Addr}{o':HO}
theorem WK.write(s:WK P w H h)(i:Mut (H x))(p:e=x\/H e=some (.own x))(k:∀b u,b≠e->h.get? b=some u->h'.get? b=some u)(n:∃u,h'.get? e=some u)
  (m:bN P w (upd H x o') h' x o'):WK P w (upd H x o') h':=λb u q=>by
 have d:∀c y,H c=some (.own y)->c≠x:=λc y r z=>by subst z;rw[r]at i;exact i
 have f:∀c g,H c=some (.tup g)->c≠x:=λc g r z=>by subst z;rw[r]at i;exact i
 by_cases l:b=x
 ·subst l;rw[aa]at q;cases q;exact m
 ·rw[aJ l]at q;by_cases a:b=e
  ·have o:H b=some (.own x):=by
    rcases p with z|z
    ·exact absurd (a.trans z) l
    ·rw[a];exact z
   rw[q]at o;cases o;obtain⟨v,t⟩:=n;exact(v,by rw[a];exact t)
  ·refine(s b u q).stay (λc v j r=>k c v ?_ r) (λc r=>by rw[aJ (d c b r)];exact r) λc g r=>by rw[aJ (f c g r)];exact r
   rcases j with rfl|j
   ·exact a
   ·rintro rfl;rcases p with z|z
    ·exact d c b j z
    ·rw[j]at z;cases z;exact l rfl
end
structure Un(fs ex:List Addr)(H H':Hp)(h h':Heap):Prop where
 keep:∀b o,h.get? b=some o->H b=none->b∉fs->b∉ex->h'.get? b=some o
 slot:∀b o,h.get? b=some o->H b=none->b∈fs->b∉ex -> ∃sl,h'.get? b=some {o with slots:=sl}
 free:∀b o,h.get? b=some o->H b=none->b∉ex->H' b=none
 there:∀b o,h.get? b=some o->b∉ex -> ∃o',h'.get? b=some o'
 tups:∀b xs,H b=some (.tup xs)->H' b=some (.tup xs)
 frzs:∀b o u,H b=some (.Xn o u)->H' b=some (.Xn o u)
 tbls:∀b ps,H b=some (.WW ps) -> ∃more,H' b=some (.WW (ps++more))
section
variable{fs fs' ex ex':List Addr}{H H1 H2:Hp}{h1 h2:Heap}{x e:Addr}{o:HO}
theorem Un.any(u:Un fs ex H H1 h h1){b:Addr}(q:h.get? b=some Q)(n:H b=none)(c:b∉ex):∃f,h1.get? b=some {Q with slots:=f}:=by
 by_cases d:b∈fs
 ·exact u.slot b Q q n d c
 ·exact(Q.slots,u.keep b Q q n d c)
theorem Un.trans(a:Un fs ex H H1 h h1)(b:Un fs ex H1 H2 h1 h2):Un fs ex H H2 h h2 where
 keep:=λc d q n j f=>b.keep c d (a.keep c d q n j f) (a.free c d q n f) j f
 slot:=λc d q n j f=>by
  obtain⟨t,g⟩:=a.slot c d q n j f;obtain⟨m,l⟩:=b.slot c _ g (a.free c d q n f) j f;exact(m,l)
 free:=λc d q n f=>by
  obtain⟨k,g⟩:=a.there c d q f;exact b.free c k g (a.free c d q n f) f
 there:=λc d q f=>by
  obtain⟨k,g⟩:=a.there c d q f;exact b.there c k g f
 tups:=λc i q=>b.tups c i (a.tups c i q)
 frzs:=λc d i q=>b.frzs c d i (a.frzs c d i q)
 tbls:=λc p q=>by
  obtain⟨s,g⟩:=a.tbls c p q;obtain⟨r,l⟩:=b.tbls c _ g;exact(s++r,by rw[l,ahK])
theorem Un.kept(k:∀b u,h.get? b=some u->h'.get? b=some u):Un fs ex H H h h':=
 (λb c q _ _ _=>k b c q,λb c q _ _ _=>(c.slots,k b c q),λ_ _ _ n _=>n,λb c q _=>(c,k b c q),λ_ _ q=>q,λ_ _ _ q=>q,λ_ d q=>(#[],by rw[q];simp))
theorem Un.refl:Un fs ex H H h h:=Un.kept λ_ _ q=>q
theorem Un.laid(k:∀b u,h.get? b=some u->h'.get? b=some u)(f:h.objs.size<=a)(c:H a=none):Un fs ex H (upd H a o) h h' where
 keep:=λb u q _ _ _=>k b u q
 slot:=λb u q _ _ _=>(u.slots,k b u q)
 free:=λb u q n _=>by rw[aJ (aaA (aas (Heap.lt_size q) f))];exact n
 there:=λb u q _=>(u,k b u q)
 tups:=λb d q=>by rw[aJ (aH q c)];exact q
 frzs:=λb u d q=>by rw[aJ (aH q c)];exact q
 tbls:=λb g q=>(#[],by rw[aJ (aH q c),q];simp)
theorem Un.write(d:Mut (H x))(p:e=x\/H e=some (.own x))(k:∀b u,b≠e->h.get? b=some u->h'.get? b=some u)(g:∃u,h'.get? e=some u):Un fs ex H (upd H x o) h h':=by
 have i:∀b,H b=none->b≠x:=λb n z=>by subst z;rw[n]at d;exact d
 have j:∀b,H b=none->b≠e:=λb n z=>by
  subst z;rcases p with r|r
  ·exact i b n r
  ·rw[n]at r;cases r
 have f:∀b u,H b=some u -> ¬Mut (some u)->b≠x:=λb u q m z=>by subst z;rw[q]at d;exact m d
 refine(λb u q n _ _=>k b u (j b n) q,λb u q n _ _=>(u.slots,k b u (j b n) q),λb u q n _=>by rw[aJ (i b n)];exact n,λb u q _=>?_,
  λb l q=>by rw[aJ (f b _ q λz=>z)];exact q,λb u l q=>by rw[aJ (f b _ q λz=>z)];exact q,λb s q=>(#[],by rw[aJ (f b _ q λz=>z),q];simp))
 by_cases c:b=e
 ·subst c;exact g
 ·exact(u,k b u c q)
end
def W6(h:Heap)(H:Hp):List Addr:=(aga h.objs.size).filter λa=>(H a).isSome
def vD(h:Heap)(H:Hp):Heap:=PySem.W.hideAll h (W6 h H)
theorem Kz(h:Heap)(H:Hp):(vD h H).objs.size=h.objs.size:=PySem.W.hideAll_size _ _
theorem Mt{H:Hp}{b:Addr}{o:Obj}(e:base.get? b=some o)(n:H b=none):(vD base H).get? b=some o:=
 PySem.W.hideAll_get _ e λa=>by
  have q:(H b).isSome=true:=(ahM.mp a).2;rw[n]at q;simp at q
theorem QW{H:Hp}{b:Addr}{o:Obj}(e:(vD base H).get? b=some o):base.get? b=some o/\H b=none:=by
 have a:base.get? b=some o:=PySem.W.of_hideAll (W6 base H) e;exists a;cases q:H b with
 |none=>rfl
 |some x=>
  have c:b∈W6 base H:=ahM.mpr (agK.mpr (Heap.lt_size a),by simp[q]);have z:(vD base H).get? b=none:=PySem.W.hideAll_none (W6 base H) c;rw[z]at e;cases e
def Ro(g h:Heap)(L:Addr):List (Addr×Obj):=(aga h.objs.size).filterMap λa=>if a=L\/(g.get? a).isSome=true then none else (h.get? a).map λo=>(pq a o)
def rest(g h:Heap)(L d:Addr):List (Addr×Obj):=(Ro g h L).filter λp=>decide (p.1≠d)
structure Mod(K:PySem.W.Frag)(mg:Str->Option Value)(base:Heap):Prop where
 Y5:K.In base
 glob:base.Ns mainGlobals mg
 blt:∃mb,base.Ns builtinsNs mb /\ ∀x:Str,x ≠ "__name__" -> mb x=bootBuiltins x
 nolimit:base.NoLimit
structure Cx where
 prog:Program
 w:World
 K:PySem.W.Frag
 mg:Str->Option Value
 base:Heap
 A:Around
 N:List Str
 s₀:Shared
 H₀:Hp
 env:Env
 outer:List Env
 stack:List Env
 ex:List Addr
 fn:Str->Bool
 calm:Bool
 pn:List (Addr×Obj)
 xe:Value->Shared->Prop
def frs(l:List Env):List Addr:=l.filterMap (·.frame)
abbrev Cx.fs(X:Cx):List Addr:=frs X.outer
def Vis(a:Scope)(x:Str):Prop:=a.names.lookup x=some .local\/a.names.lookup x=some .cell\/a.names.lookup x=some .free
def Loc(a:Scope)(x:Str):Prop:=a.names.lookup x=some .local\/a.names.lookup x=some .cell
def Look(env:Env)(h:Heap)(m:Str->Option Value)(x:Str)(u:Value):Prop:=
 (env.kindOf x=some .local/\m x=some u)\/((env.kindOf x=some .cell\/env.kindOf x=some .free) /\ ∃c,env.cells.lookup x=some c/\h.IsCell c (some u))
structure Cx.Ok(X:Cx):Prop where
 mod:Mod X.K X.mg X.base
 kind:X.env.scope.kind=.function
 glob:X.env.globals=mainGlobals
 blt:X.env.builtins=builtinsNs
 above:X.s₀.heap.objs.size<=X.env.locals
 inj:∀x y c,X.env.cells.lookup x=some c->X.env.cells.lookup y=some c->x=y
 has:∀x,(X.env.kindOf x=some .cell\/X.env.kindOf x=some .free) -> ∃c,X.env.cells.lookup x=some c
 cab:∀x c,X.fn x=true->X.env.cells.lookup x=some c->X.s₀.heap.objs.size<=c
 hd:X.calm=true->X.A.handled=none
 frames:X.A.frames=some X.stack
 Xr:X.stack=X.outer\/(X.stack=X.env::X.outer/\X.env.frame=some X.env.locals)
 Zg:∀b∈X.ex,b≠X.env.locals /\ ∀x c,X.env.cells.lookup x=some c->c≠b
 bs:∀b o,X.base.get? b=some o->X.s₀.heap.get? b=some o/\X.H₀ b=none
 XM:X.base.objs.size<=X.s₀.heap.objs.size
 noex:∀b o,X.base.get? b=some o->b∉X.ex
 exfs:∀b∈X.ex,b∉X.fs
 funs:X.s₀.heap.FunFrames X.base X.outer
 Yr:∀b∈X.fs,X.H₀ b=none
structure Inv(X:Cx)(π:List (Addr×Obj))(σ:List (Option V))(H:Hp)(s:Shared):Prop where
 ok:X.Ok
 os:s.os=X.s₀.os
 bare:AllBare s.gens
 base:Un X.fs X.ex X.H₀ H X.s₀.heap s.heap
 loc:∃m,s.heap.Ns X.env.locals m /\ ∀(i:Nat) (x:Str) (v:V),X.N[i]?=some x->σ[i]?=some (some v)->Vis X.env.scope x -> ∃u,RelV v u/\Look X.env s.heap m x u
 cell:∀x c,X.env.cells.lookup x=some c -> ∃v,s.heap.IsCell c v
 free:H X.env.locals=none
 freeC:∀x c,X.env.cells.lookup x=some c->H c=none
 pin:∀p∈X.pn++π,s.heap.get? p.1=some p.2/\H p.1=none/\p.1≠X.env.locals/\p.1∉X.fs /\ ∀v,p.2.data ≠ .cell v
 hok:WK X.prog X.w H s.heap
 len:σ.length=X.N.length
section
variable{X:Cx}{σ:List (Option V)}{H H':Hp}
theorem Cx.Ok.nofr(a:X.Ok){b:Addr}{o:Obj}(e:X.base.get? b=some o):b∉X.fs:=λc=>by
 have:=(a.funs.mem c).1;rw[e]at this;cases this
theorem Inv.bs(I:Inv X π σ H s):∀b o,X.base.get? b=some o->s.heap.get? b=some o/\H b=none:=λb o e=>
 (I.base.keep b o (I.ok.bs b o e).1 (I.ok.bs b o e).2 (I.ok.nofr e) (I.ok.noex b o e),I.base.free b o (I.ok.bs b o e).1 (I.ok.bs b o e).2 (I.ok.noex b o e))
theorem Inv.bk(I:Inv X π σ H s):∀b o,X.base.get? b=some o->s.heap.get? b=some o:=λb o e=>(I.bs b o e).1
theorem Inv.mod(I:Inv X π σ H s):Mod X.K X.mg X.base:=I.ok.mod
theorem Inv.Xc(I:Inv X π σ H s):X.K.In s.heap:=I.ok.mod.Y5.keeps I.bk
theorem Inv.lt(I:Inv X π σ H s):X.env.locals<s.heap.objs.size:=let ⟨_,hn,_⟩:=I.loc;hn.lt
theorem Inv.sz(I:Inv X π σ H s):X.s₀.heap.objs.size<=s.heap.objs.size:=agx I.ok.above (ag0 I.lt)
theorem Inv.nofs(I:Inv X π σ H s){a:Addr}(h:s.heap.objs.size<=a):a∉X.fs:=λc=>by
 obtain⟨_,o,b,_⟩:=I.ok.funs.mem c;exact absurd (aas (Heap.lt_size b) (agx I.sz h)) (agB _)
theorem Inv.Ys(I:Inv X π σ H s):∀x c,X.env.cells.lookup x=some c->c≠X.env.locals:=λx c e z=>by
 obtain⟨v,o,d,hd⟩:=I.cell x c e;obtain⟨m,⟨f,g,h,a,b,_⟩,_⟩:=I.loc;rw[z,a]at d;cases d;rw[b]at hd;cases hd
theorem Inv.funs(I:Inv X π σ H s):s.heap.FunFrames X.base X.outer:=by
 have f:∀(l:List Env),(∀b∈frs l,b∈X.fs)->X.s₀.heap.FunFrames X.base l->s.heap.FunFrames X.base l:=by
  intro l
  induction l with
  |nil=>intro _ _;trivial
  |cons p r h=>
   intro g m;obtain⟨n,⟨L,o,a,k,j,hd⟩,i⟩:=m;have d:L∈X.fs:=g L (by unfold frs;rw[ahf,a];exact aal);obtain⟨q,e⟩:=I.base.slot L o j (I.ok.Yr L d) d λz=>I.ok.exfs L z d;exact(n,(L,_,a,k,e,hd),h (λb c=>g b (by unfold frs;rw[ahf,a];exact aai _ c)) i)
 exact f X.outer (λ_ c=>c) I.ok.funs
theorem Inv.stack(I:Inv X π σ H s):s.heap.FunFrames X.base X.stack:=by
 rcases I.ok.Xr with e|⟨e,b⟩
 ·rw[e];exact I.funs
 ·rw[e];obtain⟨m,a,_⟩:=I.loc;refine .cons (by rw[I.ok.kind];decide) b a ?_ I.funs;exact Heap.get?_none_of_le (agx I.ok.XM I.ok.above)
theorem Inv.stkSub(I:Inv X π σ H s):∀b∈frs X.stack,b∈X.env.locals::X.fs:=λb a=>by
 rcases I.ok.Xr with e|⟨e,c⟩
 ·rw[e]at a;exact aai _ a
 ·rw[e]at a;unfold frs at a;rw[ahf,c]at a;exact a
theorem Inv.stkFree(I:Inv X π σ H s):∀b∈frs X.stack,H b=none:=λb a=>by
 rcases aav.mp (I.stkSub b a)with e|a
 ·rw[e];exact I.free
 ·obtain⟨_,o,c,_⟩:=I.ok.funs.mem a;exact I.base.free b o c (I.ok.Yr b a) λz=>I.ok.exfs b z a
theorem Inv.step{g':Array GenState}{t':Nat}{d':Drawn}{ch:List Addr}(I:Inv X π σ H s)
  (g:∀b∈ch,(b∈X.ex\/X.s₀.heap.objs.size<=b)/\b≠X.env.locals/\(∀x c,X.env.cells.lookup x=some c->c≠b) /\ ∀p∈X.pn++π,p.1≠b)
  (h:∀b o,b≠X.env.locals->b∉X.fs->b∉ch->s.heap.get? b=some o->H b=none->h'.get? b=some o)
  (A:∀b o,b≠X.env.locals->b∈X.fs->b∉ch->s.heap.get? b=some o->H b=none -> ∃O,h'.get? b=some {o with slots:=O})(f:∀b o,b∉ch->s.heap.get? b=some o->H b=none->H' b=none)
  (C:∀b o,b∉ch->s.heap.get? b=some o -> ∃E,h'.get? b=some E)
  (K:∀b xs,H b=some (.tup xs)->H' b=some (.tup xs))(N:∀b o u,H b=some (.Xn o u)->H' b=some (.Xn o u))(L:∀b ps,H b=some (.WW ps) -> ∃M,H' b=some (.WW (ps++M)))
  (ns:∀m,s.heap.Ns X.env.locals m->h'.Ns X.env.locals m)(Q:WK X.prog X.w H' h')(hg:AllBare g'):
  Inv X π σ H' {s with heap:=h',gens:=g',drawn:=d',toks:=t'}:=by
 have J:∀b o,X.s₀.heap.get? b=some o->b≠X.env.locals:=λb o e=>aaA (aas (Heap.lt_size e) I.ok.above);have y:∀b o,X.s₀.heap.get? b=some o->b∉X.ex->b∉ch:=λb o e a B=>by
  rcases(g b B).1 with z|z
  ·exact a z
  ·exact absurd (aas (Heap.lt_size e) z) (agB _)
 have j:∀x c,X.env.cells.lookup x=some c -> ∀v,s.heap.IsCell c v->h'.IsCell c v:=λx c e v ⟨o,D,hd⟩=>by
  have G:c∉ch:=λz=>(g c z).2.2.1 x c e rfl;by_cases U:c∈X.fs
  ·obtain⟨O,q⟩:=A c o (I.Ys x c e) U G D (I.freeC x c e);exact(_,q,hd)
  ·exact(o,h c o (I.Ys x c e) U G D (I.freeC x c e),hd)
 refine(I.ok,I.os,hg,(λb o e n B a=>?_,λb o e n B a=>?_,λb o e n a=>?_,λb o e a=>?_,λb xs e=>K b xs (I.base.tups b xs e),λb o xs e=>N b o xs (I.base.frzs b o xs e),λb ps e=>?_),2,λx c e=>?_,2,λx c e=>?_,λp T=>?_,Q,I.len)
 ·exact h b o (J b o e) B (y b o e a) (I.base.keep b o e n B a) (I.base.free b o e n a)
 ·obtain⟨O,t⟩:=I.base.slot b o e n B a;obtain⟨P,F⟩:=A b _ (J b o e) B (y b o e a) t (I.base.free b o e n a);exact(P,F)
 ·obtain⟨E,t⟩:=I.base.there b o e a;exact f b E (y b o e a) t (I.base.free b o e n a)
 ·obtain⟨E,t⟩:=I.base.there b o e a;exact C b E (y b o e a) t
 ·obtain⟨W,t⟩:=I.base.tbls b ps e;obtain⟨V,F⟩:=L b _ t;exact(W++V,by rw[F,ahK])
 ·obtain⟨m,Y,Z⟩:=I.loc;refine(m,ns m Y,λi x v t F e3=>?_);obtain⟨u,r,l⟩:=Z i x v t F e3;exists u,r;rcases l with l|⟨k,c,e,z⟩
  ·exact .inl l
  ·exact .inr (k,c,e,j x c e _ z)
 ·obtain⟨v,z⟩:=I.cell x c e;exact(v,j x c e v z)
 ·obtain⟨m,⟨o,_,_,D,_⟩,_⟩:=I.loc;exact f _ o (λz=>(g _ z).2.1 rfl) D I.free
 ·obtain⟨v,o,D,hd⟩:=I.cell x c e;exact f c o (λz=>(g c z).2.2.1 x c e rfl) D (I.freeC x c e)
 ·obtain⟨e,n,S,R,d⟩:=I.pin p T;have G:p.1∉ch:=λz=>(g p.1 z).2.2.2 p T rfl;exact(h p.1 p.2 S R G e n,f p.1 p.2 G e n,S,R,d)
theorem Inv.un{t':Nat}(I:Inv X π σ H s)(u:Un X.fs [] H H' s.heap h')(d:WK X.prog X.w H' h'):Inv X π σ H' {s with heap:=h',toks:=t'}:=by
 obtain⟨m,⟨o,t,v,h,r⟩,_⟩:=id I.loc;obtain⟨l,k⟩:=u.any h I.free (by simp);exact I.step (g':=s.gens) (d':=s.drawn) (ch:=[]) (λ_ z=>nomatch z) (λb o _ c _ e n=>u.keep b o e n c (by simp)) (λb o _ c _ e n=>u.slot b o e n c (by simp)) (λb o _ e n=>u.free b o e n (by simp)) (λb o _ e=>u.there b o e (by simp)) u.tups u.frzs u.tbls (λq j=>by
  obtain⟨p,f,g,a,i⟩:=j;rw[h]at a;cases a;exact(_,f,g,k,i)) d I.bare
theorem Inv.call{g':Array GenState}{t':Nat}{d':Drawn}{ch:List Addr}(I:Inv X π σ H s)(u:Un (frs X.stack) ch H H' s.heap h')(h:WK X.prog X.w H' h')(t:AllBare g')
  (f:∀b∈ch,(b∈X.ex\/X.s₀.heap.objs.size<=b)/\b≠X.env.locals/\(∀x c,X.env.cells.lookup x=some c->c≠b) /\ ∀p∈X.pn++π,p.1≠b):
  Inv X π σ H' {s with heap:=h',gens:=g',drawn:=d',toks:=t'}:=by
 obtain⟨m,⟨o,C,D,k,r⟩,_⟩:=id I.loc;obtain⟨y,g⟩:=u.any k I.free λz=>(f _ z).2.1 rfl;exact I.step (ch:=ch) f (λb o g v a e n=>u.keep b o e n (λz=>(aav.mp (I.stkSub b z)).elim g v) a) (λb o _ _ a e n=>u.any e n a) (λb o a e n=>u.free b o e n a) (λb o a e=>u.there b o e a) u.tups u.frzs u.tbls (λB q=>by
  obtain⟨A,i,j,d,l⟩:=q;rw[k]at d;cases d;exact(_,i,j,g,l)) h t
theorem Inv.turned{t':Nat}(I:Inv X π σ H s)(k:∀b o,b≠a->s.heap.get? b=some o->h'.get? b=some o)(i:H a=none)(g:a≠X.env.locals)
  (y:a∈X.ex\/X.s₀.heap.objs.size<=a)(w:∀x c,X.env.cells.lookup x=some c->c≠a)(t:∀p∈X.pn++π,p.1≠a):Inv X π σ H {s with heap:=h',toks:=t'}:=by
 have f:∀b u,H b=some u->b≠a:=λb u e z=>by rw[z,i]at e;cases e
 refine I.step (g':=s.gens) (d':=s.drawn) (ch:=[a]) (λb l=>?_) (λb o _ _ d e _=>k b o (λz=>d (by simp[z])) e) (λb o _ _ d e _=>(o.slots,k b o (λz=>d (by simp[z])) e)) (λ_ _ _ _ n=>n)
  (λb o d e=>(o,k b o (λz=>d (by simp[z])) e)) (λ_ _ e=>e) (λ_ _ _ e=>e) (λb C e=>(#[],by rw[e];simp)) (λm j=>?_) (λb u e=>?_) I.bare
 ·have e:b=a:=by simpa using l
  subst e;exact(y,g,w,t)
 ·obtain⟨o,A,B,h,r⟩:=j;exact(o,A,B,k _ o (agA g) h,r)
 ·refine(I.hok b u e).stay (λc v d q=>k c v ?_ q) (λ_ q=>q) λ_ _ q=>q;rcases d with z|z
  ·rw[z];exact f b u e
  ·exact f c _ z
theorem Inv.tok(I:Inv X π σ H s)(t:Nat):Inv X π σ H {s with toks:=t}:=I.un (h':=s.heap) (t':=t) Un.refl I.hok
theorem Inv.kept{t':Nat}(I:Inv X π σ H s)(k:∀b u,s.heap.get? b=some u->h'.get? b=some u):Inv X π σ H {s with heap:=h',toks:=t'}:=I.un (Un.kept k) (I.hok.kept k)
theorem Inv.laid{a:Addr}{o:HO}{t':Nat}(I:Inv X π σ H s)(k:∀b u,s.heap.get? b=some u->h'.get? b=some u)(c:s.heap.objs.size<=a)(d:bN X.prog X.w (upd H a o) h' a o):
  Inv X π σ (upd H a o) {s with heap:=h',toks:=t'}:=I.un (Un.laid k c (I.hok.fresh c)) (I.hok.laid k c d)
theorem Inv.write{x e:Addr}{o:HO}{t':Nat}(I:Inv X π σ H s)(d:Mut (H x))(f:e=x\/H e=some (.own x))(k:∀b u,b≠e->s.heap.get? b=some u->h'.get? b=some u)(a:∃u,h'.get? e=some u)
  (c:bN X.prog X.w (upd H x o) h' x o):Inv X π σ (upd H x o) {s with heap:=h',toks:=t'}:=I.un (Un.write d f k a) (I.hok.write d f k a c)
theorem Inv.pins_of{a:List (Addr×Obj)}(I:Inv X π σ H s)(h:∀p∈a,s.heap.get? p.1=some p.2/\H p.1=none/\p.1≠X.env.locals/\p.1∉X.fs /\ ∀v,p.2.data ≠ .cell v):Inv X a σ H s:=
 (I.ok,I.os,I.bare,I.base,I.loc,I.cell,I.free,I.freeC,λp b=>(aaG.mp b).elim (λz=>I.pin p (agj _ z)) (h p),I.hok,I.len)
theorem vI{N:List Str}(c:N.Nodup){i j:Nat}{x:Str}(a:N[i]?=some x)(b:N[j]?=some x):i=j:=by
 obtain⟨g,e⟩:=aad.mp a;obtain⟨f,d⟩:=aad.mp b;exact(List.getElem_inj c).mp (e.trans d.symm)
theorem oh{M:Model}{A:Around}{E:Value->Shared->Prop}{i:Nat}{x:Str}{v:V}{u:Value}{Q:Unit->Shared->Prop}(I:Inv X π σ H s)(hN:X.N.Nodup)(L:X.N[i]?=some x)(B:Loc X.env.scope x)(r:RelV v u)
  (h:∀s',Inv X π (σ.set i (some v)) H s'->(∃a,Heap.SameBut a s.heap s'.heap/\(a=X.env.locals\/X.env.cells.lookup x=some a))->Q () s')(hf:X.fn x=true\/X.env.scope.names.lookup x=some .local:=by first|exact .inl rfl|exact .inr rfl|assumption):wpAny M A (storeName X.env x u) Q E s:=by
 obtain⟨m,hn,hl⟩:=id I.loc;have T:(X.env.scope.kind == .class || (X.env.scope.kind == .module&&X.env.locals != X.env.globals))=false:=by rw[I.ok.kind];rfl
 have ZD:i<σ.length:=by rw[I.len];exact(aad.mp L).1
 have Ys:=I.Ys;have l:∀{a:Addr}{h':Heap},(∃o,s.heap.get? a=some o/\H a=none)->Heap.SameBut a s.heap h'->WK X.prog X.w H h':=λ{a h'} ha f b ob e=>by
  obtain⟨_,_,C⟩:=ha;refine(I.hok b ob e).stay (λc U t q=>(f.2 c ?_).trans q) (λ_ q=>q) λ_ _ q=>q;rintro rfl;rcases t with rfl|t
  ·rw[C]at e;cases e
  ·rw[C]at t;cases t
 rcases B with F|F
 ·refine wpAny_storeName_local F hn (λh' a1 f=>?_) T;obtain⟨oL,_,_,a0,_⟩:=id hn;refine h _ (I.ok,I.os,I.bare,(λb o e n J B=>?_,λb o e n J B=>?_,I.base.free,λb o e B=>?_,I.base.tups,I.base.frzs,I.base.tbls),(_,a1,λj y Z g D e3=>?_),λy c e=>?_,I.free,I.freeC,λp hp=>?_,l (oL,a0,I.free) f,by simpa using I.len) (_,f,.inl rfl)
  ·exact(f.2 b (aaA (aas (Heap.lt_size e) I.ok.above))).trans (I.base.keep b o e n J B)
  ·obtain⟨sl,g⟩:=I.base.slot b o e n J B;exact(sl,(f.2 b (aaA (aas (Heap.lt_size e) I.ok.above))).trans g)
  ·obtain⟨o',g⟩:=I.base.there b o e B;exact(o',(f.2 b (aaA (aas (Heap.lt_size e) I.ok.above))).trans g)
  ·by_cases G:j=i
   ·subst G;rw[L]at g;cases g;rw[agG ZD]at D;cases D;exact(u,r,.inl (F,by simp))
   ·rw[agE (agA G)]at D;obtain⟨u',r',q⟩:=hl j y Z g D e3;exists u',r';rcases q with ⟨k,e⟩|⟨k,c,e,z⟩
    ·refine .inl (k,2);have:y≠x:=λe=>G (vI hN g (e ▸ L));simp[this,e]
    ·exact .inr (k,c,e,z.sameBut f (Ys y c e))
  ·obtain⟨U,z⟩:=I.cell y c e;exact(U,z.sameBut f (Ys y c e))
  ·obtain⟨e,n,W,nf,d⟩:=I.pin p hp;exact((f.2 p.1 W).trans e,n,W,nf,d)
 ·have K:X.fn x=true:=by
   rcases hf with z|z
   ·exact z
   ·rw[z]at F;cases F
  obtain⟨c,t⟩:=I.ok.has x (.inl F);obtain⟨U,z⟩:=I.cell x c t;refine wpAny_storeName_cell I.ok.kind F t z (λh' R f=>?_);obtain⟨oc,O,S⟩:=id z;refine h {s with heap:=h'} (I.ok,I.os,I.bare,(λb o e n J B=>?_,λb o e n J B=>?_,I.base.free,λb o e B=>?_,I.base.tups,I.base.frzs,I.base.tbls),(m,hn.sameBut f (agA (Ys x c t)),λj y Z g D e3=>?_),λy Y e=>?_,I.free,I.freeC,λp hp=>?_,l (oc,O,I.freeC x c t) f,by simpa using I.len) (c,f,.inr t)
  ·exact(f.2 b (aaA (aas (Heap.lt_size e) (I.ok.cab x c K t)))).trans (I.base.keep b o e n J B)
  ·obtain⟨sl,g⟩:=I.base.slot b o e n J B;exact(sl,(f.2 b (aaA (aas (Heap.lt_size e) (I.ok.cab x c K t)))).trans g)
  ·obtain⟨o',g⟩:=I.base.there b o e B;exact(o',(f.2 b (aaA (aas (Heap.lt_size e) (I.ok.cab x c K t)))).trans g)
  ·by_cases G:j=i
   ·subst G;rw[L]at g;cases g;rw[agG ZD]at D;cases D;exact(u,r,.inr (.inl F,c,t,R))
   ·rw[agE (agA G)]at D;obtain⟨u',r',q⟩:=hl j y Z g D e3;exists u',r';rcases q with q|⟨k,Y,e,z'⟩
    ·exact .inl q
    ·refine .inr (k,Y,e,z'.sameBut f ?_);rintro rfl;exact G (vI hN g (I.ok.inj _ _ _ e t ▸ L))
  ·by_cases P:Y=c
   ·subst P;exact(_,R)
   ·obtain⟨w2,z2⟩:=I.cell y Y e;exact(w2,z2.sameBut f P)
  ·obtain⟨e,n,W,nf,d⟩:=I.pin p hp;refine((f.2 p.1 ?_).trans e,n,W,nf,d);intro q;rw[q,O]at e;have q':oc=p.2:=aat e;exact d U (by rw[<-q'];exact S)
theorem ql{M:Model}{A:Around}{E:Value->Shared->Prop}{i:Nat}{x:Str}{v:V}{u:Value}{Q:Unit->Shared->Prop}(I:Inv X π σ H s)(d:X.N.Nodup)(b:X.N[i]?=some x)(a:Loc X.env.scope x)(r:RelV v u)
  (h:∀s',Inv X π (σ.set i (some v)) H s'->Q () s')(c:X.fn x=true\/X.env.scope.names.lookup x=some .local:=by first|exact .inl rfl|exact .inr rfl|assumption):wpAny M A (storeName X.env x u) Q E s:=
 oh I d b a r (λs' e _=>h s' e) c
theorem Inv.call'{s':Shared}{ch:List Addr}(I:Inv X π σ H s)(h:s'.os=s.os)(u:Un (frs X.stack) ch H H' s.heap s'.heap)(a:WK X.prog X.w H' s'.heap)(i:AllBare s'.gens)
  (d:∀b∈ch,(b∈X.ex\/X.s₀.heap.objs.size<=b)/\b≠X.env.locals/\(∀x c,X.env.cells.lookup x=some c->c≠b) /\ ∀p∈X.pn++π,p.1≠b):Inv X π σ H' s':=by
 obtain⟨h',j,k,f,g⟩:=s';have e:g=s.os:=h;subst e;exact I.call (g':=j) (t':=f) (d':=k) u a i d
end
abbrev XK:=Value->Option Addr->Hp->Prop
abbrev St:=List (Option V)
abbrev VK:=V->Hp->Prop
abbrev TE:=St->Hp->VK->Prop
abbrev TT:=St->Hp->(Bool->Hp->Prop)->Prop
abbrev TA:=St->Hp->(List V->Hp->Prop)->Prop
structure Ends where
 nx:St->Hp->Prop
 rt:VK
 bk:St->Hp->Prop:=λ_ _=>False
 ct:St->Hp->Prop:=λ_ _=>False
abbrev TS:=Ends->St->Hp->Prop
inductive EP(X:Cx)(π:List (Addr×Obj))(σ:St)(Q:VK)(u:Value)(s':Shared):Prop
 | mk (v H':_) (_:Inv X π σ H' s') (_:RelV v u) (_:Q v H')
def TP(X:Cx)(c:List (Addr×Obj))(σ:St)(Q:Bool->Hp->Prop)(b:Bool)(s':Shared):Prop:=∃a,Inv X c σ a s'/\Q b a
inductive AP(X:Cx)(π:List (Addr×Obj))(σ:St)(Q:List V->Hp->Prop)(us:List Value)(s':Shared):Prop
 | mk (vs H':_) (_:Inv X π σ H' s') (_:Vals vs us) (_:Q vs H')
def SP(X:Cx)(c:List (Addr×Obj))(D:Ends)(f:Flow)(s':Shared):Prop:=
 match f with
 |.next=>∃a b,Inv X c a b s'/\D.nx a b
 |.brk=>∃a b,Inv X c a b s'/\D.bk a b
 |.cont=>∃a b,Inv X c a b s'/\D.ct a b
 |.ret u=>∃v a b,Inv X c a b s'/\RelV v u/\D.rt v b
def PE(X:Cx)(e:Expr)(t:TE):Prop:=
 ∀(b:List (Addr×Obj)) (s:Shared) (a:St) (H:Hp) (Q:VK),Inv X b a H s->t a H Q->wpAny (model X.prog X.w) X.A (eval e X.env) (EP X b a Q) X.xe s
def PT(X:Cx)(e:Expr)(t:TT):Prop:=
 ∀(b:List (Addr×Obj)) (s:Shared) (a:St) (H:Hp) (Q:Bool->Hp->Prop),Inv X b a H s->t a H Q->wpAny (model X.prog X.w) X.A (isTrue e X.env (eval e X.env)) (TP X b a Q) X.xe s
def PW(X:Cx)(e:Expr)(t:TT):Prop:=
 ∀(a:Sem Value) (c:List (Addr×Obj)) (s:Shared) (b:St) (H:Hp) (Q:Bool->Hp->Prop),Inv X c b H s->t b H Q->wpAny (model X.prog X.w) X.A (isTrue e X.env a) (TP X c b Q) X.xe s
theorem PW.pt{X:Cx}{e:Expr}{t:TT}(h:PW X e t):PT X e t:=h _
def PA(X:Cx)(es:List Expr)(t:TA):Prop:=
 ∀(b:Pos) (c:List (Addr×Obj)) (s:Shared) (a:St) (H:Hp) (Q:List V->Hp->Prop),Inv X c a H s->t a H Q->wpAny (model X.prog X.w) X.A (spliced (backTo b (starEach es X.env))) (AP X c a Q) X.xe s
def PS(X:Cx)(st:Stmt)(t:TS):Prop:=
 ∀(b:List (Addr×Obj)) (s:Shared) (a:St) (H:Hp) (D:Ends),Inv X b a H s->t D a H->wpAny (model X.prog X.w) X.A (exec st X.env) (SP X b D) X.xe s
def Xd(X:Cx)(st:List Stmt)(t:TS):Prop:=
 ∀(b:List (Addr×Obj)) (s:Shared) (a:St) (H:Hp) (D:Ends),Inv X b a H s->t D a H->wpAny (model X.prog X.w) X.A (execs st X.env) (SP X b D) X.xe s
theorem Wo{t:Sem G}{Q b:G->Shared->Prop}{M:Model}{A:Around}{E:Value->Shared->Prop}{s:Shared}(h:wpAny M A t Q E s)(c:∀a s,Q a s->b a s):wpAny M A t b E s:=wpAny_mono h c λ_ _ x=>x
section
variable{X:Cx}
theorem bin{a b:Expr}{k j:TE}(t:PE X a k)(r:PE X b j){s:Shared}{σ:St}{H:Hp}{R:V->V->Hp->Prop}(I:Inv X π σ H s)(h:k σ H λx i=>j σ i λy c=>R x y c)
  {Q:G->Shared->Prop}{f:Value->Value->Sem G}
  (q:∀v u g x y c,Inv X π σ c g->RelV x v->RelV y u->R x y c->wpAny (model X.prog X.w) X.A (f v u) Q X.xe g):
  wpAny (model X.prog X.w) X.A (eval a X.env) (λv e=>wpAny (model X.prog X.w) X.A (eval b X.env) (λu d=>wpAny (model X.prog X.w) X.A (f v u) Q X.xe d) X.xe e) X.xe s:=by
 refine Wo (t π s σ H _ I h) λv l ⟨x,i,B,n,p⟩=>?_;refine Wo (r π l σ i _ B p) λu g ⟨y,c,z,m,o⟩=>?_;exact q v u g x y c z n m o
inductive Gn(i:Nat)(σ:St)(H:Hp)(Q:VK):Prop
 | mk (v:_) (_:σ[i]?=some (some v)) (_:Q v H)
def tC(v:V):TE:=λ_ H Q=>Q v H
theorem Hh{i:Nat}{x:Str}{pos:Pos}(t:X.N[i]?=some x)(n:Vis X.env.scope x)(hd:(x==("__debug__" : Str))=false:=by decide)(f:(x==("__classdict__" : Str))=false:=by decide):PE X (.Name x pos) (Gn i):=by
 intro k s j H Q I h;obtain⟨v,e,h⟩:=h;obtain⟨m,o,q⟩:=I.loc;obtain⟨u,r,l⟩:=q i x v t e n;have d:EP X k j Q u s:=(v,H,I,r,h);rcases l with ⟨b,p⟩|⟨b,c,g,a⟩
 ·exact wpAny_Name (wpAny_loadName_local I.ok.kind b o p d) hd
 ·rcases b with b|b
  ·exact wpAny_Name (wpAny_loadName_cell I.ok.kind b g a d) hd
  ·exact wpAny_Name (wpAny_loadName_free I.ok.kind b g a d f) hd
theorem aA{i j pos}:PE X (.Constant (.int i) j pos) (tC (.int i)):=λ_ _ _ H _ I h=>wpAny_Constant_int (.int i,H,I.tok _,(_,7),h)
theorem cT{b j pos}:PE X (.Constant (.bool b) j pos) (tC (.bl b)):=λ_ _ _ H _ I h=>Constant_bool (.bl b,H,I,7,h)
theorem FN{j pos}:PE X (.Constant .none j pos) (tC .non):=λ_ _ _ H _ I h=>Constant_none (.non,H,I,7,h)
theorem dH{x j pos}:PE X (.Constant (.str x) j pos) (tC (.str x)):=λ_ _ _ H _ I h=>Calls.Constant_str (.str x,H,I.tok _,(_,7),h)
def Gl(X:Cx)(x:Str):Prop:=X.env.kindOf x=some .globalImplicit
theorem j7{E:Value->Shared->Prop}{s:Shared}{σ:St}{H:Hp}{x:Str}{u:Value}{pos:Pos}{Q:Value->Shared->Prop}(I:Inv X π σ H s)(b:Gl X x)(a:X.mg x=some u)(h:Q u s)
  (hd:(x==("__debug__" : Str))=false:=by decide):wpAny (model X.prog X.w) X.A (eval (.Name x pos) X.env) Q E s:=
 Calls.Name_function_global I.ok.kind b (Calls.loadGlobal_global (by rw[I.ok.glob];exact I.mod.glob.keeps I.bk) a h) hd
theorem fX{E:Value->Shared->Prop}{s:Shared}{σ:St}{H:Hp}{x:Str}{u:Value}{pos:Pos}{Q:Value->Shared->Prop}(I:Inv X π σ H s)(d:Gl X x)(c:X.mg x=none)(a:bootBuiltins x=some u)(h:Q u s)
  (b:x ≠ "__name__":=by decide)(hd:(x==("__debug__" : Str))=false:=by decide):wpAny (model X.prog X.w) X.A (eval (.Name x pos) X.env) Q E s:=by
 obtain⟨g,f,e⟩:=I.mod.blt;exact Calls.Name_function_global I.ok.kind d (Calls.loadGlobal_builtin (by rw[I.ok.glob];exact I.mod.glob.keeps I.bk) c (by rw[I.ok.blt];exact f.keeps I.bk) ((e x b).trans a) h) hd
theorem aV{x:Str}{v:V}{u:Value}{pos:Pos}(b:Gl X x)(a:X.mg x=some u)(r:RelV v u)(hd:(x==("__debug__" : Str))=false:=by decide):PE X (.Name x pos) (tC v):=
 λ_ _ _ H _ I h=>j7 I b a (v,H,I,r,h) hd
theorem jn{x:Str}{v:V}{u:Value}{pos:Pos}(d:Gl X x)(c:X.mg x=none)(a:bootBuiltins x=some u)(r:RelV v u)(b:x ≠ "__name__":=by decide)(hd:(x==("__debug__" : Str))=false:=by decide):PE X (.Name x pos) (tC v):=
 λ_ _ _ H _ I h=>fX I d c a (v,H,I,r,h) b hd
variable{a:Expr}{ta tb:TE}{pos:Pos}
def PC(X:Cx)(g:CmpOp)(a b:Expr)(t:TE):Prop:=
 ∀(f:List (Addr×Obj)) (s:Shared) (e:St) (H:Hp) (Q:VK),Inv X f e H s->t e H Q ->
  wpAny (model X.prog X.w) X.A (eval a X.env) (λv d=>wpAny (model X.prog X.w) X.A (eval b X.env) (λu c=>wpAny (model X.prog X.w) X.A (compareOp g v u) (EP X f e Q) X.xe c) X.xe d) X.xe s
theorem MF(b:Expr){c:CmpOp}(h:c ≠ .In)(d:c ≠ .NotIn):behindInMarks c b=false:=by
 have f:(c==CmpOp.In)=false:=by cases c<;>first|rfl|exact absurd rfl h
 have e:(c==CmpOp.NotIn)=false:=by cases c<;>first|rfl|exact absurd rfl d
 cases b<;>simp[behindInMarks,f,e]
def Q7(Q:VK):VK:=λx c=>Q (.bl (decide (x=.non))) c
def Wc(ta:TE):TE:=λ c H Q=>ta c H (Q7 Q)
theorem RelV.none_iff{x:V}{v:Value}(r:RelV x v):(v==Value.none)=decide (x=.non):=by
 cases x with
 |non=>cases r;rfl
 |bl _=>cases r;rfl
 |int _=>obtain⟨t,rfl⟩:=r;rfl
 |str _=>obtain⟨t,rfl⟩:=r;rfl
 |Yk _=>obtain⟨t,rfl⟩:=r;rfl
 |flt _=>obtain⟨t,rfl⟩:=r;rfl
 |ref _=>cases r;rfl
 |ty _=>cases r;rfl
theorem Oi{j pos'}(g:PE X a ta):PC X .Is a (.Constant .none j pos') (Wc ta):=by
 intro d s c H Q I h;refine Wo (g d s c H _ I h) λv l ⟨x,k,i,e,f⟩=>?_;exact Constant_none (is_none_gen (.bl _,k,i,by rw[e.none_iff];rfl,f))
inductive Wk(Q:Bool->Hp->Prop)(x:V)(H1:Hp):Prop
 | mk (c:_) (_:x=.bl c) (_:Q c H1)
def tB(t:TE):TT:=λ c H Q=>t c H (Wk Q)
theorem FT{e:CmpOp}{t:TE}(h:PC X e a b t)(f:behindInMarks e b=false:=by first|exact MF _ ∅ ∅ | rfl):PT X (.Compare a [e] [b] pos) (tB t):=by
 intro i s g H Q I l;refine wpAny_isTrue_Compare1 (Wo (h i s g H _ I l) λv w f=>Wo f λu r m=>Wo m λc p ⟨x,o,n,j,k⟩=>?_) f;obtain⟨d,rfl,q⟩:=k;cases j;exact wpAny_truthy_bool (o,n,q)
theorem lF{e:Expr}{t:TE}(h:PE X e t)(l:∀c,isTrue e X.env c=(do let v <-c;standAt e.pos;holding [v] (truthy v)):=by intro _;rfl):PT X e (tB t):=by
 intro g s f H Q I k;refine isTrue_plain (Wo (h g s f H _ I k) λv o ⟨x,n,m,i,j⟩=>?_) (l _);obtain⟨d,rfl,q⟩:=j;cases i;exact wpAny_truthy_bool (n,m,q)
variable{tA tB':TT}{rest:List Expr}
def UV(t u:TT):TT:=λ d H Q=>t d H λc e=>if c=true then u d e Q else Q false e
def tOr(t u:TT):TT:=λ d H Q=>t d H λc e=>if c=true then Q true e else u d e Q
def V0(t:TT):TT:=λ d H Q=>t d H λc e=>Q (!c) e
theorem kI(g:PT X a tA):PW X (.BoolOp .And [a] pos) tA:=by
 intro i f s d H Q I h;refine isTrue_and (Wo (g f s d H Q I h) λc j e=>?_);cases c with
 |true=>exact isTrue_and_nil e
 |false=>exact e
theorem o5(g:PT X a tA):PW X (.BoolOp .Or [a] pos) tA:=by
 intro i f s d H Q I h;refine isTrue_or (Wo (g f s d H Q I h) λc j e=>?_);cases c with
 |false=>exact isTrue_or_nil e
 |true=>exact e
theorem mR(m:PT X a tA)(l:PW X (.BoolOp .And (b::rest) pos) tB'):PW X (.BoolOp .And (a::b::rest) pos) (UV tA tB'):=by
 intro j e s d H Q I h;refine isTrue_and (Wo (m e s d H _ I h) λc k ⟨i,g,f⟩=>?_);cases c with
 |true=>exact l j e k d i Q g f
 |false=>exact(i,g,f)
theorem tO(m:PT X a tA)(l:PW X (.BoolOp .Or (b::rest) pos) tB'):PW X (.BoolOp .Or (a::b::rest) pos) (tOr tA tB'):=by
 intro j e s d H Q I h;refine isTrue_or (Wo (m e s d H _ I h) λc k ⟨i,g,f⟩=>?_);cases c with
 |true=>exact(i,g,f)
 |false=>exact l j e k d i Q g f
theorem gY(f:PT X a tA):PT X (.UnaryOp .Not a pos) (V0 tA):=by
 intro e s d H Q I h;exact isTrue_not (f e s d H (λc g=>Q (!c) g) I h)
inductive PX(tb:TE)(σ:St)(Q:VK)(x:V)(H1:Hp):Prop
 | mk (c:_) (_:x=.bl c) (_:if c=true then tb σ H1 Q else Q (.bl false) H1)
def Vy(ta tb:TE):TE:=λ c H Q=>ta c H (PX tb c Q)
inductive Qi(Q:VK)(x:V)(H1:Hp):Prop
 | mk (c:_) (_:x=.bl c) (_:Q (.bl (!c)) H1)
def VM(ta:TE):TE:=λ c H Q=>ta c H (Qi Q)
theorem Bm{op}{t:TE}(h:PE X a t):PE X (.BoolOp op [a] pos) t:=λ d s c H Q I e=>BoolOp_one (h d s c H Q I e)
theorem Af(m:PE X a ta)(l:PE X (.BoolOp .And (b::rest) pos) tb):PE X (.BoolOp .And (a::b::rest) pos) (Vy ta tb):=by
 intro f s e H Q I h;refine BoolOp_and (Wo (m f s e H _ I h) λv j ⟨x,i,g,k,d⟩=>?_);obtain⟨c,rfl,d⟩:=d;cases k;refine wpAny_truthy_bool ?_;cases c with
 |true=>exact l f j e i Q g d
 |false=>exact(.bl false,i,g,7,d)
theorem T4(i:PE X a ta):PE X (.UnaryOp .Not a pos) (VM ta):=by
 intro f s e H Q I h;refine UnaryOp_ (Wo (i f s e H _ I h) λv l ⟨x,k,j,g,d⟩=>?_);obtain⟨c,rfl,d⟩:=d;cases g;exact not_of (wpAny_truthy_bool (.bl (!c),k,j,7,d))
def tIf(t:TT)(ta tb:TE):TE:=λ d H Q=>t d H λc e=>if c=true then ta d e Q else tb d e Q
theorem Pj{c:Expr}(l:PT X c tA)(n:PE X a ta)(m:PE X b tb):PE X (.IfExp c a b pos) (tIf tA ta tb):=by
 intro f s e H Q I h;refine wpAny_IfExp (Wo (l f s e H _ I h) λd g ⟨k,j,i⟩=>?_);cases d with
 |true=>exact n f g e k Q j i
 |false=>exact m f g e k Q j i
end
def My(K:PySem.W.Frag)(H:Hp)(a:Addr)(xs:List V):Prop:=
 Rd H a (.lst xs) \/
  ∃(o:Obj) (b:Array Value) (n:Nat),K.lookup a=some o/\o.cls=.type "list" /\ o.dict=none/\o.data=.seq b n/\b.size<=sizeLine/\Vals xs b.toList
def Wq(K:PySem.W.Frag)(H:Hp)(a:Addr)(xs:List V):Prop:=
 Rd H a (.tup xs) \/
  ∃(o:Obj) (b:Array Value) (n:Nat),K.lookup a=some o/\o.cls=.type "tuple" /\ o.data=.seq b n/\b.size<=sizeLine/\Vals xs b.toList
def Wh:Value->Option V
 |.none=>some .non
 |.bool b=>some (.bl b)
 |.int i _=>some (.int i)
 |.str x _=>some (.str x)
 |.bytes b _=>some (.Yk b)
 |.float b _=>some (.flt b)
 |.ref a=>some (.ref a)
 |.type n=>some (.ty n)
 |_=>none
theorem RelV.abs{x:V}{u:Value}(r:RelV x u):Wh u=some x:=by
 cases x with
 |non=>cases r;rfl
 |bl _=>cases r;rfl
 |int _=>obtain⟨t,rfl⟩:=r;rfl
 |str _=>obtain⟨t,rfl⟩:=r;rfl
 |Yk _=>obtain⟨t,rfl⟩:=r;rfl
 |flt _=>obtain⟨t,rfl⟩:=r;rfl
 |ref _=>cases r;rfl
 |ty _=>cases r;rfl
theorem RelV.inj{x y:V}{u:Value}(r:RelV x u)(q:RelV y u):x=y:=aat (r.abs.symm.trans q.abs)
theorem Vals.inj:∀{xs ys:List V}{a:List Value},Vals xs a->Vals ys a->xs=ys
 |_,_,_,.nil,.nil=>rfl
 |_,_,_,.cons r t,.cons c b=>by rw[r.inj c,Vals.inj t b]
section
variable{X:Cx}{σ:St}{H:Hp}{xs ys:List V}
theorem My.of{K:PySem.W.Frag}(h:H a=some (.lst xs)):My K H a xs:=.inl (.inl h)
theorem Wq.of{K:PySem.W.Frag}(h:H a=some (.tup xs)):Wq K H a xs:=.inl (.inl h)
theorem Inv.list(I:Inv X π σ H s)(h:My X.K H a xs):∃b:List Value,Vals xs b/\PlainL s.heap a b.toArray/\xs.length<=sizeLine:=by
 rcases h with h|⟨o,b,n,d,f,hd,c,g,r⟩
 ·obtain⟨z,b,n,r,e⟩:=h.ok I.hok;exact(b,r,(_,n,e,7,7,7),z)
 ·exists b.toList,r,(o,n,I.Xc a o d,f,hd,by simpa using c);have e:=r.length;simp only[aaf]at e;lia
theorem Inv.tuple(I:Inv X π σ H s)(h:Wq X.K H a xs):∃b:List Value,Vals xs b/\IsTup s.heap a b.toArray/\xs.length<=sizeLine:=by
 rcases h with h|⟨o,b,n,d,f,c,g,r⟩
 ·obtain⟨z,b,r,p⟩:=h.ok I.hok;exact(b,r,p,z)
 ·exists b.toList,r,(o,I.Xc a o d,f,n,by simpa using c);have e:=r.length;simp only[aaf]at e;lia
theorem Inv.list_inj(I:Inv X π σ H s)(h:My X.K H a xs)(h':My X.K H a ys):xs=ys:=by
 obtain⟨c,r,⟨o,n,e,_,_,d⟩,_⟩:=I.list h;obtain⟨b,i,⟨k,l,f,_,_,g⟩,_⟩:=I.list h';rw[e]at f;cases f;rw[d]at g;injection g with j _
 have:c=b:=by simpa using congrArg ajI j
 subst this;exact r.inj i
theorem Inv.tuple_inj(I:Inv X π σ H s)(h:Wq X.K H a xs)(h':Wq X.K H a ys):xs=ys:=by
 obtain⟨c,r,⟨o,e,_,n,d⟩,_⟩:=I.tuple h;obtain⟨b,i,⟨k,f,_,l,g⟩,_⟩:=I.tuple h';rw[e]at f;cases f;rw[d]at g;injection g with j _
 have:c=b:=by simpa using congrArg ajI j
 subst this;exact r.inj i
end
abbrev Cx.wish(X:Cx)(E:Value->Shared->Prop):Cx:={X with xe:=E}
abbrev Cx.ZF(X:Cx):Cx:=X.wish λ_ _=>False
theorem Cx.Ok.wish{X:Cx}(a:X.Ok)(E:Value->Shared->Prop):(X.wish E).Ok:=
 (a.mod,a.kind,a.glob,a.blt,a.above,a.inj,a.has,a.cab,a.hd,a.frames,a.Xr,a.Zg,a.bs,a.XM,a.noex,a.exfs,a.funs,a.Yr)
theorem Cx.Ok.unwish{X:Cx}{E:Value->Shared->Prop}(a:(X.wish E).Ok):X.Ok:=
 (a.mod,a.kind,a.glob,a.blt,a.above,a.inj,a.has,a.cab,a.hd,a.frames,a.Xr,a.Zg,a.bs,a.XM,a.noex,a.exfs,a.funs,a.Yr)
section
variable{X:Cx}{σ:St}{H:Hp}
theorem Inv.wish(I:Inv X π σ H s)(E:Value->Shared->Prop):Inv (X.wish E) π σ H s:=(I.ok.wish E,I.os,I.bare,I.base,I.loc,I.cell,I.free,I.freeC,I.pin,I.hok,I.len)
theorem Inv.unwish(I:Inv (X.wish E) π σ H s):Inv X π σ H s:=(I.ok.unwish,I.os,I.bare,I.base,I.loc,I.cell,I.free,I.freeC,I.pin,I.hok,I.len)
theorem SP.unwish{D:Ends}{f:Flow}{s':Shared}(h:SP (X.wish E) π D f s'):SP X π D f s':=by
 cases f with
 |next=>obtain⟨a,b,I,q⟩:=h;exact(a,b,I.unwish,q)
 |brk=>obtain⟨a,b,I,q⟩:=h;exact(a,b,I.unwish,q)
 |cont=>obtain⟨a,b,I,q⟩:=h;exact(a,b,I.unwish,q)
 |ret u=>obtain⟨v,a,b,I,r,q⟩:=h;exact(v,a,b,I.unwish,r,q)
theorem Xd.ZF{st:List Stmt}{t:TS}(h:Xd X.ZF st t):Xd X st t:=λ π s σ H D I a=>
 wpAny_mono (h π s σ H D (I.wish _) a) (λ_ _ q=>q.unwish) λ_ _ z=>False.elim z
end
section
variable{X:Cx}{st:Stmt}{rest:List Stmt}{t u:TS}{te:TE}{pos:Pos}
def Bw:TS:=λD a H=>D.nx a H
def VP(t u:TS):TS:=λD a H=>t {D with nx:=u D} a H
theorem aQ:Xd X [] Bw:=λ_ _ a H _ I h=>wpAny_execs_nil (a,H,I,h)
theorem ao(i:PS X st t)(g:Xd X rest u):Xd X (st::rest) (VP t u):=by
 intro b s c H D I h;refine wpAny_execs_cons (Wo (i b s c H {D with nx:=u D} I h) λf d q=>?_);cases f with
 |next=>
  obtain⟨a,k,j,q⟩:=q;exact g b d a k D j q
 |ret v=>exact q
 |brk=>exact q
 |cont=>exact q
theorem aB(c:PS X st t):Xd X [st] t:=by
 intro b s a H D I h;refine wpAny_execs_cons (Wo (c b s a H D I h) λf d q=>?_);cases f with
 |next=>exact wpAny_execs_nil q
 |ret v=>exact q
 |brk=>exact q
 |cont=>exact q
theorem Inv.quiet{σ:St}{H:Hp}{s:Shared}(I:Inv X π σ H s):interactive X.env=false:=by simp[interactive,I.ok.kind]
def Pa(D:Ends)(σ:St):VK:=λ_ a=>D.nx σ a
def Vx(te:TE):TS:=λD a H=>te a H (Pa D a)
theorem bC(f:PE X e te)(d:swapsWith e none pos.line X.env=pure false:=by rfl):PS X (.Expr e pos) (Vx te):=by
 intro b s a H D I h;exact wpAny_Expr_any (Wo (f b s a H _ I h) λv j ⟨x,i,g,k,c⟩=>(a,i,g,c)) I.quiet d
def V2(te:TE):TS:=λD a H=>te a H D.rt
theorem aG(f:PE X e te):PS X (.Return (some e) pos) (V2 te):=by
 intro b s a H D I h;exact wpAny_Return_some (Wo (f b s a H _ I h) λv j ⟨x,i,g,c,d⟩=>(x,a,i,g,c,d))
def U4(c:TT)(t u:TS):TS:=λD a H=>c a H λb d=>if b=true then t D a d else u D a d
theorem bx{c:Expr}{a b:List Stmt}{i:TT}(n:PT X c i)(p:Xd X a t)(o:Xd X b u):PS X (.If c a b pos) (U4 i t u):=by
 intro g s f H D I h;refine wpAny_If (Wo (n g s f H _ I h) λd j ⟨m,l,k⟩=>?_);cases d with
 |true=>exact p g j f m D l k
 |false=>exact o g j f m D l k
def Tn:TS:=λ_ _ _=>False
theorem nO:PS X st Tn:=λ_ _ _ _ _ _ h=>h.elim
end
abbrev TG:=V->St->Hp->(St->Hp->Prop)->Prop
abbrev ZG:=List V->St->Hp->(St->Hp->Prop)->Prop
def PG(X:Cx)(a:Expr)(t:TG):Prop:=
 ∀(d:List (Addr×Obj)) (s:Shared) (c:St) (H:Hp) (v:V) (u:Value) (Q:St->Hp->Prop),Inv X d c H s->RelV v u->t v c H Q ->
  wpAny (model X.prog X.w) X.A (assign a X.env u) (λ_ f=>∃b e,Inv X d b e f/\Q b e) X.xe s
def PGs(X:Cx)(g:List Expr)(t:ZG):Prop:=
 ∀(c:List (Addr×Obj)) (s:Shared) (b:St) (H:Hp) (d:List V) (e:List Value) (Q:St->Hp->Prop),Inv X c b H s->Vals d e->t d b H Q ->
  wpAny (model X.prog X.w) X.A (assignInOrder ((assignEach g X.env).map (·.2)) e) (λ_ h=>∃a f,Inv X c a f h/\Q a f) X.xe s
abbrev Pz:=V->V->V->Hp->(Hp->Prop)->Prop
def VJ(X:Cx)(t:Pz):Prop:=
 ∀(b:List (Addr×Obj)) (s:Shared) (a:St) (H:Hp) (o i v:V) (c d u:Value) (Q:Hp->Prop),Inv X b a H s->RelV o c->RelV i d->RelV v u->t o i v H Q ->
  wpAny (model X.prog X.w) X.A (setItem c d u) (λ_ f=>∃e,Inv X b a e f/\Q e) X.xe s
section
variable{X:Cx}{pos:Pos}
def eZ(i:Nat):TG:=λv a H Q=>Q (a.set i (some v)) H
theorem j9{i:Nat}{x:Str}(d:X.N.Nodup)(b:X.N[i]?=some x)(a:Loc X.env.scope x)(c:X.fn x=true\/X.env.scope.names.lookup x=some .local:=by first|exact .inl rfl|exact .inr rfl|assumption):PG X (.Name x pos) (eZ i):=by
 intro g s f H v u Q I r h;exact wpAny_assign_Name (ql I d b a r (λj e=>(_,H,e,h)) c)
theorem aR{x:Str}(i:Nat)(d:X.N.Nodup)(b:X.N[i]?=some x:=by rfl)(a:Loc X.env.scope x:=by exact ag3 rfl)(c:X.fn x=true\/X.env.scope.names.lookup x=some .local:=by first|exact .inl rfl|exact .inr rfl|assumption):PG X (.Name x pos) (eZ i):=j9 d b a c
def Vs:ZG:=λb a H Q=>b=[]/\Q a H
inductive Oh(t:TG)(u:ZG)(vs:List V)(σ:St)(H:Hp)(Q:St->Hp->Prop):Prop
 |mk (v r:_) (_:vs=v::r) (_:t v σ H λ σ' H'=>u r σ' H' Q)
theorem nY:PGs X [] Vs:=by
 intro b s a H c d Q I r h;obtain⟨e,h⟩:=h;subst e;cases r;exact assignInOrder_nil (a,H,I,h)
theorem dw{e:Expr}{es:List Expr}{t:TG}{u:ZG}(k:PG X e t)(j:PGs X es u)
  (i:(assignEach (e::es) X.env).map (·.2)=assign e X.env::(assignEach es X.env).map (·.2):=by rfl):PGs X (e::es) (Oh t u):=by
 intro b s c H o q Q I r h;obtain⟨v,p,l,h⟩:=h;subst l;cases r with
 |cons r f=>
  rw[i];refine assignInOrder_cons (Wo (k b s c H _ _ _ I r h) λ_ d ⟨a,n,m,g⟩=>?_);exact j b d a n _ _ Q m f g
inductive Vd(K:PySem.W.Frag)(n:Nat)(t:ZG)(v:V)(σ:St)(H:Hp)(Q:St->Hp->Prop):Prop
 | mk (a xs:_) (_:v=.ref a) (_:Wq K H a xs) (_:xs.length=n) (_:t xs σ H Q)
theorem rY{es:List Expr}{k:Nat}{t:ZG}{n:Nat}(w:X.calm=true)(h:PGs X es t)
  (p:(assignEach es X.env).length=n:=by rfl)(d:(assignEach es X.env).findIdx? (·.1)=none:=by rfl):PG X (.Tuple es k pos) (Vd X.K n t):=by
 intro g s f H v u Q I r c;obtain⟨a,j,y,m,q,c⟩:=c;subst y;cases r;obtain⟨A,i,ht,B⟩:=I.tuple m;refine assign_Tuple_tuple (I.ok.hd w) ht (by simp[p,<-q,i.length]) d λx l=>?_;have z:Inv X g f H {s with heap:=x}:=I.kept (t':=s.toks) λb o e=>l b o (aaA (Heap.lt_size e)) e;exact h g _ f H j _ Q z (by simpa using i) c
def Qp(t:Pz)(v:V)(σ:St)(Q:St->Hp->Prop)(o:V):VK:=λi a=>t o i v a (Q σ)
def QK(a:TE)(t:Pz)(v:V)(σ:St)(Q:St->Hp->Prop):VK:=λo b=>a σ b (Qp t v σ Q o)
def Wm(b c:TE)(t:Pz):TG:=λv a H Q=>b a H (QK c t v a Q)
theorem Ot{o i:Expr}{e f:TE}{t:Pz}(w:PE X o e)(z:PE X i f)(q:VJ X t)
  (A:∀v,assign (.Subscript o i pos) X.env v=(do
   let a <-holding [v] (eval o X.env)
   let b <-holding [v,a] (eval i X.env)
   standAt pos
   holding [v,a,b] (setItem a b v)
   release [v,a,b] []):=by intro _;rfl):PG X (.Subscript o i pos) (Wm e f t):=by
 intro d s c H v u Q I r h;rw[A];refine wpAny_bind (wpAny_holding (Wo (w d s c H _ I h) λa j ⟨x,G,D,l,p⟩=>?_));refine wpAny_bind (wpAny_holding (Wo (z d j c G _ D p) λb g ⟨y,F,C,k,n⟩=>?_));refine wpAny_bind (wpAny_standAt (wpAny_bind (wpAny_holding (Wo (q d g c F x y v a b u _ C l k r n) λ_ J ⟨E,B,m⟩=>?_))));exact wpAny_release (c,E,B,m)
def QC(g:TG)(D:Ends)(σ:St):VK:=λx a=>g x σ a D.nx
def CK(b:TE)(g:TG):TS:=λD a H=>b a H (QC g D a)
theorem O3{e:Expr}{c:TE}{g:TG}(m:PE X e c)(l:PG X tg g)(k:swapsWithSole [tg] e pos.line X.env=pure false:=by rfl)(j:swappedStores [tg] e X.env=pure none:=by rfl)
  (n:(assignEach [tg] X.env).map (·.2)=[assign tg X.env]:=by rfl):PS X (.Assign [tg] e pos) (CK c g):=by
 intro b s a H D I h;refine wpAny_Assign_stores (Wo (m b s a H _ I h) λv d ⟨x,p,o,f,i⟩=>?_) k j;rw[n];exact Wo (l b d a p x v _ o f i) λ_ r q=>q
theorem rT{i:Nat}{x:Str}{e:Expr}{a:TE}(n:X.N.Nodup)(k:X.N[i]?=some x)(g:Loc X.env.scope x)(m:PE X e a)(j:swapsWith e (some (.Name x p)) pos.line X.env=pure false:=by rfl)(l:X.fn x=true\/X.env.scope.names.lookup x=some .local:=by first|exact .inl rfl|exact .inr rfl|assumption):
  PS X (.Assign [.Name x p] e pos) (CK a (eZ i)):=by
 intro c s b H D I h;refine wpAny_Assign_Name (Wo (m c s b H _ I h) λv u ⟨y,r,q,d,f⟩=>?_) j;exact ql q n k g d (λt o=>(_,r,o,f)) l
theorem aC{x:Str}{e:Expr}{a:TE}(i:Nat)(h:X.N.Nodup)(g:PE X e a)(d:X.N[i]?=some x:=by rfl)(b:Loc X.env.scope x:=by exact ag3 rfl)(c:swapsWith e (some (.Name x p)) pos.line X.env=pure false:=by rfl)(f:X.fn x=true\/X.env.scope.names.lookup x=some .local:=by first|exact .inl rfl|exact .inr rfl|assumption):
  PS X (.Assign [.Name x p] e pos) (CK a (eZ i)):=rT h d b g c f
end
section
variable{X:Cx}{pos:Pos}
def T9(c:TT)(h:TS):TS:=λD a H=>∃W:Nat->St->Hp->Prop,(∃m,W m a H) /\ ∀m a H,W m a H ->
 c a H λb f=>if b=true then ∃N:St->Hp->Prop,(∀d g,N d g -> ∃e,e<m/\W e d g)/\h {D with nx:=N,ct:=N,bk:=D.nx} a f else D.nx a f
theorem Om{c:Expr}{e:List Stmt}{u:TT}{x:TS}(y:PassesOwn (model X.prog X.w) X.A X.env X.xe)(Q:PT X c u)(R:Xd X e x):PS X (.While c e [] pos) (T9 u x):=by
 intro m s G H D I h;obtain⟨W,⟨P,K⟩,j⟩:=h;refine wpAny_While (codeAny_whileLoop (λn O=>∃i F,Inv X m i F O/\W n i F) ?_ P (G,H,I,K));rintro n M ⟨d,E,S,J⟩;refine wpAny_passesOwn y (Wo (Q m M d E _ S (j n d E J)) λb L ⟨C,B,l⟩=>?_);cases b with
 |true=>
  obtain⟨N,z,l⟩:=l;rw[if_pos rfl];refine wpAny_passesOwn y (Wo (R m L d C _ B l) λf T k=>?_);cases f with
  |next=>
   obtain⟨a,g,t,p⟩:=k;obtain⟨q,r,o⟩:=z a g p;exact(q,r,a,g,t,o)
  |cont=>
   obtain⟨a,g,t,p⟩:=k;obtain⟨q,r,o⟩:=z a g p;exact(q,r,a,g,t,o)
  |brk=>exact k
  |ret v=>exact k
 |false=>
  rw[if_neg aaT];exact wpAny_execs_nil (d,C,B,l)
end
structure It where
 go:Nat->Hp->Prop
 Yd:Nat->Hp->V->Hp->Prop
 stop:Nat->Hp->Prop
def gf(X:Cx)(a:List (Addr×Obj))(H:Hp)(b:Addr):Prop:=
 H b=none/\b≠X.env.locals/\b∉X.fs/\(b∈X.ex\/X.s₀.heap.objs.size<=b)/\(∀x c,X.env.cells.lookup x=some c->c≠b) /\ ∀p∈X.pn++a,p.1≠b
theorem Inv.fpOk{X:Cx}{σ:St}{H H':Hp}{s:Shared}{b:Addr}(I:Inv X π σ H s)(a:s.heap.objs.size<=b)(f:H' b=none):gf X π H' b:=by
 refine(f,ait (aas I.lt a),I.nofs a,.inr (agx I.sz a),λx c e z=>?_,λp d z=>?_)
 ·obtain⟨v,q⟩:=I.cell x c e;exact absurd (aas q.lt (by rw[z];exact a)) (agB _)
 ·exact absurd (aas (Heap.lt_size (I.pin p d).1) (by rw[z];exact a)) (agB _)
structure Turn(P:Program)(w:World)(K:PySem.W.Frag)(tg:Expr)(J:It)(fp:List Addr)(it:Addr)(tn:Nat->Heap->Prop):Prop where
 mem:it∈fp
 obj:∀i h,tn i h -> ∀b∈fp,∃o,h.get? b=some o /\ ∀v,o.data ≠ .cell v
 keep:∀i h h',tn i h->(∀b∈fp,∀o,h.get? b=some o->h'.get? b=some o)->tn i h'
 item:∀(X:Cx),X.prog=P->X.w=w->X.K=K->X.calm=true -> ∀(i:Nat) (π:List (Addr×Obj)) (s:Shared) (σ:St) (H:Hp) (E:Value->Shared->Prop),Inv X π σ H s->(∀b∈fp,gf X π H b)->tn i s.heap->J.go i H ->
  wpAny (model P w) X.A (pyNext (.ref it)) (λr s1=>∃u,r=some u /\
   wpAny (model P w) X.A (letOwnedTupleGo tg (.ref it) u) (λ_ s2=>∃x H',Inv X π σ H' s2/\RelV x u/\J.Yd i H x H'/\tn (i+1) s2.heap /\ ∀b∈fp,H' b=none) E s1) E s
 done:∀(X:Cx),X.prog=P->X.w=w->X.K=K->X.calm=true -> ∀(i:Nat) (π:List (Addr×Obj)) (s:Shared) (σ:St) (H:Hp) (E:Value->Shared->Prop),Inv X π σ H s->(∀b∈fp,gf X π H b)->tn i s.heap->J.stop i H ->
  wpAny (model P w) X.A (pyNext (.ref it)) (λr s1=>r=none/\Inv X π σ H s1) E s
 self:∀(A:Around) (i:Nat) (s:Shared) (Q:Value->Shared->Prop) (E:Value->Shared->Prop),tn i s.heap->Q (.ref it) s->wpAny (model P w) A (pyIter (.ref it)) Q E s
abbrev TI:=St->Hp->(It->Hp->Prop)->Prop
inductive PIE(X:Cx)(π:List (Addr×Obj))(σ:St)(tg:Expr)(R:It->Hp->Prop)(itv:Value)(s2:Shared):Prop
 | mk (it:Addr) (fp:List Addr) (tn:Nat->Heap->Prop) (J:It) (H':Hp) (_:itv=.ref it) (_:Inv X π σ H' s2) (_:Turn X.prog X.w X.K tg J fp it tn) (_:tn 0 s2.heap) (_:(∀b∈fp,gf X π H' b)) (_:R J H')
def PI(X:Cx)(d iter:Expr)(c:TI):Prop:=
 ∀(b:List (Addr×Obj)) (s:Shared) (a:St) (H:Hp) (R:It->Hp->Prop),Inv X b a H s->c a H R ->
  wpAny (model X.prog X.w) X.A (eval iter X.env) (λv e=>wpAny (model X.prog X.w) X.A (pyIter v) (PIE X b a d R) X.xe e) X.xe s
theorem uR{M:Model}{A:Around}{E:Value->Shared->Prop}{s:Shared}{u:Value}{o:Obj}{n:String}{vs:Array Value}{Q:Unit->Shared->Prop}(c:s.heap.get? a=some o)(f:o.cls=.type n)(hd:o.data=.fields vs)
    (d:["enumerate","zip","dict_itemiterator","dict_reverseitemiterator","odict_iterator","itertools.zip_longest","itertools.pairwise"].contains n=false)(b:Q () s):wpAny M A (letOwnedTupleGo e (.ref a) u) Q E s:=by
  unfold letOwnedTupleGo;cases e<;>first
    | exact wpAny_pure b
    | (cases u<;>first
        | exact wpAny_pure b
        | (refine wpAny_bind (wpAny_load c ?_)
           rw[f,hd]
           show wpAny M A (if (["enumerate","zip","dict_itemiterator","dict_reverseitemiterator","odict_iterator","itertools.zip_longest","itertools.pairwise"].contains n&&vs[0]? == some (rawInt _))=true then _ else _) Q E s
           rw[if_neg (by intro h;rw[d,ajt]at h;cases h)];exact wpAny_pure b))
def YL(K:PySem.W.Frag)(a:Addr):It:=
 (λi H=>∃b x,My K H a b/\b[i]?=some x,λi H x c=>c=H /\ ∀b,My K H a b->b[i]?=some x,λi H=>∃b,My K H a b/\b.length<=i)
def Zh(K:PySem.W.Frag)(a:Addr):It:=
 (λi H=>∃b x,Wq K H a b/\b[i]?=some x,λi H x c=>c=H /\ ∀b,Wq K H a b->b[i]?=some x,λi H=>∃b,Wq K H a b/\b.length<=i)
def Yt(lo:Int)(n:Nat):It:=(λi _=>i<n,λi H x a=>a=H/\x=.int (lo+i),λi _=>n<=i)
theorem zq{w:World}{K:PySem.W.Frag}(a j:Addr):Turn prog w K e (YL K a) [j] j (λi h=>h.IsListIter j a i) where
 mem:=by simp
 obj:=λi h g b l=>by
  have f:b=j:=by simpa using l
  subst f;obtain⟨o,f,c,d⟩:=g;exact(o,f,λv z=>by rw[d]at z;cases z)
 keep:=λi h r g k=>g.at λo f=>k j (by simp) o f
 item:=by
  intro X C A D R i Q s O H E I q g B;subst C A D;obtain⟨S,x,n,y⟩:=B;obtain⟨N,t,p,V⟩:=I.list n;obtain⟨u,Z,U⟩:=t.get y;obtain⟨M,L,f2,J,G,F⟩:=q j (by simp);refine wpAny_pyNext_list_item g p.isList (x:=u) (by simpa using Z) λr m T=>?_;have I1:Inv X Q O H {s with heap:=r}:=I.turned (t':=s.toks) (λb o l f=>(T.2 b l).trans f) M L J G F;obtain⟨o,f,c,d⟩:=id m;exact(u,7,uR (s:={s with heap:=r}) f c d ∅ (x,H,I1,U,(7,λys Y=>by rw[I.list_inj Y n];exact y),m,λb l=>(q b l).1))
 done:=by
  intro X C A D R i Q s O H E I q g B;subst C A D;obtain⟨S,n,y⟩:=B;obtain⟨N,t,p,V⟩:=I.list n;obtain⟨M,L,f2,J,G,F⟩:=q j (by simp);have hl:=t.length;exact wpAny_pyNext_list_end (I.ok.hd R) g p.isList (by simp;lia) λr eb=>(7,I.turned (t':=s.toks) (λb o l f=>eb b o l f) M L J G F)
 self:=λ_ _ _ _ _ g h=>wpAny_pyIter_listiter g h
theorem vA{w:World}{K:PySem.W.Frag}(a j:Addr):Turn prog w K e (Zh K a) [j] j (λi h=>h.IsTupleIter j a i) where
 mem:=by simp
 obj:=λi h g b l=>by
  have f:b=j:=by simpa using l
  subst f;obtain⟨o,f,c,d⟩:=g;exact(o,f,λv z=>by rw[d]at z;cases z)
 keep:=λi h t g k=>g.at λo f=>k j (by simp) o f
 item:=by
  intro X D B F R i Q s O H E I r g C;subst D B F;obtain⟨S,x,q,A⟩:=C;obtain⟨m,y,p,V⟩:=I.tuple q;obtain⟨u,Z,U⟩:=y.get A;obtain⟨N,M,f2,L,J,G⟩:=r j (by simp);refine wpAny_pyNext_tuple_item g (show s.heap.IsTuple a m.toArray from p) (x:=u) (by simpa using Z) λt n T=>?_;have I1:Inv X Q O H {s with heap:=t}:=I.turned (t':=s.toks) (λb o l f=>(T.2 b l).trans f) N M L J G;obtain⟨o,f,c,d⟩:=id n;exact(u,7,uR (s:={s with heap:=t}) f c d ∅ (x,H,I1,U,(7,λys Y=>by rw[I.tuple_inj Y q];exact A),n,λb l=>(r b l).1))
 done:=by
  intro X D B F R i Q s O H E I r g C;subst D B F;obtain⟨S,q,A⟩:=C;obtain⟨m,y,p,V⟩:=I.tuple q;obtain⟨N,M,f2,L,J,G⟩:=r j (by simp);have hl:=y.length;exact wpAny_pyNext_tuple_end (I.ok.hd R) g (show s.heap.IsTuple a m.toArray from p) (by simp;lia) λt eb=>(7,I.turned (t':=s.toks) (λb o l f=>eb b o l f) N M L J G)
 self:=λ_ _ _ _ _ g h=>wpAny_pyIter_tupleiter g h
theorem Gq{w:World}{K:PySem.W.Frag}(d:Addr)(lo:Int)(n:Nat):Turn prog w K e (Yt lo n) [d] d (λi h=>IsRangeIter h d (lo+(i:Nat)*1) ((n:Int)-(i:Nat)) 1) where
 mem:=by simp
 obj:=λi h c b f=>by
  have a:b=d:=by simpa using f
  subst a;exact(_,c,λv z=>by
   have J:Data.fields _=Data.cell v:=z;cases J)
 keep:=λi h l c k=>k d (by simp) _ c
 item:=by
  intro X r m u q i F s D H E I j c p;subst r m u;obtain⟨C,B,N,A,y,x⟩:=j d (by simp);have W:=Walks.range (prog:=X.prog) (w:=X.w) (I.ok.hd q) d lo 1 n;refine W.item i s _ _ p c λv l G M g L=>?_;obtain⟨t,rfl⟩:=M;have Q:Inv X F D H {s with heap:=l,toks:=G}:=I.turned (λb o f a=>L b o (by simpa using f) a) C B A y x
  refine(9,uR (s:={s with heap:=l,toks:=G}) (n := "range_iterator") g rfl rfl ∅ (.int (lo+i),H,Q,(t,2),(7,7),g,λb f=>(j b f).1))
  rw[Int.mul_one]
 done:=by
  intro X r m u q i F s D H E I j c p;subst r m u;obtain⟨C,B,N,A,y,x⟩:=j d (by simp);exact wpAny_pyNext_range_end (I.ok.hd q) c (by have:n<=i:=p;lia) λl O=>(7,I.turned (t':=s.toks) (λb o f a=>O b o f a) C B A y x)
 self:=λ_ _ _ _ _ c h=>wpAny_pyIter_rangeiter c h
section
variable{X:Cx}
inductive QV(K:PySem.W.Frag)(R:It->Hp->Prop)(x:V)(H1:Hp):Prop
 | mk (a:_) (_:x=.ref a) (_:(∃xs,My K H1 a xs)) (_:R (YL K a) H1)
def Vj(K:PySem.W.Frag)(b:TE):TI:=λ a H R=>b a H (QV K R)
inductive T6(K:PySem.W.Frag)(R:It->Hp->Prop)(x:V)(H1:Hp):Prop
 | mk (a:_) (_:x=.ref a) (_:(∃xs,Wq K H1 a xs)) (_:R (Zh K a) H1)
def V8(K:PySem.W.Frag)(b:TE):TI:=λ a H R=>b a H (T6 K R)
theorem bJ{l:Expr}{f:TE}(n:PE X l f):PI X tg l (Vj X.K f):=by
 intro i s g H R I h;refine Wo (n i s g H _ I h) λv c ⟨x,t,d,j,k⟩=>?_;obtain⟨a,e,⟨w,m⟩,q⟩:=k;subst e;cases j;obtain⟨u,y,p,z⟩:=d.list m;refine wpAny_pyIter_list p.isList ?_;refine(c.heap.objs.size,[c.heap.objs.size],1,t,7,d.kept (t':=c.toks) λb o e=>Heap.get?_push_of_some _ e,zq a _,(_,Heap.get?_push_size _ rfl,7,7),λb r=>?_,q);have e:b=c.heap.objs.size:=by simpa using r
 subst e;exact d.fpOk (aae _) (d.hok.fresh (aae _))
theorem Ox{l:Expr}{g:TE}(r:PE X l g):PI X tg l (V8 X.K g):=by
 intro j s i H R I h;refine Wo (r j s i H _ I h) λv c ⟨x,u,d,k,m⟩=>?_;obtain⟨a,e,⟨w,n⟩,q⟩:=m;subst e;cases k;obtain⟨f,y,p,z⟩:=d.tuple n;refine wpAny_pyIter_tuple (show c.heap.IsTuple a f.toArray from p) ?_;refine(c.heap.objs.size,[c.heap.objs.size],1,u,7,d.kept (t':=c.toks) λb o e=>Heap.get?_push_of_some _ e,vA a _,(_,Heap.get?_push_size _ rfl,7,7),λb t=>?_,q);have e:b=c.heap.objs.size:=by simpa using t
 subst e;exact d.fpOk (aae _) (d.hok.fresh (aae _))
theorem Eg{σ:St}{H:Hp}{s:Shared}{R:It->Hp->Prop}{E:Value->Shared->Prop}{lo :Int}{t u v:Tok}{tk:Nat}(I:Inv X π σ H s)(i : -(2^62)<=lo)(h:lo<2^62)(f : -(2^62)<=g)(d:g<2^62)
  (q:R (Yt lo (g-lo).toNat) H):wpAny (model X.prog X.w) X.A (pyIter (.ref s.heap.objs.size)) (PIE X π σ tg R) E {s with heap:=s.heap.push {cls:=.type "range",data:=.fields #[.int lo t,.int g u,.int 1 v]},toks:=tk}:=by
 refine wpAny_pyIter_range (IsRange.new ..) (small_one i h f d) ?_
 have a:Inv X π σ H {s with heap:=s.heap.push {cls:=.type "range",data:=.fields #[.int lo t,.int g u,.int 1 v]},toks:=tk}:=I.kept λb o e=>Heap.get?_push_of_some _ e
 refine((s.heap.push {cls:=.type "range",data:=.fields #[.int lo t,.int g u,.int 1 v]}).objs.size,[(s.heap.push {cls:=.type "range",data:=.fields #[.int lo t,.int g u,.int 1 v]}).objs.size],1,H,7,
  a.kept (t':=tk) λb o e=>Heap.get?_push_of_some _ e,Gq _ lo (g-lo).toNat,2,λb c=>?_,q)
 ·have k:lo+((0:Nat):Int)*1=lo:=by simp
  have j:(((g-lo).toNat:Nat):Int)-((0:Nat):Int)=Builtin.Range.rangeSize lo g 1:=by rw[rangeSize_one];split<;>lia
  show IsRangeIter _ _ (lo+((0:Nat):Int)*1) ((((g-lo).toNat:Nat):Int)-((0:Nat):Int)) 1;rw[k,j];exact Heap.get?_push_size _ rfl
 ·have e:b=(s.heap.push {cls:=.type "range",data:=.fields #[.int lo t,.int g u,.int 1 v]}).objs.size:=by simpa using c
  subst e;exact a.fpOk (aae _) (a.hok.fresh (aae _))
inductive Qv(R:It->Hp->Prop)(vs:List V)(H1:Hp):Prop
 | mk (j:Int) (_:vs=[.int j]) (_ : -(2^62)<=j) (_:j<2^62) (_:R (Yt 0 j.toNat) H1)
def Vq(b:TA):TI:=λ a H R=>b a H (Qv R)
inductive RL(R:It->Hp->Prop)(vs:List V)(H1:Hp):Prop
 | mk (i j:Int) (_:vs=[.int i,.int j]) (_:(-(2^62)<=i/\i<2^62 /\ -(2^62)<=j/\j<2^62)) (_:R (Yt i (j-i).toNat) H1)
def VH(b:TA):TI:=λ a H R=>b a H (RL R)
theorem dh{a:Expr}{c:TA}{p pos:Pos}(n:Gl X "range")(m:X.mg "range" = none)(o:PA X [a] c)(l:starEach [a] X.env=[(pq false (eval a X.env))]:=by rfl):PI X tg (.Call (.Name "range" p) [a] [] pos) (Vq c):=by
 intro f s d H R I h;refine Call_ (fX I n m boot_range (PyProof.Rows.callWith_type1 (Wo (o pos f s d H _ I h) λw x ⟨v,y,u,i,b⟩=>?_) l rfl));obtain⟨j,e,b,k,q⟩:=b;subst e;cases i with
 |cons r g=>
  cases g;obtain⟨t,rfl⟩:=r;exact call_range_1 (Eg u ⋯ ⋯ b k (by simpa using q))
theorem Jm{a b:Expr}{g:TA}{p pos:Pos}(y:Gl X "range")(x:X.mg "range" = none)(z:PA X [a,b] g)(w:starEach [a,b] X.env=[(pq false (eval a X.env)),(pq false (eval b X.env))]:=by rfl)(c:starEach [b] X.env=[(pq false (eval b X.env))]:=by rfl):
  PI X tg (.Call (.Name "range" p) [a,b] [] pos) (VH g):=by
 intro l s k H R I h;refine Call_ (fX I y x boot_range (PyProof.Rows.callWith_type1 (Wo (z pos l s k H _ I h) λC E ⟨B,F,A,m,f⟩=>?_) (by rw[w,c]) (by rw[c];rfl)));obtain⟨i,j,e,⟨f,v,u,o⟩,q⟩:=f;subst e;cases m with
 |cons r d=>
  cases d with
  |cons n d=>
   cases d;obtain⟨t,rfl⟩:=r;obtain⟨D,rfl⟩:=n;exact call_range_2 (Eg A f v u o q)
def Qu(g:TG)(e:TS)(D:Ends)(σ:St)(H:Hp):It->Hp->Prop:=λJ h=>∃W:Nat->Nat->St->Hp->Prop,(∃m,W 0 m σ h) /\ ∀i m σ H,W i m σ H->(J.stop i H/\D.nx σ H)\/(J.go i H /\ ∃N:St->Hp->Prop,(∀b a,N b a -> ∃d,d<m/\W (i+1) d b a) /\ ∀x a,J.Yd i H x a->g x σ a λ c f=>e {D with nx:=N,ct:=N,bk:=D.nx} c f)
def Wj(b:TI)(g:TG)(c:TS):TS:=λD a H=>b a H (Qu g c D a H)
def oN(a:List Addr)(h:Heap):List (Addr×Obj):=a.filterMap λb=>(h.get? b).map λo=>(pq b o)
theorem eE{b:Addr}{o:Obj}(a:b∈i)(e:base.get? b=some o):(pq b o)∈oN i base:=ahL.mpr (b,a,by rw[e];rfl)
theorem Jq{p:Addr×Obj}(a:p∈oN i base):p.1∈i/\base.get? p.1=some p.2:=by
 obtain⟨b,c,e⟩:=ahL.mp a;cases q:base.get? b with
 |none=>rw[q]at e;cases e
 |some o=>
  rw[q]at e;have d:(pq b o)=p:=aat e;subst d;exact(c,q)
theorem Inv.pinned{σ:St}{H:Hp}{s:Shared}(I:Inv X π σ H s)(h:∀b∈i,gf X π H b)(g:∀b∈i,∃o,s.heap.get? b=some o /\ ∀v,o.data ≠ .cell v):Inv X (π++oN i s.heap) σ H s:=
 I.pins_of λp f=>(aaG.mp f).elim (λz=>I.pin p (aau _ z)) λz=>by
  obtain⟨a,e⟩:=Jq z;obtain⟨l,k,j,_⟩:=h p.1 a;obtain⟨o,c,d⟩:=g p.1 a;rw[e]at c;cases c;exact(e,l,k,j,d)
theorem Inv.ξ{a:List (Addr×Obj)}{σ:St}{H:Hp}{s:Shared}(I:Inv X (π++a) σ H s):Inv X π σ H s:=I.pins_of λp b=>I.pin p (aau _ (agj _ b))
theorem bA{iter:Expr}{B:List Stmt}{Z:TI}{g:TG}{tb:TS}{pos:Pos}(F:PassesOwn (model X.prog X.w) X.A X.env X.xe)(hc:X.calm=true)(hi:PI X tg iter Z)(hg:PG X tg g)(c:Xd X B tb)
  (hs:∀x,foldedSetIterable iter X.env x=pure x:=by intro _;rfl):PS X (.For tg iter B [] pos) (Wj Z g tb):=by
 intro C s Y H D I h;refine wpAny_For (Wo (hi C s Y H _ I h) λv s1 h1=>Wo h1 λa0 s2 h2=>?_) hs;obtain⟨it,G,tn,J,H2,e,I2,T,V,f2,W,⟨m0,w0⟩,L⟩:=h2;subst e;have q:∀{y:Hp},(∀b∈G,y b=none) -> ∀b∈G,gf X C y b:=λhn b c=>(hn b c,(f2 b c).2);refine codeAny_forLoop_any (λn s'=>∃i p y,Inv X C p y s'/\tn i s'.heap/\(∀b∈G,y b=none)/\W i n p y) ?_ m0 (0,Y,H2,I2,V,λb c=>(f2 b c).1,w0);rintro n s3 ⟨i,l,P,I3,K,Yu,w3⟩;rcases L i n l P w3 with ⟨M,qn⟩|⟨go,N,hN,O⟩
 ·refine wpAny_passesOwn F (Wo (T.done X rfl rfl rfl hc i C s3 l P X.xe I3 (q Yu) K M) λr s4 ⟨R,I4⟩=>?_);subst R;exact wpAny_execs_nil (l,P,I4,qn)
 ·refine wpAny_passesOwn F (Wo (T.item X rfl rfl rfl hc i C s3 l P X.xe I3 (q Yu) K go) λr s4 ⟨u,R,h4⟩=>?_);subst R;refine wpAny_passesOwn F (Wo h4 λ_ s5 ⟨x,H5,I5,r5,y5,S,Zi⟩=>?_);have Zj:=I5.pinned (q Zi) (T.obj _ _ S);refine wpAny_passesOwn F (Wo (hg _ s5 l H5 x u _ Zj r5 (O x H5 y5)) λ_ s6 ⟨U,H6,I6,q6⟩=>?_);refine wpAny_passesOwn F (Wo (c _ s6 U H6 _ I6 q6) λf Q z=>?_);have t:∀{a:St}{k:Hp},Inv X (C++oN G s5.heap) a k Q->N a k -> ∃m,m<n /\ ∃i p y,Inv X C p y Q/\tn i Q.heap/\(∀b∈G,y b=none)/\W i m p y:=λ{a k} j E=>by
   obtain⟨m',hm,w7⟩:=hN a k E;refine(m',hm,i+1,a,k,j.ξ,T.keep _ _ _ S λb c o e=>(j.pin (pq b o) (aau _ (aau _ (eE c e)))).1,λb c=>?_,w7);obtain⟨o,e,d⟩:=T.obj _ _ S b c;exact(j.pin (pq b o) (aau _ (aau _ (eE c e)))).2.1
  cases f with
  |next=>obtain⟨a,k,j,E⟩:=z;exact t j E
  |cont=>obtain⟨a,k,j,E⟩:=z;exact t j E
  |brk=>obtain⟨a,k,j,z⟩:=z;exact(a,k,j.ξ,z)
  |ret v=>obtain⟨x7,a,k,j,r7,z⟩:=z;exact(x7,a,k,j.ξ,r7,z)
end
theorem bV{K:PySem.W.Frag}{a:Addr}{xs:List V}{g:TG}{j:TS}{D:Ends}{σ:St}{H:Hp}(b:Nat->St->Hp->Prop)(s:b 0 σ H)(o:∀i σ H,i<=xs.length->b i σ H->My K H a xs)
  (n:∀i x σ H,xs[i]?=some x->b i σ H->g x σ H λ c h=>j {D with nx:=b (i+1),ct:=b (i+1),bk:=D.nx} c h)(hd:∀σ H,b xs.length σ H->D.nx σ H):
  ∃W:Nat->Nat->St->Hp->Prop,(∃m,W 0 m σ H) /\ ∀i m σ H,W i m σ H ->
   ((YL K a).stop i H/\D.nx σ H)\/((YL K a).go i H /\ ∃N:St->Hp->Prop,(∀d H',N d H' -> ∃k,k<m/\W (i+1) k d H') /\ ∀x H',(YL K a).Yd i H x H'->g x σ H' λ c h=>j {D with nx:=N,ct:=N,bk:=D.nx} c h):=by
 exists λi m σ H=>m=xs.length-i/\i<=xs.length/\b i σ H,(xs.length,by simp,af3 _,s);rintro i m σ H ⟨rfl,r,p⟩;have q:=o i σ H r p;by_cases f:i<xs.length
 ·refine .inr ((xs,xs[i],q,by simp[f]),b (i+1),λ d H' l=>(xs.length-(i+1),6,7,f,l),λx H' y=>?_);obtain⟨e,y⟩:=y;subst e;exact n i x σ _ (y xs q) p
 ·have e:i=xs.length:=by lia
  subst e;exact .inl ((xs,q,aae _),hd σ H p)
theorem Ja{K:PySem.W.Frag}{a:Addr}{xs:List V}{g:TG}{j:TS}{D:Ends}{σ:St}{H:Hp}(b:Nat->St->Hp->Prop)(s:b 0 σ H)(o:∀i σ H,i<=xs.length->b i σ H->Wq K H a xs)
  (n:∀i x σ H,xs[i]?=some x->b i σ H->g x σ H λ c h=>j {D with nx:=b (i+1),ct:=b (i+1),bk:=D.nx} c h)(hd:∀σ H,b xs.length σ H->D.nx σ H):
  ∃W:Nat->Nat->St->Hp->Prop,(∃m,W 0 m σ H) /\ ∀i m σ H,W i m σ H ->
   ((Zh K a).stop i H/\D.nx σ H)\/((Zh K a).go i H /\ ∃N:St->Hp->Prop,(∀d H',N d H' -> ∃k,k<m/\W (i+1) k d H') /\ ∀x H',(Zh K a).Yd i H x H'->g x σ H' λ c h=>j {D with nx:=N,ct:=N,bk:=D.nx} c h):=by
 exists λi m σ H=>m=xs.length-i/\i<=xs.length/\b i σ H,(xs.length,by simp,af3 _,s);rintro i m σ H ⟨rfl,r,p⟩;have q:=o i σ H r p;by_cases f:i<xs.length
 ·refine .inr ((xs,xs[i],q,by simp[f]),b (i+1),λ d H' l=>(xs.length-(i+1),6,7,f,l),λx H' y=>?_);obtain⟨e,y⟩:=y;subst e;exact n i x σ _ (y xs q) p
 ·have e:i=xs.length:=by lia
  subst e;exact .inl ((xs,q,aae _),hd σ H p)
theorem eY{lo:Int}{n:Nat}{g:TG}{h:TS}{D:Ends}{σ:St}{H:Hp}(a:Nat->St->Hp->Prop)(o:a 0 σ H)
  (l:∀i σ H,i<n->a i σ H->g (.int (lo+i)) σ H λ b f=>h {D with nx:=a (i+1),ct:=a (i+1),bk:=D.nx} b f)(hd:∀σ H,a n σ H->D.nx σ H):
  ∃W:Nat->Nat->St->Hp->Prop,(∃m,W 0 m σ H) /\ ∀i m σ H,W i m σ H ->
   ((Yt lo n).stop i H/\D.nx σ H)\/((Yt lo n).go i H /\ ∃N:St->Hp->Prop,(∀c H',N c H' -> ∃j,j<m/\W (i+1) j c H') /\ ∀x H',(Yt lo n).Yd i H x H'->g x σ H' λ b f=>h {D with nx:=N,ct:=N,bk:=D.nx} b f):=by
 exists λi m σ H=>m=n-i/\i<=n/\a i σ H,(n,by simp,af3 _,o);rintro i m σ H ⟨rfl,q,p⟩;by_cases d:i<n
 ·refine .inr (d,a (i+1),λ c H' k=>(n-(i+1),6,7,d,k),λx H' y=>?_);obtain⟨e,y⟩:=y;subst e y;exact l i σ _ d p
 ·have e:i=n:=by lia
  subst e;exact .inl (aae _,hd σ H p)
abbrev R2:=V->V->Hp->VK->Prop
def WN(X:Cx)(f:Value->Value->Sem Value)(r:R2):Prop:=
 ∀(b:List (Addr×Obj)) (s:Shared) (a:St) (H:Hp) (x y:V) (v u:Value) (Q:VK),Inv X b a H s->RelV x v->RelV y u->r x y H Q ->
  wpAny (model X.prog X.w) X.A (f v u) (EP X b a Q) X.xe s
def UnR(X:Cx)(f:Value->Sem Value)(r:V->Hp->VK->Prop):Prop:=
 ∀(b:List (Addr×Obj)) (s:Shared) (a:St) (H:Hp) (x:V) (v:Value) (Q:VK),Inv X b a H s->RelV x v->r x H Q ->
  wpAny (model X.prog X.w) X.A (f v) (EP X b a Q) X.xe s
def fZ(X:Cx)(f:Value)(r:List V->Hp->VK->Prop):Prop:=
 ∀(b:List (Addr×Obj)) (s:Shared) (a:St) (H:Hp) (c:List V) (d:List Value) (Q:VK),Inv X b a H s->Vals c d->r c H Q ->
  wpAny (model X.prog X.w) X.A (call f d) (EP X b a Q) X.xe s
def Tz(r:R2)(Q:VK)(x:V):VK:=λy a=>r x y a Q
def Ux(r:R2)(a:TE)(σ:St)(Q:VK):VK:=λx b=>a σ b (Tz r Q x)
def Ym(r:R2)(c b:TE):TE:=λ a H Q=>c a H (Ux r b a Q)
def Ue(r:V->Hp->VK->Prop)(Q:VK):VK:=λx a=>r x a Q
def tUn(r:V->Hp->VK->Prop)(b:TE):TE:=λ a H Q=>b a H (Ue r Q)
inductive rI(C:Int->Int->Prop)(g:Int->Int->V)(x:V)(y:V)(H:Hp)(Q:VK):Prop
 | mk (i j:_) (_:x=.int i) (_:y=.int j) (_:C i j) (_:Q (g i j) H)
inductive Yv(g:Int->Int->V)(x:V)(y:V)(H:Hp)(Q:VK):Prop
 | mk (i j:_) (_:x=.int i) (_:y=.int j) (_:Q (g i j) H)
inductive rU(g:Int->V)(x:V)(H:Hp)(Q:VK):Prop
 | mk (i:_) (_:x=.int i) (_:Q (g i) H)
section
variable{X:Cx}{a c:Expr}{ta tb tc:TE}{pos:Pos}
theorem SM(r:PE X a ta)(q:PE X b tb){s:Shared}{σ:St}{H:Hp}{R:V->V->Hp->Prop}(I:Inv X π σ H s)
  (h:ta σ H λx j=>tb σ j λy d=>R x y d){Q:Value->Shared->Prop}{f:Value->Value->Sem Value}
  (p:∀v u i x y d,Inv X π σ d i->RelV x v->RelV y u->R x y d->wpAny (model X.prog X.w) X.A (f v u) Q X.xe i):
  wpAny (model X.prog X.w) X.A (eval a X.env) (λv g=>wpAny (model X.prog X.w) X.A (eval b X.env) (λu e=>wpAny (model X.prog X.w) X.A (f v u) Q X.xe e) X.xe g) X.xe s:=by
 refine Wo (r π s σ H _ I h) λv k ⟨x,j,z,m,o⟩=>?_;refine Wo (q π k σ j _ z o) λu i ⟨y,d,t,l,n⟩=>?_;exact p v u i x y d t m l n
theorem aD{d:Operator}{r:R2}(k:WN X (binaryOp d) r)(m:PE X a ta)(l:PE X b tb):PE X (.BinOp a d b pos) (Ym r ta tb):=by
 intro f s e H Q I h;exact wpAny_BinOp (SM m l I h λv u g x y o n j i q=>k f g e o x y v u Q n j i q)
theorem oH{f:UnaryOp}{r:V->Hp->VK->Prop}(k:UnR X (unaryOp f) r)(l:PE X a ta):PE X (.UnaryOp f a pos) (tUn r ta):=by
 intro e s d H Q I h;exact UnaryOp_ (Wo (l e s d H _ I h) λv g ⟨x,n,m,i,j⟩=>k e g d n x v Q m i j)
theorem ZJ{f:Value->Value->Sem Value}{C:Int->Int->Prop}{g:Int->Int->Int}
  (d:∀(i j:Int) (t u:Tok) (s:Shared) (Q:Value->Shared->Prop) (E:Value->Shared->Prop),C i j->Q (.int (g i j) s.toks) {s with toks:=s.toks+1}->wpAny (model X.prog X.w) X.A (f (.int i t) (.int j u)) Q E s):
  WN X f (rI C λi j=>.int (g i j)):=by
 intro o s n H x y v u Q I l k h;obtain⟨i,j,rfl,rfl,m,q⟩:=h;obtain⟨t,rfl⟩:=l;obtain⟨e,rfl⟩:=k;exact d i j t e s _ _ m (.int (g i j),H,I.tok _,(_,7),q)
theorem QT{f:Value->Value->Sem Value}{g:Int->Int->Int}
  (d:∀(i j:Int) (t u:Tok) (s:Shared) (Q:Value->Shared->Prop) (E:Value->Shared->Prop),Q (.int (g i j) s.toks) {s with toks:=s.toks+1}->wpAny (model X.prog X.w) X.A (f (.int i t) (.int j u)) Q E s):
  WN X f (Yv λi j=>.int (g i j)):=by
 intro n s m H x y v u Q I l k h;obtain⟨i,j,rfl,rfl,q⟩:=h;obtain⟨t,rfl⟩:=l;obtain⟨e,rfl⟩:=k;exact d i j t e s _ _ (.int (g i j),H,I.tok _,(_,7),q)
theorem Qn{f:Value->Value->Sem Value}{g:Int->Int->Bool}
  (d:∀(i j:Int) (t u:Tok) (s:Shared) (Q:Value->Shared->Prop) (E:Value->Shared->Prop),Q (.bool (g i j)) s->wpAny (model X.prog X.w) X.A (f (.int i t) (.int j u)) Q E s):
  WN X f (Yv λi j=>.bl (g i j)):=by
 intro n s m H x y v u Q I l k h;obtain⟨i,j,rfl,rfl,q⟩:=h;obtain⟨t,rfl⟩:=l;obtain⟨e,rfl⟩:=k;exact d i j t e s _ _ (.bl (g i j),H,I,7,q)
def V1(i j:Int):Prop:=0<j/\j<1073741824
def Va(i j:Int):Prop:=0<=j/\j<=1000000/\i.natAbs<2^64
def Tg(i j:Int):Prop:=(-(2^64)<i/\i<2^64)\/(-(2^64)<j/\j<2^64)
theorem Tg.ok{i j:Int}(h:Tg i j):IntMulOk i j:=by
 rcases h with ⟨e,d⟩|⟨e,d⟩
 ·exact .of_left (intBits_le_64 e d)
 ·exact .of_right (intBits_le_64 e d)
theorem Ha(k:Nat):(0:Int)<=2^k:=by
 rw[two_pow_cast];exact Int.natCast_nonneg _
theorem bj:WN X (binaryOp .Add) (Yv λi j=>.int (i+j)):=QT λ_ _ _ _ _ _ _ q=>add_int q
theorem dF:WN X (binaryOp .Sub) (Yv λi j=>.int (i-j)):=QT λ_ _ _ _ _ _ _ q=>sub_int q
theorem bG:WN X (binaryOp .Mult) (rI Tg λi j=>.int (i*j)):=ZJ λ_ _ _ _ _ _ _ d q=>mul_int q d.ok
theorem gj:WN X (binaryOp .FloorDiv) (rI V1 λi j=>.int (i / j)):=ZJ λi j _ _ _ _ _ d q=>by
 have f:(0:Int)<j:=d.1;have e:j<1073741824:=d.2;exact floordiv_int ⋯ (by rw[air i ⋯];exact q) (.inl (PyProof.noPylong_small ⋯))
theorem bL:WN X (binaryOp .Mod) (rI (λ_ j=>0<j) λi j=>.int (i%j)):=ZJ λi j _ _ _ _ _ d q=>by
 have e:(0:Int)<j:=d;exact mod_int' ⋯ (by rw[Int.fmod_eq_emod_of_nonneg i ⋯];exact q)
theorem rG:WN X (binaryOp .Pow) (rI Va λi j=>.int (i^j.toNat)):=ZJ λ_ _ _ _ _ _ _ d q=>pow_int_small d.1 d.2.1 d.2.2 q
theorem Ug:WN X (binaryOp .LShift) (rI Va λi j=>.int (i*2^j.toNat)):=ZJ λ_ _ _ _ _ _ _ d q=>lshift_int_small d.1 d.2.1 d.2.2 q
theorem TY:WN X (binaryOp .RShift) (rI (λ_ j=>0<=j) λi j=>.int (i / 2^j.toNat)):=ZJ λi j _ _ _ _ _ d q=>
 rshift_int d (by rw[air i (Ha _)];exact q)
theorem Uc:WN X (binaryOp .BitAnd) (Yv λi j=>.int (Builtin.bitAnd i j)):=QT λ_ _ _ _ _ _ _ q=>and_int q
theorem Ua:WN X (binaryOp .BitXor) (Yv λi j=>.int (Builtin.bitXor i j)):=QT λ_ _ _ _ _ _ _ q=>xor_int q
theorem unI{f:Value->Sem Value}{g:Int->Int}
  (d:∀(i:Int) (t:Tok) (s:Shared) (Q:Value->Shared->Prop) (E:Value->Shared->Prop),Q (.int (g i) s.toks) {s with toks:=s.toks+1}->wpAny (model X.prog X.w) X.A (f (.int i t)) Q E s):
  UnR X f (rU λi=>.int (g i)):=by
 intro k s j H x v Q I e h;obtain⟨i,rfl,q⟩:=h;obtain⟨t,rfl⟩:=e;exact d i t s _ _ (.int (g i),H,I.tok _,(_,7),q)
theorem jD:UnR X (unaryOp .USub) (rU λi=>.int (-i)):=unI λ_ _ _ _ _ q=>neg_int q
end
def VD:V->V->Bool
 |.non,.non=>true | .non,.int _=>true | .int _,.non=>true | .non,.bl _=>true | .bl _,.non=>true | .non,.str _=>true | .str _,.non=>true
 |.int _,.int _=>true | .bl _,.bl _=>true | .str _,.str _=>true | .Yk _,.Yk _=>true
 |.int _,.str _=>true | .str _,.int _=>true | .bl _,.str _=>true | .str _,.bl _=>true
 |_,_=>false
def rEq:R2:=λx y H Q=>VD x y=true/\Q (.bl (decide (x=y))) H
def rNe:R2:=λx y H Q=>VD x y=true/\Q (.bl (!decide (x=y))) H
theorem oA{i j:Int}:decide (V.int i=V.int j)=(i==j):=by
 rw[aim];simp
theorem N5{i j:Bool}:decide (V.bl i=V.bl j)=(i==j):=by
 rw[aim];simp
theorem Ir{i j:Str}:decide (V.str i=V.str j)=(i==j):=by
 rw[aim];simp
theorem IK{i j:Array UInt8}:decide (V.Yk i=V.Yk j)=(i.toList==j.toList):=by
 rw[aim];cases i;cases j;simp
section
variable{X:Cx}{a c:Expr}{ta tb tc:TE}{pos:Pos}
theorem bQ{σ:St}{H:Hp}{s:Shared}{Q:VK}{k d:Bool}(I:Inv X π σ H s)(q:Q (.bl k) H)(e:k=d):EP X π σ Q (.bool d) s:=by
 subst e;exact(.bl k,H,I,7,q)
theorem dm:WN X (compareOp .Eq) rEq:=by
 intro l s k H x y v u Q I g d h;obtain⟨f,q⟩:=h;cases x with
 |non=>
  cases g;cases y with
  |non=>cases d;exact PySem.EqNone.eq_none_none (bQ I q (by simp))
  |bl j=>cases d;exact PySem.EqNone.eq_none_bool (bQ I q (by simp))
  |int j=>obtain⟨e,rfl⟩:=d;exact PySem.EqNone.eq_none_int (bQ I q (by simp))
  |str j=>obtain⟨e,rfl⟩:=d;exact PySem.EqNone.eq_none_str (bQ I q (by simp))
  |_=>exact absurd (show false=true from f) aaT
 |bl i=>
  cases g;cases y with
  |non=>cases d;exact PySem.EqNone.eq_bool_none (bQ I q (by simp))
  |bl j=>cases d;exact eq_bool (bQ I q N5)
  |str j=>obtain⟨e,rfl⟩:=d;exact PySem.EqMixed.eq_bool_str (bQ I q (by simp))
  |_=>exact absurd (show false=true from f) aaT
 |int i=>
  obtain⟨t,rfl⟩:=g;cases y with
  |non=>cases d;exact PySem.EqNone.eq_int_none (bQ I q (by simp))
  |int j=>obtain⟨e,rfl⟩:=d;exact eq_int (bQ I q oA)
  |str j=>obtain⟨e,rfl⟩:=d;exact PySem.EqMixed.eq_int_str (bQ I q (by simp))
  |_=>exact absurd (show false=true from f) aaT
 |str i=>
  obtain⟨t,rfl⟩:=g;cases y with
  |non=>cases d;exact PySem.EqNone.eq_str_none (bQ I q (by simp))
  |bl j=>cases d;exact PySem.EqMixed.eq_str_bool (bQ I q (by simp))
  |int j=>obtain⟨e,rfl⟩:=d;exact PySem.EqMixed.eq_str_int (bQ I q (by simp))
  |str j=>obtain⟨e,rfl⟩:=d;exact eq_str (bQ I q Ir)
  |_=>exact absurd (show false=true from f) aaT
 |Yk i=>
  obtain⟨t,rfl⟩:=g;cases y with
  |Yk j=>obtain⟨e,rfl⟩:=d;exact PySem.W.eq_bytes (bQ I q IK)
  |_=>exact absurd (show false=true from f) aaT
 |_=>cases y<;>exact absurd (show false=true from f) aaT
theorem wF:WN X (compareOp .NotEq) rNe:=by
 intro l s k H x y v u Q I g d h;obtain⟨f,q⟩:=h;cases x with
 |non=>
  cases g;cases y with
  |non=>cases d;exact PySem.EqNone.ne_none_none (bQ I q (by simp))
  |bl j=>cases d;exact PySem.EqNone.ne_none_bool (bQ I q (by simp))
  |int j=>obtain⟨e,rfl⟩:=d;exact PySem.EqNone.ne_none_int (bQ I q (by simp))
  |str j=>obtain⟨e,rfl⟩:=d;exact PySem.EqNone.ne_none_str (bQ I q (by simp))
  |_=>exact absurd (show false=true from f) aaT
 |bl i=>
  cases g;cases y with
  |non=>cases d;exact PySem.EqNone.ne_bool_none (bQ I q (by simp))
  |bl j=>cases d;exact ne_bool (bQ I q (congrArg not N5))
  |str j=>obtain⟨e,rfl⟩:=d;exact PySem.EqMixed.ne_bool_str (bQ I q (by simp))
  |_=>exact absurd (show false=true from f) aaT
 |int i=>
  obtain⟨t,rfl⟩:=g;cases y with
  |non=>cases d;exact PySem.EqNone.ne_int_none (bQ I q (by simp))
  |int j=>obtain⟨e,rfl⟩:=d;exact ne_int (bQ I q (congrArg not oA))
  |str j=>obtain⟨e,rfl⟩:=d;exact PySem.EqMixed.ne_int_str (bQ I q (by simp))
  |_=>exact absurd (show false=true from f) aaT
 |str i=>
  obtain⟨t,rfl⟩:=g;cases y with
  |non=>cases d;exact PySem.EqNone.ne_str_none (bQ I q (by simp))
  |bl j=>cases d;exact PySem.EqMixed.ne_str_bool (bQ I q (by simp))
  |int j=>obtain⟨e,rfl⟩:=d;exact PySem.EqMixed.ne_str_int (bQ I q (by simp))
  |str j=>obtain⟨e,rfl⟩:=d;exact ne_str (bQ I q (congrArg not Ir))
  |_=>exact absurd (show false=true from f) aaT
 |Yk i=>
  obtain⟨t,rfl⟩:=g;cases y with
  |Yk j=>obtain⟨e,rfl⟩:=d;exact PySem.W.ne_bytes (bQ I q (congrArg not IK))
  |_=>exact absurd (show false=true from f) aaT
 |_=>cases y<;>exact absurd (show false=true from f) aaT
theorem tU:WN X (compareOp .Lt) (Yv λi j=>.bl (decide (i<j))):=Qn λ_ _ _ _ _ _ _ q=>lt_int q
theorem yZ:WN X (compareOp .LtE) (Yv λi j=>.bl (decide (i<=j))):=Qn λ_ _ _ _ _ _ _ q=>le_int q
theorem qK:WN X (compareOp .Gt) (Yv λi j=>.bl (decide (j<i))):=Qn λ_ _ _ _ _ _ _ q=>gt_int q
theorem R7:WN X (compareOp .GtE) (Yv λi j=>.bl (decide (j<=i))):=Qn λ_ _ _ _ _ _ _ q=>ge_int q
theorem WN.or{f:Value->Value->Sem Value}{r j:R2}(h:WN X f r)(h':WN X f j):WN X f (λx y H Q=>r x y H Q\/j x y H Q):=by
 intro e s d H x y v u Q I i g q;rcases q with q|q
 ·exact h e s d H x y v u Q I i g q
 ·exact h' e s d H x y v u Q I i g q
theorem O6(b:Expr){d:CmpOp}(h:d ≠ .In:=by decide)(e:d ≠ .NotIn:=by decide):behindInMarks d b=false:=by
 have g:(d==CmpOp.In)=false:=by cases d<;>first|rfl|exact absurd rfl h
 have f:(d==CmpOp.NotIn)=false:=by cases d<;>first|rfl|exact absurd rfl e
 cases b<;>simp[behindInMarks,g,f]
theorem zW{d:CmpOp}{r:R2}(k:WN X (compareOp d) r)(n:PE X a ta)(m:PE X b tb)(l:behindInMarks d b=false:=by exact O6 _):PE X (.Compare a [d] [b] pos) (Ym r ta tb):=by
 intro f s e H Q I h;exact wpAny_Compare1 (SM n m I h λv u g x y p o j i q=>k f g e p x y v u Q o j i q) l
inductive QB(Q:Bool->Hp->Prop)(x:V)(H':Hp):Prop
 | mk (k:_) (_:x=.bl k) (_:Q k H')
def Dl(t:TE):TT:=λ d H Q=>t d H (QB Q)
theorem aO{g:CmpOp}{r:R2}(t:WN X (compareOp g) r)(B:PE X a ta)(A:PE X b tb)(w:behindInMarks g b=false:=by exact O6 _):PT X (.Compare a [g] [b] pos) (Dl (Ym r ta tb)):=by
 intro f s d H Q I h;refine wpAny_isTrue_Compare1 (Wo (B f s d H _ I h) λv j ⟨x,J,E,n,q⟩=>Wo (A f j d J _ E q) λu i ⟨y,G,D,m,p⟩=>
  Wo (t f i d G x y v u _ D n m p) λc K ⟨z,F,C,l,k,e,o⟩=>?_) w
 subst e;cases l;exact wpAny_truthy_bool (F,C,o)
inductive MJ(r':R2)(tc:TE)(σ:St)(Q:VK)(y:V)(z:V)(H3:Hp):Prop
 |mk (k:_) (_:z=.bl k) (_:(if k=true then tc σ H3 λw' H4=>r' y w' H4 Q else Q (.bl false) H3))
def K1(r:R2)(d:R2)(tc:TE)(σ:St)(Q:VK)(x:V):VK:=λy e=>r x y e (MJ d tc σ Q y)
def KQ(r:R2)(d:R2)(tb:TE)(tc:TE)(σ:St)(Q:VK):VK:=λx e=>tb σ e (K1 r d tc σ Q x)
def TF(r e:R2)(ta tb tc:TE):TE:=λ d H Q=>ta d H (KQ r e tb tc d Q)
theorem pU{j f:CmpOp}{r n:R2}(P:WN X (compareOp j) r)(l:WN X (compareOp f) n)(U:PE X a ta)(T:PE X b tb)(S:PE X c tc)
  (R:lastMarks [j,f] [b,c]=false:=by with_unfolding_all rfl):PT X (.Compare a [j,f] [b,c] pos) (Dl (TF r n ta tb tc)):=by
 intro i s g H Q I h;refine isTrue_chain (Wo (U i s g H _ I h) λv D ⟨x,H1,I1,J,N⟩=>test_link (Wo (T i D g H1 _ I1 N) λu C ⟨y,H2,I2,m,M⟩=>
  Wo (P i C g H2 x y v u _ I2 J m M) λd B ⟨z,q,p,G,k,e,o⟩=>?_)) R
 subst e;cases G;refine wpAny_truthy_bool ?_;cases k with
 |false=>
  obtain⟨k',W,O⟩:=o;cases W;exact ite_ff (q,p,O)
 |true=>
  refine ite_tt (test_last (Wo (S i B g q _ p o) λw A ⟨t,H4,Z,F,L⟩=>Wo (l i A g H4 y t u w _ Z m F L) λd' s5 ⟨z2,H5,Y,E,k2,V,K⟩=>?_));subst V;cases E;exact wpAny_truthy_bool (H5,Y,K)
theorem qU:(sizeLine:Nat)<2^63:=by rw[sizeLine_eq];decide
theorem vX:WN X (binaryOp .Add) (λx y H Q=>∃i j,x=.str i/\y=.str j/\i.length+j.length<=sizeLine/\Q (.str (i++j)) H):=by
 intro l s k H x y v u Q I f e h;obtain⟨i,j,rfl,rfl,g,q⟩:=h;obtain⟨t,rfl⟩:=f;obtain⟨d,rfl⟩:=e;exact add_str (λd m=>(.str (i++j),H,I.tok _,(_,7),q)) g
theorem vals1{x:V}(r:Vals [x] j):∃u,j=[u]/\RelV x u:=by
 cases r with
 |cons e d=>cases d;exact(9,e)
theorem vals2{x y:V}(r:Vals [x,y] j):∃u d,j=[u,d]/\RelV x u/\RelV y d:=by
 cases r with
 |cons h g=>
  cases g with
  |cons f e=>cases e;exact(_,9,h,f)
theorem rm(e:X.calm=true):fZ X (.builtin "min") (λxs H Q=>∃i j,xs=[.int i,.int j]/\Q (.int (if j<i then j else i)) H):=by
 intro g s f H xs m Q I r h;obtain⟨i,j,rfl,q⟩:=h;obtain⟨u,l,rfl,⟨t,rfl⟩,⟨o,rfl⟩⟩:=vals2 r;refine min_two_ints (I.ok.hd e) λp n k=>(_,H,I.kept k,2,q);by_cases d:j<i
 ·rw[if_pos d,if_pos d];exact(_,7)
 ·rw[if_neg d,if_neg d];exact(_,7)
end
structure Ut(h:Heap)(x dx C:Addr)(mA:Str->Option Value):Prop where
 obj:h.get? x=some (PySem.W.instObj C dx)
 ns:h.Ns1 dx mA
 ne:dx≠x
theorem Js(n:base.Ns1 a mg):∃od,base.get? a=some od /\ ∀name,PySem.W.lookIn name od=some (mg name):=by
 obtain⟨o,d,l,g,hd,j,_,i⟩:=n;refine(o,g,λname=>?_);have e:=i name;unfold nsFind findBy at e;rw[<-Array.find?_toList]at e;unfold PySem.W.lookIn;rw[hd];dsimp only;split
 ·rename_i y q;rw[q]at e;exact congrArg some e
 ·rename_i q;rw[q]at e;have b:d.toList.any (·.refKey)=false:=by
   rw[List.any_eq_false];intro y f;obtain⟨z,t,c⟩:=j y (Array.mem_toList_iff.mp f);simp[DictEntry.refKey,c]
  have k:¬d.toList.any (·.refKey)=true:=by rw[b];exact aaT
  rw[if_neg k];exact congrArg some e
theorem Ut.look{x C:Addr}(I:Ut base x a C mg):∃od,PySem.W.InstAt base x (PySem.W.instObj C a) C (some od) /\ ∀name,PySem.W.lookIn name od=some (mg name):=
 let ⟨od,ho,hl⟩:=Js I.ns
 (od,(I.obj,7,7,ho),hl)
section
variable{w:World}{x:Addr}{mA:Str->Option Value}{name:Str}{v:Value}
end
theorem vq.some_of{v:V}{o:Option Value}(r:vq (some v) o):∃u,o=some u/\RelV v u:=by
 cases o with
 |none=>exact(show False from r).elim
 |some u=>exact(u,7,r)
section
variable{P:Program}{w:World}{H H':Hp}{fs fs':List (Str×V)}
theorem Rx(c:WK P w H h)(e:H a=some (.ins C dx fs)):∃b,Ut h a dx C b/\(∀f,vq (fs.lookup f) (b f))/\PySem.Within b (fs.map (·.1))/\fs.length<=1000/\H dx=some (.own a):=by
 obtain⟨d,z,i,g,b,n,r,q⟩:=(show bN P w H h a (.ins C dx fs)from c a _ e);exact(b,(g,n,i),r,q,z,d)
end
structure Cls(K:PySem.W.Frag)(C:Addr):Prop where
 pg:PySem.W.plainGet K C Str.empty=true
 hd:PySem.W.hasDictIn K C=true
 po:PySem.W.plainOver K C=true
 sa:PySem.W.findIn K (.ref C) "__setattr__" = some (some (.builtin "object.__setattr__"))
theorem Cls.get{K:PySem.W.Frag}{C:Addr}(c:Cls K C)(f:Str):PySem.W.plainGet K C f=true:=c.pg
section
variable{X:Cx}{σ:St}{H:Hp}{fs:List (Str×V)}{f:Str}{v:V}
end
section
variable{X:Cx}{value:Expr}{f:Str}{pos pos' tpos:Pos}{ta tv:TE}
end
section
variable{X:Cx}{σ:St}{H:Hp}{Q:Value->Shared->Prop}{c:Value}{b:Bool}
inductive tE(K:PySem.W.Frag)(H:Hp):V->Value->Prop where
 | non:tE K H .non (.type "NoneType")
 | bl (x:Bool):tE K H (.bl x) (.type "bool")
 | int (i:Int):tE K H (.int i) (.type "int")
 | str (x:Str):tE K H (.str x) (.type "str")
 | flt (x:UInt64):tE K H (.flt x) (.type "float")
 | lst {a:Addr}{xs:List V} (e:H a=some (.lst xs)):tE K H (.ref a) (.type "list")
 | Xn {a:Addr}{o:Obj}{xs:List V} (e:H a=some (.Xn o (.lst xs))):tE K H (.ref a) (.type "list")
 | tup {a:Addr}{xs:List V} (e:H a=some (.tup xs)):tE K H (.ref a) (.type "tuple")
 | dK {a:Addr}{kvs:List (Key×V)} (e:H a=some (.dK kvs)):tE K H (.ref a) (.type "dict")
 | dT {a:Addr}{kvs:List (List Key×V)} (e:H a=some (.dT kvs)):tE K H (.ref a) (.type "dict")
 | ins {a C dx:Addr}{fs:List (Str×V)} (e:H a=some (.ins C dx fs)) (cl:Cls K C) (ha:PySem.W.findIn K (.ref C) "__class__" = some (some (.builtin "object.__class__")))
   (hn:PySem.W.specialIn K (.builtin "object.__class__") "__get__" = some (some (.builtin "getset_descriptor.__get__"))) (htk:PySem.W.takesIn K (.builtin "object.__class__")=some true)
   (hm:PySem.W.mroIn K C (.type "object")=some true):tE K H (.ref a) (.ref C)
theorem JL{x:V}{u t:Value}(I:Inv X π σ H s)(d:RelV x u)(v:tE X.K H x t)(e:PySem.W.kitOne X.K t c=some b)(h:∀tk,Q (.bool b) {s with toks:=tk}):
  wpAny (model X.prog X.w) A (call (.builtin "isinstance") [u,c]) Q E s:=by
 cases v with
 |non=>cases (show u=Value.none from d);exact PySem.W.kia_one PySem.W.kitx_none I.Xc True.intro e (λz=>nomatch z) h
 |bl y=>cases (show u=Value.bool y from d);exact PySem.W.kia_one PySem.W.kitx_bool I.Xc True.intro e (λz=>nomatch z) h
 |int i=>obtain⟨t,q⟩:=(show ∃t,u=Value.int i t from d);cases q;exact PySem.W.kia_one PySem.W.kitx_int I.Xc True.intro e (λz=>nomatch z) h
 |str y=>obtain⟨t,q⟩:=(show ∃t,u=Value.str y t from d);cases q;exact PySem.W.kia_one PySem.W.kitx_str I.Xc True.intro e (λz=>nomatch z) h
 |flt y=>obtain⟨t,q⟩:=(show ∃t,u=Value.float y t from d);cases q;exact PySem.W.kia_one PySem.W.kitx_float I.Xc True.intro e (λz=>nomatch z) h
 |@lst a k f=>
  cases (show u=Value.ref a from d);obtain⟨_,_,n,_,g⟩:=(show bN X.prog X.w H s.heap a (.lst k)from I.hok a _ f);exact PySem.W.kia_one PySem.W.kitx_list I.Xc (_,g,7) e (λz=>nomatch z) h
 |@Xn a B k f=>
  cases (show u=Value.ref a from d);obtain⟨_,_,_,n,_,g⟩:=(show bN X.prog X.w H s.heap a (.Xn B (.lst k))from I.hok a _ f);exact PySem.W.kia_one PySem.W.kitx_list I.Xc (_,g,7) e (λz=>nomatch z) h
 |@tup a k f=>
  cases (show u=Value.ref a from d);obtain⟨_,_,_,p⟩:=(show bN X.prog X.w H s.heap a (.tup k)from I.hok a _ f);obtain⟨o,g,l,_⟩:=p;exact PySem.W.kia_one PySem.W.kitx_tuple I.Xc (o,g,l) e (λz=>nomatch z) h
 |@dK a j f=>
  cases (show u=Value.ref a from d);obtain⟨_,_,N,_,p⟩:=(show bN X.prog X.w H s.heap a (.dK j)from I.hok a _ f);obtain⟨o,L,M,g,l,_⟩:=p;exact PySem.W.kia_one PySem.W.kitx_dict I.Xc (o,g,l.1) e (λz=>nomatch z) h
 |@dT a j f=>
  cases (show u=Value.ref a from d);obtain⟨_,_,k,_,o,L,M,g,l,_⟩:=(show bN X.prog X.w H s.heap a (.dT j)from I.hok a _ f);exact PySem.W.kia_one PySem.W.kitx_dict I.Xc (o,g,l.1) e (λz=>nomatch z) h
 |@ins a C T S f r G D m F=>
  cases (show u=Value.ref a from d);obtain⟨R,O,_⟩:=Rx I.hok f;obtain⟨P,J,_⟩:=O.look;exact PySem.W.kia_one (PySem.W.kitx_own (r.get _) r.hd G D m F) I.Xc J e (λz=>nomatch z) h
end
structure ik(k:Nat)(A:Around):Prop where
 hd:A.handled=none
 dp:A.depth+3*k+5<recursionLimit
 un:A.units+16*k+200<cLine
theorem ik.mono{j k:Nat}{A:Around}(r:ik k A)(h:j<=k):ik j A:=(r.hd,by have:=r.dp;lia,by have:=r.un;lia)
theorem ik.deeper{k:Nat}{A:Around}(r:ik (k+1) A)(env:Env):ik k (A.deeper env):=
 (r.hd,by have:=r.dp;show A.depth+1+3*k+5<_;lia,by have:=r.un;show A.units+3+16*k+200<_;lia)
theorem ik.depth{k:Nat}{A:Around}(r:ik k A):A.depth<recursionLimit:=by have:=r.dp;lia
theorem ik.units{k:Nat}{A:Around}(r:ik k A):A.units+64<cLine:=by have:=r.un;lia
def Dz:TA:=λ_ H Q=>Q [] H
def Mu(Q:List V->Hp->Prop)(x:V):List V->Hp->Prop:=λa b=>Q (x::a) b
def Ol(a:TA)(σ:St)(Q:List V->Hp->Prop):VK:=λx b=>a σ b (Mu Q x)
def lN(c:TE)(b:TA):TA:=λ a H Q=>c a H (Ol b a Q)
section
variable{X:Cx}{te:TE}{t:TA}{pos:Pos}
theorem aj:PA X [] Dz:=λ_ _ _ _ H Q I h=>Calls.spliced_nil ([],H,I,.nil,h)
theorem au(m:PE X e te)(l:PA X es t)(k:starEach (e::es) X.env=(pq false (eval e X.env))::starEach es X.env:=by rfl):PA X (e::es) (lN te t):=by
 intro pos b s a H Q I h;rw[k];show wpAny _ _ (spliced ((pq false (eval e X.env))::backTo pos (starEach es X.env))) _ _ s;refine Calls.spliced_cons (Wo (m b s a H _ I h) λu d ⟨x,q,o,g,j⟩=>?_);exact Wo (l pos b d a q _ o j) λr v ⟨c,p,n,f,i⟩=>(x::c,p,n,.cons g f,i)
def QS(Q:VK):List V->Hp->Prop:=λa b=>a.length<=sizeLine /\ ∀p,b p=none->Q (.ref p) (upd b p (.tup a))
def UT(t:TA):TE:=λ a H Q=>t a H (QS Q)
def Rv(Q:VK):List V->Hp->Prop:=λa b=>a.length<=sizeLine /\ ∀p,b p=none->Q (.ref p) (upd b p (.lst a))
def UJ(t:TA):TE:=λ a H Q=>t a H (Rv Q)
theorem fc{x1}(h:PA X es t):PE X (.Tuple es x1 pos) (UT t):=by
 intro g s f H Q I k;refine wpAny_Tuple_spliced (Wo (h pos g s f H _ I k) λj a ⟨i,d,c,r,z,q⟩=>(by rw[<-r.length];exact z,2));have l:d a.heap.objs.size=none:=c.hok.fresh (aae _);refine(.ref a.heap.objs.size,upd d a.heap.objs.size (.tup i),c.laid (t':=a.toks) (λb u e=>Heap.get?_push_of_some _ e) (aae _) ?_,7,q _ l);exact(z,j,r,(_,Heap.get?_push_size _ rfl,7,9))
theorem bM(h:PA X es t):PE X (.List es pos) (UJ t):=by
 intro g s f H Q I k;refine wpAny_List_spliced (Wo (h pos g s f H _ I k) λj a ⟨i,d,c,r,z,q⟩=>(by rw[<-r.length];exact z,2));have l:d a.heap.objs.size=none:=c.hok.fresh (aae _);refine(.ref a.heap.objs.size,upd d a.heap.objs.size (.lst i),c.laid (t':=a.toks) (λb u e=>Heap.get?_push_of_some _ e) (aae _) ?_,7,q _ l);exact(z,j,0,r,Heap.get?_push_size _ rfl)
end
abbrev Sp:=List V->Hp->VK->XK->Prop
abbrev Xu:=List Env->Hp->Shared->XK->Value->Shared->Prop
variable{X:Cx}{H H0 H':Hp}{σ:St}{ta tb te:TE}{t:TA}{CX:Xu}{sp:Sp}{m:List V}{q:Addr->Hp->Prop}{M:TT}{U:List (List Key×V)}{Y:Ends}
structure Rz(P:Program)(w:World)(K:PySem.W.Frag)(mg:Str->Option Value)(base:Heap)(A:Around)(outer:List Env)(s:Shared)(H:Hp):Prop where
 frames:A.frames=some outer
 mod:Mod K mg base
 bs:∀b o,base.get? b=some o->s.heap.get? b=some o/\H b=none
 XM:base.objs.size<=s.heap.objs.size
 funs:s.heap.FunFrames base outer
 Yr:∀b∈frs outer,H b=none
 hok:WK P w H s.heap
 bare:AllBare s.gens
inductive CE(outer:List Env)(P:Program)(w:World)(H:Hp)(s:Shared)(Q:VK)(u:Value)(s':Shared):Prop
 | mk (v H':_) (_:s'.os=s.os) (_:AllBare s'.gens) (_:Un (frs outer) [] H H' s.heap s'.heap) (_:WK P w H' s'.heap) (_:RelV v u) (_:Q v H')
def CR(b:Xu)(a:List Env)(P:Program)(w:World)(H:Hp)(s:Shared)(Q:VK)(E:XK)(r:Result)(s':Shared):Prop:=
 match r with
 |.ok (.ret u)=>CE a P w H s Q u s'
 |.ok _=>False
 |.error e=>b a H s E e s'
structure bc(P:Program)(w:World)(K:PySem.W.Frag)(mg:Str->Option Value)(base:Heap)(CX:Xu)(k:Nat)(f:Addr)(fd:FuncData)(ps:List Str)(sp:Sp):Prop where
 len:∀vs H Q E,sp vs H Q E->vs.length=ps.length
 run:∀(A:Around) (outer:List Env) (s:Shared) (H:Hp) (args:Args) (us:List Value) (vs:List V) (Q:VK) (E:XK),ik k A->Rz P w K mg base A outer s H->BindsTo s fd args (ps.zip us)->Vals vs us->sp vs H Q E ->
  codeAny (model P w) A (.call (.ref f) args) (CR CX outer P w H s Q E) s
theorem bc.mono{P:Program}{w:World}{K:PySem.W.Frag}{mg:Str->Option Value}{base:Heap}{e:Xu}{j k:Nat}{f:Addr}{d:FuncData}{ps:List Str}{c:Sp}(F:bc P w K mg base e j f d ps c)(h:j<=k):
  bc P w K mg base e k f d ps c:=(F.len,λA a s H b i g Q E l=>F.run A a s H b i g Q E (l.mono h))
section
variable{s':Shared}
theorem Inv.env0(I:Inv X π σ H s):Rz X.prog X.w X.K X.mg X.base X.A X.stack s H:=
 (I.ok.frames,I.ok.mod,I.bs,agx I.ok.XM I.sz,I.stack,I.stkFree,I.hok,I.bare)
theorem Inv.after{Q:VK}{u:Value}(I:Inv X π σ H s)(h:CE X.stack X.prog X.w H s Q u s'):EP X π σ Q u s':=by
 obtain⟨v,k,i,a,f,e,r,q⟩:=h;obtain⟨j,g,d,t,c⟩:=s';obtain rfl:c=s.os:=i;exact(v,k,I.call (h':=j) (g':=g) (d':=d) (t':=t) (ch:=[]) f e a (λb z=>absurd z (by simp)),r,q)
end
def Mw(b:Sp)(c:List V)(E:XK)(Q:VK):List V->Hp->Prop:=λa d=>b (a++c) d Q E
def CJ(b:Sp)(c:List V)(E:XK)(t:TA):TE:=λ a H Q=>t a H (Mw b c E Q)
def Binds(K:PySem.W.Frag)(b:FuncData)(ps:List Str)(ds:List Value):Prop:=
 ∀(s:Shared) (a:List Value),K.In s.heap->(a++ds).length=ps.length->BindsTo s b (a,[]) (ps.zip (a++ds))
theorem Binds.all{K:PySem.W.Frag}{ps:List Str}(h:∀a:List Value,a.length=ps.length->bindArgs fd (a,[])=pure (ps.zip a)):Binds K fd ps []:=λs a _ b=>by
 rw[agr]at b ⊢;exact .of_eq (h a b)
def ig(d:Xu)(X:Cx)(E:XK):Prop:=∀(c:List (Addr×Obj)) (b:St) (H:Hp) (s:Shared) (e:Value) (a:Shared),Inv X c b H s->d X.stack H s E e a->X.xe e a
section
variable{k:Nat}{Yw:List V}{ds:List Value}{E:XK}{m:Str}{pos:Pos}
theorem Nx{σ:St}{s:Shared}{Q:VK}{vs:List V}(F:bc X.prog X.w X.K X.mg X.base CX k f fd ps sp)(g:ik k X.A)(l:Binds X.K fd ps ds)(hd:Vals Yw ds)(d:ig CX X E)
  (I:Inv X π σ H s)(r:Vals vs j)(h:sp (vs++Yw) H Q E):wpAny (model X.prog X.w) X.A (call (.ref f) j) (EP X π σ Q) X.xe s:=by
 have b:Vals (vs++Yw) (j++ds):=r.append hd;have i:(j++ds).length=ps.length:=by rw[<-b.length];exact F.len _ _ _ _ h
 refine wpAny_call (codeAny_mono (F.run X.A X.stack s H (j,[]) (j++ds) (vs++Yw) Q E g I.env0 (l s j I.Xc i) b h) λr c a=>?_);cases r with
 |error e=>exact d π σ H s e c I a
 |ok n=>
  cases n with
  |ret u=>exact I.after a
  |next=>exact False.elim a
  |brk=>exact False.elim a
  |cont=>exact False.elim a
theorem Rb(F:bc X.prog X.w X.K X.mg X.base CX k f fd ps sp)(j:ik k X.A)(u:Gl X x)(l:X.mg x=!!!f)(n:PySem.W.keepIn X.K (.ref f)=true)(y:Binds X.K fd ps ds)(hd:Vals Yw ds)(i:ig CX X E)
  (z:PA X (e::es) t)(b:(x==("__debug__" : Str))=false:=by decide)(v:starEach (e::es) X.env=(pq false (eval e X.env))::starEach es X.env:=by rfl)(a:(backTo pos (starEach es X.env)).any (·.1)=false:=by rfl):
  PE X (.Call (.Name x p) (e::es) [] pos) (CJ sp Yw E t):=by
 intro g s d H Q I h;refine wpAny_Call_Name_kw (j7 I u l ?_ b);refine PySem.W.callWith_K (h₀:=X.base) I.ok.mod.Y5 n (Wo (z pos g s d H _ I h) λD G ⟨B,J,c,r,q⟩=>(c.Xc,2)) v a;exact Nx F j y hd i c r q
end
section
variable{k:Nat}{ks:List Str}{E:XK}{m:Str}{pos kpos:Pos}{kws:List Keyword}{tk:TA}{nm:Option Str}
variable{g:List Value->List Value->List Value}{gV:List V->List V->List V}
end
structure aF(N P:List Str)(sc:Scope):Prop where
 kind:sc.kind=.function
 co:sc.isCoroutine=false
 gen:sc.isGenerator=false
 nd:N.Nodup
 pre:N.take P.length=P
 par:∀x∈P,sc.names.lookup x=some .local\/sc.names.lookup x=some .cell
 nofree:∀y∈sc.names,y.2 ≠ .free
def scB(N P:List Str)(a:Scope):Bool:=decide (a.kind=.function)&&(!a.isCoroutine&&(!a.isGenerator&&(decide N.Nodup&&(decide (N.take P.length=P)&&(P.all (λx=>decide (a.names.lookup x=some .local\/a.names.lookup x=some .cell))&&a.names.all λy=>decide (y.2 ≠ .free))))))
theorem Wr{N :List Str}(h:scB N ps scope=true:=by decide +kernel):aF N ps scope:=by
 simp only[scB,ahV,decide_eq_true_eq,ah6,ajj]at h;exact(h.1,h.2.1,h.2.2.1,h.2.2.2.1,h.2.2.2.2.1,h.2.2.2.2.2.1,h.2.2.2.2.2.2)
theorem zx{b:Str->Option NameKind}{x:Str}:∀{a:List (Str×Value)} {m:Str->Option Value},(∀v,(pq x v)∉a)->bindL b a m x=m x
 |[],_,_=>rfl
 |(n,v)::r,m,h=>by
  unfold bindL;rw[zx λw c=>h w (aai _ c)];split
  ·have:x≠n:=by rintro rfl;exact h v aal
   simp[this]
  ·rfl
theorem yz{b:Str->Option NameKind}{x:Str}:∀{a:List (Str×Value)} {m:Str->Option Value},(∀v,(pq x v)∉a)->bindC b a m x=m x
 |[],_,_=>rfl
 |(n,v)::r,m,h=>by
  unfold bindC;rw[yz λw c=>h w (aai _ c)];split
  ·rfl
  ·have:x≠n:=by rintro rfl;exact h v aal
   simp[this]
theorem yw{a:Str->Option NameKind}{x:Str}{v:Value}:∀{P:List Str}{vs:List Value}{i:Nat}{m:Str->Option Value},P.Nodup->P[i]?=some x->vs[i]?=some v->a x=some .local ->
  bindL a (P.zip vs) m x=some v
 |[],_,_,_,_,h,_,_=>by simp at h
 |_::_,[],_,_,_,_,h,_=>by simp at h
 |p::P,w::vs,0,m,d,c,b,e=>by
  simp at c b;subst c;subst b;show bindL a ((pq p w)::P.zip vs) m p=_;unfold bindL;rw[zx λv f=>(agU.mp d).1 (ahg f).1,if_pos e];simp
 |p::P,w::vs,i+1,m,d,c,b,e=>by
  show bindL a ((pq p w)::P.zip vs) m x=_;unfold bindL;exact yw (i:=i) (agU.mp d).2 (by simpa using c) (by simpa using b) e
theorem zz{a:Str->Option NameKind}{x:Str}{v:Value}:∀{P:List Str}{vs:List Value}{i:Nat}{m:Str->Option Value},P.Nodup->P[i]?=some x->vs[i]?=some v->a x≠some .local ->
  bindC a (P.zip vs) m x=some v
 |[],_,_,_,_,h,_,_=>by simp at h
 |_::_,[],_,_,_,_,h,_=>by simp at h
 |p::P,w::vs,0,m,d,c,b,e=>by
  simp at c b;subst c;subst b;show bindC a ((pq p w)::P.zip vs) m p=_;unfold bindC;rw[yz λv f=>(agU.mp d).1 (ahg f).1,if_neg e];simp
 |p::P,w::vs,i+1,m,d,c,b,e=>by
  show bindC a ((pq p w)::P.zip vs) m x=_;unfold bindC;exact zz (i:=i) (agU.mp d).2 (by simpa using c) (by simpa using b) e
def start(N:List Str)(vs:List V):St:=vs.map some++aap (N.length-vs.length) none
def jV(h:Xu)(P:Program)(w:World)(K:PySem.W.Frag)(mg:Str->Option Value)(base:Heap)(N:List Str)(c:Str)(a:Scope)(f:Addr)(g:Value)(A:Around)(b:List Env)(s:Shared)(H:Hp)(E:XK):Cx where
 prog:=P
 w:=w
 K:=K
 mg:=mg
 base:=base
 A:=A.deeper (envOfC c a s.heap.objs.size f g)
 N:=N
 s₀:=s
 H₀:=H
 env:=envOfC c a s.heap.objs.size f g
 outer:=b
 stack:=envOfC c a s.heap.objs.size f g::b
 ex:=[]
 calm:=true
 fn:=λ_=>true
 pn:=[]
 xe:=λe i=>wpAny (model P w) (A.deeper (envOfC c a s.heap.objs.size f g)) (leaving (envOfC c a s.heap.objs.size f g) e) (λ_ d=>h b H s E e d) (λj d=>h b H s E j d) i
theorem BR{n:Nat}{x:Str}(h:scope.names.lookup x=some .cell):∃c,(cellsFrom n scope.names []).lookup x=some c:=by
 have q:=PySem.W.cellsFrom_some scope.names n [] (.inl h);exact aiC.mp q
theorem yD{w:World}{K:PySem.W.Frag}{mg:Str->Option Value}{base:Heap}{N ps:List Str}{f:Addr}{A:Around}{s :Shared}{E:XK}{vs:List V}
  (S:aF N ps scope)(hd:A.handled=none)(g:Rz prog w K mg base A outer s H)(M:vs.length=ps.length)(r:Vals vs j)
  (x:InCallC s s.heap.objs.size (bindL (envOfC qual scope s.heap.objs.size f cd).kindOf (ps.zip j) λ_=>none) (cellsFrom (s.heap.objs.size+1) scope.names []) (bindC (envOfC qual scope s.heap.objs.size f cd).kindOf (ps.zip j) λ_=>none) s0):
  Inv (jV CX prog w K mg base N qual scope f cd A outer s H E) [] (start N vs) H s0:=by
 have J:ps.length<=N.length:=by have:=congrArg ahY S.pre;rw[aaq]at this;lia
 obtain⟨B,L,rfl,F⟩:=x.done;have C:∀b:Addr,b∉(jV CX prog w K mg base N qual scope f cd A outer s H E).ex:=λb z=>absurd (show b∈([]:List Addr)from z) (by simp);refine((g.mod,S.kind,7,7,aae _,λy z c B d=>?_,λy l=>?_,λy c _ h=>?_,λ_=>hd,Around.frames_deeper g.frames,.inr (7,7),λb z=>absurd z (C b),g.bs,g.XM,λb _ _=>C b,λb z=>absurd z (C b),g.funs,g.Yr),
  rfl,g.bare,Un.kept F,(_,x.toInCall.ns,λi y v B d O=>?_),λy c h=>(_,x.cell y c h),g.hok.fresh (aae _),λy c h=>?_,λp m=>absurd (show p∈([]:List (Addr×Obj))from m) (by simp),g.hok.kept F,2)
 ·exact name_of_addr x.apart (PySem.mem_of_lookup B) (PySem.mem_of_lookup d)
 ·have l:scope.names.lookup y=some .cell\/scope.names.lookup y=some .free:=l;rcases l with l|l
  ·exact BR l
  ·exact absurd rfl (S.nofree _ (PySem.mem_of_lookup l))
 ·exact ag0 (x.above y c (PySem.mem_of_lookup h))
 ·have t:i<vs.length:=by
   unfold start at d;by_cases t:i<vs.length
   ·exact t
   ·rw[agd (by simpa using t)]at d;rw[ahz]at d;split at d<;>cases d
  have I:vs[i]?=some v:=by
   unfold start at d;rw[af4 (by simpa using t),aak]at d;cases e:vs[i]? with
   |none=>rw[e]at d;cases d
   |some a=>rw[e]at d;cases d;rfl
  obtain⟨u,D,G⟩:=r.get I;have m:ps[i]?=some y:=by
   rw[<-S.pre,af9 ⋯];exact B
  have o:ps.Nodup:=by rw[<-S.pre];exact S.nd.sublist (ai7 _ _)
  exists u,G;rcases S.par y (aaw m)with k|k
  ·exact .inl (k,yw o m D k)
  ·obtain⟨c,e⟩:=BR (n:=s.heap.objs.size+1) k;refine .inr (.inl k,c,e,2);have q:=x.cell y c e;rw[zz o m D (by show scope.names.lookup y≠_;rw[k];decide)]at q;exact q
 ·exact g.hok.fresh (ag0 (x.above y c (PySem.mem_of_lookup h)))
 ·unfold start;show _=N.length;rw[aac,aaa,agb];lia
theorem LK{w:World}{K:PySem.W.Frag}{mg:Str->Option Value}{base:Heap}{k:Nat}{f:Addr}{name :Str}{g:Arguments}{h:List Stmt}{kV D U d X oc:Value}{Y od:Option Addr}
  {M:Array (Option Value)}{N ps:List Str}(lk:K.lookup f=some (oc,od,.func (PySem.W.fnOf name x g h scope cd kV D U Y d X),M))(R:PySem.W.codeIn K d x=true)(S:aF N ps scope)
  (z:∀vs H Q E,sp vs H Q E->vs.length=ps.length)
  (l:∀(A:Around) (c:List Env) (s:Shared) (H:Hp) (vs:List V) (Q:VK) (E:XK),ik k (A.deeper (envOfC x scope s.heap.objs.size f d))->sp vs H Q E ->
   ∃t,Xd (jV CX prog w K mg base N x scope f d A c s H E) h t/\t {nx:=λ_ H'=>Q .non H',rt:=Q} (start N vs) H):
  bc prog w K mg base CX (k+1) f (PySem.W.fnOf name x g h scope cd kV D U Y d X) ps sp:=by
 refine(z,λA c s H a0 us vs Q E L p hb r B=>?_);have hl:=z _ _ _ _ B;have Z:K.In s.heap:=p.mod.Y5.keeps λb o e=>(p.bs b o e).1;have O:s.heap.NoLimit:=p.mod.nolimit.keeps λb o e=>(p.bs b o e).1;have j:∀y∈ps.zip us,scope.names.lookup y.1=some .local\/(scope.names.lookup y.1=some .cell/\((cellsFrom (s.heap.objs.size+1) scope.names []).lookup y.1).isSome=true):=λ⟨n,v⟩ hy=>by
  rcases S.par n (ahg hy).1 with q|q
  ·exact .inl q
  ·exact .inr (q,PySem.W.cellsFrom_some _ _ _ (.inl q))
 refine codeAny_call_function L.depth (Z _ _ lk) rfl S.co S.gen rfl (PySem.W.codeRec_of Z R) (hb _ _ _ _ ?_);refine wpAny_newFunctionEnv_cells S.kind j λa1 he T a=>?_;subst he;refine(O.keeps a.toInCall.keep,codeAny_func ?_);obtain⟨t,ht,hq⟩:=l A c s H vs Q E (L.deeper _) B;have I:Inv (jV CX prog w K mg base N x scope f d A c s H E) [] (start N vs) H T:=yD S L.hd p hl r a;refine wpAny_mono (ht [] T (start N vs) H _ I hq) (λfl F m=>?_) λe F m=>m;have C:∀{i:St}{H':Hp}{v:V}{u:Value},Inv (jV CX prog w K mg base N x scope f d A c s H E) [] i H' F->RelV v u->Q v H'->CE c prog w H s Q u F:=
  λ{i H' v u} J G q=>(v,H',J.os,J.bare,J.base,J.hok,G,q)
 cases fl with
 |ret u=>
  obtain⟨v,i,H',J,G,q⟩:=m;exact C J G q
 |next=>
  obtain⟨i,H',J,q⟩:=m;exact C (v:=V.non) (u:=Value.none) J rfl q
 |brk=>
  obtain⟨_,_,_,q⟩:=m;exact False.elim q
 |cont=>
  obtain⟨_,_,_,q⟩:=m;exact False.elim q
section
variable{pos:Pos}{id T:String}{r:List V->Hp->VK->Prop}
def Uv(r:List V->Hp->VK->Prop)(Q:VK):List V->Hp->Prop:=λa b=>r a b Q
def tCB(r:List V->Hp->VK->Prop)(t:TA):TE:=λ a H Q=>t a H (Uv r Q)
theorem aL(u:fZ X (.builtin id) r)(o:Gl X x)(n:X.mg x=none)(l:bootBuiltins x=some (.builtin id))(v:PA X (e::es) t)(m:x ≠ "__name__":=by decide)(b:(x==("__debug__" : Str))=false:=by decide)
  (q:starEach (e::es) X.env=(pq false (eval e X.env))::starEach es X.env:=by rfl)(a:(backTo pos (starEach es X.env)).any (·.1)=false:=by rfl):PE X (.Call (.Name x p) (e::es) [] pos) (tCB r t):=by
 intro d s c H Q I h;refine wpAny_Call_Name_kw (fX I o n l ?_ m b);exact PyProof.Rows.callWith_builtin1 (Wo (v pos d s c H _ I h) λg i ⟨f,y,w,j,k⟩=>u d i c y f g Q w j k) q a
theorem bY(u:fZ X (.type T) r)(o:Gl X x)(n:X.mg x=none)(l:bootBuiltins x=some (.type T))(v:PA X (e::es) t)(m:x ≠ "__name__":=by decide)(b:(x==("__debug__" : Str))=false:=by decide)
  (q:starEach (e::es) X.env=(pq false (eval e X.env))::starEach es X.env:=by rfl)(a:(backTo pos (starEach es X.env)).any (·.1)=false:=by rfl):PE X (.Call (.Name x p) (e::es) [] pos) (tCB r t):=by
 intro d s c H Q I h;refine wpAny_Call_Name_kw (fX I o n l ?_ m b);exact PyProof.Rows.callWith_type1 (Wo (v pos d s c H _ I h) λg i ⟨f,y,w,j,k⟩=>u d i c y f g Q w j k) q a
end
end L2
section
open PySem L2
variable{s s0:Shared}{A:Around}{E:Value->Shared->Prop}{prog:Program}{π:List (Addr×Obj)}{K:PySem.W.Frag}{base h' h:Heap}{e tg o b:Expr}{a f C S dx:Addr}{mg:Str->Option Value}{outer:List Env}{scope:Scope}{es:List Expr}{x qual:Str}{N ps:List Str}{p apos:Pos}{cd:Value}{fd:FuncData}{n z:Nat}{c T:List Int}{d:Array Keyed}{g:Int}{i:List Addr}{j:List Value}{l:List (Str×Addr)}{r:List (Str×Nat)}{u:World}{y:Array Value}{B:Value->Addr->Result->Shared->Prop}{D:SortSt}{G:Type}{I:SetTable}{J:Option Value->Shared->Prop}{L:List (Int×Value)}{O:Option Nat->SortSt->Prop}{Q:Obj}{R:Value->Value->Sem Value}{Z:Array (Int×Value)}{X:Cx}{H H0 H':Hp}{σ:St}{ta tb te:TE}{t:TA}{CX:Xu}{sp:Sp}{m:List V}{q:Addr->Hp->Prop}{M:TT}{U:List (List Key×V)}{Y:Ends}
namespace HT
open PyProof.Rows
section
open PySem.SeqAt
open PySem.AutoSeq1 (wpAny_loadPart')
open PySem.MeetsSeq PySem.MeetsSeq2 PySem.MeetsSeq3
end
section
variable{w:World}
def Ws(n d:Nat):Option Int->Nat
 |none=>d
 |some v=>if v<0 then (v+(n:Int)).toNat else min v.toNat n
theorem p7(n d:Nat):Ws n d none=d:=rfl
theorem iy(n d k:Nat):Ws n d (some (k:Int))=min k n:=by
 show (if (k:Int)<0 then ((k:Int)+(n:Int)).toNat else min (k:Int).toNat n)=min k n;rw[if_neg ⋯,aaz]
theorem O5(n d:Nat)(hd:d<=n)(o:Option Int):Ws n d o<=n:=by
 cases o with
 |none=>exact hd
 |some v=>
  show (if v<0 then (v+(n:Int)).toNat else min v.toNat n)<=n;by_cases a:v<0
  ·rw[if_pos a];lia
  ·rw[if_neg a];exact Nat.min_le_right _ _
theorem Hw(v:Int)(n d:Nat):(if v<0 then max (v+(n:Int)) 0 else min v (n:Int))=((Ws n d (some v):Nat):Int):=by
 show (if v<0 then max (v+(n:Int)) 0 else min v (n:Int))=(((if v<0 then (v+(n:Int)).toNat else min v.toNat n):Nat):Int);by_cases a:v<0
 ·simp only[if_pos a];lia
 ·simp only[if_neg a];lia
theorem Hn(lo a:Option Int)(n:Nat):Builtin.Slice.sliceAdjust lo a 1 (n:Int)=(pq (((Ws n 0 lo:Nat):Int)) (((Ws n n a:Nat):Int))):=by
 have b:¬((1:Int)<0):=by lia
 unfold Builtin.Slice.sliceAdjust;simp only[b,if_false];refine ajS ?_ ?_
 ·cases lo with
  |none=>rfl
  |some v=>exact Hw v n 0
 ·cases a with
  |none=>rfl
  |some v=>exact Hw v n n
theorem Hq(i j:Nat):Builtin.Slice.slicePlaces (i:Int) (j:Int) 1=j-i:=by
 unfold Builtin.Slice.slicePlaces;have a:(1:Int) > 0:=by lia
 simp only[a,if_true,ahZ];split<;>lia
theorem vV{v:Value}{o:Option Int}{Q:Option Int->Shared->Prop}(p:IsPart v o)(h:Q o s):wpAny (model prog w) A (Builtin.Slice.slicePartIndex v) Q E s:=by
 cases p with
 |none=>exact slicePart_none h
 |int i t=>exact slicePart_int h
theorem qW{e:Value}{lo b:Option Int}{n:Nat}{Q:Int×Int×Nat->Shared->Prop}(i:s.heap.IsSliceOf a cd e .none)(g:IsPart cd lo)(f:IsPart e b)
  (h:Q (pq (((Ws n 0 lo:Nat):Int)) (pq 1 (Ws n n b-Ws n 0 lo))) s):wpAny (model prog w) A (Builtin.Slice.sliceApplied (.ref a) (pure (n:Int))) Q E s:=by
 obtain⟨k,c,j,d⟩:=id i;unfold Builtin.Slice.sliceApplied Builtin.Slice.sliceFields;refine wpAny_bind (wpAny_bind (wpAny_field c d (x:=cd) rfl (wpAny_bind (wpAny_field c d (x:=e) rfl (wpAny_bind (wpAny_field c d (x:=.none) rfl (wpAny_pure ?_)))))));refine wpAny_bind (slicePart_none ?_);show wpAny _ _ (if ((1:Int)==0)=true then _ else _) _ _ s;rw[if_neg ∅];refine wpAny_bind (vV g (wpAny_bind (vV f (wpAny_bind (wpAny_pure ?_)))));show wpAny _ _ (match Builtin.Slice.sliceAdjust lo b 1 (n:Int)with | (lo,b)=>pure (pq lo (pq ((1:Int)) (Builtin.Slice.slicePlaces lo b 1)))) _ _ s;rw[Hn lo b n];show wpAny _ _ (pure (pq (((Ws n 0 lo:Nat):Int)) (pq ((1:Int)) (Builtin.Slice.slicePlaces ((Ws n 0 lo:Nat):Int) ((Ws n n b:Nat):Int) 1)))) _ _ s;rw[Hq];exact wpAny_pure h
theorem MP(xs:Array Value)(i k:Nat):((aga k).filterMap λ(m:Nat)=>xs[((i:Int)+(m:Int)*1).toNat]?).toArray=((xs.toList.drop i).take k).toArray:=by
 have e:(λ(m:Nat)=>xs[((i:Int)+(m:Int)*1).toNat]?)=λm=>xs[i+m]?:=by
  funext m;have:((i:Int)+(m:Int)*1).toNat=i+m:=by lia
  rw[this]
 rw[e];have:=pick_run xs i k;rw[List.filterMap_map]at this;have a:((λx=>xs[x]?) ∘ λx=>i+x)=λm=>xs[i+m]?:=rfl;rw[a]at this;rw[this]
theorem qd{t :Addr}{i:Value}{lo c:Option Int}{Q:Value->Shared->Prop}(ht:IsTup s.heap t y)(j:s.heap.IsSliceOf a cd i .none)(l:IsPart cd lo)(k:IsPart i c)
  (o:¬(Ws y.size 0 lo=0/\Ws y.size y.size c=y.size))
  (h:Q (.ref s.heap.objs.size) {s with heap:=s.heap.push {cls:=.type "tuple",data:=.seq ((y.toList.drop (Ws y.size 0 lo)).take (Ws y.size y.size c-Ws y.size 0 lo)).toArray}})
  (hsz:y.size<=sizeLine):wpAny (model prog w) A (getItem (.ref t) (.ref a)) Q E s:=by
 have b:sizeOk (.seq ((y.toList.drop (Ws y.size 0 lo)).take (Ws y.size y.size c-Ws y.size 0 lo)).toArray):=by
  show ((y.toList.drop (Ws y.size 0 lo)).take (Ws y.size y.size c-Ws y.size 0 lo)).toArray.size<=sizeLine;rw[af6,aaq,aaM,aaf];lia
 have v:Ws y.size y.size c<=y.size:=O5 _ _ (aae _) c;obtain⟨n,d,f,p⟩:=id j
 have g:s.TypeIs (.ref a) "slice":=(n,d,f)
 unfold getItem
 try with_reducible refine wpAny_holding ?_
 first|refine wpAny_bind (wpAny_pure ?_) | skip
 refine wpAny_bind (wpAny_sequenceKey ht.typeIs ∅ ?_)
 refine wpAny_bind (wpAny_callSpecial?_slot (name:=Str.ofString "__getitem__") ht.typeIs PyProof.Rows.slot_tuple_getitem
  (wpAny_call_entry PyProof.Rows.slot_tuple_getitem ht.typeIs entry_tuple_getitem ?_ (args_tuple_getitem _ _)))
 show wpAny _ _ (Builtin.Tuple.tupleItemsOf (.ref t) >>= _) _ _ s;refine wpAny_bind (tupleItemsOf_ ht ?_);refine wpAny_bind (wpAny_typeOf g ?_);rw[if_pos ∅];refine wpAny_bind (qW j l k ?_);have e:¬((((Ws y.size 0 lo:Nat):Int)==0&&(1:Int)==1&&(Ws y.size y.size c-Ws y.size 0 lo)==y.size)=true):=by
  intro q;rw[ahV,ahV]at q;have u:((Ws y.size 0 lo:Nat):Int)=0:=eq_of_beq q.1.1;have r:Ws y.size y.size c-Ws y.size 0 lo=y.size:=eq_of_beq q.2;exact o (6,6)
 show wpAny _ _ (if (((Ws y.size 0 lo:Nat):Int)==0&&(1:Int)==1&&(Ws y.size y.size c-Ws y.size 0 lo)==y.size)=true then _ else _) _ _ s;rw[if_neg e,MP]
 first
  | exact wpAny_bind (m:=Builtin.Tuple.tupleExact _) (wpAny_newObj_type (wpAny_pure (9,wpAny_pure h)) b)
  | exact wpAny_bind (m:=Builtin.Tuple.tupleExact _) (wpAny_newObj_type (wpAny_bind (wpAny_pure (wpAny_pure (9,wpAny_pure h)))) b)
  | exact wpAny_bind (wpAny_bind (m:=Builtin.Tuple.tupleExact _) (wpAny_newObj_type (wpAny_pure (wpAny_pure (9,wpAny_pure h))) b))
  | exact wpAny_bind (wpAny_bind (m:=Builtin.Tuple.tupleExact _) (wpAny_newObj_type (wpAny_pure (9,wpAny_pure h)) b))
end
end HT
namespace L2
open PySem.Spec PyProof.Rows
abbrev TO:=St->Hp->(Option Int->Hp->Prop)->Prop
def PO(X:Cx)(e:Option Expr)(t:TO):Prop:=
 ∀(b:List (Addr×Obj)) (s:Shared) (a:St) (H:Hp) (Q:Option Int->Hp->Prop),Inv X b a H s->t a H Q ->
  wpAny (model X.prog X.w) X.A (evalPart e X.env) (λu d=>∃o c,Inv X b a c d/\IsPart u o/\Q o c) X.xe s
def uL:TO:=λ_ H Q=>Q none H
inductive Rm(Q:Option Int->Hp->Prop)(x:V)(H1:Hp):Prop
 | mk (i:_) (_:x=.int i) (_:Q (some i) H1)
def Ii(t:TE):TO:=λ a H Q=>t a H (Rm Q)
theorem intsAre_of{ns:List Int}:∀{a:List Value},Vals ‹ns› a->IntsAre a ns:=by
 induction ns with
 |nil=>intro a r;rw[ah9]at r;cases r;exact .nil
 |cons n ns d=>
  intro a r;rw[aax]at r;cases r with
  |cons c b=>
   obtain⟨t,e⟩:=c;subst e;exact .cons n t (d b)
section
variable{lo hi:Option Expr}{tl th:TO}{pos p2:Pos}
theorem cH:PO X none uL:=by
 intro b s a H Q I h;rw[evalPart_none];exact wpAny_pure (3,H,I,.none,h)
theorem bH(h:PE X e te):PO X (some e) (Ii te):=by
 intro b s a H Q I f;rw[evalPart_some];refine Wo (h b s a H _ I f) λu k ⟨x,j,g,c,d⟩=>?_;obtain⟨i,rfl,q⟩:=d;obtain⟨t,rfl⟩:=c;exact(some i,j,g,.int i t,q)
def SlR(X:Cx)(r:V->Option Int->Option Int->Hp->VK->Prop):Prop:=
 ∀(b:List (Addr×Obj)) (s:Shared) (a:St) (H:Hp) (x:V) (v d c:Value) (lo hi:Option Int) (f:Addr) (Q:VK),Inv X b a H s->RelV x v->s.heap.IsSliceOf f d c .none->IsPart d lo->IsPart c hi->r x lo hi H Q ->
  ∃T g,typeLookup (.type T) "__getitem__" = pure (some (.builtin g))/\s.TypeIs v T/\wpAny (model X.prog X.w) X.A (getItem v (.ref f)) (EP X b a Q) X.xe s
def S9(r:V->Option Int->Option Int->Hp->VK->Prop)(Q:VK)(x:V)(l:Option Int):Option Int->Hp->Prop:=λu a=>r x l u a Q
def T5(r:V->Option Int->Option Int->Hp->VK->Prop)(th:TO)(σ:St)(Q:VK)(x:V):Option Int->Hp->Prop:=λl a=>th σ a (S9 r Q x l)
def Tc(r:V->Option Int->Option Int->Hp->VK->Prop)(tl:TO)(th:TO)(σ:St)(Q:VK):VK:=λx a=>tl σ a (T5 r th σ Q x)
def tSl(r:V->Option Int->Option Int->Hp->VK->Prop)(te:TE)(tl th:TO):TE:=λ a H Q=>te a H (Tc r tl th a Q)
theorem bF{r:V->Option Int->Option Int->Hp->VK->Prop}(B:SlR X r)(E:PE X e te)(C:PO X lo tl)(z:PO X hi th):PE X (.Subscript e (.Slice lo hi none p2) pos) (tSl r te tl th):=by
 intro d s c H Q I h;refine Subscript_ (Wo (E d s c H _ I h) λv k ⟨x,N,L,m,p⟩=>?_);refine wpAny_Slice (Wo (C d k c N _ L p) λg j ⟨l,M,K,y,o⟩=>Wo (z d j c M _ K o) λf a ⟨u,i,J,t,n⟩=>?_);rw[evalPart_none];refine wpAny_pure ?_
 have G:Inv X d c i {a with heap:=a.heap.push {cls:=.type "slice",data:=.fields #[g,f,.none]}}:=J.kept (t':=a.toks) λb O q=>Heap.get?_push_of_some _ q
 obtain⟨T,P,F,ht,D⟩:=B d {a with heap:=a.heap.push {cls:=.type "slice",data:=.fields #[g,f,.none]}} c i x v g f l u a.heap.objs.size Q G m (Heap.IsSliceOf.new ..) y t n
 show wpAny (model X.prog X.w) X.A (subscriptTail e (.Slice lo hi none p2) v (.ref a.heap.objs.size)) (EP X d c Q) X.xe {a with heap:=a.heap.push {cls:=.type "slice",data:=.fields #[g,f,.none]}}
 exact tail_any (ops:=[.ref a.heap.objs.size,v]) ht F D (by with_unfolding_all rfl)
def dR(xs:List V)(lo hi:Option Int):List V:=(xs.drop (HT.Ws xs.length 0 lo)).take (HT.Ws xs.length xs.length hi-HT.Ws xs.length 0 lo)
theorem tQ(xs:List V)(lo hi:Option Int):(dR xs lo hi).length<=xs.length:=by
 unfold dR;rw[aaq,aaM];lia
inductive V5(K:PySem.W.Frag)(x:V)(lo:Option Int)(hi:Option Int)(H:Hp)(Q:VK):Prop
 | mk (a xs:_) (_:x=.ref a) (_:Wq K H a xs) (_:¬(HT.Ws xs.length 0 lo=0/\HT.Ws xs.length xs.length hi=xs.length)) (_:∀p,H p=none->Q (.ref p) (upd H p (.tup (dR xs lo hi))))
theorem Su:SlR X (V5 X.K):=by
 intro t s p H x v w u lo hi y Q I i n k j h;obtain⟨a,d,rfl,l,m,q⟩:=h;cases i;obtain⟨f,r,ht,g⟩:=I.tuple l;have c:f.toArray.size=d.length:=by rw[af6];exact r.length.symm
 exists "tuple",_,PyProof.Rows.slot_tuple_getitem.lookup,ht.typeIs
 refine HT.qd ht n k j (by rw[c];exact m) ?_ (by rw[c];exact g);rw[c];refine(.ref s.heap.objs.size,_,I.laid (t':=s.toks) (o:=.tup (dR d lo hi)) (λb z q=>Heap.get?_push_of_some _ q) (aae _) ?_,7,q _ (I.hok.fresh (aae _)));exact(agx (tQ d lo hi) g,_,(r.drop (HT.Ws d.length 0 lo)).take (HT.Ws d.length d.length hi-HT.Ws d.length 0 lo),IsTup.new _ _)
end
def XS(n:Nat)(i:Int):Option Nat:=if 0<=i then (if i<n then some i.toNat else none)else if -(n:Int)<=i then some (i+n).toNat else none
def W7{a:Type}(xs:List a)(i:Int):Option a:=(XS xs.length i).bind λj=>xs[j]?
theorem Ib{n:Nat}{i:Int}{j:Nat}(h:XS n i=some j):seqIndex? i n=some j/\j<n /\ -(n:Int)<=i/\i<n:=by
 unfold XS at h;by_cases b:0<=i
 ·rw[if_pos b]at h;by_cases a:i<n
  ·rw[if_pos a]at h;have e:i.toNat=j:=aat h;exact(by rw[seqIndex_of b a,e],6,6,a)
  ·rw[if_neg a]at h;cases h
 ·rw[if_neg b]at h;by_cases a : -(n:Int)<=i
  ·rw[if_pos a]at h;have e:(i+n).toNat=j:=aat h;exact(by rw[seqIndex_neg ⋯ a,e],6,a,6)
  ·rw[if_neg a]at h;cases h
theorem zV{xs:List G}{i:Int}{v:G}(h:W7 xs i=some v):∃j,seqIndex? i xs.length=some j/\xs[j]?=some v/\j<xs.length /\ -(xs.length:Int)<=i/\i<xs.length:=by
 unfold W7 at h;cases e:XS xs.length i with
 |none=>rw[e]at h;cases h
 |some j=>
  rw[e]at h;obtain⟨d,c,b,a⟩:=Ib e;exact(j,d,h,c,b,a)
theorem lC{xs:List G}{j:Nat}{v:G}(h:xs[j]?=some v):W7 xs (j:Int)=some v:=by
 have a:j<xs.length:=(aad.mp h).1;have e:XS xs.length (j:Int)=some j:=by
  unfold XS;rw[if_pos ⋯,if_pos ⋯];simp
 unfold W7;rw[e];exact h
theorem mL(xs:List G)(v:G):W7 (xs++[v]) (-1)=some v:=by
 have a:(xs++[v]).length=xs.length+1:=by simp
 have e:XS (xs++[v]).length (-1)=some xs.length:=by
  unfold XS;rw[a,if_neg ∅,if_pos ⋯];congr 1;lia
 unfold W7;rw[e];show (xs++[v])[xs.length]?=some v;simp
def RD(b:Expr):Prop:=∀o i,subscripted b false o i=operate [o,i] (getItem o i)
def IxR(X:Cx)(r:R2):Prop:=
 ∀(b a:Expr) (d:List (Addr×Obj)) (s:Shared) (c:St) (H:Hp) (x y:V) (v u:Value) (Q:VK),Inv X d c H s->RelV x v->RelV y u->r x y H Q ->
  subscripted a false v u=operate [v,u] (getItem v u)->wpAny (model X.prog X.w) X.A (subscriptTail b a v u) (EP X d c Q) X.xe s
def MtR(X:Cx)(id:String)(r:V->List V->Hp->VK->Prop):Prop:=
 ∀(b:List (Addr×Obj)) (s:Shared) (a:St) (H:Hp) (x:V) (c:List V) (v:Value) (d:List Value) (Q:VK),Inv X b a H s->RelV x v->Vals c d->r x c H Q ->
  wpAny (model X.prog X.w) X.A (call (.builtin id) (v::d)) (EP X b a Q) X.xe s
section
variable{a:Expr}{pos:Pos}
theorem bD{r:R2}(j:IxR X r)(l:PE X a ta)(k:PE X b tb)(i:RD b:=by exact λ_ _=>rfl):PE X (.Subscript a b pos) (Ym r ta tb):=by
 intro d s c H Q I h;exact Subscript_ (SM l k I h λv u e x y n m g f q=>j a b d e c n x y v u Q m g f q (i _ _))
inductive Vt(K:PySem.W.Frag)(x:V)(y:V)(H:Hp)(Q:VK):Prop
 | mk (p xs i v:_) (_:x=.ref p) (_:y=.int i) (_:My K H p xs) (_:W7 xs i=some v) (_:Q v H)
inductive Wl(K:PySem.W.Frag)(x:V)(y:V)(H:Hp)(Q:VK):Prop
 | mk (p xs i v:_) (_:x=.ref p) (_:y=.int i) (_:Wq K H p xs) (_:W7 xs i=some v) (_:Q v H)
inductive Wi(x:V)(y:V)(H:Hp)(Q:VK):Prop
 | mk (z i c:_) (_:x=.str z) (_:y=.int i) (_:z.length<=sizeLine) (_:W7 z.cps.toList i=some c) (_:Q (.str ⟨#[c]⟩) H)
theorem dI:IxR X (Vt X.K):=by
 intro k l n s m H x y v u Q I E D h o;obtain⟨p,P,i,z,rfl,rfl,F,J,q⟩:=h;cases E;obtain⟨t,rfl⟩:=D;obtain⟨g,r,e,R⟩:=I.list F;obtain⟨j,d,N,T,M,L⟩:=zV J;obtain⟨w,B,O⟩:=r.get N;have G:=r.length;have S:=qU;have c:EP X n m Q w s:=(z,H,I,O,q);by_cases A:0<=i
 ·have f:i.toNat=j:=by
   rw[seqIndex_of A L]at d;exact aat d
  exact item_listR e.isList A ⋯ (by rw[f];simpa using B) c o
 ·have f:(i+(g.toArray.size:Int)).toNat=j:=by
   rw[seqIndex_neg ⋯ M]at d;rw[af6,<-G];exact aat d
  exact subscriptTail_builtinR (x:=w) e.isList.typeIs slot_list_getitem.lookup
   (wpAny_getItem_list_neg (Q:=λr C=>r=w/\EP X n m Q r C) e.isList ⋯ (by rw[af6]<;>lia) ⋯ (by rw[f];simpa using B) (7,c)) o
theorem bO:IxR X (Wl X.K):=by
 intro d e g s f H x y v u Q I n m h o;obtain⟨p,L,i,z,rfl,rfl,A,C,q⟩:=h;cases n;obtain⟨t,rfl⟩:=m;obtain⟨J,r,k,M⟩:=I.tuple A;obtain⟨j,E,D,R,P,O⟩:=zV C;obtain⟨w,F,G⟩:=r.get D;have B:=r.length;have N:=qU;have c:EP X g f Q w s:=(z,H,I,G,q);exact subscriptTail_builtinR (x:=w) k.typeIs slot_tuple_getitem.lookup
  (getItem_tuple (j:=j) (Q:=λr l=>r=w/\EP X g f Q r l) k ⋯ ⋯ (by rw[af6,<-B];exact E) (by simpa using F) (7,c)) o
theorem Fl:IxR X Wi:=by
 intro d e C s B H x y v u Q I k g h l;obtain⟨z,i,c,rfl,rfl,E,n,q⟩:=h;obtain⟨t,rfl⟩:=k;obtain⟨D,rfl⟩:=g;obtain⟨j,f,r,G,p,o⟩:=zV n;have m:z.cps.toList.length=z.length:=by simp[Str.length]
 rw[m]at f p o;have F:=qU;exact tail_any (typeIs_str s z t) slot_str_getitem.lookup (getItem_str (c:=c) (by
  have A:decide (i < -(2^63:Int))=false:=decide_eq_false ⋯;have w:decide (i >= 2^63)=false:=decide_eq_false ⋯;rw[A,w,ajz]) (by rw[f];simpa using r) (.str ⟨#[c]⟩,H,I.tok _,(_,7),q)) l
theorem Fq(c:List Value)(n j:Nat)(u:Value):Obj.mapSeq (·.setIfInBounds j u) {cls:=.type "list",data:=.seq c.toArray n}={cls:=.type "list",data:=.seq (c.set j u).toArray n}:=by
 simp[Obj.mapSeq]
theorem Inv.lst{σ:St}{s:Shared}{p:Addr}{xs:List V}(I:Inv X π σ H s)(h:H p=some (.lst xs)):
  ∃(c:List Value) (n:Nat),Vals xs c/\s.heap.get? p=some {cls:=.type "list",data:=.seq c.toArray n}/\xs.length<=sizeLine:=by
 obtain⟨z,c,n,r,e⟩:=I.hok p _ h;exact(c,n,r,e,z)
theorem Inv.lstUpd{σ:St}{s:Shared}{p:Addr}{xs ys:List V}{its':List Value}{n :Nat}{f:Obj->Obj}(I:Inv X π σ H s)(h:H p=some (.lst xs))
  (d:s.heap.get? p=some {cls:=.type "list",data:=.seq j.toArray n})(c:f {cls:=.type "list",data:=.seq j.toArray n}={cls:=.type "list",data:=.seq its'.toArray z})(r:Vals ys its')(hz:ys.length<=sizeLine)(t:Nat):
  Inv X π σ (upd H p (.lst ys)) {s with heap:=s.heap.update p f,toks:=t}:=by
 have e:(s.heap.update p f).get? p=some {cls:=.type "list",data:=.seq its'.toArray z}:=by
  rw[Heap.get?_update_self f d (by rw[c]<;>rfl),c]
 refine I.write (x:=p) (e:=p) (by rw[h];trivial) (.inl rfl) (λb u g q=>(Heap.get?_update_other _ _ (agA g)).trans q) (_,e) ?_;exact(hz,its',z,r,e)
inductive Vv(o:V)(i:V)(v:V)(H:Hp)(Q:Hp->Prop):Prop
 | mk (p xs k j:_) (_:o=.ref p) (_:i=.int k) (_:H p=some (.lst xs)) (_:XS xs.length k=some j) (_:Q (upd H p (.lst (xs.set j v))))
theorem set_list:VJ X Vv:=by
 intro A s z H o i v J K u Q I D E C h;obtain⟨p,B,k,j,rfl,rfl,l,G,q⟩:=h;cases D;obtain⟨t,rfl⟩:=E;obtain⟨c,n,r,e,F⟩:=I.lst l;obtain⟨d,M,w,m⟩:=Ib G;have f:=r.length;have L:=qU;have y:Inv X A z (upd H p (.lst (B.set j v))) {s with heap:=s.heap.update p (Obj.mapSeq (·.setIfInBounds j u))}:=
  I.lstUpd l e (Fq c n j u) (r.set C j) (by rw[ahN];exact F) s.toks
 by_cases x:0<=k
 ·have g:k.toNat=j:=by
   rw[seqIndex_of x m]at d;exact aat d
  exact PySem.W.ki_setAt e x ⋯ (by rw[af6,<-f];exact m) (by rw[g];exact(_,y,q))
 ·have g:(k+(c.toArray.size:Int)).toNat=j:=by
   rw[seqIndex_neg ⋯ w]at d;rw[af6,<-f];exact aat d
  exact PySem.W.ki_setBack e ⋯ (by rw[af6,<-f];exact w) ⋯ (by rw[g];exact(_,y,q))
theorem zL(lo c:Option Int)(n:Nat):(sliceBounds lo c none n).1=((HT.Ws n 0 lo:Nat):Int)/\(sliceBounds lo c none n).2.1=((HT.Ws n n c:Nat):Int)/\(sliceBounds lo c none n).2.2=1:=by
 refine(2,2,7)
 ·cases lo with
  |none=>simp[sliceBounds,HT.Ws]
  |some i=>
   simp only[sliceBounds,HT.Ws,ajk,show (1:Int) > 0 by decide,if_true];by_cases h:i<0
   ·simp only[h,if_true]<;>lia
   ·simp only[h,if_false]<;>lia
 ·cases c with
  |none=>simp[sliceBounds,HT.Ws]
  |some i=>
   simp only[sliceBounds,HT.Ws,ajk,show (1:Int) > 0 by decide,if_true];by_cases h:i<0
   ·simp only[h,if_true]<;>lia
   ·simp only[h,if_false]<;>lia
theorem ym(c:List Value)(lo d:Option Int):slicePick c.toArray lo d none=((c.drop (HT.Ws c.length 0 lo)).take (HT.Ws c.length c.length d-HT.Ws c.length 0 lo)).toArray:=by
 obtain⟨g,f,e⟩:=zL lo d c.toArray.size;unfold slicePick;rw[g,f,e];simp only[sliceRange_one,pick_run,af6]<;>rfl
inductive N8(K:PySem.W.Frag)(x:V)(lo:Option Int)(hi:Option Int)(H:Hp)(Q:VK):Prop
 | mk (a xs:_) (_:x=.ref a) (_:My K H a xs) (_:∀p,H p=none->Q (.ref p) (upd H p (.lst (dR xs lo hi))))
theorem cI:SlR X (N8 X.K):=by
 intro t s p H x v w u e f y Q I g m j i h;obtain⟨a,c,rfl,l,q⟩:=h;cases g;obtain⟨n,r,ht,k⟩:=I.list l;have d:=r.length
 exists "list",_,slot_list_getitem.lookup,ht.isList.typeIs
 refine wpAny_getItem_list_slice ht.isList m j i .none (by simp) ?_ (by rw[af6]<;>lia);rw[ym,<-d];refine(.ref s.heap.objs.size,_,I.laid (t':=s.toks) (o:=.lst (dR c e f)) (λb z q=>Heap.get?_push_of_some _ q) (aae _) ?_,7,q _ (I.hok.fresh (aae _)));exact(agx (tQ c e f) k,_,0,(r.drop (HT.Ws c.length 0 e)).take (HT.Ws c.length c.length f-HT.Ws c.length 0 e),Heap.get?_push_size _ rfl)
theorem Ab:WN X (compareOp .NotIn) (λx y H Q=>∃i j,x=.str i/\y=.str j/\Q (.bl (!(!(Builtin.Str.occurrences j i 0 j.length 1).isEmpty))) H):=by
 intro f s e H x y v u Q I d c h;obtain⟨i,j,rfl,rfl,q⟩:=h;obtain⟨t,rfl⟩:=d;obtain⟨g,rfl⟩:=c;exact notIn_str (.bl _,H,I,7,q)
theorem aN:fZ X (.builtin "len") (λxs H Q=>∃p ys,xs=[.ref p]/\(My X.K H p ys\/Wq X.K H p ys)/\Q (.int ys.length) H):=by
 intro l s k H xs m Q I r h;obtain⟨p,ys,rfl,d,q⟩:=h;obtain⟨u,rfl,i⟩:=vals1 r;cases i;have n:=qU;rcases d with d|d
 ·obtain⟨g,e,f,j⟩:=I.list d;have c:=e.length;exact Calls.call_len_list f.isList (by simp only[af6]<;>lia) (.int ys.length,H,I.tok _,(s.toks+1,by rw[af6,c]),q)
 ·obtain⟨g,e,f,j⟩:=I.tuple d;have c:=e.length;exact len_tuple f (by simp only[af6]<;>lia) (.int ys.length,H,I.tok _,(s.toks+1,by rw[af6,c]),q)
theorem eU:fZ X (.builtin "len") (λxs H Q=>∃z,xs=[.str z]/\z.length<=sizeLine/\Q (.int z.length) H):=by
 intro d s c H xs e Q I r h;obtain⟨z,rfl,f,q⟩:=h;obtain⟨u,rfl,t,rfl⟩:=vals1 r;have g:=qU;exact len_str ⋯ (.int z.length,H,I.tok _,(_,7),q)
theorem cQ:fZ X (.type "list") (λxs H Q=>∃p ys,xs=[.ref p]/\(My X.K H p ys\/Wq X.K H p ys) /\ ∀l,H l=none->Q (.ref l) (upd H l (.lst ys))):=by
 intro B s A H xs D Q I r h;obtain⟨p,ys,rfl,k,q⟩:=h;obtain⟨u,rfl,C⟩:=vals1 r;cases C;have m:∀(c:List Value),Vals ys c->ys.length<=sizeLine -> ∀(d:Heap) (g:Nat),(∀b z,s.heap.get? b=some z->d.get? b=some z) ->
   d.get? s.heap.objs.size=some {cls:=.type "list",dict:=none,data:=.seq c.toArray g,slots:=#[]}->EP X B A Q (.ref s.heap.objs.size) {s with heap:=d}:=λc f j d g i e=>
  (.ref s.heap.objs.size,_,I.laid (t':=s.toks) i (aae _) (show bN X.prog X.w _ d _ (.lst ys)from (j,c,g,f,e)),7,q _ (I.hok.fresh (aae _)))
 rcases k with k|k
 ·obtain⟨c,f,v,j⟩:=I.list k;have t:=f.length;obtain⟨o,x,y,n,hd⟩:=v.isList;exact call_list_seq p (.inl rfl) x y hd (λd g i e=>m c f j d g i e) (by simp only[af6]<;>lia)
 ·obtain⟨c,f,v,j⟩:=I.tuple k;have t:=f.length;obtain⟨o,x,y,n,hd⟩:=v;exact call_list_seq p (.inr rfl) x y hd (λd g i e=>m c f j d g i e) (by simp only[af6]<;>lia)
theorem gM:fZ X (.type "tuple") (λxs H Q=>∃p ys,xs=[.ref p]/\((My X.K H p ys /\ ∀l,H l=none->Q (.ref l) (upd H l (.tup ys)))\/(Wq X.K H p ys/\Q (.ref p) H))):=by
 intro k s j H xs z Q I r h;obtain⟨p,ys,rfl,h⟩:=h;obtain⟨u,rfl,v⟩:=vals1 r;cases v;rcases h with ⟨i,q⟩|⟨i,q⟩
 ·obtain⟨c,f,g,m⟩:=I.list i;have t:=f.length;refine call_tuple_list g.isList (λd x=>?_) (by simp only[af6]<;>lia);have n:Inv X k j H {s with heap:=d}:=I.kept (t':=s.toks) x
  have y:Inv X k j (upd H d.objs.size (.tup ys)) {s with heap:=d.push {cls:=.type "tuple",data:=.seq c.toArray}}:=
   n.laid (t':=s.toks) (λb o e=>Heap.get?_push_of_some _ e) (aae _) (show bN X.prog X.w _ _ _ (.tup ys)from (m,c,f,IsTup.new _ _))
  exact(.ref d.objs.size,_,y,7,q _ (n.hok.fresh (aae _)))
 ·obtain⟨c,f,g,m⟩:=I.tuple i;exact call_tuple_same g (.ref p,H,I,7,q)
def tyV(K:PySem.W.Frag)(T:String)(x:V)(H:Hp):Prop:=match x with
 |.str _=>T = "str"
 |.int _=>T = "int"
 |.ref p=>(T = "list" /\ ∃d,My K H p d)\/(T = "tuple" /\ ∃o,K.lookup p=some o/\o.cls=.type "tuple" /\ o.dict=none) \/
   (T = "dict" /\ ((∃c,H p=some (.dK c)) \/ ∃c,H p=some (.dT c)))\/(T = "set" /\ ∃S n,H p=some (.set S n))
 |_=>False
theorem Oo{σ:St}{s:Shared}{T:String}{x:V}{v:Value}(I:Inv X π σ H s)(r:RelV x v)(g:tyV X.K T x H):
  s.TypeIs v T /\ ∀a,v=.ref a -> ∃l,s.heap.get? a=some l/\l.dict=none:=by
 cases x with
 |str z=>
  obtain⟨t,rfl⟩:=r
  cases (show T = "str" from g)
  exact(typeIs_str s z t,λ_ e=>nomatch e)
 |int i=>
  obtain⟨t,rfl⟩:=r
  cases (show T = "int" from g)
  exact(typeIs_int s i t,λ_ e=>nomatch e)
 |ref p=>
  cases r;rcases g with ⟨rfl,w,m⟩|⟨rfl,o,d,q,hd⟩|⟨rfl,d⟩|⟨rfl,S,n,d⟩
  ·obtain⟨u,_,k,_⟩:=I.list m;refine(k.isList.typeIs,λa e=>?_);cases e;obtain⟨o,n,e,c,hd,_⟩:=k;exact(o,e,hd)
  ·refine((o,I.Xc p o d,q),λa e=>?_);cases e;exact(o,I.Xc _ o d,hd)
  ·have z:∃o,s.heap.get? p=some o/\o.ExactDict:=by
    rcases d with ⟨j,d⟩|⟨j,d⟩
    ·obtain⟨_,_,_,_,o,_,_,e,f,_⟩:=I.hok p _ d;exact(o,e,f)
    ·obtain⟨_,_,_,_,o,_,_,e,f,_⟩:=I.hok p _ d;exact(o,e,f)
   obtain⟨o,e,f⟩:=z;refine((o,e,f.1),λa h=>?_);cases h;exact(o,e,f.2.1)
  ·obtain⟨o,_,_,_,e,f,_⟩:=I.hok p _ d;refine((o,e,f.1),λa h=>?_);cases h;exact(o,e,f.2.1)
 |_=>exact False.elim g
def Qt(K:PySem.W.Frag)(T:String)(r:V->List V->Hp->VK->Prop)(Q:VK):VK:=λx c=>tyV K T x c/\r x [] c Q
def V7(K:PySem.W.Frag)(T:String)(r:V->List V->Hp->VK->Prop)(d:TE):TE:=λ c H Q=>d c H (Qt K T r Q)
def SJ(K:PySem.W.Frag)(T:String)(r:V->List V->Hp->VK->Prop)(t:TA)(σ:St)(Q:VK):VK:=λx c=>tyV K T x c/\t σ c λd e=>r x d e Q
def tBM(K:PySem.W.Frag)(T:String)(r:V->List V->Hp->VK->Prop)(d:TE)(t:TA):TE:=λ c H Q=>d c H (SJ K T r t c Q)
variable{to:TE}{name:Str}{cpos:Pos}{T id:String}{r:V->List V->Hp->VK->Prop}
theorem Tr(q:PlainAttrs T)(f:Slot T name id)(g:typeOf (.builtin id)=pure (.type "method_descriptor"))(w:MtR X id r)(u:PE X o to)
  (d:attributeBase o name X.env (eval o X.env)=eval o X.env:=by rfl)(c:(apos.endLine==cpos.line)=true:=by rfl):PE X (.Call (.Attribute o name apos) [] [] cpos) (V7 X.K T r to):=by
 intro j s i H Q I h;refine wpAny_Call_method0_late d c (Wo (u j s i H _ I h) λv n ⟨x,A,l,k,m,p⟩=>?_);obtain⟨z,y⟩:=Oo l k m;exact(T,id,q,f,g,z,y,Calls.callWith_builtin rfl (PySem.evalArgs_none (w j n i A x [] v [] Q l k .nil p)))
theorem fD(D:PlainAttrs T)(g:Slot T name id)(l:typeOf (.builtin id)=pure (.type "method_descriptor"))(G:MtR X id r)(F:PE X o to)(J:PA X (e::es) t)
  (f:attributeBase o name X.env (eval o X.env)=eval o X.env:=by rfl)
  (i:((backTo cpos (starEach (e::es) X.env)).all (λx=>!x.1)&&(backToKw cpos (keywordEach [] X.env)).all (λx=>x.1.isSome)
   && decide ((e::es).length+([]:List Keyword).length+(if ([]:List Keyword).isEmpty then 0 else 1)<30))=true:=by rfl)
  (d:(apos.endLine==cpos.line)=true:=by rfl)(E:starEach (e::es) X.env=(pq false (eval e X.env))::starEach es X.env:=by rfl)(c:(backTo cpos (starEach es X.env)).any (·.1)=false:=by rfl):
  PE X (.Call (.Attribute o name apos) (e::es) [] cpos) (tBM X.K T r to t):=by
 intro k s j H Q I h;refine wpAny_Call_method_late f i d rfl (Wo (F k s j H _ I h) λv z ⟨x,P,p,m,w,C⟩=>?_);obtain⟨M,L⟩:=Oo p m w;exists T,id,D,g,l,M,L;have n:=J cpos k z j P _ p C;rw[E]at n ⊢;refine Calls.callWith_builtin (by show (false || (backTo cpos (starEach es X.env)).any (·.1))=false;rw[c]<;>rfl) (Calls.evalArgs_plain ?_);exact Wo n λu y ⟨q,O,N,A,B⟩=>G k y j O x q v u Q N m A B
end
def MtM(X:Cx)(id:String)(r:V->List V->Hp->VK->Prop):Prop:=
 ∀(b:List (Addr×Obj)) (s:Shared) (a:St) (H:Hp) (x:V) (c:List V) (v:Value) (d:List Value) (Q:VK),Inv X b a H s->RelV x v->Vals c d->r x c H Q ->
  wpAny (model X.prog X.w) X.A (call (.builtin id) (v::d)) (EP X b a Q) X.xe s
theorem Vals.one:∀{x:V}{a:List Value},Vals [x] a -> ∃u,a=[u]/\RelV x u
 |_,_,.cons r .nil=>(9,r)
theorem Vals.reverse{xs:List V}(h:Vals xs j):Vals xs.reverse j.reverse:=by
 induction h with
 |nil=>exact .nil
 |cons r t a=>rw[ai8,ai8];exact Vals.append a (.cons r .nil)
theorem Vals.rep{xs:List V}{a:List Value}(h:Vals xs a):∀k:Nat,Vals (aap k xs).flatten (aap k a).flatten
 |0=>.nil
 |k+1=>by
  rw[agz,agz,agW,agW];exact Vals.append h (Vals.rep h k)
theorem foldl_rep(a:List Value):∀(k:Nat) (b:List Value),
  ajy (λd c=>d++c) b.toArray (aap k a.toArray)=(b++(aap k a).flatten).toArray
 |0,b=>by simp
 |k+1,b=>by
  have e:b.toArray++a.toArray=(b++a).toArray:=by simp
  have f:(b++a)++(aap k a).flatten=b++(aap (k+1) a).flatten:=by
   rw[agz,agW,af5]
  rw[<-f,<-foldl_rep a k (b++a),<-e,agz,ajn]
section
variable{l b:Addr}{xs ys zs:List V}
theorem Inv.lset{its':List Value}{n:Nat}{f:Array Value->Array Value}{t':Nat}(I:Inv X π σ H s)(h:H l=some (.lst xs))
  (e:s.heap.get? l=some {cls:=.type "list",data:=.seq j.toArray n})(d:f j.toArray=its'.toArray)(a:Vals ys its')(hz:ys.length<=sizeLine):
  Inv X π σ (upd H l (.lst ys)) {s with heap:=s.heap.update l (Obj.mapSeq f),toks:=t'}:=by
 have q:=PySem.IsL.update e f;rw[d]at q;refine I.write (x:=l) (e:=l) (by rw[h];exact trivial) (.inl rfl) (λi u g c=>(Heap.get?_update_other s.heap (Obj.mapSeq f) (agA g)).trans c) (_,q) ?_;exact(hz,its',_,a,q)
theorem Inv.lnew{t':Nat}(I:Inv X π σ H s)(a:Vals ys j)(hz:ys.length<=sizeLine):
  Inv X π σ (upd H s.heap.objs.size (.lst ys)) {s with heap:=s.heap.push {cls:=.type "list",data:=.seq j.toArray},toks:=t'}:=
 I.laid (λ_ _ q=>Heap.get?_push_of_some _ q) (aae _) (hz,j,0,a,Heap.get?_push_size _ rfl)
theorem Inv.fresh(I:Inv X π σ H s):H s.heap.objs.size=none:=I.hok.fresh (aae _)
theorem Inv.lstM(I:Inv X π σ H s)(c:H l=some (.lst xs)):xs.length<=sizeLine /\ ∃(a:List Value) (n:Nat),Vals xs a/\xs.length=a.length/\s.heap.get? l=some {cls:=.type "list",data:=.seq a.toArray n}:=by
 obtain⟨z,a,n,r,e⟩:=I.hok l _ c;exact(z,a,n,r,r.length,e)
theorem CW{n:Nat}(h:n<=sizeLine):Builtin.List.listTooLong n=false:=by
 unfold Builtin.List.listTooLong;exact decide_eq_false ⋯
end
inductive QF(x:V)(vs:List V)(H:Hp)(Q:VK):Prop
 | mk (l xs y:_) (_:x=.ref l) (_:vs=[y]) (_:H l=some (.lst xs)) (_:xs.length<sizeLine) (_:Q .non (upd H l (.lst (xs++[y]))))
theorem bZ:MtM X "list.append" QF:=by
 intro i s g H x k v m Q I c d h;obtain⟨l,j,y,rfl,rfl,b,o,q⟩:=h;cases c;obtain⟨u,rfl,f⟩:=d.one;obtain⟨z,a,n,r,p,e⟩:=I.lstM b;refine call_meets F.slot_list_append (_,e,7) F.entry_list_append (F.args_list_append_2 _ _) (PySem.list_append l a.toArray n u (by rw[af6];lia)) (e,2);refine(.non,_,I.lset (its':=a++[u]) b e (by simp) (r.append (.cons f .nil)) ?_,7,q);rw[aac,agu];lia
inductive Rh(x:V)(vs:List V)(H:Hp)(Q:VK):Prop
 | mk (l b xs zs:_) (_:x=.ref l) (_:vs=[.ref b]) (_:H l=some (.lst xs)) (_:H b=some (.lst zs)) (_:xs.length+zs.length<=sizeLine) (_:Q .non (upd H l (.lst (xs++zs))))
theorem gH:MtM X "list.extend" Rh:=by
 intro A s y H x E v G Q I i j h;obtain⟨l,b,D,B,rfl,rfl,g,p,J,q⟩:=h;cases i;obtain⟨u,rfl,k⟩:=j.one;cases k;obtain⟨z,c,n,r,K,e⟩:=I.lstM g;obtain⟨C,a,o,m,w,t⟩:=I.lstM p;have f:c.toArray.size+a.toArray.size<=sizeLine:=by rw[af6,af6];lia
 have d:¬(!c.toArray.isEmpty&&Builtin.List.listTooLong (c.toArray.size+a.toArray.size))=true:=by
  rw[CW f,Bool.and_false];exact aaT
 refine call_meets F.slot_list_extend (_,e,7) F.entry_list_extend (F.args_list_extend_2 _ _)
  (AutoSeq1.list_extend_list_list_0 l c.toArray n b a.toArray o d (by rw[af6];lia) ⋯) (e,t,2)
 refine(.non,_,I.lset (its':=c++a) g e (by simp) (r.append m) ?_,7,q);rw[aac];lia
inductive UL(x:V)(y:V)(H:Hp)(Q:VK):Prop
 | mk (l b xs zs:_) (_:x=.ref l) (_:y=.ref b) (_:H l=some (.lst xs)) (_:H b=some (.lst zs)) (_:xs.length+zs.length<=sizeLine) (_:∀p,H p=none->Q (.ref p) (upd H p (.lst (xs++zs))))
theorem dG:WN X (binaryOp .Add) UL:=by
 intro t s p H x y v u Q I f d h;obtain⟨l,b,B,w,rfl,rfl,i,j,D,q⟩:=h;cases f;cases d;obtain⟨z,c,n,r,E,e⟩:=I.lstM i;obtain⟨A,a,C,g,o,m⟩:=I.lstM j;refine PySem.P.add_list e m ?_ (by rw[af6,af6];lia);have k:c.toArray++a.toArray=(c++a).toArray:=by simp
 rw[k];exact(.ref _,_,I.lnew (t':=s.toks) (r.append g) (by rw[aac];lia),7,q _ I.fresh)
inductive Vu(x:V)(y:V)(H:Hp)(Q:VK):Prop
 | mk (l k xs:_) (_:x=.ref l) (_:y=.int k) (_:H l=some (.lst xs)) (_ : -(2^63)<=k) (_:k<2^63) (_:xs.length*k.toNat<=sizeLine) (_:∀p,H p=none->Q (.ref p) (upd H p (.lst (aap k.toNat xs).flatten)))
theorem len_rep(xs:List G)(k:Nat):(aap k xs).flatten.length=k*xs.length:=by
 induction k with
 |zero=>simp
 |succ k a=>rw[agz,agW,aac,a,aiu,ah0]
theorem wZ:WN X (binaryOp .Mult) Vu:=by
 intro L s K H x y v u Q I B A h;obtain⟨l,k,M,rfl,rfl,D,G,E,p,q⟩:=h;cases B;obtain⟨t,rfl⟩:=A;obtain⟨z,b,n,r,C,e⟩:=I.lstM D;have f:b.toArray.size*k.toNat<=sizeLine:=by rw[af6,<-C];exact p
 have i:¬b.toArray.size*k.toNat > (2^63-1) / 8:=by
  have:(sizeLine:Nat)<=(2^63-1) / 8:=by decide
  lia
 have g:¬(!Builtin.List.listFitsIndex k)=true:=by
  rw[fitsIndex_both G E];exact aaT
 have c:¬Builtin.List.listTooLong (b.toArray.size*k.toNat)=true:=by
  rw[CW f];exact aaT
 have d:ajy (λo j=>o++j) #[] (aap (if b.toArray.isEmpty=true then 0 else k.toNat) b.toArray)=(aap k.toNat b).flatten.toArray:=by
  have J:∀m:Nat,ajy (λo j=>o++j) #[] (aap m b.toArray)=(aap m b).flatten.toArray:=λm=>by
   have:=foldl_rep b m [];rw[ahO]at this;exact this
  rw[J];cases b with
  |nil=>simp
  |cons a N=>rw[if_neg (by simp)]
 refine wpAny_binaryOp_repeat_ref (T := "list") (U := "int") ∅ (_,e,7) (λw=>typeIs_int w k t) noFill_list_mul F.fills_int_mul F.slot_int_rmul repeat_list F.slot_int_index.lookup
  (call_meets F.slot_int_rmul (typeIs_int s k t) F.entry_int_rmul (F.args_int_rmul_2 _ _) (int___rmul___int_list k t l b.toArray n)
   (e,7,(_,e,7),call_meets F.slot_list_mul (_,e,7) F.entry_list_mul (F.args_list_mul_2 _ _) (AutoListH.list___mul___list_int_3 l b.toArray n k t g i c) (e,2)))
 rw[d];exact(.ref _,_,I.lnew (t':=s.toks) (r.rep k.toNat) (by rw[len_rep,Nat.mul_comm];exact p),7,q _ I.fresh)
section
variable{w:World}
end
end L2
namespace Att
open PySem.W PySem.Calls PyProof.Rows
theorem uD{P:Params}:∀(ns:List Int) (vs:List Value),WellAll P base vs (ns.map WData.int)->IntsAre vs ns:=by
 intro ns
 induction ns with
 |nil=>
  intro vs w;rw[ah9]at w;cases w;exact .nil
 |cons n ns c=>
  intro vs w;rw[aax]at w;cases w with
  |cons a b=>
   cases a;exact .cons _ _ (c _ b)
theorem Lf{l:OpenLaw}{n:Nat}(v:l.most=some n){P:Params}{b:List WData}
  (c:l.row.toRowW.claim.pre b=true)(k:WellAll P base j b):
  ∃a vs ns,j=[Value.ref a]/\b=[WData.list (ns.map WData.int)]/\base.get? a=some {cls:=.type "list",data:=.seq vs.toArray}/\IntsAre vs ns/\ns.length<=n:=by
 have m:WShape.hasAll [] b [.list .int]=true:=(pre_splitW c).1;have o:l.pre.holds [] {args:=b}=true:=(pre_splitW c).2;obtain⟨d,r,rfl,y,x⟩:=hasAllW_cons m;obtain rfl:=hasAllW_nil x;obtain⟨z,rfl,w⟩:=hasW_list y;obtain⟨ns,rfl⟩:=items_int w;have e:ns.length<=n:=by
  unfold OpenLaw.pre at o;have i:(WTm.not (.lt (.lit (.int (n:Int))) (.len (.arg 0)))).holds [] {args:=[.list (ns.map .int)]}=true:=by
   have i:=(holds_andW o).1;rw[v]at i;exact i
  have g:=condW_of i (w_not (w_lt w_lit (w_len_list (w_arg rfl))));rw[aaa]at g;refine Nat.le_of_not_lt λq=>?_;have t:(n:Int)<((ns.length:Nat):Int):=by lia
  first
   | (rw[decide_eq_true t]at g;exact absurd g ∅)
   | (simp at g;lia)
 cases k with
 |cons s p=>
  cases p;cases s with
  |list u f=>exact(1,ns,7,7,u,uD ns _ f,e)
theorem Jp(l:OpenLaw)(a:List WData):l.row.toRowW.claim.post a (.bool true) a=true:=
 postW_of (r:=l.row.toRowW) (X:=(true==true))
  (show WShape.has [] (.bool true) .bool=true by first|rfl|decide|simp[WShape.has,WShape.arms,WShape.armsAll])
  (show (WTm.eq .res (.lit (.bool true))).value [] {args:=a,res:=some (.bool true),after:=a}=some (.bool (true==true))from w_eq_bool (w_res rfl) w_lit) rfl
theorem attach_call{l:OpenLaw}{n:Nat}{q:Program}{B:(Str->Option Value)->Heap->Prop}{A:World->Heap->Prop}{d:DefRec}
  (I:l.most=some n)(x:d.params.defaults=[])
  (m:∀(w:World) (c b:Shared) (mg t:Str->Option Value) (h:Addr) (o:Obj) (s p e:Value) (a:Addr) (vs:List Value) (ns:List Int),
   Ground q N [] B w c mg t b.heap->A w b.heap ->
   b.heap.get? h=some o->o.data=.func (docDef d.name d.params d.body d.scope s p e)->b.heap.CodeRec p d.name->mg d.name=some (.ref h) ->
   b.heap.get? a=some {cls:=.type "list",data:=.seq vs.toArray}->IntsAre vs ns->ns.length<=n->b.gens=#[] ->
   codeAny (model l.prog w) callerA (.call (.ref h) ([.ref a],[])) (λr s'=>r=.ok (.ret (.bool true))/\OldK b.heap s'.heap/\s'.os=b.os/\AllBare s'.gens) b):
  WalkO q N B A l.row.toRowW d [] (λf vs=>PySem.call f vs):=by
 intro w c b mg t G Y h o s p e P kV H hd y z v K E C S i D Q u R;obtain rfl:P=.none:=Dflts.none z x;obtain rfl:kV=.none:=Dflts.noKw z;obtain⟨a,vs,ns,rfl,rfl,j,g,k⟩:=Lf I i u;refine enter_call (codeAny_mono (m w c b mg t h o s p e a vs ns G Y H (fd_plain hd) y v j g k K) λr s' F=>?_);obtain⟨rfl,O,M,L⟩:=F;exact(.inl (.bool true,.bool true,[],7,λ_=>rfl,.bool true,Jp l _,λ_=>(List.Pairwise.nil,λ_ J=>(nomatch J))),O,M,L)
section
variable{w:World}{K:Frag}
end
end Att
namespace L2
open PySem.Spec PyProof.Rows
theorem sJ:∀{vs:List Value}{ns:List Int},IntsAre vs ns->Vals ‹ns› vs
 |_,_,.nil=>.nil
 |_,_,.cons n t h=>.cons (t,7) (sJ h)
def ν(s:Stmt):Arguments:=match s with
 |.FunctionDef _ a _ _ _ _ _ _ _ _=>a
 |_=>{posonlyargs:=[],args:=[],vararg:=none,kwonlyargs:=[],kw_defaults:=[],kwarg:=none,defaults:=[]}
def μ(s:Stmt):List Stmt:=match s with
 |.FunctionDef _ _ b _ _ _ _ _ _ _=>b
 |_=>[]
def δ(s:Stmt):Scope:=match s with
 |.FunctionDef _ _ _ _ _ _ a _ _ _=>a
 |_=>{kind:=.function,names:=[],isGenerator:=false,isCoroutine:=false}
abbrev Wt:Xu:=λ_ _ _ _ _ _=>False
abbrev E0:XK:=λ_ _ _=>False
theorem R0{X:Cx}:ig Wt X E0:=λ_ _ _ _ _ _ _ h=>h.elim
structure Xx(K:PySem.W.Frag)(x qual:Str)(st:Stmt)(f:Addr)(fd:FuncData):Prop where
 ex:∃(oc:Value) (od:Option Addr) (kV doc pm:Value) (an:Option Addr) (cdv ct:Value) (osl:Array (Option Value)),
  fd=PySem.W.fnOf x qual (ν st) (μ st) (δ st) .none kV doc pm an cdv ct/\K.lookup f=some (oc,od,.func fd,osl)/\PySem.W.codeIn K cdv qual=true
 kp:PySem.W.keepIn K (.ref f)=true
section
variable{P:Program}{w:World}
theorem Xx.ok{x :Str}{st:Stmt}{f:Addr}{N ps:List Str}{k:Nat}(F:Xx K x qual st f fd)(S:aF N ps (δ st))(d:∀vs H Q E,sp vs H Q E->vs.length=ps.length)
  (c:∀(b:Value) (A:Around) (a:List Env) (s:Shared) (H:Hp) (vs:List V) (Q:VK) (E:XK),ik k (A.deeper (envOfC qual (δ st) s.heap.objs.size f b))->sp vs H Q E ->
   ∃t,Xd (jV Wt P w K mg base N qual (δ st) f b A a s H E).ZF (μ st) t/\t {nx:=λ_ H'=>Q .non H',rt:=Q} (start N vs) H):bc P w K mg base Wt (k+1) f fd ps sp:=by
 obtain⟨p,o,kV,m,n,u,b,r,l,rfl,i,g⟩:=F.ex;refine LK i g S d λA a s H vs Q E j e=>?_;obtain⟨t,h,q⟩:=c b A a s H vs Q E j e;exact(t,h.ZF,q)
theorem Xx.Wv{x :Str}{st:Stmt}{f:Addr}{N ps:List Str}{k:Nat}(F:Xx K x qual st f fd)(S:aF N ps (δ st))
  (b:∀(c:Value) (A:Around) (a:List Env) (s:Shared) (H:Hp) (vs:List V) (Q:VK) (E:XK),ik k (A.deeper (envOfC qual (δ st) s.heap.objs.size f c))->sp vs H Q E ->
   ∃t,Xd (jV Wt P w K mg base N qual (δ st) f c A a s H E).ZF (μ st) t/\t {nx:=λ_ H'=>Q .non H',rt:=Q} (start N vs) H)(d:∀vs H Q E,sp vs H Q E->vs.length=ps.length:=by intro _ _ _ _ h;cases h;subst_vars;rfl):bc P w K mg base Wt (k+1) f fd ps sp:=F.ok S d b
theorem Xx.binds{x :Str}{st:Stmt}{f:Addr}{ps:List Str}(F:Xx K x qual st f fd)
  (h:∀(kV a d:Value) (g:Option Addr) (b e:Value) (c:List Value),c.length=ps.length->bindArgs (PySem.W.fnOf x qual (ν st) (μ st) (δ st) .none kV a d g b e) (c,[])=pure (ps.zip c)):Binds K fd ps []:=by
 obtain⟨l,k,kV,a,d,g,b,e,i,rfl,m,j⟩:=F.ex;exact .all (h kV a d g b e)
theorem Ob{x :Str}{st:Stmt}{f:Addr}{od h:Option Addr}{d:Array (Option Value)}{kV b e a g:Value}(l:K.lookup f=some (cd,od,.func (PySem.W.fnOf x qual (ν st) (μ st) (δ st) .none kV b e h a g),d))
  (c:PySem.W.codeIn K a qual=true)(k:PySem.W.keepIn K (.ref f)=true):Xx K x qual st f (PySem.W.fnOf x qual (ν st) (μ st) (δ st) .none kV b e h a g):=((cd,od,kV,b,e,h,a,g,d,7,l,c),k)
end
theorem pv(i:Nat){x:Str}{pos:Pos}(c:X.N[i]?=some x:=by rfl)(b:Vis X.env.scope x:=by first|exact ag3 rfl|exact ah1 (ag3 rfl) | exact ah1 (ah1 rfl))(hd:(x==("__debug__" : Str))=false:=by decide)
  (a:(x==("__classdict__" : Str))=false:=by decide):PE X (.Name x pos) (Gn i):=Hh c b hd a
theorem Wn(i:Nat){x:Str}{pos:Pos}{es:List Expr}{t:TA}(d:PA X es t)(e:X.N[i]?=some x:=by rfl)(b:Vis X.env.scope x:=by first|exact ag3 rfl|exact ah1 (ag3 rfl) | exact ah1 (ah1 rfl))(hd:(x==("__debug__" : Str))=false:=by decide)
  (a:(x==("__classdict__" : Str))=false:=by decide)(c:starEach (.Name x pos::es) X.env=(pq false (eval (.Name x pos) X.env))::starEach es X.env:=by rfl):PA X (.Name x pos::es) (lN (Gn i) t):=au (pv i e b hd a) d c
theorem b7{A B:Prop}(h:B):if false=true then A else B:=by
 rw[if_neg aaT];exact h
theorem cF{A B:Prop}(h:A):if true=true then A else B:=by
 rw[if_pos rfl];exact h
theorem fB{c A B:Prop}[Decidable c](b:c->A)(a:¬c->B):if c then A else B:=by
 by_cases h:c
 ·rw[if_pos h];exact b h
 ·rw[if_neg h];exact a h
theorem Iu{c A B:Prop}[Decidable c](a:c)(h:B):if (!decide c)=true then A else B:=by
 rw[decide_eq_true a];exact b7 h
def aM(H H':Hp):Prop:=∀b o,H b=some o->H' b=some o
theorem aM.refl(H:Hp):aM H H:=λ_ _ h=>h
theorem aM.trans(a:aM H H0)(b:aM H0 H'):aM H H':=λc o h=>b c o (a c o h)
theorem aM.free{H':Hp}(e:aM H H'){l:Addr}(h:H' l=ajP):H l=ajP:=by
 cases q:H l with
 |none=>rfl
 |some o=>
  rw[e l o q]at h;cases h
theorem aM.seq{K:PySem.W.Frag}{H':Hp}{a:Addr}{xs:List V}(e:aM H H')(h:My K H a xs):My K H' a xs:=by
 rcases h with (h|⟨o,h⟩) | h
 ·exact .inl (.inl (e _ _ h))
 ·exact .inl (.inr (o,e _ _ h))
 ·exact .inr h
end L2
namespace Tw
theorem aq{p:Addr}(h:H p=none)(o:HO):aM H (upd H p o):=λb u q=>by rw[aJ (aH q h)];exact q
theorem aZ{H':Hp}{p:Addr}(s:aM H H')(h:H p=none)(o:HO):aM H (upd H' p o):=λb u q=>by rw[aJ (aH q h)];exact s b u q
theorem small{n:Nat}(h:n<=4097):n<sizeLine:=ag4 h ∅
theorem bB:bootBuiltins "len" = some (.builtin "len"):=by decide +kernel
theorem Te:bootBuiltins "sum" = some (.builtin "sum"):=by decide +kernel
theorem cA:bootBuiltins "isinstance" = some (.builtin "isinstance"):=by decide +kernel
theorem z8:bootBuiltins "min" = some (.builtin "min"):=by decide +kernel
theorem rD:bootBuiltins "sorted" = some (.builtin "sorted"):=by decide +kernel
theorem Tq:bootBuiltins "int" = some (.type "int"):=by decide +kernel
theorem RK:bootBuiltins "bool" = some (.type "bool"):=by decide +kernel
theorem dM:bootBuiltins "list" = some (.type "list"):=by decide +kernel
theorem mZ:bootBuiltins "tuple" = some (.type "tuple"):=by decide +kernel
theorem tW:bootBuiltins "reversed" = some (.type "reversed"):=by decide +kernel
theorem GK:bootBuiltins "set" = some (.type "set"):=by decide +kernel
theorem rJ:bootBuiltins "zip" = some (.type "zip"):=by decide +kernel
theorem Ak(ns:List Int)(i j:Nat):dR ‹ns› (some (i:Int)) (some (j:Int))=((ns.drop i).take (j-i)).map V.int:=by
 unfold dR;rw[HT.iy,HT.iy,ajA,ahA,aaa];rcases agc ns.length i with h|h
 ·rw[aha (ag0 h),agk (by simp),agk (by simp;lia)];simp
 ·rw[ags h];rcases agc ns.length j with q|q
  ·rw[aha (ag0 q),aaj (by simp),aaj (by simp;lia)]
  ·rw[ags q]
theorem oM(ns:List Int)(j:Nat):dR ‹ns› none (some (j:Int))=(ns.take j).map V.int:=by
 unfold dR;rw[HT.iy,HT.p7,ajA,aaa,agL,aia];rcases agc ns.length j with q|q
 ·rw[aha (ag0 q),aaj (by simp),aaj (by simp;lia)]
 ·rw[ags q]
theorem CN(ns:List Int)(i:Nat):dR ‹ns› (some (i:Int)) none=(ns.drop i).map V.int:=by
 unfold dR;rw[HT.iy,HT.p7,ahA,aaa];rcases agc ns.length i with h|h
 ·rw[aha (ag0 h),agk (by simp),agk (by simp;lia)];simp
 ·rw[ags h,aaj (by simp)]
theorem int_at{ns:List Int}{i:Nat}{x:V}(h:‹ns›[i]?=some x):∃c,ns[i]?=some c/\x=.int c:=by
 rw[aak]at h;cases e:ns[i]? with
 |none=>rw[e]at h;cases h
 |some c=>rw[e]at h;exact(c,7,(aat h).symm)
theorem uJ{ns:List Int}{i:Nat}{c:Int}(h:ns[i]?=some c):W7 ‹ns› (i:Int)=some (.int c):=lC (by rw[aak,h];rfl)
theorem Dh{l:List G}{i:Nat}{a:G}(h:l[i]?=some a):l.set i a=l:=by
 refine agn λj=>?_;by_cases e:i=j
 ·subst e;rw[agG (aad.mp h).1,h]
 ·rw[agE e]
theorem Rj{c A:Prop}[Decidable c]{i:Nat}{g0:Int}{σ:St}(P:Int->Prop)(a:P g0)(e:σ[i]?=some (!!!!g0))(h:∀g,P g->Y.nx (σ.set i (!!!!g)) H)(b:c->(∀g,P g->Y.nx (σ.set i (!!!!g)) H)->A):
  if c then A else Bw Y σ H:=by
 by_cases q:c
 ·rw[if_pos q];exact b q h
 ·rw[if_neg q];have:=h g0 a;rw[Dh e]at this;exact this
structure Df(K:PySem.W.Frag)(mg:Str->Option Value)(x:Str)(st:Stmt)(ps:List Str)(f:Addr)(fd:FuncData):Prop where
 F:Xx K x x st f fd
 b:Binds K fd ps []
 m:mg x=some (.ref f)
def bit(b:Int)(k:Nat):Int:=b / 2^k%2
def bits(b:Int)(n:Nat):List Int:=(aga n).map (bit b)
def ones(b:Int)(n:Nat):Int:=(bits b n).sum
theorem cC(b:Int)(n:Nat):(bits b n).length=n:=by simp[bits]
theorem JC(b:Int)(n:Nat):bits b (n+1)=bits b n++[bit b n]:=by simp[bits,agl]
theorem yr(b:Int):ones b 0=0:=rfl
theorem yS(b:Int)(n:Nat):ones b (n+1)=ones b n+bit b n:=by
 unfold ones;rw[JC];simp
theorem qw{b:Int}{n k:Nat}(h:k<n):(bits b n)[k]?=some (bit b k):=by simp[bits,h]
theorem Km(b:Int)(k:Nat):bit b k=0\/bit b k=1:=by
 unfold bit;lia
def aK(ns:List Int):Prop:=∀b∈ns,b=0\/b=1
theorem aK.tail{b:Int}{ns:List Int}(h:aK (b::ns)):aK ns:=λx a=>h x (.tail _ a)
theorem aK.head{b:Int}{ns:List Int}(h:aK (b::ns)):b=0\/b=1:=h b (.head _)
theorem aK.take{ns:List Int}(h:aK ns)(k:Nat):aK (ns.take k):=λx a=>h x (agt a)
theorem aK.drop{ns:List Int}(h:aK ns)(k:Nat):aK (ns.drop k):=λx a=>h x (ago a)
theorem xO{a b:List Int}(e:aK a)(d:aK b):aK (a++b):=λx c=>by
 rcases aaG.mp c with h|h
 ·exact e x h
 ·exact d x h
def blk:List Int->Int
 |[]=>0
 |b::r=>2*blk r+b
theorem uU:∀{ns:List Int},aK ns->0<=blk ns
 |[],_=>by simp[blk]
 |b::r,h=>by
  have:=uU h.tail;have:=h.head;simp only[blk];lia
theorem Ep(b:Int):bit b 0=b%2:=by simp[bit]
theorem zr(b:Int)(k:Nat):bit b (k+1)=bit (b / 2) k:=by
 unfold bit;rw[ahB ∅,<-Int.pow_succ']
theorem qu:∀{ns:List Int},aK ns -> ∀k:Nat,bit (blk ns) k=(ns[k]?).getD 0
 |[],_,k=>by simp[blk,bit]
 |b::r,h,0=>by
  have:=h.head;rw[Ep];simp only[blk,List.getElem?_cons_zero,ahH];lia
 |b::r,h,k+1=>by
  have a:=h.head;rw[zr,ahC];have e:blk (b::r) / 2=blk r:=by simp only[blk];lia
  rw[e];exact qu h.tail k
theorem jP{ns:List Int}(h:aK ns):∀k:Nat,ones (blk ns) k=(ns.take k).sum
 |0=>by simp[yr]
 |k+1=>by
  rw[yS,jP h k,qu h];by_cases a:k<ns.length
  ·rw[af7,aab a];simp only[ai3,ahh,ahD,ajh,ahH];lia
  ·rw[aaj ⋯,aaj ⋯,aaC ⋯];simp
def many(n:Nat):Nat:=(n+31) / 32
def dZ(ns:List Int)(j:Nat):Int:=blk ((ns.drop (32*j)).take 32)
def bw(ns:List Int):List Int:=(aga (many ns.length)).map (dZ ns)
theorem aX(ns:List Int):(bw ns).length=many ns.length:=by simp[bw]
theorem jU{ns:List Int}{j:Nat}(h:j<many ns.length):(bw ns)[j]?=some (dZ ns j):=by simp[bw,h]
theorem qR{ns:List Int}(h:aK ns)(j:Nat):aK ((ns.drop (32*j)).take 32):=(h.drop _).take _
theorem SX{ns:List Int}(h:aK ns)(j k:Nat)(a:k<32):bit (dZ ns j) k=(ns[32*j+k]?).getD 0:=by
 unfold dZ;rw[qu (qR h j),af9 a,agm]
def XX(bs:List Int):List Int:=bs.flatMap λb=>bits b 32
theorem M9(bs:List Int)(b:Int):XX (bs++[b])=XX bs++bits b 32:=by simp[XX]
theorem oZ:∀bs:List Int,(XX bs).length=32*bs.length
 |[]=>rfl
 |b::r=>by
  have:=oZ r;simp only[XX,agX,aac,cC,aao]at this ⊢;lia
theorem Jc:∀(bs:List Int) (i:Nat),(XX bs)[i]?=(bs[i / 32]?).map λb=>bit b (i%32)
 |[],i=>by simp[XX]
 |b::r,i=>by
  show (bits b 32++XX r)[i]?=_;by_cases d:i<32
  ·rw[af4 (by rw[cC];exact d),qw d];have c:i / 32=0:=by lia
   have a:i%32=i:=by lia
   rw[c,a];rfl
  ·rw[agd (by rw[cC];lia),cC,Jc r (i-32)];have c:i / 32=(i-32) / 32+1:=by lia
   have a:i%32=(i-32)%32:=by lia
   rw[c,a,ahC]
theorem rz{ns:List Int}(h:aK ns):(XX (bw ns)).take ns.length=ns:=by
 refine agn λi=>?_;by_cases a:i<ns.length
 ·rw[af9 a,Jc,jU (by unfold many;lia)];rw[ag1,SX h _ _ ⋯];have e:32*(i / 32)+i%32=i:=by lia
  rw[e,aab a];rfl
 ·rw[aaC (by rw[aaq];lia),aaC ⋯]
def net(b:Int)(k:Nat):Int:=2*ones b k-k
theorem Mf(b:Int):net b 0=0:=by simp[net,yr]
theorem BZ(b:Int)(k:Nat):net b (k+1)=net b k+2*bit b k-1:=by
 unfold net;rw[yS];lia
def nets(b:Int)(n:Nat):List Int:=(aga n).map λk=>net b (k+1)
theorem tM(b:Int)(n:Nat):(nets b n).length=n:=by simp[nets]
theorem K7(b:Int)(n:Nat):nets b (n+1)=nets b n++[net b (n+1)]:=by simp[nets,agl]
theorem Ei{b:Int}{n:Nat}{x:Int}:x∈nets b n ↔ ∃k,1<=k/\k<=n/\x=net b k:=by
 unfold nets;rw[afs];constructor
 ·rintro⟨k,a,rfl⟩;exact(k+1,6,by have:=agK.mp a;lia,7)
 ·rintro⟨k,d,c,rfl⟩;exists k-1,agK.mpr ⋯;have e:k-1+1=k:=by lia
  rw[e]
def ht(ns:List Int)(k:Nat):Int:=2*(ns.take k).sum-k
theorem lw(ns:List Int):ht ns 0=0:=by simp[ht]
theorem Bk{ns:List Int}{k:Nat}{b:Int}(h:ns[k]?=some b):ht ns (k+1)=ht ns k+2*b-1:=by
 unfold ht;rw[af7,h];simp only[ai3,ahh,ahD,ajh];lia
theorem lJ(ns:List Int)(a k:Nat):(ns.take (a+k)).sum=(ns.take a).sum+((ns.drop a).take k).sum:=by
 rw[ajB,ahh]
theorem Ef{ns:List Int}(h:aK ns)(j k:Nat)(a:k<=32):ht ns (32*j+k)=ht ns (32*j)+net (dZ ns j) k:=by
 unfold ht net dZ;rw[jP (qR h j),lJ,ahq,ags a];lia
theorem Gk{ns:List Int}(h:aK ns)(j k:Nat)(a:k<=32):ones (dZ ns j) k=((ns.drop (32*j)).take k).sum:=by
 unfold dZ;rw[jP (qR h j),ahq,ags a]
theorem J7{ns:List Int}(h:aK ns)(j k:Nat)(a:k<=32):(ns.take (32*j)).sum+ones (dZ ns j) k=(ns.take (32*j+k)).sum:=by
 rw[Gk h j k a,lJ]
theorem Ju(b:Int)(n:Nat):bits b (n+1)=b%2::bits (b / 2) n:=by
 unfold bits;rw[List.range_succ_eq_map,aax,Ep,agC];congr 1;refine agR λk _=>?_;exact zr b k
theorem BV:∀(n:Nat) (b:Int),0<=b->b<2^n->blk (bits b n)=b
 |0,b,c,a=>by
  have:b=0:=by simp at a;lia
  subst this;rfl
 |n+1,b,c,a=>by
  rw[ahe]at a;rw[Ju,blk,BV n (b / 2) ⋯ ⋯];lia
theorem uf(b:Int)(n:Nat):aK (bits b n):=λx a=>by
 obtain⟨k,_,rfl⟩:=afs.mp a;exact Km b k
theorem GP(bs:List Int):aK (XX bs):=λx a=>by
 obtain⟨b,_,h⟩:=ahW.mp a;exact uf b 32 x h
end Tw
namespace L2
open PySem.Spec PyProof.Rows
theorem Inv.turn2{e p:Addr}{o:HO}{t':Nat}(I:Inv X π σ H s)(g:gf X π H e)(f:gf X π H a)
  (k:∀b u,b≠e->b≠a->s.heap.get? b=some u->h'.get? b=some u)(A:s.heap.objs.size<=p)
  (t:bN X.prog X.w (upd H p o) h' p o):Inv X π σ (upd H p o) {s with heap:=h',toks:=t'}:=by
 have E:=I.hok.fresh A;have y:∀b u,H b=some u->b≠e:=λb u q z=>by rw[z,g.1]at q;cases q
 have x:∀b u,H b=some u->b≠a:=λb u q z=>by rw[z,f.1]at q;cases q
 have h:∀b u,H b=some u->upd H p o b=some u:=λb u q=>by rw[aJ (aH q E)];exact q
 have l:∀b u,b∉[e,a]->s.heap.get? b=some u->h'.get? b=some u:=λb u d q=>k b u (λz=>d (by simp[z])) (λz=>d (by simp[z])) q;refine I.step (g':=s.gens) (d':=s.drawn) (ch:=[e,a]) (λb d=>?_) (λb u _ _ i q _=>l b u i q) (λb u _ _ i q _=>(u.slots,l b u i q))
  (λb u _ q n=>by rw[aJ (aaA (aas (Heap.lt_size q) A))];exact n) (λb u i q=>(u,l b u i q))
  (λb C q=>h _ _ q) (λb j u q=>h _ _ q) (λb K q=>(#[],by rw[h _ _ q];simp)) (λm F=>?_) (λb u q=>?_) I.bare
 ·rcases aav.mp d with rfl|d
  ·exact(g.2.2.2.1,g.2.1,g.2.2.2.2.1,g.2.2.2.2.2)
  ·rw[aan.mp d];exact(f.2.2.2.1,f.2.1,f.2.2.2.2.1,f.2.2.2.2.2)
 ·obtain⟨j,G,J,D,r⟩:=F;exact(j,G,J,k _ j (agA g.2.1) (agA f.2.1) D,r)
 ·by_cases d:b=p
  ·subst d;rw[aa]at q;cases q;exact t
  ·rw[aJ d]at q;refine(I.hok b u q).stay (λc v B r=>k c v ?_ ?_ r) (λc r=>h _ _ r) λc C r=>h _ _ r
   ·rcases B with rfl|z
    ·exact y _ _ q
    ·exact y _ _ z
   ·rcases B with rfl|z
    ·exact x _ _ q
    ·exact x _ _ z
def Zk(K:PySem.W.Frag)(a:Addr):It:=
  (λi H=>∃b x,My K H a b/\b[i]?=some x,λi H x c=>∃p y,H p=none/\x=.ref p/\c=upd H p (.tup [.int (i:Int),y]) /\ ∀b,My K H a b->b[i]?=some y,
   λi H=>∃b,My K H a b/\b.length<=i)
theorem JR{w:World}{K:PySem.W.Frag}(a e l:Addr)(t:e≠l):
  Turn prog w K (.Tuple es n p) (Zk K a) [e,l] e (λi h=>(∃f,IsEnum h e l (i:Nat) f)/\h.IsListIter l a i) where
 mem:=by simp
 obj:=λi h d b j=>by
  obtain⟨⟨f,g⟩,o,ho,J,hd⟩:=d;rcases aav.mp j with rfl|j
  ·exact(_,g,λv z=>by cases z)
  ·rw[aan.mp j];exact(o,ho,λv z=>by rw[hd]at z;cases z)
 keep:=λi h h' d k=>by
  obtain⟨⟨f,g⟩,d⟩:=d;exact((f,k e (by simp) _ g),d.at λo q=>k l (by simp) o q)
 item:=by
  intro X L F M J i π s σ H E I r d G;subst L F M;obtain⟨xs,x,A,D⟩:=G;obtain⟨O,C,c,hz⟩:=I.list A;obtain⟨u,hu,ru⟩:=C.get D;obtain⟨⟨f,g⟩,d⟩:=d;refine wpAny_pyNext_enum_item g d c.isList (x:=u) (by simpa using hu) t λh1 T y Q a0 R=>?_;refine(9,wpAny_letOwnedTupleGo_enum T λB U m=>?_);have ee:e<s.heap.objs.size:=Heap.lt_size g
  have g2:B.get? s.heap.objs.size=some {cls:=.type "tuple",data:=.seq #[.int (i:Int) s.toks,u]}:=(m.2 _ (ait ee)).trans Q
  have kk:∀b o,b≠e->b≠l->s.heap.get? b=some o->B.get? b=some o:=λb o Z h4 q=>(m.2 b Z).trans (R b o Z h4 q);have N:bN X.prog X.w (upd H s.heap.objs.size (.tup [.int (i:Int),x])) B s.heap.objs.size (.tup [.int (i:Int),x]):=
   (sl2,[.int (i:Int) s.toks,u],.cons (_,7) (.cons ru .nil),_,g2,7,9)
  have I2:=I.turn2 (h':=B) (t':=s.toks+1) (r e (by simp)) (r l (by simp)) kk (aae _) N;have hn:H s.heap.objs.size=none:=I.hok.fresh (aae _);refine(.ref s.heap.objs.size,_,I2,7,(_,x,hn,7,7,λys hy=>by rw[I.list_inj hy A];exact D),((u,by simpa using U),y.extBut m.extBut (agA t)),λb j=>?_);have Y:=(r b j).1;have V:b≠s.heap.objs.size:=by
   obtain⟨o,S,_⟩:=d;rcases aav.mp j with rfl|j
   ·exact aaA ee
   ·rw[aan.mp j];exact aaA (Heap.lt_size S)
  rw[aJ V];exact Y
 done:=by
  intro X L F M J i π s σ H E I r d G;subst L F M;obtain⟨xs,A,D⟩:=G;obtain⟨O,C,c,hz⟩:=I.list A;obtain⟨f0,f1,f2,f3,f4,f5⟩:=r l (by simp);obtain⟨⟨f,g⟩,d⟩:=d;have hl:=C.length;exact wpAny_pyNext_enum_end (I.ok.hd J) g d c.isList (by simp;lia) λh' eb=>(7,I.turned (t':=s.toks) (λb o j q=>eb b o j q) f0 f1 f3 f4 f5)
 self:=λ_ _ _ _ _ d h=>by
  obtain⟨⟨f,g⟩,_⟩:=d;exact wpAny_pyIter_enum g h
inductive Qg(K:PySem.W.Frag)(R:It->Hp->Prop)(vs:List V)(H1:Hp):Prop
 | mk (a xs:_) (_:vs=[.ref a]) (_:My K H1 a xs) (_:R (Zk K a) H1)
def Vz(K:PySem.W.Frag)(b:TA):TI:=λ a H R=>b a H (Qg K R)
theorem Bh{a:Expr}{p pos:Pos}(D:Gl X "enumerate")(B:X.mg "enumerate" = none)(E:PA X [a] t)(z:starEach [a] X.env=[(pq false (eval a X.env))]:=by rfl):
  PI X (.Tuple es n apos) (.Call (.Name "enumerate" p) [a] [] pos) (Vz X.K t):=by
 intro l s k H R I h;refine Call_ (fX I D B boot_enumerate (PyProof.Rows.callWith_type1 (Wo (E pos l s k H _ I h) λO d ⟨N,o,g,v,w⟩=>?_) z rfl));obtain⟨b,M,e,A,q⟩:=w;subst e;obtain⟨u,rfl,r⟩:=vals1 v;cases r;obtain⟨J,P,x,Q⟩:=g.list A;refine call_enumerate_list x.isList λF m j L C=>?_;refine wpAny_pyIter_enum m ?_;have G:Inv X l k o {d with heap:=F}:=g.kept (t':=d.toks) C;have y:d.heap.objs.size+1≠d.heap.objs.size:=by lia
 refine(d.heap.objs.size+1,[d.heap.objs.size+1,d.heap.objs.size],_,Zk X.K b,o,7,G,JR b _ _ y,((_,m),j),λc i=>?_,q);have f:d.heap.objs.size<=c:=by
  rcases aav.mp i with rfl|i
  ·lia
  ·rw[aan.mp i];lia
 exact g.fpOk f (g.hok.fresh f)
theorem Ds{K:PySem.W.Frag}{a:Addr}{xs:List V}{g:TG}{k:TS}{σ:St}(b:Nat->St->Hp->Prop)(v:b 0 σ H)(t:∀i σ H,i<=xs.length->b i σ H->My K H a xs)
  (r:∀i x σ H p,xs[i]?=some x->b i σ H->H p=none->g (.ref p) σ (upd H p (.tup [.int (i:Int),x])) λ d j=>k {Y with nx:=b (i+1),ct:=b (i+1),bk:=Y.nx} d j)(hd:∀σ H,b xs.length σ H->Y.nx σ H):
  ∃W:Nat->Nat->St->Hp->Prop,(∃m,W 0 m σ H) /\ ∀i m σ H,W i m σ H ->
   ((Zk K a).stop i H/\Y.nx σ H)\/((Zk K a).go i H /\ ∃N:St->Hp->Prop,(∀f H',N f H' -> ∃l,l<m/\W (i+1) l f H') /\ ∀x H',(Zk K a).Yd i H x H'->g x σ H' λ d j=>k {Y with nx:=N,ct:=N,bk:=Y.nx} d j):=by
 exists λi m σ H=>m=xs.length-i/\i<=xs.length/\b i σ H,(xs.length,by simp,af3 _,v);rintro i m σ H ⟨rfl,u,p⟩;have q:=t i σ H u p;by_cases h:i<xs.length
 ·refine .inr ((xs,xs[i],q,by simp[h]),b (i+1),λ f H' n=>(xs.length-(i+1),6,7,h,n),λx H' y=>?_);obtain⟨c,y,s,z,w,o⟩:=y;subst z w;exact r i y σ H c (o xs q) p s
 ·have e:i=xs.length:=by lia
  subst e;exact .inl ((xs,q,aae _),hd σ H p)
theorem Ow(m:X.calm=true):fZ X (.builtin "sum") (λxs H Q=>∃(p:Addr) (ns:List Int),xs=[.ref p]/\My X.K H p ‹ns›/\Q (.int ns.sum) H):=by
 intro t s o H xs v Q I r h;obtain⟨p,ns,rfl,k,q⟩:=h;obtain⟨u,rfl,g⟩:=vals1 r;cases g;obtain⟨n,i,j,w⟩:=I.list k;have b:=intsAre_of i;obtain⟨a,e⟩:=b.allInts.items;refine sum_intListG (xs:=a) (I.ok.hd m) (by rw[<-e];exact j.isList) λx d f l=>(.int ns.sum,H,I.kept (t':=d) l,(f,2),q);have c:numsOf (intItems a).toList=ns:=by rw[<-e];exact b.numsOf
 rw[nums_intItems]at c;rw[<-c,preSum_eq,aaj (by simp)]
theorem iM:fZ X (.builtin "isinstance") (λxs H Q=>∃x T t b,xs=[x,.ty T]/\tE X.K H x t/\PySem.W.kitOne X.K t (.type T)=some b/\Q (.bl b) H):=by
 intro i s g H xs j Q I r h;obtain⟨x,T,t,b,rfl,a,e,q⟩:=h;obtain⟨u,v,rfl,d,f⟩:=vals2 r;obtain rfl:v=Value.type T:=f;exact JL I d a e λc=>(.bl b,H,I.tok c,7,q)
def bh(X:Cx)(N:List Str)(a:Scope)(c:List (Str×Addr))(C:Addr)(s:Shared)(H:Hp)(b:List Addr):Cx:=
 {X with N:=N,s₀:=s,H₀:=H,env:=compEnvC a c C X.env,outer:=X.stack,ex:=b,fn:=λ_=>false,pn:=[],xe:=λ_ _=>False}
structure bR(X:Cx)(x:Str)(caps:List (Str×Nat))(scope:Scope)(cl:List (Str×Addr)):Prop where
 kind:scope.kind=.function
 ρ:∀y∈scope.names,y.2 ≠ .cell
 names:∀y∈scope.names,y.2=.local->scope.names.lookup y.1=some .local
 hx:scope.names.lookup x=some .local
 clos:closureFor scope X.env=pure cl
 cls:∀y c,cl.lookup y=some c->X.env.cells.lookup y=some c
 has:∀y,((relabel scope X.env).names.lookup y=some .cell\/(relabel scope X.env).names.lookup y=some .free) -> ∃c,cl.lookup y=some c
 nd:(x::caps.map (·.1)).Nodup
 cap:∀y j,(pq y j)∈caps->X.N[j]?=some y/\(X.env.scope.names.lookup y=some .cell\/X.env.scope.names.lookup y=some .free) /\
  ((relabel scope X.env).names.lookup y=some .cell\/(relabel scope X.env).names.lookup y=some .free)
def eV(a:List (Str×Nat))(σ:St):St:=a.map λp=>(σ[p.2]?).getD none
theorem ud(a:List (Str×Nat))(σ:St):(eV a σ).length=a.length:=by simp[eV]
theorem Inv.comp{x:Str}{h':Heap}{tk:Nat}{m:Str->Option Value}{C:Addr}(I:Inv X π σ H s)(F:bR X x r scope l)(Q:∀b∈i,gf X π H b)
  (Z:∀b∈i,b<s.heap.objs.size)(N:s.heap.objs.size<=a)(R:s.heap.objs.size<=C)(a0:a≠C)(M:∀b o,s.heap.get? b=some o->h'.get? b=some o)(hn:h'.Ns C m)(hL:h'.get? a=some {cls:=.type "list",data:=.seq #[]}):
  Inv (bh X (x::r.map (·.1)) scope l C s H i) [] (none::eV r σ) (upd H a (.lst [])) {s with heap:=h',toks:=tk}:=by
 have J:=I.hok.fresh N;have W:=I.hok.fresh R;have E:∀y c,(bh X (x::r.map (·.1)) scope l C s H i).env.cells.lookup y=some c->X.env.cells.lookup y=some c:=λy c e=>F.cls y c e;have a2:∀y c,X.env.cells.lookup y=some c->c<s.heap.objs.size:=λy c e=>by
  obtain⟨v,q⟩:=I.cell y c e;exact q.lt
 have up:∀b u,H b=some u->upd H a (.lst []) b=some u:=λb u q=>by rw[aJ (aH q J)];exact q
 have ok:(bh X (x::r.map (·.1)) scope l C s H i).Ok:=by
  refine(I.ok.mod,F.kind,I.ok.glob,I.ok.blt,R,λy z c h1 h2=>I.ok.inj y z c (E y c h1) (E z c h2),λy hy=>F.has y hy,λy c h=>absurd (show false=true from h) aaT,I.ok.hd,I.ok.frames,.inl rfl,λb B=>?_,I.bs,agx I.ok.XM I.sz,λb o e B=>?_,λb B hz=>?_,I.stack,I.stkFree)
  ·obtain⟨f0,V,U,T,S,f5⟩:=Q b B;exact(aaA (aas (Z b B) R),λy c e=>S y c (E y c e))
  ·obtain⟨f0,V,U,T,S,f5⟩:=Q b B;rcases T with z|z
   ·exact I.ok.noex b o e z
   ·exact absurd (aas (aas (Heap.lt_size e) I.ok.XM) z) (agB _)
  ·obtain⟨f0,V,U,T,S,f5⟩:=Q b B;rcases aav.mp (I.stkSub b hz)with z|z
   ·exact V z
   ·exact U z
 exists ok,7,I.bare,2,(m,hn,λg y v e1 e2 e3=>?_),λy c e=>?_,2,λy c e=>?_,λp hp=>absurd (show p∈([]:List (Addr×Obj))from hp) (by simp),2
 ·exact Un.laid M N J
 ·cases g with
  |zero=>cases e2
  |succ g=>
   have n:(r.map (·.1))[g]?=some y:=e1;have t:(eV r σ)[g]?=some (some v):=e2;rw[aak]at n;unfold eV at t;rw[aak]at t;cases G:r[g]? with
   |none=>rw[G]at n;cases n
   |some p=>
    rw[G]at n t;obtain⟨A,j⟩:=p;have ey:A=y:=aat n;subst ey;have O:(σ[j]?).getD none=some v:=aat t;have a1:σ[j]?=some (some v):=by
     cases q:σ[j]? with
     |none=>rw[q]at O;cases O
     |some w=>rw[q]at O;exact congrArg some O
    obtain⟨c1,c2,c3⟩:=F.cap A j (aaw G);obtain⟨m0,a3,hl⟩:=I.loc;obtain⟨u,f,d⟩:=hl j A v c1 a1 (by rcases c2 with z|z;exact .inr (.inl z);exact .inr (.inr z));refine(u,f,.inr (c3,2));rcases d with ⟨k,_⟩|⟨k,c,G,z⟩
    ·have L:X.env.scope.names.lookup A=some .local:=k;rcases c2 with z|z
     ·rw[z]at L;cases L
     ·rw[z]at L;cases L
    ·obtain⟨c',K⟩:=F.has A c3;have e4:=F.cls A c' K;rw[G]at e4;cases e4;obtain⟨o,P,hd⟩:=z;exact(c,K,o,M _ _ P,hd)
 ·obtain⟨v,o,P,hd⟩:=I.cell y c (E y c e);exact(v,o,M _ _ P,hd)
 ·show upd H a (.lst []) C=none;rw[aJ (agA a0)];exact W
 ·have Y:=a2 y c (E y c e);rw[aJ (aaA (aas Y N))];exact I.freeC y c (E y c e)
 ·exact I.hok.laid M N (af3 _,[],_,.nil,hL)
 ·show (none::eV r σ).length=(x::r.map (·.1)).length;simp[ud]
theorem Inv.comped{N:List Str}{C:Addr}{s':Shared}{a:St}{H':Hp}(I:Inv X π σ H s)(c:∀b∈i,gf X π H b)
  (J:Inv (bh X N scope l C s H i) [] a H' s'):Inv X π σ H' s':=by
 refine I.call' (ch:=i) (J.os.trans rfl) J.base J.hok J.bare λb d=>?_;obtain⟨k,h,j,g,f,e⟩:=c b d;exact(g,h,f,e)
def gG(J:It)(e:St)(j:TT)(k:TE)(l:Addr->Hp->Prop)(H:Hp):Prop:=
 ∀D,H D=none -> ∃W:Nat->Nat->List V->Hp->Prop,(∃m,W 0 m [] (upd H D (.lst []))) /\ ∀i m a d,W i m a d ->
  (J.stop i d/\l D d)\/(J.go i d /\ ∀v h,J.Yd i d v h->j (some v::e) h λb g=>if b=true then
   k (some v::e) g λy f=>f D=some (.lst a)/\a.length<sizeLine /\ ∃c,c<m/\W (i+1) c (a++[y]) (upd f D (.lst (a++[y])))else ∃c,c<m/\W (i+1) c a g)
def Yy(X:Cx)(a:List Expr)(b:TT):Prop:=
 ∀(π:List (Addr×Obj)) (s:Shared) (σ:St) (H:Hp) (Q:Bool->Hp->Prop),Inv X π σ H s->b σ H Q ->
  wpAny (model X.prog X.w) X.A (forIn a true λc r=>if r=true then do let d <-isTrue c X.env (eval c X.env);pure (ForInStep.yield d)else pure (ForInStep.yield r)) (TP X π σ Q) X.xe s
def Ph:TT:=λ_ H Q=>Q true H
theorem eX:Yy X [] Ph:=λ_ _ _ H _ I h=>wpAny_tests_nil (H,I,h)
theorem uM{c:Expr}(h:PT X c M):Yy X [c] M:=λ π s σ H Q I q=>wpAny_tests_one (h π s σ H Q I q)
def fJ(X:Cx)(fn:Str->Bool)(N:List Str)(a:Scope)(c:List (Str×Addr))(C:Addr)(s:Shared)(H:Hp)(b:List Addr):Cx:=
 {bh X N a c C s H b with fn:=fn}
theorem Inv.compedG{fn:Str->Bool}{N:List Str}{C:Addr}{s':Shared}{a:St}{H':Hp}(I:Inv X π σ H s)(c:∀b∈i,gf X π H b)
  (J:Inv (fJ X fn N scope l C s H i) [] a H' s'):Inv X π σ H' s':=by
 refine I.call' (ch:=i) (J.os.trans rfl) J.base J.hok J.bare λb d=>?_;obtain⟨k,h,j,g,f,e⟩:=c b d;exact(g,h,f,e)
theorem Fo{fn:Str->Bool}{x:Str}{pos:Pos}{iter:Expr}{J:It}{tn:Nat->Heap->Prop}{C:Addr}{tk:Nat}
  {RR:Value->Addr->Result->Shared->Prop}(I:Inv X π σ H s)(hc:X.calm=true)(T:Turn X.prog X.w X.K (.Name x p) J i a tn)(hf:∀b∈i,gf X π H b)(a0:∀b∈i,b<s.heap.objs.size)(Z:s.heap.objs.size<=C)(eD:f=s.heap.objs.size)(a8:∀y c,l.lookup y=some c -> ∀b∈i,c≠b)
  (hg:PG (fJ X fn (x::r.map (·.1)) scope l C s H i) (.Name x p) (eZ 0))(ht:Yy (fJ X fn (x::r.map (·.1)) scope l C s H i) es M)(he:PE (fJ X fn (x::r.map (·.1)) scope l C s H i) e ta)(rd:gG J (eV r σ) M ta q H)
  (a9:∀f C s' H' m,Inv X π σ H' s'->s'.heap.Ns C m->gf X π H' C->q f H'->RR (.ref f) C (.ok .next) s')
  (I0:Inv (fJ X fn (x::r.map (·.1)) scope l C s H i) [] (none::eV r σ) (upd H f (.lst [])) {s with heap:=base,toks:=tk})(a5:tn 0 base):
  codeAny (model X.prog X.w) X.A (.compLoop (.ListComp e [(.Name x p,iter,es,0)] scope pos) 0 (.ref a) (.ref f) (compEnvC scope l C X.env)) (RR (.ref f) C) {s with heap:=base,toks:=tk}:=by
 obtain⟨W,⟨m0,w0⟩,a1⟩:=rd f (I.hok.fresh (aiv eD.symm));refine codeAny_compLoop_tests (λn s'=>∃E O L H',Inv (fJ X fn (x::r.map (·.1)) scope l C s H i) [] (L::eV r σ) H' s'/\tn E s'.heap/\(∀b∈i,H' b=none)/\W E n O H') ?_ m0
  (0,[],3,_,I0,a5,λb F=>?_,w0)
 ·rintro n s3 ⟨E,O,L,H3,I3,Y,Yu,w3⟩;have Yz:∀{H':Hp}{pi:List (Addr×Obj)},(∀b∈i,H' b=none)->(∀j∈pi,j.1∉i) -> ∀b∈i,gf (fJ X fn (x::r.map (·.1)) scope l C s H i) pi H' b:=λ{H' pi} hn hp b F=>by
   obtain⟨f0,f1,f2,f3,f4,f5⟩:=hf b F;refine(hn b F,2,λz=>?_,.inl F,λy c g=>a8 y c g b F,λj a7 z=>?_)
   ·exact aaA (aas (a0 b F) Z)
   ·rcases aav.mp (I.stkSub b z)with B|B
    ·exact f1 B
    ·exact f2 B
   ·exact hp j (by simpa [fJ,bh]using a7) (by rw[z];exact F)
  have clear:∀{α:Type}{t:Sem α}{Q:α->Shared->Prop}{E':Value->Shared->Prop}{s:Shared},wpAny (model X.prog X.w) X.A t Q (λ_ _=>False) s->wpAny (model X.prog X.w) X.A t Q E' s:=λh=>wpAny_mono h (λ_ _ z=>z) λ_ _ z=>z.elim;rcases a1 E n O H3 w3 with ⟨a2,qf⟩|⟨go,a3⟩
  ·refine Wo (T.done (fJ X fn (x::r.map (·.1)) scope l C s H i) rfl rfl rfl hc E [] s3 _ H3 _ I3 (Yz Yu (by simp)) Y a2) λk s4 ⟨hr,I4⟩=>?_;subst hr;obtain⟨m4,ZL,_⟩:=id I4.loc;refine a9 f _ s4 H3 m4 (I.compedG hf I4) ZL ?_ qf;have gC:s.heap.objs.size<=C:=Z;exact I.fpOk gC I4.free
  ·refine clear (Wo (T.item (fJ X fn (x::r.map (·.1)) scope l C s H i) rfl rfl rfl hc E [] s3 _ H3 (λ_ _=>False) I3 (Yz Yu (by simp)) Y go) λk s4 ⟨u,hr,h4⟩=>?_);subst hr;refine clear (show wpAny (model X.prog X.w) X.A (pure () >>= λ_=>assign (.Name x p) (compEnvC scope l C X.env) u) _ _ s4 from wpAny_bind (Wo (h4:wpAny (model X.prog X.w) X.A (pure ()) _ _ s4) λ_ s5 ⟨v,H5,I5,r5,y5,Xo,Zi⟩=>?_));have Zj:=I5.pinned (Yz Zi (by simp)) (T.obj _ _ Xo);refine Wo (hg _ s5 (L::eV r σ) H5 v u (λ a4 H2=>a4=some v::eV r σ/\H2=H5) Zj r5 (show _/\_ from (7,7))) λ_ s6 ⟨b1,H6,I6,e6,e7⟩=>?_;subst e6 e7;have q6:=a3 v _ y5;have G:∀{P:Hp}{R:Shared}{L:Option V}{zs:List V}{N:Nat},Inv (fJ X fn (x::r.map (·.1)) scope l C s H i) ([]++oN i s5.heap) (L::eV r σ) P R->N<n->W (E+1) N zs P ->
     ∃m,m<n /\ ∃E O L H',Inv (fJ X fn (x::r.map (·.1)) scope l C s H i) [] (L::eV r σ) H' R/\tn E R.heap/\(∀b∈i,H' b=none)/\W E m O H':=λ{P R L zs N} S U w7=>by
    refine(N,U,E+1,zs,L,P,S.ξ,T.keep _ _ _ Xo λb F o g=>(S.pin (pq b o) (aau _ (aau _ (eE F g)))).1,λb F=>?_,w7);obtain⟨o,g,d⟩:=T.obj _ _ Xo b F;exact(S.pin (pq b o) (aau _ (aau _ (eE F g)))).2.1
   refine clear (Wo (ht _ s6 _ H6 _ I6 q6) λok R ⟨P,S,q7⟩=>?_);cases ok with
   |false=>
    obtain⟨N,U,w7⟩:=(show ∃N,N<n/\W (E+1) N O P from q7);exact G S U w7
   |true=>
    refine clear (Wo (he _ R _ P _ S q7) λxv s8 ⟨y,H8,I8,r8,b0,a6,N,U,w8⟩=>?_);refine clear (Wo (bZ _ s8 _ H8 (.ref f) [y] (.ref f) [xv] (λ_ H9=>H9=upd H8 f (.lst (O++[y]))) I8 rfl (.cons r8 .nil) (f,O,y,7,7,b0,a6,7)) λ_ s9 ⟨_,H9,I9,_,e9⟩=>?_);subst e9;exact G I9 U w8
 ·rw[aJ (by rw[eD];exact aaA (a0 b F))];exact(hf b F).1
theorem yW{x:Str}{pos:Pos}{iter:Expr}{J:It}{G:Nat->Heap->Prop}
  {RR:Value->Addr->Result->Shared->Prop}{E:Value->Shared->Prop}(I:Inv X π σ H s)(hc:X.calm=true)(k:bR X x r scope l)(T:Turn X.prog X.w X.K (.Name x p) J i a G)(st:G 0 s.heap)(N:∀b∈i,gf X π H b)
  (ht:∀C L S Q,Yy (bh X (x::r.map (·.1)) scope l C L S Q) es M)(he:∀C L S Q,PE (bh X (x::r.map (·.1)) scope l C L S Q) e ta)(rd:gG J (eV r σ) M ta q H)
  (U:∀D C s' H' m,Inv X π σ H' s'->s'.heap.Ns C m->gf X π H' C->q D H'->RR (.ref D) C (.ok .next) s'):
  wpAny (model X.prog X.w) X.A (newList []) (λB s3=>wpAny (model X.prog X.w) X.A (newFunctionEnv scope X.env.globals l [] X.env.qual none .none (some X.env)) (λj Z=>
   codeAny (model X.prog X.w) X.A (.compStart (.ListComp e [(.Name x p,iter,es,0)] scope pos) 0 (.ref a) B {j with scope:=relabel scope X.env}) (RR B j.locals) Z) E s3) E s:=by
 have z:∀b∈i,b<s.heap.objs.size:=λb O=>by
  obtain⟨o,d,_⟩:=T.obj _ _ st b O;exact Heap.lt_size d
 refine wpAny_newObj_type (wpAny_newFunctionEnv k.ρ (by intro y hy;simp at hy) (λP n f=>?_) k.kind);dsimp only at n f ⊢;obtain⟨D,t⟩:∃D:Nat,D=s.heap.objs.size:=(_,7)
 obtain⟨R,F⟩:∃g,g=s.heap.push {cls:=.type "list",dict:=none,data:=.seq ([]:List Value).toArray}:=(_,7)
 rw[<-F]at n f ⊢;rw[<-t];have Y:R.objs.size=D+1:=by rw[F,Heap.size_push,t]
 have v:s.heap.objs.size<=R.objs.size:=by rw[Y,t];exact ahE _
 have V:D≠R.objs.size:=by rw[Y];exact aaA (ahb _)
 have W:∀b o,s.heap.get? b=some o->P.get? b=some o:=λb o d=>by
  refine f.extBut b o (aaA (aas (Heap.lt_size d) v)) (Heap.get?_push_of_some _ ?_);rw[F];exact Heap.get?_push_of_some _ d
 have hL:P.get? D=some {cls:=.type "list",data:=.seq #[]}:=by
  refine f.extBut D _ ⋯ (Heap.get?_push_of_some _ ?_);rw[F,t];exact Heap.get?_push_size _ rfl
 have u:G 0 P:=T.keep _ _ _ st λb _ o d=>W b o d;have h:=Fo (fn:=λ_=>false) (pos:=pos) (iter:=iter) (RR:=RR) I hc T N z v t (λy c d b O=>(N b O).2.2.2.2.1 y c (k.cls y c d)) (j9 (i:=0) k.nd rfl (ag3 (lookup_relabel_local k.hx)) (ah1 (lookup_relabel_local k.hx))) (ht _ _ _ _) (he _ _ _ _) rd U (I.comp (tk:=s.toks+([]:List (Str×Value)).length) k N z ⋯ ⋯ V W n hL) u;exact codeAny_compStart_list h (T.self _ 0 _ _ _ u h)
def Oa(a:List (Str×Nat))(b:TT)(c:TE)(σ:St)(Q:VK):It->Hp->Prop:=λJ d=>gG J (eV a σ) b c (λD e=>Q (.ref D) e) d
def NQ(b:TI)(a:List (Str×Nat))(c:TT)(d:TE):TE:=λ σ H Q=>b σ H (Oa a c d σ Q)
theorem kJ{x:Str}{pos:Pos}{iter:Expr}{u:TI}(K:X.calm=true)(g:bR X x r scope l)(F:PI X (.Name x p) iter u)
  (ht:∀C f j i,Yy (bh X (x::r.map (·.1)) scope l C f j i) es M)(G:∀C f j i,PE (bh X (x::r.map (·.1)) scope l C f j i) e ta)(B:∀x,foldedSetIterable iter X.env x=pure x:=by intro _;rfl):
  PE X (.ListComp e [(.Name x p,iter,es,0)] scope pos) (NQ u r M ta):=by
 intro π s σ H Q I h;rw[eval_ListComp];refine wpAny_comprehension_free (use:=none) rfl B g.clos g.kind g.names (Wo (F π s σ H _ I h) λv f O=>Wo O λV Y N=>?_);obtain⟨Z,fp,W,J,H2,a,R,T,k,P,z⟩:=N;subst a;refine yW (RR:=λt C=>compPost (model X.prog X.w) X.A X.xe none (EP X π σ Q) t C) R K g T k P ht G z ?_;intro D C y U m S E c q;exact(m,E,λn d=>(.ref D,U,S.turned (h':=n) (t':=y.toks) (λb o L a=>d.extBut b o L a) c.1 c.2.1 c.2.2.2.1 c.2.2.2.2.1 c.2.2.2.2.2,7,q))
theorem kE{i:Nat}{y x:Str}{pos d:Pos}{iter:Expr}{R:TI}(hN:X.N.Nodup)(K:X.N[i]?=some y)(S:X.env.scope.names.lookup y=some .local)(hc:X.calm=true)
  (t:bR X x r scope l)(hi:PI X (.Name x p) iter R)
  (ht:∀C n B u,Yy (bh X (x::r.map (·.1)) scope l C n B u) es M)(he:∀C n B u,PE (bh X (x::r.map (·.1)) scope l C n B u) e ta)
  (G:swapsWith (.ListComp e [(.Name x p,iter,es,0)] scope pos) (some (.Name y apos)) d.line X.env=pure true:=by rfl)(Y:∀x,foldedSetIterable iter X.env x=pure x:=by intro _;rfl):
  PS X (.Assign [.Name y apos] (.ListComp e [(.Name x p,iter,es,0)] scope pos) d) (CK (NQ R r M ta) (eZ i)):=by
 intro π s σ H U I h;rw[exec_Assign_Name_used _ _ _ _ G];refine wpAny_bind (wpAny_standAt (wpAny_bind ?_));show wpAny _ X.A (do let _ <-comprehension (.ListComp e [(.Name x p,iter,es,0)] scope pos) scope X.env _ (newList []) false (eval iter X.env) (some (assign (.Name y apos) X.env))) _ _ s;refine wpAny_bind (wpAny_mono (wpAny_comprehension_free (use:=some (assign (.Name y apos) X.env)) (Q:=λ_ g=>SP X π U .next g) rfl Y t.clos t.kind t.names
  (Wo (hi π s σ H _ I h) λv n h1=>Wo h1 λa0 s2 h2=>?_)) (λ_ g Z=>wpAny_pure (wpAny_pure Z)) λ_ _ c=>c)
 obtain⟨it,fp,tn,J,H2,c,I2,T,E,f2,W⟩:=h2;subst c;refine yW (RR:=λO C=>compPost (model X.prog X.w) X.A X.xe (some (assign (.Name y apos) X.env)) (λ_ g=>SP X π U .next g) O C) I2 hc t T E f2 ht he W ?_;intro D C g H' m I' hn f q;show wpAny _ X.A (assign (.Name y apos) X.env (.ref D)) _ _ _;refine wpAny_assign_Name (oh (v:=.ref D) I' hN K (.inl S) rfl (λF P ch=>(m,2,λL k=>?_)) (.inr S))
 ·obtain⟨a,V,j⟩:=ch;refine hn.sameBut V λz=>?_;rcases j with j|j
  ·exact f.2.1 (z.trans j)
  ·exact f.2.2.2.2.1 _ a j z.symm
 ·exact(_,H',P.turned (h':=L) (t':=F.toks) (λb o hb c=>k.extBut b o hb c) f.1 f.2.1 f.2.2.2.1 f.2.2.2.2.1 f.2.2.2.2.2,q)
theorem j5{env:Env}{y:Str}{k:NameKind}(h:(relabel scope env).names.lookup y=some k):∃k0,(pq y k0)∈scope.names/\(k=k0\/(k0=.free/\k=.cell)):=by
 have h:=PySem.mem_of_lookup h;obtain⟨⟨n,k0⟩,b,e⟩:=afs.mp (show (pq y k)∈scope.names.map _ from h);by_cases c:(k0==NameKind.free&&env.scope.kind == .function&&env.kindOf n==some .cell)=true
 ·have a:(pq n NameKind.cell)=(pq y k):=by rw[<-e];exact(if_pos c).symm
  have d:k0=.free:=by
   simp only[ahV]at c;exact eq_of_beq c.1.1
  cases a;exact(_,b,.inr (d,7))
 ·have a:(pq n k0)=(pq y k):=by rw[<-e];exact(if_neg c).symm
  cases a;exact(_,b,.inl rfl)
theorem bR.zero(a:∀y∈scope.names,y.2 ≠ .free:=by decide)(i:∀y∈scope.names,y.2 ≠ .cell:=by decide)(d:scope.kind=.function:=by rfl)(b:∀y∈scope.names,y.2=.local->scope.names.lookup y.1=some .local:=by decide)
  (k:scope.names.lookup x=some .local:=by rfl):bR X x [] scope []:=by
 refine(d,i,b,k,closureFor_none a,λy c e=>(by cases e),λy f=>?_,by simp,λy j h=>nomatch h);rcases f with f|f
 all_goals
  obtain⟨l,g,e⟩:=j5 f;rcases e with e|⟨e,_⟩
  ·subst e
   first|exact absurd rfl (i _ g) | exact absurd rfl (a _ g)
  ·subst e;exact absurd rfl (a _ g)
theorem bR.one{y:Str}{j:Nat}{c:Addr}(t:X.N[j]?=some y)(s:X.env.scope.names.lookup y=some .cell\/X.env.scope.names.lookup y=some .free)(u:X.env.cells.lookup y=some c)(k:closureFor scope X.env=pure [(pq y c)])
  (r:(relabel scope X.env).names.lookup y=some .cell\/(relabel scope X.env).names.lookup y=some .free)
  (a:∀z∈scope.names,z.2=.free->z.1=y:=by decide)(o:∀y∈scope.names,y.2 ≠ .cell:=by decide)(g:scope.kind=.function:=by rfl)(b:∀y∈scope.names,y.2=.local->scope.names.lookup y.1=some .local:=by decide)
  (q:scope.names.lookup x=some .local:=by rfl)(p:[x,y].Nodup:=by decide):bR X x [(pq y j)] scope [(pq y c)]:=by
 have f:([(pq y c)]:List (Str×Addr)).lookup y=some c:=by simp
 refine(g,o,b,q,k,λz d e=>?_,λz l=>?_,p,λz i h=>?_)
 ·have:=PySem.mem_of_lookup e;cases aan.mp this;exact u
 ·have n:z=y:=by
   rcases l with l|l
   all_goals
    obtain⟨v,m,e⟩:=j5 l;rcases e with e|⟨e,_⟩
    ·subst e
     first|exact absurd rfl (o _ m) | exact a _ m rfl
    ·subst e;exact a _ m rfl
  subst n;exact(c,f)
 ·cases aan.mp h;exact(t,s,r)
section
variable{w:World}{R:Result->Shared->Prop}{I:Addr}{fp wr:List Addr}{P:Nat->Value->Prop}{St:Nat->Heap->Prop}{kw:List (Str×Value)}
theorem J2(W:Walks prog w A.in1 I fp wr n P St)(h:Nat->Nat->Bool)(H:CmpOf prog w A.in1 .Lt P h)(r:S∉fp):
  ∀(k j:Nat) (s:Shared) (x:Value) (c:Nat),j+1+k=n->St (j+1) s.heap->P (argBest h j) x->s.heap.get? S=some {cls:=.type "list",data:=.seq #[x,x] c} ->
   (∀v g t,P (argBest h (n-1)) v->(∀b o,b∉wr->b≠S->s.heap.get? b=some o->g.get? b=some o)->R (.ok (.ret v)) {s with heap:=g,toks:=t}) ->
   codeAny (model prog w) A (.builtin "min.loop" ([.ref I,.none,.ref S],kw)) R s:=by
 have p:S∉wr:=λz=>r (W.sub _ z)
 have J:(toString "min" ++ toString ".loop" : String) = "min.loop":=by decide
 intro k
 induction k with
 |zero=>
  intro j s x c M C u l d;have L:j+1=n:=M;refine codeAny_builtin PySem.F.entry_min_loop ?_;rw[Around.under_plainId PySem.F.plain_min_loop _];show wpAny _ A.in1 (seqItems? (.ref S) >>= _) _ _ s;refine wpAny_bind (wpAny_seqItems l rfl ?_);show wpAny _ A.in1 (tryCatch (pyNext (.ref I)) _ >>= _) _ _ s;refine wpAny_bind (wpAny_tryCatch (W.done s _ _ (L ▸ C) λg t f=>?_));have a:=f S _ p l;show wpAny _ A.in1 (updateSeq S (λ_=>#[]) >>= _) _ _ _;refine wpAny_bind (wpAny_updateSeq a rfl (wpAny_bind (wpAny_letGo (wpAny_pure ?_))));exact d x _ t (by rw[<-L];exact u) λb o e i q=>(Heap.get?_update_other _ _ (agA i)).trans (f b o e q)
 |succ k K=>
  intro j s x c M C u l d;have O:j+1<n:=by lia
  refine codeAny_builtin PySem.F.entry_min_loop ?_;rw[Around.under_plainId PySem.F.plain_min_loop _];show wpAny _ A.in1 (seqItems? (.ref S) >>= _) _ _ s;refine wpAny_bind (wpAny_seqItems l rfl ?_);show wpAny _ A.in1 (tryCatch (pyNext (.ref I)) _ >>= _) _ _ s;refine wpAny_bind (wpAny_tryCatch (W.item (j+1) s _ _ O C λv g t pv m f=>?_));have a:=f S _ p l;show wpAny _ A.in1 (tryCatch (holding [v,v] (richCompare .Lt v x >>= _)) _ >>= _) _ _ _;refine wpAny_bind (wpAny_tryCatch (wpAny_holding (wpAny_bind (H (j+1) (argBest h j) v x _ _ _ pv u ?_))));refine wpAny_bind (wpAny_holding (wpAny_truthy_bool (wpAny_bind (wpAny_letGo (wpAny_pure ?_)))));cases N:h (j+1) (argBest h j)with
  |true=>
   simp only[if_true];refine wpAny_bind (wpAny_updateSeq a rfl (wpAny_bind (wpAny_letGo ?_)));rw[J];refine wpAny_pure (plainId_quiet PySem.F.plain_min_loop _,K (j+1) _ v _ ⋯ (W.frame _ _ _ m λb Q o q=>?_) (by simp only[argBest,N,if_true];exact pv) (Heap.get?_update_self _ a rfl) λy G B D E=>?_)
   ·exact(Heap.get?_update_other _ _ (λz:S=b=>r (by rw[z];exact Q))).trans q
   ·exact d y G B D λb o e i q=>E b o e i ((Heap.get?_update_other _ _ (agA i)).trans (f b o e q))
  |false=>
   simp only[agP,if_false];refine wpAny_bind (wpAny_letGo ?_);rw[J];refine wpAny_pure (plainId_quiet PySem.F.plain_min_loop _,K (j+1) _ x c ⋯ m (by simp only[argBest,N,agP,if_false];exact u) a λy G B D E=>?_);exact d y G B D λb o e i q=>E b o e i (f b o e q)
theorem GR(W:Walks prog w A.in1 I fp wr n P St)(e:Nat->Nat->Bool)(j:CmpOf prog w A.in1 .Lt P e)(a:S∉fp)(C:0<n){s:Shared}{c:Nat}(st:St 0 s.heap)
  (l:s.heap.get? S=some {cls:=.type "list",data:=.seq #[] c})
  (i:∀v g t,P (argBest e (n-1)) v->(∀b o,b∉wr->b≠S->s.heap.get? b=some o->g.get? b=some o)->R (.ok (.ret v)) {s with heap:=g,toks:=t}):
  codeAny (model prog w) A (.builtin "min.loop" ([.ref I,.none,.ref S],kw)) R s:=by
 have h:S∉wr:=λz=>a (W.sub _ z)
 have x:(toString "min" ++ toString ".loop" : String) = "min.loop":=by decide
 refine codeAny_builtin PySem.F.entry_min_loop ?_;rw[Around.under_plainId PySem.F.plain_min_loop _];show wpAny _ A.in1 (seqItems? (.ref S) >>= _) _ _ s;refine wpAny_bind (wpAny_seqItems l rfl ?_);show wpAny _ A.in1 (tryCatch (pyNext (.ref I)) _ >>= _) _ _ s;refine wpAny_bind (wpAny_tryCatch (W.item 0 s _ _ C st λv g t pv f k=>?_));have d:=k S _ h l;show wpAny _ A.in1 (updateSeq S (λ_=>#[v,v]) >>= _) _ _ _;refine wpAny_bind (wpAny_updateSeq d rfl ?_);rw[x];refine wpAny_pure (plainId_quiet PySem.F.plain_min_loop _,J2 W e j a (n-1) 0 _ v _ ⋯ (W.frame _ _ _ f λb E o q=>?_) pv (Heap.get?_update_self _ d rfl) λy D r u B=>?_)
 ·exact(Heap.get?_update_other _ _ (λz:S=b=>a (by rw[z];exact E))).trans q
 ·exact i y D r u λb o p m q=>B b o p m ((Heap.get?_update_other _ _ (agA m)).trans (k b o p q))
end
theorem JH(a v:Value):argsOk "min" ⟨[a],[(pq (Str.ofString "default") v)]⟩:=by unfold argsOk;kernel_rfl
section
variable{w:World}{l:Addr}{zs:Array (Int×Tok)}
theorem rA{Q:Value->Shared->Prop}(u:A.handled=none)(p:s.heap.IsList l (intItems zs))(a:0<zs.size)
  (h:∀v g t,(intItems zs)[argBest (λi j=>decide (numAt zs i<numAt zs j)) (zs.size-1)]?=some v->(∀b o,s.heap.get? b=some o->g.get? b=some o)->Q v {s with heap:=g,toks:=t}):
  wpAny (model prog w) A (call (.builtin "min") [.ref l] [(pq (Str.ofString "default") cd)]) Q E s:=by
 have r:(toString "min" ++ toString ".loop" : String) = "min.loop":=by decide
 refine PyProof.Rows.kmk_tree PySem.F.kind_min PySem.F.plain_min PySem.F.entry_min (JH _ _) ?_
 refine wpAny_bind (wpAny_of_eq (show Builtin.Builtins.bindParams "min" ["key","default"] 0 ⟨[],[(pq (Str.ofString "default") cd)]⟩=pure [none,some cd]from rfl) ?_)
 refine wpAny_bind (wpAny_pure (wpAny_bind (iter_intList p λy e x f c=>?_)));subst e;refine wpAny_bind (wpAny_newObj_type ?_);rw[r];have m:(intItems zs).size=zs.size:=by simp[intItems]
 refine wpAny_pure (plainId_quiet PySem.F.plain_min_loop _,GR (Walks.list (A:=A.in1) u _ l c (intItems zs)) _ (CmpOf.ints_lt (numAt zs) (λ_ _=>intItems_at)) (λz=>agB _ (f _ z)) (by rw[m];exact a)
  ((_,Heap.get?_push_of_some _ (Heap.get?_push_size _ rfl),7,7),(p.push _).push _) (Heap.get?_push_size _ rfl) λv g t n k=>?_)
 refine h v g t (by rw[m]at n;exact n) λb o q=>k b o ?_ ?_ (Heap.get?_push_of_some _ (Heap.get?_push_of_some _ q))
 ·exact λz=>absurd (Heap.lt_size q) (by rw[aan.mp z];exact agB _)
 ·refine aaA (aas (Heap.lt_size q) ?_);rw[Heap.size_push];exact ahE _
end
def Ng(M:Int)(ns:List Int):Prop:=M∈ns /\ ∀a∈ns,M<=a
theorem MN{ns:List Int}{c:List Value}{zs:Array (Int×Tok)}(l:IntsAre c ns)(e:c.toArray=intItems zs)(f:0<ns.length):0<zs.size/\Ng (numAt zs (argBest (λi j=>decide (numAt zs i<numAt zs j)) (zs.size-1))) ns:=by
 have b:ns=zs.toList.map (·.1):=by rw[<-l.numsOf,<-nums_intItems,<-e]
 have d:0<zs.size:=by
  have h:=f;rw[b,aaa,aaf]at h;exact h
 obtain⟨n,m⟩:=argBest_lt (numAt zs) (zs.size-1);refine(d,2,λa g=>?_)
 ·rw[b,numAt_eq];exact getD_mem (by rw[aaa,aaf];lia)
 ·rw[b]at g;obtain⟨j,k,rfl⟩:=mem_getD g;rw[aaa,aaf]at k;rw[<-numAt_eq];exact m j ⋯
inductive Q6(K:PySem.W.Frag)(Q:VK)(vs:List V)(_:V)(H2:Hp):Prop
 | mk (p:Addr) (ns:List Int) (_:vs=[.ref p]) (_:My K H2 p !!ns) (_:0<ns.length) (_:∀M,Ng M ns->Q (.int M) H2)
def Mz(K:PySem.W.Frag)(b:TE)(σ:St)(Q:VK):List V->Hp->Prop:=λa c=>b σ c (Q6 K Q a)
def Vf(K:PySem.W.Frag)(c:TA)(b:TE):TE:=λ a H Q=>c a H (Mz K b a Q)
theorem Q8{a :Expr}{p pos :Pos}(T:X.calm=true)(R:Gl X "min")(P:X.mg "min" = none)(U:PA X [a] t)(hd:PE X e ta)
  (j:bootBuiltins "min" = some (.builtin "min"))
  (S:backTo pos (starEach [a] X.env)=(pq false (eval a X.env))::backTo pos (starEach [] X.env):=by rfl)(m:(backTo pos (starEach [a] X.env)).any (·.1)=false:=by rfl)
  (w:(backToKw pos (keywordEach [(some (Str.ofString "default"),e,apos)] X.env)).filterMap (·.1)=[Str.ofString "default"]:=by rfl)
  (i:(backToKw pos (keywordEach [(some (Str.ofString "default"),e,apos)] X.env)).all (·.1.isSome)=true:=by rfl)
  (r:(backToKw pos (keywordEach [(some (Str.ofString "default"),e,apos)] X.env)).any (·.1.isNone)=false:=by rfl):
  PE X (.Call (.Name "min" p) [a] [(some (Str.ofString "default"),e,apos)] pos) (Vf X.K t ta):=by
 intro z s y H Q I h;refine wpAny_Call_Name_kw (fX I R P j ?_);refine PyProof.Rows.callWith_kw (Wo (U pos z s y H _ I h) λus A ⟨vs,Y,V,F,M⟩=>?_) S m i r;show wpAny _ _ (evalAll ((do let v <-eval e X.env;standAt pos;pure v)::[])) _ _ A;refine wpAny_evalAll_cons (wpAny_bind (Wo (hd z A y Y _ V M) λdv s2 ⟨x,W,C,_,L⟩=>wpAny_bind (wpAny_standAt (wpAny_pure (wpAny_evalAll_nil ?_)))));obtain⟨b,ns,rfl,O,n,q⟩:=L;obtain⟨u,rfl,E⟩:=vals1 F;cases E;rw[w];obtain⟨Z,G,N,hz⟩:=C.list O;have B:=intsAre_of G;obtain⟨J,f⟩:=B.allInts.items;obtain⟨l,o⟩:=MN B f n;refine rA (zs:=J) (I.ok.hd T) (by rw[<-f];exact N.isList) l λv g c j k=>?_;obtain⟨D,rfl⟩:=intItems_at j;exact(.int _,W,C.kept (t':=c) k,(D,7),q _ o)
def Zm(lo st:Int)(n:Nat):It:=(λi _=>i<n,λi H x a=>a=H/\x=.int (lo+i*st),λi _=>n<=i)
theorem qX{w:World}{K:PySem.W.Frag}(c:Addr)(lo st:Int)(n:Nat):Turn prog w K e (Zm lo st n) [c] c (λi h=>IsRangeIter h c (lo+(i:Nat)*st) ((n:Int)-(i:Nat)) st) where
 mem:=by simp
 obj:=λi h q b d=>by
  have a:b=c:=by simpa using d
  subst a;exact(_,q,λv z=>by
   have J:Data.fields _=Data.cell v:=z;cases J)
 keep:=λi h g q k=>k c (by simp) _ q
 item:=by
  intro X p j r m i D s C H E I f q l;subst p j r;obtain⟨B,A,N,y,x,u⟩:=f c (by simp);have W:=Walks.range (prog:=X.prog) (w:=X.w) (I.ok.hd m) c lo st n;refine W.item i s _ _ l q λv g F M G L=>?_;obtain⟨t,rfl⟩:=M;have Q:Inv X D C H {s with heap:=g,toks:=F}:=I.turned (λb o d a=>L b o (by simpa using d) a) B A y x u
  exact(9,uR (s:={s with heap:=g,toks:=F}) (n := "range_iterator") G rfl rfl ∅ (.int (lo+i*st),H,Q,(t,7),(7,7),G,λb d=>(f b d).1))
 done:=by
  intro X p j r m i D s C H E I f q l;subst p j r;obtain⟨B,A,N,y,x,u⟩:=f c (by simp);exact wpAny_pyNext_range_end (I.ok.hd m) q (by have:n<=i:=l;lia) λg O=>(7,I.turned (t':=s.toks) (λb o d a=>O b o d a) B A y x u)
 self:=λ_ _ _ _ _ q h=>wpAny_pyIter_rangeiter q h
inductive RB(R:It->Hp->Prop)(vs:List V)(H1:Hp):Prop
 | mk (b:Nat) (_:vs=[.int 0,.int (b:Int),.int 32]) (_:b<536870912) (_:R (Zm 0 32 ((b+31) / 32)) H1)
def VF(b:TA):TI:=λ a H R=>b a H (RB R)
theorem Ih(b:Nat):Builtin.Range.rangeSize 0 b 32=(((b+31) / 32:Nat):Int):=by
 unfold Builtin.Range.rangeSize;rw[if_pos ∅];split<;>lia
theorem iR{p q:Bool}(b:p=true)(a:q=true):(p&&q)=true:=by rw[b,a];rfl
theorem Nk{b:Nat}(h:b<536870912):Builtin.Range.small 0 b 32=true:=by
 unfold Builtin.Range.small Builtin.Range.rangeFitsLong;rw[Ih];generalize a:(((b+31) / 32:Nat):Int)=n;have c:n<=16777216:=by lia
 have d:0<=n:=by lia
 have e:(2:Int)^63=9223372036854775808:=by decide
 rw[e,if_pos ∅];refine iR (iR (iR (iR ∅ (iR (decide_eq_true ?_) (decide_eq_true ?_))) ∅) (iR (decide_eq_true ?_) (decide_eq_true ?_))) ?_
 ·lia
 ·lia
 ·lia
 ·lia
 ·rw[aiK];exact .inr (iR (decide_eq_true ⋯) (decide_eq_true ⋯))
theorem JB{a b c:Expr}{p pos:Pos}(D:Gl X "range")(C:X.mg "range" = none)(F:PA X [a,b,c] t)(B:starEach [a,b,c] X.env=[(pq false (eval a X.env)),(pq false (eval b X.env)),(pq false (eval c X.env))]:=by rfl)
  (j:starEach [b,c] X.env=[(pq false (eval b X.env)),(pq false (eval c X.env))]:=by rfl):PI X tg (.Call (.Name "range" p) [a,b,c] [] pos) (VF t):=by
 intro u s n H R I h;refine Call_ (fX I D C boot_range (PyProof.Rows.callWith_type1 (Wo (F pos u s n H _ I h) λM g ⟨L,v,K,w,z⟩=>?_) (by rw[B,j]) (by rw[j];rfl)));obtain⟨y,e,A,q⟩:=z;subst e;cases w with
 |cons r i=>
  cases i with
  |cons x i=>
   cases i with
   |cons m i=>
    cases i;obtain⟨d,rfl⟩:=r;obtain⟨k,rfl⟩:=x;obtain⟨f,rfl⟩:=m;refine call_range_3 ∅ ?_ (.inl (PyProof.noPylong_small ⋯));refine wpAny_pyIter_range (IsRange.new ..) (Nk A) ?_
    have l:Inv X u n v {g with heap:=g.heap.push {cls:=.type "range",data:=.fields #[.int 0 d,.int y k,.int 32 f]},toks:=g.toks}:=K.kept λb o e=>Heap.get?_push_of_some _ e
    refine((g.heap.push {cls:=.type "range",data:=.fields #[.int 0 d,.int y k,.int 32 f]}).objs.size,[(g.heap.push {cls:=.type "range",data:=.fields #[.int 0 d,.int y k,.int 32 f]}).objs.size],1,v,7,
     l.kept (t':=g.toks) λb o e=>Heap.get?_push_of_some _ e,qX _ 0 32 ((y+31) / 32),2,λb E=>?_,q)
    ·have J:(0:Int)+((0:Nat):Int)*32=0:=by decide
     have G:(((y+31) / 32:Nat):Int)-((0:Nat):Int)=Builtin.Range.rangeSize 0 y 32:=by rw[Ih];simp
     show IsRangeIter _ _ ((0:Int)+((0:Nat):Int)*32) ((((y+31) / 32:Nat):Int)-((0:Nat):Int)) 32;rw[J,G];exact Heap.get?_push_size _ rfl
    ·have e:b=(g.heap.push {cls:=.type "range",data:=.fields #[.int 0 d,.int y k,.int 32 f]}).objs.size:=by simpa using E
     subst e;exact l.fpOk (aae _) (l.hok.fresh (aae _))
theorem Ea{lo st:Int}{n:Nat}{g:TG}{h:TS}{σ:St}(a:Nat->St->Hp->Prop)(o:a 0 σ H)
  (l:∀(i:Nat) σ H,i<n->a i σ H->g (.int (lo+i*st)) σ H λ b f=>h {Y with nx:=a (i+1),ct:=a (i+1),bk:=Y.nx} b f)(hd:∀σ H,a n σ H->Y.nx σ H):
  ∃W:Nat->Nat->St->Hp->Prop,(∃m,W 0 m σ H) /\ ∀i m σ H,W i m σ H ->
   ((Zm lo st n).stop i H/\Y.nx σ H)\/((Zm lo st n).go i H /\ ∃N:St->Hp->Prop,(∀c H',N c H' -> ∃j,j<m/\W (i+1) j c H') /\ ∀x H',(Zm lo st n).Yd i H x H'->g x σ H' λ b f=>h {Y with nx:=N,ct:=N,bk:=Y.nx} b f):=by
 exists λi m σ H=>m=n-i/\i<=n/\a i σ H,(n,by simp,af3 _,o);rintro i m σ H ⟨rfl,q,p⟩;by_cases d:i<n
 ·refine .inr (d,a (i+1),λ c H' k=>(n-(i+1),6,7,d,k),λx H' y=>?_);obtain⟨rfl,rfl⟩:=y;exact l i σ _ d p
 ·have e:i=n:=by lia
  subst e;exact .inl (aae _,hd σ H p)
def ZM(K:PySem.W.Frag)(a:Addr)(xs:List V):It:=
 (λi H=>My K H a xs/\i<xs.length,λi H x b=>b=H/\xs[xs.length-1-i]?=some x,λi _=>xs.length<=i)
theorem Pq{w:World}{K:PySem.W.Frag}(a j:Addr)(xs:List V):Turn prog w K e (ZM K a xs) [j] j (λi h=>i<=xs.length/\h.IsRevIter j a ((xs.length:Int)-1-(i:Nat))) where
 mem:=by simp
 obj:=λi h g b l=>by
  have f:b=j:=by simpa using l
  subst f;obtain⟨_,o,f,c,d⟩:=g;exact(o,f,λv z=>by rw[d]at z;cases z)
 keep:=λi h q g k=>(g.1,g.2.at λo f=>k j (by simp) o f)
 item:=by
  intro X y r A O i M s L H E I n g t;subst y r A;obtain⟨U,hi⟩:=t;obtain⟨a0,R,p,hz⟩:=I.list U;obtain⟨x,N⟩:∃x,xs[xs.length-1-i]?=some x:=(_,aab ⋯);obtain⟨u,T,S⟩:=R.get N;obtain⟨G,F,Y,D,C,B⟩:=n j (by simp);obtain⟨J,g⟩:=g;have f:(xs.length:Int)-1-(i:Nat)=((xs.length-1-i:Nat):Int):=by lia
  rw[f]at g;refine wpAny_pyNext_rev_item g p.isList (x:=u) (by simpa using T) λq m Q=>?_;have I1:Inv X M L H {s with heap:=q}:=I.turned (t':=s.toks) (λb o l f=>(Q.2 b l).trans f) G F D C B;have e2:((xs.length-1-i:Nat):Int)-1=(xs.length:Int)-1-((i+1:Nat):Int):=by lia
  rw[e2]at m;obtain⟨o,f,c,d⟩:=id m;exact(u,7,uR (s:={s with heap:=q}) f c d ∅ (x,H,I1,S,(7,N),(6,m),λb l=>(n b l).1))
 done:=by
  intro X y r A O i M s L H E I n g t;subst y r A;obtain⟨G,F,Y,D,C,B⟩:=n j (by simp);obtain⟨J,g⟩:=g;have f:(xs.length:Int)-1-(i:Nat) = -1:=by have:xs.length<=i:=t;lia
  rw[f]at g;exact wpAny_pyNext_rev_end (I.ok.hd O) g λq Z=>(7,I.turned (t':=s.toks) (λb o l f=>Z b o l f) G F D C B)
 self:=λ_ _ _ _ _ g h=>wpAny_pyIter_revIter g.2 h
inductive S6(K:PySem.W.Frag)(R:It->Hp->Prop)(vs:List V)(H1:Hp):Prop
 | mk (a xs:_) (_:vs=[.ref a]) (_:My K H1 a xs) (_:R (ZM K a xs) H1)
def Wa(K:PySem.W.Frag)(b:TA):TI:=λ a H R=>b a H (S6 K R)
theorem Nb{a:Expr}{p pos:Pos}(C:Gl X "reversed")(B:X.mg "reversed" = none)(E:PA X [a] t)(y:bootBuiltins "reversed" = some (.type "reversed"))(z:starEach [a] X.env=[(pq false (eval a X.env))]:=by rfl):
  PI X tg (.Call (.Name "reversed" p) [a] [] pos) (Wa X.K t):=by
 intro k s j H R I h;refine Call_ (fX I C B y (PyProof.Rows.callWith_type1 (Wo (E pos k s j H _ I h) λJ d ⟨G,m,i,v,w⟩=>?_) z rfl));obtain⟨b,g,e,A,q⟩:=w;subst e;obtain⟨u,rfl,n⟩:=vals1 v;cases n;obtain⟨f,r,x,L⟩:=i.list A;refine call_reversed_list x.isList ?_;have M:=r.length;have l:({d with heap:=d.heap.push (revObj b ((f.toArray.size:Int)-1))}:Shared).heap.IsRevIter d.heap.objs.size b ((g.length:Int)-1-((0:Nat):Int)):=by
  exists _,Heap.get?_push_size _ rfl,7;show Data.fields #[.ref b,rawInt ((f.toArray.size:Int)-1)]=_;have e:(f.toArray.size:Int)-1=(g.length:Int)-1-((0:Nat):Int):=by simp;lia
  rw[e]
 refine wpAny_pyIter_revIter l ?_;have F:Inv X k j m {d with heap:=d.heap.push (revObj b ((f.toArray.size:Int)-1))}:=i.kept (t':=d.toks) λc o e=>Heap.get?_push_of_some _ e;refine(d.heap.objs.size,[d.heap.objs.size],_,ZM X.K b g,m,7,F,Pq b _ g,(af3 _,l),λc D=>?_,q);have e:c=d.heap.objs.size:=by simpa using D
 subst e;exact i.fpOk (aae _) (i.hok.fresh (aae _))
theorem HR{K:PySem.W.Frag}{a:Addr}{xs:List V}{g:TG}{j:TS}{σ:St}(b:Nat->St->Hp->Prop)(s:b 0 σ H)(q:∀i σ H,i<=xs.length->b i σ H->My K H a xs)
  (o:∀i x σ H,i<xs.length->xs[xs.length-1-i]?=some x->b i σ H->g x σ H λ c h=>j {Y with nx:=b (i+1),ct:=b (i+1),bk:=Y.nx} c h)(hd:∀σ H,b xs.length σ H->Y.nx σ H):
  ∃W:Nat->Nat->St->Hp->Prop,(∃m,W 0 m σ H) /\ ∀i m σ H,W i m σ H ->
   ((ZM K a xs).stop i H/\Y.nx σ H)\/((ZM K a xs).go i H /\ ∃N:St->Hp->Prop,(∀d H',N d H' -> ∃k,k<m/\W (i+1) k d H') /\ ∀x H',(ZM K a xs).Yd i H x H'->g x σ H' λ c h=>j {Y with nx:=N,ct:=N,bk:=Y.nx} c h):=by
 exists λi m σ H=>m=xs.length-i/\i<=xs.length/\b i σ H,(xs.length,by simp,af3 _,s);rintro i m σ H ⟨rfl,r,p⟩;by_cases f:i<xs.length
 ·refine .inr ((q i σ H r p,f),b (i+1),λ d H' l=>(xs.length-(i+1),6,7,f,l),λx H' y=>?_);obtain⟨rfl,n⟩:=y;exact o i x σ _ f n p
 ·have e:i=xs.length:=by lia
  subst e;exact .inl (aae _,hd σ H p)
mutual
inductive ph(K:PySem.W.Frag)(H:Hp):V->PyData->Prop where
 | non:ph K H .non .none
 | bl (b:Bool):ph K H (.bl b) (.bool b)
 | int (i:Int):ph K H (.int i) (.int i)
 | str (x:Str):ph K H (.str x) (.str x)
 | lst {a:Addr}{xs:List V}{ds:List PyData} (h:My K H a xs) (r:jm K H xs ds):ph K H (.ref a) (.list ds)
 | tup {a:Addr}{xs:List V}{ds:List PyData} (h:Wq K H a xs) (r:jm K H xs ds):ph K H (.ref a) (.tuple ds)
inductive jm(K:PySem.W.Frag)(H:Hp):List V->List PyData->Prop where
 | nil:jm K H [] []
 | cons {x:V}{xs:List V}{d:PyData}{ds:List PyData} (h:ph K H x d) (r:jm K H xs ds):jm K H (x::xs) (d::ds)
end
theorem gA{K:PySem.W.Frag}{H:Hp}:∀ns:List Int,jm K H ‹ns› (ns.map PyData.int)
 |[]=>.nil
 |i::r=>.cons (.int i) (gA r)
mutual
theorem ph.reads(I:Inv X π σ H s){x:V}{d:PyData}{u:Value}:ph X.K H x d->RelV x u -> ∃j,Reads s.heap u d j
 |.non,r=>(_,by cases (show u=Value.none from r);exact .none)
 |.bl b,r=>(_,by cases (show u=Value.bool b from r);exact .bool b)
 |.int i,r=>by
  obtain⟨t,rfl⟩:=r;exact(_,.int i t)
 |.str y,r=>by
  obtain⟨t,rfl⟩:=r;exact(_,.str y t)
 |.lst (a:=a) h q,r=>by
  cases (show u=Value.ref a from r);obtain⟨k,f,p,_⟩:=I.list h;obtain⟨j,g⟩:=jm.reads I q f;obtain⟨o,n,e,c,_,d⟩:=p;exact(_,.list e c d (by simpa using g))
 |.tup (a:=a) h q,r=>by
  cases (show u=Value.ref a from r);obtain⟨k,f,p,_⟩:=I.tuple h;obtain⟨j,g⟩:=jm.reads I q f;obtain⟨o,e,c,n,d⟩:=p;exact(_,.tuple e c d (by simpa using g))
theorem jm.reads(I:Inv X π σ H s){xs:List V}{ds:List PyData}{a:List Value}:jm X.K H xs ds->Vals xs a -> ∃b,ReadsAll s.heap a ds b
 |.nil,r=>by
  cases r;exact(_,.nil)
 |.cons h q,r=>by
  cases r with
  |cons f e=>
   obtain⟨b,d⟩:=ph.reads I h f;obtain⟨g,c⟩:=jm.reads I q e;exact(_,.cons d c)
end
inductive V4(K:PySem.W.Frag)(x:V)(y:V)(H:Hp)(Q:VK):Prop
 | mk (a b:Addr) (ns ms:List Int) (_:x=.ref a) (_:y=.ref b) (_:My K H a !!ns) (_:My K H b !!ms) (_:Q (.bl (decide (ns=ms))) H)
inductive We(K:PySem.W.Frag)(x:V)(y:V)(H:Hp)(Q:VK):Prop
 | mk (d1 d2:PyData) (_:ph K H x d1) (_:ph K H y d2) (_:SeqAt.shaped d1=true) (_:SeqAt.shaped d2=true) (_:Q (.bl (PyData.eqv d1 d2)) H)
inductive T7(K:PySem.W.Frag)(x:V)(y:V)(H:Hp)(Q:VK):Prop
 | mk (a b:Addr) (ns ms:List Int) (_:x=.ref a) (_:y=.ref b) (_:My K H a !!ns) (_:My K H b !!ms) (_:Q (.bl (!decide (ns=ms))) H)
inductive Tv(K:PySem.W.Frag)(x:V)(y:V)(H:Hp)(Q:VK):Prop
 | mk (d1 d2:PyData) (_:ph K H x d1) (_:ph K H y d2) (_:SeqAt.shaped d1=true) (_:SeqAt.shaped d2=true) (_:Q (.bl (!PyData.eqv d1 d2)) H)
theorem Ly(e:X.A.units+64<cLine):WN X (compareOp .Eq) (λx y H Q=>V4 X.K x y H Q\/We X.K x y H Q):=by
 intro z s w H x y u v Q I d c h;rcases h with ⟨a,b,D,E,rfl,rfl,n,m,q⟩|⟨G,F,p,o,t,r,q⟩
 ·cases (show u=Value.ref a from d);cases (show v=Value.ref b from c);obtain⟨C,j,l,_⟩:=I.list n;obtain⟨B,i,k,_⟩:=I.list m;exact PySem.W.ke_eq_ints l.isList k.isList (intsAre_of j) (intsAre_of i) e (.bl _,H,I,7,q)
 ·obtain⟨L,g⟩:=p.reads I d;obtain⟨J,f⟩:=o.reads I c;exact eq_dataH g f t r e (.bl _,H,I,7,q)
theorem jA(e:X.A.units+64<cLine):WN X (compareOp .NotEq) (λx y H Q=>T7 X.K x y H Q\/Tv X.K x y H Q):=by
 intro z s w H x y u v Q I d c h;rcases h with ⟨a,b,D,E,rfl,rfl,n,m,q⟩|⟨G,F,p,o,t,r,q⟩
 ·cases (show u=Value.ref a from d);cases (show v=Value.ref b from c);obtain⟨C,j,l,_⟩:=I.list n;obtain⟨B,i,k,_⟩:=I.list m;exact PySem.W.ke_ne_ints l.isList k.isList (intsAre_of j) (intsAre_of i) e (.bl _,H,I,7,q)
 ·obtain⟨L,g⟩:=p.reads I d;obtain⟨J,f⟩:=o.reads I c;exact ne_dataH g f t r e (.bl _,H,I,7,q)
end L2
namespace Tw
theorem Ks{lo:Int}{n:Nat}{b:L2.St}{h:Addr->Hp->Prop}(f:Nat->Int)(l:n<sizeLine)
  (d:∀(z:Int) (H':Hp) (Q:Bool->Hp->Prop),Q true H'->M (some (.int z)::b) H' Q)(k:∀(i:Nat) (H':Hp) (Q:VK),i<n->aM H H'->Q (.int (f i)) H'->ta (some (.int (lo+i))::b) H' Q)
  (q:∀D,H D=none->h D (upd H D (.lst ‹(aga n).map f›))):gG (Yt lo n) b M ta h H:=by
 intro D g;exists λi m c j=>m=n-i/\i<=n/\c=((aga i).map f).map V.int/\j=upd H D (.lst c),(9,af3 _,7,7);rintro i m c j ⟨rfl,o,rfl,rfl⟩;by_cases a:i<n
 ·refine .inr (a,λv p y=>?_);obtain⟨rfl,rfl⟩:=y;refine d _ _ _ ?_;rw[if_pos rfl];refine k i _ _ a (aq g _) (aa,2,n-(i+1),6,7,a,2,2)
  ·rw[aaa,aaa,af8];lia
  ·rw[agl,aag,aag];rfl
  ·rw[jq]
 ·have e:i=n:=by lia
  subst e;exact .inl (aae _,q D g)
theorem uP{c A:Prop}[Decidable c]{σ:St}(R:St->Hp->Prop)(b:¬c->R σ H)(h:∀a H',R a H'->Y.nx a H')(d:c->(∀a H',R a H'->Y.nx a H')->A):if c then A else Bw Y σ H:=by
 by_cases q:c
 ·rw[if_pos q];exact d q h
 ·rw[if_neg q];exact h _ _ (b q)
theorem Je{t:TA}{i:Nat}{k:Int}{xs:List V}{σ:St}{Q:VK}(ht:∀c:List V->Hp->Prop,c xs H->t σ H c)(e:σ[i]?=some (!!!!k))(f:k<=100000)(d:xs.length<=2)(g : -100000<=k)
  (q:∀p H',H p=none->aM H H'->H' p=some (.lst (aap k.toNat xs).flatten)->Q (.ref p) H'):Ym Vu (UJ t) (Gn i) σ H Q:=by
 refine ht _ (by rw[sizeLine_eq];lia,λp b=>(_,e,p,k,xs,7,7,aa,6,6,2,λr a=>q r _ ((aq b _).free a) ((aq b _).trans (aq a _)) aa));rw[sizeLine_eq];have:k.toNat<=100000:=by lia
 have:=ahU d this;lia
end Tw
namespace L2
open PySem.Spec PyProof.Rows PySem.W
end L2
namespace Tw
theorem QG{a U A:Prop}[Decidable a]{σ:St}(N:Y.nx σ H)(b:a->Y.nx σ H->U):if a then U else (if false=true then A else Bw Y σ H):=by
 by_cases q:a
 ·rw[if_pos q];exact b q N
 ·rw[if_neg q];exact b7 N
end Tw
namespace L2
open PySem.Spec PyProof.Rows
theorem bN.ex{w:World}{a:Addr}{o:HO}(x:bN prog w H base a o):∃b,base.get? a=some b:=by
 induction o with
 |lst l=>obtain⟨z,k,n,r,e⟩:=x;exact(_,e)
 |tup l=>obtain⟨z,k,r,b,e,c⟩:=x;exact(_,e)
 |dK j=>obtain⟨z,y,q,r,b,g,i,e,c⟩:=x;exact(_,e)
 |dT j=>obtain⟨z,y,l,r,b,g,i,e,c⟩:=x;exact(_,e)
 |set S n=>obtain⟨b,g,i,t,e,c⟩:=x;exact(_,e)
 |ins C I m=>obtain⟨d,z,B,e,_⟩:=x;exact(_,e)
 |own y=>exact x
 |xd m=>obtain⟨D,⟨A,g,i,e,c⟩,r⟩:=x;exact(_,e)
 |rng E G=>obtain⟨t,u,v,e⟩:=x;exact(_,e)
 |Xn b u F=>exact(_,x.1)
 |WW s=>exact(_,x)
 |met f y=>exact(_,x)
 |ext p=>exact x.2.1
structure Cov(B:Heap)(fs:List Addr)(H H':Hp)(h:Heap):Prop where
 old:∀b o,h.get? b=some o->b∉fs -> ∃o',B.get? b=some o'/\(H b=none->o'=o)
 W6:∀b u,H' b=some u -> ∃o,B.get? b=some o
def Xv(P:Program)(w:World):Xu:=λa H s E e b=>∃(d C t:Addr) (B:Heap) (c:Hp),e=.ref d/\b.os=s.os/\AllBare b.gens/\Un (frs a) [] H c s.heap b.heap/\WK P w c b.heap /\
  Heap.FlyingW B a d (.ref C) (.ref t) b.heap/\Cov B (frs a) H c s.heap/\E (.ref C) none c
section
variable{P:Program}{w:World}{E:XK}
abbrev X1(P:Program)(w:World)(K:PySem.W.Frag)(mg:Str->Option Value)(base:Heap)(N:List Str)(qual:Str)(scope:Scope)(f:Addr)(cd:Value)(A:Around)(outer:List Env)(s0:Shared)(H0:Hp)(E:XK):Cx:=
 jV (Xv P w) P w K mg base N qual scope f cd A outer s0 H0 E
theorem young{b:Addr}{o:Obj}(q:s0.heap.get? b=some o)(c:b∉frs outer):b∉frs (envOfC qual scope s0.heap.objs.size f cd::outer):=λz=>by
 have a:b∈s0.heap.objs.size::frs outer:=z;rcases aav.mp a with e|e
 ·exact absurd (Heap.lt_size q) (by rw[e];exact agB _)
 ·exact c e
theorem raised{σ:St}{s:Shared}{ea C:Addr}{vs:List Value}(I:Inv (X1 P w K mg base N qual scope f cd A outer s0 H0 E) π σ H s)(m:Heap.MadeExcOf s.heap h' ea (.ref C) vs)(q:E (.ref C) none H):
  (X1 P w K mg base N qual scope f cd A outer s0 H0 E).xe (.ref ea) {s with heap:=h'}:=by
 have J:s.heap.FunFrames base (envOfC qual scope s0.heap.objs.size f cd::outer):=I.stack;have D:∀j∈(envOfC qual scope s0.heap.objs.size f cd::outer),∀b,j.frame=some b->b∈frs (envOfC qual scope s0.heap.objs.size f cd::outer):=λj O b a=>ahL.mpr (j,O,a);have U:Un (frs outer) [] H0 H s0.heap s.heap:=I.base;have h:∀b u,H b=some u->b∉frs (envOfC qual scope s0.heap.objs.size f cd::outer):=λb u e z=>by
  have:=I.stkFree b z;rw[this]at e;cases e
 have g:∀b o,s.heap.get? b=some o->b∉frs (envOfC qual scope s0.heap.objs.size f cd::outer)->(PySem.W.hideAll s.heap (frs (envOfC qual scope s0.heap.objs.size f cd::outer))).get? b=some o:=λb o e n=>PySem.W.hideAll_get _ e n;show wpAny _ _ (leaving _ _) _ _ _;refine wpAny_leaves_madeW (base:=PySem.W.hideAll s.heap (frs (envOfC qual scope s0.heap.objs.size f cd::outer))) I.ok.frames rfl (λb o e=>PySem.W.of_hideAll _ e) (PySem.W.funFrames_hide J D) m λQ t F S R L=>?_;have i:=F.1;have G:∀b o,s.heap.get? b=some o->b∈frs outer -> ∃v,Q.get? b=some {o with slots:=v}:=λb o e a=>by
  obtain⟨_,T,p,M⟩:=J.mem (b:=b) (aai _ a);rw[e]at p;cases p;exact L b o (m.keeps _ _ e) M
 refine(ea,C,t,_,H,7,I.os,I.bare,(λb o e n a l=>?_,λb o e n a l=>?_,U.free,λb o e l=>?_,U.tups,U.frzs,U.tbls),λb u e=>?_,F,(λb o e a=>?_,λb u e=>?_),q)
 ·exact i b o (g b o (U.keep b o e n a l) (young e a))
 ·obtain⟨v,d⟩:=U.slot b o e n a l;obtain⟨B,y⟩:=G b _ d a;exact(B,y)
 ·obtain⟨k,d⟩:=U.there b o e l;by_cases a:b∈frs outer
  ·obtain⟨v,y⟩:=G b _ d a;exact(_,y)
  ·exact(k,i b k (g b k d (young e a)))
 ·refine(I.hok b u e).stay (λc o x d=>i c o (g c o d ?_)) (λ_ r=>r) λ_ _ r=>r;rcases x with rfl|x
  ·exact h _ _ e
  ·exact h _ _ x
 ·obtain⟨k,d⟩:=U.there b o e (by simp);refine(k,g b k d (young e a),λn=>?_);have:=U.keep b o e n a (by simp);rw[d]at this;exact aat this
 ·obtain⟨o,d⟩:=(I.hok b u e).ex;exact(o,g b o d (h b u e))
theorem mX:ig (Xv P w) (X1 P w K mg base N qual scope f cd A outer s0 H0 E) E:=by
 intro π σ H s e S I h;obtain⟨ea,C,t,B,H',rfl,V,x,m,L,F,j,q⟩:=h;have U:Un (frs outer) [] H0 H s0.heap s.heap:=I.base;show wpAny _ _ (leaving _ _) _ _ _;refine wpAny_leaves_onW (base:=B) I.ok.frames rfl F λZ O R=>?_;have k:=O.1;have Q:∀b o,S.heap.get? b=some o->b∈frs outer -> ∃y,Z.get? b=some {o with slots:=y}:=λb o e d=>by
  obtain⟨_,p,v,W⟩:=F.2.2.1.mem (b:=b) (aai _ d);rw[e]at v;cases v;exact R b o e W
 refine(ea,C,t,B,H',7,V.trans I.os,x,(λb o e n d g=>?_,λb o e n d g=>?_,λb o e n g=>?_,λb o e g=>?_,λb M e=>m.tups b M (U.tups b M e),λb o u e=>m.frzs b o u (U.frzs b o u e),λb T e=>?_),λb u e=>?_,O,(λb o e d=>?_,j.W6),q)
 ·obtain⟨p,a,z⟩:=j.old b o (U.keep b o e n d g) (young e d);rw[z (U.free b o e n g)]at a;exact k b o a
 ·obtain⟨y,i⟩:=U.slot b o e n d g;obtain⟨a0,a⟩:=m.slot b _ i (U.free b o e n g) (aai _ d) g;obtain⟨J,G⟩:=Q b _ a d;exact(J,G)
 ·obtain⟨l,i⟩:=U.there b o e g;exact m.free b l i (U.free b o e n g) g
 ·obtain⟨l,i⟩:=U.there b o e g;by_cases d:b∈frs outer
  ·obtain⟨o2,a⟩:=m.there b l i g;obtain⟨y,G⟩:=Q b _ a d;exact(_,G)
  ·obtain⟨p,a,_⟩:=j.old b l i (young e d);exact(p,k b p a)
 ·obtain⟨Y,i⟩:=U.tbls b T e;obtain⟨X,a⟩:=m.tbls b _ i;exact(Y++X,by rw[a,ahK])
 ·refine(L b u e).stay (λc o D i=>?_) (λ_ r=>r) λ_ _ r=>r;have ht:∃o,B.get? c=some o:=by
   rcases D with rfl|D
   ·exact j.W6 _ _ e
   ·exact j.W6 _ _ D
  obtain⟨l,a⟩:=ht;have:=F.1 c l a;rw[i]at this;cases this;exact k c o a
 ·obtain⟨l,i⟩:=U.there b o e (by simp);obtain⟨p,a,z⟩:=j.old b l i (young e d);refine(p,a,λn=>?_);have:=U.keep b o e n d (by simp);rw[i]at this;rw[z (U.free b o e n (by simp))];exact aat this
theorem Qm:PassesOwn (model P w) (X1 P w K mg base N qual scope f cd A outer s0 H0 E).A (X1 P w K mg base N qual scope f cd A outer s0 H0 E).env (X1 P w K mg base N qual scope f cd A outer s0 H0 E).xe:=PassesOwn.leaving
end
section
variable{P:Program}{w:World}
theorem Xx.ok1{x :Str}{st:Stmt}{f:Addr}{N ps:List Str}{k:Nat}(F:Xx K x qual st f fd)(S:aF N ps (δ st))(d:∀vs H Q E,sp vs H Q E->vs.length=ps.length)
  (c:∀(b:Value) (A:Around) (a:List Env) (s:Shared) (H:Hp) (vs:List V) (Q:VK) (E:XK),ik k (A.deeper (envOfC qual (δ st) s.heap.objs.size f b))->sp vs H Q E ->
   ∃t,Xd (X1 P w K mg base N qual (δ st) f b A a s H E) (μ st) t/\t {nx:=λ_ H'=>Q .non H',rt:=Q} (start N vs) H):bc P w K mg base (Xv P w) (k+1) f fd ps sp:=by
 obtain⟨o,n,kV,l,m,q,b,p,j,rfl,h,g⟩:=F.ex;exact LK h g S d λA a s H vs Q E i e=>c b A a s H vs Q E i e
end
abbrev YB:List Value:=[.type "ValueError",.type "Exception",.type "BaseException",.type "object"]
structure Exc(K:PySem.W.Frag)(mg:Str->Option Value)(x:Str)(C:Addr):Prop where
 m:mg x=some (.ref C)
 q:PySem.W.excIn K C YB "ValueError.__new__" = true
theorem uO{K:PySem.W.Frag}{C:Addr}(X:K.In base)(q:PySem.W.excIn K C YB "ValueError.__new__" = true):
  ∃bm N nm d bs hdct sn sub ab col dd k0 k1 k2 k3 k5 mN,base.get? C=some (excClassObj nm d C N bs bm hdct sn sub ab col dd k0 k1 k2 k3 k5 "ValueError.__new__")/\base.Ns N mN/\mN "__init__" = none/\OwnTail base YB bm:=by
 unfold PySem.W.excIn at q;split at q
 ·rename_i dd m f k;split at q
  ·rename_i r bm k0 k1 k2 k3 n k5 i g;simp only[ahV,beq_iff_eq,ah6]at q;obtain⟨⟨⟨⟨⟨rfl,rfl⟩,a⟩,ht⟩,b⟩,c⟩:=q;obtain⟨nm,bs,o,j,d,hd,sn,sub,ab,col,p⟩:=m;dsimp only at i a b c;subst i a
   have e:f=#[k0,k1,k2,k3,some (.builtin "ValueError.__new__"),k5]:=by
    obtain⟨l⟩:=f;simp only at g;rw[g]
   subst e;exact(bm,j,nm,d,bs,hd,sn,sub,ab,col,dd,k0,k1,k2,k3,k5,_,X _ _ k,.of_isNs (PySem.W.isNs_of_in X b),PySem.W.nsMap_none_of_in X b c,PySem.W.tail_of_in X ht)
  ·cases q
 ·cases q
section
variable{P:Program}{w:World}{E:XK}
def Lb(C:Addr)(E:XK):List V->Hp->Prop:=λa b=>a.length<=sizeLine/\E (.ref C) none b
def Pn(C:Addr)(E:XK)(b:TA):TS:=λ_ a H=>b a H (Lb C E)
theorem Ec{x:Str}{C:Addr}{a:Expr}{pos:Pos}(e:Exc K mg x C)(R:Gl (X1 P w K mg base N qual scope f cd A outer s0 H0 E) x)(S:PA (X1 P w K mg base N qual scope f cd A outer s0 H0 E) [a] t)
  (i:(x==("__debug__" : Str))=false:=by decide)
  (k:starEach [a] (X1 P w K mg base N qual scope f cd A outer s0 H0 E).env=[(pq false (eval a (X1 P w K mg base N qual scope f cd A outer s0 H0 E).env))]:=by rfl):
  PS (X1 P w K mg base N qual scope f cd A outer s0 H0 E) (.Raise (some (.Call (.Name x p) [a] [] apos)) none pos) (Pn C E t):=by
 intro o s n H D I h;obtain⟨Y,N',B,v,X,b,r,d,Z,j,W,Q,O,M,L,J,G,V,U,g,T⟩:=uO I.mod.Y5 e.q;refine wpAny_Raise_call_subU (C:=C) (nm:=B) (q:=v) (N:=N') (bs:=X) (bm:=Y) (hdct:=b) (sn:=r) (sub:=d) (ab:=Z) (col:=j) (dd:=W) (k0:=Q) (k1:=O) (k2:=M) (k3:=L) (k5:=J)
  PySem.F.excBase_ValueError PySem.F.excBase_ValueError.hasB PySem.F.excBase_ValueError (mN:=G) (T.hasType PySem.F.excBase_ValueError.hasBase) (I.ok.hd rfl) (by rw[k];rfl) g (j7 I R e.m (7,2) i)
 have l:=S apos o s n H _ I h;rw[k]at l ⊢;refine Calls.evalArgs_plain (Wo l λus s2 ⟨vs,H2,c,u,z,y⟩=>(7,2,c.bk _ _ V,U.keeps c.bk,T.keeps c.bk,λh' ea m=>raised c m y));rw[<-u.length];exact z
end
def JM(ea C:Addr):HO:=.ext λh=>∃o a,h.get? ea=some o/\o.cls=.ref C/\o.data=.fields a
structure wu(K:PySem.W.Frag)(C:Addr):Prop where
 dct:PySem.W.hasDictIn K C=true
 ga:PySem.W.findIn K (.ref C) "__getattribute__" = some (some (.builtin "BaseException.__getattribute__"))
 nga:PySem.W.findIn K (.ref C) "__getattr__" = some none
 cl:PySem.W.findIn K (.ref C) "__class__" = some (some (.builtin "object.__class__"))
 gt:PySem.W.specialIn K (.builtin "object.__class__") "__get__" = some (some (.builtin "getset_descriptor.__get__"))
 tk:PySem.W.takesIn K (.builtin "object.__class__")=some true
 mo:PySem.W.mroIn K C (.type "object")=some true
 mb:PySem.W.mroIn K C (.type "BaseException")=some true
def Cx.suite(X:Cx)(ea:Addr):Cx:={X with A:=X.A.mark (!!!ea),calm:=false,xe:=λ_ _=>False}
section
variable{ea:Addr}
theorem Cx.Ok.suite(a:X.Ok):(X.suite ea).Ok:=
 (a.mod,a.kind,a.glob,a.blt,a.above,a.inj,a.has,a.cab,λz=>absurd z aaT,a.frames,a.Xr,a.Zg,a.bs,a.XM,a.noex,a.exfs,a.funs,a.Yr)
theorem Inv.suite(I:Inv X π σ H s):Inv (X.suite ea) π σ H s:=(I.ok.suite,I.os,I.bare,I.base,I.loc,I.cell,I.free,I.freeC,I.pin,I.hok,I.len)
theorem Inv.unsuite(a:X.Ok)(I:Inv (X.suite ea) π σ H s):Inv X π σ H s:=(a,I.os,I.bare,I.base,I.loc,I.cell,I.free,I.freeC,I.pin,I.hok,I.len)
theorem name_goes{M:Model}{A:Around}{E:Value->Shared->Prop}{i:Nat}{n:Str}{pos:Pos}{Q:Unit->Shared->Prop}(I:Inv X π σ H s)(Z:X.N.Nodup)(K:X.N[i]?=some n)(Y:X.env.scope.names.lookup n=some .local)
  (h:∀s',Inv X π (σ.set i none) H s'->Q () s'):wpAny M A (do bindName X.env n .none;unbindBehindTheSuite X.env n pos) Q E s:=by
 obtain⟨m,J,u⟩:=id I.loc;have w:(X.env.scope.kind == .class || (X.env.scope.kind == .module&&X.env.locals != X.env.globals))=false:=by rw[I.ok.kind];rfl
 have ZD:i<σ.length:=by rw[I.len];exact(aad.mp K).1
 have L:=I.Ys;obtain⟨oL,_,_,a0,_⟩:=id J;refine wpAny_nameGoes_keeps Y J w λh' v D a=>?_;have f:∀b o,X.s₀.heap.get? b=some o->b≠X.env.locals:=λb o e=>aaA (aas (Heap.lt_size e) I.ok.above);refine h _ (I.ok,I.os,I.bare,(λb o e r C t=>?_,λb o e r C t=>?_,I.base.free,λb o e t=>?_,I.base.tups,I.base.frzs,I.base.tbls),(_,D,λj y O l x e3=>?_),λy c e=>?_,I.free,I.freeC,λp W=>?_,λb T e=>?_,by simpa using I.len)
 ·exact(a.2 b (f b o e)).trans (I.base.keep b o e r C t)
 ·obtain⟨R,l⟩:=I.base.slot b o e r C t;exact(R,(a.2 b (f b o e)).trans l)
 ·obtain⟨U,l⟩:=I.base.there b o e t;exact(U,(a.2 b (f b o e)).trans l)
 ·by_cases B:j=i
  ·subst B;rw[agG ZD]at x;cases x
  ·rw[agE (agA B)]at x;obtain⟨P,S,q⟩:=u j y O l x e3;exists P,S;rcases q with ⟨k,e⟩|⟨k,c,e,z⟩
   ·refine .inl (k,2);have:y≠n:=λe=>B (vI Z l (e ▸ K));simp[this,e]
   ·exact .inr (k,c,e,z.sameBut a (L y c e))
 ·obtain⟨F,z⟩:=I.cell y c e;exact(F,z.sameBut a (L y c e))
 ·obtain⟨e,r,G,V,d⟩:=I.pin p W;exact((a.2 p.1 G).trans e,r,G,V,d)
 ·refine(I.hok b T e).stay (λc F g q=>(a.2 c ?_).trans q) (λ_ q=>q) λ_ _ q=>q;intro z;rcases g with g|g
  ·rw[<-g,z,I.free]at e;cases e
  ·rw[z,I.free]at g;cases g
theorem landed{C t:Addr}{H':Hp}{s':Shared}(I:Inv X π σ H s)(os:s'.os=s.os)(D:AllBare s'.gens)(j:Un (frs X.stack) [] H H' s.heap s'.heap)(L:WK X.prog X.w H' s'.heap)
  (E:Heap.FlyingW base X.stack ea (.ref C) (.ref t) s'.heap)(f:Cov base (frs X.stack) H H' s.heap)(x:Heap.FlyingW base X.stack ea (.ref C) (.ref t) h')(U:s'.heap.UpToSlots h'):
  H' ea=none/\Inv X π σ (upd H' ea (JM ea C)) {s' with heap:=h'}:=by
 have S:H' ea=none:=by
  cases q:H' ea with
  |none=>rfl
  |some u=>
   obtain⟨o,e⟩:=f.W6 ea u q;rw[E.2.1]at e;cases e
 obtain⟨P,O,i,M,y,_⟩:=x.first;have fresh:s.heap.get? ea=none:=by
  cases q:s.heap.get? ea with
  |none=>rfl
  |some o=>
   by_cases a:ea∈frs X.stack
   ·obtain⟨_,l,g,G⟩:=x.2.2.1.mem a;rw[i]at g;cases g;exact absurd y (G O)
   ·obtain⟨l,e,_⟩:=f.old ea o q a;rw[E.2.1]at e;cases e
 have R:∀b o,s'.heap.get? b=some o->b∈frs X.stack -> ∃F,h'.get? b=some {o with slots:=F}:=λb o e a=>by
  obtain⟨_,l,g,G⟩:=E.2.2.1.mem a;rw[e]at g;cases g;exact U b o e G
 have v:∀b u,H' b=some u->b≠ea:=λb u e=>aH e S;refine(S,I.call' (ch:=[]) os (λb o e n a m=>?_,λb o e n a m=>?_,λb o e n m=>?_,λb o e m=>?_,λb N e=>?_,λb o u e=>?_,λb V e=>?_) (λb u e=>?_) D λb z=>absurd z (by simp))
 ·obtain⟨l,d,z⟩:=f.old b o e a;rw[z n]at d;exact x.1 b o d
 ·obtain⟨F,h⟩:=j.slot b o e n a m;obtain⟨K,d⟩:=R b _ h a;exact(K,d)
 ·have:b≠ea:=λz=>by rw[z,fresh]at e;cases e
  rw[aJ this];exact j.free b o e n m
 ·by_cases a:b∈frs X.stack
  ·obtain⟨Q,h⟩:=j.there b o e m;obtain⟨F,d⟩:=R b _ h a;exact(_,d)
  ·obtain⟨l,d,_⟩:=f.old b o e a;exact(l,x.1 b l d)
 ·have q:=j.tups b N e;rw[aJ (v b _ q)];exact q
 ·have q:=j.frzs b o u e;rw[aJ (v b _ q)];exact q
 ·obtain⟨A,q⟩:=j.tbls b V e;exact(A,by rw[aJ (v b _ q)];exact q)
 ·by_cases a:b=ea
  ·subst a;rw[aa]at e;cases e;refine((P,O,i,M,y),(P,i),λZ Y p k=>?_);obtain⟨o,T,h,d,W⟩:=p;exact(o,T,k o h,d,W)
  ·rw[aJ a]at e;refine(L b u e).stay (λc o J h=>?_) (λc r=>by rw[aJ (v c _ r)];exact r) λc N r=>by rw[aJ (v c _ r)];exact r
   have ht:∃o,base.get? c=some o:=by
    rcases J with rfl|J
    ·exact f.W6 _ _ e
    ·exact f.W6 _ _ J
   obtain⟨Q,d⟩:=ht;have:=E.1 c Q d;rw[h]at this;cases this;exact x.1 c o d
end
section
variable{x:Addr}
def ExcAt(x C:Addr)(h:Heap):Prop:=∃o a,h.get? x=some o/\o.cls=.ref C/\o.data=.fields a
theorem wL{M:Model}(p:ExcAt x C base):PySem.W.Looks M base (typeOf (.ref x)) (.ref C):=by
 obtain⟨o,c,b,a,_⟩:=p;exact a ▸ (PySem.W.Looks.ld b).andThen .now
end
open PySem.W Builtin Builtin.ObjectAttr Builtin.Getset_descriptor
section
variable{x:Addr}
theorem MT{M:Model}(X:K.In base)(k:wu K C):Looks M base (find (.ref x) (.ref C) "__class__") (.bind (.builtin "getset_descriptor.__get__") (.builtin "object.__class__")):=by
 refine(looks_findIn X k.cl).andThen ?_
 refine Looks.andThen (show Looks M base (getOf (some (.builtin "object.__class__"))) (some (.builtin "getset_descriptor.__get__"))from looks_specialIn X k.gt) ?_
 exact(show Looks M base (dataDescriptor? (some (.builtin "object.__class__")) (some (.builtin "getset_descriptor.__get__"))) (some (pq (.builtin "getset_descriptor.__get__") (.builtin "object.__class__")))from (looks_takesIn X k.tk).andThen .now).andThen (Looks.tag .now)
variable{w:World}{R:Result->Shared->Prop}
theorem PJ(X:K.In s.heap)(p:ExcAt x C s.heap)(k:wu K C)(h:R (.ok (.ret (.ref C))) s):
  codeAny (model prog w) A (.call (.builtin "getset_descriptor.__get__") ([.builtin "object.__class__",.ref x,cd],[])) R s:=by
 obtain⟨b,g,c,t,a⟩:=s;have e:=wL (M:=model prog w) p;have d:=looks_mroIn (M:=model prog w) X k.mo;refine codeAny_call_builtin KF.slot_gs.plain KF.entry_gs (KF.slot_gs.check _ _ _ _ _ _ _ _ KF.type_class (KF.args_gs _ _ _) ?_);unfold Builtin.«getset_descriptor.__get__» Builtin.Getset_descriptor.descrGet;rw[dga_obj];refine wpAny_bind (wpAny_pure ?_);unfold descrGetter descrCheckInstance descrNameAndClass isInstance;simp only[KF.owner_class]
 repeat lk
 refine(Code.quiet_builtin _ (by decide +kernel),codeAny_builtin KF.entry_class ?_);unfold Builtin.«object.__class__» shownTypeOf
 repeat lk
 exact h
theorem S8{tk:Tok}(X:K.In s.heap)(p:ExcAt x C s.heap)(k:wu K C)(h:R (.ok (.ret (.ref C))) s):
  codeAny (model prog w) A (.call (.builtin "BaseException.__getattribute__") ([.ref x,.str "__class__" tk],[])) R s:=by
 obtain⟨l,g,v,t,q⟩:=s;have o:=wL (M:=model prog w) p;have B:=looks_mroIn (M:=model prog w) X k.mb
 have y:Looks (model prog w) l (isInstance (.ref x) (.type "BaseException")) true:=o.andThen B
 have z:=MT (M:=model prog w) (x:=x) X k;refine codeAny_call_builtin (by decide +kernel) PySem.F.entry_bexc_ga ?_
 have r:builtinKind "BaseException.__getattribute__" = some .slot:=by decide +kernel
 have a:splitId "BaseException.__getattribute__" = some (pq ("BaseException") ("__getattribute__")):=by decide +kernel
 have u:=PySem.F.args_bexc_ga (.ref x) (.str "__class__" tk)
 simp only[checkBuiltinCall,r,a];refine wpAny_bind (y.at ?_);rw[if_neg ∅]
 have m:wpAny (model prog w) A.in1 («object.__getattribute__» ([.ref x,.str "__class__" tk],[])) (λj c=>match j with | .done f=>R (.ok f) c | .again n=>n.quiet=true/\codeAny (model prog w) A n R c) (λe c=>R (.error e) c) (l,g,v,t,q):=by
  refine wpAny_bind (wpAny_pure (wpAny_bind (wpAny_pure (wpAny_bind (o.at (wpAny_bind (z.at ?_)))))))
  show wpAny _ _ (call (.builtin "getset_descriptor.__get__") [.builtin "object.__class__",.ref x,.ref C] >>= ret) _ _ _
  exact wpAny_bind (wpAny_call (PJ X p k (wpAny_pure h)))
 cases b:Manifest.signature? "BaseException.__getattribute__" with
 |none=>exact wpAny_pure m
 |some d=>
  have i:Bind.checkArgs "BaseException.__getattribute__" d ([.ref x,.str "__class__" tk],[])=pure ():=by simpa only [argsOk,b]using u
  simp only[i];exact wpAny_pure m
theorem J9{Q:Option Value->Shared->Prop}(X:K.In s.heap)(p:ExcAt x C s.heap)(k:wu K C)(h:Q (!!!C) {s with toks:=s.toks+1}):wpAny (model prog w) A (getAttr? (.ref x) "__class__") Q E s:=by
 obtain⟨b,g,d,t,a⟩:=s;have i:=wL (M:=model prog w) p;have f:=looks_findIn (M:=model prog w) X k.ga;have e:=looks_findIn (M:=model prog w) X k.nga;have c:=PySem.F.attrBase_ValueError.ga.bind (.ref x);unfold getAttr? getAttrBy? getAttrBy;refine wpAny_bind (wpAny_mkText (wpAny_bind (wpAny_attempt (wpAny_holding (wpAny_bind (i.at (wpAny_bind (f.at ?_))))))));show wpAny _ _ (getAttrByItsOwn _ _ _ _ _ _) _ _ _;unfold getAttrByItsOwn;refine wpAny_bind (e.at (wpAny_bind (wpAny_attempt (wpAny_holding ?_))));show wpAny _ _ (boundAndCalled _ _ _) _ _ _;unfold boundAndCalled;exact wpAny_bind (wpAny_of_eq c (wpAny_call (S8 (s:=(b,g,d,t+1,a)) X p k (wpAny_pure (wpAny_pure h)))))
theorem PB(k:wu K C):KitX K (.ref x) (.ref C) (ExcAt x C) where
 ty:=λ_ _ _ p=>wL p
 it:=λ_ _ X _=>by
  obtain⟨f,a,_⟩:=any_some k.dct;unfold clsIn at a;split at a
  ·rename_i m l g c b;intro B v y t j q;unfold isType loadHead;exact wpAny_bind (wpAny_loadPart (j _ _ (X _ _ b)) (wpAny_pure q))
  ·cases a
 ne:=λh i u o n r X d=>by
  obtain⟨f,a,_⟩:=any_some k.dct;refine ai9.mpr λq=>?_;have e:C=i:=Value.ref.inj (beq_iff_eq.mp q);subst e;unfold clsIn at a;split at a
  ·rename_i m l g c b;have z:=(X _ _ b).symm.trans d;cases z
  ·cases a
 ca:=λX p h=>J9 X p k h
end
theorem Ub{σ:St}{s:Shared}{ea C:Addr}(I:Inv X π σ H s)(h:H ea=some (JM ea C)):ExcAt ea C s.heap:=(I.hok ea _ h).1
abbrev Sy(K:PySem.W.Frag)(xs:List V)(H:Hp)(Q:VK):Prop:=∃(a C:Addr) (d:V) (c:Value) (b:Bool),xs=[.ref a,d]/\((∃D,d=.ref D/\c=.ref D) \/ ∃T,d=.ty T/\c=.type T)/\H a=some (JM a C)/\wu K C/\kitOne K (.ref C) c=some b/\Q (.bl b) H
theorem Eo:fZ X (.builtin "isinstance") (Sy X.K):=by
 intro n s m H o p Q I r h;obtain⟨l,C,d,c,b,rfl,hd,i,k,e,q⟩:=h;obtain⟨u,v,rfl,g,a⟩:=vals2 r;cases (show u=Value.ref l from g);have j:v=c:=by
  rcases hd with ⟨D,rfl,rfl⟩|⟨T,rfl,rfl⟩
  ·exact a
  ·exact a
 subst j;exact kia_one (PB k) I.Xc (Ub I i) e (λz=>nomatch z) λf=>(.bl b,H,I.tok f,7,q)
theorem Vl{w:World}{X:Cx}:ig (Xv prog w) X (λ_ _ _=>False):=λ_ _ _ _ _ _ _ h=>by
 obtain⟨_,_,_,_,_,_,_,_,_,_,_,_,z⟩:=h;exact z.elim
def Cx.tr(X:Cx)(a:List (Addr×Obj))(E:XK):Cx:={X with pn:=X.pn++a,xe:=λe c=>∃b H s,Inv X a b H s/\Xv X.prog X.w X.stack H s E e c}
section
variable{pins':List (Addr×Obj)}{E:XK}
theorem Cx.Ok.tr(a:X.Ok):(X.tr π E).Ok:=
 (a.mod,a.kind,a.glob,a.blt,a.above,a.inj,a.has,a.cab,a.hd,a.frames,a.Xr,a.Zg,a.bs,a.XM,a.noex,a.exfs,a.funs,a.Yr)
theorem Cx.Ok.untr(a:(X.tr π E).Ok):X.Ok:=
 (a.mod,a.kind,a.glob,a.blt,a.above,a.inj,a.has,a.cab,a.hd,a.frames,a.Xr,a.Zg,a.bs,a.XM,a.noex,a.exfs,a.funs,a.Yr)
theorem Inv.tr(I:Inv X π σ H s):Inv (X.tr π E) [] σ H s:=
 (I.ok.tr,I.os,I.bare,I.base,I.loc,I.cell,I.free,I.freeC,λp b=>I.pin p (by
  have a:p∈(X.pn++π)++[]:=b
  rwa [agr]at a),I.hok,I.len)
theorem Inv.untr(I:Inv (X.tr π E) pins' σ H s):Inv X π σ H s:=
 (I.ok.untr,I.os,I.bare,I.base,I.loc,I.cell,I.free,I.freeC,λp a=>I.pin p (agj _ a),I.hok,I.len)
theorem VB:ig (Xv X.prog X.w) (X.tr π E) E:=λ_ σ H s _ _ I h=>(σ,H,s,I.untr,h)
theorem SP.untr{D:Ends}{f:Flow}{s':Shared}(h:SP (X.tr π E) [] D f s'):SP X π D f s':=by
 cases f with
 |next=>obtain⟨σ,H,I,q⟩:=h;exact(σ,H,I.untr,q)
 |ret v=>obtain⟨x,σ,H,I,r,q⟩:=h;exact(x,σ,H,I.untr,r,q)
 |brk=>obtain⟨σ,H,I,q⟩:=h;exact(σ,H,I.untr,q)
 |cont=>obtain⟨σ,H,I,q⟩:=h;exact(σ,H,I.untr,q)
end
abbrev TH:=Addr->Ends->St->Hp->Prop
def PH(X:Cx)(i:List ExceptHandler)(h:TH):Prop:=∀(g:List (Addr×Obj)) (a C t:Addr) (B:Heap) (e:Hp) (b:Shared) (f:St) (D:Ends) (d:Heap),
 (∀c,Heap.FlyingW B X.stack a (.ref C) (.ref t) c->b.heap.UpToSlots c->Inv X g f (upd e a (JM a C)) {b with heap:=c}) ->
 Heap.FlyingW B X.stack a (.ref C) (.ref t) d->b.heap.UpToSlots d->e a=none->h C D f e ->
 wpAny (model X.prog X.w) X.A (handleBy (.ref a) X.env i) (SP X g D) X.xe {b with heap:=d}
def Vr:TH:=λ_ _ _ _=>False
theorem TQ{X:Cx}:PH X [] Vr:=λ_ _ _ _ _ _ _ _ _ _ _ _ _ _ z=>z.elim
theorem O1{X:Cx}{ea C t:Addr}{s':Shared}{b:Bool}{σ:St}(r:Exc X.K X.mg x a)(h:wu X.K a)(k:Inv X π σ H {s' with heap:=h'})
  (s:Heap.FlyingW base X.stack ea (.ref C) (.ref t) h')(c:kitOne X.K (.ref C) (.ref a)=some b){M:Model}{A:Around}{Q:Bool->Shared->Prop}{E:Value->Shared->Prop}(i:Q b {s' with heap:=h'}):
  wpAny M A (excMatches (.ref ea) (.ref a)) Q E {s' with heap:=h'}:=by
 obtain⟨m,f,d,e,g,_⟩:=s.first;by_cases j:C=a
 ·subst j;have o:b=true:=by
   unfold kitOne at c;rw[if_pos (by simp)]at c;exact(aat c).symm
  subst o;obtain⟨U,W,G,D,S,l,z,u,V,y,R,P,O,N,L,J,I,p,w,v,T⟩:=uO k.Xc r.q;exact wpAny_excMatches_sub_self p d e (T.hasType PySem.F.excBase_ValueError.hasBase) i
 ·have n:exmOne X.K (.ref C) (.ref a)=some b:=by
   unfold exmOne
   rw[if_pos (beq_iff_eq.mpr (show subIn X.K (.ref a) (.type "BaseException")=some true from h.mb))]
   unfold kitOne at c;rw[if_neg (by simpa using j)]at c;exact c
  exact(exm_one (M:=M) k.Xc (wL (m,f,d,e,g)) n).at i
def hAs(K:PySem.W.Frag)(i:Nat)(h:Addr)(e:TS)(f:TH):TH:=λC D d H=>∃b,kitOne K (.ref C) (.ref h)=some b/\if b=true then (∀a,H a=none ->
 e {nx:=λ c g=>D.nx (c.set i none) g,rt:=λ_ _=>False} (d.set i (!!!a)) (upd H a (JM a C)))else f C D d H
theorem Vc{X:Cx}{n:Str}{i:Nat}{F:Stmt}{c:List Stmt}{s:TS}{rest:List ExceptHandler}{u:TH}
  (E:Exc X.K X.mg x a)(o:wu X.K a)(k:Gl X x)(y:X.N.Nodup)(w:X.N[i]?=some n)(g:X.env.scope.names.lookup n=some .local)
  (O:∀ea,Xd (X.suite ea) (F::c) s)(P:PH X rest u)(l:(x==("__debug__" : Str))=false:=by decide):
  PH X (.ExceptHandler (some (.Name x p)) (some n) (F::c) apos::rest) (hAs X.K i a s u):=by
 intro r ea C t B H' J H D A L f h G q;obtain⟨b,d,q⟩:=q;have j:=L A f h;refine wpAny_handleBy_cons (codeAny_handlers_test (j7 (X:=X.suite ea) j.suite k E.m ?_ l)) (by intro z;cases z);refine O1 E o j f d ?_;cases b with
 |false=>
  rw[if_neg aaT]at q;exact P r ea C t B H' J H D A L f h G q
 |true=>
  rw[if_pos rfl]at q;refine codeAny_handlers_suite_as ?_;refine lands_againW f λQ T S=>?_;have Y:=L Q T (h.trans S);refine ql (X:=X.suite ea) (v:=.ref ea) Y.suite y w (.inl g) rfl (λI W=>?_) (.inr g);refine wpAny_mono (O ea r I _ _ _ W (q ea G)) (λR s8 e=>?_) λ_ _ z=>False.elim z;cases R with
  |next=>
   obtain⟨a0,Z,V,M⟩:=e;exact name_goes (V.unsuite j.ok) y w g λs9 U=>(_,Z,U,M)
  |ret v=>obtain⟨_,_,_,_,_,z⟩:=e;exact False.elim z
  |brk=>obtain⟨_,_,_,z⟩:=e;exact False.elim z
  |cont=>obtain⟨_,_,_,z⟩:=e;exact False.elim z
def R3(d:XK->TS)(c:TH):TS:=λD b H=>d (λe _ f=>∃C,e=.ref C /\ ∀a:St,a.length=b.length->c C D a f) D b H
theorem Uw{X:Cx}{b:List Stmt}{J:ExceptHandler}{F:List ExceptHandler}{pos:Pos}{w:XK->TS}{u:TH}(d:X.stack=X.env::X.outer)(p:X.env.frame=some X.env.locals)
  (Q:∀l E,Xd (X.tr l E) b (w E))(P:PH X (J::F) u):PS X (.Try b (J::F) [] [] pos) (R3 w u):=by
 intro l s N H D I h;refine wpAny_Try_except ?_;refine wpAny_mono (Q l _ [] s N H D I.tr h) (λR y q=>?_) λe y q=>?_
 ·have m:=q.untr;cases R with
  |next=>exact wpAny_execs_nil m
  |ret v=>exact m
  |brk=>exact m
  |cont=>exact m
 ·obtain⟨f,H1,Z,o,K,M,x,B,Y,rfl,z,c,t,i,n,j,C,S,O⟩:=q;cases S;have r:X.A.frames=some (X.env::X.outer):=by rw[<-d];exact I.ok.frames
  refine wpAny_looks_onW (base:=B) r p (by rw[<-d];exact n) λh4 k g=>wpAny_landsW k λG V L=>?_;have a:Heap.FlyingW B X.stack K (.ref M) (.ref x) G:=by rw[d];exact V
  obtain⟨W,_⟩:=landed o z c t i n j a (g.trans L);exact P l K M x B Y y f D G (λh6 U T=>(landed o z c t i n j U T).2) a (g.trans L) W (O f (by rw[o.len,I.len]))
def bU(a:Addr)(o:Obj):HO:=.ext λh=>h.get? a=some o
theorem pL{w:World}{a:Addr}{o:Obj}(e:base.get? a=some o):bN prog w H base a (bU a o):=(e,(o,e),λ_ _ p k=>k o p)
theorem JP{w:World}{a:Addr}{o:Obj}(b:WK prog w H base)(e:H a=some (bU a o)):base.get? a=some o:=(b a _ e).1
def over(H:Hp)(cs:List Addr)(H':Hp):Hp:=λb=>if b∈cs then H b else H' b
section
variable{P:Program}{w:World}{cs:List Addr}
end
structure xF where
 name:Str
 qual:Str
 params:Arguments
 body:List Stmt
 scope:Scope
 ps:List Str
 xs:List Str
structure qt(H:Hp)(f:Addr)(c:xF)(cs:List Addr)(Xi:List V):Prop where
 ex:∃(cd:Addr) (doc pm ctv:Value) (oc:Obj) (vs:Array Value) (t:Tok),H f=some (bU f (fnMade c.name c.qual c.params c.body c.scope (c.xs.zip cs) doc pm cd ctv))/\H cd=some (bU cd oc)/\oc.data=.fields vs/\vs[1]?=some (.str c.qual t)
 cells:∀(i:Nat) (a:Addr),cs[i]?=some a -> ∃(co:Obj) (v:V) (u:Value),Xi[i]?=some v/\H a=some (bU a co)/\co.data=.cell (some u)/\RelV v u
 nd:cs.Nodup
 len:cs.length=c.xs.length
 lenV:Xi.length=c.xs.length
theorem qt.same{H':Hp}{f:Addr}{c:xF}{cs:List Addr}{Xi:List V}(h:qt H f c cs Xi)(s:∀b o,H b=some (bU b o)->H' b=some (bU b o)):qt H' f c cs Xi:=by
 obtain⟨⟨C,g,l,j,m,k,t,x,w,r,q⟩,p,n,d,lenV⟩:=h;refine((C,g,l,j,m,k,t,s _ _ x,s _ _ w,r,q),λi a e=>?_,n,d,lenV);obtain⟨B,v,u,A,z,y⟩:=p i a e;exact(B,v,u,A,s _ _ z,y)
section
variable{P:Program}{w:World}{c:xF}{cs:List Addr}{Xi vs:List V}{us:List Value}{k:Nat}{Q:VK}{E:XK}
end
section
variable{k i:Nat}{pos:Pos}{sp:Addr->Sp}
end
def BMain(mg:Str->Option Value)(h:Heap):Prop:=∃b a,mg "__builtins__" = some (.ref b)/\b≠builtinsNs/\h.get? b=some a/\a.cls=.type "module" /\ a.dict=some builtinsNs/\a.data=.plain
inductive TabAt(H:Hp)(P:Addr)(pos:Pos)(qual:Str):Prop
 | mk (ps:Array Value) (_:H P=some (.WW ps)) (_:TriplesOk ps.toList) (_:(codeAmong pos ps.toList=none \/ ∃(cd:Addr) (oc:Obj) (vs:Array Value) (t:Tok),codeAmong pos ps.toList=some (.ref cd)/\H cd=some (bU cd oc)/\oc.data=.fields vs/\vs[1]?=some (.str qual t)))
section
variable{c P:Addr}{name:Str}{params:Arguments}{body:List Stmt}{clos:List (Str×Addr)}{pos:Pos}
theorem RP{M:Model}{A:Around}{E:Value->Shared->Prop}{Q:Value->Shared->Prop}(I:Inv X π σ H s)(bm:BMain X.mg X.base)(w:X.env.code=.ref c)(C:CodeHd X.base c P)(hT:TabAt H P pos qual)(V:closureFor scope X.env=pure clos)
  (h:∀(fi D:Addr) (f pm g:Value) (j:Obj) (vs:Array Value) (t:Tok) (L:Hp) (s1:Shared),Inv X π σ L s1->H fi=none->(∀b o,H b=some o->b≠P->L b=some o)->TabAt L P pos qual ->
   L fi=some (bU fi (fnMade name qual params body scope clos f pm D g))->L D=some (bU D j)->j.data=.fields vs->vs[1]?=some (.str qual t)->Q (.ref fi) s1):
  wpAny M A (makeFunction name qual params (.stmts body) scope X.env [] [] [] pos n) Q E s:=by
 obtain⟨p,m,r,R⟩:=hT;have B:s.heap.get? P=some (tabObj p):=I.hok P _ m;have G:=I.mod.glob.keeps I.bk;obtain⟨bm,ob,b1,b2,b3,b4,b5,b6⟩:=bm;have v:=I.bk _ _ b3;have a5:mainGlobals≠P:=λq=>by
  obtain⟨o,es,ep,e,hd,_⟩:=G;rw[q,B]at e;cases e;cases hd
 have a6:bm≠P:=λq=>by
  rw[q,B]at v;cases v;cases b4
 have a7:bm≠mainGlobals:=λq=>by
  obtain⟨o,es,ep,e,hd,_⟩:=G;rw[q,e]at v;cases v;rw[hd]at b6;cases b6
 have Y:s.heap.BuiltinsAt X.mg P:=(bm,ob,b1,b2,a7,a6,v,b4,b5,b6);rcases R with U|⟨D,j,vs,t,hf,W,hd,S⟩
 ·refine makeFunction_K (mg:=X.mg) V I.ok.glob G w (C.keeps I.bk) B r U a5 Y λa g f i tk hx x O Z a3=>?_;obtain⟨c2,j,vs,t,e2,a4,hd,S⟩:=Z;cases e2;have nc:H a=none:=I.hok.fresh x;have K:H i.objs.size=none:=I.hok.fresh (agx x (ag0 O));have a2:P≠a:=aH m nc;have a1:P≠i.objs.size:=aH m K;have a0:a≠i.objs.size:=aaA O
  have k1:∀b,b≠P->b≠a->b≠i.objs.size->upd (upd (upd H P (.WW (p ++ #[rawInt pos.line,rawInt pos.col,.ref a]))) a (bU a j)) i.objs.size (bU i.objs.size (fnMade name qual params body scope clos f ((X.mg "__name__").getD .none) a g)) b=H b:=λb e1 e2 e3=>by
   rw[aJ e3,aJ e2,aJ e1]
  have l:∀b o,H b=some o->b≠P->upd (upd (upd H P (.WW (p ++ #[rawInt pos.line,rawInt pos.col,.ref a]))) a (bU a j)) i.objs.size (bU i.objs.size (fnMade name qual params body scope clos f ((X.mg "__name__").getD .none) a g)) b=some o:=λb o e n=>by
   rw[k1 b n (aH e nc) (aH e K)];exact e
  have kP:upd (upd (upd H P (.WW (p ++ #[rawInt pos.line,rawInt pos.col,.ref a]))) a (bU a j)) i.objs.size (bU i.objs.size (fnMade name qual params body scope clos f ((X.mg "__name__").getD .none) a g)) P=some (.WW (p ++ #[rawInt pos.line,rawInt pos.col,.ref a])):=by
   rw[aJ a1,aJ a2,aa]
  have kc:upd (upd (upd H P (.WW (p ++ #[rawInt pos.line,rawInt pos.col,.ref a]))) a (bU a j)) i.objs.size (bU i.objs.size (fnMade name qual params body scope clos f ((X.mg "__name__").getD .none) a g)) a=some (bU a j):=by
   rw[aJ a0,aa]
  have kf:upd (upd (upd H P (.WW (p ++ #[rawInt pos.line,rawInt pos.col,.ref a]))) a (bU a j)) i.objs.size (bU i.objs.size (fnMade name qual params body scope clos f ((X.mg "__name__").getD .none) a g)) i.objs.size=some (bU i.objs.size (fnMade name qual params body scope clos f ((X.mg "__name__").getD .none) a g)):=aa
  generalize upd (upd (upd H P (.WW (p ++ #[rawInt pos.line,rawInt pos.col,.ref a]))) a (bU a j)) i.objs.size (bU i.objs.size (fnMade name qual params body scope clos f ((X.mg "__name__").getD .none) a g))=L at *
  have k:∀b o,s.heap.get? b=some o->b≠P->(i.push (fnMade name qual params body scope clos f ((X.mg "__name__").getD .none) a g)).get? b=some o:=λb o e n=>Heap.get?_push_of_some _ (hx b o n e)
  have F:(i.push (fnMade name qual params body scope clos f ((X.mg "__name__").getD .none) a g)).get? P=some (tabObj (p ++ #[rawInt pos.line,rawInt pos.col,.ref a])):=Heap.get?_push_of_some _ a3
  have hl:(p ++ #[rawInt pos.line,rawInt pos.col,.ref a]).toList=p.toList++[rawInt pos.line,rawInt pos.col,.ref a]:=by simp
  refine h i.objs.size a f _ g j vs t L _ (I.call' (ch:=[]) rfl (λb o e n hb N=>?_,λb o e n hb N=>?_,λb o e n N=>?_,λb o e N=>?_,λb xs e=>?_,λb o u e=>?_,λb qs e=>?_) (λb u e=>?_) I.bare λb z=>absurd z (by simp)) K l (_,kP,by rw[hl];exact TriplesOk_snoc _ _ _ _ r,.inr (a,j,vs,t,by rw[hl];exact codeAmong_snoc _ r U,kc,hd,S)) kf kc hd S
  ·exact k b o e λz=>by rw[z,m]at n;cases n
  ·exact(o.slots,k b o e λz=>by rw[z,m]at n;cases n)
  ·rw[k1 b (λz=>by rw[z,m]at n;cases n) (aaA (aas (Heap.lt_size e) x)) (aaA (aas (Heap.lt_size e) (agx x (ag0 O))))];exact n
  ·by_cases z:b=P
   ·exact(_,by rw[z];exact F)
   ·exact(o,k b o e z)
  ·exact l b _ e λz=>by rw[z,m]at e;cases e
  ·exact l b _ e λz=>by rw[z,m]at e;cases e
  ·by_cases z:b=P
   ·rw[z,m]at e;cases e;exact(_,by rw[z];exact kP)
   ·exact(#[],by rw[l b _ e z];simp)
  ·by_cases J:b=i.objs.size
   ·rw[J,kf]at e;cases e;rw[J];exact pL (Heap.get?_push_size _ rfl)
   by_cases z2:b=a
   ·rw[z2,kc]at e;cases e;rw[z2];exact pL (Heap.get?_push_of_some _ a4)
   by_cases z3:b=P
   ·rw[z3,kP]at e;cases e;rw[z3];exact F
   rw[k1 b z3 z2 J]at e;refine(I.hok b u e).stay (λd o y q=>k d o q ?_) (λd q=>l d _ q ?_) λd xs q=>l d _ q ?_
   ·rcases y with rfl|y
    ·exact z3
    ·exact λz=>by rw[z,m]at y;cases y
   ·exact λz=>by rw[z,m]at q;cases q
   ·exact λz=>by rw[z,m]at q;cases q
 ·refine makeFunction_hit (mg:=X.mg) V I.ok.glob G w (C.keeps I.bk) B r hf Y λg f i tk hk T=>?_;have K:H i.objs.size=none:=I.hok.fresh T
  have l:∀b o,H b=some o->upd H i.objs.size (bU i.objs.size (fnMade name qual params body scope clos f ((X.mg "__name__").getD .none) D g)) b=some o:=λb o e=>by
   rw[aJ (aH e K)];exact e
  have k:∀b o,s.heap.get? b=some o->(i.push (fnMade name qual params body scope clos f ((X.mg "__name__").getD .none) D g)).get? b=some o:=λb o e=>Heap.get?_push_of_some _ (hk b o e)
  refine h i.objs.size D f _ g j vs t _ _ (I.call' (ch:=[]) rfl (Un.laid k T K) (λb u e=>?_) I.bare λb z=>absurd z (by simp)) K (λb o e _=>l b o e) (p,l _ _ m,r,.inr (D,j,vs,t,hf,l _ _ W,hd,S)) aa (l _ _ W) hd S;by_cases J:b=i.objs.size
  ·rw[J,aa]at e;cases e;rw[J];exact pL (Heap.get?_push_size _ rfl)
  rw[aJ J]at e;exact(I.hok b u e).stay (λd o _ q=>k d o q) (λd q=>l d _ q) λd xs q=>l d _ q
end
section
variable{P:Program}{w:World}{c Pt:Addr}{E:XK}{Q:VK}
theorem RJ{T:xF}{cs:List Addr}{Xi:List V}{pos :Pos}{i:Nat}(I:Inv (jV CX P w K mg base N qual scope f (.ref c) A outer s0 H0 E) [] σ H s)(bm:BMain mg base)(C:CodeHd base c Pt)(hT:TabAt H Pt pos T.qual)
  (a7:N.Nodup)(hi:N[i]?=some T.name)(y:scope.names.lookup T.name=some .local)(hq:qualnameIn (envOfC qual scope s0.heap.objs.size f (.ref c)) T.name T.name=T.qual)
  (b2:closureFor T.scope (envOfC qual scope s0.heap.objs.size f (.ref c))=pure (T.xs.zip cs))(b1:T.params.defaults=[])(a8:T.params.kw_defaults=[])(ha:annTrees T.params none (envOfC qual scope s0.heap.objs.size f (.ref c))=[])
  (Z:cs.Nodup)(a0:cs.length=T.xs.length)(L:Xi.length=T.xs.length)
  (S:∀(j:Nat) (a:Addr),cs[j]?=some a -> ∃(x:Str) (m:Nat) (v:V),(envOfC qual scope s0.heap.objs.size f (.ref c)).cells.lookup x=some a/\scope.names.lookup x=some .cell/\N[m]?=some x/\σ[m]?=some (some v)/\Xi[j]?=some v/\m≠i)
  (hQ:∀(D:Addr) (H2:Hp),H D=none->(∀a∈cs,H a=none)->(∀b o,H b=some o->b≠Pt->H2 b=some o)->TabAt H2 Pt pos T.qual->qt H2 D T cs Xi->Q (.ref D) H2)
  (b0:(T.name==("__debug__" : Str))=false:=by decide)(a1:(T.name==("__classdict__" : Str))=false:=by decide):
  wpAny (model P w) (A.deeper (envOfC qual scope s0.heap.objs.size f (.ref c))) (execs [.FunctionDef T.name T.params T.body [] none [] T.scope none T.name pos,.Return (some (.Name T.name p)) apos] (envOfC qual scope s0.heap.objs.size f (.ref c)))
   (λfl s'=>∃u,fl=.ret u/\CE outer P w H0 s0 Q u s') (jV CX P w K mg base N qual scope f (.ref c) A outer s0 H0 E).xe s:=by
 refine wpAny_execs_cons (nestDef_K b1 a8 ha ?_);rw[hq];refine RP (X:=jV CX P w K mg base N qual scope f (.ref c) A outer s0 H0 E) (n:=pos.line) I bm rfl C hT b2 λD cd b5 pm b6 oc vs t H1 s1 I1 a5 Y b4 a9 b3 hd hv=>?_;refine ql (X:=jV CX P w K mg base N qual scope f (.ref c) A outer s0 H0 E) (v:=.ref D) I1 a7 hi (.inl y) rfl (λs2 I2=>?_) (.inr y);have ZD:i<σ.length:=by rw[I.len];exact(aad.mp hi).1
 refine wpAny_execs_cons (wpAny_Return_some (Wo (Hh (X:=jV CX P w K mg base N qual scope f (.ref c) A outer s0 H0 E) hi (.inl y) b0 a1 [] s2 _ H1 (λv h=>v=.ref D/\h=H1) I2 (_,agG ZD,7,7)) λu F hu=>?_));obtain⟨v,h,J,rv,rfl,rfl⟩:=hu;exists u,7,.ref D,λb=>if b∈cs then (F.heap.get? b).map (bU b)else h b,J.os,J.bare,2,2,rv
 all_goals
  have g:∀a∈cs,∃x,(envOfC qual scope s0.heap.objs.size f (.ref c)).cells.lookup x=some a:=λa k=>by
   obtain⟨j,hj⟩:=agO k;obtain⟨x,m,v,h1,_⟩:=S j a hj;exact(x,h1)
  have fresh:∀a∈cs,s0.heap.objs.size<=a:=λa k=>by
   obtain⟨x,R⟩:=g a k;exact J.ok.cab x a rfl R
  have a2:∀a∈cs,h a=none:=λa k=>by
   obtain⟨x,R⟩:=g a k;exact J.freeC x a R
  have r:∀b o,h b=some o->b∉cs:=λb o e z=>by
   rw[a2 b z]at e;cases e
 ·have U:Un (frs outer) [] H0 h s0.heap F.heap:=J.base;refine(U.keep,U.slot,λb o e n a6=>?_,U.there,λb xs e=>?_,λb o v e=>?_,λb ps e=>?_)
  ·show (if b∈cs then _ else h b)=none;rw[if_neg (λz=>absurd (aas (Heap.lt_size e) (fresh b z)) (agB _))];exact U.free b o e n a6
  ·have B:=U.tups b xs e;show (if b∈cs then _ else h b)=_;rw[if_neg (r b _ B)];exact B
  ·have B:=U.frzs b o v e;show (if b∈cs then _ else h b)=_;rw[if_neg (r b _ B)];exact B
  ·obtain⟨W,B⟩:=U.tbls b ps e;exists W;show (if b∈cs then _ else h b)=_;rw[if_neg (r b _ B)];exact B
 ·intro b M e;have e:(if b∈cs then (F.heap.get? b).map (bU b)else h b)=some M:=e;by_cases hb:b∈cs
  ·rw[if_pos hb]at e;cases q:F.heap.get? b with
   |none=>rw[q]at e;cases e
   |some o=>
    rw[q]at e;cases e;exact pL q
  ·rw[if_neg hb]at e;refine(J.hok b M e).stay (λ_ _ _ q=>q) (λd q=>?_) λd xs q=>?_
   ·show (if d∈cs then _ else h d)=_;rw[if_neg (r d _ q)];exact q
   ·show (if d∈cs then _ else h d)=_;rw[if_neg (r d _ q)];exact q
 ·have O:∀b o,h b=some o->(λb=>if b∈cs then (F.heap.get? b).map (bU b)else h b) b=some o:=λb o e=>by
   show (if b∈cs then _ else h b)=_;rw[if_neg (r b _ e)];exact e
  refine hQ D _ a5 (λa k=>?_) (λb o e n=>O b o (Y b o e n)) ?_ ((cd,b5,pm,b6,oc,vs,t,O _ _ a9,O _ _ b3,hd,hv),λj a hj=>?_,Z,a0,L)
  ·obtain⟨x,R⟩:=g a k;exact I.freeC x a R
  ·obtain⟨ps,B,e2,e3⟩:=b4;exists ps,O _ _ B,e2;rcases e3 with e3|⟨b9,a4,a3,t',e4,e5,e6⟩
   ·exact .inl e3
   ·exact .inr (b9,a4,a3,t',e4,O _ _ e5,e6)
  ·obtain⟨x,m,v,h1,h2,h3,h4,h5,h6⟩:=S j a hj;obtain⟨mm,_,hl⟩:=J.loc;obtain⟨M,r',l⟩:=hl m x v h3 (by rw[agE (agA h6)];exact h4) (.inr (.inl h2));have l':∃c',(envOfC qual scope s0.heap.objs.size f (.ref c)).cells.lookup x=some c'/\F.heap.IsCell c' (some M):=by
    rcases l with ⟨G,_⟩|⟨_,l2⟩
    ·have G:scope.names.lookup x=some .local:=G;rw[h2]at G;cases G
    ·exact l2
   obtain⟨c',G,co,l2,l3⟩:=l';rw[h1]at G;cases G;refine(co,v,M,h5,2,l3,r');show (if a∈cs then (F.heap.get? a).map (bU a)else h a)=_;rw[if_pos (aaw hj),l2];rfl
theorem Ui{k:Nat}{name:Str}{d:Arguments}{g:List Stmt}{kV t G a L U:Value}{M od:Option Addr}{C:Array (Option Value)}{ps:List Str}(X:K.lookup f=some (U,od,.func (PySem.W.fnOf name qual d g scope cd kV t G M a L),C))(F:PySem.W.codeIn K a qual=true)(S:aF N ps scope)
  (m:∀vs H Q E,sp vs H Q E->vs.length=ps.length)
  (i:∀(A:Around) (outer:List Env) (s:Shared) (H:Hp) (vs:List V) (Q:VK) (E:XK) (j:Shared),ik k (A.deeper (envOfC qual scope s.heap.objs.size f a))->sp vs H Q E->Inv (jV Wt P w K mg base N qual scope f a A outer s H E) [] (start N vs) H j ->
   wpAny (model P w) (A.deeper (envOfC qual scope s.heap.objs.size f a)) (execs g (envOfC qual scope s.heap.objs.size f a)) (λJ s'=>∃u,J=.ret u/\CE outer P w H s Q u s') (jV Wt P w K mg base N qual scope f a A outer s H E).xe j):
  bc P w K mg base Wt (k+1) f (PySem.W.fnOf name qual d g scope cd kV t G M a L) ps sp:=by
 refine(m,λA outer s H R T vs Q E B l hb r p=>?_);have Z:=m _ _ _ _ p;have O:K.In s.heap:=l.mod.Y5.keeps λb o e=>(l.bs b o e).1;have D:s.heap.NoLimit:=l.mod.nolimit.keeps λb o e=>(l.bs b o e).1;have h:∀y∈ps.zip T,scope.names.lookup y.1=some .local\/(scope.names.lookup y.1=some .cell/\((cellsFrom (s.heap.objs.size+1) scope.names []).lookup y.1).isSome=true):=λ⟨n,v⟩ Y=>by
  rcases S.par n (ahg Y).1 with q|q
  ·exact .inl q
  ·exact .inr (q,PySem.W.cellsFrom_some _ _ _ (.inl q))
 refine codeAny_call_function B.depth (O _ _ X) rfl S.co S.gen rfl (PySem.W.codeRec_of O F) (hb _ _ _ _ ?_);refine wpAny_newFunctionEnv_cells S.kind h λa0 he j x=>?_;subst he;refine(D.keeps x.toInCall.keep,codeAny_func ?_);have I:Inv (jV Wt P w K mg base N qual scope f a A outer s H E) [] (start N vs) H j:=yD S B.hd l Z r x;refine wpAny_mono (i A outer s H vs Q E j (B.deeper _) p I) (λJ s' z=>?_) λe s' z=>z;obtain⟨u,rfl,q⟩:=z;exact q
end
theorem Kd{w:World}{K:PySem.W.Frag}{mg mb:Str->Option Value}{k:Nat}{a:Addr}{x:Str}{vs:List Value}{ns:List Int}{c:List (Addr×Addr)}
  (KX:K.In s0.heap)(S:s0.heap.Ns mainGlobals mg)(hb:s0.heap.Ns builtinsNs mb)(a6:∀x:Str,x ≠ "__name__" -> mb x=bootBuiltins x)(X:s0.heap.NoLimit)(a5:BMain mg s0.heap)(p:TabsAt c s0.heap)(a8:noTabs K=true)(hg:s0.gens=#[])
  (M:s0.heap.get? a=some {cls:=.type "list",data:=.seq vs.toArray})(hi:IntsAre vs ns)(hl:ns.length<=sizeLine)(hr:ik k callerA)
  (F:∀base:Heap,K.In base->base.Ns mainGlobals mg->BMain mg base->(∀q∈c,CodeHd base q.1 q.2)->bc prog w K mg base Wt k f fd [x] sp)(J:∀(s:Shared) (u:Value),BindsTo s fd ([u],[]) [(pq x u)])
  (a3:∀H:Hp,My K H a ‹ns›->(∀q∈c,H q.2=some (.WW #[]))->sp [.ref a] H (λv _=>v=.bl true) λ_ _ _=>False):
  codeAny (model prog w) callerA (.call (.ref f) ([.ref a],[])) (λr s'=>r=.ok (.ret (.bool true))/\OldK s0.heap s'.heap/\s'.os=s0.os/\AllBare s'.gens) s0:=by
 have rv:=sJ hi;have lenV:=hi.length;have A:∀b,b∈c.map (·.2)->K.lookup b=none:=λb j=>by
  cases q:K.lookup b with
  |none=>rfl
  |some o=>
   obtain⟨r,g,rfl⟩:=afs.mp j;have e:=KX _ _ q;rw[(p r g).2]at e;cases e;have l:=ajj.mp a8 _ (mem_of_lookupK q);exact absurd (show false=true from l) aaT
 have a0:a∉c.map (·.2):=λz=>by
  obtain⟨r,g,e⟩:=afs.mp z;have E:=(p r g).2;rw[e,M]at E;cases E
 have D:∀H:Hp,(∀b,H b=none\/(b=a/\K.lookup a=none/\H b=some (.Xn {cls:=.type "list",data:=.seq vs.toArray} (.lst !!ns)))\/(b∈c.map (·.2)/\H b=some (.WW #[])))->(∀q∈c,H q.2=some (.WW #[]))->My K H a ‹ns›->WK prog w H s0.heap ->
   codeAny (model prog w) callerA (.call (.ref f) ([.ref a],[])) (λr s'=>r=.ok (.ret (.bool true))/\OldK s0.heap s'.heap/\s'.os=s0.os/\AllBare s'.gens) s0:=by
  intro H hO a7 hS R;have i:∀{b:Addr}{o:Obj},s0.heap.get? b=some o->H b=none->(vD s0.heap H).get? b=some o:=λe n=>Mt e n
  have ZK:∀{b:Addr}{o:Obj},s0.heap.get? b=some o->o.cls ≠ .type "list" -> o.cls ≠ .none->H b=none:=λ{b o} e d1 d2=>by
   rcases hO b with z|⟨rfl,_,z⟩|⟨z,_⟩
   ·exact z
   ·rw[M]at e;cases e;exact absurd rfl d1
   ·obtain⟨r,g,rfl⟩:=afs.mp z;rw[(p r g).2]at e;cases e;exact absurd rfl d2
  have a1:∀{b:Addr}{o:Obj}{N:Array DictEntry}{O:Nat},s0.heap.get? b=some o->o.data=.dict N O->H b=none:=λ{b o N O} e d=>by
   rcases hO b with z|⟨rfl,_,z⟩|⟨z,_⟩
   ·exact z
   ·rw[M]at e;cases e;have d':Data.seq vs.toArray _=Data.dict N O:=d;cases d'
   ·obtain⟨r,g,rfl⟩:=afs.mp z;rw[(p r g).2]at e;cases e;have d':Data.fields _=Data.dict N O:=d;cases d'
  have y:∀{b:Addr}{m:Str->Option Value},s0.heap.Ns b m->(vD s0.heap H).Ns b m:=λ{b m} ⟨o,N,O,e,d,r⟩=>(o,N,O,i e (a1 e d),d,r);have T:K.In (vD s0.heap H):=λb o e=>i (KX b o e) (by
   rcases hO b with z|⟨rfl,z,_⟩|⟨z,_⟩
   ·exact z
   ·rw[e]at z;cases z
   ·rw[A b z]at e;cases e)
  have hM:Mod K mg (vD s0.heap H):=(T,y S,(mb,y hb,a6),let ⟨mc,t,l⟩:=X;(mc,y t,l));have hB:BMain mg (vD s0.heap H):=by
   obtain⟨bm,ob,b1,b2,b3,b4,b5⟩:=a5;exact(bm,ob,b1,b2,i b3 (ZK b3 (by rw[b4];decide) (by rw[b4];nofun)),b4,b5)
  have hC:∀q∈c,CodeHd (vD s0.heap H) q.1 q.2:=λq Q=>by
   obtain⟨o,ws,Y,tf,L,tg,a2,U,tt,G,r1,r2⟩:=(p q Q).1;exact(o,ws,Y,tf,L,tg,a2,U,tt,i G (ZK G (by rw[r1];decide) (by rw[r1];nofun)),r1,r2)
  have e0:Rz prog w K mg (vD s0.heap H) callerA [] s0 H:=(7,hM,λb o e=>QW e,aiv (Kz _ _),trivial,λb hb=>absurd (show b∈([]:List Addr)from hb) (by simp),R,.of_eq hg);refine codeAny_mono ((F _ T (y S) hB hC).run callerA [] s0 H ([.ref a],[]) [.ref a] [.ref a] _ _ hr e0 (J s0 (.ref a)) (.cons rfl .nil) (a3 H hS a7)) λr s' h=>?_;cases r with
  |error e=>exact False.elim h
  |ok fl=>
   cases fl with
   |next=>exact False.elim h
   |brk=>exact False.elim h
   |cont=>exact False.elim h
   |ret u=>
    obtain⟨v,H',os,Z,un,C,r',q⟩:=h;have q':v=.bl true:=q;subst q';obtain rfl:u=Value.bool true:=r';refine(7,(λb o e=>?_,λb o e=>un.there b o e (by simp)),os,Z);rcases hO b with z|⟨rfl,_,z⟩|⟨z1,z⟩
    ·exact .inl (un.keep b o e z (by intro z;exact absurd (show b∈([]:List Addr)from z) (by simp)) (by simp))
    ·have z2:=un.frzs b _ _ z;obtain⟨G,_⟩:=R b _ z;obtain⟨E,_⟩:=C b _ z2;rw[e]at G;cases G;exact .inl E
    ·obtain⟨B,z2⟩:=un.tbls b _ z;have G:s'.heap.get? b=some {cls:=.none,data:=.fields (#[]++B)}:=C b _ z2;obtain⟨r,g,rfl⟩:=afs.mp z1;have E:=(p r g).2;rw[e]at E;cases E;exact .inr (.inl (((p r g).1.tab (p r g).2).isCodeTable,7,#[],B,7,G))
 cases hk:K.lookup a with
 |some o=>
  have e:=KX a o hk;rw[M]at e;cases e;refine D (λb=>if b∈c.map (·.2)then some (.WW #[])else none) (λb=>?_) (λq Q=>if_pos (ain Q)) (.inr (_,vs.toArray,_,hk,7,7,7,by rw[af6,lenV];exact hl,by simpa using rv)) (λb u z=>?_)
  ·by_cases j:b∈c.map (·.2)
   ·exact .inr (.inr (j,if_pos j))
   ·exact .inl (if_neg j)
  ·by_cases j:b∈c.map (·.2)
   ·have z':=(if_pos j).symm.trans z;cases z';obtain⟨r,g,rfl⟩:=afs.mp j;exact(p r g).2
   ·have z':=(if_neg j).symm.trans z;cases z'
 |none=>
  have hA:(λb=>if b=a then some (.Xn {cls:=.type "list",data:=.seq vs.toArray} (.lst !!ns))else if b∈c.map (·.2)then some (.WW #[])else none:Hp) a=some (.Xn {cls:=.type "list",data:=.seq vs.toArray} (.lst !!ns)):=if_pos rfl
  have I:∀b∈c.map (·.2),(λb=>if b=a then some (.Xn {cls:=.type "list",data:=.seq vs.toArray} (.lst !!ns))else if b∈c.map (·.2)then some (.WW #[])else none:Hp) b=some (.WW #[]):=λb j=>by
   have a4:b≠a:=λe=>a0 (e ▸ j);show (if b=a then _ else if b∈c.map (·.2)then _ else _)=_;rw[if_neg a4,if_pos j]
  have hN:∀b,b≠a->b∉c.map (·.2)->(λb=>if b=a then some (.Xn {cls:=.type "list",data:=.seq vs.toArray} (.lst !!ns))else if b∈c.map (·.2)then some (.WW #[])else none:Hp) b=none:=λb t l=>by
   show (if b=a then _ else if b∈c.map (·.2)then _ else _)=_;rw[if_neg t,if_neg l]
  generalize (λb=>if b=a then some (.Xn {cls:=.type "list",data:=.seq vs.toArray} (.lst !!ns))else if b∈c.map (·.2)then some (.WW #[])else none:Hp)=H at *
  refine D H (λb=>?_) (λq Q=>I _ (ain Q)) (.inl (.inr ({cls:=.type "list",data:=.seq vs.toArray},hA))) (λb u z=>?_)
  ·by_cases t:b=a
   ·rw[t];exact .inr (.inl (7,hk,hA))
   ·by_cases l:b∈c.map (·.2)
    ·exact .inr (.inr (l,I b l))
    ·exact .inl (hN b t l)
  ·by_cases t:b=a
   ·rw[t,hA]at z;cases z;rw[t];exact(M,by rw[aaa];exact hl,vs,_,rv,M)
   ·by_cases l:b∈c.map (·.2)
    ·rw[I b l]at z;cases z;obtain⟨r,g,rfl⟩:=afs.mp l;exact(p r g).2
    ·rw[hN b t l]at z;cases z
theorem O2{l:PySem.W.OpenLaw}{n k:Nat}{q:Program}{XP:(Str->Option Value)->Heap->Prop}{I:World->Heap->Prop}{d:DefRec}{K:Params->PySem.W.Frag}{x:Str}
  (P:l.most=some n)(A:n<=sizeLine)(C:d.params.defaults=[])(O:ik k callerA)
  (S:∀(w:World) (h:Heap),I w h->(K w.params).In h)
  (F:∀(w:World) (mg t:Str->Option Value) (j:ExcName->Option Value) (p:Addr) (h:Heap),(K w.params).In h->Top q (looseW q N) j mg t h->mg d.name=some (.ref p) ->
   ∃(y:FuncData) (c:List (Addr×Addr)) (r:Sp),(∀(s:Shared) (u:Value),BindsTo s y ([u],[]) [(pq x u)])/\TabsAt c h/\noTabs (K w.params)=true /\
    (∀base:Heap,(K w.params).In base->base.Ns mainGlobals mg->BMain mg base->(∀q∈c,CodeHd base q.1 q.2)->bc l.prog w (K w.params) mg base Wt k p y [x] r) /\
    ∀(H:Hp) (a:Addr) (ns:List Int),ns.length<=n->My (K w.params) H a ‹ns›->(∀q∈c,H q.2=some (.WW #[]))->r [.ref a] H (λv _=>v=.bl true) λ_ _ _=>False):
  PySem.W.WalkO q N XP I l.row.toRowW d [] (λf vs=>PySem.call f vs):=by
 refine Att.attach_call P C λw M L mg t p o pm cd a1 a vs ns G Y ho hd a0 B m i e Q=>?_;have J:=S w _ Y;obtain⟨y,c,r,R,U,E,Z,z⟩:=F w mg t _ p _ J G.T B;exact Kd J G.T.g G.T.b G.T.builtins G.T.nolimit G.T.bmain U E Q m i (agx e A) O Z R λH X D=>z H a ns e X D
def U0(st:Stmt)(c:Str)(ps xs:List Str):xF:=match st with
 |.FunctionDef n a b _ _ _ d _ _ _=>(n,c,a,b,d,ps,xs)
 |_=>("",c,ν st,[],δ st,ps,xs)
def zc:Stmt->Pos
 |.FunctionDef _ _ _ _ _ _ _ _ _ p=>p
 |_=>(0,0,0,0)
structure TV(N:List Str)(qual:Str)(scope:Scope)(T:xF)(i:Nat)(slots:List Nat)(Y6:Addr->List Addr):Prop where
 nd:N.Nodup
 hi:N[i]?=some T.name
 loc:scope.names.lookup T.name=some .local
 qn:∀(L f:Addr) (c:Value),qualnameIn (envOfC qual scope L f c) T.name T.name=T.qual
 cl:∀(L f:Addr) (c:Value),closureFor T.scope (envOfC qual scope L f c)=pure (T.xs.zip (Y6 L))
 d0:T.params.defaults=[]
 k0:T.params.kw_defaults=[]
 an:∀(L f:Addr) (c:Value),annTrees T.params none (envOfC qual scope L f c)=[]
 ndC:∀L:Addr,(Y6 L).Nodup
 len:∀L:Addr,(Y6 L).length=T.xs.length
 fv:∀(L f:Addr) (c:Value) (j:Nat) (a:Addr),(Y6 L)[j]?=some a -> ∃(x:Str) (m:Nat),(envOfC qual scope L f c).cells.lookup x=some a/\scope.names.lookup x=some .cell/\N[m]?=some x/\slots[j]?=some m/\m≠i
 db:(T.name==("__debug__" : Str))=false
 dn:(T.name==("__classdict__" : Str))=false
def Made(H:Hp)(g:Addr)(pos:Pos)(T:xF)(c:List Nat)(σ:St)(Q:VK):Prop:=
 TabAt H g pos T.qual /\ ∃f:List V,(∀j m:Nat,c[j]?=some m -> ∃v,σ[m]?=some (some v)/\f[j]?=some v)/\f.length=T.xs.length /\
  ∀(e:Addr) (h:List Addr) (d:Hp),H e=none->(∀a∈h,H a=none)->(∀b o,H b=some o->b≠g->d b=some o)->TabAt d g pos T.qual->qt d e T h f->Q (.ref e) d
section
variable{P:Program}{w:World}{st:Stmt}{c Pt:Addr}{k i:Nat}{T:xF}{slots:List Nat}{Y6:Addr->List Addr}{pos p1 p2:Pos}
theorem Np{A:Around}{s :Shared}{Q:VK}{E:XK}{σ:St}(M:TV N qual (δ st) T i slots Y6)(bm:BMain mg base)(C:CodeHd base c Pt)(I:Inv (jV Wt P w K mg base N qual (δ st) f (.ref c) A outer s H E) [] σ H0 s0)(h:Made H0 Pt pos T slots σ Q):
  wpAny (model P w) (A.deeper (envOfC qual (δ st) s.heap.objs.size f (.ref c))) (execs [.FunctionDef T.name T.params T.body [] none [] T.scope none T.name pos,.Return (some (.Name T.name p1)) p2] (envOfC qual (δ st) s.heap.objs.size f (.ref c)))
   (λt s'=>∃u,t=.ret u/\CE outer P w H s Q u s') (jV Wt P w K mg base N qual (δ st) f (.ref c) A outer s H E).xe s0:=by
 obtain⟨o,R,r,q,p⟩:=h;refine RJ (cs:=Y6 s.heap.objs.size) (Xi:=R) I bm C o M.nd M.hi M.loc (M.qn _ _ _) (M.cl _ _ _) M.d0 M.k0 (M.an _ _ _) (M.ndC _) (M.len _) q (λj a e=>?_) (λz S n l g d b=>p z _ S n l g d b) M.db M.dn;obtain⟨y,m,O,L,J,G,F⟩:=M.fv s.heap.objs.size f (.ref c) j a e;obtain⟨v,D,B⟩:=r j m G;exact(y,m,v,O,L,J,D,B,F)
theorem Xx.maker1{e:Stmt}(F:Xx K x qual st f fd)(S:aF N ps (δ st))(M:TV N qual (δ st) T i slots Y6)(bm:BMain mg base)(d:fd.code=.ref c)(C:CodeHd base c Pt)(g:∀vs H Q E,sp vs H Q E->vs.length=ps.length)
  (p:μ st=[e,.FunctionDef T.name T.params T.body [] none [] T.scope none T.name pos,.Return (some (.Name T.name p1)) p2])
  (h:∀(b:Value) (A:Around) (a:List Env) (s:Shared) (H:Hp) (vs:List V) (Q:VK) (E:XK),ik k (A.deeper (envOfC qual (δ st) s.heap.objs.size f b))->sp vs H Q E ->
   ∃t,PS (jV Wt P w K mg base N qual (δ st) f b A a s H E).ZF e t/\t {nx:=λ σ H'=>Made H' Pt pos T slots σ Q,rt:=λ_ _=>False} (start N vs) H):bc P w K mg base Wt (k+1) f fd ps sp:=by
 obtain⟨R,O,kV,G,L,W,b,U,D,rfl,n,l⟩:=F.ex;obtain rfl:b=.ref c:=d;refine Ui n l S g λA a s H vs Q E m o j I=>?_;rw[p];obtain⟨t,v,r⟩:=h _ A a s H vs Q E o j;refine wpAny_execs_cons (wpAny_mono (v [] m (start N vs) H _ (I.wish _) r) (λy J q=>?_) λ_ _ z=>False.elim z);cases y with
 |next=>
  obtain⟨σ,X,B,q⟩:=q;exact Np M bm C B.unwish q
 |ret u=>obtain⟨_,_,_,_,_,z⟩:=q;exact False.elim z
 |brk=>obtain⟨_,_,_,z⟩:=q;exact False.elim z
 |cont=>obtain⟨_,_,_,z⟩:=q;exact False.elim z
end
theorem Oq{K:PySem.W.Frag}{x:Str}{f c :Addr}{e:Value}{od g:Option Addr}{d b:Array (Option Value)}{vs:Array Value}(a:nsIn K mainGlobals x=some (!!!f))(l:K.lookup f=some (cd,od,.func fd,d))(h:fd.code=.ref c)
  (t:K.lookup c=some (e,g,.fields vs,b))(p:vs[11]?=!!!C):tabIn K x=some (pq c C):=by
 unfold tabIn;simp only[a,l,h,t,p]
end L2
namespace Tw
def Tree(ns:List Int):Prop:=2<=ns.length/\ht ns ns.length=0 /\ ∀k,0<k->k<ns.length->0<ht ns k
inductive gk(n:Nat)(S:Nat):Prop
 | mk (h:_) (_:S=2^h) (_:n<=S) (_:∀j,j<h->2^j<n)
theorem gk.uniq{n c:Nat}(a:gk n z)(b:gk n c):z=c:=by
 obtain⟨h,rfl,g,e⟩:=a;obtain⟨k,rfl,f,d⟩:=b;rcases ah7 h k with q|q|q
 ·have:=d h q;lia
 ·rw[q]
 ·have:=e k q;lia
theorem gk.pos{n :Nat}(a:gk n z):1<=z:=by
 obtain⟨h,rfl,_⟩:=a;exact Nat.one_le_two_pow
theorem gk.le{n :Nat}(a:gk n z)(h:n<=4096):z<=4096:=by
 obtain⟨k,rfl,c,b⟩:=a;rcases agc 12 k with q|q
 ·have:=b 12 q;lia
 ·exact agx (aiU ∅ q) ∅
def NodeOk(S st a n e:Nat):Prop:=1<=n/\S<=n*2^e/\(n+1)*2^e<=S+a/\(1<n->S<=n / 2*2^(e+1)/\(n / 2+1)*2^(e+1)<=2*S/\(n / 2*2^(e+1)<S+st\/S+a<(n / 2+1)*2^(e+1)))
def Chain(S st a:Nat):List Nat->Nat->Nat->Prop
 |[],x,y=>x=y
 |n::r,x,y=>∃e,n*2^e=x/\NodeOk S st a n e/\Chain S st a r ((n+1)*2^e) y
theorem Chain.append{S st a:Nat}:∀{l m:List Nat}{x y z:Nat},Chain S st a l x y->Chain S st a m y z->Chain S st a (l++m) x z
 |[],m,x,y,z,h,k=>by
  cases h;exact k
 |n::r,m,x,y,z,h,k=>by
  obtain⟨e,d,c,b⟩:=h;exact(e,d,c,b.append k)
structure Cov(S st sp e low high:Nat)(ls rs:List Nat):Prop where
 lo1:S+st<=low*2^e
 lo2:low*2^e<S+st+2^e
 hi1:high*2^e<=S+sp
 hi2:S+sp<high*2^e+2^e
 le:low<=high
 left:Chain S st sp ls (S+st) (low*2^e)
 right:Chain S st sp rs.reverse (high*2^e) (S+sp)
def Vo:Nat->Nat->Nat->List Nat->List Nat->List Nat
 |0,_,_,d,c=>d++c.reverse
 |f+1,b,a,d,c=>if b<a then Vo f ((b+b%2) / 2) ((a-a%2) / 2) (if b%2=1 then d++[b]else d) (if a%2=1 then c++[a-1]else c)else d++c.reverse
def cover(S st a:Nat):List Nat:=Vo (a-st) (S+st) (S+a) [] []
end Tw
namespace PySem
open PyProof.Rows
namespace F
end F
section
variable{w:World}
end
end PySem
namespace L2
open PySem.Spec PyProof.Rows
theorem R1(a b:Nat):Builtin.Range.rangeSize a b (-1)=((a-b:Nat):Int):=by
 unfold Builtin.Range.rangeSize;rw[if_neg ∅,show (- -1:Int)=1 from rfl,ahZ];split<;>lia
theorem Fe{a b:Nat}(d:a<536870912)(c:b<536870912):Builtin.Range.small a b (-1)=true:=by
 unfold Builtin.Range.small Builtin.Range.rangeFitsLong;rw[R1];have e:(2:Int)^63=9223372036854775808:=by decide
 rw[e,if_neg ∅];refine iR (iR (iR (iR (iR (decide_eq_true ?_) (decide_eq_true ?_)) (iR (decide_eq_true ?_) (decide_eq_true ?_))) ∅) (iR (decide_eq_true ?_) (decide_eq_true ?_))) ?_
 ·lia
 ·lia
 ·lia
 ·lia
 ·lia
 ·lia
 ·rw[aiK];exact .inr (iR (decide_eq_true ⋯) (decide_eq_true ⋯))
inductive Og(R:It->Hp->Prop)(vs:List V)(H1:Hp):Prop
 | mk (a b:Nat) (_:vs=[.int (a:Int),.int (b:Int),.int (-1)]) (_:a<536870912) (_:b<536870912) (_:R (Zm a (-1) (a-b)) H1)
def SN(b:TA):TI:=λ a H R=>b a H (Og R)
theorem Gi{a b c:Expr}{p pos:Pos}(F:Gl X "range")(E:X.mg "range" = none)(J:PA X [a,b,c] t)(D:starEach [a,b,c] X.env=[(pq false (eval a X.env)),(pq false (eval b X.env)),(pq false (eval c X.env))]:=by rfl)
  (j:starEach [b,c] X.env=[(pq false (eval b X.env)),(pq false (eval c X.env))]:=by rfl):PI X tg (.Call (.Name "range" p) [a,b,c] [] pos) (SN t):=by
 intro u s n H R I h;refine Call_ (fX I F E boot_range (PyProof.Rows.callWith_type1 (Wo (J pos u s n H _ I h) λO g ⟨N,v,M,w,A⟩=>?_) (by rw[D,j]) (by rw[j];rfl)));obtain⟨x,y,e,C,B,q⟩:=A;subst e;cases w with
 |cons r i=>
  cases i with
  |cons z i=>
   cases i with
   |cons m i=>
    cases i;obtain⟨d,rfl⟩:=r;obtain⟨k,rfl⟩:=z;obtain⟨f,rfl⟩:=m;refine call_range_3 ∅ ?_ (.inl (PyProof.noPylong_small ∅));refine wpAny_pyIter_range (IsRange.new ..) (Fe C B) ?_
    have l:Inv X u n v {g with heap:=g.heap.push {cls:=.type "range",data:=.fields #[.int x d,.int y k,.int (-1) f]},toks:=g.toks}:=M.kept λb o e=>Heap.get?_push_of_some _ e
    refine((g.heap.push {cls:=.type "range",data:=.fields #[.int x d,.int y k,.int (-1) f]}).objs.size,[(g.heap.push {cls:=.type "range",data:=.fields #[.int x d,.int y k,.int (-1) f]}).objs.size],1,v,7,
     l.kept (t':=g.toks) λb o e=>Heap.get?_push_of_some _ e,qX _ x (-1) (x-y),2,λb G=>?_,q)
    ·have L:(x:Int)+((0:Nat):Int)*(-1)=x:=by lia
     have K:((x-y:Nat):Int)-((0:Nat):Int)=Builtin.Range.rangeSize x y (-1):=by rw[R1];lia
     show IsRangeIter _ _ ((x:Int)+((0:Nat):Int)*(-1)) (((x-y:Nat):Int)-((0:Nat):Int)) (-1);rw[L,K];exact Heap.get?_push_size _ rfl
    ·have e:b=(g.heap.push {cls:=.type "range",data:=.fields #[.int x d,.int y k,.int (-1) f]}).objs.size:=by simpa using G
     subst e;exact l.fpOk (aae _) (l.hok.fresh (aae _))
end L2
namespace Tw
def NI(x:V):Prop:=x=.non \/ ∃i,x=.int i
def yJ:V->V->V
 |.non,y=>y
 |.int a,.int b=>.int (if b<a then b else a)
 |x,_=>x
theorem yL(y:V):yJ .non y=y:=by cases y<;>rfl
theorem Lx{x y:V}(b:NI x)(a:NI y):NI (yJ x y):=by
 rcases b with rfl|⟨i,rfl⟩
 ·rw[yL];exact a
 ·rcases a with rfl|⟨j,rfl⟩
  ·exact .inr (i,7)
  ·exact .inr (_,7)
def DY(ns:List Int)(i:Nat):V:=match ns[i]? with|some c=>.int c|none=>.non
theorem vf{ns:List Int}{i:Nat}{c:Int}(h:ns[i]?=some c):DY ns i=.int c:=by
 unfold DY;rw[h]
theorem Fj{ns:List Int}{i:Nat}(h:ns.length<=i):DY ns i=.non:=by
 unfold DY;rw[aaC h]
structure xQ(ns:List Int)(S k:Nat)(xs:List V):Prop where
 len:xs.length=2*S
 zero:xs[0]?=some .non
 leaf:∀i,i<S->xs[S+i]?=some (DY ns i)
 node:∀j,k<=j->1<=j->j<S -> ∃x y,xs[2*j]?=some x/\xs[2*j+1]?=some y/\xs[j]?=some (yJ x y)
 ni:∀x∈xs,NI x
theorem xQ.start{ns:List Int}(g:1<=n)(b:ns.length<=n):xQ ns n n (aap n V.non++ns.map V.int++aap (n-ns.length) V.non):=by
 refine(2,2,λi c=>?_,λj f e d=>by lia,λx a=>?_)
 ·simp only[aac,agb,aaa];lia
 ·rw[af5,af4 (by rw[agb];lia),ahz,if_pos ⋯]
 ·rw[af5,agd (by rw[agb];lia),agb,agN];by_cases h:i<ns.length
  ·rw[af4 (by rw[aaa];exact h),aak,aab h,vf (aab h)];rfl
  ·rw[agd (by rw[aaa];lia),aaa,ahz,if_pos ⋯,Fj ⋯]
 ·rcases aaG.mp a with a|a
  ·rcases aaG.mp a with a|a
   ·exact .inl (ag5 a)
   ·obtain⟨i,_,rfl⟩:=afs.mp a;exact .inr (i,7)
  ·exact .inl (ag5 a)
theorem xQ.step{ns:List Int}{k:Nat}{xs:List V}{x y:V}(h:xQ ns n (k+1) xs)(w:1<=k)(t:k<n)(l:xs[2*k]?=some x)(g:xs[2*k+1]?=some y):xQ ns n k (xs.set k (yJ x y)):=by
 have m:=h.len;have d:∀j,j≠k->(xs.set k (yJ x y))[j]?=xs[j]?:=λj o=>agE (agA o);refine(by rw[ahN];exact m,2,λi p=>?_,λj a b c=>?_,λz f=>?_)
 ·rw[d 0 ⋯];exact h.zero
 ·rw[d (n+i) ⋯];exact h.leaf i p
 ·by_cases e:j=k
  ·subst e;exists x,y,2,?_
   ·rw[d (2*j) ⋯];exact l
   ·rw[d (2*j+1) ⋯];exact g
   ·exact agG ⋯
  ·obtain⟨u,v,s,r,q⟩:=h.node j ⋯ b c;exists u,v,2,?_
   ·rw[d (2*j) ⋯];exact s
   ·rw[d (2*j+1) ⋯];exact r
   ·rw[d j e];exact q
 ·rcases aiz f with f|rfl
  ·exact h.ni z f
  ·exact Lx (h.ni x (aaw l)) (h.ni y (aaw g))
theorem R5{xs:List V}{j:Nat}{x:V}(h:xs[j]?=some x):W7 xs (j:Int)=some x:=lC h
def WD(ns:List Int)(n:Nat):List Int:=(aga (n+1)).map λk=>(ns.take (32*k)).sum
theorem cD(ns:List Int)(n:Nat):(WD ns n).length=n+1:=by simp[WD]
theorem Ip{ns:List Int}{n k:Nat}(h:k<=n):(WD ns n)[k]?=some (ns.take (32*k)).sum:=by
 have:k<n+1:=by lia
 simp[WD,this]
def jL(bs:List Int)(k:Nat):Int:=((bs.take k).map λb=>ones b 32).sum
theorem uo{bs:List Int}{k:Nat}{b:Int}(h:bs[k]?=some b):jL bs (k+1)=jL bs k+ones b 32:=by
 unfold jL;rw[af7,h];simp[ahh]
def aheads(bs:List Int)(n:Nat):List Int:=(aga (n+1)).map (jL bs)
theorem xU(bs:List Int)(n:Nat):(aheads bs n).length=n+1:=by simp[aheads]
theorem Cp(bs:List Int)(n:Nat):aheads bs (n+1)=aheads bs n++[jL bs (n+1)]:=by
 unfold aheads;rw[agl,aag];rfl
theorem Eb(bs:List Int)(n:Nat):aheads bs n=(aga n).map (jL bs)++[jL bs n]:=by
 unfold aheads;rw[agl,aag];rfl
theorem qO{ns:List Int}(h:aK ns):∀k:Nat,k<=many ns.length->jL (bw ns) k=(ns.take (32*k)).sum
 |0,_=>by simp[jL]
 |k+1,a=>by
  rw[uo (jU ⋯),qO h k ⋯,J7 h k 32 ⋯];rfl
theorem Bl{ns:List Int}(h:aK ns):aheads (bw ns) (bw ns).length=WD ns (many ns.length):=by
 rw[aX];unfold aheads WD;refine agR λk a=>?_;have:=agK.mp a;exact qO h k ⋯
def wide(n j:Nat):Nat:=min 32 (n-32*j)
def qF(ns:List Int)(j:Nat)(m:Int):Prop:=(∃k,32*j<k/\k<=32*j+32/\k<=ns.length/\m=ht ns k) /\ ∀k,32*j<k->k<=32*j+32->k<=ns.length->m<=ht ns k
theorem qF.of{ns:List Int}(h:aK ns){j:Nat}{M:Int}(f:M∈nets (dZ ns j) (wide ns.length j))(b:∀a∈nets (dZ ns j) (wide ns.length j),M<=a):qF ns j (ht ns (32*j)+M):=by
 unfold wide at *;constructor
 ·obtain⟨k,d,c,rfl⟩:=Ei.mp f;refine(32*j+k,6,6,6,2);rw[Ef h j k ⋯]
 ·intro k d c g;have:=b _ (Ei.mpr (k-32*j,6,6,7));have e:=Ef h j (k-32*j) ⋯;rw[show 32*j+(k-32*j)=k from by lia]at e;lia
theorem qF.uniq{ns:List Int}{j:Nat}{m :Int}(h:qF ns j m)(h':qF ns j g):m=g:=by
 obtain⟨⟨k,n,l,i,rfl⟩,c⟩:=h;obtain⟨⟨a,f,e,d,rfl⟩,b⟩:=h';have:=c a f e d;have:=b k n l i;lia
structure qe(ns ls:List Int):Prop where
 len:ls.length=many ns.length
 low:∀j m,ls[j]?=some m->qF ns j m
theorem qe.uniq{ns a ms:List Int}(h:qe ns a)(h':qe ns ms):a=ms:=by
 refine agn λj=>?_;by_cases f:j<many ns.length
 ·have e:j<a.length:=by have:=h.len;lia
  have d:j<ms.length:=by have:=h'.len;lia
  have c:a[j]?=some a[j]:=aab e;have b:ms[j]?=some ms[j]:=aab d;rw[c,b,(h.low _ _ c).uniq (h'.low _ _ b)]
 ·rw[aaC (by have:=h.len;lia),aaC (by have:=h'.len;lia)]
def hts(ns:List Int)(n:Nat):List Int:=(aga (n+1)).map (ht ns)
end Tw
namespace L2
open PySem.Spec PyProof.Rows
section
variable{w:World}
theorem Gy{iter:Expr}{f:List Expr}{pos:Pos}{g:Value}{env:Env}{R:Result->Shared->Prop}(J:Nat->Shared->Prop)
  (i:∀n a,J n a->wpAny (model prog w) A (pyNext cd) (λr k=>match r with
   |none=>R (.ok .next) k
   |some v=>wpAny (model prog w) A (letOwnedTupleGo (.Tuple es z p) cd v) (λ_ B=>wpAny (model prog w) A (assign (.Tuple es z p) env v) (λ_ x=>
     wpAny (model prog w) A (forIn f true λc r=>if r=true then do let d <-isTrue c env (eval c env);pure (ForInStep.yield d)else pure (ForInStep.yield r)) (λd j=>if d=true then
      wpAny (model prog w) A (eval tg env) (λy u=>wpAny (model prog w) A (call (.builtin "list.append") [g,y]) (λ_ t=>∃m,m<n/\J m t) (notedBy (model prog w) A env λe b=>R (.error e) b) u) (notedBy (model prog w) A env λe b=>R (.error e) b) j
      else ∃m,m<n/\J m j) (notedBy (model prog w) A env λe b=>R (.error e) b) x)
     (notedBy (model prog w) A env λe b=>R (.error e) b) B) (notedBy (model prog w) A env λe b=>R (.error e) b) k) (notedBy (model prog w) A env λe b=>R (.error e) b) a)
  (n:Nat)(h:J n s):codeAny (model prog w) A (.compLoop (.ListComp tg [(.Tuple es z p,iter,f,0)] scope pos) 0 cd g env) R s:=by
 refine codeAny_loop rfl J (λn a C=>wpAny_noted ?_) n h;rw[compTurn_list];refine wpAny_bind (wpAny_standAt (wpAny_bind (wpAny_mono (i n a C) (λr k o=>?_) λ_ _ q=>q)));cases r with
 |none=>exact wpAny_pure o
 |some v=>
  refine wpAny_bind (wpAny_mono o (λ_ B G=>wpAny_bind (wpAny_mono G (λ_ x F=>wpAny_bind (wpAny_mono F (λd j l=>?_) λ_ _ q=>q)) λ_ _ q=>q)) λ_ _ q=>q);cases d with
  |false=>exact wpAny_pure (7,l)
  |true=>exact wpAny_bind (wpAny_bind (wpAny_mono l (λy u E=>wpAny_bind (wpAny_mono E (λ_ t D=>wpAny_pure (wpAny_pure (7,D))) λ_ _ q=>q)) λ_ _ q=>q))
end
structure ou(X:Cx)(x z:Str)(caps:List (Str×Nat))(scope:Scope)(cl:List (Str×Addr)):Prop where
 o:bR X x caps scope cl
 hz:scope.names.lookup z=some .local
 nd:(x::z::caps.map (·.1)).Nodup
theorem Inv.comp2{x :Str}{h':Heap}{tk:Nat}{m:Str->Option Value}{C:Addr}(I:Inv X π σ H s)(F:ou X x qual r scope l)(Q:∀b∈i,gf X π H b)
    (a0:∀b∈i,b<s.heap.objs.size)(N:s.heap.objs.size<=a)(R:s.heap.objs.size<=C)(a1:a≠C)(M:∀b o,s.heap.get? b=some o->h'.get? b=some o)(hn:h'.Ns C m)(hL:h'.get? a=some {cls:=.type "list",data:=.seq #[]}):
    Inv (bh X (x::qual::r.map (·.1)) scope l C s H i) [] (none::none::eV r σ) (upd H a (.lst [])) {s with heap:=h',toks:=tk}:=by
  have J:=I.hok.fresh N;have Y:=I.hok.fresh R;have E:∀y c,(bh X (x::qual::r.map (·.1)) scope l C s H i).env.cells.lookup y=some c->X.env.cells.lookup y=some c:=λy c e=>F.o.cls y c e;have a3:∀y c,X.env.cells.lookup y=some c->c<s.heap.objs.size:=λy c e=>by
    obtain⟨v,q⟩:=I.cell y c e;exact q.lt
  have up:∀b u,H b=some u->upd H a (.lst []) b=some u:=λb u q=>by rw[aJ (aH q J)];exact q
  have ok:(bh X (x::qual::r.map (·.1)) scope l C s H i).Ok:=by
    refine(I.ok.mod,F.o.kind,I.ok.glob,I.ok.blt,R,λy qual c h1 h2=>I.ok.inj y qual c (E y c h1) (E qual c h2),λy hy=>F.o.has y hy,λy c h=>absurd (show false=true from h) aaT,I.ok.hd,I.ok.frames,.inl rfl,λb B=>?_,I.bs,agx I.ok.XM I.sz,λb o e B=>?_,λb B hz=>?_,I.stack,I.stkFree)
    · obtain⟨f0,V,U,T,S,f5⟩:=Q b B
      exact(aaA (aas (a0 b B) R),λy c e=>S y c (E y c e))
    · obtain⟨f0,V,U,T,S,f5⟩:=Q b B
      rcases T with qual|qual
      · exact I.ok.noex b o e qual
      · exact absurd (aas (aas (Heap.lt_size e) I.ok.XM) qual) (agB _)
    · obtain⟨f0,V,U,T,S,f5⟩:=Q b B
      rcases aav.mp (I.stkSub b hz)with qual|qual
      · exact V qual
      · exact U qual
  exists ok,7,I.bare,2,(m,hn,λg y v e1 W e3=>?_),λy c e=>?_,2,λy c e=>?_,λp hp=>absurd (show p∈([]:List (Addr×Obj))from hp) (by simp),?_
  · exact Un.laid M N J
  · cases g with
    |zero=>cases W
    |succ g=>
     cases g with
     |zero=>cases W
     |succ g=>
      have n:(r.map (·.1))[g]?=some y:=e1;have t:(eV r σ)[g]?=some (some v):=W;rw[aak]at n;unfold eV at t;rw[aak]at t;cases G:r[g]? with
      |none=>rw[G]at n;cases n
      |some p=>
        rw[G]at n t;obtain⟨A,j⟩:=p;have ey:A=y:=aat n;subst ey;have O:(σ[j]?).getD none=some v:=aat t;have a2:σ[j]?=some (some v):=by
          cases q:σ[j]? with
          |none=>rw[q]at O;cases O
          |some w=>rw[q]at O;exact congrArg some O
        obtain⟨c1,c2,c3⟩:=F.o.cap A j (aaw G);obtain⟨m0,a4,hl⟩:=I.loc;obtain⟨u,f,d⟩:=hl j A v c1 a2 (by rcases c2 with qual|qual;exact .inr (.inl qual);exact .inr (.inr qual));refine(u,f,.inr (c3,2));rcases d with ⟨k,_⟩|⟨k,c,G,qual⟩
        · have L:X.env.scope.names.lookup A=some .local:=k
          rcases c2 with qual|qual
          · rw[qual]at L;cases L
          · rw[qual]at L;cases L
        · obtain⟨c',K⟩:=F.o.has A c3
          have e4:=F.o.cls A c' K;rw[G]at e4;cases e4;obtain⟨o,P,hd⟩:=qual;exact(c,K,o,M _ _ P,hd)
  · obtain⟨v,o,P,hd⟩:=I.cell y c (E y c e)
    exact(v,o,M _ _ P,hd)
  · show upd H a (.lst []) C=none
    rw[aJ (agA a1)];exact Y
  · have Z:=a3 y c (E y c e)
    rw[aJ (aaA (aas Z N))];exact I.freeC y c (E y c e)
  · exact I.hok.laid M N (af3 _,[],_,.nil,hL)
  · show (none::none::eV r σ).length=(x::qual::r.map (·.1)).length
    simp[ud]
def zH(K:PySem.W.Frag)(J:It)(d:St)(k:TE)(l:Addr->Hp->Prop)(H:Hp):Prop:=
 ∀D,H D=none -> ∃W:Nat->Nat->List V->Hp->Prop,(∃m,W 0 m [] (upd H D (.lst []))) /\ ∀i m a b,W i m a b ->
  (J.stop i b/\l D b)\/(J.go i b /\ ∀v c,J.Yd i b v c -> ∃g f e,v=.ref g/\Wq K c g [f,e] /\
   k (some f::some e::d) c λy j=>j D=some (.lst a)/\a.length<sizeLine /\ ∃h,h<m/\W (i+1) h (a++[y]) (upd j D (.lst (a++[y]))))
def pO(K:PySem.W.Frag)(J:It)(e:St)(n:TT)(o:TE)(p:Addr->Hp->Prop)(H:Hp):Prop:=
 ∀D,H D=none -> ∃W:Nat->Nat->List V->Hp->Prop,(∃m,W 0 m [] (upd H D (.lst []))) /\ ∀i m a d,W i m a d ->
  (J.stop i d/\p D d)\/(J.go i d /\ ∀v h,J.Yd i d v h -> ∃j g f,v=.ref j/\Wq K h j [g,f] /\
   n (some g::some f::e) h λb l=>if b=true then
   o (some g::some f::e) l λy k=>k D=some (.lst a)/\a.length<sizeLine /\ ∃c,c<m/\W (i+1) c (a++[y]) (upd k D (.lst (a++[y])))else ∃c,c<m/\W (i+1) c a l)
theorem mV{x :Str}{tp pos:Pos}{iter:Expr}{J:It}{tn:Nat->Heap->Prop}
  {RR:Value->Addr->Result->Shared->Prop}{E:Value->Shared->Prop}(I:Inv X π σ H s)(hc:X.calm=true)(R:ou X x qual r scope l)(T:Turn X.prog X.w X.K (.Tuple [.Name x p,.Name qual apos] n tp) J i a tn)(st:tn 0 s.heap)(hf:∀b∈i,gf X π H b)
  (ht:∀C s1 H1 Wz,Yy (bh X (x::qual::r.map (·.1)) scope l C s1 H1 Wz) es M)(he:∀C s1 H1 Wz,PE (bh X (x::qual::r.map (·.1)) scope l C s1 H1 Wz) e ta)(rd:pO X.K J (eV r σ) M ta q H)
  (b5:∀D C s' H' m,Inv X π σ H' s'->s'.heap.Ns C m->gf X π H' C->q D H'->RR (.ref D) C (.ok .next) s'):
  wpAny (model X.prog X.w) X.A (newList []) (λa7 s3=>wpAny (model X.prog X.w) X.A (newFunctionEnv scope X.env.globals l [] X.env.qual none .none (some X.env)) (λa1 s4=>
   codeAny (model X.prog X.w) X.A (.compStart (.ListComp e [(.Tuple [.Name x p,.Name qual apos] n tp,iter,es,0)] scope pos) 0 (.ref a) a7 {a1 with scope:=relabel scope X.env}) (RR a7 a1.locals) s4) E s3) E s:=by
 have a3:∀b∈i,b<s.heap.objs.size:=λb O=>by
  obtain⟨o,f,_⟩:=T.obj _ _ st b O;exact Heap.lt_size f
 refine wpAny_newObj_type (wpAny_newFunctionEnv R.o.ρ (by intro y hy;simp at hy) (λh1 a2 Z=>?_) R.o.kind);dsimp only at a2 Z ⊢;obtain⟨D,eD⟩:∃D:Nat,D=s.heap.objs.size:=(_,7)
 obtain⟨N,X3⟩:∃g,g=s.heap.push {cls:=.type "list",dict:=none,data:=.seq ([]:List Value).toArray}:=(_,7)
 rw[<-X3]at a2 Z ⊢;rw[<-eD];have hC:N.objs.size=D+1:=by rw[X3,Heap.size_push,eD]
 have a6:s.heap.objs.size<=N.objs.size:=by rw[hC,eD];exact ahE _
 have b6:D≠N.objs.size:=by rw[hC];exact aaA (ahb _)
 have hk:∀b o,s.heap.get? b=some o->h1.get? b=some o:=λb o f=>by
  refine Z.extBut b o (aaA (aas (Heap.lt_size f) a6)) (Heap.get?_push_of_some _ ?_);rw[X3];exact Heap.get?_push_of_some _ f
 have hL:h1.get? D=some {cls:=.type "list",data:=.seq #[]}:=by
  refine Z.extBut D _ ⋯ (Heap.get?_push_of_some _ ?_);rw[X3,eD];exact Heap.get?_push_size _ rfl
 have a5:tn 0 h1:=T.keep _ _ _ st λb _ o f=>hk b o f;obtain⟨W,⟨m0,w0⟩,a8⟩:=rd D (I.hok.fresh ⋯);have a0:codeAny (model X.prog X.w) X.A (.compLoop (.ListComp e [(.Tuple [.Name x p,.Name qual apos] n tp,iter,es,0)] scope pos) 0 (.ref a) (.ref D) (compEnvC scope l N.objs.size X.env)) (RR (.ref D) N.objs.size) {s with heap:=h1,toks:=s.toks+([]:List (Str×Value)).length}:=by
  refine Gy (λB s'=>∃L ys U S H',Inv (bh X (x::qual::r.map (·.1)) scope l N.objs.size s H i) [] (U::S::eV r σ) H' s'/\tn L s'.heap/\(∀b∈i,H' b=none)/\W L B ys H') ?_ m0
   (0,[],3,3,_,I.comp2 R hf a3 ⋯ ⋯ b6 hk a2 hL,a5,λb O=>?_,w0)
  ·rintro B s3 ⟨L,ys,U,S,H3,I3,a4,Yu,w3⟩;have Yz:∀{H':Hp}{pi:List (Addr×Obj)},(∀b∈i,H' b=none)->(∀k∈pi,k.1∉i) -> ∀b∈i,gf (bh X (x::qual::r.map (·.1)) scope l N.objs.size s H i) pi H' b:=λ{H' pi} hn hp b O=>by
    obtain⟨f0,f1,f2,f3,f4,f5⟩:=hf b O;refine(hn b O,2,λqual=>?_,.inl O,λy c f=>f4 y c (R.o.cls y c f),λk b4 qual=>?_)
    ·exact aaA (aas (a3 b O) a6)
    ·rcases aav.mp (I.stkSub b qual)with G|G
     ·exact f1 G
     ·exact f2 G
    ·exact hp k (by simpa [bh]using b4) (by rw[qual];exact O)
   have clear:∀{α:Type}{t:Sem α}{Q:α->Shared->Prop}{E':Value->Shared->Prop}{s:Shared},wpAny (model X.prog X.w) X.A t Q (λ_ _=>False) s->wpAny (model X.prog X.w) X.A t Q E' s:=λh=>wpAny_mono h (λ_ _ qual=>qual) λ_ _ qual=>qual.elim;rcases a8 L B ys H3 w3 with ⟨a9,qf⟩|⟨go,b0⟩
   ·refine Wo (T.done (bh X (x::qual::r.map (·.1)) scope l N.objs.size s H i) rfl rfl rfl hc L [] s3 _ H3 _ I3 (Yz Yu (by simp)) a4 a9) λF s4 ⟨hr,I4⟩=>?_;subst hr;obtain⟨m4,ZL,_⟩:=id I4.loc;refine b5 D _ s4 H3 m4 (I.comped hf I4) ZL ?_ qf;have gC:s.heap.objs.size<=N.objs.size:=by lia
    exact I.fpOk gC I4.free
   ·refine clear (Wo (T.item (bh X (x::qual::r.map (·.1)) scope l N.objs.size s H i) rfl rfl rfl hc L [] s3 _ H3 (λ_ _=>False) I3 (Yz Yu (by simp)) a4 go) λF s4 ⟨u,hr,h4⟩=>?_);subst hr;refine clear (Wo h4 λ_ s5 ⟨v,H5,I5,r5,y5,Xo,Zi⟩=>?_);have Zj:=I5.pinned (Yz Zi (by simp)) (T.obj _ _ Xo);obtain⟨j,v1,v2,ev,b3,q6⟩:=b0 v _ y5;subst ev;have hg:PG (bh X (x::qual::r.map (·.1)) scope l N.objs.size s H i) (.Tuple [.Name x p,.Name qual apos] n tp) (Vd X.K 2 (Oh (eZ 0) (Oh (eZ 1) Vs))):=
     rY hc (dw (j9 (i:=0) R.nd rfl (ag3 (lookup_relabel_local R.o.hx)) (ah1 (lookup_relabel_local R.o.hx))) (dw (j9 (i:=1) R.nd rfl (ag3 (lookup_relabel_local R.hz)) (ah1 (lookup_relabel_local R.hz))) nY))
    refine clear (Wo (hg _ s5 (U::S::eV r σ) H5 (.ref j) u (λ b1 N=>b1=some v1::some v2::eV r σ/\N=H5) Zj r5 (j,[v1,v2],7,b3,7,v1,[v2],7,v2,[],7,7,(show _/\_ from (7,7)))) λ_ s6 ⟨c0,H6,I6,e6,e7⟩=>?_);subst e6 e7;have P:∀{H7:Hp}{s7:Shared}{U S:Option V}{zs:List V}{Y:Nat},Inv (bh X (x::qual::r.map (·.1)) scope l N.objs.size s H i) ([]++oN i s5.heap) (U::S::eV r σ) H7 s7->Y<B->W (L+1) Y zs H7 ->
      ∃m,m<B /\ ∃L ys U S H',Inv (bh X (x::qual::r.map (·.1)) scope l N.objs.size s H i) [] (U::S::eV r σ) H' s7/\tn L s7.heap/\(∀b∈i,H' b=none)/\W L m ys H':=λ{H7 s7 U S zs Y} I7 hm w7=>by
     refine(Y,hm,L+1,zs,U,S,H7,I7.ξ,T.keep _ _ _ Xo λb O o f=>(I7.pin (pq b o) (aau _ (aau _ (eE O f)))).1,λb O=>?_,w7);obtain⟨o,f,d⟩:=T.obj _ _ Xo b O;exact(I7.pin (pq b o) (aau _ (aau _ (eE O f)))).2.1
    refine clear (Wo (ht N.objs.size s H i _ s6 _ H6 _ I6 q6) λok s7 ⟨H7,I7,q7⟩=>?_);cases ok with
    |false=>
     obtain⟨Y,hm,w7⟩:=(show ∃Y,Y<B/\W (L+1) Y ys H7 from q7);exact P I7 hm w7
    |true=>
     refine clear (Wo (he N.objs.size s H i _ s7 _ H7 _ I7 q7) λxv s8 ⟨y,H8,I8,r8,b9,b2,Y,hm,w8⟩=>?_);refine clear (Wo (bZ _ s8 _ H8 (.ref D) [y] (.ref D) [xv] (λ_ H9=>H9=upd H8 D (.lst (ys++[y]))) I8 rfl (.cons r8 .nil) (D,ys,y,7,7,b9,b2,7)) λ_ s9 ⟨_,H9,I9,_,e9⟩=>?_);subst e9;exact P I9 hm w8
  ·rw[aJ (by rw[eD];exact aaA (a3 b O))];exact(hf b O).1
 exact codeAny_compStart_list a0 (T.self _ 0 _ _ _ a5 a0)
theorem Gd{x :Str}{B pos:Pos}{iter:Expr}{J:It}{F:Nat->Heap->Prop}
  {RR:Value->Addr->Result->Shared->Prop}{E:Value->Shared->Prop}(I:Inv X π σ H s)(Z:X.calm=true)(K0:ou X x qual r scope l)(T:Turn X.prog X.w X.K (.Tuple [.Name x p,.Name qual apos] n B) J i a F)(st:F 0 s.heap)(V:∀b∈i,gf X π H b)
  (Y:∀C S t Wz,PE (bh X (x::qual::r.map (·.1)) scope l C S t Wz) e ta)(U:zH X.K J (eV r σ) ta q H)
  (u:∀D C s' H' m,Inv X π σ H' s'->s'.heap.Ns C m->gf X π H' C->q D H'->RR (.ref D) C (.ok .next) s'):
  wpAny (model X.prog X.w) X.A (newList []) (λj R=>wpAny (model X.prog X.w) X.A (newFunctionEnv scope X.env.globals l [] X.env.qual none .none (some X.env)) (λg Q=>
   codeAny (model X.prog X.w) X.A (.compStart (.ListComp e [(.Tuple [.Name x p,.Name qual apos] n B,iter,[],0)] scope pos) 0 (.ref a) j {g with scope:=relabel scope X.env}) (RR j g.locals) Q) E R) E s:=
 mV I Z K0 T st V (λ_ _ _ _=>eX) Y (λD hD=>by
  obtain⟨W,M,k⟩:=U D hD;refine(W,M,λf m G t L=>?_);rcases k f m G t L with h|⟨go,o⟩
  ·exact .inl h
  ·refine .inr (go,λv H2 y=>?_);obtain⟨d,O,N,c,P,h⟩:=o v H2 y;exists d,O,N,c,P;unfold Ph
   set_option simprocs false in dsimp only
   rw[if_pos rfl];exact h) u
def Jw(K:PySem.W.Frag)(a:List (Str×Nat))(b:TE)(σ:St)(Q:VK):It->Hp->Prop:=λJ c=>zH K J (eV a σ) b (λD d=>Q (.ref D) d) c
def Uk(K:PySem.W.Frag)(b:TI)(a:List (Str×Nat))(c:TE):TE:=λ σ H Q=>b σ H (Jw K a c σ Q)
theorem Ey{i:Nat}{y x :Str}{u g pos d:Pos}{iter:Expr}{R:TI}(hN:X.N.Nodup)(L:X.N[i]?=some y)(U:X.env.scope.names.lookup y=some .local)(hc:X.calm=true)
  (B:ou X x qual r scope l)(hi:PI X (.Tuple [.Name x p,.Name qual apos] n u) iter R)
  (he:∀C S H1 Wz,PE (bh X (x::qual::r.map (·.1)) scope l C S H1 Wz) e ta)
  (G:swapsWith (.ListComp e [(.Tuple [.Name x p,.Name qual apos] n u,iter,[],0)] scope pos) (some (.Name y g)) d.line X.env=pure true:=by rfl)(Z:∀x,foldedSetIterable iter X.env x=pure x:=by intro _;rfl):
  PS X (.Assign [.Name y g] (.ListComp e [(.Tuple [.Name x p,.Name qual apos] n u,iter,[],0)] scope pos) d) (CK (Uk X.K R r ta) (eZ i)):=by
 intro π s σ H V I h;rw[exec_Assign_Name_used _ _ _ _ G];refine wpAny_bind (wpAny_standAt (wpAny_bind ?_));show wpAny _ X.A (do let _ <-comprehension (.ListComp e [(.Tuple [.Name x p,.Name qual apos] n u,iter,[],0)] scope pos) scope X.env _ (newList []) false (eval iter X.env) (some (assign (.Name y g) X.env))) _ _ s;refine wpAny_bind (wpAny_mono (wpAny_comprehension_free (use:=some (assign (.Name y g) X.env)) (Q:=λ_ j=>SP X π V .next j) rfl Z B.o.clos B.o.kind B.o.names
  (Wo (hi π s σ H _ I h) λv S h1=>Wo h1 λa0 s2 h2=>?_)) (λ_ j hq=>wpAny_pure (wpAny_pure hq)) λ_ _ c=>c)
 obtain⟨it,fp,tn,J,H2,c,I2,T,E,f2,Y⟩:=h2;subst c;refine Gd (RR:=λO C=>compPost (model X.prog X.w) X.A X.xe (some (assign (.Name y g) X.env)) (λ_ j=>SP X π V .next j) O C) I2 hc B T E f2 he Y ?_;intro D C j H' m I' hn f q;show wpAny _ X.A (assign (.Name y g) X.env (.ref D)) _ _ _;refine wpAny_assign_Name (oh (v:=.ref D) I' hN L (.inl U) rfl (λF P ch=>(m,2,λM t=>?_)) (.inr U))
 ·obtain⟨a,W,k⟩:=ch;refine hn.sameBut W λqual=>?_;rcases k with k|k
  ·exact f.2.1 (qual.trans k)
  ·exact f.2.2.2.2.1 _ a k qual.symm
 ·exact(_,H',P.turned (h':=M) (t':=F.toks) (λb o hb c=>t.extBut b o hb c) f.1 f.2.1 f.2.2.2.1 f.2.2.2.2.1 f.2.2.2.2.2,q)
theorem bR.three{y u:Str}{j k l:Nat}{c e:Addr}(s:y≠qual)(t:y≠u)(r:qual≠u)(H:X.N[j]?=some y)(G:X.N[k]?=some qual)(I:X.N[l]?=some u)
  (E:X.env.scope.names.lookup y=some .cell\/X.env.scope.names.lookup y=some .free)(D:X.env.scope.names.lookup qual=some .cell\/X.env.scope.names.lookup qual=some .free)(F:X.env.scope.names.lookup u=some .cell\/X.env.scope.names.lookup u=some .free)
  (K:X.env.cells.lookup y=some c)(J:X.env.cells.lookup qual=some a)(L:X.env.cells.lookup u=some e)(o:closureFor scope X.env=pure [(pq y c),(pq qual a),(pq u e)])
  (B:(relabel scope X.env).names.lookup y=some .cell\/(relabel scope X.env).names.lookup y=some .free)(A:(relabel scope X.env).names.lookup qual=some .cell\/(relabel scope X.env).names.lookup qual=some .free)(C:(relabel scope X.env).names.lookup u=some .cell\/(relabel scope X.env).names.lookup u=some .free)
  (b:∀v∈scope.names,v.2=.free->v.1=y\/v.1=qual\/v.1=u:=by decide)(M:∀y∈scope.names,y.2 ≠ .cell:=by decide)(n:scope.kind=.function:=by rfl)(g:∀y∈scope.names,y.2=.local->scope.names.lookup y.1=some .local:=by decide)
  (V:scope.names.lookup x=some .local:=by rfl)(R:[x,y,qual,u].Nodup:=by decide):bR X x [(pq y j),(pq qual k),(pq u l)] scope [(pq y c),(pq qual a),(pq u e)]:=by
 have O:(qual==y)=false:=by simpa using agA s
 have Q:(u==y)=false:=by simpa using agA t
 have P:(u==qual)=false:=by simpa using agA r
 have T:([(pq y c),(pq qual a),(pq u e)]:List (Str×Addr)).lookup y=some c:=by simp
 have S:([(pq y c),(pq qual a),(pq u e)]:List (Str×Addr)).lookup qual=some a:=by simp[ajQ,O]
 have U:([(pq y c),(pq qual a),(pq u e)]:List (Str×Addr)).lookup u=some e:=by simp[ajQ,Q,P]
 refine(n,M,g,V,o,λv f W=>?_,λv p=>?_,R,λv i h=>?_)
 ·have m:=PySem.mem_of_lookup W;rcases aav.mp m with q|q
  ·cases q;exact K
  rcases aav.mp q with q|q
  ·cases q;exact J
  ·cases aan.mp q;exact L
 ·have w:v=y\/v=qual\/v=u:=by
   rcases p with p|p
   all_goals
    obtain⟨Y,m,e⟩:=j5 p;rcases e with e|⟨e,_⟩
    ·subst e
     first|exact absurd rfl (M _ m) | exact b _ m rfl
    ·subst e;exact b _ m rfl
  rcases w with rfl|rfl|rfl
  ·exact(c,T)
  ·exact(a,S)
  ·exact(e,U)
 ·rcases aav.mp h with q|q
  ·cases q;exact(H,E,B)
  rcases aav.mp q with q|q
  ·cases q;exact(G,D,A)
  ·cases aan.mp q;exact(I,F,C)
end L2
namespace Tw
theorem GZ{K:PySem.W.Frag}{a:Addr}{ns:List Int}{k:L2.St}{C:Addr->Hp->Prop}(R:Nat->Int->Prop)(G:My K H a !!ns)(J:ns.length<sizeLine)
  (I:∀(i:Nat) (b:Int) (H':Hp) (Q:VK),ns[i]?=some b->aM H H'->(∀m o,R i m->aM H' o->Q (.int m) o)->ta (some (.int (i:Int))::some (.int b)::k) H' Q)
  (q:∀D H' (d:List Int),H D=none->aM H H'->H' D=some (.lst !!d)->d.length=ns.length->(∀i m,d[i]?=some m->R i m)->C D H'):zH K (Zk K a) k ta C H:=by
 intro D u;exists λi m s r=>m=ns.length-i/\i<=ns.length/\aM H r/\r D=some (.lst s) /\ ∃d:List Int,s=d.map V.int/\d.length=i /\ ∀i m,d[i]?=some m->R i m,(9,af3 _,aq u _,aa,[],7,7,λi m e=>by cases e);rintro i m s r ⟨rfl,L,l,h,d,rfl,w,B⟩;have f:=l.seq G;by_cases g:i<ns.length
 ·have A:ns[i]?=some ns[i]:=aab g;have z:‹ns›[i]?=some (.int ns[i]):=by
   rw[aak,A];rfl
  refine .inr ((1,f,z),λv o y=>?_);obtain⟨p,y,E,rfl,rfl,e⟩:=y;have e:=e _ f;rw[z]at e;cases e;have t:=aq E (.tup [.int (i:Int),.int ns[i]]);exists p,_,9,Wq.of aa;refine I i ns[i] _ _ A (l.trans t) λm o F x=>(x _ _ (t _ _ h),2,ns.length-(i+1),6,7,g,2,aa,d++[m],2,2,2)
  ·rw[aaa];lia
  ·exact aZ (l.trans (t.trans x)) u _
  ·rw[aag];rfl
  ·rw[aac,w];rfl
  ·intro j n e;rcases agc j d.length with c|c
   ·rw[af4 c]at e;exact B j n e
   ·rw[agd c]at e;have:j-d.length=0:=by
     have:=(aad.mp e).1;simp at this;lia
    rw[this]at e;cases e;have:j=i:=by lia
    subst this;exact F
 ·have e:i=ns.length:=by lia
  exact .inl ((_,f,by rw[aaa,e];exact aae _),q D r d u l h ⋯ B)
theorem rn{K:PySem.W.Frag}{a:Addr}{ns:List Int}{d:L2.St}{l:Addr->Hp->Prop}(g:Int->Int)(o:My K H a !!ns)(r:ns.length<sizeLine)
  (j:∀(z:Int) (H':Hp) (Q:Bool->Hp->Prop),Q true H'->M (some (.int z)::d) H' Q)(p:∀(z:Int) (H':Hp) (Q:VK),z∈ns->aM H H'->Q (.int (g z)) H'->ta (some (.int z)::d) H' Q)
  (q:∀D,H D=none->l D (upd H D (.lst ‹ns.map g›))):gG (YL K a) d M ta l H:=by
 intro D h;exists λi m f n=>m=ns.length-i/\i<=ns.length/\f=((ns.take i).map g).map V.int/\n=upd H D (.lst f),(9,af3 _,7,7);rintro i m f n ⟨rfl,s,rfl,rfl⟩;have c:My K (upd H D (.lst ‹(ns.take i).map g›)) a ‹ns›:=(aq h _).seq o;by_cases b:i<ns.length
 ·have k:‹ns›[i]?=some (.int ns[i]):=by
   rw[aak,aab b];rfl
  refine .inr ((1,c,k),λv t y=>?_);obtain⟨rfl,y⟩:=y;have e:=y _ c;rw[k]at e;cases e;refine j _ _ _ ?_;rw[if_pos rfl];refine p _ _ _ (age b) (aq h _) (aa,2,ns.length-(i+1),6,7,b,2,2)
  ·rw[aaa,aaa,aaq];lia
  ·rw[af7,aab b,aag,aag];rfl
  ·rw[jq]
 ·have e:i=ns.length:=by lia
  subst e;rw[agi];rw[agi]at c;exact .inl ((_,c,by rw[aaa];exact aae _),q D h)
end Tw
namespace L2
open PySem.Spec PyProof.Rows
theorem Inv.turnN{ch:List Addr}{p:Addr}{o:HO}{t':Nat}(I:Inv X π σ H s)(h:∀b∈ch,gf X π H b)
  (k:∀b u,b∉ch->s.heap.get? b=some u->h'.get? b=some u)(l:s.heap.objs.size<=p)
  (i:bN X.prog X.w (upd H p o) h' p o):Inv X π σ (upd H p o) {s with heap:=h',toks:=t'}:=by
 have y:=I.hok.fresh l;have j:∀b u,H b=some u->b∉ch:=λb u q z=>by rw[(h b z).1]at q;cases q
 have a:∀b u,H b=some u->upd H p o b=some u:=λb u q=>by rw[aJ (aH q y)];exact q
 refine I.step (g':=s.gens) (d':=s.drawn) (ch:=ch) (λb e=>?_) (λb u _ _ d q _=>k b u d q) (λb u _ _ d q _=>(u.slots,k b u d q))
  (λb u _ q n=>by rw[aJ (aaA (aas (Heap.lt_size q) l))];exact n) (λb u d q=>(u,k b u d q))
  (λb t q=>a _ _ q) (λb g u q=>a _ _ q) (λb E q=>(#[],by rw[a _ _ q];simp)) (λm A=>?_) (λb u q=>?_) I.bare
 ·have f:=h b e;exact(f.2.2.2.1,f.2.1,f.2.2.2.2.1,f.2.2.2.2.2)
 ·obtain⟨g,C,D,x,r⟩:=A;exact(g,C,D,k _ g (λz=>(h _ z).2.1 rfl) x,r)
 ·by_cases e:b=p
  ·subst e;rw[aa]at q;cases q;exact i
  ·rw[aJ e]at q;refine(I.hok b u q).stay (λc v B r=>k c v ?_ r) (λc r=>a _ _ r) λc t r=>a _ _ r;rcases B with rfl|z
   ·exact j _ _ q
   ·exact j _ _ z
theorem Inv.turnedN{ch:List Addr}{t':Nat}(I:Inv X π σ H s)(e:∀b∈ch,gf X π H b)
  (k:∀b u,b∉ch->s.heap.get? b=some u->h'.get? b=some u):Inv X π σ H {s with heap:=h',toks:=t'}:=by
 have g:∀b u,H b=some u->b∉ch:=λb u q z=>by rw[(e b z).1]at q;cases q
 refine I.step (g':=s.gens) (d':=s.drawn) (ch:=ch) (λb l=>?_) (λb u _ _ a q _=>k b u a q) (λb u _ _ a q _=>(u.slots,k b u a q))
  (λ_ _ _ _ n=>n) (λb u a q=>(u,k b u a q))
  (λ_ _ q=>q) (λ_ _ _ q=>q) (λb w q=>(#[],by rw[q];simp)) (λm i=>?_) (λb u q=>?_) I.bare
 ·have d:=e b l;exact(d.2.2.2.1,d.2.1,d.2.2.2.2.1,d.2.2.2.2.2)
 ·obtain⟨f,o,p,h,r⟩:=i;exact(f,o,p,k _ f (λz=>(e _ z).2.1 rfl) h,r)
 ·refine(I.hok b u q).stay (λc v j r=>k c v ?_ r) (λc r=>r) λc t r=>r;rcases j with rfl|z
  ·exact g _ _ q
  ·exact g _ _ z
def Y7(K:PySem.W.Frag)(a b:Addr):It:=
  (λi H=>∃d c x y,My K H a d/\My K H b c/\d[i]?=some x/\c[i]?=some y,
   λi H v e=>∃p x y,H p=none/\v=.ref p/\e=upd H p (.tup [x,y])/\(∀d,My K H a d->d[i]?=some x) /\ ∀c,My K H b c->c[i]?=some y,
   λi H=>∃d c,My K H a d/\My K H b c/\(d.length<=i\/c.length<=i))
structure Gv(z TI TO i1 i2:Addr):Prop where
 TIz:TI≠z
 TOz:TO≠z
 i1z:i1≠z
 i2z:i2≠z
 TITO:TI≠TO
 TIi1:TI≠i1
 TIi2:TI≠i2
 TOi1:TO≠i1
 TOi2:TO≠i2
 i12:i1≠i2
def R8(a b z TI TO d c:Addr)(i:Nat)(h:Heap):Prop:=IsZip h z TI TO .none/\IsPair h TI (.ref d) (.ref c)/\(∃x y,IsPair h TO x y)/\h.IsListIter d a i/\h.IsListIter c b i
theorem nT{a b:Addr}{o u:Obj}(d:base.get? a=some o)(c:base.get? b=some u)(e:o.cls≠u.cls):a≠b:=λz=>by
 subst z;rw[d]at c;cases c;exact e rfl
theorem Fb{a b k:Addr}{i:Nat}{xs ys:Array Value}(D:Gv f C S dx k)(st:R8 a b f C S dx k i base)(r:base.IsList a xs)(q:base.IsList b ys):ZipApart f C S dx k a b:=by
 obtain⟨l,s,⟨x,y,c⟩,⟨w,n,p,_⟩,⟨v,m,o,_⟩⟩:=st;obtain⟨u,e,j,_⟩:=r;obtain⟨t,d,g,_⟩:=q;exact(D.TIz,D.TOz,D.i1z,D.i2z,D.TITO,D.TIi1,D.TIi2,D.TOi1,D.TOi2,D.i12,
  nT e l (by rw[j];show Value.type "list" ≠ Value.type "zip";decide),nT e c (by rw[j];show Value.type "list" ≠ Value.type "tuple";decide),nT e n (by rw[j,p];decide),nT e m (by rw[j,o];decide),
  nT d l (by rw[g];show Value.type "list" ≠ Value.type "zip";decide),nT d c (by rw[g];show Value.type "list" ≠ Value.type "tuple";decide),nT d n (by rw[g,p];decide),nT d m (by rw[g,o];decide))
theorem Ml{w:World}{K:PySem.W.Frag}(a b z TI TO C B:Addr)(D:Gv z TI TO C B):
  Turn prog w K (.Tuple es n p) (Y7 K a b) [z,TI,TO,C,B] z (R8 a b z TI TO C B) where
 mem:=by simp
 obj:=λi h l c V=>by
  obtain⟨m,d,⟨x,y,f⟩,⟨o1,e1,c1,d1⟩,⟨o2,e2,c2,d2⟩⟩:=l;have J:c=z\/c=TI\/c=TO\/c=C\/c=B:=by simpa using V
  rcases J with rfl|rfl|rfl|rfl|rfl
  ·exact(_,m,λv q=>by cases q)
  ·exact(_,d,λv q=>by cases q)
  ·exact(_,f,λv q=>by cases q)
  ·exact(_,e1,λv q=>by rw[d1]at q;cases q)
  ·exact(_,e2,λv q=>by rw[d2]at q;cases q)
 keep:=λi h h' l k=>by
  obtain⟨m,d,⟨x,y,f⟩,h1,N⟩:=l;exact(k z (by simp) _ m,k TI (by simp) _ d,(x,y,k TO (by simp) _ f),h1.at λo q=>k C (by simp) o q,N.at λo q=>k B (by simp) o q)
 item:=by
  intro X hP Y hK V i π s σ H E I U l hg;subst hP Y hK;obtain⟨xs,ys,x,y,A,u,M,hy⟩:=hg;obtain⟨b0,G,Q,b2⟩:=I.list A;obtain⟨a9,F,O,b1⟩:=I.list u;obtain⟨S,b4,a7⟩:=G.get M;obtain⟨R,b3,a0⟩:=F.get hy;have D7:=Fb D l Q.isList O.isList;obtain⟨m,d,⟨v1,v2,f⟩,t,r⟩:=id l;refine wpAny_pyNext_zip_item D7 m d f t r Q.isList O.isList (x:=S) (by simpa using b4) (y:=R) (by simpa using b3) λh1 a1 a2 a3 a4 a5 a6 T=>?_;refine(9,wpAny_letOwnedTupleGo_zip a1 λN b5 j=>?_);have L:∀{c o},s.heap.get? c=some o->s.heap.objs.size≠c:=λe=>ait (Heap.lt_size e)
  have g2:N.get? s.heap.objs.size=some {cls:=.type "tuple",data:=.seq #[S,R]}:=(j.2 _ (L m)).trans a5
  have kk:∀b o,b∉[z,TI,TO,C,B]->s.heap.get? b=some o->N.get? b=some o:=λb o g q=>
   (j.2 b (λe=>g (by simp[e]))).trans (T b o (λe=>g (by simp[e])) (λe=>g (by simp[e])) (λe=>g (by simp[e])) (λe=>g (by simp[e])) q)
  have a8:bN X.prog X.w (upd H s.heap.objs.size (.tup [x,y])) N s.heap.objs.size (.tup [x,y]):=
   (sl2,[S,R],.cons a7 (.cons a0 .nil),_,g2,7,9)
  have I2:=I.turnN (h':=N) (t':=s.toks) U kk (aae _) a8;have hn:H s.heap.objs.size=none:=I.hok.fresh (aae _);refine(.ref s.heap.objs.size,_,I2,7,(_,x,y,hn,7,7,λzs Z=>by rw[I.list_inj Z A];exact M,λzs Z=>by rw[I.list_inj Z u];exact hy),
   (b5,(j.2 _ D.TIz).trans (T _ _ D.TIz D.TITO D.TIi1 D.TIi2 d),(S,R,(j.2 _ D.TOz).trans a2),a3.extBut j.extBut D.i1z,a4.extBut j.extBut D.i2z),λb g=>?_)
  have b6:b≠s.heap.objs.size:=by
   obtain⟨o1,e1,_⟩:=t;obtain⟨o2,e2,_⟩:=r;have J:b=z\/b=TI\/b=TO\/b=C\/b=B:=by simpa using g
   rcases J with rfl|rfl|rfl|rfl|rfl
   ·exact(L m).symm
   ·exact(L d).symm
   ·exact(L f).symm
   ·exact(L e1).symm
   ·exact(L e2).symm
  rw[aJ b6];exact(U b g).1
 done:=by
  intro X hP Y hK V i π s σ H E I U l hg;subst hP Y hK;obtain⟨xs,ys,A,u,M⟩:=hg;obtain⟨b0,G,Q,b2⟩:=I.list A;obtain⟨a9,F,O,b1⟩:=I.list u;have D7:=Fb D l Q.isList O.isList;obtain⟨m,d,⟨v1,v2,f⟩,t,r⟩:=id l;have l1:=G.length;have l2:=F.length;refine wpAny_pyNext_zip_end (I.ok.hd V) D7 m d f t r Q.isList O.isList ?_ λh' T=>(7,I.turnedN (t':=s.toks) U λb o g q=>T b o (λe=>g (by simp[e])) (λe=>g (by simp[e])) (λe=>g (by simp[e])) (λe=>g (by simp[e])) q);rcases M with M|M
  ·exact .inl (by simp;lia)
  ·exact .inr (by simp;lia)
 self:=λ_ _ _ _ _ l h=>wpAny_pyIter_zip l.1 h
inductive Uj(K:PySem.W.Frag)(R:It->Hp->Prop)(vs:List V)(H1:Hp):Prop
 | mk (a b xs ys:_) (_:vs=[.ref a,.ref b]) (_:My K H1 a xs) (_:My K H1 b ys) (_:R (Y7 K a b) H1)
def V6(K:PySem.W.Frag)(b:TA):TI:=λ a H R=>b a H (Uj K R)
theorem sS{a b:Expr}{p pos:Pos}(T:Gl X "zip")(Q:X.mg "zip" = none)(O:bootBuiltins "zip" = some (.type "zip"))(V:PA X [a,b] t)
  (P:starEach [a,b] X.env=[(pq false (eval a X.env)),(pq false (eval b X.env))]:=by rfl)(l:starEach [b] X.env=[(pq false (eval b X.env))]:=by rfl):
  PI X (.Tuple es n apos) (.Call (.Name "zip" p) [a,b] [] pos) (V6 X.K t):=by
 intro A s z H R I h;refine Call_ (fX I T Q O (PyProof.Rows.callWith_type1 (Wo (V pos A s z H _ I h) λus f ⟨vs,F,g,G,L⟩=>?_) (by rw[P,l]) (by rw[l];rfl)));obtain⟨C,B,xs,ys,e,v,u,q⟩:=L;subst e;cases G with
 |cons r o=>
  cases o with
  |cons J o=>
   cases o;cases r;cases J;obtain⟨a2,a0,N,a4⟩:=g.list v;obtain⟨a1,Z,M,a3⟩:=g.list u;refine call_zip_2 N.isList M.isList λW E y x hi1 hi2 a5 S=>?_;refine wpAny_pyIter_zip E ?_;have Y:Inv X A z F {f with heap:=W}:=g.kept (t':=f.toks) S;have D:Gv (f.heap.objs.size+4) (f.heap.objs.size+2) (f.heap.objs.size+3) f.heap.objs.size (f.heap.objs.size+1):=by
    have k:∀d i j:Nat,i≠j->d+i≠d+j:=λd i j h=>by lia
    exact(k _ 2 4 ∅,k _ 3 4 ∅,k _ 0 4 ∅,k _ 1 4 ∅,k _ 2 3 ∅,k _ 2 0 ∅,k _ 2 1 ∅,k _ 3 0 ∅,k _ 3 1 ∅,k _ 0 1 ∅)
   refine(f.heap.objs.size+4,1,Y7 X.K C B,F,7,Y,Ml C B _ _ _ _ _ D,(E,y,(1,x),hi1,hi2),λc U=>?_,q);have m:f.heap.objs.size<=c:=by
    have w:c=f.heap.objs.size+4\/c=f.heap.objs.size+2\/c=f.heap.objs.size+3\/c=f.heap.objs.size\/c=f.heap.objs.size+1:=by simpa using U
    rcases w with rfl|rfl|rfl|rfl|rfl
    ·exact ahn _ _
    ·exact ahn _ _
    ·exact ahn _ _
    ·exact aae _
    ·exact ahn _ _
   exact g.fpOk m (g.hok.fresh m)
theorem Ba{K:PySem.W.Frag}{a b:Addr}{xs ys:List V}{g:TG}{o:TS}{σ:St}(d:Nat->St->Hp->Prop)(C:d 0 σ H)(A:∀i σ H,i<=min xs.length ys.length->d i σ H->My K H a xs/\My K H b ys)
  (w:∀i x y σ H p,xs[i]?=some x->ys[i]?=some y->d i σ H->H p=none->g (.ref p) σ (upd H p (.tup [x,y])) λ f l=>o {Y with nx:=d (i+1),ct:=d (i+1),bk:=Y.nx} f l)(hd:∀σ H,d (min xs.length ys.length) σ H->Y.nx σ H):
  ∃W:Nat->Nat->St->Hp->Prop,(∃m,W 0 m σ H) /\ ∀i m σ H,W i m σ H ->
   ((Y7 K a b).stop i H/\Y.nx σ H)\/((Y7 K a b).go i H /\ ∃N:St->Hp->Prop,(∀h H',N h H' -> ∃q,q<m/\W (i+1) q h H') /\ ∀x H',(Y7 K a b).Yd i H x H'->g x σ H' λ f l=>o {Y with nx:=N,ct:=N,bk:=Y.nx} f l):=by
 exists λi m σ H=>m=min xs.length ys.length-i/\i<=min xs.length ys.length/\d i σ H,(min xs.length ys.length,7,af3 _,C);rintro i m σ H ⟨rfl,B,p⟩;obtain⟨k,j⟩:=A i σ H B p;by_cases n:i<min xs.length ys.length
 ·have t:i<xs.length:=by lia
  have s:i<ys.length:=by lia
  refine .inr ((xs,ys,xs[i],ys[i],k,j,aab t,aab s),d (i+1),λ h H' r=>(min xs.length ys.length-(i+1),6,7,n,r),λx H' y=>?_);obtain⟨c,x,y,z,F,E,v,u⟩:=y;subst F E;exact w i x y σ H c (v xs k) (u ys j) p z
 ·have e:i=min xs.length ys.length:=by lia
  subst e;exact .inl ((xs,ys,k,j,6),hd σ H p)
end L2
namespace Tw
def brk:List Int->Int->List Int
 |[],u=>aap u.toNat 0
 |d::r,u=>aap (u-d).toNat 0++1::brk r (d+1)
def Dp:List Int->Int->Prop
 |[],u=>0<=u
 |d::r,u=>0<=d/\d<=u/\Dp r (d+1)
theorem Dp.pos:∀{l:List Int}{u:Int},Dp l u->0<=u
 |[],_,h=>h
 |_::_,_,h=>Int.le_trans h.1 h.2.1
theorem kO:∀{l:List Int}{u:Int},Dp l u->(brk l u).length=u.toNat+2*l.length
 |[],u,_=>by simp[brk]
 |d::r,u,h=>by
  have:=kO h.2.2;have b:=h.1;have a:=h.2.1;simp only[brk,aac,agb,aao,this];lia
theorem Dw{l:List Int}{u x:Int}{t:List Int}(h:Dp l u)(e:brk l u=x::t):
  (x=0/\1<=u/\t=brk l (u-1)/\Dp l (u-1)) \/ ∃r,l=u::r/\x=1/\t=brk r (u+1)/\Dp r (u+1):=by
 cases l with
 |nil=>
  have i:0<=u:=h;rcases ajJ 0 u with z|z
  ·refine .inl ?_;have c:u.toNat=(u-1).toNat+1:=by lia
   simp only[brk]at e ⊢;rw[c,agz]at e;injection e with b a
   exact(b.symm,z,a.symm,show 0<=u-1 by lia)
  ·have:u.toNat=0:=by lia
   simp only[brk]at e;rw[this]at e;cases e
 |cons d r=>
  obtain⟨g,j,f⟩:=h;rcases ajJ d u with z|z
  ·refine .inl ?_;have c:(u-d).toNat=(u-1-d).toNat+1:=by lia
   simp only[brk]at e ⊢;rw[c,agz,agM]at e;injection e with b a
   exact(b.symm,6,a.symm,g,6,f)
  ·have:u=d:=by lia
   subst this;refine .inr (r,7,2);simp only[brk]at e;rw[aji]at e;injection e with b a
   exact(b.symm,a.symm,f)
theorem PP{l:List Int}{u:Int}(h:Dp l u)(e:brk l u=[]):l=[]/\u=0:=by
 have:=kO h;rw[e]at this;have a:=h.pos;cases l with
 |nil=>
  exists 7;have:0=u.toNat+2*0:=this;lia
 |cons d r=>
  rw[aao]at this;have:0=u.toNat+2*(r.length+1):=this;lia
def bW(ds:List Int):Prop:=ds[0]?=some 0 /\ ∀i x y,ds[i]?=some x->ds[i+1]?=some y->1<=y/\y<=x+1
theorem RW:∀(r:List Int) (a:Int),(∀(i:Nat) (x y:Int),(a::r)[i]?=some x->(a::r)[i+1]?=some y->1<=y/\y<=x+1)->0<=a->Dp r (a+1)
 |[],a,_,b=>by show 0<=a+1;lia
 |d::r,a,h,b=>by
  have f:=h 0 a d rfl rfl;exact(6,f.2,RW r d (λi x y e c=>h (i+1) x y e c) ⋯)
theorem bW.dp{ds:List Int}(h:bW ds):Dp ds 0:=by
 cases ds with
 |nil=>exact absurd h.1 (by simp)
 |cons d r=>
  have:d=0:=by
   have:=h.1;exact aat this
  subst this;exact(4,4,RW r 0 h.2 ∅)
theorem bW.one{ds:List Int}(h:bW ds){i:Nat}(b:0<i)(hd:ds[i]?=some g):1<=g:=by
 obtain⟨j,rfl⟩:∃j,i=j+1:=(i-1,6);have a:=(aad.mp hd).1;have:=h.2 j ds[j] g (aab ⋯) hd;exact this.1
theorem bW.root:bW [0]:=(7,λi x y _ a=>by simp at a)
theorem bW.snoc{ds:List Int}{a :Int}(h:bW ds)(f:ds[ds.length-1]?=some a)(k:1<=g)(j:g<=a+1):bW (ds++[g]):=by
 have l:0<ds.length:=by
  have:=(aad.mp h.1).1;exact this
 refine(by rw[af4 l];exact h.1,λi x y c b=>?_);rcases agc (i+1) ds.length with z|z
 ·rw[af4 ⋯]at c;rw[af4 z]at b;exact h.2 i x y c b
 ·have e:=(aad.mp b).1;rw[aac,agu]at e;have m:i=ds.length-1:=by lia
  rw[af4 ⋯,m,f]at c;rw[agd z,show i+1-ds.length=0 from by lia]at b;have b:g=y:=aat b;have c:a=x:=aat c;subst c b;exact(k,j)
end Tw
namespace L2
open PySem.Spec PyProof.Rows PySem.W
theorem IV:∀(xs:List V) (a:List Value),xs.length=a.length->(∀(i:Nat) (x:V) (u:Value),xs[i]?=some x->a[i]?=some u->RelV x u)->Vals xs a
 |[],[],_,_=>.nil
 |[],_::_,h,_=>by simp at h
 |_::_,[],h,_=>by simp at h
 |x::xs,u::a,h,g=>.cons (g 0 x u rfl rfl) (IV xs a (by simpa using h) λi y w c b=>g (i+1) y w c b)
inductive Qc(Q:VK)(vs:List V)(H1:Hp):Prop
 |mk (n:Nat) (_:vs=[.int (n:Int)]) (_:n<=100000) (_:∀l,H1 l=none->Q (.ref l) (upd H1 l (.lst ‹((aga n).map λi:Nat=>(i:Int))›)))
def Vb(b:TA):TE:=λ a H Q=>b a H (Qc Q)
theorem GD{a:Expr}{p pos d:Pos}(R:X.calm=true)(P:Gl X "list")(N:X.mg "list" = none)(L:bootBuiltins "list" = some (.type "list"))(v:Gl X "range")(r:X.mg "range" = none)
  (S:PA X [a] t)(M:starEach [a] X.env=[(pq false (eval a X.env))]:=by rfl)
  (A:starEach [.Call (.Name "range" apos) [a] [] d] X.env=(pq false (eval (.Call (.Name "range" apos) [a] [] d) X.env))::starEach [] X.env:=by rfl)(m:(backTo pos (starEach [] X.env)).any (·.1)=false:=by rfl):
  PE X (.Call (.Name "list" p) [.Call (.Name "range" apos) [a] [] d] [] pos) (Vb t):=by
 intro D s C H Q I h;refine wpAny_Call_Name_kw (fX I P N L ?_);refine PyProof.Rows.callWith_type1 ?_ A m;rw[A]
 show wpAny _ _ (spliced ((pq false (eval (.Call (.Name "range" apos) [a] [] d) X.env))::backTo pos (starEach [] X.env))) _ _ s
 refine Calls.spliced_cons ?_;refine Call_ (fX I v r boot_range (PyProof.Rows.callWith_type1 (Wo (S d D s C H _ I h) λus j ⟨Z,H1,B,J,K⟩=>?_) M rfl));obtain⟨n,e,hn,q⟩:=K;subst e;obtain⟨u,rfl,F⟩:=vals1 J;obtain⟨b,rfl⟩:=F;refine call_range_1 ?_;refine Calls.spliced_nil ?_;refine call_list_range (n:=n) (I.ok.hd R) (IsRange.new ..) (small_one ⋯ ⋯ ⋯ ⋯) ?_ ⋯ λh' E f Y O T g=>?_
 ·rw[rangeSize_one];split<;>lia
 obtain⟨W,U⟩:=g;have l:‹((aga n).map λi:Nat=>(i:Int))›.length=n:=by simp
 have G:Vals ‹((aga n).map λi:Nat=>(i:Int))› f.toList:=by
  refine IV _ _ (by rw[l,aaf,W]) λi x u k w=>?_;rw[agh]at w;obtain⟨b,rfl⟩:=U i u w;have y:=(aad.mp k).1;rw[l]at y;rw[aak,aak,agI y]at k;cases k;exact(b,congrArg (λz=>Value.int z b) (show (0:Int)+(i:Int)*1=(i:Int) by lia))
 refine(.ref _,_,B.laid (t':=E) (o:=.lst ‹((aga n).map λi:Nat=>(i:Int))›) (λc o e=>O c o (Heap.get?_push_of_some _ e)) ?_ (by rw[l,sizeLine_eq];lia,f.toList,Y,G,T),7,q _ (B.hok.fresh ?_))
 ·show j.heap.objs.size<=(j.heap.push _).objs.size;simp[Heap.push]
 ·show j.heap.objs.size<=(j.heap.push _).objs.size;simp[Heap.push]
inductive Tu(K:PySem.W.Frag)(R:It->Hp->Prop)(x:V)(H1:Hp):Prop
 | mk (a:_) (_:x=.ref a) (_:(((∃xs,My K H1 a xs)/\R (YL K a) H1)\/((∃xs,Wq K H1 a xs)/\R (Zh K a) H1)))
def V9(K:PySem.W.Frag)(b:TE):TI:=λ a H R=>b a H (Tu K R)
theorem Ss{l:Expr}(y:PE X l ta):PI X tg l (V9 X.K ta):=by
 intro n s m H R I h;refine Wo (y n s m H _ I h) λv c ⟨x,k,d,u,g⟩=>?_;obtain⟨a,e,g⟩:=g;subst e;cases u;rcases g with ⟨⟨r,i⟩,q⟩|⟨⟨r,i⟩,q⟩
 ·obtain⟨f,t,p,w⟩:=d.list i;refine wpAny_pyIter_list p.isList ?_;refine(c.heap.objs.size,[c.heap.objs.size],1,k,7,d.kept (t':=c.toks) λb o e=>Heap.get?_push_of_some _ e,zq a _,(_,Heap.get?_push_size _ rfl,7,7),λb j=>?_,q);have e:b=c.heap.objs.size:=by simpa using j
  subst e;exact d.fpOk (aae _) (d.hok.fresh (aae _))
 ·obtain⟨f,t,p,w⟩:=d.tuple i;refine wpAny_pyIter_tuple (show c.heap.IsTuple a f.toArray from p) ?_;refine(c.heap.objs.size,[c.heap.objs.size],1,k,7,d.kept (t':=c.toks) λb o e=>Heap.get?_push_of_some _ e,vA a _,(_,Heap.get?_push_size _ rfl,7,7),λb j=>?_,q);have e:b=c.heap.objs.size:=by simpa using j
  subst e;exact d.fpOk (aae _) (d.hok.fresh (aae _))
section
variable(P:Program)(w:World)
end
section
variable{P:Program}{w:World}{o:HO}
end
section
variable{P:Program}{w:World}{x e:Addr}{o':HO}
end
section
variable{fs fs' ex ex':List Addr}{H1 H2:Hp}{h1 h2:Heap}{x e:Addr}{o:HO}
end
section
variable{σ:List (Option V)}
end
section
variable{a:Expr}{pos:Pos}
variable{tA tB':TT}{rest:List Expr}
end
section
variable{xs ys:List V}
end
section
variable{st:Stmt}{rest:List Stmt}{t u:TS}{pos:Pos}
end
section
variable{pos:Pos}
end
section
variable{pos:Pos}
end
section
variable{a c:Expr}{tc:TE}{pos:Pos}
end
section
variable{a c:Expr}{tc:TE}{pos:Pos}
end
section
variable{w:World}{x:Addr}{mA:Str->Option Value}{name:Str}{v:Value}
end
section
variable{P:Program}{w:World}{fs fs':List (Str×V)}
end
section
variable{fs:List (Str×V)}{f:Str}{v:V}
end
section
variable{value:Expr}{f:Str}{pos pos' tpos:Pos}{tv:TE}
end
section
variable{Q:Value->Shared->Prop}{c:Value}{b:Bool}
end
section
variable{pos:Pos}
end
section
variable{s':Shared}
end
section
variable{k:Nat}{Yw:List V}{ds:List Value}{E:XK}{m:Str}{pos:Pos}
end
section
variable{k:Nat}{ks:List Str}{E:XK}{m:Str}{pos kpos:Pos}{kws:List Keyword}{tk:TA}{nm:Option Str}
variable{g:List Value->List Value->List Value}{gV:List V->List V->List V}
end
section
variable{pos:Pos}{id T:String}{r:List V->Hp->VK->Prop}
end
section
variable{κ:Type}[DecidableEq κ]
def gK(a:List (κ×V))(k:κ):Option V:=(a.find? λb=>decide (b.1=k)).map (·.2)
def putK(a:List (κ×V))(k:κ)(v:V):List (κ×V):=
 if (a.any λb=>decide (b.1=k))=true then a.map (λb=>if b.1=k then (pq b.1 v)else b)else a++[(pq k v)]
def R6(a:List (κ×V))(k:κ):List (κ×V):=a.filter λb=>decide (b.1≠k)
theorem dY{p:κ×V}{r:List (κ×V)}{k:κ}(e:p.1=k):gK (p::r) k=some p.2:=by simp[gK,ahP,e]
theorem eF{p:κ×V}{r:List (κ×V)}{k:κ}(e:¬p.1=k):gK (p::r) k=gK r k:=by simp[gK,ahP,e]
theorem gW(k:κ):∀a:List (κ×V),(a.any λb=>decide (b.1=k))=(gK a k).isSome
 |[]=>rfl
 |p::r=>by
  rw[aiG];by_cases e:p.1=k
  ·simp only[dY e,decide_eq_true e,ajK,Option.isSome_some]
  ·rw[eF e,decide_eq_false e,ajC];exact gW k r
theorem Di(k j:κ)(y:V):∀a:List (κ×V),gK (a.map λb=>if b.1=k then (pq b.1 y)else b) j=(gK a j).map λx=>if j=k then y else x
 |[]=>rfl
 |p::r=>by
  have c:=Di k j y r;rw[aax];by_cases h:p.1=k
  ·rw[if_pos h];by_cases e:p.1=j
   ·rw[dY (p:=(pq p.1 y)) e,dY e,ag1,if_pos (e.symm.trans h)]
   ·rw[eF (p:=(pq p.1 y)) e,eF e,c]
  ·rw[if_neg h];by_cases e:p.1=j
   ·rw[dY (p:=p) e,dY e,ag1,if_neg (λz=>h (e.trans z))]
   ·rw[eF (p:=p) e,eF e,c]
theorem zu(k j:κ)(y:V):∀a:List (κ×V),gK a k=none->gK (a++[(pq k y)]) j=if j=k then some y else gK a j
 |[],_=>by
  by_cases e:k=j
  ·rw[if_pos e.symm];exact dY (p:=(pq k y)) e
  ·rw[if_neg (λz=>e z.symm)];exact eF (p:=(pq k y)) e
 |p::r,b=>by
  rw[agM];have c:¬p.1=k:=λz=>by rw[dY z]at b;cases b
  rw[eF c]at b;have d:=zu k j y r b;by_cases e:p.1=j
  ·rw[dY e,dY e,if_neg (λz=>c (e.trans z))]
  ·rw[eF e,eF e,d]
theorem Cg(b:List (κ×V))(k j:κ)(y:V):gK (putK b k y) j=if j=k then some y else gK b j:=by
 unfold putK;by_cases a:(b.any λc=>decide (c.1=k))=true
 ·rw[if_pos a,Di];rw[gW]at a;by_cases e:j=k
  ·obtain⟨x,d⟩:=aiC.mp a;rw[if_pos e,e,d,ag1,if_pos rfl]
  ·rw[if_neg e];cases gK b j with
   |none=>rfl
   |some x=>rw[ag1,if_neg e]
 ·rw[if_neg a];refine zu k j y b ?_;rw[gW]at a;cases q:gK b k with
  |none=>rfl
  |some x=>rw[q]at a;exact(a rfl).elim
theorem tX(a:List (κ×V))(k:κ)(v:V):(putK a k v).length<=a.length+1:=by
 unfold putK;split
 ·rw[aaa];lia
 ·rw[aac,aao,aiL];lia
theorem Ej{a:List (κ×V)}{k:κ}(v:V)(h:gK a k=none):putK a k v=a++[(pq k v)]:=by
 unfold putK;rw[gW,h];exact if_neg ∅
theorem vq.isSome_eq{o:Option V}{u:Option Value}(r:vq o u):o.isSome=u.isSome:=by
 cases o with
 |none=>cases u with
  |none=>rfl
  |some _=>exact(show False from r).elim
 |some _=>cases u with
  |none=>exact(show False from r).elim
  |some _=>rfl
theorem KV.val{a:List (κ×V)}{vs:List (κ×Value)}(r:KV a vs)(k:κ):vq (gK a k) (valueAt vs k):=by
 unfold KV at r
 induction r with
 |nil=>exact True.intro
 |@cons p q j c h t g=>
  obtain⟨f,i⟩:=h;by_cases e:p.1=k
  ·have d:q.1=k:=f.symm.trans e;have b:valueAt (q::c) k=some q.2:=by simp[valueAt,ahP,d]
   rw[dY e,b];exact i
  ·have d:¬q.1=k:=λz=>e (f.trans z);have b:valueAt (q::c) k=valueAt c k:=by simp[valueAt,ahP,d]
   rw[eF e,b];exact g
theorem KV.any{a:List (κ×V)}{vs:List (κ×Value)}(r:KV a vs)(k:κ):(a.any λb=>decide (b.1=k))=vs.any λb=>decide (b.1=k):=by
 unfold KV at r
 induction r with
 |nil=>rfl
 |cons h t c=>rw[aiG,aiG,c,h.1]
theorem KV.repl{b:List (κ×V)}{vs:List (κ×Value)}(r:KV b vs)(k:κ){y:V}{u:Value}(d:RelV y u):
  KV (b.map λa=>if a.1=k then (pq a.1 y)else a) (vs.map λa=>if a.1=k then (pq a.1 u)else a):=by
 unfold KV at r ⊢
 induction r with
 |nil=>exact .nil
 |@cons p q j i h t f=>
  rw[aax,aax];refine .cons ?_ f;obtain⟨c,g⟩:=h;by_cases e:p.1=k
  ·rw[if_pos e,if_pos (c.symm.trans e)];exact(c,d)
  ·rw[if_neg e,if_neg (λz=>e (c.trans z))];exact(c,g)
theorem KV.put{a:List (κ×V)}{vs:List (κ×Value)}(r:KV a vs)(k:κ){y:V}{u:Value}(b:RelV y u):KV (putK a k y) (stored vs k u):=by
 unfold putK stored;rw[r.any k];by_cases e:(vs.any λc=>decide (c.1=k))=true
 ·rw[if_pos e,if_pos e];exact r.repl k b
 ·rw[if_neg e,if_neg e];exact Paired.snoc r (7,b)
theorem KV.drop{c:List (κ×V)}{vs:List (κ×Value)}(r:KV c vs)(k:κ):KV (R6 c k) (without vs k):=by
 unfold KV at r ⊢;unfold R6 without
 induction r with
 |nil=>exact .nil
 |@cons p q l j h t f=>
  obtain⟨d,g⟩:=h;rw[agQ,agQ];by_cases e:p.1=k
  ·have a:¬decide (p.1≠k)=true:=by simp[e]
   have b:¬decide (q.1≠k)=true:=by simp[d.symm.trans e]
   rw[if_neg a,if_neg b];exact f
  ·have i:¬q.1=k:=λz=>e (d.trans z);have a:decide (p.1≠k)=true:=by simp[e]
   have b:decide (q.1≠k)=true:=by simp[i]
   rw[if_pos a,if_pos b];exact .cons (d,g) f
theorem KV.length{a:List (κ×V)}{vs:List (κ×Value)}(r:KV a vs):a.length=vs.length:=Paired.length r
end
theorem Jg{w:World}{k:Key}{u:Value}(r:RelV (kV k) u):(cY prog w).is k u=true:=by
 cases k with
 |inl i=>obtain⟨t,e⟩:=(show ∃t,u=Value.int i t from r);subst e;exact Dg prog w i t
 |inr x=>obtain⟨t,e⟩:=(show ∃t,u=Value.str x t from r);subst e;exact Bt prog w x t
theorem za{P:Program}{w:World}:∀{a:List Key}{b:List Value},Vals (a.map kV) b->ItemsAre (cY P w) a b
 |[],_,r=>by rw[ah9]at r;cases r;exact .nil
 |k::a,_,r=>by
  rw[aax]at r;cases r with
  |cons h t=>exact .cons (Jg h) (za t)
abbrev KT(H:Hp):List (List Key×V)->List (List Key×Addr×Value)->Prop:=Paired λp q=>p.1=q.1/\H q.2.1=some (.tup (p.1.map kV))/\RelV p.2 q.2.2
theorem KT.val{xs:List (List Key×Addr×Value)}(r:KT H U xs)(k:List Key):vq (gK U k) ((atKey xs k).map (·.2)):=by
 induction r with
 |nil=>exact True.intro
 |@cons p q i a h t f=>
  obtain⟨d,_,g⟩:=h;by_cases e:p.1=k
  ·have c:q.1=k:=d.symm.trans e;have b:atKey (q::a) k=some q.2:=by simp[atKey,ahP,c]
   rw[dY e,b];exact g
  ·have c:¬q.1=k:=λz=>e (d.trans z);have b:atKey (q::a) k=atKey a k:=by simp[atKey,ahP,c]
   rw[eF e,b];exact f
theorem KT.repl{xs:List (List Key×Addr×Value)}(r:KT H U xs)(k:List Key){y:V}{u:Value}(d:RelV y u):
  KT H (U.map λb=>if b.1=k then (pq b.1 y)else b) (xs.map (putAt k u)):=by
 induction r with
 |nil=>exact .nil
 |@cons p q j i h t f=>
  rw[aax,aax];refine .cons ?_ f;obtain⟨a,c,g⟩:=h;unfold putAt;by_cases e:p.1=k
  ·rw[if_pos e,if_pos (a.symm.trans e)];exact(a,c,d)
  ·rw[if_neg e,if_neg (λz=>e (a.trans z))];exact(a,c,g)
theorem KT.put{xs:List (List Key×Addr×Value)}(r:KT H U xs)(k:List Key){b:Addr}{y:V}{u:Value}(d:H b=some (.tup (k.map kV)))(a:RelV y u):
  KT H (putK U k y) (storedH xs k b u):=by
 have e:(U.any λc=>decide (c.1=k))=(atKey xs k).isSome:=by
  rw[gW,(r.val k).isSome_eq,aja]
 unfold putK storedH;rw[e];by_cases q:(atKey xs k).isSome=true
 ·rw[if_pos q,if_pos q];exact r.repl k a
 ·rw[if_neg q,if_neg q];exact Paired.snoc r (7,d,a)
theorem KT.keeps{H':Hp}{xs:List (List Key×Addr×Value)}(r:KT H U xs)(ht:∀b ys,H b=some (.tup ys)->H' b=some (.tup ys)):KT H' U xs:=
 Paired.mapP r λ_ _ z=>(z.1,ht _ _ z.2.1,z.2.2)
section
variable{P:Program}{w:World}
theorem R9{u:HO}(b:WK P w H h)(e:Rd H a u):bN P w H h a u:=e.ok b
theorem Iz{b:List (Key×V)}(c:WK P w H h)(e:Rd H a (.dK b)):b.length<=sizeLine/\(a==sysModules)=false /\ ∃vs,KV b vs/\h.DictOf (cY P w) a vs:=
 show bN P w H h a (.dK b)from R9 c e
theorem VG{b:List (Key×V)}(c:WK P w H h)(e:H a=some (.dK b)):b.length<=sizeLine/\(a==sysModules)=false /\ ∃vs,KV b vs/\h.DictOf (cY P w) a vs:=Iz c (.inl e)
theorem zQ{b:List Key}(d:WK P w H h)(e:H a=some (.tup (b.map kV))):(tupleKind (cY P w)).is h b a:=by
 obtain⟨_,c,r,o,i,g,n,f⟩:=(show bN P w H h a (.tup (b.map kV))from d a _ e);exact(o,c.toArray,n,i,g,f,by simpa using za r)
theorem Hx(d:WK P w H h)(e:Rd H a (.dT U)):U.length<=sizeLine/\(a==sysModules)=false /\
  ∃xs,KT H U xs/\h.DictOfH (tupleKind (cY P w)) a xs:=by
 obtain⟨z,y,xs,r,o,u,v,s,n,k,j,i⟩:=(show bN P w H h a (.dT U)from R9 d e);refine(z,y,xs,r,o,u,v,s,n,k,j,λx b=>?_,i);have c:∀{l:List (List Key×V)} {m:List (List Key×Addr×Value)},KT H l m -> ∀x∈m,(tupleKind (cY P w)).is h x.1 x.2.1:=by
  intro l m q
  induction q with
  |nil=>intro x b;exact nomatch b
  |@cons p q B A f t g=>
   intro x b;rcases aav.mp b with e|b
   ·subst e;exact zQ d (by rw[<-f.1];exact f.2.1)
   ·exact g x b
 exact c r x b
theorem U7(b:WK P w H h)(e:H a=some (.dT U)):U.length<=sizeLine/\(a==sysModules)=false /\
  ∃xs,KT H U xs/\h.DictOfH (tupleKind (cY P w)) a xs:=Hx b (.inl e)
end
def Be(H:Hp)(a:Addr)(y:V)(r:Option V):Prop:=
 (∃c k,Rd H a (.dK c)/\y=kV k/\r=gK c k) \/ ∃c k b,Rd H a (.dT c)/\y=.ref b/\H b=some (.tup (k.map kV))/\r=gK c k
def Vn(H:Hp)(a:Addr)(y v:V)(H':Hp):Prop:=
 (∃c k,H a=some (.dK c)/\y=kV k/\c.length<sizeLine/\H'=upd H a (.dK (putK c k v))) \/
 ∃c k b,H a=some (.dT c)/\y=.ref b/\H b=some (.tup (k.map kV))/\c.length<sizeLine/\H'=upd H a (.dT (putK c k v))
theorem Be.k{H:Hp}{a:Addr}{b:List (Key×V)}{k:Key}(e:H a=some (.dK b)):Be H a (kV k) (gK b k):=.inl (b,k,.inl e,7,7)
section
variable{y v:V}{u r:Value}{o:Option V}
theorem Inv.big(I:Inv X π σ H s):sysModules<s.heap.objs.size:=by
 have h:mainGlobals<s.heap.objs.size:=(I.mod.glob.keeps I.bk).lt;exact aiM ∅ h
theorem KZ{Q:Value->Shared->Prop}(C:A.units+1<cLine)(I:Inv X π σ H s)(g:Be H a y (some v))(t:RelV y u)(h:∀d s',Inv X π σ H s'->RelV v d->Q d s'):
  wpAny (model X.prog X.w) A (getItem (.ref a) u) Q E s:=by
 rcases g with ⟨n,k,e,i,l⟩|⟨n,k,b,e,i,F,l⟩
 ·subst i;obtain⟨z,hd,B,c,j⟩:=Iz I.hok e;obtain⟨d,f,m⟩:=vq.some_of (v:=v) (o:=valueAt B k) (by rw[l];exact c.val k);exact wpAny_getItem_of (Jg t) j.mapOf f (h d _ (I.tok _) m)
 ·subst i;cases (show u=Value.ref b from t);obtain⟨z,hd,x,c,j⟩:=Hx I.hok e;obtain⟨d,f,m⟩:=vq.some_of (v:=v) (o:=(atKey x k).map (·.2)) (by rw[l];exact c.val k);obtain⟨p,D,q⟩:=agp.mp f;refine wpAny_getItem_heap (tupleKind_room_in1 C) (zQ I.hok F) j D ?_;rw[q];exact h d _ (I.tok _) m
theorem Wd{Q:Value->Shared->Prop}(m:A.units+1<cLine)(I:Inv X π σ H s)(g:Be H a y o)(j:RelV y u)(h:∀s',Inv X π σ H s'->Q (.bool o.isSome) s'):
  wpAny (model X.prog X.w) A (compareOp .In u (.ref a)) Q E s:=by
 rcases g with ⟨i,k,e,d,l⟩|⟨i,k,b,e,d,n,l⟩
 ·subst d;obtain⟨z,hd,t,c,f⟩:=Iz I.hok e;refine wpAny_in_of (Jg j) hd f.mapOf ?_;rw[<-(c.val k).isSome_eq,<-l];exact h _ (I.tok _)
 ·subst d;cases (show u=Value.ref b from j);obtain⟨z,hd,p,c,f⟩:=Hx I.hok e;refine wpAny_in_heap (tupleKind_room_in1 m) (zQ I.hok n) hd f ?_;have q:=(c.val k).isSome_eq;rw[aja]at q;rw[<-q,<-l];exact h _ (I.tok _)
theorem Jj{h':Heap}{t':Nat}{c:HO}(I:Inv X π σ H s)(f:Mut (H a))(g:Heap.SameBut a s.heap h')(h:∃q,h'.get? a=some q)(d:bN X.prog X.w (upd H a c) h' a c):
  Inv X π σ (upd H a c) {s with heap:=h',toks:=t'}:=
 I.write (x:=a) (e:=a) f (.inl rfl) (λb q i z=>(g.2 b i).trans z) h d
theorem Ti{w:World}{H':Hp}{h':Heap}{b:List (Key×V)}{vs:List (Key×Value)}(z:b.length<=sizeLine)(hd:(a==sysModules)=false)(c:KV b vs)(dd:h'.DictOf (cY prog w) a vs):
  bN prog w H' h' a (.dK b):=(z,hd,vs,c,dd)
theorem JS{H':Hp}{Q:Unit->Shared->Prop}(M:A.units+1<cLine)(I:Inv X π σ H s)(g:Vn H a y v H')(C:RelV y u)(D:RelV v r)(h:∀s',Inv X π σ H' s'->Q () s'):
  wpAny (model X.prog X.w) A (setItem (.ref a) u r) Q E s:=by
 rcases g with ⟨f,k,e,t,l,x⟩|⟨f,k,b,e,t,J,l,x⟩
 ·subst t x;obtain⟨z,hd,L,d,B⟩:=VG I.hok e;have m:L.length<=sizeLine:=by rw[<-d.length];exact z
  have p:(putK f k v).length<=sizeLine:=by have:=tX f k v;lia
  refine wpAny_setItem_pairs (hsz:=m) (Jg C) B λF i n=>h _ ?_;have N:∃q,F.get? a=some q:=let ⟨q,_,_,j,_⟩:=i;(q,j);exact Jj I (by rw[e];exact True.intro) n N (Ti p hd (d.put k D) i)
 ·subst t x;cases (show u=Value.ref b from C);obtain⟨z,hd,K,d,B⟩:=U7 I.hok e;have m:K.length<=sizeLine:=by rw[<-Paired.length d];exact z
  have p:(putK f k v).length<=sizeLine:=by have:=tX f k v;lia
  refine wpAny_setItem_heap (hsz:=m) (tupleKind_room_in1 M) (zQ I.hok J) B λF i n=>h _ ?_;obtain⟨q,T,U,j,S,R,P,_,O⟩:=i;refine Jj I (by rw[e];exact True.intro) n (q,j) (p,hd,_,(d.put k J D).keeps λc V G=>?_,q,T,U,j,S,R,P,O);rw[aJ (Vw G e (λz=>nomatch z))];exact G
end
section
variable{kvs:List (Key×V)}{k:Key}{u:Value}
end
def U3(i:Expr):Prop:=∀a b,subscripted i false a b=operate [a,b] (getItem a b)
theorem QQ{prog:Program}{w:World}{A:Around}{E:Value->Shared->Prop}{s:Shared}{env:Env}{pos:Pos}{T id:String}{Q:Value->Shared->Prop}
  (m:typeLookup (.type T) "__getitem__" = pure (some (.builtin id)))(l:U3 tg)
  (h:wpAny (model prog w) A (eval e env) (λo d=>wpAny (model prog w) A (eval tg env) (λi a=>a.TypeIs o T/\wpAny (model prog w) A (getItem o i) Q E a) E d) E s):
  wpAny (model prog w) A (eval (.Subscript e tg pos) env) Q E s:=by
 refine Subscript_ (wpAny_mono h (λo d j=>wpAny_mono j (λi a b=>?_) λ_ _ x=>x) λ_ _ x=>x);obtain⟨k,b⟩:=b;unfold subscriptTail;refine wpAny_bind ?_;rw[getitemInPython_of_ne k.not_modules];refine wpAny_bind (wpAny_specialOf k m ?_);have f:wpAny (model prog w) A (subscripted tg false o i) (λr c=>wpAny (model prog w) A (letTemporaryGo e o r >>= λ_=>pure r) Q E c) E a:=by
  rw[l o i];exact wpAny_operating (wpAny_mono b (λr c g=>wpAny_bind (wpAny_letTemporaryGo (wpAny_pure g))) λ_ _ x=>x)
 first
  | exact wpAny_pure (wpAny_bind f)
  | exact wpAny_bind (wpAny_pure (wpAny_bind f))
  | exact wpAny_bind f
theorem Dt{X:Cx}{σ:St}{s:Shared}{a:Addr}{y:V}{o:Option V}(I:Inv X π σ H s)(g:Be H a y o):s.TypeIs (.ref a) "dict":=by
 rcases g with ⟨d,k,e,_,_⟩|⟨d,k,b,e,_,_,_⟩
 ·obtain⟨_,_,h,_,c⟩:=Iz I.hok e;exact c.typeIs
 ·obtain⟨_,_,f,_,c⟩:=Hx I.hok e;exact c.typeIs
inductive QH(Q:VK)(x:V)(y:V)(H2:Hp):Prop
 | mk (a v:_) (_:x=.ref a) (_:Be H2 a y (some v)) (_:Q v H2)
def Mm(a:TE)(σ:St)(Q:VK):VK:=λx b=>a σ b (QH Q x)
def Vm(c b:TE):TE:=λ a H Q=>c a H (Mm b a Q)
inductive SQ(Q:VK)(y:V)(x:V)(H2:Hp):Prop
 | mk (a o:_) (_:x=.ref a) (_:Be H2 a y o) (_:Q (.bl o.isSome) H2)
def Rp(a:TE)(σ:St)(Q:VK):VK:=λy b=>a σ b (SQ Q y)
def V3(b c:TE):TE:=λ a H Q=>b a H (Rp c a Q)
inductive QX(D:Ends)(σ:St)(v:V)(x:V)(y:V)(H3:Hp):Prop
 | mk (a H4:_) (_:x=.ref a) (_:Vn H3 a y v H4) (_:D.nx σ H4)
def Oe(a:TE)(D:Ends)(σ:St)(v:V):VK:=λx b=>a σ b (QX D σ v x)
def Ma(b:TE)(a:TE)(D:Ends)(σ:St):VK:=λv c=>b σ c (Oe a D σ v)
def UW(d b c:TE):TS:=λD a H=>c a H (Ma d b D a)
section
variable{i value:Expr}{pos pos' tpos:Pos}{td ty tv:TE}
theorem Q0(n:X.A.units+1<cLine)(q:PE X o td)(r:PE X i ty)(p:U3 i):PE X (.Subscript o i pos) (Vm td ty):=by
 intro c s b H Q I h;refine QQ PySem.F.slot_dict_getitem.lookup p (Wo (q c s b H _ I h) λu f ⟨x,D,B,k,m⟩=>Wo (r c f b D _ B m) λK J ⟨y,C,d,j,a,v,t,g,l⟩=>?_);subst t;obtain rfl:u=Value.ref a:=k;exact(Dt d g,KZ n d g j λE G z w=>(v,C,z,w,l))
theorem Uo(n:X.A.units+1<cLine)(q:PE X i ty)(p:PE X o td):PC X .In i o (V3 ty td):=by
 intro c s b H Q I h;refine Wo (q c s b H _ I h) λE d ⟨y,B,w,f,l⟩=>Wo (p c d b B _ w l) λu D ⟨x,z,v,j,a,m,r,g,k⟩=>?_;subst r;obtain rfl:u=Value.ref a:=j;exact Wd n v g f λC t=>(.bl m.isSome,z,t,7,k)
theorem Aa(t:X.A.units+1<cLine)(z:PE X o td)(B:PE X i ty)(q:PE X value tv)(w:swapsWith value (some (.Subscript o i pos')) pos.line X.env=pure false):
  PS X (.Assign [.Subscript o i pos'] value pos) (UW td ty tv):=by
 intro c s b H D I h;refine wpAny_Assign_Subscript (Wo (q c s b H _ I h) λr f ⟨v,M,J,l,p⟩=>Wo (z c f b M _ J p) λu d ⟨x,L,G,k,n⟩=>Wo (B c d b L _ G n) λP O ⟨y,Q,F,j,a,K,C,g,m⟩=>?_) w;subst C;obtain rfl:u=Value.ref a:=k;exact JS t F g j l λN E=>(b,K,E,m)
end
theorem Lr{w:World}(h:Heap)(a:sysModules<h.objs.size):bN prog w H (h.push {cls:=.type "dict",data:=.dict #[]}) h.objs.size (.dK []):=
 (af3 _,beq_eq_false_iff_ne.mpr (agA (aaA a)),[],.nil,Heap.DictOf.new h)
def Um:TE:=λ_ H Q=>∀p,H p=none->Q (.ref p) (upd H p (.dK []))
section
variable{pos:Pos}
theorem vB:PE X (.Dict [] [] pos) Um:=λ c s b H Q I h=>
 wpAny_Dict_empty (.ref s.heap.objs.size,_,I.laid (a:=s.heap.objs.size) (o:=.dK []) (t':=s.toks) (λ_ _ q=>Heap.get?_push_of_some _ q) (aae _) (Lr s.heap I.big),7,h _ (I.hok.fresh (aae _)))
end
structure M1(X:Cx)(o:Expr)(m:Str)(apos:Pos)(e:Expr)(cpos:Pos):Prop where
 base:attributeBase o m X.env (eval o X.env)=eval o X.env
 few:((backTo cpos (starEach [e] X.env)).all (λx=>!x.1)&&(backToKw cpos (keywordEach [] X.env)).all (λx=>x.1.isSome)
  && decide (([e]:List Expr).length+([]:List Keyword).length+(if ([]:List Keyword).isEmpty then 0 else 1)<30))=true
 line:(apos.endLine==cpos.line)=true
 trees:backTo cpos (starEach [e] X.env)=[(pq false (eval e X.env))]
section
variable{y d:V}{u r:Value}{o:Option V}
end
section
variable{f:Expr}{cpos:Pos}{td ty tx:TE}
end
section
variable{kvs:List (Key×V)}
end
section
variable{y:V}{u:Value}
end
end L2
namespace Att
open PySem.W PySem.Calls PyProof.Rows
section
variable{w:World}{K:Frag}
end
end Att
namespace L2
open PySem.Spec PyProof.Rows
section
variable{P:Program}{w:World}
end
section
variable{κ:Type}[DecidableEq κ]
end
section
variable{st:Stmt}{rest:List Stmt}{t u:TS}
def VR(t u:TS):TS:=λD c H=>∃R:St->Hp->Prop,t {D with nx:=R} c H /\ ∀a b,R a b->u D a b
theorem Q9(i:PS X st t)(g:Xd X rest u):Xd X (st::rest) (VR t u):=by
 rintro b s c H D I ⟨R,h,e⟩;refine wpAny_execs_cons (Wo (i b s c H {D with nx:=R} I h) λf d q=>?_);cases f with
 |next=>
  obtain⟨a,k,j,q⟩:=q;exact g b d a k D j (e _ _ q)
 |ret v=>exact q
 |brk=>exact q
 |cont=>exact q
theorem bI{x:Str}{d:Stmt}{ps:List Str}{f:Addr}{j k:Nat}{E:XK}{e:Expr}{es:List Expr}{p pos:Pos}{t:TA}(D:Tw.Df X.K X.mg x d ps f fd)(F:bc X.prog X.w X.K X.mg X.base CX j f fd ps sp)(i:j<=k)(h:ik k X.A)(g:ig CX X E)(l:Gl X x)
  (o:PA X (e::es) t)(c:(x==("__debug__" : Str))=false:=by decide)(n:starEach (e::es) X.env=(pq false (eval e X.env))::starEach es X.env:=by rfl)(a:(backTo pos (starEach es X.env)).any (·.1)=false:=by rfl):
  PE X (.Call (.Name x p) (e::es) [] pos) (CJ sp [] E t):=Rb (F.mono i) h l D.m D.F.kp D.b .nil g o c n a
theorem aW{x:Str}{c:Stmt}{ps:List Str}{f:Addr}{j k:Nat}{e:Expr}{es:List Expr}{p pos:Pos}{t:TA}(D:Tw.Df X.K X.mg x c ps f fd)(F:bc X.prog X.w X.K X.mg X.base Wt j f fd ps sp)(d:ik k X.A)
  (l:PA X (e::es) t)(g:j<=k:=by decide)(h:Gl X x:=by rfl)(b:(x==("__debug__" : Str))=false:=by decide)(i:starEach (e::es) X.env=(pq false (eval e X.env))::starEach es X.env:=by rfl)(a:(backTo pos (starEach es X.env)).any (·.1)=false:=by rfl):
  PE X (.Call (.Name x p) (e::es) [] pos) (CJ sp [] E0 t):=bI D F g d R0 h l b i a
end
end L2
namespace Tw
end Tw
namespace L2
open PySem.Spec PyProof.Rows
theorem VL{w:World}{k:Key}{u:Value}(h:(cY prog w).is k u=true):RelV (kV k) u:=by
 rcases cL h with ⟨i,t,rfl,rfl⟩|⟨x,t,rfl,rfl⟩
 ·exact(t,7)
 ·exact(t,7)
theorem KV.get:∀{a:List (Key×V)} {vs:List (Key×Value)} {i:Nat}{p:Key×V},KV a vs->a[i]?=some p -> ∃q,vs[i]?=some q/\p.1=q.1
 |_,_,_,_,.nil,e=>by simp at e
 |_,_,0,_,.cons r _,e=>by simp at e;subst e;exact(9,r.1)
 |_,_,i+1,p,.cons _ t,e=>by
  obtain⟨q,c,b⟩:=KV.get (i:=i) (p:=p) t (by simpa using e);exact(q,by simpa using c,b)
end L2
namespace Tw
theorem El{ns:List Int}{k:Nat}{b:Int}(h:ns[k]?=some b):(ns.take (k+1)).sum=(ns.take k).sum+b:=by
 rw[af7,h];simp[ahh]
theorem Mi:∀{ns:List Int},aK ns->blk ns<2^ns.length
 |[],_=>by simp[blk]
 |b::r,h=>by
  have:=Mi h.tail;have:=h.head;rw[aao,ahe];simp only[blk];lia
theorem CG:∀l:List Int,blk (l.map λx=>1-x)=2^l.length-1-blk l
 |[]=>by simp[blk]
 |x::l=>by
  rw[aax,aao,ahe];simp only[blk];rw[CG l];lia
theorem Dn:∀(l:List Int) (k:Nat),k<=l.length->((l.map λx=>1-x).take k).sum=k-(l.take k).sum
 |_,0,_=>by simp
 |[],k+1,h=>by simp at h
 |x::l,k+1,h=>by
  have:=Dn l k (by simpa using h);rw[aax,ahi,ahi,ahD,ahD,this];lia
theorem turned{b:Int}(j:0<=b)(i:b<2^32):(∀k:Nat,k<32->bit (2^32-1-b) k=1-bit b k) /\ ∀k:Nat,k<=32->ones (2^32-1-b) k=k-ones b k:=by
 have c:=uf b 32;have e:=BV 32 b j i;have h:=cC b 32;have ht:aK ((bits b 32).map λx=>1-x):=λx g=>by
  obtain⟨y,f,rfl⟩:=afs.mp g;have:=c y f;lia
 have d:blk ((bits b 32).map λx=>1-x)=2^32-1-b:=by rw[CG,h,e]
 refine(λk a=>?_,λk a=>?_)
 ·rw[<-d,qu ht,aak,qw a];rfl
 ·rw[<-d,jP ht,Dn _ _ ⋯,<-jP c,e]
def nz(ns:List Int)(n:Nat):List Int:=(aga n).map λk:Nat=>32*(k:Int)-(ns.take (32*k)).sum
theorem eN:∀(l:List Int) (u:Int),aK (brk l u)
 |[],u=>λb a=>.inl (ag5 a)
 |d::r,u=>λb a=>by
  simp only[brk,aaG,aav]at a;rcases a with a|rfl|a
  ·exact .inl (ag5 a)
  ·exact .inr rfl
  ·exact eN r _ b a
theorem MK{ns:List Int}{k:Nat}{b:Int}(h:ns[k]?=some b):(ns.take (k+1)).sum=(ns.take k).sum+b:=by
 rw[af7,h];simp
theorem zM{ds:List Int}(h:bW ds):∀k:Nat,k<=(brk ds 0).length -> ∃a:Nat,a<=ds.length/\a<=k/\((brk ds 0).take k).sum=a/\(brk ds 0).drop k=brk (ds.drop a) (ht (brk ds 0) k)/\Dp (ds.drop a) (ht (brk ds 0) k)
 |0,_=>(0,af3 _,aae _,7,by rw[lw];rfl,by rw[lw];exact h.dp)
 |k+1,q=>by
  obtain⟨a,o,t,s,i,n⟩:=zM h k ⋯;have c:(brk ds 0)[k]?=some (brk ds 0)[k]:=aab ⋯;have p:(brk ds 0).drop k=(brk ds 0)[k]::(brk ds 0).drop (k+1):=agv ⋯;rw[p]at i;have b:=Bk c;have g:=MK c;rcases Dw n i.symm with ⟨z,_,d,e⟩|⟨r,m,z,d,e⟩
  ·rw[z]at b g;exists a,o,6,6,?_
   ·rw[b,d];congr 1;lia
   ·rw[b,show ht (brk ds 0) k+2*0-1=ht (brk ds 0) k-1 from by lia];exact e
  ·rw[z]at b g;have f:a<ds.length:=by
    have:=congrArg ahY m;rw[aaM,aao]at this;lia
   have l:ds.drop (a+1)=r:=by
    have:ds.drop (a+1)=(ds.drop a).drop 1:=by rw[agw]
    rw[this,m];rfl
   have j:ht (brk ds 0) k+2*1-1=ht (brk ds 0) k+1:=by lia
   exists a+1,f,6,6,?_
   ·rw[b,j,l];exact d
   ·rw[b,j,l];exact e
theorem iz{ds:List Int}(a:bW ds):(brk ds 0).length=2*ds.length:=by
 rw[kO a.dp];show 0+_=_;lia
theorem wk{ds:List Int}(e:bW ds){k:Nat}(n:k<(brk ds 0).length):((brk ds 0)[k]?=some 0/\0<ht (brk ds 0) k)\/((brk ds 0)[k]?=some 1 /\ ∃a:Nat,((brk ds 0).take k).sum=a/\a<ds.length/\ds[a]?=some (ht (brk ds 0) k)):=by
 obtain⟨a,p,o,g,c,f⟩:=zM e k ⋯;have b:(brk ds 0)[k]?=some (brk ds 0)[k]:=aab ⋯;have l:(brk ds 0).drop k=(brk ds 0)[k]::(brk ds 0).drop (k+1):=agv ⋯;rw[l]at c;rcases Dw f c.symm with ⟨z,u,h,m⟩|⟨r,d,z,h,m⟩
 ·exact .inl (by rw[b,z],6)
 ·refine .inr (by rw[b,z],a,g,2,2)
  ·have:=congrArg ahY d;rw[aaM,aao]at this;lia
  ·have:=agm (xs:=ds) (i:=a) (j:=0);rw[d]at this;exact this.symm
theorem qC{ds:List Int}(a:bW ds):Tree (brk ds 0):=by
 have i:=iz a;have n:0<ds.length:=(aad.mp a.1).1;refine(6,2,λk h e=>?_)
 ·obtain⟨c,m,l,j,d,b⟩:=zM a _ (aae _);rw[aif]at d;exact(PP b d.symm).2
 ·rcases wk a e with ⟨_,z⟩|⟨_,c,p,o,g⟩
  ·exact z
  ·obtain⟨_,_,_,_,_,b⟩:=zM a k ⋯;have f:=b.pos;rcases ag6 c with rfl|z
   ·unfold ht at f;lia
   ·have:=a.one z g;lia
theorem Rc{ds:List Int}(a:bW ds){k:Nat}(b:(brk ds 0).length<=k):((brk ds 0).take k).sum=ds.length:=by
 have h:=(qC a).2.1;have c:=iz a;unfold ht at h;rw[agi]at h;rw[aaj b];lia
theorem DX{ds:List Int}(a:bW ds):(brk ds 0).sum=ds.length:=by
 have:=Rc a (k:=(brk ds 0).length) (aae _);rw[agi]at this;exact this
theorem Mx{ds:List Int}(e:bW ds){i p:Nat}(a:(brk ds 0)[p]?=some 1)(h:((brk ds 0).take p).sum=(i:Int)):ds[i]?=some (ht (brk ds 0) p):=by
 have d:=(aad.mp a).1;rcases wk e d with ⟨z,_⟩|⟨_,b,g,f,c⟩
 ·rw[z]at a;cases a
 ·have:b=i:=by lia
  subst this;exact c
def UpN(ds:List Int)(j:Nat)(g:Int)(i:Nat):Prop:=i<=j/\ds[i]?=some g /\ ∀m x,i<m->m<=j->ds[m]?=some x->g<x
theorem UpN.trans{ds:List Int}{j i e:Nat}{g:Int}(h:UpN ds j g i)(h':UpN ds i (g-1) e):UpN ds j (g-1) e:=by
 obtain⟨n,l,f⟩:=h;obtain⟨k,d,c⟩:=h';refine(6,d,λm x b a e=>?_);rcases agc i m with z|z
 ·have:=f m x z a e;lia
 ·exact c m x b z e
def run(ds:List Int)(k:Nat)(g:Int):Nat:=((ds.drop k).takeWhile λx=>decide (g<x)).length
end Tw
namespace L2
open PySem.Spec PyProof.Rows
theorem Pb(a b:Int):Builtin.Range.rangeSize a b (-1)=((a-b).toNat:Int):=by
 unfold Builtin.Range.rangeSize;rw[if_neg ∅,show (- -1:Int)=1 from rfl,ahZ];split<;>lia
theorem Du{a b:Int}(d : -1<=a)(c : -1<=b)(g:a<536870912)(f:b<536870912):Builtin.Range.small a b (-1)=true:=by
 unfold Builtin.Range.small Builtin.Range.rangeFitsLong;rw[Pb];have e:(2:Int)^63=9223372036854775808:=by decide
 rw[e,if_neg ∅];refine iR (iR (iR (iR (iR (decide_eq_true ?_) (decide_eq_true ?_)) (iR (decide_eq_true ?_) (decide_eq_true ?_))) ∅) (iR (decide_eq_true ?_) (decide_eq_true ?_))) ?_
 ·lia
 ·lia
 ·lia
 ·lia
 ·lia
 ·lia
 ·rw[aiK];exact .inr (iR (decide_eq_true ⋯) (decide_eq_true ⋯))
inductive JZ(R:It->Hp->Prop)(vs:List V)(H1:Hp):Prop
 | mk (a b:Int) (_:vs=[.int a,.int b,.int (-1)]) (_ : -1<=a) (_ : -1<=b) (_:a<536870912) (_:b<536870912) (_:R (Zm a (-1) (a-b).toNat) H1)
def QL(b:TA):TI:=λ a H R=>b a H (JZ R)
theorem DQ{a b c:Expr}{p pos:Pos}(J:Gl X "range")(G:X.mg "range" = none)(L:PA X [a,b,c] t)(F:starEach [a,b,c] X.env=[(pq false (eval a X.env)),(pq false (eval b X.env)),(pq false (eval c X.env))]:=by rfl)
  (j:starEach [b,c] X.env=[(pq false (eval b X.env)),(pq false (eval c X.env))]:=by rfl):PI X tg (.Call (.Name "range" p) [a,b,c] [] pos) (QL t):=by
 intro u s n H R I h;refine Call_ (fX I J G boot_range (PyProof.Rows.callWith_type1 (Wo (L pos u s n H _ I h) λQ g ⟨P,v,O,w,A⟩=>?_) (by rw[F,j]) (by rw[j];rfl)));obtain⟨x,y,e,C,B,E,D,q⟩:=A;subst e;cases w with
 |cons r i=>
  cases i with
  |cons z i=>
   cases i with
   |cons m i=>
    cases i;obtain⟨d,rfl⟩:=r;obtain⟨k,rfl⟩:=z;obtain⟨f,rfl⟩:=m;refine call_range_3 ∅ ?_ (.inl (PyProof.noPylong_small ∅));refine wpAny_pyIter_range (IsRange.new ..) (Du C B E D) ?_
    have l:Inv X u n v {g with heap:=g.heap.push {cls:=.type "range",data:=.fields #[.int x d,.int y k,.int (-1) f]},toks:=g.toks}:=O.kept λb o e=>Heap.get?_push_of_some _ e
    refine((g.heap.push {cls:=.type "range",data:=.fields #[.int x d,.int y k,.int (-1) f]}).objs.size,[(g.heap.push {cls:=.type "range",data:=.fields #[.int x d,.int y k,.int (-1) f]}).objs.size],1,v,7,
     l.kept (t':=g.toks) λb o e=>Heap.get?_push_of_some _ e,qX _ x (-1) (x-y).toNat,2,λb K=>?_,q)
    ·have N:x+((0:Nat):Int)*(-1)=x:=by lia
     have M:(((x-y).toNat:Nat):Int)-((0:Nat):Int)=Builtin.Range.rangeSize x y (-1):=by rw[Pb];lia
     show IsRangeIter _ _ (x+((0:Nat):Int)*(-1)) ((((x-y).toNat:Nat):Int)-((0:Nat):Int)) (-1);rw[N,M];exact Heap.get?_push_size _ rfl
    ·have e:b=(g.heap.push {cls:=.type "range",data:=.fields #[.int x d,.int y k,.int (-1) f]}).objs.size:=by simpa using K
     subst e;exact l.fpOk (aae _) (l.hok.fresh (aae _))
end L2
namespace Tw
end Tw
namespace L2
open PySem.Spec PyProof.Rows
def Fv(K:PySem.W.Frag)(a:List (Str×Nat))(b:TT)(c:TE)(σ:St)(Q:VK):It->Hp->Prop:=λJ d=>pO K J (eV a σ) b c (λD e=>Q (.ref D) e) d
def HB(K:PySem.W.Frag)(b:TI)(a:List (Str×Nat))(c:TT)(d:TE):TE:=λ σ H Q=>b σ H (Fv K a c d σ Q)
theorem Jr{x :Str}{B pos:Pos}{iter:Expr}{y:TI}(P:X.calm=true)(g:ou X x qual r scope l)(N:PI X (.Tuple [.Name x p,.Name qual apos] n B) iter y)
  (ht:∀C f j i,Yy (bh X (x::qual::r.map (·.1)) scope l C f j i) es M)(O:∀C f j i,PE (bh X (x::qual::r.map (·.1)) scope l C f j i) e ta)(G:∀x,foldedSetIterable iter X.env x=pure x:=by intro _;rfl):
  PE X (.ListComp e [(.Tuple [.Name x p,.Name qual apos] n B,iter,es,0)] scope pos) (HB X.K y r M ta):=by
 intro π s σ H Q I h;rw[eval_ListComp];refine wpAny_comprehension_free (use:=none) rfl G g.o.clos g.o.kind g.o.names (Wo (N π s σ H _ I h) λv f U=>Wo U λa0 s2 S=>?_);obtain⟨it,fp,tn,J,H2,a,W,T,k,V,F⟩:=S;subst a;refine mV (RR:=λu C=>compPost (model X.prog X.w) X.A X.xe none (EP X π σ Q) u C) W P g T k V ht O F ?_;intro D C E Z m Y L c q;exact(m,L,λt d=>(.ref D,Z,Y.turned (h':=t) (t':=E.toks) (λb o R a=>d.extBut b o R a) c.1 c.2.1 c.2.2.2.1 c.2.2.2.2.1 c.2.2.2.2.2,7,q))
theorem pQ{i:Nat}{y x :Str}{u g pos d:Pos}{iter:Expr}{W:TI}(hN:X.N.Nodup)(R:X.N[i]?=some y)(Y:X.env.scope.names.lookup y=some .local)(hc:X.calm=true)
  (E:ou X x qual r scope l)(hi:PI X (.Tuple [.Name x p,.Name qual apos] n u) iter W)
  (ht:∀C B G F,Yy (bh X (x::qual::r.map (·.1)) scope l C B G F) es M)(he:∀C B G F,PE (bh X (x::qual::r.map (·.1)) scope l C B G F) e ta)
  (P:swapsWith (.ListComp e [(.Tuple [.Name x p,.Name qual apos] n u,iter,es,0)] scope pos) (some (.Name y g)) d.line X.env=pure true:=by rfl)(hs:∀x,foldedSetIterable iter X.env x=pure x:=by intro _;rfl):
  PS X (.Assign [.Name y g] (.ListComp e [(.Tuple [.Name x p,.Name qual apos] n u,iter,es,0)] scope pos) d) (CK (HB X.K W r M ta) (eZ i)):=by
 intro π s σ H Z I h;rw[exec_Assign_Name_used _ _ _ _ P];refine wpAny_bind (wpAny_standAt (wpAny_bind ?_));show wpAny _ X.A (do let _ <-comprehension (.ListComp e [(.Tuple [.Name x p,.Name qual apos] n u,iter,es,0)] scope pos) scope X.env _ (newList []) false (eval iter X.env) (some (assign (.Name y g) X.env))) _ _ s;refine wpAny_bind (wpAny_mono (wpAny_comprehension_free (use:=some (assign (.Name y g) X.env)) (Q:=λ_ j=>SP X π Z .next j) rfl hs E.o.clos E.o.kind E.o.names
  (Wo (hi π s σ H _ I h) λv B h1=>Wo h1 λa0 s2 h2=>?_)) (λ_ j hq=>wpAny_pure (wpAny_pure hq)) λ_ _ c=>c)
 obtain⟨it,fp,tn,J,H2,c,I2,T,L,f2,rd⟩:=h2;subst c;refine mV (RR:=λU C=>compPost (model X.prog X.w) X.A X.xe (some (assign (.Name y g) X.env)) (λ_ j=>SP X π Z .next j) U C) I2 hc E T L f2 ht he rd ?_;intro D C j H' m I' hn f q;show wpAny _ X.A (assign (.Name y g) X.env (.ref D)) _ _ _;refine wpAny_assign_Name (oh (v:=.ref D) I' hN R (.inl Y) rfl (λO V ch=>(m,2,λS t=>?_)) (.inr Y))
 ·obtain⟨a,sb,k⟩:=ch;refine hn.sameBut sb λqual=>?_;rcases k with k|k
  ·exact f.2.1 (qual.trans k)
  ·exact f.2.2.2.2.1 _ a k qual.symm
 ·exact(_,H',V.turned (h':=S) (t':=O.toks) (λb o hb c=>t.extBut b o hb c) f.1 f.2.1 f.2.2.2.1 f.2.2.2.2.1 f.2.2.2.2.2,q)
end L2
namespace Tw
theorem yM{K:PySem.W.Frag}{a b:Addr}{os bs:List Int}{k:L2.St}{E:Addr->Hp->Prop}(n:Int->Int->Bool)(g:Int->Int->Int)(I:My K H a !!os)(G:My K H b !!bs)(L:os.length=bs.length)(hz:os.length<sizeLine)
  (A:∀(x y:Int) (H':Hp) (Q:Bool->Hp->Prop),aM H H'->Q (n x y) H'->M (some (.int x)::some (.int y)::k) H' Q)
  (J:∀(x y:Int) (H':Hp) (Q:VK),aM H H'->Q (.int (g x y)) H'->ta (some (.int x)::some (.int y)::k) H' Q)
  (q:∀D H',H D=none->aM H H'->H' D=some (.lst ‹(((os.zip bs).filter λp=>n p.1 p.2).map λp=>g p.1 p.2)›)->E D H'):pO K (Y7 K a b) k M ta E H:=by
 intro D u;exists λi m t s=>m=os.length-i/\i<=os.length/\aM H s/\t=‹((((os.zip bs).take i).filter λp=>n p.1 p.2).map λp=>g p.1 p.2)›/\s D=some (.lst t),(9,af3 _,aq u _,7,aa);rintro i m t s ⟨rfl,N,h,rfl,d⟩;have w:=h.seq I;have z:=h.seq G;by_cases j:i<os.length
 ·have C:‹os›[i]?=some (.int os[i]):=by rw[aak,aab j];rfl
  have B:‹bs›[i]?=some (.int (bs[i]'(by omega))):=by rw[aak,aab (by omega)];rfl
  refine .inr ((1,1,w,z,C,B),λv O y=>?_);obtain⟨p,x,y,F,rfl,rfl,r,o⟩:=y;have r:=r _ w;have o:=o _ z;rw[C]at r;rw[B]at o;cases r;cases o;have l:=aq F (.tup [.int os[i],.int (bs[i]'(by omega))]);have f:(os.zip bs).take (i+1)=(os.zip bs).take i++[(pq (os[i]) (bs[i]'(by omega)))]:=by
   rw[af7,aab (by rw[ahQ];lia)];simp
  refine(p,_,9,Wq.of aa,A _ _ _ _ (h.trans l) ?_);by_cases c:n os[i] (bs[i]'(by omega))=true
  ·rw[if_pos c];refine J _ _ _ _ (h.trans l) (l _ _ d,2,os.length-(i+1),6,7,j,aZ (h.trans l) u _,2,aa)
   ·have:=agT (λp:Int×Int=>n p.1 p.2) ((os.zip bs).take i);rw[aaq]at this;rw[aaa,aaa];lia
   ·rw[f,ag7,aag,aag];simp[c]
  ·rw[if_neg c];refine(os.length-(i+1),6,7,j,h.trans l,2,l _ _ d);rw[f,ag7,aag,aag];simp[c]
 ·have e:i=os.length:=by lia
  subst e;refine .inl ((1,w,z,.inl (by rw[aaa];exact aae _)),q D s u h ?_);rw[aaj (by rw[ahQ];lia)]at d;exact d
end Tw
namespace L2
open PySem.Spec PyProof.Rows
inductive Ve(x:V)(vs:List V)(H:Hp)(Q:VK):Prop
 | mk (i:_) (_:x=.int i) (_:vs=[]) (_:Q (.int (Builtin.Int.intBits i)) H)
theorem xR:MtR X "int.bit_length" Ve:=by
 intro d s c H x e v f Q I a b h;obtain⟨i,rfl,rfl,q⟩:=h;obtain⟨t,rfl⟩:=a;cases b;exact call_int_bit_length (.int (Builtin.Int.intBits i),H,I.tok _,(_,7),q)
end L2
namespace Tw
def gn(b:Bool)(t:SetTable):Prop:=t.led=b/\t.place.toList.Pairwise (· < ·)
theorem qp{xs:Array Nat}(h:xs.toList.Pairwise (· < ·)){i j:Nat}(a:i<j)(b:j<xs.size):xs[i]'(by omega)<xs[j]:=by
 have:=agf.mp h i j (by simpa using (by lia:i<xs.size)) (by simpa using b) a;simpa using this
theorem wN{xs:Array Nat}(h:xs.toList.Pairwise (· < ·))(j:Nat):∀(a lo b:Nat),b-lo<=a->lo<=b->b<=xs.size->(∀k (d:k<xs.size),k<lo->xs[k]<j)->(∀k (d:k<xs.size),b<=k->j<=xs[k]) ->
  SetTable.below.go xs j a lo b<=xs.size/\(∀k (d:k<xs.size),k<SetTable.below.go xs j a lo b->xs[k]<j) /\ ∀k (d:k<xs.size),SetTable.below.go xs j a lo b<=k->j<=xs[k]
 |0,lo,b,n,o,g,f,e=>by
  have:lo=b:=by lia
  subst this;unfold SetTable.below.go;exact(g,f,e)
 |a+1,lo,b,n,o,g,f,e=>by
  unfold SetTable.below.go;by_cases c:lo<b
  ·rw[if_pos c];have l:(lo+b) / 2<xs.size:=by lia
   have p:xs.getD ((lo+b) / 2) j=xs[(lo+b) / 2]:=by simp[ajb,l]
   dsimp only;rw[p];by_cases i:xs[(lo+b) / 2]<j
   ·rw[if_pos i];refine wN h j a _ _ ⋯ ⋯ g (λk d m=>?_) e;rcases agc k ((lo+b) / 2)with z|z
    ·exact aiM (qp h z l) i
    ·have:k=(lo+b) / 2:=by lia
     subst this;exact i
   ·rw[if_neg i];refine wN h j a _ _ ⋯ ⋯ ⋯ f (λk d m=>?_);rcases agc ((lo+b) / 2) k with z|z
    ·have:=qp h z d;lia
    ·have:k=(lo+b) / 2:=by lia
     subst this;lia
  ·rw[if_neg c];have:lo=b:=by lia
   subst this;exact(g,f,e)
theorem Dc{xs:Array Nat}(h:xs.toList.Pairwise (· < ·))(j:Nat):SetTable.below xs j<=xs.size/\(∀k (a:k<xs.size),k<SetTable.below xs j->xs[k]<j) /\ ∀k (a:k<xs.size),SetTable.below xs j<=k->j<=xs[k]:=by
 unfold SetTable.below;exact wN h j xs.size 0 xs.size ⋯ (af3 _) (aae _) (λk _ a=>absurd a (aht _)) (λk a b=>by lia)
theorem Uz{b:Bool}{t:SetTable}(h:gn b t){j:Nat}(q:t.place[SetTable.below t.place j]? ≠ some j):gn b (t.put j).1:=by
 exists h.1;obtain⟨s,r,o⟩:=Dc h.2 j;show (SetTable.insertAt t.place (SetTable.below t.place j) j).toList.Pairwise (· < ·);rw[SetTable.toList_insertAt];generalize SetTable.below t.place j=p at *;have i:∀x∈t.place.toList.take p,x<j:=λx g=>by
  obtain⟨k,f⟩:=agO g;have n:=(aad.mp f).1;rw[aaq]at n;rw[af9 ⋯,agh]at f;obtain⟨d,e⟩:=ahl.mp f;rw[<-e];exact r k d ⋯
 have l:∀x∈t.place.toList.drop p,j<x:=λx g=>by
  obtain⟨k,f⟩:=agO g;rw[agm,agh]at f;obtain⟨d,e⟩:=ahl.mp f;have a:=o (p+k) d ⋯;rcases ag6 k with z|z
  ·subst z;have:x≠j:=λy=>q (by rw[<-y];exact f);lia
  ·have b:=qp h.2 (show p<p+k by lia) d;have c:=o p ⋯ (aae _);lia
 refine agF.mpr (h.2.sublist (ai7 _ _),aho.mpr (l,h.2.sublist (List.drop_sublist _ _)),λx g y m=>?_);rcases aav.mp m with rfl|m
 ·exact i x g
 ·exact aiM (i x g) (l y m)
theorem kZ{b:Bool}{t:SetTable}(h:t.led=b)(n:Nat):gn b (t.standIn n):=by
 exists h;show (Array.range n).toList.Pairwise (· < ·);rw[Array.toList_range];exact aiJ
theorem Kr{t:SetTable}{j:Nat}(h:∀i,t.slot j ≠ .live i):t.place[SetTable.below t.place j]? ≠ some j:=λe=>by
 refine h (SetTable.below t.place j) ?_;unfold SetTable.slot;simp[e]
theorem vK{t:SetTable}{f:Nat->Int}{h:Int}:∀(a:Nat) (p:SetTable.Probe) (j:Nat) (d:Option Nat),(∀x,p.dummy=some x->t.slot x=.dummy)->SetTable.probe.go t f h a p=some (.empty j d)->t.slot j=.empty /\ ∀x,d=some x->t.slot x=.dummy
 |0,p,j,d,_,e=>by
  unfold SetTable.probe.go at e;cases e
 |a+1,p,j,d,hd,e=>by
  unfold SetTable.probe.go at e;have g:∀q:SetTable.Probe,(t.advance q).dummy=q.dummy:=λq=>by
   unfold SetTable.advance;split<;>rfl
  cases c:t.slot p.j with
  |empty=>
   rw[c]at e;cases e;exact(c,hd)
  |dummy=>
   rw[c]at e;refine vK a _ j d (λx b=>?_) e;rw[g]at b;cases b;exact c
  |live i=>
   rw[c]at e;dsimp only at e;split at e
   ·cases e
   ·exact vK a _ j d (λx b=>hd x (by rw[g]at b;exact b)) e
theorem xn{t:SetTable}{j:Nat}{w:Bool}(e:t.freeSlot g=some (pq j w)):∀i,t.slot j ≠ .live i:=by
 unfold SetTable.freeSlot SetTable.probe at e;split at e
 ·rename_i a d c;cases e;obtain⟨k,f⟩:=vK _ _ _ _ (λx b=>by cases b) c;cases d with
  |none=>
   intro i z;rw[show (none:Option Nat).getD a=a from rfl,k]at z;cases z
  |some x=>
   intro i z;rw[show (some x:Option Nat).getD a=x from rfl,f x rfl]at z;cases z
 ·cases e
theorem Bj{b:Bool}{t:SetTable}(h:gn b t)(n:Nat):gn b (t.orStandIn n):=by
 unfold SetTable.orStandIn;split
 ·exact h
 ·exact kZ h.1 n
theorem Li{b:Bool}{t:SetTable}(h:gn b t)(es:Array (Int×Value))(i:Int)(x:Value):gn b (layNew t es i x).2.1:=by
 unfold layNew;split
 ·rename_i a w e;exact Bj (Uz h (Kr (xn e))) _
 ·exact kZ h.1 _
theorem Rg{m f v:Nat}{l p:Bool}{g:Array Int}{t:SetTable}{o:Array Nat}(e:SetTable.laid m f v l p g=some (pq t o)):gn l t:=by
 unfold SetTable.laid at e;cases h:SetTable.layClean m g with
 |none=>
  rw[h]at e;cases e
 |some j=>
  rw[h]at e;cases e;exists 7;show (List.toArray _).toList.Pairwise (· < ·);rw[ajc];refine List.Pairwise.filterMap _ (R:=(· < ·)) (λa n d b i k c=>?_) aiJ;obtain⟨x,_,rfl⟩:=agp.mp i;obtain⟨y,_,rfl⟩:=agp.mp c;exact d
theorem EY{b:Bool}{t:SetTable}(h:gn b t)(es:Array (Int×Value))(n:Nat):gn b (relayAll t es n).2.1:=by
 unfold relayAll;split
 ·rename_i a o e;dsimp only;split
  ·have:=Rg e;rw[h.1]at this;exact this
  ·exact kZ h.1 _
 ·exact kZ h.1 _
theorem Nq{b:Bool}{t:SetTable}(h:gn b t):gn b {t with plain:=false}:=h
open PySem.Spec PyProof.Rows
section
variable{α β:Type}
theorem K6{f:α->β}{k l:List β}(h:agH k l):∀L:List α,L.map f=l -> ∃g,agH g L/\g.map f=k:=by
 induction h with
 |nil=>
  intro L e;exact(L,.rfl,e)
 |cons x p r=>
  intro L e;cases L with
  |nil=>cases e
  |cons a L=>
   rw[aax]at e;injection e with d c
   obtain⟨g,o,t⟩:=r L c;exact(a::g,o.cons a,by rw[aax,t,d])
 |swap x y l=>
  intro L e
  match L,e with
  |a::b::L,e=>
   rw[aax,aax]at e;injection e with d c
   injection c with c s
   exact(b::a::L,.swap a b L,by rw[aax,aax,d,c,s])
 |trans p q j i=>
  intro L e;obtain⟨v,n,d⟩:=i L e;obtain⟨u,m,c⟩:=j v d;exact(u,m.trans n,c)
end
section
variable{w:World}{K:Type}[DecidableEq K]{knd:KeyKind prog w K}{b:Bool}
structure nH(knd:KeyKind prog w K)(es:List (Int×Value))(ks:List K)(ps:List (K×(Int×Value))):Prop where
 snd:ps.map (·.2)=es
 fst:agH (ps.map (·.1)) ks
 is:∀p∈ps,knd.is p.1 p.2.2=true/\p.2.1=knd.hash p.1/\p.2.2.scannable=true
theorem nH.elems{es:List (Int×Value)}{c:List K}{ps:List (K×(Int×Value))}(h:nH knd es c ps):ElemsOf knd es:=λe a=>by
 rw[<-h.snd]at a;obtain⟨p,d,rfl⟩:=afs.mp a;obtain⟨i,g,f⟩:=h.is p d;exact((p.1,i,g),f)
theorem nH.size{es:List (Int×Value)}{a:List K}{ps:List (K×(Int×Value))}(h:nH knd es a ps):es.length=a.length:=by
 rw[<-h.snd,aaa,<-h.fst.length_eq,aaa]
theorem nH.mem{es:List (Int×Value)}{d:List K}{ps:List (K×(Int×Value))}(h:nH knd es d ps)(k:K):k∈d ↔ ∃e∈es,knd.is k e.2=true:=by
 rw[<-h.fst.mem_iff];constructor
 ·intro c;obtain⟨p,a,rfl⟩:=afs.mp c;exact(p.2,by rw[<-h.snd];exact afs.mpr (p,a,7),(h.is p a).1)
 ·rintro⟨e,f,c⟩;rw[<-h.snd]at f;obtain⟨p,a,rfl⟩:=afs.mp f;have:=knd.inj _ _ _ c (h.is p a).1;rw[this];exact afs.mpr (p,a,7)
theorem nH.perm{es :List (Int×Value)}{d:List K}{ps:List (K×(Int×Value))}(h:nH knd es d ps)(p:agH L es):∃a,nH knd L d a:=by
 obtain⟨a,c,e⟩:=K6 p ps h.snd;exact(a,e,(c.map _).trans h.fst,λq f=>h.is q (c.mem_iff.mp f))
theorem nH.push{es:List (Int×Value)}{c:List K}{ps:List (K×(Int×Value))}(h:nH knd es c ps){k:K}{x:Value}(e:knd.is k x=true)(d:x.scannable=true):nH knd (es++[(pq (knd.hash k) x)]) (c++[k]) (ps++[(pq k ((pq (knd.hash k) x)))]):=by
 refine(by rw[aag,h.snd];rfl,by rw[aag];exact h.fst.append_right _,λp a=>?_);rcases aaG.mp a with a|a
 ·exact h.is p a
 ·rw[aan.mp a];exact(e,7,d)
def jJ(b:Bool)(knd:KeyKind prog w K)(h:Heap)(a:Addr)(e:List K):Prop:=
 ∃o c f t d,h.get? a=some o/\o.ExactSet/\o.data=.set c f t/\c.size<scanBound/\t.fits c.size=true/\gn b t/\nH knd c.toList e d
theorem N6{a:Addr}{o:Obj}{es:Array (Int×Value)}{t:SetTable}(f:base.get? a=some o)(c:o.ExactSet)(hd:o.data=.set es n t)
  {t':SetTable}{d:List K}{ps:List (K×(Int×Value))}(j:Z.size<scanBound)(i:t'.fits Z.size=true)(ht:gn b t')(e:nH knd Z.toList d ps):
  (base.update a (Obj.putSet Z t')).get? a=some {o with data:=.set Z (n+1) t'}/\jJ b knd (base.update a (Obj.putSet Z t')) a d:=by
 have g:=Heap.get?_update_self (Obj.putSet Z t') f (by rw[putSet_of Z t' hd];rfl);rw[putSet_of Z t' hd]at g;exact(g,_,Z,n+1,t',ps,g,c,7,j,i,ht,e)
theorem RX{g:Bool->Sem Unit}(G:∀(c:Bool) (q:Shared) (B:Unit->Shared->Prop),B () q->wpAny (model prog w) A (g c) B E q)
  {a:Addr}{o:Obj}{es :Array (Int×Value)}{t :SetTable}{u:List K}{ps:List (K×(Int×Value))}{C:Bool}{R:Option Bool->Shared->Prop}
  (x:s.heap.get? a=some o)(d:o.ExactSet)(hd:o.data=.set es n t)(k:Z.size<scanBound)(H:I.fits Z.size=true)(ht:gn b I)(v:nH knd Z.toList u ps)
  (h:∀l,Heap.SameBut a s.heap l->jJ b knd l a u->R (some true) {s with heap:=l}):
  wpAny (model prog w) A (do
   storeSet a Z I
   if (!C&&I.tooFull)=true then do
    g (relayAll I Z (SetTable.grown Z.size)).2.2
    storeSet a (relayAll I Z (SetTable.grown Z.size)).1 (relayAll I Z (SetTable.grown Z.size)).2.1
    pure (some true)
   else pure (some true)) R E s:=by
 obtain⟨y,D⟩:=N6 (knd:=knd) x d hd k H ht v;have z:=Heap.SameBut.update s.heap a (Obj.putSet Z I);refine wpAny_bind (wpAny_storeSet_of x hd ?_ (fits_of_scanBound k));split
 ·have i:=relayAll_perm I Z (SetTable.grown Z.size);have m:=relayAll_fits I Z (SetTable.grown Z.size);have j:=EY ht Z (SetTable.grown Z.size);generalize relayAll I Z (SetTable.grown Z.size)=r at i m j ⊢;obtain⟨f,L,M⟩:=r;dsimp only at i m j ⊢;obtain⟨J,p⟩:=v.perm i;have F:f.size=Z.size:=by simpa using i.length_eq
  have e:f.size<scanBound:=F ▸ k;refine wpAny_bind (G _ _ _ (wpAny_bind (wpAny_storeSet_of y rfl ?_ (fits_of_scanBound e))));exact wpAny_pure (h _ (z.trans (Heap.SameBut.update _ a _)) (N6 (knd:=knd) y d rfl e m j p).2)
 ·exact wpAny_pure (h _ z D)
theorem QR{a:Addr}{d:List K}{k:K}{x:Value}{Q:Bool->Shared->Prop}(f:knd.is k x=true)(l:x.scannable=true)(Y:jJ b knd s.heap a d)(P:d.length+1<scanBound)
  (h:∀g,Heap.SameBut a s.heap g->jJ b knd g a (if k∈d then d else d++[k])->Q (!decide (k∈d)) {s with heap:=g}):
  wpAny (model prog w) A (setAddHashed a x (knd.hash k)) Q E s:=by
 obtain⟨o,i,Z,t,U,u,m,hd,T,H,ht,r⟩:=Y;have C:=r.elems;have hn:i.size=d.length:=by simpa using r.size
 unfold setAddHashed setAddHashedIn;refine wpAny_holding (wpAny_bind (wpAny_setState_of u hd H ?_));dsimp only;rw[byScan_of l T C,if_pos rfl];unfold setAddByScan;refine wpAny_bind (wpAny_bind (wpAny_rule (wpAny_bind (wpAny_setScan_of f u hd H C ?_))));have S:=r.mem k;cases R:List.findIdx? (λe=>knd.is k e.2) i.toList with
 |some j=>
  obtain⟨W,N,_⟩:=List.findIdx?_eq_some_iff_getElem.mp R;have v:k∈d:=S.mpr (_,age W,N);have e:s={s with heap:=s.heap}:=by cases s;rfl
  have q:=h s.heap (Heap.SameBut.refl a s.heap) (by rw[if_pos v];exact(o,i,Z,t,U,u,m,hd,T,H,ht,r));rw[decide_eq_true v]at q;dsimp only;rw[e];exact wpAny_pure (wpAny_pure q)
 |none=>
  have v:¬k∈d:=λz=>by
   obtain⟨e,X,V⟩:=S.mp z;have:=List.findIdx?_eq_none_iff.mp R e X;rw[V]at this;cases this
  rw[if_neg v,decide_eq_false v]at h;dsimp only;have n:=layNew_perm t i (knd.hash k) x;have y:=layNew_fits t i (knd.hash k) x;have p:=Li ht i (knd.hash k) x;generalize layNew t i (knd.hash k) x=L at n y p ⊢;obtain⟨O,t1,wd,gv⟩:=L;dsimp only at n y p ⊢;rw[agY]at n;obtain⟨a0,B⟩:=(r.push f l).perm n;have D:O.size<scanBound:=by
   have:=n.length_eq;rw[aac,agu,aaf,aaf]at this;lia
  have G:∀(c:Bool) (F:Shared) (M:Unit->Shared->Prop),M () F->wpAny (model prog w) A (match c with|true=>rule "set.scan.the-table-gave-way" |false=>pure ()) M E F:=λc F M q=>by
   cases c
   ·exact wpAny_pure q
   ·exact wpAny_rule q
  refine wpAny_bind (G _ _ _ ?_);split
  ·refine wpAny_bind ?_;rw[hashByValue_scannable 8 l];refine wpAny_pure (RX (b:=b) G u m hd D ?_ ?_ B λg J I=>?_)
   ·split
    ·exact y
    ·exact SetTable.fits_plain_off y
   ·split
    ·exact p
    ·exact Nq p
   ·exact wpAny_pure (h g J I)
  ·refine wpAny_bind (wpAny_pure ?_);rw[if_pos rfl];exact RX (b:=b) G u m hd D y p B λg J I=>wpAny_pure (h g J I)
end
section
variable{K:Type}[DecidableEq K]
def met(f:Nat->K):Nat->List K
 |0=>[]
 |n+1=>if f n∈met f n then met f n else met f n++[f n]
theorem qH(f:Nat->K):∀(n:Nat) (k:K),k∈met f n ↔ ∃i,i<n/\f i=k
 |0,k=>by simp[met]
 |n+1,k=>by
  unfold met;have a:=qH f n;constructor
  ·intro h;split at h
   ·obtain⟨i,c,b⟩:=(a k).mp h;exact(i,6,b)
   ·rcases aaG.mp h with h|h
    ·obtain⟨i,c,b⟩:=(a k).mp h;exact(i,6,b)
    ·exact(n,6,(aan.mp h).symm)
  ·rintro⟨i,c,rfl⟩;rcases agc i n with z|z
   ·have:=(a (f i)).mpr (i,z,7);split
    ·exact this
    ·exact agj _ this
   ·have e:i=n:=by lia
    subst e;split
    ·assumption
    ·exact aau _ (aan.mpr rfl)
theorem fO(f:Nat->K):∀n:Nat,(met f n).Nodup
 |0=>.nil
 |n+1=>by
  unfold met;split
  ·exact fO f n
  ·rename_i h;refine ajd.mpr (fO f n,by simp,λa d b c e=>?_);rw[aan.mp c]at e;exact h (e ▸ d)
theorem Ai(f:Nat->K):∀n:Nat,(met f n).length<=n
 |0=>aae _
 |n+1=>by
  unfold met;have:=Ai f n;split
  ·lia
  ·rw[aac,agu];lia
theorem Ek(f:Nat->K){i:Nat}:∀n:Nat,i<=n->(met f i).length<=(met f n).length
 |0,h=>by
  have:i=0:=by lia
  subst this;exact aae _
 |n+1,h=>by
  rcases agc i (n+1)with z|z
  ·have:=Ek f n (show i<=n by lia);show _<=(if f n∈met f n then met f n else met f n++[f n]).length;split
   ·exact this
   ·rw[aac];lia
  ·have:i=n+1:=by lia
   subst this;exact aae _
end
section
variable{w:World}{K:Type}[DecidableEq K]{knd:KeyKind prog w K}{R:Result->Shared->Prop}{I:Addr}{fp wr:List Addr}{G:Array GenState->Array GenState->Prop}{P:Nat->Value->Prop}{St:Nat->Shared->Prop}{b:Bool}
theorem jJ.at{h':Heap}{a:Addr}{c:List K}(g:jJ b knd base a c)(e:∀o,base.get? a=some o->h'.get? a=some o):jJ b knd h' a c:=by
 obtain⟨o,i,j,t,d,f,r⟩:=g;exact(o,i,j,t,d,e o f,r)
theorem Vg(W:WalksS prog w A.in1 I fp wr G n P St)(S:Addr)(t:S∉fp)(f:Nat->K)(Q:∀i v,P i v->knd.is (f i) v=true/\v.scannable=true)(T:(met f n).length+1<scanBound):
  ∀(k i:Nat) (s:Shared),n-i=k->i<=n->St i s->jJ b knd s.heap S (met f i) ->
   (∀a,Moved (S::wr) G s a->jJ b knd a.heap S (met f n)->R (.ok (.ret .none)) a) ->
   codeAny (model prog w) A (.builtin "set.update.loop" ([.ref S,.ref I],[])) R s:=by
 have B:S∉wr:=λz=>t (W.sub _ z);have l:∀c∈wr,c∈S::wr:=λc j=>.tail _ j;intro k
 induction k with
 |zero=>
  intro i s O C d x q;obtain rfl:i=n:=by lia
  refine codeAny_builtin PyProof.Rows.F.entry_set_update_loop ?_;rw[Around.under_plainId PyProof.Rows.F.plain_set_update_loop _];refine wpAny_bind (m:=pyNext (.ref I)) (W.done s _ _ d λa h=>?_);exact wpAny_pure (q a (h.mono l) (x.at λo e=>h.heap S _ B e))
 |succ k M=>
  intro i s O C d x q;have p:i<n:=by lia
  refine codeAny_builtin PyProof.Rows.F.entry_set_update_loop ?_;rw[Around.under_plainId PyProof.Rows.F.plain_set_update_loop _];refine wpAny_bind (m:=pyNext (.ref I)) (W.item i s _ _ p d λv a N u h=>?_);obtain⟨r,y⟩:=Q i v N;refine wpAny_bind (m:=holding [v] (setAdd S v)) (wpAny_holding ?_);unfold setAdd;refine wpAny_holding (wpAny_bind (knd.pyHash r ?_));have g:(met f i).length+1<scanBound:=by
   have:=Ek f n C;lia
  refine QR (s:={a with toks:=a.toks+1}) r y (x.at λo e=>h.heap S _ B e) g λU D H=>?_;refine wpAny_pure (plainId_quiet PyProof.Rows.F.plain_set_update_loop _,M (i+1) _ ⋯ p (W.frame _ a _ _ u (ahE _) λc j o e=>?_) H λJ L E=>?_)
  ·rw[D.2 c (λz:c=S=>t (z ▸ j))];exact e
  ·refine q J (Moved.trans W.gtrans ((h.mono l).then_heap (ahE _) λc o j e=>?_) L) E;rw[D.2 c (λz:c=S=>j (by rw[z];exact .head _))];exact e
theorem T8(b:Bool){a:Addr}(e:base.get? a=some {cls:=.type "set",dict:=none,data:=.set #[] 0 (.fresh 0 0 b)}):jJ b knd base a []:=
 (_,#[],0,_,[],e,(7,7,7),7,4,7,(7,.nil),7,.nil,λp c=>by cases c)
end
section
variable{w:World}{K:Type}[DecidableEq K]{knd:KeyKind prog w K}
def dq(w:World):Bool:=!w.params.followText "set-order"
abbrev newS(w:World):Obj:={cls:=.type "set",dict:=none,data:=.set #[] 0 (.fresh 0 0 (dq w))}
theorem J4(x:Value){Q:Value->Shared->Prop}(h:Q (.ref s.heap.objs.size) {s with heap:=s.heap.push (newS w)}):
  codeAny (model prog w) A (.call (.builtin "set.__new__") ([.type "set",x],[])) (wants Q E) s:=by
 refine codeAny_of_tree ?_
 refine wpAny_bind (m:=checkBuiltinCall "set.__new__" ([.type "set",x],[])) (wpAny_of_eq (PySem.F.newCall_set_1 x) (wpAny_pure (plainId_quiet PySem.F.plain_set_new _,codeAny_builtin PySem.F.entry_set_new ?_)))
 rw[Around.under_plainId PySem.F.plain_set_new _];unfold Builtin.«set.__new__» Builtin.Frozenset.newClass;have a:=PySem.sub_set_self;obtain⟨e,g,d,b,c⟩:=s;dsimp only
 wp_walk
 refine wpAny_askSetting (wpAny_pure ?_);dsimp only;simp only[newObj];refine wpAny_bind (wpAny_alloc (wpAny_pure ?_));exact wpAny_pure h
set_option maxRecDepth 100000 in
set_option maxHeartbeats 3200000 in
theorem yu{l:Addr}{f:Nat->K}{Q:Value->Shared->Prop}(hh:A.handled=none)(hl:s.heap.IsList l y)(hf:∀i v,y[i]?=some v->knd.is (f i) v=true/\v.scannable=true)(hb:(met f y.size).length+1<scanBound)
  (h:∀(a:Heap) (tk:Nat),jJ (dq w) knd a s.heap.objs.size (met f y.size)->(∀c o,c<s.heap.objs.size->s.heap.get? c=some o->a.get? c=some o)->Q (.ref s.heap.objs.size) {s with heap:=a,toks:=tk}):
  wpAny (model prog w) A (call (.type "set") [.ref l]) Q E s:=by
 obtain⟨c,tl,U⟩:=PySem.F.called_set.mro;have I:=PySem.F.called_set.made;have T:=PySem.F.called_set.sub
 refine wpAny_call (codeAny_of_tree (show wpAny _ _ (callAny (.type "set") _) _ _ _ from ?_))
 refine wpAny_pure (Code.quiet_builtin _ (by decide +kernel),codeAny_builtin PySem.F.entry_type_call ?_)
 rw[Around.under_plain (weight_type_call_type "set" [.ref l] []) rfl]
 have n1:=PySem.F.called_set.notType;have n2:=PySem.F.called_set.canCreate;have n3:=PySem.F.typeCall_set_1 (.ref l)
 repeat (any_goals (first|assumption|wp_step))
 refine codeAny_mono (J4 (.ref l) (E:=E) (Q:=λM L=>M=.ref s.heap.objs.size/\L={s with heap:=s.heap.push (newS w)}) (7,7)) λr L x=>?_;cases r with
 |error e=>exact x
 |ok fl=>
  cases fl with
  |ret M=>
   obtain⟨rfl,rfl⟩:=x;have P:(s.heap.push (newS w)).get? s.heap.objs.size=some (newS w):=Heap.get?_push_size _ rfl
   have hT:Shared.TypeIs {s with heap:=s.heap.push (newS w)} (.ref s.heap.objs.size) "set":=(_,P,7)
   have i1:=PySem.F.called_set.init.lookup;have i2:=PySem.F.called_set.init.bind (.ref s.heap.objs.size)
   repeat (any_goals (first|assumption|wp_step))
   refine codeAny_mono (codeAny_call_builtin (R:=wants (λr J=>r=.none /\ ∃a tk,J={s with heap:=a,toks:=tk}/\jJ (dq w) knd a s.heap.objs.size (met f y.size)/\(∀c o,c<s.heap.objs.size->s.heap.get? c=some o->a.get? c=some o)) E)
    PySem.F.called_set.init.plain PySem.F.entry_set_init (check_set_init_1 hT ?_)) λY J g=>?_
   ·obtain⟨Z,k,q,N,p⟩:=hl;obtain⟨S,j,H,d⟩:=Z;simp only at q p;subst q;subst p
    have e1:(s.heap.push (newS w)).get? l=some {cls:=.type "list",dict:=j,data:=.seq y N,slots:=d}:=Heap.get?_push_of_some _ k
    have q1:=PySem.F.sub_list_set;have q2:=PySem.F.sub_list_frozenset
    have q3:(Value.type "list" == Value.type "dict")=false:=by decide
    have n:(s.heap.push (newS w)).IsList l y:=(_,e1,7,N,7);unfold Builtin.«set.__init__» noKeywords Builtin.Frozenset.updateFrom;generalize D:pyIter=PI
    wp_walk
    subst D;refine wpAny_pyIter_list n (wpAny_bind (wpAny_runValue ?_));have m:l<s.heap.objs.size:=Heap.lt_size k;have u:(s.heap.push (newS w)).objs.size=s.heap.objs.size+1:=Heap.size_push ..;have h3:A.in1.in1.in1.handled=none:=by simp[hh]
    have n4:l≠(s.heap.push (newS w)).objs.size:=by rw[u];exact aaA (ahu m)
    have n5:s.heap.objs.size∉[(s.heap.push (newS w)).objs.size,l]:=λz=>by
     rcases aav.mp z with z|z
     ·exact absurd (z.trans u) (aaA (ahb _))
     ·exact absurd (aan.mp z).symm (aaA m)
    refine Vg (b:=dq w) (knd:=knd) ((Walks.list h3 _ l n4 y).toS) s.heap.objs.size n5 f hf hb (y.size-0) 0 _ ⋯ (af3 _) ((_,Heap.get?_push_size _ rfl,7,7),n.push _) (T8 (dq w) (Heap.get?_push_of_some _ P)) λX t V=>?_;obtain⟨a,g1,d1,B,C⟩:=X;have eg:g1=s.gens:=t.gens;have ed:d1=s.drawn:=t.drawn;have eo:C=s.os:=t.os;subst eg;subst ed;subst eo;refine wpAny_pure (show wpAny _ _ (ret Value.none) _ _ _ from wpAny_pure (7,a,B,7,V,λc o O e=>?_));refine t.heap c o (λz=>?_) (Heap.get?_push_of_some _ (Heap.get?_push_of_some _ e));rcases aav.mp z with z|z
    ·exact absurd z (aaA O)
    ·exact absurd ((aan.mp z).trans u) (aaA (ahu O))
   ·cases Y with
    |error e=>exact g
    |ok G=>
     cases G with
     |ret r=>
      obtain⟨rfl,a,tk,rfl,W,k1⟩:=g
      repeat (any_goals (first|assumption|wp_step))
      exact h _ _ W k1
     |_=>exact g.elim
  |_=>exact x.elim
end
theorem gb:Slot "set_iterator" "__next__" "set_iterator.__next__":=
 Slot.of (id := "set_iterator.__next__") (owner := "set_iterator") (n := "__next__") (by rw[typeLookup_type,builtinLookup_eq_fast];kernel_rfl) (by decide +kernel) (by decide +kernel) (by decide +kernel) (by first|exact .inl (by decide +kernel) | exact .inr (by decide +kernel)) (by rw[isSubtype_type];kernel_rfl)
theorem gO:entryFor table "set_iterator.__next__" = some Builtin.«set_iterator.__next__»:=entryFor_of_fast (by kernel_rfl)
theorem iC(x:Value):argsOk "set_iterator.__next__" ([x],[]):=by unfold argsOk;kernel_rfl
theorem Ht:Slot "set_iterator" "__iter__" "set_iterator.__iter__":=
 Slot.of (id := "set_iterator.__iter__") (owner := "set_iterator") (n := "__iter__") (by rw[typeLookup_type,builtinLookup_eq_fast];kernel_rfl) (by decide +kernel) (by decide +kernel) (by decide +kernel) (by first|exact .inl (by decide +kernel) | exact .inr (by decide +kernel)) (by rw[isSubtype_type];kernel_rfl)
theorem xG:entryFor table "set_iterator.__iter__" = some Builtin.«dict_keyiterator.__iter__»:=entryFor_alias (id' := "dict_keyiterator.__iter__") (by kernel_rfl) rfl (by decide +kernel) (by kernel_rfl)
theorem Ag(x:Value):argsOk "set_iterator.__iter__" ([x],[]):=by unfold argsOk;kernel_rfl
theorem u9:entryFor table "set.__iter__" = some Builtin.«frozenset.__iter__»:=entryFor_alias (id' := "frozenset.__iter__") (by kernel_rfl) rfl (by decide +kernel) (by kernel_rfl)
section
variable{w:World}
abbrev X4(first:Value)(i:Int)(a:Value)(n b:Nat):Obj:={cls:=.type "set_iterator",data:=.fields #[first,.int i 0,a,.int n 0,.int b 0]}
structure cU(h:Heap)(S:Addr)(o:Obj)(es:Array (Int×Value))(ep:Nat)(t:SetTable):Prop where
 get:h.get? S=some o
 dat:o.data=.set es ep t
 fit:t.fits es.size=true
theorem HX{o:Obj}{es:Array (Int×Value)}{nx i:Nat}{t:SetTable}{x:Value}{Q:Option Value->Shared->Prop}(b:s.heap.get? a=some (X4 (.int z 0) i (.ref f) es.size n))(c:cU s.heap f o es n t)
  (d:∀(A':Around) (h:Option (Value×Nat)->Shared->Prop) (l:Value->Shared->Prop),h (some (pq x nx)) s->wpAny (model prog w) A' (setNext f z i n) h l s)
  (j:∀h',h'.get? a=some (X4 (.int nx 0) (i+1:Nat) (.ref f) es.size n)->Heap.SameBut a s.heap h'->Q (some x) {s with heap:=h'}):wpAny (model prog w) A (pyNext (.ref a)) Q E s:=by
 have e:s.TypeIs (.ref a) "set_iterator":=(_,b,7)
 unfold pyNext
 refine wpAny_bind (wpAny_attempt (wpAny_callSpecial?_slot (name:=Str.ofString "__next__") e gb (wpAny_call_entry gb e gO ?_ (iC _))))
 unfold Builtin.«set_iterator.__next__»
 refine wpAny_bind (m:=slotArgs "__next__" 0 _) (wpAny_pure ?_)
 refine wpAny_bind (wpAny_fieldsOf b rfl ?_);dsimp only;refine wpAny_bind (wpAny_setEntries_of c.get c.dat c.fit ?_);rw[if_neg (by simp)];rw[aaz,aaz,aaz];refine wpAny_bind (d _ _ _ ?_);dsimp only;refine wpAny_bind (wpAny_setField b rfl (by simp) ?_);have g:(s.heap.update a (Obj.mapFields (·.setIfInBounds 0 (rawInt nx)))).get? a=some (X4 (.int nx 0) i (.ref f) es.size n):=Heap.get?_update_self _ b rfl;refine wpAny_bind (wpAny_setField (s:={s with heap:=s.heap.update a (Obj.mapFields (·.setIfInBounds 0 (rawInt nx)))}) g rfl (by simp) ?_);have k:((s.heap.update a (Obj.mapFields (·.setIfInBounds 0 (rawInt nx)))).update a (Obj.mapFields (·.setIfInBounds 1 (rawInt ((i:Int)+1))))).get? a=some (X4 (.int nx 0) (i+1:Nat) (.ref f) es.size n):=Heap.get?_update_self _ g rfl;exact wpAny_pure (x,7,wpAny_pure (j _ k ((Heap.SameBut.update ..).trans (Heap.SameBut.update ..))))
theorem next_end{o:Obj}{es:Array (Int×Value)}{i:Nat}{t:SetTable}{Q:Option Value->Shared->Prop}(j:A.handled=none)(c:s.heap.get? a=some (X4 (.int z 0) i (.ref f) es.size n))(d:cU s.heap f o es n t)
  (e:∀(A':Around) (h:Option (Value×Nat)->Shared->Prop) (l:Value->Shared->Prop),h none s->wpAny (model prog w) A' (setNext f z i n) h l s)
  (k:∀h',Heap.ExtBut a s.heap h'->Q none {s with heap:=h'}):wpAny (model prog w) A (pyNext (.ref a)) Q E s:=by
 have g:s.TypeIs (.ref a) "set_iterator":=(_,c,7)
 unfold pyNext
 refine wpAny_bind (wpAny_attempt (wpAny_callSpecial?_slot (name:=Str.ofString "__next__") g gb (wpAny_call_entry gb g gO ?_ (iC _))))
 unfold Builtin.«set_iterator.__next__»
 refine wpAny_bind (m:=slotArgs "__next__" 0 _) (wpAny_pure ?_)
 refine wpAny_bind (wpAny_fieldsOf c rfl ?_);dsimp only;refine wpAny_bind (wpAny_setEntries_of d.get d.dat d.fit ?_);rw[if_neg (by simp),aaz,aaz,aaz];refine wpAny_bind (e _ _ _ ?_);dsimp only;refine wpAny_bind (wpAny_setField c rfl (by simp) ?_)
 refine wpAny_bind (m:=newExc (.type "StopIteration") []) ?_
 simp only[newExc,newTuple];refine wpAny_bind (wpAny_newObj_type ?_ (by size_fits));refine wpAny_bind (m:=firstArgMember _ _) (wpAny_of_eq (a:=Value.none) (by first|rfl | (simp only[firstArgMember];rfl)) ?_);refine wpAny_newObj_type ?_ (by size_fits);simp only[raiseNew];refine wpAny_bind (wpAny_handled ?_);rw[show A.in1.handled=none from j];refine wpAny_bind (wpAny_pure (wpAny_throw ?_))
 refine wpAny_bind (wpAny_isInstance (T := "StopIteration") (b:=true) (_,Heap.get?_push_size _ rfl,7) isSubtype_stop ?_)
 exact wpAny_pure (k _ (((Heap.SameBut.update ..).extBut.push _).push _))
end
theorem oR{b:Type}:∀{l:List b}{i:Nat}{x:b},l[i]?=some x->agH (x::l.eraseIdx i) l
 |[],i,x,h=>by simp at h
 |a::l,0,x,h=>by
  cases h;exact .rfl
 |a::l,i+1,x,h=>by
  rw[List.eraseIdx_cons_succ];exact(List.Perm.swap a x _).trans ((oR (by simpa using h)).cons a)
theorem HN{c:Type}(nx:Nat->Nat):∀(a k:Nat) (left:List c) (out:Array c),left.length=a->agH (pickOrder.go nx a k left out).toList (out.toList++left)
 |0,k,left,out,h=>by
  have:left=[]:=aig h;subst this;unfold pickOrder.go;simp
 |a+1,k,left,out,h=>by
  have b:nx k%left.length<left.length:=ajT _ ⋯;have e:=aab b;unfold pickOrder.go;rw[e];refine(HN nx a (k+1) _ _ (by rw[ais b];lia)).trans ?_;rw[agY,af5];exact(oR e).append_left _
theorem sI(nx:Nat->Nat)(xs:Array G):agH (pickOrder nx xs).toList xs.toList:=by
 have:=HN nx xs.size 0 xs.toList #[] (by simp);rw[ahO]at this;exact this
section
variable{w:World}{o:Obj}{es:Array (Int×Value)}{ep:Nat}{t:SetTable}
theorem oE{Q:Bool->Shared->Prop}(h:Q (!dq w) s):wpAny (model prog w) A setsByText Q E s:=by
 unfold setsByText;refine wpAny_bind (wpAny_askSetting (wpAny_pure ?_));unfold dq at h;rw[ajL]at h;exact h
theorem BL(a:cU s.heap S o es ep t)(ht:dq w=false){i:Nat}{Q:Option (Value×Nat)->Shared->Prop}(h:Q (((pickOrder (w.params.setOrder S ep) es)[i]?).map λe=>(pq e.2 n)) s):wpAny (model prog w) A (setNext S n i ep) Q E s:=by
 unfold setNext;refine wpAny_bind (wpAny_setState_of a.get a.dat a.fit ?_);dsimp only;refine wpAny_bind (oE ?_);rw[ht];simp only[aju,if_true,bne_self_eq_false,agP,if_false];refine wpAny_bind ?_;unfold setWalk;refine wpAny_bind (wpAny_setState_of a.get a.dat a.fit ?_);dsimp only;refine wpAny_bind (oE ?_);rw[ht];simp only[aju,if_true];refine wpAny_bind (wpAny_askSetting (wpAny_pure (wpAny_pure h)))
theorem yR(a:cU s.heap S o es ep t)(ht:dq w=true)(c:t.led=true)(b:¬((!t.plain&&decide (es.size > 1))=true)){i:Nat}{Q:Option (Value×Nat)->Shared->Prop}
  (h:Q (match es[SetTable.below t.place n]?,t.place[SetTable.below t.place n]? with|some (_,x),some j=>some (pq x (j+1)) | _,_=>none) s):wpAny (model prog w) A (setNext S n i ep) Q E s:=by
 unfold setNext;refine wpAny_bind (wpAny_setState_of a.get a.dat a.fit ?_);dsimp only;refine wpAny_bind (oE ?_);rw[ht];simp only[ajD,agP,if_false];split
 ·rename_i d;exact absurd d b
 refine wpAny_bind (show wpAny _ _ (if (!t.led && !es.isEmpty)=true then unsupported "set:maker-not-led" else pure PUnit.unit) _ _ _ from ?_)
 rw[c,ajD,ajt,if_neg aaT];exact wpAny_pure (wpAny_pure h)
theorem Kq(a:cU s.heap S o es ep t){k:Nat}{e:Int×Value}(b:es[k]?=some e){Q:Value->Shared->Prop}(h:Q e.2 s):wpAny (model prog w) A (setNextDrawn S k ep) Q E s:=by
 unfold setNextDrawn;refine wpAny_bind (wpAny_setState_of a.get a.dat a.fit ?_);dsimp only;rw[bne_self_eq_false,if_neg aaT,b];exact wpAny_pure h
theorem HY{c:Type}:∀(n:Nat) (xs:List c) (s:Shared) {Q:List c->Shared->Prop},xs.length=n->(∀l d,agH l xs->Q l {s with drawn:=d})->wpAny (model prog w) A (drawOrder n xs) Q E s
 |0,xs,s,Q,a,h=>by
  have:xs=[]:=aig a;subst this;unfold drawOrder;have:=h [] s.drawn .rfl;exact wpAny_pure this
 |n+1,[],s,Q,a,h=>by simp at a
 |n+1,x::xs,s,Q,a,h=>by
  unfold drawOrder;refine wpAny_bind ?_;intro Γ p hΓ;rw[show (choose Source.order (x::xs).length:Sem Nat)=Sem.choose .order (x::xs).length pure from rfl,Sem.wp_choose];refine(by simp,2);generalize (model prog w).w.draws Source.order (s.drawn.get Source.order)=v;have b:v%(x::xs).length<(x::xs).length:=ajT _ (by simp);have e:=aab b
  show wpAny (model prog w) A (match (x::xs)[v%(x::xs).length]? with|some y=>(do return y::(<-drawOrder n ((x::xs).eraseIdx (v%(x::xs).length)))) | none=>unsupported "internal:drawOrder") Q E {s with drawn:=s.drawn.bump Source.order}
  rw[e];refine wpAny_bind (HY n _ _ (by rw[ais b];simp at a ⊢;lia) λl d p=>wpAny_pure (h _ d ((p.cons _).trans (oR e))))
end
section
variable{w:World}{o:Obj}{es:Array (Int×Value)}{ep:Nat}{t:SetTable}
theorem Oz(a:cU s.heap S o es ep t)(g:o.cls=.type "set")(h:es.size<scanBound){Q:Value->Shared->Prop}
  (k:¬((dq w&&(!t.plain&&decide (es.size > 1)))=true)->Q (.ref s.heap.objs.size) {s with heap:=s.heap.push (X4 (.int 0 0) 0 (.ref S) es.size ep)})
  (j:(dq w&&(!t.plain&&decide (es.size > 1)))=true -> ∀(l:List Nat) d,agH l (aga es.size)->Q (.ref (s.heap.objs.size+1)) {s with heap:=(s.heap.push {cls:=.type "tuple",data:=.seq (l.map λi:Nat=>rawInt i).toArray 0}).push (X4 (.ref s.heap.objs.size) 0 (.ref S) es.size ep),drawn:=d}):
  wpAny (model prog w) A (pyIter (.ref S)) Q E s:=by
 have f:s.TypeIs (.ref S) "set":=(_,a.get,g)
 refine wpAny_pyIter_slot f PySem.F.slot_set_iter (wpAny_call_entry PySem.F.slot_set_iter f u9 ?_ (PySem.F.args_set_iter_1 _));unfold Builtin.«frozenset.__iter__»
 refine wpAny_bind (m:=Builtin.Frozenset.slot0 "__iter__" _) (wpAny_pure ?_)
 refine wpAny_bind (m:=Builtin.Frozenset.sizeOf S) (wpAny_bind (wpAny_setEntries_of a.get a.dat a.fit (wpAny_pure ?_)));refine wpAny_bind (m:=setDrawn S) ?_;unfold setDrawn;refine wpAny_bind (wpAny_setState_of a.get a.dat a.fit ?_);dsimp only;refine wpAny_bind (oE (wpAny_pure ?_));rw[ajL];split
 ·rename_i b;refine wpAny_bind (HY _ _ _ af8 λl d c=>?_);refine wpAny_bind (wpAny_newTuple ?_ (by rw[aaa,c.length_eq,af8];exact fits_of_scanBound h));refine wpAny_bind (wpAny_setEpoch_of (Heap.get?_push_of_some _ a.get) a.dat a.fit ?_)
  refine wpAny_bind (wpAny_newObj_type (wpAny_pure (9,"set_iterator",_,(_,Heap.get?_push_size _ rfl,7),gb.lookup,2)))
  have e:(s.heap.push {cls:=.type "tuple",data:=.seq (l.map λi:Nat=>rawInt i).toArray 0}).objs.size=s.heap.objs.size+1:=Heap.size_push ..
  have q:=j b l d c;rw[<-e]at q;exact q
 ·rename_i b;refine wpAny_bind (wpAny_pure ?_);refine wpAny_bind (wpAny_setEpoch_of a.get a.dat a.fit ?_)
  refine wpAny_bind (wpAny_newObj_type (wpAny_pure (9,"set_iterator",_,(_,Heap.get?_push_size _ rfl,7),gb.lookup,2)))
  exact k b
abbrev tpO(l:List Nat):Obj:={cls:=.type "tuple",data:=.seq (l.map λi:Nat=>rawInt i).toArray 0}
theorem Pr{T:Addr}{i k:Nat}{l:List Nat}{e:Int×Value}{Q:Option Value->Shared->Prop}(b:s.heap.get? a=some (X4 (.ref T) i (.ref S) es.size ep))(d:s.heap.get? T=some (tpO l))(c:cU s.heap S o es ep t)(g:l[i]?=some k)(h:es[k]?=some e)
  (j:∀h',h'.get? a=some (X4 (.ref T) (i+1:Nat) (.ref S) es.size ep)->Heap.SameBut a s.heap h'->Q (some e.2) {s with heap:=h'}):wpAny (model prog w) A (pyNext (.ref a)) Q E s:=by
 have f:s.TypeIs (.ref a) "set_iterator":=(_,b,7)
 unfold pyNext
 refine wpAny_bind (wpAny_attempt (wpAny_callSpecial?_slot (name:=Str.ofString "__next__") f gb (wpAny_call_entry gb f gO ?_ (iC _))))
 unfold Builtin.«set_iterator.__next__»
 refine wpAny_bind (m:=slotArgs "__next__" 0 _) (wpAny_pure ?_)
 refine wpAny_bind (wpAny_fieldsOf b rfl ?_);dsimp only;refine wpAny_bind (wpAny_setEntries_of c.get c.dat c.fit ?_);rw[if_neg (by simp)];refine wpAny_bind (wpAny_seqItems d rfl ?_);have n:(l.map λi:Nat=>rawInt i).toArray[(i:Int).toNat]?=some (rawInt k):=by
  rw[aaz,aiN,aak,g];rfl
 dsimp only;rw[n];dsimp only [rawInt];rw[aaz,aaz];refine wpAny_bind (Kq c h ?_);refine wpAny_bind (wpAny_setField b rfl (by simp) ?_);exact wpAny_pure (9,wpAny_pure (j _ (Heap.get?_update_self _ b rfl) (Heap.SameBut.update ..)))
theorem JG{T:Addr}{i:Nat}{l:List Nat}{Q:Option Value->Shared->Prop}(h:A.handled=none)(c:s.heap.get? a=some (X4 (.ref T) i (.ref S) es.size ep))(e:s.heap.get? T=some (tpO l))(d:cU s.heap S o es ep t)(g:l[i]?=none)
  (j:∀h',Heap.ExtBut a s.heap h'->Q none {s with heap:=h'}):wpAny (model prog w) A (pyNext (.ref a)) Q E s:=by
 have f:s.TypeIs (.ref a) "set_iterator":=(_,c,7)
 unfold pyNext
 refine wpAny_bind (wpAny_attempt (wpAny_callSpecial?_slot (name:=Str.ofString "__next__") f gb (wpAny_call_entry gb f gO ?_ (iC _))))
 unfold Builtin.«set_iterator.__next__»
 refine wpAny_bind (m:=slotArgs "__next__" 0 _) (wpAny_pure ?_)
 refine wpAny_bind (wpAny_fieldsOf c rfl ?_);dsimp only;refine wpAny_bind (wpAny_setEntries_of d.get d.dat d.fit ?_);rw[if_neg (by simp)];refine wpAny_bind (wpAny_seqItems e rfl ?_);have n:(l.map λi:Nat=>rawInt i).toArray[(i:Int).toNat]?=none:=by
  rw[aaz,aiN,aak,g];rfl
 dsimp only;rw[n];dsimp only;refine wpAny_bind (wpAny_setField c rfl (by simp) ?_);have k:(s.heap.update a (Obj.mapFields (·.setIfInBounds 0 (rawInt 0)))).get? a=some (X4 (.int 0 0) i (.ref S) es.size ep):=Heap.get?_update_self _ c rfl;refine wpAny_bind (wpAny_setField (s:={s with heap:=s.heap.update a (Obj.mapFields (·.setIfInBounds 0 (rawInt 0)))}) k rfl (by simp) ?_)
 refine wpAny_bind (m:=newExc (.type "StopIteration") []) ?_
 simp only[newExc,newTuple];refine wpAny_bind (wpAny_newObj_type ?_ (by size_fits));refine wpAny_bind (m:=firstArgMember _ _) (wpAny_of_eq (a:=Value.none) (by first|rfl | (simp only[firstArgMember];rfl)) ?_);refine wpAny_newObj_type ?_ (by size_fits);simp only[raiseNew];refine wpAny_bind (wpAny_handled ?_);rw[show A.in1.handled=none from h];refine wpAny_bind (wpAny_pure (wpAny_throw ?_))
 refine wpAny_bind (wpAny_isInstance (T := "StopIteration") (b:=true) (_,Heap.get?_push_size _ rfl,7) isSubtype_stop ?_)
 exact wpAny_pure (j _ ((((Heap.SameBut.update ..).trans (Heap.SameBut.update ..)).extBut.push _).push _))
end
section
variable{w:World}{it:Addr}{o:Obj}{es:Array (Int×Value)}{ep:Nat}{t:SetTable}
theorem qZ(a:s.TypeIs (.ref it) "set_iterator"){Q:Value->Shared->Prop}(h:Q (.ref it) s):wpAny (model prog w) A (pyIter (.ref it)) Q E s:=by
 refine wpAny_pyIter_slot a Ht (wpAny_call_entry Ht a xG ?_ (Ag _));show wpAny _ _ (ret (.ref it)) _ _ s
 exact wpAny_pure (9,"set_iterator",_,a,gb.lookup,h)
theorem cU.at{h':Heap}(a:cU base S o es ep t)(e:∀o,base.get? S=some o->h'.get? S=some o):cU h' S o es ep t:=(e _ a.get,a.dat,a.fit)
abbrev wG(ps:List (Int×Value))(i:Nat)(v:Value):Prop:=∃e,ps[i]?=some e/\v=e.2
theorem JQ(p:A.handled=none)(ht:dq w=false)(k:S≠it):
  Walks prog w A it [it,S] [it] es.size (wG (pickOrder (w.params.setOrder S ep) es).toList) (λi h=>h.get? it=some (X4 (.int 0 0) i (.ref S) es.size ep)/\cU h S o es ep t) where
 sub:=λb c=>by simp at c;simp[c]
 frame:=λ_ _ _ a m=>(m it (by simp) _ a.1,a.2.at λo e=>m S (by simp) o e)
 item:=λi s Q E n a d=>by
  have g:(pickOrder (w.params.setOrder S ep) es).size=es.size:=by
   have:=(sI (w.params.setOrder S ep) es).length_eq;simpa using this
  obtain⟨e,f⟩:∃e,(pickOrder (w.params.setOrder S ep) es)[i]?=some e:=((pickOrder (w.params.setOrder S ep) es)[i]'(by omega),by simp[g,n]);refine HX a.1 a.2 (x:=e.2) (nx:=0) (λv r u h=>BL a.2 ht (by rw[f];exact h)) λj q l=>?_;exact d e.2 j s.toks (e,by rw[agh];exact f,7) (q,a.2.at λo e=>l.extBut S o k e) λb o c e=>l.extBut b o (λh=>c (by simp[h])) e
 done:=λs Q E a d=>by
  have g:(pickOrder (w.params.setOrder S ep) es).size=es.size:=by
   have:=(sI (w.params.setOrder S ep) es).length_eq;simpa using this
  refine next_end p a.1 a.2 (λv r u h=>BL a.2 ht (by rw[show (pickOrder (w.params.setOrder S ep) es)[es.size]?=none by simp[g]];exact h)) λj f=>?_;exact d j s.toks λb o c e=>f b o (λh=>c (by simp[h])) e
 self:=λ_ _ _ _ a d=>qZ (_,a.1,7) d
def slotAt(t:SetTable):Nat->Nat
 |0=>0
 |i+1=>t.place.getD i 0+1
theorem wz(h:t.place.toList.Pairwise (· < ·)){i:Nat}(d:i<=t.place.size):SetTable.below t.place (slotAt t i)=i:=by
 obtain⟨k,g,f⟩:=Dc h (slotAt t i);generalize SetTable.below t.place (slotAt t i)=b at k g f;rcases ah7 b i with c|c|c
 ·exfalso
  match i,d,c,g,f with
  |i+1,d,c,g,f=>
   have a:=f b ⋯ (aae _);have e:slotAt t (i+1)=t.place[i]'(by omega)+1:=by simp[slotAt,ajb,show i<t.place.size by omega]
   rw[e]at a;rcases agc b i with j|j
   ·have:=qp h j (show i<t.place.size by lia);lia
   ·have:b=i:=by lia
    subst this;lia
 ·exact c
 ·exfalso;have a:=g i ⋯ c
  match i,d,c,a with
  |0,d,c,a=>exact absurd a (aht _)
  |i+1,d,c,a=>
   have e:slotAt t (i+1)=t.place[i]'(by omega)+1:=by simp[slotAt,ajb,show i<t.place.size by omega]
   rw[e]at a;have:=qp h (show i<i+1 by lia) (show i+1<t.place.size by lia);lia
theorem Gg(v:A.handled=none)(ht:dq w=true)(j:gn true t)(f:t.fits es.size=true)(n:¬((!t.plain&&decide (es.size > 1))=true))(l:S≠it):
  Walks prog w A it [it,S] [it] es.size (wG es.toList) (λi h=>h.get? it=some (X4 (.int (slotAt t i) 0) i (.ref S) es.size ep)/\cU h S o es ep t) where
 sub:=λb c=>by simp at c;simp[c]
 frame:=λ_ _ _ a q=>(q it (by simp) _ a.1,a.2.at λo e=>q S (by simp) o e)
 item:=λi s Q E r a d=>by
  have p:t.place.size=es.size:=by
   simp[SetTable.fits]at f;exact f.1
  have g:es[i]?=some es[i]:=by simp[r]
  have u:t.place[i]?=some (t.place[i]'(by omega)):=by simp[p,r]
  have e:slotAt t (i+1)=t.place[i]'(by omega)+1:=by simp[slotAt,ajb,show i<t.place.size by omega]
  refine HX a.1 a.2 (x:=es[i].2) (nx:=slotAt t (i+1)) (λC z B h=>yR a.2 ht j.1 n (by rw[wz j.2 ⋯,g,u];rw[e]at h;exact h)) λk y m=>?_;exact d es[i].2 k s.toks (es[i],by rw[agh];exact g,7) (y,a.2.at λo e=>m.extBut S o l e) λb o c e=>m.extBut b o (λh=>c (by simp[h])) e
 done:=λs Q E a d=>by
  have p:t.place.size=es.size:=by
   simp[SetTable.fits]at f;exact f.1
  refine next_end v a.1 a.2 (λC z B h=>yR a.2 ht j.1 n (by rw[wz j.2 ⋯,show es[es.size]?=none by simp];exact h)) λk g=>?_;exact d k s.toks λb o c e=>g b o (λh=>c (by simp[h])) e
 self:=λ_ _ _ _ a d=>qZ (_,a.1,7) d
theorem Fx{T:Addr}{l:List Nat}(I:A.handled=none)(n:agH l (aga es.size))(u:S≠it)(z:T≠it):
  Walks prog w A it [it,S,T] [it] es.size (wG (l.filterMap λk=>es[k]?)) (λi h=>h.get? it=some (X4 (.ref T) i (.ref S) es.size ep)/\cU h S o es ep t/\h.get? T=some (tpO l)) where
 sub:=λb j=>by simp at j;simp[j]
 frame:=λ_ _ _ c d=>(d it (by simp) _ c.1,c.2.1.at λo e=>d S (by simp) o e,d T (by simp) _ c.2.2)
 item:=λi s Q E H c m=>by
  have f:l.length=es.size:=by rw[n.length_eq,af8]
  have d:l[i]?=some (l[i]'(by omega)):=by simp[f,H]
  have v:l[i]'(by omega)<es.size:=agK.mp (n.mem_iff.mp (age _));have p:es[l[i]'(by omega)]?=some (es[l[i]'(by omega)]):=by simp[v]
  have F:(l.filterMap λk=>es[k]?)[i]?=some (es[l[i]'(by omega)]):=by
   have G:∀g:List Nat,(∀k∈g,k<es.size)->(g.filterMap λk=>es[k]?).map some=g.map λk=>es[k]?:=by
    intro g
    induction g with
    |nil=>intro _;rfl
    |cons a g D=>
     intro h;have C:es[a]?=some (es[a]'(h a aal)):=by simp[h a aal]
     rw[ahf,C,aax,aax,D λk d=>h k (aai _ d),C]
   have:=congrArg (λx=>x[i]?) (G l λk d=>agK.mp (n.mem_iff.mp d));simp only[aak,d,ag1,p]at this;cases B:(l.filterMap λk=>es[k]?)[i]? with
   |none=>rw[B]at this;cases this
   |some y=>rw[B]at this;injection this
  refine Pr c.1 c.2.2 c.2.1 d p λr J q=>?_;exact m _ r s.toks (_,F,7) (J,c.2.1.at λo e=>q.extBut S o u e,q.extBut T _ z c.2.2) λb o j e=>q.extBut b o (λh=>j (by simp[h])) e
 done:=λs Q E c m=>by
  have f:l.length=es.size:=by rw[n.length_eq,af8]
  refine JG I c.1 c.2.2 c.2.1 (by simp[f]) λr p=>?_;exact m r s.toks λb o j e=>p b o (λh=>j (by simp[h])) e
 self:=λ_ _ _ _ c m=>qZ (_,c.1,7) m
theorem xg(es:Array (Int×Value)):((aga es.size).filterMap λk=>es[k]?)=es.toList:=by
 apply agn;intro i;have c:∀n,n<=es.size->((aga n).filterMap λk=>es[k]?)=es.toList.take n:=by
  intro n
  induction n with
  |zero=>intro _;simp
  |succ n b=>
   intro h;have a:es[n]?=some (es[n]'(by omega)):=by simp[show n<es.size by omega]
   rw[agl,List.filterMap_append,b ⋯,ahf,a,List.filterMap_nil,af7,agh,a];rfl
 rw[c es.size (aae _)];rw[aaj (by simp)]
theorem KY(i:A.handled=none)(g:cU s.heap S o es ep t)(n:o.cls=.type "set")(a:es.size<scanBound)(m:gn (dq w) t){Q:Value->Shared->Prop}
  (h:∀(I:Addr) (h':Heap) d fp ps St,agH ps es.toList->Walks prog w A I fp [I] es.size (wG ps) St->St 0 h'->(∀b o,s.heap.get? b=some o->h'.get? b=some o)->s.heap.objs.size<=I->(∀b∈fp,b=S\/s.heap.objs.size<=b)->Q (.ref I) {s with heap:=h',drawn:=d}):
  wpAny (model prog w) A (pyIter (.ref S)) Q E s:=by
 have f:S<s.heap.objs.size:=Heap.lt_size g.get;refine Oz g n a (λc=>?_) λc l d j=>?_
 ·cases ht:dq w with
  |false=>
   refine h s.heap.objs.size _ s.drawn _ _ _ (sI _ _) (JQ (o:=o) (t:=t) i ht (aaA f)) (Heap.get?_push_size _ rfl,g.at λo e=>Heap.get?_push_of_some _ e) (λb o e=>Heap.get?_push_of_some _ e) (aae _) ?_;intro b a;simp at a;rcases a with rfl|rfl
   ·exact .inr (aae _)
   ·exact .inl rfl
  |true=>
   rw[ht]at m c;rw[aiH]at c;refine h s.heap.objs.size _ s.drawn _ _ _ .rfl (Gg (o:=o) (t:=t) i ht m g.fit c (aaA f)) (Heap.get?_push_size _ rfl,g.at λo e=>Heap.get?_push_of_some _ e) (λb o e=>Heap.get?_push_of_some _ e) (aae _) ?_;intro b a;simp at a;rcases a with rfl|rfl
   ·exact .inr (aae _)
   ·exact .inl rfl
 ·have p:(s.heap.push (tpO l)).objs.size=s.heap.objs.size+1:=Heap.size_push ..;refine h (s.heap.objs.size+1) _ d _ _ _ ?_ (Fx (o:=o) (t:=t) (T:=s.heap.objs.size) i j (aaA (ahu f)) (aaA (ahb _))) (2,g.at λo e=>Heap.get?_push_of_some _ (Heap.get?_push_of_some _ e),Heap.get?_push_of_some _ (Heap.get?_push_size _ rfl)) (λb o e=>Heap.get?_push_of_some _ (Heap.get?_push_of_some _ e)) (ahE _) ?_
  ·have:=j.filterMap λk=>es[k]?;rw[xg]at this;exact this
  ·rw[<-p];exact Heap.get?_push_size _ rfl
  ·intro b a;simp at a;rcases a with rfl|rfl|rfl
   ·exact .inr (ahE _)
   ·exact .inl rfl
   ·exact .inr (aae _)
end
section
variable{w:World}{o:Obj}{es:Array (Int×Value)}{ep:Nat}{t:SetTable}
theorem N7{Q:Bool->Shared->Prop}(a:s.TypeIs (.ref S) "set")(h:Q false s):wpAny (model prog w) A (Builtin.List.listLengthHint (.ref S)) Q E s:=by
 unfold Builtin.List.listLengthHint;refine wpAny_bind (wpAny_specialOf a PySem.F.slot_set_len.lookup ?_)
 generalize d:("set.__len__" : String)=i0
 wp_delta
 rw[show splitId i0=some (pq ("set") ("__len__")) by subst d;decide +kernel]
 subst d
 refine wpAny_bind (wpAny_isInstance (T := "set") (b:=true) a (by rw[isSubtype_type];kernel_rfl) ?_)
 refine wpAny_ite_split (λc=>absurd c ∅) λ_=>wpAny_ite_split (λ_=>?_) λc=>absurd (by decide +kernel) c;exact wpAny_bind (wpAny_typeOf a (wpAny_pure h))
theorem Gr{s s':Shared}(m:Moved i (λa b=>b=a) s s'):s'={s with heap:=s'.heap,toks:=s'.toks}:=by
 obtain⟨h,k,n,d,f⟩:=s';obtain⟨j,l,p,e,g⟩:=s;have a:=m.gens;have b:=m.drawn;have c:=m.os;dsimp only at a b c;subst a;subst b;subst c;rfl
theorem uh{Q:List Value->Shared->Prop}(X:A.handled=none)(D:cU s.heap S o es ep t)(B:o.cls=.type "set")(i:es.size<scanBound)(Y:gn (dq w) t)
  (h:∀(c:Array Value) (h':Heap) d tk ps,agH ps es.toList->ItemsOf (wG ps) c es.size->s.heap.objs.size<h'.objs.size->(∀b o,s.heap.get? b=some o->h'.get? b=some o)->Q c.toList {s with heap:=h',drawn:=d,toks:=tk}):
  wpAny (model prog w) A (collect (.ref S)) Q E s:=by
 have J:=Heap.lt_size D.get
 have a0:s.TypeIs (.ref S) "set":=(_,D.get,B)
 have H:es.size<=sizeLine:=fits_of_scanBound i;unfold collect;refine wpAny_bind (wpAny_runValue (codeAny_builtin PySem.F.entry_proto_collect ?_));rw[Around.under_plainId PySem.F.plain_proto_collect _];refine wpAny_bind (m:=newList []) (wpAny_newObj_type (wpAny_pure (plainId_quiet PySem.F.plain_list_iadd _,codeAny_builtin PySem.F.entry_list_iadd ?_)));rw[Around.under_plainId PySem.F.plain_list_iadd _]
 show wpAny _ A.in1 (Builtin.List.listExtendWith (.ref s.heap.objs.size) (.ref S) (.ref s.heap.objs.size)) _ _ {s with heap:=s.heap.push (seqObj "list" #[] 0)}
 generalize k:s.heap.objs.size=L at *
 have g:∀b o,s.heap.get? b=some o->(s.heap.push (seqObj "list" #[] 0)).get? b=some o:=λb o e=>Heap.get?_push_of_some _ e
 have N:(s.heap.push (seqObj "list" #[] 0)).get? L=some (seqObj "list" #[] 0):=by
  rw[<-k];exact Heap.get?_push_size _ rfl
 have a:(s.heap.push (seqObj "list" #[] 0)).objs.size=L+1:=by rw[<-k];exact Heap.size_push ..
 generalize s.heap.push (seqObj "list" #[] 0)=G at *
 have j:cU G S o es ep t:=D.at λo e=>g _ _ e;have p:L≠S:=λe=>absurd J (by rw[e];exact agB _)
 have x:Shared.TypeIs {s with heap:=G} (.ref S) "set":=(_,j.get,B)
 unfold Builtin.List.listExtendWith;refine wpAny_bind (wpAny_typeOf x ?_);rw[if_neg (by simp[Builtin.List.listSameRef,p])];refine wpAny_bind (KY (s:={s with heap:=G}) (by simp[X]) j B i Y λI l d Z ps St V W T C R K=>?_)
 have r:l.get? L=some (seqObj "list" #[] 0):=C _ _ N
 have v:Shared.TypeIs {s with heap:=l,drawn:=d} (.ref S) "set":=(_,C _ _ j.get,B)
 refine wpAny_bind (wpAny_holding (N7 v ?_));rw[if_pos ∅];refine wpAny_bind (wpAny_rule (wpAny_bind ?_));have a1:L≠I:=λe=>by
  have:L+1<=I:=a ▸ R;lia
 have n:L∉Z:=λz=>by
  rcases K _ z with z|z
  ·exact p z
  ·rw[a]at z;lia
 show wpAny _ _ (updateSeq L (·.push .none) >>= λ_=>updateSeq L (·.pop)) _ _ _;refine wpAny_bind (wpAny_updateSeq r rfl ?_);have q:=Heap.get?_update_self (Obj.mapSeq (·.push Value.none)) r rfl;refine wpAny_updateSeq (hz:=by seq_fits) q rfl ?_;have M:=Heap.get?_update_self (Obj.mapSeq (·.pop)) q rfl;have f:∀b o,b≠L->l.get? b=some o->((l.update L (Obj.mapSeq (·.push Value.none))).update L (Obj.mapSeq (·.pop))).get? b=some o:=λb o i e=>(Heap.get?_update_other _ _ (agA i)).trans ((Heap.get?_update_other _ _ (agA i)).trans e);generalize ((l.update L (Obj.mapSeq (·.push Value.none))).update L (Obj.mapSeq (·.pop)))=h2 at *;refine wpAny_pure (plainId_quiet PySem.F.plain_extend_loop _,codeAny_extend_loopS W.toS H L n _ es.size 0 _ #[] _ rfl (af3 _) (W.frame 0 _ _ T λb i o e=>f b o (λz=>n (z ▸ i)) e) M (ItemsOf.nil _) λU c c' P u y=>?_);rw[Gr P];refine wpAny_bind (wpAny_load u (wpAny_pure ?_));refine h c U.heap d _ ps V y (Heap.lt_size u) λb o e=>P.heap b o (λz=>?_) (f b o ?_ (C _ _ (g _ _ e)))
 ·have:=Heap.lt_size e;rcases aav.mp z with z|z
  ·rw[z,k]at this;exact agB _ this
  ·rw[aan.mp z,k]at this;have O:L+1<=I:=by rw[<-a];exact R
   exact absurd (aas (ahb L) O) (Nat.lt_asymm this)
 ·intro z;have:=Heap.lt_size e;rw[z,k]at this;exact agB _ this
end
section
variable{w:World}
theorem Jz{es:Array (Int×Value)}{l:List (Int×(Int×Value))}(o:nH (intKind prog w) es.toList c l){ps:List (Int×Value)}(d:agH ps es.toList)(f:ItemsOf (wG ps) y es.size):∃ns,IntsAre y.toList ns/\agH ns c:=by
 obtain⟨g,a⟩:=o.perm d;have j:ps.length=es.size:=by rw[d.length_eq,aaf]
 have h:y.toList=ps.map (·.2):=by
  apply agn;intro i;rw[aak];cases k:y.toList[i]? with
  |none=>
   have:y.toList.length<=i:=aiA.mp k;rw[aaf,f.1,<-j]at this;rw[aaC this];rfl
  |some v=>
   obtain⟨e,u,r⟩:=f.2 i v (by rw[<-agh];exact k);rw[u,r];rfl
 refine(g.map (·.1),2,a.fst);rw[h,<-a.snd];have b:=a.is
 clear a h j f d
 induction g with
 |nil=>exact .nil
 |cons p g m=>
  obtain⟨t,ht⟩:=Value.isInt_shape (b p aal).1;rw[aax,aax,aax,ht];exact .cons _ t (m λq n=>b q (aai _ n))
end
end Tw
namespace L2
open PySem.Spec PyProof.Rows Tw
theorem Inv.drawnTo(I:Inv X π σ H s)(d:Drawn):Inv X π σ H {s with drawn:=d}:=
 I.step (g':=s.gens) (t':=s.toks) (d':=d) (ch:=[]) (λ_ z=>nomatch z) (λ_ _ _ _ _ e _=>e) (λb o _ _ _ e _=>(o.slots,e)) (λ_ _ _ _ n=>n) (λb o _ e=>(o,e)) (λ_ _ e=>e) (λ_ _ _ e=>e) (λb a e=>(#[],by rw[e];simp)) (λ_ h=>h) I.hok I.bare
def Uu(P:Program)(w:World)(a:Addr)(b:List Int):HO:=.ext λh=>jJ (dq w) (intKind P w) h a b
theorem Qo{w:World}{a:Addr}(e:jJ (dq w) (intKind prog w) base a c):bN prog w H base a (Uu prog w a c):=by
 refine(e,2,λ_ _ p k=>p.at k);obtain⟨o,_,_,_,_,b,_⟩:=e;exact(o,b)
theorem JD(E:X.calm=true):fZ X (.type "set") (λxs H Q=>∃(p:Addr) (ns:List Int),xs=[.ref p]/\My X.K H p ‹ns›/\(met (λi=>ns.getD i 0) ns.length).length+1<scanBound /\
  ∀l j o,H l=none->j=met (λi=>ns.getD i 0) ns.length->o=Uu X.prog X.w l j->Q (.ref l) (upd H l o)):=by
 intro π s σ H xs L Q I r h;obtain⟨p,ns,rfl,C,F,q⟩:=h;obtain⟨u,rfl,y⟩:=vals1 r;cases y;obtain⟨a,z,A,M⟩:=I.list C;have k:=intsAre_of z;have d:=k.length;have c:a.toArray.size=ns.length:=by simpa using d
 refine yu (knd:=intKind X.prog X.w) (f:=λi=>ns.getD i 0) (I.ok.hd E) A.isList (λi v e=>?_) (by rw[c];exact F) λN x m D=>?_
 ·have J:a[i]?=some v:=by simpa using e
  have:∀{g:List Value}{ns:List Int},IntsAre g ns -> ∀(i:Nat) v,g[i]?=some v->Value.isInt (ns.getD i 0) v=true/\v.scannable=true:=by
   intro g ns G
   induction G with
   |nil=>intro i v e;simp at e
   |cons n t _ B=>
    intro i v e;cases i with
    |zero=>
     simp at e;subst e;exact(by simp[Value.isInt],7)
    |succ i=>exact B i v (by simpa using e)
  exact this k i v J
 ·rw[c]at m;exact(.ref s.heap.objs.size,_,I.laid (t':=x) (λb o e=>D b o (Heap.lt_size e) e) (aae _) (Qo m),7,q _ _ _ (I.hok.fresh (aae _)) rfl rfl)
end L2
namespace Tw
open PyProof.Rows
structure TB(a₀:Array Keyed)(pd:Array (Nat×Nat×Nat))(st:SortSt):Prop where
 perm:(arrOf st).Perm a₀
 kind:kindOf st=oneType'
 failed:failedOf st=none
 pend:pendingOf st=pd
theorem TB.size{a₀:Array Keyed}{a:Array (Nat×Nat×Nat)}{st:SortSt}(h:TB a₀ a st):(arrOf st).size=a₀.size:=h.perm.size_eq
theorem TB.set{a₀:Array Keyed}{a:Array (Nat×Nat×Nat)}{st:SortSt}(h:TB a₀ a st){xs:Array Keyed}(b:xs.Perm (arrOf st)):TB a₀ a (setArr st xs):=(b.trans h.perm,h.kind,h.failed,h.pend)
def Xy(κ:KeyKind)(xs:Array Keyed)(lo n:Nat):Prop:=∀i j,i<=j->j<n->κ.kle (KK κ xs (lo+i)) (KK κ xs (lo+j))
def X5(κ:KeyKind)(xs:Array Keyed)(lo n:Nat):Prop:=∀i j,i<=j->j<n->κ.kle (KK κ xs (lo+j)) (KK κ xs (lo+i))
def Xj(lo:Nat)(xs ys:Array Keyed):Prop:=∀k:Nat,k<lo->ys[k]?=xs[k]?
theorem Xj.refl(lo:Nat)(xs:Array Keyed):Xj lo xs xs:=λ_ _=>rfl
theorem Xj.trans{lo:Nat}{xs ys zs:Array Keyed}(h:Xj lo xs ys)(g:Xj lo ys zs):Xj lo xs zs:=λk a=>(g k a).trans (h k a)
theorem iT{lo i j:Nat}{xs:Array Keyed}(a:j<=xs.size)(c:lo<=i):Xj lo xs (mirror xs i j ((j-i) / 2)):=λk b=>by
 rw[getElem?_mirror_all a,if_neg ⋯]
theorem Xy.one(κ:KeyKind)(xs:Array Keyed)(lo:Nat):Xy κ xs lo 1:=λi j a b=>by
 have:i=j:=by lia
 subst this;exact KeyOrd.kle_refl _
theorem Xy.more{κ:KeyKind}{xs:Array Keyed}{lo x:Nat}(h:Xy κ xs lo x)(g:1<=x)(e:κ.blt (KK κ xs (lo+x)) (KK κ xs (lo+x-1))=false):Xy κ xs lo (x+1):=λi j c f=>by
 by_cases a:j<x
 ·exact h i j c a
 have b:j=x:=by lia
 subst b;by_cases d:i=j
 ·subst d;exact KeyOrd.kle_refl _
 refine KeyOrd.kle_trans (h i (j-1) ⋯ ⋯) ?_;rw[show lo+(j-1)=lo+j-1 by lia];exact e
theorem X5.more{κ:KeyKind}{xs:Array Keyed}{lo x:Nat}(h:X5 κ xs lo x)(g:1<=x)(e:κ.kle (KK κ xs (lo+x)) (KK κ xs (lo+x-1))):X5 κ xs lo (x+1):=λi j c f=>by
 by_cases a:j<x
 ·exact h i j c a
 have b:j=x:=by lia
 subst b;by_cases d:i=j
 ·subst d;exact KeyOrd.kle_refl _
 have q:=h i (j-1) ⋯ ⋯;rw[show lo+(j-1)=lo+j-1 by lia]at q;exact KeyOrd.kle_trans e q
theorem X5.turn{κ:KeyKind}{xs:Array Keyed}{lo n:Nat}(h:X5 κ xs lo n)(a:lo+n<=xs.size):Xy κ (mirror xs lo (lo+n) ((lo+n-lo) / 2)) lo n:=λi j b c=>by
 rw[KK_mirror a,KK_mirror a,if_pos ⋯,if_pos ⋯];have q:=h (n-1-j) (n-1-i) ⋯ ⋯;rw[show lo+(lo+n)-1-(lo+i)=lo+(n-1-i) by lia,show lo+(lo+n)-1-(lo+j)=lo+(n-1-j) by lia];exact q
theorem X5.keys{κ:KeyKind}{xs ys:Array Keyed}{lo n:Nat}(h:X5 κ xs lo n)(e:∀k,KK κ ys k=KK κ xs k):X5 κ ys lo n:=λi j a b=>by
 rw[e,e];exact h i j a b
section
variable{w:World}{a₀:Array Keyed}{κ:KeyKind}{pd:Array (Nat×Nat×Nat)}
theorem TB.atK{st:SortSt}(h:TB a₀ pd st)(g:KeysOf κ a₀){i:Nat}(f:i<a₀.size):∃x p a,(arrOf st)[i]?=some (pq x p)/\κ.keyOf x=some a/\KK κ (arrOf st) i=a:=by
 have b:i<(arrOf st).size:=by rw[h.size];exact f
 have d:(arrOf st)[i]∈a₀.toList:=(ahm.mp h.perm).mem_iff.mp (agg _);obtain⟨a,c⟩:=g _ d;have e:(arrOf st)[i]?=some (pq ((arrOf st)[i].1) ((arrOf st)[i].2)):=getElem?_pos _ i b;exact(1,a,e,c,by unfold KK;rw[e];simp[c])
theorem pZ{st:SortSt}{i j:Nat}{Q:Option Bool->SortSt->Prop}(hO:κ.OneLt)(c:TB a₀ pd st)(d:KeysOf κ a₀)(k:i<a₀.size)(g:j<a₀.size)
  (h:Q (some (κ.blt (KK κ (arrOf st) i) (KK κ (arrOf st) j))) st):wpS (model prog w) A E s (ltAt' i j) Q st:=by
 obtain⟨x,p,a,o,m,f⟩:=c.atK d k;obtain⟨y,q,b,n,l,e⟩:=c.atK d g;rw[f,e]at h;exact wpS_ltAtK hO c.kind o n m l h
theorem Bx{st:SortSt}{lo :Nat}{Q:Option Nat->SortSt->Prop}(hO:κ.OneLt)(h0:KeysOf κ a₀)(R:TB a₀ pd st)(hn:lo+n<=a₀.size)(h1:1<=n)
  (h:∀m e,TB a₀ pd e->Xj lo (arrOf st) (arrOf e)->1<=m->m<=n->Xy κ (arrOf e) lo m->Q (some m) e):wpS (model prog w) A E s (countRun' lo n) Q st:=by
 have a0:∀(a:Nat) (f:SortSt),TB a₀ pd f->1<=a->a<=n->Xy κ (arrOf f) lo a -> ∀(G:Option (Option Nat)×Nat->SortSt->Prop),
   (∀d,a<=d->d<=n->Xy κ (arrOf f) lo d->(d=n\/κ.klt (KK κ (arrOf f) (lo+d)) (KK κ (arrOf f) (lo+d-1)))->G (pq none d) f) ->
   wpS (model prog w) A E s (forIn [a:n] ((pq none a):Option (Option Nat)×Nat) λ_ r=>do
    let x <-ltAt' (lo+r.2) (lo+r.2-1)
    match x with
    |some b=>if b=true then pure (ForInStep.done (pq none r.2))else pure (ForInStep.yield (pq none (r.2+1)))
    |_=>pure (ForInStep.done (pq (some none) r.2))) G f:=by
  intro a f V b6 b1 U G P;refine wpS_forRange (I:=λx c e=>e=f/\c=(pq none x)/\Xy κ (arrOf f) lo x) ?_ ?_ (7,7,U)
  ·rintro x c e T a3 ⟨rfl,rfl,C⟩;refine wpS_bind (pZ hO V h0 ⋯ ⋯ ?_);cases W:κ.blt (KK κ (arrOf e) (lo+x)) (KK κ (arrOf e) (lo+x-1))
   ·exact wpS_pure (7,7,C.more ⋯ W)
   ·exact wpS_pure (P x T ⋯ C (.inr W))
  ·rintro c e ⟨rfl,rfl,C⟩;rw[show max a n=n by lia]at C ⊢;exact P n b1 (aae _) C (.inl rfl)
 have B:∀{i j:Nat}{f:SortSt}{G:Unit->SortSt->Prop},G () (setArr f (mirror (arrOf f) i j ((j-i) / 2)))->wpS (model prog w) A E s (reverseSlice' i j) G f:=λP=>by
  rw[reverseSlice'_eq];exact wpS_modify P
 have M:∀(d:Nat) (f:SortSt) (k:Option (Option Nat)×Nat->StateT SortSt Sem (Option Nat)),(∀m,k (pq none m)=pure (some m))->TB a₀ pd f->Xj lo (arrOf st) (arrOf f)->1<=d->d<=n->X5 κ (arrOf f) lo d ->
   wpS (model prog w) A E s (reverseSlice' lo (lo+d) >>= λ_=>(forIn [d:n] ((pq none d):Option (Option Nat)×Nat) λ_ r=>do
     let x <-ltAt' (lo+r.2) (lo+r.2-1)
     match x with
     |some b=>if b=true then pure (ForInStep.done (pq none r.2))else pure (ForInStep.yield (pq none (r.2+1)))
     |_=>pure (ForInStep.done (pq (some none) r.2))) >>= k) Q f:=by
  intro d f k hk V hL K J hd;have p:lo+d<=(arrOf f).size:=by rw[V.size];lia
  refine wpS_bind (B ?_);have L:TB a₀ pd (setArr f (mirror (arrOf f) lo (lo+d) ((lo+d-lo) / 2))):=V.set (mirror_perm _ _ _ _);refine wpS_bind (a0 d _ L K J (hd.turn p) _ λm X v a4 _=>?_);rw[hk];exact wpS_pure (h m _ L (hL.trans (iT p (aae _))) ⋯ v a4)
 have O:∀(N:Nat) (f:SortSt),TB a₀ pd f->Xj lo (arrOf st) (arrOf f)->1<=N->N<=n->X5 κ (arrOf f) lo N -> ∀(G:Option (Option Nat)×Nat×Nat->SortSt->Prop),
   (∀m q e,TB a₀ pd e->Xj lo (arrOf st) (arrOf e)->N<=m->m<=n->X5 κ (arrOf e) lo m->q+1<=m->(∀i,lo+m-(q+1)<=i->i<lo+m->KK κ (arrOf e) i=KK κ (arrOf e) (lo+m-1))->G (pq none (pq m q)) e) ->
   wpS (model prog w) A E s (forIn [N:n] ((pq none (pq N 0)):Option (Option Nat)×Nat×Nat) λ_ r=>ltAt' (lo+r.2.1) (lo+r.2.1-1) >>= λx=>match x with
    |some b=>if b=true then (if r.2.2 > 0 then (reverseSlice' (lo+r.2.1-(r.2.2+1)) (lo+r.2.1) >>= λ_=>pure (ForInStep.yield (pq none (pq (r.2.1+1) 0))))else pure (ForInStep.yield (pq none (pq (r.2.1+1) 0))))
     else (ltAt' (lo+r.2.1-1) (lo+r.2.1) >>= λy=>match y with
      |some b=>if b=true then pure (ForInStep.done (pq none (pq r.2.1 r.2.2)))else pure (ForInStep.yield (pq none (pq (r.2.1+1) (r.2.2+1))))
      |_=>pure (ForInStep.done (pq (some none) (pq r.2.1 r.2.2))))
    |_=>pure (ForInStep.done (pq (some none) (pq r.2.1 r.2.2)))) G f:=by
  intro N f V hL b5 D hd G P;refine wpS_forRange (I:=λx c e=>∃q,c=(pq none (pq x q))/\TB a₀ pd e/\Xj lo (arrOf st) (arrOf e)/\X5 κ (arrOf e) lo x/\q+1<=x /\ ∀i,lo+x-(q+1)<=i->i<lo+x->KK κ (arrOf e) i=KK κ (arrOf e) (lo+x-1)) ?_ ?_ (0,7,V,hL,hd,6,λi a b=>by congr 1;lia)
  ·rintro x c e T a3 ⟨q,rfl,g,o,l,H,F⟩;have p:lo+x<=(arrOf e).size:=by rw[g.size];lia
   dsimp only;refine wpS_bind (pZ hO g h0 ⋯ ⋯ ?_);cases W:κ.blt (KK κ (arrOf e) (lo+x)) (KK κ (arrOf e) (lo+x-1))
   ·refine wpS_bind (pZ hO g h0 ⋯ ⋯ ?_);cases hg:κ.blt (KK κ (arrOf e) (lo+x-1)) (KK κ (arrOf e) (lo+x))
    ·have eq:KK κ (arrOf e) (lo+x)=KK κ (arrOf e) (lo+x-1):=κ.total _ _ W hg;refine wpS_pure (q+1,7,g,o,l.more ⋯ (by rw[eq];exact KeyOrd.kle_refl _),6,λi a b=>?_);rw[show lo+(x+1)-1=lo+x by lia,eq];by_cases hi:i=lo+x
     ·rw[hi,eq]
     ·exact F i ⋯ ⋯
    ·exact wpS_pure (P x q e g o T ⋯ l H F)
   ·have stp:∀ys:Array Keyed,(∀k,KK κ ys k=KK κ (arrOf e) k)->X5 κ ys lo (x+1):=λys hk=>(l.more ⋯ (KeyOrd.kle_of_klt W)).keys hk;show wpS _ _ _ _ (if q > 0 then _ else _) _ _;by_cases t:q > 0
    ·rw[if_pos t];refine wpS_bind (B (wpS_pure (0,7,g.set (mirror_perm _ _ _ _),o.trans (iT p ⋯),stp _ λk=>KK_mirror_equal p F k,6,λi a b=>by congr 1;lia)))
    ·rw[if_neg t];exact wpS_pure (0,7,g,o,stp _ λk=>rfl,6,λi a b=>by congr 1;lia)
  ·rintro c e ⟨q,rfl,g,o,l,H,F⟩;rw[show max N n=n by lia]at l H F ⊢;exact P n q e g o D (aae _) l H F
 rw[countRun'_eq];refine wpS_bind (a0 1 st R (aae _) h1 (Xy.one κ _ lo) _ λd K J U a7=>?_);dsimp only;by_cases D:d=n
 ·rw[if_pos (by simpa using D)];exact wpS_pure (h d st R (Xj.refl _ _) K J U)
 rw[if_neg (by simpa using D)];have Y:=a7.resolve_left D;by_cases Z:d > 1
 ·rw[if_pos Z];refine wpS_bind (pZ hO R h0 ⋯ ⋯ ?_);have p:lo+d<=(arrOf st).size:=by rw[R.size];lia
  cases a5:κ.blt (KK κ (arrOf st) lo) (KK κ (arrOf st) (lo+d-1))
  ·have z:∀k,lo<=k->k<lo+d->KK κ (arrOf st) k=KK κ (arrOf st) (lo+d-1):=λk b3 b2=>by
    have a1:=U 0 (k-lo) ⋯ ⋯;have a2:=U (k-lo) (d-1) ⋯ ⋯;rw[show lo+(k-lo)=k by lia]at a1 a2;rw[show lo+(d-1)=lo+d-1 by lia]at a2;exact KeyOrd.kle_antisymm a2 (KeyOrd.kle_trans a5 a1)
   refine wpS_bind (B (wpS_bind (wpS_lift (wpAny_rule (7,2)))));have L:TB a₀ pd (setArr st (mirror (arrOf st) lo (lo+d) ((lo+d-lo) / 2))):=R.set (mirror_perm _ _ _ _);refine wpS_bind (O (d+1) _ L (iT p (aae _)) ⋯ ⋯ ?_ _ λm q e g o X v l a6 F=>?_)
   ·refine X5.keys (xs:=arrOf st) (λi j a9 hj=>?_) λk=>KK_mirror_equal p z k;by_cases b4:j<d
    ·rw[z (lo+i) ⋯ ⋯,z (lo+j) ⋯ ⋯];exact KeyOrd.kle_refl _
    have:j=d:=by lia
    subst this;by_cases S:i=j
    ·subst S;exact KeyOrd.kle_refl _
    rw[z (lo+i) ⋯ ⋯];exact KeyOrd.kle_of_klt Y
   ·have u:lo+m<=(arrOf e).size:=by rw[g.size];lia
    dsimp only;by_cases t:q > 0
    ·rw[if_pos t];exact wpS_bind (B (M m _ _ (λ_=>rfl) (g.set (mirror_perm _ _ _ _)) (o.trans (iT u ⋯)) ⋯ v (l.keys λk=>KK_mirror_equal u F k)))
    ·rw[if_neg t];exact M m _ _ (λ_=>rfl) g o ⋯ v l
  ·exact wpS_pure (h d st R (Xj.refl _ _) K J U)
 ·rw[if_neg Z];have:d=1:=by lia
  subst this;refine wpS_bind (wpS_lift (wpAny_rule (7,2)));refine wpS_bind (O (1+1) _ R (Xj.refl _ _) ⋯ ⋯ ?_ _ λm q e g o X v l a6 F=>?_)
  ·intro i j a9 hj;by_cases S:i=j
   ·subst S;exact KeyOrd.kle_refl _
   have b0:i=0:=by lia
   have a8:j=1:=by lia
   subst b0;subst a8;exact KeyOrd.kle_of_klt Y
  ·have u:lo+m<=(arrOf e).size:=by rw[g.size];lia
   dsimp only;by_cases t:q > 0
   ·rw[if_pos t];exact wpS_bind (B (M m _ _ (λ_=>rfl) (g.set (mirror_perm _ _ _ _)) (o.trans (iT u ⋯)) ⋯ v (l.keys λk=>KK_mirror_equal u F k)))
   ·rw[if_neg t];exact M m _ _ (λ_=>rfl) g o ⋯ v l
theorem xJ{st:SortSt}{lo n :Nat}{Q:Bool->SortSt->Prop}(hO:κ.OneLt)(R:KeysOf κ a₀)(O:TB a₀ pd st)(X:lo+n<=a₀.size)(T:z<=n)(M:Xy κ (arrOf st) lo z)
  (h:∀a,TB a₀ pd a->Xj lo (arrOf st) (arrOf a)->Xy κ (arrOf a) lo n->Q true a):wpS (model prog w) A E s (binarySort' lo n z) Q st:=by
 rw[binarySort'_eq];refine wpS_bind (wpS_mono (wpS_forRange (I:=λk c a=>c=(pq none (()))/\TB a₀ pd a/\Xj lo (arrOf st) (arrOf a)/\Xy κ (arrOf a) lo (min k n)) (Q:=λc a=>c=(pq none (()))/\TB a₀ pd a/\Xj lo (arrOf st) (arrOf a)/\Xy κ (arrOf a) lo n) ?_ ?_ ?_) ?_)
 ·rintro k c a W V ⟨rfl,e,m,d⟩;rw[show min k n=k by lia]at d;have v:lo+k<a₀.size:=by lia
  refine wpS_bind (wpS_mono (wpS_forRange (I:=λx c b=>b=a /\ ∃l r,c=(pq none (pq l r))/\l<=r/\r<=k/\r-l<=k-x/\(∀i,i<l->κ.kle (KK κ (arrOf a) (lo+i)) (KK κ (arrOf a) (lo+k))) /\ ∀i,r<=i->i<k->κ.klt (KK κ (arrOf a) (lo+k)) (KK κ (arrOf a) (lo+i)))
   (Q:=λc b=>b=a /\ ∃l r,c=(pq none (pq l r))/\l<=k/\(∀i,i<l->κ.kle (KK κ (arrOf a) (lo+i)) (KK κ (arrOf a) (lo+k))) /\ ∀i,l<=i->i<k->κ.klt (KK κ (arrOf a) (lo+k)) (KK κ (arrOf a) (lo+i))) ?_ ?_ ?_) ?_)
  ·rintro x c b _ S ⟨rfl,l,r,rfl,y,o,N,f,g⟩;dsimp only;by_cases u:l >= r
   ·rw[if_pos u];have:l=r:=by lia
    subst this;exact wpS_pure (7,l,l,7,o,f,g)
   rw[if_neg u];refine wpS_bind (pZ hO e R v ⋯ ?_);cases H:κ.blt (KK κ (arrOf b) (lo+k)) (KK κ (arrOf b) (lo+(l+r) / 2))
   ·refine wpS_pure (7,_,9,6,o,6,λi K=>?_,g);exact KeyOrd.kle_trans (d i ((l+r) / 2) ⋯ ⋯) H
   ·refine wpS_pure (7,_,9,6,6,6,f,λi hi1 hi2=>?_);exact KeyOrd.klt_of_klt_of_kle H (d ((l+r) / 2) i hi1 hi2)
  ·rintro c b ⟨rfl,l,r,rfl,y,o,N,f,g⟩;have:l=r:=by lia
   subst this;exact(7,l,l,7,o,f,g)
  ·exact(7,0,k,7,6,6,6,λi K=>by lia,λi P Y=>by lia)
  ·rintro c b ⟨rfl,l,r,rfl,U,f,g⟩;dsimp only;rw[moveDown'_eq];refine wpS_bind (wpS_modify (wpS_pure (7,e.set (bubble_perm _ _ _),m.trans λi K=>?_,λi j p J=>?_)))
   ·rw[getElem?_bubble (by rw[e.size];exact v) _ ⋯,if_neg ⋯,if_neg ⋯]
   have L:∀t,t<=k->KK κ (bubble (arrOf b) (lo+k) (lo+k-(lo+l))) (lo+t)=if t=l then KK κ (arrOf b) (lo+k)else if l<t then KK κ (arrOf b) (lo+(t-1))else KK κ (arrOf b) (lo+t):=λt ht=>by
    rw[KK_bubble (by rw[e.size];exact v) ⋯];by_cases C:t=l
    ·rw[if_pos ⋯,if_pos C]
    rw[if_neg ⋯,if_neg C];by_cases B:l<t
    ·rw[if_pos ⋯,if_pos B,show lo+t-1=lo+(t-1) by lia]
    ·rw[if_neg ⋯,if_neg B]
   rw[show min (k+1) n=k+1 by lia]at J;show κ.kle (KK κ (bubble (arrOf b) (lo+k) (lo+k-(lo+l))) (lo+i)) (KK κ (bubble (arrOf b) (lo+k) (lo+k-(lo+l))) (lo+j));rw[L i ⋯,L j ⋯];by_cases G:i=l
   ·rw[if_pos G];by_cases q:j=l
    ·rw[if_pos q];exact KeyOrd.kle_refl _
    rw[if_neg q,if_pos ⋯];exact KeyOrd.kle_of_klt (g (j-1) ⋯ ⋯)
   rw[if_neg G];by_cases F:l<i
   ·rw[if_pos F,if_neg (show ¬j=l by lia),if_pos (show l<j by lia)];exact d (i-1) (j-1) ⋯ ⋯
   rw[if_neg F];by_cases q:j=l
   ·rw[if_pos q];exact f i ⋯
   rw[if_neg q];by_cases D:l<j
   ·rw[if_pos D];exact d i (j-1) ⋯ ⋯
   rw[if_neg D];exact d i j p ⋯
 ·rintro c a ⟨rfl,e,m,d⟩;rw[show min (max (max z 1) n) n=n by lia]at d;exact(7,e,m,d)
 ·refine(7,O,Xj.refl _ _,λi j p J=>?_);by_cases P:z=0
  ·have:i=j:=by lia
   subst this;exact KeyOrd.kle_refl _
  ·exact M i j p ⋯
 ·rintro c a ⟨rfl,e,m,d⟩;exact wpS_pure (h a e m d)
end
def dO:Bool->Keyed->Array Keyed->Nat->Nat->Nat->StateT SortSt Sem (Option Nat):=sortPriv% PySem.Builtin.gallop
def Tf(b:Nat->StateT SortSt Sem (Option Bool))(n hint:Nat):StateT SortSt Sem (Option Nat):=do
 let mut la:=0
 let mut u:=1
 let mut l:=0
 let mut h:=0
 let some r <-b hint|return none
 if r then
  let a:=n-hint
  for _ in [0:n] do
   if u >= a then break
   let some mo <-b (hint+u) | return none
   if !mo then break
   la:=u
   u:=2*u+1
  l:=hint+la+1
  h:=hint+min u a
 else
  let a:=hint+1
  for _ in [0:n] do
   if u >= a then break
   let some fo <-b (hint-u) | return none
   if fo then break
   la:=u
   u:=2*u+1
  l:=hint+1-min u a
  h:=hint-la
 for _ in [0:n] do
  if l >= h then break
  let m:=l+(h-l) / 2
  let some mo <-b m|return none
  if mo then l:=m+1 else h:=m
 return some h
def HH(left:Bool)(a:Keyed)(b:Array Keyed)(base i:Nat):StateT SortSt Sem (Option Bool):=do
 let x <-elem' b (base+i)
 if left then lt' x a else return (<-lt' a x).map (!·)
theorem Gh(left:Bool)(a:Keyed)(b:Array Keyed)(base n hint:Nat):dO left a b base n hint=Tf (HH left a b base) n hint:=rfl
section
variable{w:World}{κ:KeyKind}
theorem Ri{M:Nat->StateT SortSt Sem (Option Bool)}{n hint:Nat}{st:SortSt}{Q:Option Nat->SortSt->Prop}(e:Nat->Bool)(S:hint<n)
  (J:∀i,i<n -> ∀(G:Option Bool->SortSt->Prop),G (some (e i)) st->wpS (model prog w) A E s (M i) G st)(g:∀i j,i<=j->j<n->e j=true->e i=true)
  (h:∀r,r<=n->(∀i,i<r->e i=true)->(∀i,r<=i->i<n->e i=false)->Q (some r) st):wpS (model prog w) A E s (Tf M n hint) Q st:=by
 have bin:∀(l u:Nat),l<=u->u<=n->(∀i,i<l->e i=true)->(∀i,u<=i->i<n->e i=false) -> ∀(G:Option (Option Nat)×Nat×Nat->SortSt->Prop),
   (∀r,r<=n->(∀i,i<r->e i=true)->(∀i,r<=i->i<n->e i=false)->G (pq none (pq r r)) st) ->
   wpS (model prog w) A E s (forIn [0:n] ((pq none (pq l u)):Option (Option Nat)×Nat×Nat) λ_ r=>if r.2.1 >= r.2.2 then pure (ForInStep.done (pq none (pq r.2.1 r.2.2)))else M (r.2.1+(r.2.2-r.2.1) / 2) >>= λx=>match x with
    |some b=>if b=true then pure (ForInStep.yield (pq none (pq (r.2.1+(r.2.2-r.2.1) / 2+1) r.2.2)))else pure (ForInStep.yield (pq none (pq r.2.1 (r.2.1+(r.2.2-r.2.1) / 2))))
    |_=>pure (ForInStep.done (pq (some none) (pq r.2.1 r.2.2)))) G st:=by
  intro l u F m o p G y;refine wpS_forRange (I:=λx c a=>a=st /\ ∃l u,c=(pq none (pq l u))/\l<=u/\u<=n/\(u-l)+x<=n/\(∀i,i<l->e i=true) /\ ∀i,u<=i->i<n->e i=false) ?_ ?_ (7,l,u,7,F,m,6,o,p)
  ·rintro x c a _ O ⟨rfl,l,u,rfl,F,m,P,o,p⟩;dsimp only;by_cases f:l >= u
   ·rw[if_pos f];have:l=u:=by lia
    subst this;exact wpS_pure (y l m o p)
   rw[if_neg f];refine wpS_bind (J _ ⋯ _ ?_);cases z:e (l+(u-l) / 2)
   ·refine wpS_pure (7,l,9,6,6,6,o,λi hi1 hi2=>?_);cases B:e i
    ·rfl
    ·rw[g _ i hi1 hi2 B]at z;exact absurd z ∅
   ·exact wpS_pure (7,_,u,7,6,m,6,λi B=>g i _ ⋯ ⋯ z,p)
  ·rintro c a ⟨rfl,l,u,rfl,F,m,P,o,p⟩;have:l=u:=by lia
   subst this;exact y l m o p
 unfold Tf;refine wpS_bind (J hint S _ ?_);have H:∀i j,i<=j->j<n->e i=false->e j=false:=λi j N R B=>by
  cases z:e j
  ·rfl
  ·rw[g i j N R z]at B;exact absurd B ∅
 cases z:e hint
 ·dsimp only;rw[if_neg ∅];refine wpS_bind (wpS_mono (wpS_forRange (I:=λx c a=>a=st /\ ∃d u,c=(pq none (pq d u))/\d<u/\x+1<=u/\d<=hint/\e (hint-d)=false) (Q:=λc a=>a=st /\ ∃d u,c=(pq none (pq d u))/\d<u/\d<=hint/\e (hint-d)=false/\(u >= hint+1\/e (hint-u)=true)) ?_ ?_ (7,0,(1),7,6,6,6,z)) ?_)
  ·rintro x c a _ O ⟨rfl,d,u,rfl,t,K,q,k⟩;dsimp only;by_cases f:u >= hint+1
   ·rw[if_pos f];exact wpS_pure (7,d,u,7,t,q,k,.inl f)
   rw[if_neg f];refine wpS_bind (J _ ⋯ _ ?_);cases y:e (hint-u)
   ·exact wpS_pure (7,u,9,6,6,6,y)
   ·exact wpS_pure (7,d,u,7,t,q,k,.inr y)
  ·rintro c a ⟨rfl,d,u,rfl,t,K,q,k⟩;exact(7,d,u,7,t,q,k,.inl ⋯)
  ·rintro c a ⟨rfl,d,u,rfl,t,q,k,v⟩;dsimp only;refine wpS_bind (bin _ _ ⋯ ⋯ (λi B=>?_) (λi hi1 hi2=>H _ i hi1 hi2 k) _ λr D C L=>wpS_pure (h r D C L));rcases v with v|v
   ·lia
   ·exact g i _ ⋯ ⋯ v
 ·dsimp only;rw[if_pos rfl];refine wpS_bind (wpS_mono (wpS_forRange (I:=λx c a=>a=st /\ ∃d u,c=(pq none (pq d u))/\d<u/\x+1<=u/\hint+d<n/\e (hint+d)=true) (Q:=λc a=>a=st /\ ∃d u,c=(pq none (pq d u))/\d<u/\hint+d<n/\e (hint+d)=true/\(u >= n-hint\/e (hint+u)=false)) ?_ ?_ (7,0,(1),7,6,6,6,z)) ?_)
  ·rintro x c a _ O ⟨rfl,d,u,rfl,t,K,q,k⟩;dsimp only;by_cases f:u >= n-hint
   ·rw[if_pos f];exact wpS_pure (7,d,u,7,t,q,k,.inl f)
   rw[if_neg f];refine wpS_bind (J _ ⋯ _ ?_);cases y:e (hint+u)
   ·exact wpS_pure (7,d,u,7,t,q,k,.inr y)
   ·exact wpS_pure (7,u,9,6,6,6,y)
  ·rintro c a ⟨rfl,d,u,rfl,t,K,q,k⟩;exact(7,d,u,7,t,q,k,.inl ⋯)
  ·rintro c a ⟨rfl,d,u,rfl,t,q,k,v⟩;dsimp only;refine wpS_bind (bin _ _ ⋯ ⋯ (λi B=>g i _ ⋯ ⋯ k) (λi hi1 hi2=>?_) _ λr D C L=>wpS_pure (h r D C L));rcases v with v|v
   ·lia
   ·rcases agc u (n-hint)with c|c
    ·exact H _ i ⋯ hi2 v
    ·lia
def ky(κ:KeyKind)(x:Keyed):κ.α:=(κ.keyOf x.1).getD κ.dflt
theorem Hz{st:SortSt}{x y:Keyed}{Q:Option Bool->SortSt->Prop}(hO:κ.OneLt)(g:kindOf st=oneType')(f:∃a,κ.keyOf x.1=some a)(e:∃a,κ.keyOf y.1=some a)
  (h:Q (some (κ.blt (ky κ x) (ky κ y))) st):wpS (model prog w) A E s (lt' x y) Q st:=by
 obtain⟨a,d⟩:=f;obtain⟨b,c⟩:=e;have j:ky κ x=a:=by unfold ky;rw[d];rfl
 have i:ky κ y=b:=by unfold ky;rw[c];rfl
 rw[j,i]at h;rw[lt'_eq];refine wpS_bind (wpS_get ?_);rw[g,keyLt'_oneType];exact wpS_bind (wpS_lift (wpAny_attempt (hO prog w A _ s _ _ a b d c (7,wpS_pure h))))
theorem cz{st:SortSt}{xs:Array Keyed}{i:Nat}{Q:Keyed->SortSt->Prop}(a:i<xs.size)(h:Q xs[i] st):wpS (model prog w) A E s (elem' xs i) Q st:=by
 rw[elem'_eq,getElem?_pos xs i a];exact wpS_pure h
def Sd(κ:KeyKind)(xs:Array Keyed)(lo a:Nat):Prop:=∀i j,lo<=i->i<=j->j<a->κ.kle (KK κ xs i) (KK κ xs j)
theorem cG{xs:Array Keyed}{i:Nat}(a:i<xs.size):KK κ xs i=ky κ xs[i]:=by
 unfold KK ky;rw[getElem?_pos xs i a]
theorem yQ{st:SortSt}{left:Bool}{b:Keyed}{xs:Array Keyed}{base n hint:Nat}{Q:Option Nat->SortSt->Prop}(hO:κ.OneLt)(k:kindOf st=oneType')(p:KeysOf κ xs)(g:∃a,κ.keyOf b.1=some a)(m:Sd κ xs base (base+n))(t:base+n<=xs.size)(o:hint<n)
  (h:∀r,r<=n->(∀i,i<r->(if left then κ.blt (KK κ xs (base+i)) (ky κ b)else !κ.blt (ky κ b) (KK κ xs (base+i)))=true)->(∀i,r<=i->i<n->(if left then κ.blt (KK κ xs (base+i)) (ky κ b)else !κ.blt (ky κ b) (KK κ xs (base+i)))=false)->Q (some r) st):
  wpS (model prog w) A E s (dO left b xs base n hint) Q st:=by
 rw[Gh];have c:∀i (l:i<xs.size),∃a,κ.keyOf xs[i].1=some a:=λi l=>p _ (agg _);refine Ri (λi=>if left then κ.blt (KK κ xs (base+i)) (ky κ b)else !κ.blt (ky κ b) (KK κ xs (base+i))) o (λi l v f=>?_) (λi j q u d=>?_) h
 ·rw[cG ⋯]at f;unfold HH;refine wpS_bind (cz ⋯ ?_);cases left
  ·rw[if_neg ∅];exact wpS_bind (Hz hO k g (c _ ⋯) (wpS_pure f))
  ·rw[if_pos rfl];exact Hz hO k (c _ ⋯) g f
 ·have e:=m (base+i) (base+j) ⋯ ⋯ ⋯;cases left
  ·have d:(!κ.blt (ky κ b) (KK κ xs (base+j)))=true:=d;show (!κ.blt (ky κ b) (KK κ xs (base+i)))=true;rw[ah6]at d ⊢;exact KeyOrd.kle_trans e d
  ·exact KeyOrd.klt_of_kle_of_klt e d
theorem jZ{st:SortSt}{c:Keyed}{xs:Array Keyed}{base n hint:Nat}{Q:Option Nat->SortSt->Prop}(hO:κ.OneLt)(j:kindOf st=oneType')(m:KeysOf κ xs)(d:∃a,κ.keyOf c.1=some a)(e:Sd κ xs base (base+n))(g:base+n<=xs.size)(l:hint<n)
  (h:∀r,r<=n->(∀i,i<r->κ.kle (KK κ xs (base+i)) (ky κ c))->(∀i,r<=i->i<n->κ.klt (ky κ c) (KK κ xs (base+i)))->Q (some r) st):wpS (model prog w) A E s (dO false c xs base n hint) Q st:=by
 refine yQ hO j m d e g l λr f p o=>h r f (λi k=>?_) λi a b=>?_
 ·have q:(!κ.blt (ky κ c) (KK κ xs (base+i)))=true:=p i k;rw[ah6]at q;exact q
 ·have q:(!κ.blt (ky κ c) (KK κ xs (base+i)))=false:=o i a b;rw[Bool.not_eq_false']at q;exact q
theorem nA{st:SortSt}{c:Keyed}{xs:Array Keyed}{base n hint:Nat}{Q:Option Nat->SortSt->Prop}(hO:κ.OneLt)(j:kindOf st=oneType')(m:KeysOf κ xs)(d:∃a,κ.keyOf c.1=some a)(e:Sd κ xs base (base+n))(g:base+n<=xs.size)(l:hint<n)
  (h:∀r,r<=n->(∀i,i<r->κ.klt (KK κ xs (base+i)) (ky κ c))->(∀i,r<=i->i<n->κ.kle (ky κ c) (KK κ xs (base+i)))->Q (some r) st):wpS (model prog w) A E s (dO true c xs base n hint) Q st:=
 yQ hO j m d e g l λr f p o=>h r f (λi k=>p i k) λi a b=>o i a b
end
structure MI(le:Keyed->Keyed->Prop)(L O X Y:List Keyed):Prop where
 perm:agH (O++X++Y) L
 so:O.Pairwise le
 sx:X.Pairwise le
 sy:Y.Pairwise le
 ox:∀o∈O,∀x∈X,le o x
 oy:∀o∈O,∀y∈Y,le o y
theorem MI.left{d:Keyed->Keyed->Prop}{L O X e Y:List Keyed}(h:MI d L O (X++e) Y)(f:∀x∈X,∀y∈Y,d x y):MI d L (O++X) e Y:=by
 have s:=agF.mp h.sx;refine(by rw[af5 O X e];exact h.perm,agF.mpr (h.so,s.1,λo a x c=>h.ox o a x (agj _ c)),s.2.1,h.sy,λo a x c=>?_,λo a y b=>?_)
 ·rcases aaG.mp a with a|a
  ·exact h.ox o a x (aau _ c)
  ·exact s.2.2 o a x c
 ·rcases aaG.mp a with a|a
  ·exact h.oy o a y b
  ·exact f o a y b
theorem MI.right{d:Keyed->Keyed->Prop}{L O X Y e:List Keyed}(h:MI d L O X (Y++e))(f:∀y∈Y,∀x∈X,d y x):MI d L (O++Y) X e:=by
 have s:=agF.mp h.sy;refine(ajo ?_ h.perm,agF.mpr (h.so,s.1,λo a y c=>h.oy o a y (agj _ c)),h.sx,s.2.1,λo a x b=>?_,λo a y c=>?_)
 ·rw[af5 O Y X,af5,af5 O X,<-af5 X,af5 Y];refine aiO O ?_;rw[<-af5];exact(aiP).append_right e
 ·rcases aaG.mp a with a|a
  ·exact h.ox o a x b
  ·exact f o a x b
 ·rcases aaG.mp a with a|a
  ·exact h.oy o a y (aau _ c)
  ·exact s.2.2 o a y c
def Fin(a:Keyed->Keyed->Prop)(L r:List Keyed):Prop:=agH r L/\r.Pairwise a
theorem MI.xy{c:Keyed->Keyed->Prop}{L O X Y:List Keyed}(h:MI c L O X Y)(d:∀x∈X,∀y∈Y,c x y):Fin c L (O++X++Y):=by
 refine(h.perm,agF.mpr (agF.mpr (h.so,h.sx,h.ox),h.sy,λa b y e=>?_));rcases aaG.mp b with b|b
 ·exact h.oy a b y e
 ·exact d a b y e
theorem MI.yx{c:Keyed->Keyed->Prop}{L O X Y:List Keyed}(h:MI c L O X Y)(d:∀y∈Y,∀x∈X,c y x):Fin c L (O++Y++X):=by
 refine(ajo ?_ h.perm,agF.mpr (agF.mpr (h.so,h.sy,h.oy),h.sx,λa b x e=>?_))
 ·rw[af5,af5];exact aiO O aiP
 ·rcases aaG.mp b with b|b
  ·exact h.ox a b x e
  ·exact d a b x e
def vm:Array Keyed->Array Keyed->StateT SortSt Sem (Array Keyed):=sortPriv% PySem.Builtin.mergeLo
def setG:Nat->StateT SortSt Sem Unit:=sortPriv% PySem.Builtin.setMinGallop
theorem Rw(g:Nat):setG g=modify λst=>SortSt.mk' (kindOf st) (arrOf st) (pendingOf st) g (failedOf st):=rfl
def mlo(a b:Array Keyed):StateT SortSt Sem (Array Keyed):=do
 rule "list.sort.merge-lo"
 let t:=a.size+b.size
 let c (o:Array Keyed) (i j:Nat):=o++a.extract i a.size++b.extract j b.size
 let d (o:Array Keyed) (i j:Nat):=o++b.extract j b.size++a.extract i a.size
 let mut o:Array Keyed:=#[<-elem' b 0]
 let mut i:=0
 let mut j:=1
 if j==b.size then return c o i j
 if i+1==a.size then return d o i j
 let mut g:=gallopOf (<-get)
 for _ in [0:t] do
  let mut p:=0
  let mut q:=0
  for _ in [0:t] do
   let some v <-lt' (<-elem' b j) (<-elem' a i) | return c o i j
   if v then
    o:=o.push (<-elem' b j);j:=j+1;q:=q+1;p:=0
    if j==b.size then return c o i j
    if q >= g then break
   else
    o:=o.push (<-elem' a i);i:=i+1;p:=p+1;q:=0
    if i+1==a.size then return d o i j
    if p >= g then break
  rule "list.sort.gallop"
  g:=g+1
  for _ in [0:t] do
   if g > 1 then g:=g-1
   setG g
   let some k <-dO false (<-elem' b j) a i (a.size-i) 0|return c o i j
   p:=k
   if k > 0 then
    o:=o++a.extract i (i+k);i:=i+k
    if i+1==a.size then return d o i j
    if i==a.size then return c o i j
   o:=o.push (<-elem' b j);j:=j+1
   if j==b.size then return c o i j
   let some k <-dO true (<-elem' a i) b j (b.size-j) 0|return c o i j
   q:=k
   if k > 0 then
    o:=o++b.extract j (j+k);j:=j+k
    if j==b.size then return c o i j
   o:=o.push (<-elem' a i);i:=i+1
   if i+1==a.size then return d o i j
   if p<7&&q<7 then break
  g:=g+1
  setG g
 (unsupported "internal:list.sort.merge-bound" : StateT SortSt Sem (Array Keyed))
theorem Br(a b:Array Keyed):vm a b=mlo a b:=rfl
section
variable{w:World}{κ:KeyKind}
theorem bz{c:Prop}[Decidable c]{x y:StateT SortSt Sem G}{Q:G->SortSt->Prop}{st:SortSt}(b:c->wpS (model prog w) A E s x Q st)(a:¬c->wpS (model prog w) A E s y Q st):wpS (model prog w) A E s (if c then x else y) Q st:=by
 by_cases h:c
 ·rw[if_pos h];exact b h
 ·rw[if_neg h];exact a h
def kl(κ:KeyKind)(x y:Keyed):Prop:=κ.kle (ky κ x) (ky κ y)
theorem gR{x y z:Keyed}(h:kl κ x y)(g:kl κ y z):kl κ x z:=KeyOrd.kle_trans h g
theorem wA{xs:Array Keyed}(h:xs.toList.Pairwise (kl κ)){lo :Nat}(c:n<=xs.size):Sd κ xs lo n:=λi j _ a b=>by
 rw[cG (show i<xs.size by lia),cG (show j<xs.size by lia)];by_cases e:i=j
 ·subst e;exact KeyOrd.kle_refl _
 have q:=agf.mp h i j (by rw[aaf];lia) (by rw[aaf];lia) ⋯;rw[agy,agy]at q;exact q
theorem yH{xs:Array Keyed}{i:Nat}(a:i<xs.size):xs.toList.drop i=[xs[i]]++xs.toList.drop (i+1):=by
 rw[agv (by rw[aaf];exact a),agy];rfl
theorem iK{xs:Array Keyed}{i:Nat}{x:Keyed}(h:x∈xs.toList.drop i):∃k,∃a:i+k<xs.size,x=xs[i+k]:=by
 obtain⟨k,a,e⟩:=agS h;rw[aaM,aaf]at a;refine(k,6,2);rw[<-e,ahv,agy]
theorem nW{xs:Array Keyed}{i k:Nat}{x:Keyed}(h:x∈(xs.toList.drop i).take k):∃d,d<k /\ ∃hd:i+d<xs.size,x=xs[i+d]:=by
 obtain⟨d,hd,e⟩:=agS h;rw[aaq,aaM,aaf]at hd;refine(d,6,6,2);rw[<-e,ahT,ahv,agy]
theorem oX(xs:Array Keyed)(i k:Nat):(xs.extract i (i+k)).toList=(xs.toList.drop i).take k:=by
 rw[ahr,agZ,agN]
theorem nZ(xs:Array Keyed)(i:Nat):(xs.extract i xs.size).toList=xs.toList.drop i:=by
 rw[ahr,agZ,aaj (by rw[aaM,aaf];lia)]
section
variable{le:Keyed->Keyed->Prop}{L:List Keyed}{o a b:Array Keyed}{i j k:Nat}{X:List Keyed}
theorem MI.pushR(h:MI le L o.toList X (b.toList.drop j))(f:j<b.size)(e:∀x∈X,le b[j] x):MI le L (o.push b[j]).toList X (b.toList.drop (j+1)):=by
 rw[yH f]at h;rw[agY];exact h.right λy d x c=>by rw[aan.mp d];exact e x c
theorem MI.pushL(h:MI le L o.toList (a.toList.drop i) X)(f:i<a.size)(e:∀x∈X,le a[i] x):MI le L (o.push a[i]).toList (a.toList.drop (i+1)) X:=by
 rw[yH f]at h;rw[agY];exact h.left λy d x c=>by rw[aan.mp d];exact e x c
theorem MI.moreR(h:MI le L o.toList X (b.toList.drop j))(c:∀y∈(b.toList.drop j).take k,∀x∈X,le y x):MI le L (o++b.extract j (j+k)).toList X (b.toList.drop (j+k)):=by
 rw[<-agJ k (b.toList.drop j),agw]at h;rw[agq,oX];exact h.right c
theorem MI.moreL(h:MI le L o.toList (a.toList.drop i) X)(c:∀y∈(a.toList.drop i).take k,∀x∈X,le y x):MI le L (o++a.extract i (i+k)).toList (a.toList.drop (i+k)) X:=by
 rw[<-agJ k (a.toList.drop i),agw]at h;rw[agq,oX];exact h.left c
theorem MI.fa(h:MI le L o.toList (a.toList.drop i) (b.toList.drop j))(c:∀x∈a.toList.drop i,∀y∈b.toList.drop j,le x y):Fin le L (o++a.extract i a.size++b.extract j b.size).toList:=by
 rw[agq,agq,nZ,nZ];exact h.xy c
theorem MI.fb(h:MI le L o.toList (a.toList.drop i) (b.toList.drop j))(c:∀y∈b.toList.drop j,∀x∈a.toList.drop i,le y x):Fin le L (o++b.extract j b.size++a.extract i a.size).toList:=by
 rw[agq,agq,nZ,nZ];exact h.yx c
theorem vQ(h:b.size<=j):b.toList.drop j=[]:=List.drop_eq_nil_of_le (by rw[aaf];exact h)
end
structure cj(st st':SortSt):Prop where
 kind:kindOf st'=kindOf st
 arr:arrOf st'=arrOf st
 pend:pendingOf st'=pendingOf st
 failed:failedOf st'=failedOf st
theorem cj.refl(st:SortSt):cj st st:=(7,7,7,7)
theorem uQ{st:SortSt}{g:Nat}{Q:Unit->SortSt->Prop}(b:cj D st)(h:∀a,cj D a->Q () a):wpS (model prog w) A E s (setG g) Q st:=by
 rw[Rw];exact wpS_modify (h _ (b.kind,b.arr,b.pend,b.failed))
abbrev PK:=Option (Array Keyed)×Array Keyed×Nat×Nat×Nat×Nat×Nat
inductive LoI(κ:KeyKind)(a:Array Keyed)(b:Array Keyed)(x:Nat)(c:PK):Prop
 | mk (o i j g p q:_) (_:c=(pq none (pq o (pq i (pq j (pq g (pq p q))))))) (_:MI (kl κ) (a.toList++b.toList) o.toList (a.toList.drop i) (b.toList.drop j)) (_:i+1<a.size) (_:j<b.size) (_:x+2<=i+j)
def LoR(κ:KeyKind)(a b:Array Keyed)(x:Nat)(st:SortSt)(r:ForInStep PK)(d:SortSt):Prop:=
 match r with
 |.done c=>cj st d/\((∃r,c.1=some r/\Fin (kl κ) (a.toList++b.toList) r.toList)\/LoI κ a b x c)
 |.yield c=>cj st d/\LoI κ a b x c
structure Mg(κ:KeyKind)(a b:Array Keyed)(st:SortSt):Prop where
 hO:κ.OneLt
 hk:kindOf st=oneType'
 hA:KeysOf κ a
 hB:KeysOf κ b
 sA:∀lo,Sd κ a lo a.size
 sB:∀lo,Sd κ b lo b.size
 last:∀i j,i+1=a.size -> ∀y∈b.toList.drop j,∀x∈a.toList.drop i,kl κ y x
def lo3(a b:Array Keyed)(g p q i:Nat)(o:Array Keyed)(j:Nat):StateT SortSt Sem (ForInStep PK):=
 elem' a i >>= λe=>if (i+1+1==a.size)=true then pure (.done (pq (some (o.push e++b.extract j b.size++a.extract (i+1) a.size)) (pq (o.push e) (pq (i+1) (pq j (pq g (pq p q)))))))
  else if (decide (p<7)&&decide (q<7))=true then pure (.done (pq none (pq (o.push e) (pq (i+1) (pq j (pq g (pq p q)))))))else pure (.yield (pq none (pq (o.push e) (pq (i+1) (pq j (pq g (pq p q)))))))
def lo2(a b:Array Keyed)(g p q j:Nat)(o:Array Keyed)(i:Nat):StateT SortSt Sem (ForInStep PK):=
 elem' b j >>= λe=>if (j+1==b.size)=true then pure (.done (pq (some (o.push e++a.extract i a.size++b.extract (j+1) b.size)) (pq (o.push e) (pq i (pq (j+1) (pq g (pq p q)))))))
  else elem' a i >>= λc=>dO true c b (j+1) (b.size-(j+1)) 0 >>= λx=>match x with
   |some k=>if k > 0 then (if (j+1+k==b.size)=true then pure (.done (pq (some (o.push e++b.extract (j+1) (j+1+k)++a.extract i a.size++b.extract (j+1+k) b.size)) (pq (o.push e++b.extract (j+1) (j+1+k)) (pq i (pq (j+1+k) (pq g (pq p k)))))))
     else lo3 a b g p k i (o.push e++b.extract (j+1) (j+1+k)) (j+1+k))else lo3 a b g p k i (o.push e) (j+1)
   |_=>pure (.done (pq (some (o.push e++a.extract i a.size++b.extract (j+1) b.size)) (pq (o.push e) (pq i (pq (j+1) (pq g (pq p q)))))))
def lo1(a b:Array Keyed)(o:Array Keyed)(i j p q g:Nat):StateT SortSt Sem (ForInStep PK):=
 setG g >>= λ_=>elem' b j >>= λe=>dO false e a i (a.size-i) 0 >>= λx=>match x with
  |some k=>if k > 0 then (if (i+k+1==a.size)=true then pure (.done (pq (some (o++a.extract i (i+k)++b.extract j b.size++a.extract (i+k) a.size)) (pq (o++a.extract i (i+k)) (pq (i+k) (pq j (pq g (pq k q)))))))
    else if (i+k==a.size)=true then pure (.done (pq (some (o++a.extract i (i+k)++a.extract (i+k) a.size++b.extract j b.size)) (pq (o++a.extract i (i+k)) (pq (i+k) (pq j (pq g (pq k q)))))))
    else lo2 a b g k q j (o++a.extract i (i+k)) (i+k))else lo2 a b g k q j o i
  |_=>pure (.done (pq (some (o++a.extract i a.size++b.extract j b.size)) (pq o (pq i (pq j (pq g (pq p q)))))))
section
variable{a b o:Array Keyed}{st W3:SortSt}{i j x g p q:Nat}
theorem Mg.kA(m:Mg κ a b st)(c:i<a.size):∃x,κ.keyOf a[i].1=some x:=m.hA _ (agg _)
theorem Mg.kB(m:Mg κ a b st)(c:i<b.size):∃x,κ.keyOf b[i].1=some x:=m.hB _ (agg _)
theorem An{P:Prop}{y:Keyed}(z:b.size=j)(c:y∈b.toList.drop j):P:=by
 rw[vQ (aiv z)]at c;cases c
theorem Mg.upA(m:Mg κ a b st)(e:i<a.size):∀y∈a.toList.drop i,kl κ a[i] y:=λy c=>by
 obtain⟨d,hd,rfl⟩:=iK c;have q:=m.sA i i (i+d) (aae _) (ahn _ _) hd;rw[cG e,cG hd]at q;exact q
theorem Mg.upB(m:Mg κ a b st)(e:i<b.size):∀y∈b.toList.drop i,kl κ b[i] y:=λy c=>by
 obtain⟨d,hd,rfl⟩:=iK c;have q:=m.sB i i (i+d) (aae _) (ahn _ _) hd;rw[cG e,cG hd]at q;exact q
theorem LQ(m:Mg κ a b st)(c:cj st W3)(M:MI (kl κ) (a.toList++b.toList) o.toList (a.toList.drop i) (b.toList.drop j))(n:i+1<a.size)(k:j<b.size)(l:x+1<=i+j)(h:∀y∈b.toList.drop j,kl κ a[i] y):wpS (model prog w) A E s (lo3 a b g p q i o j) (LoR κ a b x st) W3:=by
 unfold lo3;refine wpS_bind (cz (show i<a.size by lia) ?_);have f:=M.pushL (show i<a.size by lia) h;refine bz (λz=>wpS_pure (c,.inl (9,f.fb (m.last _ _ (beq_iff_eq.mp z))))) λd=>?_;have d:i+1+1≠a.size:=λe=>d (beq_iff_eq.mpr e);have I:LoI κ a b x (pq none (pq (o.push a[i]) (pq (i+1) (pq j (pq g (pq p q)))))):=(_,i+1,j,1,9,f,6,k,6);exact bz (λ_=>wpS_pure (c,.inr I)) λ_=>wpS_pure (c,I)
theorem Nu(m:Mg κ a b st)(h:cj st W3)(M:MI (kl κ) (a.toList++b.toList) o.toList (a.toList.drop i) (b.toList.drop j))(G:i+1<a.size)(F:j<b.size)(N:x+2<=i+j)(K:∀x∈a.toList.drop i,kl κ b[j] x):wpS (model prog w) A E s (lo2 a b g p q j o i) (LoR κ a b x st) W3:=by
 unfold lo2;refine wpS_bind (cz F ?_);have r:=M.pushR F K;refine bz (λz=>wpS_pure (h,.inl (9,r.fa λx _ y c=>An (beq_iff_eq.mp z).symm c))) λD=>?_;have D:j+1≠b.size:=λe=>D (beq_iff_eq.mpr e);refine wpS_bind (cz (show i<a.size by lia) (wpS_bind (nA (base:=j+1) (n:=b.size-(j+1)) (hint:=0) m.hO (h.kind.trans m.hk) m.hB (m.kA ⋯) (by rw[show j+1+(b.size-(j+1))=b.size by lia];exact m.sB _) ⋯ ⋯ λl L u t=>?_)));have H:=r.moreR (k:=l) λy c x J=>by
  obtain⟨d,hd,B,rfl⟩:=nW c;have f:=u d hd;rw[cG B]at f;exact gR (KeyOrd.kle_of_klt f) (m.upA (show i<a.size by lia) x J)
 have I:∀y∈b.toList.drop (j+1+l),kl κ (a[i]'(by omega)) y:=λy c=>by
  obtain⟨d,hd,rfl⟩:=iK c;have f:=t (l+d) ⋯ ⋯;rw[show j+1+(l+d)=j+1+l+d by lia,cG hd]at f;exact f
 refine bz (λv=>bz (λz=>wpS_pure (h,.inl (9,H.fa λx _ y c=>An (beq_iff_eq.mp z).symm c))) λC=>?_) λv=>?_
 ·have C:j+1+l≠b.size:=λe=>C (beq_iff_eq.mpr e);exact LQ m h H G ⋯ ⋯ I
 ·obtain rfl:l=0:=by lia
  exact LQ m h r G ⋯ ⋯ I
theorem Nr(m:Mg κ a b st)(c:cj st W3)(M:MI (kl κ) (a.toList++b.toList) o.toList (a.toList.drop i) (b.toList.drop j))(H:i+1<a.size)(l:j<b.size)(G:x+2<=i+j):wpS (model prog w) A E s (lo1 a b o i j p q g) (LoR κ a b x st) W3:=by
 unfold lo1;refine wpS_bind (uQ c λJ c=>?_);refine wpS_bind (cz l (wpS_bind (jZ (base:=i) (n:=a.size-i) (hint:=0) m.hO (c.kind.trans m.hk) m.hA (m.kB l) (by rw[show i+(a.size-i)=a.size by lia];exact m.sA i) ⋯ ⋯ λk I t r=>?_)));have M1:MI (kl κ) (a.toList++b.toList) (o++a.extract i (i+k)).toList (a.toList.drop (i+k)) (b.toList.drop j):=M.moreL λx h y F=>by
  obtain⟨d,hd,v,rfl⟩:=nW h;have f:=t d hd;rw[cG v]at f;exact gR f (m.upB l y F)
 have D:∀x∈a.toList.drop (i+k),kl κ b[j] x:=λx h=>by
  obtain⟨d,hd,rfl⟩:=iK h;have f:=r (k+d) ⋯ ⋯;rw[show i+(k+d)=i+k+d by lia,cG hd]at f;exact KeyOrd.kle_of_klt f
 refine bz (λu=>bz (λz=>wpS_pure (c,.inl (9,M1.fb (m.last _ _ (beq_iff_eq.mp z))))) λC=>bz (λz=>wpS_pure (c,.inl (9,M1.fa λx h=>An (beq_iff_eq.mp z).symm h))) λB=>?_) λu=>?_
 ·have C:i+k+1≠a.size:=λe=>C (beq_iff_eq.mpr e);have B:i+k≠a.size:=λe=>B (beq_iff_eq.mpr e);exact Nu m c M1 ⋯ l ⋯ D
 ·obtain rfl:k=0:=by lia
  exact Nu m c M H l G D
end
theorem Ft{st:SortSt}{a b:Array Keyed}{Q:Array Keyed->SortSt->Prop}(hO:κ.OneLt)(S:kindOf st=oneType')(hA:KeysOf κ a)(hB:KeysOf κ b)(X:a.toList.Pairwise (kl κ))(W:b.toList.Pairwise (kl κ))(na:0<a.size)(nb:0<b.size)
  (hf:∀x∈a.toList,kl κ b[0] x)(hl:∀y∈b.toList,kl κ y (a[a.size-1]'(by omega)))(h:∀r f,cj st f->Fin (kl κ) (a.toList++b.toList) r.toList->Q r f):wpS (model prog w) A E s (vm a b) Q st:=by
 have kA:∀i (n:i<a.size),∃x,κ.keyOf a[i].1=some x:=λi n=>hA _ (agg _);have kB:∀i (n:i<b.size),∃x,κ.keyOf b[i].1=some x:=λi n=>hB _ (agg _);have v:∀i j,i+1=a.size -> ∀y∈b.toList.drop j,∀x∈a.toList.drop i,kl κ y x:=λi j n y t x O=>by
  obtain⟨k,S,rfl⟩:=iK O;have:i+k=a.size-1:=by lia
  have q:=hl y (ago t);simp only[this];exact q
 have Z:=λP=>wA X (lo:=P) (aae _);have Y:=λP=>wA W (lo:=P) (aae _);have U:MI (kl κ) (a.toList++b.toList) (#[b[0]]:Array Keyed).toList (a.toList.drop 0) (b.toList.drop 1):=by
  have M:MI (kl κ) (a.toList++b.toList) (#[]:Array Keyed).toList (a.toList.drop 0) (b.toList.drop 0):=(.rfl,.nil,X,W,λo R=>(agV R).elim,λo R=>(agV R).elim);exact M.pushR nb λx O=>hf x O
 have mg:Mg κ a b st:=(hO,S,hA,hB,Z,Y,v);rw[Br];unfold mlo;refine wpS_bind (wpS_lift (wpAny_rule (7,2)));refine wpS_bind (cz nb ?_);refine bz (λc=>wpS_pure (h _ _ (cj.refl _) (U.fa λx _ y t=>?_))) λK=>?_
 ·rw[vQ (by have:=beq_iff_eq.mp c;lia)]at t;cases t
 refine bz (λc=>wpS_pure (h _ _ (cj.refl _) (U.fb (v _ _ (beq_iff_eq.mp c))))) λJ=>?_;have K:1≠b.size:=λz=>K (beq_iff_eq.mpr z);have J:0+1≠a.size:=λz=>J (beq_iff_eq.mpr z);refine wpS_bind (wpS_get ?_);have a0:∀r f,cj st f->Fin (kl κ) (a.toList++b.toList) r.toList->Q r f:=h;refine wpS_bind (wpS_mono (wpS_forRange (I:=λx c f=>cj st f /\ ∃o i j g,c=(pq none (pq o (pq i (pq j g))))/\MI (kl κ) (a.toList++b.toList) o.toList (a.toList.drop i) (b.toList.drop j)/\i+1<a.size/\j<b.size/\x+1<=i+j)
  (Q:=λc f=>cj st f /\ ∃r,c.1=some r/\Fin (kl κ) (a.toList++b.toList) r.toList) ?_ ?_ (cj.refl _,_,0,(1),9,U,6,6,6)) ?_)
 ·rintro x c F _ O ⟨B,o,i,j,g,rfl,M,n,m,u⟩;refine wpS_bind (wpS_mono (wpS_forRange (I:=λy c f=>cj st f /\ ∃o i j p q,c=(pq none (pq o (pq i (pq j (pq p q)))))/\MI (kl κ) (a.toList++b.toList) o.toList (a.toList.drop i) (b.toList.drop j)/\i+1<a.size/\j<b.size/\x+1+y<=i+j)
   (Q:=λc f=>cj st f/\((∃r,c.1=some r/\Fin (kl κ) (a.toList++b.toList) r.toList) \/ ∃o i j p q,c=(pq none (pq o (pq i (pq j (pq p q)))))/\MI (kl κ) (a.toList++b.toList) o.toList (a.toList.drop i) (b.toList.drop j)/\i+1<a.size/\j<b.size/\x+2<=i+j)) ?_ ?_ (B,o,i,j,0,0,7,M,n,m,u)) ?_)
  ·rintro y c N _ t ⟨l,o,i,j,p,q,rfl,M,n,m,u⟩;refine wpS_bind (cz m (wpS_bind (cz (show i<a.size by lia) (wpS_bind (Hz hO (l.kind.trans S) (kB j m) (kA i ⋯) ?_)))));cases hv:κ.blt (ky κ b[j]) (ky κ (a[i]'(by omega)))
   ·refine bz (λz=>absurd z ∅) λ_=>?_;refine wpS_bind (cz (show i<a.size by lia) ?_);have D:=M.pushL (show i<a.size by lia) λy t=>by
     obtain⟨d,hd,rfl⟩:=iK t;have q:=Y j j (j+d) (aae _) ⋯ hd;rw[cG m,cG hd]at q;exact gR hv q
    refine bz (λz=>wpS_pure (l,.inl (9,D.fb (v _ _ (beq_iff_eq.mp z))))) λz=>?_;have z:i+1+1≠a.size:=λe=>z (beq_iff_eq.mpr e);exact bz (λ_=>wpS_pure (l,.inr (_,i+1,j,_,9,D,6,m,6))) λ_=>wpS_pure (l,_,i+1,j,_,9,D,6,m,6)
   ·refine bz (λ_=>?_) λz=>absurd rfl z;refine wpS_bind (cz m ?_);have D:=M.pushR m λy t=>by
     obtain⟨d,hd,rfl⟩:=iK t;have q:=Z i i (i+d) (aae _) ⋯ hd;rw[cG (show i<a.size by lia),cG hd]at q;exact gR (KeyOrd.kle_of_klt hv) q
    refine bz (λz=>wpS_pure (l,.inl (9,D.fa λx _ y t=>?_))) λz=>?_
    ·have z:j+1=b.size:=beq_iff_eq.mp z;rw[vQ ⋯]at t;cases t
    have z:j+1≠b.size:=λe=>z (beq_iff_eq.mpr e);exact bz (λ_=>wpS_pure (l,.inr (_,i,j+1,_,9,D,n,6,6))) λ_=>wpS_pure (l,_,i,j+1,_,9,D,n,6,6)
  ·rintro c N ⟨l,o,i,j,p,q,rfl,M,n,m,u⟩;exact(l,.inr (o,i,j,p,q,7,M,n,m,6))
  ·rintro c N ⟨l,T⟩;rcases T with ⟨r,G,H⟩|⟨o,i,j,p,q,rfl,M,n,m,u⟩
   ·obtain⟨K,J⟩:=c;cases G;exact wpS_pure (l,r,7,H)
   refine wpS_bind (wpS_lift (wpAny_rule (7,2)));refine wpS_bind (wpS_mono (wpS_forRange (I:=λy c f=>cj st f/\LoI κ a b x c)
    (Q:=λc f=>cj st f/\((∃r,c.1=some r/\Fin (kl κ) (a.toList++b.toList) r.toList)\/LoI κ a b x c)) ?_ ?_ (l,o,i,j,_,p,q,7,M,n,m,u)) ?_)
   ·rintro y c L _ t ⟨C,o,i,j,g,p,q,rfl,M,n,m,u⟩;refine wpS_mono (Q:=LoR κ a b x st) ?_ λr f h=>by cases r<;>exact h
    show wpS _ _ _ _ (if g > 1 then lo1 a b o i j p q (g-1)else lo1 a b o i j p q g) _ _;exact bz (λ_=>Nr mg C M n m u) λ_=>Nr mg C M n m u
   ·rintro c L ⟨C,o,i,j,g,p,q,rfl,M,n,m,u⟩;exact(C,.inr (o,i,j,g,p,q,7,M,n,m,u))
   ·rintro c L ⟨C,T⟩;rcases T with ⟨r,G,H⟩|⟨o,i,j,g,p,q,rfl,M,n,m,u⟩
    ·obtain⟨K,J⟩:=c;cases G;exact wpS_pure (C,r,7,H)
    exact wpS_bind (uQ C λW3 V=>wpS_pure (V,o,i,j,9,M,n,m,6))
 ·rintro c F ⟨B,o,i,j,g,rfl,M,n,m,u⟩;exfalso;lia
 ·rintro c F ⟨B,r,G,H⟩;obtain⟨K,J⟩:=c;cases G;exact wpS_pure (h r F B H)
end
def vM:Array Keyed->Array Keyed->StateT SortSt Sem (Array Keyed):=sortPriv% PySem.Builtin.mergeHi
def mhi(a b:Array Keyed):StateT SortSt Sem (Array Keyed):=do
 rule "list.sort.merge-hi"
 let t:=a.size+b.size
 let c (o:Array Keyed) (m n:Nat):=a.extract 0 m++b.extract 0 n++o.reverse
 let d (o:Array Keyed) (m n:Nat):=b.extract 0 n++a.extract 0 m++o.reverse
 let mut m:=a.size-1
 let mut n:=b.size
 let mut o:Array Keyed:=#[<-elem' a m]
 if m==0 then return c o m n
 if n==1 then return d o m n
 let mut g:=gallopOf (<-get)
 for _ in [0:t] do
  let mut p:=0
  let mut q:=0
  for _ in [0:t] do
   let some v <-lt' (<-elem' b (n-1)) (<-elem' a (m-1)) | return c o m n
   if v then
    m:=m-1;o:=o.push (<-elem' a m);p:=p+1;q:=0
    if m==0 then return c o m n
    if p >= g then break
   else
    n:=n-1;o:=o.push (<-elem' b n);q:=q+1;p:=0
    if n==1 then return d o m n
    if q >= g then break
  rule "list.sort.gallop"
  g:=g+1
  for _ in [0:t] do
   if g > 1 then g:=g-1
   setG g
   let some z <-dO false (<-elem' b (n-1)) a 0 m (m-1) | return c o m n
   let k:=m-z
   p:=k
   if k > 0 then
    o:=o++(a.extract z m).reverse;m:=z
    if m==0 then return c o m n
   n:=n-1;o:=o.push (<-elem' b n)
   if n==1 then return d o m n
   let some z <-dO true (<-elem' a (m-1)) b 0 n (n-1) | return c o m n
   let k:=n-z
   q:=k
   if k > 0 then
    o:=o++(b.extract z n).reverse;n:=z
    if n==1 then return d o m n
    if n==0 then return c o m n
   m:=m-1;o:=o.push (<-elem' a m)
   if m==0 then return c o m n
   if p<7&&q<7 then break
  g:=g+1
  setG g
 (unsupported "internal:list.sort.merge-bound" : StateT SortSt Sem (Array Keyed))
theorem Do(a b:Array Keyed):vM a b=mhi a b:=rfl
section
variable{w:World}{κ:KeyKind}
def kr(κ:KeyKind)(x y:Keyed):Prop:=kl κ y x
abbrev hd(xs:Array Keyed)(m:Nat):List Keyed:=(xs.toList.take m).reverse
theorem Ji{xs:Array Keyed}{m:Nat}(b:1<=m)(a:m<=xs.size):hd xs m=[xs[m-1]'(by omega)]++hd xs (m-1):=by
 obtain⟨k,rfl⟩:∃k,m=k+1:=(m-1,6);unfold hd;rw[af7,aab (by rw[aaf];lia),agy];simp
theorem Mr{xs:Array Keyed}{m :Nat}(hz:n<=m):hd xs m=((xs.toList.take m).drop n).reverse++hd xs n:=by
 unfold hd;rw[<-ahF,show xs.toList.take n=(xs.toList.take m).take n by rw[ahq,ags hz],agJ]
theorem lV{xs:Array Keyed}{m:Nat}{x:Keyed}(h:x∈hd xs m):∃d,d<m /\ ∃hd:d<xs.size,x=xs[d]:=by
 obtain⟨d,a,e⟩:=agS (aih.mp h);rw[aaq,aaf]at a;exact(d,6,6,by rw[<-e,ahT,agy])
theorem Hv{xs:Array Keyed}{m :Nat}{x:Keyed}(h:x∈((xs.toList.take m).drop n).reverse):∃d,n<=d/\d<m /\ ∃hd:d<xs.size,x=xs[d]:=by
 obtain⟨d,a,e⟩:=agS (aih.mp h);rw[aaM,aaq,aaf]at a;exact(n+d,6,6,6,by rw[<-e,ahv,ahT,agy])
section
variable{le:Keyed->Keyed->Prop}{L:List Keyed}{o a b:Array Keyed}{m:Nat}{X:List Keyed}
theorem MI.popL(h:MI le L o.toList (hd a m) X)(g:1<=m)(f:m<=a.size)(e:∀x∈X,le (a[m-1]'(by omega)) x):MI le L (o.push (a[m-1]'(by omega))).toList (hd a (m-1)) X:=by
 rw[Ji g f]at h;rw[agY];exact h.left λy d x c=>by rw[aan.mp d];exact e x c
theorem MI.popR(h:MI le L o.toList X (hd b n))(g:1<=n)(f:n<=b.size)(e:∀x∈X,le (b[n-1]'(by omega)) x):MI le L (o.push (b[n-1]'(by omega))).toList X (hd b (n-1)):=by
 rw[Ji g f]at h;rw[agY];exact h.right λy d x c=>by rw[aan.mp d];exact e x c
theorem Dk(xs:Array Keyed)(m z:Nat):(o++(xs.extract z m).reverse).toList=o.toList++((xs.toList.take m).drop z).reverse:=by
 rw[agq,aij,ahr,agZ,<-ajv]
theorem MI.cutL(h:MI le L o.toList (hd a m) X)(hz:z<=m)(c:∀y∈((a.toList.take m).drop z).reverse,∀x∈X,le y x):MI le L (o++(a.extract z m).reverse).toList (hd a z) X:=by
 rw[Mr hz]at h;rw[Dk];exact h.left c
theorem MI.cutR(h:MI le L o.toList X (hd b n))(hz:z<=n)(c:∀y∈((b.toList.take n).drop z).reverse,∀x∈X,le y x):MI le L (o++(b.extract z n).reverse).toList X (hd b z):=by
 rw[Mr hz]at h;rw[Dk];exact h.right c
theorem Ij{r:List Keyed}(h:Fin (kr κ) L r.reverse):Fin (kl κ) L r:=((aiD r).symm.trans h.1,aib.mp h.2)
theorem lg(xs:Array Keyed)(m:Nat):(xs.extract 0 m).toList=xs.toList.take m:=by
 rw[ahr,agZ,agL,aia]
theorem MI.ha(h:MI (kr κ) L o.toList (hd a m) (hd b n))(c:∀y∈hd b n,∀x∈hd a m,kr κ y x):Fin (kl κ) L (a.extract 0 m++b.extract 0 n++o.reverse).toList:=by
 refine Ij ?_;rw[agq,agq,lg,lg,aij,ahF,aiV,ahF,<-af5];exact h.yx c
theorem MI.hb(h:MI (kr κ) L o.toList (hd a m) (hd b n))(c:∀x∈hd a m,∀y∈hd b n,kr κ x y):Fin (kl κ) L (b.extract 0 n++a.extract 0 m++o.reverse).toList:=by
 refine Ij ?_;rw[agq,agq,lg,lg,aij,ahF,aiV,ahF,<-af5];exact h.xy c
end
abbrev Lq:=Option (Array Keyed)×Nat×Nat×Array Keyed×Nat×Nat×Nat
inductive HiI(κ:KeyKind)(a:Array Keyed)(b:Array Keyed)(x:Nat)(c:Lq):Prop
 | mk (m n o g p q:_) (_:c=(pq none (pq m (pq n (pq o (pq g (pq p q))))))) (_:MI (kr κ) (a.toList++b.toList) o.toList (hd a m) (hd b n)) (_:1<=m) (_:m<=a.size) (_:2<=n) (_:n<=b.size) (_:x+2+(m+n)<=a.size+b.size)
def HiR(κ:KeyKind)(a b:Array Keyed)(x:Nat)(st:SortSt)(r:ForInStep Lq)(d:SortSt):Prop:=
 match r with
 |.done c=>cj st d/\((∃r,c.1=some r/\Fin (kl κ) (a.toList++b.toList) r.toList)\/HiI κ a b x c)
 |.yield c=>cj st d/\HiI κ a b x c
structure Mh(κ:KeyKind)(a b:Array Keyed)(st:SortSt):Prop where
 hO:κ.OneLt
 hk:kindOf st=oneType'
 hA:KeysOf κ a
 hB:KeysOf κ b
 sa:a.toList.Pairwise (kl κ)
 sb:b.toList.Pairwise (kl κ)
 first:∀m,∀x∈hd a m,∀y∈hd b 1,kr κ x y
def hi3(a b:Array Keyed)(g p q m:Nat)(n:Nat)(o:Array Keyed):StateT SortSt Sem (ForInStep Lq):=
 elem' a (m-1) >>= λe=>if (m-1==0)=true then pure (.done (pq (some (a.extract 0 (m-1)++b.extract 0 n++(o.push e).reverse)) (pq (m-1) (pq n (pq (o.push e) (pq g (pq p q)))))))
  else if (decide (p<7)&&decide (q<7))=true then pure (.done (pq none (pq (m-1) (pq n (pq (o.push e) (pq g (pq p q)))))))else pure (.yield (pq none (pq (m-1) (pq n (pq (o.push e) (pq g (pq p q)))))))
def hi2(a b:Array Keyed)(g p q n:Nat)(m:Nat)(o:Array Keyed):StateT SortSt Sem (ForInStep Lq):=
 elem' b (n-1) >>= λe=>if (n-1==1)=true then pure (.done (pq (some (b.extract 0 (n-1)++a.extract 0 m++(o.push e).reverse)) (pq m (pq (n-1) (pq (o.push e) (pq g (pq p q)))))))
  else elem' a (m-1) >>= λc=>dO true c b 0 (n-1) (n-1-1) >>= λx=>match x with
   |some z=>if n-1-z > 0 then (if (z==1)=true then pure (.done (pq (some (b.extract 0 z++a.extract 0 m++(o.push e++(b.extract z (n-1)).reverse).reverse)) (pq m (pq z (pq (o.push e++(b.extract z (n-1)).reverse) (pq g (pq p (n-1-z))))))))
     else if (z==0)=true then pure (.done (pq (some (a.extract 0 m++b.extract 0 z++(o.push e++(b.extract z (n-1)).reverse).reverse)) (pq m (pq z (pq (o.push e++(b.extract z (n-1)).reverse) (pq g (pq p (n-1-z))))))))
     else hi3 a b g p (n-1-z) m z (o.push e++(b.extract z (n-1)).reverse))else hi3 a b g p (n-1-z) m (n-1) (o.push e)
   |_=>pure (.done (pq (some (a.extract 0 m++b.extract 0 (n-1)++(o.push e).reverse)) (pq m (pq (n-1) (pq (o.push e) (pq g (pq p q)))))))
def hi1(a b:Array Keyed)(o:Array Keyed)(m n p q g:Nat):StateT SortSt Sem (ForInStep Lq):=
 setG g >>= λ_=>elem' b (n-1) >>= λe=>dO false e a 0 m (m-1) >>= λx=>match x with
  |some z=>if m-z > 0 then (if (z==0)=true then pure (.done (pq (some (a.extract 0 z++b.extract 0 n++(o++(a.extract z m).reverse).reverse)) (pq z (pq n (pq (o++(a.extract z m).reverse) (pq g (pq (m-z) q)))))))
    else hi2 a b g (m-z) q n z (o++(a.extract z m).reverse))else hi2 a b g (m-z) q n m o
  |_=>pure (.done (pq (some (a.extract 0 m++b.extract 0 n++o.reverse)) (pq m (pq n (pq o (pq g (pq p q)))))))
section
variable{a b o:Array Keyed}{st W3:SortSt}{m x g p q:Nat}
theorem O4{P:Prop}{x:Keyed}(h:m=0)(c:x∈hd a m):P:=by
 obtain⟨d,hd,_⟩:=lV c;lia
theorem Vp{a:Array Keyed}(h:a.toList.Pairwise (kl κ)){e:Nat}(hd:z<a.size)(f:e<a.size)(c:z<=e):kl κ a[z] a[e]:=by
 have q:=wA h (lo:=0) (aae _) z e (af3 _) c f;rw[cG hd,cG f]at q;exact q
theorem RT{a:Array Keyed}(c:a.toList.Pairwise (kl κ))(j:1<=m)(i:m<=a.size):∀x∈hd a m,kl κ x (a[m-1]'(by omega)):=λx e=>by
 obtain⟨d,h,f,rfl⟩:=lV e;exact Vp c f ⋯ ⋯
theorem Mh.kA(h:Mh κ a b st){i:Nat}(c:i<a.size):∃x,κ.keyOf a[i].1=some x:=h.hA _ (agg _)
theorem Mh.kB(h:Mh κ a b st){i:Nat}(c:i<b.size):∃x,κ.keyOf b[i].1=some x:=h.hB _ (agg _)
theorem Mj(d:cj st W3)(M:MI (kr κ) (a.toList++b.toList) o.toList (hd a m) (hd b n))(k:1<=m)(j:m<=a.size)(i:2<=n)(f:n<=b.size)(u:x+1+(m+n)<=a.size+b.size)(h:∀y∈hd b n,kl κ y (a[m-1]'(by omega))):wpS (model prog w) A E s (hi3 a b g p q m n o) (HiR κ a b x st) W3:=by
 unfold hi3;refine wpS_bind (cz (show m-1<a.size by lia) ?_);have r:=M.popL k j h;refine bz (λc=>wpS_pure (d,.inl (9,r.ha λy _ x t=>O4 (beq_iff_eq.mp c) t))) λl=>?_;have l:m-1≠0:=λe=>l (beq_iff_eq.mpr e);have I:HiI κ a b x (pq none (pq (m-1) (pq n (pq (o.push (a[m-1]'(by omega))) (pq g (pq p q)))))):=(m-1,n,1,_,9,r,by omega,by omega,i,f,by omega);exact bz (λ_=>wpS_pure (d,.inr I)) λ_=>wpS_pure (d,I)
theorem Nf(h:Mh κ a b st)(j:cj st W3)(M:MI (kr κ) (a.toList++b.toList) o.toList (hd a m) (hd b n))(i:1<=m)(f:m<=a.size)(O:2<=n)(z:n<=b.size)(P:x+2+(m+n)<=a.size+b.size)(N:∀x∈hd a m,kl κ x (b[n-1]'(by omega))):wpS (model prog w) A E s (hi2 a b g p q n m o) (HiR κ a b x st) W3:=by
 unfold hi2;refine wpS_bind (cz (show n-1<b.size by lia) ?_);have v:=M.popR ⋯ z N;refine bz (λc=>wpS_pure (j,.inl (9,v.hb ?_))) λI=>?_
 ·rw[beq_iff_eq.mp c];exact h.first _
 have I:n-1≠1:=λe=>I (beq_iff_eq.mpr e);refine wpS_bind (cz (show m-1<a.size by lia) (wpS_bind (nA (base:=0) (n:=n-1) (hint:=n-1-1) h.hO (j.kind.trans h.hk) h.hB (h.kA ⋯) (by rw[aic];exact wA h.sb ⋯) ⋯ ⋯ λl D C B=>?_)));have J:∀y∈hd b l,kl κ y (a[m-1]'(by omega)):=λy k=>by
  obtain⟨d,t,r,rfl⟩:=lV k;have q:=C d t;rw[aic,cG r]at q;exact KeyOrd.kle_of_klt q
 have u:=v.cutR D λy k x K=>by
  obtain⟨d,t,r,L,rfl⟩:=Hv k;have q:=B d t r;rw[aic,cG L]at q;exact gR (RT h.sa i f x K) q
 refine bz (λF=>bz (λc=>wpS_pure (j,.inl (9,u.hb ?_))) λH=>bz (λc=>wpS_pure (j,.inl (9,u.ha λy k x _=>O4 (beq_iff_eq.mp c) k))) λG=>?_) λF=>?_
 ·rw[beq_iff_eq.mp c];exact h.first _
 ·have H:l≠1:=λe=>H (beq_iff_eq.mpr e);have G:l≠0:=λe=>G (beq_iff_eq.mpr e);exact Mj j u i f ⋯ ⋯ ⋯ J
 ·obtain rfl:l=n-1:=by lia
  exact Mj j v i f ⋯ ⋯ ⋯ J
theorem LC(h:Mh κ a b st)(i:cj st W3)(M:MI (kr κ) (a.toList++b.toList) o.toList (hd a m) (hd b n))(C:1<=m)(l:m<=a.size)(k:2<=n)(f:n<=b.size)(I:x+2+(m+n)<=a.size+b.size):wpS (model prog w) A E s (hi1 a b o m n p q g) (HiR κ a b x st) W3:=by
 unfold hi1;refine wpS_bind (uQ i λK i=>?_);refine wpS_bind (cz (show n-1<b.size by lia) (wpS_bind (jZ (base:=0) (n:=m) (hint:=m-1) h.hO (i.kind.trans h.hk) h.hA (h.kB ⋯) (by rw[aic];exact wA h.sa l) ⋯ ⋯ λz B v u=>?_)));have G:∀x∈hd a z,kl κ x (b[n-1]'(by omega)):=λx j=>by
  obtain⟨d,t,r,rfl⟩:=lV j;have q:=v d t;rw[aic,cG r]at q;exact q
 have M1:MI (kr κ) (a.toList++b.toList) (o++(a.extract z m).reverse).toList (hd a z) (hd b n):=M.cutL B λx j y H=>by
  obtain⟨d,t,r,J,rfl⟩:=Hv j;have q:=u d t r;rw[aic,cG J]at q;exact gR (RT h.sb ⋯ f y H) (KeyOrd.kle_of_klt q)
 refine bz (λD=>bz (λc=>wpS_pure (i,.inl (9,M1.ha λy _ x j=>O4 (beq_iff_eq.mp c) j))) λF=>?_) λD=>?_
 ·have F:z≠0:=λe=>F (beq_iff_eq.mpr e);exact Nf h i M1 ⋯ ⋯ k f ⋯ G
 ·obtain rfl:z=m:=by lia
  exact Nf h i M C l k f I G
end
theorem Fz{st:SortSt}{a b:Array Keyed}{Q:Array Keyed->SortSt->Prop}(hO:κ.OneLt)(hk:kindOf st=oneType')(hA:KeysOf κ a)(hB:KeysOf κ b)(U:a.toList.Pairwise (kl κ))(T:b.toList.Pairwise (kl κ))(na:0<a.size)(nb:0<b.size)
  (hf:∀x∈a.toList,kl κ b[0] x)(hl:∀y∈b.toList,kl κ y (a[a.size-1]'(by omega)))(h:∀r t,cj st t->Fin (kl κ) (a.toList++b.toList) r.toList->Q r t):wpS (model prog w) A E s (vM a b) Q st:=by
 have kA:∀i (W:i<a.size),∃x,κ.keyOf a[i].1=some x:=λi W=>hA _ (agg _);have kB:∀i (W:i<b.size),∃x,κ.keyOf b[i].1=some x:=λi W=>hB _ (agg _);have first:∀m,∀x∈hd a m,∀y∈hd b 1,kr κ x y:=λm x K y C=>by
  obtain⟨d,a4,a3,rfl⟩:=lV C;have:d=0:=by lia
  subst this;exact hf x (agt (aih.mp K))
 have sA:=wA U (lo:=0) (aae _);have sB:=wA T (lo:=0) (aae _);have a1:∀d e (hd:d<a.size) (D:e<a.size),d<=e->kl κ a[d] a[e]:=λd e hd D J=>by
  have q:=sA d e (af3 _) J D;rw[cG hd,cG D]at q;exact q
 have a0:∀d e (hd:d<b.size) (D:e<b.size),d<=e->kl κ b[d] b[e]:=λd e hd D J=>by
  have q:=sB d e (af3 _) J D;rw[cG hd,cG D]at q;exact q
 have zA:∀n,∀y∈hd b n,∀x∈hd a 0,kr κ y x:=λn y _ x K=>by
  obtain⟨d,hd,_⟩:=lV K;lia
 have M0:MI (kr κ) (a.toList++b.toList) (#[a[a.size-1]'(by omega)]:Array Keyed).toList (hd a (a.size-1)) (hd b b.size):=by
  have ea:a.toList.take a.size=a.toList:=aaj (by rw[aaf];exact aae _);have Z:b.toList.take b.size=b.toList:=aaj (by rw[aaf];exact aae _);have M:MI (kr κ) (a.toList++b.toList) (#[]:Array Keyed).toList (hd a a.size) (hd b b.size):=by
   refine(2,.nil,2,2,λo V=>(agV V).elim,λo V=>(agV V).elim)
   ·show agH ([]++hd a a.size++hd b b.size) _;unfold hd;rw[ea,Z];exact(aiD _).append (aiD _)
   ·unfold hd;rw[ea];exact aib.mpr U
   ·unfold hd;rw[Z];exact aib.mpr T
  exact M.popL na (aae _) λy C=>hl y (by have:=aih.mp C;rw[Z]at this;exact this)
 have mh:Mh κ a b st:=(hO,hk,hA,hB,U,T,first);rw[Do];unfold mhi;refine wpS_bind (wpS_lift (wpAny_rule (7,2)));refine wpS_bind (cz (show a.size-1<a.size by lia) ?_);refine bz (λc=>wpS_pure (h _ _ (cj.refl _) (M0.ha ?_))) λP=>?_
 ·have c:a.size-1=0:=beq_iff_eq.mp c;rw[c];exact zA _
 refine bz (λc=>wpS_pure (h _ _ (cj.refl _) (M0.hb ?_))) λO=>?_
 ·have c:b.size=1:=beq_iff_eq.mp c;rw[c];exact first _
 have P:a.size-1≠0:=λz=>P (beq_iff_eq.mpr z);have O:b.size≠1:=λz=>O (beq_iff_eq.mpr z);refine wpS_bind (wpS_get ?_);refine wpS_bind (wpS_mono (wpS_forRange (I:=λx c t=>cj st t /\ ∃m n o g,c=(pq none (pq m (pq n (pq o g))))/\MI (kr κ) (a.toList++b.toList) o.toList (hd a m) (hd b n)/\1<=m/\m<=a.size/\2<=n/\n<=b.size/\x+1+(m+n)<=a.size+b.size)
  (Q:=λc t=>cj st t /\ ∃r,c.1=some r/\Fin (kl κ) (a.toList++b.toList) r.toList) ?_ ?_ (cj.refl _,a.size-1,b.size,_,9,M0,6,6,6,6,6)) ?_)
 ·rintro x c H _ K ⟨B,m,n,o,g,rfl,M,k,j,l,f,u⟩;refine wpS_bind (wpS_mono (wpS_forRange (I:=λy c t=>cj st t /\ ∃m n o p q,c=(pq none (pq m (pq n (pq o (pq p q)))))/\MI (kr κ) (a.toList++b.toList) o.toList (hd a m) (hd b n)/\1<=m/\m<=a.size/\2<=n/\n<=b.size/\x+1+y+(m+n)<=a.size+b.size)
   (Q:=λc t=>cj st t/\((∃r,c.1=some r/\Fin (kl κ) (a.toList++b.toList) r.toList) \/ ∃m n o p q,c=(pq none (pq m (pq n (pq o (pq p q)))))/\MI (kr κ) (a.toList++b.toList) o.toList (hd a m) (hd b n)/\1<=m/\m<=a.size/\2<=n/\n<=b.size/\x+2+(m+n)<=a.size+b.size)) ?_ ?_ (B,m,n,o,0,0,7,M,k,j,l,f,u)) ?_)
  ·rintro y c S _ C ⟨v,m,n,o,p,q,rfl,M,k,j,l,f,u⟩;refine wpS_bind (cz (show n-1<b.size by lia) (wpS_bind (cz (show m-1<a.size by lia) (wpS_bind (Hz hO (v.kind.trans hk) (kB (n-1) ⋯) (kA (m-1) ⋯) ?_)))));cases hv:κ.blt (ky κ (b[n-1]'(by omega))) (ky κ (a[m-1]'(by omega)))
   ·refine bz (λz=>absurd z ∅) λ_=>?_;refine wpS_bind (cz (show n-1<b.size by lia) ?_);have G:=M.popR ⋯ f λx K=>by
     obtain⟨d,h1,Y,rfl⟩:=lV K;exact gR (a1 d (m-1) Y ⋯ ⋯) hv
    refine bz (λz=>wpS_pure (v,.inl (9,G.hb ?_))) λz=>?_
    ·have z:n-1=1:=beq_iff_eq.mp z;rw[z];exact first _
    have z:n-1≠1:=λe=>z (beq_iff_eq.mpr e);exact bz (λ_=>wpS_pure (v,.inr (m,n-1,1,9,G,k,j,6,6,6))) λ_=>wpS_pure (v,m,n-1,1,9,G,k,j,6,6,6)
   ·refine bz (λ_=>?_) λz=>absurd rfl z;refine wpS_bind (cz (show m-1<a.size by lia) ?_);have G:=M.popL k j λy C=>by
     obtain⟨d,h1,Y,rfl⟩:=lV C;exact gR (a0 d (n-1) Y ⋯ ⋯) (KeyOrd.kle_of_klt hv)
    refine bz (λz=>wpS_pure (v,.inl (9,G.ha ?_))) λz=>?_
    ·have z:m-1=0:=beq_iff_eq.mp z;rw[z];exact zA _
    have z:m-1≠0:=λe=>z (beq_iff_eq.mpr e);exact bz (λ_=>wpS_pure (v,.inr (m-1,n,1,9,G,6,6,l,f,6))) λ_=>wpS_pure (v,m-1,n,1,9,G,6,6,l,f,6)
  ·rintro c S ⟨v,m,n,o,p,q,rfl,M,k,j,l,f,u⟩;exact(v,.inr (m,n,o,p,q,7,M,k,j,l,f,6))
  ·rintro c S ⟨v,X⟩;rcases X with ⟨r,L,N⟩|⟨m,n,o,p,q,rfl,M,k,j,l,f,u⟩
   ·obtain⟨P,O⟩:=c;cases L;exact wpS_pure (v,r,7,N)
   refine wpS_bind (wpS_lift (wpAny_rule (7,2)));refine wpS_bind (wpS_mono (wpS_forRange (I:=λy c t=>cj st t/\HiI κ a b x c)
    (Q:=λc t=>cj st t/\((∃r,c.1=some r/\Fin (kl κ) (a.toList++b.toList) r.toList)\/HiI κ a b x c)) ?_ ?_ (v,m,n,o,_,p,q,7,M,k,j,l,f,u)) ?_)
   ·rintro y c R _ C ⟨F,m,n,o,g,p,q,rfl,M,k,j,l,f,u⟩;refine wpS_mono (Q:=HiR κ a b x st) ?_ λr t h=>by cases r<;>exact h
    show wpS _ _ _ _ (if g > 1 then hi1 a b o m n p q (g-1)else hi1 a b o m n p q g) _ _;exact bz (λ_=>LC mh F M k j l f u) λ_=>LC mh F M k j l f u
   ·rintro c R ⟨F,m,n,o,g,p,q,rfl,M,k,j,l,f,u⟩;exact(F,.inr (m,n,o,g,p,q,7,M,k,j,l,f,u))
   ·rintro c R ⟨F,X⟩;rcases X with ⟨r,L,N⟩|⟨m,n,o,g,p,q,rfl,M,k,j,l,f,u⟩
    ·obtain⟨P,O⟩:=c;cases L;exact wpS_pure (F,r,7,N)
    exact wpS_bind (uQ F λW3 a2=>wpS_pure (a2,m,n,o,9,M,k,j,l,f,6))
 ·rintro c H ⟨B,m,n,o,g,rfl,M,k,j,l,f,u⟩;exfalso;lia
 ·rintro c H ⟨B,r,L,N⟩;obtain⟨P,O⟩:=c;cases L;exact wpS_pure (h r H B N)
end
theorem DR(i:Nat):mergeAt' i=(do
 let u <-get
 let (pq (some (pq sa (pq m pw))) (some (pq sb (pq n _)))):=(pq ((pendingOf u)[i]?) ((pendingOf u)[i+1]?)) | unsupported "internal:list.sort.pending"
 set (setPending u (((pendingOf u).setIfInBounds i (pq sa (pq (m+n) pw))).eraseIdxIfInBounds (i+1)))
 let some k <-dO false (<-elem' (arrOf u) sb) (arrOf u) sa m 0|return false
 let (pq sa m):=(pq (sa+k) (m-k))
 if m==0 then return true
 let some n <-dO true (<-elem' (arrOf u) (sa+m-1)) (arrOf u) sb n (n-1) | return false
 if n==0 then return true
 let x:=(arrOf u).extract sa sb
 let y:=(arrOf u).extract sb (sb+n)
 let r <-if m<=n then vm x y else vM x y
 modify λv=>setArr v (r.toList.zipIdx.foldl (λc (p,j)=>c.setIfInBounds (sa+j) p) (arrOf v))
 return (failedOf (<-get)).isNone):=rfl
def wr(xs:Array Keyed)(base:Nat)(r:List Keyed):Array Keyed:=r.zipIdx.foldl (λc (p,j)=>c.setIfInBounds (base+j) p) xs
theorem Sg(base:Nat):∀(r:List Keyed) (n:Nat) (xs:Array Keyed),base+n+r.length<=xs.size->((r.zipIdx n).foldl (λc (p,j)=>c.setIfInBounds (base+j) p) xs).size=xs.size /\ ∀t:Nat,((r.zipIdx n).foldl (λc (p,j)=>c.setIfInBounds (base+j) p) xs)[t]?=if base+n<=t/\t<base+n+r.length then r[t-(base+n)]? else xs[t]?
 |[],n,xs,_=>(7,λt=>by rw[if_neg (by rw[aiL];lia)];rfl)
 |p::r,n,xs,h=>by
  rw[aao]at h;have a:=Sg base r (n+1) (xs.setIfInBounds (base+n) p) (by rw[aiE];lia);rw[List.zipIdx_cons,ajn];refine(a.1.trans aiE,λt=>(a.2 t).trans ?_);rw[aao];by_cases d:t=base+n
  ·subst d;rw[if_neg ⋯,if_pos ⋯,ahy,Array.getElem?_setIfInBounds_self_of_lt ⋯];rfl
  by_cases b:base+(n+1)<=t/\t<base+(n+1)+r.length
  ·rw[if_pos b,if_pos ⋯,show t-(base+n)=t-(base+(n+1))+1 by lia,ahC]
  ·rw[if_neg b,if_neg ⋯,ahw ⋯]
theorem GQ{xs:Array Keyed}{base:Nat}{r:List Keyed}(h:base+r.length<=xs.size)(t:Nat):(wr xs base r)[t]?=if base<=t/\t<base+r.length then r[t-base]? else xs[t]?:=(Sg base r 0 xs h).2 t
theorem Qs{xs:Array Keyed}{base:Nat}{r:List Keyed}(h:base+r.length<=xs.size):(wr xs base r).toList=xs.toList.take base++r++xs.toList.drop (base+r.length):=by
 apply agn;intro t;have a:(xs.toList.take base).length=base:=by rw[aaq,aaf];lia
 rw[agh,GQ h];by_cases b:t<base
 ·rw[if_neg ⋯,af5,af4 ⋯,af9 b,agh]
 by_cases c:t<base+r.length
 ·rw[if_pos ⋯,af5,agd ⋯,a,af4 ⋯]
 ·rw[if_neg ⋯,agd (by rw[aac];lia),aac,a,agm,agh];congr 1;lia
section
variable{w:World}{a₀:Array Keyed}{κ:KeyKind}{pd:Array (Nat×Nat×Nat)}
theorem Rk{σ:Type}{M:Model}{st a:σ}{Q:PUnit->σ->Prop}(h:Q ⟨⟩ a):wpS M A E s (set a:StateT σ Sem PUnit) Q st:=by
 unfold wpS;rw[StateT.run_set];exact wpAny_pure (7,h)
theorem Kv{xs ys:Array Keyed}(h:KeysOf κ ys)(p:xs.Perm ys):KeysOf κ xs:=λq a=>h q ((ahm.mp p).mem_iff.mp a)
theorem Ni{xs:Array Keyed}(h:KeysOf κ xs){i:Nat}(b:i<xs.size):∃a,κ.keyOf xs[i].1=some a:=h _ (agg _)
theorem DK{xs:Array Keyed}{lo n:Nat}(h:Sd κ xs lo (lo+n))(d:lo+n<=xs.size):((xs.toList.drop lo).take n).Pairwise (kl κ):=by
 refine agf.mpr λi j b a c=>?_;rw[aaq,aaM,aaf]at b a;rw[ahT,ahv,agy,ahT,ahv,agy];have q:=h (lo+i) (lo+j) ⋯ ⋯ ⋯;rw[cG (show lo+i<xs.size by lia),cG (show lo+j<xs.size by lia)]at q;exact q
theorem FQ{st:SortSt}{i m j n S a6:Nat}{Q:Bool->SortSt->Prop}(hO:κ.OneLt)(h0:KeysOf κ a₀)(D:TB a₀ pd st)(h1:pd[i]?=some (pq z (pq m S)))(h2:pd[i+1]?=some (pq j (pq n a6)))(a7:j=z+m)(hm:1<=m)(hn:1<=n)(hz:j+n<=a₀.size)(H:Sd κ (arrOf st) z j)(G:Sd κ (arrOf st) j (j+n))
  (h:∀o,TB a₀ ((pd.setIfInBounds i (pq z (pq (m+n) S))).eraseIdxIfInBounds (i+1)) o->Sd κ (arrOf o) z (j+n)->(∀k:Nat,k<z\/j+n<=k->(arrOf o)[k]?=(arrOf st)[k]?)->Q true o):wpS (model prog w) A E s (mergeAt' i) Q st:=by
 have a9:=D.size;have O:KeysOf κ (arrOf st):=Kv h0 D.perm;rw[DR];refine wpS_bind (wpS_get ?_);dsimp only;rw[D.pend,h1,h2];dsimp only;refine wpS_bind (Rk ?_);have P:TB a₀ ((pd.setIfInBounds i (pq z (pq (m+n) S))).eraseIdxIfInBounds (i+1)) (setPending st ((pd.setIfInBounds i (pq z (pq (m+n) S))).eraseIdxIfInBounds (i+1))):=(D.perm,D.kind,D.failed,7);refine wpS_bind (cz (show j<(arrOf st).size by lia) (wpS_bind (jZ hO P.kind O (Ni O ⋯) (by rw[<-a7];exact H) ⋯ ⋯ λk b1 Z Y=>?_)));dsimp only;have ek:ky κ ((arrOf st)[j]'(by omega))=KK κ (arrOf st) j:=(cG _).symm;rw[ek]at Z Y;have J:∀t,z<=t->t<z+k->κ.kle (KK κ (arrOf st) t) (KK κ (arrOf st) j):=λt a b=>by
  have q:=Z (t-z) ⋯
  rwa [show z+(t-z)=t by lia]at q
 have a5:∀t,z+k<=t->t<j->κ.klt (KK κ (arrOf st) j) (KK κ (arrOf st) t):=λt a b=>by
  have q:=Y (t-z) ⋯ ⋯
  rwa [show z+(t-z)=t by lia]at q
 refine bz (λc=>wpS_pure (h _ P (λt u a b d=>?_) λt _=>rfl)) λc=>?_
 ·have c:m-k=0:=beq_iff_eq.mp c;by_cases M:u<j
  ·exact H t u a b M
  by_cases p:t<j
  ·exact KeyOrd.kle_trans (J t a ⋯) (G j u (aae _) ⋯ d)
  ·exact G t u ⋯ b d
 have c:m-k≠0:=λe=>c (beq_iff_eq.mpr e);refine wpS_bind (cz (show z+k+(m-k)-1<(arrOf st).size by lia) (wpS_bind (nA hO P.kind O (Ni O ⋯) G ⋯ ⋯ λl b0 X W=>?_)));dsimp only;have el:ky κ ((arrOf st)[z+k+(m-k)-1]'(by omega))=KK κ (arrOf st) (j-1):=by
  rw[<-cG];congr 1;lia
 rw[el]at X W;have a2:∀t,j<=t->t<j+l->κ.klt (KK κ (arrOf st) t) (KK κ (arrOf st) (j-1)):=λt a b=>by
  have q:=X (t-j) ⋯
  rwa [show j+(t-j)=t by lia]at q
 have T:∀t,j+l<=t->t<j+n->κ.kle (KK κ (arrOf st) (j-1)) (KK κ (arrOf st) t):=λt a b=>by
  have q:=W (t-j) ⋯ ⋯
  rwa [show j+(t-j)=t by lia]at q
 refine bz (λc=>wpS_pure (h _ P (λt u a b d=>?_) λt _=>rfl)) λc2=>?_
 ·have c:l=0:=beq_iff_eq.mp c;by_cases M:u<j
  ·exact H t u a b M
  by_cases p:t<j
  ·exact KeyOrd.kle_trans (H t (j-1) a ⋯ ⋯) (T u ⋯ d)
  ·exact G t u ⋯ b d
 have c2:l≠0:=λe=>c2 (beq_iff_eq.mpr e);have a4:((arrOf st).extract (z+k) j).size=m-k:=by rw[ai4];lia
 have a3:((arrOf st).extract j (j+l)).size=l:=by rw[ai4];lia
 have xl:((arrOf st).extract (z+k) j).toList=((arrOf st).toList.drop (z+k)).take (m-k):=by
  rw[ahr,agZ,show j-(z+k)=m-k by lia]
 have yl:((arrOf st).extract j (j+l)).toList=((arrOf st).toList.drop j).take l:=oX _ _ _;have sx:((arrOf st).extract (z+k) j).toList.Pairwise (kl κ):=by
  rw[xl];exact DK (λt u a b d=>H t u ⋯ b ⋯) ⋯
 have sy:((arrOf st).extract j (j+l)).toList.Pairwise (kl κ):=by
  rw[yl];exact DK (λt u a b d=>G t u a b ⋯) ⋯
 have y:∀f∈((arrOf st).extract (z+k) j).toList,∃t,z+k<=t/\t<j/\ky κ f=KK κ (arrOf st) t/\f∈(arrOf st).toList:=λf hz=>by
  rw[xl]at hz;obtain⟨d,hd,K,rfl⟩:=nW hz;exact(z+k+d,6,6,(cG K).symm,agg _)
 have x:∀f∈((arrOf st).extract j (j+l)).toList,∃t,j<=t/\t<j+l/\ky κ f=KK κ (arrOf st) t/\f∈(arrOf st).toList:=λf hz=>by
  rw[yl]at hz;obtain⟨d,hd,K,rfl⟩:=nW hz;exact(j+d,6,6,(cG K).symm,agg _)
 have kx:KeysOf κ ((arrOf st).extract (z+k) j):=λf hz=>O f (y f hz).choose_spec.2.2.2;have U:KeysOf κ ((arrOf st).extract j (j+l)):=λf hz=>O f (x f hz).choose_spec.2.2.2;have y0:ky κ (((arrOf st).extract j (j+l))[0]'(by omega))=KK κ (arrOf st) j:=by
  rw[aiQ];exact(cG ⋯).symm
 have L:ky κ (((arrOf st).extract (z+k) j)[((arrOf st).extract (z+k) j).size-1]'(by omega))=KK κ (arrOf st) (j-1):=by
  rw[aiQ,<-cG];congr 1;lia
 have hf:∀f∈((arrOf st).extract (z+k) j).toList,kl κ (((arrOf st).extract j (j+l))[0]'(by omega)) f:=λf hz=>by
  obtain⟨t,p,N,e,_⟩:=y f hz;unfold kl;rw[y0,e];exact KeyOrd.kle_of_klt (a5 t p N)
 have hl:∀f∈((arrOf st).extract j (j+l)).toList,kl κ f (((arrOf st).extract (z+k) j)[((arrOf st).extract (z+k) j).size-1]'(by omega)):=λf hz=>by
  obtain⟨t,p,N,e,_⟩:=x f hz;unfold kl;rw[L,e];exact KeyOrd.kle_of_klt (a2 t p N)
 have a0:∀(r:Array Keyed) (o:SortSt),cj (setPending st ((pd.setIfInBounds i (pq z (pq (m+n) S))).eraseIdxIfInBounds (i+1))) o->Fin (kl κ) (((arrOf st).extract (z+k) j).toList++((arrOf st).extract j (j+l)).toList) r.toList ->
   wpS (model prog w) A E s (do
    modify λv=>setArr v (wr (arrOf v) (z+k) r.toList)
    return (failedOf (<-get)).isNone) Q o:=by
  intro r o hg hF;have a8:r.toList.length=m-k+l:=by rw[hF.1.length_eq,aac,aaf,aaf,a4,a3]
  have ea:arrOf o=arrOf st:=hg.arr;have B:z+k+r.toList.length<=(arrOf st).size:=by lia
  refine wpS_bind (wpS_modify (wpS_bind (wpS_get ?_)));have e3:failedOf (setArr o (wr (arrOf o) (z+k) r.toList))=none:=hg.failed.trans D.failed;rw[e3];refine wpS_pure (h _ (2,hg.kind.trans D.kind,e3,hg.pend) ?_ ?_)
  ·show (wr (arrOf o) (z+k) r.toList).Perm a₀;rw[ea];refine Array.Perm.trans (ahm.mpr ?_) D.perm;rw[Qs B,a8];have e4:(arrOf st).toList=(arrOf st).toList.take (z+k)++(((arrOf st).extract (z+k) j).toList++((arrOf st).extract j (j+l)).toList)++(arrOf st).toList.drop (z+k+(m-k+l)):=by
    rw[xl,yl,af5]
    conv=>lhs;rw[<-agJ (z+k) (arrOf st).toList]
    congr 1
    conv=>lhs;rw[<-agJ (m-k+l) ((arrOf st).toList.drop (z+k))]
    rw[agw,ajB,agw,show z+k+(m-k)=j by lia]
   conv=>rhs;rw[e4]
   exact((ajw _).append hF.1).append (ajw _)
  ·have a1:∀t,KK κ (wr (arrOf st) (z+k) r.toList) t=if ht:z+k<=t/\t<j+l then ky κ (r.toList[t-(z+k)]'(by omega))else KK κ (arrOf st) t:=λt=>by
    have g:=GQ B t;by_cases ht:z+k<=t/\t<j+l
    ·rw[dif_pos ht];rw[if_pos ⋯,aab ⋯]at g;unfold KK ky;rw[g]
    ·rw[dif_neg ht];rw[if_neg ⋯]at g;exact KK_congr g
   have I:∀f∈r.toList,∃t,z+k<=t/\t<j+l/\ky κ f=KK κ (arrOf st) t:=λf hz=>by
    rcases aaG.mp (hF.1.mem_iff.mp hz)with hz|hz
    ·obtain⟨t,p,N,e,_⟩:=y f hz;exact(t,p,6,e)
    ·obtain⟨t,p,N,e,_⟩:=x f hz;exact(t,6,N,e)
   have C:∀t,z<=t->t<z+k -> ∀u,z+k<=u->u<j+n->κ.kle (KK κ (arrOf st) t) (KK κ (arrOf st) u):=λt a b u c d=>by
    by_cases M:u<j
    ·exact H t u a ⋯ M
    ·exact KeyOrd.kle_trans (J t a b) (G j u (aae _) ⋯ d)
   have F:∀t,z+k<=t->t<j+l -> ∀u,j+l<=u->u<j+n->κ.kle (KK κ (arrOf st) t) (KK κ (arrOf st) u):=λt a b u c d=>by
    by_cases p:t<j
    ·exact KeyOrd.kle_trans (H t (j-1) ⋯ ⋯ ⋯) (T u c d)
    ·exact G t u ⋯ ⋯ d
   show Sd κ (wr (arrOf o) (z+k) r.toList) z (j+n);rw[ea];intro t u a b d;rw[a1,a1];by_cases tr:z+k<=t/\t<j+l
   ·rw[dif_pos tr];by_cases R:z+k<=u/\u<j+l
    ·rw[dif_pos R];by_cases e:t=u
     ·subst e;exact KeyOrd.kle_refl _
     ·exact agf.mp hF.2 (t-(z+k)) (u-(z+k)) ⋯ ⋯ ⋯
    ·rw[dif_neg R];obtain⟨v,v1,v2,e⟩:=I _ (age (show t-(z+k)<r.toList.length by lia));rw[e];exact F v v1 v2 u ⋯ d
   ·rw[dif_neg tr];by_cases R:z+k<=u/\u<j+l
    ·rw[dif_pos R];obtain⟨v,v1,v2,e⟩:=I _ (age (show u-(z+k)<r.toList.length by lia));rw[e];exact C t a ⋯ v v1 ⋯
    ·rw[dif_neg R];by_cases p:t<z+k
     ·by_cases M:u<z+k
      ·exact H t u a b ⋯
      ·exact C t a p u ⋯ d
     ·exact G t u ⋯ b d
  ·intro t ht;show (wr (arrOf o) (z+k) r.toList)[t]?=_;rw[ea,GQ B,if_neg ⋯]
 by_cases V:m-k<=l
 ·rw[if_pos V];exact wpS_bind (Ft hO P.kind kx U sx sy ⋯ ⋯ hf hl a0)
 ·rw[if_neg V];exact wpS_bind (Fz hO P.kind kx U sx sy ⋯ ⋯ hf hl a0)
end
def Lay:Nat->List (Nat×Nat×Nat)->Nat->Prop
 |s,[],e=>s=e
 |s,x::r,e=>s=x.1/\1<=x.2.1/\Lay (x.1+x.2.1) r e
theorem p6:∀{P R:List (Nat×Nat×Nat)} {s e:Nat},Lay s (P++R) e ↔ ∃m,Lay s P m/\Lay m R e
 |[],R,s,e=>(λh=>(s,7,h),λ⟨m,b,a⟩=>by cases b;exact a)
 |x::P,R,s,e=>by
  constructor
  ·rintro⟨b,a,f⟩;obtain⟨m,d,c⟩:=p6.mp f;exact(m,(b,a,d),c)
  ·rintro⟨m,⟨b,a,d⟩,c⟩;exact(b,a,p6.mpr (m,d,c))
theorem jb:∀{R:List (Nat×Nat×Nat)} {s e:Nat},Lay s R e->s+R.length<=e /\ ∀x∈R,s<=x.1/\x.1+x.2.1<=e
 |[],s,e,h=>(aiv h,λx a=>by cases a)
 |y::R,s,e,h=>by
  obtain⟨f,d,b⟩:=h;obtain⟨g,c⟩:=jb b;refine(by rw[aao];lia,λx a=>?_);rcases aav.mp a with rfl|a
  ·lia
  ·have:=c x a;lia
structure Runs(κ:KeyKind)(xs:Array Keyed)(pd:Array (Nat×Nat×Nat))(lo:Nat):Prop where
 lay:Lay 0 pd.toList lo
 sd:∀x∈pd.toList,Sd κ xs x.1 (x.1+x.2.1)
theorem mH{κ:KeyKind}{xs ys:Array Keyed}{lo :Nat}(h:Sd κ xs lo n)(e:∀k:Nat,lo<=k->k<n->ys[k]?=xs[k]?):Sd κ ys lo n:=λi j a b c=>by
 rw[KK_congr (e i a ⋯),KK_congr (e j ⋯ c)];exact h i j a b c
theorem Runs.low{κ:KeyKind}{xs ys:Array Keyed}{a:Array (Nat×Nat×Nat)}{lo:Nat}(h:Runs κ xs a lo)(e:Xj lo xs ys):Runs κ ys a lo:=
 (h.lay,λx b=>mH (h.sd x b) λk _ c=>e k (by have:=(jb h.lay).2 x b;lia))
theorem Runs.push{κ:KeyKind}{xs:Array Keyed}{b:Array (Nat×Nat×Nat)}{lo n p:Nat}(h:Runs κ xs b lo)(d:1<=n)(c:Sd κ xs lo (lo+n)):Runs κ xs (b.push (pq lo (pq n p))) (lo+n):=by
 refine(by rw[agY];exact p6.mpr (lo,h.lay,7,d,7),λx a=>?_);rw[agY]at a;rcases aaG.mp a with a|a
 ·exact h.sd x a
 ·rw[aan.mp a];exact c
theorem Cj:∀{R b:List (Nat×Nat×Nat)} {s e:Nat},R.map (λx=>(pq x.1 x.2.1))=b.map (λx=>(pq x.1 x.2.1))->Lay s R e->Lay s b e
 |[],[],_,_,_,h=>h
 |[],_::_,_,_,h,_=>by cases h
 |_::_,[],_,_,h,_=>by cases h
 |x::R,y::b,s,e,h,l=>by
  rw[aax,aax]at h;injection h with j i
  injection j with g f
  obtain⟨d,c,a⟩:=l;rw[g]at d a;rw[f]at c a;exact(d,c,Cj i a)
theorem Runs.same{κ:KeyKind}{xs:Array Keyed}{a b:Array (Nat×Nat×Nat)}{lo:Nat}(h:Runs κ xs a lo)(e:a.toList.map (λx=>(pq x.1 x.2.1))=b.toList.map (λx=>(pq x.1 x.2.1))):Runs κ xs b lo:=by
 refine(Cj e h.lay,λx d=>?_);have f:(pq x.1 x.2.1)∈a.toList.map (λx=>(pq x.1 x.2.1)):=by
  rw[e];exact afs.mpr (x,d,7)
 obtain⟨y,c,j⟩:=afs.mp f;injection j with i g
 have q:=h.sd y c;rw[i,g]at q;exact q
theorem Tj{c:Prop}[Decidable c]{n:Nat}(h:¬n<=1):(if c then n-2-1 else n-2)+1<n:=by
 split<;>lia
theorem Ci{a:Type}(l:List G)(i:Nat)(f:G->G)(g:G->a)(h:∀x,g (f x)=g x):(l.modify i f).map g=l.map g:=by
 apply agn;intro t;rw[aak,aak,List.getElem?_modify];cases l[t]? with
 |none=>rfl
 |some x=>
  by_cases e:i=t
  ·simp[e,h]
  ·simp[e]
section
variable{w:World}{a₀:Array Keyed}{κ:KeyKind}{pd:Array (Nat×Nat×Nat)}
theorem kh{st:SortSt}{i lo:Nat}{Q:Bool->SortSt->Prop}(hO:κ.OneLt)(V:KeysOf κ a₀)(U:TB a₀ pd st)(o:Runs κ (arrOf st) pd lo)(T:i+1<pd.size)(Z:lo<=a₀.size)
  (h:∀a D,TB a₀ D a->Runs κ (arrOf a) D lo->D.size+1=pd.size->(∀k:Nat,lo<=k->(arrOf a)[k]?=(arrOf st)[k]?)->Q true a):wpS (model prog w) A E s (mergeAt' i) Q st:=by
 obtain⟨⟨b,m,l⟩,O⟩:∃x,pd[i]?=some x:=(_,getElem?_pos pd i ⋯);obtain⟨⟨j,n,e⟩,N⟩:∃x,pd[i+1]?=some x:=(_,getElem?_pos pd (i+1) T);have g:pd.toList=pd.toList.take i++(pq b (pq m l))::(pq j (pq n e))::pd.toList.drop (i+2):=by
  have X:pd.toList[i]?=some (pq b (pq m l)):=by rw[agh];exact O
  have W:pd.toList[i+1]?=some (pq j (pq n e)):=by rw[agh];exact N
  have B:=aad.mp X;have z:=aad.mp W;obtain⟨B,I⟩:=B;obtain⟨z,H⟩:=z
  conv=>lhs;rw[<-agJ i pd.toList]
  rw[agv B,I,agv z,H]
 have d:=o.lay;rw[g]at d;obtain⟨S,M,L,K,v,J,u⟩:=p6.mp d;dsimp only at L K v J u;have Y:=jb M;have C:=jb u;have t:(pq b (pq m l))∈pd.toList:=by rw[g];exact aau _ aal
 have r:(pq j (pq n e))∈pd.toList:=by rw[g];exact aau _ (aai _ aal)
 have R:=o.sd _ t;have P:=o.sd _ r;dsimp only at R P;refine FQ hO V U O N v.symm K J (by have:=C.1;lia) (by rw[<-v];exact R) P λa G F f=>?_;have y:((pd.setIfInBounds i (pq b (pq (m+n) l))).eraseIdxIfInBounds (i+1)).toList=pd.toList.take i++(pq b (pq (m+n) l))::pd.toList.drop (i+2):=by
  have p:(pd.toList.take i).length=i:=by rw[aaq,aaf];lia
  rw[Array.toList_eraseIdxIfInBounds,Array.toList_setIfInBounds]
  conv=>lhs;rw[g]
  rw[List.set_append_right _ _ ⋯,p,ahy,List.set_cons_zero,List.eraseIdx_append_of_length_le ⋯,p,agN];rfl
 refine h a _ G (2,λx c=>?_) ?_ λk hk=>f k (.inr (by have:=C.1;lia))
 ·rw[y];refine p6.mpr (S,M,L,by show 1<=m+n;lia,2);show Lay (b+(m+n)) _ lo;rw[show b+(m+n)=j+n by lia];exact u
 ·rw[y]at c;rcases aaG.mp c with c|c
  ·have q:=o.sd x (by rw[g];exact agj _ c);exact mH q λk _ a0=>f k (.inl (by have:=Y.2 x c;lia))
  ·rcases aav.mp c with rfl|c
   ·show Sd κ (arrOf a) b (b+(m+n));rw[show b+(m+n)=j+n by lia];exact F
   ·have q:=o.sd x (by rw[g];exact aau _ (aai _ (aai _ c)));exact mH q λk a1 _=>f k (.inr (by have:=C.2 x c;lia))
 ·have:=congrArg ahY y;rw[aaf,aac,aaq,aao,aaM,aaf]at this;lia
theorem Nm{xs:Array Keyed}{lo n:Nat}(h:Xy κ xs lo n):Sd κ xs lo (lo+n):=λi j a b c=>by
 have q:=h (i-lo) (j-lo) ⋯ ⋯
 rwa [show lo+(i-lo)=i by lia,show lo+(j-lo)=j by lia]at q
theorem Bp{st:SortSt}{Q:Unit->SortSt->Prop}(hO:κ.OneLt)(P:KeysOf κ a₀)(hB:TB a₀ #[] st)(h2:2<=a₀.size)
  (h:∀a,(arrOf a).Perm a₀->failedOf a=none->SortedToK κ (arrOf a) a₀.size->Q () a):wpS (model prog w) A E s sortRuns' Q st:=by
 rw[sortRuns'_eq];refine wpS_bind (wpS_get ?_);dsimp only;rw[hB.size];refine wpS_bind (wpS_mono (wpS_forRange (I:=λx c a=>∃b pd,c=(pq none b)/\TB a₀ pd a/\Runs κ (arrOf a) pd b/\x<=b/\b<=a₀.size) (Q:=λc a=>∃pd,c=(pq none a₀.size)/\TB a₀ pd a/\Runs κ (arrOf a) pd a₀.size) ?_ ?_ (0,#[],7,hB,(7,λx X=>by cases X),aae _,af3 _)) ?_)
 ·rintro x c S _ X ⟨b,pd,rfl,O,D,YM,H⟩;dsimp only;by_cases T:b >= a₀.size
  ·rw[if_pos T];have:b=a₀.size:=by lia
   subst this;exact wpS_pure (pd,7,O,D)
  rw[if_neg T];refine wpS_bind (Bx hO P O ⋯ ⋯ λm u f a8 a3 b0 o=>?_);dsimp only;have z:=D.low a8;by_cases G:m<minRun' a₀.size a₀.size 0
  ·rw[if_pos G];generalize minRun' a₀.size a₀.size 0=mr at G ⊢;refine wpS_bind (wpS_lift (wpAny_rule (7,2)));refine wpS_bind (xJ hO P f ⋯ ⋯ o λR d a7 a6=>?_);rw[if_neg ∅];have C:=z.low a7;have l:=Nm a6;obtain⟨n,hn,v,ZL⟩:∃n,min (a₀.size-b) mr=n/\1<=n/\b+n<=a₀.size:=(9,6,6);rw[hn]at l ⊢;refine wpS_bind (wpS_get ?_);rw[d.pend];cases a5:pd.back? with
   |none=>
    dsimp only;exact wpS_bind (wpS_modify (wpS_pure (b+n,pd.push (pq b (pq n 0)),7,(d.perm,d.kind,d.failed,by show (pendingOf R).push _=_;rw[d.pend]),C.push v l,6,6)))
   |some t=>
    obtain⟨s1,n1,p1⟩:=t;dsimp only;refine wpS_bind (wpS_mono (wpS_forRange (I:=λ_ c a=>c=(pq none (())) /\ ∃e,TB a₀ e a/\Runs κ (arrOf a) e b/\Sd κ (arrOf a) b (b+n)) (Q:=λc a=>c=(pq none (())) /\ ∃e,TB a₀ e a/\Runs κ (arrOf a) e b/\Sd κ (arrOf a) b (b+n)) ?_ ?_ (7,pd,d,C,l)) ?_)
    ·rintro y c r _ _ ⟨rfl,e,g,q,p⟩;refine wpS_bind (wpS_get ?_);rw[g.pend];by_cases B:e.size > 1
     ·rw[if_pos B,getElem?_pos e (e.size-2) ⋯];generalize e[e.size-2]=W;obtain⟨a1,a2,M⟩:=W;dsimp only;refine bz (λ_=>wpS_pure (7,e,g,q,p)) λ_=>wpS_bind (kh hO P g q ⋯ H λXo F L K _ J=>?_);rw[if_neg ∅];exact wpS_pure (7,F,L,K,mH p λk Y _=>J k Y)
     ·rw[if_neg B];exact wpS_pure (7,e,g,q,p)
    ·rintro c r Z;exact Z
    ·rintro c r ⟨rfl,e,g,q,p⟩;dsimp only;refine wpS_bind (wpS_modify (wpS_bind (wpS_modify (wpS_pure (b+n,9,(g.perm,g.kind,g.failed,7),2,6,6)))));show Runs κ (arrOf r) (((pendingOf r).modify ((pendingOf r).size-1) _).push (pq b (pq n 0))) (b+n);rw[g.pend];refine Runs.push (q.same ?_) v p;rw[aiY];refine(Ci _ _ _ _ ?_).symm;exact λ_=>rfl
  ·rw[if_neg G];have d:=f;have C:=z;have l:=Nm o;have v:=a3;refine wpS_bind (wpS_get ?_);rw[d.pend];cases a5:pd.back? with
   |none=>
    dsimp only;exact wpS_bind (wpS_modify (wpS_pure (b+m,pd.push (pq b (pq m 0)),7,(d.perm,d.kind,d.failed,by show (pendingOf u).push _=_;rw[d.pend]),C.push v l,6,6)))
   |some t=>
    obtain⟨s1,n1,p1⟩:=t;dsimp only;refine wpS_bind (wpS_mono (wpS_forRange (I:=λ_ c a=>c=(pq none (())) /\ ∃e,TB a₀ e a/\Runs κ (arrOf a) e b/\Sd κ (arrOf a) b (b+m)) (Q:=λc a=>c=(pq none (())) /\ ∃e,TB a₀ e a/\Runs κ (arrOf a) e b/\Sd κ (arrOf a) b (b+m)) ?_ ?_ (7,pd,d,C,l)) ?_)
    ·rintro y c r _ _ ⟨rfl,e,g,q,p⟩;refine wpS_bind (wpS_get ?_);rw[g.pend];by_cases B:e.size > 1
     ·rw[if_pos B,getElem?_pos e (e.size-2) ⋯];generalize e[e.size-2]=W;obtain⟨a1,a2,M⟩:=W;dsimp only;refine bz (λ_=>wpS_pure (7,e,g,q,p)) λ_=>wpS_bind (kh hO P g q ⋯ H λXo F L K _ J=>?_);rw[if_neg ∅];exact wpS_pure (7,F,L,K,mH p λk Y _=>J k Y)
     ·rw[if_neg B];exact wpS_pure (7,e,g,q,p)
    ·rintro c r Z;exact Z
    ·rintro c r ⟨rfl,e,g,q,p⟩;dsimp only;refine wpS_bind (wpS_modify (wpS_bind (wpS_modify (wpS_pure (b+m,9,(g.perm,g.kind,g.failed,7),2,6,6)))));show Runs κ (arrOf r) (((pendingOf r).modify ((pendingOf r).size-1) _).push (pq b (pq m 0))) (b+m);rw[g.pend];refine Runs.push (q.same ?_) v p;rw[aiY];refine(Ci _ _ _ _ ?_).symm;exact λ_=>rfl
 ·rintro c S ⟨b,pd,rfl,O,D,YM,H⟩;have:b=a₀.size:=by lia
  subst this;exact(pd,7,O,D)
 ·rintro c S ⟨pd,rfl,O,D⟩;dsimp only;refine wpS_bind (wpS_mono (wpS_forRange (I:=λx c a=>c=(pq none (())) /\ ∃pd,TB a₀ pd a/\Runs κ (arrOf a) pd a₀.size/\pd.size+x<=a₀.size) (Q:=λc a=>c=(pq none (())) /\ ∃pd,TB a₀ pd a/\Runs κ (arrOf a) pd a₀.size/\pd.size<=1) ?_ ?_ (7,pd,O,D,2)) ?_)
  ·rintro x c u _ X ⟨rfl,N,f,z,o⟩;refine wpS_bind (wpS_get ?_);rw[f.pend];refine bz (λB=>wpS_pure (7,N,f,z,B)) λB=>?_;refine wpS_bind (kh hO P f z (Tj B) (aae _) λR a0 d C a9 _=>?_);rw[if_neg ∅];exact wpS_pure (7,a0,d,C,6)
  ·rintro c u ⟨rfl,N,f,z,o⟩;exact(7,N,f,z,6)
  ·have:=(jb D.lay).1;rw[aaf]at this;lia
  ·rintro c u ⟨rfl,N,f,z,o⟩;refine wpS_pure (h u f.perm f.failed λi j a4 hj=>?_);have U:N.toList.length<=1:=by rw[aaf];exact o
   have V:=z.lay;have hd:=z.sd
   match hpl:N.toList,U with
   |[],_=>
    rw[hpl]at V;have:0=a₀.size:=V;lia
   |[y],_=>
    rw[hpl]at V hd;obtain⟨y1,y2,y3⟩:=V;have y3:y.1+y.2.1=a₀.size:=y3;exact hd y aal i j ⋯ a4 ⋯
end
section
variable{w:World}
theorem yq{κ:PyProof.Rows.KeyKind}(hO:κ.OneLt){l:Addr}{vs:List Value}{n:Nat}{Q:PySem.Fin->Shared->Prop}(k:s.heap.get? l=some (seqObj "list" vs.toArray n))(F:KeysOf κ (pairsOf vs))(D:∀u v r,vs=u::v::r->keyKind' (u::v::r).toArray=pure oneType')(hz:vs.length<=100000)
  (h:∀z:SortSt,(arrOf z).Perm (pairsOf vs)->SortedToK κ (arrOf z) (pairsOf vs).size->Q (.done (.ret .none)) {s with heap:=sortedHeap s.heap l vs ((arrOf z).map (·.2))}):wpAny (model prog w) A (Builtin.«list.sort» ([.ref l],[])) Q E s:=by
 have m:=Heap.lt_size k;have c:vs.length<=sizeLine:=by rw[sizeLine_eq];lia
 obtain⟨e,t⟩:∃e,(s.heap.update l (Obj.mapSeq λ_=>#[])).get? l=some (seqObj "list" #[] e):=(_,get?_update_seq k (λ_=>#[]))
 have a:(((s.heap.update l (Obj.mapSeq λ_=>#[])).push (seqObj "tuple" vs.toArray 0)).push (seqObj "list" #[] 0)).get? l=some (seqObj "list" #[] e):=by
  have o:l<(s.heap.update l (Obj.mapSeq λ_=>#[])).objs.size:=by rw[Heap.size_update];exact m
  rw[Heap.get?_push_ne _ _ _ (by rw[size_push'];exact aaA (ahu o)),Heap.get?_push_ne _ _ _ (aaA o)];exact t
 rw[list_sort_plain];refine wpAny_bind (listItems_at k rfl (wpAny_bind (listUpdate_at k rfl ?_ (by show vs.toArray.size<=sizeLine;rw[af6];exact c) (by show 0<=_;exact af3 _))));refine wpAny_bind (seqEpoch_at t rfl (wpAny_bind (wpAny_newTuple ?_ (by simpa using c))));refine wpAny_bind (wpAny_newList (wpAny_holding ?_))
 show wpAny (model prog w) A _ Q E {s with heap:=((s.heap.update l (Obj.mapSeq λ_=>#[])).push (seqObj "tuple" vs.toArray 0)).push (seqObj "list" #[] 0)}
 dsimp only;have x:vs.toArray.size=vs.length:=by simp
 have d:∀z:SortSt,(arrOf z).Perm (pairsOf vs)->((arrOf z).map (·.2)).size<=sizeLine+1:=λz g=>by
  rw[Array.size_map,g.size_eq,pairsOf_size];lia
 by_cases b:vs.toArray.size<2
 ·rw[if_pos b,if_pos b];refine wpAny_bind (wpAny_pure ?_);rw[StateT.run_pure];refine wpAny_bind (wpAny_pure (wpAny_bind (seqEpoch_at a rfl (wpAny_bind (listUpdate_at a rfl ?_ (af3 _) (d (SortSt.mk' general' (vs.toArray.zip vs.toArray) #[] 7 none) (aiR _)))))));simp only[bne_self_eq_false,agP,if_false];refine wpAny_pure (h (SortSt.mk' general' (vs.toArray.zip vs.toArray) #[] 7 none) (aiR _) λi j G B=>?_);rw[pairsOf_size]at B;have:i=j:=by lia
  subst this;exact KeyOrd.kle_refl _
 ·rw[if_neg b,if_neg b];obtain⟨u,v,r,rfl⟩:∃u v r,vs=u::v::r:=by
   match vs,x,b with
   |[],_,z=>exact absurd ∅ z
   |[_],_,z=>exact absurd (by show 1<2;decide) z
   |u::v::r,_,_=>exact(u,v,r,7)
  rw[D _ _ _ rfl];refine wpAny_bind (wpAny_pure (wpAny_bind (wpAny_mono (Bp (κ:=κ) hO (a₀:=pairsOf (u::v::r)) (st:=SortSt.mk' oneType' ((u::v::r).toArray.zip (u::v::r).toArray) #[] 7 none)
   (Q:=λ_ z=>(arrOf z).Perm (pairsOf (u::v::r))/\failedOf z=none/\SortedToK κ (arrOf z) (pairsOf (u::v::r)).size) F (aiR _,7,7,7) (by rw[pairsOf_size,aao,aao];lia) λz p f q=>(p,f,q)) ?_ λ_ _ q=>q)))
  rintro⟨⟨⟩,z⟩ H ⟨rfl,g,C,y⟩;dsimp only;refine wpAny_bind (seqEpoch_at a rfl (wpAny_bind (listUpdate_at a rfl ?_ (af3 _) (d z g))));rw[C];simp only[bne_self_eq_false,agP,if_false];exact wpAny_pure (h z g y)
end
@[reducible] def Aw:PyProof.Rows.KeyKind where
 α:=Int
 blt a b:=decide (a<b)
 irrefl a:=decide_eq_false (Int.lt_irrefl a)
 trans a b c h1 h2:=decide_eq_true (Int.lt_trans (of_decide_eq_true h1) (of_decide_eq_true h2))
 negTrans a b c h:=by
  have h:=of_decide_eq_true h;by_cases q:a<b
  ·exact .inl (decide_eq_true q)
  ·exact .inr (decide_eq_true ⋯)
 total a b h1 h2:=by
  have h1:=of_decide_eq_false h1;have h2:=of_decide_eq_false h2;lia
 keyOf v:=match v with | .int n _=>some n|_=>none
 dflt:=0
theorem KH:Aw.OneLt:=by
 intro e w A E s x y a b Q d c h;cases x<;>simp only[Aw,reduceCtorEq,aje]at d;cases y<;>simp only[Aw,reduceCtorEq,aje]at c;cases d;cases c;exact oneLt_int h
theorem Ou(xs:Array Keyed)(i:Nat):KK Aw xs i=PyProof.Rows.K xs i:=by
 unfold KK PyProof.Rows.K;cases xs[i]? with
 |none=>rfl
 |some p=>
  obtain⟨x,q⟩:=p;cases x<;>rfl
section
variable{w:World}
theorem K4{l:Addr}{vs:List Value}{ns:List Int}{n:Nat}{Q:PySem.Fin->Shared->Prop}(k:s.heap.get? l=some (seqObj "list" vs.toArray n))(c:IntsAre vs ns)(hz:vs.length<=100000)
  (h:∀(out:Array Value) (a:List Int),IntsAre out.toList a->a.Perm ns->a.Pairwise (· <= ·)->Q (.done (.ret .none)) {s with heap:=sortedHeap s.heap l vs out}):wpAny (model prog w) A (Builtin.«list.sort» ([.ref l],[])) Q E s:=by
 refine yq KH k (λp b=>?_) (λu v r e=>?_) hz λz b g=>?_
 ·obtain⟨m,t,e⟩:=c.intKeys p b;exact(m,by rw[e])
 ·subst e;exact keyKind_ints c
 ·have d:SortedTo (arrOf z) (pairsOf vs).size:=λi j f o=>by
   have q:=g i j f o;rw[Ou,Ou]at q;have q:=of_decide_eq_false q;lia
  obtain⟨a,B,y,x⟩:=sorted_out c b d;exact h _ a B y x
end
open PySem.Spec
section
variable{w:World}
theorem DG{Q:Value->Shared->Prop}(C:A.handled=none)(J:jJ (dq w) (intKind prog w) s.heap S c)
  (h:∀(D:Addr) (h':Heap) d tk (vs:List Value) (ns:List Int) (e:Nat),s.heap.objs.size<=D->(∀b o,s.heap.get? b=some o->h'.get? b=some o)->h'.get? D=some (seqObj "list" vs.toArray e)->IntsAre vs ns->agH ns c->ns.Pairwise (· <= ·)->ns.length<=4096->Q (.ref D) {s with heap:=h',drawn:=d,toks:=tk}):
  wpAny (model prog w) A (call (.builtin "sorted") [.ref S]) Q E s:=by
 obtain⟨o,R,T,t,P,B,q,hd,H,F,I,K⟩:=J;have N:scanBound=4096:=rfl;refine Calls.call_function_entry kind_sorted plain_sorted entry_sorted (args_sorted1 _) ?_;unfold Builtin.«sorted»
 refine wpAny_bind (m:=checkCount "sorted" 1 1 _) (wpAny_pure ?_)
 refine wpAny_bind (uh (by simp[C]) (B,hd,F) q.1 H I λf k d tk O z u n r=>?_);obtain⟨ns,v,p⟩:=Jz K z u;have j:f.toList.length<=4096:=by rw[aaf,u.1];lia
 refine wpAny_bind (wpAny_newList ?_ (by rw[sizeLine_eq];lia))
 have a:(k.push (seqObj "list" f.toList.toArray 0)).get? k.objs.size=some (seqObj "list" f.toList.toArray 0):=Heap.get?_push_size _ rfl
 refine wpAny_bind (wpAny_holding (wpAny_call_entry slot_list_sort (_,a,7) entry_list_sort (K4 a v ⋯ λg l M y L=>(9,2)) (args_list_sort _)));refine wpAny_pure (9,2);obtain⟨e,G⟩:=sortedHeap_at (out:=g) a;refine h k.objs.size _ d _ g.toList l e (ag0 n) (λb o x=>?_) (by simpa using G) M (y.trans p) L (by rw[y.length_eq,<-v.length];exact j);have i:=Heap.lt_size (r _ _ x);rw[sortedHeap_old (aaA i) (by rw[Heap.size_push];exact ahu i)];exact Heap.get?_push_of_some _ (r _ _ x)
end
end Tw
namespace L2
open PySem.Spec PyProof.Rows Tw
theorem Ao(t:X.calm=true):fZ X (.builtin "sorted") (λxs H Q=>∃(p:Addr) (a:List Int),xs=[.ref p]/\H p=some (Uu X.prog X.w p a) /\
  ∀l ms,H l=none->agH ms a->ms.Pairwise (· <= ·)->Q (.ref l) (upd H l (.lst !!ms))):=by
 intro A s z H xs B Q I r h;obtain⟨p,a,rfl,m,q⟩:=h;obtain⟨u,rfl,i⟩:=vals1 r;cases i;have v:jJ (dq X.w) (intKind X.prog X.w) s.heap p a:=(I.hok p _ m).1;refine DG (I.ok.hd t) v λD y d g f j e c n o x b k C=>?_;exact(.ref D,_,(I.laid (t':=g) n c (show bN X.prog X.w _ y D (.lst !!j)from (by rw[aaa,sizeLine_eq];lia,f,e,sJ x,o))).drawnTo d,7,q _ _ (I.hok.fresh c) b k)
section
variable{t u:TE}
def QM(t u:TE):TE:=λ a H Q=>t a H Q\/u a H Q
theorem iI(h:PE X e t)(h':PE X e u):PE X e (QM t u):=λ b s a H Q I q=>q.elim (h b s a H Q I) (h' b s a H Q I)
end
open SeqAt
theorem tY:Slot "function" "__eq__" "object.__eq__":=by
 refine Slot.of (owner := "object") (n := "__eq__") ?_ (by decide +kernel) (by decide +kernel) (by decide +kernel) (ag3 (by decide +kernel)) ?_
 ·rw[typeLookup_type,builtinLookup_eq_fast]
  kernel_rfl
 ·rw[isSubtype_type]
  kernel_rfl
theorem Ah:isSubtype (.type "bool") (.type "function")=pure false:=by
 rw[isSubtype_type]
 kernel_rfl
theorem zX(g:Addr)(b:Bool):Meets (Builtin.«object.__eq__» ([.ref g,.bool b],[])) (λ_ R s=>R (.ok (.ret .notImplemented)) s):=
 .of_wp λa w A R s h=>by
  obtain⟨f,i,d,c,e⟩:=s
  wp_walk
  exact(9,h)
theorem Ae(b:Bool)(g:Addr)(o:Obj)(f:FuncData)(e:o.data=.func f):Meets (Builtin.«int.__eq__» ([.bool b,.ref g],[])) (λ_ R s=>s.heap.get? g=some o/\R (.ok (.ret .notImplemented)) s):=
 .of_wp λc w A R s h=>by
  obtain⟨i,p,q,k⟩:=o;cases e;obtain⟨m,n,d,j,l⟩:=s;obtain⟨a,h⟩:=h
  wp_walk using wpAny_loadPart' a,wpAny_load a
  exact(9,h)
theorem Ul{g:Addr}{o:Obj}{f:FuncData}(b:Bool)(c:s.heap.get? g=some o)(d:o.cls=.type "function")(hd:o.data=.func f)(i:A.units<cLine):RcAt A s (.ref g) (.bool b) false:=λe w E Q h=>
 rc_eq_decline_or (k:=false) (_,c,d) rfl ∅ Ah tY F.slot_bool_eq_refl
  (λ_ a=>call_meets tY (_,c,d) F.cmpEntry_eq (F.cmpArgs_eq _ _) (zX g b) a)
  (λ_ a=>call_meets F.slot_bool_eq_refl rfl F.entry_int_eq (F.args_int_eq_2 _ _) (Ae b g o f hd) (c,a))
  (λ_ a=>wpAny_of_eq (rfl:isSame (.ref g) (.bool b)=pure false) a) (.inr i) h
theorem Sq{g:Addr}{o:Obj}{f:FuncData}(b:Bool)(d:s.heap.get? g=some o)(e:o.cls=.type "function")(hd:o.data=.func f)(c:A.units<cLine):EqAt A s (.ref g) (.bool b) false:=λa w E Q h=>by
 unfold eqBool;refine wpAny_holding (wpAny_ite_split (λz=>absurd (eq_of_beq z) nofun) λ_=>?_);exact wpAny_bind (Ul b d e hd c a w E _ (wpAny_truthy_bool h))
inductive Wg(K:PySem.W.Frag)(x:V)(y:V)(H:Hp)(Q:VK):Prop
 | mk (a b t g:Addr) (ys:List V) (c:xF) (cs:List Addr) (Xi:List V) (_:x=.ref a) (_:y=.ref b) (_:Wq K H a [.ref t,.ref g]) (_:Wq K H b [.bl true,.bl true]) (_:Wq K H t ys) (_:qt H g c cs Xi) (_:Q (.bl false) H)
theorem S5(hu:X.A.units+64<cLine):WN X (compareOp .Eq) (Wg X.K):=by
 intro S s R H x y u v Q I z w h;obtain⟨a,b,t,g,U,c,cs,Xi,rfl,rfl,N,M,ht,J,q⟩:=h;cases (show u=Value.ref a from z);cases (show v=Value.ref b from w);obtain⟨Y,C,F,_⟩:=I.tuple N;obtain⟨V,B,E,_⟩:=I.tuple M;obtain⟨T,_,D,_⟩:=I.tuple ht;obtain⟨cd,O,pm,P,oc,W,Z,f,_⟩:=J.ex;have L:=JP I.hok f;have d:X.A.in1.units<cLine:=by
  have:=X.A.in1_units;lia
 obtain⟨r,p,rfl,m,l⟩:=vals2 C;obtain⟨o,n,rfl,k,i⟩:=vals2 B;cases (show r=Value.ref t from m);cases (show p=Value.ref g from l);cases (show o=Value.bool true from k);cases (show n=Value.bool true from i);refine eq_tupleAt (e:=λ_=>false) F E ⋯ (λj f h2=>?_) (.bl false,H,I,7,q);have G:j=0\/j=1:=by
  have:j<2:=f;lia
 rcases G with rfl|rfl
 ·exact EqAt.tuple_bool true D d
 ·exact Sq true L rfl rfl d
def UG(i:Nat)(f:Addr)(c:Sp)(E:XK)(t:TA):TE:=λ a H Q=>a[i]?=some (!!!f)/\t a H λb d=>c b d Q E
theorem gU{X:Cx}{j k i:Nat}{f:Addr}{ps:List Str}{E:XK}{x:Str}{p pos:Pos}{e:Expr}{es:List Expr}{t:TA}(F:bc X.prog X.w X.K X.mg X.base CX j f fd ps sp)(G:j<=k)(C:ik k X.A)(o:ig CX X E)(J:X.N[i]?=some x)(D:PySem.W.keepIn X.K (.ref f)=true)(M:Binds X.K fd ps [])(O:PA X (e::es) t)
  (y:Vis X.env.scope x:=by first|exact ag3 rfl|exact ah1 (ag3 rfl) | exact ah1 (ah1 rfl))(hd:(x==("__debug__" : Str))=false:=by decide)(b:(x==("__classdict__" : Str))=false:=by decide)
  (L:starEach (e::es) X.env=(pq false (eval e X.env))::starEach es X.env:=by rfl)(a:(backTo pos (starEach es X.env)).any (·.1)=false:=by rfl):PE X (.Call (.Name x p) (e::es) [] pos) (UG i f sp E t):=by
 intro d s c H Q I h;obtain⟨B,h⟩:=h;refine wpAny_Call_Name_kw (Wo (Hh J y hd b d s c H (λv R=>v=.ref f/\R=H) I (_,B,7,7)) λu m z=>?_);obtain⟨v,P,l,n,rfl,rfl⟩:=z;obtain rfl:u=Value.ref f:=n;refine PySem.W.callWith_K (h₀:=X.base) l.ok.mod.Y5 D (Wo (O pos d m c P _ l h) λT U ⟨S,V,g,r,q⟩=>(g.Xc,2)) L a;exact Nx (F.mono G) C M .nil o g r (by rw[agr];exact q)
inductive TrC(h:Heap)(base:Heap)(e:Addr)(cls:Value)(a0:Value)(cx:Value)(fl:Value):Prop
 | mk (o vs T p ts:_) (_:h.get? e=some o) (_:o.cls=cls) (_:o.data=.fields vs) (_:vs[0]?=some a0) (_:vs[2]?=some cx) (_:vs[1]?=!!!T) (_:base.get? T=none) (_:T≠e) (_:h.get? T=some p) (_:p.data=.fields ts) (_:ts[3]?=some fl)
structure iB(base:Heap)(l:List Env)(e:Addr)(cls a0 cx fl:Value)(h:Heap):Prop where
 stay:base.StaysIn h
 new:base.get? e=none
 fun_:h.FunFrames base l
 tr:TrC h base e cls a0 cx fl
abbrev Fw(base:Heap)(l:List Env)(e:Addr)(a c b:Value)(h:Heap):Prop:=iB base l e a c .none b h
inductive Ov(e:Addr)(h:Heap):Prop
 | mk (o vs:_) (_:h.get? e=some o) (_:o.data=.fields vs) (_:vs[2]?=some Value.none)
section
variable{l:List Env}{e L:Addr}{cls a0 cx fl:Value}
theorem TrC.w(x:TrC h base e cls a0 cx fl):h.TracedAtW base e cls a0 fl:=by
 obtain⟨o,a,T,p,b,q,n,m,k,r,j,i,g,f,d,c⟩:=x;exact(o,a,T,p,b,q,(n,k),m,j,i,g,f,d,c)
theorem iB.w(x:iB base l e cls a0 cx .none h):Heap.FlyingW base l e cls a0 h:=(x.stay,x.new,x.fun_,x.tr.w)
theorem iB.tail{env:Env}(x:iB base (env::l) e cls a0 cx fl h):iB base l e cls a0 cx fl h:=(x.stay,x.new,x.fun_.2.2,x.tr)
end
section
variable{M:Model}{A:Around}{s:Shared}{l:List Env}{env:Env}{e L:Addr}{cls a0 cx fl:Value}{Q:Unit->Shared->Prop}
theorem Ac{T:Addr}{p:Obj}(c:h'.get? T=some p)(hd:p.data=.fields y){b:Addr}{o:Obj}(a:h'.get? b=some o)(n:∀vs,o.data ≠ .fields vs):T≠b:=by
 rintro rfl;rw[c]at a;cases a;exact n _ hd
theorem Ff(y:iB base l e cls a0 cx fl s.heap):
  ∃o vs T p f,s.heap.get? e=some o/\o.data=.fields vs/\vs[1]?=some (.ref T)/\s.heap.get? T=some p/\p.data=.fields f/\f[3]?=some fl /\
   ∀(x:Value) (Q:Unit->Shared->Prop),(∀h',iB base l e cls a0 cx x h'->s.heap.UpToSlots h'->Q () {s with heap:=h'})->wpAny M A (setField (.ref T) 3 x) Q E s:=by
 obtain⟨u,v,B,o,vs,T,p,f,t,F,r,D,C,q,m,j,g,d,i⟩:=y;have h:3<f.size:=(ahl.mp i).1;have c:∀x b,T≠b->(s.heap.update T (Obj.mapFields (·.setIfInBounds 3 x))).get? b=s.heap.get? b:=λx b a=>Heap.get?_update_other _ _ a;refine(o,vs,T,p,f,t,r,q,g,d,i,λx Q k=>wpAny_setField g d h (k _ (λb w a=>?_,v,B.of_keeps λb w a n=>(w,2,7),2) λb w a n=>(w.slots,2)))
 ·rw[c x b λz=>by rw[<-z,m]at a;cases a];exact u b w a
 ·rw[c x b (Ac g d a n)];exact a
 ·exists o,vs,T,1,2,F,r,D,C,q,m,j,Heap.get?_update_self _ g (Obj.isFreed_of_fields (Obj.data_mapFields d _)),Obj.data_mapFields d _
  ·rw[c x e j];exact t
  ·simp[h]
 ·rw[c x b (Ac g d a n)];exact a
theorem jl{f:Option Addr}(y:iB base l e cls a0 cx fl s.heap)(k:∀h',iB base l e cls a0 cx (f.elim .none λf=>rawInt f) h'->s.heap.UpToSlots h'->Q () {s with heap:=h'}):wpAny M A (setFlight (.ref e) f) Q E s:=by
 obtain⟨o,d,T,p,h,c,b,a,m,j,i,g⟩:=Ff (M:=M) (A:=A) (E:=E) y;unfold setFlight;refine wpAny_bind (wpAny_field c b a ?_);have:(Value.ref T != Value.none)=true:=by simp
 rw[if_pos this];exact g _ _ k
theorem rF{o:Obj}{vs:Array Value}{b:Bool}(P:A.frames=some (env::outer))(R:env.frame=some L)(st:base.StaysIn s.heap)(D:base.get? e=none)(j:s.heap.FunFrames base (env::outer))
  (m:s.heap.get? e=some o)(f:o.data=.fields vs)(S:vs[0]?=some a0)(K:vs[2]?=some cx)
  (k:∀h',iB base (env::outer) e o.cls a0 cx (rawInt L) h'->s.heap.UpToSlots h'->Q () {s with heap:=h'}):
  wpAny M A (do let x <-frameOf env;let y <-entryPlaceOf L b;let z <-EntryCells.newEntry cd x .none (rawInt L) .none y;setField (.ref e) 1 z) Q E s:=by
 have B:2<vs.size:=(ahl.mp K).1;have G:1<vs.size:=aiM ∅ B;have v:e∉(env::outer).filterMap (·.frame):=λz=>by
  obtain⟨_,q,H,t⟩:=j.mem z;rw[m]at H;cases H;exact t _ f
 refine wpAny_bind (wpAny_frameOf_fun P j R λd h=>?_);refine wpAny_bind (wpAny_entryPlaceOf λi N=>?_);unfold EntryCells.newEntry newFields;refine wpAny_bind (wpAny_newObj_type ?_ (N.sizeOk5 ..));have J:d.get? e=some o:=(h.2.1 e v).trans m;have g:base.StaysIn d:=λa w c=>by
  rw[h.2.1 a λz=>by rw[(j.mem z).1]at c;cases c];exact st a w c
 generalize O:({cls:=.type "traceback",dict:=none,data:=.fields ([cd,.ref L,.none,rawInt L,.none]++(if i.isEmpty then aap 6 Value.none else i)).toArray}:Obj)=p
 have C:p.data=.fields ([cd,.ref L,.none,rawInt L,.none]++(if i.isEmpty then aap 6 Value.none else i)).toArray:=by rw[<-O]
 have t:p.isFreed=false:=Obj.isFreed_of_fields C;have I:(d.push p).get? e=some o:=Heap.get?_push_of_some _ J;have F:d.objs.size≠e:=ait (Heap.lt_size J);refine wpAny_setField I f G (k _ (λa w c=>?_,D,j.of_keeps λa w c n=>?_,2) λa w c n=>?_)
 ·rw[Heap.get?_update_other _ _ λz=>by rw[<-z,D]at c;cases c];exact Heap.get?_push_of_some _ (g a w c)
 ·obtain⟨r,u⟩:=h.2.2 a w c;refine({w with slots:=r},2,7);rw[Heap.get?_update_other _ _ (Ac m f c n)];exact Heap.get?_push_of_some _ u
 ·exists 1,d.objs.size,p,_,Heap.get?_update_self _ I (Obj.isFreed_of_fields (Obj.data_mapFields f _)),Obj.cls_mapFields ..,Obj.data_mapFields f _,2,2,2,g.fresh,F,2,C
  ·rw[ahw ∅];exact S
  ·rw[ahw ∅];exact K
  ·simp[G]
  ·rw[Heap.get?_update_other _ _ (agA F)];exact Heap.get?_push_size d t
  ·simp
 ·obtain⟨r,u⟩:=h.2.2 a w c;exists r;rw[Heap.get?_update_other _ _ (Ac m f c n)];exact Heap.get?_push_of_some _ u
theorem zp{o:Obj}{vs:Array Value}(g:A.frames=some (env::outer))(a:env.frame=some L)(st:base.StaysIn s.heap)(d:base.get? e=none)(f:s.heap.FunFrames base (env::outer))
  (c:s.heap.get? e=some o)(b:o.data=.fields vs)(j:vs[0]?=some a0)(h:vs[1]?=some Value.none)(i:vs[2]?=some cx)
  (k:∀h',iB base (env::outer) e o.cls a0 cx (rawInt L) h'->s.heap.UpToSlots h'->Q () {s with heap:=h'}):wpAny M A (noteFrame (.ref e) env) Q E s:=by
 unfold noteFrame;simp only[a];refine wpAny_bind (wpAny_field c b h ?_);rw[if_neg ∅];exact rF g a st d f c b j i k
theorem u5(x:A.frames=some (env::outer))(c:env.frame=some L)(y:iB base (env::outer) e cls a0 cx .none s.heap)
  (k:∀h',iB base (env::outer) e cls a0 cx (rawInt L) h'->s.heap.UpToSlots h'->Q () {s with heap:=h'}):wpAny M A (noteFrame (.ref e) env) Q E s:=by
 obtain⟨o,h,T,p,m,b,a,d,D,C,B,g⟩:=Ff (M:=M) (A:=A) (E:=E) y;unfold noteFrame;simp only[c];refine wpAny_bind (wpAny_field b a d ?_);have u:(Value.ref T != Value.none)=true:=by simp
 rw[if_pos u];refine wpAny_bind (wpAny_field D C B ?_);have t:¬((Value.none==rawInt L)=true):=by simp[rawInt]
 rw[if_neg t];refine wpAny_bind (g _ _ λh' f i=>?_);obtain⟨n,q,w,o,h,H,p,m,b,rfl,a,G,F,d,r⟩:=f;exact rF (s:={s with heap:=h'}) x c n q w b a G F λv z j=>k v z (i.trans j)
theorem G4(i:A.frames=some (env::outer))(j:env.frame=some L)(y:iB base (env::outer) e cls a0 cx .none s.heap)
  (k:∀h',iB base outer e cls a0 cx .none h'->s.heap.UpToSlots h'->Q () {s with heap:=h'}):wpAny M A (leaving env (.ref e)) Q E s:=by
 unfold leaving;refine wpAny_bind (u5 i j y λh b d=>?_);exact jl (s:={s with heap:=h}) (f:=none) b λg a c=>k g a.tail (d.trans c)
theorem sr{o:Obj}{vs:Array Value}(m:A.frames=some (env::outer))(n:env.frame=some L)(st:base.StaysIn s.heap)(g:base.get? e=none)(j:s.heap.FunFrames base (env::outer))
  (u:s.heap.get? e=some o)(t:o.data=.fields vs)(r:vs[0]?=some a0)(p:vs[1]?=some Value.none)(q:vs[2]?=some cx)
  (k:∀h',iB base outer e o.cls a0 cx .none h'->s.heap.UpToSlots h'->Q () {s with heap:=h'}):wpAny M A (leaving env (.ref e)) Q E s:=by
 unfold leaving;refine wpAny_bind (zp m n st g j u t r p q λi b d=>?_);exact jl (s:={s with heap:=i}) (f:=none) b λh a c=>k h a.tail (d.trans c)
theorem Q5{A':Around}{Qx:Value->Unit->Shared->Prop}{Ex:Value->Value->Shared->Prop}{o:Obj}{vs:Array Value}(c:A'.frames=some (env::outer))(b:env.frame=some L)(st:base.StaysIn s.heap)(n:base.get? e=none)(u:s.heap.FunFrames base (env::outer))
  (G:s.heap.get? e=some o)(F:o.data=.fields vs)(D:vs[0]?=some a0)(B:vs[1]?=some Value.none)(C:vs[2]?=some cx)
  (k:∀h',iB base outer e o.cls a0 cx .none h'->s.heap.UpToSlots h'->Qx (.ref e) () {s with heap:=h'}):notedBy M A' env (cameBackBy M A env (λx s'=>wpAny M A (leaving env x) (Qx x) (Ex x) s')) (.ref e) s:=by
 refine zp c b st n u G F D B C λt d m=>?_;obtain⟨J,H,T,p,I,z,V,y,U,S,v,R,P,O,N,K⟩:=id d.tr;refine wpAny_bind (wpAny_field z y v ?_);have q:¬((Value.ref T==Value.none)=true):=by simp
 rw[if_neg q];refine jl (s:={s with heap:=t}) (f:=env.frame) d λg a j=>?_;rw[b]at a;show wpAny M A (leaving env (.ref e)) (Qx (.ref e)) _ {s with heap:=g};unfold leaving;refine wpAny_bind (wpAny_noteFrame_againW b a.tr.w ?_);exact jl (s:={s with heap:=g}) (f:=none) a λr h i=>k r h.tail ((m.trans j).trans i)
end
theorem yg:entryFor table "proto.unchain" = some Builtin.«proto.unchain»:=entryFor_of_tree (by kernel_rfl)
section
variable{w:World}{A:Around}{s:Shared}{env:Env}
theorem CV{e ea:Addr}{o:Obj}{vs:Array Value}{Q:G->Shared->Prop}(f:A.handled=!!!ea)(b:ea≠e)(n:Ov ea s.heap)(a:s.heap.get? e=some o)(g:o.data=.fields vs)(d:2<vs.size)
  (k:E (.ref e) {s with heap:=s.heap.update e (Obj.mapFields (·.setIfInBounds 2 (.ref ea)))}):wpAny (model prog w) A (raiseNew (.ref e):Sem G) Q E s:=by
 unfold raiseNew;refine wpAny_bind (wpAny_handled ?_);rw[f];have c:(Value.ref ea != Value.ref e)=true:=by simpa using b
 obtain⟨m,l,j,i,h⟩:=n;simp only[c,if_true];refine wpAny_bind (wpAny_holding (wpAny_runValue (codeAny_builtin yg ?_)));unfold Builtin.«proto.unchain»;refine wpAny_bind (wpAny_field j i h ?_);simp only[beq_self_eq_true,if_true];refine wpAny_bind (wpAny_pure (wpAny_pure ?_));refine wpAny_bind ?_;unfold updateField;refine wpAny_bind (wpAny_load a ?_);rw[g];simp only[d,if_true];exact wpAny_update a (wpAny_throw k)
theorem G7{x:Sem Value}{c:Sem Value}{ea C:Addr}{nm q:Str}{N:Addr}{bs bm:List Value}{hdct:Bool}{sn:List Str}{sub:List Value}{ab:Bool}{col:Option Bool}{dd:Option Addr}{k0 k1 k2 k3 k5:Option Value}{newId:String}{Q:Flow->Shared->Prop}
  (i:bm.contains (.type "BaseException")=true)(I:A.handled=!!!ea)(J:∀s,wpAny (model prog w) A c (λv s'=>v=.none/\s'=s) E s)
  (h:wpAny (model prog w) A x (λv f=>∃e t,v=.ref e/\f.heap.get? C=some (excClassObj nm q C N bs bm hdct sn sub ab col dd k0 k1 k2 k3 k5 newId)/\Ov ea f.heap/\ea≠e /\
   f.heap.get? e=some {cls:=.ref C,data:=.fields #[.ref t,.none,.none,.none,.bool false,.none]} /\
   ∀h',(∀b,b≠e->h'.get? b=f.heap.get? b)->h'.get? e=some {cls:=.ref C,data:=.fields #[.ref t,.none,.ref ea,.none,.bool true,.none]}->E (.ref e) {f with heap:=h'}) E s):
  wpAny (model prog w) A (raiseStmt env (some x) (some c)) Q E s:=by
 have m:(Value.ref C::bm).contains (.type "BaseException")=true:=by rw[List.contains_cons,i,Bool.or_true]
 unfold raiseStmt;refine wpAny_bind (wpAny_mono h (λv f L=>?_) λ_ _ z=>z);obtain⟨e,t,rfl,r,n,y,p,K⟩:=L;refine wpAny_bind (wpAny_holding (wpAny_mono (J f) (λv F z=>?_) λ_ _ z=>z));obtain⟨rfl,rfl⟩:=z;refine wpAny_bind (wpAny_pure ?_);obtain⟨u,g,d,D,G⟩:=F
 repeat (first|with_reducible refine wpAny_loadPart_at p ?_|with_reducible refine wpAny_loadPart_at r ?_ | (with_reducible refine wpAny_isSubtype_exc r ?_;rw[m]) | wp_step)
 have M:e≠C:=by
  rintro rfl;rw[show u.get? e=_ from r]at p;cases p
 generalize l:(u.update e (Obj.mapFields λx=>x.setIfInBounds 3 Value.none)).update e (Obj.mapFields λx=>x.setIfInBounds 4 (Value.bool true))=a;have j:∀b,b≠e->a.get? b=u.get? b:=λb i=>by rw[<-l,Heap.get?_update_other _ _ (agA i),Heap.get?_update_other _ _ (agA i)]
 have k:a.get? e=some {cls:=.ref C,data:=.fields #[.ref t,.none,.none,.none,.bool true,.none]}:=by
  have z:=Heap.get?_update_self (Obj.mapFields λx=>x.setIfInBounds 3 Value.none) p rfl;rw[<-l,Heap.get?_update_self _ z rfl];rfl
 have o:a.get? C=_:=(j C (agA M)).trans r
 repeat (first|with_reducible refine wpAny_loadPart_at k ?_|with_reducible refine wpAny_loadPart_at o ?_ | (with_reducible refine wpAny_isSubtype_exc o ?_;rw[m]) | wp_step)
 obtain⟨H,B,R,P,O⟩:=n;refine CV (s:=(a,g,d,D,G)) I y (H,B,(j ea y).trans R,P,O) k rfl (by show 2<6;decide) (K _ (λb i=>?_) ?_)
 ·rw[Heap.get?_update_other _ _ (agA i)];exact j b i
 ·rw[Heap.get?_update_self _ k rfl];rfl
theorem uC{mN:Str->Option Value}{x:Str}{cp pos:Pos}{j:Nat}{ea C:Addr}{nm q:Str}{N:Addr}{bs bm n M:List Value}{hdct:Bool}{sn:List Str}{sub:List Value}{ab:Bool}{col:Option Bool}{dd:Option Addr}{k0 k1 k2 k3 k5:Option Value}{B R newId G k I:String}{Q:Flow->Shared->Prop}
  (Fn:ExcBaseFacts R newId I M)(L:n.contains (.type R)=true)(F:ExcBaseFacts B G k n)(r:bm.contains (.type "BaseException")=true)(Z:A.handled=!!!ea)
  (W:(backTo apos (starEach es env)).any (·.1)=false)(K:mN "__init__" = none)
  (h:wpAny (model prog w) A (eval (.Name x p) env) (λf O=>f=.ref C/\wpAny (model prog w) A (evalArgs (.ref C) true (backTo apos (starEach es env)) [])
   (λa c=>a.kw=[]/\a.pos.length<=sizeLine/\c.heap.get? C=some (excClassObj nm q C N bs bm hdct sn sub ab col dd k0 k1 k2 k3 k5 newId)/\c.heap.Ns N mN/\OwnTail c.heap n bm/\Ov ea c.heap /\
    ∀i e t,(∀b o,c.heap.get? b=some o->i.get? b=some o)->c.heap.get? e=none->c.heap.get? t=none->i.get? t=some {cls:=.type "tuple",data:=.seq a.pos.toArray} ->
     i.get? e=some {cls:=.ref C,data:=.fields #[.ref t,.none,.ref ea,.none,.bool true,.none]}->E (.ref e) {c with heap:=i}) E O) E s):
  wpAny (model prog w) A (exec (.Raise (some (.Call (.Name x p) es [] apos)) (some (.Constant .none j cp)) pos) env) Q E s:=by
 rw[arm_exec_Raise];simp only[evalOpt,Option.map];refine wpAny_bind (wpAny_standAt (G7 (C:=C) (nm:=nm) (q:=q) (N:=N) (bs:=bs) (bm:=bm) (hdct:=hdct) (sn:=sn) (sub:=sub) (ab:=ab) (col:=col) (dd:=dd) (k0:=k0) (k1:=k1) (k2:=k2) (k3:=k3) (k5:=k5) (newId:=newId) r Z (λs=>?_) ?_))
 ·exact wpAny_bind (wpAny_Constant_none (wpAny_bind (wpAny_standAt (wpAny_pure (7,7)))))
 refine wpAny_bind (wpAny_mono (wpAny_Call_ofName (wpAny_mono h (λf O i=>?_) λ_ _ z=>z)) (λv s3 h3=>wpAny_bind (wpAny_standAt (wpAny_pure h3))) λ_ _ z=>z);obtain⟨rfl,i⟩:=i;unfold callWith;refine wpAny_bind (wpAny_holding (wpAny_mono i (λa c y=>wpAny_bind (wpAny_standAt ?_)) λ_ _ z=>z));obtain⟨ap,ak⟩:=a;obtain⟨z,H,u,Y,T,V,y⟩:=y;obtain rfl:ak=[]:=z;obtain⟨hq,g,d,tk,os⟩:=c;simp only[W];refine wpAny_bind (wpAny_keeperOf_exc u (wpAny_bind (wpAny_call_exc_subU (hrest:=H) Fn L F T u Y K λh' e l=>wpAny_bind (wpAny_holding (wpAny_point (wpAny_pure ?_))))));obtain⟨t,ht,J,m⟩:=l.there;obtain⟨U,S,D,a2,a3⟩:=V;refine(e,t,7,l.keeps _ _ u,(U,S,l.keeps _ _ D,a2,a3),λz=>(by rw[z,l.new]at D;cases D),ht,λi P e1=>y i e t (λb o r=>?_) l.new J ?_ e1)
 ·rw[P b λz=>by rw[z,l.new]at r;cases r];exact l.keeps b o r
 ·rw[P t λz=>by rw[z,ht]at m;cases m];exact m
end
section
variable{M:Model}{A:Around}{s:Shared}{env:Env}{e L:Addr}{cls:Value}{Q:Unit->Shared->Prop}
theorem M7(g:A.frames=some (env::outer))(i:env.frame=some L)(st:base.StaysIn h)(f:h.FunFrames base (env::outer))(m:Heap.MadeExcOf h s.heap e cls j)
  (k:∀h' t,Fw base outer e cls (.ref t) .none h'->s.heap.UpToSlots h'->Q () {s with heap:=h'}):wpAny M A (leaving env (.ref e)) Q E s:=by
 obtain⟨t,d,_,_⟩:=m.there;have c:base.get? e=none:=by
  cases q:base.get? e with
  |none=>rfl
  |some o=>
   have z:=st e o q;rw[m.new]at z;cases z
 exact sr g i (λb o a=>m.keeps b o (st b o a)) c (f.of_keeps λb o a _=>(o,m.keeps b o a,7)) d rfl rfl rfl rfl λh' y u=>k h' t y u
end
def WX(P:Program)(w:World):Xu:=λa H s E e b=>∃(d C t:Addr) (B:Heap) (c:Hp),e=.ref d/\b.os=s.os/\AllBare b.gens/\Un (frs a) [] H c s.heap b.heap/\WK P w c b.heap /\
  Fw B a d (.ref C) (.ref t) .none b.heap/\Cov B (frs a) H c s.heap/\E (.ref C) none c
theorem WX.weak{w:World}{s s':Shared}{E:XK}{e:Value}(h:WX prog w outer H s E e s'):Xv prog w outer H s E e s':=by
 obtain⟨a,C,t,B,l,k,j,i,g,f,d,c,b⟩:=h;exact(a,C,t,B,l,k,j,i,g,f,d.w,c,b)
section
variable{P:Program}{w:World}{A:Around}{E:XK}
abbrev XC(P:Program)(w:World)(K:PySem.W.Frag)(mg:Str->Option Value)(base:Heap)(N:List Str)(qual:Str)(scope:Scope)(f:Addr)(cd:Value)(A:Around)(outer:List Env)(s0:Shared)(H0:Hp)(E:XK):Cx:=
 jV (WX P w) P w K mg base N qual scope f cd A outer s0 H0 E
theorem Qh{σ:St}{s:Shared}{ea C:Addr}{vs:List Value}(I:Inv (XC P w K mg base N qual scope f cd A outer s0 H0 E) π σ H s)(m:Heap.MadeExcOf s.heap h' ea (.ref C) vs)(q:E (.ref C) none H):
  (XC P w K mg base N qual scope f cd A outer s0 H0 E).xe (.ref ea) {s with heap:=h'}:=by
 have J:s.heap.FunFrames base (envOfC qual scope s0.heap.objs.size f cd::outer):=I.stack;have D:∀j∈(envOfC qual scope s0.heap.objs.size f cd::outer),∀b,j.frame=some b->b∈frs (envOfC qual scope s0.heap.objs.size f cd::outer):=λj O b a=>ahL.mpr (j,O,a);have U:Un (frs outer) [] H0 H s0.heap s.heap:=I.base;have h:∀b u,H b=some u->b∉frs (envOfC qual scope s0.heap.objs.size f cd::outer):=λb u e z=>by
  have:=I.stkFree b z;rw[this]at e;cases e
 have g:∀b o,s.heap.get? b=some o->b∉frs (envOfC qual scope s0.heap.objs.size f cd::outer)->(PySem.W.hideAll s.heap (frs (envOfC qual scope s0.heap.objs.size f cd::outer))).get? b=some o:=λb o e n=>PySem.W.hideAll_get _ e n;show wpAny _ _ (leaving _ _) _ _ _;refine M7 (base:=PySem.W.hideAll s.heap (frs (envOfC qual scope s0.heap.objs.size f cd::outer))) I.ok.frames rfl (λb o e=>PySem.W.of_hideAll _ e) (PySem.W.funFrames_hide J D) m λQ t F L=>?_;have i:=F.stay;have G:∀b o,s.heap.get? b=some o->b∈frs outer -> ∃v,Q.get? b=some {o with slots:=v}:=λb o e a=>by
  obtain⟨_,R,p,M⟩:=J.mem (b:=b) (aai _ a);rw[e]at p;cases p;exact L b o (m.keeps _ _ e) M
 refine(ea,C,t,_,H,7,I.os,I.bare,(λb o e n a l=>?_,λb o e n a l=>?_,U.free,λb o e l=>?_,U.tups,U.frzs,U.tbls),λb u e=>?_,F,(λb o e a=>?_,λb u e=>?_),q)
 ·exact i b o (g b o (U.keep b o e n a l) (young e a))
 ·obtain⟨v,d⟩:=U.slot b o e n a l;obtain⟨B,y⟩:=G b _ d a;exact(B,y)
 ·obtain⟨k,d⟩:=U.there b o e l;by_cases a:b∈frs outer
  ·obtain⟨v,y⟩:=G b _ d a;exact(_,y)
  ·exact(k,i b k (g b k d (young e a)))
 ·refine(I.hok b u e).stay (λc o x d=>i c o (g c o d ?_)) (λ_ r=>r) λ_ _ r=>r;rcases x with rfl|x
  ·exact h _ _ e
  ·exact h _ _ x
 ·obtain⟨k,d⟩:=U.there b o e (by simp);refine(k,g b k d (young e a),λn=>?_);have:=U.keep b o e n a (by simp);rw[d]at this;exact aat this
 ·obtain⟨o,d⟩:=(I.hok b u e).ex;exact(o,g b o d (h b u e))
theorem dz:ig (WX P w) (XC P w K mg base N qual scope f cd A outer s0 H0 E) E:=by
 intro π σ H s e S I h;obtain⟨ea,C,t,B,H',rfl,V,x,m,L,F,j,q⟩:=h;have U:Un (frs outer) [] H0 H s0.heap s.heap:=I.base;show wpAny _ _ (leaving _ _) _ _ _;refine G4 (base:=B) I.ok.frames rfl F λh2 O R=>?_;have k:=O.stay;have Q:∀b o,S.heap.get? b=some o->b∈frs outer -> ∃y,h2.get? b=some {o with slots:=y}:=λb o e d=>by
  obtain⟨_,p,v,W⟩:=F.fun_.mem (b:=b) (aai _ d);rw[e]at v;cases v;exact R b o e W
 refine(ea,C,t,B,H',7,V.trans I.os,x,(λb o e n d g=>?_,λb o e n d g=>?_,λb o e n g=>?_,λb o e g=>?_,λb M e=>m.tups b M (U.tups b M e),λb o u e=>m.frzs b o u (U.frzs b o u e),λb T e=>?_),λb u e=>?_,O,(λb o e d=>?_,j.W6),q)
 ·obtain⟨p,a,z⟩:=j.old b o (U.keep b o e n d g) (young e d);rw[z (U.free b o e n g)]at a;exact k b o a
 ·obtain⟨y,i⟩:=U.slot b o e n d g;obtain⟨a0,a⟩:=m.slot b _ i (U.free b o e n g) (aai _ d) g;obtain⟨J,G⟩:=Q b _ a d;exact(J,G)
 ·obtain⟨l,i⟩:=U.there b o e g;exact m.free b l i (U.free b o e n g) g
 ·obtain⟨l,i⟩:=U.there b o e g;by_cases d:b∈frs outer
  ·obtain⟨o2,a⟩:=m.there b l i g;obtain⟨y,G⟩:=Q b _ a d;exact(_,G)
  ·obtain⟨p,a,_⟩:=j.old b l i (young e d);exact(p,k b p a)
 ·obtain⟨Z,i⟩:=U.tbls b T e;obtain⟨Y,a⟩:=m.tbls b _ i;exact(Z++Y,by rw[a,ahK])
 ·refine(L b u e).stay (λc o D i=>?_) (λ_ r=>r) λ_ _ r=>r;have ht:∃o,B.get? c=some o:=by
   rcases D with rfl|D
   ·exact j.W6 _ _ e
   ·exact j.W6 _ _ D
  obtain⟨l,a⟩:=ht;have:=F.stay c l a;rw[i]at this;cases this;exact k c o a
 ·obtain⟨l,i⟩:=U.there b o e (by simp);obtain⟨p,a,z⟩:=j.old b l i (young e d);refine(p,a,λn=>?_);have:=U.keep b o e n d (by simp);rw[i]at this;rw[z (U.free b o e n (by simp))];exact aat this
theorem fj:PassesOwn (model P w) (XC P w K mg base N qual scope f cd A outer s0 H0 E).A (XC P w K mg base N qual scope f cd A outer s0 H0 E).env (XC P w K mg base N qual scope f cd A outer s0 H0 E).xe:=PassesOwn.leaving
end
section
variable{P:Program}{w:World}
theorem Xx.Xg{x :Str}{st:Stmt}{f:Addr}{N ps:List Str}{k:Nat}(F:Xx K x qual st f fd)(S:aF N ps (δ st))(d:∀vs H Q E,sp vs H Q E->vs.length=ps.length)
  (c:∀(b:Value) (A:Around) (a:List Env) (s:Shared) (H:Hp) (vs:List V) (Q:VK) (E:XK),ik k (A.deeper (envOfC qual (δ st) s.heap.objs.size f b))->sp vs H Q E ->
   ∃t,Xd (XC P w K mg base N qual (δ st) f b A a s H E) (μ st) t/\t {nx:=λ_ H'=>Q .non H',rt:=Q} (start N vs) H):bc P w K mg base (WX P w) (k+1) f fd ps sp:=by
 obtain⟨o,n,kV,l,m,q,b,p,j,rfl,h,g⟩:=F.ex;exact LK h g S d λA a s H vs Q E i e=>c b A a s H vs Q E i e
end
section
variable{P:Program}{w:World}{A:Around}{E:XK}
theorem dg{x:Str}{C:Addr}{a:Expr}{pos:Pos}(e:Exc K mg x C)(R:Gl (XC P w K mg base N qual scope f cd A outer s0 H0 E) x)(S:PA (XC P w K mg base N qual scope f cd A outer s0 H0 E) [a] t)
  (i:(x==("__debug__" : Str))=false:=by decide)
  (k:starEach [a] (XC P w K mg base N qual scope f cd A outer s0 H0 E).env=[(pq false (eval a (XC P w K mg base N qual scope f cd A outer s0 H0 E).env))]:=by rfl):
  PS (XC P w K mg base N qual scope f cd A outer s0 H0 E) (.Raise (some (.Call (.Name x p) [a] [] apos)) none pos) (Pn C E t):=by
 intro o s n H D I h;obtain⟨Z,N',B,v,Y,b,r,d,ab,j,W,Q,O,M,L,J,G,V,U,g,T⟩:=uO I.mod.Y5 e.q;refine wpAny_Raise_call_subU (C:=C) (nm:=B) (q:=v) (N:=N') (bs:=Y) (bm:=Z) (hdct:=b) (sn:=r) (sub:=d) (ab:=ab) (col:=j) (dd:=W) (k0:=Q) (k1:=O) (k2:=M) (k3:=L) (k5:=J)
  PySem.F.excBase_ValueError PySem.F.excBase_ValueError.hasB PySem.F.excBase_ValueError (mN:=G) (T.hasType PySem.F.excBase_ValueError.hasBase) (I.ok.hd rfl) (by rw[k];rfl) g (j7 I R e.m (7,2) i)
 have l:=S apos o s n H _ I h;rw[k]at l ⊢;refine Calls.evalArgs_plain (Wo l λus s2 ⟨vs,H2,c,u,z,y⟩=>(7,2,c.bk _ _ V,U.keeps c.bk,T.keeps c.bk,λh' ea m=>Qh c m y));rw[<-u.length];exact z
end
open PySem.W
def PN(ea C:Addr):HO:=.ext λh=>∃o a,h.get? ea=some o/\o.cls=.ref C/\o.data=.fields a/\a[2]?=some Value.none
section
variable{X:Cx}{s:Shared}{ea:Addr}
theorem Io{C t:Addr}{H':Hp}{s':Shared}(I:Inv X π σ H s)(os:s'.os=s.os)(E:AllBare s'.gens)(j:Un (frs X.stack) [] H H' s.heap s'.heap)(N:WK X.prog X.w H' s'.heap)
  (F:Fw base X.stack ea (.ref C) (.ref t) .none s'.heap)(f:Cov base (frs X.stack) H H' s.heap)(x:Fw base X.stack ea (.ref C) (.ref t) .none h')(W:s'.heap.UpToSlots h'):
  H' ea=none/\Inv X π σ (upd H' ea (PN ea C)) {s' with heap:=h'}:=by
 have U:H' ea=none:=by
  cases q:H' ea with
  |none=>rfl
  |some u=>
   obtain⟨o,e⟩:=f.W6 ea u q;rw[F.new]at e;cases e
 obtain⟨R,Q,_,_,_,i,O,y,_,M,_⟩:=x.tr;have fresh:s.heap.get? ea=none:=by
  cases q:s.heap.get? ea with
  |none=>rfl
  |some o=>
   by_cases a:ea∈frs X.stack
   ·obtain⟨_,l,g,J⟩:=x.fun_.mem a;rw[i]at g;cases g;exact absurd y (J Q)
   ·obtain⟨l,e,_⟩:=f.old ea o q a;rw[F.new]at e;cases e
 have T:∀b o,s'.heap.get? b=some o->b∈frs X.stack -> ∃G,h'.get? b=some {o with slots:=G}:=λb o e a=>by
  obtain⟨_,l,g,J⟩:=F.fun_.mem a;rw[e]at g;cases g;exact W b o e J
 have v:∀b u,H' b=some u->b≠ea:=λb u e=>aH e U;refine(U,I.call' (ch:=[]) os (λb o e n a m=>?_,λb o e n a m=>?_,λb o e n m=>?_,λb o e m=>?_,λb P e=>?_,λb o u e=>?_,λb Y e=>?_) (λb u e=>?_) E λb z=>absurd z (by simp))
 ·obtain⟨l,d,z⟩:=f.old b o e a;rw[z n]at d;exact x.stay b o d
 ·obtain⟨G,h⟩:=j.slot b o e n a m;obtain⟨L,d⟩:=T b _ h a;exact(L,d)
 ·have:b≠ea:=λz=>by rw[z,fresh]at e;cases e
  rw[aJ this];exact j.free b o e n m
 ·by_cases a:b∈frs X.stack
  ·obtain⟨S,h⟩:=j.there b o e m;obtain⟨G,d⟩:=T b _ h a;exact(_,d)
  ·obtain⟨l,d,_⟩:=f.old b o e a;exact(l,x.stay b l d)
 ·have q:=j.tups b P e;rw[aJ (v b _ q)];exact q
 ·have q:=j.frzs b o u e;rw[aJ (v b _ q)];exact q
 ·obtain⟨D,q⟩:=j.tbls b Y e;exact(D,by rw[aJ (v b _ q)];exact q)
 ·by_cases a:b=ea
  ·subst a;rw[aa]at e;cases e;refine((R,Q,i,O,y,M),(R,i),λh1 h2 p k=>?_);obtain⟨o,V,h,d,e3,Z⟩:=p;exact(o,V,k o h,d,e3,Z)
  ·rw[aJ a]at e;refine(N b u e).stay (λc o K h=>?_) (λc r=>by rw[aJ (v c _ r)];exact r) λc P r=>by rw[aJ (v c _ r)];exact r
   have ht:∃o,base.get? c=some o:=by
    rcases K with rfl|K
    ·exact f.W6 _ _ e
    ·exact f.W6 _ _ K
   obtain⟨S,d⟩:=ht;have:=F.stay c S d;rw[h]at this;cases this;exact x.stay c o d
end
def Cx.YF(X:Cx)(a:List (Addr×Obj))(E:XK):Cx:={X with pn:=X.pn++a,xe:=λe c=>∃b H s,Inv X a b H s/\WX X.prog X.w X.stack H s E e c}
section
variable{X:Cx}{pins':List (Addr×Obj)}{E:XK}{s:Shared}
theorem Cx.Ok.YF(a:X.Ok):(X.YF π E).Ok:=
 (a.mod,a.kind,a.glob,a.blt,a.above,a.inj,a.has,a.cab,a.hd,a.frames,a.Xr,a.Zg,a.bs,a.XM,a.noex,a.exfs,a.funs,a.Yr)
theorem Cx.Ok.untrC(a:(X.YF π E).Ok):X.Ok:=
 (a.mod,a.kind,a.glob,a.blt,a.above,a.inj,a.has,a.cab,a.hd,a.frames,a.Xr,a.Zg,a.bs,a.XM,a.noex,a.exfs,a.funs,a.Yr)
theorem Inv.YF(I:Inv X π σ H s):Inv (X.YF π E) [] σ H s:=
 (I.ok.YF,I.os,I.bare,I.base,I.loc,I.cell,I.free,I.freeC,λp b=>I.pin p (by
  have a:p∈(X.pn++π)++[]:=b
  rwa [agr]at a),I.hok,I.len)
theorem Inv.untrC(I:Inv (X.YF π E) pins' σ H s):Inv X π σ H s:=
 (I.ok.untrC,I.os,I.bare,I.base,I.loc,I.cell,I.free,I.freeC,λp a=>I.pin p (agj _ a),I.hok,I.len)
theorem oV:ig (WX X.prog X.w) (X.YF π E) E:=λ_ σ H s _ _ I h=>(σ,H,s,I.untrC,h)
theorem SP.untrC{D:Ends}{f:Flow}{s':Shared}(h:SP (X.YF π E) [] D f s'):SP X π D f s':=by
 cases f with
 |next=>obtain⟨σ,H,I,q⟩:=h;exact(σ,H,I.untrC,q)
 |ret v=>obtain⟨x,σ,H,I,r,q⟩:=h;exact(x,σ,H,I.untrC,r,q)
 |brk=>obtain⟨σ,H,I,q⟩:=h;exact(σ,H,I.untrC,q)
 |cont=>obtain⟨σ,H,I,q⟩:=h;exact(σ,H,I.untrC,q)
end
def PHC(X:Cx)(i:List ExceptHandler)(h:TH):Prop:=∀(g:List (Addr×Obj)) (a C t:Addr) (B:Heap) (e:Hp) (b:Shared) (f:St) (D:Ends) (d:Heap),
 (∀c,Fw B X.stack a (.ref C) (.ref t) .none c->b.heap.UpToSlots c->Inv X g f (upd e a (PN a C)) {b with heap:=c}) ->
 Fw B X.stack a (.ref C) (.ref t) .none d->b.heap.UpToSlots d->e a=none->h C D f e ->
 wpAny (model X.prog X.w) X.A (handleBy (.ref a) X.env i) (SP X g D) X.xe {b with heap:=d}
theorem Qj{X:Cx}:PHC X [] Vr:=λ_ _ _ _ _ _ _ _ _ _ _ _ _ _ z=>z.elim
theorem Ry{X:Cx}{b:List Stmt}{K:ExceptHandler}{G:List ExceptHandler}{pos:Pos}{y:XK->TS}{x:TH}(d:X.stack=X.env::X.outer)(t:X.env.frame=some X.env.locals)
  (R:∀m E,Xd (X.YF m E) b (y E))(Q:PHC X (K::G) x):PS X (.Try b (K::G) [] [] pos) (R3 y x):=by
 intro m s O H D I h;refine wpAny_Try_except ?_;refine wpAny_mono (R m _ [] s O H D I.YF h) (λT o q=>?_) λe o q=>?_
 ·have n:=q.untrC;cases T with
  |next=>exact wpAny_execs_nil n
  |ret v=>exact n
  |brk=>exact n
  |cont=>exact n
 ·obtain⟨g,H1,s0,r,L,N,z,B,H',rfl,F,c,w,j,p,k,C,U,P⟩:=q;cases U;have u:X.A.frames=some (X.env::X.outer):=by rw[<-d];exact I.ok.frames
  refine u5 (base:=B) u t (by rw[<-d];exact p) λS l i=>jl (s:={o with heap:=S}) (f:=none) l λJ Y M=>?_;have a:Fw B X.stack L (.ref N) (.ref z) .none J:=by rw[d];exact Y
  obtain⟨Z,_⟩:=Io r F c w j p k a (i.trans M);exact Q m L N z B H' o g D J (λh6 W V=>(Io r F c w j p k W V).2) a (i.trans M) Z (P g (by rw[r.len,I.len]))
section
variable{P:Program}{w:World}{A:Around}{E:XK}
theorem Ra{σ:St}{s:Shared}{ea C:Addr}{t:Addr}{S R p Q:Value}{hd:Option Value}(I:Inv (X1 P w K mg base N qual scope f cd A outer s0 H0 E) π σ H s)(mk:∀b o,s.heap.get? b=some o->h'.get? b=some o)(Y:s.heap.get? ea=none)(Z:h'.get? ea=some {cls:=.ref C,data:=.fields #[.ref t,.none,S,R,p,Q]})(q:E (.ref C) none H):
  notedBy (model P w) ((X1 P w K mg base N qual scope f cd A outer s0 H0 E).A.mark hd) (X1 P w K mg base N qual scope f cd A outer s0 H0 E).env (cameBackBy (model P w) (X1 P w K mg base N qual scope f cd A outer s0 H0 E).A (X1 P w K mg base N qual scope f cd A outer s0 H0 E).env (X1 P w K mg base N qual scope f cd A outer s0 H0 E).xe) (.ref ea) {s with heap:=h'}:=by
 have L:s.heap.FunFrames base (envOfC qual scope s0.heap.objs.size f cd::outer):=I.stack;have D:∀env∈(envOfC qual scope s0.heap.objs.size f cd::outer),∀b,env.frame=some b->b∈frs (envOfC qual scope s0.heap.objs.size f cd::outer):=λenv he b a=>ahL.mpr (env,he,a);have U:Un (frs outer) [] H0 H s0.heap s.heap:=I.base;have h:∀b u,H b=some u->b∉frs (envOfC qual scope s0.heap.objs.size f cd::outer):=λb u e z=>by
  have:=I.stkFree b z;rw[this]at e;cases e
 have g:∀b o,s.heap.get? b=some o->b∉frs (envOfC qual scope s0.heap.objs.size f cd::outer)->(PySem.W.hideAll s.heap (frs (envOfC qual scope s0.heap.objs.size f cd::outer))).get? b=some o:=λb o e n=>PySem.W.hideAll_get _ e n;have G:(PySem.W.hideAll s.heap (frs (envOfC qual scope s0.heap.objs.size f cd::outer))).StaysIn s.heap:=λb o e=>PySem.W.of_hideAll _ e;have T:(PySem.W.hideAll s.heap (frs (envOfC qual scope s0.heap.objs.size f cd::outer))).get? ea=none:=by
  cases q:(PySem.W.hideAll s.heap (frs (envOfC qual scope s0.heap.objs.size f cd::outer))).get? ea with
  |none=>rfl
  |some o=>
   have z:=G ea o q;rw[Y]at z;cases z
 refine Q5 (M:=model P w) (A:=A.deeper (envOfC qual scope s0.heap.objs.size f cd)) (A':=(A.deeper (envOfC qual scope s0.heap.objs.size f cd)).mark hd) (Qx:=λe _ j=>Xv P w outer H0 s0 E e j) (Ex:=λ_ e' j=>Xv P w outer H0 s0 E e' j) (s:={s with heap:=h'}) (base:=PySem.W.hideAll s.heap (frs (envOfC qual scope s0.heap.objs.size f cd::outer))) I.ok.frames rfl (λb o e=>mk b o (G b o e)) T ((PySem.W.funFrames_hide L D).of_keeps λb o e _=>(o,mk b o e,7)) Z rfl rfl rfl rfl λh2 O p=>?_;have F:=O.w;have i:=F.1;have J:∀b o,s.heap.get? b=some o->b∈frs outer -> ∃v,h2.get? b=some {o with slots:=v}:=λb o e a=>by
  obtain⟨_,o',m,V⟩:=L.mem (b:=b) (aai _ a);rw[e]at m;cases m;exact p b o (mk _ _ e) V
 refine(ea,C,t,_,H,7,I.os,I.bare,(λb o e n a l=>?_,λb o e n a l=>?_,U.free,λb o e l=>?_,U.tups,U.frzs,U.tbls),λb u e=>?_,F,(λb o e a=>?_,λb u e=>?_),q)
 ·exact i b o (g b o (U.keep b o e n a l) (young e a))
 ·obtain⟨v,d⟩:=U.slot b o e n a l;obtain⟨B,y⟩:=J b _ d a;exact(B,y)
 ·obtain⟨k,d⟩:=U.there b o e l;by_cases a:b∈frs outer
  ·obtain⟨v,y⟩:=J b _ d a;exact(_,y)
  ·exact(k,i b k (g b k d (young e a)))
 ·refine(I.hok b u e).stay (λc o x d=>i c o (g c o d ?_)) (λ_ r=>r) λ_ _ r=>r;rcases x with rfl|x
  ·exact h _ _ e
  ·exact h _ _ x
 ·obtain⟨k,d⟩:=U.there b o e (by simp);refine(k,g b k d (young e a),λn=>?_);have:=U.keep b o e n a (by simp);rw[d]at this;exact aat this
 ·obtain⟨o,d⟩:=(I.hok b u e).ex;exact(o,g b o d (h b u e))
def hRz(K:PySem.W.Frag)(i j:Addr)(E:XK)(h:TA)(g:TH):TH:=λC D c H=>∃b,kitOne K (.ref C) (.ref i)=some b/\if b=true then (∀a,H a=none ->
 h c (upd H a (PN a C)) λe d=>e.length<=sizeLine/\d a=some (PN a C)/\E (.ref j) none d)else g C D c H
theorem K5{l x:Str}{H g cp pos:Pos}{j:Nat}{a:Expr}{rest:List ExceptHandler}{Y:TH}
  (ex:Exc K mg l C)(Q:wu K C)(J:Gl (X1 P w K mg base N qual scope f cd A outer s0 H0 E) l)(e2:Exc K mg x S)(hg:Gl (X1 P w K mg base N qual scope f cd A outer s0 H0 E) x)
  (ha:∀ea,PA ((X1 P w K mg base N qual scope f cd A outer s0 H0 E).suite ea) [a] t)(hr:PHC (X1 P w K mg base N qual scope f cd A outer s0 H0 E) rest Y)
  (M:(l==("__debug__" : Str))=false:=by decide)(O:(x==("__debug__" : Str))=false:=by decide)
  (u:starEach [a] (X1 P w K mg base N qual scope f cd A outer s0 H0 E).env=[(pq false (eval a (X1 P w K mg base N qual scope f cd A outer s0 H0 E).env))]:=by rfl):
  PHC (X1 P w K mg base N qual scope f cd A outer s0 H0 E) (.ExceptHandler (some (.Name l p)) none [.Raise (some (.Call (.Name x H) [a] [] g)) (some (.Constant .none j cp)) pos] apos::rest) (hRz K C S E t Y):=by
 intro W ea c d B H' Z V D v L n y XN q;obtain⟨b,i,q⟩:=q;have I5:=L v n y;refine wpAny_handleBy_cons (codeAny_handlers_test (j7 (X:=(X1 P w K mg base N qual scope f cd A outer s0 H0 E).suite ea) I5.suite J ex.m ?_ M)) (by intro z;cases z);refine O1 ex Q I5 n.w i ?_;cases b with
 |false=>
  rw[if_neg aaT]at q;exact hr W ea c d B H' Z V D v L n y XN q
 |true=>
  rw[if_pos rfl]at q;refine codeAny_handlers_suite ?_;refine jl (s:={Z with heap:=v}) (f:=none) n λh6 Xp Zn=>?_;have r:=L h6 Xp (y.trans Zn);refine wpAny_execs_cons ?_;obtain⟨bm,N',nm,qn,bs,k,sn,G,ab,R,dd,k0,k1,k2,k3,k5,mN,hC,hN,I,T⟩:=uO r.mod.Y5 e2.q;refine uC (C:=S) (nm:=nm) (q:=qn) (N:=N') (bs:=bs) (bm:=bm) (hdct:=k) (sn:=sn) (sub:=G) (ab:=ab) (col:=R) (dd:=dd) (k0:=k0) (k1:=k1) (k2:=k2) (k3:=k3) (k5:=k5) (mN:=mN) (ea:=ea)
   PySem.F.excBase_ValueError PySem.F.excBase_ValueError.hasB PySem.F.excBase_ValueError (T.hasType PySem.F.excBase_ValueError.hasBase) rfl (by rw[u];rfl) I (j7 (X:=(X1 P w K mg base N qual scope f cd A outer s0 H0 E).suite ea) r.suite hg e2.m (7,2) O)
  have h2:=ha ea g W _ V _ _ r.suite (q ea XN);rw[show starEach [a] ((X1 P w K mg base N qual scope f cd A outer s0 H0 E).suite ea).env=_ from u]at h2;rw[u];refine Calls.evalArgs_plain (wpAny_mono h2 (λus s2 z=>?_) λ_ _ z=>False.elim z);obtain⟨vs,H2,U,r2,q1,q3,q2⟩:=z;have h:=U.unsuite r.ok;obtain⟨⟨o,ws,w1,_,w3,w4⟩,_⟩:=h.hok ea _ q3;refine(7,2,h.bk _ _ hC,hN.keeps h.bk,T.keeps h.bk,(o,ws,w1,w3,w4),λh1 e d m1 m2 _ _ m5=>Ra h m1 m2 m5 q2);rw[<-r2.length];exact q1
end
section
variable{P:Program}{w:World}{A:Around}{E:XK}
theorem vd{X:Cx}:ig (WX P w) X (λ_ _ _=>False):=λ b a H s e c I h=>Vl b a H s e c I h.weak
end
section
variable{M:Model}{A:Around}{s:Shared}{env:Env}{e L:Addr}{cls a0 cx fl:Value}{Q:Unit->Shared->Prop}
theorem zK(x:A.frames=some (env::outer))(a:env.frame=some L)(y:iB base (env::outer) e cls a0 cx fl s.heap)
  (k:∀h',iB base (env::outer) e cls a0 cx (rawInt L) h'->s.heap.UpToSlots h'->Q () {s with heap:=h'}):wpAny M A (noteFrame (.ref e) env) Q E s:=by
 by_cases z:fl=rawInt L
 ·subst z;exact wpAny_noteFrame_againW a y.tr.w (k _ y (.refl _))
 obtain⟨o,h,T,p,l,c,b,d,F,D,C,g⟩:=Ff (M:=M) (A:=A) (E:=E) y;unfold noteFrame;simp only[a];refine wpAny_bind (wpAny_field c b d ?_);have t:(Value.ref T != Value.none)=true:=by simp
 rw[if_pos t];refine wpAny_bind (wpAny_field F D C ?_);have q:¬((fl==rawInt L)=true):=by simpa using z
 rw[if_neg q];refine wpAny_bind (g _ _ λh' f i=>?_);obtain⟨m,n,v,o,h,I,p,l,c,rfl,b,H,G,d,r⟩:=f;exact rF (s:={s with heap:=h'}) x a m n v c b H G λu B j=>k u B (i.trans j)
theorem vy(i:A.frames=some (env::outer))(j:env.frame=some L)(y:iB base (env::outer) e cls a0 cx fl s.heap)
  (k:∀h',iB base outer e cls a0 cx .none h'->s.heap.UpToSlots h'->Q () {s with heap:=h'}):wpAny M A (leaving env (.ref e)) Q E s:=by
 unfold leaving;refine wpAny_bind (zK i j y λh b d=>?_);exact jl (s:={s with heap:=h}) (f:=none) b λg a c=>k g a.tail (d.trans c)
theorem Mq{env':Env}{x:Value}(h:env'.frame=env.frame):noteFrame x env'=noteFrame x env:=by
 unfold noteFrame PySem.frameOf;rw[h]
end
section
variable{P:Program}{w:World}{A:Around}{E:XK}
theorem TX{σ:St}{H':Hp}{s s':Shared}{ea C t:Addr}{ch:List Addr}{fv:Value}(I:Inv (XC P w K mg base N qual scope f cd A outer s0 H0 E) π σ H s)(os:s'.os=s.os)(x:AllBare s'.gens)
  (m:Un (frs (XC P w K mg base N qual scope f cd A outer s0 H0 E).stack) ch H H' s.heap s'.heap)(L:WK P w H' s'.heap)(F:iB h' (XC P w K mg base N qual scope f cd A outer s0 H0 E).stack ea (.ref C) (.ref t) .none fv s'.heap)
  (l:∀b o,s.heap.get? b=some o->b∉frs (XC P w K mg base N qual scope f cd A outer s0 H0 E).stack->b∉ch -> ∃j,h'.get? b=some j/\(H b=none->j=o))(W6:∀b u,H' b=some u -> ∃o,h'.get? b=some o)
  (M:∀b∈ch,s0.heap.objs.size<=b)(q:E (.ref C) none H'):(XC P w K mg base N qual scope f cd A outer s0 H0 E).xe (.ref ea) s':=by
 have p:∀{b o},s0.heap.get? b=some o->b∉ch:=λ{b o} e z=>absurd (Heap.lt_size e) (Nat.not_lt_of_le (M b z));have U:Un (frs outer) [] H0 H s0.heap s.heap:=I.base;show wpAny _ _ (leaving _ _) _ _ _;refine vy (base:=h') I.ok.frames rfl F λZ Q S=>?_;have h:=Q.stay;have R:∀b o,s'.heap.get? b=some o->b∈frs outer -> ∃y,Z.get? b=some {o with slots:=y}:=λb o e d=>by
  obtain⟨_,j,v,V⟩:=F.fun_.mem (b:=b) (aai _ d);rw[e]at v;cases v;exact S b o e V
 refine(ea,C,t,h',H',7,os.trans I.os,x,(λb o e n d i=>?_,λb o e n d i=>?_,λb o e n i=>?_,λb o e i=>?_,λb O e=>m.tups b O (U.tups b O e),λb o u e=>m.frzs b o u (U.frzs b o u e),λb T e=>?_),λb u e=>?_,Q,(λb o e d=>?_,W6),q)
 ·obtain⟨j,a,z⟩:=l b o (U.keep b o e n d i) (young e d) (p e);rw[z (U.free b o e n i)]at a;exact h b o a
 ·obtain⟨y,g⟩:=U.slot b o e n d i;obtain⟨a0,a⟩:=m.slot b _ g (U.free b o e n i) (aai _ d) (p e);obtain⟨J,G⟩:=R b _ a d;exact(J,G)
 ·obtain⟨k,g⟩:=U.there b o e i;exact m.free b k g (U.free b o e n i) (p e)
 ·obtain⟨k,g⟩:=U.there b o e i;by_cases d:b∈frs outer
  ·obtain⟨o2,a⟩:=m.there b k g (p e);obtain⟨y,G⟩:=R b _ a d;exact(_,G)
  ·obtain⟨j,a,_⟩:=l b k g (young e d) (p e);exact(j,h b j a)
 ·obtain⟨Y,g⟩:=U.tbls b T e;obtain⟨W,a⟩:=m.tbls b _ g;exact(Y++W,by rw[a,ahK])
 ·refine(L b u e).stay (λc o D g=>?_) (λ_ r=>r) λ_ _ r=>r;have ht:∃o,h'.get? c=some o:=by
   rcases D with rfl|D
   ·exact W6 _ _ e
   ·exact W6 _ _ D
  obtain⟨k,a⟩:=ht;have:=F.stay c k a;rw[g]at this;cases this;exact h c o a
 ·obtain⟨k,g⟩:=U.there b o e (by simp);obtain⟨j,a,z⟩:=l b k g (young e d) (p e);refine(j,a,λn=>?_);have:=U.keep b o e n d (by simp);rw[g]at this;rw[z (U.free b o e n (by simp))];exact aat this
theorem NZ{h h' base a:Heap}(d:∀b,base.get? b=none->a.get? b=none):∀{l:List Env},h.FunFrames base l->(∀b∈l.filterMap (·.frame),h'.get? b=h.get? b)->h'.FunFrames a l
 |[],_,_=>trivial
 |n::r,x,k=>by
  obtain⟨j,⟨L,o,c,i,g,hd⟩,e⟩:=x;refine(j,(L,o,c,d L i,(k L (by simp[c])).trans g,hd),NZ d e λb m=>k b ?_);rw[ahf,c];exact aai _ m
inductive G9(X:Cx)(C:Addr)(s1:Shared)(H1:Hp)(fp:List Addr):Prop
 | mk (π σ:_) (_:Inv X π σ H1 s1) (_:(∀b∈fp,gf X π H1 b)) (_:s1.heap.objs.size<=C)
theorem yO{use:Option (Value->Sem Unit)}{Q:Value->Shared->Prop}{a5:Value}{C:Addr}{s:Shared}{v:Scope}{XE:Value->Shared->Prop}
  (en:G9 (XC P w K mg base N qual scope f cd A outer s0 H0 E) C s H i)
  (k:∀e s',notedBy (model P w) (XC P w K mg base N qual scope f cd A outer s0 H0 E).A (compEnvC v l C (XC P w K mg base N qual scope f cd A outer s0 H0 E).env)
   (λe s'=>compPost (model P w) (XC P w K mg base N qual scope f cd A outer s0 H0 E).A (XC P w K mg base N qual scope f cd A outer s0 H0 E).xe use Q a5 C (.error e) s') e s'->XE e s'):
  ig (WX P w) ((bh (XC P w K mg base N qual scope f cd A outer s0 H0 E) ps v l C s H i).wish XE) E:=by
 intro a7 a1 H' s' e G J h;refine k _ _ ?_;obtain⟨π,σ,I,hf,gC⟩:=en;obtain⟨ea,Ce,t,B,Y9,rfl,os,a0,y,a2,fl,O,q⟩:=h;have J0:Inv (bh (XC P w K mg base N qual scope f cd A outer s0 H0 E) ps v l C s H i) [] a1 H' s':=J.unwish.pins_of λp hp=>absurd (show p∈([]:List (Addr×Obj))from hp) (by simp);have I':=I.comped hf J0;have HC:H' C=none:=J0.free;obtain⟨m,hn,_⟩:=id J0.loc;obtain⟨D,es,ep,a3,W,rC⟩:=hn;have x:s'.heap.get? C=some D:=a3;have nC:∀b∈frs (XC P w K mg base N qual scope f cd A outer s0 H0 E).stack,b≠C:=λb g z=>by
  obtain⟨_,o,ho,_⟩:=I.stack.mem g;have:=Heap.lt_size ho;rw[z]at this;exact absurd (aas this gC) (agB _)
 have hB:B.get? C=some D:=by
  obtain⟨j,a,d⟩:=O.old C D x λz=>nC C z rfl;rw[a,d HC]
 have a6:Y9 C=none:=y.free C D x HC (by simp);unfold notedBy;rw[Mq (env':=compEnvC v l C (XC P w K mg base N qual scope f cd A outer s0 H0 E).env) (env:=(XC P w K mg base N qual scope f cd A outer s0 H0 E).env) rfl];refine u5 (base:=B) I.ok.frames rfl fl λh1 y1 u1=>?_;have Y:h1.get? C=some D:=y1.stay C D hB;refine(m,(D,es,ep,Y,W,rC),λh2 U Z _=>?_);have kb:∀b o,(hideAll B [C]).get? b=some o->B.get? b=some o/\b≠C:=λb o e=>(of_hideAll _ e,λz=>by
  rw[z,hideAll_none [C] (by simp)]at e;cases e)
 have bk:∀b o,B.get? b=some o->b≠C->(hideAll B [C]).get? b=some o:=λb o e n=>hideAll_get [C] e (by simpa using n);have ny:∀{b o R},h1.get? b=some o->o.data=.fields R->b≠C:=λ{b o R} a d z=>by
  rw[z,Y]at a;cases a;rw[W]at d;cases d
 have y2:iB (hideAll B [C]) (XC P w K mg base N qual scope f cd A outer s0 H0 E).stack ea (.ref Ce) (.ref t) .none (rawInt s0.heap.objs.size) h2:=by
  obtain⟨st,nw,fu,o,R,T,p,ts,c1,c2,c3,c4,c5,c6,c7,c8,c9,d1,d2⟩:=y1;have M:∀b,B.get? b=none->(hideAll B [C]).get? b=none:=λb e=>by
   cases z:(hideAll B [C]).get? b with
   |none=>rfl
   |some o=>
    have:=(kb b o z).1;rw[e]at this;cases this
  refine(λb o e=>?_,M _ nw,NZ M fu λb g=>U.2 b (nC b g),o,R,T,p,ts,2,c2,c3,c4,c5,c6,M _ c7,c8,2,d1,d2)
  ·obtain⟨a,d⟩:=kb b o e;exact(U.2 b d).trans (st b o a)
  ·exact(U.2 ea (ny c1 c3)).trans c1
  ·exact(U.2 T (ny c9 d1)).trans c9
 unfold PySem.passOn;obtain⟨o,R,T,p,ts,c1,c2,c3,c4,c5,c6,_⟩:=id y2.tr;refine wpAny_bind (wpAny_field c1 c3 c6 ?_);have n1:¬((Value.ref T==Value.none)=true):=by simp
 rw[if_neg n1];refine wpAny_bind (jl (s:={G with heap:=h2}) (f:=Z.frame) y2 λh3 y3 u3=>wpAny_throw ?_);have fr:∀b o,G.heap.get? b=some o->b∈frs (XC P w K mg base N qual scope f cd A outer s0 H0 E).stack -> ∃S,h3.get? b=some {o with slots:=S}:=λb o e g=>by
  obtain⟨_,j,V,nf⟩:=fl.fun_.mem g;rw[e]at V;cases V;obtain⟨S,a⟩:=u1 b o e nf;obtain⟨F,d⟩:=u3 b {o with slots:=S} ((U.2 b (nC b g)).trans a) nf;exact(F,d)
 have L:∀b o,s'.heap.get? b=some o->b∉frs (XC P w K mg base N qual scope f cd A outer s0 H0 E).stack->b∉[C] -> ∃j,(hideAll B [C]).get? b=some j/\(H' b=none->j=o):=λb o e g k=>by
  obtain⟨j,a,d⟩:=O.old b o e g;exact(j,bk b j a (by simpa using k),d)
 have W6:∀b u,Y9 b=some u -> ∃o,(hideAll B [C]).get? b=some o:=λb u e=>by
  obtain⟨o,a⟩:=O.W6 b u e;exact(o,bk b o a λz=>by rw[z,a6]at e;cases e)
 refine TX (s':={G with heap:=h3}) (ch:=[C]) I' os a0 (λb o e n g k=>?_,λb o e n g k=>?_,λb o e n k=>y.free b o e n (by simp),λb o e k=>?_,y.tups,y.frzs,y.tbls) (λb u e=>?_) y3 L W6 (λb g=>?_) q
 ·obtain⟨j,a,d⟩:=L b o e g k;rw[d n]at a;exact y3.stay b o a
 ·obtain⟨S,a⟩:=y.slot b o e n g (by simp);obtain⟨F,d⟩:=fr b _ a g;exact(F,d)
 ·by_cases g:b∈frs (XC P w K mg base N qual scope f cd A outer s0 H0 E).stack
  ·obtain⟨o1,a⟩:=y.there b o e (by simp);obtain⟨S,d⟩:=fr b o1 a g;exact(_,d)
  ·obtain⟨j,a,_⟩:=L b o e g k;exact(j,y3.stay b j a)
 ·refine(a2 b u e).stay (λc o hc a=>?_) (λ_ r=>r) λ_ _ r=>r;have ht:∃u,Y9 c=some u:=by
   rcases hc with rfl|hc
   ·exact(_,e)
   ·exact(_,hc)
  obtain⟨u',e3⟩:=ht;obtain⟨o1,d⟩:=W6 c u' e3;have:=fl.stay c o1 (kb c o1 d).1;rw[a]at this;cases this;exact y3.stay c o d
 ·have a4:b=C:=by simpa using g
  rw[a4];exact agx I.sz gC
end
section
variable{X:Cx}{s:Shared}
theorem Hi{x:Str}{pos:Pos}{iter:Expr}{J:It}{tn:Nat->Heap->Prop}
  {RR:Value->Addr->Result->Shared->Prop}{E:Value->Shared->Prop}(I:Inv X π σ H s)(hc:X.calm=true)(Y:bR X x r scope l)(T:Turn X.prog X.w X.K (.Name x p) J i a tn)(st:tn 0 s.heap)(hf:∀b∈i,gf X π H b)
  (ht:∀C s1 H1 Wz,Yy (bh X (x::r.map (·.1)) scope l C s1 H1 Wz) es M)(he:∀D C s1 H1 Wz,G9 X C s1 H1 Wz->PE ((bh X (x::r.map (·.1)) scope l C s1 H1 Wz).wish (notedBy (model X.prog X.w) X.A (compEnvC scope l C X.env) λe s'=>RR (.ref D) C (.error e) s')) tg ta)(rd:gG J (eV r σ) M ta q H)
  (b2:∀D C s' H' m,Inv X π σ H' s'->s'.heap.Ns C m->gf X π H' C->q D H'->RR (.ref D) C (.ok .next) s'):
  wpAny (model X.prog X.w) X.A (newList []) (λa5 s3=>wpAny (model X.prog X.w) X.A (newFunctionEnv scope X.env.globals l [] X.env.qual none .none (some X.env)) (λU s4=>
   codeAny (model X.prog X.w) X.A (.compStart (.ListComp tg [(.Name x p,iter,es,0)] scope pos) 0 (.ref a) a5 {U with scope:=relabel scope X.env}) (RR a5 U.locals) s4) E s3) E s:=by
 have a2:∀b∈i,b<s.heap.objs.size:=λb G=>by
  obtain⟨o,e,_⟩:=T.obj _ _ st b G;exact Heap.lt_size e
 refine wpAny_newObj_type (wpAny_newFunctionEnv Y.ρ (by intro y hy;simp at hy) (λh1 a0 P=>?_) Y.kind);dsimp only at a0 P ⊢;obtain⟨D,eD⟩:∃D:Nat,D=s.heap.objs.size:=(_,7)
 obtain⟨F,X3⟩:∃g,g=s.heap.push {cls:=.type "list",dict:=none,data:=.seq ([]:List Value).toArray}:=(_,7)
 rw[<-X3]at a0 P ⊢;rw[<-eD];have hC:F.objs.size=D+1:=by rw[X3,Heap.size_push,eD]
 have a1:s.heap.objs.size<=F.objs.size:=by rw[hC,eD];exact ahE _
 have b3:D≠F.objs.size:=by rw[hC];exact aaA (ahb _)
 have hk:∀b o,s.heap.get? b=some o->h1.get? b=some o:=λb o e=>by
  refine P.extBut b o (aaA (aas (Heap.lt_size e) a1)) (Heap.get?_push_of_some _ ?_);rw[X3];exact Heap.get?_push_of_some _ e
 have hL:h1.get? D=some {cls:=.type "list",data:=.seq #[]}:=by
  refine P.extBut D _ ⋯ (Heap.get?_push_of_some _ ?_);rw[X3,eD];exact Heap.get?_push_size _ rfl
 have a4:tn 0 h1:=T.keep _ _ _ st λb _ o e=>hk b o e;obtain⟨W,⟨m0,w0⟩,a6⟩:=rd D (I.hok.fresh ⋯);have S:codeAny (model X.prog X.w) X.A (.compLoop (.ListComp tg [(.Name x p,iter,es,0)] scope pos) 0 (.ref a) (.ref D) (compEnvC scope l F.objs.size X.env)) (RR (.ref D) F.objs.size) {s with heap:=h1,toks:=s.toks+([]:List (Str×Value)).length}:=by
  refine codeAny_compLoop_tests (λn s'=>∃B R N H',Inv (bh X (x::r.map (·.1)) scope l F.objs.size s H i) [] (N::eV r σ) H' s'/\tn B s'.heap/\(∀b∈i,H' b=none)/\W B n R H') ?_ m0
   (0,[],3,_,I.comp Y hf a2 ⋯ ⋯ b3 hk a0 hL,a4,λb G=>?_,w0)
  ·rintro n s3 ⟨B,R,N,H3,I3,a3,Yu,w3⟩;have Yz:∀{H':Hp}{pi:List (Addr×Obj)},(∀b∈i,H' b=none)->(∀f∈pi,f.1∉i) -> ∀b∈i,gf (bh X (x::r.map (·.1)) scope l F.objs.size s H i) pi H' b:=λ{H' pi} hn hp b G=>by
    obtain⟨f0,f1,f2,f3,f4,f5⟩:=hf b G;refine(hn b G,2,λz=>?_,.inl G,λy c e=>f4 y c (Y.cls y c e),λf b1 z=>?_)
    ·exact aaA (aas (a2 b G) a1)
    ·rcases aav.mp (I.stkSub b z)with k|k
     ·exact f1 k
     ·exact f2 k
    ·exact hp f (by simpa [bh]using b1) (by rw[z];exact G)
   have clear:∀{α:Type}{t:Sem α}{Q:α->Shared->Prop}{E':Value->Shared->Prop}{s:Shared},wpAny (model X.prog X.w) X.A t Q (λ_ _=>False) s->wpAny (model X.prog X.w) X.A t Q E' s:=λh=>wpAny_mono h (λ_ _ z=>z) λ_ _ z=>z.elim;rcases a6 B n R H3 w3 with ⟨a7,qf⟩|⟨go,a8⟩
   ·refine Wo (T.done (bh X (x::r.map (·.1)) scope l F.objs.size s H i) rfl rfl rfl hc B [] s3 _ H3 _ I3 (Yz Yu (by simp)) a3 a7) λj s4 ⟨hr,I4⟩=>?_;subst hr;obtain⟨m4,ZL,_⟩:=id I4.loc;refine b2 D _ s4 H3 m4 (I.comped hf I4) ZL ?_ qf;have gC:s.heap.objs.size<=F.objs.size:=by lia
    exact I.fpOk gC I4.free
   ·refine clear (Wo (T.item (bh X (x::r.map (·.1)) scope l F.objs.size s H i) rfl rfl rfl hc B [] s3 _ H3 (λ_ _=>False) I3 (Yz Yu (by simp)) a3 go) λj s4 ⟨u,hr,h4⟩=>?_);subst hr;refine clear (show wpAny (model X.prog X.w) X.A (pure () >>= λ_=>assign (.Name x p) (compEnvC scope l F.objs.size X.env) u) _ _ s4 from wpAny_bind (Wo (h4:wpAny (model X.prog X.w) X.A (pure ()) _ _ s4) λ_ s5 ⟨v,H5,I5,r5,y5,Xo,Zi⟩=>?_));have Zj:=I5.pinned (Yz Zi (by simp)) (T.obj _ _ Xo);have hg:PG (bh X (x::r.map (·.1)) scope l F.objs.size s H i) (.Name x p) (eZ 0):=j9 (i:=0) Y.nd rfl (ag3 (lookup_relabel_local Y.hx)) (ah1 (lookup_relabel_local Y.hx));refine Wo (hg _ s5 (N::eV r σ) H5 v u (λ a9 F=>a9=some v::eV r σ/\F=H5) Zj r5 (show _/\_ from (7,7))) λ_ s6 ⟨b6,H6,I6,e6,e7⟩=>?_;subst e6 e7;have q6:=a8 v _ y5;have L:∀{Z:Hp}{s7:Shared}{N:Option V}{zs:List V}{O:Nat},Inv (bh X (x::r.map (·.1)) scope l F.objs.size s H i) ([]++oN i s5.heap) (N::eV r σ) Z s7->O<n->W (B+1) O zs Z ->
      ∃m,m<n /\ ∃B R N H',Inv (bh X (x::r.map (·.1)) scope l F.objs.size s H i) [] (N::eV r σ) H' s7/\tn B s7.heap/\(∀b∈i,H' b=none)/\W B m R H':=λ{Z s7 N zs O} I7 hm w7=>by
     refine(O,hm,B+1,zs,N,Z,I7.ξ,T.keep _ _ _ Xo λb G o e=>(I7.pin (pq b o) (aau _ (aau _ (eE G e)))).1,λb G=>?_,w7);obtain⟨o,e,d⟩:=T.obj _ _ Xo b G;exact(I7.pin (pq b o) (aau _ (aau _ (eE G e)))).2.1
    refine clear (Wo (ht F.objs.size s H i _ s6 _ H6 _ I6 q6) λok s7 ⟨Z,I7,q7⟩=>?_);cases ok with
    |false=>
     obtain⟨O,hm,w7⟩:=(show ∃O,O<n/\W (B+1) O R Z from q7);exact L I7 hm w7
    |true=>
     refine Wo (he D F.objs.size s H i (π,σ,I,hf,a1) _ s7 _ Z _ (I7.wish _) q7) λxv s8 ⟨y,H8,b5,r8,b4,b0,O,hm,w8⟩=>?_;have I8:=b5.unwish;refine clear (Wo (bZ _ s8 _ H8 (.ref D) [y] (.ref D) [xv] (λ_ H9=>H9=upd H8 D (.lst (R++[y]))) I8 rfl (.cons r8 .nil) (D,R,y,7,7,b4,b0,7)) λ_ s9 ⟨_,H9,I9,_,e9⟩=>?_);subst e9;exact L I9 hm w8
  ·rw[aJ (by rw[eD];exact aaA (a2 b G))];exact(hf b G).1
 exact codeAny_compStart_list S (T.self _ 0 _ _ _ a4 S)
theorem En{x:Str}{pos:Pos}{iter:Expr}{t:TI}(F:X.calm=true)(j:bR X x r scope l)(B:PI X (.Name x p) iter t)
  (ht:∀C a f d,Yy (bh X (x::r.map (·.1)) scope l C a f d) es M)(E:∀(use:Option (Value->Sem Unit)) (Q:Value->Shared->Prop) (c:Value) C a f d,G9 X C a f d->PE ((bh X (x::r.map (·.1)) scope l C a f d).wish (notedBy (model X.prog X.w) X.A (compEnvC scope l C X.env) λe s'=>compPost (model X.prog X.w) X.A X.xe use Q c C (.error e) s')) tg ta)(y:∀x,foldedSetIterable iter X.env x=pure x:=by intro _;rfl):
  PE X (.ListComp tg [(.Name x p,iter,es,0)] scope pos) (NQ t r M ta):=by
 intro π s σ H Q I h;rw[eval_ListComp];refine wpAny_comprehension_free (use:=none) rfl y j.clos j.kind j.names (Wo (B π s σ H _ I h) λv a L=>Wo L λU W K=>?_);obtain⟨Y,Z,V,J,H2,e,P,T,k,N,u⟩:=K;subst e;refine Hi (RR:=λc C=>compPost (model X.prog X.w) X.A X.xe none (EP X π σ Q) c C) P F j T k N ht (λD C a f d O=>E _ _ _ C a f d O) u ?_;intro D C s' S m R z g q;exact(m,z,λn i=>(.ref D,S,R.turned (h':=n) (t':=s'.toks) (λb o G e=>i.extBut b o G e) g.1 g.2.1 g.2.2.2.1 g.2.2.2.2.1 g.2.2.2.2.2,7,q))
end
end L2
namespace Tw
def ML(b:Hp)(σ:St)(t:TE)(ms:List Int):Prop:=∀(H:Hp) (Q:VK),aM b H->(∀r a,H r=none->aM H a->a r=some (.lst !!ms)->Q (.ref r) a)->t σ H Q
def WQ(b:Hp)(σ:St)(t:TE)(i:Int):Prop:=∀(H:Hp) (Q:VK),aM b H->(∀a,aM H a->Q (.int i) a)->t σ H Q
def MA(b:Hp)(σ:St)(t:TA)(ms:List Int):Prop:=∀(H:Hp) (Q:List V->Hp->Prop),aM b H->(∀a,aM H a->Q ‹ms› a)->t σ H Q
def MO(b:Hp)(σ:St)(t:TO)(o:Option Int):Prop:=∀(H:Hp) (Q:Option Int->Hp->Prop),aM b H->(∀a,aM H a->Q o a)->t σ H Q
def MV(b:Hp)(σ:St)(t:TE)(ms:List Int):Prop:=∀(H:Hp) (Q:VK),aM b H->(∀r a,aM H a->a r=some (.lst !!ms)->Q (.ref r) a)->t σ H Q
theorem ML.v{t:TE}{ms:List Int}(h:ML H0 σ t ms):MV H0 σ t ms:=λH Q s q=>h H Q s λr b _ a x=>q r b a x
theorem jK{i:Nat}{p:Addr}{ms:List Int}(e:σ[i]?=some (!!!p))(a:H0 p=some (.lst !!ms)):MV H0 σ (Gn i) ms:=λH _ s q=>(_,e,q p H (.refl _) (s _ _ a))
theorem gh{i:Nat}(e:σ[i]?=some (!!!!g)):WQ H0 σ (Gn i) g:=λH _ _ q=>(_,e,q H (.refl _))
theorem pK:WQ H0 σ (tC (.int g)) g:=λH _ _ q=>q H (.refl _)
theorem PL{t u:TE}{g:Int->Int->Int}{i j:Int}(d:WQ H0 σ t i)(c:WQ H0 σ u j):WQ H0 σ (Ym (Yv λi j=>.int (g i j)) t u) (g i j):=λH _ s q=>
 d H _ s λf a=>c f _ (s.trans a) λe b=>(5,q e (a.trans b))
theorem v6{t u:TE}{C:Int->Int->Prop}{g:Int->Int->Int}{i j:Int}(e:WQ H0 σ t i)(d:WQ H0 σ u j)(c:C i j):WQ H0 σ (Ym (rI C λi j=>.int (g i j)) t u) (g i j):=λH _ s q=>
 e H _ s λh a=>d h _ (s.trans a) λf b=>(5,c,q f (a.trans b))
theorem Gf:MA H0 σ Dz []:=λH _ _ q=>q H (.refl _)
theorem Iw{t:TE}{a:TA}{i:Int}{ms:List Int}(e:WQ H0 σ t i)(d:MA H0 σ a ms):MA H0 σ (lN t a) (i::ms):=λH _ s q=>
 e H _ s λg b=>d g _ (s.trans b) λf c=>q f (b.trans c)
theorem Gs{ms:List Int}(h:MA H0 σ t ms)(c:ms.length<=500000):ML H0 σ (UJ t) ms:=λH _ s q=>
 h H _ s λd a=>(by rw[aaa,sizeLine_eq];lia,λp b=>q p _ (a.free b) (a.trans (aq b _)) aa)
theorem Hk{t u:TE}{xs ys:List Int}(i:MV H0 σ t xs)(h:MV H0 σ u ys)(k:xs.length+ys.length<=500000):ML H0 σ (Ym UL t u) (xs++ys):=λH _ s q=>
 i H _ s λg j b e=>h j _ (s.trans b) λf l a d=>(g,f,5,a _ _ e,d,by rw[aaa,aaa,sizeLine_eq];lia,λp c=>q p _ ((b.trans a).free c) ((b.trans a).trans (aq c _)) (by rw[aa,aag]))
theorem R4:MO H0 σ uL none:=λH _ _ q=>q H (.refl _)
theorem Jd{t:TE}{i:Int}(h:WQ H0 σ t i):MO H0 σ (Ii t) (some i):=λH _ s q=>h H _ s λb a=>(9,q b a)
theorem RQ{t:TE}{d f:TO}{ns ms:List Int}{lo i:Option Int}(h:MV H0 σ t ns)(l:MO H0 σ d lo)(k:MO H0 σ f i)(e:dR ‹ns› lo i=ms.map V.int):ML H0 σ (tSl (N8 K) t d f) ms:=λH _ s q=>
 h H _ s λr n b j=>l n _ (s.trans b) λm a=>k m _ (s.trans (b.trans a)) λo c=>(r,9,My.of ((a.trans c) _ _ j),λp g=>q p _ ((b.trans (a.trans c)).free g) ((b.trans (a.trans c)).trans (aq g _)) (by rw[aa,e]))
theorem RZ{t u:TE}{ns:List Int}{i:Int}{j:Nat}(h:MV H0 σ t ns)(a:WQ H0 σ u i)(e:i=(j:Int)):ML H0 σ (tSl (N8 K) t uL (Ii u)) (ns.take j):=RQ h R4 (Jd a) (by rw[e,oM])
theorem Jk{t u:TE}{ns:List Int}{i:Int}{j:Nat}(h:MV H0 σ t ns)(a:WQ H0 σ u i)(e:i=(j:Int)):ML H0 σ (tSl (N8 K) t (Ii u) uL) (ns.drop j):=RQ h (Jd a) R4 (by rw[e,CN])
theorem Tt{t u:TE}{ns:List Int}{i :Int}{j:Nat}(h:MV H0 σ t ns)(d:WQ H0 σ u i)(e:i=(j:Int))(hz:ns[j]?=some g):WQ H0 σ (Ym (Vt K) t u) g:=λH _ s q=>
 h H _ s λr k b c=>d k _ (s.trans b) λf a=>(r,_,5,My.of (a _ _ c),by rw[e];exact lC (by rw[aak,hz];rfl),q f (b.trans a))
theorem WQ.to{t:TE}{i j:Int}(h:WQ H0 σ t i)(e:i=j):WQ H0 σ t j:=e ▸ h
theorem Uy{t:TE}{ns:List Int}(h:MV H0 σ t ns):WQ H0 σ (tCB (λxs H Q=>∃p ys,xs=[V.ref p]/\(My K H p ys\/Wq K H p ys)/\Q (.int (ys.length:Int)) H) (lN t Dz)) (ns.length:Int):=λH _ s q=>
 h H _ s λr c b a=>(r,9,.inl (My.of a),by rw[aaa];exact q c b)
theorem Nj{t:TE}{i:Nat}(h:WQ H σ t g)(q:∀H',aM H H'->Y.nx (σ.set i (!!!!g)) H'):CK t (eZ i) Y σ H:=h H _ (.refl _) q
theorem OJ{t:TE}{i:Nat}{ms:List Int}(h:ML H σ t ms)(q:∀r H',H r=none->aM H H'->H' r=some (.lst !!ms)->Y.nx (σ.set i (!!!r)) H'):CK t (eZ i) Y σ H:=h H _ (.refl _) q
def PT(σ:St)(H:Hp)(t:TT)(F:Bool->Prop):Prop:=∀Q:Bool->Hp->Prop,(∀b,F b->Q b H)->t σ H Q
def PU(H0:Hp)(σ:St)(t:TT)(F:Bool->Prop):Prop:=∀(H:Hp) (Q:Bool->Hp->Prop),aM H0 H->(∀b a,aM H a->F b->Q b a)->t σ H Q
theorem PU.arm{t:TT}{F:Bool->Prop}{A B:TS}(h:PU H σ t F)(f:∀H',aM H H'->F true->A Y σ H')(e:∀H',aM H H'->F false->B Y σ H'):U4 t A B Y σ H:=h H _ (.refl _) λb d a c=>by
 cases b
 ·exact b7 (e d a c)
 ·exact cF (f d a c)
theorem U9{t u:TE}{i j:Int}(e:WQ H0 σ t i)(d:WQ H0 σ u j):PU H0 σ (Dl (Ym rEq t u)) (λb=>decide (i=j)=b):=λH _ s q=>
 e H _ s λg a=>d g _ (s.trans a) λf c=>(7,9,q _ f (a.trans c) (oA ..).symm)
end Tw
namespace L2
open PySem.Spec PyProof.Rows
theorem yt:∀{l U:List Int},l.Nodup->(∀z∈l,z∈U)->l.length<=U.length
 |[],_,_,_=>af3 _
 |a::l,U,f,h=>by
  have c:=h a aal;have d:=agU.mp f;have q:=yt (l:=l) (U:=U.erase a) d.2 λz b=>(ahs λe:z=a=>d.1 (e ▸ b)).mpr (h z (aai _ b));have e:=ag8 c;have p:=ahJ c;rw[aao];lia
open Tw
theorem P0{ns:List Int}{U:List Int}(h:∀z∈ns,z∈U):(met (λi=>ns.getD i 0) ns.length).length<=U.length:=
 yt (fO _ _) λz b=>by
  obtain⟨i,a,rfl⟩:=(qH _ _ _).mp b;refine h _ ?_;show ns.getD i 0∈ns;rw[aaN,aab a];exact age a
open PySem.W
def qz(x:Str)(lo a:Option Int):Str:=⟨((x.cps.toList.drop (HT.Ws x.length 0 lo)).take (HT.Ws x.length x.length a-HT.Ws x.length 0 lo)).toArray⟩
theorem qD(n d:Nat)(lo:Option Int):HT.Ws n d lo=lo.elim d (clipAt n):=by
 cases lo with
 |none=>rfl
 |some v=>
  show (if v<0 then (v+(n:Int)).toNat else min v.toNat n)=clipAt n v;unfold clipAt;split<;>lia
theorem part_of{v:Value}{lo:Option Int}(h:IsPart v lo):∃l:Option (Int×Tok),v=partValue l/\l.map (·.1)=lo:=by
 cases h with
 |none=>exact(3,7,7)
 |int i t=>exact(some (pq i t),7,7)
theorem tK(z:Str)(l u:Option (Int×Tok)):((slicePicked z l u none).filterMap (z.cps[·]?)).toArray=(qz z (l.map (·.1)) (u.map (·.1))).cps:=by
 unfold slicePicked qz;have e:Builtin.Str.strSliceIndices (l.map (·.1)) (u.map (·.1)) 1 z.length=sliceRange (HT.Ws z.length 0 (l.map (·.1)):Nat) (HT.Ws z.length z.length (u.map (·.1)):Nat) 1:=by
  unfold Builtin.Str.strSliceIndices;rw[qD,qD];cases l<;>cases u<;>simp[clipAt_cast]
 show (List.filterMap (z.cps[·]?) (Builtin.Str.strSliceIndices (l.map (·.1)) (u.map (·.1)) 1 z.length)).toArray=_;rw[e,sliceRange_one,pick_run]
theorem Lg{l u:Option (Int×Tok)}(h:(slicePicked x l u none).length=x.length):qz x (l.map (·.1)) (u.map (·.1))=x:=by
 have g:=tK x l u;have d:slicePicked x l u none=sliceRange (HT.Ws x.length 0 (l.map (·.1)):Nat) (HT.Ws x.length x.length (u.map (·.1)):Nat) 1:=by
  unfold slicePicked;show Builtin.Str.strSliceIndices (l.map (·.1)) (u.map (·.1)) 1 x.length=_;unfold Builtin.Str.strSliceIndices;rw[qD,qD];cases l<;>cases u<;>simp[clipAt_cast]
 rw[d,sliceRange_one,aaa,af8]at h;have f:HT.Ws x.length x.length (u.map (·.1))<=x.length:=HT.O5 _ _ (aae _) _;unfold qz;have b:x.length=x.cps.size:=rfl;rcases ag6 x.length with c|c
 ·have:x.cps=#[]:=Array.eq_empty_of_size_eq_zero (b ▸ c);cases x with
  |mk a=>
   have:a=#[]:=this;subst this;simp
 ·have e:HT.Ws x.length 0 (l.map (·.1))=0:=by lia
  rw[e,agL,aia,show HT.Ws x.length x.length (u.map (·.1))=x.length by lia,aaj (by rw[aaf];exact aiv b.symm)]
theorem ug(z:Str)(lo a:Option Int):(qz z lo a).length<=z.length:=by
 unfold qz;show ((z.cps.toList.drop _).take _).toArray.size<=z.cps.size;rw[af6,aaq,aaM,aaf];lia
inductive VV(x:V)(lo:Option Int)(hi:Option Int)(H:Hp)(Q:VK):Prop
 | mk (z:_) (_:x=.str z) (_:z.length<=sizeLine) (_:Q (.str (qz z lo hi)) H)
theorem Ho{X:Cx}:SlR X VV:=by
 intro k s j H x v n m p r o Q I b g d c h;obtain⟨z,rfl,f,q⟩:=h;obtain⟨t,rfl⟩:=b
 exists "str",_,F.slot_str_getitem.lookup,typeIs_str _ _ _
 obtain⟨l,rfl,rfl⟩:=part_of d;obtain⟨u,rfl,rfl⟩:=part_of c;refine wpAny_getItem_str_slice (l:=l) (u:=u) (st:=none) g rfl ?_;unfold sliceMade;split
 ·rename_i a;have i:(slicePicked z l u none).length=z.length:=by
   simp at a;exact a
  rw[Lg i]at q;exact(.str z,H,I,(t,7),q)
 ·have e:(⟨((slicePicked z l u none).filterMap (z.cps[·]?)).toArray⟩:Str)=qz z (l.map (·.1)) (u.map (·.1)):=by rw[tK]
  rw[e];exact(agx (ug _ _ _) f,(.str _,H,I.tok _,(_,7),q))
def Jo(x:Str):It:=
 (λi _=>i<x.cps.size,λi H v a=>a=H /\ ∃c,x.cps[i]?=some c/\v=.str ⟨#[c]⟩,λi _=>x.cps.size<=i)
theorem Ka{w:World}{K:PySem.W.Frag}(g:Addr)(x:Str)(t:Tok):Turn prog w K e (Jo x) [g] g (λi h=>h.IsStrIter g "str_ascii_iterator" x t i) where
 mem:=by simp
 obj:=λi h f b l=>by
  have a:b=g:=by simpa using l
  subst a;obtain⟨o,a,c,d⟩:=f;exact(o,a,λv z=>by rw[d]at z;cases z)
 keep:=λi h p f k=>let ⟨o,ho,r⟩:=f;(o,k g (by simp) o ho,r)
 item:=by
  intro X u q y L i J s G H E I n f j;subst u q y;have j:i<x.cps.size:=j;obtain⟨F,D,N,C,B,A⟩:=n g (by simp);refine wpAny_pyNext_ascii_item f (c:=x.cps[i]) (by simp[j]) λp m M=>?_;have Q:Inv X J G H {s with heap:=p,toks:=s.toks+1}:=I.turned (t':=s.toks+1) (λb o l a=>(M.2 b l).trans a) F D C B A;obtain⟨o,a,c,d⟩:=id m;exact(9,uR (s:={s with heap:=p,toks:=s.toks+1}) a c d ∅ (.str ⟨#[x.cps[i]]⟩,H,Q,(_,7),(7,_,by simp[j],7),m,λb l=>(n b l).1))
 done:=by
  intro X u q y L i J s G H E I n f j;subst u q y;have j:x.cps.size<=i:=j;obtain⟨F,D,N,C,B,A⟩:=n g (by simp);exact wpAny_pyNext_ascii_end (I.ok.hd L) f (by simp;lia) λp O=>(7,I.turned (t':=s.toks) (λb o l a=>O b o l a) F D C B A)
 self:=λ_ _ _ _ _ f h=>wpAny_pyIter_striter_ascii f h
theorem Kf{w:World}{K:PySem.W.Frag}(g:Addr)(x:Str)(t:Tok):Turn prog w K e (Jo x) [g] g (λi h=>h.IsStrIter g "str_iterator" x t i) where
 mem:=by simp
 obj:=λi h f b l=>by
  have a:b=g:=by simpa using l
  subst a;obtain⟨o,a,c,d⟩:=f;exact(o,a,λv z=>by rw[d]at z;cases z)
 keep:=λi h p f k=>let ⟨o,ho,r⟩:=f;(o,k g (by simp) o ho,r)
 item:=by
  intro X u q y L i J s G H E I n f j;subst u q y;have j:i<x.cps.size:=j;obtain⟨F,D,N,C,B,A⟩:=n g (by simp);refine wpAny_pyNext_wide_item f (c:=x.cps[i]) (by simp[j]) λp m M=>?_;have Q:Inv X J G H {s with heap:=p,toks:=s.toks+1}:=I.turned (t':=s.toks+1) (λb o l a=>(M.2 b l).trans a) F D C B A;obtain⟨o,a,c,d⟩:=id m;exact(9,uR (s:={s with heap:=p,toks:=s.toks+1}) a c d ∅ (.str ⟨#[x.cps[i]]⟩,H,Q,(_,7),(7,_,by simp[j],7),m,λb l=>(n b l).1))
 done:=by
  intro X u q y L i J s G H E I n f j;subst u q y;have j:x.cps.size<=i:=j;obtain⟨F,D,N,C,B,A⟩:=n g (by simp);exact wpAny_pyNext_wide_end (I.ok.hd L) f (by simp;lia) λp O=>(7,I.turned (t':=s.toks) (λb o l a=>O b o l a) F D C B A)
 self:=λ_ _ _ _ _ f h=>wpAny_pyIter_striter_wide f h
inductive Us(R:It->Hp->Prop)(v:V)(H1:Hp):Prop
 | mk (x:_) (_:v=.str x) (_:R (Jo x) H1)
def Wb(b:TE):TI:=λ a H R=>b a H (Us R)
theorem Td{l:Expr}(n:PE X l ta):PI X tg l (Wb ta):=by
 intro f s j H R I h;refine Wo (n f s j H _ I h) λv a ⟨y,d,c,k,m⟩=>?_;obtain⟨x,e,q⟩:=m;subst e;obtain⟨t,rfl⟩:=k;have i:∀b∈[a.heap.objs.size],gf X f d b:=λb p=>by
  have e:b=a.heap.objs.size:=by simpa using p
  subst e;exact c.fpOk (aae _) (c.hok.fresh (aae _))
 cases g:x.cps.all (· < 128)
 ·refine wpAny_pyIter_wide g ?_;exact(a.heap.objs.size,[a.heap.objs.size],1,d,7,c.kept (t':=a.toks) λb o e=>Heap.get?_push_of_some _ e,Kf _ x t,(_,Heap.get?_push_size _ rfl,7,7),i,q)
 ·refine wpAny_pyIter_ascii g ?_;exact(a.heap.objs.size,[a.heap.objs.size],1,d,7,c.kept (t':=a.toks) λb o e=>Heap.get?_push_of_some _ e,Ka _ x t,(_,Heap.get?_push_size _ rfl,7,7),i,q)
theorem Qk{x:Str}{g:TG}{j:TS}{σ:St}(a:Nat->St->Hp->Prop)(q:a 0 σ H)
  (n:∀i c σ H,x.cps[i]?=some c->a i σ H->g (.str ⟨#[c]⟩) σ H λ b h=>j {Y with nx:=a (i+1),ct:=a (i+1),bk:=Y.nx} b h)(hd:∀σ H,a x.cps.size σ H->Y.nx σ H):
  ∃W:Nat->Nat->St->Hp->Prop,(∃m,W 0 m σ H) /\ ∀i m σ H,W i m σ H ->
   ((Jo x).stop i H/\Y.nx σ H)\/((Jo x).go i H /\ ∃N:St->Hp->Prop,(∀d H',N d H' -> ∃k,k<m/\W (i+1) k d H') /\ ∀v H',(Jo x).Yd i H v H'->g v σ H' λ b h=>j {Y with nx:=N,ct:=N,bk:=Y.nx} b h):=by
 exists λi m σ H=>m=x.cps.size-i/\i<=x.cps.size/\a i σ H,(x.cps.size,by simp,af3 _,q);rintro i m σ H ⟨rfl,r,p⟩;by_cases f:i<x.cps.size
 ·refine .inr (f,a (i+1),λ d H' l=>(x.cps.size-(i+1),6,7,f,l),λv H' y=>?_);obtain⟨rfl,c,o,rfl⟩:=y;exact n i c σ _ o p
 ·have e:i=x.cps.size:=by lia
  subst e;exact .inl (aae _,hd σ H p)
end L2
namespace Tw
open PySem.Spec PyProof.Rows
def Za(c:List Str):Prop:=c.Pairwise λa b=>¬b.cps.toList<a.cps.toList
theorem uq{vs:List Value}(g:StrsAre vs N){xs:Array Keyed}(l:xs.Perm (pairsOf vs))(s:SortedToK PyProof.Rows.strKind xs (pairsOf vs).size):
  ∃d,StrsAre (xs.map (·.2)).toList d/\d.Perm N/\Za d:=by
 have m:xs.toList.Perm (vs.zip vs):=by rw[<-pairsOf_toList];exact ahm.mp l
 have a:∀p,p∈xs.toList->p.1=p.2/\p.1∈vs:=λp b=>mem_zip_self (m.mem_iff.mp b);exists xs.toList.map (λp=>strOf p.1),2,2
 ·have e:(xs.map (·.2)).toList=xs.toList.map (·.1):=by
   rw[Array.toList_map];exact agR λp b=>(a p b).1.symm
  rw[e];have c:=strsAre_map (xs.toList.map (·.1)) (by
   intro v r;obtain⟨p,b,rfl⟩:=afs.mp r;exact g.all _ (a p b).2)
  rwa [agC]at c
 ·have c:=m.map (λp=>strOf p.1);have A:(vs.zip vs).map (λp=>strOf p.1)=N:=by
   have:(vs.zip vs).map (λp=>strOf p.1)=((vs.zip vs).map Prod.fst).map strOf:=by
    rw[agC];rfl
   rw[this,ajl (aae _),g.strs]
  rwa [A]at c
 ·unfold Za;rw[agf];intro i j z w h;have k:i<xs.size:=by simpa using z
  have f:j<xs.size:=by simpa using w
  have c:=s i j (ag0 h) (by rw[<-l.size_eq];exact f);obtain⟨x,t,o⟩:=g.all _ (a xs[i] (by simp)).2;obtain⟨y,u,n⟩:=g.all _ (a xs[j] (by simp)).2;rw[KK_str k (x:=x) (t:=t) (q:=xs[i].2) (ajS o rfl),KK_str f (x:=y) (t:=u) (q:=xs[j].2) (ajS n rfl)]at c;change decide (y.cps.toList<x.cps.toList)=false at c;simp only[List.getElem_map,agy];rw[show strOf xs[i].1=x by rw[o];rfl,show strOf xs[j].1=y by rw[n];rfl];exact of_decide_eq_false c
section
variable{w:World}
theorem zj{l:Addr}{vs:List Value}{n:Nat}{Q:PySem.Fin->Shared->Prop}(f:s.heap.get? l=some (seqObj "list" vs.toArray n))(b:StrsAre vs N)(hz:vs.length<=100000)
  (h:∀(out:Array Value) (a:List Str),StrsAre out.toList a->a.Perm N->Za a->Q (.done (.ret .none)) {s with heap:=sortedHeap s.heap l vs out}):wpAny (model prog w) A (Builtin.«list.sort» ([.ref l],[])) Q E s:=by
 refine yq strKind_oneLt f b.keysOf (λu v r e=>keyKind_strs (by rw[<-e];exact b)) hz λz d c=>?_;obtain⟨a,j,i,g⟩:=uq b d c;exact h _ a j i g
theorem vO{l:Addr}{vs:List Value}{Q:Value->Shared->Prop}(d:s.heap.IsList l vs.toArray)(e:StrsAre vs N)(hz:vs.length<=100000)
  (h:∀(out:Array Value) (a:List Str),StrsAre out.toList a->a.Perm N->Za a->Q (.ref (s.heap.objs.size+1)) {s with heap:=sortedAll s.heap vs out}):
  wpAny (model prog w) A (call (.builtin "sorted") [.ref l]) Q E s:=by
 have c:vs.length<=sizeLine:=by rw[sizeLine_eq];lia
 refine Calls.call_function_entry kind_sorted plain_sorted entry_sorted (args_sorted1 _) ?_;unfold Builtin.«sorted»
 refine wpAny_bind (m:=checkCount "sorted" 1 1 _) (wpAny_pure (wpAny_bind (collect_list d ?_ c)))
 refine wpAny_bind (wpAny_newList ?_ c)
 have z:((s.heap.push (seqObj "list" #[] 0)).update s.heap.objs.size (Obj.mapSeq (· ++ vs.toArray))).objs.size=s.heap.objs.size+1:=by rw[Heap.size_update,size_push']
 have g:(((s.heap.push (seqObj "list" #[] 0)).update s.heap.objs.size (Obj.mapSeq (· ++ vs.toArray))).push (seqObj "list" vs.toArray 0)).get? (s.heap.objs.size+1)=some (seqObj "list" vs.toArray 0):=by
  rw[<-z];exact Heap.get?_push_size _ rfl
 show wpAny _ _ _ _ _ {s with heap:=((s.heap.push (seqObj "list" #[] 0)).update s.heap.objs.size (Obj.mapSeq (· ++ vs.toArray))).push (seqObj "list" vs.toArray 0)}
 rw[z];exact wpAny_bind (wpAny_holding (wpAny_call_entry slot_list_sort (_,g,7) entry_list_sort (zj g e hz λout b j i f=>(9,wpAny_pure (9,h out b j i f))) (args_list_sort _)))
theorem JK{es:Array (Int×Value)}{m:List (Str×(Int×Value))}(o:nH (PySem.strKind prog w) es.toList N m){ps:List (Int×Value)}(b:agH ps es.toList)(d:ItemsOf (wG ps) y es.size):∃ns,StrsAre y.toList ns/\agH ns N:=by
 obtain⟨l,a⟩:=o.perm b;have h:ps.length=es.size:=by rw[b.length_eq,aaf]
 have g:y.toList=ps.map (·.2):=by
  apply agn;intro i;rw[aak];cases j:y.toList[i]? with
  |none=>
   have:y.toList.length<=i:=aiA.mp j;rw[aaf,d.1,<-h]at this;rw[aaC this];rfl
  |some v=>
   obtain⟨e,f,k⟩:=d.2 i v (by rw[<-agh];exact j);rw[f,k];rfl
 refine(l.map (·.1),2,a.fst);rw[g,<-a.snd];have c:=a.is
 clear a g h d b
 induction l with
 |nil=>exact .nil
 |cons q r n=>
  obtain⟨f,k,u⟩:=c q aal;obtain⟨t,e⟩:=Value.isStrOf_shape (show Value.isStrOf q.1 q.2.2=true from f);rw[aax,aax,aax,e];exact .cons q.1 t (n λp b=>c p (aai _ b))
theorem xW{Q:Value->Shared->Prop}(C:A.handled=none)(J:jJ (dq w) (PySem.strKind prog w) s.heap S N)
  (h:∀(D:Addr) (h':Heap) d tk (vs:List Value) (ns:List Str) (e:Nat),s.heap.objs.size<=D->(∀b o,s.heap.get? b=some o->h'.get? b=some o)->h'.get? D=some (seqObj "list" vs.toArray e)->StrsAre vs ns->agH ns N->Za ns->ns.length<=4096->Q (.ref D) {s with heap:=h',drawn:=d,toks:=tk}):
  wpAny (model prog w) A (call (.builtin "sorted") [.ref S]) Q E s:=by
 obtain⟨o,T,U,t,R,B,q,hd,H,F,I,K⟩:=J;have O:scanBound=4096:=rfl;refine Calls.call_function_entry kind_sorted plain_sorted entry_sorted (args_sorted1 _) ?_;unfold Builtin.«sorted»
 refine wpAny_bind (m:=checkCount "sorted" 1 1 _) (wpAny_pure ?_)
 refine wpAny_bind (uh (by simp[C]) (B,hd,F) q.1 H I λa j d tk P z u l r=>?_);obtain⟨ns,v,n⟩:=JK K z u;have i:a.toList.length<=4096:=by rw[aaf,u.1];lia
 have p:ns.length=a.toList.length:=by rw[<-v.strs,aaa]
 refine wpAny_bind (wpAny_newList ?_ (by rw[sizeLine_eq];lia))
 have c:(j.push (seqObj "list" a.toList.toArray 0)).get? j.objs.size=some (seqObj "list" a.toList.toArray 0):=Heap.get?_push_size _ rfl
 refine wpAny_bind (wpAny_holding (wpAny_call_entry slot_list_sort (_,c,7) entry_list_sort (zj c v ⋯ λf k M y L=>(9,2)) (args_list_sort _)));refine wpAny_pure (9,2);obtain⟨e,G⟩:=sortedHeap_at (out:=f) c;refine h j.objs.size _ d _ f.toList k e (ag0 l) (λb o x=>?_) (by simpa using G) M (y.trans n) L (by rw[y.length_eq,p];exact i);have g:=Heap.lt_size (r _ _ x);rw[sortedHeap_old (aaA g) (by rw[Heap.size_push];exact ahu g)];exact Heap.get?_push_of_some _ (r _ _ x)
end
end Tw
namespace L2
open PySem.Spec PyProof.Rows Tw
theorem v7:∀{c:List Value},Vals (N.map V.str) c->StrsAre c N:=by
 induction N with
 |nil=>
  intro c r;rw[ah9]at r;cases r;exact .nil
 |cons n e d=>
  intro c r;rw[aax]at r;cases r with
  |cons a b=>
   obtain⟨t,rfl⟩:=a;exact .cons n t (d b)
theorem rK:∀{vs:List Value}{a:List Str},StrsAre vs a->Vals (a.map V.str) vs
 |_,_,.nil=>.nil
 |_,_,.cons _ t h=>.cons (t,7) (rK h)
theorem ue{vs:List Value}(h:StrsAre vs N):vs.length=N.length:=by
 rw[<-h.strs,aaa]
def HS(P:Program)(w:World)(a:Addr)(b:List Str):HO:=.ext λh=>jJ (dq w) (PySem.strKind P w) h a b
theorem Nz{w:World}{a:Addr}(e:jJ (dq w) (PySem.strKind prog w) base a N):bN prog w H base a (HS prog w a N):=by
 refine(e,2,λ_ _ p k=>p.at k);obtain⟨o,_,_,_,_,b,_⟩:=e;exact(o,b)
theorem um(G:X.calm=true):fZ X (.type "set") (λxs H Q=>∃(p:Addr) (c:List Str),xs=[.ref p]/\My X.K H p (c.map V.str)/\(met (λi=>c.getD i ⟨#[]⟩) c.length).length+1<scanBound /\
  ∀l m o,H l=none->m=met (λi=>c.getD i ⟨#[]⟩) c.length->o=HS X.prog X.w l m->Q (.ref l) (upd H l o)):=by
 intro O s N H xs P Q I r h;obtain⟨p,a,rfl,E,J,q⟩:=h;obtain⟨u,rfl,A⟩:=vals1 r;cases A;obtain⟨d,B,C,R⟩:=I.list E;have x:=v7 B;have j:=ue x;have g:d.toArray.size=a.length:=by simpa using j
 refine yu (knd:=PySem.strKind X.prog X.w) (f:=λi=>a.getD i ⟨#[]⟩) (I.ok.hd G) C.isList (λi v e=>?_) (by rw[g];exact J) λS z y F=>?_
 ·have M:d[i]?=some v:=by simpa using e
  have:∀{k:List Value}{a:List Str},StrsAre k a -> ∀(i:Nat) v,k[i]?=some v->Value.isStrOf (a.getD i ⟨#[]⟩) v=true/\v.scannable=true:=by
   intro k a L
   induction L with
   |nil=>intro i v e;simp at e
   |cons n t _ D=>
    intro i v e;cases i with
    |zero=>
     simp at e;subst e;exact(by simp[Value.isStrOf],7)
    |succ i=>exact D i v (by simpa using e)
  exact this x i v M
 ·rw[g]at y;exact(.ref s.heap.objs.size,_,I.laid (t':=z) (λb o e=>F b o (Heap.lt_size e) e) (aae _) (Nz y),7,q _ _ _ (I.hok.fresh (aae _)) rfl rfl)
theorem uv:fZ X (.builtin "len") (λxs H Q=>∃(p:Addr) (a:List Str),xs=[.ref p]/\H p=some (HS X.prog X.w p a)/\Q (.int (a.length:Int)) H):=by
 intro x s v H xs y Q I r h;obtain⟨p,a,rfl,g,q⟩:=h;obtain⟨u,rfl,f⟩:=vals1 r;cases f;have k:jJ (dq X.w) (PySem.strKind X.prog X.w) s.heap p a:=(I.hok p _ g).1;obtain⟨o,l,B,t,z,i,b,hd,A,j,_,c⟩:=k;have m:l.size=a.length:=by
  have e:=congrArg ahY c.snd;have d:=c.fst.length_eq;rw[aaa]at e d;rw[<-d,e,aaf]
 have n:scanBound=4096:=rfl;refine call_len_set i b hd j ⋯ ?_;exact(.int (a.length:Int),H,I.tok (s.toks+1+1),(_,by rw[<-m]),q)
theorem qG(t:X.calm=true):fZ X (.builtin "sorted") (λxs H Q=>∃(p:Addr) (a:List Str),xs=[.ref p]/\H p=some (HS X.prog X.w p a) /\
  ∀l ms,H l=none->agH ms a->Za ms->Q (.ref l) (upd H l (.lst (ms.map V.str)))):=by
 intro A s z H xs B Q I r h;obtain⟨p,a,rfl,m,q⟩:=h;obtain⟨u,rfl,i⟩:=vals1 r;cases i;have v:jJ (dq X.w) (PySem.strKind X.prog X.w) s.heap p a:=(I.hok p _ m).1;refine xW (I.ok.hd t) v λD y d g f j e c n o x b k C=>?_;exact(.ref D,_,(I.laid (t':=g) n c (show bN X.prog X.w _ y D (.lst (j.map V.str))from (by rw[aaa,sizeLine_eq];lia,f,e,rK x,o))).drawnTo d,7,q _ _ (I.hok.fresh c) b k)
theorem wO:fZ X (.builtin "sorted") (λxs H Q=>∃(p:Addr) (c:List Str),xs=[.ref p]/\My X.K H p (c.map V.str)/\c.length<=100000 /\ ∀l ms,H l=none->agH ms c->Za ms->Q (.ref l) (upd H l (.lst (ms.map V.str)))):=by
 intro z s y H xs A Q I r h;obtain⟨p,B,rfl,n,D,q⟩:=h;obtain⟨u,rfl,j⟩:=vals1 r;cases j;obtain⟨d,k,m,C⟩:=I.list n;have f:=v7 k;have i:=ue f;refine vO m.isList (by simpa using f) ⋯ λa b x g v=>?_;obtain⟨e,t⟩:=sortedAll_at s.heap d a;have o:b.length<=sizeLine:=by
  rw[g.length_eq,sizeLine_eq];lia
 refine(.ref (s.heap.objs.size+1),_,I.laid (t':=s.toks) (λ_ _=>sortedAll_old) (ahE _) (show bN X.prog X.w _ _ _ (.lst (b.map V.str))from (by rw[aaa];exact o,a.toList,e,rK x,2)),7,q _ _ (I.hok.fresh (ahE _)) g v);rw[t]
end L2
namespace PySem
open PyProof.Rows
section
variable{w:World}
theorem uE{Q:Bool->Shared->Prop}(f:s.TypeIs (.ref a) "dict")(h:Q false s):wpAny (model prog w) A (Builtin.List.listLengthHint (.ref a)) Q E s:=by
 unfold Builtin.List.listLengthHint;refine wpAny_bind (wpAny_specialOf f F.slot_dict_len.lookup ?_)
 generalize e:("dict.__len__" : String)=id0
 wp_delta
 rw[show splitId id0=some (pq ("dict") ("__len__"))from by subst e;decide +kernel]
 subst e
 refine wpAny_bind (wpAny_isInstance (T := "dict") (b:=true) f (by rw[isSubtype_type];kernel_rfl) ?_)
 refine wpAny_ite_split (λc=>absurd c ∅) (λ_=>?_);refine wpAny_ite_split (λ_=>?_) (λc=>absurd (by decide +kernel) c);refine wpAny_bind (wpAny_typeOf f ?_);exact wpAny_pure h
end
section
variable{w:World}{R:Result->Shared->Prop}{K:Type}[DecidableEq K]{knd:KeyKind prog w K}
theorem pP{g:List (K×Value)}(hh:A.handled=none)(S:Addr)(u:Value)(y:Nat)(hd:(a==sysModules)=false)(p:s.heap.DictAt knd a g n)(D:S≠a)
  (X:s.heap.get? S=some {cls:=.type "list",data:=.seq #[] y})
  (hR:∀h' tk m I,(∀b o,b≠S->s.heap.get? b=some o->h'.get? b=some o)->h'.get? S=some {cls:=.type "list",dict:=none,data:=.seq m I,slots:=#[]} ->
   ItemsOf (λi v=>∃k x,g[i]?=some (pq k x)/\knd.is k v=true) m g.length->R (.ok (.ret u)) {s with heap:=h',toks:=tk})(Y:g.length<=sizeLine):
  wpAny (model prog w) A.in1 (Builtin.List.listExtendWith (.ref S) (.ref a) u)
   (λU s'=>match U with | .done f=>R (.ok f) s' | .again I=>I.quiet=true/\codeAny (model prog w) A I R s') (λe s'=>R (.error e) s') s:=by
 have V:s.TypeIs (.ref a) "dict":=p.dictOf.typeIs
 obtain⟨od,a0,C,_⟩:=id p;have M:=Heap.lt_size C;have O:S<s.heap.objs.size:=Heap.lt_size X;have L:S≠s.heap.objs.size:=aaA O;have P:a≠s.heap.objs.size:=aaA M;have Q:S∉[s.heap.objs.size,a]:=λp=>by
  rcases aav.mp p with e|p
  ·exact L e
  ·exact D (aan.mp p)
 have W:=(Walks.dictKeys (prog:=prog) (w:=w) (A:=A.in1) (knd:=knd) hh s.heap.objs.size a P g n).toS;have J:∀(h:Heap) (r tk:Nat),h.IsKeyIter s.heap.objs.size a 0 g.length n->h.DictAt knd a g n->(∀b o,b≠S->s.heap.get? b=some o->h.get? b=some o) ->
   h.get? S=some {cls:=.type "list",data:=.seq #[] r}->codeAny (model prog w) A (.builtin "list.extend.loop" ([.ref S,.ref s.heap.objs.size,u],[])) R {s with heap:=h,toks:=tk}:=by
  intro h r tk j E Z l;refine codeAny_extend_loopS W Y S Q u g.length 0 _ #[] r rfl (af3 _) (j,E) l (ItemsOf.nil _) λs' m I p T N=>?_;rw[Moved.eq_with p];refine hR s'.heap s'.toks m I (λb o z e=>p.heap b o (λq=>?_) (Z b o z e)) T N;rcases aav.mp q with e' | q
  ·exact z e'
  ·exact absurd (Heap.lt_size e) (by rw[aan.mp q];exact agB _)
 unfold Builtin.List.listExtendWith;refine wpAny_bind (wpAny_typeOf V ?_);have h1:Builtin.List.listSameRef (.ref S) (.ref a)=false:=by simp[Builtin.List.listSameRef,D]
 have h2:(Value.type "dict" == Value.type "list")=false:=by decide
 have h3:(Value.type "dict" == Value.type "tuple")=false:=by decide
 simp only[h1,h2,h3,ajz,agP,if_false];refine wpAny_bind (wpAny_pyIter_dict hd p ?_)
 have H:∀b o,s.heap.get? b=some o->(s.heap.push {cls:=.type "dict_keyiterator",data:=.fields #[.ref a,.int 0 0,.int g.length 0,.int n 0]}).get? b=some o:=λb o e=>Heap.get?_push_of_some _ e
 have j:(s.heap.push {cls:=.type "dict_keyiterator",data:=.fields #[.ref a,.int 0 0,.int g.length 0,.int n 0]}).IsKeyIter s.heap.objs.size a 0 g.length n:=(_,Heap.get?_push_size _ rfl,7,7)
 have l:=H S _ X
 refine wpAny_bind (wpAny_holding (uE (s:={s with heap:=s.heap.push {cls:=.type "dict_keyiterator",data:=.fields #[.ref a,.int 0 0,.int g.length 0,.int n 0]}}) (_,H a _ C,by obtain⟨o,e,c⟩:=V;rw[C]at e;cases e;exact c) ?_))
 refine wpAny_ite_split (λ_=>?_) (λ_=>wpAny_pure (plainId_quiet F.plain_extend_loop _,J _ y _ j (p.at' λo e=>H a o e) (λb o _ e=>H b o e) l));refine wpAny_bind (wpAny_rule ?_);refine wpAny_bind ?_;show wpAny _ _ (updateSeq S (·.push .none) >>= λ_=>updateSeq S (·.pop)) _ _ _;refine wpAny_bind (wpAny_updateSeq l rfl ?_);have t:=Heap.get?_update_self (Obj.mapSeq (·.push Value.none)) l rfl;refine wpAny_updateSeq (hz:=by seq_fits) t rfl ?_;have G:=Heap.get?_update_self (Obj.mapSeq (·.pop)) t rfl
 have B:∀b o,b≠S->(s.heap.push {cls:=.type "dict_keyiterator",data:=.fields #[.ref a,.int 0 0,.int g.length 0,.int n 0]}).get? b=some o->(((s.heap.push {cls:=.type "dict_keyiterator",data:=.fields #[.ref a,.int 0 0,.int g.length 0,.int n 0]}).update S (Obj.mapSeq (·.push Value.none))).update S (Obj.mapSeq (·.pop))).get? b=some o:=
  λb o z e=>(Heap.get?_update_other _ _ (agA z)).trans ((Heap.get?_update_other _ _ (agA z)).trans e)
 exact wpAny_pure (plainId_quiet F.plain_extend_loop _,J _ _ _ (j.at λo e=>B _ o (agA L) e) ((p.at' λo e=>H a o e).at' λo e=>B a o (agA D) e) (λb o z e=>B b o z (H b o e)) G)
theorem mz{g:List (K×Value)}(D:A.handled=none)(S:Addr)(hd:(a==sysModules)=false)(B:s.heap.DictAt knd a g n)(m:S≠a)
  (r:s.heap.get? S=some {cls:=.type "list",data:=.seq #[]})
  (E:∀h' tk c j,(∀b o,b≠S->s.heap.get? b=some o->h'.get? b=some o)->h'.get? S=some {cls:=.type "list",dict:=none,data:=.seq c j,slots:=#[]} ->
   ItemsOf (λi v=>∃k x,g[i]?=some (pq k x)/\knd.is k v=true) c g.length->R (.ok (.ret .none)) {s with heap:=h',toks:=tk})(z:g.length<=sizeLine):
  wpAny (model prog w) A.in1 (Builtin.«list.__init__» ([.ref S,.ref a],[]))
   (λy s'=>match y with | .done f=>R (.ok f) s' | .again j=>j.quiet=true/\codeAny (model prog w) A j R s') (λe s'=>R (.error e) s') s:=by
 show wpAny _ _ (do let t <-Builtin.List.listItems (.ref S);Builtin.List.listUpdate (.ref S) (λ_=>#[]);letGo t.toList.reverse;Builtin.List.listExtendWith (.ref S) (.ref a) .none) _ _ s;refine wpAny_bind ?_;unfold Builtin.List.listItems;refine wpAny_bind (wpAny_seqItems r rfl (wpAny_pure ?_));show wpAny _ _ (updateSeq S (λ_=>#[]) >>= λ_=>letGo (#[]:Array Value).toList.reverse >>= λ_=>Builtin.List.listExtendWith (.ref S) (.ref a) .none) _ _ s;refine wpAny_bind (wpAny_updateSeq r rfl ?_);have h:=Heap.get?_update_self (Obj.mapSeq (λ_=>(#[]:Array Value))) r rfl;have l:∀b o,b≠S->s.heap.get? b=some o->(s.heap.update S (Obj.mapSeq (λ_=>(#[]:Array Value)))).get? b=some o:=
  λb o q e=>(Heap.get?_update_other _ _ (agA q)).trans e
 refine wpAny_bind (wpAny_letGo ?_);refine pP D S .none _ hd (B.at' λo e=>l a o (agA m) e) m h (λh' tk c j C u p=>?_) z;exact E h' tk c j (λb o q e=>C b o q (l b o q e)) u p
end
section
variable{w:World}{K:Type}[DecidableEq K]{knd:KeyKind prog w K}
theorem vL{Q:Value->Shared->Prop}{f:List (K×Value)}(z:A.handled=none)(hd:(a==sysModules)=false)(r:s.heap.DictAt knd a f n)(u:f.length<=sizeLine)
  (B:∀h' tk c m,(∀b o,s.heap.get? b=some o->h'.get? b=some o)->h'.get? s.heap.objs.size=some {cls:=.type "list",dict:=none,data:=.seq c m,slots:=#[]} ->
   ItemsOf (λi v=>∃k x,f[i]?=some (pq k x)/\knd.is k v=true) c f.length->Q (.ref s.heap.objs.size) {s with heap:=h',toks:=tk}):
  wpAny (model prog w) A (call (.type "list") [.ref a]) Q E s:=by
 obtain⟨D,C,p,_⟩:=id r
 refine callType_codes (Q₁:=λh g=>h=.ref s.heap.objs.size/\g={s with heap:=s.heap.push {cls:=.type "list",data:=.seq #[]}}) F.called_list (F.typeCall_list_1 _) F.entry_list_init
  (code_list_new _ (7,7)) λh g j=>?_
 obtain⟨rfl,rfl⟩:=j
 have t:(s.heap.push {cls:=.type "list",data:=.seq #[]}).get? s.heap.objs.size=some {cls:=.type "list",data:=.seq #[]}:=Heap.get?_push_size _ rfl
 refine((_,t,7),F.args_list_init_2 _ _,mz (A:=A.in1) z _ hd (r.at' λo e=>Heap.get?_push_of_some _ e) (ait (Heap.lt_size p)) t (λh' tk c m y q l=>?_) u);exact(7,B h' tk c m (λb o e=>y b o (aaA (Heap.lt_size e)) (Heap.get?_push_of_some _ e)) q l)
end
end PySem
namespace L2
open PySem.Spec PyProof.Rows PySem.W
theorem wR(J:X.calm=true):fZ X (.type "list") (λxs H Q=>∃(d:Addr) (a:List (Key×V)),xs=[.ref d]/\H d=some (.dK a) /\ ∀l,H l=none->Q (.ref l) (upd H l (.lst (a.map λp=>kV p.1)))):=by
 intro π s σ H xs b Q I r h;obtain⟨d,a,rfl,hd,q⟩:=h;obtain⟨u,rfl,B⟩:=vals1 r;cases B;obtain⟨D,F,n,t,dd⟩:=(show bN X.prog X.w H s.heap d (.dK a)from I.hok d _ hd);obtain⟨o,T,U,R,P,O,N,M,L⟩:=id dd;have g:a.length=n.length:=Paired.length t;refine vL (knd:=cY X.prog X.w) (I.ok.hd J) F (show s.heap.DictAt (cY X.prog X.w) d n U from (o,T,R,P,O,N,M,L)) ⋯ λS A e c' G K c=>?_;have E:Vals (a.map λp=>kV p.1) e.toList:=by
  have:∀(f:List (Key×V)) (b:List Value),f.length=b.length->(∀(i:Nat) p u,f[i]?=some p->b[i]?=some u->RelV (kV p.1) u)->Vals (f.map λp=>kV p.1) b:=by
   intro f
   induction f with
   |nil=>
    intro b g _;cases b with
    |nil=>exact .nil
    |cons _ _=>simp at g
   |cons p f C=>
    intro b g y;cases b with
    |nil=>simp at g
    |cons u b=>exact .cons (y 0 p u rfl rfl) (C b (by simpa using g) λi q v m j=>y (i+1) q v m j)
  refine this a e.toList (g.trans (c.1.symm.trans aaf.symm)) λi p u m j=>?_;obtain⟨k,x,Z,Y⟩:=c.2 i u (by rw[<-agh];exact j);obtain⟨q',z,W⟩:=t.get m;rw[Z]at z;cases z;rw[W];exact VL Y
 exact(.ref s.heap.objs.size,_,I.laid (t':=A) G (aae _) (show bN X.prog X.w _ S _ (.lst (a.map λp=>kV p.1))from (by rw[aaa];exact D,e.toList,c',E,K)),7,q _ (I.hok.fresh (aae _)))
inductive HJ(x:V)(xs:List V)(H:Hp)(Q:VK):Prop
 | mk (z y:Str) (i:Nat) (rest:List Nat) (_:x=.str z) (_:xs=[.str y]) (_:Builtin.Str.occurrences z y 0 z.length 1=i::rest) (_:Q (.int (i:Int)) H)
theorem JX:MtR X "str.index" HJ:=by
 intro g s f H x j v k Q I b c h;obtain⟨z,y,i,rest,rfl,rfl,e,q⟩:=h;obtain⟨t,rfl⟩:=b;obtain⟨u,rfl,d⟩:=vals1 c;obtain⟨a,rfl⟩:=d;exact call_gives F.slot_str_index (typeIs_str _ _ _) F.entry_str_index (F.args_str_index_2 _ _) (gives_str_index z y t a i rest e) (.int (i:Int),H,I.tok _,(_,7),q)
end L2
namespace Tw
def Xw(a b:Str):Prop:=a.cps.toList<b.cps.toList
theorem dJ{a b:Str}(h:a.cps.toList=b.cps.toList):a=b:=by
 cases a;cases b;congr 1;exact Array.toList_inj.mp h
theorem Ud{a b:Str}(h:¬b.cps.toList<a.cps.toList)(e:a≠b):Xw a b:=by
 rcases List.le_total (a.cps.toList) (b.cps.toList)with c|c
 ·by_cases d:a.cps.toList<b.cps.toList
  ·exact d
  ·exact absurd (dJ (ajm (ajp.mp h) (ajp.mp d))) e
 ·exact absurd (dJ (ajm (ajp.mp h) c)) e
theorem cV(a:Str):¬Xw a a:=aiX _
theorem jO{a b c:Str}(h:Xw a b)(h':Xw b c):Xw a c:=ajE h h'
theorem vP(h:Za N)(c:N.Nodup):N.Pairwise Xw:=List.Pairwise.imp₂ (λa b e d=>Ud e d) h c
theorem rZ:∀{l g:List Str},l.Pairwise Xw->g.Pairwise Xw->(∀z,z∈l ↔ z∈g)->l=g
 |[],[],_,_,_=>rfl
 |[],b::j,_,_,h=>absurd ((h b).mpr aal) agV
 |a::r,[],_,_,h=>absurd ((h a).mp aal) agV
 |a::r,b::j,p,k,h=>by
  have f:=aho.mp p;have d:=aho.mp k;have e:a=b:=by
   rcases aav.mp ((h a).mp aal)with e|e
   ·exact e
   ·rcases aav.mp ((h b).mpr aal)with i|i
    ·exact i.symm
    ·exact absurd (jO (d.1 a e) (f.1 b i)) (cV _)
  subst e;rw[rZ f.2 d.2 λz=>?_];constructor
  ·intro c;rcases aav.mp ((h z).mp (aai _ c))with e|e
   ·exact absurd (e ▸ f.1 z c) (cV _)
   ·exact e
  ·intro c;rcases aav.mp ((h z).mpr (aai _ c))with e|e
   ·exact absurd (e ▸ d.1 z c) (cV _)
   ·exact e
def beg(w:Str)(k:Nat):Str:=⟨(w.cps.toList.take k).toArray⟩
theorem bu(w:Str)(k:Nat):(beg w k).cps.toList=w.cps.toList.take k:=by
 unfold beg;exact aio
theorem jW(w:Str)(k:Nat):(beg w k).length=min k w.length:=by
 show (beg w k).cps.size=min k w.cps.size;rw[<-aaf,bu,aaq,aaf]
theorem Qe(w:Str){j k:Nat}(h:j<=k):beg (beg w k) j=beg w j:=dJ (by rw[bu,bu,bu,ahq,ags h])
theorem qQ(w:Str){k:Nat}(h:w.length<=k):beg w k=w:=dJ (by rw[bu,aaj (by rw[aaf];exact h)])
theorem uK(w:Str)(k:Nat):qz w none (some (k:Int))=beg w k:=by
 refine dJ ?_;rw[bu];unfold qz;rw[aio,HT.p7,agL,aia,HT.iy];rcases aid k w.length with c|c
 ·rw[ags c]
 ·rw[aha c,aaj (by rw[aaf];exact aae _),aaj (by rw[aaf];exact c)]
theorem tV:∀{p u:List Nat}{c:Nat},¬u<p->u<p++[c]->p.length<=u.length
 |[],_,_,_,_=>af3 _
 |a::p,[],c,h,_=>absurd (aii a p) h
 |a::p,b::u,c,h,d=>by
  rw[agM,ag2]at d;rw[ag2]at h;have e:b=a/\u<p++[c]:=by
   rcases d with d | d
   ·exact absurd (.inl d) h
   ·exact d
  have:=tV (λz=>h (.inr (e.1,z))) e.2;rw[aao,aao];lia
structure gP(ws ts:List Str):Prop where
 up:ts.Pairwise Xw
 mem:∀t,t∈ts ↔ t=⟨#[]⟩ \/ ∃w∈ws,∃k:Nat,t=beg w k
theorem gP.uniq{ws :List Str}(h:gP ws N)(h':gP ws ps):N=ps:=rZ h.up h'.up λt=>(h.mem t).trans (h'.mem t).symm
theorem gP.pre{ws :List Str}(h:gP ws N){t:Str}(ht:t∈N)(k:Nat):beg t k∈N:=by
 rcases(h.mem t).mp ht with e|⟨w,a,j,e⟩
 ·refine(h.mem _).mpr (.inl ?_);rw[e];refine dJ ?_;rw[bu];exact aik
 ·rcases aid k j with c|c
  ·exact(h.mem _).mpr (.inr (w,a,k,by rw[e,Qe w c]))
  ·refine(h.mem _).mpr (.inr (w,a,j,2));rw[e];refine qQ _ ?_;rw[jW];lia
theorem gP.zero{ws :List Str}(h:gP ws N):N[0]?=some ⟨#[]⟩:=by
 have b:=(h.mem ⟨#[]⟩).mpr (.inl rfl);cases N with
 |nil=>exact absurd b agV
 |cons a r=>
  rcases aav.mp b with e|e
  ·rw[e];rfl
  ·have c:=(aho.mp h.up).1 _ e;unfold Xw at c;exact absurd c (aiS _)
theorem gP.good{ws :List Str}(h:gP ws N):bW (N.map λt=>(t.length:Int)):=by
 refine(by rw[aak,h.zero];rfl,λi x y w v=>?_);rw[aak]at w v;obtain⟨u,E,rfl⟩:=agp.mp w;obtain⟨t,ht,rfl⟩:=agp.mp v;obtain⟨A,o⟩:=aad.mp E;obtain⟨hi1,q⟩:=aad.mp ht;have b:Xw u t:=by
  rw[<-o,<-q];exact agf.mp h.up i (i+1) A hi1 (ahb _)
 have G:t.length≠0:=λe=>by
  have:t.cps.toList=[]:=ah2.mp (by rw[aaf];exact e);unfold Xw at b;rw[this]at b;exact absurd b (aiS _)
 refine(6,2);have F:=h.pre (aaw ht) (t.length-1);obtain⟨j,H⟩:=agO F;obtain⟨l,f⟩:=aad.mp H;have d:t.cps.toList.length=t.length:=aaf;obtain⟨c,B⟩:∃c,t.cps.toList=(beg t (t.length-1)).cps.toList++[c]:=by
  rw[bu];have k:t.cps.toList≠[]:=λe=>G (by rw[<-d,e];rfl);exists t.cps.toList.getLast k;rw[show t.length-1=t.cps.toList.length-1 by rw[d],<-aiT];exact(ahd k).symm
 have s:Xw (beg t (t.length-1)) t:=by
  unfold Xw;rw[B];have:∀(p:List Nat) (c:Nat),p<p++[c]:=λp c=>by
   induction p with
   |nil=>exact aii c []
   |cons a r D=>
    rw[agM,ag2];exact .inr (7,D)
  exact this _ _
 have I:j<=i:=by
  rcases agc i j with g|g
  ·rcases agc (i+1) j with C|C
   ·have:=agf.mp h.up (i+1) j hi1 l C;rw[q,f]at this;exact absurd (jO this s) (cV _)
   ·have e:j=i+1:=by lia
    subst e;rw[q]at f;rw[<-f]at s;exact absurd s (cV _)
  ·exact g
 have m:¬u.cps.toList<(beg t (t.length-1)).cps.toList:=λz=>by
  rcases agc j i with g|g
  ·have:=agf.mp h.up j i l A g;rw[f,o]at this;exact absurd (jO this z) (cV _)
  ·have e:j=i:=by lia
   subst e;rw[o]at f;rw[f]at z;exact absurd z (aiX _)
 have n:=tV m (by rw[<-B];exact b);rw[bu,aaq,d,aaf]at n;have:u.cps.size=u.length:=rfl;lia
def lcp:List Nat->List Nat->Nat
 |a::u,b::v=>if a=b then lcp u v+1 else 0
 |_,_=>0
def fresh(u w:Str):List Str:=(aga (w.length-lcp u.cps.toList w.cps.toList)).map λi=>beg w (lcp u.cps.toList w.cps.toList+i+1)
theorem gP.perm{ws :List Str}(h:gP ws ps)(e:∀x,x∈ws ↔ x∈N):gP N ps:=(h.up,λt=>by
 rw[h.mem];constructor
 ·rintro(z|⟨w,a,z⟩)
  ·exact .inl z
  ·exact .inr (w,(e w).mp a,z)
 ·rintro(z|⟨w,a,z⟩)
  ·exact .inl z
  ·exact .inr (w,(e w).mpr a,z))
theorem Aq(x:List Nat):¬x<x:=aiX x
theorem Ls:∀(p:List Nat) {x y:List Nat},p++x<p++y ↔ x<y
 |[],_,_=>Iff.rfl
 |a::p,x,y=>by
  rw[agM,agM,ag2,Ls p];constructor
  ·rintro(h|⟨_,h⟩)
   ·exact absurd h (agB _)
   ·exact h
  ·exact λh=>.inr (7,h)
theorem Rn(p:List Nat)(c:Nat)(s:List Nat):p<p++c::s:=by
 have:=(Ls p (x:=[]) (y:=c::s)).mpr (aii c s);rw[agr]at this;exact this
theorem uV:∀{p x s:List Nat},¬x<p -> ¬p++s<x->x.take p.length=p
 |[],x,s,_,_=>by simp
 |a::p,[],s,h,_=>absurd (aii a p) h
 |a::p,b::x,s,h,c=>by
  rw[agM,ag2]at c;rw[ag2]at h;have e:a=b:=by
   rcases ah7 a b with z|z|z
   ·exact absurd (.inl z) c
   ·exact z
   ·exact absurd (.inl z) h
  subst e;rw[aao,ahi,uV (λz=>h (.inr (7,z))) (λz=>c (.inr (7,z)))]
theorem RM(x:List Nat)(k:Nat):¬x<x.take k:=λh=>by
 have e:=agJ k x;cases q:x.drop k with
 |nil=>
  rw[q,agr]at e;rw[e]at h;exact Aq _ h
 |cons c s=>
  rw[q]at e;have:=Rn (x.take k) c s;rw[e]at this;exact Aq _ (ajE this h)
structure PC(L:List (List Nat)):Prop where
 up:L.Pairwise (· < ·)
 pre:∀t∈L,∀k,t.take k∈L
def top(i:Nat):Stmt:=PySem.Challenge.pw_thinwood_k89_whole_octets.main.body.getD i (.Pass (0,0,0,0))
abbrev vY:Stmt:=top 13
theorem Ln:aF ["bits"] ["bits"] (δ vY):=Wr
abbrev mQ:Stmt:=top 14
theorem qi:aF ["bits","bit"] ["bits"] (δ mQ):=Wr
abbrev pA:Stmt:=top 15
theorem jr:aF ["bits","block","bit"] ["bits"] (δ pA):=Wr
abbrev oW:Stmt:=top 16
theorem mC:aF ["blocks","many","bits","block"] ["blocks","many"] (δ oW):=Wr
abbrev vz:Stmt:=top 17
theorem Lh:aF ["block","k"] ["block","k"] (δ vz):=Wr
abbrev sV:Stmt:=top 18
theorem Hd:aF ["block","upto"] ["block","upto"] (δ sV):=Wr
abbrev tG:Stmt:=top 19
theorem Ge:aF ["block","upto"] ["block","upto"] (δ tG):=Wr
abbrev tD:Stmt:=top 20
theorem jd:aF ["block","upto","nets","net","bit"] ["block","upto"] (δ tD):=Wr
abbrev uX:Stmt:=top 21
theorem K8:aF ["block","upto"] ["block","upto"] (δ uX):=Wr
abbrev eQ:Stmt:=top 22
theorem pC:aF ["blocks","kept","look"] ["blocks"] (δ eQ):=Wr
abbrev m6:Stmt:=top 24
theorem fV:aF ["number","many","octets","rest","k"] ["number","many"] (δ m6):=Wr
abbrev mG:Stmt:=top 25
theorem iw:aF ["octets","number","octet"] ["octets"] (δ mG):=Wr
abbrev pB:Stmt:=top 27
theorem tZ:aF ["bits","blocks"] ["bits"] (δ pB):=Wr
abbrev pD:Stmt:=top 28
theorem mJ:aF ["blocks","ahead","block"] ["blocks"] (δ pD):=Wr
abbrev rO:Stmt:=top 31
theorem j6:aF ["numbers","size","nodes","node"] ["numbers"] (δ rO):=Wr
abbrev sU:Stmt:=top 32
theorem pG:aF ["many","size"] ["many"] (δ sU):=Wr
abbrev nj:Stmt:=top 33
theorem Ay:aF ["one","other"] ["one","other"] (δ nj):=Wr
abbrev rH:Stmt:=top 35
theorem jg:aF ["bits","level","at","bit"] ["bits"] (δ rH):=Wr
abbrev gB:Stmt:=top 36
theorem qT:aF ["bits"] ["bits"] (δ gB):=Wr
abbrev gZ:Stmt:=top 37
theorem cZ:aF ["bits","row","tables","blocks","lows"] ["bits"] (δ gZ):=Wr
abbrev wQ:Stmt:=top 38
theorem Kc:aF ["tables","number","block"] ["tables","number","block"] (δ wQ):=Wr
abbrev q9:Stmt:=top 39
theorem Hl:aF ["tables","number"] ["tables","number"] (δ q9):=Wr
abbrev kj:Stmt:=top 40
theorem yo:aF ["number","upto"] ["number","upto"] (δ kj):=Wr
abbrev jc:Stmt:=top 43
theorem il:aF ["depths","ahead","depth"] ["depths"] (δ jc):=Wr
abbrev jH:Stmt:=top 44
theorem dU:aF ["depths","bits","unclosed","depth"] ["depths"] (δ jH):=Wr
abbrev nQ:Stmt:=top 45
theorem fY:aF ["bits","depths","unclosed","bit"] ["bits"] (δ nQ):=Wr
abbrev mY:Stmt:=top 46
theorem zU:aF ["depths"] ["depths"] (δ mY):=Wr
abbrev jG:Stmt:=top 49
theorem mO:aF ["signs","sign"] ["signs"] (δ jG):=Wr
abbrev j4:Stmt:=top 50
theorem dD:aF ["signs","kinds","aheads","blocks","bits","row"] ["signs"] (δ j4):=Wr
abbrev jF:Stmt:=top 51
theorem fU:aF ["kinds","signs","ranks","rank","kind"] ["kinds","signs"] (δ jF):=Wr
abbrev jN:Stmt:=top 52
theorem vU:aF ["kind_count"] ["kind_count"] (δ jN):=Wr
abbrev jX:Stmt:=top 53
theorem dB:aF ["ranks","kind_count","rows","order","k","bits"] ["ranks","kind_count"] (δ jX):=Wr
abbrev v4:Stmt:=top 54
theorem sO:aF ["order","bits","noughts","ones"] ["order","bits"] (δ v4):=Wr
abbrev o8:Stmt:=top 55
theorem dX:aF ["rows","many","ranks","order","bits","at","bit"] ["rows","many"] (δ o8):=Wr
abbrev jy:Stmt:=top 59
theorem iY:aF ["words","word","letter"] ["words"] (δ jy):=Wr
abbrev ie:Stmt:=top 60
theorem gD:aF ["words","texts","word"] ["words"] (δ ie):=Wr
abbrev oO:Stmt:=top 61
theorem dW:aF ["words","texts","depths","letters","whole","word","ends"] ["words"] (δ oO):=Wr
abbrev pH:Stmt:=top 62
theorem jj:aF ["depths","letters","ends","texts","depth","letter"] ["depths","letters","ends"] (δ pH):=Wr
abbrev lB:Stmt:=top 63
theorem xN:aF ["ahead","depth","letter"] ["ahead","depth","letter"] (δ lB):=Wr
abbrev gw:Stmt:=top 72
theorem fQ:aF ["numbers","size","octets","number"] ["numbers","size"] (δ gw):=Wr
abbrev jw:Stmt:=top 73
theorem vN:aF ["blocks","ahead"] ["blocks","ahead"] (δ jw):=Wr
abbrev j8:Stmt:=top 74
theorem oK:aF ["bits","kept"] ["bits"] (δ j8):=Wr
abbrev jB:Stmt:=top 75
theorem cM:aF ["depths","kept","tables","blocks","first","lows","count"] ["depths"] (δ jB):=Wr
abbrev iZ:Stmt:=top 76
theorem b8:aF ["signs","kept","kinds","octets","first","ahead","behind"] ["signs"] (δ iZ):=Wr
abbrev je:Stmt:=top 77
theorem lM:aF ["words","parts"] ["words"] (δ je):=Wr
abbrev pI:Stmt:=top 78
theorem BX:aF ["octets"] ["octets"] (δ pI):=Wr
abbrev nR:Stmt:=top 79
theorem Bo:aF ["octets"] ["octets"] (δ nR):=Wr
abbrev kY:Stmt:=top 80
theorem yc:aF ["octets"] ["octets"] (δ kY):=Wr
abbrev kW:Stmt:=top 81
theorem xf:aF ["octets"] ["octets"] (δ kW):=Wr
abbrev jz:Stmt:=top 82
theorem lW:aF ["octets","kept"] ["octets"] (δ jz):=Wr
abbrev rP:Stmt:=top 83
theorem oU:aF ["octets","tell","write","told","again"] ["octets","tell","write"] (δ rP):=Wr
abbrev iV:Stmt:=top 84
theorem lO:aF ["octets","octet"] ["octets"] (δ iV):=Wr
abbrev lX:Stmt:=top 85
theorem z6:aF ["octets","at","size"] ["octets","at","size"] (δ lX):=Wr
abbrev j0:Stmt:=top 86
theorem xY:aF ["octets","at","size","many"] ["octets","at","size","many"] (δ j0):=Wr
abbrev jx:Stmt:=top 87
theorem vW:aF ["many"] ["many"] (δ jx):=Wr
abbrev sZ:Stmt:=top 88
theorem GF:aF ["octets","at","many"] ["octets","at","many"] (δ sZ):=Wr
abbrev nD:Stmt:=top 89
theorem zE:aF ["octets"] ["octets"] (δ nD):=Wr
abbrev jC:Stmt:=top 90
theorem vZ:aF ["octets"] ["octets"] (δ jC):=Wr
abbrev lD:Stmt:=top 91
theorem cB:aF ["octets","counts","many","at","kinds","rows","level"] ["octets"] (δ lD):=Wr
abbrev sG:Stmt:=top 92
theorem Fd:aF ["kinds","rank"] ["kinds","rank"] (δ sG):=Wr
abbrev jY:Stmt:=top 93
theorem fG:aF ["octets","depths","behind_tree","letters","ends"] ["octets"] (δ jY):=Wr
abbrev jM:Stmt:=top 95
theorem wj:aF ["_law_script","_law_k"] ["_law_script","_law_k"] (δ jM):=Wr
abbrev mK:Stmt:=top 96
theorem zG:aF ["_law_found"] ["_law_found"] (δ mK):=Wr
abbrev o4:Stmt:=top 97
theorem eG:aF ["_law_script","_law_bits_here","_law_cell","_law_number","_law_piece","_law_k"] ["_law_script"] (δ o4):=Wr
abbrev lE:Stmt:=top 98
theorem bT:aF ["_law_script","_law_depths_here","_law_cell","_law_number","_law_up","_law_k","_law_deep"] ["_law_script"] (δ lE):=Wr
abbrev mW:Stmt:=top 99
theorem cR:aF ["_law_script","_law_signs_here","_law_cell","_law_number","_law_k","_law_sign"] ["_law_script"] (δ mW):=Wr
abbrev m9:Stmt:=top 100
theorem cJ:aF ["_law_script","_law_letters","_law_words_here","_law_word","_law_cell","_law_number","_law_k"] ["_law_script"] (δ m9):=Wr
abbrev nF:Stmt:=top 101
theorem Bf:aF ["_law_way","_law_script"] ["_law_way","_law_script"] (δ nF):=Wr
abbrev ju:Stmt:=top 102
theorem vg:aF ["_law_way","_law_thing_here"] ["_law_way","_law_thing_here"] (δ ju):=Wr
abbrev o6:Stmt:=top 103
theorem Ck:aF ["_law_way","_law_octets"] ["_law_way","_law_octets"] (δ o6):=Wr
abbrev o7:Stmt:=top 104
theorem fM:aF ["_law_way","_law_octets","_law_told_here","_law_found","e"] ["_law_way","_law_octets"] (δ o7):=Wr
abbrev pF:Stmt:=top 105
theorem tR:aF ["_law_way","_law_octets","_law_found"] ["_law_way","_law_octets"] (δ pF):=Wr
abbrev o9:Stmt:=top 106
theorem lY:aF ["_law_way","_law_octets","_law_thing_here","_law_handed","_law_found"] ["_law_way","_law_octets","_law_thing_here"] (δ o9):=Wr
abbrev Lz:Stmt:=top 107
theorem gq:aF ["_law_script","_law_way","_law_thing_here","_law_handed","_law_octets","_law_other","_law_short","_law_cell","_law_at","_law_turned","_law_first"] ["_law_script"] (δ Lz):=Wr
abbrev gJ:Stmt:=(μ eQ).getD 1 (.Pass (0,0,0,0))
abbrev iW:xF:=U0 gJ "look_of.<locals>.look" ["number"] ["kept"]
theorem Gx:TV ["blocks","kept","look"] "look_of" (δ eQ) iW 2 [1] (λL=>[L+1]):=(pC.nd,7,by decide +kernel,λ_ _ _=>rfl,λ_ _ _=>rfl,7,7,λ_ _ _=>rfl,λL=>by simp,λ_=>rfl,λL f c j a h=>match j,h with|0,h=>("kept",(1),by cases h;rfl,by decide +kernel,7,7,4)|j+1,h=>absurd h (by simp),4,4)
structure FI(K:PySem.W.Frag)(n:Str)(st:Stmt)(f:Addr)(fd:FuncData):Prop where
 a:PySem.W.nsIn K mainGlobals n=some (!!!f)
 F:Xx K n n st f fd
theorem Sh{C:List G->Prop}{a:List G}(c:a.length=1)(h:∀b,C [b]):C a:=match a,c with | [_],_=>h _
theorem Wx{K:PySem.W.Frag}{mg:Str->Option Value}{n :Str}{st:Stmt}{f:Addr}(X:K.In base)(G:base.Ns mainGlobals mg)(d:FI K n st f fd)(b:∀(kV c i:Value) (k:Option Addr) (e j:Value) (l:Value),bindArgs (PySem.W.fnOf n n (ν st) (μ st) (δ st) .none kV c i k e j) ([l],[])=pure (aiw [x] [l]):=by intros;exact rfl):Df K mg n st [x] f fd:=(d.F,d.F.binds (ps:=[x]) λkV c i k e j g m=>Sh (C:=λg=>bindArgs _ (g,[])=pure (aiw ([x]:List Str) g)) m (b kV c i k e j),PySem.W.mg_of X G d.a)
theorem U8{C:List G->Prop}{a:List G}(d:a.length=2)(h:∀c b,C [c,b]):C a:=match a,d with | [_,_],_=>h _ _
theorem W8{K:PySem.W.Frag}{mg:Str->Option Value}{n :Str}{st:Stmt}{f:Addr}(X:K.In base)(G:base.Ns mainGlobals mg)(d:FI K n st f fd)(b:∀(kV c i:Value) (k:Option Addr) (e j:Value) (m l:Value),bindArgs (PySem.W.fnOf n n (ν st) (μ st) (δ st) .none kV c i k e j) ([m,l],[])=pure (aiw [x,qual] [m,l]):=by intros;exact rfl):Df K mg n st [x,qual] f fd:=(d.F,d.F.binds (ps:=[x,qual]) λkV c i k e j g o=>U8 (C:=λg=>bindArgs _ (g,[])=pure (aiw ([x,qual]:List Str) g)) o (b kV c i k e j),PySem.W.mg_of X G d.a)
theorem U6{C:List G->Prop}{a:List G}(e:a.length=3)(h:∀d c b,C [d,c,b]):C a:=match a,e with | [_,_,_],_=>h _ _ _
theorem Zu{K:PySem.W.Frag}{mg:Str->Option Value}{n g:Str}{st:Stmt}{f:Addr}(X:K.In base)(G:base.Ns mainGlobals mg)(d:FI K n st f fd)(b:∀(kV c j:Value) (l:Option Addr) (e k:Value) (p o m:Value),bindArgs (PySem.W.fnOf n n (ν st) (μ st) (δ st) .none kV c j l e k) ([p,o,m],[])=pure (aiw [x,qual,g] [p,o,m]):=by intros;exact rfl):Df K mg n st [x,qual,g] f fd:=(d.F,d.F.binds (ps:=[x,qual,g]) λkV c j l e k i q=>U6 (C:=λi=>bindArgs _ (i,[])=pure (aiw ([x,qual,g]:List Str) i)) q (b kV c j l e k),PySem.W.mg_of X G d.a)
theorem Vi{C:List G->Prop}{a:List G}(f:a.length=4)(h:∀e d c b,C [e,d,c,b]):C a:=match a,f with | [_,_,_,_],_=>h _ _ _ _
theorem df4{K:PySem.W.Frag}{mg:Str->Option Value}{n i g:Str}{st:Stmt}{f:Addr}(X:K.In base)(G:base.Ns mainGlobals mg)(d:FI K n st f fd)(b:∀(kV c k:Value) (m:Option Addr) (e l:Value) (r q p o:Value),bindArgs (PySem.W.fnOf n n (ν st) (μ st) (δ st) .none kV c k m e l) ([r,q,p,o],[])=pure (aiw [x,qual,i,g] [r,q,p,o]):=by intros;exact rfl):Df K mg n st [x,qual,i,g] f fd:=(d.F,d.F.binds (ps:=[x,qual,i,g]) λkV c k m e l j s=>Vi (C:=λj=>bindArgs _ (j,[])=pure (aiw ([x,qual,i,g]:List Str) j)) s (b kV c k m e l),PySem.W.mg_of X G d.a)
set_option genInjectivity false in
set_option genSizeOf false in
structure Ad where
 Zb:Addr
 W9:Addr
 afk:Addr
 aeK:FuncData
 adm:Addr
 acP:FuncData
 ad4:Addr
 adn:FuncData
 ad5:Addr
 ado:FuncData
 afl:Addr
 aeL:FuncData
 aeM:Addr
 ad6:FuncData
 aeN:Addr
 ad7:FuncData
 aeO:Addr
 ad8:FuncData
 afm:Addr
 aeP:FuncData
 aeQ:Addr
 acI:FuncData
 adp:Addr
 acQ:FuncData
 adq:Addr
 acR:FuncData
 ad9:Addr
 adt:FuncData
 aea:Addr
 adu:FuncData
 aeR:Addr
 aeb:FuncData
 aeS:Addr
 aec:FuncData
 adw:Addr
 acS:FuncData
 aeT:Addr
 aed:FuncData
 abi:Addr
 aaZ:FuncData
 abm:Addr
 abj:FuncData
 afn:Addr
 aeU:FuncData
 aeV:Addr
 aee:FuncData
 acT:Addr
 acd:FuncData
 abN:Addr
 abn:FuncData
 ace:Addr
 abO:FuncData
 adx:Addr
 acU:FuncData
 ady:Addr
 acV:FuncData
 acf:Addr
 abP:FuncData
 acW:Addr
 acg:FuncData
 ach:Addr
 abQ:FuncData
 aci:Addr
 abR:FuncData
 acX:Addr
 acj:FuncData
 afo:Addr
 aeW:FuncData
 aef:Addr
 adz:FuncData
 ack:Addr
 abS:FuncData
 abo:Addr
 abk:FuncData
 aeg:Addr
 adA:FuncData
 aeh:Addr
 adB:FuncData
 acY:Addr
 acl:FuncData
 abl:Addr
 aa0:FuncData
 acn:Addr
 abT:FuncData
 aaO:Addr
 aco:FuncData
 aaI:Addr
 abU:FuncData
 aaD:Addr
 abp:FuncData
 aaE:Addr
 abq:FuncData
 aei:Addr
 adC:FuncData
 adD:Addr
 acZ:FuncData
 ac0:Addr
 acp:FuncData
 ac1:Addr
 acq:FuncData
 acr:Addr
 abV:FuncData
 aeX:Addr
 aej:FuncData
 abW:Addr
 abr:FuncData
 adE:Addr
 ac2:FuncData
 ac3:Addr
 acs:FuncData
 acu:Addr
 abX:FuncData
 aeY:Addr
 aek:FuncData
 aa2:Addr
 ac4:FuncData
 aaJ:Addr
 abY:FuncData
 aaP:Addr
 acv:FuncData
 aeZ:Addr
 ael:FuncData
 aaQ:Addr
 acw:FuncData
 acx:Addr
 abZ:FuncData
 adF:Addr
 ac5:FuncData
 aem:Addr
 adG:FuncData
 ac6:Addr
 acy:FuncData
 adH:Addr
 ac7:FuncData
 adI:Addr
 ac8:FuncData
 adJ:Addr
 ac9:FuncData
 acz:Addr
 ab0:FuncData
 aen:Addr
 adK:FuncData
 aeo:Addr
 adL:FuncData
 aep:Addr
 adM:FuncData
 aeq:Addr
 adN:FuncData
 afQ:Addr
 afC:FuncData
 t_BLOCK_BITS:Tok
 t_BLOCK_OCTETS:Tok
 t_COUNT_OCTETS:Tok
 t_KIND_OCTETS:Tok
 t_LETTERS:Tok
 t_MOST_BITS:Tok
 t_MOST_LETTERS:Tok
 t_MOST_NODES:Tok
 t_MOST_NUMBERS:Tok
 t_MOST_SIGNS:Tok
 t_ROW:Tok
 t_SIGNS:Tok
 t_STORE:Tok
 t_TREE:Tok
 Yn:Addr
 Wy:Addr
 X7:Addr
 Yi:Addr
 Xz:Addr
 Xk:Addr
 YG:Addr
 W5:Addr
structure Tx(K:PySem.W.Frag)(mg:Str->Option Value)(a:Ad):Prop where
 afp:Df K mg "packed" vY ["bits"] a.afk a.aeK
 ab3:Df K mg "check_row" mQ ["bits"] a.adm a.acP
 aer:Df K mg "block_of" pA ["bits"] a.ad4 a.adn
 aes:Df K mg "unpacked" oW ["blocks","many"] a.ad5 a.ado
 aeB:Df K mg "bit_in" vz ["block","k"] a.afl a.aeL
 acA:Df K mg "bits_of" sV ["block","upto"] a.aeM a.ad6
 ae0:Df K mg "ones_in" tG ["block","upto"] a.aeN a.ad7
 ae1:Df K mg "nets_of" tD ["block","upto"] a.aeO a.ad8
 afq:Df K mg "low_in" uX ["block","upto"] a.afm a.aeP
 ae2:Df K mg "look_of" eQ ["blocks"] a.aeQ a.acI
 aa3:Df K mg "octets_of" m6 ["number","many"] a.adp a.acQ
 adO:Df K mg "number_of" mG ["octets"] a.adq a.acR
 abK:Df K mg "kept_row" pB ["bits"] a.ad9 a.adt
 aet:Df K mg "ahead_of" pD ["blocks"] a.aea a.adu
 ae3:Df K mg "heap_of" rO ["numbers"] a.aeR a.aeb
 adP:Df K mg "size_of" sU ["many"] a.aeS a.aec
 adQ:Df K mg "lesser_of" nj ["one","other"] a.adw a.acS
 ae4:Df K mg "is_tree" rH ["bits"] a.aeT a.aed
 aaH:Df K mg "check_brackets" gB ["bits"] a.abi a.aaZ
 abt:Df K mg "kept_brackets" gZ ["bits"] a.abm a.abj
 afr:Df K mg "low_of" wQ ["tables","number","block"] a.afn a.aeU
 ae5:Df K mg "base_of" q9 ["tables","number"] a.aeV a.aee
 ada:Df K mg "end_within" kj ["number","upto"] a.acT a.acd
 ab1:Df K mg "check_depths" jc ["depths"] a.abN a.abn
 acB:Df K mg "brackets_of" jH ["depths"] a.ace a.abO
 adR:Df K mg "depths_of" nQ ["bits"] a.adx a.acU
 ab4:Df K mg "kept_tree" mY ["depths"] a.ady a.acV
 acC:Df K mg "check_signs" jG ["signs"] a.acf a.abP
 adb:Df K mg "kept_signs" j4 ["signs"] a.acW a.acg
 acD:Df K mg "ranks_among" jF ["kinds","signs"] a.ach a.abQ
 aa4:Df K mg "level_count" jN ["kind_count"] a.aci a.abR
 adc:Df K mg "level_rows" jX ["ranks","kind_count"] a.acX a.acj
 aeC:Df K mg "parted" v4 ["order","bits"] a.afo a.aeW
 aeu:Df K mg "ranks_of" o8 ["rows","many"] a.aef a.adz
 acE:Df K mg "check_words" jy ["words"] a.ack a.abS
 abu:Df K mg "beginnings_of" ie ["words"] a.abo a.abk
 aev:Df K mg "parts_of" oO ["words"] a.aeg a.adA
 aew:Df K mg "words_of" pH ["depths","letters","ends"] a.aeh a.adB
 ade:Df K mg "text_below" lB ["ahead","depth","letter"] a.acY a.acl
 ZS:Df K mg "numbers_octets" gw ["numbers","size"] a.abl a.aa0
 aaK:Df K mg "bits_octets" jw ["blocks","ahead"] a.acn a.abT
 ZV:Df K mg "row_octets" j8 ["bits"] a.aaO a.aco
 Zv:Df K mg "tree_octets" jB ["depths"] a.aaI a.abU
 Zw:Df K mg "signs_octets" iZ ["signs"] a.aaD a.abp
 aay:Df K mg "store_octets" je ["words"] a.aaE a.abq
 aex:Df K mg "read_row" pI ["octets"] a.aei a.adC
 ab5:Df K mg "read_tree" nR ["octets"] a.adD a.acZ
 adf:Df K mg "read_signs" kY ["octets"] a.ac0 a.acp
 adg:Df K mg "read_store" kW ["octets"] a.ac1 a.acq
 acF:Df K mg "opened_tree" jz ["octets"] a.acr a.abV
 abv:Df K mg "read_as" rP ["octets","tell","write"] a.aeX a.aej
 ab2:Df K mg "check_octets" iV ["octets"] a.abW a.abr
 ab6:Df K mg "number_at" lX ["octets","at","size"] a.adE a.ac2
 aaR:Df K mg "numbers_at" j0 ["octets","at","size","many"] a.ac3 a.acs
 aaL:Df K mg "block_total" jx ["many"] a.acu a.abX
 adS:Df K mg "bits_at" sZ ["octets","at","many"] a.aeY a.aek
 ZW:Df K mg "told_bits" nD ["octets"] a.aa2 a.ac4
 aaB:Df K mg "told_depths" jC ["octets"] a.aaJ a.abY
 aaF:Df K mg "told_signs" lD ["octets"] a.aaP a.acv
 ae6:Df K mg "kind_of" sG ["kinds","rank"] a.aeZ a.ael
 aaS:Df K mg "told_words" jY ["octets"] a.aaQ a.acw
 aa5:Df K mg "_law_cell_at" jM ["_law_script","_law_k"] a.acx a.abZ
 adT:Df K mg "_law_whole" mK ["_law_found"] a.adF a.ac5
 aey:Df K mg "_law_bits" o4 ["_law_script"] a.aem a.adG
 adh:Df K mg "_law_depths" lE ["_law_script"] a.ac6 a.acy
 adU:Df K mg "_law_signs" mW ["_law_script"] a.adH a.ac7
 adV:Df K mg "_law_words" m9 ["_law_script"] a.adI a.ac8
 adW:Df K mg "_law_thing" nF ["_law_way","_law_script"] a.adJ a.ac9
 aa6:Df K mg "_law_written" ju ["_law_way","_law_thing_here"] a.acz a.ab0
 aez:Df K mg "_law_read" o6 ["_law_way","_law_octets"] a.aen a.adK
 YX:Df K mg "_law_told" o7 ["_law_way","_law_octets"] a.aeo a.adL
 acJ:Df K mg "_law_some" pF ["_law_way","_law_octets"] a.aep a.adM
 abL:Df K mg "_law_good" o9 ["_law_way","_law_octets","_law_thing_here"] a.aeq a.adN
 afX:Df K mg "law" Lz ["_law_script"] a.afQ a.afC
 ae7:mg "ValueError" = none
 afR:mg "bool" = none
 ab7:mg "enumerate" = none
 afY:mg "int" = none
 YZ:mg "isinstance" = none
 WF:mg "len" = none
 X8:mg "list" = none
 afz:mg "min" = none
 XD:mg "range" = none
 aeA:mg "reversed" = none
 afD:mg "set" = none
 aeD:mg "sorted" = none
 afZ:mg "sum" = none
 adX:mg "tuple" = none
 ZX:mg "zip" = none
 YS:mg "BLOCK_BITS" = some (.int 32 a.t_BLOCK_BITS)
 aaU:mg "BLOCK_OCTETS" = some (.int 4 a.t_BLOCK_OCTETS)
 YT:mg "COUNT_OCTETS" = some (.int 2 a.t_COUNT_OCTETS)
 aa7:mg "KIND_OCTETS" = some (.int 26 a.t_KIND_OCTETS)
 acG:mg "LETTERS" = some (.str "abcdefghijklmnopqrstuvwxyz" a.t_LETTERS)
 afb:mg "MOST_BITS" = some (.int 4096 a.t_MOST_BITS)
 ad2:mg "MOST_LETTERS" = some (.int 40 a.t_MOST_LETTERS)
 ae8:mg "MOST_NODES" = some (.int 2048 a.t_MOST_NODES)
 ad3:mg "MOST_NUMBERS" = some (.int 4096 a.t_MOST_NUMBERS)
 ae9:mg "MOST_SIGNS" = some (.int 4096 a.t_MOST_SIGNS)
 af0:mg "ROW" = some (.int 1 a.t_ROW)
 afE:mg "SIGNS" = some (.int 3 a.t_SIGNS)
 afF:mg "STORE" = some (.int 4 a.t_STORE)
 afS:mg "TREE" = some (.int 2 a.t_TREE)
 af1:mg "NoBit" = some (.ref a.Yn)
 afP:mg "NoOctets" = some (.ref a.Wy)
 afU:mg "NoSign" = some (.ref a.X7)
 afV:mg "NoTree" = some (.ref a.Yi)
 afW:mg "NoWord" = some (.ref a.Xz)
 afT:mg "TooMany" = some (.ref a.Xk)
 af2:mg "Twice" = some (.ref a.YG)
 afc:mg "WoodError" = some (.ref a.W5)
 afG:Exc K mg "NoBit" a.Yn
 ZZ:Exc K mg "NoOctets" a.Wy
 acK:wu K a.Wy
 aam:PySem.W.kitOne K (.ref a.Wy) (.ref a.Wy)=some true
 Y0:PySem.W.kitOne K (.ref a.Wy) (.ref a.W5)=some true
 aah:PySem.W.kitOne K (.ref a.Wy) (.type "ValueError")=some true
 afA:Exc K mg "NoSign" a.X7
 Z0:PySem.W.kitOne K (.ref a.X7) (.ref a.W5)=some true
 afB:Exc K mg "NoTree" a.Yi
 Z1:PySem.W.kitOne K (.ref a.Yi) (.ref a.W5)=some true
 aeE:Exc K mg "NoWord" a.Xz
 Z2:PySem.W.kitOne K (.ref a.Xz) (.ref a.W5)=some true
 afa:Exc K mg "TooMany" a.Xk
 Zc:PySem.W.kitOne K (.ref a.Xk) (.ref a.W5)=some true
 afH:Exc K mg "Twice" a.YG
 aar:PySem.W.kitOne K (.ref a.YG) (.ref a.W5)=some true
 afd:Exc K mg "WoodError" a.W5
 afe:wu K a.W5
 aft:a.acI.code=.ref a.Zb
structure Bs(mg:Str->Option Value)(base:Heap)(a:Ad):Prop where
 bm:BMain mg base
 afu:PySem.W.CodeHd base a.Zb a.W9
theorem ye:bootBuiltins "ValueError" = some (.type "ValueError"):=by decide +kernel
theorem Cy(a:List (Key×V))(k:Key)(v:V):(putK a k v).length<=a.length+1:=by
 cases h:gK a k with
 |none=>rw[Ej v h,aac];exact aae _
 |some x=>
  unfold putK;rw[gW,h];simp
theorem PQ{n j:Nat}(h:j<n):XS n (j:Int)=some j:=by
 unfold XS;simp;lia
theorem Ik(k:Nat)(v:Int):(aap k [V.int v]).flatten=(aap k v).map V.int:=by
 induction k with
 |zero=>rfl
 |succ k a=>rw[agz,agW,a,agz];rfl
def aU(b:Int)(n:Nat):List Int:=(aga n).map λi=>b / 256^i%256
def gm:List Int->Int
 |[]=>0
 |x::r=>256*gm r+x
theorem aP(b:Int)(n:Nat):(aU b n).length=n:=by simp[aU]
theorem yU(b:Int)(n:Nat):aU b (n+1)=aU b n++[b / 256^n%256]:=by simp[aU,agl]
theorem pY{b:Int}{n:Nat}{x:Int}(h:x∈aU b n):0<=x/\x<=255:=by
 unfold aU at h;obtain⟨i,_,rfl⟩:=afs.mp h;lia
theorem Dy(b:Int)(k:Nat):b / 256^k / 256=b / 256^(k+1):=by
 rw[ahB (Int.pow_nonneg ∅),ahe]
theorem Jy(r:List Int)(x:Int):gm (r++[x])=gm r+x*256^r.length:=by
 induction r with
 |nil=>simp[gm]
 |cons y r a=>
  simp only[agM,gm,a,aao,ahe];rw[ajR,aix (256^r.length) 256,<-ail,<-ail,aix 256 x];lia
theorem oG(b:Int):∀n:Nat,gm (aU b n)=b%256^n
 |0=>by simp[aU,gm]
 |n+1=>by
  rw[yU,Jy,oG b n,aP];have e:(0:Int)<256^n:=ajq ∅;have f:=ahR b (256^n);have a:=ahR (b / 256^n) 256;have d:=ahR b (256^(n+1));rw[Dy]at a;rw[ahe]at d ⊢;have c:(256:Int)^n*(b / 256^n)=256^n*(b / 256^n%256)+256^n*256*(b / 256^(n+1)):=by
   rw[ail,<-ajR,a]
  rw[ahe]at c;rw[aix (b / 256^n%256)];lia
theorem fP(b:Int)(n:Nat)(c:0<=b)(a:b<256^n):gm (aU b n)=b:=by
 rw[oG,ajf c a]
theorem De:∀{ns:List Int},aK ns -> ∀k:Nat,blk ns / 2^k=blk (ns.drop k)
 |ns,_,0=>by rw[aie,ahZ,agL]
 |[],_,k+1=>by simp[blk]
 |b::r,h,k+1=>by
  have a:=h.head;rw[aiZ,<-De h.tail k,ahe,aix (2^k) 2,<-ahB ∅];have e:blk (b::r) / 2=blk r:=by
   simp only[blk];lia
  rw[e]
theorem IW:∀{ns:List Int},aK ns -> ∀k:Nat,blk ns%2^k=blk (ns.take k)
 |ns,_,0=>by rw[aie,Int.emod_one,ahI];rfl
 |[],_,k+1=>by simp[blk]
 |b::r,h,k+1=>by
  have g:=h.head;have a:=IW h.tail k;have c:(0:Int)<2^k:=ajq ∅;have i:=ahR (blk r) (2^k);have f:=ahj (blk r) (show (2:Int)^k≠0 by lia);have e:=ag9 (blk r) c;rw[ahi];simp only[blk];rw[<-a,ahe];have d:2*blk r+b=(2*(blk r%2^k)+b)+(2^k*2)*(blk r / 2^k):=by
   rw[ail,aix 2 (blk r / 2^k),<-ail];lia
  rw[d,Int.add_mul_emod_self_left,ajf ⋯ ⋯]
def jh(ns:List Int)(i:Nat):Int:=blk ((ns.drop (8*i)).take 8)
theorem Py{ns:List Int}{i:Nat}(h:ns.length<=8*i):jh ns i=0:=by
 unfold jh;rw[agk h];rfl
theorem uN{ns:List Int}(h:aK ns)(q t:Nat)(ht:t<4):dZ ns q / 256^t%256=jh ns (4*q+t):=by
 have e:(256:Int)^t=2^(8*t):=by
  have:t=0\/t=1\/t=2\/t=3:=by lia
  rcases this with rfl|rfl|rfl|rfl<;>decide
 have a:=qR h q;unfold dZ jh;rw[e,De a,show (256:Int)=2^8 from by decide,IW (λx b=>a x (ago b)),ajv,ahq,agw,show 32*q+8*t=8*(4*q+t)from by lia,ags ⋯]
theorem La(x:Int):aU x 4=[x / 256^0%256,x / 256^1%256,x / 256^2%256,x / 256^3%256]:=rfl
theorem DW{x:Int}(b:0<=x)(a:x<65536):aU x 2=[x%256,x / 256]:=by
 show [x / 256^0%256,x / 256^1%256]=_;rw[aie,ahZ,ahe,aie,Int.one_mul];congr 2;lia
theorem jo{ns:List Int}(h:aK ns):∀m:Nat,((aga m).map (dZ ns)).flatMap (λx=>aU x 4)=(aga (4*m)).map (jh ns)
 |0=>rfl
 |m+1=>by
  rw[agl,aag,ahk,jo h m];show _++(aU (dZ ns m) 4++[])=_;rw[agr,La,uN h m 0 ⋯,uN h m 1 ⋯,uN h m 2 ⋯,uN h m 3 ⋯,show 4*(m+1)=4*m+1+1+1+1 from by lia,agl,agl,agl,agl];simp
def gQ(ns:List Int):List Int:=[1]++aU (ns.length:Int) 2++((bw ns).flatMap (λx=>aU x 4)++(WD ns (many ns.length)).flatMap (λx=>aU x 2))
def LO(ns:List Int)(j:Nat):List Int:=(aga (4*many ns.length)).map (jh ns)++(WD ns j).flatMap (λx=>aU x 2)
theorem aY(k:Nat):∀ns:List Int,(ns.flatMap (λx=>aU x k)).length=k*ns.length
 |[]=>by simp
 |x::r=>by rw[agX,aac,aY k r,aP,aao,ahp];lia
theorem J5(ns:List Int)(j:Nat):(LO ns j).length=4*many ns.length+2*(j+1):=by
 unfold LO;rw[aac,aaa,af8,aY,cD]
theorem Cq{ns:List Int}(h:aK ns):0<=ns.sum/\ns.sum<=ns.length:=by
 induction ns with
 |nil=>simp
 |cons b r a=>
  have:=a h.tail;have:=h.head;rw[ahD,aao];lia
theorem Nh{xs:List V}{i j:Nat}(b:i<=xs.length)(a:j<=xs.length):dR xs (some (i:Int)) (some (j:Int))=(xs.drop i).take (j-i):=by
 unfold dR;rw[HT.iy,HT.iy,ags b,ags a]
theorem Lk{lows:List Int}{xs:List V}(c:gk lows.length n)(b:xQ lows n 1 xs):(xs.drop n).take lows.length=lows.map V.int:=by
 have d:lows.length<=n:=by
  obtain⟨_,_,z,_⟩:=c;exact z
 refine agn λi=>?_;rw[aak];by_cases a:i<lows.length
 ·rw[af9 a,agm,b.leaf i ⋯,vf (aab a),aab a];rfl
 ·rw[aaC (by rw[aaq];lia),aaC ⋯];rfl
def cX(ns lows:List Int):List Int:=[2]++aU (ns.length:Int) 2++((bw ns).flatMap (λx=>aU x 4)++(WD ns (many ns.length)).flatMap (λx=>aU x 2))++lows.flatMap (λx=>aU x 2)
theorem Pu{ns lows:List Int}(h:aK ns):cX ns lows=[2]++aU (ns.length:Int) 2++LO ns (many ns.length)++lows.flatMap (λx=>aU x 2):=by
 unfold cX LO bw;rw[jo h]
theorem dj{ns lows:List Int}(h:aK ns):(cX ns lows).length=3+(4*many ns.length+2*(many ns.length+1))+2*lows.length:=by
 rw[Pu h,aac,aac,aac,aP,J5,aY];rfl
theorem mD:∀{l U:List Int},l.Nodup->(∀z∈l,z∈U)->l.length<=U.length
 |[],_,_,_=>af3 _
 |a::l,U,f,h=>by
  have c:=h a aal;have d:=agU.mp f;have q:=mD (l:=l) (U:=U.erase a) d.2 λz b=>(ahs λe:z=a=>d.1 (e ▸ b)).mpr (h z (aai _ b));have e:=ag8 c;have p:=ahJ c;rw[aao];lia
section
variable{P:Program}{w:World}{a:Ad}
inductive wC(K:PySem.W.Frag)(vs:List V)(H:Hp)(Q:VK)(_e1:XK):Prop
 | mk (p:Addr) (zs:List Int) (k:Nat) (_:vs=[.ref p,.int (k:Int)]) (_:My K H p !!zs) (_:Q (.int ((zs[k]?).getD 0)) H)
theorem mU(T:Tx K mg a):bc P w K mg base Wt 1 a.acx a.abZ ["_law_script","_law_k"] (wC K):=by
 refine T.aa5.F.Wv wj λg A d s H i Q E j h=>?_;obtain⟨p,b,k,rfl,f,q⟩:=h;refine(_,(ao (bx (aO tU (pv 1) (aL aN rfl T.WF Tw.bB (Wn 0 aj))) (aB (aG (bD dI (pv 0) (pv 1)))) aQ)
  (aB (aG aA))),2)
 refine(8,p,9,.inl f,5,9,fB (λc=>?_) λc=>?_)
 ·have c:=of_decide_eq_true c;rw[aaa]at c;have e:b[k]?=some b[k]:=aab ⋯;rw[e]at q;exact(8,p,_,5,f,uJ e,q)
 ·have c:¬(k:Int)<(‹b›.length:Int):=λz=>c (decide_eq_true z);rw[aaa]at c;rw[aaC ⋯]at q;exact q
theorem O7(x:Int):Builtin.bitAnd x 1=x%2:=by
 unfold Builtin.bitAnd;by_cases b:0<=x
 ·simp[b];lia
 ·simp[b];unfold Builtin.bitNot;lia
inductive Ku(vs:List V)(H:Hp)(Q:VK)(_e1:XK):Prop
 | mk (b k:Int) (_:vs=[.int b,.int k]) (_:0<=k) (_:Q (.int (bit b k.toNat)) H)
theorem yI(T:Tx K mg a):bc P w K mg base Wt 1 a.afl a.aeL ["block","k"] Ku:=by
 refine T.aeB.F.Wv Lh λf A c s H g Q E i h=>?_;obtain⟨b,k,rfl,d,q⟩:=h;exists _,(aB (aG (aD Uc (aD TY (pv 0) (pv 1)) aA)));exists 8,5,d,5;have e:Builtin.bitAnd (b / 2^k.toNat) 1=bit b k.toNat:=O7 _;show Q (.int (Builtin.bitAnd (b / 2^k.toNat) 1)) H;rw[e];exact q
inductive Fy(vs:List V)(H:Hp)(Q:VK)(_e1:XK):Prop
 | mk (b n:Int) (_:vs=[.int b,.int n]) (_:0<=n) (_:n<=32) (_:∀r,H r=none->Q (.ref r) (upd H r (.lst ‹bits b n.toNat›)))
theorem oY(T:Tx K mg a):bc P w K mg base Wt 2 a.aeM a.ad6 ["block","upto"] Fy:=by
 refine T.acA.F.Wv Hd λf A c s H g Q E d h=>?_;obtain⟨b,n,rfl,m,l,q⟩:=h;exists _,(aB (aG (kJ rfl (bR.one (j:=0) rfl (ag3 rfl) rfl rfl (ag3 rfl)) (dh rfl T.XD (Wn 1 aj)) (λ_ _ _ _=>eX) (λ_ _ _ _=>(aW T.aeB (yI T) d (Wn 1 (Wn 0 aj)))))));refine(9,n,7,6,6,2);refine Ks (λj=>bit b j) (by rw[sizeLine_eq];lia) (λ_ _ _ q=>q) (λj o Q k i q=>(8,_,9,6,2)) λD e=>q D e;rw[show ((0:Int)+(j:Int)).toNat=j from by lia];exact q
inductive Fi(vs:List V)(H:Hp)(Q:VK)(_e1:XK):Prop
 | mk (b n:Int) (_:vs=[.int b,.int n]) (_:0<=n) (_:n<=32) (_:∀H',aM H H'->Q (.int (ones b n.toNat)) H')
theorem Gj(T:Tx K mg a):bc P w K mg base Wt 3 a.aeN a.ad7 ["block","upto"] Fi:=by
 refine T.ae0.F.Wv Ge λi A d s H j Q E e h=>?_;obtain⟨b,n,rfl,g,f,q⟩:=h;exists _,(aB (aG (aL (Ow rfl) rfl T.afZ Tw.Te (au (aW T.acA (oY T) e (Wn 0 (Wn 1 aj))) aj))));exact(8,b,n,7,g,f,λr c=>(r,bits b n.toNat,7,My.of aa,q _ (aq c _)))
inductive DN(K:PySem.W.Frag)(vs:List V)(H:Hp)(Q:VK)(_e1:XK):Prop
 | mk (p:Addr) (ns:List Int) (_:vs=[.ref p]) (_:My K H p !!ns) (_:Q (.int (blk ns)) H)
theorem Et(T:Tx K mg a):bc P w K mg base Wt 1 a.ad4 a.adn ["bits"] (DN K):=by
 refine T.aer.F.Wv jr λt A g s H u Q E v h=>?_;obtain⟨p,b,rfl,l,q⟩:=h;refine(_,(ao (aC 1 jr.nd aA)
  (ao (bA PassesOwn.never rfl (Nb rfl T.aeA (Wn 0 aj) Tw.tW) (aR 2 jr.nd) (aB (aC 1 jr.nd (aD bj (aD bG aA (pv 1)) (pv 2)))))
  (aB (aG (pv 1))))),2)
 exists 9,p,9,l;refine HR (xs:=b.map V.int) (λi d f=>(∃k,d=[!!!p,some (.int (blk (b.drop (b.length-i)))),k])/\f=H) ?_ ?_ ?_ ?_
 ·refine((3,2),7);rw[aia,aif];rfl
 ·rintro i d f _ ⟨_,rfl⟩;exact l
 ·rintro i x d f n m ⟨⟨k,rfl⟩,rfl⟩;obtain⟨c,j,rfl⟩:=int_at m;rw[aaa]at n j;refine(9,5,.inl (4,4),9,5,(!!!!c,2),7);have e:b.drop (b.length-(i+1))=c::b.drop (b.length-i):=by
   have r:b.length-(i+1)=b.length-1-i:=by lia
   have o:b.length-i=b.length-1-i+1:=by lia
   rw[r,o,agv ⋯];congr 1;have:=aad.mp j;exact this.2
  rw[e];rfl
 ·rintro d f ⟨⟨k,rfl⟩,rfl⟩;rw[aaa,ahy,agL];exact(9,q)
inductive NK(vs:List V)(H:Hp)(Q:VK)(_e1:XK):Prop
 | mk (i:Int) (_:vs=[.int i]) (_:Q (.bl true) H)
theorem Bg(T:Tx K mg a):bc P w K mg base Wt 1 a.adF a.ac5 ["_law_found"] NK:=by
 refine T.adT.F.Wv zG λc A b s H d Q E e h=>?_;obtain⟨i,rfl,q⟩:=h
 exists _,(aB (aG (Af (aL iM rfl T.YZ Tw.cA (Wn 0 (au (jn (v:=.ty "int") rfl T.afY Tw.Tq rfl) aj))) (Bm (T4 (aL iM rfl T.YZ Tw.cA (Wn 0 (au (jn (v:=.ty "bool") rfl T.afR Tw.RK rfl) aj))))))))
 refine(9,_,"int",_,true,7,.int i,7,true,7,cF ?_)
 exact(9,_,"bool",_,false,7,.int i,7,false,7,q)
inductive zF(K:PySem.W.Frag)(C1:Addr)(C2:Addr)(vs:List V)(H:Hp)(Q:VK)(E:XK):Prop
 | mk (p:Addr) (ns:List Int) (_:vs=[.ref p]) (_:My K H p !!ns) (_:((ns.length<=4096/\aK ns/\Q .non H)\/(4096<ns.length/\E (.ref C1) none H)\/(ns.length<=4096 /\ ¬aK ns/\E (.ref C2) none H)))
theorem pR(T:Tx K mg a):bc P w K mg base (WX P w) 1 a.adm a.acP ["bits"] (zF K a.Xk a.Yn):=by
 refine T.ab3.F.Xg qi (λy H Q E h=>?_) (λB A t s H y Q E C h=>?_)
 ·obtain⟨p,f,rfl,_⟩:=h;rfl
 obtain⟨p,f,rfl,n,h⟩:=h;refine(_,(ao (bx (aO qK (aL aN rfl T.WF Tw.bB (Wn 0 aj)) (aV (v:=.int 4096) rfl T.afb (_,7))) (aB (dg T.afa rfl (au dH aj))) aQ)
  (aB (bA fj rfl (bJ (pv 0)) (aR 1 qi.nd) (aB (bx (PW.pt (mR (aO wF (pv 1) aA) (kI (aO wF (pv 1) aA)))) (aB (dg T.afG rfl (au dH aj))) aQ))))),2)
 refine(9,p,9,.inl n,5,9,fB (λc=>?_) λc=>?_)
 ·have c:=of_decide_eq_true c;rw[aaa]at c;rcases h with ⟨d,_⟩|⟨_,q⟩|⟨d,_⟩
  ·lia
  ·exact(sl1,q)
  ·lia
 have c:¬(4096:Int)<(‹f›.length:Int):=λz=>c (decide_eq_true z);rw[aaa]at c;exists 9,p,7,(_,n);refine bV (xs:=f.map V.int) (λi j m=>(∃k,j=[!!!p,k])/\m=H/\aK (f.take i)) ((3,7),7,λx b=>by simp at b) ?_ ?_ ?_
 ·rintro i j m _ ⟨_,rfl,_⟩;exact n
 ·rintro i x j m b ⟨⟨k,rfl⟩,rfl,l⟩;obtain⟨c,u,rfl⟩:=int_at b;have g:c=0\/c=1->aK (f.take (i+1)):=λe x b=>by
   rw[af7,u]at b;rcases aaG.mp b with b|b
   ·exact l x b
   ·rw[aan.mp b];exact e
  by_cases r:c=0
  ·subst r;exact(9,7,9,Iu rfl (b7 ((_,7),7,g (.inl rfl))))
  by_cases o:c=1
  ·subst o;refine(9,7,9,fB (λ_=>(9,7,9,Iu rfl ((_,7),7,g (.inr rfl)))) λz=>absurd ?_ z);decide
  refine(9,7,9,fB (λ_=>(9,7,9,fB (λ_=>?_) λz=>absurd ?_ z)) λz=>absurd ?_ z)
  ·rcases h with ⟨_,d,_⟩|⟨d,_⟩|⟨_,_,q⟩
   ·rcases d c (aaw u)with e|e
    ·exact absurd e r
    ·exact absurd e o
   ·lia
   ·exact(sl1,q)
  ·rw[oA];simp[o]
  ·rw[oA];simp[r]
 ·rintro j m ⟨_,rfl,l⟩;rw[aaa,agi]at l;rcases h with ⟨_,_,q⟩|⟨d,_⟩|⟨_,d,_⟩
  ·exact q
  ·lia
  ·exact absurd l d
inductive Ko(K:PySem.W.Frag)(C1:Addr)(C2:Addr)(vs:List V)(H:Hp)(Q:VK)(E:XK):Prop
 | mk (p:Addr) (ns:List Int) (_:vs=[.ref p]) (_:My K H p !!ns) (_:((ns.length<=4096/\aK ns /\ ∀r H',H r=none->aM H H'->H' r=some (.lst ‹bw ns›)->Q (.ref r) H')\/(4096<ns.length/\E (.ref C1) none H)\/(ns.length<=4096 /\ ¬aK ns/\E (.ref C2) none H)))
theorem JW(T:Tx K mg a):bc P w K mg base (WX P w) 2 a.afk a.aeK ["bits"] (Ko K a.Xk a.Yn):=by
 refine T.afp.F.Xg Ln (λz H Q E h=>?_) (λI A r s H z Q E u h=>?_)
 ·obtain⟨p,b,rfl,_⟩:=h;rfl
 obtain⟨p,b,rfl,f,h⟩:=h;refine(_,(ao (bC (bI T.ab3 (pR T) ∅ u dz rfl (Wn 0 aj)))
  (aB (aG (kJ rfl (bR.one (j:=0) rfl (ag3 rfl) rfl rfl (ag3 rfl)) (JB rfl T.XD (au aA (au (aL aN rfl T.WF Tw.bB (Wn 0 aj)) (au (aV (v:=.int 32) rfl T.YS (_,7)) aj)))) (λ_ _ _ _=>eX) (λ_ _ _ _=>(aW T.aer (Et T) u (au (bF (show SlR _ (N8 K)from cI) (pv 1) (bH (pv 0)) (bH (aD bj (pv 0) (aV (v:=.int 32) rfl T.YS (_,7))))) aj))))))),2)
 rcases h with ⟨x,C,q⟩|h|h
 rotate_left
 ·exact(9,p,b,7,f,.inr (.inl h))
 ·exact(9,p,b,7,f,.inr (.inr h))
 refine(9,p,b,7,f,.inl (x,C,2));exists 9,p,9,.inl f,‹b›.length,7,2
 ·rw[aaa];exact ag4 x ∅
 rw[aaa];intro D o;exists λi m l k=>m=many b.length-i/\i<=many b.length/\l=((aga i).map (dZ b)).map V.int/\aM H k/\k D=some (.lst l),(9,af3 _,7,aq o _,aa);rintro i m l k ⟨rfl,J,rfl,n,d⟩;by_cases c:i<many b.length
 ·refine .inr (c,λv M y=>?_);obtain⟨rfl,rfl⟩:=y;unfold Ph;refine cF ?_;refine(8,8,5,9,p,9,n.seq f,λt g=>?_);have G:(0:Int)+(i:Int)*32=((32*i:Nat):Int):=by lia
  have L:(0:Int)+(i:Int)*32+32=((32*i+32:Nat):Int):=by lia
  rw[G,show ((32*i:Nat):Int)+32=((32*i+32:Nat):Int)from by lia,Ak,agN];exists t,9,My.of aa;have B:D≠t:=aH d g;refine(by rw[aJ B];exact d,2,many b.length-(i+1),6,7,c,2,aZ (n.trans (aq g _)) o _,aa)
  ·rw[aaa,aaa,af8];unfold many at c;exact small ⋯
  ·rw[agl,aag,aag];rfl
 ·have e:i=many b.length:=by lia
  subst e;exact .inl (aae _,q D k o n d)
inductive Em(K:PySem.W.Frag)(vs:List V)(H:Hp)(Q:VK)(_e1:XK):Prop
 | mk (p:Addr) (bs:List Int) (_:vs=[.ref p]) (_:My K H p !!bs) (_:bs.length<=4096) (_:∀r H',H r=none->aM H H'->H' r=some (.tup ‹aheads bs bs.length›)->Q (.ref r) H')
theorem CP(T:Tx K mg a):bc P w K mg base Wt 4 a.aea a.adu ["blocks"] (Em K):=by
 refine T.aet.F.Wv mJ λC A o s H D Q E B h=>?_;obtain⟨p,j,rfl,u,m,q⟩:=h;refine(_,(ao (aC 1 mJ.nd (bM (au aA aj)))
  (ao (bA PassesOwn.never rfl (bJ (pv 0)) (aR 2 mJ.nd) (aB (bC (fD PySem.F.plainAttrs_list PySem.F.slot_list_append PySem.F.type_list_append bZ (pv 1) (au (aD bj (bD dI (pv 1) (oH jD aA)) (aW T.ae0 (Gj T) B (Wn 2 (au (aV (v:=.int 32) rfl T.YS (_,7)) aj)))) aj)))))
  (aB (aG (bY gM rfl T.adX Tw.mZ (Wn 1 aj)))))),2)
 refine(sl1,λr d=>?_);exists 9,p,7,(_,(aq d _).seq u);refine bV (xs:=j.map V.int) (λi g f=>(∃k,g=[!!!p,!!!r,k])/\aM H f/\f r=some (.lst ‹aheads j i›)) ?_ ?_ ?_ ?_
 ·exact((3,7),aq d _,aa)
 ·rintro i g f _ ⟨_,e,_⟩;exact e.seq u
 ·rintro i x g f z ⟨⟨k,rfl⟩,e,c⟩;obtain⟨b,t,rfl⟩:=int_at z;have G:=(aad.mp t).1;have n:W7 ‹aheads j i› (-1)=some (.int (jL j i)):=by
   rw[Eb,aag];exact mL _ _
  refine(9,.inl (7,_,My.of c),8,r,_,5,My.of c,n,9,b,32,7,4,4,λI y=>(5,r,5,y _ _ c,2,(_,7),aZ (e.trans y) d _,2))
  ·rw[aaa,xU];exact small ⋯
  ·rw[aa,Cp,aag,uo t];rfl
 ·rintro g f ⟨⟨k,rfl⟩,e,c⟩;rw[aaa]at c;exact(9,r,9,.inl (My.of c,λl m=>q l _ (e.free m) (e.trans (aq m _)) aa))
inductive Gu(vs:List V)(H:Hp)(Q:VK)(_e1:XK):Prop
 | mk (b n:Int) (_:vs=[.int b,.int n]) (_:0<=n) (_:n<=32) (_:∀r H',H r=none->aM H H'->H' r=some (.lst ‹nets b n.toNat›)->Q (.ref r) H')
theorem Fg(T:Tx K mg a):bc P w K mg base Wt 3 a.aeO a.ad8 ["block","upto"] Gu:=by
 refine T.ae1.F.Wv jd λI A t s H J Q E z h=>?_;obtain⟨b,n,rfl,D,C,q⟩:=h;refine(_,(ao (aC 2 jd.nd (bM aj))
  (ao (aC 3 jd.nd aA)
  (ao (bA PassesOwn.never rfl (bJ (aW T.acA (oY T) z (Wn 0 (Wn 1 aj)))) (aR 4 jd.nd) (ao (aC 3 jd.nd (aD dF (aD bj (pv 3) (aD bG aA (pv 4))) aA))
  (aB (bC (fD PySem.F.plainAttrs_list PySem.F.slot_list_append PySem.F.type_list_append bZ (pv 2) (Wn 3 aj))))))
  (aB (aG (pv 2)))))),2)
 refine(sl0,λr f=>?_);refine(8,b,n,7,D,C,λp v=>(p,7,(_,My.of aa),2));have u:r≠p:=aH aa v;refine bV (xs:=(bits b n.toNat).map V.int) (λi j e=>(∃k,j=[!!!!b,!!!!n,!!!r,some (.int (net b i)),k])/\aM H e/\e r=some (.lst ‹nets b i›)/\e p=some (.lst ‹bits b n.toNat›)) ?_ ?_ ?_ ?_
 ·refine((3,by rw[Mf];rfl),(aq f _).trans (aq v _),2,aa);rw[aJ u,aa];rfl
 ·rintro i j e _ ⟨_,_,_,o⟩;exact My.of o
 ·rintro i x j e y ⟨⟨k,rfl⟩,l,d,g⟩;obtain⟨c,m,rfl⟩:=int_at y;have B:i<n.toNat:=by
   have:=(aad.mp m).1;rw[cC]at this;exact this
  have G:c=bit b i:=by
   rw[qw B]at m;exact(aat m).symm
  subst G;exists 8,5,.inl (4,4),5,5;exists 9,.inl (7,_,My.of d),9,r,5,d,?_
  ·rw[aaa,tM];exact small ⋯
  ·exists (some (.int (bit b i)),by rw[BZ];rfl),aZ l f _,?_
   ·rw[aa,K7,BZ,aag];rfl
   ·rw[aJ (agA u)];exact g
 ·rintro j e ⟨⟨k,rfl⟩,l,d,g⟩;rw[aaa,cC]at d;exact(9,q r e f l d)
inductive K3(vs:List V)(H:Hp)(Q:VK)(_e1:XK):Prop
 | mk (b n:Int) (_:vs=[.int b,.int n]) (_:1<=n) (_:n<=32) (_:∀M H',Ng M (nets b n.toNat)->aM H H'->Q (.int M) H')
theorem Le(T:Tx K mg a):bc P w K mg base Wt 4 a.afm a.aeP ["block","upto"] K3:=by
 refine T.afq.F.Wv K8 λk A c s H l Q E e h=>?_;obtain⟨b,n,rfl,o,g,q⟩:=h;exists _,(aB (aG (Q8 rfl rfl T.afz (au (aW T.ae1 (Fg T) e (Wn 0 (Wn 1 aj))) aj) aA Tw.z8)));refine(8,b,n,7,6,g,λp j m d i=>(p,9,My.of i,2,λM f=>q M j f d));rw[tM];lia
inductive Hm(vs:List V)(H:Hp)(Q:VK)(_e1:XK):Prop
 | mk (n:Nat) (_:vs=[.int (n:Int)]) (_:n<=100000) (_:∀S,gk n S->Q (.int (S:Int)) H)
theorem uY(T:Tx K mg a):bc P w K mg base Wt 1 a.aeS a.aec ["many"] Hm:=by
 refine T.adP.F.Wv pG λo A d s H p Q E r h=>?_;obtain⟨n,rfl,u,q⟩:=h;refine(_,(ao (aC 1 pG.nd aA)
  (ao (Om PassesOwn.never (aO tU (pv 1) (pv 0)) (aB (aC 1 pG.nd (aD bG aA (pv 1)))))
  (aB (aG (pv 1))))),2)
 exists λm f g=>∃h:Nat,f=[some (.int (n:Int)),some (.int ((2^h:Nat):Int))]/\g=H/\m=n-2^h /\ ∀j,j<h->2^j<n,(_,0,7,7,7,λj b=>absurd b (aht _));rintro m f g ⟨h,rfl,rfl,rfl,b⟩;refine(8,5,9,fB (λc=>?_) λc=>?_)
 ·have c:((2^h:Nat):Int)<(n:Int):=of_decide_eq_true c;have t:0<2^h:=ajr h;refine(_,λ i v z=>z,9,5,.inl (4,4),n-2^(h+1),by rw[ajM];lia,h+1,2,7,7,λj k=>?_)
  ·have e:(2:Int)*((2^h:Nat):Int)=((2^(h+1):Nat):Int):=by rw[ajM];lia
   rw[<-e];rfl
  ·rcases agc j h with l|l
   ·exact b j l
   ·have:j=h:=by lia
    subst this;lia
 ·have c:¬((2^h:Nat):Int)<(n:Int):=λz=>c (decide_eq_true z);exact(9,q (2^h) (h,7,6,b))
inductive K9(vs:List V)(H:Hp)(Q:VK)(_e1:XK):Prop
 | mk (x y:V) (_:vs=[x,y]) (_:NI x) (_:NI y) (_:Q (yJ x y) H)
theorem Aj(T:Tx K mg a):bc P w K mg base Wt 1 a.adw a.acS ["one","other"] K9:=by
 refine T.adQ.F.Wv Ay λe A b s H f Q E g h=>?_;obtain⟨x,y,rfl,d,c,q⟩:=h;refine(_,(ao (bx (FT (Oi (pv 0))) (aB (aG (pv 1))) aQ)
  (ao (bx (FT (Oi (pv 1))) (aB (aG (pv 0))) aQ)
  (aB (aG (aL (rm rfl) rfl T.afz Tw.z8 (Wn 0 (Wn 1 aj))))))),2)
 rcases d with rfl|⟨i,rfl⟩
 ·rw[yL]at q;exact(8,cF (9,q))
 refine(8,b7 ?_);rcases c with rfl|⟨j,rfl⟩
 ·exact(8,cF (9,q))
 exact(8,b7 (8,i,j,7,q))
inductive FZ(K:PySem.W.Frag)(vs:List V)(H:Hp)(Q:VK)(E:XK):Prop
 | mk (p:Addr) (ns:List Int) (_:vs=[.ref p]) (_:My K H p !!ns) (_:ns.length<=4096) (_:∀S r H' xs,gk ns.length S->H r=none->aM H H'->H' r=some (.lst xs)->xQ ns S 1 xs->Q (.ref r) H')
theorem G6(T:Tx K mg a):bc P w K mg base Wt 2 a.aeR a.aeb ["numbers"] (FZ K):=by
 refine T.ae3.F.Wv j6 λa3 A O s H vs Q E hr h=>?_;obtain⟨p,b,rfl,o,hl,q⟩:=h;refine(_,(ao (bx (aO qK (aL aN rfl T.WF Tw.bB (Wn 0 aj)) (aV (v:=.int 4096) rfl T.ad3 (_,7))) (aB nO) aQ)
  (ao (aC 1 j6.nd (aW T.adP (uY T) hr (au (aL aN rfl T.WF Tw.bB (Wn 0 aj)) aj)))
  (ao (aC 2 j6.nd (aD dG (aD dG (aD wZ (bM (au FN aj)) (pv 1)) (bY cQ rfl T.X8 Tw.dM (Wn 0 aj))) (aD wZ (bM (au FN aj)) (aD dF (pv 1) (aL aN rfl T.WF Tw.bB (Wn 0 aj))))))
  (ao (bA PassesOwn.never rfl (Gi rfl T.XD (au (aD dF (pv 1) aA) (au aA (au (oH jD aA) aj)))) (aR 3 j6.nd) (aB (O3 (aW T.adQ (Aj T) hr (au (bD dI (pv 2) (aD bG aA (pv 3))) (au (bD dI (pv 2) (aD bj (aD bG aA (pv 3)) aA)) aj))) (Ot (pv 2) (pv 3) set_list))))
  (aB (aG (pv 2))))))),2)
 have x:‹b›.length=b.length:=aaa ..;refine(9,p,9,.inl o,5,9,fB (λz=>?_) λ_=>?_)
 ·have z:(4096:Int)<(‹b›.length:Int):=of_decide_eq_true z;lia
 refine(9,p,9,.inl o,b.length,2,6,λS u=>?_)
 ·rw[x];rfl
 have N:=u.pos;have a2:=u.le hl;have J:b.length<=S:=by
  obtain⟨_,_,z,_⟩:=u;exact z
 refine Je (t:=lN (tC .non) Dz) (σ:=[!!!p,some (.int (S:Int)),none,none]) (i:=1) (k:=(S:Int)) (xs:=[.non]) (λQ' q=>q) rfl ⋯ ∅ ⋯ λp1 H1 a1 Y R=>?_;refine(9,p,9,.inl (Y.seq o),λl2 L=>?_);have X:=aq L (.lst !!b);have e1:(aap (S:Int).toNat [V.non]).flatten=aap S V.non:=by
  rw[aaz];simp
 rw[e1]at R;refine(p1,l2,5,X _ _ R,aa,2,λp3 I=>?_)
 ·rw[x,agb,sizeLine_eq];lia
 have s3:=aq I (.lst (aap S V.non++b.map V.int));refine(sl1,λl4 Zx=>?_);have W:=aq Zx (.lst [.non]);have j:=Y.trans (X.trans (s3.trans W));refine(8,p,9,.inl (j.seq o),5,l4,((S-b.length:Nat):Int),[.non],7,2,aa,6,6,2,λp5 G=>?_)
 ·show V.int ((S:Int)-(‹b›.length:Int))=_;rw[x];exact congrArg V.int ⋯
 ·rw[sizeLine_eq];show 1*_<=_;lia
 have e5:(aap ((S-b.length:Nat):Int).toNat [V.non]).flatten=aap (S-b.length) V.non:=by
  rw[aaz];simp
 rw[e5];have U:=aq G (.lst (aap (S-b.length) V.non));refine(p3,p5,5,U _ _ (W _ _ aa),aa,2,λr m=>?_)
 ·rw[aac,x,agb,agb,sizeLine_eq];lia
 have g:=j.trans U;have l:=g.free m;have s6:=g.trans (aq m (.lst (aap S V.non++b.map V.int++aap (S-b.length) V.non)));refine(9,5,9,S-1,0,2,6,6,2)
 ·rw[show ((S-1:Nat):Int)=(S:Int)-1 from by lia];rfl
 refine Ea (n:=S-1-0) (λi y f=>(∃C,y=[!!!p,some (.int (S:Int)),!!!r,C])/\aM H f /\ ∃c,f r=some (.lst c)/\xQ b S (S-i) c) ((3,7),s6,_,aa,xQ.start N J) ?_ ?_
 ·rintro i y f hi ⟨⟨C,rfl⟩,B,c,d,e⟩;obtain⟨k,rfl⟩:∃k,S=k+i+1:=(S-i-1,6);have D:((k+i+1-1:Nat):Int)+(i:Int)*(-1)=(k:Int):=by lia
  rw[show k+i+1-i=k+1 from by lia]at e;have a0:=e.len;have hx:c[2*k]?=some c[2*k]:=aab ⋯;have Z:c[2*k+1]?=some c[2*k+1]:=aab ⋯;have ha:W7 c (2*(((k+i+1-1:Nat):Int)+(i:Int)*(-1)))=some c[2*k]:=by
   rw[D,show 2*(k:Int)=((2*k:Nat):Int)from by lia];exact R5 hx
  have hb:W7 c (2*(((k+i+1-1:Nat):Int)+(i:Int)*(-1))+1)=some c[2*k+1]:=by
   rw[D,show 2*(k:Int)+1=((2*k+1:Nat):Int)from by lia];exact R5 Z
  have M:XS c.length (((k+i+1-1:Nat):Int)+(i:Int)*(-1))=some k:=by
   rw[D];exact PQ ⋯
  exists 8,5,.inl (4,4),r,_,5,My.of d,ha;exists 8,5,.inl (4,4),5,r,_,5,My.of d,hb;exists _,9,e.ni _ (age _),e.ni _ (age _);exists 8,r,1,k,7,7,d,M,(_,7),aZ B l _,_,aa;rw[show k+i+1-(i+1)=k from by lia];exact e.step ⋯ ⋯ hx Z
 ·rintro y f ⟨⟨C,rfl⟩,B,c,d,e⟩;rw[show S-(S-1-0)=1 from by lia]at e;exact(9,q S r f c u l B d e)
inductive Fp(K:PySem.W.Frag)(vs:List V)(H:Hp)(Q:VK)(_e1:XK):Prop
 | mk (p:Addr) (ns:List Int) (_:vs=[.ref p]) (_:My K H p !!ns) (_:∀b H',(b=true ↔ Tree ns)->aM H H'->Q (.bl b) H')
theorem G3(T:Tx K mg a):bc P w K mg base Wt 1 a.aeT a.aed ["bits"] (Fp K):=by
 refine T.ae4.F.Wv jg λL A v s H M Q E O h=>?_;obtain⟨p,d,rfl,u,q⟩:=h;refine(_,(ao (aC 1 jg.nd aA)
  (ao (bA PassesOwn.never rfl (Bh rfl T.ab7 (Wn 0 aj)) (rY rfl (dw (aR 2 jg.nd) (dw (aR 3 jg.nd) nY))) (ao (bx (PW.pt (mR (aO qK (pv 2) aA) (kI (aO yZ (pv 1) aA)))) (aB (aG cT)) aQ)
  (aB (aC 1 jg.nd (aD dF (aD bj (pv 1) (aD bG aA (pv 3))) aA)))))
  (aB (aG (Af (zW R7 (aL aN rfl T.WF Tw.bB (Wn 0 aj)) aA) (Bm (zW dm (pv 1) aA))))))),2)
 exists 9,p,9,u;refine Ds (xs:=d.map V.int) (λi o f=>(∃j g,o=[!!!p,some (.int (ht d i)),j,g])/\aM H f /\ ∀k,0<k->k<i->0<ht d k) ((3,3,by rw[lw];rfl),aM.refl _,λk _ h=>absurd h (aht _)) ?_ ?_ ?_
 ·rintro i o f _ ⟨_,e,_⟩;exact e.seq u
 ·rintro i x o f y G ⟨⟨j,g,rfl⟩,e,r⟩ J;obtain⟨b,C,rfl⟩:=int_at G;have I:=(aad.mp C).1;have n:=e.trans (aq J (.tup [.int (i:Int),.int b]));exists y,9,Wq.of aa,7,_,9,5;have D:(0<i->0<ht d i)->(∃j g,[some (V.ref p),some (.int (ht d i+2*b-1)),some (.int (i:Int)),!!!!b]=[!!!p,some (.int (ht d (i+1))),j,g])/\aM H (upd f y (.tup [.int (i:Int),.int b])) /\ ∀k,0<k->k<i+1->0<ht d k:=λh=>
   ((1,by rw[Bk C]),n,λk B N=>by
    rcases agc k i with l|l
    ·exact r k B l
    ·have:k=i:=by lia
     subst this;exact h B)
  refine(9,5,9,fB (λc=>?_) λc=>?_)
  ·have c:(0:Int)<(i:Int):=of_decide_eq_true c;refine(9,5,9,fB (λm=>?_) λm=>?_)
   ·have m:ht d i<=0:=of_decide_eq_true m;exact q false _ (λz=>absurd z aaT,λt=>by have:=t.2.2 i ⋯ I;lia) n
   ·have m:¬ht d i<=0:=λz=>m (decide_eq_true z);exact(8,5,.inl (4,4),5,5,D λ_=>by lia)
  ·have c:¬(0:Int)<(i:Int):=λz=>c (decide_eq_true z);refine b7 ?_;exact(8,5,.inl (4,4),5,5,D λz=>by lia)
 ·rintro o f ⟨⟨j,g,rfl⟩,e,r⟩;rw[aaa]at r ⊢;refine(9,p,9,.inl (e.seq u),5,9,fB (λc=>?_) λc=>?_)
  ·have c:(2:Int)<=(‹d›.length:Int):=of_decide_eq_true c;rw[aaa]at c;exists 9,7;refine q _ f ?_ e;rw[decide_eq_true_iff];exact(λz=>(6,V.int.inj z,r),λt=>congrArg V.int t.2.1)
  ·have c:¬(2:Int)<=(‹d›.length:Int):=λz=>c (decide_eq_true z);rw[aaa]at c;exact q false f (λz=>absurd z aaT,λt=>by have:=t.1;lia) e
structure Tab(H:Hp)(t ah:Addr)(ns:List Int)(rest:List V):Prop where
 tup:H t=some (.tup (.int (ns.length:Int)::.ref ah::rest))
 Z3:H ah=some (.tup ‹WD ns (many ns.length)›)
 few:rest.length<=1
theorem Tab.same{H':Hp}{t :Addr}{ns:List Int}{rest:List V}(h:Tab H t f ns rest)(s:aM H H'):Tab H' t f ns rest:=(s _ _ h.tup,s _ _ h.Z3,h.few)
theorem RG(x y:V):∀rest:List V,rest.length<=1->W7 (x::y::rest) 0=some x
 |[],_=>rfl
 |[_],_=>rfl
 |_::_::_,h=>absurd h (by simp)
theorem Qd(x y:V):∀rest:List V,rest.length<=1->W7 (x::y::rest) 1=some y
 |[],_=>rfl
 |[_],_=>rfl
 |_::_::_,h=>absurd h (by simp)
theorem S7{ns:List Int}{n j:Nat}(h:j<=n):W7 ‹WD ns n› (j:Int)=some (.int (ns.take (32*j)).sum):=uJ (Ip h)
inductive BP(K:PySem.W.Frag)(C1:Addr)(C2:Addr)(vs:List V)(H:Hp)(Q:VK)(E:XK):Prop
 | mk (p:Addr) (ns:List Int) (_:vs=[.ref p]) (_:My K H p !!ns) (_:((ns.length<=4096/\aK ns /\ ∀r b t ah H',H b=none->aM H H'->H' r=some (.tup [.ref t,.ref b])->Tab H' t ah ns []->H' b=some (.lst ‹bw ns›)->Q (.ref r) H')\/(4096<ns.length/\E (.ref C1) none H)\/(ns.length<=4096 /\ ¬aK ns/\E (.ref C2) none H)))
theorem nu(T:Tx K mg a):bc P w K mg base (WX P w) 5 a.ad9 a.adt ["bits"] (BP K a.Xk a.Yn):=by
 refine T.abK.F.Xg tZ (λx H Q E h=>?_) (λB A j s H x Q E k h=>?_)
 ·obtain⟨p,c,rfl,_⟩:=h;rfl
 obtain⟨p,c,rfl,e,h⟩:=h;refine(_,(ao (aC 1 tZ.nd (bI T.afp (JW T) ∅ k dz rfl (Wn 0 aj)))
  (aB (aG (fc (au (fc (au (aL aN rfl T.WF Tw.bB (Wn 0 aj)) (au (aW T.aet (CP T) k (Wn 1 aj)) aj))) (Wn 1 aj)))))),2)
 rcases h with ⟨y,l,q⟩|h|h
 rotate_left
 ·exact(9,p,c,7,e,.inr (.inl h))
 ·exact(9,p,c,7,e,.inr (.inr h))
 refine(9,p,c,7,e,.inl (y,l,λb G i u n=>?_));refine(9,p,9,.inl (u.seq e),9,b,bw c,7,My.of n,2,λo D C v m=>?_)
 ·rw[aX];unfold many;lia
 rw[Bl l]at m;have z:‹c›.length=c.length:=aaa ..;rw[z];refine(sl2,λt ht=>(9,sl2,λr g=>?_));have f:=aq ht (.tup [.int (c.length:Int),.ref o]);have d:=aq g (.tup [.ref t,.ref b]);exact q r b t o _ i (u.trans (v.trans (f.trans d))) aa (d _ _ aa,d _ _ (f _ _ m),4) (d _ _ (f _ _ (v _ _ n)))
inductive qg(K:PySem.W.Frag)(C1:Addr)(C2:Addr)(C3:Addr)(vs:List V)(H:Hp)(Q:VK)(E:XK):Prop
 | mk (p:Addr) (ns:List Int) (_:vs=[.ref p]) (_:My K H p !!ns) (_:((ns.length<=4096/\aK ns/\Tree ns /\ ∀H',aM H H'->Q .non H')\/(4096<ns.length/\E (.ref C1) none H)\/(ns.length<=4096 /\ ¬aK ns/\E (.ref C2) none H)\/(ns.length<=4096/\aK ns /\ ¬Tree ns /\ ∀H',aM H H'->E (.ref C3) none H')))
theorem ji(T:Tx K mg a):bc P w K mg base (WX P w) 2 a.abi a.aaZ ["bits"] (qg K a.Xk a.Yn a.Yi):=by
 refine T.aaH.F.Xg qT (λn H Q E h=>?_) (λo A l s H n Q E m h=>?_)
 ·obtain⟨p,c,rfl,_⟩:=h;rfl
 obtain⟨p,c,rfl,e,h⟩:=h;refine(_,(ao (bC (bI T.ab3 (pR T) ∅ m dz rfl (Wn 0 aj)))
  (aB (bx (gY (lF (aW T.ae4 (G3 T) m (Wn 0 aj)))) (aB (dg T.afB rfl (au dH aj))) aQ))),2)
 rcases h with ⟨d,f,j,q⟩|⟨d,q⟩|⟨d,f,q⟩|⟨d,f,j,q⟩
 ·refine(9,p,c,7,e,.inl (d,f,2));refine(9,p,c,7,e,λb k i g=>(b,7,2));rw[i.mpr j];exact b7 (q k g)
 ·exact(9,p,c,7,e,.inr (.inl (d,q)))
 ·exact(9,p,c,7,e,.inr (.inr (d,f,q)))
 ·refine(9,p,c,7,e,.inl (d,f,2));refine(9,p,c,7,e,λb k i g=>(b,7,2));have:b=false:=ai9.mpr λz=>j (i.mp z);subst this;exact cF (sl1,q k g)
inductive FW(vs:List V)(H:Hp)(Q:VK)(_e1:XK):Prop
 | mk (t ah:Addr) (ns:List Int) (rest:List V) (j:Nat) (_:vs=[.ref t,.int (j:Int)]) (_:Tab H t ah ns rest) (_:j<=many ns.length) (_:Q (.int (ht ns (32*j))) H)
theorem Hc(T:Tx K mg a):bc P w K mg base Wt 1 a.aeV a.aee ["tables","number"] FW:=by
 refine T.ae5.F.Wv Hl λf A c s H g Q E k h=>?_;obtain⟨t,e,i,rest,j,rfl,b,d,q⟩:=h;exists _,(aB (aG (aD dF (aD bG aA (bD bO (bD bO (pv 0) aA) (pv 1))) (aD bG (aV (v:=.int 32) rfl T.YS (_,7)) (pv 1)))));exists 9,t,_,5,Wq.of b.tup,Qd _ _ _ b.few,9,e,_,5,Wq.of b.Z3,S7 d,5,.inl (4,4),9,5,.inl (4,4),5;unfold ht at q;rw[show ((32*j:Nat):Int)=32*(j:Int)from by lia]at q;exact q
inductive yj(vs:List V)(H:Hp)(Q:VK)(_e1:XK):Prop
 | mk (j n:Nat) (_:vs=[.int (j:Int),.int (n:Int)]) (_:32*j<=n) (_:Q (.int (wide n j:Nat)) H)
theorem xj(T:Tx K mg a):bc P w K mg base Wt 1 a.acT a.acd ["number","upto"] yj:=by
 refine T.ada.F.Wv yo λc A b s H d Q E f h=>?_;obtain⟨j,n,rfl,g,q⟩:=h;exists _,(aB (aG (aL (rm rfl) rfl T.afz Tw.z8 (au (aD dF (pv 1) (aD bG (aV (v:=.int 32) rfl T.YS (_,7)) (pv 0))) (au (aV (v:=.int 32) rfl T.YS (_,7)) aj)))));exists 8,5,.inl (4,4),5,_,9;have e:(if (32:Int)<(n:Int)-32*(j:Int)then (32:Int)else (n:Int)-32*(j:Int))=((wide n j:Nat):Int):=by
  unfold wide;split<;>lia
 rw[<-e]at q;exact q
inductive Jl(vs:List V)(H:Hp)(Q:VK)(_e1:XK):Prop
 | mk (t ah:Addr) (ns:List Int) (rest:List V) (j:Nat) (_:vs=[.ref t,.int (j:Int),.int (dZ ns j)]) (_:Tab H t ah ns rest) (_:aK ns) (_:32*j<ns.length) (_:∀m H',qF ns j m->aM H H'->Q (.int m) H')
theorem Kg(T:Tx K mg a):bc P w K mg base Wt 5 a.afn a.aeU ["tables","number","block"] Jl:=by
 refine T.afr.F.Wv Kc λn A f s H o Q E c h=>?_;obtain⟨t,l,b,rest,j,rfl,d,k,r,q⟩:=h;exists _,(aB (aG (aD bj (aW T.ae5 (Hc T) c (Wn 0 (Wn 1 aj))) (aW T.afq (Le T) c (Wn 2 (au (aW T.ada (xj T) c (Wn 1 (au (bD bO (pv 0) aA) aj))) aj))))));have i:j<=many b.length:=by
  unfold many;lia
 have p:1<=wide b.length j/\wide b.length j<=32:=by
  unfold wide;lia
 exists 8,t,l,b,rest,j,7,d,i;refine(8,9,t,_,5,Wq.of d.tup,RG _ _ _ d.few,j,b.length,7,6,2);refine(dZ b j,((wide b.length j:Nat):Int),7,6,6,λM m e g=>(5,2));rw[aaz]at e;exact q _ m (qF.of k e.1 e.2) g
structure KB(H:Hp)(t ah nd bl:Addr)(ns lows:List Int)(S:Nat)(xs:List V):Prop where
 tab:Tab H t ah ns [.ref nd]
 nds:H nd=some (.tup xs)
 bls:H bl=some (.lst ‹bw ns›)
 low:qe ns lows
 sz:gk lows.length S
 heap:xQ lows S 1 xs
inductive rQ(K:PySem.W.Frag)(vs:List V)(H:Hp)(Q:VK)(_e1:XK):Prop
 | mk (p:Addr) (ns:List Int) (_:vs=[.ref p]) (_:My K H p !!ns) (_:ns.length<=4096) (_:aK ns) (_:Tree ns) (_:∀r t ah nd bl lows S xs H',H bl=none->H r=none->H t=none->aM H H'->H' r=some (.tup [.ref t,.ref bl])->KB H' t ah nd bl ns lows S xs->Q (.ref r) H')
theorem sW(T:Tx K mg a):bc P w K mg base Wt 6 a.abm a.abj ["bits"] (rQ K):=by
 refine T.abt.F.Wv cZ λa2 A U s H vs Q E n h=>?_;obtain⟨p,d,rfl,hS,Z,L,ht,q⟩:=h;refine(_,(ao (bC (bI T.aaH (ji T) ∅ n vd rfl (Wn 0 aj)))
  (ao (aC 1 cZ.nd (bI T.abK (nu T) ∅ n vd rfl (Wn 0 aj)))
  (ao (rT (i:=2) cZ.nd rfl (ah1 rfl) (bD bO (pv 1) aA))
  (ao (aC 3 cZ.nd (bD bO (pv 1) aA))
  (ao (Ey (i:=4) cZ.nd rfl rfl rfl ((bR.one (j:=2) rfl (ag3 rfl) rfl rfl (ag3 rfl)),7,4) (Bh rfl T.ab7 (Wn 3 aj)) (λ_ _ _ _=>(aW T.afr (Kg T) n (Wn 2 (Wn 0 (Wn 1 aj))))))
  (aB (aG (fc (au (fc (au (bD bO (pv 2) aA) (au (bD bO (pv 2) aA) (au (bY gM rfl T.adX Tw.mZ (au (aW T.ae3 (G6 T) n (Wn 4 aj)) aj)) aj)))) (Wn 3 aj)))))))))),2)
 refine(9,p,d,7,hS,.inl (Z,L,ht,λH1 g=>?_));refine(9,p,d,7,g.seq hS,.inl (Z,L,λr b t M H2 O C W o u=>?_));exists 9,r,_,5,Wq.of W,7;exists 9,r,_,5,Wq.of W,7;have e:=aX d;have a1:many d.length<=128:=by
  unfold many;lia
 exists 9,b,9,My.of u;refine GZ (qF d) (My.of u) (by rw[e,sizeLine_eq];lia) (λi c H' Q J sm qq=>?_) λD H3 G hD f xD m hR=>?_
 ·have I:=(aad.mp J).1;rw[e]at I;rw[jU I]at J;cases J;refine(8,9,t,M,d,[],i,7,o.same sm,L,2,qq);unfold many at I;lia
 have R:qe d G:=(by rw[m,e],hR);exists 9,t,_,5,Wq.of (f _ _ o.tup),7;exists 9,t,_,5,Wq.of (f _ _ o.tup),7;refine(9,D,G,7,My.of xD,6,λS r4 H4 V Zd a0 B x4 hv=>?_);refine(r4,9,.inl (My.of x4,λY N=>?_));have z:=aq N (.tup V);refine(sl3,λX k=>?_);have y:=aq k (.tup [.int (d.length:Int),.ref M,.ref Y]);refine(9,sl2,λr7 l=>?_);have x:=aq l (.tup [.ref X,.ref b]);have v:=f.trans (B.trans (z.trans (y.trans x)));refine q r7 X M Y b G S V _ (g.free O) ((g.trans (C.trans (f.trans (B.trans (z.trans y))))).free l) ((g.trans (C.trans (f.trans (B.trans z)))).free k) (g.trans (C.trans v)) aa ((x _ _ aa,v _ _ o.Z3,aae _),x _ _ (y _ _ aa),v _ _ u,R,Zd,hv)
theorem TabAt.same{H':Hp}{P:Addr}{pos:Pos}{q:Str}(h:TabAt H P pos q)(s:aM H H'):TabAt H' P pos q:=by
 obtain⟨d,k,j,b⟩:=h;exists d,s _ _ k,j;rcases b with b|⟨l,e,c,t,i,g,f⟩
 ·exact .inl b
 ·exact .inr (l,e,c,t,i,s _ _ g,f)
def iu(P:Addr)(H H':Hp):Prop:=∀b o,H b=some o->b≠P->H' b=some o
theorem iu.trans{P:Addr}(s:iu P H H0)(c:iu P H0 H'):iu P H H':=λb o e n=>c b o (s b o e n) n
theorem iu.of{P:Addr}(s:aM H H0):iu P H H0:=λb o e _=>s b o e
theorem TabAt.ne{P b:Addr}{pos:Pos}{q:Str}{o:HO}(h:TabAt H P pos q)(e:H b=some o)(n:∀ps,o ≠ .WW ps):b≠P:=λz=>by
 obtain⟨ps,c,_⟩:=h;rw[z,c]at e;cases e;exact n _ rfl
inductive FP(K:PySem.W.Frag)(Pt:Addr)(vs:List V)(H:Hp)(Q:VK)(_e1:XK):Prop
 | mk (p:Addr) (xs:List V) (_:vs=[.ref p]) (_:My K H p xs) (_:TabAt H Pt (zc gJ) iW.qual) (_:∀f r H2 cs,H f=none->H r=none->iu Pt H H2->TabAt H2 Pt (zc gJ) iW.qual->qt H2 f iW cs [.ref r]->H2 r=some (.lst xs)->Q (.ref f) H2)
theorem G8(T:Tx K mg a)(B:Bs mg base a):bc P w K mg base Wt 1 a.aeQ a.acI ["blocks"] (FP K a.W9):=by
 refine Xx.maker1 (T:=iW) (pos:=zc gJ) T.ae2.F pC Gx B.bm T.aft B.afu (λu H Q E h=>?_) rfl (λL A f s H u Q E O h=>?_)
 ·obtain⟨p,g,rfl,_⟩:=h;rfl
 obtain⟨p,g,rfl,D,l,q⟩:=h;exists _,(rT (i:=1) pC.nd rfl (ah1 rfl) (bY cQ rfl T.X8 Tw.dM (Wn 0 aj)));refine(9,p,9,.inl D,λr c=>?_);have d:=aq c (.lst g);have v:r≠a.W9:=λz=>by
  obtain⟨M,t,_⟩:=l;rw[<-z,c]at t;cases t
 refine(TabAt.same l d,[.ref r],λj m e=>?_,7,λG I J C N k y x=>q G r J I (d.free C) c (λb o e n=>k b o (d _ _ e) n) y x (k _ _ aa v))
 match j,e with
 |0,e=>cases e;exact(9,7)
 |j+1,e=>simp at e
inductive uG(vs:List V)(H:Hp)(Q:VK)(_e1:XK):Prop
 | mk (p:Addr) (ds:List Int) (_:vs=[.ref p]) (_:H p=some (.lst !!ds)) (_:bW ds) (_:ds.length<=2048) (_:∀H',aM H H'->Q .non H')
theorem ux(T:Tx K mg a):bc P w K mg base Wt 1 a.abN a.abn ["depths"] uG:=by
 refine T.ab1.F.Wv il λO A l s H R Q E S h=>?_;obtain⟨p,b,rfl,e,k,U,q⟩:=h;refine(_,(ao (bx (aO qK (aL aN rfl T.WF Tw.bB (Wn 0 aj)) (aV (v:=.int 2048) rfl T.ae8 (_,7))) (aB nO) aQ)
  (ao (bx (PW.pt (tO (aO dm (aL aN rfl T.WF Tw.bB (Wn 0 aj)) aA) (o5 (aO wF (bD dI (pv 0) aA) aA)))) (aB nO) aQ)
  (aB (bA PassesOwn.never rfl (sS rfl T.ZX Tw.rJ (Wn 0 (au (bF cI (pv 0) (bH aA) cH) aj))) (rY rfl (dw (aR 1 il.nd) (dw (aR 2 il.nd) nY))) (aB (bx (gY (pU yZ yZ aA (pv 2) (aD bj (pv 1) aA))) (aB nO) aQ)))))),2)
 have C:‹b›.length=b.length:=aaa ..;have W:0<b.length:=(aad.mp k.1).1;refine(9,p,9,.inl (My.of e),5,9,fB (λc=>?_) λc=>?_)
 ·have c:(2048:Int)<(‹b›.length:Int):=of_decide_eq_true c;rw[C]at c;lia
 refine(9,p,9,.inl (My.of e),7,9,fB (λc=>?_) λc=>?_)
 ·have c:V.int (‹b›.length:Int)=V.int 0:=of_decide_eq_true c;injection c with c
  rw[C]at c;lia
 refine(9,p,_,5,My.of e,uJ (i:=0) k.1,7,9,Iu rfl ?_);refine(8,9,p,9,My.of e,λc L=>?_);have j:=aq L (.lst (dR ‹b› (some 1) none));have M:dR ‹b› (some 1) none=(b.drop 1).map V.int:=CN b 1;have m:upd H c (.lst (dR ‹b› (some 1) none)) c=some (.lst ‹b.drop 1›):=by rw[aa,M]
 generalize upd H c (.lst (dR ‹b› (some 1) none))=N at *;exists p,c,_,9,My.of (j _ _ e),My.of m;refine Ba (xs:=b.map V.int) (ys:=(b.drop 1).map V.int) (λi g f=>(∃o n,g=[!!!p,o,n])/\aM N f) ((3,3,7),aM.refl _) ?_ ?_ ?_
 ·rintro i g f _ ⟨_,d⟩;exact(My.of (d _ _ (j _ _ e)),My.of (d _ _ m))
 ·rintro i x y g f t I G ⟨⟨o,n,rfl⟩,d⟩ ht;obtain⟨u,J,rfl⟩:=int_at I;obtain⟨v,r,rfl⟩:=int_at G;rw[agm,ah0]at r;have B:=k.2 i u v J r;have D:=aq ht (.tup [.int u,.int v]);exists t,9,Wq.of aa,7,_,9,5;exact(9,5,9,fB (λ_=>(9,5,5,9,Iu B.2 ((_,9),d.trans D))) λz=>absurd (decide_eq_true B.1) z)
 ·rintro g f ⟨_,d⟩;exact q f (j.trans d)
inductive wB(vs:List V)(H:Hp)(Q:VK)(_e1:XK):Prop
 | mk (p:Addr) (ds:List Int) (_:vs=[.ref p]) (_:H p=some (.lst !!ds)) (_:bW ds) (_:ds.length<=2048) (_:∀r H',H r=none->aM H H'->H' r=some (.lst ‹brk ds 0›)->Q (.ref r) H')
theorem uZ(T:Tx K mg a):bc P w K mg base Wt 2 a.ace a.abO ["depths"] wB:=by
 refine T.acB.F.Wv dU λa1 A R s H vs Q E hr h=>?_;obtain⟨p,j,rfl,G,I,hl,q⟩:=h;refine(_,(ao (bC (aW T.ab1 (ux T) hr (Wn 0 aj)))
  (ao (aC 1 dU.nd (bM aj))
  (ao (aC 2 dU.nd aA)
  (ao (bA PassesOwn.never rfl (bJ (pv 0)) (aR 3 dU.nd) (ao (bC (fD PySem.F.plainAttrs_list PySem.F.slot_list_extend PySem.F.type_list_extend gH (pv 1) (au (aD wZ (bM (au aA aj)) (aD dF (pv 2) (pv 3))) aj)))
  (ao (bC (fD PySem.F.plainAttrs_list PySem.F.slot_list_append PySem.F.type_list_append bZ (pv 1) (au aA aj)))
  (aB (aC 2 dU.nd (aD bj (pv 3) aA))))))
  (aB (aG (aD dG (pv 1) (aD wZ (bM (au aA aj)) (pv 2))))))))),2)
 have Y:=kO I.dp;refine(9,p,j,7,G,I,hl,λH1 W=>?_);refine(sl0,λb X=>?_);have U:=W.trans (aq X (.lst []));have xb:upd H1 b (.lst []) b=some (.lst ‹([]:List Int)›):=aa;have v:H b=none:=W.free X;generalize upd H1 b (.lst [])=H2 at *;exists 9,p,7,(_,My.of (U _ _ G));refine bV (xs:=j.map V.int) (λi y m=>(∃(u:Int) (D:Option V) (e:List Int),y=[!!!p,!!!b,!!!!u,D]/\m b=some (.lst !!e)/\e++brk (j.drop i) u=brk j 0/\Dp (j.drop i) u)/\aM H m) ((0,3,[],7,xb,7,I.dp),U) ?_ ?_ ?_
 ·rintro i y m _ ⟨_,n⟩;exact My.of (n _ _ G)
 ·rintro i x y m hx ⟨⟨u,D,e,rfl,f,g,hd⟩,n⟩;obtain⟨d,t,rfl⟩:=int_at hx;have hi:=(aad.mp t).1;have O:j.drop i=d::j.drop (i+1):=by
   rw[agv hi];congr 1;exact(aad.mp t).2
  rw[O]at g hd;obtain⟨d0,du,N⟩:=hd;have c:=congrArg ahY g;simp only[brk,aac,agb,aao]at c;rw[Y]at c;have hu:u-d<=4096:=by lia
  have ub:e.length<=4096:=by lia
  exists 9,.inl (7,_,My.of f);refine(sl1,λC h1=>(8,5,C,u-d,[.int 0],7,7,aa,6,6,2,λz M=>?_))
  ·rw[sizeLine_eq];show 1*_<=_;lia
  have S:=(aq h1 (.lst [.int 0])).trans (aq M (.lst (aap (u-d).toNat [.int 0]).flatten));have x3:upd (upd m C (.lst [.int 0])) z (.lst (aap (u-d).toNat [.int 0]).flatten) z=some (.lst ‹(aap (u-d).toNat (0:Int))›):=by
   rw[aa,Ik]
  have J:=S _ _ f;have L:=n.trans S;generalize upd (upd m C (.lst [.int 0])) z (.lst (aap (u-d).toNat [.int 0]).flatten)=Z at *;exists b,z,5,J,x3,?_
  ·rw[aaa,aaa,agb,sizeLine_eq];lia
  have o:upd Z b (.lst (e.map V.int++(aap (u-d).toNat (0:Int)).map V.int)) b=some (.lst ‹e++aap (u-d).toNat 0›):=by
   rw[aa,aag]
  have Yb:=aZ L v (.lst (e.map V.int++(aap (u-d).toNat (0:Int)).map V.int));generalize upd Z b (.lst (e.map V.int++(aap (u-d).toNat (0:Int)).map V.int))=H4 at *;exists 9,.inl (7,_,My.of o),b,5,o,?_
  ·rw[aaa,aac,agb,sizeLine_eq];lia
  refine(9,5,(d+1,_,e++aap (u-d).toNat 0++[1],7,2,2,N),aZ Yb v _)
  ·rw[aa,aag (l₂:=[1])];rfl
  ·rw[<-g];simp[brk]
 ·rintro y m ⟨⟨u,D,e,rfl,f,g,hd⟩,n⟩;rw[aaa,aif]at g hd;have hu:0<=u:=hd;have c:=congrArg ahY g;simp only[brk,aac,agb]at c;rw[Y]at c;exists 9;refine Je (i:=2) (k:=u) (xs:=[.int 0]) (λQ' q=>q) rfl ⋯ ∅ ⋯ λp1 H4 a0 B o=>?_;rw[Ik]at o;refine(b,p1,5,B _ _ f,o,2,λp2 r=>?_)
  ·rw[aaa,aaa,agb,sizeLine_eq];lia
  refine q p2 _ ((n.trans B).free r) (n.trans (B.trans (aq r _))) ?_;rw[aa,<-aag];exact congrArg (λl:List Int=>some (HO.lst !!l)) g
inductive Ax(vs:List V)(H:Hp)(Q:VK)(E:XK):Prop
 | mk (p:Addr) (ds:List Int) (_:vs=[.ref p]) (_:H p=some (.lst !!ds)) (_:ds.length<=2048) (_:bW ds) (_:∀r t ah nd bl lows S xs H',H bl=none->aM H H'->H' r=some (.tup [.ref t,.ref bl])->KB H' t ah nd bl (brk ds 0) lows S xs->Q (.ref r) H')
theorem qb(T:Tx K mg a):bc P w K mg base Wt 7 a.ady a.acV ["depths"] Ax:=by
 refine T.ab4.F.Wv zU λC A e s H D Q E g h=>?_;obtain⟨p,i,rfl,u,v,d,q⟩:=h;exists _,(aB (aG (aW T.abt (sW T) g (au (aW T.acB (uZ T) g (Wn 0 aj)) aj))));refine(9,p,i,7,u,d,v,λb M G f l=>?_);have L:=iz d;exact(b,brk i 0,7,My.of l,6,eN _ _,qC d,λr t z n y c S j B x J I m k o=>q r t z n y c S j B (f.free x) (f.trans m) k o)
def Xa(ns:List Int):Prop:=∀z∈ns,-(10:Int)^60<z/\z<10^60
inductive uT(K:PySem.W.Frag)(C1:Addr)(C2:Addr)(vs:List V)(H:Hp)(Q:VK)(E:XK):Prop
 | mk (p:Addr) (ns:List Int) (_:vs=[.ref p]) (_:My K H p !!ns) (_:((ns.length<=4096/\Xa ns/\Q .non H)\/(4096<ns.length/\E (.ref C1) none H)\/(ns.length<=4096 /\ ¬Xa ns/\E (.ref C2) none H)))
theorem v9(T:Tx K mg a):bc P w K mg base (WX P w) 1 a.acf a.abP ["signs"] (uT K a.Xk a.X7):=by
 refine T.acC.F.Xg mO (λu H Q E h=>?_) (λB A r s H u Q E C h=>?_)
 ·obtain⟨p,j,rfl,_⟩:=h;rfl
 obtain⟨p,j,rfl,n,h⟩:=h;refine(_,(ao (bx (aO qK (aL aN rfl T.WF Tw.bB (Wn 0 aj)) (aV (v:=.int 4096) rfl T.ae9 (_,7))) (aB (dg T.afa rfl (au dH aj))) aQ)
  (aB (bA fj rfl (bJ (pv 0)) (aR 1 mO.nd) (aB (bx (gY (pU tU tU (oH jD (aD rG aA aA)) (pv 1) (aD rG aA aA))) (aB (dg T.afA rfl (au dH aj))) aQ))))),2)
 refine(9,p,9,.inl n,5,9,fB (λc=>?_) λc=>?_)
 ·have c:=of_decide_eq_true c;rw[aaa]at c;rcases h with ⟨d,_⟩|⟨_,q⟩|⟨d,_⟩
  ·lia
  ·exact(sl1,q)
  ·lia
 have c:¬(4096:Int)<(‹j›.length:Int):=λz=>c (decide_eq_true z);rw[aaa]at c;exists 9,p,7,(_,n);refine bV (xs:=j.map V.int) (λi g e=>(∃k,g=[!!!p,k])/\e=H/\Xa (j.take i)) ((3,7),7,λx b=>by simp at b) ?_ ?_ ?_
 ·rintro i g e _ ⟨_,rfl,_⟩;exact n
 ·rintro i x g e b ⟨⟨k,rfl⟩,rfl,l⟩;obtain⟨z,t,rfl⟩:=int_at b;have f:¬(-(10:Int)^60<z/\z<10^60)->E (.ref a.X7) none e:=λnz=>by
   rcases h with ⟨_,d,_⟩|⟨d,_⟩|⟨_,_,q⟩
   ·exact absurd (d z (aaw t)) nz
   ·lia
   ·exact q
  refine(5,(4,4,4),8,5,9,fB (λo=>?_) λo=>(9,cF (sl1,f λy=>o (decide_eq_true y.1))));refine(5,(4,4,4),5,9,fB (λm=>(sl1,f λy=>?_)) λm=>((_,7),7,λx b=>?_))
  ·rw[decide_eq_true (show z<10^(60:Int).toNat from y.2)]at m;exact absurd m ∅
  ·rw[af7,t]at b;rcases aaG.mp b with b|b
   ·exact l x b
   ·rw[aan.mp b];exists of_decide_eq_true o;by_cases y:z<10^(60:Int).toNat
    ·exact y
    ·exact absurd (by rw[decide_eq_false y];rfl) m
 ·rintro g e ⟨_,rfl,l⟩;rw[aaa,agi]at l;rcases h with ⟨_,_,q⟩|⟨d,_⟩|⟨_,d,_⟩
  ·exact q
  ·lia
  ·exact absurd l d
def rks(ms ns:List Int):List Int:=ns.map λz=>(ms.idxOf z:Int)
inductive v8(K:PySem.W.Frag)(vs:List V)(H:Hp)(Q:VK)(_e1:XK):Prop
 | mk (q p:Addr) (ms ns:List Int) (_:vs=[.ref q,.ref p]) (_:My K H q !!ms) (_:My K H p !!ns) (_:ms.Nodup) (_:(∀z∈ns,z∈ms)) (_:ms.length<=4096) (_:ns.length<=4096) (_:∀r H',H r=none->aM H H'->H' r=some (.lst ‹rks ms ns›)->Q (.ref r) H')
theorem v5(T:Tx K mg a):bc P w K mg base Wt 1 a.ach a.abQ ["kinds","signs"] (v8 K):=by
 refine T.acD.F.Wv fU λa0 A L s H vs Q E S h=>?_;obtain⟨R,p,u,ns,rfl,X,W,nd,J,hm,hn,q⟩:=h;refine(_,(ao (rT (i:=2) fU.nd rfl (ah1 rfl) vB)
  (ao (bA PassesOwn.never rfl (Bh rfl T.ab7 (Wn 0 aj)) (rY rfl (dw (aR 3 fU.nd) (dw (aR 4 fU.nd) nY))) (aB (Aa (ag4 (ahG (by decide:1<=64) _) S.units) (pv 2) (pv 4) (pv 3) rfl)))
  (aB (aG (kJ rfl (bR.one (j:=2) rfl (ag3 rfl) rfl rfl (ag3 rfl)) (bJ (pv 1)) (λ_ _ _ _=>eX) (λ_ _ _ _=>(Q0 (ag4 (ahG (by decide:1<=64) _) S.units) (pv 1) (pv 0) (λ_ _=>rfl)))))))),2)
 intro d hd;have N:=aq hd (.dK []);exists 9,R,9,N.seq X;refine Ds (xs:=u.map V.int) (λi t r=>(∃G C,t=[!!!R,!!!p,!!!d,G,C])/\aM H r /\ ∃b:List (Key×V),r d=some (.dK b)/\b.length<=i /\ ∀(j:Nat) (z:Int),j<i->u[j]?=some z->gK b (Sum.inl z)=some (.int (j:Int))) ((3,3,7),N,[],aa,aae _,λj z U=>absurd U (aht _)) ?_ ?_ ?_
 ·rintro i t r _ ⟨_,c,_⟩;exact c.seq X
 ·rintro i x t r pt hx ⟨⟨G,C,rfl⟩,c,b,B,hl,v⟩ Zt;obtain⟨z,f,rfl⟩:=int_at hx;have I:=(aad.mp f).1;have M:=aq Zt (.tup [.int (i:Int),.int z]);exists pt,9,Wq.of aa,7,_,9,5;exists 8,9,d,9,.inl (b,Sum.inl z,M _ _ B,7,by rw[sizeLine_eq];lia,7);refine((_,9),aZ (c.trans M) hd _,_,aa,2,λj y U o=>?_)
  ·have:=Cy b (Sum.inl z) (.int (i:Int));lia
  ·rw[Cg];by_cases e:y=z
   ·subst e;rw[if_pos rfl];have:j=i:=by
     have n:=(aad.mp o).1;rw[aab n]at o;rw[aab I]at f;have e:=(aat o).trans (aat f).symm;have O:=agf.mp nd;rcases ah7 j i with l|l|l
     ·exact absurd e (O j i n I l)
     ·exact l
     ·exact absurd e.symm (O i j I n l)
    rw[this]
   ·rw[if_neg (λz=>e (Sum.inl.inj z))];refine v j y ?_ o;rcases agc j i with l|l
    ·exact l
    ·have:j=i:=by lia
     subst this;rw[f]at o;exact absurd (aat o).symm e
 ·rintro t r ⟨⟨G,C,rfl⟩,c,b,B,hl,v⟩;rw[aaa]at v;exists 9,p,7,(_,c.seq W);refine rn (λz=>(u.idxOf z:Int)) (c.seq W) (by rw[sizeLine_eq];lia) (λ_ _ _ q=>q) (λz H2 Q f Z q=>(8,d,9,2,q)) λD Y=>?_
  ·have f:=J z f;have m:=ahS f;have e:=v (u.idxOf z) z m (by rw[aab m];exact congrArg some (ai5 m));have g:=Be.k (k:=Sum.inl z) (Z _ _ B);rw[e]at g;exact g
  ·exact q D _ (c.free Y) (c.trans (aq Y _)) aa
inductive wg(vs:List V)(H:Hp)(Q:VK)(_e1:XK):Prop
 | mk (n:Nat) (_:vs=[.int (n:Int)]) (_:n<=100000) (_:∀h:Nat,gk n (2^h)->Q (.int (h:Int)) H)
theorem Oj(h:Nat):Builtin.Int.intBits ((2^h:Nat):Int)=h+1:=by
 unfold Builtin.Int.intBits;have:0<2^h:=ajr h;rw[if_neg (by rw[beq_iff_eq];lia),Int.natAbs_natCast,Nat.log2_two_pow]
theorem nG(T:Tx K mg a):bc P w K mg base Wt 2 a.aci a.abR ["kind_count"] wg:=by
 refine T.aa4.F.Wv vU λj A b s H k Q E c h=>?_;obtain⟨n,rfl,d,q⟩:=h;exists _,(aB (aG (aD dF (Tr PySem.F.plainAttrs_int PySem.F.slot_int_bit_length PySem.F.type_int_bit_length xR (aW T.adP (uY T) c (Wn 0 aj))) aA)));refine(9,n,7,d,λS f=>?_);obtain⟨h,rfl,i,g⟩:=f;exists 7,9,7,5;have e:((Builtin.Int.intBits ((2^h:Nat):Int):Nat):Int)-1=(h:Int):=by
  rw[Oj];lia
 show Q (.int (((Builtin.Int.intBits ((2^h:Nat):Int):Nat):Int)-1)) H;rw[e];exact q h (h,7,i,g)
def Zy(os:List Int)(k:Nat):List Int:=(os.filter λz=>bit z k=0)++os.filter λz=>bit z k=1
theorem HF(os:List Int)(k:Nat):(Zy os k).length=os.length:=by
 unfold Zy;rw[aac]
 induction os with
 |nil=>rfl
 |cons z os b=>
  have:bit z k=0\/bit z k=1:=by
   unfold bit;lia
  rcases this with e|e
  ·simp only[agQ,e,decide_true,if_true,aao,show decide ((0:Int)=1)=false from rfl,agP,if_false];lia
  ·simp only[agQ,e,decide_true,if_true,aao,show decide ((1:Int)=0)=false from rfl,agP,if_false];lia
theorem BK(os:List Int)(f:Int->Int)(c:Int):((os.zip (os.map f)).filter λp=>decide (V.int p.2=V.int c)).map (λp=>p.1)=os.filter λz=>f z=c:=by
 induction os with
 |nil=>rfl
 |cons z os b=>
  rw[aax,ah3,agQ,agQ];by_cases e:f z=c
  ·rw[if_pos (decide_eq_true (by rw[e])),if_pos (decide_eq_true e),aax,b]
  ·rw[if_neg (by simp[e]),if_neg (by simp[e]),b]
def mj(os bs:List Int):List Int:=((os.zip bs).filter λp=>decide (V.int p.2=V.int 0)).map (λp=>p.1)++((os.zip bs).filter λp=>decide (V.int p.2=V.int 1)).map (λp=>p.1)
theorem Dj(os:List Int)(k:Nat):mj os (os.map λz=>bit z k)=Zy os k:=by
 unfold mj Zy;rw[BK,BK]
inductive JN(K:PySem.W.Frag)(vs:List V)(H:Hp)(Q:VK)(_e1:XK):Prop
 | mk (p r:Addr) (os bs:List Int) (_:vs=[.ref p,.ref r]) (_:My K H p !!os) (_:My K H r !!bs) (_:bs.length=os.length) (_:os.length<=70000) (_:∀l H',H l=none->aM H H'->H' l=some (.lst ‹mj os bs›)->Q (.ref l) H')
theorem yG(T:Tx K mg a):bc P w K mg base Wt 1 a.afo a.aeW ["order","bits"] (JN K):=by
 refine T.aeC.F.Wv sO λJ A m s H L Q E M h=>?_;obtain⟨p,r,d,g,rfl,f,e,o,N,q⟩:=h;refine(_,(ao (pQ (i:=2) sO.nd rfl rfl rfl (bR.zero,7,4) (sS rfl T.ZX Tw.rJ (Wn 0 (Wn 1 aj))) (λ_ _ _ _=>(uM (aO dm (pv 1) aA))) (λ_ _ _ _=>(pv 0)))
  (ao (pQ (i:=3) sO.nd rfl rfl rfl (bR.zero,7,4) (sS rfl T.ZX Tw.rJ (Wn 0 (Wn 1 aj))) (λ_ _ _ _=>(uM (aO dm (pv 1) aA))) (λ_ _ _ _=>(pv 0)))
  (aB (aG (aD dG (pv 2) (pv 3)))))),2)
 exists 8,p,r,_,9,f,e;refine yM (os:=d) (bs:=g) (λ_ y=>decide (V.int y=V.int 0)) (λx _=>x) f e o.symm (by rw[sizeLine_eq];lia) (λx y k Q j q=>(9,7,9,q)) (λx y k Q j q=>(9,q)) λB R I b v=>?_;exists 8,p,r,_,9,b.seq f,b.seq e;refine yM (os:=d) (bs:=g) (λ_ y=>decide (V.int y=V.int 1)) (λx _=>x) (b.seq f) (b.seq e) o.symm (by rw[sizeLine_eq];lia) (λx y k Q j q=>(9,7,9,q)) (λx y k Q j q=>(9,q)) λz O G t u=>?_;refine(8,B,z,5,t _ _ v,u,2,λl c=>?_)
 ·have D:=agT (λp:Int×Int=>decide (V.int p.2=V.int 0)) (d.zip g);have C:=agT (λp:Int×Int=>decide (V.int p.2=V.int 1)) (d.zip g);rw[ahQ]at D C;rw[aaa,aaa,aaa,aaa,sizeLine_eq];lia
 have n:=b.trans t;refine q l _ (n.free c) (n.trans (aq c _)) ?_;rw[aa];unfold mj;rw[aag]
def Ww:Nat->List Int->List (List Int)
 |0,_=>[]
 |k+1,b=>(b.map λz=>bit z k)::Ww k (Zy b k)
theorem eO:∀(k:Nat) (os:List Int),(Ww k os).length=k
 |0,_=>rfl
 |k+1,os=>by
  unfold Ww;rw[aao,eO k]
theorem lq:∀(k:Nat) (os bs:List Int),bs∈Ww k os->aK bs/\bs.length=os.length
 |0,_,_,h=>by cases h
 |k+1,os,bs,h=>by
  unfold Ww at h;rcases aav.mp h with rfl|h
  ·refine(λx b=>?_,aaa ..);obtain⟨z,_,rfl⟩:=afs.mp b;unfold bit;lia
  ·obtain⟨d,c⟩:=lq k _ _ h;exact(d,c.trans (HF os k))
def qI(H:Hp)(c:List Addr)(d:List (List Int)):Prop:=c.length=d.length /\ ∀(i:Nat) (l:Addr) (b:List Int),c[i]?=some l->d[i]?=some b->H l=some (.lst !!b)
theorem qI.same{H':Hp}{c:List (List Int)}(h:qI H i c)(s:aM H H'):qI H' i c:=(h.1,λb l d f e=>s _ _ (h.2 b l d f e))
theorem qI.snoc{j:List (List Int)}{l:Addr}{xs:List Int}(h:qI H i j)(e:H l=some (.lst !!xs)):qI H (i++[l]) (j++[xs]):=by
 refine(by rw[aac,aac,h.1];rfl,λb k g d f=>?_);rcases agc b i.length with c|c
 ·rw[af4 c]at d;rw[af4 (by rw[<-h.1];exact c)]at f;exact h.2 b k g d f
 ·rw[agd c]at d;rw[agd (by rw[<-h.1];exact c),<-h.1]at f;have:b-i.length=0:=by
   have:=(aad.mp d).1;simp at this;lia
  rw[this]at d f;cases d;cases f;exact e
theorem qI.upd{d:List (List Int)}{x:Addr}{o:HO}(h:qI H i d)(f:x∉i):qI (upd H x o) i d:=
 (h.1,λb l e c g=>by rw[aJ (λz:l=x=>f (z ▸ aaw c))];exact h.2 b l e c g)
def Y4(K:PySem.W.Frag)(H:Hp)(r o:Addr)(xs:List V):Prop:=(Rd H o (.lst xs)/\o≠r) \/ ∀b,My K b o xs
theorem Y4.of{r o:Addr}{xs:List V}(h:My K H o xs)(b:H r=none):Y4 K H r o xs:=by
 rcases h with h|h
 ·refine .inl (h,λz=>?_);subst z;unfold Rd at h;rcases h with h|⟨_,h⟩
  ·rw[b]at h;cases h
  ·rw[b]at h;cases h
 ·exact .inr λ_=>.inr h
theorem Y4.sq{r o:Addr}{xs:List V}(h:Y4 K H r o xs):My K H o xs:=by
 rcases h with h|h
 ·exact .inl h.1
 ·exact h H
theorem Y4.to{H':Hp}{r o:Addr}{xs:List V}(h:Y4 K H r o xs)(s:∀b u,b≠r->H b=some u->H' b=some u):Y4 K H' r o xs:=by
 rcases h with ⟨h,n⟩|h
 ·refine .inl (2,n);unfold Rd at h ⊢;rcases h with h|⟨c,h⟩
  ·exact .inl (s _ _ n h)
  ·exact .inr (c,s _ _ n h)
 ·exact .inr h
inductive w6(K:PySem.W.Frag)(vs:List V)(H:Hp)(Q:VK)(_e1:XK):Prop
 | mk (p:Addr) (os:List Int) (n:Nat) (_:vs=[.ref p,.int (n:Int)]) (_:My K H p !!os) (_:os.length<=4096) (_:n<=4096) (_:∀(h:Nat) (r:Addr) (ls:List Addr) (H':Hp),gk n (2^h)->h<=12->H r=none->aM H H'->H' r=some (.lst (ls.map V.ref))->qI H' ls (Ww h os)->(∀l∈ls,H l=none)->Q (.ref r) H')
theorem Cd{n :Nat}(g:n<=4096)(b:gk n (2^z)):z<=12:=by
 obtain⟨f,e,i,d⟩:=b;have:z=f:=(ajg (a:=2) ∅).mp e;subst this;rcases agc 12 z with c|c
 ·have:=d 12 c;lia
 ·exact c
theorem xT(T:Tx K mg a):bc P w K mg base Wt 3 a.acX a.acj ["ranks","kind_count"] (w6 K):=by
 refine T.adc.F.Wv dB λa4 A a3 s H vs Q E hr h=>?_;obtain⟨p,t,n,rfl,hS,W,hn,q⟩:=h;refine(_,(ao (aC 2 dB.nd (bM aj))
  (ao (aC 3 dB.nd (pv 0))
  (ao (bA PassesOwn.never rfl (DQ rfl T.XD (au (aD dF (aW T.aa4 (nG T) hr (Wn 1 aj)) aA) (au (oH jD aA) (au (oH jD aA) aj)))) (j9 (i:=4) dB.nd rfl (ah1 rfl)) (ao (kE (i:=5) dB.nd rfl rfl rfl (bR.one (j:=4) rfl (ag3 rfl) rfl rfl (ag3 rfl)) (bJ (pv 3)) (λ_ _ _ _=>eX) (λ_ _ _ _=>(aW T.aeB (yI T) hr (Wn 0 (Wn 1 aj)))))
  (ao (bC (fD PySem.F.plainAttrs_list PySem.F.slot_list_append PySem.F.type_list_append bZ (pv 2) (Wn 5 aj)))
  (aB (aC 3 dB.nd (aW T.aeC (yG T) hr (Wn 3 (Wn 5 aj))))))))
  (aB (aG (pv 2)))))),2)
 refine(sl0,λr v=>(9,2));have s0:=aq v (.lst []);refine(9,n,7,6,λh hz=>?_);have a2:=Cd hn hz;refine(5,8,(h:Int)-1,-1,7,6,4,6,4,2);refine Ea (λi Z m=>∃(o:Addr) (c:List Int) (d:List Addr) (k4 k5:Option V) (C:List (List Int)),Z=[!!!p,some (.int (n:Int)),!!!r,!!!o,k4,k5]/\aM H m/\Y4 K m r o ‹c›/\c.length=t.length/\m r=some (.lst (d.map V.ref))/\qI m d C/\C.length=i/\(∀l∈d,H l=none/\l≠r)/\Ww h t=C++Ww (h-i) c) ?_ ?_ ?_
 ·exact(p,t,[],3,3,[],7,s0,(Y4.of hS v).to (λb u n e=>by rw[aJ n];exact e),7,aa,(7,λi l xs e=>by cases e),7,(λl W=>nomatch W),7)
 ·rintro i Z m hi ⟨o,c,d,k4,k5,C,rfl,G,hO,O,f,g,B,y,X⟩;have ei:(h:Int)-1+(i:Int) * -1=((h-1-i:Nat):Int):=by lia
  rw[ei];obtain⟨k,hk⟩:∃k,h-i=k+1:=(h-i-1,6);have ek:h-1-i=k:=by lia
  rw[ek];exists 9,o,7,(_,hO.sq);refine rn (λz=>bit z k) hO.sq (by rw[sizeLine_eq];lia) (λ_ _ _ q=>q) (λz H2 Q hz s2 q=>(8,z,(k:Int),7,6,q)) λb Y=>?_;have U:=aq Y (.lst ‹(c.map λz=>bit z k)›);have xb:upd m b (.lst ‹(c.map λz=>bit z k)›) b=some (.lst ‹(c.map λz=>bit z k)›):=aa;have a0:H b=none:=G.free Y;have M:b≠r:=λz=>by rw[z,f]at Y;cases Y
  replace hO:=hO.to λb u _ e=>U b u e
  replace f:=U _ _ f
  replace g:=g.same U
  replace G:=G.trans U
  generalize upd m b (.lst ‹(c.map λz=>bit z k)›)=J at *;exists 9,.inl (7,_,My.of f),9,r,5,f,?_
  ·rw[aaa,g.1,B,sizeLine_eq];lia
  have s2:=aZ G v (.lst (d.map V.ref++[.ref b]));have L:upd J r (.lst (d.map V.ref++[.ref b])) b=some (.lst ‹(c.map λz=>bit z k)›):=by rw[aJ M];exact xb
  have a1:=(hO.to (H':=upd J r (.lst (d.map V.ref++[.ref b]))) λb u n e=>by rw[aJ n];exact e).sq;have S:qI (upd J r (.lst (d.map V.ref++[.ref b]))) (d++[b]) (C++[c.map λz=>bit z k]):=(g.upd λz=>(y r z).2 rfl).snoc L;have N:upd J r (.lst (d.map V.ref++[.ref b])) r=some (.lst ((d++[b]).map V.ref)):=by
   rw[aa,aag];rfl
  generalize upd J r (.lst (d.map V.ref++[.ref b]))=H2 at *;refine(8,o,b,c,9,a1,My.of L,aaa ..,6,λl H3 R D x3=>?_);rw[Dj]at x3;exists l,Zy c k,d++[b],1,C++[c.map λz=>bit z k],7,s2.trans D,.inl (.inl x3,2),(HF c k).trans O,D _ _ N,S.same D,2,λx I=>?_
  ·intro z;rw[z,N]at R;cases R
  ·rw[aac,B];rfl
  ·rcases aaG.mp I with I|I
   ·exact y x I
   ·rw[aan.mp I];exact(a0,M)
  ·rw[X,hk,af5,show h-(i+1)=k from by lia];rfl
 ·rintro Z m ⟨o,c,d,k4,k5,C,rfl,G,hO,O,f,g,B,y,X⟩;have ei:((h:Int)-1 - -1).toNat=h:=by lia
  rw[ei]at B X;have:Ww h t=C:=by
   rw[X,ahy];exact agr _
  rw[<-this]at g;exact(9,q h r d m hz a2 v G f g λl W=>(y l W).1)
theorem Uq(ns:List Int)(z:Int):z∈met (λi=>ns.getD i 0) ns.length ↔ z∈ns:=by
 rw[qH];constructor
 ·rintro⟨i,b,rfl⟩;rw[aaN,aab b];exact age b
 ·intro h;obtain⟨i,b,rfl⟩:=agS h;exact(i,b,by rw[aaN,aab b];rfl)
structure Kinds(ns ms:List Int):Prop where
 up:ms.Pairwise (· < ·)
 mem:∀z,z∈ms ↔ z∈ns
theorem Kinds.nd{ns ms:List Int}(h:Kinds ns ms):ms.Nodup:=h.up.imp λa=>Int.ne_of_lt a
theorem kinds_of{ns ms :List Int}(e:c=met (λi=>ns.getD i 0) ns.length)(d:agH ms c)(f:ms.Pairwise (· <= ·)):Kinds ns ms:=by
 have g:ms.Nodup:=d.nodup_iff.mpr (by rw[e];exact fO _ _);refine((f.and g).imp λ⟨a,b⟩=>by lia,λz=>?_);rw[d.mem_iff,e];exact Uq ns z
def yf(H:Hp)(c:List Addr)(d:List (List Int)):Prop:=c.length=d.length /\ ∀(i:Nat) (l:Addr) (b:List Int),c[i]?=some l->d[i]?=some b->H l=some (.tup !!b)
theorem yf.to{H':Hp}{d:List (List Int)}(h:yf H i d)(s:∀b xs,H b=some (.tup xs)->H' b=some (.tup xs)):yf H' i d:=(h.1,λc l xs f e=>s _ _ (h.2 c l xs f e))
theorem yf.snoc{j:List (List Int)}{l:Addr}{xs:List Int}(h:yf H i j)(e:H l=some (.tup !!xs)):yf H (i++[l]) (j++[xs]):=by
 refine(by rw[aac,aac,h.1];rfl,λb k g d f=>?_);rcases agc b i.length with c|c
 ·rw[af4 c]at d;rw[af4 (by rw[<-h.1];exact c)]at f;exact h.2 b k g d f
 ·rw[agd c]at d;rw[agd (by rw[<-h.1];exact c),<-h.1]at f;have:b-i.length=0:=by
   have:=(aad.mp d).1;simp at this;lia
  rw[this]at d f;cases d;cases f;exact e
structure Kept(H:Hp)(r t b k c:Addr)(ns ms:List Int)(h:Nat)(ls:List Addr):Prop where
 r:H r=some (.tup [.ref t,.ref b])
 t:H t=some (.tup [.int (ns.length:Int),.ref k,.ref c])
 k:H k=some (.tup !!ms)
 c:H c=some (.tup (ls.map V.ref))
 ls:yf H ls ((Ww h (rks ms ns)).map λbs=>WD bs (many ns.length))
 b:H b=some (.lst ‹((Ww h (rks ms ns)).map bw).flatten›)
 kd:Kinds ns ms
 sz:gk ms.length (2^h)
 h12:h<=12
inductive xX(K:PySem.W.Frag)(C1:Addr)(C2:Addr)(vs:List V)(H:Hp)(Q:VK)(E:XK):Prop
 | mk (p:Addr) (ns:List Int) (_:vs=[.ref p]) (_:My K H p !!ns) (_:((ns.length<=4096/\(∃U:List Int,U.length<=4000 /\ ∀z∈ns,z∈U)/\Xa ns /\ ∀(r t b k c:Addr) (ms:List Int) (h:Nat) (ls:List Addr) (H':Hp),H b=none->aM H H'->Kept H' r t b k c ns ms h ls->Q (.ref r) H')\/(4096<ns.length/\E (.ref C1) none H)\/(ns.length<=4096 /\ ¬Xa ns/\E (.ref C2) none H)))
theorem xP(T:Tx K mg a):bc P w K mg base (WX P w) 6 a.acW a.acg ["signs"] (xX K a.Xk a.X7):=by
 refine T.adb.F.Xg dD (λvs H Q E h=>?_) (λe0 A d5 s H vs Q E hr h=>?_)
 ·obtain⟨p,d,rfl,_⟩:=h;rfl
 obtain⟨p,d,rfl,hS,h⟩:=h;refine(_,(ao (bC (bI T.acC (v9 T) ∅ hr dz rfl (Wn 0 aj)))
  (ao (aC 1 dD.nd (aL (Ao rfl) rfl T.aeD Tw.rD (au (bY (JD rfl) rfl T.afD Tw.GK (Wn 0 aj)) aj)))
  (ao (aC 2 dD.nd (bM aj))
  (ao (aC 3 dD.nd (bM aj))
  (ao (bA fj rfl (bJ (aW T.adc (xT T) hr (au (aW T.acD (v5 T) hr (Wn 1 (Wn 0 aj))) (au (aL aN rfl T.WF Tw.bB (Wn 1 aj)) aj)))) (aR 4 dD.nd) (ao (aC 5 dD.nd (bI T.abK (nu T) ∅ hr dz rfl (Wn 4 aj)))
  (ao (bC (fD PySem.F.plainAttrs_list PySem.F.slot_list_append PySem.F.type_list_append bZ (pv 2) (au (bD bO (bD bO (pv 5) aA) aA) aj)))
  (aB (bC (fD PySem.F.plainAttrs_list PySem.F.slot_list_extend PySem.F.type_list_extend gH (pv 3) (au (bD bO (pv 5) aA) aj)))))))
  (aB (aG (fc (au (fc (au (aL aN rfl T.WF Tw.bB (Wn 0 aj)) (au (bY gM rfl T.adX Tw.mZ (Wn 1 aj)) (au (bY gM rfl T.adX Tw.mZ (Wn 2 aj)) aj)))) (Wn 3 aj)))))))))),2)
 rcases h with ⟨hl,⟨U,hU,hc⟩,hi,q⟩|h|h
 rotate_left
 ·exact(9,p,d,7,hS,.inr (.inl h))
 ·exact(9,p,d,7,hS,.inr (.inr h))
 refine(9,p,d,7,hS,.inl (6,hi,2));have d6:(met (λi=>d.getD i 0) d.length).length<=U.length:=P0 hc;refine(9,p,d,7,hS,2,λl0 ks o0 a4 a5 c8=>(l0,ks,7,by rw[aa,c8],λB g a6 pm b6=>?_))
 ·have:scanBound=4096:=rfl;lia
 have sA:=(aq a4 o0).trans (aq a6 (.lst !!g));have C:upd (upd H l0 o0) B (.lst !!g) B=some (.lst !!g):=aa;have d7:H B=none:=(aq a4 _).free a6;have hK:=kinds_of a5 pm b6;have c5:∀z∈d,z∈g:=λz hz=>(hK.mem z).mpr hz;have lm:g.length<=4000:=by rw[pm.length_eq,a5];lia
 generalize upd (upd H l0 o0) B (.lst !!g)=H1 at *;refine(sl0,λf Z4=>(sl0,λm WR=>?_));have sB:=(aq Z4 (.lst [])).trans (aq WR (.lst []));have R:f≠m:=aH aa WR;have xa:upd (upd H1 f (.lst [])) m (.lst []) f=some (.lst []):=by rw[aJ R];exact aa
 have xb:upd (upd H1 f (.lst [])) m (.lst []) m=some (.lst []):=aa;have b1:H f=none:=sA.free Z4;have J:H m=none:=sA.free ((aq Z4 _).free WR);have c2:B≠f:=aH C Z4;have c1:B≠m:=aH C ((aq Z4 _).free WR)
 replace C:=sB _ _ C
 have sC:=sA.trans sB;generalize upd (upd H1 f (.lst [])) m (.lst [])=H2 at *;refine(8,B,p,g,d,7,My.of C,sC.seq hS,hK.nd,c5,6,6,λrk H3 d8 u x3=>?_);refine(9,B,9,.inl (My.of (u _ _ C)),rk,rks g d,g.length,2,My.of x3,(by unfold rks;rw[aaa];lia),6,λh O ls H4 hz d4 a2 Yb x4 S a7=>?_)
 ·rw[aaa];rfl
 have c9:∀l∈ls,l≠f/\l≠m:=λl hl=>((aH (u _ _ xa) (a7 l hl)).symm,(aH (u _ _ xb) (a7 l hl)).symm);have c0:O≠f:=(aH (u _ _ xa) a2).symm;have b9:O≠m:=(aH (u _ _ xb) a2).symm;have sD:=u.trans Yb
 replace C:=sD _ _ C
 replace xa:=sD _ _ xa
 replace xb:=sD _ _ xb
 have sE:=sC.trans sD;have d9:ls.length=h:=by rw[S.1,eO]
 exists O,7,(_,My.of x4);refine bV (xs:=ls.map V.ref) (λi σ I=>(∃k4 k5,σ=[!!!p,!!!B,!!!f,!!!m,k4,k5])/\aM H I/\(∀b o,b≠f->b≠m->H4 b=some o->I b=some o) /\ ∃j:List Addr,I f=some (.lst (j.map V.ref))/\I m=some (.lst ‹(((Ww h (rks g d)).take i).map bw).flatten›)/\yf I j (((Ww h (rks g d)).take i).map λn=>WD n (many d.length))/\((((Ww h (rks g d)).take i).map bw).flatten).length<=128*i) ?_ ?_ ?_ ?_
 ·exact((3,3,7),sE,λb o _ _ e=>e,[],xa,xb,(7,λi l L e=>by cases e),af3 _)
 ·rintro i σ I _ ⟨_,_,kp,_⟩;exact My.of (kp _ _ c0 b9 x4)
 ·rintro i x σ I hx ⟨⟨k4,k5,rfl⟩,sm,kp,j,ya,yb,hts,ZR⟩;rw[aak]at hx;obtain⟨l,W,rfl⟩:=agp.mp hx;have d0:=(aad.mp W).1;obtain⟨n,X⟩:∃n,(Ww h (rks g d))[i]?=some n:=(_,aab (by rw[<-S.1];exact d0));obtain⟨d2,b0⟩:=lq h _ n (aaw X);have c6:(rks g d).length=d.length:=by unfold rks;exact aaa ..
  have d1:n.length=d.length:=b0.trans c6;have a3:=c9 l (aaw W);have yl:=kp _ _ a3.1 a3.2 (S.2 i l n W X);have YM:j.length=i:=by
   rw[hts.1,aaa,aaq,eO];lia
  refine(9,l,n,7,My.of yl,.inl (6,d2,λr b t v D d3 y y1 a1 y2=>?_));have G:=y _ _ ya;have b2:=y _ _ yb;have c3:b≠f:=(aH ya d3).symm;exists 9,.inl (7,_,My.of G),9,r,_,5,Wq.of y1,7,t,_,5,Wq.of a1.tup,7,f,5,G,?_
  ·rw[aaa,YM,sizeLine_eq];lia
  have a8:r≠f:=λz=>by rw[z,G]at y1;cases y1
  have b5:upd D f (.lst (j.map V.ref++[.ref v])) r=some (.tup [.ref t,.ref b]):=by rw[aJ a8];exact y1
  have b4:upd D f (.lst (j.map V.ref++[.ref v])) b=some (.lst ‹bw n›):=by rw[aJ c3];exact y2
  have M:upd D f (.lst (j.map V.ref++[.ref v])) m=some (.lst ‹(((Ww h (rks g d)).take i).map bw).flatten›):=by rw[aJ (agA R)];exact b2
  have b3:upd D f (.lst (j.map V.ref++[.ref v])) f=some (.lst ((j++[v]).map V.ref)):=by rw[aa,aag];rfl
  have s6:=aZ (sm.trans y) b1 (.lst (j.map V.ref++[.ref v]));have c4:∀c o,c≠f->c≠m->H4 c=some o->upd D f (.lst (j.map V.ref++[.ref v])) c=some o:=λc o n1 n2 e=>by rw[aJ n1];exact y _ _ (kp c o n1 n2 e)
  have a0:∀c L,D c=some (.tup L)->upd D f (.lst (j.map V.ref++[.ref v])) c=some (.tup L):=λc L e=>by
   rw[aJ λz=>?_]
   ·exact e
   ·rw[z,G]at e;cases e
  have a9:yf (upd D f (.lst (j.map V.ref++[.ref v]))) (j++[v]) ((((Ww h (rks g d)).take i).map λn=>WD n (many d.length))++[WD n (many d.length)]):=by
   refine yf.snoc (hts.to λc L e=>a0 _ _ (y _ _ e)) (a0 _ _ ?_);have:=a1.Z3;rw[d1]at this;exact this
  have pl:(bw n).length<=128:=by rw[aX];unfold many;lia
  generalize upd D f (.lst (j.map V.ref++[.ref v]))=H6 at *;have Y:(Ww h (rks g d)).take (i+1)=(Ww h (rks g d)).take i++[n]:=by rw[af7,X];rfl
  exists 9,.inl (7,_,My.of M),9,r,_,5,Wq.of b5,7,m,b,5,M,b4,?_
  ·rw[aaa,aaa,sizeLine_eq];lia
  exists (_,9),aZ s6 J _,λc o n1 n2 e=>by rw[aJ n2];exact c4 c o n1 n2 e,j++[v],by rw[aJ R];exact b3,2,?_
  ·rw[aa,Y,aag,ai0,aag];simp
  ·rw[Y,aag];refine a9.to λc L e=>?_;rw[aJ λz=>?_]
   ·exact e
   ·rw[z,M]at e;cases e
  ·rw[Y,aag,ai0,aac];simp only[aax,ah9,agW,List.flatten_nil,agr];lia
 ·rintro σ I ⟨⟨k4,k5,rfl⟩,sm,kp,j,ya,yb,hts,ZR⟩;have Z:(Ww h (rks g d)).take (ls.map V.ref).length=Ww h (rks g d):=aaj (by rw[aaa,eO];lia);rw[Z]at yb hts;have yk:=kp _ _ c2 c1 C;refine(9,p,9,.inl (sm.seq hS),9,B,9,.inl (My.of yk,λk hk=>?_));have s1:=aq hk (.tup !!g);refine(9,f,9,.inl (My.of (s1 _ _ ya),λc hc=>?_));have s2:=aq hc (.tup (j.map V.ref));have Xl:‹d›.length=d.length:=aaa ..;rw[Xl];refine(sl3,λt ht=>(9,sl2,λr c7=>?_));have s3:=aq ht (.tup [.int (d.length:Int),.ref k,.ref c]);have s4:=aq c7 (.tup [.ref t,.ref m]);have N:=s1.trans (s2.trans (s3.trans s4));exact q r t m k c g h j _ J (sm.trans N) (aa,s4 _ _ aa,s4 _ _ (s3 _ _ (s2 _ _ aa)),s4 _ _ (s3 _ _ aa),hts.to λb L e=>N _ _ e,N _ _ yb,hK,hz,d4)
def W0(w:Str):Prop:=w.length<=40 /\ ∀c∈w.cps.toList,97<=c/\c<=122
abbrev letters:Str := "abcdefghijklmnopqrstuvwxyz"
theorem Bv:∀k,k<26->(97+k)∈letters.cps.toList/\Builtin.Str.occurrences letters ⟨#[97+k]⟩ 0 letters.length 1=[k]:=by
 decide +kernel
theorem zb{c:Nat}(h:97<=c/\c<=122):c∈letters.cps.toList/\Builtin.Str.occurrences letters ⟨#[c]⟩ 0 letters.length 1=[c-97]:=by
 have:=Bv (c-97) ⋯;rw[show 97+(c-97)=c by lia]at this;exact this
theorem GC(c:N.Nodup):(met (λi=>N.getD i ⟨#[]⟩) N.length).length=N.length:=by
 have m:=Ai (λi=>N.getD i ⟨#[]⟩) N.length;have k:N.length<=(met (λi=>N.getD i ⟨#[]⟩) N.length).length:=by
  have:∀{l U:List Str},l.Nodup->(∀z∈l,z∈U)->l.length<=U.length:=by
   intro l
   induction l with
   |nil=>intro U _ _;exact af3 _
   |cons a l j=>
    intro U c h;have f:=h a aal;have g:=agU.mp c;have q:=j (U:=U.erase a) g.2 λz b=>(ahs λe:z=a=>g.1 (e ▸ b)).mpr (h z (aai _ b));have e:=ag8 f;have p:=ahJ f;rw[aao];lia
  refine this c λz b=>?_;obtain⟨i,d,e⟩:=agS b;refine(qH _ _ _).mpr (i,d,2);rw[aaN,aab d];exact e
 lia
theorem Hj(b:List Str)(z:Str):z∈met (λi=>b.getD i ⟨#[]⟩) b.length ↔ z∈b:=by
 rw[qH];constructor
 ·rintro⟨i,c,rfl⟩;show b.getD i ⟨#[]⟩∈b;rw[aaN,aab c];exact age c
 ·intro d;obtain⟨i,c,e⟩:=agS d;exists i,c;show b.getD i ⟨#[]⟩=z;rw[aaN,aab c];exact e
theorem Dv:∀c∈letters.cps.toList,97<=c/\c<=122:=by decide +kernel
theorem BJ:∀{l U:List Str},l.Nodup->(∀z∈l,z∈U)->U.length<=l.length->l.Perm U
 |[],U,_,_,h=>by
  rw[ah2.mp (Nat.le_zero.mp h)]
 |a::l,U,g,c,h=>by
  have d:=c a aal;have f:=agU.mp g;have e:=ag8 d;rw[aao]at h;have:=BJ (l:=l) (U:=U.erase a) f.2 (λz b=>(ahs λe:z=a=>f.1 (e ▸ b)).mpr (c z (aai _ b))) ⋯;exact(List.Perm.cons a this).trans (List.perm_cons_erase d).symm
theorem Kh(b:¬N.Nodup):(met (λi=>N.getD i ⟨#[]⟩) N.length).length<N.length:=by
 rcases agc (met (λi=>N.getD i ⟨#[]⟩) N.length).length N.length with c|c
 ·exact c
 ·exact absurd ((BJ (fO _ _) (λz d=>(Hj N z).mp d) c).nodup_iff.mp (fO _ _)) b
def Taken(d c:Addr)(ws:List Str)(H:Hp)(E:XK)(q:Prop):Prop:=
 ((∃x∈ws,¬W0 x) /\ ∀b,aM H b->E (.ref d) none b)\/((∀x∈ws,W0 x) /\ ¬ws.Nodup /\ ∀b,aM H b->E (.ref c) none b)\/((∀x∈ws,W0 x)/\ws.Nodup/\q)
inductive vR(K:PySem.W.Frag)(C1:Addr)(C2:Addr)(vs:List V)(H:Hp)(Q:VK)(E:XK):Prop
 | mk (p:Addr) (ws:List Str) (_:vs=[.ref p]) (_:My K H p (ws.map V.str)) (_:(∀x∈ws,x.length<=3000)) (_:ws.length<=4000) (_:Taken C1 C2 ws H E (∀H',aM H H'->Q .non H'))
theorem vG(T:Tx K mg a):bc P w K mg base (WX P w) 1 a.ack a.abS ["words"] (vR K a.Xz a.YG):=by
 refine T.acE.F.Xg iY (λX H Q E h=>?_) (λa2 A U s H X Q E hr h=>?_)
 ·obtain⟨p,m,rfl,_⟩:=h;rfl
 obtain⟨p,m,rfl,L,Y,hl,h⟩:=h;refine(_,(ao (bA fj rfl (bJ (pv 0)) (aR 1 iY.nd) (ao (bx (aO qK (aL eU rfl T.WF Tw.bB (Wn 1 aj)) (aV (v:=.int 40) rfl T.ad2 (_,7))) (aB (dg T.aeE rfl (au dH aj))) aQ)
  (aB (bA fj rfl (Td (pv 1)) (aR 2 iY.nd) (aB (bx (aO Ab (pv 2) (aV (v:=.str "abcdefghijklmnopqrstuvwxyz") rfl T.acG (_,7)) (by with_unfolding_all rfl)) (aB (dg T.aeE rfl (au dH aj))) aQ))))))
  (aB (bx (aO tU (aL uv rfl T.WF Tw.bB (au (bY (um rfl) rfl T.afD Tw.GK (Wn 0 aj)) aj)) (aL aN rfl T.WF Tw.bB (Wn 0 aj))) (aB (dg T.afH rfl (au dH aj))) aQ))),2)
 have I:∀x∈m,¬W0 x->E (.ref a.Xz) none H:=λx b B=>by
  rcases h with ⟨_,q⟩|⟨R,_⟩|⟨R,_⟩
  ·exact q _ (aM.refl _)
  ·exact absurd (R x b) B
  ·exact absurd (R x b) B
 exists 9,p,7,(_,L);refine bV (xs:=m.map V.str) (λi n C=>(∃O t,n=[!!!p,O,t])/\C=H /\ ∀x∈m.take i,W0 x) ((3,3,7),7,λx b=>by rw[ahI]at b;cases b) ?_ ?_ ?_
 ·rintro i n C _ ⟨_,rfl,_⟩;exact L
 ·rintro i x n C b ⟨⟨O,t,rfl⟩,rfl,g⟩;rw[aak]at b;obtain⟨f,W,rfl⟩:=agp.mp b;have k:=aaw W;have a0:=Y f k;refine(9,f,7,by rw[sizeLine_eq];lia,5,9,fB (λc=>?_) λc=>?_)
  ·have c:(40:Int)<(f.length:Int):=of_decide_eq_true c;exact(sl1,I f k λz=>by have:=z.1;lia)
  have c:¬(40:Int)<(f.length:Int):=λz=>c (decide_eq_true z);exists 9,f,7;refine Qk (x:=f) (λj n S=>(∃t,n=[!!!p,some (.str f),t])/\S=C /\ ∀c∈f.cps.toList.take j,97<=c/\c<=122) ((_,7),7,λc J=>by rw[ahI]at J;cases J) ?_ ?_
  ·rintro j c n S J ⟨⟨t,rfl⟩,rfl,u⟩;have G:f.cps.toList[j]?=some c:=by rw[agh];exact J
   exists 9,5,9;rw[PySem.StrLaws.found_one];by_cases d:c∈letters.cps.toList
   ·rw[decide_eq_true d];refine b7 ((_,7),7,λe r=>?_);rw[ah8,G]at r;rcases aaG.mp r with r|r
    ·exact u e r
    ·rw[aan.mp r];exact Dv c d
   ·rw[decide_eq_false d];refine cF (sl1,I f k λz=>d ?_);exact(zb (z.2 c (aaw G))).1
  ·rintro n S ⟨⟨t,rfl⟩,rfl,u⟩;refine((_,9),7,λx b=>?_);rw[ah8,W]at b;rcases aaG.mp b with b|b
   ·exact g x b
   ·rw[aan.mp b];refine(6,λe r=>u e ?_);rw[aaj (by rw[aaf];exact aae _)];exact r
 ·rintro n C ⟨⟨O,t,rfl⟩,rfl,g⟩;rw[aaa,aaj (aae _)]at g;have a1:=Ai (λi=>m.getD i ⟨#[]⟩) m.length;refine(9,p,m,7,L,(by show _+1<4096;lia),λl N o y D Z=>?_);refine(l,N,7,by rw[aa,Z],9,p,9,.inl (aq y _ |>.seq L),5,9,fB (λc=>?_) λc=>?_)
  ·have c:(N.length:Int)<((m.map V.str).length:Int):=of_decide_eq_true c;rw[D,aaa]at c;rcases h with ⟨⟨x,b,B⟩,_⟩|⟨_,_,q⟩|⟨_,M,_⟩
   ·exact absurd (g x b) B
   ·exact(sl1,q _ (aq y _))
   ·rw[GC M]at c;lia
  ·rcases h with ⟨⟨x,b,B⟩,_⟩|⟨_,M,_⟩|⟨_,_,q⟩
   ·exact absurd (g x b) B
   ·refine absurd (decide_eq_true ?_) c;show (N.length:Int)<((m.map V.str).length:Int);rw[D,aaa];have:=Kh M;lia
   ·exact q _ (aq y _)
theorem J3{lo:Int}{n:Nat}{c:L2.St}{j:Addr->Hp->Prop}(f:Nat->V)(o:n<sizeLine)
  (g:∀(z:Int) (H':Hp) (Q:Bool->Hp->Prop),Q true H'->M (some (.int z)::c) H' Q)(l:∀(i:Nat) (H':Hp) (Q:VK),i<n->aM H H'->Q (f i) H'->ta (some (.int (lo+i))::c) H' Q)
  (q:∀D,H D=none->j D (upd H D (.lst ((aga n).map f)))):gG (Yt lo n) c M ta j H:=by
 intro D h;exists λi m d k=>m=n-i/\i<=n/\d=(aga i).map f/\k=upd H D (.lst d),(9,af3 _,7,7);rintro i m d k ⟨rfl,p,rfl,rfl⟩;by_cases b:i<n
 ·refine .inr (b,λv r y=>?_);obtain⟨rfl,rfl⟩:=y;refine g _ _ _ ?_;rw[if_pos rfl];refine l i _ _ b (aq h _) (aa,2,n-(i+1),6,7,b,2,2)
  ·rw[aaa,af8];lia
  ·rw[agl,aag];rfl
  ·rw[jq]
 ·have e:i=n:=by lia
  subst e;exact .inl (aae _,q D h)
theorem rR{K:PySem.W.Frag}{a:Addr}{xs:List V}{c:L2.St}{l:Addr->Hp->Prop}(g:V->V)(o:My K H a xs)(r:xs.length<sizeLine)
  (k:∀(x:V) (H':Hp) (Q:Bool->Hp->Prop),Q true H'->M (some x::c) H' Q)(p:∀(x:V) (H':Hp) (Q:VK),x∈xs->aM H H'->Q (g x) H'->ta (some x::c) H' Q)
  (q:∀D,H D=none->l D (upd H D (.lst (xs.map g)))):gG (YL K a) c M ta l H:=by
 intro D h;exists λi m d n=>m=xs.length-i/\i<=xs.length/\d=(xs.take i).map g/\n=upd H D (.lst d),(9,af3 _,7,7);rintro i m d n ⟨rfl,s,rfl,rfl⟩;have j:=(aq h (.lst ((xs.take i).map g))).seq o;by_cases b:i<xs.length
 ·have f:=aab b;refine .inr ((1,j,f),λv t y=>?_);obtain⟨rfl,y⟩:=y;have e:=y _ j;rw[f]at e;cases e;refine k _ _ _ ?_;rw[if_pos rfl];refine p _ _ _ (age b) (aq h _) (aa,2,xs.length-(i+1),6,7,b,2,2)
  ·rw[aaa,aaq];lia
  ·rw[ah8,f,aag];rfl
  ·rw[jq]
 ·have e:i=xs.length:=by lia
  subst e;refine .inl ((_,j,aae _),2);have:=q D h;rw[aaj (aae _)];exact this
def much:List Str->Nat
 |[]=>0
 |w::b=>w.length+much b
theorem Kl(ws:List Str):∀i,much (ws.take i)<=much ws:=by
 induction ws with
 |nil=>intro i;rw[aik];exact aae _
 |cons w ws b=>
  intro i;cases i with
  |zero=>exact af3 _
  |succ i=>
   have:=b i;show w.length+much (ws.take i)<=w.length+much ws;lia
def gr(w:Str):List Str:=(aga w.length).map λi=>beg w (i+1)
theorem Bu(ws:List Str)(t:Str):(t=⟨#[]⟩ \/ ∃w∈ws,t∈gr w) ↔ (t=⟨#[]⟩ \/ ∃w∈ws,∃k:Nat,t=beg w k):=by
 constructor
 ·rintro(h|⟨b,e,ht⟩)
  ·exact .inl h
  ·unfold gr at ht;obtain⟨j,_,rfl⟩:=afs.mp ht;exact .inr (b,e,j+1,7)
 ·rintro(h|⟨b,e,k,rfl⟩)
  ·exact .inl h
  ·rcases ag6 (min k b.length)with c|c
   ·refine .inl (dJ ?_);rw[bu];rcases ag6 k with d|d
    ·rw[d];rfl
    ·have:b.cps.toList=[]:=ah2.mp (by rw[aaf];show b.length=0;lia);rw[this];exact aik
   ·refine .inr (b,e,2);unfold gr;refine afs.mpr (min k b.length-1,agK.mpr ⋯,2);rw[show min k b.length-1+1=min k b.length by lia];refine dJ ?_;rw[bu,bu];rcases aid k b.length with d|d
    ·rw[ags d]
    ·rw[aha d,aaj (by rw[aaf];exact aae _),aaj (by rw[aaf];exact d)]
theorem rW:∀ws:List Str,(ws.flatMap gr).length=much ws
 |[]=>rfl
 |w::ws=>by
  rw[agX,aac,rW ws];show ((aga w.length).map _).length+much ws=w.length+much ws;rw[aaa,af8]
theorem qY:∀{l U:List Str},l.Nodup->(∀z∈l,z∈U)->l.length<=U.length
 |[],_,_,_=>af3 _
 |a::l,U,f,h=>by
  have c:=h a aal;have d:=agU.mp f;have q:=qY (l:=l) (U:=U.erase a) d.2 λz b=>(ahs λe:z=a=>d.1 (e ▸ b)).mpr (h z (aai _ b));have e:=ag8 c;have p:=ahJ c;rw[aao];lia
inductive yd(ws:List Str)(n:Nat):Prop
 | mk (U:List Str) (_:U.length<=n) (_:⟨#[]⟩∈U) (_:∀w∈ws,∀k,beg w k∈U)
inductive sH(K:PySem.W.Frag)(vs:List V)(H:Hp)(Q:VK)(_e1:XK):Prop
 | mk (p:Addr) (ws:List Str) (_:vs=[.ref p]) (_:My K H p (ws.map V.str)) (_:(∀w∈ws,w.length<=40)) (_:much ws<=90000) (_:yd ws 2048) (_:∀(r:Addr) (ts:List Str) (H':Hp),H r=none->aM H H'->H' r=some (.lst (ts.map V.str))->gP ws ts->ts.length<=2048->Q (.ref r) H')
theorem rM(T:Tx K mg a):bc P w K mg base Wt 1 a.abo a.abk ["words"] (sH K):=by
 refine T.abu.F.Wv gD λa2 A M s H vs Q E hr h=>?_;obtain⟨p,c,rfl,Y,L,hm,⟨U,hU,J,I⟩,q⟩:=h;refine(_,(ao (aC 1 gD.nd (bM (au dH aj)))
  (ao (bA PassesOwn.never rfl (bJ (pv 0)) (j9 (i:=2) gD.nd rfl (ah1 rfl)) (aB (bC (fD PySem.F.plainAttrs_list PySem.F.slot_list_extend PySem.F.type_list_extend gH (pv 1) (au (kJ rfl (bR.one (j:=2) rfl (ag3 rfl) rfl rfl (ag3 rfl)) (Jm rfl T.XD (au aA (au (aD bj (aL eU rfl T.WF Tw.bB (Wn 2 aj)) aA) aj))) (λ_ _ _ _=>eX) (λ_ _ _ _=>(bF Ho (pv 1) cH (bH (pv 0))))) aj)))))
  (aB (aG (aL (qG rfl) rfl T.aeD Tw.rD (au (bY (um rfl) rfl T.afD Tw.GK (Wn 1 aj)) aj)))))),2)
 refine(sl1,λr n=>?_)
 have O:=aq n (.lst [.str ""])
 exists 9,p,7,(_,O.seq Y);refine bV (xs:=c.map V.str) (λi v l=>(∃C,v=[!!!p,!!!r,C])/\aM H l/\l r=some (.lst (((⟨#[]⟩:Str)::(c.take i).flatMap gr).map V.str))) ((3,7),O,aa) ?_ ?_ ?_
 ·rintro i v l _ ⟨_,f,_⟩;exact f.seq Y
 ·rintro i x v l W ⟨⟨C,rfl⟩,f,g⟩;rw[aak]at W;obtain⟨b,Z,rfl⟩:=agp.mp W;have X:=L b (aaw Z);have hts:((⟨#[]⟩:Str)::(c.take i).flatMap gr).length=1+much (c.take i):=by
   rw[aao,rW];lia
  have a0:=Kl c i;exists 9,.inl (7,_,My.of g),9,b,7,by rw[sizeLine_eq];lia,5,(1),9,(4,4,6,6);have en:((b.length:Int)+1-1).toNat=b.length:=by lia
  show gG (Yt 1 ((b.length:Int)+1-1).toNat) _ _ _ _ _;rw[en];refine J3 (λi=>.str (beg b (i+1))) (by rw[sizeLine_eq];lia) (λ_ _ _ q=>q) (λj H2 Q hj WM qq=>(8,9,b,7,by rw[sizeLine_eq];lia,2)) λD hD=>?_
  ·rw[show (1:Int)+(j:Int)=((j+1:Nat):Int) by lia,uK];exact qq
  have N:=aq hD (.lst ((aga b.length).map λi=>V.str (beg b (i+1))));have u:((aga b.length).map λi=>V.str (beg b (i+1)))=(gr b).map V.str:=by
   unfold gr;rw[agC];rfl
  have WR:(gr b).length=b.length:=by
   unfold gr;rw[aaa,af8]
  refine(r,D,5,N _ _ g,aa,2,((_,7),aZ (f.trans N) n _,2))
  ·rw[aaa,hts,u,aaa,WR,sizeLine_eq];lia
  ·rw[aa,u,ah8,Z,ahk,<-aag];simp
 ·rintro v l ⟨⟨C,rfl⟩,f,g⟩;rw[aaa,aaj (aae _)]at g;have hts:((⟨#[]⟩:Str)::c.flatMap gr).length=1+much c:=by
   rw[aao,rW];lia
  have a1:=qY (fO (λi=>((⟨#[]⟩:Str)::c.flatMap gr).getD i ⟨#[]⟩) ((⟨#[]⟩:Str)::c.flatMap gr).length) (U:=U) λz S=>by
   rw[Hj,aav,ahW]at S;rcases(Bu c z).mp S with e|⟨w,X,k,e⟩
   ·rw[e];exact J
   ·rw[e];exact I w X k
  refine(9,r,9,My.of g,2,λl0 ks R o d G=>(l0,ks,7,by rw[aa,G],λrr y m B up=>?_))
  ·show _+1<4096;lia
  have nd:y.Nodup:=B.nodup_iff.mpr (by rw[d];exact fO _ _);have sA:=(aq o R).trans (aq m (.lst (y.map V.str)));refine q rr y _ (f.free (aq o R |>.free m)) (f.trans sA) aa (vP up nd,λt=>?_) ?_
  ·rw[B.mem_iff,d,Hj,aav,ahW];exact Bu c t
  ·rw[B.length_eq,d];lia
theorem iD(xs:List V)(i:Nat):dR xs (some (i:Int)) none=xs.drop i:=by
 unfold dR;rw[HT.p7,HT.iy];rcases aid i xs.length with c|c
 ·rw[ags c,aaj (by rw[aaM];exact aae _)]
 ·rw[aha c,agk (aae _),agk c,aik]
def lenV:V->V
 |.str t=>.int (t.length:Int)
 |v=>v
def cO(t:Str):Int:=((t.cps.toList.getLastD 97:Nat):Int)-97
def Ie:V->V
 |.str t=>.int (cO t)
 |v=>v
def lG(ws:List Str)(t:Str):Int:=if t∈ws then 1 else 0
def Q4(ws:List Str):V->V
 |.str t=>.int (lG ws t)
 |v=>v
theorem gP.low{ws :List Str}(h:gP ws N)(f:∀w∈ws,W0 w){t:Str}(ht:t∈N):W0 t:=by
 rcases(h.mem t).mp ht with e|⟨w,d,k,e⟩
 ·rw[e];exact(af3 _,λc b=>by cases b)
 ·obtain⟨i,g⟩:=f w d;refine(by rw[e,jW];lia,λc b=>g c ?_);rw[e,bu]at b;exact agt b
inductive CQ(K:PySem.W.Frag)(C1:Addr)(C2:Addr)(vs:List V)(H:Hp)(Q:VK)(E:XK):Prop
 |mk (p:Addr) (ws:List Str) (_:vs=[.ref p]) (_:My K H p (ws.map V.str)) (_:(∀x∈ws,x.length<=3000)) (_:ws.length<=3000) (_:Taken C1 C2 ws H E (much ws<=90000/\yd ws 2048 /\ ∀(r d l e:Addr) (ts:List Str) (H':Hp),aM H H'->H' r=some (.tup [.ref d,.ref l,.ref e])->H' d=some (.lst ‹(ts.map λt=>(t.length:Int))›)->H' l=some (.lst ‹(ts.drop 1).map cO›)->H' e=some (.lst ‹ts.map (lG ws)›)->gP ws ts->ts.length<=2048->Q (.ref r) H'))
theorem CZ(T:Tx K mg a):bc P w K mg base (WX P w) 2 a.aeg a.adA ["words"] (CQ K a.Xz a.YG):=by
 refine T.aev.F.Xg dW (λvs H Q E h=>?_) (λb5 A b2 s H vs Q E Y h=>?_)
 ·obtain⟨p,m,rfl,_⟩:=h;rfl
 obtain⟨p,m,rfl,G,hz,hl,h⟩:=h;refine(_,(ao (bC (bI T.acE (vG T) ∅ Y dz rfl (Wn 0 aj)))
  (ao (aC 1 dW.nd (aW T.abu (rM T) Y (Wn 0 aj)))
  (ao (kE (i:=2) dW.nd rfl rfl rfl bR.zero (bJ (pv 1)) (λ_ _ _ _=>eX) (λ_ _ _ _=>(aL eU rfl T.WF Tw.bB (Wn 0 aj))))
  (ao (kE (i:=3) dW.nd rfl rfl rfl bR.zero (bJ (bF cI (pv 1) (bH aA) cH)) (λ_ _ _ _=>eX) (λ_ _ _ _=>(show PE _ _ (tBM K "str" HJ _ _)from (fD PySem.F.plainAttrs_str PySem.F.slot_str_index PySem.F.type_str_index JX (aV (v:=.str "abcdefghijklmnopqrstuvwxyz") rfl T.acG (_,7)) (au (bD Fl (pv 0) (oH jD aA)) aj)))))
  (ao (rT (i:=4) dW.nd rfl (ah1 rfl) vB)
  (ao (bA fj rfl (bJ (pv 0)) (aR 5 dW.nd) (aB (Aa (ag4 (ahG (by decide:1<=64) _) Y.units) (pv 4) (pv 5) cT rfl)))
  (ao (kE (i:=6) dW.nd rfl rfl rfl (bR.one (j:=4) rfl (ag3 rfl) rfl rfl (ag3 rfl)) (bJ (pv 1)) (λ_ _ _ _=>eX) (λ_ _ _ _=>(Pj (FT (Uo (ag4 (ahG (by decide:1<=64) _) Y.units) (pv 0) (pv 1))) aA aA)))
  (aB (aG (fc (Wn 2 (Wn 3 (Wn 6 aj))))))))))))),2)
 rcases h with ⟨h1,q⟩|⟨h1,h2,q⟩|⟨Z,nd,hm,R,q⟩
 ·exact(9,p,m,7,G,hz,6,.inl (h1,q))
 ·exact(9,p,m,7,G,hz,6,.inr (.inl (h1,h2,q)))
 refine(9,p,m,7,G,hz,6,.inr (.inr (Z,nd,λH1 WY=>?_)));refine(9,p,m,7,WY.seq G,λw hw=>(Z w hw).1,hm,R,λW b H2 b4 WM o J a1=>?_);have s2:=WY.trans WM;have N:(b.map V.str).length=b.length:=aaa ..;exists 9,W,7,(_,My.of o);refine rR lenV (My.of o) (by rw[sizeLine_eq,N];lia) (λ_ _ _ q=>q) (λx y Q D C n=>?_) λd hd=>?_
 ·obtain⟨t,ht,rfl⟩:=afs.mp D;have:=(J.low Z ht).1;exact(9,t,7,by rw[sizeLine_eq];lia,n)
 have t3:=aq hd (.lst ((b.map V.str).map lenV));have I:upd H2 d (.lst ((b.map V.str).map lenV)) d=some (.lst ‹(b.map λt=>(t.length:Int))›):=by
  rw[aa,agC,agC];rfl
 replace o:=t3 _ _ o
 have s3:=s2.trans t3;generalize upd H2 d (.lst ((b.map V.str).map lenV))=H3 at *;refine(8,W,9,My.of o,λc hc=>(c,7,(_,My.of aa),2));have t4:=aq hc (.lst (dR (b.map V.str) (some 1) none));have xc:upd H3 c (.lst (dR (b.map V.str) (some 1) none)) c=some (.lst ((b.drop 1).map V.str)):=by
  rw[aa,show (1:Int)=((1:Nat):Int)from rfl,iD,ahA]
 replace o:=t4 _ _ o
 replace I:=t4 _ _ I
 have s4:=s3.trans t4;rw[show dR (b.map V.str) (some 1) none=(b.drop 1).map V.str by rw[show (1:Int)=((1:Nat):Int)from rfl,iD,ahA]]at *;generalize upd H3 c (.lst ((b.drop 1).map V.str))=H4 at *;refine rR Ie (My.of xc) (by rw[sizeLine_eq,aaa,aaM];lia) (λ_ _ _ q=>q) (λx y Q D C n=>?_) λl a6=>?_
 ·obtain⟨t,ht,rfl⟩:=afs.mp D;have a0:=ago ht;obtain⟨b3,O⟩:=J.low Z a0;have a3:t.cps.toList≠[]:=λe=>by
   obtain⟨i,hi,ei⟩:=agS ht;rw[ahv]at ei;have a4:1+i<b.length:=by
    rw[aaM]at hi;lia
   have h0:=J.zero;obtain⟨b0,b1⟩:=aad.mp h0;have:=agf.mp J.up 0 (1+i) b0 a4 ⋯;rw[b1,ei]at this;unfold Xw at this;rw[e]at this;exact absurd this (aiS _)
  obtain⟨rr,u,Z5⟩:∃rr u,t.cps.toList=rr++[u]:=(1,(ahd a3).symm);have a5:=O u (by rw[Z5];exact aau _ (agD _));have a9:W7 t.cps.toList (-1)=some u:=by
   rw[Z5];exact mL rr u
  have a8:=(zb a5).2;have el:cO t=((u-97:Nat):Int):=by
   unfold cO;rw[Z5,aiW];lia
  exists 7,8,t,-1,u,7,7,by rw[sizeLine_eq];lia,a9,letters,⟨#[u]⟩,u-97,[],7,7,a8;rw[<-el];exact n
 have t5:=aq a6 (.lst (((b.drop 1).map V.str).map Ie));have xl:upd H4 l (.lst (((b.drop 1).map V.str).map Ie)) l=some (.lst ‹(b.drop 1).map cO›):=by
  rw[aa,agC,agC];rfl
 replace o:=t5 _ _ o
 replace I:=t5 _ _ I
 have s5:=s4.trans t5;generalize upd H4 l (.lst (((b.drop 1).map V.str).map Ie))=H5 at *;intro U M;have t6:=aq M (.dK []);have s6:=s5.trans t6;exists 9,p,7,(_,s6.seq G);refine bV (xs:=m.map V.str) (λi S y=>(∃k5,S=[!!!p,!!!W,!!!d,!!!l,!!!U,k5,none])/\aM H5 y /\ ∃f:List (Key×V),y U=some (.dK f)/\f.length<=i /\ ∀t:Str,(gK f (Sum.inr t)).isSome=decide (t∈m.take i)) ((3,7),t6,[],aa,aae _,λt=>rfl) ?_ ?_ ?_
 ·rintro i S y _ ⟨_,C,_⟩;exact(s5.trans C).seq G
 ·rintro i x S y D ⟨⟨k5,rfl⟩,C,f,xw,a7,B⟩;rw[aak]at D;obtain⟨wd,Yp,rfl⟩:=agp.mp D;have hi:=(aad.mp Yp).1;exists 8,U,9,.inl (f,Sum.inr wd,xw,7,by rw[sizeLine_eq];lia,7);refine((_,7),aZ C M _,_,aa,2,λt=>?_)
  ·have:=Cy f (Sum.inr wd) (.bl true);lia
  ·rw[Cg,ah8,Yp];by_cases e:t=wd
   ·subst e;rw[if_pos rfl];exact(decide_eq_true (aau _ (agD _))).symm
   ·rw[if_neg (λz=>e (Sum.inr.inj z)),B t];refine decide_eq_decide.mpr (λz=>agj _ z,λz=>?_);rcases aaG.mp z with z|z
    ·exact z
    ·exact absurd (aan.mp z) e
 ·rintro S y ⟨⟨k5,rfl⟩,C,f,xw,a7,B⟩;rw[aaa,aaj (aae _)]at B;have L:=C _ _ o;exists 9,W,7,(_,My.of L);refine rR (Q4 m) (My.of L) (by rw[sizeLine_eq,N];lia) (λ_ _ _ q=>q) (λx H2 Q D WM n=>?_) λe he=>?_
  ·obtain⟨t,ht,rfl⟩:=afs.mp D;have g:=Be.k (k:=Sum.inr t) (WM _ _ xw);exists 8,U,9,g,9;rw[B t];have n:Q (.int (lG m t)) H2:=n;unfold lG at n;by_cases c:t∈m
   ·rw[decide_eq_true c];rw[if_pos c]at n;exact cF n
   ·rw[decide_eq_false c];rw[if_neg c]at n;exact b7 n
  have t7:=aq he (.lst ((b.map V.str).map (Q4 m)));have xe:upd y e (.lst ((b.map V.str).map (Q4 m))) e=some (.lst ‹b.map (lG m)›):=by
   rw[aa,agC,agC];rfl
  have s7:=C.trans t7;generalize upd y e (.lst ((b.map V.str).map (Q4 m)))=H7 at *;refine(8,9,sl3,λr a2=>?_);have X:=aq a2 (.tup [.ref d,.ref l,.ref e]);exact q r d l e b _ ((s5.trans s7).trans X) aa (X _ _ (s7 _ _ I)) (X _ _ (s7 _ _ xl)) (X _ _ xe) J a1
theorem rE{t:Str}(h:W0 t):0<=cO t/\cO t<=25:=by
 unfold cO;cases e:t.cps.toList with
 |nil=>decide
 |cons a r=>
  have c:t.cps.toList≠[]:=λz=>by rw[e]at z;cases z
  obtain⟨d,b,f⟩:∃d b,t.cps.toList=d++[b]:=(1,(ahd c).symm);have g:=h.2 b (by rw[f];exact aau _ (agD _));rw[<-e,f,aiW];lia
theorem rN(ws c:List Str):aK (c.map (lG ws)):=λb d=>by
 obtain⟨t,_,rfl⟩:=afs.mp d;unfold lG;split
 ·exact .inr rfl
 ·exact .inl rfl
inductive Al(vs:List V)(H:Hp)(Q:VK)(_e1:XK):Prop
 | mk (b n:Int) (_:vs=[.int b,.int n]) (_:0<=n) (_:n<=100) (_:∀r,H r=none->Q (.ref r) (upd H r (.lst ‹aU b n.toNat›)))
theorem lA(T:Tx K mg a):bc P w K mg base Wt 1 a.adp a.acQ ["number","many"] Al:=by
 refine T.aa3.F.Wv fV λg A f s H j Q E l h=>?_;obtain⟨b,n,rfl,p,o,q⟩:=h;refine(_,(ao (aC 2 fV.nd (bM aj))
  (ao (aC 3 fV.nd (pv 0))
  (ao (bA PassesOwn.never rfl (dh rfl T.XD (Wn 1 aj)) (aR 4 fV.nd) (ao (bC (fD PySem.F.plainAttrs_list PySem.F.slot_list_append PySem.F.type_list_append bZ (pv 2) (au (aD bL (pv 3) aA) aj)))
  (aB (aC 3 fV.nd (aD gj (pv 3) aA)))))
  (aB (aG (pv 2)))))),2)
 refine(sl0,λr e=>?_);refine(8,n,7,6,6,2);refine eY (n:=n.toNat) (λi c d=>(∃k,c=[!!!!b,!!!!n,!!!r,some (.int (b / 256^i)),k])/\d=upd H r (.lst ‹aU b i›)) ?_ ?_ ?_
 ·refine((3,2),7);rw[aie,ahZ];rfl
 ·rintro i c d m ⟨⟨k,rfl⟩,rfl⟩;exists 9,.inl (7,_,My.of aa),9,5,(by show (0:Int)<256;decide),r,5,aa,?_
  ·rw[aaa,aP];exact small ⋯
  ·exists 9,5,(4,4),(some (.int (0+(i:Int))),2)
   ·rw[<-Dy];rfl
   ·rw[jq,yU,aag];rfl
 ·rintro c d ⟨⟨k,rfl⟩,rfl⟩;exact(9,q r e)
inductive zP(K:PySem.W.Frag)(vs:List V)(H:Hp)(Q:VK)(_e1:XK):Prop
 | mk (p:Addr) (ns:List Int) (_:vs=[.ref p]) (_:My K H p !!ns) (_:Q (.int (gm ns)) H)
theorem zT(T:Tx K mg a):bc P w K mg base Wt 1 a.adq a.acR ["octets"] (zP K):=by
 refine T.adO.F.Wv iw λt A g s H u Q E v h=>?_;obtain⟨p,b,rfl,l,q⟩:=h;refine(_,(ao (aC 1 iw.nd aA)
  (ao (bA PassesOwn.never rfl (Nb rfl T.aeA (Wn 0 aj) Tw.tW) (aR 2 iw.nd) (aB (aC 1 iw.nd (aD bj (aD bG aA (pv 1)) (pv 2)))))
  (aB (aG (pv 1))))),2)
 exists 9,p,9,l;refine HR (xs:=b.map V.int) (λi d f=>(∃k,d=[!!!p,some (.int (gm (b.drop (b.length-i)))),k])/\f=H) ?_ ?_ ?_ ?_
 ·refine((3,2),7);rw[aia,aif];rfl
 ·rintro i d f _ ⟨_,rfl⟩;exact l
 ·rintro i x d f n m ⟨⟨k,rfl⟩,rfl⟩;obtain⟨c,j,rfl⟩:=int_at m;rw[aaa]at n j;refine(9,5,.inl (4,4),9,5,(!!!!c,2),7);have e:b.drop (b.length-(i+1))=c::b.drop (b.length-i):=by
   have r:b.length-(i+1)=b.length-1-i:=by lia
   have o:b.length-i=b.length-1-i+1:=by lia
   rw[r,o,agv ⋯];congr 1;have:=aad.mp j;exact this.2
  rw[e];rfl
 ·rintro d f ⟨⟨k,rfl⟩,rfl⟩;rw[aaa,ahy,agL];exact(9,q)
inductive qj(K:PySem.W.Frag)(vs:List V)(H:Hp)(Q:VK)(_e1:XK):Prop
 |mk (p:Addr) (ns:List Int) (m:Nat) (_:vs=[.ref p,.int (m:Int)]) (_:(My K H p ‹ns›\/H p=some (.tup !!ns))) (_:ns.length<=5000) (_:m<=100) (_:∀r H',H r=none->aM H H'->H' r=some (.lst ‹(ns.flatMap λx=>aU x m)›)->Q (.ref r) H')
theorem cP(T:Tx K mg a):bc P w K mg base Wt 2 a.abl a.aa0 ["numbers","size"] (qj K):=by
 refine T.ZS.F.Wv fQ λC A y s H D Q E z h=>?_;obtain⟨p,l,m,rfl,n,I,G,q⟩:=h;refine(_,(ao (aC 2 fQ.nd (bM aj))
  (ao (bA PassesOwn.never rfl (Ss (pv 0)) (aR 3 fQ.nd) (aB (bC (fD PySem.F.plainAttrs_list PySem.F.slot_list_extend PySem.F.type_list_extend gH (pv 2) (au (aW T.aa3 (lA T) z (Wn 3 (Wn 1 aj))) aj)))))
  (aB (aG (pv 2))))),2)
 refine(sl0,λr d=>?_);rcases n with n|n
 ·refine(9,p,7,.inl ((_,(aq d _).seq n),2));refine bV (xs:=l.map V.int) (λi j e=>(∃k,j=[!!!p,some (.int (m:Int)),!!!r,k])/\aM H e/\e r=some (.lst ‹((l.take i).flatMap λx=>aU x m)›)) ((3,7),aq d _,aa) ?_ ?_ ?_
  ·rintro i j e _ ⟨_,f,_⟩;exact f.seq n
  ·rintro i x j e v ⟨⟨k,rfl⟩,f,b⟩;obtain⟨c,t,rfl⟩:=int_at v;have B:=(aad.mp t).1;refine(9,.inl (7,_,My.of b),8,c,(m:Int),7,6,6,λo g=>?_);have u:r≠o:=aH b g;rw[aaz]at *;exists r,o,5,by rw[aJ u];exact b,aa,2,(_,7),aZ (f.trans (aq g _)) d _
   ·rw[aaa,aaa,aY,aaq,aP,sizeLine_eq];have:m*min i l.length<=100*5000:=ahU ⋯ ⋯;lia
   ·rw[aa,af7,t];show _=some (HO.lst ‹((l.take i++[c]).flatMap λx=>aU x m)›);rw[ahk,aag];simp
  ·rintro j e ⟨⟨k,rfl⟩,f,b⟩;rw[aaa,agi]at b;exact(9,q r e d f b)
 ·refine(9,p,7,.inr ((_,Wq.of (aq d _ _ _ n)),2));refine Ja (xs:=l.map V.int) (λi j e=>(∃k,j=[!!!p,some (.int (m:Int)),!!!r,k])/\aM H e/\e r=some (.lst ‹((l.take i).flatMap λx=>aU x m)›)) ((3,7),aq d _,aa) ?_ ?_ ?_
  ·rintro i j e _ ⟨_,f,_⟩;exact Wq.of (f _ _ n)
  ·rintro i x j e v ⟨⟨k,rfl⟩,f,b⟩;obtain⟨c,t,rfl⟩:=int_at v;have B:=(aad.mp t).1;refine(9,.inl (7,_,My.of b),8,c,(m:Int),7,6,6,λo g=>?_);have u:r≠o:=aH b g;rw[aaz]at *;exists r,o,5,by rw[aJ u];exact b,aa,2,(_,7),aZ (f.trans (aq g _)) d _
   ·rw[aaa,aaa,aY,aaq,aP,sizeLine_eq];have:m*min i l.length<=100*5000:=ahU ⋯ ⋯;lia
   ·rw[aa,af7,t];show _=some (HO.lst ‹((l.take i++[c]).flatMap λx=>aU x m)›);rw[ahk,aag];simp
  ·rintro j e ⟨⟨k,rfl⟩,f,b⟩;rw[aaa,agi]at b;exact(9,q r e d f b)
inductive uW(K:PySem.W.Frag)(vs:List V)(H:Hp)(Q:VK)(_e1:XK):Prop
 |mk (p t:Addr) (bs ah:List Int) (_:vs=[.ref p,.ref t]) (_:My K H p !!bs) (_:H t=some (.tup !!ah)) (_:bs.length<=5000) (_:ah.length<=5000) (_:∀r H',H r=none->aM H H'->H' r=some (.lst ‹(bs.flatMap (λx=>aU x 4)++ah.flatMap (λx=>aU x 2))›)->Q (.ref r) H')
theorem iJ(T:Tx K mg a):bc P w K mg base Wt 3 a.acn a.abT ["blocks","ahead"] (uW K):=by
 refine T.aaK.F.Wv vN λB A g s H C Q E i h=>?_;obtain⟨p,t,u,x,rfl,o,n,f,e,q⟩:=h;exists _,(aB (aG (aD dG (aW T.ZS (cP T) i (Wn 0 (au (aV (v:=.int 4) rfl T.aaU (_,7)) aj))) (aW T.ZS (cP T) i (Wn 1 (au (aV (v:=.int 2) rfl T.YT (_,7)) aj))))));refine(9,p,u,(4),7,.inl o,f,4,λm G z c k=>?_);refine(9,t,x,(2),7,.inr (c _ _ n),e,4,λl D y d j=>?_);refine(m,l,5,d _ _ k,j,2,λr b=>?_)
 ·rw[aaa,aaa,aY,aY,sizeLine_eq];lia
 refine q r _ ((c.trans d).free b) (c.trans (d.trans (aq b _))) ?_;rw[aa,aag]
inductive xx(K:PySem.W.Frag)(C1:Addr)(C2:Addr)(vs:List V)(H:Hp)(Q:VK)(E:XK):Prop
 | mk (p:Addr) (ns:List Int) (_:vs=[.ref p]) (_:My K H p !!ns) (_:((ns.length<=4096/\aK ns /\ ∀r H',H r=none->aM H H'->H' r=some (.lst ‹gQ ns›)->Q (.ref r) H')\/(4096<ns.length/\E (.ref C1) none H)\/(ns.length<=4096 /\ ¬aK ns/\E (.ref C2) none H)))
theorem jE(T:Tx K mg a):bc P w K mg base (WX P w) 6 a.aaO a.aco ["bits"] (xx K a.Xk a.Yn):=by
 refine T.ZV.F.Xg oK (λC H Q E h=>?_) (λY A l s H C Q E g h=>?_)
 ·obtain⟨p,d,rfl,_⟩:=h;rfl
 obtain⟨p,d,rfl,f,h⟩:=h;refine(_,(ao (aC 1 oK.nd (bI T.abK (nu T) ∅ g dz rfl (Wn 0 aj)))
  (aB (aG (aD dG (aD dG (bM (au (aV (v:=.int 1) rfl T.af0 (_,7)) aj)) (aW T.aa3 (lA T) g (au (aL aN rfl T.WF Tw.bB (Wn 0 aj)) (au (aV (v:=.int 2) rfl T.YT (_,7)) aj)))) (aW T.aaK (iJ T) g (au (bD bO (pv 1) aA) (au (bD bO (bD bO (pv 1) aA) aA) aj))))))),2)
 rcases h with ⟨M,N,q⟩|h|h
 rotate_left
 ·exact(9,p,d,7,f,.inr (.inl h))
 ·exact(9,p,d,7,f,.inr (.inr h))
 have Z:many d.length<=128:=by
  unfold many;lia
 refine(9,p,d,7,f,.inl (M,N,λkr b t U H1 X z x u O=>?_));have S:=u.tup;have R:=u.Z3;refine(sl1,λL k=>?_);have o:=aq k (.lst [.int 1]);refine(9,p,9,.inl ((z.trans o).seq f),_,9,6,4,λJ j=>?_);have W:‹d›.length=d.length:=aaa ..;rw[W,show ((2:Int)).toNat=2 from rfl];have n:=aq j (.lst ‹(aU (d.length:Int) 2)›);refine(L,J,5,n _ _ aa,aa,2,λI i=>?_)
 ·rw[aaa,aP,sizeLine_eq];show 1+2<=_;decide
 have D:=aq i (.lst ([.int 1]++(aU (d.length:Int) 2).map V.int));have c:=o.trans (n.trans D);refine(9,kr,_,5,Wq.of (c _ _ x),7,9,kr,_,5,Wq.of (c _ _ x),7,t,_,5,Wq.of (c _ _ S),7,b,U,bw d,WD d (many d.length),7,My.of (c _ _ O),c _ _ R,2,2,λG H4 Zx y B=>?_)
 ·rw[aX];lia
 ·rw[cD];lia
 refine(I,G,5,y _ _ aa,B,2,λr e=>?_)
 ·rw[aac,aaa,aaa,aP,aac,aY,aY,aX,cD,sizeLine_eq];show 1+2+_<=_;lia
 have m:=z.trans (c.trans y);refine q r _ (m.free e) (m.trans (aq e _)) ?_;rw[aa];unfold gQ;rw[aag (l₁:=[1]++_),aag];rfl
inductive ww(vs:List V)(H:Hp)(Q:VK)(_e1:XK):Prop
 | mk (p:Addr) (ds:List Int) (_:vs=[.ref p]) (_:H p=some (.lst !!ds)) (_:ds.length<=2048) (_:bW ds) (_:∀r H' lows,H r=none->aM H H'->qe (brk ds 0) lows->H' r=some (.lst ‹cX (brk ds 0) lows›)->Q (.ref r) H')
theorem fW(T:Tx K mg a):bc P w K mg base Wt 8 a.aaI a.abU ["depths"] ww:=by
 refine T.Zv.F.Wv cM λa6 A I s H vs Q E l h=>?_;obtain⟨p,d,rfl,hp,hl,R,q⟩:=h;refine(_,(ao (aC 1 cM.nd (aW T.ab4 (qb T) l (Wn 0 aj)))
  (ao (aC 2 cM.nd (bD bO (pv 1) aA))
  (ao (aC 3 cM.nd (bD bO (pv 1) aA))
  (ao (aC 4 cM.nd (aD gj (aL aN rfl T.WF Tw.bB (au (bD bO (pv 2) aA) aj)) aA))
  (ao (aC 5 cM.nd (bF Su (bD bO (pv 2) aA) (bH (pv 4)) (bH (aD bj (pv 4) (aL aN rfl T.WF Tw.bB (Wn 3 aj))))))
  (ao (aC 6 cM.nd (aW T.aa3 (lA T) l (au (bD bO (pv 2) aA) (au (aV (v:=.int 2) rfl T.YT (_,7)) aj))))
  (aB (aG (aD dG (aD dG (aD dG (bM (au (aV (v:=.int 2) rfl T.afS (_,7)) aj)) (pv 6)) (aW T.aaK (iJ T) l (Wn 3 (au (bD bO (pv 2) aA) aj)))) (aW T.ZS (cP T) l (Wn 5 (au (aV (v:=.int 2) rfl T.YT (_,7)) aj)))))))))))),2)
 have WR:=iz R;have a2:=eN d 0;have hm:many (brk d 0).length<=128:=by
  unfold many;lia
 refine(9,p,d,7,hp,hl,R,λkr t ah O W b S j Z a3 WY J c=>?_);have y:=c.low.len;have a0:b.length<=S:=by
  obtain⟨_,_,z,_⟩:=c.sz;exact z
 have a5:=c.sz.pos;have YM:=c.heap.len;have a4:=c.sz.le ⋯;have i:=c.tab.tup;exists 9,kr,_,5,Wq.of J,7;exists 9,kr,_,5,Wq.of J,7;exists 9,t,_,5,Wq.of i,7,O,9,.inr (Wq.of c.nds),5,(4,4);have U:(j.length:Int) / 2=(S:Int):=by lia
 have G:‹bw (brk d 0)›.length=b.length:=by
  rw[aaa,aX,y]
 refine(9,t,_,5,Wq.of i,7,8,8,W,9,.inl (My.of c.bls),5,9,O,9,Wq.of c.nds,2,λk u=>?_)
 ·rintro⟨z,_⟩;rw[U,HT.iy]at z;lia
 have ec:dR j (some ((j.length:Int) / 2)) (some ((j.length:Int) / 2+(‹bw (brk d 0)›.length:Int)))=b.map V.int:=by
  rw[U,G,show (S:Int)+(b.length:Int)=((S+b.length:Nat):Int)from by lia,Nh ⋯ ⋯,agN,Lk c.sz c.heap]
 rw[ec];have n:=aq u (.tup !!b);have o:upd Z k (.tup !!b) k=some (.tup !!b):=aa;generalize upd Z k (.tup !!b)=H2 at *;refine(9,t,_,5,Wq.of (n _ _ i),7,_,9,6,4,λl2 C=>?_);rw[show ((2:Int)).toNat=2 from rfl];have N:=aq C (.lst ‹(aU ((brk d 0).length:Int) 2)›);refine(sl1,λl1 D=>?_);have m:=aq D (.lst [.int 2]);refine(9,l1,l2,5,aa,m _ _ aa,2,λl3 B=>?_)
 ·rw[aaa,aP,sizeLine_eq];show 1+2<=_;decide
 have M:=aq B (.lst ([.int 2]++(aU ((brk d 0).length:Int) 2).map V.int));have e:=n.trans (N.trans (m.trans M));refine(8,t,_,5,Wq.of (e _ _ i),7,W,ah,bw (brk d 0),WD (brk d 0) (many (brk d 0).length),7,My.of (e _ _ c.bls),e _ _ c.tab.Z3,2,2,λl4 H4 Zx Y x4=>?_)
 ·rw[aX];lia
 ·rw[cD];lia
 refine(l3,l4,5,Y _ _ aa,x4,2,λl5 Z6=>?_)
 ·rw[aac,aaa,aaa,aP,aac,aY,aY,aX,cD,sizeLine_eq];show 1+2+_<=_;lia
 have s5:=aq Z6 (.lst ([.int 2]++(aU ((brk d 0).length:Int) 2).map V.int++((bw (brk d 0)).flatMap (λx=>aU x 4)++(WD (brk d 0) (many (brk d 0).length)).flatMap (λx=>aU x 2)).map V.int));have f:=N.trans (m.trans (M.trans (Y.trans s5)));refine(9,k,b,(2),7,.inr (f _ _ o),6,4,λl6 H6 a1 X x6=>?_);refine(l5,l6,5,X _ _ aa,x6,2,λr g=>?_)
 ·rw[aac,aac,aaa,aaa,aaa,aP,aac,aY,aY,aY,aX,cD,sizeLine_eq];show 1+2+_+_<=_;lia
 have L:=WY.trans (n.trans (f.trans X));refine q r _ b (L.free g) (L.trans (aq g _)) c.low ?_;rw[aa];unfold cX;rw[aag (l₁:=[2]++_++_),aag (l₁:=[2]++_),aag];rfl
theorem zf:∀{l g:List Int},l.Pairwise (· < ·)->g.Pairwise (· < ·)->(∀z,z∈l ↔ z∈g)->l=g
 |[],[],_,_,_=>rfl
 |[],b::j,_,_,h=>absurd ((h b).mpr aal) agV
 |a::r,[],_,_,h=>absurd ((h a).mp aal) agV
 |a::r,b::j,p,k,h=>by
  have f:=aho.mp p;have d:=aho.mp k;have e:a=b:=by
   rcases aav.mp ((h a).mp aal)with e|e
   ·exact e
   ·rcases aav.mp ((h b).mpr aal)with i|i
    ·exact i.symm
    ·have:=d.1 a e;have:=f.1 b i;lia
  subst e;rw[zf f.2 d.2 λz=>?_];constructor
  ·intro c;rcases aav.mp ((h z).mp (aai _ c))with e|e
   ·have:=f.1 z c;lia
   ·exact e
  ·intro c;rcases aav.mp ((h z).mpr (aai _ c))with e|e
   ·have:=d.1 z c;lia
   ·exact e
theorem Kinds.uniq{ns ms :List Int}(h:Kinds ns ms)(h':Kinds ns c):ms=c:=zf h.up h'.up λz=>(h.mem z).trans (h'.mem z).symm
theorem uI{n h':Nat}(a:gk n (2^z))(b:gk n (2^h')):z=h':=(ajg (a:=2) ∅).mp (a.uniq b)
theorem Kept.same{H':Hp}{r t b k c:Addr}{ns ms:List Int}(x:Kept H r t b k c ns ms n i)(s:aM H H'):Kept H' r t b k c ns ms n i:=
 (s _ _ x.r,s _ _ x.t,s _ _ x.k,s _ _ x.c,x.ls.to λb d e=>s _ _ e,s _ _ x.b,x.kd,x.sz,x.h12)
theorem Kept.upd{H:Hp}{r t b k c y:Addr}{ns ms:List Int}{h:Nat}{i:List Addr}{l:List V}{o:HO}(x:Kept H r t b k c ns ms h i)(m:H y=some (.lst l))(j:b≠y):Kept (upd H y o) r t b k c ns ms h i:=by
 have f:∀d g,H d=some (.tup g)->L2.upd H y o d=some (.tup g):=λd g e=>by
  rw[aJ λz=>?_]
  ·exact e
  ·rw[z,m]at e;cases e
 exact(f _ _ x.r,f _ _ x.t,f _ _ x.k,f _ _ x.c,x.ls.to f,by rw[aJ j];exact x.b,x.kd,x.sz,x.h12)
theorem JT{K:PySem.W.Frag}{a:Addr}{ns:List Int}{d:L2.St}{l:Addr->Hp->Prop}(g:Int->Int)(o:H a=some (.tup !!ns))(r:ns.length<sizeLine)
  (j:∀(z:Int) (H':Hp) (Q:Bool->Hp->Prop),Q true H'->M (some (.int z)::d) H' Q)(p:∀(z:Int) (H':Hp) (Q:VK),z∈ns->aM H H'->Q (.int (g z)) H'->ta (some (.int z)::d) H' Q)
  (q:∀D,H D=none->l D (upd H D (.lst ‹ns.map g›))):gG (Zh K a) d M ta l H:=by
 intro D h;exists λi m f n=>m=ns.length-i/\i<=ns.length/\f=((ns.take i).map g).map V.int/\n=upd H D (.lst f),(9,af3 _,7,7);rintro i m f n ⟨rfl,s,rfl,rfl⟩;have c:Wq K (upd H D (.lst ‹(ns.take i).map g›)) a ‹ns›:=Wq.of (aq h _ _ _ o);by_cases b:i<ns.length
 ·have k:‹ns›[i]?=some (.int ns[i]):=by
   rw[aak,aab b];rfl
  refine .inr ((1,c,k),λv t y=>?_);obtain⟨rfl,y⟩:=y;have e:=y _ c;rw[k]at e;cases e;refine j _ _ _ ?_;rw[if_pos rfl];refine p _ _ _ (age b) (aq h _) (aa,2,ns.length-(i+1),6,7,b,2,2)
  ·rw[aaa,aaa,aaq];lia
  ·rw[af7,aab b,aag,aag];rfl
  ·rw[jq]
 ·have e:i=ns.length:=by lia
  subst e;rw[agi];rw[agi]at c;exact .inl ((_,c,by rw[aaa];exact aae _),q D h)
def XF(n:Nat)(bs:List Int):List Int:=(bw bs).flatMap (λx=>aU x 4)++(WD bs (many n)).flatMap (λx=>aU x 2)
def WP(ns ms:List Int)(h:Nat):List Int:=[3]++[(ns.length:Int),(ms.length:Int)].flatMap (λx=>aU x 2)++(ms.map λz=>z+10^60).flatMap (λx=>aU x 26)++(Ww h (rks ms ns)).flatMap (XF ns.length)
theorem zR{n:Nat}{bs:List Int}(h:bs.length=n):(XF n bs).length=4*many n+2*(many n+1):=by
 unfold XF;rw[aac,aY,aY,aX,cD,h]
theorem p8{n:Nat}:∀{L:List (List Int)},(∀bs∈L,bs.length=n)->(L.flatMap (XF n)).length=(4*many n+2*(many n+1))*L.length
 |[],_=>rfl
 |b::L,h=>by
  rw[agX,aac,zR (h b aal),p8 λbs c=>h bs (aai _ c),aao];generalize 4*many n+2*(many n+1)=S;rw[ahp,ah0]
theorem Rt{ns ms:List Int}(g:ns.length<=4096)(i:ms.length<=4096)(b:n<=12):1<=(WP ns ms n).length/\(WP ns ms n).length<=200000:=by
 unfold WP;have c:((Ww n (rks ms ns)).flatMap (XF ns.length)).length=(4*many ns.length+2*(many ns.length+1))*n:=by
  rw[p8 λe d=>?_,eO];rw[(lq n _ e d).2];exact aaa ..
 rw[aac,aac,aac,aY,aY,c,aaa];have f:many ns.length<=128:=by unfold many;lia
 have:=ahU (show 4*many ns.length+2*(many ns.length+1)<=800 by lia) b;show 1<=1+2*2+_+_/\1+2*2+_+_<=_;lia
theorem Jb{m:Nat}:∀{L:List (List Int)} {i:Nat}{bs:List Int},(∀x∈L,(bw x).length=m)->L[i]?=some bs->(((L.map bw).flatten).drop (i*m)).take m=bw bs
 |[],i,bs,_,h=>by cases h
 |x::L,0,bs,b,h=>by
  cases h;rw[ajN,agL,aax,agW,ahc (by rw[b x aal];exact aae _),aaj (by rw[b x aal];exact aae _)]
 |x::L,i+1,bs,b,h=>by
  have c:=b x aal;rw[aax,agW,ahX,agk (by rw[c,aiu];lia),ahO,c,show (i+1)*m-m=i*m by rw[aiu];lia];exact Jb (λy d=>b y (aai _ d)) h
inductive uF(K:PySem.W.Frag)(C1:Addr)(C2:Addr)(vs:List V)(H:Hp)(Q:VK)(E:XK):Prop
 | mk (p:Addr) (ns:List Int) (_:vs=[.ref p]) (_:My K H p !!ns) (_:((ns.length<=4096/\(∃U:List Int,U.length<=4000 /\ ∀z∈ns,z∈U)/\Xa ns /\ ∀(r:Addr) (ms:List Int) (h:Nat) (H':Hp),H r=none->aM H H'->Kinds ns ms->gk ms.length (2^h)->H' r=some (.lst ‹WP ns ms h›)->Q (.ref r) H')\/(4096<ns.length/\E (.ref C1) none H)\/(ns.length<=4096 /\ ¬Xa ns/\E (.ref C2) none H)))
theorem fH(T:Tx K mg a):bc P w K mg base (WX P w) 7 a.aaD a.abp ["signs"] (uF K a.Xk a.X7):=by
 refine T.Zw.F.Xg b8 (λvs H Q E h=>?_) (λc1 A b0 s H vs Q E hr h=>?_)
 ·obtain⟨p,d,rfl,_⟩:=h;rfl
 obtain⟨p,d,rfl,hS,h⟩:=h;refine(_,(ao (aC 1 b8.nd (bI T.adb (xP T) ∅ hr dz rfl (Wn 0 aj)))
  (ao (aC 2 b8.nd (bD bO (bD bO (pv 1) aA) aA))
  (ao (aC 3 b8.nd (aD dG (bM (au (aV (v:=.int 3) rfl T.afE (_,7)) aj)) (aW T.ZS (cP T) hr (au (bM (au (aL aN rfl T.WF Tw.bB (Wn 0 aj)) (au (aL aN rfl T.WF Tw.bB (Wn 2 aj)) aj))) (au (aV (v:=.int 2) rfl T.YT (_,7)) aj)))))
  (ao (bC (fD PySem.F.plainAttrs_list PySem.F.slot_list_extend PySem.F.type_list_extend gH (pv 3) (au (aW T.ZS (cP T) hr (au (kJ rfl bR.zero (Ox (pv 2)) (λ_ _ _ _=>eX) (λ_ _ _ _=>(aD bj (pv 0) (aD rG aA aA)))) (au (aV (v:=.int 26) rfl T.aa7 (_,7)) aj))) aj)))
  (ao (aC 4 b8.nd aA)
  (ao (bA fj rfl (Ox (bD bO (bD bO (pv 1) aA) aA)) (aR 5 b8.nd) (ao (aC 6 b8.nd (aD dF (aD bj (pv 4) (aL aN rfl T.WF Tw.bB (Wn 5 aj))) aA))
  (ao (bC (fD PySem.F.plainAttrs_list PySem.F.slot_list_extend PySem.F.type_list_extend gH (pv 3) (au (aW T.aaK (iJ T) hr (au (bF cI (bD bO (pv 1) aA) (bH (pv 4)) (bH (pv 6))) (Wn 5 aj))) aj)))
  (aB (aC 4 b8.nd (pv 6))))))
  (aB (aG (pv 3))))))))),2)
 rcases h with ⟨hl,⟨U,hU,hc⟩,hi,q⟩|h|h
 rotate_left
 ·exact(9,p,d,7,hS,.inr (.inl h))
 ·exact(9,p,d,7,hS,.inr (.inr h))
 refine(9,p,d,7,hS,.inl (hl,(U,hU,hc),hi,λL t b k c e h Z H1 b9 WY x=>?_));have kl:e.length<=4000:=by
  have:=mD x.kd.nd λz hz=>hc z ((x.kd.mem z).mp hz);lia
 have hm:many d.length<=128:=by
  unfold many;lia
 have Xl:‹d›.length=d.length:=aaa ..;have a7:‹e›.length=e.length:=aaa ..;exists 9,L,_,5,Wq.of x.r,7,t,_,5,Wq.of x.t,7;refine(sl1,λl1 u=>?_);have D:=aq u (.lst [.int 3]);refine(9,p,9,.inl ((WY.trans D).seq hS),9,k,9,.inr (Wq.of (D _ _ x.k)),sl2,λl2 a4=>?_);rw[Xl,a7];have Y:=aq a4 (.lst [.int (d.length:Int),.int (e.length:Int)]);refine(l2,[(d.length:Int),(e.length:Int)],(2),7,.inl (My.of aa),(by show 2<=5000;decide),4,λl3 H3 b5 m x3=>?_);refine(l1,l3,5,m _ _ (Y _ _ aa),x3,2,λg Zx=>?_)
 ·rw[aaa,aY,sizeLine_eq];show 1+2*2<=_;decide
 have s4:=aq Zx (.lst ([.int 3]++([(d.length:Int),(e.length:Int)].flatMap (λx=>aU x 2)).map V.int));have N:=D.trans (Y.trans (m.trans s4));have j:H g=none:=(WY.trans (D.trans (Y.trans m))).free Zx;have x4:upd H3 g (.lst ([.int 3]++([(d.length:Int),(e.length:Int)].flatMap (λx=>aU x 2)).map V.int)) g=some (.lst ‹([3]++[(d.length:Int),(e.length:Int)].flatMap (λx=>aU x 2))›):=by
  rw[aa,aag];rfl
 have Yb:=WY.trans N;have O:b≠g:=aH (m _ _ (Y _ _ (D _ _ x.b))) Zx
 replace x:=x.same N
 generalize upd H3 g (.lst ([.int 3]++([(d.length:Int),(e.length:Int)].flatMap (λx=>aU x 2)).map V.int))=H4 at *;exists 9,.inl (7,_,My.of x4),9,k,7,(_,Wq.of x.k);refine JT (λz=>z+10^60) x.k (by rw[sizeLine_eq];lia) (λ_ _ _ q=>q) (λz G Q _ _ q=>(9,5,(4,4,4),5,q)) λl5 Z6=>?_;have X:=aq Z6 (.lst ‹(e.map λz=>z+10^60)›);refine(l5,e.map λz=>z+10^60,26,7,.inl (My.of aa),by rw[aaa];lia,4,λl6 H6 b4 Yj x6=>?_);have e1:([3]++[(d.length:Int),(e.length:Int)].flatMap (λx=>aU x 2)).length=5:=by
  rw[aac,aY];rfl
 exists g,l6,5,Yj _ _ (X _ _ x4),x6,2
 ·rw[aaa,aaa,e1,aY,aaa,sizeLine_eq];lia
 have a1:=aZ (Yb.trans (X.trans Yj)) j (.lst (([3]++[(d.length:Int),(e.length:Int)].flatMap (λx=>aU x 2)).map V.int++((e.map λz=>z+10^60).flatMap (λx=>aU x 26)).map V.int))
 replace x:=(x.same (X.trans Yj)).upd (o:=.lst (([3]++[(d.length:Int),(e.length:Int)].flatMap (λx=>aU x 2)).map V.int++((e.map λz=>z+10^60).flatMap (λx=>aU x 26)).map V.int)) (Yj _ _ (X _ _ x4)) O
 have C:L2.upd H6 g (.lst (([3]++[(d.length:Int),(e.length:Int)].flatMap (λx=>aU x 2)).map V.int++((e.map λz=>z+10^60).flatMap (λx=>aU x 26)).map V.int)) g=some (.lst ‹(([3]++[(d.length:Int),(e.length:Int)].flatMap (λx=>aU x 2))++(e.map λz=>z+10^60).flatMap (λx=>aU x 26))›):=by
  rw[aa,aag (l₁:=[3]++_)]
 generalize L2.upd H6 g (.lst (([3]++[(d.length:Int),(e.length:Int)].flatMap (λx=>aU x 2)).map V.int++((e.map λz=>z+10^60).flatMap (λx=>aU x 26)).map V.int))=H7 at *;have hh:([3]++[(d.length:Int),(e.length:Int)].flatMap (λx=>aU x 2)++(e.map λz=>z+10^60).flatMap (λx=>aU x 26)).length<=150000:=by
  rw[aac,e1,aY,aaa];lia
 have R:WP d e h=([3]++[(d.length:Int),(e.length:Int)].flatMap (λx=>aU x 2)++(e.map λz=>z+10^60).flatMap (λx=>aU x 26))++(Ww h (rks e d)).flatMap (XF d.length):=rfl;generalize ([3]++[(d.length:Int),(e.length:Int)].flatMap (λx=>aU x 2)++(e.map λz=>z+10^60).flatMap (λx=>aU x 26))=hd at *;have a2:(rks e d).length=d.length:=by unfold rks;exact aaa ..
 have I:∀f∈Ww h (rks e d),f.length=d.length:=λf M=>((lq h _ f M).2).trans a2;have b2:Z.length=h:=by rw[x.ls.1,aaa,eO]
 have c0:=x.h12;exists 9,L,_,5,Wq.of x.r,7,t,_,5,Wq.of x.t,7,c,7,(_,Wq.of x.c);refine Ja (xs:=Z.map V.ref) (λi W G=>(∃k5 k6,W=[!!!p,!!!L,!!!k,!!!g,some (.int ((i*many d.length:Nat):Int)),k5,k6])/\aM H G/\Kept G L t b k c d e h Z/\G g=some (.lst ‹hd++((Ww h (rks e d)).take i).flatMap (XF d.length)›)) ?_ ?_ ?_ ?_
 ·exists (3,3,2),a1,x
  ·rw[ajN];rfl
  ·rw[C,ahI,List.flatMap_nil,agr]
 ·rintro i W G _ ⟨_,_,x,_⟩;exact Wq.of x.c
 ·rintro i y W G hy ⟨⟨k5,k6,rfl⟩,sm,x,C⟩;rw[aak]at hy;obtain⟨l,u,rfl⟩:=agp.mp hy;have b6:=(aad.mp u).1;obtain⟨f,B⟩:∃f,(Ww h (rks e d))[i]?=some f:=(_,aab (by rw[eO];lia));have WR:=I f (aaw B);have xl:=x.ls.2 i l (WD f (many d.length)) u (by rw[aak,B];rfl);have a9:‹WD f (many d.length)›.length=many d.length+1:=by rw[aaa,cD]
  exists 8,l,9,.inr (Wq.of xl),5,5;have a8:((i*many d.length:Nat):Int)+(‹WD f (many d.length)›.length:Int)-1=(((i+1)*many d.length:Nat):Int):=by
   rw[a9,aiu];lia
  show eZ 6 (.int (((i*many d.length:Nat):Int)+(‹WD f (many d.length)›.length:Int)-1)) _ _ _;rw[a8];refine(9,.inl (7,_,My.of C),9,L,_,5,Wq.of x.r,7,8,8,b,9,My.of x.b,λcu a5=>?_);have a3:∀f∈Ww h (rks e d),(bw f).length=many d.length:=λf M=>by rw[aX,I f M]
  have S:dR ‹((Ww h (rks e d)).map bw).flatten› (some ((i*many d.length:Nat):Int)) (some (((i+1)*many d.length:Nat):Int))=(bw f).map V.int:=by
   rw[Ak,show (i+1)*many d.length-i*many d.length=many d.length by rw[aiu];lia,Jb a3 B]
  rw[S];have D:=aq a5 (.lst ‹bw f›);refine(9,cu,l,bw f,WD f (many d.length),7,My.of aa,D _ _ xl,2,2,λl8 H8 b3 a0 x8=>?_)
  ·rw[aX,WR];lia
  ·rw[cD];lia
  have b1:(((Ww h (rks e d)).take i).flatMap (XF d.length)).length<=10000:=by
   rw[p8 λf M=>I f (agt M),aaq,eO];have:=ahU (show 4*many d.length+2*(many d.length+1)<=800 by lia) (show min i h<=12 by lia);lia
  have n:=D.trans a0;have a6:(Ww h (rks e d)).take (i+1)=(Ww h (rks e d)).take i++[f]:=by rw[af7,B];rfl
  exists g,l8,5,n _ _ C,x8,2,9,(_,9),aZ (sm.trans n) j _,(x.same n).upd (n _ _ C) O
  ·have:=zR WR;unfold XF at this;rw[aaa,aaa,aac,this,sizeLine_eq];lia
  ·rw[aa,a6,ahk,<-af5,aag (l₁:=hd++_)];simp[XF]
 ·rintro W G ⟨⟨k5,k6,rfl⟩,sm,x,C⟩;have J:(Ww h (rks e d)).take (Z.map V.ref).length=Ww h (rks e d):=aaj (by rw[aaa,eO];lia);rw[J,<-R]at C;exact(9,q g e h G j sm x.kd x.sz C)
inductive Zz(ws:List Str)(os:List Int):Prop
 |mk (ts:List Str) (lows ms:List Int) (h:Nat) (_:gP ws ts) (_:qe (brk (ts.map λt=>(t.length:Int)) 0) lows) (_:Kinds ((ts.drop 1).map cO) ms) (_:gk ms.length (2^h)) (_:h<=12) (_:os=[4]++cX (brk (ts.map λt=>(t.length:Int)) 0) lows++WP ((ts.drop 1).map cO) ms h++gQ (ts.map (lG ws)))
theorem Zz.uniq{ws:List Str}{os b:List Int}(h:Zz ws os)(h':Zz ws b):os=b:=by
 obtain⟨q,d,r,k,j,i,g,f,_,rfl⟩:=h;obtain⟨p,c,t,s,o,n,m,l,_,rfl⟩:=h';have e:=j.uniq o;subst e;have e:=i.uniq n;subst e;have e:=g.uniq m;subst e;have e:=uI f l;subst e;rfl
theorem wM{ns:List Int}(h:ns.length<=4096):(gQ ns).length<=2000:=by
 unfold gQ;have b:many ns.length<=128:=by
  unfold many;lia
 rw[aac,aac,aac,aP,aY,aY,aX,cD];show 1+2+_<=_;lia
theorem yN{ws:List Str}{lows:List Int}(b:gP ws N)(d:N.length<=2048)(h:qe (brk (N.map λt=>(t.length:Int)) 0) lows):(cX (brk (N.map λt=>(t.length:Int)) 0) lows).length<=10000:=by
 have e:=iz b.good;rw[aaa]at e;have c:many (brk (N.map λt=>(t.length:Int)) 0).length<=128:=by
  unfold many;lia
 rw[dj (eN _ _),h.len];lia
theorem Q3{ws :List Str}{ms:List Int}(f:N.length<=2048)(c:Kinds ((N.drop 1).map cO) ms)(b:n<=12):(WP ((N.drop 1).map cO) ms n).length<=200000:=by
 have e:((N.drop 1).map cO).length<=2048:=by
  rw[aaa,aaM];lia
 have:=mD c.nd λz d=>(c.mem z).mp d;exact(Rt ⋯ ⋯ b).2
theorem Mv(x y z:List Int):(([V.int 4]++x.map V.int)++y.map V.int)++z.map V.int=([4]++x++y++z).map V.int:=by
 rw[aag,aag,aag];rfl
theorem vo{ws :List Str}(d:gP ws N)(c:∀w∈ws,W0 w):Xa ((N.drop 1).map cO):=λz b=>by
 obtain⟨t,ht,rfl⟩:=afs.mp b;have:=rE (d.low c (ago ht));lia
inductive uA(K:PySem.W.Frag)(C1:Addr)(C2:Addr)(vs:List V)(H:Hp)(Q:VK)(E:XK):Prop
 | mk (p:Addr) (ws:List Str) (_:vs=[.ref p]) (_:My K H p (ws.map V.str)) (_:(∀x∈ws,x.length<=3000)) (_:ws.length<=3000) (_:Taken C1 C2 ws H E (much ws<=90000/\yd ws 2048 /\ ∀r os H',H r=none->aM H H'->Zz ws os->os.length<=1000000->H' r=some (.lst !!os)->Q (.ref r) H'))
theorem lL(T:Tx K mg a):bc P w K mg base (WX P w) 9 a.aaE a.abq ["words"] (uA K a.Xz a.YG):=by
 refine T.aay.F.Xg lM (λvs H Q E h=>?_) (λa3 A W s H vs Q E x h=>?_)
 ·obtain⟨p,g,rfl,_⟩:=h;rfl
 obtain⟨p,g,rfl,L,k,J,h⟩:=h;refine(_,(ao (aC 1 lM.nd (bI T.aev (CZ T) ∅ x dz rfl (Wn 0 aj)))
  (aB (aG (aD dG (aD dG (aD dG (bM (au (aV (v:=.int 4) rfl T.afF (_,7)) aj)) (aW T.Zv (fW T) x (au (bD bO (pv 1) aA) aj))) (bI T.Zw (fH T) ∅ x dz rfl (au (bD bO (pv 1) aA) aj))) (bI T.ZV (jE T) ∅ x dz rfl (au (bD bO (pv 1) aA) aj)))))),2)
 rcases h with ⟨M,q⟩|⟨M,h2,q⟩|⟨Y,nd,hm,u,q⟩
 ·exact(9,p,g,7,L,k,J,.inl (M,q))
 ·exact(9,p,g,7,L,k,J,.inr (.inl (M,h2,q)))
 refine(9,p,g,7,L,k,J,.inr (.inr (Y,nd,hm,u,λG d l e b H1 WY C xd xl xe B N=>?_)));have hts:b.length<=2048:=N;have Yq:=B.good;have R:(b.map λt=>(t.length:Int)).length=b.length:=aaa ..;have O:((b.drop 1).map cO).length=b.length-1:=by rw[aaa,aaM]
 refine(sl1,λf hf=>?_);have D:=aq hf (.lst [.int 4]);refine(9,G,_,5,Wq.of (D _ _ C),7,d,9,D _ _ xd,by rw[R];lia,Yq,λr2 H2 c a2 WM n x2=>?_);have l2:=yN B hts n;refine(f,r2,5,WM _ _ aa,x2,by rw[aaa,sizeLine_eq];show 1+_<=_;lia,λc1 U=>?_);have s3:=aq U (.lst ([.int 4]++(cX (brk (b.map λt=>(t.length:Int)) 0) c).map V.int));have j:=D.trans (WM.trans s3);refine(9,G,_,5,Wq.of (j _ _ C),7,l,(b.drop 1).map cO,7,My.of (j _ _ xl),.inl (6,(_,by rw[O];lia,λz h=>h),vo B Y,λr4 I h H4 a1 Yb y m x4=>?_));have r:h<=12:=Cd (by have:=mD y.nd λz k=>(y.mem z).mp k;lia) m;have l4:=Q3 (ws:=g) hts y r;refine(c1,r4,5,Yb _ _ aa,x4,by rw[aac,aaa,aaa,sizeLine_eq];show 1+_+_<=_;lia,λc2 S=>?_);have s5:=aq S (.lst (([.int 4]++(cX (brk (b.map λt=>(t.length:Int)) 0) c).map V.int)++(WP ((b.drop 1).map cO) I h).map V.int));have i:=j.trans (Yb.trans s5);refine(9,G,_,5,Wq.of (i _ _ C),7,e,b.map (lG g),7,My.of (i _ _ xe),.inl (by rw[aaa];lia,rN _ _,λr6 H6 a0 Z x6=>?_));have l6:=wM (ns:=b.map (lG g)) (by rw[aaa];lia);refine(c2,r6,5,Z _ _ aa,x6,by rw[aac,aac,aaa,aaa,aaa,sizeLine_eq];show 1+_+_+_<=_;lia,λc3 o=>?_);have X:=WY.trans (i.trans Z);refine q c3 ([4]++cX (brk (b.map λt=>(t.length:Int)) 0) c++WP ((b.drop 1).map cO) I h++gQ (b.map (lG g))) _ (X.free o) (X.trans (aq o _)) (b,c,I,h,B,n,y,m,r,7) ?_ ?_
 ·rw[aac,aac,aac];show 1+_+_+_<=_;lia
 ·rw[aa,Mv]
theorem wH:∀(ns:List Int) (u:Int),aK ns->0<=u->(∀k,k<ns.length->0<u+ht ns k)->u+ht ns ns.length=0 -> ∃ds,Dp ds u/\brk ds u=ns/\(∀d∈ds,1<=d)
 |[],u,_,h,_,l=>([],h,by
   have:u=0:=by
    have e:ht ([]:List Int) 0=0:=lw _;have v:u+ht ([]:List Int) 0=0:=l;lia
   subst this;rfl,λd hd=>by simp at hd)
 |b::r,u,m,h,n,l=>by
  have t:0<u:=by
   have:=n 0 (by simp);rw[lw]at this;lia
  have o:∀k,ht (b::r) (k+1)=2*b-1+ht r k:=λk=>by
   unfold ht;rw[ahi,ahD];lia
  have f:∀k,k<r.length->0<u+(2*b-1)+ht r k:=λk s=>by
   have:=n (k+1) (by rw[aao];lia);rw[o]at this;lia
  have g:u+(2*b-1)+ht r r.length=0:=by
   have:u+ht (b::r) (r.length+1)=0:=l;rw[o]at this;lia
  rcases m.head with rfl|rfl
  ·obtain⟨ds,j,c,i⟩:=wH r (u+(2*0-1)) m.tail ⋯ f g;cases ds with
   |nil=>
    refine([],h,2,i);rw[<-c];show aap u.toNat (0:Int)=0::aap (u+(2*0-1)).toNat 0;rw[show u.toNat=(u+(2*0-1)).toNat+1 by lia,agz]
   |cons d ds=>
    obtain⟨q,x,p⟩:=j;refine(d::ds,(q,6,p),2,i);rw[<-c];show aap (u-d).toNat (0:Int)++_=0::(aap (u+(2*0-1)-d).toNat 0++_);rw[show (u-d).toNat=(u+(2*0-1)-d).toNat+1 by lia,agz,agM]
  ·obtain⟨ds,j,c,i⟩:=wH r (u+(2*1-1)) m.tail ⋯ f g;refine(u::ds,(h,aip _,by rw[show u+(2*1-1)=u+1 by lia]at j;exact j),2,λd hd=>?_)
   ·show aap (u-u).toNat (0:Int)++1::brk ds (u+1)=_;rw[show u+(2*1-1)=u+1 by lia]at c;rw[aji,c];rfl
   ·rcases aav.mp hd with rfl|hd
    ·lia
    ·exact i d hd
theorem Ia:∀{ds:List Int}{u:Int},Dp ds u -> ∀(i:Nat) (x y:Int),ds[i]?=some x->ds[i+1]?=some y->y<=x+1
 |[],_,_,i,x,y,e,_=>by simp at e
 |d::r,u,h,0,x,y,e,b=>by
  cases e;cases r with
  |nil=>simp at b
  |cons z r=>
   cases b;exact h.2.2.2.1
 |d::r,u,h,i+1,x,y,e,b=>Ia h.2.2 i x y (by simpa using e) (by simpa using b)
theorem Ny{ns:List Int}(h:aK ns)(d:Tree ns):∃ds,bW ds/\brk ds 0=ns:=by
 obtain⟨l,m,g⟩:=d;cases ns with
 |nil=>simp at l
 |cons b r=>
  have c:∀k,ht (b::r) (k+1)=2*b-1+ht r k:=λk=>by
   unfold ht;rw[ahi,ahD];lia
  have f:b=1:=by
   rcases h.head with e|e
   ·have:=g 1 ⋯ ⋯;rw[c 0,lw]at this;lia
   ·exact e
  subst f;obtain⟨ds,q,p,o⟩:=wH r 1 h.tail ∅ (λk s=>by
   have:=g (k+1) ⋯ (by rw[aao];lia);rw[c]at this;lia) (by
   have:ht (1::r) (r.length+1)=0:=m;rw[c]at this;lia)
  have n:Dp (0::ds) 0:=(4,4,q);exists 0::ds,(7,λi x y e j=>(2,Ia n i x y e j))
  ·have:ds[i]?=some y:=by simpa using j
   exact o y (aaw this)
  ·show aap ((0:Int)-0).toNat (0:Int)++1::brk ds (0+1)=_;rw[aji,aiy,p];rfl
def YH(ns:List Int)(n:Nat):List Int:=((aga n).filter λi=>decide ((ns[i]?).getD 0=1)).map (ht ns)
theorem wK(ns:List Int)(n:Nat):YH ns (n+1)=YH ns n++(if (ns[n]?).getD 0=1 then [ht ns n]else []):=by
 unfold YH;rw[agl,ag7,aag];by_cases c:(ns[n]?).getD 0=1<;>simp[c]
theorem G5(ns:List Int)(n:Nat):(YH ns n).length<=n:=by
 unfold YH;rw[aaa];refine agx (agT _ _) ?_;rw[af8];exact aae _
inductive zZ(K:PySem.W.Frag)(C1:Addr)(C2:Addr)(C3:Addr)(vs:List V)(H:Hp)(Q:VK)(E:XK):Prop
 | mk (p:Addr) (ns:List Int) (_:vs=[.ref p]) (_:My K H p !!ns) (_:((ns.length<=4096/\aK ns/\Tree ns /\ ∀r H',H r=none->aM H H'->H' r=some (.lst ‹YH ns ns.length›)->Q (.ref r) H')\/(4096<ns.length/\E (.ref C1) none H)\/(ns.length<=4096 /\ ¬aK ns/\E (.ref C2) none H)\/(ns.length<=4096/\aK ns /\ ¬Tree ns /\ ∀H',aM H H'->E (.ref C3) none H')))
theorem zY(T:Tx K mg a):bc P w K mg base (WX P w) 3 a.adx a.acU ["bits"] (zZ K a.Xk a.Yn a.Yi):=by
 refine T.adR.F.Xg fY (λJ H Q E h=>?_) (λO A G s H J Q E M h=>?_)
 ·obtain⟨p,e,rfl,_⟩:=h;rfl
 obtain⟨p,e,rfl,k,h⟩:=h;refine(_,(ao (bC (bI T.aaH (ji T) ∅ M dz rfl (Wn 0 aj)))
  (ao (aC 1 fY.nd (bM aj))
  (ao (aC 2 fY.nd aA)
  (ao (bA fj rfl (bJ (pv 0)) (aR 3 fY.nd) (ao (bx (aO dm (pv 3) aA) (aB (bC (fD PySem.F.plainAttrs_list PySem.F.slot_list_append PySem.F.type_list_append bZ (pv 1) (Wn 2 aj)))) aQ)
  (aB (aC 2 fY.nd (aD dF (aD bj (pv 2) (aD bG aA (pv 3))) aA)))))
  (aB (aG (pv 1))))))),2)
 rcases h with ⟨f,n,B,q⟩|⟨f,q⟩|⟨f,n,q⟩|⟨f,n,B,q⟩
 rotate_left
 ·exact(9,p,e,7,k,.inr (.inl (f,q)))
 ·exact(9,p,e,7,k,.inr (.inr (.inl (f,n,q))))
 ·exact(9,p,e,7,k,.inr (.inr (.inr (f,n,B,q))))
 refine(9,p,e,7,k,.inl (f,n,B,λS I=>?_));refine(sl0,λr t=>?_);have o:=I.free t;have v:=I.trans (aq t (.lst []));exists 9,p,7,(_,v.seq k);refine bV (xs:=e.map V.int) (λi g l=>(∃y,g=[!!!p,!!!r,some (.int (ht e i)),y])/\aM H l/\l r=some (.lst ‹YH e i›)) ((3,by rw[lw];rfl),v,aa) ?_ ?_ ?_
 ·rintro i g l _ ⟨_,j,_⟩;exact j.seq k
 ·rintro i x g l L ⟨⟨y,rfl⟩,j,c⟩;obtain⟨b,u,rfl⟩:=int_at L;have R:=(aad.mp u).1;exists 9,7,9;refine uP (λ g C=>g=[!!!p,!!!r,some (.int (ht e i)),!!!!b]/\aM H C/\C r=some (.lst ‹YH e (i+1)›)) (λd=>(7,j,2)) ?_ (λd m=>?_)
  ·have d:¬b=1:=λz=>d (decide_eq_true (congrArg V.int z));rw[wK,u,ahH,if_neg d,agr];exact c
  rotate_left
  ·have d:V.int b=V.int 1:=of_decide_eq_true d;injection d with d
   refine(9,.inl (7,_,My.of c),9,r,5,c,2,m _ _ (7,aZ j o _,2))
   ·have:=G5 e i;rw[aaa,sizeLine_eq];lia
   ·rw[aa,wK,u,ahH,if_pos d,aag];rfl
  rintro N C ⟨rfl,v,D⟩;exact(8,5,.inl (4,4),5,5,(_,by rw[Bk u];rfl),v,D)
 ·rintro g l ⟨⟨y,rfl⟩,j,c⟩;rw[aaa]at c;exact(9,q r l o j c)
theorem HW{ds:List Int}(c:bW ds):∀n:Nat,n<=(brk ds 0).length -> ∃b:Nat,((brk ds 0).take n).sum=(b:Int)/\YH (brk ds 0) n=ds.take b
 |0,_=>(0,7,7)
 |n+1,g=>by
  obtain⟨b,f,d⟩:=HW c n ⋯;rw[wK];rcases wk c (show n<(brk ds 0).length by lia)with ⟨e,_⟩|⟨e,_⟩
  ·refine(b,by rw[El e];lia,2);rw[e,ahH,if_neg ∅,agr,d]
  ·refine(b+1,by rw[El e];lia,2);rw[e,ahH,if_pos rfl,d,af7,Mx c e f];rfl
theorem z9{ds:List Int}(b:bW ds):YH (brk ds 0) (brk ds 0).length=ds:=by
 obtain⟨e,d,c⟩:=HW b (brk ds 0).length (aae _);rw[agi,DX b]at d;rw[c,aaj ⋯]
inductive Cz(K:PySem.W.Frag)(vs:List V)(H:Hp)(Q:VK)(_e1:XK):Prop
 | mk (p:Addr) (bs:List Int) (m:Nat) (_:vs=[.ref p,.int (m:Int)]) (_:My K H p !!bs) (_:m<=32*bs.length) (_:bs.length<=2048) (_:∀r H',H r=none->aM H H'->H' r=some (.lst ‹(XX bs).take m›)->Q (.ref r) H')
theorem Dq(T:Tx K mg a):bc P w K mg base Wt 3 a.ad5 a.ado ["blocks","many"] (Cz K):=by
 refine T.aes.F.Wv mC λI A t s H J Q E G h=>?_;obtain⟨p,n,m,rfl,o,M,N,q⟩:=h;refine(_,(ao (bx (PW.pt (tO (aO tU (pv 1) aA) (o5 (aO qK (pv 1) (aD bG (aV (v:=.int 32) rfl T.YS (_,7)) (aL aN rfl T.WF Tw.bB (Wn 0 aj))))))) (aB nO) aQ)
  (ao (aC 2 mC.nd (bM aj))
  (ao (bA PassesOwn.never rfl (bJ (pv 0)) (aR 3 mC.nd) (aB (bC (fD PySem.F.plainAttrs_list PySem.F.slot_list_extend PySem.F.type_list_extend gH (pv 2) (au (aW T.acA (oY T) G (Wn 3 (au (aV (v:=.int 32) rfl T.YS (_,7)) aj))) aj)))))
  (aB (aG (bF cI (pv 2) cH (bH (pv 1)))))))),2)
 refine(9,5,9,fB (λc=>?_) λ_=>?_)
 ·have c:=of_decide_eq_true c;lia
 refine(8,p,9,.inl o,5,.inl (4,4),5,9,fB (λc=>?_) λ_=>?_)
 ·have c:=of_decide_eq_true c;rw[aaa]at c;lia
 refine(sl0,λr d=>?_);have L:∀{x:Addr}{u:HO},H x=some u->x≠r:=λh=>aH h d;exists 9,p,7,(_,(aq d _).seq o);refine bV (xs:=n.map V.int) (λi l f=>(∃k,l=[!!!p,some (.int (m:Int)),!!!r,k])/\aM H f/\f r=some (.lst ‹XX (n.take i)›)) ?_ ?_ ?_ ?_
 ·exact((3,7),aq d _,aa)
 ·rintro i l f _ ⟨_,e,_⟩;exact e.seq o
 ·rintro i x l f D ⟨⟨k,rfl⟩,e,b⟩;obtain⟨c,z,rfl⟩:=int_at D;have O:=(aad.mp z).1;refine(9,.inl (7,_,My.of b),9,c,32,7,4,4,λy j=>?_);have C:r≠y:=aH b j;exists r,y,5,by rw[aJ C];exact b,aa,2,(_,7),aZ (e.trans (aq j _)) d _
  ·rw[aaa,aaa,oZ,aaq];show 32*min i n.length+(bits c 32).length<=sizeLine;rw[cC,sizeLine_eq];lia
  ·rw[aa,af7,z];show _=some (HO.lst ‹XX (n.take i++[c])›);rw[M9,aag];rfl
 ·rintro l f ⟨⟨k,rfl⟩,e,b⟩;rw[aaa,agi]at b;refine(8,9,r,9,My.of b,λB g=>?_);rw[oM];exact q B _ (e.free g) (e.trans (aq g _)) aa
theorem JF{lo:Int}{n:Nat}{c:L2.St}{u:Addr->Hp->Prop}(f:Nat->Int)(G:Nat->Prop)(B:n<sizeLine)
  (p:∀(z:Int) (H':Hp) (Q:Bool->Hp->Prop),Q true H'->M (some (.int z)::c) H' Q)(A:∀(i:Nat) (H':Hp) (Q:VK),i<n->aM H H'->(G i -> ∀t,aM H' t->Q (.int (f i)) t)->ta (some (.int (lo+i))::c) H' Q)
  (q:(∀i<n,G i) -> ∀D X,H D=none->aM H X->X D=some (.lst ‹(aga n).map f›)->u D X):gG (Yt lo n) c M ta u H:=by
 intro D o;exists λi m h g=>m=n-i/\i<=n/\h=((aga i).map f).map V.int/\aM H g/\g D=some (.lst h) /\ ∀j<i,G j,(9,af3 _,7,aq o _,aa,λj l=>absurd l (aht _));rintro i m h g ⟨rfl,C,rfl,k,d,s⟩;by_cases b:i<n
 ·refine .inr (b,λv F y=>?_);obtain⟨rfl,rfl⟩:=y;refine p _ _ _ ?_;rw[if_pos rfl];refine A i _ _ b k λx E r=>(r _ _ d,2,n-(i+1),6,7,b,2,aZ (k.trans r) o _,aa,λj l=>?_)
  ·rw[aaa,aaa,af8];lia
  ·rw[agl,aag,aag];rfl
  ·rcases aiF.mp l with z|z
   ·exact s j z
   ·rw[z];exact x
 ·have e:i=n:=by lia
  subst e;exact .inl (aae _,q s D g o k d)
inductive z7(cN:Addr)(vs:List V)(H:Hp)(Q:VK)(E:XK):Prop
 | mk (p:Addr) (os:List Int) (at0 sz:Nat) (_:vs=[.ref p,.int (at0:Int),.int (sz:Int)]) (_:H p=some (.lst !!os)) (_:(at0+sz<=os.length -> ∀H',aM H H'->Q (.int (gm ((os.drop at0).take sz))) H')) (_:(os.length<at0+sz -> ∀H',aM H H'->E (.ref cN) none H'))
theorem pN(T:Tx K mg a):bc P w K mg base (WX P w) 2 a.adE a.ac2 ["octets","at","size"] (z7 a.Wy):=by
 refine T.ab6.F.Xg z6 (λj H Q E h=>?_) (λn A g s H j Q E l h=>?_)
 ·obtain⟨p,f,b,d,rfl,_⟩:=h;rfl
 obtain⟨p,f,b,d,rfl,i,q,k⟩:=h;refine(_,(ao (bx (aO qK (aD bj (pv 1) (pv 2)) (aL aN rfl T.WF Tw.bB (Wn 0 aj))) (aB (dg T.ZZ rfl (au dH aj))) aQ)
  (aB (aG (aW T.adO (zT T) l (au (bF cI (pv 0) (bH (pv 1)) (bH (aD bj (pv 1) (pv 2)))) aj))))),2)
 have o:‹f›.length=f.length:=aaa ..;refine(8,5,9,p,9,.inl (My.of i),5,9,fB (λc=>?_) λc=>?_)
 ·have c:((‹f›.length:Nat):Int)<(b:Int)+(d:Int):=of_decide_eq_true c;exact(sl1,k ⋯ _ (.refl _))
 have c:¬(((‹f›.length:Nat):Int)<(b:Int)+(d:Int)):=λz=>c (decide_eq_true z);refine(8,8,9,5,9,p,9,My.of i,λc m=>?_);have e:dR ‹f› (some (b:Int)) (some ((b:Int)+(d:Int)))=((f.drop b).take d).map V.int:=by
  rw[show (b:Int)+(d:Int)=((b+d:Nat):Int) by lia,Ak,agN]
 rw[e];exact(c,9,My.of aa,q ⋯ _ (aq m _))
inductive xK(cN:Addr)(vs:List V)(H:Hp)(Q:VK)(E:XK):Prop
 |mk (p:Addr) (os:List Int) (at0 sz m:Nat) (_:vs=[.ref p,.int (at0:Int),.int (sz:Int),.int (m:Int)]) (_:H p=some (.lst !!os)) (_:m<=70000) (_:0<sz) (_:sz<=100) (_:(at0+sz*m<=os.length\/m=0 -> ∀r H',H r=none->aM H H'->H' r=some (.lst ‹((aga m).map λk=>gm ((os.drop (at0+sz*k)).take sz))›)->Q (.ref r) H')) (_:(os.length<at0+sz*m->0<m -> ∀H',aM H H'->E (.ref cN) none H'))
theorem jt(T:Tx K mg a):bc P w K mg base (WX P w) 3 a.ac3 a.acs ["octets","at","size","many"] (xK a.Wy):=by
 refine T.aaR.F.Xg xY (λn H Q E h=>?_) (λN A e s H n Q E v h=>?_)
 ·obtain⟨p,d,c,b,m,rfl,_⟩:=h;rfl
 obtain⟨p,d,c,b,m,rfl,x,O,M,L,q,u⟩:=h;exists _,(aB (aG (En rfl (bR.three (j:=2) (k:=0) (l:=1) ∅ ∅ ∅ rfl rfl rfl (ag3 rfl) (ag3 rfl) (ag3 rfl) rfl rfl rfl rfl (ag3 rfl) (ag3 rfl) (ag3 rfl)) (dh rfl T.XD (Wn 3 aj)) (λ_ _ _ _=>eX) (λ_ _ _ _ _ _ _ I=>(bI T.ab6 (pN T) ∅ v (yO I λ_ _ z=>z) rfl (Wn 2 (au (aD bj (pv 3) (aD bG (pv 1) (pv 0))) (Wn 1 aj))))))));refine(9,(m:Int),7,6,6,2);rw[aaz];refine JF (λk=>gm ((d.drop (c+b*k)).take b)) (λk=>c+b*k+b<=d.length) (by rw[sizeLine_eq];lia) (λ_ _ _ q=>q) (λi S Q y f t=>?_) λB D X C o g=>q ?_ D X C o g
 ·refine(8,8,5,.inl (6,6),5,9,p,d,c+b*i,b,2,f _ _ x,t,λz J r=>u ?_ ⋯ J (f.trans r))
  ·show [V.ref p,V.int ((c:Int)+(b:Int)*(0+(i:Int))),V.int (b:Int)]=_;rw[aiy,Int.natCast_add,Int.natCast_mul]
  ·have:b*(i+1)<=b*m:=ai1 _ y;rw[ahp]at this;lia
 ·rcases ag6 m with z|z
  ·exact .inr z
  ·have R:=B (m-1) ⋯;have G:b*(m-1+1)=b*(m-1)+b:=ahp ..;rw[show m-1+1=m by lia]at G;exact .inl ⋯
inductive wJ(vs:List V)(H:Hp)(Q:VK)(_e1:XK):Prop
 | mk (m:Nat) (_:vs=[.int (m:Int)]) (_:Q (.int ((many m:Nat):Int)) H)
theorem iQ(T:Tx K mg a):bc P w K mg base Wt 1 a.acu a.abX ["many"] wJ:=by
 refine T.aaL.F.Wv vW λc A b s H d Q E f h=>?_;obtain⟨m,rfl,q⟩:=h;exists _,(aB (aG (aD gj (aD dF (aD bj (pv 0) (aV (v:=.int 32) rfl T.YS (_,7))) aA) (aV (v:=.int 32) rfl T.YS (_,7)))));exists 9,5,5,5,(4,4);have e:((m:Int)+32-1) / 32=((many m:Nat):Int):=by
  unfold many;lia
 rw[<-e]at q;exact q
theorem By{xs:List Int}(h:∀y∈xs,0<=y/\y<=255)(b:xs.length<=2):0<=gm xs/\gm xs<=65535:=by
 match xs,b with
 |[],_=>exact(4,4)
 |[x],_=>
  have c:=h x (by simp);show 0<=256*0+x/\256*0+x<=65535;lia
 |[x,y],_=>
  have c:=h x (by simp);have d:=h y (by simp);show 0<=256*(256*0+y)+x/\256*(256*0+y)+x<=65535;lia
def dN(os:List Int):Prop:=∀y∈os,0<=y/\y<=255
inductive ut(cN:Addr)(vs:List V)(H:Hp)(Q:VK)(E:XK):Prop
 | mk (p:Addr) (os:List Int) (_:vs=[.ref p]) (_:H p=some (.lst !!os)) (_:(dN os->Q .non H)) (_:(¬dN os->E (.ref cN) none H))
theorem uB(T:Tx K mg a):bc P w K mg base (Xv P w) 1 a.abW a.abr ["octets"] (ut a.Wy):=by
 refine T.ab2.F.ok1 lO (λt H Q E h=>?_) (λB A m s H t Q E C h=>?_)
 ·obtain⟨p,j,rfl,_⟩:=h;rfl
 obtain⟨p,j,rfl,r,q,u⟩:=h;exists _,(aB (bA Qm rfl (bJ (pv 0)) (aR 1 lO.nd) (aB (bx (gY (pU yZ yZ aA (pv 1) aA)) (aB (Ec T.ZZ rfl (au dH aj))) aQ))));exists 9,p,7,(_,My.of r);refine bV (xs:=j.map V.int) (λi f X=>X=H/\(∃k,f=[!!!p,k]) /\ ∀y∈j.take i,0<=y/\y<=255) (7,(3,7),λy d=>by simp at d) ?_ ?_ ?_
 ·rintro i f X _ ⟨rfl,_⟩;exact My.of r
 ·rintro i x f X v ⟨rfl,⟨k,rfl⟩,b⟩;obtain⟨z,o,rfl⟩:=int_at v;have e:¬(0<=z/\z<=255)->E (.ref a.Wy) none X:=λn=>u λg=>n (g z (aaw o));refine(9,5,9,fB (λc=>?_) λc=>?_)
  ·have c:(0:Int)<=z:=of_decide_eq_true c;exists 5,9;by_cases l:z<=255
   ·rw[decide_eq_true l];refine b7 (7,(_,7),λy d=>?_);rw[af7,o]at d;rcases aaG.mp d with d|d
    ·exact b y d
    ·have:y=z:=by simpa using d
     lia
   ·rw[decide_eq_false l];exact cF (sl1,e λn=>l n.2)
  ·have c:¬(0:Int)<=z:=λn=>c (decide_eq_true n);exact(9,cF (sl1,e λn=>c n.1))
 ·rintro f X ⟨rfl,_,b⟩;exact q λy d=>b y (by rw[aaa,agi];exact d)
def lU(os:List Int)(b n:Nat):List Int:=(aga (many n)).map λk=>gm ((os.drop (b+4*k)).take 4)
def lZ(os:List Int)(b n:Nat):List Int:=(XX (lU os b n)).take n
theorem J1(os:List Int)(b n:Nat):(lZ os b n).length=n:=by
 unfold lZ lU;rw[aaq,oZ,aaa,af8];unfold many;lia
inductive Gz(cN:Addr)(vs:List V)(H:Hp)(Q:VK)(E:XK):Prop
 | mk (p:Addr) (os:List Int) (at0 n:Nat) (_:vs=[.ref p,.int (at0:Int),.int (n:Int)]) (_:H p=some (.lst !!os)) (_:n<=65535) (_:(at0+4*many n<=os.length\/n=0 -> ∀r H',H r=none->aM H H'->H' r=some (.lst ‹lZ os at0 n›)->Q (.ref r) H')) (_:(¬(at0+4*many n<=os.length\/n=0) -> ∀H',aM H H'->E (.ref cN) none H'))
theorem w5(T:Tx K mg a):bc P w K mg base (WX P w) 4 a.aeY a.aek ["octets","at","many"] (Gz a.Wy):=by
 refine T.adS.F.Xg GF (λu H Q E h=>?_) (λL A k s H u Q E e h=>?_)
 ·obtain⟨p,d,b,n,rfl,_⟩:=h;rfl
 obtain⟨p,d,b,n,rfl,C,M,q,B⟩:=h;exists _,(aB (aG (aW T.aes (Dq T) e (au (bI T.aaR (jt T) ∅ e dz rfl (Wn 0 (Wn 1 (au (aV (v:=.int 4) rfl T.aaU (_,7)) (au (aW T.aaL (iQ T) e (Wn 2 aj)) aj))))) (Wn 2 aj)))));have N:many n<=2048:=by
  unfold many;lia
 have i:n<=32*many n:=by
  unfold many;lia
 have j:many n=0->n=0:=by
  unfold many;lia
 have l:(lU d b n).length=many n:=by
  unfold lU;rw[aaa,af8]
 refine(8,9,n,7,p,d,b,(4),many n,7,C,6,4,4,λg y O J c t=>?_,λm D I c=>B (λz=>?_) I c)
 ·refine(9,y,lU d b n,n,7,My.of t,by rw[l];exact i,by rw[l];lia,λr G f x o=>q (g.imp id j) r G (c.free f) (c.trans x) o)
 ·rcases z with z|z
  ·lia
  ·subst z;exact absurd D ∅
def layB(rs:List Int)(l:List (Int×Int)):List Int:=l.foldl (λrs p=>rs.set p.1.toNat (2*rs.getD p.1.toNat 0+p.2)) rs
theorem mq:∀(l:List (Int×Int)) (rs:List Int),(layB rs l).length=rs.length
 |[],_=>rfl
 |p::l,rs=>(mq l _).trans (ahN ..)
theorem KC(rs:List Int)(l:List (Int×Int))(p:Int×Int):layB rs (l++[p])=(layB rs l).set p.1.toNat (2*(layB rs l).getD p.1.toNat 0+p.2):=by
 unfold layB;rw[List.foldl_append];rfl
def YW:List (List Int)->List Int->List Int->List Int
 |[],_,b=>b
 |d::L,c,b=>YW L (mj c d) (layB b (c.zip d))
theorem Cv:∀{os bs:List Int},aK bs->bs.length=os.length->(mj os bs).length=os.length
 |[],[],_,_=>rfl
 |[],_::_,_,h=>by simp at h
 |_::_,[],_,h=>by simp at h
 |z::os,b::bs,d,h=>by
  have c:=Cv (os:=os) (bs:=bs) (λy e=>d y (aai _ e)) (by simpa using h);unfold mj at c ⊢;rw[ah3,agQ,agQ];rw[aac]at c;rcases d b aal with rfl|rfl
  ·rw[if_pos (by simp),if_neg (by simp),aax,agM,aao,aac,c,aao]
  ·rw[if_neg (by simp),if_pos (by simp),aax,aac,aao,<-Nat.add_assoc,c,aao]
theorem NB{os bs:List Int}(h:g∈mj os bs):g∈os:=by
 unfold mj at h;rcases aaG.mp h with h|h
 all_goals
  obtain⟨p,b,rfl⟩:=afs.mp h;exact(ahg (ahM.mp b).1).1
theorem M6{os bs:List Int}{i:Nat}{x y:Int}(c:os[i]?=some x)(b:bs[i]?=some y):(os.zip bs).take (i+1)=(os.zip bs).take i++[(pq x y)]:=by
 rw[af7,aiB.mpr (show os[i]?=some (pq x y).1/\bs[i]?=some (pq x y).2 from (c,b))];rfl
def upto(n:Nat):List Int:=(aga n).map λi:Nat=>(i:Int)
theorem NP(n:Nat):(upto n).length=n:=by
 unfold upto;rw[aaa,af8]
inductive Cm(K:PySem.W.Frag)(vs:List V)(H:Hp)(Q:VK)(_e1:XK):Prop
 | mk (p:Addr) (ls:List Addr) (L:List (List Int)) (n:Nat) (_:vs=[.ref p,.int (n:Int)]) (_:H p=some (.lst (ls.map V.ref))) (_:qI H ls L) (_:(∀bs∈L,aK bs/\bs.length=n)) (_:n<=65535) (_:∀r H',H r=none->aM H H'->H' r=some (.lst ‹YW L (upto n) (aap n 0)›)->Q (.ref r) H')
theorem Eu(T:Tx K mg a):bc P w K mg base Wt 2 a.aef a.adz ["rows","many"] (Cm K):=by
 refine T.aeu.F.Wv dX λb2 A a9 s H vs Q E hr h=>?_;obtain⟨p,ls,L,n,rfl,hp,hL,hb,hn,q⟩:=h;refine(_,(ao (aC 2 dX.nd (aD wZ (bM (au aA aj)) (pv 1)))
  (ao (aC 3 dX.nd (GD rfl rfl T.X8 Tw.dM rfl T.XD (Wn 1 aj)))
  (ao (bA PassesOwn.never rfl (bJ (pv 0)) (aR 4 dX.nd) (ao (bA PassesOwn.never rfl (sS rfl T.ZX Tw.rJ (Wn 3 (Wn 4 aj))) (rY rfl (dw (aR 5 dX.nd) (dw (aR 6 dX.nd) nY))) (aB (O3 (aD bj (aD bG aA (bD dI (pv 2) (pv 5))) (pv 6)) (Ot (pv 2) (pv 5) set_list))))
  (aB (aC 3 dX.nd (aW T.aeC (yG T) hr (Wn 3 (Wn 4 aj)))))))
  (aB (aG (pv 2)))))),2)
 refine(sl1,λl0 a4=>?_);have s0:=aq a4 (.lst [.int 0]);refine(9,l0,(n:Int),9,7,aa,6,6,by rw[aaz,sizeLine_eq];show 1*n<=_;lia,λr Z=>?_);rw[aaz];have s1:=s0.trans (aq Z (.lst (aap n [V.int 0]).flatten));have M:=s0.free Z;have D:upd (upd H l0 (.lst [.int 0])) r (.lst (aap n [V.int 0]).flatten) r=some (.lst ‹(aap n (0:Int))›):=by
  rw[aa,List.map_replicate];simp
 generalize upd (upd H l0 (.lst [.int 0])) r (.lst (aap n [V.int 0]).flatten)=H1 at *;refine(9,n,7,6,λo ho=>?_);have s2:=s1.trans (aq ho (.lst ‹upto n›));have t:o≠r:=(aH D ho).symm;have C:=aq ho (.lst ‹upto n›) _ _ D;have X:upd H1 o (.lst ‹upto n›) o=some (.lst ‹upto n›):=aa;show eZ 3 (.ref o) _ (upd H1 o (.lst ‹upto n›)) _;generalize upd H1 o (.lst ‹upto n›)=I at *;exists 9,p,7,(_,My.of (s2 _ _ hp));refine bV (xs:=ls.map V.ref) (λi g J=>∃(o:Addr) (c d:List Int) (k4 B v:Option V),g=[!!!p,some (.int (n:Int)),!!!r,!!!o,k4,B,v]/\aM H J/\J r=some (.lst !!d)/\J o=some (.lst !!c)/\o≠r/\d.length=n/\c.length=n/\(∀z∈c,0<=z/\z<(n:Int))/\YW (L.drop i) c d=YW L (upto n) (aap n 0)) ?_ ?_ ?_ ?_
 ·refine(o,upto n,aap n 0,3,3,3,7,s2,C,X,t,agb,NP n,λz U=>?_,7);obtain⟨i,hi,rfl⟩:=afs.mp U;have:=agK.mp hi;lia
 ·rintro i g J _ ⟨_,_,_,_,_,_,_,S,_⟩;exact My.of (S _ _ hp)
 ·rintro i y g J hy ⟨o,c,d,k4,B,v,rfl,S,D,X,t,Y,N,O,k⟩;rw[aak]at hy;obtain⟨l,hl,rfl⟩:=agp.mp hy;have R:=(aad.mp hl).1;rw[hL.1]at R;have a1:=aab R;obtain⟨a6,WR⟩:=hb _ (aaw a1);have u:=hL.2 i l _ hl a1;have b0:l≠r:=aH u M;rw[agv R]at k;generalize L[i]=f at *;have k:YW (L.drop (i+1)) (mj c f) (layB d (c.zip f))=_:=k;exists 8,o,l,_,9,My.of X,My.of (S _ _ u);refine Ba (xs:=c.map V.int) (ys:=f.map V.int) (λj g I=>∃(B v:Option V),g=[!!!p,some (.int (n:Int)),!!!r,!!!o,!!!l,B,v]/\aM H I/\I r=some (.lst ‹layB d ((c.zip f).take j)›)/\I o=some (.lst !!c)) (B,v,7,S,D,X) ?_ ?_ ?_
  ·rintro j g I _ ⟨_,_,_,W,_,e⟩;exact(My.of e,My.of (W _ _ u))
  ·rintro j x y g I pr hx hy ⟨B,v,rfl,W,C,e⟩ a3;obtain⟨z,U,rfl⟩:=int_at hx;obtain⟨b,a7,rfl⟩:=int_at hy;obtain⟨z0,z1⟩:=O z (aaw U);have G:=aq a3 (.tup [.int z,.int b]);have b1:=mq ((c.zip f).take j) d;have a8:W7 ‹layB d ((c.zip f).take j)› z=some (.int ((layB d ((c.zip f).take j)).getD z.toNat 0)):=by
    obtain⟨m,rfl⟩:∃m:Nat,z=(m:Int):=(z.toNat,6);refine lC ?_;rw[aak,aaz,aaN,aab ⋯];rfl
   exists pr,9,Wq.of aa,7,_,9,5;exists 8,r,_,5,My.of (G _ _ C),a8,5,.inl (4,4),9,5;have a5:XS ‹layB d ((c.zip f).take j)›.length z=some z.toNat:=by
    obtain⟨m,rfl⟩:∃m:Nat,z=(m:Int):=(z.toNat,6);unfold XS;rw[if_pos ⋯,if_pos (by rw[aaa];lia)]
   refine(8,r,_,z,z.toNat,7,7,G _ _ C,a5,(_,9,aZ (W.trans G) M _,2,2))
   ·rw[aa,M6 U a7,KC,List.map_set]
   ·rw[aJ t];exact G _ _ e
  ·rintro g I ⟨B,v,rfl,W,C,e⟩;rw[aaa,aaa,WR,N,Nat.min_self,aaj (by rw[ahQ];lia)]at C;refine(8,o,l,c,f,7,My.of e,My.of (W _ _ u),6,6,λo2 H3 a0 G a2=>?_);exact(o2,mj c f,1,_,9,W.trans G,G _ _ C,a2,λz=>(by rw[z,C]at a0;cases a0),(mq _ _).trans Y,(Cv a6 ⋯).trans N,λz U=>O z (NB U),k)
 ·rintro g J ⟨o,c,d,k4,B,v,rfl,S,D,X,t,Y,N,O,k⟩;rw[aaa,hL.1,agk (aae _)]at k;have k:d=_:=k;rw[k]at D;exact(9,q r J M S D)
def Wu(os:List Int):Nat:=(gm ((os.drop 1).take 2)).toNat
def kdN(os:List Int):Nat:=(gm ((os.drop 3).take 2)).toNat
def lQ(os:List Int):List Int:=((aga (kdN os)).map λk=>gm ((os.drop (5+26*k)).take 26)).map λz=>z-10^60
def stp(n:Nat):Nat:=4*many n+2*(many n+1)
def qJ(os:List Int)(h:Nat):List (List Int):=(aga h).map λi=>lZ os (5+26*kdN os+stp (Wu os)*i) (Wu os)
def Gm(os:List Int)(h:Nat):List Int:=YW (qJ os h) (upto (Wu os)) (aap (Wu os) 0)
def pJ(os:List Int)(h:Nat):List Int:=(Gm os h).map λz=>(lQ os).getD z.toNat 0
structure wV(os:List Int)(h:Nat):Prop where
 a5:5<=os.length
 kd:5+26*kdN os<=os.length
 Yx:∀i,i<h->5+26*kdN os+stp (Wu os)*i+4*many (Wu os)<=os.length\/Wu os=0
 rk:∀z∈Gm os h,z<(kdN os:Int)
noncomputable def hO(n:Nat):Nat:=Classical.epsilon λh=>gk n (2^h)
theorem Dr{n :Nat}(hz:gk n (2^z)):hO n=z:=uI (Classical.epsilon_spec (p:=λz=>gk n (2^z)) (z,hz)) hz
theorem jf(os:List Int):(lQ os).length=kdN os:=by
 unfold lQ;rw[aaa,aaa,af8]
theorem fK(os:List Int)(b n:Nat):aK (lZ os b n):=λy c=>GP _ y (agt c)
theorem Cr:∀(l:List (Int×Int)) (rs:List Int),(∀p∈l,0<=p.2)->(∀z∈rs,0<=z) -> ∀z∈layB rs l,0<=z
 |[],_,_,h=>h
 |p::l,rs,c,h=>Cr l _ (λq d=>c q (aai _ d)) λz b=>by
  rcases aiz b with b|rfl
  ·exact h z b
  ·have g:=c p aal;have f:0<=rs.getD p.1.toNat 0:=by
    rw[aaN];cases e:rs[p.1.toNat]? with
    |none=>exact aip 0
    |some y=>exact h y (aaw e)
   lia
theorem HQ:∀(L:List (List Int)) (od rs:List Int),(∀bs∈L,aK bs)->(∀z∈rs,0<=z) -> ∀z∈YW L od rs,0<=z
 |[],_,_,_,h=>h
 |bs::L,od,rs,c,h=>HQ L _ _ (λb e=>c b (aai _ e)) (Cr _ _ (λp d=>by
  have:=c bs aal p.2 (ahg d).2;lia) h)
theorem Bb:∀(L:List (List Int)) (od rs:List Int),(YW L od rs).length=rs.length
 |[],_,_=>rfl
 |b::L,od,rs=>(Bb L _ _).trans (mq _ _)
theorem Ca{os:List Int}:∀z∈Gm os n,0<=z:=HQ _ _ _ (λd c=>by
 obtain⟨i,_,rfl⟩:=afs.mp c;exact fK _ _ _) λz b=>by
 rw[ag5 b];exact aip 0
theorem NT(os:List Int)(h:Nat):(Gm os h).length=Wu os:=(Bb _ _ _).trans agb
theorem vp{os:List Int}(x:wV os n):∀z∈pJ os n,z∈lQ os:=λz d=>by
 obtain⟨k,c,rfl⟩:=afs.mp d;have e:=x.rk k c;have f:=Ca k c;have b:k.toNat<(lQ os).length:=by
  rw[jf];lia
 rw[aaN,aab b];exact age b
theorem GJ{K:PySem.W.Frag}{a:Addr}{ns:List Int}{g:L2.St}{r:Addr->Hp->Prop}(f:Int->Int)(G:Int->Prop)(t:My K H a !!ns)(A:ns.length<sizeLine)
  (l:∀(z:Int) (H':Hp) (Q:Bool->Hp->Prop),Q true H'->M (some (.int z)::g) H' Q)(x:∀(z:Int) (H':Hp) (Q:VK),z∈ns->aM H H'->(G z->Q (.int (f z)) H')->ta (some (.int z)::g) H' Q)
  (q:(∀z∈ns,G z) -> ∀D,H D=none->r D (upd H D (.lst ‹ns.map f›))):gG (YL K a) g M ta r H:=by
 intro D k;exists λi m h s=>m=ns.length-i/\i<=ns.length/\h=((ns.take i).map f).map V.int/\s=upd H D (.lst h) /\ ∀z∈ns.take i,G z,(9,af3 _,7,7,λz c=>by simp at c);rintro i m h s ⟨rfl,B,rfl,rfl,j⟩;have b:My K (upd H D (.lst ‹(ns.take i).map f›)) a ‹ns›:=(aq k _).seq t;by_cases d:i<ns.length
 ·have n:=aab d;have o:‹ns›[i]?=some (.int ns[i]):=by
   rw[aak,n];rfl
  have p:ns.take (i+1)=ns.take i++[ns[i]]:=by
   rw[af7,n];rfl
  refine .inr ((1,b,o),λv C y=>?_);obtain⟨rfl,y⟩:=y;have e:=y _ b;rw[o]at e;cases e;refine l _ _ _ ?_;rw[if_pos rfl];refine x _ _ _ (age d) (aq k _) λu=>(aa,2,ns.length-(i+1),6,7,d,2,2,λz c=>?_)
  ·rw[aaa,aaa,aaq];lia
  ·rw[p,aag,aag];rfl
  ·rw[jq]
  ·rw[p]at c;rcases aaG.mp c with c|c
   ·exact j z c
   ·rw[aan.mp c];exact u
 ·have e:i=ns.length:=by lia
  subst e;rw[agi]at j b ⊢;exact .inl ((_,b,by rw[aaa];exact aae _),q j D k)
inductive Hf(cN:Addr)(vs:List V)(H:Hp)(Q:VK)(E:XK):Prop
 | mk (p:Addr) (ks:List Int) (z:Int) (_:vs=[.ref p,.int z]) (_:H p=some (.lst !!ks)) (_:0<=z) (_:(z<(ks.length:Int)->Q (.int (ks.getD z.toNat 0)) H)) (_:(¬z<(ks.length:Int)->E (.ref cN) none H))
theorem GX(T:Tx K mg a):bc P w K mg base (WX P w) 1 a.aeZ a.ael ["kinds","rank"] (Hf a.Wy):=by
 refine T.ae6.F.Xg Fd (λf H Q E h=>?_) (λj A d s H f Q E l h=>?_)
 ·obtain⟨p,b,z,rfl,_⟩:=h;rfl
 obtain⟨p,b,z,rfl,e,k,q,g⟩:=h;refine(_,(ao (bx (aO R7 (pv 1) (aL aN rfl T.WF Tw.bB (Wn 0 aj))) (aB (dg T.ZZ rfl (au dH aj))) aQ)
  (aB (aG (bD dI (pv 0) (pv 1))))),2)
 have i:‹b›.length=b.length:=aaa ..;refine(8,p,9,.inl (My.of e),5,9,fB (λc=>?_) λc=>?_)
 ·have c:((‹b›.length:Nat):Int)<=z:=of_decide_eq_true c;exact(sl1,g ⋯)
 ·have c:¬((‹b›.length:Nat):Int)<=z:=λy=>c (decide_eq_true y);refine(8,p,_,5,My.of e,2,q ⋯);obtain⟨m,rfl⟩:∃m:Nat,z=(m:Int):=(z.toNat,6);refine lC ?_;rw[aak,aaz,aaN,aab ⋯];rfl
inductive xM(cN:Addr)(vs:List V)(H:Hp)(Q:VK)(E:XK):Prop
 | mk (p:Addr) (os:List Int) (_:vs=[.ref p]) (_:H p=some (.lst !!os)) (_:os.length<=100000) (_:dN os) (_:(wV os (hO (kdN os)) -> ∀r H',H r=none->aM H H'->H' r=some (.lst ‹pJ os (hO (kdN os))›)->Q (.ref r) H')) (_:(¬wV os (hO (kdN os)) -> ∀H',aM H H'->E (.ref cN) none H'))
theorem oF(T:Tx K mg a):bc P w K mg base (WX P w) 5 a.aaP a.acv ["octets"] (xM a.Wy):=by
 refine T.aaF.F.Xg cB (λvs H Q E h=>?_) (λb3 A a4 s H vs Q E C h=>?_)
 ·obtain⟨p,b,rfl,_⟩:=h;rfl
 obtain⟨p,b,rfl,hp,hl,X,q,M⟩:=h;refine(_,(ao (aC 1 cB.nd (bI T.aaR (jt T) ∅ C dz rfl (Wn 0 (au aA (au (aV (v:=.int 2) rfl T.YT (_,7)) (au aA aj))))))
  (ao (aC 2 cB.nd (bD dI (pv 1) aA))
  (ao (aC 3 cB.nd (aD bj aA (aD bG aA (aV (v:=.int 2) rfl T.YT (_,7)))))
  (ao (rT (i:=4) cB.nd rfl (ah1 rfl) (kJ rfl bR.zero (bJ (bI T.aaR (jt T) ∅ C dz rfl (Wn 0 (Wn 3 (au (aV (v:=.int 26) rfl T.aa7 (_,7)) (au (bD dI (pv 1) aA) aj)))))) (λ_ _ _ _=>eX) (λ_ _ _ _=>(aD dF (pv 0) (aD rG aA aA)))))
  (ao (aC 3 cB.nd (aD bj (pv 3) (aD bG (aV (v:=.int 26) rfl T.aa7 (_,7)) (aL aN rfl T.WF Tw.bB (Wn 4 aj)))))
  (ao (aC 5 cB.nd (bM aj))
  (ao (bA fj rfl (dh rfl T.XD (au (aW T.aa4 (nG T) C (au (aL aN rfl T.WF Tw.bB (Wn 4 aj)) aj)) aj)) (aR 6 cB.nd) (ao (bC (fD PySem.F.plainAttrs_list PySem.F.slot_list_append PySem.F.type_list_append bZ (pv 5) (au (bI T.adS (w5 T) ∅ C dz rfl (Wn 0 (Wn 3 (Wn 2 aj)))) aj)))
  (aB (aC 3 cB.nd (aD bj (aD bj (pv 3) (aD bG (aV (v:=.int 4) rfl T.aaU (_,7)) (aW T.aaL (iQ T) C (Wn 2 aj)))) (aD bG (aV (v:=.int 2) rfl T.YT (_,7)) (aD bj (aW T.aaL (iQ T) C (Wn 2 aj)) aA)))))))
  (aB (aG (En rfl (bR.one (j:=4) rfl (ag3 rfl) rfl rfl (ag3 rfl)) (bJ (aW T.aeu (Eu T) C (Wn 5 (Wn 2 aj)))) (λ_ _ _ _=>eX) (λ_ _ _ _ _ _ _ en=>(bI T.ae6 (GX T) ∅ C (yO en λ_ _ z=>z) rfl (Wn 1 (Wn 0 aj)))))))))))))),2)
 have hv:∀d,0<=gm ((b.drop d).take 2)/\gm ((b.drop d).take 2)<=65535:=λd=>By (λy hy=>X y (ago (agt hy))) (by rw[aaq];lia);have a7:=hv 1;have a6:=hv 3;have en:gm ((b.drop 1).take 2)=((Wu b:Nat):Int):=by
  unfold Wu;lia
 have ek:gm ((b.drop 3).take 2)=((kdN b:Nat):Int):=by
  unfold kdN;lia
 refine(9,p,b,(1),(2),(2),7,hp,4,4,4,λk Z H1 b0 L Y=>?_,λm _ f L=>M (λz=>by have:=z.a5;lia) f L);have a5:5<=b.length:=by lia
 replace Y:H1 Z=some (.lst [.int ((Wu b:Nat):Int),.int ((kdN b:Nat):Int)]):=by
  rw[Y,<-en,<-ek];rfl
 exists 9,Z,_,5,My.of Y,7;exists 5,.inl (4,4),5;show eZ 3 (.int 5) _ _ _;refine(8,9,Z,_,5,My.of Y,7,p,b,(5),26,kdN b,7,L _ _ hp,6,4,4,λk r2 H2 a9 s2 x2=>?_,λm h0 f s2=>M (λz=>by have:=z.kd;lia) f (L.trans s2));have b1:kdN b<=3900:=by
  rcases k with z|z
  ·lia
  ·lia
 have kd:5+26*kdN b<=b.length:=by
  rcases k with z|z
  ·exact z
  ·lia
 exists r2,7,(_,My.of x2);refine rn (λz=>z-10^60) (My.of x2) (by rw[aaa,af8,sizeLine_eq];lia) (λ_ _ _ q=>q) (λz f Q _ _ q=>(9,5,(4,4,4),5,q)) λt a3=>?_;have s3:=aq a3 (.lst ‹lQ b›);have xk:upd H2 t (.lst ‹lQ b›) t=some (.lst ‹lQ b›):=aa;have g:=(L.trans s2).trans s3;show eZ 4 (.ref t) _ (upd H2 t (.lst ‹lQ b›)) _;generalize upd H2 t (.lst ‹lQ b›)=H3 at *;have U:‹lQ b›.length=kdN b:=(aaa ..).trans (jf b);exists 8,t,9,.inl (My.of xk),5,.inl (6,6),5;rw[U];show eZ 3 (.int (5+26*(kdN b:Int))) _ _ _;rw[show (5+26*(kdN b:Int))=((5+26*kdN b+stp (Wu b)*0:Nat):Int) by lia];refine(sl0,λr R=>?_);have s4:=aq R (.lst []);have a0:upd H3 r (.lst []) r=some (.lst (([]:List Addr).map V.ref)):=aa;have W:=R;refine(9,t,9,.inl (My.of (s4 _ _ xk)),kdN b,(by rw[U];rfl),6,λh N=>?_);generalize upd H3 r (.lst [])=H4 at *;have b2:=Cd ⋯ N;rw[Dr N]at q M;have a2:=g _ _ hp;refine((h:Int),7,6,6,2);rw[aaz];have S:Wu b<=65535:=by lia
 refine eY (n:=h) (λi σ f=>∃(B:List Addr) (k6:Option V),σ=[!!!p,!!!Z,some (.int ((Wu b:Nat):Int)),some (.int ((5+26*kdN b+stp (Wu b)*i:Nat):Int)),!!!t,!!!r,k6]/\aM H3 f/\f r=some (.lst (B.map V.ref))/\qI f B (qJ b i)/\r∉B /\ ∀j,j<i->5+26*kdN b+stp (Wu b)*j+4*many (Wu b)<=b.length\/Wu b=0) ?_ ?_ ?_
 ·exact([],3,7,s4,a0,(7,λi l xs e=>by cases e),nofun,λj hj=>absurd hj (aht _))
 ·rintro i σ f hi ⟨B,k6,rfl,x,J,u,G,hc⟩;refine(9,.inl (7,_,My.of J),8,9,p,b,5+26*kdN b+stp (Wu b)*i,Wu b,7,x _ _ a2,S,λk l H5 Z6 o I=>?_,λm H5 o=>M (λz=>m (z.Yx i hi)) H5 (g.trans (x.trans o)));have O:l≠r:=λz=>by rw[z,J]at Z6;cases Z6
  exists r,5,o _ _ J,?_
  ·rw[aaa,u.1,sizeLine_eq];unfold qJ;rw[aaa,af8];lia
  have s6:=aZ (x.trans o) W (.lst (B.map V.ref++[.ref l]));exists 8,Wu b,7,5,.inl (6,6),5,9,Wu b,7,5,5,.inl (6,6),5;have er:qJ b (i+1)=qJ b i++[lZ b (5+26*kdN b+stp (Wu b)*i) (Wu b)]:=by
   unfold qJ;rw[agl,aag];rfl
  refine(B++[l],some (.int (0+(i:Int))),2,s6,by rw[aa,aag];rfl,2,2,λj hj=>?_)
  ·have e:((5+26*kdN b+stp (Wu b)*i:Nat):Int)+4*((many (Wu b):Nat):Int)+2*(((many (Wu b):Nat):Int)+1)=((5+26*kdN b+stp (Wu b)*(i+1):Nat):Int):=by
    rw[ahp];unfold stp;lia
   rw[<-e];rfl
  ·rw[er];exact((u.same o).upd G).snoc (by rw[aJ O];exact I)
  ·intro z;rcases aaG.mp z with z|z
   ·exact G z
   ·exact O (aan.mp z).symm
  ·rcases aiF.mp hj with z|rfl
   ·exact hc j z
   ·exact k
 ·rintro σ f ⟨B,k6,rfl,x,J,u,G,hc⟩;refine(8,r,B,qJ b h,Wu b,7,J,u,λbs hb=>?_,S,λrk H5 a8 o I=>?_)
  ·obtain⟨i,_,rfl⟩:=afs.mp hb;exact(fK _ _ _,J1 _ _ _)
  have I:H5 rk=some (.lst ‹Gm b h›):=I;have a1:=o _ _ (x _ _ xk);exists rk,7,(_,My.of I);refine GJ (λz=>(lQ b).getD z.toNat 0) (λz=>z<(kdN b:Int)) (My.of I) (by rw[NT,sizeLine_eq];lia) (λ_ _ _ q=>q) (λz f Q N Yj qq=>?_) λhG D hD=>?_
  ·refine(8,t,lQ b,z,7,Yj _ _ a1,Ca z N,λc=>qq (by rw[jf]at c;exact c),λc=>M (λy=>c (by rw[jf];exact y.rk z N)) _ (((g.trans x).trans o).trans Yj))
  ·exact q (a5,kd,hc,hG) D _ (((g.trans x).trans o).free hD) (((g.trans x).trans o).trans (aq hD _)) aa
theorem Ky{K:PySem.W.Frag}{a b:Addr}{xs ys:List V}{l:L2.St}{O:Addr->Hp->Prop}(o:V->V->Bool)(g:V->V->V)(T:My K H a xs)(S:My K H b ys)(hz:xs.length<sizeLine)
  (C:∀(x y:V) (H':Hp) (Q:Bool->Hp->Prop),x∈xs->y∈ys->aM H H'->Q (o x y) H'->M (some x::some y::l) H' Q)
  (X:∀(x y:V) (H':Hp) (Q:VK),x∈xs->y∈ys->aM H H'->Q (g x y) H'->ta (some x::some y::l) H' Q)
  (q:∀D H',H D=none->aM H H'->H' D=some (.lst (((xs.zip ys).filter λp=>o p.1 p.2).map λp=>g p.1 p.2))->O D H'):pO K (Y7 K a b) l M ta O H:=by
 intro D z;have U:(xs.zip ys).length=min xs.length ys.length:=ahQ;exists λi m u t=>m=(xs.zip ys).length-i/\i<=(xs.zip ys).length/\aM H t/\u=((((xs.zip ys).take i).filter λp=>o p.1 p.2).map λp=>g p.1 p.2)/\t D=some (.lst u),(9,af3 _,aq z _,7,aa);rintro i m u t ⟨rfl,Y,j,rfl,f⟩;have A:=j.seq T;have B:=j.seq S;by_cases k:i<(xs.zip ys).length
 ·have J:i<xs.length:=by lia
  have I:i<ys.length:=by lia
  have N:=aab J;have L:=aab I;have G:=age J;have F:=age I;refine .inr ((1,1,A,B,N,L),λv Z y=>?_);obtain⟨p,x,y,R,rfl,rfl,s,r⟩:=y;have s:=s _ A;have r:=r _ B;rw[N]at s;rw[L]at r;cases s;cases r;have n:=aq R (.tup [xs[i],ys[i]]);have h:(xs.zip ys).take (i+1)=(xs.zip ys).take i++[(pq (xs[i]) (ys[i]))]:=by
   rw[af7,aab k];simp
  have E:=agT (λp:V×V=>o p.1 p.2) ((xs.zip ys).take i);rw[aaq]at E;refine(p,_,9,Wq.of aa,C _ _ _ _ G F (j.trans n) ?_);by_cases d:o xs[i] ys[i]=true
  ·rw[if_pos d];refine X _ _ _ _ G F (j.trans n) (n _ _ f,by rw[aaa];lia,(xs.zip ys).length-(i+1),6,7,k,aZ (j.trans n) z _,2,aa);rw[h,ag7,aag];simp[d]
  ·rw[if_neg d];refine((xs.zip ys).length-(i+1),6,7,k,j.trans n,2,n _ _ f);rw[h,ag7,aag];simp[d]
 ·have e:i=(xs.zip ys).length:=by lia
  subst e;refine .inl ((1,A,B,2),q D t z j ?_)
  ·rw[U];rcases aid xs.length ys.length with c|c
   ·exact .inl ⋯
   ·exact .inr ⋯
  ·rw[agi]at f;exact f
theorem rB(x y:Str):(x++y).cps.toList=x.cps.toList++y.cps.toList:=by
 show (x.cps++y.cps).toList=_;exact agq
inductive xZ(vs:List V)(H:Hp)(Q:VK)(_e1:XK):Prop
 | mk (t u:Str) (d:Nat) (_:vs=[.str t,.int ((d:Int)+1),.str u]) (_:t.length<=5000) (_:u.length<=1) (_:Q (.str (beg t d++u)) H)
theorem yp(T:Tx K mg a):bc P w K mg base Wt 1 a.acY a.acl ["ahead","depth","letter"] xZ:=by
 refine T.ade.F.Wv xN λc A b s H e Q E g h=>?_;obtain⟨t,u,d,rfl,ht,f,q⟩:=h;exists _,(aB (aG (aD vX (bF Ho (pv 0) cH (bH (aD dF (pv 1) aA))) (pv 2))));refine(8,5,9,t,7,by rw[sizeLine_eq];lia,2);rw[Int.add_sub_cancel,uK];have i:=jW t d;refine(9,beg t d,u,7,7,by rw[sizeLine_eq];lia,q)
theorem tH:∀k,k<26->letters.cps.toList[k]?=some (97+k):=by decide +kernel
def W4:List Int->List Int->Str->List Str
 |d::b,c::e,t=>(beg t (d-1).toNat++⟨#[(c+97).toNat]⟩)::W4 b e (beg t (d-1).toNat++⟨#[(c+97).toNat]⟩)
 |[],_,_=>[]
 |_::_,[],_=>[]
theorem lr:∀(ds cs:List Int) (t:Str),(W4 ds cs t).length=min ds.length cs.length
 |d::ds,c::cs,t=>by
  show (W4 ds cs _).length+1=min (ds.length+1) (cs.length+1);rw[lr ds cs];lia
 |[],_,_=>by simp[W4]
 |_::_,[],_=>by simp[W4]
theorem zJ:∀{i:Nat}{ds cs:List Int}{t:Str}{d c:Int},ds[i]?=some d->cs[i]?=some c -> ∃u,(t::W4 ds cs t)[i]?=some u/\(W4 ds cs t)[i]?=some (beg u (d-1).toNat++⟨#[(c+97).toNat]⟩)
 |0,d::ds,c::cs,t,_,_,rfl,rfl=>(t,7,7)
 |i+1,d::ds,c::cs,t,_,_,e,b=>by
  obtain⟨u,g,f⟩:=zJ (i:=i) (ds:=ds) (cs:=cs) (t:=beg t (d-1).toNat++⟨#[(c+97).toNat]⟩) (by simpa using e) (by simpa using b);exact(u,g,f)
 |_,[],_,_,_,_,h,_=>by simp at h
 |_,_::_,[],_,_,_,_,h=>by simp at h
theorem pW(x:Str)(c:Nat):(x++(⟨#[c]⟩:Str)).length=x.length+1:=by
 show (x.cps ++ #[c]).size=_;rw[Array.size_append];rfl
theorem zB{ds cs:List Int}(hd:∀d∈ds,1<=d/\d<=3000){u:Str}(h:u∈W4 ds cs ⟨#[]⟩):u.length<=3000:=by
 obtain⟨i,c⟩:=agO h;have b:=(aad.mp c).1;rw[lr]at b;obtain⟨v,_,e⟩:=zJ (t:=⟨#[]⟩) (aab (show i<ds.length by lia)) (aab (show i<cs.length by lia));rw[c]at e;cases e;have f:=hd _ (age (show i<ds.length by lia));rw[pW,jW];lia
def XR(ds b es:List Int):List Str:=((((⟨#[]⟩:Str)::W4 (ds.drop 1) b ⟨#[]⟩).zip es).filter λp=>decide (p.2=1)).map (·.1)
def yh(c:Int):Prop:=0<=c/\c<26
inductive Ew(cW:Addr)(vs:List V)(H:Hp)(Q:VK)(E:XK):Prop
 | mk (pd pl pe:Addr) (ds ls es:List Int) (_:vs=[.ref pd,.ref pl,.ref pe]) (_:H pd=some (.lst !!ds)) (_:H pl=some (.lst !!ls)) (_:H pe=some (.lst !!es)) (_:(∀d∈ds.drop 1,1<=d/\d<=3000)) (_:ds.length<=5000) (_:((∀c∈ls.take (ds.length-1),yh c) -> ∀r H',H r=none->aM H H'->H' r=some (.lst ((XR ds ls es).map V.str))->Q (.ref r) H')) (_:(¬(∀c∈ls.take (ds.length-1),yh c) -> ∀H',aM H H'->E (.ref cW) none H'))
theorem Ed(T:Tx K mg a):bc P w K mg base (WX P w) 2 a.aeh a.adB ["depths","letters","ends"] (Ew a.Xz):=by
 refine T.aew.F.Xg jj (λvs H Q E h=>?_) (λb1 A a6 s H vs Q E hr h=>?_)
 ·obtain⟨pd,pl,pe,f,k,es,rfl,_⟩:=h;rfl
 obtain⟨pd,pl,pe,f,k,es,rfl,hd,hl,he,W,b0,q,qE⟩:=h;refine(_,(ao (aC 3 jj.nd (bM (au dH aj)))
  (ao (bA fj rfl (sS rfl T.ZX Tw.rJ (au (bF cI (pv 0) (bH aA) cH) (Wn 1 aj))) (rY rfl (dw (aR 4 jj.nd) (dw (aR 5 jj.nd) nY))) (ao (bx (gY (pU yZ tU aA (pv 5) (aL eU rfl T.WF Tw.bB (au (aV (v:=.str "abcdefghijklmnopqrstuvwxyz") rfl T.acG (_,7)) aj)))) (aB (dg T.aeE rfl (au dH aj))) aQ)
  (aB (bC (fD PySem.F.plainAttrs_list PySem.F.slot_list_append PySem.F.type_list_append bZ (pv 3) (au (aW T.ade (yp T) hr (au (bD dI (pv 3) (oH jD aA)) (Wn 4 (au (bD Fl (aV (v:=.str "abcdefghijklmnopqrstuvwxyz") rfl T.acG (_,7)) (pv 5)) aj)))) aj))))))
  (aB (aG (Jr rfl (bR.zero,7,4) (sS rfl T.ZX Tw.rJ (Wn 3 (Wn 2 aj))) (λ_ _ _ _=>(uM (aO dm (pv 1) aA))) (λ_ _ _ _=>(pv 0))))))),2)
 refine(sl1,λr G=>?_)
 have s1:=aq G (.lst [V.str ""])
 have C:upd H r (.lst [V.str ""]) r=some (.lst ([(⟨#[]⟩:Str)].map V.str)):=aa
 generalize upd H r (.lst [V.str ""])=H1 at *
 refine(8,pd,9,My.of (s1 _ _ hd),λc B=>?_);have ec:dR ‹f› (some 1) none=(f.drop 1).map V.int:=by rw[show (1:Int)=((1:Nat):Int)from rfl,iD,ahA]
 rw[ec];have s2:=aq B (.lst ‹f.drop 1›);have a2:c≠r:=(aH C B).symm;have xc:upd H1 c (.lst ‹f.drop 1›) c=some (.lst ‹f.drop 1›):=aa
 replace C:=s2 _ _ C
 generalize upd H1 c (.lst ‹f.drop 1›)=H2 at *;have J:=s1.trans s2;have a1:pl≠r:=aH hl G;have a7:pe≠r:=aH he G;exists 9,c,pl,_,9,My.of xc,My.of (J _ _ hl);refine Ba (xs:=(f.drop 1).map V.int) (ys:=k.map V.int) (λj σ I=>∃(k4 k5:Option V),σ=[!!!pd,!!!pl,!!!pe,!!!r,k4,k5]/\(∀b o,b≠r->H2 b=some o->I b=some o)/\I r=some (.lst (((⟨#[]⟩:Str)::(W4 (f.drop 1) k ⟨#[]⟩).take j).map V.str)) /\ ∀c∈k.take j,yh c) (3,3,7,λ_ _ _ e=>e,C,λc B=>by simp at B) ?_ ?_ ?_
 ·rintro j σ I _ ⟨_,_,_,M,_⟩;exact(My.of (M _ _ a2 xc),My.of (M _ _ a1 (J _ _ hl)))
 ·rintro j x y σ I pr hx hy ⟨k4,k5,rfl,M,C,L⟩ a3;obtain⟨d,O,rfl⟩:=int_at hx;obtain⟨z,hz,rfl⟩:=int_at hy;have s3:=aq a3 (.tup [.int d,.int z]);have S:aM H I:=λb o e=>M b o (aH e G) (J _ _ e);have a4:=(aad.mp O).1;rw[aaM]at a4;have hm:z∈k.take (f.length-1):=aaw (i:=j) (by rw[af9 ⋯];exact hz);have X:¬yh z->E (.ref a.Xz) none (upd I pr (.tup [.int d,.int z])):=λn=>qE (λg=>n (g z hm)) _ (S.trans s3);exists pr,9,Wq.of aa,7,_,9,5;refine(9,5,9,fB (λc=>?_) λc=>?_)
  rotate_left
  ·have c:¬(0:Int)<=z:=λn=>c (decide_eq_true n);exact(9,cF (sl1,X λn=>c n.1))
  have c':(0:Int)<=z:=of_decide_eq_true c;exists letters,7,by rw[sizeLine_eq];decide,5,9;by_cases c2:z<26
  rotate_left
  ·rw[decide_eq_false (show ¬z<((letters.length:Nat):Int)from c2)];exact cF (sl1,X λn=>c2 n.2)
  rw[decide_eq_true (show z<((letters.length:Nat):Int)from c2)];refine b7 ?_;have N:=s3 _ _ C;obtain⟨u,e1,e2⟩:=zJ (t:=⟨#[]⟩) O hz;have a8:j<(W4 (f.drop 1) k ⟨#[]⟩).length:=(aad.mp e2).1;obtain⟨d1,d2⟩:=W d (aaw O);have R:∃U,((⟨#[]⟩:Str)::(W4 (f.drop 1) k ⟨#[]⟩).take j)=U++[u]:=by
   have e:((⟨#[]⟩:Str)::(W4 (f.drop 1) k ⟨#[]⟩).take j)=(((⟨#[]⟩:Str)::W4 (f.drop 1) k ⟨#[]⟩)).take (j+1):=rfl;rw[e,af7,e1];exact(_,7)
  obtain⟨U,a0⟩:=R;have a9:u.length<=3000:=by
   rcases aav.mp (aaw e1)with rfl|hu
   ·exact af3 _
   ·exact zB W hu
  have a5:W7 (((⟨#[]⟩:Str)::(W4 (f.drop 1) k ⟨#[]⟩).take j).map V.str) (-1)=some (.str u):=by
   rw[a0,aag];exact mL _ _
  exists 9,.inl (7,_,My.of N),8,r,_,5,My.of N,a5,8,letters,z,97+z.toNat,7,7,4,?_
  ·obtain⟨m,rfl⟩:∃m:Nat,z=(m:Int):=(z.toNat,6);exact lC (tH _ ⋯)
  exists u,⟨#[97+z.toNat]⟩,(d-1).toNat,(by rw[show (((d-1).toNat:Nat):Int)+1=d by lia];rfl),6,aae 1;refine(r,5,N,2,(_,9,λb o n e=>?_,2,λc B=>?_))
  ·rw[aaa,aao,aaq,lr,aaM,sizeLine_eq];lia
  ·rw[aJ n];exact s3 _ _ (M b o n e)
  ·rw[aa,af7,e2,show (z+97).toNat=97+z.toNat by lia];simp
  ·rw[af7,hz]at B;rcases aaG.mp B with B|B
   ·exact L c B
   ·rw[show c=z by simpa using B];exact(c',c2)
 ·rintro σ I ⟨k4,k5,rfl,M,C,L⟩;have S:aM H I:=λb o e=>M b o (aH e G) (J _ _ e);rw[aaa,aaa,aaM]at C L;have Y:(W4 (f.drop 1) k ⟨#[]⟩).take (min (f.length-1) k.length)=W4 (f.drop 1) k ⟨#[]⟩:=aaj (by rw[lr,aaM];exact aae _);rw[Y]at C;have Z:∀c∈k.take (f.length-1),yh c:=λc B=>L c (by
   rcases aid (f.length-1) k.length with z|z
   ·rw[ags z];exact B
   ·rw[aha z,agi];exact agt B)
  exists 8,r,pe,_,9,My.of C,My.of (S _ _ he);refine Ky (λ_ y=>decide (y=V.int 1)) (λx _=>x) (My.of C) (My.of (S _ _ he)) (by rw[aaa,aao,lr,aaM,sizeLine_eq];lia) (λx y I Q _ hy _ q=>?_) (λx y I Q _ _ _ q=>(9,q)) λD HD hD sD xD=>q Z D HD (S.free hD) (S.trans sD) ?_
  ·obtain⟨z,_,rfl⟩:=afs.mp hy;exact(9,7,9,q)
  ·rw[xD];unfold XR;refine congrArg (λl=>some (HO.lst l)) ?_;rw[List.zip_map,ajs,agC,agC];refine congrArg (ajF _) (List.filter_congr λp _=>?_);exact decide_eq_decide.mpr (λh=>V.int.inj h,λh=>congrArg V.int h)
def bK(os:List Int):List Int:=lZ os 3 (Wu os)
def Gw(os:List Int):Prop:=3<=os.length/\3+4*many (Wu os)<=os.length
inductive Av(cN:Addr)(vs:List V)(H:Hp)(Q:VK)(E:XK):Prop
 | mk (p:Addr) (os:List Int) (_:vs=[.ref p]) (_:H p=some (.lst !!os)) (_:dN os) (_:(Gw os -> ∀r H',H r=none->aM H H'->H' r=some (.lst ‹bK os›)->Q (.ref r) H')) (_:(¬Gw os -> ∀H',aM H H'->E (.ref cN) none H'))
theorem lH(T:Tx K mg a):bc P w K mg base (WX P w) 5 a.aa2 a.ac4 ["octets"] (Av a.Wy):=by
 refine T.ZW.F.Xg zE (λt H Q E h=>?_) (λD A k s H t Q E m h=>?_)
 ·obtain⟨p,b,rfl,_⟩:=h;rfl
 obtain⟨p,b,rfl,n,e,q,l⟩:=h;exists _,(aB (aG (bI T.adS (w5 T) ∅ m dz rfl (Wn 0 (au (aD bj aA (aV (v:=.int 2) rfl T.YT (_,7))) (au (bI T.ab6 (pN T) ∅ m dz rfl (Wn 0 (au aA (au (aV (v:=.int 2) rfl T.YT (_,7)) aj)))) aj))))));have G:0<=gm ((b.drop 1).take 2)/\gm ((b.drop 1).take 2)<=65535:=By (λy u=>e y (ago (agt u))) (by rw[aaq];lia);have B:gm ((b.drop 1).take 2)=((Wu b:Nat):Int):=by
  unfold Wu;lia
 refine(9,5,9,p,b,(1),(2),7,n,λx I d=>?_,λc C d=>l (λz=>by have:=z.1;lia) C d);rw[B];refine(p,b,(3),Wu b,7,d _ _ n,6,λj r g i f o=>q (6,2) r g (d.free i) (d.trans f) o,λc g f=>l (λz=>c (.inl z.2)) g (d.trans f));rcases j with z|z
 ·exact z
 ·rw[z];exact x
def Xb(os:List Int):List Int:=YH (bK os) (bK os).length
theorem qM{os:List Int}(h:Tree (bK os)):bW (Xb os)/\brk (Xb os) 0=bK os:=by
 obtain⟨c,b,e⟩:=Ny (fK os 3 (Wu os)) h;unfold Xb bK;rw[<-e,z9 b];exact(b,7)
def Hb(os:List Int):Prop:=Gw os/\(bK os).length<=4096/\Tree (bK os)
inductive wD(c1:Addr)(c2:Addr)(c3:Addr)(vs:List V)(H:Hp)(Q:VK)(E:XK):Prop
 | mk (p:Addr) (os:List Int) (_:vs=[.ref p]) (_:H p=some (.lst !!os)) (_:dN os) (_:(Hb os -> ∀r H',H r=none->aM H H'->H' r=some (.lst ‹Xb os›)->Q (.ref r) H')) (_:(¬Hb os -> ∀H',aM H H'->E (.ref c1) none H'/\E (.ref c2) none H'/\E (.ref c3) none H'))
theorem lR(T:Tx K mg a):bc P w K mg base (WX P w) 6 a.aaJ a.abY ["octets"] (wD a.Wy a.Xk a.Yi):=by
 refine T.aaB.F.Xg vZ (λx H Q E h=>?_) (λI A n s H x Q E o h=>?_)
 ·obtain⟨p,c,rfl,_⟩:=h;rfl
 obtain⟨p,c,rfl,B,f,q,j⟩:=h;exists _,(aB (aG (bI T.adR (zY T) ∅ o dz rfl (au (bI T.ZW (lH T) ∅ o dz rfl (Wn 0 aj)) aj))));refine(9,p,c,7,B,f,λm y C G d v=>?_,λe D d=>(j (λz=>e z.1) D d).1);exists y,bK c,7,My.of v;have t:=fK c 3 (Wu c);by_cases g:(bK c).length<=4096
 ·by_cases b:Tree (bK c)
  ·exact .inl (g,t,b,λr k l i u=>q (m,g,b) r k (d.free l) (d.trans i) u)
  ·exact .inr (.inr (.inr (g,t,b,λk i=>(j (λz=>b z.2.2) k (d.trans i)).2.2)))
 ·exact .inr (.inl (6,(j (λz=>g z.2.1) C d).2.1))
theorem CT{ds:List Int}(h:bW ds):∀(i:Nat) (d:Int),ds[i]?=some d->0<=d/\d<=(i:Int)
 |0,d,e=>by
  rw[h.1]at e;cases e;exact(aip _,aip _)
 |i+1,d,e=>by
  have c:=(aad.mp e).1;obtain⟨x,b⟩:∃x,ds[i]?=some x:=(_,aab ⋯);have g:=CT h i x b;have f:=h.2 i x d b e;lia
theorem Es{ds:List Int}(h:bW ds)(f:ds.length<=2048):∀d∈ds.drop 1,1<=d/\d<=3000:=λd hd=>by
 obtain⟨i,b⟩:=agO hd;rw[agm,ah0]at b;have e:=(aad.mp b).1;obtain⟨x,c⟩:∃x,ds[i]?=some x:=(_,aab ⋯);have j:=CT h _ d b;have g:=h.2 i x d c b;lia
def tln(n:Nat):Nat:=3+(4*many n+2*(many n+1))+2*many n
def Xh(os:List Int):List Int:=os.drop (1+tln (bK (os.drop 1)).length)
noncomputable def XH(os:List Int):List Int:=pJ (Xh os) (hO (kdN (Xh os)))
noncomputable def msO(ns:List Int):List Int:=Classical.epsilon (Kinds ns)
theorem M8{ns ms:List Int}(h:Kinds ns ms):msO ns=ms:=(Classical.epsilon_spec (p:=Kinds ns) (ms,h)).uniq h
noncomputable def sln(ns:List Int):Nat:=(WP ns (msO ns) (hO (msO ns).length)).length
noncomputable def YJ(os:List Int):List Int:=(Xh os).drop (sln (XH os))
structure Z8(os:List Int):Prop where
 td:Hb (os.drop 1)
 tl:wV (Xh os) (hO (kdN (Xh os)))
 len:(XH os).length<=4096
 inr:Xa (XH os)
 tb:Gw (YJ os)
 az:∀c∈(XH os).take ((Xb (os.drop 1)).length-1),yh c
noncomputable def nq(os:List Int):List Str:=XR (Xb (os.drop 1)) (XH os) (bK (YJ os))
theorem dN.drop{os:List Int}(h:dN os)(k:Nat):dN (os.drop k):=λy b=>h y (ago b)
theorem Hb.dlen{os:List Int}(h:Hb os):bW (Xb os)/\(Xb os).length<=2048/\(brk (Xb os) 0).length=(bK os).length:=by
 have b:=qM h.2.2;have c:=iz b.1;have d:=h.2.1;rw[b.2]at c;exact(b.1,6,by rw[b.2])
inductive xu(a:Ad)(vs:List V)(H:Hp)(Q:VK)(E:XK):Prop
 | mk (p:Addr) (os:List Int) (_:vs=[.ref p]) (_:H p=some (.lst !!os)) (_:os.length<=100000) (_:dN os) (_:(Z8 os -> ∀r H',H r=none->aM H H'->H' r=some (.lst ((nq os).map V.str))->Q (.ref r) H')) (_:(¬Z8 os -> ∀H' c,aM H H'->c∈[a.Wy,a.Xk,a.Yi,a.X7,a.Xz]->E (.ref c) none H'))
theorem xm(T:Tx K mg a):bc P w K mg base (WX P w) 9 a.aaQ a.acw ["octets"] (xu a):=by
 refine T.aaS.F.Xg fG (λvs H Q E h=>?_) (λa8 A a2 s H vs Q E t h=>?_)
 ·obtain⟨p,b,rfl,_⟩:=h;rfl
 obtain⟨p,b,rfl,hp,hl,j,q,g⟩:=h;refine(_,(ao (aC 1 fG.nd (bI T.aaB (lR T) ∅ t dz rfl (au (bF cI (pv 0) (bH aA) cH) aj)))
  (ao (aC 2 fG.nd (bF cI (pv 0) (bH (aD bj aA (aL aN rfl T.WF Tw.bB (au (aW T.Zv (fW T) t (Wn 1 aj)) aj)))) cH))
  (ao (aC 3 fG.nd (bI T.aaF (oF T) ∅ t dz rfl (Wn 2 aj)))
  (ao (aC 4 fG.nd (bI T.ZW (lH T) ∅ t dz rfl (au (bF cI (pv 2) (bH (aL aN rfl T.WF Tw.bB (au (bI T.Zw (fH T) ∅ t dz rfl (Wn 3 aj)) aj))) cH) aj)))
  (aB (aG (bI T.aew (Ed T) ∅ t dz rfl (Wn 1 (Wn 3 (Wn 4 aj)))))))))),2)
 refine(8,p,9,My.of hp,λc0 X=>?_);rw[show dR ‹b› (some 1) none=(b.drop 1).map V.int by rw[show (1:Int)=((1:Nat):Int)from rfl,iD,ahA]];have D:=aq X (.lst ‹b.drop 1›);refine(c0,b.drop 1,7,aa,j.drop 1,λm r1 H1 a7 d f=>?_,λc M d=>?_)
 rotate_left
 ·have n:¬Z8 b:=λz=>c z.td;exact(g n _ _ (D.trans d) (by simp),g n _ _ (D.trans d) (by simp),g n _ _ (D.trans d) (by simp))
 obtain⟨Yq,x,WR⟩:=m.dlen
 replace d:=D.trans d
 refine(8,r1,Xb (b.drop 1),7,f,x,Yq,λr2 H2 i a6 s2 S x2=>?_);have el:(cX (brk (Xb (b.drop 1)) 0) i).length=tln (bK (b.drop 1)).length:=by
  rw[dj (by rw[(qM m.2.2).2];exact fK _ _ _),S.len,WR];rfl
 have N:=d.trans s2;refine(r2,9,.inl (My.of x2),5,9,p,9,My.of (N _ _ hp),λv W=>?_);have ec:dR ‹b› (some (1+((‹cX (brk (Xb (b.drop 1)) 0) i›.length:Nat):Int))) none=(Xh b).map V.int:=by
  rw[aaa,el,show (1:Int)+((tln (bK (b.drop 1)).length:Nat):Int)=((1+tln (bK (b.drop 1)).length:Nat):Int) by lia,iD,<-ahA];rfl
 rw[ec];have C:=aq W (.lst ‹Xh b›);have B:upd H2 v (.lst ‹Xh b›) v=some (.lst ‹Xh b›):=aa
 replace C:=s2.trans C
 replace f:=C _ _ f
 replace d:=d.trans C
 generalize upd H2 v (.lst ‹Xh b›)=H3 at *;have a3:(Xh b).length<=b.length:=by
  unfold Xh;rw[aaM];lia
 have y:dN (Xh b):=j.drop _;refine(9,v,Xh b,7,B,6,y,λl L H4 Yh u o=>?_,λc M u=>g (λz=>c z.tl) _ _ (d.trans u) (by simp))
 replace f:=u _ _ f
 replace B:=u _ _ B
 replace d:=d.trans u
 have hU:(lQ (Xh b)).length<=4000:=by
  have:=l.kd;rw[jf];lia
 have o:H4 L=some (.lst ‹XH b›):=o;exists 8,L,XH b,7,My.of o;by_cases e:(XH b).length<=4096
 rotate_left
 ·exact .inr (.inl (6,g (λz=>e z.len) _ _ d (by simp)))
 by_cases G:Xa (XH b)
 rotate_left
 ·exact .inr (.inr (e,G,g (λz=>G z.inr) _ _ d (by simp)))
 refine .inl (e,(_,hU,vp l),G,λr4 ms h4 H5 a5 s5 hk hz x4=>?_);have a0:(WP (XH b) ms h4).length=sln (XH b):=by
  unfold sln;rw[M8 hk,Dr hz]
 refine(r4,9,.inl (My.of x4),9,v,9,My.of (s5 _ _ B),λc2 U=>?_);have a1:dR ‹Xh b› (some ((‹WP (XH b) ms h4›.length:Nat):Int)) none=(YJ b).map V.int:=by
  rw[aaa,a0,iD,<-ahA];rfl
 rw[a1];have J:=s5.trans (aq U (.lst ‹YJ b›));have Y:dN (YJ b):=y.drop _
 replace f:=J _ _ f
 replace o:=J _ _ o
 replace d:=d.trans J
 refine(c2,YJ b,7,aa,Y,λO r5 H6 a4 k x5=>?_,λc M k=>g (λz=>c z.tb) _ _ (d.trans k) (by simp));refine(8,9,r1,L,r5,Xb (b.drop 1),XH b,bK (YJ b),7,k _ _ f,k _ _ o,x5,Es Yq x,6,λZ r H7 R I x7=>?_,λc M I=>g (λz=>c z.az) _ _ (d.trans (k.trans I)) (by simp));exact q (m,l,e,G,O,Z) r H7 ((d.trans k).free R) (d.trans (k.trans I)) x7
def Chn:Nat->List Int->Prop
 |_,[]=>True
 |l,d::b=>1<=d/\d<=(l:Int)+1/\Chn d.toNat b
theorem Px:∀{ds:List Int}{x:Int},0<=x->(∀(i:Nat) (b y:Int),(x::ds)[i]?=some b->(x::ds)[i+1]?=some y->1<=y/\y<=b+1)->Chn x.toNat ds
 |[],_,_,_=>trivial
 |d::ds,x,g,h=>by
  have c:=h 0 x d rfl rfl;exact(c.1,6,Px ⋯ λi b y f e=>h (i+1) b y f e)
theorem yC{ds:List Int}(h:bW ds):Chn 0 (ds.drop 1):=by
 cases ds with
 |nil=>exact trivial
 |cons d ds=>
  have e:d=0:=by
   have:=h.1;cases this;rfl
  subst e;exact Px (aip 0) h.2
theorem Hs:∀{ds cs:List Int}{t:Str}{U:List Str},Chn t.length ds->(∀k,beg t k∈U) -> ∀u∈W4 ds cs t,∀k,beg u k∈U++W4 ds cs t
 |d::ds,c::cs,t,U,h,l,u,b,k=>by
  obtain⟨o,n,m⟩:=h;have j:=jW t (d-1).toNat;have g:(beg t (d-1).toNat++(⟨#[(c+97).toNat]⟩:Str)).length=d.toNat:=by
   rw[pW,j];lia
  have f:∀k,beg (beg t (d-1).toNat++(⟨#[(c+97).toNat]⟩:Str)) k∈U++[beg t (d-1).toNat++(⟨#[(c+97).toNat]⟩:Str)]:=λk=>by
   rcases agc k d.toNat with z|z
   ·have e:beg (beg t (d-1).toNat++(⟨#[(c+97).toNat]⟩:Str)) k=beg t k:=dJ (by
     rw[bu,bu,rB,bu,ahc (by rw[aaq,aaf];show k<=min (d-1).toNat t.length;lia),ahq,ags ⋯])
    rw[e];exact agj _ (l k)
   ·rw[qQ (beg t (d-1).toNat++(⟨#[(c+97).toNat]⟩:Str)) (by rw[g];exact z)];exact aau _ (agD _)
  have i:U++W4 (d::ds) (c::cs) t=(U++[beg t (d-1).toNat++(⟨#[(c+97).toNat]⟩:Str)])++W4 ds cs (beg t (d-1).toNat++(⟨#[(c+97).toNat]⟩:Str)):=by
   rw[af5];rfl
  rw[i];rcases aav.mp b with rfl|b
  ·exact agj _ (f k)
  ·exact Hs (by rw[g];exact m) f u b k
 |[],_,_,_,_,_,_,b,_=>by cases b
 |_::_,[],_,_,_,_,_,b,_=>by cases b
theorem Bc{ds es:List Int}{u:Str}(h:u∈XR ds c es):u∈(⟨#[]⟩:Str)::W4 (ds.drop 1) c ⟨#[]⟩:=by
 obtain⟨p,b,rfl⟩:=afs.mp h;exact(ahg (ahM.mp b).1).1
theorem QZ(ds b es:List Int):(XR ds b es).length<=ds.length-1+1:=by
 unfold XR;have c:=agT (λp:Str×Int=>decide (p.2=1)) (((⟨#[]⟩:Str)::W4 (ds.drop 1) b ⟨#[]⟩).zip es);rw[ahQ,aao,lr,aaM]at c;rw[aaa];lia
theorem Bd(k:Nat):beg (⟨#[]⟩:Str) k=⟨#[]⟩:=dJ (by rw[bu];exact aik)
theorem Im{ds es:List Int}(h:bW ds)(e:ds.length<=2048):yd (XR ds c es) 2048:=by
 have f:1<=ds.length:=by
  cases ds with
  |nil=>cases h.1
  |cons d ds=>exact Nat.succ_le_succ (af3 _)
 refine((⟨#[]⟩:Str)::W4 (ds.drop 1) c ⟨#[]⟩,by rw[aao,lr,aaM];lia,aal,λu b k=>?_);rcases aav.mp (Bc b)with rfl|b
 ·rw[Bd];exact aal
 ·exact Hs (t:=⟨#[]⟩) (U:=[⟨#[]⟩]) (yC h) (λk=>by rw[Bd];exact agD _) u b k
theorem zO{n:Nat}:∀{ws:List Str},(∀w∈ws,w.length<=n)->much ws<=n*ws.length
 |[],_=>af3 _
 |w::ws,h=>by
  have d:=h w aal;have c:=zO λv b=>h v (aai _ b);show w.length+much ws<=n*(ws.length+1);rw[ahp];lia
structure GoodW(os:List Int):Prop where
 oc:dN os
 wo:Z8 os
 low:∀x∈nq os,W0 x
 nd:(nq os).Nodup
 st:Zz (nq os) os
theorem Z8.few{os:List Int}(h:Z8 os):(∀x∈nq os,x.length<=3000)/\(nq os).length<=2048/\yd (nq os) 2048:=by
 obtain⟨d,b,_⟩:=h.td.dlen;have e:1<=(Xb (os.drop 1)).length:=(aad.mp d.1).1;refine(λx c=>?_,agx (QZ _ _ _) ⋯,Im d b);rcases aav.mp (Bc c)with rfl|c
 ·exact af3 _
 ·exact zB (Es d b) c
def GoodR(os:List Int):Prop:=dN os/\Gw os/\(bK os).length<=4096/\gQ (bK os)=os
def ir(os:List Int):Prop:=dN os/\Hb os /\ ∃b,qe (bK os) b/\cX (bK os) b=os
def oJ(os:List Int):Prop:=dN os/\wV os (hO (kdN os))/\(pJ os (hO (kdN os))).length<=4096/\Xa (pJ os (hO (kdN os))) /\ ∃(b:List Int) (h:Nat),Kinds (pJ os (hO (kdN os))) b/\gk b.length (2^h)/\WP (pJ os (hO (kdN os))) b h=os
def nM(wy:Nat)(os:List Int):Prop:=if wy=0 then GoodR os else if wy=1 then ir os else if wy=2 then oJ os else GoodW os
noncomputable def su(wy:Nat)(os:List Int):List V:=if wy=0 then (bK os).map V.int else if wy=1 then (Xb os).map V.int else if wy=2 then (pJ os (hO (kdN os))).map V.int else (nq os).map V.str
def Vh(a:Ad)(wy:Nat):Addr:=if wy=0 then a.aa2 else if wy=1 then a.aaJ else if wy=2 then a.aaP else a.aaQ
def U5(a:Ad)(wy:Nat):Addr:=if wy=0 then a.aaO else if wy=1 then a.aaI else if wy=2 then a.aaD else a.aaE
def rdX(wy:Nat)(os:List Int)(c:Addr)(H:Hp)(Q:VK)(E:XK):Prop:=(nM wy os -> ∀r b,H r=none->aM H b->b r=some (.lst (su wy os))->Q (.ref r) b)/\(¬nM wy os -> ∀b,aM H b->E (.ref c) none b)
inductive Ga(a:Ad)(vs:List V)(H:Hp)(Q:VK)(E:XK):Prop
 | mk (p:Addr) (os:List Int) (wy:Nat) (_:vs=[.ref p,.ref (Vh a wy),.ref (U5 a wy)]) (_:wy<4) (_:H p=some (.lst !!os)) (_:os.length<=100000) (_:rdX wy os a.Wy H Q E)
theorem km(T:Tx K mg a):bc P w K mg base (Xv P w) 10 a.aeX a.aej ["octets","tell","write"] (Ga a):=by
 refine T.abv.F.ok1 oU (λvs H Q E h=>?_) (λa7 A a4 s H vs Q E J h=>?_)
 ·obtain⟨p,d,wy,rfl,_⟩:=h;rfl
 obtain⟨p,d,wy,rfl,X,L,hl,q,v⟩:=h;refine(_,(ao (bC (bI T.ab2 (uB T) ∅ J mX rfl (Wn 0 aj)))
  (ao (Ry rfl rfl (λ_ _=>(ao (aC 3 oU.nd (iI (gU (lH T) ∅ J oV (i:=1) rfl T.ZW.F.kp T.ZW.b (Wn 0 aj)) (iI (gU (lR T) ∅ J oV (i:=1) rfl T.aaB.F.kp T.aaB.b (Wn 0 aj)) (iI (gU (oF T) ∅ J oV (i:=1) rfl T.aaF.F.kp T.aaF.b (Wn 0 aj)) (gU (xm T) ∅ J oV (i:=1) rfl T.aaS.F.kp T.aaS.b (Wn 0 aj))))))
  (aB (aC 4 oU.nd (iI (gU (jE T) ∅ J oV (i:=2) rfl T.ZV.F.kp T.ZV.b (Wn 3 aj)) (iI (gU (fW T) ∅ J R0 (i:=2) rfl T.Zv.F.kp T.Zv.b (Wn 3 aj)) (iI (gU (fH T) ∅ J oV (i:=2) rfl T.Zw.F.kp T.Zw.b (Wn 3 aj)) (gU (lL T) ∅ J oV (i:=2) rfl T.aay.F.kp T.aay.b (Wn 3 aj))))))))) (K5 T.afd T.afe rfl T.ZZ rfl (λ_=>(au dH aj)) Qj))
  (ao (bx (aO (jA J.units) (pv 4) (pv 0)) (aB (Ec T.ZZ rfl (au dH aj))) aQ)
  (aB (aG (pv 3)))))),2)
 refine(9,p,d,7,L,λm=>?_,λn=>v (λg=>n ?_) H (.refl _))
 rotate_left
 ·match wy,X with
  |0,_=>exact g.1
  |1,_=>exact g.1
  |2,_=>exact g.1
  |3,_=>exact g.oc
 match wy,X with
 |0,_=>
  refine .inl (7,9,p,d,7,L,m,λo r H1 C f D=>?_,λu H' f=>?_)
  rotate_left
  ·exact(9,λ k l=>(true,T.Y0,cF λG j=>(sl1,aa,v (λg:GoodR d=>u g.2.1) _ (f.trans (aq j _)))))
  have hb:=fK d 3 (Wu d);by_cases h4:(bK d).length<=4096
  rotate_left
  ·exact .inl (7,9,r,9,My.of D,.inr (.inl (6,9,λ k l=>(true,T.Zc,cF λG j=>(sl1,aa,v (λg:GoodR d=>h4 g.2.2.1) _ (f.trans (aq j _)))))))
  refine .inl (7,9,r,9,My.of D,.inl (h4,hb,λR M S t N=>?_));refine(8,.inl (R,p,5,My.of N,My.of (t _ _ (f _ _ L)),2));by_cases B:gQ (bK d)=d
  ·rw[decide_eq_true B];exact(9,b7 (9,q (show GoodR d from (m,o,h4,B)) r M C (f.trans t) (t _ _ D)))
  ·rw[decide_eq_false B];exact(9,cF (sl1,v (λg:GoodR d=>B g.2.2.2) _ (f.trans t)))
 |1,_=>
  refine .inr (.inl (7,9,p,d,7,L,m,λo r H1 C f D=>?_,λu H' f=>?_))
  rotate_left
  ·have n:¬nM 1 d:=λg=>u g.2.1;exact((9,λ k l=>(true,T.Y0,cF λG j=>(sl1,aa,v n _ (f.trans (aq j _))))),(9,λ k l=>(true,T.Zc,cF λG j=>(sl1,aa,v n _ (f.trans (aq j _))))),(9,λ k l=>(true,T.Z1,cF λG j=>(sl1,aa,v n _ (f.trans (aq j _))))))
  obtain⟨Yq,a3,_⟩:=o.dlen;refine .inr (.inl (7,9,r,Xb d,7,D,a3,Yq,λR M O S t U N=>?_));rw[(qM o.2.2).2]at U N;refine(8,.inl (R,p,5,My.of N,My.of (t _ _ (f _ _ L)),2));by_cases B:cX (bK d) O=d
  ·rw[decide_eq_true B];exact(9,b7 (9,q (show ir d from (m,o,O,U,B)) r M C (f.trans t) (t _ _ D)))
  ·rw[decide_eq_false B];refine(9,cF (sl1,v (λg:ir d=>?_) _ (f.trans t)));obtain⟨a5,Z,e2⟩:=g.2.2;rw[Z.uniq U]at e2;exact B e2
 |2,_=>
  refine .inr (.inr (.inl (7,9,p,d,7,L,hl,m,λo r H1 C f D=>?_,λu H' f=>?_)))
  rotate_left
  ·exact(9,λ k l=>(true,T.Y0,cF λG j=>(sl1,aa,v (λg:oJ d=>u g.2.1) _ (f.trans (aq j _)))))
  have hU:(lQ d).length<=4000:=by
   have:=o.kd;rw[jf];lia
  have W:=vp o;by_cases I:(pJ d (hO (kdN d))).length<=4096
  rotate_left
  ·exact .inr (.inr (.inl (7,9,r,9,My.of D,.inr (.inl (6,9,λ k l=>(true,T.Zc,cF λG j=>(sl1,aa,v (λg:oJ d=>I g.2.2.1) _ (f.trans (aq j _)))))))))
  by_cases hi:Xa (pJ d (hO (kdN d)))
  rotate_left
  ·exact .inr (.inr (.inl (7,9,r,9,My.of D,.inr (.inr (I,hi,9,λ k l=>(true,T.Z0,cF λG j=>(sl1,aa,v (λg:oJ d=>hi g.2.2.2.1) _ (f.trans (aq j _)))))))))
  refine .inr (.inr (.inl (7,9,r,9,My.of D,.inl (I,(_,hU,W),hi,λR ms h M S t hk hz N=>?_))));refine(8,.inl (R,p,5,My.of N,My.of (t _ _ (f _ _ L)),2));by_cases B:WP (pJ d (hO (kdN d))) ms h=d
  ·rw[decide_eq_true B];exact(9,b7 (9,q (show oJ d from (m,o,I,hi,ms,h,hk,hz,B)) r M C (f.trans t) (t _ _ D)))
  ·rw[decide_eq_false B];refine(9,cF (sl1,v (λg:oJ d=>B ?_) _ (f.trans t)));obtain⟨_,_,_,_,Z7,h',a2,a1,e⟩:=g;obtain rfl:=hk.uniq a2;obtain rfl:=uI hz a1;exact e
 |3,_=>
  refine .inr (.inr (.inr (7,9,p,d,7,L,hl,m,λo r H1 C f D=>?_,λu H' c f W=>?_)))
  rotate_left
  ·have n:¬nM 3 d:=λg:GoodW d=>u g.wo;have W:c=a.Wy\/c=a.Xk\/c=a.Yi\/c=a.X7\/c=a.Xz:=by simpa using W
   rcases W with rfl|rfl|rfl|rfl|rfl
   ·exact(9,λ k l=>(true,T.Y0,cF λG j=>(sl1,aa,v n _ (f.trans (aq j _)))))
   ·exact(9,λ k l=>(true,T.Zc,cF λG j=>(sl1,aa,v n _ (f.trans (aq j _)))))
   ·exact(9,λ k l=>(true,T.Z1,cF λG j=>(sl1,aa,v n _ (f.trans (aq j _)))))
   ·exact(9,λ k l=>(true,T.Z0,cF λG j=>(sl1,aa,v n _ (f.trans (aq j _)))))
   ·exact(9,λ k l=>(true,T.Z2,cF λG j=>(sl1,aa,v n _ (f.trans (aq j _)))))
  obtain⟨f1,f2,f3⟩:=o.few;refine .inr (.inr (.inr (7,9,r,nq d,7,My.of D,f1,6,2)));by_cases V:∀x∈nq d,W0 x
  rotate_left
  ·refine .inl (2,λM t=>(9,λ k l=>(true,T.Z2,cF λG j=>(sl1,aa,v (λg:GoodW d=>V g.low) _ ((f.trans t).trans (aq j _))))));exact Classical.byContradiction λz=>V λx hx=>Classical.byContradiction λy=>z (x,hx,y)
  by_cases hN:(nq d).Nodup
  rotate_left
  ·exact .inr (.inl (V,hN,λM t=>(9,λ k l=>(true,T.aar,cF λG j=>(sl1,aa,v (λg:GoodW d=>hN g.nd) _ ((f.trans t).trans (aq j _)))))))
  have hm:much (nq d)<=90000:=by
   have:=zO (n:=40) λx hx=>(V x hx).1;lia
  refine .inr (.inr (V,hN,hm,f3,λR a0 M S t Y a6 N=>?_));refine(8,.inl (R,p,5,My.of N,My.of (t _ _ (f _ _ L)),2));by_cases B:a0=d
  ·rw[decide_eq_true B];exact(9,b7 (9,q (show GoodW d from (m,o,V,hN,B ▸ Y)) r M C (f.trans t) (t _ _ D)))
  ·rw[decide_eq_false B];exact(9,cF (sl1,v (λg:GoodW d=>B (Y.uniq g.st)) _ (f.trans t)))
inductive uH(wy:Nat)(cN:Addr)(vs:List V)(H:Hp)(Q:VK)(E:XK):Prop
 | mk (p:Addr) (os:List Int) (_:vs=[.ref p]) (_:H p=some (.lst !!os)) (_:os.length<=100000) (_:rdX wy os cN H Q E)
theorem Dd(T:Tx K mg a):bc P w K mg base (Xv P w) 11 a.aei a.adC ["octets"] (uH 0 a.Wy):=by
 refine T.aex.F.ok1 BX (λd H Q E h=>?_) (λj A b s H d Q E e h=>?_)
 ·obtain⟨p,c,rfl,_⟩:=h;rfl
 obtain⟨p,c,rfl,i,g,f⟩:=h;exists _,(aB (aG (bI T.abv (km T) ∅ e mX rfl (Wn 0 (au (aV (v:=.ref a.aa2) rfl T.ZW.m rfl) (au (aV (v:=.ref a.aaO) rfl T.ZV.m rfl) aj))))));exact(9,p,c,0,7,4,i,g,f)
theorem qy(T:Tx K mg a):bc P w K mg base (Xv P w) 11 a.adD a.acZ ["octets"] (uH 1 a.Wy):=by
 refine T.ab5.F.ok1 Bo (λd H Q E h=>?_) (λj A b s H d Q E e h=>?_)
 ·obtain⟨p,c,rfl,_⟩:=h;rfl
 obtain⟨p,c,rfl,i,g,f⟩:=h;exists _,(aB (aG (bI T.abv (km T) ∅ e mX rfl (Wn 0 (au (aV (v:=.ref a.aaJ) rfl T.aaB.m rfl) (au (aV (v:=.ref a.aaI) rfl T.Zv.m rfl) aj))))));exact(9,p,c,(1),7,4,i,g,f)
theorem xV(T:Tx K mg a):bc P w K mg base (Xv P w) 11 a.ac0 a.acp ["octets"] (uH 2 a.Wy):=by
 refine T.adf.F.ok1 yc (λd H Q E h=>?_) (λj A b s H d Q E e h=>?_)
 ·obtain⟨p,c,rfl,_⟩:=h;rfl
 obtain⟨p,c,rfl,i,g,f⟩:=h;exists _,(aB (aG (bI T.abv (km T) ∅ e mX rfl (Wn 0 (au (aV (v:=.ref a.aaP) rfl T.aaF.m rfl) (au (aV (v:=.ref a.aaD) rfl T.Zw.m rfl) aj))))));exact(9,p,c,(2),7,4,i,g,f)
theorem xq(T:Tx K mg a):bc P w K mg base (Xv P w) 11 a.ac1 a.acq ["octets"] (uH 3 a.Wy):=by
 refine T.adg.F.ok1 xf (λd H Q E h=>?_) (λj A b s H d Q E e h=>?_)
 ·obtain⟨p,c,rfl,_⟩:=h;rfl
 obtain⟨p,c,rfl,i,g,f⟩:=h;exists _,(aB (aG (bI T.abv (km T) ∅ e mX rfl (Wn 0 (au (aV (v:=.ref a.aaQ) rfl T.aaS.m rfl) (au (aV (v:=.ref a.aaE) rfl T.aay.m rfl) aj))))));exact(9,p,c,(3),7,4,i,g,f)
inductive Ke(cN:Addr)(Pl:Addr)(vs:List V)(H:Hp)(Q:VK)(E:XK):Prop
 | mk (p:Addr) (os:List Int) (_:vs=[.ref p]) (_:H p=some (.lst !!os)) (_:os.length<=100000) (_:TabAt H Pl (zc gJ) iW.qual) (_:(ir os -> ∀r t g ys cs bl H',iu Pl H H'->TabAt H' Pl (zc gJ) iW.qual->H' r=some (.tup [.ref t,.ref g])->H' t=some (.tup ys)->qt H' g iW cs [.ref bl]->Q (.ref r) H')) (_:(¬ir os -> ∀H',aM H H'->E (.ref cN) none H'))
theorem wU(T:Tx K mg a)(B:Bs mg base a):bc P w K mg base (Xv P w) 12 a.acr a.abV ["octets"] (Ke a.Wy a.W9):=by
 refine T.acF.F.ok1 lW (λJ H Q E h=>?_) (λa2 A z s H J Q E u h=>?_)
 ·obtain⟨p,l,rfl,_⟩:=h;rfl
 obtain⟨p,l,rfl,V,W,X,q,O⟩:=h;refine(_,(ao (aC 1 lW.nd (aW T.ab4 (qb T) u (au (bI T.ab5 (qy T) ∅ u mX rfl (Wn 0 aj)) aj)))
  (aB (aG (fc (au (bD bO (pv 1) aA) (au (aW T.ae2 (G8 T B) u (au (bD bO (pv 1) aA) aj)) aj)))))),2)
 refine(9,p,l,7,V,W,λc N H1 a1 m I=>?_,λj H' m=>O j H' m)
 replace c:ir l:=c
 obtain⟨Yq,x,_⟩:=c.2.1.dlen;refine(N,Xb l,7,I,x,Yq,λkr t ah nd bl C S xs H2 WR L d D=>?_);have f:=m.trans L;have i:=TabAt.same X f;refine(9,kr,_,5,Wq.of d,7,9,kr,_,5,Wq.of d,7,bl,9,My.of D.bls,i,λg M H3 Y nf nr G y Z a0=>?_);refine(sl2,λr v=>?_);have k:=aq v (.tup [.ref t,.ref g]);have U:∀b o,H2 b=some o->(∀R,o ≠ .WW R)->upd H3 r (.tup [.ref t,.ref g]) b=some o:=λb o e n=>k _ _ (G b o e (TabAt.ne i e n));exact q c r t g _ Y M _ (λb o e n=>k _ _ (G b o (f _ _ e) n)) (TabAt.same y k) aa (U _ _ D.tab.tup nofun) (Z.same λb o e=>k _ _ e)
theorem qN{m:Nat}{xs:List Int}{y:Int}(h:y∈xs.flatMap λx=>aU x m):0<=y/\y<=255:=by
 obtain⟨x,_,h⟩:=ahW.mp h;exact pY h
theorem nU{ns:List Int}(f:aK ns)(k:Nat):0<=dZ ns k/\dZ ns k<256^4:=by
 have b:aK ((ns.drop (32*k)).take 32):=λx c=>f x (ago (agt c));exists uU b;have i:=Mi b;have d:((ns.drop (32*k)).take 32).length<=32:=by
  rw[aaq];lia
 have h:(2:Int)^((ns.drop (32*k)).take 32).length<=2^32:=by
  have:=aiU (show 0<2 by decide) d;have e:∀n:Nat,(2:Int)^n=((2^n:Nat):Int):=λn=>by simp
  rw[e,e];lia
 have g:(2:Int)^32=256^4:=by decide
 show blk ((ns.drop (32*k)).take 32)<_;lia
theorem qm{b:Type}{f:b->List Int}{m:Nat}:∀{L:List b}{j:Nat}{x:b} (r:List Int),(∀y∈L,(f y).length=m)->L[j]?=some x -> ∃c,(L.flatMap f++r).drop (m*j)=f x++c
 |[],_,_,_,_,h=>by simp at h
 |y::L,0,x,r,_,h=>by
  cases h;exact(L.flatMap f++r,by rw[ajO,agL,agX,af5])
 |y::L,j+1,x,r,d,h=>by
  obtain⟨c,e⟩:=qm (L:=L) (j:=j) r (λz g=>d z (aai _ g)) (by simpa using h);exact(c,by rw[agX,af5,ahp,ah0,<-agw,ahx (d y aal),e])
theorem BW:∀{l:List (Int×Int)} {rs:List Int}{p:Int},0<=p->(∀q∈l,0<=q.1/\q.1≠p)->(layB rs l)[p.toNat]?=rs[p.toNat]?
 |[],_,_,_,_=>rfl
 |q::l,rs,p,c,h=>by
  have d:=h q aal;have:=BW (l:=l) (rs:=rs.set q.1.toNat (2*rs.getD q.1.toNat 0+q.2)) c λz b=>h z (aai _ b);show (layB _ l)[p.toNat]?=_;rw[this,agE ⋯]
theorem Jf:∀{l:List (Int×Int)} {rs:List Int},(l.map (·.1)).Nodup->(∀q∈l,0<=q.1/\q.1<(rs.length:Int)) -> ∀q∈l,(layB rs l)[q.1.toNat]?=some (2*rs.getD q.1.toNat 0+q.2)
 |[],_,_,_,_,h=>nomatch h
 |q::l,rs,f,d,z,c=>by
  rw[aax,agU]at f;have j:=d q aal;have g:∀y∈l,y.1≠q.1:=λy b e=>f.1 (e ▸ ain b);show (layB (rs.set q.1.toNat (2*rs.getD q.1.toNat 0+q.2)) l)[z.1.toNat]?=_;rcases aav.mp c with rfl|c
  ·rw[BW j.1 λy b=>((d y (aai _ b)).1,g y b),agG ⋯]
  ·have k:=d z (aai _ c);have i:=Jf (l:=l) (rs:=rs.set q.1.toNat (2*rs.getD q.1.toNat 0+q.2)) f.2 (λy b=>by rw[ahN];exact d y (aai _ b)) z c;have nz:=g z c;rw[i,aaN,agE ⋯,<-aaN]
theorem Od(f:Int->Int)(od bs:List Int):mj (od.map f) bs=(mj od bs).map f:=by
 have e:∀c:Int,(((od.map f).zip bs).filter λp=>decide (V.int p.2=V.int c)).map (λp=>p.1)=(((od.zip bs).filter λp=>decide (V.int p.2=V.int c)).map (λp=>p.1)).map f:=λc=>by
  rw[List.zip_map_left,ajs,agC,agC];rfl
 unfold mj;rw[e,e,aag]
theorem yF:∀{od bs:List Int},aK bs->bs.length=od.length->(mj od bs).Perm od
 |[],[],_,_=>.nil
 |[],_::_,_,h=>by simp at h
 |_::_,[],_,h=>by simp at h
 |z::od,b::bs,d,h=>by
  have c:=yF (od:=od) (bs:=bs) (λy e=>d y (aai _ e)) (by simpa using h);unfold mj at c ⊢;rw[ah3,agQ,agQ];rcases d b aal with rfl|rfl
  ·rw[if_pos (by simp),if_neg (by simp),aax,agM];exact c.cons z
  ·rw[if_neg (by simp),if_pos (by simp),aax];exact List.perm_middle.trans (c.cons z)
theorem O9(z:Int)(k:Nat):2*(z / 2^(k+1))+bit z k=z / 2^k:=by
 unfold bit;rw[ahe,<-ahB (by exact Int.le_of_lt (ajq ∅))];lia
theorem Hu(b:Int->Int)(n:Nat):∀(k:Nat) (od rs:List Int),od.Perm (upto n)->rs.length=n->(∀p∈od,rs.getD p.toNat 0=b p / 2^k) -> ∀p:Nat,p<n->(YW (Ww k (od.map b)) od rs)[p]?=some (b p)
 |0,od,rs,d,o,h,p,j=>by
  have m:(p:Int)∈od:=d.mem_iff.mpr (afs.mpr (p,agK.mpr j,7));have:=h p m;rw[aaz,aie,ahZ,aaN,aab ⋯]at this;show rs[p]?=_;rw[aab ⋯];exact congrArg some this
 |k+1,od,rs,d,o,h,p,j=>by
  have u:aK ((od.map b).map λz=>bit z k):=λx B=>by
   obtain⟨z,_,rfl⟩:=afs.mp B;unfold bit;lia
  have C:((od.map b).map λz=>bit z k).length=od.length:=by rw[aaa,aaa]
  have f:=yF u C;have t:∀z∈od,0<=z/\z<(n:Int):=λz A=>by
   obtain⟨i,g,rfl⟩:=afs.mp (d.mem_iff.mp A);have:=agK.mp g;lia
  have s:(upto n).Nodup:=by
   refine ajc.mpr ((List.nodup_range (n:=n)).imp λh e=>h ⋯)
  have y:od.Nodup:=d.nodup_iff.mpr s;have r:(od.zip ((od.map b).map λz=>bit z k)).map (·.1)=od:=ajl ⋯;have v:=Jf (l:=od.zip ((od.map b).map λz=>bit z k)) (rs:=rs) (by rw[r];exact y) λq c=>by
   rw[o];exact t q.1 (ahg c).1
  show (YW (Ww k (Zy (od.map b) k)) (mj od ((od.map b).map λz=>bit z k)) (layB rs (od.zip ((od.map b).map λz=>bit z k))))[p]?=_;rw[<-Dj,Od];refine Hu b n k _ _ (f.trans d) ((mq _ _).trans o) (λq c=>?_) p j;have c:=f.mem_iff.mp c;obtain⟨i,g⟩:=agO c;have m:(pq q (bit (b q) k))∈od.zip ((od.map b).map λz=>bit z k):=aaw (aiB.mpr (show od[i]?=some (pq q (bit (b q) k)).1/\_=some (pq q (bit (b q) k)).2 from (g,by rw[aak,aak,g];rfl)));have:=v _ m;rw[aaN,this,h q c];exact O9 (b q) k
theorem zg(ns ms:List Int)(h:Nat):WP ns ms h=3::(aU (ns.length:Int) 2++(aU (ms.length:Int) 2++((ms.map λz=>z+10^60).flatMap (λx=>aU x 26)++(Ww h (rks ms ns)).flatMap (XF ns.length)))):=by
 unfold WP;simp
theorem iH(x:Int)(m:Nat)(r:List Int):(aU x m++r).take m=aU x m:=List.take_left' (aP x m)
theorem Az{ns ms:List Int}(rs:List Int)(hl:ns.length<=4096)(s:Xa ns)(U:Kinds ns ms)(hz:gk ms.length (2^n))(hm:ms.length<=3000):dN (WP ns ms n)/\kdN (WP ns ms n++rs)=ms.length/\wV (WP ns ms n++rs) n/\pJ (WP ns ms n++rs) n=ns:=by
 obtain⟨g,W⟩:∃g,g=WP ns ms n++rs:=(_,7);have H:=W;have I:=zg ns ms n;have O:(rks ms ns).length=ns.length:=by unfold rks;exact aaa ..
 have u:∀d∈Ww n (rks ms ns),aK d/\d.length=ns.length:=λd k=>((lq n _ d k).1,((lq n _ d k).2).trans O);have Q:∀d∈Ww n (rks ms ns),(XF ns.length d).length=stp ns.length:=λd k=>zR (u d k).2;obtain⟨l,o⟩:∃l,l=(Ww n (rks ms ns)).flatMap (XF ns.length):=(_,7);obtain⟨t,q⟩:∃t,t=(ms.map λz=>z+10^60).flatMap (λx=>aU x 26):=(_,7);rw[<-o,<-q]at I
 replace H:g=3::(aU (ns.length:Int) 2++(aU (ms.length:Int) 2++(t++(l++rs)))):=by
  rw[H,I];simp
 have T:t.length=26*ms.length:=by rw[q,aY,aaa]
 have d1:g.drop 1=aU (ns.length:Int) 2++(aU (ms.length:Int) 2++(t++(l++rs))):=by rw[H];rfl
 have Z:g.drop 3=aU (ms.length:Int) 2++(t++(l++rs)):=by
  rw[show (3:Nat)=1+2 from rfl,<-agw,d1];exact ahx (aP _ _)
 have Y:g.drop 5=t++(l++rs):=by
  rw[show (5:Nat)=3+2 from rfl,<-agw,Z];exact ahx (aP _ _)
 have dL:∀j,g.drop (5+26*ms.length+j)=(l++rs).drop j:=λj=>by
  rw[<-agw,<-agw,Y,<-T,ahx rfl]
 have J:Wu g=ns.length:=by
  unfold Wu;rw[d1,iH,fP _ _ ⋯ ⋯];exact aaz _
 have B:kdN g=ms.length:=by
  unfold kdN;rw[Z,iH,fP _ _ ⋯ ⋯];exact aaz _
 have N:∀z∈ms,-(10:Int)^60<z/\z<10^60:=λz hz=>s z ((U.mem z).mp hz);have e3:lQ g=ms:=by
  unfold lQ;rw[B];refine agn λj=>?_;rw[aak,aak];rcases agc j ms.length with c|c
  ·have A:=aab c;rw[agI c,A];have hr:=N _ (age c);generalize ms[j]=z at *;obtain⟨r',e⟩:=qm (f:=λx=>aU x 26) (m:=26) (L:=ms.map λz=>z+10^60) (j:=j) (x:=z+10^60) (l++rs) (λy _=>aP y 26) (by rw[aak,A];rfl);show some (gm ((g.drop (5+26*j)).take 26)-10^60)=some z;have a3:(2:Int)*10^60<256^26:=by decide
   rw[<-agw,Y,q,e,iH,fP _ _ ⋯ ⋯];exact congrArg some ⋯
  ·rw[aaC (by rw[af8];exact c),aaC c];rfl
 have R:l.length=stp ns.length*n:=by rw[o,p8 λd k=>(u d k).2,eO];rfl
 have r:g.length=5+26*ms.length+stp ns.length*n+rs.length:=by
  rw[H,aao,aac,aac,aac,aac,aP,aP,T,R];lia
 have e4:qJ g n=Ww n (rks ms ns):=by
  unfold qJ;rw[J,B];refine agn λi=>?_;rw[aak];rcases agc i n with c|c
  ·obtain⟨d,v⟩:∃d,(Ww n (rks ms ns))[i]?=some d:=(_,aab (by rw[eO];exact c));obtain⟨k,M⟩:=u d (aaw v);rw[agI c,v];refine congrArg some ?_;show lZ g (5+26*ms.length+stp ns.length*i) ns.length=d;have en:lU g (5+26*ms.length+stp ns.length*i) ns.length=bw d:=by
    unfold lU bw;rw[M];refine agR λj A=>?_;have A:=agK.mp A;obtain⟨S,V⟩:=qm (f:=XF ns.length) (m:=stp ns.length) rs Q v;rw[<-o]at V;obtain⟨r2,g2⟩:=qm (f:=λx=>aU x 4) (m:=4) (L:=bw d) (j:=j) (x:=dZ d j) ((WD d (many ns.length)).flatMap (λx=>aU x 2)++S) (λy _=>aP y 4) (by unfold bw;rw[M,aak,agI A];rfl);obtain⟨b0,b1⟩:=nU k j;rw[<-agw,dL,V];show gm (((((bw d).flatMap (λx=>aU x 4)++(WD d (many ns.length)).flatMap (λx=>aU x 2))++S).drop (4*j)).take 4)=_;rw[af5,g2,iH,fP _ _ b0 b1]
   unfold lZ;rw[en,<-M];exact rz k
  ·rw[aaC (by rw[af8];exact c),aaC (by rw[eO];exact c)];rfl
 have D:∀z∈ns,z∈ms:=λz hz=>(U.mem z).mpr hz;have h2:ms.length<=2^n:=by
  obtain⟨h',eh,a1,_⟩:=hz;exact a1
 have E:∀z∈rks ms ns,0<=z/\z<(ms.length:Int):=λz hz=>by
  obtain⟨y,b,rfl⟩:=afs.mp hz;have:=ahS (D y b);lia
 have X:Gm g n=rks ms ns:=by
  unfold Gm;rw[e4,J];have G:rks ms ns=(upto ns.length).map λp=>(rks ms ns).getD p.toNat 0:=by
   refine agn λj=>?_;unfold upto;rw[aak,aak];rcases agc j ns.length with c|c
   ·rw[agI c];show _=some ((rks ms ns).getD ((j:Int)).toNat 0);rw[aaz,aaN,aab ⋯];rfl
   ·rw[aaC ⋯,aaC (by rw[af8];exact c)];rfl
  have C:=Hu (λp=>(rks ms ns).getD p.toNat 0) ns.length n (upto ns.length) (aap ns.length 0) (.refl _) agb λp hp=>?_
  rotate_left
  ·obtain⟨i,s,rfl⟩:=afs.mp hp;have s:=agK.mp s;have a2:((2^n:Nat):Int)=(2:Int)^n:=by
    rw[Int.natCast_pow];rfl
   rw[aaz,aaN,ahz,if_pos s,aaN,aab ⋯];obtain⟨a0,a1⟩:=E _ (age (show i<(rks ms ns).length by lia));exact(Int.ediv_eq_zero_of_lt a0 (by show (rks ms ns)[i]<2^n;lia)).symm
  rw[<-G]at C;refine agn λj=>?_;rcases agc j ns.length with c|c
  ·rw[C j c,aaz,aaN,aab ⋯];rfl
  ·rw[aaC (by rw[Bb,agb];exact c),aaC ⋯]
 have e6:pJ g n=ns:=by
  unfold pJ;rw[X,e3];unfold rks;rw[agC]
  conv=>rhs;rw[<-List.map_id ns]
  refine agR λz hz=>?_;have F:=ahS (D z hz);show ms.getD ((ms.idxOf z:Int)).toNat 0=z;rw[aaz,aaN,aab F];exact ai5 F
 rw[<-W];refine(λy b=>?_,B,(6,by rw[B,r];lia,λi s=>?_,λz hz=>?_),e6)
 ·rw[I]at b;rcases aav.mp b with rfl|b
  ·decide
  rcases aaG.mp b with b|b
  ·exact pY b
  rcases aaG.mp b with b|b
  ·exact pY b
  rcases aaG.mp b with b|b
  ·rw[q]at b;exact qN b
  ·rw[o]at b;obtain⟨d,_,b⟩:=ahW.mp b;unfold XF at b;rcases aaG.mp b with b|b
   ·exact qN b
   ·exact qN b
 ·refine .inl ?_;rw[J,B,r];have:stp ns.length*(i+1)<=stp ns.length*n:=ai1 _ s;rw[ahp]at this;have:stp ns.length=4*many ns.length+2*(many ns.length+1):=rfl;lia
 ·rw[X]at hz;rw[B];exact(E z hz).2
def frB(t:Int)(ns rest:List Int):List Int:=t::(aU (ns.length:Int) 2++((bw ns).flatMap (λx=>aU x 4)++rest))
theorem pX{t:Int}{ns rest:List Int}(e:aK ns)(r:ns.length<=4096):Gw (frB t ns rest)/\bK (frB t ns rest)=ns:=by
 obtain⟨b,d⟩:∃b,b=frB t ns rest:=(_,7);have h:b.drop 1=aU (ns.length:Int) 2++((bw ns).flatMap (λx=>aU x 4)++rest):=by rw[d];rfl
 have n:b.drop 3=(bw ns).flatMap (λx=>aU x 4)++rest:=by
  rw[show (3:Nat)=1+2 from rfl,<-agw,h];exact ahx (aP _ _)
 have g:Wu b=ns.length:=by
  unfold Wu;rw[h,iH,fP _ _ ⋯ ⋯];exact aaz _
 have i:b.length=3+4*many ns.length+rest.length:=by
  rw[d];unfold frB;rw[aao,aac,aac,aP,aY,aX];lia
 rw[<-d];exists (6,by rw[g];lia);have l:lU b 3 ns.length=bw ns:=by
  unfold lU bw;refine agR λj c=>?_;have c:=agK.mp c;obtain⟨q,k⟩:=qm (f:=λx=>aU x 4) (m:=4) (L:=bw ns) (j:=j) (x:=dZ ns j) rest (λy _=>aP y 4) (by unfold bw;rw[aak,agI c];rfl);obtain⟨p,o⟩:=nU e j;rw[<-agw,n,k,iH,fP _ _ p o]
 unfold bK lZ;rw[g,l];exact rz e
theorem wY{ds es lows ms os:List Int}(i:bW ds)(G:ds.length<=2048)(k:qe (brk ds 0) lows)(l:c.length<=4096)(A:Xa c)(u:Kinds c ms)(hz:gk ms.length (2^n))(z:ms.length<=3000)(B:aK es)(m:es.length<=4096)(v:os=[4]++cX (brk ds 0) lows++WP c ms n++gQ es):
  Hb (os.drop 1)/\Xb (os.drop 1)=ds/\wV (Xh os) (hO (kdN (Xh os)))/\XH os=c/\Gw (YJ os)/\bK (YJ os)=es:=by
 have g:=eN ds 0;have H:=iz i;have F:os.drop 1=frB 2 (brk ds 0) ((WD (brk ds 0) (many (brk ds 0).length)).flatMap (λx=>aU x 2)++(lows.flatMap (λx=>aU x 2)++(WP c ms n++gQ es))):=by
  rw[v];unfold cX frB;simp
 obtain⟨s,d⟩:=pX (t:=2) (rest:=(WD (brk ds 0) (many (brk ds 0).length)).flatMap (λx=>aU x 2)++(lows.flatMap (λx=>aU x 2)++(WP c ms n++gQ es))) g ⋯;rw[<-F]at s d;have o:Xb (os.drop 1)=ds:=by
  unfold Xb;rw[d,z9 i]
 have b:Xh os=WP c ms n++gQ es:=by
  unfold Xh;have e:tln (bK (os.drop 1)).length=(cX (brk ds 0) lows).length:=by
   rw[d,dj g,k.len];rfl
  rw[e,v,af5,af5];show ((4:Int)::(cX (brk ds 0) lows++(WP c ms n++gQ es))).drop (1+_)=_;rw[ah0,aiZ,ahx rfl]
 obtain⟨_,E,D,C⟩:=Az (gQ es) l A u hz z;have y:hO (kdN (Xh os))=n:=by
  rw[b,E];exact Dr hz
 have f:XH os=c:=by
  unfold XH;rw[y,b,C]
 have p:YJ os=gQ es:=by
  unfold YJ sln;rw[f,M8 u,Dr hz,b,ahx rfl]
 have j:gQ es=frB 1 es ((WD es (many es.length)).flatMap (λx=>aU x 2)):=by
  unfold gQ frB;simp
 obtain⟨r,q⟩:=pX (t:=1) (rest:=(WD es (many es.length)).flatMap (λx=>aU x 2)) B m;rw[<-j,<-p]at r q;refine((s,by rw[d];lia,by rw[d];exact qC i),o,2,f,r,q);rw[y,b];exact D
def uw(x:Str):Prop:=∀c∈x.cps.toList,97<=c/\c<=122
theorem add_list(x y:Str):(x++y).cps.toList=x.cps.toList++y.cps.toList:=by
 show (x.cps++y.cps).toList=_;exact agq
theorem uw.add{x y:Str}(h:uw x)(h':uw y):uw (x++y):=λc b=>by
 rw[add_list]at b;rcases aaG.mp b with b|b
 ·exact h c b
 ·exact h' c b
theorem uw.cut{x:Str}(h:uw x)(lo d:Option Int):uw (qz x lo d):=λc b=>by
 unfold qz at b;rw[aio]at b;exact h c (ago (agt b))
theorem W0.cut{x:Str}(h:W0 x)(lo b:Option Int):W0 (qz x lo b):=(agx (ug _ _ _) h.1,uw.cut h.2 lo b)
def Rr(x:Str):Prop:=∀c∈x.cps.toList,c<=127
theorem W0.asc{x:Str}(h:W0 x):Rr x:=λc b=>by
 have:=(h.2 c b).2;lia
theorem Rf{w:Str}(h:Rr w):PyData.strOk w=true:=by
 unfold PyData.strOk;rw[Array.all_eq_true'];intro x b;have:=h x (by simpa using b);exact decide_eq_true ⋯
theorem ul:∀ws:List Str,(∀w∈ws,Rr w)->PyData.canLayAll0 (ws.map PyData.str)=true
 |[],_=>rfl
 |v::r,h=>by
  rw[aax];simp only[PyData.canLayAll0,PyData.canLay0,ul r λw b=>h w (aai _ b),Rf (h v aal),ajG]
theorem wI:∀ws:List Str,PyData.depthAll (ws.map PyData.str)<=1
 |[]=>by simp[PyData.depthAll]
 |_::r=>by
  have:=wI r;rw[aax];simp only[PyData.depthAll,PyData.depth];lia
theorem wX{H:Hp}:∀ws:List Str,jm K H (ws.map V.str) (ws.map PyData.str)
 |[]=>.nil
 |b::r=>.cons (.str b) (wX r)
theorem J8{ws:List Str}(c:∀w∈ws,Rr w):SeqAt.shaped (.list (ws.map PyData.str))=true/\PyData.eqv (.list (ws.map PyData.str)) (.list (ws.map PyData.str))=true:=by
 have d:=wI ws;have b:(PyData.list (ws.map PyData.str)).canLay0=true:=by
  simp only[PyData.canLay0,ul ws c]
 refine(2,SeqAt.eqv_refl _ b);unfold SeqAt.shaped;rw[b,aiH];refine decide_eq_true ?_;simp only[PyData.depth];lia
theorem KR{b:List (Key×V)}(h:b.map (·.1)=N.map Sum.inr)(t:Str)(v:V):(putK b (Sum.inr t) v).map (·.1)=(if t∈N then N else N++[t]).map Sum.inr:=by
 have d:(gK b (Sum.inr t)).isSome=decide (t∈N):=by
  rw[<-gW];have:∀(b:List (Key×V)) (N:List Str),b.map (·.1)=N.map Sum.inr->(b.any λf=>decide (f.1=Sum.inr t))=decide (t∈N):=by
   intro b
   induction b with
   |nil=>
    intro N h;cases N with
    |nil=>rfl
    |cons _ _=>cases h
   |cons p b g=>
    intro N h;cases N with
    |nil=>cases h
    |cons a N=>
     rw[aax,aax]at h;injection h with k j
     rw[aiG,g N j,k];by_cases e:a=t
     ·subst e;rw[decide_eq_true rfl,ajK];exact(decide_eq_true aal).symm
     ·rw[decide_eq_false (λz=>e (Sum.inr.inj z)),ajC];exact decide_eq_decide.mpr (λz=>aai _ z,λz=>by rcases aav.mp z with z|z;exact absurd z.symm e;exact z)
  exact this b N h
 by_cases c:t∈N
 ·rw[if_pos c];rw[decide_eq_true c]at d;unfold putK;rw[gW,d,if_pos rfl,agC,<-h];refine agR λp _=>?_;show (if p.1=Sum.inr t then (pq p.1 v)else p).1=p.1;split<;>rfl
 ·rw[if_neg c];rw[decide_eq_false c]at d;have i:gK b (Sum.inr t)=none:=by
   cases e:gK b (Sum.inr t)with
   |none=>rfl
   |some x=>rw[e]at d;cases d
  rw[Ej v i,aag,h,aag];rfl
inductive Er(K:PySem.W.Frag)(vs:List V)(H:Hp)(Q:VK)(_e1:XK):Prop
 | mk (p:Addr) (zs:List Int) (_:vs=[.ref p]) (_:My K H p !!zs) (_:zs.length<=63) (_:∀r H' ns,H r=none->aM H H'->H' r=some (.lst !!ns)->aK ns->ns.length<=756->Q (.ref r) H')
theorem Ez(T:Tx K mg a):bc P w K mg base Wt 1 a.aem a.adG ["_law_script"] (Er K):=by
 refine T.aey.F.Wv eG λa0 A R s H vs Q E hr h=>?_;obtain⟨p,t,rfl,hS,hl,q⟩:=h;refine(_,(ao (aC 1 eG.nd (bM aj))
  (ao (bA PassesOwn.never rfl (bJ (bF cI (pv 0) cH (bH aA))) (aR 2 eG.nd) (ao (aC 3 eG.nd (aD bL (aD bG (pv 2) aA) aA))
  (ao (aC 4 eG.nd (aD gj (pv 3) aA))
  (aB (bA PassesOwn.never rfl (dh rfl T.XD (au (aD bj aA (aD bL (aD gj (pv 3) aA) aA)) aj)) (aR 5 eG.nd) (ao (bC (fD PySem.F.plainAttrs_list PySem.F.slot_list_append PySem.F.type_list_append bZ (pv 1) (au (aD bL (pv 4) aA) aj)))
  (aB (bx (aO dm (aD bL (pv 3) aA) aA) (aB (aC 4 eG.nd (aD gj (pv 4) aA))) aQ))))))))
  (aB (aG (pv 1))))),2)
 refine(sl0,λr g=>?_);refine(8,p,9,(aq g _).seq hS,λc X=>(c,7,(_,My.of aa),2));have ez:dR ‹t› none (some 63)=t.map V.int:=by
  rw[show (63:Int)=((63:Nat):Int)from rfl,oM,aaj hl]
 rw[ez]at *;have S:r≠c:=aH aa X;refine bV (xs:=t.map V.int) (λi l d=>(∃L J I G,l=[!!!p,!!!r,L,J,I,G])/\aM H d/\d c=some (.lst !!t) /\ ∃b,d r=some (.lst !!b)/\aK b/\b.length<=12*i) ?_ ?_ ?_ ?_
 ·refine((3,3,3,3,7),(aq g _).trans (aq X _),aa,[],2,λx v=>by simp at v,by simp);rw[aJ S,aa];rfl
 ·rintro i l d _ ⟨_,_,h,_⟩;exact My.of h
 ·rintro i x l d v ⟨⟨L,J,I,G,rfl⟩,D,B,b,m,M,W⟩;obtain⟨z,Z,rfl⟩:=int_at v;have hi:=(aad.mp Z).1;exists 9,5,.inr (4,4),5,(by show (0:Int)<2147483647;decide);exists 9,5,(4,4);exists 9,5,(4,4),5,(by show (0:Int)<12;decide),5,9,2,?_
  ·lia
  ·lia
  refine eY (λj l d=>(∃e k,l=[!!!p,!!!r,!!!!z,some (.int (z*48271%2147483647)),!!!!e,k])/\aM H d/\d c=some (.lst !!t) /\
   ∃b,d r=some (.lst !!b)/\aK b/\b.length<=12*i+j) ?_ ?_ ?_
  ·exact((_,9),D,B,b,m,M,6)
  ·rintro j l C hj ⟨⟨e,k,rfl⟩,N,n,u,f,o,O⟩;have Y:j<12:=by lia
   exists 9,.inl (7,_,My.of f),9,5,(by show (0:Int)<2;decide),r,5,f,?_
   ·rw[aaa];exact small ⋯
   ·have next:∀y U,((∃e k,[some (V.ref p),!!!r,!!!!z,some (.int (z*48271%2147483647)),!!!!y,U]=[!!!p,!!!r,!!!!z,some (.int (z*48271%2147483647)),!!!!e,k]) /\
      aM H (upd C r (.lst (u.map V.int++[.int (e%2)])))/\(upd C r (.lst (u.map V.int++[.int (e%2)]))) c=some (.lst !!t) /\
      ∃b,(upd C r (.lst (u.map V.int++[.int (e%2)]))) r=some (.lst !!b)/\aK b/\b.length<=12*i+(j+1)):=λy U=>by
     exists (_,9),aZ N g _,by rw[aJ (agA S)];exact n,u++[e%2],2,xO o λx v=>?_
     ·rw[aa,aag];rfl
     ·rw[aan.mp v];lia
     ·rw[aac,agu];lia
    refine(9,5,(by show (0:Int)<2;decide),7,9,fB (λ_=>?_) λ_=>next _ _);exact(9,5,(4,4),next _ _)
  ·rintro l C ⟨⟨e,k,rfl⟩,N,n,u,f,o,O⟩;exact((1,_,9),N,n,u,f,o,6)
 ·rintro l d ⟨⟨L,J,I,G,rfl⟩,D,B,b,m,M,W⟩;rw[aaa]at W;exact(9,q r d b g D m M ⋯)
inductive Jx(K:PySem.W.Frag)(vs:List V)(H:Hp)(Q:VK)(_e1:XK):Prop
 | mk (p:Addr) (zs:List Int) (_:vs=[.ref p]) (_:My K H p !!zs) (_:zs.length<=63) (_:∀(r:Addr) (H':Hp) (ds:List Int),H r=none->aM H H'->H' r=some (.lst !!ds)->bW ds->ds.length<=379->Q (.ref r) H')
theorem xH(T:Tx K mg a):bc P w K mg base Wt 1 a.ac6 a.acy ["_law_script"] (Jx K):=by
 refine T.adh.F.Wv bT λb4 A a5 s H vs Q E hr h=>?_;obtain⟨p,J,rfl,hS,hl,q⟩:=h;refine(_,(ao (aC 1 bT.nd (bM (au aA aj)))
  (ao (bA PassesOwn.never rfl (bJ (bF cI (pv 0) cH (bH aA))) (aR 2 bT.nd) (ao (aC 3 bT.nd (aD bL (aD bG (pv 2) aA) aA))
  (ao (aC 4 bT.nd (aD bL (aD gj (pv 3) aA) (aD bj (bD dI (pv 1) (oH jD aA)) aA)))
  (aB (bA PassesOwn.never rfl (dh rfl T.XD (au (aD bj aA (aD bL (aD gj (pv 3) aA) aA)) aj)) (aR 5 bT.nd) (ao (aC 6 bT.nd (aD bj (pv 4) aA))
  (ao (bx (aO dm (aD bL (pv 3) aA) aA) (aB (aC 6 bT.nd (aD bj (aD bj (pv 4) aA) (pv 5)))) aQ)
  (ao (bx (aO dm (aD bL (pv 3) aA) aA) (aB (aC 6 bT.nd (aD bj (aD bj (pv 4) aA) (aD bL (pv 5) aA)))) aQ)
  (ao (bx (aO dm (aD bL (pv 3) aA) aA) (aB (aC 6 bT.nd (aD bj aA (aD bL (aD bL (aD bG (aD bG (pv 3) (aD bj (aD bG aA (pv 5)) aA)) aA) aA) (aD bj (bD dI (pv 1) (oH jD aA)) aA))))) aQ)
  (aB (bC (fD PySem.F.plainAttrs_list PySem.F.slot_list_append PySem.F.type_list_append bZ (pv 1) (Wn 6 aj)))))))))))))
  (aB (aG (pv 1))))),2)
 refine(sl1,λr t=>?_);refine(8,p,9,(aq t _).seq hS,λc hc=>(c,7,(_,My.of aa),2));have ez:dR ‹J› none (some 63)=J.map V.int:=by
  rw[show (63:Int)=((63:Nat):Int)from rfl,oM,aaj hl]
 rw[ez]at *;have ne:r≠c:=aH aa hc;refine bV (xs:=J.map V.int) (λi g I=>(∃(Z Y X W B:Option V),g=[!!!p,!!!r,Z,Y,X,W,B])/\aM H I/\I c=some (.lst !!J) /\ ∃(l:List Int) (k:Int),I r=some (.lst ‹l++[k]›)/\bW (l++[k])/\0<=k/\l.length+1<=6*i+1) ?_ ?_ ?_ ?_
 ·refine((3,3,3,3,3,7),(aq t _).trans (aq hc _),aa,[],0,2,bW.root,4,4);rw[aJ ne,aa];rfl
 ·rintro i g I _ ⟨_,_,h,_⟩;exact My.of h
 ·rintro i x g I hx ⟨⟨Z,Y,X,W,B,rfl⟩,S,N,l,k,o,hg,y,hn⟩;obtain⟨z,hz,rfl⟩:=int_at hx;have a1:W7 ‹l++[k]› (-1)=some (.int k):=by
   rw[aag];exact mL _ _
  exists 9,5,.inr (4,4),5,(by show (0:Int)<2147483647;decide);show eZ 3 (.int (z*48271%2147483647)) _ _ _;generalize z*48271%2147483647=y9 at *;have hi:=(aad.mp hz).1;exists 9,5,(4,4),8,r,_,5,My.of o,a1,5,5,(by show (0:Int)<k+1;omega);have b0:=ahj (y9 / 24) (show k+1≠0 by omega);have b1:=ag9 (y9 / 24) (show (0:Int)<k+1 by omega);have a6:‹l++[k]›.length=l.length+1:=by
   rw[aaa,aac];rfl
  exists 9,5,(4,4),5,(by show (0:Int)<6;decide),5,9,2,?_
  ·omega
  ·omega
  refine eY (λj g G=>(∃(b:Int) (B U:Option V),g=[!!!p,!!!r,!!!!z,some (.int (y9)),!!!!b,B,U]/\0<=b/\aM H G/\G c=some (.lst !!J) /\ ∃(u:List Int) (d:Int),G r=some (.lst ‹u++[d]›)/\bW (u++[d])/\0<=d/\u.length=l.length+j/\(y9%4≠3->b<=d)/\(y9%4=1->b+(j:Int)<=d)/\(y9%4=2->1<=j->b+1<=d))) ?_ ?_ ?_
  ·exact(1,9,b0,S,N,l,k,o,hg,y,7,λ_=>by omega,λ_=>by omega,λ_ z=>by omega)
  ·rintro j g G hj ⟨b,B,U,rfl,M,C,D,u,d,L,Xf,v,a3,g0,g1,g2⟩;have b2:j<6:=by omega
   have a0:W7 ‹u++[d]› (-1)=some (.int d):=by
    rw[aag];exact mL _ _
   exists 9,5;exists 9,5,(by show (0:Int)<4;decide),7,9;refine uP (λ g H4=>H4=G /\ ∃f:Int,g=[!!!p,!!!r,!!!!z,some (.int (y9)),!!!!b,some (.int (0+(j:Int))),!!!!f]/\((y9%4=1/\f=b+1+(j:Int))\/(y9%4≠1/\f=b+1))) (λn=>(7,9,.inr (λe=>n (decide_eq_true (congrArg V.int e)),7))) ?_ (λe m=>?_)
   rotate_left
   ·have e:V.int (y9%4)=V.int 1:=of_decide_eq_true e;injection e with e
    exact(9,5,9,5,m _ _ (7,9,.inl (e,by omega)))
   rintro a9 H4 ⟨rfl,f,rfl,b3⟩;exists 9,5,(by show (0:Int)<4;decide),7,9;refine uP (λ g H5=>H5=H4 /\ ∃f:Int,g=[!!!p,!!!r,!!!!z,some (.int (y9)),!!!!b,some (.int (0+(j:Int))),!!!!f]/\((y9%4=1/\f=b+1+(j:Int))\/(y9%4=2/\f=b+1+(j:Int)%2)\/(y9%4≠1/\y9%4≠2/\f=b+1))) (λn=>(7,f,7,2)) ?_ (λe m=>?_)
   ·have n2:y9%4≠2:=λe=>n (decide_eq_true (congrArg V.int e));omega
   rotate_left
   ·have e:V.int (y9%4)=V.int 2:=of_decide_eq_true e;injection e with e
    exact(9,5,9,5,(by show (0:Int)<2;decide),5,m _ _ (7,9,.inr (.inl (e,by rw[aiy]))))
   rintro a8 H5 ⟨rfl,a4,rfl,R⟩;exists 9,5,(by show (0:Int)<4;decide),7,9;refine uP (λ g H6=>H6=H5 /\ ∃f:Int,g=[!!!p,!!!r,!!!!z,some (.int (y9)),!!!!b,some (.int (0+(j:Int))),!!!!f]/\1<=f/\f<=d+1/\(y9%4≠3->b+1<=f)/\(y9%4=1->f=b+1+(j:Int))) (λn=>(7,a4,7,2)) ?_ (λe m=>?_)
   ·have n3:y9%4≠3:=λe=>n (decide_eq_true (congrArg V.int e));have:=g0 n3;have a2:j=0\/1<=j:=by omega
    refine(by omega,2,by omega,by omega);rcases R with ⟨e,rfl⟩|⟨e,rfl⟩|⟨_,_,rfl⟩
    ·have:=g1 e;omega
    ·rcases a2 with rfl|h
     ·omega
     ·have:=g2 e h;omega
    ·omega
   rotate_left
   ·have e:V.int (y9%4)=V.int 3:=of_decide_eq_true e;injection e with e
    have c0:=ahj (y9*(2*(0+(j:Int))+3)*69621%2147483629) (show d+1≠0 by omega);have c1:=ag9 (y9*(2*(0+(j:Int))+3)*69621%2147483629) (show (0:Int)<d+1 by omega);exists 8,5,.inl (4,4),5,5,.inr (by omega,by omega),5,.inr (4,4),5,(by show (0:Int)<2147483629;decide),8,r,_,5,My.of L,a0,5,5,(by show (0:Int)<d+1;omega),5;exact m _ _ (7,1+y9*(2*(0+(j:Int))+3)*69621%2147483629%(d+1),7,by omega,by omega,λn=>absurd e n,λn=>by omega)
   rintro a7 H6 ⟨rfl,O,rfl,d1,d2,d3,d4⟩;exists 9,.inl (7,_,My.of L),9,r,5,L,?_
   ·rw[aaa,aac,agu,sizeLine_eq];omega
   refine(b,_,9,M,aZ C t _,2,u++[d],O,2,Xf.snoc (by simp) d1 d2,by omega,2,λn=>?_,λn=>?_,λn _=>?_)
   ·rw[aJ (agA ne)];exact D
   ·rw[aa,aag (l₂:=[O])];rfl
   ·rw[aac,agu];omega
   ·have:=d3 n;omega
   ·have:=d4 n;omega
   ·have:=d3 (by omega);omega
  ·rintro g G ⟨b,B,U,rfl,M,C,D,u,d,L,Xf,v,a3,g0,g1,g2⟩;exact((1,1,9),C,D,u,d,L,Xf,v,by omega)
 ·rintro g I ⟨⟨Z,Y,X,W,B,rfl⟩,S,N,l,k,o,hg,y,hn⟩;refine(9,q r _ (l++[k]) t S o hg ?_);rw[aac,agu];rw[aaa]at hn;omega
theorem O8{ns:List Int}(h:Xa ns)(hz : -(10:Int)^60<g/\g<10^60):Xa (ns++[g]):=λx b=>by
 rcases aaG.mp b with b|b
 ·exact h x b
 ·rw[aan.mp b];exact hz
theorem Qq{b U A:Prop}[Decidable b]{i:Nat}{g0:Int}{σ:St}(P:Int->Prop)(d:P g0)(e:σ[i]?=some (!!!!g0))(h:∀g,P g->Y.nx (σ.set i (!!!!g)) H)(f:b->(∀g,P g->Y.nx (σ.set i (!!!!g)) H)->Y.nx σ H->U):if b then U else (if false=true then A else Bw Y σ H):=by
 have n:=h g0 d;rw[Dh e]at n;exact QG n λc n=>f c h n
def Z9(z:Int):Prop:=-(10:Int)^60<z/\z<10^60
inductive Lj(K:PySem.W.Frag)(vs:List V)(H:Hp)(Q:VK)(_e1:XK):Prop
 | mk (s:Addr) (zs:List Int) (_:vs=[.ref s]) (_:My K H s !!zs) (_:zs.length<=63) (_:∀r H' ns,H r=none->aM H H'->H' r=some (.lst !!ns)->Xa ns->ns.length<=900->Q (.ref r) H')
theorem zN(T:Tx K mg a):bc P w K mg base Wt 1 a.adH a.ac7 ["_law_script"] (Lj K):=by
 refine T.adU.F.Wv cR λa1 A S s H vs Q E hr h=>?_;obtain⟨C,v,rfl,hS,Z,q⟩:=h;refine(_,(ao (aC 1 cR.nd (bM aj))
  (ao (bA PassesOwn.never rfl (bJ (bF cI (pv 0) cH (bH aA))) (aR 2 cR.nd) (ao (aC 3 cR.nd (aD bL (aD bG (pv 2) aA) aA))
  (aB (bA PassesOwn.never rfl (dh rfl T.XD (au (aD bj aA (aD bL (aD gj (pv 3) aA) aA)) aj)) (aR 4 cR.nd) (ao (aC 5 cR.nd (aD dF (aD bL (aD bL (aD bG (aD bG (pv 3) (aD bj (aD bG aA (pv 4)) aA)) aA) aA) aA) aA))
  (ao (bx (aO dm (aD bL (pv 3) aA) aA) (aB (aC 5 cR.nd (aD bj (aD dF (aD bL (aD bG (aD bj (pv 2) (aD bG (pv 4) (pv 4))) aA) (aD dF (aD bG aA (aD rG aA aA)) aA)) (aD rG aA aA)) aA))) aQ)
  (ao (bx (PW.pt (mR (aO dm (aD bL (pv 3) aA) aA) (kI (aO qK (aL aN rfl T.WF Tw.bB (Wn 1 aj)) aA)))) (aB (aC 5 cR.nd (bD dI (pv 1) (aD gj (aL aN rfl T.WF Tw.bB (Wn 1 aj)) aA)))) aQ)
  (aB (bC (fD PySem.F.plainAttrs_list PySem.F.slot_list_append PySem.F.type_list_append bZ (pv 1) (Wn 5 aj)))))))))))
  (aB (aG (pv 1))))),2)
 refine(sl0,λr t=>?_);have U:=aq t (.lst []);refine(8,C,9,U.seq hS,λc J=>(c,7,(_,My.of aa),2));have ez:dR ‹v› none (some 63)=v.map V.int:=by
  rw[show (63:Int)=((63:Nat):Int)from rfl,oM,aaj Z]
 rw[ez]at *;have W:=U.trans (aq J (.lst !!v));have M:c≠r:=(aH aa J).symm;refine bV (xs:=v.map V.int) (λi l e=>∃(G D p o:Option V) (b:List Int),l=[!!!C,!!!r,G,D,p,o]/\aM H e/\e c=some (.lst !!v)/\e r=some (.lst !!b)/\Xa b/\b.length<=4*i) (3,3,3,3,[],7,W,aa,aq J _ _ _ aa,λz I=>(by cases I),af3 _) ?_ ?_ ?_
 ·rintro i l e _ ⟨_,_,_,_,_,_,_,h,_⟩;exact My.of h
 ·rintro i x l e Y ⟨G,D,p,o,b,rfl,m,y,f,d,g⟩;obtain⟨z,I,rfl⟩:=int_at Y;have hi:=(aad.mp I).1;exists 9,5,.inr (4,4),5,(by show (0:Int)<2147483647;decide);have n0:=ahj (z*48271) (show (2147483647:Int)≠0 by decide);have n1:=ag9 (z*48271) (show (0:Int)<2147483647 by decide);show eZ 3 (.int (z*48271%2147483647)) _ _ _;generalize z*48271%2147483647=n at *;refine(9,5,(4,4),5,(by show (0:Int)<3;decide),5,1+n / 4%3,7,6,6,2);refine eY (λj l e=>∃(p o:Option V) (b:List Int),l=[!!!C,!!!r,!!!!z,!!!!n,p,o]/\aM H e/\e c=some (.lst !!v)/\e r=some (.lst !!b)/\Xa b/\b.length<=4*i+j) (1,b,7,m,y,f,d,g) ?_ ?_
  ·rintro j l e hj ⟨p,o,b,rfl,m,y,f,d,g⟩;have L:‹b›.length=b.length:=aaa ..;have a0:j<4:=by lia
   exists 8,5,.inl (4,4),5,5,.inl (6,6),5,.inr (4,4),5,(by show (0:Int)<2147483629;decide),5,(by show (0:Int)<41;decide),5;show eZ 5 (.int (n*(2*(0+(j:Int))+3)*69621%2147483629%41-20)) _ _ _;have O:Z9 (n*(2*(0+(j:Int))+3)*69621%2147483629%41-20):=by
    generalize n*(2*(0+(j:Int))+3)*69621%2147483629=u;unfold Z9;lia
   generalize n*(2*(0+(j:Int))+3)*69621%2147483629%41-20=g0 at *;exists 9,5,(by show (0:Int)<4;decide),7,9;refine Rj (i:=5) (g0:=g0) Z9 O rfl (λg2 N=>?_) (λ_ k=>?_)
   rotate_left
   ·refine(8,9,5,.inl (6,6),5,5,.inr (4,4),5,(4,4,4),5,.inl (4,4),5,5,(by show (0:Int)<2*10^60-1;decide),5,(4,4,4),5,5,k _ ?_);show Z9 ((z+(0+(j:Int))*(0+(j:Int)))*982451653%(2*10^60-1)-10^60+1);generalize (z+(0+(j:Int))*(0+(j:Int)))*982451653=u;unfold Z9;lia
   exists 9,5,(by show (0:Int)<4;decide),7,9;refine Qq (i:=5) (g0:=g2) Z9 N rfl (λg3 Xf=>?_) (λ_ k X=>(9,r,9,.inl (My.of f),5,9,fB (λc=>?_) λ_=>X))
   rotate_left
   ·have c:(0:Int)<(‹b›.length:Int):=of_decide_eq_true c;rw[L]at c;have B:b.length / 2<b.length:=by lia
    have R:W7 ‹b› ((‹b›.length:Int) / 2)=some (.int b[b.length / 2]):=by
     rw[L,show ((b.length:Int) / 2)=((b.length / 2:Nat):Int) by lia];exact uJ (aab B)
    exact(8,r,9,.inl (My.of f),5,(4,4),r,_,5,My.of f,R,k _ (d _ (age B)))
   exists 9,.inl (7,_,My.of f),9,r,5,f,?_
   ·rw[L,sizeLine_eq];lia
   exists 1,b++[g3],7,aZ m t _,by rw[aJ M];exact y,2,O8 d Xf
   ·rw[aa,aag];rfl
   ·rw[aac,agu];lia
  ·rintro l e ⟨p,o,b,rfl,m,y,f,d,g⟩;exact(1,1,b,7,m,y,f,d,6)
 ·rintro l e ⟨G,D,p,o,b,rfl,m,y,f,d,g⟩;rw[aaa]at g;exact(9,q r _ b t m f d ⋯)
theorem LR(w:Str)(m k:Nat):beg (beg w m) k=beg w (min k m):=dJ (by rw[bu,bu,bu,ahq])
theorem QD(x:Str)(c k:Nat):beg (x++(⟨#[c]⟩:Str)) k=beg x k\/beg (x++(⟨#[c]⟩:Str)) k=x++(⟨#[c]⟩:Str):=by
 rcases agc x.length k with z|z
 ·exact .inr (qQ _ (by rw[pW];lia))
 ·refine .inl (dJ ?_);rw[bu,bu,rB,ahc (by rw[aaf];exact z)]
inductive Oc(K:PySem.W.Frag)(vs:List V)(H:Hp)(Q:VK)(_e1:XK):Prop
 | mk (s:Addr) (zs:List Int) (_:vs=[.ref s]) (_:My K H s !!zs) (_:∀(r:Addr) (ws:List Str) (H':Hp),H r=none->aM H H'->H' r=some (.lst (ws.map V.str))->(∀w∈ws,W0 w)->ws.Nodup->ws.length<=63->yd ws 2048->Q (.ref r) H')
theorem Ar(T:Tx K mg a):bc P w K mg base Wt 1 a.adI a.ac8 ["_law_script"] (Oc K):=by
 refine T.adV.F.Wv cJ λb2 A a6 s H vs Q E hr h=>?_;obtain⟨sa,M,rfl,hS,q⟩:=h;refine(_,(ao (aC 1 cJ.nd dH)
  (ao (aC 2 cJ.nd vB)
  (ao (aC 3 cJ.nd dH)
  (ao (bA PassesOwn.never rfl (bJ (bF cI (pv 0) cH (bH aA))) (aR 4 cJ.nd) (ao (aC 5 cJ.nd (aD bL (aD bG (pv 4) aA) aA))
  (ao (aC 3 cJ.nd (bF Ho (pv 3) cH (bH (aD bL (aD gj (pv 5) aA) (aD bj (aL eU rfl T.WF Tw.bB (Wn 3 aj)) aA)))))
  (ao (bA PassesOwn.never rfl (dh rfl T.XD (au (aL (rm rfl) rfl T.afz Tw.z8 (au (aD bL (pv 5) aA) (au (aD dF aA (aL eU rfl T.WF Tw.bB (Wn 3 aj))) aj))) aj)) (aR 6 cJ.nd) (aB (aC 3 cJ.nd (aD vX (pv 3) (bD Fl (pv 1) (aD bL (aD bL (aD bG (aD bG (pv 5) (aD bj (aD bG aA (pv 6)) aA)) aA) aA) aA))))))
  (aB (Aa (ag4 (ahG (by decide:1<=64) _) hr.units) (pv 2) (pv 3) cT rfl))))))
  (aB (aG (bY (wR rfl) rfl T.X8 Tw.dM (Wn 2 aj)))))))),2)
 intro N X;have s1:=aq X (.dK []);refine(8,sa,9,s1.seq hS,λc B=>(c,7,(_,My.of aa),2));have R:c≠N:=(aH aa B).symm;have a3:dR ‹M› none (some 63)=(M.take 63).map V.int:=oM M 63;rw[a3];have s2:=s1.trans (aq B (.lst ‹M.take 63›));refine bV (xs:=(M.take 63).map V.int) (λi u D=>∃(k4 k5 y:Option V) (o:List Str) (f:Str) (d:List (Key×V)) (U:List Str),u=[!!!sa,some (.str letters),!!!N,some (.str f),k4,k5,y]/\aM H D/\D c=some (.lst ‹M.take 63›)/\D N=some (.dK d)/\d.map (·.1)=o.map Sum.inr/\o.Nodup/\(∀w∈o,W0 w)/\o.length<=i/\W0 f/\U.length<=1+3*i/\⟨#[]⟩∈U/\(∀w∈o,∀k,beg w k∈U) /\ ∀k,beg f k∈U) (3,3,3,[],⟨#[]⟩,[],[⟨#[]⟩],7,s2,aa,by rw[aJ R.symm];exact aa,7,List.nodup_nil,nofun,aae _,(af3 _,λc B=>by cases B),aae _,agD _,nofun,λk=>by rw[Bd];exact agD _) ?_ ?_ ?_
 ·rintro i u D _ ⟨_,_,_,_,_,_,_,_,_,h,_⟩;exact My.of h
 ·rintro i x u D hx ⟨k4,k5,y,o,f,d,U,rfl,sm,xc,xk,t,nd,hW,hl,Yp,I,L,J,Y⟩;obtain⟨z,hz,rfl⟩:=int_at hx;have hi:=(aad.mp hz).1;have a7:i<63:=by
   rw[aaq]at hi;lia
  exists 9,5,.inr (4,4),5,(by show (0:Int)<2147483647;decide);have n0:=ahj (z*48271) (show (2147483647:Int)≠0 by decide);have n1:=ag9 (z*48271) (show (0:Int)<2147483647 by decide);show eZ 5 (.int (z*48271%2147483647)) _ _ _;generalize z*48271%2147483647=n at *;have S:f.length<=sizeLine:=by rw[sizeLine_eq];have:=Yp.1;lia
  exists 8,5,(4,4),9,f,7,S,5,5,(by show (0:Int)<(f.length:Int)+1;lia),9,f,7,S;obtain⟨m,hm⟩:∃m:Nat,n / 40%((f.length:Int)+1)=(m:Int):=(_,(aiq (ahj _ ⋯)).symm);show eZ 3 (.str (qz f none (some (n / 40%((f.length:Int)+1))))) _ _ _;rw[hm,uK];have r:W0 (beg f m):=by
   rw[<-uK];exact Yp.cut none (some (m:Int))
  have a2:∀k,beg (beg f m) k∈U:=λk=>by
   rw[LR];exact Y _
  generalize beg f m=C at *;have Z:C.length<=sizeLine:=by rw[sizeLine_eq];have:=r.1;lia
  have b1:=r.1;obtain⟨O,a5,a9,b0⟩:∃O:Nat,(if 40-(C.length:Int)<n%4 then 40-(C.length:Int)else n%4)=(O:Int)/\C.length+O<=40/\O<=3:=by
   split
   ·exact((40-(C.length:Int)).toNat,6,6,6)
   ·exact((n%4).toNat,6,6,6)
  refine(9,5,(by show (0:Int)<4;decide),9,C,7,Z,5,_,9,(O:Int),(by rw[<-a5]),6,6,2);rw[aaz];refine eY (λj u H3=>∃(x:Str) (y:Option V) (U:List Str),u=[!!!sa,some (.str letters),!!!N,some (.str x),!!!!z,!!!!n,y]/\H3=D/\x.length=C.length+j/\uw x/\U.length<=1+3*i+j/\⟨#[]⟩∈U/\(∀w∈o,∀k,beg w k∈U) /\ ∀k,beg x k∈U) (C,y,U,7,7,7,r.2,I,L,J,a2) ?_ ?_
  ·rintro j u H3 hj ⟨x,y,U,rfl,rfl,YM,G,u1,u2,u3,u4⟩;have a0:=ahj (n*(2*(0+(j:Int))+3)*69621%2147483629) (show (26:Int)≠0 by decide);have a1:=ag9 (n*(2*(0+(j:Int))+3)*69621%2147483629) (show (0:Int)<26 by decide);obtain⟨e,ee,he⟩:∃e:Nat,n*(2*(0+(j:Int))+3)*69621%2147483629%26=(e:Int)/\e<26:=by
    generalize n*(2*(0+(j:Int))+3)*69621%2147483629%26=v at *;exact(v.toNat,6,6)
   clear a0 a1
   have a4:W7 letters.cps.toList (n*(2*(0+(j:Int))+3)*69621%2147483629%26)=some (97+e):=by
    rw[ee];exact lC (tH e he)
   clear ee
   refine(8,8,5,.inl (4,4),5,5,.inl (6,6),5,.inr (4,4),5,(by show (0:Int)<2147483629;decide),5,(by show (0:Int)<26;decide),letters,_,97+e,7,7,4,a4,x,⟨#[97+e]⟩,7,7,2,x++⟨#[97+e]⟩,_,U++[x++⟨#[97+e]⟩],7,7,2,G.add λc B=>?_,2,agj _ u2,λw g k=>agj _ (u3 w g k),λk=>?_)
   ·rw[sizeLine_eq];show x.length+1<=_;lia
   ·rw[pW,YM];rfl
   ·have B:c∈[97+e]:=B;rw[aan.mp B];lia
   ·rw[aac,agu];lia
   ·rcases QD x (97+e) k with z|z
    ·rw[z];exact agj _ (u4 k)
    ·rw[z];exact aau _ (agD _)
  ·rintro u H3 ⟨x,y,U,rfl,rfl,YM,G,u1,u2,u3,u4⟩;have hx:W0 x:=(6,G);have a8:d.length<=63:=by
    have:=congrArg ahY t;rw[aaa,aaa]at this;lia
   exists 8,N,9,.inl (d,Sum.inr x,xk,7,by rw[sizeLine_eq];lia,7);refine(1,_,if x∈o then o else o++[x],x,putK d (Sum.inr x) (.bl true),U,7,aZ sm X _,by rw[aJ R];exact xc,aa,KR t x _,2,2,2,hx,6,u2,2,u4)
   ·split
    ·exact nd
    ·rename_i hn;refine ajd.mpr (nd,List.pairwise_singleton _ _,λa ha b hb e=>?_);rw[aan.mp hb]at e;exact hn (e ▸ ha)
   ·split
    ·exact hW
    ·intro w g;rcases aaG.mp g with g|g
     ·exact hW w g
     ·rw[aan.mp g];exact hx
   ·split
    ·lia
    ·rw[aac,agu];lia
   ·split
    ·exact u3
    ·intro w g;rcases aaG.mp g with g|g
     ·exact u3 w g
     ·rw[aan.mp g];exact u4
 ·rintro u D ⟨k4,k5,y,o,f,d,U,rfl,sm,xc,xk,t,nd,hW,hl,Yp,I,L,J,Y⟩;rw[aaa,aaq]at hl I;refine(9,N,d,7,xk,λl W=>?_);refine q l o _ (sm.free W) (sm.trans (aq W _)) ?_ hW nd ⋯ (U,6,L,J);rw[aa,show (λp:Key×V=>kV p.1)=kV ∘ (λp:Key×V=>p.1)from rfl,<-agC,t,agC];rfl
theorem qP:∀a:List Int,PyData.canLayAll0 (a.map PyData.int)=true
 |[]=>rfl
 |x::a=>by
  have b:=qP a;simp[PyData.canLayAll0,PyData.canLay0,b]
theorem tL:∀a:List Int,PyData.depthAll (a.map PyData.int)<=1
 |[]=>by simp[PyData.depthAll]
 |x::a=>by
  have b:=tL a;simp only[aax,PyData.depthAll,PyData.depth];lia
theorem gA{H:Hp}:∀a:List Int,jm K H ‹a› (a.map PyData.int)
 |[]=>.nil
 |x::a=>.cons (.int x) (gA a)
theorem Hr{σ:St}{p:Addr}{zs:List Int}{k:Nat}{i:Int}{n:Nat}{t:TE}{E:XK}(e:σ[n]?=some (!!!p))(d:My K H p !!zs)(ht:WQ H σ t i)(f:i=(k:Int)):WQ H σ (CJ (wC K) [] E (lN (Gn n) (lN t Dz))) ((zs[k]?).getD 0):=λb _ s q=>
 (_,e,ht b _ s λg c=>(p,zs,k,by rw[f];rfl,(s.trans c).seq d,q g c))
theorem Gp{K:PySem.W.Frag}{a:Addr}{xs:List V}{d:L2.St}{n:Addr->Hp->Prop}(p:V->Bool)(s:My K H a xs)(u:xs.length<sizeLine)
  (k:∀(x:V) (H':Hp) (Q:Bool->Hp->Prop),x∈xs->aM H H'->Q (p x) H'->M (some x::d) H' Q)(t:∀(x:V) (H':Hp) (Q:VK),aM H H'->Q x H'->ta (some x::d) H' Q)
  (q:∀D,H D=none->n D (upd H D (.lst (xs.filter p)))):gG (YL K a) d M ta n H:=by
 intro D g;exists λi m h o=>m=xs.length-i/\i<=xs.length/\h=(xs.take i).filter p/\o=upd H D (.lst h),(9,af3 _,7,7);rintro i m h o ⟨rfl,z,rfl,rfl⟩;have c:My K (upd H D (.lst ((xs.take i).filter p))) a xs:=(aq g _).seq s;by_cases b:i<xs.length
 ·have j:xs[i]?=some xs[i]:=aab b;have l:xs.take (i+1)=xs.take i++[xs[i]]:=by
   rw[af7,j];rfl
  refine .inr ((1,c,j),λv A y=>?_);obtain⟨rfl,y⟩:=y;have e:=y _ c;rw[j]at e;cases e;refine k _ _ _ (age b) (aq g _) ?_;have r:=agT p (xs.take i);rw[aaq]at r;by_cases f:p xs[i]=true
  ·rw[if_pos f];refine t _ _ _ (aq g _) (aa,6,xs.length-(i+1),6,7,b,2,2)
   ·rw[l,ag7,ah4 f];rfl
   ·rw[jq]
  ·rw[if_neg f];refine(xs.length-(i+1),6,7,b,2,7);rw[l,ag7,ah5 f,List.filter_nil,agr]
 ·have e:i=xs.length:=by lia
  subst e;rw[agi];rw[agi]at c;exact .inl ((_,c,aae _),q D g)
theorem wW{m:Nat}:∀(xs:List Int) (k:Nat) (x:Int),xs[k]?=some x->((xs.flatMap λx=>aU x m).drop (m*k)).take m=aU x m
 |[],k,x,h=>by simp at h
 |y::r,0,x,h=>by
  cases h;rw[ajO,agL,agX,aiI,aP,ahy,ahI,agr,aaj (by rw[aP];exact aae _)]
 |y::r,k+1,x,h=>by
  rw[agX,show m*(k+1)=(aU y m).length+m*k by rw[aP,ahp,ah0],ahX,agk (ahn _ _),ahO,agN];exact wW r k x (by simpa using h)
def XJ(t:Int)(ns rest:List Int):List Int:=[t]++aU (ns.length:Int) 2++((bw ns).flatMap (λx=>aU x 4)++rest)
theorem yV{t:Int}{ns rest:List Int}:((XJ t ns rest).drop 1).take 2=aU (ns.length:Int) 2:=by
 unfold XJ;rw[af5];show (aU (ns.length:Int) 2++_).take 2=_;rw[aiI,aP,ahy,ahI,agr,aaj (by rw[aP];exact aae _)]
theorem n6(t:Int)(ns rest:List Int):(XJ t ns rest).drop 3=(bw ns).flatMap (λx=>aU x 4)++rest:=by
 have b:([t]++aU (ns.length:Int) 2).length=3:=by rw[aac,aP];rfl
 unfold XJ;rw[ahX,b,agk (by rw[b];lia),ahO,ahy,agL]
theorem J6{t:Int}{ns rest:List Int}{k:Nat}(e:k<many ns.length):((XJ t ns rest).drop (3+4*k)).take 4=aU (dZ ns k) 4:=by
 have d:=jU e;have c:=aX ns;rw[<-agw,n6];have b:((bw ns).flatMap λx=>aU x 4).length=4*many ns.length:=by rw[aY,c]
 rw[ahX,b,show 4*k-4*many ns.length=0 by lia,agL,aiI];rw[show 4-(((bw ns).flatMap λx=>aU x 4).drop (4*k)).length=0 by rw[aaM,b];lia,ahI,agr];exact wW _ k _ d
theorem jR{t:Int}{ns rest:List Int}(b:ns.length<=65535):Wu (XJ t ns rest)=ns.length:=by
 unfold Wu;rw[yV,fP _ _ ⋯ (by show (ns.length:Int)<65536;lia),aaz]
theorem Nt{t:Int}{ns rest:List Int}(d:aK ns):lU (XJ t ns rest) 3 ns.length=bw ns:=by
 unfold lU;refine agn λk=>?_;by_cases c:k<many ns.length
 ·rw[aak,agI c,jU c];have b:=nU d k;rw[ag1,J6 c,fP _ _ b.1 (by have:=b.2;exact this)]
 ·rw[aaC (by rw[aaa,af8];lia),aaC (by rw[aX];lia)]
theorem KN{t:Int}{ns rest:List Int}(b:aK ns)(c:ns.length<=65535):bK (XJ t ns rest)=ns:=by
 unfold bK lZ;rw[jR c,Nt b,rz b]
def un8(xs:List Int):List Int:=xs.flatMap λb=>bits b 8
theorem Ig:∀(bs:List Int) (i:Nat),(un8 bs)[i]?=(bs[i / 8]?).map λb=>bit b (i%8)
 |[],i=>by simp[un8]
 |b::r,i=>by
  show (bits b 8++un8 r)[i]?=_;by_cases e:i<8
  ·rw[af4 (by rw[cC];exact e),qw e];have d:i / 8=0:=by lia
   have c:i%8=i:=by lia
   rw[d,c];rfl
  ·rw[agd (by rw[cC];lia),cC,Ig r (i-8)];have d:i / 8=(i-8) / 8+1:=by lia
   have c:i%8=(i-8)%8:=by lia
   rw[d,c,ahC]
theorem Pk{ns:List Int}(h:aK ns)(j k:Nat)(b:k<8):bit (jh ns j) k=(ns[8*j+k]?).getD 0:=by
 unfold jh;rw[qu ((h.drop _).take _),af9 b,agm]
def Jv(os:List Int):List Int:=(un8 ((os.drop 3).take ((min (Wu os) 4096+7) / 8))).take (Wu os)
theorem Ms{t:Int}{ns rest:List Int}(c:aK ns)(f:ns.length<=4096):Jv (XJ t ns rest)=ns:=by
 unfold Jv;rw[jR ⋯,n6,ags f];have e:(bw ns).flatMap (λx=>aU x 4)=(aga (4*many ns.length)).map (jh ns):=jo c _;have d:(ns.length+7) / 8<=4*many ns.length:=by
  unfold many;lia
 have g:((aga (4*many ns.length)).map (jh ns)).length=4*many ns.length:=by rw[aaa,af8]
 rw[e,ahc (by rw[g];exact d)];refine agn λi=>?_;by_cases b:i<ns.length
 ·rw[af9 b,Ig,af9 ⋯,aak,agI ⋯,ag1,ag1,Pk c _ _ ⋯,show 8*(i / 8)+i%8=i by lia,aab b];rfl
 ·rw[aaC (by rw[aaq];lia),aaC ⋯]
theorem yX(ns lows:List Int):cX ns lows=XJ 2 ns ((WD ns (many ns.length)).flatMap (λx=>aU x 2)++lows.flatMap (λx=>aU x 2)):=by
 unfold cX XJ;simp only[af5]
theorem fL(os:List Int):aK (bK os):=fK os 3 (Wu os)
theorem zm{os:List Int}(h:ir os):Jv os=bK os:=by
 obtain⟨_,⟨_,c,_⟩,b,_,e⟩:=h;rw[<-e,yX,Ms (fL os) c,KN (fL os) ⋯]
theorem pM{os:List Int}(h:ir os):os.length=5+8*many (bK os).length:=by
 obtain⟨_,_,b,c,e⟩:=h;have:=dj (lows:=b) (fL os);rw[e,c.1]at this;lia
theorem yK{os:List Int}(h:ir os):∃lows,qe (bK os) lows/\os=XJ 2 (bK os) ((WD (bK os) (many (bK os).length)++lows).flatMap λx=>aU x 2):=by
 obtain⟨_,_,lows,b,e⟩:=h;exists lows,b;rw[ahk,<-yX,e]
theorem Jh{t:Int}{ns rest:List Int}(c:aK ns){j:Nat}(b:j<4*many ns.length):(XJ t ns rest)[3+j]?=some (jh ns j):=by
 have e:(bw ns).flatMap (λx=>aU x 4)=(aga (4*many ns.length)).map (jh ns):=jo c _;rw[<-agm,n6,e,af4 (by rw[aaa,af8];exact b),aak,agI b];rfl
theorem OD{t:Int}{ns rest:List Int}:(XJ t ns rest).drop (3+4*many ns.length)=rest:=by
 rw[<-agw,n6];have b:((bw ns).flatMap λx=>aU x 4).length=4*many ns.length:=by rw[aY,aX]
 rw[ahX,b,agk (by rw[b];exact aae _),ahO,ahy,agL]
theorem sY{ns:List Int}(b:aK ns):∀n:Nat,(ns.take (8*n)).sum=((aga n).map λj=>ones (jh ns j) 8).sum
 |0=>by simp
 |n+1=>by
  rw[agl,aag,ahh,<-sY b n,ahp,lJ];have e:ones (jh ns n) 8=((ns.drop (8*n)).take 8).sum:=by
   unfold jh;rw[jP ((b.drop _).take _),ahq];rfl
  simp[e]
theorem Il{f g:Nat->Int}{j:Nat}(h:∀i,i≠j->f i=g i):∀n:Nat,((aga n).map f).sum-((aga n).map g).sum=if j<n then f j-g j else 0
 |0=>by simp
 |n+1=>by
  have b:=Il h n;rw[agl,aag,aag,ahh,ahh];simp only[aax,ah9,ahD,ajh];by_cases e:n=j
  ·subst e;rw[if_neg ⋯]at b;rw[if_pos ⋯];lia
  ·have:=h n e;by_cases c:j<n
   ·rw[if_pos c]at b;rw[if_pos ⋯];lia
   ·rw[if_neg c]at b;rw[if_neg ⋯];lia
def YK(z:Int)(k:Nat):Int:=if z / 2^k%2=1 then z-2^k else z+2^k
theorem QJ:∀z:_root_.Fin 256,∀k:_root_.Fin 8,ones ((z.val:Nat):Int) 8≠ones (YK ((z.val:Nat):Int) k.val) 8:=by decide +kernel
theorem DP(c:0<=g)(d:g<=255){k:Nat}(b:k<8):ones g 8≠ones (YK g k) 8:=by
 have:=QJ (g.toNat,6) (k,b);simp only at this;rw[aiq c]at this;exact this
theorem Sv{k:Nat}(d:0<=g)(c:g<=255)(b:k<8):YK g k≠g:=λe=>DP d c b (by rw[e])
theorem Hg{os:List Int}(h:ir os){k:Nat}(hz:os[n]?=some g)(hk:k<8):¬ir (os.set n (YK g k)):=by
 intro S;have a4:=(aad.mp hz).1;have ho:=h.1 g (aaw hz);have F:=Sv (k:=k) ho.1 ho.2 hk;have l1:=pM h;have l2:=pM S;rw[ahN]at l2;obtain⟨Y,V,L⟩:=yK h;obtain⟨Q,A,E⟩:=yK S;have hb:=fL os;have y:=fL (os.set n (YK g k));have h4:=h.2.1.2.1;have I:=S.2.1.2.1;have H:=h.2.1.2.2;have G:=S.2.1.2.2;have d1:=zm h;have d2:=zm S;obtain⟨s,B⟩:∃s,os.set n (YK g k)=s:=(_,7);have o:∀i,i≠n->s[i]?=os[i]?:=λi J=>by
  rw[<-B];exact agE (agA J)
 have p:s[n]?=some (YK g k):=by
  rw[<-B,agG a4]
 rw[B]at l2 E y I G A d2;obtain⟨q,en⟩:∃q,bK os=q:=(_,7);obtain⟨D,em⟩:∃D,bK s=D:=(_,7);rw[en]at l1 L hb h4 H V d1;rw[em]at l2 E y I G A d2;have O:many D.length=many q.length:=by lia
 have a7:1<=many q.length:=by
  have:=H.1;unfold many;lia
 have a0:s≠os:=λz'=>by
  rw[z',hz]at p;exact F (aat p).symm
 have X:∀{b C:List Int} (r:List Int),C=XJ 2 b r->b.length<=4096 -> ∃c d:Int,C[1]?=some c/\C[2]?=some d/\c+256*d=(b.length:Int)/\c=(b.length:Int)%256/\d=(b.length:Int) / 256:=λ{b C} r e R=>by
  have N:=yV (t:=2) (ns:=b) (rest:=r);rw[<-e,DW ⋯ ⋯]at N;refine(1,2,2,2,7,7)
  ·have:=congrArg (λl:List Int=>l[0]?) N;simp only[af9 (show 0<2 by decide),agm]at this;exact this
  ·have:=congrArg (λl:List Int=>l[1]?) N;simp only[af9 (show 1<2 by decide),agm]at this;exact this
  ·lia
 obtain⟨c1,c2,f1,f2,f3,f4,f5⟩:=X _ L h4;obtain⟨g1,g2,k1,k2,k3,k4,k5⟩:=X _ E I;have sm:∀{b C:List Int} (l:List Int),aK b->Tree b->C=XJ 2 b ((WD b (many b.length)++l).flatMap λx=>aU x 2)->b.length<=4096 -> ∃c d:Int,C[3+6*many b.length]?=some c/\C[3+6*many b.length+1]?=some d/\c+256*d=b.sum:=λ{b C} l hx ht e R=>by
  have hs:=Cq hx;have ea:(WD b (many b.length)++l)[many b.length]?=some b.sum:=by
   rw[af4 (by rw[cD];lia),Ip (aae _),aaj (by unfold many;lia)]
  have N:=wW (m:=2) _ _ _ ea;rw[DW hs.1 ⋯,<-OD (t:=2) (ns:=b) (rest:=(WD b (many b.length)++l).flatMap λx=>aU x 2),<-e,agw]at N;refine(b.sum%256,b.sum / 256,2,2,6)
  ·have:=congrArg (λl:List Int=>l[0]?) N;simp only[af9 (show 0<2 by decide),agm]at this;rw[show 3+6*many b.length=3+4*many b.length+2*many b.length+0 by lia];exact this
  ·have:=congrArg (λl:List Int=>l[1]?) N;simp only[af9 (show 1<2 by decide),agm]at this;rw[show 3+6*many b.length+1=3+4*many b.length+2*many b.length+1 by lia];exact this
 obtain⟨u1,u2,p1,p2,p3⟩:=sm Y hb H L h4;obtain⟨v1,v2,q1,q2,q3⟩:=sm Q y G E I;rw[O]at q1 q2;have tz:∀{b:List Int},Tree b->(b.length:Int)=2*b.sum:=λ{b} t=>by
  have:=t.2.1;unfold ht at this;rw[agi]at this;lia
 have t1:=tz H;have t2:=tz G;have Z:n≠1->n≠2->D.length=q.length:=λn1 n2=>by
  rw[o 1 (agA n1)]at k1;rw[o 2 (agA n2)]at k2;have v:=aat (k1.symm.trans f1);have u:=aat (k2.symm.trans f2);lia
 have M:n≠3+6*many q.length->n≠3+6*many q.length+1->D.sum=q.sum:=λn1 n2=>by
  rw[o _ (agA n1)]at q1;rw[o _ (agA n2)]at q2;have v:=aat (q1.symm.trans p1);have u:=aat (q2.symm.trans p2);lia
 rcases ag6 n with z0|z0
 ·subst z0;have v:os[0]?=some 2:=by
   rw[L];rfl
  have u:s[0]?=some 2:=by
   rw[E];rfl
  rw[hz]at v;rw[p]at u;exact F ((aat u).trans (aat v).symm)
 rcases agc n 3 with z3|z3
 ·have hs:=M ⋯ ⋯;have R:D.length=q.length:=by lia
  have a3:n=1\/n=2:=by lia
  rcases a3 with rfl|rfl
  ·rw[p]at k1;rw[hz]at f1;have v:=aat k1;have u:=aat f1;exact F (by rw[v,u,k4,f4,R])
  ·rw[p]at k2;rw[hz]at f2;have v:=aat k2;have u:=aat f2;exact F (by rw[v,u,k5,f5,R])
 rcases agc n (3+4*many q.length)with z4|z4
 ·have hs:=M ⋯ ⋯;obtain⟨j,rfl⟩:∃j,n=3+j:=(n-3,6);have o1:∀i,i<4*many q.length->os[3+i]?=some (jh q i):=λi J=>by
   rw[L];exact Jh hb J
  have o2:∀i,i<4*many q.length->s[3+i]?=some (jh D i):=λi J=>by
   rw[E];exact Jh y ⋯
  have W:∀{b:List Int}{i:Nat},many b.length=many q.length->4*many q.length<=i->jh b i=0:=λ{b i} e J=>Py (by unfold many at *;lia);have a6:∀i,i≠j->jh q i=jh D i:=λi J=>by
   rcases agc i (4*many q.length)with c|c
   ·have v:=o1 i c;have u:=o2 i c;rw[o _ ⋯]at u;exact aat (v.symm.trans u)
   ·rw[W rfl c,W O c]
  have U:=sY hb (4*many q.length);have T:=sY y (4*many q.length);rw[aaj (by unfold many;lia)]at U;rw[aaj (by have:=O;unfold many at *;lia)]at T;have hd:=Il (f:=λj=>ones (jh q j) 8) (g:=λj=>ones (jh D j) 8) (j:=j) (λi J=>by rw[a6 i J]) (4*many q.length);rw[<-U,<-T,if_pos ⋯]at hd;have v:=o1 j ⋯;have u:=o2 j ⋯;rw[hz]at v;rw[p]at u;have b1:=aat v;have b2:=aat u;refine DP ho.1 ho.2 hk ?_;rw[b2,b1];lia
 ·have R:=Z ⋯ ⋯;have hN:Wu s=Wu os:=by
   rw[L,E,jR ⋯,jR ⋯,R]
  have a5:Wu os=q.length:=by
   rw[L,jR ⋯]
  have ed:Jv s=Jv os:=by
   unfold Jv;rw[hN];congr 2;refine agn λi=>?_;rcases agc i ((min (Wu os) 4096+7) / 8)with c|c
   ·rw[af9 c,af9 c,agm,agm];refine o _ ?_;rw[a5]at c;unfold many at z4;lia
   ·rw[aaC (by rw[aaq];lia),aaC (by rw[aaq];lia)]
  rw[d1,d2]at ed;subst ed;rw[A.uniq V]at E;exact a0 (by rw[E,<-L])
theorem yd.begs{ws :List Str}{n:Nat}(c:yd ws n)(i:∀w∈N,w∈ws)(h:gP N ps):ps.length<=n:=by
 obtain⟨U,m,l,j⟩:=c;have d:ps.Nodup:=h.up.imp λ{a b} (x:Xw a b) (e:a=b)=>by
  subst e;exact cV _ x
 refine agx (qY d (U:=U) λz f=>?_) m;rcases(h.mem z).mp f with e|⟨w,g,k,e⟩
 ·rw[e];exact l
 ·rw[e];exact j w (i w g) k
structure RV(ds ls es:List Int):Prop where
 l1:ls.length+1=ds.length
 l2:es.length=ds.length
 az:∀c∈ls,yh c
 d40:∀d∈ds,d<=40
 pt:∃ts,gP (XR ds ls es) ts/\(ts.map λt=>(t.length:Int))=ds/\(ts.drop 1).map cO=ls/\ts.map (lG (XR ds ls es))=es
theorem RN{ds es:List Int}(k:∀c∈T,yh c)(hd:∀d∈ds,d<=40)(p:bW ds):∀x∈XR ds T es,W0 x:=λx b=>by
 have n:∀{ds T:List Int}{t:Str},(∀c∈T,yh c)->(∀d∈ds,d<=40)->Chn t.length ds->uw t -> ∀x∈W4 ds T t,W0 x:=λ{ds}=>by
  induction ds with
  |nil=>
   intro T t _ _ _ _ x b;cases b
  |cons d ds m=>
   intro T t k hd i ht x b;cases T with
   |nil=>cases b
   |cons c T=>
    obtain⟨u,s,q⟩:=i;have l:=k c aal;have r:=hd d aal;have o:=jW t (d-1).toNat;have j:(beg t (d-1).toNat++(⟨#[(c+97).toNat]⟩:Str)).length=d.toNat:=by
     rw[pW,o];lia
    have g:uw (beg t (d-1).toNat++(⟨#[(c+97).toNat]⟩:Str)):=uw.add (λy f=>by
     rw[bu]at f;exact ht y (agt f)) λy f=>by
     have e:y=(c+97).toNat:=by simpa using f
     unfold yh at l;lia
    rcases aav.mp b with rfl|b
    ·exact(6,g)
    ·exact m (λy f=>k y (aai _ f)) (λy f=>hd y (aai _ f)) (by rw[j];exact q) g x b
 rcases aav.mp (Bc b)with rfl|b
 ·exact(af3 _,λc i=>by cases i)
 ·exact n (ds:=ds.drop 1) (t:=⟨#[]⟩) k (λd h=>hd d (ago h)) (yC p) (λc i=>by cases i) x b
theorem gP.step{ws :List Str}(h:gP ws N){i:Nat}{u t:Str}(l:N[i]?=some u)(ht:N[i+1]?=some t):1<=t.length/\beg u (t.length-1)=beg t (t.length-1):=by
 have y:=h.good.2 i u.length t.length (by rw[aak,l];rfl) (by rw[aak,ht];rfl);have v:1<=t.length:=by lia
 exists v;obtain⟨m,f⟩:=aad.mp l;obtain⟨hi1,g⟩:=aad.mp ht;have x:t.cps.toList.length=t.length:=aaf;obtain⟨j,s⟩:=agO (h.pre (aaw ht) (t.length-1));obtain⟨d,b⟩:=aad.mp s;have k:(beg t (t.length-1)).cps.toList.length=t.length-1:=by
  rw[bu,aaq];lia
 have r:t.cps.toList=(beg t (t.length-1)).cps.toList++t.cps.toList.drop (t.length-1):=by
  rw[bu,agJ]
 have p:¬u.cps.toList<(beg t (t.length-1)).cps.toList:=λz=>by
  rcases agc i j with c|c
  ·rcases agc (i+1) j with n|n
   ·have e:=agf.mp h.up (i+1) j hi1 d n;rw[g,b]at e;exact RM _ _ (by rw[<-bu];exact e)
   ·have e:j=i+1:=by lia
    subst e;rw[g]at b;have:=congrArg Str.length b;rw[jW]at this;lia
  ·rcases Nat.eq_or_lt_of_le c with e|e
   ·subst e;rw[f]at b;rw[<-b]at z;exact Aq _ z
   ·have q:=agf.mp h.up j i d m e;rw[b,f]at q;exact cV _ (jO q z)
 have o:¬(beg t (t.length-1)).cps.toList++t.cps.toList.drop (t.length-1)<u.cps.toList:=λz=>by
  rw[<-r]at z;have q:=agf.mp h.up i (i+1) m hi1 (ahb _);rw[f,g]at q;exact cV _ (jO q z)
 have e:=uV p o;rw[k]at e;exact dJ (by rw[bu];exact e)
theorem Kp{t:Str}(f:1<=t.length)(d:W0 t):beg t (t.length-1)++(⟨#[(cO t+97).toNat]⟩:Str)=t:=by
 have c:t.cps.toList.length=t.length:=aaf;have b:t.cps.toList≠[]:=λe=>by rw[e]at c;simp at c;lia
 refine dJ ?_;rw[rB,bu];have e:(cO t+97).toNat=t.cps.toList.getLast b:=by
  unfold cO;rw[List.getLastD_eq_getLast?,List.getLast?_eq_some_getLast b];simp
 show t.cps.toList.take (t.length-1)++[(cO t+97).toNat]=_;rw[e,<-c,<-aiT];exact ahd b
theorem Cu:∀{vs:List Str}{u:Str},(∀i x y,(u::vs)[i]?=some x->(u::vs)[i+1]?=some y->1<=y.length/\beg x (y.length-1)=beg y (y.length-1))->(∀v∈vs,W0 v)->W4 (vs.map λt=>((t.length:Nat):Int)) (vs.map cO) u=vs
 |[],_,_,_=>rfl
 |v::vs,u,h,c=>by
  obtain⟨j,g⟩:=h 0 u v rfl rfl;have f:=c v aal;have e:beg u (((v.length:Nat):Int)-1).toNat++(⟨#[(cO v+97).toNat]⟩:Str)=v:=by
   rw[show (((v.length:Nat):Int)-1).toNat=v.length-1 by lia,g];exact Kp j f
  show (beg u (((v.length:Nat):Int)-1).toNat++(⟨#[(cO v+97).toNat]⟩:Str))::W4 _ _ _=v::vs;rw[e,Cu (λi x y a b=>h (i+1) x y a b) λz d=>c z (aai _ d)]
theorem Dm(ws:List Str):∀b:List Str,((b.zip (b.map (lG ws))).filter λp=>decide (p.2=1)).map (·.1)=b.filter λt=>decide (t∈ws)
 |[]=>rfl
 |t::b=>by
  have d:=Dm ws b;rw[aax,ah3];by_cases c:t∈ws
  ·rw[ah4 (by simp[lG,c]),ah4 (by simp[c]),aax,d]
  ·rw[ah5 (by simp[lG,c]),ah5 (by simp[c]),d]
theorem vh{ws :List Str}(h:gP ws N)(g:∀w∈ws,W0 w):XR (N.map λt=>((t.length:Nat):Int)) ((N.drop 1).map cO) (N.map (lG ws))=N.filter λt=>decide (t∈ws):=by
 have c:=h.zero;cases N with
 |nil=>cases c
 |cons u d=>
  cases c;have e:=Cu (u:=⟨#[]⟩) (vs:=d) (λi x y a b=>h.step a b) λv f=>h.low g (aai _ f);unfold XR;rw[aax,ajH,ajH,ajx,ajx,e];exact Dm ws _
theorem dC{xs ys:List Int}(h:dN xs)(h':dN ys):dN (xs++ys):=λy b=>by
 rcases aaG.mp b with z|z
 ·exact h y z
 ·exact h' y z
theorem vJ(x:Int)(n:Nat):dN (aU x n):=λ_ b=>pY b
theorem iU(l:List Int)(n:Nat):dN (l.flatMap λx=>aU x n):=λ_ b=>qN b
theorem vC(ns lows:List Int):dN (cX ns lows):=by
 unfold cX;exact dC (dC (dC (λy b=>by rw[aan.mp b];decide) (vJ _ _)) (dC (iU _ _) (iU _ _))) (iU _ _)
theorem yE(ns:List Int):dN (gQ ns):=by
 unfold gQ;exact dC (dC (λy b=>by rw[aan.mp b];decide) (vJ _ _)) (dC (iU _ _) (iU _ _))
theorem jT{ns ms:List Int}(h:Kinds ns ms):ms.length<=ns.length:=mD h.nd λz b=>(h.mem z).mp b
theorem KD{ds es lows ms os:List Int}(A:bW ds)(q:ds.length<=2048)(p:qe (brk ds 0) lows)(Z:c.length<=2048)(z:Xa c)(s:Kinds c ms)(hz:gk ms.length (2^n))(V:aK es)(G:es.length<=4096)(B:os=[4]++cX (brk ds 0) lows++WP c ms n++gQ es):
  nq os=XR ds c es/\(GoodW os ↔ RV ds c es):=by
 have hm:=jT s;obtain⟨S,J,R,m,Q,I⟩:=wY A q p ⋯ z s hz ⋯ V G B;have o:nq os=XR ds c es:=by
  unfold nq;rw[J,m,I]
 refine(o,λg=>?_,λg=>?_)
 ·obtain⟨k,H,Z7,h',j,X,M,W,g5,L⟩:=g.st;have i:=g.low;rw[o]at j L i;have E:k.length<=2048:=(Im A q).begs (λw U=>U) j;have O:((k.drop 1).map cO).length<=2048:=by
   rw[aaa,aaM];lia
  have Y:=jT M;obtain⟨_,l,_,r,_,v⟩:=wY j.good (by rw[aaa];exact E) X ⋯ (vo j i) M W ⋯ (rN _ k) (by rw[aaa];lia) L;rw[J]at l;rw[m]at r;rw[I]at v;have h1:1<=k.length:=(aad.mp j.zero).1;refine(2,2,λf u=>?_,λd hd=>?_,k,j,l.symm,r.symm,v.symm)
  ·rw[l,r,aaa,aaa,aaM];lia
  ·rw[l,v,aaa,aaa]
  ·rw[r]at u;obtain⟨t,ht,rfl⟩:=afs.mp u;have:=rE (j.low i (ago ht));exact(this.1,6)
  ·rw[l]at hd;obtain⟨t,ht,rfl⟩:=afs.mp hd;have:=(j.low i ht).1;lia
 ·obtain⟨k,j,D,C,N⟩:=g.pt;have i:=RN (es:=es) g.az g.d40 A;have F:(XR ds c es).Nodup:=by
   have e:=vh j i;rw[D,C,N]at e;rw[e];exact(j.up.imp λ{a b} (x:Xw a b) (e:a=b)=>by
    subst e;exact cV _ x).sublist ai2
  refine(2,(S,R,by rw[m];lia,by rw[m];exact z,Q,2),by rw[o];exact i,by rw[o];exact F,2)
  ·rw[B];exact dC (dC (dC (λy T=>by rw[aan.mp T];decide) (vC _ _)) (Az [] ⋯ z s hz ⋯).1) (yE _)
  ·rw[m];exact λf u=>g.az f (agt u)
  ·rw[o];exists k,lows,ms,n,j,by rw[D];exact p,by rw[C];exact s,hz,Cd ⋯ hz;rw[D,C,N];exact B
theorem Eh{ns ms:List Int}(g:ns.length<=4096)(b:n<=12):(WP ns ms n).length<=10000+26*ms.length:=by
 unfold WP;have c:((Ww n (rks ms ns)).flatMap (XF ns.length)).length=(4*many ns.length+2*(many ns.length+1))*n:=by
  rw[p8 λe d=>?_,eO];rw[(lq n _ e d).2];exact aaa ..
 rw[aac,aac,aac,aY,aY,c,aaa];have f:many ns.length<=128:=by unfold many;lia
 have:=ahU (show 4*many ns.length+2*(many ns.length+1)<=800 by lia) b;show 1+2*2+_+_<=_;lia
theorem Uh{ws :List Str}(f:gP ws N)(g:∀w∈ws,W0 w):RV (N.map λt=>((t.length:Nat):Int)) ((N.drop 1).map cO) (N.map (lG ws)):=by
 have i:1<=N.length:=(aad.mp f.zero).1;have e:=vh f g;have b:∀x,x∈N.filter (λt=>decide (t∈ws)) ↔ x∈ws:=λx=>by
  rw[ahM,decide_eq_true_iff];refine(λz=>z.2,λz=>((f.mem x).mpr (.inr (x,z,x.length,(qQ x (aae _)).symm)),z))
 exists 2,2,λc h=>?_,λd hd=>?_,N,2,7,7
 ·rw[aaa,aaa,aaM];lia
 ·rw[aaa,aaa]
 ·obtain⟨t,ht,rfl⟩:=afs.mp h;have:=rE (f.low g (ago ht));exact(this.1,6)
 ·obtain⟨t,ht,rfl⟩:=afs.mp hd;have:=(f.low g ht).1;lia
 ·rw[e];exact f.perm λx=>(b x).symm
 ·rw[e];refine agR λt _=>?_;unfold lG;by_cases c:t∈ws
  ·rw[if_pos c,if_pos ((b t).mpr c)]
  ·rw[if_neg c,if_neg λz=>c ((b t).mp z)]
theorem Lp{ns:List Int}(f:aK ns)(c:ns.length<=4096):GoodR (gQ ns)/\bK (gQ ns)=ns:=by
 have e:gQ ns=frB 1 ns ((WD ns (many ns.length)).flatMap (λx=>aU x 2)):=by
  unfold gQ frB;simp
 obtain⟨d,b⟩:=pX (t:=1) (rest:=(WD ns (many ns.length)).flatMap (λx=>aU x 2)) f c;rw[<-e]at d b;exact((yE ns,d,by rw[b];exact c,by rw[b]),b)
theorem KJ{ds lows:List Int}(c:bW ds)(h:ds.length<=2048)(d:qe (brk ds 0) lows):ir (cX (brk ds 0) lows)/\Xb (cX (brk ds 0) lows)=ds:=by
 have f:=eN ds 0;have i:=iz c;have e:cX (brk ds 0) lows=frB 2 (brk ds 0) ((WD (brk ds 0) (many (brk ds 0).length)).flatMap (λx=>aU x 2)++lows.flatMap (λx=>aU x 2)):=by
  unfold cX frB;simp
 obtain⟨g,b⟩:=pX (t:=2) (rest:=(WD (brk ds 0) (many (brk ds 0).length)).flatMap (λx=>aU x 2)++lows.flatMap (λx=>aU x 2)) f ⋯;rw[<-e]at g b;exists (vC _ _,(g,by rw[b];lia,by rw[b];exact qC c),lows,by rw[b];exact d,by rw[b]);unfold Xb;rw[b,z9 c]
theorem Ru{ns ms:List Int}(k:ns.length<=3000)(c:Xa ns)(b:Kinds ns ms)(hz:gk ms.length (2^n)):oJ (WP ns ms n)/\pJ (WP ns ms n) (hO (kdN (WP ns ms n)))=ns:=by
 have j:=jT b;obtain⟨i,g,f,d⟩:=Az [] ⋯ c b hz ⋯;rw[agr]at g f d;have e:hO (kdN (WP ns ms n))=n:=by
  rw[g];exact Dr hz
 unfold oJ;rw[e,d];exact((i,f,6,c,ms,n,b,hz,7),7)
theorem u0{ws:List Str}{os:List Int}(d:∀w∈ws,W0 w)(m:yd ws 2048)(h:Zz ws os):GoodW os /\ ∃b,gP ws b/\nq os=b.filter λt=>decide (t∈ws):=by
 obtain⟨b,g,q,k,c,f,l,i,_,n⟩:=h;have e:b.length<=2048:=m.begs (λw j=>j) c;obtain⟨p,o⟩:=KD c.good (by rw[aaa];exact e) f (by rw[aaa,aaM];lia) (vo c d) l i (rN ws b) (by rw[aaa];lia) n;exact(o.mpr (Uh c d),b,c,p.trans (vh c d))
theorem jk{wy:Nat}{os:List Int}(d:wy<4)(h:nM wy os):os[0]?=some ((wy:Int)+1)/\5<=os.length:=by
 match wy,d with
 |0,_=>
  have h:GoodR os:=h;rw[<-h.2.2.2];exists 7;unfold gQ;rw[aac,aac,aac,aP,aY,aY,aX,cD];show 5<=1+2+_;lia
 |1,_=>
  have h:ir os:=h;obtain⟨b,_,e⟩:=h.2.2;rw[<-e];exists 7;rw[dj (fL os)];lia
 |2,_=>
  have h:oJ os:=h;obtain⟨c,k,_,_,e⟩:=h.2.2.2.2;rw[<-e,zg];exists 7;rw[aao,aac,aac,aP,aP];lia
 |3,_=>
  have h:GoodW os:=h;obtain⟨g,b,c,k,l,f,j,i,_,e⟩:=h.st;rw[e];exists 7;rw[aac,aac,aac,dj (eN _ _)];show 5<=1+_+_+_;lia
theorem RC:∀z:_root_.Fin 256,∀k:_root_.Fin 8,Builtin.bitXor ((z.val:Nat):Int) (1*2^k.val)=YK ((z.val:Nat):Int) k.val:=by decide +kernel
theorem Qz(c:0<=g)(d:g<=255){k:Nat}(b:k<8):Builtin.bitXor g (1*2^k)=YK g k:=by
 have:=RC (g.toNat,6) (k,b);simp only at this;rw[aiq c]at this;exact this
theorem Qa{xs:List Int}{i:Nat}(h:i<xs.length)(z:Int):xs.take i++[z]++xs.drop (i+1)=xs.set i z:=by
 rw[List.set_eq_take_append_cons_drop,if_pos h];simp
theorem jQ{a b:List Int}(h:a.map V.int=b.map V.int):a=b:=(ai6 λ_ _ e=>V.int.inj e).mp h
theorem vH{a b:List Str}(h:a.map V.str=b.map V.str):a=b:=(ai6 λ_ _ e=>V.str.inj e).mp h
def ThX(wy:Nat)(xs:List V):Prop:=if wy=0 then ∃b,xs=b.map V.int/\b.length<=4096/\aK b else if wy=1 then ∃d,xs=d.map V.int/\d.length<=2048/\bW d
 else if wy=2 then ∃b,xs=b.map V.int/\b.length<=4096/\(∃U:List Int,U.length<=4000 /\ ∀z∈b,z∈U)/\Xa b else ∃c,xs=c.map V.str/\(∀w∈c,W0 w)/\c.Nodup/\c.length<=2048/\yd c 2048
def WrX(wy:Nat)(xs:List V)(os:List Int):Prop:=if wy=0 then ∃c,xs=c.map V.int/\os=gQ c else if wy=1 then ∃e b,xs=e.map V.int/\qe (brk e 0) b/\os=cX (brk e 0) b
 else if wy=2 then ∃c d h,xs=c.map V.int/\Kinds c d/\gk d.length (2^h)/\os=WP c d h else ∃f,xs=f.map V.str/\Zz f os
theorem Hy{wy:Nat}{os:List Int}(r:wy<4)(y:os.length<=100000)(h:nM wy os):ThX wy (su wy os) /\ ∀b,WrX wy (su wy os) b->b=os:=by
 match wy,r with
 |0,_=>
  have h:GoodR os:=h;refine((9,h.2.2.1,fL os),λb ⟨p,e,c⟩=>?_);rw[c,<-jQ e,h.2.2.2]
 |1,_=>
  have h:ir os:=h;obtain⟨u,t,_⟩:=h.2.1.dlen;refine((9,t,u),λb ⟨C,o,e,f,c⟩=>?_);obtain⟨m,g,i⟩:=h.2.2;rw[<-jQ e,(qM h.2.1.2.2).2]at f c;rw[c,f.uniq g,i]
 |2,_=>
  have h:oJ os:=h;have s:(lQ os).length<=4000:=by
   have:=h.2.1.kd;rw[jf];lia
  refine((9,h.2.2.1,(_,s,vp h.2.1),h.2.2.2.1),λb ⟨p,A,k,e,n,q,c⟩=>?_);obtain⟨D,B,l,j,i⟩:=h.2.2.2.2;rw[<-jQ e]at n c;obtain rfl:=n.uniq l;obtain rfl:=uI q j;rw[c,i]
 |3,_=>
  have h:GoodW os:=h;obtain⟨_,x,v⟩:=h.wo.few;refine((9,h.low,h.nd,x,v),λb ⟨z,e,d⟩=>?_);rw[<-vH e]at d;exact d.uniq h.st
theorem Rq{wy:Nat}{os:List Int}{xs:List V}(p:wy<4)(B:xs.length<=1000)(h:ThX wy xs)(h':WrX wy xs os):nM wy os/\(wy<3->su wy os=xs)/\os.length<=90000:=by
 match wy,p with
 |0,_=>
  obtain⟨t,rfl,c,f⟩:=h;obtain⟨l,e,rfl⟩:=h';obtain rfl:=jQ e;obtain⟨d,g⟩:=Lp f c;exact(d,λ_=>congrArg (ajF V.int) g,agx (wM c) ∅)
 |1,_=>
  obtain⟨I,rfl,c,f⟩:=h;obtain⟨l,j,e,b,rfl⟩:=h';obtain rfl:=jQ e;obtain⟨d,g⟩:=KJ f c b;exists d,λ_=>congrArg (ajF V.int) g;have J:=iz f;rw[dj (eN _ _),b.len];unfold many;lia
 |2,_=>
  obtain⟨t,rfl,c,f,x⟩:=h;obtain⟨l,A,k,e,m,o,rfl⟩:=h';obtain rfl:=jQ e;rw[aaa]at B;obtain⟨d,g⟩:=Ru ⋯ x m o;have H:=jT m;exists d,λ_=>congrArg (ajF V.int) g;have:=Eh (ns:=t) (ms:=A) ⋯ (Cd ⋯ o);lia
 |3,_=>
  obtain⟨y,rfl,c,f,x,v⟩:=h;obtain⟨D,e,i⟩:=h';obtain rfl:=vH e;obtain⟨d,_⟩:=u0 c v i;exists d,λz=>absurd z ∅;obtain⟨n,j,l,k,u,b,m,o,s,C⟩:=i;have q:n.length<=2048:=v.begs (λw p=>p) u;have G:=yN u q b;have r:=jT m;rw[aaa,aaM]at r;have F:=Eh (ns:=(n.drop 1).map cO) (ms:=l) (by rw[aaa,aaM];lia) s;have E:=wM (ns:=n.map (lG y)) (by rw[aaa];lia);rw[C];simp only[aac,aao,aiL];lia
inductive Pg(K:PySem.W.Frag)(vs:List V)(H:Hp)(Q:VK)(_e1:XK):Prop
 | mk (s:Addr) (zs:List Int) (wy:Nat) (_:vs=[.int (wy:Int),.ref s]) (_:wy<4) (_:My K H s !!zs) (_:zs.length<=63) (_:∀r xs H',H r=none->aM H H'->H' r=some (.lst xs)->ThX wy xs->xs.length<=1000->Q (.ref r) H')
theorem Am(T:Tx K mg a):bc P w K mg base Wt 2 a.adJ a.ac9 ["_law_way","_law_script"] (Pg K):=by
 refine T.adW.F.Wv Bf λC A j s H D Q E b h=>?_;obtain⟨p,d,k,rfl,n,f,i,q⟩:=h;refine(_,(ao (bx (aO dm (pv 0) aA) (aB (aG (aW T.aey (Ez T) b (Wn 1 aj)))) aQ)
  (ao (bx (aO dm (pv 0) aA) (aB (aG (aW T.adh (xH T) b (Wn 1 aj)))) aQ)
  (ao (bx (aO dm (pv 0) aA) (aB (aG (aW T.adU (zN T) b (Wn 1 aj)))) aQ)
  (aB (aG (aW T.adV (Ar T) b (Wn 1 aj))))))),2)
 match k,n with
 |0,_=>exact(9,7,9,cF (9,p,d,7,f,i,λr c e b s x v g=>q r _ c b s x (e,7,6,v) (by rw[aaa];lia)))
 |1,_=>exact(9,7,9,b7 (9,7,9,cF (9,p,d,7,f,i,λr c B b s x t g=>q r _ c b s x (B,7,6,t) (by rw[aaa];lia))))
 |2,_=>exact(9,7,9,b7 (9,7,9,b7 (9,7,9,cF (9,p,d,7,f,i,λr c e b s x o g=>q r _ c b s x (e,7,6,(e,6,λz h=>h),o) (by rw[aaa];lia)))))
 |3,_=>exact(9,7,9,b7 (9,7,9,b7 (9,7,9,b7 (9,p,d,7,f,λr l c b s x y m g u=>q r _ c b s x (l,7,y,m,6,u) (by rw[aaa];lia)))))
inductive Gb(vs:List V)(H:Hp)(Q:VK)(_e1:XK):Prop
 | mk (p:Addr) (xs:List V) (wy:Nat) (_:vs=[.int (wy:Int),.ref p]) (_:wy<4) (_:H p=some (.lst xs)) (_:ThX wy xs) (_:∀r os H',H r=none->aM H H'->H' r=some (.lst !!os)->WrX wy xs os->Q (.ref r) H')
theorem m8(T:Tx K mg a):bc P w K mg base Wt 10 a.acz a.ab0 ["_law_way","_law_thing_here"] Gb:=by
 refine T.aa6.F.Wv vg λL A t s H N Q E b h=>?_;obtain⟨p,M,y,rfl,D,i,ht,q⟩:=h;refine(_,(ao (bx (aO dm (pv 0) aA) (aB (aG (bI T.ZV (jE T) ∅ b vd rfl (Wn 1 aj)))) aQ)
  (ao (bx (aO dm (pv 0) aA) (aB (aG (aW T.Zv (fW T) b (Wn 1 aj)))) aQ)
  (ao (bx (aO dm (pv 0) aA) (aB (aG (bI T.Zw (fH T) ∅ b vd rfl (Wn 1 aj)))) aQ)
  (aB (aG (bI T.aay (lL T) ∅ b vd rfl (Wn 1 aj))))))),2)
 match y,D with
 |0,_=>
  obtain⟨f,rfl,c,d⟩:=ht;exact(9,7,9,cF (9,p,f,7,My.of i,.inl (c,d,λr e b s x=>q r _ e b s x (f,7,7))))
 |1,_=>
  obtain⟨v,rfl,c,d⟩:=ht;exact(9,7,9,b7 (9,7,9,cF (9,p,v,7,i,c,d,λr e g b s o x=>q r _ e b s x (v,g,7,o,7))))
 |2,_=>
  obtain⟨f,rfl,c,d,u⟩:=ht;exact(9,7,9,b7 (9,7,9,b7 (9,7,9,cF (9,p,f,7,My.of i,.inl (c,d,u,λr B k e b s I C x=>q r _ e b s x (f,B,k,7,I,C,7))))))
 |3,_=>
  obtain⟨j,rfl,c,d,u,J⟩:=ht;have G:much j<=90000:=by
   have:=zO (n:=40) λx l=>(c x l).1;lia
  exact(9,7,9,b7 (9,7,9,b7 (9,7,9,b7 (9,p,j,7,My.of i,λx l=>agx (c x l).1 ∅,6,.inr (.inr (c,d,G,J,λr z e b s m _ x=>q r z e b s x (j,7,m)))))))
def mF(wy:Nat)(os:List Int):Prop:=if wy=4 then ir os else nM wy os
def Yc(b:Addr)(H:Hp):Prop:=TabAt H b (zc gJ) iW.qual
def Vk(c:Addr)(wy:Nat)(os:List Int)(H:Hp)(Q:VK):Prop:=(wy<4->nM wy os -> ∀r b,H r=none->aM H b->b r=some (.lst (su wy os))->Q (.ref r) b) /\
 (wy=4->ir os -> ∀r t g d e f b,iu c H b->Yc c b->b r=some (.tup [.ref t,.ref g])->b t=some (.tup d)->qt b g iW e [.ref f]->Q (.ref r) b)
inductive Nv(cN:Addr)(Pl:Addr)(vs:List V)(H:Hp)(Q:VK)(E:XK):Prop
 | mk (p:Addr) (os:List Int) (wy:Nat) (_:vs=[.int (wy:Int),.ref p]) (_:wy<5) (_:H p=some (.lst !!os)) (_:os.length<=100000) (_:Yc Pl H) (_:Vk Pl wy os H Q) (_:(¬mF wy os -> ∀H',aM H H'->E (.ref cN) none H'))
theorem Bq(T:Tx K mg a)(B:Bs mg base a):bc P w K mg base (Xv P w) 13 a.aen a.adK ["_law_way","_law_octets"] (Nv a.Wy a.W9):=by
 refine T.aez.F.ok1 Ck (λj H Q E h=>?_) (λn A g s H j Q E d h=>?_)
 ·obtain⟨p,b,i,rfl,_⟩:=h;rfl
 obtain⟨p,b,i,rfl,l,e,f,m,⟨q,k⟩,c⟩:=h;refine(_,(ao (bx (aO dm (pv 0) aA) (aB (aG (bI T.aex (Dd T) ∅ d mX rfl (Wn 1 aj)))) aQ)
  (ao (bx (aO dm (pv 0) aA) (aB (aG (bI T.ab5 (qy T) ∅ d mX rfl (Wn 1 aj)))) aQ)
  (ao (bx (aO dm (pv 0) aA) (aB (aG (bI T.adf (xV T) ∅ d mX rfl (Wn 1 aj)))) aQ)
  (ao (bx (aO dm (pv 0) aA) (aB (aG (bI T.adg (xq T) ∅ d mX rfl (Wn 1 aj)))) aQ)
  (aB (aG (bI T.acF (wU T B) ∅ d mX rfl (Wn 1 aj)))))))),2)
 match i,l with
 |0,_=>exact(9,7,9,cF (9,p,b,7,e,f,q ∅,c))
 |1,_=>exact(9,7,9,b7 (9,7,9,cF (9,p,b,7,e,f,q ∅,c)))
 |2,_=>exact(9,7,9,b7 (9,7,9,b7 (9,7,9,cF (9,p,b,7,e,f,q ∅,c))))
 |3,_=>exact(9,7,9,b7 (9,7,9,b7 (9,7,9,b7 (9,7,9,cF (9,p,b,7,e,f,q ∅,c)))))
 |4,_=>exact(9,7,9,b7 (9,7,9,b7 (9,7,9,b7 (9,7,9,b7 (9,p,b,7,e,f,m,k rfl,c)))))
def ZC:HO:=.tup [.bl true,.bl true]
theorem five{σ:St}(h:σ.length=5):∃a b c d e,σ=[a,b,c,d,e]:=by
 match σ,h with
 |[_,_,_,_,_],_=>exact(1,1,9)
inductive Iv(Pl:Addr)(vs:List V)(H:Hp)(Q:VK)(_e1:XK):Prop
 | mk (p:Addr) (os:List Int) (wy:Nat) (_:vs=[.int (wy:Int),.ref p]) (_:wy<5) (_:H p=some (.lst !!os)) (_:os.length<=100000) (_:Yc Pl H) (_:Vk Pl wy os H Q) (_:(¬mF wy os -> ∀r H',H r=none->aM H H'->H' r=some ZC->Q (.ref r) H'))
theorem di(T:Tx K mg a)(B:Bs mg base a):bc P w K mg base Wt 14 a.aeo a.adL ["_law_way","_law_octets"] (Iv a.W9):=by
 refine T.YX.F.Wv fM λa1 A L s H vs Q E Y h=>?_;obtain⟨p,W,S,rfl,X,Z,hl,hT,⟨q,V⟩,U⟩:=h;refine(_,(ao (aC 2 fM.nd (fc (au cT (au cT aj))))
  (ao (aC 3 fM.nd FN)
  (ao (Uw rfl rfl (λ_ _=>(aB (aC 3 fM.nd (bI T.aez (Bq T B) ∅ Y VB rfl (Wn 0 (Wn 1 aj)))))) (Vc (i:=4) T.ZZ T.acK rfl fM.nd rfl rfl (λ_=>(aB (aC 2 fM.nd (fc (au (aL (show fZ _ _ (Sy K)from Eo) rfl T.YZ Tw.cA (Wn 4 (au (aV (v:=.ref a.W5) rfl T.afc rfl) aj))) (au (aL (show fZ _ _ (Sy K)from Eo) rfl T.YZ Tw.cA (Wn 4 (au (jn (v:=.ty "ValueError") rfl T.ae7 Tw.ye rfl) aj))) aj)))))) TQ))
  (ao (bx (lF (bD bO (pv 2) aA)) (aB (aG (pv 2))) aQ)
  (aB (aG (pv 3))))))),2)
 refine(sl2,λf G=>?_);have d:=aq G (.tup [.bl false,.bl false]);have u:upd H f (.tup [.bl false,.bl false]) f=some (.tup [.bl false,.bl false]):=aa;generalize upd H f (.tup [.bl false,.bl false])=H1 at *;have j:Yc a.W9 H1:=TabAt.same hT d;refine(8,p,W,S,7,X,d _ _ Z,hl,j,(λy x r l I c m=>?_,λy x r t g N cs bl l c J m O R=>?_),λk l c=>(9,λ a0 D=>?_))
 ·exact(9,f,_,5,Wq.of (c _ _ u),7,false,7,b7 (9,q y x r l (d.free I) (d.trans c) m))
 ·have C:=c _ _ u (TabAt.ne j u nofun);exact(9,f,_,5,Wq.of C,7,false,7,b7 (9,V y x r t g N cs bl l (λb o e n=>c b o (d _ _ e) n) J m O R))
 ·obtain⟨k0,k1,k2,k3,k4,rfl⟩:=five D;refine(true,T.aam,cF λz WT=>?_);have M:=(d.trans c).trans (aq WT (JM z a.Wy));exists 9,z,1,_,9,.inl (9,7),aa,T.acK,T.Y0;exists 9,z,1,_,9,.inr (9,7),aa,T.acK,T.aah;refine(sl2,λt ht=>?_);exact(9,t,_,5,Wq.of aa,7,true,7,cF (9,U k t _ (M.free ht) (M.trans (aq ht _)) (by rw[aa];rfl)))
theorem iG(ns:List Int):SeqAt.shaped (.list (ns.map PyData.int))=true/\PyData.eqv (.list (ns.map PyData.int)) (.list (ns.map PyData.int))=true:=by
 have c:=tL ns;have b:(PyData.list (ns.map PyData.int)).canLay0=true:=by
  simp only[PyData.canLay0,qP ns]
 refine(2,SeqAt.eqv_refl _ b);unfold SeqAt.shaped;rw[b,aiH];refine decide_eq_true ?_;simp only[PyData.depth];lia
theorem gF:SeqAt.shaped (.tuple [.bool true,.bool true])=true/\PyData.eqv (.tuple [.bool true,.bool true]) (.tuple [.bool true,.bool true])=true:=by
 have b:(PyData.tuple [.bool true,.bool true]).canLay0=true:=by
  simp only[PyData.canLayAll0,PyData.canLay0,ajG]
 refine(2,SeqAt.eqv_refl _ b);unfold SeqAt.shaped;rw[b,aiH];refine decide_eq_true ?_;simp only[PyData.depthAll,PyData.depth];lia
theorem qx{r:Addr}(h:H r=some ZC):ph K H (.ref r) (.tuple [.bool true,.bool true]):=.tup (Wq.of h) (.cons (.bl _) (.cons (.bl _) .nil))
theorem FJ{wy:Nat}{xs:List V}(c:wy<4)(h:ThX wy xs):∃ds,SeqAt.shaped (.list ds)=true/\PyData.eqv (.list ds) (.list ds)=true /\ ∀H,jm K H xs ds:=by
 match wy,c with
 |0,_=>
  obtain⟨b,rfl,_⟩:=h;exact(_,(iG b).1,(iG b).2,λH=>gA b)
 |1,_=>
  obtain⟨b,rfl,_⟩:=h;exact(_,(iG b).1,(iG b).2,λH=>gA b)
 |2,_=>
  obtain⟨b,rfl,_⟩:=h;exact(_,(iG b).1,(iG b).2,λH=>gA b)
 |3,_=>
  obtain⟨d,rfl,e,_⟩:=h;have:=J8 λw c=>(e w c).asc;exact(_,this.1,this.2,λH=>wX d)
inductive Qw(Pl:Addr)(vs:List V)(H:Hp)(Q:VK)(_e1:XK):Prop
 | mk (p:Addr) (os:List Int) (wy:Nat) (_:vs=[.int (wy:Int),.ref p]) (_:wy<5) (_:H p=some (.lst !!os)) (_:os.length<=100000) (_:Yc Pl H) (_:∀H',iu Pl H H'->Yc Pl H'->Q (.bl true) H')
theorem uc(T:Tx K mg a)(B:Bs mg base a):bc P w K mg base Wt 15 a.aep a.adM ["_law_way","_law_octets"] (Qw a.W9):=by
 refine T.acJ.F.Wv tR λa2 A a1 s H vs Q E y h=>?_;obtain⟨p,f,L,rfl,hw,hp,R,hT,q⟩:=h;refine(_,(ao (aC 2 tR.nd (aW T.YX (di T B) y (Wn 0 (au (bY cQ rfl T.X8 Tw.dM (Wn 1 aj)) aj))))
  (ao (bx (aO ((Ly y.units).or (S5 y.units)) (pv 2) (fc (au cT (au cT aj)))) (aB (aG cT)) aQ)
  (ao (bx (aO dm (pv 0) aA) (aB (aG (Af (aL iM rfl T.YZ Tw.cA (Wn 2 (au (jn (v:=.ty "tuple") rfl T.adX Tw.mZ rfl) aj))) (Bm (aL iM rfl T.YZ Tw.cA (au (aW T.YX (di T B) y (au aA (au (bY cQ rfl T.X8 Tw.dM (Wn 1 aj)) aj))) (au (jn (v:=.ty "list") rfl T.X8 Tw.dM rfl) aj))))))) aQ)
  (aB (aG (Af (aL iM rfl T.YZ Tw.cA (Wn 2 (au (jn (v:=.ty "list") rfl T.X8 Tw.dM rfl) aj))) (Bm (zW (Ly y.units) (aW T.aa6 (m8 T) y (Wn 0 (au (bY cQ rfl T.X8 Tw.dM (Wn 2 aj)) aj))) (pv 1))))))))),2)
 refine(8,p,9,.inl (My.of hp),λc hc=>?_);have C:=aq hc (.lst !!f);have W:upd H c (.lst !!f) c=some (.lst !!f):=aa;have l:=C _ _ hp;have n:Yc a.W9 (upd H c (.lst !!f)):=TabAt.same hT C;generalize upd H c (.lst !!f)=H1 at *;refine(c,f,L,7,hw,W,R,n,(λG S r H2 Y x i=>?_,λG S r t g ys cs bl H2 x a0 i xt xc=>?_),λj r H2 Y x i=>?_)
 ·refine(9,sl2,λk D=>?_);have d:=aq D ZC;obtain⟨ht,hu⟩:=Hy G R S;obtain⟨ds,d1,d2,d3⟩:=FJ (K:=K) G ht;refine .inl (.inr (.list ds,_,.lst (My.of (d _ _ i)) (d3 _),qx aa,d1,gF.1,2));rw[show PyData.eqv (.list ds) (.tuple [.bool true,.bool true])=false from rfl];refine(9,b7 ?_);refine(9,7,9,fB (λz=>absurd (V.int.inj (of_decide_eq_true z)) ⋯) λ_=>?_)
  refine(9,_,"list",_,true,7,.lst (d _ _ i),7,true,7,cF ?_)
  refine(8,r,9,.inl (My.of (d _ _ i)),λU m=>?_);have M:=d.trans (aq m (.lst (su L f)));refine(U,su L f,L,7,G,aa,ht,λr3 I H3 Yh O N X=>?_);have u:=x.trans (M.trans O);refine(9,.inl (r3,p,I,f,7,7,My.of N,My.of (u _ _ l),2));rw[decide_eq_true (hu I X)];exact q _ (iu.of (C.trans u)) (TabAt.same n u)
 ·refine(9,sl2,λk D=>?_);have d:=aq D ZC;subst G;refine .inr (r,k,t,g,ys,iW,cs,[.ref bl],7,7,Wq.of (d _ _ i),Wq.of aa,Wq.of (d _ _ xt),xc.same λb o e=>d _ _ e,2);refine(9,b7 ?_);refine(9,7,9,cF ?_)
  refine(9,_,"tuple",_,true,7,.tup (d _ _ i),7,true,7,cF ?_)
  have Z:=d _ _ (x _ _ l (TabAt.ne n l nofun));have J:Yc a.W9 _:=TabAt.same a0 d;refine(9,p,9,.inl (My.of Z),λU m=>?_);have M:=aq m (.lst !!f);refine(U,f,(1),7,4,aa,R,TabAt.same J M,(λ_ _ r2 H3 Yh O N=>?_,λz=>absurd z ∅),λj=>absurd S j);have u:=M.trans O
  exact(_,"list",_,true,7,.lst N,7,q _ (((iu.of C).trans x).trans (iu.of (d.trans u))) (TabAt.same J u))
 ·refine(9,sl2,λk D=>?_);have d:=aq D ZC;refine .inl (.inr (1,qx (d _ _ i),qx aa,gF.1,gF.1,2));rw[gF.2];have sA:=C.trans (x.trans d);exact(9,cF (q _ (iu.of sA) (TabAt.same hT sA)))
inductive Qy(Pl:Addr)(vs:List V)(H:Hp)(Q:VK)(_e1:XK):Prop
 | mk (p th:Addr) (os:List Int) (wy:Nat) (_:vs=[.int (wy:Int),.ref p,.ref th]) (_:wy<4) (_:H p=some (.lst !!os)) (_:os.length<=100000) (_:H th=some (.lst (su wy os))) (_:nM wy os) (_:Yc Pl H) (_:∀H',aM H H'->Q (.bl true) H')
theorem nJ(T:Tx K mg a)(B:Bs mg base a):bc P w K mg base Wt 15 a.aeq a.adN ["_law_way","_law_octets","_law_thing_here"] (Qy a.W9):=by
 refine T.abL.F.Wv lY λa0 A J s H vs Q E j h=>?_;obtain⟨p,th,b,d,rfl,u,O,R,G,S,hT,q⟩:=h;refine(_,(ao (aC 3 lY.nd (bY cQ rfl T.X8 Tw.dM (Wn 1 aj)))
  (ao (aC 4 lY.nd (aW T.YX (di T B) j (Wn 0 (Wn 3 aj))))
  (ao (bx (PW.pt (tO (gY (lF (aL iM rfl T.YZ Tw.cA (Wn 4 (au (jn (v:=.ty "list") rfl T.X8 Tw.dM rfl) aj))))) (tO (aO (jA j.units) (pv 4) (pv 2)) (o5 (aO (jA j.units) (pv 3) (pv 1)))))) (aB (aG cT)) aQ)
  (ao (bx (PW.pt (mR (aO tU (pv 0) aA) (kI (aO (jA j.units) (kJ rfl bR.zero (bJ (pv 4)) (λ_ _ _ _=>(uM (gY (lF (aW T.adT (Bg T) j (Wn 0 aj)))))) (λ_ _ _ _=>(pv 0))) (bM aj))))) (aB (aG cT)) aQ)
  (ao (bC (fD PySem.F.plainAttrs_list PySem.F.slot_list_append PySem.F.type_list_append bZ (pv 4) (au aA aj)))
  (aB (aG cT))))))),2)
 refine(9,p,9,.inl (My.of O),λc hc=>?_);have C:=aq hc (.lst !!b);have m:upd H c (.lst !!b) c=some (.lst !!b):=aa;generalize upd H c (.lst !!b)=H1 at *;refine(8,c,b,d,7,6,m,R,TabAt.same hT C,(λ_ _ r H2 I M g=>?_,λz=>absurd z ⋯),λt=>absurd (show mF d b by unfold mF;rw[if_neg ⋯];exact S) t);obtain⟨ht,_⟩:=Hy u R S;obtain⟨U,X,d2,W⟩:=FJ (K:=K) u ht;have f:=C.trans M
 refine(9,_,"list",_,true,7,.lst g,7,true,7,b7 ?_)
 refine(8,.inr (.list U,.list U,.lst (My.of g) (W _),.lst (My.of (f _ _ G)) (W _),X,X,2));rw[d2];refine(9,b7 (8,.inl (c,p,b,b,7,7,My.of (M _ _ m),My.of (f _ _ O),2)));rw[decide_eq_true rfl];refine(9,b7 ?_);have n:=C.free I;have Z:(su d b).length<=4096:=by
  match d,u with
  |0,_=>
   obtain⟨i,e,k,_⟩:=ht;rw[e,aaa];exact k
  |1,_=>
   obtain⟨i,e,k,_⟩:=ht;rw[e,aaa];lia
  |2,_=>
   obtain⟨i,e,k,_⟩:=ht;rw[e,aaa];exact k
  |3,_=>
   obtain⟨ws,e,_,_,k,_⟩:=ht;rw[e,aaa];lia
 have L:(su d b).length<sizeLine:=by
  rw[sizeLine_eq];lia
 refine(9,5,9,fB (λY=>?_) λ_=>b7 (9,.inl (7,_,My.of g),r,5,g,L,q _ (aZ f n _)));have Y:(d:Int)<3:=of_decide_eq_true Y;obtain⟨i,en⟩:∃i:List Int,su d b=i.map V.int:=by
  match d,u with
  |0,_=>exact(_,7)
  |1,_=>exact(_,7)
  |2,_=>exact(_,7)
  |3,_=>lia
 exists 9,r,7,(_,My.of g);refine Gp (λ_=>false) (My.of g) (by rw[sizeLine_eq];lia) (λx H' Q N _ q=>?_) (λx H' Q _ q=>(9,q)) λD hD=>?_
 ·rw[en]at N;obtain⟨z,_,rfl⟩:=afs.mp N;exact(9,z,7,true,7,q)
 have e0:(su d b).filter (λ_=>false)=[]:=by simp
 rw[e0];refine(sl0,λl o=>.inl (D,l,[],[],7,7,My.of (aq o _ _ _ aa),My.of aa,9,b7 ?_));have y:=(aq hD (.lst [])).trans (aq o (.lst []));exact(9,.inl (7,_,My.of (y _ _ g)),r,5,y _ _ g,L,q _ (aZ (f.trans y) n _))
theorem VN{K:PySem.W.Frag}{P p:Addr}{H':Hp}{xs:List V}(s:iu P H H')(b:Yc P H)(h:My K H p xs):My K H' p xs:=by
 obtain⟨c,b,_⟩:=b;rcases h with (e|⟨o,e⟩) | h
 ·exact .inl (.inl (s _ _ e λz=>by rw[z,b]at e;cases e))
 ·exact .inl (.inr (o,s _ _ e λz=>by rw[z,b]at e;cases e))
 ·exact .inr h
structure Lw(K:PySem.W.Frag)(Pl sa oc th:Addr)(zs os:List Int)(wy:Nat)(H:Hp):Prop where
 s:My K H sa ‹zs›
 o:H oc=some (.lst !!os)
 t:H th=some (.lst (su wy os))
 k:Yc Pl H
theorem Lw.same{e c d b:Addr}{zs os:List Int}{wy:Nat}{H H':Hp}(h:Lw K e c d b zs os wy H)(s:aM H H'):Lw K e c d b zs os wy H':=(s.seq h.s,s _ _ h.o,s _ _ h.t,TabAt.same h.k s)
theorem Lw.sameT{zs os:List Int}{wy:Nat}{H':Hp}(h:Lw K f C S dx zs os wy H)(s:iu f H H')(k:Yc f H'):Lw K f C S dx zs os wy H':=(VN s h.k h.s,s _ _ h.o (TabAt.ne h.k h.o nofun),s _ _ h.t (TabAt.ne h.k h.t nofun),k)
theorem Jt{wy:Nat}{os:List Int}(b:wy<4)(h:nM wy os):dN os:=by
 match wy,b with
 |0,_=>exact h.1
 |1,_=>exact h.1
 |2,_=>exact h.1
 |3,_=>exact h.oc
theorem m7{wy:Nat}{os:List Int}(b:wy<5)(h:mF wy os):os[0]?=some ((if wy=4 then 1 else (wy:Int))+1)/\5<=os.length:=by
 unfold mF at h;by_cases c:wy=4
 ·rw[if_pos c]at h;rw[if_pos c];exact jk (wy:=1) ∅ h
 ·rw[if_neg c]at h;rw[if_neg c];exact jk ⋯ h
theorem Sx{K:PySem.W.Frag}{Q:VK}(c:H f=some ZC)(b:H C=some ZC)(q:Q (.bl false) H):T7 K (.ref f) (.ref C) H Q\/Tv K (.ref f) (.ref C) H Q:=by
 refine .inr (1,qx c,qx b,gF.1,gF.1,2);rw[gF.2];exact q
theorem PU.andC{σ:St}{t u:TT}{F G:Bool->Prop}(k:PU H σ t F)(j:F true->PU H σ u G):PU H σ (UV t u) (λb=>b=true->F true/\G true):=λd Q s q=>k d _ s λb g e f=>by
 cases b
 ·exact b7 (q false g e λz=>absurd z ∅)
 ·exact cF (j f g _ (s.trans e) λc l h i=>q c l (e.trans h) λz=>(f,by rw[<-z];exact i))
theorem PU.orT{σ:St}{t u:TT}{F G:Bool->Prop}(k:PU H σ t F)(j:PU H σ u G):PU H σ (tOr t u) (λb=>b=true->F true\/G true):=λd Q s q=>k d _ s λb f e i=>by
 cases b
 ·exact b7 (j f _ (s.trans e) λc l g h=>q c l (e.trans g) λz=>.inr (by rw[<-z];exact h))
 ·exact cF (q true f e λ_=>.inl i)
theorem PU.orN{σ:St}{t u:TT}(j:PU H σ t (· = false))(i:PU H σ u (· = false)):PU H σ (tOr t u) (· = false):=λd Q s q=>j d _ s λb l e h=>by
 cases b
 ·exact b7 (i l _ (s.trans e) λc k f g=>q c k (e.trans f) g)
 ·cases h
theorem Mp{σ:St}{t u:TE}{i j:Int}(g:WQ H σ t i)(f:WQ H σ u j):PU H σ (Dl (Ym rNe t u)) (λb=>(!decide (i=j))=b):=λc _ s q=>
 g c _ s λk d=>f k _ (s.trans d) λh e=>(7,9,q _ h (d.trans e) (by rw[oA];rfl))
theorem Ql{σ:St}{t:TE}{ns:List Int}(h:MV H σ t ns):ML H σ (tCB (λxs b Q=>∃p ys,xs=[V.ref p]/\(My K b p ys\/Wq K b p ys) /\ ∀l,b l=none->Q (.ref l) (upd b l (.lst ys))) (lN t Dz)) ns:=λb _ s q=>
 h b _ s λr f c e=>(r,9,.inl (My.of e),λl d=>q l _ (c.free d) (c.trans (aq d _)) aa)
theorem qL{σ:St}{t :TE}{wy:Nat}{os:List Int}{E:XK}(v:WQ H σ t (wy:Int))(u:MV H σ ta os)(n:wy<5)(o:os.length<=100000)(p:Yc f H)(c:¬mF wy os):
  PU H σ (Dl (Ym (λx y b Q=>T7 K x y b Q\/Tv K x y b Q) (CJ (Iv f) [] E (lN t (lN ta Dz))) (UT (lN (tC (.bl true)) (lN (tC (.bl true)) Dz))))) (· = false):=λb _ s q=>
 v b _ s λz d=>u z _ (s.trans d) λr D g l=>(r,os,wy,7,n,l,o,TabAt.same p (s.trans (d.trans g)),(λi e=>absurd (show mF wy os by unfold mF;rw[if_neg ⋯];exact e) c,λi e=>absurd (show mF wy os by unfold mF;rw[if_pos i];exact e) c),λ_ A C B m j=>(sl2,λk h=>Sx (aq h _ _ _ j) aa (9,q false _ (((d.trans g).trans m).trans (aq h _)) rfl)))
inductive afv(K:PySem.W.Frag)(Pl:Addr)(vs:List V)(H:Hp)(Q:VK)(_e1:XK):Prop
 | mk (s:Addr) (ns:List Int) (_:vs=[.ref s]) (_:My K H s !!ns) (_:ns.length<=63) (_:Yc Pl H) (_:∀H',Q (.bl true) H')
theorem Kw{s :Addr}{ns:List Int}(c:My K H s !!ns)(b:ns.length<=63)(d:H f=some (.WW #[])):afv K f [.ref s] H (λv _=>v=.bl true) λ_ _ _=>False:=
 (s,ns,7,c,b,(#[],d,by simp;exact trivial,.inl rfl),λ_=>rfl)
theorem Th(T:Tx K mg a)(B:Bs mg base a):bc P w K mg base Wt 16 a.afQ a.afC ["_law_script"] (afv K a.W9):=by
 refine T.afX.F.Wv gq λd0 A c3 s H vs Q E f h=>?_;obtain⟨D,d,rfl,hS,hl,hT,q⟩:=h;refine(_,(ao (aC 1 gq.nd (aD bL (aW T.aa5 (mU T) f (Wn 0 (au aA aj))) aA))
  (ao (aC 2 gq.nd (aW T.adW (Am T) f (Wn 1 (Wn 0 aj))))
  (ao (aC 3 gq.nd (bY cQ rfl T.X8 Tw.dM (Wn 2 aj)))
  (ao (aC 4 gq.nd (aW T.aa6 (m8 T) f (Wn 1 (Wn 3 aj))))
  (ao (bx (PW.pt (tO (aO (jA f.units) (pv 3) (pv 2)) (o5 (gY (lF (aL iM rfl T.YZ Tw.cA (Wn 4 (au (jn (v:=.ty "list") rfl T.X8 Tw.dM rfl) aj)))))))) (aB (aG cT)) aQ)
  (Q9 (bx (aO dm (pv 1) aA) (aB (aC 2 gq.nd (aL wO rfl T.aeD Tw.rD (Wn 2 aj)))) aQ)
  (ao (bA PassesOwn.never rfl (dh rfl T.XD (au aA aj)) (aR 5 gq.nd) (ao (bx (PW.pt (mR (aO wF (pv 5) (pv 1)) (mR (PW.pt (tO (aO wF (pv 5) aA) (o5 (aO wF (pv 1) aA)))) (kI (aO (jA f.units) (aW T.YX (di T B) f (Wn 5 (au (bY cQ rfl T.X8 Tw.dM (Wn 4 aj)) aj))) (fc (au cT (au cT aj)))))))) (aB (aG cT)) aQ)
  (ao (aC 6 gq.nd (bF cI (pv 4) cH (bH (aD bL (aW T.aa5 (mU T) f (Wn 0 (au aA aj))) aA))))
  (aB (bx (PW.pt (tO (aO (jA f.units) (aW T.YX (di T B) f (Wn 5 (au (bM aj) aj))) (fc (au cT (au cT aj)))) (o5 (aO (jA f.units) (aW T.YX (di T B) f (Wn 5 (Wn 6 aj))) (fc (au cT (au cT aj))))))) (aB (aG cT)) aQ)))))
  (ao (bx (gY (lF (aW T.abL (nJ T B) f (Wn 1 (Wn 4 (Wn 2 aj)))))) (aB (aG cT)) aQ)
  (ao (bA PassesOwn.never rfl (bJ (aD dG (bM (au (oH jD aA) aj)) (bF cI (pv 0) cH (bH aA)))) (aR 7 gq.nd) (ao (aC 8 gq.nd (aD bL (aD bL (aD bG (pv 7) aA) aA) (aL aN rfl T.WF Tw.bB (Wn 4 aj))))
  (ao (aC 9 gq.nd (aD dG (aD dG (bF cI (pv 4) cH (bH (pv 8))) (bM (au (aD Ua (bD dI (pv 4) (pv 8)) (aD Ug aA (aD bL (pv 7) aA))) aj))) (bF cI (pv 4) (bH (aD bj (pv 8) aA)) cH)))
  (ao (bx (PW.pt (mR (aO wF (pv 1) aA) (kI (gY (lF (aW T.acJ (uc T B) f (Wn 1 (Wn 9 aj)))))))) (aB (aG cT)) aQ)
  (aB (bx (PW.pt (mR (aO dm (pv 1) aA) (kI (PW.pt (tO (aO (jA f.units) (aW T.YX (di T B) f (au aA (Wn 9 aj))) (fc (au cT (au cT aj)))) (o5 (aO (jA f.units) (aW T.YX (di T B) f (au aA (Wn 9 aj))) (fc (au cT (au cT aj)))))))))) (aB (aG cT)) aQ))))))
  (ao (bx (gY (lF (aW T.abL (nJ T B) f (Wn 1 (Wn 4 (Wn 2 aj)))))) (aB (aG cT)) aQ)
  (ao (bA PassesOwn.never rfl (dh rfl T.XD (au aA aj)) (aR 10 gq.nd) (aB (bA PassesOwn.never rfl (dh rfl T.XD (au aA aj)) (aR 5 gq.nd) (aB (bx (gY (lF (aW T.acJ (uc T B) f (Wn 5 (au (aD dG (bM (Wn 10 aj)) (bF cI (pv 4) (bH aA) cH)) aj))))) (aB (aG cT)) aQ)))))
  (aB (aG (aW T.abL (nJ T B) f (Wn 1 (Wn 4 (Wn 2 aj))))))))))))))))),2)
 obtain⟨b,ew,O⟩:∃b:Nat,(d[0]?).getD 0%4=(b:Int)/\b<4:=(((d[0]?).getD 0%4).toNat,6,6);refine Nj (WQ.to (v6 (Hr (n:=0) (k:=0) rfl hS pK rfl) pK (by show (0:Int)<4;decide)) ew) λH0 s0=>?_
 clear ew
 refine(8,D,d,b,7,O,s0.seq hS,hl,λp xs H1 b1 I R ht YM=>?_)
 replace I:=s0.trans I
 refine(9,p,9,.inl (My.of R),λhd a4=>?_);have s2:=aq a4 (.lst xs);have x2:upd H1 hd (.lst xs) hd=some (.lst xs):=aa
 replace R:=s2 _ _ R
 replace I:=I.trans s2
 generalize upd H1 hd (.lst xs)=H2 at *;refine(8,hd,xs,b,7,O,x2,ht,λC u H3 b4 s3 x3 Z=>?_);obtain⟨X,hv,c8⟩:=Rq O YM ht Z;obtain⟨ds,d1,d2,d3⟩:=FJ (K:=K) O ht
 replace R:=s3 _ _ R
 replace x2:=s3 _ _ x2
 replace I:=I.trans s3
 refine(8,.inr (.list ds,.list ds,.lst (My.of x2) (d3 _),.lst (My.of R) (d3 _),d1,d1,2));rw[d2]
 refine(9,b7 (9,_,"list",_,true,7,.lst x3,7,true,7,b7 ?_))
 exists λ l J=>(∃(p:Addr),l=[!!!D,some (.int (b:Int)),!!!p,!!!hd,!!!C,none,none,none,none,none,none]/\Lw K a.W9 D C p d u b J),2
 ·refine(9,7,9,fB (λz=>?_) λz=>?_)
  ·have z:b=3:=by
    have:=V.int.inj (of_decide_eq_true z);lia
   subst z;obtain⟨ws,rfl,hW,nd,c5,c0⟩:=ht;obtain⟨us,e,b3⟩:=Z;obtain rfl:=vH e;obtain⟨_,ts,hB,ev⟩:=u0 hW c0 b3;refine(9,p,ws,7,My.of R,6,λt2 ms b2 pm up=>(t2,7,2));have em:ms=nq u:=by
    rw[ev];refine rZ (vP up (pm.symm.nodup nd)) (hB.up.sublist ai2) λx=>?_;rw[pm.mem_iff,ahM,decide_eq_true_iff];exact(λz=>((hB.mem x).mpr (.inr (x,z,x.length,(qQ x (aae _)).symm)),z),λz=>z.2)
   have s4:=aq b2 (.lst (ms.map V.str));exact((I.trans s4).seq hS,s4 _ _ x3,by rw[aa,em];rfl,TabAt.same hT (I.trans s4))
  ·have z:b<3:=by
    have:b≠3:=λe=>z (decide_eq_true (by rw[e];rfl));lia
   exact(p,7,I.seq hS,x3,by rw[hv z];exact R,TabAt.same hT I)
 clear ht Z hv YM d1 d2 d3 R x2 x3 I b1 a4 b4
 rintro l H4 ⟨p,rfl,L⟩;have h5:=(jk O X).2;have b9:=Jt O X;refine((5),7,4,4,2);refine eY (n:=5) (λj l J=>(∃(G k6:Option V),l=[!!!D,some (.int (b:Int)),!!!p,!!!hd,!!!C,G,k6,none,none,none,none])/\Lw K a.W9 D C p d u b J) ((3,3,7),L) ?_ ?_
 ·rintro j l H5 S ⟨⟨G,k6,rfl⟩,L⟩;have S:j<5:=S;rw[aiy];refine PU.arm (PU.andC (Mp (gh rfl) (gh rfl)) λW=>PU.andC (PU.orT (Mp (gh rfl) pK) (Mp (gh rfl) pK)) λc2=>qL (gh rfl) (Ql (jK rfl L.o)).v S ⋯ L.k λg=>?_) (λH6 s6 hb=>absurd ((hb rfl).2 rfl).2 ∅) λH6 s6 _=>?_
  ·have g0:=(m7 S g).1;rw[(jk O X).1]at g0;have g0:=aat g0;have W:(j:Int)≠(b:Int):=by simpa using W
   have c2:(j:Int)≠4\/(b:Int)≠1:=by simpa using c2 rfl
   split at g0<;>lia
  replace L:=L.same s6
  obtain⟨m,em,hm⟩:∃m:Nat,(d[1]?).getD 0%5=(m:Int)/\m<5:=(((d[1]?).getD 0%5).toNat,6,6);refine OJ (RZ (j:=m) (jK rfl L.o) (v6 (Hr (n:=0) (k:=1) rfl L.s pK rfl) pK (by show (0:Int)<5;decide)) em) λr7 H7 c7 s7 x7=>?_
  replace L:=L.same s7
  refine PU.arm (PU.orN (qL (gh rfl) (Gs (ms:=[]) Gf ∅).v S ∅ L.k λg=>?_) (qL (gh rfl) (jK rfl x7) S ?_ L.k λg=>?_)) (λH8 s8 hb=>absurd hb ∅) λH8 s8 _=>((_,9),L.same s8)
  ·have:=(m7 S g).2;exact absurd this ∅
  ·rw[aaq];lia
  ·have:=(m7 S g).2;rw[aaq]at this;lia
 rintro l H5 ⟨⟨G,k6,rfl⟩,L⟩;refine(8,9,C,p,u,b,7,O,L.o,6,L.t,X,L.k,λH6 s6=>(true,7,b7 ?_))
 replace L:=L.same s6
 refine(9,sl1,λl1 b6=>?_);have s7:=aq b6 (.lst [.int (-1)]);refine(8,D,9,s7.seq L.s,λc hc=>?_);have ec:dR ‹d› none (some 3)=(d.take 3).map V.int:=oM d 3;rw[ec];have s8:=aq hc (.lst ‹d.take 3›);refine(l1,c,[.int (-1)],9,7,s8 _ _ aa,aa,by rw[aaa,aaq,sizeLine_eq];show 1+_<=_;lia,λl3 b5=>?_);have s9:=s7.trans (s8.trans (aq b5 (.lst ([.int (-1)]++(d.take 3).map V.int))));have N:upd (upd (upd H6 l1 (.lst [.int (-1)])) c (.lst ‹d.take 3›)) l3 (.lst ([.int (-1)]++(d.take 3).map V.int)) l3=some (.lst ‹((-1)::d.take 3)›):=aa
 replace L:=L.same s9
 generalize upd (upd (upd H6 l1 (.lst [.int (-1)])) c (.lst ‹d.take 3›)) l3 (.lst ([.int (-1)]++(d.take 3).map V.int))=H7 at *;exists l3,7,(_,My.of N);refine bV (xs:=((-1)::d.take 3).map V.int) (λj l J=>(∃(k7 k8 k9:Option V),l=[!!!D,some (.int (b:Int)),!!!p,!!!hd,!!!C,G,k6,k7,k8,k9,none])/\Lw K a.W9 D C p d u b J/\J l3=some (.lst ‹((-1)::d.take 3)›)) ((3,3,3,7),L,N) ?_ ?_ ?_
 ·rintro j l J _ ⟨_,_,h⟩;exact My.of h
 ·rintro j x l H8 hx ⟨⟨k7,k8,k9,rfl⟩,L,N⟩;obtain⟨cc,c9,rfl⟩:=int_at hx;obtain⟨i,ei,hi⟩:∃i:Nat,cc*69621%2147483629%(u.length:Int)=(i:Int)/\i<u.length:=by
   have h1:=ahj (cc*69621%2147483629) (show (u.length:Int)≠0 by lia);have h2:=ag9 (cc*69621%2147483629) (show (0:Int)<(u.length:Int) by lia);exact((cc*69621%2147483629%(u.length:Int)).toNat,6,6)
  refine Nj (WQ.to (v6 (v6 (v6 (gh rfl) pK (.inr (4,4))) pK (by show (0:Int)<2147483629;decide)) (Uy (jK rfl L.o)) (by show (0:Int)<(u.length:Int);lia)) ei) λH9 s9=>?_
  clear ei
  replace L:=L.same s9
  replace N:=s9 _ _ N
  obtain⟨k,ek,hk⟩:∃k:Nat,cc%8=(k:Int)/\k<8:=((cc%8).toNat,6,6);have a3:=b9 _ (age hi);refine OJ (Hk (Hk (RZ (j:=i) (jK rfl L.o) (gh rfl) rfl).v (Gs (ms:=[YK u[i] k]) (Iw (WQ.to (PL (Tt (jK rfl L.o) (gh rfl) rfl (aab hi)) (v6 pK (WQ.to (v6 (gh rfl) pK (by show (0:Int)<8;decide)) ek) (6,6,4))) (by rw[aaz];exact Qz a3.1 a3.2 hk)) Gf) (by show 1<=500000;decide)).v ?_).v (Jk (j:=i+1) (jK rfl L.o) (PL (gh rfl) pK) ⋯).v ?_) λtu a5 c6 a1 U=>?_
  ·rw[aaq];show _+1<=_;lia
  ·rw[aac,aaq,aaM];show _+1+_<=_;lia
  replace L:=L.same a1
  replace N:=a1 _ _ N
  rw[Qa hi]at U;have a0:(u.set i (YK u[i] k)).length<=100000:=by
   rw[ahN];lia
  by_cases W:b=1
  ·subst W;have a2:=Hg X (aab hi) hk;refine(9,7,9,fB (λz=>absurd z ∅) λ_=>b7 ?_);exact PU.arm (PU.andC (U9 (gh rfl) pK) λ_=>PU.orN (qL (wy:=1) (WQ.to pK rfl) (jK rfl U) ∅ a0 L.k a2) (qL (wy:=4) (WQ.to pK rfl) (jK rfl U) ∅ a0 L.k a2)) (λM y hb=>absurd (hb rfl).2 ∅) λM y _=>((1,9),L.same y,y _ _ N)
  ·have W:V.int (b:Int)≠V.int 1:=λe=>W (by have:=V.int.inj e;lia);refine(9,7,9,fB (λ_=>?_) λz=>absurd (by rw[decide_eq_false W];rfl) z);refine(8,tu,_,b,7,6,U,a0,L.k,λM y b0=>(true,7,b7 ?_));exact(9,7,9,fB (λz=>absurd (of_decide_eq_true z) W) λ_=>b7 ((1,9),L.sameT y b0,y _ _ N (TabAt.ne L.k N nofun)))
 rintro l H8 ⟨⟨k7,k8,k9,rfl⟩,L,_⟩;refine(8,9,C,p,u,b,7,O,L.o,6,L.t,X,L.k,λH9 s9=>(true,7,b7 ?_))
 replace L:=L.same s9
 refine((6),7,4,4,2);refine eY (n:=6) (λj l J=>(∃(G Y:Option V),l=[!!!D,some (.int (b:Int)),!!!p,!!!hd,!!!C,G,k6,k7,k8,k9,Y])/\Lw K a.W9 D C p d u b J) ((_,9),L) ?_ ?_
 ·rintro j l a5 S ⟨⟨G,Y,rfl⟩,L⟩;refine((5),7,4,4,2);refine eY (n:=5) (λi l J=>(∃(G:Option V),l=[!!!D,some (.int (b:Int)),!!!p,!!!hd,!!!C,G,k6,k7,k8,k9,some (.int (0+(j:Int)))])/\Lw K a.W9 D C p d u b J) ((_,7),L) ?_ ?_
  ·rintro i l M hi ⟨⟨G,rfl⟩,L⟩;rw[aiy (i:Int)];exists 9;refine Hk (Gs (Iw (gh rfl) Gf) (by show 1<=500000;decide)).v (Jk (j:=1) (jK rfl L.o) pK rfl).v (by rw[aaM];show 1+_<=_;lia) _ _ (.refl _) λr d5 c4 a8 a6=>?_
   replace L:=L.same a8
   exact(r,_,i,7,hi,a6,by rw[aac,aaM];show 1+_<=_;lia,L.k,λd4 a7 a9=>(true,7,b7 ((_,7),L.sameT a7 a9)))
  ·rintro l M ⟨⟨G,rfl⟩,L⟩;exact((_,9),L)
 rintro l a5 ⟨⟨G,Y,rfl⟩,L⟩;exact(8,9,C,p,u,b,7,O,L.o,6,L.t,X,L.k,λM y=>q _)
end
theorem Up{l:PySem.W.OpenLaw}{w:World}{K:PySem.W.Frag}{mg:Str->Option Value}{f3 f4 f5 f6 f7 f8 f9 l6 l5 l4 l3 l2 l1 l0 k8 k7 k6 k5 k4 k3 k2 k1 k0 j3 j2 j1 i9 i8 i7 i6 i5 i4 i3 i2 i1 i0 h9 h8 h7 h6 h5 h4 h3 h2 h1 h0 g9 g8 g7 g6 g5 g4 g3 g2 g1 g0 e9 d9 c8 c7 c6 c5 c4 c3 c2 c1 c0 b9 b6 b5 b4:Addr}{e1 e2 e3 e4 e5 e6 e7 e8 t6 t5 t4 t3 t2 t1 t0 s9 s8 s7 s6 s5 s4 s3 s2 s1 s0 r9 r8 r7 r6 r5 r4 r3 r2 r1 r0 q8 q7 q6 q5 q4 q3 q2 q1 q0 p9 p5 p4 p3 p2 p1 p0 o3 o2 o1 o0 n9 n8 n7 n5 n4 n3 n2 n1 n0 m5 m4 m3 m2 m1 m0 l8 l7:FuncData}{b0 B7:Option Addr}{a7:Array (Option Value)}{b1 t7 a8 B6:Value}{p k j m t r i o c n O J I M:Tok}{Yn E X7 Yi Xz Xk YG D:Addr}{U W9:Addr}{x:Value}{A:Option Addr}{u:Array (Option Value)}{mb:Str->Option Value}{a6:ExcName->Option Value}(X:K.In h')(TT:PyProof.Rows.Top prog N a6 mg mb h')(b2:mg "law" = !!!f)
  (d0:FI K "packed" vY C fd)
  (d1:FI K "check_row" mQ S e1)
  (d2:FI K "block_of" pA dx e2)
  (d3:FI K "unpacked" oW f3 e3)
  (d4:FI K "bit_in" vz f4 e4)
  (d5:FI K "bits_of" sV f5 e5)
  (d6:FI K "ones_in" tG f6 e6)
  (d7:FI K "nets_of" tD f7 e7)
  (d8:FI K "low_in" uX f8 e8)
  (a9:PySem.W.nsIn K mainGlobals "look_of" = some (!!!f9))(l9:K.lookup f9=some (cd,b0,.func (PySem.W.fnOf "look_of" "look_of" (ν eQ) (μ eQ) (δ eQ) .none b1 t7 a8 B7 (.ref U) B6),a7))(c9:PySem.W.codeIn K (.ref U) "look_of" = true)(k9:PySem.W.keepIn K (.ref f9)=true)
  (E6:K.lookup U=some (x,A,.fields y,u))(E5:y[11]?=!!!W9)(Q:∃d,(PyProof.Rows.recsOf prog).find? (λe=>e.name==("look_of" : Str))=some d)
  (B5:FI K "octets_of" m6 l6 t6)
  (B4:FI K "number_of" mG l5 t5)
  (B3:FI K "kept_row" pB l4 t4)
  (B2:FI K "ahead_of" pD l3 t3)
  (B1:FI K "heap_of" rO l2 t2)
  (B0:FI K "size_of" sU l1 t1)
  (A9:FI K "lesser_of" nj l0 t0)
  (A8:FI K "is_tree" rH k8 s9)
  (A7:FI K "check_brackets" gB k7 s8)
  (A6:FI K "kept_brackets" gZ k6 s7)
  (A5:FI K "low_of" wQ k5 s6)
  (A4:FI K "base_of" q9 k4 s5)
  (A3:FI K "end_within" kj k3 s4)
  (A2:FI K "check_depths" jc k2 s3)
  (A1:FI K "brackets_of" jH k1 s2)
  (A0:FI K "depths_of" nQ k0 s1)
  (z5:FI K "kept_tree" mY j3 s0)
  (z4:FI K "check_signs" jG j2 r9)
  (z3:FI K "kept_signs" j4 j1 r8)
  (z2:FI K "ranks_among" jF i9 r7)
  (z1:FI K "level_count" jN i8 r6)
  (z0:FI K "level_rows" jX i7 r5)
  (y9:FI K "parted" v4 i6 r4)
  (y8:FI K "ranks_of" o8 i5 r3)
  (y7:FI K "check_words" jy i4 r2)
  (y6:FI K "beginnings_of" ie i3 r1)
  (y5:FI K "parts_of" oO i2 r0)
  (y4:FI K "words_of" pH i1 q8)
  (y3:FI K "text_below" lB i0 q7)
  (y2:FI K "numbers_octets" gw h9 q6)
  (y1:FI K "bits_octets" jw h8 q5)
  (y0:FI K "row_octets" j8 h7 q4)
  (x9:FI K "tree_octets" jB h6 q3)
  (x8:FI K "signs_octets" iZ h5 q2)
  (x7:FI K "store_octets" je h4 q1)
  (x6:FI K "read_row" pI h3 q0)
  (x5:FI K "read_tree" nR h2 p9)
  (x4:FI K "read_signs" kY h1 p5)
  (x3:FI K "read_store" kW h0 p4)
  (x2:FI K "opened_tree" jz g9 p3)
  (x1:FI K "read_as" rP g8 p2)
  (x0:FI K "check_octets" iV g7 p1)
  (w9:FI K "number_at" lX g6 p0)
  (w8:FI K "numbers_at" j0 g5 o3)
  (w7:FI K "block_total" jx g4 o2)
  (w4:FI K "bits_at" sZ g3 o1)
  (w3:FI K "told_bits" nD g2 o0)
  (w2:FI K "told_depths" jC g1 n9)
  (w1:FI K "told_signs" lD g0 n8)
  (w0:FI K "kind_of" sG e9 n7)
  (v3:FI K "told_words" jY d9 n5)
  (v2:FI K "_law_cell_at" jM c8 n4)
  (v1:FI K "_law_whole" mK c7 n3)
  (v0:FI K "_law_bits" o4 c6 n2)
  (u8:FI K "_law_depths" lE c5 n1)
  (u7:FI K "_law_signs" mW c4 n0)
  (u6:FI K "_law_words" m9 c3 m5)
  (u4:FI K "_law_thing" nF c2 m4)
  (u3:FI K "_law_written" ju c1 m3)
  (u2:FI K "_law_read" o6 c0 m2)
  (u1:FI K "_law_told" o7 b9 m1)
  (t9:FI K "_law_some" pF b6 m0)
  (t8:FI K "_law_good" o9 b5 l8)
  (P:FI K "law" Lz b4 l7)
  (F0:PySem.W.nsIn K mainGlobals "ValueError" = some none)
  (C0:PySem.W.nsIn K mainGlobals "bool" = some none)
  (H7:PySem.W.nsIn K mainGlobals "enumerate" = some none)
  (D1:PySem.W.nsIn K mainGlobals "int" = some none)
  (E9:PySem.W.nsIn K mainGlobals "isinstance" = some none)
  (D0:PySem.W.nsIn K mainGlobals "len" = some none)
  (B9:PySem.W.nsIn K mainGlobals "list" = some none)
  (C9:PySem.W.nsIn K mainGlobals "min" = some none)
  (C4:PySem.W.nsIn K mainGlobals "range" = some none)
  (E4:PySem.W.nsIn K mainGlobals "reversed" = some none)
  (C8:PySem.W.nsIn K mainGlobals "set" = some none)
  (D4:PySem.W.nsIn K mainGlobals "sorted" = some none)
  (C7:PySem.W.nsIn K mainGlobals "sum" = some none)
  (C3:PySem.W.nsIn K mainGlobals "tuple" = some none)
  (C6:PySem.W.nsIn K mainGlobals "zip" = some none)
  (E8:PySem.W.nsIn K mainGlobals "BLOCK_BITS" = some (some (.int 32 p)))
  (I4:PySem.W.nsIn K mainGlobals "BLOCK_OCTETS" = some (some (.int 4 k)))
  (I3:PySem.W.nsIn K mainGlobals "COUNT_OCTETS" = some (some (.int 2 j)))
  (I5:PySem.W.nsIn K mainGlobals "KIND_OCTETS" = some (some (.int 26 m)))
  (D6:PySem.W.nsIn K mainGlobals "LETTERS" = some (some (.str "abcdefghijklmnopqrstuvwxyz" t)))
  (H6:PySem.W.nsIn K mainGlobals "MOST_BITS" = some (some (.int 4096 r)))
  (I2:PySem.W.nsIn K mainGlobals "MOST_LETTERS" = some (some (.int 40 i)))
  (E7:PySem.W.nsIn K mainGlobals "MOST_NODES" = some (some (.int 2048 o)))
  (I1:PySem.W.nsIn K mainGlobals "MOST_NUMBERS" = some (some (.int 4096 c)))
  (H5:PySem.W.nsIn K mainGlobals "MOST_SIGNS" = some (some (.int 4096 n)))
  (C5:PySem.W.nsIn K mainGlobals "ROW" = some (some (.int 1 O)))
  (C2:PySem.W.nsIn K mainGlobals "SIGNS" = some (some (.int 3 J)))
  (C1:PySem.W.nsIn K mainGlobals "STORE" = some (some (.int 4 I)))
  (B8:PySem.W.nsIn K mainGlobals "TREE" = some (some (.int 2 M)))
  (Z:PySem.W.nsIn K mainGlobals "NoBit" = some (!!!Yn))
  (a4:PySem.W.nsIn K mainGlobals "NoOctets" = some (!!!E))
  (a2:PySem.W.nsIn K mainGlobals "NoSign" = some (!!!X7))
  (a1:PySem.W.nsIn K mainGlobals "NoTree" = some (!!!Yi))
  (a0:PySem.W.nsIn K mainGlobals "NoWord" = some (!!!Xz))
  (a3:PySem.W.nsIn K mainGlobals "TooMany" = some (!!!Xk))
  (Y:PySem.W.nsIn K mainGlobals "Twice" = some (!!!YG))
  (a5:PySem.W.nsIn K mainGlobals "WoodError" = some (!!!D))
  (D3:PySem.W.excIn K Yn YB "ValueError.__new__" = true)
  (E2:PySem.W.excIn K E YB "ValueError.__new__" = true)
  (E1:PySem.W.hasDictIn K E=true)
  (H4:PySem.W.findIn K (.ref E) "__getattribute__" = some (some (.builtin "BaseException.__getattribute__")))
  (H3:PySem.W.findIn K (.ref E) "__getattr__" = some none)
  (H2:PySem.W.findIn K (.ref E) "__class__" = some (some (.builtin "object.__class__")))
  (H1:PySem.W.specialIn K (.builtin "object.__class__") "__get__" = some (some (.builtin "getset_descriptor.__get__")))
  (H0:PySem.W.takesIn K (.builtin "object.__class__")=some true)
  (G2:PySem.W.mroIn K E (.type "object")=some true)
  (G1:PySem.W.mroIn K E (.type "BaseException")=some true)
  (H9:PySem.W.kitOne K (.ref E) (.ref E)=some true)
  (Y0:PySem.W.kitOne K (.ref E) (.ref D)=some true)
  (I0:PySem.W.kitOne K (.ref E) (.type "ValueError")=some true)
  (D5:PySem.W.excIn K X7 YB "ValueError.__new__" = true)
  (Z0:PySem.W.kitOne K (.ref X7) (.ref D)=some true)
  (D8:PySem.W.excIn K Yi YB "ValueError.__new__" = true)
  (Z1:PySem.W.kitOne K (.ref Yi) (.ref D)=some true)
  (D7:PySem.W.excIn K Xz YB "ValueError.__new__" = true)
  (Z2:PySem.W.kitOne K (.ref Xz) (.ref D)=some true)
  (E3:PySem.W.excIn K Xk YB "ValueError.__new__" = true)
  (Zc:PySem.W.kitOne K (.ref Xk) (.ref D)=some true)
  (D2:PySem.W.excIn K YG YB "ValueError.__new__" = true)
  (H8:PySem.W.kitOne K (.ref YG) (.ref D)=some true)
  (G0:PySem.W.excIn K D YB "ValueError.__new__" = true)
  (F8:PySem.W.hasDictIn K D=true)
  (F7:PySem.W.findIn K (.ref D) "__getattribute__" = some (some (.builtin "BaseException.__getattribute__")))
  (F6:PySem.W.findIn K (.ref D) "__getattr__" = some none)
  (F5:PySem.W.findIn K (.ref D) "__class__" = some (some (.builtin "object.__class__")))
  (F4:PySem.W.specialIn K (.builtin "object.__class__") "__get__" = some (some (.builtin "getset_descriptor.__get__")))
  (F3:PySem.W.takesIn K (.builtin "object.__class__")=some true)
  (F2:PySem.W.mroIn K D (.type "object")=some true)
  (F1:PySem.W.mroIn K D (.type "BaseException")=some true)
  (nt:PySem.W.noTabs K=true):
  ∃(b:FuncData) (L:List (Addr×Addr)) (sp:Sp),(∀(s:Shared) (v:Value),BindsTo s b ([v],[]) [(pq ("_law_script") v)])/\PySem.W.TabsAt L h'/\PySem.W.noTabs K=true/\(∀base:Heap,K.In base->base.Ns mainGlobals mg->BMain mg base->(∀q∈L,PySem.W.CodeHd base q.1 q.2)->bc l.prog w K mg base Wt 16 f b ["_law_script"] sp) /\
   ∀(H:Hp) (a:Addr) (ns:List Int),ns.length<=63->My K H a ‹ns›->(∀q∈L,H q.2=some (.WW #[]))->sp [.ref a] H (λv _=>v=.bl true) λ_ _ _=>False:=by
 have G:=TT.g;have e:=b2.symm.trans (PySem.W.mg_of X G P.a);cases e;obtain⟨_,_,_,_,_,_,_,_,_,rfl,_,_⟩:=P.F.ex;have F9:=Ob (st:=eQ) l9 c9 k9
 have D9:Df K mg "look_of" eQ ["blocks"] _ _:=(F9,F9.binds (ps:=["blocks"]) λ_ _ _ _ _ _ us hl=>Sh (C:=λus=>bindArgs _ (us,[])=pure (aiw (["blocks"]:List Str) us)) hl (λ_=>rfl),PySem.W.mg_of X G a9)
 have T:Tx K mg (U,W9,1,1,1,1,1,1,1,1,1,1,1,1,1,1,1,1,1,1,1,1,1,1,1,1,1,1,1,1,1,1,1,1,1,1,1,1,1,1,1,1,1,1,1,1,1,1,1,1,1,1,1,1,1,1,1,1,1,1,1,1,1,1,1,1,1,1,1,1,1,1,1,1,1,1,1,1,1,1,1,1,1,Yn,E,X7,Yi,Xz,Xk,YG,D):=(Wx X G d0,Wx X G d1,Wx X G d2,W8 X G d3,W8 X G d4,W8 X G d5,W8 X G d6,W8 X G d7,W8 X G d8,D9,W8 X G B5,Wx X G B4,Wx X G B3,Wx X G B2,Wx X G B1,Wx X G B0,W8 X G A9,Wx X G A8,Wx X G A7,Wx X G A6,Zu X G A5,W8 X G A4,W8 X G A3,Wx X G A2,Wx X G A1,Wx X G A0,Wx X G z5,Wx X G z4,Wx X G z3,W8 X G z2,Wx X G z1,W8 X G z0,W8 X G y9,W8 X G y8,Wx X G y7,Wx X G y6,Wx X G y5,Zu X G y4,Zu X G y3,W8 X G y2,W8 X G y1,Wx X G y0,Wx X G x9,Wx X G x8,Wx X G x7,Wx X G x6,Wx X G x5,Wx X G x4,Wx X G x3,Wx X G x2,Zu X G x1,Wx X G x0,Zu X G w9,df4 X G w8,Wx X G w7,Zu X G w4,Wx X G w3,Wx X G w2,Wx X G w1,W8 X G w0,Wx X G v3,W8 X G v2,Wx X G v1,Wx X G v0,Wx X G u8,Wx X G u7,Wx X G u6,W8 X G u4,W8 X G u3,W8 X G u2,W8 X G u1,W8 X G t9,Zu X G t8,Wx X G P,PySem.W.mg_none_of X G F0,PySem.W.mg_none_of X G C0,PySem.W.mg_none_of X G H7,PySem.W.mg_none_of X G D1,PySem.W.mg_none_of X G E9,PySem.W.mg_none_of X G D0,PySem.W.mg_none_of X G B9,PySem.W.mg_none_of X G C9,PySem.W.mg_none_of X G C4,PySem.W.mg_none_of X G E4,PySem.W.mg_none_of X G C8,PySem.W.mg_none_of X G D4,PySem.W.mg_none_of X G C7,PySem.W.mg_none_of X G C3,PySem.W.mg_none_of X G C6,PySem.W.mg_of X G E8,PySem.W.mg_of X G I4,PySem.W.mg_of X G I3,PySem.W.mg_of X G I5,PySem.W.mg_of X G D6,PySem.W.mg_of X G H6,PySem.W.mg_of X G I2,PySem.W.mg_of X G E7,PySem.W.mg_of X G I1,PySem.W.mg_of X G H5,PySem.W.mg_of X G C5,PySem.W.mg_of X G C2,PySem.W.mg_of X G C1,PySem.W.mg_of X G B8,PySem.W.mg_of X G Z,PySem.W.mg_of X G a4,PySem.W.mg_of X G a2,PySem.W.mg_of X G a1,PySem.W.mg_of X G a0,PySem.W.mg_of X G a3,PySem.W.mg_of X G Y,PySem.W.mg_of X G a5,(PySem.W.mg_of X G Z,D3),(PySem.W.mg_of X G a4,E2),(E1,H4,H3,H2,H1,H0,G2,G1),H9,Y0,I0,(PySem.W.mg_of X G a2,D5),Z0,(PySem.W.mg_of X G a1,D8),Z1,(PySem.W.mg_of X G a0,D7),Z2,(PySem.W.mg_of X G a3,E3),Zc,(PySem.W.mg_of X G Y,D2),H8,(PySem.W.mg_of X G a5,G0),(F8,F7,F6,F5,F4,F3,F2,F1),7);obtain⟨R,Q⟩:=Q;have B:=PySem.W.tab_of TT X Q (Oq a9 l9 rfl E6 E5);exact(_,[(pq U W9)],afv K W9,λs v=>.of_eq rfl,List.forall_mem_cons.mpr (B,λ_ z=>nomatch z),nt,λbase _ _ bm hc=>Th T (bm,hc _ (.head _)),λH a ns hl hS b3=>Kw hS hl (b3 _ (.head _)))
end Tw
end
namespace Tp
open PySem
noncomputable section
abbrev O:=Params→Obj
def sq (l:List Str):Nat→List Value:=@List.rec Str (λ_=>Nat→List Value) (λ_=>[]) (λs _ ih t=>Value.str s t::ih (Nat.add t 1)) l
def ap {α:Type} (a b:List α):List α:=@List.rec α (λ_=>List α) b (λx _ r=>x::r) a
def tk {α:Type} (l:List α):Nat→List α:=@List.rec α (λ_=>Nat→List α) (λ_=>[]) (λx _ ih n=>@Nat.rec (λ_=>List α) [] (λm _=>x::ih m) n) l
def mp {α β:Type} (f:α→β) (l:List α):List β:=@List.rec α (λ_=>List β) [] (λx _ r=>f x::r) l
def ov (l:List O):List (Nat×O)→List O:=@List.rec O (λ_=>List (Nat×O)→List O) (λ_=>[]) (λx _ ih ex=>@List.rec (Nat×O) (λ_=>List O) (x::ih []) (λe r _=>@Nat.rec (λ_=>List O) (e.2::ih r) (λg _=>x::ih ((g,e.2)::r)) e.1) ex) l
def ev (l:List Obj):Bool→List Obj:=@List.rec Obj (λ_=>Bool→List Obj) (λ_=>[]) (λx _ ih b=>@Bool.rec (λ_=>List Obj) (ih true) (x::ih false) b) l
def bt (n:Nat):List Obj→PySem.W.BT:=@Nat.rec (λ_=>List Obj→PySem.W.BT) (λ_=>.nil) (λ_ ih l=>@List.rec Obj (λ_=>PySem.W.BT) .nil (λx xs _=>.node x (ih (ev xs true)) (ih (ev xs false))) l) n
def Z (s:Str) (t:Nat) (v:Value) (P:Params):DictEntry:=.mk (PyData.keyHash P s) (.str s t) v
def E (s:Str) (t r:Nat) (P:Params):DictEntry:=.mk (PyData.keyHash P s) (.str s t) (.ref r)
def gd (l:List (Params→DictEntry)) (n:Nat) (P:Params):Obj:=.mk (.type "dict") none (.dict (mp (λe=>e P) l).toArray n) #[]
def tb (l:List (Nat×Nat)) (P:Params):Obj:=.mk .none none (.fields (@List.rec (Nat×Nat) (λ_=>List Value) [] (λx _ r=>.int (Int.ofNat x.1) 0::.int 0 0::.ref x.2::r) l).toArray) #[]
def h0 (x0:Nat) (x1:Nat) (x2:Nat) (x3:Str):List O:=[λP=>(.mk (.type "tuple") none (.seq #[(.ref 24)] 0) #[]),λP=>(.mk (.type "builtin_function_or_method") none (.fields #[(.builtin "type.__prepare__"),(.type "type")]) #[]),λP=>(.mk (.type "dict") none (.dict #[(.mk (PyData.keyHash P "__module__") (.str "__module__" (Nat.add x0 7)) (.str "thinwood.errors" 187)),(.mk (PyData.keyHash P "__qualname__") (.str "__qualname__" (Nat.add x0 9)) (.str x3 (Nat.add x0 8))),(.mk (PyData.keyHash P "__firstlineno__") (.str "__firstlineno__" (Nat.add x0 11)) (.int (Int.ofNat x1) (Nat.add x0 10))),(.mk (PyData.keyHash P "__static_attributes__") (.str "__static_attributes__" (Nat.add x0 12)) (.ref (Nat.add x2 7)))] 4) #[]),λP=>(.mk (.type "tuple") none (.seq #[] 0) #[]),λP=>(.mk .none none (.fields #[]) #[]),λP=>(.mk (.type "code") none (.fields #[(.str x3 (Nat.add x0 2)),(.str x3 (Nat.add x0 3)),(.str "/claim/cut.py" (Nat.add x0 4)),(.int (Int.ofNat x1) 0),(.int 0 0),(.int 0 0),(.int 0 0),(.int 0 0),(.ref (Nat.add x2 3)),(.bool .false),(.int 181 0),(.ref (Nat.add x2 4)),.none,.none,.none,.none,(.int (Int.ofNat (Nat.add x0 5)) 0),(.int (Int.ofNat x1) 0),(.str "/claim/cut.py" (Nat.add x0 6))]) #[]),λP=>(.mk (.type "frame") none .plain #[(some (.ref (Nat.add x2 5))),(some (.ref 3)),(some (.ref (Nat.add x2 2))),none,(some (.str "thinwood.errors" 187)),none,(some (.ref 0))]),λP=>(.mk (.type "tuple") none (.seq #[] 0) #[]),λP=>(.mk (.type "dict") none (.dict #[(.mk (PyData.keyHash P "__module__") (.str "__module__" (Nat.add x0 7)) (.str "thinwood.errors" 187)),(.mk (PyData.keyHash P "__firstlineno__") (.str "__firstlineno__" (Nat.add x0 11)) (.int (Int.ofNat x1) (Nat.add x0 10))),(.mk (PyData.keyHash P "__static_attributes__") (.str "__static_attributes__" (Nat.add x0 12)) (.ref (Nat.add x2 7))),(.mk (PyData.keyHash P "__doc__") (.str "__doc__" (Nat.add x0 13)) .none)] 2) #[]),λP=>(.mk (.type "type") none (.cls (.mk x3 [(.ref 24)] [(.ref (Nat.add x2 9)),(.ref 24),(.type "ValueError"),(.type "Exception"),(.type "BaseException"),(.type "object")] (Nat.add x2 8) x3 .true [] [] .false none .false)) #[(!!!x2),none,(some (.str x3 x0)),(some (.str x3 (Nat.add x0 8))),(some (.builtin "ValueError.__new__")),(some (.bool .true))]),λP=>(.mk (.type "super") none (.fields #[(.ref (Nat.add x2 9)),(.ref (Nat.add x2 9)),(.ref (Nat.add x2 9))]) #[]),λP=>(.mk (.type "builtin_function_or_method") none (.fields #[(.builtin "object.__init_subclass__"),(.ref (Nat.add x2 9))]) #[])]
def h1 (x0:Nat) (x1:Nat) (x2:Nat) (x3:Nat) (x4:Nat) (x5:Nat) (x6:Str) (x7:Str):List O:=[λP=>(.mk (.type "tuple") none (.seq #[] 0) #[]),λP=>(.mk .none none (.fields #[]) #[]),λP=>(.mk .none none (.func (FuncData.mk x6 x6 (L2.ν (Tw.top x0)) (FuncBody.stmts (L2.μ (Tw.top x0))) (L2.δ (Tw.top x0)) 0 [] .none .none .none .none none .none .none 0)) #[]),λP=>(.mk (.type "code") none (.fields #[(.str x6 x1),(.str x6 (Nat.add x1 1)),(.str "/claim/cut.py" (Nat.add x1 2)),(.int (Int.ofNat x2) 0),(.int (Int.ofNat x3) 0),(.int 0 0),(.int 0 0),(.int 3 0),(.ref x4),(.bool .true),(.int 181 0),(.ref (Nat.add x4 1)),.none,.none,.none,(.ref (Nat.add x4 2)),(.int (Int.ofNat (Nat.add x1 3)) 0),(.int (Int.ofNat x2) 0),(.str "/claim/cut.py" (Nat.add x1 4))]) #[]),λP=>(.mk (.type "function") none (.func (FuncData.mk x6 x6 (L2.ν (Tw.top x0)) (FuncBody.stmts (L2.μ (Tw.top x0))) (L2.δ (Tw.top x0)) 3 [] .none .none .none (.str x7 x5) none (.ref (Nat.add x4 3)) .none 0)) #[])]
def h2 (x0:Nat) (x1:Nat) (x2:Nat) (x3:Nat) (x4:Nat) (x5:Nat) (x6:Nat) (x7:List Str) (x8:Str) (x9:Str):List O:=[λP=>(.mk (.type "tuple") none (.seq #[] 0) #[]),λP=>(.mk .none none (.fields #[]) #[]),λP=>(.mk (.type "tuple") none (.seq (sq x7 (Nat.add x0 3)).toArray 0) #[]),λP=>(.mk (.type "tuple") none (.seq #[] 0) #[]),λP=>(.mk .none none (.func (FuncData.mk x8 x8 (L2.ν (Tw.top x1)) (FuncBody.stmts (L2.μ (Tw.top x1))) (L2.δ (Tw.top x1)) 0 [] .none .none .none .none none .none .none 0)) #[]),λP=>(.mk (.type "code") none (.fields #[(.str x8 x0),(.str x8 (Nat.add x0 1)),(.str "/claim/cut.py" (Nat.add x0 2)),(.int (Int.ofNat x2) 0),(.int (Int.ofNat x3) 0),(.int 0 0),(.int 0 0),(.int 3 0),(.ref x4),(.bool .true),(.int 181 0),(.ref (Nat.add x4 1)),.none,(.ref (Nat.add x4 2)),(.ref (Nat.add x4 3)),(.ref (Nat.add x4 4)),(.int (Int.ofNat x5) 0),(.int (Int.ofNat x2) 0),(.str "/claim/cut.py" (Nat.add x5 1))]) #[]),λP=>(.mk (.type "function") none (.func (FuncData.mk x8 x8 (L2.ν (Tw.top x1)) (FuncBody.stmts (L2.μ (Tw.top x1))) (L2.δ (Tw.top x1)) 3 [] .none .none .none (.str x9 x6) none (.ref (Nat.add x4 5)) .none 0)) #[])]
def g0:List (Params→DictEntry):=[Z "__doc__" 166 .none,Z "__package__" 167 .none,Z "__loader__" 168 (.builtin "__main__.__loader__#opaque"),Z "__spec__" 169 .none,E "__annotations__" 170 6,E "__builtins__" 171 4,Z "__file__" 173 (.str "/claim/cut.py" 172),Z "__cached__" 174 .none,E "WoodError" 206 24,E "TooMany" 222 37]
def g1:List (Params→DictEntry):=[E "NoBit" 238 49,E "NoPlace" 254 61,E "NoTree" 270 73,E "NoSign" 286 85,E "NoWord" 302 97,E "Twice" 318 109,E "NoOctets" 334 121,Z "BLOCK_BITS" 338 (.int 32 337),Z "MOST_BITS" 340 (.int 4096 339),E "packed" 346 128]
def g2:List (Params→DictEntry):=[E "check_row" 354 135,E "block_of" 363 142,E "unpacked" 373 149,E "bit_in" 381 156,E "bits_of" 387 161,E "ones_in" 395 168,E "nets_of" 406 175,E "low_in" 414 182,E "look_of" 423 189,E "octets_of" 436 196]
def g3:List (Params→DictEntry):=[E "number_of" 445 203,E "kept_row" 455 210,E "ahead_of" 464 217,Z "MOST_NUMBERS" 468 (.int 4096 467),E "heap_of" 478 224,E "size_of" 486 231,E "lesser_of" 494 238,E "is_tree" 506 245,E "check_brackets" 513 252,E "kept_brackets" 519 257]
def g4:List (Params→DictEntry):=[E "low_of" 528 264,E "base_of" 536 271,E "end_within" 544 278,Z "MOST_NODES" 548 (.int 2048 547),E "check_depths" 557 285,E "brackets_of" 567 292,E "depths_of" 577 299,E "kept_tree" 584 306,Z "MOST_SIGNS" 588 (.int 4096 587),E "check_signs" 596 313]
def g5:List (Params→DictEntry):=[E "kept_signs" 608 320,E "ranks_among" 614 325,E "level_count" 621 332,E "level_rows" 627 337,E "parted" 633 342,E "ranks_of" 646 349,Z "LETTERS" 650 (.str "abcdefghijklmnopqrstuvwxyz" 649),Z "MOST_LETTERS" 652 (.int 40 651),E "check_words" 661 356,E "beginnings_of" 667 361]
def g6:List (Params→DictEntry):=[E "parts_of" 673 366,E "words_of" 679 371,E "text_below" 688 378,Z "ROW" 692 (.int 1 691),Z "TREE" 694 (.int 2 693),Z "SIGNS" 696 (.int 3 695),Z "STORE" 698 (.int 4 697),Z "COUNT_OCTETS" 700 (.int 2 699),Z "BLOCK_OCTETS" 702 (.int 4 701),Z "KIND_OCTETS" 704 (.int 26 703)]
def g7:List (Params→DictEntry):=[E "numbers_octets" 714 385,E "bits_octets" 722 392,E "row_octets" 730 399,E "tree_octets" 743 406,E "signs_octets" 749 411,E "store_octets" 757 418,E "read_row" 764 425,E "read_tree" 771 432,E "read_signs" 778 439,E "read_store" 785 446]
def g8:List (Params→DictEntry):=[E "opened_tree" 793 453,E "read_as" 804 460,E "check_octets" 812 467,E "number_at" 821 474,E "numbers_at" 827 479,E "block_total" 834 486,E "bits_at" 843 493,E "told_bits" 850 500,E "told_depths" 857 507,E "told_signs" 863 512]
def g9:List (Params→DictEntry):=[E "kind_of" 871 519,E "told_words" 882 526,E "_law_cell_at" 892 533,E "_law_whole" 899 540,E "_law_bits" 911 547,E "_law_depths" 924 554,E "_law_signs" 936 561,E "_law_words" 949 568,E "_law_thing" 957 575,E "_law_written" 965 582]
def g10:List (Params→DictEntry):=[E "_law_read" 973 589,E "_law_told" 984 596,E "_law_some" 993 603,E "_law_good" 999 608,E "law" 1016 615]
def gg:List (Params→DictEntry):=ap g0 (ap g1 (ap g2 (ap g3 (ap g4 (ap g5 (ap g6 (ap g7 (ap g8 (ap g9 (g10))))))))))
def tt:List (Nat×Nat):=[((2),20),((4),33),((6),45),((8),57),(10,69),(12,81),(14,93),(16,105),(18,117),(23,127),(26,134),(32,141),(37,148),(44,155),(46,160),(48,167),(50,174),(57,181),(59,188),(66,195),(73,202),(79,209),(82,216),(89,223),(97,230),(102,237),(109,244),(116,251),(120,256),(127,263),(129,270),(131,277),(135,284),(143,291),(152,298),(161,305),(165,312),(171,319),(181,324),(186,331),(188,336),(196,341),(200,348),(211,355),(220,360),(225,365),(235,370),(242,377),(252,384),(257,391),(259,398),(262,405),(270,410),(281,417),(284,424),(286,431),(288,438),(290,445),(292,452),(295,459),(305,466),(309,473),(313,478),(315,485),(317,492),(319,499),(321,506),(323,511),(334,518),(338,525),(345,532),(349,539),(351,546),(361,553),(376,560),(388,567),(399,574),(407,581),(415,588),(425,595),(435,602),(442,607),(451,614)]
def s0:O:=gd (Z "__name__" 165 (.str "law_thinwood_k89_whole_octets" 883)::tk gg 105) 106
def l0:O:=λP=>(.mk (.type "tuple") none (.seq #[] 0) #[])
def s1:O:=tb (tk tt 83)
def l1:O:=λP=>(.mk (.type "code") none (.fields #[(.str "<module>" 182),(.str "<module>" 183),(.str "/claim/cut.py" 184),(.int 1 0),(.int 0 0),(.int 0 0),(.int 0 0),(.int 0 0),(.ref 11),(.bool .false),(.int 181 0),(.ref 12),.none,.none,.none,.none,(.int 185 0),(.int 1 0),(.str "/claim/cut.py" 186)]) #[])
def l2:O:=λP=>(.mk (.type "frame") none .plain #[(some (.ref 13)),(some (.ref 3)),(some (.ref 3)),none,(some (.str "__main__" 164)),none,(some (.ref 0))])
def l3:O:=λP=>(.mk (.type "tuple") none (.seq #[(.type "ValueError")] 0) #[])
def l4:O:=λP=>(.mk (.type "builtin_function_or_method") none (.fields #[(.builtin "type.__prepare__"),(.type "type")]) #[])
def l5:O:=λP=>(.mk (.type "dict") none (.dict #[(.mk (PyData.keyHash P "__module__") (.str "__module__" 196) (.str "thinwood.errors" 187)),(.mk (PyData.keyHash P "__qualname__") (.str "__qualname__" 198) (.str "WoodError" 197)),(.mk (PyData.keyHash P "__firstlineno__") (.str "__firstlineno__" 200) (.int 2 199)),(.mk (PyData.keyHash P "__static_attributes__") (.str "__static_attributes__" 201) (.ref 22))] 4) #[])
def l6:O:=λP=>(.mk .none none (.fields #[]) #[])
def l7:O:=λP=>(.mk (.type "code") none (.fields #[(.str "WoodError" 191),(.str "WoodError" 192),(.str "/claim/cut.py" 193),(.int 2 0),(.int 0 0),(.int 0 0),(.int 0 0),(.int 0 0),(.ref 18),(.bool .false),(.int 181 0),(.ref 19),.none,.none,.none,.none,(.int 194 0),(.int 2 0),(.str "/claim/cut.py" 195)]) #[])
def l8:O:=λP=>(.mk (.type "frame") none .plain #[(some (.ref 20)),(some (.ref 3)),(some (.ref 17)),none,(some (.str "thinwood.errors" 187)),none,(some (.ref 0))])
def l9:O:=λP=>(.mk (.type "dict") none (.dict #[(.mk (PyData.keyHash P "__module__") (.str "__module__" 196) (.str "thinwood.errors" 187)),(.mk (PyData.keyHash P "__firstlineno__") (.str "__firstlineno__" 200) (.int 2 199)),(.mk (PyData.keyHash P "__static_attributes__") (.str "__static_attributes__" 201) (.ref 22)),(.mk (PyData.keyHash P "__weakref__") (.str "__weakref__" 203) (.ref 25)),(.mk (PyData.keyHash P "__doc__") (.str "__doc__" 204) .none)] 3) #[])
def l10:O:=λP=>(.mk (.type "type") none (.cls (.mk "WoodError" [(.type "ValueError")] [(.ref 24),(.type "ValueError"),(.type "Exception"),(.type "BaseException"),(.type "object")] 23 "WoodError" .true [] [(.ref 37),(.ref 49),(.ref 61),(.ref 73),(.ref 85),(.ref 97),(.ref 109),(.ref 121)] .false none .false)) #[(some (.ref 15)),none,(some (.str "WoodError" 189)),(some (.str "WoodError" 197)),(some (.builtin "ValueError.__new__")),(some (.bool .true))])
def l11:O:=λP=>(.mk (.type "getset_descriptor") none (.fields #[(.str "__weakref__" 202),(.ref 24),(.builtin "ExceptionGroup.__weakref__"),.none]) #[])
def l12:O:=λP=>(.mk (.type "super") none (.fields #[(.ref 24),(.ref 24),(.ref 24)]) #[])
def l13:O:=λP=>(.mk (.type "builtin_function_or_method") none (.fields #[(.builtin "object.__init_subclass__"),(.ref 24)]) #[])
def d1:List O:=h0 207 4 28 "TooMany"
def d2:List O:=h0 223 6 40 "NoBit"
def d3:List O:=h0 239 8 52 "NoPlace"
def d4:List O:=h0 255 10 64 "NoTree"
def d5:List O:=h0 271 12 76 "NoSign"
def d6:List O:=h0 287 14 88 "NoWord"
def d7:List O:=h0 303 16 100 "Twice"
def d8:List O:=h0 319 18 112 "NoOctets"
def d9:List O:=h1 13 341 23 1 124 335 "packed" "thinwood.blocks"
def d10:List O:=h2 347 14 26 1 129 352 335 ["bits","bit"] "check_row" "thinwood.blocks"
def d11:List O:=h2 355 15 32 1 136 361 335 ["bits","block","bit"] "block_of" "thinwood.blocks"
def d12:List O:=h2 364 16 37 2 143 371 335 ["blocks","many","bits","block"] "unpacked" "thinwood.blocks"
def d13:List O:=h2 374 17 44 2 150 379 335 ["block","k"] "bit_in" "thinwood.blocks"
def d14:List O:=h1 18 382 46 2 157 335 "bits_of" "thinwood.blocks"
def d15:List O:=h2 388 19 48 2 162 393 335 ["block","upto"] "ones_in" "thinwood.blocks"
def d16:List O:=h2 396 20 50 2 169 404 335 ["block","upto","nets","net","bit"] "nets_of" "thinwood.blocks"
def d17:List O:=h2 407 21 57 2 176 412 335 ["block","upto"] "low_in" "thinwood.blocks"
def l14:O:=λP=>(.mk (.type "tuple") none (.seq #[(.str "blocks" 418),(.str "look" 419)] 0) #[])
def l15:O:=λP=>(.mk (.type "tuple") none (.seq #[(.str "kept" 420)] 0) #[])
def l16:O:=λP=>(.mk .none none (.func (FuncData.mk "look_of" "look_of" (L2.ν (Tw.top 22)) (FuncBody.stmts (L2.μ (Tw.top 22))) (L2.δ (Tw.top 22)) 0 [] .none .none .none .none none .none .none 0)) #[])
def l17:O:=λP=>(.mk (.type "code") none (.fields #[(.str "look_of" 415),(.str "look_of" 416),(.str "/claim/cut.py" 417),(.int 59 0),(.int 1 0),(.int 0 0),(.int 0 0),(.int 3 0),(.ref 183),(.bool .true),(.int 181 0),(.ref 184),.none,(.ref 185),(.ref 186),(.ref 187),(.int 421 0),(.int 59 0),(.str "/claim/cut.py" 422)]) #[])
def l18:O:=λP=>(.mk (.type "function") none (.func (FuncData.mk "look_of" "look_of" (L2.ν (Tw.top 22)) (FuncBody.stmts (L2.μ (Tw.top 22))) (L2.δ (Tw.top 22)) 3 [] .none .none .none (.str "thinwood.blocks" 335) none (.ref 188) .none 0)) #[])
def d19:List O:=h2 426 24 66 2 190 434 424 ["number","many","octets","rest","k"] "octets_of" "thinwood.octets"
def d20:List O:=h2 437 25 73 1 197 443 424 ["octets","number","octet"] "number_of" "thinwood.octets"
def d21:List O:=h2 448 27 79 1 204 453 446 ["bits","blocks"] "kept_row" "thinwood.rows"
def d22:List O:=h2 456 28 82 1 211 462 446 ["blocks","ahead","block"] "ahead_of" "thinwood.rows"
def d23:List O:=h2 469 31 89 1 218 476 465 ["numbers","size","nodes","node"] "heap_of" "thinwood.heaps"
def d24:List O:=h2 479 32 97 1 225 484 465 ["many","size"] "size_of" "thinwood.heaps"
def d25:List O:=h2 487 33 102 2 232 492 465 ["one","other"] "lesser_of" "thinwood.heaps"
def d26:List O:=h2 497 35 109 1 239 504 495 ["bits","level","at","bit"] "is_tree" "thinwood.brackets"
def d27:List O:=h2 507 36 116 1 246 511 495 ["bits"] "check_brackets" "thinwood.brackets"
def d28:List O:=h1 37 514 120 1 253 495 "kept_brackets" "thinwood.brackets"
def d29:List O:=h2 520 38 127 3 258 526 495 ["tables","number","block"] "low_of" "thinwood.brackets"
def d30:List O:=h2 529 39 129 2 265 534 495 ["tables","number"] "base_of" "thinwood.brackets"
def d31:List O:=h2 537 40 131 2 272 542 495 ["number","upto"] "end_within" "thinwood.brackets"
def d32:List O:=h2 549 43 135 1 279 555 545 ["depths","ahead","depth"] "check_depths" "thinwood.shapes"
def d33:List O:=h2 558 44 143 1 286 565 545 ["depths","bits","unclosed","depth"] "brackets_of" "thinwood.shapes"
def d34:List O:=h2 568 45 152 1 293 575 545 ["bits","depths","unclosed","bit"] "depths_of" "thinwood.shapes"
def d35:List O:=h2 578 46 161 1 300 582 545 ["depths"] "kept_tree" "thinwood.shapes"
def d36:List O:=h2 589 49 165 1 307 594 585 ["signs","sign"] "check_signs" "thinwood.signs"
def d37:List O:=h2 597 50 171 1 314 606 585 ["signs","kinds","aheads","blocks","bits","row"] "kept_signs" "thinwood.signs"
def d38:List O:=h1 51 609 181 2 321 585 "ranks_among" "thinwood.signs"
def d39:List O:=h2 615 52 186 1 326 619 585 ["kind_count"] "level_count" "thinwood.signs"
def d40:List O:=h1 53 622 188 2 333 585 "level_rows" "thinwood.signs"
def d41:List O:=h1 54 628 196 2 338 585 "parted" "thinwood.signs"
def d42:List O:=h2 634 55 200 2 343 644 585 ["rows","many","ranks","order","bits","at","bit"] "ranks_of" "thinwood.signs"
def d43:List O:=h2 653 59 211 1 350 659 647 ["words","word","letter"] "check_words" "thinwood.stores"
def d44:List O:=h1 60 662 220 1 357 647 "beginnings_of" "thinwood.stores"
def d45:List O:=h1 61 668 225 1 362 647 "parts_of" "thinwood.stores"
def d46:List O:=h1 62 674 235 3 367 647 "words_of" "thinwood.stores"
def d47:List O:=h2 680 63 242 3 372 686 647 ["ahead","depth","letter"] "text_below" "thinwood.stores"
def d48:List O:=h2 705 72 252 2 379 712 689 ["numbers","size","octets","number"] "numbers_octets" "thinwood.written"
def d49:List O:=h2 715 73 257 2 386 720 689 ["blocks","ahead"] "bits_octets" "thinwood.written"
def d50:List O:=h2 723 74 259 1 393 728 689 ["bits","kept"] "row_octets" "thinwood.written"
def d51:List O:=h2 731 75 262 1 400 741 689 ["depths","kept","tables","blocks","first","lows","count"] "tree_octets" "thinwood.written"
def d52:List O:=h1 76 744 270 1 407 689 "signs_octets" "thinwood.written"
def d53:List O:=h2 750 77 281 1 412 755 689 ["words","parts"] "store_octets" "thinwood.written"
def d54:List O:=h2 758 78 284 1 419 762 689 ["octets"] "read_row" "thinwood.written"
def d55:List O:=h2 765 79 286 1 426 769 689 ["octets"] "read_tree" "thinwood.written"
def d56:List O:=h2 772 80 288 1 433 776 689 ["octets"] "read_signs" "thinwood.written"
def d57:List O:=h2 779 81 290 1 440 783 689 ["octets"] "read_store" "thinwood.written"
def d58:List O:=h2 786 82 292 1 447 791 689 ["octets","kept"] "opened_tree" "thinwood.written"
def d59:List O:=h2 794 83 295 3 454 802 689 ["octets","tell","write","told","again"] "read_as" "thinwood.written"
def d60:List O:=h2 805 84 305 1 461 810 689 ["octets","octet"] "check_octets" "thinwood.written"
def d61:List O:=h2 813 85 309 3 468 819 689 ["octets","at","size"] "number_at" "thinwood.written"
def d62:List O:=h1 86 822 313 4 475 689 "numbers_at" "thinwood.written"
def d63:List O:=h2 828 87 315 1 480 832 689 ["many"] "block_total" "thinwood.written"
def d64:List O:=h2 835 88 317 3 487 841 689 ["octets","at","many"] "bits_at" "thinwood.written"
def d65:List O:=h2 844 89 319 1 494 848 689 ["octets"] "told_bits" "thinwood.written"
def d66:List O:=h2 851 90 321 1 501 855 689 ["octets"] "told_depths" "thinwood.written"
def d67:List O:=h1 91 858 323 1 508 689 "told_signs" "thinwood.written"
def d68:List O:=h2 864 92 334 2 513 869 689 ["kinds","rank"] "kind_of" "thinwood.written"
def d69:List O:=h2 872 93 338 1 520 880 689 ["octets","depths","behind_tree","letters","ends"] "told_words" "thinwood.written"
def d70:List O:=h2 885 95 345 2 527 890 883 ["_law_script","_law_k"] "_law_cell_at" "law_thinwood_k89_whole_octets"
def d71:List O:=h2 893 96 349 1 534 897 883 ["_law_found"] "_law_whole" "law_thinwood_k89_whole_octets"
def d72:List O:=h2 900 97 351 1 541 909 883 ["_law_script","_law_bits_here","_law_cell","_law_number","_law_piece","_law_k"] "_law_bits" "law_thinwood_k89_whole_octets"
def d73:List O:=h2 912 98 361 1 548 922 883 ["_law_script","_law_depths_here","_law_cell","_law_number","_law_up","_law_k","_law_deep"] "_law_depths" "law_thinwood_k89_whole_octets"
def d74:List O:=h2 925 99 376 1 555 934 883 ["_law_script","_law_signs_here","_law_cell","_law_number","_law_k","_law_sign"] "_law_signs" "law_thinwood_k89_whole_octets"
def d75:List O:=h2 937 100 388 1 562 947 883 ["_law_script","_law_letters","_law_words_here","_law_word","_law_cell","_law_number","_law_k"] "_law_words" "law_thinwood_k89_whole_octets"
def d76:List O:=h2 950 101 399 2 569 955 883 ["_law_way","_law_script"] "_law_thing" "law_thinwood_k89_whole_octets"
def d77:List O:=h2 958 102 407 2 576 963 883 ["_law_way","_law_thing_here"] "_law_written" "law_thinwood_k89_whole_octets"
def d78:List O:=h2 966 103 415 2 583 971 883 ["_law_way","_law_octets"] "_law_read" "law_thinwood_k89_whole_octets"
def d79:List O:=h2 974 104 425 2 590 982 883 ["_law_way","_law_octets","_law_told_here","_law_found","e"] "_law_told" "law_thinwood_k89_whole_octets"
def d80:List O:=h2 985 105 435 2 597 991 883 ["_law_way","_law_octets","_law_found"] "_law_some" "law_thinwood_k89_whole_octets"
def d81:List O:=h1 106 994 442 3 604 883 "_law_good" "law_thinwood_k89_whole_octets"
def d82:List O:=h2 1000 107 451 1 609 1014 883 ["_law_script","_law_way","_law_thing_here","_law_handed","_law_octets","_law_other","_law_short","_law_cell","_law_at","_law_turned","_law_first"] "law" "law_thinwood_k89_whole_octets"
def f0:List O:=ap [PySem.W.boot_o_0,PySem.W.boot_o_1,PySem.W.boot_o_2,s0,PySem.W.boot_o_4,PySem.W.boot_o_5,PySem.W.boot_o_6,PySem.W.boot_o_7,PySem.W.boot_o_8,PySem.W.boot_o_9,PySem.W.boot_o_10,l0,s1,l1,l2,l3,l4,l5,l0,l6,l7,l8,l0,l9,l10,l11,l12,l13] (ap d1 (ap d2 (ap d3 (ap d4 (ap d5 (ap d6 (ap d7 (ap d8 (d9)))))))))
def f1:List O:=ap d10 (ap d11 (ap d12 (ap d13 (ap d14 (ap d15 (ap d16 (ap d17 (ap [l0,l6,l14,l15,l16,l17,l18] (d19)))))))))
def f2:List O:=ap d20 (ap d21 (ap d22 (ap d23 (ap d24 (ap d25 (ap d26 (ap d27 (ap d28 (d29)))))))))
def f3:List O:=ap d30 (ap d31 (ap d32 (ap d33 (ap d34 (ap d35 (ap d36 (ap d37 (ap d38 (d39)))))))))
def f4:List O:=ap d40 (ap d41 (ap d42 (ap d43 (ap d44 (ap d45 (ap d46 (ap d47 (ap d48 (d49)))))))))
def f5:List O:=ap d50 (ap d51 (ap d52 (ap d53 (ap d54 (ap d55 (ap d56 (ap d57 (ap d58 (d59)))))))))
def f6:List O:=ap d60 (ap d61 (ap d62 (ap d63 (ap d64 (ap d65 (ap d66 (ap d67 (ap d68 (d69)))))))))
def f7:List O:=ap d70 (ap d71 (ap d72 (ap d73 (ap d74 (ap d75 (ap d76 (ap d77 (ap d78 (d79)))))))))
def f8:List O:=ap d80 (ap d81 (d82))
def ff:List O:=ap f0 (ap f1 (ap f2 (ap f3 (ap f4 (ap f5 (ap f6 (ap f7 (f8))))))))
def s2:O:=gd (Z "__name__" 165 (.str "thinwood.errors" 187)::tk gg 9) 10
def l19:O:=λP=>(.mk .none none (.fields #[(.int 2 0),(.int 0 0),(.ref 20)]) #[])
def l20:O:=λP=>(.mk (.type "type") none (.cls (.mk "WoodError" [(.type "ValueError")] [(.ref 24),(.type "ValueError"),(.type "Exception"),(.type "BaseException"),(.type "object")] 23 "WoodError" .true [] [] .false none .false)) #[(some (.ref 15)),none,(some (.str "WoodError" 189)),(some (.str "WoodError" 197)),(some (.builtin "ValueError.__new__")),(some (.bool .true))])
def S_tree_63:Params→PySem.W.BT:=λP=>bt 6 (mp (λx=>x P) (ov (tk ff 28) [((3),s2),((8),l19),(11,l20)]))
def s3:O:=gd (Z "__name__" 165 (.str "thinwood.errors" 187)::tk gg 10) 11
def s4:O:=tb (tk tt 2)
def l21:O:=λP=>(.mk (.type "type") none (.cls (.mk "WoodError" [(.type "ValueError")] [(.ref 24),(.type "ValueError"),(.type "Exception"),(.type "BaseException"),(.type "object")] 23 "WoodError" .true [] [(.ref 37)] .false none .false)) #[(some (.ref 15)),none,(some (.str "WoodError" 189)),(some (.str "WoodError" 197)),(some (.builtin "ValueError.__new__")),(some (.bool .true))])
def S_tree_78:Params→PySem.W.BT:=λP=>bt 7 (mp (λx=>x P) (ov (tk ff 40) [((3),s3),((8),s4),(11,l21)]))
def s5:O:=gd (Z "__name__" 165 (.str "thinwood.errors" 187)::tk gg 11) 12
def s6:O:=tb (tk tt 3)
def l22:O:=λP=>(.mk (.type "type") none (.cls (.mk "WoodError" [(.type "ValueError")] [(.ref 24),(.type "ValueError"),(.type "Exception"),(.type "BaseException"),(.type "object")] 23 "WoodError" .true [] [(.ref 37),(.ref 49)] .false none .false)) #[(some (.ref 15)),none,(some (.str "WoodError" 189)),(some (.str "WoodError" 197)),(some (.builtin "ValueError.__new__")),(some (.bool .true))])
def S_tree_93:Params→PySem.W.BT:=λP=>bt 7 (mp (λx=>x P) (ov (tk ff 52) [((3),s5),((8),s6),(11,l22)]))
def s7:O:=gd (Z "__name__" 165 (.str "thinwood.errors" 187)::tk gg 12) 13
def s8:O:=tb (tk tt 4)
def l23:O:=λP=>(.mk (.type "type") none (.cls (.mk "WoodError" [(.type "ValueError")] [(.ref 24),(.type "ValueError"),(.type "Exception"),(.type "BaseException"),(.type "object")] 23 "WoodError" .true [] [(.ref 37),(.ref 49),(.ref 61)] .false none .false)) #[(some (.ref 15)),none,(some (.str "WoodError" 189)),(some (.str "WoodError" 197)),(some (.builtin "ValueError.__new__")),(some (.bool .true))])
def S_tree_108:Params→PySem.W.BT:=λP=>bt 8 (mp (λx=>x P) (ov (tk ff 64) [((3),s7),((8),s8),(11,l23)]))
def s9:O:=gd (Z "__name__" 165 (.str "thinwood.errors" 187)::tk gg 13) 14
def s10:O:=tb (tk tt 5)
def l24:O:=λP=>(.mk (.type "type") none (.cls (.mk "WoodError" [(.type "ValueError")] [(.ref 24),(.type "ValueError"),(.type "Exception"),(.type "BaseException"),(.type "object")] 23 "WoodError" .true [] [(.ref 37),(.ref 49),(.ref 61),(.ref 73)] .false none .false)) #[(some (.ref 15)),none,(some (.str "WoodError" 189)),(some (.str "WoodError" 197)),(some (.builtin "ValueError.__new__")),(some (.bool .true))])
def S_tree_123:Params→PySem.W.BT:=λP=>bt 8 (mp (λx=>x P) (ov (tk ff 76) [((3),s9),((8),s10),(11,l24)]))
def s11:O:=gd (Z "__name__" 165 (.str "thinwood.errors" 187)::tk gg 14) 15
def s12:O:=tb (tk tt 6)
def l25:O:=λP=>(.mk (.type "type") none (.cls (.mk "WoodError" [(.type "ValueError")] [(.ref 24),(.type "ValueError"),(.type "Exception"),(.type "BaseException"),(.type "object")] 23 "WoodError" .true [] [(.ref 37),(.ref 49),(.ref 61),(.ref 73),(.ref 85)] .false none .false)) #[(some (.ref 15)),none,(some (.str "WoodError" 189)),(some (.str "WoodError" 197)),(some (.builtin "ValueError.__new__")),(some (.bool .true))])
def S_tree_138:Params→PySem.W.BT:=λP=>bt 8 (mp (λx=>x P) (ov (tk ff 88) [((3),s11),((8),s12),(11,l25)]))
def s13:O:=gd (Z "__name__" 165 (.str "thinwood.errors" 187)::tk gg 15) 16
def s14:O:=tb (tk tt 7)
def l26:O:=λP=>(.mk (.type "type") none (.cls (.mk "WoodError" [(.type "ValueError")] [(.ref 24),(.type "ValueError"),(.type "Exception"),(.type "BaseException"),(.type "object")] 23 "WoodError" .true [] [(.ref 37),(.ref 49),(.ref 61),(.ref 73),(.ref 85),(.ref 97)] .false none .false)) #[(some (.ref 15)),none,(some (.str "WoodError" 189)),(some (.str "WoodError" 197)),(some (.builtin "ValueError.__new__")),(some (.bool .true))])
def S_tree_153:Params→PySem.W.BT:=λP=>bt 8 (mp (λx=>x P) (ov (tk ff 100) [((3),s13),((8),s14),(11,l26)]))
def s15:O:=gd (Z "__name__" 165 (.str "thinwood.errors" 187)::tk gg 16) 17
def s16:O:=tb (tk tt 8)
def l27:O:=λP=>(.mk (.type "type") none (.cls (.mk "WoodError" [(.type "ValueError")] [(.ref 24),(.type "ValueError"),(.type "Exception"),(.type "BaseException"),(.type "object")] 23 "WoodError" .true [] [(.ref 37),(.ref 49),(.ref 61),(.ref 73),(.ref 85),(.ref 97),(.ref 109)] .false none .false)) #[(some (.ref 15)),none,(some (.str "WoodError" 189)),(some (.str "WoodError" 197)),(some (.builtin "ValueError.__new__")),(some (.bool .true))])
def S_tree_168:Params→PySem.W.BT:=λP=>bt 8 (mp (λx=>x P) (ov (tk ff 112) [((3),s15),((8),s16),(11,l27)]))
def s17:O:=gd (Z "__name__" 165 (.str "thinwood.blocks" 335)::tk gg 24) 25
def s18:O:=tb (tk tt 14)
def S_tree_216:Params→PySem.W.BT:=λP=>bt 9 (mp (λx=>x P) (ov (tk ff 157) [((3),s17),((8),s18)]))
def s19:O:=gd (Z "__name__" 165 (.str "thinwood.heaps" 465)::tk gg 36) 37
def s20:O:=tb (tk tt 25)
def S_tree_293:Params→PySem.W.BT:=λP=>bt 9 (mp (λx=>x P) (ov (tk ff 232) [((3),s19),((8),s20)]))
def s21:O:=gd (Z "__name__" 165 (.str "thinwood.signs" 585)::tk gg 49) 50
def s22:O:=tb (tk tt 36)
def S_tree_370:Params→PySem.W.BT:=λP=>bt 10 (mp (λx=>x P) (ov (tk ff 307) [((3),s21),((8),s22)]))
def s23:O:=gd (Z "__name__" 165 (.str "thinwood.written" 689)::tk gg 65) 66
def s24:O:=tb (tk tt 48)
def S_tree_444:Params→PySem.W.BT:=λP=>bt 10 (mp (λx=>x P) (ov (tk ff 379) [((3),s23),((8),s24)]))
def s25:O:=gd (Z "__name__" 165 (.str "thinwood.written" 689)::tk gg 81) 82
def s26:O:=tb (tk tt 59)
def S_tree_521:Params→PySem.W.BT:=λP=>bt 10 (mp (λx=>x P) (ov (tk ff 454) [((3),s25),((8),s26)]))
def s27:O:=gd (Z "__name__" 165 (.str "law_thinwood_k89_whole_octets" 883)::tk gg 94) 95
def s28:O:=tb (tk tt 72)
def S_tree_610:Params→PySem.W.BT:=λP=>bt 11 (mp (λx=>x P) (ov (tk ff 541) [((3),s27),((8),s28)]))
def S_tree_687:Params→PySem.W.BT:=λP=>bt 11 (mp (λx=>x P) (ff))
def S_heap_688:Params→Heap:=λP=>Heap.mk (Array.mk (mp (λx=>x P) (ff))) (.mk [] [] [] 0 [] [] .false #[] [] 0 .false .false .false 0 [2000,10,10] .false 0 .true [] [] 0 .false)
def S_sts_49:List Stmt:=tk (List.drop 0 PySem.Challenge.pw_thinwood_k89_whole_octets.main.body) 2
def S_sts_64:List Stmt:=tk (List.drop 2 PySem.Challenge.pw_thinwood_k89_whole_octets.main.body) 1
def S_sts_79:List Stmt:=tk (List.drop 3 PySem.Challenge.pw_thinwood_k89_whole_octets.main.body) 1
def S_sts_94:List Stmt:=tk (List.drop 4 PySem.Challenge.pw_thinwood_k89_whole_octets.main.body) 1
def S_sts_109:List Stmt:=tk (List.drop 5 PySem.Challenge.pw_thinwood_k89_whole_octets.main.body) 1
def S_sts_124:List Stmt:=tk (List.drop 6 PySem.Challenge.pw_thinwood_k89_whole_octets.main.body) 1
def S_sts_139:List Stmt:=tk (List.drop 7 PySem.Challenge.pw_thinwood_k89_whole_octets.main.body) 1
def S_sts_154:List Stmt:=tk (List.drop 8 PySem.Challenge.pw_thinwood_k89_whole_octets.main.body) 1
def S_sts_169:List Stmt:=tk (List.drop 9 PySem.Challenge.pw_thinwood_k89_whole_octets.main.body) 9
def S_sts_217:List Stmt:=tk (List.drop 18 PySem.Challenge.pw_thinwood_k89_whole_octets.main.body) 15
def S_sts_294:List Stmt:=tk (List.drop 33 PySem.Challenge.pw_thinwood_k89_whole_octets.main.body) 16
def S_sts_371:List Stmt:=tk (List.drop 49 PySem.Challenge.pw_thinwood_k89_whole_octets.main.body) 18
def S_sts_445:List Stmt:=tk (List.drop 67 PySem.Challenge.pw_thinwood_k89_whole_octets.main.body) 16
def S_sts_522:List Stmt:=tk (List.drop 83 PySem.Challenge.pw_thinwood_k89_whole_octets.main.body) 14
def S_sts_611:List Stmt:=tk (List.drop 97 PySem.Challenge.pw_thinwood_k89_whole_octets.main.body) 11
def S_view:Program:={ PySem.Challenge.pw_thinwood_k89_whole_octets with main:={ PySem.Challenge.pw_thinwood_k89_whole_octets.main with body:=mp Tw.top [1,2,3,4,5,6,7,8,9,11,12,13,14,15,16,17,18,19,20,21,22,24,25,27,28,30,31,32,33,35,36,37,38,39,40,42,43,44,45,46,48,49,50,51,52,53,54,55,57,58,59,60,61,62,63,65,66,67,68,69,70,71,72,73,74,75,76,77,78,79,80,81,82,83,84,85,86,87,88,89,90,91,92,93,95,96,97,98,99,100,101,102,103,104,105,106,107] } }
end
end Tp
theorem PySem.W.Fast.tw14598715356260435866:True:=trivial
noncomputable abbrev PySem.W.Fast.tw8039077601197370823:PySem.Program:=PySem.Challenge.pw_thinwood_k89_whole_octets
theorem PySem.W.Fast.te8039077601197370823:PySem.Challenge.pw_thinwood_k89_whole_octets = PySem.W.Fast.tw8039077601197370823:=rfl
lay_quick Tp.g0 Tp.g1 Tp.g2 Tp.g3 Tp.g4 Tp.g5 Tp.g6 Tp.g7 Tp.g8 Tp.g9 Tp.g10 Tp.gg Tp.s0 Tp.l0 Tp.s1 Tp.l1 Tp.l2 Tp.l3 Tp.l4 Tp.l5 Tp.l6 Tp.l7 Tp.l8 Tp.l9 Tp.l10 Tp.l11 Tp.l12 Tp.l13 Tp.d1 Tp.d2 Tp.d3 Tp.d4 Tp.d5 Tp.d6 Tp.d7 Tp.d8 Tp.d9 Tp.d10 Tp.d11 Tp.d12
lay_quick Tp.d13 Tp.d14 Tp.d15 Tp.d16 Tp.d17 Tp.l14 Tp.l15 Tp.l16 Tp.l17 Tp.l18 Tp.d19 Tp.d20 Tp.d21 Tp.d22 Tp.d23 Tp.d24 Tp.d25 Tp.d26 Tp.d27 Tp.d28 Tp.d29 Tp.d30 Tp.d31 Tp.d32 Tp.d33 Tp.d34 Tp.d35 Tp.d36 Tp.d37 Tp.d38 Tp.d39 Tp.d40 Tp.d41 Tp.d42 Tp.d43 Tp.d44 Tp.d45 Tp.d46 Tp.d47 Tp.d48
lay_quick Tp.d49 Tp.d50 Tp.d51 Tp.d52 Tp.d53 Tp.d54 Tp.d55 Tp.d56 Tp.d57 Tp.d58 Tp.d59 Tp.d60 Tp.d61 Tp.d62 Tp.d63 Tp.d64 Tp.d65 Tp.d66 Tp.d67 Tp.d68 Tp.d69 Tp.d70 Tp.d71 Tp.d72 Tp.d73 Tp.d74 Tp.d75 Tp.d76 Tp.d77 Tp.d78 Tp.d79 Tp.d80 Tp.d81 Tp.d82 Tp.f0 Tp.f1 Tp.f2 Tp.f3 Tp.f4 Tp.f5
lay_quick Tp.f6 Tp.f7 Tp.f8 Tp.ff Tp.s2 Tp.l19 Tp.l20 Tp.S_tree_63 Tp.s3 Tp.s4 Tp.l21 Tp.S_tree_78 Tp.s5 Tp.s6 Tp.l22 Tp.S_tree_93 Tp.s7 Tp.s8 Tp.l23 Tp.S_tree_108 Tp.s9 Tp.s10 Tp.l24 Tp.S_tree_123 Tp.s11 Tp.s12 Tp.l25 Tp.S_tree_138 Tp.s13 Tp.s14 Tp.l26 Tp.S_tree_153 Tp.s15 Tp.s16 Tp.l27 Tp.S_tree_168 Tp.s17 Tp.s18 Tp.S_tree_216 Tp.s19
lay_quick Tp.s20 Tp.S_tree_293 Tp.s21 Tp.s22 Tp.S_tree_370 Tp.s23 Tp.s24 Tp.S_tree_444 Tp.s25 Tp.s26 Tp.S_tree_521 Tp.s27 Tp.s28 Tp.S_tree_610 Tp.S_tree_687 Tp.S_heap_688 Tp.S_sts_49 Tp.S_sts_64 Tp.S_sts_79 Tp.S_sts_94 Tp.S_sts_109 Tp.S_sts_124 Tp.S_sts_139 Tp.S_sts_154 Tp.S_sts_169 Tp.S_sts_217 Tp.S_sts_294 Tp.S_sts_371 Tp.S_sts_445 Tp.S_sts_522 Tp.S_sts_611 Tp.S_view
namespace Tp
open PySem PySem.W.Fast
end Tp
namespace PySem.W.Fast
open PySem Tp
noncomputable section
abbrev tw17400649968855489150:Params→BT:=tw11432227658251013801
theorem te17400649968855489150:S_tree_63=tw17400649968855489150:=te11432227658251013801
abbrev tw9523943502804896128:Params→BT:=tw16269510630359031336
theorem te9523943502804896128:S_tree_78=tw9523943502804896128:=te16269510630359031336
abbrev tw1510992503341615450:Params→BT:=tw5549918322004914887
theorem te1510992503341615450:S_tree_93=tw1510992503341615450:=te5549918322004914887
abbrev tw7139441166288639521:Params→BT:=tw10118726668083288838
theorem te7139441166288639521:S_tree_108=tw7139441166288639521:=te10118726668083288838
abbrev tw15984953227746624877:Params→BT:=tw244363406318419850
theorem te15984953227746624877:S_tree_123=tw15984953227746624877:=te244363406318419850
abbrev tw1402388857224983855:Params→BT:=tw12417361858070979987
theorem te1402388857224983855:S_tree_138=tw1402388857224983855:=te12417361858070979987
abbrev tw15594763279392303327:Params→BT:=tw863085786592867233
theorem te15594763279392303327:S_tree_153=tw15594763279392303327:=te863085786592867233
abbrev tw16980219758837532243:Params→BT:=tw12361961019411380784
theorem te16980219758837532243:S_tree_168=tw16980219758837532243:=te12361961019411380784
abbrev tw7987273391208233143:Params→BT:=tw7325087616628230808
theorem te7987273391208233143:S_tree_216=tw7987273391208233143:=te7325087616628230808
abbrev tw11765506211211447531:Params→BT:=tw12245342217616203890
theorem te11765506211211447531:S_tree_293=tw11765506211211447531:=te12245342217616203890
abbrev tw6427835051248396946:Params→BT:=tw6819650600894785074
theorem te6427835051248396946:S_tree_370=tw6427835051248396946:=te6819650600894785074
abbrev tw10999339267056127898:Params→BT:=tw5014144163870394173
theorem te10999339267056127898:S_tree_444=tw10999339267056127898:=te5014144163870394173
abbrev tw1049855414923715533:Params→BT:=tw4912356936970631584
theorem te1049855414923715533:S_tree_521=tw1049855414923715533:=te4912356936970631584
abbrev tw2314330620346575267:Params→BT:=tw2761054708610596715
theorem te2314330620346575267:S_tree_610=tw2314330620346575267:=te2761054708610596715
abbrev tw1107678391749077222:Params→BT:=tw11293349420493171743
theorem te1107678391749077222:S_tree_687=tw1107678391749077222:=te11293349420493171743
abbrev tw13159888005858933987:Params→Heap:=tw12352642421506069546
theorem te13159888005858933987:S_heap_688=tw13159888005858933987:=te12352642421506069546
abbrev tw13481436093369368512:List Stmt:=tw666750322614274432
theorem te13481436093369368512:S_sts_49=tw13481436093369368512:=te666750322614274432
abbrev tw3528229862998526937:List Stmt:=tw5768192320520425421
theorem te3528229862998526937:S_sts_64=tw3528229862998526937:=te5768192320520425421
abbrev tw7699702484454944978:List Stmt:=tw16161987442105222805
theorem te7699702484454944978:S_sts_79=tw7699702484454944978:=te16161987442105222805
abbrev tw6461927156427917304:List Stmt:=tw11682420065776883047
theorem te6461927156427917304:S_sts_94=tw6461927156427917304:=te11682420065776883047
abbrev tw13654681273595793356:List Stmt:=tw5728941507444464575
theorem te13654681273595793356:S_sts_109=tw13654681273595793356:=te5728941507444464575
abbrev tw5334395313759326931:List Stmt:=tw3506674074365841151
theorem te5334395313759326931:S_sts_124=tw5334395313759326931:=te3506674074365841151
abbrev tw15561672253199989658:List Stmt:=tw11501099722331979331
theorem te15561672253199989658:S_sts_139=tw15561672253199989658:=te11501099722331979331
abbrev tw4900457677378822586:List Stmt:=tw13451323129798551695
theorem te4900457677378822586:S_sts_154=tw4900457677378822586:=te13451323129798551695
abbrev tw2052546935976790074:List Stmt:=tw8446481660639318910
theorem te2052546935976790074:S_sts_169=tw2052546935976790074:=te8446481660639318910
abbrev tw7771147044221100306:List Stmt:=tw10341167432169321533
theorem te7771147044221100306:S_sts_217=tw7771147044221100306:=te10341167432169321533
abbrev tw17874795385438452097:List Stmt:=tw1349057676744220601
theorem te17874795385438452097:S_sts_294=tw17874795385438452097:=te1349057676744220601
abbrev tw3091242778371325394:List Stmt:=tw16356551419608269477
theorem te3091242778371325394:S_sts_371=tw3091242778371325394:=te16356551419608269477
abbrev tw6555308307520780711:List Stmt:=tw18076369759843418715
theorem te6555308307520780711:S_sts_445=tw6555308307520780711:=te18076369759843418715
abbrev tw8636963666996009825:List Stmt:=tw2297435972297896551
theorem te8636963666996009825:S_sts_522=tw8636963666996009825:=te2297435972297896551
abbrev tw14055572860112525295:List Stmt:=tw7550201385060234137
theorem te14055572860112525295:S_sts_611=tw14055572860112525295:=te7550201385060234137
abbrev tw17241697641548702724:Program:=tw11325136443342628617
theorem te17241697641548702724:S_view=tw17241697641548702724:=te11325136443342628617
theorem te17991265541850144937:True:=trivial
end
end PySem.W.Fast
open PySem PySem.W PyProof.Rows
set_option maxRecDepth 100000 in
set_option maxHeartbeats 0 in
theorem PySem.Challenge.cw_thinwood_k89_whole_octets_holds : PySem.Challenge.rw_thinwood_k89_whole_octets.Holds := by
 w_on;o_law;k_head;(case hw=>w_witness2)
 k_fill
 refine L2.O2 (l:=PySem.Challenge.rw_thinwood_k89_whole_octets) (n:=63) (k:=16) (x := "_law_script") rfl (by decide) rfl ⟨rfl,by decide,by decide⟩ (λw h Y=>PySem.W.km_in_of Y) ?F
 case F=>
  intro w mg mb mean fa h KX TT hmg
  refine' Tw.Up KX TT hmg ?d0 ?d1 ?d2 ?d3 ?d4 ?d5 ?d6 ?d7 ?d8 ?a9 ?l9 ?c9 ?k9 ?acL ?acM ?aa1 ?d10 ?d11 ?d12 ?d13 ?d14 ?d15 ?d16 ?d17 ?d18 ?d19 ?d20 ?d21 ?d22 ?d23 ?d24 ?d25 ?d26 ?d27 ?d28 ?d29 ?d30 ?d31 ?d32 ?d33 ?d34 ?d35 ?d36 ?d37 ?d38 ?d39 ?d40 ?d41 ?d42 ?d43 ?d44 ?d45 ?d46 ?d47 ?d48 ?d49 ?d50 ?d51 ?d52 ?d53 ?d54 ?d55 ?d56 ?d57 ?d58 ?d59 ?d60 ?d61 ?d62 ?d63 ?d64 ?d65 ?d66 ?d67 ?d68 ?d69 ?d70 ?d71 ?d72 ?d73 ?abw ?afw ?ab8 ?afI ?abx ?afJ ?afx ?afK ?afg ?acN ?afL ?aeF ?afM ?afh ?afN ?aby ?aaV ?aaW ?aa8 ?adY ?ab9 ?aaX ?abz ?aaY ?abA ?afO ?afi ?afj ?afy ?aeG ?abM ?adi ?adk ?adl ?acH ?aeH ?aa9 ?aeI ?aca ?acb ?abB ?abC ?abD ?abE ?abF ?abG ?abH ?aam ?Y0 ?aah ?adZ ?Z0 ?ad0 ?Z1 ?ad1 ?Z2 ?acO ?Zc ?aeJ ?aar ?abI ?abJ ?aba ?abb ?abd ?abe ?abf ?abg ?abh ?nt
  (case d0|d1|d2|d3|d4|d5|d6|d7|d8|d10|d11|d12|d13|d14|d15|d16|d17|d18|d19|d20|d21|d22|d23|d24|d25|d26|d27|d28|d29|d30|d31|d32|d33|d34|d35|d36|d37|d38|d39|d40|d41|d42|d43|d44|d45|d46|d47|d48|d49|d50|d51|d52|d53|d54|d55|d56|d57|d58|d59|d60|d61|d62|d63|d64|d65|d66|d67|d68|d69|d70|d71|d72|d73=>exact⟨by k_is,L2.Ob (by k_is) (by k_is) (by k_is)⟩);(case a9|l9|c9|k9|acL=>k_is);(case acM=>rfl);(case aa1=>exact⟨_,rfl⟩);(case abw|afw|ab8|afI|abx|afJ|afx|afK|afg|acN|afL|aeF|afM|afh|afN|aby|aaV|aaW|aa8|adY|ab9|aaX|abz|aaY|abA|afO|afi|afj|afy|aeG|abM|adi|adk|adl|acH|aeH|aa9=>k_is);(case aeI|aca=>k_exc);(case acb|abB|abC|abD|abE|abF|abG|abH=>k_is);(case aam|Y0|aah=>kit_is);(case adZ=>k_exc);(case Z0=>kit_is);(case ad0=>k_exc);(case Z1=>kit_is);(case ad1=>k_exc);(case Z2=>kit_is);(case acO=>k_exc);(case Zc=>kit_is);(case aeJ=>k_exc);(case aar=>kit_is);(case abI=>k_exc);(case abJ|aba|abb|abd|abe|abf|abg|abh=>k_is);(case nt=>kernel_rfl)
