import PyProof.Rows.All
import Wide.All
import OpenK.AllK
import Wide.FinOn
import Lean
import PyProof.EqAt
import PyProof.EqKinds
import PyProof.TupleCall
import PySem.Challenge.RW_thinwood_k88_stores_read
set_option Elab.async false
set_option linter.all false
set_option maxRecDepth 100000
set_option maxHeartbeats 4000000
theorem bc0{p:Prop}(h:¬p->False):p:=Classical.byContradiction h
local macro_rules
 | `(tactic| obtain $p:rcasesPatMed:=$e:term)=>`(tactic| (refine _root_.bc0 λhG=>?_;rcases $e:term with $p:rcasesPatMed <;> (refine hG ?_;clear hG)))
local macro_rules
 | `(tactic| rintro $ps:rintroPat*)=>do
  let n:=ps.size
  let l:=(ps.getD (n-1) ⟨.missing⟩).raw[0]
  if l.getKind != `Lean.Parser.Tactic.rcasesPat.tuple then Lean.Macro.throwUnsupported
  let q:Lean.TSyntax `rcasesPat:=⟨l⟩
  let arr:=(ps.extract 0 (n-1)).push (<- `(rintroPat| z))
  `(tactic| (rintro $arr*;refine _root_.bc0 λhG=>?_;rcases z with $q:rcasesPat <;> (refine hG ?_;clear hG)))
open List renaming length_map->aaa,length_append->aab,getElem?_eq_getElem->aac,getElem?_eq_some_iff->aad,map_append->aaf,length_cons->aah,replicate->aai,mem_cons_of_mem->aaj,getElem?_map->aak,take_of_length_le->aal,length_take->aam,mem_cons_self->aan,mem_singleton->aao,mem_append_right->aap,length_drop->aaq,mem_of_getElem?->aar,mem_append->aas,mem_cons->aat,length_replicate->aaw,map_cons->aax,append_assoc->aay,mem_map->aaz,getD_eq_getElem?_getD->aaA,length_range->aaG,size_toArray->aaT,getElem?_eq_none->aaU,range->abS,take_add_one->aed,pairwise_iff_getElem->afG,getElem?_append_right->afH,getElem?_append_left->afI,mem_singleton_self->afJ,take_length->afK,getElem_mem->afL,mem_of_mem_take->afN,mem_of_mem_drop->afO,mem_append_left->afQ,append_nil->afR,drop_eq_getElem_cons->afT,range_succ->afU,length_nil->afV,pairwise_append->afW,replicate_succ->afX,map_map->afZ,take_succ_cons->af1,getElem?_take_of_lt->af2,cons_lt_cons_iff->af4,mem_range->af5,drop_of_length_le->af6,ext_getElem?->af7,eq_of_mem_replicate->af8,getElem?_drop->aga,filter_append->agb,drop_drop->agc,length_filter_le->age,Perm->agh,getElem?_range->agi,getElem_of_mem->agj,take_append_drop->agk,cons_append->agm,take_zero->agn,pairwise_cons->ago,filter_cons->agq,map_congr_left->agr,flatMap_append->ags,flatten_cons->agt,dropLast_concat_getLast->agu,nodup_cons->agv,filter_cons_of_neg->agx,getElem?_of_mem->agy,mem_flatMap->agz,not_mem_nil->agA,drop_zero->agE,extract_eq_drop_take->agF,take_succ->agG,length_singleton->agI,length_erase_of_mem->agK,le_antisymm->agN,getElem?_set_ne->agO,filter_cons_of_pos->agP,filterMap_cons->agR,not_lt_nil->agS,getElem?_set_self->agT,nil_lt_cons->agV,map_drop->agX,mem_erase_of_ne->agZ,of_mem_zip->ag1,flatMap_cons->ag2,getElem_drop->ag4,getElem_take->ag5,drop_left'->ag7,length->ag9,getElem?_replicate->aha,getElem?_cons_succ->ahc,reverse_append->ahe,toList_toArray->ahf,not_lt->ahg,drop_length->ahj,length_pos_of_mem->ahk,mem_filterMap->ahm,mem_filter->aho,find?_cons->ahq,length_zip->ahr,idxOf_lt_length_of_mem->ahu,sum_cons->ahv,take_nil->ahw,getLastD_concat->ahx,take_take->ahy,mem_reverse->ahB,sum_append->ahI,length_eq_zero_iff->ahJ,zip_cons_cons->ahL,take_sublist->ahM,lt_irrefl->ahO,map_nil->ahP,pairwise_reverse->ahQ,eq_nil_of_length_eq_zero->ahT,take_append_of_le_length->ahU,lt_trans->ahW,length_set->ahZ,nil_append->ah0,filter_map->ah2,filter_eq_self->ah3,length_eraseIdx_of_lt->ah6,mem_or_eq_of_mem_set->aic,getElem?_eq_none_iff->aid,getElem?_zip_eq_some->aie,pairwise_map->aih,reverse_perm->aii,any_cons->ail,le_total->ain,pairwise_singleton->aio,zip->aip,pairwise_lt_range->aiq,foldl_cons->ais,getElem?_toArray->aiu,Perm.append_left->aiv,perm_append_comm->aiw,dropLast_eq_take->aiz,singleton_append->aiA,eq_replicate_iff->aiB,reverse_reverse->aiE,length_reverse->aiF,drop_succ_cons->aiI,flatten_append->aiJ,filter_sublist->aiL,map_replicate->aiO,getElem_range->aiP,getElem_idxOf->aiQ,reverse_cons->aiS,nodup_append->aiV,filter_congr->ai0,Pairwise.imp->ai1,map_fst_zip->ai3,filter_nil->ai5,Perm.trans->ai6,drop_take->ajc,Perm.refl->ajd,tail_cons->aje,foldl->ajf,map_take->ajg,take_add->ajh,drop_one->ajk,sum_nil->ajm,toArray->ajp,zip_map->aju,lookup->ajw,filter->ajx
open Nat renaming le_refl->aae,lt_of_lt_of_le->aau,zero_le->aaH,ne_of_lt->ae2,lt_or_ge->afF,min_eq_left->af0,lt_of_le_of_lt->af9,le_trans->agd,add_sub_cancel_left->agf,lt_irrefl->agg,add_le_add_left->agl,not_lt_zero->agp,eq_zero_or_pos->agJ,min_eq_right->agL,lt_succ_self->agM,le_of_lt->agW,lt_succ_of_lt->ag3,sub_self->ag8,le_succ->ahd,le_add_right->ahi,mul_succ->aht,mul_le_mul->ahz,add_comm->ahE,sub_zero->ahF,le_total->ahG,lt_trichotomy->ahN,zero_add->ahR,succ_mul->ah7,le_of_eq->ah8,lt_succ_iff_lt_or_eq->aik,ne_of_gt->air,lt_trans->ait,pow_le_pow_right->aiD,le_zero->aiH,mul_le_mul_left->aiK,pow_right_inj->aiY,two_pow_pos->ai8,pow_succ->ajr,zero_mul->ajs,mod_lt->ajA
open Array renaming length_toList->aag,getElem_mem_toList->afM,getElem?_toList->afP,toList_append->afY,getElem_toList->af3,getElem?_eq_some_iff->agC,toList_push->agD,perm_iff_toList_perm->agU,toList_extract->agY,getElem?_setIfInBounds_ne->ag6,append_assoc->ahl,toList_reverse->ahV,size_setIfInBounds->aij,getElem_extract->aix,Perm.refl->aiy,toList_modify->aiG,size_extract->aiN,getD->aiU,size_append->aiZ,toList_inj->ai4,toList->ajl
open Int renaming toNat_natCast->aav,pow_succ->agQ,ediv_ediv_of_nonneg->ahb,emod_lt_of_pos->ahn,emod_add_mul_ediv->ahs,le_refl->ahC,ediv_one->ahD,emod_nonneg->ahK,pow_zero->ahS,mul_assoc->ahX,toNat_of_nonneg->ah4,fdiv_eq_ediv_of_nonneg->ah5,sub_self->ah9,mul_comm->aia,add_sub_cancel->aib,emod_eq_of_lt->aiX,pow_pos->ai7,natCast_add->ai9,lt_or_le->ajn,zero_add->ajt,mul_add->ajy
open Bool renaming false_ne_true->afD,false_eq_true->agw,not_eq_true'->ag0,and_eq_true->ahA,eq_iff_iff->ahY,or_eq_true->ah1,true_and->aim,and_self->aiR,eq_false_iff->aiT,false_and->aja,not_false->ajb,false_or->aji,not_true->ajj,true_or->ajo,not_not->ajq
open Option renaming some.inj->afE,map_eq_some_iff->afS,getD_some->ahh,map_some->ahp,isSome_iff_exists->aif,isSome_map->aig,toList_some->aiM,some.injEq->aiW,getD_none->ai2,none->ajv
open Ne renaming symm->agB
open Or renaming inl->agH,inr->ahH
open Prod renaming fst->aiC,ext->ajz
def dgt(x:Lean.Term):Lean.MacroM (Array Lean.Term):=match x.raw.isNatLit? with
 |some 7=>return #[<-`(rfl)]
 |some 9=>return #[<-`(_),<-`(rfl)]
 |some 6=>return #[<-`(by lia)]
 |some 5=>return #[<-`(by decide)]
 |some 4=>return #[<-`(_),<-`(_),<-`(rfl),<-`(rfl)]
 |some 1=>return #[<-`(?_)]
 |some 2=>return #[<-`(_),<-`(_),<-`(_),<-`(_),<-`(_),<-`(_)]
 |some 8=>return #[<-`(_),<-`(rfl),<-`(_),<-`(rfl)]
 |some 3=>return #[<-`((_,rfl))]
 |_=>return #[x]
local macro_rules
 |`(tactic|exists $es,*)=>do
  let l<-es.getElems.flatMapM dgt
  `(tactic|refine ⟨$l,*, ?_⟩)
open Prod renaming mk->pq
local macro_rules
 |`(($a,$b,*))=>do
  let l<-(#[a]++b.getElems).flatMapM dgt
  `(⟨$l,*⟩)
local macro_rules
 |`(⋯)=>`((by lia))
local macro_rules
 |`(∅)=>`((by decide))
local macro_rules
 |`(!!$x:ident)=>`(($x).map $(Lean.mkIdent `V.int))
 |`(!!!$x:ident)=>`(some (.ref $x))
 |`(!!!!$x:ident)=>`(some (.int $x))
local macro_rules
 |`(‹$x›)=>`(($x).map $(Lean.mkIdent `V.int))
namespace L2
open PySem PySem.Spec PyProof.Rows
theorem sl0:0<=sizeLine:=by decide
theorem sl1:1<=sizeLine:=by decide
theorem sl2:2<=sizeLine:=by decide
theorem sl3:3<=sizeLine:=by decide
theorem sl4:4<=sizeLine:=by decide
variable{s s0:Shared}{A:Around}{E:Value->Shared->Prop}{prog:Program}{π:List (Addr×Obj)}{K:PySem.W.Frag}{base h' h:Heap}{a f C x S dx:Addr}{e tg o b:Expr}{mg:Str->Option Value}{outer:List Env}{es:List Expr}{scope:Scope}{N:List Str}{qual:Str}{cd:Value}{p apos:Pos}{c:List Int}{d y:Nat}{g:Array Keyed}{i:Int}{j:List Value}{l:List Addr}{n:List (Str×Addr)}{r:List (Str×Nat)}{u:World}{z:Value->Addr->Result->Shared->Prop}{B:FuncData}{D:SortSt}{G:Array Value}{I:Type}{J:SetTable}{M:Option Value->Shared->Prop}{O:List (Int×Value)}{Q:Option Nat->SortSt->Prop}{U:Array (Int×Value)}{Z:Array (Nat×Nat×Nat)}
abbrev Key:=Sum Int Str
def yp:Key->Value->Bool
 |.inl k,v=>Value.isInt k v
 |.inr x,v=>Value.isStrOf x v
def Vy(w:World):Key->Int
 |.inl k=>hashInt k
 |.inr x=>hashStr w x
theorem cU:∀{k:Key}{v:Value},yp k v=true->(∃i t,k=Sum.inl i/\v=Value.int i t)\/(∃x t,k=Sum.inr x/\v=Value.str x t)
 |.inl i,v,h=>by
  obtain⟨t,e⟩:=Value.isInt_shape (k:=i) (v:=v) h;exact .inl (i,t,7,e)
 |.inr x,v,h=>by
  obtain⟨t,e⟩:=Value.isStrOf_shape (x:=x) (v:=v) h;exact .inr (x,t,7,e)
theorem Km(i:Int)(t:Tok):yp (.inl i) (.int i t)=true:=by simp[yp,Value.isInt]
theorem Ip(x:Str)(t:Tok):yp (.inr x) (.str x t)=true:=by simp[yp,Value.isStrOf]
theorem Td(a b:Int):decide ((Sum.inl a:Key)=Sum.inl b)=(a==b):=by
 by_cases e:a=b
 ·subst e;simp
 ·have h:¬(Sum.inl a:Key)=Sum.inl b:=λq=>e (Sum.inl.inj q);rw[decide_eq_false h];exact(beq_eq_false_iff_ne.mpr e).symm
theorem Tc(a b:Str):decide ((Sum.inr a:Key)=Sum.inr b)=decide (a=b):=by
 by_cases e:a=b
 ·subst e;simp
 ·have h:¬(Sum.inr a:Key)=Sum.inr b:=λq=>e (Sum.inr.inj q);rw[decide_eq_false h,decide_eq_false e]
theorem Sw(a:Int)(b:Str):decide ((Sum.inl a:Key)=Sum.inr b)=false:=decide_eq_false (λq=>nomatch q)
theorem RM(a:Str)(b:Int):decide ((Sum.inr a:Key)=Sum.inl b)=false:=decide_eq_false (λq=>nomatch q)
def cQ(prog:Program)(w:World):PySem.KeyKind prog w Key where
 is:=yp
 hash:=Vy w
 inj:=λv a b l f=>by
  rcases cU l with ⟨i,t,rfl,rfl⟩|⟨x,t,rfl,rfl⟩
  ·rcases cU f with ⟨j,u,rfl,e⟩|⟨y,u,rfl,e⟩
   ·injection e with c _;rw[c]
   ·exact nomatch e
  ·rcases cU f with ⟨j,u,rfl,e⟩|⟨y,u,rfl,e⟩
   ·exact nomatch e
   ·injection e with c _;rw[c]
 byValue:=λk v h=>by
  rcases cU h with ⟨i,t,rfl,rfl⟩|⟨x,t,rfl,rfl⟩<;>rfl
 pyHash:=λd h=>by
  rcases cU d with ⟨i,t,rfl,rfl⟩|⟨x,t,rfl,rfl⟩
  ·exact wpAny_pyHash_int h
  ·exact wpAny_pyHash_str h
 eqBool:=λg d h=>by
  rcases cU g with ⟨i,t,rfl,rfl⟩|⟨x,t,rfl,rfl⟩
  ·rcases cU d with ⟨j,u,rfl,rfl⟩|⟨y,u,rfl,rfl⟩
   ·rw[Td]at h;exact wpAny_eqBool_int h
   ·rw[Sw]at h;exact SeqAt.EqAt.int_str i t y u _ _ _ _ h
  ·rcases cU d with ⟨j,u,rfl,rfl⟩|⟨y,u,rfl,rfl⟩
   ·rw[RM]at h;exact SeqAt.EqAt.str_int x t j u _ _ _ _ h
   ·rw[Tc]at h;exact wpAny_eqBool_str h
 «strs»:=λk x t v h=>by
  rcases cU h with ⟨i,u,rfl,e⟩|⟨y,u,rfl,e⟩
  ·exact nomatch e
  ·injection e with c _
   subst c;cases v<;>rfl
theorem BX(prog:Program)(w:World)(i:Int)(t:Tok):(cQ prog w).is (.inl i) (.int i t)=true:=Km i t
theorem Dy(prog:Program)(w:World)(x:Str)(t:Tok):(cQ prog w).is (.inr x) (.str x t)=true:=Ip x t
inductive V where
 | non|bl (b:Bool) | int (i:Int) | str (x:Str) | Xr (b:Array UInt8) | flt (b:UInt64) | ref (a:Addr) | ty (n:String)
 deriving DecidableEq
def RelV:V->Value->Prop
 |.non,u=>u=Value.none
 |.bl b,u=>u=Value.bool b
 |.int i,u=>∃t,u=Value.int i t
 |.str x,u=>∃t,u=Value.str x t
 |.Xr b,u=>∃t,u=Value.bytes b t
 |.flt b,u=>∃t,u=Value.float b t
 |.ref a,u=>u=Value.ref a
 |.ty n,u=>u=Value.type n
abbrev Vals:List V->List Value->Prop:=Paired RelV
theorem Vals.length{xs:List V}{a:List Value}(r:Vals xs a):xs.length=a.length:=Paired.length r
theorem Vals.get:∀{xs:List V}{a:List Value}{i:Nat}{x:V},Vals xs a->xs[i]?=some x -> ∃u,a[i]?=some u/\RelV x u
 |_,_,_,_,.nil,e=>by simp at e
 |_,_,0,_,.cons r _,e=>by simp at e;subst e;exact(9,r)
 |_,_,i+1,x,.cons _ t,e=>by
  obtain⟨u,c,b⟩:=Vals.get (i:=i) (x:=x) t (by simpa using e);exact(u,by simpa using c,b)
theorem Vals.set{x:V}{u:Value}(r:RelV x u):∀{xs:List V}{a:List Value} (i:Nat),Vals xs a->Vals (xs.set i x) (a.set i u)
 |_,_,_,.nil=>.nil
 |_,_,0,.cons _ t=>.cons r t
 |_,_,i+1,.cons q t=>.cons q (Vals.set r i t)
theorem Vals.append:∀{xs ys:List V}{a ws:List Value},Vals xs a->Vals ys ws->Vals (xs++ys) (a++ws)
 |_,_,_,_,.nil,s=>s
 |_,_,_,_,.cons r t,s=>.cons r (Vals.append t s)
theorem Vals.take:∀{xs:List V}{a:List Value} (n:Nat),Vals xs a->Vals (xs.take n) (a.take n)
 |_,_,0,_=>.nil
 |_,_,_+1,.nil=>.nil
 |_,_,n+1,.cons r t=>.cons r (Vals.take n t)
theorem Vals.drop:∀{xs:List V}{a:List Value} (n:Nat),Vals xs a->Vals (xs.drop n) (a.drop n)
 |_,_,0,r=>r
 |_,_,_+1,.nil=>.nil
 |_,_,n+1,.cons _ t=>Vals.drop n t
def uR:Option V->Option Value->Prop
 |some v,some u=>RelV v u
 |none,none=>True
 |_,_=>False
def KV{κ:Type}:List (κ×V)->List (κ×Value)->Prop:=Paired λ(p:κ×V) (q:κ×Value)=>p.1=q.1/\RelV p.2 q.2
def kV:Key->V
 |.inl i=>.int i
 |.inr x=>.str x
inductive HO where
  | lst (xs:List V)
  | tup (xs:List V)
  | dK (kvs:List (Key×V)) | dT (kvs:List (List Key×V))
  | set (S:Int->Bool) (n:Nat)
  | ins (C dx:Addr) (fs:List (Str×V))
  | own (x:Addr)
  | xd (fs:List (Str×V))
  | met (f x:Addr)
  | rng (lo hi:Int)
  | Wj (o:Obj) (u:HO)
  | Yp (ps:Array Value)
  | ext (φ:Heap->Prop)
abbrev Hp:=Addr->Option HO
def upd(H:Hp)(a:Addr)(o:HO):Hp:=λb=>if b=a then some o else H b
theorem aa{H:Hp}{a:Addr}{o:HO}:upd H a o a=some o:=by unfold upd;rw[if_pos rfl]
theorem aK{H:Hp}{a b:Addr}{o:HO}(h:b≠a):upd H a o b=H b:=by unfold upd;rw[if_neg h]
theorem iu{H:Hp}{a:Addr}{o u:HO}:upd (upd H a o) a u=upd H a u:=by
 funext b;unfold upd;split<;>rfl
theorem U9{H:Hp}{a b:Addr}{o u:HO}(h:H a=some o)(h':H b=some u)(d:o≠u):a≠b:=by
 intro e;subst e;rw[h]at h';exact d (afE h')
theorem aH{H:Hp}{a b:Addr}{o:HO}(h:H a=some o)(h':H b=none):a≠b:=by
 intro e;subst e;rw[h]at h';cases h'
section
variable(P:Program)(w:World)
def b7(H:Hp)(h:Heap)(a:Addr):HO->Prop
 |.lst d=>d.length<=sizeLine /\ ∃(c:List Value) (n:Nat),Vals d c/\h.get? a=some {cls:=.type "list",data:=.seq c.toArray n}
 |.tup d=>d.length<=sizeLine /\ ∃c:List Value,Vals d c/\IsTup h a c.toArray
 |.dK b=>b.length<=sizeLine/\(a==sysModules)=false /\ ∃k,KV b k/\h.DictOf (cQ P w) a k
 |.dT b=>b.length<=sizeLine/\(a==sysModules)=false /\ ∃d:List (List Key×Addr×Value),
   Paired (λ(p:List Key×V) (q:List Key×Addr×Value)=>p.1=q.1/\H q.2.1=some (.tup (p.1.map kV))/\RelV p.2 q.2.2) b d /\
   ∃o r A,h.get? a=some o/\o.ExactDict/\o.data=.dict r A/\r.toList=d.map (entryOfKey (tupleKind (cQ P w)))/\(d.map (·.1)).Nodup
 |.set S n=>h.SetOf (intKind P w) a S n
 |.ins C i g=>H i=some (.own a)/\g.length<=1000/\i≠a/\h.get? a=some (PySem.W.instObj C i) /\
   ∃e,h.Ns1 i e/\(∀f,uR (g.lookup f) (e f))/\PySem.Within e (g.map (·.1))
 |.own _=>∃o,h.get? a=some o
 |.xd g=>∃e,h.Ns1 a e /\ ∀f,uR (g.lookup f) (e f)
 |.rng y z=>∃t u v,h.get? a=some {cls:=.type "range",data:=.fields #[.int y t,.int z u,.int 1 v]}
 |.Wj o u=>h.get? a=some o/\b7 H h a u
 |.Yp s=>h.get? a=some {cls:=.none,data:=.fields s}
 |.met f x=>h.get? a=some (PySem.W.methodObj (.ref f) (.ref x))
 |.ext j=>j h/\(∃o,h.get? a=some o) /\ ∀m l:Heap,j m->(∀o,m.get? a=some o->l.get? a=some o)->j l
def Wa(H:Hp)(h:Heap):Prop:=∀a o,H a=some o->b7 P w H h a o
end
section
variable{P:Program}{w:World}{H H':Hp}{o:HO}
theorem b7.lt(x:b7 P w H h a o):a<h.objs.size:=by
 cases o with
 |lst c=>obtain⟨_,_,_,_,e⟩:=x;exact Heap.lt_size e
 |tup c=>obtain⟨_,_,_,p⟩:=x;exact p.lt
 |dK b=>obtain⟨_,_,_,_,o,_,_,e,_⟩:=x;exact Heap.lt_size e
 |dT b=>obtain⟨_,_,_,_,o,_,_,e,_⟩:=x;exact Heap.lt_size e
 |set S n=>obtain⟨o,_,_,_,e,_⟩:=x;exact Heap.lt_size e
 |ins C m d=>obtain⟨_,_,_,e,_⟩:=x;exact Heap.lt_size e
 |own y=>obtain⟨_,e⟩:=x;exact Heap.lt_size e
 |xd d=>obtain⟨_,⟨_,_,_,e,_⟩,_⟩:=x;exact Heap.lt_size e
 |rng k l=>obtain⟨_,_,_,e⟩:=x;exact Heap.lt_size e
 |Wj j u=>obtain⟨e,_⟩:=x;exact Heap.lt_size e
 |Yp i=>exact Heap.lt_size (show h.get? a=some _ from x)
 |met f y=>exact Heap.lt_size (show h.get? a=some _ from x)
 |ext g=>obtain⟨_,⟨_,e⟩,_⟩:=x;exact Heap.lt_size e
theorem Paired.mapP{d c:Type}{F G:d->c->Prop}:∀{l₁:List d}{l₂:List c},Paired F l₁ l₂->(∀a b,F a b->G a b)->Paired G l₁ l₂
 |_,_,.nil,_=>.nil
 |_,_,.cons r t,f=>.cons (f _ _ r) (Paired.mapP t f)
theorem b7.stay(x:b7 P w H h a o)(k:∀b u,(b=a\/H b=some (.own a))->h.get? b=some u->h'.get? b=some u)
  (I:∀b,H b=some (.own a)->H' b=some (.own a))(ht:∀b xs,H b=some (.tup xs)->H' b=some (.tup xs)):b7 P w H' h' a o:=by
 induction o with
 |lst xs=>obtain⟨z,l,n,r,e⟩:=x;exact(z,l,n,r,k _ _ (.inl rfl) e)
 |tup xs=>obtain⟨z,l,r,g,e,c⟩:=x;exact(z,l,r,g,k _ _ (.inl rfl) e,c)
 |dK A=>obtain⟨z,y,E,r,g,i,j,e,c⟩:=x;exact(z,y,E,r,g,i,j,k _ _ (.inl rfl) e,c)
 |dT A=>
  obtain⟨z,y,xs,r,g,i,j,e,c⟩:=x;exact(z,y,xs,Paired.mapP r λp q z=>(z.1,ht _ _ z.2.1,z.2.2),g,i,j,k _ _ (.inl rfl) e,c)
 |set S n=>obtain⟨g,i,j,t,e,c⟩:=x;exact(g,i,j,t,k _ _ (.inl rfl) e,c)
 |ins C O J=>
  obtain⟨d,z,F,e,s,⟨m,i,j,K,c⟩,r⟩:=x;exact(I _ d,z,F,k _ _ (.inl rfl) e,s,(m,i,j,k _ _ (.inr d) K,c),r)
 |own y=>obtain⟨g,e⟩:=x;exact(g,k _ _ (.inl rfl) e)
 |xd J=>obtain⟨s,⟨m,i,j,e,c⟩,r⟩:=x;exact(s,(m,i,j,k _ _ (.inl rfl) e,c),r)
 |rng M N=>obtain⟨t,u,v,e⟩:=x;exact(t,u,v,k _ _ (.inl rfl) e)
 |Wj g u G=>obtain⟨e,q⟩:=x;exact(k _ _ (.inl rfl) e,G q)
 |Yp D=>
  have e:h.get? a=some {cls:=.none,data:=.fields D}:=x;show h'.get? a=some {cls:=.none,data:=.fields D};exact k a _ (.inl rfl) e
 |met f y=>
  have e:h.get? a=some (PySem.W.methodObj (.ref f) (.ref y)):=x;show h'.get? a=some (PySem.W.methodObj (.ref f) (.ref y));exact k a _ (.inl rfl) e
 |ext L=>obtain⟨p,⟨o,e⟩,B⟩:=x;exact(B _ _ p λo q=>k _ _ (.inl rfl) q,(o,k _ _ (.inl rfl) e),B)
theorem Wa.lt(x:Wa P w H h)(e:H a=some o):a<h.objs.size:=(x a o e).lt
theorem Wa.fresh(x:Wa P w H h)(e:h.objs.size<=a):H a=none:=by
 cases q:H a with
 |none=>rfl
 |some u=>exact absurd (aau (x.lt q) e) (agg _)
theorem Wa.kept(x:Wa P w H h)(k:∀b u,h.get? b=some u->h'.get? b=some u):Wa P w H h':=λa o e=>
 (x a o e).stay (λb u _ q=>k b u q) (λ_ q=>q) λ_ _ q=>q
theorem Wa.laid(x:Wa P w H h)(k:∀b u,h.get? b=some u->h'.get? b=some u)(i:h.objs.size<=a)(d:b7 P w (upd H a o) h' a o):Wa P w (upd H a o) h':=λb u e=>by
 have f:=x.fresh i;by_cases g:b=a
 ·subst g;rw[aa]at e;cases e;exact d
 ·rw[aK g]at e;exact(x b u e).stay (λc v _ q=>k c v q) (λc q=>by rw[aK (aH q f)];exact q) λc j q=>by rw[aK (aH q f)];exact q
end
def Rd(H:Hp)(a:Addr)(u:HO):Prop:=H a=some u \/ ∃o,H a=some (.Wj o u)
theorem Rd.ok{P:Program}{w:World}{H:Hp}{a:Addr}{u:HO}(r:Rd H a u)(x:Wa P w H base):b7 P w H base a u:=by
 rcases r with r|⟨o,r⟩
 ·exact x a u r
 ·obtain⟨_,q⟩:=x a _ r;exact q
def Zn:Option HO->Prop
 |some (.lst _)=>True
 |some (.dK _)=>True
 |some (.dT _)=>True
 |some (.set _ _)=>True
 |some (.ins _ _ _)=>True
 |some (.ext _)=>True
 |_=>False
section
variable{P:Program}{w:World}{H:Hp}{e:Addr}{o':HO}
theorem Wa.write(s:Wa P w H h)(i:Zn (H x))(p:e=x\/H e=some (.own x))(k:∀b u,b≠e->h.get? b=some u->h'.get? b=some u)(n:∃u,h'.get? e=some u)
  (m:b7 P w (upd H x o') h' x o'):Wa P w (upd H x o') h':=λb u q=>by
 have d:∀c y,H c=some (.own y)->c≠x:=λc y r z=>by subst z;rw[r]at i;exact i
 have f:∀c g,H c=some (.tup g)->c≠x:=λc g r z=>by subst z;rw[r]at i;exact i
 by_cases l:b=x
 ·subst l;rw[aa]at q;cases q;exact m
 ·rw[aK l]at q;by_cases a:b=e
  ·have o:H b=some (.own x):=by
    rcases p with z|z
    ·exact absurd (a.trans z) l
    ·rw[a];exact z
   rw[q]at o;cases o;obtain⟨v,t⟩:=n;exact(v,by rw[a];exact t)
  ·refine(s b u q).stay (λc v j r=>k c v ?_ r) (λc r=>by rw[aK (d c b r)];exact r) λc g r=>by rw[aK (f c g r)];exact r
   rcases j with rfl|j
   ·exact a
   ·rintro rfl;rcases p with z|z
    ·exact d c b j z
    ·rw[j]at z;cases z;exact l rfl
end
structure Un(fs ex:List Addr)(H H':Hp)(h h':Heap):Prop where
 keep:∀b o,h.get? b=some o->H b=none->b∉fs->b∉ex->h'.get? b=some o
 slot:∀b o,h.get? b=some o->H b=none->b∈fs->b∉ex -> ∃sl,h'.get? b=some {o with slots:=sl}
 free:∀b o,h.get? b=some o->H b=none->b∉ex->H' b=none
 there:∀b o,h.get? b=some o->b∉ex -> ∃o',h'.get? b=some o'
 tups:∀b xs,H b=some (.tup xs)->H' b=some (.tup xs)
 frzs:∀b o u,H b=some (.Wj o u)->H' b=some (.Wj o u)
 tbls:∀b ps,H b=some (.Yp ps) -> ∃more,H' b=some (.Yp (ps++more))
section
variable{fs fs' ex ex':List Addr}{H H1 H2:Hp}{h1 h2:Heap}{e:Addr}{o:HO}
theorem Un.any(u:Un fs ex H H1 h h1){b:Addr}{c:Obj}(q:h.get? b=some c)(n:H b=none)(d:b∉ex):∃g,h1.get? b=some {c with slots:=g}:=by
 by_cases f:b∈fs
 ·exact u.slot b c q n f d
 ·exact(c.slots,u.keep b c q n f d)
theorem Un.trans(a:Un fs ex H H1 h h1)(b:Un fs ex H1 H2 h1 h2):Un fs ex H H2 h h2 where
 keep:=λc d q n j f=>b.keep c d (a.keep c d q n j f) (a.free c d q n f) j f
 slot:=λc d q n j f=>by
  obtain⟨t,g⟩:=a.slot c d q n j f;obtain⟨m,l⟩:=b.slot c _ g (a.free c d q n f) j f;exact(m,l)
 free:=λc d q n f=>by
  obtain⟨k,g⟩:=a.there c d q f;exact b.free c k g (a.free c d q n f) f
 there:=λc d q f=>by
  obtain⟨k,g⟩:=a.there c d q f;exact b.there c k g f
 tups:=λc i q=>b.tups c i (a.tups c i q)
 frzs:=λc d i q=>b.frzs c d i (a.frzs c d i q)
 tbls:=λc p q=>by
  obtain⟨s,g⟩:=a.tbls c p q;obtain⟨r,l⟩:=b.tbls c _ g;exact(s++r,by rw[l,ahl])
theorem Un.kept(k:∀b u,h.get? b=some u->h'.get? b=some u):Un fs ex H H h h':=
 (λb c q _ _ _=>k b c q,λb c q _ _ _=>(c.slots,k b c q),λ_ _ _ n _=>n,λb c q _=>(c,k b c q),λ_ _ q=>q,λ_ _ _ q=>q,λ_ d q=>(#[],by rw[q];simp))
theorem Un.refl:Un fs ex H H h h:=Un.kept λ_ _ q=>q
theorem Un.laid(k:∀b u,h.get? b=some u->h'.get? b=some u)(f:h.objs.size<=a)(c:H a=none):Un fs ex H (upd H a o) h h' where
 keep:=λb u q _ _ _=>k b u q
 slot:=λb u q _ _ _=>(u.slots,k b u q)
 free:=λb u q n _=>by rw[aK (ae2 (aau (Heap.lt_size q) f))];exact n
 there:=λb u q _=>(u,k b u q)
 tups:=λb d q=>by rw[aK (aH q c)];exact q
 frzs:=λb u d q=>by rw[aK (aH q c)];exact q
 tbls:=λb g q=>(#[],by rw[aK (aH q c),q];simp)
theorem Un.write(d:Zn (H x))(p:e=x\/H e=some (.own x))(k:∀b u,b≠e->h.get? b=some u->h'.get? b=some u)(g:∃u,h'.get? e=some u):Un fs ex H (upd H x o) h h':=by
 have i:∀b,H b=none->b≠x:=λb n z=>by subst z;rw[n]at d;exact d
 have j:∀b,H b=none->b≠e:=λb n z=>by
  subst z;rcases p with r|r
  ·exact i b n r
  ·rw[n]at r;cases r
 have f:∀b u,H b=some u -> ¬Zn (some u)->b≠x:=λb u q m z=>by subst z;rw[q]at d;exact m d
 refine(λb u q n _ _=>k b u (j b n) q,λb u q n _ _=>(u.slots,k b u (j b n) q),λb u q n _=>by rw[aK (i b n)];exact n,λb u q _=>?_,
  λb l q=>by rw[aK (f b _ q λz=>z)];exact q,λb u l q=>by rw[aK (f b _ q λz=>z)];exact q,λb s q=>(#[],by rw[aK (f b _ q λz=>z),q];simp))
 by_cases c:b=e
 ·subst c;exact g
 ·exact(u,k b u c q)
end
def Wo(h:Heap)(H:Hp):List Addr:=(abS h.objs.size).filter λa=>(H a).isSome
def zT(h:Heap)(H:Hp):Heap:=PySem.W.hideAll h (Wo h H)
theorem JK(h:Heap)(H:Hp):(zT h H).objs.size=h.objs.size:=PySem.W.hideAll_size _ _
theorem Mp{H:Hp}{b:Addr}{o:Obj}(e:base.get? b=some o)(n:H b=none):(zT base H).get? b=some o:=
 PySem.W.hideAll_get _ e λa=>by
  have q:(H b).isSome=true:=(aho.mp a).2;rw[n]at q;simp at q
theorem Qv{H:Hp}{b:Addr}{o:Obj}(e:(zT base H).get? b=some o):base.get? b=some o/\H b=none:=by
 have a:base.get? b=some o:=PySem.W.of_hideAll (Wo base H) e;exists a;cases q:H b with
 |none=>rfl
 |some x=>
  have c:b∈Wo base H:=aho.mpr (af5.mpr (Heap.lt_size a),by simp[q]);have z:(zT base H).get? b=none:=PySem.W.hideAll_none (Wo base H) c;rw[z]at e;cases e
def PJ(g h:Heap)(L:Addr):List (Addr×Obj):=(abS h.objs.size).filterMap λa=>if a=L\/(g.get? a).isSome=true then none else (h.get? a).map λo=>(pq a o)
def rest(g h:Heap)(L d:Addr):List (Addr×Obj):=(PJ g h L).filter λp=>decide (p.1≠d)
structure Mod(K:PySem.W.Frag)(mg:Str->Option Value)(base:Heap):Prop where
 Yx:K.In base
 glob:base.Ns mainGlobals mg
 blt:∃mb,base.Ns builtinsNs mb /\ ∀x:Str,x ≠ "__name__" -> mb x=bootBuiltins x
 nolimit:base.NoLimit
structure Cx where
 prog:Program
 w:World
 K:PySem.W.Frag
 mg:Str->Option Value
 base:Heap
 A:Around
 N:List Str
 s₀:Shared
 H₀:Hp
 env:Env
 outer:List Env
 stack:List Env
 ex:List Addr
 fn:Str->Bool
 calm:Bool
 pn:List (Addr×Obj)
 xe:Value->Shared->Prop
def frs(l:List Env):List Addr:=l.filterMap (·.frame)
abbrev Cx.fs(X:Cx):List Addr:=frs X.outer
def Zo(a:Scope)(x:Str):Prop:=a.names.lookup x=some .local\/a.names.lookup x=some .cell\/a.names.lookup x=some .free
def Loc(a:Scope)(x:Str):Prop:=a.names.lookup x=some .local\/a.names.lookup x=some .cell
def Look(env:Env)(h:Heap)(m:Str->Option Value)(x:Str)(u:Value):Prop:=
 (env.kindOf x=some .local/\m x=some u)\/((env.kindOf x=some .cell\/env.kindOf x=some .free) /\ ∃c,env.cells.lookup x=some c/\h.IsCell c (some u))
structure Cx.Ok(X:Cx):Prop where
 mod:Mod X.K X.mg X.base
 kind:X.env.scope.kind=.function
 glob:X.env.globals=mainGlobals
 blt:X.env.builtins=builtinsNs
 above:X.s₀.heap.objs.size<=X.env.locals
 inj:∀x y c,X.env.cells.lookup x=some c->X.env.cells.lookup y=some c->x=y
 has:∀x,(X.env.kindOf x=some .cell\/X.env.kindOf x=some .free) -> ∃c,X.env.cells.lookup x=some c
 cab:∀x c,X.fn x=true->X.env.cells.lookup x=some c->X.s₀.heap.objs.size<=c
 hd:X.calm=true->X.A.handled=none
 frames:X.A.frames=some X.stack
 WN:X.stack=X.outer\/(X.stack=X.env::X.outer/\X.env.frame=some X.env.locals)
 Yy:∀b∈X.ex,b≠X.env.locals /\ ∀x c,X.env.cells.lookup x=some c->c≠b
 bs:∀b o,X.base.get? b=some o->X.s₀.heap.get? b=some o/\X.H₀ b=none
 W4:X.base.objs.size<=X.s₀.heap.objs.size
 noex:∀b o,X.base.get? b=some o->b∉X.ex
 exfs:∀b∈X.ex,b∉X.fs
 funs:X.s₀.heap.FunFrames X.base X.outer
 XD:∀b∈X.fs,X.H₀ b=none
structure Inv(X:Cx)(π:List (Addr×Obj))(σ:List (Option V))(H:Hp)(s:Shared):Prop where
 ok:X.Ok
 os:s.os=X.s₀.os
 bare:AllBare s.gens
 base:Un X.fs X.ex X.H₀ H X.s₀.heap s.heap
 loc:∃m,s.heap.Ns X.env.locals m /\ ∀(i:Nat) (x:Str) (v:V),X.N[i]?=some x->σ[i]?=some (some v)->Zo X.env.scope x -> ∃u,RelV v u/\Look X.env s.heap m x u
 cell:∀x c,X.env.cells.lookup x=some c -> ∃v,s.heap.IsCell c v
 free:H X.env.locals=none
 freeC:∀x c,X.env.cells.lookup x=some c->H c=none
 pin:∀p∈X.pn++π,s.heap.get? p.1=some p.2/\H p.1=none/\p.1≠X.env.locals/\p.1∉X.fs /\ ∀v,p.2.data ≠ .cell v
 hok:Wa X.prog X.w H s.heap
 len:σ.length=X.N.length
section
variable{X:Cx}{σ:List (Option V)}{H H':Hp}
theorem Cx.Ok.nofr(a:X.Ok){b:Addr}{o:Obj}(e:X.base.get? b=some o):b∉X.fs:=λc=>by
 have:=(a.funs.mem c).1;rw[e]at this;cases this
theorem Inv.bs(I:Inv X π σ H s):∀b o,X.base.get? b=some o->s.heap.get? b=some o/\H b=none:=λb o e=>
 (I.base.keep b o (I.ok.bs b o e).1 (I.ok.bs b o e).2 (I.ok.nofr e) (I.ok.noex b o e),I.base.free b o (I.ok.bs b o e).1 (I.ok.bs b o e).2 (I.ok.noex b o e))
theorem Inv.bk(I:Inv X π σ H s):∀b o,X.base.get? b=some o->s.heap.get? b=some o:=λb o e=>(I.bs b o e).1
theorem Inv.mod(I:Inv X π σ H s):Mod X.K X.mg X.base:=I.ok.mod
theorem Inv.Wt(I:Inv X π σ H s):X.K.In s.heap:=I.ok.mod.Yx.keeps I.bk
theorem Inv.lt(I:Inv X π σ H s):X.env.locals<s.heap.objs.size:=let ⟨_,hn,_⟩:=I.loc;hn.lt
theorem Inv.sz(I:Inv X π σ H s):X.s₀.heap.objs.size<=s.heap.objs.size:=agd I.ok.above (agW I.lt)
theorem Inv.nofs(I:Inv X π σ H s){a:Addr}(h:s.heap.objs.size<=a):a∉X.fs:=λc=>by
 obtain⟨_,o,b,_⟩:=I.ok.funs.mem c;exact absurd (aau (Heap.lt_size b) (agd I.sz h)) (agg _)
theorem Inv.XF(I:Inv X π σ H s):∀x c,X.env.cells.lookup x=some c->c≠X.env.locals:=λx c e z=>by
 obtain⟨v,o,d,hd⟩:=I.cell x c e;obtain⟨m,⟨f,g,h,a,b,_⟩,_⟩:=I.loc;rw[z,a]at d;cases d;rw[b]at hd;cases hd
theorem Inv.funs(I:Inv X π σ H s):s.heap.FunFrames X.base X.outer:=by
 have f:∀(l:List Env),(∀b∈frs l,b∈X.fs)->X.s₀.heap.FunFrames X.base l->s.heap.FunFrames X.base l:=by
  intro l
  induction l with
  |nil=>intro _ _;trivial
  |cons p r h=>
   intro g m;obtain⟨n,⟨L,o,a,k,j,hd⟩,i⟩:=m;have d:L∈X.fs:=g L (by unfold frs;rw[agR,a];exact aan);obtain⟨q,e⟩:=I.base.slot L o j (I.ok.XD L d) d λz=>I.ok.exfs L z d;exact(n,(L,_,a,k,e,hd),h (λb c=>g b (by unfold frs;rw[agR,a];exact aaj _ c)) i)
 exact f X.outer (λ_ c=>c) I.ok.funs
theorem Inv.stack(I:Inv X π σ H s):s.heap.FunFrames X.base X.stack:=by
 rcases I.ok.WN with e|⟨e,b⟩
 ·rw[e];exact I.funs
 ·rw[e];obtain⟨m,a,_⟩:=I.loc;refine .cons (by rw[I.ok.kind];decide) b a ?_ I.funs;exact Heap.get?_none_of_le (agd I.ok.W4 I.ok.above)
theorem Inv.stkSub(I:Inv X π σ H s):∀b∈frs X.stack,b∈X.env.locals::X.fs:=λb a=>by
 rcases I.ok.WN with e|⟨e,c⟩
 ·rw[e]at a;exact aaj _ a
 ·rw[e]at a;unfold frs at a;rw[agR,c]at a;exact a
theorem Inv.stkFree(I:Inv X π σ H s):∀b∈frs X.stack,H b=none:=λb a=>by
 rcases aat.mp (I.stkSub b a)with e|a
 ·rw[e];exact I.free
 ·obtain⟨_,o,c,_⟩:=I.ok.funs.mem a;exact I.base.free b o c (I.ok.XD b a) λz=>I.ok.exfs b z a
theorem Inv.step{g':Array GenState}{t':Nat}{d':Drawn}{ch:List Addr}(I:Inv X π σ H s)
  (g:∀b∈ch,(b∈X.ex\/X.s₀.heap.objs.size<=b)/\b≠X.env.locals/\(∀x c,X.env.cells.lookup x=some c->c≠b) /\ ∀p∈X.pn++π,p.1≠b)
  (h:∀b o,b≠X.env.locals->b∉X.fs->b∉ch->s.heap.get? b=some o->H b=none->h'.get? b=some o)
  (A:∀b o,b≠X.env.locals->b∈X.fs->b∉ch->s.heap.get? b=some o->H b=none -> ∃O,h'.get? b=some {o with slots:=O})(f:∀b o,b∉ch->s.heap.get? b=some o->H b=none->H' b=none)
  (C:∀b o,b∉ch->s.heap.get? b=some o -> ∃E,h'.get? b=some E)
  (K:∀b xs,H b=some (.tup xs)->H' b=some (.tup xs))(N:∀b o u,H b=some (.Wj o u)->H' b=some (.Wj o u))(L:∀b ps,H b=some (.Yp ps) -> ∃M,H' b=some (.Yp (ps++M)))
  (ns:∀m,s.heap.Ns X.env.locals m->h'.Ns X.env.locals m)(Q:Wa X.prog X.w H' h')(hg:AllBare g'):
  Inv X π σ H' {s with heap:=h',gens:=g',drawn:=d',toks:=t'}:=by
 have J:∀b o,X.s₀.heap.get? b=some o->b≠X.env.locals:=λb o e=>ae2 (aau (Heap.lt_size e) I.ok.above);have y:∀b o,X.s₀.heap.get? b=some o->b∉X.ex->b∉ch:=λb o e a B=>by
  rcases(g b B).1 with z|z
  ·exact a z
  ·exact absurd (aau (Heap.lt_size e) z) (agg _)
 have j:∀x c,X.env.cells.lookup x=some c -> ∀v,s.heap.IsCell c v->h'.IsCell c v:=λx c e v ⟨o,D,hd⟩=>by
  have G:c∉ch:=λz=>(g c z).2.2.1 x c e rfl;by_cases U:c∈X.fs
  ·obtain⟨O,q⟩:=A c o (I.XF x c e) U G D (I.freeC x c e);exact(_,q,hd)
  ·exact(o,h c o (I.XF x c e) U G D (I.freeC x c e),hd)
 refine(I.ok,I.os,hg,(λb o e n B a=>?_,λb o e n B a=>?_,λb o e n a=>?_,λb o e a=>?_,λb xs e=>K b xs (I.base.tups b xs e),λb o xs e=>N b o xs (I.base.frzs b o xs e),λb ps e=>?_),1,λx c e=>?_,1,λx c e=>?_,λp T=>?_,Q,I.len)
 ·exact h b o (J b o e) B (y b o e a) (I.base.keep b o e n B a) (I.base.free b o e n a)
 ·obtain⟨O,t⟩:=I.base.slot b o e n B a;obtain⟨P,F⟩:=A b _ (J b o e) B (y b o e a) t (I.base.free b o e n a);exact(P,F)
 ·obtain⟨E,t⟩:=I.base.there b o e a;exact f b E (y b o e a) t (I.base.free b o e n a)
 ·obtain⟨E,t⟩:=I.base.there b o e a;exact C b E (y b o e a) t
 ·obtain⟨W,t⟩:=I.base.tbls b ps e;obtain⟨V,F⟩:=L b _ t;exact(W++V,by rw[F,ahl])
 ·obtain⟨m,Y,Z⟩:=I.loc;refine(m,ns m Y,λi x v t F e3=>?_);obtain⟨u,r,l⟩:=Z i x v t F e3;exists u,r;rcases l with l|⟨k,c,e,z⟩
  ·exact .inl l
  ·exact .inr (k,c,e,j x c e _ z)
 ·obtain⟨v,z⟩:=I.cell x c e;exact(v,j x c e v z)
 ·obtain⟨m,⟨o,_,_,D,_⟩,_⟩:=I.loc;exact f _ o (λz=>(g _ z).2.1 rfl) D I.free
 ·obtain⟨v,o,D,hd⟩:=I.cell x c e;exact f c o (λz=>(g c z).2.2.1 x c e rfl) D (I.freeC x c e)
 ·obtain⟨e,n,S,R,d⟩:=I.pin p T;have G:p.1∉ch:=λz=>(g p.1 z).2.2.2 p T rfl;exact(h p.1 p.2 S R G e n,f p.1 p.2 G e n,S,R,d)
theorem Inv.un{t':Nat}(I:Inv X π σ H s)(u:Un X.fs [] H H' s.heap h')(d:Wa X.prog X.w H' h'):Inv X π σ H' {s with heap:=h',toks:=t'}:=by
 obtain⟨m,⟨o,t,v,h,r⟩,_⟩:=id I.loc;obtain⟨l,k⟩:=u.any h I.free (by simp);exact I.step (g':=s.gens) (d':=s.drawn) (ch:=[]) (λ_ z=>nomatch z) (λb o _ c _ e n=>u.keep b o e n c (by simp)) (λb o _ c _ e n=>u.slot b o e n c (by simp)) (λb o _ e n=>u.free b o e n (by simp)) (λb o _ e=>u.there b o e (by simp)) u.tups u.frzs u.tbls (λq j=>by
  obtain⟨p,f,g,a,i⟩:=j;rw[h]at a;cases a;exact(_,f,g,k,i)) d I.bare
theorem Inv.call{g':Array GenState}{t':Nat}{d':Drawn}{ch:List Addr}(I:Inv X π σ H s)(u:Un (frs X.stack) ch H H' s.heap h')(h:Wa X.prog X.w H' h')(t:AllBare g')
  (f:∀b∈ch,(b∈X.ex\/X.s₀.heap.objs.size<=b)/\b≠X.env.locals/\(∀x c,X.env.cells.lookup x=some c->c≠b) /\ ∀p∈X.pn++π,p.1≠b):
  Inv X π σ H' {s with heap:=h',gens:=g',drawn:=d',toks:=t'}:=by
 obtain⟨m,⟨o,C,D,k,r⟩,_⟩:=id I.loc;obtain⟨y,g⟩:=u.any k I.free λz=>(f _ z).2.1 rfl;exact I.step (ch:=ch) f (λb o g v a e n=>u.keep b o e n (λz=>(aat.mp (I.stkSub b z)).elim g v) a) (λb o _ _ a e n=>u.any e n a) (λb o a e n=>u.free b o e n a) (λb o a e=>u.there b o e a) u.tups u.frzs u.tbls (λB q=>by
  obtain⟨A,i,j,d,l⟩:=q;rw[k]at d;cases d;exact(_,i,j,g,l)) h t
theorem Inv.turned{t':Nat}(I:Inv X π σ H s)(k:∀b o,b≠a->s.heap.get? b=some o->h'.get? b=some o)(i:H a=none)(g:a≠X.env.locals)
  (y:a∈X.ex\/X.s₀.heap.objs.size<=a)(w:∀x c,X.env.cells.lookup x=some c->c≠a)(t:∀p∈X.pn++π,p.1≠a):Inv X π σ H {s with heap:=h',toks:=t'}:=by
 have f:∀b u,H b=some u->b≠a:=λb u e z=>by rw[z,i]at e;cases e
 refine I.step (g':=s.gens) (d':=s.drawn) (ch:=[a]) (λb l=>?_) (λb o _ _ d e _=>k b o (λz=>d (by simp[z])) e) (λb o _ _ d e _=>(o.slots,k b o (λz=>d (by simp[z])) e)) (λ_ _ _ _ n=>n)
  (λb o d e=>(o,k b o (λz=>d (by simp[z])) e)) (λ_ _ e=>e) (λ_ _ _ e=>e) (λb C e=>(#[],by rw[e];simp)) (λm j=>?_) (λb u e=>?_) I.bare
 ·have e:b=a:=by simpa using l
  subst e;exact(y,g,w,t)
 ·obtain⟨o,A,B,h,r⟩:=j;exact(o,A,B,k _ o (agB g) h,r)
 ·refine(I.hok b u e).stay (λc v d q=>k c v ?_ q) (λ_ q=>q) λ_ _ q=>q;rcases d with z|z
  ·rw[z];exact f b u e
  ·exact f c _ z
theorem Inv.tok(I:Inv X π σ H s)(t:Nat):Inv X π σ H {s with toks:=t}:=I.un (h':=s.heap) (t':=t) Un.refl I.hok
theorem Inv.kept{t':Nat}(I:Inv X π σ H s)(k:∀b u,s.heap.get? b=some u->h'.get? b=some u):Inv X π σ H {s with heap:=h',toks:=t'}:=I.un (Un.kept k) (I.hok.kept k)
theorem Inv.laid{a:Addr}{o:HO}{t':Nat}(I:Inv X π σ H s)(k:∀b u,s.heap.get? b=some u->h'.get? b=some u)(c:s.heap.objs.size<=a)(d:b7 X.prog X.w (upd H a o) h' a o):
  Inv X π σ (upd H a o) {s with heap:=h',toks:=t'}:=I.un (Un.laid k c (I.hok.fresh c)) (I.hok.laid k c d)
theorem Inv.write{x e:Addr}{o:HO}{t':Nat}(I:Inv X π σ H s)(d:Zn (H x))(f:e=x\/H e=some (.own x))(k:∀b u,b≠e->s.heap.get? b=some u->h'.get? b=some u)(a:∃u,h'.get? e=some u)
  (c:b7 X.prog X.w (upd H x o) h' x o):Inv X π σ (upd H x o) {s with heap:=h',toks:=t'}:=I.un (Un.write d f k a) (I.hok.write d f k a c)
theorem Inv.pins_of{a:List (Addr×Obj)}(I:Inv X π σ H s)(h:∀p∈a,s.heap.get? p.1=some p.2/\H p.1=none/\p.1≠X.env.locals/\p.1∉X.fs /\ ∀v,p.2.data ≠ .cell v):Inv X a σ H s:=
 (I.ok,I.os,I.bare,I.base,I.loc,I.cell,I.free,I.freeC,λp b=>(aas.mp b).elim (λz=>I.pin p (afQ _ z)) (h p),I.hok,I.len)
theorem v4{N:List Str}(c:N.Nodup){i j:Nat}{x:Str}(a:N[i]?=some x)(b:N[j]?=some x):i=j:=by
 obtain⟨g,e⟩:=aad.mp a;obtain⟨f,d⟩:=aad.mp b;exact(List.getElem_inj c).mp (e.trans d.symm)
theorem nP{M:Model}{A:Around}{E:Value->Shared->Prop}{i:Nat}{x:Str}{v:V}{u:Value}{Q:Unit->Shared->Prop}(I:Inv X π σ H s)(hN:X.N.Nodup)(O:X.N[i]?=some x)(B:Loc X.env.scope x)(r:RelV v u)
  (h:∀s',Inv X π (σ.set i (some v)) H s'->(∃a,Heap.SameBut a s.heap s'.heap/\(a=X.env.locals\/X.env.cells.lookup x=some a))->Q () s')(hf:X.fn x=true\/X.env.scope.names.lookup x=some .local:=by first|exact .inl rfl|exact .inr rfl|assumption):wpAny M A (storeName X.env x u) Q E s:=by
 obtain⟨m,hn,hl⟩:=id I.loc;have U:(X.env.scope.kind == .class || (X.env.scope.kind == .module&&X.env.locals != X.env.globals))=false:=by rw[I.ok.kind];rfl
 have G:i<σ.length:=by rw[I.len];exact(aad.mp O).1
 have XF:=I.XF;have l:∀{a:Addr}{h':Heap},(∃o,s.heap.get? a=some o/\H a=none)->Heap.SameBut a s.heap h'->Wa X.prog X.w H h':=λ{a h'} ha f b ob e=>by
  obtain⟨_,_,C⟩:=ha;refine(I.hok b ob e).stay (λc W t q=>(f.2 c ?_).trans q) (λ_ q=>q) λ_ _ q=>q;rintro rfl;rcases t with rfl|t
  ·rw[C]at e;cases e
  ·rw[C]at t;cases t
 rcases B with F|F
 ·refine wpAny_storeName_local F hn (λh' a1 f=>?_) U;obtain⟨oL,_,_,a0,_⟩:=id hn;refine h _ (I.ok,I.os,I.bare,(λb o e n K B=>?_,λb o e n K B=>?_,I.base.free,λb o e B=>?_,I.base.tups,I.base.frzs,I.base.tbls),(_,a1,λj y v' g D e3=>?_),λy c e=>?_,I.free,I.freeC,λp hp=>?_,l (oL,a0,I.free) f,by simpa using I.len) (_,f,.inl rfl)
  ·exact(f.2 b (ae2 (aau (Heap.lt_size e) I.ok.above))).trans (I.base.keep b o e n K B)
  ·obtain⟨sl,g⟩:=I.base.slot b o e n K B;exact(sl,(f.2 b (ae2 (aau (Heap.lt_size e) I.ok.above))).trans g)
  ·obtain⟨o',g⟩:=I.base.there b o e B;exact(o',(f.2 b (ae2 (aau (Heap.lt_size e) I.ok.above))).trans g)
  ·by_cases J:j=i
   ·subst J;rw[O]at g;cases g;rw[agT G]at D;cases D;exact(u,r,.inl (F,by simp))
   ·rw[agO (agB J)]at D;obtain⟨u',r',q⟩:=hl j y v' g D e3;exists u',r';rcases q with ⟨k,e⟩|⟨k,c,e,z⟩
    ·refine .inl (k,1);have:y≠x:=λe=>J (v4 hN g (e ▸ O));simp[this,e]
    ·exact .inr (k,c,e,z.sameBut f (XF y c e))
  ·obtain⟨W,z⟩:=I.cell y c e;exact(W,z.sameBut f (XF y c e))
  ·obtain⟨e,n,Y,nf,d⟩:=I.pin p hp;exact((f.2 p.1 Y).trans e,n,Y,nf,d)
 ·have L:X.fn x=true:=by
   rcases hf with z|z
   ·exact z
   ·rw[z]at F;cases F
  obtain⟨c,t⟩:=I.ok.has x (.inl F);obtain⟨W,z⟩:=I.cell x c t;refine wpAny_storeName_cell I.ok.kind F t z (λh' S f=>?_);obtain⟨oc,P,T⟩:=id z;refine h {s with heap:=h'} (I.ok,I.os,I.bare,(λb o e n K B=>?_,λb o e n K B=>?_,I.base.free,λb o e B=>?_,I.base.tups,I.base.frzs,I.base.tbls),(m,hn.sameBut f (agB (XF x c t)),λj y v' g D e3=>?_),λy Z e=>?_,I.free,I.freeC,λp hp=>?_,l (oc,P,I.freeC x c t) f,by simpa using I.len) (c,f,.inr t)
  ·exact(f.2 b (ae2 (aau (Heap.lt_size e) (I.ok.cab x c L t)))).trans (I.base.keep b o e n K B)
  ·obtain⟨sl,g⟩:=I.base.slot b o e n K B;exact(sl,(f.2 b (ae2 (aau (Heap.lt_size e) (I.ok.cab x c L t)))).trans g)
  ·obtain⟨o',g⟩:=I.base.there b o e B;exact(o',(f.2 b (ae2 (aau (Heap.lt_size e) (I.ok.cab x c L t)))).trans g)
  ·by_cases J:j=i
   ·subst J;rw[O]at g;cases g;rw[agT G]at D;cases D;exact(u,r,.inr (.inl F,c,t,S))
   ·rw[agO (agB J)]at D;obtain⟨u',r',q⟩:=hl j y v' g D e3;exists u',r';rcases q with q|⟨k,Z,e,z'⟩
    ·exact .inl q
    ·refine .inr (k,Z,e,z'.sameBut f ?_);rintro rfl;exact J (v4 hN g (I.ok.inj _ _ _ e t ▸ O))
  ·by_cases R:Z=c
   ·subst R;exact(_,S)
   ·obtain⟨w2,z2⟩:=I.cell y Z e;exact(w2,z2.sameBut f R)
  ·obtain⟨e,n,Y,nf,d⟩:=I.pin p hp;refine((f.2 p.1 ?_).trans e,n,Y,nf,d);intro q;rw[q,P]at e;have q':oc=p.2:=afE e;exact d W (by rw[<-q'];exact T)
theorem uY{M:Model}{A:Around}{E:Value->Shared->Prop}{i:Nat}{x:Str}{v:V}{u:Value}{Q:Unit->Shared->Prop}(I:Inv X π σ H s)(d:X.N.Nodup)(b:X.N[i]?=some x)(a:Loc X.env.scope x)(r:RelV v u)
  (h:∀s',Inv X π (σ.set i (some v)) H s'->Q () s')(c:X.fn x=true\/X.env.scope.names.lookup x=some .local:=by first|exact .inl rfl|exact .inr rfl|assumption):wpAny M A (storeName X.env x u) Q E s:=
 nP I d b a r (λs' e _=>h s' e) c
theorem Inv.call'{s':Shared}{ch:List Addr}(I:Inv X π σ H s)(h:s'.os=s.os)(u:Un (frs X.stack) ch H H' s.heap s'.heap)(a:Wa X.prog X.w H' s'.heap)(i:AllBare s'.gens)
  (d:∀b∈ch,(b∈X.ex\/X.s₀.heap.objs.size<=b)/\b≠X.env.locals/\(∀x c,X.env.cells.lookup x=some c->c≠b) /\ ∀p∈X.pn++π,p.1≠b):Inv X π σ H' s':=by
 obtain⟨h',j,k,f,g⟩:=s';have e:g=s.os:=h;subst e;exact I.call (g':=j) (t':=f) (d':=k) u a i d
end
abbrev XK:=Value->Option Addr->Hp->Prop
abbrev St:=List (Option V)
abbrev VK:=V->Hp->Prop
abbrev TE:=St->Hp->VK->Prop
abbrev TT:=St->Hp->(Bool->Hp->Prop)->Prop
abbrev TA:=St->Hp->(List V->Hp->Prop)->Prop
structure Ends where
 nx:St->Hp->Prop
 rt:VK
 bk:St->Hp->Prop:=λ_ _=>False
 ct:St->Hp->Prop:=λ_ _=>False
variable{X:Cx}{H H0 H':Hp}{σ:St}{ta tb te:TE}{t:TA}{m:Addr->Hp->Prop}{q:List V}{L:TT}{R:Ends}{T:List (List Key×V)}{Y:List (List Key×Addr×Value)}
abbrev TS:=Ends->St->Hp->Prop
inductive EP(X:Cx)(π:List (Addr×Obj))(σ:St)(Q:VK)(u:Value)(s':Shared):Prop
 | mk (v H':_) (_:Inv X π σ H' s') (_:RelV v u) (_:Q v H')
def TP(X:Cx)(c:List (Addr×Obj))(σ:St)(Q:Bool->Hp->Prop)(b:Bool)(s':Shared):Prop:=∃a,Inv X c σ a s'/\Q b a
inductive AP(X:Cx)(π:List (Addr×Obj))(σ:St)(Q:List V->Hp->Prop)(us:List Value)(s':Shared):Prop
 | mk (vs H':_) (_:Inv X π σ H' s') (_:Vals vs us) (_:Q vs H')
def SP(X:Cx)(c:List (Addr×Obj))(D:Ends)(f:Flow)(s':Shared):Prop:=
 match f with
 |.next=>∃a b,Inv X c a b s'/\D.nx a b
 |.brk=>∃a b,Inv X c a b s'/\D.bk a b
 |.cont=>∃a b,Inv X c a b s'/\D.ct a b
 |.ret u=>∃v a b,Inv X c a b s'/\RelV v u/\D.rt v b
def PE(X:Cx)(e:Expr)(t:TE):Prop:=
 ∀(b:List (Addr×Obj)) (s:Shared) (a:St) (H:Hp) (Q:VK),Inv X b a H s->t a H Q->wpAny (model X.prog X.w) X.A (eval e X.env) (EP X b a Q) X.xe s
def PT(X:Cx)(e:Expr)(t:TT):Prop:=
 ∀(b:List (Addr×Obj)) (s:Shared) (a:St) (H:Hp) (Q:Bool->Hp->Prop),Inv X b a H s->t a H Q->wpAny (model X.prog X.w) X.A (isTrue e X.env (eval e X.env)) (TP X b a Q) X.xe s
def PW(X:Cx)(e:Expr)(t:TT):Prop:=
 ∀(a:Sem Value) (c:List (Addr×Obj)) (s:Shared) (b:St) (H:Hp) (Q:Bool->Hp->Prop),Inv X c b H s->t b H Q->wpAny (model X.prog X.w) X.A (isTrue e X.env a) (TP X c b Q) X.xe s
theorem PW.pt{X:Cx}{e:Expr}{t:TT}(h:PW X e t):PT X e t:=h _
def PA(X:Cx)(es:List Expr)(t:TA):Prop:=
 ∀(b:Pos) (c:List (Addr×Obj)) (s:Shared) (a:St) (H:Hp) (Q:List V->Hp->Prop),Inv X c a H s->t a H Q->wpAny (model X.prog X.w) X.A (spliced (backTo b (starEach es X.env))) (AP X c a Q) X.xe s
def PS(X:Cx)(st:Stmt)(t:TS):Prop:=
 ∀(b:List (Addr×Obj)) (s:Shared) (a:St) (H:Hp) (D:Ends),Inv X b a H s->t D a H->wpAny (model X.prog X.w) X.A (exec st X.env) (SP X b D) X.xe s
def Wu(X:Cx)(st:List Stmt)(t:TS):Prop:=
 ∀(b:List (Addr×Obj)) (s:Shared) (a:St) (H:Hp) (D:Ends),Inv X b a H s->t D a H->wpAny (model X.prog X.w) X.A (execs st X.env) (SP X b D) X.xe s
theorem VL{t:Sem I}{Q b:I->Shared->Prop}{M:Model}{A:Around}{E:Value->Shared->Prop}{s:Shared}(h:wpAny M A t Q E s)(c:∀a s,Q a s->b a s):wpAny M A t b E s:=wpAny_mono h c λ_ _ x=>x
section
theorem bin{a b:Expr}(r:PE X a ta)(q:PE X b tb){s:Shared}{σ:St}{R:V->V->Hp->Prop}(I:Inv X π σ H s)(h:ta σ H λx i=>tb σ i λy c=>R x y c)
  {j:Type}{Q:j->Shared->Prop}{f:Value->Value->Sem j}
  (p:∀v u g x y c,Inv X π σ c g->RelV x v->RelV y u->R x y c->wpAny (model X.prog X.w) X.A (f v u) Q X.xe g):
  wpAny (model X.prog X.w) X.A (eval a X.env) (λv e=>wpAny (model X.prog X.w) X.A (eval b X.env) (λu d=>wpAny (model X.prog X.w) X.A (f v u) Q X.xe d) X.xe e) X.xe s:=by
 refine VL (r π s σ H _ I h) λv k ⟨x,i,z,m,o⟩=>?_;refine VL (q π k σ i _ z o) λu g ⟨y,c,t,l,n⟩=>?_;exact p v u g x y c t m l n
inductive DK(i:Nat)(σ:St)(H:Hp)(Q:VK):Prop
 | mk (v:_) (_:σ[i]?=some (some v)) (_:Q v H)
def tC(v:V):TE:=λ_ H Q=>Q v H
theorem Oa{i:Nat}{x:Str}{pos:Pos}(t:X.N[i]?=some x)(n:Zo X.env.scope x)(hd:(x==("__debug__" : Str))=false:=by decide)(f:(x==("__classdict__" : Str))=false:=by decide):PE X (.Name x pos) (DK i):=by
 intro k s j H Q I h;obtain⟨v,e,h⟩:=h;obtain⟨m,o,q⟩:=I.loc;obtain⟨u,r,l⟩:=q i x v t e n;have d:EP X k j Q u s:=(v,H,I,r,h);rcases l with ⟨b,p⟩|⟨b,c,g,a⟩
 ·exact wpAny_Name (wpAny_loadName_local I.ok.kind b o p d) hd
 ·rcases b with b|b
  ·exact wpAny_Name (wpAny_loadName_cell I.ok.kind b g a d) hd
  ·exact wpAny_Name (wpAny_loadName_free I.ok.kind b g a d f) hd
theorem aA{i j pos}:PE X (.Constant (.int i) j pos) (tC (.int i)):=λ_ _ _ H _ I h=>wpAny_Constant_int (.int i,H,I.tok _,3,h)
theorem cZ{b j pos}:PE X (.Constant (.bool b) j pos) (tC (.bl b)):=λ_ _ _ H _ I h=>Constant_bool (.bl b,H,I,7,h)
theorem Nx{j pos}:PE X (.Constant .none j pos) (tC .non):=λ_ _ _ H _ I h=>Constant_none (.non,H,I,7,h)
theorem cg{x j pos}:PE X (.Constant (.str x) j pos) (tC (.str x)):=λ_ _ _ H _ I h=>Calls.Constant_str (.str x,H,I.tok _,3,h)
def Gl(X:Cx)(x:Str):Prop:=X.env.kindOf x=some .globalImplicit
theorem j5{E:Value->Shared->Prop}{s:Shared}{σ:St}{x:Str}{u:Value}{pos:Pos}{Q:Value->Shared->Prop}(I:Inv X π σ H s)(b:Gl X x)(a:X.mg x=some u)(h:Q u s)
  (hd:(x==("__debug__" : Str))=false:=by decide):wpAny (model X.prog X.w) X.A (eval (.Name x pos) X.env) Q E s:=
 Calls.Name_function_global I.ok.kind b (Calls.loadGlobal_global (by rw[I.ok.glob];exact I.mod.glob.keeps I.bk) a h) hd
theorem gf{E:Value->Shared->Prop}{s:Shared}{σ:St}{x:Str}{u:Value}{pos:Pos}{Q:Value->Shared->Prop}(I:Inv X π σ H s)(d:Gl X x)(c:X.mg x=none)(a:bootBuiltins x=some u)(h:Q u s)
  (b:x ≠ "__name__":=by decide)(hd:(x==("__debug__" : Str))=false:=by decide):wpAny (model X.prog X.w) X.A (eval (.Name x pos) X.env) Q E s:=by
 obtain⟨g,f,e⟩:=I.mod.blt;exact Calls.Name_function_global I.ok.kind d (Calls.loadGlobal_builtin (by rw[I.ok.glob];exact I.mod.glob.keeps I.bk) c (by rw[I.ok.blt];exact f.keeps I.bk) ((e x b).trans a) h) hd
theorem aY{x:Str}{v:V}{u:Value}{pos:Pos}(b:Gl X x)(a:X.mg x=some u)(r:RelV v u)(hd:(x==("__debug__" : Str))=false:=by decide):PE X (.Name x pos) (tC v):=
 λ_ _ _ H _ I h=>j5 I b a (v,H,I,r,h) hd
theorem nT{x:Str}{v:V}{u:Value}{pos:Pos}(d:Gl X x)(c:X.mg x=none)(a:bootBuiltins x=some u)(r:RelV v u)(b:x ≠ "__name__":=by decide)(hd:(x==("__debug__" : Str))=false:=by decide):PE X (.Name x pos) (tC v):=
 λ_ _ _ H _ I h=>gf I d c a (v,H,I,r,h) b hd
variable{a:Expr}{pos:Pos}
def PC(X:Cx)(g:CmpOp)(a b:Expr)(t:TE):Prop:=
 ∀(f:List (Addr×Obj)) (s:Shared) (e:St) (H:Hp) (Q:VK),Inv X f e H s->t e H Q ->
  wpAny (model X.prog X.w) X.A (eval a X.env) (λv d=>wpAny (model X.prog X.w) X.A (eval b X.env) (λu c=>wpAny (model X.prog X.w) X.A (compareOp g v u) (EP X f e Q) X.xe c) X.xe d) X.xe s
theorem Cz(b:Expr){c:CmpOp}(h:c ≠ .In)(d:c ≠ .NotIn):behindInMarks c b=false:=by
 have f:(c==CmpOp.In)=false:=by cases c<;>first|rfl|exact absurd rfl h
 have e:(c==CmpOp.NotIn)=false:=by cases c<;>first|rfl|exact absurd rfl d
 cases b<;>simp[behindInMarks,f,e]
def O5(Q:VK):VK:=λx c=>Q (.bl (decide (x=.non))) c
def Vz(ta:TE):TE:=λ c H Q=>ta c H (O5 Q)
theorem RelV.none_iff{x:V}{v:Value}(r:RelV x v):(v==Value.none)=decide (x=.non):=by
 cases x with
 |non=>cases r;rfl
 |bl _=>cases r;rfl
 |int _=>obtain⟨t,rfl⟩:=r;rfl
 |str _=>obtain⟨t,rfl⟩:=r;rfl
 |Xr _=>obtain⟨t,rfl⟩:=r;rfl
 |flt _=>obtain⟨t,rfl⟩:=r;rfl
 |ref _=>cases r;rfl
 |ty _=>cases r;rfl
theorem Ln{j pos'}(g:PE X a ta):PC X .Is a (.Constant .none j pos') (Vz ta):=by
 intro d s c H Q I h;refine VL (g d s c H _ I h) λv l ⟨x,k,i,e,f⟩=>?_;exact Constant_none (is_none_gen (.bl _,k,i,by rw[e.none_iff];rfl,f))
inductive Vh(Q:Bool->Hp->Prop)(x:V)(H1:Hp):Prop
 | mk (c:_) (_:x=.bl c) (_:Q c H1)
def tB(t:TE):TT:=λ c H Q=>t c H (Vh Q)
theorem RZ{c:CmpOp}{t:TE}(h:PC X c a b t)(g:behindInMarks c b=false:=by first|exact Cz _ ∅ ∅ | rfl):PE X (.Compare a [c] [b] pos) t:=λ e s d H Q I f=>wpAny_Compare1 (h e s d H Q I f) g
theorem Aj{e:CmpOp}{t:TE}(h:PC X e a b t)(f:behindInMarks e b=false:=by first|exact Cz _ ∅ ∅ | rfl):PT X (.Compare a [e] [b] pos) (tB t):=by
 intro i s g H Q I l;refine wpAny_isTrue_Compare1 (VL (h i s g H _ I l) λv w f=>VL f λu r m=>VL m λc p ⟨x,o,n,j,k⟩=>?_) f;obtain⟨d,rfl,q⟩:=k;cases j;exact wpAny_truthy_bool (o,n,q)
theorem q9{e:Expr}{t:TE}(h:PE X e t)(l:∀c,isTrue e X.env c=(do let v <-c;standAt e.pos;holding [v] (truthy v)):=by intro _;rfl):PT X e (tB t):=by
 intro g s f H Q I k;refine isTrue_plain (VL (h g s f H _ I k) λv o ⟨x,n,m,i,j⟩=>?_) (l _);obtain⟨d,rfl,q⟩:=j;cases i;exact wpAny_truthy_bool (n,m,q)
variable{tA Zq:TT}{rest:List Expr}
def Uv(t u:TT):TT:=λ d H Q=>t d H λc e=>if c=true then u d e Q else Q false e
def tOr(t u:TT):TT:=λ d H Q=>t d H λc e=>if c=true then Q true e else u d e Q
def VD(t:TT):TT:=λ d H Q=>t d H λc e=>Q (!c) e
theorem lJ(g:PT X a tA):PW X (.BoolOp .And [a] pos) tA:=by
 intro i f s d H Q I h;refine isTrue_and (VL (g f s d H Q I h) λc j e=>?_);cases c with
 |true=>exact isTrue_and_nil e
 |false=>exact e
theorem mz(g:PT X a tA):PW X (.BoolOp .Or [a] pos) tA:=by
 intro i f s d H Q I h;refine isTrue_or (VL (g f s d H Q I h) λc j e=>?_);cases c with
 |false=>exact isTrue_or_nil e
 |true=>exact e
theorem pI(m:PT X a tA)(l:PW X (.BoolOp .And (b::rest) pos) Zq):PW X (.BoolOp .And (a::b::rest) pos) (Uv tA Zq):=by
 intro j e s d H Q I h;refine isTrue_and (VL (m e s d H _ I h) λc k ⟨i,g,f⟩=>?_);cases c with
 |true=>exact l j e k d i Q g f
 |false=>exact(i,g,f)
theorem tH(m:PT X a tA)(l:PW X (.BoolOp .Or (b::rest) pos) Zq):PW X (.BoolOp .Or (a::b::rest) pos) (tOr tA Zq):=by
 intro j e s d H Q I h;refine isTrue_or (VL (m e s d H _ I h) λc k ⟨i,g,f⟩=>?_);cases c with
 |true=>exact(i,g,f)
 |false=>exact l j e k d i Q g f
theorem lV(f:PT X a tA):PT X (.UnaryOp .Not a pos) (VD tA):=by
 intro e s d H Q I h;exact isTrue_not (f e s d H (λc g=>Q (!c) g) I h)
inductive PN(tb:TE)(σ:St)(Q:VK)(x:V)(H1:Hp):Prop
 | mk (c:_) (_:x=.bl c) (_:if c=true then tb σ H1 Q else Q (.bl false) H1)
def Vd(ta tb:TE):TE:=λ c H Q=>ta c H (PN tb c Q)
inductive SJ(tb:TE)(σ:St)(Q:VK)(x:V)(H1:Hp):Prop
 | mk (c:_) (_:x=.bl c) (_:if c=true then Q (.bl true) H1 else tb σ H1 Q)
def Vu(ta tb:TE):TE:=λ c H Q=>ta c H (SJ tb c Q)
theorem KY{op}{t:TE}(h:PE X a t):PE X (.BoolOp op [a] pos) t:=λ d s c H Q I e=>BoolOp_one (h d s c H Q I e)
theorem SM(m:PE X a ta)(l:PE X (.BoolOp .And (b::rest) pos) tb):PE X (.BoolOp .And (a::b::rest) pos) (Vd ta tb):=by
 intro f s e H Q I h;refine BoolOp_and (VL (m f s e H _ I h) λv j ⟨x,i,g,k,d⟩=>?_);obtain⟨c,rfl,d⟩:=d;cases k;refine wpAny_truthy_bool ?_;cases c with
 |true=>exact l f j e i Q g d
 |false=>exact(.bl false,i,g,7,d)
theorem Rg(m:PE X a ta)(l:PE X (.BoolOp .Or (b::rest) pos) tb):PE X (.BoolOp .Or (a::b::rest) pos) (Vu ta tb):=by
 intro f s e H Q I h;refine BoolOp_or (VL (m f s e H _ I h) λv j ⟨x,i,g,k,d⟩=>?_);obtain⟨c,rfl,d⟩:=d;cases k;refine wpAny_truthy_bool ?_;cases c with
 |false=>exact l f j e i Q g d
 |true=>exact(.bl true,i,g,7,d)
def tIf(t:TT)(ta tb:TE):TE:=λ d H Q=>t d H λc e=>if c=true then ta d e Q else tb d e Q
theorem Le{c:Expr}(l:PT X c tA)(n:PE X a ta)(m:PE X b tb):PE X (.IfExp c a b pos) (tIf tA ta tb):=by
 intro f s e H Q I h;refine wpAny_IfExp (VL (l f s e H _ I h) λd g ⟨k,j,i⟩=>?_);cases d with
 |true=>exact n f g e k Q j i
 |false=>exact m f g e k Q j i
end
def My(K:PySem.W.Frag)(H:Hp)(a:Addr)(xs:List V):Prop:=
 Rd H a (.lst xs) \/
  ∃(o:Obj) (b:Array Value) (n:Nat),K.lookup a=some o/\o.cls=.type "list" /\ o.dict=none/\o.data=.seq b n/\b.size<=sizeLine/\Vals xs b.toList
def VM(K:PySem.W.Frag)(H:Hp)(a:Addr)(xs:List V):Prop:=
 Rd H a (.tup xs) \/
  ∃(o:Obj) (b:Array Value) (n:Nat),K.lookup a=some o/\o.cls=.type "tuple" /\ o.data=.seq b n/\b.size<=sizeLine/\Vals xs b.toList
def Vp:Value->Option V
 |.none=>some .non
 |.bool b=>some (.bl b)
 |.int i _=>some (.int i)
 |.str x _=>some (.str x)
 |.bytes b _=>some (.Xr b)
 |.float b _=>some (.flt b)
 |.ref a=>some (.ref a)
 |.type n=>some (.ty n)
 |_=>none
theorem RelV.abs{x:V}{u:Value}(r:RelV x u):Vp u=some x:=by
 cases x with
 |non=>cases r;rfl
 |bl _=>cases r;rfl
 |int _=>obtain⟨t,rfl⟩:=r;rfl
 |str _=>obtain⟨t,rfl⟩:=r;rfl
 |Xr _=>obtain⟨t,rfl⟩:=r;rfl
 |flt _=>obtain⟨t,rfl⟩:=r;rfl
 |ref _=>cases r;rfl
 |ty _=>cases r;rfl
theorem RelV.inj{x y:V}{u:Value}(r:RelV x u)(q:RelV y u):x=y:=afE (r.abs.symm.trans q.abs)
theorem Vals.inj:∀{xs ys:List V}{a:List Value},Vals xs a->Vals ys a->xs=ys
 |_,_,_,.nil,.nil=>rfl
 |_,_,_,.cons r t,.cons c b=>by rw[r.inj c,Vals.inj t b]
section
variable{xs ys:List V}
theorem My.of{K:PySem.W.Frag}(h:H a=some (.lst xs)):My K H a xs:=.inl (.inl h)
theorem VM.of{K:PySem.W.Frag}(h:H a=some (.tup xs)):VM K H a xs:=.inl (.inl h)
theorem Inv.list(I:Inv X π σ H s)(h:My X.K H a xs):∃b:List Value,Vals xs b/\PlainL s.heap a b.toArray/\xs.length<=sizeLine:=by
 rcases h with h|⟨o,b,n,d,f,hd,c,g,r⟩
 ·obtain⟨z,b,n,r,e⟩:=h.ok I.hok;exact(b,r,(_,n,e,7,7,7),z)
 ·exists b.toList,r,(o,n,I.Wt a o d,f,hd,by simpa using c);have e:=r.length;simp only[aag]at e;lia
theorem Inv.tuple(I:Inv X π σ H s)(h:VM X.K H a xs):∃b:List Value,Vals xs b/\IsTup s.heap a b.toArray/\xs.length<=sizeLine:=by
 rcases h with h|⟨o,b,n,d,f,c,g,r⟩
 ·obtain⟨z,b,r,p⟩:=h.ok I.hok;exact(b,r,p,z)
 ·exists b.toList,r,(o,I.Wt a o d,f,n,by simpa using c);have e:=r.length;simp only[aag]at e;lia
theorem Inv.list_inj(I:Inv X π σ H s)(h:My X.K H a xs)(h':My X.K H a ys):xs=ys:=by
 obtain⟨c,r,⟨o,n,e,_,_,d⟩,_⟩:=I.list h;obtain⟨b,i,⟨k,l,f,_,_,g⟩,_⟩:=I.list h';rw[e]at f;cases f;rw[d]at g;injection g with j _
 have:c=b:=by simpa using congrArg ajl j
 subst this;exact r.inj i
theorem Inv.tuple_inj(I:Inv X π σ H s)(h:VM X.K H a xs)(h':VM X.K H a ys):xs=ys:=by
 obtain⟨c,r,⟨o,e,_,n,d⟩,_⟩:=I.tuple h;obtain⟨b,i,⟨k,f,_,l,g⟩,_⟩:=I.tuple h';rw[e]at f;cases f;rw[d]at g;injection g with j _
 have:c=b:=by simpa using congrArg ajl j
 subst this;exact r.inj i
end
abbrev Cx.wish(X:Cx)(E:Value->Shared->Prop):Cx:={X with xe:=E}
abbrev Cx.Zr(X:Cx):Cx:=X.wish λ_ _=>False
theorem Cx.Ok.wish{X:Cx}(a:X.Ok)(E:Value->Shared->Prop):(X.wish E).Ok:=
 (a.mod,a.kind,a.glob,a.blt,a.above,a.inj,a.has,a.cab,a.hd,a.frames,a.WN,a.Yy,a.bs,a.W4,a.noex,a.exfs,a.funs,a.XD)
theorem Cx.Ok.unwish{X:Cx}{E:Value->Shared->Prop}(a:(X.wish E).Ok):X.Ok:=
 (a.mod,a.kind,a.glob,a.blt,a.above,a.inj,a.has,a.cab,a.hd,a.frames,a.WN,a.Yy,a.bs,a.W4,a.noex,a.exfs,a.funs,a.XD)
theorem Inv.wish(I:Inv X π σ H s)(E:Value->Shared->Prop):Inv (X.wish E) π σ H s:=(I.ok.wish E,I.os,I.bare,I.base,I.loc,I.cell,I.free,I.freeC,I.pin,I.hok,I.len)
theorem Inv.unwish(I:Inv (X.wish E) π σ H s):Inv X π σ H s:=(I.ok.unwish,I.os,I.bare,I.base,I.loc,I.cell,I.free,I.freeC,I.pin,I.hok,I.len)
theorem SP.unwish{D:Ends}{f:Flow}{s':Shared}(h:SP (X.wish E) π D f s'):SP X π D f s':=by
 cases f with
 |next=>obtain⟨a,b,I,q⟩:=h;exact(a,b,I.unwish,q)
 |brk=>obtain⟨a,b,I,q⟩:=h;exact(a,b,I.unwish,q)
 |cont=>obtain⟨a,b,I,q⟩:=h;exact(a,b,I.unwish,q)
 |ret u=>obtain⟨v,a,b,I,r,q⟩:=h;exact(v,a,b,I.unwish,r,q)
theorem Wu.Zr{st:List Stmt}{t:TS}(h:Wu X.Zr st t):Wu X st t:=λ π s σ H D I a=>
 wpAny_mono (h π s σ H D (I.wish _) a) (λ_ _ q=>q.unwish) λ_ _ z=>False.elim z
section
variable{st:Stmt}{rest:List Stmt}{t u:TS}{pos:Pos}
def Ie:TS:=λD a H=>D.nx a H
def VH(t u:TS):TS:=λD a H=>t {D with nx:=u D} a H
theorem aV:Wu X [] Ie:=λ_ _ a H _ I h=>wpAny_execs_nil (a,H,I,h)
theorem ao(i:PS X st t)(g:Wu X rest u):Wu X (st::rest) (VH t u):=by
 intro b s c H D I h;refine wpAny_execs_cons (VL (i b s c H {D with nx:=u D} I h) λf d q=>?_);cases f with
 |next=>
  obtain⟨a,k,j,q⟩:=q;exact g b d a k D j q
 |ret v=>exact q
 |brk=>exact q
 |cont=>exact q
theorem aB(c:PS X st t):Wu X [st] t:=by
 intro b s a H D I h;refine wpAny_execs_cons (VL (c b s a H D I h) λf d q=>?_);cases f with
 |next=>exact wpAny_execs_nil q
 |ret v=>exact q
 |brk=>exact q
 |cont=>exact q
theorem Inv.quiet{σ:St}{s:Shared}(I:Inv X π σ H s):interactive X.env=false:=by simp[interactive,I.ok.kind]
def Ow(D:Ends)(σ:St):VK:=λ_ a=>D.nx σ a
def Ub(te:TE):TS:=λD a H=>te a H (Ow D a)
theorem bF(f:PE X e te)(d:swapsWith e none pos.line X.env=pure false:=by rfl):PS X (.Expr e pos) (Ub te):=by
 intro b s a H D I h;exact wpAny_Expr_any (VL (f b s a H _ I h) λv j ⟨x,i,g,k,c⟩=>(a,i,g,c)) I.quiet d
def Us(te:TE):TS:=λD a H=>te a H D.rt
theorem aN(f:PE X e te):PS X (.Return (some e) pos) (Us te):=by
 intro b s a H D I h;exact wpAny_Return_some (VL (f b s a H _ I h) λv j ⟨x,i,g,c,d⟩=>(x,a,i,g,c,d))
def RX(c:TT)(t u:TS):TS:=λD a H=>c a H λb d=>if b=true then t D a d else u D a d
theorem bR{c:Expr}{a b:List Stmt}(m:PT X c L)(o:Wu X a t)(n:Wu X b u):PS X (.If c a b pos) (RX L t u):=by
 intro g s f H D I h;refine wpAny_If (VL (m g s f H _ I h) λd i ⟨l,k,j⟩=>?_);cases d with
 |true=>exact o g i f l D k j
 |false=>exact n g i f l D k j
def Tt:TS:=λ_ _ _=>False
theorem mG:PS X st Tt:=λ_ _ _ _ _ _ h=>h.elim
end
abbrev TG:=V->St->Hp->(St->Hp->Prop)->Prop
abbrev YW:=List V->St->Hp->(St->Hp->Prop)->Prop
def PG(X:Cx)(a:Expr)(t:TG):Prop:=
 ∀(d:List (Addr×Obj)) (s:Shared) (c:St) (H:Hp) (v:V) (u:Value) (Q:St->Hp->Prop),Inv X d c H s->RelV v u->t v c H Q ->
  wpAny (model X.prog X.w) X.A (assign a X.env u) (λ_ f=>∃b e,Inv X d b e f/\Q b e) X.xe s
def PGs(X:Cx)(g:List Expr)(t:YW):Prop:=
 ∀(c:List (Addr×Obj)) (s:Shared) (b:St) (H:Hp) (d:List V) (e:List Value) (Q:St->Hp->Prop),Inv X c b H s->Vals d e->t d b H Q ->
  wpAny (model X.prog X.w) X.A (assignInOrder ((assignEach g X.env).map (·.2)) e) (λ_ h=>∃a f,Inv X c a f h/\Q a f) X.xe s
abbrev O2:=V->V->V->Hp->(Hp->Prop)->Prop
def Uy(X:Cx)(t:O2):Prop:=
 ∀(b:List (Addr×Obj)) (s:Shared) (a:St) (H:Hp) (o i v:V) (c d u:Value) (Q:Hp->Prop),Inv X b a H s->RelV o c->RelV i d->RelV v u->t o i v H Q ->
  wpAny (model X.prog X.w) X.A (setItem c d u) (λ_ f=>∃e,Inv X b a e f/\Q e) X.xe s
section
variable{pos:Pos}
def gh(i:Nat):TG:=λv a H Q=>Q (a.set i (some v)) H
theorem km{i:Nat}{x:Str}(d:X.N.Nodup)(b:X.N[i]?=some x)(a:Loc X.env.scope x)(c:X.fn x=true\/X.env.scope.names.lookup x=some .local:=by first|exact .inl rfl|exact .inr rfl|assumption):PG X (.Name x pos) (gh i):=by
 intro g s f H v u Q I r h;exact wpAny_assign_Name (uY I d b a r (λj e=>(_,H,e,h)) c)
theorem aM{x:Str}(i:Nat)(d:X.N.Nodup)(b:X.N[i]?=some x:=by rfl)(a:Loc X.env.scope x:=by exact agH rfl)(c:X.fn x=true\/X.env.scope.names.lookup x=some .local:=by first|exact .inl rfl|exact .inr rfl|assumption):PG X (.Name x pos) (gh i):=km d b a c
def Ue:YW:=λb a H Q=>b=[]/\Q a H
inductive Nk(t:TG)(u:YW)(vs:List V)(σ:St)(H:Hp)(Q:St->Hp->Prop):Prop
 |mk (v r:_) (_:vs=v::r) (_:t v σ H λ σ' H'=>u r σ' H' Q)
theorem fW:PGs X [] Ue:=by
 intro b s a H c d Q I r h;obtain⟨e,h⟩:=h;subst e;cases r;exact assignInOrder_nil (a,H,I,h)
theorem bG{e:Expr}{es:List Expr}{t:TG}{u:YW}(k:PG X e t)(j:PGs X es u)
  (i:(assignEach (e::es) X.env).map (·.2)=assign e X.env::(assignEach es X.env).map (·.2):=by rfl):PGs X (e::es) (Nk t u):=by
 intro b s c H o q Q I r h;obtain⟨v,p,l,h⟩:=h;subst l;cases r with
 |cons r f=>
  rw[i];refine assignInOrder_cons (VL (k b s c H _ _ _ I r h) λ_ d ⟨a,n,m,g⟩=>?_);exact j b d a n _ _ Q m f g
inductive UJ(K:PySem.W.Frag)(n:Nat)(t:YW)(v:V)(σ:St)(H:Hp)(Q:St->Hp->Prop):Prop
 | mk (a xs:_) (_:v=.ref a) (_:VM K H a xs) (_:xs.length=n) (_:t xs σ H Q)
theorem iK{es:List Expr}{k:Nat}{t:YW}{n:Nat}(w:X.calm=true)(h:PGs X es t)
  (p:(assignEach es X.env).length=n:=by rfl)(d:(assignEach es X.env).findIdx? (·.1)=none:=by rfl):PG X (.Tuple es k pos) (UJ X.K n t):=by
 intro g s f H v u Q I r c;obtain⟨a,j,y,m,q,c⟩:=c;subst y;cases r;obtain⟨A,i,ht,B⟩:=I.tuple m;refine assign_Tuple_tuple (I.ok.hd w) ht (by simp[p,<-q,i.length]) d λx l=>?_;have z:Inv X g f H {s with heap:=x}:=I.kept (t':=s.toks) λb o e=>l b o (ae2 (Heap.lt_size e)) e;exact h g _ f H j _ Q z (by simpa using i) c
def Qu(t:O2)(v:V)(σ:St)(Q:St->Hp->Prop)(o:V):VK:=λi a=>t o i v a (Q σ)
def QM(a:TE)(t:O2)(v:V)(σ:St)(Q:St->Hp->Prop):VK:=λo b=>a σ b (Qu t v σ Q o)
def Vx(b c:TE)(t:O2):TG:=λv a H Q=>b a H (QM c t v a Q)
theorem LR{o i:Expr}{t:O2}(p:PE X o ta)(q:PE X i tb)(n:Uy X t)
  (w:∀v,assign (.Subscript o i pos) X.env v=(do
   let a <-holding [v] (eval o X.env)
   let b <-holding [v,a] (eval i X.env)
   standAt pos
   holding [v,a,b] (setItem a b v)
   release [v,a,b] []):=by intro _;rfl):PG X (.Subscript o i pos) (Vx ta tb t):=by
 intro d s c H v u Q I r h;rw[w];refine wpAny_bind (wpAny_holding (VL (p d s c H _ I h) λa f ⟨x,E,B,j,m⟩=>?_));refine wpAny_bind (wpAny_holding (VL (q d f c E _ B m) λb e ⟨y,D,A,g,l⟩=>?_));refine wpAny_bind (wpAny_standAt (wpAny_bind (wpAny_holding (VL (n d e c D x y v a b u _ A j g r l) λ_ F ⟨C,z,k⟩=>?_))));exact wpAny_release (c,C,z,k)
def Q0(g:TG)(D:Ends)(σ:St):VK:=λx a=>g x σ a D.nx
def Cq(b:TE)(g:TG):TS:=λD a H=>b a H (Q0 g D a)
theorem rO{e:Expr}{g:TG}(l:PE X e ta)(k:PG X tg g)(j:swapsWithSole [tg] e pos.line X.env=pure false:=by rfl)(i:swappedStores [tg] e X.env=pure none:=by rfl)
  (m:(assignEach [tg] X.env).map (·.2)=[assign tg X.env]:=by rfl):PS X (.Assign [tg] e pos) (Cq ta g):=by
 intro b s a H D I h;refine wpAny_Assign_stores (VL (l b s a H _ I h) λv c ⟨x,o,n,d,f⟩=>?_) j i;rw[m];exact VL (k b c a o x v _ n d f) λ_ p q=>q
theorem qW{i:Nat}{x:Str}{e:Expr}(m:X.N.Nodup)(j:X.N[i]?=some x)(f:Loc X.env.scope x)(l:PE X e ta)(g:swapsWith e (some (.Name x p)) pos.line X.env=pure false:=by rfl)(k:X.fn x=true\/X.env.scope.names.lookup x=some .local:=by first|exact .inl rfl|exact .inr rfl|assumption):
  PS X (.Assign [.Name x p] e pos) (Cq ta (gh i)):=by
 intro b s a H D I h;refine wpAny_Assign_Name (VL (l b s a H _ I h) λv t ⟨y,q,o,c,d⟩=>?_) g;exact uY o m j f c (λr n=>(_,q,n,d)) k
theorem aD{x:Str}{e:Expr}(i:Nat)(g:X.N.Nodup)(f:PE X e ta)(c:X.N[i]?=some x:=by rfl)(a:Loc X.env.scope x:=by exact agH rfl)(b:swapsWith e (some (.Name x p)) pos.line X.env=pure false:=by rfl)(d:X.fn x=true\/X.env.scope.names.lookup x=some .local:=by first|exact .inl rfl|exact .inr rfl|assumption):
  PS X (.Assign [.Name x p] e pos) (Cq ta (gh i)):=qW g c a f b d
end
section
variable{pos:Pos}
def Ti(c:TT)(h:TS):TS:=λD a H=>∃W:Nat->St->Hp->Prop,(∃m,W m a H) /\ ∀m a H,W m a H ->
 c a H λb f=>if b=true then ∃N:St->Hp->Prop,(∀d g,N d g -> ∃e,e<m/\W e d g)/\h {D with nx:=N,ct:=N,bk:=D.nx} a f else D.nx a f
theorem K4{c:Expr}{e:List Stmt}{u:TS}(x:PassesOwn (model X.prog X.w) X.A X.env X.xe)(Q:PT X c L)(R:Wu X e u):PS X (.While c e [] pos) (Ti L u):=by
 intro m s F H D I h;obtain⟨W,⟨P,J⟩,j⟩:=h;refine wpAny_While (codeAny_whileLoop (λn O=>∃i E,Inv X m i E O/\W n i E) ?_ P (F,H,I,J));rintro n M ⟨d,C,S,G⟩;refine wpAny_passesOwn x (VL (Q m M d C _ S (j n d C G)) λb K ⟨B,z,l⟩=>?_);cases b with
 |true=>
  obtain⟨N,y,l⟩:=l;rw[if_pos rfl];refine wpAny_passesOwn x (VL (R m K d B _ z l) λf T k=>?_);cases f with
  |next=>
   obtain⟨a,g,t,p⟩:=k;obtain⟨q,r,o⟩:=y a g p;exact(q,r,a,g,t,o)
  |cont=>
   obtain⟨a,g,t,p⟩:=k;obtain⟨q,r,o⟩:=y a g p;exact(q,r,a,g,t,o)
  |brk=>exact k
  |ret v=>exact k
 |false=>
  rw[if_neg afD];exact wpAny_execs_nil (d,B,z,l)
end
structure It where
 go:Nat->Hp->Prop
 Xk:Nat->Hp->V->Hp->Prop
 stop:Nat->Hp->Prop
def gr(X:Cx)(a:List (Addr×Obj))(H:Hp)(b:Addr):Prop:=
 H b=none/\b≠X.env.locals/\b∉X.fs/\(b∈X.ex\/X.s₀.heap.objs.size<=b)/\(∀x c,X.env.cells.lookup x=some c->c≠b) /\ ∀p∈X.pn++a,p.1≠b
theorem Inv.fpOk{X:Cx}{σ:St}{H':Hp}{s:Shared}{b:Addr}(I:Inv X π σ H s)(a:s.heap.objs.size<=b)(f:H' b=none):gr X π H' b:=by
 refine(f,air (aau I.lt a),I.nofs a,.inr (agd I.sz a),λx c e z=>?_,λp d z=>?_)
 ·obtain⟨v,q⟩:=I.cell x c e;exact absurd (aau q.lt (by rw[z];exact a)) (agg _)
 ·exact absurd (aau (Heap.lt_size (I.pin p d).1) (by rw[z];exact a)) (agg _)
structure Turn(P:Program)(w:World)(K:PySem.W.Frag)(tg:Expr)(J:It)(fp:List Addr)(it:Addr)(tn:Nat->Heap->Prop):Prop where
 mem:it∈fp
 obj:∀i h,tn i h -> ∀b∈fp,∃o,h.get? b=some o /\ ∀v,o.data ≠ .cell v
 keep:∀i h h',tn i h->(∀b∈fp,∀o,h.get? b=some o->h'.get? b=some o)->tn i h'
 item:∀(X:Cx),X.prog=P->X.w=w->X.K=K->X.calm=true -> ∀(i:Nat) (π:List (Addr×Obj)) (s:Shared) (σ:St) (H:Hp) (E:Value->Shared->Prop),Inv X π σ H s->(∀b∈fp,gr X π H b)->tn i s.heap->J.go i H ->
  wpAny (model P w) X.A (pyNext (.ref it)) (λr s1=>∃u,r=some u /\
   wpAny (model P w) X.A (letOwnedTupleGo tg (.ref it) u) (λ_ s2=>∃x H',Inv X π σ H' s2/\RelV x u/\J.Xk i H x H'/\tn (i+1) s2.heap /\ ∀b∈fp,H' b=none) E s1) E s
 done:∀(X:Cx),X.prog=P->X.w=w->X.K=K->X.calm=true -> ∀(i:Nat) (π:List (Addr×Obj)) (s:Shared) (σ:St) (H:Hp) (E:Value->Shared->Prop),Inv X π σ H s->(∀b∈fp,gr X π H b)->tn i s.heap->J.stop i H ->
  wpAny (model P w) X.A (pyNext (.ref it)) (λr s1=>r=none/\Inv X π σ H s1) E s
 self:∀(A:Around) (i:Nat) (s:Shared) (Q:Value->Shared->Prop) (E:Value->Shared->Prop),tn i s.heap->Q (.ref it) s->wpAny (model P w) A (pyIter (.ref it)) Q E s
abbrev TI:=St->Hp->(It->Hp->Prop)->Prop
inductive PIE(X:Cx)(π:List (Addr×Obj))(σ:St)(tg:Expr)(R:It->Hp->Prop)(itv:Value)(s2:Shared):Prop
 | mk (it:Addr) (fp:List Addr) (tn:Nat->Heap->Prop) (J:It) (H':Hp) (_:itv=.ref it) (_:Inv X π σ H' s2) (_:Turn X.prog X.w X.K tg J fp it tn) (_:tn 0 s2.heap) (_:(∀b∈fp,gr X π H' b)) (_:R J H')
def PI(X:Cx)(d iter:Expr)(c:TI):Prop:=
 ∀(b:List (Addr×Obj)) (s:Shared) (a:St) (H:Hp) (R:It->Hp->Prop),Inv X b a H s->c a H R ->
  wpAny (model X.prog X.w) X.A (eval iter X.env) (λv e=>wpAny (model X.prog X.w) X.A (pyIter v) (PIE X b a d R) X.xe e) X.xe s
theorem tO{M:Model}{A:Around}{E:Value->Shared->Prop}{s:Shared}{u:Value}{o:Obj}{n:String}{vs:Array Value}{Q:Unit->Shared->Prop}(c:s.heap.get? a=some o)(f:o.cls=.type n)(hd:o.data=.fields vs)
    (d:["enumerate","zip","dict_itemiterator","dict_reverseitemiterator","odict_iterator","itertools.zip_longest","itertools.pairwise"].contains n=false)(b:Q () s):wpAny M A (letOwnedTupleGo e (.ref a) u) Q E s:=by
  unfold letOwnedTupleGo;cases e<;>first
    | exact wpAny_pure b
    | (cases u<;>first
        | exact wpAny_pure b
        | (refine wpAny_bind (wpAny_load c ?_)
           rw[f,hd]
           show wpAny M A (if (["enumerate","zip","dict_itemiterator","dict_reverseitemiterator","odict_iterator","itertools.zip_longest","itertools.pairwise"].contains n&&vs[0]? == some (rawInt _))=true then _ else _) Q E s
           rw[if_neg (by intro h;rw[d,aja]at h;cases h)];exact wpAny_pure b))
def XH(K:PySem.W.Frag)(a:Addr):It:=
 (λi H=>∃b x,My K H a b/\b[i]?=some x,λi H x c=>c=H /\ ∀b,My K H a b->b[i]?=some x,λi H=>∃b,My K H a b/\b.length<=i)
def Yz(K:PySem.W.Frag)(a:Addr):It:=
 (λi H=>∃b x,VM K H a b/\b[i]?=some x,λi H x c=>c=H /\ ∀b,VM K H a b->b[i]?=some x,λi H=>∃b,VM K H a b/\b.length<=i)
def XJ(lo:Int)(n:Nat):It:=(λi _=>i<n,λi H x a=>a=H/\x=.int (lo+i),λi _=>n<=i)
theorem yG{P:Program}{w:World}{K:PySem.W.Frag}(a j:Addr):Turn P w K e (XH K a) [j] j (λi h=>h.IsListIter j a i) where
 mem:=by simp
 obj:=λi h g b l=>by
  have f:b=j:=by simpa using l
  subst f;obtain⟨o,f,c,d⟩:=g;exact(o,f,λv z=>by rw[d]at z;cases z)
 keep:=λi h r g k=>g.at λo f=>k j (by simp) o f
 item:=by
  intro X C A D R i Q s O H E I q g B;subst C A D;obtain⟨S,x,n,y⟩:=B;obtain⟨N,t,p,V⟩:=I.list n;obtain⟨u,Z,U⟩:=t.get y;obtain⟨M,L,f2,J,G,F⟩:=q j (by simp);refine wpAny_pyNext_list_item g p.isList (x:=u) (by simpa using Z) λr m T=>?_;have I1:Inv X Q O H {s with heap:=r}:=I.turned (t':=s.toks) (λb o l f=>(T.2 b l).trans f) M L J G F;obtain⟨o,f,c,d⟩:=id m;exact(u,7,tO (s:={s with heap:=r}) f c d ∅ (x,H,I1,U,(7,λys Y=>by rw[I.list_inj Y n];exact y),m,λb l=>(q b l).1))
 done:=by
  intro X C A D R i Q s O H E I q g B;subst C A D;obtain⟨S,n,y⟩:=B;obtain⟨N,t,p,V⟩:=I.list n;obtain⟨M,L,f2,J,G,F⟩:=q j (by simp);have hl:=t.length;exact wpAny_pyNext_list_end (I.ok.hd R) g p.isList (by simp;lia) λr eb=>(7,I.turned (t':=s.toks) (λb o l f=>eb b o l f) M L J G F)
 self:=λ_ _ _ _ _ g h=>wpAny_pyIter_listiter g h
theorem vo{P:Program}{w:World}{K:PySem.W.Frag}(a j:Addr):Turn P w K e (Yz K a) [j] j (λi h=>h.IsTupleIter j a i) where
 mem:=by simp
 obj:=λi h g b l=>by
  have f:b=j:=by simpa using l
  subst f;obtain⟨o,f,c,d⟩:=g;exact(o,f,λv z=>by rw[d]at z;cases z)
 keep:=λi h t g k=>g.at λo f=>k j (by simp) o f
 item:=by
  intro X D B F R i Q s O H E I r g C;subst D B F;obtain⟨S,x,q,A⟩:=C;obtain⟨m,y,p,V⟩:=I.tuple q;obtain⟨u,Z,U⟩:=y.get A;obtain⟨N,M,f2,L,J,G⟩:=r j (by simp);refine wpAny_pyNext_tuple_item g (show s.heap.IsTuple a m.toArray from p) (x:=u) (by simpa using Z) λt n T=>?_;have I1:Inv X Q O H {s with heap:=t}:=I.turned (t':=s.toks) (λb o l f=>(T.2 b l).trans f) N M L J G;obtain⟨o,f,c,d⟩:=id n;exact(u,7,tO (s:={s with heap:=t}) f c d ∅ (x,H,I1,U,(7,λys Y=>by rw[I.tuple_inj Y q];exact A),n,λb l=>(r b l).1))
 done:=by
  intro X D B F R i Q s O H E I r g C;subst D B F;obtain⟨S,q,A⟩:=C;obtain⟨m,y,p,V⟩:=I.tuple q;obtain⟨N,M,f2,L,J,G⟩:=r j (by simp);have hl:=y.length;exact wpAny_pyNext_tuple_end (I.ok.hd R) g (show s.heap.IsTuple a m.toArray from p) (by simp;lia) λt eb=>(7,I.turned (t':=s.toks) (λb o l f=>eb b o l f) N M L J G)
 self:=λ_ _ _ _ _ g h=>wpAny_pyIter_tupleiter g h
theorem Eg{P:Program}{w:World}{K:PySem.W.Frag}(d:Addr)(lo:Int)(n:Nat):Turn P w K e (XJ lo n) [d] d (λi h=>IsRangeIter h d (lo+(i:Nat)*1) ((n:Int)-(i:Nat)) 1) where
 mem:=by simp
 obj:=λi h c b f=>by
  have a:b=d:=by simpa using f
  subst a;exact(_,c,λv z=>by
   have J:Data.fields _=Data.cell v:=z;cases J)
 keep:=λi h l c k=>k d (by simp) _ c
 item:=by
  intro X r m u q i F s D H E I j c p;subst r m u;obtain⟨C,B,N,A,y,x⟩:=j d (by simp);have W:=Walks.range (prog:=X.prog) (w:=X.w) (I.ok.hd q) d lo 1 n;refine W.item i s _ _ p c λv l G M g L=>?_;obtain⟨t,rfl⟩:=M;have Q:Inv X F D H {s with heap:=l,toks:=G}:=I.turned (λb o f a=>L b o (by simpa using f) a) C B A y x
  refine(9,tO (s:={s with heap:=l,toks:=G}) (n := "range_iterator") g rfl rfl ∅ (.int (lo+i),H,Q,(t,1),(7,7),g,λb f=>(j b f).1))
  rw[Int.mul_one]
 done:=by
  intro X r m u q i F s D H E I j c p;subst r m u;obtain⟨C,B,N,A,y,x⟩:=j d (by simp);exact wpAny_pyNext_range_end (I.ok.hd q) c (by have:n<=i:=p;lia) λl O=>(7,I.turned (t':=s.toks) (λb o f a=>O b o f a) C B A y x)
 self:=λ_ _ _ _ _ c h=>wpAny_pyIter_rangeiter c h
inductive Q3(K:PySem.W.Frag)(R:It->Hp->Prop)(x:V)(H1:Hp):Prop
 | mk (a:_) (_:x=.ref a) (_:(∃xs,My K H1 a xs)) (_:R (XH K a) H1)
def Uk(K:PySem.W.Frag)(b:TE):TI:=λ a H R=>b a H (Q3 K R)
inductive T3(K:PySem.W.Frag)(R:It->Hp->Prop)(x:V)(H1:Hp):Prop
 | mk (a:_) (_:x=.ref a) (_:(∃xs,VM K H1 a xs)) (_:R (Yz K a) H1)
def Vt(K:PySem.W.Frag)(b:TE):TI:=λ a H R=>b a H (T3 K R)
theorem bY{l:Expr}(m:PE X l ta):PI X tg l (Uk X.K ta):=by
 intro g s f H R I h;refine VL (m g s f H _ I h) λv c ⟨x,r,d,i,j⟩=>?_;obtain⟨a,e,⟨u,k⟩,q⟩:=j;subst e;cases i;obtain⟨t,w,p,y⟩:=d.list k;refine wpAny_pyIter_list p.isList ?_;refine(c.heap.objs.size,[c.heap.objs.size],_,_,r,7,d.kept (t':=c.toks) λb o e=>Heap.get?_push_of_some _ e,yG a _,(_,Heap.get?_push_size _ rfl,7,7),λb n=>?_,q);have e:b=c.heap.objs.size:=by simpa using n
 subst e;exact d.fpOk (aae _) (d.hok.fresh (aae _))
theorem NQ{l:Expr}(n:PE X l ta):PI X tg l (Vt X.K ta):=by
 intro i s g H R I h;refine VL (n i s g H _ I h) λv c ⟨x,t,d,j,k⟩=>?_;obtain⟨a,e,⟨u,m⟩,q⟩:=k;subst e;cases j;obtain⟨f,w,p,y⟩:=d.tuple m;refine wpAny_pyIter_tuple (show c.heap.IsTuple a f.toArray from p) ?_;refine(c.heap.objs.size,[c.heap.objs.size],_,_,t,7,d.kept (t':=c.toks) λb o e=>Heap.get?_push_of_some _ e,vo a _,(_,Heap.get?_push_size _ rfl,7,7),λb r=>?_,q);have e:b=c.heap.objs.size:=by simpa using r
 subst e;exact d.fpOk (aae _) (d.hok.fresh (aae _))
theorem CK{σ:St}{s:Shared}{R:It->Hp->Prop}{E:Value->Shared->Prop}{lo :Int}{t u v:Tok}{tk:Nat}(I:Inv X π σ H s)(h : -(2^62)<=lo)(g:lo<2^62)(f : -(2^62)<=i)(d:i<2^62)
  (q:R (XJ lo (i-lo).toNat) H):wpAny (model X.prog X.w) X.A (pyIter (.ref s.heap.objs.size)) (PIE X π σ tg R) E {s with heap:=s.heap.push {cls:=.type "range",data:=.fields #[.int lo t,.int i u,.int 1 v]},toks:=tk}:=by
 refine wpAny_pyIter_range (IsRange.new ..) (small_one h g f d) ?_
 have a:Inv X π σ H {s with heap:=s.heap.push {cls:=.type "range",data:=.fields #[.int lo t,.int i u,.int 1 v]},toks:=tk}:=I.kept λb o e=>Heap.get?_push_of_some _ e
 refine((s.heap.push {cls:=.type "range",data:=.fields #[.int lo t,.int i u,.int 1 v]}).objs.size,[(s.heap.push {cls:=.type "range",data:=.fields #[.int lo t,.int i u,.int 1 v]}).objs.size],_,_,H,7,
  a.kept (t':=tk) λb o e=>Heap.get?_push_of_some _ e,Eg _ lo (i-lo).toNat,1,λb c=>?_,q)
 ·have k:lo+((0:Nat):Int)*1=lo:=by simp
  have j:(((i-lo).toNat:Nat):Int)-((0:Nat):Int)=Builtin.Range.rangeSize lo i 1:=by rw[rangeSize_one];split<;>lia
  show IsRangeIter _ _ (lo+((0:Nat):Int)*1) ((((i-lo).toNat:Nat):Int)-((0:Nat):Int)) 1;rw[k,j];exact Heap.get?_push_size _ rfl
 ·have e:b=(s.heap.push {cls:=.type "range",data:=.fields #[.int lo t,.int i u,.int 1 v]}).objs.size:=by simpa using c
  subst e;exact a.fpOk (aae _) (a.hok.fresh (aae _))
inductive Qd(R:It->Hp->Prop)(vs:List V)(H1:Hp):Prop
 | mk (j:Int) (_:vs=[.int j]) (_ : -(2^62)<=j) (_:j<2^62) (_:R (XJ 0 j.toNat) H1)
def Ui(b:TA):TI:=λ a H R=>b a H (Qd R)
inductive Qn(R:It->Hp->Prop)(vs:List V)(H1:Hp):Prop
 | mk (i j:Int) (_:vs=[.int i,.int j]) (_:(-(2^62)<=i/\i<2^62 /\ -(2^62)<=j/\j<2^62)) (_:R (XJ i (j-i).toNat) H1)
def UL(b:TA):TI:=λ a H R=>b a H (Qn R)
theorem iW{a:Expr}{p pos:Pos}(n:Gl X "range")(m:X.mg "range" = none)(o:PA X [a] t)(l:starEach [a] X.env=[(pq false (eval a X.env))]:=by rfl):PI X tg (.Call (.Name "range" p) [a] [] pos) (Ui t):=by
 intro f s d H R I h;refine Call_ (gf I n m boot_range (PyProof.Rows.callWith_type1 (VL (o pos f s d H _ I h) λw x ⟨v,y,u,i,c⟩=>?_) l rfl));obtain⟨j,e,c,k,q⟩:=c;subst e;cases i with
 |cons r g=>
  cases g;obtain⟨b,rfl⟩:=r;exact call_range_1 (CK u ⋯ ⋯ c k (by simpa using q))
theorem Jk{a b:Expr}{p pos:Pos}(y:Gl X "range")(x:X.mg "range" = none)(z:PA X [a,b] t)(w:starEach [a,b] X.env=[(pq false (eval a X.env)),(pq false (eval b X.env))]:=by rfl)(d:starEach [b] X.env=[(pq false (eval b X.env))]:=by rfl):
  PI X tg (.Call (.Name "range" p) [a,b] [] pos) (UL t):=by
 intro l s k H R I h;refine Call_ (gf I y x boot_range (PyProof.Rows.callWith_type1 (VL (z pos l s k H _ I h) λC E ⟨B,F,A,m,g⟩=>?_) (by rw[w,d]) (by rw[d];rfl)));obtain⟨i,j,e,⟨g,v,u,o⟩,q⟩:=g;subst e;cases m with
 |cons r f=>
  cases f with
  |cons n f=>
   cases f;obtain⟨c,rfl⟩:=r;obtain⟨D,rfl⟩:=n;exact call_range_2 (CK A g v u o q)
def QQ(g:TG)(e:TS)(D:Ends)(σ:St)(H:Hp):It->Hp->Prop:=λJ h=>∃W:Nat->Nat->St->Hp->Prop,(∃m,W 0 m σ h) /\ ∀i m σ H,W i m σ H->(J.stop i H/\D.nx σ H)\/(J.go i H /\ ∃N:St->Hp->Prop,(∀b a,N b a -> ∃d,d<m/\W (i+1) d b a) /\ ∀x a,J.Xk i H x a->g x σ a λ c f=>e {D with nx:=N,ct:=N,bk:=D.nx} c f)
def Vg(b:TI)(g:TG)(c:TS):TS:=λD a H=>b a H (QQ g c D a H)
def o7(a:List Addr)(h:Heap):List (Addr×Obj):=a.filterMap λb=>(h.get? b).map λo=>(pq b o)
theorem fD{b:Addr}{o:Obj}(a:b∈l)(e:base.get? b=some o):(pq b o)∈o7 l base:=ahm.mpr (b,a,by rw[e];rfl)
theorem JC{p:Addr×Obj}(a:p∈o7 l base):p.1∈l/\base.get? p.1=some p.2:=by
 obtain⟨b,c,e⟩:=ahm.mp a;cases q:base.get? b with
 |none=>rw[q]at e;cases e
 |some o=>
  rw[q]at e;have d:(pq b o)=p:=afE e;subst d;exact(c,q)
theorem Inv.pinned{σ:St}{s:Shared}(I:Inv X π σ H s)(h:∀b∈l,gr X π H b)(g:∀b∈l,∃o,s.heap.get? b=some o /\ ∀v,o.data ≠ .cell v):Inv X (π++o7 l s.heap) σ H s:=
 I.pins_of λp f=>(aas.mp f).elim (λz=>I.pin p (aap _ z)) λz=>by
  obtain⟨a,e⟩:=JC z;obtain⟨k,j,i,_⟩:=h p.1 a;obtain⟨o,c,d⟩:=g p.1 a;rw[e]at c;cases c;exact(e,k,j,i,d)
theorem Inv.ξ{a:List (Addr×Obj)}{σ:St}{s:Shared}(I:Inv X (π++a) σ H s):Inv X π σ H s:=I.pins_of λp b=>I.pin p (aap _ (afQ _ b))
theorem bK{iter:Expr}{B:List Stmt}{Z:TI}{g:TG}{tb:TS}{pos:Pos}(F:PassesOwn (model X.prog X.w) X.A X.env X.xe)(hc:X.calm=true)(hi:PI X tg iter Z)(hg:PG X tg g)(c:Wu X B tb)
  (hs:∀x,foldedSetIterable iter X.env x=pure x:=by intro _;rfl):PS X (.For tg iter B [] pos) (Vg Z g tb):=by
 intro C s Y H D I h;refine wpAny_For (VL (hi C s Y H _ I h) λv s1 h1=>VL h1 λa0 s2 h2=>?_) hs;obtain⟨it,G,tn,J,H2,e,I2,T,V,f2,W,⟨m0,w0⟩,L⟩:=h2;subst e;have q:∀{y:Hp},(∀b∈G,y b=none) -> ∀b∈G,gr X C y b:=λhn b c=>(hn b c,(f2 b c).2);refine codeAny_forLoop_any (λn s'=>∃i p y,Inv X C p y s'/\tn i s'.heap/\(∀b∈G,y b=none)/\W i n p y) ?_ m0 (0,Y,H2,I2,V,λb c=>(f2 b c).1,w0);rintro n s3 ⟨i,l,P,I3,K,XM,w3⟩;rcases L i n l P w3 with ⟨M,qn⟩|⟨go,N,hN,O⟩
 ·refine wpAny_passesOwn F (VL (T.done X rfl rfl rfl hc i C s3 l P X.xe I3 (q XM) K M) λr s4 ⟨R,I4⟩=>?_);subst R;exact wpAny_execs_nil (l,P,I4,qn)
 ·refine wpAny_passesOwn F (VL (T.item X rfl rfl rfl hc i C s3 l P X.xe I3 (q XM) K go) λr s4 ⟨u,R,h4⟩=>?_);subst R;refine wpAny_passesOwn F (VL h4 λ_ s5 ⟨x,H5,I5,r5,y5,S,YB⟩=>?_);have YC:=I5.pinned (q YB) (T.obj _ _ S);refine wpAny_passesOwn F (VL (hg _ s5 l H5 x u _ YC r5 (O x H5 y5)) λ_ s6 ⟨U,H6,I6,q6⟩=>?_);refine wpAny_passesOwn F (VL (c _ s6 U H6 _ I6 q6) λf Q z=>?_);have t:∀{a:St}{k:Hp},Inv X (C++o7 G s5.heap) a k Q->N a k -> ∃m,m<n /\ ∃i p y,Inv X C p y Q/\tn i Q.heap/\(∀b∈G,y b=none)/\W i m p y:=λ{a k} j E=>by
   obtain⟨m',hm,w7⟩:=hN a k E;refine(m',hm,i+1,a,k,j.ξ,T.keep _ _ _ S λb c o e=>(j.pin (pq b o) (aap _ (aap _ (fD c e)))).1,λb c=>?_,w7);obtain⟨o,e,d⟩:=T.obj _ _ S b c;exact(j.pin (pq b o) (aap _ (aap _ (fD c e)))).2.1
  cases f with
  |next=>obtain⟨a,k,j,E⟩:=z;exact t j E
  |cont=>obtain⟨a,k,j,E⟩:=z;exact t j E
  |brk=>obtain⟨a,k,j,z⟩:=z;exact(a,k,j.ξ,z)
  |ret v=>obtain⟨x7,a,k,j,r7,z⟩:=z;exact(x7,a,k,j.ξ,r7,z)
theorem cG{K:PySem.W.Frag}{a:Addr}{xs:List V}{g:TG}{j:TS}{σ:St}(b:Nat->St->Hp->Prop)(s:b 0 σ H)(o:∀i σ H,i<=xs.length->b i σ H->My K H a xs)
  (n:∀i x σ H,xs[i]?=some x->b i σ H->g x σ H λ c h=>j {R with nx:=b (i+1),ct:=b (i+1),bk:=R.nx} c h)(hd:∀σ H,b xs.length σ H->R.nx σ H):
  ∃W:Nat->Nat->St->Hp->Prop,(∃m,W 0 m σ H) /\ ∀i m σ H,W i m σ H ->
   ((XH K a).stop i H/\R.nx σ H)\/((XH K a).go i H /\ ∃N:St->Hp->Prop,(∀d H',N d H' -> ∃k,k<m/\W (i+1) k d H') /\ ∀x H',(XH K a).Xk i H x H'->g x σ H' λ c h=>j {R with nx:=N,ct:=N,bk:=R.nx} c h):=by
 exists λi m σ H=>m=xs.length-i/\i<=xs.length/\b i σ H,(xs.length,by simp,aaH _,s);rintro i m σ H ⟨rfl,r,p⟩;have q:=o i σ H r p;by_cases f:i<xs.length
 ·refine .inr ((xs,xs[i],q,by simp[f]),b (i+1),λ d H' l=>(xs.length-(i+1),6,7,f,l),λx H' y=>?_);obtain⟨e,y⟩:=y;subst e;exact n i x σ _ (y xs q) p
 ·have e:i=xs.length:=by lia
  subst e;exact .inl ((xs,q,aae _),hd σ H p)
theorem HJ{K:PySem.W.Frag}{a:Addr}{xs:List V}{g:TG}{j:TS}{σ:St}(b:Nat->St->Hp->Prop)(s:b 0 σ H)(o:∀i σ H,i<=xs.length->b i σ H->VM K H a xs)
  (n:∀i x σ H,xs[i]?=some x->b i σ H->g x σ H λ c h=>j {R with nx:=b (i+1),ct:=b (i+1),bk:=R.nx} c h)(hd:∀σ H,b xs.length σ H->R.nx σ H):
  ∃W:Nat->Nat->St->Hp->Prop,(∃m,W 0 m σ H) /\ ∀i m σ H,W i m σ H ->
   ((Yz K a).stop i H/\R.nx σ H)\/((Yz K a).go i H /\ ∃N:St->Hp->Prop,(∀d H',N d H' -> ∃k,k<m/\W (i+1) k d H') /\ ∀x H',(Yz K a).Xk i H x H'->g x σ H' λ c h=>j {R with nx:=N,ct:=N,bk:=R.nx} c h):=by
 exists λi m σ H=>m=xs.length-i/\i<=xs.length/\b i σ H,(xs.length,by simp,aaH _,s);rintro i m σ H ⟨rfl,r,p⟩;have q:=o i σ H r p;by_cases f:i<xs.length
 ·refine .inr ((xs,xs[i],q,by simp[f]),b (i+1),λ d H' l=>(xs.length-(i+1),6,7,f,l),λx H' y=>?_);obtain⟨e,y⟩:=y;subst e;exact n i x σ _ (y xs q) p
 ·have e:i=xs.length:=by lia
  subst e;exact .inl ((xs,q,aae _),hd σ H p)
theorem nY{lo:Int}{n:Nat}{g:TG}{h:TS}{σ:St}(a:Nat->St->Hp->Prop)(o:a 0 σ H)
  (l:∀i σ H,i<n->a i σ H->g (.int (lo+i)) σ H λ b f=>h {R with nx:=a (i+1),ct:=a (i+1),bk:=R.nx} b f)(hd:∀σ H,a n σ H->R.nx σ H):
  ∃W:Nat->Nat->St->Hp->Prop,(∃m,W 0 m σ H) /\ ∀i m σ H,W i m σ H ->
   ((XJ lo n).stop i H/\R.nx σ H)\/((XJ lo n).go i H /\ ∃N:St->Hp->Prop,(∀c H',N c H' -> ∃j,j<m/\W (i+1) j c H') /\ ∀x H',(XJ lo n).Xk i H x H'->g x σ H' λ b f=>h {R with nx:=N,ct:=N,bk:=R.nx} b f):=by
 exists λi m σ H=>m=n-i/\i<=n/\a i σ H,(n,by simp,aaH _,o);rintro i m σ H ⟨rfl,q,p⟩;by_cases d:i<n
 ·refine .inr (d,a (i+1),λ c H' k=>(n-(i+1),6,7,d,k),λx H' y=>?_);obtain⟨e,y⟩:=y;subst e y;exact l i σ _ d p
 ·have e:i=n:=by lia
  subst e;exact .inl (aae _,hd σ H p)
abbrev R2:=V->V->Hp->VK->Prop
def Wi(X:Cx)(f:Value->Value->Sem Value)(r:R2):Prop:=
 ∀(b:List (Addr×Obj)) (s:Shared) (a:St) (H:Hp) (x y:V) (v u:Value) (Q:VK),Inv X b a H s->RelV x v->RelV y u->r x y H Q ->
  wpAny (model X.prog X.w) X.A (f v u) (EP X b a Q) X.xe s
def UnR(X:Cx)(f:Value->Sem Value)(r:V->Hp->VK->Prop):Prop:=
 ∀(b:List (Addr×Obj)) (s:Shared) (a:St) (H:Hp) (x:V) (v:Value) (Q:VK),Inv X b a H s->RelV x v->r x H Q ->
  wpAny (model X.prog X.w) X.A (f v) (EP X b a Q) X.xe s
def eE(X:Cx)(f:Value)(r:List V->Hp->VK->Prop):Prop:=
 ∀(b:List (Addr×Obj)) (s:Shared) (a:St) (H:Hp) (c:List V) (d:List Value) (Q:VK),Inv X b a H s->Vals c d->r c H Q ->
  wpAny (model X.prog X.w) X.A (call f d) (EP X b a Q) X.xe s
def R5(r:R2)(Q:VK)(x:V):VK:=λy a=>r x y a Q
def RJ(r:R2)(a:TE)(σ:St)(Q:VK):VK:=λx b=>a σ b (R5 r Q x)
def W9(r:R2)(c b:TE):TE:=λ a H Q=>c a H (RJ r b a Q)
def TJ(r:V->Hp->VK->Prop)(Q:VK):VK:=λx a=>r x a Q
def tUn(r:V->Hp->VK->Prop)(b:TE):TE:=λ a H Q=>b a H (TJ r Q)
inductive rI(C:Int->Int->Prop)(g:Int->Int->V)(x:V)(y:V)(H:Hp)(Q:VK):Prop
 | mk (i j:_) (_:x=.int i) (_:y=.int j) (_:C i j) (_:Q (g i j) H)
inductive Xv(g:Int->Int->V)(x:V)(y:V)(H:Hp)(Q:VK):Prop
 | mk (i j:_) (_:x=.int i) (_:y=.int j) (_:Q (g i j) H)
inductive rU(g:Int->V)(x:V)(H:Hp)(Q:VK):Prop
 | mk (i:_) (_:x=.int i) (_:Q (g i) H)
section
variable{a c:Expr}{tc:TE}{pos:Pos}
theorem Su(r:PE X a ta)(q:PE X b tb){s:Shared}{σ:St}{R:V->V->Hp->Prop}(I:Inv X π σ H s)
  (h:ta σ H λx j=>tb σ j λy d=>R x y d){Q:Value->Shared->Prop}{f:Value->Value->Sem Value}
  (p:∀v u i x y d,Inv X π σ d i->RelV x v->RelV y u->R x y d->wpAny (model X.prog X.w) X.A (f v u) Q X.xe i):
  wpAny (model X.prog X.w) X.A (eval a X.env) (λv g=>wpAny (model X.prog X.w) X.A (eval b X.env) (λu e=>wpAny (model X.prog X.w) X.A (f v u) Q X.xe e) X.xe g) X.xe s:=by
 refine VL (r π s σ H _ I h) λv k ⟨x,j,z,m,o⟩=>?_;refine VL (q π k σ j _ z o) λu i ⟨y,d,t,l,n⟩=>?_;exact p v u i x y d t m l n
theorem aC{d:Operator}{r:R2}(k:Wi X (binaryOp d) r)(m:PE X a ta)(l:PE X b tb):PE X (.BinOp a d b pos) (W9 r ta tb):=by
 intro f s e H Q I h;exact wpAny_BinOp (Su m l I h λv u g x y o n j i q=>k f g e o x y v u Q n j i q)
theorem oX{f:UnaryOp}{r:V->Hp->VK->Prop}(k:UnR X (unaryOp f) r)(l:PE X a ta):PE X (.UnaryOp f a pos) (tUn r ta):=by
 intro e s d H Q I h;exact UnaryOp_ (VL (l e s d H _ I h) λv g ⟨x,n,m,i,j⟩=>k e g d n x v Q m i j)
theorem YX{f:Value->Value->Sem Value}{C:Int->Int->Prop}{g:Int->Int->Int}
  (d:∀(i j:Int) (t u:Tok) (s:Shared) (Q:Value->Shared->Prop) (E:Value->Shared->Prop),C i j->Q (.int (g i j) s.toks) {s with toks:=s.toks+1}->wpAny (model X.prog X.w) X.A (f (.int i t) (.int j u)) Q E s):
  Wi X f (rI C λi j=>.int (g i j)):=by
 intro o s n H x y v u Q I l k h;obtain⟨i,j,rfl,rfl,m,q⟩:=h;obtain⟨t,rfl⟩:=l;obtain⟨e,rfl⟩:=k;exact d i j t e s _ _ m (.int (g i j),H,I.tok _,3,q)
theorem Pn{f:Value->Value->Sem Value}{g:Int->Int->Int}
  (d:∀(i j:Int) (t u:Tok) (s:Shared) (Q:Value->Shared->Prop) (E:Value->Shared->Prop),Q (.int (g i j) s.toks) {s with toks:=s.toks+1}->wpAny (model X.prog X.w) X.A (f (.int i t) (.int j u)) Q E s):
  Wi X f (Xv λi j=>.int (g i j)):=by
 intro n s m H x y v u Q I l k h;obtain⟨i,j,rfl,rfl,q⟩:=h;obtain⟨t,rfl⟩:=l;obtain⟨e,rfl⟩:=k;exact d i j t e s _ _ (.int (g i j),H,I.tok _,3,q)
theorem O9{f:Value->Value->Sem Value}{g:Int->Int->Bool}
  (d:∀(i j:Int) (t u:Tok) (s:Shared) (Q:Value->Shared->Prop) (E:Value->Shared->Prop),Q (.bool (g i j)) s->wpAny (model X.prog X.w) X.A (f (.int i t) (.int j u)) Q E s):
  Wi X f (Xv λi j=>.bl (g i j)):=by
 intro n s m H x y v u Q I l k h;obtain⟨i,j,rfl,rfl,q⟩:=h;obtain⟨t,rfl⟩:=l;obtain⟨e,rfl⟩:=k;exact d i j t e s _ _ (.bl (g i j),H,I,7,q)
def Vo(i j:Int):Prop:=0<j/\j<1073741824
def Vc(i j:Int):Prop:=0<=j/\j<=1000000/\i.natAbs<2^64
def RD(i j:Int):Prop:=(-(2^64)<i/\i<2^64)\/(-(2^64)<j/\j<2^64)
theorem RD.ok{i j:Int}(h:RD i j):IntMulOk i j:=by
 rcases h with ⟨e,d⟩|⟨e,d⟩
 ·exact .of_left (intBits_le_64 e d)
 ·exact .of_right (intBits_le_64 e d)
theorem Fx(k:Nat):(0:Int)<=2^k:=by
 rw[two_pow_cast];exact Int.natCast_nonneg _
theorem bj:Wi X (binaryOp .Add) (Xv λi j=>.int (i+j)):=Pn λ_ _ _ _ _ _ _ q=>add_int q
theorem cP:Wi X (binaryOp .Sub) (Xv λi j=>.int (i-j)):=Pn λ_ _ _ _ _ _ _ q=>sub_int q
theorem cH:Wi X (binaryOp .Mult) (rI RD λi j=>.int (i*j)):=YX λ_ _ _ _ _ _ _ d q=>mul_int q d.ok
theorem iy:Wi X (binaryOp .FloorDiv) (rI Vo λi j=>.int (i / j)):=YX λi j _ _ _ _ _ d q=>by
 have f:(0:Int)<j:=d.1;have e:j<1073741824:=d.2;exact floordiv_int ⋯ (by rw[ah5 i ⋯];exact q) (.inl (PyProof.noPylong_small ⋯))
theorem bO:Wi X (binaryOp .Mod) (rI (λ_ j=>0<j) λi j=>.int (i%j)):=YX λi j _ _ _ _ _ d q=>by
 have e:(0:Int)<j:=d;exact mod_int' ⋯ (by rw[Int.fmod_eq_emod_of_nonneg i ⋯];exact q)
theorem vh:Wi X (binaryOp .Pow) (rI Vc λi j=>.int (i^j.toNat)):=YX λ_ _ _ _ _ _ _ d q=>pow_int_small d.1 d.2.1 d.2.2 q
theorem Ss:Wi X (binaryOp .LShift) (rI Vc λi j=>.int (i*2^j.toNat)):=YX λ_ _ _ _ _ _ _ d q=>lshift_int_small d.1 d.2.1 d.2.2 q
theorem RQ:Wi X (binaryOp .RShift) (rI (λ_ j=>0<=j) λi j=>.int (i / 2^j.toNat)):=YX λi j _ _ _ _ _ d q=>
 rshift_int d (by rw[ah5 i (Fx _)];exact q)
theorem S9:Wi X (binaryOp .BitAnd) (Xv λi j=>.int (Builtin.bitAnd i j)):=Pn λ_ _ _ _ _ _ _ q=>and_int q
theorem Sx:Wi X (binaryOp .BitXor) (Xv λi j=>.int (Builtin.bitXor i j)):=Pn λ_ _ _ _ _ _ _ q=>xor_int q
theorem unI{f:Value->Sem Value}{g:Int->Int}
  (d:∀(i:Int) (t:Tok) (s:Shared) (Q:Value->Shared->Prop) (E:Value->Shared->Prop),Q (.int (g i) s.toks) {s with toks:=s.toks+1}->wpAny (model X.prog X.w) X.A (f (.int i t)) Q E s):
  UnR X f (rU λi=>.int (g i)):=by
 intro k s j H x v Q I e h;obtain⟨i,rfl,q⟩:=h;obtain⟨t,rfl⟩:=e;exact d i t s _ _ (.int (g i),H,I.tok _,3,q)
theorem jQ:UnR X (unaryOp .USub) (rU λi=>.int (-i)):=unI λ_ _ _ _ _ q=>neg_int q
end
def U6:V->V->Bool
 |.non,.non=>true | .non,.int _=>true | .int _,.non=>true | .non,.bl _=>true | .bl _,.non=>true | .non,.str _=>true | .str _,.non=>true
 |.int _,.int _=>true | .bl _,.bl _=>true | .str _,.str _=>true | .Xr _,.Xr _=>true
 |.int _,.str _=>true | .str _,.int _=>true | .bl _,.str _=>true | .str _,.bl _=>true
 |_,_=>false
def rEq:R2:=λx y H Q=>U6 x y=true/\Q (.bl (decide (x=y))) H
def rNe:R2:=λx y H Q=>U6 x y=true/\Q (.bl (!decide (x=y))) H
theorem qw{i j:Int}:decide (V.int i=V.int j)=(i==j):=by
 rw[ahY];simp
theorem KZ{i j:Bool}:decide (V.bl i=V.bl j)=(i==j):=by
 rw[ahY];simp
theorem G3{i j:Str}:decide (V.str i=V.str j)=(i==j):=by
 rw[ahY];simp
theorem Hi{i j:Array UInt8}:decide (V.Xr i=V.Xr j)=(i.toList==j.toList):=by
 rw[ahY];cases i;cases j;simp
section
variable{a c:Expr}{tc:TE}{pos:Pos}
theorem cj{σ:St}{s:Shared}{Q:VK}{k d:Bool}(I:Inv X π σ H s)(q:Q (.bl k) H)(e:k=d):EP X π σ Q (.bool d) s:=by
 subst e;exact(.bl k,H,I,7,q)
theorem fQ:Wi X (compareOp .Eq) rEq:=by
 intro l s k H x y v u Q I g d h;obtain⟨f,q⟩:=h;cases x with
 |non=>
  cases g;cases y with
  |non=>cases d;exact PySem.EqNone.eq_none_none (cj I q (by simp))
  |bl j=>cases d;exact PySem.EqNone.eq_none_bool (cj I q (by simp))
  |int j=>obtain⟨e,rfl⟩:=d;exact PySem.EqNone.eq_none_int (cj I q (by simp))
  |str j=>obtain⟨e,rfl⟩:=d;exact PySem.EqNone.eq_none_str (cj I q (by simp))
  |_=>exact absurd (show false=true from f) afD
 |bl i=>
  cases g;cases y with
  |non=>cases d;exact PySem.EqNone.eq_bool_none (cj I q (by simp))
  |bl j=>cases d;exact eq_bool (cj I q KZ)
  |str j=>obtain⟨e,rfl⟩:=d;exact PySem.EqMixed.eq_bool_str (cj I q (by simp))
  |_=>exact absurd (show false=true from f) afD
 |int i=>
  obtain⟨t,rfl⟩:=g;cases y with
  |non=>cases d;exact PySem.EqNone.eq_int_none (cj I q (by simp))
  |int j=>obtain⟨e,rfl⟩:=d;exact eq_int (cj I q qw)
  |str j=>obtain⟨e,rfl⟩:=d;exact PySem.EqMixed.eq_int_str (cj I q (by simp))
  |_=>exact absurd (show false=true from f) afD
 |str i=>
  obtain⟨t,rfl⟩:=g;cases y with
  |non=>cases d;exact PySem.EqNone.eq_str_none (cj I q (by simp))
  |bl j=>cases d;exact PySem.EqMixed.eq_str_bool (cj I q (by simp))
  |int j=>obtain⟨e,rfl⟩:=d;exact PySem.EqMixed.eq_str_int (cj I q (by simp))
  |str j=>obtain⟨e,rfl⟩:=d;exact eq_str (cj I q G3)
  |_=>exact absurd (show false=true from f) afD
 |Xr i=>
  obtain⟨t,rfl⟩:=g;cases y with
  |Xr j=>obtain⟨e,rfl⟩:=d;exact PySem.W.eq_bytes (cj I q Hi)
  |_=>exact absurd (show false=true from f) afD
 |_=>cases y<;>exact absurd (show false=true from f) afD
theorem yO:Wi X (compareOp .NotEq) rNe:=by
 intro l s k H x y v u Q I g d h;obtain⟨f,q⟩:=h;cases x with
 |non=>
  cases g;cases y with
  |non=>cases d;exact PySem.EqNone.ne_none_none (cj I q (by simp))
  |bl j=>cases d;exact PySem.EqNone.ne_none_bool (cj I q (by simp))
  |int j=>obtain⟨e,rfl⟩:=d;exact PySem.EqNone.ne_none_int (cj I q (by simp))
  |str j=>obtain⟨e,rfl⟩:=d;exact PySem.EqNone.ne_none_str (cj I q (by simp))
  |_=>exact absurd (show false=true from f) afD
 |bl i=>
  cases g;cases y with
  |non=>cases d;exact PySem.EqNone.ne_bool_none (cj I q (by simp))
  |bl j=>cases d;exact ne_bool (cj I q (congrArg not KZ))
  |str j=>obtain⟨e,rfl⟩:=d;exact PySem.EqMixed.ne_bool_str (cj I q (by simp))
  |_=>exact absurd (show false=true from f) afD
 |int i=>
  obtain⟨t,rfl⟩:=g;cases y with
  |non=>cases d;exact PySem.EqNone.ne_int_none (cj I q (by simp))
  |int j=>obtain⟨e,rfl⟩:=d;exact ne_int (cj I q (congrArg not qw))
  |str j=>obtain⟨e,rfl⟩:=d;exact PySem.EqMixed.ne_int_str (cj I q (by simp))
  |_=>exact absurd (show false=true from f) afD
 |str i=>
  obtain⟨t,rfl⟩:=g;cases y with
  |non=>cases d;exact PySem.EqNone.ne_str_none (cj I q (by simp))
  |bl j=>cases d;exact PySem.EqMixed.ne_str_bool (cj I q (by simp))
  |int j=>obtain⟨e,rfl⟩:=d;exact PySem.EqMixed.ne_str_int (cj I q (by simp))
  |str j=>obtain⟨e,rfl⟩:=d;exact ne_str (cj I q (congrArg not G3))
  |_=>exact absurd (show false=true from f) afD
 |Xr i=>
  obtain⟨t,rfl⟩:=g;cases y with
  |Xr j=>obtain⟨e,rfl⟩:=d;exact PySem.W.ne_bytes (cj I q (congrArg not Hi))
  |_=>exact absurd (show false=true from f) afD
 |_=>cases y<;>exact absurd (show false=true from f) afD
theorem tU:Wi X (compareOp .Lt) (Xv λi j=>.bl (decide (i<j))):=O9 λ_ _ _ _ _ _ _ q=>lt_int q
theorem vH:Wi X (compareOp .LtE) (Xv λi j=>.bl (decide (i<=j))):=O9 λ_ _ _ _ _ _ _ q=>le_int q
theorem jd:Wi X (compareOp .Gt) (Xv λi j=>.bl (decide (j<i))):=O9 λ_ _ _ _ _ _ _ q=>gt_int q
theorem Rv:Wi X (compareOp .GtE) (Xv λi j=>.bl (decide (j<=i))):=O9 λ_ _ _ _ _ _ _ q=>ge_int q
theorem Mz(b:Expr){d:CmpOp}(h:d ≠ .In:=by decide)(e:d ≠ .NotIn:=by decide):behindInMarks d b=false:=by
 have g:(d==CmpOp.In)=false:=by cases d<;>first|rfl|exact absurd rfl h
 have f:(d==CmpOp.NotIn)=false:=by cases d<;>first|rfl|exact absurd rfl e
 cases b<;>simp[behindInMarks,g,f]
theorem pN{d:CmpOp}{r:R2}(k:Wi X (compareOp d) r)(n:PE X a ta)(m:PE X b tb)(l:behindInMarks d b=false:=by exact Mz _):PE X (.Compare a [d] [b] pos) (W9 r ta tb):=by
 intro f s e H Q I h;exact wpAny_Compare1 (Su n m I h λv u g x y p o j i q=>k f g e p x y v u Q o j i q) l
inductive QJ(Q:Bool->Hp->Prop)(x:V)(H':Hp):Prop
 | mk (k:_) (_:x=.bl k) (_:Q k H')
def DR(t:TE):TT:=λ d H Q=>t d H (QJ Q)
theorem aP{g:CmpOp}{r:R2}(t:Wi X (compareOp g) r)(B:PE X a ta)(A:PE X b tb)(w:behindInMarks g b=false:=by exact Mz _):PT X (.Compare a [g] [b] pos) (DR (W9 r ta tb)):=by
 intro f s d H Q I h;refine wpAny_isTrue_Compare1 (VL (B f s d H _ I h) λv j ⟨x,J,E,n,q⟩=>VL (A f j d J _ E q) λu i ⟨y,G,D,m,p⟩=>
  VL (t f i d G x y v u _ D n m p) λc K ⟨z,F,C,l,k,e,o⟩=>?_) w
 subst e;cases l;exact wpAny_truthy_bool (F,C,o)
inductive La(r':R2)(tc:TE)(σ:St)(Q:VK)(y:V)(z:V)(H3:Hp):Prop
 |mk (k:_) (_:z=.bl k) (_:(if k=true then tc σ H3 λw' H4=>r' y w' H4 Q else Q (.bl false) H3))
def Ka(r:R2)(d:R2)(tc:TE)(σ:St)(Q:VK)(x:V):VK:=λy e=>r x y e (La d tc σ Q y)
def J2(r:R2)(d:R2)(tb:TE)(tc:TE)(σ:St)(Q:VK):VK:=λx e=>tb σ e (Ka r d tc σ Q x)
def Tq(r e:R2)(ta tb tc:TE):TE:=λ d H Q=>ta d H (J2 r e tb tc d Q)
theorem qm{j f:CmpOp}{r n:R2}(P:Wi X (compareOp j) r)(l:Wi X (compareOp f) n)(U:PE X a ta)(T:PE X b tb)(S:PE X c tc)
  (R:lastMarks [j,f] [b,c]=false:=by with_unfolding_all rfl):PT X (.Compare a [j,f] [b,c] pos) (DR (Tq r n ta tb tc)):=by
 intro i s g H Q I h;refine isTrue_chain (VL (U i s g H _ I h) λv D ⟨x,H1,I1,J,N⟩=>test_link (VL (T i D g H1 _ I1 N) λu C ⟨y,H2,I2,m,M⟩=>
  VL (P i C g H2 x y v u _ I2 J m M) λd B ⟨z,q,p,G,k,e,o⟩=>?_)) R
 subst e;cases G;refine wpAny_truthy_bool ?_;cases k with
 |false=>
  obtain⟨k',W,O⟩:=o;cases W;exact ite_ff (q,p,O)
 |true=>
  refine ite_tt (test_last (VL (S i B g q _ p o) λw A ⟨t,H4,Z,F,L⟩=>VL (l i A g H4 y t u w _ Z m F L) λd' s5 ⟨z2,H5,Y,E,k2,V,K⟩=>?_));subst V;cases E;exact wpAny_truthy_bool (H5,Y,K)
theorem rm:(sizeLine:Nat)<2^63:=by rw[sizeLine_eq];decide
theorem fZ:Wi X (binaryOp .Add) (λx y H Q=>∃i j,x=.str i/\y=.str j/\i.length+j.length<=sizeLine/\Q (.str (i++j)) H):=by
 intro l s k H x y v u Q I f e h;obtain⟨i,j,rfl,rfl,g,q⟩:=h;obtain⟨t,rfl⟩:=f;obtain⟨d,rfl⟩:=e;exact add_str (λd m=>(.str (i++j),H,I.tok _,3,q)) g
theorem vals1{x:V}(r:Vals [x] j):∃u,j=[u]/\RelV x u:=by
 cases r with
 |cons e d=>cases d;exact(9,e)
theorem vals2{x y:V}(r:Vals [x,y] j):∃u d,j=[u,d]/\RelV x u/\RelV y d:=by
 cases r with
 |cons h g=>
  cases g with
  |cons f e=>cases e;exact(_,9,h,f)
theorem nZ(e:X.calm=true):eE X (.builtin "min") (λxs H Q=>∃i j,xs=[.int i,.int j]/\Q (.int (if j<i then j else i)) H):=by
 intro g s f H xs m Q I r h;obtain⟨i,j,rfl,q⟩:=h;obtain⟨u,l,rfl,⟨t,rfl⟩,⟨o,rfl⟩⟩:=vals2 r;refine min_two_ints (I.ok.hd e) λp n k=>(_,H,I.kept k,1,q);by_cases d:j<i
 ·rw[if_pos d,if_pos d];exact(_,7)
 ·rw[if_neg d,if_neg d];exact(_,7)
theorem J1:eE X (.type "int") (λxs H Q=>(∃i,xs=[.int i]/\Q (.int i) H) \/ ∃k,xs=[.bl k]/\Q (.int (if k then 1 else 0)) H):=by
 intro f s e H xs g Q I r h;rcases h with ⟨i,rfl,q⟩|⟨k,rfl,q⟩
 ·obtain⟨u,rfl,t,rfl⟩:=vals1 r;exact call_int_int (.int i,H,I,3,q)
 ·obtain⟨u,rfl,d⟩:=vals1 r;cases d;exact call_int_bool (.int (if k then 1 else 0),H,I.tok _,3,q)
end
structure Sy(h:Heap)(x dx C:Addr)(mA:Str->Option Value):Prop where
 obj:h.get? x=some (PySem.W.instObj C dx)
 ns:h.Ns1 dx mA
 ne:dx≠x
theorem Iw(n:base.Ns1 a mg):∃od,base.get? a=some od /\ ∀name,PySem.W.lookIn name od=some (mg name):=by
 obtain⟨o,d,l,g,hd,j,_,i⟩:=n;refine(o,g,λname=>?_);have e:=i name;unfold nsFind findBy at e;rw[<-Array.find?_toList]at e;unfold PySem.W.lookIn;rw[hd];dsimp only;split
 ·rename_i y q;rw[q]at e;exact congrArg some e
 ·rename_i q;rw[q]at e;have b:d.toList.any (·.refKey)=false:=by
   rw[List.any_eq_false];intro y f;obtain⟨z,t,c⟩:=j y (Array.mem_toList_iff.mp f);simp[DictEntry.refKey,c]
  have k:¬d.toList.any (·.refKey)=true:=by rw[b];exact afD
  rw[if_neg k];exact congrArg some e
theorem Sy.look{x C:Addr}(I:Sy base x a C mg):∃od,PySem.W.InstAt base x (PySem.W.instObj C a) C (some od) /\ ∀name,PySem.W.lookIn name od=some (mg name):=
 let ⟨od,ho,hl⟩:=Iw I.ns
 (od,(I.obj,7,7,ho),hl)
section
variable{w:World}{mA:Str->Option Value}{name:Str}{v:Value}
end
theorem uR.some_of{v:V}{o:Option Value}(r:uR (some v) o):∃u,o=some u/\RelV v u:=by
 cases o with
 |none=>exact(show False from r).elim
 |some u=>exact(u,7,r)
section
variable{P:Program}{w:World}{fs fs':List (Str×V)}
theorem uq(c:Wa P w H h)(e:H a=some (.ins C dx fs)):∃b,Sy h a dx C b/\(∀f,uR (fs.lookup f) (b f))/\PySem.Within b (fs.map (·.1))/\fs.length<=1000/\H dx=some (.own a):=by
 obtain⟨d,z,i,g,b,n,r,q⟩:=(show b7 P w H h a (.ins C dx fs)from c a _ e);exact(b,(g,n,i),r,q,z,d)
end
structure Cls(K:PySem.W.Frag)(C:Addr):Prop where
 pg:PySem.W.plainGet K C Str.empty=true
 hd:PySem.W.hasDictIn K C=true
 po:PySem.W.plainOver K C=true
 sa:PySem.W.findIn K (.ref C) "__setattr__" = some (some (.builtin "object.__setattr__"))
theorem Cls.get{K:PySem.W.Frag}{C:Addr}(c:Cls K C)(f:Str):PySem.W.plainGet K C f=true:=c.pg
section
variable{fs:List (Str×V)}{f:Str}{v:V}
end
section
variable{value:Expr}{f:Str}{pos pos' tpos:Pos}{tv:TE}
end
section
variable{Q:Value->Shared->Prop}{c:Value}{b:Bool}
inductive qG(K:PySem.W.Frag)(H:Hp):V->Value->Prop where
 | non:qG K H .non (.type "NoneType")
 | bl (x:Bool):qG K H (.bl x) (.type "bool")
 | int (i:Int):qG K H (.int i) (.type "int")
 | str (x:Str):qG K H (.str x) (.type "str")
 | flt (x:UInt64):qG K H (.flt x) (.type "float")
 | lst {a:Addr}{xs:List V} (e:H a=some (.lst xs)):qG K H (.ref a) (.type "list")
 | Wj {a:Addr}{o:Obj}{xs:List V} (e:H a=some (.Wj o (.lst xs))):qG K H (.ref a) (.type "list")
 | tup {a:Addr}{xs:List V} (e:H a=some (.tup xs)):qG K H (.ref a) (.type "tuple")
 | dK {a:Addr}{kvs:List (Key×V)} (e:H a=some (.dK kvs)):qG K H (.ref a) (.type "dict")
 | dT {a:Addr}{kvs:List (List Key×V)} (e:H a=some (.dT kvs)):qG K H (.ref a) (.type "dict")
 | ins {a C dx:Addr}{fs:List (Str×V)} (e:H a=some (.ins C dx fs)) (cl:Cls K C) (ha:PySem.W.findIn K (.ref C) "__class__" = some (some (.builtin "object.__class__")))
   (hn:PySem.W.specialIn K (.builtin "object.__class__") "__get__" = some (some (.builtin "getset_descriptor.__get__"))) (htk:PySem.W.takesIn K (.builtin "object.__class__")=some true)
   (hm:PySem.W.mroIn K C (.type "object")=some true):qG K H (.ref a) (.ref C)
theorem IV{x:V}{u t:Value}(I:Inv X π σ H s)(d:RelV x u)(v:qG X.K H x t)(e:PySem.W.kitOne X.K t c=some b)(h:∀tk,Q (.bool b) {s with toks:=tk}):
  wpAny (model X.prog X.w) A (call (.builtin "isinstance") [u,c]) Q E s:=by
 cases v with
 |non=>cases (show u=Value.none from d);exact PySem.W.kia_one PySem.W.kitx_none I.Wt True.intro e (λz=>nomatch z) h
 |bl y=>cases (show u=Value.bool y from d);exact PySem.W.kia_one PySem.W.kitx_bool I.Wt True.intro e (λz=>nomatch z) h
 |int i=>obtain⟨t,q⟩:=(show ∃t,u=Value.int i t from d);cases q;exact PySem.W.kia_one PySem.W.kitx_int I.Wt True.intro e (λz=>nomatch z) h
 |str y=>obtain⟨t,q⟩:=(show ∃t,u=Value.str y t from d);cases q;exact PySem.W.kia_one PySem.W.kitx_str I.Wt True.intro e (λz=>nomatch z) h
 |flt y=>obtain⟨t,q⟩:=(show ∃t,u=Value.float y t from d);cases q;exact PySem.W.kia_one PySem.W.kitx_float I.Wt True.intro e (λz=>nomatch z) h
 |@lst a k f=>
  cases (show u=Value.ref a from d);obtain⟨_,_,n,_,g⟩:=(show b7 X.prog X.w H s.heap a (.lst k)from I.hok a _ f);exact PySem.W.kia_one PySem.W.kitx_list I.Wt (_,g,7) e (λz=>nomatch z) h
 |@Wj a B k f=>
  cases (show u=Value.ref a from d);obtain⟨_,_,_,n,_,g⟩:=(show b7 X.prog X.w H s.heap a (.Wj B (.lst k))from I.hok a _ f);exact PySem.W.kia_one PySem.W.kitx_list I.Wt (_,g,7) e (λz=>nomatch z) h
 |@tup a k f=>
  cases (show u=Value.ref a from d);obtain⟨_,_,_,p⟩:=(show b7 X.prog X.w H s.heap a (.tup k)from I.hok a _ f);obtain⟨o,g,l,_⟩:=p;exact PySem.W.kia_one PySem.W.kitx_tuple I.Wt (o,g,l) e (λz=>nomatch z) h
 |@dK a j f=>
  cases (show u=Value.ref a from d);obtain⟨_,_,N,_,p⟩:=(show b7 X.prog X.w H s.heap a (.dK j)from I.hok a _ f);obtain⟨o,L,M,g,l,_⟩:=p;exact PySem.W.kia_one PySem.W.kitx_dict I.Wt (o,g,l.1) e (λz=>nomatch z) h
 |@dT a j f=>
  cases (show u=Value.ref a from d);obtain⟨_,_,k,_,o,L,M,g,l,_⟩:=(show b7 X.prog X.w H s.heap a (.dT j)from I.hok a _ f);exact PySem.W.kia_one PySem.W.kitx_dict I.Wt (o,g,l.1) e (λz=>nomatch z) h
 |@ins a C T S f r G D m F=>
  cases (show u=Value.ref a from d);obtain⟨R,O,_⟩:=uq I.hok f;obtain⟨P,J,_⟩:=O.look;exact PySem.W.kia_one (PySem.W.kitx_own (r.get _) r.hd G D m F) I.Wt J e (λz=>nomatch z) h
end
structure jj(k:Nat)(A:Around):Prop where
 hd:A.handled=none
 dp:A.depth+3*k+5<recursionLimit
 un:A.units+16*k+200<cLine
theorem jj.mono{j k:Nat}{A:Around}(r:jj k A)(h:j<=k):jj j A:=(r.hd,by have:=r.dp;lia,by have:=r.un;lia)
theorem jj.deeper{k:Nat}{A:Around}(r:jj (k+1) A)(env:Env):jj k (A.deeper env):=
 (r.hd,by have:=r.dp;show A.depth+1+3*k+5<_;lia,by have:=r.un;show A.units+3+16*k+200<_;lia)
theorem jj.depth{k:Nat}{A:Around}(r:jj k A):A.depth<recursionLimit:=by have:=r.dp;lia
theorem jj.units{k:Nat}{A:Around}(r:jj k A):A.units+64<cLine:=by have:=r.un;lia
def N6:TA:=λ_ H Q=>Q [] H
def M7(Q:List V->Hp->Prop)(x:V):List V->Hp->Prop:=λa b=>Q (x::a) b
def Ma(a:TA)(σ:St)(Q:List V->Hp->Prop):VK:=λx b=>a σ b (M7 Q x)
def uO(c:TE)(b:TA):TA:=λ a H Q=>c a H (Ma b a Q)
section
variable{pos:Pos}
theorem aj:PA X [] N6:=λ_ _ _ _ H Q I h=>Calls.spliced_nil ([],H,I,.nil,h)
theorem aq(m:PE X e te)(l:PA X es t)(k:starEach (e::es) X.env=(pq false (eval e X.env))::starEach es X.env:=by rfl):PA X (e::es) (uO te t):=by
 intro pos b s a H Q I h;rw[k];show wpAny _ _ (spliced ((pq false (eval e X.env))::backTo pos (starEach es X.env))) _ _ s;refine Calls.spliced_cons (VL (m b s a H _ I h) λu d ⟨x,q,o,g,j⟩=>?_);exact VL (l pos b d a q _ o j) λr v ⟨c,p,n,f,i⟩=>(x::c,p,n,.cons g f,i)
def Q7(Q:VK):List V->Hp->Prop:=λa b=>a.length<=sizeLine /\ ∀p,b p=none->Q (.ref p) (upd b p (.tup a))
def Vn(t:TA):TE:=λ a H Q=>t a H (Q7 Q)
def QV(Q:VK):List V->Hp->Prop:=λa b=>a.length<=sizeLine /\ ∀p,b p=none->Q (.ref p) (upd b p (.lst a))
def R0(t:TA):TE:=λ a H Q=>t a H (QV Q)
theorem dY{x1}(h:PA X es t):PE X (.Tuple es x1 pos) (Vn t):=by
 intro g s f H Q I k;refine wpAny_Tuple_spliced (VL (h pos g s f H _ I k) λj a ⟨i,d,c,r,z,q⟩=>(by rw[<-r.length];exact z,1));have l:d a.heap.objs.size=none:=c.hok.fresh (aae _);refine(.ref a.heap.objs.size,upd d a.heap.objs.size (.tup i),c.laid (t':=a.toks) (λb u e=>Heap.get?_push_of_some _ e) (aae _) ?_,7,q _ l);exact(z,j,r,(_,Heap.get?_push_size _ rfl,7,9))
theorem bh(h:PA X es t):PE X (.List es pos) (R0 t):=by
 intro g s f H Q I k;refine wpAny_List_spliced (VL (h pos g s f H _ I k) λj a ⟨i,d,c,r,z,q⟩=>(by rw[<-r.length];exact z,1));have l:d a.heap.objs.size=none:=c.hok.fresh (aae _);refine(.ref a.heap.objs.size,upd d a.heap.objs.size (.lst i),c.laid (t':=a.toks) (λb u e=>Heap.get?_push_of_some _ e) (aae _) ?_,7,q _ l);exact(z,j,0,r,Heap.get?_push_size _ rfl)
end
abbrev Sp:=List V->Hp->VK->XK->Prop
abbrev WP:=List Env->Hp->Shared->XK->Value->Shared->Prop
structure QD(P:Program)(w:World)(K:PySem.W.Frag)(mg:Str->Option Value)(base:Heap)(A:Around)(outer:List Env)(s:Shared)(H:Hp):Prop where
 frames:A.frames=some outer
 mod:Mod K mg base
 bs:∀b o,base.get? b=some o->s.heap.get? b=some o/\H b=none
 W4:base.objs.size<=s.heap.objs.size
 funs:s.heap.FunFrames base outer
 XD:∀b∈frs outer,H b=none
 hok:Wa P w H s.heap
 bare:AllBare s.gens
inductive CE(outer:List Env)(P:Program)(w:World)(H:Hp)(s:Shared)(Q:VK)(u:Value)(s':Shared):Prop
 | mk (v H':_) (_:s'.os=s.os) (_:AllBare s'.gens) (_:Un (frs outer) [] H H' s.heap s'.heap) (_:Wa P w H' s'.heap) (_:RelV v u) (_:Q v H')
def CR(CX:WP)(a:List Env)(P:Program)(w:World)(H:Hp)(s:Shared)(Q:VK)(E:XK)(r:Result)(s':Shared):Prop:=
 match r with
 |.ok (.ret u)=>CE a P w H s Q u s'
 |.ok _=>False
 |.error e=>CX a H s E e s'
structure bI(P:Program)(w:World)(K:PySem.W.Frag)(mg:Str->Option Value)(base:Heap)(CX:WP)(k:Nat)(f:Addr)(fd:FuncData)(ps:List Str)(sp:Sp):Prop where
 len:∀vs H Q E,sp vs H Q E->vs.length=ps.length
 run:∀(A:Around) (outer:List Env) (s:Shared) (H:Hp) (args:Args) (us:List Value) (vs:List V) (Q:VK) (E:XK),jj k A->QD P w K mg base A outer s H->BindsTo s fd args (ps.zip us)->Vals vs us->sp vs H Q E ->
  codeAny (model P w) A (.call (.ref f) args) (CR CX outer P w H s Q E) s
theorem bI.mono{P:Program}{w:World}{K:PySem.W.Frag}{c:Str->Option Value}{base:Heap}{CX:WP}{j k:Nat}{f:Addr}{d:FuncData}{ps:List Str}{sp:Sp}(F:bI P w K c base CX j f d ps sp)(h:j<=k):
  bI P w K c base CX k f d ps sp:=(F.len,λA a s H b g e Q E i=>F.run A a s H b g e Q E (i.mono h))
section
variable{s':Shared}
theorem Inv.env0(I:Inv X π σ H s):QD X.prog X.w X.K X.mg X.base X.A X.stack s H:=
 (I.ok.frames,I.ok.mod,I.bs,agd I.ok.W4 I.sz,I.stack,I.stkFree,I.hok,I.bare)
theorem Inv.after{Q:VK}{u:Value}(I:Inv X π σ H s)(h:CE X.stack X.prog X.w H s Q u s'):EP X π σ Q u s':=by
 obtain⟨v,k,i,a,f,e,r,q⟩:=h;obtain⟨j,g,d,t,c⟩:=s';obtain rfl:c=s.os:=i;exact(v,k,I.call (h':=j) (g':=g) (d':=d) (t':=t) (ch:=[]) f e a (λb z=>absurd z (by simp)),r,q)
end
def Mf(sp:Sp)(b:List V)(E:XK)(Q:VK):List V->Hp->Prop:=λa c=>sp (a++b) c Q E
def Hc(sp:Sp)(b:List V)(E:XK)(t:TA):TE:=λ a H Q=>t a H (Mf sp b E Q)
def Binds(K:PySem.W.Frag)(b:FuncData)(ps:List Str)(ds:List Value):Prop:=
 ∀(s:Shared) (a:List Value),K.In s.heap->(a++ds).length=ps.length->BindsTo s b (a,[]) (ps.zip (a++ds))
theorem Binds.all{K:PySem.W.Frag}{ps:List Str}(h:∀a:List Value,a.length=ps.length->bindArgs B (a,[])=pure (ps.zip a)):Binds K B ps []:=λs a _ b=>by
 rw[afR]at b ⊢;exact .of_eq (h a b)
def iD(CX:WP)(X:Cx)(E:XK):Prop:=∀(c:List (Addr×Obj)) (b:St) (H:Hp) (s:Shared) (e:Value) (a:Shared),Inv X c b H s->CX X.stack H s E e a->X.xe e a
section
variable{CX:WP}{k:Nat}{fd:FuncData}{ps:List Str}{sp:Sp}{XN:List V}{ds:List Value}{E:XK}{x m:Str}{pos:Pos}
theorem OJ{σ:St}{s:Shared}{Q:VK}{vs:List V}(F:bI X.prog X.w X.K X.mg X.base CX k f fd ps sp)(g:jj k X.A)(l:Binds X.K fd ps ds)(hd:Vals XN ds)(d:iD CX X E)
  (I:Inv X π σ H s)(r:Vals vs j)(h:sp (vs++XN) H Q E):wpAny (model X.prog X.w) X.A (call (.ref f) j) (EP X π σ Q) X.xe s:=by
 have b:Vals (vs++XN) (j++ds):=r.append hd;have i:(j++ds).length=ps.length:=by rw[<-b.length];exact F.len _ _ _ _ h
 refine wpAny_call (codeAny_mono (F.run X.A X.stack s H (j,[]) (j++ds) (vs++XN) Q E g I.env0 (l s j I.Wt i) b h) λr c a=>?_);cases r with
 |error e=>exact d π σ H s e c I a
 |ok n=>
  cases n with
  |ret u=>exact I.after a
  |next=>exact False.elim a
  |brk=>exact False.elim a
  |cont=>exact False.elim a
theorem Qc(F:bI X.prog X.w X.K X.mg X.base CX k f fd ps sp)(j:jj k X.A)(u:Gl X x)(l:X.mg x=!!!f)(n:PySem.W.keepIn X.K (.ref f)=true)(y:Binds X.K fd ps ds)(hd:Vals XN ds)(i:iD CX X E)
  (z:PA X (e::es) t)(b:(x==("__debug__" : Str))=false:=by decide)(v:starEach (e::es) X.env=(pq false (eval e X.env))::starEach es X.env:=by rfl)(a:(backTo pos (starEach es X.env)).any (·.1)=false:=by rfl):
  PE X (.Call (.Name x p) (e::es) [] pos) (Hc sp XN E t):=by
 intro g s d H Q I h;refine wpAny_Call_Name_kw (j5 I u l ?_ b);refine PySem.W.callWith_K (h₀:=X.base) I.ok.mod.Yx n (VL (z pos g s d H _ I h) λD G ⟨B,J,c,r,q⟩=>(c.Wt,1)) v a;exact OJ F j y hd i c r q
end
section
variable{CX:WP}{k:Nat}{fd:FuncData}{ps ks:List Str}{sp:Sp}{E:XK}{x m:Str}{pos kpos:Pos}{kws:List Keyword}{tk:TA}{nm:Option Str}
variable{g:List Value->List Value->List Value}{gV:List V->List V->List V}
end
structure aJ(N P:List Str)(sc:Scope):Prop where
 kind:sc.kind=.function
 co:sc.isCoroutine=false
 gen:sc.isGenerator=false
 nd:N.Nodup
 pre:N.take P.length=P
 par:∀x∈P,sc.names.lookup x=some .local\/sc.names.lookup x=some .cell
 nofree:∀y∈sc.names,y.2 ≠ .free
def scB(N P:List Str)(a:Scope):Bool:=decide (a.kind=.function)&&(!a.isCoroutine&&(!a.isGenerator&&(decide N.Nodup&&(decide (N.take P.length=P)&&(P.all (λx=>decide (a.names.lookup x=some .local\/a.names.lookup x=some .cell))&&a.names.all λy=>decide (y.2 ≠ .free))))))
theorem VN{N P:List Str}(h:scB N P scope=true:=by decide +kernel):aJ N P scope:=by
 simp only[scB,ahA,decide_eq_true_eq,ag0,List.all_eq_true]at h;exact(h.1,h.2.1,h.2.2.1,h.2.2.2.1,h.2.2.2.2.1,h.2.2.2.2.2.1,h.2.2.2.2.2.2)
theorem yr{b:Str->Option NameKind}{x:Str}:∀{a:List (Str×Value)} {m:Str->Option Value},(∀v,(pq x v)∉a)->bindL b a m x=m x
 |[],_,_=>rfl
 |(n,v)::r,m,h=>by
  unfold bindL;rw[yr λw c=>h w (aaj _ c)];split
  ·have:x≠n:=by rintro rfl;exact h v aan
   simp[this]
  ·rfl
theorem yE{b:Str->Option NameKind}{x:Str}:∀{a:List (Str×Value)} {m:Str->Option Value},(∀v,(pq x v)∉a)->bindC b a m x=m x
 |[],_,_=>rfl
 |(n,v)::r,m,h=>by
  unfold bindC;rw[yE λw c=>h w (aaj _ c)];split
  ·rfl
  ·have:x≠n:=by rintro rfl;exact h v aan
   simp[this]
theorem yW{a:Str->Option NameKind}{x:Str}{v:Value}:∀{P:List Str}{vs:List Value}{i:Nat}{m:Str->Option Value},P.Nodup->P[i]?=some x->vs[i]?=some v->a x=some .local ->
  bindL a (P.zip vs) m x=some v
 |[],_,_,_,_,h,_,_=>by simp at h
 |_::_,[],_,_,_,_,h,_=>by simp at h
 |p::P,w::vs,0,m,d,c,b,e=>by
  simp at c b;subst c;subst b;show bindL a ((pq p w)::P.zip vs) m p=_;unfold bindL;rw[yr λv f=>(agv.mp d).1 (ag1 f).1,if_pos e];simp
 |p::P,w::vs,i+1,m,d,c,b,e=>by
  show bindL a ((pq p w)::P.zip vs) m x=_;unfold bindL;exact yW (i:=i) (agv.mp d).2 (by simpa using c) (by simpa using b) e
theorem yj{a:Str->Option NameKind}{x:Str}{v:Value}:∀{P:List Str}{vs:List Value}{i:Nat}{m:Str->Option Value},P.Nodup->P[i]?=some x->vs[i]?=some v->a x≠some .local ->
  bindC a (P.zip vs) m x=some v
 |[],_,_,_,_,h,_,_=>by simp at h
 |_::_,[],_,_,_,_,h,_=>by simp at h
 |p::P,w::vs,0,m,d,c,b,e=>by
  simp at c b;subst c;subst b;show bindC a ((pq p w)::P.zip vs) m p=_;unfold bindC;rw[yE λv f=>(agv.mp d).1 (ag1 f).1,if_neg e];simp
 |p::P,w::vs,i+1,m,d,c,b,e=>by
  show bindC a ((pq p w)::P.zip vs) m x=_;unfold bindC;exact yj (i:=i) (agv.mp d).2 (by simpa using c) (by simpa using b) e
def start(N:List Str)(vs:List V):St:=vs.map some++aai (N.length-vs.length) none
def zu(CX:WP)(P:Program)(w:World)(K:PySem.W.Frag)(i:Str->Option Value)(base:Heap)(N:List Str)(c:Str)(a:Scope)(f:Addr)(g:Value)(A:Around)(b:List Env)(s:Shared)(H:Hp)(E:XK):Cx where
 prog:=P
 w:=w
 K:=K
 mg:=i
 base:=base
 A:=A.deeper (envOfC c a s.heap.objs.size f g)
 N:=N
 s₀:=s
 H₀:=H
 env:=envOfC c a s.heap.objs.size f g
 outer:=b
 stack:=envOfC c a s.heap.objs.size f g::b
 ex:=[]
 calm:=true
 fn:=λ_=>true
 pn:=[]
 xe:=λe h=>wpAny (model P w) (A.deeper (envOfC c a s.heap.objs.size f g)) (leaving (envOfC c a s.heap.objs.size f g) e) (λ_ d=>CX b H s E e d) (λj d=>CX b H s E j d) h
theorem Dn{n:Nat}{x:Str}(h:scope.names.lookup x=some .cell):∃c,(cellsFrom n scope.names []).lookup x=some c:=by
 have q:=PySem.W.cellsFrom_some scope.names n [] (.inl h);exact aif.mp q
theorem Jd{CX:WP}{P:Program}{w:World}{K:PySem.W.Frag}{base:Heap}{N ps:List Str}{f:Addr}{A:Around}{s :Shared}{E:XK}{vs:List V}
  (S:aJ N ps scope)(hd:A.handled=none)(g:QD P w K mg base A outer s H)(M:vs.length=ps.length)(r:Vals vs j)
  (x:InCallC s s.heap.objs.size (bindL (envOfC qual scope s.heap.objs.size f cd).kindOf (ps.zip j) λ_=>none) (cellsFrom (s.heap.objs.size+1) scope.names []) (bindC (envOfC qual scope s.heap.objs.size f cd).kindOf (ps.zip j) λ_=>none) s0):
  Inv (zu CX P w K mg base N qual scope f cd A outer s H E) [] (start N vs) H s0:=by
 have J:ps.length<=N.length:=by have:=congrArg ag9 S.pre;rw[aam]at this;lia
 obtain⟨B,L,rfl,F⟩:=x.done;have C:∀b:Addr,b∉(zu CX P w K mg base N qual scope f cd A outer s H E).ex:=λb z=>absurd (show b∈([]:List Addr)from z) (by simp);refine((g.mod,S.kind,7,7,aae _,λy z c B d=>?_,λy l=>?_,λy c _ h=>?_,λ_=>hd,Around.frames_deeper g.frames,.inr (7,7),λb z=>absurd z (C b),g.bs,g.W4,λb _ _=>C b,λb z=>absurd z (C b),g.funs,g.XD),
  rfl,g.bare,Un.kept F,(_,x.toInCall.ns,λi y v B d O=>?_),λy c h=>(_,x.cell y c h),g.hok.fresh (aae _),λy c h=>?_,λp m=>absurd (show p∈([]:List (Addr×Obj))from m) (by simp),g.hok.kept F,1)
 ·exact name_of_addr x.apart (PySem.mem_of_lookup B) (PySem.mem_of_lookup d)
 ·have l:scope.names.lookup y=some .cell\/scope.names.lookup y=some .free:=l;rcases l with l|l
  ·exact Dn l
  ·exact absurd rfl (S.nofree _ (PySem.mem_of_lookup l))
 ·exact agW (x.above y c (PySem.mem_of_lookup h))
 ·have t:i<vs.length:=by
   unfold start at d;by_cases t:i<vs.length
   ·exact t
   ·rw[afH (by simpa using t)]at d;rw[aha]at d;split at d<;>cases d
  have I:vs[i]?=some v:=by
   unfold start at d;rw[afI (by simpa using t),aak]at d;cases e:vs[i]? with
   |none=>rw[e]at d;cases d
   |some a=>rw[e]at d;cases d;rfl
  obtain⟨u,D,G⟩:=r.get I;have m:ps[i]?=some y:=by
   rw[<-S.pre,af2 ⋯];exact B
  have o:ps.Nodup:=by rw[<-S.pre];exact S.nd.sublist (ahM _ _)
  exists u,G;rcases S.par y (aar m)with k|k
  ·exact .inl (k,yW o m D k)
  ·obtain⟨c,e⟩:=Dn (n:=s.heap.objs.size+1) k;refine .inr (.inl k,c,e,1);have q:=x.cell y c e;rw[yj o m D (by show scope.names.lookup y≠_;rw[k];decide)]at q;exact q
 ·exact g.hok.fresh (agW (x.above y c (PySem.mem_of_lookup h)))
 ·unfold start;show _=N.length;rw[aab,aaa,aaw];lia
theorem Ld{CX:WP}{P:Program}{w:World}{K:PySem.W.Frag}{base:Heap}{k:Nat}{f:Addr}{name :Str}{d:Arguments}{g:List Stmt}{kV C T c U oc:Value}{X od:Option Addr}
  {L:Array (Option Value)}{N ps:List Str}{sp:Sp}(lk:K.lookup f=some (oc,od,.func (PySem.W.fnOf name qual d g scope cd kV C T X c U),L))(O:PySem.W.codeIn K c qual=true)(S:aJ N ps scope)
  (p:∀vs H Q E,sp vs H Q E->vs.length=ps.length)
  (j:∀(A:Around) (a:List Env) (s:Shared) (H:Hp) (vs:List V) (Q:VK) (E:XK),jj k (A.deeper (envOfC qual scope s.heap.objs.size f c))->sp vs H Q E ->
   ∃t,Wu (zu CX P w K mg base N qual scope f c A a s H E) g t/\t {nx:=λ_ H'=>Q .non H',rt:=Q} (start N vs) H):
  bI P w K mg base CX (k+1) f (PySem.W.fnOf name qual d g scope cd kV C T X c U) ps sp:=by
 refine(p,λA a s H Z us vs Q E G m hb r z=>?_);have hl:=p _ _ _ _ z;have Y:K.In s.heap:=m.mod.Yx.keeps λb o e=>(m.bs b o e).1;have M:s.heap.NoLimit:=m.mod.nolimit.keeps λb o e=>(m.bs b o e).1;have i:∀y∈ps.zip us,scope.names.lookup y.1=some .local\/(scope.names.lookup y.1=some .cell/\((cellsFrom (s.heap.objs.size+1) scope.names []).lookup y.1).isSome=true):=λ⟨n,v⟩ hy=>by
  rcases S.par n (ag1 hy).1 with q|q
  ·exact .inl q
  ·exact .inr (q,PySem.W.cellsFrom_some _ _ _ (.inl q))
 refine codeAny_call_function G.depth (Y _ _ lk) rfl S.co S.gen rfl (PySem.W.codeRec_of Y O) (hb _ _ _ _ ?_);refine wpAny_newFunctionEnv_cells S.kind i λa0 he R x=>?_;subst he;refine(M.keeps x.toInCall.keep,codeAny_func ?_);obtain⟨t,ht,hq⟩:=j A a s H vs Q E (G.deeper _) z;have I:Inv (zu CX P w K mg base N qual scope f c A a s H E) [] (start N vs) H R:=Jd S G.hd m hl r x;refine wpAny_mono (ht [] R (start N vs) H _ I hq) (λfl D l=>?_) λe D l=>l;have B:∀{h:St}{H':Hp}{v:V}{u:Value},Inv (zu CX P w K mg base N qual scope f c A a s H E) [] h H' D->RelV v u->Q v H'->CE a P w H s Q u D:=
  λ{h H' v u} J F q=>(v,H',J.os,J.bare,J.base,J.hok,F,q)
 cases fl with
 |ret u=>
  obtain⟨v,h,H',J,F,q⟩:=l;exact B J F q
 |next=>
  obtain⟨h,H',J,q⟩:=l;exact B (v:=V.non) (u:=Value.none) J rfl q
 |brk=>
  obtain⟨_,_,_,q⟩:=l;exact False.elim q
 |cont=>
  obtain⟨_,_,_,q⟩:=l;exact False.elim q
section
variable{x:Str}{pos:Pos}{id T:String}{r:List V->Hp->VK->Prop}
def TQ(r:List V->Hp->VK->Prop)(Q:VK):List V->Hp->Prop:=λa b=>r a b Q
def tCB(r:List V->Hp->VK->Prop)(t:TA):TE:=λ a H Q=>t a H (TQ r Q)
theorem aF(u:eE X (.builtin id) r)(o:Gl X x)(n:X.mg x=none)(l:bootBuiltins x=some (.builtin id))(v:PA X (e::es) t)(m:x ≠ "__name__":=by decide)(b:(x==("__debug__" : Str))=false:=by decide)
  (q:starEach (e::es) X.env=(pq false (eval e X.env))::starEach es X.env:=by rfl)(a:(backTo pos (starEach es X.env)).any (·.1)=false:=by rfl):PE X (.Call (.Name x p) (e::es) [] pos) (tCB r t):=by
 intro d s c H Q I h;refine wpAny_Call_Name_kw (gf I o n l ?_ m b);exact PyProof.Rows.callWith_builtin1 (VL (v pos d s c H _ I h) λg i ⟨f,y,w,j,k⟩=>u d i c y f g Q w j k) q a
theorem dg(u:eE X (.type T) r)(o:Gl X x)(n:X.mg x=none)(l:bootBuiltins x=some (.type T))(v:PA X (e::es) t)(m:x ≠ "__name__":=by decide)(b:(x==("__debug__" : Str))=false:=by decide)
  (q:starEach (e::es) X.env=(pq false (eval e X.env))::starEach es X.env:=by rfl)(a:(backTo pos (starEach es X.env)).any (·.1)=false:=by rfl):PE X (.Call (.Name x p) (e::es) [] pos) (tCB r t):=by
 intro d s c H Q I h;refine wpAny_Call_Name_kw (gf I o n l ?_ m b);exact PyProof.Rows.callWith_type1 (VL (v pos d s c H _ I h) λg i ⟨f,y,w,j,k⟩=>u d i c y f g Q w j k) q a
end
end L2
section
open PySem L2
variable{s s0:Shared}{A:Around}{E:Value->Shared->Prop}{prog:Program}{π:List (Addr×Obj)}{K:PySem.W.Frag}{base h' h:Heap}{a f C x S dx:Addr}{e tg o b:Expr}{mg:Str->Option Value}{outer:List Env}{es:List Expr}{scope:Scope}{N:List Str}{qual:Str}{cd:Value}{p apos:Pos}{c:List Int}{d y:Nat}{g:Array Keyed}{i:Int}{j:List Value}{l:List Addr}{n:List (Str×Addr)}{r:List (Str×Nat)}{u:World}{z:Value->Addr->Result->Shared->Prop}{B:FuncData}{D:SortSt}{G:Array Value}{I:Type}{J:SetTable}{M:Option Value->Shared->Prop}{O:List (Int×Value)}{Q:Option Nat->SortSt->Prop}{U:Array (Int×Value)}{Z:Array (Nat×Nat×Nat)}{X:Cx}{H H0 H':Hp}{σ:St}{ta tb te:TE}{t:TA}{m:Addr->Hp->Prop}{q:List V}{L:TT}{R:Ends}{T:List (List Key×V)}{Y:List (List Key×Addr×Value)}
namespace HT
open PyProof.Rows
section
open PySem.SeqAt
open PySem.AutoSeq1 (wpAny_loadPart')
open PySem.MeetsSeq PySem.MeetsSeq2 PySem.MeetsSeq3
end
section
variable{w:World}
def VP(n d:Nat):Option Int->Nat
 |none=>d
 |some v=>if v<0 then (v+(n:Int)).toNat else min v.toNat n
theorem pW(n d:Nat):VP n d none=d:=rfl
theorem iM(n d k:Nat):VP n d (some (k:Int))=min k n:=by
 show (if (k:Int)<0 then ((k:Int)+(n:Int)).toNat else min (k:Int).toNat n)=min k n;rw[if_neg ⋯,aav]
theorem Ny(n d:Nat)(hd:d<=n)(o:Option Int):VP n d o<=n:=by
 cases o with
 |none=>exact hd
 |some v=>
  show (if v<0 then (v+(n:Int)).toNat else min v.toNat n)<=n;by_cases a:v<0
  ·rw[if_pos a];lia
  ·rw[if_neg a];exact Nat.min_le_right _ _
theorem G6(v:Int)(n d:Nat):(if v<0 then max (v+(n:Int)) 0 else min v (n:Int))=((VP n d (some v):Nat):Int):=by
 show (if v<0 then max (v+(n:Int)) 0 else min v (n:Int))=(((if v<0 then (v+(n:Int)).toNat else min v.toNat n):Nat):Int);by_cases a:v<0
 ·simp only[if_pos a];lia
 ·simp only[if_neg a];lia
theorem Gy(lo a:Option Int)(n:Nat):Builtin.Slice.sliceAdjust lo a 1 (n:Int)=(pq (((VP n 0 lo:Nat):Int)) (((VP n n a:Nat):Int))):=by
 have b:¬((1:Int)<0):=by lia
 unfold Builtin.Slice.sliceAdjust;simp only[b,if_false];refine ajz ?_ ?_
 ·cases lo with
  |none=>rfl
  |some v=>exact G6 v n 0
 ·cases a with
  |none=>rfl
  |some v=>exact G6 v n n
theorem Ez(i j:Nat):Builtin.Slice.slicePlaces (i:Int) (j:Int) 1=j-i:=by
 unfold Builtin.Slice.slicePlaces;have a:(1:Int) > 0:=by lia
 simp only[a,if_true,ahD];split<;>lia
theorem wu{v:Value}{o:Option Int}{Q:Option Int->Shared->Prop}(p:IsPart v o)(h:Q o s):wpAny (model prog w) A (Builtin.Slice.slicePartIndex v) Q E s:=by
 cases p with
 |none=>exact slicePart_none h
 |int i t=>exact slicePart_int h
theorem rJ{e:Value}{lo b:Option Int}{n:Nat}{Q:Int×Int×Nat->Shared->Prop}(i:s.heap.IsSliceOf a cd e .none)(g:IsPart cd lo)(f:IsPart e b)
  (h:Q (pq (((VP n 0 lo:Nat):Int)) (pq 1 (VP n n b-VP n 0 lo))) s):wpAny (model prog w) A (Builtin.Slice.sliceApplied (.ref a) (pure (n:Int))) Q E s:=by
 obtain⟨k,c,j,d⟩:=id i;unfold Builtin.Slice.sliceApplied Builtin.Slice.sliceFields;refine wpAny_bind (wpAny_bind (wpAny_field c d (x:=cd) rfl (wpAny_bind (wpAny_field c d (x:=e) rfl (wpAny_bind (wpAny_field c d (x:=.none) rfl (wpAny_pure ?_)))))));refine wpAny_bind (slicePart_none ?_);show wpAny _ _ (if ((1:Int)==0)=true then _ else _) _ _ s;rw[if_neg ∅];refine wpAny_bind (wu g (wpAny_bind (wu f (wpAny_bind (wpAny_pure ?_)))));show wpAny _ _ (match Builtin.Slice.sliceAdjust lo b 1 (n:Int)with | (lo,b)=>pure (pq lo (pq ((1:Int)) (Builtin.Slice.slicePlaces lo b 1)))) _ _ s;rw[Gy lo b n];show wpAny _ _ (pure (pq (((VP n 0 lo:Nat):Int)) (pq ((1:Int)) (Builtin.Slice.slicePlaces ((VP n 0 lo:Nat):Int) ((VP n n b:Nat):Int) 1)))) _ _ s;rw[Ez];exact wpAny_pure h
theorem Lk(xs:Array Value)(i k:Nat):((abS k).filterMap λ(m:Nat)=>xs[((i:Int)+(m:Int)*1).toNat]?).toArray=((xs.toList.drop i).take k).toArray:=by
 have e:(λ(m:Nat)=>xs[((i:Int)+(m:Int)*1).toNat]?)=λm=>xs[i+m]?:=by
  funext m;have:((i:Int)+(m:Int)*1).toNat=i+m:=by lia
  rw[this]
 rw[e];have:=pick_run xs i k;rw[List.filterMap_map]at this;have a:((λx=>xs[x]?) ∘ λx=>i+x)=λm=>xs[i+m]?:=rfl;rw[a]at this;rw[this]
theorem pU{t :Addr}{i:Value}{lo c:Option Int}{Q:Value->Shared->Prop}(ht:IsTup s.heap t G)(j:s.heap.IsSliceOf a cd i .none)(l:IsPart cd lo)(k:IsPart i c)
  (o:¬(VP G.size 0 lo=0/\VP G.size G.size c=G.size))
  (h:Q (.ref s.heap.objs.size) {s with heap:=s.heap.push {cls:=.type "tuple",data:=.seq ((G.toList.drop (VP G.size 0 lo)).take (VP G.size G.size c-VP G.size 0 lo)).toArray}})
  (hsz:G.size<=sizeLine):wpAny (model prog w) A (getItem (.ref t) (.ref a)) Q E s:=by
 have b:sizeOk (.seq ((G.toList.drop (VP G.size 0 lo)).take (VP G.size G.size c-VP G.size 0 lo)).toArray):=by
  show ((G.toList.drop (VP G.size 0 lo)).take (VP G.size G.size c-VP G.size 0 lo)).toArray.size<=sizeLine;rw[aaT,aam,aaq,aag];lia
 have v:VP G.size G.size c<=G.size:=Ny _ _ (aae _) c;obtain⟨n,d,f,p⟩:=id j
 have g:s.TypeIs (.ref a) "slice":=(n,d,f)
 unfold getItem
 try with_reducible refine wpAny_holding ?_
 first|refine wpAny_bind (wpAny_pure ?_) | skip
 refine wpAny_bind (wpAny_sequenceKey ht.typeIs ∅ ?_)
 refine wpAny_bind (wpAny_callSpecial?_slot (name:=Str.ofString "__getitem__") ht.typeIs PyProof.Rows.slot_tuple_getitem
  (wpAny_call_entry PyProof.Rows.slot_tuple_getitem ht.typeIs entry_tuple_getitem ?_ (args_tuple_getitem _ _)))
 show wpAny _ _ (Builtin.Tuple.tupleItemsOf (.ref t) >>= _) _ _ s;refine wpAny_bind (tupleItemsOf_ ht ?_);refine wpAny_bind (wpAny_typeOf g ?_);rw[if_pos ∅];refine wpAny_bind (rJ j l k ?_);have e:¬((((VP G.size 0 lo:Nat):Int)==0&&(1:Int)==1&&(VP G.size G.size c-VP G.size 0 lo)==G.size)=true):=by
  intro q;rw[ahA,ahA]at q;have u:((VP G.size 0 lo:Nat):Int)=0:=eq_of_beq q.1.1;have r:VP G.size G.size c-VP G.size 0 lo=G.size:=eq_of_beq q.2;exact o (6,6)
 show wpAny _ _ (if (((VP G.size 0 lo:Nat):Int)==0&&(1:Int)==1&&(VP G.size G.size c-VP G.size 0 lo)==G.size)=true then _ else _) _ _ s;rw[if_neg e,Lk]
 first
  | exact wpAny_bind (m:=Builtin.Tuple.tupleExact _) (wpAny_newObj_type (wpAny_pure (9,wpAny_pure h)) b)
  | exact wpAny_bind (m:=Builtin.Tuple.tupleExact _) (wpAny_newObj_type (wpAny_bind (wpAny_pure (wpAny_pure (9,wpAny_pure h)))) b)
  | exact wpAny_bind (wpAny_bind (m:=Builtin.Tuple.tupleExact _) (wpAny_newObj_type (wpAny_pure (wpAny_pure (9,wpAny_pure h))) b))
  | exact wpAny_bind (wpAny_bind (m:=Builtin.Tuple.tupleExact _) (wpAny_newObj_type (wpAny_pure (9,wpAny_pure h)) b))
end
end HT
namespace L2
open PySem.Spec PyProof.Rows
abbrev TO:=St->Hp->(Option Int->Hp->Prop)->Prop
def PO(X:Cx)(e:Option Expr)(t:TO):Prop:=
 ∀(b:List (Addr×Obj)) (s:Shared) (a:St) (H:Hp) (Q:Option Int->Hp->Prop),Inv X b a H s->t a H Q ->
  wpAny (model X.prog X.w) X.A (evalPart e X.env) (λu d=>∃o c,Inv X b a c d/\IsPart u o/\Q o c) X.xe s
def ut:TO:=λ_ H Q=>Q none H
inductive QW(Q:Option Int->Hp->Prop)(x:V)(H1:Hp):Prop
 | mk (i:_) (_:x=.int i) (_:Q (some i) H1)
def ym(t:TE):TO:=λ a H Q=>t a H (QW Q)
theorem intsAre_of{ns:List Int}:∀{a:List Value},Vals ‹ns› a->IntsAre a ns:=by
 induction ns with
 |nil=>intro a r;rw[ahP]at r;cases r;exact .nil
 |cons n ns d=>
  intro a r;rw[aax]at r;cases r with
  |cons c b=>
   obtain⟨t,e⟩:=c;subst e;exact .cons n t (d b)
section
variable{lo hi:Option Expr}{tl th:TO}{pos p2:Pos}
theorem bz:PO X none ut:=by
 intro b s a H Q I h;rw[evalPart_none];exact wpAny_pure (none,H,I,.none,h)
theorem aR(h:PE X e te):PO X (some e) (ym te):=by
 intro b s a H Q I f;rw[evalPart_some];refine VL (h b s a H _ I f) λu k ⟨x,j,g,c,d⟩=>?_;obtain⟨i,rfl,q⟩:=d;obtain⟨t,rfl⟩:=c;exact(some i,j,g,.int i t,q)
def Zu(X:Cx)(r:V->Option Int->Option Int->Hp->VK->Prop):Prop:=
 ∀(b:List (Addr×Obj)) (s:Shared) (a:St) (H:Hp) (x:V) (v d c:Value) (lo hi:Option Int) (f:Addr) (Q:VK),Inv X b a H s->RelV x v->s.heap.IsSliceOf f d c .none->IsPart d lo->IsPart c hi->r x lo hi H Q ->
  ∃T g,typeLookup (.type T) "__getitem__" = pure (some (.builtin g))/\s.TypeIs v T/\wpAny (model X.prog X.w) X.A (getItem v (.ref f)) (EP X b a Q) X.xe s
def R3(r:V->Option Int->Option Int->Hp->VK->Prop)(Q:VK)(x:V)(l:Option Int):Option Int->Hp->Prop:=λu a=>r x l u a Q
def Rz(r:V->Option Int->Option Int->Hp->VK->Prop)(th:TO)(σ:St)(Q:VK)(x:V):Option Int->Hp->Prop:=λl a=>th σ a (R3 r Q x l)
def R4(r:V->Option Int->Option Int->Hp->VK->Prop)(tl:TO)(th:TO)(σ:St)(Q:VK):VK:=λx a=>tl σ a (Rz r th σ Q x)
def Zv(r:V->Option Int->Option Int->Hp->VK->Prop)(te:TE)(tl th:TO):TE:=λ a H Q=>te a H (R4 r tl th a Q)
theorem aQ{r:V->Option Int->Option Int->Hp->VK->Prop}(B:Zu X r)(E:PE X e te)(C:PO X lo tl)(z:PO X hi th):PE X (.Subscript e (.Slice lo hi none p2) pos) (Zv r te tl th):=by
 intro d s c H Q I h;refine Subscript_ (VL (E d s c H _ I h) λv k ⟨x,N,L,m,p⟩=>?_);refine wpAny_Slice (VL (C d k c N _ L p) λg j ⟨l,M,K,y,o⟩=>VL (z d j c M _ K o) λf a ⟨u,i,J,t,n⟩=>?_);rw[evalPart_none];refine wpAny_pure ?_
 have G:Inv X d c i {a with heap:=a.heap.push {cls:=.type "slice",data:=.fields #[g,f,.none]}}:=J.kept (t':=a.toks) λb O q=>Heap.get?_push_of_some _ q
 obtain⟨T,P,F,ht,D⟩:=B d {a with heap:=a.heap.push {cls:=.type "slice",data:=.fields #[g,f,.none]}} c i x v g f l u a.heap.objs.size Q G m (Heap.IsSliceOf.new ..) y t n
 show wpAny (model X.prog X.w) X.A (subscriptTail e (.Slice lo hi none p2) v (.ref a.heap.objs.size)) (EP X d c Q) X.xe {a with heap:=a.heap.push {cls:=.type "slice",data:=.fields #[g,f,.none]}}
 exact tail_any (ops:=[.ref a.heap.objs.size,v]) ht F D (by with_unfolding_all rfl)
def fc(xs:List V)(lo hi:Option Int):List V:=(xs.drop (HT.VP xs.length 0 lo)).take (HT.VP xs.length xs.length hi-HT.VP xs.length 0 lo)
theorem sV(xs:List V)(lo hi:Option Int):(fc xs lo hi).length<=xs.length:=by
 unfold fc;rw[aam,aaq];lia
inductive Vr(K:PySem.W.Frag)(x:V)(lo:Option Int)(hi:Option Int)(H:Hp)(Q:VK):Prop
 | mk (a xs:_) (_:x=.ref a) (_:VM K H a xs) (_:¬(HT.VP xs.length 0 lo=0/\HT.VP xs.length xs.length hi=xs.length)) (_:∀p,H p=none->Q (.ref p) (upd H p (.tup (fc xs lo hi))))
theorem S5:Zu X (Vr X.K):=by
 intro t s p H x v w u lo hi y Q I i n k j h;obtain⟨a,d,rfl,l,m,q⟩:=h;cases i;obtain⟨f,r,ht,g⟩:=I.tuple l;have c:f.toArray.size=d.length:=by rw[aaT];exact r.length.symm
 exists "tuple",_,PyProof.Rows.slot_tuple_getitem.lookup,ht.typeIs
 refine HT.pU ht n k j (by rw[c];exact m) ?_ (by rw[c];exact g);rw[c];refine(.ref s.heap.objs.size,_,I.laid (t':=s.toks) (o:=.tup (fc d lo hi)) (λb z q=>Heap.get?_push_of_some _ q) (aae _) ?_,7,q _ (I.hok.fresh (aae _)));exact(agd (sV d lo hi) g,_,(r.drop (HT.VP d.length 0 lo)).take (HT.VP d.length d.length hi-HT.VP d.length 0 lo),IsTup.new _ _)
end
def Xa(n:Nat)(i:Int):Option Nat:=if 0<=i then (if i<n then some i.toNat else none)else if -(n:Int)<=i then some (i+n).toNat else none
def Ws{a:Type}(xs:List a)(i:Int):Option a:=(Xa xs.length i).bind λj=>xs[j]?
theorem G5{n:Nat}{i:Int}{j:Nat}(h:Xa n i=some j):seqIndex? i n=some j/\j<n /\ -(n:Int)<=i/\i<n:=by
 unfold Xa at h;by_cases b:0<=i
 ·rw[if_pos b]at h;by_cases a:i<n
  ·rw[if_pos a]at h;have e:i.toNat=j:=afE h;exact(by rw[seqIndex_of b a,e],6,6,a)
  ·rw[if_neg a]at h;cases h
 ·rw[if_neg b]at h;by_cases a : -(n:Int)<=i
  ·rw[if_pos a]at h;have e:(i+n).toNat=j:=afE h;exact(by rw[seqIndex_neg ⋯ a,e],6,a,6)
  ·rw[if_neg a]at h;cases h
theorem zV{xs:List I}{i:Int}{v:I}(h:Ws xs i=some v):∃j,seqIndex? i xs.length=some j/\xs[j]?=some v/\j<xs.length /\ -(xs.length:Int)<=i/\i<xs.length:=by
 unfold Ws at h;cases e:Xa xs.length i with
 |none=>rw[e]at h;cases h
 |some j=>
  rw[e]at h;obtain⟨d,c,b,a⟩:=G5 e;exact(j,d,h,c,b,a)
theorem jD{xs:List I}{j:Nat}{v:I}(h:xs[j]?=some v):Ws xs (j:Int)=some v:=by
 have a:j<xs.length:=(aad.mp h).1;have e:Xa xs.length (j:Int)=some j:=by
  unfold Xa;rw[if_pos ⋯,if_pos ⋯];simp
 unfold Ws;rw[e];exact h
theorem mX(xs:List I)(v:I):Ws (xs++[v]) (-1)=some v:=by
 have a:(xs++[v]).length=xs.length+1:=by simp
 have e:Xa (xs++[v]).length (-1)=some xs.length:=by
  unfold Xa;rw[a,if_neg ∅,if_pos ⋯];congr 1;lia
 unfold Ws;rw[e];show (xs++[v])[xs.length]?=some v;simp
def Qy(b:Expr):Prop:=∀o i,subscripted b false o i=operate [o,i] (getItem o i)
def IxR(X:Cx)(r:R2):Prop:=
 ∀(b a:Expr) (d:List (Addr×Obj)) (s:Shared) (c:St) (H:Hp) (x y:V) (v u:Value) (Q:VK),Inv X d c H s->RelV x v->RelV y u->r x y H Q ->
  subscripted a false v u=operate [v,u] (getItem v u)->wpAny (model X.prog X.w) X.A (subscriptTail b a v u) (EP X d c Q) X.xe s
def Zw(X:Cx)(id:String)(r:V->List V->Hp->VK->Prop):Prop:=
 ∀(b:List (Addr×Obj)) (s:Shared) (a:St) (H:Hp) (x:V) (c:List V) (v:Value) (d:List Value) (Q:VK),Inv X b a H s->RelV x v->Vals c d->r x c H Q ->
  wpAny (model X.prog X.w) X.A (call (.builtin id) (v::d)) (EP X b a Q) X.xe s
section
variable{a:Expr}{pos:Pos}
theorem bN{r:R2}(j:IxR X r)(l:PE X a ta)(k:PE X b tb)(i:Qy b:=by exact λ_ _=>rfl):PE X (.Subscript a b pos) (W9 r ta tb):=by
 intro d s c H Q I h;exact Subscript_ (Su l k I h λv u e x y n m g f q=>j a b d e c n x y v u Q m g f q (i _ _))
inductive Uj(K:PySem.W.Frag)(x:V)(y:V)(H:Hp)(Q:VK):Prop
 | mk (p xs i v:_) (_:x=.ref p) (_:y=.int i) (_:My K H p xs) (_:Ws xs i=some v) (_:Q v H)
inductive Vw(K:PySem.W.Frag)(x:V)(y:V)(H:Hp)(Q:VK):Prop
 | mk (p xs i v:_) (_:x=.ref p) (_:y=.int i) (_:VM K H p xs) (_:Ws xs i=some v) (_:Q v H)
inductive Vm(x:V)(y:V)(H:Hp)(Q:VK):Prop
 | mk (z i c:_) (_:x=.str z) (_:y=.int i) (_:z.length<=sizeLine) (_:Ws z.cps.toList i=some c) (_:Q (.str ⟨#[c]⟩) H)
theorem dM:IxR X (Uj X.K):=by
 intro k l n s m H x y v u Q I E D h o;obtain⟨p,P,i,z,rfl,rfl,F,J,q⟩:=h;cases E;obtain⟨t,rfl⟩:=D;obtain⟨g,r,e,R⟩:=I.list F;obtain⟨j,d,N,T,M,L⟩:=zV J;obtain⟨w,B,O⟩:=r.get N;have G:=r.length;have S:=rm;have c:EP X n m Q w s:=(z,H,I,O,q);by_cases A:0<=i
 ·have f:i.toNat=j:=by
   rw[seqIndex_of A L]at d;exact afE d
  exact item_listR e.isList A ⋯ (by rw[f];simpa using B) c o
 ·have f:(i+(g.toArray.size:Int)).toNat=j:=by
   rw[seqIndex_neg ⋯ M]at d;rw[aaT,<-G];exact afE d
  exact subscriptTail_builtinR (x:=w) e.isList.typeIs slot_list_getitem.lookup
   (wpAny_getItem_list_neg (Q:=λr C=>r=w/\EP X n m Q r C) e.isList ⋯ (by rw[aaT]<;>lia) ⋯ (by rw[f];simpa using B) (7,c)) o
theorem cD:IxR X (Vw X.K):=by
 intro d e g s f H x y v u Q I n m h o;obtain⟨p,L,i,z,rfl,rfl,A,C,q⟩:=h;cases n;obtain⟨t,rfl⟩:=m;obtain⟨J,r,k,M⟩:=I.tuple A;obtain⟨j,E,D,R,P,O⟩:=zV C;obtain⟨w,F,G⟩:=r.get D;have B:=r.length;have N:=rm;have c:EP X g f Q w s:=(z,H,I,G,q);exact subscriptTail_builtinR (x:=w) k.typeIs slot_tuple_getitem.lookup
  (getItem_tuple (j:=j) (Q:=λr l=>r=w/\EP X g f Q r l) k ⋯ ⋯ (by rw[aaT,<-B];exact E) (by simpa using F) (7,c)) o
theorem vU:IxR X Vm:=by
 intro d e C s B H x y v u Q I k g h l;obtain⟨z,i,c,rfl,rfl,E,n,q⟩:=h;obtain⟨t,rfl⟩:=k;obtain⟨D,rfl⟩:=g;obtain⟨j,f,r,G,p,o⟩:=zV n;have m:z.cps.toList.length=z.length:=by simp[Str.length]
 rw[m]at f p o;have F:=rm;exact tail_any (typeIs_str s z t) slot_str_getitem.lookup (getItem_str (c:=c) (by
  have A:decide (i < -(2^63:Int))=false:=decide_eq_false ⋯;have w:decide (i >= 2^63)=false:=decide_eq_false ⋯;rw[A,w,Bool.or_false]) (by rw[f];simpa using r) (.str ⟨#[c]⟩,H,I.tok _,3,q)) l
theorem FZ(c:List Value)(n j:Nat)(u:Value):Obj.mapSeq (·.setIfInBounds j u) {cls:=.type "list",data:=.seq c.toArray n}={cls:=.type "list",data:=.seq (c.set j u).toArray n}:=by
 simp[Obj.mapSeq]
theorem Inv.lst{σ:St}{s:Shared}{p:Addr}{xs:List V}(I:Inv X π σ H s)(h:H p=some (.lst xs)):
  ∃(c:List Value) (n:Nat),Vals xs c/\s.heap.get? p=some {cls:=.type "list",data:=.seq c.toArray n}/\xs.length<=sizeLine:=by
 obtain⟨z,c,n,r,e⟩:=I.hok p _ h;exact(c,n,r,e,z)
theorem Inv.lstUpd{σ:St}{s:Shared}{p:Addr}{xs ys:List V}{its':List Value}{n :Nat}{f:Obj->Obj}(I:Inv X π σ H s)(h:H p=some (.lst xs))
  (g:s.heap.get? p=some {cls:=.type "list",data:=.seq j.toArray n})(c:f {cls:=.type "list",data:=.seq j.toArray n}={cls:=.type "list",data:=.seq its'.toArray d})(r:Vals ys its')(hz:ys.length<=sizeLine)(t:Nat):
  Inv X π σ (upd H p (.lst ys)) {s with heap:=s.heap.update p f,toks:=t}:=by
 have e:(s.heap.update p f).get? p=some {cls:=.type "list",data:=.seq its'.toArray d}:=by
  rw[Heap.get?_update_self f g (by rw[c]<;>rfl),c]
 refine I.write (x:=p) (e:=p) (by rw[h];trivial) (.inl rfl) (λb u i q=>(Heap.get?_update_other _ _ (agB i)).trans q) (_,e) ?_;exact(hz,its',d,r,e)
inductive Uw(o:V)(i:V)(v:V)(H:Hp)(Q:Hp->Prop):Prop
 | mk (p xs k j:_) (_:o=.ref p) (_:i=.int k) (_:H p=some (.lst xs)) (_:Xa xs.length k=some j) (_:Q (upd H p (.lst (xs.set j v))))
theorem set_list:Uy X Uw:=by
 intro A s z H o i v J K u Q I D E C h;obtain⟨p,B,k,j,rfl,rfl,l,G,q⟩:=h;cases D;obtain⟨t,rfl⟩:=E;obtain⟨c,n,r,e,F⟩:=I.lst l;obtain⟨d,M,w,m⟩:=G5 G;have f:=r.length;have L:=rm;have y:Inv X A z (upd H p (.lst (B.set j v))) {s with heap:=s.heap.update p (Obj.mapSeq (·.setIfInBounds j u))}:=
  I.lstUpd l e (FZ c n j u) (r.set C j) (by rw[ahZ];exact F) s.toks
 by_cases x:0<=k
 ·have g:k.toNat=j:=by
   rw[seqIndex_of x m]at d;exact afE d
  exact PySem.W.ki_setAt e x ⋯ (by rw[aaT,<-f];exact m) (by rw[g];exact(_,y,q))
 ·have g:(k+(c.toArray.size:Int)).toNat=j:=by
   rw[seqIndex_neg ⋯ w]at d;rw[aaT,<-f];exact afE d
  exact PySem.W.ki_setBack e ⋯ (by rw[aaT,<-f];exact w) ⋯ (by rw[g];exact(_,y,q))
theorem Ak(lo c:Option Int)(n:Nat):(sliceBounds lo c none n).1=((HT.VP n 0 lo:Nat):Int)/\(sliceBounds lo c none n).2.1=((HT.VP n n c:Nat):Int)/\(sliceBounds lo c none n).2.2=1:=by
 refine(1,1,7)
 ·cases lo with
  |none=>simp[sliceBounds,HT.VP]
  |some i=>
   simp only[sliceBounds,HT.VP,ai2,show (1:Int) > 0 by decide,if_true];by_cases h:i<0
   ·simp only[h,if_true]<;>lia
   ·simp only[h,if_false]<;>lia
 ·cases c with
  |none=>simp[sliceBounds,HT.VP]
  |some i=>
   simp only[sliceBounds,HT.VP,ai2,show (1:Int) > 0 by decide,if_true];by_cases h:i<0
   ·simp only[h,if_true]<;>lia
   ·simp only[h,if_false]<;>lia
theorem xO(c:List Value)(lo d:Option Int):slicePick c.toArray lo d none=((c.drop (HT.VP c.length 0 lo)).take (HT.VP c.length c.length d-HT.VP c.length 0 lo)).toArray:=by
 obtain⟨g,f,e⟩:=Ak lo d c.toArray.size;unfold slicePick;rw[g,f,e];simp only[sliceRange_one,pick_run,aaT]<;>rfl
inductive J9(K:PySem.W.Frag)(x:V)(lo:Option Int)(hi:Option Int)(H:Hp)(Q:VK):Prop
 | mk (a xs:_) (_:x=.ref a) (_:My K H a xs) (_:∀p,H p=none->Q (.ref p) (upd H p (.lst (fc xs lo hi))))
theorem bx:Zu X (J9 X.K):=by
 intro t s p H x v w u e f y Q I g m j i h;obtain⟨a,c,rfl,l,q⟩:=h;cases g;obtain⟨n,r,ht,k⟩:=I.list l;have d:=r.length
 exists "list",_,slot_list_getitem.lookup,ht.isList.typeIs
 refine wpAny_getItem_list_slice ht.isList m j i .none (by simp) ?_ (by rw[aaT]<;>lia);rw[xO,<-d];refine(.ref s.heap.objs.size,_,I.laid (t':=s.toks) (o:=.lst (fc c e f)) (λb z q=>Heap.get?_push_of_some _ q) (aae _) ?_,7,q _ (I.hok.fresh (aae _)));exact(agd (sV c e f) k,_,0,(r.drop (HT.VP c.length 0 e)).take (HT.VP c.length c.length f-HT.VP c.length 0 e),Heap.get?_push_size _ rfl)
theorem z6:Wi X (compareOp .NotIn) (λx y H Q=>∃i j,x=.str i/\y=.str j/\Q (.bl (!(!(Builtin.Str.occurrences j i 0 j.length 1).isEmpty))) H):=by
 intro f s e H x y v u Q I d c h;obtain⟨i,j,rfl,rfl,q⟩:=h;obtain⟨t,rfl⟩:=d;obtain⟨g,rfl⟩:=c;exact notIn_str (.bl _,H,I,7,q)
theorem aG:eE X (.builtin "len") (λxs H Q=>∃p ys,xs=[.ref p]/\(My X.K H p ys\/VM X.K H p ys)/\Q (.int ys.length) H):=by
 intro l s k H xs m Q I r h;obtain⟨p,ys,rfl,d,q⟩:=h;obtain⟨u,rfl,i⟩:=vals1 r;cases i;have n:=rm;rcases d with d|d
 ·obtain⟨g,e,f,j⟩:=I.list d;have c:=e.length;exact Calls.call_len_list f.isList (by simp only[aaT]<;>lia) (.int ys.length,H,I.tok _,(s.toks+1,by rw[aaT,c]),q)
 ·obtain⟨g,e,f,j⟩:=I.tuple d;have c:=e.length;exact len_tuple f (by simp only[aaT]<;>lia) (.int ys.length,H,I.tok _,(s.toks+1,by rw[aaT,c]),q)
theorem cA:eE X (.builtin "len") (λxs H Q=>∃z,xs=[.str z]/\z.length<=sizeLine/\Q (.int z.length) H):=by
 intro d s c H xs e Q I r h;obtain⟨z,rfl,f,q⟩:=h;obtain⟨u,rfl,t,rfl⟩:=vals1 r;have g:=rm;exact len_str ⋯ (.int z.length,H,I.tok _,3,q)
theorem iV:eE X (.type "list") (λxs H Q=>∃p ys,xs=[.ref p]/\(My X.K H p ys\/VM X.K H p ys) /\ ∀l,H l=none->Q (.ref l) (upd H l (.lst ys))):=by
 intro B s A H xs D Q I r h;obtain⟨p,ys,rfl,k,q⟩:=h;obtain⟨u,rfl,C⟩:=vals1 r;cases C;have m:∀(c:List Value),Vals ys c->ys.length<=sizeLine -> ∀(d:Heap) (g:Nat),(∀b z,s.heap.get? b=some z->d.get? b=some z) ->
   d.get? s.heap.objs.size=some {cls:=.type "list",dict:=none,data:=.seq c.toArray g,slots:=#[]}->EP X B A Q (.ref s.heap.objs.size) {s with heap:=d}:=λc f j d g i e=>
  (.ref s.heap.objs.size,_,I.laid (t':=s.toks) i (aae _) (show b7 X.prog X.w _ d _ (.lst ys)from (j,c,g,f,e)),7,q _ (I.hok.fresh (aae _)))
 rcases k with k|k
 ·obtain⟨c,f,v,j⟩:=I.list k;have t:=f.length;obtain⟨o,x,y,n,hd⟩:=v.isList;exact call_list_seq p (.inl rfl) x y hd (λd g i e=>m c f j d g i e) (by simp only[aaT]<;>lia)
 ·obtain⟨c,f,v,j⟩:=I.tuple k;have t:=f.length;obtain⟨o,x,y,n,hd⟩:=v;exact call_list_seq p (.inr rfl) x y hd (λd g i e=>m c f j d g i e) (by simp only[aaT]<;>lia)
theorem ig:eE X (.type "tuple") (λxs H Q=>∃p ys,xs=[.ref p]/\((My X.K H p ys /\ ∀l,H l=none->Q (.ref l) (upd H l (.tup ys)))\/(VM X.K H p ys/\Q (.ref p) H))):=by
 intro k s j H xs z Q I r h;obtain⟨p,ys,rfl,h⟩:=h;obtain⟨u,rfl,v⟩:=vals1 r;cases v;rcases h with ⟨i,q⟩|⟨i,q⟩
 ·obtain⟨c,f,g,m⟩:=I.list i;have t:=f.length;refine call_tuple_list g.isList (λd x=>?_) (by simp only[aaT]<;>lia);have n:Inv X k j H {s with heap:=d}:=I.kept (t':=s.toks) x
  have y:Inv X k j (upd H d.objs.size (.tup ys)) {s with heap:=d.push {cls:=.type "tuple",data:=.seq c.toArray}}:=
   n.laid (t':=s.toks) (λb o e=>Heap.get?_push_of_some _ e) (aae _) (show b7 X.prog X.w _ _ _ (.tup ys)from (m,c,f,IsTup.new _ _))
  exact(.ref d.objs.size,_,y,7,q _ (n.hok.fresh (aae _)))
 ·obtain⟨c,f,g,m⟩:=I.tuple i;exact call_tuple_same g (.ref p,H,I,7,q)
def tyV(K:PySem.W.Frag)(T:String)(x:V)(H:Hp):Prop:=match x with
 |.str _=>T = "str"
 |.int _=>T = "int"
 |.ref p=>(T = "list" /\ ∃d,My K H p d)\/(T = "tuple" /\ ∃o,K.lookup p=some o/\o.cls=.type "tuple" /\ o.dict=none) \/
   (T = "dict" /\ ((∃c,H p=some (.dK c)) \/ ∃c,H p=some (.dT c)))\/(T = "set" /\ ∃S n,H p=some (.set S n))
 |_=>False
theorem MF{σ:St}{s:Shared}{T:String}{x:V}{v:Value}(I:Inv X π σ H s)(r:RelV x v)(g:tyV X.K T x H):
  s.TypeIs v T /\ ∀a,v=.ref a -> ∃l,s.heap.get? a=some l/\l.dict=none:=by
 cases x with
 |str z=>
  obtain⟨t,rfl⟩:=r
  cases (show T = "str" from g)
  exact(typeIs_str s z t,λ_ e=>nomatch e)
 |int i=>
  obtain⟨t,rfl⟩:=r
  cases (show T = "int" from g)
  exact(typeIs_int s i t,λ_ e=>nomatch e)
 |ref p=>
  cases r;rcases g with ⟨rfl,w,m⟩|⟨rfl,o,d,q,hd⟩|⟨rfl,d⟩|⟨rfl,S,n,d⟩
  ·obtain⟨u,_,k,_⟩:=I.list m;refine(k.isList.typeIs,λa e=>?_);cases e;obtain⟨o,n,e,c,hd,_⟩:=k;exact(o,e,hd)
  ·refine((o,I.Wt p o d,q),λa e=>?_);cases e;exact(o,I.Wt _ o d,hd)
  ·have z:∃o,s.heap.get? p=some o/\o.ExactDict:=by
    rcases d with ⟨j,d⟩|⟨j,d⟩
    ·obtain⟨_,_,_,_,o,_,_,e,f,_⟩:=I.hok p _ d;exact(o,e,f)
    ·obtain⟨_,_,_,_,o,_,_,e,f,_⟩:=I.hok p _ d;exact(o,e,f)
   obtain⟨o,e,f⟩:=z;refine((o,e,f.1),λa h=>?_);cases h;exact(o,e,f.2.1)
  ·obtain⟨o,_,_,_,e,f,_⟩:=I.hok p _ d;refine((o,e,f.1),λa h=>?_);cases h;exact(o,e,f.2.1)
 |_=>exact False.elim g
def Q6(K:PySem.W.Frag)(T:String)(r:V->List V->Hp->VK->Prop)(Q:VK):VK:=λx c=>tyV K T x c/\r x [] c Q
def Vv(K:PySem.W.Frag)(T:String)(r:V->List V->Hp->VK->Prop)(d:TE):TE:=λ c H Q=>d c H (Q6 K T r Q)
def R7(K:PySem.W.Frag)(T:String)(r:V->List V->Hp->VK->Prop)(t:TA)(σ:St)(Q:VK):VK:=λx c=>tyV K T x c/\t σ c λd e=>r x d e Q
def tBM(K:PySem.W.Frag)(T:String)(r:V->List V->Hp->VK->Prop)(d:TE)(t:TA):TE:=λ c H Q=>d c H (R7 K T r t c Q)
variable{to:TE}{name:Str}{cpos:Pos}{T id:String}{r:V->List V->Hp->VK->Prop}
theorem Tv(q:PlainAttrs T)(f:Slot T name id)(g:typeOf (.builtin id)=pure (.type "method_descriptor"))(w:Zw X id r)(u:PE X o to)
  (d:attributeBase o name X.env (eval o X.env)=eval o X.env:=by rfl)(c:(apos.endLine==cpos.line)=true:=by rfl):PE X (.Call (.Attribute o name apos) [] [] cpos) (Vv X.K T r to):=by
 intro j s i H Q I h;refine wpAny_Call_method0_late d c (VL (u j s i H _ I h) λv n ⟨x,A,l,k,m,p⟩=>?_);obtain⟨z,y⟩:=MF l k m;exact(T,id,q,f,g,z,y,Calls.callWith_builtin rfl (PySem.evalArgs_none (w j n i A x [] v [] Q l k .nil p)))
theorem dj(D:PlainAttrs T)(g:Slot T name id)(l:typeOf (.builtin id)=pure (.type "method_descriptor"))(G:Zw X id r)(F:PE X o to)(J:PA X (e::es) t)
  (f:attributeBase o name X.env (eval o X.env)=eval o X.env:=by rfl)
  (i:((backTo cpos (starEach (e::es) X.env)).all (λx=>!x.1)&&(backToKw cpos (keywordEach [] X.env)).all (λx=>x.1.isSome)
   && decide ((e::es).length+([]:List Keyword).length+(if ([]:List Keyword).isEmpty then 0 else 1)<30))=true:=by rfl)
  (d:(apos.endLine==cpos.line)=true:=by rfl)(E:starEach (e::es) X.env=(pq false (eval e X.env))::starEach es X.env:=by rfl)(c:(backTo cpos (starEach es X.env)).any (·.1)=false:=by rfl):
  PE X (.Call (.Attribute o name apos) (e::es) [] cpos) (tBM X.K T r to t):=by
 intro k s j H Q I h;refine wpAny_Call_method_late f i d rfl (VL (F k s j H _ I h) λv z ⟨x,P,p,m,w,C⟩=>?_);obtain⟨M,L⟩:=MF p m w;exists T,id,D,g,l,M,L;have n:=J cpos k z j P _ p C;rw[E]at n ⊢;refine Calls.callWith_builtin (by show (false || (backTo cpos (starEach es X.env)).any (·.1))=false;rw[c]<;>rfl) (Calls.evalArgs_plain ?_);exact VL n λu y ⟨q,O,N,A,B⟩=>G k y j O x q v u Q N m A B
end
def MtM(X:Cx)(id:String)(r:V->List V->Hp->VK->Prop):Prop:=
 ∀(b:List (Addr×Obj)) (s:Shared) (a:St) (H:Hp) (x:V) (c:List V) (v:Value) (d:List Value) (Q:VK),Inv X b a H s->RelV x v->Vals c d->r x c H Q ->
  wpAny (model X.prog X.w) X.A (call (.builtin id) (v::d)) (EP X b a Q) X.xe s
theorem Vals.one:∀{x:V}{a:List Value},Vals [x] a -> ∃u,a=[u]/\RelV x u
 |_,_,.cons r .nil=>(9,r)
theorem Vals.reverse{xs:List V}(h:Vals xs j):Vals xs.reverse j.reverse:=by
 induction h with
 |nil=>exact .nil
 |cons r t a=>rw[aiS,aiS];exact Vals.append a (.cons r .nil)
theorem Vals.rep{xs:List V}{a:List Value}(h:Vals xs a):∀k:Nat,Vals (aai k xs).flatten (aai k a).flatten
 |0=>.nil
 |k+1=>by
  rw[afX,afX,agt,agt];exact Vals.append h (Vals.rep h k)
theorem foldl_rep(a:List Value):∀(k:Nat) (b:List Value),
  ajf (λd c=>d++c) b.toArray (aai k a.toArray)=(b++(aai k a).flatten).toArray
 |0,b=>by simp
 |k+1,b=>by
  have e:b.toArray++a.toArray=(b++a).toArray:=by simp
  have f:(b++a)++(aai k a).flatten=b++(aai (k+1) a).flatten:=by
   rw[afX,agt,aay]
  rw[<-f,<-foldl_rep a k (b++a),<-e,afX,ais]
section
variable{l b:Addr}{xs ys zs:List V}
theorem Inv.lset{its':List Value}{n:Nat}{f:Array Value->Array Value}{t':Nat}(I:Inv X π σ H s)(h:H l=some (.lst xs))
  (e:s.heap.get? l=some {cls:=.type "list",data:=.seq j.toArray n})(d:f j.toArray=its'.toArray)(a:Vals ys its')(hz:ys.length<=sizeLine):
  Inv X π σ (upd H l (.lst ys)) {s with heap:=s.heap.update l (Obj.mapSeq f),toks:=t'}:=by
 have q:=PySem.IsL.update e f;rw[d]at q;refine I.write (x:=l) (e:=l) (by rw[h];exact trivial) (.inl rfl) (λi u g c=>(Heap.get?_update_other s.heap (Obj.mapSeq f) (agB g)).trans c) (_,q) ?_;exact(hz,its',_,a,q)
theorem Inv.lnew{t':Nat}(I:Inv X π σ H s)(a:Vals ys j)(hz:ys.length<=sizeLine):
  Inv X π σ (upd H s.heap.objs.size (.lst ys)) {s with heap:=s.heap.push {cls:=.type "list",data:=.seq j.toArray},toks:=t'}:=
 I.laid (λ_ _ q=>Heap.get?_push_of_some _ q) (aae _) (hz,j,0,a,Heap.get?_push_size _ rfl)
theorem Inv.fresh(I:Inv X π σ H s):H s.heap.objs.size=none:=I.hok.fresh (aae _)
theorem Inv.lstM(I:Inv X π σ H s)(c:H l=some (.lst xs)):xs.length<=sizeLine /\ ∃(a:List Value) (n:Nat),Vals xs a/\xs.length=a.length/\s.heap.get? l=some {cls:=.type "list",data:=.seq a.toArray n}:=by
 obtain⟨z,a,n,r,e⟩:=I.hok l _ c;exact(z,a,n,r,r.length,e)
theorem BW{n:Nat}(h:n<=sizeLine):Builtin.List.listTooLong n=false:=by
 unfold Builtin.List.listTooLong;exact decide_eq_false ⋯
end
inductive QB(x:V)(vs:List V)(H:Hp)(Q:VK):Prop
 | mk (l xs y:_) (_:x=.ref l) (_:vs=[y]) (_:H l=some (.lst xs)) (_:xs.length<sizeLine) (_:Q .non (upd H l (.lst (xs++[y]))))
theorem bW:MtM X "list.append" QB:=by
 intro i s g H x k v m Q I c d h;obtain⟨l,j,y,rfl,rfl,b,o,q⟩:=h;cases c;obtain⟨u,rfl,f⟩:=d.one;obtain⟨z,a,n,r,p,e⟩:=I.lstM b;refine call_meets F.slot_list_append (_,e,7) F.entry_list_append (F.args_list_append_2 _ _) (PySem.list_append l a.toArray n u (by rw[aaT];lia)) (e,1);refine(.non,_,I.lset (its':=a++[u]) b e (by simp) (r.append (.cons f .nil)) ?_,7,q);rw[aab,agI];lia
inductive PX(x:V)(vs:List V)(H:Hp)(Q:VK):Prop
 | mk (l b xs zs:_) (_:x=.ref l) (_:vs=[.ref b]) (_:H l=some (.lst xs)) (_:H b=some (.lst zs)) (_:xs.length+zs.length<=sizeLine) (_:Q .non (upd H l (.lst (xs++zs))))
theorem dC:MtM X "list.extend" PX:=by
 intro A s y H x E v G Q I i j h;obtain⟨l,b,D,B,rfl,rfl,g,p,J,q⟩:=h;cases i;obtain⟨u,rfl,k⟩:=j.one;cases k;obtain⟨z,c,n,r,K,e⟩:=I.lstM g;obtain⟨C,a,o,m,w,t⟩:=I.lstM p;have f:c.toArray.size+a.toArray.size<=sizeLine:=by rw[aaT,aaT];lia
 have d:¬(!c.toArray.isEmpty&&Builtin.List.listTooLong (c.toArray.size+a.toArray.size))=true:=by
  rw[BW f,Bool.and_false];exact afD
 refine call_meets F.slot_list_extend (_,e,7) F.entry_list_extend (F.args_list_extend_2 _ _)
  (AutoSeq1.list_extend_list_list_0 l c.toArray n b a.toArray o d (by rw[aaT];lia) ⋯) (e,t,1)
 refine(.non,_,I.lset (its':=c++a) g e (by simp) (r.append m) ?_,7,q);rw[aab];lia
inductive U0(x:V)(y:V)(H:Hp)(Q:VK):Prop
 | mk (l b xs zs:_) (_:x=.ref l) (_:y=.ref b) (_:H l=some (.lst xs)) (_:H b=some (.lst zs)) (_:xs.length+zs.length<=sizeLine) (_:∀p,H p=none->Q (.ref p) (upd H p (.lst (xs++zs))))
theorem bB:Wi X (binaryOp .Add) U0:=by
 intro t s p H x y v u Q I f d h;obtain⟨l,b,B,w,rfl,rfl,i,j,D,q⟩:=h;cases f;cases d;obtain⟨z,c,n,r,E,e⟩:=I.lstM i;obtain⟨A,a,C,g,o,m⟩:=I.lstM j;refine PySem.P.add_list e m ?_ (by rw[aaT,aaT];lia);have k:c.toArray++a.toArray=(c++a).toArray:=by simp
 rw[k];exact(.ref _,_,I.lnew (t':=s.toks) (r.append g) (by rw[aab];lia),7,q _ I.fresh)
inductive TF(x:V)(y:V)(H:Hp)(Q:VK):Prop
 | mk (l k xs:_) (_:x=.ref l) (_:y=.int k) (_:H l=some (.lst xs)) (_ : -(2^63)<=k) (_:k<2^63) (_:xs.length*k.toNat<=sizeLine) (_:∀p,H p=none->Q (.ref p) (upd H p (.lst (aai k.toNat xs).flatten)))
theorem len_rep(xs:List I)(k:Nat):(aai k xs).flatten.length=k*xs.length:=by
 induction k with
 |zero=>simp
 |succ k a=>rw[afX,agt,aab,a,ah7,ahE]
theorem j9:Wi X (binaryOp .Mult) TF:=by
 intro L s K H x y v u Q I B A h;obtain⟨l,k,M,rfl,rfl,D,G,E,p,q⟩:=h;cases B;obtain⟨t,rfl⟩:=A;obtain⟨z,b,n,r,C,e⟩:=I.lstM D;have f:b.toArray.size*k.toNat<=sizeLine:=by rw[aaT,<-C];exact p
 have i:¬b.toArray.size*k.toNat > (2^63-1) / 8:=by
  have:(sizeLine:Nat)<=(2^63-1) / 8:=by decide
  lia
 have g:¬(!Builtin.List.listFitsIndex k)=true:=by
  rw[fitsIndex_both G E];exact afD
 have c:¬Builtin.List.listTooLong (b.toArray.size*k.toNat)=true:=by
  rw[BW f];exact afD
 have d:ajf (λo j=>o++j) #[] (aai (if b.toArray.isEmpty=true then 0 else k.toNat) b.toArray)=(aai k.toNat b).flatten.toArray:=by
  have J:∀m:Nat,ajf (λo j=>o++j) #[] (aai m b.toArray)=(aai m b).flatten.toArray:=λm=>by
   have:=foldl_rep b m [];rw[ah0]at this;exact this
  rw[J];cases b with
  |nil=>simp
  |cons a N=>rw[if_neg (by simp)]
 refine wpAny_binaryOp_repeat_ref (T := "list") (U := "int") ∅ (_,e,7) (λw=>typeIs_int w k t) noFill_list_mul F.fills_int_mul F.slot_int_rmul repeat_list F.slot_int_index.lookup
  (call_meets F.slot_int_rmul (typeIs_int s k t) F.entry_int_rmul (F.args_int_rmul_2 _ _) (int___rmul___int_list k t l b.toArray n)
   (e,7,(_,e,7),call_meets F.slot_list_mul (_,e,7) F.entry_list_mul (F.args_list_mul_2 _ _) (AutoListH.list___mul___list_int_3 l b.toArray n k t g i c) (e,1)))
 rw[d];exact(.ref _,_,I.lnew (t':=s.toks) (r.rep k.toNat) (by rw[len_rep,Nat.mul_comm];exact p),7,q _ I.fresh)
section
variable{w:World}
end
end L2
namespace Att
open PySem.W PySem.Calls PyProof.Rows
theorem uo{P:Params}:∀(ns:List Int) (vs:List Value),WellAll P base vs (ns.map WData.int)->IntsAre vs ns:=by
 intro ns
 induction ns with
 |nil=>
  intro vs w;rw[ahP]at w;cases w;exact .nil
 |cons n ns c=>
  intro vs w;rw[aax]at w;cases w with
  |cons a b=>
   cases a;exact .cons _ _ (c _ b)
theorem JH{l:OpenLaw}{n:Nat}(v:l.most=some n){P:Params}{b:List WData}
  (c:l.row.toRowW.claim.pre b=true)(k:WellAll P base j b):
  ∃a vs ns,j=[Value.ref a]/\b=[WData.list (ns.map WData.int)]/\base.get? a=some {cls:=.type "list",data:=.seq vs.toArray}/\IntsAre vs ns/\ns.length<=n:=by
 have m:WShape.hasAll [] b [.list .int]=true:=(pre_splitW c).1;have o:l.pre.holds [] {args:=b}=true:=(pre_splitW c).2;obtain⟨d,r,rfl,y,x⟩:=hasAllW_cons m;obtain rfl:=hasAllW_nil x;obtain⟨z,rfl,w⟩:=hasW_list y;obtain⟨ns,rfl⟩:=items_int w;have e:ns.length<=n:=by
  unfold OpenLaw.pre at o;have i:(WTm.not (.lt (.lit (.int (n:Int))) (.len (.arg 0)))).holds [] {args:=[.list (ns.map .int)]}=true:=by
   have i:=(holds_andW o).1;rw[v]at i;exact i
  have g:=condW_of i (w_not (w_lt w_lit (w_len_list (w_arg rfl))));rw[aaa]at g;refine Nat.le_of_not_lt λq=>?_;have t:(n:Int)<((ns.length:Nat):Int):=by lia
  first
   | (rw[decide_eq_true t]at g;exact absurd g ∅)
   | (simp at g;lia)
 cases k with
 |cons s p=>
  cases p;cases s with
  |list u f=>exact(_,_,ns,7,7,u,uo ns _ f,e)
theorem JL(l:OpenLaw)(a:List WData):l.row.toRowW.claim.post a (.bool true) a=true:=
 postW_of (r:=l.row.toRowW) (X:=(true==true))
  (show WShape.has [] (.bool true) .bool=true by first|rfl|decide|simp[WShape.has,WShape.arms,WShape.armsAll])
  (show (WTm.eq .res (.lit (.bool true))).value [] {args:=a,res:=some (.bool true),after:=a}=some (.bool (true==true))from w_eq_bool (w_res rfl) w_lit) rfl
theorem attach_call{l:OpenLaw}{n:Nat}{q:Program}{C:(Str->Option Value)->Heap->Prop}{B:World->Heap->Prop}{d:DefRec}
  (J:l.most=some n)(y:d.params.defaults=[])
  (m:∀(w:World) (c b:Shared) (p u:Str->Option Value) (h:Addr) (o:Obj) (t s e:Value) (a:Addr) (vs:List Value) (ns:List Int),
   Ground q N [] C w c p u b.heap->B w b.heap ->
   b.heap.get? h=some o->o.data=.func (docDef d.name d.params d.body d.scope t s e)->b.heap.CodeRec s d.name->p d.name=some (.ref h) ->
   b.heap.get? a=some {cls:=.type "list",data:=.seq vs.toArray}->IntsAre vs ns->ns.length<=n->b.gens=#[] ->
   codeAny (model l.prog w) callerA (.call (.ref h) ([.ref a],[])) (λr s'=>r=.ok (.ret (.bool true))/\OldK b.heap s'.heap/\s'.os=b.os/\AllBare s'.gens) b):
  WalkO q N C B l.row.toRowW d [] (λf vs=>PySem.call f vs):=by
 intro w c b p u G Y h o t s e Q kV I hd z A x L F D T i E R v S;obtain rfl:Q=.none:=Dflts.none A y;obtain rfl:kV=.none:=Dflts.noKw A;obtain⟨a,vs,ns,rfl,rfl,j,g,k⟩:=JH J i v;refine enter_call (codeAny_mono (m w c b p u h o t s e a vs ns G Y I (fd_plain hd) z x j g k L) λr s' H=>?_);obtain⟨rfl,P,O,M⟩:=H;exact(.inl (.bool true,.bool true,[],7,λ_=>rfl,.bool true,JL l _,λ_=>(List.Pairwise.nil,λ_ K=>(nomatch K))),P,O,M)
section
variable{w:World}{K:Frag}
end
end Att
namespace L2
open PySem.Spec PyProof.Rows
theorem sJ:∀{vs:List Value}{ns:List Int},IntsAre vs ns->Vals ‹ns› vs
 |_,_,.nil=>.nil
 |_,_,.cons n t h=>.cons (t,7) (sJ h)
def Only(H:Hp):Prop:=∀b,H b=none \/ ∃o a,H b=some (.Wj o (.lst a))
theorem Mq{P:Program}{w:World}{K:PySem.W.Frag}{L:Str->Option Value}{CX:WP}{k:Nat}{a:Addr}{x:Str}{sp:Sp}{vs:List Value}{ns:List Int}
  (KX:K.In s0.heap)(C:s0.heap.Ns mainGlobals mg)(g:s0.heap.Ns builtinsNs L)(Q:∀x:Str,x ≠ "__name__" -> L x=bootBuiltins x)(G:s0.heap.NoLimit)(hg:s0.gens=#[])
  (J:s0.heap.get? a=some {cls:=.type "list",data:=.seq vs.toArray})(X:IntsAre vs ns)(U:ns.length<=sizeLine)(hr:jj k callerA)
  (F:∀base:Heap,K.In base->base.Ns mainGlobals mg->bI P w K mg base CX k f B [x] sp)(l:∀(s:Shared) (u:Value),BindsTo s B ([u],[]) [(pq x u)])
  (O:∀H:Hp,Only H->My K H a ‹ns›->sp [.ref a] H (λv _=>v=.bl true) λ_ _ _=>False)
  (R:∀H e s',CX [] H s0 (λ_ _ _=>False) e s'->False):
  codeAny (model P w) callerA (.call (.ref f) ([.ref a],[])) (λr s'=>r=.ok (.ret (.bool true))/\OldK s0.heap s'.heap/\s'.os=s0.os/\AllBare s'.gens) s0:=by
 have T:=sJ X;have lenV:=X.length;have j:∀H:Hp,Only H->My K H a ‹ns›->Wa P w H s0.heap->(∀b,H b≠none->b=a)->(H a≠none->K.lookup a=none) ->
   codeAny (model P w) callerA (.call (.ref f) ([.ref a],[])) (λr s'=>r=.ok (.ret (.bool true))/\OldK s0.heap s'.heap/\s'.os=s0.os/\AllBare s'.gens) s0:=by
  intro H hO hS A Y hK;have c:∀{b:Addr}{o:Obj},s0.heap.get? b=some o->H b=none->(zT s0.heap H).get? b=some o:=λe n=>Mp e n;have Zt:∀{b:Addr}{o:Obj}{t:Array DictEntry}{y:Nat},s0.heap.get? b=some o->o.data=.dict t y->H b=none:=λ{b o t y} e d=>by
   cases q:H b with
   |none=>rfl
   |some u=>
    have N:b=a:=Y b (by rw[q];simp);subst N;rw[J]at e;cases e;have d':Data.seq vs.toArray _=Data.dict t y:=d;cases d'
  have i:∀{b:Addr}{m:Str->Option Value},s0.heap.Ns b m->(zT s0.heap H).Ns b m:=λ{b m} ⟨o,t,y,e,d,r⟩=>(o,t,y,c e (Zt e d),d,r);have D:K.In (zT s0.heap H):=λb o e=>c (KX b o e) (by
   cases q:H b with
   |none=>rfl
   |some u=>
    have N:b=a:=Y b (by rw[q];simp);subst N;rw[hK (by rw[q];simp)]at e;cases e)
  have hM:Mod K mg (zT s0.heap H):=(D,i C,(L,i g,Q),let ⟨mc,h1,h2⟩:=G;(mc,i h1,h2));have e0:QD P w K mg (zT s0.heap H) callerA [] s0 H:=(7,hM,λb o e=>Qv e,ah8 (JK _ _),trivial,λb g=>absurd (show b∈([]:List Addr)from g) (by simp),A,.of_eq hg);refine codeAny_mono ((F _ D (i C)).run callerA [] s0 H ([.ref a],[]) [.ref a] [.ref a] _ _ hr e0 (l s0 (.ref a)) (.cons rfl .nil) (O H hO hS)) λr s' h=>?_;cases r with
  |error e=>exact(R H e s' h).elim
  |ok fl=>
   cases fl with
   |next=>exact False.elim h
   |brk=>exact False.elim h
   |cont=>exact False.elim h
   |ret u=>
    obtain⟨v,H',os,I,S,E,r',q⟩:=h;have q':v=.bl true:=q;subst q';obtain rfl:u=Value.bool true:=r';refine(7,OldK.of_keep λb o e=>?_,os,I);cases q:H b with
    |none=>exact S.keep b o e q (by intro z;exact absurd (show b∈([]:List Addr)from z) (by simp)) (by simp)
    |some u=>
     rcases hO b with z|⟨ob,xs,z⟩
     ·rw[q]at z;cases z
     ·have z2:=S.frzs b ob _ z;obtain⟨Z,_⟩:=A b _ z;obtain⟨e2,_⟩:=E b _ z2;rw[e]at Z;cases Z;exact e2
 cases M:K.lookup a with
 |some o=>
  have e:=KX a o M;rw[J]at e;cases e;refine j (λ_=>none) (λ_=>.inl rfl) (.inr (_,vs.toArray,_,M,7,7,7,by rw[aaT,lenV];exact U,by simpa using T)) (λb u z=>by have p:(none:Option HO)=some u:=z;cases p) (λb z=>absurd rfl z) λz=>absurd rfl z
 |none=>
  refine j (λb=>if b=a then some (.Wj {cls:=.type "list",data:=.seq vs.toArray} (.lst !!ns))else none) (λb=>?_) (.inl (.inr ({cls:=.type "list",data:=.seq vs.toArray},if_pos rfl))) (λb u z=>?_) (λb z=>?_) λ_=>M
  ·by_cases g:b=a
   ·exact .inr (_,_,if_pos g)
   ·exact .inl (if_neg g)
  ·by_cases g:b=a
   ·have p:=(if_pos g).symm.trans z;cases p;subst g;exact(J,by rw[aaa];exact U,vs,_,T,J)
   ·have p:=(if_neg g).symm.trans z;cases p
  ·by_cases g:b=a
   ·exact g
   ·exact absurd (if_neg g) z
theorem Al{l:PySem.W.OpenLaw}{n k:Nat}{q:Program}{S:(Str->Option Value)->Heap->Prop}{D:World->Heap->Prop}{d:DefRec}{K:Params->PySem.W.Frag}{CX:World->WP}{sp:World->Sp}{x:Str}
  (L:l.most=some n)(z:n<=sizeLine)(B:d.params.defaults=[])(J:jj k callerA)
  (P:∀(w:World) (h:Heap),D w h->(K w.params).In h)
  (F:∀(w:World) (j:Str->Option Value) (r:Addr) (h:Heap),(K w.params).In h->h.Ns mainGlobals j->j d.name=some (.ref r) ->
   ∃t:FuncData,(∀(s:Shared) (u:Value),BindsTo s t ([u],[]) [(pq x u)]) /\
    ∀base:Heap,(K w.params).In base->base.Ns mainGlobals j->bI l.prog w (K w.params) j base (CX w) k r t [x] (sp w))
  (y:∀(w:World) (H:Hp) (a:Addr) (ns:List Int),ns.length<=n->Only H->My (K w.params) H a ‹ns›->sp w [.ref a] H (λv _=>v=.bl true) λ_ _ _=>False)
  (C:∀(w:World) (H:Hp) (s:Shared) (e:Value) (s':Shared),CX w [] H s (λ_ _ _=>False) e s'->False):
  PySem.W.WalkO q N S D l.row.toRowW d [] (λf vs=>PySem.call f vs):=by
 refine Att.attach_call L B λw I m j mb r o Z cd X a vs ns G Y ho hd U A p i c M=>?_;have E:=P w _ Y;obtain⟨t,O,R⟩:=F w j r _ E G.T.g A;exact Mq E G.T.g G.T.b G.T.builtins G.T.nolimit M p i (agd c z) J R O (λH hO Q=>y w H a ns c hO Q) λH e s'=>C w H m e s'
def ν(s:Stmt):Arguments:=match s with
 |.FunctionDef _ a _ _ _ _ _ _ _ _=>a
 |_=>{posonlyargs:=[],args:=[],vararg:=none,kwonlyargs:=[],kw_defaults:=[],kwarg:=none,defaults:=[]}
def μ(s:Stmt):List Stmt:=match s with
 |.FunctionDef _ _ b _ _ _ _ _ _ _=>b
 |_=>[]
def δ(s:Stmt):Scope:=match s with
 |.FunctionDef _ _ _ _ _ _ a _ _ _=>a
 |_=>{kind:=.function,names:=[],isGenerator:=false,isCoroutine:=false}
abbrev VR:WP:=λ_ _ _ _ _ _=>False
abbrev E0:XK:=λ_ _ _=>False
theorem Ut{X:Cx}:iD VR X E0:=λ_ _ _ _ _ _ _ h=>h.elim
structure Xl(K:PySem.W.Frag)(x qual:Str)(st:Stmt)(f:Addr)(fd:FuncData):Prop where
 ex:∃(oc:Value) (od:Option Addr) (kV doc pm:Value) (an:Option Addr) (cdv ct:Value) (osl:Array (Option Value)),
  fd=PySem.W.fnOf x qual (ν st) (μ st) (δ st) .none kV doc pm an cdv ct/\K.lookup f=some (oc,od,.func fd,osl)/\PySem.W.codeIn K cdv qual=true
 kp:PySem.W.keepIn K (.ref f)=true
section
variable{P:Program}{w:World}
theorem Xl.ok{x :Str}{st:Stmt}{f:Addr}{N ps:List Str}{k:Nat}{sp:Sp}(F:Xl K x qual st f B)(S:aJ N ps (δ st))(d:∀vs H Q E,sp vs H Q E->vs.length=ps.length)
  (c:∀(b:Value) (A:Around) (a:List Env) (s:Shared) (H:Hp) (vs:List V) (Q:VK) (E:XK),jj k (A.deeper (envOfC qual (δ st) s.heap.objs.size f b))->sp vs H Q E ->
   ∃t,Wu (zu VR P w K mg base N qual (δ st) f b A a s H E).Zr (μ st) t/\t {nx:=λ_ H'=>Q .non H',rt:=Q} (start N vs) H):bI P w K mg base VR (k+1) f B ps sp:=by
 obtain⟨p,o,kV,m,n,u,b,r,l,rfl,i,g⟩:=F.ex;refine Ld i g S d λA a s H vs Q E j e=>?_;obtain⟨t,h,q⟩:=c b A a s H vs Q E j e;exact(t,h.Zr,q)
theorem Xl.V2{x :Str}{st:Stmt}{f:Addr}{N ps:List Str}{k:Nat}{sp:Sp}(F:Xl K x qual st f B)(S:aJ N ps (δ st))
  (b:∀(c:Value) (A:Around) (a:List Env) (s:Shared) (H:Hp) (vs:List V) (Q:VK) (E:XK),jj k (A.deeper (envOfC qual (δ st) s.heap.objs.size f c))->sp vs H Q E ->
   ∃t,Wu (zu VR P w K mg base N qual (δ st) f c A a s H E).Zr (μ st) t/\t {nx:=λ_ H'=>Q .non H',rt:=Q} (start N vs) H)(d:∀vs H Q E,sp vs H Q E->vs.length=ps.length:=by intro _ _ _ _ h;cases h;subst_vars;rfl):bI P w K mg base VR (k+1) f B ps sp:=F.ok S d b
theorem Xl.binds{x :Str}{st:Stmt}{f:Addr}{ps:List Str}(F:Xl K x qual st f B)
  (h:∀(kV a d:Value) (g:Option Addr) (b e:Value) (c:List Value),c.length=ps.length->bindArgs (PySem.W.fnOf x qual (ν st) (μ st) (δ st) .none kV a d g b e) (c,[])=pure (ps.zip c)):Binds K B ps []:=by
 obtain⟨l,k,kV,a,d,g,b,e,i,rfl,m,j⟩:=F.ex;exact .all (h kV a d g b e)
theorem RT{x :Str}{st:Stmt}{f:Addr}{od h:Option Addr}{d:Array (Option Value)}{kV b e a g:Value}(l:K.lookup f=some (cd,od,.func (PySem.W.fnOf x qual (ν st) (μ st) (δ st) .none kV b e h a g),d))
  (c:PySem.W.codeIn K a qual=true)(k:PySem.W.keepIn K (.ref f)=true):Xl K x qual st f (PySem.W.fnOf x qual (ν st) (μ st) (δ st) .none kV b e h a g):=((cd,od,kV,b,e,h,a,g,d,7,l,c),k)
end
theorem pv(i:Nat){x:Str}{pos:Pos}(c:X.N[i]?=some x:=by rfl)(b:Zo X.env.scope x:=by first|exact agH rfl|exact ahH (agH rfl) | exact ahH (ahH rfl))(hd:(x==("__debug__" : Str))=false:=by decide)
  (a:(x==("__classdict__" : Str))=false:=by decide):PE X (.Name x pos) (DK i):=Oa c b hd a
theorem VJ(i:Nat){x:Str}{pos:Pos}{es:List Expr}{t:TA}(d:PA X es t)(e:X.N[i]?=some x:=by rfl)(b:Zo X.env.scope x:=by first|exact agH rfl|exact ahH (agH rfl) | exact ahH (ahH rfl))(hd:(x==("__debug__" : Str))=false:=by decide)
  (a:(x==("__classdict__" : Str))=false:=by decide)(c:starEach (.Name x pos::es) X.env=(pq false (eval (.Name x pos) X.env))::starEach es X.env:=by rfl):PA X (.Name x pos::es) (uO (DK i) t):=aq (pv i e b hd a) d c
theorem fM{A B:Prop}(h:B):if false=true then A else B:=by
 rw[if_neg afD];exact h
theorem fP{A B:Prop}(h:A):if true=true then A else B:=by
 rw[if_pos rfl];exact h
theorem dZ{c A B:Prop}[Decidable c](b:c->A)(a:¬c->B):if c then A else B:=by
 by_cases h:c
 ·rw[if_pos h];exact b h
 ·rw[if_neg h];exact a h
theorem Hk{c A B:Prop}[Decidable c](a:c)(h:B):if (!decide c)=true then A else B:=by
 rw[decide_eq_true a];exact fM h
def aL(H H':Hp):Prop:=∀b o,H b=some o->H' b=some o
theorem aL.refl(H:Hp):aL H H:=λ_ _ h=>h
theorem aL.trans(a:aL H H0)(b:aL H0 H'):aL H H':=λc o h=>b c o (a c o h)
theorem aL.free{H':Hp}(e:aL H H'){l:Addr}(h:H' l=ajv):H l=ajv:=by
 cases q:H l with
 |none=>rfl
 |some o=>
  rw[e l o q]at h;cases h
theorem aL.seq{K:PySem.W.Frag}{H':Hp}{a:Addr}{xs:List V}(e:aL H H')(h:My K H a xs):My K H' a xs:=by
 rcases h with (h|⟨o,h⟩) | h
 ·exact .inl (.inl (e _ _ h))
 ·exact .inl (.inr (o,e _ _ h))
 ·exact .inr h
end L2
namespace Tw
theorem au{p:Addr}(h:H p=none)(o:HO):aL H (upd H p o):=λb u q=>by rw[aK (aH q h)];exact q
theorem bc{H':Hp}{p:Addr}(s:aL H H')(h:H p=none)(o:HO):aL H (upd H' p o):=λb u q=>by rw[aK (aH q h)];exact s b u q
theorem small{n:Nat}(h:n<=4097):n<sizeLine:=af9 h ∅
theorem bu:bootBuiltins "len" = some (.builtin "len"):=by decide +kernel
theorem RW:bootBuiltins "sum" = some (.builtin "sum"):=by decide +kernel
theorem cz:bootBuiltins "isinstance" = some (.builtin "isinstance"):=by decide +kernel
theorem uN:bootBuiltins "min" = some (.builtin "min"):=by decide +kernel
theorem Rx:bootBuiltins "max" = some (.builtin "max"):=by decide +kernel
theorem nR:bootBuiltins "sorted" = some (.builtin "sorted"):=by decide +kernel
theorem Tn:bootBuiltins "int" = some (.type "int"):=by decide +kernel
theorem iw:bootBuiltins "list" = some (.type "list"):=by decide +kernel
theorem qO:bootBuiltins "tuple" = some (.type "tuple"):=by decide +kernel
theorem Ry:bootBuiltins "str" = some (.type "str"):=by decide +kernel
theorem mH:bootBuiltins "reversed" = some (.type "reversed"):=by decide +kernel
theorem Fb:bootBuiltins "set" = some (.type "set"):=by decide +kernel
theorem lg:bootBuiltins "zip" = some (.type "zip"):=by decide +kernel
theorem nU(ns:List Int)(i j:Nat):fc ‹ns› (some (i:Int)) (some (j:Int))=((ns.drop i).take (j-i)).map V.int:=by
 unfold fc;rw[HT.iM,HT.iM,ajg,agX,aaa];rcases afF ns.length i with h|h
 ·rw[agL (agW h),af6 (by simp),af6 (by simp;lia)];simp
 ·rw[af0 h];rcases afF ns.length j with q|q
  ·rw[agL (agW q),aal (by simp),aal (by simp;lia)]
  ·rw[af0 q]
theorem Ew(ns:List Int)(j:Nat):fc ‹ns› none (some (j:Int))=(ns.take j).map V.int:=by
 unfold fc;rw[HT.iM,HT.pW,ajg,aaa,agE,ahF];rcases afF ns.length j with q|q
 ·rw[agL (agW q),aal (by simp),aal (by simp;lia)]
 ·rw[af0 q]
theorem Dg(ns:List Int)(i:Nat):fc ‹ns› (some (i:Int)) none=(ns.drop i).map V.int:=by
 unfold fc;rw[HT.iM,HT.pW,agX,aaa];rcases afF ns.length i with h|h
 ·rw[agL (agW h),af6 (by simp),af6 (by simp;lia)];simp
 ·rw[af0 h,aal (by simp)]
theorem int_at{ns:List Int}{i:Nat}{x:V}(h:‹ns›[i]?=some x):∃c,ns[i]?=some c/\x=.int c:=by
 rw[aak]at h;cases e:ns[i]? with
 |none=>rw[e]at h;cases h
 |some c=>rw[e]at h;exact(c,7,(afE h).symm)
theorem Ba{ns:List Int}{i:Nat}{c:Int}(h:ns[i]?=some c):Ws ‹ns› (i:Int)=some (.int c):=jD (by rw[aak,h];rfl)
structure Df(K:PySem.W.Frag)(mg:Str->Option Value)(x:Str)(st:Stmt)(ps:List Str)(f:Addr)(fd:FuncData):Prop where
 F:Xl K x x st f fd
 b:Binds K fd ps []
 m:mg x=some (.ref f)
def bit(b:Int)(k:Nat):Int:=b / 2^k%2
def bits(b:Int)(n:Nat):List Int:=(abS n).map (bit b)
def ones(b:Int)(n:Nat):Int:=(bits b n).sum
theorem dI(b:Int)(n:Nat):(bits b n).length=n:=by simp[bits]
theorem JT(b:Int)(n:Nat):bits b (n+1)=bits b n++[bit b n]:=by simp[bits,afU]
theorem yQ(b:Int):ones b 0=0:=rfl
theorem yo(b:Int)(n:Nat):ones b (n+1)=ones b n+bit b n:=by
 unfold ones;rw[JT];simp
theorem wF{b:Int}{n k:Nat}(h:k<n):(bits b n)[k]?=some (bit b k):=by simp[bits,h]
theorem Jz(b:Int)(k:Nat):bit b k=0\/bit b k=1:=by
 unfold bit;lia
def aO(ns:List Int):Prop:=∀b∈ns,b=0\/b=1
theorem aO.tail{b:Int}{ns:List Int}(h:aO (b::ns)):aO ns:=λx a=>h x (.tail _ a)
theorem aO.head{b:Int}{ns:List Int}(h:aO (b::ns)):b=0\/b=1:=h b (.head _)
theorem aO.take{ns:List Int}(h:aO ns)(k:Nat):aO (ns.take k):=λx a=>h x (afN a)
theorem aO.drop{ns:List Int}(h:aO ns)(k:Nat):aO (ns.drop k):=λx a=>h x (afO a)
def blk:List Int->Int
 |[]=>0
 |b::r=>2*blk r+b
theorem wJ:∀{ns:List Int},aO ns->0<=blk ns
 |[],_=>by simp[blk]
 |b::r,h=>by
  have:=wJ h.tail;have:=h.head;simp only[blk];lia
theorem CJ(b:Int):bit b 0=b%2:=by simp[bit]
theorem yR(b:Int)(k:Nat):bit b (k+1)=bit (b / 2) k:=by
 unfold bit;rw[ahb ∅,<-Int.pow_succ']
theorem uA:∀{ns:List Int},aO ns -> ∀k:Nat,bit (blk ns) k=(ns[k]?).getD 0
 |[],_,k=>by simp[blk,bit]
 |b::r,h,0=>by
  have:=h.head;rw[CJ];simp only[blk,List.getElem?_cons_zero,ahh];lia
 |b::r,h,k+1=>by
  have a:=h.head;rw[yR,ahc];have e:blk (b::r) / 2=blk r:=by simp only[blk];lia
  rw[e];exact uA h.tail k
theorem mU{ns:List Int}(h:aO ns):∀k:Nat,ones (blk ns) k=(ns.take k).sum
 |0=>by simp[yQ]
 |k+1=>by
  rw[yo,mU h k,uA h];by_cases a:k<ns.length
  ·rw[aed,aac a];simp only[aiM,ahI,ahv,ajm,ahh];lia
  ·rw[aal ⋯,aal ⋯,aaU ⋯];simp
def many(n:Nat):Nat:=(n+31) / 32
def fL(ns:List Int)(j:Nat):Int:=blk ((ns.drop (32*j)).take 32)
def bQ(ns:List Int):List Int:=(abS (many ns.length)).map (fL ns)
theorem bJ(ns:List Int):(bQ ns).length=many ns.length:=by simp[bQ]
theorem qX{ns:List Int}{j:Nat}(h:j<many ns.length):(bQ ns)[j]?=some (fL ns j):=by simp[bQ,h]
theorem pQ{ns:List Int}(h:aO ns)(j:Nat):aO ((ns.drop (32*j)).take 32):=(h.drop _).take _
theorem S7{ns:List Int}(h:aO ns)(j k:Nat)(a:k<32):bit (fL ns j) k=(ns[32*j+k]?).getD 0:=by
 unfold fL;rw[uA (pQ h j),af2 a,aga]
def Xb(bs:List Int):List Int:=bs.flatMap λb=>bits b 32
theorem Mj(bs:List Int)(b:Int):Xb (bs++[b])=Xb bs++bits b 32:=by simp[Xb]
theorem pD:∀bs:List Int,(Xb bs).length=32*bs.length
 |[]=>rfl
 |b::r=>by
  have:=pD r;simp only[Xb,ag2,aab,dI,aah]at this ⊢;lia
theorem HB:∀(bs:List Int) (i:Nat),(Xb bs)[i]?=(bs[i / 32]?).map λb=>bit b (i%32)
 |[],i=>by simp[Xb]
 |b::r,i=>by
  show (bits b 32++Xb r)[i]?=_;by_cases d:i<32
  ·rw[afI (by rw[dI];exact d),wF d];have c:i / 32=0:=by lia
   have a:i%32=i:=by lia
   rw[c,a];rfl
  ·rw[afH (by rw[dI];lia),dI,HB r (i-32)];have c:i / 32=(i-32) / 32+1:=by lia
   have a:i%32=(i-32)%32:=by lia
   rw[c,a,ahc]
theorem yd{ns:List Int}(h:aO ns):(Xb (bQ ns)).take ns.length=ns:=by
 refine af7 λi=>?_;by_cases a:i<ns.length
 ·rw[af2 a,HB,qX (by unfold many;lia)];rw[ahp,S7 h _ _ ⋯];have e:32*(i / 32)+i%32=i:=by lia
  rw[e,aac a];rfl
 ·rw[aaU (by rw[aam];lia),aaU ⋯]
def net(b:Int)(k:Nat):Int:=2*ones b k-k
theorem Oe(b:Int):net b 0=0:=by simp[net,yQ]
theorem Cu(b:Int)(k:Nat):net b (k+1)=net b k+2*bit b k-1:=by
 unfold net;rw[yo];lia
def nets(b:Int)(n:Nat):List Int:=(abS n).map λk=>net b (k+1)
theorem tL(b:Int)(n:Nat):(nets b n).length=n:=by simp[nets]
theorem Jf(b:Int)(n:Nat):nets b (n+1)=nets b n++[net b (n+1)]:=by simp[nets,afU]
theorem Dw{b:Int}{n:Nat}{x:Int}:x∈nets b n ↔ ∃k,1<=k/\k<=n/\x=net b k:=by
 unfold nets;rw[aaz];constructor
 ·rintro⟨k,a,rfl⟩;exact(k+1,6,by have:=af5.mp a;lia,7)
 ·rintro⟨k,d,c,rfl⟩;exists k-1,af5.mpr ⋯;have e:k-1+1=k:=by lia
  rw[e]
def ht(ns:List Int)(k:Nat):Int:=2*(ns.take k).sum-k
theorem jx(ns:List Int):ht ns 0=0:=by simp[ht]
theorem zB{ns:List Int}{k:Nat}{b:Int}(h:ns[k]?=some b):ht ns (k+1)=ht ns k+2*b-1:=by
 unfold ht;rw[aed,h];simp only[aiM,ahI,ahv,ajm];lia
theorem qi(ns:List Int)(a k:Nat):(ns.take (a+k)).sum=(ns.take a).sum+((ns.drop a).take k).sum:=by
 rw[ajh,ahI]
theorem Bh{ns:List Int}(h:aO ns)(j k:Nat)(a:k<=32):ht ns (32*j+k)=ht ns (32*j)+net (fL ns j) k:=by
 unfold ht net fL;rw[mU (pQ h j),qi,ahy,af0 a];lia
theorem GQ{ns:List Int}(h:aO ns)(j k:Nat)(a:k<=32):ones (fL ns j) k=((ns.drop (32*j)).take k).sum:=by
 unfold fL;rw[mU (pQ h j),ahy,af0 a]
theorem JZ{ns:List Int}(h:aO ns)(j k:Nat)(a:k<=32):(ns.take (32*j)).sum+ones (fL ns j) k=(ns.take (32*j+k)).sum:=by
 rw[GQ h j k a,qi]
theorem Jq(b:Int)(n:Nat):bits b (n+1)=b%2::bits (b / 2) n:=by
 unfold bits;rw[List.range_succ_eq_map,aax,CJ,afZ];congr 1;refine agr λk _=>?_;exact yR b k
theorem BZ:∀(n:Nat) (b:Int),0<=b->b<2^n->blk (bits b n)=b
 |0,b,c,a=>by
  have:b=0:=by simp at a;lia
  subst this;rfl
 |n+1,b,c,a=>by
  rw[agQ]at a;rw[Jq,blk,BZ n (b / 2) ⋯ ⋯];lia
theorem sY(b:Int)(n:Nat):aO (bits b n):=λx a=>by
 obtain⟨k,_,rfl⟩:=aaz.mp a;exact Jz b k
theorem FN(bs:List Int):aO (Xb bs):=λx a=>by
 obtain⟨b,_,h⟩:=agz.mp a;exact sY b 32 x h
end Tw
namespace L2
open PySem.Spec PyProof.Rows
theorem Inv.turn2{e p:Addr}{o:HO}{t':Nat}(I:Inv X π σ H s)(g:gr X π H e)(f:gr X π H a)
  (k:∀b u,b≠e->b≠a->s.heap.get? b=some u->h'.get? b=some u)(A:s.heap.objs.size<=p)
  (t:b7 X.prog X.w (upd H p o) h' p o):Inv X π σ (upd H p o) {s with heap:=h',toks:=t'}:=by
 have E:=I.hok.fresh A;have y:∀b u,H b=some u->b≠e:=λb u q z=>by rw[z,g.1]at q;cases q
 have x:∀b u,H b=some u->b≠a:=λb u q z=>by rw[z,f.1]at q;cases q
 have h:∀b u,H b=some u->upd H p o b=some u:=λb u q=>by rw[aK (aH q E)];exact q
 have l:∀b u,b∉[e,a]->s.heap.get? b=some u->h'.get? b=some u:=λb u d q=>k b u (λz=>d (by simp[z])) (λz=>d (by simp[z])) q;refine I.step (g':=s.gens) (d':=s.drawn) (ch:=[e,a]) (λb d=>?_) (λb u _ _ i q _=>l b u i q) (λb u _ _ i q _=>(u.slots,l b u i q))
  (λb u _ q n=>by rw[aK (ae2 (aau (Heap.lt_size q) A))];exact n) (λb u i q=>(u,l b u i q))
  (λb C q=>h _ _ q) (λb j u q=>h _ _ q) (λb K q=>(#[],by rw[h _ _ q];simp)) (λm F=>?_) (λb u q=>?_) I.bare
 ·rcases aat.mp d with rfl|d
  ·exact(g.2.2.2.1,g.2.1,g.2.2.2.2.1,g.2.2.2.2.2)
  ·rw[aao.mp d];exact(f.2.2.2.1,f.2.1,f.2.2.2.2.1,f.2.2.2.2.2)
 ·obtain⟨j,G,J,D,r⟩:=F;exact(j,G,J,k _ j (agB g.2.1) (agB f.2.1) D,r)
 ·by_cases d:b=p
  ·subst d;rw[aa]at q;cases q;exact t
  ·rw[aK d]at q;refine(I.hok b u q).stay (λc v B r=>k c v ?_ ?_ r) (λc r=>h _ _ r) λc C r=>h _ _ r
   ·rcases B with rfl|z
    ·exact y _ _ q
    ·exact y _ _ z
   ·rcases B with rfl|z
    ·exact x _ _ q
    ·exact x _ _ z
def YD(K:PySem.W.Frag)(a:Addr):It:=
  (λi H=>∃b x,My K H a b/\b[i]?=some x,λi H x c=>∃p y,H p=none/\x=.ref p/\c=upd H p (.tup [.int (i:Int),y]) /\ ∀b,My K H a b->b[i]?=some y,
   λi H=>∃b,My K H a b/\b.length<=i)
theorem KD{P:Program}{w:World}{K:PySem.W.Frag}(a e m:Addr)(t:e≠m):
  Turn P w K (.Tuple es d p) (YD K a) [e,m] e (λi h=>(∃g,IsEnum h e m (i:Nat) g)/\h.IsListIter m a i) where
 mem:=by simp
 obj:=λi h f b l=>by
  obtain⟨⟨g,j⟩,o,ho,J,hd⟩:=f;rcases aat.mp l with rfl|l
  ·exact(_,j,λv z=>by cases z)
  ·rw[aao.mp l];exact(o,ho,λv z=>by rw[hd]at z;cases z)
 keep:=λi h h' f k=>by
  obtain⟨⟨g,j⟩,f⟩:=f;exact((g,k e (by simp) _ j),f.at λo q=>k m (by simp) o q)
 item:=by
  intro X L F M J i π s σ H E I r f G;subst L F M;obtain⟨xs,x,A,D⟩:=G;obtain⟨O,C,c,hz⟩:=I.list A;obtain⟨u,hu,ru⟩:=C.get D;obtain⟨⟨g,j⟩,f⟩:=f;refine wpAny_pyNext_enum_item j f c.isList (x:=u) (by simpa using hu) t λh1 T y Q a0 R=>?_;refine(9,wpAny_letOwnedTupleGo_enum T λB U n=>?_);have ee:e<s.heap.objs.size:=Heap.lt_size j
  have g2:B.get? s.heap.objs.size=some {cls:=.type "tuple",data:=.seq #[.int (i:Int) s.toks,u]}:=(n.2 _ (air ee)).trans Q
  have kk:∀b o,b≠e->b≠m->s.heap.get? b=some o->B.get? b=some o:=λb o Z h4 q=>(n.2 b Z).trans (R b o Z h4 q);have N:b7 X.prog X.w (upd H s.heap.objs.size (.tup [.int (i:Int),x])) B s.heap.objs.size (.tup [.int (i:Int),x]):=
   (sl2,[.int (i:Int) s.toks,u],.cons (_,7) (.cons ru .nil),_,g2,7,9)
  have I2:=I.turn2 (h':=B) (t':=s.toks+1) (r e (by simp)) (r m (by simp)) kk (aae _) N;have hn:H s.heap.objs.size=none:=I.hok.fresh (aae _);refine(.ref s.heap.objs.size,_,I2,7,(_,x,hn,7,7,λys hy=>by rw[I.list_inj hy A];exact D),((u,by simpa using U),y.extBut n.extBut (agB t)),λb l=>?_);have Y:=(r b l).1;have V:b≠s.heap.objs.size:=by
   obtain⟨o,S,_⟩:=f;rcases aat.mp l with rfl|l
   ·exact ae2 ee
   ·rw[aao.mp l];exact ae2 (Heap.lt_size S)
  rw[aK V];exact Y
 done:=by
  intro X L F M J i π s σ H E I r f G;subst L F M;obtain⟨xs,A,D⟩:=G;obtain⟨O,C,c,hz⟩:=I.list A;obtain⟨f0,f1,f2,f3,f4,f5⟩:=r m (by simp);obtain⟨⟨g,j⟩,f⟩:=f;have hl:=C.length;exact wpAny_pyNext_enum_end (I.ok.hd J) j f c.isList (by simp;lia) λh' eb=>(7,I.turned (t':=s.toks) (λb o l q=>eb b o l q) f0 f1 f3 f4 f5)
 self:=λ_ _ _ _ _ f h=>by
  obtain⟨⟨g,j⟩,_⟩:=f;exact wpAny_pyIter_enum j h
inductive Pk(K:PySem.W.Frag)(R:It->Hp->Prop)(vs:List V)(H1:Hp):Prop
 | mk (a xs:_) (_:vs=[.ref a]) (_:My K H1 a xs) (_:R (YD K a) H1)
def Uo(K:PySem.W.Frag)(b:TA):TI:=λ a H R=>b a H (Pk K R)
theorem zU{a:Expr}{p pos:Pos}(D:Gl X "enumerate")(B:X.mg "enumerate" = none)(E:PA X [a] t)(z:starEach [a] X.env=[(pq false (eval a X.env))]:=by rfl):
  PI X (.Tuple es d apos) (.Call (.Name "enumerate" p) [a] [] pos) (Uo X.K t):=by
 intro m s l H R I h;refine Call_ (gf I D B boot_enumerate (PyProof.Rows.callWith_type1 (VL (E pos m s l H _ I h) λO f ⟨N,o,i,v,w⟩=>?_) z rfl));obtain⟨b,M,e,A,q⟩:=w;subst e;obtain⟨u,rfl,r⟩:=vals1 v;cases r;obtain⟨J,P,x,Q⟩:=i.list A;refine call_enumerate_list x.isList λF n k L C=>?_;refine wpAny_pyIter_enum n ?_;have G:Inv X m l o {f with heap:=F}:=i.kept (t':=f.toks) C;have y:f.heap.objs.size+1≠f.heap.objs.size:=by lia
 refine(f.heap.objs.size+1,[f.heap.objs.size+1,f.heap.objs.size],_,YD X.K b,o,7,G,KD b _ _ y,((_,n),k),λc j=>?_,q);have g:f.heap.objs.size<=c:=by
  rcases aat.mp j with rfl|j
  ·lia
  ·rw[aao.mp j];lia
 exact i.fpOk g (i.hok.fresh g)
theorem Bq{K:PySem.W.Frag}{a:Addr}{xs:List V}{g:TG}{k:TS}{σ:St}(b:Nat->St->Hp->Prop)(v:b 0 σ H)(t:∀i σ H,i<=xs.length->b i σ H->My K H a xs)
  (r:∀i x σ H p,xs[i]?=some x->b i σ H->H p=none->g (.ref p) σ (upd H p (.tup [.int (i:Int),x])) λ d j=>k {R with nx:=b (i+1),ct:=b (i+1),bk:=R.nx} d j)(hd:∀σ H,b xs.length σ H->R.nx σ H):
  ∃W:Nat->Nat->St->Hp->Prop,(∃m,W 0 m σ H) /\ ∀i m σ H,W i m σ H ->
   ((YD K a).stop i H/\R.nx σ H)\/((YD K a).go i H /\ ∃N:St->Hp->Prop,(∀f H',N f H' -> ∃l,l<m/\W (i+1) l f H') /\ ∀x H',(YD K a).Xk i H x H'->g x σ H' λ d j=>k {R with nx:=N,ct:=N,bk:=R.nx} d j):=by
 exists λi m σ H=>m=xs.length-i/\i<=xs.length/\b i σ H,(xs.length,by simp,aaH _,v);rintro i m σ H ⟨rfl,u,p⟩;have q:=t i σ H u p;by_cases h:i<xs.length
 ·refine .inr ((xs,xs[i],q,by simp[h]),b (i+1),λ f H' n=>(xs.length-(i+1),6,7,h,n),λx H' y=>?_);obtain⟨c,y,s,z,w,o⟩:=y;subst z w;exact r i y σ H c (o xs q) p s
 ·have e:i=xs.length:=by lia
  subst e;exact .inl ((xs,q,aae _),hd σ H p)
theorem Ot(m:X.calm=true):eE X (.builtin "sum") (λxs H Q=>∃(p:Addr) (ns:List Int),xs=[.ref p]/\My X.K H p ‹ns›/\Q (.int ns.sum) H):=by
 intro t s o H xs v Q I r h;obtain⟨p,ns,rfl,k,q⟩:=h;obtain⟨u,rfl,g⟩:=vals1 r;cases g;obtain⟨n,i,j,w⟩:=I.list k;have b:=intsAre_of i;obtain⟨a,e⟩:=b.allInts.items;refine sum_intListG (xs:=a) (I.ok.hd m) (by rw[<-e];exact j.isList) λx d f l=>(.int ns.sum,H,I.kept (t':=d) l,(f,1),q);have c:numsOf (intItems a).toList=ns:=by rw[<-e];exact b.numsOf
 rw[nums_intItems]at c;rw[<-c,preSum_eq,aal (by simp)]
theorem lR:eE X (.builtin "isinstance") (λxs H Q=>∃x T t b,xs=[x,.ty T]/\qG X.K H x t/\PySem.W.kitOne X.K t (.type T)=some b/\Q (.bl b) H):=by
 intro i s g H xs j Q I r h;obtain⟨x,T,t,b,rfl,a,e,q⟩:=h;obtain⟨u,v,rfl,d,f⟩:=vals2 r;obtain rfl:v=Value.type T:=f;exact IV I d a e λc=>(.bl b,H,I.tok c,7,q)
def bD(X:Cx)(N:List Str)(a:Scope)(c:List (Str×Addr))(C:Addr)(s:Shared)(H:Hp)(b:List Addr):Cx:=
 {X with N:=N,s₀:=s,H₀:=H,env:=compEnvC a c C X.env,outer:=X.stack,ex:=b,fn:=λ_=>false,pn:=[],xe:=λ_ _=>False}
structure bU(X:Cx)(x:Str)(caps:List (Str×Nat))(scope:Scope)(cl:List (Str×Addr)):Prop where
 kind:scope.kind=.function
 ρ:∀y∈scope.names,y.2 ≠ .cell
 names:∀y∈scope.names,y.2=.local->scope.names.lookup y.1=some .local
 hx:scope.names.lookup x=some .local
 clos:closureFor scope X.env=pure cl
 cls:∀y c,cl.lookup y=some c->X.env.cells.lookup y=some c
 has:∀y,((relabel scope X.env).names.lookup y=some .cell\/(relabel scope X.env).names.lookup y=some .free) -> ∃c,cl.lookup y=some c
 nd:(x::caps.map (·.1)).Nodup
 cap:∀y j,(pq y j)∈caps->X.N[j]?=some y/\(X.env.scope.names.lookup y=some .cell\/X.env.scope.names.lookup y=some .free) /\
  ((relabel scope X.env).names.lookup y=some .cell\/(relabel scope X.env).names.lookup y=some .free)
def fJ(a:List (Str×Nat))(σ:St):St:=a.map λp=>(σ[p.2]?).getD none
theorem tR(a:List (Str×Nat))(σ:St):(fJ a σ).length=a.length:=by simp[fJ]
theorem Inv.comp{x:Str}{h':Heap}{tk:Nat}{m:Str->Option Value}{C:Addr}(I:Inv X π σ H s)(F:bU X x r scope n)(P:∀b∈l,gr X π H b)
  (Y:∀b∈l,b<s.heap.objs.size)(M:s.heap.objs.size<=a)(Q:s.heap.objs.size<=C)(Z:a≠C)(L:∀b o,s.heap.get? b=some o->h'.get? b=some o)(hn:h'.Ns C m)(hL:h'.get? a=some {cls:=.type "list",data:=.seq #[]}):
  Inv (bD X (x::r.map (·.1)) scope n C s H l) [] (none::fJ r σ) (upd H a (.lst [])) {s with heap:=h',toks:=tk}:=by
 have Zx:=I.hok.fresh M;have V:=I.hok.fresh Q;have E:∀y c,(bD X (x::r.map (·.1)) scope n C s H l).env.cells.lookup y=some c->X.env.cells.lookup y=some c:=λy c e=>F.cls y c e;have a1:∀y c,X.env.cells.lookup y=some c->c<s.heap.objs.size:=λy c e=>by
  obtain⟨v,q⟩:=I.cell y c e;exact q.lt
 have up:∀b u,H b=some u->upd H a (.lst []) b=some u:=λb u q=>by rw[aK (aH q Zx)];exact q
 have ok:(bD X (x::r.map (·.1)) scope n C s H l).Ok:=by
  refine(I.ok.mod,F.kind,I.ok.glob,I.ok.blt,Q,λy z c h1 h2=>I.ok.inj y z c (E y c h1) (E z c h2),λy hy=>F.has y hy,λy c h=>absurd (show false=true from h) afD,I.ok.hd,I.ok.frames,.inl rfl,λb B=>?_,I.bs,agd I.ok.W4 I.sz,λb o e B=>?_,λb B hz=>?_,I.stack,I.stkFree)
  ·obtain⟨f0,U,T,S,R,f5⟩:=P b B;exact(ae2 (aau (Y b B) Q),λy c e=>R y c (E y c e))
  ·obtain⟨f0,U,T,S,R,f5⟩:=P b B;rcases S with z|z
   ·exact I.ok.noex b o e z
   ·exact absurd (aau (aau (Heap.lt_size e) I.ok.W4) z) (agg _)
  ·obtain⟨f0,U,T,S,R,f5⟩:=P b B;rcases aat.mp (I.stkSub b hz)with z|z
   ·exact U z
   ·exact T z
 exists ok,7,I.bare,1,(m,hn,λi y v e1 e2 e3=>?_),λy c e=>?_,1,λy c e=>?_,λp hp=>absurd (show p∈([]:List (Addr×Obj))from hp) (by simp),1
 ·exact Un.laid L M Zx
 ·cases i with
  |zero=>cases e2
  |succ i=>
   have g:(r.map (·.1))[i]?=some y:=e1;have t:(fJ r σ)[i]?=some (some v):=e2;rw[aak]at g;unfold fJ at t;rw[aak]at t;cases G:r[i]? with
   |none=>rw[G]at g;cases g
   |some p=>
    rw[G]at g t;obtain⟨A,j⟩:=p;have ey:A=y:=afE g;subst ey;have N:(σ[j]?).getD none=some v:=afE t;have a0:σ[j]?=some (some v):=by
     cases q:σ[j]? with
     |none=>rw[q]at N;cases N
     |some w=>rw[q]at N;exact congrArg some N
    obtain⟨c1,c2,c3⟩:=F.cap A j (aar G);obtain⟨m0,a2,hl⟩:=I.loc;obtain⟨u,d,f⟩:=hl j A v c1 a0 (by rcases c2 with z|z;exact .inr (.inl z);exact .inr (.inr z));refine(u,d,.inr (c3,1));rcases f with ⟨k,_⟩|⟨k,c,G,z⟩
    ·have K:X.env.scope.names.lookup A=some .local:=k;rcases c2 with z|z
     ·rw[z]at K;cases K
     ·rw[z]at K;cases K
    ·obtain⟨c',J⟩:=F.has A c3;have e4:=F.cls A c' J;rw[G]at e4;cases e4;obtain⟨o,O,hd⟩:=z;exact(c,J,o,L _ _ O,hd)
 ·obtain⟨v,o,O,hd⟩:=I.cell y c (E y c e);exact(v,o,L _ _ O,hd)
 ·show upd H a (.lst []) C=none;rw[aK (agB Z)];exact V
 ·have W:=a1 y c (E y c e);rw[aK (ae2 (aau W M))];exact I.freeC y c (E y c e)
 ·exact I.hok.laid L M (aaH _,[],_,.nil,hL)
 ·show (none::fJ r σ).length=(x::r.map (·.1)).length;simp[tR]
theorem Inv.comped{N:List Str}{C:Addr}{s':Shared}{a:St}{H':Hp}(I:Inv X π σ H s)(c:∀b∈l,gr X π H b)
  (J:Inv (bD X N scope n C s H l) [] a H' s'):Inv X π σ H' s':=by
 refine I.call' (ch:=l) (J.os.trans rfl) J.base J.hok J.bare λb d=>?_;obtain⟨j,h,i,g,f,e⟩:=c b d;exact(g,h,f,e)
def fY(J:It)(e:St)(j:TT)(k:TE)(l:Addr->Hp->Prop)(H:Hp):Prop:=
 ∀D,H D=none -> ∃W:Nat->Nat->List V->Hp->Prop,(∃m,W 0 m [] (upd H D (.lst []))) /\ ∀i m a d,W i m a d ->
  (J.stop i d/\l D d)\/(J.go i d /\ ∀v h,J.Xk i d v h->j (some v::e) h λb g=>if b=true then
   k (some v::e) g λy f=>f D=some (.lst a)/\a.length<sizeLine /\ ∃c,c<m/\W (i+1) c (a++[y]) (upd f D (.lst (a++[y])))else ∃c,c<m/\W (i+1) c a g)
def XR(X:Cx)(a:List Expr)(b:TT):Prop:=
 ∀(π:List (Addr×Obj)) (s:Shared) (σ:St) (H:Hp) (Q:Bool->Hp->Prop),Inv X π σ H s->b σ H Q ->
  wpAny (model X.prog X.w) X.A (forIn a true λc r=>if r=true then do let d <-isTrue c X.env (eval c X.env);pure (ForInStep.yield d)else pure (ForInStep.yield r)) (TP X π σ Q) X.xe s
def Mm:TT:=λ_ H Q=>Q true H
theorem dN:XR X [] Mm:=λ_ _ _ H _ I h=>wpAny_tests_nil (H,I,h)
theorem lq{c:Expr}(h:PT X c L):XR X [c] L:=λ π s σ H Q I q=>wpAny_tests_one (h π s σ H Q I q)
def fV(X:Cx)(fn:Str->Bool)(N:List Str)(a:Scope)(c:List (Str×Addr))(C:Addr)(s:Shared)(H:Hp)(b:List Addr):Cx:=
 {bD X N a c C s H b with fn:=fn}
theorem Inv.compedG{fn:Str->Bool}{N:List Str}{C:Addr}{s':Shared}{a:St}{H':Hp}(I:Inv X π σ H s)(c:∀b∈l,gr X π H b)
  (J:Inv (fV X fn N scope n C s H l) [] a H' s'):Inv X π σ H' s':=by
 refine I.call' (ch:=l) (J.os.trans rfl) J.base J.hok J.bare λb d=>?_;obtain⟨j,h,i,g,f,e⟩:=c b d;exact(g,h,f,e)
theorem Gh{fn:Str->Bool}{x:Str}{pos:Pos}{iter:Expr}{J:It}{tn:Nat->Heap->Prop}{Qf:Addr->Hp->Prop}{C:Addr}{tk:Nat}
  {RR:Value->Addr->Result->Shared->Prop}(I:Inv X π σ H s)(hc:X.calm=true)(T:Turn X.prog X.w X.K (.Name x p) J l a tn)(hf:∀b∈l,gr X π H b)(Z:∀b∈l,b<s.heap.objs.size)(Y:s.heap.objs.size<=C)(eD:f=s.heap.objs.size)(a7:∀y c,n.lookup y=some c -> ∀b∈l,c≠b)
  (hg:PG (fV X fn (x::r.map (·.1)) scope n C s H l) (.Name x p) (gh 0))(ht:XR (fV X fn (x::r.map (·.1)) scope n C s H l) es L)(he:PE (fV X fn (x::r.map (·.1)) scope n C s H l) e ta)(rd:fY J (fJ r σ) L ta Qf H)
  (a8:∀f C s' H' m,Inv X π σ H' s'->s'.heap.Ns C m->gr X π H' C->Qf f H'->RR (.ref f) C (.ok .next) s')
  (I0:Inv (fV X fn (x::r.map (·.1)) scope n C s H l) [] (none::fJ r σ) (upd H f (.lst [])) {s with heap:=base,toks:=tk})(a4:tn 0 base):
  codeAny (model X.prog X.w) X.A (.compLoop (.ListComp e [(.Name x p,iter,es,0)] scope pos) 0 (.ref a) (.ref f) (compEnvC scope n C X.env)) (RR (.ref f) C) {s with heap:=base,toks:=tk}:=by
 obtain⟨W,⟨m0,w0⟩,a0⟩:=rd f (I.hok.fresh (ah8 eD.symm));refine codeAny_compLoop_tests (λB s'=>∃i N G H',Inv (fV X fn (x::r.map (·.1)) scope n C s H l) [] (G::fJ r σ) H' s'/\tn i s'.heap/\(∀b∈l,H' b=none)/\W i B N H') ?_ m0
  (0,[],none,_,I0,a4,λb E=>?_,w0)
 ·rintro B s3 ⟨i,N,G,H3,I3,U,XM,w3⟩;have XS:∀{H':Hp}{pi:List (Addr×Obj)},(∀b∈l,H' b=none)->(∀g∈pi,g.1∉l) -> ∀b∈l,gr (fV X fn (x::r.map (·.1)) scope n C s H l) pi H' b:=λ{H' pi} hn hp b E=>by
   obtain⟨f0,f1,f2,f3,f4,f5⟩:=hf b E;refine(hn b E,1,λz=>?_,.inl E,λy c k=>a7 y c k b E,λg a6 z=>?_)
   ·exact ae2 (aau (Z b E) Y)
   ·rcases aat.mp (I.stkSub b z)with q|q
    ·exact f1 q
    ·exact f2 q
   ·exact hp g (by simpa [fV,bD]using a6) (by rw[z];exact E)
  have clear:∀{α:Type}{t:Sem α}{Q:α->Shared->Prop}{E':Value->Shared->Prop}{s:Shared},wpAny (model X.prog X.w) X.A t Q (λ_ _=>False) s->wpAny (model X.prog X.w) X.A t Q E' s:=λh=>wpAny_mono h (λ_ _ z=>z) λ_ _ z=>z.elim;rcases a0 i B N H3 w3 with ⟨a1,qf⟩|⟨go,a2⟩
  ·refine VL (T.done (fV X fn (x::r.map (·.1)) scope n C s H l) rfl rfl rfl hc i [] s3 _ H3 _ I3 (XS XM (by simp)) U a1) λj s4 ⟨hr,I4⟩=>?_;subst hr;obtain⟨m4,YZ,_⟩:=id I4.loc;refine a8 f _ s4 H3 m4 (I.compedG hf I4) YZ ?_ qf;have gC:s.heap.objs.size<=C:=Y;exact I.fpOk gC I4.free
  ·refine clear (VL (T.item (fV X fn (x::r.map (·.1)) scope n C s H l) rfl rfl rfl hc i [] s3 _ H3 (λ_ _=>False) I3 (XS XM (by simp)) U go) λj s4 ⟨u,hr,h4⟩=>?_);subst hr;refine clear (show wpAny (model X.prog X.w) X.A (pure () >>= λ_=>assign (.Name x p) (compEnvC scope n C X.env) u) _ _ s4 from wpAny_bind (VL (h4:wpAny (model X.prog X.w) X.A (pure ()) _ _ s4) λ_ s5 ⟨v,H5,I5,r5,y5,WF,YB⟩=>?_));have YC:=I5.pinned (XS YB (by simp)) (T.obj _ _ WF);refine VL (hg _ s5 (G::fJ r σ) H5 v u (λ a3 H2=>a3=some v::fJ r σ/\H2=H5) YC r5 (show _/\_ from (7,7))) λ_ s6 ⟨a9,H6,I6,e6,e7⟩=>?_;subst e6 e7;have q6:=a2 v _ y5;have F:∀{O:Hp}{P:Shared}{G:Option V}{zs:List V}{M:Nat},Inv (fV X fn (x::r.map (·.1)) scope n C s H l) ([]++o7 l s5.heap) (G::fJ r σ) O P->M<B->W (i+1) M zs O ->
     ∃m,m<B /\ ∃i N G H',Inv (fV X fn (x::r.map (·.1)) scope n C s H l) [] (G::fJ r σ) H' P/\tn i P.heap/\(∀b∈l,H' b=none)/\W i m N H':=λ{O P G zs M} R S w7=>by
    refine(M,S,i+1,zs,G,O,R.ξ,T.keep _ _ _ WF λb E o k=>(R.pin (pq b o) (aap _ (aap _ (fD E k)))).1,λb E=>?_,w7);obtain⟨o,k,d⟩:=T.obj _ _ WF b E;exact(R.pin (pq b o) (aap _ (aap _ (fD E k)))).2.1
   refine clear (VL (ht _ s6 _ H6 _ I6 q6) λok P ⟨O,R,q7⟩=>?_);cases ok with
   |false=>
    obtain⟨M,S,w7⟩:=(show ∃M,M<B/\W (i+1) M N O from q7);exact F R S w7
   |true=>
    refine clear (VL (he _ P _ O _ R q7) λxv s8 ⟨y,H8,I8,r8,Zy,a5,M,S,w8⟩=>?_);refine clear (VL (bW _ s8 _ H8 (.ref f) [y] (.ref f) [xv] (λ_ H9=>H9=upd H8 f (.lst (N++[y]))) I8 rfl (.cons r8 .nil) (f,N,y,7,7,Zy,a5,7)) λ_ s9 ⟨_,H9,I9,_,e9⟩=>?_);subst e9;exact F I9 S w8
 ·rw[aK (by rw[eD];exact ae2 (Z b E))];exact(hf b E).1
theorem yL{x:Str}{pos:Pos}{iter:Expr}{J:It}{G:Nat->Heap->Prop}{Z:Addr->Hp->Prop}
  {RR:Value->Addr->Result->Shared->Prop}{E:Value->Shared->Prop}(I:Inv X π σ H s)(hc:X.calm=true)(k:bU X x r scope n)(T:Turn X.prog X.w X.K (.Name x p) J l a G)(st:G 0 s.heap)(N:∀b∈l,gr X π H b)
  (ht:∀C M S Q,XR (bD X (x::r.map (·.1)) scope n C M S Q) es L)(he:∀C M S Q,PE (bD X (x::r.map (·.1)) scope n C M S Q) e ta)(rd:fY J (fJ r σ) L ta Z H)
  (U:∀D C s' H' m,Inv X π σ H' s'->s'.heap.Ns C m->gr X π H' C->Z D H'->RR (.ref D) C (.ok .next) s'):
  wpAny (model X.prog X.w) X.A (newList []) (λB s3=>wpAny (model X.prog X.w) X.A (newFunctionEnv scope X.env.globals n [] X.env.qual none .none (some X.env)) (λj s4=>
   codeAny (model X.prog X.w) X.A (.compStart (.ListComp e [(.Name x p,iter,es,0)] scope pos) 0 (.ref a) B {j with scope:=relabel scope X.env}) (RR B j.locals) s4) E s3) E s:=by
 have z:∀b∈l,b<s.heap.objs.size:=λb O=>by
  obtain⟨o,d,_⟩:=T.obj _ _ st b O;exact Heap.lt_size d
 refine wpAny_newObj_type (wpAny_newFunctionEnv k.ρ (by intro y hy;simp at hy) (λP q f=>?_) k.kind);dsimp only at q f ⊢;obtain⟨D,t⟩:∃D:Nat,D=s.heap.objs.size:=(_,7)
 obtain⟨R,F⟩:∃g,g=s.heap.push {cls:=.type "list",dict:=none,data:=.seq ([]:List Value).toArray}:=(_,7)
 rw[<-F]at q f ⊢;rw[<-t];have Y:R.objs.size=D+1:=by rw[F,Heap.size_push,t]
 have v:s.heap.objs.size<=R.objs.size:=by rw[Y,t];exact ahd _
 have V:D≠R.objs.size:=by rw[Y];exact ae2 (agM _)
 have W:∀b o,s.heap.get? b=some o->P.get? b=some o:=λb o d=>by
  refine f.extBut b o (ae2 (aau (Heap.lt_size d) v)) (Heap.get?_push_of_some _ ?_);rw[F];exact Heap.get?_push_of_some _ d
 have hL:P.get? D=some {cls:=.type "list",data:=.seq #[]}:=by
  refine f.extBut D _ ⋯ (Heap.get?_push_of_some _ ?_);rw[F,t];exact Heap.get?_push_size _ rfl
 have u:G 0 P:=T.keep _ _ _ st λb _ o d=>W b o d;have h:=Gh (fn:=λ_=>false) (pos:=pos) (iter:=iter) (RR:=RR) I hc T N z v t (λy c d b O=>(N b O).2.2.2.2.1 y c (k.cls y c d)) (km (i:=0) k.nd rfl (agH (lookup_relabel_local k.hx)) (ahH (lookup_relabel_local k.hx))) (ht _ _ _ _) (he _ _ _ _) rd U (I.comp (tk:=s.toks+([]:List (Str×Value)).length) k N z ⋯ ⋯ V W q hL) u;exact codeAny_compStart_list h (T.self _ 0 _ _ _ u h)
def K6(a:List (Str×Nat))(b:TT)(c:TE)(σ:St)(Q:VK):It->Hp->Prop:=λJ d=>fY J (fJ a σ) b c (λD e=>Q (.ref D) e) d
def LQ(b:TI)(a:List (Str×Nat))(c:TT)(d:TE):TE:=λ σ H Q=>b σ H (K6 a c d σ Q)
theorem kE{x:Str}{pos:Pos}{iter:Expr}{u:TI}(K:X.calm=true)(g:bU X x r scope n)(F:PI X (.Name x p) iter u)
  (ht:∀C f j i,XR (bD X (x::r.map (·.1)) scope n C f j i) es L)(G:∀C f j i,PE (bD X (x::r.map (·.1)) scope n C f j i) e ta)(B:∀x,foldedSetIterable iter X.env x=pure x:=by intro _;rfl):
  PE X (.ListComp e [(.Name x p,iter,es,0)] scope pos) (LQ u r L ta):=by
 intro π s σ H Q I h;rw[eval_ListComp];refine wpAny_comprehension_free (use:=none) rfl B g.clos g.kind g.names (VL (F π s σ H _ I h) λv f O=>VL O λV Y N=>?_);obtain⟨Z,fp,W,J,H2,a,R,T,k,P,z⟩:=N;subst a;refine yL (RR:=λt C=>compPost (model X.prog X.w) X.A X.xe none (EP X π σ Q) t C) R K g T k P ht G z ?_;intro D C y U m S E c q;exact(m,E,λl d=>(.ref D,U,S.turned (h':=l) (t':=y.toks) (λb o M a=>d.extBut b o M a) c.1 c.2.1 c.2.2.2.1 c.2.2.2.2.1 c.2.2.2.2.2,7,q))
theorem eN{i:Nat}{y x:Str}{pos d:Pos}{iter:Expr}{O:TI}(hN:X.N.Nodup)(Zz:X.N[i]?=some y)(P:X.env.scope.names.lookup y=some .local)(hc:X.calm=true)
  (t:bU X x r scope n)(Z:PI X (.Name x p) iter O)
  (ht:∀C l B u,XR (bD X (x::r.map (·.1)) scope n C l B u) es L)(he:∀C l B u,PE (bD X (x::r.map (·.1)) scope n C l B u) e ta)
  (G:swapsWith (.ListComp e [(.Name x p,iter,es,0)] scope pos) (some (.Name y apos)) d.line X.env=pure true:=by rfl)(V:∀x,foldedSetIterable iter X.env x=pure x:=by intro _;rfl):
  PS X (.Assign [.Name y apos] (.ListComp e [(.Name x p,iter,es,0)] scope pos) d) (Cq (LQ O r L ta) (gh i)):=by
 intro π s σ H R I h;rw[exec_Assign_Name_used _ _ _ _ G];refine wpAny_bind (wpAny_standAt (wpAny_bind ?_));show wpAny _ X.A (do let _ <-comprehension (.ListComp e [(.Name x p,iter,es,0)] scope pos) scope X.env _ (newList []) false (eval iter X.env) (some (assign (.Name y apos) X.env))) _ _ s;refine wpAny_bind (wpAny_mono (wpAny_comprehension_free (use:=some (assign (.Name y apos) X.env)) (Q:=λ_ g=>SP X π R .next g) rfl V t.clos t.kind t.names
  (VL (Z π s σ H _ I h) λv l h1=>VL h1 λa0 s2 h2=>?_)) (λ_ g W=>wpAny_pure (wpAny_pure W)) λ_ _ c=>c)
 obtain⟨it,fp,tn,J,H2,c,I2,T,E,f2,U⟩:=h2;subst c;refine yL (RR:=λM C=>compPost (model X.prog X.w) X.A X.xe (some (assign (.Name y apos) X.env)) (λ_ g=>SP X π R .next g) M C) I2 hc t T E f2 ht he U ?_;intro D C g H' m I' Y f q;show wpAny _ X.A (assign (.Name y apos) X.env (.ref D)) _ _ _;refine wpAny_assign_Name (nP (v:=.ref D) I' hN Zz (.inl P) rfl (λF ZC ch=>(m,1,λK k=>?_)) (.inr P))
 ·obtain⟨a,S,j⟩:=ch;refine Y.sameBut S λz=>?_;rcases j with j|j
  ·exact f.2.1 (z.trans j)
  ·exact f.2.2.2.2.1 _ a j z.symm
 ·exact(_,H',ZC.turned (h':=K) (t':=F.toks) (λb o hb c=>k.extBut b o hb c) f.1 f.2.1 f.2.2.2.1 f.2.2.2.2.1 f.2.2.2.2.2,q)
theorem kI{env:Env}{y:Str}{k:NameKind}(h:(relabel scope env).names.lookup y=some k):∃k0,(pq y k0)∈scope.names/\(k=k0\/(k0=.free/\k=.cell)):=by
 have h:=PySem.mem_of_lookup h;obtain⟨⟨n,k0⟩,b,e⟩:=aaz.mp (show (pq y k)∈scope.names.map _ from h);by_cases c:(k0==NameKind.free&&env.scope.kind == .function&&env.kindOf n==some .cell)=true
 ·have a:(pq n NameKind.cell)=(pq y k):=by rw[<-e];exact(if_pos c).symm
  have d:k0=.free:=by
   simp only[ahA]at c;exact eq_of_beq c.1.1
  cases a;exact(_,b,.inr (d,7))
 ·have a:(pq n k0)=(pq y k):=by rw[<-e];exact(if_neg c).symm
  cases a;exact(_,b,.inl rfl)
section
variable{x:Str}
theorem bU.zero(a:∀y∈scope.names,y.2 ≠ .free:=by decide)(i:∀y∈scope.names,y.2 ≠ .cell:=by decide)(d:scope.kind=.function:=by rfl)(b:∀y∈scope.names,y.2=.local->scope.names.lookup y.1=some .local:=by decide)
  (k:scope.names.lookup x=some .local:=by rfl):bU X x [] scope []:=by
 refine(d,i,b,k,closureFor_none a,λy c e=>(by cases e),λy f=>?_,by simp,λy j h=>nomatch h);rcases f with f|f
 all_goals
  obtain⟨l,g,e⟩:=kI f;rcases e with e|⟨e,_⟩
  ·subst e
   first|exact absurd rfl (i _ g) | exact absurd rfl (a _ g)
  ·subst e;exact absurd rfl (a _ g)
theorem bU.one{y:Str}{j:Nat}{c:Addr}(t:X.N[j]?=some y)(s:X.env.scope.names.lookup y=some .cell\/X.env.scope.names.lookup y=some .free)(u:X.env.cells.lookup y=some c)(k:closureFor scope X.env=pure [(pq y c)])
  (r:(relabel scope X.env).names.lookup y=some .cell\/(relabel scope X.env).names.lookup y=some .free)
  (a:∀z∈scope.names,z.2=.free->z.1=y:=by decide)(o:∀y∈scope.names,y.2 ≠ .cell:=by decide)(g:scope.kind=.function:=by rfl)(b:∀y∈scope.names,y.2=.local->scope.names.lookup y.1=some .local:=by decide)
  (q:scope.names.lookup x=some .local:=by rfl)(p:[x,y].Nodup:=by decide):bU X x [(pq y j)] scope [(pq y c)]:=by
 have f:([(pq y c)]:List (Str×Addr)).lookup y=some c:=by simp
 refine(g,o,b,q,k,λz d e=>?_,λz l=>?_,p,λz i h=>?_)
 ·have:=PySem.mem_of_lookup e;cases aao.mp this;exact u
 ·have n:z=y:=by
   rcases l with l|l
   all_goals
    obtain⟨v,m,e⟩:=kI l;rcases e with e|⟨e,_⟩
    ·subst e
     first|exact absurd rfl (o _ m) | exact a _ m rfl
    ·subst e;exact a _ m rfl
  subst n;exact(c,f)
 ·cases aao.mp h;exact(t,s,r)
end
section
variable{w:World}{R:Result->Shared->Prop}{I:Addr}{fp wr:List Addr}{n:Nat}{P:Nat->Value->Prop}{St:Nat->Heap->Prop}{kw:List (Str×Value)}
theorem Ir(W:Walks prog w A.in1 I fp wr n P St)(h:Nat->Nat->Bool)(H:CmpOf prog w A.in1 .Lt P h)(r:S∉fp):
  ∀(k j:Nat) (s:Shared) (x:Value) (c:Nat),j+1+k=n->St (j+1) s.heap->P (argBest h j) x->s.heap.get? S=some {cls:=.type "list",data:=.seq #[x,x] c} ->
   (∀v g t,P (argBest h (n-1)) v->(∀b o,b∉wr->b≠S->s.heap.get? b=some o->g.get? b=some o)->R (.ok (.ret v)) {s with heap:=g,toks:=t}) ->
   codeAny (model prog w) A (.builtin "min.loop" ([.ref I,.none,.ref S],kw)) R s:=by
 have p:S∉wr:=λz=>r (W.sub _ z)
 have J:(toString "min" ++ toString ".loop" : String) = "min.loop":=by decide
 intro k
 induction k with
 |zero=>
  intro j s x c M C u l d;have L:j+1=n:=M;refine codeAny_builtin PySem.F.entry_min_loop ?_;rw[Around.under_plainId PySem.F.plain_min_loop _];show wpAny _ A.in1 (seqItems? (.ref S) >>= _) _ _ s;refine wpAny_bind (wpAny_seqItems l rfl ?_);show wpAny _ A.in1 (tryCatch (pyNext (.ref I)) _ >>= _) _ _ s;refine wpAny_bind (wpAny_tryCatch (W.done s _ _ (L ▸ C) λg t f=>?_));have a:=f S _ p l;show wpAny _ A.in1 (updateSeq S (λ_=>#[]) >>= _) _ _ _;refine wpAny_bind (wpAny_updateSeq a rfl (wpAny_bind (wpAny_letGo (wpAny_pure ?_))));exact d x _ t (by rw[<-L];exact u) λb o e i q=>(Heap.get?_update_other _ _ (agB i)).trans (f b o e q)
 |succ k K=>
  intro j s x c M C u l d;have O:j+1<n:=by lia
  refine codeAny_builtin PySem.F.entry_min_loop ?_;rw[Around.under_plainId PySem.F.plain_min_loop _];show wpAny _ A.in1 (seqItems? (.ref S) >>= _) _ _ s;refine wpAny_bind (wpAny_seqItems l rfl ?_);show wpAny _ A.in1 (tryCatch (pyNext (.ref I)) _ >>= _) _ _ s;refine wpAny_bind (wpAny_tryCatch (W.item (j+1) s _ _ O C λv g t pv m f=>?_));have a:=f S _ p l;show wpAny _ A.in1 (tryCatch (holding [v,v] (richCompare .Lt v x >>= _)) _ >>= _) _ _ _;refine wpAny_bind (wpAny_tryCatch (wpAny_holding (wpAny_bind (H (j+1) (argBest h j) v x _ _ _ pv u ?_))));refine wpAny_bind (wpAny_holding (wpAny_truthy_bool (wpAny_bind (wpAny_letGo (wpAny_pure ?_)))));cases N:h (j+1) (argBest h j)with
  |true=>
   simp only[if_true];refine wpAny_bind (wpAny_updateSeq a rfl (wpAny_bind (wpAny_letGo ?_)));rw[J];refine wpAny_pure (plainId_quiet PySem.F.plain_min_loop _,K (j+1) _ v _ ⋯ (W.frame _ _ _ m λb Q o q=>?_) (by simp only[argBest,N,if_true];exact pv) (Heap.get?_update_self _ a rfl) λy G B D E=>?_)
   ·exact(Heap.get?_update_other _ _ (λz:S=b=>r (by rw[z];exact Q))).trans q
   ·exact d y G B D λb o e i q=>E b o e i ((Heap.get?_update_other _ _ (agB i)).trans (f b o e q))
  |false=>
   simp only[agw,if_false];refine wpAny_bind (wpAny_letGo ?_);rw[J];refine wpAny_pure (plainId_quiet PySem.F.plain_min_loop _,K (j+1) _ x c ⋯ m (by simp only[argBest,N,agw,if_false];exact u) a λy G B D E=>?_);exact d y G B D λb o e i q=>E b o e i (f b o e q)
theorem Gf(W:Walks prog w A.in1 I fp wr n P St)(e:Nat->Nat->Bool)(j:CmpOf prog w A.in1 .Lt P e)(a:S∉fp)(C:0<n){s:Shared}{c:Nat}(st:St 0 s.heap)
  (l:s.heap.get? S=some {cls:=.type "list",data:=.seq #[] c})
  (i:∀v g t,P (argBest e (n-1)) v->(∀b o,b∉wr->b≠S->s.heap.get? b=some o->g.get? b=some o)->R (.ok (.ret v)) {s with heap:=g,toks:=t}):
  codeAny (model prog w) A (.builtin "min.loop" ([.ref I,.none,.ref S],kw)) R s:=by
 have h:S∉wr:=λz=>a (W.sub _ z)
 have x:(toString "min" ++ toString ".loop" : String) = "min.loop":=by decide
 refine codeAny_builtin PySem.F.entry_min_loop ?_;rw[Around.under_plainId PySem.F.plain_min_loop _];show wpAny _ A.in1 (seqItems? (.ref S) >>= _) _ _ s;refine wpAny_bind (wpAny_seqItems l rfl ?_);show wpAny _ A.in1 (tryCatch (pyNext (.ref I)) _ >>= _) _ _ s;refine wpAny_bind (wpAny_tryCatch (W.item 0 s _ _ C st λv g t pv f k=>?_));have d:=k S _ h l;show wpAny _ A.in1 (updateSeq S (λ_=>#[v,v]) >>= _) _ _ _;refine wpAny_bind (wpAny_updateSeq d rfl ?_);rw[x];refine wpAny_pure (plainId_quiet PySem.F.plain_min_loop _,Ir W e j a (n-1) 0 _ v _ ⋯ (W.frame _ _ _ f λb E o q=>?_) pv (Heap.get?_update_self _ d rfl) λy D r u B=>?_)
 ·exact(Heap.get?_update_other _ _ (λz:S=b=>a (by rw[z];exact E))).trans q
 ·exact i y D r u λb o p m q=>B b o p m ((Heap.get?_update_other _ _ (agB m)).trans (k b o p q))
end
theorem Jb(a v:Value):argsOk "min" ⟨[a],[(pq (Str.ofString "default") v)]⟩:=by unfold argsOk;kernel_rfl
section
variable{w:World}{l:Addr}{zs:Array (Int×Tok)}
theorem sI{Q:Value->Shared->Prop}(u:A.handled=none)(p:s.heap.IsList l (intItems zs))(a:0<zs.size)
  (h:∀v g t,(intItems zs)[argBest (λi j=>decide (numAt zs i<numAt zs j)) (zs.size-1)]?=some v->(∀b o,s.heap.get? b=some o->g.get? b=some o)->Q v {s with heap:=g,toks:=t}):
  wpAny (model prog w) A (call (.builtin "min") [.ref l] [(pq (Str.ofString "default") cd)]) Q E s:=by
 have r:(toString "min" ++ toString ".loop" : String) = "min.loop":=by decide
 refine PyProof.Rows.kmk_tree PySem.F.kind_min PySem.F.plain_min PySem.F.entry_min (Jb _ _) ?_
 refine wpAny_bind (wpAny_of_eq (show Builtin.Builtins.bindParams "min" ["key","default"] 0 ⟨[],[(pq (Str.ofString "default") cd)]⟩=pure [none,some cd]from rfl) ?_)
 refine wpAny_bind (wpAny_pure (wpAny_bind (iter_intList p λy e x f c=>?_)));subst e;refine wpAny_bind (wpAny_newObj_type ?_);rw[r];have m:(intItems zs).size=zs.size:=by simp[intItems]
 refine wpAny_pure (plainId_quiet PySem.F.plain_min_loop _,Gf (Walks.list (A:=A.in1) u _ l c (intItems zs)) _ (CmpOf.ints_lt (numAt zs) (λ_ _=>intItems_at)) (λz=>agg _ (f _ z)) (by rw[m];exact a)
  ((_,Heap.get?_push_of_some _ (Heap.get?_push_size _ rfl),7,7),(p.push _).push _) (Heap.get?_push_size _ rfl) λv g t n k=>?_)
 refine h v g t (by rw[m]at n;exact n) λb o q=>k b o ?_ ?_ (Heap.get?_push_of_some _ (Heap.get?_push_of_some _ q))
 ·exact λz=>absurd (Heap.lt_size q) (by rw[aao.mp z];exact agg _)
 ·refine ae2 (aau (Heap.lt_size q) ?_);rw[Heap.size_push];exact ahd _
end
def N8(M:Int)(ns:List Int):Prop:=M∈ns /\ ∀a∈ns,M<=a
theorem Ly{ns:List Int}{c:List Value}{zs:Array (Int×Tok)}(l:IntsAre c ns)(e:c.toArray=intItems zs)(f:0<ns.length):0<zs.size/\N8 (numAt zs (argBest (λi j=>decide (numAt zs i<numAt zs j)) (zs.size-1))) ns:=by
 have b:ns=zs.toList.map (·.1):=by rw[<-l.numsOf,<-nums_intItems,<-e]
 have d:0<zs.size:=by
  have h:=f;rw[b,aaa,aag]at h;exact h
 obtain⟨n,m⟩:=argBest_lt (numAt zs) (zs.size-1);refine(d,1,λa g=>?_)
 ·rw[b,numAt_eq];exact getD_mem (by rw[aaa,aag];lia)
 ·rw[b]at g;obtain⟨j,k,rfl⟩:=mem_getD g;rw[aaa,aag]at k;rw[<-numAt_eq];exact m j ⋯
inductive Pg(K:PySem.W.Frag)(Q:VK)(vs:List V)(_:V)(H2:Hp):Prop
 | mk (p:Addr) (ns:List Int) (_:vs=[.ref p]) (_:My K H2 p !!ns) (_:0<ns.length) (_:∀M,N8 M ns->Q (.int M) H2)
def O1(K:PySem.W.Frag)(b:TE)(σ:St)(Q:VK):List V->Hp->Prop:=λa c=>b σ c (Pg K Q a)
def Ug(K:PySem.W.Frag)(c:TA)(b:TE):TE:=λ a H Q=>c a H (O1 K b a Q)
theorem QK{a :Expr}{p pos :Pos}(T:X.calm=true)(R:Gl X "min")(P:X.mg "min" = none)(U:PA X [a] t)(hd:PE X e ta)
  (j:bootBuiltins "min" = some (.builtin "min"))
  (S:backTo pos (starEach [a] X.env)=(pq false (eval a X.env))::backTo pos (starEach [] X.env):=by rfl)(m:(backTo pos (starEach [a] X.env)).any (·.1)=false:=by rfl)
  (w:(backToKw pos (keywordEach [(some (Str.ofString "default"),e,apos)] X.env)).filterMap (·.1)=[Str.ofString "default"]:=by rfl)
  (i:(backToKw pos (keywordEach [(some (Str.ofString "default"),e,apos)] X.env)).all (·.1.isSome)=true:=by rfl)
  (r:(backToKw pos (keywordEach [(some (Str.ofString "default"),e,apos)] X.env)).any (·.1.isNone)=false:=by rfl):
  PE X (.Call (.Name "min" p) [a] [(some (Str.ofString "default"),e,apos)] pos) (Ug X.K t ta):=by
 intro z s y H Q I h;refine wpAny_Call_Name_kw (gf I R P j ?_);refine PyProof.Rows.callWith_kw (VL (U pos z s y H _ I h) λus A ⟨vs,Y,V,F,M⟩=>?_) S m i r;show wpAny _ _ (evalAll ((do let v <-eval e X.env;standAt pos;pure v)::[])) _ _ A;refine wpAny_evalAll_cons (wpAny_bind (VL (hd z A y Y _ V M) λdv s2 ⟨x,W,C,_,L⟩=>wpAny_bind (wpAny_standAt (wpAny_pure (wpAny_evalAll_nil ?_)))));obtain⟨b,ns,rfl,O,n,q⟩:=L;obtain⟨u,rfl,E⟩:=vals1 F;cases E;rw[w];obtain⟨Z,G,N,hz⟩:=C.list O;have B:=intsAre_of G;obtain⟨J,c⟩:=B.allInts.items;obtain⟨l,o⟩:=Ly B c n;refine sI (zs:=J) (I.ok.hd T) (by rw[<-c];exact N.isList) l λv g f j k=>?_;obtain⟨D,rfl⟩:=intItems_at j;exact(.int _,W,C.kept (t':=f) k,(D,7),q _ o)
def Yq(lo st:Int)(n:Nat):It:=(λi _=>i<n,λi H x a=>a=H/\x=.int (lo+i*st),λi _=>n<=i)
theorem oG{P:Program}{w:World}{K:PySem.W.Frag}(c:Addr)(lo st:Int)(n:Nat):Turn P w K e (Yq lo st n) [c] c (λi h=>IsRangeIter h c (lo+(i:Nat)*st) ((n:Int)-(i:Nat)) st) where
 mem:=by simp
 obj:=λi h q b d=>by
  have a:b=c:=by simpa using d
  subst a;exact(_,q,λv z=>by
   have J:Data.fields _=Data.cell v:=z;cases J)
 keep:=λi h g q k=>k c (by simp) _ q
 item:=by
  intro X p j r m i D s C H E I f q l;subst p j r;obtain⟨B,A,N,y,x,u⟩:=f c (by simp);have W:=Walks.range (prog:=X.prog) (w:=X.w) (I.ok.hd m) c lo st n;refine W.item i s _ _ l q λv g F M G L=>?_;obtain⟨t,rfl⟩:=M;have Q:Inv X D C H {s with heap:=g,toks:=F}:=I.turned (λb o d a=>L b o (by simpa using d) a) B A y x u
  exact(9,tO (s:={s with heap:=g,toks:=F}) (n := "range_iterator") G rfl rfl ∅ (.int (lo+i*st),H,Q,(t,7),(7,7),G,λb d=>(f b d).1))
 done:=by
  intro X p j r m i D s C H E I f q l;subst p j r;obtain⟨B,A,N,y,x,u⟩:=f c (by simp);exact wpAny_pyNext_range_end (I.ok.hd m) q (by have:n<=i:=l;lia) λg O=>(7,I.turned (t':=s.toks) (λb o d a=>O b o d a) B A y x u)
 self:=λ_ _ _ _ _ q h=>wpAny_pyIter_rangeiter q h
inductive PL(R:It->Hp->Prop)(vs:List V)(H1:Hp):Prop
 | mk (b:Nat) (_:vs=[.int 0,.int (b:Int),.int 32]) (_:b<536870912) (_:R (Yq 0 32 ((b+31) / 32)) H1)
def U7(b:TA):TI:=λ a H R=>b a H (PL R)
theorem Hq(b:Nat):Builtin.Range.rangeSize 0 b 32=(((b+31) / 32:Nat):Int):=by
 unfold Builtin.Range.rangeSize;rw[if_pos ∅];split<;>lia
theorem gn{p q:Bool}(b:p=true)(a:q=true):(p&&q)=true:=by rw[b,a];rfl
theorem Oi{b:Nat}(h:b<536870912):Builtin.Range.small 0 b 32=true:=by
 unfold Builtin.Range.small Builtin.Range.rangeFitsLong;rw[Hq];generalize a:(((b+31) / 32:Nat):Int)=n;have c:n<=16777216:=by lia
 have d:0<=n:=by lia
 have e:(2:Int)^63=9223372036854775808:=by decide
 rw[e,if_pos ∅];refine gn (gn (gn (gn ∅ (gn (decide_eq_true ?_) (decide_eq_true ?_))) ∅) (gn (decide_eq_true ?_) (decide_eq_true ?_))) ?_
 ·lia
 ·lia
 ·lia
 ·lia
 ·rw[ah1];exact .inr (gn (decide_eq_true ⋯) (decide_eq_true ⋯))
theorem yN{a b c:Expr}{p pos:Pos}(D:Gl X "range")(C:X.mg "range" = none)(F:PA X [a,b,c] t)(B:starEach [a,b,c] X.env=[(pq false (eval a X.env)),(pq false (eval b X.env)),(pq false (eval c X.env))]:=by rfl)
  (j:starEach [b,c] X.env=[(pq false (eval b X.env)),(pq false (eval c X.env))]:=by rfl):PI X tg (.Call (.Name "range" p) [a,b,c] [] pos) (U7 t):=by
 intro u s n H R I h;refine Call_ (gf I D C boot_range (PyProof.Rows.callWith_type1 (VL (F pos u s n H _ I h) λM g ⟨L,v,K,w,z⟩=>?_) (by rw[B,j]) (by rw[j];rfl)));obtain⟨y,e,A,q⟩:=z;subst e;cases w with
 |cons r i=>
  cases i with
  |cons x i=>
   cases i with
   |cons m i=>
    cases i;obtain⟨d,rfl⟩:=r;obtain⟨k,rfl⟩:=x;obtain⟨f,rfl⟩:=m;refine call_range_3 ∅ ?_ (.inl (PyProof.noPylong_small ⋯));refine wpAny_pyIter_range (IsRange.new ..) (Oi A) ?_
    have l:Inv X u n v {g with heap:=g.heap.push {cls:=.type "range",data:=.fields #[.int 0 d,.int y k,.int 32 f]},toks:=g.toks}:=K.kept λb o e=>Heap.get?_push_of_some _ e
    refine((g.heap.push {cls:=.type "range",data:=.fields #[.int 0 d,.int y k,.int 32 f]}).objs.size,[(g.heap.push {cls:=.type "range",data:=.fields #[.int 0 d,.int y k,.int 32 f]}).objs.size],_,_,v,7,
     l.kept (t':=g.toks) λb o e=>Heap.get?_push_of_some _ e,oG _ 0 32 ((y+31) / 32),1,λb E=>?_,q)
    ·have J:(0:Int)+((0:Nat):Int)*32=0:=by decide
     have G:(((y+31) / 32:Nat):Int)-((0:Nat):Int)=Builtin.Range.rangeSize 0 y 32:=by rw[Hq];simp
     show IsRangeIter _ _ ((0:Int)+((0:Nat):Int)*32) ((((y+31) / 32:Nat):Int)-((0:Nat):Int)) 32;rw[J,G];exact Heap.get?_push_size _ rfl
    ·have e:b=(g.heap.push {cls:=.type "range",data:=.fields #[.int 0 d,.int y k,.int 32 f]}).objs.size:=by simpa using E
     subst e;exact l.fpOk (aae _) (l.hok.fresh (aae _))
theorem qg{lo st:Int}{n:Nat}{g:TG}{h:TS}{σ:St}(a:Nat->St->Hp->Prop)(o:a 0 σ H)
  (l:∀(i:Nat) σ H,i<n->a i σ H->g (.int (lo+i*st)) σ H λ b f=>h {R with nx:=a (i+1),ct:=a (i+1),bk:=R.nx} b f)(hd:∀σ H,a n σ H->R.nx σ H):
  ∃W:Nat->Nat->St->Hp->Prop,(∃m,W 0 m σ H) /\ ∀i m σ H,W i m σ H ->
   ((Yq lo st n).stop i H/\R.nx σ H)\/((Yq lo st n).go i H /\ ∃N:St->Hp->Prop,(∀c H',N c H' -> ∃j,j<m/\W (i+1) j c H') /\ ∀x H',(Yq lo st n).Xk i H x H'->g x σ H' λ b f=>h {R with nx:=N,ct:=N,bk:=R.nx} b f):=by
 exists λi m σ H=>m=n-i/\i<=n/\a i σ H,(n,by simp,aaH _,o);rintro i m σ H ⟨rfl,q,p⟩;by_cases d:i<n
 ·refine .inr (d,a (i+1),λ c H' k=>(n-(i+1),6,7,d,k),λx H' y=>?_);obtain⟨rfl,rfl⟩:=y;exact l i σ _ d p
 ·have e:i=n:=by lia
  subst e;exact .inl (aae _,hd σ H p)
def Y0(K:PySem.W.Frag)(a:Addr)(xs:List V):It:=
 (λi H=>My K H a xs/\i<xs.length,λi H x b=>b=H/\xs[xs.length-1-i]?=some x,λi _=>xs.length<=i)
theorem MP{P:Program}{w:World}{K:PySem.W.Frag}(a j:Addr)(xs:List V):Turn P w K e (Y0 K a xs) [j] j (λi h=>i<=xs.length/\h.IsRevIter j a ((xs.length:Int)-1-(i:Nat))) where
 mem:=by simp
 obj:=λi h g b l=>by
  have f:b=j:=by simpa using l
  subst f;obtain⟨_,o,f,c,d⟩:=g;exact(o,f,λv z=>by rw[d]at z;cases z)
 keep:=λi h q g k=>(g.1,g.2.at λo f=>k j (by simp) o f)
 item:=by
  intro X y r A O i M s L H E I n g t;subst y r A;obtain⟨U,hi⟩:=t;obtain⟨a0,R,p,hz⟩:=I.list U;obtain⟨x,N⟩:∃x,xs[xs.length-1-i]?=some x:=(_,aac ⋯);obtain⟨u,T,S⟩:=R.get N;obtain⟨G,F,Y,D,C,B⟩:=n j (by simp);obtain⟨J,g⟩:=g;have f:(xs.length:Int)-1-(i:Nat)=((xs.length-1-i:Nat):Int):=by lia
  rw[f]at g;refine wpAny_pyNext_rev_item g p.isList (x:=u) (by simpa using T) λq m Q=>?_;have I1:Inv X M L H {s with heap:=q}:=I.turned (t':=s.toks) (λb o l f=>(Q.2 b l).trans f) G F D C B;have e2:((xs.length-1-i:Nat):Int)-1=(xs.length:Int)-1-((i+1:Nat):Int):=by lia
  rw[e2]at m;obtain⟨o,f,c,d⟩:=id m;exact(u,7,tO (s:={s with heap:=q}) f c d ∅ (x,H,I1,S,(7,N),(6,m),λb l=>(n b l).1))
 done:=by
  intro X y r A O i M s L H E I n g t;subst y r A;obtain⟨G,F,Y,D,C,B⟩:=n j (by simp);obtain⟨J,g⟩:=g;have f:(xs.length:Int)-1-(i:Nat) = -1:=by have:xs.length<=i:=t;lia
  rw[f]at g;exact wpAny_pyNext_rev_end (I.ok.hd O) g λq Z=>(7,I.turned (t':=s.toks) (λb o l f=>Z b o l f) G F D C B)
 self:=λ_ _ _ _ _ g h=>wpAny_pyIter_revIter g.2 h
inductive RL(K:PySem.W.Frag)(R:It->Hp->Prop)(vs:List V)(H1:Hp):Prop
 | mk (a xs:_) (_:vs=[.ref a]) (_:My K H1 a xs) (_:R (Y0 K a xs) H1)
def Vj(K:PySem.W.Frag)(b:TA):TI:=λ a H R=>b a H (RL K R)
theorem Gq{a:Expr}{p pos:Pos}(C:Gl X "reversed")(B:X.mg "reversed" = none)(E:PA X [a] t)(y:bootBuiltins "reversed" = some (.type "reversed"))(z:starEach [a] X.env=[(pq false (eval a X.env))]:=by rfl):
  PI X tg (.Call (.Name "reversed" p) [a] [] pos) (Vj X.K t):=by
 intro k s j H R I h;refine Call_ (gf I C B y (PyProof.Rows.callWith_type1 (VL (E pos k s j H _ I h) λJ d ⟨G,m,i,v,w⟩=>?_) z rfl));obtain⟨b,g,e,A,q⟩:=w;subst e;obtain⟨u,rfl,n⟩:=vals1 v;cases n;obtain⟨f,r,x,L⟩:=i.list A;refine call_reversed_list x.isList ?_;have M:=r.length;have l:({d with heap:=d.heap.push (revObj b ((f.toArray.size:Int)-1))}:Shared).heap.IsRevIter d.heap.objs.size b ((g.length:Int)-1-((0:Nat):Int)):=by
  exists _,Heap.get?_push_size _ rfl,7;show Data.fields #[.ref b,rawInt ((f.toArray.size:Int)-1)]=_;have e:(f.toArray.size:Int)-1=(g.length:Int)-1-((0:Nat):Int):=by simp;lia
  rw[e]
 refine wpAny_pyIter_revIter l ?_;have F:Inv X k j m {d with heap:=d.heap.push (revObj b ((f.toArray.size:Int)-1))}:=i.kept (t':=d.toks) λc o e=>Heap.get?_push_of_some _ e;refine(d.heap.objs.size,[d.heap.objs.size],_,Y0 X.K b g,m,7,F,MP b _ g,(aaH _,l),λc D=>?_,q);have e:c=d.heap.objs.size:=by simpa using D
 subst e;exact i.fpOk (aae _) (i.hok.fresh (aae _))
theorem Aa{K:PySem.W.Frag}{a:Addr}{xs:List V}{g:TG}{j:TS}{σ:St}(b:Nat->St->Hp->Prop)(s:b 0 σ H)(q:∀i σ H,i<=xs.length->b i σ H->My K H a xs)
  (o:∀i x σ H,i<xs.length->xs[xs.length-1-i]?=some x->b i σ H->g x σ H λ c h=>j {R with nx:=b (i+1),ct:=b (i+1),bk:=R.nx} c h)(hd:∀σ H,b xs.length σ H->R.nx σ H):
  ∃W:Nat->Nat->St->Hp->Prop,(∃m,W 0 m σ H) /\ ∀i m σ H,W i m σ H ->
   ((Y0 K a xs).stop i H/\R.nx σ H)\/((Y0 K a xs).go i H /\ ∃N:St->Hp->Prop,(∀d H',N d H' -> ∃k,k<m/\W (i+1) k d H') /\ ∀x H',(Y0 K a xs).Xk i H x H'->g x σ H' λ c h=>j {R with nx:=N,ct:=N,bk:=R.nx} c h):=by
 exists λi m σ H=>m=xs.length-i/\i<=xs.length/\b i σ H,(xs.length,by simp,aaH _,s);rintro i m σ H ⟨rfl,r,p⟩;by_cases f:i<xs.length
 ·refine .inr ((q i σ H r p,f),b (i+1),λ d H' l=>(xs.length-(i+1),6,7,f,l),λx H' y=>?_);obtain⟨rfl,n⟩:=y;exact o i x σ _ f n p
 ·have e:i=xs.length:=by lia
  subst e;exact .inl (aae _,hd σ H p)
mutual
inductive oM(K:PySem.W.Frag)(H:Hp):V->PyData->Prop where
 | non:oM K H .non .none
 | bl (b:Bool):oM K H (.bl b) (.bool b)
 | int (i:Int):oM K H (.int i) (.int i)
 | str (x:Str):oM K H (.str x) (.str x)
 | lst {a:Addr}{xs:List V}{ds:List PyData} (h:My K H a xs) (r:jZ K H xs ds):oM K H (.ref a) (.list ds)
 | tup {a:Addr}{xs:List V}{ds:List PyData} (h:VM K H a xs) (r:jZ K H xs ds):oM K H (.ref a) (.tuple ds)
inductive jZ(K:PySem.W.Frag)(H:Hp):List V->List PyData->Prop where
 | nil:jZ K H [] []
 | cons {x:V}{xs:List V}{d:PyData}{ds:List PyData} (h:oM K H x d) (r:jZ K H xs ds):jZ K H (x::xs) (d::ds)
end
theorem gR{K:PySem.W.Frag}{H:Hp}:∀ns:List Int,jZ K H ‹ns› (ns.map PyData.int)
 |[]=>.nil
 |i::r=>.cons (.int i) (gR r)
mutual
theorem oM.reads(I:Inv X π σ H s){x:V}{d:PyData}{u:Value}:oM X.K H x d->RelV x u -> ∃j,Reads s.heap u d j
 |.non,r=>(_,by cases (show u=Value.none from r);exact .none)
 |.bl b,r=>(_,by cases (show u=Value.bool b from r);exact .bool b)
 |.int i,r=>by
  obtain⟨t,rfl⟩:=r;exact(_,.int i t)
 |.str y,r=>by
  obtain⟨t,rfl⟩:=r;exact(_,.str y t)
 |.lst (a:=a) h q,r=>by
  cases (show u=Value.ref a from r);obtain⟨k,f,p,_⟩:=I.list h;obtain⟨j,g⟩:=jZ.reads I q f;obtain⟨o,n,e,c,_,d⟩:=p;exact(_,.list e c d (by simpa using g))
 |.tup (a:=a) h q,r=>by
  cases (show u=Value.ref a from r);obtain⟨k,f,p,_⟩:=I.tuple h;obtain⟨j,g⟩:=jZ.reads I q f;obtain⟨o,e,c,n,d⟩:=p;exact(_,.tuple e c d (by simpa using g))
theorem jZ.reads(I:Inv X π σ H s){xs:List V}{ds:List PyData}{a:List Value}:jZ X.K H xs ds->Vals xs a -> ∃b,ReadsAll s.heap a ds b
 |.nil,r=>by
  cases r;exact(_,.nil)
 |.cons h q,r=>by
  cases r with
  |cons f e=>
   obtain⟨b,d⟩:=oM.reads I h f;obtain⟨g,c⟩:=jZ.reads I q e;exact(_,.cons d c)
end
inductive Ve(K:PySem.W.Frag)(x:V)(y:V)(H:Hp)(Q:VK):Prop
 | mk (a b:Addr) (ns ms:List Int) (_:x=.ref a) (_:y=.ref b) (_:My K H a !!ns) (_:My K H b !!ms) (_:Q (.bl (decide (ns=ms))) H)
inductive Um(K:PySem.W.Frag)(x:V)(y:V)(H:Hp)(Q:VK):Prop
 | mk (d1 d2:PyData) (_:oM K H x d1) (_:oM K H y d2) (_:SeqAt.shaped d1=true) (_:SeqAt.shaped d2=true) (_:Q (.bl (PyData.eqv d1 d2)) H)
inductive Rw(K:PySem.W.Frag)(x:V)(y:V)(H:Hp)(Q:VK):Prop
 | mk (a b:Addr) (ns ms:List Int) (_:x=.ref a) (_:y=.ref b) (_:My K H a !!ns) (_:My K H b !!ms) (_:Q (.bl (!decide (ns=ms))) H)
inductive Sh(K:PySem.W.Frag)(x:V)(y:V)(H:Hp)(Q:VK):Prop
 | mk (d1 d2:PyData) (_:oM K H x d1) (_:oM K H y d2) (_:SeqAt.shaped d1=true) (_:SeqAt.shaped d2=true) (_:Q (.bl (!PyData.eqv d1 d2)) H)
theorem Et(e:X.A.units+64<cLine):Wi X (compareOp .Eq) (λx y H Q=>Ve X.K x y H Q\/Um X.K x y H Q):=by
 intro z s w H x y u v Q I d c h;rcases h with ⟨a,b,D,E,rfl,rfl,n,m,q⟩|⟨G,F,p,o,t,r,q⟩
 ·cases (show u=Value.ref a from d);cases (show v=Value.ref b from c);obtain⟨C,j,l,_⟩:=I.list n;obtain⟨B,i,k,_⟩:=I.list m;exact PySem.W.ke_eq_ints l.isList k.isList (intsAre_of j) (intsAre_of i) e (.bl _,H,I,7,q)
 ·obtain⟨L,g⟩:=p.reads I d;obtain⟨J,f⟩:=o.reads I c;exact eq_dataH g f t r e (.bl _,H,I,7,q)
theorem pC(e:X.A.units+64<cLine):Wi X (compareOp .NotEq) (λx y H Q=>Rw X.K x y H Q\/Sh X.K x y H Q):=by
 intro z s w H x y u v Q I d c h;rcases h with ⟨a,b,D,E,rfl,rfl,n,m,q⟩|⟨G,F,p,o,t,r,q⟩
 ·cases (show u=Value.ref a from d);cases (show v=Value.ref b from c);obtain⟨C,j,l,_⟩:=I.list n;obtain⟨B,i,k,_⟩:=I.list m;exact PySem.W.ke_ne_ints l.isList k.isList (intsAre_of j) (intsAre_of i) e (.bl _,H,I,7,q)
 ·obtain⟨L,g⟩:=p.reads I d;obtain⟨J,f⟩:=o.reads I c;exact ne_dataH g f t r e (.bl _,H,I,7,q)
end L2
namespace Tw
theorem Jl{lo:Int}{n:Nat}{c:L2.St}(f:Nat->Int)(l:n<sizeLine)
  (g:∀(z:Int) (H':Hp) (Q:Bool->Hp->Prop),Q true H'->L (some (.int z)::c) H' Q)(k:∀(i:Nat) (H':Hp) (Q:VK),i<n->aL H H'->Q (.int (f i)) H'->ta (some (.int (lo+i))::c) H' Q)
  (q:∀D,H D=none->m D (upd H D (.lst ‹(abS n).map f›))):fY (XJ lo n) c L ta m H:=by
 intro D h;exists λi a d j=>a=n-i/\i<=n/\d=((abS i).map f).map V.int/\j=upd H D (.lst d),(9,aaH _,7,7);rintro i a d j ⟨rfl,o,rfl,rfl⟩;by_cases b:i<n
 ·refine .inr (b,λv p y=>?_);obtain⟨rfl,rfl⟩:=y;refine g _ _ _ ?_;rw[if_pos rfl];refine k i _ _ b (au h _) (aa,1,n-(i+1),6,7,b,1,1)
  ·rw[aaa,aaa,aaG];lia
  ·rw[afU,aaf,aaf];rfl
  ·rw[iu]
 ·have e:i=n:=by lia
  subst e;exact .inl (aae _,q D h)
theorem RN{c A:Prop}[Decidable c]{D:Ends}{σ:St}(R:St->Hp->Prop)(b:R σ H)(h:∀a H',R a H'->D.nx a H')(d:c->(∀a H',R a H'->D.nx a H')->A):if c then A else Ie D σ H:=by
 by_cases q:c
 ·rw[if_pos q];exact d q h
 ·rw[if_neg q];exact h _ _ b
theorem Q8{c A:Prop}[Decidable c]{D:Ends}{σ:St}(R:St->Hp->Prop)(b:¬c->R σ H)(h:∀a H',R a H'->D.nx a H')(d:c->(∀a H',R a H'->D.nx a H')->A):if c then A else Ie D σ H:=by
 by_cases q:c
 ·rw[if_pos q];exact d q h
 ·rw[if_neg q];exact h _ _ (b q)
theorem Hz{t:TA}{i:Nat}{k:Int}{xs:List V}{σ:St}{Q:VK}(ht:∀c:List V->Hp->Prop,c xs H->t σ H c)(e:σ[i]?=some (!!!!k))(f:k<=100000)(d:xs.length<=2)(g : -100000<=k)
  (q:∀p H',H p=none->aL H H'->H' p=some (.lst (aai k.toNat xs).flatten)->Q (.ref p) H'):W9 TF (R0 t) (DK i) σ H Q:=by
 refine ht _ (by rw[sizeLine_eq];lia,λp b=>(_,e,p,k,xs,7,7,aa,6,6,1,λr a=>q r _ ((au b _).free a) ((au b _).trans (au a _)) aa));rw[sizeLine_eq];have:k.toNat<=100000:=by lia
 have:=ahz d this;lia
end Tw
namespace L2
open PySem.Spec PyProof.Rows PySem.W
end L2
namespace Tw
theorem P0{a U A:Prop}[Decidable a]{σ:St}(N:R.nx σ H)(b:a->R.nx σ H->U):if a then U else (if false=true then A else Ie R σ H):=by
 by_cases q:a
 ·rw[if_pos q];exact b q N
 ·rw[if_neg q];exact fM N
theorem Gp{K:PySem.W.Frag}{a:Addr}{ns:List Int}{f:L2.St}(p:Int->Bool)(s:My K H a !!ns)(u:ns.length<sizeLine)
  (k:∀(z:Int) (H':Hp) (Q:Bool->Hp->Prop),aL H H'->Q (p z) H'->L (some (.int z)::f) H' Q)(t:∀(z:Int) (H':Hp) (Q:VK),aL H H'->Q (.int z) H'->ta (some (.int z)::f) H' Q)
  (q:∀D,H D=none->m D (upd H D (.lst ‹ns.filter p›))):fY (XH K a) f L ta m H:=by
 intro D h;exists λi b j o=>b=ns.length-i/\i<=ns.length/\j=((ns.take i).filter p).map V.int/\o=upd H D (.lst j),(9,aaH _,7,7);rintro i b j o ⟨rfl,w,rfl,rfl⟩;have d:My K (upd H D (.lst ‹(ns.take i).filter p›)) a ‹ns›:=(au h _).seq s;by_cases c:i<ns.length
 ·have l:‹ns›[i]?=some (.int ns[i]):=by
   rw[aak,aac c];rfl
  have n:ns.take (i+1)=ns.take i++[ns[i]]:=by
   rw[aed,aac c];rfl
  refine .inr ((_,_,d,l),λv x y=>?_);obtain⟨rfl,y⟩:=y;have e:=y _ d;rw[l]at e;cases e;refine k _ _ _ (au h _) ?_;have r:=age p (ns.take i);rw[aam]at r;by_cases g:p ns[i]=true
  ·rw[if_pos g];refine t _ _ _ (au h _) (aa,1,ns.length-(i+1),6,7,c,1,1)
   ·rw[aaa];lia
   ·rw[n,agb,aaf,agP g];rfl
   ·rw[iu]
  ·rw[if_neg g];refine(ns.length-(i+1),6,7,c,1,7);rw[n,agb,agx g,ai5,afR]
 ·have e:i=ns.length:=by lia
  subst e;rw[afK];rw[afK]at d;exact .inl ((_,d,by rw[aaa];exact aae _),q D h)
end Tw
namespace L2
open PySem.Spec PyProof.Rows
theorem b7.ex{P:Program}{w:World}{a:Addr}{o:HO}(x:b7 P w H base a o):∃b,base.get? a=some b:=by
 induction o with
 |lst l=>obtain⟨z,k,n,r,e⟩:=x;exact(_,e)
 |tup l=>obtain⟨z,k,r,b,e,c⟩:=x;exact(_,e)
 |dK j=>obtain⟨z,y,q,r,b,g,i,e,c⟩:=x;exact(_,e)
 |dT j=>obtain⟨z,y,l,r,b,g,i,e,c⟩:=x;exact(_,e)
 |set S n=>obtain⟨b,g,i,t,e,c⟩:=x;exact(_,e)
 |ins C I m=>obtain⟨d,z,B,e,_⟩:=x;exact(_,e)
 |own y=>exact x
 |xd m=>obtain⟨D,⟨A,g,i,e,c⟩,r⟩:=x;exact(_,e)
 |rng E G=>obtain⟨t,u,v,e⟩:=x;exact(_,e)
 |Wj b u F=>exact(_,x.1)
 |Yp s=>exact(_,x)
 |met f y=>exact(_,x)
 |ext p=>exact x.2.1
structure ZD(B:Heap)(fs:List Addr)(H H':Hp)(h:Heap):Prop where
 old:∀b o,h.get? b=some o->b∉fs -> ∃o',B.get? b=some o'/\(H b=none->o'=o)
 Wo:∀b u,H' b=some u -> ∃o,B.get? b=some o
def Xw(P:Program)(w:World):WP:=λa H s E e b=>∃(d C t:Addr) (B:Heap) (c:Hp),e=.ref d/\b.os=s.os/\AllBare b.gens/\Un (frs a) [] H c s.heap b.heap/\Wa P w c b.heap /\
  Heap.FlyingW B a d (.ref C) (.ref t) b.heap/\ZD B (frs a) H c s.heap/\E (.ref C) none c
section
variable{P:Program}{w:World}{E:XK}
abbrev X1(P:Program)(w:World)(K:PySem.W.Frag)(mg:Str->Option Value)(base:Heap)(N:List Str)(qual:Str)(scope:Scope)(f:Addr)(cd:Value)(A:Around)(outer:List Env)(s0:Shared)(H0:Hp)(E:XK):Cx:=
 zu (Xw P w) P w K mg base N qual scope f cd A outer s0 H0 E
theorem young{b:Addr}{o:Obj}(q:s0.heap.get? b=some o)(c:b∉frs outer):b∉frs (envOfC qual scope s0.heap.objs.size f cd::outer):=λz=>by
 have a:b∈s0.heap.objs.size::frs outer:=z;rcases aat.mp a with e|e
 ·exact absurd (Heap.lt_size q) (by rw[e];exact agg _)
 ·exact c e
theorem raised{σ:St}{s:Shared}{ea C:Addr}{vs:List Value}(I:Inv (X1 P w K mg base N qual scope f cd A outer s0 H0 E) π σ H s)(m:Heap.MadeExcOf s.heap h' ea (.ref C) vs)(q:E (.ref C) none H):
  (X1 P w K mg base N qual scope f cd A outer s0 H0 E).xe (.ref ea) {s with heap:=h'}:=by
 have J:s.heap.FunFrames base (envOfC qual scope s0.heap.objs.size f cd::outer):=I.stack;have D:∀j∈(envOfC qual scope s0.heap.objs.size f cd::outer),∀b,j.frame=some b->b∈frs (envOfC qual scope s0.heap.objs.size f cd::outer):=λj O b a=>ahm.mpr (j,O,a);have U:Un (frs outer) [] H0 H s0.heap s.heap:=I.base;have h:∀b u,H b=some u->b∉frs (envOfC qual scope s0.heap.objs.size f cd::outer):=λb u e z=>by
  have:=I.stkFree b z;rw[this]at e;cases e
 have g:∀b o,s.heap.get? b=some o->b∉frs (envOfC qual scope s0.heap.objs.size f cd::outer)->(PySem.W.hideAll s.heap (frs (envOfC qual scope s0.heap.objs.size f cd::outer))).get? b=some o:=λb o e n=>PySem.W.hideAll_get _ e n;show wpAny _ _ (leaving _ _) _ _ _;refine wpAny_leaves_madeW (base:=PySem.W.hideAll s.heap (frs (envOfC qual scope s0.heap.objs.size f cd::outer))) I.ok.frames rfl (λb o e=>PySem.W.of_hideAll _ e) (PySem.W.funFrames_hide J D) m λQ t F S R L=>?_;have i:=F.1;have G:∀b o,s.heap.get? b=some o->b∈frs outer -> ∃v,Q.get? b=some {o with slots:=v}:=λb o e a=>by
  obtain⟨_,T,p,M⟩:=J.mem (b:=b) (aaj _ a);rw[e]at p;cases p;exact L b o (m.keeps _ _ e) M
 refine(ea,C,t,_,H,7,I.os,I.bare,(λb o e n a l=>?_,λb o e n a l=>?_,U.free,λb o e l=>?_,U.tups,U.frzs,U.tbls),λb u e=>?_,F,(λb o e a=>?_,λb u e=>?_),q)
 ·exact i b o (g b o (U.keep b o e n a l) (young e a))
 ·obtain⟨v,d⟩:=U.slot b o e n a l;obtain⟨B,y⟩:=G b _ d a;exact(B,y)
 ·obtain⟨k,d⟩:=U.there b o e l;by_cases a:b∈frs outer
  ·obtain⟨v,y⟩:=G b _ d a;exact(_,y)
  ·exact(k,i b k (g b k d (young e a)))
 ·refine(I.hok b u e).stay (λc o x d=>i c o (g c o d ?_)) (λ_ r=>r) λ_ _ r=>r;rcases x with rfl|x
  ·exact h _ _ e
  ·exact h _ _ x
 ·obtain⟨k,d⟩:=U.there b o e (by simp);refine(k,g b k d (young e a),λn=>?_);have:=U.keep b o e n a (by simp);rw[d]at this;exact afE this
 ·obtain⟨o,d⟩:=(I.hok b u e).ex;exact(o,g b o d (h b u e))
theorem Ri:iD (Xw P w) (X1 P w K mg base N qual scope f cd A outer s0 H0 E) E:=by
 intro π σ H s e S I h;obtain⟨ea,C,t,B,H',rfl,V,x,m,L,F,j,q⟩:=h;have U:Un (frs outer) [] H0 H s0.heap s.heap:=I.base;show wpAny _ _ (leaving _ _) _ _ _;refine wpAny_leaves_onW (base:=B) I.ok.frames rfl F λZ O R=>?_;have k:=O.1;have Q:∀b o,S.heap.get? b=some o->b∈frs outer -> ∃y,Z.get? b=some {o with slots:=y}:=λb o e d=>by
  obtain⟨_,p,v,W⟩:=F.2.2.1.mem (b:=b) (aaj _ d);rw[e]at v;cases v;exact R b o e W
 refine(ea,C,t,B,H',7,V.trans I.os,x,(λb o e n d g=>?_,λb o e n d g=>?_,λb o e n g=>?_,λb o e g=>?_,λb M e=>m.tups b M (U.tups b M e),λb o u e=>m.frzs b o u (U.frzs b o u e),λb T e=>?_),λb u e=>?_,O,(λb o e d=>?_,j.Wo),q)
 ·obtain⟨p,a,z⟩:=j.old b o (U.keep b o e n d g) (young e d);rw[z (U.free b o e n g)]at a;exact k b o a
 ·obtain⟨y,i⟩:=U.slot b o e n d g;obtain⟨a0,a⟩:=m.slot b _ i (U.free b o e n g) (aaj _ d) g;obtain⟨J,G⟩:=Q b _ a d;exact(J,G)
 ·obtain⟨l,i⟩:=U.there b o e g;exact m.free b l i (U.free b o e n g) g
 ·obtain⟨l,i⟩:=U.there b o e g;by_cases d:b∈frs outer
  ·obtain⟨o2,a⟩:=m.there b l i g;obtain⟨y,G⟩:=Q b _ a d;exact(_,G)
  ·obtain⟨p,a,_⟩:=j.old b l i (young e d);exact(p,k b p a)
 ·obtain⟨Y,i⟩:=U.tbls b T e;obtain⟨X,a⟩:=m.tbls b _ i;exact(Y++X,by rw[a,ahl])
 ·refine(L b u e).stay (λc o D i=>?_) (λ_ r=>r) λ_ _ r=>r;have ht:∃o,B.get? c=some o:=by
   rcases D with rfl|D
   ·exact j.Wo _ _ e
   ·exact j.Wo _ _ D
  obtain⟨l,a⟩:=ht;have:=F.1 c l a;rw[i]at this;cases this;exact k c o a
 ·obtain⟨l,i⟩:=U.there b o e (by simp);obtain⟨p,a,z⟩:=j.old b l i (young e d);refine(p,a,λn=>?_);have:=U.keep b o e n d (by simp);rw[i]at this;rw[z (U.free b o e n (by simp))];exact afE this
theorem Qg:PassesOwn (model P w) (X1 P w K mg base N qual scope f cd A outer s0 H0 E).A (X1 P w K mg base N qual scope f cd A outer s0 H0 E).env (X1 P w K mg base N qual scope f cd A outer s0 H0 E).xe:=PassesOwn.leaving
end
section
variable{P:Program}{w:World}
theorem Xl.ok1{x :Str}{st:Stmt}{f:Addr}{N ps:List Str}{k:Nat}{sp:Sp}(F:Xl K x qual st f B)(S:aJ N ps (δ st))(d:∀vs H Q E,sp vs H Q E->vs.length=ps.length)
  (c:∀(b:Value) (A:Around) (a:List Env) (s:Shared) (H:Hp) (vs:List V) (Q:VK) (E:XK),jj k (A.deeper (envOfC qual (δ st) s.heap.objs.size f b))->sp vs H Q E ->
   ∃t,Wu (X1 P w K mg base N qual (δ st) f b A a s H E) (μ st) t/\t {nx:=λ_ H'=>Q .non H',rt:=Q} (start N vs) H):bI P w K mg base (Xw P w) (k+1) f B ps sp:=by
 obtain⟨o,n,kV,l,m,q,b,p,j,rfl,h,g⟩:=F.ex;exact Ld h g S d λA a s H vs Q E i e=>c b A a s H vs Q E i e
end
abbrev XX:List Value:=[.type "ValueError",.type "Exception",.type "BaseException",.type "object"]
structure Exc(K:PySem.W.Frag)(mg:Str->Option Value)(x:Str)(C:Addr):Prop where
 m:mg x=some (.ref C)
 q:PySem.W.excIn K C XX "ValueError.__new__" = true
theorem uD{K:PySem.W.Frag}{C:Addr}(X:K.In base)(q:PySem.W.excIn K C XX "ValueError.__new__" = true):
  ∃bm N nm d bs hdct sn sub ab col dd k0 k1 k2 k3 k5 mN,base.get? C=some (excClassObj nm d C N bs bm hdct sn sub ab col dd k0 k1 k2 k3 k5 "ValueError.__new__")/\base.Ns N mN/\mN "__init__" = none/\OwnTail base XX bm:=by
 unfold PySem.W.excIn at q;split at q
 ·rename_i dd m f k;split at q
  ·rename_i r bm k0 k1 k2 k3 n k5 i g;simp only[ahA,beq_iff_eq,ag0]at q;obtain⟨⟨⟨⟨⟨rfl,rfl⟩,a⟩,ht⟩,b⟩,c⟩:=q;obtain⟨nm,bs,o,j,d,hd,sn,sub,ab,col,p⟩:=m;dsimp only at i a b c;subst i a
   have e:f=#[k0,k1,k2,k3,some (.builtin "ValueError.__new__"),k5]:=by
    obtain⟨l⟩:=f;simp only at g;rw[g]
   subst e;exact(bm,j,nm,d,bs,hd,sn,sub,ab,col,dd,k0,k1,k2,k3,k5,_,X _ _ k,.of_isNs (PySem.W.isNs_of_in X b),PySem.W.nsMap_none_of_in X b c,PySem.W.tail_of_in X ht)
  ·cases q
 ·cases q
section
variable{P:Program}{w:World}{E:XK}
def Jo(C:Addr)(E:XK):List V->Hp->Prop:=λa b=>a.length<=sizeLine/\E (.ref C) none b
def Lj(C:Addr)(E:XK)(b:TA):TS:=λ_ a H=>b a H (Jo C E)
theorem DY{x:Str}{C:Addr}{a:Expr}{pos:Pos}(e:Exc K mg x C)(R:Gl (X1 P w K mg base N qual scope f cd A outer s0 H0 E) x)(S:PA (X1 P w K mg base N qual scope f cd A outer s0 H0 E) [a] t)
  (i:(x==("__debug__" : Str))=false:=by decide)
  (k:starEach [a] (X1 P w K mg base N qual scope f cd A outer s0 H0 E).env=[(pq false (eval a (X1 P w K mg base N qual scope f cd A outer s0 H0 E).env))]:=by rfl):
  PS (X1 P w K mg base N qual scope f cd A outer s0 H0 E) (.Raise (some (.Call (.Name x p) [a] [] apos)) none pos) (Lj C E t):=by
 intro o s n H D I h;obtain⟨Y,N',B,v,X,b,r,d,Z,j,W,Q,O,M,L,J,G,V,U,g,T⟩:=uD I.mod.Yx e.q;refine wpAny_Raise_call_subU (C:=C) (nm:=B) (q:=v) (N:=N') (bs:=X) (bm:=Y) (hdct:=b) (sn:=r) (sub:=d) (ab:=Z) (col:=j) (dd:=W) (k0:=Q) (k1:=O) (k2:=M) (k3:=L) (k5:=J)
  PySem.F.excBase_ValueError PySem.F.excBase_ValueError.hasB PySem.F.excBase_ValueError (mN:=G) (T.hasType PySem.F.excBase_ValueError.hasBase) (I.ok.hd rfl) (by rw[k];rfl) g (j5 I R e.m (7,1) i)
 have l:=S apos o s n H _ I h;rw[k]at l ⊢;refine Calls.evalArgs_plain (VL l λus s2 ⟨vs,H2,c,u,z,y⟩=>(7,1,c.bk _ _ V,U.keeps c.bk,T.keeps c.bk,λh' ea m=>raised c m y));rw[<-u.length];exact z
end
def JR(ea C:Addr):HO:=.ext λh=>∃o a,h.get? ea=some o/\o.cls=.ref C/\o.data=.fields a
structure uH(K:PySem.W.Frag)(C:Addr):Prop where
 dct:PySem.W.hasDictIn K C=true
 ga:PySem.W.findIn K (.ref C) "__getattribute__" = some (some (.builtin "BaseException.__getattribute__"))
 nga:PySem.W.findIn K (.ref C) "__getattr__" = some none
 cl:PySem.W.findIn K (.ref C) "__class__" = some (some (.builtin "object.__class__"))
 gt:PySem.W.specialIn K (.builtin "object.__class__") "__get__" = some (some (.builtin "getset_descriptor.__get__"))
 tk:PySem.W.takesIn K (.builtin "object.__class__")=some true
 mo:PySem.W.mroIn K C (.type "object")=some true
 mb:PySem.W.mroIn K C (.type "BaseException")=some true
def Cx.suite(X:Cx)(ea:Addr):Cx:={X with A:=X.A.mark (!!!ea),calm:=false,xe:=λ_ _=>False}
section
variable{ea:Addr}
theorem Cx.Ok.suite(a:X.Ok):(X.suite ea).Ok:=
 (a.mod,a.kind,a.glob,a.blt,a.above,a.inj,a.has,a.cab,λz=>absurd z afD,a.frames,a.WN,a.Yy,a.bs,a.W4,a.noex,a.exfs,a.funs,a.XD)
theorem Inv.suite(I:Inv X π σ H s):Inv (X.suite ea) π σ H s:=(I.ok.suite,I.os,I.bare,I.base,I.loc,I.cell,I.free,I.freeC,I.pin,I.hok,I.len)
theorem Inv.unsuite(a:X.Ok)(I:Inv (X.suite ea) π σ H s):Inv X π σ H s:=(a,I.os,I.bare,I.base,I.loc,I.cell,I.free,I.freeC,I.pin,I.hok,I.len)
theorem name_goes{M:Model}{A:Around}{E:Value->Shared->Prop}{i:Nat}{n:Str}{pos:Pos}{Q:Unit->Shared->Prop}(I:Inv X π σ H s)(hN:X.N.Nodup)(L:X.N[i]?=some n)(Z:X.env.scope.names.lookup n=some .local)
  (h:∀s',Inv X π (σ.set i none) H s'->Q () s'):wpAny M A (do bindName X.env n .none;unbindBehindTheSuite X.env n pos) Q E s:=by
 obtain⟨m,K,u⟩:=id I.loc;have x:(X.env.scope.kind == .class || (X.env.scope.kind == .module&&X.env.locals != X.env.globals))=false:=by rw[I.ok.kind];rfl
 have w:i<σ.length:=by rw[I.len];exact(aad.mp L).1
 have O:=I.XF;obtain⟨oL,_,_,a0,_⟩:=id K;refine wpAny_nameGoes_keeps Z K x λh' v F a=>?_;have f:∀b o,X.s₀.heap.get? b=some o->b≠X.env.locals:=λb o e=>ae2 (aau (Heap.lt_size e) I.ok.above);refine h _ (I.ok,I.os,I.bare,(λb o e r D t=>?_,λb o e r D t=>?_,I.base.free,λb o e t=>?_,I.base.tups,I.base.frzs,I.base.tbls),(_,F,λj y P l B e3=>?_),λy c e=>?_,I.free,I.freeC,λp Y=>?_,λb U e=>?_,by simpa using I.len)
 ·exact(a.2 b (f b o e)).trans (I.base.keep b o e r D t)
 ·obtain⟨S,l⟩:=I.base.slot b o e r D t;exact(S,(a.2 b (f b o e)).trans l)
 ·obtain⟨V,l⟩:=I.base.there b o e t;exact(V,(a.2 b (f b o e)).trans l)
 ·by_cases C:j=i
  ·subst C;rw[agT w]at B;cases B
  ·rw[agO (agB C)]at B;obtain⟨R,T,q⟩:=u j y P l B e3;exists R,T;rcases q with ⟨k,e⟩|⟨k,c,e,z⟩
   ·refine .inl (k,1);have:y≠n:=λe=>C (v4 hN l (e ▸ L));simp[this,e]
   ·exact .inr (k,c,e,z.sameBut a (O y c e))
 ·obtain⟨G,z⟩:=I.cell y c e;exact(G,z.sameBut a (O y c e))
 ·obtain⟨e,r,J,W,d⟩:=I.pin p Y;exact((a.2 p.1 J).trans e,r,J,W,d)
 ·refine(I.hok b U e).stay (λc G g q=>(a.2 c ?_).trans q) (λ_ q=>q) λ_ _ q=>q;intro z;rcases g with g|g
  ·rw[<-g,z,I.free]at e;cases e
  ·rw[z,I.free]at g;cases g
theorem landed{C t:Addr}{H':Hp}{s':Shared}(I:Inv X π σ H s)(os:s'.os=s.os)(D:AllBare s'.gens)(j:Un (frs X.stack) [] H H' s.heap s'.heap)(L:Wa X.prog X.w H' s'.heap)
  (E:Heap.FlyingW base X.stack ea (.ref C) (.ref t) s'.heap)(f:ZD base (frs X.stack) H H' s.heap)(x:Heap.FlyingW base X.stack ea (.ref C) (.ref t) h')(U:s'.heap.UpToSlots h'):
  H' ea=none/\Inv X π σ (upd H' ea (JR ea C)) {s' with heap:=h'}:=by
 have S:H' ea=none:=by
  cases q:H' ea with
  |none=>rfl
  |some u=>
   obtain⟨o,e⟩:=f.Wo ea u q;rw[E.2.1]at e;cases e
 obtain⟨P,O,i,M,y,_⟩:=x.first;have fresh:s.heap.get? ea=none:=by
  cases q:s.heap.get? ea with
  |none=>rfl
  |some o=>
   by_cases a:ea∈frs X.stack
   ·obtain⟨_,l,g,G⟩:=x.2.2.1.mem a;rw[i]at g;cases g;exact absurd y (G O)
   ·obtain⟨l,e,_⟩:=f.old ea o q a;rw[E.2.1]at e;cases e
 have R:∀b o,s'.heap.get? b=some o->b∈frs X.stack -> ∃F,h'.get? b=some {o with slots:=F}:=λb o e a=>by
  obtain⟨_,l,g,G⟩:=E.2.2.1.mem a;rw[e]at g;cases g;exact U b o e G
 have v:∀b u,H' b=some u->b≠ea:=λb u e=>aH e S;refine(S,I.call' (ch:=[]) os (λb o e n a m=>?_,λb o e n a m=>?_,λb o e n m=>?_,λb o e m=>?_,λb N e=>?_,λb o u e=>?_,λb V e=>?_) (λb u e=>?_) D λb z=>absurd z (by simp))
 ·obtain⟨l,d,z⟩:=f.old b o e a;rw[z n]at d;exact x.1 b o d
 ·obtain⟨F,h⟩:=j.slot b o e n a m;obtain⟨K,d⟩:=R b _ h a;exact(K,d)
 ·have:b≠ea:=λz=>by rw[z,fresh]at e;cases e
  rw[aK this];exact j.free b o e n m
 ·by_cases a:b∈frs X.stack
  ·obtain⟨Q,h⟩:=j.there b o e m;obtain⟨F,d⟩:=R b _ h a;exact(_,d)
  ·obtain⟨l,d,_⟩:=f.old b o e a;exact(l,x.1 b l d)
 ·have q:=j.tups b N e;rw[aK (v b _ q)];exact q
 ·have q:=j.frzs b o u e;rw[aK (v b _ q)];exact q
 ·obtain⟨A,q⟩:=j.tbls b V e;exact(A,by rw[aK (v b _ q)];exact q)
 ·by_cases a:b=ea
  ·subst a;rw[aa]at e;cases e;refine((P,O,i,M,y),(P,i),λZ Y p k=>?_);obtain⟨o,T,h,d,W⟩:=p;exact(o,T,k o h,d,W)
  ·rw[aK a]at e;refine(L b u e).stay (λc o J h=>?_) (λc r=>by rw[aK (v c _ r)];exact r) λc N r=>by rw[aK (v c _ r)];exact r
   have ht:∃o,base.get? c=some o:=by
    rcases J with rfl|J
    ·exact f.Wo _ _ e
    ·exact f.Wo _ _ J
   obtain⟨Q,d⟩:=ht;have:=E.1 c Q d;rw[h]at this;cases this;exact x.1 c o d
end
def ExcAt(x C:Addr)(h:Heap):Prop:=∃o a,h.get? x=some o/\o.cls=.ref C/\o.data=.fields a
theorem vy{M:Model}(p:ExcAt x C base):PySem.W.Looks M base (typeOf (.ref x)) (.ref C):=by
 obtain⟨o,c,b,a,_⟩:=p;exact a ▸ (PySem.W.Looks.ld b).andThen .now
open PySem.W Builtin Builtin.ObjectAttr Builtin.Getset_descriptor
section
theorem O4{M:Model}(X:K.In base)(k:uH K C):Looks M base (find (.ref x) (.ref C) "__class__") (.bind (.builtin "getset_descriptor.__get__") (.builtin "object.__class__")):=by
 refine(looks_findIn X k.cl).andThen ?_
 refine Looks.andThen (show Looks M base (getOf (some (.builtin "object.__class__"))) (some (.builtin "getset_descriptor.__get__"))from looks_specialIn X k.gt) ?_
 exact(show Looks M base (dataDescriptor? (some (.builtin "object.__class__")) (some (.builtin "getset_descriptor.__get__"))) (some (pq (.builtin "getset_descriptor.__get__") (.builtin "object.__class__")))from (looks_takesIn X k.tk).andThen .now).andThen (Looks.tag .now)
variable{w:World}{R:Result->Shared->Prop}
theorem Ml(X:K.In s.heap)(p:ExcAt x C s.heap)(k:uH K C)(h:R (.ok (.ret (.ref C))) s):
  codeAny (model prog w) A (.call (.builtin "getset_descriptor.__get__") ([.builtin "object.__class__",.ref x,cd],[])) R s:=by
 obtain⟨b,g,c,t,a⟩:=s;have e:=vy (M:=model prog w) p;have d:=looks_mroIn (M:=model prog w) X k.mo;refine codeAny_call_builtin KF.slot_gs.plain KF.entry_gs (KF.slot_gs.check _ _ _ _ _ _ _ _ KF.type_class (KF.args_gs _ _ _) ?_);unfold Builtin.«getset_descriptor.__get__» Builtin.Getset_descriptor.descrGet;rw[dga_obj];refine wpAny_bind (wpAny_pure ?_);unfold descrGetter descrCheckInstance descrNameAndClass isInstance;simp only[KF.owner_class]
 repeat lk
 refine(Code.quiet_builtin _ (by decide +kernel),codeAny_builtin KF.entry_class ?_);unfold Builtin.«object.__class__» shownTypeOf
 repeat lk
 exact h
theorem SQ{tk:Tok}(X:K.In s.heap)(p:ExcAt x C s.heap)(k:uH K C)(h:R (.ok (.ret (.ref C))) s):
  codeAny (model prog w) A (.call (.builtin "BaseException.__getattribute__") ([.ref x,.str "__class__" tk],[])) R s:=by
 obtain⟨l,g,v,t,q⟩:=s;have o:=vy (M:=model prog w) p;have B:=looks_mroIn (M:=model prog w) X k.mb
 have y:Looks (model prog w) l (isInstance (.ref x) (.type "BaseException")) true:=o.andThen B
 have z:=O4 (M:=model prog w) (x:=x) X k;refine codeAny_call_builtin (by decide +kernel) PySem.F.entry_bexc_ga ?_
 have r:builtinKind "BaseException.__getattribute__" = some .slot:=by decide +kernel
 have a:splitId "BaseException.__getattribute__" = some (pq ("BaseException") ("__getattribute__")):=by decide +kernel
 have u:=PySem.F.args_bexc_ga (.ref x) (.str "__class__" tk)
 simp only[checkBuiltinCall,r,a];refine wpAny_bind (y.at ?_);rw[if_neg ∅]
 have m:wpAny (model prog w) A.in1 («object.__getattribute__» ([.ref x,.str "__class__" tk],[])) (λj c=>match j with | .done f=>R (.ok f) c | .again n=>n.quiet=true/\codeAny (model prog w) A n R c) (λe c=>R (.error e) c) (l,g,v,t,q):=by
  refine wpAny_bind (wpAny_pure (wpAny_bind (wpAny_pure (wpAny_bind (o.at (wpAny_bind (z.at ?_)))))))
  show wpAny _ _ (call (.builtin "getset_descriptor.__get__") [.builtin "object.__class__",.ref x,.ref C] >>= ret) _ _ _
  exact wpAny_bind (wpAny_call (Ml X p k (wpAny_pure h)))
 cases b:Manifest.signature? "BaseException.__getattribute__" with
 |none=>exact wpAny_pure m
 |some d=>
  have i:Bind.checkArgs "BaseException.__getattribute__" d ([.ref x,.str "__class__" tk],[])=pure ():=by simpa only [argsOk,b]using u
  simp only[i];exact wpAny_pure m
theorem JM{Q:Option Value->Shared->Prop}(X:K.In s.heap)(p:ExcAt x C s.heap)(k:uH K C)(h:Q (!!!C) {s with toks:=s.toks+1}):wpAny (model prog w) A (getAttr? (.ref x) "__class__") Q E s:=by
 obtain⟨b,g,d,t,a⟩:=s;have i:=vy (M:=model prog w) p;have f:=looks_findIn (M:=model prog w) X k.ga;have e:=looks_findIn (M:=model prog w) X k.nga;have c:=PySem.F.attrBase_ValueError.ga.bind (.ref x);unfold getAttr? getAttrBy? getAttrBy;refine wpAny_bind (wpAny_mkText (wpAny_bind (wpAny_attempt (wpAny_holding (wpAny_bind (i.at (wpAny_bind (f.at ?_))))))));show wpAny _ _ (getAttrByItsOwn _ _ _ _ _ _) _ _ _;unfold getAttrByItsOwn;refine wpAny_bind (e.at (wpAny_bind (wpAny_attempt (wpAny_holding ?_))));show wpAny _ _ (boundAndCalled _ _ _) _ _ _;unfold boundAndCalled;exact wpAny_bind (wpAny_of_eq c (wpAny_call (SQ (s:=(b,g,d,t+1,a)) X p k (wpAny_pure (wpAny_pure h)))))
theorem M9(k:uH K C):KitX K (.ref x) (.ref C) (ExcAt x C) where
 ty:=λ_ _ _ p=>vy p
 it:=λ_ _ X _=>by
  obtain⟨f,a,_⟩:=any_some k.dct;unfold clsIn at a;split at a
  ·rename_i m l g c b;intro B v y t j q;unfold isType loadHead;exact wpAny_bind (wpAny_loadPart (j _ _ (X _ _ b)) (wpAny_pure q))
  ·cases a
 ne:=λh i u o n r X d=>by
  obtain⟨f,a,_⟩:=any_some k.dct;refine aiT.mpr λq=>?_;have e:C=i:=Value.ref.inj (beq_iff_eq.mp q);subst e;unfold clsIn at a;split at a
  ·rename_i m l g c b;have z:=(X _ _ b).symm.trans d;cases z
  ·cases a
 ca:=λX p h=>JM X p k h
end
theorem Tf{σ:St}{s:Shared}{ea C:Addr}(I:Inv X π σ H s)(h:H ea=some (JR ea C)):ExcAt ea C s.heap:=(I.hok ea _ h).1
abbrev Ke(K:PySem.W.Frag)(xs:List V)(H:Hp)(Q:VK):Prop:=∃(a C:Addr) (d:V) (c:Value) (b:Bool),xs=[.ref a,d]/\((∃D,d=.ref D/\c=.ref D) \/ ∃T,d=.ty T/\c=.type T)/\H a=some (JR a C)/\uH K C/\kitOne K (.ref C) c=some b/\Q (.bl b) H
theorem m6:eE X (.builtin "isinstance") (Ke X.K):=by
 intro n s m H o p Q I r h;obtain⟨l,C,d,c,b,rfl,hd,i,k,e,q⟩:=h;obtain⟨u,v,rfl,g,a⟩:=vals2 r;cases (show u=Value.ref l from g);have j:v=c:=by
  rcases hd with ⟨D,rfl,rfl⟩|⟨T,rfl,rfl⟩
  ·exact a
  ·exact a
 subst j;exact kia_one (M9 k) I.Wt (Tf I i) e (λz=>nomatch z) λf=>(.bl b,H,I.tok f,7,q)
theorem UT{P:Program}{w:World}{X:Cx}:iD (Xw P w) X (λ_ _ _=>False):=λ_ _ _ _ _ _ _ h=>by
 obtain⟨_,_,_,_,_,_,_,_,_,_,_,_,z⟩:=h;exact z.elim
def Lz(K:PySem.W.Frag)(Q:VK)(x:V):VK:=λy b=>y=.int (-1) /\ ∃a c,x=.ref a/\My K b a c /\ ∀p,b p=none->Q (.ref p) (upd b p (.lst c.reverse))
def Ng(K:PySem.W.Frag)(tk:TE)(σ:St)(Q:VK):VK:=λx a=>tk σ a (Lz K Q x)
def Rt(K:PySem.W.Frag)(b tk:TE):TE:=λ a H Q=>b a H (Ng K tk a Q)
theorem QL{X:Cx}{e k:Expr}{tk:TE}{pos:Pos}(G:PE X e ta)(F:PE X k tk):PE X (.Subscript e (.Slice none none (some k) p) pos) (Rt X.K ta tk):=by
 intro g s f H Q I h;refine Subscript_ (VL (G g s f H _ I h) λv n ⟨x,N,L,u,B⟩=>?_);refine wpAny_Slice ?_;rw[evalPart_none];refine wpAny_pure ?_;refine wpAny_pure ?_;rw[evalPart_some];refine VL (F g n f N _ L B) λO c ⟨y,M,J,t,z⟩=>?_;obtain⟨rfl,a,m,rfl,E,q⟩:=z;obtain⟨d,rfl⟩:=t;cases u
 have i:Inv X g f M {c with heap:=c.heap.push {cls:=.type "slice",data:=.fields #[.none,.none,.int (-1) d]}}:=J.kept (t':=c.toks) λb C q=>Heap.get?_push_of_some _ q
 obtain⟨j,r,ht,D⟩:=i.list E;have l:=r.length
 show wpAny (model X.prog X.w) X.A (subscriptTail e (.Slice none none (some k) p) (.ref a) (.ref c.heap.objs.size)) (EP X g f Q) X.xe {c with heap:=c.heap.push {cls:=.type "slice",data:=.fields #[.none,.none,.int (-1) d]}}
 refine tail_any (ops:=[.ref a,.ref c.heap.objs.size]) ht.isList.typeIs slot_list_getitem.lookup ?_ (by with_unfolding_all rfl);refine wpAny_getItem_list_slice ht.isList (Heap.IsSliceOf.new ..) .none .none (.int (-1) d) ∅ ?_ (by rw[aaT];lia);rw[krv_pick];refine(.ref _,_,i.laid (t':=c.toks) (o:=.lst m.reverse) (λb C q=>Heap.get?_push_of_some _ q) (aae _) ?_,7,q _ (i.hok.fresh (aae _)));exists by rw[aiF];exact D,j.reverse,0,r.reverse;exact Heap.get?_push_size _ rfl
def Cx.tr(X:Cx)(a:List (Addr×Obj))(E:XK):Cx:={X with pn:=X.pn++a,xe:=λe c=>∃b H s,Inv X a b H s/\Xw X.prog X.w X.stack H s E e c}
section
variable{pins':List (Addr×Obj)}{E:XK}
theorem Cx.Ok.tr(a:X.Ok):(X.tr π E).Ok:=
 (a.mod,a.kind,a.glob,a.blt,a.above,a.inj,a.has,a.cab,a.hd,a.frames,a.WN,a.Yy,a.bs,a.W4,a.noex,a.exfs,a.funs,a.XD)
theorem Cx.Ok.untr(a:(X.tr π E).Ok):X.Ok:=
 (a.mod,a.kind,a.glob,a.blt,a.above,a.inj,a.has,a.cab,a.hd,a.frames,a.WN,a.Yy,a.bs,a.W4,a.noex,a.exfs,a.funs,a.XD)
theorem Inv.tr(I:Inv X π σ H s):Inv (X.tr π E) [] σ H s:=
 (I.ok.tr,I.os,I.bare,I.base,I.loc,I.cell,I.free,I.freeC,λp b=>I.pin p (by
  have a:p∈(X.pn++π)++[]:=b
  rwa [afR]at a),I.hok,I.len)
theorem Inv.untr(I:Inv (X.tr π E) pins' σ H s):Inv X π σ H s:=
 (I.ok.untr,I.os,I.bare,I.base,I.loc,I.cell,I.free,I.freeC,λp a=>I.pin p (afQ _ a),I.hok,I.len)
theorem U8:iD (Xw X.prog X.w) (X.tr π E) E:=λ_ σ H s _ _ I h=>(σ,H,s,I.untr,h)
theorem SP.untr{D:Ends}{f:Flow}{s':Shared}(h:SP (X.tr π E) [] D f s'):SP X π D f s':=by
 cases f with
 |next=>obtain⟨σ,H,I,q⟩:=h;exact(σ,H,I.untr,q)
 |ret v=>obtain⟨x,σ,H,I,r,q⟩:=h;exact(x,σ,H,I.untr,r,q)
 |brk=>obtain⟨σ,H,I,q⟩:=h;exact(σ,H,I.untr,q)
 |cont=>obtain⟨σ,H,I,q⟩:=h;exact(σ,H,I.untr,q)
end
abbrev TH:=Addr->Ends->St->Hp->Prop
def PH(X:Cx)(i:List ExceptHandler)(h:TH):Prop:=∀(g:List (Addr×Obj)) (a C t:Addr) (B:Heap) (e:Hp) (b:Shared) (f:St) (D:Ends) (d:Heap),
 (∀c,Heap.FlyingW B X.stack a (.ref C) (.ref t) c->b.heap.UpToSlots c->Inv X g f (upd e a (JR a C)) {b with heap:=c}) ->
 Heap.FlyingW B X.stack a (.ref C) (.ref t) d->b.heap.UpToSlots d->e a=none->h C D f e ->
 wpAny (model X.prog X.w) X.A (handleBy (.ref a) X.env i) (SP X g D) X.xe {b with heap:=d}
def T9:TH:=λ_ _ _ _=>False
theorem RB{X:Cx}:PH X [] T9:=λ_ _ _ _ _ _ _ _ _ _ _ _ _ _ z=>z.elim
theorem Oz{X:Cx}{ea C t:Addr}{s':Shared}{b:Bool}{σ:St}(p:Exc X.K X.mg qual a)(r:uH X.K a)(j:Inv X π σ H {s' with heap:=h'})
  (s:Heap.FlyingW base X.stack ea (.ref C) (.ref t) h')(c:kitOne X.K (.ref C) (.ref a)=some b){M:Model}{A:Around}{Q:Bool->Shared->Prop}{E:Value->Shared->Prop}(h:Q b {s' with heap:=h'}):
  wpAny M A (excMatches (.ref ea) (.ref a)) Q E {s' with heap:=h'}:=by
 obtain⟨l,f,d,e,g,_⟩:=s.first;by_cases i:C=a
 ·subst i;have n:b=true:=by
   unfold kitOne at c;rw[if_pos (by simp)]at c;exact(afE c).symm
  subst n;obtain⟨S,V,D,z,R,k,y,u,U,x,P,O,N,L,J,I,G,o,w,v,T⟩:=uD j.Wt p.q;exact wpAny_excMatches_sub_self o d e (T.hasType PySem.F.excBase_ValueError.hasBase) h
 ·have m:exmOne X.K (.ref C) (.ref a)=some b:=by
   unfold exmOne
   rw[if_pos (beq_iff_eq.mpr (show subIn X.K (.ref a) (.type "BaseException")=some true from r.mb))]
   unfold kitOne at c;rw[if_neg (by simpa using i)]at c;exact c
  exact(exm_one (M:=M) j.Wt (vy (l,f,d,e,g)) m).at h
def hAs(K:PySem.W.Frag)(i:Nat)(h:Addr)(e:TS)(f:TH):TH:=λC D d H=>∃b,kitOne K (.ref C) (.ref h)=some b/\if b=true then (∀a,H a=none ->
 e {nx:=λ c g=>D.nx (c.set i none) g,rt:=λ_ _=>False} (d.set i (!!!a)) (upd H a (JR a C)))else f C D d H
theorem Ud{X:Cx}{n:Str}{i:Nat}{A:Stmt}{c:List Stmt}{r:TS}{rest:List ExceptHandler}{s:TH}
  (y:Exc X.K X.mg qual a)(Q:uH X.K a)(k:Gl X qual)(w:X.N.Nodup)(u:X.N[i]?=some n)(g:X.env.scope.names.lookup n=some .local)
  (J:∀ea,Wu (X.suite ea) (A::c) r)(M:PH X rest s)(l:(qual==("__debug__" : Str))=false:=by decide):
  PH X (.ExceptHandler (some (.Name qual p)) (some n) (A::c) apos::rest) (hAs X.K i a r s):=by
 intro o ea C t B Z H F D x L f h E q;obtain⟨b,d,q⟩:=q;have j:=L x f h;refine wpAny_handleBy_cons (codeAny_handlers_test (j5 (X:=X.suite ea) j.suite k y.m ?_ l)) (by intro z;cases z);refine Oz y Q j f d ?_;cases b with
 |false=>
  rw[if_neg afD]at q;exact M o ea C t B Z H F D x L f h E q
 |true=>
  rw[if_pos rfl]at q;refine codeAny_handlers_suite_as ?_;refine lands_againW f λO S R=>?_;have W:=L O S (h.trans R);refine uY (X:=X.suite ea) (v:=.ref ea) W.suite w u (.inl g) rfl (λG V=>?_) (.inr g);refine wpAny_mono (J ea o G _ _ _ V (q ea E)) (λP s8 e=>?_) λ_ _ z=>False.elim z;cases P with
  |next=>
   obtain⟨a0,Y,U,I⟩:=e;exact name_goes (U.unsuite j.ok) w u g λs9 T=>(_,Y,T,I)
  |ret v=>obtain⟨_,_,_,_,_,z⟩:=e;exact False.elim z
  |brk=>obtain⟨_,_,_,z⟩:=e;exact False.elim z
  |cont=>obtain⟨_,_,_,z⟩:=e;exact False.elim z
def Rm(d:XK->TS)(c:TH):TS:=λD b H=>d (λe _ f=>∃C,e=.ref C /\ ∀a:St,a.length=b.length->c C D a f) D b H
theorem SX{X:Cx}{b:List Stmt}{G:ExceptHandler}{z:List ExceptHandler}{pos:Pos}{u:XK->TS}{t:TH}(d:X.stack=X.env::X.outer)(o:X.env.frame=some X.env.locals)
  (Q:∀k E,Wu (X.tr k E) b (u E))(P:PH X (G::z) t):PS X (.Try b (G::z) [] [] pos) (Rm u t):=by
 intro k s N H D I h;refine wpAny_Try_except ?_;refine wpAny_mono (Q k _ [] s N H D I.tr h) (λR x q=>?_) λe x q=>?_
 ·have l:=q.untr;cases R with
  |next=>exact wpAny_execs_nil l
  |ret v=>exact l
  |brk=>exact l
  |cont=>exact l
 ·obtain⟨f,H1,Z,n,J,M,w,B,Y,rfl,y,c,r,g,m,i,C,S,O⟩:=q;cases S;have p:X.A.frames=some (X.env::X.outer):=by rw[<-d];exact I.ok.frames
  refine wpAny_looks_onW (base:=B) p o (by rw[<-d];exact m) λh4 j K=>wpAny_landsW j λF V L=>?_;have a:Heap.FlyingW B X.stack J (.ref M) (.ref w) F:=by rw[d];exact V
  obtain⟨W,_⟩:=landed n y c r g m i a (K.trans L);exact P k J M w B Y x f D F (λh6 U T=>(landed n y c r g m i U T).2) a (K.trans L) W (O f (by rw[n.len,I.len]))
def over(H:Hp)(cs:List Addr)(H':Hp):Hp:=λb=>if b∈cs then H b else H' b
section
variable{P:Program}{w:World}{cs:List Addr}
end
section
variable{P:Program}{w:World}{c:CloT}{cs:List Addr}{fvs vs:List V}{us:List Value}{k:Nat}{Q:VK}{E:XK}
end
end L2
namespace Tw
def pairs(f:Nat):List Int:=(aai f [1,0]).flatten
def Tree(ns:List Int):Prop:=2<=ns.length/\ht ns ns.length=0 /\ ∀k,0<k->k<ns.length->0<ht ns k
inductive iH(n:Nat)(S:Nat):Prop
 | mk (h:_) (_:S=2^h) (_:n<=S) (_:∀j,j<h->2^j<n)
theorem iH.uniq{n :Nat}(a:iH n d)(b:iH n y):d=y:=by
 obtain⟨h,rfl,g,e⟩:=a;obtain⟨k,rfl,f,c⟩:=b;rcases ahN h k with q|q|q
 ·have:=c h q;lia
 ·rw[q]
 ·have:=e k q;lia
theorem iH.pos{n :Nat}(a:iH n d):1<=d:=by
 obtain⟨h,rfl,_⟩:=a;exact Nat.one_le_two_pow
theorem iH.le{n :Nat}(a:iH n d)(h:n<=4096):d<=4096:=by
 obtain⟨k,rfl,c,b⟩:=a;rcases afF 12 k with q|q
 ·have:=b 12 q;lia
 ·exact agd (aiD ∅ q) ∅
def NodeOk(S st sp n e:Nat):Prop:=1<=n/\S<=n*2^e/\(n+1)*2^e<=S+sp/\(1<n->S<=n / 2*2^(e+1)/\(n / 2+1)*2^(e+1)<=2*S/\(n / 2*2^(e+1)<S+st\/S+sp<(n / 2+1)*2^(e+1)))
def Chain(S st sp:Nat):List Nat->Nat->Nat->Prop
 |[],x,y=>x=y
 |n::r,x,y=>∃e,n*2^e=x/\NodeOk S st sp n e/\Chain S st sp r ((n+1)*2^e) y
structure ZD(S st sp e low high:Nat)(ls rs:List Nat):Prop where
 lo1:S+st<=low*2^e
 lo2:low*2^e<S+st+2^e
 hi1:high*2^e<=S+sp
 hi2:S+sp<high*2^e+2^e
 le:low<=high
 left:Chain S st sp ls (S+st) (low*2^e)
 right:Chain S st sp rs.reverse (high*2^e) (S+sp)
def U3:Nat->Nat->Nat->List Nat->List Nat->List Nat
 |0,_,_,d,c=>d++c.reverse
 |f+1,b,a,d,c=>if b<a then U3 f ((b+b%2) / 2) ((a-a%2) / 2) (if b%2=1 then d++[b]else d) (if a%2=1 then c++[a-1]else c)else d++c.reverse
def cover(S st sp:Nat):List Nat:=U3 (sp-st) (S+st) (S+sp) [] []
end Tw
namespace PySem
open PyProof.Rows
namespace F
end F
section
variable{w:World}
end
end PySem
namespace L2
open PySem.Spec PyProof.Rows
theorem Ra(a b:Nat):Builtin.Range.rangeSize a b (-1)=((a-b:Nat):Int):=by
 unfold Builtin.Range.rangeSize;rw[if_neg ∅,show (- -1:Int)=1 from rfl,ahD];split<;>lia
theorem Fw{a b:Nat}(d:a<536870912)(c:b<536870912):Builtin.Range.small a b (-1)=true:=by
 unfold Builtin.Range.small Builtin.Range.rangeFitsLong;rw[Ra];have e:(2:Int)^63=9223372036854775808:=by decide
 rw[e,if_neg ∅];refine gn (gn (gn (gn (gn (decide_eq_true ?_) (decide_eq_true ?_)) (gn (decide_eq_true ?_) (decide_eq_true ?_))) ∅) (gn (decide_eq_true ?_) (decide_eq_true ?_))) ?_
 ·lia
 ·lia
 ·lia
 ·lia
 ·lia
 ·lia
 ·rw[ah1];exact .inr (gn (decide_eq_true ⋯) (decide_eq_true ⋯))
inductive M8(R:It->Hp->Prop)(vs:List V)(H1:Hp):Prop
 | mk (a b:Nat) (_:vs=[.int (a:Int),.int (b:Int),.int (-1)]) (_:a<536870912) (_:b<536870912) (_:R (Yq a (-1) (a-b)) H1)
def Tz(b:TA):TI:=λ a H R=>b a H (M8 R)
theorem Gi{a b c:Expr}{p pos:Pos}(F:Gl X "range")(E:X.mg "range" = none)(J:PA X [a,b,c] t)(D:starEach [a,b,c] X.env=[(pq false (eval a X.env)),(pq false (eval b X.env)),(pq false (eval c X.env))]:=by rfl)
  (j:starEach [b,c] X.env=[(pq false (eval b X.env)),(pq false (eval c X.env))]:=by rfl):PI X tg (.Call (.Name "range" p) [a,b,c] [] pos) (Tz t):=by
 intro u s n H R I h;refine Call_ (gf I F E boot_range (PyProof.Rows.callWith_type1 (VL (J pos u s n H _ I h) λO g ⟨N,v,M,w,A⟩=>?_) (by rw[D,j]) (by rw[j];rfl)));obtain⟨x,y,e,C,B,q⟩:=A;subst e;cases w with
 |cons r i=>
  cases i with
  |cons z i=>
   cases i with
   |cons m i=>
    cases i;obtain⟨d,rfl⟩:=r;obtain⟨k,rfl⟩:=z;obtain⟨f,rfl⟩:=m;refine call_range_3 ∅ ?_ (.inl (PyProof.noPylong_small ∅));refine wpAny_pyIter_range (IsRange.new ..) (Fw C B) ?_
    have l:Inv X u n v {g with heap:=g.heap.push {cls:=.type "range",data:=.fields #[.int x d,.int y k,.int (-1) f]},toks:=g.toks}:=M.kept λb o e=>Heap.get?_push_of_some _ e
    refine((g.heap.push {cls:=.type "range",data:=.fields #[.int x d,.int y k,.int (-1) f]}).objs.size,[(g.heap.push {cls:=.type "range",data:=.fields #[.int x d,.int y k,.int (-1) f]}).objs.size],_,_,v,7,
     l.kept (t':=g.toks) λb o e=>Heap.get?_push_of_some _ e,oG _ x (-1) (x-y),1,λb G=>?_,q)
    ·have L:(x:Int)+((0:Nat):Int)*(-1)=x:=by lia
     have K:((x-y:Nat):Int)-((0:Nat):Int)=Builtin.Range.rangeSize x y (-1):=by rw[Ra];lia
     show IsRangeIter _ _ ((x:Int)+((0:Nat):Int)*(-1)) (((x-y:Nat):Int)-((0:Nat):Int)) (-1);rw[L,K];exact Heap.get?_push_size _ rfl
    ·have e:b=(g.heap.push {cls:=.type "range",data:=.fields #[.int x d,.int y k,.int (-1) f]}).objs.size:=by simpa using G
     subst e;exact l.fpOk (aae _) (l.hok.fresh (aae _))
end L2
namespace Tw
def NI(x:V):Prop:=x=.non \/ ∃i,x=.int i
def zg:V->V->V
 |.non,y=>y
 |.int a,.int b=>.int (if b<a then b else a)
 |x,_=>x
theorem yc(y:V):zg .non y=y:=by cases y<;>rfl
theorem Od{x y:V}(b:NI x)(a:NI y):NI (zg x y):=by
 rcases b with rfl|⟨i,rfl⟩
 ·rw[yc];exact a
 ·rcases a with rfl|⟨j,rfl⟩
  ·exact .inr (i,7)
  ·exact .inr (_,7)
def Dj(ns:List Int)(i:Nat):V:=match ns[i]? with|some c=>.int c|none=>.non
theorem wH{ns:List Int}{i:Nat}{c:Int}(h:ns[i]?=some c):Dj ns i=.int c:=by
 unfold Dj;rw[h]
theorem GC{ns:List Int}{i:Nat}(h:ns.length<=i):Dj ns i=.non:=by
 unfold Dj;rw[aaU h]
structure xG(ns:List Int)(S k:Nat)(xs:List V):Prop where
 len:xs.length=2*S
 zero:xs[0]?=some .non
 leaf:∀i,i<S->xs[S+i]?=some (Dj ns i)
 node:∀j,k<=j->1<=j->j<S -> ∃x y,xs[2*j]?=some x/\xs[2*j+1]?=some y/\xs[j]?=some (zg x y)
 ni:∀x∈xs,NI x
theorem xG.start{ns:List Int}(k:1<=d)(b:ns.length<=d):xG ns d d (aai d V.non++ns.map V.int++aai (d-ns.length) V.non):=by
 refine(1,1,λi c=>?_,λj g f e=>by lia,λx a=>?_)
 ·simp only[aab,aaw,aaa];lia
 ·rw[aay,afI (by rw[aaw];lia),aha,if_pos ⋯]
 ·rw[aay,afH (by rw[aaw];lia),aaw,agf];by_cases h:i<ns.length
  ·rw[afI (by rw[aaa];exact h),aak,aac h,wH (aac h)];rfl
  ·rw[afH (by rw[aaa];lia),aaa,aha,if_pos ⋯,GC ⋯]
 ·rcases aas.mp a with a|a
  ·rcases aas.mp a with a|a
   ·exact .inl (af8 a)
   ·obtain⟨i,_,rfl⟩:=aaz.mp a;exact .inr (i,7)
  ·exact .inl (af8 a)
theorem xG.step{ns:List Int}{k:Nat}{xs:List V}{x y:V}(h:xG ns d (k+1) xs)(w:1<=k)(t:k<d)(m:xs[2*k]?=some x)(l:xs[2*k+1]?=some y):xG ns d k (xs.set k (zg x y)):=by
 have n:=h.len;have f:∀j,j≠k->(xs.set k (zg x y))[j]?=xs[j]?:=λj o=>agO (agB o);refine(by rw[ahZ];exact n,1,λi p=>?_,λj a b c=>?_,λz g=>?_)
 ·rw[f 0 ⋯];exact h.zero
 ·rw[f (d+i) ⋯];exact h.leaf i p
 ·by_cases e:j=k
  ·subst e;exists x,y,1,?_
   ·rw[f (2*j) ⋯];exact m
   ·rw[f (2*j+1) ⋯];exact l
   ·exact agT ⋯
  ·obtain⟨u,v,s,r,q⟩:=h.node j ⋯ b c;exists u,v,1,?_
   ·rw[f (2*j) ⋯];exact s
   ·rw[f (2*j+1) ⋯];exact r
   ·rw[f j e];exact q
 ·rcases aic g with g|rfl
  ·exact h.ni z g
  ·exact Od (h.ni x (aar m)) (h.ni y (aar l))
theorem Rh{xs:List V}{j:Nat}{x:V}(h:xs[j]?=some x):Ws xs (j:Int)=some x:=jD h
def We(ns:List Int)(n:Nat):List Int:=(abS (n+1)).map λk=>(ns.take (32*k)).sum
theorem dm(ns:List Int)(n:Nat):(We ns n).length=n+1:=by simp[We]
theorem Pu{ns:List Int}{n k:Nat}(h:k<=n):(We ns n)[k]?=some (ns.take (32*k)).sum:=by
 have:k<n+1:=by lia
 simp[We,this]
def jE(bs:List Int)(k:Nat):Int:=((bs.take k).map λb=>ones b 32).sum
theorem tK{bs:List Int}{k:Nat}{b:Int}(h:bs[k]?=some b):jE bs (k+1)=jE bs k+ones b 32:=by
 unfold jE;rw[aed,h];simp[ahI]
def aheads(bs:List Int)(n:Nat):List Int:=(abS (n+1)).map (jE bs)
theorem xn(bs:List Int)(n:Nat):(aheads bs n).length=n+1:=by simp[aheads]
theorem Bt(bs:List Int)(n:Nat):aheads bs (n+1)=aheads bs n++[jE bs (n+1)]:=by
 unfold aheads;rw[afU,aaf];rfl
theorem Dh(bs:List Int)(n:Nat):aheads bs n=(abS n).map (jE bs)++[jE bs n]:=by
 unfold aheads;rw[afU,aaf];rfl
theorem qu{ns:List Int}(h:aO ns):∀k:Nat,k<=many ns.length->jE (bQ ns) k=(ns.take (32*k)).sum
 |0,_=>by simp[jE]
 |k+1,a=>by
  rw[tK (qX ⋯),qu h k ⋯,JZ h k 32 ⋯];rfl
theorem zM{ns:List Int}(h:aO ns):aheads (bQ ns) (bQ ns).length=We ns (many ns.length):=by
 rw[bJ];unfold aheads We;refine agr λk a=>?_;have:=af5.mp a;exact qu h k ⋯
def wide(n j:Nat):Nat:=min 32 (n-32*j)
def oY(ns:List Int)(j:Nat)(m:Int):Prop:=(∃k,32*j<k/\k<=32*j+32/\k<=ns.length/\m=ht ns k) /\ ∀k,32*j<k->k<=32*j+32->k<=ns.length->m<=ht ns k
theorem oY.of{ns:List Int}(h:aO ns){j:Nat}{M:Int}(f:M∈nets (fL ns j) (wide ns.length j))(b:∀a∈nets (fL ns j) (wide ns.length j),M<=a):oY ns j (ht ns (32*j)+M):=by
 unfold wide at *;constructor
 ·obtain⟨k,d,c,rfl⟩:=Dw.mp f;refine(32*j+k,6,6,6,1);rw[Bh h j k ⋯]
 ·intro k d c g;have:=b _ (Dw.mpr (k-32*j,6,6,7));have e:=Bh h j (k-32*j) ⋯;rw[show 32*j+(k-32*j)=k from by lia]at e;lia
theorem oY.uniq{ns:List Int}{j:Nat}{m :Int}(h:oY ns j m)(h':oY ns j i):m=i:=by
 obtain⟨⟨k,n,l,g,rfl⟩,c⟩:=h;obtain⟨⟨a,f,e,d,rfl⟩,b⟩:=h';have:=c a f e d;have:=b k n l g;lia
structure v7(ns ls:List Int):Prop where
 len:ls.length=many ns.length
 low:∀j m,ls[j]?=some m->oY ns j m
theorem v7.uniq{ns ls ms:List Int}(h:v7 ns ls)(h':v7 ns ms):ls=ms:=by
 refine af7 λj=>?_;by_cases e:j<many ns.length
 ·have d:j<ls.length:=by have:=h.len;lia
  have c:j<ms.length:=by have:=h'.len;lia
  have b:ls[j]?=some ls[j]:=aac d;have a:ms[j]?=some ms[j]:=aac c;rw[b,a,(h.low _ _ b).uniq (h'.low _ _ a)]
 ·rw[aaU (by have:=h.len;lia),aaU (by have:=h'.len;lia)]
def hts(ns:List Int)(n:Nat):List Int:=(abS (n+1)).map (ht ns)
theorem Tree.pos{ns:List Int}(t:Tree ns){k:Nat}(h:k<=ns.length):0<=ht ns k:=by
 obtain⟨d,b,a⟩:=t;rcases agJ k with rfl|c
 ·rw[jx];decide
 rcases afF k ns.length with q|q
 ·have:=a k c q;lia
 ·have:k=ns.length:=by lia
  rw[this,b];decide
end Tw
namespace L2
open PySem.Spec PyProof.Rows
section
variable{w:World}
theorem FT{iter:Expr}{g:List Expr}{pos:Pos}{i:Value}{env:Env}{R:Result->Shared->Prop}(J:Nat->Shared->Prop)
  (j:∀n a,J n a->wpAny (model prog w) A (pyNext cd) (λr l=>match r with
   |none=>R (.ok .next) l
   |some v=>wpAny (model prog w) A (letOwnedTupleGo (.Tuple es d p) cd v) (λ_ B=>wpAny (model prog w) A (assign (.Tuple es d p) env v) (λ_ z=>
     wpAny (model prog w) A (forIn g true λc r=>if r=true then do let f <-isTrue c env (eval c env);pure (ForInStep.yield f)else pure (ForInStep.yield r)) (λf k=>if f=true then
      wpAny (model prog w) A (eval tg env) (λy x=>wpAny (model prog w) A (call (.builtin "list.append") [i,y]) (λ_ u=>∃m,m<n/\J m u) (notedBy (model prog w) A env λe b=>R (.error e) b) x) (notedBy (model prog w) A env λe b=>R (.error e) b) k
      else ∃m,m<n/\J m k) (notedBy (model prog w) A env λe b=>R (.error e) b) z)
     (notedBy (model prog w) A env λe b=>R (.error e) b) B) (notedBy (model prog w) A env λe b=>R (.error e) b) l) (notedBy (model prog w) A env λe b=>R (.error e) b) a)
  (n:Nat)(h:J n s):codeAny (model prog w) A (.compLoop (.ListComp tg [(.Tuple es d p,iter,g,0)] scope pos) 0 cd i env) R s:=by
 refine codeAny_loop rfl J (λn a C=>wpAny_noted ?_) n h;rw[compTurn_list];refine wpAny_bind (wpAny_standAt (wpAny_bind (wpAny_mono (j n a C) (λr l t=>?_) λ_ _ q=>q)));cases r with
 |none=>exact wpAny_pure t
 |some v=>
  refine wpAny_bind (wpAny_mono t (λ_ B G=>wpAny_bind (wpAny_mono G (λ_ z F=>wpAny_bind (wpAny_mono F (λf k o=>?_) λ_ _ q=>q)) λ_ _ q=>q)) λ_ _ q=>q);cases f with
  |false=>exact wpAny_pure (7,o)
  |true=>exact wpAny_bind (wpAny_bind (wpAny_mono o (λy x E=>wpAny_bind (wpAny_mono E (λ_ u D=>wpAny_pure (wpAny_pure (7,D))) λ_ _ q=>q)) λ_ _ q=>q))
end
structure n6(X:Cx)(x z:Str)(caps:List (Str×Nat))(scope:Scope)(cl:List (Str×Addr)):Prop where
 o:bU X x caps scope cl
 hz:scope.names.lookup z=some .local
 nd:(x::z::caps.map (·.1)).Nodup
theorem Inv.comp2{x :Str}{h':Heap}{tk:Nat}{m:Str->Option Value}{C:Addr}(I:Inv X π σ H s)(F:n6 X x qual r scope n)(P:∀b∈l,gr X π H b)
    (Z:∀b∈l,b<s.heap.objs.size)(M:s.heap.objs.size<=a)(Q:s.heap.objs.size<=C)(a0:a≠C)(L:∀b o,s.heap.get? b=some o->h'.get? b=some o)(hn:h'.Ns C m)(hL:h'.get? a=some {cls:=.type "list",data:=.seq #[]}):
    Inv (bD X (x::qual::r.map (·.1)) scope n C s H l) [] (none::none::fJ r σ) (upd H a (.lst [])) {s with heap:=h',toks:=tk}:=by
  have Zx:=I.hok.fresh M;have W:=I.hok.fresh Q;have E:∀y c,(bD X (x::qual::r.map (·.1)) scope n C s H l).env.cells.lookup y=some c->X.env.cells.lookup y=some c:=λy c e=>F.o.cls y c e;have a2:∀y c,X.env.cells.lookup y=some c->c<s.heap.objs.size:=λy c e=>by
    obtain⟨v,q⟩:=I.cell y c e;exact q.lt
  have up:∀b u,H b=some u->upd H a (.lst []) b=some u:=λb u q=>by rw[aK (aH q Zx)];exact q
  have ok:(bD X (x::qual::r.map (·.1)) scope n C s H l).Ok:=by
    refine(I.ok.mod,F.o.kind,I.ok.glob,I.ok.blt,Q,λy qual c h1 h2=>I.ok.inj y qual c (E y c h1) (E qual c h2),λy hy=>F.o.has y hy,λy c h=>absurd (show false=true from h) afD,I.ok.hd,I.ok.frames,.inl rfl,λb B=>?_,I.bs,agd I.ok.W4 I.sz,λb o e B=>?_,λb B hz=>?_,I.stack,I.stkFree)
    · obtain⟨f0,U,T,S,R,f5⟩:=P b B
      exact(ae2 (aau (Z b B) Q),λy c e=>R y c (E y c e))
    · obtain⟨f0,U,T,S,R,f5⟩:=P b B
      rcases S with qual|qual
      · exact I.ok.noex b o e qual
      · exact absurd (aau (aau (Heap.lt_size e) I.ok.W4) qual) (agg _)
    · obtain⟨f0,U,T,S,R,f5⟩:=P b B
      rcases aat.mp (I.stkSub b hz)with qual|qual
      · exact U qual
      · exact T qual
  exists ok,7,I.bare,1,(m,hn,λi y v e1 V e3=>?_),λy c e=>?_,1,λy c e=>?_,λp hp=>absurd (show p∈([]:List (Addr×Obj))from hp) (by simp),?_
  · exact Un.laid L M Zx
  · cases i with
    |zero=>cases V
    |succ i=>
     cases i with
     |zero=>cases V
     |succ i=>
      have g:(r.map (·.1))[i]?=some y:=e1;have t:(fJ r σ)[i]?=some (some v):=V;rw[aak]at g;unfold fJ at t;rw[aak]at t;cases G:r[i]? with
      |none=>rw[G]at g;cases g
      |some p=>
        rw[G]at g t;obtain⟨A,j⟩:=p;have ey:A=y:=afE g;subst ey;have N:(σ[j]?).getD none=some v:=afE t;have a1:σ[j]?=some (some v):=by
          cases q:σ[j]? with
          |none=>rw[q]at N;cases N
          |some w=>rw[q]at N;exact congrArg some N
        obtain⟨c1,c2,c3⟩:=F.o.cap A j (aar G);obtain⟨m0,a3,hl⟩:=I.loc;obtain⟨u,d,f⟩:=hl j A v c1 a1 (by rcases c2 with qual|qual;exact .inr (.inl qual);exact .inr (.inr qual));refine(u,d,.inr (c3,1));rcases f with ⟨k,_⟩|⟨k,c,G,qual⟩
        · have K:X.env.scope.names.lookup A=some .local:=k
          rcases c2 with qual|qual
          · rw[qual]at K;cases K
          · rw[qual]at K;cases K
        · obtain⟨c',J⟩:=F.o.has A c3
          have e4:=F.o.cls A c' J;rw[G]at e4;cases e4;obtain⟨o,O,hd⟩:=qual;exact(c,J,o,L _ _ O,hd)
  · obtain⟨v,o,O,hd⟩:=I.cell y c (E y c e)
    exact(v,o,L _ _ O,hd)
  · show upd H a (.lst []) C=none
    rw[aK (agB a0)];exact W
  · have Y:=a2 y c (E y c e)
    rw[aK (ae2 (aau Y M))];exact I.freeC y c (E y c e)
  · exact I.hok.laid L M (aaH _,[],_,.nil,hL)
  · show (none::none::fJ r σ).length=(x::qual::r.map (·.1)).length
    simp[tR]
def Av(K:PySem.W.Frag)(J:It)(d:St)(k:TE)(l:Addr->Hp->Prop)(H:Hp):Prop:=
 ∀D,H D=none -> ∃W:Nat->Nat->List V->Hp->Prop,(∃m,W 0 m [] (upd H D (.lst []))) /\ ∀i m a b,W i m a b ->
  (J.stop i b/\l D b)\/(J.go i b /\ ∀v c,J.Xk i b v c -> ∃g f e,v=.ref g/\VM K c g [f,e] /\
   k (some f::some e::d) c λy j=>j D=some (.lst a)/\a.length<sizeLine /\ ∃h,h<m/\W (i+1) h (a++[y]) (upd j D (.lst (a++[y]))))
def qj(K:PySem.W.Frag)(J:It)(e:St)(n:TT)(o:TE)(p:Addr->Hp->Prop)(H:Hp):Prop:=
 ∀D,H D=none -> ∃W:Nat->Nat->List V->Hp->Prop,(∃m,W 0 m [] (upd H D (.lst []))) /\ ∀i m a d,W i m a d ->
  (J.stop i d/\p D d)\/(J.go i d /\ ∀v h,J.Xk i d v h -> ∃j g f,v=.ref j/\VM K h j [g,f] /\
   n (some g::some f::e) h λb l=>if b=true then
   o (some g::some f::e) l λy k=>k D=some (.lst a)/\a.length<sizeLine /\ ∃c,c<m/\W (i+1) c (a++[y]) (upd k D (.lst (a++[y])))else ∃c,c<m/\W (i+1) c a l)
theorem nA{x :Str}{tp pos:Pos}{iter:Expr}{J:It}{tn:Nat->Heap->Prop}{Qf:Addr->Hp->Prop}
  {RR:Value->Addr->Result->Shared->Prop}{E:Value->Shared->Prop}(I:Inv X π σ H s)(hc:X.calm=true)(P:n6 X x qual r scope n)(T:Turn X.prog X.w X.K (.Tuple [.Name x p,.Name qual apos] d tp) J l a tn)(st:tn 0 s.heap)(hf:∀b∈l,gr X π H b)
  (ht:∀C s1 H1 V6,XR (bD X (x::qual::r.map (·.1)) scope n C s1 H1 V6) es L)(he:∀C s1 H1 V6,PE (bD X (x::qual::r.map (·.1)) scope n C s1 H1 V6) e ta)(rd:qj X.K J (fJ r σ) L ta Qf H)
  (b5:∀D C s' H' m,Inv X π σ H' s'->s'.heap.Ns C m->gr X π H' C->Qf D H'->RR (.ref D) C (.ok .next) s'):
  wpAny (model X.prog X.w) X.A (newList []) (λa7 s3=>wpAny (model X.prog X.w) X.A (newFunctionEnv scope X.env.globals n [] X.env.qual none .none (some X.env)) (λa1 s4=>
   codeAny (model X.prog X.w) X.A (.compStart (.ListComp e [(.Tuple [.Name x p,.Name qual apos] d tp,iter,es,0)] scope pos) 0 (.ref a) a7 {a1 with scope:=relabel scope X.env}) (RR a7 a1.locals) s4) E s3) E s:=by
 have a3:∀b∈l,b<s.heap.objs.size:=λb N=>by
  obtain⟨o,k,_⟩:=T.obj _ _ st b N;exact Heap.lt_size k
 refine wpAny_newObj_type (wpAny_newFunctionEnv P.o.ρ (by intro y hy;simp at hy) (λh1 a2 Y=>?_) P.o.kind);dsimp only at a2 Y ⊢;obtain⟨D,eD⟩:∃D:Nat,D=s.heap.objs.size:=(_,7)
 obtain⟨M,Xc⟩:∃g,g=s.heap.push {cls:=.type "list",dict:=none,data:=.seq ([]:List Value).toArray}:=(_,7)
 rw[<-Xc]at a2 Y ⊢;rw[<-eD];have hC:M.objs.size=D+1:=by rw[Xc,Heap.size_push,eD]
 have a6:s.heap.objs.size<=M.objs.size:=by rw[hC,eD];exact ahd _
 have b6:D≠M.objs.size:=by rw[hC];exact ae2 (agM _)
 have hk:∀b o,s.heap.get? b=some o->h1.get? b=some o:=λb o k=>by
  refine Y.extBut b o (ae2 (aau (Heap.lt_size k) a6)) (Heap.get?_push_of_some _ ?_);rw[Xc];exact Heap.get?_push_of_some _ k
 have hL:h1.get? D=some {cls:=.type "list",data:=.seq #[]}:=by
  refine Y.extBut D _ ⋯ (Heap.get?_push_of_some _ ?_);rw[Xc,eD];exact Heap.get?_push_size _ rfl
 have a5:tn 0 h1:=T.keep _ _ _ st λb _ o k=>hk b o k;obtain⟨W,⟨m0,w0⟩,a8⟩:=rd D (I.hok.fresh ⋯);have a0:codeAny (model X.prog X.w) X.A (.compLoop (.ListComp e [(.Tuple [.Name x p,.Name qual apos] d tp,iter,es,0)] scope pos) 0 (.ref a) (.ref D) (compEnvC scope n M.objs.size X.env)) (RR (.ref D) M.objs.size) {s with heap:=h1,toks:=s.toks+([]:List (Str×Value)).length}:=by
  refine FT (λF s'=>∃i Z S R H',Inv (bD X (x::qual::r.map (·.1)) scope n M.objs.size s H l) [] (S::R::fJ r σ) H' s'/\tn i s'.heap/\(∀b∈l,H' b=none)/\W i F Z H') ?_ m0
   (0,[],none,none,_,I.comp2 P hf a3 ⋯ ⋯ b6 hk a2 hL,a5,λb N=>?_,w0)
  ·rintro F s3 ⟨i,Z,S,R,H3,I3,a4,XM,w3⟩;have XS:∀{H':Hp}{pi:List (Addr×Obj)},(∀b∈l,H' b=none)->(∀f∈pi,f.1∉l) -> ∀b∈l,gr (bD X (x::qual::r.map (·.1)) scope n M.objs.size s H l) pi H' b:=λ{H' pi} hn hp b N=>by
    obtain⟨f0,f1,f2,f3,f4,f5⟩:=hf b N;refine(hn b N,1,λqual=>?_,.inl N,λy c k=>f4 y c (P.o.cls y c k),λf b4 qual=>?_)
    ·exact ae2 (aau (a3 b N) a6)
    ·rcases aat.mp (I.stkSub b qual)with q|q
     ·exact f1 q
     ·exact f2 q
    ·exact hp f (by simpa [bD]using b4) (by rw[qual];exact N)
   have clear:∀{α:Type}{t:Sem α}{Q:α->Shared->Prop}{E':Value->Shared->Prop}{s:Shared},wpAny (model X.prog X.w) X.A t Q (λ_ _=>False) s->wpAny (model X.prog X.w) X.A t Q E' s:=λh=>wpAny_mono h (λ_ _ qual=>qual) λ_ _ qual=>qual.elim;rcases a8 i F Z H3 w3 with ⟨a9,qf⟩|⟨go,b0⟩
   ·refine VL (T.done (bD X (x::qual::r.map (·.1)) scope n M.objs.size s H l) rfl rfl rfl hc i [] s3 _ H3 _ I3 (XS XM (by simp)) a4 a9) λj s4 ⟨hr,I4⟩=>?_;subst hr;obtain⟨m4,YZ,_⟩:=id I4.loc;refine b5 D _ s4 H3 m4 (I.comped hf I4) YZ ?_ qf;have gC:s.heap.objs.size<=M.objs.size:=by lia
    exact I.fpOk gC I4.free
   ·refine clear (VL (T.item (bD X (x::qual::r.map (·.1)) scope n M.objs.size s H l) rfl rfl rfl hc i [] s3 _ H3 (λ_ _=>False) I3 (XS XM (by simp)) a4 go) λj s4 ⟨u,hr,h4⟩=>?_);subst hr;refine clear (VL h4 λ_ s5 ⟨v,H5,I5,r5,y5,WF,YB⟩=>?_);have YC:=I5.pinned (XS YB (by simp)) (T.obj _ _ WF);obtain⟨B,v1,v2,ev,b3,q6⟩:=b0 v _ y5;subst ev;have hg:PG (bD X (x::qual::r.map (·.1)) scope n M.objs.size s H l) (.Tuple [.Name x p,.Name qual apos] d tp) (UJ X.K 2 (Nk (gh 0) (Nk (gh 1) Ue))):=
     iK hc (bG (km (i:=0) P.nd rfl (agH (lookup_relabel_local P.o.hx)) (ahH (lookup_relabel_local P.o.hx))) (bG (km (i:=1) P.nd rfl (agH (lookup_relabel_local P.hz)) (ahH (lookup_relabel_local P.hz))) fW))
    refine clear (VL (hg _ s5 (S::R::fJ r σ) H5 (.ref B) u (λ b1 M=>b1=some v1::some v2::fJ r σ/\M=H5) YC r5 (B,[v1,v2],7,b3,7,v1,[v2],7,v2,[],7,7,(show _/\_ from (7,7)))) λ_ s6 ⟨b9,H6,I6,e6,e7⟩=>?_);subst e6 e7;have O:∀{H7:Hp}{s7:Shared}{S R:Option V}{zs:List V}{U:Nat},Inv (bD X (x::qual::r.map (·.1)) scope n M.objs.size s H l) ([]++o7 l s5.heap) (S::R::fJ r σ) H7 s7->U<F->W (i+1) U zs H7 ->
      ∃m,m<F /\ ∃i Z S R H',Inv (bD X (x::qual::r.map (·.1)) scope n M.objs.size s H l) [] (S::R::fJ r σ) H' s7/\tn i s7.heap/\(∀b∈l,H' b=none)/\W i m Z H':=λ{H7 s7 S R zs U} I7 hm w7=>by
     refine(U,hm,i+1,zs,S,R,H7,I7.ξ,T.keep _ _ _ WF λb N o k=>(I7.pin (pq b o) (aap _ (aap _ (fD N k)))).1,λb N=>?_,w7);obtain⟨o,k,G⟩:=T.obj _ _ WF b N;exact(I7.pin (pq b o) (aap _ (aap _ (fD N k)))).2.1
    refine clear (VL (ht M.objs.size s H l _ s6 _ H6 _ I6 q6) λok s7 ⟨H7,I7,q7⟩=>?_);cases ok with
    |false=>
     obtain⟨U,hm,w7⟩:=(show ∃U,U<F/\W (i+1) U Z H7 from q7);exact O I7 hm w7
    |true=>
     refine clear (VL (he M.objs.size s H l _ s7 _ H7 _ I7 q7) λxv s8 ⟨y,H8,I8,r8,Zy,b2,U,hm,w8⟩=>?_);refine clear (VL (bW _ s8 _ H8 (.ref D) [y] (.ref D) [xv] (λ_ H9=>H9=upd H8 D (.lst (Z++[y]))) I8 rfl (.cons r8 .nil) (D,Z,y,7,7,Zy,b2,7)) λ_ s9 ⟨_,H9,I9,_,e9⟩=>?_);subst e9;exact O I9 hm w8
  ·rw[aK (by rw[eD];exact ae2 (a3 b N))];exact(hf b N).1
 exact codeAny_compStart_list a0 (T.self _ 0 _ _ _ a5 a0)
theorem Gx{x :Str}{u pos:Pos}{iter:Expr}{J:It}{B:Nat->Heap->Prop}{F:Addr->Hp->Prop}
  {RR:Value->Addr->Result->Shared->Prop}{E:Value->Shared->Prop}(I:Inv X π σ H s)(Z:X.calm=true)(K0:n6 X x qual r scope n)(T:Turn X.prog X.w X.K (.Tuple [.Name x p,.Name qual apos] d u) J l a B)(st:B 0 s.heap)(V:∀b∈l,gr X π H b)
  (Y:∀C S q V6,PE (bD X (x::qual::r.map (·.1)) scope n C S q V6) e ta)(U:Av X.K J (fJ r σ) ta F H)
  (t:∀D C s' H' m,Inv X π σ H' s'->s'.heap.Ns C m->gr X π H' C->F D H'->RR (.ref D) C (.ok .next) s'):
  wpAny (model X.prog X.w) X.A (newList []) (λj R=>wpAny (model X.prog X.w) X.A (newFunctionEnv scope X.env.globals n [] X.env.qual none .none (some X.env)) (λg Q=>
   codeAny (model X.prog X.w) X.A (.compStart (.ListComp e [(.Tuple [.Name x p,.Name qual apos] d u,iter,[],0)] scope pos) 0 (.ref a) j {g with scope:=relabel scope X.env}) (RR j g.locals) Q) E R) E s:=
 nA I Z K0 T st V (λ_ _ _ _=>dN) Y (λD hD=>by
  obtain⟨W,M,k⟩:=U D hD;refine(W,M,λi m G q L=>?_);rcases k i m G q L with h|⟨go,o⟩
  ·exact .inl h
  ·refine .inr (go,λv H2 y=>?_);obtain⟨f,O,N,c,P,h⟩:=o v H2 y;exists f,O,N,c,P;unfold Mm
   set_option simprocs false in dsimp only
   rw[if_pos rfl];exact h) t
def Ju(K:PySem.W.Frag)(a:List (Str×Nat))(b:TE)(σ:St)(Q:VK):It->Hp->Prop:=λJ c=>Av K J (fJ a σ) b (λD d=>Q (.ref D) d) c
def SN(K:PySem.W.Frag)(b:TI)(a:List (Str×Nat))(c:TE):TE:=λ σ H Q=>b σ H (Ju K a c σ Q)
theorem Ed{i:Nat}{y x :Str}{u j pos f:Pos}{iter:Expr}{O:TI}(hN:X.N.Nodup)(Zz:X.N[i]?=some y)(R:X.env.scope.names.lookup y=some .local)(hc:X.calm=true)
  (B:n6 X x qual r scope n)(hi:PI X (.Tuple [.Name x p,.Name qual apos] d u) iter O)
  (he:∀C P H1 V6,PE (bD X (x::qual::r.map (·.1)) scope n C P H1 V6) e ta)
  (G:swapsWith (.ListComp e [(.Tuple [.Name x p,.Name qual apos] d u,iter,[],0)] scope pos) (some (.Name y j)) f.line X.env=pure true:=by rfl)(W:∀x,foldedSetIterable iter X.env x=pure x:=by intro _;rfl):
  PS X (.Assign [.Name y j] (.ListComp e [(.Tuple [.Name x p,.Name qual apos] d u,iter,[],0)] scope pos) f) (Cq (SN X.K O r ta) (gh i)):=by
 intro π s σ H S I h;rw[exec_Assign_Name_used _ _ _ _ G];refine wpAny_bind (wpAny_standAt (wpAny_bind ?_));show wpAny _ X.A (do let _ <-comprehension (.ListComp e [(.Tuple [.Name x p,.Name qual apos] d u,iter,[],0)] scope pos) scope X.env _ (newList []) false (eval iter X.env) (some (assign (.Name y j) X.env))) _ _ s;refine wpAny_bind (wpAny_mono (wpAny_comprehension_free (use:=some (assign (.Name y j) X.env)) (Q:=λ_ k=>SP X π S .next k) rfl W B.o.clos B.o.kind B.o.names
  (VL (hi π s σ H _ I h) λv P h1=>VL h1 λa0 s2 h2=>?_)) (λ_ k Y=>wpAny_pure (wpAny_pure Y)) λ_ _ c=>c)
 obtain⟨it,fp,tn,J,H2,c,I2,T,E,f2,V⟩:=h2;subst c;refine Gx (RR:=λM C=>compPost (model X.prog X.w) X.A X.xe (some (assign (.Name y j) X.env)) (λ_ k=>SP X π S .next k) M C) I2 hc B T E f2 he V ?_;intro D C k H' m I' Z g q;show wpAny _ X.A (assign (.Name y j) X.env (.ref D)) _ _ _;refine wpAny_assign_Name (nP (v:=.ref D) I' hN Zz (.inl R) rfl (λF ZC ch=>(m,1,λL t=>?_)) (.inr R))
 ·obtain⟨a,U,l⟩:=ch;refine Z.sameBut U λqual=>?_;rcases l with l|l
  ·exact g.2.1 (qual.trans l)
  ·exact g.2.2.2.2.1 _ a l qual.symm
 ·exact(_,H',ZC.turned (h':=L) (t':=F.toks) (λb o hb c=>t.extBut b o hb c) g.1 g.2.1 g.2.2.2.1 g.2.2.2.2.1 g.2.2.2.2.2,q)
section
variable{x:Str}
theorem bU.three{y u:Str}{j k l:Nat}{c e:Addr}(s:y≠qual)(t:y≠u)(r:qual≠u)(H:X.N[j]?=some y)(G:X.N[k]?=some qual)(I:X.N[l]?=some u)
  (E:X.env.scope.names.lookup y=some .cell\/X.env.scope.names.lookup y=some .free)(D:X.env.scope.names.lookup qual=some .cell\/X.env.scope.names.lookup qual=some .free)(F:X.env.scope.names.lookup u=some .cell\/X.env.scope.names.lookup u=some .free)
  (K:X.env.cells.lookup y=some c)(J:X.env.cells.lookup qual=some a)(L:X.env.cells.lookup u=some e)(o:closureFor scope X.env=pure [(pq y c),(pq qual a),(pq u e)])
  (B:(relabel scope X.env).names.lookup y=some .cell\/(relabel scope X.env).names.lookup y=some .free)(A:(relabel scope X.env).names.lookup qual=some .cell\/(relabel scope X.env).names.lookup qual=some .free)(C:(relabel scope X.env).names.lookup u=some .cell\/(relabel scope X.env).names.lookup u=some .free)
  (b:∀v∈scope.names,v.2=.free->v.1=y\/v.1=qual\/v.1=u:=by decide)(M:∀y∈scope.names,y.2 ≠ .cell:=by decide)(n:scope.kind=.function:=by rfl)(g:∀y∈scope.names,y.2=.local->scope.names.lookup y.1=some .local:=by decide)
  (V:scope.names.lookup x=some .local:=by rfl)(R:[x,y,qual,u].Nodup:=by decide):bU X x [(pq y j),(pq qual k),(pq u l)] scope [(pq y c),(pq qual a),(pq u e)]:=by
 have O:(qual==y)=false:=by simpa using agB s
 have Q:(u==y)=false:=by simpa using agB t
 have P:(u==qual)=false:=by simpa using agB r
 have T:([(pq y c),(pq qual a),(pq u e)]:List (Str×Addr)).lookup y=some c:=by simp
 have S:([(pq y c),(pq qual a),(pq u e)]:List (Str×Addr)).lookup qual=some a:=by simp[ajw,O]
 have U:([(pq y c),(pq qual a),(pq u e)]:List (Str×Addr)).lookup u=some e:=by simp[ajw,Q,P]
 refine(n,M,g,V,o,λv f W=>?_,λv p=>?_,R,λv i h=>?_)
 ·have m:=PySem.mem_of_lookup W;rcases aat.mp m with q|q
  ·cases q;exact K
  rcases aat.mp q with q|q
  ·cases q;exact J
  ·cases aao.mp q;exact L
 ·have w:v=y\/v=qual\/v=u:=by
   rcases p with p|p
   all_goals
    obtain⟨Y,m,e⟩:=kI p;rcases e with e|⟨e,_⟩
    ·subst e
     first|exact absurd rfl (M _ m) | exact b _ m rfl
    ·subst e;exact b _ m rfl
  rcases w with rfl|rfl|rfl
  ·exact(c,T)
  ·exact(a,S)
  ·exact(e,U)
 ·rcases aat.mp h with q|q
  ·cases q;exact(H,E,B)
  rcases aat.mp q with q|q
  ·cases q;exact(G,D,A)
  ·cases aao.mp q;exact(I,F,C)
end
end L2
namespace Tw
theorem Ga{K:PySem.W.Frag}{a:Addr}{ns:List Int}{h:L2.St}{B:Addr->Hp->Prop}(R:Nat->Int->Prop)(F:My K H a !!ns)(I:ns.length<sizeLine)
  (G:∀(i:Nat) (b:Int) (H':Hp) (Q:VK),ns[i]?=some b->aL H H'->(∀m l,R i m->aL H' l->Q (.int m) l)->ta (some (.int (i:Int))::some (.int b)::h) H' Q)
  (q:∀D H' (ls:List Int),H D=none->aL H H'->H' D=some (.lst !!ls)->ls.length=ns.length->(∀i m,ls[i]?=some m->R i m)->B D H'):Av K (YD K a) h ta B H:=by
 intro D t;exists λi m r o=>m=ns.length-i/\i<=ns.length/\aL H o/\o D=some (.lst r) /\ ∃ls:List Int,r=ls.map V.int/\ls.length=i /\ ∀i m,ls[i]?=some m->R i m,(9,aaH _,au t _,aa,[],7,7,λi m e=>by cases e);rintro i m r o ⟨rfl,J,k,g,ls,rfl,u,A⟩;have d:=k.seq F;by_cases f:i<ns.length
 ·have z:ns[i]?=some ns[i]:=aac f;have x:‹ns›[i]?=some (.int ns[i]):=by
   rw[aak,z];rfl
  refine .inr ((_,_,d,x),λv l y=>?_);obtain⟨p,y,C,rfl,rfl,e⟩:=y;have e:=e _ d;rw[x]at e;cases e;have s:=au C (.tup [.int (i:Int),.int ns[i]]);exists p,_,9,VM.of aa;refine G i ns[i] _ _ z (k.trans s) λm l E w=>(w _ _ (s _ _ g),1,ns.length-(i+1),6,7,f,1,aa,ls++[m],1,1,1)
  ·rw[aaa];lia
  ·exact bc (k.trans (s.trans w)) t _
  ·rw[aaf];rfl
  ·rw[aab,u];rfl
  ·intro j n e;rcases afF j ls.length with c|c
   ·rw[afI c]at e;exact A j n e
   ·rw[afH c]at e;have:j-ls.length=0:=by
     have:=(aad.mp e).1;simp at this;lia
    rw[this]at e;cases e;have:j=i:=by lia
    subst this;exact E
 ·have e:i=ns.length:=by lia
  exact .inl ((_,d,by rw[aaa,e];exact aae _),q D o ls t k g ⋯ A)
theorem rR{K:PySem.W.Frag}{a:Addr}{ns:List Int}{f:L2.St}(g:Int->Int)(o:My K H a !!ns)(r:ns.length<sizeLine)
  (k:∀(z:Int) (H':Hp) (Q:Bool->Hp->Prop),Q true H'->L (some (.int z)::f) H' Q)(p:∀(z:Int) (H':Hp) (Q:VK),z∈ns->aL H H'->Q (.int (g z)) H'->ta (some (.int z)::f) H' Q)
  (q:∀D,H D=none->m D (upd H D (.lst ‹ns.map g›))):fY (XH K a) f L ta m H:=by
 intro D j;exists λi b h n=>b=ns.length-i/\i<=ns.length/\h=((ns.take i).map g).map V.int/\n=upd H D (.lst h),(9,aaH _,7,7);rintro i b h n ⟨rfl,s,rfl,rfl⟩;have d:My K (upd H D (.lst ‹(ns.take i).map g›)) a ‹ns›:=(au j _).seq o;by_cases c:i<ns.length
 ·have l:‹ns›[i]?=some (.int ns[i]):=by
   rw[aak,aac c];rfl
  refine .inr ((_,_,d,l),λv t y=>?_);obtain⟨rfl,y⟩:=y;have e:=y _ d;rw[l]at e;cases e;refine k _ _ _ ?_;rw[if_pos rfl];refine p _ _ _ (afL c) (au j _) (aa,1,ns.length-(i+1),6,7,c,1,1)
  ·rw[aaa,aaa,aam];lia
  ·rw[aed,aac c,aaf,aaf];rfl
  ·rw[iu]
 ·have e:i=ns.length:=by lia
  subst e;rw[afK];rw[afK]at d;exact .inl ((_,d,by rw[aaa];exact aae _),q D j)
end Tw
namespace L2
open PySem.Spec PyProof.Rows
theorem Inv.turnN{ch:List Addr}{p:Addr}{o:HO}{t':Nat}(I:Inv X π σ H s)(h:∀b∈ch,gr X π H b)
  (k:∀b u,b∉ch->s.heap.get? b=some u->h'.get? b=some u)(l:s.heap.objs.size<=p)
  (i:b7 X.prog X.w (upd H p o) h' p o):Inv X π σ (upd H p o) {s with heap:=h',toks:=t'}:=by
 have y:=I.hok.fresh l;have j:∀b u,H b=some u->b∉ch:=λb u q z=>by rw[(h b z).1]at q;cases q
 have a:∀b u,H b=some u->upd H p o b=some u:=λb u q=>by rw[aK (aH q y)];exact q
 refine I.step (g':=s.gens) (d':=s.drawn) (ch:=ch) (λb e=>?_) (λb u _ _ d q _=>k b u d q) (λb u _ _ d q _=>(u.slots,k b u d q))
  (λb u _ q n=>by rw[aK (ae2 (aau (Heap.lt_size q) l))];exact n) (λb u d q=>(u,k b u d q))
  (λb t q=>a _ _ q) (λb g u q=>a _ _ q) (λb E q=>(#[],by rw[a _ _ q];simp)) (λm A=>?_) (λb u q=>?_) I.bare
 ·have f:=h b e;exact(f.2.2.2.1,f.2.1,f.2.2.2.2.1,f.2.2.2.2.2)
 ·obtain⟨g,C,D,x,r⟩:=A;exact(g,C,D,k _ g (λz=>(h _ z).2.1 rfl) x,r)
 ·by_cases e:b=p
  ·subst e;rw[aa]at q;cases q;exact i
  ·rw[aK e]at q;refine(I.hok b u q).stay (λc v B r=>k c v ?_ r) (λc r=>a _ _ r) λc t r=>a _ _ r;rcases B with rfl|z
   ·exact j _ _ q
   ·exact j _ _ z
theorem Inv.turnedN{ch:List Addr}{t':Nat}(I:Inv X π σ H s)(e:∀b∈ch,gr X π H b)
  (k:∀b u,b∉ch->s.heap.get? b=some u->h'.get? b=some u):Inv X π σ H {s with heap:=h',toks:=t'}:=by
 have g:∀b u,H b=some u->b∉ch:=λb u q z=>by rw[(e b z).1]at q;cases q
 refine I.step (g':=s.gens) (d':=s.drawn) (ch:=ch) (λb l=>?_) (λb u _ _ a q _=>k b u a q) (λb u _ _ a q _=>(u.slots,k b u a q))
  (λ_ _ _ _ n=>n) (λb u a q=>(u,k b u a q))
  (λ_ _ q=>q) (λ_ _ _ q=>q) (λb w q=>(#[],by rw[q];simp)) (λm i=>?_) (λb u q=>?_) I.bare
 ·have d:=e b l;exact(d.2.2.2.1,d.2.1,d.2.2.2.2.1,d.2.2.2.2.2)
 ·obtain⟨f,o,p,h,r⟩:=i;exact(f,o,p,k _ f (λz=>(e _ z).2.1 rfl) h,r)
 ·refine(I.hok b u q).stay (λc v j r=>k c v ?_ r) (λc r=>r) λc t r=>r;rcases j with rfl|z
  ·exact g _ _ q
  ·exact g _ _ z
def Yr(K:PySem.W.Frag)(a b:Addr):It:=
  (λi H=>∃d c x y,My K H a d/\My K H b c/\d[i]?=some x/\c[i]?=some y,
   λi H v e=>∃p x y,H p=none/\v=.ref p/\e=upd H p (.tup [x,y])/\(∀d,My K H a d->d[i]?=some x) /\ ∀c,My K H b c->c[i]?=some y,
   λi H=>∃d c,My K H a d/\My K H b c/\(d.length<=i\/c.length<=i))
structure FP(z TI TO i1 i2:Addr):Prop where
 TIz:TI≠z
 TOz:TO≠z
 i1z:i1≠z
 i2z:i2≠z
 TITO:TI≠TO
 TIi1:TI≠i1
 TIi2:TI≠i2
 TOi1:TO≠i1
 TOi2:TO≠i2
 i12:i1≠i2
def Ru(a b z TI TO d c:Addr)(i:Nat)(h:Heap):Prop:=IsZip h z TI TO .none/\IsPair h TI (.ref d) (.ref c)/\(∃x y,IsPair h TO x y)/\h.IsListIter d a i/\h.IsListIter c b i
theorem mY{a b:Addr}{o u:Obj}(d:base.get? a=some o)(c:base.get? b=some u)(e:o.cls≠u.cls):a≠b:=λz=>by
 subst z;rw[d]at c;cases c;exact e rfl
theorem By{a b :Addr}{i:Nat}{xs ys:Array Value}(D:FP f C x S dx)(st:Ru a b f C x S dx i base)(r:base.IsList a xs)(q:base.IsList b ys):ZipApart f C x S dx a b:=by
 obtain⟨l,s,⟨c,y,d⟩,⟨w,n,p,_⟩,⟨v,m,o,_⟩⟩:=st;obtain⟨u,g,k,_⟩:=r;obtain⟨t,e,j,_⟩:=q;exact(D.TIz,D.TOz,D.i1z,D.i2z,D.TITO,D.TIi1,D.TIi2,D.TOi1,D.TOi2,D.i12,
  mY g l (by rw[k];show Value.type "list" ≠ Value.type "zip";decide),mY g d (by rw[k];show Value.type "list" ≠ Value.type "tuple";decide),mY g n (by rw[k,p];decide),mY g m (by rw[k,o];decide),
  mY e l (by rw[j];show Value.type "list" ≠ Value.type "zip";decide),mY e d (by rw[j];show Value.type "list" ≠ Value.type "tuple";decide),mY e n (by rw[j,p];decide),mY e m (by rw[j,o];decide))
theorem Og{P:Program}{w:World}{K:PySem.W.Frag}(a b z TI TO C B:Addr)(D:FP z TI TO C B):
  Turn P w K (.Tuple es d p) (Yr K a b) [z,TI,TO,C,B] z (Ru a b z TI TO C B) where
 mem:=by simp
 obj:=λi h m c V=>by
  obtain⟨n,f,⟨x,y,g⟩,⟨o1,e1,c1,d1⟩,⟨o2,e2,c2,d2⟩⟩:=m;have J:c=z\/c=TI\/c=TO\/c=C\/c=B:=by simpa using V
  rcases J with rfl|rfl|rfl|rfl|rfl
  ·exact(_,n,λv q=>by cases q)
  ·exact(_,f,λv q=>by cases q)
  ·exact(_,g,λv q=>by cases q)
  ·exact(_,e1,λv q=>by rw[d1]at q;cases q)
  ·exact(_,e2,λv q=>by rw[d2]at q;cases q)
 keep:=λi h h' m k=>by
  obtain⟨n,f,⟨x,y,g⟩,h1,N⟩:=m;exact(k z (by simp) _ n,k TI (by simp) _ f,(x,y,k TO (by simp) _ g),h1.at λo q=>k C (by simp) o q,N.at λo q=>k B (by simp) o q)
 item:=by
  intro X hP Y hK V i π s σ H E I U m hg;subst hP Y hK;obtain⟨xs,ys,x,y,A,u,M,hy⟩:=hg;obtain⟨b0,G,Q,b2⟩:=I.list A;obtain⟨a9,F,O,b1⟩:=I.list u;obtain⟨S,b4,a7⟩:=G.get M;obtain⟨R,b3,a0⟩:=F.get hy;have D7:=By D m Q.isList O.isList;obtain⟨n,f,⟨v1,v2,g⟩,t,r⟩:=id m;refine wpAny_pyNext_zip_item D7 n f g t r Q.isList O.isList (x:=S) (by simpa using b4) (y:=R) (by simpa using b3) λh1 a1 a2 a3 a4 a5 a6 T=>?_;refine(9,wpAny_letOwnedTupleGo_zip a1 λN b5 l=>?_);have L:∀{c o},s.heap.get? c=some o->s.heap.objs.size≠c:=λe=>air (Heap.lt_size e)
  have g2:N.get? s.heap.objs.size=some {cls:=.type "tuple",data:=.seq #[S,R]}:=(l.2 _ (L n)).trans a5
  have kk:∀b o,b∉[z,TI,TO,C,B]->s.heap.get? b=some o->N.get? b=some o:=λb o j q=>
   (l.2 b (λe=>j (by simp[e]))).trans (T b o (λe=>j (by simp[e])) (λe=>j (by simp[e])) (λe=>j (by simp[e])) (λe=>j (by simp[e])) q)
  have a8:b7 X.prog X.w (upd H s.heap.objs.size (.tup [x,y])) N s.heap.objs.size (.tup [x,y]):=
   (sl2,[S,R],.cons a7 (.cons a0 .nil),_,g2,7,9)
  have I2:=I.turnN (h':=N) (t':=s.toks) U kk (aae _) a8;have hn:H s.heap.objs.size=none:=I.hok.fresh (aae _);refine(.ref s.heap.objs.size,_,I2,7,(_,x,y,hn,7,7,λzs Z=>by rw[I.list_inj Z A];exact M,λzs Z=>by rw[I.list_inj Z u];exact hy),
   (b5,(l.2 _ D.TIz).trans (T _ _ D.TIz D.TITO D.TIi1 D.TIi2 f),(S,R,(l.2 _ D.TOz).trans a2),a3.extBut l.extBut D.i1z,a4.extBut l.extBut D.i2z),λb j=>?_)
  have b6:b≠s.heap.objs.size:=by
   obtain⟨o1,e1,_⟩:=t;obtain⟨o2,e2,_⟩:=r;have J:b=z\/b=TI\/b=TO\/b=C\/b=B:=by simpa using j
   rcases J with rfl|rfl|rfl|rfl|rfl
   ·exact(L n).symm
   ·exact(L f).symm
   ·exact(L g).symm
   ·exact(L e1).symm
   ·exact(L e2).symm
  rw[aK b6];exact(U b j).1
 done:=by
  intro X hP Y hK V i π s σ H E I U m hg;subst hP Y hK;obtain⟨xs,ys,A,u,M⟩:=hg;obtain⟨b0,G,Q,b2⟩:=I.list A;obtain⟨a9,F,O,b1⟩:=I.list u;have D7:=By D m Q.isList O.isList;obtain⟨n,f,⟨v1,v2,g⟩,t,r⟩:=id m;have l1:=G.length;have l2:=F.length;refine wpAny_pyNext_zip_end (I.ok.hd V) D7 n f g t r Q.isList O.isList ?_ λh' T=>(7,I.turnedN (t':=s.toks) U λb o j q=>T b o (λe=>j (by simp[e])) (λe=>j (by simp[e])) (λe=>j (by simp[e])) (λe=>j (by simp[e])) q);rcases M with M|M
  ·exact .inl (by simp;lia)
  ·exact .inr (by simp;lia)
 self:=λ_ _ _ _ _ m h=>wpAny_pyIter_zip m.1 h
inductive Te(K:PySem.W.Frag)(R:It->Hp->Prop)(vs:List V)(H1:Hp):Prop
 | mk (a b xs ys:_) (_:vs=[.ref a,.ref b]) (_:My K H1 a xs) (_:My K H1 b ys) (_:R (Yr K a b) H1)
def Vi(K:PySem.W.Frag)(b:TA):TI:=λ a H R=>b a H (Te K R)
theorem lH{a b:Expr}{p pos:Pos}(T:Gl X "zip")(Q:X.mg "zip" = none)(O:bootBuiltins "zip" = some (.type "zip"))(V:PA X [a,b] t)
  (P:starEach [a,b] X.env=[(pq false (eval a X.env)),(pq false (eval b X.env))]:=by rfl)(l:starEach [b] X.env=[(pq false (eval b X.env))]:=by rfl):
  PI X (.Tuple es d apos) (.Call (.Name "zip" p) [a,b] [] pos) (Vi X.K t):=by
 intro A s z H R I h;refine Call_ (gf I T Q O (PyProof.Rows.callWith_type1 (VL (V pos A s z H _ I h) λus f ⟨vs,F,g,G,L⟩=>?_) (by rw[P,l]) (by rw[l];rfl)));obtain⟨C,B,xs,ys,e,v,u,q⟩:=L;subst e;cases G with
 |cons r o=>
  cases o with
  |cons J o=>
   cases o;cases r;cases J;obtain⟨a2,a0,N,a4⟩:=g.list v;obtain⟨a1,Z,M,a3⟩:=g.list u;refine call_zip_2 N.isList M.isList λW E y x hi1 hi2 a5 S=>?_;refine wpAny_pyIter_zip E ?_;have Y:Inv X A z F {f with heap:=W}:=g.kept (t':=f.toks) S;have D:FP (f.heap.objs.size+4) (f.heap.objs.size+2) (f.heap.objs.size+3) f.heap.objs.size (f.heap.objs.size+1):=by
    have k:∀n i j:Nat,i≠j->n+i≠n+j:=λn i j h=>by lia
    exact(k _ 2 4 ∅,k _ 3 4 ∅,k _ 0 4 ∅,k _ 1 4 ∅,k _ 2 3 ∅,k _ 2 0 ∅,k _ 2 1 ∅,k _ 3 0 ∅,k _ 3 1 ∅,k _ 0 1 ∅)
   refine(f.heap.objs.size+4,_,_,Yr X.K C B,F,7,Y,Og C B _ _ _ _ _ D,(E,y,(_,_,x),hi1,hi2),λc U=>?_,q);have m:f.heap.objs.size<=c:=by
    have w:c=f.heap.objs.size+4\/c=f.heap.objs.size+2\/c=f.heap.objs.size+3\/c=f.heap.objs.size\/c=f.heap.objs.size+1:=by simpa using U
    rcases w with rfl|rfl|rfl|rfl|rfl
    ·exact ahi _ _
    ·exact ahi _ _
    ·exact ahi _ _
    ·exact aae _
    ·exact ahi _ _
   exact g.fpOk m (g.hok.fresh m)
theorem pR{K:PySem.W.Frag}{a b:Addr}{xs ys:List V}{g:TG}{o:TS}{σ:St}(d:Nat->St->Hp->Prop)(C:d 0 σ H)(A:∀i σ H,i<=min xs.length ys.length->d i σ H->My K H a xs/\My K H b ys)
  (w:∀i x y σ H p,xs[i]?=some x->ys[i]?=some y->d i σ H->H p=none->g (.ref p) σ (upd H p (.tup [x,y])) λ f l=>o {R with nx:=d (i+1),ct:=d (i+1),bk:=R.nx} f l)(hd:∀σ H,d (min xs.length ys.length) σ H->R.nx σ H):
  ∃W:Nat->Nat->St->Hp->Prop,(∃m,W 0 m σ H) /\ ∀i m σ H,W i m σ H ->
   ((Yr K a b).stop i H/\R.nx σ H)\/((Yr K a b).go i H /\ ∃N:St->Hp->Prop,(∀h H',N h H' -> ∃q,q<m/\W (i+1) q h H') /\ ∀x H',(Yr K a b).Xk i H x H'->g x σ H' λ f l=>o {R with nx:=N,ct:=N,bk:=R.nx} f l):=by
 exists λi m σ H=>m=min xs.length ys.length-i/\i<=min xs.length ys.length/\d i σ H,(min xs.length ys.length,7,aaH _,C);rintro i m σ H ⟨rfl,B,p⟩;obtain⟨k,j⟩:=A i σ H B p;by_cases n:i<min xs.length ys.length
 ·have t:i<xs.length:=by lia
  have s:i<ys.length:=by lia
  refine .inr ((xs,ys,xs[i],ys[i],k,j,aac t,aac s),d (i+1),λ h H' r=>(min xs.length ys.length-(i+1),6,7,n,r),λx H' y=>?_);obtain⟨c,x,y,z,F,E,v,u⟩:=y;subst F E;exact w i x y σ H c (v xs k) (u ys j) p z
 ·have e:i=min xs.length ys.length:=by lia
  subst e;exact .inl ((xs,ys,k,j,6),hd σ H p)
end L2
namespace Tw
def brk:List Int->Int->List Int
 |[],u=>aai u.toNat 0
 |d::r,u=>aai (u-d).toNat 0++1::brk r (d+1)
def Dp:List Int->Int->Prop
 |[],u=>0<=u
 |d::r,u=>0<=d/\d<=u/\Dp r (d+1)
theorem Dp.pos:∀{l:List Int}{u:Int},Dp l u->0<=u
 |[],_,h=>h
 |_::_,_,h=>Int.le_trans h.1 h.2.1
theorem kZ:∀{l:List Int}{u:Int},Dp l u->(brk l u).length=u.toNat+2*l.length
 |[],u,_=>by simp[brk]
 |d::r,u,h=>by
  have:=kZ h.2.2;have b:=h.1;have a:=h.2.1;simp only[brk,aab,aaw,aah,this];lia
theorem Bx{l:List Int}{u x:Int}{t:List Int}(h:Dp l u)(e:brk l u=x::t):
  (x=0/\1<=u/\t=brk l (u-1)/\Dp l (u-1)) \/ ∃r,l=u::r/\x=1/\t=brk r (u+1)/\Dp r (u+1):=by
 cases l with
 |nil=>
  have i:0<=u:=h;rcases ajn 0 u with z|z
  ·refine .inl ?_;have c:u.toNat=(u-1).toNat+1:=by lia
   simp only[brk]at e ⊢;rw[c,afX]at e;injection e with b a
   exact(b.symm,z,a.symm,show 0<=u-1 by lia)
  ·have:u.toNat=0:=by lia
   simp only[brk]at e;rw[this]at e;cases e
 |cons d r=>
  obtain⟨g,j,f⟩:=h;rcases ajn d u with z|z
  ·refine .inl ?_;have c:(u-d).toNat=(u-1-d).toNat+1:=by lia
   simp only[brk]at e ⊢;rw[c,afX,agm]at e;injection e with b a
   exact(b.symm,6,a.symm,g,6,f)
  ·have:u=d:=by lia
   subst this;refine .inr (r,7,1);simp only[brk]at e;rw[ah9]at e;injection e with b a
   exact(b.symm,a.symm,f)
theorem PQ{l:List Int}{u:Int}(h:Dp l u)(e:brk l u=[]):l=[]/\u=0:=by
 have:=kZ h;rw[e]at this;have a:=h.pos;cases l with
 |nil=>
  exists 7;have:0=u.toNat+2*0:=this;lia
 |cons d r=>
  rw[aah]at this;have:0=u.toNat+2*(r.length+1):=this;lia
def cB(ds:List Int):Prop:=ds[0]?=some 0 /\ ∀i x y,ds[i]?=some x->ds[i+1]?=some y->1<=y/\y<=x+1
theorem Rb:∀(r:List Int) (a:Int),(∀(i:Nat) (x y:Int),(a::r)[i]?=some x->(a::r)[i+1]?=some y->1<=y/\y<=x+1)->0<=a->Dp r (a+1)
 |[],a,_,b=>by show 0<=a+1;lia
 |d::r,a,h,b=>by
  have f:=h 0 a d rfl rfl;exact(6,f.2,Rb r d (λi x y e c=>h (i+1) x y e c) ⋯)
theorem cB.dp{ds:List Int}(h:cB ds):Dp ds 0:=by
 cases ds with
 |nil=>exact absurd h.1 (by simp)
 |cons d r=>
  have:d=0:=by
   have:=h.1;exact afE this
  subst this;exact(5,5,Rb r 0 h.2 ∅)
theorem cB.one{ds:List Int}(h:cB ds){i:Nat}{d:Int}(b:0<i)(hd:ds[i]?=some d):1<=d:=by
 obtain⟨j,rfl⟩:∃j,i=j+1:=(i-1,6);have a:=(aad.mp hd).1;have:=h.2 j ds[j] d (aac ⋯) hd;exact this.1
end Tw
namespace L2
open PySem.Spec PyProof.Rows PySem.W
theorem GX:∀(xs:List V) (a:List Value),xs.length=a.length->(∀(i:Nat) (x:V) (u:Value),xs[i]?=some x->a[i]?=some u->RelV x u)->Vals xs a
 |[],[],_,_=>.nil
 |[],_::_,h,_=>by simp at h
 |_::_,[],h,_=>by simp at h
 |x::xs,u::a,h,g=>.cons (g 0 x u rfl rfl) (GX xs a (by simpa using h) λi y w c b=>g (i+1) y w c b)
inductive QF(Q:VK)(vs:List V)(H1:Hp):Prop
 |mk (n:Nat) (_:vs=[.int (n:Int)]) (_:n<=100000) (_:∀l,H1 l=none->Q (.ref l) (upd H1 l (.lst ‹((abS n).map λi:Nat=>(i:Int))›)))
def Up(b:TA):TE:=λ a H Q=>b a H (QF Q)
theorem vg{a:Expr}{p pos d:Pos}(R:X.calm=true)(P:Gl X "list")(N:X.mg "list" = none)(L:bootBuiltins "list" = some (.type "list"))(v:Gl X "range")(r:X.mg "range" = none)
  (S:PA X [a] t)(M:starEach [a] X.env=[(pq false (eval a X.env))]:=by rfl)
  (A:starEach [.Call (.Name "range" apos) [a] [] d] X.env=(pq false (eval (.Call (.Name "range" apos) [a] [] d) X.env))::starEach [] X.env:=by rfl)(m:(backTo pos (starEach [] X.env)).any (·.1)=false:=by rfl):
  PE X (.Call (.Name "list" p) [.Call (.Name "range" apos) [a] [] d] [] pos) (Up t):=by
 intro D s C H Q I h;refine wpAny_Call_Name_kw (gf I P N L ?_);refine PyProof.Rows.callWith_type1 ?_ A m;rw[A]
 show wpAny _ _ (spliced ((pq false (eval (.Call (.Name "range" apos) [a] [] d) X.env))::backTo pos (starEach [] X.env))) _ _ s
 refine Calls.spliced_cons ?_;refine Call_ (gf I v r boot_range (PyProof.Rows.callWith_type1 (VL (S d D s C H _ I h) λus j ⟨Z,H1,B,J,K⟩=>?_) M rfl));obtain⟨n,e,hn,q⟩:=K;subst e;obtain⟨u,rfl,F⟩:=vals1 J;obtain⟨b,rfl⟩:=F;refine call_range_1 ?_;refine Calls.spliced_nil ?_;refine call_list_range (n:=n) (I.ok.hd R) (IsRange.new ..) (small_one ⋯ ⋯ ⋯ ⋯) ?_ ⋯ λh' E f Y O T g=>?_
 ·rw[rangeSize_one];split<;>lia
 obtain⟨W,U⟩:=g;have l:‹((abS n).map λi:Nat=>(i:Int))›.length=n:=by simp
 have G:Vals ‹((abS n).map λi:Nat=>(i:Int))› f.toList:=by
  refine GX _ _ (by rw[l,aag,W]) λi x u k w=>?_;rw[afP]at w;obtain⟨b,rfl⟩:=U i u w;have y:=(aad.mp k).1;rw[l]at y;rw[aak,aak,agi y]at k;cases k;exact(b,congrArg (λz=>Value.int z b) (show (0:Int)+(i:Int)*1=(i:Int) by lia))
 refine(.ref _,_,B.laid (t':=E) (o:=.lst ‹((abS n).map λi:Nat=>(i:Int))›) (λc o e=>O c o (Heap.get?_push_of_some _ e)) ?_ (by rw[l,sizeLine_eq];lia,f.toList,Y,G,T),7,q _ (B.hok.fresh ?_))
 ·show j.heap.objs.size<=(j.heap.push _).objs.size;simp[Heap.push]
 ·show j.heap.objs.size<=(j.heap.push _).objs.size;simp[Heap.push]
inductive Ql(R:It->Hp->Prop)(vs:List V)(H1:Hp):Prop
 | mk (b:Nat) (_:vs=[.int 0,.int (b:Int),.int 8]) (_:b<536870912) (_:R (Yq 0 8 ((b+7) / 8)) H1)
def UW(b:TA):TI:=λ a H R=>b a H (Ql R)
theorem Dq(b:Nat):Builtin.Range.rangeSize 0 b 8=(((b+7) / 8:Nat):Int):=by
 unfold Builtin.Range.rangeSize;rw[if_pos ∅];split<;>lia
theorem Ja{b:Nat}(h:b<536870912):Builtin.Range.small 0 b 8=true:=by
 unfold Builtin.Range.small Builtin.Range.rangeFitsLong;rw[Dq];generalize a:(((b+7) / 8:Nat):Int)=n;have c:n<=67108864:=by lia
 have d:0<=n:=by lia
 have e:(2:Int)^63=9223372036854775808:=by decide
 rw[e,if_pos ∅];refine gn (gn (gn (gn ∅ (gn (decide_eq_true ?_) (decide_eq_true ?_))) ∅) (gn (decide_eq_true ?_) (decide_eq_true ?_))) ?_
 ·lia
 ·lia
 ·lia
 ·lia
 ·rw[ah1];exact .inr (gn (decide_eq_true ⋯) (decide_eq_true ⋯))
theorem Ji{a b c:Expr}{p pos:Pos}(D:Gl X "range")(C:X.mg "range" = none)(F:PA X [a,b,c] t)(B:starEach [a,b,c] X.env=[(pq false (eval a X.env)),(pq false (eval b X.env)),(pq false (eval c X.env))]:=by rfl)
  (j:starEach [b,c] X.env=[(pq false (eval b X.env)),(pq false (eval c X.env))]:=by rfl):PI X tg (.Call (.Name "range" p) [a,b,c] [] pos) (UW t):=by
 intro u s n H R I h;refine Call_ (gf I D C boot_range (PyProof.Rows.callWith_type1 (VL (F pos u s n H _ I h) λM g ⟨L,v,K,w,z⟩=>?_) (by rw[B,j]) (by rw[j];rfl)));obtain⟨y,e,A,q⟩:=z;subst e;cases w with
 |cons r i=>
  cases i with
  |cons x i=>
   cases i with
   |cons m i=>
    cases i;obtain⟨d,rfl⟩:=r;obtain⟨k,rfl⟩:=x;obtain⟨f,rfl⟩:=m;refine call_range_3 ∅ ?_ (.inl (PyProof.noPylong_small ⋯));refine wpAny_pyIter_range (IsRange.new ..) (Ja A) ?_
    have l:Inv X u n v {g with heap:=g.heap.push {cls:=.type "range",data:=.fields #[.int 0 d,.int y k,.int 8 f]},toks:=g.toks}:=K.kept λb o e=>Heap.get?_push_of_some _ e
    refine((g.heap.push {cls:=.type "range",data:=.fields #[.int 0 d,.int y k,.int 8 f]}).objs.size,[(g.heap.push {cls:=.type "range",data:=.fields #[.int 0 d,.int y k,.int 8 f]}).objs.size],_,_,v,7,
     l.kept (t':=g.toks) λb o e=>Heap.get?_push_of_some _ e,oG _ 0 8 ((y+7) / 8),1,λb E=>?_,q)
    ·have J:(0:Int)+((0:Nat):Int)*8=0:=by decide
     have G:(((y+7) / 8:Nat):Int)-((0:Nat):Int)=Builtin.Range.rangeSize 0 y 8:=by rw[Dq];simp
     show IsRangeIter _ _ ((0:Int)+((0:Nat):Int)*8) ((((y+7) / 8:Nat):Int)-((0:Nat):Int)) 8;rw[J,G];exact Heap.get?_push_size _ rfl
    ·have e:b=(g.heap.push {cls:=.type "range",data:=.fields #[.int 0 d,.int y k,.int 8 f]}).objs.size:=by simpa using E
     subst e;exact l.fpOk (aae _) (l.hok.fresh (aae _))
inductive T5(K:PySem.W.Frag)(R:It->Hp->Prop)(x:V)(H1:Hp):Prop
 | mk (a:_) (_:x=.ref a) (_:(((∃xs,My K H1 a xs)/\R (XH K a) H1)\/((∃xs,VM K H1 a xs)/\R (Yz K a) H1)))
def VF(K:PySem.W.Frag)(b:TE):TI:=λ a H R=>b a H (T5 K R)
theorem TV{l:Expr}(y:PE X l ta):PI X tg l (VF X.K ta):=by
 intro n s m H R I h;refine VL (y n s m H _ I h) λv c ⟨x,k,d,u,g⟩=>?_;obtain⟨a,e,g⟩:=g;subst e;cases u;rcases g with ⟨⟨r,i⟩,q⟩|⟨⟨r,i⟩,q⟩
 ·obtain⟨f,t,p,w⟩:=d.list i;refine wpAny_pyIter_list p.isList ?_;refine(c.heap.objs.size,[c.heap.objs.size],_,_,k,7,d.kept (t':=c.toks) λb o e=>Heap.get?_push_of_some _ e,yG a _,(_,Heap.get?_push_size _ rfl,7,7),λb j=>?_,q);have e:b=c.heap.objs.size:=by simpa using j
  subst e;exact d.fpOk (aae _) (d.hok.fresh (aae _))
 ·obtain⟨f,t,p,w⟩:=d.tuple i;refine wpAny_pyIter_tuple (show c.heap.IsTuple a f.toArray from p) ?_;refine(c.heap.objs.size,[c.heap.objs.size],_,_,k,7,d.kept (t':=c.toks) λb o e=>Heap.get?_push_of_some _ e,vo a _,(_,Heap.get?_push_size _ rfl,7,7),λb j=>?_,q);have e:b=c.heap.objs.size:=by simpa using j
  subst e;exact d.fpOk (aae _) (d.hok.fresh (aae _))
section
variable(P:Program)(w:World)
end
section
variable{P:Program}{w:World}{o:HO}
end
section
variable{P:Program}{w:World}{e:Addr}{o':HO}
end
section
variable{fs fs' ex ex':List Addr}{H1 H2:Hp}{h1 h2:Heap}{e:Addr}{o:HO}
end
section
variable{σ:List (Option V)}
end
section
variable{a:Expr}{pos:Pos}
variable{tA Zq:TT}{rest:List Expr}
end
section
variable{xs ys:List V}
end
section
variable{st:Stmt}{rest:List Stmt}{t u:TS}{pos:Pos}
end
section
variable{pos:Pos}
end
section
variable{pos:Pos}
end
section
variable{a c:Expr}{tc:TE}{pos:Pos}
end
section
variable{a c:Expr}{tc:TE}{pos:Pos}
end
section
variable{w:World}{mA:Str->Option Value}{name:Str}{v:Value}
end
section
variable{P:Program}{w:World}{fs fs':List (Str×V)}
end
section
variable{fs:List (Str×V)}{f:Str}{v:V}
end
section
variable{value:Expr}{f:Str}{pos pos' tpos:Pos}{tv:TE}
end
section
variable{Q:Value->Shared->Prop}{c:Value}{b:Bool}
end
section
variable{pos:Pos}
end
section
variable{s':Shared}
end
section
variable{CX:WP}{k:Nat}{fd:FuncData}{ps:List Str}{sp:Sp}{XN:List V}{ds:List Value}{E:XK}{x m:Str}{pos:Pos}
end
section
variable{CX:WP}{k:Nat}{fd:FuncData}{ps ks:List Str}{sp:Sp}{E:XK}{x m:Str}{pos kpos:Pos}{kws:List Keyword}{tk:TA}{nm:Option Str}
variable{g:List Value->List Value->List Value}{gV:List V->List V->List V}
end
section
variable{x:Str}{pos:Pos}{id T:String}{r:List V->Hp->VK->Prop}
end
section
variable{κ:Type}[DecidableEq κ]
def gq(a:List (κ×V))(k:κ):Option V:=(a.find? λb=>decide (b.1=k)).map (·.2)
def putK(a:List (κ×V))(k:κ)(v:V):List (κ×V):=
 if (a.any λb=>decide (b.1=k))=true then a.map (λb=>if b.1=k then (pq b.1 v)else b)else a++[(pq k v)]
def Rp(a:List (κ×V))(k:κ):List (κ×V):=a.filter λb=>decide (b.1≠k)
theorem eY{p:κ×V}{r:List (κ×V)}{k:κ}(e:p.1=k):gq (p::r) k=some p.2:=by simp[gq,ahq,e]
theorem eV{p:κ×V}{r:List (κ×V)}{k:κ}(e:¬p.1=k):gq (p::r) k=gq r k:=by simp[gq,ahq,e]
theorem iB(k:κ):∀a:List (κ×V),(a.any λb=>decide (b.1=k))=(gq a k).isSome
 |[]=>rfl
 |p::r=>by
  rw[ail];by_cases e:p.1=k
  ·simp only[eY e,decide_eq_true e,ajo,Option.isSome_some]
  ·rw[eV e,decide_eq_false e,aji];exact iB k r
theorem Do(k j:κ)(y:V):∀a:List (κ×V),gq (a.map λb=>if b.1=k then (pq b.1 y)else b) j=(gq a j).map λx=>if j=k then y else x
 |[]=>rfl
 |p::r=>by
  have c:=Do k j y r;rw[aax];by_cases h:p.1=k
  ·rw[if_pos h];by_cases e:p.1=j
   ·rw[eY (p:=(pq p.1 y)) e,eY e,ahp,if_pos (e.symm.trans h)]
   ·rw[eV (p:=(pq p.1 y)) e,eV e,c]
  ·rw[if_neg h];by_cases e:p.1=j
   ·rw[eY (p:=p) e,eY e,ahp,if_neg (λz=>h (e.trans z))]
   ·rw[eV (p:=p) e,eV e,c]
theorem yP(k j:κ)(y:V):∀a:List (κ×V),gq a k=none->gq (a++[(pq k y)]) j=if j=k then some y else gq a j
 |[],_=>by
  by_cases e:k=j
  ·rw[if_pos e.symm];exact eY (p:=(pq k y)) e
  ·rw[if_neg (λz=>e z.symm)];exact eV (p:=(pq k y)) e
 |p::r,b=>by
  rw[agm];have c:¬p.1=k:=λz=>by rw[eY z]at b;cases b
  rw[eV c]at b;have d:=yP k j y r b;by_cases e:p.1=j
  ·rw[eY e,eY e,if_neg (λz=>c (e.trans z))]
  ·rw[eV e,eV e,d]
theorem qx(b:List (κ×V))(k j:κ)(y:V):gq (putK b k y) j=if j=k then some y else gq b j:=by
 unfold putK;by_cases a:(b.any λc=>decide (c.1=k))=true
 ·rw[if_pos a,Do];rw[iB]at a;by_cases e:j=k
  ·obtain⟨x,d⟩:=aif.mp a;rw[if_pos e,e,d,ahp,if_pos rfl]
  ·rw[if_neg e];cases gq b j with
   |none=>rfl
   |some x=>rw[ahp,if_neg e]
 ·rw[if_neg a];refine yP k j y b ?_;rw[iB]at a;cases q:gq b k with
  |none=>rfl
  |some x=>rw[q]at a;exact(a rfl).elim
theorem nJ(a:List (κ×V))(k:κ)(v:V):(putK a k v).length<=a.length+1:=by
 unfold putK;split
 ·rw[aaa];lia
 ·rw[aab,aah,afV];lia
theorem DX{a:List (κ×V)}{k:κ}(v:V)(h:gq a k=none):putK a k v=a++[(pq k v)]:=by
 unfold putK;rw[iB,h];exact if_neg ∅
theorem uR.isSome_eq{o:Option V}{u:Option Value}(r:uR o u):o.isSome=u.isSome:=by
 cases o with
 |none=>cases u with
  |none=>rfl
  |some _=>exact(show False from r).elim
 |some _=>cases u with
  |none=>exact(show False from r).elim
  |some _=>rfl
theorem KV.val{a:List (κ×V)}{vs:List (κ×Value)}(r:KV a vs)(k:κ):uR (gq a k) (valueAt vs k):=by
 unfold KV at r
 induction r with
 |nil=>exact True.intro
 |@cons p q j c h t g=>
  obtain⟨f,i⟩:=h;by_cases e:p.1=k
  ·have d:q.1=k:=f.symm.trans e;have b:valueAt (q::c) k=some q.2:=by simp[valueAt,ahq,d]
   rw[eY e,b];exact i
  ·have d:¬q.1=k:=λz=>e (f.trans z);have b:valueAt (q::c) k=valueAt c k:=by simp[valueAt,ahq,d]
   rw[eV e,b];exact g
theorem KV.any{a:List (κ×V)}{vs:List (κ×Value)}(r:KV a vs)(k:κ):(a.any λb=>decide (b.1=k))=vs.any λb=>decide (b.1=k):=by
 unfold KV at r
 induction r with
 |nil=>rfl
 |cons h t c=>rw[ail,ail,c,h.1]
theorem KV.repl{b:List (κ×V)}{vs:List (κ×Value)}(r:KV b vs)(k:κ){y:V}{u:Value}(d:RelV y u):
  KV (b.map λa=>if a.1=k then (pq a.1 y)else a) (vs.map λa=>if a.1=k then (pq a.1 u)else a):=by
 unfold KV at r ⊢
 induction r with
 |nil=>exact .nil
 |@cons p q j i h t f=>
  rw[aax,aax];refine .cons ?_ f;obtain⟨c,g⟩:=h;by_cases e:p.1=k
  ·rw[if_pos e,if_pos (c.symm.trans e)];exact(c,d)
  ·rw[if_neg e,if_neg (λz=>e (c.trans z))];exact(c,g)
theorem KV.put{a:List (κ×V)}{vs:List (κ×Value)}(r:KV a vs)(k:κ){y:V}{u:Value}(b:RelV y u):KV (putK a k y) (stored vs k u):=by
 unfold putK stored;rw[r.any k];by_cases e:(vs.any λc=>decide (c.1=k))=true
 ·rw[if_pos e,if_pos e];exact r.repl k b
 ·rw[if_neg e,if_neg e];exact Paired.snoc r (7,b)
theorem KV.drop{c:List (κ×V)}{vs:List (κ×Value)}(r:KV c vs)(k:κ):KV (Rp c k) (without vs k):=by
 unfold KV at r ⊢;unfold Rp without
 induction r with
 |nil=>exact .nil
 |@cons p q l j h t f=>
  obtain⟨d,g⟩:=h;rw[agq,agq];by_cases e:p.1=k
  ·have a:¬decide (p.1≠k)=true:=by simp[e]
   have b:¬decide (q.1≠k)=true:=by simp[d.symm.trans e]
   rw[if_neg a,if_neg b];exact f
  ·have i:¬q.1=k:=λz=>e (d.trans z);have a:decide (p.1≠k)=true:=by simp[e]
   have b:decide (q.1≠k)=true:=by simp[i]
   rw[if_pos a,if_pos b];exact .cons (d,g) f
theorem KV.length{a:List (κ×V)}{vs:List (κ×Value)}(r:KV a vs):a.length=vs.length:=Paired.length r
end
theorem yI{P:Program}{w:World}{k:Key}{u:Value}(r:RelV (kV k) u):(cQ P w).is k u=true:=by
 cases k with
 |inl i=>obtain⟨t,e⟩:=(show ∃t,u=Value.int i t from r);subst e;exact BX P w i t
 |inr x=>obtain⟨t,e⟩:=(show ∃t,u=Value.str x t from r);subst e;exact Dy P w x t
theorem za{P:Program}{w:World}:∀{a:List Key}{b:List Value},Vals (a.map kV) b->ItemsAre (cQ P w) a b
 |[],_,r=>by rw[ahP]at r;cases r;exact .nil
 |k::a,_,r=>by
  rw[aax]at r;cases r with
  |cons h t=>exact .cons (yI h) (za t)
abbrev KT(H:Hp):List (List Key×V)->List (List Key×Addr×Value)->Prop:=Paired λp q=>p.1=q.1/\H q.2.1=some (.tup (p.1.map kV))/\RelV p.2 q.2.2
theorem KT.val{xs:List (List Key×Addr×Value)}(r:KT H T xs)(k:List Key):uR (gq T k) ((atKey xs k).map (·.2)):=by
 induction r with
 |nil=>exact True.intro
 |@cons p q i a h t f=>
  obtain⟨d,_,g⟩:=h;by_cases e:p.1=k
  ·have c:q.1=k:=d.symm.trans e;have b:atKey (q::a) k=some q.2:=by simp[atKey,ahq,c]
   rw[eY e,b];exact g
  ·have c:¬q.1=k:=λz=>e (d.trans z);have b:atKey (q::a) k=atKey a k:=by simp[atKey,ahq,c]
   rw[eV e,b];exact f
theorem KT.repl{xs:List (List Key×Addr×Value)}(r:KT H T xs)(k:List Key){y:V}{u:Value}(d:RelV y u):
  KT H (T.map λb=>if b.1=k then (pq b.1 y)else b) (xs.map (putAt k u)):=by
 induction r with
 |nil=>exact .nil
 |@cons p q j i h t f=>
  rw[aax,aax];refine .cons ?_ f;obtain⟨a,c,g⟩:=h;unfold putAt;by_cases e:p.1=k
  ·rw[if_pos e,if_pos (a.symm.trans e)];exact(a,c,d)
  ·rw[if_neg e,if_neg (λz=>e (a.trans z))];exact(a,c,g)
theorem KT.put{xs:List (List Key×Addr×Value)}(r:KT H T xs)(k:List Key){b:Addr}{y:V}{u:Value}(d:H b=some (.tup (k.map kV)))(a:RelV y u):
  KT H (putK T k y) (storedH xs k b u):=by
 have e:(T.any λc=>decide (c.1=k))=(atKey xs k).isSome:=by
  rw[iB,(r.val k).isSome_eq,aig]
 unfold putK storedH;rw[e];by_cases q:(atKey xs k).isSome=true
 ·rw[if_pos q,if_pos q];exact r.repl k a
 ·rw[if_neg q,if_neg q];exact Paired.snoc r (7,d,a)
theorem KT.keeps{H':Hp}{xs:List (List Key×Addr×Value)}(r:KT H T xs)(ht:∀b ys,H b=some (.tup ys)->H' b=some (.tup ys)):KT H' T xs:=
 Paired.mapP r λ_ _ z=>(z.1,ht _ _ z.2.1,z.2.2)
section
variable{P:Program}{w:World}
theorem Rk{u:HO}(b:Wa P w H h)(e:Rd H a u):b7 P w H h a u:=e.ok b
theorem BR{b:List (Key×V)}(c:Wa P w H h)(e:Rd H a (.dK b)):b.length<=sizeLine/\(a==sysModules)=false /\ ∃vs,KV b vs/\h.DictOf (cQ P w) a vs:=
 show b7 P w H h a (.dK b)from Rk c e
theorem Rr{b:List (Key×V)}(c:Wa P w H h)(e:H a=some (.dK b)):b.length<=sizeLine/\(a==sysModules)=false /\ ∃vs,KV b vs/\h.DictOf (cQ P w) a vs:=BR c (.inl e)
theorem vW{b:List Key}(d:Wa P w H h)(e:H a=some (.tup (b.map kV))):(tupleKind (cQ P w)).is h b a:=by
 obtain⟨_,c,r,o,i,g,n,f⟩:=(show b7 P w H h a (.tup (b.map kV))from d a _ e);exact(o,c.toArray,n,i,g,f,by simpa using za r)
theorem BV(d:Wa P w H h)(e:Rd H a (.dT T)):T.length<=sizeLine/\(a==sysModules)=false /\
  ∃xs,KT H T xs/\h.DictOfH (tupleKind (cQ P w)) a xs:=by
 obtain⟨z,y,xs,r,o,u,v,s,n,k,j,i⟩:=(show b7 P w H h a (.dT T)from Rk d e);refine(z,y,xs,r,o,u,v,s,n,k,j,λx b=>?_,i);have c:∀{l:List (List Key×V)} {m:List (List Key×Addr×Value)},KT H l m -> ∀x∈m,(tupleKind (cQ P w)).is h x.1 x.2.1:=by
  intro l m q
  induction q with
  |nil=>intro x b;exact nomatch b
  |@cons p q B A f t g=>
   intro x b;rcases aat.mp b with e|b
   ·subst e;exact vW d (by rw[<-f.1];exact f.2.1)
   ·exact g x b
 exact c r x b
theorem Va(b:Wa P w H h)(e:H a=some (.dT T)):T.length<=sizeLine/\(a==sysModules)=false /\
  ∃xs,KT H T xs/\h.DictOfH (tupleKind (cQ P w)) a xs:=BV b (.inl e)
end
def su(H:Hp)(a:Addr)(y:V)(r:Option V):Prop:=
 (∃c k,Rd H a (.dK c)/\y=kV k/\r=gq c k) \/ ∃c k b,Rd H a (.dT c)/\y=.ref b/\H b=some (.tup (k.map kV))/\r=gq c k
def UV(H:Hp)(a:Addr)(y v:V)(H':Hp):Prop:=
 (∃c k,H a=some (.dK c)/\y=kV k/\c.length<sizeLine/\H'=upd H a (.dK (putK c k v))) \/
 ∃c k b,H a=some (.dT c)/\y=.ref b/\H b=some (.tup (k.map kV))/\c.length<sizeLine/\H'=upd H a (.dT (putK c k v))
theorem su.k{H:Hp}{a:Addr}{b:List (Key×V)}{k:Key}(e:H a=some (.dK b)):su H a (kV k) (gq b k):=.inl (b,k,.inl e,7,7)
section
variable{y v:V}{u r:Value}{o:Option V}
theorem Inv.big(I:Inv X π σ H s):sysModules<s.heap.objs.size:=by
 have h:mainGlobals<s.heap.objs.size:=(I.mod.glob.keeps I.bk).lt;exact ait ∅ h
theorem Kd{Q:Value->Shared->Prop}(C:A.units+1<cLine)(I:Inv X π σ H s)(g:su H a y (some v))(t:RelV y u)(h:∀d s',Inv X π σ H s'->RelV v d->Q d s'):
  wpAny (model X.prog X.w) A (getItem (.ref a) u) Q E s:=by
 rcases g with ⟨n,k,e,i,l⟩|⟨n,k,b,e,i,F,l⟩
 ·subst i;obtain⟨z,hd,B,c,j⟩:=BR I.hok e;obtain⟨d,f,m⟩:=uR.some_of (v:=v) (o:=valueAt B k) (by rw[l];exact c.val k);exact wpAny_getItem_of (yI t) j.mapOf f (h d _ (I.tok _) m)
 ·subst i;cases (show u=Value.ref b from t);obtain⟨z,hd,x,c,j⟩:=BV I.hok e;obtain⟨d,f,m⟩:=uR.some_of (v:=v) (o:=(atKey x k).map (·.2)) (by rw[l];exact c.val k);obtain⟨p,D,q⟩:=afS.mp f;refine wpAny_getItem_heap (tupleKind_room_in1 C) (vW I.hok F) j D ?_;rw[q];exact h d _ (I.tok _) m
theorem Vk{Q:Value->Shared->Prop}(m:A.units+1<cLine)(I:Inv X π σ H s)(g:su H a y o)(j:RelV y u)(h:∀s',Inv X π σ H s'->Q (.bool o.isSome) s'):
  wpAny (model X.prog X.w) A (compareOp .In u (.ref a)) Q E s:=by
 rcases g with ⟨i,k,e,d,l⟩|⟨i,k,b,e,d,n,l⟩
 ·subst d;obtain⟨z,hd,t,c,f⟩:=BR I.hok e;refine wpAny_in_of (yI j) hd f.mapOf ?_;rw[<-(c.val k).isSome_eq,<-l];exact h _ (I.tok _)
 ·subst d;cases (show u=Value.ref b from j);obtain⟨z,hd,p,c,f⟩:=BV I.hok e;refine wpAny_in_heap (tupleKind_room_in1 m) (vW I.hok n) hd f ?_;have q:=(c.val k).isSome_eq;rw[aig]at q;rw[<-q,<-l];exact h _ (I.tok _)
theorem Qe{Q:Value->Shared->Prop}(m:A.units+1<cLine)(I:Inv X π σ H s)(g:su H a y o)(j:RelV y u)(h:∀s',Inv X π σ H s'->Q (.bool (!o.isSome)) s'):
  wpAny (model X.prog X.w) A (compareOp .NotIn u (.ref a)) Q E s:=by
 rcases g with ⟨i,k,e,d,l⟩|⟨i,k,b,e,d,n,l⟩
 ·subst d;obtain⟨z,hd,t,c,f⟩:=BR I.hok e;refine wpAny_notIn_of (yI j) hd f.mapOf ?_;rw[<-(c.val k).isSome_eq,<-l];exact h _ (I.tok _)
 ·subst d;cases (show u=Value.ref b from j);obtain⟨z,hd,p,c,f⟩:=BV I.hok e;refine wpAny_notIn_heap (tupleKind_room_in1 m) (vW I.hok n) hd f ?_;have q:=(c.val k).isSome_eq;rw[aig]at q;rw[<-q,<-l];exact h _ (I.tok _)
theorem zH{h':Heap}{t':Nat}{c:HO}(I:Inv X π σ H s)(f:Zn (H a))(g:Heap.SameBut a s.heap h')(h:∃q,h'.get? a=some q)(d:b7 X.prog X.w (upd H a c) h' a c):
  Inv X π σ (upd H a c) {s with heap:=h',toks:=t'}:=
 I.write (x:=a) (e:=a) f (.inl rfl) (λb q i z=>(g.2 b i).trans z) h d
theorem KN{P:Program}{w:World}{H':Hp}{h':Heap}{b:List (Key×V)}{vs:List (Key×Value)}(z:b.length<=sizeLine)(hd:(a==sysModules)=false)(c:KV b vs)(dd:h'.DictOf (cQ P w) a vs):
  b7 P w H' h' a (.dK b):=(z,hd,vs,c,dd)
theorem J6{H':Hp}{Q:Unit->Shared->Prop}(M:A.units+1<cLine)(I:Inv X π σ H s)(g:UV H a y v H')(C:RelV y u)(D:RelV v r)(h:∀s',Inv X π σ H' s'->Q () s'):
  wpAny (model X.prog X.w) A (setItem (.ref a) u r) Q E s:=by
 rcases g with ⟨f,k,e,t,l,x⟩|⟨f,k,b,e,t,J,l,x⟩
 ·subst t x;obtain⟨z,hd,L,d,B⟩:=Rr I.hok e;have m:L.length<=sizeLine:=by rw[<-d.length];exact z
  have p:(putK f k v).length<=sizeLine:=by have:=nJ f k v;lia
  refine wpAny_setItem_pairs (hsz:=m) (yI C) B λF j n=>h _ ?_;have N:∃q,F.get? a=some q:=let ⟨q,_,_,i,_⟩:=j;(q,i);exact zH I (by rw[e];exact True.intro) n N (KN p hd (d.put k D) j)
 ·subst t x;cases (show u=Value.ref b from C);obtain⟨z,hd,K,d,B⟩:=Va I.hok e;have m:K.length<=sizeLine:=by rw[<-Paired.length d];exact z
  have p:(putK f k v).length<=sizeLine:=by have:=nJ f k v;lia
  refine wpAny_setItem_heap (hsz:=m) (tupleKind_room_in1 M) (vW I.hok J) B λF j n=>h _ ?_;obtain⟨q,T,U,i,S,R,P,_,O⟩:=j;refine zH I (by rw[e];exact True.intro) n (q,i) (p,hd,_,(d.put k J D).keeps λc V G=>?_,q,T,U,i,S,R,P,O);rw[aK (U9 G e (λz=>nomatch z))];exact G
end
section
variable{kvs:List (Key×V)}{k:Key}{u:Value}
end
def Ul(i:Expr):Prop:=∀a b,subscripted i false a b=operate [a,b] (getItem a b)
theorem PK{prog:Program}{w:World}{A:Around}{E:Value->Shared->Prop}{s:Shared}{env:Env}{pos:Pos}{T id:String}{Q:Value->Shared->Prop}
  (m:typeLookup (.type T) "__getitem__" = pure (some (.builtin id)))(l:Ul tg)
  (h:wpAny (model prog w) A (eval e env) (λo d=>wpAny (model prog w) A (eval tg env) (λi a=>a.TypeIs o T/\wpAny (model prog w) A (getItem o i) Q E a) E d) E s):
  wpAny (model prog w) A (eval (.Subscript e tg pos) env) Q E s:=by
 refine Subscript_ (wpAny_mono h (λo d j=>wpAny_mono j (λi a b=>?_) λ_ _ x=>x) λ_ _ x=>x);obtain⟨k,b⟩:=b;unfold subscriptTail;refine wpAny_bind ?_;rw[getitemInPython_of_ne k.not_modules];refine wpAny_bind (wpAny_specialOf k m ?_);have f:wpAny (model prog w) A (subscripted tg false o i) (λr c=>wpAny (model prog w) A (letTemporaryGo e o r >>= λ_=>pure r) Q E c) E a:=by
  rw[l o i];exact wpAny_operating (wpAny_mono b (λr c g=>wpAny_bind (wpAny_letTemporaryGo (wpAny_pure g))) λ_ _ x=>x)
 first
  | exact wpAny_pure (wpAny_bind f)
  | exact wpAny_bind (wpAny_pure (wpAny_bind f))
  | exact wpAny_bind f
theorem Ec{X:Cx}{σ:St}{s:Shared}{a:Addr}{y:V}{o:Option V}(I:Inv X π σ H s)(g:su H a y o):s.TypeIs (.ref a) "dict":=by
 rcases g with ⟨d,k,e,_,_⟩|⟨d,k,b,e,_,_,_⟩
 ·obtain⟨_,_,h,_,c⟩:=BR I.hok e;exact c.typeIs
 ·obtain⟨_,_,f,_,c⟩:=BV I.hok e;exact c.typeIs
inductive Pa(Q:VK)(x:V)(y:V)(H2:Hp):Prop
 | mk (a v:_) (_:x=.ref a) (_:su H2 a y (some v)) (_:Q v H2)
def Mi(a:TE)(σ:St)(Q:VK):VK:=λx b=>a σ b (Pa Q x)
def U4(c b:TE):TE:=λ a H Q=>c a H (Mi b a Q)
inductive Sv(Q:VK)(y:V)(x:V)(H2:Hp):Prop
 | mk (a o:_) (_:x=.ref a) (_:su H2 a y o) (_:Q (.bl o.isSome) H2)
def Px(a:TE)(σ:St)(Q:VK):VK:=λy b=>a σ b (Sv Q y)
def VB(b c:TE):TE:=λ a H Q=>b a H (Px c a Q)
inductive IW(Q:VK)(y:V)(x:V)(H2:Hp):Prop
 | mk (a o:_) (_:x=.ref a) (_:su H2 a y o) (_:Q (.bl (!o.isSome)) H2)
def FJ(a:TE)(σ:St)(Q:VK):VK:=λy b=>a σ b (IW Q y)
def Qp(b c:TE):TE:=λ a H Q=>b a H (FJ c a Q)
inductive Qk(D:Ends)(σ:St)(v:V)(x:V)(y:V)(H3:Hp):Prop
 | mk (a H4:_) (_:x=.ref a) (_:UV H3 a y v H4) (_:D.nx σ H4)
def Lq(a:TE)(D:Ends)(σ:St)(v:V):VK:=λx b=>a σ b (Qk D σ v x)
def Nz(b:TE)(a:TE)(D:Ends)(σ:St):VK:=λv c=>b σ c (Lq a D σ v)
def Uh(d b c:TE):TS:=λD a H=>c a H (Nz d b D a)
section
variable{i value:Expr}{pos pos' tpos:Pos}{td ty tv:TE}
theorem Pz(n:X.A.units+1<cLine)(q:PE X o td)(r:PE X i ty)(p:Ul i):PE X (.Subscript o i pos) (U4 td ty):=by
 intro c s b H Q I h;refine PK PySem.F.slot_dict_getitem.lookup p (VL (q c s b H _ I h) λu f ⟨x,D,B,k,m⟩=>VL (r c f b D _ B m) λK J ⟨y,C,d,j,a,v,t,g,l⟩=>?_);subst t;obtain rfl:u=Value.ref a:=k;exact(Ec d g,Kd n d g j λE G z w=>(v,C,z,w,l))
theorem Lw(n:X.A.units+1<cLine)(q:PE X i ty)(p:PE X o td):PC X .In i o (VB ty td):=by
 intro c s b H Q I h;refine VL (q c s b H _ I h) λE d ⟨y,B,w,f,l⟩=>VL (p c d b B _ w l) λu D ⟨x,z,v,j,a,m,r,g,k⟩=>?_;subst r;obtain rfl:u=Value.ref a:=j;exact Vk n v g f λC t=>(.bl m.isSome,z,t,7,k)
theorem Kv(n:X.A.units+1<cLine)(q:PE X i ty)(p:PE X o td):PC X .NotIn i o (Qp ty td):=by
 intro c s b H Q I h;refine VL (q c s b H _ I h) λE d ⟨y,B,w,f,l⟩=>VL (p c d b B _ w l) λu D ⟨x,z,v,j,a,m,r,g,k⟩=>?_;subst r;obtain rfl:u=Value.ref a:=j;exact Qe n v g f λC t=>(.bl (!m.isSome),z,t,7,k)
theorem qJ(t:X.A.units+1<cLine)(z:PE X o td)(B:PE X i ty)(q:PE X value tv)(w:swapsWith value (some (.Subscript o i pos')) pos.line X.env=pure false):
  PS X (.Assign [.Subscript o i pos'] value pos) (Uh td ty tv):=by
 intro c s b H D I h;refine wpAny_Assign_Subscript (VL (q c s b H _ I h) λr f ⟨v,M,J,l,p⟩=>VL (z c f b M _ J p) λu d ⟨x,L,G,k,n⟩=>VL (B c d b L _ G n) λP O ⟨y,Q,F,j,a,K,C,g,m⟩=>?_) w;subst C;obtain rfl:u=Value.ref a:=k;exact J6 t F g j l λN E=>(b,K,E,m)
end
theorem Dt{P:Program}{w:World}(h:Heap)(a:sysModules<h.objs.size):b7 P w H (h.push {cls:=.type "dict",data:=.dict #[]}) h.objs.size (.dK []):=
 (aaH _,beq_eq_false_iff_ne.mpr (agB (ae2 a)),[],.nil,Heap.DictOf.new h)
def S6:TE:=λ_ H Q=>∀p,H p=none->Q (.ref p) (upd H p (.dK []))
section
variable{pos:Pos}
theorem p8:PE X (.Dict [] [] pos) S6:=λ c s b H Q I h=>
 wpAny_Dict_empty (.ref s.heap.objs.size,_,I.laid (a:=s.heap.objs.size) (o:=.dK []) (t':=s.toks) (λ_ _ q=>Heap.get?_push_of_some _ q) (aae _) (Dt s.heap I.big),7,h _ (I.hok.fresh (aae _)))
end
def Fl:List (TE×TE)->St->Hp->(List (V×V)->Hp->Prop)->Prop
 |[],_,H,Q=>Q [] H
 |(c,b)::r,a,H,Q=>c a H λx g=>b a g λy f=>Fl r a f λd e=>Q ((pq x y)::d) e
abbrev VV:List (V×V)->List (Value×Value)->Prop:=Paired λp q=>RelV p.1 q.1/\RelV p.2 q.2
def PPs(X:Cx)(pos:Pos)(b:List (Option Expr))(a:List Expr)(i:List (TE×TE)):Prop:=
 ∀(d:List (Addr×Obj)) (s:Shared) (c:St) (H:Hp) (Q:List (V×V)->Hp->Prop),Inv X d c H s->Fl i c H Q ->
  wpAny (model X.prog X.w) X.A (evalPairs (pairTrees b a X.env pos)) (λg h=>∃e f,Inv X d c f h/\VV e g/\Q e f) X.xe s
theorem Qm{X:Cx}{pos:Pos}:PPs X pos [] [] []:=λ b s a H Q I h=>pairTrees_nil_walk ([],H,I,.nil,h)
theorem Nj{X:Cx}{pos:Pos}{k v:Expr}{d:List (Option Expr)}{vs:List Expr}{tk :TE}{e:List (TE×TE)}(r:PE X k tk)(p:PE X v ta)(q:PPs X pos d vs e):
  PPs X pos (some k::d) (v::vs) ((pq tk ta)::e):=λ b s a H Q I h=>
 pairTrees_cons_walk (VL (r b s a H _ I h) λu g ⟨x,C,z,j,n⟩=>VL (p b g a C _ z n) λE f ⟨y,B,w,i,m⟩=>
  VL (q b f a B _ w m) λD F ⟨o,A,t,c,l⟩=>((pq x y)::o,A,t,.cons (j,i) c,l))
def mC(b a:List (Key×V)):List (Key×V):=a.foldl (λc d=>putK c d.1 d.2) b
theorem KV.merge:∀{b:List (Key×V)} {rs:List (Key×Value)} {a:List (Key×V)} {vs:List (Key×Value)},KV b rs->KV a vs->KV (mC a b) (merged vs rs):=by
 intro b rs a vs r;unfold KV at r
 induction r generalizing a vs with
 |nil=>intro q;exact q
 |@cons p q g f h t d=>
  intro c;have e:KV (putK a p.1 p.2) (stored vs q.1 q.2):=by
   have:=c.put p.1 h.2;rw[<-h.1];exact this
  exact d e
theorem oR:∀(b a:List (Key×V)),(mC a b).length<=a.length+b.length
 |[],a=>by show a.length<=a.length+0;lia
 |p::r,a=>by
  have d:=oR r (putK a p.1 p.2);have c:=nJ a p.1 p.2;show (mC (putK a p.1 p.2) r).length<=_;rw[aah];lia
theorem vK{P:Program}{w:World}:∀{d:List (Key×V)} {ws:List (Value×Value)},VV (d.map λe=>(pq (kV e.1) e.2)) ws -> ∃rs,Carries (cQ P w) ws rs/\KV d rs
 |[],_,r=>by rw[ahP]at r;cases r;exact([],True.intro,.nil)
 |p::d,_,r=>by
  rw[aax]at r;cases r with
  |@cons a b j g h t=>
   obtain⟨rs,c,q⟩:=vK (P:=P) (w:=w) t;obtain⟨i,f⟩:=b;exact((pq p.1 f)::rs,(yI h.1,7,c),.cons (7,h.2) q)
def Ua(f:List (TE×TE)):TE:=λ d H Q=>∀p,H p=none->Fl f d (upd H p (.dK [])) λe c=>c p=some (.dK []) /\ ∃a:List (Key×V),e=a.map (λb=>(pq (kV b.1) b.2))/\a.length<=15/\Q (.ref p) (upd c p (.dK (mC [] a)))
theorem Ph{X:Cx}{pos:Pos}{b:List (Option Expr)}{j:List (TE×TE)}(h:PPs X pos b es j)(f:b.all (·.isSome)=true)(A:b.length=es.length)(D:b≠[])
  (i:b.length<=15):PE X (.Dict b es pos) (Ua j):=by
 intro n s m H Q I q;have y:=I.hok.fresh (aae s.heap.objs.size)
 have J:=I.laid (a:=s.heap.objs.size) (o:=.dK []) (h':=s.heap.push {cls:=.type "dict",data:=.dict #[]}) (t':=s.toks) (λ_ _ q=>Heap.get?_push_of_some _ q) (aae _) (Dt s.heap I.big)
 refine wpAny_Dict_walk (knd:=cQ X.prog X.w) f A D i (VL (h n _ m _ _ J (q _ y)) λL M ⟨N,R,l,g,e,d,F,O,u⟩=>?_);subst F;obtain⟨p,c,r⟩:=vK (P:=X.prog) (w:=X.w) g;obtain⟨z,hd,K,t,G⟩:=Rr l.hok e;cases t;refine(p,c,G,λE k x=>(.ref s.heap.objs.size,_,1,7,u));have v:(mC [] d).length<=sizeLine:=by
  have C:=oR d [];rw[afV]at C;rw[sizeLine_eq];lia
 have B:∃q,E.get? s.heap.objs.size=some q:=let ⟨q,_,_,hq,_⟩:=k;(q,hq);exact zH l (by rw[e];exact True.intro) x B (KN v hd (r.merge .nil) k)
structure M1(X:Cx)(o:Expr)(m:Str)(apos:Pos)(e:Expr)(cpos:Pos):Prop where
 base:attributeBase o m X.env (eval o X.env)=eval o X.env
 few:((backTo cpos (starEach [e] X.env)).all (λx=>!x.1)&&(backToKw cpos (keywordEach [] X.env)).all (λx=>x.1.isSome)
  && decide (([e]:List Expr).length+([]:List Keyword).length+(if ([]:List Keyword).isEmpty then 0 else 1)<30))=true
 line:(apos.endLine==cpos.line)=true
 trees:backTo cpos (starEach [e] X.env)=[(pq false (eval e X.env))]
section
variable{y d:V}{u r:Value}{o:Option V}
end
section
variable{f:Expr}{cpos:Pos}{td ty tx:TE}
end
section
variable{kvs:List (Key×V)}
end
section
variable{y:V}{u:Value}
end
end L2
namespace Att
open PySem.W PySem.Calls PyProof.Rows
section
variable{w:World}{K:Frag}
end
end Att
namespace L2
open PySem.Spec PyProof.Rows
section
variable{P:Program}{w:World}
end
section
variable{κ:Type}[DecidableEq κ]
end
section
variable{st:Stmt}{rest:List Stmt}{t u:TS}
def VG(t u:TS):TS:=λD c H=>∃R:St->Hp->Prop,t {D with nx:=R} c H /\ ∀a b,R a b->u D a b
theorem gG(i:PS X st t)(g:Wu X rest u):Wu X (st::rest) (VG t u):=by
 rintro b s c H D I ⟨R,h,e⟩;refine wpAny_execs_cons (VL (i b s c H {D with nx:=R} I h) λf d q=>?_);cases f with
 |next=>
  obtain⟨a,k,j,q⟩:=q;exact g b d a k D j (e _ _ q)
 |ret v=>exact q
 |brk=>exact q
 |cont=>exact q
theorem cY{CX:WP}{x:Str}{d:Stmt}{ps:List Str}{f:Addr}{sp:Sp}{j k:Nat}{E:XK}{e:Expr}{es:List Expr}{p pos:Pos}{t:TA}(D:Tw.Df X.K X.mg x d ps f B)(F:bI X.prog X.w X.K X.mg X.base CX j f B ps sp)(i:j<=k)(h:jj k X.A)(g:iD CX X E)(l:Gl X x)
  (o:PA X (e::es) t)(c:(x==("__debug__" : Str))=false:=by decide)(n:starEach (e::es) X.env=(pq false (eval e X.env))::starEach es X.env:=by rfl)(a:(backTo pos (starEach es X.env)).any (·.1)=false:=by rfl):
  PE X (.Call (.Name x p) (e::es) [] pos) (Hc sp [] E t):=Qc (F.mono i) h l D.m D.F.kp D.b .nil g o c n a
theorem aX{x:Str}{c:Stmt}{ps:List Str}{f:Addr}{sp:Sp}{j k:Nat}{e:Expr}{es:List Expr}{p pos:Pos}{t:TA}(D:Tw.Df X.K X.mg x c ps f B)(F:bI X.prog X.w X.K X.mg X.base VR j f B ps sp)(d:jj k X.A)
  (l:PA X (e::es) t)(g:j<=k:=by decide)(h:Gl X x:=by rfl)(b:(x==("__debug__" : Str))=false:=by decide)(i:starEach (e::es) X.env=(pq false (eval e X.env))::starEach es X.env:=by rfl)(a:(backTo pos (starEach es X.env)).any (·.1)=false:=by rfl):
  PE X (.Call (.Name x p) (e::es) [] pos) (Hc sp [] E0 t):=cY D F g d Ut h l b i a
end
end L2
namespace Tw
end Tw
namespace L2
open PySem.Spec PyProof.Rows
def Itd(d:Addr)(o:Obj)(a:List (Key×V)):It:=
 (λi H=>H d=some (.Wj o (.dK a))/\i<a.length,λi H x b=>b=H /\ ∃p,a[i]?=some p/\x=kV p.1,λi H=>H d=some (.Wj o (.dK a))/\a.length<=i)
theorem U5{P:Program}{w:World}{k:Key}{u:Value}(h:(cQ P w).is k u=true):RelV (kV k) u:=by
 rcases cU h with ⟨i,t,rfl,rfl⟩|⟨x,t,rfl,rfl⟩
 ·exact(t,7)
 ·exact(t,7)
theorem KV.get:∀{a:List (Key×V)} {vs:List (Key×Value)} {i:Nat}{p:Key×V},KV a vs->a[i]?=some p -> ∃q,vs[i]?=some q/\p.1=q.1
 |_,_,_,_,.nil,e=>by simp at e
 |_,_,0,_,.cons r _,e=>by simp at e;subst e;exact(9,r.1)
 |_,_,i+1,p,.cons _ t,e=>by
  obtain⟨q,c,b⟩:=KV.get (i:=i) (p:=p) t (by simpa using e);exact(q,by simpa using c,b)
theorem yt{P:Program}{w:World}{K:PySem.W.Frag}(f l:Addr)(o:Obj){es:Array DictEntry}(hd:o.data=.dict es d)(g:List (Key×V)):Turn P w K e (Itd f o g) [l] l (λi h=>h.IsKeyIter l f i g.length d) where
 mem:=by simp
 obj:=λi h j b m=>by
  have a:b=l:=by simpa using m
  subst a;obtain⟨o,a,c,f⟩:=j;exact(o,a,λv z=>by rw[f]at z;cases z)
 keep:=λi h A j k=>j.at λo a=>k l (by simp) o a
 item:=by
  intro X F C G hc i π s σ H E I y j D;subst F C G;obtain⟨J,hi⟩:=D;obtain⟨n,hz,hs,B,u,Y⟩:=(show b7 X.prog X.w H s.heap f (.Wj o (.dK g))from I.hok f _ J);obtain⟨o',a0,a1,r,O,p,N,M,L⟩:=Y;rw[n]at r;cases r;rw[hd]at p;cases p;have x:g.length=B.length:=Paired.length u;have hp:=aac hi;obtain⟨q,hq,e1⟩:=KV.get u hp;obtain⟨U,T,f2,S,R,Q⟩:=y l (by simp);rw[x]at j;refine wpAny_pyNext_dict_item (knd:=cQ X.prog X.w) j (o,es,n,O,hd,N,M,L) (k:=q.1) (v:=q.2) hq λZ A hk t sb=>?_;have I1:Inv X π σ H {s with heap:=A}:=I.turned (t':=s.toks) (λb o m a=>(sb.2 b m).trans a) U T S R Q;obtain⟨oi,a,c,dt⟩:=id t;refine(Z,7,tO (s:={s with heap:=A}) a c dt ∅ (kV g[i].1,H,I1,by rw[e1];exact U5 hk,(7,_,hp,7),1,λb m=>(y b m).1));rw[x];exact t
 done:=by
  intro X F C G hc i π s σ H E I y j D;subst F C G;obtain⟨J,hi⟩:=D;obtain⟨n,hz,hs,B,u,Y⟩:=(show b7 X.prog X.w H s.heap f (.Wj o (.dK g))from I.hok f _ J);obtain⟨o',a0,a1,r,O,p,N,M,L⟩:=Y;rw[n]at r;cases r;rw[hd]at p;cases p;have x:g.length=B.length:=Paired.length u;obtain⟨U,T,f2,S,R,Q⟩:=y l (by simp);rw[x]at j;exact wpAny_pyNext_dict_end (knd:=cQ X.prog X.w) (I.ok.hd hc) j (o,es,n,O,hd,N,M,L) (aaU ⋯) λA eb=>(7,I.turned (t':=s.toks) (λb o m a=>eb b o m a) U T S R Q)
 self:=λ_ _ _ _ _ j h=>wpAny_pyIter_keyiter j h
end L2
namespace Tw
theorem Bp{ns:List Int}{k:Nat}{b:Int}(h:ns[k]?=some b):(ns.take (k+1)).sum=(ns.take k).sum+b:=by
 rw[aed,h];simp[ahI]
theorem Nb:∀{ns:List Int},aO ns->blk ns<2^ns.length
 |[],_=>by simp[blk]
 |b::r,h=>by
  have:=Nb h.tail;have:=h.head;rw[aah,agQ];simp only[blk];lia
theorem Br:∀l:List Int,blk (l.map λx=>1-x)=2^l.length-1-blk l
 |[]=>by simp[blk]
 |x::l=>by
  rw[aax,aah,agQ];simp only[blk];rw[Br l];lia
theorem Dv:∀(l:List Int) (k:Nat),k<=l.length->((l.map λx=>1-x).take k).sum=k-(l.take k).sum
 |_,0,_=>by simp
 |[],k+1,h=>by simp at h
 |x::l,k+1,h=>by
  have:=Dv l k (by simpa using h);rw[aax,af1,af1,ahv,ahv,this];lia
theorem turned{b:Int}(j:0<=b)(i:b<2^32):(∀k:Nat,k<32->bit (2^32-1-b) k=1-bit b k) /\ ∀k:Nat,k<=32->ones (2^32-1-b) k=k-ones b k:=by
 have c:=sY b 32;have e:=BZ 32 b j i;have h:=dI b 32;have ht:aO ((bits b 32).map λx=>1-x):=λx g=>by
  obtain⟨y,f,rfl⟩:=aaz.mp g;have:=c y f;lia
 have d:blk ((bits b 32).map λx=>1-x)=2^32-1-b:=by rw[Br,h,e]
 refine(λk a=>?_,λk a=>?_)
 ·rw[<-d,uA ht,aak,wF a];rfl
 ·rw[<-d,mU ht,Dv _ _ ⋯,<-mU c,e]
def nz(ns:List Int)(n:Nat):List Int:=(abS n).map λk:Nat=>32*(k:Int)-(ns.take (32*k)).sum
theorem eU:∀(l:List Int) (u:Int),aO (brk l u)
 |[],u=>λb a=>.inl (af8 a)
 |d::r,u=>λb a=>by
  simp only[brk,aas,aat]at a;rcases a with a|rfl|a
  ·exact .inl (af8 a)
  ·exact .inr rfl
  ·exact eU r _ b a
theorem Bb{ns:List Int}{k:Nat}{b:Int}(h:ns[k]?=some b):(ns.take (k+1)).sum=(ns.take k).sum+b:=by
 rw[aed,h];simp
theorem vB{ds:List Int}(h:cB ds):∀k:Nat,k<=(brk ds 0).length -> ∃a:Nat,a<=ds.length/\a<=k/\((brk ds 0).take k).sum=a/\(brk ds 0).drop k=brk (ds.drop a) (ht (brk ds 0) k)/\Dp (ds.drop a) (ht (brk ds 0) k)
 |0,_=>(0,aaH _,aae _,7,by rw[jx];rfl,by rw[jx];exact h.dp)
 |k+1,q=>by
  obtain⟨a,o,t,s,i,n⟩:=vB h k ⋯;have c:(brk ds 0)[k]?=some (brk ds 0)[k]:=aac ⋯;have p:(brk ds 0).drop k=(brk ds 0)[k]::(brk ds 0).drop (k+1):=afT ⋯;rw[p]at i;have b:=zB c;have g:=Bb c;rcases Bx n i.symm with ⟨z,_,d,e⟩|⟨r,m,z,d,e⟩
  ·rw[z]at b g;exists a,o,6,6,?_
   ·rw[b,d];congr 1;lia
   ·rw[b,show ht (brk ds 0) k+2*0-1=ht (brk ds 0) k-1 from by lia];exact e
  ·rw[z]at b g;have f:a<ds.length:=by
    have:=congrArg ag9 m;rw[aaq,aah]at this;lia
   have l:ds.drop (a+1)=r:=by
    have:ds.drop (a+1)=(ds.drop a).drop 1:=by rw[agc]
    rw[this,m];rfl
   have j:ht (brk ds 0) k+2*1-1=ht (brk ds 0) k+1:=by lia
   exists a+1,f,6,6,?_
   ·rw[b,j,l];exact d
   ·rw[b,j,l];exact e
theorem iQ{ds:List Int}(a:cB ds):(brk ds 0).length=2*ds.length:=by
 rw[kZ a.dp];show 0+_=_;lia
theorem wD{ds:List Int}(e:cB ds){k:Nat}(n:k<(brk ds 0).length):((brk ds 0)[k]?=some 0/\0<ht (brk ds 0) k)\/((brk ds 0)[k]?=some 1 /\ ∃a:Nat,((brk ds 0).take k).sum=a/\a<ds.length/\ds[a]?=some (ht (brk ds 0) k)):=by
 obtain⟨a,p,o,g,c,f⟩:=vB e k ⋯;have b:(brk ds 0)[k]?=some (brk ds 0)[k]:=aac ⋯;have l:(brk ds 0).drop k=(brk ds 0)[k]::(brk ds 0).drop (k+1):=afT ⋯;rw[l]at c;rcases Bx f c.symm with ⟨z,u,h,m⟩|⟨r,d,z,h,m⟩
 ·exact .inl (by rw[b,z],6)
 ·refine .inr (by rw[b,z],a,g,1,1)
  ·have:=congrArg ag9 d;rw[aaq,aah]at this;lia
  ·have:=aga (xs:=ds) (i:=a) (j:=0);rw[d]at this;exact this.symm
theorem qH{ds:List Int}(a:cB ds):Tree (brk ds 0):=by
 have i:=iQ a;have n:0<ds.length:=(aad.mp a.1).1;refine(6,1,λk h e=>?_)
 ·obtain⟨c,m,l,j,d,b⟩:=vB a _ (aae _);rw[ahj]at d;exact(PQ b d.symm).2
 ·rcases wD a e with ⟨_,z⟩|⟨_,c,p,o,g⟩
  ·exact z
  ·obtain⟨_,_,_,_,_,b⟩:=vB a k ⋯;have f:=b.pos;rcases agJ c with rfl|z
   ·unfold ht at f;lia
   ·have:=a.one z g;lia
theorem JW{ds:List Int}(b:cB ds){k:Nat}(a:k<=(brk ds 0).length):ht (brk ds 0) k<=ds.length:=by
 obtain⟨c,f,e,d,_⟩:=vB b k a;unfold ht;lia
theorem Pq{ds:List Int}(a:cB ds){k:Nat}(b:(brk ds 0).length<=k):((brk ds 0).take k).sum=ds.length:=by
 have h:=(qH a).2.1;have c:=iQ a;unfold ht at h;rw[afK]at h;rw[aal b];lia
def qN(ns:List Int)(n j k:Nat)(m:Int):Prop:=m<=n/\(m=n \/ ∃t,32*j<t/\t<=32*j+k/\m=ht ns t) /\ ∀t,32*j<t->t<=32*j+k->m<=ht ns t
theorem qN.zero(ns:List Int)(n j:Nat):qN ns n j 0 n:=(ahC _,.inl rfl,λt b a=>by lia)
theorem qN.step{ns:List Int}{n j k:Nat}{m:Int}(h:qN ns n j k m):qN ns n j (k+1) (if ht ns (32*j+k+1)<m then ht ns (32*j+k+1)else m):=by
 obtain⟨f,c,d⟩:=h;have g:∀t,32*j<t->t<=32*j+(k+1)->t=32*j+k+1\/t<=32*j+k:=λt _ _=>by lia
 split
 ·refine(6,.inr (32*j+k+1,6,6,7),λt a b=>?_);rcases g t a b with rfl|z
  ·exact ahC _
  ·have:=d t a z;lia
 ·refine(f,1,λt a b=>?_)
  ·rcases c with c|⟨t,a,b,e⟩
   ·exact .inl c
   ·exact .inr (t,a,6,e)
  ·rcases g t a b with rfl|z
   ·lia
   ·exact d t a z
theorem Dc{ds:List Int}(a:cB ds):(brk ds 0).sum=ds.length:=by
 have:=Pq a (k:=(brk ds 0).length) (aae _);rw[afK]at this;exact this
theorem NB{ds:List Int}(e:cB ds){i p:Nat}(a:(brk ds 0)[p]?=some 1)(h:((brk ds 0).take p).sum=(i:Int)):ds[i]?=some (ht (brk ds 0) p):=by
 have d:=(aad.mp a).1;rcases wD e d with ⟨z,_⟩|⟨_,b,g,f,c⟩
 ·rw[z]at a;cases a
 ·have:b=i:=by lia
  subst this;exact c
def UpN(ds:List Int)(j:Nat)(g:Int)(i:Nat):Prop:=i<=j/\ds[i]?=some g /\ ∀m x,i<m->m<=j->ds[m]?=some x->g<x
theorem UpN.trans{ds:List Int}{j i e:Nat}{g:Int}(h:UpN ds j g i)(h':UpN ds i (g-1) e):UpN ds j (g-1) e:=by
 obtain⟨n,l,f⟩:=h;obtain⟨k,d,c⟩:=h';refine(6,d,λm x b a e=>?_);rcases afF i m with z|z
 ·have:=f m x z a e;lia
 ·exact c m x b z e
def run(ds:List Int)(k:Nat)(g:Int):Nat:=((ds.drop k).takeWhile λx=>decide (g<x)).length
end Tw
namespace L2
open PySem.Spec PyProof.Rows
theorem Mx(a b:Int):Builtin.Range.rangeSize a b (-1)=((a-b).toNat:Int):=by
 unfold Builtin.Range.rangeSize;rw[if_neg ∅,show (- -1:Int)=1 from rfl,ahD];split<;>lia
theorem Cg{a b:Int}(d : -1<=a)(c : -1<=b)(g:a<536870912)(f:b<536870912):Builtin.Range.small a b (-1)=true:=by
 unfold Builtin.Range.small Builtin.Range.rangeFitsLong;rw[Mx];have e:(2:Int)^63=9223372036854775808:=by decide
 rw[e,if_neg ∅];refine gn (gn (gn (gn (gn (decide_eq_true ?_) (decide_eq_true ?_)) (gn (decide_eq_true ?_) (decide_eq_true ?_))) ∅) (gn (decide_eq_true ?_) (decide_eq_true ?_))) ?_
 ·lia
 ·lia
 ·lia
 ·lia
 ·lia
 ·lia
 ·rw[ah1];exact .inr (gn (decide_eq_true ⋯) (decide_eq_true ⋯))
inductive Ih(R:It->Hp->Prop)(vs:List V)(H1:Hp):Prop
 | mk (a b:Int) (_:vs=[.int a,.int b,.int (-1)]) (_ : -1<=a) (_ : -1<=b) (_:a<536870912) (_:b<536870912) (_:R (Yq a (-1) (a-b).toNat) H1)
def Pb(b:TA):TI:=λ a H R=>b a H (Ih R)
theorem CT{a b c:Expr}{p pos:Pos}(J:Gl X "range")(G:X.mg "range" = none)(L:PA X [a,b,c] t)(F:starEach [a,b,c] X.env=[(pq false (eval a X.env)),(pq false (eval b X.env)),(pq false (eval c X.env))]:=by rfl)
  (j:starEach [b,c] X.env=[(pq false (eval b X.env)),(pq false (eval c X.env))]:=by rfl):PI X tg (.Call (.Name "range" p) [a,b,c] [] pos) (Pb t):=by
 intro u s n H R I h;refine Call_ (gf I J G boot_range (PyProof.Rows.callWith_type1 (VL (L pos u s n H _ I h) λQ g ⟨P,v,O,w,A⟩=>?_) (by rw[F,j]) (by rw[j];rfl)));obtain⟨x,y,e,C,B,E,D,q⟩:=A;subst e;cases w with
 |cons r i=>
  cases i with
  |cons z i=>
   cases i with
   |cons m i=>
    cases i;obtain⟨d,rfl⟩:=r;obtain⟨k,rfl⟩:=z;obtain⟨f,rfl⟩:=m;refine call_range_3 ∅ ?_ (.inl (PyProof.noPylong_small ∅));refine wpAny_pyIter_range (IsRange.new ..) (Cg C B E D) ?_
    have l:Inv X u n v {g with heap:=g.heap.push {cls:=.type "range",data:=.fields #[.int x d,.int y k,.int (-1) f]},toks:=g.toks}:=O.kept λb o e=>Heap.get?_push_of_some _ e
    refine((g.heap.push {cls:=.type "range",data:=.fields #[.int x d,.int y k,.int (-1) f]}).objs.size,[(g.heap.push {cls:=.type "range",data:=.fields #[.int x d,.int y k,.int (-1) f]}).objs.size],_,_,v,7,
     l.kept (t':=g.toks) λb o e=>Heap.get?_push_of_some _ e,oG _ x (-1) (x-y).toNat,1,λb K=>?_,q)
    ·have N:x+((0:Nat):Int)*(-1)=x:=by lia
     have M:(((x-y).toNat:Nat):Int)-((0:Nat):Int)=Builtin.Range.rangeSize x y (-1):=by rw[Mx];lia
     show IsRangeIter _ _ (x+((0:Nat):Int)*(-1)) ((((x-y).toNat:Nat):Int)-((0:Nat):Int)) (-1);rw[N,M];exact Heap.get?_push_size _ rfl
    ·have e:b=(g.heap.push {cls:=.type "range",data:=.fields #[.int x d,.int y k,.int (-1) f]}).objs.size:=by simpa using K
     subst e;exact l.fpOk (aae _) (l.hok.fresh (aae _))
end L2
namespace Tw
end Tw
namespace L2
open PySem.Spec PyProof.Rows
def Gm(K:PySem.W.Frag)(a:List (Str×Nat))(b:TT)(c:TE)(σ:St)(Q:VK):It->Hp->Prop:=λJ d=>qj K J (fJ a σ) b c (λD e=>Q (.ref D) e) d
def Hv(K:PySem.W.Frag)(b:TI)(a:List (Str×Nat))(c:TT)(d:TE):TE:=λ σ H Q=>b σ H (Gm K a c d σ Q)
theorem JB{x :Str}{B pos:Pos}{iter:Expr}{y:TI}(P:X.calm=true)(i:n6 X x qual r scope n)(N:PI X (.Tuple [.Name x p,.Name qual apos] d B) iter y)
  (ht:∀C g k j,XR (bD X (x::qual::r.map (·.1)) scope n C g k j) es L)(O:∀C g k j,PE (bD X (x::qual::r.map (·.1)) scope n C g k j) e ta)(G:∀x,foldedSetIterable iter X.env x=pure x:=by intro _;rfl):
  PE X (.ListComp e [(.Tuple [.Name x p,.Name qual apos] d B,iter,es,0)] scope pos) (Hv X.K y r L ta):=by
 intro π s σ H Q I h;rw[eval_ListComp];refine wpAny_comprehension_free (use:=none) rfl G i.o.clos i.o.kind i.o.names (VL (N π s σ H _ I h) λv g U=>VL U λa0 s2 S=>?_);obtain⟨it,fp,tn,J,H2,a,W,T,l,V,F⟩:=S;subst a;refine nA (RR:=λu C=>compPost (model X.prog X.w) X.A X.xe none (EP X π σ Q) u C) W P i T l V ht O F ?_;intro D C E Z m Y M c q;exact(m,M,λt f=>(.ref D,Z,Y.turned (h':=t) (t':=E.toks) (λb o R a=>f.extBut b o R a) c.1 c.2.1 c.2.2.2.1 c.2.2.2.2.1 c.2.2.2.2.2,7,q))
theorem lF{i:Nat}{y x :Str}{u j pos f:Pos}{iter:Expr}{U:TI}(hN:X.N.Nodup)(Zz:X.N[i]?=some y)(V:X.env.scope.names.lookup y=some .local)(hc:X.calm=true)
  (E:n6 X x qual r scope n)(hi:PI X (.Tuple [.Name x p,.Name qual apos] d u) iter U)
  (ht:∀C B G F,XR (bD X (x::qual::r.map (·.1)) scope n C B G F) es L)(he:∀C B G F,PE (bD X (x::qual::r.map (·.1)) scope n C B G F) e ta)
  (P:swapsWith (.ListComp e [(.Tuple [.Name x p,.Name qual apos] d u,iter,es,0)] scope pos) (some (.Name y j)) f.line X.env=pure true:=by rfl)(hs:∀x,foldedSetIterable iter X.env x=pure x:=by intro _;rfl):
  PS X (.Assign [.Name y j] (.ListComp e [(.Tuple [.Name x p,.Name qual apos] d u,iter,es,0)] scope pos) f) (Cq (Hv X.K U r L ta) (gh i)):=by
 intro π s σ H W I h;rw[exec_Assign_Name_used _ _ _ _ P];refine wpAny_bind (wpAny_standAt (wpAny_bind ?_));show wpAny _ X.A (do let _ <-comprehension (.ListComp e [(.Tuple [.Name x p,.Name qual apos] d u,iter,es,0)] scope pos) scope X.env _ (newList []) false (eval iter X.env) (some (assign (.Name y j) X.env))) _ _ s;refine wpAny_bind (wpAny_mono (wpAny_comprehension_free (use:=some (assign (.Name y j) X.env)) (Q:=λ_ k=>SP X π W .next k) rfl hs E.o.clos E.o.kind E.o.names
  (VL (hi π s σ H _ I h) λv B h1=>VL h1 λa0 s2 h2=>?_)) (λ_ k hq=>wpAny_pure (wpAny_pure hq)) λ_ _ c=>c)
 obtain⟨it,fp,tn,J,H2,c,I2,T,M,f2,Z⟩:=h2;subst c;refine nA (RR:=λS C=>compPost (model X.prog X.w) X.A X.xe (some (assign (.Name y j) X.env)) (λ_ k=>SP X π W .next k) S C) I2 hc E T M f2 ht he Z ?_;intro D C k H' m I' hn g q;show wpAny _ X.A (assign (.Name y j) X.env (.ref D)) _ _ _;refine wpAny_assign_Name (nP (v:=.ref D) I' hN Zz (.inl V) rfl (λO ZC ch=>(m,1,λR t=>?_)) (.inr V))
 ·obtain⟨a,Y,l⟩:=ch;refine hn.sameBut Y λqual=>?_;rcases l with l|l
  ·exact g.2.1 (qual.trans l)
  ·exact g.2.2.2.2.1 _ a l qual.symm
 ·exact(_,H',ZC.turned (h':=R) (t':=O.toks) (λb o hb c=>t.extBut b o hb c) g.1 g.2.1 g.2.2.2.1 g.2.2.2.2.1 g.2.2.2.2.2,q)
end L2
namespace Tw
theorem yU{K:PySem.W.Frag}{a b:Addr}{os bs:List Int}{l:L2.St}(o:Int->Int->Bool)(g:Int->Int->Int)(I:My K H a !!os)(G:My K H b !!bs)(M:os.length=bs.length)(hz:os.length<sizeLine)
  (B:∀(x y:Int) (H':Hp) (Q:Bool->Hp->Prop),aL H H'->Q (o x y) H'->L (some (.int x)::some (.int y)::l) H' Q)
  (J:∀(x y:Int) (H':Hp) (Q:VK),aL H H'->Q (.int (g x y)) H'->ta (some (.int x)::some (.int y)::l) H' Q)
  (q:∀D H',H D=none->aL H H'->H' D=some (.lst ‹(((os.zip bs).filter λp=>o p.1 p.2).map λp=>g p.1 p.2)›)->m D H'):qj K (Yr K a b) l L ta m H:=by
 intro D w;exists λi c u t=>c=os.length-i/\i<=os.length/\aL H t/\u=‹((((os.zip bs).take i).filter λp=>o p.1 p.2).map λp=>g p.1 p.2)›/\t D=some (.lst u),(9,aaH _,au w _,7,aa);rintro i c u t ⟨rfl,N,j,rfl,f⟩;have z:=j.seq I;have A:=j.seq G;by_cases k:i<os.length
 ·have E:‹os›[i]?=some (.int os[i]):=by rw[aak,aac k];rfl
  have C:‹bs›[i]?=some (.int (bs[i]'(by omega))):=by rw[aak,aac (by omega)];rfl
  refine .inr ((_,_,_,_,z,A,E,C),λv O y=>?_);obtain⟨p,x,y,F,rfl,rfl,s,r⟩:=y;have s:=s _ z;have r:=r _ A;rw[E]at s;rw[C]at r;cases s;cases r;have n:=au F (.tup [.int os[i],.int (bs[i]'(by omega))]);have h:(os.zip bs).take (i+1)=(os.zip bs).take i++[(pq (os[i]) (bs[i]'(by omega)))]:=by
   rw[aed,aac (by rw[ahr];lia)];simp
  refine(p,_,9,VM.of aa,B _ _ _ _ (j.trans n) ?_);by_cases d:o os[i] (bs[i]'(by omega))=true
  ·rw[if_pos d];refine J _ _ _ _ (j.trans n) (n _ _ f,1,os.length-(i+1),6,7,k,bc (j.trans n) w _,1,aa)
   ·have:=age (λp:Int×Int=>o p.1 p.2) ((os.zip bs).take i);rw[aam]at this;rw[aaa,aaa];lia
   ·rw[h,agb,aaf,aaf];simp[d]
  ·rw[if_neg d];refine(os.length-(i+1),6,7,k,j.trans n,1,n _ _ f);rw[h,agb,aaf,aaf];simp[d]
 ·have e:i=os.length:=by lia
  subst e;refine .inl ((_,_,z,A,.inl (by rw[aaa];exact aae _)),q D t w j ?_);rw[aal (by rw[ahr];lia)]at f;exact f
end Tw
namespace L2
open PySem.Spec PyProof.Rows
inductive Vf(x:V)(vs:List V)(H:Hp)(Q:VK):Prop
 | mk (i:_) (_:x=.int i) (_:vs=[]) (_:Q (.int (Builtin.Int.intBits i)) H)
theorem xJ:Zw X "int.bit_length" Vf:=by
 intro d s c H x e v f Q I a b h;obtain⟨i,rfl,rfl,q⟩:=h;obtain⟨t,rfl⟩:=a;cases b;exact call_int_bit_length (.int (Builtin.Int.intBits i),H,I.tok _,3,q)
end L2
namespace Tw
def gO(b:Bool)(t:SetTable):Prop:=t.led=b/\t.place.toList.Pairwise (· < ·)
theorem qP{xs:Array Nat}(h:xs.toList.Pairwise (· < ·)){i j:Nat}(a:i<j)(b:j<xs.size):xs[i]'(by omega)<xs[j]:=by
 have:=afG.mp h i j (by simpa using (by lia:i<xs.size)) (by simpa using b) a;simpa using this
theorem wG{xs:Array Nat}(h:xs.toList.Pairwise (· < ·))(j:Nat):∀(a lo b:Nat),b-lo<=a->lo<=b->b<=xs.size->(∀k (d:k<xs.size),k<lo->xs[k]<j)->(∀k (d:k<xs.size),b<=k->j<=xs[k]) ->
  SetTable.below.go xs j a lo b<=xs.size/\(∀k (d:k<xs.size),k<SetTable.below.go xs j a lo b->xs[k]<j) /\ ∀k (d:k<xs.size),SetTable.below.go xs j a lo b<=k->j<=xs[k]
 |0,lo,b,n,o,g,f,e=>by
  have:lo=b:=by lia
  subst this;unfold SetTable.below.go;exact(g,f,e)
 |a+1,lo,b,n,o,g,f,e=>by
  unfold SetTable.below.go;by_cases c:lo<b
  ·rw[if_pos c];have l:(lo+b) / 2<xs.size:=by lia
   have p:xs.getD ((lo+b) / 2) j=xs[(lo+b) / 2]:=by simp[aiU,l]
   dsimp only;rw[p];by_cases i:xs[(lo+b) / 2]<j
   ·rw[if_pos i];refine wG h j a _ _ ⋯ ⋯ g (λk d m=>?_) e;rcases afF k ((lo+b) / 2)with z|z
    ·exact ait (qP h z l) i
    ·have:k=(lo+b) / 2:=by lia
     subst this;exact i
   ·rw[if_neg i];refine wG h j a _ _ ⋯ ⋯ ⋯ f (λk d m=>?_);rcases afF ((lo+b) / 2) k with z|z
    ·have:=qP h z d;lia
    ·have:k=(lo+b) / 2:=by lia
     subst this;lia
  ·rw[if_neg c];have:lo=b:=by lia
   subst this;exact(g,f,e)
theorem De{xs:Array Nat}(h:xs.toList.Pairwise (· < ·))(j:Nat):SetTable.below xs j<=xs.size/\(∀k (a:k<xs.size),k<SetTable.below xs j->xs[k]<j) /\ ∀k (a:k<xs.size),SetTable.below xs j<=k->j<=xs[k]:=by
 unfold SetTable.below;exact wG h j xs.size 0 xs.size ⋯ (aaH _) (aae _) (λk _ a=>absurd a (agp _)) (λk a b=>by lia)
theorem RK{b:Bool}{t:SetTable}(h:gO b t){j:Nat}(q:t.place[SetTable.below t.place j]? ≠ some j):gO b (t.put j).1:=by
 exists h.1;obtain⟨s,r,o⟩:=De h.2 j;show (SetTable.insertAt t.place (SetTable.below t.place j) j).toList.Pairwise (· < ·);rw[SetTable.toList_insertAt];generalize SetTable.below t.place j=p at *;have i:∀x∈t.place.toList.take p,x<j:=λx g=>by
  obtain⟨k,f⟩:=agy g;have n:=(aad.mp f).1;rw[aam]at n;rw[af2 ⋯,afP]at f;obtain⟨d,e⟩:=agC.mp f;rw[<-e];exact r k d ⋯
 have l:∀x∈t.place.toList.drop p,j<x:=λx g=>by
  obtain⟨k,f⟩:=agy g;rw[aga,afP]at f;obtain⟨d,e⟩:=agC.mp f;have a:=o (p+k) d ⋯;rcases agJ k with z|z
  ·subst z;have:x≠j:=λy=>q (by rw[<-y];exact f);lia
  ·have b:=qP h.2 (show p<p+k by lia) d;have c:=o p ⋯ (aae _);lia
 refine afW.mpr (h.2.sublist (ahM _ _),ago.mpr (l,h.2.sublist (List.drop_sublist _ _)),λx g y m=>?_);rcases aat.mp m with rfl|m
 ·exact i x g
 ·exact ait (i x g) (l y m)
theorem kJ{b:Bool}{t:SetTable}(h:t.led=b)(n:Nat):gO b (t.standIn n):=by
 exists h;show (Array.range n).toList.Pairwise (· < ·);rw[Array.toList_range];exact aiq
theorem J3{t:SetTable}{j:Nat}(h:∀i,t.slot j ≠ .live i):t.place[SetTable.below t.place j]? ≠ some j:=λe=>by
 refine h (SetTable.below t.place j) ?_;unfold SetTable.slot;simp[e]
theorem wj{t:SetTable}{f:Nat->Int}{h:Int}:∀(a:Nat) (p:SetTable.Probe) (j:Nat) (d:Option Nat),(∀x,p.dummy=some x->t.slot x=.dummy)->SetTable.probe.go t f h a p=some (.empty j d)->t.slot j=.empty /\ ∀x,d=some x->t.slot x=.dummy
 |0,p,j,d,_,e=>by
  unfold SetTable.probe.go at e;cases e
 |a+1,p,j,d,hd,e=>by
  unfold SetTable.probe.go at e;have g:∀q:SetTable.Probe,(t.advance q).dummy=q.dummy:=λq=>by
   unfold SetTable.advance;split<;>rfl
  cases c:t.slot p.j with
  |empty=>
   rw[c]at e;cases e;exact(c,hd)
  |dummy=>
   rw[c]at e;refine wj a _ j d (λx b=>?_) e;rw[g]at b;cases b;exact c
  |live i=>
   rw[c]at e;dsimp only at e;split at e
   ·cases e
   ·exact wj a _ j d (λx b=>hd x (by rw[g]at b;exact b)) e
theorem xY{t:SetTable}{h:Int}{j:Nat}{w:Bool}(e:t.freeSlot h=some (pq j w)):∀i,t.slot j ≠ .live i:=by
 unfold SetTable.freeSlot SetTable.probe at e;split at e
 ·rename_i a d c;cases e;obtain⟨g,f⟩:=wj _ _ _ _ (λx b=>by cases b) c;cases d with
  |none=>
   intro i z;rw[show (none:Option Nat).getD a=a from rfl,g]at z;cases z
  |some x=>
   intro i z;rw[show (some x:Option Nat).getD a=x from rfl,f x rfl]at z;cases z
 ·cases e
theorem Ao{b:Bool}{t:SetTable}(h:gO b t)(n:Nat):gO b (t.orStandIn n):=by
 unfold SetTable.orStandIn;split
 ·exact h
 ·exact kJ h.1 n
theorem Ky{b:Bool}{t:SetTable}(h:gO b t)(es:Array (Int×Value))(i:Int)(x:Value):gO b (layNew t es i x).2.1:=by
 unfold layNew;split
 ·rename_i a w e;exact Ao (RK h (J3 (xY e))) _
 ·exact kJ h.1 _
theorem Qi{m f v:Nat}{l p:Bool}{g:Array Int}{t:SetTable}{o:Array Nat}(e:SetTable.laid m f v l p g=some (pq t o)):gO l t:=by
 unfold SetTable.laid at e;cases h:SetTable.layClean m g with
 |none=>
  rw[h]at e;cases e
 |some j=>
  rw[h]at e;cases e;exists 7;show (ajp _).toList.Pairwise (· < ·);rw[aih];refine List.Pairwise.filterMap _ (R:=(· < ·)) (λa n d b i k c=>?_) aiq;obtain⟨x,_,rfl⟩:=afS.mp i;obtain⟨y,_,rfl⟩:=afS.mp c;exact d
theorem Ea{b:Bool}{t:SetTable}(h:gO b t)(es:Array (Int×Value))(n:Nat):gO b (relayAll t es n).2.1:=by
 unfold relayAll;split
 ·rename_i a o e;dsimp only;split
  ·have:=Qi e;rw[h.1]at this;exact this
  ·exact kJ h.1 _
 ·exact kJ h.1 _
theorem Nh{b:Bool}{t:SetTable}(h:gO b t):gO b {t with plain:=false}:=h
open PySem.Spec PyProof.Rows
section
variable{α β:Type}
theorem Kq{f:α->β}{k l:List β}(h:agh k l):∀L:List α,L.map f=l -> ∃g,agh g L/\g.map f=k:=by
 induction h with
 |nil=>
  intro L e;exact(L,.rfl,e)
 |cons x p r=>
  intro L e;cases L with
  |nil=>cases e
  |cons a L=>
   rw[aax]at e;injection e with d c
   obtain⟨g,o,t⟩:=r L c;exact(a::g,o.cons a,by rw[aax,t,d])
 |swap x y l=>
  intro L e
  match L,e with
  |a::b::L,e=>
   rw[aax,aax]at e;injection e with d c
   injection c with c s
   exact(b::a::L,.swap a b L,by rw[aax,aax,d,c,s])
 |trans p q j i=>
  intro L e;obtain⟨v,n,d⟩:=i L e;obtain⟨u,m,c⟩:=j v d;exact(u,m.trans n,c)
end
section
variable{w:World}{K:Type}[DecidableEq K]{knd:KeyKind prog w K}{b:Bool}
structure mD(knd:KeyKind prog w K)(es:List (Int×Value))(ks:List K)(ps:List (K×(Int×Value))):Prop where
 snd:ps.map (·.2)=es
 fst:agh (ps.map (·.1)) ks
 is:∀p∈ps,knd.is p.1 p.2.2=true/\p.2.1=knd.hash p.1/\p.2.2.scannable=true
theorem mD.elems{es:List (Int×Value)}{c:List K}{ps:List (K×(Int×Value))}(h:mD knd es c ps):ElemsOf knd es:=λe a=>by
 rw[<-h.snd]at a;obtain⟨p,d,rfl⟩:=aaz.mp a;obtain⟨i,g,f⟩:=h.is p d;exact((p.1,i,g),f)
theorem mD.size{es:List (Int×Value)}{a:List K}{ps:List (K×(Int×Value))}(h:mD knd es a ps):es.length=a.length:=by
 rw[<-h.snd,aaa,<-h.fst.length_eq,aaa]
theorem mD.mem{es:List (Int×Value)}{d:List K}{ps:List (K×(Int×Value))}(h:mD knd es d ps)(k:K):k∈d ↔ ∃e∈es,knd.is k e.2=true:=by
 rw[<-h.fst.mem_iff];constructor
 ·intro c;obtain⟨p,a,rfl⟩:=aaz.mp c;exact(p.2,by rw[<-h.snd];exact aaz.mpr (p,a,7),(h.is p a).1)
 ·rintro⟨e,f,c⟩;rw[<-h.snd]at f;obtain⟨p,a,rfl⟩:=aaz.mp f;have:=knd.inj _ _ _ c (h.is p a).1;rw[this];exact aaz.mpr (p,a,7)
theorem mD.perm{es :List (Int×Value)}{d:List K}{ps:List (K×(Int×Value))}(h:mD knd es d ps)(p:agh O es):∃a,mD knd O d a:=by
 obtain⟨a,c,e⟩:=Kq p ps h.snd;exact(a,e,(c.map _).trans h.fst,λq f=>h.is q (c.mem_iff.mp f))
theorem mD.push{es:List (Int×Value)}{c:List K}{ps:List (K×(Int×Value))}(h:mD knd es c ps){k:K}{x:Value}(e:knd.is k x=true)(d:x.scannable=true):mD knd (es++[(pq (knd.hash k) x)]) (c++[k]) (ps++[(pq k ((pq (knd.hash k) x)))]):=by
 refine(by rw[aaf,h.snd];rfl,by rw[aaf];exact h.fst.append_right _,λp a=>?_);rcases aas.mp a with a|a
 ·exact h.is p a
 ·rw[aao.mp a];exact(e,7,d)
def jH(b:Bool)(knd:KeyKind prog w K)(h:Heap)(a:Addr)(e:List K):Prop:=
 ∃o c f t d,h.get? a=some o/\o.ExactSet/\o.data=.set c f t/\c.size<scanBound/\t.fits c.size=true/\gO b t/\mD knd c.toList e d
theorem NZ{a:Addr}{o:Obj}{es:Array (Int×Value)}{t:SetTable}(i:base.get? a=some o)(c:o.ExactSet)(hd:o.data=.set es d t)
  {t':SetTable}{e:List K}{ps:List (K×(Int×Value))}(k:U.size<scanBound)(j:t'.fits U.size=true)(ht:gO b t')(f:mD knd U.toList e ps):
  (base.update a (Obj.putSet U t')).get? a=some {o with data:=.set U (d+1) t'}/\jH b knd (base.update a (Obj.putSet U t')) a e:=by
 have g:=Heap.get?_update_self (Obj.putSet U t') i (by rw[putSet_of U t' hd];rfl);rw[putSet_of U t' hd]at g;exact(g,_,U,d+1,t',ps,g,c,7,k,j,ht,f)
theorem Rj{g:Bool->Sem Unit}(G:∀(c:Bool) (q:Shared) (B:Unit->Shared->Prop),B () q->wpAny (model prog w) A (g c) B E q)
  {a:Addr}{o:Obj}{es :Array (Int×Value)}{t :SetTable}{u:List K}{ps:List (K×(Int×Value))}{C:Bool}{R:Option Bool->Shared->Prop}
  (x:s.heap.get? a=some o)(e:o.ExactSet)(hd:o.data=.set es d t)(l:U.size<scanBound)(H:J.fits U.size=true)(ht:gO b J)(v:mD knd U.toList u ps)
  (h:∀m,Heap.SameBut a s.heap m->jH b knd m a u->R (some true) {s with heap:=m}):
  wpAny (model prog w) A (do
   storeSet a U J
   if (!C&&J.tooFull)=true then do
    g (relayAll J U (SetTable.grown U.size)).2.2
    storeSet a (relayAll J U (SetTable.grown U.size)).1 (relayAll J U (SetTable.grown U.size)).2.1
    pure (some true)
   else pure (some true)) R E s:=by
 obtain⟨y,D⟩:=NZ (knd:=knd) x e hd l H ht v;have z:=Heap.SameBut.update s.heap a (Obj.putSet U J);refine wpAny_bind (wpAny_storeSet_of x hd ?_ (fits_of_scanBound l));split
 ·have j:=relayAll_perm J U (SetTable.grown U.size);have n:=relayAll_fits J U (SetTable.grown U.size);have k:=Ea ht U (SetTable.grown U.size);generalize relayAll J U (SetTable.grown U.size)=r at j n k ⊢;obtain⟨i,L,M⟩:=r;dsimp only at j n k ⊢;obtain⟨I,p⟩:=v.perm j;have F:i.size=U.size:=by simpa using j.length_eq
  have f:i.size<scanBound:=F ▸ l;refine wpAny_bind (G _ _ _ (wpAny_bind (wpAny_storeSet_of y rfl ?_ (fits_of_scanBound f))));exact wpAny_pure (h _ (z.trans (Heap.SameBut.update _ a _)) (NZ (knd:=knd) y e rfl f n k p).2)
 ·exact wpAny_pure (h _ z D)
theorem Q4{a:Addr}{d:List K}{k:K}{x:Value}{Q:Bool->Shared->Prop}(f:knd.is k x=true)(l:x.scannable=true)(Y:jH b knd s.heap a d)(P:d.length+1<scanBound)
  (h:∀g,Heap.SameBut a s.heap g->jH b knd g a (if k∈d then d else d++[k])->Q (!decide (k∈d)) {s with heap:=g}):
  wpAny (model prog w) A (setAddHashed a x (knd.hash k)) Q E s:=by
 obtain⟨o,i,Z,t,U,u,m,hd,T,H,ht,r⟩:=Y;have C:=r.elems;have hn:i.size=d.length:=by simpa using r.size
 unfold setAddHashed setAddHashedIn;refine wpAny_holding (wpAny_bind (wpAny_setState_of u hd H ?_));dsimp only;rw[byScan_of l T C,if_pos rfl];unfold setAddByScan;refine wpAny_bind (wpAny_bind (wpAny_rule (wpAny_bind (wpAny_setScan_of f u hd H C ?_))));have S:=r.mem k;cases R:List.findIdx? (λe=>knd.is k e.2) i.toList with
 |some j=>
  obtain⟨W,N,_⟩:=List.findIdx?_eq_some_iff_getElem.mp R;have v:k∈d:=S.mpr (_,afL W,N);have e:s={s with heap:=s.heap}:=by cases s;rfl
  have q:=h s.heap (Heap.SameBut.refl a s.heap) (by rw[if_pos v];exact(o,i,Z,t,U,u,m,hd,T,H,ht,r));rw[decide_eq_true v]at q;dsimp only;rw[e];exact wpAny_pure (wpAny_pure q)
 |none=>
  have v:¬k∈d:=λz=>by
   obtain⟨e,X,V⟩:=S.mp z;have:=List.findIdx?_eq_none_iff.mp R e X;rw[V]at this;cases this
  rw[if_neg v,decide_eq_false v]at h;dsimp only;have n:=layNew_perm t i (knd.hash k) x;have y:=layNew_fits t i (knd.hash k) x;have p:=Ky ht i (knd.hash k) x;generalize layNew t i (knd.hash k) x=L at n y p ⊢;obtain⟨O,t1,wd,gv⟩:=L;dsimp only at n y p ⊢;rw[agD]at n;obtain⟨a0,B⟩:=(r.push f l).perm n;have D:O.size<scanBound:=by
   have:=n.length_eq;rw[aab,agI,aag,aag]at this;lia
  have G:∀(c:Bool) (F:Shared) (M:Unit->Shared->Prop),M () F->wpAny (model prog w) A (match c with|true=>rule "set.scan.the-table-gave-way" |false=>pure ()) M E F:=λc F M q=>by
   cases c
   ·exact wpAny_pure q
   ·exact wpAny_rule q
  refine wpAny_bind (G _ _ _ ?_);split
  ·refine wpAny_bind ?_;rw[hashByValue_scannable 8 l];refine wpAny_pure (Rj (b:=b) G u m hd D ?_ ?_ B λg J I=>?_)
   ·split
    ·exact y
    ·exact SetTable.fits_plain_off y
   ·split
    ·exact p
    ·exact Nh p
   ·exact wpAny_pure (h g J I)
  ·refine wpAny_bind (wpAny_pure ?_);rw[if_pos rfl];exact Rj (b:=b) G u m hd D y p B λg J I=>wpAny_pure (h g J I)
end
section
variable{K:Type}[DecidableEq K]
def met(f:Nat->K):Nat->List K
 |0=>[]
 |n+1=>if f n∈met f n then met f n else met f n++[f n]
theorem pZ(f:Nat->K):∀(n:Nat) (k:K),k∈met f n ↔ ∃i,i<n/\f i=k
 |0,k=>by simp[met]
 |n+1,k=>by
  unfold met;have a:=pZ f n;constructor
  ·intro h;split at h
   ·obtain⟨i,c,b⟩:=(a k).mp h;exact(i,6,b)
   ·rcases aas.mp h with h|h
    ·obtain⟨i,c,b⟩:=(a k).mp h;exact(i,6,b)
    ·exact(n,6,(aao.mp h).symm)
  ·rintro⟨i,c,rfl⟩;rcases afF i n with z|z
   ·have:=(a (f i)).mpr (i,z,7);split
    ·exact this
    ·exact afQ _ this
   ·have e:i=n:=by lia
    subst e;split
    ·assumption
    ·exact aap _ (aao.mpr rfl)
theorem gm(f:Nat->K):∀n:Nat,(met f n).Nodup
 |0=>.nil
 |n+1=>by
  unfold met;split
  ·exact gm f n
  ·rename_i h;refine aiV.mpr (gm f n,by simp,λa d b c e=>?_);rw[aao.mp c]at e;exact h (e ▸ d)
theorem zx(f:Nat->K):∀n:Nat,(met f n).length<=n
 |0=>aae _
 |n+1=>by
  unfold met;have:=zx f n;split
  ·lia
  ·rw[aab,agI];lia
theorem Bl(f:Nat->K){i:Nat}:∀n:Nat,i<=n->(met f i).length<=(met f n).length
 |0,h=>by
  have:i=0:=by lia
  subst this;exact aae _
 |n+1,h=>by
  rcases afF i (n+1)with z|z
  ·have:=Bl f n (show i<=n by lia);show _<=(if f n∈met f n then met f n else met f n++[f n]).length;split
   ·exact this
   ·rw[aab];lia
  ·have:i=n+1:=by lia
   subst this;exact aae _
end
section
variable{w:World}{K:Type}[DecidableEq K]{knd:KeyKind prog w K}{R:Result->Shared->Prop}{I:Addr}{fp wr:List Addr}{G:Array GenState->Array GenState->Prop}{n:Nat}{P:Nat->Value->Prop}{St:Nat->Shared->Prop}{b:Bool}
theorem jH.at{h':Heap}{a:Addr}{c:List K}(g:jH b knd base a c)(e:∀o,base.get? a=some o->h'.get? a=some o):jH b knd h' a c:=by
 obtain⟨o,i,j,t,d,f,r⟩:=g;exact(o,i,j,t,d,e o f,r)
theorem Uu(W:WalksS prog w A.in1 I fp wr G n P St)(S:Addr)(t:S∉fp)(f:Nat->K)(Q:∀i v,P i v->knd.is (f i) v=true/\v.scannable=true)(T:(met f n).length+1<scanBound):
  ∀(k i:Nat) (s:Shared),n-i=k->i<=n->St i s->jH b knd s.heap S (met f i) ->
   (∀a,Moved (S::wr) G s a->jH b knd a.heap S (met f n)->R (.ok (.ret .none)) a) ->
   codeAny (model prog w) A (.builtin "set.update.loop" ([.ref S,.ref I],[])) R s:=by
 have B:S∉wr:=λz=>t (W.sub _ z);have l:∀c∈wr,c∈S::wr:=λc j=>.tail _ j;intro k
 induction k with
 |zero=>
  intro i s O C d x q;obtain rfl:i=n:=by lia
  refine codeAny_builtin PyProof.Rows.F.entry_set_update_loop ?_;rw[Around.under_plainId PyProof.Rows.F.plain_set_update_loop _];refine wpAny_bind (m:=pyNext (.ref I)) (W.done s _ _ d λa h=>?_);exact wpAny_pure (q a (h.mono l) (x.at λo e=>h.heap S _ B e))
 |succ k M=>
  intro i s O C d x q;have p:i<n:=by lia
  refine codeAny_builtin PyProof.Rows.F.entry_set_update_loop ?_;rw[Around.under_plainId PyProof.Rows.F.plain_set_update_loop _];refine wpAny_bind (m:=pyNext (.ref I)) (W.item i s _ _ p d λv a N u h=>?_);obtain⟨r,y⟩:=Q i v N;refine wpAny_bind (m:=holding [v] (setAdd S v)) (wpAny_holding ?_);unfold setAdd;refine wpAny_holding (wpAny_bind (knd.pyHash r ?_));have g:(met f i).length+1<scanBound:=by
   have:=Bl f n C;lia
  refine Q4 (s:={a with toks:=a.toks+1}) r y (x.at λo e=>h.heap S _ B e) g λU D H=>?_;refine wpAny_pure (plainId_quiet PyProof.Rows.F.plain_set_update_loop _,M (i+1) _ ⋯ p (W.frame _ a _ _ u (ahd _) λc j o e=>?_) H λJ L E=>?_)
  ·rw[D.2 c (λz:c=S=>t (z ▸ j))];exact e
  ·refine q J (Moved.trans W.gtrans ((h.mono l).then_heap (ahd _) λc o j e=>?_) L) E;rw[D.2 c (λz:c=S=>j (by rw[z];exact .head _))];exact e
theorem T4(b:Bool){a:Addr}(e:base.get? a=some {cls:=.type "set",dict:=none,data:=.set #[] 0 (.fresh 0 0 b)}):jH b knd base a []:=
 (_,#[],0,_,[],e,(7,7,7),7,5,7,(7,.nil),7,.nil,λp c=>by cases c)
end
section
variable{w:World}{K:Type}[DecidableEq K]{knd:KeyKind prog w K}
def dR(w:World):Bool:=!w.params.followText "set-order"
abbrev newS(w:World):Obj:={cls:=.type "set",dict:=none,data:=.set #[] 0 (.fresh 0 0 (dR w))}
theorem J7(x:Value){Q:Value->Shared->Prop}(h:Q (.ref s.heap.objs.size) {s with heap:=s.heap.push (newS w)}):
  codeAny (model prog w) A (.call (.builtin "set.__new__") ([.type "set",x],[])) (wants Q E) s:=by
 refine codeAny_of_tree ?_
 refine wpAny_bind (m:=checkBuiltinCall "set.__new__" ([.type "set",x],[])) (wpAny_of_eq (PySem.F.newCall_set_1 x) (wpAny_pure (plainId_quiet PySem.F.plain_set_new _,codeAny_builtin PySem.F.entry_set_new ?_)))
 rw[Around.under_plainId PySem.F.plain_set_new _];unfold Builtin.«set.__new__» Builtin.Frozenset.newClass;have a:=PySem.sub_set_self;obtain⟨e,g,d,b,c⟩:=s;dsimp only
 wp_walk
 refine wpAny_askSetting (wpAny_pure ?_);dsimp only;simp only[newObj];refine wpAny_bind (wpAny_alloc (wpAny_pure ?_));exact wpAny_pure h
set_option maxRecDepth 100000 in
set_option maxHeartbeats 3200000 in
theorem yf{l:Addr}{f:Nat->K}{Q:Value->Shared->Prop}(hh:A.handled=none)(hl:s.heap.IsList l G)(hf:∀i v,G[i]?=some v->knd.is (f i) v=true/\v.scannable=true)(hb:(met f G.size).length+1<scanBound)
  (h:∀(a:Heap) (tk:Nat),jH (dR w) knd a s.heap.objs.size (met f G.size)->(∀c o,c<s.heap.objs.size->s.heap.get? c=some o->a.get? c=some o)->Q (.ref s.heap.objs.size) {s with heap:=a,toks:=tk}):
  wpAny (model prog w) A (call (.type "set") [.ref l]) Q E s:=by
 obtain⟨c,tl,U⟩:=PySem.F.called_set.mro;have I:=PySem.F.called_set.made;have T:=PySem.F.called_set.sub
 refine wpAny_call (codeAny_of_tree (show wpAny _ _ (callAny (.type "set") _) _ _ _ from ?_))
 refine wpAny_pure (Code.quiet_builtin _ (by decide +kernel),codeAny_builtin PySem.F.entry_type_call ?_)
 rw[Around.under_plain (weight_type_call_type "set" [.ref l] []) rfl]
 have n1:=PySem.F.called_set.notType;have n2:=PySem.F.called_set.canCreate;have n3:=PySem.F.typeCall_set_1 (.ref l)
 repeat (any_goals (first|assumption|wp_step))
 refine codeAny_mono (J7 (.ref l) (E:=E) (Q:=λM L=>M=.ref s.heap.objs.size/\L={s with heap:=s.heap.push (newS w)}) (7,7)) λr L x=>?_;cases r with
 |error e=>exact x
 |ok fl=>
  cases fl with
  |ret M=>
   obtain⟨rfl,rfl⟩:=x;have P:(s.heap.push (newS w)).get? s.heap.objs.size=some (newS w):=Heap.get?_push_size _ rfl
   have hT:Shared.TypeIs {s with heap:=s.heap.push (newS w)} (.ref s.heap.objs.size) "set":=(_,P,7)
   have i1:=PySem.F.called_set.init.lookup;have i2:=PySem.F.called_set.init.bind (.ref s.heap.objs.size)
   repeat (any_goals (first|assumption|wp_step))
   refine codeAny_mono (codeAny_call_builtin (R:=wants (λr J=>r=.none /\ ∃a tk,J={s with heap:=a,toks:=tk}/\jH (dR w) knd a s.heap.objs.size (met f G.size)/\(∀c o,c<s.heap.objs.size->s.heap.get? c=some o->a.get? c=some o)) E)
    PySem.F.called_set.init.plain PySem.F.entry_set_init (check_set_init_1 hT ?_)) λY J g=>?_
   ·obtain⟨Z,k,q,N,p⟩:=hl;obtain⟨S,j,H,d⟩:=Z;simp only at q p;subst q;subst p
    have e1:(s.heap.push (newS w)).get? l=some {cls:=.type "list",dict:=j,data:=.seq G N,slots:=d}:=Heap.get?_push_of_some _ k
    have q1:=PySem.F.sub_list_set;have q2:=PySem.F.sub_list_frozenset
    have q3:(Value.type "list" == Value.type "dict")=false:=by decide
    have n:(s.heap.push (newS w)).IsList l G:=(_,e1,7,N,7);unfold Builtin.«set.__init__» noKeywords Builtin.Frozenset.updateFrom;generalize C:pyIter=PI
    wp_walk
    subst C;refine wpAny_pyIter_list n (wpAny_bind (wpAny_runValue ?_));have m:l<s.heap.objs.size:=Heap.lt_size k;have u:(s.heap.push (newS w)).objs.size=s.heap.objs.size+1:=Heap.size_push ..;have h3:A.in1.in1.in1.handled=none:=by simp[hh]
    have n4:l≠(s.heap.push (newS w)).objs.size:=by rw[u];exact ae2 (ag3 m)
    have n5:s.heap.objs.size∉[(s.heap.push (newS w)).objs.size,l]:=λz=>by
     rcases aat.mp z with z|z
     ·exact absurd (z.trans u) (ae2 (agM _))
     ·exact absurd (aao.mp z).symm (ae2 m)
    refine Uu (b:=dR w) (knd:=knd) ((Walks.list h3 _ l n4 G).toS) s.heap.objs.size n5 f hf hb (G.size-0) 0 _ ⋯ (aaH _) ((_,Heap.get?_push_size _ rfl,7,7),n.push _) (T4 (dR w) (Heap.get?_push_of_some _ P)) λX t V=>?_;obtain⟨a,g1,d1,y,B⟩:=X;have eg:g1=s.gens:=t.gens;have ed:d1=s.drawn:=t.drawn;have eo:B=s.os:=t.os;subst eg;subst ed;subst eo;refine wpAny_pure (show wpAny _ _ (ret Value.none) _ _ _ from wpAny_pure (7,a,y,7,V,λc o O e=>?_));refine t.heap c o (λz=>?_) (Heap.get?_push_of_some _ (Heap.get?_push_of_some _ e));rcases aat.mp z with z|z
    ·exact absurd z (ae2 O)
    ·exact absurd ((aao.mp z).trans u) (ae2 (ag3 O))
   ·cases Y with
    |error e=>exact g
    |ok D=>
     cases D with
     |ret r=>
      obtain⟨rfl,a,tk,rfl,W,k1⟩:=g
      repeat (any_goals (first|assumption|wp_step))
      exact h _ _ W k1
     |_=>exact g.elim
  |_=>exact x.elim
end
theorem gH:Slot "set_iterator" "__next__" "set_iterator.__next__":=
 Slot.of (id := "set_iterator.__next__") (owner := "set_iterator") (n := "__next__") (by rw[typeLookup_type,builtinLookup_eq_fast];kernel_rfl) (by decide +kernel) (by decide +kernel) (by decide +kernel) (by first|exact .inl (by decide +kernel) | exact .inr (by decide +kernel)) (by rw[isSubtype_type];kernel_rfl)
theorem ir:entryFor table "set_iterator.__next__" = some Builtin.«set_iterator.__next__»:=entryFor_of_fast (by kernel_rfl)
theorem iR(x:Value):argsOk "set_iterator.__next__" ([x],[]):=by unfold argsOk;kernel_rfl
theorem HY:Slot "set_iterator" "__iter__" "set_iterator.__iter__":=
 Slot.of (id := "set_iterator.__iter__") (owner := "set_iterator") (n := "__iter__") (by rw[typeLookup_type,builtinLookup_eq_fast];kernel_rfl) (by decide +kernel) (by decide +kernel) (by decide +kernel) (by first|exact .inl (by decide +kernel) | exact .inr (by decide +kernel)) (by rw[isSubtype_type];kernel_rfl)
theorem xH:entryFor table "set_iterator.__iter__" = some Builtin.«dict_keyiterator.__iter__»:=entryFor_alias (id' := "dict_keyiterator.__iter__") (by kernel_rfl) rfl (by decide +kernel) (by kernel_rfl)
theorem Ab(x:Value):argsOk "set_iterator.__iter__" ([x],[]):=by unfold argsOk;kernel_rfl
theorem v9:entryFor table "set.__iter__" = some Builtin.«frozenset.__iter__»:=entryFor_alias (id' := "frozenset.__iter__") (by kernel_rfl) rfl (by decide +kernel) (by kernel_rfl)
section
variable{w:World}
abbrev Xd(first:Value)(i:Int)(a:Value)(n b:Nat):Obj:={cls:=.type "set_iterator",data:=.fields #[first,.int i 0,a,.int n 0,.int b 0]}
structure di(h:Heap)(S:Addr)(o:Obj)(es:Array (Int×Value))(ep:Nat)(t:SetTable):Prop where
 get:h.get? S=some o
 dat:o.data=.set es ep t
 fit:t.fits es.size=true
theorem HR{o:Obj}{es:Array (Int×Value)}{nx i:Nat}{t:SetTable}{x:Value}{Q:Option Value->Shared->Prop}(b:s.heap.get? a=some (Xd (.int y 0) i (.ref f) es.size d))(c:di s.heap f o es d t)
  (e:∀(A':Around) (j:Option (Value×Nat)->Shared->Prop) (n:Value->Shared->Prop),j (some (pq x nx)) s->wpAny (model prog w) A' (setNext f y i d) j n s)
  (k:∀h',h'.get? a=some (Xd (.int nx 0) (i+1:Nat) (.ref f) es.size d)->Heap.SameBut a s.heap h'->Q (some x) {s with heap:=h'}):wpAny (model prog w) A (pyNext (.ref a)) Q E s:=by
 have g:s.TypeIs (.ref a) "set_iterator":=(_,b,7)
 unfold pyNext
 refine wpAny_bind (wpAny_attempt (wpAny_callSpecial?_slot (name:=Str.ofString "__next__") g gH (wpAny_call_entry gH g ir ?_ (iR _))))
 unfold Builtin.«set_iterator.__next__»
 refine wpAny_bind (m:=slotArgs "__next__" 0 _) (wpAny_pure ?_)
 refine wpAny_bind (wpAny_fieldsOf b rfl ?_);dsimp only;refine wpAny_bind (wpAny_setEntries_of c.get c.dat c.fit ?_);rw[if_neg (by simp)];rw[aav,aav,aav];refine wpAny_bind (e _ _ _ ?_);dsimp only;refine wpAny_bind (wpAny_setField b rfl (by simp) ?_);have h:(s.heap.update a (Obj.mapFields (·.setIfInBounds 0 (rawInt nx)))).get? a=some (Xd (.int nx 0) i (.ref f) es.size d):=Heap.get?_update_self _ b rfl;refine wpAny_bind (wpAny_setField (s:={s with heap:=s.heap.update a (Obj.mapFields (·.setIfInBounds 0 (rawInt nx)))}) h rfl (by simp) ?_);have l:((s.heap.update a (Obj.mapFields (·.setIfInBounds 0 (rawInt nx)))).update a (Obj.mapFields (·.setIfInBounds 1 (rawInt ((i:Int)+1))))).get? a=some (Xd (.int nx 0) (i+1:Nat) (.ref f) es.size d):=Heap.get?_update_self _ h rfl;exact wpAny_pure (x,7,wpAny_pure (k _ l ((Heap.SameBut.update ..).trans (Heap.SameBut.update ..))))
theorem next_end{o:Obj}{es:Array (Int×Value)}{i:Nat}{t:SetTable}{Q:Option Value->Shared->Prop}(k:A.handled=none)(c:s.heap.get? a=some (Xd (.int y 0) i (.ref f) es.size d))(e:di s.heap f o es d t)
  (g:∀(A':Around) (j:Option (Value×Nat)->Shared->Prop) (n:Value->Shared->Prop),j none s->wpAny (model prog w) A' (setNext f y i d) j n s)
  (l:∀h',Heap.ExtBut a s.heap h'->Q none {s with heap:=h'}):wpAny (model prog w) A (pyNext (.ref a)) Q E s:=by
 have h:s.TypeIs (.ref a) "set_iterator":=(_,c,7)
 unfold pyNext
 refine wpAny_bind (wpAny_attempt (wpAny_callSpecial?_slot (name:=Str.ofString "__next__") h gH (wpAny_call_entry gH h ir ?_ (iR _))))
 unfold Builtin.«set_iterator.__next__»
 refine wpAny_bind (m:=slotArgs "__next__" 0 _) (wpAny_pure ?_)
 refine wpAny_bind (wpAny_fieldsOf c rfl ?_);dsimp only;refine wpAny_bind (wpAny_setEntries_of e.get e.dat e.fit ?_);rw[if_neg (by simp),aav,aav,aav];refine wpAny_bind (g _ _ _ ?_);dsimp only;refine wpAny_bind (wpAny_setField c rfl (by simp) ?_)
 refine wpAny_bind (m:=newExc (.type "StopIteration") []) ?_
 simp only[newExc,newTuple];refine wpAny_bind (wpAny_newObj_type ?_ (by size_fits));refine wpAny_bind (m:=firstArgMember _ _) (wpAny_of_eq (a:=Value.none) (by first|rfl | (simp only[firstArgMember];rfl)) ?_);refine wpAny_newObj_type ?_ (by size_fits);simp only[raiseNew];refine wpAny_bind (wpAny_handled ?_);rw[show A.in1.handled=none from k];refine wpAny_bind (wpAny_pure (wpAny_throw ?_))
 refine wpAny_bind (wpAny_isInstance (T := "StopIteration") (b:=true) (_,Heap.get?_push_size _ rfl,7) isSubtype_stop ?_)
 exact wpAny_pure (l _ (((Heap.SameBut.update ..).extBut.push _).push _))
end
theorem pF{b:Type}:∀{l:List b}{i:Nat}{x:b},l[i]?=some x->agh (x::l.eraseIdx i) l
 |[],i,x,h=>by simp at h
 |a::l,0,x,h=>by
  cases h;exact .rfl
 |a::l,i+1,x,h=>by
  rw[List.eraseIdx_cons_succ];exact(List.Perm.swap a x _).trans ((pF (by simpa using h)).cons a)
theorem HW{c:Type}(nx:Nat->Nat):∀(a k:Nat) (left:List c) (out:Array c),left.length=a->agh (pickOrder.go nx a k left out).toList (out.toList++left)
 |0,k,left,out,h=>by
  have:left=[]:=ahT h;subst this;unfold pickOrder.go;simp
 |a+1,k,left,out,h=>by
  have b:nx k%left.length<left.length:=ajA _ ⋯;have e:=aac b;unfold pickOrder.go;rw[e];refine(HW nx a (k+1) _ _ (by rw[ah6 b];lia)).trans ?_;rw[agD,aay];exact(pF e).append_left _
theorem rW(nx:Nat->Nat)(xs:Array I):agh (pickOrder nx xs).toList xs.toList:=by
 have:=HW nx xs.size 0 xs.toList #[] (by simp);rw[ah0]at this;exact this
section
variable{w:World}{o:Obj}{es:Array (Int×Value)}{ep:Nat}{t:SetTable}
theorem oK{Q:Bool->Shared->Prop}(h:Q (!dR w) s):wpAny (model prog w) A setsByText Q E s:=by
 unfold setsByText;refine wpAny_bind (wpAny_askSetting (wpAny_pure ?_));unfold dR at h;rw[ajq]at h;exact h
theorem BJ(a:di s.heap S o es ep t)(ht:dR w=false){i:Nat}{Q:Option (Value×Nat)->Shared->Prop}(h:Q (((pickOrder (w.params.setOrder S ep) es)[i]?).map λe=>(pq e.2 d)) s):wpAny (model prog w) A (setNext S d i ep) Q E s:=by
 unfold setNext;refine wpAny_bind (wpAny_setState_of a.get a.dat a.fit ?_);dsimp only;refine wpAny_bind (oK ?_);rw[ht];simp only[ajb,if_true,bne_self_eq_false,agw,if_false];refine wpAny_bind ?_;unfold setWalk;refine wpAny_bind (wpAny_setState_of a.get a.dat a.fit ?_);dsimp only;refine wpAny_bind (oK ?_);rw[ht];simp only[ajb,if_true];refine wpAny_bind (wpAny_askSetting (wpAny_pure (wpAny_pure h)))
theorem yK(a:di s.heap S o es ep t)(ht:dR w=true)(c:t.led=true)(b:¬((!t.plain&&decide (es.size > 1))=true)){i:Nat}{Q:Option (Value×Nat)->Shared->Prop}
  (h:Q (match es[SetTable.below t.place d]?,t.place[SetTable.below t.place d]? with|some (_,x),some j=>some (pq x (j+1)) | _,_=>none) s):wpAny (model prog w) A (setNext S d i ep) Q E s:=by
 unfold setNext;refine wpAny_bind (wpAny_setState_of a.get a.dat a.fit ?_);dsimp only;refine wpAny_bind (oK ?_);rw[ht];simp only[ajj,agw,if_false];split
 ·rename_i e;exact absurd e b
 refine wpAny_bind (show wpAny _ _ (if (!t.led && !es.isEmpty)=true then unsupported "set:maker-not-led" else pure PUnit.unit) _ _ _ from ?_)
 rw[c,ajj,aja,if_neg afD];exact wpAny_pure (wpAny_pure h)
theorem Ku(a:di s.heap S o es ep t){k:Nat}{e:Int×Value}(b:es[k]?=some e){Q:Value->Shared->Prop}(h:Q e.2 s):wpAny (model prog w) A (setNextDrawn S k ep) Q E s:=by
 unfold setNextDrawn;refine wpAny_bind (wpAny_setState_of a.get a.dat a.fit ?_);dsimp only;rw[bne_self_eq_false,if_neg afD,b];exact wpAny_pure h
theorem Ha{c:Type}:∀(n:Nat) (xs:List c) (s:Shared) {Q:List c->Shared->Prop},xs.length=n->(∀l d,agh l xs->Q l {s with drawn:=d})->wpAny (model prog w) A (drawOrder n xs) Q E s
 |0,xs,s,Q,a,h=>by
  have:xs=[]:=ahT a;subst this;unfold drawOrder;have:=h [] s.drawn .rfl;exact wpAny_pure this
 |n+1,[],s,Q,a,h=>by simp at a
 |n+1,x::xs,s,Q,a,h=>by
  unfold drawOrder;refine wpAny_bind ?_;intro Γ p hΓ;rw[show (choose Source.order (x::xs).length:Sem Nat)=Sem.choose .order (x::xs).length pure from rfl,Sem.wp_choose];refine(by simp,1);generalize (model prog w).w.draws Source.order (s.drawn.get Source.order)=v;have b:v%(x::xs).length<(x::xs).length:=ajA _ (by simp);have e:=aac b
  show wpAny (model prog w) A (match (x::xs)[v%(x::xs).length]? with|some y=>(do return y::(<-drawOrder n ((x::xs).eraseIdx (v%(x::xs).length)))) | none=>unsupported "internal:drawOrder") Q E {s with drawn:=s.drawn.bump Source.order}
  rw[e];refine wpAny_bind (Ha n _ _ (by rw[ah6 b];simp at a ⊢;lia) λl d p=>wpAny_pure (h _ d ((p.cons _).trans (pF e))))
end
section
variable{w:World}{o:Obj}{es:Array (Int×Value)}{ep:Nat}{t:SetTable}
theorem Oq(a:di s.heap S o es ep t)(g:o.cls=.type "set")(h:es.size<scanBound){Q:Value->Shared->Prop}
  (k:¬((dR w&&(!t.plain&&decide (es.size > 1)))=true)->Q (.ref s.heap.objs.size) {s with heap:=s.heap.push (Xd (.int 0 0) 0 (.ref S) es.size ep)})
  (j:(dR w&&(!t.plain&&decide (es.size > 1)))=true -> ∀(l:List Nat) d,agh l (abS es.size)->Q (.ref (s.heap.objs.size+1)) {s with heap:=(s.heap.push {cls:=.type "tuple",data:=.seq (l.map λi:Nat=>rawInt i).toArray 0}).push (Xd (.ref s.heap.objs.size) 0 (.ref S) es.size ep),drawn:=d}):
  wpAny (model prog w) A (pyIter (.ref S)) Q E s:=by
 have f:s.TypeIs (.ref S) "set":=(_,a.get,g)
 refine wpAny_pyIter_slot f PySem.F.slot_set_iter (wpAny_call_entry PySem.F.slot_set_iter f v9 ?_ (PySem.F.args_set_iter_1 _));unfold Builtin.«frozenset.__iter__»
 refine wpAny_bind (m:=Builtin.Frozenset.slot0 "__iter__" _) (wpAny_pure ?_)
 refine wpAny_bind (m:=Builtin.Frozenset.sizeOf S) (wpAny_bind (wpAny_setEntries_of a.get a.dat a.fit (wpAny_pure ?_)));refine wpAny_bind (m:=setDrawn S) ?_;unfold setDrawn;refine wpAny_bind (wpAny_setState_of a.get a.dat a.fit ?_);dsimp only;refine wpAny_bind (oK (wpAny_pure ?_));rw[ajq];split
 ·rename_i b;refine wpAny_bind (Ha _ _ _ aaG λl d c=>?_);refine wpAny_bind (wpAny_newTuple ?_ (by rw[aaa,c.length_eq,aaG];exact fits_of_scanBound h));refine wpAny_bind (wpAny_setEpoch_of (Heap.get?_push_of_some _ a.get) a.dat a.fit ?_)
  refine wpAny_bind (wpAny_newObj_type (wpAny_pure (9,"set_iterator",_,(_,Heap.get?_push_size _ rfl,7),gH.lookup,1)))
  have e:(s.heap.push {cls:=.type "tuple",data:=.seq (l.map λi:Nat=>rawInt i).toArray 0}).objs.size=s.heap.objs.size+1:=Heap.size_push ..
  have q:=j b l d c;rw[<-e]at q;exact q
 ·rename_i b;refine wpAny_bind (wpAny_pure ?_);refine wpAny_bind (wpAny_setEpoch_of a.get a.dat a.fit ?_)
  refine wpAny_bind (wpAny_newObj_type (wpAny_pure (9,"set_iterator",_,(_,Heap.get?_push_size _ rfl,7),gH.lookup,1)))
  exact k b
abbrev tpO(l:List Nat):Obj:={cls:=.type "tuple",data:=.seq (l.map λi:Nat=>rawInt i).toArray 0}
theorem Ni{T:Addr}{i k:Nat}{l:List Nat}{e:Int×Value}{Q:Option Value->Shared->Prop}(b:s.heap.get? a=some (Xd (.ref T) i (.ref S) es.size ep))(d:s.heap.get? T=some (tpO l))(c:di s.heap S o es ep t)(g:l[i]?=some k)(h:es[k]?=some e)
  (j:∀h',h'.get? a=some (Xd (.ref T) (i+1:Nat) (.ref S) es.size ep)->Heap.SameBut a s.heap h'->Q (some e.2) {s with heap:=h'}):wpAny (model prog w) A (pyNext (.ref a)) Q E s:=by
 have f:s.TypeIs (.ref a) "set_iterator":=(_,b,7)
 unfold pyNext
 refine wpAny_bind (wpAny_attempt (wpAny_callSpecial?_slot (name:=Str.ofString "__next__") f gH (wpAny_call_entry gH f ir ?_ (iR _))))
 unfold Builtin.«set_iterator.__next__»
 refine wpAny_bind (m:=slotArgs "__next__" 0 _) (wpAny_pure ?_)
 refine wpAny_bind (wpAny_fieldsOf b rfl ?_);dsimp only;refine wpAny_bind (wpAny_setEntries_of c.get c.dat c.fit ?_);rw[if_neg (by simp)];refine wpAny_bind (wpAny_seqItems d rfl ?_);have n:(l.map λi:Nat=>rawInt i).toArray[(i:Int).toNat]?=some (rawInt k):=by
  rw[aav,aiu,aak,g];rfl
 dsimp only;rw[n];dsimp only [rawInt];rw[aav,aav];refine wpAny_bind (Ku c h ?_);refine wpAny_bind (wpAny_setField b rfl (by simp) ?_);exact wpAny_pure (9,wpAny_pure (j _ (Heap.get?_update_self _ b rfl) (Heap.SameBut.update ..)))
theorem JS{T:Addr}{i:Nat}{l:List Nat}{Q:Option Value->Shared->Prop}(h:A.handled=none)(c:s.heap.get? a=some (Xd (.ref T) i (.ref S) es.size ep))(e:s.heap.get? T=some (tpO l))(d:di s.heap S o es ep t)(g:l[i]?=none)
  (j:∀h',Heap.ExtBut a s.heap h'->Q none {s with heap:=h'}):wpAny (model prog w) A (pyNext (.ref a)) Q E s:=by
 have f:s.TypeIs (.ref a) "set_iterator":=(_,c,7)
 unfold pyNext
 refine wpAny_bind (wpAny_attempt (wpAny_callSpecial?_slot (name:=Str.ofString "__next__") f gH (wpAny_call_entry gH f ir ?_ (iR _))))
 unfold Builtin.«set_iterator.__next__»
 refine wpAny_bind (m:=slotArgs "__next__" 0 _) (wpAny_pure ?_)
 refine wpAny_bind (wpAny_fieldsOf c rfl ?_);dsimp only;refine wpAny_bind (wpAny_setEntries_of d.get d.dat d.fit ?_);rw[if_neg (by simp)];refine wpAny_bind (wpAny_seqItems e rfl ?_);have n:(l.map λi:Nat=>rawInt i).toArray[(i:Int).toNat]?=none:=by
  rw[aav,aiu,aak,g];rfl
 dsimp only;rw[n];dsimp only;refine wpAny_bind (wpAny_setField c rfl (by simp) ?_);have k:(s.heap.update a (Obj.mapFields (·.setIfInBounds 0 (rawInt 0)))).get? a=some (Xd (.int 0 0) i (.ref S) es.size ep):=Heap.get?_update_self _ c rfl;refine wpAny_bind (wpAny_setField (s:={s with heap:=s.heap.update a (Obj.mapFields (·.setIfInBounds 0 (rawInt 0)))}) k rfl (by simp) ?_)
 refine wpAny_bind (m:=newExc (.type "StopIteration") []) ?_
 simp only[newExc,newTuple];refine wpAny_bind (wpAny_newObj_type ?_ (by size_fits));refine wpAny_bind (m:=firstArgMember _ _) (wpAny_of_eq (a:=Value.none) (by first|rfl | (simp only[firstArgMember];rfl)) ?_);refine wpAny_newObj_type ?_ (by size_fits);simp only[raiseNew];refine wpAny_bind (wpAny_handled ?_);rw[show A.in1.handled=none from h];refine wpAny_bind (wpAny_pure (wpAny_throw ?_))
 refine wpAny_bind (wpAny_isInstance (T := "StopIteration") (b:=true) (_,Heap.get?_push_size _ rfl,7) isSubtype_stop ?_)
 exact wpAny_pure (j _ ((((Heap.SameBut.update ..).trans (Heap.SameBut.update ..)).extBut.push _).push _))
end
section
variable{w:World}{it:Addr}{o:Obj}{es:Array (Int×Value)}{ep:Nat}{t:SetTable}
theorem qU(a:s.TypeIs (.ref it) "set_iterator"){Q:Value->Shared->Prop}(h:Q (.ref it) s):wpAny (model prog w) A (pyIter (.ref it)) Q E s:=by
 refine wpAny_pyIter_slot a HY (wpAny_call_entry HY a xH ?_ (Ab _));show wpAny _ _ (ret (.ref it)) _ _ s
 exact wpAny_pure (9,"set_iterator",_,a,gH.lookup,h)
theorem di.at{h':Heap}(a:di base S o es ep t)(e:∀o,base.get? S=some o->h'.get? S=some o):di h' S o es ep t:=(e _ a.get,a.dat,a.fit)
abbrev vD(ps:List (Int×Value))(i:Nat)(v:Value):Prop:=∃e,ps[i]?=some e/\v=e.2
theorem Ko(p:A.handled=none)(ht:dR w=false)(k:S≠it):
  Walks prog w A it [it,S] [it] es.size (vD (pickOrder (w.params.setOrder S ep) es).toList) (λi h=>h.get? it=some (Xd (.int 0 0) i (.ref S) es.size ep)/\di h S o es ep t) where
 sub:=λb c=>by simp at c;simp[c]
 frame:=λ_ _ _ a m=>(m it (by simp) _ a.1,a.2.at λo e=>m S (by simp) o e)
 item:=λi s Q E n a d=>by
  have g:(pickOrder (w.params.setOrder S ep) es).size=es.size:=by
   have:=(rW (w.params.setOrder S ep) es).length_eq;simpa using this
  obtain⟨e,f⟩:∃e,(pickOrder (w.params.setOrder S ep) es)[i]?=some e:=((pickOrder (w.params.setOrder S ep) es)[i]'(by omega),by simp[g,n]);refine HR a.1 a.2 (x:=e.2) (nx:=0) (λv r u h=>BJ a.2 ht (by rw[f];exact h)) λj q l=>?_;exact d e.2 j s.toks (e,by rw[afP];exact f,7) (q,a.2.at λo e=>l.extBut S o k e) λb o c e=>l.extBut b o (λh=>c (by simp[h])) e
 done:=λs Q E a d=>by
  have g:(pickOrder (w.params.setOrder S ep) es).size=es.size:=by
   have:=(rW (w.params.setOrder S ep) es).length_eq;simpa using this
  refine next_end p a.1 a.2 (λv r u h=>BJ a.2 ht (by rw[show (pickOrder (w.params.setOrder S ep) es)[es.size]?=none by simp[g]];exact h)) λj f=>?_;exact d j s.toks λb o c e=>f b o (λh=>c (by simp[h])) e
 self:=λ_ _ _ _ a d=>qU (_,a.1,7) d
def slotAt(t:SetTable):Nat->Nat
 |0=>0
 |i+1=>t.place.getD i 0+1
theorem uW(h:t.place.toList.Pairwise (· < ·)){i:Nat}(d:i<=t.place.size):SetTable.below t.place (slotAt t i)=i:=by
 obtain⟨k,g,f⟩:=De h (slotAt t i);generalize SetTable.below t.place (slotAt t i)=b at k g f;rcases ahN b i with c|c|c
 ·exfalso
  match i,d,c,g,f with
  |i+1,d,c,g,f=>
   have a:=f b ⋯ (aae _);have e:slotAt t (i+1)=t.place[i]'(by omega)+1:=by simp[slotAt,aiU,show i<t.place.size by omega]
   rw[e]at a;rcases afF b i with j|j
   ·have:=qP h j (show i<t.place.size by lia);lia
   ·have:b=i:=by lia
    subst this;lia
 ·exact c
 ·exfalso;have a:=g i ⋯ c
  match i,d,c,a with
  |0,d,c,a=>exact absurd a (agp _)
  |i+1,d,c,a=>
   have e:slotAt t (i+1)=t.place[i]'(by omega)+1:=by simp[slotAt,aiU,show i<t.place.size by omega]
   rw[e]at a;have:=qP h (show i<i+1 by lia) (show i+1<t.place.size by lia);lia
theorem GR(v:A.handled=none)(ht:dR w=true)(j:gO true t)(f:t.fits es.size=true)(n:¬((!t.plain&&decide (es.size > 1))=true))(l:S≠it):
  Walks prog w A it [it,S] [it] es.size (vD es.toList) (λi h=>h.get? it=some (Xd (.int (slotAt t i) 0) i (.ref S) es.size ep)/\di h S o es ep t) where
 sub:=λb c=>by simp at c;simp[c]
 frame:=λ_ _ _ a q=>(q it (by simp) _ a.1,a.2.at λo e=>q S (by simp) o e)
 item:=λi s Q E r a d=>by
  have p:t.place.size=es.size:=by
   simp[SetTable.fits]at f;exact f.1
  have g:es[i]?=some es[i]:=by simp[r]
  have u:t.place[i]?=some (t.place[i]'(by omega)):=by simp[p,r]
  have e:slotAt t (i+1)=t.place[i]'(by omega)+1:=by simp[slotAt,aiU,show i<t.place.size by omega]
  refine HR a.1 a.2 (x:=es[i].2) (nx:=slotAt t (i+1)) (λC z B h=>yK a.2 ht j.1 n (by rw[uW j.2 ⋯,g,u];rw[e]at h;exact h)) λk y m=>?_;exact d es[i].2 k s.toks (es[i],by rw[afP];exact g,7) (y,a.2.at λo e=>m.extBut S o l e) λb o c e=>m.extBut b o (λh=>c (by simp[h])) e
 done:=λs Q E a d=>by
  have p:t.place.size=es.size:=by
   simp[SetTable.fits]at f;exact f.1
  refine next_end v a.1 a.2 (λC z B h=>yK a.2 ht j.1 n (by rw[uW j.2 ⋯,show es[es.size]?=none by simp];exact h)) λk g=>?_;exact d k s.toks λb o c e=>g b o (λh=>c (by simp[h])) e
 self:=λ_ _ _ _ a d=>qU (_,a.1,7) d
theorem Gj{T:Addr}{l:List Nat}(I:A.handled=none)(n:agh l (abS es.size))(u:S≠it)(z:T≠it):
  Walks prog w A it [it,S,T] [it] es.size (vD (l.filterMap λk=>es[k]?)) (λi h=>h.get? it=some (Xd (.ref T) i (.ref S) es.size ep)/\di h S o es ep t/\h.get? T=some (tpO l)) where
 sub:=λb j=>by simp at j;simp[j]
 frame:=λ_ _ _ c d=>(d it (by simp) _ c.1,c.2.1.at λo e=>d S (by simp) o e,d T (by simp) _ c.2.2)
 item:=λi s Q E H c m=>by
  have f:l.length=es.size:=by rw[n.length_eq,aaG]
  have d:l[i]?=some (l[i]'(by omega)):=by simp[f,H]
  have v:l[i]'(by omega)<es.size:=af5.mp (n.mem_iff.mp (afL _));have p:es[l[i]'(by omega)]?=some (es[l[i]'(by omega)]):=by simp[v]
  have F:(l.filterMap λk=>es[k]?)[i]?=some (es[l[i]'(by omega)]):=by
   have G:∀g:List Nat,(∀k∈g,k<es.size)->(g.filterMap λk=>es[k]?).map some=g.map λk=>es[k]?:=by
    intro g
    induction g with
    |nil=>intro _;rfl
    |cons a g D=>
     intro h;have C:es[a]?=some (es[a]'(h a aan)):=by simp[h a aan]
     rw[agR,C,aax,aax,D λk d=>h k (aaj _ d),C]
   have:=congrArg (λx=>x[i]?) (G l λk d=>af5.mp (n.mem_iff.mp d));simp only[aak,d,ahp,p]at this;cases B:(l.filterMap λk=>es[k]?)[i]? with
   |none=>rw[B]at this;cases this
   |some y=>rw[B]at this;injection this
  refine Ni c.1 c.2.2 c.2.1 d p λr J q=>?_;exact m _ r s.toks (_,F,7) (J,c.2.1.at λo e=>q.extBut S o u e,q.extBut T _ z c.2.2) λb o j e=>q.extBut b o (λh=>j (by simp[h])) e
 done:=λs Q E c m=>by
  have f:l.length=es.size:=by rw[n.length_eq,aaG]
  refine JS I c.1 c.2.2 c.2.1 (by simp[f]) λr p=>?_;exact m r s.toks λb o j e=>p b o (λh=>j (by simp[h])) e
 self:=λ_ _ _ _ c m=>qU (_,c.1,7) m
theorem xU(es:Array (Int×Value)):((abS es.size).filterMap λk=>es[k]?)=es.toList:=by
 apply af7;intro i;have c:∀n,n<=es.size->((abS n).filterMap λk=>es[k]?)=es.toList.take n:=by
  intro n
  induction n with
  |zero=>intro _;simp
  |succ n b=>
   intro h;have a:es[n]?=some (es[n]'(by omega)):=by simp[show n<es.size by omega]
   rw[afU,List.filterMap_append,b ⋯,agR,a,List.filterMap_nil,aed,afP,a];rfl
 rw[c es.size (aae _)];rw[aal (by simp)]
theorem Il(i:A.handled=none)(g:di s.heap S o es ep t)(n:o.cls=.type "set")(a:es.size<scanBound)(m:gO (dR w) t){Q:Value->Shared->Prop}
  (h:∀(I:Addr) (h':Heap) d fp ps St,agh ps es.toList->Walks prog w A I fp [I] es.size (vD ps) St->St 0 h'->(∀b o,s.heap.get? b=some o->h'.get? b=some o)->s.heap.objs.size<=I->(∀b∈fp,b=S\/s.heap.objs.size<=b)->Q (.ref I) {s with heap:=h',drawn:=d}):
  wpAny (model prog w) A (pyIter (.ref S)) Q E s:=by
 have f:S<s.heap.objs.size:=Heap.lt_size g.get;refine Oq g n a (λc=>?_) λc l d j=>?_
 ·cases ht:dR w with
  |false=>
   refine h s.heap.objs.size _ s.drawn _ _ _ (rW _ _) (Ko (o:=o) (t:=t) i ht (ae2 f)) (Heap.get?_push_size _ rfl,g.at λo e=>Heap.get?_push_of_some _ e) (λb o e=>Heap.get?_push_of_some _ e) (aae _) ?_;intro b a;simp at a;rcases a with rfl|rfl
   ·exact .inr (aae _)
   ·exact .inl rfl
  |true=>
   rw[ht]at m c;rw[aim]at c;refine h s.heap.objs.size _ s.drawn _ _ _ .rfl (GR (o:=o) (t:=t) i ht m g.fit c (ae2 f)) (Heap.get?_push_size _ rfl,g.at λo e=>Heap.get?_push_of_some _ e) (λb o e=>Heap.get?_push_of_some _ e) (aae _) ?_;intro b a;simp at a;rcases a with rfl|rfl
   ·exact .inr (aae _)
   ·exact .inl rfl
 ·have p:(s.heap.push (tpO l)).objs.size=s.heap.objs.size+1:=Heap.size_push ..;refine h (s.heap.objs.size+1) _ d _ _ _ ?_ (Gj (o:=o) (t:=t) (T:=s.heap.objs.size) i j (ae2 (ag3 f)) (ae2 (agM _))) (1,g.at λo e=>Heap.get?_push_of_some _ (Heap.get?_push_of_some _ e),Heap.get?_push_of_some _ (Heap.get?_push_size _ rfl)) (λb o e=>Heap.get?_push_of_some _ (Heap.get?_push_of_some _ e)) (ahd _) ?_
  ·have:=j.filterMap λk=>es[k]?;rw[xU]at this;exact this
  ·rw[<-p];exact Heap.get?_push_size _ rfl
  ·intro b a;simp at a;rcases a with rfl|rfl|rfl
   ·exact .inr (ahd _)
   ·exact .inl rfl
   ·exact .inr (aae _)
end
section
variable{w:World}{o:Obj}{es:Array (Int×Value)}{ep:Nat}{t:SetTable}
theorem Oj{Q:Bool->Shared->Prop}(a:s.TypeIs (.ref S) "set")(h:Q false s):wpAny (model prog w) A (Builtin.List.listLengthHint (.ref S)) Q E s:=by
 unfold Builtin.List.listLengthHint;refine wpAny_bind (wpAny_specialOf a PySem.F.slot_set_len.lookup ?_)
 generalize d:("set.__len__" : String)=i0
 wp_delta
 rw[show splitId i0=some (pq ("set") ("__len__")) by subst d;decide +kernel]
 subst d
 refine wpAny_bind (wpAny_isInstance (T := "set") (b:=true) a (by rw[isSubtype_type];kernel_rfl) ?_)
 refine wpAny_ite_split (λc=>absurd c ∅) λ_=>wpAny_ite_split (λ_=>?_) λc=>absurd (by decide +kernel) c;exact wpAny_bind (wpAny_typeOf a (wpAny_pure h))
theorem Ep{s s':Shared}(m:Moved l (λa b=>b=a) s s'):s'={s with heap:=s'.heap,toks:=s'.toks}:=by
 obtain⟨h,j,n,d,f⟩:=s';obtain⟨i,k,p,e,g⟩:=s;have a:=m.gens;have b:=m.drawn;have c:=m.os;dsimp only at a b c;subst a;subst b;subst c;rfl
theorem tX{Q:List Value->Shared->Prop}(X:A.handled=none)(D:di s.heap S o es ep t)(B:o.cls=.type "set")(i:es.size<scanBound)(Y:gO (dR w) t)
  (h:∀(c:Array Value) (h':Heap) d tk ps,agh ps es.toList->ItemsOf (vD ps) c es.size->s.heap.objs.size<h'.objs.size->(∀b o,s.heap.get? b=some o->h'.get? b=some o)->Q c.toList {s with heap:=h',drawn:=d,toks:=tk}):
  wpAny (model prog w) A (collect (.ref S)) Q E s:=by
 have J:=Heap.lt_size D.get
 have a0:s.TypeIs (.ref S) "set":=(_,D.get,B)
 have H:es.size<=sizeLine:=fits_of_scanBound i;unfold collect;refine wpAny_bind (wpAny_runValue (codeAny_builtin PySem.F.entry_proto_collect ?_));rw[Around.under_plainId PySem.F.plain_proto_collect _];refine wpAny_bind (m:=newList []) (wpAny_newObj_type (wpAny_pure (plainId_quiet PySem.F.plain_list_iadd _,codeAny_builtin PySem.F.entry_list_iadd ?_)));rw[Around.under_plainId PySem.F.plain_list_iadd _]
 show wpAny _ A.in1 (Builtin.List.listExtendWith (.ref s.heap.objs.size) (.ref S) (.ref s.heap.objs.size)) _ _ {s with heap:=s.heap.push (seqObj "list" #[] 0)}
 generalize k:s.heap.objs.size=L at *
 have g:∀b o,s.heap.get? b=some o->(s.heap.push (seqObj "list" #[] 0)).get? b=some o:=λb o e=>Heap.get?_push_of_some _ e
 have N:(s.heap.push (seqObj "list" #[] 0)).get? L=some (seqObj "list" #[] 0):=by
  rw[<-k];exact Heap.get?_push_size _ rfl
 have a:(s.heap.push (seqObj "list" #[] 0)).objs.size=L+1:=by rw[<-k];exact Heap.size_push ..
 generalize s.heap.push (seqObj "list" #[] 0)=G at *
 have j:di G S o es ep t:=D.at λo e=>g _ _ e;have p:L≠S:=λe=>absurd J (by rw[e];exact agg _)
 have x:Shared.TypeIs {s with heap:=G} (.ref S) "set":=(_,j.get,B)
 unfold Builtin.List.listExtendWith;refine wpAny_bind (wpAny_typeOf x ?_);rw[if_neg (by simp[Builtin.List.listSameRef,p])];refine wpAny_bind (Il (s:={s with heap:=G}) (by simp[X]) j B i Y λI l d Z ps St V W T C R K=>?_)
 have r:l.get? L=some (seqObj "list" #[] 0):=C _ _ N
 have v:Shared.TypeIs {s with heap:=l,drawn:=d} (.ref S) "set":=(_,C _ _ j.get,B)
 refine wpAny_bind (wpAny_holding (Oj v ?_));rw[if_pos ∅];refine wpAny_bind (wpAny_rule (wpAny_bind ?_));have a1:L≠I:=λe=>by
  have:L+1<=I:=a ▸ R;lia
 have n:L∉Z:=λz=>by
  rcases K _ z with z|z
  ·exact p z
  ·rw[a]at z;lia
 show wpAny _ _ (updateSeq L (·.push .none) >>= λ_=>updateSeq L (·.pop)) _ _ _;refine wpAny_bind (wpAny_updateSeq r rfl ?_);have q:=Heap.get?_update_self (Obj.mapSeq (·.push Value.none)) r rfl;refine wpAny_updateSeq (hz:=by seq_fits) q rfl ?_;have M:=Heap.get?_update_self (Obj.mapSeq (·.pop)) q rfl;have f:∀b o,b≠L->l.get? b=some o->((l.update L (Obj.mapSeq (·.push Value.none))).update L (Obj.mapSeq (·.pop))).get? b=some o:=λb o i e=>(Heap.get?_update_other _ _ (agB i)).trans ((Heap.get?_update_other _ _ (agB i)).trans e);generalize ((l.update L (Obj.mapSeq (·.push Value.none))).update L (Obj.mapSeq (·.pop)))=h2 at *;refine wpAny_pure (plainId_quiet PySem.F.plain_extend_loop _,codeAny_extend_loopS W.toS H L n _ es.size 0 _ #[] _ rfl (aaH _) (W.frame 0 _ _ T λb i o e=>f b o (λz=>n (z ▸ i)) e) M (ItemsOf.nil _) λU c c' P u y=>?_);rw[Ep P];refine wpAny_bind (wpAny_load u (wpAny_pure ?_));refine h c U.heap d _ ps V y (Heap.lt_size u) λb o e=>P.heap b o (λz=>?_) (f b o ?_ (C _ _ (g _ _ e)))
 ·have:=Heap.lt_size e;rcases aat.mp z with z|z
  ·rw[z,k]at this;exact agg _ this
  ·rw[aao.mp z,k]at this;have O:L+1<=I:=by rw[<-a];exact R
   exact absurd (aau (agM L) O) (Nat.lt_asymm this)
 ·intro z;have:=Heap.lt_size e;rw[z,k]at this;exact agg _ this
end
section
variable{w:World}
theorem J5{es:Array (Int×Value)}{l:List (Int×(Int×Value))}(o:mD (intKind prog w) es.toList c l){ps:List (Int×Value)}(d:agh ps es.toList)(f:ItemsOf (vD ps) G es.size):∃ns,IntsAre G.toList ns/\agh ns c:=by
 obtain⟨g,a⟩:=o.perm d;have j:ps.length=es.size:=by rw[d.length_eq,aag]
 have h:G.toList=ps.map (·.2):=by
  apply af7;intro i;rw[aak];cases k:G.toList[i]? with
  |none=>
   have:G.toList.length<=i:=aid.mp k;rw[aag,f.1,<-j]at this;rw[aaU this];rfl
  |some v=>
   obtain⟨e,u,r⟩:=f.2 i v (by rw[<-afP];exact k);rw[u,r];rfl
 refine(g.map (·.1),1,a.fst);rw[h,<-a.snd];have b:=a.is
 clear a h j f d
 induction g with
 |nil=>exact .nil
 |cons p g m=>
  obtain⟨t,ht⟩:=Value.isInt_shape (b p aan).1;rw[aax,aax,aax,ht];exact .cons _ t (m λq n=>b q (aaj _ n))
end
end Tw
namespace L2
open PySem.Spec PyProof.Rows Tw
theorem Inv.drawnTo(I:Inv X π σ H s)(d:Drawn):Inv X π σ H {s with drawn:=d}:=
 I.step (g':=s.gens) (t':=s.toks) (d':=d) (ch:=[]) (λ_ z=>nomatch z) (λ_ _ _ _ _ e _=>e) (λb o _ _ _ e _=>(o.slots,e)) (λ_ _ _ _ n=>n) (λb o _ e=>(o,e)) (λ_ _ e=>e) (λ_ _ _ e=>e) (λb a e=>(#[],by rw[e];simp)) (λ_ h=>h) I.hok I.bare
def R6(P:Program)(w:World)(a:Addr)(b:List Int):HO:=.ext λh=>jH (dR w) (intKind P w) h a b
theorem Q5{P:Program}{w:World}{a:Addr}(e:jH (dR w) (intKind P w) base a c):b7 P w H base a (R6 P w a c):=by
 refine(e,1,λ_ _ p k=>p.at k);obtain⟨o,_,_,_,_,b,_⟩:=e;exact(o,b)
theorem Kh(E:X.calm=true):eE X (.type "set") (λxs H Q=>∃(p:Addr) (ns:List Int),xs=[.ref p]/\My X.K H p ‹ns›/\(met (λi=>ns.getD i 0) ns.length).length+1<scanBound /\
  ∀l j o,H l=none->j=met (λi=>ns.getD i 0) ns.length->o=R6 X.prog X.w l j->Q (.ref l) (upd H l o)):=by
 intro π s σ H xs L Q I r h;obtain⟨p,ns,rfl,C,F,q⟩:=h;obtain⟨u,rfl,y⟩:=vals1 r;cases y;obtain⟨a,z,A,M⟩:=I.list C;have k:=intsAre_of z;have d:=k.length;have c:a.toArray.size=ns.length:=by simpa using d
 refine yf (knd:=intKind X.prog X.w) (f:=λi=>ns.getD i 0) (I.ok.hd E) A.isList (λi v e=>?_) (by rw[c];exact F) λN x m D=>?_
 ·have J:a[i]?=some v:=by simpa using e
  have:∀{g:List Value}{ns:List Int},IntsAre g ns -> ∀(i:Nat) v,g[i]?=some v->Value.isInt (ns.getD i 0) v=true/\v.scannable=true:=by
   intro g ns G
   induction G with
   |nil=>intro i v e;simp at e
   |cons n t _ B=>
    intro i v e;cases i with
    |zero=>
     simp at e;subst e;exact(by simp[Value.isInt],7)
    |succ i=>exact B i v (by simpa using e)
  exact this k i v J
 ·rw[c]at m;exact(.ref s.heap.objs.size,_,I.laid (t':=x) (λb o e=>D b o (Heap.lt_size e) e) (aae _) (Q5 m),7,q _ _ _ (I.hok.fresh (aae _)) rfl rfl)
end L2
namespace Tw
open PyProof.Rows
structure TB(a₀:Array Keyed)(pd:Array (Nat×Nat×Nat))(st:SortSt):Prop where
 perm:(arrOf st).Perm a₀
 kind:kindOf st=oneType'
 failed:failedOf st=none
 pend:pendingOf st=pd
theorem TB.size{a₀:Array Keyed}{st:SortSt}(h:TB a₀ Z st):(arrOf st).size=a₀.size:=h.perm.size_eq
theorem TB.set{a₀:Array Keyed}{st:SortSt}(h:TB a₀ Z st){xs:Array Keyed}(a:xs.Perm (arrOf st)):TB a₀ Z (setArr st xs):=(a.trans h.perm,h.kind,h.failed,h.pend)
def WX(κ:KeyKind)(xs:Array Keyed)(lo n:Nat):Prop:=∀i j,i<=j->j<n->κ.kle (KK κ xs (lo+i)) (KK κ xs (lo+j))
def Xe(κ:KeyKind)(xs:Array Keyed)(lo n:Nat):Prop:=∀i j,i<=j->j<n->κ.kle (KK κ xs (lo+j)) (KK κ xs (lo+i))
def Wx(lo:Nat)(xs ys:Array Keyed):Prop:=∀k:Nat,k<lo->ys[k]?=xs[k]?
theorem Wx.refl(lo:Nat)(xs:Array Keyed):Wx lo xs xs:=λ_ _=>rfl
theorem Wx.trans{lo:Nat}{xs ys zs:Array Keyed}(h:Wx lo xs ys)(g:Wx lo ys zs):Wx lo xs zs:=λk a=>(g k a).trans (h k a)
theorem ji{lo i j:Nat}{xs:Array Keyed}(a:j<=xs.size)(c:lo<=i):Wx lo xs (mirror xs i j ((j-i) / 2)):=λk b=>by
 rw[getElem?_mirror_all a,if_neg ⋯]
theorem WX.one(κ:KeyKind)(xs:Array Keyed)(lo:Nat):WX κ xs lo 1:=λi j a b=>by
 have:i=j:=by lia
 subst this;exact KeyOrd.kle_refl _
theorem WX.more{κ:KeyKind}{xs:Array Keyed}{lo x:Nat}(h:WX κ xs lo x)(g:1<=x)(e:κ.blt (KK κ xs (lo+x)) (KK κ xs (lo+x-1))=false):WX κ xs lo (x+1):=λi j c f=>by
 by_cases a:j<x
 ·exact h i j c a
 have b:j=x:=by lia
 subst b;by_cases d:i=j
 ·subst d;exact KeyOrd.kle_refl _
 refine KeyOrd.kle_trans (h i (j-1) ⋯ ⋯) ?_;rw[show lo+(j-1)=lo+j-1 by lia];exact e
theorem Xe.more{κ:KeyKind}{xs:Array Keyed}{lo x:Nat}(h:Xe κ xs lo x)(g:1<=x)(e:κ.kle (KK κ xs (lo+x)) (KK κ xs (lo+x-1))):Xe κ xs lo (x+1):=λi j c f=>by
 by_cases a:j<x
 ·exact h i j c a
 have b:j=x:=by lia
 subst b;by_cases d:i=j
 ·subst d;exact KeyOrd.kle_refl _
 have q:=h i (j-1) ⋯ ⋯;rw[show lo+(j-1)=lo+j-1 by lia]at q;exact KeyOrd.kle_trans e q
theorem Xe.turn{κ:KeyKind}{xs:Array Keyed}{lo n:Nat}(h:Xe κ xs lo n)(a:lo+n<=xs.size):WX κ (mirror xs lo (lo+n) ((lo+n-lo) / 2)) lo n:=λi j b c=>by
 rw[KK_mirror a,KK_mirror a,if_pos ⋯,if_pos ⋯];have q:=h (n-1-j) (n-1-i) ⋯ ⋯;rw[show lo+(lo+n)-1-(lo+i)=lo+(n-1-i) by lia,show lo+(lo+n)-1-(lo+j)=lo+(n-1-j) by lia];exact q
theorem Xe.keys{κ:KeyKind}{xs ys:Array Keyed}{lo n:Nat}(h:Xe κ xs lo n)(e:∀k,KK κ ys k=KK κ xs k):Xe κ ys lo n:=λi j a b=>by
 rw[e,e];exact h i j a b
section
variable{w:World}{a₀:Array Keyed}{κ:KeyKind}{pd:Array (Nat×Nat×Nat)}
theorem TB.atK{st:SortSt}(h:TB a₀ pd st)(g:KeysOf κ a₀){i:Nat}(f:i<a₀.size):∃x p a,(arrOf st)[i]?=some (pq x p)/\κ.keyOf x=some a/\KK κ (arrOf st) i=a:=by
 have b:i<(arrOf st).size:=by rw[h.size];exact f
 have d:(arrOf st)[i]∈a₀.toList:=(agU.mp h.perm).mem_iff.mp (afM _);obtain⟨a,c⟩:=g _ d;have e:(arrOf st)[i]?=some (pq ((arrOf st)[i].1) ((arrOf st)[i].2)):=getElem?_pos _ i b;exact(_,_,a,e,c,by unfold KK;rw[e];simp[c])
theorem qK{st:SortSt}{i j:Nat}{Q:Option Bool->SortSt->Prop}(hO:κ.OneLt)(c:TB a₀ pd st)(d:KeysOf κ a₀)(k:i<a₀.size)(g:j<a₀.size)
  (h:Q (some (κ.blt (KK κ (arrOf st) i) (KK κ (arrOf st) j))) st):wpS (model prog w) A E s (ltAt' i j) Q st:=by
 obtain⟨x,p,a,o,m,f⟩:=c.atK d k;obtain⟨y,q,b,n,l,e⟩:=c.atK d g;rw[f,e]at h;exact wpS_ltAtK hO c.kind o n m l h
theorem Bc{st:SortSt}{lo :Nat}{Q:Option Nat->SortSt->Prop}(hO:κ.OneLt)(h0:KeysOf κ a₀)(R:TB a₀ pd st)(hn:lo+d<=a₀.size)(h1:1<=d)
  (h:∀m e,TB a₀ pd e->Wx lo (arrOf st) (arrOf e)->1<=m->m<=d->WX κ (arrOf e) lo m->Q (some m) e):wpS (model prog w) A E s (countRun' lo d) Q st:=by
 have a0:∀(a:Nat) (f:SortSt),TB a₀ pd f->1<=a->a<=d->WX κ (arrOf f) lo a -> ∀(G:Option (Option Nat)×Nat->SortSt->Prop),
   (∀n,a<=n->n<=d->WX κ (arrOf f) lo n->(n=d\/κ.klt (KK κ (arrOf f) (lo+n)) (KK κ (arrOf f) (lo+n-1)))->G (pq none n) f) ->
   wpS (model prog w) A E s (forIn [a:d] ((pq none a):Option (Option Nat)×Nat) λ_ r=>do
    let x <-ltAt' (lo+r.2) (lo+r.2-1)
    match x with
    |some b=>if b=true then pure (ForInStep.done (pq none r.2))else pure (ForInStep.yield (pq none (r.2+1)))
    |_=>pure (ForInStep.done (pq (some none) r.2))) G f:=by
  intro a f V b6 b1 U G P;refine wpS_forRange (I:=λx c e=>e=f/\c=(pq none x)/\WX κ (arrOf f) lo x) ?_ ?_ (7,7,U)
  ·rintro x c e T a3 ⟨rfl,rfl,C⟩;refine wpS_bind (qK hO V h0 ⋯ ⋯ ?_);cases W:κ.blt (KK κ (arrOf e) (lo+x)) (KK κ (arrOf e) (lo+x-1))
   ·exact wpS_pure (7,7,C.more ⋯ W)
   ·exact wpS_pure (P x T ⋯ C (.inr W))
  ·rintro c e ⟨rfl,rfl,C⟩;rw[show max a d=d by lia]at C ⊢;exact P d b1 (aae _) C (.inl rfl)
 have B:∀{i j:Nat}{f:SortSt}{G:Unit->SortSt->Prop},G () (setArr f (mirror (arrOf f) i j ((j-i) / 2)))->wpS (model prog w) A E s (reverseSlice' i j) G f:=λP=>by
  rw[reverseSlice'_eq];exact wpS_modify P
 have M:∀(n:Nat) (f:SortSt) (k:Option (Option Nat)×Nat->StateT SortSt Sem (Option Nat)),(∀m,k (pq none m)=pure (some m))->TB a₀ pd f->Wx lo (arrOf st) (arrOf f)->1<=n->n<=d->Xe κ (arrOf f) lo n ->
   wpS (model prog w) A E s (reverseSlice' lo (lo+n) >>= λ_=>(forIn [n:d] ((pq none n):Option (Option Nat)×Nat) λ_ r=>do
     let x <-ltAt' (lo+r.2) (lo+r.2-1)
     match x with
     |some b=>if b=true then pure (ForInStep.done (pq none r.2))else pure (ForInStep.yield (pq none (r.2+1)))
     |_=>pure (ForInStep.done (pq (some none) r.2))) >>= k) Q f:=by
  intro n f k hk V hL K J hd;have p:lo+n<=(arrOf f).size:=by rw[V.size];lia
  refine wpS_bind (B ?_);have L:TB a₀ pd (setArr f (mirror (arrOf f) lo (lo+n) ((lo+n-lo) / 2))):=V.set (mirror_perm _ _ _ _);refine wpS_bind (a0 n _ L K J (hd.turn p) _ λm X v a4 _=>?_);rw[hk];exact wpS_pure (h m _ L (hL.trans (ji p (aae _))) ⋯ v a4)
 have O:∀(N:Nat) (f:SortSt),TB a₀ pd f->Wx lo (arrOf st) (arrOf f)->1<=N->N<=d->Xe κ (arrOf f) lo N -> ∀(G:Option (Option Nat)×Nat×Nat->SortSt->Prop),
   (∀m q e,TB a₀ pd e->Wx lo (arrOf st) (arrOf e)->N<=m->m<=d->Xe κ (arrOf e) lo m->q+1<=m->(∀i,lo+m-(q+1)<=i->i<lo+m->KK κ (arrOf e) i=KK κ (arrOf e) (lo+m-1))->G (pq none (pq m q)) e) ->
   wpS (model prog w) A E s (forIn [N:d] ((pq none (pq N 0)):Option (Option Nat)×Nat×Nat) λ_ r=>ltAt' (lo+r.2.1) (lo+r.2.1-1) >>= λx=>match x with
    |some b=>if b=true then (if r.2.2 > 0 then (reverseSlice' (lo+r.2.1-(r.2.2+1)) (lo+r.2.1) >>= λ_=>pure (ForInStep.yield (pq none (pq (r.2.1+1) 0))))else pure (ForInStep.yield (pq none (pq (r.2.1+1) 0))))
     else (ltAt' (lo+r.2.1-1) (lo+r.2.1) >>= λy=>match y with
      |some b=>if b=true then pure (ForInStep.done (pq none (pq r.2.1 r.2.2)))else pure (ForInStep.yield (pq none (pq (r.2.1+1) (r.2.2+1))))
      |_=>pure (ForInStep.done (pq (some none) (pq r.2.1 r.2.2))))
    |_=>pure (ForInStep.done (pq (some none) (pq r.2.1 r.2.2)))) G f:=by
  intro N f V hL b5 D hd G P;refine wpS_forRange (I:=λx c e=>∃q,c=(pq none (pq x q))/\TB a₀ pd e/\Wx lo (arrOf st) (arrOf e)/\Xe κ (arrOf e) lo x/\q+1<=x /\ ∀i,lo+x-(q+1)<=i->i<lo+x->KK κ (arrOf e) i=KK κ (arrOf e) (lo+x-1)) ?_ ?_ (0,7,V,hL,hd,6,λi a b=>by congr 1;lia)
  ·rintro x c e T a3 ⟨q,rfl,g,o,l,H,F⟩;have p:lo+x<=(arrOf e).size:=by rw[g.size];lia
   dsimp only;refine wpS_bind (qK hO g h0 ⋯ ⋯ ?_);cases W:κ.blt (KK κ (arrOf e) (lo+x)) (KK κ (arrOf e) (lo+x-1))
   ·refine wpS_bind (qK hO g h0 ⋯ ⋯ ?_);cases hg:κ.blt (KK κ (arrOf e) (lo+x-1)) (KK κ (arrOf e) (lo+x))
    ·have eq:KK κ (arrOf e) (lo+x)=KK κ (arrOf e) (lo+x-1):=κ.total _ _ W hg;refine wpS_pure (q+1,7,g,o,l.more ⋯ (by rw[eq];exact KeyOrd.kle_refl _),6,λi a b=>?_);rw[show lo+(x+1)-1=lo+x by lia,eq];by_cases hi:i=lo+x
     ·rw[hi,eq]
     ·exact F i ⋯ ⋯
    ·exact wpS_pure (P x q e g o T ⋯ l H F)
   ·have stp:∀ys:Array Keyed,(∀k,KK κ ys k=KK κ (arrOf e) k)->Xe κ ys lo (x+1):=λys hk=>(l.more ⋯ (KeyOrd.kle_of_klt W)).keys hk;show wpS _ _ _ _ (if q > 0 then _ else _) _ _;by_cases t:q > 0
    ·rw[if_pos t];refine wpS_bind (B (wpS_pure (0,7,g.set (mirror_perm _ _ _ _),o.trans (ji p ⋯),stp _ λk=>KK_mirror_equal p F k,6,λi a b=>by congr 1;lia)))
    ·rw[if_neg t];exact wpS_pure (0,7,g,o,stp _ λk=>rfl,6,λi a b=>by congr 1;lia)
  ·rintro c e ⟨q,rfl,g,o,l,H,F⟩;rw[show max N d=d by lia]at l H F ⊢;exact P d q e g o D (aae _) l H F
 rw[countRun'_eq];refine wpS_bind (a0 1 st R (aae _) h1 (WX.one κ _ lo) _ λn K J U a7=>?_);dsimp only;by_cases D:n=d
 ·rw[if_pos (by simpa using D)];exact wpS_pure (h n st R (Wx.refl _ _) K J U)
 rw[if_neg (by simpa using D)];have Y:=a7.resolve_left D;by_cases Z:n > 1
 ·rw[if_pos Z];refine wpS_bind (qK hO R h0 ⋯ ⋯ ?_);have p:lo+n<=(arrOf st).size:=by rw[R.size];lia
  cases a5:κ.blt (KK κ (arrOf st) lo) (KK κ (arrOf st) (lo+n-1))
  ·have z:∀k,lo<=k->k<lo+n->KK κ (arrOf st) k=KK κ (arrOf st) (lo+n-1):=λk b3 b2=>by
    have a1:=U 0 (k-lo) ⋯ ⋯;have a2:=U (k-lo) (n-1) ⋯ ⋯;rw[show lo+(k-lo)=k by lia]at a1 a2;rw[show lo+(n-1)=lo+n-1 by lia]at a2;exact KeyOrd.kle_antisymm a2 (KeyOrd.kle_trans a5 a1)
   refine wpS_bind (B (wpS_bind (wpS_lift (wpAny_rule (7,1)))));have L:TB a₀ pd (setArr st (mirror (arrOf st) lo (lo+n) ((lo+n-lo) / 2))):=R.set (mirror_perm _ _ _ _);refine wpS_bind (O (n+1) _ L (ji p (aae _)) ⋯ ⋯ ?_ _ λm q e g o X v l a6 F=>?_)
   ·refine Xe.keys (xs:=arrOf st) (λi j a9 hj=>?_) λk=>KK_mirror_equal p z k;by_cases b4:j<n
    ·rw[z (lo+i) ⋯ ⋯,z (lo+j) ⋯ ⋯];exact KeyOrd.kle_refl _
    have:j=n:=by lia
    subst this;by_cases S:i=j
    ·subst S;exact KeyOrd.kle_refl _
    rw[z (lo+i) ⋯ ⋯];exact KeyOrd.kle_of_klt Y
   ·have u:lo+m<=(arrOf e).size:=by rw[g.size];lia
    dsimp only;by_cases t:q > 0
    ·rw[if_pos t];exact wpS_bind (B (M m _ _ (λ_=>rfl) (g.set (mirror_perm _ _ _ _)) (o.trans (ji u ⋯)) ⋯ v (l.keys λk=>KK_mirror_equal u F k)))
    ·rw[if_neg t];exact M m _ _ (λ_=>rfl) g o ⋯ v l
  ·exact wpS_pure (h n st R (Wx.refl _ _) K J U)
 ·rw[if_neg Z];have:n=1:=by lia
  subst this;refine wpS_bind (wpS_lift (wpAny_rule (7,1)));refine wpS_bind (O (1+1) _ R (Wx.refl _ _) ⋯ ⋯ ?_ _ λm q e g o X v l a6 F=>?_)
  ·intro i j a9 hj;by_cases S:i=j
   ·subst S;exact KeyOrd.kle_refl _
   have b0:i=0:=by lia
   have a8:j=1:=by lia
   subst b0;subst a8;exact KeyOrd.kle_of_klt Y
  ·have u:lo+m<=(arrOf e).size:=by rw[g.size];lia
   dsimp only;by_cases t:q > 0
   ·rw[if_pos t];exact wpS_bind (B (M m _ _ (λ_=>rfl) (g.set (mirror_perm _ _ _ _)) (o.trans (ji u ⋯)) ⋯ v (l.keys λk=>KK_mirror_equal u F k)))
   ·rw[if_neg t];exact M m _ _ (λ_=>rfl) g o ⋯ v l
theorem xR{st:SortSt}{lo n :Nat}{Q:Bool->SortSt->Prop}(hO:κ.OneLt)(R:KeysOf κ a₀)(O:TB a₀ pd st)(X:lo+n<=a₀.size)(T:d<=n)(M:WX κ (arrOf st) lo d)
  (h:∀a,TB a₀ pd a->Wx lo (arrOf st) (arrOf a)->WX κ (arrOf a) lo n->Q true a):wpS (model prog w) A E s (binarySort' lo n d) Q st:=by
 rw[binarySort'_eq];refine wpS_bind (wpS_mono (wpS_forRange (I:=λk c a=>c=(pq none (()))/\TB a₀ pd a/\Wx lo (arrOf st) (arrOf a)/\WX κ (arrOf a) lo (min k n)) (Q:=λc a=>c=(pq none (()))/\TB a₀ pd a/\Wx lo (arrOf st) (arrOf a)/\WX κ (arrOf a) lo n) ?_ ?_ ?_) ?_)
 ·rintro k c a W V ⟨rfl,f,o,e⟩;rw[show min k n=k by lia]at e;have y:lo+k<a₀.size:=by lia
  refine wpS_bind (wpS_mono (wpS_forRange (I:=λx c b=>b=a /\ ∃l r,c=(pq none (pq l r))/\l<=r/\r<=k/\r-l<=k-x/\(∀i,i<l->κ.kle (KK κ (arrOf a) (lo+i)) (KK κ (arrOf a) (lo+k))) /\ ∀i,r<=i->i<k->κ.klt (KK κ (arrOf a) (lo+k)) (KK κ (arrOf a) (lo+i)))
   (Q:=λc b=>b=a /\ ∃l r,c=(pq none (pq l r))/\l<=k/\(∀i,i<l->κ.kle (KK κ (arrOf a) (lo+i)) (KK κ (arrOf a) (lo+k))) /\ ∀i,l<=i->i<k->κ.klt (KK κ (arrOf a) (lo+k)) (KK κ (arrOf a) (lo+i))) ?_ ?_ ?_) ?_)
  ·rintro x c b _ S ⟨rfl,l,r,rfl,z,p,N,g,m⟩;dsimp only;by_cases v:l >= r
   ·rw[if_pos v];have:l=r:=by lia
    subst this;exact wpS_pure (7,l,l,7,p,g,m)
   rw[if_neg v];refine wpS_bind (qK hO f R y ⋯ ?_);cases H:κ.blt (KK κ (arrOf b) (lo+k)) (KK κ (arrOf b) (lo+(l+r) / 2))
   ·refine wpS_pure (7,_,9,6,p,6,λi K=>?_,m);exact KeyOrd.kle_trans (e i ((l+r) / 2) ⋯ ⋯) H
   ·refine wpS_pure (7,_,9,6,6,6,g,λi hi1 hi2=>?_);exact KeyOrd.klt_of_klt_of_kle H (e ((l+r) / 2) i hi1 hi2)
  ·rintro c b ⟨rfl,l,r,rfl,z,p,N,g,m⟩;have:l=r:=by lia
   subst this;exact(7,l,l,7,p,g,m)
  ·exact(7,0,k,7,6,6,6,λi K=>by lia,λi P Y=>by lia)
  ·rintro c b ⟨rfl,l,r,rfl,U,g,m⟩;dsimp only;rw[moveDown'_eq];refine wpS_bind (wpS_modify (wpS_pure (7,f.set (bubble_perm _ _ _),o.trans λi K=>?_,λi j q J=>?_)))
   ·rw[getElem?_bubble (by rw[f.size];exact y) _ ⋯,if_neg ⋯,if_neg ⋯]
   have L:∀t,t<=k->KK κ (bubble (arrOf b) (lo+k) (lo+k-(lo+l))) (lo+t)=if t=l then KK κ (arrOf b) (lo+k)else if l<t then KK κ (arrOf b) (lo+(t-1))else KK κ (arrOf b) (lo+t):=λt ht=>by
    rw[KK_bubble (by rw[f.size];exact y) ⋯];by_cases C:t=l
    ·rw[if_pos ⋯,if_pos C]
    rw[if_neg ⋯,if_neg C];by_cases B:l<t
    ·rw[if_pos ⋯,if_pos B,show lo+t-1=lo+(t-1) by lia]
    ·rw[if_neg ⋯,if_neg B]
   rw[show min (k+1) n=k+1 by lia]at J;show κ.kle (KK κ (bubble (arrOf b) (lo+k) (lo+k-(lo+l))) (lo+i)) (KK κ (bubble (arrOf b) (lo+k) (lo+k-(lo+l))) (lo+j));rw[L i ⋯,L j ⋯];by_cases G:i=l
   ·rw[if_pos G];by_cases u:j=l
    ·rw[if_pos u];exact KeyOrd.kle_refl _
    rw[if_neg u,if_pos ⋯];exact KeyOrd.kle_of_klt (m (j-1) ⋯ ⋯)
   rw[if_neg G];by_cases F:l<i
   ·rw[if_pos F,if_neg (show ¬j=l by lia),if_pos (show l<j by lia)];exact e (i-1) (j-1) ⋯ ⋯
   rw[if_neg F];by_cases u:j=l
   ·rw[if_pos u];exact g i ⋯
   rw[if_neg u];by_cases D:l<j
   ·rw[if_pos D];exact e i (j-1) ⋯ ⋯
   rw[if_neg D];exact e i j q ⋯
 ·rintro c a ⟨rfl,f,o,e⟩;rw[show min (max (max d 1) n) n=n by lia]at e;exact(7,f,o,e)
 ·refine(7,O,Wx.refl _ _,λi j q J=>?_);by_cases P:d=0
  ·have:i=j:=by lia
   subst this;exact KeyOrd.kle_refl _
  ·exact M i j q ⋯
 ·rintro c a ⟨rfl,f,o,e⟩;exact wpS_pure (h a f o e)
end
def eF:Bool->Keyed->Array Keyed->Nat->Nat->Nat->StateT SortSt Sem (Option Nat):=sortPriv% PySem.Builtin.gallop
def R1(b:Nat->StateT SortSt Sem (Option Bool))(n hint:Nat):StateT SortSt Sem (Option Nat):=do
 let mut la:=0
 let mut u:=1
 let mut l:=0
 let mut h:=0
 let some r <-b hint|return none
 if r then
  let a:=n-hint
  for _ in [0:n] do
   if u >= a then break
   let some mo <-b (hint+u) | return none
   if !mo then break
   la:=u
   u:=2*u+1
  l:=hint+la+1
  h:=hint+min u a
 else
  let a:=hint+1
  for _ in [0:n] do
   if u >= a then break
   let some fo <-b (hint-u) | return none
   if fo then break
   la:=u
   u:=2*u+1
  l:=hint+1-min u a
  h:=hint-la
 for _ in [0:n] do
  if l >= h then break
  let m:=l+(h-l) / 2
  let some mo <-b m|return none
  if mo then l:=m+1 else h:=m
 return some h
def Hf(left:Bool)(a:Keyed)(b:Array Keyed)(base i:Nat):StateT SortSt Sem (Option Bool):=do
 let x <-elem' b (base+i)
 if left then lt' x a else return (<-lt' a x).map (!·)
theorem Eh(left:Bool)(a:Keyed)(b:Array Keyed)(base n hint:Nat):eF left a b base n hint=R1 (Hf left a b base) n hint:=rfl
section
variable{w:World}{κ:KeyKind}
theorem O8{L:Nat->StateT SortSt Sem (Option Bool)}{n hint:Nat}{st:SortSt}{Q:Option Nat->SortSt->Prop}(e:Nat->Bool)(S:hint<n)
  (J:∀i,i<n -> ∀(G:Option Bool->SortSt->Prop),G (some (e i)) st->wpS (model prog w) A E s (L i) G st)(g:∀i j,i<=j->j<n->e j=true->e i=true)
  (h:∀r,r<=n->(∀i,i<r->e i=true)->(∀i,r<=i->i<n->e i=false)->Q (some r) st):wpS (model prog w) A E s (R1 L n hint) Q st:=by
 have bin:∀(l u:Nat),l<=u->u<=n->(∀i,i<l->e i=true)->(∀i,u<=i->i<n->e i=false) -> ∀(G:Option (Option Nat)×Nat×Nat->SortSt->Prop),
   (∀r,r<=n->(∀i,i<r->e i=true)->(∀i,r<=i->i<n->e i=false)->G (pq none (pq r r)) st) ->
   wpS (model prog w) A E s (forIn [0:n] ((pq none (pq l u)):Option (Option Nat)×Nat×Nat) λ_ r=>if r.2.1 >= r.2.2 then pure (ForInStep.done (pq none (pq r.2.1 r.2.2)))else L (r.2.1+(r.2.2-r.2.1) / 2) >>= λx=>match x with
    |some b=>if b=true then pure (ForInStep.yield (pq none (pq (r.2.1+(r.2.2-r.2.1) / 2+1) r.2.2)))else pure (ForInStep.yield (pq none (pq r.2.1 (r.2.1+(r.2.2-r.2.1) / 2))))
    |_=>pure (ForInStep.done (pq (some none) (pq r.2.1 r.2.2)))) G st:=by
  intro l u F m o p G y;refine wpS_forRange (I:=λx c a=>a=st /\ ∃l u,c=(pq none (pq l u))/\l<=u/\u<=n/\(u-l)+x<=n/\(∀i,i<l->e i=true) /\ ∀i,u<=i->i<n->e i=false) ?_ ?_ (7,l,u,7,F,m,6,o,p)
  ·rintro x c a _ O ⟨rfl,l,u,rfl,F,m,P,o,p⟩;dsimp only;by_cases f:l >= u
   ·rw[if_pos f];have:l=u:=by lia
    subst this;exact wpS_pure (y l m o p)
   rw[if_neg f];refine wpS_bind (J _ ⋯ _ ?_);cases z:e (l+(u-l) / 2)
   ·refine wpS_pure (7,l,9,6,6,6,o,λi hi1 hi2=>?_);cases B:e i
    ·rfl
    ·rw[g _ i hi1 hi2 B]at z;exact absurd z ∅
   ·exact wpS_pure (7,_,u,7,6,m,6,λi B=>g i _ ⋯ ⋯ z,p)
  ·rintro c a ⟨rfl,l,u,rfl,F,m,P,o,p⟩;have:l=u:=by lia
   subst this;exact y l m o p
 unfold R1;refine wpS_bind (J hint S _ ?_);have H:∀i j,i<=j->j<n->e i=false->e j=false:=λi j N R B=>by
  cases z:e j
  ·rfl
  ·rw[g i j N R z]at B;exact absurd B ∅
 cases z:e hint
 ·dsimp only;rw[if_neg ∅];refine wpS_bind (wpS_mono (wpS_forRange (I:=λx c a=>a=st /\ ∃d u,c=(pq none (pq d u))/\d<u/\x+1<=u/\d<=hint/\e (hint-d)=false) (Q:=λc a=>a=st /\ ∃d u,c=(pq none (pq d u))/\d<u/\d<=hint/\e (hint-d)=false/\(u >= hint+1\/e (hint-u)=true)) ?_ ?_ (7,0,(1),7,6,6,6,z)) ?_)
  ·rintro x c a _ O ⟨rfl,d,u,rfl,t,K,q,k⟩;dsimp only;by_cases f:u >= hint+1
   ·rw[if_pos f];exact wpS_pure (7,d,u,7,t,q,k,.inl f)
   rw[if_neg f];refine wpS_bind (J _ ⋯ _ ?_);cases y:e (hint-u)
   ·exact wpS_pure (7,u,9,6,6,6,y)
   ·exact wpS_pure (7,d,u,7,t,q,k,.inr y)
  ·rintro c a ⟨rfl,d,u,rfl,t,K,q,k⟩;exact(7,d,u,7,t,q,k,.inl ⋯)
  ·rintro c a ⟨rfl,d,u,rfl,t,q,k,v⟩;dsimp only;refine wpS_bind (bin _ _ ⋯ ⋯ (λi B=>?_) (λi hi1 hi2=>H _ i hi1 hi2 k) _ λr D C M=>wpS_pure (h r D C M));rcases v with v|v
   ·lia
   ·exact g i _ ⋯ ⋯ v
 ·dsimp only;rw[if_pos rfl];refine wpS_bind (wpS_mono (wpS_forRange (I:=λx c a=>a=st /\ ∃d u,c=(pq none (pq d u))/\d<u/\x+1<=u/\hint+d<n/\e (hint+d)=true) (Q:=λc a=>a=st /\ ∃d u,c=(pq none (pq d u))/\d<u/\hint+d<n/\e (hint+d)=true/\(u >= n-hint\/e (hint+u)=false)) ?_ ?_ (7,0,(1),7,6,6,6,z)) ?_)
  ·rintro x c a _ O ⟨rfl,d,u,rfl,t,K,q,k⟩;dsimp only;by_cases f:u >= n-hint
   ·rw[if_pos f];exact wpS_pure (7,d,u,7,t,q,k,.inl f)
   rw[if_neg f];refine wpS_bind (J _ ⋯ _ ?_);cases y:e (hint+u)
   ·exact wpS_pure (7,d,u,7,t,q,k,.inr y)
   ·exact wpS_pure (7,u,9,6,6,6,y)
  ·rintro c a ⟨rfl,d,u,rfl,t,K,q,k⟩;exact(7,d,u,7,t,q,k,.inl ⋯)
  ·rintro c a ⟨rfl,d,u,rfl,t,q,k,v⟩;dsimp only;refine wpS_bind (bin _ _ ⋯ ⋯ (λi B=>g i _ ⋯ ⋯ k) (λi hi1 hi2=>?_) _ λr D C M=>wpS_pure (h r D C M));rcases v with v|v
   ·lia
   ·rcases afF u (n-hint)with c|c
    ·exact H _ i ⋯ hi2 v
    ·lia
def ky(κ:KeyKind)(x:Keyed):κ.α:=(κ.keyOf x.1).getD κ.dflt
theorem Hn{st:SortSt}{x y:Keyed}{Q:Option Bool->SortSt->Prop}(hO:κ.OneLt)(g:kindOf st=oneType')(f:∃a,κ.keyOf x.1=some a)(e:∃a,κ.keyOf y.1=some a)
  (h:Q (some (κ.blt (ky κ x) (ky κ y))) st):wpS (model prog w) A E s (lt' x y) Q st:=by
 obtain⟨a,d⟩:=f;obtain⟨b,c⟩:=e;have j:ky κ x=a:=by unfold ky;rw[d];rfl
 have i:ky κ y=b:=by unfold ky;rw[c];rfl
 rw[j,i]at h;rw[lt'_eq];refine wpS_bind (wpS_get ?_);rw[g,keyLt'_oneType];exact wpS_bind (wpS_lift (wpAny_attempt (hO prog w A _ s _ _ a b d c (7,wpS_pure h))))
theorem cM{st:SortSt}{xs:Array Keyed}{i:Nat}{Q:Keyed->SortSt->Prop}(a:i<xs.size)(h:Q xs[i] st):wpS (model prog w) A E s (elem' xs i) Q st:=by
 rw[elem'_eq,getElem?_pos xs i a];exact wpS_pure h
def Sd(κ:KeyKind)(xs:Array Keyed)(lo a:Nat):Prop:=∀i j,lo<=i->i<=j->j<a->κ.kle (KK κ xs i) (KK κ xs j)
theorem cR{xs:Array Keyed}{i:Nat}(a:i<xs.size):KK κ xs i=ky κ xs[i]:=by
 unfold KK ky;rw[getElem?_pos xs i a]
theorem yX{st:SortSt}{left:Bool}{b:Keyed}{xs:Array Keyed}{base n hint:Nat}{Q:Option Nat->SortSt->Prop}(hO:κ.OneLt)(k:kindOf st=oneType')(p:KeysOf κ xs)(g:∃a,κ.keyOf b.1=some a)(m:Sd κ xs base (base+n))(t:base+n<=xs.size)(o:hint<n)
  (h:∀r,r<=n->(∀i,i<r->(if left then κ.blt (KK κ xs (base+i)) (ky κ b)else !κ.blt (ky κ b) (KK κ xs (base+i)))=true)->(∀i,r<=i->i<n->(if left then κ.blt (KK κ xs (base+i)) (ky κ b)else !κ.blt (ky κ b) (KK κ xs (base+i)))=false)->Q (some r) st):
  wpS (model prog w) A E s (eF left b xs base n hint) Q st:=by
 rw[Eh];have c:∀i (l:i<xs.size),∃a,κ.keyOf xs[i].1=some a:=λi l=>p _ (afM _);refine O8 (λi=>if left then κ.blt (KK κ xs (base+i)) (ky κ b)else !κ.blt (ky κ b) (KK κ xs (base+i))) o (λi l v f=>?_) (λi j q u d=>?_) h
 ·rw[cR ⋯]at f;unfold Hf;refine wpS_bind (cM ⋯ ?_);cases left
  ·rw[if_neg ∅];exact wpS_bind (Hn hO k g (c _ ⋯) (wpS_pure f))
  ·rw[if_pos rfl];exact Hn hO k (c _ ⋯) g f
 ·have e:=m (base+i) (base+j) ⋯ ⋯ ⋯;cases left
  ·have d:(!κ.blt (ky κ b) (KK κ xs (base+j)))=true:=d;show (!κ.blt (ky κ b) (KK κ xs (base+i)))=true;rw[ag0]at d ⊢;exact KeyOrd.kle_trans e d
  ·exact KeyOrd.klt_of_kle_of_klt e d
theorem j7{st:SortSt}{c:Keyed}{xs:Array Keyed}{base n hint:Nat}{Q:Option Nat->SortSt->Prop}(hO:κ.OneLt)(j:kindOf st=oneType')(m:KeysOf κ xs)(d:∃a,κ.keyOf c.1=some a)(e:Sd κ xs base (base+n))(g:base+n<=xs.size)(l:hint<n)
  (h:∀r,r<=n->(∀i,i<r->κ.kle (KK κ xs (base+i)) (ky κ c))->(∀i,r<=i->i<n->κ.klt (ky κ c) (KK κ xs (base+i)))->Q (some r) st):wpS (model prog w) A E s (eF false c xs base n hint) Q st:=by
 refine yX hO j m d e g l λr f p o=>h r f (λi k=>?_) λi a b=>?_
 ·have q:(!κ.blt (ky κ c) (KK κ xs (base+i)))=true:=p i k;rw[ag0]at q;exact q
 ·have q:(!κ.blt (ky κ c) (KK κ xs (base+i)))=false:=o i a b;rw[Bool.not_eq_false']at q;exact q
theorem nj{st:SortSt}{c:Keyed}{xs:Array Keyed}{base n hint:Nat}{Q:Option Nat->SortSt->Prop}(hO:κ.OneLt)(j:kindOf st=oneType')(m:KeysOf κ xs)(d:∃a,κ.keyOf c.1=some a)(e:Sd κ xs base (base+n))(g:base+n<=xs.size)(l:hint<n)
  (h:∀r,r<=n->(∀i,i<r->κ.klt (KK κ xs (base+i)) (ky κ c))->(∀i,r<=i->i<n->κ.kle (ky κ c) (KK κ xs (base+i)))->Q (some r) st):wpS (model prog w) A E s (eF true c xs base n hint) Q st:=
 yX hO j m d e g l λr f p o=>h r f (λi k=>p i k) λi a b=>o i a b
end
structure MI(le:Keyed->Keyed->Prop)(L O X Y:List Keyed):Prop where
 perm:agh (O++X++Y) L
 so:O.Pairwise le
 sx:X.Pairwise le
 sy:Y.Pairwise le
 ox:∀o∈O,∀x∈X,le o x
 oy:∀o∈O,∀y∈Y,le o y
theorem MI.left{d:Keyed->Keyed->Prop}{L O X e Y:List Keyed}(h:MI d L O (X++e) Y)(f:∀x∈X,∀y∈Y,d x y):MI d L (O++X) e Y:=by
 have s:=afW.mp h.sx;refine(by rw[aay O X e];exact h.perm,afW.mpr (h.so,s.1,λo a x c=>h.ox o a x (afQ _ c)),s.2.1,h.sy,λo a x c=>?_,λo a y b=>?_)
 ·rcases aas.mp a with a|a
  ·exact h.ox o a x (aap _ c)
  ·exact s.2.2 o a x c
 ·rcases aas.mp a with a|a
  ·exact h.oy o a y b
  ·exact f o a y b
theorem MI.right{d:Keyed->Keyed->Prop}{L O X Y e:List Keyed}(h:MI d L O X (Y++e))(f:∀y∈Y,∀x∈X,d y x):MI d L (O++Y) X e:=by
 have s:=afW.mp h.sy;refine(ai6 ?_ h.perm,afW.mpr (h.so,s.1,λo a y c=>h.oy o a y (afQ _ c)),h.sx,s.2.1,λo a x b=>?_,λo a y c=>?_)
 ·rw[aay O Y X,aay,aay O X,<-aay X,aay Y];refine aiv O ?_;rw[<-aay];exact(aiw).append_right e
 ·rcases aas.mp a with a|a
  ·exact h.ox o a x b
  ·exact f o a x b
 ·rcases aas.mp a with a|a
  ·exact h.oy o a y (aap _ c)
  ·exact s.2.2 o a y c
def Fin(a:Keyed->Keyed->Prop)(L r:List Keyed):Prop:=agh r L/\r.Pairwise a
theorem MI.xy{c:Keyed->Keyed->Prop}{L O X Y:List Keyed}(h:MI c L O X Y)(d:∀x∈X,∀y∈Y,c x y):Fin c L (O++X++Y):=by
 refine(h.perm,afW.mpr (afW.mpr (h.so,h.sx,h.ox),h.sy,λa b y e=>?_));rcases aas.mp b with b|b
 ·exact h.oy a b y e
 ·exact d a b y e
theorem MI.yx{c:Keyed->Keyed->Prop}{L O X Y:List Keyed}(h:MI c L O X Y)(d:∀y∈Y,∀x∈X,c y x):Fin c L (O++Y++X):=by
 refine(ai6 ?_ h.perm,afW.mpr (afW.mpr (h.so,h.sy,h.oy),h.sx,λa b x e=>?_))
 ·rw[aay,aay];exact aiv O aiw
 ·rcases aas.mp b with b|b
  ·exact h.ox a b x e
  ·exact d a b x e
def wk:Array Keyed->Array Keyed->StateT SortSt Sem (Array Keyed):=sortPriv% PySem.Builtin.mergeLo
def setG:Nat->StateT SortSt Sem Unit:=sortPriv% PySem.Builtin.setMinGallop
theorem QT(g:Nat):setG g=modify λst=>SortSt.mk' (kindOf st) (arrOf st) (pendingOf st) g (failedOf st):=rfl
def mlo(a b:Array Keyed):StateT SortSt Sem (Array Keyed):=do
 rule "list.sort.merge-lo"
 let t:=a.size+b.size
 let c (o:Array Keyed) (i j:Nat):=o++a.extract i a.size++b.extract j b.size
 let d (o:Array Keyed) (i j:Nat):=o++b.extract j b.size++a.extract i a.size
 let mut o:Array Keyed:=#[<-elem' b 0]
 let mut i:=0
 let mut j:=1
 if j==b.size then return c o i j
 if i+1==a.size then return d o i j
 let mut g:=gallopOf (<-get)
 for _ in [0:t] do
  let mut p:=0
  let mut q:=0
  for _ in [0:t] do
   let some v <-lt' (<-elem' b j) (<-elem' a i) | return c o i j
   if v then
    o:=o.push (<-elem' b j);j:=j+1;q:=q+1;p:=0
    if j==b.size then return c o i j
    if q >= g then break
   else
    o:=o.push (<-elem' a i);i:=i+1;p:=p+1;q:=0
    if i+1==a.size then return d o i j
    if p >= g then break
  rule "list.sort.gallop"
  g:=g+1
  for _ in [0:t] do
   if g > 1 then g:=g-1
   setG g
   let some k <-eF false (<-elem' b j) a i (a.size-i) 0|return c o i j
   p:=k
   if k > 0 then
    o:=o++a.extract i (i+k);i:=i+k
    if i+1==a.size then return d o i j
    if i==a.size then return c o i j
   o:=o.push (<-elem' b j);j:=j+1
   if j==b.size then return c o i j
   let some k <-eF true (<-elem' a i) b j (b.size-j) 0|return c o i j
   q:=k
   if k > 0 then
    o:=o++b.extract j (j+k);j:=j+k
    if j==b.size then return c o i j
   o:=o.push (<-elem' a i);i:=i+1
   if i+1==a.size then return d o i j
   if p<7&&q<7 then break
  g:=g+1
  setG g
 (unsupported "internal:list.sort.merge-bound" : StateT SortSt Sem (Array Keyed))
theorem Ds(a b:Array Keyed):wk a b=mlo a b:=rfl
section
variable{w:World}{κ:KeyKind}
theorem bL{c:Prop}[Decidable c]{x y:StateT SortSt Sem I}{Q:I->SortSt->Prop}{st:SortSt}(b:c->wpS (model prog w) A E s x Q st)(a:¬c->wpS (model prog w) A E s y Q st):wpS (model prog w) A E s (if c then x else y) Q st:=by
 by_cases h:c
 ·rw[if_pos h];exact b h
 ·rw[if_neg h];exact a h
def kl(κ:KeyKind)(x y:Keyed):Prop:=κ.kle (ky κ x) (ky κ y)
theorem iz{x y z:Keyed}(h:kl κ x y)(g:kl κ y z):kl κ x z:=KeyOrd.kle_trans h g
theorem vR{xs:Array Keyed}(h:xs.toList.Pairwise (kl κ)){lo :Nat}(c:d<=xs.size):Sd κ xs lo d:=λi j _ a b=>by
 rw[cR (show i<xs.size by lia),cR (show j<xs.size by lia)];by_cases e:i=j
 ·subst e;exact KeyOrd.kle_refl _
 have q:=afG.mp h i j (by rw[aag];lia) (by rw[aag];lia) ⋯;rw[af3,af3]at q;exact q
theorem yu{xs:Array Keyed}{i:Nat}(a:i<xs.size):xs.toList.drop i=[xs[i]]++xs.toList.drop (i+1):=by
 rw[afT (by rw[aag];exact a),af3];rfl
theorem jh{xs:Array Keyed}{i:Nat}{x:Keyed}(h:x∈xs.toList.drop i):∃k,∃a:i+k<xs.size,x=xs[i+k]:=by
 obtain⟨k,a,e⟩:=agj h;rw[aaq,aag]at a;refine(k,6,1);rw[<-e,ag4,af3]
theorem oF{xs:Array Keyed}{i k:Nat}{x:Keyed}(h:x∈(xs.toList.drop i).take k):∃d,d<k /\ ∃hd:i+d<xs.size,x=xs[i+d]:=by
 obtain⟨d,hd,e⟩:=agj h;rw[aam,aaq,aag]at hd;refine(d,6,6,1);rw[<-e,ag5,ag4,af3]
theorem pM(xs:Array Keyed)(i k:Nat):(xs.extract i (i+k)).toList=(xs.toList.drop i).take k:=by
 rw[agY,agF,agf]
theorem oA(xs:Array Keyed)(i:Nat):(xs.extract i xs.size).toList=xs.toList.drop i:=by
 rw[agY,agF,aal (by rw[aaq,aag];lia)]
section
variable{le:Keyed->Keyed->Prop}{L:List Keyed}{o a b:Array Keyed}{i j k:Nat}{X:List Keyed}
theorem MI.pushR(h:MI le L o.toList X (b.toList.drop j))(f:j<b.size)(e:∀x∈X,le b[j] x):MI le L (o.push b[j]).toList X (b.toList.drop (j+1)):=by
 rw[yu f]at h;rw[agD];exact h.right λy d x c=>by rw[aao.mp d];exact e x c
theorem MI.pushL(h:MI le L o.toList (a.toList.drop i) X)(f:i<a.size)(e:∀x∈X,le a[i] x):MI le L (o.push a[i]).toList (a.toList.drop (i+1)) X:=by
 rw[yu f]at h;rw[agD];exact h.left λy d x c=>by rw[aao.mp d];exact e x c
theorem MI.moreR(h:MI le L o.toList X (b.toList.drop j))(c:∀y∈(b.toList.drop j).take k,∀x∈X,le y x):MI le L (o++b.extract j (j+k)).toList X (b.toList.drop (j+k)):=by
 rw[<-agk k (b.toList.drop j),agc]at h;rw[afY,pM];exact h.right c
theorem MI.moreL(h:MI le L o.toList (a.toList.drop i) X)(c:∀y∈(a.toList.drop i).take k,∀x∈X,le y x):MI le L (o++a.extract i (i+k)).toList (a.toList.drop (i+k)) X:=by
 rw[<-agk k (a.toList.drop i),agc]at h;rw[afY,pM];exact h.left c
theorem MI.fa(h:MI le L o.toList (a.toList.drop i) (b.toList.drop j))(c:∀x∈a.toList.drop i,∀y∈b.toList.drop j,le x y):Fin le L (o++a.extract i a.size++b.extract j b.size).toList:=by
 rw[afY,afY,oA,oA];exact h.xy c
theorem MI.fb(h:MI le L o.toList (a.toList.drop i) (b.toList.drop j))(c:∀y∈b.toList.drop j,∀x∈a.toList.drop i,le y x):Fin le L (o++b.extract j b.size++a.extract i a.size).toList:=by
 rw[afY,afY,oA,oA];exact h.yx c
theorem uL(h:b.size<=j):b.toList.drop j=[]:=List.drop_eq_nil_of_le (by rw[aag];exact h)
end
structure cJ(st st':SortSt):Prop where
 kind:kindOf st'=kindOf st
 arr:arrOf st'=arrOf st
 pend:pendingOf st'=pendingOf st
 failed:failedOf st'=failedOf st
theorem cJ.refl(st:SortSt):cJ st st:=(7,7,7,7)
theorem uw{st:SortSt}{Q:Unit->SortSt->Prop}(b:cJ D st)(h:∀a,cJ D a->Q () a):wpS (model prog w) A E s (setG d) Q st:=by
 rw[QT];exact wpS_modify (h _ (b.kind,b.arr,b.pend,b.failed))
abbrev Ol:=Option (Array Keyed)×Array Keyed×Nat×Nat×Nat×Nat×Nat
inductive ZJ(κ:KeyKind)(a:Array Keyed)(b:Array Keyed)(x:Nat)(c:Ol):Prop
 | mk (o i j g p q:_) (_:c=(pq none (pq o (pq i (pq j (pq g (pq p q))))))) (_:MI (kl κ) (a.toList++b.toList) o.toList (a.toList.drop i) (b.toList.drop j)) (_:i+1<a.size) (_:j<b.size) (_:x+2<=i+j)
def LoR(κ:KeyKind)(a b:Array Keyed)(x:Nat)(st:SortSt)(r:ForInStep Ol)(d:SortSt):Prop:=
 match r with
 |.done c=>cJ st d/\((∃r,c.1=some r/\Fin (kl κ) (a.toList++b.toList) r.toList)\/ZJ κ a b x c)
 |.yield c=>cJ st d/\ZJ κ a b x c
structure Mg(κ:KeyKind)(a b:Array Keyed)(st:SortSt):Prop where
 hO:κ.OneLt
 hk:kindOf st=oneType'
 hA:KeysOf κ a
 hB:KeysOf κ b
 sA:∀lo,Sd κ a lo a.size
 sB:∀lo,Sd κ b lo b.size
 last:∀i j,i+1=a.size -> ∀y∈b.toList.drop j,∀x∈a.toList.drop i,kl κ y x
def lo3(a b:Array Keyed)(g p q i:Nat)(o:Array Keyed)(j:Nat):StateT SortSt Sem (ForInStep Ol):=
 elem' a i >>= λe=>if (i+1+1==a.size)=true then pure (.done (pq (some (o.push e++b.extract j b.size++a.extract (i+1) a.size)) (pq (o.push e) (pq (i+1) (pq j (pq g (pq p q)))))))
  else if (decide (p<7)&&decide (q<7))=true then pure (.done (pq none (pq (o.push e) (pq (i+1) (pq j (pq g (pq p q)))))))else pure (.yield (pq none (pq (o.push e) (pq (i+1) (pq j (pq g (pq p q)))))))
def lo2(a b:Array Keyed)(g p q j:Nat)(o:Array Keyed)(i:Nat):StateT SortSt Sem (ForInStep Ol):=
 elem' b j >>= λe=>if (j+1==b.size)=true then pure (.done (pq (some (o.push e++a.extract i a.size++b.extract (j+1) b.size)) (pq (o.push e) (pq i (pq (j+1) (pq g (pq p q)))))))
  else elem' a i >>= λc=>eF true c b (j+1) (b.size-(j+1)) 0 >>= λx=>match x with
   |some k=>if k > 0 then (if (j+1+k==b.size)=true then pure (.done (pq (some (o.push e++b.extract (j+1) (j+1+k)++a.extract i a.size++b.extract (j+1+k) b.size)) (pq (o.push e++b.extract (j+1) (j+1+k)) (pq i (pq (j+1+k) (pq g (pq p k)))))))
     else lo3 a b g p k i (o.push e++b.extract (j+1) (j+1+k)) (j+1+k))else lo3 a b g p k i (o.push e) (j+1)
   |_=>pure (.done (pq (some (o.push e++a.extract i a.size++b.extract (j+1) b.size)) (pq (o.push e) (pq i (pq (j+1) (pq g (pq p q)))))))
def lo1(a b:Array Keyed)(o:Array Keyed)(i j p q g:Nat):StateT SortSt Sem (ForInStep Ol):=
 setG g >>= λ_=>elem' b j >>= λe=>eF false e a i (a.size-i) 0 >>= λx=>match x with
  |some k=>if k > 0 then (if (i+k+1==a.size)=true then pure (.done (pq (some (o++a.extract i (i+k)++b.extract j b.size++a.extract (i+k) a.size)) (pq (o++a.extract i (i+k)) (pq (i+k) (pq j (pq g (pq k q)))))))
    else if (i+k==a.size)=true then pure (.done (pq (some (o++a.extract i (i+k)++a.extract (i+k) a.size++b.extract j b.size)) (pq (o++a.extract i (i+k)) (pq (i+k) (pq j (pq g (pq k q)))))))
    else lo2 a b g k q j (o++a.extract i (i+k)) (i+k))else lo2 a b g k q j o i
  |_=>pure (.done (pq (some (o++a.extract i a.size++b.extract j b.size)) (pq o (pq i (pq j (pq g (pq p q)))))))
section
variable{a b o:Array Keyed}{st Wl:SortSt}{i j x g p q:Nat}
theorem Mg.kA(m:Mg κ a b st)(c:i<a.size):∃x,κ.keyOf a[i].1=some x:=m.hA _ (afM _)
theorem Mg.kB(m:Mg κ a b st)(c:i<b.size):∃x,κ.keyOf b[i].1=some x:=m.hB _ (afM _)
theorem zF{P:Prop}{y:Keyed}(z:b.size=j)(c:y∈b.toList.drop j):P:=by
 rw[uL (ah8 z)]at c;cases c
theorem Mg.upA(m:Mg κ a b st)(e:i<a.size):∀y∈a.toList.drop i,kl κ a[i] y:=λy c=>by
 obtain⟨d,hd,rfl⟩:=jh c;have q:=m.sA i i (i+d) (aae _) (ahi _ _) hd;rw[cR e,cR hd]at q;exact q
theorem Mg.upB(m:Mg κ a b st)(e:i<b.size):∀y∈b.toList.drop i,kl κ b[i] y:=λy c=>by
 obtain⟨d,hd,rfl⟩:=jh c;have q:=m.sB i i (i+d) (aae _) (ahi _ _) hd;rw[cR e,cR hd]at q;exact q
theorem K3(m:Mg κ a b st)(c:cJ st Wl)(M:MI (kl κ) (a.toList++b.toList) o.toList (a.toList.drop i) (b.toList.drop j))(n:i+1<a.size)(k:j<b.size)(l:x+1<=i+j)(h:∀y∈b.toList.drop j,kl κ a[i] y):wpS (model prog w) A E s (lo3 a b g p q i o j) (LoR κ a b x st) Wl:=by
 unfold lo3;refine wpS_bind (cM (show i<a.size by lia) ?_);have f:=M.pushL (show i<a.size by lia) h;refine bL (λz=>wpS_pure (c,.inl (9,f.fb (m.last _ _ (beq_iff_eq.mp z))))) λd=>?_;have d:i+1+1≠a.size:=λe=>d (beq_iff_eq.mpr e);have I:ZJ κ a b x (pq none (pq (o.push a[i]) (pq (i+1) (pq j (pq g (pq p q)))))):=(_,i+1,j,_,_,9,f,6,k,6);exact bL (λ_=>wpS_pure (c,.inr I)) λ_=>wpS_pure (c,I)
theorem Mw(m:Mg κ a b st)(h:cJ st Wl)(M:MI (kl κ) (a.toList++b.toList) o.toList (a.toList.drop i) (b.toList.drop j))(G:i+1<a.size)(F:j<b.size)(N:x+2<=i+j)(K:∀x∈a.toList.drop i,kl κ b[j] x):wpS (model prog w) A E s (lo2 a b g p q j o i) (LoR κ a b x st) Wl:=by
 unfold lo2;refine wpS_bind (cM F ?_);have r:=M.pushR F K;refine bL (λz=>wpS_pure (h,.inl (9,r.fa λx _ y c=>zF (beq_iff_eq.mp z).symm c))) λD=>?_;have D:j+1≠b.size:=λe=>D (beq_iff_eq.mpr e);refine wpS_bind (cM (show i<a.size by lia) (wpS_bind (nj (base:=j+1) (n:=b.size-(j+1)) (hint:=0) m.hO (h.kind.trans m.hk) m.hB (m.kA ⋯) (by rw[show j+1+(b.size-(j+1))=b.size by lia];exact m.sB _) ⋯ ⋯ λl L u t=>?_)));have H:=r.moreR (k:=l) λy c x J=>by
  obtain⟨d,hd,B,rfl⟩:=oF c;have f:=u d hd;rw[cR B]at f;exact iz (KeyOrd.kle_of_klt f) (m.upA (show i<a.size by lia) x J)
 have I:∀y∈b.toList.drop (j+1+l),kl κ (a[i]'(by omega)) y:=λy c=>by
  obtain⟨d,hd,rfl⟩:=jh c;have f:=t (l+d) ⋯ ⋯;rw[show j+1+(l+d)=j+1+l+d by lia,cR hd]at f;exact f
 refine bL (λv=>bL (λz=>wpS_pure (h,.inl (9,H.fa λx _ y c=>zF (beq_iff_eq.mp z).symm c))) λC=>?_) λv=>?_
 ·have C:j+1+l≠b.size:=λe=>C (beq_iff_eq.mpr e);exact K3 m h H G ⋯ ⋯ I
 ·obtain rfl:l=0:=by lia
  exact K3 m h r G ⋯ ⋯ I
theorem NK(m:Mg κ a b st)(c:cJ st Wl)(M:MI (kl κ) (a.toList++b.toList) o.toList (a.toList.drop i) (b.toList.drop j))(H:i+1<a.size)(l:j<b.size)(G:x+2<=i+j):wpS (model prog w) A E s (lo1 a b o i j p q g) (LoR κ a b x st) Wl:=by
 unfold lo1;refine wpS_bind (uw c λJ c=>?_);refine wpS_bind (cM l (wpS_bind (j7 (base:=i) (n:=a.size-i) (hint:=0) m.hO (c.kind.trans m.hk) m.hA (m.kB l) (by rw[show i+(a.size-i)=a.size by lia];exact m.sA i) ⋯ ⋯ λk I t r=>?_)));have M1:MI (kl κ) (a.toList++b.toList) (o++a.extract i (i+k)).toList (a.toList.drop (i+k)) (b.toList.drop j):=M.moreL λx h y F=>by
  obtain⟨d,hd,v,rfl⟩:=oF h;have f:=t d hd;rw[cR v]at f;exact iz f (m.upB l y F)
 have D:∀x∈a.toList.drop (i+k),kl κ b[j] x:=λx h=>by
  obtain⟨d,hd,rfl⟩:=jh h;have f:=r (k+d) ⋯ ⋯;rw[show i+(k+d)=i+k+d by lia,cR hd]at f;exact KeyOrd.kle_of_klt f
 refine bL (λu=>bL (λz=>wpS_pure (c,.inl (9,M1.fb (m.last _ _ (beq_iff_eq.mp z))))) λC=>bL (λz=>wpS_pure (c,.inl (9,M1.fa λx h=>zF (beq_iff_eq.mp z).symm h))) λB=>?_) λu=>?_
 ·have C:i+k+1≠a.size:=λe=>C (beq_iff_eq.mpr e);have B:i+k≠a.size:=λe=>B (beq_iff_eq.mpr e);exact Mw m c M1 ⋯ l ⋯ D
 ·obtain rfl:k=0:=by lia
  exact Mw m c M H l G D
end
theorem Es{st:SortSt}{a b:Array Keyed}{Q:Array Keyed->SortSt->Prop}(hO:κ.OneLt)(S:kindOf st=oneType')(hA:KeysOf κ a)(hB:KeysOf κ b)(X:a.toList.Pairwise (kl κ))(W:b.toList.Pairwise (kl κ))(na:0<a.size)(nb:0<b.size)
  (hf:∀x∈a.toList,kl κ b[0] x)(hl:∀y∈b.toList,kl κ y (a[a.size-1]'(by omega)))(h:∀r f,cJ st f->Fin (kl κ) (a.toList++b.toList) r.toList->Q r f):wpS (model prog w) A E s (wk a b) Q st:=by
 have kA:∀i (n:i<a.size),∃x,κ.keyOf a[i].1=some x:=λi n=>hA _ (afM _);have kB:∀i (n:i<b.size),∃x,κ.keyOf b[i].1=some x:=λi n=>hB _ (afM _);have v:∀i j,i+1=a.size -> ∀y∈b.toList.drop j,∀x∈a.toList.drop i,kl κ y x:=λi j n y t x O=>by
  obtain⟨k,S,rfl⟩:=jh O;have:i+k=a.size-1:=by lia
  have q:=hl y (afO t);simp only[this];exact q
 have Z:=λP=>vR X (lo:=P) (aae _);have Y:=λP=>vR W (lo:=P) (aae _);have U:MI (kl κ) (a.toList++b.toList) (#[b[0]]:Array Keyed).toList (a.toList.drop 0) (b.toList.drop 1):=by
  have M:MI (kl κ) (a.toList++b.toList) (#[]:Array Keyed).toList (a.toList.drop 0) (b.toList.drop 0):=(.rfl,.nil,X,W,λo R=>(agA R).elim,λo R=>(agA R).elim);exact M.pushR nb λx O=>hf x O
 have mg:Mg κ a b st:=(hO,S,hA,hB,Z,Y,v);rw[Ds];unfold mlo;refine wpS_bind (wpS_lift (wpAny_rule (7,1)));refine wpS_bind (cM nb ?_);refine bL (λc=>wpS_pure (h _ _ (cJ.refl _) (U.fa λx _ y t=>?_))) λK=>?_
 ·rw[uL (by have:=beq_iff_eq.mp c;lia)]at t;cases t
 refine bL (λc=>wpS_pure (h _ _ (cJ.refl _) (U.fb (v _ _ (beq_iff_eq.mp c))))) λJ=>?_;have K:1≠b.size:=λz=>K (beq_iff_eq.mpr z);have J:0+1≠a.size:=λz=>J (beq_iff_eq.mpr z);refine wpS_bind (wpS_get ?_);have a0:∀r f,cJ st f->Fin (kl κ) (a.toList++b.toList) r.toList->Q r f:=h;refine wpS_bind (wpS_mono (wpS_forRange (I:=λx c f=>cJ st f /\ ∃o i j g,c=(pq none (pq o (pq i (pq j g))))/\MI (kl κ) (a.toList++b.toList) o.toList (a.toList.drop i) (b.toList.drop j)/\i+1<a.size/\j<b.size/\x+1<=i+j)
  (Q:=λc f=>cJ st f /\ ∃r,c.1=some r/\Fin (kl κ) (a.toList++b.toList) r.toList) ?_ ?_ (cJ.refl _,_,0,(1),9,U,6,6,6)) ?_)
 ·rintro x c F _ O ⟨B,o,i,j,g,rfl,M,n,m,u⟩;refine wpS_bind (wpS_mono (wpS_forRange (I:=λy c f=>cJ st f /\ ∃o i j p q,c=(pq none (pq o (pq i (pq j (pq p q)))))/\MI (kl κ) (a.toList++b.toList) o.toList (a.toList.drop i) (b.toList.drop j)/\i+1<a.size/\j<b.size/\x+1+y<=i+j)
   (Q:=λc f=>cJ st f/\((∃r,c.1=some r/\Fin (kl κ) (a.toList++b.toList) r.toList) \/ ∃o i j p q,c=(pq none (pq o (pq i (pq j (pq p q)))))/\MI (kl κ) (a.toList++b.toList) o.toList (a.toList.drop i) (b.toList.drop j)/\i+1<a.size/\j<b.size/\x+2<=i+j)) ?_ ?_ (B,o,i,j,0,0,7,M,n,m,u)) ?_)
  ·rintro y c N _ t ⟨l,o,i,j,p,q,rfl,M,n,m,u⟩;refine wpS_bind (cM m (wpS_bind (cM (show i<a.size by lia) (wpS_bind (Hn hO (l.kind.trans S) (kB j m) (kA i ⋯) ?_)))));cases hv:κ.blt (ky κ b[j]) (ky κ (a[i]'(by omega)))
   ·refine bL (λz=>absurd z ∅) λ_=>?_;refine wpS_bind (cM (show i<a.size by lia) ?_);have D:=M.pushL (show i<a.size by lia) λy t=>by
     obtain⟨d,hd,rfl⟩:=jh t;have q:=Y j j (j+d) (aae _) ⋯ hd;rw[cR m,cR hd]at q;exact iz hv q
    refine bL (λz=>wpS_pure (l,.inl (9,D.fb (v _ _ (beq_iff_eq.mp z))))) λz=>?_;have z:i+1+1≠a.size:=λe=>z (beq_iff_eq.mpr e);exact bL (λ_=>wpS_pure (l,.inr (_,i+1,j,_,9,D,6,m,6))) λ_=>wpS_pure (l,_,i+1,j,_,9,D,6,m,6)
   ·refine bL (λ_=>?_) λz=>absurd rfl z;refine wpS_bind (cM m ?_);have D:=M.pushR m λy t=>by
     obtain⟨d,hd,rfl⟩:=jh t;have q:=Z i i (i+d) (aae _) ⋯ hd;rw[cR (show i<a.size by lia),cR hd]at q;exact iz (KeyOrd.kle_of_klt hv) q
    refine bL (λz=>wpS_pure (l,.inl (9,D.fa λx _ y t=>?_))) λz=>?_
    ·have z:j+1=b.size:=beq_iff_eq.mp z;rw[uL ⋯]at t;cases t
    have z:j+1≠b.size:=λe=>z (beq_iff_eq.mpr e);exact bL (λ_=>wpS_pure (l,.inr (_,i,j+1,_,9,D,n,6,6))) λ_=>wpS_pure (l,_,i,j+1,_,9,D,n,6,6)
  ·rintro c N ⟨l,o,i,j,p,q,rfl,M,n,m,u⟩;exact(l,.inr (o,i,j,p,q,7,M,n,m,6))
  ·rintro c N ⟨l,T⟩;rcases T with ⟨r,G,H⟩|⟨o,i,j,p,q,rfl,M,n,m,u⟩
   ·obtain⟨K,J⟩:=c;cases G;exact wpS_pure (l,r,7,H)
   refine wpS_bind (wpS_lift (wpAny_rule (7,1)));refine wpS_bind (wpS_mono (wpS_forRange (I:=λy c f=>cJ st f/\ZJ κ a b x c)
    (Q:=λc f=>cJ st f/\((∃r,c.1=some r/\Fin (kl κ) (a.toList++b.toList) r.toList)\/ZJ κ a b x c)) ?_ ?_ (l,o,i,j,_,p,q,7,M,n,m,u)) ?_)
   ·rintro y c L _ t ⟨C,o,i,j,g,p,q,rfl,M,n,m,u⟩;refine wpS_mono (Q:=LoR κ a b x st) ?_ λr f h=>by cases r<;>exact h
    show wpS _ _ _ _ (if g > 1 then lo1 a b o i j p q (g-1)else lo1 a b o i j p q g) _ _;exact bL (λ_=>NK mg C M n m u) λ_=>NK mg C M n m u
   ·rintro c L ⟨C,o,i,j,g,p,q,rfl,M,n,m,u⟩;exact(C,.inr (o,i,j,g,p,q,7,M,n,m,u))
   ·rintro c L ⟨C,T⟩;rcases T with ⟨r,G,H⟩|⟨o,i,j,g,p,q,rfl,M,n,m,u⟩
    ·obtain⟨K,J⟩:=c;cases G;exact wpS_pure (C,r,7,H)
    exact wpS_bind (uw C λWl V=>wpS_pure (V,o,i,j,9,M,n,m,6))
 ·rintro c F ⟨B,o,i,j,g,rfl,M,n,m,u⟩;exfalso;lia
 ·rintro c F ⟨B,r,G,H⟩;obtain⟨K,J⟩:=c;cases G;exact wpS_pure (h r F B H)
end
def uU:Array Keyed->Array Keyed->StateT SortSt Sem (Array Keyed):=sortPriv% PySem.Builtin.mergeHi
def mhi(a b:Array Keyed):StateT SortSt Sem (Array Keyed):=do
 rule "list.sort.merge-hi"
 let t:=a.size+b.size
 let c (o:Array Keyed) (m n:Nat):=a.extract 0 m++b.extract 0 n++o.reverse
 let d (o:Array Keyed) (m n:Nat):=b.extract 0 n++a.extract 0 m++o.reverse
 let mut m:=a.size-1
 let mut n:=b.size
 let mut o:Array Keyed:=#[<-elem' a m]
 if m==0 then return c o m n
 if n==1 then return d o m n
 let mut g:=gallopOf (<-get)
 for _ in [0:t] do
  let mut p:=0
  let mut q:=0
  for _ in [0:t] do
   let some v <-lt' (<-elem' b (n-1)) (<-elem' a (m-1)) | return c o m n
   if v then
    m:=m-1;o:=o.push (<-elem' a m);p:=p+1;q:=0
    if m==0 then return c o m n
    if p >= g then break
   else
    n:=n-1;o:=o.push (<-elem' b n);q:=q+1;p:=0
    if n==1 then return d o m n
    if q >= g then break
  rule "list.sort.gallop"
  g:=g+1
  for _ in [0:t] do
   if g > 1 then g:=g-1
   setG g
   let some z <-eF false (<-elem' b (n-1)) a 0 m (m-1) | return c o m n
   let k:=m-z
   p:=k
   if k > 0 then
    o:=o++(a.extract z m).reverse;m:=z
    if m==0 then return c o m n
   n:=n-1;o:=o.push (<-elem' b n)
   if n==1 then return d o m n
   let some z <-eF true (<-elem' a (m-1)) b 0 n (n-1) | return c o m n
   let k:=n-z
   q:=k
   if k > 0 then
    o:=o++(b.extract z n).reverse;n:=z
    if n==1 then return d o m n
    if n==0 then return c o m n
   m:=m-1;o:=o.push (<-elem' a m)
   if m==0 then return c o m n
   if p<7&&q<7 then break
  g:=g+1
  setG g
 (unsupported "internal:list.sort.merge-bound" : StateT SortSt Sem (Array Keyed))
theorem Bm(a b:Array Keyed):uU a b=mhi a b:=rfl
section
variable{w:World}{κ:KeyKind}
def kr(κ:KeyKind)(x y:Keyed):Prop:=kl κ y x
abbrev hd(xs:Array Keyed)(m:Nat):List Keyed:=(xs.toList.take m).reverse
theorem Hb{xs:Array Keyed}{m:Nat}(b:1<=m)(a:m<=xs.size):hd xs m=[xs[m-1]'(by omega)]++hd xs (m-1):=by
 obtain⟨k,rfl⟩:∃k,m=k+1:=(m-1,6);unfold hd;rw[aed,aac (by rw[aag];lia),af3];simp
theorem Lf{xs:Array Keyed}{m :Nat}(hz:d<=m):hd xs m=((xs.toList.take m).drop d).reverse++hd xs d:=by
 unfold hd;rw[<-ahe,show xs.toList.take d=(xs.toList.take m).take d by rw[ahy,af0 hz],agk]
theorem mO{xs:Array Keyed}{m:Nat}{x:Keyed}(h:x∈hd xs m):∃d,d<m /\ ∃hd:d<xs.size,x=xs[d]:=by
 obtain⟨d,a,e⟩:=agj (ahB.mp h);rw[aam,aag]at a;exact(d,6,6,by rw[<-e,ag5,af3])
theorem Ib{xs:Array Keyed}{m :Nat}{x:Keyed}(h:x∈((xs.toList.take m).drop d).reverse):∃a,d<=a/\a<m /\ ∃hd:a<xs.size,x=xs[a]:=by
 obtain⟨a,b,e⟩:=agj (ahB.mp h);rw[aaq,aam,aag]at b;exact(d+a,6,6,6,by rw[<-e,ag4,ag5,af3])
section
variable{le:Keyed->Keyed->Prop}{L:List Keyed}{o a b:Array Keyed}{m n z:Nat}{X:List Keyed}
theorem MI.popL(h:MI le L o.toList (hd a m) X)(g:1<=m)(f:m<=a.size)(e:∀x∈X,le (a[m-1]'(by omega)) x):MI le L (o.push (a[m-1]'(by omega))).toList (hd a (m-1)) X:=by
 rw[Hb g f]at h;rw[agD];exact h.left λy d x c=>by rw[aao.mp d];exact e x c
theorem MI.popR(h:MI le L o.toList X (hd b n))(g:1<=n)(f:n<=b.size)(e:∀x∈X,le (b[n-1]'(by omega)) x):MI le L (o.push (b[n-1]'(by omega))).toList X (hd b (n-1)):=by
 rw[Hb g f]at h;rw[agD];exact h.right λy d x c=>by rw[aao.mp d];exact e x c
theorem Dk(xs:Array Keyed)(m z:Nat):(o++(xs.extract z m).reverse).toList=o.toList++((xs.toList.take m).drop z).reverse:=by
 rw[afY,ahV,agY,agF,<-ajc]
theorem MI.cutL(h:MI le L o.toList (hd a m) X)(hz:z<=m)(c:∀y∈((a.toList.take m).drop z).reverse,∀x∈X,le y x):MI le L (o++(a.extract z m).reverse).toList (hd a z) X:=by
 rw[Lf hz]at h;rw[Dk];exact h.left c
theorem MI.cutR(h:MI le L o.toList X (hd b n))(hz:z<=n)(c:∀y∈((b.toList.take n).drop z).reverse,∀x∈X,le y x):MI le L (o++(b.extract z n).reverse).toList X (hd b z):=by
 rw[Lf hz]at h;rw[Dk];exact h.right c
theorem Hj{r:List Keyed}(h:Fin (kr κ) L r.reverse):Fin (kl κ) L r:=((aii r).symm.trans h.1,ahQ.mp h.2)
theorem lB(xs:Array Keyed)(m:Nat):(xs.extract 0 m).toList=xs.toList.take m:=by
 rw[agY,agF,agE,ahF]
theorem MI.ha(h:MI (kr κ) L o.toList (hd a m) (hd b n))(c:∀y∈hd b n,∀x∈hd a m,kr κ y x):Fin (kl κ) L (a.extract 0 m++b.extract 0 n++o.reverse).toList:=by
 refine Hj ?_;rw[afY,afY,lB,lB,ahV,ahe,aiE,ahe,<-aay];exact h.yx c
theorem MI.hb(h:MI (kr κ) L o.toList (hd a m) (hd b n))(c:∀x∈hd a m,∀y∈hd b n,kr κ x y):Fin (kl κ) L (b.extract 0 n++a.extract 0 m++o.reverse).toList:=by
 refine Hj ?_;rw[afY,afY,lB,lB,ahV,ahe,aiE,ahe,<-aay];exact h.xy c
end
abbrev K5:=Option (Array Keyed)×Nat×Nat×Array Keyed×Nat×Nat×Nat
inductive ZK(κ:KeyKind)(a:Array Keyed)(b:Array Keyed)(x:Nat)(c:K5):Prop
 | mk (m n o g p q:_) (_:c=(pq none (pq m (pq n (pq o (pq g (pq p q))))))) (_:MI (kr κ) (a.toList++b.toList) o.toList (hd a m) (hd b n)) (_:1<=m) (_:m<=a.size) (_:2<=n) (_:n<=b.size) (_:x+2+(m+n)<=a.size+b.size)
def HiR(κ:KeyKind)(a b:Array Keyed)(x:Nat)(st:SortSt)(r:ForInStep K5)(d:SortSt):Prop:=
 match r with
 |.done c=>cJ st d/\((∃r,c.1=some r/\Fin (kl κ) (a.toList++b.toList) r.toList)\/ZK κ a b x c)
 |.yield c=>cJ st d/\ZK κ a b x c
structure Mh(κ:KeyKind)(a b:Array Keyed)(st:SortSt):Prop where
 hO:κ.OneLt
 hk:kindOf st=oneType'
 hA:KeysOf κ a
 hB:KeysOf κ b
 sa:a.toList.Pairwise (kl κ)
 sb:b.toList.Pairwise (kl κ)
 first:∀m,∀x∈hd a m,∀y∈hd b 1,kr κ x y
def hi3(a b:Array Keyed)(g p q m:Nat)(n:Nat)(o:Array Keyed):StateT SortSt Sem (ForInStep K5):=
 elem' a (m-1) >>= λe=>if (m-1==0)=true then pure (.done (pq (some (a.extract 0 (m-1)++b.extract 0 n++(o.push e).reverse)) (pq (m-1) (pq n (pq (o.push e) (pq g (pq p q)))))))
  else if (decide (p<7)&&decide (q<7))=true then pure (.done (pq none (pq (m-1) (pq n (pq (o.push e) (pq g (pq p q)))))))else pure (.yield (pq none (pq (m-1) (pq n (pq (o.push e) (pq g (pq p q)))))))
def hi2(a b:Array Keyed)(g p q n:Nat)(m:Nat)(o:Array Keyed):StateT SortSt Sem (ForInStep K5):=
 elem' b (n-1) >>= λe=>if (n-1==1)=true then pure (.done (pq (some (b.extract 0 (n-1)++a.extract 0 m++(o.push e).reverse)) (pq m (pq (n-1) (pq (o.push e) (pq g (pq p q)))))))
  else elem' a (m-1) >>= λc=>eF true c b 0 (n-1) (n-1-1) >>= λx=>match x with
   |some z=>if n-1-z > 0 then (if (z==1)=true then pure (.done (pq (some (b.extract 0 z++a.extract 0 m++(o.push e++(b.extract z (n-1)).reverse).reverse)) (pq m (pq z (pq (o.push e++(b.extract z (n-1)).reverse) (pq g (pq p (n-1-z))))))))
     else if (z==0)=true then pure (.done (pq (some (a.extract 0 m++b.extract 0 z++(o.push e++(b.extract z (n-1)).reverse).reverse)) (pq m (pq z (pq (o.push e++(b.extract z (n-1)).reverse) (pq g (pq p (n-1-z))))))))
     else hi3 a b g p (n-1-z) m z (o.push e++(b.extract z (n-1)).reverse))else hi3 a b g p (n-1-z) m (n-1) (o.push e)
   |_=>pure (.done (pq (some (a.extract 0 m++b.extract 0 (n-1)++(o.push e).reverse)) (pq m (pq (n-1) (pq (o.push e) (pq g (pq p q)))))))
def hi1(a b:Array Keyed)(o:Array Keyed)(m n p q g:Nat):StateT SortSt Sem (ForInStep K5):=
 setG g >>= λ_=>elem' b (n-1) >>= λe=>eF false e a 0 m (m-1) >>= λx=>match x with
  |some z=>if m-z > 0 then (if (z==0)=true then pure (.done (pq (some (a.extract 0 z++b.extract 0 n++(o++(a.extract z m).reverse).reverse)) (pq z (pq n (pq (o++(a.extract z m).reverse) (pq g (pq (m-z) q)))))))
    else hi2 a b g (m-z) q n z (o++(a.extract z m).reverse))else hi2 a b g (m-z) q n m o
  |_=>pure (.done (pq (some (a.extract 0 m++b.extract 0 n++o.reverse)) (pq m (pq n (pq o (pq g (pq p q)))))))
section
variable{a b o:Array Keyed}{st Wl:SortSt}{m n x g p q:Nat}
theorem Ou{P:Prop}{x:Keyed}(h:m=0)(c:x∈hd a m):P:=by
 obtain⟨d,hd,_⟩:=mO c;lia
theorem Vb{a:Array Keyed}(h:a.toList.Pairwise (kl κ)){e:Nat}(hd:d<a.size)(f:e<a.size)(c:d<=e):kl κ a[d] a[e]:=by
 have q:=vR h (lo:=0) (aae _) d e (aaH _) c f;rw[cR hd,cR f]at q;exact q
theorem Rf{a:Array Keyed}(c:a.toList.Pairwise (kl κ))(j:1<=m)(i:m<=a.size):∀x∈hd a m,kl κ x (a[m-1]'(by omega)):=λx e=>by
 obtain⟨d,h,f,rfl⟩:=mO e;exact Vb c f ⋯ ⋯
theorem Mh.kA(h:Mh κ a b st){i:Nat}(c:i<a.size):∃x,κ.keyOf a[i].1=some x:=h.hA _ (afM _)
theorem Mh.kB(h:Mh κ a b st){i:Nat}(c:i<b.size):∃x,κ.keyOf b[i].1=some x:=h.hB _ (afM _)
theorem KQ(d:cJ st Wl)(M:MI (kr κ) (a.toList++b.toList) o.toList (hd a m) (hd b n))(k:1<=m)(j:m<=a.size)(i:2<=n)(f:n<=b.size)(u:x+1+(m+n)<=a.size+b.size)(h:∀y∈hd b n,kl κ y (a[m-1]'(by omega))):wpS (model prog w) A E s (hi3 a b g p q m n o) (HiR κ a b x st) Wl:=by
 unfold hi3;refine wpS_bind (cM (show m-1<a.size by lia) ?_);have r:=M.popL k j h;refine bL (λc=>wpS_pure (d,.inl (9,r.ha λy _ x t=>Ou (beq_iff_eq.mp c) t))) λl=>?_;have l:m-1≠0:=λe=>l (beq_iff_eq.mpr e);have I:ZK κ a b x (pq none (pq (m-1) (pq n (pq (o.push (a[m-1]'(by omega))) (pq g (pq p q)))))):=(m-1,n,_,_,_,9,r,by omega,by omega,i,f,by omega);exact bL (λ_=>wpS_pure (d,.inr I)) λ_=>wpS_pure (d,I)
theorem Lp(h:Mh κ a b st)(j:cJ st Wl)(M:MI (kr κ) (a.toList++b.toList) o.toList (hd a m) (hd b n))(i:1<=m)(f:m<=a.size)(O:2<=n)(z:n<=b.size)(P:x+2+(m+n)<=a.size+b.size)(N:∀x∈hd a m,kl κ x (b[n-1]'(by omega))):wpS (model prog w) A E s (hi2 a b g p q n m o) (HiR κ a b x st) Wl:=by
 unfold hi2;refine wpS_bind (cM (show n-1<b.size by lia) ?_);have v:=M.popR ⋯ z N;refine bL (λc=>wpS_pure (j,.inl (9,v.hb ?_))) λI=>?_
 ·rw[beq_iff_eq.mp c];exact h.first _
 have I:n-1≠1:=λe=>I (beq_iff_eq.mpr e);refine wpS_bind (cM (show m-1<a.size by lia) (wpS_bind (nj (base:=0) (n:=n-1) (hint:=n-1-1) h.hO (j.kind.trans h.hk) h.hB (h.kA ⋯) (by rw[ahR];exact vR h.sb ⋯) ⋯ ⋯ λl D C B=>?_)));have J:∀y∈hd b l,kl κ y (a[m-1]'(by omega)):=λy k=>by
  obtain⟨d,t,r,rfl⟩:=mO k;have q:=C d t;rw[ahR,cR r]at q;exact KeyOrd.kle_of_klt q
 have u:=v.cutR D λy k x K=>by
  obtain⟨d,t,r,L,rfl⟩:=Ib k;have q:=B d t r;rw[ahR,cR L]at q;exact iz (Rf h.sa i f x K) q
 refine bL (λF=>bL (λc=>wpS_pure (j,.inl (9,u.hb ?_))) λH=>bL (λc=>wpS_pure (j,.inl (9,u.ha λy k x _=>Ou (beq_iff_eq.mp c) k))) λG=>?_) λF=>?_
 ·rw[beq_iff_eq.mp c];exact h.first _
 ·have H:l≠1:=λe=>H (beq_iff_eq.mpr e);have G:l≠0:=λe=>G (beq_iff_eq.mpr e);exact KQ j u i f ⋯ ⋯ ⋯ J
 ·obtain rfl:l=n-1:=by lia
  exact KQ j v i f ⋯ ⋯ ⋯ J
theorem Om(h:Mh κ a b st)(i:cJ st Wl)(M:MI (kr κ) (a.toList++b.toList) o.toList (hd a m) (hd b n))(C:1<=m)(l:m<=a.size)(k:2<=n)(f:n<=b.size)(I:x+2+(m+n)<=a.size+b.size):wpS (model prog w) A E s (hi1 a b o m n p q g) (HiR κ a b x st) Wl:=by
 unfold hi1;refine wpS_bind (uw i λK i=>?_);refine wpS_bind (cM (show n-1<b.size by lia) (wpS_bind (j7 (base:=0) (n:=m) (hint:=m-1) h.hO (i.kind.trans h.hk) h.hA (h.kB ⋯) (by rw[ahR];exact vR h.sa l) ⋯ ⋯ λz B v u=>?_)));have G:∀x∈hd a z,kl κ x (b[n-1]'(by omega)):=λx j=>by
  obtain⟨d,t,r,rfl⟩:=mO j;have q:=v d t;rw[ahR,cR r]at q;exact q
 have M1:MI (kr κ) (a.toList++b.toList) (o++(a.extract z m).reverse).toList (hd a z) (hd b n):=M.cutL B λx j y H=>by
  obtain⟨d,t,r,J,rfl⟩:=Ib j;have q:=u d t r;rw[ahR,cR J]at q;exact iz (Rf h.sb ⋯ f y H) (KeyOrd.kle_of_klt q)
 refine bL (λD=>bL (λc=>wpS_pure (i,.inl (9,M1.ha λy _ x j=>Ou (beq_iff_eq.mp c) j))) λF=>?_) λD=>?_
 ·have F:z≠0:=λe=>F (beq_iff_eq.mpr e);exact Lp h i M1 ⋯ ⋯ k f ⋯ G
 ·obtain rfl:z=m:=by lia
  exact Lp h i M C l k f I G
end
theorem Gr{st:SortSt}{a b:Array Keyed}{Q:Array Keyed->SortSt->Prop}(hO:κ.OneLt)(hk:kindOf st=oneType')(hA:KeysOf κ a)(hB:KeysOf κ b)(U:a.toList.Pairwise (kl κ))(T:b.toList.Pairwise (kl κ))(na:0<a.size)(nb:0<b.size)
  (hf:∀x∈a.toList,kl κ b[0] x)(hl:∀y∈b.toList,kl κ y (a[a.size-1]'(by omega)))(h:∀r t,cJ st t->Fin (kl κ) (a.toList++b.toList) r.toList->Q r t):wpS (model prog w) A E s (uU a b) Q st:=by
 have kA:∀i (W:i<a.size),∃x,κ.keyOf a[i].1=some x:=λi W=>hA _ (afM _);have kB:∀i (W:i<b.size),∃x,κ.keyOf b[i].1=some x:=λi W=>hB _ (afM _);have first:∀m,∀x∈hd a m,∀y∈hd b 1,kr κ x y:=λm x K y C=>by
  obtain⟨d,a4,a3,rfl⟩:=mO C;have:d=0:=by lia
  subst this;exact hf x (afN (ahB.mp K))
 have sA:=vR U (lo:=0) (aae _);have sB:=vR T (lo:=0) (aae _);have a1:∀d e (hd:d<a.size) (D:e<a.size),d<=e->kl κ a[d] a[e]:=λd e hd D J=>by
  have q:=sA d e (aaH _) J D;rw[cR hd,cR D]at q;exact q
 have a0:∀d e (hd:d<b.size) (D:e<b.size),d<=e->kl κ b[d] b[e]:=λd e hd D J=>by
  have q:=sB d e (aaH _) J D;rw[cR hd,cR D]at q;exact q
 have zA:∀n,∀y∈hd b n,∀x∈hd a 0,kr κ y x:=λn y _ x K=>by
  obtain⟨d,hd,_⟩:=mO K;lia
 have M0:MI (kr κ) (a.toList++b.toList) (#[a[a.size-1]'(by omega)]:Array Keyed).toList (hd a (a.size-1)) (hd b b.size):=by
  have ea:a.toList.take a.size=a.toList:=aal (by rw[aag];exact aae _);have Z:b.toList.take b.size=b.toList:=aal (by rw[aag];exact aae _);have M:MI (kr κ) (a.toList++b.toList) (#[]:Array Keyed).toList (hd a a.size) (hd b b.size):=by
   refine(1,.nil,1,1,λo V=>(agA V).elim,λo V=>(agA V).elim)
   ·show agh ([]++hd a a.size++hd b b.size) _;unfold hd;rw[ea,Z];exact(aii _).append (aii _)
   ·unfold hd;rw[ea];exact ahQ.mpr U
   ·unfold hd;rw[Z];exact ahQ.mpr T
  exact M.popL na (aae _) λy C=>hl y (by have:=ahB.mp C;rw[Z]at this;exact this)
 have mh:Mh κ a b st:=(hO,hk,hA,hB,U,T,first);rw[Bm];unfold mhi;refine wpS_bind (wpS_lift (wpAny_rule (7,1)));refine wpS_bind (cM (show a.size-1<a.size by lia) ?_);refine bL (λc=>wpS_pure (h _ _ (cJ.refl _) (M0.ha ?_))) λP=>?_
 ·have c:a.size-1=0:=beq_iff_eq.mp c;rw[c];exact zA _
 refine bL (λc=>wpS_pure (h _ _ (cJ.refl _) (M0.hb ?_))) λO=>?_
 ·have c:b.size=1:=beq_iff_eq.mp c;rw[c];exact first _
 have P:a.size-1≠0:=λz=>P (beq_iff_eq.mpr z);have O:b.size≠1:=λz=>O (beq_iff_eq.mpr z);refine wpS_bind (wpS_get ?_);refine wpS_bind (wpS_mono (wpS_forRange (I:=λx c t=>cJ st t /\ ∃m n o g,c=(pq none (pq m (pq n (pq o g))))/\MI (kr κ) (a.toList++b.toList) o.toList (hd a m) (hd b n)/\1<=m/\m<=a.size/\2<=n/\n<=b.size/\x+1+(m+n)<=a.size+b.size)
  (Q:=λc t=>cJ st t /\ ∃r,c.1=some r/\Fin (kl κ) (a.toList++b.toList) r.toList) ?_ ?_ (cJ.refl _,a.size-1,b.size,_,9,M0,6,6,6,6,6)) ?_)
 ·rintro x c H _ K ⟨B,m,n,o,g,rfl,M,k,j,l,f,u⟩;refine wpS_bind (wpS_mono (wpS_forRange (I:=λy c t=>cJ st t /\ ∃m n o p q,c=(pq none (pq m (pq n (pq o (pq p q)))))/\MI (kr κ) (a.toList++b.toList) o.toList (hd a m) (hd b n)/\1<=m/\m<=a.size/\2<=n/\n<=b.size/\x+1+y+(m+n)<=a.size+b.size)
   (Q:=λc t=>cJ st t/\((∃r,c.1=some r/\Fin (kl κ) (a.toList++b.toList) r.toList) \/ ∃m n o p q,c=(pq none (pq m (pq n (pq o (pq p q)))))/\MI (kr κ) (a.toList++b.toList) o.toList (hd a m) (hd b n)/\1<=m/\m<=a.size/\2<=n/\n<=b.size/\x+2+(m+n)<=a.size+b.size)) ?_ ?_ (B,m,n,o,0,0,7,M,k,j,l,f,u)) ?_)
  ·rintro y c S _ C ⟨v,m,n,o,p,q,rfl,M,k,j,l,f,u⟩;refine wpS_bind (cM (show n-1<b.size by lia) (wpS_bind (cM (show m-1<a.size by lia) (wpS_bind (Hn hO (v.kind.trans hk) (kB (n-1) ⋯) (kA (m-1) ⋯) ?_)))));cases hv:κ.blt (ky κ (b[n-1]'(by omega))) (ky κ (a[m-1]'(by omega)))
   ·refine bL (λz=>absurd z ∅) λ_=>?_;refine wpS_bind (cM (show n-1<b.size by lia) ?_);have G:=M.popR ⋯ f λx K=>by
     obtain⟨d,h1,Y,rfl⟩:=mO K;exact iz (a1 d (m-1) Y ⋯ ⋯) hv
    refine bL (λz=>wpS_pure (v,.inl (9,G.hb ?_))) λz=>?_
    ·have z:n-1=1:=beq_iff_eq.mp z;rw[z];exact first _
    have z:n-1≠1:=λe=>z (beq_iff_eq.mpr e);exact bL (λ_=>wpS_pure (v,.inr (m,n-1,_,_,9,G,k,j,6,6,6))) λ_=>wpS_pure (v,m,n-1,_,_,9,G,k,j,6,6,6)
   ·refine bL (λ_=>?_) λz=>absurd rfl z;refine wpS_bind (cM (show m-1<a.size by lia) ?_);have G:=M.popL k j λy C=>by
     obtain⟨d,h1,Y,rfl⟩:=mO C;exact iz (a0 d (n-1) Y ⋯ ⋯) (KeyOrd.kle_of_klt hv)
    refine bL (λz=>wpS_pure (v,.inl (9,G.ha ?_))) λz=>?_
    ·have z:m-1=0:=beq_iff_eq.mp z;rw[z];exact zA _
    have z:m-1≠0:=λe=>z (beq_iff_eq.mpr e);exact bL (λ_=>wpS_pure (v,.inr (m-1,n,_,_,9,G,6,6,l,f,6))) λ_=>wpS_pure (v,m-1,n,_,_,9,G,6,6,l,f,6)
  ·rintro c S ⟨v,m,n,o,p,q,rfl,M,k,j,l,f,u⟩;exact(v,.inr (m,n,o,p,q,7,M,k,j,l,f,6))
  ·rintro c S ⟨v,X⟩;rcases X with ⟨r,L,N⟩|⟨m,n,o,p,q,rfl,M,k,j,l,f,u⟩
   ·obtain⟨P,O⟩:=c;cases L;exact wpS_pure (v,r,7,N)
   refine wpS_bind (wpS_lift (wpAny_rule (7,1)));refine wpS_bind (wpS_mono (wpS_forRange (I:=λy c t=>cJ st t/\ZK κ a b x c)
    (Q:=λc t=>cJ st t/\((∃r,c.1=some r/\Fin (kl κ) (a.toList++b.toList) r.toList)\/ZK κ a b x c)) ?_ ?_ (v,m,n,o,_,p,q,7,M,k,j,l,f,u)) ?_)
   ·rintro y c R _ C ⟨F,m,n,o,g,p,q,rfl,M,k,j,l,f,u⟩;refine wpS_mono (Q:=HiR κ a b x st) ?_ λr t h=>by cases r<;>exact h
    show wpS _ _ _ _ (if g > 1 then hi1 a b o m n p q (g-1)else hi1 a b o m n p q g) _ _;exact bL (λ_=>Om mh F M k j l f u) λ_=>Om mh F M k j l f u
   ·rintro c R ⟨F,m,n,o,g,p,q,rfl,M,k,j,l,f,u⟩;exact(F,.inr (m,n,o,g,p,q,7,M,k,j,l,f,u))
   ·rintro c R ⟨F,X⟩;rcases X with ⟨r,L,N⟩|⟨m,n,o,g,p,q,rfl,M,k,j,l,f,u⟩
    ·obtain⟨P,O⟩:=c;cases L;exact wpS_pure (F,r,7,N)
    exact wpS_bind (uw F λWl a2=>wpS_pure (a2,m,n,o,9,M,k,j,l,f,6))
 ·rintro c H ⟨B,m,n,o,g,rfl,M,k,j,l,f,u⟩;exfalso;lia
 ·rintro c H ⟨B,r,L,N⟩;obtain⟨P,O⟩:=c;cases L;exact wpS_pure (h r H B N)
end
theorem Cv(i:Nat):mergeAt' i=(do
 let u <-get
 let (pq (some (pq sa (pq m pw))) (some (pq sb (pq n _)))):=(pq ((pendingOf u)[i]?) ((pendingOf u)[i+1]?)) | unsupported "internal:list.sort.pending"
 set (setPending u (((pendingOf u).setIfInBounds i (pq sa (pq (m+n) pw))).eraseIdxIfInBounds (i+1)))
 let some k <-eF false (<-elem' (arrOf u) sb) (arrOf u) sa m 0|return false
 let (pq sa m):=(pq (sa+k) (m-k))
 if m==0 then return true
 let some n <-eF true (<-elem' (arrOf u) (sa+m-1)) (arrOf u) sb n (n-1) | return false
 if n==0 then return true
 let x:=(arrOf u).extract sa sb
 let y:=(arrOf u).extract sb (sb+n)
 let r <-if m<=n then wk x y else uU x y
 modify λv=>setArr v (r.toList.zipIdx.foldl (λc (p,j)=>c.setIfInBounds (sa+j) p) (arrOf v))
 return (failedOf (<-get)).isNone):=rfl
def wr(xs:Array Keyed)(base:Nat)(r:List Keyed):Array Keyed:=r.zipIdx.foldl (λc (p,j)=>c.setIfInBounds (base+j) p) xs
theorem Rc(base:Nat):∀(r:List Keyed) (n:Nat) (xs:Array Keyed),base+n+r.length<=xs.size->((r.zipIdx n).foldl (λc (p,j)=>c.setIfInBounds (base+j) p) xs).size=xs.size /\ ∀t:Nat,((r.zipIdx n).foldl (λc (p,j)=>c.setIfInBounds (base+j) p) xs)[t]?=if base+n<=t/\t<base+n+r.length then r[t-(base+n)]? else xs[t]?
 |[],n,xs,_=>(7,λt=>by rw[if_neg (by rw[afV];lia)];rfl)
 |p::r,n,xs,h=>by
  rw[aah]at h;have a:=Rc base r (n+1) (xs.setIfInBounds (base+n) p) (by rw[aij];lia);rw[List.zipIdx_cons,ais];refine(a.1.trans aij,λt=>(a.2 t).trans ?_);rw[aah];by_cases d:t=base+n
  ·subst d;rw[if_neg ⋯,if_pos ⋯,ag8,Array.getElem?_setIfInBounds_self_of_lt ⋯];rfl
  by_cases b:base+(n+1)<=t/\t<base+(n+1)+r.length
  ·rw[if_pos b,if_pos ⋯,show t-(base+n)=t-(base+(n+1))+1 by lia,ahc]
  ·rw[if_neg b,if_neg ⋯,ag6 ⋯]
theorem Fp{xs:Array Keyed}{base:Nat}{r:List Keyed}(h:base+r.length<=xs.size)(t:Nat):(wr xs base r)[t]?=if base<=t/\t<base+r.length then r[t-base]? else xs[t]?:=(Rc base r 0 xs h).2 t
theorem QC{xs:Array Keyed}{base:Nat}{r:List Keyed}(h:base+r.length<=xs.size):(wr xs base r).toList=xs.toList.take base++r++xs.toList.drop (base+r.length):=by
 apply af7;intro t;have a:(xs.toList.take base).length=base:=by rw[aam,aag];lia
 rw[afP,Fp h];by_cases b:t<base
 ·rw[if_neg ⋯,aay,afI ⋯,af2 b,afP]
 by_cases c:t<base+r.length
 ·rw[if_pos ⋯,aay,afH ⋯,a,afI ⋯]
 ·rw[if_neg ⋯,afH (by rw[aab];lia),aab,a,aga,afP];congr 1;lia
section
variable{w:World}{a₀:Array Keyed}{κ:KeyKind}{pd:Array (Nat×Nat×Nat)}
theorem Qj{σ:Type}{M:Model}{st a:σ}{Q:PUnit->σ->Prop}(h:Q ⟨⟩ a):wpS M A E s (set a:StateT σ Sem PUnit) Q st:=by
 unfold wpS;rw[StateT.run_set];exact wpAny_pure (7,h)
theorem Jj{xs ys:Array Keyed}(h:KeysOf κ ys)(p:xs.Perm ys):KeysOf κ xs:=λq a=>h q ((agU.mp p).mem_iff.mp a)
theorem Mv{xs:Array Keyed}(h:KeysOf κ xs){i:Nat}(b:i<xs.size):∃a,κ.keyOf xs[i].1=some a:=h _ (afM _)
theorem Dr{xs:Array Keyed}{lo n:Nat}(h:Sd κ xs lo (lo+n))(d:lo+n<=xs.size):((xs.toList.drop lo).take n).Pairwise (kl κ):=by
 refine afG.mpr λi j b a c=>?_;rw[aam,aaq,aag]at b a;rw[ag5,ag4,af3,ag5,ag4,af3];have q:=h (lo+i) (lo+j) ⋯ ⋯ ⋯;rw[cR (show lo+i<xs.size by lia),cR (show lo+j<xs.size by lia)]at q;exact q
theorem Gb{st:SortSt}{i m n S ZL:Nat}{Q:Bool->SortSt->Prop}(hO:κ.OneLt)(h0:KeysOf κ a₀)(D:TB a₀ pd st)(h1:pd[i]?=some (pq d (pq m S)))(h2:pd[i+1]?=some (pq y (pq n ZL)))(a6:y=d+m)(hm:1<=m)(hn:1<=n)(hz:y+n<=a₀.size)(H:Sd κ (arrOf st) d y)(G:Sd κ (arrOf st) y (y+n))
  (h:∀j,TB a₀ ((pd.setIfInBounds i (pq d (pq (m+n) S))).eraseIdxIfInBounds (i+1)) j->Sd κ (arrOf j) d (y+n)->(∀k:Nat,k<d\/y+n<=k->(arrOf j)[k]?=(arrOf st)[k]?)->Q true j):wpS (model prog w) A E s (mergeAt' i) Q st:=by
 have a8:=D.size;have O:KeysOf κ (arrOf st):=Jj h0 D.perm;rw[Cv];refine wpS_bind (wpS_get ?_);dsimp only;rw[D.pend,h1,h2];dsimp only;refine wpS_bind (Qj ?_);have P:TB a₀ ((pd.setIfInBounds i (pq d (pq (m+n) S))).eraseIdxIfInBounds (i+1)) (setPending st ((pd.setIfInBounds i (pq d (pq (m+n) S))).eraseIdxIfInBounds (i+1))):=(D.perm,D.kind,D.failed,7);refine wpS_bind (cM (show y<(arrOf st).size by lia) (wpS_bind (j7 hO P.kind O (Mv O ⋯) (by rw[<-a6];exact H) ⋯ ⋯ λk b0 Z Y=>?_)));dsimp only;have ek:ky κ ((arrOf st)[y]'(by omega))=KK κ (arrOf st) y:=(cR _).symm;rw[ek]at Z Y;have J:∀t,d<=t->t<d+k->κ.kle (KK κ (arrOf st) t) (KK κ (arrOf st) y):=λt a b=>by
  have q:=Z (t-d) ⋯
  rwa [show d+(t-d)=t by lia]at q
 have a5:∀t,d+k<=t->t<y->κ.klt (KK κ (arrOf st) y) (KK κ (arrOf st) t):=λt a b=>by
  have q:=Y (t-d) ⋯ ⋯
  rwa [show d+(t-d)=t by lia]at q
 refine bL (λc=>wpS_pure (h _ P (λt u a b f=>?_) λt _=>rfl)) λc=>?_
 ·have c:m-k=0:=beq_iff_eq.mp c;by_cases M:u<y
  ·exact H t u a b M
  by_cases o:t<y
  ·exact KeyOrd.kle_trans (J t a ⋯) (G y u (aae _) ⋯ f)
  ·exact G t u ⋯ b f
 have c:m-k≠0:=λe=>c (beq_iff_eq.mpr e);refine wpS_bind (cM (show d+k+(m-k)-1<(arrOf st).size by lia) (wpS_bind (nj hO P.kind O (Mv O ⋯) G ⋯ ⋯ λl a9 X W=>?_)));dsimp only;have el:ky κ ((arrOf st)[d+k+(m-k)-1]'(by omega))=KK κ (arrOf st) (y-1):=by
  rw[<-cR];congr 1;lia
 rw[el]at X W;have a2:∀t,y<=t->t<y+l->κ.klt (KK κ (arrOf st) t) (KK κ (arrOf st) (y-1)):=λt a b=>by
  have q:=X (t-y) ⋯
  rwa [show y+(t-y)=t by lia]at q
 have T:∀t,y+l<=t->t<y+n->κ.kle (KK κ (arrOf st) (y-1)) (KK κ (arrOf st) t):=λt a b=>by
  have q:=W (t-y) ⋯ ⋯
  rwa [show y+(t-y)=t by lia]at q
 refine bL (λc=>wpS_pure (h _ P (λt u a b f=>?_) λt _=>rfl)) λc2=>?_
 ·have c:l=0:=beq_iff_eq.mp c;by_cases M:u<y
  ·exact H t u a b M
  by_cases o:t<y
  ·exact KeyOrd.kle_trans (H t (y-1) a ⋯ ⋯) (T u ⋯ f)
  ·exact G t u ⋯ b f
 have c2:l≠0:=λe=>c2 (beq_iff_eq.mpr e);have a4:((arrOf st).extract (d+k) y).size=m-k:=by rw[aiN];lia
 have a3:((arrOf st).extract y (y+l)).size=l:=by rw[aiN];lia
 have xl:((arrOf st).extract (d+k) y).toList=((arrOf st).toList.drop (d+k)).take (m-k):=by
  rw[agY,agF,show y-(d+k)=m-k by lia]
 have yl:((arrOf st).extract y (y+l)).toList=((arrOf st).toList.drop y).take l:=pM _ _ _;have sx:((arrOf st).extract (d+k) y).toList.Pairwise (kl κ):=by
  rw[xl];exact Dr (λt u a b f=>H t u ⋯ b ⋯) ⋯
 have sy:((arrOf st).extract y (y+l)).toList.Pairwise (kl κ):=by
  rw[yl];exact Dr (λt u a b f=>G t u a b ⋯) ⋯
 have x:∀z∈((arrOf st).extract (d+k) y).toList,∃t,d+k<=t/\t<y/\ky κ z=KK κ (arrOf st) t/\z∈(arrOf st).toList:=λz hz=>by
  rw[xl]at hz;obtain⟨f,hd,K,rfl⟩:=oF hz;exact(d+k+f,6,6,(cR K).symm,afM _)
 have p:∀z∈((arrOf st).extract y (y+l)).toList,∃t,y<=t/\t<y+l/\ky κ z=KK κ (arrOf st) t/\z∈(arrOf st).toList:=λz hz=>by
  rw[yl]at hz;obtain⟨f,hd,K,rfl⟩:=oF hz;exact(y+f,6,6,(cR K).symm,afM _)
 have kx:KeysOf κ ((arrOf st).extract (d+k) y):=λz hz=>O z (x z hz).choose_spec.2.2.2;have U:KeysOf κ ((arrOf st).extract y (y+l)):=λz hz=>O z (p z hz).choose_spec.2.2.2;have y0:ky κ (((arrOf st).extract y (y+l))[0]'(by omega))=KK κ (arrOf st) y:=by
  rw[aix];exact(cR ⋯).symm
 have L:ky κ (((arrOf st).extract (d+k) y)[((arrOf st).extract (d+k) y).size-1]'(by omega))=KK κ (arrOf st) (y-1):=by
  rw[aix,<-cR];congr 1;lia
 have hf:∀z∈((arrOf st).extract (d+k) y).toList,kl κ (((arrOf st).extract y (y+l))[0]'(by omega)) z:=λz hz=>by
  obtain⟨t,o,N,e,_⟩:=x z hz;unfold kl;rw[y0,e];exact KeyOrd.kle_of_klt (a5 t o N)
 have hl:∀z∈((arrOf st).extract y (y+l)).toList,kl κ z (((arrOf st).extract (d+k) y)[((arrOf st).extract (d+k) y).size-1]'(by omega)):=λz hz=>by
  obtain⟨t,o,N,e,_⟩:=p z hz;unfold kl;rw[L,e];exact KeyOrd.kle_of_klt (a2 t o N)
 have a0:∀(r:Array Keyed) (j:SortSt),cJ (setPending st ((pd.setIfInBounds i (pq d (pq (m+n) S))).eraseIdxIfInBounds (i+1))) j->Fin (kl κ) (((arrOf st).extract (d+k) y).toList++((arrOf st).extract y (y+l)).toList) r.toList ->
   wpS (model prog w) A E s (do
    modify λv=>setArr v (wr (arrOf v) (d+k) r.toList)
    return (failedOf (<-get)).isNone) Q j:=by
  intro r j hg hF;have a7:r.toList.length=m-k+l:=by rw[hF.1.length_eq,aab,aag,aag,a4,a3]
  have ea:arrOf j=arrOf st:=hg.arr;have B:d+k+r.toList.length<=(arrOf st).size:=by lia
  refine wpS_bind (wpS_modify (wpS_bind (wpS_get ?_)));have e3:failedOf (setArr j (wr (arrOf j) (d+k) r.toList))=none:=hg.failed.trans D.failed;rw[e3];refine wpS_pure (h _ (1,hg.kind.trans D.kind,e3,hg.pend) ?_ ?_)
  ·show (wr (arrOf j) (d+k) r.toList).Perm a₀;rw[ea];refine Array.Perm.trans (agU.mpr ?_) D.perm;rw[QC B,a7];have e4:(arrOf st).toList=(arrOf st).toList.take (d+k)++(((arrOf st).extract (d+k) y).toList++((arrOf st).extract y (y+l)).toList)++(arrOf st).toList.drop (d+k+(m-k+l)):=by
    rw[xl,yl,aay]
    conv=>lhs;rw[<-agk (d+k) (arrOf st).toList]
    congr 1
    conv=>lhs;rw[<-agk (m-k+l) ((arrOf st).toList.drop (d+k))]
    rw[agc,ajh,agc,show d+k+(m-k)=y by lia]
   conv=>rhs;rw[e4]
   exact((ajd _).append hF.1).append (ajd _)
  ·have a1:∀t,KK κ (wr (arrOf st) (d+k) r.toList) t=if ht:d+k<=t/\t<y+l then ky κ (r.toList[t-(d+k)]'(by omega))else KK κ (arrOf st) t:=λt=>by
    have g:=Fp B t;by_cases ht:d+k<=t/\t<y+l
    ·rw[dif_pos ht];rw[if_pos ⋯,aac ⋯]at g;unfold KK ky;rw[g]
    ·rw[dif_neg ht];rw[if_neg ⋯]at g;exact KK_congr g
   have I:∀z∈r.toList,∃t,d+k<=t/\t<y+l/\ky κ z=KK κ (arrOf st) t:=λz hz=>by
    rcases aas.mp (hF.1.mem_iff.mp hz)with hz|hz
    ·obtain⟨t,o,N,e,_⟩:=x z hz;exact(t,o,6,e)
    ·obtain⟨t,o,N,e,_⟩:=p z hz;exact(t,6,N,e)
   have C:∀t,d<=t->t<d+k -> ∀u,d+k<=u->u<y+n->κ.kle (KK κ (arrOf st) t) (KK κ (arrOf st) u):=λt a b u c f=>by
    by_cases M:u<y
    ·exact H t u a ⋯ M
    ·exact KeyOrd.kle_trans (J t a b) (G y u (aae _) ⋯ f)
   have F:∀t,d+k<=t->t<y+l -> ∀u,y+l<=u->u<y+n->κ.kle (KK κ (arrOf st) t) (KK κ (arrOf st) u):=λt a b u c f=>by
    by_cases o:t<y
    ·exact KeyOrd.kle_trans (H t (y-1) ⋯ ⋯ ⋯) (T u c f)
    ·exact G t u ⋯ ⋯ f
   show Sd κ (wr (arrOf j) (d+k) r.toList) d (y+n);rw[ea];intro t u a b f;rw[a1,a1];by_cases tr:d+k<=t/\t<y+l
   ·rw[dif_pos tr];by_cases R:d+k<=u/\u<y+l
    ·rw[dif_pos R];by_cases e:t=u
     ·subst e;exact KeyOrd.kle_refl _
     ·exact afG.mp hF.2 (t-(d+k)) (u-(d+k)) ⋯ ⋯ ⋯
    ·rw[dif_neg R];obtain⟨v,v1,v2,e⟩:=I _ (afL (show t-(d+k)<r.toList.length by lia));rw[e];exact F v v1 v2 u ⋯ f
   ·rw[dif_neg tr];by_cases R:d+k<=u/\u<y+l
    ·rw[dif_pos R];obtain⟨v,v1,v2,e⟩:=I _ (afL (show u-(d+k)<r.toList.length by lia));rw[e];exact C t a ⋯ v v1 ⋯
    ·rw[dif_neg R];by_cases o:t<d+k
     ·by_cases M:u<d+k
      ·exact H t u a b ⋯
      ·exact C t a o u ⋯ f
     ·exact G t u ⋯ b f
  ·intro t ht;show (wr (arrOf j) (d+k) r.toList)[t]?=_;rw[ea,Fp B,if_neg ⋯]
 by_cases V:m-k<=l
 ·rw[if_pos V];exact wpS_bind (Es hO P.kind kx U sx sy ⋯ ⋯ hf hl a0)
 ·rw[if_neg V];exact wpS_bind (Gr hO P.kind kx U sx sy ⋯ ⋯ hf hl a0)
end
def Lay:Nat->List (Nat×Nat×Nat)->Nat->Prop
 |s,[],e=>s=e
 |s,x::r,e=>s=x.1/\1<=x.2.1/\Lay (x.1+x.2.1) r e
theorem p6:∀{P R:List (Nat×Nat×Nat)} {s e:Nat},Lay s (P++R) e ↔ ∃m,Lay s P m/\Lay m R e
 |[],R,s,e=>(λh=>(s,7,h),λ⟨m,b,a⟩=>by cases b;exact a)
 |x::P,R,s,e=>by
  constructor
  ·rintro⟨b,a,f⟩;obtain⟨m,d,c⟩:=p6.mp f;exact(m,(b,a,d),c)
  ·rintro⟨m,⟨b,a,d⟩,c⟩;exact(b,a,p6.mpr (m,d,c))
theorem jr:∀{R:List (Nat×Nat×Nat)} {s e:Nat},Lay s R e->s+R.length<=e /\ ∀x∈R,s<=x.1/\x.1+x.2.1<=e
 |[],s,e,h=>(ah8 h,λx a=>by cases a)
 |y::R,s,e,h=>by
  obtain⟨f,d,b⟩:=h;obtain⟨g,c⟩:=jr b;refine(by rw[aah];lia,λx a=>?_);rcases aat.mp a with rfl|a
  ·lia
  ·have:=c x a;lia
structure Runs(κ:KeyKind)(xs:Array Keyed)(pd:Array (Nat×Nat×Nat))(lo:Nat):Prop where
 lay:Lay 0 pd.toList lo
 sd:∀x∈pd.toList,Sd κ xs x.1 (x.1+x.2.1)
theorem lU{κ:KeyKind}{xs ys:Array Keyed}{lo :Nat}(h:Sd κ xs lo d)(e:∀k:Nat,lo<=k->k<d->ys[k]?=xs[k]?):Sd κ ys lo d:=λi j a b c=>by
 rw[KK_congr (e i a ⋯),KK_congr (e j ⋯ c)];exact h i j a b c
theorem Runs.low{κ:KeyKind}{xs ys:Array Keyed}{lo:Nat}(h:Runs κ xs Z lo)(e:Wx lo xs ys):Runs κ ys Z lo:=
 (h.lay,λx a=>lU (h.sd x a) λk _ b=>e k (by have:=(jr h.lay).2 x a;lia))
theorem Runs.push{κ:KeyKind}{xs:Array Keyed}{lo n p:Nat}(h:Runs κ xs Z lo)(c:1<=n)(b:Sd κ xs lo (lo+n)):Runs κ xs (Z.push (pq lo (pq n p))) (lo+n):=by
 refine(by rw[agD];exact p6.mpr (lo,h.lay,7,c,7),λx a=>?_);rw[agD]at a;rcases aas.mp a with a|a
 ·exact h.sd x a
 ·rw[aao.mp a];exact b
theorem Cd:∀{R b:List (Nat×Nat×Nat)} {s e:Nat},R.map (λx=>(pq x.1 x.2.1))=b.map (λx=>(pq x.1 x.2.1))->Lay s R e->Lay s b e
 |[],[],_,_,_,h=>h
 |[],_::_,_,_,h,_=>by cases h
 |_::_,[],_,_,h,_=>by cases h
 |x::R,y::b,s,e,h,l=>by
  rw[aax,aax]at h;injection h with j i
  injection j with g f
  obtain⟨d,c,a⟩:=l;rw[g]at d a;rw[f]at c a;exact(d,c,Cd i a)
theorem Runs.same{κ:KeyKind}{xs:Array Keyed}{a:Array (Nat×Nat×Nat)}{lo:Nat}(h:Runs κ xs Z lo)(e:Z.toList.map (λx=>(pq x.1 x.2.1))=a.toList.map (λx=>(pq x.1 x.2.1))):Runs κ xs a lo:=by
 refine(Cd e h.lay,λx c=>?_);have d:(pq x.1 x.2.1)∈Z.toList.map (λx=>(pq x.1 x.2.1)):=by
  rw[e];exact aaz.mpr (x,c,7)
 obtain⟨y,b,i⟩:=aaz.mp d;injection i with g f
 have q:=h.sd y b;rw[g,f]at q;exact q
theorem RV{c:Prop}[Decidable c]{n:Nat}(h:¬n<=1):(if c then n-2-1 else n-2)+1<n:=by
 split<;>lia
theorem Bg{a:Type}(l:List I)(i:Nat)(f:I->I)(g:I->a)(h:∀x,g (f x)=g x):(l.modify i f).map g=l.map g:=by
 apply af7;intro t;rw[aak,aak,List.getElem?_modify];cases l[t]? with
 |none=>rfl
 |some x=>
  by_cases e:i=t
  ·simp[e,h]
  ·simp[e]
section
variable{w:World}{a₀:Array Keyed}{κ:KeyKind}{pd:Array (Nat×Nat×Nat)}
theorem lC{st:SortSt}{i lo:Nat}{Q:Bool->SortSt->Prop}(hO:κ.OneLt)(V:KeysOf κ a₀)(U:TB a₀ pd st)(l:Runs κ (arrOf st) pd lo)(T:i+1<pd.size)(Z:lo<=a₀.size)
  (h:∀a D,TB a₀ D a->Runs κ (arrOf a) D lo->D.size+1=pd.size->(∀k:Nat,lo<=k->(arrOf a)[k]?=(arrOf st)[k]?)->Q true a):wpS (model prog w) A E s (mergeAt' i) Q st:=by
 obtain⟨⟨b,m,j⟩,O⟩:∃x,pd[i]?=some x:=(_,getElem?_pos pd i ⋯);obtain⟨⟨g,n,C⟩,N⟩:∃x,pd[i+1]?=some x:=(_,getElem?_pos pd (i+1) T);have f:pd.toList=pd.toList.take i++(pq b (pq m j))::(pq g (pq n C))::pd.toList.drop (i+2):=by
  have X:pd.toList[i]?=some (pq b (pq m j)):=by rw[afP];exact O
  have W:pd.toList[i+1]?=some (pq g (pq n C)):=by rw[afP];exact N
  have z:=aad.mp X;have y:=aad.mp W;obtain⟨z,I⟩:=z;obtain⟨y,H⟩:=y
  conv=>lhs;rw[<-agk i pd.toList]
  rw[afT z,I,afT y,H]
 have d:=l.lay;rw[f]at d;obtain⟨S,M,L,K,u,J,t⟩:=p6.mp d;dsimp only at L K u J t;have Y:=jr M;have B:=jr t;have r:(pq b (pq m j))∈pd.toList:=by rw[f];exact aap _ aan
 have p:(pq g (pq n C))∈pd.toList:=by rw[f];exact aap _ (aaj _ aan)
 have R:=l.sd _ r;have P:=l.sd _ p;dsimp only at R P;refine Gb hO V U O N u.symm K J (by have:=B.1;lia) (by rw[<-u];exact R) P λa G F e=>?_;have v:((pd.setIfInBounds i (pq b (pq (m+n) j))).eraseIdxIfInBounds (i+1)).toList=pd.toList.take i++(pq b (pq (m+n) j))::pd.toList.drop (i+2):=by
  have o:(pd.toList.take i).length=i:=by rw[aam,aag];lia
  rw[Array.toList_eraseIdxIfInBounds,Array.toList_setIfInBounds]
  conv=>lhs;rw[f]
  rw[List.set_append_right _ _ ⋯,o,ag8,List.set_cons_zero,List.eraseIdx_append_of_length_le ⋯,o,agf];rfl
 refine h a _ G (1,λx c=>?_) ?_ λk hk=>e k (.inr (by have:=B.1;lia))
 ·rw[v];refine p6.mpr (S,M,L,by show 1<=m+n;lia,1);show Lay (b+(m+n)) _ lo;rw[show b+(m+n)=g+n by lia];exact t
 ·rw[v]at c;rcases aas.mp c with c|c
  ·have q:=l.sd x (by rw[f];exact afQ _ c);exact lU q λk _ a0=>e k (.inl (by have:=Y.2 x c;lia))
  ·rcases aat.mp c with rfl|c
   ·show Sd κ (arrOf a) b (b+(m+n));rw[show b+(m+n)=g+n by lia];exact F
   ·have q:=l.sd x (by rw[f];exact aap _ (aaj _ (aaj _ c)));exact lU q λk a1 _=>e k (.inr (by have:=B.2 x c;lia))
 ·have:=congrArg ag9 v;rw[aag,aab,aam,aah,aaq,aag]at this;lia
theorem Ls{xs:Array Keyed}{lo n:Nat}(h:WX κ xs lo n):Sd κ xs lo (lo+n):=λi j a b c=>by
 have q:=h (i-lo) (j-lo) ⋯ ⋯
 rwa [show lo+(i-lo)=i by lia,show lo+(j-lo)=j by lia]at q
theorem Du{st:SortSt}{Q:Unit->SortSt->Prop}(hO:κ.OneLt)(O:KeysOf κ a₀)(hB:TB a₀ #[] st)(h2:2<=a₀.size)
  (h:∀a,(arrOf a).Perm a₀->failedOf a=none->SortedToK κ (arrOf a) a₀.size->Q () a):wpS (model prog w) A E s sortRuns' Q st:=by
 rw[sortRuns'_eq];refine wpS_bind (wpS_get ?_);dsimp only;rw[hB.size];refine wpS_bind (wpS_mono (wpS_forRange (I:=λx c a=>∃b pd,c=(pq none b)/\TB a₀ pd a/\Runs κ (arrOf a) pd b/\x<=b/\b<=a₀.size) (Q:=λc a=>∃pd,c=(pq none a₀.size)/\TB a₀ pd a/\Runs κ (arrOf a) pd a₀.size) ?_ ?_ (0,#[],7,hB,(7,λx X=>by cases X),aae _,aaH _)) ?_)
 ·rintro x c S _ X ⟨b,pd,rfl,N,C,YK,G⟩;dsimp only;by_cases T:b >= a₀.size
  ·rw[if_pos T];have:b=a₀.size:=by lia
   subst this;exact wpS_pure (pd,7,N,C)
  rw[if_neg T];refine wpS_bind (Bc hO O N ⋯ ⋯ λm u f a8 a3 b0 o=>?_);dsimp only;have v:=C.low a8;by_cases F:m<minRun' a₀.size a₀.size 0
  ·rw[if_pos F];generalize minRun' a₀.size a₀.size 0=mr at F ⊢;refine wpS_bind (wpS_lift (wpAny_rule (7,1)));refine wpS_bind (xR hO O f ⋯ ⋯ o λR d a7 a6=>?_);rw[if_neg ∅];have B:=v.low a7;have l:=Ls a6;obtain⟨n,hn,P,YZ⟩:∃n,min (a₀.size-b) mr=n/\1<=n/\b+n<=a₀.size:=(9,6,6);rw[hn]at l ⊢;refine wpS_bind (wpS_get ?_);rw[d.pend];cases a5:pd.back? with
   |none=>
    dsimp only;exact wpS_bind (wpS_modify (wpS_pure (b+n,pd.push (pq b (pq n 0)),7,(d.perm,d.kind,d.failed,by show (pendingOf R).push _=_;rw[d.pend]),B.push P l,6,6)))
   |some t=>
    obtain⟨s1,n1,p1⟩:=t;dsimp only;refine wpS_bind (wpS_mono (wpS_forRange (I:=λ_ c a=>c=(pq none (())) /\ ∃e,TB a₀ e a/\Runs κ (arrOf a) e b/\Sd κ (arrOf a) b (b+n)) (Q:=λc a=>c=(pq none (())) /\ ∃e,TB a₀ e a/\Runs κ (arrOf a) e b/\Sd κ (arrOf a) b (b+n)) ?_ ?_ (7,pd,d,B,l)) ?_)
    ·rintro y c r _ _ ⟨rfl,e,g,q,p⟩;refine wpS_bind (wpS_get ?_);rw[g.pend];by_cases z:e.size > 1
     ·rw[if_pos z,getElem?_pos e (e.size-2) ⋯];generalize e[e.size-2]=W;obtain⟨a1,a2,L⟩:=W;dsimp only;refine bL (λ_=>wpS_pure (7,e,g,q,p)) λ_=>wpS_bind (lC hO O g q ⋯ G λWF D K J _ H=>?_);rw[if_neg ∅];exact wpS_pure (7,D,K,J,lU p λk Y _=>H k Y)
     ·rw[if_neg z];exact wpS_pure (7,e,g,q,p)
    ·rintro c r Z;exact Z
    ·rintro c r ⟨rfl,e,g,q,p⟩;dsimp only;refine wpS_bind (wpS_modify (wpS_bind (wpS_modify (wpS_pure (b+n,9,(g.perm,g.kind,g.failed,7),1,6,6)))));show Runs κ (arrOf r) (((pendingOf r).modify ((pendingOf r).size-1) _).push (pq b (pq n 0))) (b+n);rw[g.pend];refine Runs.push (q.same ?_) P p;rw[aiG];refine(Bg _ _ _ _ ?_).symm;exact λ_=>rfl
  ·rw[if_neg F];have d:=f;have B:=v;have l:=Ls o;have P:=a3;refine wpS_bind (wpS_get ?_);rw[d.pend];cases a5:pd.back? with
   |none=>
    dsimp only;exact wpS_bind (wpS_modify (wpS_pure (b+m,pd.push (pq b (pq m 0)),7,(d.perm,d.kind,d.failed,by show (pendingOf u).push _=_;rw[d.pend]),B.push P l,6,6)))
   |some t=>
    obtain⟨s1,n1,p1⟩:=t;dsimp only;refine wpS_bind (wpS_mono (wpS_forRange (I:=λ_ c a=>c=(pq none (())) /\ ∃e,TB a₀ e a/\Runs κ (arrOf a) e b/\Sd κ (arrOf a) b (b+m)) (Q:=λc a=>c=(pq none (())) /\ ∃e,TB a₀ e a/\Runs κ (arrOf a) e b/\Sd κ (arrOf a) b (b+m)) ?_ ?_ (7,pd,d,B,l)) ?_)
    ·rintro y c r _ _ ⟨rfl,e,g,q,p⟩;refine wpS_bind (wpS_get ?_);rw[g.pend];by_cases z:e.size > 1
     ·rw[if_pos z,getElem?_pos e (e.size-2) ⋯];generalize e[e.size-2]=W;obtain⟨a1,a2,L⟩:=W;dsimp only;refine bL (λ_=>wpS_pure (7,e,g,q,p)) λ_=>wpS_bind (lC hO O g q ⋯ G λWF D K J _ H=>?_);rw[if_neg ∅];exact wpS_pure (7,D,K,J,lU p λk Y _=>H k Y)
     ·rw[if_neg z];exact wpS_pure (7,e,g,q,p)
    ·rintro c r Z;exact Z
    ·rintro c r ⟨rfl,e,g,q,p⟩;dsimp only;refine wpS_bind (wpS_modify (wpS_bind (wpS_modify (wpS_pure (b+m,9,(g.perm,g.kind,g.failed,7),1,6,6)))));show Runs κ (arrOf r) (((pendingOf r).modify ((pendingOf r).size-1) _).push (pq b (pq m 0))) (b+m);rw[g.pend];refine Runs.push (q.same ?_) P p;rw[aiG];refine(Bg _ _ _ _ ?_).symm;exact λ_=>rfl
 ·rintro c S ⟨b,pd,rfl,N,C,YK,G⟩;have:b=a₀.size:=by lia
  subst this;exact(pd,7,N,C)
 ·rintro c S ⟨pd,rfl,N,C⟩;dsimp only;refine wpS_bind (wpS_mono (wpS_forRange (I:=λx c a=>c=(pq none (())) /\ ∃pd,TB a₀ pd a/\Runs κ (arrOf a) pd a₀.size/\pd.size+x<=a₀.size) (Q:=λc a=>c=(pq none (())) /\ ∃pd,TB a₀ pd a/\Runs κ (arrOf a) pd a₀.size/\pd.size<=1) ?_ ?_ (7,pd,N,C,1)) ?_)
  ·rintro x c u _ X ⟨rfl,M,f,v,o⟩;refine wpS_bind (wpS_get ?_);rw[f.pend];refine bL (λz=>wpS_pure (7,M,f,v,z)) λz=>?_;refine wpS_bind (lC hO O f v (RV z) (aae _) λR a0 d B a9 _=>?_);rw[if_neg ∅];exact wpS_pure (7,a0,d,B,6)
  ·rintro c u ⟨rfl,M,f,v,o⟩;exact(7,M,f,v,6)
  ·have:=(jr C.lay).1;rw[aag]at this;lia
  ·rintro c u ⟨rfl,M,f,v,o⟩;refine wpS_pure (h u f.perm f.failed λi j a4 hj=>?_);have U:M.toList.length<=1:=by rw[aag];exact o
   have V:=v.lay;have hd:=v.sd
   match hpl:M.toList,U with
   |[],_=>
    rw[hpl]at V;have:0=a₀.size:=V;lia
   |[y],_=>
    rw[hpl]at V hd;obtain⟨y1,y2,y3⟩:=V;have y3:y.1+y.2.1=a₀.size:=y3;exact hd y aan i j ⋯ a4 ⋯
end
section
variable{w:World}
theorem zf{κ:PyProof.Rows.KeyKind}(hO:κ.OneLt){l:Addr}{vs:List Value}{n:Nat}{Q:PySem.Fin->Shared->Prop}(k:s.heap.get? l=some (seqObj "list" vs.toArray n))(F:KeysOf κ (pairsOf vs))(D:∀u v r,vs=u::v::r->keyKind' (u::v::r).toArray=pure oneType')(hz:vs.length<=100000)
  (h:∀z:SortSt,(arrOf z).Perm (pairsOf vs)->SortedToK κ (arrOf z) (pairsOf vs).size->Q (.done (.ret .none)) {s with heap:=sortedHeap s.heap l vs ((arrOf z).map (·.2))}):wpAny (model prog w) A (Builtin.«list.sort» ([.ref l],[])) Q E s:=by
 have m:=Heap.lt_size k;have c:vs.length<=sizeLine:=by rw[sizeLine_eq];lia
 obtain⟨e,t⟩:∃e,(s.heap.update l (Obj.mapSeq λ_=>#[])).get? l=some (seqObj "list" #[] e):=(_,get?_update_seq k (λ_=>#[]))
 have a:(((s.heap.update l (Obj.mapSeq λ_=>#[])).push (seqObj "tuple" vs.toArray 0)).push (seqObj "list" #[] 0)).get? l=some (seqObj "list" #[] e):=by
  have o:l<(s.heap.update l (Obj.mapSeq λ_=>#[])).objs.size:=by rw[Heap.size_update];exact m
  rw[Heap.get?_push_ne _ _ _ (by rw[size_push'];exact ae2 (ag3 o)),Heap.get?_push_ne _ _ _ (ae2 o)];exact t
 rw[list_sort_plain];refine wpAny_bind (listItems_at k rfl (wpAny_bind (listUpdate_at k rfl ?_ (by show vs.toArray.size<=sizeLine;rw[aaT];exact c) (by show 0<=_;exact aaH _))));refine wpAny_bind (seqEpoch_at t rfl (wpAny_bind (wpAny_newTuple ?_ (by simpa using c))));refine wpAny_bind (wpAny_newList (wpAny_holding ?_))
 show wpAny (model prog w) A _ Q E {s with heap:=((s.heap.update l (Obj.mapSeq λ_=>#[])).push (seqObj "tuple" vs.toArray 0)).push (seqObj "list" #[] 0)}
 dsimp only;have x:vs.toArray.size=vs.length:=by simp
 have d:∀z:SortSt,(arrOf z).Perm (pairsOf vs)->((arrOf z).map (·.2)).size<=sizeLine+1:=λz g=>by
  rw[Array.size_map,g.size_eq,pairsOf_size];lia
 by_cases b:vs.toArray.size<2
 ·rw[if_pos b,if_pos b];refine wpAny_bind (wpAny_pure ?_);rw[StateT.run_pure];refine wpAny_bind (wpAny_pure (wpAny_bind (seqEpoch_at a rfl (wpAny_bind (listUpdate_at a rfl ?_ (aaH _) (d (SortSt.mk' general' (vs.toArray.zip vs.toArray) #[] 7 none) (aiy _)))))));simp only[bne_self_eq_false,agw,if_false];refine wpAny_pure (h (SortSt.mk' general' (vs.toArray.zip vs.toArray) #[] 7 none) (aiy _) λi j G B=>?_);rw[pairsOf_size]at B;have:i=j:=by lia
  subst this;exact KeyOrd.kle_refl _
 ·rw[if_neg b,if_neg b];obtain⟨u,v,r,rfl⟩:∃u v r,vs=u::v::r:=by
   match vs,x,b with
   |[],_,z=>exact absurd ∅ z
   |[_],_,z=>exact absurd (by show 1<2;decide) z
   |u::v::r,_,_=>exact(u,v,r,7)
  rw[D _ _ _ rfl];refine wpAny_bind (wpAny_pure (wpAny_bind (wpAny_mono (Du (κ:=κ) hO (a₀:=pairsOf (u::v::r)) (st:=SortSt.mk' oneType' ((u::v::r).toArray.zip (u::v::r).toArray) #[] 7 none)
   (Q:=λ_ z=>(arrOf z).Perm (pairsOf (u::v::r))/\failedOf z=none/\SortedToK κ (arrOf z) (pairsOf (u::v::r)).size) F (aiy _,7,7,7) (by rw[pairsOf_size,aah,aah];lia) λz p f q=>(p,f,q)) ?_ λ_ _ q=>q)))
  rintro⟨⟨⟩,z⟩ H ⟨rfl,g,C,y⟩;dsimp only;refine wpAny_bind (seqEpoch_at a rfl (wpAny_bind (listUpdate_at a rfl ?_ (aaH _) (d z g))));rw[C];simp only[bne_self_eq_false,agw,if_false];exact wpAny_pure (h z g y)
end
@[reducible] def zr:PyProof.Rows.KeyKind where
 α:=Int
 blt a b:=decide (a<b)
 irrefl a:=decide_eq_false (Int.lt_irrefl a)
 trans a b c h1 h2:=decide_eq_true (Int.lt_trans (of_decide_eq_true h1) (of_decide_eq_true h2))
 negTrans a b c h:=by
  have h:=of_decide_eq_true h;by_cases q:a<b
  ·exact .inl (decide_eq_true q)
  ·exact .inr (decide_eq_true ⋯)
 total a b h1 h2:=by
  have h1:=of_decide_eq_false h1;have h2:=of_decide_eq_false h2;lia
 keyOf v:=match v with | .int n _=>some n|_=>none
 dflt:=0
theorem Jr:zr.OneLt:=by
 intro e w A E s x y a b Q d c h;cases x<;>simp only[zr,reduceCtorEq,aiW]at d;cases y<;>simp only[zr,reduceCtorEq,aiW]at c;cases d;cases c;exact oneLt_int h
theorem Ox(xs:Array Keyed)(i:Nat):KK zr xs i=PyProof.Rows.K xs i:=by
 unfold KK PyProof.Rows.K;cases xs[i]? with
 |none=>rfl
 |some p=>
  obtain⟨x,q⟩:=p;cases x<;>rfl
section
variable{w:World}
theorem IK{l:Addr}{vs:List Value}{ns:List Int}{n:Nat}{Q:PySem.Fin->Shared->Prop}(k:s.heap.get? l=some (seqObj "list" vs.toArray n))(c:IntsAre vs ns)(hz:vs.length<=100000)
  (h:∀(out:Array Value) (a:List Int),IntsAre out.toList a->a.Perm ns->a.Pairwise (· <= ·)->Q (.done (.ret .none)) {s with heap:=sortedHeap s.heap l vs out}):wpAny (model prog w) A (Builtin.«list.sort» ([.ref l],[])) Q E s:=by
 refine zf Jr k (λp b=>?_) (λu v r e=>?_) hz λz b g=>?_
 ·obtain⟨m,t,e⟩:=c.intKeys p b;exact(m,by rw[e])
 ·subst e;exact keyKind_ints c
 ·have d:SortedTo (arrOf z) (pairsOf vs).size:=λi j f o=>by
   have q:=g i j f o;rw[Ox,Ox]at q;have q:=of_decide_eq_false q;lia
  obtain⟨a,B,y,x⟩:=sorted_out c b d;exact h _ a B y x
end
open PySem.Spec
section
variable{w:World}
theorem DQ{Q:Value->Shared->Prop}(C:A.handled=none)(J:jH (dR w) (intKind prog w) s.heap S c)
  (h:∀(D:Addr) (h':Heap) d tk (vs:List Value) (ns:List Int) (e:Nat),s.heap.objs.size<=D->(∀b o,s.heap.get? b=some o->h'.get? b=some o)->h'.get? D=some (seqObj "list" vs.toArray e)->IntsAre vs ns->agh ns c->ns.Pairwise (· <= ·)->ns.length<=4096->Q (.ref D) {s with heap:=h',drawn:=d,toks:=tk}):
  wpAny (model prog w) A (call (.builtin "sorted") [.ref S]) Q E s:=by
 obtain⟨o,R,T,t,P,B,q,hd,H,F,I,K⟩:=J;have N:scanBound=4096:=rfl;refine Calls.call_function_entry kind_sorted plain_sorted entry_sorted (args_sorted1 _) ?_;unfold Builtin.«sorted»
 refine wpAny_bind (m:=checkCount "sorted" 1 1 _) (wpAny_pure ?_)
 refine wpAny_bind (tX (by simp[C]) (B,hd,F) q.1 H I λf k d tk O z u n r=>?_);obtain⟨ns,v,p⟩:=J5 K z u;have j:f.toList.length<=4096:=by rw[aag,u.1];lia
 refine wpAny_bind (wpAny_newList ?_ (by rw[sizeLine_eq];lia))
 have a:(k.push (seqObj "list" f.toList.toArray 0)).get? k.objs.size=some (seqObj "list" f.toList.toArray 0):=Heap.get?_push_size _ rfl
 refine wpAny_bind (wpAny_holding (wpAny_call_entry slot_list_sort (_,a,7) entry_list_sort (IK a v ⋯ λg l M y L=>(9,1)) (args_list_sort _)));refine wpAny_pure (9,1);obtain⟨e,G⟩:=sortedHeap_at (out:=g) a;refine h k.objs.size _ d _ g.toList l e (agW n) (λb o x=>?_) (by simpa using G) M (y.trans p) L (by rw[y.length_eq,<-v.length];exact j);have i:=Heap.lt_size (r _ _ x);rw[sortedHeap_old (ae2 i) (by rw[Heap.size_push];exact ag3 i)];exact Heap.get?_push_of_some _ (r _ _ x)
end
end Tw
namespace L2
open PySem.Spec PyProof.Rows Tw
theorem zW(t:X.calm=true):eE X (.builtin "sorted") (λxs H Q=>∃(p:Addr) (a:List Int),xs=[.ref p]/\H p=some (R6 X.prog X.w p a) /\
  ∀l ms,H l=none->agh ms a->ms.Pairwise (· <= ·)->Q (.ref l) (upd H l (.lst !!ms))):=by
 intro A s z H xs B Q I r h;obtain⟨p,a,rfl,m,q⟩:=h;obtain⟨u,rfl,i⟩:=vals1 r;cases i;have v:jH (dR X.w) (intKind X.prog X.w) s.heap p a:=(I.hok p _ m).1;refine DQ (I.ok.hd t) v λD y d g f j e c n o x b k C=>?_;exact(.ref D,_,(I.laid (t':=g) n c (show b7 X.prog X.w _ y D (.lst !!j)from (by rw[aaa,sizeLine_eq];lia,f,e,sJ x,o))).drawnTo d,7,q _ _ (I.hok.fresh c) b k)
def T7(i:Nat)(f:Addr)(sp:Sp)(E:XK)(t:TA):TE:=λ a H Q=>a[i]?=some (!!!f)/\t a H λb c=>sp b c Q E
theorem Ca{X:Cx}{CX:WP}{j k i:Nat}{f:Addr}{ps:List Str}{sp:Sp}{E:XK}{x:Str}{p pos:Pos}{e:Expr}{es:List Expr}{t:TA}(F:bI X.prog X.w X.K X.mg X.base CX j f B ps sp)(J:j<=k)(D:jj k X.A)(o:iD CX X E)(L:X.N[i]?=some x)(G:PySem.W.keepIn X.K (.ref f)=true)(O:Binds X.K B ps [])(P:PA X (e::es) t)
  (y:Zo X.env.scope x:=by first|exact agH rfl|exact ahH (agH rfl) | exact ahH (ahH rfl))(hd:(x==("__debug__" : Str))=false:=by decide)(b:(x==("__classdict__" : Str))=false:=by decide)
  (M:starEach (e::es) X.env=(pq false (eval e X.env))::starEach es X.env:=by rfl)(a:(backTo pos (starEach es X.env)).any (·.1)=false:=by rfl):PE X (.Call (.Name x p) (e::es) [] pos) (T7 i f sp E t):=by
 intro d s c H Q I h;obtain⟨C,h⟩:=h;refine wpAny_Call_Name_kw (VL (Oa L y hd b d s c H (λv S=>v=.ref f/\S=H) I (_,C,7,7)) λu m z=>?_);obtain⟨v,R,l,n,rfl,rfl⟩:=z;obtain rfl:u=Value.ref f:=n;refine PySem.W.callWith_K (h₀:=X.base) l.ok.mod.Yx G (VL (P pos d m c R _ l h) λU V ⟨T,Y,g,r,q⟩=>(g.Wt,1)) M a;exact OJ (F.mono J) D O .nil o g r (by rw[afR];exact q)
inductive TrC(h:Heap)(base:Heap)(e:Addr)(cls:Value)(a0:Value)(cx:Value)(fl:Value):Prop
 | mk (o vs T p ts:_) (_:h.get? e=some o) (_:o.cls=cls) (_:o.data=.fields vs) (_:vs[0]?=some a0) (_:vs[2]?=some cx) (_:vs[1]?=!!!T) (_:base.get? T=none) (_:T≠e) (_:h.get? T=some p) (_:p.data=.fields ts) (_:ts[3]?=some fl)
structure iT(base:Heap)(l:List Env)(e:Addr)(cls a0 cx fl:Value)(h:Heap):Prop where
 stay:base.StaysIn h
 new:base.get? e=none
 fun_:h.FunFrames base l
 tr:TrC h base e cls a0 cx fl
abbrev FW(base:Heap)(l:List Env)(e:Addr)(a c b:Value)(h:Heap):Prop:=iT base l e a c .none b h
inductive LK(e:Addr)(h:Heap):Prop
 | mk (o vs:_) (_:h.get? e=some o) (_:o.data=.fields vs) (_:vs[2]?=some Value.none)
section
variable{l:List Env}{e L:Addr}{cls a0 cx fl:Value}
theorem TrC.w(x:TrC h base e cls a0 cx fl):h.TracedAtW base e cls a0 fl:=by
 obtain⟨o,a,T,p,b,q,n,m,k,r,j,i,g,f,d,c⟩:=x;exact(o,a,T,p,b,q,(n,k),m,j,i,g,f,d,c)
theorem iT.w(x:iT base l e cls a0 cx .none h):Heap.FlyingW base l e cls a0 h:=(x.stay,x.new,x.fun_,x.tr.w)
theorem iT.tail{env:Env}(x:iT base (env::l) e cls a0 cx fl h):iT base l e cls a0 cx fl h:=(x.stay,x.new,x.fun_.2.2,x.tr)
end
section
variable{M:Model}{l:List Env}{env:Env}{e L:Addr}{cls a0 cx fl:Value}{Q:Unit->Shared->Prop}
theorem zP{T:Addr}{p:Obj}(c:h'.get? T=some p)(hd:p.data=.fields G){b:Addr}{o:Obj}(a:h'.get? b=some o)(n:∀vs,o.data ≠ .fields vs):T≠b:=by
 rintro rfl;rw[c]at a;cases a;exact n _ hd
theorem Er(y:iT base l e cls a0 cx fl s.heap):
  ∃o vs T p f,s.heap.get? e=some o/\o.data=.fields vs/\vs[1]?=some (.ref T)/\s.heap.get? T=some p/\p.data=.fields f/\f[3]?=some fl /\
   ∀(x:Value) (Q:Unit->Shared->Prop),(∀h',iT base l e cls a0 cx x h'->s.heap.UpToSlots h'->Q () {s with heap:=h'})->wpAny M A (setField (.ref T) 3 x) Q E s:=by
 obtain⟨u,v,B,o,vs,T,p,f,t,F,r,D,C,q,m,j,g,d,i⟩:=y;have h:3<f.size:=(agC.mp i).1;have c:∀x b,T≠b->(s.heap.update T (Obj.mapFields (·.setIfInBounds 3 x))).get? b=s.heap.get? b:=λx b a=>Heap.get?_update_other _ _ a;refine(o,vs,T,p,f,t,r,q,g,d,i,λx Q k=>wpAny_setField g d h (k _ (λb w a=>?_,v,B.of_keeps λb w a n=>(w,1,7),1) λb w a n=>(w.slots,1)))
 ·rw[c x b λz=>by rw[<-z,m]at a;cases a];exact u b w a
 ·rw[c x b (zP g d a n)];exact a
 ·exists o,vs,T,_,_,1,F,r,D,C,q,m,j,Heap.get?_update_self _ g (Obj.isFreed_of_fields (Obj.data_mapFields d _)),Obj.data_mapFields d _
  ·rw[c x e j];exact t
  ·simp[h]
 ·rw[c x b (zP g d a n)];exact a
theorem jC{f:Option Addr}(y:iT base l e cls a0 cx fl s.heap)(k:∀h',iT base l e cls a0 cx (f.elim .none λf=>rawInt f) h'->s.heap.UpToSlots h'->Q () {s with heap:=h'}):wpAny M A (setFlight (.ref e) f) Q E s:=by
 obtain⟨o,d,T,p,h,c,b,a,m,j,i,g⟩:=Er (M:=M) (A:=A) (E:=E) y;unfold setFlight;refine wpAny_bind (wpAny_field c b a ?_);have:(Value.ref T != Value.none)=true:=by simp
 rw[if_pos this];exact g _ _ k
theorem rD{o:Obj}{vs:Array Value}{b:Bool}(P:A.frames=some (env::outer))(R:env.frame=some L)(st:base.StaysIn s.heap)(D:base.get? e=none)(j:s.heap.FunFrames base (env::outer))
  (m:s.heap.get? e=some o)(f:o.data=.fields vs)(S:vs[0]?=some a0)(K:vs[2]?=some cx)
  (k:∀h',iT base (env::outer) e o.cls a0 cx (rawInt L) h'->s.heap.UpToSlots h'->Q () {s with heap:=h'}):
  wpAny M A (do let x <-frameOf env;let y <-entryPlaceOf L b;let z <-EntryCells.newEntry cd x .none (rawInt L) .none y;setField (.ref e) 1 z) Q E s:=by
 have B:2<vs.size:=(agC.mp K).1;have G:1<vs.size:=ait ∅ B;have v:e∉(env::outer).filterMap (·.frame):=λz=>by
  obtain⟨_,q,H,t⟩:=j.mem z;rw[m]at H;cases H;exact t _ f
 refine wpAny_bind (wpAny_frameOf_fun P j R λd h=>?_);refine wpAny_bind (wpAny_entryPlaceOf λi N=>?_);unfold EntryCells.newEntry newFields;refine wpAny_bind (wpAny_newObj_type ?_ (N.sizeOk5 ..));have J:d.get? e=some o:=(h.2.1 e v).trans m;have g:base.StaysIn d:=λa w c=>by
  rw[h.2.1 a λz=>by rw[(j.mem z).1]at c;cases c];exact st a w c
 generalize O:({cls:=.type "traceback",dict:=none,data:=.fields ([cd,.ref L,.none,rawInt L,.none]++(if i.isEmpty then aai 6 Value.none else i)).toArray}:Obj)=p
 have C:p.data=.fields ([cd,.ref L,.none,rawInt L,.none]++(if i.isEmpty then aai 6 Value.none else i)).toArray:=by rw[<-O]
 have t:p.isFreed=false:=Obj.isFreed_of_fields C;have I:(d.push p).get? e=some o:=Heap.get?_push_of_some _ J;have F:d.objs.size≠e:=air (Heap.lt_size J);refine wpAny_setField I f G (k _ (λa w c=>?_,D,j.of_keeps λa w c n=>?_,1) λa w c n=>?_)
 ·rw[Heap.get?_update_other _ _ λz=>by rw[<-z,D]at c;cases c];exact Heap.get?_push_of_some _ (g a w c)
 ·obtain⟨r,u⟩:=h.2.2 a w c;refine({w with slots:=r},1,7);rw[Heap.get?_update_other _ _ (zP m f c n)];exact Heap.get?_push_of_some _ u
 ·exists _,_,d.objs.size,p,_,Heap.get?_update_self _ I (Obj.isFreed_of_fields (Obj.data_mapFields f _)),Obj.cls_mapFields ..,Obj.data_mapFields f _,1,1,1,g.fresh,F,1,C
  ·rw[ag6 ∅];exact S
  ·rw[ag6 ∅];exact K
  ·simp[G]
  ·rw[Heap.get?_update_other _ _ (agB F)];exact Heap.get?_push_size d t
  ·simp
 ·obtain⟨r,u⟩:=h.2.2 a w c;exists r;rw[Heap.get?_update_other _ _ (zP m f c n)];exact Heap.get?_push_of_some _ u
theorem zj{o:Obj}{vs:Array Value}(g:A.frames=some (env::outer))(a:env.frame=some L)(st:base.StaysIn s.heap)(d:base.get? e=none)(f:s.heap.FunFrames base (env::outer))
  (c:s.heap.get? e=some o)(b:o.data=.fields vs)(j:vs[0]?=some a0)(h:vs[1]?=some Value.none)(i:vs[2]?=some cx)
  (k:∀h',iT base (env::outer) e o.cls a0 cx (rawInt L) h'->s.heap.UpToSlots h'->Q () {s with heap:=h'}):wpAny M A (noteFrame (.ref e) env) Q E s:=by
 unfold noteFrame;simp only[a];refine wpAny_bind (wpAny_field c b h ?_);rw[if_neg ∅];exact rD g a st d f c b j i k
theorem vm(x:A.frames=some (env::outer))(c:env.frame=some L)(y:iT base (env::outer) e cls a0 cx .none s.heap)
  (k:∀h',iT base (env::outer) e cls a0 cx (rawInt L) h'->s.heap.UpToSlots h'->Q () {s with heap:=h'}):wpAny M A (noteFrame (.ref e) env) Q E s:=by
 obtain⟨o,h,T,p,m,b,a,d,D,C,B,g⟩:=Er (M:=M) (A:=A) (E:=E) y;unfold noteFrame;simp only[c];refine wpAny_bind (wpAny_field b a d ?_);have u:(Value.ref T != Value.none)=true:=by simp
 rw[if_pos u];refine wpAny_bind (wpAny_field D C B ?_);have t:¬((Value.none==rawInt L)=true):=by simp[rawInt]
 rw[if_neg t];refine wpAny_bind (g _ _ λh' f i=>?_);obtain⟨n,q,w,o,h,H,p,m,b,rfl,a,G,F,d,r⟩:=f;exact rD (s:={s with heap:=h'}) x c n q w b a G F λv z j=>k v z (i.trans j)
theorem Fd(i:A.frames=some (env::outer))(j:env.frame=some L)(y:iT base (env::outer) e cls a0 cx .none s.heap)
  (k:∀h',iT base outer e cls a0 cx .none h'->s.heap.UpToSlots h'->Q () {s with heap:=h'}):wpAny M A (leaving env (.ref e)) Q E s:=by
 unfold leaving;refine wpAny_bind (vm i j y λh b d=>?_);exact jC (s:={s with heap:=h}) (f:=none) b λg a c=>k g a.tail (d.trans c)
theorem sO{o:Obj}{vs:Array Value}(m:A.frames=some (env::outer))(n:env.frame=some L)(st:base.StaysIn s.heap)(g:base.get? e=none)(j:s.heap.FunFrames base (env::outer))
  (u:s.heap.get? e=some o)(t:o.data=.fields vs)(r:vs[0]?=some a0)(p:vs[1]?=some Value.none)(q:vs[2]?=some cx)
  (k:∀h',iT base outer e o.cls a0 cx .none h'->s.heap.UpToSlots h'->Q () {s with heap:=h'}):wpAny M A (leaving env (.ref e)) Q E s:=by
 unfold leaving;refine wpAny_bind (zj m n st g j u t r p q λi b d=>?_);exact jC (s:={s with heap:=i}) (f:=none) b λh a c=>k h a.tail (d.trans c)
theorem QG{A':Around}{Qx:Value->Unit->Shared->Prop}{Ex:Value->Value->Shared->Prop}{o:Obj}{vs:Array Value}(c:A'.frames=some (env::outer))(b:env.frame=some L)(st:base.StaysIn s.heap)(n:base.get? e=none)(u:s.heap.FunFrames base (env::outer))
  (G:s.heap.get? e=some o)(F:o.data=.fields vs)(D:vs[0]?=some a0)(B:vs[1]?=some Value.none)(C:vs[2]?=some cx)
  (k:∀h',iT base outer e o.cls a0 cx .none h'->s.heap.UpToSlots h'->Qx (.ref e) () {s with heap:=h'}):notedBy M A' env (cameBackBy M A env (λx s'=>wpAny M A (leaving env x) (Qx x) (Ex x) s')) (.ref e) s:=by
 refine zj c b st n u G F D B C λt d m=>?_;obtain⟨J,H,T,p,I,z,V,y,U,S,v,R,P,O,N,K⟩:=id d.tr;refine wpAny_bind (wpAny_field z y v ?_);have q:¬((Value.ref T==Value.none)=true):=by simp
 rw[if_neg q];refine jC (s:={s with heap:=t}) (f:=env.frame) d λg a j=>?_;rw[b]at a;show wpAny M A (leaving env (.ref e)) (Qx (.ref e)) _ {s with heap:=g};unfold leaving;refine wpAny_bind (wpAny_noteFrame_againW b a.tr.w ?_);exact jC (s:={s with heap:=g}) (f:=none) a λr h i=>k r h.tail ((m.trans j).trans i)
end
theorem xq:entryFor table "proto.unchain" = some Builtin.«proto.unchain»:=entryFor_of_tree (by kernel_rfl)
section
variable{w:World}{env:Env}
theorem Bu{e ea:Addr}{o:Obj}{vs:Array Value}{Q:I->Shared->Prop}(f:A.handled=!!!ea)(b:ea≠e)(n:LK ea s.heap)(a:s.heap.get? e=some o)(g:o.data=.fields vs)(d:2<vs.size)
  (k:E (.ref e) {s with heap:=s.heap.update e (Obj.mapFields (·.setIfInBounds 2 (.ref ea)))}):wpAny (model prog w) A (raiseNew (.ref e):Sem I) Q E s:=by
 unfold raiseNew;refine wpAny_bind (wpAny_handled ?_);rw[f];have c:(Value.ref ea != Value.ref e)=true:=by simpa using b
 obtain⟨m,l,j,i,h⟩:=n;simp only[c,if_true];refine wpAny_bind (wpAny_holding (wpAny_runValue (codeAny_builtin xq ?_)));unfold Builtin.«proto.unchain»;refine wpAny_bind (wpAny_field j i h ?_);simp only[beq_self_eq_true,if_true];refine wpAny_bind (wpAny_pure (wpAny_pure ?_));refine wpAny_bind ?_;unfold updateField;refine wpAny_bind (wpAny_load a ?_);rw[g];simp only[d,if_true];exact wpAny_update a (wpAny_throw k)
theorem Fi{x:Sem Value}{c:Sem Value}{ea C:Addr}{nm q:Str}{N:Addr}{bs bm:List Value}{hdct:Bool}{sn:List Str}{sub:List Value}{ab:Bool}{col:Option Bool}{dd:Option Addr}{k0 k1 k2 k3 k5:Option Value}{newId:String}{Q:Flow->Shared->Prop}
  (i:bm.contains (.type "BaseException")=true)(I:A.handled=!!!ea)(J:∀s,wpAny (model prog w) A c (λv s'=>v=.none/\s'=s) E s)
  (h:wpAny (model prog w) A x (λv f=>∃e t,v=.ref e/\f.heap.get? C=some (excClassObj nm q C N bs bm hdct sn sub ab col dd k0 k1 k2 k3 k5 newId)/\LK ea f.heap/\ea≠e /\
   f.heap.get? e=some {cls:=.ref C,data:=.fields #[.ref t,.none,.none,.none,.bool false,.none]} /\
   ∀h',(∀b,b≠e->h'.get? b=f.heap.get? b)->h'.get? e=some {cls:=.ref C,data:=.fields #[.ref t,.none,.ref ea,.none,.bool true,.none]}->E (.ref e) {f with heap:=h'}) E s):
  wpAny (model prog w) A (raiseStmt env (some x) (some c)) Q E s:=by
 have m:(Value.ref C::bm).contains (.type "BaseException")=true:=by rw[List.contains_cons,i,Bool.or_true]
 unfold raiseStmt;refine wpAny_bind (wpAny_mono h (λv f L=>?_) λ_ _ z=>z);obtain⟨e,t,rfl,r,n,y,p,K⟩:=L;refine wpAny_bind (wpAny_holding (wpAny_mono (J f) (λv F z=>?_) λ_ _ z=>z));obtain⟨rfl,rfl⟩:=z;refine wpAny_bind (wpAny_pure ?_);obtain⟨u,g,d,D,G⟩:=F
 repeat (first|with_reducible refine wpAny_loadPart_at p ?_|with_reducible refine wpAny_loadPart_at r ?_ | (with_reducible refine wpAny_isSubtype_exc r ?_;rw[m]) | wp_step)
 have M:e≠C:=by
  rintro rfl;rw[show u.get? e=_ from r]at p;cases p
 generalize l:(u.update e (Obj.mapFields λx=>x.setIfInBounds 3 Value.none)).update e (Obj.mapFields λx=>x.setIfInBounds 4 (Value.bool true))=a;have j:∀b,b≠e->a.get? b=u.get? b:=λb i=>by rw[<-l,Heap.get?_update_other _ _ (agB i),Heap.get?_update_other _ _ (agB i)]
 have k:a.get? e=some {cls:=.ref C,data:=.fields #[.ref t,.none,.none,.none,.bool true,.none]}:=by
  have z:=Heap.get?_update_self (Obj.mapFields λx=>x.setIfInBounds 3 Value.none) p rfl;rw[<-l,Heap.get?_update_self _ z rfl];rfl
 have o:a.get? C=_:=(j C (agB M)).trans r
 repeat (first|with_reducible refine wpAny_loadPart_at k ?_|with_reducible refine wpAny_loadPart_at o ?_ | (with_reducible refine wpAny_isSubtype_exc o ?_;rw[m]) | wp_step)
 obtain⟨H,B,R,P,O⟩:=n;refine Bu (s:=(a,g,d,D,G)) I y (H,B,(j ea y).trans R,P,O) k rfl (by show 2<6;decide) (K _ (λb i=>?_) ?_)
 ·rw[Heap.get?_update_other _ _ (agB i)];exact j b i
 ·rw[Heap.get?_update_self _ k rfl];rfl
theorem tZ{mN:Str->Option Value}{x:Str}{cp pos:Pos}{j:Nat}{ea C:Addr}{nm q:Str}{N:Addr}{bs bm n M:List Value}{hdct:Bool}{sn:List Str}{sub:List Value}{ab:Bool}{col:Option Bool}{dd:Option Addr}{k0 k1 k2 k3 k5:Option Value}{B R newId G k I:String}{Q:Flow->Shared->Prop}
  (Fn:ExcBaseFacts R newId I M)(L:n.contains (.type R)=true)(F:ExcBaseFacts B G k n)(r:bm.contains (.type "BaseException")=true)(Y:A.handled=!!!ea)
  (W:(backTo apos (starEach es env)).any (·.1)=false)(K:mN "__init__" = none)
  (h:wpAny (model prog w) A (eval (.Name x p) env) (λf O=>f=.ref C/\wpAny (model prog w) A (evalArgs (.ref C) true (backTo apos (starEach es env)) [])
   (λa c=>a.kw=[]/\a.pos.length<=sizeLine/\c.heap.get? C=some (excClassObj nm q C N bs bm hdct sn sub ab col dd k0 k1 k2 k3 k5 newId)/\c.heap.Ns N mN/\OwnTail c.heap n bm/\LK ea c.heap /\
    ∀i e t,(∀b o,c.heap.get? b=some o->i.get? b=some o)->c.heap.get? e=none->c.heap.get? t=none->i.get? t=some {cls:=.type "tuple",data:=.seq a.pos.toArray} ->
     i.get? e=some {cls:=.ref C,data:=.fields #[.ref t,.none,.ref ea,.none,.bool true,.none]}->E (.ref e) {c with heap:=i}) E O) E s):
  wpAny (model prog w) A (exec (.Raise (some (.Call (.Name x p) es [] apos)) (some (.Constant .none j cp)) pos) env) Q E s:=by
 rw[arm_exec_Raise];simp only[evalOpt,Option.map];refine wpAny_bind (wpAny_standAt (Fi (C:=C) (nm:=nm) (q:=q) (N:=N) (bs:=bs) (bm:=bm) (hdct:=hdct) (sn:=sn) (sub:=sub) (ab:=ab) (col:=col) (dd:=dd) (k0:=k0) (k1:=k1) (k2:=k2) (k3:=k3) (k5:=k5) (newId:=newId) r Y (λs=>?_) ?_))
 ·exact wpAny_bind (wpAny_Constant_none (wpAny_bind (wpAny_standAt (wpAny_pure (7,7)))))
 refine wpAny_bind (wpAny_mono (wpAny_Call_ofName (wpAny_mono h (λf O i=>?_) λ_ _ z=>z)) (λv s3 Z=>wpAny_bind (wpAny_standAt (wpAny_pure Z))) λ_ _ z=>z);obtain⟨rfl,i⟩:=i;unfold callWith;refine wpAny_bind (wpAny_holding (wpAny_mono i (λa c y=>wpAny_bind (wpAny_standAt ?_)) λ_ _ z=>z));obtain⟨ap,ak⟩:=a;obtain⟨z,H,u,X,T,V,y⟩:=y;obtain rfl:ak=[]:=z;obtain⟨hq,g,d,tk,os⟩:=c;simp only[W];refine wpAny_bind (wpAny_keeperOf_exc u (wpAny_bind (wpAny_call_exc_subU (hrest:=H) Fn L F T u X K λh' e l=>wpAny_bind (wpAny_holding (wpAny_point (wpAny_pure ?_))))));obtain⟨t,ht,J,m⟩:=l.there;obtain⟨U,S,D,a2,a3⟩:=V;refine(e,t,7,l.keeps _ _ u,(U,S,l.keeps _ _ D,a2,a3),λz=>(by rw[z,l.new]at D;cases D),ht,λi P e1=>y i e t (λb o r=>?_) l.new J ?_ e1)
 ·rw[P b λz=>by rw[z,l.new]at r;cases r];exact l.keeps b o r
 ·rw[P t λz=>by rw[z,ht]at m;cases m];exact m
end
section
variable{M:Model}{env:Env}{e L:Addr}{cls:Value}{Q:Unit->Shared->Prop}
theorem Mr(g:A.frames=some (env::outer))(i:env.frame=some L)(st:base.StaysIn h)(f:h.FunFrames base (env::outer))(m:Heap.MadeExcOf h s.heap e cls j)
  (k:∀h' t,FW base outer e cls (.ref t) .none h'->s.heap.UpToSlots h'->Q () {s with heap:=h'}):wpAny M A (leaving env (.ref e)) Q E s:=by
 obtain⟨t,d,_,_⟩:=m.there;have c:base.get? e=none:=by
  cases q:base.get? e with
  |none=>rfl
  |some o=>
   have z:=st e o q;rw[m.new]at z;cases z
 exact sO g i (λb o a=>m.keeps b o (st b o a)) c (f.of_keeps λb o a _=>(o,m.keeps b o a,7)) d rfl rfl rfl rfl λh' y u=>k h' t y u
end
def Wm(P:Program)(w:World):WP:=λa H s E e b=>∃(d C t:Addr) (B:Heap) (c:Hp),e=.ref d/\b.os=s.os/\AllBare b.gens/\Un (frs a) [] H c s.heap b.heap/\Wa P w c b.heap /\
  FW B a d (.ref C) (.ref t) .none b.heap/\ZD B (frs a) H c s.heap/\E (.ref C) none c
theorem Wm.weak{P:Program}{w:World}{s s':Shared}{E:XK}{e:Value}(h:Wm P w outer H s E e s'):Xw P w outer H s E e s':=by
 obtain⟨a,C,t,B,l,k,j,i,g,f,d,c,b⟩:=h;exact(a,C,t,B,l,k,j,i,g,f,d.w,c,b)
section
variable{P:Program}{w:World}{E:XK}
abbrev XC(P:Program)(w:World)(K:PySem.W.Frag)(mg:Str->Option Value)(base:Heap)(N:List Str)(qual:Str)(scope:Scope)(f:Addr)(cd:Value)(A:Around)(outer:List Env)(s0:Shared)(H0:Hp)(E:XK):Cx:=
 zu (Wm P w) P w K mg base N qual scope f cd A outer s0 H0 E
theorem Pj{σ:St}{s:Shared}{ea C:Addr}{vs:List Value}(I:Inv (XC P w K mg base N qual scope f cd A outer s0 H0 E) π σ H s)(m:Heap.MadeExcOf s.heap h' ea (.ref C) vs)(q:E (.ref C) none H):
  (XC P w K mg base N qual scope f cd A outer s0 H0 E).xe (.ref ea) {s with heap:=h'}:=by
 have J:s.heap.FunFrames base (envOfC qual scope s0.heap.objs.size f cd::outer):=I.stack;have D:∀j∈(envOfC qual scope s0.heap.objs.size f cd::outer),∀b,j.frame=some b->b∈frs (envOfC qual scope s0.heap.objs.size f cd::outer):=λj O b a=>ahm.mpr (j,O,a);have U:Un (frs outer) [] H0 H s0.heap s.heap:=I.base;have h:∀b u,H b=some u->b∉frs (envOfC qual scope s0.heap.objs.size f cd::outer):=λb u e z=>by
  have:=I.stkFree b z;rw[this]at e;cases e
 have g:∀b o,s.heap.get? b=some o->b∉frs (envOfC qual scope s0.heap.objs.size f cd::outer)->(PySem.W.hideAll s.heap (frs (envOfC qual scope s0.heap.objs.size f cd::outer))).get? b=some o:=λb o e n=>PySem.W.hideAll_get _ e n;show wpAny _ _ (leaving _ _) _ _ _;refine Mr (base:=PySem.W.hideAll s.heap (frs (envOfC qual scope s0.heap.objs.size f cd::outer))) I.ok.frames rfl (λb o e=>PySem.W.of_hideAll _ e) (PySem.W.funFrames_hide J D) m λQ t F L=>?_;have i:=F.stay;have G:∀b o,s.heap.get? b=some o->b∈frs outer -> ∃v,Q.get? b=some {o with slots:=v}:=λb o e a=>by
  obtain⟨_,R,p,M⟩:=J.mem (b:=b) (aaj _ a);rw[e]at p;cases p;exact L b o (m.keeps _ _ e) M
 refine(ea,C,t,_,H,7,I.os,I.bare,(λb o e n a l=>?_,λb o e n a l=>?_,U.free,λb o e l=>?_,U.tups,U.frzs,U.tbls),λb u e=>?_,F,(λb o e a=>?_,λb u e=>?_),q)
 ·exact i b o (g b o (U.keep b o e n a l) (young e a))
 ·obtain⟨v,d⟩:=U.slot b o e n a l;obtain⟨B,y⟩:=G b _ d a;exact(B,y)
 ·obtain⟨k,d⟩:=U.there b o e l;by_cases a:b∈frs outer
  ·obtain⟨v,y⟩:=G b _ d a;exact(_,y)
  ·exact(k,i b k (g b k d (young e a)))
 ·refine(I.hok b u e).stay (λc o x d=>i c o (g c o d ?_)) (λ_ r=>r) λ_ _ r=>r;rcases x with rfl|x
  ·exact h _ _ e
  ·exact h _ _ x
 ·obtain⟨k,d⟩:=U.there b o e (by simp);refine(k,g b k d (young e a),λn=>?_);have:=U.keep b o e n a (by simp);rw[d]at this;exact afE this
 ·obtain⟨o,d⟩:=(I.hok b u e).ex;exact(o,g b o d (h b u e))
theorem gk:iD (Wm P w) (XC P w K mg base N qual scope f cd A outer s0 H0 E) E:=by
 intro π σ H s e S I h;obtain⟨ea,C,t,B,H',rfl,V,x,m,L,F,j,q⟩:=h;have U:Un (frs outer) [] H0 H s0.heap s.heap:=I.base;show wpAny _ _ (leaving _ _) _ _ _;refine Fd (base:=B) I.ok.frames rfl F λZ O R=>?_;have k:=O.stay;have Q:∀b o,S.heap.get? b=some o->b∈frs outer -> ∃y,Z.get? b=some {o with slots:=y}:=λb o e d=>by
  obtain⟨_,p,v,W⟩:=F.fun_.mem (b:=b) (aaj _ d);rw[e]at v;cases v;exact R b o e W
 refine(ea,C,t,B,H',7,V.trans I.os,x,(λb o e n d g=>?_,λb o e n d g=>?_,λb o e n g=>?_,λb o e g=>?_,λb M e=>m.tups b M (U.tups b M e),λb o u e=>m.frzs b o u (U.frzs b o u e),λb T e=>?_),λb u e=>?_,O,(λb o e d=>?_,j.Wo),q)
 ·obtain⟨p,a,z⟩:=j.old b o (U.keep b o e n d g) (young e d);rw[z (U.free b o e n g)]at a;exact k b o a
 ·obtain⟨y,i⟩:=U.slot b o e n d g;obtain⟨a0,a⟩:=m.slot b _ i (U.free b o e n g) (aaj _ d) g;obtain⟨J,G⟩:=Q b _ a d;exact(J,G)
 ·obtain⟨l,i⟩:=U.there b o e g;exact m.free b l i (U.free b o e n g) g
 ·obtain⟨l,i⟩:=U.there b o e g;by_cases d:b∈frs outer
  ·obtain⟨o2,a⟩:=m.there b l i g;obtain⟨y,G⟩:=Q b _ a d;exact(_,G)
  ·obtain⟨p,a,_⟩:=j.old b l i (young e d);exact(p,k b p a)
 ·obtain⟨Y,i⟩:=U.tbls b T e;obtain⟨X,a⟩:=m.tbls b _ i;exact(Y++X,by rw[a,ahl])
 ·refine(L b u e).stay (λc o D i=>?_) (λ_ r=>r) λ_ _ r=>r;have ht:∃o,B.get? c=some o:=by
   rcases D with rfl|D
   ·exact j.Wo _ _ e
   ·exact j.Wo _ _ D
  obtain⟨l,a⟩:=ht;have:=F.stay c l a;rw[i]at this;cases this;exact k c o a
 ·obtain⟨l,i⟩:=U.there b o e (by simp);obtain⟨p,a,z⟩:=j.old b l i (young e d);refine(p,a,λn=>?_);have:=U.keep b o e n d (by simp);rw[i]at this;rw[z (U.free b o e n (by simp))];exact afE this
theorem fO:PassesOwn (model P w) (XC P w K mg base N qual scope f cd A outer s0 H0 E).A (XC P w K mg base N qual scope f cd A outer s0 H0 E).env (XC P w K mg base N qual scope f cd A outer s0 H0 E).xe:=PassesOwn.leaving
end
section
variable{P:Program}{w:World}
theorem Xl.WQ{x :Str}{st:Stmt}{f:Addr}{N ps:List Str}{k:Nat}{sp:Sp}(F:Xl K x qual st f B)(S:aJ N ps (δ st))(d:∀vs H Q E,sp vs H Q E->vs.length=ps.length)
  (c:∀(b:Value) (A:Around) (a:List Env) (s:Shared) (H:Hp) (vs:List V) (Q:VK) (E:XK),jj k (A.deeper (envOfC qual (δ st) s.heap.objs.size f b))->sp vs H Q E ->
   ∃t,Wu (XC P w K mg base N qual (δ st) f b A a s H E) (μ st) t/\t {nx:=λ_ H'=>Q .non H',rt:=Q} (start N vs) H):bI P w K mg base (Wm P w) (k+1) f B ps sp:=by
 obtain⟨o,n,kV,l,m,q,b,p,j,rfl,h,g⟩:=F.ex;exact Ld h g S d λA a s H vs Q E i e=>c b A a s H vs Q E i e
end
section
variable{P:Program}{w:World}{E:XK}
theorem dz{x:Str}{C:Addr}{a:Expr}{pos:Pos}(e:Exc K mg x C)(R:Gl (XC P w K mg base N qual scope f cd A outer s0 H0 E) x)(S:PA (XC P w K mg base N qual scope f cd A outer s0 H0 E) [a] t)
  (i:(x==("__debug__" : Str))=false:=by decide)
  (k:starEach [a] (XC P w K mg base N qual scope f cd A outer s0 H0 E).env=[(pq false (eval a (XC P w K mg base N qual scope f cd A outer s0 H0 E).env))]:=by rfl):
  PS (XC P w K mg base N qual scope f cd A outer s0 H0 E) (.Raise (some (.Call (.Name x p) [a] [] apos)) none pos) (Lj C E t):=by
 intro o s n H D I h;obtain⟨Y,N',B,v,X,b,r,d,Z,j,W,Q,O,M,L,J,G,V,U,g,T⟩:=uD I.mod.Yx e.q;refine wpAny_Raise_call_subU (C:=C) (nm:=B) (q:=v) (N:=N') (bs:=X) (bm:=Y) (hdct:=b) (sn:=r) (sub:=d) (ab:=Z) (col:=j) (dd:=W) (k0:=Q) (k1:=O) (k2:=M) (k3:=L) (k5:=J)
  PySem.F.excBase_ValueError PySem.F.excBase_ValueError.hasB PySem.F.excBase_ValueError (mN:=G) (T.hasType PySem.F.excBase_ValueError.hasBase) (I.ok.hd rfl) (by rw[k];rfl) g (j5 I R e.m (7,1) i)
 have l:=S apos o s n H _ I h;rw[k]at l ⊢;refine Calls.evalArgs_plain (VL l λus s2 ⟨vs,H2,c,u,z,y⟩=>(7,1,c.bk _ _ V,U.keeps c.bk,T.keeps c.bk,λh' ea m=>Pj c m y));rw[<-u.length];exact z
end
open PySem.W
def Q9(ea C:Addr):HO:=.ext λh=>∃o a,h.get? ea=some o/\o.cls=.ref C/\o.data=.fields a/\a[2]?=some Value.none
section
variable{ea:Addr}
theorem Hd{C t:Addr}{H':Hp}{s':Shared}(I:Inv X π σ H s)(os:s'.os=s.os)(D:AllBare s'.gens)(j:Un (frs X.stack) [] H H' s.heap s'.heap)(M:Wa X.prog X.w H' s'.heap)
  (E:FW base X.stack ea (.ref C) (.ref t) .none s'.heap)(f:ZD base (frs X.stack) H H' s.heap)(x:FW base X.stack ea (.ref C) (.ref t) .none h')(V:s'.heap.UpToSlots h'):
  H' ea=none/\Inv X π σ (upd H' ea (Q9 ea C)) {s' with heap:=h'}:=by
 have T:H' ea=none:=by
  cases q:H' ea with
  |none=>rfl
  |some u=>
   obtain⟨o,e⟩:=f.Wo ea u q;rw[E.new]at e;cases e
 obtain⟨Q,P,_,_,_,i,N,y,_,L,_⟩:=x.tr;have fresh:s.heap.get? ea=none:=by
  cases q:s.heap.get? ea with
  |none=>rfl
  |some o=>
   by_cases a:ea∈frs X.stack
   ·obtain⟨_,l,g,G⟩:=x.fun_.mem a;rw[i]at g;cases g;exact absurd y (G P)
   ·obtain⟨l,e,_⟩:=f.old ea o q a;rw[E.new]at e;cases e
 have S:∀b o,s'.heap.get? b=some o->b∈frs X.stack -> ∃F,h'.get? b=some {o with slots:=F}:=λb o e a=>by
  obtain⟨_,l,g,G⟩:=E.fun_.mem a;rw[e]at g;cases g;exact V b o e G
 have v:∀b u,H' b=some u->b≠ea:=λb u e=>aH e T;refine(T,I.call' (ch:=[]) os (λb o e n a m=>?_,λb o e n a m=>?_,λb o e n m=>?_,λb o e m=>?_,λb O e=>?_,λb o u e=>?_,λb W e=>?_) (λb u e=>?_) D λb z=>absurd z (by simp))
 ·obtain⟨l,d,z⟩:=f.old b o e a;rw[z n]at d;exact x.stay b o d
 ·obtain⟨F,h⟩:=j.slot b o e n a m;obtain⟨K,d⟩:=S b _ h a;exact(K,d)
 ·have:b≠ea:=λz=>by rw[z,fresh]at e;cases e
  rw[aK this];exact j.free b o e n m
 ·by_cases a:b∈frs X.stack
  ·obtain⟨R,h⟩:=j.there b o e m;obtain⟨F,d⟩:=S b _ h a;exact(_,d)
  ·obtain⟨l,d,_⟩:=f.old b o e a;exact(l,x.stay b l d)
 ·have q:=j.tups b O e;rw[aK (v b _ q)];exact q
 ·have q:=j.frzs b o u e;rw[aK (v b _ q)];exact q
 ·obtain⟨A,q⟩:=j.tbls b W e;exact(A,by rw[aK (v b _ q)];exact q)
 ·by_cases a:b=ea
  ·subst a;rw[aa]at e;cases e;refine((Q,P,i,N,y,L),(Q,i),λh1 h2 p k=>?_);obtain⟨o,U,h,d,Z,Y⟩:=p;exact(o,U,k o h,d,Z,Y)
  ·rw[aK a]at e;refine(M b u e).stay (λc o J h=>?_) (λc r=>by rw[aK (v c _ r)];exact r) λc O r=>by rw[aK (v c _ r)];exact r
   have ht:∃o,base.get? c=some o:=by
    rcases J with rfl|J
    ·exact f.Wo _ _ e
    ·exact f.Wo _ _ J
   obtain⟨R,d⟩:=ht;have:=E.stay c R d;rw[h]at this;cases this;exact x.stay c o d
end
def Cx.X5(X:Cx)(a:List (Addr×Obj))(E:XK):Cx:={X with pn:=X.pn++a,xe:=λe c=>∃b H s,Inv X a b H s/\Wm X.prog X.w X.stack H s E e c}
section
variable{pins':List (Addr×Obj)}{E:XK}
theorem Cx.Ok.X5(a:X.Ok):(X.X5 π E).Ok:=
 (a.mod,a.kind,a.glob,a.blt,a.above,a.inj,a.has,a.cab,a.hd,a.frames,a.WN,a.Yy,a.bs,a.W4,a.noex,a.exfs,a.funs,a.XD)
theorem Cx.Ok.untrC(a:(X.X5 π E).Ok):X.Ok:=
 (a.mod,a.kind,a.glob,a.blt,a.above,a.inj,a.has,a.cab,a.hd,a.frames,a.WN,a.Yy,a.bs,a.W4,a.noex,a.exfs,a.funs,a.XD)
theorem Inv.X5(I:Inv X π σ H s):Inv (X.X5 π E) [] σ H s:=
 (I.ok.X5,I.os,I.bare,I.base,I.loc,I.cell,I.free,I.freeC,λp b=>I.pin p (by
  have a:p∈(X.pn++π)++[]:=b
  rwa [afR]at a),I.hok,I.len)
theorem Inv.untrC(I:Inv (X.X5 π E) pins' σ H s):Inv X π σ H s:=
 (I.ok.untrC,I.os,I.bare,I.base,I.loc,I.cell,I.free,I.freeC,λp a=>I.pin p (afQ _ a),I.hok,I.len)
theorem Oo:iD (Wm X.prog X.w) (X.X5 π E) E:=λ_ σ H s _ _ I h=>(σ,H,s,I.untrC,h)
theorem SP.untrC{D:Ends}{f:Flow}{s':Shared}(h:SP (X.X5 π E) [] D f s'):SP X π D f s':=by
 cases f with
 |next=>obtain⟨σ,H,I,q⟩:=h;exact(σ,H,I.untrC,q)
 |ret v=>obtain⟨x,σ,H,I,r,q⟩:=h;exact(x,σ,H,I.untrC,r,q)
 |brk=>obtain⟨σ,H,I,q⟩:=h;exact(σ,H,I.untrC,q)
 |cont=>obtain⟨σ,H,I,q⟩:=h;exact(σ,H,I.untrC,q)
end
def PHC(X:Cx)(i:List ExceptHandler)(h:TH):Prop:=∀(g:List (Addr×Obj)) (a C t:Addr) (B:Heap) (e:Hp) (b:Shared) (f:St) (D:Ends) (d:Heap),
 (∀c,FW B X.stack a (.ref C) (.ref t) .none c->b.heap.UpToSlots c->Inv X g f (upd e a (Q9 a C)) {b with heap:=c}) ->
 FW B X.stack a (.ref C) (.ref t) .none d->b.heap.UpToSlots d->e a=none->h C D f e ->
 wpAny (model X.prog X.w) X.A (handleBy (.ref a) X.env i) (SP X g D) X.xe {b with heap:=d}
theorem PB{X:Cx}:PHC X [] T9:=λ_ _ _ _ _ _ _ _ _ _ _ _ _ _ z=>z.elim
theorem QH{X:Cx}{b:List Stmt}{J:ExceptHandler}{F:List ExceptHandler}{pos:Pos}{x:XK->TS}{w:TH}(d:X.stack=X.env::X.outer)(r:X.env.frame=some X.env.locals)
  (R:∀l E,Wu (X.X5 l E) b (x E))(Q:PHC X (J::F) w):PS X (.Try b (J::F) [] [] pos) (Rm x w):=by
 intro l s O H D I h;refine wpAny_Try_except ?_;refine wpAny_mono (R l _ [] s O H D I.X5 h) (λT n q=>?_) λe n q=>?_
 ·have m:=q.untrC;cases T with
  |next=>exact wpAny_execs_nil m
  |ret v=>exact m
  |brk=>exact m
  |cont=>exact m
 ·obtain⟨g,H1,s0,p,K,N,y,B,H',rfl,z,c,u,i,o,j,C,U,P⟩:=q;cases U;have t:X.A.frames=some (X.env::X.outer):=by rw[<-d];exact I.ok.frames
  refine vm (base:=B) t r (by rw[<-d];exact o) λS k L=>jC (s:={n with heap:=S}) (f:=none) k λG Y M=>?_;have a:FW B X.stack K (.ref N) (.ref y) .none G:=by rw[d];exact Y
  obtain⟨Z,_⟩:=Hd p z c u i o j a (L.trans M);exact Q l K N y B H' n g D G (λh6 W V=>(Hd p z c u i o j W V).2) a (L.trans M) Z (P g (by rw[p.len,I.len]))
section
variable{P:Program}{w:World}{E:XK}
theorem Qz{σ:St}{s:Shared}{ea C:Addr}{t:Addr}{S R p Q:Value}{hd:Option Value}(I:Inv (X1 P w K mg base N qual scope f cd A outer s0 H0 E) π σ H s)(mk:∀b o,s.heap.get? b=some o->h'.get? b=some o)(X:s.heap.get? ea=none)(Y:h'.get? ea=some {cls:=.ref C,data:=.fields #[.ref t,.none,S,R,p,Q]})(q:E (.ref C) none H):
  notedBy (model P w) ((X1 P w K mg base N qual scope f cd A outer s0 H0 E).A.mark hd) (X1 P w K mg base N qual scope f cd A outer s0 H0 E).env (cameBackBy (model P w) (X1 P w K mg base N qual scope f cd A outer s0 H0 E).A (X1 P w K mg base N qual scope f cd A outer s0 H0 E).env (X1 P w K mg base N qual scope f cd A outer s0 H0 E).xe) (.ref ea) {s with heap:=h'}:=by
 have L:s.heap.FunFrames base (envOfC qual scope s0.heap.objs.size f cd::outer):=I.stack;have D:∀env∈(envOfC qual scope s0.heap.objs.size f cd::outer),∀b,env.frame=some b->b∈frs (envOfC qual scope s0.heap.objs.size f cd::outer):=λenv Z b a=>ahm.mpr (env,Z,a);have U:Un (frs outer) [] H0 H s0.heap s.heap:=I.base;have h:∀b u,H b=some u->b∉frs (envOfC qual scope s0.heap.objs.size f cd::outer):=λb u e z=>by
  have:=I.stkFree b z;rw[this]at e;cases e
 have g:∀b o,s.heap.get? b=some o->b∉frs (envOfC qual scope s0.heap.objs.size f cd::outer)->(PySem.W.hideAll s.heap (frs (envOfC qual scope s0.heap.objs.size f cd::outer))).get? b=some o:=λb o e n=>PySem.W.hideAll_get _ e n;have G:(PySem.W.hideAll s.heap (frs (envOfC qual scope s0.heap.objs.size f cd::outer))).StaysIn s.heap:=λb o e=>PySem.W.of_hideAll _ e;have T:(PySem.W.hideAll s.heap (frs (envOfC qual scope s0.heap.objs.size f cd::outer))).get? ea=none:=by
  cases q:(PySem.W.hideAll s.heap (frs (envOfC qual scope s0.heap.objs.size f cd::outer))).get? ea with
  |none=>rfl
  |some o=>
   have z:=G ea o q;rw[X]at z;cases z
 refine QG (M:=model P w) (A:=A.deeper (envOfC qual scope s0.heap.objs.size f cd)) (A':=(A.deeper (envOfC qual scope s0.heap.objs.size f cd)).mark hd) (Qx:=λe _ j=>Xw P w outer H0 s0 E e j) (Ex:=λ_ e' j=>Xw P w outer H0 s0 E e' j) (s:={s with heap:=h'}) (base:=PySem.W.hideAll s.heap (frs (envOfC qual scope s0.heap.objs.size f cd::outer))) I.ok.frames rfl (λb o e=>mk b o (G b o e)) T ((PySem.W.funFrames_hide L D).of_keeps λb o e _=>(o,mk b o e,7)) Y rfl rfl rfl rfl λh2 O p=>?_;have F:=O.w;have i:=F.1;have J:∀b o,s.heap.get? b=some o->b∈frs outer -> ∃v,h2.get? b=some {o with slots:=v}:=λb o e a=>by
  obtain⟨_,o',m,V⟩:=L.mem (b:=b) (aaj _ a);rw[e]at m;cases m;exact p b o (mk _ _ e) V
 refine(ea,C,t,_,H,7,I.os,I.bare,(λb o e n a l=>?_,λb o e n a l=>?_,U.free,λb o e l=>?_,U.tups,U.frzs,U.tbls),λb u e=>?_,F,(λb o e a=>?_,λb u e=>?_),q)
 ·exact i b o (g b o (U.keep b o e n a l) (young e a))
 ·obtain⟨v,d⟩:=U.slot b o e n a l;obtain⟨B,y⟩:=J b _ d a;exact(B,y)
 ·obtain⟨k,d⟩:=U.there b o e l;by_cases a:b∈frs outer
  ·obtain⟨v,y⟩:=J b _ d a;exact(_,y)
  ·exact(k,i b k (g b k d (young e a)))
 ·refine(I.hok b u e).stay (λc o x d=>i c o (g c o d ?_)) (λ_ r=>r) λ_ _ r=>r;rcases x with rfl|x
  ·exact h _ _ e
  ·exact h _ _ x
 ·obtain⟨k,d⟩:=U.there b o e (by simp);refine(k,g b k d (young e a),λn=>?_);have:=U.keep b o e n a (by simp);rw[d]at this;exact afE this
 ·obtain⟨o,d⟩:=(I.hok b u e).ex;exact(o,g b o d (h b u e))
def hRz(K:PySem.W.Frag)(i j:Addr)(E:XK)(h:TA)(g:TH):TH:=λC D c H=>∃b,kitOne K (.ref C) (.ref i)=some b/\if b=true then (∀a,H a=none ->
 h c (upd H a (Q9 a C)) λe d=>e.length<=sizeLine/\d a=some (Q9 a C)/\E (.ref j) none d)else g C D c H
theorem Kp{l x:Str}{H g cp pos:Pos}{j:Nat}{a:Expr}{rest:List ExceptHandler}{W:TH}
  (ex:Exc K mg l C)(ZF:uH K C)(J:Gl (X1 P w K mg base N qual scope f cd A outer s0 H0 E) l)(e2:Exc K mg x S)(hg:Gl (X1 P w K mg base N qual scope f cd A outer s0 H0 E) x)
  (ha:∀ea,PA ((X1 P w K mg base N qual scope f cd A outer s0 H0 E).suite ea) [a] t)(hr:PHC (X1 P w K mg base N qual scope f cd A outer s0 H0 E) rest W)
  (M:(l==("__debug__" : Str))=false:=by decide)(O:(x==("__debug__" : Str))=false:=by decide)
  (u:starEach [a] (X1 P w K mg base N qual scope f cd A outer s0 H0 E).env=[(pq false (eval a (X1 P w K mg base N qual scope f cd A outer s0 H0 E).env))]:=by rfl):
  PHC (X1 P w K mg base N qual scope f cd A outer s0 H0 E) (.ExceptHandler (some (.Name l p)) none [.Raise (some (.Call (.Name x H) [a] [] g)) (some (.Constant .none j cp)) pos] apos::rest) (hRz K C S E t W):=by
 intro V ea d c B H' Y U D v L n y W5 q;obtain⟨b,i,q⟩:=q;have I5:=L v n y;refine wpAny_handleBy_cons (codeAny_handlers_test (j5 (X:=(X1 P w K mg base N qual scope f cd A outer s0 H0 E).suite ea) I5.suite J ex.m ?_ M)) (by intro z;cases z);refine Oz ex ZF I5 n.w i ?_;cases b with
 |false=>
  rw[if_neg afD]at q;exact hr V ea d c B H' Y U D v L n y W5 q
 |true=>
  rw[if_pos rfl]at q;refine codeAny_handlers_suite ?_;refine jC (s:={Y with heap:=v}) (f:=none) n λh6 WK YF=>?_;have r:=L h6 WK (y.trans YF);refine wpAny_execs_cons ?_;obtain⟨bm,N',nm,qn,bs,k,sn,G,ab,Q,dd,k0,k1,k2,k3,k5,mN,hC,hN,I,T⟩:=uD r.mod.Yx e2.q;refine tZ (C:=S) (nm:=nm) (q:=qn) (N:=N') (bs:=bs) (bm:=bm) (hdct:=k) (sn:=sn) (sub:=G) (ab:=ab) (col:=Q) (dd:=dd) (k0:=k0) (k1:=k1) (k2:=k2) (k3:=k3) (k5:=k5) (mN:=mN) (ea:=ea)
   PySem.F.excBase_ValueError PySem.F.excBase_ValueError.hasB PySem.F.excBase_ValueError (T.hasType PySem.F.excBase_ValueError.hasBase) rfl (by rw[u];rfl) I (j5 (X:=(X1 P w K mg base N qual scope f cd A outer s0 H0 E).suite ea) r.suite hg e2.m (7,1) O)
  have Z:=ha ea g V _ U _ _ r.suite (q ea W5);rw[show starEach [a] ((X1 P w K mg base N qual scope f cd A outer s0 H0 E).suite ea).env=_ from u]at Z;rw[u];refine Calls.evalArgs_plain (wpAny_mono Z (λus s2 z=>?_) λ_ _ z=>False.elim z);obtain⟨vs,H2,R,r2,q1,q3,q2⟩:=z;have h:=R.unsuite r.ok;obtain⟨⟨o,ws,w1,_,w3,w4⟩,_⟩:=h.hok ea _ q3;refine(7,1,h.bk _ _ hC,hN.keeps h.bk,T.keeps h.bk,(o,ws,w1,w3,w4),λh1 e c m1 m2 _ _ m5=>Qz h m1 m2 m5 q2);rw[<-r2.length];exact q1
end
section
variable{P:Program}{w:World}{E:XK}
theorem uJ{X:Cx}:iD (Wm P w) X (λ_ _ _=>False):=λ b a H s e c I h=>UT b a H s e c I h.weak
end
section
variable{M:Model}{env:Env}{e L:Addr}{cls a0 cx fl:Value}{Q:Unit->Shared->Prop}
theorem Ax(x:A.frames=some (env::outer))(a:env.frame=some L)(y:iT base (env::outer) e cls a0 cx fl s.heap)
  (k:∀h',iT base (env::outer) e cls a0 cx (rawInt L) h'->s.heap.UpToSlots h'->Q () {s with heap:=h'}):wpAny M A (noteFrame (.ref e) env) Q E s:=by
 by_cases z:fl=rawInt L
 ·subst z;exact wpAny_noteFrame_againW a y.tr.w (k _ y (.refl _))
 obtain⟨o,h,T,p,l,c,b,d,F,D,C,g⟩:=Er (M:=M) (A:=A) (E:=E) y;unfold noteFrame;simp only[a];refine wpAny_bind (wpAny_field c b d ?_);have t:(Value.ref T != Value.none)=true:=by simp
 rw[if_pos t];refine wpAny_bind (wpAny_field F D C ?_);have q:¬((fl==rawInt L)=true):=by simpa using z
 rw[if_neg q];refine wpAny_bind (g _ _ λh' f i=>?_);obtain⟨m,n,v,o,h,I,p,l,c,rfl,b,H,G,d,r⟩:=f;exact rD (s:={s with heap:=h'}) x a m n v c b H G λu B j=>k u B (i.trans j)
theorem v6(i:A.frames=some (env::outer))(j:env.frame=some L)(y:iT base (env::outer) e cls a0 cx fl s.heap)
  (k:∀h',iT base outer e cls a0 cx .none h'->s.heap.UpToSlots h'->Q () {s with heap:=h'}):wpAny M A (leaving env (.ref e)) Q E s:=by
 unfold leaving;refine wpAny_bind (Ax i j y λh b d=>?_);exact jC (s:={s with heap:=h}) (f:=none) b λg a c=>k g a.tail (d.trans c)
theorem Lx{env':Env}{x:Value}(h:env'.frame=env.frame):noteFrame x env'=noteFrame x env:=by
 unfold noteFrame PySem.frameOf;rw[h]
end
section
variable{P:Program}{w:World}{E:XK}
theorem TY{σ:St}{H':Hp}{s s':Shared}{ea C t:Addr}{ch:List Addr}{Z:Value}(I:Inv (XC P w K mg base N qual scope f cd A outer s0 H0 E) π σ H s)(os:s'.os=s.os)(x:AllBare s'.gens)
  (m:Un (frs (XC P w K mg base N qual scope f cd A outer s0 H0 E).stack) ch H H' s.heap s'.heap)(L:Wa P w H' s'.heap)(F:iT h' (XC P w K mg base N qual scope f cd A outer s0 H0 E).stack ea (.ref C) (.ref t) .none Z s'.heap)
  (l:∀b o,s.heap.get? b=some o->b∉frs (XC P w K mg base N qual scope f cd A outer s0 H0 E).stack->b∉ch -> ∃j,h'.get? b=some j/\(H b=none->j=o))(Wo:∀b u,H' b=some u -> ∃o,h'.get? b=some o)
  (M:∀b∈ch,s0.heap.objs.size<=b)(q:E (.ref C) none H'):(XC P w K mg base N qual scope f cd A outer s0 H0 E).xe (.ref ea) s':=by
 have p:∀{b o},s0.heap.get? b=some o->b∉ch:=λ{b o} e z=>absurd (Heap.lt_size e) (Nat.not_lt_of_le (M b z));have U:Un (frs outer) [] H0 H s0.heap s.heap:=I.base;show wpAny _ _ (leaving _ _) _ _ _;refine v6 (base:=h') I.ok.frames rfl F λY Q S=>?_;have h:=Q.stay;have R:∀b o,s'.heap.get? b=some o->b∈frs outer -> ∃y,Y.get? b=some {o with slots:=y}:=λb o e d=>by
  obtain⟨_,j,v,V⟩:=F.fun_.mem (b:=b) (aaj _ d);rw[e]at v;cases v;exact S b o e V
 refine(ea,C,t,h',H',7,os.trans I.os,x,(λb o e n d i=>?_,λb o e n d i=>?_,λb o e n i=>?_,λb o e i=>?_,λb O e=>m.tups b O (U.tups b O e),λb o u e=>m.frzs b o u (U.frzs b o u e),λb T e=>?_),λb u e=>?_,Q,(λb o e d=>?_,Wo),q)
 ·obtain⟨j,a,z⟩:=l b o (U.keep b o e n d i) (young e d) (p e);rw[z (U.free b o e n i)]at a;exact h b o a
 ·obtain⟨y,g⟩:=U.slot b o e n d i;obtain⟨a0,a⟩:=m.slot b _ g (U.free b o e n i) (aaj _ d) (p e);obtain⟨J,G⟩:=R b _ a d;exact(J,G)
 ·obtain⟨k,g⟩:=U.there b o e i;exact m.free b k g (U.free b o e n i) (p e)
 ·obtain⟨k,g⟩:=U.there b o e i;by_cases d:b∈frs outer
  ·obtain⟨o2,a⟩:=m.there b k g (p e);obtain⟨y,G⟩:=R b _ a d;exact(_,G)
  ·obtain⟨j,a,_⟩:=l b k g (young e d) (p e);exact(j,h b j a)
 ·obtain⟨X,g⟩:=U.tbls b T e;obtain⟨W,a⟩:=m.tbls b _ g;exact(X++W,by rw[a,ahl])
 ·refine(L b u e).stay (λc o D g=>?_) (λ_ r=>r) λ_ _ r=>r;have ht:∃o,h'.get? c=some o:=by
   rcases D with rfl|D
   ·exact Wo _ _ e
   ·exact Wo _ _ D
  obtain⟨k,a⟩:=ht;have:=F.stay c k a;rw[g]at this;cases this;exact h c o a
 ·obtain⟨k,g⟩:=U.there b o e (by simp);obtain⟨j,a,z⟩:=l b k g (young e d) (p e);refine(j,a,λn=>?_);have:=U.keep b o e n d (by simp);rw[g]at this;rw[z (U.free b o e n (by simp))];exact afE this
theorem Ms{h h' base a:Heap}(d:∀b,base.get? b=none->a.get? b=none):∀{l:List Env},h.FunFrames base l->(∀b∈l.filterMap (·.frame),h'.get? b=h.get? b)->h'.FunFrames a l
 |[],_,_=>trivial
 |n::r,x,k=>by
  obtain⟨j,⟨L,o,c,i,g,hd⟩,e⟩:=x;refine(j,(L,o,c,d L i,(k L (by simp[c])).trans g,hd),Ms d e λb m=>k b ?_);rw[agR,c];exact aaj _ m
inductive Ej(X:Cx)(C:Addr)(s1:Shared)(H1:Hp)(fp:List Addr):Prop
 | mk (π σ:_) (_:Inv X π σ H1 s1) (_:(∀b∈fp,gr X π H1 b)) (_:s1.heap.objs.size<=C)
theorem yz{use:Option (Value->Sem Unit)}{Q:Value->Shared->Prop}{a4:Value}{C:Addr}{s:Shared}{N':List Str}{v:Scope}{XE:Value->Shared->Prop}
  (en:Ej (XC P w K mg base N qual scope f cd A outer s0 H0 E) C s H l)
  (k:∀e s',notedBy (model P w) (XC P w K mg base N qual scope f cd A outer s0 H0 E).A (compEnvC v n C (XC P w K mg base N qual scope f cd A outer s0 H0 E).env)
   (λe s'=>compPost (model P w) (XC P w K mg base N qual scope f cd A outer s0 H0 E).A (XC P w K mg base N qual scope f cd A outer s0 H0 E).xe use Q a4 C (.error e) s') e s'->XE e s'):
  iD (Wm P w) ((bD (XC P w K mg base N qual scope f cd A outer s0 H0 E) N' v n C s H l).wish XE) E:=by
 intro a6 a0 H' s' e G J h;refine k _ _ ?_;obtain⟨π,σ,I,hf,gC⟩:=en;obtain⟨ea,Ce,t,B,Yt,rfl,os,Z,y,a1,fl,O,q⟩:=h;have J0:Inv (bD (XC P w K mg base N qual scope f cd A outer s0 H0 E) N' v n C s H l) [] a0 H' s':=J.unwish.pins_of λp hp=>absurd (show p∈([]:List (Addr×Obj))from hp) (by simp);have I':=I.comped hf J0;have HC:H' C=none:=J0.free;obtain⟨m,hn,_⟩:=id J0.loc;obtain⟨D,es,ep,a2,W,rC⟩:=hn;have x:s'.heap.get? C=some D:=a2;have nC:∀b∈frs (XC P w K mg base N qual scope f cd A outer s0 H0 E).stack,b≠C:=λb i z=>by
  obtain⟨_,o,ho,_⟩:=I.stack.mem i;have:=Heap.lt_size ho;rw[z]at this;exact absurd (aau this gC) (agg _)
 have hB:B.get? C=some D:=by
  obtain⟨j,d,g⟩:=O.old C D x λz=>nC C z rfl;rw[d,g HC]
 have a5:Yt C=none:=y.free C D x HC (by simp);unfold notedBy;rw[Lx (env':=compEnvC v n C (XC P w K mg base N qual scope f cd A outer s0 H0 E).env) (env:=(XC P w K mg base N qual scope f cd A outer s0 H0 E).env) rfl];refine vm (base:=B) I.ok.frames rfl fl λh1 y1 u1=>?_;have X:h1.get? C=some D:=y1.stay C D hB;refine(m,(D,es,ep,X,W,rC),λh2 U Y _=>?_);have kb:∀b o,(hideAll B [C]).get? b=some o->B.get? b=some o/\b≠C:=λb o e=>(of_hideAll _ e,λz=>by
  rw[z,hideAll_none [C] (by simp)]at e;cases e)
 have bk:∀b o,B.get? b=some o->b≠C->(hideAll B [C]).get? b=some o:=λb o e a=>hideAll_get [C] e (by simpa using a);have ny:∀{b o R},h1.get? b=some o->o.data=.fields R->b≠C:=λ{b o R} d g z=>by
  rw[z,X]at d;cases d;rw[W]at g;cases g
 have y2:iT (hideAll B [C]) (XC P w K mg base N qual scope f cd A outer s0 H0 E).stack ea (.ref Ce) (.ref t) .none (rawInt s0.heap.objs.size) h2:=by
  obtain⟨st,nw,fu,o,R,T,p,ts,c1,c2,c3,c4,c5,c6,c7,c8,c9,d1,d2⟩:=y1;have M:∀b,B.get? b=none->(hideAll B [C]).get? b=none:=λb e=>by
   cases z:(hideAll B [C]).get? b with
   |none=>rfl
   |some o=>
    have:=(kb b o z).1;rw[e]at this;cases this
  refine(λb o e=>?_,M _ nw,Ms M fu λb i=>U.2 b (nC b i),o,R,T,p,ts,1,c2,c3,c4,c5,c6,M _ c7,c8,1,d1,d2)
  ·obtain⟨d,g⟩:=kb b o e;exact(U.2 b g).trans (st b o d)
  ·exact(U.2 ea (ny c1 c3)).trans c1
  ·exact(U.2 T (ny c9 d1)).trans c9
 unfold PySem.passOn;obtain⟨o,R,T,p,ts,c1,c2,c3,c4,c5,c6,_⟩:=id y2.tr;refine wpAny_bind (wpAny_field c1 c3 c6 ?_);have n1:¬((Value.ref T==Value.none)=true):=by simp
 rw[if_neg n1];refine wpAny_bind (jC (s:={G with heap:=h2}) (f:=Y.frame) y2 λh3 y3 u3=>wpAny_throw ?_);have fr:∀b o,G.heap.get? b=some o->b∈frs (XC P w K mg base N qual scope f cd A outer s0 H0 E).stack -> ∃S,h3.get? b=some {o with slots:=S}:=λb o e i=>by
  obtain⟨_,j,V,nf⟩:=fl.fun_.mem i;rw[e]at V;cases V;obtain⟨S,d⟩:=u1 b o e nf;obtain⟨F,g⟩:=u3 b {o with slots:=S} ((U.2 b (nC b i)).trans d) nf;exact(F,g)
 have L:∀b o,s'.heap.get? b=some o->b∉frs (XC P w K mg base N qual scope f cd A outer s0 H0 E).stack->b∉[C] -> ∃j,(hideAll B [C]).get? b=some j/\(H' b=none->j=o):=λb o e i k=>by
  obtain⟨j,d,g⟩:=O.old b o e i;exact(j,bk b j d (by simpa using k),g)
 have Wo:∀b u,Yt b=some u -> ∃o,(hideAll B [C]).get? b=some o:=λb u e=>by
  obtain⟨o,d⟩:=O.Wo b u e;exact(o,bk b o d λz=>by rw[z,a5]at e;cases e)
 refine TY (s':={G with heap:=h3}) (ch:=[C]) I' os Z (λb o e a i k=>?_,λb o e a i k=>?_,λb o e a k=>y.free b o e a (by simp),λb o e k=>?_,y.tups,y.frzs,y.tbls) (λb u e=>?_) y3 L Wo (λb i=>?_) q
 ·obtain⟨j,d,g⟩:=L b o e i k;rw[g a]at d;exact y3.stay b o d
 ·obtain⟨S,d⟩:=y.slot b o e a i (by simp);obtain⟨F,g⟩:=fr b _ d i;exact(F,g)
 ·by_cases i:b∈frs (XC P w K mg base N qual scope f cd A outer s0 H0 E).stack
  ·obtain⟨o1,d⟩:=y.there b o e (by simp);obtain⟨S,g⟩:=fr b o1 d i;exact(_,g)
  ·obtain⟨j,d,_⟩:=L b o e i k;exact(j,y3.stay b j d)
 ·refine(a1 b u e).stay (λc o hc d=>?_) (λ_ r=>r) λ_ _ r=>r;have ht:∃u,Yt c=some u:=by
   rcases hc with rfl|hc
   ·exact(_,e)
   ·exact(_,hc)
  obtain⟨u',e3⟩:=ht;obtain⟨o1,g⟩:=Wo c u' e3;have:=fl.stay c o1 (kb c o1 g).1;rw[d]at this;cases this;exact y3.stay c o g
 ·have a3:b=C:=by simpa using i
  rw[a3];exact agd I.sz gC
end
theorem En{x:Str}{pos:Pos}{iter:Expr}{J:It}{tn:Nat->Heap->Prop}{Qf:Addr->Hp->Prop}
  {RR:Value->Addr->Result->Shared->Prop}{E:Value->Shared->Prop}(I:Inv X π σ H s)(hc:X.calm=true)(U:bU X x r scope n)(T:Turn X.prog X.w X.K (.Name x p) J l a tn)(st:tn 0 s.heap)(hf:∀b∈l,gr X π H b)
  (ht:∀C s1 H1 V6,XR (bD X (x::r.map (·.1)) scope n C s1 H1 V6) es L)(he:∀D C s1 H1 V6,Ej X C s1 H1 V6->PE ((bD X (x::r.map (·.1)) scope n C s1 H1 V6).wish (notedBy (model X.prog X.w) X.A (compEnvC scope n C X.env) λe s'=>RR (.ref D) C (.error e) s')) tg ta)(rd:fY J (fJ r σ) L ta Qf H)
  (b1:∀D C s' H' m,Inv X π σ H' s'->s'.heap.Ns C m->gr X π H' C->Qf D H'->RR (.ref D) C (.ok .next) s'):
  wpAny (model X.prog X.w) X.A (newList []) (λa4 s3=>wpAny (model X.prog X.w) X.A (newFunctionEnv scope X.env.globals n [] X.env.qual none .none (some X.env)) (λS s4=>
   codeAny (model X.prog X.w) X.A (.compStart (.ListComp tg [(.Name x p,iter,es,0)] scope pos) 0 (.ref a) a4 {S with scope:=relabel scope X.env}) (RR a4 S.locals) s4) E s3) E s:=by
 have a1:∀b∈l,b<s.heap.objs.size:=λb F=>by
  obtain⟨o,e,_⟩:=T.obj _ _ st b F;exact Heap.lt_size e
 refine wpAny_newObj_type (wpAny_newFunctionEnv U.ρ (by intro y hy;simp at hy) (λh1 Z O=>?_) U.kind);dsimp only at Z O ⊢;obtain⟨D,eD⟩:∃D:Nat,D=s.heap.objs.size:=(_,7)
 obtain⟨B,Xc⟩:∃g,g=s.heap.push {cls:=.type "list",dict:=none,data:=.seq ([]:List Value).toArray}:=(_,7)
 rw[<-Xc]at Z O ⊢;rw[<-eD];have hC:B.objs.size=D+1:=by rw[Xc,Heap.size_push,eD]
 have a0:s.heap.objs.size<=B.objs.size:=by rw[hC,eD];exact ahd _
 have b2:D≠B.objs.size:=by rw[hC];exact ae2 (agM _)
 have hk:∀b o,s.heap.get? b=some o->h1.get? b=some o:=λb o e=>by
  refine O.extBut b o (ae2 (aau (Heap.lt_size e) a0)) (Heap.get?_push_of_some _ ?_);rw[Xc];exact Heap.get?_push_of_some _ e
 have hL:h1.get? D=some {cls:=.type "list",data:=.seq #[]}:=by
  refine O.extBut D _ ⋯ (Heap.get?_push_of_some _ ?_);rw[Xc,eD];exact Heap.get?_push_size _ rfl
 have a3:tn 0 h1:=T.keep _ _ _ st λb _ o e=>hk b o e;obtain⟨W,⟨m0,w0⟩,a5⟩:=rd D (I.hok.fresh ⋯);have R:codeAny (model X.prog X.w) X.A (.compLoop (.ListComp tg [(.Name x p,iter,es,0)] scope pos) 0 (.ref a) (.ref D) (compEnvC scope n B.objs.size X.env)) (RR (.ref D) B.objs.size) {s with heap:=h1,toks:=s.toks+([]:List (Str×Value)).length}:=by
  refine codeAny_compLoop_tests (λk s'=>∃i P M H',Inv (bD X (x::r.map (·.1)) scope n B.objs.size s H l) [] (M::fJ r σ) H' s'/\tn i s'.heap/\(∀b∈l,H' b=none)/\W i k P H') ?_ m0
   (0,[],none,_,I.comp U hf a1 ⋯ ⋯ b2 hk Z hL,a3,λb F=>?_,w0)
  ·rintro k s3 ⟨i,P,M,H3,I3,a2,XM,w3⟩;have XS:∀{H':Hp}{pi:List (Addr×Obj)},(∀b∈l,H' b=none)->(∀f∈pi,f.1∉l) -> ∀b∈l,gr (bD X (x::r.map (·.1)) scope n B.objs.size s H l) pi H' b:=λ{H' pi} hn hp b F=>by
    obtain⟨f0,f1,f2,f3,f4,f5⟩:=hf b F;refine(hn b F,1,λz=>?_,.inl F,λy c e=>f4 y c (U.cls y c e),λf b0 z=>?_)
    ·exact ae2 (aau (a1 b F) a0)
    ·rcases aat.mp (I.stkSub b z)with q|q
     ·exact f1 q
     ·exact f2 q
    ·exact hp f (by simpa [bD]using b0) (by rw[z];exact F)
   have clear:∀{α:Type}{t:Sem α}{Q:α->Shared->Prop}{E':Value->Shared->Prop}{s:Shared},wpAny (model X.prog X.w) X.A t Q (λ_ _=>False) s->wpAny (model X.prog X.w) X.A t Q E' s:=λh=>wpAny_mono h (λ_ _ z=>z) λ_ _ z=>z.elim;rcases a5 i k P H3 w3 with ⟨a6,qf⟩|⟨go,a7⟩
   ·refine VL (T.done (bD X (x::r.map (·.1)) scope n B.objs.size s H l) rfl rfl rfl hc i [] s3 _ H3 _ I3 (XS XM (by simp)) a2 a6) λj s4 ⟨hr,I4⟩=>?_;subst hr;obtain⟨m4,YZ,_⟩:=id I4.loc;refine b1 D _ s4 H3 m4 (I.comped hf I4) YZ ?_ qf;have gC:s.heap.objs.size<=B.objs.size:=by lia
    exact I.fpOk gC I4.free
   ·refine clear (VL (T.item (bD X (x::r.map (·.1)) scope n B.objs.size s H l) rfl rfl rfl hc i [] s3 _ H3 (λ_ _=>False) I3 (XS XM (by simp)) a2 go) λj s4 ⟨u,hr,h4⟩=>?_);subst hr;refine clear (show wpAny (model X.prog X.w) X.A (pure () >>= λ_=>assign (.Name x p) (compEnvC scope n B.objs.size X.env) u) _ _ s4 from wpAny_bind (VL (h4:wpAny (model X.prog X.w) X.A (pure ()) _ _ s4) λ_ s5 ⟨v,H5,I5,r5,y5,WF,YB⟩=>?_));have YC:=I5.pinned (XS YB (by simp)) (T.obj _ _ WF);have hg:PG (bD X (x::r.map (·.1)) scope n B.objs.size s H l) (.Name x p) (gh 0):=km (i:=0) U.nd rfl (agH (lookup_relabel_local U.hx)) (ahH (lookup_relabel_local U.hx));refine VL (hg _ s5 (M::fJ r σ) H5 v u (λ a8 B=>a8=some v::fJ r σ/\B=H5) YC r5 (show _/\_ from (7,7))) λ_ s6 ⟨b4,H6,I6,e6,e7⟩=>?_;subst e6 e7;have q6:=a7 v _ y5;have G:∀{Y:Hp}{s7:Shared}{M:Option V}{zs:List V}{N:Nat},Inv (bD X (x::r.map (·.1)) scope n B.objs.size s H l) ([]++o7 l s5.heap) (M::fJ r σ) Y s7->N<k->W (i+1) N zs Y ->
      ∃m,m<k /\ ∃i P M H',Inv (bD X (x::r.map (·.1)) scope n B.objs.size s H l) [] (M::fJ r σ) H' s7/\tn i s7.heap/\(∀b∈l,H' b=none)/\W i m P H':=λ{Y s7 M zs N} I7 hm w7=>by
     refine(N,hm,i+1,zs,M,Y,I7.ξ,T.keep _ _ _ WF λb F o e=>(I7.pin (pq b o) (aap _ (aap _ (fD F e)))).1,λb F=>?_,w7);obtain⟨o,e,d⟩:=T.obj _ _ WF b F;exact(I7.pin (pq b o) (aap _ (aap _ (fD F e)))).2.1
    refine clear (VL (ht B.objs.size s H l _ s6 _ H6 _ I6 q6) λok s7 ⟨Y,I7,q7⟩=>?_);cases ok with
    |false=>
     obtain⟨N,hm,w7⟩:=(show ∃N,N<k/\W (i+1) N P Y from q7);exact G I7 hm w7
    |true=>
     refine VL (he D B.objs.size s H l (π,σ,I,hf,a0) _ s7 _ Y _ (I7.wish _) q7) λxv s8 ⟨y,H8,b3,r8,Zy,a9,N,hm,w8⟩=>?_;have I8:=b3.unwish;refine clear (VL (bW _ s8 _ H8 (.ref D) [y] (.ref D) [xv] (λ_ H9=>H9=upd H8 D (.lst (P++[y]))) I8 rfl (.cons r8 .nil) (D,P,y,7,7,Zy,a9,7)) λ_ s9 ⟨_,H9,I9,_,e9⟩=>?_);subst e9;exact G I9 hm w8
  ·rw[aK (by rw[eD];exact ae2 (a1 b F))];exact(hf b F).1
 exact codeAny_compStart_list R (T.self _ 0 _ _ _ a3 R)
theorem BK{x:Str}{pos:Pos}{iter:Expr}{t:TI}(F:X.calm=true)(j:bU X x r scope n)(B:PI X (.Name x p) iter t)
  (ht:∀C a f d,XR (bD X (x::r.map (·.1)) scope n C a f d) es L)(E:∀(use:Option (Value->Sem Unit)) (Q:Value->Shared->Prop) (c:Value) C a f d,Ej X C a f d->PE ((bD X (x::r.map (·.1)) scope n C a f d).wish (notedBy (model X.prog X.w) X.A (compEnvC scope n C X.env) λe s'=>compPost (model X.prog X.w) X.A X.xe use Q c C (.error e) s')) tg ta)(y:∀x,foldedSetIterable iter X.env x=pure x:=by intro _;rfl):
  PE X (.ListComp tg [(.Name x p,iter,es,0)] scope pos) (LQ t r L ta):=by
 intro π s σ H Q I h;rw[eval_ListComp];refine wpAny_comprehension_free (use:=none) rfl y j.clos j.kind j.names (VL (B π s σ H _ I h) λv a M=>VL M λU W K=>?_);obtain⟨Y,Z,V,J,H2,e,P,T,k,N,u⟩:=K;subst e;refine En (RR:=λc C=>compPost (model X.prog X.w) X.A X.xe none (EP X π σ Q) c C) P F j T k N ht (λD C a f d O=>E _ _ _ C a f d O) u ?_;intro D C s' S m R z g q;exact(m,z,λl i=>(.ref D,S,R.turned (h':=l) (t':=s'.toks) (λb o G e=>i.extBut b o G e) g.1 g.2.1 g.2.2.2.1 g.2.2.2.2.1 g.2.2.2.2.2,7,q))
end L2
namespace Tw
def ML(H0:Hp)(σ:St)(t:TE)(ms:List Int):Prop:=∀(H:Hp) (Q:VK),aL H0 H->(∀r a,H r=none->aL H a->a r=some (.lst !!ms)->Q (.ref r) a)->t σ H Q
def V9(H0:Hp)(σ:St)(t:TE)(i:Int):Prop:=∀(H:Hp) (Q:VK),aL H0 H->(∀a,aL H a->Q (.int i) a)->t σ H Q
def MA(H0:Hp)(σ:St)(t:TA)(ms:List Int):Prop:=∀(H:Hp) (Q:List V->Hp->Prop),aL H0 H->(∀a,aL H a->Q ‹ms› a)->t σ H Q
def MO(H0:Hp)(σ:St)(t:TO)(o:Option Int):Prop:=∀(H:Hp) (Q:Option Int->Hp->Prop),aL H0 H->(∀a,aL H a->Q o a)->t σ H Q
def MV(H0:Hp)(σ:St)(t:TE)(ms:List Int):Prop:=∀(H:Hp) (Q:VK),aL H0 H->(∀r a,aL H a->a r=some (.lst !!ms)->Q (.ref r) a)->t σ H Q
theorem ML.v{t:TE}{ms:List Int}(h:ML H0 σ t ms):MV H0 σ t ms:=λH Q s q=>h H Q s λr b _ a x=>q r b a x
theorem cF{i:Nat}{p:Addr}{ms:List Int}(e:σ[i]?=some (!!!p))(a:H0 p=some (.lst !!ms)):MV H0 σ (DK i) ms:=λH _ s q=>(_,e,q p H (.refl _) (s _ _ a))
theorem aU{i:Nat}{z:Int}(e:σ[i]?=some (!!!!z)):V9 H0 σ (DK i) z:=λH _ _ q=>(_,e,q H (.refl _))
theorem bT:V9 H0 σ (tC (.int i)) i:=λH _ _ q=>q H (.refl _)
theorem dq{t u:TE}{g:Int->Int->Int}{i j:Int}(d:V9 H0 σ t i)(c:V9 H0 σ u j):V9 H0 σ (W9 (Xv λi j=>.int (g i j)) t u) (g i j):=λH _ s q=>
 d H _ s λf a=>c f _ (s.trans a) λe b=>(4,q e (a.trans b))
theorem cV{t u:TE}{C:Int->Int->Prop}{g:Int->Int->Int}{i j:Int}(e:V9 H0 σ t i)(d:V9 H0 σ u j)(c:C i j):V9 H0 σ (W9 (rI C λi j=>.int (g i j)) t u) (g i j):=λH _ s q=>
 e H _ s λh a=>d h _ (s.trans a) λf b=>(4,c,q f (a.trans b))
theorem dD:MA H0 σ N6 []:=λH _ _ q=>q H (.refl _)
theorem bZ{t:TE}{a:TA}{i:Int}{ms:List Int}(e:V9 H0 σ t i)(d:MA H0 σ a ms):MA H0 σ (uO t a) (i::ms):=λH _ s q=>
 e H _ s λg b=>d g _ (s.trans b) λf c=>q f (b.trans c)
theorem dB{ms:List Int}(h:MA H0 σ t ms)(c:ms.length<=500000):ML H0 σ (R0 t) ms:=λH _ s q=>
 h H _ s λd a=>(by rw[aaa,sizeLine_eq];lia,λp b=>q p _ (a.free b) (a.trans (au b _)) aa)
theorem cO{t u:TE}{xs ys:List Int}(i:MV H0 σ t xs)(h:MV H0 σ u ys)(k:xs.length+ys.length<=500000):ML H0 σ (W9 U0 t u) (xs++ys):=λH _ s q=>
 i H _ s λg j b e=>h j _ (s.trans b) λf l a d=>(g,f,4,a _ _ e,d,by rw[aaa,aaa,sizeLine_eq];lia,λp c=>q p _ ((b.trans a).free c) ((b.trans a).trans (au c _)) (by rw[aa,aaf]))
theorem Rq:MO H0 σ ut none:=λH _ _ q=>q H (.refl _)
theorem uC{t:TE}{i:Int}(h:V9 H0 σ t i):MO H0 σ (ym t) (some i):=λH _ s q=>h H _ s λb a=>(9,q b a)
theorem N5{t:TE}{d f:TO}{ns ms:List Int}{lo i:Option Int}(h:MV H0 σ t ns)(l:MO H0 σ d lo)(k:MO H0 σ f i)(e:fc ‹ns› lo i=ms.map V.int):ML H0 σ (Zv (J9 K) t d f) ms:=λH _ s q=>
 h H _ s λr n b j=>l n _ (s.trans b) λm a=>k m _ (s.trans (b.trans a)) λo c=>(r,9,My.of ((a.trans c) _ _ j),λp g=>q p _ ((b.trans (a.trans c)).free g) ((b.trans (a.trans c)).trans (au g _)) (by rw[aa,e]))
theorem oZ{t u:TE}{ns:List Int}{i:Int}{j:Nat}(h:MV H0 σ t ns)(a:V9 H0 σ u i)(e:i=(j:Int)):ML H0 σ (Zv (J9 K) t ut (ym u)) (ns.take j):=N5 h Rq (uC a) (by rw[e,Ew])
theorem fG{t u:TE}{ns:List Int}{i:Int}{j:Nat}(h:MV H0 σ t ns)(a:V9 H0 σ u i)(e:i=(j:Int)):ML H0 σ (Zv (J9 K) t (ym u) ut) (ns.drop j):=N5 h (uC a) Rq (by rw[e,Dg])
theorem RP{t u v:TE}{ns:List Int}{i a:Int}{j k:Nat}(h:MV H0 σ t ns)(c:V9 H0 σ u i)(b:V9 H0 σ v a)(e:i=(j:Int))(d:a=(k:Int)):ML H0 σ (Zv (J9 K) t (ym u) (ym v)) ((ns.drop j).take (k-j)):=N5 h (uC c) (uC b) (by rw[e,d,nU])
theorem Aw{t u:TE}{ns:List Int}{i z:Int}{j:Nat}(h:MV H0 σ t ns)(d:V9 H0 σ u i)(e:i=(j:Int))(hz:ns[j]?=some z):V9 H0 σ (W9 (Uj K) t u) z:=λH _ s q=>
 h H _ s λr g b c=>d g _ (s.trans b) λf a=>(r,_,4,My.of (a _ _ c),by rw[e];exact jD (by rw[aak,hz];rfl),q f (b.trans a))
theorem Ey{t u:TE}{ns:List Int}{i:Int}{j:Nat}(h:MV H0 σ t ns)(f:V9 H0 σ u i)(e:i=(j:Int))(k:ns.length*j<=500000)(l:j<=500000):ML H0 σ (W9 TF t u) (aai j ns).flatten:=λH _ s q=>
 h H _ s λr g b d=>f g _ (s.trans b) λm a=>(r,4,a _ _ d,6,6,by rw[e,aav,aaa,sizeLine_eq];lia,λp c=>q p _ ((b.trans a).free c) ((b.trans a).trans (au c _)) (by rw[aa,e,aav,List.map_flatten,aiO]))
theorem R9{t:TE}{ns:List Int}(h:MV H0 σ t ns){tk:TE}(e:V9 H0 σ tk (-1)):ML H0 σ (Rt K t tk) ns.reverse:=λH _ s q=>
 h H _ s λr f b d=>e f _ (s.trans b) λg a=>(7,r,9,My.of (a _ _ d),λp c=>q p _ ((b.trans a).free c) ((b.trans a).trans (au c _)) (by rw[aa,List.map_reverse]))
theorem Tu{t:TE}{i:Int}(h:V9 H0 σ t i):V9 H0 σ (tUn (rU λi=>.int (-i)) t) (-i):=λH _ s q=>h H _ s λb a=>(9,q b a)
theorem V9.to{t:TE}{i j:Int}(h:V9 H0 σ t i)(e:i=j):V9 H0 σ t j:=e ▸ h
theorem uG{t:TE}{ns:List Int}(h:MV H0 σ t ns):V9 H0 σ (tCB (λxs H Q=>∃p ys,xs=[V.ref p]/\(My K H p ys\/VM K H p ys)/\Q (.int (ys.length:Int)) H) (uO t N6)) (ns.length:Int):=λH _ s q=>
 h H _ s λr c b a=>(r,9,.inl (My.of a),by rw[aaa];exact q c b)
theorem kh{t:TE}{i:Nat}{z:Int}(h:V9 H σ t z)(q:∀H',aL H H'->R.nx (σ.set i (!!!!z)) H'):Cq t (gh i) R σ H:=h H _ (.refl _) q
theorem lA{t:TE}{i:Nat}{ms:List Int}(h:ML H σ t ms)(q:∀r H',H r=none->aL H H'->H' r=some (.lst !!ms)->R.nx (σ.set i (!!!r)) H'):Cq t (gh i) R σ H:=h H _ (.refl _) q
theorem vY{t:TE}{ms:List Int}(h:ML H σ t ms)(q:∀r H',H r=none->aL H H'->H' r=some (.lst !!ms)->R.rt (.ref r) H'):Us t R σ H:=h H _ (.refl _) q
def PT(σ:St)(H:Hp)(t:TT)(F:Bool->Prop):Prop:=∀Q:Bool->Hp->Prop,(∀b,F b->Q b H)->t σ H Q
theorem PT.arm{t:TT}{F:Bool->Prop}{A B:TS}(h:PT σ H t F)(d:F true->A R σ H)(c:F false->B R σ H):RX t A B R σ H:=h _ λb a=>by
 cases b
 ·exact fM (c a)
 ·exact fP (d a)
def PU(H0:Hp)(σ:St)(t:TT)(F:Bool->Prop):Prop:=∀(H:Hp) (Q:Bool->Hp->Prop),aL H0 H->(∀b a,aL H a->F b->Q b a)->t σ H Q
theorem PU.and{t u:TT}{F G:Bool->Prop}(i:PU H0 σ t F)(h:PU H0 σ u G):PU H0 σ (Uv t u) (λb=>b=true->F true/\G true):=λH Q s q=>i H _ s λb d a g=>by
 cases b
 ·exact fM (q false d a λz=>absurd z ∅)
 ·exact fP (h d _ (s.trans a) λc j e f=>q c j (a.trans e) λz=>(g,by rw[<-z];exact f))
theorem PU.or{t u:TT}{F G:Bool->Prop}(i:PU H0 σ t F)(h:PU H0 σ u G):PU H0 σ (tOr t u) (λb=>b=false->F false/\G false):=λH Q s q=>i H _ s λb d a g=>by
 cases b
 ·exact fM (h d _ (s.trans a) λc j e f=>q c j (a.trans e) λz=>(g,by rw[<-z];exact f))
 ·exact fP (q true d a λz=>absurd z ∅)
theorem PU.arm{t:TT}{F:Bool->Prop}{A B:TS}(h:PU H σ t F)(f:∀H',aL H H'->F true->A R σ H')(e:∀H',aL H H'->F false->B R σ H'):RX t A B R σ H:=h H _ (.refl _) λb d a c=>by
 cases b
 ·exact fM (e d a c)
 ·exact fP (f d a c)
theorem Ro{g:Int->Int->Bool}{t u:TE}{i j:Int}(e:V9 H0 σ t i)(d:V9 H0 σ u j):PU H0 σ (DR (W9 (Xv λi j=>.bl (g i j)) t u)) (λb=>g i j=b):=λH _ s q=>
 e H _ s λh a=>d h _ (s.trans a) λf c=>(4,9,q _ f (a.trans c) rfl)
theorem sW{t u:TE}{i j:Int}(e:V9 H0 σ t i)(d:V9 H0 σ u j):PU H0 σ (DR (W9 rEq t u)) (λb=>decide (i=j)=b):=λH _ s q=>
 e H _ s λg a=>d g _ (s.trans a) λf c=>(7,9,q _ f (a.trans c) (qw ..).symm)
end Tw
namespace L2
open PySem.Spec PyProof.Rows
theorem yJ:∀{l U:List Int},l.Nodup->(∀z∈l,z∈U)->l.length<=U.length
 |[],_,_,_=>aaH _
 |a::l,U,f,h=>by
  have c:=h a aan;have d:=agv.mp f;have q:=yJ (l:=l) (U:=U.erase a) d.2 λz b=>(agZ λe:z=a=>d.1 (e ▸ b)).mpr (h z (aaj _ b));have e:=agK c;have p:=ahk c;rw[aah];lia
open Tw
theorem O6{ns:List Int}{U:List Int}(h:∀z∈ns,z∈U):(met (λi=>ns.getD i 0) ns.length).length<=U.length:=
 yJ (gm _ _) λz b=>by
  obtain⟨i,a,rfl⟩:=(pZ _ _ _).mp b;refine h _ ?_;show ns.getD i 0∈ns;rw[aaA,aac a];exact afL a
open PySem.W
inductive Mt(R:It->Hp->Prop)(x:V)(H1:Hp):Prop
 | mk (d kvs:_) (_:x=.ref d) (_:((H1 d=some (.dK kvs) /\ ∀o,R (Itd d o kvs) (upd H1 d (.Wj o (.dK kvs)))) \/ ∃o,H1 d=some (.Wj o (.dK kvs))/\R (Itd d o kvs) H1))
def Th(b:TE):TI:=λ a H R=>b a H (Mt R)
theorem vP{l:Expr}(j:PE X l ta):PI X tg l (Th ta):=by
 intro J s G H R I h;refine VL (j J s G H _ I h) λv a ⟨x,F,i,M,N⟩=>?_;obtain⟨d,c,e,q⟩:=N;subst e;cases M;rcases q with ⟨hd,q⟩|⟨K,hd,q⟩
 ·obtain⟨L,n,g,m,p⟩:=(show b7 X.prog X.w F a.heap d (.dK c)from i.hok d _ hd);obtain⟨o,C,D,f,B,k,A,y,t⟩:=id p;have j:c.length=g.length:=Paired.length m;have E:Inv X J G (upd F d (.Wj o (.dK c))) {a with heap:=a.heap,toks:=a.toks}:=i.write (x:=d) (e:=d) (by rw[hd];trivial) (.inl rfl) (λb u _ z=>z) (o,f) (f,L,n,g,m,p);refine wpAny_pyIter_dict n (show a.heap.DictAt (cQ X.prog X.w) d g D from (o,C,f,B,k,A,y,t)) ?_;refine(a.heap.objs.size,[a.heap.objs.size],_,_,9,E.kept (t':=a.toks) λb o e=>Heap.get?_push_of_some _ e,yt d _ o k c,(_,Heap.get?_push_size _ rfl,7,1),λb r=>?_,q o)
  ·rw[j];rfl
  have e:b=a.heap.objs.size:=by simpa using r
  subst e;exact E.fpOk (aae _) (E.hok.fresh (aae _))
 ·obtain⟨O,L,n,g,m,p⟩:=(show b7 X.prog X.w F a.heap d (.Wj K (.dK c))from i.hok d _ hd);obtain⟨o,C,D,f,B,k,A,y,t⟩:=id p;have j:c.length=g.length:=Paired.length m;have P:o=K:=by
   rw[O]at f;exact(afE f).symm
  subst P;refine wpAny_pyIter_dict n (show a.heap.DictAt (cQ X.prog X.w) d g D from (o,C,f,B,k,A,y,t)) ?_;refine(a.heap.objs.size,[a.heap.objs.size],_,_,9,i.kept (t':=a.toks) λb o e=>Heap.get?_push_of_some _ e,yt d _ o k c,(_,Heap.get?_push_size _ rfl,7,1),λb r=>?_,q)
  ·rw[j];rfl
  have e:b=a.heap.objs.size:=by simpa using r
  subst e;exact i.fpOk (aae _) (i.hok.fresh (aae _))
end L2
namespace Tw
theorem sU{o:Obj}{h:List (Key×V)}{k:L2.St}(f:Key->Bool)(g:Key->V)(hd:H a=some (.Wj o (.dK h)))(A:h.length<sizeLine)
  (t:∀(p:Key×V) (H':Hp) (Q:Bool->Hp->Prop),p∈h->aL H H'->Q (f p.1) H'->L (some (kV p.1)::k) H' Q)
  (z:∀(p:Key×V) (H':Hp) (Q:VK),p∈h->f p.1=true->aL H H'->Q (g p.1) H'->ta (some (kV p.1)::k) H' Q)
  (q:∀D,H D=none->m D (upd H D (.lst (((h.map aiC).filter f).map g)))):fY (Itd a o h) k L ta m H:=by
 intro D r;exists λi b s u=>b=h.length-i/\i<=h.length/\s=((((h.take i).map aiC).filter f).map g)/\u=upd H D (.lst s),(9,aaH _,7,7);rintro i b s u ⟨rfl,B,rfl,rfl⟩;have l:upd H D (.lst ((((h.take i).map aiC).filter f).map g)) a=some (.Wj o (.dK h)):=au r _ _ _ hd;by_cases j:i<h.length
 ·refine .inr ((l,j),λv C y=>?_);obtain⟨rfl,p,n,rfl⟩:=y;refine t p _ _ (aar n) (au r _) ?_;have w:((((h.take i).map aiC).filter f).map g).length<=i:=by
   rw[aaa];refine agd (age _ _) ?_;rw[aaa,aam];lia
  by_cases c:f p.1=true
  ·rw[c,if_pos rfl];refine z p _ _ (aar n) c (au r _) (aa,6,h.length-(i+1),6,7,j,1,1)
   ·rw[agG,n,aaf,agb,aaf];show _=_++(ajx f [p.1]).map g;rw[agP c];rfl
   ·rw[iu]
  ·have x:f p.1=false:=by
    cases e:f p.1
    ·rfl
    ·exact absurd e c
   rw[x];refine fM (h.length-(i+1),6,7,j,1,7);rw[agG,n,aaf,agb,aaf];show _=_++(ajx f [p.1]).map g;rw[agx c];exact(afR _).symm
 ·have e:i=h.length:=by lia
  subst e;refine .inl ((l,aae _),1);have:=q D r;rw[afK];exact this
end Tw
namespace L2
open PySem.Spec PyProof.Rows PySem.W
def oN(x:Str)(lo a:Option Int):Str:=⟨((x.cps.toList.drop (HT.VP x.length 0 lo)).take (HT.VP x.length x.length a-HT.VP x.length 0 lo)).toArray⟩
theorem ql(n d:Nat)(lo:Option Int):HT.VP n d lo=lo.elim d (clipAt n):=by
 cases lo with
 |none=>rfl
 |some v=>
  show (if v<0 then (v+(n:Int)).toNat else min v.toNat n)=clipAt n v;unfold clipAt;split<;>lia
theorem part_of{v:Value}{lo:Option Int}(h:IsPart v lo):∃l:Option (Int×Tok),v=partValue l/\l.map (·.1)=lo:=by
 cases h with
 |none=>exact(none,7,7)
 |int i t=>exact(some (pq i t),7,7)
theorem tG(z:Str)(l u:Option (Int×Tok)):((slicePicked z l u none).filterMap (z.cps[·]?)).toArray=(oN z (l.map (·.1)) (u.map (·.1))).cps:=by
 unfold slicePicked oN;have e:Builtin.Str.strSliceIndices (l.map (·.1)) (u.map (·.1)) 1 z.length=sliceRange (HT.VP z.length 0 (l.map (·.1)):Nat) (HT.VP z.length z.length (u.map (·.1)):Nat) 1:=by
  unfold Builtin.Str.strSliceIndices;rw[ql,ql];cases l<;>cases u<;>simp[clipAt_cast]
 show (List.filterMap (z.cps[·]?) (Builtin.Str.strSliceIndices (l.map (·.1)) (u.map (·.1)) 1 z.length)).toArray=_;rw[e,sliceRange_one,pick_run]
theorem Kr{l u:Option (Int×Tok)}(h:(slicePicked qual l u none).length=qual.length):oN qual (l.map (·.1)) (u.map (·.1))=qual:=by
 have g:=tG qual l u;have d:slicePicked qual l u none=sliceRange (HT.VP qual.length 0 (l.map (·.1)):Nat) (HT.VP qual.length qual.length (u.map (·.1)):Nat) 1:=by
  unfold slicePicked;show Builtin.Str.strSliceIndices (l.map (·.1)) (u.map (·.1)) 1 qual.length=_;unfold Builtin.Str.strSliceIndices;rw[ql,ql];cases l<;>cases u<;>simp[clipAt_cast]
 rw[d,sliceRange_one,aaa,aaG]at h;have f:HT.VP qual.length qual.length (u.map (·.1))<=qual.length:=HT.Ny _ _ (aae _) _;unfold oN;have b:qual.length=qual.cps.size:=rfl;rcases agJ qual.length with c|c
 ·have:qual.cps=#[]:=Array.eq_empty_of_size_eq_zero (b ▸ c);cases qual with
  |mk a=>
   have:a=#[]:=this;subst this;simp
 ·have e:HT.VP qual.length 0 (l.map (·.1))=0:=by lia
  rw[e,agE,ahF,show HT.VP qual.length qual.length (u.map (·.1))=qual.length by lia,aal (by rw[aag];exact ah8 b.symm)]
theorem tE(z:Str)(lo a:Option Int):(oN z lo a).length<=z.length:=by
 unfold oN;show ((z.cps.toList.drop _).take _).toArray.size<=z.cps.size;rw[aaT,aam,aaq,aag];lia
inductive Vq(x:V)(lo:Option Int)(hi:Option Int)(H:Hp)(Q:VK):Prop
 | mk (z:_) (_:x=.str z) (_:z.length<=sizeLine) (_:Q (.str (oN z lo hi)) H)
theorem vI{X:Cx}:Zu X Vq:=by
 intro k s j H x v n m p r o Q I b g d c h;obtain⟨z,rfl,f,q⟩:=h;obtain⟨t,rfl⟩:=b
 exists "str",_,F.slot_str_getitem.lookup,typeIs_str _ _ _
 obtain⟨l,rfl,rfl⟩:=part_of d;obtain⟨u,rfl,rfl⟩:=part_of c;refine wpAny_getItem_str_slice (l:=l) (u:=u) (st:=none) g rfl ?_;unfold sliceMade;split
 ·rename_i a;have i:(slicePicked z l u none).length=z.length:=by
   simp at a;exact a
  rw[Kr i]at q;exact(.str z,H,I,(t,7),q)
 ·have e:(⟨((slicePicked z l u none).filterMap (z.cps[·]?)).toArray⟩:Str)=oN z (l.map (·.1)) (u.map (·.1)):=by rw[tG]
  rw[e];exact(agd (tE _ _ _) f,(.str _,H,I.tok _,3,q))
def Ik(x:Str):It:=
 (λi _=>i<x.cps.size,λi H v a=>a=H /\ ∃c,x.cps[i]?=some c/\v=.str ⟨#[c]⟩,λi _=>x.cps.size<=i)
theorem Iv{P:Program}{w:World}{K:PySem.W.Frag}(g:Addr)(x:Str)(t:Tok):Turn P w K e (Ik x) [g] g (λi h=>h.IsStrIter g "str_ascii_iterator" x t i) where
 mem:=by simp
 obj:=λi h f b l=>by
  have a:b=g:=by simpa using l
  subst a;obtain⟨o,a,c,d⟩:=f;exact(o,a,λv z=>by rw[d]at z;cases z)
 keep:=λi h p f k=>let ⟨o,ho,r⟩:=f;(o,k g (by simp) o ho,r)
 item:=by
  intro X u q y L i J s G H E I n f j;subst u q y;have j:i<x.cps.size:=j;obtain⟨F,D,N,C,B,A⟩:=n g (by simp);refine wpAny_pyNext_ascii_item f (c:=x.cps[i]) (by simp[j]) λp m M=>?_;have Q:Inv X J G H {s with heap:=p,toks:=s.toks+1}:=I.turned (t':=s.toks+1) (λb o l a=>(M.2 b l).trans a) F D C B A;obtain⟨o,a,c,d⟩:=id m;exact(9,tO (s:={s with heap:=p,toks:=s.toks+1}) a c d ∅ (.str ⟨#[x.cps[i]]⟩,H,Q,3,(7,_,by simp[j],7),m,λb l=>(n b l).1))
 done:=by
  intro X u q y L i J s G H E I n f j;subst u q y;have j:x.cps.size<=i:=j;obtain⟨F,D,N,C,B,A⟩:=n g (by simp);exact wpAny_pyNext_ascii_end (I.ok.hd L) f (by simp;lia) λp O=>(7,I.turned (t':=s.toks) (λb o l a=>O b o l a) F D C B A)
 self:=λ_ _ _ _ _ f h=>wpAny_pyIter_striter_ascii f h
theorem JQ{P:Program}{w:World}{K:PySem.W.Frag}(g:Addr)(x:Str)(t:Tok):Turn P w K e (Ik x) [g] g (λi h=>h.IsStrIter g "str_iterator" x t i) where
 mem:=by simp
 obj:=λi h f b l=>by
  have a:b=g:=by simpa using l
  subst a;obtain⟨o,a,c,d⟩:=f;exact(o,a,λv z=>by rw[d]at z;cases z)
 keep:=λi h p f k=>let ⟨o,ho,r⟩:=f;(o,k g (by simp) o ho,r)
 item:=by
  intro X u q y L i J s G H E I n f j;subst u q y;have j:i<x.cps.size:=j;obtain⟨F,D,N,C,B,A⟩:=n g (by simp);refine wpAny_pyNext_wide_item f (c:=x.cps[i]) (by simp[j]) λp m M=>?_;have Q:Inv X J G H {s with heap:=p,toks:=s.toks+1}:=I.turned (t':=s.toks+1) (λb o l a=>(M.2 b l).trans a) F D C B A;obtain⟨o,a,c,d⟩:=id m;exact(9,tO (s:={s with heap:=p,toks:=s.toks+1}) a c d ∅ (.str ⟨#[x.cps[i]]⟩,H,Q,3,(7,_,by simp[j],7),m,λb l=>(n b l).1))
 done:=by
  intro X u q y L i J s G H E I n f j;subst u q y;have j:x.cps.size<=i:=j;obtain⟨F,D,N,C,B,A⟩:=n g (by simp);exact wpAny_pyNext_wide_end (I.ok.hd L) f (by simp;lia) λp O=>(7,I.turned (t':=s.toks) (λb o l a=>O b o l a) F D C B A)
 self:=λ_ _ _ _ _ f h=>wpAny_pyIter_striter_wide f h
inductive T8(R:It->Hp->Prop)(v:V)(H1:Hp):Prop
 | mk (x:_) (_:v=.str x) (_:R (Ik x) H1)
def Vl(b:TE):TI:=λ a H R=>b a H (T8 R)
theorem Lb{l:Expr}(n:PE X l ta):PI X tg l (Vl ta):=by
 intro f s j H R I h;refine VL (n f s j H _ I h) λv a ⟨y,d,c,k,m⟩=>?_;obtain⟨x,e,q⟩:=m;subst e;obtain⟨t,rfl⟩:=k;have i:∀b∈[a.heap.objs.size],gr X f d b:=λb p=>by
  have e:b=a.heap.objs.size:=by simpa using p
  subst e;exact c.fpOk (aae _) (c.hok.fresh (aae _))
 cases g:x.cps.all (· < 128)
 ·refine wpAny_pyIter_wide g ?_;exact(a.heap.objs.size,[a.heap.objs.size],_,_,d,7,c.kept (t':=a.toks) λb o e=>Heap.get?_push_of_some _ e,JQ _ x t,(_,Heap.get?_push_size _ rfl,7,7),i,q)
 ·refine wpAny_pyIter_ascii g ?_;exact(a.heap.objs.size,[a.heap.objs.size],_,_,d,7,c.kept (t':=a.toks) λb o e=>Heap.get?_push_of_some _ e,Iv _ x t,(_,Heap.get?_push_size _ rfl,7,7),i,q)
theorem Hx{x:Str}{g:TG}{j:TS}{σ:St}(a:Nat->St->Hp->Prop)(q:a 0 σ H)
  (n:∀i c σ H,x.cps[i]?=some c->a i σ H->g (.str ⟨#[c]⟩) σ H λ b h=>j {R with nx:=a (i+1),ct:=a (i+1),bk:=R.nx} b h)(hd:∀σ H,a x.cps.size σ H->R.nx σ H):
  ∃W:Nat->Nat->St->Hp->Prop,(∃m,W 0 m σ H) /\ ∀i m σ H,W i m σ H ->
   ((Ik x).stop i H/\R.nx σ H)\/((Ik x).go i H /\ ∃N:St->Hp->Prop,(∀d H',N d H' -> ∃k,k<m/\W (i+1) k d H') /\ ∀v H',(Ik x).Xk i H v H'->g v σ H' λ b h=>j {R with nx:=N,ct:=N,bk:=R.nx} b h):=by
 exists λi m σ H=>m=x.cps.size-i/\i<=x.cps.size/\a i σ H,(x.cps.size,by simp,aaH _,q);rintro i m σ H ⟨rfl,r,p⟩;by_cases f:i<x.cps.size
 ·refine .inr (f,a (i+1),λ d H' l=>(x.cps.size-(i+1),6,7,f,l),λv H' y=>?_);obtain⟨rfl,c,o,rfl⟩:=y;exact n i c σ _ o p
 ·have e:i=x.cps.size:=by lia
  subst e;exact .inl (aae _,hd σ H p)
end L2
namespace Tw
open PySem.Spec PyProof.Rows
def Yu(c:List Str):Prop:=c.Pairwise λa b=>¬b.cps.toList<a.cps.toList
theorem ul{vs:List Value}(g:StrsAre vs N){xs:Array Keyed}(l:xs.Perm (pairsOf vs))(s:SortedToK PyProof.Rows.strKind xs (pairsOf vs).size):
  ∃d,StrsAre (xs.map (·.2)).toList d/\d.Perm N/\Yu d:=by
 have m:xs.toList.Perm (vs.zip vs):=by rw[<-pairsOf_toList];exact agU.mp l
 have a:∀p,p∈xs.toList->p.1=p.2/\p.1∈vs:=λp b=>mem_zip_self (m.mem_iff.mp b);exists xs.toList.map (λp=>strOf p.1),1,1
 ·have e:(xs.map (·.2)).toList=xs.toList.map (·.1):=by
   rw[Array.toList_map];exact agr λp b=>(a p b).1.symm
  rw[e];have c:=strsAre_map (xs.toList.map (·.1)) (by
   intro v r;obtain⟨p,b,rfl⟩:=aaz.mp r;exact g.all _ (a p b).2)
  rwa [afZ]at c
 ·have c:=m.map (λp=>strOf p.1);have A:(vs.zip vs).map (λp=>strOf p.1)=N:=by
   have:(vs.zip vs).map (λp=>strOf p.1)=((vs.zip vs).map aiC).map strOf:=by
    rw[afZ];rfl
   rw[this,ai3 (aae _),g.strs]
  rwa [A]at c
 ·unfold Yu;rw[afG];intro i j z w h;have k:i<xs.size:=by simpa using z
  have f:j<xs.size:=by simpa using w
  have c:=s i j (agW h) (by rw[<-l.size_eq];exact f);obtain⟨x,t,o⟩:=g.all _ (a xs[i] (by simp)).2;obtain⟨y,u,n⟩:=g.all _ (a xs[j] (by simp)).2;rw[KK_str k (x:=x) (t:=t) (q:=xs[i].2) (ajz o rfl),KK_str f (x:=y) (t:=u) (q:=xs[j].2) (ajz n rfl)]at c;change decide (y.cps.toList<x.cps.toList)=false at c;simp only[List.getElem_map,af3];rw[show strOf xs[i].1=x by rw[o];rfl,show strOf xs[j].1=y by rw[n];rfl];exact of_decide_eq_false c
section
variable{w:World}
theorem yZ{l:Addr}{vs:List Value}{n:Nat}{Q:PySem.Fin->Shared->Prop}(f:s.heap.get? l=some (seqObj "list" vs.toArray n))(b:StrsAre vs N)(hz:vs.length<=100000)
  (h:∀(out:Array Value) (a:List Str),StrsAre out.toList a->a.Perm N->Yu a->Q (.done (.ret .none)) {s with heap:=sortedHeap s.heap l vs out}):wpAny (model prog w) A (Builtin.«list.sort» ([.ref l],[])) Q E s:=by
 refine zf strKind_oneLt f b.keysOf (λu v r e=>keyKind_strs (by rw[<-e];exact b)) hz λz d c=>?_;obtain⟨a,j,i,g⟩:=ul b d c;exact h _ a j i g
theorem wI{l:Addr}{vs:List Value}{Q:Value->Shared->Prop}(d:s.heap.IsList l vs.toArray)(e:StrsAre vs N)(hz:vs.length<=100000)
  (h:∀(out:Array Value) (a:List Str),StrsAre out.toList a->a.Perm N->Yu a->Q (.ref (s.heap.objs.size+1)) {s with heap:=sortedAll s.heap vs out}):
  wpAny (model prog w) A (call (.builtin "sorted") [.ref l]) Q E s:=by
 have c:vs.length<=sizeLine:=by rw[sizeLine_eq];lia
 refine Calls.call_function_entry kind_sorted plain_sorted entry_sorted (args_sorted1 _) ?_;unfold Builtin.«sorted»
 refine wpAny_bind (m:=checkCount "sorted" 1 1 _) (wpAny_pure (wpAny_bind (collect_list d ?_ c)))
 refine wpAny_bind (wpAny_newList ?_ c)
 have z:((s.heap.push (seqObj "list" #[] 0)).update s.heap.objs.size (Obj.mapSeq (· ++ vs.toArray))).objs.size=s.heap.objs.size+1:=by rw[Heap.size_update,size_push']
 have g:(((s.heap.push (seqObj "list" #[] 0)).update s.heap.objs.size (Obj.mapSeq (· ++ vs.toArray))).push (seqObj "list" vs.toArray 0)).get? (s.heap.objs.size+1)=some (seqObj "list" vs.toArray 0):=by
  rw[<-z];exact Heap.get?_push_size _ rfl
 show wpAny _ _ _ _ _ {s with heap:=((s.heap.push (seqObj "list" #[] 0)).update s.heap.objs.size (Obj.mapSeq (· ++ vs.toArray))).push (seqObj "list" vs.toArray 0)}
 rw[z];exact wpAny_bind (wpAny_holding (wpAny_call_entry slot_list_sort (_,g,7) entry_list_sort (yZ g e hz λout b j i f=>(9,wpAny_pure (9,h out b j i f))) (args_list_sort _)))
theorem JP{es:Array (Int×Value)}{m:List (Str×(Int×Value))}(o:mD (PySem.strKind prog w) es.toList N m){ps:List (Int×Value)}(b:agh ps es.toList)(d:ItemsOf (vD ps) G es.size):∃ns,StrsAre G.toList ns/\agh ns N:=by
 obtain⟨l,a⟩:=o.perm b;have h:ps.length=es.size:=by rw[b.length_eq,aag]
 have g:G.toList=ps.map (·.2):=by
  apply af7;intro i;rw[aak];cases j:G.toList[i]? with
  |none=>
   have:G.toList.length<=i:=aid.mp j;rw[aag,d.1,<-h]at this;rw[aaU this];rfl
  |some v=>
   obtain⟨e,f,k⟩:=d.2 i v (by rw[<-afP];exact j);rw[f,k];rfl
 refine(l.map (·.1),1,a.fst);rw[g,<-a.snd];have c:=a.is
 clear a g h d b
 induction l with
 |nil=>exact .nil
 |cons q r n=>
  obtain⟨f,k,u⟩:=c q aan;obtain⟨t,e⟩:=Value.isStrOf_shape (show Value.isStrOf q.1 q.2.2=true from f);rw[aax,aax,aax,e];exact .cons q.1 t (n λp b=>c p (aaj _ b))
theorem xK{Q:Value->Shared->Prop}(C:A.handled=none)(J:jH (dR w) (PySem.strKind prog w) s.heap S N)
  (h:∀(D:Addr) (h':Heap) d tk (vs:List Value) (ns:List Str) (e:Nat),s.heap.objs.size<=D->(∀b o,s.heap.get? b=some o->h'.get? b=some o)->h'.get? D=some (seqObj "list" vs.toArray e)->StrsAre vs ns->agh ns N->Yu ns->ns.length<=4096->Q (.ref D) {s with heap:=h',drawn:=d,toks:=tk}):
  wpAny (model prog w) A (call (.builtin "sorted") [.ref S]) Q E s:=by
 obtain⟨o,T,U,t,R,B,q,hd,H,F,I,K⟩:=J;have O:scanBound=4096:=rfl;refine Calls.call_function_entry kind_sorted plain_sorted entry_sorted (args_sorted1 _) ?_;unfold Builtin.«sorted»
 refine wpAny_bind (m:=checkCount "sorted" 1 1 _) (wpAny_pure ?_)
 refine wpAny_bind (tX (by simp[C]) (B,hd,F) q.1 H I λa j d tk P z u l r=>?_);obtain⟨ns,v,n⟩:=JP K z u;have i:a.toList.length<=4096:=by rw[aag,u.1];lia
 have p:ns.length=a.toList.length:=by rw[<-v.strs,aaa]
 refine wpAny_bind (wpAny_newList ?_ (by rw[sizeLine_eq];lia))
 have c:(j.push (seqObj "list" a.toList.toArray 0)).get? j.objs.size=some (seqObj "list" a.toList.toArray 0):=Heap.get?_push_size _ rfl
 refine wpAny_bind (wpAny_holding (wpAny_call_entry slot_list_sort (_,c,7) entry_list_sort (yZ c v ⋯ λf k M y L=>(9,1)) (args_list_sort _)));refine wpAny_pure (9,1);obtain⟨e,G⟩:=sortedHeap_at (out:=f) c;refine h j.objs.size _ d _ f.toList k e (agW l) (λb o x=>?_) (by simpa using G) M (y.trans n) L (by rw[y.length_eq,p];exact i);have g:=Heap.lt_size (r _ _ x);rw[sortedHeap_old (ae2 g) (by rw[Heap.size_push];exact ag3 g)];exact Heap.get?_push_of_some _ (r _ _ x)
end
end Tw
namespace L2
open PySem.Spec PyProof.Rows Tw
theorem u5:∀{c:List Value},Vals (N.map V.str) c->StrsAre c N:=by
 induction N with
 |nil=>
  intro c r;rw[ahP]at r;cases r;exact .nil
 |cons n e d=>
  intro c r;rw[aax]at r;cases r with
  |cons a b=>
   obtain⟨t,rfl⟩:=a;exact .cons n t (d b)
theorem rZ:∀{vs:List Value}{a:List Str},StrsAre vs a->Vals (a.map V.str) vs
 |_,_,.nil=>.nil
 |_,_,.cons _ t h=>.cons (t,7) (rZ h)
theorem tW{vs:List Value}(h:StrsAre vs N):vs.length=N.length:=by
 rw[<-h.strs,aaa]
def GZ(P:Program)(w:World)(a:Addr)(b:List Str):HO:=.ext λh=>jH (dR w) (PySem.strKind P w) h a b
theorem MN{P:Program}{w:World}{a:Addr}(e:jH (dR w) (PySem.strKind P w) base a N):b7 P w H base a (GZ P w a N):=by
 refine(e,1,λ_ _ p k=>p.at k);obtain⟨o,_,_,_,_,b,_⟩:=e;exact(o,b)
theorem tQ(G:X.calm=true):eE X (.type "set") (λxs H Q=>∃(p:Addr) (c:List Str),xs=[.ref p]/\My X.K H p (c.map V.str)/\(met (λi=>c.getD i ⟨#[]⟩) c.length).length+1<scanBound /\
  ∀l m o,H l=none->m=met (λi=>c.getD i ⟨#[]⟩) c.length->o=GZ X.prog X.w l m->Q (.ref l) (upd H l o)):=by
 intro O s N H xs P Q I r h;obtain⟨p,a,rfl,E,J,q⟩:=h;obtain⟨u,rfl,A⟩:=vals1 r;cases A;obtain⟨d,B,C,R⟩:=I.list E;have x:=u5 B;have j:=tW x;have g:d.toArray.size=a.length:=by simpa using j
 refine yf (knd:=PySem.strKind X.prog X.w) (f:=λi=>a.getD i ⟨#[]⟩) (I.ok.hd G) C.isList (λi v e=>?_) (by rw[g];exact J) λS z y F=>?_
 ·have M:d[i]?=some v:=by simpa using e
  have:∀{k:List Value}{a:List Str},StrsAre k a -> ∀(i:Nat) v,k[i]?=some v->Value.isStrOf (a.getD i ⟨#[]⟩) v=true/\v.scannable=true:=by
   intro k a L
   induction L with
   |nil=>intro i v e;simp at e
   |cons n t _ D=>
    intro i v e;cases i with
    |zero=>
     simp at e;subst e;exact(by simp[Value.isStrOf],7)
    |succ i=>exact D i v (by simpa using e)
  exact this x i v M
 ·rw[g]at y;exact(.ref s.heap.objs.size,_,I.laid (t':=z) (λb o e=>F b o (Heap.lt_size e) e) (aae _) (MN y),7,q _ _ _ (I.hok.fresh (aae _)) rfl rfl)
theorem ud:eE X (.builtin "len") (λxs H Q=>∃(p:Addr) (a:List Str),xs=[.ref p]/\H p=some (GZ X.prog X.w p a)/\Q (.int (a.length:Int)) H):=by
 intro x s v H xs y Q I r h;obtain⟨p,a,rfl,g,q⟩:=h;obtain⟨u,rfl,f⟩:=vals1 r;cases f;have k:jH (dR X.w) (PySem.strKind X.prog X.w) s.heap p a:=(I.hok p _ g).1;obtain⟨o,l,B,t,z,i,b,hd,A,j,_,c⟩:=k;have m:l.size=a.length:=by
  have e:=congrArg ag9 c.snd;have d:=c.fst.length_eq;rw[aaa]at e d;rw[<-d,e,aag]
 have n:scanBound=4096:=rfl;refine call_len_set i b hd j ⋯ ?_;exact(.int (a.length:Int),H,I.tok (s.toks+1+1),(_,by rw[<-m]),q)
theorem qp(t:X.calm=true):eE X (.builtin "sorted") (λxs H Q=>∃(p:Addr) (a:List Str),xs=[.ref p]/\H p=some (GZ X.prog X.w p a) /\
  ∀l ms,H l=none->agh ms a->Yu ms->Q (.ref l) (upd H l (.lst (ms.map V.str)))):=by
 intro A s z H xs B Q I r h;obtain⟨p,a,rfl,m,q⟩:=h;obtain⟨u,rfl,i⟩:=vals1 r;cases i;have v:jH (dR X.w) (PySem.strKind X.prog X.w) s.heap p a:=(I.hok p _ m).1;refine xK (I.ok.hd t) v λD y d g f j e c n o x b k C=>?_;exact(.ref D,_,(I.laid (t':=g) n c (show b7 X.prog X.w _ y D (.lst (j.map V.str))from (by rw[aaa,sizeLine_eq];lia,f,e,rZ x,o))).drawnTo d,7,q _ _ (I.hok.fresh c) b k)
theorem mW:eE X (.builtin "sorted") (λxs H Q=>∃(p:Addr) (c:List Str),xs=[.ref p]/\My X.K H p (c.map V.str)/\c.length<=100000 /\ ∀l ms,H l=none->agh ms c->Yu ms->Q (.ref l) (upd H l (.lst (ms.map V.str)))):=by
 intro z s y H xs A Q I r h;obtain⟨p,B,rfl,n,D,q⟩:=h;obtain⟨u,rfl,j⟩:=vals1 r;cases j;obtain⟨d,k,m,C⟩:=I.list n;have f:=u5 k;have i:=tW f;refine wI m.isList (by simpa using f) ⋯ λa b x g v=>?_;obtain⟨e,t⟩:=sortedAll_at s.heap d a;have o:b.length<=sizeLine:=by
  rw[g.length_eq,sizeLine_eq];lia
 refine(.ref (s.heap.objs.size+1),_,I.laid (t':=s.toks) (λ_ _=>sortedAll_old) (ahd _) (show b7 X.prog X.w _ _ _ (.lst (b.map V.str))from (by rw[aaa];exact o,a.toList,e,rZ x,1)),7,q _ _ (I.hok.fresh (ahd _)) g v);rw[t]
open PySem.W
inductive HF(x:V)(xs:List V)(H:Hp)(Q:VK):Prop
 | mk (z y:Str) (i:Nat) (rest:List Nat) (_:x=.str z) (_:xs=[.str y]) (_:Builtin.Str.occurrences z y 0 z.length 1=i::rest) (_:Q (.int (i:Int)) H)
theorem Jy:Zw X "str.index" HF:=by
 intro g s f H x j v k Q I b c h;obtain⟨z,y,i,rest,rfl,rfl,e,q⟩:=h;obtain⟨t,rfl⟩:=b;obtain⟨u,rfl,d⟩:=vals1 c;obtain⟨a,rfl⟩:=d;exact call_gives F.slot_str_index (typeIs_str _ _ _) F.entry_str_index (F.args_str_index_2 _ _) (gives_str_index z y t a i rest e) (.int (i:Int),H,I.tok _,3,q)
inductive Nm(x:V)(xs:List V)(H:Hp)(Q:VK):Prop
 | mk (z y:Str) (i:Nat) (rest:List Nat) (_:x=.str z) (_:xs=[.str y]) (_:Builtin.Str.occurrences z y 0 z.length 1=i::rest) (_:Q (.int (i:Int)) H)
theorem OD:Zw X "str.find" Nm:=by
 intro j s f H x k v l Q I b c h;obtain⟨z,y,i,rest,rfl,rfl,e,q⟩:=h;obtain⟨t,rfl⟩:=b;obtain⟨u,rfl,d⟩:=vals1 c;obtain⟨a,rfl⟩:=d;have g:=gives_str_find z y t a;rw[e]at g;exact call_gives F.slot_str_find (typeIs_str _ _ _) F.entry_str_find (F.args_str_find_2 _ _) g (.int (i:Int),H,I.tok _,3,q)
def mK(c:Nat)(n:Int):Str:=⟨(aai n.toNat c).toArray⟩
theorem Dz(c:Nat):∀(n:Nat) (a:Array Nat),((aai n (#[c]:Array Nat)).foldl (· ++ ·) a).toList=a.toList++aai n c
 |0,a=>by simp
 |n+1,a=>by
  rw[afX,ais,Dz c n,afY,afX];simp
theorem o8:Wi X (binaryOp .Mult) (λx y H Q=>∃(c:Nat) (n:Int),x=.str ⟨#[c]⟩/\y=.int n /\ -10000<=n/\n<=10000/\Q (.str (mK c n)) H):=by
 intro k s j H x y v u Q I g f h;obtain⟨c,n,rfl,rfl,p,o,q⟩:=h;obtain⟨t,rfl⟩:=g;obtain⟨l,rfl⟩:=f;refine P.mul_str ?_ ?_ ?_ ?_
 ·rw[decide_eq_false ⋯,decide_eq_false ⋯];rfl
 ·intro a b z;have:(1:Int) > (2^63-1) / n:=z;have m:n<=(2^63-1):=by lia
  have:=Int.le_ediv_of_mul_le (show 0<n by lia) (show 1*n<=2^63-1 by lia);lia
 ·intro a b;show decide (1*n.toNat > sizeLine)=false;rw[sizeLine_eq];exact decide_eq_false ⋯
 ·split
  next c1=>
   have e:mK c n=Str.empty:=by
    unfold mK;rw[Int.toNat_eq_zero.mpr ⋯];rfl
   rw[e]at q;exact(5,.str Str.empty,H,I.tok _,3,q)
  next c1=>
   split
   next d=>
    have i:n=1:=by
     have d:(n==1 || (1:Nat)==0)=true:=d;simpa using d
    subst i;exact(.str ⟨#[c]⟩,H,I,3,q)
   next d=>
    have e:(⟨(aai n.toNat (#[c]:Array Nat)).foldl (· ++ ·) #[]⟩:Str)=mK c n:=by
     unfold mK;congr 1;refine ai4.mp ?_;rw[Dz,ahf];rfl
    show Made.post (Made.str ⟨(aai n.toNat (#[c]:Array Nat)).foldl (· ++ ·) #[]⟩) _ _;rw[e];refine(1,.str (mK c n),H,I.tok _,3,q);show (aai n.toNat c).toArray.size<=sizeLine;rw[aaT,aaw,sizeLine_eq];lia
end L2
namespace Tw
def Wr(a b:Str):Prop:=a.cps.toList<b.cps.toList
theorem dw{a b:Str}(h:a.cps.toList=b.cps.toList):a=b:=by
 cases a;cases b;congr 1;exact ai4.mp h
theorem RC{a b:Str}(h:¬b.cps.toList<a.cps.toList)(e:a≠b):Wr a b:=by
 rcases ain (a.cps.toList) (b.cps.toList)with c|c
 ·by_cases d:a.cps.toList<b.cps.toList
  ·exact d
  ·exact absurd (dw (agN (ahg.mp h) (ahg.mp d))) e
 ·exact absurd (dw (agN (ahg.mp h) c)) e
theorem b8(a:Str):¬Wr a a:=ahO _
theorem iY{a b c:Str}(h:Wr a b)(h':Wr b c):Wr a c:=ahW h h'
theorem u0(h:Yu N)(c:N.Nodup):N.Pairwise Wr:=List.Pairwise.imp₂ (λa b e d=>RC e d) h c
theorem oH:∀{l g:List Str},l.Pairwise Wr->g.Pairwise Wr->(∀z,z∈l ↔ z∈g)->l=g
 |[],[],_,_,_=>rfl
 |[],b::j,_,_,h=>absurd ((h b).mpr aan) agA
 |a::r,[],_,_,h=>absurd ((h a).mp aan) agA
 |a::r,b::j,p,k,h=>by
  have f:=ago.mp p;have d:=ago.mp k;have e:a=b:=by
   rcases aat.mp ((h a).mp aan)with e|e
   ·exact e
   ·rcases aat.mp ((h b).mpr aan)with i|i
    ·exact i.symm
    ·exact absurd (iY (d.1 a e) (f.1 b i)) (b8 _)
  subst e;rw[oH f.2 d.2 λz=>?_];constructor
  ·intro c;rcases aat.mp ((h z).mp (aaj _ c))with e|e
   ·exact absurd (e ▸ f.1 z c) (b8 _)
   ·exact e
  ·intro c;rcases aat.mp ((h z).mpr (aaj _ c))with e|e
   ·exact absurd (e ▸ d.1 z c) (b8 _)
   ·exact e
def beg(w:Str)(k:Nat):Str:=⟨(w.cps.toList.take k).toArray⟩
theorem bw(w:Str)(k:Nat):(beg w k).cps.toList=w.cps.toList.take k:=by
 unfold beg;exact ahf
theorem jA(w:Str)(k:Nat):(beg w k).length=min k w.length:=by
 show (beg w k).cps.size=min k w.cps.size;rw[<-aag,bw,aam,aag]
theorem Qw(w:Str){j k:Nat}(h:j<=k):beg (beg w k) j=beg w j:=dw (by rw[bw,bw,bw,ahy,af0 h])
theorem nQ(w:Str){k:Nat}(h:w.length<=k):beg w k=w:=dw (by rw[bw,aal (by rw[aag];exact h)])
theorem ux(w:Str)(k:Nat):oN w none (some (k:Int))=beg w k:=by
 refine dw ?_;rw[bw];unfold oN;rw[ahf,HT.pW,agE,ahF,HT.iM];rcases ahG k w.length with c|c
 ·rw[af0 c]
 ·rw[agL c,aal (by rw[aag];exact aae _),aal (by rw[aag];exact c)]
theorem sZ:∀{p u:List Nat}{c:Nat},¬u<p->u<p++[c]->p.length<=u.length
 |[],_,_,_,_=>aaH _
 |a::p,[],c,h,_=>absurd (agV a p) h
 |a::p,b::u,c,h,d=>by
  rw[agm,af4]at d;rw[af4]at h;have e:b=a/\u<p++[c]:=by
   rcases d with d | d
   ·exact absurd (.inl d) h
   ·exact d
  have:=sZ (λz=>h (.inr (e.1,z))) e.2;rw[aah,aah];lia
structure cI(ws ts:List Str):Prop where
 up:ts.Pairwise Wr
 mem:∀t,t∈ts ↔ t=⟨#[]⟩ \/ ∃w∈ws,∃k:Nat,t=beg w k
theorem cI.uniq{ws a:List Str}(h:cI ws N)(h':cI ws a):N=a:=oH h.up h'.up λt=>(h.mem t).trans (h'.mem t).symm
theorem cI.pre{ws :List Str}(h:cI ws N){t:Str}(ht:t∈N)(k:Nat):beg t k∈N:=by
 rcases(h.mem t).mp ht with e|⟨w,a,j,e⟩
 ·refine(h.mem _).mpr (.inl ?_);rw[e];refine dw ?_;rw[bw];exact ahw
 ·rcases ahG k j with c|c
  ·exact(h.mem _).mpr (.inr (w,a,k,by rw[e,Qw w c]))
  ·refine(h.mem _).mpr (.inr (w,a,j,1));rw[e];refine nQ _ ?_;rw[jA];lia
theorem cI.zero{ws :List Str}(h:cI ws N):N[0]?=some ⟨#[]⟩:=by
 have b:=(h.mem ⟨#[]⟩).mpr (.inl rfl);cases N with
 |nil=>exact absurd b agA
 |cons a r=>
  rcases aat.mp b with e|e
  ·rw[e];rfl
  ·have c:=(ago.mp h.up).1 _ e;unfold Wr at c;exact absurd c (agS _)
theorem cI.good{ws :List Str}(h:cI ws N):cB (N.map λt=>(t.length:Int)):=by
 refine(by rw[aak,h.zero];rfl,λi x y w v=>?_);rw[aak]at w v;obtain⟨u,E,rfl⟩:=afS.mp w;obtain⟨t,ht,rfl⟩:=afS.mp v;obtain⟨A,o⟩:=aad.mp E;obtain⟨hi1,q⟩:=aad.mp ht;have b:Wr u t:=by
  rw[<-o,<-q];exact afG.mp h.up i (i+1) A hi1 (agM _)
 have G:t.length≠0:=λe=>by
  have:t.cps.toList=[]:=ahJ.mp (by rw[aag];exact e);unfold Wr at b;rw[this]at b;exact absurd b (agS _)
 refine(6,1);have F:=h.pre (aar ht) (t.length-1);obtain⟨j,H⟩:=agy F;obtain⟨l,f⟩:=aad.mp H;have d:t.cps.toList.length=t.length:=aag;obtain⟨c,B⟩:∃c,t.cps.toList=(beg t (t.length-1)).cps.toList++[c]:=by
  rw[bw];have k:t.cps.toList≠[]:=λe=>G (by rw[<-d,e];rfl);exists t.cps.toList.getLast k;rw[show t.length-1=t.cps.toList.length-1 by rw[d],<-aiz];exact(agu k).symm
 have s:Wr (beg t (t.length-1)) t:=by
  unfold Wr;rw[B];have:∀(p:List Nat) (c:Nat),p<p++[c]:=λp c=>by
   induction p with
   |nil=>exact agV c []
   |cons a r D=>
    rw[agm,af4];exact .inr (7,D)
  exact this _ _
 have I:j<=i:=by
  rcases afF i j with g|g
  ·rcases afF (i+1) j with C|C
   ·have:=afG.mp h.up (i+1) j hi1 l C;rw[q,f]at this;exact absurd (iY this s) (b8 _)
   ·have e:j=i+1:=by lia
    subst e;rw[q]at f;rw[<-f]at s;exact absurd s (b8 _)
  ·exact g
 have m:¬u.cps.toList<(beg t (t.length-1)).cps.toList:=λz=>by
  rcases afF j i with g|g
  ·have:=afG.mp h.up j i l A g;rw[f,o]at this;exact absurd (iY this z) (b8 _)
  ·have e:j=i:=by lia
   subst e;rw[o]at f;rw[f]at z;exact absurd z (ahO _)
 have n:=sZ m (by rw[<-B];exact b);rw[bw,aam,d,aag]at n;have:u.cps.size=u.length:=rfl;lia
def Wf:List Nat->List Nat->Nat
 |a::u,b::v=>if a=b then Wf u v+1 else 0
 |_,_=>0
theorem wA:∀(u w:List Nat) (k:Nat),k<=Wf u w->u.take k=w.take k
 |[],w,k,h=>by
  have h:k<=0:=h;rw[aiH.mp h,agn,agn]
 |a::u,[],k,h=>by
  have h:k<=0:=h;rw[aiH.mp h,agn,agn]
 |a::u,b::v,k,h=>by
  by_cases e:a=b
  ·subst e;have h:k<=Wf u v+1:=by
    unfold Wf at h;rw[if_pos rfl]at h;exact h
   cases k with
   |zero=>rw[agn,agn]
   |succ k=>rw[af1,af1,wA u v k ⋯]
  ·unfold Wf at h;rw[if_neg e]at h;rw[aiH.mp h,agn,agn]
theorem Nu:∀{u w:List Nat}{k:Nat},¬w<u->Wf u w<k->k<=w.length->u<w.take k
 |[],w,k,_,c,d=>by
  cases w with
  |nil=>exact absurd d (by rw[afV];lia)
  |cons b v=>
   cases k with
   |zero=>exact absurd c (agp _)
   |succ k=>exact agV _ _
 |a::u,[],k,h,_,_=>absurd (agV a u) h
 |a::u,b::v,k,h,c,d=>by
  cases k with
  |zero=>exact absurd c (agp _)
  |succ k=>
   rw[af4]at h;rw[af1,af4];by_cases e:a=b
   ·subst e;unfold Wf at c;rw[if_pos rfl]at c;rw[aah]at d;exact .inr (7,Nu (λz=>h (.inr (7,z))) ⋯ ⋯)
   ·refine .inl ?_;have:=λz=>h (.inl z);lia
theorem Ig:∀(w:List Nat) (k:Nat),¬w<w.take k
 |[],k=>by
  rw[ahw];exact agS _
 |a::w,k=>by
  cases k with
  |zero=>exact agS _
  |succ k=>
   rw[af1,af4];rintro(h|⟨_,h⟩)
   ·lia
   ·exact Ig w k h
theorem Hm:∀(w:List Nat) {j k:Nat},j<k->k<=w.length->w.take j<w.take k
 |[],j,k,h,b=>absurd b (by rw[afV];lia)
 |a::w,j,k,h,b=>by
  cases k with
  |zero=>exact absurd h (agp _)
  |succ k=>
   cases j with
   |zero=>exact agV _ _
   |succ j=>
    rw[af1,af1,af4];rw[aah]at b;exact .inr (7,Hm w ⋯ ⋯)
def fresh(u w:Str):List Str:=(abS (w.length-Wf u.cps.toList w.cps.toList)).map λi=>beg w (Wf u.cps.toList w.cps.toList+i+1)
theorem zq{u w t:Str}:t∈fresh u w ↔ ∃k,Wf u.cps.toList w.cps.toList<k/\k<=w.length/\t=beg w k:=by
 unfold fresh;constructor
 ·intro h;obtain⟨i,a,rfl⟩:=aaz.mp h;have:=af5.mp a;exact(_,6,6,7)
 ·rintro⟨k,c,b,rfl⟩;exact aaz.mpr (k-Wf u.cps.toList w.cps.toList-1,af5.mpr ⋯,by congr 1;lia)
theorem Tr{a b c:Str}(h:¬b.cps.toList<a.cps.toList)(h':Wr b c):Wr a c:=by
 unfold Wr at *;rcases ain a.cps.toList b.cps.toList with d|d
 ·by_cases e:a.cps.toList<b.cps.toList
  ·exact ahW e h'
  ·rw[agN (ahg.mp h) (ahg.mp e)];exact h'
 ·rw[agN (ahg.mp h) d];exact h'
theorem cI.snoc{ws :List Str}{u w:Str}(h:cI ws N)(g:u=⟨#[]⟩\/u∈ws)(q:∀x∈ws,¬u.cps.toList<x.cps.toList)(v:¬w.cps.toList<u.cps.toList):cI (ws++[w]) (N++fresh u w):=by
 have s:w.cps.toList.length=w.length:=aag;have p:∀t∈fresh u w,Wr u t:=λt ht=>by
  obtain⟨k,l,r,rfl⟩:=zq.mp ht;unfold Wr;rw[bw];exact Nu v l ⋯
 have o:∀t∈N,¬u.cps.toList<t.cps.toList:=λt ht z=>by
  rcases(h.mem t).mp ht with e|⟨x,f,k,e⟩
  ·rw[e]at z;exact agS _ z
  ·rw[e,bw]at z;have l:=q x f;have r:=Ig x.cps.toList k;rcases ain (x.cps.toList.take k) x.cps.toList with d|d
   ·by_cases m:x.cps.toList.take k<x.cps.toList
    ·exact l (ahW z m)
    ·rw[agN d (ahg.mp m)]at z;exact l z
   ·rw[agN (ahg.mp r) d]at z;exact l z
 refine(afW.mpr (h.up,1,λa C b B=>Tr (o a C) (p b B)),λt=>?_)
 ·unfold fresh;refine aih.mpr (afG.mpr λi j E A D=>?_);rw[aiP,aiP];rw[aaG]at A;unfold Wr;rw[bw,bw];exact Hm _ ⋯ ⋯
 ·rw[aas,h.mem,zq];constructor
  ·rintro((e|⟨x,f,k,e⟩) | ⟨k,_,_,e⟩)
   ·exact .inl e
   ·exact .inr (x,afQ _ f,k,e)
   ·exact .inr (w,aap _ (afJ _),k,e)
  ·rintro(e|⟨x,f,k,e⟩)
   ·exact .inl (.inl e)
   ·rcases aas.mp f with f|f
    ·exact .inl (.inr (x,f,k,e))
    ·rw[aao.mp f]at e;have n:∀k,k<=w.length->beg w k=t->((t=⟨#[]⟩ \/ ∃x∈ws,∃k:Nat,t=beg x k) \/ ∃k,Wf u.cps.toList w.cps.toList<k/\k<=w.length/\t=beg w k):=λk y e=>by
      rcases afF (Wf u.cps.toList w.cps.toList) k with c|c
      ·exact .inr (k,c,y,e.symm)
      ·have m:beg w k=beg u k:=dw (by rw[bw,bw,wA _ _ _ c]);refine .inl ?_;rcases g with g|g
       ·refine .inl ?_;rw[<-e,m,g];refine dw ?_;rw[bw];exact ahw
       ·exact .inr (u,g,k,by rw[<-e,m])
     rcases ahG k w.length with c|c
     ·exact n k c e.symm
     ·exact n w.length (aae _) (by rw[e,nQ w c,nQ w (aae _)])
theorem cI.fresh_not{ws :List Str}{u w:Str}(h:cI ws N)(c:u=⟨#[]⟩\/u∈ws)(a:∀x∈ws,¬u.cps.toList<x.cps.toList)(b:¬w.cps.toList<u.cps.toList):∀t∈fresh u w,t∉N:=λt ht d=>by
 have:=(afW.mp (h.snoc c a b).up).2.2 t d t ht;exact b8 _ this
theorem cI.nil:cI [] [⟨#[]⟩]:=(aio _ _,λt=>by
 rw[aao];exact(.inl,λh=>by rcases h with h|⟨w,a,_⟩;exact h;cases a))
def allB:Str->List Str->List Str
 |_,[]=>[]
 |u,w::a=>fresh u w++allB w a
theorem cI.many:∀{vs ws e:List Str}{u:Str},cI ws e->(u=⟨#[]⟩\/u∈ws)->(∀x∈ws,¬u.cps.toList<x.cps.toList)->(u::vs).Pairwise (λa b=>¬b.cps.toList<a.cps.toList)->cI (ws++vs) (e++allB u vs)
 |[],ws,e,u,h,_,_,_=>by
  rw[afR];show cI ws (e++[]);rw[afR];exact h
 |v::vs,ws,e,u,h,k,g,l=>by
  have c:=ago.mp l;have m:=h.snoc (w:=v) k g (c.1 v aan);have:=cI.many (vs:=vs) (u:=v) m (.inr (aap _ (afJ _))) (λx f z=>?_) c.2
  ·show cI (ws++v::vs) (e++(fresh u v++allB v vs));rw[aay,aiA,aay]at this;exact this
  ·rcases aas.mp f with f|f
   ·have i:=g x f;have n:=c.1 v aan;rcases ain u.cps.toList v.cps.toList with d|d
    ·by_cases j:u.cps.toList<v.cps.toList
     ·exact i (ahW j z)
     ·rw[<-agN d (ahg.mp j)]at z;exact i z
    ·rw[<-agN (ahg.mp n) d]at z;exact i z
   ·rw[aao.mp f]at z;exact ahO _ z
theorem cI.of_sorted{ws:List Str}(h:ws.Pairwise (λa b=>¬b.cps.toList<a.cps.toList)):cI ws (⟨#[]⟩::allB ⟨#[]⟩ ws):=by
 have:=cI.nil.many (u:=⟨#[]⟩) (vs:=ws) (.inl rfl) nofun (ago.mpr (λb _=>agS _,h));exact this
theorem cI.perm{ws b:List Str}(h:cI ws b)(e:∀x,x∈ws ↔ x∈N):cI N b:=(h.up,λt=>by
 rw[h.mem];constructor
 ·rintro(z|⟨w,a,z⟩)
  ·exact .inl z
  ·exact .inr (w,(e w).mp a,z)
 ·rintro(z|⟨w,a,z⟩)
  ·exact .inl z
  ·exact .inr (w,(e w).mpr a,z))
theorem zJ(x:List Nat):¬x<x:=ahO x
theorem Nr:∀(p:List Nat) {x y:List Nat},p++x<p++y ↔ x<y
 |[],_,_=>Iff.rfl
 |a::p,x,y=>by
  rw[agm,agm,af4,Nr p];constructor
  ·rintro(h|⟨_,h⟩)
   ·exact absurd h (agg _)
   ·exact h
  ·exact λh=>.inr (7,h)
theorem O7(p:List Nat)(c:Nat)(s:List Nat):p<p++c::s:=by
 have:=(Nr p (x:=[]) (y:=c::s)).mpr (agV c s);rw[afR]at this;exact this
theorem vJ:∀{p x s:List Nat},¬x<p -> ¬p++s<x->x.take p.length=p
 |[],x,s,_,_=>by simp
 |a::p,[],s,h,_=>absurd (agV a p) h
 |a::p,b::x,s,h,c=>by
  rw[agm,af4]at c;rw[af4]at h;have e:a=b:=by
   rcases ahN a b with z|z|z
   ·exact absurd (.inl z) c
   ·exact z
   ·exact absurd (.inl z) h
  subst e;rw[aah,af1,vJ (λz=>h (.inr (7,z))) (λz=>c (.inr (7,z)))]
theorem Qo(x:List Nat)(k:Nat):¬x<x.take k:=λh=>by
 have e:=agk k x;cases q:x.drop k with
 |nil=>
  rw[q,afR]at e;rw[e]at h;exact zJ _ h
 |cons c s=>
  rw[q]at e;have:=O7 (x.take k) c s;rw[e]at this;exact zJ _ (ahW this h)
structure PC(L:List (List Nat)):Prop where
 up:L.Pairwise (· < ·)
 pre:∀t∈L,∀k,t.take k∈L
end Tw
namespace L2
open PySem.Spec PyProof.Rows PySem.W
def Rn(M:Int)(ns:List Int):Prop:=M∈ns /\ ∀a∈ns,a<=M
theorem LC{ns:List Int}{c:List Value}{zs:Array (Int×Tok)}(l:IntsAre c ns)(e:c.toArray=intItems zs)(f:0<ns.length):0<zs.size/\Rn (numAt zs (argBest (λi j=>decide (numAt zs i > numAt zs j)) (zs.size-1))) ns:=by
 have b:ns=zs.toList.map (·.1):=by rw[<-l.numsOf,<-nums_intItems,<-e]
 have d:0<zs.size:=by
  have h:=f;rw[b,aaa,aag]at h;exact h
 obtain⟨n,m⟩:=argBest_gt (numAt zs) (zs.size-1);refine(d,1,λa g=>?_)
 ·rw[b,numAt_eq];exact getD_mem (by rw[aaa,aag];lia)
 ·rw[b]at g;obtain⟨j,k,rfl⟩:=mem_getD g;rw[aaa,aag]at k;rw[<-numAt_eq];exact m j ⋯
theorem Kf(w:X.calm=true):eE X (.builtin "max") (λxs H Q=>∃(p:Addr) (ns:List Int),xs=[.ref p]/\My X.K H p ‹ns›/\0<ns.length /\ ∀M,Rn M ns->Q (.int M) H):=by
 intro z s y H xs A Q I r h;obtain⟨p,ns,rfl,n,b,q⟩:=h;obtain⟨u,rfl,i⟩:=vals1 r;cases i;obtain⟨x,j,l,B⟩:=I.list n;have c:=intsAre_of j;obtain⟨d,e⟩:=c.allInts.items;obtain⟨a,o⟩:=LC c e b;refine max_intList (xs:=d) (I.ok.hd w) (by rw[<-e];exact l.isList) a λv g t m k=>?_;obtain⟨f,rfl⟩:=intItems_at m;exact(.int _,H,I.kept (t':=t) k,(f,7),q _ o)
end L2
namespace Tw
def top(i:Nat):Stmt:=PySem.Challenge.pw_thinwood_k88_stores_read.main.body.getD i (.Pass (0,0,0,0))
abbrev vC:Stmt:=top 13
theorem Iu:aJ ["bits"] ["bits"] (δ vC):=VN
abbrev nH:Stmt:=top 14
theorem qL:aJ ["bits","bit"] ["bits"] (δ nH):=VN
abbrev o5:Stmt:=top 15
theorem jw:aJ ["bits","block","bit"] ["bits"] (δ o5):=VN
abbrev pH:Stmt:=top 16
theorem nq:aJ ["blocks","many","bits","block"] ["blocks","many"] (δ pH):=VN
abbrev uV:Stmt:=top 17
theorem KJ:aJ ["block","k"] ["block","k"] (δ uV):=VN
abbrev sr:Stmt:=top 18
theorem Fz:aJ ["block","upto"] ["block","upto"] (δ sr):=VN
abbrev rY:Stmt:=top 19
theorem Ge:aJ ["block","upto"] ["block","upto"] (δ rY):=VN
abbrev rF:Stmt:=top 20
theorem jc:aJ ["block","upto","nets","net","bit"] ["block","upto"] (δ rF):=VN
abbrev wL:Stmt:=top 21
theorem Ij:aJ ["block","upto"] ["block","upto"] (δ wL):=VN
abbrev lY:Stmt:=top 23
theorem gK:aJ ["number","many","octets","rest","k"] ["number","many"] (δ lY):=VN
abbrev nM:Stmt:=top 24
theorem iU:aJ ["octets","number","octet"] ["octets"] (δ nM):=VN
abbrev ph:Stmt:=top 26
theorem tM:aJ ["bits","blocks"] ["bits"] (δ ph):=VN
abbrev pG:Stmt:=top 27
theorem mL:aJ ["blocks","ahead","block"] ["blocks"] (δ pG):=VN
abbrev rP:Stmt:=top 30
theorem lL:aJ ["numbers","size","nodes","node"] ["numbers"] (δ rP):=VN
abbrev rK:Stmt:=top 31
theorem pJ:aJ ["many","size"] ["many"] (δ rK):=VN
abbrev nD:Stmt:=top 32
theorem zR:aJ ["one","other"] ["one","other"] (δ nD):=VN
abbrev rT:Stmt:=top 34
theorem jo:aJ ["bits","level","at","bit"] ["bits"] (δ rT):=VN
abbrev gY:Stmt:=top 35
theorem qR:aJ ["bits"] ["bits"] (δ gY):=VN
abbrev iC:Stmt:=top 36
theorem dG:aJ ["bits","row","tables","blocks","lows"] ["bits"] (δ iC):=VN
abbrev vV:Stmt:=top 37
theorem Je:aJ ["tables","number","block"] ["tables","number","block"] (δ vV):=VN
abbrev rB:Stmt:=top 38
theorem Gg:aJ ["tables","number"] ["tables","number"] (δ rB):=VN
abbrev j8:Stmt:=top 39
theorem xM:aJ ["number","upto"] ["number","upto"] (δ j8):=VN
abbrev jm:Stmt:=top 42
theorem iG:aJ ["depths","ahead","depth"] ["depths"] (δ jm):=VN
abbrev jK:Stmt:=top 43
theorem eZ:aJ ["depths","bits","unclosed","depth"] ["depths"] (δ jK):=VN
abbrev lZ:Stmt:=top 44
theorem gD:aJ ["bits","depths","unclosed","bit"] ["bits"] (δ lZ):=VN
abbrev nO:Stmt:=top 45
theorem Ay:aJ ["depths"] ["depths"] (δ nO):=VN
abbrev jT:Stmt:=top 48
theorem mZ:aJ ["signs","sign"] ["signs"] (δ jT):=VN
abbrev lM:Stmt:=top 49
theorem dU:aJ ["signs","kinds","aheads","blocks","bits","row"] ["signs"] (δ lM):=VN
abbrev jN:Stmt:=top 50
theorem gw:aJ ["kinds","signs","ranks","rank","kind"] ["kinds","signs"] (δ jN):=VN
abbrev jP:Stmt:=top 51
theorem uT:aJ ["kind_count"] ["kind_count"] (δ jP):=VN
abbrev lG:Stmt:=top 52
theorem dX:aJ ["ranks","kind_count","rows","order","k","bits"] ["ranks","kind_count"] (δ lG):=VN
abbrev wB:Stmt:=top 53
theorem qT:aJ ["order","bits","noughts","ones"] ["order","bits"] (δ wB):=VN
abbrev o6:Stmt:=top 54
theorem eX:aJ ["rows","many","ranks","order","bits","at","bit"] ["rows","many"] (δ o6):=VN
abbrev jW:Stmt:=top 58
theorem iZ:aJ ["words","word","letter"] ["words"] (δ jW):=VN
abbrev iI:Stmt:=top 59
theorem gP:aJ ["words","texts","word"] ["words"] (δ iI):=VN
abbrev pL:Stmt:=top 60
theorem eO:aJ ["words","texts","depths","letters","whole","word","ends"] ["words"] (δ pL):=VN
abbrev pB:Stmt:=top 61
theorem jz:aJ ["depths","letters","ends","texts","depth","letter"] ["depths","letters","ends"] (δ pB):=VN
abbrev j4:Stmt:=top 62
theorem xT:aJ ["ahead","depth","letter"] ["ahead","depth","letter"] (δ j4):=VN
abbrev gZ:Stmt:=top 71
theorem gM:aJ ["numbers","size","octets","number"] ["numbers","size"] (δ gZ):=VN
abbrev jF:Stmt:=top 72
theorem wN:aJ ["blocks","ahead"] ["blocks","ahead"] (δ jF):=VN
abbrev kO:Stmt:=top 73
theorem oU:aJ ["bits","kept"] ["bits"] (δ kO):=VN
abbrev jU:Stmt:=top 74
theorem cX:aJ ["depths","kept","tables","blocks","first","lows","count"] ["depths"] (δ jU):=VN
abbrev jl:Stmt:=top 75
theorem cC:aJ ["signs","kept","kinds","octets","first","ahead","behind"] ["signs"] (δ jl):=VN
abbrev jf:Stmt:=top 76
theorem lQ:aJ ["words","parts"] ["words"] (δ jf):=VN
abbrev j6:Stmt:=top 77
theorem wY:aJ ["octets"] ["octets"] (δ j6):=VN
abbrev rN:Stmt:=top 78
theorem o9:aJ ["octets","tell","write","told","again"] ["octets","tell","write"] (δ rN):=VN
abbrev jb:Stmt:=top 79
theorem lN:aJ ["octets","octet"] ["octets"] (δ jb):=VN
abbrev nu:Stmt:=top 80
theorem Am:aJ ["octets","at","size"] ["octets","at","size"] (δ nu):=VN
abbrev kW:Stmt:=top 81
theorem w6:aJ ["octets","at","size","many"] ["octets","at","size","many"] (δ kW):=VN
abbrev jR:Stmt:=top 82
theorem wg:aJ ["many"] ["many"] (δ jR):=VN
abbrev rA:Stmt:=top 83
theorem Gv:aJ ["octets","at","many"] ["octets","at","many"] (δ rA):=VN
abbrev lW:Stmt:=top 84
theorem Af:aJ ["octets"] ["octets"] (δ lW):=VN
abbrev jG:Stmt:=top 85
theorem vA:aJ ["octets"] ["octets"] (δ jG):=VN
abbrev kY:Stmt:=top 86
theorem cL:aJ ["octets","counts","many","at","kinds","rows","level"] ["octets"] (δ kY):=VN
abbrev qY:Stmt:=top 87
theorem Fq:aJ ["kinds","rank"] ["kinds","rank"] (δ qY):=VN
abbrev lD:Stmt:=top 88
theorem fU:aJ ["octets","depths","behind_tree","letters","ends"] ["octets"] (δ lD):=VN
abbrev jV:Stmt:=top 90
theorem wM:aJ ["_law_script","_law_k"] ["_law_script","_law_k"] (δ jV):=VN
abbrev mq:Stmt:=top 91
theorem bM:aJ ["_law_script","_law_letters","_law_words_here","_law_known","_law_total","_law_word","_law_cell","_law_number","_law_many","_law_k"] ["_law_script"] (δ mq):=VN
abbrev m8:Stmt:=top 92
theorem cT:aJ ["_law_words_here","_law_known","_law_word","_law_texts","_law_k","_law_ends","_law_depths","_law_letters"] ["_law_words_here"] (δ m8):=VN
abbrev m7:Stmt:=top 93
theorem bA:aJ ["_law_parts","_law_script","_law_depths","_law_letters","_law_ends","_law_number","_law_way","_law_at","_law_drawn","_law_two","_law_many"] ["_law_parts","_law_script"] (δ m7):=VN
abbrev rQ:Stmt:=top 94
theorem dO:aJ ["_law_parts","_law_depths","_law_letters","_law_ends","_law_odd","_law_texts","_law_deep","_law_letter","_law_words_here"] ["_law_parts"] (δ rQ):=VN
abbrev jM:Stmt:=top 95
theorem fB:aJ ["_law_octets","_law_cell","_law_number","_law_at","_law_drawn","_law_bit"] ["_law_octets","_law_cell"] (δ jM):=VN
abbrev pA:Stmt:=top 96
theorem fj:aJ ["_law_octets","_law_told_here","_law_found","e","_law_others"] ["_law_octets"] (δ pA):=VN
abbrev o4:Stmt:=top 97
theorem bH:aJ ["_law_depths","_law_bits","_law_ahead","_law_deep","_law_octets","_law_start","_law_octet","_law_bit","_law_ones","_law_lows","_law_low","_law_at"] ["_law_depths"] (δ o4):=VN
abbrev mR:Stmt:=top 98
theorem dJ:aJ ["_law_more","_law_words_here","_law_second","_law_depths","_law_letters","_law_ends","_law_found"] ["_law_more"] (δ mR):=VN
abbrev Nt:Stmt:=top 99
theorem jt:aJ ["_law_script","_law_parts","_law_depths","_law_letters","_law_ends","_law_octets","_law_handed","_law_due_here","_law_found","_law_some"] ["_law_script"] (δ Nt):=VN
structure FI(K:PySem.W.Frag)(n:Str)(st:Stmt)(f:Addr)(fd:FuncData):Prop where
 a:PySem.W.nsIn K mainGlobals n=some (!!!f)
 F:Xl K n n st f fd
theorem Uc{C:List I->Prop}{a:List I}(c:a.length=1)(h:∀b,C [b]):C a:=match a,c with | [_],_=>h _
theorem V7{K:PySem.W.Frag}{n :Str}{st:Stmt}{f:Addr}(X:K.In base)(G:base.Ns mainGlobals mg)(d:FI K n st f B)(b:∀(kV c i:Value) (k:Option Addr) (e j:Value) (l:Value),bindArgs (PySem.W.fnOf n n (ν st) (μ st) (δ st) .none kV c i k e j) ([l],[])=pure (aip [qual] [l]):=by intros;exact rfl):Df K mg n st [qual] f B:=(d.F,d.F.binds (ps:=[qual]) λkV c i k e j g m=>Uc (C:=λg=>bindArgs _ (g,[])=pure (aip ([qual]:List Str) g)) m (b kV c i k e j),PySem.W.mg_of X G d.a)
theorem Uz{C:List I->Prop}{a:List I}(d:a.length=2)(h:∀c b,C [c,b]):C a:=match a,d with | [_,_],_=>h _ _
theorem Wy{K:PySem.W.Frag}{n g:Str}{st:Stmt}{f:Addr}(X:K.In base)(G:base.Ns mainGlobals mg)(d:FI K n st f B)(b:∀(kV c j:Value) (l:Option Addr) (e k:Value) (o m:Value),bindArgs (PySem.W.fnOf n n (ν st) (μ st) (δ st) .none kV c j l e k) ([o,m],[])=pure (aip [qual,g] [o,m]):=by intros;exact rfl):Df K mg n st [qual,g] f B:=(d.F,d.F.binds (ps:=[qual,g]) λkV c j l e k i p=>Uz (C:=λi=>bindArgs _ (i,[])=pure (aip ([qual,g]:List Str) i)) p (b kV c j l e k),PySem.W.mg_of X G d.a)
theorem UG{C:List I->Prop}{a:List I}(e:a.length=3)(h:∀d c b,C [d,c,b]):C a:=match a,e with | [_,_,_],_=>h _ _ _
theorem Y8{K:PySem.W.Frag}{n i g:Str}{st:Stmt}{f:Addr}(X:K.In base)(G:base.Ns mainGlobals mg)(d:FI K n st f B)(b:∀(kV c k:Value) (m:Option Addr) (e l:Value) (q p o:Value),bindArgs (PySem.W.fnOf n n (ν st) (μ st) (δ st) .none kV c k m e l) ([q,p,o],[])=pure (aip [qual,i,g] [q,p,o]):=by intros;exact rfl):Df K mg n st [qual,i,g] f B:=(d.F,d.F.binds (ps:=[qual,i,g]) λkV c k m e l j r=>UG (C:=λj=>bindArgs _ (j,[])=pure (aip ([qual,i,g]:List Str) j)) r (b kV c k m e l),PySem.W.mg_of X G d.a)
theorem Ux{C:List I->Prop}{a:List I}(f:a.length=4)(h:∀e d c b,C [e,d,c,b]):C a:=match a,f with | [_,_,_,_],_=>h _ _ _ _
theorem df4{K:PySem.W.Frag}{n j i g:Str}{st:Stmt}{f:Addr}(X:K.In base)(G:base.Ns mainGlobals mg)(d:FI K n st f B)(b:∀(kV c l:Value) (o:Option Addr) (e m:Value) (s r q p:Value),bindArgs (PySem.W.fnOf n n (ν st) (μ st) (δ st) .none kV c l o e m) ([s,r,q,p],[])=pure (aip [qual,j,i,g] [s,r,q,p]):=by intros;exact rfl):Df K mg n st [qual,j,i,g] f B:=(d.F,d.F.binds (ps:=[qual,j,i,g]) λkV c l o e m k t=>Ux (C:=λk=>bindArgs _ (k,[])=pure (aip ([qual,j,i,g]:List Str) k)) t (b kV c l o e m),PySem.W.mg_of X G d.a)
set_option genInjectivity false in
set_option genSizeOf false in
structure Ad where
 aeU:Addr
 aek:FuncData
 ac4:Addr
 acA:FuncData
 adJ:Addr
 ac5:FuncData
 adK:Addr
 ac6:FuncData
 aeV:Addr
 ael:FuncData
 aem:Addr
 adL:FuncData
 aen:Addr
 adM:FuncData
 aeo:Addr
 adN:FuncData
 aeW:Addr
 aep:FuncData
 ac7:Addr
 acB:FuncData
 ac8:Addr
 acC:FuncData
 adO:Addr
 ac9:FuncData
 adP:Addr
 ada:FuncData
 aeq:Addr
 adQ:FuncData
 aer:Addr
 adR:FuncData
 adb:Addr
 acD:FuncData
 aes:Addr
 adS:FuncData
 aa8:Addr
 aaR:FuncData
 abd:Addr
 aa9:FuncData
 aeX:Addr
 aet:FuncData
 aeu:Addr
 adT:FuncData
 acE:Addr
 ab1:FuncData
 abC:Addr
 abe:FuncData
 ab2:Addr
 abD:FuncData
 adc:Addr
 acF:FuncData
 ade:Addr
 acG:FuncData
 ab3:Addr
 abE:FuncData
 acH:Addr
 ab4:FuncData
 ab5:Addr
 abF:FuncData
 ab6:Addr
 abG:FuncData
 acI:Addr
 ab7:FuncData
 aeY:Addr
 aev:FuncData
 adU:Addr
 adf:FuncData
 ab8:Addr
 abH:FuncData
 abf:Addr
 aba:FuncData
 adV:Addr
 adg:FuncData
 adW:Addr
 adh:FuncData
 acJ:Addr
 ab9:FuncData
 abb:Addr
 aaS:FuncData
 aca:Addr
 abI:FuncData
 acK:Addr
 acb:FuncData
 acd:Addr
 abJ:FuncData
 abK:Addr
 abg:FuncData
 aaB:Addr
 abh:FuncData
 acL:Addr
 ace:FuncData
 aew:Addr
 adX:FuncData
 abL:Addr
 abi:FuncData
 adi:Addr
 acM:FuncData
 acN:Addr
 acf:FuncData
 acg:Addr
 abM:FuncData
 aex:Addr
 adY:FuncData
 adk:Addr
 acO:FuncData
 ach:Addr
 abN:FuncData
 acP:Addr
 aci:FuncData
 aey:Addr
 adZ:FuncData
 aaI:Addr
 acj:FuncData
 ack:Addr
 abO:FuncData
 adl:Addr
 acQ:FuncData
 adm:Addr
 acR:FuncData
 adn:Addr
 acS:FuncData
 aez:Addr
 ad0:FuncData
 acl:Addr
 abP:FuncData
 ad1:Addr
 ado:FuncData
 ad2:Addr
 adp:FuncData
 adq:Addr
 acT:FuncData
 afs:Addr
 afa:FuncData
 t_BLOCK_BITS:Tok
 t_BLOCK_OCTETS:Tok
 t_COUNT_OCTETS:Tok
 t_KIND_OCTETS:Tok
 t_LETTERS:Tok
 t_MOST_BITS:Tok
 t_MOST_LETTERS:Tok
 t_MOST_NODES:Tok
 t_MOST_NUMBERS:Tok
 t_MOST_SIGNS:Tok
 t_ROW:Tok
 t_SIGNS:Tok
 t_STORE:Tok
 t_TREE:Tok
 Ym:Addr
 V5:Addr
 Xg:Addr
 WY:Addr
 WM:Addr
 WT:Addr
 Xh:Addr
 Wn:Addr
structure Tx(K:PySem.W.Frag)(mg:Str->Option Value)(a:Ad):Prop where
 aeZ:Df K mg "packed" vC ["bits"] a.aeU a.aek
 abT:Df K mg "check_row" nH ["bits"] a.ac4 a.acA
 ad3:Df K mg "block_of" o5 ["bits"] a.adJ a.ac5
 ad4:Df K mg "unpacked" pH ["blocks","many"] a.adK a.ac6
 aea:Df K mg "bit_in" uV ["block","k"] a.aeV a.ael
 acn:Df K mg "bits_of" sr ["block","upto"] a.aem a.adL
 aeA:Df K mg "ones_in" rY ["block","upto"] a.aen a.adM
 aeB:Df K mg "nets_of" rF ["block","upto"] a.aeo a.adN
 ae0:Df K mg "low_in" wL ["block","upto"] a.aeW a.aep
 aaV:Df K mg "octets_of" lY ["number","many"] a.ac7 a.acB
 adt:Df K mg "number_of" nM ["octets"] a.ac8 a.acC
 abA:Df K mg "kept_row" ph ["bits"] a.adO a.ac9
 ad5:Df K mg "ahead_of" pG ["blocks"] a.adP a.ada
 aeC:Df K mg "heap_of" rP ["numbers"] a.aeq a.adQ
 adu:Df K mg "size_of" rK ["many"] a.aer a.adR
 adw:Df K mg "lesser_of" nD ["one","other"] a.adb a.acD
 aeD:Df K mg "is_tree" rT ["bits"] a.aes a.adS
 aaC:Df K mg "check_brackets" gY ["bits"] a.aa8 a.aaR
 abj:Df K mg "kept_brackets" iC ["bits"] a.abd a.aa9
 ae1:Df K mg "low_of" vV ["tables","number","block"] a.aeX a.aet
 aeE:Df K mg "base_of" rB ["tables","number"] a.aeu a.adT
 acU:Df K mg "end_within" j8 ["number","upto"] a.acE a.ab1
 abQ:Df K mg "check_depths" jm ["depths"] a.abC a.abe
 aco:Df K mg "brackets_of" jK ["depths"] a.ab2 a.abD
 adx:Df K mg "depths_of" lZ ["bits"] a.adc a.acF
 ady:Df K mg "kept_tree" nO ["depths"] a.ade a.acG
 acp:Df K mg "check_signs" jT ["signs"] a.ab3 a.abE
 acV:Df K mg "kept_signs" lM ["signs"] a.acH a.ab4
 acq:Df K mg "ranks_among" jN ["kinds","signs"] a.ab5 a.abF
 aaW:Df K mg "level_count" jP ["kind_count"] a.ab6 a.abG
 acW:Df K mg "level_rows" lG ["ranks","kind_count"] a.acI a.ab7
 aeb:Df K mg "parted" wB ["order","bits"] a.aeY a.aev
 ad6:Df K mg "ranks_of" o6 ["rows","many"] a.adU a.adf
 acr:Df K mg "check_words" jW ["words"] a.ab8 a.abH
 abk:Df K mg "beginnings_of" iI ["words"] a.abf a.aba
 ad7:Df K mg "parts_of" pL ["words"] a.adV a.adg
 ad8:Df K mg "words_of" pB ["depths","letters","ends"] a.adW a.adh
 acX:Df K mg "text_below" j4 ["ahead","depth","letter"] a.acJ a.ab9
 Y9:Df K mg "numbers_octets" gZ ["numbers","size"] a.abb a.aaS
 aaD:Df K mg "bits_octets" jF ["blocks","ahead"] a.aca a.abI
 aaJ:Df K mg "row_octets" kO ["bits"] a.acK a.acb
 aaE:Df K mg "tree_octets" jU ["depths"] a.acd a.abJ
 ZP:Df K mg "signs_octets" jl ["signs"] a.abK a.abg
 ZQ:Df K mg "store_octets" jf ["words"] a.aaB a.abh
 acY:Df K mg "read_store" j6 ["octets"] a.acL a.ace
 aeF:Df K mg "read_as" rN ["octets","tell","write"] a.aew a.adX
 abR:Df K mg "check_octets" jb ["octets"] a.abL a.abi
 abU:Df K mg "number_at" nu ["octets","at","size"] a.adi a.acM
 aaK:Df K mg "numbers_at" kW ["octets","at","size","many"] a.acN a.acf
 aaF:Df K mg "block_total" jR ["many"] a.acg a.abM
 adz:Df K mg "bits_at" rA ["octets","at","many"] a.aex a.adY
 abV:Df K mg "told_bits" lW ["octets"] a.adk a.acO
 acs:Df K mg "told_depths" jG ["octets"] a.ach a.abN
 acZ:Df K mg "told_signs" kY ["octets"] a.acP a.aci
 aeG:Df K mg "kind_of" qY ["kinds","rank"] a.aey a.adZ
 aaL:Df K mg "told_words" lD ["octets"] a.aaI a.acj
 YQ:Df K mg "_law_cell_at" jV ["_law_script","_law_k"] a.ack a.abO
 adA:Df K mg "_law_words" mq ["_law_script"] a.adl a.acQ
 aaX:Df K mg "_law_plain" m8 ["_law_words_here"] a.adm a.acR
 adB:Df K mg "_law_other" m7 ["_law_parts","_law_script"] a.adn a.acS
 aeH:Df K mg "_law_due" rQ ["_law_parts"] a.aez a.ad0
 acu:Df K mg "_law_changed" jM ["_law_octets","_law_cell"] a.acl a.abP
 ZR:Df K mg "_law_told" pA ["_law_octets"] a.ad1 a.ado
 ad9:Df K mg "_law_laid" o4 ["_law_depths"] a.ad2 a.adp
 adC:Df K mg "_law_great" mR ["_law_more"] a.adq a.acT
 afw:Df K mg "law" Nt ["_law_script"] a.afs a.afa
 aeI:mg "ValueError" = none
 abW:mg "enumerate" = none
 afx:mg "int" = none
 Yc:mg "isinstance" = none
 V0:mg "len" = none
 Yd:mg "list" = none
 afy:mg "max" = none
 ZS:mg "min" = none
 Xi:mg "range" = none
 acx:mg "reversed" = none
 afb:mg "set" = none
 ac0:mg "sorted" = none
 afz:mg "str" = none
 afA:mg "sum" = none
 aec:mg "tuple" = none
 Yn:mg "zip" = none
 Ye:mg "BLOCK_BITS" = some (.int 32 a.t_BLOCK_BITS)
 aaM:mg "BLOCK_OCTETS" = some (.int 4 a.t_BLOCK_OCTETS)
 Yg:mg "COUNT_OCTETS" = some (.int 2 a.t_COUNT_OCTETS)
 aaY:mg "KIND_OCTETS" = some (.int 26 a.t_KIND_OCTETS)
 acv:mg "LETTERS" = some (.str "abcdefghijklmnopqrstuvwxyz" a.t_LETTERS)
 aeM:mg "MOST_BITS" = some (.int 4096 a.t_MOST_BITS)
 adH:mg "MOST_LETTERS" = some (.int 40 a.t_MOST_LETTERS)
 aeJ:mg "MOST_NODES" = some (.int 2048 a.t_MOST_NODES)
 adI:mg "MOST_NUMBERS" = some (.int 4096 a.t_MOST_NUMBERS)
 aeK:mg "MOST_SIGNS" = some (.int 4096 a.t_MOST_SIGNS)
 afB:mg "ROW" = some (.int 1 a.t_ROW)
 afc:mg "SIGNS" = some (.int 3 a.t_SIGNS)
 afd:mg "STORE" = some (.int 4 a.t_STORE)
 aft:mg "TREE" = some (.int 2 a.t_TREE)
 afC:mg "NoBit" = some (.ref a.Ym)
 afr:mg "NoOctets" = some (.ref a.V5)
 afv:mg "NoSign" = some (.ref a.Xg)
 ae6:mg "NoTree" = some (.ref a.WY)
 ae7:mg "NoWord" = some (.ref a.WM)
 afu:mg "TooMany" = some (.ref a.WT)
 afe:mg "Twice" = some (.ref a.Xh)
 aeN:mg "WoodError" = some (.ref a.Wn)
 afg:Exc K mg "NoBit" a.Ym
 Za:Exc K mg "NoOctets" a.V5
 Zb:uH K a.V5
 ZV:PySem.W.kitOne K (.ref a.V5) (.ref a.V5)=some true
 ZW:PySem.W.kitOne K (.ref a.V5) (.ref a.WY)=some false
 ZX:PySem.W.kitOne K (.ref a.V5) (.ref a.WM)=some false
 ZZ:PySem.W.kitOne K (.ref a.V5) (.ref a.Xh)=some false
 Zc:PySem.W.kitOne K (.ref a.V5) (.ref a.Wn)=some true
 Z0:PySem.W.kitOne K (.ref a.V5) (.type "ValueError")=some true
 ae8:Exc K mg "NoSign" a.Xg
 Z1:PySem.W.kitOne K (.ref a.Xg) (.ref a.Wn)=some true
 ae9:Exc K mg "NoTree" a.WY
 Z2:PySem.W.kitOne K (.ref a.WY) (.ref a.Wn)=some true
 aee:Exc K mg "NoWord" a.WM
 Zd:PySem.W.kitOne K (.ref a.WM) (.ref a.Wn)=some true
 aeL:Exc K mg "TooMany" a.WT
 Z3:PySem.W.kitOne K (.ref a.WT) (.ref a.Wn)=some true
 afh:Exc K mg "Twice" a.Xh
 Z4:PySem.W.kitOne K (.ref a.Xh) (.ref a.Wn)=some true
 aeO:Exc K mg "WoodError" a.Wn
 aeP:uH K a.Wn
theorem wX:bootBuiltins "ValueError" = some (.type "ValueError"):=by decide +kernel
theorem qb(a:List (Key×V))(k:Key)(v:V):(putK a k v).length<=a.length+1:=by
 cases h:gq a k with
 |none=>rw[DX v h,aab];exact aae _
 |some x=>
  unfold putK;rw[iB,h];simp
theorem Qt{n j:Nat}(h:j<n):Xa n (j:Int)=some j:=by
 unfold Xa;simp;lia
theorem uv(k:Nat)(v:Int):(aai k [V.int v]).flatten=(aai k v).map V.int:=by
 induction k with
 |zero=>rfl
 |succ k a=>rw[afX,agt,a,afX];rfl
def aZ(b:Int)(n:Nat):List Int:=(abS n).map λi=>b / 256^i%256
def gJ:List Int->Int
 |[]=>0
 |x::r=>256*gJ r+x
theorem aW(b:Int)(n:Nat):(aZ b n).length=n:=by simp[aZ]
theorem yH(b:Int)(n:Nat):aZ b (n+1)=aZ b n++[b / 256^n%256]:=by simp[aZ,afU]
theorem pP{b:Int}{n:Nat}{x:Int}(h:x∈aZ b n):0<=x/\x<=255:=by
 unfold aZ at h;obtain⟨i,_,rfl⟩:=aaz.mp h;lia
theorem CQ(b:Int)(k:Nat):b / 256^k / 256=b / 256^(k+1):=by
 rw[ahb (Int.pow_nonneg ∅),agQ]
theorem Kg(r:List Int)(x:Int):gJ (r++[x])=gJ r+x*256^r.length:=by
 induction r with
 |nil=>simp[gJ]
 |cons y r a=>
  simp only[agm,gJ,a,aah,agQ];rw[ajy,aia (256^r.length) 256,<-ahX,<-ahX,aia 256 x];lia
theorem oV(b:Int):∀n:Nat,gJ (aZ b n)=b%256^n
 |0=>by simp[aZ,gJ]
 |n+1=>by
  rw[yH,Kg,oV b n,aW];have e:(0:Int)<256^n:=ai7 ∅;have f:=ahs b (256^n);have a:=ahs (b / 256^n) 256;have d:=ahs b (256^(n+1));rw[CQ]at a;rw[agQ]at d ⊢;have c:(256:Int)^n*(b / 256^n)=256^n*(b / 256^n%256)+256^n*256*(b / 256^(n+1)):=by
   rw[ahX,<-ajy,a]
  rw[agQ]at c;rw[aia (b / 256^n%256)];lia
theorem ie(b:Int)(n:Nat)(c:0<=b)(a:b<256^n):gJ (aZ b n)=b:=by
 rw[oV,aiX c a]
theorem Cj:∀{ns:List Int},aO ns -> ∀k:Nat,blk ns / 2^k=blk (ns.drop k)
 |ns,_,0=>by rw[ahS,ahD,agE]
 |[],_,k+1=>by simp[blk]
 |b::r,h,k+1=>by
  have a:=h.head;rw[aiI,<-Cj h.tail k,agQ,aia (2^k) 2,<-ahb ∅];have e:blk (b::r) / 2=blk r:=by
   simp only[blk];lia
  rw[e]
theorem Hh:∀{ns:List Int},aO ns -> ∀k:Nat,blk ns%2^k=blk (ns.take k)
 |ns,_,0=>by rw[ahS,Int.emod_one,agn];rfl
 |[],_,k+1=>by simp[blk]
 |b::r,h,k+1=>by
  have g:=h.head;have a:=Hh h.tail k;have c:(0:Int)<2^k:=ai7 ∅;have i:=ahs (blk r) (2^k);have f:=ahK (blk r) (show (2:Int)^k≠0 by lia);have e:=ahn (blk r) c;rw[af1];simp only[blk];rw[<-a,agQ];have d:2*blk r+b=(2*(blk r%2^k)+b)+(2^k*2)*(blk r / 2^k):=by
   rw[ahX,aia 2 (blk r / 2^k),<-ahX];lia
  rw[d,Int.add_mul_emod_self_left,aiX ⋯ ⋯]
def mV(ns:List Int)(i:Nat):Int:=blk ((ns.drop (8*i)).take 8)
theorem Lh{ns:List Int}{i:Nat}(h:ns.length<=8*i):mV ns i=0:=by
 unfold mV;rw[af6 h];rfl
theorem uB{ns:List Int}(h:aO ns)(q t:Nat)(ht:t<4):fL ns q / 256^t%256=mV ns (4*q+t):=by
 have e:(256:Int)^t=2^(8*t):=by
  have:t=0\/t=1\/t=2\/t=3:=by lia
  rcases this with rfl|rfl|rfl|rfl<;>decide
 have a:=pQ h q;unfold fL mV;rw[e,Cj a,show (256:Int)=2^8 from by decide,Hh (λx b=>a x (afO b)),ajc,ahy,agc,show 32*q+8*t=8*(4*q+t)from by lia,af0 ⋯]
theorem Jm(x:Int):aZ x 4=[x / 256^0%256,x / 256^1%256,x / 256^2%256,x / 256^3%256]:=rfl
theorem vZ{x:Int}(b:0<=x)(a:x<65536):aZ x 2=[x%256,x / 256]:=by
 show [x / 256^0%256,x / 256^1%256]=_;rw[ahS,ahD,agQ,ahS,Int.one_mul];congr 2;lia
theorem tY{ns:List Int}(h:aO ns):∀m:Nat,((abS m).map (fL ns)).flatMap (λx=>aZ x 4)=(abS (4*m)).map (mV ns)
 |0=>rfl
 |m+1=>by
  rw[afU,aaf,ags,tY h m];show _++(aZ (fL ns m) 4++[])=_;rw[afR,Jm,uB h m 0 ⋯,uB h m 1 ⋯,uB h m 2 ⋯,uB h m 3 ⋯,show 4*(m+1)=4*m+1+1+1+1 from by lia,afU,afU,afU,afU];simp
def jL(ns:List Int):List Int:=[1]++aZ (ns.length:Int) 2++((bQ ns).flatMap (λx=>aZ x 4)++(We ns (many ns.length)).flatMap (λx=>aZ x 2))
def LO(ns:List Int)(j:Nat):List Int:=(abS (4*many ns.length)).map (mV ns)++(We ns j).flatMap (λx=>aZ x 2)
theorem MK(ns:List Int)(j:Nat):We ns (j+1)=We ns j++[(ns.take (32*(j+1))).sum]:=by
 unfold We;rw[afU,aaf];rfl
theorem Qh(ns:List Int)(j:Nat):LO ns (j+1)=LO ns j++aZ (ns.take (32*(j+1))).sum 2:=by
 unfold LO;rw[MK,ags,aay];simp
theorem bC(k:Nat):∀ns:List Int,(ns.flatMap (λx=>aZ x k)).length=k*ns.length
 |[]=>by simp
 |x::r=>by rw[ag2,aab,bC k r,aW,aah,aht];lia
theorem jY(ns:List Int)(j:Nat):(LO ns j).length=4*many ns.length+2*(j+1):=by
 unfold LO;rw[aab,aaa,aaG,bC,dm]
theorem Bo{ns:List Int}(h:aO ns):0<=ns.sum/\ns.sum<=ns.length:=by
 induction ns with
 |nil=>simp
 |cons b r a=>
  have:=a h.tail;have:=h.head;rw[ahv,aah];lia
theorem Oh{xs:List V}{i j:Nat}(b:i<=xs.length)(a:j<=xs.length):fc xs (some (i:Int)) (some (j:Int))=(xs.drop i).take (j-i):=by
 unfold fc;rw[HT.iM,HT.iM,af0 b,af0 a]
theorem Jh{xs:List V}(e:iH c.length d)(b:xG c d 1 xs):(xs.drop d).take c.length=c.map V.int:=by
 have f:c.length<=d:=by
  obtain⟨_,_,z,_⟩:=e;exact z
 refine af7 λi=>?_;rw[aak];by_cases a:i<c.length
 ·rw[af2 a,aga,b.leaf i ⋯,wH (aac a),aac a];rfl
 ·rw[aaU (by rw[aam];lia),aaU ⋯];rfl
def dH(ns a:List Int):List Int:=[2]++aZ (ns.length:Int) 2++((bQ ns).flatMap (λx=>aZ x 4)++(We ns (many ns.length)).flatMap (λx=>aZ x 2))++a.flatMap (λx=>aZ x 2)
theorem wQ{ns :List Int}(h:aO ns):dH ns c=[2]++aZ (ns.length:Int) 2++LO ns (many ns.length)++c.flatMap (λx=>aZ x 2):=by
 unfold dH LO bQ;rw[tY h]
theorem gF{ns :List Int}(h:aO ns):(dH ns c).length=3+(4*many ns.length+2*(many ns.length+1))+2*c.length:=by
 rw[wQ h,aab,aab,aab,aW,jY,bC];rfl
theorem lX:∀{l U:List Int},l.Nodup->(∀z∈l,z∈U)->l.length<=U.length
 |[],_,_,_=>aaH _
 |a::l,U,f,h=>by
  have c:=h a aan;have d:=agv.mp f;have q:=lX (l:=l) (U:=U.erase a) d.2 λz b=>(agZ λe:z=a=>d.1 (e ▸ b)).mpr (h z (aaj _ b));have e:=agK c;have p:=ahk c;rw[aah];lia
section
variable{P:Program}{w:World}{a:Ad}
inductive wR(K:PySem.W.Frag)(vs:List V)(H:Hp)(Q:VK)(_e1:XK):Prop
 | mk (p:Addr) (zs:List Int) (k:Nat) (_:vs=[.ref p,.int (k:Int)]) (_:My K H p !!zs) (_:Q (.int ((zs[k]?).getD 0)) H)
theorem dF(T:Tx K mg a):bI P w K mg base VR 1 a.ack a.abO ["_law_script","_law_k"] (wR K):=by
 refine T.YQ.F.V2 wM λg A d s H i Q E j h=>?_;obtain⟨p,b,k,rfl,f,q⟩:=h;refine(_,(ao (bR (aP tU (pv 1) (aF aG rfl T.V0 Tw.bu (VJ 0 aj))) (aB (aN (bN dM (pv 0) (pv 1)))) aV)
  (aB (aN aA))),1)
 refine(8,p,9,.inl f,4,9,dZ (λc=>?_) λc=>?_)
 ·have c:=of_decide_eq_true c;rw[aaa]at c;have e:b[k]?=some b[k]:=aac ⋯;rw[e]at q;exact(8,p,_,4,f,Ba e,q)
 ·have c:¬(k:Int)<(‹b›.length:Int):=λz=>c (decide_eq_true z);rw[aaa]at c;rw[aaU ⋯]at q;exact q
theorem MT(x:Int):Builtin.bitAnd x 1=x%2:=by
 unfold Builtin.bitAnd;by_cases b:0<=x
 ·simp[b];lia
 ·simp[b];unfold Builtin.bitNot;lia
inductive Kw(vs:List V)(H:Hp)(Q:VK)(_e1:XK):Prop
 | mk (b k:Int) (_:vs=[.int b,.int k]) (_:0<=k) (_:Q (.int (bit b k.toNat)) H)
theorem yD(T:Tx K mg a):bI P w K mg base VR 1 a.aeV a.ael ["block","k"] Kw:=by
 refine T.aea.F.V2 KJ λf A c s H g Q E i h=>?_;obtain⟨b,k,rfl,d,q⟩:=h;exists _,(aB (aN (aC S9 (aC RQ (pv 0) (pv 1)) aA)));exists 8,4,d,4;have e:Builtin.bitAnd (b / 2^k.toNat) 1=bit b k.toNat:=MT _;show Q (.int (Builtin.bitAnd (b / 2^k.toNat) 1)) H;rw[e];exact q
inductive El(vs:List V)(H:Hp)(Q:VK)(_e1:XK):Prop
 | mk (b n:Int) (_:vs=[.int b,.int n]) (_:0<=n) (_:n<=32) (_:∀r,H r=none->Q (.ref r) (upd H r (.lst ‹bits b n.toNat›)))
theorem pK(T:Tx K mg a):bI P w K mg base VR 2 a.aem a.adL ["block","upto"] El:=by
 refine T.acn.F.V2 Fz λf A c s H g Q E d h=>?_;obtain⟨b,n,rfl,m,l,q⟩:=h;exists _,(aB (aN (kE rfl (bU.one (j:=0) rfl (agH rfl) rfl rfl (agH rfl)) (iW rfl T.Xi (VJ 1 aj)) (λ_ _ _ _=>dN) (λ_ _ _ _=>(aX T.aea (yD T) d (VJ 1 (VJ 0 aj)))))));refine(9,n,7,6,6,1);refine Jl (λj=>bit b j) (by rw[sizeLine_eq];lia) (λ_ _ _ q=>q) (λj o Q k i q=>(8,_,9,6,1)) λD e=>q D e;rw[show ((0:Int)+(j:Int)).toNat=j from by lia];exact q
inductive Ft(vs:List V)(H:Hp)(Q:VK)(_e1:XK):Prop
 | mk (b n:Int) (_:vs=[.int b,.int n]) (_:0<=n) (_:n<=32) (_:∀H',aL H H'->Q (.int (ones b n.toNat)) H')
theorem Fo(T:Tx K mg a):bI P w K mg base VR 3 a.aen a.adM ["block","upto"] Ft:=by
 refine T.aeA.F.V2 Ge λi A d s H j Q E e h=>?_;obtain⟨b,n,rfl,g,f,q⟩:=h;exists _,(aB (aN (aF (Ot rfl) rfl T.afA Tw.RW (aq (aX T.acn (pK T) e (VJ 0 (VJ 1 aj))) aj))));exact(8,b,n,7,g,f,λr c=>(r,bits b n.toNat,7,My.of aa,q _ (au c _)))
inductive CP(K:PySem.W.Frag)(vs:List V)(H:Hp)(Q:VK)(_e1:XK):Prop
 | mk (p:Addr) (ns:List Int) (_:vs=[.ref p]) (_:My K H p !!ns) (_:Q (.int (blk ns)) H)
theorem Eb(T:Tx K mg a):bI P w K mg base VR 1 a.adJ a.ac5 ["bits"] (CP K):=by
 refine T.ad3.F.V2 jw λt A g s H u Q E v h=>?_;obtain⟨p,b,rfl,l,q⟩:=h;refine(_,(ao (aD 1 jw.nd aA)
  (ao (bK PassesOwn.never rfl (Gq rfl T.acx (VJ 0 aj) Tw.mH) (aM 2 jw.nd) (aB (aD 1 jw.nd (aC bj (aC cH aA (pv 1)) (pv 2)))))
  (aB (aN (pv 1))))),1)
 exists 9,p,9,l;refine Aa (xs:=b.map V.int) (λi d f=>(∃k,d=[!!!p,some (.int (blk (b.drop (b.length-i)))),k])/\f=H) ?_ ?_ ?_ ?_
 ·refine((none,1),7);rw[ahF,ahj];rfl
 ·rintro i d f _ ⟨_,rfl⟩;exact l
 ·rintro i x d f n m ⟨⟨k,rfl⟩,rfl⟩;obtain⟨c,j,rfl⟩:=int_at m;rw[aaa]at n j;refine(9,4,.inl (5,5),9,4,(!!!!c,1),7);have e:b.drop (b.length-(i+1))=c::b.drop (b.length-i):=by
   have r:b.length-(i+1)=b.length-1-i:=by lia
   have o:b.length-i=b.length-1-i+1:=by lia
   rw[r,o,afT ⋯];congr 1;have:=aad.mp j;exact this.2
  rw[e];rfl
 ·rintro d f ⟨⟨k,rfl⟩,rfl⟩;rw[aaa,ag8,agE];exact(9,q)
inductive Ar(K:PySem.W.Frag)(C1:Addr)(C2:Addr)(vs:List V)(H:Hp)(Q:VK)(E:XK):Prop
 | mk (p:Addr) (ns:List Int) (_:vs=[.ref p]) (_:My K H p !!ns) (_:((ns.length<=4096/\aO ns/\Q .non H)\/(4096<ns.length/\E (.ref C1) none H)\/(ns.length<=4096 /\ ¬aO ns/\E (.ref C2) none H)))
theorem qt(T:Tx K mg a):bI P w K mg base (Wm P w) 1 a.ac4 a.acA ["bits"] (Ar K a.WT a.Ym):=by
 refine T.abT.F.WQ qL (λy H Q E h=>?_) (λB A t s H y Q E C h=>?_)
 ·obtain⟨p,f,rfl,_⟩:=h;rfl
 obtain⟨p,f,rfl,n,h⟩:=h;refine(_,(ao (bR (aP jd (aF aG rfl T.V0 Tw.bu (VJ 0 aj)) (aY (v:=.int 4096) rfl T.aeM (_,7))) (aB (dz T.aeL rfl (aq cg aj))) aV)
  (aB (bK fO rfl (bY (pv 0)) (aM 1 qL.nd) (aB (bR (PW.pt (pI (aP yO (pv 1) aA) (lJ (aP yO (pv 1) aA)))) (aB (dz T.afg rfl (aq cg aj))) aV))))),1)
 refine(9,p,9,.inl n,4,9,dZ (λc=>?_) λc=>?_)
 ·have c:=of_decide_eq_true c;rw[aaa]at c;rcases h with ⟨d,_⟩|⟨_,q⟩|⟨d,_⟩
  ·lia
  ·exact(sl1,q)
  ·lia
 have c:¬(4096:Int)<(‹f›.length:Int):=λz=>c (decide_eq_true z);rw[aaa]at c;exists 9,p,7,(_,n);refine cG (xs:=f.map V.int) (λi j m=>(∃k,j=[!!!p,k])/\m=H/\aO (f.take i)) ((none,7),7,λx b=>by simp at b) ?_ ?_ ?_
 ·rintro i j m _ ⟨_,rfl,_⟩;exact n
 ·rintro i x j m b ⟨⟨k,rfl⟩,rfl,l⟩;obtain⟨c,u,rfl⟩:=int_at b;have g:c=0\/c=1->aO (f.take (i+1)):=λe x b=>by
   rw[aed,u]at b;rcases aas.mp b with b|b
   ·exact l x b
   ·rw[aao.mp b];exact e
  by_cases r:c=0
  ·subst r;exact(9,7,9,Hk rfl (fM (3,7,g (.inl rfl))))
  by_cases o:c=1
  ·subst o;refine(9,7,9,dZ (λ_=>(9,7,9,Hk rfl (3,7,g (.inr rfl)))) λz=>absurd ?_ z);decide
  refine(9,7,9,dZ (λ_=>(9,7,9,dZ (λ_=>?_) λz=>absurd ?_ z)) λz=>absurd ?_ z)
  ·rcases h with ⟨_,d,_⟩|⟨d,_⟩|⟨_,_,q⟩
   ·rcases d c (aar u)with e|e
    ·exact absurd e r
    ·exact absurd e o
   ·lia
   ·exact(sl1,q)
  ·rw[qw];simp[o]
  ·rw[qw];simp[r]
 ·rintro j m ⟨_,rfl,l⟩;rw[aaa,afK]at l;rcases h with ⟨_,_,q⟩|⟨d,_⟩|⟨_,d,_⟩
  ·exact q
  ·lia
  ·exact absurd l d
inductive Ks(K:PySem.W.Frag)(vs:List V)(H:Hp)(Q:VK)(_e1:XK):Prop
 | mk (p:Addr) (ns:List Int) (_:vs=[.ref p]) (_:My K H p !!ns) (_:ns.length<=4096) (_:aO ns) (_:∀r H',H r=none->aL H H'->H' r=some (.lst ‹bQ ns›)->Q (.ref r) H')
theorem Kl(T:Tx K mg a):bI P w K mg base VR 2 a.aeU a.aek ["bits"] (Ks K):=by
 refine T.aeZ.F.V2 Iu λG A r s H I Q E u h=>?_;obtain⟨p,b,rfl,n,x,B,q⟩:=h;refine(_,(ao (bF (cY T.abT (qt T) ∅ u uJ rfl (VJ 0 aj)))
  (aB (aN (kE rfl (bU.one (j:=0) rfl (agH rfl) rfl rfl (agH rfl)) (yN rfl T.Xi (aq aA (aq (aF aG rfl T.V0 Tw.bu (VJ 0 aj)) (aq (aY (v:=.int 32) rfl T.Ye (_,7)) aj)))) (λ_ _ _ _=>dN) (λ_ _ _ _=>(aX T.ad3 (Eb T) u (aq (aQ (show Zu _ (J9 K)from bx) (pv 1) (aR (pv 0)) (aR (aC bj (pv 0) (aY (v:=.int 32) rfl T.Ye (_,7))))) aj))))))),1)
 refine(9,p,b,7,n,.inl (x,B,1));exists 9,p,9,.inl n,‹b›.length,7,1
 ·rw[aaa];exact af9 x ∅
 rw[aaa];intro D o;exists λi m k g=>m=many b.length-i/\i<=many b.length/\k=((abS i).map (fL b)).map V.int/\aL H g/\g D=some (.lst k),(9,aaH _,7,au o _,aa);rintro i m k g ⟨rfl,J,rfl,l,d⟩;by_cases c:i<many b.length
 ·refine .inr (c,λv M y=>?_);obtain⟨rfl,rfl⟩:=y;unfold Mm;refine fP ?_;refine(8,8,4,9,p,9,l.seq n,λt f=>?_);have C:(0:Int)+(i:Int)*32=((32*i:Nat):Int):=by lia
  have L:(0:Int)+(i:Int)*32+32=((32*i+32:Nat):Int):=by lia
  rw[C,show ((32*i:Nat):Int)+32=((32*i+32:Nat):Int)from by lia,nU,agf];exists t,9,My.of aa;have z:D≠t:=aH d f;refine(by rw[aK z];exact d,1,many b.length-(i+1),6,7,c,1,bc (l.trans (au f _)) o _,aa)
  ·rw[aaa,aaa,aaG];unfold many at c;exact small ⋯
  ·rw[afU,aaf,aaf];rfl
 ·have e:i=many b.length:=by lia
  subst e;exact .inl (aae _,q D g o l d)
inductive Cm(K:PySem.W.Frag)(vs:List V)(H:Hp)(Q:VK)(_e1:XK):Prop
 | mk (p:Addr) (bs:List Int) (_:vs=[.ref p]) (_:My K H p !!bs) (_:bs.length<=4096) (_:∀r H',H r=none->aL H H'->H' r=some (.tup ‹aheads bs bs.length›)->Q (.ref r) H')
theorem CV(T:Tx K mg a):bI P w K mg base VR 4 a.adP a.ada ["blocks"] (Cm K):=by
 refine T.ad5.F.V2 mL λC A o s H D Q E B h=>?_;obtain⟨p,j,rfl,u,m,q⟩:=h;refine(_,(ao (aD 1 mL.nd (bh (aq aA aj)))
  (ao (bK PassesOwn.never rfl (bY (pv 0)) (aM 2 mL.nd) (aB (bF (dj PySem.F.plainAttrs_list PySem.F.slot_list_append PySem.F.type_list_append bW (pv 1) (aq (aC bj (bN dM (pv 1) (oX jQ aA)) (aX T.aeA (Fo T) B (VJ 2 (aq (aY (v:=.int 32) rfl T.Ye (_,7)) aj)))) aj)))))
  (aB (aN (dg ig rfl T.aec Tw.qO (VJ 1 aj)))))),1)
 refine(sl1,λr d=>?_);exists 9,p,7,(_,(au d _).seq u);refine cG (xs:=j.map V.int) (λi g f=>(∃k,g=[!!!p,!!!r,k])/\aL H f/\f r=some (.lst ‹aheads j i›)) ?_ ?_ ?_ ?_
 ·exact((none,7),au d _,aa)
 ·rintro i g f _ ⟨_,e,_⟩;exact e.seq u
 ·rintro i x g f z ⟨⟨k,rfl⟩,e,c⟩;obtain⟨b,t,rfl⟩:=int_at z;have G:=(aad.mp t).1;have n:Ws ‹aheads j i› (-1)=some (.int (jE j i)):=by
   rw[Dh,aaf];exact mX _ _
  refine(9,.inl (7,_,My.of c),8,r,_,4,My.of c,n,9,b,32,7,5,5,λI y=>(4,r,4,y _ _ c,1,3,bc (e.trans y) d _,1))
  ·rw[aaa,xn];exact small ⋯
  ·rw[aa,Bt,aaf,tK t];rfl
 ·rintro g f ⟨⟨k,rfl⟩,e,c⟩;rw[aaa]at c;exact(9,r,9,.inl (My.of c,λl m=>q l _ (e.free m) (e.trans (au m _)) aa))
inductive Ei(vs:List V)(H:Hp)(Q:VK)(_e1:XK):Prop
 | mk (b n:Int) (_:vs=[.int b,.int n]) (_:0<=n) (_:n<=32) (_:∀r H',H r=none->aL H H'->H' r=some (.lst ‹nets b n.toNat›)->Q (.ref r) H')
theorem Gw(T:Tx K mg a):bI P w K mg base VR 3 a.aeo a.adN ["block","upto"] Ei:=by
 refine T.aeB.F.V2 jc λI A t s H J Q E z h=>?_;obtain⟨b,n,rfl,D,C,q⟩:=h;refine(_,(ao (aD 2 jc.nd (bh aj))
  (ao (aD 3 jc.nd aA)
  (ao (bK PassesOwn.never rfl (bY (aX T.acn (pK T) z (VJ 0 (VJ 1 aj)))) (aM 4 jc.nd) (ao (aD 3 jc.nd (aC cP (aC bj (pv 3) (aC cH aA (pv 4))) aA))
  (aB (bF (dj PySem.F.plainAttrs_list PySem.F.slot_list_append PySem.F.type_list_append bW (pv 2) (VJ 3 aj))))))
  (aB (aN (pv 2)))))),1)
 refine(sl0,λr f=>?_);refine(8,b,n,7,D,C,λp v=>(p,7,(_,My.of aa),1));have u:r≠p:=aH aa v;refine cG (xs:=(bits b n.toNat).map V.int) (λi j e=>(∃k,j=[!!!!b,!!!!n,!!!r,some (.int (net b i)),k])/\aL H e/\e r=some (.lst ‹nets b i›)/\e p=some (.lst ‹bits b n.toNat›)) ?_ ?_ ?_ ?_
 ·refine((none,by rw[Oe];rfl),(au f _).trans (au v _),1,aa);rw[aK u,aa];rfl
 ·rintro i j e _ ⟨_,_,_,o⟩;exact My.of o
 ·rintro i x j e y ⟨⟨k,rfl⟩,l,d,g⟩;obtain⟨c,m,rfl⟩:=int_at y;have B:i<n.toNat:=by
   have:=(aad.mp m).1;rw[dI]at this;exact this
  have G:c=bit b i:=by
   rw[wF B]at m;exact(afE m).symm
  subst G;exists 8,4,.inl (5,5),4,4;exists 9,.inl (7,_,My.of d),9,r,4,d,?_
  ·rw[aaa,tL];exact small ⋯
  ·exists (some (.int (bit b i)),by rw[Cu];rfl),bc l f _,?_
   ·rw[aa,Jf,Cu,aaf];rfl
   ·rw[aK (agB u)];exact g
 ·rintro j e ⟨⟨k,rfl⟩,l,d,g⟩;rw[aaa,dI]at d;exact(9,q r e f l d)
inductive Jv(vs:List V)(H:Hp)(Q:VK)(_e1:XK):Prop
 | mk (b n:Int) (_:vs=[.int b,.int n]) (_:1<=n) (_:n<=32) (_:∀M H',N8 M (nets b n.toNat)->aL H H'->Q (.int M) H')
theorem JX(T:Tx K mg a):bI P w K mg base VR 4 a.aeW a.aep ["block","upto"] Jv:=by
 refine T.ae0.F.V2 Ij λk A c s H l Q E e h=>?_;obtain⟨b,n,rfl,o,g,q⟩:=h;exists _,(aB (aN (QK rfl rfl T.ZS (aq (aX T.aeB (Gw T) e (VJ 0 (VJ 1 aj))) aj) aA Tw.uN)));refine(8,b,n,7,6,g,λp j m d i=>(p,9,My.of i,1,λM f=>q M j f d));rw[tL];lia
inductive Fy(vs:List V)(H:Hp)(Q:VK)(_e1:XK):Prop
 | mk (n:Nat) (_:vs=[.int (n:Int)]) (_:n<=100000) (_:∀S,iH n S->Q (.int (S:Int)) H)
theorem uF(T:Tx K mg a):bI P w K mg base VR 1 a.aer a.adR ["many"] Fy:=by
 refine T.adu.F.V2 pJ λo A d s H p Q E r h=>?_;obtain⟨n,rfl,u,q⟩:=h;refine(_,(ao (aD 1 pJ.nd aA)
  (ao (K4 PassesOwn.never (aP tU (pv 1) (pv 0)) (aB (aD 1 pJ.nd (aC cH aA (pv 1)))))
  (aB (aN (pv 1))))),1)
 exists λm f g=>∃h:Nat,f=[some (.int (n:Int)),some (.int ((2^h:Nat):Int))]/\g=H/\m=n-2^h /\ ∀j,j<h->2^j<n,(_,0,7,7,7,λj b=>absurd b (agp _));rintro m f g ⟨h,rfl,rfl,rfl,b⟩;refine(8,4,9,dZ (λc=>?_) λc=>?_)
 ·have c:((2^h:Nat):Int)<(n:Int):=of_decide_eq_true c;have t:0<2^h:=ai8 h;refine(_,λ i v z=>z,9,4,.inl (5,5),n-2^(h+1),by rw[ajr];lia,h+1,1,7,7,λj k=>?_)
  ·have e:(2:Int)*((2^h:Nat):Int)=((2^(h+1):Nat):Int):=by rw[ajr];lia
   rw[<-e];rfl
  ·rcases afF j h with l|l
   ·exact b j l
   ·have:j=h:=by lia
    subst this;lia
 ·have c:¬((2^h:Nat):Int)<(n:Int):=λz=>c (decide_eq_true z);exact(9,q (2^h) (h,7,6,b))
inductive Jw(vs:List V)(H:Hp)(Q:VK)(_e1:XK):Prop
 | mk (x y:V) (_:vs=[x,y]) (_:NI x) (_:NI y) (_:Q (zg x y) H)
theorem zY(T:Tx K mg a):bI P w K mg base VR 1 a.adb a.acD ["one","other"] Jw:=by
 refine T.adw.F.V2 zR λe A b s H f Q E g h=>?_;obtain⟨x,y,rfl,d,c,q⟩:=h;refine(_,(ao (bR (Aj (Ln (pv 0))) (aB (aN (pv 1))) aV)
  (ao (bR (Aj (Ln (pv 1))) (aB (aN (pv 0))) aV)
  (aB (aN (aF (nZ rfl) rfl T.ZS Tw.uN (VJ 0 (VJ 1 aj))))))),1)
 rcases d with rfl|⟨i,rfl⟩
 ·rw[yc]at q;exact(8,fP (9,q))
 refine(8,fM ?_);rcases c with rfl|⟨j,rfl⟩
 ·exact(8,fP (9,q))
 exact(8,fM (8,i,j,7,q))
inductive Gk(K:PySem.W.Frag)(vs:List V)(H:Hp)(Q:VK)(E:XK):Prop
 | mk (p:Addr) (ns:List Int) (_:vs=[.ref p]) (_:My K H p !!ns) (_:ns.length<=4096) (_:∀S r H' xs,iH ns.length S->H r=none->aL H H'->H' r=some (.lst xs)->xG ns S 1 xs->Q (.ref r) H')
theorem GK(T:Tx K mg a):bI P w K mg base VR 2 a.aeq a.adQ ["numbers"] (Gk K):=by
 refine T.aeC.F.V2 lL λa3 A O s H vs Q E hr h=>?_;obtain⟨p,b,rfl,o,hl,q⟩:=h;refine(_,(ao (bR (aP jd (aF aG rfl T.V0 Tw.bu (VJ 0 aj)) (aY (v:=.int 4096) rfl T.adI (_,7))) (aB mG) aV)
  (ao (aD 1 lL.nd (aX T.adu (uF T) hr (aq (aF aG rfl T.V0 Tw.bu (VJ 0 aj)) aj)))
  (ao (aD 2 lL.nd (aC bB (aC bB (aC j9 (bh (aq Nx aj)) (pv 1)) (dg iV rfl T.Yd Tw.iw (VJ 0 aj))) (aC j9 (bh (aq Nx aj)) (aC cP (pv 1) (aF aG rfl T.V0 Tw.bu (VJ 0 aj))))))
  (ao (bK PassesOwn.never rfl (Gi rfl T.Xi (aq (aC cP (pv 1) aA) (aq aA (aq (oX jQ aA) aj)))) (aM 3 lL.nd) (aB (rO (aX T.adw (zY T) hr (aq (bN dM (pv 2) (aC cH aA (pv 3))) (aq (bN dM (pv 2) (aC bj (aC cH aA (pv 3)) aA)) aj))) (LR (pv 2) (pv 3) set_list))))
  (aB (aN (pv 2))))))),1)
 have x:‹b›.length=b.length:=aaa ..;refine(9,p,9,.inl o,4,9,dZ (λz=>?_) λ_=>?_)
 ·have z:(4096:Int)<(‹b›.length:Int):=of_decide_eq_true z;lia
 refine(9,p,9,.inl o,b.length,1,6,λS u=>?_)
 ·rw[x];rfl
 have N:=u.pos;have a2:=u.le hl;have J:b.length<=S:=by
  obtain⟨_,_,z,_⟩:=u;exact z
 refine Hz (t:=uO (tC .non) N6) (σ:=[!!!p,some (.int (S:Int)),none,none]) (i:=1) (k:=(S:Int)) (xs:=[.non]) (λQ' q=>q) rfl ⋯ ∅ ⋯ λp1 H1 a1 Y R=>?_;refine(9,p,9,.inl (Y.seq o),λl2 L=>?_);have X:=au L (.lst !!b);have e1:(aai (S:Int).toNat [V.non]).flatten=aai S V.non:=by
  rw[aav];simp
 rw[e1]at R;refine(p1,l2,4,X _ _ R,aa,1,λp3 I=>?_)
 ·rw[x,aaw,sizeLine_eq];lia
 have s3:=au I (.lst (aai S V.non++b.map V.int));refine(sl1,λl4 Yh=>?_);have W:=au Yh (.lst [.non]);have j:=Y.trans (X.trans (s3.trans W));refine(8,p,9,.inl (j.seq o),4,l4,((S-b.length:Nat):Int),[.non],7,1,aa,6,6,1,λp5 G=>?_)
 ·show V.int ((S:Int)-(‹b›.length:Int))=_;rw[x];exact congrArg V.int ⋯
 ·rw[sizeLine_eq];show 1*_<=_;lia
 have e5:(aai ((S-b.length:Nat):Int).toNat [V.non]).flatten=aai (S-b.length) V.non:=by
  rw[aav];simp
 rw[e5];have U:=au G (.lst (aai (S-b.length) V.non));refine(p3,p5,4,U _ _ (W _ _ aa),aa,1,λr m=>?_)
 ·rw[aab,x,aaw,aaw,sizeLine_eq];lia
 have g:=j.trans U;have l:=g.free m;have s6:=g.trans (au m (.lst (aai S V.non++b.map V.int++aai (S-b.length) V.non)));refine(9,4,9,S-1,0,1,6,6,1)
 ·rw[show ((S-1:Nat):Int)=(S:Int)-1 from by lia];rfl
 refine qg (n:=S-1-0) (λi y f=>(∃C,y=[!!!p,some (.int (S:Int)),!!!r,C])/\aL H f /\ ∃c,f r=some (.lst c)/\xG b S (S-i) c) ((none,7),s6,_,aa,xG.start N J) ?_ ?_
 ·rintro i y f hi ⟨⟨C,rfl⟩,B,c,d,e⟩;obtain⟨k,rfl⟩:∃k,S=k+i+1:=(S-i-1,6);have D:((k+i+1-1:Nat):Int)+(i:Int)*(-1)=(k:Int):=by lia
  rw[show k+i+1-i=k+1 from by lia]at e;have a0:=e.len;have hx:c[2*k]?=some c[2*k]:=aac ⋯;have Z:c[2*k+1]?=some c[2*k+1]:=aac ⋯;have ha:Ws c (2*(((k+i+1-1:Nat):Int)+(i:Int)*(-1)))=some c[2*k]:=by
   rw[D,show 2*(k:Int)=((2*k:Nat):Int)from by lia];exact Rh hx
  have hb:Ws c (2*(((k+i+1-1:Nat):Int)+(i:Int)*(-1))+1)=some c[2*k+1]:=by
   rw[D,show 2*(k:Int)+1=((2*k+1:Nat):Int)from by lia];exact Rh Z
  have M:Xa c.length (((k+i+1-1:Nat):Int)+(i:Int)*(-1))=some k:=by
   rw[D];exact Qt ⋯
  exists 8,4,.inl (5,5),r,_,4,My.of d,ha;exists 8,4,.inl (5,5),4,r,_,4,My.of d,hb;exists _,9,e.ni _ (afL _),e.ni _ (afL _);exists 8,r,_,_,k,7,7,d,M,3,bc B l _,_,aa;rw[show k+i+1-(i+1)=k from by lia];exact e.step ⋯ ⋯ hx Z
 ·rintro y f ⟨⟨C,rfl⟩,B,c,d,e⟩;rw[show S-(S-1-0)=1 from by lia]at e;exact(9,q S r f c u l B d e)
inductive Eo(K:PySem.W.Frag)(vs:List V)(H:Hp)(Q:VK)(_e1:XK):Prop
 | mk (p:Addr) (ns:List Int) (_:vs=[.ref p]) (_:My K H p !!ns) (_:∀b H',(b=true ↔ Tree ns)->aL H H'->Q (.bl b) H')
theorem Fe(T:Tx K mg a):bI P w K mg base VR 1 a.aes a.adS ["bits"] (Eo K):=by
 refine T.aeD.F.V2 jo λL A v s H M Q E O h=>?_;obtain⟨p,d,rfl,u,q⟩:=h;refine(_,(ao (aD 1 jo.nd aA)
  (ao (bK PassesOwn.never rfl (zU rfl T.abW (VJ 0 aj)) (iK rfl (bG (aM 2 jo.nd) (bG (aM 3 jo.nd) fW))) (ao (bR (PW.pt (pI (aP jd (pv 2) aA) (lJ (aP vH (pv 1) aA)))) (aB (aN cZ)) aV)
  (aB (aD 1 jo.nd (aC cP (aC bj (pv 1) (aC cH aA (pv 3))) aA)))))
  (aB (aN (SM (pN Rv (aF aG rfl T.V0 Tw.bu (VJ 0 aj)) aA) (KY (pN fQ (pv 1) aA))))))),1)
 exists 9,p,9,u;refine Bq (xs:=d.map V.int) (λi o f=>(∃j g,o=[!!!p,some (.int (ht d i)),j,g])/\aL H f /\ ∀k,0<k->k<i->0<ht d k) ((none,none,by rw[jx];rfl),aL.refl _,λk _ h=>absurd h (agp _)) ?_ ?_ ?_
 ·rintro i o f _ ⟨_,e,_⟩;exact e.seq u
 ·rintro i x o f y G ⟨⟨j,g,rfl⟩,e,r⟩ J;obtain⟨b,C,rfl⟩:=int_at G;have I:=(aad.mp C).1;have n:=e.trans (au J (.tup [.int (i:Int),.int b]));exists y,9,VM.of aa,7,_,9,4;have D:(0<i->0<ht d i)->(∃j g,[some (V.ref p),some (.int (ht d i+2*b-1)),some (.int (i:Int)),!!!!b]=[!!!p,some (.int (ht d (i+1))),j,g])/\aL H (upd f y (.tup [.int (i:Int),.int b])) /\ ∀k,0<k->k<i+1->0<ht d k:=λh=>
   ((_,_,by rw[zB C]),n,λk B N=>by
    rcases afF k i with l|l
    ·exact r k B l
    ·have:k=i:=by lia
     subst this;exact h B)
  refine(9,4,9,dZ (λc=>?_) λc=>?_)
  ·have c:(0:Int)<(i:Int):=of_decide_eq_true c;refine(9,4,9,dZ (λm=>?_) λm=>?_)
   ·have m:ht d i<=0:=of_decide_eq_true m;exact q false _ (λz=>absurd z afD,λt=>by have:=t.2.2 i ⋯ I;lia) n
   ·have m:¬ht d i<=0:=λz=>m (decide_eq_true z);exact(8,4,.inl (5,5),4,4,D λ_=>by lia)
  ·have c:¬(0:Int)<(i:Int):=λz=>c (decide_eq_true z);refine fM ?_;exact(8,4,.inl (5,5),4,4,D λz=>by lia)
 ·rintro o f ⟨⟨j,g,rfl⟩,e,r⟩;rw[aaa]at r ⊢;refine(9,p,9,.inl (e.seq u),4,9,dZ (λc=>?_) λc=>?_)
  ·have c:(2:Int)<=(‹d›.length:Int):=of_decide_eq_true c;rw[aaa]at c;exists 9,7;refine q _ f ?_ e;rw[decide_eq_true_iff];exact(λz=>(6,V.int.inj z,r),λt=>congrArg V.int t.2.1)
  ·have c:¬(2:Int)<=(‹d›.length:Int):=λz=>c (decide_eq_true z);rw[aaa]at c;exact q false f (λz=>absurd z afD,λt=>by have:=t.1;lia) e
structure Tab(H:Hp)(t ah:Addr)(ns:List Int)(rest:List V):Prop where
 tup:H t=some (.tup (.int (ns.length:Int)::.ref ah::rest))
 Ze:H ah=some (.tup ‹We ns (many ns.length)›)
 few:rest.length<=1
theorem Tab.same{H':Hp}{t :Addr}{ns:List Int}{rest:List V}(h:Tab H t f ns rest)(s:aL H H'):Tab H' t f ns rest:=(s _ _ h.tup,s _ _ h.Ze,h.few)
theorem QZ(x y:V):∀rest:List V,rest.length<=1->Ws (x::y::rest) 0=some x
 |[],_=>rfl
 |[_],_=>rfl
 |_::_::_,h=>absurd h (by simp)
theorem Qs(x y:V):∀rest:List V,rest.length<=1->Ws (x::y::rest) 1=some y
 |[],_=>rfl
 |[_],_=>rfl
 |_::_::_,h=>absurd h (by simp)
theorem Sq{ns:List Int}{n j:Nat}(h:j<=n):Ws ‹We ns n› (j:Int)=some (.int (ns.take (32*j)).sum):=Ba (Pu h)
inductive Bk(K:PySem.W.Frag)(vs:List V)(H:Hp)(Q:VK)(_e1:XK):Prop
 | mk (p:Addr) (ns:List Int) (_:vs=[.ref p]) (_:My K H p !!ns) (_:ns.length<=4096) (_:aO ns) (_:∀r b t ah H',H b=none->aL H H'->H' r=some (.tup [.ref t,.ref b])->Tab H' t ah ns []->H' b=some (.lst ‹bQ ns›)->Q (.ref r) H')
theorem nG(T:Tx K mg a):bI P w K mg base VR 5 a.adO a.ac9 ["bits"] (Bk K):=by
 refine T.abA.F.V2 tM λz A i s H B Q E j h=>?_;obtain⟨p,c,rfl,l,x,k,q⟩:=h;refine(_,(ao (aD 1 tM.nd (aX T.aeZ (Kl T) j (VJ 0 aj)))
  (aB (aN (dY (aq (dY (aq (aF aG rfl T.V0 Tw.bu (VJ 0 aj)) (aq (aX T.ad5 (CV T) j (VJ 1 aj)) aj))) (VJ 1 aj)))))),1)
 refine(9,p,c,7,l,x,k,λb G g u n=>?_);refine(9,p,9,.inl (u.seq l),9,b,bQ c,7,My.of n,1,λo D C v m=>?_)
 ·rw[bJ];unfold many;lia
 rw[zM k]at m;have y:‹c›.length=c.length:=aaa ..;rw[y];refine(sl2,λt ht=>(9,sl2,λr f=>?_));have e:=au ht (.tup [.int (c.length:Int),.ref o]);have d:=au f (.tup [.ref t,.ref b]);exact q r b t o _ g (u.trans (v.trans (e.trans d))) aa (d _ _ aa,d _ _ (e _ _ m),5) (d _ _ (e _ _ (v _ _ n)))
inductive p7(K:PySem.W.Frag)(C1:Addr)(C2:Addr)(C3:Addr)(vs:List V)(H:Hp)(Q:VK)(E:XK):Prop
 | mk (p:Addr) (ns:List Int) (_:vs=[.ref p]) (_:My K H p !!ns) (_:((ns.length<=4096/\aO ns/\Tree ns /\ ∀H',aL H H'->Q .non H')\/(4096<ns.length/\E (.ref C1) none H)\/(ns.length<=4096 /\ ¬aO ns/\E (.ref C2) none H)\/(ns.length<=4096/\aO ns /\ ¬Tree ns /\ ∀H',aL H H'->E (.ref C3) none H')))
theorem ju(T:Tx K mg a):bI P w K mg base (Wm P w) 2 a.aa8 a.aaR ["bits"] (p7 K a.WT a.Ym a.WY):=by
 refine T.aaC.F.WQ qR (λn H Q E h=>?_) (λo A l s H n Q E m h=>?_)
 ·obtain⟨p,c,rfl,_⟩:=h;rfl
 obtain⟨p,c,rfl,e,h⟩:=h;refine(_,(ao (bF (cY T.abT (qt T) ∅ m gk rfl (VJ 0 aj)))
  (aB (bR (lV (q9 (aX T.aeD (Fe T) m (VJ 0 aj)))) (aB (dz T.ae9 rfl (aq cg aj))) aV))),1)
 rcases h with ⟨d,f,j,q⟩|⟨d,q⟩|⟨d,f,q⟩|⟨d,f,j,q⟩
 ·refine(9,p,c,7,e,.inl (d,f,1));refine(9,p,c,7,e,λb k i g=>(b,7,1));rw[i.mpr j];exact fM (q k g)
 ·exact(9,p,c,7,e,.inr (.inl (d,q)))
 ·exact(9,p,c,7,e,.inr (.inr (d,f,q)))
 ·refine(9,p,c,7,e,.inl (d,f,1));refine(9,p,c,7,e,λb k i g=>(b,7,1));have:b=false:=aiT.mpr λz=>j (i.mp z);subst this;exact fP (sl1,q k g)
inductive Gd(vs:List V)(H:Hp)(Q:VK)(_e1:XK):Prop
 | mk (t ah:Addr) (ns:List Int) (rest:List V) (j:Nat) (_:vs=[.ref t,.int (j:Int)]) (_:Tab H t ah ns rest) (_:j<=many ns.length) (_:Q (.int (ht ns (32*j))) H)
theorem Eu(T:Tx K mg a):bI P w K mg base VR 1 a.aeu a.adT ["tables","number"] Gd:=by
 refine T.aeE.F.V2 Gg λf A c s H g Q E k h=>?_;obtain⟨t,e,i,rest,j,rfl,b,d,q⟩:=h;exists _,(aB (aN (aC cP (aC cH aA (bN cD (bN cD (pv 0) aA) (pv 1))) (aC cH (aY (v:=.int 32) rfl T.Ye (_,7)) (pv 1)))));exists 9,t,_,4,VM.of b.tup,Qs _ _ _ b.few,9,e,_,4,VM.of b.Ze,Sq d,4,.inl (5,5),9,4,.inl (5,5),4;unfold ht at q;rw[show ((32*j:Nat):Int)=32*(j:Int)from by lia]at q;exact q
inductive xW(vs:List V)(H:Hp)(Q:VK)(_e1:XK):Prop
 | mk (j n:Nat) (_:vs=[.int (j:Int),.int (n:Int)]) (_:32*j<=n) (_:Q (.int (wide n j:Nat)) H)
theorem xm(T:Tx K mg a):bI P w K mg base VR 1 a.acE a.ab1 ["number","upto"] xW:=by
 refine T.acU.F.V2 xM λc A b s H d Q E f h=>?_;obtain⟨j,n,rfl,g,q⟩:=h;exists _,(aB (aN (aF (nZ rfl) rfl T.ZS Tw.uN (aq (aC cP (pv 1) (aC cH (aY (v:=.int 32) rfl T.Ye (_,7)) (pv 0))) (aq (aY (v:=.int 32) rfl T.Ye (_,7)) aj)))));exists 8,4,.inl (5,5),4,_,9;have e:(if (32:Int)<(n:Int)-32*(j:Int)then (32:Int)else (n:Int)-32*(j:Int))=((wide n j:Nat):Int):=by
  unfold wide;split<;>lia
 rw[<-e]at q;exact q
inductive JF(vs:List V)(H:Hp)(Q:VK)(_e1:XK):Prop
 | mk (t ah:Addr) (ns:List Int) (rest:List V) (j:Nat) (_:vs=[.ref t,.int (j:Int),.int (fL ns j)]) (_:Tab H t ah ns rest) (_:aO ns) (_:32*j<ns.length) (_:∀m H',oY ns j m->aL H H'->Q (.int m) H')
theorem Jt(T:Tx K mg a):bI P w K mg base VR 5 a.aeX a.aet ["tables","number","block"] JF:=by
 refine T.ae1.F.V2 Je λn A f s H o Q E c h=>?_;obtain⟨t,l,b,rest,j,rfl,d,k,r,q⟩:=h;exists _,(aB (aN (aC bj (aX T.aeE (Eu T) c (VJ 0 (VJ 1 aj))) (aX T.ae0 (JX T) c (VJ 2 (aq (aX T.acU (xm T) c (VJ 1 (aq (bN cD (pv 0) aA) aj))) aj))))));have i:j<=many b.length:=by
  unfold many;lia
 have p:1<=wide b.length j/\wide b.length j<=32:=by
  unfold wide;lia
 exists 8,t,l,b,rest,j,7,d,i;refine(8,9,t,_,4,VM.of d.tup,QZ _ _ _ d.few,j,b.length,7,6,1);refine(fL b j,((wide b.length j:Nat):Int),7,6,6,λM m e g=>(4,1));rw[aav]at e;exact q _ m (oY.of k e.1 e.2) g
structure KB(H:Hp)(t ah nd bl:Addr)(ns lows:List Int)(S:Nat)(xs:List V):Prop where
 tab:Tab H t ah ns [.ref nd]
 nds:H nd=some (.tup xs)
 bls:H bl=some (.lst ‹bQ ns›)
 low:v7 ns lows
 sz:iH lows.length S
 heap:xG lows S 1 xs
inductive rH(K:PySem.W.Frag)(vs:List V)(H:Hp)(Q:VK)(_e1:XK):Prop
 | mk (p:Addr) (ns:List Int) (_:vs=[.ref p]) (_:My K H p !!ns) (_:ns.length<=4096) (_:aO ns) (_:Tree ns) (_:∀r t ah nd bl lows S xs H',H bl=none->H r=none->H t=none->aL H H'->H' r=some (.tup [.ref t,.ref bl])->KB H' t ah nd bl ns lows S xs->Q (.ref r) H')
theorem rn(T:Tx K mg a):bI P w K mg base VR 6 a.abd a.aa9 ["bits"] (rH K):=by
 refine T.abj.F.V2 dG λa1 A U s H vs Q E n h=>?_;obtain⟨p,d,rfl,hS,Z,L,ht,q⟩:=h;refine(_,(ao (bF (cY T.aaC (ju T) ∅ n uJ rfl (VJ 0 aj)))
  (ao (aD 1 dG.nd (aX T.abA (nG T) n (VJ 0 aj)))
  (ao (qW (i:=2) dG.nd rfl (ahH rfl) (bN cD (pv 1) aA))
  (ao (aD 3 dG.nd (bN cD (pv 1) aA))
  (ao (Ed (i:=4) dG.nd rfl rfl rfl ((bU.one (j:=2) rfl (agH rfl) rfl rfl (agH rfl)),7,5) (zU rfl T.abW (VJ 3 aj)) (λ_ _ _ _=>(aX T.ae1 (Jt T) n (VJ 2 (VJ 0 (VJ 1 aj))))))
  (aB (aN (dY (aq (dY (aq (bN cD (pv 2) aA) (aq (bN cD (pv 2) aA) (aq (dg ig rfl T.aec Tw.qO (aq (aX T.aeC (GK T) n (VJ 4 aj)) aj)) aj)))) (VJ 3 aj)))))))))),1)
 refine(9,p,d,7,hS,.inl (Z,L,ht,λH1 g=>?_));refine(9,p,d,7,g.seq hS,Z,L,λr b t M H2 O C W o u=>?_);exists 9,r,_,4,VM.of W,7;exists 9,r,_,4,VM.of W,7;have e:=bJ d;have Z5:many d.length<=128:=by
  unfold many;lia
 exists 9,b,9,My.of u;refine Ga (oY d) (My.of u) (by rw[e,sizeLine_eq];lia) (λi c H' Q J sm qq=>?_) λD H3 G hD f xD m hR=>?_
 ·have I:=(aad.mp J).1;rw[e]at I;rw[qX I]at J;cases J;refine(8,9,t,M,d,[],i,7,o.same sm,L,1,qq);unfold many at I;lia
 have R:v7 d G:=(by rw[m,e],hR);exists 9,t,_,4,VM.of (f _ _ o.tup),7;exists 9,t,_,4,VM.of (f _ _ o.tup),7;refine(9,D,G,7,My.of xD,6,λS r4 H4 V Yv a0 B x4 hv=>?_);refine(r4,9,.inl (My.of x4,λY N=>?_));have z:=au N (.tup V);refine(sl3,λX k=>?_);have y:=au k (.tup [.int (d.length:Int),.ref M,.ref Y]);refine(9,sl2,λr7 l=>?_);have x:=au l (.tup [.ref X,.ref b]);have v:=f.trans (B.trans (z.trans (y.trans x)));refine q r7 X M Y b G S V _ (g.free O) ((g.trans (C.trans (f.trans (B.trans (z.trans y))))).free l) ((g.trans (C.trans (f.trans (B.trans z)))).free k) (g.trans (C.trans v)) aa ((x _ _ aa,v _ _ o.Ze,aae _),x _ _ (y _ _ aa),v _ _ u,R,Yv,hv)
inductive uf(vs:List V)(H:Hp)(Q:VK)(_e1:XK):Prop
 | mk (p:Addr) (ds:List Int) (_:vs=[.ref p]) (_:H p=some (.lst !!ds)) (_:cB ds) (_:ds.length<=2048) (_:∀H',aL H H'->Q .non H')
theorem uc(T:Tx K mg a):bI P w K mg base VR 1 a.abC a.abe ["depths"] uf:=by
 refine T.abQ.F.V2 iG λO A l s H R Q E S h=>?_;obtain⟨p,b,rfl,e,k,U,q⟩:=h;refine(_,(ao (bR (aP jd (aF aG rfl T.V0 Tw.bu (VJ 0 aj)) (aY (v:=.int 2048) rfl T.aeJ (_,7))) (aB mG) aV)
  (ao (bR (PW.pt (tH (aP fQ (aF aG rfl T.V0 Tw.bu (VJ 0 aj)) aA) (mz (aP yO (bN dM (pv 0) aA) aA)))) (aB mG) aV)
  (aB (bK PassesOwn.never rfl (lH rfl T.Yn Tw.lg (VJ 0 (aq (aQ bx (pv 0) (aR aA) bz) aj))) (iK rfl (bG (aM 1 iG.nd) (bG (aM 2 iG.nd) fW))) (aB (bR (lV (qm vH vH aA (pv 2) (aC bj (pv 1) aA))) (aB mG) aV)))))),1)
 have C:‹b›.length=b.length:=aaa ..;have W:0<b.length:=(aad.mp k.1).1;refine(9,p,9,.inl (My.of e),4,9,dZ (λc=>?_) λc=>?_)
 ·have c:(2048:Int)<(‹b›.length:Int):=of_decide_eq_true c;rw[C]at c;lia
 refine(9,p,9,.inl (My.of e),7,9,dZ (λc=>?_) λc=>?_)
 ·have c:V.int (‹b›.length:Int)=V.int 0:=of_decide_eq_true c;injection c with c
  rw[C]at c;lia
 refine(9,p,_,4,My.of e,Ba (i:=0) k.1,7,9,Hk rfl ?_);refine(8,9,p,9,My.of e,λc L=>?_);have j:=au L (.lst (fc ‹b› (some 1) none));have M:fc ‹b› (some 1) none=(b.drop 1).map V.int:=Dg b 1;have m:upd H c (.lst (fc ‹b› (some 1) none)) c=some (.lst ‹b.drop 1›):=by rw[aa,M]
 generalize upd H c (.lst (fc ‹b› (some 1) none))=N at *;exists p,c,_,9,My.of (j _ _ e),My.of m;refine pR (xs:=b.map V.int) (ys:=(b.drop 1).map V.int) (λi g f=>(∃o n,g=[!!!p,o,n])/\aL N f) ((none,none,7),aL.refl _) ?_ ?_ ?_
 ·rintro i g f _ ⟨_,d⟩;exact(My.of (d _ _ (j _ _ e)),My.of (d _ _ m))
 ·rintro i x y g f t I G ⟨⟨o,n,rfl⟩,d⟩ ht;obtain⟨u,J,rfl⟩:=int_at I;obtain⟨v,r,rfl⟩:=int_at G;rw[aga,ahE]at r;have B:=k.2 i u v J r;have D:=au ht (.tup [.int u,.int v]);exists t,9,VM.of aa,7,_,9,4;exact(9,4,9,dZ (λ_=>(9,4,4,9,Hk B.2 ((_,9),d.trans D))) λz=>absurd (decide_eq_true B.1) z)
 ·rintro g f ⟨_,d⟩;exact q f (j.trans d)
inductive uK(vs:List V)(H:Hp)(Q:VK)(_e1:XK):Prop
 | mk (p:Addr) (ds:List Int) (_:vs=[.ref p]) (_:H p=some (.lst !!ds)) (_:cB ds) (_:ds.length<=2048) (_:∀r H',H r=none->aL H H'->H' r=some (.lst ‹brk ds 0›)->Q (.ref r) H')
theorem vM(T:Tx K mg a):bI P w K mg base VR 2 a.ab2 a.abD ["depths"] uK:=by
 refine T.aco.F.V2 eZ λa1 A R s H vs Q E hr h=>?_;obtain⟨p,j,rfl,G,I,hl,q⟩:=h;refine(_,(ao (bF (aX T.abQ (uc T) hr (VJ 0 aj)))
  (ao (aD 1 eZ.nd (bh aj))
  (ao (aD 2 eZ.nd aA)
  (ao (bK PassesOwn.never rfl (bY (pv 0)) (aM 3 eZ.nd) (ao (bF (dj PySem.F.plainAttrs_list PySem.F.slot_list_extend PySem.F.type_list_extend dC (pv 1) (aq (aC j9 (bh (aq aA aj)) (aC cP (pv 2) (pv 3))) aj)))
  (ao (bF (dj PySem.F.plainAttrs_list PySem.F.slot_list_append PySem.F.type_list_append bW (pv 1) (aq aA aj)))
  (aB (aD 2 eZ.nd (aC bj (pv 3) aA))))))
  (aB (aN (aC bB (pv 1) (aC j9 (bh (aq aA aj)) (pv 2))))))))),1)
 have Y:=kZ I.dp;refine(9,p,j,7,G,I,hl,λH1 W=>?_);refine(sl0,λb X=>?_);have U:=W.trans (au X (.lst []));have xb:upd H1 b (.lst []) b=some (.lst ‹([]:List Int)›):=aa;have v:H b=none:=W.free X;generalize upd H1 b (.lst [])=H2 at *;exists 9,p,7,(_,My.of (U _ _ G));refine cG (xs:=j.map V.int) (λi y m=>(∃(u:Int) (D:Option V) (e:List Int),y=[!!!p,!!!b,!!!!u,D]/\m b=some (.lst !!e)/\e++brk (j.drop i) u=brk j 0/\Dp (j.drop i) u)/\aL H m) ((0,none,[],7,xb,7,I.dp),U) ?_ ?_ ?_
 ·rintro i y m _ ⟨_,n⟩;exact My.of (n _ _ G)
 ·rintro i x y m hx ⟨⟨u,D,e,rfl,f,g,hd⟩,n⟩;obtain⟨d,t,rfl⟩:=int_at hx;have hi:=(aad.mp t).1;have O:j.drop i=d::j.drop (i+1):=by
   rw[afT hi];congr 1;exact(aad.mp t).2
  rw[O]at g hd;obtain⟨d0,du,N⟩:=hd;have c:=congrArg ag9 g;simp only[brk,aab,aaw,aah]at c;rw[Y]at c;have hu:u-d<=4096:=by lia
  have ub:e.length<=4096:=by lia
  exists 9,.inl (7,_,My.of f);refine(sl1,λC h1=>(8,4,C,u-d,[.int 0],7,7,aa,6,6,1,λz M=>?_))
  ·rw[sizeLine_eq];show 1*_<=_;lia
  have S:=(au h1 (.lst [.int 0])).trans (au M (.lst (aai (u-d).toNat [.int 0]).flatten));have x3:upd (upd m C (.lst [.int 0])) z (.lst (aai (u-d).toNat [.int 0]).flatten) z=some (.lst ‹(aai (u-d).toNat (0:Int))›):=by
   rw[aa,uv]
  have J:=S _ _ f;have L:=n.trans S;generalize upd (upd m C (.lst [.int 0])) z (.lst (aai (u-d).toNat [.int 0]).flatten)=Z at *;exists b,z,4,J,x3,?_
  ·rw[aaa,aaa,aaw,sizeLine_eq];lia
  have o:upd Z b (.lst (e.map V.int++(aai (u-d).toNat (0:Int)).map V.int)) b=some (.lst ‹e++aai (u-d).toNat 0›):=by
   rw[aa,aaf]
  have W0:=bc L v (.lst (e.map V.int++(aai (u-d).toNat (0:Int)).map V.int));generalize upd Z b (.lst (e.map V.int++(aai (u-d).toNat (0:Int)).map V.int))=H4 at *;exists 9,.inl (7,_,My.of o),b,4,o,?_
  ·rw[aaa,aab,aaw,sizeLine_eq];lia
  refine(9,4,(d+1,_,e++aai (u-d).toNat 0++[1],7,1,1,N),bc W0 v _)
  ·rw[aa,aaf (l₂:=[1])];rfl
  ·rw[<-g];simp[brk]
 ·rintro y m ⟨⟨u,D,e,rfl,f,g,hd⟩,n⟩;rw[aaa,ahj]at g hd;have hu:0<=u:=hd;have c:=congrArg ag9 g;simp only[brk,aab,aaw]at c;rw[Y]at c;exists 9;refine Hz (i:=2) (k:=u) (xs:=[.int 0]) (λQ' q=>q) rfl ⋯ ∅ ⋯ λp1 H4 a0 B o=>?_;rw[uv]at o;refine(b,p1,4,B _ _ f,o,1,λp2 r=>?_)
  ·rw[aaa,aaa,aaw,sizeLine_eq];lia
  refine q p2 _ ((n.trans B).free r) (n.trans (B.trans (au r _))) ?_;rw[aa,<-aaf];exact congrArg (λl:List Int=>some (HO.lst !!l)) g
inductive zO(vs:List V)(H:Hp)(Q:VK)(E:XK):Prop
 | mk (p:Addr) (ds:List Int) (_:vs=[.ref p]) (_:H p=some (.lst !!ds)) (_:ds.length<=2048) (_:cB ds) (_:∀r t ah nd bl lows S xs H',H bl=none->aL H H'->H' r=some (.tup [.ref t,.ref bl])->KB H' t ah nd bl (brk ds 0) lows S xs->Q (.ref r) H')
theorem Aq(T:Tx K mg a):bI P w K mg base VR 7 a.ade a.acG ["depths"] zO:=by
 refine T.ady.F.V2 Ay λC A e s H D Q E g h=>?_;obtain⟨p,i,rfl,u,v,d,q⟩:=h;exists _,(aB (aN (aX T.abj (rn T) g (aq (aX T.aco (vM T) g (VJ 0 aj)) aj))));refine(9,p,i,7,u,d,v,λb M G f l=>?_);have L:=iQ d;exact(b,brk i 0,7,My.of l,6,eU _ _,qH d,λr t z n y c S j B x J I m k o=>q r t z n y c S j B (f.free x) (f.trans m) k o)
def Xj(ns:List Int):Prop:=∀z∈ns,-(10:Int)^60<z/\z<10^60
inductive u9(K:PySem.W.Frag)(C1:Addr)(C2:Addr)(vs:List V)(H:Hp)(Q:VK)(E:XK):Prop
 | mk (p:Addr) (ns:List Int) (_:vs=[.ref p]) (_:My K H p !!ns) (_:((ns.length<=4096/\Xj ns/\Q .non H)\/(4096<ns.length/\E (.ref C1) none H)\/(ns.length<=4096 /\ ¬Xj ns/\E (.ref C2) none H)))
theorem vG(T:Tx K mg a):bI P w K mg base (Wm P w) 1 a.ab3 a.abE ["signs"] (u9 K a.WT a.Xg):=by
 refine T.acp.F.WQ mZ (λu H Q E h=>?_) (λB A r s H u Q E C h=>?_)
 ·obtain⟨p,j,rfl,_⟩:=h;rfl
 obtain⟨p,j,rfl,n,h⟩:=h;refine(_,(ao (bR (aP jd (aF aG rfl T.V0 Tw.bu (VJ 0 aj)) (aY (v:=.int 4096) rfl T.aeK (_,7))) (aB (dz T.aeL rfl (aq cg aj))) aV)
  (aB (bK fO rfl (bY (pv 0)) (aM 1 mZ.nd) (aB (bR (lV (qm tU tU (oX jQ (aC vh aA aA)) (pv 1) (aC vh aA aA))) (aB (dz T.ae8 rfl (aq cg aj))) aV))))),1)
 refine(9,p,9,.inl n,4,9,dZ (λc=>?_) λc=>?_)
 ·have c:=of_decide_eq_true c;rw[aaa]at c;rcases h with ⟨d,_⟩|⟨_,q⟩|⟨d,_⟩
  ·lia
  ·exact(sl1,q)
  ·lia
 have c:¬(4096:Int)<(‹j›.length:Int):=λz=>c (decide_eq_true z);rw[aaa]at c;exists 9,p,7,(_,n);refine cG (xs:=j.map V.int) (λi g e=>(∃k,g=[!!!p,k])/\e=H/\Xj (j.take i)) ((none,7),7,λx b=>by simp at b) ?_ ?_ ?_
 ·rintro i g e _ ⟨_,rfl,_⟩;exact n
 ·rintro i x g e b ⟨⟨k,rfl⟩,rfl,l⟩;obtain⟨z,t,rfl⟩:=int_at b;have f:¬(-(10:Int)^60<z/\z<10^60)->E (.ref a.Xg) none e:=λnz=>by
   rcases h with ⟨_,d,_⟩|⟨d,_⟩|⟨_,_,q⟩
   ·exact absurd (d z (aar t)) nz
   ·lia
   ·exact q
  refine(4,(5,5,5),8,4,9,dZ (λo=>?_) λo=>(9,fP (sl1,f λy=>o (decide_eq_true y.1))));refine(4,(5,5,5),4,9,dZ (λm=>(sl1,f λy=>?_)) λm=>(3,7,λx b=>?_))
  ·rw[decide_eq_true (show z<10^(60:Int).toNat from y.2)]at m;exact absurd m ∅
  ·rw[aed,t]at b;rcases aas.mp b with b|b
   ·exact l x b
   ·rw[aao.mp b];exists of_decide_eq_true o;by_cases y:z<10^(60:Int).toNat
    ·exact y
    ·exact absurd (by rw[decide_eq_false y];rfl) m
 ·rintro g e ⟨_,rfl,l⟩;rw[aaa,afK]at l;rcases h with ⟨_,_,q⟩|⟨d,_⟩|⟨_,d,_⟩
  ·exact q
  ·lia
  ·exact absurd l d
def rks(ms ns:List Int):List Int:=ns.map λz=>(ms.idxOf z:Int)
inductive wz(K:PySem.W.Frag)(vs:List V)(H:Hp)(Q:VK)(_e1:XK):Prop
 | mk (q p:Addr) (ms ns:List Int) (_:vs=[.ref q,.ref p]) (_:My K H q !!ms) (_:My K H p !!ns) (_:ms.Nodup) (_:(∀z∈ns,z∈ms)) (_:ms.length<=4096) (_:ns.length<=4096) (_:∀r H',H r=none->aL H H'->H' r=some (.lst ‹rks ms ns›)->Q (.ref r) H')
theorem vz(T:Tx K mg a):bI P w K mg base VR 1 a.ab5 a.abF ["kinds","signs"] (wz K):=by
 refine T.acq.F.V2 gw λa0 A L s H vs Q E S h=>?_;obtain⟨R,p,u,ns,rfl,X,W,nd,J,hm,hn,q⟩:=h;refine(_,(ao (qW (i:=2) gw.nd rfl (ahH rfl) p8)
  (ao (bK PassesOwn.never rfl (zU rfl T.abW (VJ 0 aj)) (iK rfl (bG (aM 3 gw.nd) (bG (aM 4 gw.nd) fW))) (aB (qJ (af9 (agl (by decide:1<=64) _) S.units) (pv 2) (pv 4) (pv 3) rfl)))
  (aB (aN (kE rfl (bU.one (j:=2) rfl (agH rfl) rfl rfl (agH rfl)) (bY (pv 1)) (λ_ _ _ _=>dN) (λ_ _ _ _=>(Pz (af9 (agl (by decide:1<=64) _) S.units) (pv 1) (pv 0) (λ_ _=>rfl)))))))),1)
 intro d hd;have N:=au hd (.dK []);exists 9,R,9,N.seq X;refine Bq (xs:=u.map V.int) (λi t r=>(∃G C,t=[!!!R,!!!p,!!!d,G,C])/\aL H r /\ ∃b:List (Key×V),r d=some (.dK b)/\b.length<=i /\ ∀(j:Nat) (z:Int),j<i->u[j]?=some z->gq b (Sum.inl z)=some (.int (j:Int))) ((none,none,7),N,[],aa,aae _,λj z U=>absurd U (agp _)) ?_ ?_ ?_
 ·rintro i t r _ ⟨_,c,_⟩;exact c.seq X
 ·rintro i x t r pt hx ⟨⟨G,C,rfl⟩,c,b,B,hl,v⟩ YM;obtain⟨z,f,rfl⟩:=int_at hx;have I:=(aad.mp f).1;have M:=au YM (.tup [.int (i:Int),.int z]);exists pt,9,VM.of aa,7,_,9,4;exists 8,9,d,9,.inl (b,Sum.inl z,M _ _ B,7,by rw[sizeLine_eq];lia,7);refine((_,9),bc (c.trans M) hd _,_,aa,1,λj y U o=>?_)
  ·have:=qb b (Sum.inl z) (.int (i:Int));lia
  ·rw[qx];by_cases e:y=z
   ·subst e;rw[if_pos rfl];have:j=i:=by
     have n:=(aad.mp o).1;rw[aac n]at o;rw[aac I]at f;have e:=(afE o).trans (afE f).symm;have O:=afG.mp nd;rcases ahN j i with l|l|l
     ·exact absurd e (O j i n I l)
     ·exact l
     ·exact absurd e.symm (O i j I n l)
    rw[this]
   ·rw[if_neg (λz=>e (Sum.inl.inj z))];refine v j y ?_ o;rcases afF j i with l|l
    ·exact l
    ·have:j=i:=by lia
     subst this;rw[f]at o;exact absurd (afE o).symm e
 ·rintro t r ⟨⟨G,C,rfl⟩,c,b,B,hl,v⟩;rw[aaa]at v;exists 9,p,7,(_,c.seq W);refine rR (λz=>(u.idxOf z:Int)) (c.seq W) (by rw[sizeLine_eq];lia) (λ_ _ _ q=>q) (λz H2 Q f Z q=>(8,d,9,1,q)) λD Y=>?_
  ·have f:=J z f;have m:=ahu f;have e:=v (u.idxOf z) z m (by rw[aac m];exact congrArg some (aiQ m));have g:=su.k (k:=Sum.inl z) (Z _ _ B);rw[e]at g;exact g
  ·exact q D _ (c.free Y) (c.trans (au Y _)) aa
inductive uX(vs:List V)(H:Hp)(Q:VK)(_e1:XK):Prop
 | mk (n:Nat) (_:vs=[.int (n:Int)]) (_:n<=100000) (_:∀h:Nat,iH n (2^h)->Q (.int (h:Int)) H)
theorem Ov(h:Nat):Builtin.Int.intBits ((2^h:Nat):Int)=h+1:=by
 unfold Builtin.Int.intBits;have:0<2^h:=ai8 h;rw[if_neg (by rw[beq_iff_eq];lia),Int.natAbs_natCast,Nat.log2_two_pow]
theorem mj(T:Tx K mg a):bI P w K mg base VR 2 a.ab6 a.abG ["kind_count"] uX:=by
 refine T.aaW.F.V2 uT λj A b s H k Q E c h=>?_;obtain⟨n,rfl,d,q⟩:=h;exists _,(aB (aN (aC cP (Tv PySem.F.plainAttrs_int PySem.F.slot_int_bit_length PySem.F.type_int_bit_length xJ (aX T.adu (uF T) c (VJ 0 aj))) aA)));refine(9,n,7,d,λS f=>?_);obtain⟨h,rfl,i,g⟩:=f;exists 7,9,7,4;have e:((Builtin.Int.intBits ((2^h:Nat):Int):Nat):Int)-1=(h:Int):=by
  rw[Ov];lia
 show Q (.int (((Builtin.Int.intBits ((2^h:Nat):Int):Nat):Int)-1)) H;rw[e];exact q h (h,7,i,g)
def YS(os:List Int)(k:Nat):List Int:=(os.filter λz=>bit z k=0)++os.filter λz=>bit z k=1
theorem Hy(os:List Int)(k:Nat):(YS os k).length=os.length:=by
 unfold YS;rw[aab]
 induction os with
 |nil=>rfl
 |cons z os b=>
  have:bit z k=0\/bit z k=1:=by
   unfold bit;lia
  rcases this with e|e
  ·simp only[agq,e,decide_true,if_true,aah,show decide ((0:Int)=1)=false from rfl,agw,if_false];lia
  ·simp only[agq,e,decide_true,if_true,aah,show decide ((1:Int)=0)=false from rfl,agw,if_false];lia
theorem Bs(os:List Int)(f:Int->Int)(c:Int):((os.zip (os.map f)).filter λp=>decide (V.int p.2=V.int c)).map (λp=>p.1)=os.filter λz=>f z=c:=by
 induction os with
 |nil=>rfl
 |cons z os b=>
  rw[aax,ahL,agq,agq];by_cases e:f z=c
  ·rw[if_pos (decide_eq_true (by rw[e])),if_pos (decide_eq_true e),aax,b]
  ·rw[if_neg (by simp[e]),if_neg (by simp[e]),b]
def mJ(os bs:List Int):List Int:=((os.zip bs).filter λp=>decide (V.int p.2=V.int 0)).map (λp=>p.1)++((os.zip bs).filter λp=>decide (V.int p.2=V.int 1)).map (λp=>p.1)
theorem Cr(os:List Int)(k:Nat):mJ os (os.map λz=>bit z k)=YS os k:=by
 unfold mJ YS;rw[Bs,Bs]
inductive JV(K:PySem.W.Frag)(vs:List V)(H:Hp)(Q:VK)(_e1:XK):Prop
 | mk (p r:Addr) (os bs:List Int) (_:vs=[.ref p,.ref r]) (_:My K H p !!os) (_:My K H r !!bs) (_:bs.length=os.length) (_:os.length<=70000) (_:∀l H',H l=none->aL H H'->H' l=some (.lst ‹mJ os bs›)->Q (.ref l) H')
theorem zc(T:Tx K mg a):bI P w K mg base VR 1 a.aeY a.aev ["order","bits"] (JV K):=by
 refine T.aeb.F.V2 qT λJ A m s H L Q E M h=>?_;obtain⟨p,r,d,g,rfl,f,e,o,N,q⟩:=h;refine(_,(ao (lF (i:=2) qT.nd rfl rfl rfl (bU.zero,7,5) (lH rfl T.Yn Tw.lg (VJ 0 (VJ 1 aj))) (λ_ _ _ _=>(lq (aP fQ (pv 1) aA))) (λ_ _ _ _=>(pv 0)))
  (ao (lF (i:=3) qT.nd rfl rfl rfl (bU.zero,7,5) (lH rfl T.Yn Tw.lg (VJ 0 (VJ 1 aj))) (λ_ _ _ _=>(lq (aP fQ (pv 1) aA))) (λ_ _ _ _=>(pv 0)))
  (aB (aN (aC bB (pv 2) (pv 3)))))),1)
 exists 8,p,r,_,9,f,e;refine yU (os:=d) (bs:=g) (λ_ y=>decide (V.int y=V.int 0)) (λx _=>x) f e o.symm (by rw[sizeLine_eq];lia) (λx y k Q j q=>(9,7,9,q)) (λx y k Q j q=>(9,q)) λB R I b v=>?_;exists 8,p,r,_,9,b.seq f,b.seq e;refine yU (os:=d) (bs:=g) (λ_ y=>decide (V.int y=V.int 1)) (λx _=>x) (b.seq f) (b.seq e) o.symm (by rw[sizeLine_eq];lia) (λx y k Q j q=>(9,7,9,q)) (λx y k Q j q=>(9,q)) λz O G t u=>?_;refine(8,B,z,4,t _ _ v,u,1,λl c=>?_)
 ·have D:=age (λp:Int×Int=>decide (V.int p.2=V.int 0)) (d.zip g);have C:=age (λp:Int×Int=>decide (V.int p.2=V.int 1)) (d.zip g);rw[ahr]at D C;rw[aaa,aaa,aaa,aaa,sizeLine_eq];lia
 have n:=b.trans t;refine q l _ (n.free c) (n.trans (au c _)) ?_;rw[aa];unfold mJ;rw[aaf]
def V3:Nat->List Int->List (List Int)
 |0,_=>[]
 |k+1,b=>(b.map λz=>bit z k)::V3 k (YS b k)
theorem fH:∀(k:Nat) (os:List Int),(V3 k os).length=k
 |0,_=>rfl
 |k+1,os=>by
  unfold V3;rw[aah,fH k]
theorem kj:∀(k:Nat) (os bs:List Int),bs∈V3 k os->aO bs/\bs.length=os.length
 |0,_,_,h=>by cases h
 |k+1,os,bs,h=>by
  unfold V3 at h;rcases aat.mp h with rfl|h
  ·refine(λx b=>?_,aaa ..);obtain⟨z,_,rfl⟩:=aaz.mp b;unfold bit;lia
  ·obtain⟨d,c⟩:=kj k _ _ h;exact(d,c.trans (Hy os k))
def pY(H:Hp)(ls:List Addr)(c:List (List Int)):Prop:=ls.length=c.length /\ ∀(i:Nat) (l:Addr) (b:List Int),ls[i]?=some l->c[i]?=some b->H l=some (.lst !!b)
theorem pY.same{H':Hp}{ls:List Addr}{b:List (List Int)}(h:pY H ls b)(s:aL H H'):pY H' ls b:=(h.1,λi l c e d=>s _ _ (h.2 i l c e d))
theorem pY.snoc{ls:List Addr}{g:List (List Int)}{l:Addr}{xs:List Int}(h:pY H ls g)(e:H l=some (.lst !!xs)):pY H (ls++[l]) (g++[xs]):=by
 refine(by rw[aab,aab,h.1];rfl,λi j f b d=>?_);rcases afF i ls.length with c|c
 ·rw[afI c]at b;rw[afI (by rw[<-h.1];exact c)]at d;exact h.2 i j f b d
 ·rw[afH c]at b;rw[afH (by rw[<-h.1];exact c),<-h.1]at d;have:i-ls.length=0:=by
   have:=(aad.mp b).1;simp at this;lia
  rw[this]at b d;cases b;cases d;exact e
theorem pY.upd{ls:List Addr}{c:List (List Int)}{x:Addr}{o:HO}(h:pY H ls c)(e:x∉ls):pY (upd H x o) ls c:=
 (h.1,λi l d b f=>by rw[aK (λz:l=x=>e (z ▸ aar b))];exact h.2 i l d b f)
def Yo(K:PySem.W.Frag)(H:Hp)(r o:Addr)(xs:List V):Prop:=(Rd H o (.lst xs)/\o≠r) \/ ∀b,My K b o xs
theorem Yo.of{r o:Addr}{xs:List V}(h:My K H o xs)(b:H r=none):Yo K H r o xs:=by
 rcases h with h|h
 ·refine .inl (h,λz=>?_);subst z;unfold Rd at h;rcases h with h|⟨_,h⟩
  ·rw[b]at h;cases h
  ·rw[b]at h;cases h
 ·exact .inr λ_=>.inr h
theorem Yo.sq{r o:Addr}{xs:List V}(h:Yo K H r o xs):My K H o xs:=by
 rcases h with h|h
 ·exact .inl h.1
 ·exact h H
theorem Yo.to{H':Hp}{r o:Addr}{xs:List V}(h:Yo K H r o xs)(s:∀b u,b≠r->H b=some u->H' b=some u):Yo K H' r o xs:=by
 rcases h with ⟨h,n⟩|h
 ·refine .inl (1,n);unfold Rd at h ⊢;rcases h with h|⟨c,h⟩
  ·exact .inl (s _ _ n h)
  ·exact .inr (c,s _ _ n h)
 ·exact .inr h
inductive xu(K:PySem.W.Frag)(vs:List V)(H:Hp)(Q:VK)(_e1:XK):Prop
 | mk (p:Addr) (os:List Int) (n:Nat) (_:vs=[.ref p,.int (n:Int)]) (_:My K H p !!os) (_:os.length<=4096) (_:n<=4096) (_:∀(h:Nat) (r:Addr) (ls:List Addr) (H':Hp),iH n (2^h)->h<=12->H r=none->aL H H'->H' r=some (.lst (ls.map V.ref))->pY H' ls (V3 h os)->(∀l∈ls,H l=none)->Q (.ref r) H')
theorem zp{n :Nat}(i:n<=4096)(b:iH n (2^d)):d<=12:=by
 obtain⟨g,e,j,f⟩:=b;have:d=g:=(aiY (a:=2) ∅).mp e;subst this;rcases afF 12 d with c|c
 ·have:=f 12 c;lia
 ·exact c
theorem xF(T:Tx K mg a):bI P w K mg base VR 3 a.acI a.ab7 ["ranks","kind_count"] (xu K):=by
 refine T.acW.F.V2 dX λa4 A a3 s H vs Q E hr h=>?_;obtain⟨p,t,n,rfl,hS,W,hn,q⟩:=h;refine(_,(ao (aD 2 dX.nd (bh aj))
  (ao (aD 3 dX.nd (pv 0))
  (ao (bK PassesOwn.never rfl (CT rfl T.Xi (aq (aC cP (aX T.aaW (mj T) hr (VJ 1 aj)) aA) (aq (oX jQ aA) (aq (oX jQ aA) aj)))) (km (i:=4) dX.nd rfl (ahH rfl)) (ao (eN (i:=5) dX.nd rfl rfl rfl (bU.one (j:=4) rfl (agH rfl) rfl rfl (agH rfl)) (bY (pv 3)) (λ_ _ _ _=>dN) (λ_ _ _ _=>(aX T.aea (yD T) hr (VJ 0 (VJ 1 aj)))))
  (ao (bF (dj PySem.F.plainAttrs_list PySem.F.slot_list_append PySem.F.type_list_append bW (pv 2) (VJ 5 aj)))
  (aB (aD 3 dX.nd (aX T.aeb (zc T) hr (VJ 3 (VJ 5 aj))))))))
  (aB (aN (pv 2)))))),1)
 refine(sl0,λr v=>(9,1));have s0:=au v (.lst []);refine(9,n,7,6,λh hz=>?_);have a2:=zp hn hz;refine(4,8,(h:Int)-1,-1,7,6,5,6,5,1);refine qg (λi Z m=>∃(o:Addr) (c:List Int) (d:List Addr) (k4 k5:Option V) (C:List (List Int)),Z=[!!!p,some (.int (n:Int)),!!!r,!!!o,k4,k5]/\aL H m/\Yo K m r o ‹c›/\c.length=t.length/\m r=some (.lst (d.map V.ref))/\pY m d C/\C.length=i/\(∀l∈d,H l=none/\l≠r)/\V3 h t=C++V3 (h-i) c) ?_ ?_ ?_
 ·exact(p,t,[],none,none,[],7,s0,(Yo.of hS v).to (λb u n e=>by rw[aK n];exact e),7,aa,(7,λi l xs e=>by cases e),7,(λl W=>nomatch W),7)
 ·rintro i Z m hi ⟨o,c,d,k4,k5,C,rfl,G,hO,O,f,g,B,y,X⟩;have ei:(h:Int)-1+(i:Int) * -1=((h-1-i:Nat):Int):=by lia
  rw[ei];obtain⟨k,hk⟩:∃k,h-i=k+1:=(h-i-1,6);have ek:h-1-i=k:=by lia
  rw[ek];exists 9,o,7,(_,hO.sq);refine rR (λz=>bit z k) hO.sq (by rw[sizeLine_eq];lia) (λ_ _ _ q=>q) (λz H2 Q hz s2 q=>(8,z,(k:Int),7,6,q)) λb Y=>?_;have U:=au Y (.lst ‹(c.map λz=>bit z k)›);have xb:upd m b (.lst ‹(c.map λz=>bit z k)›) b=some (.lst ‹(c.map λz=>bit z k)›):=aa;have a0:H b=none:=G.free Y;have M:b≠r:=λz=>by rw[z,f]at Y;cases Y
  replace hO:=hO.to λb u _ e=>U b u e
  replace f:=U _ _ f
  replace g:=g.same U
  replace G:=G.trans U
  generalize upd m b (.lst ‹(c.map λz=>bit z k)›)=J at *;exists 9,.inl (7,_,My.of f),9,r,4,f,?_
  ·rw[aaa,g.1,B,sizeLine_eq];lia
  have s2:=bc G v (.lst (d.map V.ref++[.ref b]));have L:upd J r (.lst (d.map V.ref++[.ref b])) b=some (.lst ‹(c.map λz=>bit z k)›):=by rw[aK M];exact xb
  have a1:=(hO.to (H':=upd J r (.lst (d.map V.ref++[.ref b]))) λb u n e=>by rw[aK n];exact e).sq;have S:pY (upd J r (.lst (d.map V.ref++[.ref b]))) (d++[b]) (C++[c.map λz=>bit z k]):=(g.upd λz=>(y r z).2 rfl).snoc L;have N:upd J r (.lst (d.map V.ref++[.ref b])) r=some (.lst ((d++[b]).map V.ref)):=by
   rw[aa,aaf];rfl
  generalize upd J r (.lst (d.map V.ref++[.ref b]))=H2 at *;refine(8,o,b,c,9,a1,My.of L,aaa ..,6,λl H3 R D x3=>?_);rw[Cr]at x3;exists l,YS c k,d++[b],_,_,C++[c.map λz=>bit z k],7,s2.trans D,.inl (.inl x3,1),(Hy c k).trans O,D _ _ N,S.same D,1,λx I=>?_
  ·intro z;rw[z,N]at R;cases R
  ·rw[aab,B];rfl
  ·rcases aas.mp I with I|I
   ·exact y x I
   ·rw[aao.mp I];exact(a0,M)
  ·rw[X,hk,aay,show h-(i+1)=k from by lia];rfl
 ·rintro Z m ⟨o,c,d,k4,k5,C,rfl,G,hO,O,f,g,B,y,X⟩;have ei:((h:Int)-1 - -1).toNat=h:=by lia
  rw[ei]at B X;have:V3 h t=C:=by
   rw[X,ag8];exact afR _
  rw[<-this]at g;exact(9,q h r d m hz a2 v G f g λl W=>(y l W).1)
theorem Tj(ns:List Int)(z:Int):z∈met (λi=>ns.getD i 0) ns.length ↔ z∈ns:=by
 rw[pZ];constructor
 ·rintro⟨i,b,rfl⟩;rw[aaA,aac b];exact afL b
 ·intro h;obtain⟨i,b,rfl⟩:=agj h;exact(i,b,by rw[aaA,aac b];rfl)
structure Kinds(ns ms:List Int):Prop where
 up:ms.Pairwise (· < ·)
 mem:∀z,z∈ms ↔ z∈ns
theorem Kinds.nd{ns ms:List Int}(h:Kinds ns ms):ms.Nodup:=h.up.imp λa=>Int.ne_of_lt a
theorem kinds_of{ns ms :List Int}(e:c=met (λi=>ns.getD i 0) ns.length)(d:agh ms c)(f:ms.Pairwise (· <= ·)):Kinds ns ms:=by
 have g:ms.Nodup:=d.nodup_iff.mpr (by rw[e];exact gm _ _);refine((f.and g).imp λ⟨a,b⟩=>by lia,λz=>?_);rw[d.mem_iff,e];exact Tj ns z
def xj(H:Hp)(ls:List Addr)(c:List (List Int)):Prop:=ls.length=c.length /\ ∀(i:Nat) (l:Addr) (b:List Int),ls[i]?=some l->c[i]?=some b->H l=some (.tup !!b)
theorem xj.to{H':Hp}{ls:List Addr}{c:List (List Int)}(h:xj H ls c)(s:∀b xs,H b=some (.tup xs)->H' b=some (.tup xs)):xj H' ls c:=(h.1,λi l xs e d=>s _ _ (h.2 i l xs e d))
theorem xj.snoc{ls:List Addr}{g:List (List Int)}{l:Addr}{xs:List Int}(h:xj H ls g)(e:H l=some (.tup !!xs)):xj H (ls++[l]) (g++[xs]):=by
 refine(by rw[aab,aab,h.1];rfl,λi j f b d=>?_);rcases afF i ls.length with c|c
 ·rw[afI c]at b;rw[afI (by rw[<-h.1];exact c)]at d;exact h.2 i j f b d
 ·rw[afH c]at b;rw[afH (by rw[<-h.1];exact c),<-h.1]at d;have:i-ls.length=0:=by
   have:=(aad.mp b).1;simp at this;lia
  rw[this]at b d;cases b;cases d;exact e
structure Kept(H:Hp)(r t b k c:Addr)(ns ms:List Int)(h:Nat)(ls:List Addr):Prop where
 r:H r=some (.tup [.ref t,.ref b])
 t:H t=some (.tup [.int (ns.length:Int),.ref k,.ref c])
 k:H k=some (.tup !!ms)
 c:H c=some (.tup (ls.map V.ref))
 ls:xj H ls ((V3 h (rks ms ns)).map λbs=>We bs (many ns.length))
 b:H b=some (.lst ‹((V3 h (rks ms ns)).map bQ).flatten›)
 kd:Kinds ns ms
 sz:iH ms.length (2^h)
 h12:h<=12
inductive xV(K:PySem.W.Frag)(C1:Addr)(C2:Addr)(vs:List V)(H:Hp)(Q:VK)(E:XK):Prop
 | mk (p:Addr) (ns:List Int) (_:vs=[.ref p]) (_:My K H p !!ns) (_:((ns.length<=4096/\(∃U:List Int,U.length<=4000 /\ ∀z∈ns,z∈U)/\Xj ns /\ ∀(r t b k c:Addr) (ms:List Int) (h:Nat) (ls:List Addr) (H':Hp),H b=none->aL H H'->Kept H' r t b k c ns ms h ls->Q (.ref r) H')\/(4096<ns.length/\E (.ref C1) none H)\/(ns.length<=4096 /\ ¬Xj ns/\E (.ref C2) none H)))
theorem xQ(T:Tx K mg a):bI P w K mg base (Wm P w) 6 a.acH a.ab4 ["signs"] (xV K a.WT a.Xg):=by
 refine T.acV.F.WQ dU (λvs H Q E h=>?_) (λd9 A d4 s H vs Q E hr h=>?_)
 ·obtain⟨p,d,rfl,_⟩:=h;rfl
 obtain⟨p,d,rfl,Z,h⟩:=h;refine(_,(ao (bF (cY T.acp (vG T) ∅ hr gk rfl (VJ 0 aj)))
  (ao (aD 1 dU.nd (aF (zW rfl) rfl T.ac0 Tw.nR (aq (dg (Kh rfl) rfl T.afb Tw.Fb (VJ 0 aj)) aj)))
  (ao (aD 2 dU.nd (bh aj))
  (ao (aD 3 dU.nd (bh aj))
  (ao (bK fO rfl (bY (aX T.acW (xF T) hr (aq (aX T.acq (vz T) hr (VJ 1 (VJ 0 aj))) (aq (aF aG rfl T.V0 Tw.bu (VJ 1 aj)) aj)))) (aM 4 dU.nd) (ao (aD 5 dU.nd (aX T.abA (nG T) hr (VJ 4 aj)))
  (ao (bF (dj PySem.F.plainAttrs_list PySem.F.slot_list_append PySem.F.type_list_append bW (pv 2) (aq (bN cD (bN cD (pv 5) aA) aA) aj)))
  (aB (bF (dj PySem.F.plainAttrs_list PySem.F.slot_list_extend PySem.F.type_list_extend dC (pv 3) (aq (bN cD (pv 5) aA) aj)))))))
  (aB (aN (dY (aq (dY (aq (aF aG rfl T.V0 Tw.bu (VJ 0 aj)) (aq (dg ig rfl T.aec Tw.qO (VJ 1 aj)) (aq (dg ig rfl T.aec Tw.qO (VJ 2 aj)) aj)))) (VJ 3 aj)))))))))),1)
 rcases h with ⟨hl,⟨U,hU,hc⟩,hi,q⟩|h|h
 rotate_left
 ·exact(9,p,d,7,Z,.inr (.inl h))
 ·exact(9,p,d,7,Z,.inr (.inr h))
 refine(9,p,d,7,Z,.inl (6,hi,1));have d5:(met (λi=>d.getD i 0) d.length).length<=U.length:=O6 hc;refine(9,p,d,7,Z,1,λl0 ks o0 a3 a4 c7=>(l0,ks,7,by rw[aa,c7],λy g a5 pm b5=>?_))
 ·have:scanBound=4096:=rfl;lia
 have sA:=(au a3 o0).trans (au a5 (.lst !!g));have B:upd (upd H l0 o0) y (.lst !!g) y=some (.lst !!g):=aa;have d6:H y=none:=(au a3 _).free a5;have hK:=kinds_of a4 pm b5;have c4:∀z∈d,z∈g:=λz hz=>(hK.mem z).mpr hz;have lm:g.length<=4000:=by rw[pm.length_eq,a4];lia
 generalize upd (upd H l0 o0) y (.lst !!g)=H1 at *;refine(sl0,λf Zf=>(sl0,λm Wg=>?_));have sB:=(au Zf (.lst [])).trans (au Wg (.lst []));have O:f≠m:=aH aa Wg;have xa:upd (upd H1 f (.lst [])) m (.lst []) f=some (.lst []):=by rw[aK O];exact aa
 have xb:upd (upd H1 f (.lst [])) m (.lst []) m=some (.lst []):=aa;have b0:H f=none:=sA.free Zf;have I:H m=none:=sA.free ((au Zf _).free Wg);have c1:y≠f:=aH B Zf;have c0:y≠m:=aH B ((au Zf _).free Wg)
 replace B:=sB _ _ B
 have sC:=sA.trans sB;generalize upd (upd H1 f (.lst [])) m (.lst [])=H2 at *;refine(8,y,p,g,d,7,My.of B,sC.seq Z,hK.nd,c4,6,6,λrk H3 d7 u x3=>?_);refine(9,y,9,.inl (My.of (u _ _ B)),rk,rks g d,g.length,1,My.of x3,(by unfold rks;rw[aaa];lia),6,λh N ls H4 hz d3 Zg W0 x4 R a6=>?_)
 ·rw[aaa];rfl
 have c8:∀l∈ls,l≠f/\l≠m:=λl hl=>((aH (u _ _ xa) (a6 l hl)).symm,(aH (u _ _ xb) (a6 l hl)).symm);have b9:N≠f:=(aH (u _ _ xa) Zg).symm;have b6:N≠m:=(aH (u _ _ xb) Zg).symm;have sD:=u.trans W0
 replace B:=sD _ _ B
 replace xa:=sD _ _ xa
 replace xb:=sD _ _ xb
 have sE:=sC.trans sD;have d8:ls.length=h:=by rw[R.1,fH]
 exists N,7,(_,My.of x4);refine cG (xs:=ls.map V.ref) (λi σ G=>(∃k4 k5,σ=[!!!p,!!!y,!!!f,!!!m,k4,k5])/\aL H G/\(∀b o,b≠f->b≠m->H4 b=some o->G b=some o) /\ ∃j:List Addr,G f=some (.lst (j.map V.ref))/\G m=some (.lst ‹(((V3 h (rks g d)).take i).map bQ).flatten›)/\xj G j (((V3 h (rks g d)).take i).map λn=>We n (many d.length))/\((((V3 h (rks g d)).take i).map bQ).flatten).length<=128*i) ?_ ?_ ?_ ?_
 ·exact((none,none,7),sE,λb o _ _ e=>e,[],xa,xb,(7,λi l J e=>by cases e),aaH _)
 ·rintro i σ G _ ⟨_,_,Y,_⟩;exact My.of (Y _ _ b9 b6 x4)
 ·rintro i x σ G hx ⟨⟨k4,k5,rfl⟩,sm,Y,j,ya,yb,hts,Y7⟩;rw[aak]at hx;obtain⟨l,S,rfl⟩:=afS.mp hx;have c9:=(aad.mp S).1;obtain⟨n,W⟩:∃n,(V3 h (rks g d))[i]?=some n:=(_,aac (by rw[<-R.1];exact c9));obtain⟨d1,a9⟩:=kj h _ n (aar W);have c5:(rks g d).length=d.length:=by unfold rks;exact aaa ..
  have d0:n.length=d.length:=a9.trans c5;have a2:=c8 l (aar S);have yl:=Y _ _ a2.1 a2.2 (R.2 i l n S W);have YK:j.length=i:=by
   rw[hts.1,aaa,aam,fH];lia
  refine(9,l,n,7,My.of yl,6,d1,λr b t v C d2 Z6 y1 a1 y2=>?_);have D:=Z6 _ _ ya;have b1:=Z6 _ _ yb;have c2:b≠f:=(aH ya d2).symm;exists 9,.inl (7,_,My.of D),9,r,_,4,VM.of y1,7,t,_,4,VM.of a1.tup,7,f,4,D,?_
  ·rw[aaa,YK,sizeLine_eq];lia
  have a7:r≠f:=λz=>by rw[z,D]at y1;cases y1
  have b4:upd C f (.lst (j.map V.ref++[.ref v])) r=some (.tup [.ref t,.ref b]):=by rw[aK a7];exact y1
  have b3:upd C f (.lst (j.map V.ref++[.ref v])) b=some (.lst ‹bQ n›):=by rw[aK c2];exact y2
  have L:upd C f (.lst (j.map V.ref++[.ref v])) m=some (.lst ‹(((V3 h (rks g d)).take i).map bQ).flatten›):=by rw[aK (agB O)];exact b1
  have b2:upd C f (.lst (j.map V.ref++[.ref v])) f=some (.lst ((j++[v]).map V.ref)):=by rw[aa,aaf];rfl
  have s6:=bc (sm.trans Z6) b0 (.lst (j.map V.ref++[.ref v]));have c3:∀c o,c≠f->c≠m->H4 c=some o->upd C f (.lst (j.map V.ref++[.ref v])) c=some o:=λc o n1 n2 e=>by rw[aK n1];exact Z6 _ _ (Y c o n1 n2 e)
  have a0:∀c J,C c=some (.tup J)->upd C f (.lst (j.map V.ref++[.ref v])) c=some (.tup J):=λc J e=>by
   rw[aK λz=>?_]
   ·exact e
   ·rw[z,D]at e;cases e
  have a8:xj (upd C f (.lst (j.map V.ref++[.ref v]))) (j++[v]) ((((V3 h (rks g d)).take i).map λn=>We n (many d.length))++[We n (many d.length)]):=by
   refine xj.snoc (hts.to λc J e=>a0 _ _ (Z6 _ _ e)) (a0 _ _ ?_);have:=a1.Ze;rw[d0]at this;exact this
  have pl:(bQ n).length<=128:=by rw[bJ];unfold many;lia
  generalize upd C f (.lst (j.map V.ref++[.ref v]))=H6 at *;have Z7:(V3 h (rks g d)).take (i+1)=(V3 h (rks g d)).take i++[n]:=by rw[aed,W];rfl
  exists 9,.inl (7,_,My.of L),9,r,_,4,VM.of b4,7,m,b,4,L,b3,?_
  ·rw[aaa,aaa,sizeLine_eq];lia
  exists (_,9),bc s6 I _,λc o n1 n2 e=>by rw[aK n2];exact c3 c o n1 n2 e,j++[v],by rw[aK O];exact b2,1,?_
  ·rw[aa,Z7,aaf,aiJ,aaf];simp
  ·rw[Z7,aaf];refine a8.to λc J e=>?_;rw[aK λz=>?_]
   ·exact e
   ·rw[z,L]at e;cases e
  ·rw[Z7,aaf,aiJ,aab];simp only[aax,ahP,agt,List.flatten_nil,afR];lia
 ·rintro σ G ⟨⟨k4,k5,rfl⟩,sm,Y,j,ya,yb,hts,Y7⟩;have X:(V3 h (rks g d)).take (ls.map V.ref).length=V3 h (rks g d):=aal (by rw[aaa,fH];lia);rw[X]at yb hts;have yk:=Y _ _ c1 c0 B;refine(9,p,9,.inl (sm.seq Z),9,y,9,.inl (My.of yk,λk hk=>?_));have s1:=au hk (.tup !!g);refine(9,f,9,.inl (My.of (s1 _ _ ya),λc hc=>?_));have s2:=au hc (.tup (j.map V.ref));have Wz:‹d›.length=d.length:=aaa ..;rw[Wz];refine(sl3,λt ht=>(9,sl2,λr c6=>?_));have s3:=au ht (.tup [.int (d.length:Int),.ref k,.ref c]);have s4:=au c6 (.tup [.ref t,.ref m]);have M:=s1.trans (s2.trans (s3.trans s4));exact q r t m k c g h j _ I (sm.trans M) (aa,s4 _ _ aa,s4 _ _ (s3 _ _ (s2 _ _ aa)),s4 _ _ (s3 _ _ aa),hts.to λb J e=>M _ _ e,M _ _ yb,hK,hz,d3)
def Wb(w:Str):Prop:=w.length<=40 /\ ∀c∈w.cps.toList,97<=c/\c<=122
abbrev letters:Str := "abcdefghijklmnopqrstuvwxyz"
theorem Cy:∀k,k<26->(97+k)∈letters.cps.toList/\Builtin.Str.occurrences letters ⟨#[97+k]⟩ 0 letters.length 1=[k]:=by
 decide +kernel
theorem sG{c:Nat}(h:97<=c/\c<=122):c∈letters.cps.toList/\Builtin.Str.occurrences letters ⟨#[c]⟩ 0 letters.length 1=[c-97]:=by
 have:=Cy (c-97) ⋯;rw[show 97+(c-97)=c by lia]at this;exact this
theorem Fv(c:N.Nodup):(met (λi=>N.getD i ⟨#[]⟩) N.length).length=N.length:=by
 have m:=zx (λi=>N.getD i ⟨#[]⟩) N.length;have k:N.length<=(met (λi=>N.getD i ⟨#[]⟩) N.length).length:=by
  have:∀{l U:List Str},l.Nodup->(∀z∈l,z∈U)->l.length<=U.length:=by
   intro l
   induction l with
   |nil=>intro U _ _;exact aaH _
   |cons a l j=>
    intro U c h;have f:=h a aan;have g:=agv.mp c;have q:=j (U:=U.erase a) g.2 λz b=>(agZ λe:z=a=>g.1 (e ▸ b)).mpr (h z (aaj _ b));have e:=agK f;have p:=ahk f;rw[aah];lia
  refine this c λz b=>?_;obtain⟨i,d,e⟩:=agj b;refine(pZ _ _ _).mpr (i,d,1);rw[aaA,aac d];exact e
 lia
theorem Ef(b:List Str)(z:Str):z∈met (λi=>b.getD i ⟨#[]⟩) b.length ↔ z∈b:=by
 rw[pZ];constructor
 ·rintro⟨i,c,rfl⟩;show b.getD i ⟨#[]⟩∈b;rw[aaA,aac c];exact afL c
 ·intro d;obtain⟨i,c,e⟩:=agj d;exists i,c;show b.getD i ⟨#[]⟩=z;rw[aaA,aac c];exact e
theorem Bv:∀c∈letters.cps.toList,97<=c/\c<=122:=by decide +kernel
theorem Bf:∀{l U:List Str},l.Nodup->(∀z∈l,z∈U)->U.length<=l.length->l.Perm U
 |[],U,_,_,h=>by
  rw[ahJ.mp (aiH.mp h)]
 |a::l,U,g,c,h=>by
  have d:=c a aan;have f:=agv.mp g;have e:=agK d;rw[aah]at h;have:=Bf (l:=l) (U:=U.erase a) f.2 (λz b=>(agZ λe:z=a=>f.1 (e ▸ b)).mpr (c z (aaj _ b))) ⋯;exact(List.Perm.cons a this).trans (List.perm_cons_erase d).symm
theorem Jx(b:¬N.Nodup):(met (λi=>N.getD i ⟨#[]⟩) N.length).length<N.length:=by
 rcases afF (met (λi=>N.getD i ⟨#[]⟩) N.length).length N.length with c|c
 ·exact c
 ·exact absurd ((Bf (gm _ _) (λz d=>(Ef N z).mp d) c).nodup_iff.mp (gm _ _)) b
def Taken(d c:Addr)(ws:List Str)(H:Hp)(E:XK)(q:Prop):Prop:=
 ((∃x∈ws,¬Wb x) /\ ∀b,aL H b->E (.ref d) none b)\/((∀x∈ws,Wb x) /\ ¬ws.Nodup /\ ∀b,aL H b->E (.ref c) none b)\/((∀x∈ws,Wb x)/\ws.Nodup/\q)
inductive uM(K:PySem.W.Frag)(C1:Addr)(C2:Addr)(vs:List V)(H:Hp)(Q:VK)(E:XK):Prop
 | mk (p:Addr) (ws:List Str) (_:vs=[.ref p]) (_:My K H p (ws.map V.str)) (_:(∀x∈ws,x.length<=3000)) (_:ws.length<=4000) (_:Taken C1 C2 ws H E (∀H',aL H H'->Q .non H'))
theorem uI(T:Tx K mg a):bI P w K mg base (Wm P w) 1 a.ab8 a.abH ["words"] (uM K a.WM a.Xh):=by
 refine T.acr.F.WQ iZ (λX H Q E h=>?_) (λa1 A U s H X Q E hr h=>?_)
 ·obtain⟨p,m,rfl,_⟩:=h;rfl
 obtain⟨p,m,rfl,L,Y,hl,h⟩:=h;refine(_,(ao (bK fO rfl (bY (pv 0)) (aM 1 iZ.nd) (ao (bR (aP jd (aF cA rfl T.V0 Tw.bu (VJ 1 aj)) (aY (v:=.int 40) rfl T.adH (_,7))) (aB (dz T.aee rfl (aq cg aj))) aV)
  (aB (bK fO rfl (Lb (pv 1)) (aM 2 iZ.nd) (aB (bR (aP z6 (pv 2) (aY (v:=.str "abcdefghijklmnopqrstuvwxyz") rfl T.acv (_,7)) (by with_unfolding_all rfl)) (aB (dz T.aee rfl (aq cg aj))) aV))))))
  (aB (bR (aP tU (aF ud rfl T.V0 Tw.bu (aq (dg (tQ rfl) rfl T.afb Tw.Fb (VJ 0 aj)) aj)) (aF aG rfl T.V0 Tw.bu (VJ 0 aj))) (aB (dz T.afh rfl (aq cg aj))) aV))),1)
 have I:∀x∈m,¬Wb x->E (.ref a.WM) none H:=λx b B=>by
  rcases h with ⟨_,q⟩|⟨R,_⟩|⟨R,_⟩
  ·exact q _ (aL.refl _)
  ·exact absurd (R x b) B
  ·exact absurd (R x b) B
 exists 9,p,7,(_,L);refine cG (xs:=m.map V.str) (λi n C=>(∃O t,n=[!!!p,O,t])/\C=H /\ ∀x∈m.take i,Wb x) ((none,none,7),7,λx b=>by rw[agn]at b;cases b) ?_ ?_ ?_
 ·rintro i n C _ ⟨_,rfl,_⟩;exact L
 ·rintro i x n C b ⟨⟨O,t,rfl⟩,rfl,g⟩;rw[aak]at b;obtain⟨f,W,rfl⟩:=afS.mp b;have k:=aar W;have a0:=Y f k;refine(9,f,7,by rw[sizeLine_eq];lia,4,9,dZ (λc=>?_) λc=>?_)
  ·have c:(40:Int)<(f.length:Int):=of_decide_eq_true c;exact(sl1,I f k λz=>by have:=z.1;lia)
  have c:¬(40:Int)<(f.length:Int):=λz=>c (decide_eq_true z);exists 9,f,7;refine Hx (x:=f) (λj n S=>(∃t,n=[!!!p,some (.str f),t])/\S=C /\ ∀c∈f.cps.toList.take j,97<=c/\c<=122) (3,7,λc J=>by rw[agn]at J;cases J) ?_ ?_
  ·rintro j c n S J ⟨⟨t,rfl⟩,rfl,u⟩;have G:f.cps.toList[j]?=some c:=by rw[afP];exact J
   exists 9,4,9;rw[PySem.StrLaws.found_one];by_cases d:c∈letters.cps.toList
   ·rw[decide_eq_true d];refine fM (3,7,λe r=>?_);rw[agG,G]at r;rcases aas.mp r with r|r
    ·exact u e r
    ·rw[aao.mp r];exact Bv c d
   ·rw[decide_eq_false d];refine fP (sl1,I f k λz=>d ?_);exact(sG (z.2 c (aar G))).1
  ·rintro n S ⟨⟨t,rfl⟩,rfl,u⟩;refine((_,9),7,λx b=>?_);rw[agG,W]at b;rcases aas.mp b with b|b
   ·exact g x b
   ·rw[aao.mp b];refine(6,λe r=>u e ?_);rw[aal (by rw[aag];exact aae _)];exact r
 ·rintro n C ⟨⟨O,t,rfl⟩,rfl,g⟩;rw[aaa,aal (aae _)]at g;have Z5:=zx (λi=>m.getD i ⟨#[]⟩) m.length;refine(9,p,m,7,L,(by show _+1<4096;lia),λl N o y D Z=>?_);refine(l,N,7,by rw[aa,Z],9,p,9,.inl (au y _ |>.seq L),4,9,dZ (λc=>?_) λc=>?_)
  ·have c:(N.length:Int)<((m.map V.str).length:Int):=of_decide_eq_true c;rw[D,aaa]at c;rcases h with ⟨⟨x,b,B⟩,_⟩|⟨_,_,q⟩|⟨_,M,_⟩
   ·exact absurd (g x b) B
   ·exact(sl1,q _ (au y _))
   ·rw[Fv M]at c;lia
  ·rcases h with ⟨⟨x,b,B⟩,_⟩|⟨_,M,_⟩|⟨_,_,q⟩
   ·exact absurd (g x b) B
   ·refine absurd (decide_eq_true ?_) c;show (N.length:Int)<((m.map V.str).length:Int);rw[D,aaa];have:=Jx M;lia
   ·exact q _ (au y _)
theorem Jg{lo:Int}{n:Nat}{d:L2.St}(f:Nat->V)(o:n<sizeLine)
  (h:∀(z:Int) (H':Hp) (Q:Bool->Hp->Prop),Q true H'->L (some (.int z)::d) H' Q)(l:∀(i:Nat) (H':Hp) (Q:VK),i<n->aL H H'->Q (f i) H'->ta (some (.int (lo+i))::d) H' Q)
  (q:∀D,H D=none->m D (upd H D (.lst ((abS n).map f)))):fY (XJ lo n) d L ta m H:=by
 intro D j;exists λi b g k=>b=n-i/\i<=n/\g=(abS i).map f/\k=upd H D (.lst g),(9,aaH _,7,7);rintro i b g k ⟨rfl,p,rfl,rfl⟩;by_cases c:i<n
 ·refine .inr (c,λv r y=>?_);obtain⟨rfl,rfl⟩:=y;refine h _ _ _ ?_;rw[if_pos rfl];refine l i _ _ c (au j _) (aa,1,n-(i+1),6,7,c,1,1)
  ·rw[aaa,aaG];lia
  ·rw[afU,aaf];rfl
  ·rw[iu]
 ·have e:i=n:=by lia
  subst e;exact .inl (aae _,q D j)
theorem qZ{K:PySem.W.Frag}{a:Addr}{xs:List V}{d:L2.St}(g:V->V)(o:My K H a xs)(r:xs.length<sizeLine)
  (l:∀(x:V) (H':Hp) (Q:Bool->Hp->Prop),Q true H'->L (some x::d) H' Q)(p:∀(x:V) (H':Hp) (Q:VK),x∈xs->aL H H'->Q (g x) H'->ta (some x::d) H' Q)
  (q:∀D,H D=none->m D (upd H D (.lst (xs.map g)))):fY (XH K a) d L ta m H:=by
 intro D j;exists λi b f n=>b=xs.length-i/\i<=xs.length/\f=(xs.take i).map g/\n=upd H D (.lst f),(9,aaH _,7,7);rintro i b f n ⟨rfl,s,rfl,rfl⟩;have k:=(au j (.lst ((xs.take i).map g))).seq o;by_cases c:i<xs.length
 ·have h:=aac c;refine .inr ((_,_,k,h),λv t y=>?_);obtain⟨rfl,y⟩:=y;have e:=y _ k;rw[h]at e;cases e;refine l _ _ _ ?_;rw[if_pos rfl];refine p _ _ _ (afL c) (au j _) (aa,1,xs.length-(i+1),6,7,c,1,1)
  ·rw[aaa,aam];lia
  ·rw[agG,h,aaf];rfl
  ·rw[iu]
 ·have e:i=xs.length:=by lia
  subst e;refine .inl ((_,k,aae _),1);have:=q D j;rw[aal (aae _)];exact this
def much:List Str->Nat
 |[]=>0
 |w::b=>w.length+much b
theorem Iz(ws:List Str):∀i,much (ws.take i)<=much ws:=by
 induction ws with
 |nil=>intro i;rw[ahw];exact aae _
 |cons w ws b=>
  intro i;cases i with
  |zero=>exact aaH _
  |succ i=>
   have:=b i;show w.length+much (ws.take i)<=w.length+much ws;lia
theorem yV(ws:List Str)(w:Str):much (ws++[w])=much ws+w.length:=by
 induction ws with
 |nil=>show w.length+0=0+w.length;lia
 |cons v ws b=>
  show v.length+much (ws++[w])=v.length+much ws+w.length;lia
def gb(w:Str):List Str:=(abS w.length).map λi=>beg w (i+1)
theorem qz(ws:List Str)(t:Str):(t=⟨#[]⟩ \/ ∃w∈ws,t∈gb w) ↔ (t=⟨#[]⟩ \/ ∃w∈ws,∃k:Nat,t=beg w k):=by
 constructor
 ·rintro(h|⟨b,e,ht⟩)
  ·exact .inl h
  ·unfold gb at ht;obtain⟨j,_,rfl⟩:=aaz.mp ht;exact .inr (b,e,j+1,7)
 ·rintro(h|⟨b,e,k,rfl⟩)
  ·exact .inl h
  ·rcases agJ (min k b.length)with c|c
   ·refine .inl (dw ?_);rw[bw];rcases agJ k with d|d
    ·rw[d];rfl
    ·have:b.cps.toList=[]:=ahJ.mp (by rw[aag];show b.length=0;lia);rw[this];exact ahw
   ·refine .inr (b,e,1);unfold gb;refine aaz.mpr (min k b.length-1,af5.mpr ⋯,1);rw[show min k b.length-1+1=min k b.length by lia];refine dw ?_;rw[bw,bw];rcases ahG k b.length with d|d
    ·rw[af0 d]
    ·rw[agL d,aal (by rw[aag];exact aae _),aal (by rw[aag];exact d)]
theorem jX:∀ws:List Str,(ws.flatMap gb).length=much ws
 |[]=>rfl
 |w::ws=>by
  rw[ag2,aab,jX ws];show ((abS w.length).map _).length+much ws=w.length+much ws;rw[aaa,aaG]
theorem oJ:∀{l U:List Str},l.Nodup->(∀z∈l,z∈U)->l.length<=U.length
 |[],_,_,_=>aaH _
 |a::l,U,f,h=>by
  have c:=h a aan;have d:=agv.mp f;have q:=oJ (l:=l) (U:=U.erase a) d.2 λz b=>(agZ λe:z=a=>d.1 (e ▸ b)).mpr (h z (aaj _ b));have e:=agK c;have p:=ahk c;rw[aah];lia
inductive zE(ws:List Str)(n:Nat):Prop
 | mk (U:List Str) (_:U.length<=n) (_:⟨#[]⟩∈U) (_:∀w∈ws,∀k,beg w k∈U)
inductive rE(K:PySem.W.Frag)(vs:List V)(H:Hp)(Q:VK)(_e1:XK):Prop
 | mk (p:Addr) (ws:List Str) (_:vs=[.ref p]) (_:My K H p (ws.map V.str)) (_:(∀w∈ws,w.length<=40)) (_:much ws<=90000) (_:zE ws 2048) (_:∀(r:Addr) (ts:List Str) (H':Hp),H r=none->aL H H'->H' r=some (.lst (ts.map V.str))->cI ws ts->ts.length<=2048->Q (.ref r) H')
theorem rM(T:Tx K mg a):bI P w K mg base VR 1 a.abf a.aba ["words"] (rE K):=by
 refine T.abk.F.V2 gP λa1 A M s H vs Q E hr h=>?_;obtain⟨p,c,rfl,Y,L,hm,⟨U,hU,J,I⟩,q⟩:=h;refine(_,(ao (aD 1 gP.nd (bh (aq cg aj)))
  (ao (bK PassesOwn.never rfl (bY (pv 0)) (km (i:=2) gP.nd rfl (ahH rfl)) (aB (bF (dj PySem.F.plainAttrs_list PySem.F.slot_list_extend PySem.F.type_list_extend dC (pv 1) (aq (kE rfl (bU.one (j:=2) rfl (agH rfl) rfl rfl (agH rfl)) (Jk rfl T.Xi (aq aA (aq (aC bj (aF cA rfl T.V0 Tw.bu (VJ 2 aj)) aA) aj))) (λ_ _ _ _=>dN) (λ_ _ _ _=>(aQ vI (pv 1) bz (aR (pv 0))))) aj)))))
  (aB (aN (aF (qp rfl) rfl T.ac0 Tw.nR (aq (dg (tQ rfl) rfl T.afb Tw.Fb (VJ 1 aj)) aj)))))),1)
 refine(sl1,λr n=>?_)
 have O:=au n (.lst [.str ""])
 exists 9,p,7,(_,O.seq Y);refine cG (xs:=c.map V.str) (λi v l=>(∃C,v=[!!!p,!!!r,C])/\aL H l/\l r=some (.lst (((⟨#[]⟩:Str)::(c.take i).flatMap gb).map V.str))) ((none,7),O,aa) ?_ ?_ ?_
 ·rintro i v l _ ⟨_,f,_⟩;exact f.seq Y
 ·rintro i x v l W ⟨⟨C,rfl⟩,f,g⟩;rw[aak]at W;obtain⟨b,Z,rfl⟩:=afS.mp W;have X:=L b (aar Z);have hts:((⟨#[]⟩:Str)::(c.take i).flatMap gb).length=1+much (c.take i):=by
   rw[aah,jX];lia
  have a0:=Iz c i;exists 9,.inl (7,_,My.of g),9,b,7,by rw[sizeLine_eq];lia,4,(1),9,(5,5,6,6);have en:((b.length:Int)+1-1).toNat=b.length:=by lia
  show fY (XJ 1 ((b.length:Int)+1-1).toNat) _ _ _ _ _;rw[en];refine Jg (λi=>.str (beg b (i+1))) (by rw[sizeLine_eq];lia) (λ_ _ _ q=>q) (λj H2 Q hj V1 qq=>(8,9,b,7,by rw[sizeLine_eq];lia,1)) λD hD=>?_
  ·rw[show (1:Int)+(j:Int)=((j+1:Nat):Int) by lia,ux];exact qq
  have N:=au hD (.lst ((abS b.length).map λi=>V.str (beg b (i+1))));have u:((abS b.length).map λi=>V.str (beg b (i+1)))=(gb b).map V.str:=by
   unfold gb;rw[afZ];rfl
  have Wg:(gb b).length=b.length:=by
   unfold gb;rw[aaa,aaG]
  refine(r,D,4,N _ _ g,aa,1,(3,bc (f.trans N) n _,1))
  ·rw[aaa,hts,u,aaa,Wg,sizeLine_eq];lia
  ·rw[aa,u,agG,Z,ags,<-aaf];simp
 ·rintro v l ⟨⟨C,rfl⟩,f,g⟩;rw[aaa,aal (aae _)]at g;have hts:((⟨#[]⟩:Str)::c.flatMap gb).length=1+much c:=by
   rw[aah,jX];lia
  have Z5:=oJ (gm (λi=>((⟨#[]⟩:Str)::c.flatMap gb).getD i ⟨#[]⟩) ((⟨#[]⟩:Str)::c.flatMap gb).length) (U:=U) λz S=>by
   rw[Ef,aat,agz]at S;rcases(qz c z).mp S with e|⟨w,X,k,e⟩
   ·rw[e];exact J
   ·rw[e];exact I w X k
  refine(9,r,9,My.of g,1,λl0 ks R o d G=>(l0,ks,7,by rw[aa,G],λrr y m B up=>?_))
  ·show _+1<4096;lia
  have nd:y.Nodup:=B.nodup_iff.mpr (by rw[d];exact gm _ _);have sA:=(au o R).trans (au m (.lst (y.map V.str)));refine q rr y _ (f.free (au o R |>.free m)) (f.trans sA) aa (u0 up nd,λt=>?_) ?_
  ·rw[B.mem_iff,d,Ef,aat,agz];exact qz c t
  ·rw[B.length_eq,d];lia
theorem gU(xs:List V)(i:Nat):fc xs (some (i:Int)) none=xs.drop i:=by
 unfold fc;rw[HT.pW,HT.iM];rcases ahG i xs.length with c|c
 ·rw[af0 c,aal (by rw[aaq];exact aae _)]
 ·rw[agL c,af6 (aae _),af6 c,ahw]
def lenV:V->V
 |.str t=>.int (t.length:Int)
 |v=>v
def bV(t:Str):Int:=((t.cps.toList.getLastD 97:Nat):Int)-97
def HH:V->V
 |.str t=>.int (bV t)
 |v=>v
def eG(ws:List Str)(t:Str):Int:=if t∈ws then 1 else 0
def Qq(ws:List Str):V->V
 |.str t=>.int (eG ws t)
 |v=>v
theorem cI.low{ws :List Str}(h:cI ws N)(f:∀w∈ws,Wb w){t:Str}(ht:t∈N):Wb t:=by
 rcases(h.mem t).mp ht with e|⟨w,d,k,e⟩
 ·rw[e];exact(aaH _,λc b=>by cases b)
 ·obtain⟨i,g⟩:=f w d;refine(by rw[e,jA];lia,λc b=>g c ?_);rw[e,bw]at b;exact afN b
inductive DN(K:PySem.W.Frag)(C1:Addr)(C2:Addr)(vs:List V)(H:Hp)(Q:VK)(E:XK):Prop
 |mk (p:Addr) (ws:List Str) (_:vs=[.ref p]) (_:My K H p (ws.map V.str)) (_:(∀x∈ws,x.length<=3000)) (_:ws.length<=3000) (_:Taken C1 C2 ws H E (much ws<=90000/\zE ws 2048 /\ ∀(r d l e:Addr) (ts:List Str) (H':Hp),aL H H'->H' r=some (.tup [.ref d,.ref l,.ref e])->H' d=some (.lst ‹(ts.map λt=>(t.length:Int))›)->H' l=some (.lst ‹(ts.drop 1).map bV›)->H' e=some (.lst ‹ts.map (eG ws)›)->cI ws ts->ts.length<=2048->Q (.ref r) H'))
theorem Cp(T:Tx K mg a):bI P w K mg base (Wm P w) 2 a.adV a.adg ["words"] (DN K a.WM a.Xh):=by
 refine T.ad7.F.WQ eO (λvs H Q E h=>?_) (λb5 A b2 s H vs Q E X h=>?_)
 ·obtain⟨p,m,rfl,_⟩:=h;rfl
 obtain⟨p,m,rfl,G,hz,hl,h⟩:=h;refine(_,(ao (bF (cY T.acr (uI T) ∅ X gk rfl (VJ 0 aj)))
  (ao (aD 1 eO.nd (aX T.abk (rM T) X (VJ 0 aj)))
  (ao (eN (i:=2) eO.nd rfl rfl rfl bU.zero (bY (pv 1)) (λ_ _ _ _=>dN) (λ_ _ _ _=>(aF cA rfl T.V0 Tw.bu (VJ 0 aj))))
  (ao (eN (i:=3) eO.nd rfl rfl rfl bU.zero (bY (aQ bx (pv 1) (aR aA) bz)) (λ_ _ _ _=>dN) (λ_ _ _ _=>(show PE _ _ (tBM K "str" HF _ _)from (dj PySem.F.plainAttrs_str PySem.F.slot_str_index PySem.F.type_str_index Jy (aY (v:=.str "abcdefghijklmnopqrstuvwxyz") rfl T.acv (_,7)) (aq (bN vU (pv 0) (oX jQ aA)) aj)))))
  (ao (qW (i:=4) eO.nd rfl (ahH rfl) p8)
  (ao (bK fO rfl (bY (pv 0)) (aM 5 eO.nd) (aB (qJ (af9 (agl (by decide:1<=64) _) X.units) (pv 4) (pv 5) cZ rfl)))
  (ao (eN (i:=6) eO.nd rfl rfl rfl (bU.one (j:=4) rfl (agH rfl) rfl rfl (agH rfl)) (bY (pv 1)) (λ_ _ _ _=>dN) (λ_ _ _ _=>(Le (Aj (Lw (af9 (agl (by decide:1<=64) _) X.units) (pv 0) (pv 1))) aA aA)))
  (aB (aN (dY (VJ 2 (VJ 3 (VJ 6 aj))))))))))))),1)
 rcases h with ⟨h1,q⟩|⟨h1,h2,q⟩|⟨Y,nd,hm,O,q⟩
 ·exact(9,p,m,7,G,hz,6,.inl (h1,q))
 ·exact(9,p,m,7,G,hz,6,.inr (.inl (h1,h2,q)))
 refine(9,p,m,7,G,hz,6,.inr (.inr (Y,nd,λH1 Wd=>?_)));refine(9,p,m,7,Wd.seq G,λw hw=>(Y w hw).1,hm,O,λU b Z b4 V1 o J a1=>?_);have s2:=Wd.trans V1;have M:(b.map V.str).length=b.length:=aaa ..;exists 9,U,7,(_,My.of o);refine qZ lenV (My.of o) (by rw[sizeLine_eq,M];lia) (λ_ _ _ q=>q) (λx y Q D C n=>?_) λd hd=>?_
 ·obtain⟨t,ht,rfl⟩:=aaz.mp D;have:=(J.low Y ht).1;exact(9,t,7,by rw[sizeLine_eq];lia,n)
 have t3:=au hd (.lst ((b.map V.str).map lenV));have I:upd Z d (.lst ((b.map V.str).map lenV)) d=some (.lst ‹(b.map λt=>(t.length:Int))›):=by
  rw[aa,afZ,afZ];rfl
 replace o:=t3 _ _ o
 have s3:=s2.trans t3;generalize upd Z d (.lst ((b.map V.str).map lenV))=H3 at *;refine(8,U,9,My.of o,λc hc=>(c,7,(_,My.of aa),1));have t4:=au hc (.lst (fc (b.map V.str) (some 1) none));have xc:upd H3 c (.lst (fc (b.map V.str) (some 1) none)) c=some (.lst ((b.drop 1).map V.str)):=by
  rw[aa,show (1:Int)=((1:Nat):Int)from rfl,gU,agX]
 replace o:=t4 _ _ o
 replace I:=t4 _ _ I
 have s4:=s3.trans t4;rw[show fc (b.map V.str) (some 1) none=(b.drop 1).map V.str by rw[show (1:Int)=((1:Nat):Int)from rfl,gU,agX]]at *;generalize upd H3 c (.lst ((b.drop 1).map V.str))=H4 at *;refine qZ HH (My.of xc) (by rw[sizeLine_eq,aaa,aaq];lia) (λ_ _ _ q=>q) (λx y Q D C n=>?_) λl a6=>?_
 ·obtain⟨t,ht,rfl⟩:=aaz.mp D;have a0:=afO ht;obtain⟨b3,N⟩:=J.low Y a0;have a3:t.cps.toList≠[]:=λe=>by
   obtain⟨i,hi,ei⟩:=agj ht;rw[ag4]at ei;have a4:1+i<b.length:=by
    rw[aaq]at hi;lia
   have h0:=J.zero;obtain⟨b0,b1⟩:=aad.mp h0;have:=afG.mp J.up 0 (1+i) b0 a4 ⋯;rw[b1,ei]at this;unfold Wr at this;rw[e]at this;exact absurd this (agS _)
  obtain⟨rr,u,Yi⟩:∃rr u,t.cps.toList=rr++[u]:=(_,_,(agu a3).symm);have a5:=N u (by rw[Yi];exact aap _ (afJ _));have a9:Ws t.cps.toList (-1)=some u:=by
   rw[Yi];exact mX rr u
  have a8:=(sG a5).2;have el:bV t=((u-97:Nat):Int):=by
   unfold bV;rw[Yi,ahx];lia
  exists 7,8,t,-1,u,7,7,by rw[sizeLine_eq];lia,a9,letters,⟨#[u]⟩,u-97,[],7,7,a8;rw[<-el];exact n
 have t5:=au a6 (.lst (((b.drop 1).map V.str).map HH));have xl:upd H4 l (.lst (((b.drop 1).map V.str).map HH)) l=some (.lst ‹(b.drop 1).map bV›):=by
  rw[aa,afZ,afZ];rfl
 replace o:=t5 _ _ o
 replace I:=t5 _ _ I
 have s5:=s4.trans t5;generalize upd H4 l (.lst (((b.drop 1).map V.str).map HH))=H5 at *;intro S Z8;have t6:=au Z8 (.dK []);have s6:=s5.trans t6;exists 9,p,7,(_,s6.seq G);refine cG (xs:=m.map V.str) (λi R y=>(∃k5,R=[!!!p,!!!U,!!!d,!!!l,!!!S,k5,none])/\aL H5 y /\ ∃f:List (Key×V),y S=some (.dK f)/\f.length<=i /\ ∀t:Str,(gq f (Sum.inr t)).isSome=decide (t∈m.take i)) ((none,7),t6,[],aa,aae _,λt=>rfl) ?_ ?_ ?_
 ·rintro i R y _ ⟨_,C,_⟩;exact(s5.trans C).seq G
 ·rintro i x R y D ⟨⟨k5,rfl⟩,C,f,xw,a7,B⟩;rw[aak]at D;obtain⟨wd,WR,rfl⟩:=afS.mp D;have hi:=(aad.mp WR).1;exists 8,S,9,.inl (f,Sum.inr wd,xw,7,by rw[sizeLine_eq];lia,7);refine(3,bc C Z8 _,_,aa,1,λt=>?_)
  ·have:=qb f (Sum.inr wd) (.bl true);lia
  ·rw[qx,agG,WR];by_cases e:t=wd
   ·subst e;rw[if_pos rfl];exact(decide_eq_true (aap _ (afJ _))).symm
   ·rw[if_neg (λz=>e (Sum.inr.inj z)),B t];refine decide_eq_decide.mpr (λz=>afQ _ z,λz=>?_);rcases aas.mp z with z|z
    ·exact z
    ·exact absurd (aao.mp z) e
 ·rintro R y ⟨⟨k5,rfl⟩,C,f,xw,a7,B⟩;rw[aaa,aal (aae _)]at B;have L:=C _ _ o;exists 9,U,7,(_,My.of L);refine qZ (Qq m) (My.of L) (by rw[sizeLine_eq,M];lia) (λ_ _ _ q=>q) (λx Z Q D V1 n=>?_) λe he=>?_
  ·obtain⟨t,ht,rfl⟩:=aaz.mp D;have g:=su.k (k:=Sum.inr t) (V1 _ _ xw);exists 8,S,9,g,9;rw[B t];have n:Q (.int (eG m t)) Z:=n;unfold eG at n;by_cases c:t∈m
   ·rw[decide_eq_true c];rw[if_pos c]at n;exact fP n
   ·rw[decide_eq_false c];rw[if_neg c]at n;exact fM n
  have t7:=au he (.lst ((b.map V.str).map (Qq m)));have xe:upd y e (.lst ((b.map V.str).map (Qq m))) e=some (.lst ‹b.map (eG m)›):=by
   rw[aa,afZ,afZ];rfl
  have s7:=C.trans t7;generalize upd y e (.lst ((b.map V.str).map (Qq m)))=H7 at *;refine(8,9,sl3,λr a2=>?_);have W:=au a2 (.tup [.ref d,.ref l,.ref e]);exact q r d l e b _ ((s5.trans s7).trans W) aa (W _ _ (s7 _ _ I)) (W _ _ (s7 _ _ xl)) (W _ _ xe) J a1
theorem oE{t:Str}(h:Wb t):0<=bV t/\bV t<=25:=by
 unfold bV;cases e:t.cps.toList with
 |nil=>decide
 |cons a r=>
  have c:t.cps.toList≠[]:=λz=>by rw[e]at z;cases z
  obtain⟨d,b,f⟩:∃d b,t.cps.toList=d++[b]:=(_,_,(agu c).symm);have g:=h.2 b (by rw[f];exact aap _ (afJ _));rw[<-e,f,ahx];lia
theorem ou(ws c:List Str):aO (c.map (eG ws)):=λb d=>by
 obtain⟨t,_,rfl⟩:=aaz.mp d;unfold eG;split
 ·exact .inr rfl
 ·exact .inl rfl
inductive zN(vs:List V)(H:Hp)(Q:VK)(_e1:XK):Prop
 | mk (b n:Int) (_:vs=[.int b,.int n]) (_:0<=n) (_:n<=100) (_:∀r,H r=none->Q (.ref r) (upd H r (.lst ‹aZ b n.toNat›)))
theorem lE(T:Tx K mg a):bI P w K mg base VR 1 a.ac7 a.acB ["number","many"] zN:=by
 refine T.aaV.F.V2 gK λg A f s H j Q E l h=>?_;obtain⟨b,n,rfl,p,o,q⟩:=h;refine(_,(ao (aD 2 gK.nd (bh aj))
  (ao (aD 3 gK.nd (pv 0))
  (ao (bK PassesOwn.never rfl (iW rfl T.Xi (VJ 1 aj)) (aM 4 gK.nd) (ao (bF (dj PySem.F.plainAttrs_list PySem.F.slot_list_append PySem.F.type_list_append bW (pv 2) (aq (aC bO (pv 3) aA) aj)))
  (aB (aD 3 gK.nd (aC iy (pv 3) aA)))))
  (aB (aN (pv 2)))))),1)
 refine(sl0,λr e=>?_);refine(8,n,7,6,6,1);refine nY (n:=n.toNat) (λi c d=>(∃k,c=[!!!!b,!!!!n,!!!r,some (.int (b / 256^i)),k])/\d=upd H r (.lst ‹aZ b i›)) ?_ ?_ ?_
 ·refine((none,1),7);rw[ahS,ahD];rfl
 ·rintro i c d m ⟨⟨k,rfl⟩,rfl⟩;exists 9,.inl (7,_,My.of aa),9,4,(by show (0:Int)<256;decide),r,4,aa,?_
  ·rw[aaa,aW];exact small ⋯
  ·exists 9,4,(5,5),(some (.int (0+(i:Int))),1)
   ·rw[<-CQ];rfl
   ·rw[iu,yH,aaf];rfl
 ·rintro c d ⟨⟨k,rfl⟩,rfl⟩;exact(9,q r e)
inductive zZ(K:PySem.W.Frag)(vs:List V)(H:Hp)(Q:VK)(_e1:XK):Prop
 | mk (p:Addr) (ns:List Int) (_:vs=[.ref p]) (_:My K H p !!ns) (_:Q (.int (gJ ns)) H)
theorem Ah(T:Tx K mg a):bI P w K mg base VR 1 a.ac8 a.acC ["octets"] (zZ K):=by
 refine T.adt.F.V2 iU λt A g s H u Q E v h=>?_;obtain⟨p,b,rfl,l,q⟩:=h;refine(_,(ao (aD 1 iU.nd aA)
  (ao (bK PassesOwn.never rfl (Gq rfl T.acx (VJ 0 aj) Tw.mH) (aM 2 iU.nd) (aB (aD 1 iU.nd (aC bj (aC cH aA (pv 1)) (pv 2)))))
  (aB (aN (pv 1))))),1)
 exists 9,p,9,l;refine Aa (xs:=b.map V.int) (λi d f=>(∃k,d=[!!!p,some (.int (gJ (b.drop (b.length-i)))),k])/\f=H) ?_ ?_ ?_ ?_
 ·refine((none,1),7);rw[ahF,ahj];rfl
 ·rintro i d f _ ⟨_,rfl⟩;exact l
 ·rintro i x d f n m ⟨⟨k,rfl⟩,rfl⟩;obtain⟨c,j,rfl⟩:=int_at m;rw[aaa]at n j;refine(9,4,.inl (5,5),9,4,(!!!!c,1),7);have e:b.drop (b.length-(i+1))=c::b.drop (b.length-i):=by
   have r:b.length-(i+1)=b.length-1-i:=by lia
   have o:b.length-i=b.length-1-i+1:=by lia
   rw[r,o,afT ⋯];congr 1;have:=aad.mp j;exact this.2
  rw[e];rfl
 ·rintro d f ⟨⟨k,rfl⟩,rfl⟩;rw[aaa,ag8,agE];exact(9,q)
inductive qF(K:PySem.W.Frag)(vs:List V)(H:Hp)(Q:VK)(_e1:XK):Prop
 |mk (p:Addr) (ns:List Int) (m:Nat) (_:vs=[.ref p,.int (m:Int)]) (_:(My K H p ‹ns›\/H p=some (.tup !!ns))) (_:ns.length<=5000) (_:m<=100) (_:∀r H',H r=none->aL H H'->H' r=some (.lst ‹(ns.flatMap λx=>aZ x m)›)->Q (.ref r) H')
theorem dh(T:Tx K mg a):bI P w K mg base VR 2 a.abb a.aaS ["numbers","size"] (qF K):=by
 refine T.Y9.F.V2 gM λC A y s H D Q E z h=>?_;obtain⟨p,l,m,rfl,n,I,G,q⟩:=h;refine(_,(ao (aD 2 gM.nd (bh aj))
  (ao (bK PassesOwn.never rfl (TV (pv 0)) (aM 3 gM.nd) (aB (bF (dj PySem.F.plainAttrs_list PySem.F.slot_list_extend PySem.F.type_list_extend dC (pv 2) (aq (aX T.aaV (lE T) z (VJ 3 (VJ 1 aj))) aj)))))
  (aB (aN (pv 2))))),1)
 refine(sl0,λr d=>?_);rcases n with n|n
 ·refine(9,p,7,.inl ((_,(au d _).seq n),1));refine cG (xs:=l.map V.int) (λi j e=>(∃k,j=[!!!p,some (.int (m:Int)),!!!r,k])/\aL H e/\e r=some (.lst ‹((l.take i).flatMap λx=>aZ x m)›)) ((none,7),au d _,aa) ?_ ?_ ?_
  ·rintro i j e _ ⟨_,f,_⟩;exact f.seq n
  ·rintro i x j e v ⟨⟨k,rfl⟩,f,b⟩;obtain⟨c,t,rfl⟩:=int_at v;have B:=(aad.mp t).1;refine(9,.inl (7,_,My.of b),8,c,(m:Int),7,6,6,λo g=>?_);have u:r≠o:=aH b g;rw[aav]at *;exists r,o,4,by rw[aK u];exact b,aa,1,3,bc (f.trans (au g _)) d _
   ·rw[aaa,aaa,bC,aam,aW,sizeLine_eq];have:m*min i l.length<=100*5000:=ahz ⋯ ⋯;lia
   ·rw[aa,aed,t];show _=some (HO.lst ‹((l.take i++[c]).flatMap λx=>aZ x m)›);rw[ags,aaf];simp
  ·rintro j e ⟨⟨k,rfl⟩,f,b⟩;rw[aaa,afK]at b;exact(9,q r e d f b)
 ·refine(9,p,7,.inr ((_,VM.of (au d _ _ _ n)),1));refine HJ (xs:=l.map V.int) (λi j e=>(∃k,j=[!!!p,some (.int (m:Int)),!!!r,k])/\aL H e/\e r=some (.lst ‹((l.take i).flatMap λx=>aZ x m)›)) ((none,7),au d _,aa) ?_ ?_ ?_
  ·rintro i j e _ ⟨_,f,_⟩;exact VM.of (f _ _ n)
  ·rintro i x j e v ⟨⟨k,rfl⟩,f,b⟩;obtain⟨c,t,rfl⟩:=int_at v;have B:=(aad.mp t).1;refine(9,.inl (7,_,My.of b),8,c,(m:Int),7,6,6,λo g=>?_);have u:r≠o:=aH b g;rw[aav]at *;exists r,o,4,by rw[aK u];exact b,aa,1,3,bc (f.trans (au g _)) d _
   ·rw[aaa,aaa,bC,aam,aW,sizeLine_eq];have:m*min i l.length<=100*5000:=ahz ⋯ ⋯;lia
   ·rw[aa,aed,t];show _=some (HO.lst ‹((l.take i++[c]).flatMap λx=>aZ x m)›);rw[ags,aaf];simp
  ·rintro j e ⟨⟨k,rfl⟩,f,b⟩;rw[aaa,afK]at b;exact(9,q r e d f b)
inductive wO(K:PySem.W.Frag)(vs:List V)(H:Hp)(Q:VK)(_e1:XK):Prop
 |mk (p t:Addr) (bs ah:List Int) (_:vs=[.ref p,.ref t]) (_:My K H p !!bs) (_:H t=some (.tup !!ah)) (_:bs.length<=5000) (_:ah.length<=5000) (_:∀r H',H r=none->aL H H'->H' r=some (.lst ‹(bs.flatMap (λx=>aZ x 4)++ah.flatMap (λx=>aZ x 2))›)->Q (.ref r) H')
theorem je(T:Tx K mg a):bI P w K mg base VR 3 a.aca a.abI ["blocks","ahead"] (wO K):=by
 refine T.aaD.F.V2 wN λB A g s H C Q E i h=>?_;obtain⟨p,t,u,x,rfl,o,n,f,e,q⟩:=h;exists _,(aB (aN (aC bB (aX T.Y9 (dh T) i (VJ 0 (aq (aY (v:=.int 4) rfl T.aaM (_,7)) aj))) (aX T.Y9 (dh T) i (VJ 1 (aq (aY (v:=.int 2) rfl T.Yg (_,7)) aj))))));refine(9,p,u,(4),7,.inl o,f,5,λm G z c k=>?_);refine(9,t,x,(2),7,.inr (c _ _ n),e,5,λl D y d j=>?_);refine(m,l,4,d _ _ k,j,1,λr b=>?_)
 ·rw[aaa,aaa,bC,bC,sizeLine_eq];lia
 refine q r _ ((c.trans d).free b) (c.trans (d.trans (au b _))) ?_;rw[aa,aaf]
inductive wZ(K:PySem.W.Frag)(vs:List V)(H:Hp)(Q:VK)(_e1:XK):Prop
 | mk (p:Addr) (ns:List Int) (_:vs=[.ref p]) (_:My K H p !!ns) (_:ns.length<=4096) (_:aO ns) (_:∀r H',H r=none->aL H H'->H' r=some (.lst ‹jL ns›)->Q (.ref r) H')
theorem jJ(T:Tx K mg a):bI P w K mg base VR 6 a.acK a.acb ["bits"] (wZ K):=by
 refine T.aaJ.F.V2 oU λX A l s H Y Q E g h=>?_;obtain⟨p,d,rfl,u,L,M,q⟩:=h;refine(_,(ao (aD 1 oU.nd (aX T.abA (nG T) g (VJ 0 aj)))
  (aB (aN (aC bB (aC bB (bh (aq (aY (v:=.int 1) rfl T.afB (_,7)) aj)) (aX T.aaV (lE T) g (aq (aF aG rfl T.V0 Tw.bu (VJ 0 aj)) (aq (aY (v:=.int 2) rfl T.Yg (_,7)) aj)))) (aX T.aaD (je T) g (aq (bN cD (pv 1) aA) (aq (bN cD (bN cD (pv 1) aA) aA) aj))))))),1)
 have Z:many d.length<=128:=by
  unfold many;lia
 refine(9,p,d,7,u,L,M,λkr b t S H1 W y x e N=>?_);have R:=e.tup;have O:=e.Ze;refine(sl1,λJ k=>?_);have o:=au k (.lst [.int 1]);refine(9,p,9,.inl ((y.trans o).seq u),_,9,6,5,λI j=>?_);have U:‹d›.length=d.length:=aaa ..;rw[U,show ((2:Int)).toNat=2 from rfl];have n:=au j (.lst ‹(aZ (d.length:Int) 2)›);refine(J,I,4,n _ _ aa,aa,1,λG i=>?_)
 ·rw[aaa,aW,sizeLine_eq];show 1+2<=_;decide
 have C:=au i (.lst ([.int 1]++(aZ (d.length:Int) 2).map V.int));have c:=o.trans (n.trans C);refine(9,kr,_,4,VM.of (c _ _ x),7,9,kr,_,4,VM.of (c _ _ x),7,t,_,4,VM.of (c _ _ R),7,b,S,bQ d,We d (many d.length),7,My.of (c _ _ N),c _ _ O,1,1,λD H4 Yh z B=>?_)
 ·rw[bJ];lia
 ·rw[dm];lia
 refine(G,D,4,z _ _ aa,B,1,λr f=>?_)
 ·rw[aab,aaa,aaa,aW,aab,bC,bC,bJ,dm,sizeLine_eq];show 1+2+_<=_;lia
 have m:=y.trans (c.trans z);refine q r _ (m.free f) (m.trans (au f _)) ?_;rw[aa];unfold jL;rw[aaf (l₁:=[1]++_),aaf];rfl
inductive uZ(vs:List V)(H:Hp)(Q:VK)(_e1:XK):Prop
 | mk (p:Addr) (ds:List Int) (_:vs=[.ref p]) (_:H p=some (.lst !!ds)) (_:ds.length<=2048) (_:cB ds) (_:∀r H' lows,H r=none->aL H H'->v7 (brk ds 0) lows->H' r=some (.lst ‹dH (brk ds 0) lows›)->Q (.ref r) H')
theorem jn(T:Tx K mg a):bI P w K mg base VR 8 a.acd a.abJ ["depths"] uZ:=by
 refine T.aaE.F.V2 cX λa6 A I s H vs Q E l h=>?_;obtain⟨p,d,rfl,hp,hl,R,q⟩:=h;refine(_,(ao (aD 1 cX.nd (aX T.ady (Aq T) l (VJ 0 aj)))
  (ao (aD 2 cX.nd (bN cD (pv 1) aA))
  (ao (aD 3 cX.nd (bN cD (pv 1) aA))
  (ao (aD 4 cX.nd (aC iy (aF aG rfl T.V0 Tw.bu (aq (bN cD (pv 2) aA) aj)) aA))
  (ao (aD 5 cX.nd (aQ S5 (bN cD (pv 2) aA) (aR (pv 4)) (aR (aC bj (pv 4) (aF aG rfl T.V0 Tw.bu (VJ 3 aj))))))
  (ao (aD 6 cX.nd (aX T.aaV (lE T) l (aq (bN cD (pv 2) aA) (aq (aY (v:=.int 2) rfl T.Yg (_,7)) aj))))
  (aB (aN (aC bB (aC bB (aC bB (bh (aq (aY (v:=.int 2) rfl T.aft (_,7)) aj)) (pv 6)) (aX T.aaD (je T) l (VJ 3 (aq (bN cD (pv 2) aA) aj)))) (aX T.Y9 (dh T) l (VJ 5 (aq (aY (v:=.int 2) rfl T.Yg (_,7)) aj)))))))))))),1)
 have Wg:=iQ R;have a2:=eU d 0;have hm:many (brk d 0).length<=128:=by
  unfold many;lia
 refine(9,p,d,7,hp,hl,R,λkr t ah O W b S j Z a3 Wd J c=>?_);have y:=c.low.len;have a0:b.length<=S:=by
  obtain⟨_,_,z,_⟩:=c.sz;exact z
 have a5:=c.sz.pos;have YK:=c.heap.len;have a4:=c.sz.le ⋯;have i:=c.tab.tup;exists 9,kr,_,4,VM.of J,7;exists 9,kr,_,4,VM.of J,7;exists 9,t,_,4,VM.of i,7,O,9,.inr (VM.of c.nds),4,(5,5);have U:(j.length:Int) / 2=(S:Int):=by lia
 have G:‹bQ (brk d 0)›.length=b.length:=by
  rw[aaa,bJ,y]
 refine(9,t,_,4,VM.of i,7,8,8,W,9,.inl (My.of c.bls),4,9,O,9,VM.of c.nds,1,λk u=>?_)
 ·rintro⟨z,_⟩;rw[U,HT.iM]at z;lia
 have ec:fc j (some ((j.length:Int) / 2)) (some ((j.length:Int) / 2+(‹bQ (brk d 0)›.length:Int)))=b.map V.int:=by
  rw[U,G,show (S:Int)+(b.length:Int)=((S+b.length:Nat):Int)from by lia,Oh ⋯ ⋯,agf,Jh c.sz c.heap]
 rw[ec];have n:=au u (.tup !!b);have o:upd Z k (.tup !!b) k=some (.tup !!b):=aa;generalize upd Z k (.tup !!b)=H2 at *;refine(9,t,_,4,VM.of (n _ _ i),7,_,9,6,5,λl2 C=>?_);rw[show ((2:Int)).toNat=2 from rfl];have N:=au C (.lst ‹(aZ ((brk d 0).length:Int) 2)›);refine(sl1,λl1 D=>?_);have m:=au D (.lst [.int 2]);refine(9,l1,l2,4,aa,m _ _ aa,1,λl3 B=>?_)
 ·rw[aaa,aW,sizeLine_eq];show 1+2<=_;decide
 have M:=au B (.lst ([.int 2]++(aZ ((brk d 0).length:Int) 2).map V.int));have e:=n.trans (N.trans (m.trans M));refine(8,t,_,4,VM.of (e _ _ i),7,W,ah,bQ (brk d 0),We (brk d 0) (many (brk d 0).length),7,My.of (e _ _ c.bls),e _ _ c.tab.Ze,1,1,λl4 H4 Yh Y x4=>?_)
 ·rw[bJ];lia
 ·rw[dm];lia
 refine(l3,l4,4,Y _ _ aa,x4,1,λl5 Xo=>?_)
 ·rw[aab,aaa,aaa,aW,aab,bC,bC,bJ,dm,sizeLine_eq];show 1+2+_<=_;lia
 have s5:=au Xo (.lst ([.int 2]++(aZ ((brk d 0).length:Int) 2).map V.int++((bQ (brk d 0)).flatMap (λx=>aZ x 4)++(We (brk d 0) (many (brk d 0).length)).flatMap (λx=>aZ x 2)).map V.int));have f:=N.trans (m.trans (M.trans (Y.trans s5)));refine(9,k,b,(2),7,.inr (f _ _ o),6,5,λl6 H6 a1 X x6=>?_);refine(l5,l6,4,X _ _ aa,x6,1,λr g=>?_)
 ·rw[aab,aab,aaa,aaa,aaa,aW,aab,bC,bC,bC,bJ,dm,sizeLine_eq];show 1+2+_+_<=_;lia
 have L:=Wd.trans (n.trans (f.trans X));refine q r _ b (L.free g) (L.trans (au g _)) c.low ?_;rw[aa];unfold dH;rw[aaf (l₁:=[2]++_++_),aaf (l₁:=[2]++_),aaf];rfl
theorem yC:∀{l g:List Int},l.Pairwise (· < ·)->g.Pairwise (· < ·)->(∀z,z∈l ↔ z∈g)->l=g
 |[],[],_,_,_=>rfl
 |[],b::j,_,_,h=>absurd ((h b).mpr aan) agA
 |a::r,[],_,_,h=>absurd ((h a).mp aan) agA
 |a::r,b::j,p,k,h=>by
  have f:=ago.mp p;have d:=ago.mp k;have e:a=b:=by
   rcases aat.mp ((h a).mp aan)with e|e
   ·exact e
   ·rcases aat.mp ((h b).mpr aan)with i|i
    ·exact i.symm
    ·have:=d.1 a e;have:=f.1 b i;lia
  subst e;rw[yC f.2 d.2 λz=>?_];constructor
  ·intro c;rcases aat.mp ((h z).mp (aaj _ c))with e|e
   ·have:=f.1 z c;lia
   ·exact e
  ·intro c;rcases aat.mp ((h z).mpr (aaj _ c))with e|e
   ·have:=d.1 z c;lia
   ·exact e
theorem Kinds.uniq{ns ms :List Int}(h:Kinds ns ms)(h':Kinds ns c):ms=c:=yC h.up h'.up λz=>(h.mem z).trans (h'.mem z).symm
theorem Ho{n h':Nat}(a:iH n (2^d))(b:iH n (2^h')):d=h':=(aiY (a:=2) ∅).mp (a.uniq b)
theorem Kept.same{H':Hp}{r t b k c:Addr}{ns ms:List Int}{ls:List Addr}(x:Kept H r t b k c ns ms d ls)(s:aL H H'):Kept H' r t b k c ns ms d ls:=
 (s _ _ x.r,s _ _ x.t,s _ _ x.k,s _ _ x.c,x.ls.to λb f e=>s _ _ e,s _ _ x.b,x.kd,x.sz,x.h12)
theorem Kept.upd{H:Hp}{r t b k c y:Addr}{ns ms:List Int}{h:Nat}{ls:List Addr}{l:List V}{o:HO}(x:Kept H r t b k c ns ms h ls)(j:H y=some (.lst l))(i:b≠y):Kept (upd H y o) r t b k c ns ms h ls:=by
 have f:∀d g,H d=some (.tup g)->L2.upd H y o d=some (.tup g):=λd g e=>by
  rw[aK λz=>?_]
  ·exact e
  ·rw[z,j]at e;cases e
 exact(f _ _ x.r,f _ _ x.t,f _ _ x.k,f _ _ x.c,x.ls.to f,by rw[aK i];exact x.b,x.kd,x.sz,x.h12)
theorem J4{K:PySem.W.Frag}{a:Addr}{ns:List Int}{f:L2.St}(g:Int->Int)(o:H a=some (.tup !!ns))(r:ns.length<sizeLine)
  (k:∀(z:Int) (H':Hp) (Q:Bool->Hp->Prop),Q true H'->L (some (.int z)::f) H' Q)(p:∀(z:Int) (H':Hp) (Q:VK),z∈ns->aL H H'->Q (.int (g z)) H'->ta (some (.int z)::f) H' Q)
  (q:∀D,H D=none->m D (upd H D (.lst ‹ns.map g›))):fY (Yz K a) f L ta m H:=by
 intro D j;exists λi b h n=>b=ns.length-i/\i<=ns.length/\h=((ns.take i).map g).map V.int/\n=upd H D (.lst h),(9,aaH _,7,7);rintro i b h n ⟨rfl,s,rfl,rfl⟩;have d:VM K (upd H D (.lst ‹(ns.take i).map g›)) a ‹ns›:=VM.of (au j _ _ _ o);by_cases c:i<ns.length
 ·have l:‹ns›[i]?=some (.int ns[i]):=by
   rw[aak,aac c];rfl
  refine .inr ((_,_,d,l),λv t y=>?_);obtain⟨rfl,y⟩:=y;have e:=y _ d;rw[l]at e;cases e;refine k _ _ _ ?_;rw[if_pos rfl];refine p _ _ _ (afL c) (au j _) (aa,1,ns.length-(i+1),6,7,c,1,1)
  ·rw[aaa,aaa,aam];lia
  ·rw[aed,aac c,aaf,aaf];rfl
  ·rw[iu]
 ·have e:i=ns.length:=by lia
  subst e;rw[afK];rw[afK]at d;exact .inl ((_,d,by rw[aaa];exact aae _),q D j)
def W2(n:Nat)(bs:List Int):List Int:=(bQ bs).flatMap (λx=>aZ x 4)++(We bs (many n)).flatMap (λx=>aZ x 2)
def Wh(ns ms:List Int)(h:Nat):List Int:=[3]++[(ns.length:Int),(ms.length:Int)].flatMap (λx=>aZ x 2)++(ms.map λz=>z+10^60).flatMap (λx=>aZ x 26)++(V3 h (rks ms ns)).flatMap (W2 ns.length)
theorem Ac{n:Nat}{bs:List Int}(h:bs.length=n):(W2 n bs).length=4*many n+2*(many n+1):=by
 unfold W2;rw[aab,bC,bC,bJ,dm,h]
theorem qD{n:Nat}:∀{L:List (List Int)},(∀bs∈L,bs.length=n)->(L.flatMap (W2 n)).length=(4*many n+2*(many n+1))*L.length
 |[],_=>rfl
 |b::L,h=>by
  rw[ag2,aab,Ac (h b aan),qD λbs c=>h bs (aaj _ c),aah];generalize 4*many n+2*(many n+1)=S;rw[aht,ahE]
theorem QS{ns ms:List Int}(i:ns.length<=4096)(j:ms.length<=4096)(b:d<=12):1<=(Wh ns ms d).length/\(Wh ns ms d).length<=200000:=by
 unfold Wh;have c:((V3 d (rks ms ns)).flatMap (W2 ns.length)).length=(4*many ns.length+2*(many ns.length+1))*d:=by
  rw[qD λf e=>?_,fH];rw[(kj d _ f e).2];exact aaa ..
 rw[aab,aab,aab,bC,bC,c,aaa];have g:many ns.length<=128:=by unfold many;lia
 have:=ahz (show 4*many ns.length+2*(many ns.length+1)<=800 by lia) b;show 1<=1+2*2+_+_/\1+2*2+_+_<=_;lia
theorem Hw{m:Nat}:∀{L:List (List Int)} {i:Nat}{bs:List Int},(∀x∈L,(bQ x).length=m)->L[i]?=some bs->(((L.map bQ).flatten).drop (i*m)).take m=bQ bs
 |[],i,bs,_,h=>by cases h
 |x::L,0,bs,b,h=>by
  cases h;rw[ajs,agE,aax,agt,ahU (by rw[b x aan];exact aae _),aal (by rw[b x aan];exact aae _)]
 |x::L,i+1,bs,b,h=>by
  have c:=b x aan;rw[aax,agt,List.drop_append,af6 (by rw[c,ah7];lia),ah0,c,show (i+1)*m-m=i*m by rw[ah7];lia];exact Hw (λy d=>b y (aaj _ d)) h
inductive ue(K:PySem.W.Frag)(C1:Addr)(C2:Addr)(vs:List V)(H:Hp)(Q:VK)(E:XK):Prop
 | mk (p:Addr) (ns:List Int) (_:vs=[.ref p]) (_:My K H p !!ns) (_:((ns.length<=4096/\(∃U:List Int,U.length<=4000 /\ ∀z∈ns,z∈U)/\Xj ns /\ ∀(r:Addr) (ms:List Int) (h:Nat) (H':Hp),H r=none->aL H H'->Kinds ns ms->iH ms.length (2^h)->H' r=some (.lst ‹Wh ns ms h›)->Q (.ref r) H')\/(4096<ns.length/\E (.ref C1) none H)\/(ns.length<=4096 /\ ¬Xj ns/\E (.ref C2) none H)))
theorem fX(T:Tx K mg a):bI P w K mg base (Wm P w) 7 a.abK a.abg ["signs"] (ue K a.WT a.Xg):=by
 refine T.ZP.F.WQ cC (λvs H Q E h=>?_) (λc0 A a9 s H vs Q E hr h=>?_)
 ·obtain⟨p,d,rfl,_⟩:=h;rfl
 obtain⟨p,d,rfl,hS,h⟩:=h;refine(_,(ao (aD 1 cC.nd (cY T.acV (xQ T) ∅ hr gk rfl (VJ 0 aj)))
  (ao (aD 2 cC.nd (bN cD (bN cD (pv 1) aA) aA))
  (ao (aD 3 cC.nd (aC bB (bh (aq (aY (v:=.int 3) rfl T.afc (_,7)) aj)) (aX T.Y9 (dh T) hr (aq (bh (aq (aF aG rfl T.V0 Tw.bu (VJ 0 aj)) (aq (aF aG rfl T.V0 Tw.bu (VJ 2 aj)) aj))) (aq (aY (v:=.int 2) rfl T.Yg (_,7)) aj)))))
  (ao (bF (dj PySem.F.plainAttrs_list PySem.F.slot_list_extend PySem.F.type_list_extend dC (pv 3) (aq (aX T.Y9 (dh T) hr (aq (kE rfl bU.zero (NQ (pv 2)) (λ_ _ _ _=>dN) (λ_ _ _ _=>(aC bj (pv 0) (aC vh aA aA)))) (aq (aY (v:=.int 26) rfl T.aaY (_,7)) aj))) aj)))
  (ao (aD 4 cC.nd aA)
  (ao (bK fO rfl (NQ (bN cD (bN cD (pv 1) aA) aA)) (aM 5 cC.nd) (ao (aD 6 cC.nd (aC cP (aC bj (pv 4) (aF aG rfl T.V0 Tw.bu (VJ 5 aj))) aA))
  (ao (bF (dj PySem.F.plainAttrs_list PySem.F.slot_list_extend PySem.F.type_list_extend dC (pv 3) (aq (aX T.aaD (je T) hr (aq (aQ bx (bN cD (pv 1) aA) (aR (pv 4)) (aR (pv 6))) (VJ 5 aj))) aj)))
  (aB (aD 4 cC.nd (pv 6))))))
  (aB (aN (pv 3))))))))),1)
 rcases h with ⟨hl,⟨U,hU,hc⟩,hi,q⟩|h|h
 rotate_left
 ·exact(9,p,d,7,hS,.inr (.inl h))
 ·exact(9,p,d,7,hS,.inr (.inr h))
 refine(9,p,d,7,hS,.inl (hl,(U,hU,hc),hi,λL t b k c e h Z H1 b6 Wd x=>?_));have kl:e.length<=4000:=by
  have:=lX x.kd.nd λz hz=>hc z ((x.kd.mem z).mp hz);lia
 have hm:many d.length<=128:=by
  unfold many;lia
 have Wz:‹d›.length=d.length:=aaa ..;have a6:‹e›.length=e.length:=aaa ..;exists 9,L,_,4,VM.of x.r,7,t,_,4,VM.of x.t,7;refine(sl1,λl1 u=>?_);have D:=au u (.lst [.int 3]);refine(9,p,9,.inl ((Wd.trans D).seq hS),9,k,9,.inr (VM.of (D _ _ x.k)),sl2,λl2 a4=>?_);rw[Wz,a6];have Y:=au a4 (.lst [.int (d.length:Int),.int (e.length:Int)]);refine(l2,[(d.length:Int),(e.length:Int)],(2),7,.inl (My.of aa),(by show 2<=5000;decide),5,λl3 H3 b4 m x3=>?_);refine(l1,l3,4,m _ _ (Y _ _ aa),x3,1,λg Yh=>?_)
 ·rw[aaa,bC,sizeLine_eq];show 1+2*2<=_;decide
 have s4:=au Yh (.lst ([.int 3]++([(d.length:Int),(e.length:Int)].flatMap (λx=>aZ x 2)).map V.int));have N:=D.trans (Y.trans (m.trans s4));have j:H g=none:=(Wd.trans (D.trans (Y.trans m))).free Yh;have x4:upd H3 g (.lst ([.int 3]++([(d.length:Int),(e.length:Int)].flatMap (λx=>aZ x 2)).map V.int)) g=some (.lst ‹([3]++[(d.length:Int),(e.length:Int)].flatMap (λx=>aZ x 2))›):=by
  rw[aa,aaf];rfl
 have W0:=Wd.trans N;have O:b≠g:=aH (m _ _ (Y _ _ (D _ _ x.b))) Yh
 replace x:=x.same N
 generalize upd H3 g (.lst ([.int 3]++([(d.length:Int),(e.length:Int)].flatMap (λx=>aZ x 2)).map V.int))=H4 at *;exists 9,.inl (7,_,My.of x4),9,k,7,(_,VM.of x.k);refine J4 (λz=>z+10^60) x.k (by rw[sizeLine_eq];lia) (λ_ _ _ q=>q) (λz G Q _ _ q=>(9,4,(5,5,5),4,q)) λl5 Xo=>?_;have X:=au Xo (.lst ‹(e.map λz=>z+10^60)›);refine(l5,e.map λz=>z+10^60,26,7,.inl (My.of aa),by rw[aaa];lia,5,λl6 H6 b3 Xp x6=>?_);have e1:([3]++[(d.length:Int),(e.length:Int)].flatMap (λx=>aZ x 2)).length=5:=by
  rw[aab,bC];rfl
 exists g,l6,4,Xp _ _ (X _ _ x4),x6,1
 ·rw[aaa,aaa,e1,bC,aaa,sizeLine_eq];lia
 have a1:=bc (W0.trans (X.trans Xp)) j (.lst (([3]++[(d.length:Int),(e.length:Int)].flatMap (λx=>aZ x 2)).map V.int++((e.map λz=>z+10^60).flatMap (λx=>aZ x 26)).map V.int))
 replace x:=(x.same (X.trans Xp)).upd (o:=.lst (([3]++[(d.length:Int),(e.length:Int)].flatMap (λx=>aZ x 2)).map V.int++((e.map λz=>z+10^60).flatMap (λx=>aZ x 26)).map V.int)) (Xp _ _ (X _ _ x4)) O
 have C:L2.upd H6 g (.lst (([3]++[(d.length:Int),(e.length:Int)].flatMap (λx=>aZ x 2)).map V.int++((e.map λz=>z+10^60).flatMap (λx=>aZ x 26)).map V.int)) g=some (.lst ‹(([3]++[(d.length:Int),(e.length:Int)].flatMap (λx=>aZ x 2))++(e.map λz=>z+10^60).flatMap (λx=>aZ x 26))›):=by
  rw[aa,aaf (l₁:=[3]++_)]
 generalize L2.upd H6 g (.lst (([3]++[(d.length:Int),(e.length:Int)].flatMap (λx=>aZ x 2)).map V.int++((e.map λz=>z+10^60).flatMap (λx=>aZ x 26)).map V.int))=H7 at *;have hh:([3]++[(d.length:Int),(e.length:Int)].flatMap (λx=>aZ x 2)++(e.map λz=>z+10^60).flatMap (λx=>aZ x 26)).length<=150000:=by
  rw[aab,e1,bC,aaa];lia
 have R:Wh d e h=([3]++[(d.length:Int),(e.length:Int)].flatMap (λx=>aZ x 2)++(e.map λz=>z+10^60).flatMap (λx=>aZ x 26))++(V3 h (rks e d)).flatMap (W2 d.length):=rfl;generalize ([3]++[(d.length:Int),(e.length:Int)].flatMap (λx=>aZ x 2)++(e.map λz=>z+10^60).flatMap (λx=>aZ x 26))=hd at *;have a2:(rks e d).length=d.length:=by unfold rks;exact aaa ..
 have I:∀f∈V3 h (rks e d),f.length=d.length:=λf M=>((kj h _ f M).2).trans a2;have b1:Z.length=h:=by rw[x.ls.1,aaa,fH]
 have b9:=x.h12;exists 9,L,_,4,VM.of x.r,7,t,_,4,VM.of x.t,7,c,7,(_,VM.of x.c);refine HJ (xs:=Z.map V.ref) (λi W G=>(∃k5 k6,W=[!!!p,!!!L,!!!k,!!!g,some (.int ((i*many d.length:Nat):Int)),k5,k6])/\aL H G/\Kept G L t b k c d e h Z/\G g=some (.lst ‹hd++((V3 h (rks e d)).take i).flatMap (W2 d.length)›)) ?_ ?_ ?_ ?_
 ·exists (none,none,1),a1,x
  ·rw[ajs];rfl
  ·rw[C,agn,List.flatMap_nil,afR]
 ·rintro i W G _ ⟨_,_,x,_⟩;exact VM.of x.c
 ·rintro i y W G hy ⟨⟨k5,k6,rfl⟩,sm,x,C⟩;rw[aak]at hy;obtain⟨l,u,rfl⟩:=afS.mp hy;have b5:=(aad.mp u).1;obtain⟨f,B⟩:∃f,(V3 h (rks e d))[i]?=some f:=(_,aac (by rw[fH];lia));have Wg:=I f (aar B);have xl:=x.ls.2 i l (We f (many d.length)) u (by rw[aak,B];rfl);have a8:‹We f (many d.length)›.length=many d.length+1:=by rw[aaa,dm]
  exists 8,l,9,.inr (VM.of xl),4,4;have a7:((i*many d.length:Nat):Int)+(‹We f (many d.length)›.length:Int)-1=(((i+1)*many d.length:Nat):Int):=by
   rw[a8,ah7];lia
  show gh 6 (.int (((i*many d.length:Nat):Int)+(‹We f (many d.length)›.length:Int)-1)) _ _ _;rw[a7];refine(9,.inl (7,_,My.of C),9,L,_,4,VM.of x.r,7,8,8,b,9,My.of x.b,λcu a5=>?_);have a3:∀f∈V3 h (rks e d),(bQ f).length=many d.length:=λf M=>by rw[bJ,I f M]
  have S:fc ‹((V3 h (rks e d)).map bQ).flatten› (some ((i*many d.length:Nat):Int)) (some (((i+1)*many d.length:Nat):Int))=(bQ f).map V.int:=by
   rw[nU,show (i+1)*many d.length-i*many d.length=many d.length by rw[ah7];lia,Hw a3 B]
  rw[S];have D:=au a5 (.lst ‹bQ f›);refine(9,cu,l,bQ f,We f (many d.length),7,My.of aa,D _ _ xl,1,1,λl8 H8 b2 a0 x8=>?_)
  ·rw[bJ,Wg];lia
  ·rw[dm];lia
  have b0:(((V3 h (rks e d)).take i).flatMap (W2 d.length)).length<=10000:=by
   rw[qD λf M=>I f (afN M),aam,fH];have:=ahz (show 4*many d.length+2*(many d.length+1)<=800 by lia) (show min i h<=12 by lia);lia
  have n:=D.trans a0;have Z7:(V3 h (rks e d)).take (i+1)=(V3 h (rks e d)).take i++[f]:=by rw[aed,B];rfl
  exists g,l8,4,n _ _ C,x8,1,9,(_,9),bc (sm.trans n) j _,(x.same n).upd (n _ _ C) O
  ·have:=Ac Wg;unfold W2 at this;rw[aaa,aaa,aab,this,sizeLine_eq];lia
  ·rw[aa,Z7,ags,<-aay,aaf (l₁:=hd++_)];simp[W2]
 ·rintro W G ⟨⟨k5,k6,rfl⟩,sm,x,C⟩;have J:(V3 h (rks e d)).take (Z.map V.ref).length=V3 h (rks e d):=aal (by rw[aaa,fH];lia);rw[J,<-R]at C;exact(9,q g e h G j sm x.kd x.sz C)
inductive Z9(ws:List Str)(os:List Int):Prop
 |mk (ts:List Str) (lows ms:List Int) (h:Nat) (_:cI ws ts) (_:v7 (brk (ts.map λt=>(t.length:Int)) 0) lows) (_:Kinds ((ts.drop 1).map bV) ms) (_:iH ms.length (2^h)) (_:h<=12) (_:os=[4]++dH (brk (ts.map λt=>(t.length:Int)) 0) lows++Wh ((ts.drop 1).map bV) ms h++jL (ts.map (eG ws)))
theorem Z9.uniq{ws:List Str}{os b:List Int}(h:Z9 ws os)(h':Z9 ws b):os=b:=by
 obtain⟨q,d,r,k,j,i,g,f,_,rfl⟩:=h;obtain⟨p,c,t,s,o,n,m,l,_,rfl⟩:=h';have e:=j.uniq o;subst e;have e:=i.uniq n;subst e;have e:=g.uniq m;subst e;have e:=Ho f l;subst e;rfl
theorem uQ{ns:List Int}(h:ns.length<=4096):(jL ns).length<=2000:=by
 unfold jL;have b:many ns.length<=128:=by
  unfold many;lia
 rw[aab,aab,aab,aW,bC,bC,bJ,dm];show 1+2+_<=_;lia
theorem JG{ws:List Str}(b:cI ws N)(f:N.length<=2048)(h:v7 (brk (N.map λt=>(t.length:Int)) 0) c):(dH (brk (N.map λt=>(t.length:Int)) 0) c).length<=10000:=by
 have e:=iQ b.good;rw[aaa]at e;have d:many (brk (N.map λt=>(t.length:Int)) 0).length<=128:=by
  unfold many;lia
 rw[gF (eU _ _),h.len];lia
theorem Py{ws :List Str}{ms:List Int}(g:N.length<=2048)(c:Kinds ((N.drop 1).map bV) ms)(b:d<=12):(Wh ((N.drop 1).map bV) ms d).length<=200000:=by
 have f:((N.drop 1).map bV).length<=2048:=by
  rw[aaa,aaq];lia
 have:=lX c.nd λz e=>(c.mem z).mp e;exact(QS ⋯ ⋯ b).2
theorem vQ(x y z:List Int):(([V.int 4]++x.map V.int)++y.map V.int)++z.map V.int=([4]++x++y++z).map V.int:=by
 rw[aaf,aaf,aaf];rfl
theorem qC{ws :List Str}(d:cI ws N)(c:∀w∈ws,Wb w):Xj ((N.drop 1).map bV):=λz b=>by
 obtain⟨t,ht,rfl⟩:=aaz.mp b;have:=oE (d.low c (afO ht));lia
inductive ug(K:PySem.W.Frag)(C1:Addr)(C2:Addr)(vs:List V)(H:Hp)(Q:VK)(E:XK):Prop
 | mk (p:Addr) (ws:List Str) (_:vs=[.ref p]) (_:My K H p (ws.map V.str)) (_:(∀x∈ws,x.length<=3000)) (_:ws.length<=3000) (_:Taken C1 C2 ws H E (much ws<=90000/\zE ws 2048 /\ ∀r os H',H r=none->aL H H'->Z9 ws os->os.length<=1000000->H' r=some (.lst !!os)->Q (.ref r) H'))
theorem lO(T:Tx K mg a):bI P w K mg base (Wm P w) 9 a.aaB a.abh ["words"] (ug K a.WM a.Xh):=by
 refine T.ZQ.F.WQ lQ (λvs H Q E h=>?_) (λa3 A W s H vs Q E x h=>?_)
 ·obtain⟨p,g,rfl,_⟩:=h;rfl
 obtain⟨p,g,rfl,L,k,J,h⟩:=h;refine(_,(ao (aD 1 lQ.nd (cY T.ad7 (Cp T) ∅ x gk rfl (VJ 0 aj)))
  (aB (aN (aC bB (aC bB (aC bB (bh (aq (aY (v:=.int 4) rfl T.afd (_,7)) aj)) (aX T.aaE (jn T) x (aq (bN cD (pv 1) aA) aj))) (cY T.ZP (fX T) ∅ x gk rfl (aq (bN cD (pv 1) aA) aj))) (aX T.aaJ (jJ T) x (aq (bN cD (pv 1) aA) aj)))))),1)
 rcases h with ⟨M,q⟩|⟨M,h2,q⟩|⟨Y,nd,hm,u,q⟩
 ·exact(9,p,g,7,L,k,J,.inl (M,q))
 ·exact(9,p,g,7,L,k,J,.inr (.inl (M,h2,q)))
 refine(9,p,g,7,L,k,J,.inr (.inr (Y,nd,hm,u,λG d l e b H1 Wd C xd xl xe B N=>?_)));have hts:b.length<=2048:=N;have Yw:=B.good;have R:(b.map λt=>(t.length:Int)).length=b.length:=aaa ..;have O:((b.drop 1).map bV).length=b.length-1:=by rw[aaa,aaq]
 refine(sl1,λf hf=>?_);have D:=au hf (.lst [.int 4]);refine(9,G,_,4,VM.of (D _ _ C),7,d,9,D _ _ xd,by rw[R];lia,Yw,λr2 H2 c a2 V1 n x2=>?_);have l2:=JG B hts n;refine(f,r2,4,V1 _ _ aa,x2,by rw[aaa,sizeLine_eq];show 1+_<=_;lia,λc1 U=>?_);have s3:=au U (.lst ([.int 4]++(dH (brk (b.map λt=>(t.length:Int)) 0) c).map V.int));have j:=D.trans (V1.trans s3);refine(9,G,_,4,VM.of (j _ _ C),7,l,(b.drop 1).map bV,7,My.of (j _ _ xl),.inl (6,(_,by rw[O];lia,λz h=>h),qC B Y,λr4 I h H4 a1 W0 y m x4=>?_));have r:h<=12:=zp (by have:=lX y.nd λz k=>(y.mem z).mp k;lia) m;have l4:=Py (ws:=g) hts y r;refine(c1,r4,4,W0 _ _ aa,x4,by rw[aab,aaa,aaa,sizeLine_eq];show 1+_+_<=_;lia,λc2 S=>?_);have s5:=au S (.lst (([.int 4]++(dH (brk (b.map λt=>(t.length:Int)) 0) c).map V.int)++(Wh ((b.drop 1).map bV) I h).map V.int));have i:=j.trans (W0.trans s5);refine(9,G,_,4,VM.of (i _ _ C),7,e,b.map (eG g),7,My.of (i _ _ xe),by rw[aaa];lia,ou _ _,λr6 H6 a0 Z x6=>?_);have l6:=uQ (ns:=b.map (eG g)) (by rw[aaa];lia);refine(c2,r6,4,Z _ _ aa,x6,by rw[aab,aab,aaa,aaa,aaa,sizeLine_eq];show 1+_+_+_<=_;lia,λc3 o=>?_);have X:=Wd.trans (i.trans Z);refine q c3 ([4]++dH (brk (b.map λt=>(t.length:Int)) 0) c++Wh ((b.drop 1).map bV) I h++jL (b.map (eG g))) _ (X.free o) (X.trans (au o _)) (b,c,I,h,B,n,y,m,r,7) ?_ ?_
 ·rw[aab,aab,aab];show 1+_+_+_<=_;lia
 ·rw[aa,vQ]
theorem wK:∀(ns:List Int) (u:Int),aO ns->0<=u->(∀k,k<ns.length->0<u+ht ns k)->u+ht ns ns.length=0 -> ∃ds,Dp ds u/\brk ds u=ns/\(∀d∈ds,1<=d)
 |[],u,_,h,_,l=>([],h,by
   have:u=0:=by
    have e:ht ([]:List Int) 0=0:=jx _;have v:u+ht ([]:List Int) 0=0:=l;lia
   subst this;rfl,λd hd=>by simp at hd)
 |b::r,u,m,h,n,l=>by
  have t:0<u:=by
   have:=n 0 (by simp);rw[jx]at this;lia
  have o:∀k,ht (b::r) (k+1)=2*b-1+ht r k:=λk=>by
   unfold ht;rw[af1,ahv];lia
  have f:∀k,k<r.length->0<u+(2*b-1)+ht r k:=λk s=>by
   have:=n (k+1) (by rw[aah];lia);rw[o]at this;lia
  have g:u+(2*b-1)+ht r r.length=0:=by
   have:u+ht (b::r) (r.length+1)=0:=l;rw[o]at this;lia
  rcases m.head with rfl|rfl
  ·obtain⟨ds,j,c,i⟩:=wK r (u+(2*0-1)) m.tail ⋯ f g;cases ds with
   |nil=>
    refine([],h,1,i);rw[<-c];show aai u.toNat (0:Int)=0::aai (u+(2*0-1)).toNat 0;rw[show u.toNat=(u+(2*0-1)).toNat+1 by lia,afX]
   |cons d ds=>
    obtain⟨q,x,p⟩:=j;refine(d::ds,(q,6,p),1,i);rw[<-c];show aai (u-d).toNat (0:Int)++_=0::(aai (u+(2*0-1)-d).toNat 0++_);rw[show (u-d).toNat=(u+(2*0-1)-d).toNat+1 by lia,afX,agm]
  ·obtain⟨ds,j,c,i⟩:=wK r (u+(2*1-1)) m.tail ⋯ f g;refine(u::ds,(h,ahC _,by rw[show u+(2*1-1)=u+1 by lia]at j;exact j),1,λd hd=>?_)
   ·show aai (u-u).toNat (0:Int)++1::brk ds (u+1)=_;rw[show u+(2*1-1)=u+1 by lia]at c;rw[ah9,c];rfl
   ·rcases aat.mp hd with rfl|hd
    ·lia
    ·exact i d hd
theorem Hu:∀{ds:List Int}{u:Int},Dp ds u -> ∀(i:Nat) (x y:Int),ds[i]?=some x->ds[i+1]?=some y->y<=x+1
 |[],_,_,i,x,y,e,_=>by simp at e
 |d::r,u,h,0,x,y,e,b=>by
  cases e;cases r with
  |nil=>simp at b
  |cons z r=>
   cases b;exact h.2.2.2.1
 |d::r,u,h,i+1,x,y,e,b=>Hu h.2.2 i x y (by simpa using e) (by simpa using b)
theorem N7{ns:List Int}(h:aO ns)(d:Tree ns):∃ds,cB ds/\brk ds 0=ns:=by
 obtain⟨l,m,g⟩:=d;cases ns with
 |nil=>simp at l
 |cons b r=>
  have c:∀k,ht (b::r) (k+1)=2*b-1+ht r k:=λk=>by
   unfold ht;rw[af1,ahv];lia
  have f:b=1:=by
   rcases h.head with e|e
   ·have:=g 1 ⋯ ⋯;rw[c 0,jx]at this;lia
   ·exact e
  subst f;obtain⟨ds,q,p,o⟩:=wK r 1 h.tail ∅ (λk s=>by
   have:=g (k+1) ⋯ (by rw[aah];lia);rw[c]at this;lia) (by
   have:ht (1::r) (r.length+1)=0:=m;rw[c]at this;lia)
  have n:Dp (0::ds) 0:=(5,5,q);exists 0::ds,(7,λi x y e j=>(1,Hu n i x y e j))
  ·have:ds[i]?=some y:=by simpa using j
   exact o y (aar this)
  ·show aai ((0:Int)-0).toNat (0:Int)++1::brk ds (0+1)=_;rw[ah9,ajt,p];rfl
def X6(ns:List Int)(n:Nat):List Int:=((abS n).filter λi=>decide ((ns[i]?).getD 0=1)).map (ht ns)
theorem vX(ns:List Int)(n:Nat):X6 ns (n+1)=X6 ns n++(if (ns[n]?).getD 0=1 then [ht ns n]else []):=by
 unfold X6;rw[afU,agb,aaf];by_cases c:(ns[n]?).getD 0=1<;>simp[c]
theorem Ek(ns:List Int)(n:Nat):(X6 ns n).length<=n:=by
 unfold X6;rw[aaa];refine agd (age _ _) ?_;rw[aaG];exact aae _
inductive zL(K:PySem.W.Frag)(C1:Addr)(C2:Addr)(C3:Addr)(vs:List V)(H:Hp)(Q:VK)(E:XK):Prop
 | mk (p:Addr) (ns:List Int) (_:vs=[.ref p]) (_:My K H p !!ns) (_:((ns.length<=4096/\aO ns/\Tree ns /\ ∀r H',H r=none->aL H H'->H' r=some (.lst ‹X6 ns ns.length›)->Q (.ref r) H')\/(4096<ns.length/\E (.ref C1) none H)\/(ns.length<=4096 /\ ¬aO ns/\E (.ref C2) none H)\/(ns.length<=4096/\aO ns /\ ¬Tree ns /\ ∀H',aL H H'->E (.ref C3) none H')))
theorem zG(T:Tx K mg a):bI P w K mg base (Wm P w) 3 a.adc a.acF ["bits"] (zL K a.WT a.Ym a.WY):=by
 refine T.adx.F.WQ gD (λJ H Q E h=>?_) (λO A G s H J Q E M h=>?_)
 ·obtain⟨p,e,rfl,_⟩:=h;rfl
 obtain⟨p,e,rfl,k,h⟩:=h;refine(_,(ao (bF (cY T.aaC (ju T) ∅ M gk rfl (VJ 0 aj)))
  (ao (aD 1 gD.nd (bh aj))
  (ao (aD 2 gD.nd aA)
  (ao (bK fO rfl (bY (pv 0)) (aM 3 gD.nd) (ao (bR (aP fQ (pv 3) aA) (aB (bF (dj PySem.F.plainAttrs_list PySem.F.slot_list_append PySem.F.type_list_append bW (pv 1) (VJ 2 aj)))) aV)
  (aB (aD 2 gD.nd (aC cP (aC bj (pv 2) (aC cH aA (pv 3))) aA)))))
  (aB (aN (pv 1))))))),1)
 rcases h with ⟨f,n,B,q⟩|⟨f,q⟩|⟨f,n,q⟩|⟨f,n,B,q⟩
 rotate_left
 ·exact(9,p,e,7,k,.inr (.inl (f,q)))
 ·exact(9,p,e,7,k,.inr (.inr (.inl (f,n,q))))
 ·exact(9,p,e,7,k,.inr (.inr (.inr (f,n,B,q))))
 refine(9,p,e,7,k,.inl (f,n,B,λS I=>?_));refine(sl0,λr t=>?_);have o:=I.free t;have v:=I.trans (au t (.lst []));exists 9,p,7,(_,v.seq k);refine cG (xs:=e.map V.int) (λi g l=>(∃y,g=[!!!p,!!!r,some (.int (ht e i)),y])/\aL H l/\l r=some (.lst ‹X6 e i›)) ((none,by rw[jx];rfl),v,aa) ?_ ?_ ?_
 ·rintro i g l _ ⟨_,j,_⟩;exact j.seq k
 ·rintro i x g l L ⟨⟨y,rfl⟩,j,c⟩;obtain⟨b,u,rfl⟩:=int_at L;have R:=(aad.mp u).1;exists 9,7,9;refine Q8 (λ g C=>g=[!!!p,!!!r,some (.int (ht e i)),!!!!b]/\aL H C/\C r=some (.lst ‹X6 e (i+1)›)) (λd=>(7,j,1)) ?_ (λd m=>?_)
  ·have d:¬b=1:=λz=>d (decide_eq_true (congrArg V.int z));rw[vX,u,ahh,if_neg d,afR];exact c
  rotate_left
  ·have d:V.int b=V.int 1:=of_decide_eq_true d;injection d with d
   refine(9,.inl (7,_,My.of c),9,r,4,c,1,m _ _ (7,bc j o _,1))
   ·have:=Ek e i;rw[aaa,sizeLine_eq];lia
   ·rw[aa,vX,u,ahh,if_pos d,aaf];rfl
  rintro N C ⟨rfl,v,D⟩;exact(8,4,.inl (5,5),4,4,(_,by rw[zB u];rfl),v,D)
 ·rintro g l ⟨⟨y,rfl⟩,j,c⟩;rw[aaa]at c;exact(9,q r l o j c)
theorem HQ{ds:List Int}(c:cB ds):∀n:Nat,n<=(brk ds 0).length -> ∃b:Nat,((brk ds 0).take n).sum=(b:Int)/\X6 (brk ds 0) n=ds.take b
 |0,_=>(0,7,7)
 |n+1,g=>by
  obtain⟨b,f,d⟩:=HQ c n ⋯;rw[vX];rcases wD c (show n<(brk ds 0).length by lia)with ⟨e,_⟩|⟨e,_⟩
  ·refine(b,by rw[Bp e];lia,1);rw[e,ahh,if_neg ∅,afR,d]
  ·refine(b+1,by rw[Bp e];lia,1);rw[e,ahh,if_pos rfl,d,aed,NB c e f];rfl
theorem HS{ds:List Int}(b:cB ds):X6 (brk ds 0) (brk ds 0).length=ds:=by
 obtain⟨e,d,c⟩:=HQ b (brk ds 0).length (aae _);rw[afK,Dc b]at d;rw[c,aal ⋯]
inductive DW(K:PySem.W.Frag)(vs:List V)(H:Hp)(Q:VK)(_e1:XK):Prop
 | mk (p:Addr) (bs:List Int) (m:Nat) (_:vs=[.ref p,.int (m:Int)]) (_:My K H p !!bs) (_:m<=32*bs.length) (_:bs.length<=2048) (_:∀r H',H r=none->aL H H'->H' r=some (.lst ‹(Xb bs).take m›)->Q (.ref r) H')
theorem BL(T:Tx K mg a):bI P w K mg base VR 3 a.adK a.ac6 ["blocks","many"] (DW K):=by
 refine T.ad4.F.V2 nq λI A t s H J Q E G h=>?_;obtain⟨p,n,m,rfl,o,M,N,q⟩:=h;refine(_,(ao (bR (PW.pt (tH (aP tU (pv 1) aA) (mz (aP jd (pv 1) (aC cH (aY (v:=.int 32) rfl T.Ye (_,7)) (aF aG rfl T.V0 Tw.bu (VJ 0 aj))))))) (aB mG) aV)
  (ao (aD 2 nq.nd (bh aj))
  (ao (bK PassesOwn.never rfl (bY (pv 0)) (aM 3 nq.nd) (aB (bF (dj PySem.F.plainAttrs_list PySem.F.slot_list_extend PySem.F.type_list_extend dC (pv 2) (aq (aX T.acn (pK T) G (VJ 3 (aq (aY (v:=.int 32) rfl T.Ye (_,7)) aj))) aj)))))
  (aB (aN (aQ bx (pv 2) bz (aR (pv 1)))))))),1)
 refine(9,4,9,dZ (λc=>?_) λ_=>?_)
 ·have c:=of_decide_eq_true c;lia
 refine(8,p,9,.inl o,4,.inl (5,5),4,9,dZ (λc=>?_) λ_=>?_)
 ·have c:=of_decide_eq_true c;rw[aaa]at c;lia
 refine(sl0,λr d=>?_);have L:∀{x:Addr}{u:HO},H x=some u->x≠r:=λh=>aH h d;exists 9,p,7,(_,(au d _).seq o);refine cG (xs:=n.map V.int) (λi l f=>(∃k,l=[!!!p,some (.int (m:Int)),!!!r,k])/\aL H f/\f r=some (.lst ‹Xb (n.take i)›)) ?_ ?_ ?_ ?_
 ·exact((none,7),au d _,aa)
 ·rintro i l f _ ⟨_,e,_⟩;exact e.seq o
 ·rintro i x l f D ⟨⟨k,rfl⟩,e,b⟩;obtain⟨c,z,rfl⟩:=int_at D;have O:=(aad.mp z).1;refine(9,.inl (7,_,My.of b),9,c,32,7,5,5,λy j=>?_);have C:r≠y:=aH b j;exists r,y,4,by rw[aK C];exact b,aa,1,3,bc (e.trans (au j _)) d _
  ·rw[aaa,aaa,pD,aam];show 32*min i n.length+(bits c 32).length<=sizeLine;rw[dI,sizeLine_eq];lia
  ·rw[aa,aed,z];show _=some (HO.lst ‹Xb (n.take i++[c])›);rw[Mj,aaf];rfl
 ·rintro l f ⟨⟨k,rfl⟩,e,b⟩;rw[aaa,afK]at b;refine(8,9,r,9,My.of b,λB g=>?_);rw[Ew];exact q B _ (e.free g) (e.trans (au g _)) aa
theorem KH{lo:Int}{n:Nat}{d:L2.St}(f:Nat->Int)(G:Nat->Prop)(B:n<sizeLine)
  (r:∀(z:Int) (H':Hp) (Q:Bool->Hp->Prop),Q true H'->L (some (.int z)::d) H' Q)(A:∀(i:Nat) (H':Hp) (Q:VK),i<n->aL H H'->(G i -> ∀u,aL H' u->Q (.int (f i)) u)->ta (some (.int (lo+i))::d) H' Q)
  (q:(∀i<n,G i) -> ∀D X,H D=none->aL H X->X D=some (.lst ‹(abS n).map f›)->m D X):fY (XJ lo n) d L ta m H:=by
 intro D p;exists λi b k h=>b=n-i/\i<=n/\k=((abS i).map f).map V.int/\aL H h/\h D=some (.lst k) /\ ∀j<i,G j,(9,aaH _,7,au p _,aa,λj o=>absurd o (agp _));rintro i b k h ⟨rfl,C,rfl,l,g,t⟩;by_cases c:i<n
 ·refine .inr (c,λv F y=>?_);obtain⟨rfl,rfl⟩:=y;refine r _ _ _ ?_;rw[if_pos rfl];refine A i _ _ c l λx E s=>(s _ _ g,1,n-(i+1),6,7,c,1,bc (l.trans s) p _,aa,λj o=>?_)
  ·rw[aaa,aaa,aaG];lia
  ·rw[afU,aaf,aaf];rfl
  ·rcases aik.mp o with z|z
   ·exact t j z
   ·rw[z];exact x
 ·have e:i=n:=by lia
  subst e;exact .inl (aae _,q t D h p l g)
inductive zQ(cN:Addr)(vs:List V)(H:Hp)(Q:VK)(E:XK):Prop
 | mk (p:Addr) (os:List Int) (at0 sz:Nat) (_:vs=[.ref p,.int (at0:Int),.int (sz:Int)]) (_:H p=some (.lst !!os)) (_:(at0+sz<=os.length -> ∀H',aL H H'->Q (.int (gJ ((os.drop at0).take sz))) H')) (_:(os.length<at0+sz -> ∀H',aL H H'->E (.ref cN) none H'))
theorem qe(T:Tx K mg a):bI P w K mg base (Wm P w) 2 a.adi a.acM ["octets","at","size"] (zQ a.V5):=by
 refine T.abU.F.WQ Am (λj H Q E h=>?_) (λn A g s H j Q E l h=>?_)
 ·obtain⟨p,f,b,d,rfl,_⟩:=h;rfl
 obtain⟨p,f,b,d,rfl,i,q,k⟩:=h;refine(_,(ao (bR (aP jd (aC bj (pv 1) (pv 2)) (aF aG rfl T.V0 Tw.bu (VJ 0 aj))) (aB (dz T.Za rfl (aq cg aj))) aV)
  (aB (aN (aX T.adt (Ah T) l (aq (aQ bx (pv 0) (aR (pv 1)) (aR (aC bj (pv 1) (pv 2)))) aj))))),1)
 have o:‹f›.length=f.length:=aaa ..;refine(8,4,9,p,9,.inl (My.of i),4,9,dZ (λc=>?_) λc=>?_)
 ·have c:((‹f›.length:Nat):Int)<(b:Int)+(d:Int):=of_decide_eq_true c;exact(sl1,k ⋯ _ (.refl _))
 have c:¬(((‹f›.length:Nat):Int)<(b:Int)+(d:Int)):=λz=>c (decide_eq_true z);refine(8,8,9,4,9,p,9,My.of i,λc m=>?_);have e:fc ‹f› (some (b:Int)) (some ((b:Int)+(d:Int)))=((f.drop b).take d).map V.int:=by
  rw[show (b:Int)+(d:Int)=((b+d:Nat):Int) by lia,nU,agf]
 rw[e];exact(c,9,My.of aa,q ⋯ _ (au m _))
inductive wV(cN:Addr)(vs:List V)(H:Hp)(Q:VK)(E:XK):Prop
 |mk (p:Addr) (os:List Int) (at0 sz m:Nat) (_:vs=[.ref p,.int (at0:Int),.int (sz:Int),.int (m:Int)]) (_:H p=some (.lst !!os)) (_:m<=70000) (_:0<sz) (_:sz<=100) (_:(at0+sz*m<=os.length\/m=0 -> ∀r H',H r=none->aL H H'->H' r=some (.lst ‹((abS m).map λk=>gJ ((os.drop (at0+sz*k)).take sz))›)->Q (.ref r) H')) (_:(os.length<at0+sz*m->0<m -> ∀H',aL H H'->E (.ref cN) none H'))
theorem jO(T:Tx K mg a):bI P w K mg base (Wm P w) 3 a.acN a.acf ["octets","at","size","many"] (wV a.V5):=by
 refine T.aaK.F.WQ w6 (λn H Q E h=>?_) (λN A e s H n Q E v h=>?_)
 ·obtain⟨p,d,c,b,m,rfl,_⟩:=h;rfl
 obtain⟨p,d,c,b,m,rfl,x,O,M,L,q,u⟩:=h;exists _,(aB (aN (BK rfl (bU.three (j:=2) (k:=0) (l:=1) ∅ ∅ ∅ rfl rfl rfl (agH rfl) (agH rfl) (agH rfl) rfl rfl rfl rfl (agH rfl) (agH rfl) (agH rfl)) (iW rfl T.Xi (VJ 3 aj)) (λ_ _ _ _=>dN) (λ_ _ _ _ _ _ _ I=>(cY T.abU (qe T) ∅ v (yz I λ_ _ z=>z) rfl (VJ 2 (aq (aC bj (pv 3) (aC cH (pv 1) (pv 0))) (VJ 1 aj))))))));refine(9,(m:Int),7,6,6,1);rw[aav];refine KH (λk=>gJ ((d.drop (c+b*k)).take b)) (λk=>c+b*k+b<=d.length) (by rw[sizeLine_eq];lia) (λ_ _ _ q=>q) (λi S Q y f t=>?_) λB D X C o g=>q ?_ D X C o g
 ·refine(8,8,4,.inl (6,6),4,9,p,d,c+b*i,b,1,f _ _ x,t,λz J r=>u ?_ ⋯ J (f.trans r))
  ·show [V.ref p,V.int ((c:Int)+(b:Int)*(0+(i:Int))),V.int (b:Int)]=_;rw[ajt,ai9,Int.natCast_mul]
  ·have:b*(i+1)<=b*m:=aiK _ y;rw[aht]at this;lia
 ·rcases agJ m with z|z
  ·exact .inr z
  ·have R:=B (m-1) ⋯;have G:b*(m-1+1)=b*(m-1)+b:=aht ..;rw[show m-1+1=m by lia]at G;exact .inl ⋯
inductive vp(vs:List V)(H:Hp)(Q:VK)(_e1:XK):Prop
 | mk (m:Nat) (_:vs=[.int (m:Int)]) (_:Q (.int ((many m:Nat):Int)) H)
theorem jq(T:Tx K mg a):bI P w K mg base VR 1 a.acg a.abM ["many"] vp:=by
 refine T.aaF.F.V2 wg λc A b s H d Q E f h=>?_;obtain⟨m,rfl,q⟩:=h;exists _,(aB (aN (aC iy (aC cP (aC bj (pv 0) (aY (v:=.int 32) rfl T.Ye (_,7))) aA) (aY (v:=.int 32) rfl T.Ye (_,7)))));exists 9,4,4,4,(5,5);have e:((m:Int)+32-1) / 32=((many m:Nat):Int):=by
  unfold many;lia
 rw[<-e]at q;exact q
theorem CN{xs:List Int}(h:∀y∈xs,0<=y/\y<=255)(b:xs.length<=2):0<=gJ xs/\gJ xs<=65535:=by
 match xs,b with
 |[],_=>exact(5,5)
 |[x],_=>
  have c:=h x (by simp);show 0<=256*0+x/\256*0+x<=65535;lia
 |[x,y],_=>
  have c:=h x (by simp);have d:=h y (by simp);show 0<=256*(256*0+y)+x/\256*(256*0+y)+x<=65535;lia
def gj(os:List Int):Prop:=∀y∈os,0<=y/\y<=255
inductive uh(cN:Addr)(vs:List V)(H:Hp)(Q:VK)(E:XK):Prop
 | mk (p:Addr) (os:List Int) (_:vs=[.ref p]) (_:H p=some (.lst !!os)) (_:(gj os->Q .non H)) (_:(¬gj os->E (.ref cN) none H))
theorem um(T:Tx K mg a):bI P w K mg base (Xw P w) 1 a.abL a.abi ["octets"] (uh a.V5):=by
 refine T.abR.F.ok1 lN (λt H Q E h=>?_) (λB A m s H t Q E C h=>?_)
 ·obtain⟨p,j,rfl,_⟩:=h;rfl
 obtain⟨p,j,rfl,r,q,u⟩:=h;exists _,(aB (bK Qg rfl (bY (pv 0)) (aM 1 lN.nd) (aB (bR (lV (qm vH vH aA (pv 1) aA)) (aB (DY T.Za rfl (aq cg aj))) aV))));exists 9,p,7,(_,My.of r);refine cG (xs:=j.map V.int) (λi f X=>X=H/\(∃k,f=[!!!p,k]) /\ ∀y∈j.take i,0<=y/\y<=255) (7,(none,7),λy d=>by simp at d) ?_ ?_ ?_
 ·rintro i f X _ ⟨rfl,_⟩;exact My.of r
 ·rintro i x f X v ⟨rfl,⟨k,rfl⟩,b⟩;obtain⟨z,o,rfl⟩:=int_at v;have e:¬(0<=z/\z<=255)->E (.ref a.V5) none X:=λn=>u λg=>n (g z (aar o));refine(9,4,9,dZ (λc=>?_) λc=>?_)
  ·have c:(0:Int)<=z:=of_decide_eq_true c;exists 4,9;by_cases l:z<=255
   ·rw[decide_eq_true l];refine fM (7,3,λy d=>?_);rw[aed,o]at d;rcases aas.mp d with d|d
    ·exact b y d
    ·have:y=z:=by simpa using d
     lia
   ·rw[decide_eq_false l];exact fP (sl1,e λn=>l n.2)
  ·have c:¬(0:Int)<=z:=λn=>c (decide_eq_true n);exact(9,fP (sl1,e λn=>c n.1))
 ·rintro f X ⟨rfl,_,b⟩;exact q λy d=>b y (by rw[aaa,afK];exact d)
def qM(os:List Int)(b n:Nat):List Int:=(abS (many n)).map λk=>gJ ((os.drop (b+4*k)).take 4)
def oW(os:List Int)(b n:Nat):List Int:=(Xb (qM os b n)).take n
theorem zb(os:List Int)(b n:Nat):(oW os b n).length=n:=by
 unfold oW qM;rw[aam,pD,aaa,aaG];unfold many;lia
inductive Fj(cN:Addr)(vs:List V)(H:Hp)(Q:VK)(E:XK):Prop
 | mk (p:Addr) (os:List Int) (at0 n:Nat) (_:vs=[.ref p,.int (at0:Int),.int (n:Int)]) (_:H p=some (.lst !!os)) (_:n<=65535) (_:(at0+4*many n<=os.length\/n=0 -> ∀r H',H r=none->aL H H'->H' r=some (.lst ‹oW os at0 n›)->Q (.ref r) H')) (_:(¬(at0+4*many n<=os.length\/n=0) -> ∀H',aL H H'->E (.ref cN) none H'))
theorem wC(T:Tx K mg a):bI P w K mg base (Wm P w) 4 a.aex a.adY ["octets","at","many"] (Fj a.V5):=by
 refine T.adz.F.WQ Gv (λu H Q E h=>?_) (λL A k s H u Q E e h=>?_)
 ·obtain⟨p,d,b,n,rfl,_⟩:=h;rfl
 obtain⟨p,d,b,n,rfl,C,M,q,B⟩:=h;exists _,(aB (aN (aX T.ad4 (BL T) e (aq (cY T.aaK (jO T) ∅ e gk rfl (VJ 0 (VJ 1 (aq (aY (v:=.int 4) rfl T.aaM (_,7)) (aq (aX T.aaF (jq T) e (VJ 2 aj)) aj))))) (VJ 2 aj)))));have N:many n<=2048:=by
  unfold many;lia
 have i:n<=32*many n:=by
  unfold many;lia
 have j:many n=0->n=0:=by
  unfold many;lia
 have l:(qM d b n).length=many n:=by
  unfold qM;rw[aaa,aaG]
 refine(8,9,n,7,p,d,b,(4),many n,7,C,6,5,5,λg y O J c t=>?_,λm D I c=>B (λz=>?_) I c)
 ·refine(9,y,qM d b n,n,7,My.of t,by rw[l];exact i,by rw[l];lia,λr G f x o=>q (g.imp id j) r G (c.free f) (c.trans x) o)
 ·rcases z with z|z
  ·lia
  ·subst z;exact absurd D ∅
def layB(rs:List Int)(l:List (Int×Int)):List Int:=l.foldl (λrs p=>rs.set p.1.toNat (2*rs.getD p.1.toNat 0+p.2)) rs
theorem nF:∀(l:List (Int×Int)) (rs:List Int),(layB rs l).length=rs.length
 |[],_=>rfl
 |p::l,rs=>(nF l _).trans (ahZ ..)
theorem Jp(rs:List Int)(l:List (Int×Int))(p:Int×Int):layB rs (l++[p])=(layB rs l).set p.1.toNat (2*(layB rs l).getD p.1.toNat 0+p.2):=by
 unfold layB;rw[List.foldl_append];rfl
def Yj:List (List Int)->List Int->List Int->List Int
 |[],_,b=>b
 |d::L,c,b=>Yj L (mJ c d) (layB b (c.zip d))
theorem Bj:∀{os bs:List Int},aO bs->bs.length=os.length->(mJ os bs).length=os.length
 |[],[],_,_=>rfl
 |[],_::_,_,h=>by simp at h
 |_::_,[],_,h=>by simp at h
 |z::os,b::bs,d,h=>by
  have c:=Bj (os:=os) (bs:=bs) (λy e=>d y (aaj _ e)) (by simpa using h);unfold mJ at c ⊢;rw[ahL,agq,agq];rw[aab]at c;rcases d b aan with rfl|rfl
  ·rw[if_pos (by simp),if_neg (by simp),aax,agm,aah,aab,c,aah]
  ·rw[if_neg (by simp),if_pos (by simp),aax,aab,aah,<-Nat.add_assoc,c,aah]
theorem Mu{os bs:List Int}(h:i∈mJ os bs):i∈os:=by
 unfold mJ at h;rcases aas.mp h with h|h
 all_goals
  obtain⟨p,b,rfl⟩:=aaz.mp h;exact(ag1 (aho.mp b).1).1
theorem Np{os bs:List Int}{i:Nat}{x y:Int}(c:os[i]?=some x)(b:bs[i]?=some y):(os.zip bs).take (i+1)=(os.zip bs).take i++[(pq x y)]:=by
 rw[aed,aie.mpr (show os[i]?=some (pq x y).1/\bs[i]?=some (pq x y).2 from (c,b))];rfl
def upto(n:Nat):List Int:=(abS n).map λi:Nat=>(i:Int)
theorem Li(n:Nat):(upto n).length=n:=by
 unfold upto;rw[aaa,aaG]
inductive CG(K:PySem.W.Frag)(vs:List V)(H:Hp)(Q:VK)(_e1:XK):Prop
 | mk (p:Addr) (ls:List Addr) (L:List (List Int)) (n:Nat) (_:vs=[.ref p,.int (n:Int)]) (_:H p=some (.lst (ls.map V.ref))) (_:pY H ls L) (_:(∀bs∈L,aO bs/\bs.length=n)) (_:n<=65535) (_:∀r H',H r=none->aL H H'->H' r=some (.lst ‹Yj L (upto n) (aai n 0)›)->Q (.ref r) H')
theorem Dl(T:Tx K mg a):bI P w K mg base VR 2 a.adU a.adf ["rows","many"] (CG K):=by
 refine T.ad6.F.V2 eX λb2 A a9 s H vs Q E hr h=>?_;obtain⟨p,ls,L,n,rfl,hp,hL,hb,hn,q⟩:=h;refine(_,(ao (aD 2 eX.nd (aC j9 (bh (aq aA aj)) (pv 1)))
  (ao (aD 3 eX.nd (vg rfl rfl T.Yd Tw.iw rfl T.Xi (VJ 1 aj)))
  (ao (bK PassesOwn.never rfl (bY (pv 0)) (aM 4 eX.nd) (ao (bK PassesOwn.never rfl (lH rfl T.Yn Tw.lg (VJ 3 (VJ 4 aj))) (iK rfl (bG (aM 5 eX.nd) (bG (aM 6 eX.nd) fW))) (aB (rO (aC bj (aC cH aA (bN dM (pv 2) (pv 5))) (pv 6)) (LR (pv 2) (pv 5) set_list))))
  (aB (aD 3 eX.nd (aX T.aeb (zc T) hr (VJ 3 (VJ 4 aj)))))))
  (aB (aN (pv 2)))))),1)
 refine(sl1,λl0 a4=>?_);have s0:=au a4 (.lst [.int 0]);refine(9,l0,(n:Int),9,7,aa,6,6,by rw[aav,sizeLine_eq];show 1*n<=_;lia,λr Z=>?_);rw[aav];have s1:=s0.trans (au Z (.lst (aai n [V.int 0]).flatten));have M:=s0.free Z;have D:upd (upd H l0 (.lst [.int 0])) r (.lst (aai n [V.int 0]).flatten) r=some (.lst ‹(aai n (0:Int))›):=by
  rw[aa,aiO];simp
 generalize upd (upd H l0 (.lst [.int 0])) r (.lst (aai n [V.int 0]).flatten)=H1 at *;refine(9,n,7,6,λo ho=>?_);have s2:=s1.trans (au ho (.lst ‹upto n›));have t:o≠r:=(aH D ho).symm;have C:=au ho (.lst ‹upto n›) _ _ D;have X:upd H1 o (.lst ‹upto n›) o=some (.lst ‹upto n›):=aa;show gh 3 (.ref o) _ (upd H1 o (.lst ‹upto n›)) _;generalize upd H1 o (.lst ‹upto n›)=I at *;exists 9,p,7,(_,My.of (s2 _ _ hp));refine cG (xs:=ls.map V.ref) (λi g J=>∃(o:Addr) (c d:List Int) (k4 B v:Option V),g=[!!!p,some (.int (n:Int)),!!!r,!!!o,k4,B,v]/\aL H J/\J r=some (.lst !!d)/\J o=some (.lst !!c)/\o≠r/\d.length=n/\c.length=n/\(∀z∈c,0<=z/\z<(n:Int))/\Yj (L.drop i) c d=Yj L (upto n) (aai n 0)) ?_ ?_ ?_ ?_
 ·refine(o,upto n,aai n 0,none,none,none,7,s2,C,X,t,aaw,Li n,λz U=>?_,7);obtain⟨i,hi,rfl⟩:=aaz.mp U;have:=af5.mp hi;lia
 ·rintro i g J _ ⟨_,_,_,_,_,_,_,S,_⟩;exact My.of (S _ _ hp)
 ·rintro i y g J hy ⟨o,c,d,k4,B,v,rfl,S,D,X,t,Y,N,O,k⟩;rw[aak]at hy;obtain⟨l,hl,rfl⟩:=afS.mp hy;have R:=(aad.mp hl).1;rw[hL.1]at R;have a1:=aac R;obtain⟨a6,Wg⟩:=hb _ (aar a1);have u:=hL.2 i l _ hl a1;have b0:l≠r:=aH u M;rw[afT R]at k;generalize L[i]=f at *;have k:Yj (L.drop (i+1)) (mJ c f) (layB d (c.zip f))=_:=k;exists 8,o,l,_,9,My.of X,My.of (S _ _ u);refine pR (xs:=c.map V.int) (ys:=f.map V.int) (λj g I=>∃(B v:Option V),g=[!!!p,some (.int (n:Int)),!!!r,!!!o,!!!l,B,v]/\aL H I/\I r=some (.lst ‹layB d ((c.zip f).take j)›)/\I o=some (.lst !!c)) (B,v,7,S,D,X) ?_ ?_ ?_
  ·rintro j g I _ ⟨_,_,_,W,_,e⟩;exact(My.of e,My.of (W _ _ u))
  ·rintro j x y g I pr hx hy ⟨B,v,rfl,W,C,e⟩ a3;obtain⟨z,U,rfl⟩:=int_at hx;obtain⟨b,a7,rfl⟩:=int_at hy;obtain⟨z0,z1⟩:=O z (aar U);have G:=au a3 (.tup [.int z,.int b]);have b1:=nF ((c.zip f).take j) d;have a8:Ws ‹layB d ((c.zip f).take j)› z=some (.int ((layB d ((c.zip f).take j)).getD z.toNat 0)):=by
    obtain⟨m,rfl⟩:∃m:Nat,z=(m:Int):=(z.toNat,6);refine jD ?_;rw[aak,aav,aaA,aac ⋯];rfl
   exists pr,9,VM.of aa,7,_,9,4;exists 8,r,_,4,My.of (G _ _ C),a8,4,.inl (5,5),9,4;have a5:Xa ‹layB d ((c.zip f).take j)›.length z=some z.toNat:=by
    obtain⟨m,rfl⟩:∃m:Nat,z=(m:Int):=(z.toNat,6);unfold Xa;rw[if_pos ⋯,if_pos (by rw[aaa];lia)]
   refine(8,r,_,z,z.toNat,7,7,G _ _ C,a5,(_,9,bc (W.trans G) M _,1,1))
   ·rw[aa,Np U a7,Jp,List.map_set]
   ·rw[aK t];exact G _ _ e
  ·rintro g I ⟨B,v,rfl,W,C,e⟩;rw[aaa,aaa,Wg,N,Nat.min_self,aal (by rw[ahr];lia)]at C;refine(8,o,l,c,f,7,My.of e,My.of (W _ _ u),6,6,λo2 H3 a0 G a2=>?_);exact(o2,mJ c f,_,_,_,9,W.trans G,G _ _ C,a2,λz=>(by rw[z,C]at a0;cases a0),(nF _ _).trans Y,(Bj a6 ⋯).trans N,λz U=>O z (Mu U),k)
 ·rintro g J ⟨o,c,d,k4,B,v,rfl,S,D,X,t,Y,N,O,k⟩;rw[aaa,hL.1,af6 (aae _)]at k;have k:d=_:=k;rw[k]at D;exact(9,q r J M S D)
def V4(os:List Int):Nat:=(gJ ((os.drop 1).take 2)).toNat
def kdN(os:List Int):Nat:=(gJ ((os.drop 3).take 2)).toNat
def oO(os:List Int):List Int:=((abS (kdN os)).map λk=>gJ ((os.drop (5+26*k)).take 26)).map λz=>z-10^60
def stp(n:Nat):Nat:=4*many n+2*(many n+1)
def qy(os:List Int)(h:Nat):List (List Int):=(abS h).map λi=>oW os (5+26*kdN os+stp (V4 os)*i) (V4 os)
def GP(os:List Int)(h:Nat):List Int:=Yj (qy os h) (upto (V4 os)) (aai (V4 os) 0)
def Js(os:List Int)(h:Nat):List Int:=(GP os h).map λz=>(oO os).getD z.toNat 0
structure zm(os:List Int)(h:Nat):Prop where
 a5:5<=os.length
 kd:5+26*kdN os<=os.length
 XQ:∀i,i<h->5+26*kdN os+stp (V4 os)*i+4*many (V4 os)<=os.length\/V4 os=0
 rk:∀z∈GP os h,z<(kdN os:Int)
noncomputable def hO(n:Nat):Nat:=Classical.epsilon λh=>iH n (2^h)
theorem Hg{n :Nat}(hz:iH n (2^d)):hO n=d:=Ho (Classical.epsilon_spec (p:=λd=>iH n (2^d)) (d,hz)) hz
theorem m9(os:List Int):(oO os).length=kdN os:=by
 unfold oO;rw[aaa,aaa,aaG]
theorem jk(os:List Int)(b n:Nat):aO (oW os b n):=λy c=>FN _ y (afN c)
theorem Dd:∀(l:List (Int×Int)) (rs:List Int),(∀p∈l,0<=p.2)->(∀z∈rs,0<=z) -> ∀z∈layB rs l,0<=z
 |[],_,_,h=>h
 |p::l,rs,c,h=>Dd l _ (λq d=>c q (aaj _ d)) λz b=>by
  rcases aic b with b|rfl
  ·exact h z b
  ·have g:=c p aan;have f:0<=rs.getD p.1.toNat 0:=by
    rw[aaA];cases e:rs[p.1.toNat]? with
    |none=>exact ahC 0
    |some y=>exact h y (aar e)
   lia
theorem Hs:∀(L:List (List Int)) (od rs:List Int),(∀bs∈L,aO bs)->(∀z∈rs,0<=z) -> ∀z∈Yj L od rs,0<=z
 |[],_,_,_,h=>h
 |bs::L,od,rs,c,h=>Hs L _ _ (λb e=>c b (aaj _ e)) (Dd _ _ (λp d=>by
  have:=c bs aan p.2 (ag1 d).2;lia) h)
theorem zz:∀(L:List (List Int)) (od rs:List Int),(Yj L od rs).length=rs.length
 |[],_,_=>rfl
 |b::L,od,rs=>(zz L _ _).trans (nF _ _)
theorem Bw{os:List Int}:∀z∈GP os d,0<=z:=Hs _ _ _ (λe c=>by
 obtain⟨i,_,rfl⟩:=aaz.mp c;exact jk _ _ _) λz b=>by
 rw[af8 b];exact ahC 0
theorem Nv(os:List Int)(h:Nat):(GP os h).length=V4 os:=(zz _ _ _).trans aaw
theorem MJ{os:List Int}(x:zm os d):∀z∈Js os d,z∈oO os:=λz e=>by
 obtain⟨k,c,rfl⟩:=aaz.mp e;have f:=x.rk k c;have g:=Bw k c;have b:k.toNat<(oO os).length:=by
  rw[m9];lia
 rw[aaA,aac b];exact afL b
theorem GF{K:PySem.W.Frag}{a:Addr}{ns:List Int}{h:L2.St}(f:Int->Int)(G:Int->Prop)(t:My K H a !!ns)(A:ns.length<sizeLine)
  (n:∀(z:Int) (H':Hp) (Q:Bool->Hp->Prop),Q true H'->L (some (.int z)::h) H' Q)(x:∀(z:Int) (H':Hp) (Q:VK),z∈ns->aL H H'->(G z->Q (.int (f z)) H')->ta (some (.int z)::h) H' Q)
  (q:(∀z∈ns,G z) -> ∀D,H D=none->m D (upd H D (.lst ‹ns.map f›))):fY (XH K a) h L ta m H:=by
 intro D l;exists λi b j s=>b=ns.length-i/\i<=ns.length/\j=((ns.take i).map f).map V.int/\s=upd H D (.lst j) /\ ∀z∈ns.take i,G z,(9,aaH _,7,7,λz d=>by simp at d);rintro i b j s ⟨rfl,B,rfl,rfl,k⟩;have c:My K (upd H D (.lst ‹(ns.take i).map f›)) a ‹ns›:=(au l _).seq t;by_cases g:i<ns.length
 ·have o:=aac g;have p:‹ns›[i]?=some (.int ns[i]):=by
   rw[aak,o];rfl
  have r:ns.take (i+1)=ns.take i++[ns[i]]:=by
   rw[aed,o];rfl
  refine .inr ((_,_,c,p),λv C y=>?_);obtain⟨rfl,y⟩:=y;have e:=y _ c;rw[p]at e;cases e;refine n _ _ _ ?_;rw[if_pos rfl];refine x _ _ _ (afL g) (au l _) λu=>(aa,1,ns.length-(i+1),6,7,g,1,1,λz d=>?_)
  ·rw[aaa,aaa,aam];lia
  ·rw[r,aaf,aaf];rfl
  ·rw[iu]
  ·rw[r]at d;rcases aas.mp d with d|d
   ·exact k z d
   ·rw[aao.mp d];exact u
 ·have e:i=ns.length:=by lia
  subst e;rw[afK]at k c ⊢;exact .inl ((_,c,by rw[aaa];exact aae _),q k D l)
inductive Fg(cN:Addr)(vs:List V)(H:Hp)(Q:VK)(E:XK):Prop
 | mk (p:Addr) (ks:List Int) (z:Int) (_:vs=[.ref p,.int z]) (_:H p=some (.lst !!ks)) (_:0<=z) (_:(z<(ks.length:Int)->Q (.int (ks.getD z.toNat 0)) H)) (_:(¬z<(ks.length:Int)->E (.ref cN) none H))
theorem Gn(T:Tx K mg a):bI P w K mg base (Wm P w) 1 a.aey a.adZ ["kinds","rank"] (Fg a.V5):=by
 refine T.aeG.F.WQ Fq (λf H Q E h=>?_) (λj A d s H f Q E l h=>?_)
 ·obtain⟨p,b,z,rfl,_⟩:=h;rfl
 obtain⟨p,b,z,rfl,e,k,q,g⟩:=h;refine(_,(ao (bR (aP Rv (pv 1) (aF aG rfl T.V0 Tw.bu (VJ 0 aj))) (aB (dz T.Za rfl (aq cg aj))) aV)
  (aB (aN (bN dM (pv 0) (pv 1))))),1)
 have i:‹b›.length=b.length:=aaa ..;refine(8,p,9,.inl (My.of e),4,9,dZ (λc=>?_) λc=>?_)
 ·have c:((‹b›.length:Nat):Int)<=z:=of_decide_eq_true c;exact(sl1,g ⋯)
 ·have c:¬((‹b›.length:Nat):Int)<=z:=λy=>c (decide_eq_true y);refine(8,p,_,4,My.of e,1,q ⋯);obtain⟨m,rfl⟩:∃m:Nat,z=(m:Int):=(z.toNat,6);refine jD ?_;rw[aak,aav,aaA,aac ⋯];rfl
inductive xf(cN:Addr)(vs:List V)(H:Hp)(Q:VK)(E:XK):Prop
 | mk (p:Addr) (os:List Int) (_:vs=[.ref p]) (_:H p=some (.lst !!os)) (_:os.length<=100000) (_:gj os) (_:(zm os (hO (kdN os)) -> ∀r H',H r=none->aL H H'->H' r=some (.lst ‹Js os (hO (kdN os))›)->Q (.ref r) H')) (_:(¬zm os (hO (kdN os)) -> ∀H',aL H H'->E (.ref cN) none H'))
theorem wW(T:Tx K mg a):bI P w K mg base (Wm P w) 5 a.acP a.aci ["octets"] (xf a.V5):=by
 refine T.acZ.F.WQ cL (λvs H Q E h=>?_) (λb3 A a4 s H vs Q E C h=>?_)
 ·obtain⟨p,b,rfl,_⟩:=h;rfl
 obtain⟨p,b,rfl,hp,hl,X,q,M⟩:=h;refine(_,(ao (aD 1 cL.nd (cY T.aaK (jO T) ∅ C gk rfl (VJ 0 (aq aA (aq (aY (v:=.int 2) rfl T.Yg (_,7)) (aq aA aj))))))
  (ao (aD 2 cL.nd (bN dM (pv 1) aA))
  (ao (aD 3 cL.nd (aC bj aA (aC cH aA (aY (v:=.int 2) rfl T.Yg (_,7)))))
  (ao (qW (i:=4) cL.nd rfl (ahH rfl) (kE rfl bU.zero (bY (cY T.aaK (jO T) ∅ C gk rfl (VJ 0 (VJ 3 (aq (aY (v:=.int 26) rfl T.aaY (_,7)) (aq (bN dM (pv 1) aA) aj)))))) (λ_ _ _ _=>dN) (λ_ _ _ _=>(aC cP (pv 0) (aC vh aA aA)))))
  (ao (aD 3 cL.nd (aC bj (pv 3) (aC cH (aY (v:=.int 26) rfl T.aaY (_,7)) (aF aG rfl T.V0 Tw.bu (VJ 4 aj)))))
  (ao (aD 5 cL.nd (bh aj))
  (ao (bK fO rfl (iW rfl T.Xi (aq (aX T.aaW (mj T) C (aq (aF aG rfl T.V0 Tw.bu (VJ 4 aj)) aj)) aj)) (aM 6 cL.nd) (ao (bF (dj PySem.F.plainAttrs_list PySem.F.slot_list_append PySem.F.type_list_append bW (pv 5) (aq (cY T.adz (wC T) ∅ C gk rfl (VJ 0 (VJ 3 (VJ 2 aj)))) aj)))
  (aB (aD 3 cL.nd (aC bj (aC bj (pv 3) (aC cH (aY (v:=.int 4) rfl T.aaM (_,7)) (aX T.aaF (jq T) C (VJ 2 aj)))) (aC cH (aY (v:=.int 2) rfl T.Yg (_,7)) (aC bj (aX T.aaF (jq T) C (VJ 2 aj)) aA)))))))
  (aB (aN (BK rfl (bU.one (j:=4) rfl (agH rfl) rfl rfl (agH rfl)) (bY (aX T.ad6 (Dl T) C (VJ 5 (VJ 2 aj)))) (λ_ _ _ _=>dN) (λ_ _ _ _ _ _ _ en=>(cY T.aeG (Gn T) ∅ C (yz en λ_ _ z=>z) rfl (VJ 1 (VJ 0 aj)))))))))))))),1)
 have hv:∀d,0<=gJ ((b.drop d).take 2)/\gJ ((b.drop d).take 2)<=65535:=λd=>CN (λy hy=>X y (afO (afN hy))) (by rw[aam];lia);have a7:=hv 1;have a6:=hv 3;have en:gJ ((b.drop 1).take 2)=((V4 b:Nat):Int):=by
  unfold V4;lia
 have ek:gJ ((b.drop 3).take 2)=((kdN b:Nat):Int):=by
  unfold kdN;lia
 refine(9,p,b,(1),(2),(2),7,hp,5,5,5,λk Z H1 b0 L Y=>?_,λm _ f L=>M (λz=>by have:=z.a5;lia) f L);have a5:5<=b.length:=by lia
 replace Y:H1 Z=some (.lst [.int ((V4 b:Nat):Int),.int ((kdN b:Nat):Int)]):=by
  rw[Y,<-en,<-ek];rfl
 exists 9,Z,_,4,My.of Y,7;exists 4,.inl (5,5),4;show gh 3 (.int 5) _ _ _;refine(8,9,Z,_,4,My.of Y,7,p,b,(5),26,kdN b,7,L _ _ hp,6,5,5,λk r2 H2 a9 s2 x2=>?_,λm h0 f s2=>M (λz=>by have:=z.kd;lia) f (L.trans s2));have b1:kdN b<=3900:=by
  rcases k with z|z
  ·lia
  ·lia
 have kd:5+26*kdN b<=b.length:=by
  rcases k with z|z
  ·exact z
  ·lia
 exists r2,7,(_,My.of x2);refine rR (λz=>z-10^60) (My.of x2) (by rw[aaa,aaG,sizeLine_eq];lia) (λ_ _ _ q=>q) (λz f Q _ _ q=>(9,4,(5,5,5),4,q)) λt a3=>?_;have s3:=au a3 (.lst ‹oO b›);have xk:upd H2 t (.lst ‹oO b›) t=some (.lst ‹oO b›):=aa;have g:=(L.trans s2).trans s3;show gh 4 (.ref t) _ (upd H2 t (.lst ‹oO b›)) _;generalize upd H2 t (.lst ‹oO b›)=H3 at *;have U:‹oO b›.length=kdN b:=(aaa ..).trans (m9 b);exists 8,t,9,.inl (My.of xk),4,.inl (6,6),4;rw[U];show gh 3 (.int (5+26*(kdN b:Int))) _ _ _;rw[show (5+26*(kdN b:Int))=((5+26*kdN b+stp (V4 b)*0:Nat):Int) by lia];refine(sl0,λr R=>?_);have s4:=au R (.lst []);have a0:upd H3 r (.lst []) r=some (.lst (([]:List Addr).map V.ref)):=aa;have W:=R;refine(9,t,9,.inl (My.of (s4 _ _ xk)),kdN b,(by rw[U];rfl),6,λh N=>?_);generalize upd H3 r (.lst [])=H4 at *;have b2:=zp ⋯ N;rw[Hg N]at q M;have a2:=g _ _ hp;refine((h:Int),7,6,6,1);rw[aav];have S:V4 b<=65535:=by lia
 refine nY (n:=h) (λi σ f=>∃(B:List Addr) (k6:Option V),σ=[!!!p,!!!Z,some (.int ((V4 b:Nat):Int)),some (.int ((5+26*kdN b+stp (V4 b)*i:Nat):Int)),!!!t,!!!r,k6]/\aL H3 f/\f r=some (.lst (B.map V.ref))/\pY f B (qy b i)/\r∉B /\ ∀j,j<i->5+26*kdN b+stp (V4 b)*j+4*many (V4 b)<=b.length\/V4 b=0) ?_ ?_ ?_
 ·exact([],none,7,s4,a0,(7,λi l xs e=>by cases e),nofun,λj hj=>absurd hj (agp _))
 ·rintro i σ f hi ⟨B,k6,rfl,x,J,u,G,hc⟩;refine(9,.inl (7,_,My.of J),8,9,p,b,5+26*kdN b+stp (V4 b)*i,V4 b,7,x _ _ a2,S,λk l H5 Xo o I=>?_,λm H5 o=>M (λz=>m (z.XQ i hi)) H5 (g.trans (x.trans o)));have O:l≠r:=λz=>by rw[z,J]at Xo;cases Xo
  exists r,4,o _ _ J,?_
  ·rw[aaa,u.1,sizeLine_eq];unfold qy;rw[aaa,aaG];lia
  have s6:=bc (x.trans o) W (.lst (B.map V.ref++[.ref l]));exists 8,V4 b,7,4,.inl (6,6),4,9,V4 b,7,4,4,.inl (6,6),4;have er:qy b (i+1)=qy b i++[oW b (5+26*kdN b+stp (V4 b)*i) (V4 b)]:=by
   unfold qy;rw[afU,aaf];rfl
  refine(B++[l],some (.int (0+(i:Int))),1,s6,by rw[aa,aaf];rfl,1,1,λj hj=>?_)
  ·have e:((5+26*kdN b+stp (V4 b)*i:Nat):Int)+4*((many (V4 b):Nat):Int)+2*(((many (V4 b):Nat):Int)+1)=((5+26*kdN b+stp (V4 b)*(i+1):Nat):Int):=by
    rw[aht];unfold stp;lia
   rw[<-e];rfl
  ·rw[er];exact((u.same o).upd G).snoc (by rw[aK O];exact I)
  ·intro z;rcases aas.mp z with z|z
   ·exact G z
   ·exact O (aao.mp z).symm
  ·rcases aik.mp hj with z|rfl
   ·exact hc j z
   ·exact k
 ·rintro σ f ⟨B,k6,rfl,x,J,u,G,hc⟩;refine(8,r,B,qy b h,V4 b,7,J,u,λbs hb=>?_,S,λrk H5 a8 o I=>?_)
  ·obtain⟨i,_,rfl⟩:=aaz.mp hb;exact(jk _ _ _,zb _ _ _)
  have I:H5 rk=some (.lst ‹GP b h›):=I;have a1:=o _ _ (x _ _ xk);exists rk,7,(_,My.of I);refine GF (λz=>(oO b).getD z.toNat 0) (λz=>z<(kdN b:Int)) (My.of I) (by rw[Nv,sizeLine_eq];lia) (λ_ _ _ q=>q) (λz f Q N Xp qq=>?_) λhG D hD=>?_
  ·refine(8,t,oO b,z,7,Xp _ _ a1,Bw z N,λc=>qq (by rw[m9]at c;exact c),λc=>M (λy=>c (by rw[m9];exact y.rk z N)) _ (((g.trans x).trans o).trans Xp))
  ·exact q (a5,kd,hc,hG) D _ (((g.trans x).trans o).free hD) (((g.trans x).trans o).trans (au hD _)) aa
theorem yg{K:PySem.W.Frag}{a b:Addr}{xs ys:List V}{n:L2.St}(r:V->V->Bool)(g:V->V->V)(T:My K H a xs)(S:My K H b ys)(hz:xs.length<sizeLine)
  (E:∀(x y:V) (H':Hp) (Q:Bool->Hp->Prop),x∈xs->y∈ys->aL H H'->Q (r x y) H'->L (some x::some y::n) H' Q)
  (X:∀(x y:V) (H':Hp) (Q:VK),x∈xs->y∈ys->aL H H'->Q (g x y) H'->ta (some x::some y::n) H' Q)
  (q:∀D H',H D=none->aL H H'->H' D=some (.lst (((xs.zip ys).filter λp=>r p.1 p.2).map λp=>g p.1 p.2))->m D H'):qj K (Yr K a b) n L ta m H:=by
 intro D A;have U:(xs.zip ys).length=min xs.length ys.length:=ahr;exists λi d z u=>d=(xs.zip ys).length-i/\i<=(xs.zip ys).length/\aL H u/\z=((((xs.zip ys).take i).filter λp=>r p.1 p.2).map λp=>g p.1 p.2)/\u D=some (.lst z),(9,aaH _,au A _,7,aa);rintro i d z u ⟨rfl,Y,k,rfl,h⟩;have B:=k.seq T;have C:=k.seq S;by_cases l:i<(xs.zip ys).length
 ·have M:i<xs.length:=by lia
  have J:i<ys.length:=by lia
  have O:=aac M;have N:=aac J;have I:=afL M;have G:=afL J;refine .inr ((_,_,_,_,B,C,O,N),λv Z y=>?_);obtain⟨p,x,y,R,rfl,rfl,t,s⟩:=y;have t:=t _ B;have s:=s _ C;rw[O]at t;rw[N]at s;cases t;cases s;have o:=au R (.tup [xs[i],ys[i]]);have j:(xs.zip ys).take (i+1)=(xs.zip ys).take i++[(pq (xs[i]) (ys[i]))]:=by
   rw[aed,aac l];simp
  have F:=age (λp:V×V=>r p.1 p.2) ((xs.zip ys).take i);rw[aam]at F;refine(p,_,9,VM.of aa,E _ _ _ _ I G (k.trans o) ?_);by_cases f:r xs[i] ys[i]=true
  ·rw[if_pos f];refine X _ _ _ _ I G (k.trans o) (o _ _ h,by rw[aaa];lia,(xs.zip ys).length-(i+1),6,7,l,bc (k.trans o) A _,1,aa);rw[j,agb,aaf];simp[f]
  ·rw[if_neg f];refine((xs.zip ys).length-(i+1),6,7,l,k.trans o,1,o _ _ h);rw[j,agb,aaf];simp[f]
 ·have e:i=(xs.zip ys).length:=by lia
  subst e;refine .inl ((_,_,B,C,1),q D u A k ?_)
  ·rw[U];rcases ahG xs.length ys.length with c|c
   ·exact .inl ⋯
   ·exact .inr ⋯
  ·rw[afK]at h;exact h
theorem yS(x y:Str):(x++y).cps.toList=x.cps.toList++y.cps.toList:=by
 show (x.cps++y.cps).toList=_;exact afY
inductive xx(vs:List V)(H:Hp)(Q:VK)(_e1:XK):Prop
 | mk (t u:Str) (d:Nat) (_:vs=[.str t,.int ((d:Int)+1),.str u]) (_:t.length<=5000) (_:u.length<=1) (_:Q (.str (beg t d++u)) H)
theorem wU(T:Tx K mg a):bI P w K mg base VR 1 a.acJ a.ab9 ["ahead","depth","letter"] xx:=by
 refine T.acX.F.V2 xT λc A b s H e Q E g h=>?_;obtain⟨t,u,d,rfl,ht,f,q⟩:=h;exists _,(aB (aN (aC fZ (aQ vI (pv 0) bz (aR (aC cP (pv 1) aA))) (pv 2))));refine(8,4,9,t,7,by rw[sizeLine_eq];lia,1);rw[aib,ux];have i:=jA t d;refine(9,beg t d,u,7,7,by rw[sizeLine_eq];lia,q)
theorem mQ:∀k,k<26->letters.cps.toList[k]?=some (97+k):=by decide +kernel
def Wc:List Int->List Int->Str->List Str
 |d::b,c::e,t=>(beg t (d-1).toNat++⟨#[(c+97).toNat]⟩)::Wc b e (beg t (d-1).toNat++⟨#[(c+97).toNat]⟩)
 |[],_,_=>[]
 |_::_,[],_=>[]
theorem ik:∀(ds cs:List Int) (t:Str),(Wc ds cs t).length=min ds.length cs.length
 |d::ds,c::cs,t=>by
  show (Wc ds cs _).length+1=min (ds.length+1) (cs.length+1);rw[ik ds cs];lia
 |[],_,_=>by simp[Wc]
 |_::_,[],_=>by simp[Wc]
theorem uE:∀{i:Nat}{ds cs:List Int}{t:Str}{d c:Int},ds[i]?=some d->cs[i]?=some c -> ∃u,(t::Wc ds cs t)[i]?=some u/\(Wc ds cs t)[i]?=some (beg u (d-1).toNat++⟨#[(c+97).toNat]⟩)
 |0,d::ds,c::cs,t,_,_,rfl,rfl=>(t,7,7)
 |i+1,d::ds,c::cs,t,_,_,e,b=>by
  obtain⟨u,g,f⟩:=uE (i:=i) (ds:=ds) (cs:=cs) (t:=beg t (d-1).toNat++⟨#[(c+97).toNat]⟩) (by simpa using e) (by simpa using b);exact(u,g,f)
 |_,[],_,_,_,_,h,_=>by simp at h
 |_,_::_,[],_,_,_,_,h=>by simp at h
theorem zK(x:Str)(c:Nat):(x++(⟨#[c]⟩:Str)).length=x.length+1:=by
 show (x.cps ++ #[c]).size=_;rw[aiZ];rfl
theorem rz{ds cs:List Int}(hd:∀d∈ds,1<=d/\d<=3000){u:Str}(h:u∈Wc ds cs ⟨#[]⟩):u.length<=3000:=by
 obtain⟨i,c⟩:=agy h;have b:=(aad.mp c).1;rw[ik]at b;obtain⟨v,_,e⟩:=uE (t:=⟨#[]⟩) (aac (show i<ds.length by lia)) (aac (show i<cs.length by lia));rw[c]at e;cases e;have f:=hd _ (afL (show i<ds.length by lia));rw[zK,jA];lia
def Wv(ds ls es:List Int):List Str:=((((⟨#[]⟩:Str)::Wc (ds.drop 1) ls ⟨#[]⟩).zip es).filter λp=>decide (p.2=1)).map (·.1)
def rG(c:Int):Prop:=0<=c/\c<26
inductive Be(cW:Addr)(vs:List V)(H:Hp)(Q:VK)(E:XK):Prop
 | mk (pd pl pe:Addr) (ds ls es:List Int) (_:vs=[.ref pd,.ref pl,.ref pe]) (_:H pd=some (.lst !!ds)) (_:H pl=some (.lst !!ls)) (_:H pe=some (.lst !!es)) (_:(∀d∈ds.drop 1,1<=d/\d<=3000)) (_:ds.length<=5000) (_:((∀c∈ls.take (ds.length-1),rG c) -> ∀r H',H r=none->aL H H'->H' r=some (.lst ((Wv ds ls es).map V.str))->Q (.ref r) H')) (_:(¬(∀c∈ls.take (ds.length-1),rG c) -> ∀H',aL H H'->E (.ref cW) none H'))
theorem CW(T:Tx K mg a):bI P w K mg base (Wm P w) 2 a.adW a.adh ["depths","letters","ends"] (Be a.WM):=by
 refine T.ad8.F.WQ jz (λvs H Q E h=>?_) (λb1 A a6 s H vs Q E hr h=>?_)
 ·obtain⟨pd,pl,pe,f,k,es,rfl,_⟩:=h;rfl
 obtain⟨pd,pl,pe,f,k,es,rfl,hd,hl,he,W,b0,q,qE⟩:=h;refine(_,(ao (aD 3 jz.nd (bh (aq cg aj)))
  (ao (bK fO rfl (lH rfl T.Yn Tw.lg (aq (aQ bx (pv 0) (aR aA) bz) (VJ 1 aj))) (iK rfl (bG (aM 4 jz.nd) (bG (aM 5 jz.nd) fW))) (ao (bR (lV (qm vH tU aA (pv 5) (aF cA rfl T.V0 Tw.bu (aq (aY (v:=.str "abcdefghijklmnopqrstuvwxyz") rfl T.acv (_,7)) aj)))) (aB (dz T.aee rfl (aq cg aj))) aV)
  (aB (bF (dj PySem.F.plainAttrs_list PySem.F.slot_list_append PySem.F.type_list_append bW (pv 3) (aq (aX T.acX (wU T) hr (aq (bN dM (pv 3) (oX jQ aA)) (VJ 4 (aq (bN vU (aY (v:=.str "abcdefghijklmnopqrstuvwxyz") rfl T.acv (_,7)) (pv 5)) aj)))) aj))))))
  (aB (aN (JB rfl (bU.zero,7,5) (lH rfl T.Yn Tw.lg (VJ 3 (VJ 2 aj))) (λ_ _ _ _=>(lq (aP fQ (pv 1) aA))) (λ_ _ _ _=>(pv 0))))))),1)
 refine(sl1,λr G=>?_)
 have s1:=au G (.lst [V.str ""])
 have C:upd H r (.lst [V.str ""]) r=some (.lst ([(⟨#[]⟩:Str)].map V.str)):=aa
 generalize upd H r (.lst [V.str ""])=H1 at *
 refine(8,pd,9,My.of (s1 _ _ hd),λc B=>?_);have ec:fc ‹f› (some 1) none=(f.drop 1).map V.int:=by rw[show (1:Int)=((1:Nat):Int)from rfl,gU,agX]
 rw[ec];have s2:=au B (.lst ‹f.drop 1›);have a2:c≠r:=(aH C B).symm;have xc:upd H1 c (.lst ‹f.drop 1›) c=some (.lst ‹f.drop 1›):=aa
 replace C:=s2 _ _ C
 generalize upd H1 c (.lst ‹f.drop 1›)=H2 at *;have J:=s1.trans s2;have a1:pl≠r:=aH hl G;have a7:pe≠r:=aH he G;exists 9,c,pl,_,9,My.of xc,My.of (J _ _ hl);refine pR (xs:=(f.drop 1).map V.int) (ys:=k.map V.int) (λj σ I=>∃(k4 k5:Option V),σ=[!!!pd,!!!pl,!!!pe,!!!r,k4,k5]/\(∀b o,b≠r->H2 b=some o->I b=some o)/\I r=some (.lst (((⟨#[]⟩:Str)::(Wc (f.drop 1) k ⟨#[]⟩).take j).map V.str)) /\ ∀c∈k.take j,rG c) (none,none,7,λ_ _ _ e=>e,C,λc B=>by simp at B) ?_ ?_ ?_
 ·rintro j σ I _ ⟨_,_,_,M,_⟩;exact(My.of (M _ _ a2 xc),My.of (M _ _ a1 (J _ _ hl)))
 ·rintro j x y σ I pr hx hy ⟨k4,k5,rfl,M,C,L⟩ a3;obtain⟨d,O,rfl⟩:=int_at hx;obtain⟨z,hz,rfl⟩:=int_at hy;have s3:=au a3 (.tup [.int d,.int z]);have S:aL H I:=λb o e=>M b o (aH e G) (J _ _ e);have a4:=(aad.mp O).1;rw[aaq]at a4;have hm:z∈k.take (f.length-1):=aar (i:=j) (by rw[af2 ⋯];exact hz);have X:¬rG z->E (.ref a.WM) none (upd I pr (.tup [.int d,.int z])):=λn=>qE (λg=>n (g z hm)) _ (S.trans s3);exists pr,9,VM.of aa,7,_,9,4;refine(9,4,9,dZ (λc=>?_) λc=>?_)
  rotate_left
  ·have c:¬(0:Int)<=z:=λn=>c (decide_eq_true n);exact(9,fP (sl1,X λn=>c n.1))
  have c':(0:Int)<=z:=of_decide_eq_true c;exists letters,7,by rw[sizeLine_eq];decide,4,9;by_cases c2:z<26
  rotate_left
  ·rw[decide_eq_false (show ¬z<((letters.length:Nat):Int)from c2)];exact fP (sl1,X λn=>c2 n.2)
  rw[decide_eq_true (show z<((letters.length:Nat):Int)from c2)];refine fM ?_;have N:=s3 _ _ C;obtain⟨u,e1,e2⟩:=uE (t:=⟨#[]⟩) O hz;have a8:j<(Wc (f.drop 1) k ⟨#[]⟩).length:=(aad.mp e2).1;obtain⟨d1,d2⟩:=W d (aar O);have R:∃U,((⟨#[]⟩:Str)::(Wc (f.drop 1) k ⟨#[]⟩).take j)=U++[u]:=by
   have e:((⟨#[]⟩:Str)::(Wc (f.drop 1) k ⟨#[]⟩).take j)=(((⟨#[]⟩:Str)::Wc (f.drop 1) k ⟨#[]⟩)).take (j+1):=rfl;rw[e,aed,e1];exact(_,7)
  obtain⟨U,a0⟩:=R;have a9:u.length<=3000:=by
   rcases aat.mp (aar e1)with rfl|hu
   ·exact aaH _
   ·exact rz W hu
  have a5:Ws (((⟨#[]⟩:Str)::(Wc (f.drop 1) k ⟨#[]⟩).take j).map V.str) (-1)=some (.str u):=by
   rw[a0,aaf];exact mX _ _
  exists 9,.inl (7,_,My.of N),8,r,_,4,My.of N,a5,8,letters,z,97+z.toNat,7,7,5,?_
  ·obtain⟨m,rfl⟩:∃m:Nat,z=(m:Int):=(z.toNat,6);exact jD (mQ _ ⋯)
  exists u,⟨#[97+z.toNat]⟩,(d-1).toNat,(by rw[show (((d-1).toNat:Nat):Int)+1=d by lia];rfl),6,aae 1;refine(r,4,N,1,(_,9,λb o n e=>?_,1,λc B=>?_))
  ·rw[aaa,aah,aam,ik,aaq,sizeLine_eq];lia
  ·rw[aK n];exact s3 _ _ (M b o n e)
  ·rw[aa,aed,e2,show (z+97).toNat=97+z.toNat by lia];simp
  ·rw[aed,hz]at B;rcases aas.mp B with B|B
   ·exact L c B
   ·rw[show c=z by simpa using B];exact(c',c2)
 ·rintro σ I ⟨k4,k5,rfl,M,C,L⟩;have S:aL H I:=λb o e=>M b o (aH e G) (J _ _ e);rw[aaa,aaa,aaq]at C L;have Y:(Wc (f.drop 1) k ⟨#[]⟩).take (min (f.length-1) k.length)=Wc (f.drop 1) k ⟨#[]⟩:=aal (by rw[ik,aaq];exact aae _);rw[Y]at C;have Z:∀c∈k.take (f.length-1),rG c:=λc B=>L c (by
   rcases ahG (f.length-1) k.length with z|z
   ·rw[af0 z];exact B
   ·rw[agL z,afK];exact afN B)
  exists 8,r,pe,_,9,My.of C,My.of (S _ _ he);refine yg (λ_ y=>decide (y=V.int 1)) (λx _=>x) (My.of C) (My.of (S _ _ he)) (by rw[aaa,aah,ik,aaq,sizeLine_eq];lia) (λx y I Q _ hy _ q=>?_) (λx y I Q _ _ _ q=>(9,q)) λD HD hD sD xD=>q Z D HD (S.free hD) (S.trans sD) ?_
  ·obtain⟨z,_,rfl⟩:=aaz.mp hy;exact(9,7,9,q)
  ·rw[xD];unfold Wv;refine congrArg (λl=>some (HO.lst l)) ?_;rw[aju,ah2,afZ,afZ];refine congrArg (List.map _) (ai0 λp _=>?_);exact decide_eq_decide.mpr (λh=>V.int.inj h,λh=>congrArg V.int h)
def eQ(os:List Int):List Int:=oW os 3 (V4 os)
def J8(os:List Int):Prop:=3<=os.length/\3+4*many (V4 os)<=os.length
inductive An(cN:Addr)(vs:List V)(H:Hp)(Q:VK)(E:XK):Prop
 | mk (p:Addr) (os:List Int) (_:vs=[.ref p]) (_:H p=some (.lst !!os)) (_:gj os) (_:(J8 os -> ∀r H',H r=none->aL H H'->H' r=some (.lst ‹eQ os›)->Q (.ref r) H')) (_:(¬J8 os -> ∀H',aL H H'->E (.ref cN) none H'))
theorem qI(T:Tx K mg a):bI P w K mg base (Wm P w) 5 a.adk a.acO ["octets"] (An a.V5):=by
 refine T.abV.F.WQ Af (λt H Q E h=>?_) (λD A k s H t Q E m h=>?_)
 ·obtain⟨p,b,rfl,_⟩:=h;rfl
 obtain⟨p,b,rfl,n,e,q,l⟩:=h;exists _,(aB (aN (cY T.adz (wC T) ∅ m gk rfl (VJ 0 (aq (aC bj aA (aY (v:=.int 2) rfl T.Yg (_,7))) (aq (cY T.abU (qe T) ∅ m gk rfl (VJ 0 (aq aA (aq (aY (v:=.int 2) rfl T.Yg (_,7)) aj)))) aj))))));have G:0<=gJ ((b.drop 1).take 2)/\gJ ((b.drop 1).take 2)<=65535:=CN (λy u=>e y (afO (afN u))) (by rw[aam];lia);have B:gJ ((b.drop 1).take 2)=((V4 b:Nat):Int):=by
  unfold V4;lia
 refine(9,4,9,p,b,(1),(2),7,n,λx I d=>?_,λc C d=>l (λz=>by have:=z.1;lia) C d);rw[B];refine(p,b,(3),V4 b,7,d _ _ n,6,λj r g i f o=>q (6,1) r g (d.free i) (d.trans f) o,λc g f=>l (λz=>c (.inl z.2)) g (d.trans f));rcases j with z|z
 ·exact z
 ·rw[z];exact x
def WW(os:List Int):List Int:=X6 (eQ os) (eQ os).length
theorem Bd{os:List Int}(h:Tree (eQ os)):cB (WW os)/\brk (WW os) 0=eQ os:=by
 obtain⟨c,b,e⟩:=N7 (jk os 3 (V4 os)) h;unfold WW eQ;rw[<-e,HS b];exact(b,7)
def Kc(os:List Int):Prop:=J8 os/\(eQ os).length<=4096/\Tree (eQ os)
inductive uP(c1:Addr)(c2:Addr)(c3:Addr)(vs:List V)(H:Hp)(Q:VK)(E:XK):Prop
 | mk (p:Addr) (os:List Int) (_:vs=[.ref p]) (_:H p=some (.lst !!os)) (_:gj os) (_:(Kc os -> ∀r H',H r=none->aL H H'->H' r=some (.lst ‹WW os›)->Q (.ref r) H')) (_:(¬Kc os -> ∀H',aL H H'->E (.ref c1) none H'/\E (.ref c2) none H'/\E (.ref c3) none H'))
theorem v8(T:Tx K mg a):bI P w K mg base (Wm P w) 6 a.ach a.abN ["octets"] (uP a.V5 a.WT a.WY):=by
 refine T.acs.F.WQ vA (λx H Q E h=>?_) (λI A n s H x Q E o h=>?_)
 ·obtain⟨p,c,rfl,_⟩:=h;rfl
 obtain⟨p,c,rfl,B,f,q,j⟩:=h;exists _,(aB (aN (cY T.adx (zG T) ∅ o gk rfl (aq (cY T.abV (qI T) ∅ o gk rfl (VJ 0 aj)) aj))));refine(9,p,c,7,B,f,λm y C G d v=>?_,λe D d=>(j (λz=>e z.1) D d).1);exists y,eQ c,7,My.of v;have t:=jk c 3 (V4 c);by_cases g:(eQ c).length<=4096
 ·by_cases b:Tree (eQ c)
  ·exact .inl (g,t,b,λr k l i u=>q (m,g,b) r k (d.free l) (d.trans i) u)
  ·exact .inr (.inr (.inr (g,t,b,λk i=>(j (λz=>b z.2.2) k (d.trans i)).2.2)))
 ·exact .inr (.inl (6,(j (λz=>g z.2.1) C d).2.1))
theorem mF{ds:List Int}(h:cB ds):∀(i:Nat) (d:Int),ds[i]?=some d->0<=d/\d<=(i:Int)
 |0,d,e=>by
  rw[h.1]at e;cases e;exact(ahC _,ahC _)
 |i+1,d,e=>by
  have c:=(aad.mp e).1;obtain⟨x,b⟩:∃x,ds[i]?=some x:=(_,aac ⋯);have g:=mF h i x b;have f:=h.2 i x d b e;lia
theorem vf{ds:List Int}(h:cB ds)(f:ds.length<=2048):∀d∈ds.drop 1,1<=d/\d<=3000:=λd hd=>by
 obtain⟨i,b⟩:=agy hd;rw[aga,ahE]at b;have e:=(aad.mp b).1;obtain⟨x,c⟩:∃x,ds[i]?=some x:=(_,aac ⋯);have j:=mF h _ d b;have g:=h.2 i x d c b;lia
def tln(n:Nat):Nat:=3+(4*many n+2*(many n+1))+2*many n
def Ww(os:List Int):List Int:=os.drop (1+tln (eQ (os.drop 1)).length)
noncomputable def W3(os:List Int):List Int:=Js (Ww os) (hO (kdN (Ww os)))
noncomputable def msO(ns:List Int):List Int:=Classical.epsilon (Kinds ns)
theorem M6{ns ms:List Int}(h:Kinds ns ms):msO ns=ms:=(Classical.epsilon_spec (p:=Kinds ns) (ms,h)).uniq h
noncomputable def sln(ns:List Int):Nat:=(Wh ns (msO ns) (hO (msO ns).length)).length
noncomputable def X7(os:List Int):List Int:=(Ww os).drop (sln (W3 os))
structure Zi(os:List Int):Prop where
 td:Kc (os.drop 1)
 tl:zm (Ww os) (hO (kdN (Ww os)))
 len:(W3 os).length<=4096
 inr:Xj (W3 os)
 tb:J8 (X7 os)
 az:∀c∈(W3 os).take ((WW (os.drop 1)).length-1),rG c
noncomputable def iJ(os:List Int):List Str:=Wv (WW (os.drop 1)) (W3 os) (eQ (X7 os))
theorem gj.drop{os:List Int}(h:gj os)(k:Nat):gj (os.drop k):=λy b=>h y (afO b)
theorem Kc.dlen{os:List Int}(h:Kc os):cB (WW os)/\(WW os).length<=2048/\(brk (WW os) 0).length=(eQ os).length:=by
 have b:=Bd h.2.2;have c:=iQ b.1;have d:=h.2.1;rw[b.2]at c;exact(b.1,6,by rw[b.2])
inductive xN(a:Ad)(vs:List V)(H:Hp)(Q:VK)(E:XK):Prop
 | mk (p:Addr) (os:List Int) (_:vs=[.ref p]) (_:H p=some (.lst !!os)) (_:os.length<=100000) (_:gj os) (_:(Zi os -> ∀r H',H r=none->aL H H'->H' r=some (.lst ((iJ os).map V.str))->Q (.ref r) H')) (_:(¬Zi os -> ∀H' c,aL H H'->c∈[a.V5,a.WT,a.WY,a.Xg,a.WM]->E (.ref c) none H'))
theorem xP(T:Tx K mg a):bI P w K mg base (Wm P w) 9 a.aaI a.acj ["octets"] (xN a):=by
 refine T.aaL.F.WQ fU (λvs H Q E h=>?_) (λa8 A a2 s H vs Q E t h=>?_)
 ·obtain⟨p,b,rfl,_⟩:=h;rfl
 obtain⟨p,b,rfl,hp,hl,j,q,g⟩:=h;refine(_,(ao (aD 1 fU.nd (cY T.acs (v8 T) ∅ t gk rfl (aq (aQ bx (pv 0) (aR aA) bz) aj)))
  (ao (aD 2 fU.nd (aQ bx (pv 0) (aR (aC bj aA (aF aG rfl T.V0 Tw.bu (aq (aX T.aaE (jn T) t (VJ 1 aj)) aj)))) bz))
  (ao (aD 3 fU.nd (cY T.acZ (wW T) ∅ t gk rfl (VJ 2 aj)))
  (ao (aD 4 fU.nd (cY T.abV (qI T) ∅ t gk rfl (aq (aQ bx (pv 2) (aR (aF aG rfl T.V0 Tw.bu (aq (cY T.ZP (fX T) ∅ t gk rfl (VJ 3 aj)) aj))) bz) aj)))
  (aB (aN (cY T.ad8 (CW T) ∅ t gk rfl (VJ 1 (VJ 3 (VJ 4 aj)))))))))),1)
 refine(8,p,9,My.of hp,λc0 X=>?_);rw[show fc ‹b› (some 1) none=(b.drop 1).map V.int by rw[show (1:Int)=((1:Nat):Int)from rfl,gU,agX]];have D:=au X (.lst ‹b.drop 1›);refine(c0,b.drop 1,7,aa,j.drop 1,λm r1 H1 a7 d f=>?_,λc M d=>?_)
 rotate_left
 ·have n:¬Zi b:=λz=>c z.td;exact(g n _ _ (D.trans d) (by simp),g n _ _ (D.trans d) (by simp),g n _ _ (D.trans d) (by simp))
 obtain⟨Yw,x,Wg⟩:=m.dlen
 replace d:=D.trans d
 refine(8,r1,WW (b.drop 1),7,f,x,Yw,λr2 H2 i a6 s2 S x2=>?_);have el:(dH (brk (WW (b.drop 1)) 0) i).length=tln (eQ (b.drop 1)).length:=by
  rw[gF (by rw[(Bd m.2.2).2];exact jk _ _ _),S.len,Wg];rfl
 have N:=d.trans s2;refine(r2,9,.inl (My.of x2),4,9,p,9,My.of (N _ _ hp),λv W=>?_);have ec:fc ‹b› (some (1+((‹dH (brk (WW (b.drop 1)) 0) i›.length:Nat):Int))) none=(Ww b).map V.int:=by
  rw[aaa,el,show (1:Int)+((tln (eQ (b.drop 1)).length:Nat):Int)=((1+tln (eQ (b.drop 1)).length:Nat):Int) by lia,gU,<-agX];rfl
 rw[ec];have C:=au W (.lst ‹Ww b›);have B:upd H2 v (.lst ‹Ww b›) v=some (.lst ‹Ww b›):=aa
 replace C:=s2.trans C
 replace f:=C _ _ f
 replace d:=d.trans C
 generalize upd H2 v (.lst ‹Ww b›)=H3 at *;have a3:(Ww b).length<=b.length:=by
  unfold Ww;rw[aaq];lia
 have y:gj (Ww b):=j.drop _;refine(9,v,Ww b,7,B,6,y,λl L H4 Y5 u o=>?_,λc M u=>g (λz=>c z.tl) _ _ (d.trans u) (by simp))
 replace f:=u _ _ f
 replace B:=u _ _ B
 replace d:=d.trans u
 have hU:(oO (Ww b)).length<=4000:=by
  have:=l.kd;rw[m9];lia
 have o:H4 L=some (.lst ‹W3 b›):=o;exists 8,L,W3 b,7,My.of o;by_cases e:(W3 b).length<=4096
 rotate_left
 ·exact .inr (.inl (6,g (λz=>e z.len) _ _ d (by simp)))
 by_cases G:Xj (W3 b)
 rotate_left
 ·exact .inr (.inr (e,G,g (λz=>G z.inr) _ _ d (by simp)))
 refine .inl (e,(_,hU,MJ l),G,λr4 ms h4 H5 a5 s5 hk hz x4=>?_);have a0:(Wh (W3 b) ms h4).length=sln (W3 b):=by
  unfold sln;rw[M6 hk,Hg hz]
 refine(r4,9,.inl (My.of x4),9,v,9,My.of (s5 _ _ B),λc2 U=>?_);have a1:fc ‹Ww b› (some ((‹Wh (W3 b) ms h4›.length:Nat):Int)) none=(X7 b).map V.int:=by
  rw[aaa,a0,gU,<-agX];rfl
 rw[a1];have J:=s5.trans (au U (.lst ‹X7 b›));have Y:gj (X7 b):=y.drop _
 replace f:=J _ _ f
 replace o:=J _ _ o
 replace d:=d.trans J
 refine(c2,X7 b,7,aa,Y,λO r5 H6 a4 k x5=>?_,λc M k=>g (λz=>c z.tb) _ _ (d.trans k) (by simp));refine(8,9,r1,L,r5,WW (b.drop 1),W3 b,eQ (X7 b),7,k _ _ f,k _ _ o,x5,vf Yw x,6,λZ r H7 R I x7=>?_,λc M I=>g (λz=>c z.az) _ _ (d.trans (k.trans I)) (by simp));exact q (m,l,e,G,O,Z) r H7 ((d.trans k).free R) (d.trans (k.trans I)) x7
def Chn:Nat->List Int->Prop
 |_,[]=>True
 |l,d::b=>1<=d/\d<=(l:Int)+1/\Chn d.toNat b
theorem K9:∀{ds:List Int}{x:Int},0<=x->(∀(i:Nat) (b y:Int),(x::ds)[i]?=some b->(x::ds)[i+1]?=some y->1<=y/\y<=b+1)->Chn x.toNat ds
 |[],_,_,_=>trivial
 |d::ds,x,g,h=>by
  have c:=h 0 x d rfl rfl;exact(c.1,6,K9 ⋯ λi b y f e=>h (i+1) b y f e)
theorem yq{ds:List Int}(h:cB ds):Chn 0 (ds.drop 1):=by
 cases ds with
 |nil=>exact trivial
 |cons d ds=>
  have e:d=0:=by
   have:=h.1;cases this;rfl
  subst e;exact K9 (ahC 0) h.2
theorem Ia:∀{ds cs:List Int}{t:Str}{U:List Str},Chn t.length ds->(∀k,beg t k∈U) -> ∀u∈Wc ds cs t,∀k,beg u k∈U++Wc ds cs t
 |d::ds,c::cs,t,U,h,l,u,b,k=>by
  obtain⟨o,n,m⟩:=h;have j:=jA t (d-1).toNat;have g:(beg t (d-1).toNat++(⟨#[(c+97).toNat]⟩:Str)).length=d.toNat:=by
   rw[zK,j];lia
  have f:∀k,beg (beg t (d-1).toNat++(⟨#[(c+97).toNat]⟩:Str)) k∈U++[beg t (d-1).toNat++(⟨#[(c+97).toNat]⟩:Str)]:=λk=>by
   rcases afF k d.toNat with z|z
   ·have e:beg (beg t (d-1).toNat++(⟨#[(c+97).toNat]⟩:Str)) k=beg t k:=dw (by
     rw[bw,bw,yS,bw,ahU (by rw[aam,aag];show k<=min (d-1).toNat t.length;lia),ahy,af0 ⋯])
    rw[e];exact afQ _ (l k)
   ·rw[nQ (beg t (d-1).toNat++(⟨#[(c+97).toNat]⟩:Str)) (by rw[g];exact z)];exact aap _ (afJ _)
  have i:U++Wc (d::ds) (c::cs) t=(U++[beg t (d-1).toNat++(⟨#[(c+97).toNat]⟩:Str)])++Wc ds cs (beg t (d-1).toNat++(⟨#[(c+97).toNat]⟩:Str)):=by
   rw[aay];rfl
  rw[i];rcases aat.mp b with rfl|b
  ·exact afQ _ (f k)
  ·exact Ia (by rw[g];exact m) f u b k
 |[],_,_,_,_,_,_,b,_=>by cases b
 |_::_,[],_,_,_,_,_,b,_=>by cases b
theorem Ai{ds ls es:List Int}{u:Str}(h:u∈Wv ds ls es):u∈(⟨#[]⟩:Str)::Wc (ds.drop 1) ls ⟨#[]⟩:=by
 obtain⟨p,b,rfl⟩:=aaz.mp h;exact(ag1 (aho.mp b).1).1
theorem G9(ds ls es:List Int):(Wv ds ls es).length<=ds.length-1+1:=by
 unfold Wv;have b:=age (λp:Str×Int=>decide (p.2=1)) (((⟨#[]⟩:Str)::Wc (ds.drop 1) ls ⟨#[]⟩).zip es);rw[ahr,aah,ik,aaq]at b;rw[aaa];lia
theorem Hr(k:Nat):beg (⟨#[]⟩:Str) k=⟨#[]⟩:=dw (by rw[bw];exact ahw)
theorem Az{ds ls es:List Int}(h:cB ds)(c:ds.length<=2048):zE (Wv ds ls es) 2048:=by
 have e:1<=ds.length:=by
  cases ds with
  |nil=>cases h.1
  |cons d ds=>exact Nat.succ_le_succ (aaH _)
 refine((⟨#[]⟩:Str)::Wc (ds.drop 1) ls ⟨#[]⟩,by rw[aah,ik,aaq];lia,aan,λu b k=>?_);rcases aat.mp (Ai b)with rfl|b
 ·rw[Hr];exact aan
 ·exact Ia (t:=⟨#[]⟩) (U:=[⟨#[]⟩]) (yq h) (λk=>by rw[Hr];exact afJ _) u b k
theorem zX{n:Nat}:∀{ws:List Str},(∀w∈ws,w.length<=n)->much ws<=n*ws.length
 |[],_=>aaH _
 |w::ws,h=>by
  have d:=h w aan;have c:=zX λv b=>h v (aaj _ b);show w.length+much ws<=n*(ws.length+1);rw[aht];lia
structure GoodW(os:List Int):Prop where
 oc:gj os
 wo:Zi os
 low:∀x∈iJ os,Wb x
 nd:(iJ os).Nodup
 st:Z9 (iJ os) os
theorem Zi.few{os:List Int}(h:Zi os):(∀x∈iJ os,x.length<=3000)/\(iJ os).length<=2048/\zE (iJ os) 2048:=by
 obtain⟨d,b,_⟩:=h.td.dlen;have e:1<=(WW (os.drop 1)).length:=(aad.mp d.1).1;refine(λx c=>?_,agd (G9 _ _ _) ⋯,Az d b);rcases aat.mp (Ai c)with rfl|c
 ·exact aaH _
 ·exact rz (vf d b) c
inductive Em(a:Ad)(vs:List V)(H:Hp)(Q:VK)(E:XK):Prop
 | mk (p:Addr) (os:List Int) (_:vs=[.ref p,.ref a.aaI,.ref a.aaB]) (_:H p=some (.lst !!os)) (_:os.length<=100000) (_:(GoodW os -> ∀r H',H r=none->aL H H'->H' r=some (.lst ((iJ os).map V.str))->Q (.ref r) H')) (_:(¬GoodW os -> ∀H',aL H H'->E (.ref a.V5) none H'))
theorem GJ(T:Tx K mg a):bI P w K mg base (Xw P w) 10 a.aew a.adX ["octets","tell","write"] (Em a):=by
 refine T.aeF.F.ok1 o9 (λW H Q E h=>?_) (λa2 A S s H W Q E G h=>?_)
 ·obtain⟨p,l,rfl,_⟩:=h;rfl
 obtain⟨p,l,rfl,L,Z,q,k⟩:=h;refine(_,(ao (bF (cY T.abR (um T) ∅ G Ri rfl (VJ 0 aj)))
  (ao (QH rfl rfl (λ_ _=>(ao (aD 3 o9.nd (Ca (xP T) ∅ G Oo (i:=1) rfl T.aaL.F.kp T.aaL.b (VJ 0 aj)))
  (aB (aD 4 o9.nd (Ca (lO T) ∅ G Oo (i:=2) rfl T.ZQ.F.kp T.ZQ.b (VJ 3 aj)))))) (Kp T.aeO T.aeP rfl T.Za rfl (λ_=>(aq cg aj)) PB))
  (ao (bR (aP (pC G.units) (pv 4) (pv 0)) (aB (DY T.Za rfl (aq cg aj))) aV)
  (aB (aN (pv 3)))))),1)
 refine(9,p,l,7,L,λo=>?_,λn=>k (λg=>n g.oc) H (.refl _));refine(7,9,p,l,7,L,Z,o,λB r H1 R j U=>?_,λC H' c j M=>?_)
 rotate_left
 ·have n:¬GoodW l:=λg=>C g.wo;have M:c=a.V5\/c=a.WT\/c=a.WY\/c=a.Xg\/c=a.WM:=by simpa using M
  rcases M with rfl|rfl|rfl|rfl|rfl
  ·exact(9,λ e f=>(true,T.Zc,fP λu d=>(sl1,aa,k n _ (j.trans (au d _)))))
  ·exact(9,λ e f=>(true,T.Z3,fP λu d=>(sl1,aa,k n _ (j.trans (au d _)))))
  ·exact(9,λ e f=>(true,T.Z2,fP λu d=>(sl1,aa,k n _ (j.trans (au d _)))))
  ·exact(9,λ e f=>(true,T.Z1,fP λu d=>(sl1,aa,k n _ (j.trans (au d _)))))
  ·exact(9,λ e f=>(true,T.Zd,fP λu d=>(sl1,aa,k n _ (j.trans (au d _)))))
 obtain⟨f1,f2,f3⟩:=B.few;refine(7,9,r,iJ l,7,My.of U,f1,6,1);by_cases t:∀x∈iJ l,Wb x
 rotate_left
 ·refine .inl (1,λN m=>(9,λ e f=>(true,T.Zd,fP λu d=>(sl1,aa,k (λg=>t g.low) _ ((j.trans m).trans (au d _))))));exact Classical.byContradiction λz=>t λx J=>Classical.byContradiction λy=>z (x,J,y)
 by_cases I:(iJ l).Nodup
 rotate_left
 ·exact .inr (.inl (t,I,λN m=>(9,λ e f=>(true,T.Z4,fP λu d=>(sl1,aa,k (λg=>I g.nd) _ ((j.trans m).trans (au d _)))))))
 have Y:much (iJ l)<=90000:=by
  have:=zX (n:=40) λx J=>(t x J).1;lia
 refine .inr (.inr (t,I,Y,f3,λX O N a0 m v a1 V=>?_));refine(8,.inl (X,p,4,My.of V,My.of (m _ _ (j _ _ L)),1));by_cases D:O=l
 ·rw[decide_eq_true D];exact(9,fM (9,q (o,B,t,I,D ▸ v) r N R (j.trans m) (m _ _ U)))
 ·rw[decide_eq_false D];exact(9,fP (sl1,k (λg=>D (v.uniq g.st)) _ (j.trans m)))
inductive xX(cN:Addr)(vs:List V)(H:Hp)(Q:VK)(E:XK):Prop
 | mk (p:Addr) (os:List Int) (_:vs=[.ref p]) (_:H p=some (.lst !!os)) (_:os.length<=100000) (_:(GoodW os -> ∀r H',H r=none->aL H H'->H' r=some (.lst ((iJ os).map V.str))->Q (.ref r) H')) (_:(¬GoodW os -> ∀H',aL H H'->E (.ref cN) none H'))
theorem xg(T:Tx K mg a):bI P w K mg base (Xw P w) 11 a.acL a.ace ["octets"] (xX a.V5):=by
 refine T.acY.F.ok1 wY (λd H Q E h=>?_) (λk A b s H d Q E e h=>?_)
 ·obtain⟨p,c,rfl,_⟩:=h;rfl
 obtain⟨p,c,rfl,j,i,g,f⟩:=h;exists _,(aB (aN (cY T.aeF (GJ T) ∅ e Ri rfl (VJ 0 (aq (aY (v:=.ref a.aaI) rfl T.aaL.m rfl) (aq (aY (v:=.ref a.aaB) rfl T.ZQ.m rfl) aj))))));exact(9,p,c,7,j,i,g,f)
theorem qQ{m:Nat}{xs:List Int}{y:Int}(h:y∈xs.flatMap λx=>aZ x m):0<=y/\y<=255:=by
 obtain⟨x,_,h⟩:=agz.mp h;exact pP h
theorem tD{ns:List Int}(f:aO ns)(k:Nat):0<=fL ns k/\fL ns k<256^4:=by
 have b:aO ((ns.drop (32*k)).take 32):=λx c=>f x (afO (afN c));exists wJ b;have i:=Nb b;have d:((ns.drop (32*k)).take 32).length<=32:=by
  rw[aam];lia
 have h:(2:Int)^((ns.drop (32*k)).take 32).length<=2^32:=by
  have:=aiD (show 0<2 by decide) d;have e:∀n:Nat,(2:Int)^n=((2^n:Nat):Int):=λn=>by simp
  rw[e,e];lia
 have g:(2:Int)^32=256^4:=by decide
 show blk ((ns.drop (32*k)).take 32)<_;lia
theorem pX{b:Type}{f:b->List Int}{m:Nat}:∀{L:List b}{j:Nat}{x:b} (r:List Int),(∀y∈L,(f y).length=m)->L[j]?=some x -> ∃c,(L.flatMap f++r).drop (m*j)=f x++c
 |[],_,_,_,_,h=>by simp at h
 |y::L,0,x,r,_,h=>by
  cases h;exact(L.flatMap f++r,by rw[Nat.mul_zero,agE,ag2,aay])
 |y::L,j+1,x,r,d,h=>by
  obtain⟨c,e⟩:=pX (L:=L) (j:=j) r (λz g=>d z (aaj _ g)) (by simpa using h);exact(c,by rw[ag2,aay,aht,ahE,<-agc,ag7 (d y aan),e])
theorem DG:∀{l:List (Int×Int)} {rs:List Int}{p:Int},0<=p->(∀q∈l,0<=q.1/\q.1≠p)->(layB rs l)[p.toNat]?=rs[p.toNat]?
 |[],_,_,_,_=>rfl
 |q::l,rs,p,c,h=>by
  have d:=h q aan;have:=DG (l:=l) (rs:=rs.set q.1.toNat (2*rs.getD q.1.toNat 0+q.2)) c λz b=>h z (aaj _ b);show (layB _ l)[p.toNat]?=_;rw[this,agO ⋯]
theorem G4:∀{l:List (Int×Int)} {rs:List Int},(l.map (·.1)).Nodup->(∀q∈l,0<=q.1/\q.1<(rs.length:Int)) -> ∀q∈l,(layB rs l)[q.1.toNat]?=some (2*rs.getD q.1.toNat 0+q.2)
 |[],_,_,_,_,h=>nomatch h
 |q::l,rs,f,d,z,c=>by
  rw[aax,agv]at f;have j:=d q aan;have g:∀y∈l,y.1≠q.1:=λy b e=>f.1 (e ▸ List.mem_map_of_mem b);show (layB (rs.set q.1.toNat (2*rs.getD q.1.toNat 0+q.2)) l)[z.1.toNat]?=_;rcases aat.mp c with rfl|c
  ·rw[DG j.1 λy b=>((d y (aaj _ b)).1,g y b),agT ⋯]
  ·have k:=d z (aaj _ c);have i:=G4 (l:=l) (rs:=rs.set q.1.toNat (2*rs.getD q.1.toNat 0+q.2)) f.2 (λy b=>by rw[ahZ];exact d y (aaj _ b)) z c;have nz:=g z c;rw[i,aaA,agO ⋯,<-aaA]
theorem Lr(f:Int->Int)(od bs:List Int):mJ (od.map f) bs=(mJ od bs).map f:=by
 have e:∀c:Int,(((od.map f).zip bs).filter λp=>decide (V.int p.2=V.int c)).map (λp=>p.1)=(((od.zip bs).filter λp=>decide (V.int p.2=V.int c)).map (λp=>p.1)).map f:=λc=>by
  rw[List.zip_map_left,ah2,afZ,afZ];rfl
 unfold mJ;rw[e,e,aaf]
theorem yh:∀{od bs:List Int},aO bs->bs.length=od.length->(mJ od bs).Perm od
 |[],[],_,_=>.nil
 |[],_::_,_,h=>by simp at h
 |_::_,[],_,h=>by simp at h
 |z::od,b::bs,d,h=>by
  have c:=yh (od:=od) (bs:=bs) (λy e=>d y (aaj _ e)) (by simpa using h);unfold mJ at c ⊢;rw[ahL,agq,agq];rcases d b aan with rfl|rfl
  ·rw[if_pos (by simp),if_neg (by simp),aax,agm];exact c.cons z
  ·rw[if_neg (by simp),if_pos (by simp),aax];exact List.perm_middle.trans (c.cons z)
theorem Nf(z:Int)(k:Nat):2*(z / 2^(k+1))+bit z k=z / 2^k:=by
 unfold bit;rw[agQ,<-ahb (by exact Int.le_of_lt (ai7 ∅))];lia
theorem G7(b:Int->Int)(n:Nat):∀(k:Nat) (od rs:List Int),od.Perm (upto n)->rs.length=n->(∀p∈od,rs.getD p.toNat 0=b p / 2^k) -> ∀p:Nat,p<n->(Yj (V3 k (od.map b)) od rs)[p]?=some (b p)
 |0,od,rs,d,o,h,p,j=>by
  have m:(p:Int)∈od:=d.mem_iff.mpr (aaz.mpr (p,af5.mpr j,7));have:=h p m;rw[aav,ahS,ahD,aaA,aac ⋯]at this;show rs[p]?=_;rw[aac ⋯];exact congrArg some this
 |k+1,od,rs,d,o,h,p,j=>by
  have u:aO ((od.map b).map λz=>bit z k):=λx B=>by
   obtain⟨z,_,rfl⟩:=aaz.mp B;unfold bit;lia
  have C:((od.map b).map λz=>bit z k).length=od.length:=by rw[aaa,aaa]
  have f:=yh u C;have t:∀z∈od,0<=z/\z<(n:Int):=λz A=>by
   obtain⟨i,g,rfl⟩:=aaz.mp (d.mem_iff.mp A);have:=af5.mp g;lia
  have s:(upto n).Nodup:=by
   refine aih.mpr ((List.nodup_range (n:=n)).imp λh e=>h ⋯)
  have y:od.Nodup:=d.nodup_iff.mpr s;have r:(od.zip ((od.map b).map λz=>bit z k)).map (·.1)=od:=ai3 ⋯;have v:=G4 (l:=od.zip ((od.map b).map λz=>bit z k)) (rs:=rs) (by rw[r];exact y) λq c=>by
   rw[o];exact t q.1 (ag1 c).1
  show (Yj (V3 k (YS (od.map b) k)) (mJ od ((od.map b).map λz=>bit z k)) (layB rs (od.zip ((od.map b).map λz=>bit z k))))[p]?=_;rw[<-Cr,Lr];refine G7 b n k _ _ (f.trans d) ((nF _ _).trans o) (λq c=>?_) p j;have c:=f.mem_iff.mp c;obtain⟨i,g⟩:=agy c;have m:(pq q (bit (b q) k))∈od.zip ((od.map b).map λz=>bit z k):=aar (aie.mpr (show od[i]?=some (pq q (bit (b q) k)).1/\_=some (pq q (bit (b q) k)).2 from (g,by rw[aak,aak,g];rfl)));have:=v _ m;rw[aaA,this,h q c];exact Nf (b q) k
theorem Jc(ns ms:List Int)(h:Nat):Wh ns ms h=3::(aZ (ns.length:Int) 2++(aZ (ms.length:Int) 2++((ms.map λz=>z+10^60).flatMap (λx=>aZ x 26)++(V3 h (rks ms ns)).flatMap (W2 ns.length)))):=by
 unfold Wh;simp
theorem gQ(x:Int)(m:Nat)(r:List Int):(aZ x m++r).take m=aZ x m:=List.take_left' (aW x m)
theorem Ht{ns ms:List Int}(rs:List Int)(hl:ns.length<=4096)(s:Xj ns)(U:Kinds ns ms)(hz:iH ms.length (2^d))(hm:ms.length<=3000):gj (Wh ns ms d)/\kdN (Wh ns ms d++rs)=ms.length/\zm (Wh ns ms d++rs) d/\Js (Wh ns ms d++rs) d=ns:=by
 obtain⟨k,W⟩:∃k,k=Wh ns ms d++rs:=(_,7);have H:=W;have I:=Jc ns ms d;have O:(rks ms ns).length=ns.length:=by unfold rks;exact aaa ..
 have u:∀g∈V3 d (rks ms ns),aO g/\g.length=ns.length:=λg l=>((kj d _ g l).1,((kj d _ g l).2).trans O);have Q:∀g∈V3 d (rks ms ns),(W2 ns.length g).length=stp ns.length:=λg l=>Ac (u g l).2;obtain⟨n,o⟩:∃n,n=(V3 d (rks ms ns)).flatMap (W2 ns.length):=(_,7);obtain⟨t,q⟩:∃t,t=(ms.map λz=>z+10^60).flatMap (λx=>aZ x 26):=(_,7);rw[<-o,<-q]at I
 replace H:k=3::(aZ (ns.length:Int) 2++(aZ (ms.length:Int) 2++(t++(n++rs)))):=by
  rw[H,I];simp
 have T:t.length=26*ms.length:=by rw[q,bC,aaa]
 have d1:k.drop 1=aZ (ns.length:Int) 2++(aZ (ms.length:Int) 2++(t++(n++rs))):=by rw[H];rfl
 have Z:k.drop 3=aZ (ms.length:Int) 2++(t++(n++rs)):=by
  rw[show (3:Nat)=1+2 from rfl,<-agc,d1];exact ag7 (aW _ _)
 have Y:k.drop 5=t++(n++rs):=by
  rw[show (5:Nat)=3+2 from rfl,<-agc,Z];exact ag7 (aW _ _)
 have dL:∀j,k.drop (5+26*ms.length+j)=(n++rs).drop j:=λj=>by
  rw[<-agc,<-agc,Y,<-T,ag7 rfl]
 have J:V4 k=ns.length:=by
  unfold V4;rw[d1,gQ,ie _ _ ⋯ ⋯];exact aav _
 have B:kdN k=ms.length:=by
  unfold kdN;rw[Z,gQ,ie _ _ ⋯ ⋯];exact aav _
 have N:∀z∈ms,-(10:Int)^60<z/\z<10^60:=λz hz=>s z ((U.mem z).mp hz);have e3:oO k=ms:=by
  unfold oO;rw[B];refine af7 λj=>?_;rw[aak,aak];rcases afF j ms.length with c|c
  ·have A:=aac c;rw[agi c,A];have hr:=N _ (afL c);generalize ms[j]=z at *;obtain⟨r',e⟩:=pX (f:=λx=>aZ x 26) (m:=26) (L:=ms.map λz=>z+10^60) (j:=j) (x:=z+10^60) (n++rs) (λy _=>aW y 26) (by rw[aak,A];rfl);show some (gJ ((k.drop (5+26*j)).take 26)-10^60)=some z;have a3:(2:Int)*10^60<256^26:=by decide
   rw[<-agc,Y,q,e,gQ,ie _ _ ⋯ ⋯];exact congrArg some ⋯
  ·rw[aaU (by rw[aaG];exact c),aaU c];rfl
 have R:n.length=stp ns.length*d:=by rw[o,qD λg l=>(u g l).2,fH];rfl
 have r:k.length=5+26*ms.length+stp ns.length*d+rs.length:=by
  rw[H,aah,aab,aab,aab,aab,aW,aW,T,R];lia
 have e4:qy k d=V3 d (rks ms ns):=by
  unfold qy;rw[J,B];refine af7 λi=>?_;rw[aak];rcases afF i d with c|c
  ·obtain⟨g,v⟩:∃g,(V3 d (rks ms ns))[i]?=some g:=(_,aac (by rw[fH];exact c));obtain⟨l,M⟩:=u g (aar v);rw[agi c,v];refine congrArg some ?_;show oW k (5+26*ms.length+stp ns.length*i) ns.length=g;have en:qM k (5+26*ms.length+stp ns.length*i) ns.length=bQ g:=by
    unfold qM bQ;rw[M];refine agr λj A=>?_;have A:=af5.mp A;obtain⟨S,V⟩:=pX (f:=W2 ns.length) (m:=stp ns.length) rs Q v;rw[<-o]at V;obtain⟨r2,g2⟩:=pX (f:=λx=>aZ x 4) (m:=4) (L:=bQ g) (j:=j) (x:=fL g j) ((We g (many ns.length)).flatMap (λx=>aZ x 2)++S) (λy _=>aW y 4) (by unfold bQ;rw[M,aak,agi A];rfl);obtain⟨b0,b1⟩:=tD l j;rw[<-agc,dL,V];show gJ (((((bQ g).flatMap (λx=>aZ x 4)++(We g (many ns.length)).flatMap (λx=>aZ x 2))++S).drop (4*j)).take 4)=_;rw[aay,g2,gQ,ie _ _ b0 b1]
   unfold oW;rw[en,<-M];exact yd l
  ·rw[aaU (by rw[aaG];exact c),aaU (by rw[fH];exact c)];rfl
 have D:∀z∈ns,z∈ms:=λz hz=>(U.mem z).mpr hz;have h2:ms.length<=2^d:=by
  obtain⟨h',eh,a1,_⟩:=hz;exact a1
 have E:∀z∈rks ms ns,0<=z/\z<(ms.length:Int):=λz hz=>by
  obtain⟨y,b,rfl⟩:=aaz.mp hz;have:=ahu (D y b);lia
 have X:GP k d=rks ms ns:=by
  unfold GP;rw[e4,J];have G:rks ms ns=(upto ns.length).map λp=>(rks ms ns).getD p.toNat 0:=by
   refine af7 λj=>?_;unfold upto;rw[aak,aak];rcases afF j ns.length with c|c
   ·rw[agi c];show _=some ((rks ms ns).getD ((j:Int)).toNat 0);rw[aav,aaA,aac ⋯];rfl
   ·rw[aaU ⋯,aaU (by rw[aaG];exact c)];rfl
  have C:=G7 (λp=>(rks ms ns).getD p.toNat 0) ns.length d (upto ns.length) (aai ns.length 0) (.refl _) aaw λp hp=>?_
  rotate_left
  ·obtain⟨i,s,rfl⟩:=aaz.mp hp;have s:=af5.mp s;have a2:((2^d:Nat):Int)=(2:Int)^d:=by
    rw[Int.natCast_pow];rfl
   rw[aav,aaA,aha,if_pos s,aaA,aac ⋯];obtain⟨a0,a1⟩:=E _ (afL (show i<(rks ms ns).length by lia));exact(Int.ediv_eq_zero_of_lt a0 (by show (rks ms ns)[i]<2^d;lia)).symm
  rw[<-G]at C;refine af7 λj=>?_;rcases afF j ns.length with c|c
  ·rw[C j c,aav,aaA,aac ⋯];rfl
  ·rw[aaU (by rw[zz,aaw];exact c),aaU ⋯]
 have e6:Js k d=ns:=by
  unfold Js;rw[X,e3];unfold rks;rw[afZ]
  conv=>rhs;rw[<-List.map_id ns]
  refine agr λz hz=>?_;have F:=ahu (D z hz);show ms.getD ((ms.idxOf z:Int)).toNat 0=z;rw[aav,aaA,aac F];exact aiQ F
 rw[<-W];refine(λy b=>?_,B,(6,by rw[B,r];lia,λi s=>?_,λz hz=>?_),e6)
 ·rw[I]at b;rcases aat.mp b with rfl|b
  ·decide
  rcases aas.mp b with b|b
  ·exact pP b
  rcases aas.mp b with b|b
  ·exact pP b
  rcases aas.mp b with b|b
  ·rw[q]at b;exact qQ b
  ·rw[o]at b;obtain⟨g,_,b⟩:=agz.mp b;unfold W2 at b;rcases aas.mp b with b|b
   ·exact qQ b
   ·exact qQ b
 ·refine .inl ?_;rw[J,B,r];have:stp ns.length*(i+1)<=stp ns.length*d:=aiK _ s;rw[aht]at this;have:stp ns.length=4*many ns.length+2*(many ns.length+1):=rfl;lia
 ·rw[X]at hz;rw[B];exact(E z hz).2
def frB(t:Int)(ns rest:List Int):List Int:=t::(aZ (ns.length:Int) 2++((bQ ns).flatMap (λx=>aZ x 4)++rest))
theorem Ck{t:Int}{ns rest:List Int}(e:aO ns)(r:ns.length<=4096):J8 (frB t ns rest)/\eQ (frB t ns rest)=ns:=by
 obtain⟨b,d⟩:∃b,b=frB t ns rest:=(_,7);have h:b.drop 1=aZ (ns.length:Int) 2++((bQ ns).flatMap (λx=>aZ x 4)++rest):=by rw[d];rfl
 have n:b.drop 3=(bQ ns).flatMap (λx=>aZ x 4)++rest:=by
  rw[show (3:Nat)=1+2 from rfl,<-agc,h];exact ag7 (aW _ _)
 have g:V4 b=ns.length:=by
  unfold V4;rw[h,gQ,ie _ _ ⋯ ⋯];exact aav _
 have i:b.length=3+4*many ns.length+rest.length:=by
  rw[d];unfold frB;rw[aah,aab,aab,aW,bC,bJ];lia
 rw[<-d];exists (6,by rw[g];lia);have l:qM b 3 ns.length=bQ ns:=by
  unfold qM bQ;refine agr λj c=>?_;have c:=af5.mp c;obtain⟨q,k⟩:=pX (f:=λx=>aZ x 4) (m:=4) (L:=bQ ns) (j:=j) (x:=fL ns j) rest (λy _=>aW y 4) (by unfold bQ;rw[aak,agi c];rfl);obtain⟨p,o⟩:=tD e j;rw[<-agc,n,k,gQ,ie _ _ p o]
 unfold eQ oW;rw[g,l];exact yd e
theorem vd{ds ls es ms os:List Int}(j:cB ds)(G:ds.length<=2048)(k:v7 (brk ds 0) c)(l:ls.length<=4096)(z:Xj ls)(s:Kinds ls ms)(hz:iH ms.length (2^d))(y:ms.length<=3000)(A:aO es)(m:es.length<=4096)(u:os=[4]++dH (brk ds 0) c++Wh ls ms d++jL es):
  Kc (os.drop 1)/\WW (os.drop 1)=ds/\zm (Ww os) (hO (kdN (Ww os)))/\W3 os=ls/\J8 (X7 os)/\eQ (X7 os)=es:=by
 have i:=eU ds 0;have H:=iQ j;have E:os.drop 1=frB 2 (brk ds 0) ((We (brk ds 0) (many (brk ds 0).length)).flatMap (λx=>aZ x 2)++(c.flatMap (λx=>aZ x 2)++(Wh ls ms d++jL es))):=by
  rw[u];unfold dH frB;simp
 obtain⟨r,f⟩:=Ck (t:=2) (rest:=(We (brk ds 0) (many (brk ds 0).length)).flatMap (λx=>aZ x 2)++(c.flatMap (λx=>aZ x 2)++(Wh ls ms d++jL es))) i ⋯;rw[<-E]at r f;have n:WW (os.drop 1)=ds:=by
  unfold WW;rw[f,HS j]
 have b:Ww os=Wh ls ms d++jL es:=by
  unfold Ww;have e:tln (eQ (os.drop 1)).length=(dH (brk ds 0) c).length:=by
   rw[f,gF i,k.len];rfl
  rw[e,u,aay,aay];show ((4:Int)::(dH (brk ds 0) c++(Wh ls ms d++jL es))).drop (1+_)=_;rw[ahE,aiI,ag7 rfl]
 obtain⟨_,D,C,B⟩:=Ht (jL es) l z s hz y;have v:hO (kdN (Ww os))=d:=by
  rw[b,D];exact Hg hz
 have g:W3 os=ls:=by
  unfold W3;rw[v,b,B]
 have o:X7 os=jL es:=by
  unfold X7 sln;rw[g,M6 s,Hg hz,b,ag7 rfl]
 have F:jL es=frB 1 es ((We es (many es.length)).flatMap (λx=>aZ x 2)):=by
  unfold jL frB;simp
 obtain⟨q,p⟩:=Ck (t:=1) (rest:=(We es (many es.length)).flatMap (λx=>aZ x 2)) A m;rw[<-F,<-o]at q p;refine((r,by rw[f];lia,by rw[f];exact qH j),n,1,g,q,p);rw[v,b];exact C
def pO(x:Str):Prop:=∀c∈x.cps.toList,97<=c/\c<=122
theorem Ff:∀k,k<26->letters.cps.toList[k]?=some (97+k):=by decide +kernel
theorem add_list(x y:Str):(x++y).cps.toList=x.cps.toList++y.cps.toList:=by
 show (x.cps++y.cps).toList=_;exact afY
theorem z7(x y:Str):(x++y).length=x.length+y.length:=by
 show (x.cps++y.cps).size=x.cps.size+y.cps.size;exact aiZ
theorem pO.add{x y:Str}(h:pO x)(h':pO y):pO (x++y):=λc b=>by
 rw[add_list]at b;rcases aas.mp b with b|b
 ·exact h c b
 ·exact h' c b
theorem pO.cut{x:Str}(h:pO x)(lo d:Option Int):pO (oN x lo d):=λc b=>by
 unfold oN at b;rw[ahf]at b;exact h c (afO (afN b))
theorem Wb.cut{x:Str}(h:Wb x)(lo b:Option Int):Wb (oN x lo b):=(agd (tE _ _ _) h.1,pO.cut h.2 lo b)
def QX(x:Str):Prop:=∀c∈x.cps.toList,c<=127
theorem Wb.asc{x:Str}(h:Wb x):QX x:=λc b=>by
 have:=(h.2 c b).2;lia
theorem cI.few{ws :List Str}(c:cI ws N):N.length<=much ws+1:=by
 have b:N.Nodup:=ai1 (R:=Wr) (λ{x y} h (e:x=y)=>b8 y (by rw[e]at h;exact h)) c.up;have:=oJ (U:=⟨#[]⟩::ws.flatMap gb) b λz d=>by
  rw[aat,agz];exact(qz ws z).mpr ((c.mem z).mp d)
 rw[aah,jX]at this;exact this
theorem Qa{w:Str}(h:QX w):PyData.strOk w=true:=by
 unfold PyData.strOk;rw[Array.all_eq_true'];intro x b;have:=h x (by simpa using b);exact decide_eq_true ⋯
theorem tu:∀ws:List Str,(∀w∈ws,QX w)->PyData.canLayAll0 (ws.map PyData.str)=true
 |[],_=>rfl
 |v::r,h=>by
  rw[aax];simp only[PyData.canLayAll0,PyData.canLay0,tu r λw b=>h w (aaj _ b),Qa (h v aan),aiR]
theorem vq:∀ws:List Str,PyData.depthAll (ws.map PyData.str)<=1
 |[]=>by simp[PyData.depthAll]
 |_::r=>by
  have:=vq r;rw[aax];simp only[PyData.depthAll,PyData.depth];lia
theorem vO{H:Hp}:∀ws:List Str,jZ K H (ws.map V.str) (ws.map PyData.str)
 |[]=>.nil
 |b::r=>.cons (.str b) (vO r)
theorem Io{ws:List Str}(c:∀w∈ws,QX w):SeqAt.shaped (.list (ws.map PyData.str))=true/\PyData.eqv (.list (ws.map PyData.str)) (.list (ws.map PyData.str))=true:=by
 have d:=vq ws;have b:(PyData.list (ws.map PyData.str)).canLay0=true:=by
  simp only[PyData.canLay0,tu ws c]
 refine(1,SeqAt.eqv_refl _ b);unfold SeqAt.shaped;rw[b,aim];refine decide_eq_true ?_;simp only[PyData.depth];lia
theorem Kz{b:List (Key×V)}(h:b.map (·.1)=N.map Sum.inr)(t:Str)(v:V):(putK b (Sum.inr t) v).map (·.1)=(if t∈N then N else N++[t]).map Sum.inr:=by
 have d:(gq b (Sum.inr t)).isSome=decide (t∈N):=by
  rw[<-iB];have:∀(b:List (Key×V)) (N:List Str),b.map (·.1)=N.map Sum.inr->(b.any λf=>decide (f.1=Sum.inr t))=decide (t∈N):=by
   intro b
   induction b with
   |nil=>
    intro N h;cases N with
    |nil=>rfl
    |cons _ _=>cases h
   |cons p b g=>
    intro N h;cases N with
    |nil=>cases h
    |cons a N=>
     rw[aax,aax]at h;injection h with k j
     rw[ail,g N j,k];by_cases e:a=t
     ·subst e;rw[decide_eq_true rfl,ajo];exact(decide_eq_true aan).symm
     ·rw[decide_eq_false (λz=>e (Sum.inr.inj z)),aji];exact decide_eq_decide.mpr (λz=>aaj _ z,λz=>by rcases aat.mp z with z|z;exact absurd z.symm e;exact z)
  exact this b N h
 by_cases c:t∈N
 ·rw[if_pos c];rw[decide_eq_true c]at d;unfold putK;rw[iB,d,if_pos rfl,afZ,<-h];refine agr λp _=>?_;show (if p.1=Sum.inr t then (pq p.1 v)else p).1=p.1;split<;>rfl
 ·rw[if_neg c];rw[decide_eq_false c]at d;have i:gq b (Sum.inr t)=none:=by
   cases e:gq b (Sum.inr t)with
   |none=>rfl
   |some x=>rw[e]at d;cases d
  rw[DX v i,aaf,h,aaf];rfl
inductive O3(K:PySem.W.Frag)(vs:List V)(H:Hp)(Q:VK)(_e1:XK):Prop
 | mk (s:Addr) (zs:List Int) (_:vs=[.ref s]) (_:My K H s !!zs) (_:∀(r:Addr) (ws:List Str) (H':Hp),H r=none->aL H H'->H' r=some (.lst (ws.map V.str))->(∀w∈ws,Wb w)->ws.Nodup->ws.length<=63->much ws<=300->Q (.ref r) H')
theorem Ae(T:Tx K mg a):bI P w K mg base VR 1 a.adl a.acQ ["_law_script"] (O3 K):=by
 refine T.adA.F.V2 bM λc3 A b4 s H vs Q E hr h=>?_;obtain⟨S,M,rfl,hS,q⟩:=h;refine(_,(ao (aD 1 bM.nd cg)
  (ao (aD 2 bM.nd (bh aj))
  (ao (aD 3 bM.nd p8)
  (ao (aD 4 bM.nd aA)
  (ao (aD 5 bM.nd cg)
  (ao (bK PassesOwn.never rfl (bY (aQ bx (pv 0) bz (aR aA))) (aM 6 bM.nd) (ao (aD 7 bM.nd (aC bO (aC cH (pv 6) aA) aA))
  (ao (aD 5 bM.nd (aQ vI (pv 5) bz (aR (aC bO (aC iy (pv 7) aA) (aC bj (aF cA rfl T.V0 Tw.bu (VJ 5 aj)) aA)))))
  (ao (aD 8 bM.nd (aC bO (pv 7) aA))
  (ao (bR (aP fQ (aC bO (aC iy (pv 7) aA) aA) aA) (aB (aD 8 bM.nd (aC cP aA (aF cA rfl T.V0 Tw.bu (VJ 5 aj))))) aV)
  (ao (bK PassesOwn.never rfl (iW rfl T.Xi (aq (aF (nZ rfl) rfl T.ZS Tw.uN (VJ 8 (aq (aC cP aA (aF cA rfl T.V0 Tw.bu (VJ 5 aj))) aj))) aj)) (aM 9 bM.nd) (aB (aD 5 bM.nd (aC fZ (pv 5) (bN vU (pv 1) (aC bO (aC bO (aC cH (aC cH (pv 7) (aC bj (aC cH aA (pv 9)) aA)) aA) aA) aA))))))
  (aB (bR (PW.pt (pI (Aj (Kv (af9 (agl (by decide:1<=64) _) hr.units) (pv 5) (pv 3))) (lJ (aP vH (aC bj (pv 4) (aF cA rfl T.V0 Tw.bu (VJ 5 aj))) aA)))) (ao (qJ (af9 (agl (by decide:1<=64) _) hr.units) (pv 3) (pv 5) cZ rfl)
  (ao (bF (dj PySem.F.plainAttrs_list PySem.F.slot_list_append PySem.F.type_list_append bW (pv 2) (VJ 5 aj)))
  (aB (aD 4 bM.nd (aC bj (pv 4) (aF cA rfl T.V0 Tw.bu (VJ 5 aj))))))) aV))))))))
  (aB (aN (pv 2))))))))),1)
 refine(sl0,λr O=>?_);have s0:=au O (.lst []);intro o R;have s1:=s0.trans (au R (.dK []));have a8:H o=none:=s0.free R;have G:r≠o:=aH aa R;refine(8,S,9,s1.seq hS,λc C=>(c,7,(_,My.of aa),1));have a2:c≠r:=(aH (show upd (upd H r (.lst [])) o (.dK []) r=some (.lst []) by rw[aK G];exact aa) C).symm;have a3:c≠o:=(aH aa C).symm;have a9:fc ‹M› none (some 63)=(M.take 63).map V.int:=Ew M 63;rw[a9];have s2:=s1.trans (au C (.lst ‹M.take 63›));refine cG (xs:=(M.take 63).map V.int) (λi p D=>∃(X W U u:Option V) (f:List Str) (g:Str) (d:List (Key×V)),p=[!!!S,some (.str letters),!!!r,!!!o,some (.int (much f:Int)),some (.str g),X,W,U,u]/\aL H D/\D c=some (.lst ‹M.take 63›)/\D r=some (.lst (f.map V.str))/\D o=some (.dK d)/\d.length<=i/\(∀t:Str,(gq d (Sum.inr t)).isSome=decide (t∈f))/\Wb g/\(∀w∈f,Wb w)/\f.Nodup/\f.length<=i/\much f<=300) (none,none,none,none,[],⟨#[]⟩,[],7,s2,aa,by rw[aK a2.symm,aK G];exact aa,by rw[aK a3.symm];exact aa,aae _,λt=>rfl,(aaH _,λc C=>by cases C),nofun,List.nodup_nil,aae _,aaH _) ?_ ?_ ?_
 ·rintro i p D _ ⟨_,_,_,_,_,_,_,_,_,h,_⟩;exact My.of h
 ·rintro i x p D Y ⟨X,W,U,u,f,g,d,rfl,sm,xc,xr,xk,b1,I,WR,hW,nd,hl,hm⟩;obtain⟨z,hz,rfl⟩:=int_at Y;have hi:=(aad.mp hz).1;have b5:i<63:=by
   rw[aam]at hi;lia
  exists 9,4,.inr (5,5),4,(by show (0:Int)<2147483647;decide);have n0:=ahK (z*48271) (show (2147483647:Int)≠0 by decide);have n1:=ahn (z*48271) (show (0:Int)<2147483647 by decide);show gh 7 (.int (z*48271%2147483647)) _ _ _;generalize z*48271%2147483647=n at *;have a5:g.length<=sizeLine:=by rw[sizeLine_eq];have:=WR.1;lia
  exists 8,4,(5,5),9,g,7,a5,4,4,(by show (0:Int)<(g.length:Int)+1;lia),9,g,7,a5;have B:=WR.cut none (some (n / 40%((g.length:Int)+1)));show gh 5 (.str (oN g none (some (n / 40%((g.length:Int)+1))))) _ _ _;generalize oN g none (some (n / 40%((g.length:Int)+1)))=y at *;have L:y.length<=sizeLine:=by rw[sizeLine_eq];have:=B.1;lia
  have c0:=B.1;exists 9,4,(by show (0:Int)<5;decide);exists 9,4,(5,5),4,(by show (0:Int)<8;decide),7,9;refine RN (λ p H2=>∃m:Int,p=[!!!S,some (.str letters),!!!r,!!!o,some (.int (much f:Int)),some (.str y),!!!!z,!!!!n,!!!!m,u]/\H2=D/\0<=m/\m<=40) (n%5,7,7,6,6) ?_ (λ_ mm=>(9,y,7,L,4,mm _ _ (40-(y.length:Int),7,7,6,6)));rintro p H2 ⟨m,rfl,rfl,m0,b6⟩;obtain⟨cn,b3,b9⟩:∃cn:Nat,(if 40-(y.length:Int)<m then 40-(y.length:Int)else m)=(cn:Int)/\y.length+cn<=40:=by
   split
   ·exact((40-(y.length:Int)).toNat,6,6)
   ·exact(m.toNat,6,6)
  refine(8,y,7,L,4,_,9,(cn:Int),(by rw[<-b3]),6,6,1);rw[aav];refine nY (λj p J=>∃(x:Str) (u:Option V),p=[!!!S,some (.str letters),!!!r,!!!o,some (.int (much f:Int)),some (.str x),!!!!z,!!!!n,!!!!m,u]/\J=H2/\x.length=y.length+j/\pO x) (y,u,7,7,7,B.2) ?_ ?_
  ·rintro j p J hj ⟨x,u,rfl,rfl,YK,N⟩;have a0:=ahK (n*(2*(0+(j:Int))+3)*69621%2147483629) (show (26:Int)≠0 by decide);have a1:=ahn (n*(2*(0+(j:Int))+3)*69621%2147483629) (show (0:Int)<26 by decide);obtain⟨e,ee,he⟩:∃e:Nat,n*(2*(0+(j:Int))+3)*69621%2147483629%26=(e:Int)/\e<26:=by
    generalize n*(2*(0+(j:Int))+3)*69621%2147483629%26=v at *;exact(v.toNat,6,6)
   clear a0 a1
   have b2:Ws letters.cps.toList (n*(2*(0+(j:Int))+3)*69621%2147483629%26)=some (97+e):=by
    rw[ee];exact jD (Ff e he)
   clear ee
   refine(8,8,4,.inl (5,5),4,4,.inl (6,6),4,.inr (5,5),4,(by show (0:Int)<2147483629;decide),4,(by show (0:Int)<26;decide),letters,_,97+e,7,7,5,b2,x,⟨#[97+e]⟩,7,7,1,x++⟨#[97+e]⟩,9,7,1,N.add λc C=>?_)
   ·rw[sizeLine_eq];show x.length+1<=_;lia
   ·rw[z7,YK];rfl
   ·have C:c∈[97+e]:=C;rw[aao.mp C];lia
  ·rintro p J ⟨x,u,rfl,rfl,YK,N⟩;have Y:Wb x:=(6,N);have a4:x.length<=sizeLine:=by rw[sizeLine_eq];lia
   exists 8,o,9,su.k (k:=Sum.inr x) xk,9;have a6:∃(X W U b0:Option V) (l:List Str) (g:Str) (d:List (Key×V)),[!!!S,some (.str letters),!!!r,!!!o,some (.int (much f:Int)),some (.str x),!!!!z,!!!!n,!!!!m,u]=[!!!S,some (.str letters),!!!r,!!!o,some (.int (much l:Int)),some (.str g),X,W,U,b0]/\aL H J/\J c=some (.lst ‹M.take 63›)/\J r=some (.lst (l.map V.str))/\J o=some (.dK d)/\d.length<=i+1/\(∀t:Str,(gq d (Sum.inr t)).isSome=decide (t∈l))/\Wb g/\(∀w∈l,Wb w)/\l.Nodup/\l.length<=i+1/\much l<=300:=(_,_,_,_,f,x,d,7,sm,xc,xr,xk,6,I,Y,hW,nd,6,hm);refine P0 a6 λc1 nn=>(8,x,7,a4,4,4,9,dZ (λc2=>?_) λ_=>nn);have c2:(much f:Int)+(x.length:Int)<=300:=of_decide_eq_true c2;have a7:x∉f:=λh=>by
    rw[I x,decide_eq_true h]at c1;cases c1
   exists 8,o,9,.inl (d,Sum.inr x,xk,7,by rw[sizeLine_eq];lia,7);have Xq:upd J o (.dK (putK d (Sum.inr x) (.bl true))) r=some (.lst (f.map V.str)):=by rw[aK G];exact xr
   exists 9,.inl (7,_,My.of Xq),9,r,4,Xq,?_
   ·rw[aaa,sizeLine_eq];lia
   refine(8,x,7,a4,4,!!!!z,!!!!n,!!!!m,u,f++[x],x,putK d (Sum.inr x) (.bl true),1,bc (bc sm a8 _) O _,by rw[aK a2,aK a3];exact xc,by rw[aa,aaf];rfl,by rw[aK G.symm];exact aa,1,λt=>?_,Y,λv Z=>?_,1,by rw[aab,agI];lia,1)
   ·rw[yV,ai9];rfl
   ·have:=qb d (Sum.inr x) (.bl true);lia
   ·rw[qx];by_cases e:t=x
    ·subst e;rw[if_pos rfl];exact(decide_eq_true (aap _ (afJ _))).symm
    ·rw[if_neg (λz=>e (Sum.inr.inj z)),I t];refine decide_eq_decide.mpr (λz=>afQ _ z,λz=>?_);rcases aas.mp z with z|z
     ·exact z
     ·exact absurd (aao.mp z) e
   ·rcases aas.mp Z with Z|Z
    ·exact hW v Z
    ·rw[aao.mp Z];exact Y
   ·refine aiV.mpr (nd,aio _ _,λa ha b hb e=>?_);rw[aao.mp hb]at e;exact a7 (e ▸ ha)
   ·rw[yV];lia
 ·rintro p D ⟨X,W,U,u,f,g,d,rfl,sm,xc,xr,xk,b1,I,WR,hW,nd,hl,hm⟩;have hl:f.length<=63:=by
   rw[aaa,aam]at hl;lia
  exact(9,q r f D O sm xr hW nd hl hm)
abbrev UpS(l:List Str):Prop:=l.Pairwise (λa b=>¬b.cps.toList<a.cps.toList)
theorem allB_snoc:∀(l:List Str) (u w:Str),allB u (l++[w])=allB u l++fresh (l.getLastD u) w
 |[],u,w=>by
  show fresh u w++[]=[]++fresh u w;rw[afR,ah0]
 |v::l,u,w=>by
  show fresh u v++allB v (l++[w])=(fresh u v++allB v l)++_;rw[allB_snoc l v w,aay,List.getLastD_cons]
theorem FQ{l:List Str}{w:Str}(h:UpS (l++[w])):(l.getLastD ⟨#[]⟩=⟨#[]⟩\/l.getLastD ⟨#[]⟩∈l)/\(∀x∈l,¬(l.getLastD ⟨#[]⟩).cps.toList<x.cps.toList) /\ ¬w.cps.toList<(l.getLastD ⟨#[]⟩).cps.toList:=by
 rcases List.eq_nil_or_concat l with rfl|⟨r,u,rfl⟩
 ·exact(.inl rfl,nofun,agS _)
 ·rw[List.concat_eq_append]at h ⊢;rw[ahx];have c:=afW.mp h;refine(.inr (aap _ (afJ _)),λx b=>?_,c.2.2 u (aap _ (afJ _)) w (afJ _));rcases aas.mp b with b|b
  ·exact(afW.mp c.1).2.2 x b u (afJ _)
  ·rw[aao.mp b];exact ahO _
theorem xZ(u w:Str):(fresh u w).length=w.length-Wf u.cps.toList w.cps.toList:=by
 unfold fresh;rw[aaa,aaG]
theorem Ii(u w:Str){j:Nat}(h:Wf u.cps.toList w.cps.toList<=j)(b:j<w.length):(fresh u w)[j-Wf u.cps.toList w.cps.toList]?=some (beg w (j+1)):=by
 unfold fresh;rw[aak,agi ⋯];show some (beg w (Wf u.cps.toList w.cps.toList+(j-Wf u.cps.toList w.cps.toList)+1))=_;rw[show Wf u.cps.toList w.cps.toList+(j-Wf u.cps.toList w.cps.toList)+1=j+1 by lia]
theorem JN{l base:List Str}{w:Str}(h:UpS (l++[w]))(g:cI l base){j:Nat}(s:j<w.length):
  (if beg w (j+1)∈base++(fresh (l.getLastD ⟨#[]⟩) w).take (j-Wf (l.getLastD ⟨#[]⟩).cps.toList w.cps.toList)then base++(fresh (l.getLastD ⟨#[]⟩) w).take (j-Wf (l.getLastD ⟨#[]⟩).cps.toList w.cps.toList)else base++(fresh (l.getLastD ⟨#[]⟩) w).take (j-Wf (l.getLastD ⟨#[]⟩).cps.toList w.cps.toList)++[beg w (j+1)])=base++(fresh (l.getLastD ⟨#[]⟩) w).take (j+1-Wf (l.getLastD ⟨#[]⟩).cps.toList w.cps.toList):=by
 obtain⟨d,q,p⟩:=FQ h;generalize l.getLastD ⟨#[]⟩=u at *;have r:w.cps.toList.length=w.length:=aag;rcases afF j (Wf u.cps.toList w.cps.toList)with c|c
 ·have y:beg w (j+1)=beg u (j+1):=dw (by rw[bw,bw];exact(wA _ _ _ ⋯).symm);have b:beg w (j+1)∈base:=by
   rcases d with d|d
   ·rw[d]at c;exact absurd c (agp _)
   ·rw[y];exact(g.mem _).mpr (.inr (u,d,j+1,7))
  rw[if_pos (afQ _ b),show j-Wf u.cps.toList w.cps.toList=0 by lia,show j+1-Wf u.cps.toList w.cps.toList=0 by lia]
 ·have f:=Ii u w c s;have o:beg w (j+1)∈fresh u w:=aar f;have k:=(g.snoc d q p).up;have m:beg w (j+1)∉base++(fresh u w).take (j-Wf u.cps.toList w.cps.toList):=λb=>by
   rcases aas.mp b with b|b
   ·exact g.fresh_not d q p _ o b
   ·have v:=(afW.mp k).2.1;obtain⟨i,t,e⟩:=agj b;rw[aam]at t;rw[ag5]at e;obtain⟨n,x⟩:=aad.mp f;have:=afG.mp v i (j-Wf u.cps.toList w.cps.toList) ⋯ n ⋯;rw[e,x]at this;exact b8 _ this
  rw[if_neg m,show j+1-Wf u.cps.toList w.cps.toList=j-Wf u.cps.toList w.cps.toList+1 by lia,agG,f,aay];rfl
theorem cI.take(h:UpS N)(i:Nat):cI (N.take i) (⟨#[]⟩::allB ⟨#[]⟩ (N.take i)):=cI.of_sorted (h.sublist (ahM i N))
def DP:Key->Str
 |.inr t=>t
 |.inl _=>⟨#[]⟩
theorem vN{b:List (Key×V)}(c:b.map (·.1)=N.map Sum.inr)(f:Key->Bool)(g:Key->V):(((b.map aiC).filter f).map g)=(N.filter λt=>f (Sum.inr t)).map λt=>g (Sum.inr t):=by
 rw[show b.map aiC=N.map Sum.inr from c,ah2,afZ];rfl
theorem K8{c:Nat}(h:97<=c/\c<=122):Builtin.Str.occurrences letters ⟨#[c]⟩ 0 letters.length 1=[c-97]:=(sG h).2
theorem zE.begs{ws d:List Str}{n:Nat}(c:zE ws n)(j:∀w∈N,w∈ws)(h:cI N d):d.length<=n:=by
 obtain⟨U,o,m,l⟩:=c;have f:d.Nodup:=h.up.imp λ{a b} (x:Wr a b) (e:a=b)=>by
  subst e;exact b8 _ x
 refine agd (oJ f (U:=U) λz g=>?_) o;rcases(h.mem z).mp g with e|⟨w,i,k,e⟩
 ·rw[e];exact m
 ·rw[e];exact l w (j w i) k
inductive KR(K:PySem.W.Frag)(vs:List V)(H:Hp)(Q:VK)(_e1:XK):Prop
 |mk (p:Addr) (ws:List Str) (_:vs=[.ref p]) (_:My K H p (ws.map V.str)) (_:(∀w∈ws,Wb w)) (_:ws.length<=3000) (_:zE ws 2100) (_:∀(r d l e:Addr) (ts:List Str) (H':Hp),aL H H'->H' r=some (.tup [.ref d,.ref l,.ref e])->H' d=some (.lst ‹(ts.map λt=>(t.length:Int))›)->H' l=some (.lst ‹(ts.drop 1).map bV›)->H' e=some (.lst ‹ts.map (eG ws)›)->cI ws ts->ts.length<=2100->Q (.ref r) H')
theorem j0(T:Tx K mg a):bI P w K mg base VR 1 a.adm a.acR ["_law_words_here"] (KR K):=by
 refine T.aaX.F.V2 cT λc6 A c1 s H vs Q E hr h=>?_;obtain⟨p,G,rfl,hS,hW,hl,hm,q⟩:=h;refine(_,(ao (qW (i:=1) cT.nd rfl (ahH rfl) p8)
  (ao (bK PassesOwn.never rfl (bY (pv 0)) (aM 2 cT.nd) (aB (qJ (af9 (agl (by decide:1<=64) _) hr.units) (pv 1) (pv 2) cZ rfl)))
  (ao (aD 3 cT.nd (Ph (Nj cg cZ Qm) rfl rfl (by simp) ∅))
  (ao (bK PassesOwn.never rfl (bY (aF mW rfl T.ac0 Tw.nR (VJ 0 aj))) (aM 2 cT.nd) (aB (bK PassesOwn.never rfl (iW rfl T.Xi (aq (aF cA rfl T.V0 Tw.bu (VJ 2 aj)) aj)) (aM 4 cT.nd) (aB (qJ (af9 (agl (by decide:1<=64) _) hr.units) (pv 3) (aQ vI (pv 2) bz (aR (aC bj (pv 4) aA))) cZ rfl)))))
  (ao (eN (i:=5) cT.nd rfl rfl rfl (bU.one (j:=1) rfl (agH rfl) rfl rfl (agH rfl)) (vP (pv 3)) (λ_ _ _ _=>dN) (λ_ _ _ _=>(dg J1 rfl T.afx Tw.Tn (aq (RZ (Lw (af9 (agl (by decide:1<=64) _) hr.units) (pv 0) (pv 1))) aj))))
  (ao (eN (i:=6) cT.nd rfl rfl rfl bU.zero (vP (pv 3)) (λ_ _ _ _=>dN) (λ_ _ _ _=>(aF cA rfl T.V0 Tw.bu (VJ 0 aj))))
  (ao (eN (i:=7) cT.nd rfl rfl rfl bU.zero (vP (pv 3)) (λ_ _ _ _=>(lq (aP yO (pv 0) cg))) (λ_ _ _ _=>(show PE _ _ (tBM K "str" Nm _ _)from (dj PySem.F.plainAttrs_str PySem.F.slot_str_find PySem.F.type_str_find OD cg (aq (bN vU (pv 0) (oX jQ aA)) aj)))))
  (aB (aN (dY (VJ 6 (VJ 7 (VJ 5 aj))))))))))))),1)
 intro J Z8;have t6:=au Z8 (.dK []);exists 9,p,7,(_,t6.seq hS);refine cG (xs:=G.map V.str) (λi D g=>(∃k2,D=[!!!p,!!!J,k2,none,none,none,none,none])/\aL H g /\ ∃f:List (Key×V),g J=some (.dK f)/\f.length<=i /\ ∀t:Str,(gq f (Sum.inr t)).isSome=decide (t∈G.take i)) ((none,7),t6,[],aa,aae _,λt=>rfl) ?_ ?_ ?_
 ·rintro i D g _ ⟨_,B,_⟩;exact B.seq hS
 ·rintro i x D g hx ⟨⟨k5,rfl⟩,B,f,M,a6,U⟩;rw[aak]at hx;obtain⟨v,WR,rfl⟩:=afS.mp hx;have hi:=(aad.mp WR).1;exists 8,J,9,.inl (f,Sum.inr v,M,7,by rw[sizeLine_eq];lia,7);refine(3,bc B Z8 _,_,aa,1,λt=>?_)
  ·have:=qb f (Sum.inr v) (.bl true);lia
  ·rw[qx,agG,WR];by_cases e:t=v
   ·subst e;rw[if_pos rfl];exact(decide_eq_true (aap _ (afJ _))).symm
   ·rw[if_neg (λz=>e (Sum.inr.inj z)),U t];refine decide_eq_decide.mpr (λz=>afQ _ z,λz=>?_);rcases aas.mp z with z|z
    ·exact z
    ·exact absurd (aao.mp z) e
 rintro D H1 ⟨⟨k2,rfl⟩,Wd,f,M,a6,U⟩;rw[aaa,aal (aae _)]at U
 clear t6 a6
 intro u W;have a0:H u=none:=Wd.free W;have a3:J≠u:=aH M W;refine⟨aa,[(pq (Sum.inr ⟨#[]⟩) (.bl true))],rfl,by decide,?_⟩;have s0:aL H1 (upd (upd H1 u (.dK [])) u (.dK (mC [] [(pq (Sum.inr ⟨#[]⟩) (.bl true))]))):=bc (au W _) W _;have x0:upd (upd H1 u (.dK [])) u (.dK (mC [] [(pq (Sum.inr ⟨#[]⟩) (.bl true))])) u=some (.dK [(pq (Sum.inr ⟨#[]⟩) (.bl true))]):=aa;generalize upd (upd H1 u (.dK [])) u (.dK (mC [] [(pq (Sum.inr ⟨#[]⟩) (.bl true))]))=H2 at *
 replace M:=s0 _ _ M
 have V1:=Wd.trans s0;refine(9,p,G,7,V1.seq hS,6,λY m a1 pm up=>?_);have sS:=au a1 (.lst (m.map V.str));have b1:Y≠u:=(aH x0 a1).symm;have c3:Y≠J:=(aH M a1).symm
 replace x0:=sS _ _ x0
 replace M:=sS _ _ M
 have xs:upd H2 Y (.lst (m.map V.str)) Y=some (.lst (m.map V.str)):=aa
 replace V1:=V1.trans sS
 generalize upd H2 Y (.lst (m.map V.str))=H3 at *;have L:UpS m:=up;have a7:∀x∈m,Wb x:=λx hx=>hW x (pm.mem_iff.mp hx);have a5:∀i,(⟨#[]⟩::allB ⟨#[]⟩ (m.take i)).length<=5000:=λi=>by
  have h1:=hm.begs (λw hw=>pm.mem_iff.mp (afN hw)) (cI.take L i);lia
 exists Y,7,(_,My.of xs);refine cG (xs:=m.map V.str) (λi D g=>(∃k2 k4,D=[!!!p,!!!J,k2,!!!u,k4,none,none,none])/\aL H g/\g J=some (.dK f)/\g Y=some (.lst (m.map V.str)) /\ ∃(f:List (Key×V)),g u=some (.dK f)/\f.map (·.1)=(⟨#[]⟩::allB ⟨#[]⟩ (m.take i)).map Sum.inr) ((_,none,7),V1,M,xs,_,x0,7) ?_ ?_ ?_
 ·rintro i D g _ ⟨_,_,_,h,_⟩;exact My.of h
 ·rintro i x D g hx ⟨⟨k2,k4,rfl⟩,B,yw,ys,b,yk,I⟩;rw[aak]at hx;obtain⟨v,WR,rfl⟩:=afS.mp hx;have hw:=(a7 v (aar WR)).1;have a4:v.length<=sizeLine:=by rw[sizeLine_eq];lia
  have N:m.take (i+1)=m.take i++[v]:=by rw[agG,WR];rfl
  have a9:UpS (m.take i++[v]):=by rw[<-N];exact L.sublist (ahM _ _)
  have b9:=cI.take L i;have c5:=a5 i;generalize m.take i=l at *;refine(9,v,7,a4,(v.length:Int),7,6,6,1);rw[aav];refine nY (λj D g=>(∃k4,D=[!!!p,!!!J,some (.str v),!!!u,k4,none,none,none])/\aL H g/\g J=some (.dK f)/\g Y=some (.lst (m.map V.str)) /\ ∃(f:List (Key×V)),g u=some (.dK f)/\f.map (·.1)=((⟨#[]⟩::allB ⟨#[]⟩ l)++(fresh (l.getLastD ⟨#[]⟩) v).take (j-Wf (l.getLastD ⟨#[]⟩).cps.toList v.cps.toList)).map Sum.inr) (3,B,yw,ys,b,yk,by rw[Nat.zero_sub,agn,afR];exact I) ?_ ?_
  ·rintro j D g hj ⟨⟨k3,rfl⟩,B,yw,ys,b,yk,I⟩;have X:b.length<=6000:=by
    have:=congrArg ag9 I;rw[aaa,aaa,aab,aam,xZ]at this;lia
   have ec:oN v none (some (0+(j:Int)+1))=beg v (j+1):=by
    rw[show (0+(j:Int)+1)=((j+1:Nat):Int) by lia,ux]
   exists 8,9,4,9,v,7,a4,u,9,.inl (b,Sum.inr (beg v (j+1)),yk,by rw[ec];rfl,by rw[sizeLine_eq];lia,7);exists 3,bc B a0 _,by rw[aK a3];exact yw,by rw[aK b1];exact ys,_,aa;rw[Kz I,JN a9 b9 hj]
  ·rintro D g ⟨⟨k3,rfl⟩,B,yw,ys,b,yk,I⟩;exists (_,9),B,yw,ys,b,yk;rw[I,N,allB_snoc,aal (by rw[xZ];exact aae _)];rfl
 rintro D H4 ⟨⟨c4,k4,rfl⟩,W0,yw,ys,b,yk,I⟩;rw[aaa,aal (aae _)]at I;have hB:cI G (⟨#[]⟩::allB ⟨#[]⟩ m):=(cI.of_sorted L).perm λx=>pm.mem_iff;have hts:=hm.begs (λw hw=>hw) hB;have c0:(⟨#[]⟩::allB ⟨#[]⟩ m).drop 1=allB ⟨#[]⟩ m:=rfl;have b3:∀t∈allB ⟨#[]⟩ m,t≠⟨#[]⟩:=λt ht e=>by
  have:=(ago.mp hB.up).1 t ht;rw[e]at this;exact b8 _ this
 have Z:∀t∈(⟨#[]⟩::allB ⟨#[]⟩ m),Wb t:=λt ht=>hB.low hW ht;have X:b.length<sizeLine:=by
  have:=congrArg ag9 I;rw[aaa,aaa]at this;rw[this,sizeLine_eq];lia
 have C:∀p∈b,∃t∈(⟨#[]⟩::allB ⟨#[]⟩ m),p.1=Sum.inr t:=λp R=>by
  have:p.1∈b.map (·.1):=aaz.mpr (p,R,7);rw[I]at this;obtain⟨t,ht,e⟩:=aaz.mp this;exact(t,ht,e.symm)
 have a2:((⟨#[]⟩::allB ⟨#[]⟩ m).filter λt=>!decide (t=⟨#[]⟩))=allB ⟨#[]⟩ m:=by
  rw[agx (by rw[decide_eq_true rfl];decide)];exact ah3.mpr λt ht=>by rw[decide_eq_false (b3 t ht)];rfl
 generalize ⟨#[]⟩::allB ⟨#[]⟩ m=y at *
 clear a5 a7 L up pm x0 xs M V1 Wd s0 sS ys
 refine(9,u,b,7,.inl (yk,λo=>?_));have s5:=bc W0 a0 (.Wj o (.dK b));have O:upd H4 u (.Wj o (.dK b)) u=some (.Wj o (.dK b)):=aa;have w5:upd H4 u (.Wj o (.dK b)) J=some (.dK f):=by rw[aK a3];exact yw
 generalize upd H4 u (.Wj o (.dK b))=H5 at *;refine sU (λ_=>true) (λk=>.int (eG G (DP k))) O X (λ_ _ _ _ _ q=>q) (λpr g Q R _ B n=>?_) λe he=>?_
 ·obtain⟨t,ht,N⟩:=C pr R;rw[N]at n ⊢;have n:Q (.int (eG G t)) g:=n;refine(8,J,9,su.k (k:=Sum.inr t) (B _ _ w5),.inr (9,1));rw[U t];unfold eG at n;by_cases c:t∈G
  ·rw[if_pos c]at n;rw[decide_eq_true c];exact n
  ·rw[if_neg c]at n;rw[decide_eq_false c];exact n
 rw[vN I];have ee:((y.filter λt=>(λ_:Key=>true) (Sum.inr t)).map λt=>V.int (eG G (DP (Sum.inr t))))=(y.map (eG G)).map V.int:=by
  rw[ah3.mpr λ_ _=>rfl,afZ];rfl
 rw[ee];have t1:=au he (.lst ‹y.map (eG G)›);have x1:upd H5 e (.lst ‹y.map (eG G)›) e=some (.lst ‹y.map (eG G)›):=aa
 replace O:=t1 _ _ O
 replace s5:=s5.trans t1
 generalize upd H5 e (.lst ‹y.map (eG G)›)=H6 at *;refine(9,u,b,7,.inr (o,O,1));refine sU (λ_=>true) (λk=>.int ((DP k).length:Int)) O X (λ_ _ _ _ _ q=>q) (λpr g Q R _ B n=>?_) λd hd=>?_
 ·obtain⟨t,ht,N⟩:=C pr R;rw[N]at n ⊢;exact(9,t,7,by rw[sizeLine_eq];have:=(Z t ht).1;lia,n)
 rw[vN I];have ed:((y.filter λt=>(λ_:Key=>true) (Sum.inr t)).map λt=>V.int ((DP (Sum.inr t)).length:Int))=(y.map λt:Str=>((t.length:Nat):Int)).map V.int:=by
  rw[ah3.mpr λ_ _=>rfl,afZ];rfl
 rw[ed];have t2:=au hd (.lst ‹(y.map λt:Str=>((t.length:Nat):Int))›);have x2:upd H6 d (.lst ‹(y.map λt:Str=>((t.length:Nat):Int))›) d=some (.lst ‹(y.map λt:Str=>((t.length:Nat):Int))›):=aa
 replace O:=t2 _ _ O
 replace x1:=t2 _ _ x1
 replace s5:=s5.trans t2
 generalize upd H6 d (.lst ‹(y.map λt:Str=>((t.length:Nat):Int))›)=H7 at *;refine(9,u,b,7,.inr (o,O,1));refine sU (λk=>!decide (DP k=⟨#[]⟩)) (λk=>.int (bV (DP k))) O X (λpr g Q R B n=>?_) (λpr g Q R c B n=>?_) λl b5=>?_
 ·obtain⟨t,ht,N⟩:=C pr R;rw[N]at n ⊢;have n:Q (!decide (t=⟨#[]⟩)) g:=n;exists 9,7,9;have e2:(!decide (V.str t=V.str ⟨#[]⟩))=(!decide (t=⟨#[]⟩)):=by
   congr 1;exact decide_eq_decide.mpr (V.str.inj,λz=>by rw[z])
  show Q (!decide (V.str t=V.str ⟨#[]⟩)) g;rw[e2];exact n
 ·obtain⟨t,ht,N⟩:=C pr R;rw[N]at n c ⊢;have n:Q (.int (bV t)) g:=n;have b0:t.cps.toList≠[]:=λz=>by
   have c:(!decide (t=⟨#[]⟩))=true:=c;rw[decide_eq_true (dw z)]at c;cases c
  obtain⟨c2,a8⟩:=Z t ht;obtain⟨rr,S,Yi⟩:∃rr S,t.cps.toList=rr++[S]:=(_,_,(agu b0).symm);have b4:=a8 S (by rw[Yi];exact aap _ (afJ _));have b6:Ws t.cps.toList (-1)=some S:=by
   rw[Yi];exact mX rr S
  have el:bV t=((S-97:Nat):Int):=by
   unfold bV;rw[Yi,ahx];lia
  rw[el]at n;exact(7,8,t,-1,S,7,7,by rw[sizeLine_eq];lia,b6,letters,⟨#[S]⟩,S-97,[],7,7,K8 b4,n)
 rw[vN I];have el:((y.filter λt=>(λk=>!decide (DP k=⟨#[]⟩)) (Sum.inr t)).map λt=>V.int (bV (DP (Sum.inr t))))=((y.drop 1).map bV).map V.int:=by
  rw[c0,<-a2,afZ];rfl
 rw[el];have t3:=au b5 (.lst ‹(y.drop 1).map bV›);refine(8,9,sl3,λr b2=>?_);have t4:=au b2 (.tup [.ref d,.ref l,.ref e]);exact q r d l e y _ (s5.trans (t3.trans t4)) aa (t4 _ _ (t3 _ _ x2)) (t4 _ _ aa) (t4 _ _ (t3 _ _ x1)) hB hts
theorem Gu{K:PySem.W.Frag}{a:Addr}{xs:List V}{f:L2.St}(p:V->Bool)(s:My K H a xs)(u:xs.length<sizeLine)
  (l:∀(x:V) (H':Hp) (Q:Bool->Hp->Prop),x∈xs->aL H H'->Q (p x) H'->L (some x::f) H' Q)(t:∀(x:V) (H':Hp) (Q:VK),aL H H'->Q x H'->ta (some x::f) H' Q)
  (q:∀D,H D=none->m D (upd H D (.lst (xs.filter p)))):fY (XH K a) f L ta m H:=by
 intro D h;exists λi b j o=>b=xs.length-i/\i<=xs.length/\j=(xs.take i).filter p/\o=upd H D (.lst j),(9,aaH _,7,7);rintro i b j o ⟨rfl,z,rfl,rfl⟩;have d:My K (upd H D (.lst ((xs.take i).filter p))) a xs:=(au h _).seq s;by_cases c:i<xs.length
 ·have k:xs[i]?=some xs[i]:=aac c;have n:xs.take (i+1)=xs.take i++[xs[i]]:=by
   rw[aed,k];rfl
  refine .inr ((_,_,d,k),λv A y=>?_);obtain⟨rfl,y⟩:=y;have e:=y _ d;rw[k]at e;cases e;refine l _ _ _ (afL c) (au h _) ?_;have r:=age p (xs.take i);rw[aam]at r;by_cases g:p xs[i]=true
  ·rw[if_pos g];refine t _ _ _ (au h _) (aa,6,xs.length-(i+1),6,7,c,1,1)
   ·rw[n,agb,agP g];rfl
   ·rw[iu]
  ·rw[if_neg g];refine(xs.length-(i+1),6,7,c,1,7);rw[n,agb,agx g,ai5,afR]
 ·have e:i=xs.length:=by lia
  subst e;rw[afK];rw[afK]at d;exact .inl ((_,d,aae _),q D h)
theorem five{σ:St}(h:σ.length=5):∃a b c d e,σ=[a,b,c,d,e]:=by
 match σ,h with
 |[_,_,_,_,_],_=>exact(_,_,_,_,9)
def RF:HO:=.tup [.int 1,.bl true,.bl true,.bl false]
inductive Pr(K:PySem.W.Frag)(vs:List V)(H:Hp)(Q:VK)(_e1:XK):Prop
 | mk (p:Addr) (os:List Int) (_:vs=[.ref p]) (_:H p=some (.lst !!os)) (_:os.length<=100000) (_:(GoodW os -> ∀r H',H r=none->aL H H'->H' r=some (.lst ((iJ os).map V.str))->Q (.ref r) H')) (_:(¬GoodW os -> ∀r H',H r=none->aL H H'->H' r=some RF->Q (.ref r) H'))
theorem jB(T:Tx K mg a):bI P w K mg base VR 12 a.ad1 a.ado ["_law_octets"] (Pr K):=by
 refine T.ZR.F.V2 fj λa1 A o s H vs Q E R h=>?_;obtain⟨p,B,rfl,S,U,q,N⟩:=h;refine(_,(ao (aD 1 fj.nd (dY (aq aA (aq cZ (aq cZ (aq cZ aj))))))
  (ao (aD 2 fj.nd (bh aj))
  (ao (SX rfl rfl (λ_ _=>(aB (aD 2 fj.nd (cY T.acY (xg T) ∅ R U8 rfl (VJ 0 aj))))) (Ud (i:=3) T.Za T.Zb rfl fj.nd rfl rfl (λ_=>(ao (aD 4 fj.nd (Rg (aF (show eE _ _ (Ke K)from m6) rfl T.Yc Tw.cz (VJ 3 (aq (aY (v:=.ref a.Xh) rfl T.afe rfl) aj))) (Rg (aF (show eE _ _ (Ke K)from m6) rfl T.Yc Tw.cz (VJ 3 (aq (aY (v:=.ref a.WM) rfl T.ae7 rfl) aj))) (KY (aF (show eE _ _ (Ke K)from m6) rfl T.Yc Tw.cz (VJ 3 (aq (aY (v:=.ref a.WY) rfl T.ae6 rfl) aj)))))))
  (aB (aD 1 fj.nd (dY (aq aA (aq (aF (show eE _ _ (Ke K)from m6) rfl T.Yc Tw.cz (VJ 3 (aq (aY (v:=.ref a.Wn) rfl T.aeN rfl) aj))) (aq (aF (show eE _ _ (Ke K)from m6) rfl T.Yc Tw.cz (VJ 3 (aq (nT (v:=.ty "ValueError") rfl T.aeI Tw.wX rfl) aj))) (VJ 4 aj))))))))) RB))
  (ao (bR (aP jd (bN cD (pv 1) aA) aA) (aB (aN (pv 1))) aV)
  (ao (bR (PW.pt (tH (lV (q9 (aF lR rfl T.Yc Tw.cz (VJ 2 (aq (nT (v:=.ty "list") rfl T.Yd Tw.iw rfl) aj))))) (mz (aP jd (aF aG rfl T.V0 Tw.bu (aq (kE rfl bU.zero (bY (pv 2)) (λ_ _ _ _=>(lq (lV (q9 (aF (show eE _ (.builtin "isinstance") (λJ H Q=>∃x T t b,J=[x,.ty T]/\qG K H x t/\PySem.W.kitOne K t (.type T)=some b/\Q (.bl b) H)from lR) rfl T.Yc Tw.cz (VJ 0 (aq (nT (v:=.ty "str") rfl T.afz Tw.Ry rfl) aj))))))) (λ_ _ _ _=>(pv 0))) aj)) aA)))) (aB (aN (dY (aq aA (aq cZ (aq cZ (aq cZ aj))))))) aV)
  (aB (aN (pv 2)))))))),1)
 refine(sl4,λg m=>?_);refine(sl0,λI e=>?_);have j:=(au m (.tup [.int 0,.bl false,.bl false,.bl false])).trans (au e (.lst []));have L:upd (upd H g (.tup [.int 0,.bl false,.bl false,.bl false])) I (.lst []) g=some (.tup [.int 0,.bl false,.bl false,.bl false]):=au e _ _ _ aa;generalize upd (upd H g (.tup [.int 0,.bl false,.bl false,.bl false])) I (.lst [])=H1 at *;refine(9,p,B,7,j _ _ S,U,λC r Z n k c=>?_,λf Z k=>(9,λ a0 l=>?_))
 rotate_left
 ·obtain⟨k0,k1,k2,k3,k4,rfl⟩:=five l;refine(true,T.ZV,fP λd Y=>?_);have y:=(j.trans k).trans (au Y (JR d a.V5));refine(9,d,_,_,_,9,.inl (9,7),aa,T.Zb,T.ZZ,9,fM ?_);refine(9,d,_,_,_,9,.inl (9,7),aa,T.Zb,T.ZX,9,fM ?_);exists 9,d,_,_,_,9,.inl (9,7),aa,T.Zb,T.ZW;exists 9,d,_,_,_,9,.inl (9,7),aa,T.Zb,T.Zc;exists 9,d,_,_,_,9,.inr (9,7),aa,T.Zb,T.Z0;refine(9,sl4,λt ht=>?_);refine(9,t,_,4,VM.of aa,7,4,9,dZ (λ_=>?_) λz=>absurd ∅ z);exact(9,N f t _ (y.free ht) (y.trans (au ht _)) (by rw[aa];rfl))
 refine(9,g,_,4,VM.of (k _ _ L),7,4,9,dZ (λz=>absurd z ∅) λ_=>?_)
 refine(9,_,"list",_,true,7,.lst c,7,true,7,fM ?_)
 obtain⟨_,f2,_⟩:=C.wo.few;exists 9,r,7,(_,My.of c);refine Gu (λ_=>false) (My.of c) (by rw[aaa,sizeLine_eq];lia) (λx H' Q O _ q=>?_) (λx H' Q _ q=>(9,q)) λD G=>?_
 ·obtain⟨u,_,rfl⟩:=aaz.mp O
  exact(9,_,"str",_,true,7,.str u,7,true,7,q)
 have X:((iJ B).map V.str).filter (λ_=>false)=[]:=by simp
 rw[X];refine(D,9,.inl (My.of aa),4,9,dZ (λz=>absurd z ∅) λ_=>?_);have M:=j.trans k;exact(9,q C r _ (j.free n) (M.trans (au G _)) (au G _ _ _ c))
inductive Gs(vs:List V)(H:Hp)(Q:VK)(_e1:XK):Prop
 | mk (p:Addr) (os:List Int) (c:Int) (_:vs=[.ref p,.int c]) (_:H p=some (.lst !!os)) (_:0<os.length) (_:os.length<=60000) (_:∀r H' (ms:List Int),aL H H'->H' r=some (.lst !!ms)->ms.length<=os.length+1->Q (.ref r) H')
theorem vL(T:Tx K mg a):bI P w K mg base VR 1 a.acl a.abP ["_law_octets","_law_cell"] Gs:=by
 refine T.acu.F.V2 fB λY A D s H Z Q E hr h=>?_;obtain⟨p,e,c,rfl,J,h0,hl,q⟩:=h;refine(_,(ao (aD 2 fB.nd (aC bO (pv 1) (aC vh aA aA)))
  (ao (aD 3 fB.nd (aC bO (aC iy (pv 2) aA) (aF aG rfl T.V0 Tw.bu (VJ 0 aj))))
  (ao (aD 4 fB.nd (aC bO (aC bO (aC cH (pv 2) aA) aA) aA))
  (ao (bR (aP fQ (aC bO (pv 2) aA) aA) (ao (aD 5 fB.nd (aC Ss aA (aC bO (pv 4) aA)))
  (aB (aN (aC bB (aC bB (aQ bx (pv 0) bz (aR (pv 3))) (bh (aq (aC Sx (bN dM (pv 0) (pv 3)) (pv 5)) aj))) (aQ bx (pv 0) (aR (aC bj (pv 3) aA)) bz))))) aV)
  (ao (bR (aP fQ (aC bO (pv 2) aA) aA) (aB (aN (aC bB (aC bB (aQ bx (pv 0) bz (aR (pv 3))) (bh (aq (bN dM (bh (aq (aC cP (aC cP aA aA) (pv 2)) (aq (aC bj aA (pv 2)) aj))) (aC bO (pv 4) aA)) aj))) (aQ bx (pv 0) (aR (aC bj (pv 3) aA)) bz)))) aV)
  (ao (bR (aP fQ (aC bO (pv 2) aA) aA) (aB (aN (aC bB (aC bB (aQ bx (pv 0) bz (aR (pv 3))) (bh (VJ 4 aj))) (aQ bx (pv 0) (aR (pv 3)) bz)))) aV)
  (aB (aN (aC bB (aQ bx (pv 0) bz (aR (pv 3))) (aQ bx (pv 0) (aR (aC bj (pv 3) aA)) bz)))))))))),1)
 have Wz:‹e›.length=e.length:=aaa ..;refine kh (cV (aU rfl) (cV bT bT (5,5,5)) (by show (0:Int)<10^60;decide)) λH1 I=>?_;obtain⟨n,R⟩:∃n:Int,c%10^(60:Int).toNat=n:=(_,7);rw[R];obtain⟨i,U⟩:∃i:Nat,n / 4%(e.length:Int)=(i:Int):=(_,(ah4 (ahK _ ⋯)).symm);have C:i<e.length:=by
  have:=ahn (n / 4) (b:=(e.length:Int)) ⋯;lia
 refine kh (V9.to (cV (cV (aU rfl) bT (5,5)) (uG (cF rfl (I _ _ J))) (by show (0:Int)<(e.length:Int);lia)) U) λH2 N=>?_;obtain⟨d,hd⟩:∃d:Int,n*69621%2147483629%256=d:=(_,7);have X:0<=d:=by lia
 refine kh (V9.to (cV (cV (cV (aU rfl) bT (.inr (5,5))) bT (by show (0:Int)<2147483629;decide)) bT (by show (0:Int)<256;decide)) hd) λL M=>?_;have m:=I.trans (N.trans M);have o:=m _ _ J;have y:∀(u:Option V) (k:Int),PT [!!!p,!!!!c,!!!!n,some (.int (i:Int)),!!!!d,u] L (DR (W9 rEq (W9 (rI (λx j=>0<j) λi j=>V.int (i%j)) (DK 2) (tC (V.int 4))) (tC (V.int k)))) (λ_=>True):=λu k Q q=>(9,4,(by show (0:Int)<4;decide),7,9,q _ trivial);have f:=λ(u:Option V)=>cF (H0:=L) (σ:=[!!!p,!!!!c,!!!!n,some (.int (i:Int)),!!!!d,u]) (i:=0) rfl o;have t:(e.take i).length=i:=by
  rw[aam];lia
 have z:(e.drop (i+1)).length=e.length-(i+1):=aaq ..;have O:(e.drop i).length=e.length-i:=aaq ..;refine PT.arm (y _ 0) (λ_=>?_) λ_=>?_
 ·refine kh (cV bT (cV (aU rfl) bT (by show (0:Int)<8;decide)) (by show 0<=d%8;lia,by show d%8<=1000000;lia,5)) λW G=>?_;have f:=cF (H0:=W) (σ:=[!!!p,!!!!c,!!!!n,some (.int (i:Int)),!!!!d,some (.int (1*2^(d%8).toNat))]) (i:=0) rfl (G _ _ o);refine vY (cO (cO (oZ f (aU rfl) rfl).v (dB (bZ (dq (Aw f (aU rfl) rfl (aac C)) (aU rfl)) dD) (by show 1<=500000;decide)).v ?_).v (fG (j:=i+1) f (dq (aU rfl) bT) ⋯).v ?_) λr l _ g x=>q r l _ (m.trans (G.trans g)) x ?_
  all_goals simp only[aab,aah,afV,t,z]
  all_goals lia
 refine PT.arm (y _ 1) (λ_=>?_) λ_=>?_
 ·obtain⟨j,S,B⟩:∃j:Nat,d%2=(j:Int)/\j<2:=((d%2).toNat,6,6);refine vY (cO (cO (oZ (f _) (aU rfl) rfl).v (dB (bZ (Aw (ns:=[0-1-n,256+n]) (dB (bZ (dq (dq bT bT) (aU rfl)) (bZ (dq bT (aU rfl)) dD)) (by show 2<=500000;decide)).v (cV (aU rfl) bT (by show (0:Int)<2;decide)) S (aac B)) dD) (by show 1<=500000;decide)).v ?_).v (fG (j:=i+1) (f _) (dq (aU rfl) bT) ⋯).v ?_) λr l _ g x=>q r l _ (m.trans g) x ?_
  all_goals simp only[aab,aah,afV,t,z]
  all_goals lia
 refine PT.arm (y _ 2) (λ_=>?_) λ_=>?_
 ·refine vY (cO (cO (oZ (f _) (aU rfl) rfl).v (dB (bZ (aU rfl) dD) (by show 1<=500000;decide)).v ?_).v (fG (j:=i) (f _) (aU rfl) rfl).v ?_) λr l _ g x=>q r l _ (m.trans g) x ?_
  all_goals simp only[aab,aah,afV,t,O]
  all_goals lia
 refine vY (cO (oZ (f _) (aU rfl) rfl).v (fG (j:=i+1) (f _) (dq (aU rfl) bT) ⋯).v ?_) λr l _ g x=>q r l _ (m.trans g) x ?_
 all_goals simp only[aab,aah,afV,t,z]
 all_goals lia
theorem nW:∀a b:List Int,PyData.eqvAll (a.map PyData.int) (b.map PyData.int)=decide (a=b)
 |[],[]=>rfl
 |[],_::_=>rfl
 |_::_,[]=>rfl
 |x::a,y::b=>by
  have c:=nW a b;show (PyData.eqv (.int x) (.int y)&&PyData.eqvAll (a.map PyData.int) (b.map PyData.int))=_;rw[c];by_cases e:x=y
  ·subst e;simp[PyData.eqv]
  ·simp[PyData.eqv,e]
theorem qd:∀a:List Int,PyData.canLayAll0 (a.map PyData.int)=true
 |[]=>rfl
 |x::a=>by
  have b:=qd a;simp[PyData.canLayAll0,PyData.canLay0,b]
theorem jy:∀a:List Int,PyData.depthAll (a.map PyData.int)<=1
 |[]=>by simp[PyData.depthAll]
 |x::a=>by
  have b:=jy a;simp only[aax,PyData.depthAll,PyData.depth];lia
theorem gR{H:Hp}:∀a:List Int,jZ K H ‹a› (a.map PyData.int)
 |[]=>.nil
 |x::a=>.cons (.int x) (gR a)
abbrev NP(a b c:List Int):PyData:=.tuple [.list (a.map PyData.int),.list (b.map PyData.int),.list (c.map PyData.int)]
theorem tV(a b c:List Int):SeqAt.shaped (NP a b c)=true:=by
 have g:=jy a;have f:=jy b;have e:=jy c;have d:(NP a b c).canLay0=true:=by
  simp only[PyData.canLay0,PyData.canLayAll0,qd,aiR]
 unfold SeqAt.shaped;rw[d,aim];refine decide_eq_true ?_;simp only[PyData.depth,PyData.depthAll];lia
theorem Ob(a b c f e d:List Int):PyData.eqv (NP a b c) (NP f e d)=decide (a=f/\b=e/\c=d):=by
 show (PyData.eqvAll _ _&&(PyData.eqvAll _ _&&(PyData.eqvAll _ _&&true)))=_;rw[nW,nW,nW];simp[Bool.decide_and]
structure Xy(H:Hp)(p d l e:Addr)(a b c:List Int):Prop where
 p:H p=some (.tup [.ref d,.ref l,.ref e])
 d:H d=some (.lst !!a)
 l:H l=some (.lst !!b)
 e:H e=some (.lst !!c)
theorem Xy.same{H':Hp}{p l e:Addr}{a b c:List Int}(h:Xy H p f l e a b c)(s:aL H H'):Xy H' p f l e a b c:=(s _ _ h.p,s _ _ h.d,s _ _ h.l,s _ _ h.e)
theorem Xy.dat{p l e:Addr}{a b c:List Int}(h:Xy H p f l e a b c):oM K H (.ref p) (NP a b c):=
 .tup (VM.of h.p) (.cons (.lst (My.of h.d) (gR a)) (.cons (.lst (My.of h.l) (gR b)) (.cons (.lst (My.of h.e) (gR c)) .nil)))
theorem Xy.ne{p l e d' :Addr}{a b c j i g:List Int}{Q:VK}(h:Xy H p f l e a b c)(h':Xy H C d' x S j i g)(q:Q (.bl (!decide (a=j/\b=i/\c=g))) H):Rw K (.ref p) (.ref C) H Q\/Sh K (.ref p) (.ref C) H Q:=by
 refine .inr (_,_,h.dat,h'.dat,tV _ _ _,tV _ _ _,1);rw[Ob];exact q
structure yM(ds ls es:List Int):Prop where
 l1:ls.length+1=ds.length
 l2:es.length=ds.length
 az:∀c∈ls,rG c
 d40:∀d∈ds,d<=40
 pt:∃ts,cI (Wv ds ls es) ts/\(ts.map λt=>(t.length:Int))=ds/\(ts.drop 1).map bV=ls/\ts.map (eG (Wv ds ls es))=es
theorem NT{ls:List Int}:ls.filter (λz=>decide (z<0) || decide (25<z))=[] ↔ ∀c∈ls,rG c:=by
 rw[List.filter_eq_nil_iff];refine forall_congr' λz=>forall_congr' λ_=>?_;unfold rG;simp;lia
theorem Hl{ds ls es:List Int}(k:∀c∈ls,rG c)(hd:∀d∈ds,d<=40)(p:cB ds):∀x∈Wv ds ls es,Wb x:=λx b=>by
 have n:∀{ds ls:List Int}{t:Str},(∀c∈ls,rG c)->(∀d∈ds,d<=40)->Chn t.length ds->pO t -> ∀x∈Wc ds ls t,Wb x:=λ{ds}=>by
  induction ds with
  |nil=>
   intro ls t _ _ _ _ x b;cases b
  |cons d ds m=>
   intro ls t k hd i ht x b;cases ls with
   |nil=>cases b
   |cons c ls=>
    obtain⟨u,s,q⟩:=i;have l:=k c aan;have r:=hd d aan;have o:=jA t (d-1).toNat;have j:(beg t (d-1).toNat++(⟨#[(c+97).toNat]⟩:Str)).length=d.toNat:=by
     rw[zK,o];lia
    have g:pO (beg t (d-1).toNat++(⟨#[(c+97).toNat]⟩:Str)):=pO.add (λy f=>by
     rw[bw]at f;exact ht y (afN f)) λy f=>by
     have e:y=(c+97).toNat:=by simpa using f
     unfold rG at l;lia
    rcases aat.mp b with rfl|b
    ·exact(6,g)
    ·exact m (λy f=>k y (aaj _ f)) (λy f=>hd y (aaj _ f)) (by rw[j];exact q) g x b
 rcases aat.mp (Ai b)with rfl|b
 ·exact(aaH _,λc i=>by cases i)
 ·exact n (ds:=ds.drop 1) (t:=⟨#[]⟩) k (λd h=>hd d (afO h)) (yq p) (λc i=>by cases i) x b
inductive RG(K:PySem.W.Frag)(vs:List V)(H:Hp)(Q:VK)(_e1:XK):Prop
 | mk (pp pd pl pe:Addr) (ds ls es:List Int) (_:vs=[.ref pp]) (_:Xy H pp pd pl pe ds ls es) (_:cB ds) (_:ds.length<=1000) (_:ls.length<=1000) (_:aO es) (_:es.length<=1000) (_:(yM ds ls es -> ∀r H',H r=none->aL H H'->H' r=some (.lst ((Wv ds ls es).map V.str))->Q (.ref r) H')) (_:(¬yM ds ls es -> ∀r H',H r=none->aL H H'->H' r=some RF->Q (.ref r) H'))
theorem EY(T:Tx K mg a):bI P w K mg base VR 2 a.aez a.ad0 ["_law_parts"] (RG K):=by
 refine T.aeH.F.V2 dO λc9 A b5 s H vs Q E hr h=>?_;obtain⟨pp,pd,pl,pe,f,v,I,rfl,x,hG,c7,c0,c8,c6,q,qE⟩:=h;have J:=x;refine(_,(ao (rO (pv 0) (iK rfl (bG (aM 1 dO.nd) (bG (aM 2 dO.nd) (bG (aM 3 dO.nd) fW)))))
  (ao (eN (i:=4) dO.nd rfl rfl rfl bU.zero (bY (pv 2)) (λ_ _ _ _=>(lq (PW.pt (tH (aP tU (pv 0) aA) (mz (aP jd (pv 0) aA)))))) (λ_ _ _ _=>(pv 0)))
  (ao (bR (PW.pt (tH (aP yO (aC bj (aF aG rfl T.V0 Tw.bu (VJ 2 aj)) aA) (aF aG rfl T.V0 Tw.bu (VJ 1 aj))) (mz (aP yO (aF aG rfl T.V0 Tw.bu (VJ 3 aj)) (aF aG rfl T.V0 Tw.bu (VJ 1 aj)))))) (aB (aN (dY (aq aA (aq cZ (aq cZ (aq cZ aj))))))) aV)
  (ao (bR (PW.pt (tH (aP (pC hr.units) (pv 4) (bh aj)) (mz (aP jd (aF (Kf rfl) rfl T.afy Tw.Rx (VJ 1 aj)) aA)))) (aB (aN (dY (aq aA (aq cZ (aq cZ (aq cZ aj))))))) aV)
  (ao (aD 5 dO.nd (bh (aq cg aj)))
  (ao (bK PassesOwn.never rfl (lH rfl T.Yn Tw.lg (aq (aQ bx (pv 1) (aR aA) bz) (VJ 2 aj))) (iK rfl (bG (aM 6 dO.nd) (bG (aM 7 dO.nd) fW))) (aB (bF (dj PySem.F.plainAttrs_list PySem.F.slot_list_append PySem.F.type_list_append bW (pv 5) (aq (aC fZ (aQ vI (bN dM (pv 5) (oX jQ aA)) bz (aR (aC cP (pv 6) aA))) (bN vU cg (pv 7))) aj)))))
  (ao (lF (i:=8) dO.nd rfl rfl rfl (bU.zero,7,5) (lH rfl T.Yn Tw.lg (VJ 5 (VJ 3 aj))) (λ_ _ _ _=>(lq (aP fQ (pv 1) aA))) (λ_ _ _ _=>(pv 0)))
  (ao (bR (aP (pC hr.units) (aX T.aaX (j0 T) hr (VJ 8 aj)) (pv 0)) (aB (aN (dY (aq aA (aq cZ (aq cZ (aq cZ aj))))))) aV)
  (aB (aN (pv 8))))))))))),1)
 have Zj:‹f›.length=f.length:=aaa ..;have a4:‹v›.length=v.length:=aaa ..;have a5:‹I›.length=I.length:=aaa ..;have h1:1<=f.length:=(aad.mp hG.1).1;exists 9,pp,9,VM.of x.p,7,_,9,_,9,4;exists 9,pl,7,(_,My.of x.l);refine Gp (λz=>decide (z<0) || decide (25<z)) (My.of x.l) (by rw[sizeLine_eq];lia) (λz B Q _ q=>?_) (λz B Q _ q=>(9,q)) λoo b2=>?_
 ·exists 9,4,9;cases hz:decide (z<0)with
  |true=>
   rw[hz]at q;exact fP q
  |false=>
   rw[hz]at q;exact fM (9,4,9,q)
 have s1:=au b2 (.lst ‹(v.filter λz=>decide (z<0) || decide (25<z))›);have xo:upd H oo (.lst ‹(v.filter λz=>decide (z<0) || decide (25<z))›) oo=_:=aa
 replace x:=x.same s1
 generalize upd H oo (.lst ‹(v.filter λz=>decide (z<0) || decide (25<z))›)=H1 at *;have rf:∀{B:Hp},aL H B -> ¬yM f v I -> ∀r,B r=none->Q (.ref r) (upd B r (.tup [.int 1,.bl true,.bl true,.bl false])):=λN n r k=>qE n r _ (N.free k) (N.trans (au k _)) (by rw[aa];rfl);exists 9,pl,9,.inl (My.of x.l),4,9,pd,9,.inl (My.of x.d),7,9;by_cases c1:v.length+1=f.length
 rotate_left
 ·refine dZ (λ_=>fP (sl4,λr k=>rf s1 (λz=>c1 z.l1) r k)) λz=>absurd (show (!decide _)=true from ?_) z;rw[Zj,a4];simp only[ag0,decide_eq_false_iff_not];intro e;have:=V.int.inj e;lia
 refine dZ (λz=>?_) λ_=>?_
 ·rw[Zj,a4]at z;have e:V.int ((v.length:Int)+1)=V.int (f.length:Int):=congrArg V.int ⋯;simp[e]at z
 exists 9,pe,9,.inl (My.of x.e),9,pd,9,.inl (My.of x.d),7,9;by_cases c2:I.length=f.length
 rotate_left
 ·refine dZ (λ_=>(sl4,λr k=>rf s1 (λz=>c2 z.l2) r k)) λz=>absurd (show (!decide _)=true from ?_) z;rw[Zj,a5];simp only[ag0,decide_eq_false_iff_not];intro e;have:=V.int.inj e;lia
 refine dZ (λz=>?_) λ_=>?_
 ·rw[Zj,a5,c2]at z;simp at z
 refine(9,sl0,λe0 W=>?_);have s2:=s1.trans (au W (.lst []))
 replace xo:=au W (.lst []) _ _ xo
 replace x:=x.same (au W (.lst []))
 have a8:upd H1 e0 (.lst []) e0=some (.lst ‹([]:List Int)›):=aa;generalize upd H1 e0 (.lst [])=H2 at *;refine .inl (oo,e0,_,[],7,7,My.of xo,My.of a8,1);by_cases Z:∀c∈v,rG c
 rotate_left
 ·rw[decide_eq_false λe=>Z (NT.mp e)];exact(9,fP (fP (sl4,λr k=>rf s2 (λz=>Z z.az) r k)))
 rw[decide_eq_true (NT.mpr Z)];refine(9,fM (9,pd,f,7,My.of x.d,6,λM hM=>(4,9,dZ (λz=>?_) λz=>?_)))
 ·have z:(40:Int)<M:=of_decide_eq_true z;refine(sl4,λr k=>rf s2 (λg=>?_) r k);have:=g.d40 M hM.1;lia
 have c4:∀d∈f,d<=40:=λd hd=>by
  have h1:=hM.2 d hd;have z:¬(40:Int)<M:=λn=>z (decide_eq_true n);lia
 clear z hM M
 refine(sl1,λC S=>?_)
 have s3:=s2.trans (au S (.lst [V.str ""]))
 replace x:=x.same (au S (.lst [V.str ""]))
 have G:upd H2 C (.lst [V.str ""]) C=some (.lst ([(⟨#[]⟩:Str)].map V.str)):=aa
 generalize upd H2 C (.lst [V.str ""])=H3 at *
 refine(8,pd,9,My.of x.d,λc hc=>?_);have ec:fc ‹f› (some 1) none=(f.drop 1).map V.int:=by rw[show (1:Int)=((1:Nat):Int)from rfl,gU,agX]
 rw[ec];have s4:=au hc (.lst ‹f.drop 1›);have a9:c≠C:=(aH G hc).symm;have xc:upd H3 c (.lst ‹f.drop 1›) c=some (.lst ‹f.drop 1›):=aa
 replace G:=s4 _ _ G
 replace x:=x.same s4
 replace s3:=s3.trans s4
 generalize upd H3 c (.lst ‹f.drop 1›)=H4 at *;exists 9,c,pl,_,9,My.of xc,My.of x.l;have a2:=vf hG ⋯;have nt:∀{b:Addr}{o:HO},H b=some o->b≠C:=λh=>aH h (s2.free S);have a1:∀{B:Hp},(∀b o,b≠C->H4 b=some o->B b=some o)->aL H B:=λL b o e=>L b o (nt e) (s3 _ _ e);refine pR (xs:=(f.drop 1).map V.int) (ys:=v.map V.int) (λj σ B=>∃(k6 k7:Option V),σ=[!!!pp,!!!pd,!!!pl,!!!pe,!!!oo,!!!C,k6,k7,none]/\(∀b o,b≠C->H4 b=some o->B b=some o)/\B C=some (.lst (((⟨#[]⟩:Str)::(Wc (f.drop 1) v ⟨#[]⟩).take j).map V.str))) (none,none,7,λ_ _ _ e=>e,G) ?_ ?_ ?_
 ·rintro j σ B _ ⟨_,_,_,L,_⟩;exact(My.of (L _ _ a9 xc),My.of (a1 L _ _ J.l))
 ·rintro j x y σ B pr hx hy ⟨k6,k7,rfl,L,G⟩ b1;obtain⟨d,a3,rfl⟩:=int_at hx;obtain⟨z,hz,rfl⟩:=int_at hy;have s5:=au b1 (.tup [.int d,.int z]);have O:=s5 _ _ G;obtain⟨z0,z1⟩:=Z z (aar hz);obtain⟨u,e1,e2⟩:=uE (t:=⟨#[]⟩) a3 hz;have b0:j<(Wc (f.drop 1) v ⟨#[]⟩).length:=(aad.mp e2).1;obtain⟨d1,d2⟩:=a2 d (aar a3);have X:∃a0,((⟨#[]⟩:Str)::(Wc (f.drop 1) v ⟨#[]⟩).take j)=a0++[u]:=by
   have e:((⟨#[]⟩:Str)::(Wc (f.drop 1) v ⟨#[]⟩).take j)=(((⟨#[]⟩:Str)::Wc (f.drop 1) v ⟨#[]⟩)).take (j+1):=rfl;rw[e,aed,e1];exact(_,7)
  obtain⟨a0,a7⟩:=X;have b9:u.length<=3000:=by
   rcases aat.mp (aar e1)with rfl|hu
   ·exact aaH _
   ·exact rz a2 hu
  have b3:Ws (((⟨#[]⟩:Str)::(Wc (f.drop 1) v ⟨#[]⟩).take j).map V.str) (-1)=some (.str u):=by
   rw[a7,aaf];exact mX _ _
  exists pr,9,VM.of aa,7,_,9,4;refine(9,.inl (7,_,My.of O),8,C,_,4,My.of O,b3,9,4,9,u,7,by rw[sizeLine_eq];lia,1);obtain⟨m,rfl⟩:∃m:Nat,d=(m:Int)+1:=((d-1).toNat,6);rw[aib,ux];exists 9,letters,z,97+z.toNat,7,7,5,?_
  ·obtain⟨m,rfl⟩:∃m:Nat,z=(m:Int):=(z.toNat,6);exact jD (mQ _ ⋯)
  have hb:=jA u m;refine(beg u m,⟨#[97+z.toNat]⟩,7,7,by show (beg u m).length+1<=sizeLine;rw[sizeLine_eq];lia,1);refine(C,4,O,1,(_,9,λb o n e=>?_,1))
  ·rw[aaa,aah,aam,ik,aaq,sizeLine_eq];lia
  ·rw[aK n];exact s5 _ _ (L b o n e)
  ·rw[aa,aed,e2,show (z+97).toNat=97+z.toNat by lia,aib,aav];simp
 rintro σ H5 ⟨k6,k7,rfl,L,G⟩;have N:=a1 L;rw[aaa,aaa,aaq]at G;have a6:(Wc (f.drop 1) v ⟨#[]⟩).take (min (f.length-1) v.length)=Wc (f.drop 1) v ⟨#[]⟩:=aal (by rw[ik,aaq];exact aae _);rw[a6]at G;exists 8,C,pe,_,9,My.of G,My.of (N _ _ J.e);refine yg (λ_ y=>decide (y=V.int 1)) (λx _=>x) (My.of G) (My.of (N _ _ J.e)) (by rw[aaa,aah,ik,aaq,sizeLine_eq];lia) (λx y B Q _ hy _ q=>?_) (λx y B Q _ _ _ q=>(9,q)) λD HD hD sD xD=>?_
 ·obtain⟨z,_,rfl⟩:=aaz.mp hy;exact(9,7,9,q)
 replace xD:HD D=some (.lst ((Wv f v I).map V.str)):=by
  rw[xD];unfold Wv;refine congrArg (λl=>some (HO.lst l)) ?_;rw[aju,ah2,afZ,afZ];refine congrArg (List.map _) (ai0 λp _=>?_);exact decide_eq_decide.mpr (λh=>V.int.inj h,λh=>congrArg V.int h)
 have R:=N.trans sD;have b4:=Hl (es:=I) Z c4 hG;have b0:=G9 f v I;obtain⟨U,u1,u2,u3⟩:=Az (ls:=v) (es:=I) hG ⋯;refine(9,D,9,My.of xD,b4,6,(U,6,u2,u3),λr d l e ts H6 s6 y1 y2 y3 y4 hB hts=>?_);refine(9,Xy.ne (y1,y2,y3,y4) ((J.same R).same s6) ?_);by_cases Y:(ts.map λt=>(t.length:Int))=f/\(ts.drop 1).map bV=v/\ts.map (eG (Wv f v I))=I
 ·rw[decide_eq_true Y];exact(9,fM (9,q (c1,c2,Z,c4,ts,hB,Y.1,Y.2.1,Y.2.2) D H6 (N.free hD) (R.trans s6) (s6 _ _ xD)))
 ·rw[decide_eq_false Y];refine(9,fP (sl4,λr k=>rf (R.trans s6) (λz=>Y ?_) r k));obtain⟨b6,g1,g2,g3,g4⟩:=z.pt;have et:=hB.uniq g1;subst et;exact(g2,g3,g4)
theorem HN{H0:Hp}{σ:St}{p:Addr}{zs:List Int}{k:Nat}{i:Int}{n:Nat}{t:TE}{E:XK}(e:σ[n]?=some (!!!p))(c:My K H0 p !!zs)(ht:V9 H0 σ t i)(d:i=(k:Int)):V9 H0 σ (Hc (wR K) [] E (uO (DK n) (uO t N6))) ((zs[k]?).getD 0):=λH _ s q=>
 (_,e,ht H _ s λf b=>(p,zs,k,by rw[d];rfl,(s.trans b).seq c,q f b))
theorem uq{L:List Int}{m:Nat}(e:m<=L.length)(x:Int)(k:Nat):(L.take m++[x]++L.drop m)[k]?=if k<m then L[k]? else if k=m then some x else L[k-1]?:=by
 have d:(L.take m).length=m:=by rw[aam];lia
 rw[aay];by_cases c:k<m
 ·rw[if_pos c,afI ⋯,af2 c]
 ·rw[if_neg c,afH ⋯,d];by_cases b:k=m
  ·rw[if_pos b,b,ag8];rfl
  ·rw[if_neg b,show k-m=(k-1-m)+1 by lia,aiA,ahc,aga,show m+(k-1-m)=k-1 by lia]
theorem cB.ins{ds:List Int}(h:cB ds){i:Nat}{d:Int}(hd:ds[i]?=some d):cB (ds.take (i+1)++[d+1]++ds.drop (i+1)):=by
 have j:=(aad.mp hd).1;have l:=mF h i d hd;refine(by rw[uq ⋯,if_pos ⋯];exact h.1,λk x y b c=>?_);rw[uq ⋯]at b c;by_cases f:k+1<i+1
 ·rw[if_pos ⋯]at b;rw[if_pos f]at c;exact h.2 k x y b c
 ·rw[if_neg f]at c;by_cases g:k=i
  ·subst g;rw[if_pos ⋯,hd]at b;rw[if_pos rfl]at c;cases b;cases c;lia
  ·rw[if_neg ⋯,Nat.add_sub_cancel]at c;rw[if_neg ⋯]at b;by_cases e:k=i+1
   ·subst e;rw[if_pos rfl]at b;cases b;have:=h.2 i d y hd c;lia
   ·rw[if_neg e]at b;exact h.2 (k-1) x y b (by rw[show k-1+1=k by lia];exact c)
structure OP(i b:Nat)(ds ls es:List Int):Prop where
 g:cB ds
 il:i<ds.length
 dl:ds.length<=400+b
 ll:ls.length<=400+b
 el:es.length<=400+b
 ei:b<=1->i<es.length
 lr:∀c∈ls,0<=c/\c<30
 be:aO es
theorem OP.mono{i b:Nat}{ds ls es:List Int}(h:OP i b ds ls es):OP i (b+1) ds ls es:=(h.g,h.il,by have:=h.dl;lia,by have:=h.ll;lia,by have:=h.el;lia,λz=>h.ei ⋯,h.lr,h.be)
inductive OI(H:Hp)(pp:Addr)(sc:Addr)(n:Int)(wy:Int)(i:Nat)(dr:Int)(b:Nat)(σ:St)(H':Hp):Prop
 | mk (pd pl pe:Addr) (ds ls es:List Int) (k9:Option V) (_:σ=[!!!pp,!!!sc,!!!pd,!!!pl,!!!pe,!!!!n,!!!!wy,some (.int (i:Int)),!!!!dr,k9,none]) (_:aL H H') (_:H' pd=some (.lst !!ds)) (_:H' pl=some (.lst !!ls)) (_:H' pe=some (.lst !!es)) (_:OP i b ds ls es)
theorem YT{p:Int->Prop}{xs ys zs:List Int}(f:∀c∈xs,p c)(e:∀c∈ys,p c)(d:∀c∈zs,p c):∀c∈xs++ys++zs,p c:=λc b=>by
 rcases aas.mp b with b|b
 ·rcases aas.mp b with b|b
  ·exact f c b
  ·exact e c b
 ·exact d c b
theorem in1{p:Int->Prop}{x:Int}(h:p x):∀c∈[x],p c:=λc b=>by
 rw[aao.mp b];exact h
theorem Zk{p:Int->Prop}{xs:List Int}{k:Nat}(h:∀c∈xs,p c):∀c∈xs.take k,p c:=λc b=>h c (afN b)
theorem inD{p:Int->Prop}{xs:List Int}{k:Nat}(h:∀c∈xs,p c):∀c∈xs.drop k,p c:=λc b=>h c (afO b)
theorem Dm(n:Nat):cB ((abS (n+1)).map λi:Nat=>(i:Int)):=by
 refine(by rw[aak,agi ⋯];rfl,λi x y c b=>?_);rw[aak]at c b;have d:i+1<n+1:=by
  rcases afF (i+1) (n+1)with z|z
  ·exact z
  ·rw[aaU (by rw[aaG];exact z)]at b;cases b
 rw[agi ⋯]at c b;cases c;cases b;constructor<;>simp<;>lia
theorem fK(x:Int):∀n:Nat,(aai n [x]).flatten=aai n x
 |0=>rfl
 |n+1=>by rw[afX,agt,fK x n];rfl
inductive Lg(K:PySem.W.Frag)(vs:List V)(H:Hp)(Q:VK)(_e1:XK):Prop
 | mk (pp sc pd pl pe:Addr) (ds ls es cells:List Int) (_:vs=[.ref pp,.ref sc]) (_:Xy H pp pd pl pe ds ls es) (_:My K H sc !!cells) (_:cB ds) (_:ds.length<=400) (_:ls.length+1=ds.length) (_:es.length=ds.length) (_:(∀c∈ls,0<=c/\c<30)) (_:aO es) (_:∀r H' V8 pl' pe' (ds' ls' es':List Int),aL H H'->Xy H' r V8 pl' pe' ds' ls' es'->cB ds'->ds'.length<=410->ls'.length<=410->es'.length<=410->(∀c∈ls',0<=c/\c<30)->aO es'->Q (.ref r) H')
theorem Ag(T:Tx K mg a):bI P w K mg base VR 2 a.adn a.acS ["_law_parts","_law_script"] (Lg K):=by
 refine T.adB.F.V2 bA λc0 A b0 s H vs Q E hr h=>?_;obtain⟨Z,sc,X,U,W,I,R,S,N,rfl,x,hS,hG,a7,b5,b6,a5,a9,q⟩:=h;refine(_,(ao (rO (pv 0) (iK rfl (bG (aM 2 bA.nd) (bG (aM 3 bA.nd) (bG (aM 4 bA.nd) fW)))))
  (ao (aD 5 bA.nd (aC bO (aC cH (aX T.YQ (dF T) hr (VJ 1 (aq aA aj))) aA) aA))
  (ao (aD 6 bA.nd (aC bO (aX T.YQ (dF T) hr (VJ 1 (aq aA aj))) aA))
  (ao (aD 7 bA.nd (aC bO (aC iy (pv 5) aA) (aF aG rfl T.V0 Tw.bu (VJ 2 aj))))
  (ao (aD 8 bA.nd (aC bO (pv 5) aA))
  (gG (bR (PW.pt (pI (aP fQ (pv 6) aA) (lJ (aP jd (pv 7) aA)))) (aB (aD 3 bA.nd (aC bB (aC bB (aQ bx (pv 3) bz (aR (aC cP (pv 7) aA))) (bh (VJ 8 aj))) (aQ bx (pv 3) (aR (pv 7)) bz)))) aV)
  (gG (bR (aP fQ (pv 6) aA) (aB (aD 4 bA.nd (aC bB (aC bB (aQ bx (pv 4) bz (aR (pv 7))) (bh (aq (aC cP aA (bN dM (pv 4) (pv 7))) aj))) (aQ bx (pv 4) (aR (aC bj (pv 7) aA)) bz)))) aV)
  (gG (bR (aP fQ (pv 6) aA) (aB (aD 3 bA.nd (aQ bx (aC bB (pv 3) (bh (aq (aC bO (pv 8) aA) aj))) (aR (aC cH (aC bO (pv 8) aA) aA)) bz))) aV)
  (gG (bR (aP fQ (pv 6) aA) (aB (aD 4 bA.nd (aQ bx (aC bB (pv 4) (bh (aq (aC bO (pv 8) aA) aj))) (aR (aC bO (pv 8) aA)) bz))) aV)
  (gG (bR (PW.pt (tH (aP fQ (pv 6) aA) (mz (aP fQ (pv 6) aA)))) (ao (aD 2 bA.nd (aC bB (aC bB (aQ bx (pv 2) bz (aR (aC bj (pv 7) aA))) (bh (aq (aC bj (bN dM (pv 2) (pv 7)) aA) aj))) (aQ bx (pv 2) (aR (aC bj (pv 7) aA)) bz)))
  (ao (aD 3 bA.nd (aC bB (aC bB (aQ bx (pv 3) bz (aR (pv 7))) (bh (aq (aC bO (pv 8) aA) aj))) (aQ bx (pv 3) (aR (pv 7)) bz)))
  (aB (aD 4 bA.nd (aC bB (aC bB (aQ bx (pv 4) bz (aR (aC bj (pv 7) aA))) (bh (aq (aC bO (pv 6) aA) aj))) (aQ bx (pv 4) (aR (aC bj (pv 7) aA)) bz)))))) aV)
  (gG (bR (PW.pt (pI (aP fQ (pv 6) aA) (lJ (aP jd (pv 7) aA)))) (ao (aD 9 bA.nd (aQ bx (pv 3) (aR (aC cP (pv 7) aA)) (aR (aC bj (pv 7) aA))))
  (aB (aD 3 bA.nd (aC bB (aC bB (aQ bx (pv 3) bz (aR (aC cP (pv 7) aA))) (QL (pv 9) (oX jQ aA))) (aQ bx (pv 3) (aR (aC bj (pv 7) aA)) bz))))) aV)
  (ao (bR (aP fQ (pv 6) aA) (ao (aD 10 bA.nd (aC bj aA (aC bO (pv 8) aA)))
  (aB (aN (dY (aq (vg rfl rfl T.Yd Tw.iw rfl T.Xi (aq (aC bj (pv 10) aA) aj)) (aq (aC j9 (bh (aq (aC bO (pv 8) aA) aj)) (pv 10)) (aq (aC bB (aC j9 (bh (aq aA aj)) (pv 10)) (bh (aq aA aj))) aj))))))) aV)
  (aB (aN (dY (VJ 2 (VJ 3 (VJ 4 aj)))))))))))))))))),1)
 have b9:1<=I.length:=(aad.mp hG.1).1;exists 9,Z,9,VM.of x.p,7,_,9,_,9,4;obtain⟨n,hn⟩:∃n:Int,(N[1]?).getD 0*48271%2147483647=n:=(_,7);have b3:0<=n:=by lia
 refine kh (V9.to (cV (cV (HN (n:=1) (k:=1) rfl hS bT rfl) bT (.inr (5,5))) bT (by show (0:Int)<2147483647;decide)) hn) λH1 s1=>?_;obtain⟨O,hw⟩:∃O:Int,(N[0]?).getD 0%12=O:=(_,7);have b1:0<=O:=by lia
 refine kh (V9.to (cV (HN (n:=1) (k:=0) rfl (s1.seq hS) bT rfl) bT (by show (0:Int)<12;decide)) hw) λH2 s2=>?_;obtain⟨i,hi⟩:∃i:Nat,n / 30%(I.length:Int)=(i:Int):=(_,(ah4 (ahK _ ⋯)).symm);have a6:i<I.length:=by
  have:=ahn (n / 30) (b:=(I.length:Int)) ⋯;lia
 have a0:=s1.trans s2;refine kh (V9.to (cV (cV (aU rfl) bT (5,5)) (uG (cF rfl (a0 _ _ x.d))) (by show (0:Int)<(I.length:Int);lia)) hi) λH3 s3=>?_;obtain⟨D,a1⟩:∃D:Int,n%30=D:=(_,7);have a2:0<=D/\D<30:=by lia
 refine kh (V9.to (cV (aU rfl) bT (by show (0:Int)<30;decide)) a1) λH4 s4=>?_;have y:=a0.trans (s3.trans s4);have C:=y _ _ x.d;have u:=y _ _ x.l;have B:=y _ _ x.e;have o:OP i 0 I R S:=(hG,a6,a7,6,6,λ_=>by lia,a5,a9)
 clear hn hw hi a1
 exists OI H Z sc n O i D 1,1
 ·refine PU.arm (PU.and (sW (aU rfl) bT) (Ro (aU rfl) bT)) (λJ f Y=>?_) λJ f _=>?_
  ·have c:1<=i:=by
    have:=of_decide_eq_true (Y rfl).2;lia
   have hl:=o.ll;refine lA (cO (cO (oZ (j:=i-1) (cF rfl (f _ _ u)) (dq (aU rfl) bT) ⋯).v (dB (bZ (aU rfl) dD) (by show 1<=500000;decide)).v ?_).v (fG (j:=i) (cF rfl (f _ _ u)) (aU rfl) rfl).v ?_) λr H6 _ t G=>(2,9,y.trans (f.trans t),(f.trans t) _ _ C,G,(f.trans t) _ _ B,(o.g,o.il,by have:=o.dl;lia,1,by have:=o.el;lia,λ_=>o.ei ⋯,YT (Zk o.lr) (in1 a2) (inD o.lr),o.be))
   all_goals simp only[aab,aah,afV,aam,aaq]
   all_goals lia
  ·exact(2,9,y.trans f,f _ _ C,f _ _ u,f _ _ B,o.mono)
 clear y C u B o
 rintro _ H4 ⟨X,U,W,I,R,S,k9,rfl,y,C,u,B,o⟩;exists OI H Z sc n O i D 2,1
 ·refine PU.arm (sW (aU rfl) bT) (λJ f Y=>?_) λJ f _=>?_
  ·have hl:=o.el;have hi:=o.ei (aae 1);have a8:=o.be _ (afL hi);refine lA (cO (cO (oZ (j:=i) (cF rfl (f _ _ B)) (aU rfl) rfl).v (dB (bZ (dq bT (Aw (cF rfl (f _ _ B)) (aU rfl) rfl (aac hi))) dD) (by show 1<=500000;decide)).v ?_).v (fG (j:=i+1) (cF rfl (f _ _ B)) (dq (aU rfl) bT) ⋯).v ?_) λr H6 _ t G=>(2,9,y.trans (f.trans t),(f.trans t) _ _ C,(f.trans t) _ _ u,G,(o.g,o.il,by have:=o.dl;lia,by have:=o.ll;lia,1,λz=>absurd z ∅,o.lr,YT (Zk o.be) (in1 (by rcases a8 with z|z<;>rw[z]<;>decide)) (inD o.be)))
   all_goals simp only[aab,aah,afV,aam,aaq]
   all_goals lia
  ·exact(2,9,y.trans f,f _ _ C,f _ _ u,f _ _ B,o.mono)
 clear y C u B o
 rintro _ H4 ⟨X,U,W,I,R,S,k9,rfl,y,C,u,B,o⟩;exists OI H Z sc n O i D 3,1
 ·refine PU.arm (sW (aU rfl) bT) (λJ f Y=>?_) λJ f _=>?_
  ·have hl:=o.ll;obtain⟨j,hj⟩:∃j:Nat,D%2*2=(j:Int):=((D%2*2).toNat,6);refine lA (fG (j:=j) (cO (cF rfl (f _ _ u)) (dB (bZ (cV (aU rfl) bT (by show (0:Int)<26;decide)) dD) (by show 1<=500000;decide)).v ?_).v (cV (cV (aU rfl) bT (by show (0:Int)<2;decide)) bT (.inr (5,5))) hj) λr H6 _ t G=>(2,9,y.trans (f.trans t),(f.trans t) _ _ C,G,(f.trans t) _ _ B,(o.g,o.il,by have:=o.dl;lia,1,by have:=o.el;lia,λz=>absurd z ∅,inD (YT (xs:=[]) (ys:=R) (zs:=[D%26]) (λ_ h=>by cases h) o.lr (in1 ⋯)),o.be))
   all_goals simp only[aab,aah,afV,aam,aaq]
   all_goals lia
  ·exact(2,9,y.trans f,f _ _ C,f _ _ u,f _ _ B,o.mono)
 clear y C u B o
 rintro _ H4 ⟨X,U,W,I,R,S,k9,rfl,y,C,u,B,o⟩;exists OI H Z sc n O i D 4,1
 ·refine PU.arm (sW (aU rfl) bT) (λJ f Y=>?_) λJ f _=>?_
  ·have hl:=o.el;obtain⟨j,hj⟩:∃j:Nat,D%3=(j:Int):=((D%3).toNat,6);refine lA (fG (j:=j) (cO (cF rfl (f _ _ B)) (dB (bZ (cV (aU rfl) bT (by show (0:Int)<2;decide)) dD) (by show 1<=500000;decide)).v ?_).v (cV (aU rfl) bT (by show (0:Int)<3;decide)) hj) λr H6 _ t G=>(2,9,y.trans (f.trans t),(f.trans t) _ _ C,(f.trans t) _ _ u,G,(o.g,o.il,by have:=o.dl;lia,by have:=o.ll;lia,1,λz=>absurd z ∅,o.lr,inD (YT (xs:=[]) (ys:=S) (zs:=[D%2]) (λ_ h=>by cases h) o.be (in1 ⋯))))
   all_goals simp only[aab,aah,afV,aam,aaq]
   all_goals lia
  ·exact(2,9,y.trans f,f _ _ C,f _ _ u,f _ _ B,o.mono)
 clear y C u B o
 rintro _ H4 ⟨X,U,W,I,R,S,k9,rfl,y,C,u,B,o⟩;exists OI H Z sc n O i D 5,1
 ·refine PU.arm (PU.or (sW (aU rfl) bT) (sW (aU rfl) bT)) (λJ f Y=>?_) λJ f _=>?_
  ·have h1:=o.dl;have h2:=o.ll;have h3:=o.el;have hd:=aac o.il;refine lA (cO (cO (oZ (j:=i+1) (cF rfl (f _ _ C)) (dq (aU rfl) bT) ⋯).v (dB (bZ (dq (Aw (cF rfl (f _ _ C)) (aU rfl) rfl hd) bT) dD) (by show 1<=500000;decide)).v ?_).v (fG (j:=i+1) (cF rfl (f _ _ C)) (dq (aU rfl) bT) ⋯).v ?_) λr H6 _ t G=>?_
   rotate_left
   rotate_left
   ·replace t:=f.trans t
    refine lA (cO (cO (oZ (j:=i) (cF rfl (t _ _ u)) (aU rfl) rfl).v (dB (bZ (cV (aU rfl) bT (by show (0:Int)<26;decide)) dD) (by show 1<=500000;decide)).v ?_).v (fG (j:=i) (cF rfl (t _ _ u)) (aU rfl) rfl).v ?_) λr2 H7 _ L Xq=>?_
    rotate_left
    rotate_left
    ·replace G:=L _ _ G
     replace L:=t.trans L
     refine lA (cO (cO (oZ (j:=i+1) (cF rfl (L _ _ B)) (dq (aU rfl) bT) ⋯).v (dB (bZ (cV (aU rfl) bT (by show (0:Int)<2;decide)) dD) (by show 1<=500000;decide)).v ?_).v (fG (j:=i+1) (cF rfl (L _ _ B)) (dq (aU rfl) bT) ⋯).v ?_) λr3 H8 _ s8 a3=>(2,9,y.trans (L.trans s8),s8 _ _ G,s8 _ _ Xq,a3,(o.g.ins hd,1,1,1,1,λz=>absurd z ∅,YT (Zk o.lr) (in1 ⋯) (inD o.lr),YT (Zk o.be) (in1 ⋯) (inD o.be)))
     all_goals simp only[aab,aah,afV,aam,aaq]
     all_goals have:=o.il
     all_goals lia
    all_goals simp only[aab,aah,afV,aam,aaq]
    all_goals lia
   all_goals simp only[aab,aah,afV,aam,aaq]
   all_goals lia
  ·exact(2,9,y.trans f,f _ _ C,f _ _ u,f _ _ B,o.mono)
 clear y C u B o
 rintro _ H4 ⟨X,U,W,I,R,S,k9,rfl,y,C,u,B,o⟩;exists OI H Z sc n O i D 8,1
 ·refine PU.arm (PU.and (sW (aU rfl) bT) (Ro (aU rfl) bT)) (λJ f Y=>?_) λJ f _=>?_
  ·have c:1<=i:=by
    have:=of_decide_eq_true (Y rfl).2;lia
   have hl:=o.ll;refine lA (RP (j:=i-1) (k:=i+1) (cF rfl (f _ _ u)) (dq (aU rfl) bT) (dq (aU rfl) bT) ⋯ ⋯) λr H6 _ t G=>?_
   replace t:=f.trans t
   refine lA (cO (cO (oZ (j:=i-1) (cF rfl (t _ _ u)) (dq (aU rfl) bT) ⋯).v (R9 (cF rfl G) (Tu bT)).v ?_).v (fG (j:=i+1) (cF rfl (t _ _ u)) (dq (aU rfl) bT) ⋯).v ?_) λr H7 _ L G=>(2,9,y.trans (t.trans L),(t.trans L) _ _ C,G,(t.trans L) _ _ B,(o.g,o.il,by have:=o.dl;lia,1,by have:=o.el;lia,λz=>absurd z ∅,YT (Zk o.lr) (λc M=>Zk (inD o.lr) c (ahB.mp M)) (inD o.lr),o.be))
   all_goals simp only[aab,aiF,aah,afV,aam,aaq]
   all_goals lia
  ·exact(2,9,y.trans f,f _ _ C,f _ _ u,f _ _ B,o.mono.mono.mono)
 clear y C u B o
 rintro _ H4 ⟨X,U,W,I,R,S,k9,rfl,y,C,u,B,o⟩;refine PU.arm (sW (aU rfl) bT) (λJ f Y=>?_) λJ f _=>?_
 ·obtain⟨m,hm,b4⟩:∃m:Nat,40+D%2=(m:Int)/\m<=41:=((40+D%2).toNat,6,6);refine kh (V9.to (dq bT (cV (aU rfl) bT (by show (0:Int)<2;decide))) hm) λH6 t=>?_;refine(9,4,m+1,by simp,6,λr1 a4=>?_);have L:=au a4 (.lst ‹((abS (m+1)).map λi:Nat=>(i:Int))›);refine Ey (dB (bZ (cV (aU rfl) bT (by show (0:Int)<26;decide)) dD) (by show 1<=500000;decide)).v (aU rfl) rfl (by show 1*m<=500000;lia) ⋯ _ _ (.refl _) λr2 H8 b2 s8 x2=>?_;refine cO (Ey (dB (bZ bT dD) (by show 1<=500000;decide)).v (aU rfl) rfl (by show 1*m<=500000;lia) ⋯).v (dB (bZ bT dD) (by show 1<=500000;decide)).v ?_ _ _ (.refl _) λr3 H9 Y5 s9 x3=>?_
  rotate_left
  ·refine(sl3,λr hr=>?_);have sn:=au hr (.tup [.ref r1,.ref r2,.ref r3]);refine q r _ r1 r2 r3 _ _ _ (y.trans (f.trans (t.trans (L.trans (s8.trans (s9.trans sn)))))) (aa,sn _ _ (s9 _ _ (s8 _ _ aa)),sn _ _ (s9 _ _ x2),sn _ _ x3) (Dm m) ?_ ?_ ?_ ?_ ?_
   ·rw[aaa,aaG];lia
   ·rw[fK,aaw];lia
   ·rw[fK,aab,aaw];show m+1<=410;lia
   ·intro c M;rw[fK]at M;rw[af8 M];lia
   ·intro c M;rw[fK]at M;rcases aas.mp M with M|M
    ·rw[af8 M];exact .inl rfl
    ·rw[aao.mp M];exact .inr rfl
  ·rw[fK,aaw];show m+1<=500000;lia
 ·refine(8,9,sl3,λr hr=>?_);have sn:=au hr (.tup [.ref X,.ref U,.ref W])
  replace f:=f.trans sn
  exact q r _ X U W I R S (y.trans f) (aa,f _ _ C,f _ _ u,f _ _ B) o.g (by have:=o.dl;lia) (by have:=o.ll;lia) (by have:=o.el;lia) o.lr o.be
theorem Tg:∀(r:List Int) (u:Int),brk r u=aai (u-(r[0]?).getD 0).toNat 0++brk r ((r[0]?).getD 0)
 |[],u=>by
  show aai u.toNat 0=aai (u-0).toNat 0++aai (0:Int).toNat 0;rw[Int.sub_zero];exact(afR _).symm
 |d::r,u=>by
  show aai (u-d).toNat 0++1::brk r (d+1)=aai (u-d).toNat 0++(aai (d-d).toNat 0++1::brk r (d+1));rw[ah9];rfl
theorem Vs{ds:List Int}(i:cB ds)(o:ds.length<=2048){j k:Nat}{m:Int}(h:qN (brk ds 0) 4096 j k m)(g:k=wide (brk ds 0).length j)(p:32*j<(brk ds 0).length):oY (brk ds 0) j m:=by
 obtain⟨q,l,d⟩:=h;unfold wide at g;refine(1,λt c f n=>d t c ⋯);rcases l with e|⟨t,c,f,e⟩
 ·have a:=d (32*j+1) ⋯ ⋯;have b:=JW i (k:=32*j+1) ⋯;lia
 ·exact(t,c,6,6,e)
inductive PP(vs:List V)(H:Hp)(Q:VK)(_e1:XK):Prop
 | mk (p:Addr) (ds:List Int) (_:vs=[.ref p]) (_:H p=some (.lst !!ds)) (_:cB ds) (_:ds.length<=2100) (_:∀r H' (os:List Int),H r=none->aL H H'->H' r=some (.lst !!os)->(∃rest,os=2::(aZ ((2*ds.length:Nat):Int) 2++rest)/\rest.length<=3000)->(ds.length<=2048 -> ∃lows,v7 (brk ds 0) lows/\os=dH (brk ds 0) lows)->Q (.ref r) H')
theorem Ci(T:Tx K mg a):bI P w K mg base VR 1 a.ad2 a.adp ["_law_depths"] PP:=by
 refine T.ad9.F.V2 bH λe9 A e4 s H vs Q E hr h=>?_;obtain⟨p,l,rfl,hp,hG,e6,q⟩:=h;refine(_,(ao (aD 1 bH.nd (bh aj))
  (ao (bK PassesOwn.never rfl (lH rfl T.Yn Tw.lg (VJ 0 (aq (aC bB (aQ bx (pv 0) (aR aA) bz) (bh (aq aA aj))) aj))) (iK rfl (bG (aM 2 bH.nd) (bG (aM 3 bH.nd) fW))) (ao (bF (dj PySem.F.plainAttrs_list PySem.F.slot_list_append PySem.F.type_list_append bW (pv 1) (aq aA aj)))
  (aB (bF (dj PySem.F.plainAttrs_list PySem.F.slot_list_extend PySem.F.type_list_extend dC (pv 1) (aq (aC j9 (bh (aq aA aj)) (aC cP (aC bj (pv 2) aA) (pv 3))) aj))))))
  (ao (aD 4 bH.nd (bh aj))
  (ao (bK PassesOwn.never rfl (Ji rfl T.Xi (aq aA (aq (aF aG rfl T.V0 Tw.bu (VJ 1 aj)) (aq aA aj)))) (aM 5 bH.nd) (ao (aD 6 bH.nd aA)
  (ao (bK PassesOwn.never rfl (Gq rfl T.acx (aq (aQ bx (pv 1) (aR (pv 5)) (aR (aC bj (pv 5) aA))) aj) Tw.mH) (aM 7 bH.nd) (aB (aD 6 bH.nd (aC bj (aC cH aA (pv 6)) (pv 7)))))
  (aB (bF (dj PySem.F.plainAttrs_list PySem.F.slot_list_append PySem.F.type_list_append bW (pv 4) (VJ 6 aj)))))))
  (ao (bF (dj PySem.F.plainAttrs_list PySem.F.slot_list_extend PySem.F.type_list_extend dC (pv 4) (aq (aC bB (aC j9 (bh (aq aA aj)) (aC bO (aC cP aA (aF aG rfl T.V0 Tw.bu (VJ 4 aj))) aA)) (bh (aq aA (aq aA aj)))) aj)))
  (ao (aD 8 bH.nd aA)
  (ao (aD 9 bH.nd (bh aj))
  (ao (bK PassesOwn.never rfl (yN rfl T.Xi (aq aA (aq (aF aG rfl T.V0 Tw.bu (VJ 1 aj)) (aq aA aj)))) (aM 5 bH.nd) (ao (aD 10 bH.nd aA)
  (ao (aD 11 bH.nd (pv 5))
  (ao (bK PassesOwn.never rfl (bY (aQ bx (pv 1) (aR (pv 5)) (aR (aC bj (pv 5) aA)))) (aM 7 bH.nd) (ao (aD 8 bH.nd (aC bj (pv 8) (pv 7)))
  (ao (aD 11 bH.nd (aC bj (pv 11) aA))
  (aB (aD 10 bH.nd (aF (nZ rfl) rfl T.ZS Tw.uN (VJ 10 (aq (aC cP (aC cH aA (pv 8)) (pv 11)) aj))))))))
  (ao (bF (dj PySem.F.plainAttrs_list PySem.F.slot_list_extend PySem.F.type_list_extend dC (pv 4) (aq (bh (aq (aC bO (pv 8) aA) (aq (aC iy (pv 8) aA) aj))) aj)))
  (aB (bF (dj PySem.F.plainAttrs_list PySem.F.slot_list_extend PySem.F.type_list_extend dC (pv 9) (aq (bh (aq (aC bO (pv 10) aA) (aq (aC iy (pv 10) aA) aj))) aj)))))))))
  (aB (aN (aC bB (aC bB (bh (aq aA (aq (aC bO (aF aG rfl T.V0 Tw.bu (VJ 1 aj)) aA) (aq (aC iy (aF aG rfl T.V0 Tw.bu (VJ 1 aj)) aA) aj)))) (pv 4)) (pv 9)))))))))))),1)
 have Zj:‹l›.length=l.length:=aaa ..;have Wg:=iQ hG;have b2:=qH hG;refine(sl0,λB Zm=>?_);have s0:=au Zm (.lst []);have x0:upd H B (.lst []) B=some (.lst ‹([]:List Int)›):=aa;generalize upd H B (.lst [])=H0 at *;have a0:=s0 _ _ hp;have c0:p≠B:=aH hp Zm;exists 9;refine cO (fG (j:=1) (cF rfl a0) bT rfl).v (dB (bZ bT dD) (by show 1<=500000;decide)).v (by rw[aaq];show _+1<=_;lia) _ _ (.refl _) λc Z hc s1 X=>?_;exists p,c,_,9,My.of (s1 _ _ a0),My.of X;have c1:c≠B:=(aH x0 hc).symm;refine pR (xs:=l.map V.int) (ys:=(l.drop 1++[0]).map V.int) (λj C D=>(∃(q2 q3:Option V),C=[!!!p,!!!B,q2,q3,none,none,none,none,none,none,none,none])/\(∀b o,b≠B->Z b=some o->D b=some o) /\ ∃O:List Int,D B=some (.lst !!O)/\O++brk (l.drop j) ((l[j]?).getD 0)=brk l 0) ((none,none,7),λ_ _ _ e=>e,[],s1 _ _ x0,1) ?_ ?_ ?_
 ·rw[hG.1];rfl
 ·rintro j C D _ ⟨_,kk,_⟩;exact(My.of (kk _ _ c0 (s1 _ _ a0)),My.of (kk _ _ c1 X))
 ·rintro j x y C D pr hx Y ⟨⟨q2,q3,rfl⟩,kk,O,xb,I⟩ c8;obtain⟨d,hd,rfl⟩:=int_at hx;obtain⟨z,hz,rfl⟩:=int_at Y;have s3:=au c8 (.tup [.int d,.int z]);have b6:=(aad.mp hd).1;have e7:=mF hG j d hd;have b1:z=(l[j+1]?).getD 0:=by
   rcases afF j (l.drop 1).length with u|u
   ·rw[afI u,aga,ahE]at hz;rw[hz];rfl
   ·rw[aaq]at u;have e:j=(l.drop 1).length:=by
     rw[aaq];lia
    rw[afH ⋯,e,ag8]at hz;rw[aaU ⋯];exact(afE hz).symm
  have c7:0<=z/\z<=(j:Int)+1:=by
   rw[b1];cases hg:l[j+1]? with
   |none=>
    show (0:Int)<=0/\(0:Int)<=_;lia
   |some v=>
    have:=mF hG _ v hg;show 0<=v/\v<=_;lia
  have U:O++[1]++aai (d+1-z).toNat 0++brk (l.drop (j+1)) ((l[j+1]?).getD 0)=brk l 0:=by
   rw[<-I,hd,afT b6];have e:l[j]=d:=afE ((aac b6).symm.trans hd);rw[e];show _=O++(aai (d-d).toNat 0++1::brk (l.drop (j+1)) (d+1));rw[Tg (l.drop (j+1)) (d+1),aga,Nat.add_zero,<-b1,ah9];simp
  have c4:=congrArg ag9 U;simp only[aab,aah,afV,aaw,Wg]at c4;have a9:=s3 _ _ xb;exists pr,9,VM.of aa,7,_,9,4;refine(9,.inl (7,_,My.of a9),B,4,a9,by rw[aaa,sizeLine_eq];lia,1);have a8:upd (upd D pr (.tup [.int d,.int z])) B (.lst (O.map V.int++[.int 1])) B=some (.lst ‹O++[1]›):=by
   rw[aa,aaf];rfl
  have c6:∀b o,b≠B->Z b=some o->upd (upd D pr (.tup [.int d,.int z])) B (.lst (O.map V.int++[.int 1])) b=some o:=λb o n e=>by
   rw[aK n];exact s3 _ _ (kk b o n e)
  generalize upd (upd D pr (.tup [.int d,.int z])) B (.lst (O.map V.int++[.int 1]))=H4 at *;exists 9,.inl (7,_,My.of a8);refine(by show 1<=sizeLine;decide:1<=sizeLine) |> λh1=>(h1,λl1 d3=>(9,4,9,4,l1,4,aa,1,1,1,λl2 d2=>?_))
  ·lia
  ·lia
  ·rw[sizeLine_eq];show 1*(d+1-z).toNat<=_;lia
  have s5:=(au d3 (.lst [V.int 0])).trans (au d2 (.lst (aai (d+1-z).toNat [V.int 0]).flatten));exists B,l2,4,s5 _ _ a8,aa,1,(_,9),λb o n e=>?_,O++[1]++aai (d+1-z).toNat 0,?_
  ·rw[uv,aaa,aaa,aab,aaw,sizeLine_eq];show O.length+1+_<=_;lia
  ·rw[aK n];exact s5 _ _ (c6 b o n e)
  ·rw[aa,uv,<-aaf]
  ·exact U
 rintro C M ⟨⟨q2,q3,rfl⟩,kk,O,xb,I⟩;rw[Zj,aaa,aab,aaq,show min l.length (l.length-1+[(0:Int)].length)=l.length from (by have:=(aad.mp hG.1).1;show min l.length (l.length-1+1)=l.length;lia),ahj,aaU (aae _)]at I
 replace I:O=brk l 0:=(afR _).symm.trans I
 subst I;have sH:aL H M:=λb o e=>kk b o (aH e Zm) (s1 _ _ (s0 _ _ e))
 clear kk X s1 x0 s0 a0
 have hb:=eU l 0;have c2:∀{k:Nat},k<=(brk l 0).length->0<=ht (brk l 0) k:=λh=>b2.pos h
 clear b2
 generalize b4:brk l 0=f at *;have Wz:‹f›.length=f.length:=aaa ..;have hm:many f.length<=132:=by
  unfold many;lia
 refine(sl0,λr R=>?_);have hS:=My.of (K:=K) xb;have e8:M=M:=rfl;generalize M=Z at *;exists 9,B,9,.inl ((au R _).seq hS),‹f›.length,7,⋯;rw[Wz];refine qg (n:=(f.length+7) / 8) (λi C D=>(∃k3 k4 L,C=[!!!p,!!!B,q2,q3,!!!r,k3,k4,L,none,none,none,none])/\aL Z D/\D r=some (.lst ‹(abS i).map (mV f)›)) ((none,none,none,7),au R _,aa) ?_ ?_
 ·rintro i C D hi ⟨⟨k3,k4,L,rfl⟩,sm,x⟩;refine(8,8,4,9,B,9,sm.seq hS,λc hc=>(c,9,My.of aa,1));have ec:fc ‹f› (some (0+(i:Int)*8)) (some (0+(i:Int)*8+8))=((f.drop (8*i)).take 8).map V.int:=by
   rw[show (0:Int)+(i:Int)*8=((8*i:Nat):Int)from by lia,show ((8*i:Nat):Int)+8=((8*i+8:Nat):Int)from by lia,nU,agf]
  rw[ec];have ne:r≠c:=aH x hc;have I:aO ((f.drop (8*i)).take 8):=λy Y=>hb y (afO (afN Y));generalize hg:(f.drop (8*i)).take 8=G at *;refine Aa (xs:=G.map V.int) (λj C M=>(∃L,C=[!!!p,!!!B,q2,q3,!!!r,some (.int (0+(i:Int)*8)),some (.int (blk (G.drop (G.length-j)))),L,none,none,none,none])/\aL Z M/\M c=some (.lst !!G)/\M r=some (.lst ‹(abS i).map (mV f)›)) ?_ ?_ ?_ ?_
  ·refine((L,1),sm.trans (au hc _),aa,by rw[aK ne];exact x);rw[ahF,ahj];rfl
  ·rintro j C M _ ⟨_,_,h,_⟩;exact My.of h
  ·rintro j y C M hj Y ⟨⟨L,rfl⟩,V1,X,W⟩;obtain⟨z,hz,rfl⟩:=int_at Y;rw[aaa]at hj hz;refine(9,4,.inl (5,5),9,4,(!!!!z,1),V1,X,W);have e:G.drop (G.length-(j+1))=z::G.drop (G.length-j):=by
    have e1:G.length-(j+1)=G.length-1-j:=by lia
    have e2:G.length-j=G.length-1-j+1:=by lia
    rw[e1,e2,afT ⋯];congr 1;have:=aad.mp hz;exact this.2
   rw[e];rfl
  ·rintro C M ⟨⟨L,rfl⟩,V1,X,W⟩;rw[aaa,ag8,agE];exists 9,.inl (7,_,My.of W),9,r,4,W,1,(_,_,9),bc V1 R _
   ·rw[aaa,aaa,aaG,sizeLine_eq];lia
   ·rw[aa,afU,aaf,aaf];show some (HO.lst (_++[V.int (blk G)]))=some (HO.lst (_++[V.int (mV f i)]));unfold mV;rw[hg]
 rintro C HC ⟨⟨k3,k4,L,rfl⟩,c5,xC⟩;obtain⟨J,d0⟩:∃J:Nat,J=(f.length+7) / 8:=(_,7);rw[<-d0]at xC;have e0:‹(abS J).map (mV f)›.length=J:=by
  rw[aaa,aaa,aaG]
 exists 9,.inl (7,_,My.of xC);obtain⟨N,d6⟩:∃N:Nat,(0-(J:Int))%4=(N:Int):=(((0-(J:Int))%4).toNat,6);have d7:J+N=4*many f.length:=by
  unfold many;lia
 refine cO (Ey (j:=N) (dB (bZ bT dD) (by show 1<=500000;decide)).v (cV (dq bT (uG (cF rfl xC))) bT (by show (0:Int)<4;decide)) (by rw[aaa,aaG];exact d6) (by show 1*N<=500000;lia) ⋯).v (dB (bZ bT (bZ bT dD)) (by show 2<=500000;decide)).v (by rw[fK,aaw];show N+2<=_;lia) _ _ (.refl _) λz0 H3 c7 s3 xz=>?_;have x3:=s3 _ _ xC;exists r,z0,4,x3,xz,1
 ·rw[e0,aaa,fK,aab,aaw,sizeLine_eq];show J+(N+2)<=_;lia
 have e3:(abS J).map (mV f)++((aai N [(0:Int)]).flatten++[0,0])=LO f 0:=by
  unfold LO;rw[fK,<-d7,List.range_add,aaf,afZ,aay];congr 1;have e:(abS N).map (mV f ∘ λx=>J+x)=aai N 0:=by
   refine aiB.mpr (by rw[aaa,aaG],λv hv=>?_);obtain⟨k,_,rfl⟩:=aaz.mp hv;show mV f (J+k)=0;exact Lh ⋯
  rw[e];rfl
 have s4:aL Z (upd H3 r (.lst (((abS J).map (mV f)).map V.int++((aai N [(0:Int)]).flatten++[0,0]).map V.int))):=bc (c5.trans s3) R _;have x4:upd H3 r (.lst (((abS J).map (mV f)).map V.int++((aai N [(0:Int)]).flatten++[0,0]).map V.int)) r=some (.lst ‹LO f 0›):=by
  rw[aa,<-aaf,e3]
 generalize upd H3 r (.lst (((abS J).map (mV f)).map V.int++((aai N [(0:Int)]).flatten++[0,0]).map V.int))=H5 at *;refine(sl0,λlw a1=>?_);have s3:=s4.trans (au a1 (.lst []));have x3:=au a1 (.lst []) _ _ x4;have b0:r≠lw:=aH x4 a1;have c3:=s4.free a1;exists 9,B,9,.inl (s3.seq hS),‹f›.length,7,⋯;rw[Wz];refine qg (n:=(f.length+31) / 32) (λi C D=>(∃k4 L k6 k9 a4,C=[!!!p,!!!B,q2,q3,!!!r,k4,L,k6,some (.int (f.take (32*i)).sum),!!!lw,k9,a4])/\aL Z D/\D r=some (.lst ‹LO f i›) /\ ∃g:List Int,D lw=some (.lst ‹(g.flatMap λx=>aZ x 2)›)/\g.length=i /\ ∀j m,g[j]?=some m->qN f 4096 j (wide f.length j) m) ((k3,k4,L,none,none,7),s3,x3,[],aa,7,λj m e=>by cases e) ?_ ?_
 ·rintro i C D hi ⟨⟨k4,L,k6,k9,a4,rfl⟩,sm,x,g,xl,a2,a5⟩;refine(8,8,9,4,9,B,9,sm.seq hS,λc hc=>(c,7,(_,My.of aa),1));have ec:fc ‹f› (some (0+(i:Int)*32)) (some (0+(i:Int)*32+32))=((f.drop (32*i)).take 32).map V.int:=by
   rw[show (0:Int)+(i:Int)*32=((32*i:Nat):Int)from by lia,show ((32*i:Nat):Int)+32=((32*i+32:Nat):Int)from by lia,nU,agf]
  rw[ec];have sc:=au hc (.lst ‹(f.drop (32*i)).take 32›);have d4:((f.drop (32*i)).take 32).length=wide f.length i:=by
   rw[aam,aaq];rfl
  have d5:∀j b,((f.drop (32*i)).take 32)[j]?=some b->f[32*i+j]?=some b:=λj b e=>by
   have hj:=(aad.mp e).1;rw[aam]at hj;rw[af2 ⋯,aga]at e;exact e
  generalize (f.drop (32*i)).take 32=G at *;refine cG (xs:=G.map V.int) (λj C D=>(∃k6 m,C=[!!!p,!!!B,q2,q3,!!!r,some (.int (0+(i:Int)*32)),L,k6,some (.int (f.take (32*i+j)).sum),!!!lw,!!!!m,some (.int (0+(i:Int)*32+(j:Int)))]/\qN f 4096 i j m)/\aL Z D/\D c=some (.lst !!G)/\D r=some (.lst ‹LO f i›)/\D lw=some (.lst ‹(g.flatMap λx=>aZ x 2)›)) ?_ ?_ ?_ ?_
  ·refine((k6,4096,1,qN.zero f 4096 i),sm.trans sc,aa,sc _ _ x,sc _ _ xl);rw[show (0:Int)+(i:Int)*32+((0:Nat):Int)=0+(i:Int)*32 from by lia];rfl
  ·rintro j C M _ ⟨_,_,h,_⟩;exact My.of h
  ·rintro j y C M Y ⟨⟨k6,m,rfl,S⟩,V1,X,W,xw⟩;obtain⟨b,d8,rfl⟩:=int_at Y;have c9:=d5 j b d8;have es:=Bb c9;have eh:2*((f.take (32*i+j)).sum+b)-(0+(i:Int)*32+(j:Int)+1)=ht f (32*i+j+1):=by
    unfold ht;rw[es];lia
   exists 8,4;exists 9,4;exists 8,4,.inl (5,5),9,4,_,9;rw[eh];refine((!!!!b,_,1,S.step),V1,X,W,xw);rw[show 32*i+(j+1)=32*i+j+1 from by lia,es,show (0:Int)+(i:Int)*32+((j+1:Nat):Int)=0+(i:Int)*32+(j:Int)+1 from by lia];rfl
  rintro C M ⟨⟨k6,m,rfl,S⟩,V1,X,W,xw⟩;have hj:32*i<f.length:=by lia
  rw[aaa,d4]at *;have et:f.take (32*i+wide f.length i)=f.take (32*(i+1)):=by
   unfold wide;rcases afF (f.length-32*i) 32 with h|h
   ·rw[aal ⋯,aal ⋯]
   ·rw[af0 h];rfl
  rw[et];have b3:=Bo (ns:=f.take (32*(i+1))) λy Y=>hb y (afN Y);rw[aam]at b3;have d1:0<=m/\m<=4096:=by
   refine(1,S.1);rcases S.2.1 with e|⟨t,t1,t2,e⟩
   ·rw[e];decide
   ·rw[e];exact c2 (by unfold wide at t2;lia)
  exists 9,.inl (7,_,My.of W);refine dB (bZ (cV (aU rfl) bT (by show (0:Int)<256;decide)) (bZ (cV (aU rfl) bT (5,5)) dD)) (by show 2<=500000;decide) _ _ (.refl _) λt H4 ht s4 xt=>?_;rw[<-vZ b3.1 ⋯]at xt;exists r,t,4,s4 _ _ W,xt,?_
  ·rw[aaa,aaa,jY,aW,sizeLine_eq];unfold many;lia
  have s5:aL Z (upd H4 r (.lst ((LO f i).map V.int++(aZ (f.take (32*(i+1))).sum 2).map V.int))):=bc (V1.trans s4) R _;have x5:upd H4 r (.lst ((LO f i).map V.int++(aZ (f.take (32*(i+1))).sum 2).map V.int)) r=some (.lst ‹LO f (i+1)›):=by
   rw[aa,Qh,aaf]
  have a6:upd H4 r (.lst ((LO f i).map V.int++(aZ (f.take (32*(i+1))).sum 2).map V.int)) lw=some (.lst ‹(g.flatMap λx=>aZ x 2)›):=by
   rw[aK b0.symm];exact s4 _ _ xw
  generalize upd H4 r (.lst ((LO f i).map V.int++(aZ (f.take (32*(i+1))).sum 2).map V.int))=H6 at *;exists 9,.inl (7,_,My.of a6);refine dB (bZ (cV (aU rfl) bT (by show (0:Int)<256;decide)) (bZ (cV (aU rfl) bT (5,5)) dD)) (by show 2<=500000;decide) _ _ (.refl _) λt2 H7 e5 s7 a7=>?_;rw[<-vZ d1.1 ⋯]at a7;exists lw,t2,4,s7 _ _ a6,a7,1,(_,_,_,_,9),bc (s5.trans s7) c3 _,1,g++[m],1,?_
  ·rw[aaa,aaa,bC,aW,sizeLine_eq];lia
  ·rw[aK b0];exact s7 _ _ x5
  ·rw[aa,ags,aaf];simp
  ·rw[aab,agI,a2]
  ·intro j m' e;rcases afF j i with h|h
   ·rw[afI ⋯]at e;exact a5 j m' e
   ·have ej:j=i:=by
     have:=(aad.mp e).1;rw[aab,agI]at this;lia
    subst ej;rw[afH ⋯,a2,ag8]at e;have:m=m':=by simpa using e
    subst this;exact S
 rintro C H6 ⟨⟨k4,L,k6,k9,a4,rfl⟩,a3,x3,g,xl,a2,a5⟩;have b5:(g.flatMap λx=>aZ x 2).length=2*g.length:=bC ..;have b9:g.length=many f.length:=a2;refine vY (cO (cO (dB (bZ bT (bZ (cV (uG (cF rfl (a3 _ _ xb))) bT (by show (0:Int)<256;decide)) (bZ (cV (uG (cF rfl (a3 _ _ xb))) bT (5,5)) dD))) (by show 3<=500000;decide)).v (cF rfl x3) ?_).v (cF rfl xl) ?_) λl5 H7 Xo s7 x7=>?_
 ·rw[jY];show 3+_<=_;unfold many;lia
 ·rw[aab,jY,b5];show 3+_+_<=_;unfold many at *;lia
 have eo:[2,(f.length:Int)%256,(f.length:Int) / 256]++LO f ((f.length+31) / 32)++g.flatMap (λx=>aZ x 2)=dH f g:=by
  rw[wQ hb,vZ ⋯ ⋯];rfl
 rw[eo]at x7;have sA:=sH.trans a3;refine q l5 H7 _ (sA.free Xo) (sA.trans s7) x7 (LO f (many f.length)++g.flatMap (λx=>aZ x 2),1,1) λd9=>(g,(b9,λj m e=>?_),7)
 ·rw[wQ hb,Wg];simp
 ·rw[aab,jY,b5];unfold many at *;lia
 ·have hj:=(aad.mp e).1;rw[b9]at hj;have:=a5 j m e;rw[<-b4]at this ⊢;exact Vs hG d9 this rfl (by rw[b4];unfold many at hj;lia)
theorem cI.step{ws :List Str}(h:cI ws N){i:Nat}{u t:Str}(l:N[i]?=some u)(ht:N[i+1]?=some t):1<=t.length/\beg u (t.length-1)=beg t (t.length-1):=by
 have y:=h.good.2 i u.length t.length (by rw[aak,l];rfl) (by rw[aak,ht];rfl);have v:1<=t.length:=by lia
 exists v;obtain⟨m,f⟩:=aad.mp l;obtain⟨hi1,g⟩:=aad.mp ht;have x:t.cps.toList.length=t.length:=aag;obtain⟨j,s⟩:=agy (h.pre (aar ht) (t.length-1));obtain⟨d,b⟩:=aad.mp s;have k:(beg t (t.length-1)).cps.toList.length=t.length-1:=by
  rw[bw,aam];lia
 have r:t.cps.toList=(beg t (t.length-1)).cps.toList++t.cps.toList.drop (t.length-1):=by
  rw[bw,agk]
 have p:¬u.cps.toList<(beg t (t.length-1)).cps.toList:=λz=>by
  rcases afF i j with c|c
  ·rcases afF (i+1) j with n|n
   ·have e:=afG.mp h.up (i+1) j hi1 d n;rw[g,b]at e;exact Qo _ _ (by rw[<-bw];exact e)
   ·have e:j=i+1:=by lia
    subst e;rw[g]at b;have:=congrArg Str.length b;rw[jA]at this;lia
  ·rcases Nat.eq_or_lt_of_le c with e|e
   ·subst e;rw[f]at b;rw[<-b]at z;exact zJ _ z
   ·have q:=afG.mp h.up j i d m e;rw[b,f]at q;exact b8 _ (iY q z)
 have o:¬(beg t (t.length-1)).cps.toList++t.cps.toList.drop (t.length-1)<u.cps.toList:=λz=>by
  rw[<-r]at z;have q:=afG.mp h.up i (i+1) m hi1 (agM _);rw[f,g]at q;exact b8 _ (iY q z)
 have e:=vJ p o;rw[k]at e;exact dw (by rw[bw];exact e)
theorem JD{t:Str}(f:1<=t.length)(d:Wb t):beg t (t.length-1)++(⟨#[(bV t+97).toNat]⟩:Str)=t:=by
 have c:t.cps.toList.length=t.length:=aag;have b:t.cps.toList≠[]:=λe=>by rw[e]at c;simp at c;lia
 refine dw ?_;rw[yS,bw];have e:(bV t+97).toNat=t.cps.toList.getLast b:=by
  unfold bV;rw[List.getLastD_eq_getLast?,List.getLast?_eq_some_getLast b];simp
 show t.cps.toList.take (t.length-1)++[(bV t+97).toNat]=_;rw[e,<-c,<-aiz];exact agu b
theorem CZ:∀{vs:List Str}{u:Str},(∀i x y,(u::vs)[i]?=some x->(u::vs)[i+1]?=some y->1<=y.length/\beg x (y.length-1)=beg y (y.length-1))->(∀v∈vs,Wb v)->Wc (vs.map λt=>((t.length:Nat):Int)) (vs.map bV) u=vs
 |[],_,_,_=>rfl
 |v::vs,u,h,c=>by
  obtain⟨j,g⟩:=h 0 u v rfl rfl;have f:=c v aan;have e:beg u (((v.length:Nat):Int)-1).toNat++(⟨#[(bV v+97).toNat]⟩:Str)=v:=by
   rw[show (((v.length:Nat):Int)-1).toNat=v.length-1 by lia,g];exact JD j f
  show (beg u (((v.length:Nat):Int)-1).toNat++(⟨#[(bV v+97).toNat]⟩:Str))::Wc _ _ _=v::vs;rw[e,CZ (λi x y a b=>h (i+1) x y a b) λz d=>c z (aaj _ d)]
theorem Di(ws:List Str):∀b:List Str,((b.zip (b.map (eG ws))).filter λp=>decide (p.2=1)).map (·.1)=b.filter λt=>decide (t∈ws)
 |[]=>rfl
 |t::b=>by
  have d:=Di ws b;rw[aax,ahL];by_cases c:t∈ws
  ·rw[agP (by simp[eG,c]),agP (by simp[c]),aax,d]
  ·rw[agx (by simp[eG,c]),agx (by simp[c]),d]
theorem v5{ws :List Str}(h:cI ws N)(g:∀w∈ws,Wb w):Wv (N.map λt=>((t.length:Nat):Int)) ((N.drop 1).map bV) (N.map (eG ws))=N.filter λt=>decide (t∈ws):=by
 have c:=h.zero;cases N with
 |nil=>cases c
 |cons u d=>
  cases c;have e:=CZ (u:=⟨#[]⟩) (vs:=d) (λi x y a b=>h.step a b) λv f=>h.low g (aaj _ f);unfold Wv;rw[aax,ajk,ajk,aje,aje,e];exact Di ws _
theorem dW{xs ys:List Int}(h:gj xs)(h':gj ys):gj (xs++ys):=λy b=>by
 rcases aas.mp b with z|z
 ·exact h y z
 ·exact h' y z
theorem ww(x:Int)(n:Nat):gj (aZ x n):=λ_ b=>pP b
theorem jg(l:List Int)(n:Nat):gj (l.flatMap λx=>aZ x n):=λ_ b=>qQ b
theorem Gz(ns b:List Int):gj (dH ns b):=by
 unfold dH;exact dW (dW (dW (λy c=>by rw[aao.mp c];decide) (ww _ _)) (dW (jg _ _) (jg _ _))) (jg _ _)
theorem KC(ns:List Int):gj (jL ns):=by
 unfold jL;exact dW (dW (λy b=>by rw[aao.mp b];decide) (ww _ _)) (dW (jg _ _) (jg _ _))
theorem oh{ns ms:List Int}(h:Kinds ns ms):ms.length<=ns.length:=lX h.nd λz b=>(h.mem z).mp b
theorem ye{ds ls es ms os:List Int}(A:cB ds)(q:ds.length<=2048)(p:v7 (brk ds 0) c)(Z:ls.length<=2048)(z:Xj ls)(s:Kinds ls ms)(hz:iH ms.length (2^d))(V:aO es)(G:es.length<=4096)(B:os=[4]++dH (brk ds 0) c++Wh ls ms d++jL es):
  iJ os=Wv ds ls es/\(GoodW os ↔ yM ds ls es):=by
 have hm:=oh s;obtain⟨S,J,R,n,Q,I⟩:=vd A q p ⋯ z s hz ⋯ V G B;have o:iJ os=Wv ds ls es:=by
  unfold iJ;rw[J,n,I]
 refine(o,λg=>?_,λg=>?_)
 ·obtain⟨l,H,Zh,h',k,X,M,W,g5,L⟩:=g.st;have j:=g.low;rw[o]at k L j;have E:l.length<=2048:=(Az A q).begs (λw U=>U) k;have O:((l.drop 1).map bV).length<=2048:=by
   rw[aaa,aaq];lia
  have Y:=oh M;obtain⟨_,m,_,r,_,v⟩:=vd k.good (by rw[aaa];exact E) X ⋯ (qC k j) M W ⋯ (ou _ l) (by rw[aaa];lia) L;rw[J]at m;rw[n]at r;rw[I]at v;have h1:1<=l.length:=(aad.mp k.zero).1;refine(1,1,λf u=>?_,λi hd=>?_,l,k,m.symm,r.symm,v.symm)
  ·rw[m,r,aaa,aaa,aaq];lia
  ·rw[m,v,aaa,aaa]
  ·rw[r]at u;obtain⟨t,ht,rfl⟩:=aaz.mp u;have:=oE (k.low j (afO ht));exact(this.1,6)
  ·rw[m]at hd;obtain⟨t,ht,rfl⟩:=aaz.mp hd;have:=(k.low j ht).1;lia
 ·obtain⟨l,k,D,C,N⟩:=g.pt;have j:=Hl (es:=es) g.az g.d40 A;have F:(Wv ds ls es).Nodup:=by
   have e:=v5 k j;rw[D,C,N]at e;rw[e];exact(k.up.imp λ{a b} (x:Wr a b) (e:a=b)=>by
    subst e;exact b8 _ x).sublist aiL
  refine(1,(S,R,by rw[n];lia,by rw[n];exact z,Q,1),by rw[o];exact j,by rw[o];exact F,1)
  ·rw[B];exact dW (dW (dW (λy T=>by rw[aao.mp T];decide) (Gz _ _)) (Ht [] ⋯ z s hz ⋯).1) (KC _)
  ·rw[n];exact λf u=>g.az f (afN u)
  ·rw[o];exists l,c,ms,d,k,by rw[D];exact p,by rw[C];exact s,hz,zp ⋯ hz;rw[D,C,N];exact B
theorem Im{os rest:List Int}{n:Nat}(d:2048<n)(e:n<=3000)(c:os=4::2::(aZ ((2*n:Nat):Int) 2++rest)):¬GoodW os:=λg=>by
 have hd:os.drop 1=2::(aZ ((2*n:Nat):Int) 2++rest):=by rw[c];rfl
 have b:=g.wo.td.2.1;unfold eQ at b;rw[zb]at b;have f:V4 (os.drop 1)=2*n:=by
  unfold V4;rw[hd];show (gJ ((aZ ((2*n:Nat):Int) 2++rest).take 2)).toNat=_;rw[gQ,ie _ _ ⋯ ⋯];exact aav _
 lia
def gA(k:Nat):Str:=⟨#[97]⟩++⟨#[97+k]⟩++mK 109 38
def gB(k:Nat):Str:=⟨#[98]⟩++⟨#[97+k]⟩++mK 109 38
def gW(m:Nat):List Str:=mK 99 m::(abS 26).flatMap λk=>[gA k,gB k]
def gS(m:Nat):List Str:=(abS 26).map gA++(abS 26).map gB++[mK 99 m]
theorem K1:∀m,m<20->17<=m->(gS m).Pairwise (λa b=>a.cps.toList<b.cps.toList):=by decide +kernel
theorem R8:∀m,m<20->17<=m->(allB ⟨#[]⟩ (gS m)).length=2030+m:=by decide +kernel
theorem Ur:∀m,m<20->17<=m->(gW m).Pairwise (λa b=>a.cps.toList≠b.cps.toList):=by decide +kernel
theorem GD(m:Nat)(x:Str):x∈gS m ↔ x∈gW m:=by
 unfold gS gW;rw[aas,aas,aao,aat,agz,aaz,aaz];constructor
 ·rintro((⟨k,b,rfl⟩|⟨k,b,rfl⟩) | rfl)
  ·exact .inr (k,b,aan)
  ·exact .inr (k,b,aaj _ aan)
  ·exact .inl rfl
 ·rintro(rfl|⟨k,b,c⟩)
  ·exact .inr rfl
  ·rcases aat.mp c with rfl|c
   ·exact .inl (.inl (k,b,7))
   ·rw[aao.mp c];exact .inl (.inr (k,b,7))
theorem HX{c n:Nat}(e:97<=c)(b:c<=122)(f:n<=40):Wb (mK c n):=by
 unfold mK;refine(1,λd hd=>?_)
 ·show (ajp _).size<=40;rw[aaT,aaw];lia
 ·rw[ahf]at hd;rw[af8 hd];exact(e,b)
theorem G8{c k:Nat}(g:c=97\/c=98)(f:k<26):Wb (⟨#[c]⟩++⟨#[97+k]⟩++mK 109 38):=by
 have b:=HX (c:=109) (n:=38) ∅ ∅ ∅;refine(1,pO.add (pO.add (λd hd=>?_) λd hd=>?_) b.2)
 ·rw[z7,z7];show 1+1+38<=40;decide
 ·have e:d=c:=by simpa using hd
  lia
 ·have e:d=97+k:=by simpa using hd
  lia
theorem TX{m:Nat}(d:m<=40):∀x∈gW m,Wb x:=λx b=>by
 rcases aat.mp b with rfl|b
 ·exact HX ∅ ∅ d
 ·obtain⟨k,c,b⟩:=agz.mp b;have c:=af5.mp c;rcases aat.mp b with rfl|b
  ·exact G8 (.inl rfl) c
  ·rw[aao.mp b];exact G8 (.inr rfl) c
theorem QR{m:Nat}(d:17<=m)(c:m<20):∃b,cI (gW m) b/\b.length=2031+m:=by
 have h:cI (gS m) (⟨#[]⟩::allB ⟨#[]⟩ (gS m)):=cI.of_sorted (ai1 (λ{x y} h z=>b8 x (iY h z)) (K1 m c d));exists _,h.perm (GD m);rw[aah,R8 m c d];lia
theorem K7(m:Nat):(gW m).length=53:=rfl
theorem BP{ns ms:List Int}(i:ns.length<=4096)(b:d<=12):(Wh ns ms d).length<=10000+26*ms.length:=by
 unfold Wh;have c:((V3 d (rks ms ns)).flatMap (W2 ns.length)).length=(4*many ns.length+2*(many ns.length+1))*d:=by
  rw[qD λf e=>?_,fH];rw[(kj d _ f e).2];exact aaa ..
 rw[aab,aab,aab,bC,bC,c,aaa];have g:many ns.length<=128:=by unfold many;lia
 have:=ahz (show 4*many ns.length+2*(many ns.length+1)<=800 by lia) b;show 1+2*2+_+_<=_;lia
theorem yF(n:Int)(x y z:Bool):SeqAt.shaped (.tuple [.int n,.bool x,.bool y,.bool z])=true/\PyData.eqv (.tuple [.int n,.bool x,.bool y,.bool z]) (.tuple [.int n,.bool x,.bool y,.bool z])=true:=by
 have b:(PyData.tuple [.int n,.bool x,.bool y,.bool z]).canLay0=true:=by
  simp only[PyData.canLayAll0,PyData.canLay0,aiR]
 refine(1,SeqAt.eqv_refl _ b);unfold SeqAt.shaped;rw[b,aim];refine decide_eq_true ?_;simp only[PyData.depthAll,PyData.depth];lia
def Xz(p:Prop)(ws:List Str)(o:HO):Prop:=(p/\(∀w∈ws,Wb w)/\o=.lst (ws.map V.str))\/(¬p/\o=RF)
theorem Xz.uniq{p:Prop}{ws:List Str}{o d:HO}(h:Xz p ws o)(h':Xz p ws d):o=d:=by
 rcases h with ⟨a,_,e⟩|⟨a,e⟩
 ·rcases h' with ⟨_,_,c⟩|⟨b,_⟩
  ·rw[e,c]
  ·exact absurd a b
 ·rcases h' with ⟨b,_⟩|⟨_,c⟩
  ·exact absurd b a
  ·rw[e,c]
theorem Xz.dat{p:Prop}{ws:List Str}{o:HO}(h:Xz p ws o):∃d,SeqAt.shaped d=true/\PyData.eqv d d=true /\ ∀(H:Hp) (r:Addr),H r=some o->oM K H (.ref r) d:=by
 rcases h with ⟨_,c,rfl⟩|⟨_,rfl⟩
 ·have:=Io λw b=>(c w b).asc;exact(_,this.1,this.2,λH r x=>.lst (My.of x) (vO ws))
 ·exact(_,(yF 1 true true false).1,(yF 1 true true false).2,λH r x=>.tup (VM.of x) (.cons (.int _) (.cons (.bl _) (.cons (.bl _) (.cons (.bl _) .nil)))))
theorem Xz.ne{p:Prop}{ws:List Str}{o:HO}(h:Xz p ws o){Q:VK}(g:H f=some o)(e:H C=some o)(q:Q (.bl false) H):Rw K (.ref f) (.ref C) H Q\/Sh K (.ref f) (.ref C) H Q:=by
 obtain⟨d,c,i,b⟩:=h.dat (K:=K);refine .inr (_,_,b _ _ g,b _ _ e,c,c,1);rw[i];exact q
theorem Xz.eq{p:Prop}{ws:List Str}{o:HO}(h:Xz p ws o){Q:VK}(g:H f=some o)(e:H C=some o)(q:Q (.bl true) H):Ve K (.ref f) (.ref C) H Q\/Um K (.ref f) (.ref C) H Q:=by
 obtain⟨d,c,i,b⟩:=h.dat (K:=K);refine .inr (_,_,b _ _ g,b _ _ e,c,c,1);rw[i];exact q
theorem T6{ws :List Str}(f:cI ws N)(g:∀w∈ws,Wb w):yM (N.map λt=>((t.length:Nat):Int)) ((N.drop 1).map bV) (N.map (eG ws)):=by
 have i:1<=N.length:=(aad.mp f.zero).1;have e:=v5 f g;have b:∀x,x∈N.filter (λt=>decide (t∈ws)) ↔ x∈ws:=λx=>by
  rw[aho,decide_eq_true_iff];refine(λz=>z.2,λz=>((f.mem x).mpr (.inr (x,z,x.length,(nQ x (aae _)).symm)),z))
 exists 1,1,λc h=>?_,λd hd=>?_,N,1,7,7
 ·rw[aaa,aaa,aaq];lia
 ·rw[aaa,aaa]
 ·obtain⟨t,ht,rfl⟩:=aaz.mp h;have:=oE (f.low g (afO ht));exact(this.1,6)
 ·obtain⟨t,ht,rfl⟩:=aaz.mp hd;have:=(f.low g ht).1;lia
 ·rw[e];exact f.perm λx=>(b x).symm
 ·rw[e];refine agr λt _=>?_;unfold eG;by_cases c:t∈ws
  ·rw[if_pos c,if_pos ((b t).mpr c)]
  ·rw[if_neg c,if_neg λz=>c ((b t).mp z)]
theorem Oc{i c:Nat}(h:letters.cps[i]?=some c):c=97+i/\i<26:=by
 have b:i<26:=by
  have:=(agC.mp h).1;exact this
 have:=mQ i b;rw[afP,h]at this;exact(afE this,b)
def Uq(m:Nat)(b:List Str)(os:List Int):Prop:=(m≠17 -> ∃rest,os=4::2::(aZ ((2*b.length:Nat):Int) 2++rest))/\(b.length<=2048->iJ os=Wv (b.map λt=>((t.length:Nat):Int)) ((b.drop 1).map bV) (b.map (eG (gW m)))/\(GoodW os ↔ yM (b.map λt=>((t.length:Nat):Int)) ((b.drop 1).map bV) (b.map (eG (gW m)))))
inductive Nq(vs:List V)(_e1:Hp)(Q:VK)(_e2:XK):Prop
 | mk (m:Nat) (_:vs=[.int (m:Int)]) (_:17<=m) (_:m<20) (_:∀H',Q (.bl true) H')
theorem z9(T:Tx K mg a):bI P w K mg base VR 13 a.adq a.acT ["_law_more"] Nq:=by
 refine T.adC.F.V2 dJ λc3 A a9 s H vs Q E D h=>?_;obtain⟨m,rfl,v,u,q⟩:=h;refine(_,(ao (aD 1 dJ.nd (bh (aq (aC o8 cg (pv 0)) aj)))
  (ao (bK PassesOwn.never rfl (Lb cg) (aM 2 dJ.nd) (ao (bF (dj PySem.F.plainAttrs_list PySem.F.slot_list_append PySem.F.type_list_append bW (pv 1) (aq (aC fZ (aC fZ cg (pv 2)) (aC o8 cg aA)) aj)))
  (aB (bF (dj PySem.F.plainAttrs_list PySem.F.slot_list_append PySem.F.type_list_append bW (pv 1) (aq (aC fZ (aC fZ cg (pv 2)) (aC o8 cg aA)) aj))))))
  (ao (rO (aX T.aaX (j0 T) D (VJ 1 aj)) (iK rfl (bG (aM 3 dJ.nd) (bG (aM 4 dJ.nd) (bG (aM 5 dJ.nd) fW)))))
  (gG (aD 6 dJ.nd (aX T.ZR (jB T) D (aq (aC bB (aC bB (aC bB (bh (aq aA aj)) (aX T.ad9 (Ci T) D (VJ 3 aj))) (cY T.ZP (fX T) ∅ D uJ rfl (VJ 4 aj))) (aX T.aaJ (jJ T) D (VJ 5 aj))) aj)))
  (ao (bR (aP jd (pv 0) aA) (aB (aN (pN (Et D.units) (pv 6) (dY (aq aA (aq cZ (aq cZ (aq cZ aj)))))))) aV)
  (aB (aN (pN (Et D.units) (pv 6) (aF mW rfl T.ac0 Tw.nR (VJ 1 aj)))))))))),1)
 refine(9,99,(m:Int),7,7,6,6,sl1,λr L=>?_);have s0:=au L (.lst [.str (mK 99 (m:Int))]);exists letters,7;refine Hx (x:=letters) (λi O I=>(∃k2,O=[some (.int (m:Int)),!!!r,k2,none,none,none,none])/\aL H I/\I r=some (.lst ((mK 99 m::(abS i).flatMap λk=>[gA k,gB k]).map V.str))) ((none,7),s0,aa) ?_ ?_
 ·rintro i c O I hc ⟨⟨k2,rfl⟩,sm,xr⟩;obtain⟨rfl,hi⟩:=Oc hc;have c0:((abS i).flatMap λk=>[gA k,gB k]).length<=100:=by
   rw[List.length_flatMap];have:((abS i).map λk=>[gA k,gB k].length)=aai i 2:=aiB.mpr (by rw[aaa,aaG],λb hb=>by obtain⟨_,_,rfl⟩:=aaz.mp hb;rfl);rw[this,List.sum_replicate_nat];lia
  exists 9,.inl (7,_,My.of xr),9,4,(by show 1+1<=sizeLine;decide),109,38,7,7,5,5,4,(by show 2+38<=sizeLine;decide),r,4,xr,?_
  ·rw[aaa,aah,sizeLine_eq];lia
  have S:∀y:V,upd I r (.lst (((mK 99 m::(abS i).flatMap λk=>[gA k,gB k]).map V.str)++[y])) r=some (.lst (((mK 99 m::(abS i).flatMap λk=>[gA k,gB k]).map V.str)++[y])):=λy=>aa;refine(9,.inl (7,_,My.of (S _)),9,4,(by show 1+1<=sizeLine;decide),109,38,7,7,5,5,4,(by show 2+38<=sizeLine;decide),r,4,S _,1,(3,bc (bc sm L _) L _,1))
  ·rw[aab,aaa,aah,sizeLine_eq];show _+1<_;lia
  ·rw[aa,afU,ags];simp;exact(7,7)
 rintro O H1 ⟨⟨k2,rfl⟩,Wd,Y⟩
 replace Y:H1 r=some (.lst ((gW m).map V.str)):=Y
 clear s0
 have U:=TX (m:=m) ⋯;obtain⟨a0,B,b9⟩:=QR v u;refine(9,r,gW m,7,My.of Y,U,by rw[K7];decide,(a0,6,(B.mem _).mpr (.inl rfl),λw hw k=>(B.mem _).mpr (.inr (w,hw,k,7))),λpp d l e f H2 s2 y1 y2 y3 y4 p _=>?_);have et:=p.uniq B;subst et
 clear B
 exists pp,9,VM.of y1,7,_,9,_,9,4;have S:=s2 _ _ Y;have a7:(f.map λt=>((t.length:Nat):Int)).length=f.length:=aaa ..;have a3:((f.drop 1).map bV).length=f.length-1:=by rw[aaa,aaq]
 exists λ O I=>∃(o:HO) (C:Addr) (j:List Int),Uq m f j/\Xz (GoodW j) (iJ j) o/\O=[some (.int (m:Int)),!!!r,k2,!!!d,!!!l,!!!e,!!!C]/\I r=some (.lst ((gW m).map V.str))/\I C=some o,1
 rotate_left
 ·rintro O H8 ⟨o,C,j,n,ha,rfl,x8,R⟩;exists 9,4,9;by_cases c:m=17
  rotate_left
  ·refine dZ (λ_=>?_) λz=>absurd (decide_eq_true (show (17:Int)<(m:Int) by lia)) z;obtain⟨rest,G⟩:=n.1 c;have X:=Im ⋯ ⋯ G;refine(9,sl4,λt ht=>?_);have eR:o=RF:=by
    rcases ha with ⟨g,_⟩|⟨_,e⟩
    ·exact absurd g X
    ·exact e
   exact ha.eq (au ht _ _ _ R) (by rw[eR,aa];rfl) (q _)
  ·refine dZ (λz=>absurd (of_decide_eq_true z) (show ¬(17:Int)<(m:Int) by lia)) λ_=>?_;obtain⟨ew,ed⟩:=n.2 ⋯;have eS:Wv (f.map λt=>((t.length:Nat):Int)) ((f.drop 1).map bV) (f.map (eG (gW m)))=gS m:=by
    rw[v5 p U];refine oH (p.up.sublist aiL) (K1 m u v) λx=>?_;rw[aho,decide_eq_true_iff,GD];exact(λz=>z.2,λz=>((p.mem x).mpr (.inr (x,z,x.length,(nQ x (aae _)).symm)),z))
   have eR:o=.lst ((gS m).map V.str):=by
    rcases ha with ⟨_,_,e⟩|⟨g,_⟩
    ·rw[e,ew,eS]
    ·exact absurd (ed.mpr (T6 p U)) g
   refine(8,r,gW m,7,My.of x8,by rw[K7];decide,λt Zh ht pm up=>?_);have nd:(gW m).Nodup:=(Ur m u v).imp λ{x y} h e=>h (congrArg (λz:Str=>z.cps.toList) e);have e2:Zh=gS m:=oH (u0 up (pm.symm.nodup nd)) (K1 m u v) λx=>by rw[pm.mem_iff,GD]
   exact ha.eq (au ht _ _ _ R) (by rw[eR,aa,e2]) (q _)
 refine(sl1,λl1 a6=>?_);have s3:=au a6 (.lst [.int 4]);refine(9,d,9,s3 _ _ y2,p.good,6,λl2 H3 Z b6 s4 z1 N M=>?_);obtain⟨rest,W,b4⟩:=N;have b1:Z.length<=3003:=by
  rw[W,aah,aab,aW];lia
 refine(l1,l2,[.int 4],9,7,s4 _ _ aa,z1,by rw[aaa,sizeLine_eq];show 1+_<=_;lia,λl3 a5=>?_);have s5:=(s3.trans s4).trans (au a5 (.lst ([.int 4]++Z.map V.int)));refine(9,l,9,My.of (s5 _ _ y3),.inl (6,(_,by rw[a3];lia,λz h=>h),qC p U,λl4 ms h H4 Yh s6 hk hz z2=>?_));have Z5:=oh hk;have a8:=zp ⋯ hz;have b2:=BP (ns:=(f.drop 1).map bV) (ms:=ms) ⋯ a8;refine(l3,l4,4,s6 _ _ aa,z2,by rw[aaa,aab,aaa,sizeLine_eq];show 1+_+_<=_;lia,λl5 Xo=>?_);have s7:=s6.trans (au Xo (.lst (([.int 4]++Z.map V.int)++(Wh ((f.drop 1).map bV) ms h).map V.int)));have Zm:=ou (gW m) f;have c1:(f.map (eG (gW m))).length=f.length:=aaa ..;have b3:=uQ (ns:=f.map (eG (gW m))) ⋯;refine(9,e,9,My.of (s7 _ _ (s5 _ _ y4)),6,Zm,λl6 H5 b5 s8 z3=>?_);refine(l5,l6,4,s8 _ _ aa,z3,by rw[aaa,aab,aab,aaa,aaa,sizeLine_eq];show 1+_+_+_<=_;lia,λl7 a4=>?_);rw[vQ];obtain⟨j,G⟩:∃j,j=[4]++Z++Wh ((f.drop 1).map bV) ms h++jL (f.map (eG (gW m))):=(_,7);rw[<-G];have a1:j.length<=100000:=by
  rw[G];simp only[aab,aah,afV];lia
 have s9:=((s5.trans s7).trans s8).trans (au a4 (.lst !!j));have n:Uq m f j:=(λ_=>(rest++(Wh ((f.drop 1).map bV) ms h++jL (f.map (eG (gW m)))),by rw[G,W,a7];simp),λc2=>by
  obtain⟨b0,a2,eT⟩:=M ⋯;rw[eT]at G;exact ye p.good ⋯ a2 ⋯ (qC p U) hk hz Zm ⋯ G)
 exact(l7,j,7,aa,a1,λg C H8 _ J R=>(_,C,j,n,.inl (g,g.low,7),7,J _ _ (s9 _ _ S),R),λg C H8 _ J R=>(_,C,j,n,.inr (g,7),7,J _ _ (s9 _ _ S),R))
inductive ae3(K:PySem.W.Frag)(vs:List V)(H:Hp)(Q:VK)(_e1:XK):Prop
 | mk (s:Addr) (ns:List Int) (_:vs=[.ref s]) (_:My K H s !!ns) (_:ns.length<=63) (_:∀H',Q (.bl true) H')
theorem S8(T:Tx K mg a):bI P w K mg base VR 14 a.afs a.afa ["_law_script"] (ae3 K):=by
 refine T.afw.F.V2 jt λe3 A d5 s H vs Q E b h=>?_;obtain⟨L,zs,rfl,hS,hl,q⟩:=h;refine(_,(ao (bR (aP fQ (aC bO (aX T.YQ (dF T) b (VJ 0 (aq aA aj))) aA) aA) (aB (aN (aX T.adC (z9 T) b (aq (aC bj aA (aC bO (aX T.YQ (dF T) b (VJ 0 (aq aA aj))) aA)) aj)))) aV)
  (ao (aD 1 jt.nd (aX T.adB (Ag T) b (aq (aX T.aaX (j0 T) b (aq (aX T.adA (Ae T) b (VJ 0 aj)) aj)) (VJ 0 aj))))
  (ao (rO (pv 1) (iK rfl (bG (aM 2 jt.nd) (bG (aM 3 jt.nd) (bG (aM 4 jt.nd) fW)))))
  (ao (aD 5 jt.nd (aC bB (aC bB (aC bB (bh (aq aA aj)) (aX T.aaE (jn T) b (VJ 2 aj))) (cY T.ZP (fX T) ∅ b uJ rfl (VJ 3 aj))) (aX T.aaJ (jJ T) b (VJ 4 aj))))
  (ao (aD 6 jt.nd (dg iV rfl T.Yd Tw.iw (VJ 5 aj)))
  (gG (aD 7 jt.nd (aX T.aeH (EY T) b (VJ 1 aj)))
  (gG (aD 8 jt.nd (aX T.ZR (jB T) b (VJ 6 aj)))
  (ao (bR (PW.pt (tH (aP (pC b.units) (pv 8) (pv 7)) (mz (aP (pC b.units) (pv 6) (pv 5))))) (aB (aN cZ)) aV)
  (gG (bR (q9 (aF lR rfl T.Yc Tw.cz (VJ 8 (aq (nT (v:=.ty "list") rfl T.Yd Tw.iw rfl) aj)))) (aB (bF (dj PySem.F.plainAttrs_list PySem.F.slot_list_append PySem.F.type_list_append bW (pv 8) (aq cg aj)))) aV)
  (gG (bR (aP fQ (aC bO (aX T.YQ (dF T) b (VJ 0 (aq aA aj))) aA) aA) (ao (aD 9 jt.nd (aX T.acu (vL T) b (VJ 5 (aq (aX T.YQ (dF T) b (VJ 0 (aq aA aj))) aj))))
  (ao (aD 8 jt.nd (aX T.ZR (jB T) b (aq (dg iV rfl T.Yd Tw.iw (VJ 9 aj)) aj)))
  (ao (bR (PW.pt (pI (q9 (aF lR rfl T.Yc Tw.cz (VJ 8 (aq (nT (v:=.ty "list") rfl T.Yd Tw.iw rfl) aj)))) (lJ (aP (pC b.units) (cY T.ZQ (lO T) ∅ b uJ rfl (aq (dg iV rfl T.Yd Tw.iw (VJ 8 aj)) aj)) (pv 9))))) (aB (aN cZ)) aV)
  (aB (bR (PW.pt (pI (lV (q9 (aF lR rfl T.Yc Tw.cz (VJ 8 (aq (nT (v:=.ty "list") rfl T.Yd Tw.iw rfl) aj))))) (lJ (aP (pC b.units) (pv 8) (dY (aq aA (aq cZ (aq cZ (aq cZ aj))))))))) (aB (aN cZ)) aV))))) aV)
  (aB (aN (pN (Et b.units) (aX T.ZR (jB T) b (VJ 6 aj)) (pv 7)))))))))))))),1)
 refine(9,L,zs,(4),7,hS,4,(by show (0:Int)<48;decide),7,9,dZ (λ_=>?_) λ_=>?_)
 ·obtain⟨c5,d1⟩:∃c5:Int,(zs[5]?).getD 0=c5:=(_,7);refine(9,L,zs,(5),7,hS,4,(by show (0:Int)<3;decide),4,(17+c5%3).toNat,1,6,6,q);rw[ah4 ⋯,<-d1];rfl
 refine(9,L,zs,7,hS,λb6 ws H1 Zg s1 x1 hW c4 c0 c6=>?_);have a0:zE ws 2100:=((⟨#[]⟩:Str)::ws.flatMap gb,by rw[aah,jX];lia,aan,λw hw k=>by
  have:=(qz ws (beg w k)).mpr (.inr (w,hw,k,7));rw[aat,agz];exact this)
 refine(b6,ws,7,My.of x1,hW,6,a0,λr d l e ts H2 s2 y1 y2 y3 y4 hB _=>?_);have hts:=hB.few;have h1:1<=ts.length:=(aad.mp hB.zero).1
 replace s2:=s1.trans s2
 refine(9,r,L,d,l,e,_,_,_,zs,7,(y1,y2,y3,y4),s2.seq hS,hB.good,by rw[aaa];lia,by rw[aaa,aaa,aaq];lia,by rw[aaa,aaa],λc hc=>?_,ou ws ts,λpp H3 pd pl pe ds ls es Y N hG e2 e0 e1 c7 a4=>?_)
 ·obtain⟨t,ht,rfl⟩:=aaz.mp hc;have:=oE (hB.low hW (afO ht));lia
 replace Y:=s2.trans Y
 clear y1 y2 y3 y4 hB hts h1 s2 a0 hW c4 c0 c6 x1 s1 Zg
 exists 9,pp,9,VM.of N.p,7,_,9,_,9,4;refine(sl1,λl1 b0=>?_);have s4:=au b0 (.lst [.int 4]);refine(9,pd,ds,7,s4 _ _ N.d,6,hG,λl2 H4 B c9 s5 a8 z1=>?_);have d6:(dH (brk ds 0) B).length<=10000:=by
  have Wg:=iQ hG;have hm:many (brk ds 0).length<=128:=by
   unfold many;lia
  rw[gF (eU _ _),a8.len];lia
 have d7:1<=(dH (brk ds 0) B).length:=by
  rw[gF (eU _ _)];lia
 refine(l1,l2,[.int 4],9,7,s5 _ _ aa,z1,by rw[aaa,sizeLine_eq];show 1+_<=_;lia,λl3 a9=>?_);have s6:=(s4.trans s5).trans (au a9 (.lst ([.int 4]++(dH (brk ds 0) B).map V.int)));have b1:Xj ls:=λz hz=>by
  have:=c7 z hz;lia
 refine(9,pl,ls,7,My.of (s6 _ _ N.l),.inl (6,(_,6,λz h=>h),b1,λl4 G h H5 Yh s7 hk hz z2=>?_));have Z5:=oh hk;have d3:=zp ⋯ hz;have d8:=BP (ns:=ls) (ms:=G) ⋯ d3;refine(l3,l4,4,s7 _ _ aa,z2,by rw[aaa,aab,aaa,sizeLine_eq];show 1+_+_<=_;lia,λl5 Xo=>?_);have s8:=s7.trans (au Xo (.lst (([.int 4]++(dH (brk ds 0) B).map V.int)++(Wh ls G h).map V.int)));have d9:=uQ (ns:=es) ⋯;refine(9,pe,es,7,My.of (s8 _ _ (s6 _ _ N.e)),6,a4,λl6 H6 c8 s9 z3=>?_);refine(l5,l6,4,s9 _ _ aa,z3,by rw[aaa,aab,aab,aaa,aaa,sizeLine_eq];show 1+_+_+_<=_;lia,λM a7=>?_);rw[vQ];obtain⟨j,eo⟩:∃j,j=[4]++dH (brk ds 0) B++Wh ls G h++jL es:=(_,7);rw[<-eo];obtain⟨ew,ed⟩:=ye hG ⋯ a8 ⋯ b1 hk hz a4 ⋯ eo;have a6:0<j.length/\j.length<=60000:=by
  rw[eo];simp only[aab,aah,afV];lia
 clear eo
 have a3:=((s6.trans s8).trans s9).trans (au a7 (.lst !!j));have xo:upd H6 M (.lst !!j) M=some (.lst !!j):=aa
 replace N:=N.same a3
 replace Y:=Y.trans a3
 generalize upd H6 M (.lst !!j)=H7 at *;refine(9,M,9,.inl (My.of xo),λhd b2=>?_);have X:=au b2 (.lst !!j);have xh:upd H7 hd (.lst !!j) hd=some (.lst !!j):=aa
 replace N:=N.same X
 replace Y:=Y.trans X
 replace xo:=X _ _ xo
 generalize upd H7 hd (.lst !!j)=H8 at *
 clear s4 s5 s6 s7 s8 s9 a3 X z1 z2 z3 b0 c9 a9 Yh Xo c8 a7 b2
 exists λ I S=>∃(o:HO) (O:Addr),Xz (GoodW j) (iJ j) o/\I=[!!!L,!!!pp,!!!pd,!!!pl,!!!pe,!!!M,!!!hd,!!!O,none,none]/\aL H8 S/\S O=some o,1
 ·refine(9,pp,pd,pl,pe,ds,ls,es,7,N,hG,6,6,a4,6,λg O H9 _ y a2=>(_,O,.inl (ed.mpr g,(ed.mpr g).low,by rw[ew]),7,y,a2),λg O H9 _ y a2=>(_,O,.inr (λz=>g (ed.mp z),7),7,y,a2))
 clear ew ed N
 rintro I H9 ⟨o,O,Z,rfl,y,xd⟩
 replace hS:=(Y.trans y).seq hS
 replace xo:=y _ _ xo
 replace xh:=y _ _ xh
 clear Y y
 exists λ I S=>∃(r:Addr),I=[!!!L,!!!pp,!!!pd,!!!pl,!!!pe,!!!M,!!!hd,!!!O,!!!r,none]/\H9 r=none/\aL H9 S/\S r=some o,1
 ·exact(9,hd,j,7,xh,6,λg r b3 i f R=>(r,7,i,f,R.trans (congrArg some (Z.uniq (.inl (g,g.low,7))).symm)),λg r b3 i f R=>(r,7,i,f,R.trans (congrArg some (Z.uniq (.inr (g,7))).symm)))
 rintro I b3 ⟨r,rfl,i,f,R⟩;refine(8,Z.ne R (f _ _ xd) (9,fM (8,.inl (hd,M,j,j,7,7,My.of (f _ _ xh),My.of (f _ _ xo),1))));rw[decide_eq_true rfl];refine(9,fM ?_);exists λ I S=>(∃(r:Addr),I=[!!!L,!!!pp,!!!pd,!!!pl,!!!pe,!!!M,!!!hd,!!!O,!!!r,none])/\aL H9 S,1
 ·rcases Z with ⟨g,_,rfl⟩|⟨_,rfl⟩
  ·obtain⟨_,f2,_⟩:=g.wo.few
   exact(9,_,"list",_,true,7,.lst R,7,true,7,fP (9,.inl (7,_,My.of R),r,4,R,by rw[aaa,sizeLine_eq];lia,(r,7),bc f i _))
  ·exact(9,_,"list",_,false,7,.tup R,7,false,7,fM ((r,7),f))
 clear R i f r
 rintro I e5 ⟨⟨r,rfl⟩,J⟩;exists λ I S=>(∃(r:Addr) (k9:Option V),I=[!!!L,!!!pp,!!!pd,!!!pl,!!!pe,!!!M,!!!hd,!!!O,!!!r,k9])/\aL H9 S,1
 ·refine(9,L,zs,(2),7,J.seq hS,4,(by show (0:Int)<3;decide),7,9,dZ (λ_=>?_) λ_=>((r,none,7),J));refine(8,L,zs,(3),7,J.seq hS,M,j,9,J _ _ xo,a6.1,a6.2,λso d4 G u U Z5=>?_);refine(9,so,9,.inl (My.of U),λc hc=>?_);have D:=au hc (.lst !!G)
  replace U:=D _ _ U
  replace u:=(J.trans u).trans D
  refine(c,G,7,aa,6,λg r2 a5 c3 W C=>?_,λg r2 a5 c3 W C=>?_)
  ·obtain⟨f1,f2,f3⟩:=g.wo.few;have hm:much (iJ G)<=90000:=by
    have:=zX (n:=40) λx hx=>(g.low x hx).1;lia
   refine(9,_,"list",_,true,7,.lst C,7,true,7,fP ?_)
   refine(9,r2,9,.inl (My.of C),λc2 d2=>?_);have m:=au d2 (.lst ((iJ G).map V.str));refine(c2,iJ G,7,My.of aa,f1,6,.inr (.inr (g.low,g.nd,hm,f3,λr3 b9 e4 Y5 b5 c1 _ b4=>?_)))
   replace m:=m.trans b5
   refine(9,.inl (r3,so,b9,G,7,7,My.of b4,My.of ((W.trans m) _ _ U),1));rw[decide_eq_true (c1.uniq g.st)];refine(9,fM ?_)
   exact(9,_,"list",_,true,7,.lst (m _ _ C),7,true,7,fM (fM ((r2,9),u.trans (W.trans m))))
  ·refine(9,_,"list",_,false,7,.tup C,7,false,7,fM (fM ?_))
   refine(9,_,"list",_,false,7,.tup C,7,false,7,fP ?_)
   refine(9,sl4,λkt d0=>?_);have m:=au d0 (.tup [.int 1,.bl true,.bl true,.bl false]);exact(show Xz (GoodW G) (iJ G) RF from .inr (g,7)).ne (m _ _ C) (by rw[aa];rfl) (9,fM ((r2,9),u.trans (W.trans m)))
 rintro I d4 ⟨⟨r8,k9,rfl⟩,u⟩;exact(9,hd,j,7,u _ _ xh,6,λg r a5 _ D a1=>(9,Z.eq (a1.trans (congrArg some (Z.uniq (.inl (g,g.low,7))).symm)) (D _ _ (u _ _ xd)) (q _)),λg r a5 _ D a1=>(9,Z.eq (a1.trans (congrArg some (Z.uniq (.inr (g,7))).symm)) (D _ _ (u _ _ xd)) (q _)))
end
theorem Sg{l:PySem.W.OpenLaw}{w:World}{K:PySem.W.Frag}{f5 f6 f7 f8 f9 i5 i4 i3 i2 i1 i0 h9 h8 h7 h6 h5 h4 h3 h2 h1 h0 g9 g8 g7 g6 g5 g4 g3 g2 g1 g0 c9 c8 c7 c6 c5 c4 c3 c2 c1 c0 b9 b6 b5 b4 b3 b2 b1 b0 a9 a8 a7 a6 a5 a4 a3 a2 a1 a0 Z Y:Addr}{e1 e2 e3 e4 e5 e6 e7 e8 e9 q2 q1 q0 p9 p5 p4 p3 p2 p1 p0 o3 o2 o1 o0 n9 n8 n7 n5 n4 n3 n2 n1 n0 m5 m4 m3 m2 m1 m0 l9 l8 l7 l6 l5 l4 l3 l2 l1 l0 k9 k8 k7 k6 k5 k4 k3 k2 k1 k0 j3 j2 j1 i9 i8 i7 i6:FuncData}{m g d i o n c k b j y t r u:Tok}{U p Q D E R A q:Addr}(X:K.In h')(G:h'.Ns mainGlobals mg)(V:mg "law" = !!!a)
  (d0:FI K "packed" vC f B)
  (d1:FI K "check_row" nH C e1)
  (d2:FI K "block_of" o5 x e2)
  (d3:FI K "unpacked" pH S e3)
  (d4:FI K "bit_in" uV dx e4)
  (d5:FI K "bits_of" sr f5 e5)
  (d6:FI K "ones_in" rY f6 e6)
  (d7:FI K "nets_of" rF f7 e7)
  (d8:FI K "low_in" wL f8 e8)
  (d9:FI K "octets_of" lY f9 e9)
  (w8:FI K "number_of" nM i5 q2)
  (w7:FI K "kept_row" ph i4 q1)
  (w5:FI K "ahead_of" pG i3 q0)
  (w4:FI K "heap_of" rP i2 p9)
  (w3:FI K "size_of" rK i1 p5)
  (w2:FI K "lesser_of" nD i0 p4)
  (w1:FI K "is_tree" rT h9 p3)
  (w0:FI K "check_brackets" gY h8 p2)
  (v3:FI K "kept_brackets" iC h7 p1)
  (v2:FI K "low_of" vV h6 p0)
  (v1:FI K "base_of" rB h5 o3)
  (v0:FI K "end_within" j8 h4 o2)
  (u8:FI K "check_depths" jm h3 o1)
  (u7:FI K "brackets_of" jK h2 o0)
  (u6:FI K "depths_of" lZ h1 n9)
  (u4:FI K "kept_tree" nO h0 n8)
  (u3:FI K "check_signs" jT g9 n7)
  (u2:FI K "kept_signs" lM g8 n5)
  (u1:FI K "ranks_among" jN g7 n4)
  (t9:FI K "level_count" jP g6 n3)
  (t8:FI K "level_rows" lG g5 n2)
  (t7:FI K "parted" wB g4 n1)
  (t6:FI K "ranks_of" o6 g3 n0)
  (t5:FI K "check_words" jW g2 m5)
  (t4:FI K "beginnings_of" iI g1 m4)
  (t3:FI K "parts_of" pL g0 m3)
  (t2:FI K "words_of" pB c9 m2)
  (t1:FI K "text_below" j4 c8 m1)
  (t0:FI K "numbers_octets" gZ c7 m0)
  (s9:FI K "bits_octets" jF c6 l9)
  (s8:FI K "row_octets" kO c5 l8)
  (s7:FI K "tree_octets" jU c4 l7)
  (s6:FI K "signs_octets" jl c3 l6)
  (s5:FI K "store_octets" jf c2 l5)
  (s4:FI K "read_store" j6 c1 l4)
  (s3:FI K "read_as" rN c0 l3)
  (s2:FI K "check_octets" jb b9 l2)
  (s1:FI K "number_at" nu b6 l1)
  (s0:FI K "numbers_at" kW b5 l0)
  (r9:FI K "block_total" jR b4 k9)
  (r8:FI K "bits_at" rA b3 k8)
  (r7:FI K "told_bits" lW b2 k7)
  (r6:FI K "told_depths" jG b1 k6)
  (r5:FI K "told_signs" kY b0 k5)
  (r4:FI K "kind_of" qY a9 k4)
  (r3:FI K "told_words" lD a8 k3)
  (r2:FI K "_law_cell_at" jV a7 k2)
  (r1:FI K "_law_words" mq a6 k1)
  (r0:FI K "_law_plain" m8 a5 k0)
  (q8:FI K "_law_other" m7 a4 j3)
  (q7:FI K "_law_due" rQ a3 j2)
  (q6:FI K "_law_changed" jM a2 j1)
  (q5:FI K "_law_told" pA a1 i9)
  (q4:FI K "_law_laid" o4 a0 i8)
  (q3:FI K "_law_great" mR Z i7)
  (z:FI K "law" Nt Y i6)
  (A9:PySem.W.nsIn K mainGlobals "ValueError" = some none)
  (B2:PySem.W.nsIn K mainGlobals "enumerate" = some none)
  (x7:PySem.W.nsIn K mainGlobals "int" = some none)
  (A8:PySem.W.nsIn K mainGlobals "isinstance" = some none)
  (x6:PySem.W.nsIn K mainGlobals "len" = some none)
  (y6:PySem.W.nsIn K mainGlobals "list" = some none)
  (x5:PySem.W.nsIn K mainGlobals "max" = some none)
  (x4:PySem.W.nsIn K mainGlobals "min" = some none)
  (y4:PySem.W.nsIn K mainGlobals "range" = some none)
  (z2:PySem.W.nsIn K mainGlobals "reversed" = some none)
  (x3:PySem.W.nsIn K mainGlobals "set" = some none)
  (y0:PySem.W.nsIn K mainGlobals "sorted" = some none)
  (x2:PySem.W.nsIn K mainGlobals "str" = some none)
  (x1:PySem.W.nsIn K mainGlobals "sum" = some none)
  (y3:PySem.W.nsIn K mainGlobals "tuple" = some none)
  (x0:PySem.W.nsIn K mainGlobals "zip" = some none)
  (A7:PySem.W.nsIn K mainGlobals "BLOCK_BITS" = some (some (.int 32 m)))
  (B8:PySem.W.nsIn K mainGlobals "BLOCK_OCTETS" = some (some (.int 4 g)))
  (B7:PySem.W.nsIn K mainGlobals "COUNT_OCTETS" = some (some (.int 2 d)))
  (B4:PySem.W.nsIn K mainGlobals "KIND_OCTETS" = some (some (.int 26 i)))
  (z0:PySem.W.nsIn K mainGlobals "LETTERS" = some (some (.str "abcdefghijklmnopqrstuvwxyz" o)))
  (B1:PySem.W.nsIn K mainGlobals "MOST_BITS" = some (some (.int 4096 n)))
  (B6:PySem.W.nsIn K mainGlobals "MOST_LETTERS" = some (some (.int 40 c)))
  (A6:PySem.W.nsIn K mainGlobals "MOST_NODES" = some (some (.int 2048 k)))
  (B5:PySem.W.nsIn K mainGlobals "MOST_NUMBERS" = some (some (.int 4096 b)))
  (A5:PySem.W.nsIn K mainGlobals "MOST_SIGNS" = some (some (.int 4096 j)))
  (w9:PySem.W.nsIn K mainGlobals "ROW" = some (some (.int 1 y)))
  (y2:PySem.W.nsIn K mainGlobals "SIGNS" = some (some (.int 3 t)))
  (y1:PySem.W.nsIn K mainGlobals "STORE" = some (some (.int 4 r)))
  (y5:PySem.W.nsIn K mainGlobals "TREE" = some (some (.int 2 u)))
  (I:PySem.W.nsIn K mainGlobals "NoBit" = some (!!!U))
  (O:PySem.W.nsIn K mainGlobals "NoOctets" = some (!!!p))
  (N:PySem.W.nsIn K mainGlobals "NoSign" = some (!!!Q))
  (M:PySem.W.nsIn K mainGlobals "NoTree" = some (!!!D))
  (L:PySem.W.nsIn K mainGlobals "NoWord" = some (!!!E))
  (J:PySem.W.nsIn K mainGlobals "TooMany" = some (!!!R))
  (H:PySem.W.nsIn K mainGlobals "Twice" = some (!!!A))
  (P:PySem.W.nsIn K mainGlobals "WoodError" = some (!!!q))
  (x9:PySem.W.excIn K U XX "ValueError.__new__" = true)
  (B0:PySem.W.excIn K p XX "ValueError.__new__" = true)
  (B3:PySem.W.hasDictIn K p=true)
  (A4:PySem.W.findIn K (.ref p) "__getattribute__" = some (some (.builtin "BaseException.__getattribute__")))
  (A3:PySem.W.findIn K (.ref p) "__getattr__" = some none)
  (A2:PySem.W.findIn K (.ref p) "__class__" = some (some (.builtin "object.__class__")))
  (A1:PySem.W.specialIn K (.builtin "object.__class__") "__get__" = some (some (.builtin "getset_descriptor.__get__")))
  (A0:PySem.W.takesIn K (.builtin "object.__class__")=some true)
  (z8:PySem.W.mroIn K p (.type "object")=some true)
  (z5:PySem.W.mroIn K p (.type "BaseException")=some true)
  (ZV:PySem.W.kitOne K (.ref p) (.ref p)=some true)
  (ZW:PySem.W.kitOne K (.ref p) (.ref D)=some false)
  (ZX:PySem.W.kitOne K (.ref p) (.ref E)=some false)
  (ZZ:PySem.W.kitOne K (.ref p) (.ref A)=some false)
  (Zc:PySem.W.kitOne K (.ref p) (.ref q)=some true)
  (Z0:PySem.W.kitOne K (.ref p) (.type "ValueError")=some true)
  (y9:PySem.W.excIn K Q XX "ValueError.__new__" = true)
  (Z1:PySem.W.kitOne K (.ref Q) (.ref q)=some true)
  (y8:PySem.W.excIn K D XX "ValueError.__new__" = true)
  (Z2:PySem.W.kitOne K (.ref D) (.ref q)=some true)
  (y7:PySem.W.excIn K E XX "ValueError.__new__" = true)
  (Zd:PySem.W.kitOne K (.ref E) (.ref q)=some true)
  (z1:PySem.W.excIn K R XX "ValueError.__new__" = true)
  (Z3:PySem.W.kitOne K (.ref R) (.ref q)=some true)
  (x8:PySem.W.excIn K A XX "ValueError.__new__" = true)
  (Z4:PySem.W.kitOne K (.ref A) (.ref q)=some true)
  (z4:PySem.W.excIn K q XX "ValueError.__new__" = true)
  (z3:PySem.W.hasDictIn K q=true)
  (C5:PySem.W.findIn K (.ref q) "__getattribute__" = some (some (.builtin "BaseException.__getattribute__")))
  (C4:PySem.W.findIn K (.ref q) "__getattr__" = some none)
  (C3:PySem.W.findIn K (.ref q) "__class__" = some (some (.builtin "object.__class__")))
  (C2:PySem.W.specialIn K (.builtin "object.__class__") "__get__" = some (some (.builtin "getset_descriptor.__get__")))
  (C1:PySem.W.takesIn K (.builtin "object.__class__")=some true)
  (C0:PySem.W.mroIn K q (.type "object")=some true)
  (B9:PySem.W.mroIn K q (.type "BaseException")=some true):
  ∃fd:FuncData,(∀(s:Shared) (v:Value),BindsTo s fd ([v],[]) [(pq ("_law_script") v)]) /\ ∀base:Heap,K.In base->base.Ns mainGlobals mg->bI l.prog w K mg base VR 14 a fd ["_law_script"] (ae3 K):=by
 have e:=V.symm.trans (PySem.W.mg_of X G z.a);cases e;obtain⟨_,_,_,_,_,_,_,_,_,rfl,_,_⟩:=z.F.ex;have T:Tx K mg (2,2,2,2,2,2,2,2,2,2,2,2,2,2,2,2,2,2,2,2,2,2,2,2,_,_,U,p,Q,D,E,R,A,q):=(V7 X G d0,V7 X G d1,V7 X G d2,Wy X G d3,Wy X G d4,Wy X G d5,Wy X G d6,Wy X G d7,Wy X G d8,Wy X G d9,V7 X G w8,V7 X G w7,V7 X G w5,V7 X G w4,V7 X G w3,Wy X G w2,V7 X G w1,V7 X G w0,V7 X G v3,Y8 X G v2,Wy X G v1,Wy X G v0,V7 X G u8,V7 X G u7,V7 X G u6,V7 X G u4,V7 X G u3,V7 X G u2,Wy X G u1,V7 X G t9,Wy X G t8,Wy X G t7,Wy X G t6,V7 X G t5,V7 X G t4,V7 X G t3,Y8 X G t2,Y8 X G t1,Wy X G t0,Wy X G s9,V7 X G s8,V7 X G s7,V7 X G s6,V7 X G s5,V7 X G s4,Y8 X G s3,V7 X G s2,Y8 X G s1,df4 X G s0,V7 X G r9,Y8 X G r8,V7 X G r7,V7 X G r6,V7 X G r5,Wy X G r4,V7 X G r3,Wy X G r2,V7 X G r1,V7 X G r0,Wy X G q8,V7 X G q7,Wy X G q6,V7 X G q5,V7 X G q4,V7 X G q3,V7 X G z,PySem.W.mg_none_of X G A9,PySem.W.mg_none_of X G B2,PySem.W.mg_none_of X G x7,PySem.W.mg_none_of X G A8,PySem.W.mg_none_of X G x6,PySem.W.mg_none_of X G y6,PySem.W.mg_none_of X G x5,PySem.W.mg_none_of X G x4,PySem.W.mg_none_of X G y4,PySem.W.mg_none_of X G z2,PySem.W.mg_none_of X G x3,PySem.W.mg_none_of X G y0,PySem.W.mg_none_of X G x2,PySem.W.mg_none_of X G x1,PySem.W.mg_none_of X G y3,PySem.W.mg_none_of X G x0,PySem.W.mg_of X G A7,PySem.W.mg_of X G B8,PySem.W.mg_of X G B7,PySem.W.mg_of X G B4,PySem.W.mg_of X G z0,PySem.W.mg_of X G B1,PySem.W.mg_of X G B6,PySem.W.mg_of X G A6,PySem.W.mg_of X G B5,PySem.W.mg_of X G A5,PySem.W.mg_of X G w9,PySem.W.mg_of X G y2,PySem.W.mg_of X G y1,PySem.W.mg_of X G y5,PySem.W.mg_of X G I,PySem.W.mg_of X G O,PySem.W.mg_of X G N,PySem.W.mg_of X G M,PySem.W.mg_of X G L,PySem.W.mg_of X G J,PySem.W.mg_of X G H,PySem.W.mg_of X G P,(PySem.W.mg_of X G I,x9),(PySem.W.mg_of X G O,B0),(B3,A4,A3,A2,A1,A0,z8,z5),ZV,ZW,ZX,ZZ,Zc,Z0,(PySem.W.mg_of X G N,y9),Z1,(PySem.W.mg_of X G M,y8),Z2,(PySem.W.mg_of X G L,y7),Zd,(PySem.W.mg_of X G J,z1),Z3,(PySem.W.mg_of X G H,x8),Z4,(PySem.W.mg_of X G P,z4),(z3,C5,C4,C3,C2,C1,C0,B9));exact(_,λs v=>.of_eq rfl,λbase _ _=>S8 T)
end Tw
end
namespace Tp
open PySem
noncomputable section
abbrev O:=Params→Obj
def sq (l:List Str):Nat→List Value:=@List.rec Str (λ_=>Nat→List Value) (λ_=>[]) (λs _ ih t=>Value.str s t::ih (Nat.add t 1)) l
def ap {α:Type} (a b:List α):List α:=@List.rec α (λ_=>List α) b (λx _ r=>x::r) a
def tk {α:Type} (l:List α):Nat→List α:=@List.rec α (λ_=>Nat→List α) (λ_=>[]) (λx _ ih n=>@Nat.rec (λ_=>List α) [] (λm _=>x::ih m) n) l
def mp {α β:Type} (f:α→β) (l:List α):List β:=@List.rec α (λ_=>List β) [] (λx _ r=>f x::r) l
def ov (l:List O):List (Nat×O)→List O:=@List.rec O (λ_=>List (Nat×O)→List O) (λ_=>[]) (λx _ ih ex=>@List.rec (Nat×O) (λ_=>List O) (x::ih []) (λe r _=>@Nat.rec (λ_=>List O) (e.2::ih r) (λg _=>x::ih ((g,e.2)::r)) e.1) ex) l
def ev (l:List Obj):Bool→List Obj:=@List.rec Obj (λ_=>Bool→List Obj) (λ_=>[]) (λx _ ih b=>@Bool.rec (λ_=>List Obj) (ih true) (x::ih false) b) l
def bt (n:Nat):List Obj→PySem.W.BT:=@Nat.rec (λ_=>List Obj→PySem.W.BT) (λ_=>.nil) (λ_ ih l=>@List.rec Obj (λ_=>PySem.W.BT) .nil (λx xs _=>.node x (ih (ev xs true)) (ih (ev xs false))) l) n
def Z (s:Str) (t:Nat) (v:Value) (P:Params):DictEntry:=.mk (PyData.keyHash P s) (.str s t) v
def E (s:Str) (t r:Nat) (P:Params):DictEntry:=.mk (PyData.keyHash P s) (.str s t) (.ref r)
def gd (l:List (Params→DictEntry)) (n:Nat) (P:Params):Obj:=.mk (.type "dict") none (.dict (mp (λe=>e P) l).toArray n) #[]
def tb (l:List (Nat×Nat)) (P:Params):Obj:=.mk .none none (.fields (@List.rec (Nat×Nat) (λ_=>List Value) [] (λx _ r=>.int (Int.ofNat x.1) 0::.int 0 0::.ref x.2::r) l).toArray) #[]
def h0 (x0:Nat) (x1:Nat) (x2:Nat) (x3:Str):List O:=[λP=>(.mk (.type "tuple") none (.seq #[(.ref 24)] 0) #[]),λP=>(.mk (.type "builtin_function_or_method") none (.fields #[(.builtin "type.__prepare__"),(.type "type")]) #[]),λP=>(.mk (.type "dict") none (.dict #[(.mk (PyData.keyHash P "__module__") (.str "__module__" (Nat.add x0 7)) (.str "thinwood.errors" 187)),(.mk (PyData.keyHash P "__qualname__") (.str "__qualname__" (Nat.add x0 9)) (.str x3 (Nat.add x0 8))),(.mk (PyData.keyHash P "__firstlineno__") (.str "__firstlineno__" (Nat.add x0 11)) (.int (Int.ofNat x1) (Nat.add x0 10))),(.mk (PyData.keyHash P "__static_attributes__") (.str "__static_attributes__" (Nat.add x0 12)) (.ref (Nat.add x2 7)))] 4) #[]),λP=>(.mk (.type "tuple") none (.seq #[] 0) #[]),λP=>(.mk .none none (.fields #[]) #[]),λP=>(.mk (.type "code") none (.fields #[(.str x3 (Nat.add x0 2)),(.str x3 (Nat.add x0 3)),(.str "/claim/cut.py" (Nat.add x0 4)),(.int (Int.ofNat x1) 0),(.int 0 0),(.int 0 0),(.int 0 0),(.int 0 0),(.ref (Nat.add x2 3)),(.bool .false),(.int 181 0),(.ref (Nat.add x2 4)),.none,.none,.none,.none,(.int (Int.ofNat (Nat.add x0 5)) 0),(.int (Int.ofNat x1) 0),(.str "/claim/cut.py" (Nat.add x0 6))]) #[]),λP=>(.mk (.type "frame") none .plain #[(some (.ref (Nat.add x2 5))),(some (.ref 3)),(some (.ref (Nat.add x2 2))),none,(some (.str "thinwood.errors" 187)),none,(some (.ref 0))]),λP=>(.mk (.type "tuple") none (.seq #[] 0) #[]),λP=>(.mk (.type "dict") none (.dict #[(.mk (PyData.keyHash P "__module__") (.str "__module__" (Nat.add x0 7)) (.str "thinwood.errors" 187)),(.mk (PyData.keyHash P "__firstlineno__") (.str "__firstlineno__" (Nat.add x0 11)) (.int (Int.ofNat x1) (Nat.add x0 10))),(.mk (PyData.keyHash P "__static_attributes__") (.str "__static_attributes__" (Nat.add x0 12)) (.ref (Nat.add x2 7))),(.mk (PyData.keyHash P "__doc__") (.str "__doc__" (Nat.add x0 13)) .none)] 2) #[]),λP=>(.mk (.type "type") none (.cls (.mk x3 [(.ref 24)] [(.ref (Nat.add x2 9)),(.ref 24),(.type "ValueError"),(.type "Exception"),(.type "BaseException"),(.type "object")] (Nat.add x2 8) x3 .true [] [] .false none .false)) #[(!!!x2),none,(some (.str x3 x0)),(some (.str x3 (Nat.add x0 8))),(some (.builtin "ValueError.__new__")),(some (.bool .true))]),λP=>(.mk (.type "super") none (.fields #[(.ref (Nat.add x2 9)),(.ref (Nat.add x2 9)),(.ref (Nat.add x2 9))]) #[]),λP=>(.mk (.type "builtin_function_or_method") none (.fields #[(.builtin "object.__init_subclass__"),(.ref (Nat.add x2 9))]) #[])]
def h1 (x0:Nat) (x1:Nat) (x2:Nat) (x3:Nat) (x4:Nat) (x5:Nat) (x6:Str) (x7:Str):List O:=[λP=>(.mk (.type "tuple") none (.seq #[] 0) #[]),λP=>(.mk .none none (.fields #[]) #[]),λP=>(.mk .none none (.func (FuncData.mk x6 x6 (L2.ν (Tw.top x0)) (FuncBody.stmts (L2.μ (Tw.top x0))) (L2.δ (Tw.top x0)) 0 [] .none .none .none .none none .none .none 0)) #[]),λP=>(.mk (.type "code") none (.fields #[(.str x6 x1),(.str x6 (Nat.add x1 1)),(.str "/claim/cut.py" (Nat.add x1 2)),(.int (Int.ofNat x2) 0),(.int (Int.ofNat x3) 0),(.int 0 0),(.int 0 0),(.int 3 0),(.ref x4),(.bool .true),(.int 181 0),(.ref (Nat.add x4 1)),.none,.none,.none,(.ref (Nat.add x4 2)),(.int (Int.ofNat (Nat.add x1 3)) 0),(.int (Int.ofNat x2) 0),(.str "/claim/cut.py" (Nat.add x1 4))]) #[]),λP=>(.mk (.type "function") none (.func (FuncData.mk x6 x6 (L2.ν (Tw.top x0)) (FuncBody.stmts (L2.μ (Tw.top x0))) (L2.δ (Tw.top x0)) 3 [] .none .none .none (.str x7 x5) none (.ref (Nat.add x4 3)) .none 0)) #[])]
def h2 (x0:Nat) (x1:Nat) (x2:Nat) (x3:Nat) (x4:Nat) (x5:Nat) (x6:Nat) (x7:List Str) (x8:Str) (x9:Str):List O:=[λP=>(.mk (.type "tuple") none (.seq #[] 0) #[]),λP=>(.mk .none none (.fields #[]) #[]),λP=>(.mk (.type "tuple") none (.seq (sq x7 (Nat.add x0 3)).toArray 0) #[]),λP=>(.mk (.type "tuple") none (.seq #[] 0) #[]),λP=>(.mk .none none (.func (FuncData.mk x8 x8 (L2.ν (Tw.top x1)) (FuncBody.stmts (L2.μ (Tw.top x1))) (L2.δ (Tw.top x1)) 0 [] .none .none .none .none none .none .none 0)) #[]),λP=>(.mk (.type "code") none (.fields #[(.str x8 x0),(.str x8 (Nat.add x0 1)),(.str "/claim/cut.py" (Nat.add x0 2)),(.int (Int.ofNat x2) 0),(.int (Int.ofNat x3) 0),(.int 0 0),(.int 0 0),(.int 3 0),(.ref x4),(.bool .true),(.int 181 0),(.ref (Nat.add x4 1)),.none,(.ref (Nat.add x4 2)),(.ref (Nat.add x4 3)),(.ref (Nat.add x4 4)),(.int (Int.ofNat x5) 0),(.int (Int.ofNat x2) 0),(.str "/claim/cut.py" (Nat.add x5 1))]) #[]),λP=>(.mk (.type "function") none (.func (FuncData.mk x8 x8 (L2.ν (Tw.top x1)) (FuncBody.stmts (L2.μ (Tw.top x1))) (L2.δ (Tw.top x1)) 3 [] .none .none .none (.str x9 x6) none (.ref (Nat.add x4 5)) .none 0)) #[])]
def g0:List (Params→DictEntry):=[Z "__doc__" 166 .none,Z "__package__" 167 .none,Z "__loader__" 168 (.builtin "__main__.__loader__#opaque"),Z "__spec__" 169 .none,E "__annotations__" 170 6,E "__builtins__" 171 4,Z "__file__" 173 (.str "/claim/cut.py" 172),Z "__cached__" 174 .none,E "WoodError" 206 24,E "TooMany" 222 37]
def g1:List (Params→DictEntry):=[E "NoBit" 238 49,E "NoPlace" 254 61,E "NoTree" 270 73,E "NoSign" 286 85,E "NoWord" 302 97,E "Twice" 318 109,E "NoOctets" 334 121,Z "BLOCK_BITS" 338 (.int 32 337),Z "MOST_BITS" 340 (.int 4096 339),E "packed" 346 128]
def g2:List (Params→DictEntry):=[E "check_row" 354 135,E "block_of" 363 142,E "unpacked" 373 149,E "bit_in" 381 156,E "bits_of" 387 161,E "ones_in" 395 168,E "nets_of" 406 175,E "low_in" 414 182,E "octets_of" 427 189,E "number_of" 436 196]
def g3:List (Params→DictEntry):=[E "kept_row" 446 203,E "ahead_of" 455 210,Z "MOST_NUMBERS" 459 (.int 4096 458),E "heap_of" 469 217,E "size_of" 477 224,E "lesser_of" 485 231,E "is_tree" 497 238,E "check_brackets" 504 245,E "kept_brackets" 510 250,E "low_of" 519 257]
def g4:List (Params→DictEntry):=[E "base_of" 527 264,E "end_within" 535 271,Z "MOST_NODES" 539 (.int 2048 538),E "check_depths" 548 278,E "brackets_of" 558 285,E "depths_of" 568 292,E "kept_tree" 575 299,Z "MOST_SIGNS" 579 (.int 4096 578),E "check_signs" 587 306,E "kept_signs" 599 313]
def g5:List (Params→DictEntry):=[E "ranks_among" 605 318,E "level_count" 612 325,E "level_rows" 618 330,E "parted" 624 335,E "ranks_of" 637 342,Z "LETTERS" 641 (.str "abcdefghijklmnopqrstuvwxyz" 640),Z "MOST_LETTERS" 643 (.int 40 642),E "check_words" 652 349,E "beginnings_of" 658 354,E "parts_of" 664 359]
def g6:List (Params→DictEntry):=[E "words_of" 670 364,E "text_below" 679 371,Z "ROW" 683 (.int 1 682),Z "TREE" 685 (.int 2 684),Z "SIGNS" 687 (.int 3 686),Z "STORE" 689 (.int 4 688),Z "COUNT_OCTETS" 691 (.int 2 690),Z "BLOCK_OCTETS" 693 (.int 4 692),Z "KIND_OCTETS" 695 (.int 26 694),E "numbers_octets" 705 378]
def g7:List (Params→DictEntry):=[E "bits_octets" 713 385,E "row_octets" 721 392,E "tree_octets" 734 399,E "signs_octets" 740 404,E "store_octets" 748 411,E "read_store" 755 418,E "read_as" 766 425,E "check_octets" 774 432,E "number_at" 783 439,E "numbers_at" 789 444]
def g8:List (Params→DictEntry):=[E "block_total" 796 451,E "bits_at" 805 458,E "told_bits" 812 465,E "told_depths" 819 472,E "told_signs" 825 477,E "kind_of" 833 484,E "told_words" 844 491,E "_law_cell_at" 854 498,E "_law_words" 870 505,E "_law_plain" 876 510]
def g9:List (Params→DictEntry):=[E "_law_other" 893 517,E "_law_due" 899 522,E "_law_changed" 911 529,E "_law_told" 917 534,E "_law_laid" 935 541,E "_law_great" 948 548,E "law" 964 555]
def gg:List (Params→DictEntry):=ap g0 (ap g1 (ap g2 (ap g3 (ap g4 (ap g5 (ap g6 (ap g7 (ap g8 (g9)))))))))
def tt:List (Nat×Nat):=[((2),20),((4),33),((6),45),((8),57),(10,69),(12,81),(14,93),(16,105),(18,117),(23,127),(26,134),(32,141),(37,148),(44,155),(46,160),(48,167),(50,174),(57,181),(60,188),(67,195),(73,202),(76,209),(83,216),(91,223),(96,230),(103,237),(110,244),(114,249),(121,256),(123,263),(125,270),(129,277),(137,284),(146,291),(155,298),(159,305),(165,312),(175,317),(180,324),(182,329),(190,334),(194,341),(205,348),(214,353),(219,358),(229,363),(236,370),(246,377),(251,384),(253,391),(256,398),(264,403),(275,410),(278,417),(280,424),(290,431),(294,438),(298,443),(300,450),(302,457),(304,464),(306,471),(308,476),(319,483),(323,490),(330,497),(334,504),(353,509),(365,516),(390,521),(404,528),(416,533),(429,540),(453,547),(463,554)]
def s0:O:=gd (Z "__name__" 165 (.str "law_thinwood_k88_stores_read" 845)::tk gg 97) 98
def l0:O:=λP=>(.mk (.type "tuple") none (.seq #[] 0) #[])
def s1:O:=tb (tk tt 75)
def l1:O:=λP=>(.mk (.type "code") none (.fields #[(.str "<module>" 182),(.str "<module>" 183),(.str "/claim/cut.py" 184),(.int 1 0),(.int 0 0),(.int 0 0),(.int 0 0),(.int 0 0),(.ref 11),(.bool .false),(.int 181 0),(.ref 12),.none,.none,.none,.none,(.int 185 0),(.int 1 0),(.str "/claim/cut.py" 186)]) #[])
def l2:O:=λP=>(.mk (.type "frame") none .plain #[(some (.ref 13)),(some (.ref 3)),(some (.ref 3)),none,(some (.str "__main__" 164)),none,(some (.ref 0))])
def l3:O:=λP=>(.mk (.type "tuple") none (.seq #[(.type "ValueError")] 0) #[])
def l4:O:=λP=>(.mk (.type "builtin_function_or_method") none (.fields #[(.builtin "type.__prepare__"),(.type "type")]) #[])
def l5:O:=λP=>(.mk (.type "dict") none (.dict #[(.mk (PyData.keyHash P "__module__") (.str "__module__" 196) (.str "thinwood.errors" 187)),(.mk (PyData.keyHash P "__qualname__") (.str "__qualname__" 198) (.str "WoodError" 197)),(.mk (PyData.keyHash P "__firstlineno__") (.str "__firstlineno__" 200) (.int 2 199)),(.mk (PyData.keyHash P "__static_attributes__") (.str "__static_attributes__" 201) (.ref 22))] 4) #[])
def l6:O:=λP=>(.mk .none none (.fields #[]) #[])
def l7:O:=λP=>(.mk (.type "code") none (.fields #[(.str "WoodError" 191),(.str "WoodError" 192),(.str "/claim/cut.py" 193),(.int 2 0),(.int 0 0),(.int 0 0),(.int 0 0),(.int 0 0),(.ref 18),(.bool .false),(.int 181 0),(.ref 19),.none,.none,.none,.none,(.int 194 0),(.int 2 0),(.str "/claim/cut.py" 195)]) #[])
def l8:O:=λP=>(.mk (.type "frame") none .plain #[(some (.ref 20)),(some (.ref 3)),(some (.ref 17)),none,(some (.str "thinwood.errors" 187)),none,(some (.ref 0))])
def l9:O:=λP=>(.mk (.type "dict") none (.dict #[(.mk (PyData.keyHash P "__module__") (.str "__module__" 196) (.str "thinwood.errors" 187)),(.mk (PyData.keyHash P "__firstlineno__") (.str "__firstlineno__" 200) (.int 2 199)),(.mk (PyData.keyHash P "__static_attributes__") (.str "__static_attributes__" 201) (.ref 22)),(.mk (PyData.keyHash P "__weakref__") (.str "__weakref__" 203) (.ref 25)),(.mk (PyData.keyHash P "__doc__") (.str "__doc__" 204) .none)] 3) #[])
def l10:O:=λP=>(.mk (.type "type") none (.cls (.mk "WoodError" [(.type "ValueError")] [(.ref 24),(.type "ValueError"),(.type "Exception"),(.type "BaseException"),(.type "object")] 23 "WoodError" .true [] [(.ref 37),(.ref 49),(.ref 61),(.ref 73),(.ref 85),(.ref 97),(.ref 109),(.ref 121)] .false none .false)) #[(some (.ref 15)),none,(some (.str "WoodError" 189)),(some (.str "WoodError" 197)),(some (.builtin "ValueError.__new__")),(some (.bool .true))])
def l11:O:=λP=>(.mk (.type "getset_descriptor") none (.fields #[(.str "__weakref__" 202),(.ref 24),(.builtin "ExceptionGroup.__weakref__"),.none]) #[])
def l12:O:=λP=>(.mk (.type "super") none (.fields #[(.ref 24),(.ref 24),(.ref 24)]) #[])
def l13:O:=λP=>(.mk (.type "builtin_function_or_method") none (.fields #[(.builtin "object.__init_subclass__"),(.ref 24)]) #[])
def d1:List O:=h0 207 4 28 "TooMany"
def d2:List O:=h0 223 6 40 "NoBit"
def d3:List O:=h0 239 8 52 "NoPlace"
def d4:List O:=h0 255 10 64 "NoTree"
def d5:List O:=h0 271 12 76 "NoSign"
def d6:List O:=h0 287 14 88 "NoWord"
def d7:List O:=h0 303 16 100 "Twice"
def d8:List O:=h0 319 18 112 "NoOctets"
def d9:List O:=h1 13 341 23 1 124 335 "packed" "thinwood.blocks"
def d10:List O:=h2 347 14 26 1 129 352 335 ["bits","bit"] "check_row" "thinwood.blocks"
def d11:List O:=h2 355 15 32 1 136 361 335 ["bits","block","bit"] "block_of" "thinwood.blocks"
def d12:List O:=h2 364 16 37 2 143 371 335 ["blocks","many","bits","block"] "unpacked" "thinwood.blocks"
def d13:List O:=h2 374 17 44 2 150 379 335 ["block","k"] "bit_in" "thinwood.blocks"
def d14:List O:=h1 18 382 46 2 157 335 "bits_of" "thinwood.blocks"
def d15:List O:=h2 388 19 48 2 162 393 335 ["block","upto"] "ones_in" "thinwood.blocks"
def d16:List O:=h2 396 20 50 2 169 404 335 ["block","upto","nets","net","bit"] "nets_of" "thinwood.blocks"
def d17:List O:=h2 407 21 57 2 176 412 335 ["block","upto"] "low_in" "thinwood.blocks"
def d18:List O:=h2 417 23 60 2 183 425 415 ["number","many","octets","rest","k"] "octets_of" "thinwood.octets"
def d19:List O:=h2 428 24 67 1 190 434 415 ["octets","number","octet"] "number_of" "thinwood.octets"
def d20:List O:=h2 439 26 73 1 197 444 437 ["bits","blocks"] "kept_row" "thinwood.rows"
def d21:List O:=h2 447 27 76 1 204 453 437 ["blocks","ahead","block"] "ahead_of" "thinwood.rows"
def d22:List O:=h2 460 30 83 1 211 467 456 ["numbers","size","nodes","node"] "heap_of" "thinwood.heaps"
def d23:List O:=h2 470 31 91 1 218 475 456 ["many","size"] "size_of" "thinwood.heaps"
def d24:List O:=h2 478 32 96 2 225 483 456 ["one","other"] "lesser_of" "thinwood.heaps"
def d25:List O:=h2 488 34 103 1 232 495 486 ["bits","level","at","bit"] "is_tree" "thinwood.brackets"
def d26:List O:=h2 498 35 110 1 239 502 486 ["bits"] "check_brackets" "thinwood.brackets"
def d27:List O:=h1 36 505 114 1 246 486 "kept_brackets" "thinwood.brackets"
def d28:List O:=h2 511 37 121 3 251 517 486 ["tables","number","block"] "low_of" "thinwood.brackets"
def d29:List O:=h2 520 38 123 2 258 525 486 ["tables","number"] "base_of" "thinwood.brackets"
def d30:List O:=h2 528 39 125 2 265 533 486 ["number","upto"] "end_within" "thinwood.brackets"
def d31:List O:=h2 540 42 129 1 272 546 536 ["depths","ahead","depth"] "check_depths" "thinwood.shapes"
def d32:List O:=h2 549 43 137 1 279 556 536 ["depths","bits","unclosed","depth"] "brackets_of" "thinwood.shapes"
def d33:List O:=h2 559 44 146 1 286 566 536 ["bits","depths","unclosed","bit"] "depths_of" "thinwood.shapes"
def d34:List O:=h2 569 45 155 1 293 573 536 ["depths"] "kept_tree" "thinwood.shapes"
def d35:List O:=h2 580 48 159 1 300 585 576 ["signs","sign"] "check_signs" "thinwood.signs"
def d36:List O:=h2 588 49 165 1 307 597 576 ["signs","kinds","aheads","blocks","bits","row"] "kept_signs" "thinwood.signs"
def d37:List O:=h1 50 600 175 2 314 576 "ranks_among" "thinwood.signs"
def d38:List O:=h2 606 51 180 1 319 610 576 ["kind_count"] "level_count" "thinwood.signs"
def d39:List O:=h1 52 613 182 2 326 576 "level_rows" "thinwood.signs"
def d40:List O:=h1 53 619 190 2 331 576 "parted" "thinwood.signs"
def d41:List O:=h2 625 54 194 2 336 635 576 ["rows","many","ranks","order","bits","at","bit"] "ranks_of" "thinwood.signs"
def d42:List O:=h2 644 58 205 1 343 650 638 ["words","word","letter"] "check_words" "thinwood.stores"
def d43:List O:=h1 59 653 214 1 350 638 "beginnings_of" "thinwood.stores"
def d44:List O:=h1 60 659 219 1 355 638 "parts_of" "thinwood.stores"
def d45:List O:=h1 61 665 229 3 360 638 "words_of" "thinwood.stores"
def d46:List O:=h2 671 62 236 3 365 677 638 ["ahead","depth","letter"] "text_below" "thinwood.stores"
def d47:List O:=h2 696 71 246 2 372 703 680 ["numbers","size","octets","number"] "numbers_octets" "thinwood.written"
def d48:List O:=h2 706 72 251 2 379 711 680 ["blocks","ahead"] "bits_octets" "thinwood.written"
def d49:List O:=h2 714 73 253 1 386 719 680 ["bits","kept"] "row_octets" "thinwood.written"
def d50:List O:=h2 722 74 256 1 393 732 680 ["depths","kept","tables","blocks","first","lows","count"] "tree_octets" "thinwood.written"
def d51:List O:=h1 75 735 264 1 400 680 "signs_octets" "thinwood.written"
def d52:List O:=h2 741 76 275 1 405 746 680 ["words","parts"] "store_octets" "thinwood.written"
def d53:List O:=h2 749 77 278 1 412 753 680 ["octets"] "read_store" "thinwood.written"
def d54:List O:=h2 756 78 280 3 419 764 680 ["octets","tell","write","told","again"] "read_as" "thinwood.written"
def d55:List O:=h2 767 79 290 1 426 772 680 ["octets","octet"] "check_octets" "thinwood.written"
def d56:List O:=h2 775 80 294 3 433 781 680 ["octets","at","size"] "number_at" "thinwood.written"
def d57:List O:=h1 81 784 298 4 440 680 "numbers_at" "thinwood.written"
def d58:List O:=h2 790 82 300 1 445 794 680 ["many"] "block_total" "thinwood.written"
def d59:List O:=h2 797 83 302 3 452 803 680 ["octets","at","many"] "bits_at" "thinwood.written"
def d60:List O:=h2 806 84 304 1 459 810 680 ["octets"] "told_bits" "thinwood.written"
def d61:List O:=h2 813 85 306 1 466 817 680 ["octets"] "told_depths" "thinwood.written"
def d62:List O:=h1 86 820 308 1 473 680 "told_signs" "thinwood.written"
def d63:List O:=h2 826 87 319 2 478 831 680 ["kinds","rank"] "kind_of" "thinwood.written"
def d64:List O:=h2 834 88 323 1 485 842 680 ["octets","depths","behind_tree","letters","ends"] "told_words" "thinwood.written"
def d65:List O:=h2 847 90 330 2 492 852 845 ["_law_script","_law_k"] "_law_cell_at" "law_thinwood_k88_stores_read"
def d66:List O:=h2 855 91 334 1 499 868 845 ["_law_script","_law_letters","_law_words_here","_law_known","_law_total","_law_word","_law_cell","_law_number","_law_many","_law_k"] "_law_words" "law_thinwood_k88_stores_read"
def d67:List O:=h1 92 871 353 1 506 845 "_law_plain" "law_thinwood_k88_stores_read"
def d68:List O:=h2 877 93 365 2 511 891 845 ["_law_parts","_law_script","_law_depths","_law_letters","_law_ends","_law_number","_law_way","_law_at","_law_drawn","_law_two","_law_many"] "_law_other" "law_thinwood_k88_stores_read"
def d69:List O:=h1 94 894 390 1 518 845 "_law_due" "law_thinwood_k88_stores_read"
def d70:List O:=h2 900 95 404 2 523 909 845 ["_law_octets","_law_cell","_law_number","_law_at","_law_drawn","_law_bit"] "_law_changed" "law_thinwood_k88_stores_read"
def d71:List O:=h1 96 912 416 1 530 845 "_law_told" "law_thinwood_k88_stores_read"
def d72:List O:=h2 918 97 429 1 535 933 845 ["_law_depths","_law_bits","_law_ahead","_law_deep","_law_octets","_law_start","_law_octet","_law_bit","_law_ones","_law_lows","_law_low","_law_at"] "_law_laid" "law_thinwood_k88_stores_read"
def d73:List O:=h2 936 98 453 1 542 946 845 ["_law_more","_law_words_here","_law_second","_law_depths","_law_letters","_law_ends","_law_found"] "_law_great" "law_thinwood_k88_stores_read"
def d74:List O:=h2 949 99 463 1 549 962 845 ["_law_script","_law_parts","_law_depths","_law_letters","_law_ends","_law_octets","_law_handed","_law_due_here","_law_found","_law_some"] "law" "law_thinwood_k88_stores_read"
def f0:List O:=ap [PySem.W.boot_o_0,PySem.W.boot_o_1,PySem.W.boot_o_2,s0,PySem.W.boot_o_4,PySem.W.boot_o_5,PySem.W.boot_o_6,PySem.W.boot_o_7,PySem.W.boot_o_8,PySem.W.boot_o_9,PySem.W.boot_o_10,l0,s1,l1,l2,l3,l4,l5,l0,l6,l7,l8,l0,l9,l10,l11,l12,l13] (ap d1 (ap d2 (ap d3 (ap d4 (ap d5 (ap d6 (ap d7 (ap d8 (d9)))))))))
def f1:List O:=ap d10 (ap d11 (ap d12 (ap d13 (ap d14 (ap d15 (ap d16 (ap d17 (ap d18 (d19)))))))))
def f2:List O:=ap d20 (ap d21 (ap d22 (ap d23 (ap d24 (ap d25 (ap d26 (ap d27 (ap d28 (d29)))))))))
def f3:List O:=ap d30 (ap d31 (ap d32 (ap d33 (ap d34 (ap d35 (ap d36 (ap d37 (ap d38 (d39)))))))))
def f4:List O:=ap d40 (ap d41 (ap d42 (ap d43 (ap d44 (ap d45 (ap d46 (ap d47 (ap d48 (d49)))))))))
def f5:List O:=ap d50 (ap d51 (ap d52 (ap d53 (ap d54 (ap d55 (ap d56 (ap d57 (ap d58 (d59)))))))))
def f6:List O:=ap d60 (ap d61 (ap d62 (ap d63 (ap d64 (ap d65 (ap d66 (ap d67 (ap d68 (d69)))))))))
def f7:List O:=ap d70 (ap d71 (ap d72 (ap d73 (d74))))
def ff:List O:=ap f0 (ap f1 (ap f2 (ap f3 (ap f4 (ap f5 (ap f6 (f7)))))))
def s2:O:=gd (Z "__name__" 165 (.str "thinwood.errors" 187)::tk gg 9) 10
def l14:O:=λP=>(.mk .none none (.fields #[(.int 2 0),(.int 0 0),(.ref 20)]) #[])
def l15:O:=λP=>(.mk (.type "type") none (.cls (.mk "WoodError" [(.type "ValueError")] [(.ref 24),(.type "ValueError"),(.type "Exception"),(.type "BaseException"),(.type "object")] 23 "WoodError" .true [] [] .false none .false)) #[(some (.ref 15)),none,(some (.str "WoodError" 189)),(some (.str "WoodError" 197)),(some (.builtin "ValueError.__new__")),(some (.bool .true))])
def S_tree_63:Params→PySem.W.BT:=λP=>bt 6 (mp (λx=>x P) (ov (tk ff 28) [((3),s2),((8),l14),(11,l15)]))
def s3:O:=gd (Z "__name__" 165 (.str "thinwood.errors" 187)::tk gg 10) 11
def s4:O:=tb (tk tt 2)
def l16:O:=λP=>(.mk (.type "type") none (.cls (.mk "WoodError" [(.type "ValueError")] [(.ref 24),(.type "ValueError"),(.type "Exception"),(.type "BaseException"),(.type "object")] 23 "WoodError" .true [] [(.ref 37)] .false none .false)) #[(some (.ref 15)),none,(some (.str "WoodError" 189)),(some (.str "WoodError" 197)),(some (.builtin "ValueError.__new__")),(some (.bool .true))])
def S_tree_78:Params→PySem.W.BT:=λP=>bt 7 (mp (λx=>x P) (ov (tk ff 40) [((3),s3),((8),s4),(11,l16)]))
def s5:O:=gd (Z "__name__" 165 (.str "thinwood.errors" 187)::tk gg 11) 12
def s6:O:=tb (tk tt 3)
def l17:O:=λP=>(.mk (.type "type") none (.cls (.mk "WoodError" [(.type "ValueError")] [(.ref 24),(.type "ValueError"),(.type "Exception"),(.type "BaseException"),(.type "object")] 23 "WoodError" .true [] [(.ref 37),(.ref 49)] .false none .false)) #[(some (.ref 15)),none,(some (.str "WoodError" 189)),(some (.str "WoodError" 197)),(some (.builtin "ValueError.__new__")),(some (.bool .true))])
def S_tree_93:Params→PySem.W.BT:=λP=>bt 7 (mp (λx=>x P) (ov (tk ff 52) [((3),s5),((8),s6),(11,l17)]))
def s7:O:=gd (Z "__name__" 165 (.str "thinwood.errors" 187)::tk gg 12) 13
def s8:O:=tb (tk tt 4)
def l18:O:=λP=>(.mk (.type "type") none (.cls (.mk "WoodError" [(.type "ValueError")] [(.ref 24),(.type "ValueError"),(.type "Exception"),(.type "BaseException"),(.type "object")] 23 "WoodError" .true [] [(.ref 37),(.ref 49),(.ref 61)] .false none .false)) #[(some (.ref 15)),none,(some (.str "WoodError" 189)),(some (.str "WoodError" 197)),(some (.builtin "ValueError.__new__")),(some (.bool .true))])
def S_tree_108:Params→PySem.W.BT:=λP=>bt 8 (mp (λx=>x P) (ov (tk ff 64) [((3),s7),((8),s8),(11,l18)]))
def s9:O:=gd (Z "__name__" 165 (.str "thinwood.errors" 187)::tk gg 13) 14
def s10:O:=tb (tk tt 5)
def l19:O:=λP=>(.mk (.type "type") none (.cls (.mk "WoodError" [(.type "ValueError")] [(.ref 24),(.type "ValueError"),(.type "Exception"),(.type "BaseException"),(.type "object")] 23 "WoodError" .true [] [(.ref 37),(.ref 49),(.ref 61),(.ref 73)] .false none .false)) #[(some (.ref 15)),none,(some (.str "WoodError" 189)),(some (.str "WoodError" 197)),(some (.builtin "ValueError.__new__")),(some (.bool .true))])
def S_tree_123:Params→PySem.W.BT:=λP=>bt 8 (mp (λx=>x P) (ov (tk ff 76) [((3),s9),((8),s10),(11,l19)]))
def s11:O:=gd (Z "__name__" 165 (.str "thinwood.errors" 187)::tk gg 14) 15
def s12:O:=tb (tk tt 6)
def l20:O:=λP=>(.mk (.type "type") none (.cls (.mk "WoodError" [(.type "ValueError")] [(.ref 24),(.type "ValueError"),(.type "Exception"),(.type "BaseException"),(.type "object")] 23 "WoodError" .true [] [(.ref 37),(.ref 49),(.ref 61),(.ref 73),(.ref 85)] .false none .false)) #[(some (.ref 15)),none,(some (.str "WoodError" 189)),(some (.str "WoodError" 197)),(some (.builtin "ValueError.__new__")),(some (.bool .true))])
def S_tree_138:Params→PySem.W.BT:=λP=>bt 8 (mp (λx=>x P) (ov (tk ff 88) [((3),s11),((8),s12),(11,l20)]))
def s13:O:=gd (Z "__name__" 165 (.str "thinwood.errors" 187)::tk gg 15) 16
def s14:O:=tb (tk tt 7)
def l21:O:=λP=>(.mk (.type "type") none (.cls (.mk "WoodError" [(.type "ValueError")] [(.ref 24),(.type "ValueError"),(.type "Exception"),(.type "BaseException"),(.type "object")] 23 "WoodError" .true [] [(.ref 37),(.ref 49),(.ref 61),(.ref 73),(.ref 85),(.ref 97)] .false none .false)) #[(some (.ref 15)),none,(some (.str "WoodError" 189)),(some (.str "WoodError" 197)),(some (.builtin "ValueError.__new__")),(some (.bool .true))])
def S_tree_153:Params→PySem.W.BT:=λP=>bt 8 (mp (λx=>x P) (ov (tk ff 100) [((3),s13),((8),s14),(11,l21)]))
def s15:O:=gd (Z "__name__" 165 (.str "thinwood.errors" 187)::tk gg 16) 17
def s16:O:=tb (tk tt 8)
def l22:O:=λP=>(.mk (.type "type") none (.cls (.mk "WoodError" [(.type "ValueError")] [(.ref 24),(.type "ValueError"),(.type "Exception"),(.type "BaseException"),(.type "object")] 23 "WoodError" .true [] [(.ref 37),(.ref 49),(.ref 61),(.ref 73),(.ref 85),(.ref 97),(.ref 109)] .false none .false)) #[(some (.ref 15)),none,(some (.str "WoodError" 189)),(some (.str "WoodError" 197)),(some (.builtin "ValueError.__new__")),(some (.bool .true))])
def S_tree_168:Params→PySem.W.BT:=λP=>bt 8 (mp (λx=>x P) (ov (tk ff 112) [((3),s15),((8),s16),(11,l22)]))
def s17:O:=gd (Z "__name__" 165 (.str "thinwood.blocks" 335)::tk gg 24) 25
def s18:O:=tb (tk tt 14)
def S_tree_216:Params→PySem.W.BT:=λP=>bt 9 (mp (λx=>x P) (ov (tk ff 157) [((3),s17),((8),s18)]))
def s19:O:=gd (Z "__name__" 165 (.str "thinwood.brackets" 486)::tk gg 36) 37
def s20:O:=tb (tk tt 25)
def S_tree_293:Params→PySem.W.BT:=λP=>bt 9 (mp (λx=>x P) (ov (tk ff 232) [((3),s19),((8),s20)]))
def s21:O:=gd (Z "__name__" 165 (.str "thinwood.signs" 576)::tk gg 49) 50
def s22:O:=tb (tk tt 36)
def S_tree_370:Params→PySem.W.BT:=λP=>bt 10 (mp (λx=>x P) (ov (tk ff 307) [((3),s21),((8),s22)]))
def s23:O:=gd (Z "__name__" 165 (.str "thinwood.written" 680)::tk gg 67) 68
def s24:O:=tb (tk tt 47)
def S_tree_437:Params→PySem.W.BT:=λP=>bt 10 (mp (λx=>x P) (ov (tk ff 372) [((3),s23),((8),s24)]))
def s25:O:=gd (Z "__name__" 165 (.str "thinwood.written" 680)::tk gg 81) 82
def s26:O:=tb (tk tt 59)
def S_tree_519:Params→PySem.W.BT:=λP=>bt 10 (mp (λx=>x P) (ov (tk ff 452) [((3),s25),((8),s26)]))
def s27:O:=gd (Z "__name__" 165 (.str "law_thinwood_k88_stores_read" 845)::tk gg 93) 94
def s28:O:=tb (tk tt 71)
def S_tree_599:Params→PySem.W.BT:=λP=>bt 11 (mp (λx=>x P) (ov (tk ff 530) [((3),s27),((8),s28)]))
def S_tree_627:Params→PySem.W.BT:=λP=>bt 11 (mp (λx=>x P) (ff))
def S_heap_628:Params→Heap:=λP=>Heap.mk (Array.mk (mp (λx=>x P) (ff))) (.mk [] [] [] 0 [] [] .false #[] [] 0 .false .false .false 0 [2000,10,10] .false 0 .true [] [] 0 .false)
def S_sts_49:List Stmt:=tk (List.drop 0 PySem.Challenge.pw_thinwood_k88_stores_read.main.body) 2
def S_sts_64:List Stmt:=tk (List.drop 2 PySem.Challenge.pw_thinwood_k88_stores_read.main.body) 1
def S_sts_79:List Stmt:=tk (List.drop 3 PySem.Challenge.pw_thinwood_k88_stores_read.main.body) 1
def S_sts_94:List Stmt:=tk (List.drop 4 PySem.Challenge.pw_thinwood_k88_stores_read.main.body) 1
def S_sts_109:List Stmt:=tk (List.drop 5 PySem.Challenge.pw_thinwood_k88_stores_read.main.body) 1
def S_sts_124:List Stmt:=tk (List.drop 6 PySem.Challenge.pw_thinwood_k88_stores_read.main.body) 1
def S_sts_139:List Stmt:=tk (List.drop 7 PySem.Challenge.pw_thinwood_k88_stores_read.main.body) 1
def S_sts_154:List Stmt:=tk (List.drop 8 PySem.Challenge.pw_thinwood_k88_stores_read.main.body) 1
def S_sts_169:List Stmt:=tk (List.drop 9 PySem.Challenge.pw_thinwood_k88_stores_read.main.body) 9
def S_sts_217:List Stmt:=tk (List.drop 18 PySem.Challenge.pw_thinwood_k88_stores_read.main.body) 16
def S_sts_294:List Stmt:=tk (List.drop 34 PySem.Challenge.pw_thinwood_k88_stores_read.main.body) 15
def S_sts_371:List Stmt:=tk (List.drop 49 PySem.Challenge.pw_thinwood_k88_stores_read.main.body) 20
def S_sts_438:List Stmt:=tk (List.drop 69 PySem.Challenge.pw_thinwood_k88_stores_read.main.body) 14
def S_sts_520:List Stmt:=tk (List.drop 83 PySem.Challenge.pw_thinwood_k88_stores_read.main.body) 13
def S_sts_600:List Stmt:=tk (List.drop 96 PySem.Challenge.pw_thinwood_k88_stores_read.main.body) 4
def S_view:Program:={ PySem.Challenge.pw_thinwood_k88_stores_read with main:={ PySem.Challenge.pw_thinwood_k88_stores_read.main with body:=mp Tw.top [1,2,3,4,5,6,7,8,9,11,12,13,14,15,16,17,18,19,20,21,23,24,26,27,29,30,31,32,34,35,36,37,38,39,41,42,43,44,45,47,48,49,50,51,52,53,54,56,57,58,59,60,61,62,64,65,66,67,68,69,70,71,72,73,74,75,76,77,78,79,80,81,82,83,84,85,86,87,88,90,91,92,93,94,95,96,97,98,99] } }
end
end Tp
theorem PySem.W.Fast.tw14598715356260435866:True:=trivial
noncomputable abbrev PySem.W.Fast.tw4610502563625227233:PySem.Program:=PySem.Challenge.pw_thinwood_k88_stores_read
theorem PySem.W.Fast.te4610502563625227233:PySem.Challenge.pw_thinwood_k88_stores_read = PySem.W.Fast.tw4610502563625227233:=rfl
lay_quick Tp.g0 Tp.g1 Tp.g2 Tp.g3 Tp.g4 Tp.g5 Tp.g6 Tp.g7 Tp.g8 Tp.g9 Tp.gg Tp.s0 Tp.l0 Tp.s1 Tp.l1 Tp.l2 Tp.l3 Tp.l4 Tp.l5 Tp.l6 Tp.l7 Tp.l8 Tp.l9 Tp.l10 Tp.l11 Tp.l12 Tp.l13 Tp.d1 Tp.d2 Tp.d3 Tp.d4 Tp.d5 Tp.d6 Tp.d7 Tp.d8 Tp.d9 Tp.d10 Tp.d11 Tp.d12 Tp.d13
lay_quick Tp.d14 Tp.d15 Tp.d16 Tp.d17 Tp.d18 Tp.d19 Tp.d20 Tp.d21 Tp.d22 Tp.d23 Tp.d24 Tp.d25 Tp.d26 Tp.d27 Tp.d28 Tp.d29 Tp.d30 Tp.d31 Tp.d32 Tp.d33 Tp.d34 Tp.d35 Tp.d36 Tp.d37 Tp.d38 Tp.d39 Tp.d40 Tp.d41 Tp.d42 Tp.d43 Tp.d44 Tp.d45 Tp.d46 Tp.d47 Tp.d48 Tp.d49 Tp.d50 Tp.d51 Tp.d52 Tp.d53
lay_quick Tp.d54 Tp.d55 Tp.d56 Tp.d57 Tp.d58 Tp.d59 Tp.d60 Tp.d61 Tp.d62 Tp.d63 Tp.d64 Tp.d65 Tp.d66 Tp.d67 Tp.d68 Tp.d69 Tp.d70 Tp.d71 Tp.d72 Tp.d73 Tp.d74 Tp.f0 Tp.f1 Tp.f2 Tp.f3 Tp.f4 Tp.f5 Tp.f6 Tp.f7 Tp.ff Tp.s2 Tp.l14 Tp.l15 Tp.S_tree_63 Tp.s3 Tp.s4 Tp.l16 Tp.S_tree_78 Tp.s5 Tp.s6
lay_quick Tp.l17 Tp.S_tree_93 Tp.s7 Tp.s8 Tp.l18 Tp.S_tree_108 Tp.s9 Tp.s10 Tp.l19 Tp.S_tree_123 Tp.s11 Tp.s12 Tp.l20 Tp.S_tree_138 Tp.s13 Tp.s14 Tp.l21 Tp.S_tree_153 Tp.s15 Tp.s16 Tp.l22 Tp.S_tree_168 Tp.s17 Tp.s18 Tp.S_tree_216 Tp.s19 Tp.s20 Tp.S_tree_293 Tp.s21 Tp.s22 Tp.S_tree_370 Tp.s23 Tp.s24 Tp.S_tree_437 Tp.s25 Tp.s26 Tp.S_tree_519 Tp.s27 Tp.s28 Tp.S_tree_599
lay_quick Tp.S_tree_627 Tp.S_heap_628 Tp.S_sts_49 Tp.S_sts_64 Tp.S_sts_79 Tp.S_sts_94 Tp.S_sts_109 Tp.S_sts_124 Tp.S_sts_139 Tp.S_sts_154 Tp.S_sts_169 Tp.S_sts_217 Tp.S_sts_294 Tp.S_sts_371 Tp.S_sts_438 Tp.S_sts_520 Tp.S_sts_600 Tp.S_view
namespace Tp
open PySem PySem.W.Fast
end Tp
namespace PySem.W.Fast
open PySem Tp
noncomputable section
abbrev tw13085836761669434615:Params→BT:=tw11432227658251013801
theorem te13085836761669434615:S_tree_63=tw13085836761669434615:=te11432227658251013801
abbrev tw13098892606622797985:Params→BT:=tw16269510630359031336
theorem te13098892606622797985:S_tree_78=tw13098892606622797985:=te16269510630359031336
abbrev tw18078284055801590619:Params→BT:=tw5549918322004914887
theorem te18078284055801590619:S_tree_93=tw18078284055801590619:=te5549918322004914887
abbrev tw8499091922961854208:Params→BT:=tw10118726668083288838
theorem te8499091922961854208:S_tree_108=tw8499091922961854208:=te10118726668083288838
abbrev tw4781547816727526132:Params→BT:=tw244363406318419850
theorem te4781547816727526132:S_tree_123=tw4781547816727526132:=te244363406318419850
abbrev tw10837748041514894982:Params→BT:=tw12417361858070979987
theorem te10837748041514894982:S_tree_138=tw10837748041514894982:=te12417361858070979987
abbrev tw16203667298841984214:Params→BT:=tw863085786592867233
theorem te16203667298841984214:S_tree_153=tw16203667298841984214:=te863085786592867233
abbrev tw13349926153241148194:Params→BT:=tw12361961019411380784
theorem te13349926153241148194:S_tree_168=tw13349926153241148194:=te12361961019411380784
abbrev tw15587157195700488382:Params→BT:=tw7325087616628230808
theorem te15587157195700488382:S_tree_216=tw15587157195700488382:=te7325087616628230808
abbrev tw17932829174118106570:Params→BT:=tw12245342217616203890
theorem te17932829174118106570:S_tree_293=tw17932829174118106570:=te12245342217616203890
abbrev tw5883171506734192099:Params→BT:=tw6819650600894785074
theorem te5883171506734192099:S_tree_370=tw5883171506734192099:=te6819650600894785074
abbrev tw4805870636628574262:Params→BT:=tw15397820397657239178
theorem te4805870636628574262:S_tree_437=tw4805870636628574262:=te15397820397657239178
abbrev tw17326977230260279932:Params→BT:=tw7959913906862776364
theorem te17326977230260279932:S_tree_519=tw17326977230260279932:=te7959913906862776364
abbrev tw197289202026813702:Params→BT:=tw8101493749526618233
theorem te197289202026813702:S_tree_599=tw197289202026813702:=te8101493749526618233
abbrev tw12509280067670698510:Params→BT:=tw3417323515730114748
theorem te12509280067670698510:S_tree_627=tw12509280067670698510:=te3417323515730114748
abbrev tw5707898683586858203:Params→Heap:=tw2765799801783194236
theorem te5707898683586858203:S_heap_628=tw5707898683586858203:=te2765799801783194236
abbrev tw611704890642177121:List Stmt:=tw666750322614274432
theorem te611704890642177121:S_sts_49=tw611704890642177121:=te666750322614274432
abbrev tw1358310253915693192:List Stmt:=tw5768192320520425421
theorem te1358310253915693192:S_sts_64=tw1358310253915693192:=te5768192320520425421
abbrev tw3605896146989835939:List Stmt:=tw16161987442105222805
theorem te3605896146989835939:S_sts_79=tw3605896146989835939:=te16161987442105222805
abbrev tw6334033090575930153:List Stmt:=tw11682420065776883047
theorem te6334033090575930153:S_sts_94=tw6334033090575930153:=te11682420065776883047
abbrev tw11684117613607089749:List Stmt:=tw5728941507444464575
theorem te11684117613607089749:S_sts_109=tw11684117613607089749:=te5728941507444464575
abbrev tw6965498050697293730:List Stmt:=tw3506674074365841151
theorem te6965498050697293730:S_sts_124=tw6965498050697293730:=te3506674074365841151
abbrev tw7434878812325019675:List Stmt:=tw11501099722331979331
theorem te7434878812325019675:S_sts_139=tw7434878812325019675:=te11501099722331979331
abbrev tw9612481623249800123:List Stmt:=tw13451323129798551695
theorem te9612481623249800123:S_sts_154=tw9612481623249800123:=te13451323129798551695
abbrev tw14372724193387706939:List Stmt:=tw8446481660639318910
theorem te14372724193387706939:S_sts_169=tw14372724193387706939:=te8446481660639318910
abbrev tw16542700305637198947:List Stmt:=tw10341167432169321533
theorem te16542700305637198947:S_sts_217=tw16542700305637198947:=te10341167432169321533
abbrev tw16118461063785585888:List Stmt:=tw1349057676744220601
theorem te16118461063785585888:S_sts_294=tw16118461063785585888:=te1349057676744220601
abbrev tw8150388826709607331:List Stmt:=tw16356551419608269477
theorem te8150388826709607331:S_sts_371=tw8150388826709607331:=te16356551419608269477
abbrev tw3384002203967214458:List Stmt:=tw9798080696486151459
theorem te3384002203967214458:S_sts_438=tw3384002203967214458:=te9798080696486151459
abbrev tw9880663701061816434:List Stmt:=tw17739394014424920762
theorem te9880663701061816434:S_sts_520=tw9880663701061816434:=te17739394014424920762
abbrev tw9014987003411901149:List Stmt:=tw7627330829860077524
theorem te9014987003411901149:S_sts_600=tw9014987003411901149:=te7627330829860077524
abbrev tw1879369832214802781:Program:=tw11325136443342628617
theorem te1879369832214802781:S_view=tw1879369832214802781:=te11325136443342628617
theorem te10878546056760943992:True:=trivial
end
end PySem.W.Fast
open PySem PySem.W PyProof.Rows
set_option maxRecDepth 100000 in
set_option maxHeartbeats 0 in
theorem PySem.Challenge.cw_thinwood_k88_stores_read_holds : PySem.Challenge.rw_thinwood_k88_stores_read.Holds := by
 w_on;o_law;k_head;(case hw=>w_witness2)
 k_fill
 refine L2.Al (l:=PySem.Challenge.rw_thinwood_k88_stores_read) (n:=63) (k:=14) (x := "_law_script") (CX:=λ_=>L2.VR) (sp:=λw=>Tw.ae3 _) rfl (by decide) rfl ⟨rfl,by decide,by decide⟩ (λw h Y=>PySem.W.kIn_of Y) ?F (λ_ _ a ns hl _ hS=>⟨a,ns,rfl,hS,hl,λ_=>rfl⟩) (λ_ _ _ _ _ z=>z)
 case F=>
  intro w mg fa h KX G hmg
  refine' Tw.Sg KX G hmg ?d0 ?d1 ?d2 ?d3 ?d4 ?d5 ?d6 ?d7 ?d8 ?d9 ?d10 ?d11 ?d12 ?d13 ?d14 ?d15 ?d16 ?d17 ?d18 ?d19 ?d20 ?d21 ?d22 ?d23 ?d24 ?d25 ?d26 ?d27 ?d28 ?d29 ?d30 ?d31 ?d32 ?d33 ?d34 ?d35 ?d36 ?d37 ?d38 ?d39 ?d40 ?d41 ?d42 ?d43 ?d44 ?d45 ?d46 ?d47 ?d48 ?d49 ?d50 ?d51 ?d52 ?d53 ?d54 ?d55 ?d56 ?d57 ?d58 ?d59 ?d60 ?d61 ?d62 ?d63 ?d64 ?d65 ?abl ?abX ?afi ?abm ?afj ?ae4 ?afk ?afl ?aeQ ?acy ?afm ?aef ?afn ?afo ?aeR ?afp ?abn ?aaN ?aaO ?aaZ ?adD ?abY ?aaP ?abo ?aaQ ?abp ?afq ?aeS ?aeT ?ae5 ?aeg ?abB ?ac1 ?ac2 ?ac3 ?acw ?aeh ?aa0 ?aei ?abZ ?ab0 ?abq ?abr ?abt ?abu ?abv ?abw ?abx ?ZV ?ZW ?ZX ?ZZ ?Zc ?Z0 ?adE ?Z1 ?adF ?Z2 ?adG ?Zd ?acz ?Z3 ?aej ?Z4 ?aby ?abz ?aa1 ?aa2 ?aa3 ?aa4 ?aa5 ?aa6 ?aa7
  (case d0|d1|d2|d3|d4|d5|d6|d7|d8|d9|d10|d11|d12|d13|d14|d15|d16|d17|d18|d19|d20|d21|d22|d23|d24|d25|d26|d27|d28|d29|d30|d31|d32|d33|d34|d35|d36|d37|d38|d39|d40|d41|d42|d43|d44|d45|d46|d47|d48|d49|d50|d51|d52|d53|d54|d55|d56|d57|d58|d59|d60|d61|d62|d63|d64|d65=>exact⟨by k_is,L2.RT (by k_is) (by k_is) (by k_is)⟩);(case abl|abX|afi|abm|afj|ae4|afk|afl|aeQ|acy|afm|aef|afn|afo|aeR|afp|abn|aaN|aaO|aaZ|adD|abY|aaP|abo|aaQ|abp|afq|aeS|aeT|ae5|aeg|abB|ac1|ac2|ac3|acw|aeh|aa0=>k_is);(case aei|abZ=>k_exc);(case ab0|abq|abr|abt|abu|abv|abw|abx=>k_is);(case ZV|ZW|ZX|ZZ|Zc|Z0=>kit_is);(case adE=>k_exc);(case Z1=>kit_is);(case adF=>k_exc);(case Z2=>kit_is);(case adG=>k_exc);(case Zd=>kit_is);(case acz=>k_exc);(case Z3=>kit_is);(case aej=>k_exc);(case Z4=>kit_is);(case aby=>k_exc);(case abz|aa1|aa2|aa3|aa4|aa5|aa6|aa7=>k_is)
