import PyProof.Rows.All
import Wide.All
import OpenK.AllK
import Wide.FinOn
import Lean
import PyProof.EqAt
import PyProof.EqKinds
import PyProof.TupleCall
import PySem.Challenge.RW_thinwood_k69_whole_signs
set_option Elab.async false
set_option linter.all false
set_option maxRecDepth 100000
theorem Vn{p:Prop}(h:¬p->False):p:=Classical.byContradiction h
local macro_rules
 | `(tactic| obtain $p:rcasesPatMed:=$e:term)=>`(tactic| (refine _root_.Vn λhG=>?_;rcases $e:term with $p:rcasesPatMed <;> (refine hG ?_;clear hG)))
local macro_rules
 | `(tactic| rintro $ps:rintroPat*)=>do
  let n:=ps.size
  let l:=(ps.getD (n-1) ⟨.missing⟩).raw[0]
  if l.getKind != `Lean.Parser.Tactic.rcasesPat.tuple then Lean.Macro.throwUnsupported
  let q:Lean.TSyntax `rcasesPat:=⟨l⟩
  let arr:=(ps.extract 0 (n-1)).push (<- `(rintroPat| z))
  `(tactic| (rintro $arr*;refine _root_.Vn λhG=>?_;rcases z with $q:rcasesPat <;> (refine hG ?_;clear hG)))
open List renaming length_map->aaa,getElem?_eq_some_iff->aab,getElem?_eq_getElem->aac,length_append->aae,getElem?_map->aag,mem_of_getElem?->aah,mem_singleton->aal,map_append->aam,length_cons->aan,size_toArray->aao,getElem?_append_right->aap,getElem?_append_left->aar,mem_append_right->aas,filter_cons->aau,take_of_length_le->aav,mem_cons_of_mem->aaw,mem_cons_self->aay,map_cons->aaz,mem_cons->aaA,pairwise_iff_getElem->aaB,length_take->aaC,mem_map->aaE,idxOf_lt_length_of_mem->aaF,append_assoc->aaG,getD_eq_getElem?_getD->aaH,filter_append->aaI,mem_append->aaK,getElem?_of_mem->aaL,range->aaO,getElem_mem->aaP,replicate->aaQ,range_succ->aaR,mem_filter->aaY,mem_append_left->aa0,pairwise_append->aa1,getElem_idxOf->aa2,getElem?_take_of_lt->aa3,nodup_cons->aa4,length_singleton->aa5,take_append_drop->aa6,take_add_one->aa8,filter_congr->aa9,Perm->abb,length_drop->abe,take_length->abf,flatten_cons->abh,length_range->abi,nil_append->abj,pairwise_cons->abk,mem_of_mem_take->abm,lookup_cons->abn,filter_eq_nil_iff->abp,replicate_succ->abq,extract_eq_drop_take->abu,append_nil->abv,length_filter_le->abx,length->abC,filter_cons_of_pos->abD,take_sublist->abE,getElem_of_mem->abG,filter_filter->abI,drop_eq_getElem_cons->abK,filterMap_cons->abO,filter_cons_of_neg->abP,mem_map_of_mem->abQ,reverse_append->abR,filter_eq_self->abS,flatMap_append->abT,mem_reverse->abU,not_mem_nil->abV,take_append_of_le_length->abW,drop_zero->abX,drop_of_length_le->abY,length_pos_of_mem->abZ,getElem?_drop->ab1,zip_cons_cons->ab2,of_mem_zip->ab3,length_replicate->ab4,getElem?_eq_none->ab6,pairwise_reverse->ab7,find?_cons->ab8,ext_getElem?->ab9,getElem_drop->aca,getElem_take->acb,zip->acd,flatMap_cons->ace,mem_range->ach,take_succ->aci,length_reverse->acj,mem_filterMap->acn,getElem?_replicate->aco,getElem?_set_self->acq,getElem?_toArray->acr,eq_nil_of_length_eq_zero->acu,drop_append_of_le_length->acv,exists_mem_of_length_pos->acw,getElem?_set_ne->acx,mem_of_mem_drop->acy,sum_append->acB,map_congr_left->acC,take_succ_cons->acD,length_eraseIdx_of_lt->acG,map_map->acK,sublist_append_right->acN,drop_drop->acO,sublist_append_left->acR,pairwise_map->acS,reverse_perm->acT,length_erase_of_mem->acV,map_take->acW,getElem?_cons_succ->acY,sum_cons->acZ,take_add->ac0,mem_singleton_self->ac2,mem_flatMap->ac4,pairwise_lt_range->ac5,map_nil->ac7,Perm.append_left->ac9,perm_append_comm->ada,Pairwise.sublist->ade,reverse_reverse->adh,mem_erase_of_ne->adi,forall_mem_cons->adk,take_take->adm,forIn_nil->adn,flatten_append->adu,filter_sublist->adv,any_cons->adA,forIn_toArray->adD,reverse_cons->adF,Pairwise.nil->adG,getElem?_inj->adH,map_reverse->adV,drop_length->adX,drop_append->adY,ext_getElem->adZ,flatMap_nil->ad0,Sublist.map->ad1,foldl_cons->ad2,length_nil->ad4,length_zip->ad5,Perm.trans->ad6,forIn_cons->aee,filter->aeh,Perm.refl->aek,foldl->ael,map_drop->aem,map_id->aew
open Nat renaming le_refl->aad,lt_of_lt_of_le->aaf,ne_of_lt->aak,zero_le->aaq,lt_or_ge->aaM,le_trans->aaS,lt_irrefl->aaZ,lt_succ_self->aa7,le_of_lt->aba,add_sub_cancel_left->abl,le_add_right->abo,sub_zero->abw,not_lt_zero->aby,zero_add->abz,sub_self->abA,lt_succ_of_lt->abF,ne_of_gt->abH,le_succ->abJ,lt_trichotomy->abM,lt_of_le_of_lt->ab0,min_eq_left->ab5,add_le_add_left->acE,succ_mul->acI,min_eq_right->ac3,le_of_eq->ac8,lt_trans->adL,pow_succ->adM,min_self->adQ,not_le_of_lt->adW,two_pow_pos->aeg,zero_mul->aeq,rec->aev,mod_lt->aex,not_lt->aey
open Or renaming inl->aai,inr->acJ
open Array renaming length_toList->aaj,getElem?_toList->aaN,getElem_mem_toList->aaT,toList_append->aaW,getElem_toList->aaX,toList_push->abr,getElem?_eq_getElem->abt,toList_extract->abL,getElem?_eq_some_iff->acf,perm_iff_toList_perm->acg,toList_reverse->acz,append_assoc->acH,size_setIfInBounds->acU,getElem?_eq_none->ac6,getElem_extract->adb,Perm.refl->adc,toList_modify->adp,getElem?_push->adq,size_extract->adC,getD->adI,size_push->aef,toList->aeo
open Bool renaming false_ne_true->aat,false_eq_true->aaV,decide_and->abd,eq_iff_iff->acA,not_eq_true'->acQ,true_and->ac1,false_and->adl,decide_or->ado,or_false->adz,and_self->adE,and_eq_true->adU,or_eq_true->ad3,not_false->aej,not_true->aen,not_not->aep
open Option renaming some.inj->aax,map_eq_some_iff->aaJ,map_some->acp,isSome_iff_exists->acP,isSome_some->adB,some.injEq->adJ,getD_none->adS,getD_some->adT,none->aeu
open Int renaming toNat_natCast->aaD,emod_lt_of_pos->abB,emod_nonneg->abN,le_refl->ack,ediv_one->acl,mul_le_mul_of_nonneg_right->acs,fdiv_eq_ediv_of_nonneg->acF,pow_succ->acL,pow_zero->acM,ediv_ediv_of_nonneg->acX,zero_add->adf,natCast_mul->adg,lt_trichotomy->adK,ne_of_lt->adN,pow_nonneg->aei,le_of_lt->aer,add_zero->aes,ofNat_le->aet
open Ne renaming symm->abg
namespace L2
open PySem PySem.Spec PyProof.Rows
abbrev Key:=Sum Int Str
def uB:Key->Value->Bool
 | .inl k,v=>Value.isInt k v
 | .inr x,v=>Value.isStrOf x v
def Km(w:World):Key->Int
 | .inl k=>hashInt k
 | .inr x=>hashStr w x
theorem cA:∀{k:Key}{v:Value},uB k v=true->(∃i t,k=Sum.inl i/\v=Value.int i t)\/(∃x t,k=Sum.inr x/\v=Value.str x t)
 | .inl i,v,h=>by
  obtain⟨t,e⟩:=Value.isInt_shape (k:=i) (v:=v) h;exact .inl ⟨i,t,rfl,e⟩
 | .inr x,v,h=>by
  obtain⟨t,e⟩:=Value.isStrOf_shape (x:=x) (v:=v) h;exact .inr ⟨x,t,rfl,e⟩
theorem CP(i:Int)(t:Tok):uB (.inl i) (.int i t)=true:=by simp[uB,Value.isInt]
theorem Ao(x:Str)(t:Tok):uB (.inr x) (.str x t)=true:=by simp[uB,Value.isStrOf]
theorem Hs(a b:Int):decide ((Sum.inl a:Key)=Sum.inl b)=(a == b):=by
 by_cases e:a=b
 ·subst e;simp
 ·have h:¬(Sum.inl a:Key)=Sum.inl b:=λq=>e (Sum.inl.inj q);rw[decide_eq_false h];exact(beq_eq_false_iff_ne.mpr e).symm
theorem Je(a b:Str):decide ((Sum.inr a:Key)=Sum.inr b)=decide (a=b):=by
 by_cases e:a=b
 ·subst e;simp
 ·have h:¬(Sum.inr a:Key)=Sum.inr b:=λq=>e (Sum.inr.inj q);rw[decide_eq_false h,decide_eq_false e]
theorem Hm(a:Int)(b:Str):decide ((Sum.inl a:Key)=Sum.inr b)=false:=decide_eq_false (λq=>nomatch q)
theorem Ik(a:Str)(b:Int):decide ((Sum.inr a:Key)=Sum.inl b)=false:=decide_eq_false (λq=>nomatch q)
def dh(prog:Program)(w:World):PySem.KeyKind prog w Key where
 is:=uB
 hash:=Km w
 inj:=λv a b ha hb=>by
  rcases cA ha with ⟨i,t,rfl,rfl⟩|⟨x,t,rfl,rfl⟩
  ·rcases cA hb with ⟨j,u,rfl,e⟩|⟨y,u,rfl,e⟩
   ·injection e with e1 _;rw[e1]
   ·exact nomatch e
  ·rcases cA hb with ⟨j,u,rfl,e⟩|⟨y,u,rfl,e⟩
   ·exact nomatch e
   ·injection e with e1 _;rw[e1]
 byValue:=λk v h=>by
  rcases cA h with ⟨i,t,rfl,rfl⟩|⟨x,t,rfl,rfl⟩ <;> rfl
 pyHash:=λhv h=>by
  rcases cA hv with ⟨i,t,rfl,rfl⟩|⟨x,t,rfl,rfl⟩
  ·exact wpAny_pyHash_int h
  ·exact wpAny_pyHash_str h
 eqBool:=λhu hv h=>by
  rcases cA hu with ⟨i,t,rfl,rfl⟩|⟨x,t,rfl,rfl⟩
  ·rcases cA hv with ⟨j,u,rfl,rfl⟩|⟨y,u,rfl,rfl⟩
   ·rw[Hs]at h;exact wpAny_eqBool_int h
   ·rw[Hm]at h;exact SeqAt.EqAt.int_str i t y u _ _ _ _ h
  ·rcases cA hv with ⟨j,u,rfl,rfl⟩|⟨y,u,rfl,rfl⟩
   ·rw[Ik]at h;exact SeqAt.EqAt.str_int x t j u _ _ _ _ h
   ·rw[Je]at h;exact wpAny_eqBool_str h
 «strs»:=λk x t v h=>by
  rcases cA h with ⟨i,u,rfl,e⟩|⟨y,u,rfl,e⟩
  ·exact nomatch e
  ·injection e with e1 _
   subst e1;cases v <;> rfl
theorem xN(prog:Program)(w:World)(i:Int)(t:Tok):(dh prog w).is (.inl i) (.int i t)=true:=CP i t
theorem wX(prog:Program)(w:World)(x:Str)(t:Tok):(dh prog w).is (.inr x) (.str x t)=true:=Ao x t
inductive V where
 | non|bl (b:Bool) | int (i:Int) | str (x:Str) | Nj (b:Array UInt8) | flt (b:UInt64) | ref (a:Addr) | ty (n:String)
 deriving DecidableEq
def RelV:V->Value->Prop
 | .non,u=>u=Value.none
 | .bl b,u=>u=Value.bool b
 | .int i,u=>∃t,u=Value.int i t
 | .str x,u=>∃t,u=Value.str x t
 | .Nj b,u=>∃t,u=Value.bytes b t
 | .flt b,u=>∃t,u=Value.float b t
 | .ref a,u=>u=Value.ref a
 | .ty n,u=>u=Value.type n
abbrev Vals:List V->List Value->Prop:=Paired RelV
theorem Vals.length{xs:List V}{us:List Value}(r:Vals xs us):xs.length=us.length:=Paired.length r
theorem Vals.get:∀{xs:List V}{us:List Value}{i:Nat}{x:V},Vals xs us->xs[i]?=some x -> ∃u,us[i]?=some u/\RelV x u
 | _,_,_,_,.nil,e=>by simp at e
 | _,_,0,_,.cons r _,e=>by simp at e;subst e;exact⟨_,rfl,r⟩
 | _,_,i+1,x,.cons _ t,e=>by
  obtain⟨u,h1,h2⟩:=Vals.get (i:=i) (x:=x) t (by simpa using e);exact⟨u,by simpa using h1,h2⟩
theorem Vals.append:∀{xs ys:List V}{us ws:List Value},Vals xs us->Vals ys ws->Vals (xs++ys) (us++ws)
 | _,_,_,_,.nil,s=>s
 | _,_,_,_,.cons r t,s=>.cons r (Vals.append t s)
theorem Vals.take:∀{xs:List V}{us:List Value} (n:Nat),Vals xs us->Vals (xs.take n) (us.take n)
 | _,_,0,_=>.nil
 | _,_,_+1,.nil=>.nil
 | _,_,n+1,.cons r t=>.cons r (Vals.take n t)
theorem Vals.drop:∀{xs:List V}{us:List Value} (n:Nat),Vals xs us->Vals (xs.drop n) (us.drop n)
 | _,_,0,r=>r
 | _,_,_+1,.nil=>.nil
 | _,_,n+1,.cons _ t=>Vals.drop n t
def p6:Option V->Option Value->Prop
 | some v,some u=>RelV v u
 | none,none=>True
 | _,_=>False
def KV{κ:Type}:List (κ×V)->List (κ×Value)->Prop:=Paired λ(p:κ×V) (q:κ×Value)=>p.1=q.1/\RelV p.2 q.2
def kV:Key->V
 | .inl i=>.int i
 | .inr x=>.str x
inductive HO where
  | lst (xs:List V)
  | tup (xs:List V)
  | dK (kvs:List (Key×V)) | dT (kvs:List (List Key×V))
  | set (S:Int->Bool) (n:Nat)
  | ins (C dx:Addr) (fs:List (Str×V))
  | own (x:Addr)
  | xd (fs:List (Str×V))
  | met (f x:Addr)
  | Rf (lo hi:Int)
  | Mi (o:Obj) (u:HO)
  | Ld (ps:Array Value)
  | ext (φ:Heap->Prop)
abbrev Hp:=Addr->Option HO
def upd(H:Hp)(a:Addr)(o:HO):Hp:=λb=>if b=a then some o else H b
theorem aq{H:Hp}{a:Addr}{o:HO}:upd H a o a=some o:=by unfold upd;rw[if_pos rfl]
theorem aD{H:Hp}{a b:Addr}{o:HO}(h:b≠a):upd H a o b=H b:=by unfold upd;rw[if_neg h]
theorem mR{H:Hp}{a:Addr}{o u:HO}:upd (upd H a o) a u=upd H a u:=by
 funext b;unfold upd;split <;> rfl
theorem JS{H:Hp}{a b:Addr}{o u:HO}(h:H a=some o)(h':H b=some u)(d:o≠u):a≠b:=by
 intro e;subst e;rw[h]at h';exact d (aax h')
theorem aB{H:Hp}{a b:Addr}{o:HO}(h:H a=some o)(h':H b=none):a≠b:=by
 intro e;subst e;rw[h]at h';cases h'
section
variable(P:Program)(w:World)
def bI(H:Hp)(h:Heap)(a:Addr):HO->Prop
 | .lst xs=>xs.length<=sizeLine /\ ∃(its:List Value) (n:Nat),Vals xs its/\h.get? a=some { cls:=.type "list",data:=.seq its.toArray n }
 | .tup xs=>xs.length<=sizeLine /\ ∃its:List Value,Vals xs its/\IsTup h a its.toArray
 | .dK kvs=>kvs.length<=sizeLine/\(a == sysModules)=false /\ ∃vs,KV kvs vs/\h.DictOf (dh P w) a vs
 | .dT kvs=>kvs.length<=sizeLine/\(a == sysModules)=false /\ ∃xs:List (List Key×Addr×Value),
   Paired (λ(p:List Key×V) (q:List Key×Addr×Value)=>p.1=q.1/\H q.2.1=some (.tup (p.1.map kV))/\RelV p.2 q.2.2) kvs xs /\
   ∃o es ep,h.get? a=some o/\o.ExactDict/\o.data=.dict es ep/\es.toList=xs.map (entryOfKey (tupleKind (dh P w)))/\(xs.map (·.1)).Nodup
 | .set S n=>h.SetOf (intKind P w) a S n
 | .ins C dx fs=>H dx=some (.own a)/\fs.length<=1000/\dx≠a/\h.get? a=some (PySem.W.instObj C dx) /\
   ∃mA,h.Ns1 dx mA/\(∀f,p6 (fs.lookup f) (mA f))/\PySem.Within mA (fs.map (·.1))
 | .own _=>∃o,h.get? a=some o
 | .xd fs=>∃mA,h.Ns1 a mA /\ ∀f,p6 (fs.lookup f) (mA f)
 | .Rf lo hi=>∃t u v,h.get? a=some { cls:=.type "range",data:=.fields #[.int lo t,.int hi u,.int 1 v] }
 | .Mi o u=>h.get? a=some o/\bI H h a u
 | .Ld ps=>h.get? a=some { cls:=.none,data:=.fields ps }
 | .met f x=>h.get? a=some (PySem.W.methodObj (.ref f) (.ref x))
 | .ext φ=>φ h/\(∃o,h.get? a=some o) /\ ∀h1 h2:Heap,φ h1->(∀o,h1.get? a=some o->h2.get? a=some o)->φ h2
def Lf(H:Hp)(h:Heap):Prop:=∀a o,H a=some o->bI P w H h a o
end
section
variable{P:Program}{w:World}{H H':Hp}{h h':Heap}{a:Addr}{o:HO}
theorem bI.lt(x:bI P w H h a o):a<h.objs.size:=by
 cases o with
 | lst xs=>obtain⟨_,_,_,_,e⟩:=x;exact Heap.lt_size e
 | tup xs=>obtain⟨_,_,_,p⟩:=x;exact p.lt
 | dK kvs=>obtain⟨_,_,_,_,o,_,_,e,_⟩:=x;exact Heap.lt_size e
 | dT kvs=>obtain⟨_,_,_,_,o,_,_,e,_⟩:=x;exact Heap.lt_size e
 | set S n=>obtain⟨o,_,_,_,e,_⟩:=x;exact Heap.lt_size e
 | ins C dx fs=>obtain⟨_,_,_,e,_⟩:=x;exact Heap.lt_size e
 | own y=>obtain⟨_,e⟩:=x;exact Heap.lt_size e
 | xd fs=>obtain⟨_,⟨_,_,_,e,_⟩,_⟩:=x;exact Heap.lt_size e
 | Rf lo hi=>obtain⟨_,_,_,e⟩:=x;exact Heap.lt_size e
 | Mi ob u=>obtain⟨e,_⟩:=x;exact Heap.lt_size e
 | Ld ps=>exact Heap.lt_size (show h.get? a=some _ from x)
 | met f y=>exact Heap.lt_size (show h.get? a=some _ from x)
 | ext φ=>obtain⟨_,⟨_,e⟩,_⟩:=x;exact Heap.lt_size e
theorem Paired.mapP{α β:Type}{F G:α->β->Prop}:∀{l₁:List α}{l₂:List β},Paired F l₁ l₂->(∀a b,F a b->G a b)->Paired G l₁ l₂
 | _,_,.nil,_=>.nil
 | _,_,.cons r t,f=>.cons (f _ _ r) (Paired.mapP t f)
theorem bI.stay(x:bI P w H h a o)(k:∀b u,(b=a\/H b=some (.own a))->h.get? b=some u->h'.get? b=some u)
  (ho:∀b,H b=some (.own a)->H' b=some (.own a))(ht:∀b xs,H b=some (.tup xs)->H' b=some (.tup xs)):bI P w H' h' a o:=by
 induction o with
 | lst xs=>obtain⟨z,its,n,r,e⟩:=x;exact⟨z,its,n,r,k _ _ (.inl rfl) e⟩
 | tup xs=>obtain⟨z,its,r,ob,e,c⟩:=x;exact⟨z,its,r,ob,k _ _ (.inl rfl) e,c⟩
 | dK kvs=>obtain⟨z,y,vs,r,ob,es,ep,e,c⟩:=x;exact⟨z,y,vs,r,ob,es,ep,k _ _ (.inl rfl) e,c⟩
 | dT kvs =>
  obtain⟨z,y,xs,r,ob,es,ep,e,c⟩:=x;exact⟨z,y,xs,Paired.mapP r λp q z=>⟨z.1,ht _ _ z.2.1,z.2.2⟩,ob,es,ep,k _ _ (.inl rfl) e,c⟩
 | set S n=>obtain⟨ob,es,ep,t,e,c⟩:=x;exact⟨ob,es,ep,t,k _ _ (.inl rfl) e,c⟩
 | ins C dx fs =>
  obtain⟨d,z,ne,e,mA,⟨od,es,ep,e2,c⟩,r⟩:=x;exact⟨ho _ d,z,ne,k _ _ (.inl rfl) e,mA,⟨od,es,ep,k _ _ (.inr d) e2,c⟩,r⟩
 | own y=>obtain⟨ob,e⟩:=x;exact⟨ob,k _ _ (.inl rfl) e⟩
 | xd fs=>obtain⟨mA,⟨od,es,ep,e,c⟩,r⟩:=x;exact⟨mA,⟨od,es,ep,k _ _ (.inl rfl) e,c⟩,r⟩
 | Rf lo hi=>obtain⟨t,u,v,e⟩:=x;exact⟨t,u,v,k _ _ (.inl rfl) e⟩
 | Mi ob u ih=>obtain⟨e,q⟩:=x;exact⟨k _ _ (.inl rfl) e,ih q⟩
 | Ld ps =>
  have e:h.get? a=some { cls:=.none,data:=.fields ps }:=x;show h'.get? a=some { cls:=.none,data:=.fields ps };exact k a _ (.inl rfl) e
 | met f y =>
  have e:h.get? a=some (PySem.W.methodObj (.ref f) (.ref y)):=x;show h'.get? a=some (PySem.W.methodObj (.ref f) (.ref y));exact k a _ (.inl rfl) e
 | ext φ=>obtain⟨p,⟨o,e⟩,st⟩:=x;exact⟨st _ _ p λo q=>k _ _ (.inl rfl) q,⟨o,k _ _ (.inl rfl) e⟩,st⟩
theorem Lf.lt(x:Lf P w H h)(e:H a=some o):a<h.objs.size:=(x a o e).lt
theorem Lf.fresh(x:Lf P w H h)(e:h.objs.size<=a):H a=none:=by
 cases q:H a with
 | none=>rfl
 | some u=>exact absurd (aaf (x.lt q) e) (aaZ _)
theorem Lf.kept(x:Lf P w H h)(k:∀b u,h.get? b=some u->h'.get? b=some u):Lf P w H h':=λa o e =>
 (x a o e).stay (λb u _ q=>k b u q) (λ_ q=>q) λ_ _ q=>q
theorem Lf.laid(x:Lf P w H h)(k:∀b u,h.get? b=some u->h'.get? b=some u)(hp:h.objs.size<=a)(new:bI P w (upd H a o) h' a o):Lf P w (upd H a o) h':=λb u e=>by
 have hn:=x.fresh hp;by_cases hb:b=a
 ·subst hb;rw[aq]at e;cases e;exact new
 ·rw[aD hb]at e;exact(x b u e).stay (λc v _ q=>k c v q) (λc q=>by rw[aD (aB q hn)];exact q) λc xs q=>by rw[aD (aB q hn)];exact q
end
def Rd(H:Hp)(a:Addr)(u:HO):Prop:=H a=some u \/ ∃o,H a=some (.Mi o u)
theorem Rd.ok{P:Program}{w:World}{H:Hp}{h:Heap}{a:Addr}{u:HO}(r:Rd H a u)(x:Lf P w H h):bI P w H h a u:=by
 rcases r with r|⟨o,r⟩
 ·exact x a u r
 ·obtain⟨_,q⟩:=x a _ r;exact q
def Qo:Option HO->Prop
 | some (.lst _)=>True
 | some (.dK _)=>True
 | some (.dT _)=>True
 | some (.set _ _)=>True
 | some (.ins _ _ _)=>True
 | some (.ext _)=>True
 | _=>False
section
variable{P:Program}{w:World}{H:Hp}{h h':Heap}{x e:Addr}{o':HO}
theorem Lf.write(ok:Lf P w H h)(mu:Qo (H x))(he:e=x\/H e=some (.own x))(k:∀b u,b≠e->h.get? b=some u->h'.get? b=some u)(heo:∃u,h'.get? e=some u)
  (new:bI P w (upd H x o') h' x o'):Lf P w (upd H x o') h':=λb u q=>by
 have nown:∀c y,H c=some (.own y)->c≠x:=λc y r z=>by subst z;rw[r]at mu;exact mu
 have ntup:∀c xs,H c=some (.tup xs)->c≠x:=λc xs r z=>by subst z;rw[r]at mu;exact mu
 by_cases hb:b=x
 ·subst hb;rw[aq]at q;cases q;exact new
 ·rw[aD hb]at q;by_cases hbe:b=e
  ·have q':H b=some (.own x):=by
    rcases he with z|z
    ·exact absurd (hbe.trans z) hb
    ·rw[hbe];exact z
   rw[q]at q';cases q';obtain⟨v,hv⟩:=heo;exact⟨v,by rw[hbe];exact hv⟩
  ·refine(ok b u q).stay (λc v hc r=>k c v ?_ r) (λc r=>by rw[aD (nown c b r)];exact r) λc xs r=>by rw[aD (ntup c xs r)];exact r
   rcases hc with rfl|hc
   ·exact hbe
   ·rintro rfl;rcases he with z|z
    ·exact nown c b hc z
    ·rw[hc]at z;cases z;exact hb rfl
end
structure Un(fs ex:List Addr)(H H':Hp)(h h':Heap):Prop where
 keep:∀b o,h.get? b=some o->H b=none->b∉fs->b∉ex->h'.get? b=some o
 slot:∀b o,h.get? b=some o->H b=none->b∈fs->b∉ex -> ∃sl,h'.get? b=some { o with slots:=sl }
 free:∀b o,h.get? b=some o->H b=none->b∉ex->H' b=none
 there:∀b o,h.get? b=some o->b∉ex -> ∃o',h'.get? b=some o'
 tups:∀b xs,H b=some (.tup xs)->H' b=some (.tup xs)
 frzs:∀b o u,H b=some (.Mi o u)->H' b=some (.Mi o u)
 tbls:∀b ps,H b=some (.Ld ps) -> ∃more,H' b=some (.Ld (ps++more))
section
variable{fs fs' ex ex':List Addr}{H H1 H2:Hp}{h h1 h2 h':Heap}{a x e:Addr}{o:HO}
theorem Un.any(u:Un fs ex H H1 h h1){b:Addr}{ob:Obj}(q:h.get? b=some ob)(n:H b=none)(hx:b∉ex):∃sl,h1.get? b=some { ob with slots:=sl }:=by
 by_cases hb:b∈fs
 ·exact u.slot b ob q n hb hx
 ·exact⟨ob.slots,u.keep b ob q n hb hx⟩
theorem Un.trans(a:Un fs ex H H1 h h1)(b:Un fs ex H1 H2 h1 h2):Un fs ex H H2 h h2 where
 keep:=λc ob q n hc hx=>b.keep c ob (a.keep c ob q n hc hx) (a.free c ob q n hx) hc hx
 slot:=λc ob q n hc hx=>by
  obtain⟨sl,e1⟩:=a.slot c ob q n hc hx;obtain⟨sl',e2⟩:=b.slot c _ e1 (a.free c ob q n hx) hc hx;exact⟨sl',e2⟩
 free:=λc ob q n hx=>by
  obtain⟨o',e1⟩:=a.there c ob q hx;exact b.free c o' e1 (a.free c ob q n hx) hx
 there:=λc ob q hx=>by
  obtain⟨o',e1⟩:=a.there c ob q hx;exact b.there c o' e1 hx
 tups:=λc xs q=>b.tups c xs (a.tups c xs q)
 frzs:=λc ob xs q=>b.frzs c ob xs (a.frzs c ob xs q)
 tbls:=λc ps q=>by
  obtain⟨m1,e1⟩:=a.tbls c ps q;obtain⟨m2,e2⟩:=b.tbls c _ e1;exact⟨m1++m2,by rw[e2,acH]⟩
theorem Un.kept(k:∀b u,h.get? b=some u->h'.get? b=some u):Un fs ex H H h h':=
 ⟨λb ob q _ _ _=>k b ob q,λb ob q _ _ _=>⟨ob.slots,k b ob q⟩,λ_ _ _ n _=>n,λb ob q _=>⟨ob,k b ob q⟩,λ_ _ q=>q,λ_ _ _ q=>q,λ_ ps q=>⟨#[],by rw[q];simp⟩⟩
theorem Un.refl:Un fs ex H H h h:=Un.kept λ_ _ q=>q
theorem Un.laid(k:∀b u,h.get? b=some u->h'.get? b=some u)(hp:h.objs.size<=a)(hn:H a=none):Un fs ex H (upd H a o) h h' where
 keep:=λb u q _ _ _=>k b u q
 slot:=λb u q _ _ _=>⟨u.slots,k b u q⟩
 free:=λb u q n _=>by rw[aD (aak (aaf (Heap.lt_size q) hp))];exact n
 there:=λb u q _=>⟨u,k b u q⟩
 tups:=λb xs q=>by rw[aD (aB q hn)];exact q
 frzs:=λb u xs q=>by rw[aD (aB q hn)];exact q
 tbls:=λb ps q=>⟨#[],by rw[aD (aB q hn),q];simp⟩
theorem Un.write(mu:Qo (H x))(he:e=x\/H e=some (.own x))(k:∀b u,b≠e->h.get? b=some u->h'.get? b=some u)(heo:∃u,h'.get? e=some u):Un fs ex H (upd H x o) h h':=by
 have hx:∀b,H b=none->b≠x:=λb n z=>by subst z;rw[n]at mu;exact mu
 have hb:∀b,H b=none->b≠e:=λb n z=>by
  subst z;rcases he with r|r
  ·exact hx b n r
  ·rw[n]at r;cases r
 have hm:∀b u,H b=some u -> ¬Qo (some u)->b≠x:=λb u q nm z=>by subst z;rw[q]at mu;exact nm mu
 refine⟨λb u q n _ _=>k b u (hb b n) q,λb u q n _ _=>⟨u.slots,k b u (hb b n) q⟩,λb u q n _=>by rw[aD (hx b n)];exact n,λb u q _=>?_,
  λb xs q=>by rw[aD (hm b _ q λz=>z)];exact q,λb u xs q=>by rw[aD (hm b _ q λz=>z)];exact q,λb ps q=>⟨#[],by rw[aD (hm b _ q λz=>z),q];simp⟩⟩
 by_cases hbe:b=e
 ·subst hbe;exact heo
 ·exact⟨u,k b u hbe q⟩
end
def Nr(h:Heap)(H:Hp):List Addr:=(aaO h.objs.size).filter λa=>(H a).isSome
def qF(h:Heap)(H:Hp):Heap:=PySem.W.hideAll h (Nr h H)
theorem Cz(h:Heap)(H:Hp):(qF h H).objs.size=h.objs.size:=PySem.W.hideAll_size _ _
theorem CV{h:Heap}{H:Hp}{b:Addr}{o:Obj}(e:h.get? b=some o)(n:H b=none):(qF h H).get? b=some o:=
 PySem.W.hideAll_get _ e λhm=>by
  have q:(H b).isSome=true:=(aaY.mp hm).2;rw[n]at q;simp at q
theorem Gk{h:Heap}{H:Hp}{b:Addr}{o:Obj}(e:(qF h H).get? b=some o):h.get? b=some o/\H b=none:=by
 have e':h.get? b=some o:=PySem.W.of_hideAll (Nr h H) e;refine⟨e',?_⟩;cases q:H b with
 | none=>rfl
 | some x =>
  have hm:b∈Nr h H:=aaY.mpr ⟨ach.mpr (Heap.lt_size e'),by simp[q]⟩;have z:(qF h H).get? b=none:=PySem.W.hideAll_none (Nr h H) hm;rw[z]at e;cases e
def FN(g h:Heap)(L:Addr):List (Addr×Obj):=(aaO h.objs.size).filterMap λa=>if a=L\/(g.get? a).isSome=true then none else (h.get? a).map λo=>(a,o)
def rest(g h:Heap)(L d:Addr):List (Addr×Obj):=(FN g h L).filter λp=>decide (p.1≠d)
structure Mod(K:PySem.W.Frag)(mg:Str->Option Value)(base:Heap):Prop where
 Qp:K.In base
 glob:base.Ns mainGlobals mg
 blt:∃mb,base.Ns builtinsNs mb /\ ∀x:Str,x ≠ "__name__" -> mb x=bootBuiltins x
 nolimit:base.NoLimit
structure Cx where
 prog:Program
 w:World
 K:PySem.W.Frag
 mg:Str->Option Value
 base:Heap
 A:Around
 N:List Str
 s₀:Shared
 H₀:Hp
 env:Env
 outer:List Env
 stack:List Env
 ex:List Addr
 fn:Str->Bool
 calm:Bool
 pn:List (Addr×Obj)
 xe:Value->Shared->Prop
def frs(l:List Env):List Addr:=l.filterMap (·.frame)
abbrev Cx.fs(X:Cx):List Addr:=frs X.outer
def Rg(sc:Scope)(x:Str):Prop:=sc.names.lookup x=some .local\/sc.names.lookup x=some .cell\/sc.names.lookup x=some .free
def Loc(sc:Scope)(x:Str):Prop:=sc.names.lookup x=some .local\/sc.names.lookup x=some .cell
def Look(env:Env)(h:Heap)(m:Str->Option Value)(x:Str)(u:Value):Prop:=
 (env.kindOf x=some .local/\m x=some u)\/((env.kindOf x=some .cell\/env.kindOf x=some .free) /\ ∃c,env.cells.lookup x=some c/\h.IsCell c (some u))
structure Cx.Ok(X:Cx):Prop where
 mod:Mod X.K X.mg X.base
 kind:X.env.scope.kind=.function
 glob:X.env.globals=mainGlobals
 blt:X.env.builtins=builtinsNs
 above:X.s₀.heap.objs.size<=X.env.locals
 inj:∀x y c,X.env.cells.lookup x=some c->X.env.cells.lookup y=some c->x=y
 has:∀x,(X.env.kindOf x=some .cell\/X.env.kindOf x=some .free) -> ∃c,X.env.cells.lookup x=some c
 cab:∀x c,X.fn x=true->X.env.cells.lookup x=some c->X.s₀.heap.objs.size<=c
 hd:X.calm=true->X.A.handled=none
 frames:X.A.frames=some X.stack
 NP:X.stack=X.outer\/(X.stack=X.env::X.outer/\X.env.frame=some X.env.locals)
 Qq:∀b∈X.ex,b≠X.env.locals /\ ∀x c,X.env.cells.lookup x=some c->c≠b
 bs:∀b o,X.base.get? b=some o->X.s₀.heap.get? b=some o/\X.H₀ b=none
 Mv:X.base.objs.size<=X.s₀.heap.objs.size
 noex:∀b o,X.base.get? b=some o->b∉X.ex
 exfs:∀b∈X.ex,b∉X.fs
 funs:X.s₀.heap.FunFrames X.base X.outer
 Nf:∀b∈X.fs,X.H₀ b=none
structure Inv(X:Cx)(π:List (Addr×Obj))(σ:List (Option V))(H:Hp)(s:Shared):Prop where
 ok:X.Ok
 os:s.os=X.s₀.os
 bare:AllBare s.gens
 base:Un X.fs X.ex X.H₀ H X.s₀.heap s.heap
 loc:∃m,s.heap.Ns X.env.locals m /\ ∀(i:Nat) (x:Str) (v:V),X.N[i]?=some x->σ[i]?=some (some v)->Rg X.env.scope x -> ∃u,RelV v u/\Look X.env s.heap m x u
 cell:∀x c,X.env.cells.lookup x=some c -> ∃v,s.heap.IsCell c v
 free:H X.env.locals=none
 freeC:∀x c,X.env.cells.lookup x=some c->H c=none
 pin:∀p∈X.pn++π,s.heap.get? p.1=some p.2/\H p.1=none/\p.1≠X.env.locals/\p.1∉X.fs /\ ∀v,p.2.data ≠ .cell v
 hok:Lf X.prog X.w H s.heap
 len:σ.length=X.N.length
section
variable{X:Cx}{π:List (Addr×Obj)}{σ:List (Option V)}{H H':Hp}{s:Shared}{h':Heap}
theorem Cx.Ok.nofr(ok:X.Ok){b:Addr}{o:Obj}(e:X.base.get? b=some o):b∉X.fs:=λhb=>by
 have:=(ok.funs.mem hb).1;rw[e]at this;cases this
theorem Inv.bs(I:Inv X π σ H s):∀b o,X.base.get? b=some o->s.heap.get? b=some o/\H b=none:=λb o e =>
 ⟨I.base.keep b o (I.ok.bs b o e).1 (I.ok.bs b o e).2 (I.ok.nofr e) (I.ok.noex b o e),I.base.free b o (I.ok.bs b o e).1 (I.ok.bs b o e).2 (I.ok.noex b o e)⟩
theorem Inv.bk(I:Inv X π σ H s):∀b o,X.base.get? b=some o->s.heap.get? b=some o:=λb o e=>(I.bs b o e).1
theorem Inv.mod(I:Inv X π σ H s):Mod X.K X.mg X.base:=I.ok.mod
theorem Inv.Mj(I:Inv X π σ H s):X.K.In s.heap:=I.ok.mod.Qp.keeps I.bk
theorem Inv.lt(I:Inv X π σ H s):X.env.locals<s.heap.objs.size:=let ⟨_,hn,_⟩:=I.loc;hn.lt
theorem Inv.sz(I:Inv X π σ H s):X.s₀.heap.objs.size<=s.heap.objs.size:=aaS I.ok.above (aba I.lt)
theorem Inv.nofs(I:Inv X π σ H s){a:Addr}(h:s.heap.objs.size<=a):a∉X.fs:=λhb=>by
 obtain⟨_,o,ho,_⟩:=I.ok.funs.mem hb;exact absurd (aaf (Heap.lt_size ho) (aaS I.sz h)) (aaZ _)
theorem Inv.O7(I:Inv X π σ H s):∀x c,X.env.cells.lookup x=some c->c≠X.env.locals:=λx c e z=>by
 obtain⟨v,o,ho,hd⟩:=I.cell x c e;obtain⟨m,⟨o',es,ep,ho',hd',_⟩,_⟩:=I.loc;rw[z,ho']at ho;cases ho;rw[hd']at hd;cases hd
theorem Inv.funs(I:Inv X π σ H s):s.heap.FunFrames X.base X.outer:=by
 have all:∀(l:List Env),(∀b∈frs l,b∈X.fs)->X.s₀.heap.FunFrames X.base l->s.heap.FunFrames X.base l:=by
  intro l
  induction l with
  | nil=>intro _ _;trivial
  | cons env r ih =>
   intro hs hl;obtain⟨hk,⟨L,o,hf,hn,ho,hd⟩,hr⟩:=hl;have hL:L∈X.fs:=hs L (by unfold frs;rw[abO,hf];exact aay);obtain⟨sl,e⟩:=I.base.slot L o ho (I.ok.Nf L hL) hL λz=>I.ok.exfs L z hL;exact⟨hk,⟨L,_,hf,hn,e,hd⟩,ih (λb hb=>hs b (by unfold frs;rw[abO,hf];exact aaw _ hb)) hr⟩
 exact all X.outer (λ_ hb=>hb) I.ok.funs
theorem Inv.stack(I:Inv X π σ H s):s.heap.FunFrames X.base X.stack:=by
 rcases I.ok.NP with e|⟨e,hf⟩
 ·rw[e];exact I.funs
 ·rw[e];obtain⟨m,hn,_⟩:=I.loc;refine .cons (by rw[I.ok.kind];decide) hf hn ?_ I.funs;exact Heap.get?_none_of_le (aaS I.ok.Mv I.ok.above)
theorem Inv.stkSub(I:Inv X π σ H s):∀b∈frs X.stack,b∈X.env.locals::X.fs:=λb hb=>by
 rcases I.ok.NP with e|⟨e,hf⟩
 ·rw[e]at hb;exact aaw _ hb
 ·rw[e]at hb;unfold frs at hb;rw[abO,hf]at hb;exact hb
theorem Inv.stkFree(I:Inv X π σ H s):∀b∈frs X.stack,H b=none:=λb hb=>by
 rcases aaA.mp (I.stkSub b hb)with e|hb
 ·rw[e];exact I.free
 ·obtain⟨_,o,ho,_⟩:=I.ok.funs.mem hb;exact I.base.free b o ho (I.ok.Nf b hb) λz=>I.ok.exfs b z hb
theorem Inv.step{g':Array GenState}{t':Nat}{d':Drawn}{ch:List Addr}(I:Inv X π σ H s)
  (hch:∀b∈ch,(b∈X.ex\/X.s₀.heap.objs.size<=b)/\b≠X.env.locals/\(∀x c,X.env.cells.lookup x=some c->c≠b) /\ ∀p∈X.pn++π,p.1≠b)
  (keep:∀b o,b≠X.env.locals->b∉X.fs->b∉ch->s.heap.get? b=some o->H b=none->h'.get? b=some o)
  (slot:∀b o,b≠X.env.locals->b∈X.fs->b∉ch->s.heap.get? b=some o->H b=none -> ∃sl,h'.get? b=some { o with slots:=sl })(free:∀b o,b∉ch->s.heap.get? b=some o->H b=none->H' b=none)
  (there:∀b o,b∉ch->s.heap.get? b=some o -> ∃o',h'.get? b=some o')
  (tups:∀b xs,H b=some (.tup xs)->H' b=some (.tup xs))(frzs:∀b o u,H b=some (.Mi o u)->H' b=some (.Mi o u))(tbls:∀b ps,H b=some (.Ld ps) -> ∃more,H' b=some (.Ld (ps++more)))
  (ns:∀m,s.heap.Ns X.env.locals m->h'.Ns X.env.locals m)(hok:Lf X.prog X.w H' h')(hg:AllBare g'):
  Inv X π σ H' { s with heap:=h',gens:=g',drawn:=d',toks:=t' }:=by
 have Vo:∀b o,X.s₀.heap.get? b=some o->b≠X.env.locals:=λb o e=>aak (aaf (Heap.lt_size e) I.ok.above);have Rh:∀b o,X.s₀.heap.get? b=some o->b∉X.ex->b∉ch:=λb o e hx hb=>by
  rcases(hch b hb).1 with z|z
  ·exact hx z
  ·exact absurd (aaf (Heap.lt_size e) z) (aaZ _)
 have cellK:∀x c,X.env.cells.lookup x=some c -> ∀v,s.heap.IsCell c v->h'.IsCell c v:=λx c e v ⟨o,ho,hd⟩=>by
  have Qs:c∉ch:=λz=>(hch c z).2.2.1 x c e rfl;by_cases hc:c∈X.fs
  ·obtain⟨sl,q⟩:=slot c o (I.O7 x c e) hc Qs ho (I.freeC x c e);exact⟨_,q,hd⟩
  ·exact⟨o,keep c o (I.O7 x c e) hc Qs ho (I.freeC x c e),hd⟩
 refine⟨I.ok,I.os,hg,⟨λb o e n hb hx=>?_,λb o e n hb hx=>?_,λb o e n hx=>?_,λb o e hx=>?_,λb xs e=>tups b xs (I.base.tups b xs e),λb o xs e=>frzs b o xs (I.base.frzs b o xs e),λb ps e=>?_⟩,?_,λx c e=>?_,?_,λx c e=>?_,λp hp=>?_,hok,I.len⟩
 ·exact keep b o (Vo b o e) hb (Rh b o e hx) (I.base.keep b o e n hb hx) (I.base.free b o e n hx)
 ·obtain⟨sl,e1⟩:=I.base.slot b o e n hb hx;obtain⟨sl',e2⟩:=slot b _ (Vo b o e) hb (Rh b o e hx) e1 (I.base.free b o e n hx);exact⟨sl',e2⟩
 ·obtain⟨o',e1⟩:=I.base.there b o e hx;exact free b o' (Rh b o e hx) e1 (I.base.free b o e n hx)
 ·obtain⟨o',e1⟩:=I.base.there b o e hx;exact there b o' (Rh b o e hx) e1
 ·obtain⟨m1,e1⟩:=I.base.tbls b ps e;obtain⟨m2,e2⟩:=tbls b _ e1;exact⟨m1++m2,by rw[e2,acH]⟩
 ·obtain⟨m,hn,hl⟩:=I.loc;refine⟨m,ns m hn,λi x v e1 e2 e3=>?_⟩;obtain⟨u,r,l⟩:=hl i x v e1 e2 e3;refine⟨u,r,?_⟩;rcases l with l|⟨k,c,e,z⟩
  ·exact .inl l
  ·exact .inr ⟨k,c,e,cellK x c e _ z⟩
 ·obtain⟨v,z⟩:=I.cell x c e;exact⟨v,cellK x c e v z⟩
 ·obtain⟨m,⟨o,_,_,ho,_⟩,_⟩:=I.loc;exact free _ o (λz=>(hch _ z).2.1 rfl) ho I.free
 ·obtain⟨v,o,ho,hd⟩:=I.cell x c e;exact free c o (λz=>(hch c z).2.2.1 x c e rfl) ho (I.freeC x c e)
 ·obtain⟨e,n,ne,nf,d⟩:=I.pin p hp;have Qs:p.1∉ch:=λz=>(hch p.1 z).2.2.2 p hp rfl;exact⟨keep p.1 p.2 ne nf Qs e n,free p.1 p.2 Qs e n,ne,nf,d⟩
theorem Inv.un{t':Nat}(I:Inv X π σ H s)(u:Un X.fs [] H H' s.heap h')(hok:Lf X.prog X.w H' h'):Inv X π σ H' { s with heap:=h',toks:=t' }:=by
 obtain⟨m,⟨o,es,ep,ho,r⟩,_⟩:=id I.loc;obtain⟨sl,hL⟩:=u.any ho I.free (by simp);exact I.step (g':=s.gens) (d':=s.drawn) (ch:=[]) (λ_ z=>nomatch z) (λb o _ hb _ e n=>u.keep b o e n hb (by simp)) (λb o _ hb _ e n=>u.slot b o e n hb (by simp)) (λb o _ e n=>u.free b o e n (by simp)) (λb o _ e=>u.there b o e (by simp)) u.tups u.frzs u.tbls (λm' hm=>by
  obtain⟨o',es',ep',ho',r'⟩:=hm;rw[ho]at ho';cases ho';exact⟨_,es',ep',hL,r'⟩) hok I.bare
theorem Inv.call{g':Array GenState}{t':Nat}{d':Drawn}{ch:List Addr}(I:Inv X π σ H s)(u:Un (frs X.stack) ch H H' s.heap h')(hok:Lf X.prog X.w H' h')(hg:AllBare g')
  (hch:∀b∈ch,(b∈X.ex\/X.s₀.heap.objs.size<=b)/\b≠X.env.locals/\(∀x c,X.env.cells.lookup x=some c->c≠b) /\ ∀p∈X.pn++π,p.1≠b):
  Inv X π σ H' { s with heap:=h',gens:=g',drawn:=d',toks:=t' }:=by
 obtain⟨m,⟨o,es,ep,ho,r⟩,_⟩:=id I.loc;obtain⟨sl,hL⟩:=u.any ho I.free λz=>(hch _ z).2.1 rfl;exact I.step (ch:=ch) hch (λb o hL hb hc e n=>u.keep b o e n (λz=>(aaA.mp (I.stkSub b z)).elim hL hb) hc) (λb o _ _ hc e n=>u.any e n hc) (λb o hc e n=>u.free b o e n hc) (λb o hc e=>u.there b o e hc) u.tups u.frzs u.tbls (λm' hm=>by
  obtain⟨o',es',ep',ho',r'⟩:=hm;rw[ho]at ho';cases ho';exact⟨_,es',ep',hL,r'⟩) hok hg
theorem Inv.turned{t':Nat}{it:Addr}(I:Inv X π σ H s)(k:∀b o,b≠it->s.heap.get? b=some o->h'.get? b=some o)(hn:H it=none)(hL:it≠X.env.locals)
  (h1:it∈X.ex\/X.s₀.heap.objs.size<=it)(h2:∀x c,X.env.cells.lookup x=some c->c≠it)(h3:∀p∈X.pn++π,p.1≠it):Inv X π σ H { s with heap:=h',toks:=t' }:=by
 have Vp:∀b u,H b=some u->b≠it:=λb u e z=>by rw[z,hn]at e;cases e
 refine I.step (g':=s.gens) (d':=s.drawn) (ch:=[it]) (λb hb=>?_) (λb o _ _ hc e _=>k b o (λz=>hc (by simp[z])) e) (λb o _ _ hc e _=>⟨o.slots,k b o (λz=>hc (by simp[z])) e⟩) (λ_ _ _ _ n=>n)
  (λb o hc e=>⟨o,k b o (λz=>hc (by simp[z])) e⟩) (λ_ _ e=>e) (λ_ _ _ e=>e) (λb ps e=>⟨#[],by rw[e];simp⟩) (λm hm=>?_) (λb u e=>?_) I.bare
 ·have e:b=it:=by simpa using hb
  subst e;exact⟨h1,hL,h2,h3⟩
 ·obtain⟨o,es,ep,ho,r⟩:=hm;exact⟨o,es,ep,k _ o (abg hL) ho,r⟩
 ·refine(I.hok b u e).stay (λc v hc q=>k c v ?_ q) (λ_ q=>q) λ_ _ q=>q;rcases hc with z|z
  ·rw[z];exact Vp b u e
  ·exact Vp c _ z
theorem Inv.tok(I:Inv X π σ H s)(t:Nat):Inv X π σ H { s with toks:=t }:=I.un (h':=s.heap) (t':=t) Un.refl I.hok
theorem Inv.kept{t':Nat}(I:Inv X π σ H s)(k:∀b u,s.heap.get? b=some u->h'.get? b=some u):Inv X π σ H { s with heap:=h',toks:=t' }:=I.un (Un.kept k) (I.hok.kept k)
theorem Inv.laid{a:Addr}{o:HO}{t':Nat}(I:Inv X π σ H s)(k:∀b u,s.heap.get? b=some u->h'.get? b=some u)(hp:s.heap.objs.size<=a)(new:bI X.prog X.w (upd H a o) h' a o):
  Inv X π σ (upd H a o) { s with heap:=h',toks:=t' }:=I.un (Un.laid k hp (I.hok.fresh hp)) (I.hok.laid k hp new)
theorem Inv.write{x e:Addr}{o:HO}{t':Nat}(I:Inv X π σ H s)(mu:Qo (H x))(he:e=x\/H e=some (.own x))(k:∀b u,b≠e->s.heap.get? b=some u->h'.get? b=some u)(heo:∃u,h'.get? e=some u)
  (new:bI X.prog X.w (upd H x o) h' x o):Inv X π σ (upd H x o) { s with heap:=h',toks:=t' }:=I.un (Un.write mu he k heo) (I.hok.write mu he k heo new)
theorem Inv.pins_of{pins':List (Addr×Obj)}(I:Inv X π σ H s)(h:∀p∈pins',s.heap.get? p.1=some p.2/\H p.1=none/\p.1≠X.env.locals/\p.1∉X.fs /\ ∀v,p.2.data ≠ .cell v):Inv X pins' σ H s:=
 ⟨I.ok,I.os,I.bare,I.base,I.loc,I.cell,I.free,I.freeC,λp hp=>(aaK.mp hp).elim (λz=>I.pin p (aa0 _ z)) (h p),I.hok,I.len⟩
theorem wO{N:List Str}(hN:N.Nodup){i j:Nat}{x:Str}(a:N[i]?=some x)(b:N[j]?=some x):i=j:=by
 obtain⟨h1,e1⟩:=aab.mp a;obtain⟨h2,e2⟩:=aab.mp b;exact(List.getElem_inj hN).mp (e1.trans e2.symm)
theorem oE{M:Model}{A:Around}{E:Value->Shared->Prop}{i:Nat}{x:Str}{v:V}{u:Value}{Q:Unit->Shared->Prop}(I:Inv X π σ H s)(hN:X.N.Nodup)(hi:X.N[i]?=some x)(hx:Loc X.env.scope x)(r:RelV v u)
  (h:∀s',Inv X π (σ.set i (some v)) H s'->(∃a,Heap.SameBut a s.heap s'.heap/\(a=X.env.locals\/X.env.cells.lookup x=some a))->Q () s')(hf:X.fn x=true\/X.env.scope.names.lookup x=some .local:=by first|exact .inl rfl|exact .inr rfl|assumption):wpAny M A (storeName X.env x u) Q E s:=by
 obtain⟨m,hn,hl⟩:=id I.loc;have hcls:(X.env.scope.kind == .class || (X.env.scope.kind == .module && X.env.locals != X.env.globals))=false:=by rw[I.ok.kind];rfl
 have Ri:i<σ.length:=by rw[I.len];exact(aab.mp hi).1
 have O7:=I.O7;have tracked:∀{a:Addr}{h':Heap},(∃o,s.heap.get? a=some o/\H a=none)->Heap.SameBut a s.heap h'->Lf X.prog X.w H h':=λ{a h'} ha hs b ob e=>by
  obtain⟨_,_,hfree⟩:=ha;refine(I.hok b ob e).stay (λc w' hc q=>(hs.2 c ?_).trans q) (λ_ q=>q) λ_ _ q=>q;rintro rfl;rcases hc with rfl|hc
  ·rw[hfree]at e;cases e
  ·rw[hfree]at hc;cases hc
 rcases hx with hk|hk
 ·refine wpAny_storeName_local hk hn (λh' hn' hs=>?_) hcls;obtain⟨oL,_,_,hoL,_⟩:=id hn;refine h _ ⟨I.ok,I.os,I.bare,⟨λb o e n hb hx=>?_,λb o e n hb hx=>?_,I.base.free,λb o e hx=>?_,I.base.tups,I.base.frzs,I.base.tbls⟩,⟨_,hn',λj y v' e1 e2 e3=>?_⟩,λy c e=>?_,I.free,I.freeC,λp hp=>?_,tracked ⟨oL,hoL,I.free⟩ hs,by simpa using I.len⟩ ⟨_,hs,.inl rfl⟩
  ·exact(hs.2 b (aak (aaf (Heap.lt_size e) I.ok.above))).trans (I.base.keep b o e n hb hx)
  ·obtain⟨sl,e1⟩:=I.base.slot b o e n hb hx;exact⟨sl,(hs.2 b (aak (aaf (Heap.lt_size e) I.ok.above))).trans e1⟩
  ·obtain⟨o',e1⟩:=I.base.there b o e hx;exact⟨o',(hs.2 b (aak (aaf (Heap.lt_size e) I.ok.above))).trans e1⟩
  ·by_cases hj:j=i
   ·subst hj;rw[hi]at e1;cases e1;rw[acq Ri]at e2;cases e2;exact⟨u,r,.inl ⟨hk,by simp⟩⟩
   ·rw[acx (abg hj)]at e2;obtain⟨u',r',q⟩:=hl j y v' e1 e2 e3;refine⟨u',r',?_⟩;rcases q with ⟨k,e⟩|⟨k,c,e,z⟩
    ·refine .inl ⟨k,?_⟩;have:y≠x:=λe=>hj (wO hN e1 (e ▸ hi));simp[this,e]
    ·exact .inr ⟨k,c,e,z.sameBut hs (O7 y c e)⟩
  ·obtain⟨w',z⟩:=I.cell y c e;exact⟨w',z.sameBut hs (O7 y c e)⟩
  ·obtain⟨e,n,ne,nf,d⟩:=I.pin p hp;exact⟨(hs.2 p.1 ne).trans e,n,ne,nf,d⟩
 ·have hfn:X.fn x=true:=by
   rcases hf with z|z
   ·exact z
   ·rw[z]at hk;cases hk
  obtain⟨c,hc⟩:=I.ok.has x (.inl hk);obtain⟨w',z⟩:=I.cell x c hc;refine wpAny_storeName_cell I.ok.kind hk hc z (λh' hc' hs=>?_);obtain⟨oc,hoc,hocd⟩:=id z;refine h { s with heap:=h' } ⟨I.ok,I.os,I.bare,⟨λb o e n hb hx=>?_,λb o e n hb hx=>?_,I.base.free,λb o e hx=>?_,I.base.tups,I.base.frzs,I.base.tbls⟩,⟨m,hn.sameBut hs (abg (O7 x c hc)),λj y v' e1 e2 e3=>?_⟩,λy c' e=>?_,I.free,I.freeC,λp hp=>?_,tracked ⟨oc,hoc,I.freeC x c hc⟩ hs,by simpa using I.len⟩ ⟨c,hs,.inr hc⟩
  ·exact(hs.2 b (aak (aaf (Heap.lt_size e) (I.ok.cab x c hfn hc)))).trans (I.base.keep b o e n hb hx)
  ·obtain⟨sl,e1⟩:=I.base.slot b o e n hb hx;exact⟨sl,(hs.2 b (aak (aaf (Heap.lt_size e) (I.ok.cab x c hfn hc)))).trans e1⟩
  ·obtain⟨o',e1⟩:=I.base.there b o e hx;exact⟨o',(hs.2 b (aak (aaf (Heap.lt_size e) (I.ok.cab x c hfn hc)))).trans e1⟩
  ·by_cases hj:j=i
   ·subst hj;rw[hi]at e1;cases e1;rw[acq Ri]at e2;cases e2;exact⟨u,r,.inr ⟨.inl hk,c,hc,hc'⟩⟩
   ·rw[acx (abg hj)]at e2;obtain⟨u',r',q⟩:=hl j y v' e1 e2 e3;refine⟨u',r',?_⟩;rcases q with q|⟨k,c',e,z'⟩
    ·exact .inl q
    ·refine .inr ⟨k,c',e,z'.sameBut hs ?_⟩;rintro rfl;exact hj (wO hN e1 (I.ok.inj _ _ _ e hc ▸ hi))
  ·by_cases hcc:c'=c
   ·subst hcc;exact⟨_,hc'⟩
   ·obtain⟨w2,z2⟩:=I.cell y c' e;exact⟨w2,z2.sameBut hs hcc⟩
  ·obtain⟨e,n,ne,nf,d⟩:=I.pin p hp;refine⟨(hs.2 p.1 ?_).trans e,n,ne,nf,d⟩;intro q;rw[q,hoc]at e;have q':oc=p.2:=aax e;exact d w' (by rw[<-q'];exact hocd)
theorem jL{M:Model}{A:Around}{E:Value->Shared->Prop}{i:Nat}{x:Str}{v:V}{u:Value}{Q:Unit->Shared->Prop}(I:Inv X π σ H s)(hN:X.N.Nodup)(hi:X.N[i]?=some x)(hx:Loc X.env.scope x)(r:RelV v u)
  (h:∀s',Inv X π (σ.set i (some v)) H s'->Q () s')(hf:X.fn x=true\/X.env.scope.names.lookup x=some .local:=by first|exact .inl rfl|exact .inr rfl|assumption):wpAny M A (storeName X.env x u) Q E s:=
 oE I hN hi hx r (λs' I' _=>h s' I') hf
theorem Inv.call'{s':Shared}{ch:List Addr}(I:Inv X π σ H s)(ho:s'.os=s.os)(u:Un (frs X.stack) ch H H' s.heap s'.heap)(hok:Lf X.prog X.w H' s'.heap)(hg:AllBare s'.gens)
  (hch:∀b∈ch,(b∈X.ex\/X.s₀.heap.objs.size<=b)/\b≠X.env.locals/\(∀x c,X.env.cells.lookup x=some c->c≠b) /\ ∀p∈X.pn++π,p.1≠b):Inv X π σ H' s':=by
 obtain⟨h',g',d',t',o'⟩:=s';have e:o'=s.os:=ho;subst e;exact I.call (g':=g') (t':=t') (d':=d') u hok hg hch
end
abbrev XK:=Value->Option Addr->Hp->Prop
abbrev St:=List (Option V)
abbrev VK:=V->Hp->Prop
abbrev TE:=St->Hp->VK->Prop
abbrev TT:=St->Hp->(Bool->Hp->Prop)->Prop
abbrev TA:=St->Hp->(List V->Hp->Prop)->Prop
structure Ends where
 nx:St->Hp->Prop
 rt:VK
 bk:St->Hp->Prop:=λ_ _=>False
 ct:St->Hp->Prop:=λ_ _=>False
abbrev TS:=Ends->St->Hp->Prop
inductive EP(X:Cx)(π:List (Addr×Obj))(σ:St)(Q:VK)(u:Value)(s':Shared):Prop
 | mk (v H':_) (_:Inv X π σ H' s') (_:RelV v u) (_:Q v H')
def TP(X:Cx)(π:List (Addr×Obj))(σ:St)(Q:Bool->Hp->Prop)(b:Bool)(s':Shared):Prop:=∃H',Inv X π σ H' s'/\Q b H'
inductive AP(X:Cx)(π:List (Addr×Obj))(σ:St)(Q:List V->Hp->Prop)(us:List Value)(s':Shared):Prop
 | mk (vs H':_) (_:Inv X π σ H' s') (_:Vals vs us) (_:Q vs H')
def SP(X:Cx)(π:List (Addr×Obj))(D:Ends)(f:Flow)(s':Shared):Prop:=
 match f with
 | .next=>∃σ' H',Inv X π σ' H' s'/\D.nx σ' H'
 | .brk=>∃σ' H',Inv X π σ' H' s'/\D.bk σ' H'
 | .cont=>∃σ' H',Inv X π σ' H' s'/\D.ct σ' H'
 | .ret u=>∃v σ' H',Inv X π σ' H' s'/\RelV v u/\D.rt v H'
def PE(X:Cx)(e:Expr)(t:TE):Prop:=
 ∀(π:List (Addr×Obj)) (s:Shared) (σ:St) (H:Hp) (Q:VK),Inv X π σ H s->t σ H Q->wpAny (model X.prog X.w) X.A (eval e X.env) (EP X π σ Q) X.xe s
def PT(X:Cx)(e:Expr)(t:TT):Prop:=
 ∀(π:List (Addr×Obj)) (s:Shared) (σ:St) (H:Hp) (Q:Bool->Hp->Prop),Inv X π σ H s->t σ H Q->wpAny (model X.prog X.w) X.A (isTrue e X.env (eval e X.env)) (TP X π σ Q) X.xe s
def PW(X:Cx)(e:Expr)(t:TT):Prop:=
 ∀(whole:Sem Value) (π:List (Addr×Obj)) (s:Shared) (σ:St) (H:Hp) (Q:Bool->Hp->Prop),Inv X π σ H s->t σ H Q->wpAny (model X.prog X.w) X.A (isTrue e X.env whole) (TP X π σ Q) X.xe s
theorem PW.pt{X:Cx}{e:Expr}{t:TT}(h:PW X e t):PT X e t:=h _
def PA(X:Cx)(es:List Expr)(t:TA):Prop:=
 ∀(pos:Pos) (π:List (Addr×Obj)) (s:Shared) (σ:St) (H:Hp) (Q:List V->Hp->Prop),Inv X π σ H s->t σ H Q->wpAny (model X.prog X.w) X.A (spliced (backTo pos (starEach es X.env))) (AP X π σ Q) X.xe s
def PS(X:Cx)(st:Stmt)(t:TS):Prop:=
 ∀(π:List (Addr×Obj)) (s:Shared) (σ:St) (H:Hp) (D:Ends),Inv X π σ H s->t D σ H->wpAny (model X.prog X.w) X.A (exec st X.env) (SP X π D) X.xe s
def Ma(X:Cx)(st:List Stmt)(t:TS):Prop:=
 ∀(π:List (Addr×Obj)) (s:Shared) (σ:St) (H:Hp) (D:Ends),Inv X π σ H s->t D σ H->wpAny (model X.prog X.w) X.A (execs st X.env) (SP X π D) X.xe s
theorem K7{α:Type}{t:Sem α}{Q Q':α->Shared->Prop}{M:Model}{A:Around}{E:Value->Shared->Prop}{s:Shared}(h:wpAny M A t Q E s)(hQ:∀a s,Q a s->Q' a s):wpAny M A t Q' E s:=wpAny_mono h hQ λ_ _ x=>x
section
variable{X:Cx}
theorem bin{a b:Expr}{ta tb:TE}(ha:PE X a ta)(hb:PE X b tb){π:List (Addr×Obj)}{s:Shared}{σ:St}{H:Hp}{R:V->V->Hp->Prop}(I:Inv X π σ H s)(h:ta σ H λx H1=>tb σ H1 λy H2=>R x y H2)
  {α:Type}{Q:α->Shared->Prop}{f:Value->Value->Sem α}
  (hf:∀v u s2 x y H2,Inv X π σ H2 s2->RelV x v->RelV y u->R x y H2->wpAny (model X.prog X.w) X.A (f v u) Q X.xe s2):
  wpAny (model X.prog X.w) X.A (eval a X.env) (λv s₁=>wpAny (model X.prog X.w) X.A (eval b X.env) (λu s₂=>wpAny (model X.prog X.w) X.A (f v u) Q X.xe s₂) X.xe s₁) X.xe s:=by
 refine K7 (ha π s σ H _ I h) λv s1 ⟨x,H1,I1,r1,q1⟩=>?_;refine K7 (hb π s1 σ H1 _ I1 q1) λu s2 ⟨y,H2,I2,r2,q2⟩=>?_;exact hf v u s2 x y H2 I2 r1 r2 q2
inductive Jy(i:Nat)(σ:St)(H:Hp)(Q:VK):Prop
 | mk (v:_) (_:σ[i]?=some (some v)) (_:Q v H)
def tC(v:V):TE:=λ_ H Q=>Q v H
theorem yR{i:Nat}{x:Str}{pos:Pos}(hN:X.N[i]?=some x)(hv:Rg X.env.scope x)(hd:(x == ("__debug__" : Str))=false:=by decide)(hcd:(x == ("__classdict__" : Str))=false:=by decide):PE X (.Name x pos) (Jy i):=by
 intro π s σ H Q I h;obtain⟨v,e,h⟩:=h;obtain⟨m,hn,hl⟩:=I.loc;obtain⟨u,r,l⟩:=hl i x v hN e hv;have fin:EP X π σ Q u s:=⟨v,H,I,r,h⟩;rcases l with ⟨hk,hm⟩|⟨hk,c,hc,hcell⟩
 ·exact wpAny_Name (wpAny_loadName_local I.ok.kind hk hn hm fin) hd
 ·rcases hk with hk|hk
  ·exact wpAny_Name (wpAny_loadName_cell I.ok.kind hk hc hcell fin) hd
  ·exact wpAny_Name (wpAny_loadName_free I.ok.kind hk hc hcell fin hcd) hd
theorem aj{i j pos}:PE X (.Constant (.int i) j pos) (tC (.int i)):=λ_ _ _ H _ I h=>wpAny_Constant_int ⟨.int i,H,I.tok _,⟨_,rfl⟩,h⟩
theorem lA{b j pos}:PE X (.Constant (.bool b) j pos) (tC (.bl b)):=λ_ _ _ H _ I h=>Constant_bool ⟨.bl b,H,I,rfl,h⟩
theorem Dp{j pos}:PE X (.Constant .none j pos) (tC .non):=λ_ _ _ H _ I h=>Constant_none ⟨.non,H,I,rfl,h⟩
theorem u6{x j pos}:PE X (.Constant (.str x) j pos) (tC (.str x)):=λ_ _ _ H _ I h=>Calls.Constant_str ⟨.str x,H,I.tok _,⟨_,rfl⟩,h⟩
def Gl(X:Cx)(x:Str):Prop:=X.env.kindOf x=some .globalImplicit
theorem pN{E:Value->Shared->Prop}{π:List (Addr×Obj)}{s:Shared}{σ:St}{H:Hp}{x:Str}{u:Value}{pos:Pos}{Q:Value->Shared->Prop}(I:Inv X π σ H s)(hg:Gl X x)(hm:X.mg x=some u)(h:Q u s)
  (hd:(x == ("__debug__" : Str))=false:=by decide):wpAny (model X.prog X.w) X.A (eval (.Name x pos) X.env) Q E s:=
 Calls.Name_function_global I.ok.kind hg (Calls.loadGlobal_global (by rw[I.ok.glob];exact I.mod.glob.keeps I.bk) hm h) hd
theorem fu{E:Value->Shared->Prop}{π:List (Addr×Obj)}{s:Shared}{σ:St}{H:Hp}{x:Str}{u:Value}{pos:Pos}{Q:Value->Shared->Prop}(I:Inv X π σ H s)(hg:Gl X x)(hm:X.mg x=none)(hv:bootBuiltins x=some u)(h:Q u s)
  (hn:x ≠ "__name__":=by decide)(hd:(x == ("__debug__" : Str))=false:=by decide):wpAny (model X.prog X.w) X.A (eval (.Name x pos) X.env) Q E s:=by
 obtain⟨mb,h1,h2⟩:=I.mod.blt;exact Calls.Name_function_global I.ok.kind hg (Calls.loadGlobal_builtin (by rw[I.ok.glob];exact I.mod.glob.keeps I.bk) hm (by rw[I.ok.blt];exact h1.keeps I.bk) ((h2 x hn).trans hv) h) hd
theorem dm{x:Str}{v:V}{u:Value}{pos:Pos}(hg:Gl X x)(hm:X.mg x=some u)(r:RelV v u)(hd:(x == ("__debug__" : Str))=false:=by decide):PE X (.Name x pos) (tC v):=
 λ_ _ _ H _ I h=>pN I hg hm ⟨v,H,I,r,h⟩ hd
theorem mG{x:Str}{v:V}{u:Value}{pos:Pos}(hg:Gl X x)(hm:X.mg x=none)(hv:bootBuiltins x=some u)(r:RelV v u)(hn:x ≠ "__name__":=by decide)(hd:(x == ("__debug__" : Str))=false:=by decide):PE X (.Name x pos) (tC v):=
 λ_ _ _ H _ I h=>fu I hg hm hv ⟨v,H,I,r,h⟩ hn hd
variable{a b:Expr}{ta tb:TE}{pos:Pos}
def PC(X:Cx)(op:CmpOp)(a b:Expr)(t:TE):Prop:=
 ∀(π:List (Addr×Obj)) (s:Shared) (σ:St) (H:Hp) (Q:VK),Inv X π σ H s->t σ H Q ->
  wpAny (model X.prog X.w) X.A (eval a X.env) (λv s₁=>wpAny (model X.prog X.w) X.A (eval b X.env) (λu s₂=>wpAny (model X.prog X.w) X.A (compareOp op v u) (EP X π σ Q) X.xe s₂) X.xe s₁) X.xe s
theorem Ec(b:Expr){op:CmpOp}(h:op ≠ .In)(h2:op ≠ .NotIn):behindInMarks op b=false:=by
 have e1:(op == CmpOp.In)=false:=by cases op <;> first|rfl|exact absurd rfl h
 have e2:(op == CmpOp.NotIn)=false:=by cases op <;> first|rfl|exact absurd rfl h2
 cases b <;> simp[behindInMarks,e1,e2]
def K3(ta:TE):TE:=λ σ H Q=>ta σ H λx H1=>Q (.bl (decide (x=.non))) H1
theorem RelV.none_iff{x:V}{v:Value}(r:RelV x v):(v == Value.none)=decide (x=.non):=by
 cases x with
 | non=>cases r;rfl
 | bl _=>cases r;rfl
 | int _=>obtain⟨t,rfl⟩:=r;rfl
 | str _=>obtain⟨t,rfl⟩:=r;rfl
 | Nj _=>obtain⟨t,rfl⟩:=r;rfl
 | flt _=>obtain⟨t,rfl⟩:=r;rfl
 | ref _=>cases r;rfl
 | ty _=>cases r;rfl
theorem DW{j pos'}(ha:PE X a ta):PC X .Is a (.Constant .none j pos') (K3 ta):=by
 intro π s σ H Q I h;refine K7 (ha π s σ H _ I h) λv s1 ⟨x,H1,I1,r1,q1⟩=>?_;exact Constant_none (is_none_gen ⟨.bl _,H1,I1,by rw[r1.none_iff];rfl,q1⟩)
inductive KJ(Q:Bool->Hp->Prop)(x:V)(H1:Hp):Prop
 | mk (c:_) (_:x=.bl c) (_:Q c H1)
def tB(t:TE):TT:=λ σ H Q=>t σ H λx H1=>KJ Q x H1
theorem Dr{op:CmpOp}{t:TE}(h:PC X op a b t)(h1:behindInMarks op b=false:=by first|exact Ec _ (by decide) (by decide) | rfl):PT X (.Compare a [op] [b] pos) (tB t):=by
 intro π s σ H Q I hw;refine wpAny_isTrue_Compare1 (K7 (h π s σ H _ I hw) λv s1 h1=>K7 h1 λu s2 h2=>K7 h2 λc s3 ⟨x,H1,I1,r1,q1⟩=>?_) h1;obtain⟨d,rfl,q⟩:=q1;cases r1;exact wpAny_truthy_bool ⟨H1,I1,q⟩
theorem lJ{e:Expr}{t:TE}(h:PE X e t)(he:∀whole,isTrue e X.env whole=(do let v <-whole;standAt e.pos;holding [v] (truthy v)):=by intro _;rfl):PT X e (tB t):=by
 intro π s σ H Q I hw;refine isTrue_plain (K7 (h π s σ H _ I hw) λv s1 ⟨x,H1,I1,r1,q1⟩=>?_) (he _);obtain⟨d,rfl,q⟩:=q1;cases r1;exact wpAny_truthy_bool ⟨H1,I1,q⟩
variable{tA Qt:TT}{rest:List Expr}
def Ku(t u:TT):TT:=λ σ H Q=>t σ H λc H1=>if c=true then u σ H1 Q else Q false H1
def ZG(t u:TT):TT:=λ σ H Q=>t σ H λc H1=>if c=true then Q true H1 else u σ H1 Q
def Kw(t:TT):TT:=λ σ H Q=>t σ H λc H1=>Q (!c) H1
theorem pM(ha:PT X a tA):PW X (.BoolOp .And [a] pos) tA:=by
 intro wh π s σ H Q I h;refine isTrue_and (K7 (ha π s σ H Q I h) λc s1 e=>?_);cases c with
 | true=>exact isTrue_and_nil e
 | false=>exact e
theorem jm(ha:PT X a tA):PW X (.BoolOp .Or [a] pos) tA:=by
 intro wh π s σ H Q I h;refine isTrue_or (K7 (ha π s σ H Q I h) λc s1 e=>?_);cases c with
 | false=>exact isTrue_or_nil e
 | true=>exact e
theorem vz(ha:PT X a tA)(hb:PW X (.BoolOp .And (b::rest) pos) Qt):PW X (.BoolOp .And (a::b::rest) pos) (Ku tA Qt):=by
 intro wh π s σ H Q I h;refine isTrue_and (K7 (ha π s σ H _ I h) λc s1 ⟨H1,I1,q1⟩=>?_);cases c with
 | true=>exact hb wh π s1 σ H1 Q I1 q1
 | false=>exact⟨H1,I1,q1⟩
theorem iI(ha:PT X a tA)(hb:PW X (.BoolOp .Or (b::rest) pos) Qt):PW X (.BoolOp .Or (a::b::rest) pos) (ZG tA Qt):=by
 intro wh π s σ H Q I h;refine isTrue_or (K7 (ha π s σ H _ I h) λc s1 ⟨H1,I1,q1⟩=>?_);cases c with
 | true=>exact⟨H1,I1,q1⟩
 | false=>exact hb wh π s1 σ H1 Q I1 q1
theorem jf(ha:PT X a tA):PT X (.UnaryOp .Not a pos) (Kw tA):=by
 intro π s σ H Q I h;exact isTrue_not (ha π s σ H (λc H1=>Q (!c) H1) I h)
inductive GQ(tb:TE)(σ:St)(Q:VK)(x:V)(H1:Hp):Prop
 | mk (c:_) (_:x=.bl c) (_:if c=true then tb σ H1 Q else Q (.bl false) H1)
def JV(ta tb:TE):TE:=λ σ H Q=>ta σ H λx H1=>GQ tb σ Q x H1
inductive G5(Q:VK)(x:V)(H1:Hp):Prop
 | mk (c:_) (_:x=.bl c) (_:Q (.bl (!c)) H1)
def JP(ta:TE):TE:=λ σ H Q=>ta σ H λx H1=>G5 Q x H1
theorem yo{op}{t:TE}(h:PE X a t):PE X (.BoolOp op [a] pos) t:=λ π s σ H Q I hw=>BoolOp_one (h π s σ H Q I hw)
theorem yw(ha:PE X a ta)(hb:PE X (.BoolOp .And (b::rest) pos) tb):PE X (.BoolOp .And (a::b::rest) pos) (JV ta tb):=by
 intro π s σ H Q I h;refine BoolOp_and (K7 (ha π s σ H _ I h) λv s1 ⟨x,H1,I1,r1,q1⟩=>?_);obtain⟨c,rfl,q1⟩:=q1;cases r1;refine wpAny_truthy_bool ?_;cases c with
 | true=>exact hb π s1 σ H1 Q I1 q1
 | false=>exact⟨.bl false,H1,I1,rfl,q1⟩
theorem Jc(ha:PE X a ta):PE X (.UnaryOp .Not a pos) (JP ta):=by
 intro π s σ H Q I h;refine UnaryOp_ (K7 (ha π s σ H _ I h) λv s1 ⟨x,H1,I1,r1,q1⟩=>?_);obtain⟨c,rfl,q1⟩:=q1;cases r1;exact not_of (wpAny_truthy_bool ⟨.bl (!c),H1,I1,rfl,q1⟩)
end
def K5(K:PySem.W.Frag)(H:Hp)(a:Addr)(xs:List V):Prop:=
 Rd H a (.lst xs) \/
  ∃(o:Obj) (its:Array Value) (n:Nat),K.lookup a=some o/\o.cls=.type "list" /\ o.dict=none/\o.data=.seq its n/\its.size<=sizeLine/\Vals xs its.toList
def K6(K:PySem.W.Frag)(H:Hp)(a:Addr)(xs:List V):Prop:=
 Rd H a (.tup xs) \/
  ∃(o:Obj) (its:Array Value) (n:Nat),K.lookup a=some o/\o.cls=.type "tuple" /\ o.data=.seq its n/\its.size<=sizeLine/\Vals xs its.toList
def Ks:Value->Option V
 | .none=>some .non
 | .bool b=>some (.bl b)
 | .int i _=>some (.int i)
 | .str x _=>some (.str x)
 | .bytes b _=>some (.Nj b)
 | .float b _=>some (.flt b)
 | .ref a=>some (.ref a)
 | .type n=>some (.ty n)
 | _=>none
theorem RelV.abs{x:V}{u:Value}(r:RelV x u):Ks u=some x:=by
 cases x with
 | non=>cases r;rfl
 | bl _=>cases r;rfl
 | int _=>obtain⟨t,rfl⟩:=r;rfl
 | str _=>obtain⟨t,rfl⟩:=r;rfl
 | Nj _=>obtain⟨t,rfl⟩:=r;rfl
 | flt _=>obtain⟨t,rfl⟩:=r;rfl
 | ref _=>cases r;rfl
 | ty _=>cases r;rfl
theorem RelV.inj{x y:V}{u:Value}(r:RelV x u)(q:RelV y u):x=y:=aax (r.abs.symm.trans q.abs)
theorem Vals.inj:∀{xs ys:List V}{us:List Value},Vals xs us->Vals ys us->xs=ys
 | _,_,_,.nil,.nil=>rfl
 | _,_,_,.cons r t,.cons r' t'=>by rw[r.inj r',Vals.inj t t']
section
variable{X:Cx}{π:List (Addr×Obj)}{σ:St}{H:Hp}{s:Shared}{a:Addr}{xs ys:List V}
theorem K5.of{K:PySem.W.Frag}(h:H a=some (.lst xs)):K5 K H a xs:=.inl (.inl h)
theorem K6.of{K:PySem.W.Frag}(h:H a=some (.tup xs)):K6 K H a xs:=.inl (.inl h)
theorem Inv.list(I:Inv X π σ H s)(h:K5 X.K H a xs):∃its:List Value,Vals xs its/\PlainL s.heap a its.toArray/\xs.length<=sizeLine:=by
 rcases h with h|⟨o,its,n,hk,hc,hd,hs,hz,r⟩
 ·obtain⟨z,its,n,r,e⟩:=h.ok I.hok;exact⟨its,r,⟨_,n,e,rfl,rfl,rfl⟩,z⟩
 ·refine⟨its.toList,r,⟨o,n,I.Mj a o hk,hc,hd,by simpa using hs⟩,?_⟩;have e:=r.length;simp only[aaj]at e;lia
theorem Inv.tuple(I:Inv X π σ H s)(h:K6 X.K H a xs):∃its:List Value,Vals xs its/\IsTup s.heap a its.toArray/\xs.length<=sizeLine:=by
 rcases h with h|⟨o,its,n,hk,hc,hs,hz,r⟩
 ·obtain⟨z,its,r,p⟩:=h.ok I.hok;exact⟨its,r,p,z⟩
 ·refine⟨its.toList,r,⟨o,I.Mj a o hk,hc,n,by simpa using hs⟩,?_⟩;have e:=r.length;simp only[aaj]at e;lia
theorem Inv.list_inj(I:Inv X π σ H s)(h:K5 X.K H a xs)(h':K5 X.K H a ys):xs=ys:=by
 obtain⟨its,r,⟨o,n,e,_,_,d⟩,_⟩:=I.list h;obtain⟨its',r',⟨o',n',e',_,_,d'⟩,_⟩:=I.list h';rw[e]at e';cases e';rw[d]at d';injection d' with d1 _
 have:its=its':=by simpa using congrArg aeo d1
 subst this;exact r.inj r'
theorem Inv.tuple_inj(I:Inv X π σ H s)(h:K6 X.K H a xs)(h':K6 X.K H a ys):xs=ys:=by
 obtain⟨its,r,⟨o,e,_,n,d⟩,_⟩:=I.tuple h;obtain⟨its',r',⟨o',e',_,n',d'⟩,_⟩:=I.tuple h';rw[e]at e';cases e';rw[d]at d';injection d' with d1 _
 have:its=its':=by simpa using congrArg aeo d1
 subst this;exact r.inj r'
end
abbrev Cx.wish(X:Cx)(E:Value->Shared->Prop):Cx:={ X with xe:=E }
abbrev Cx.Rj(X:Cx):Cx:=X.wish λ_ _=>False
theorem Cx.Ok.wish{X:Cx}(ok:X.Ok)(E:Value->Shared->Prop):(X.wish E).Ok:=
 ⟨ok.mod,ok.kind,ok.glob,ok.blt,ok.above,ok.inj,ok.has,ok.cab,ok.hd,ok.frames,ok.NP,ok.Qq,ok.bs,ok.Mv,ok.noex,ok.exfs,ok.funs,ok.Nf⟩
theorem Cx.Ok.unwish{X:Cx}{E:Value->Shared->Prop}(ok:(X.wish E).Ok):X.Ok:=
 ⟨ok.mod,ok.kind,ok.glob,ok.blt,ok.above,ok.inj,ok.has,ok.cab,ok.hd,ok.frames,ok.NP,ok.Qq,ok.bs,ok.Mv,ok.noex,ok.exfs,ok.funs,ok.Nf⟩
section
variable{X:Cx}{π:List (Addr×Obj)}{σ:St}{H:Hp}{s:Shared}{E:Value->Shared->Prop}
theorem Inv.wish(I:Inv X π σ H s)(E:Value->Shared->Prop):Inv (X.wish E) π σ H s:=⟨I.ok.wish E,I.os,I.bare,I.base,I.loc,I.cell,I.free,I.freeC,I.pin,I.hok,I.len⟩
theorem Inv.unwish(I:Inv (X.wish E) π σ H s):Inv X π σ H s:=⟨I.ok.unwish,I.os,I.bare,I.base,I.loc,I.cell,I.free,I.freeC,I.pin,I.hok,I.len⟩
theorem SP.unwish{D:Ends}{f:Flow}{s':Shared}(h:SP (X.wish E) π D f s'):SP X π D f s':=by
 cases f with
 | next=>obtain⟨σ',H',I,q⟩:=h;exact⟨σ',H',I.unwish,q⟩
 | brk=>obtain⟨σ',H',I,q⟩:=h;exact⟨σ',H',I.unwish,q⟩
 | cont=>obtain⟨σ',H',I,q⟩:=h;exact⟨σ',H',I.unwish,q⟩
 | ret u=>obtain⟨v,σ',H',I,r,q⟩:=h;exact⟨v,σ',H',I.unwish,r,q⟩
theorem Ma.Rj{st:List Stmt}{t:TS}(h:Ma X.Rj st t):Ma X st t:=λ π s σ H D I hw =>
 wpAny_mono (h π s σ H D (I.wish _) hw) (λ_ _ q=>q.unwish) λ_ _ z=>False.elim z
end
section
variable{X:Cx}{st:Stmt}{rest:List Stmt}{t u:TS}{e:Expr}{te:TE}{pos:Pos}
def G9:TS:=λD σ H=>D.nx σ H
def Kg(t u:TS):TS:=λD σ H=>t { D with nx:=u D } σ H
theorem aP:Ma X [] G9:=λ_ _ σ H _ I h=>wpAny_execs_nil ⟨σ,H,I,h⟩
theorem ak(h1:PS X st t)(h2:Ma X rest u):Ma X (st::rest) (Kg t u):=by
 intro π s σ H D I h;refine wpAny_execs_cons (K7 (h1 π s σ H { D with nx:=u D } I h) λf s1 q=>?_);cases f with
 | next =>
  obtain⟨σ',H',I',q⟩:=q;exact h2 π s1 σ' H' D I' q
 | ret v=>exact q
 | brk=>exact q
 | cont=>exact q
theorem az(h1:PS X st t):Ma X [st] t:=by
 intro π s σ H D I h;refine wpAny_execs_cons (K7 (h1 π s σ H D I h) λf s1 q=>?_);cases f with
 | next=>exact wpAny_execs_nil q
 | ret v=>exact q
 | brk=>exact q
 | cont=>exact q
theorem Inv.quiet{π:List (Addr×Obj)}{σ:St}{H:Hp}{s:Shared}(I:Inv X π σ H s):interactive X.env=false:=by simp[interactive,I.ok.kind]
def JM(te:TE):TS:=λD σ H=>te σ H λ_ H1=>D.nx σ H1
theorem bH(he:PE X e te)(hs:swapsWith e none pos.line X.env=pure false:=by rfl):PS X (.Expr e pos) (JM te):=by
 intro π s σ H D I h;exact wpAny_Expr_any (K7 (he π s σ H _ I h) λv s1 ⟨x,H1,I1,r1,q1⟩=>⟨σ,H1,I1,q1⟩) I.quiet hs
def Kc(te:TE):TS:=λD σ H=>te σ H D.rt
theorem aG(he:PE X e te):PS X (.Return (some e) pos) (Kc te):=by
 intro π s σ H D I h;exact wpAny_Return_some (K7 (he π s σ H _ I h) λv s1 ⟨x,H1,I1,r1,q1⟩=>⟨x,σ,H1,I1,r1,q1⟩)
def Kv(c:TT)(t u:TS):TS:=λD σ H=>c σ H λb H1=>if b=true then t D σ H1 else u D σ H1
theorem aW{c:Expr}{a b:List Stmt}{tc:TT}(hc:PT X c tc)(ha:Ma X a t)(hb:Ma X b u):PS X (.If c a b pos) (Kv tc t u):=by
 intro π s σ H D I h;refine wpAny_If (K7 (hc π s σ H _ I h) λd s1 ⟨H1,I1,q1⟩=>?_);cases d with
 | true=>exact ha π s1 σ H1 D I1 q1
 | false=>exact hb π s1 σ H1 D I1 q1
def HW:TS:=λ_ _ _=>False
theorem mY:PS X st HW:=λ_ _ _ _ _ _ h=>h.elim
end
abbrev TG:=V->St->Hp->(St->Hp->Prop)->Prop
abbrev PB:=List V->St->Hp->(St->Hp->Prop)->Prop
def PG(X:Cx)(target:Expr)(t:TG):Prop:=
 ∀(π:List (Addr×Obj)) (s:Shared) (σ:St) (H:Hp) (v:V) (u:Value) (Q:St->Hp->Prop),Inv X π σ H s->RelV v u->t v σ H Q ->
  wpAny (model X.prog X.w) X.A (assign target X.env u) (λ_ s'=>∃σ' H',Inv X π σ' H' s'/\Q σ' H') X.xe s
def Rk(X:Cx)(ts:List Expr)(t:PB):Prop:=
 ∀(π:List (Addr×Obj)) (s:Shared) (σ:St) (H:Hp) (vs:List V) (us:List Value) (Q:St->Hp->Prop),Inv X π σ H s->Vals vs us->t vs σ H Q ->
  wpAny (model X.prog X.w) X.A (assignInOrder ((assignEach ts X.env).map (·.2)) us) (λ_ s'=>∃σ' H',Inv X π σ' H' s'/\Q σ' H') X.xe s
section
variable{X:Cx}{pos:Pos}
def fQ(i:Nat):TG:=λv σ H Q=>Q (σ.set i (some v)) H
theorem aX{i:Nat}{x:Str}(hN:X.N.Nodup)(hi:X.N[i]?=some x)(hx:Loc X.env.scope x)(hf:X.fn x=true\/X.env.scope.names.lookup x=some .local:=by first|exact .inl rfl|exact .inr rfl|assumption):PG X (.Name x pos) (fQ i):=by
 intro π s σ H v u Q I r h;exact wpAny_assign_Name (jL I hN hi hx r (λs' I'=>⟨_,H,I',h⟩) hf)
def JQ:PB:=λvs σ H Q=>vs=[]/\Q σ H
inductive Fg(t:TG)(u:PB)(vs:List V)(σ:St)(H:Hp)(Q:St->Hp->Prop):Prop
 | mk (v r:_) (_:vs=v::r) (_:t v σ H λ σ' H'=>u r σ' H' Q)
theorem gZ:Rk X [] JQ:=by
 intro π s σ H vs us Q I r h;obtain⟨e,h⟩:=h;subst e;cases r;exact assignInOrder_nil ⟨σ,H,I,h⟩
theorem bW{e:Expr}{es:List Expr}{t:TG}{u:PB}(h1:PG X e t)(h2:Rk X es u)
  (hs:(assignEach (e::es) X.env).map (·.2)=assign e X.env::(assignEach es X.env).map (·.2):=by rfl):Rk X (e::es) (Fg t u):=by
 intro π s σ H vs us Q I r h;obtain⟨v,vr,e1,h⟩:=h;subst e1;cases r with
 | cons r rr =>
  rw[hs];refine assignInOrder_cons (K7 (h1 π s σ H _ _ _ I r h) λ_ s1 ⟨σ1,H1,I1,q1⟩=>?_);exact h2 π s1 σ1 H1 _ _ Q I1 rr q1
inductive JL(K:PySem.W.Frag)(n:Nat)(t:PB)(v:V)(σ:St)(H:Hp)(Q:St->Hp->Prop):Prop
 | mk (a xs:_) (_:v=.ref a) (_:K6 K H a xs) (_:xs.length=n) (_:t xs σ H Q)
theorem jN{es:List Expr}{k:Nat}{t:PB}{n:Nat}(hc:X.calm=true)(h:Rk X es t)
  (hn:(assignEach es X.env).length=n:=by rfl)(hst:(assignEach es X.env).findIdx? (·.1)=none:=by rfl):PG X (.Tuple es k pos) (JL X.K n t):=by
 intro π s σ H v u Q I r hw;obtain⟨a,xs,e1,hq,hl,hw⟩:=hw;subst e1;cases r;obtain⟨its,rv,ht,hz⟩:=I.tuple hq;refine assign_Tuple_tuple (I.ok.hd hc) ht (by simp[hn,<-hl,rv.length]) hst λh' hx=>?_;have I1:Inv X π σ H { s with heap:=h' }:=I.kept (t':=s.toks) λb o e=>hx b o (aak (Heap.lt_size e)) e;exact h π _ σ H xs _ Q I1 (by simpa using rv) hw
def Jp(te:TE)(g:TG):TS:=λD σ H=>te σ H λx H1=>g x σ H1 D.nx
theorem aC{i:Nat}{x:Str}{e:Expr}{te:TE}{pos':Pos}(hN:X.N.Nodup)(hi:X.N[i]?=some x)(hx:Loc X.env.scope x)(he:PE X e te)(hs:swapsWith e (some (.Name x pos')) pos.line X.env=pure false:=by rfl)(hf:X.fn x=true\/X.env.scope.names.lookup x=some .local:=by first|exact .inl rfl|exact .inr rfl|assumption):
  PS X (.Assign [.Name x pos'] e pos) (Jp te (fQ i)):=by
 intro π s σ H D I h;refine wpAny_Assign_Name (K7 (he π s σ H _ I h) λv s1 ⟨y,H1,I1,r1,q1⟩=>?_) hs;exact jL I1 hN hi hx r1 (λs2 I2=>⟨_,H1,I2,q1⟩) hf
inductive HF(i:Nat)(j:Nat)(D:Ends)(σ:St)(vs:List V)(H1:Hp):Prop
 | mk (v w:_) (_:vs=[v,w]) (_:D.nx ((σ.set i (some v)).set j (some w)) H1)
def KQ(i j:Nat)(ta:TA):TS:=λD σ H=>ta σ H λvs H1=>HF i j D σ vs H1
theorem IK{i j:Nat}{x y:Str}{a b:Expr}{ta:TA}{px py pt:Pos}{kt k2 R5}(hc:X.calm=true)(hN:X.N.Nodup)(hi:X.N[i]?=some x)(hj:X.N[j]?=some y)(hij:i≠j)
  (hx:X.env.scope.names.lookup x=some .local)(hy:X.env.scope.names.lookup y=some .local)(ha:PA X [a,b] ta)
  (hw:swappedStores [.Tuple [.Name x px,.Name y py] kt pt] (.Tuple [a,b] k2 R5) X.env=pure (some [x,y]))
  (hs:swapsWithSole [.Tuple [.Name x px,.Name y py] kt pt] (.Tuple [a,b] k2 R5) pos.line X.env=pure false:=by rfl):
  PS X (.Assign [.Tuple [.Name x px,.Name y py] kt pt] (.Tuple [a,b] k2 R5) pos) (KQ i j ta):=by
 intro π s σ H D I h;rw[exec_Assign_arm];refine wpAny_bind (wpAny_standAt ?_);rw[hs];refine wpAny_bind (wpAny_pure ?_);rw[if_neg (by decide)];refine wpAny_bind (Tuple_ (K7 (ha _ π s σ H _ I h) λus s1 ⟨vs,H1,I1,r1,q1⟩=>?_));obtain⟨v,w,e1,q1⟩:=q1;subst e1;obtain⟨u1,u2,rfl,rv,Nt⟩:∃u1 u2,us=[u1,u2]/\RelV v u1/\RelV w u2:=by
  cases r1 with
  | cons p q =>
   cases q with
   | cons p' q' =>
    cases q';exact⟨_,_,rfl,p,p'⟩
 refine wpAny_newObj_type ?_ (by show 2<=sizeLine;decide)
 have I2:Inv X π σ H1 { s1 with heap:=s1.heap.push { cls:=.type "tuple",data:=.seq [u1,u2].toArray } }:=I1.kept (t':=s1.toks) λb o e=>Heap.get?_push_of_some _ e
 rw[hw];refine wpAny_bind (wpAny_pure ?_)
 show wpAny (model X.prog X.w) X.A (do rule "assign.swapped-stores";let items <-unpackItems (.ref s1.heap.objs.size) 2 none;assignInOrder [λv=>bindName X.env y v,λv=>bindName X.env x v] items.reverse;pure Flow.next) _ _ _
 refine wpAny_bind (wpAny_rule (wpAny_bind (unpackItems_tuple (items:=#[u1,u2]) (I.ok.hd hc) (IsTup.new s1.heap _) λh' hx'=>?_)));have I3:=I2.kept (h':=h') (t':=s1.toks) λb o e=>hx' b o (aak (Heap.lt_size e)) e;show wpAny _ _ (assignInOrder [λv=>bindName X.env y v,λv=>bindName X.env x v] [u2,u1] >>= λ_=>pure Flow.next) _ _ _;refine wpAny_bind (assignInOrder_cons (wpAny_bindName (jL I3 hN hj (.inl hy) Nt (λs2 I4=>?_) (.inr hy))));refine assignInOrder_cons (wpAny_bindName (jL I4 hN hi (.inl hx) rv (λs3 I5=>assignInOrder_nil (wpAny_pure ?_)) (.inr hx)));rw[List.set_comm _ _ (abg hij)]at I5;exact⟨_,H1,I5,q1⟩
end
section
variable{X:Cx}{pos:Pos}
def Ig(c:TT)(tb:TS):TS:=λD σ H=>∃W:Nat->St->Hp->Prop,(∃m,W m σ H) /\ ∀m σ H,W m σ H ->
 c σ H λb H1=>if b=true then ∃N:St->Hp->Prop,(∀σ' H',N σ' H' -> ∃m',m'<m/\W m' σ' H')/\tb { D with nx:=N,ct:=N,bk:=D.nx } σ H1 else D.nx σ H1
theorem vW{c:Expr}{body:List Stmt}{tc:TT}{tb:TS}(hp:PassesOwn (model X.prog X.w) X.A X.env X.xe)(hc:PT X c tc)(hb:Ma X body tb):PS X (.While c body [] pos) (Ig tc tb):=by
 intro π s σ H D I h;obtain⟨W,⟨m0,w0⟩,turn⟩:=h;refine wpAny_While (codeAny_whileLoop (λn s'=>∃σ' H',Inv X π σ' H' s'/\W n σ' H') ?_ m0 ⟨σ,H,I,w0⟩);rintro n s1 ⟨σ1,H1,I1,w1⟩;refine wpAny_passesOwn hp (K7 (hc π s1 σ1 H1 _ I1 (turn n σ1 H1 w1)) λb s2 ⟨H2,I2,q2⟩=>?_);cases b with
 | true =>
  obtain⟨N,hN,q2⟩:=q2;rw[if_pos rfl];refine wpAny_passesOwn hp (K7 (hb π s2 σ1 H2 _ I2 q2) λf s3 q3=>?_);cases f with
  | next =>
   obtain⟨σ3,H3,I3,n3⟩:=q3;obtain⟨m',hm,w3⟩:=hN σ3 H3 n3;exact⟨m',hm,σ3,H3,I3,w3⟩
  | cont =>
   obtain⟨σ3,H3,I3,n3⟩:=q3;obtain⟨m',hm,w3⟩:=hN σ3 H3 n3;exact⟨m',hm,σ3,H3,I3,w3⟩
  | brk=>exact q3
  | ret v=>exact q3
 | false =>
  rw[if_neg aat];exact wpAny_execs_nil ⟨σ1,H2,I2,q2⟩
end
structure It where
 go:Nat->Hp->Prop
 Nk:Nat->Hp->V->Hp->Prop
 stop:Nat->Hp->Prop
def fG(X:Cx)(π:List (Addr×Obj))(H:Hp)(b:Addr):Prop:=
 H b=none/\b≠X.env.locals/\b∉X.fs/\(b∈X.ex\/X.s₀.heap.objs.size<=b)/\(∀x c,X.env.cells.lookup x=some c->c≠b) /\ ∀p∈X.pn++π,p.1≠b
theorem Inv.fpOk{X:Cx}{π:List (Addr×Obj)}{σ:St}{H H':Hp}{s:Shared}{b:Addr}(I:Inv X π σ H s)(hb:s.heap.objs.size<=b)(hn:H' b=none):fG X π H' b:=by
 refine⟨hn,abH (aaf I.lt hb),I.nofs hb,.inr (aaS I.sz hb),λx c e z=>?_,λp hp z=>?_⟩
 ·obtain⟨v,q⟩:=I.cell x c e;exact absurd (aaf q.lt (by rw[z];exact hb)) (aaZ _)
 ·exact absurd (aaf (Heap.lt_size (I.pin p hp).1) (by rw[z];exact hb)) (aaZ _)
structure Turn(P:Program)(w:World)(K:PySem.W.Frag)(tg:Expr)(J:It)(fp:List Addr)(it:Addr)(tn:Nat->Heap->Prop):Prop where
 mem:it∈fp
 obj:∀i h,tn i h -> ∀b∈fp,∃o,h.get? b=some o /\ ∀v,o.data ≠ .cell v
 keep:∀i h h',tn i h->(∀b∈fp,∀o,h.get? b=some o->h'.get? b=some o)->tn i h'
 item:∀(X:Cx),X.prog=P->X.w=w->X.K=K->X.calm=true -> ∀(i:Nat) (π:List (Addr×Obj)) (s:Shared) (σ:St) (H:Hp) (E:Value->Shared->Prop),Inv X π σ H s->(∀b∈fp,fG X π H b)->tn i s.heap->J.go i H ->
  wpAny (model P w) X.A (pyNext (.ref it)) (λr s1=>∃u,r=some u /\
   wpAny (model P w) X.A (letOwnedTupleGo tg (.ref it) u) (λ_ s2=>∃x H',Inv X π σ H' s2/\RelV x u/\J.Nk i H x H'/\tn (i+1) s2.heap /\ ∀b∈fp,H' b=none) E s1) E s
 done:∀(X:Cx),X.prog=P->X.w=w->X.K=K->X.calm=true -> ∀(i:Nat) (π:List (Addr×Obj)) (s:Shared) (σ:St) (H:Hp) (E:Value->Shared->Prop),Inv X π σ H s->(∀b∈fp,fG X π H b)->tn i s.heap->J.stop i H ->
  wpAny (model P w) X.A (pyNext (.ref it)) (λr s1=>r=none/\Inv X π σ H s1) E s
 self:∀(A:Around) (i:Nat) (s:Shared) (Q:Value->Shared->Prop) (E:Value->Shared->Prop),tn i s.heap->Q (.ref it) s->wpAny (model P w) A (pyIter (.ref it)) Q E s
abbrev TI:=St->Hp->(It->Hp->Prop)->Prop
inductive PIE(X:Cx)(π:List (Addr×Obj))(σ:St)(tg:Expr)(R:It->Hp->Prop)(itv:Value)(s2:Shared):Prop
 | mk (it:Addr) (fp:List Addr) (tn:Nat->Heap->Prop) (J:It) (H':Hp) (_:itv=.ref it) (_:Inv X π σ H' s2) (_:Turn X.prog X.w X.K tg J fp it tn) (_:tn 0 s2.heap) (_:(∀b∈fp,fG X π H' b)) (_:R J H')
def PI(X:Cx)(tg iter:Expr)(wi:TI):Prop:=
 ∀(π:List (Addr×Obj)) (s:Shared) (σ:St) (H:Hp) (R:It->Hp->Prop),Inv X π σ H s->wi σ H R ->
  wpAny (model X.prog X.w) X.A (eval iter X.env) (λv s1=>wpAny (model X.prog X.w) X.A (pyIter v) (PIE X π σ tg R) X.xe s1) X.xe s
theorem wk{M:Model}{A:Around}{E:Value->Shared->Prop}{s:Shared}{tg:Expr}{it:Addr}{u:Value}{o:Obj}{n:String}{vs:Array Value}{Q:Unit->Shared->Prop}(ho:s.heap.get? it=some o)(hc:o.cls=.type n)(hd:o.data=.fields vs)
    (hn:["enumerate","zip","dict_itemiterator","dict_reverseitemiterator","odict_iterator","itertools.zip_longest","itertools.pairwise"].contains n=false)(hQ:Q () s):wpAny M A (letOwnedTupleGo tg (.ref it) u) Q E s:=by
  unfold letOwnedTupleGo;cases tg <;> first
    | exact wpAny_pure hQ
    | (cases u <;> first
        | exact wpAny_pure hQ
        | (refine wpAny_bind (wpAny_load ho ?_)
           rw[hc,hd]
           show wpAny M A (if (["enumerate","zip","dict_itemiterator","dict_reverseitemiterator","odict_iterator","itertools.zip_longest","itertools.pairwise"].contains n && vs[0]? == some (rawInt _))=true then _ else _) Q E s
           rw[if_neg (by intro h;rw[hn,adl]at h;cases h)];exact wpAny_pure hQ))
def N7(K:PySem.W.Frag)(a:Addr):It:=
 ⟨λi H=>∃xs x,K5 K H a xs/\xs[i]?=some x,λi H x H'=>H'=H /\ ∀xs,K5 K H a xs->xs[i]?=some x,λi H=>∃xs,K5 K H a xs/\xs.length<=i⟩
def Qu(K:PySem.W.Frag)(a:Addr):It:=
 ⟨λi H=>∃xs x,K6 K H a xs/\xs[i]?=some x,λi H x H'=>H'=H /\ ∀xs,K6 K H a xs->xs[i]?=some x,λi H=>∃xs,K6 K H a xs/\xs.length<=i⟩
def Oj(lo:Int)(n:Nat):It:=⟨λi _=>i<n,λi H x H'=>H'=H/\x=.int (lo+i),λi _=>n<=i⟩
theorem Ci{P:Program}{w:World}{K:PySem.W.Frag}{tg:Expr}(a it:Addr):Turn P w K tg (N7 K a) [it] it (λi h=>h.IsListIter it a i) where
 mem:=by simp
 obj:=λi h st b hb=>by
  have e:b=it:=by simpa using hb
  subst e;obtain⟨o,e,c,d⟩:=st;exact⟨o,e,λv z=>by rw[d]at z;cases z⟩
 keep:=λi h h' st k=>st.at λo e=>k it (by simp) o e
 item:=by
  intro X hP hw hK hc i π s σ H E I hf st hg;subst hP hw hK;obtain⟨xs,x,hq,hx⟩:=hg;obtain⟨its,rv,p,hz⟩:=I.list hq;obtain⟨u,hu,ru⟩:=rv.get hx;obtain⟨f0,f1,f2,f3,f4,f5⟩:=hf it (by simp);refine wpAny_pyNext_list_item st p.isList (x:=u) (by simpa using hu) λh' st' sb=>?_;have I1:Inv X π σ H { s with heap:=h' }:=I.turned (t':=s.toks) (λb o hb e=>(sb.2 b hb).trans e) f0 f1 f3 f4 f5;obtain⟨o,e,c,d⟩:=id st';exact⟨u,rfl,wk (s:={ s with heap:=h' }) e c d (by decide) ⟨x,H,I1,ru,⟨rfl,λys hy=>by rw[I.list_inj hy hq];exact hx⟩,st',λb hb=>(hf b hb).1⟩⟩
 done:=by
  intro X hP hw hK hc i π s σ H E I hf st hg;subst hP hw hK;obtain⟨xs,hq,hx⟩:=hg;obtain⟨its,rv,p,hz⟩:=I.list hq;obtain⟨f0,f1,f2,f3,f4,f5⟩:=hf it (by simp);have hl:=rv.length;exact wpAny_pyNext_list_end (I.ok.hd hc) st p.isList (by simp;lia) λh' eb=>⟨rfl,I.turned (t':=s.toks) (λb o hb e=>eb b o hb e) f0 f1 f3 f4 f5⟩
 self:=λ_ _ _ _ _ st h=>wpAny_pyIter_listiter st h
theorem yX{P:Program}{w:World}{K:PySem.W.Frag}{tg:Expr}(a it:Addr):Turn P w K tg (Qu K a) [it] it (λi h=>h.IsTupleIter it a i) where
 mem:=by simp
 obj:=λi h st b hb=>by
  have e:b=it:=by simpa using hb
  subst e;obtain⟨o,e,c,d⟩:=st;exact⟨o,e,λv z=>by rw[d]at z;cases z⟩
 keep:=λi h h' st k=>st.at λo e=>k it (by simp) o e
 item:=by
  intro X hP hw hK hc i π s σ H E I hf st hg;subst hP hw hK;obtain⟨xs,x,hq,hx⟩:=hg;obtain⟨its,rv,p,hz⟩:=I.tuple hq;obtain⟨u,hu,ru⟩:=rv.get hx;obtain⟨f0,f1,f2,f3,f4,f5⟩:=hf it (by simp);refine wpAny_pyNext_tuple_item st (show s.heap.IsTuple a its.toArray from p) (x:=u) (by simpa using hu) λh' st' sb=>?_;have I1:Inv X π σ H { s with heap:=h' }:=I.turned (t':=s.toks) (λb o hb e=>(sb.2 b hb).trans e) f0 f1 f3 f4 f5;obtain⟨o,e,c,d⟩:=id st';exact⟨u,rfl,wk (s:={ s with heap:=h' }) e c d (by decide) ⟨x,H,I1,ru,⟨rfl,λys hy=>by rw[I.tuple_inj hy hq];exact hx⟩,st',λb hb=>(hf b hb).1⟩⟩
 done:=by
  intro X hP hw hK hc i π s σ H E I hf st hg;subst hP hw hK;obtain⟨xs,hq,hx⟩:=hg;obtain⟨its,rv,p,hz⟩:=I.tuple hq;obtain⟨f0,f1,f2,f3,f4,f5⟩:=hf it (by simp);have hl:=rv.length;exact wpAny_pyNext_tuple_end (I.ok.hd hc) st (show s.heap.IsTuple a its.toArray from p) (by simp;lia) λh' eb=>⟨rfl,I.turned (t':=s.toks) (λb o hb e=>eb b o hb e) f0 f1 f3 f4 f5⟩
 self:=λ_ _ _ _ _ st h=>wpAny_pyIter_tupleiter st h
theorem yO{P:Program}{w:World}{K:PySem.W.Frag}{tg:Expr}(it:Addr)(lo:Int)(n:Nat):Turn P w K tg (Oj lo n) [it] it (λi h=>IsRangeIter h it (lo+(i:Nat)*1) ((n:Int) - (i:Nat)) 1) where
 mem:=by simp
 obj:=λi h st b hb=>by
  have e:b=it:=by simpa using hb
  subst e;exact⟨_,st,λv z=>by
   have z':Data.fields _=Data.cell v:=z;cases z'⟩
 keep:=λi h h' st k=>k it (by simp) _ st
 item:=by
  intro X hP hw hK hc i π s σ H E I hf st hg;subst hP hw hK;obtain⟨f0,f1,f2,f3,f4,f5⟩:=hf it (by simp);have W:=Walks.range (prog:=X.prog) (w:=X.w) (I.ok.hd hc) it lo 1 n;refine W.item i s _ _ hg st λv h' tk hv st' kk=>?_;obtain⟨t,rfl⟩:=hv;have I1:Inv X π σ H { s with heap:=h',toks:=tk }:=I.turned (λb o hb e=>kk b o (by simpa using hb) e) f0 f1 f3 f4 f5
  refine⟨_,rfl,wk (s:={ s with heap:=h',toks:=tk }) (n := "range_iterator") st' rfl rfl (by decide) ⟨.int (lo+i),H,I1,⟨t,?_⟩,⟨rfl,rfl⟩,st',λb hb=>(hf b hb).1⟩⟩
  rw[Int.mul_one]
 done:=by
  intro X hP hw hK hc i π s σ H E I hf st hg;subst hP hw hK;obtain⟨f0,f1,f2,f3,f4,f5⟩:=hf it (by simp);exact wpAny_pyNext_range_end (I.ok.hd hc) st (by have:n<=i:=hg;lia) λh' eb=>⟨rfl,I.turned (t':=s.toks) (λb o hb e=>eb b o hb e) f0 f1 f3 f4 f5⟩
 self:=λ_ _ _ _ _ st h=>wpAny_pyIter_rangeiter st h
section
variable{X:Cx}{tg:Expr}
inductive Fx(K:PySem.W.Frag)(R:It->Hp->Prop)(x:V)(H1:Hp):Prop
 | mk (a:_) (_:x=.ref a) (_:(∃xs,K5 K H1 a xs)) (_:R (N7 K a) H1)
def Hc(K:PySem.W.Frag)(tl:TE):TI:=λ σ H R=>tl σ H λx H1=>Fx K R x H1
inductive Iv(K:PySem.W.Frag)(R:It->Hp->Prop)(x:V)(H1:Hp):Prop
 | mk (a:_) (_:x=.ref a) (_:(∃xs,K6 K H1 a xs)) (_:R (Qu K a) H1)
def KN(K:PySem.W.Frag)(tl:TE):TI:=λ σ H R=>tl σ H λx H1=>Iv K R x H1
theorem bV{l:Expr}{tl:TE}(hl:PE X l tl):PI X tg l (Hc X.K tl):=by
 intro π s σ H R I h;refine K7 (hl π s σ H _ I h) λv s1 ⟨x,H1,I1,r1,q1⟩=>?_;obtain⟨a,e,⟨xs,hq⟩,q⟩:=q1;subst e;cases r1;obtain⟨its,rv,p,hz⟩:=I1.list hq;refine wpAny_pyIter_list p.isList ?_;refine⟨s1.heap.objs.size,[s1.heap.objs.size],_,_,H1,rfl,I1.kept (t':=s1.toks) λb o e=>Heap.get?_push_of_some _ e,Ci a _,⟨_,Heap.get?_push_size _ rfl,rfl,rfl⟩,λb hb=>?_,q⟩;have e:b=s1.heap.objs.size:=by simpa using hb
 subst e;exact I1.fpOk (aad _) (I1.hok.fresh (aad _))
theorem IV{l:Expr}{tl:TE}(hl:PE X l tl):PI X tg l (KN X.K tl):=by
 intro π s σ H R I h;refine K7 (hl π s σ H _ I h) λv s1 ⟨x,H1,I1,r1,q1⟩=>?_;obtain⟨a,e,⟨xs,hq⟩,q⟩:=q1;subst e;cases r1;obtain⟨its,rv,p,hz⟩:=I1.tuple hq;refine wpAny_pyIter_tuple (show s1.heap.IsTuple a its.toArray from p) ?_;refine⟨s1.heap.objs.size,[s1.heap.objs.size],_,_,H1,rfl,I1.kept (t':=s1.toks) λb o e=>Heap.get?_push_of_some _ e,yX a _,⟨_,Heap.get?_push_size _ rfl,rfl,rfl⟩,λb hb=>?_,q⟩;have e:b=s1.heap.objs.size:=by simpa using hb
 subst e;exact I1.fpOk (aad _) (I1.hok.fresh (aad _))
theorem Ez{π:List (Addr×Obj)}{σ:St}{H:Hp}{s:Shared}{R:It->Hp->Prop}{E:Value->Shared->Prop}{lo hi:Int}{t u v:Tok}{tk:Nat}(I:Inv X π σ H s)(h1 : -(2^62)<=lo)(h2:lo<2^62)(h3 : -(2^62)<=hi)(h4:hi<2^62)
  (q:R (Oj lo (hi - lo).toNat) H):wpAny (model X.prog X.w) X.A (pyIter (.ref s.heap.objs.size)) (PIE X π σ tg R) E { s with heap:=s.heap.push { cls:=.type "range",data:=.fields #[.int lo t,.int hi u,.int 1 v] },toks:=tk }:=by
 refine wpAny_pyIter_range (IsRange.new ..) (small_one h1 h2 h3 h4) ?_
 have I1:Inv X π σ H { s with heap:=s.heap.push { cls:=.type "range",data:=.fields #[.int lo t,.int hi u,.int 1 v] },toks:=tk }:=I.kept λb o e=>Heap.get?_push_of_some _ e
 refine⟨(s.heap.push { cls:=.type "range",data:=.fields #[.int lo t,.int hi u,.int 1 v] }).objs.size,[(s.heap.push { cls:=.type "range",data:=.fields #[.int lo t,.int hi u,.int 1 v] }).objs.size],_,_,H,rfl,
  I1.kept (t':=tk) λb o e=>Heap.get?_push_of_some _ e,yO _ lo (hi - lo).toNat,?_,λb hb=>?_,q⟩
 ·have e1:lo+((0:Nat):Int)*1=lo:=by simp
  have e2:(((hi - lo).toNat:Nat):Int) - ((0:Nat):Int)=Builtin.Range.rangeSize lo hi 1:=by rw[rangeSize_one];split <;> lia
  show IsRangeIter _ _ (lo+((0:Nat):Int)*1) ((((hi - lo).toNat:Nat):Int) - ((0:Nat):Int)) 1;rw[e1,e2];exact Heap.get?_push_size _ rfl
 ·have e:b=(s.heap.push { cls:=.type "range",data:=.fields #[.int lo t,.int hi u,.int 1 v] }).objs.size:=by simpa using hb
  subst e;exact I1.fpOk (aad _) (I1.hok.fresh (aad _))
inductive Gq(R:It->Hp->Prop)(vs:List V)(H1:Hp):Prop
 | mk (j:Int) (_:vs=[.int j]) (_ : -(2^62)<=j) (_:j<2^62) (_:R (Oj 0 j.toNat) H1)
def J8(ta:TA):TI:=λ σ H R=>ta σ H λvs H1=>Gq R vs H1
theorem fB{a:Expr}{ta:TA}{p pos:Pos}(hg:Gl X "range")(hm:X.mg "range" = none)(ha:PA X [a] ta)(hs:starEach [a] X.env=[(false,eval a X.env)]:=by rfl):PI X tg (.Call (.Name "range" p) [a] [] pos) (J8 ta):=by
 intro π s σ H R I h;refine Call_ (fu I hg hm boot_range (PyProof.Rows.callWith_type1 (K7 (ha pos π s σ H _ I h) λus s1 ⟨vs,H1,I1,r1,q1⟩=>?_) hs rfl));obtain⟨j,e,q1,q2,q⟩:=q1;subst e;cases r1 with
 | cons r rr =>
  cases rr;obtain⟨t,rfl⟩:=r;exact call_range_1 (Ez I1 (by lia) (by lia) q1 q2 (by simpa using q))
def KH(wi:TI)(g:TG)(tb:TS):TS:=λD σ H=>wi σ H λJ H1=>∃W:Nat->Nat->St->Hp->Prop,(∃m,W 0 m σ H1) /\ ∀i m σ H,W i m σ H ->
 (J.stop i H/\D.nx σ H)\/(J.go i H /\ ∃N:St->Hp->Prop,(∀σ' H',N σ' H' -> ∃m',m'<m/\W (i+1) m' σ' H') /\ ∀x H',J.Nk i H x H'->g x σ H' λ σ2 H2=>tb { D with nx:=N,ct:=N,bk:=D.nx } σ2 H2)
def oR(fp:List Addr)(h:Heap):List (Addr×Obj):=fp.filterMap λb=>(h.get? b).map λo=>(b,o)
theorem fD{fp:List Addr}{h:Heap}{b:Addr}{o:Obj}(hb:b∈fp)(e:h.get? b=some o):(b,o)∈oR fp h:=acn.mpr ⟨b,hb,by rw[e];rfl⟩
theorem Ai{fp:List Addr}{h:Heap}{p:Addr×Obj}(hp:p∈oR fp h):p.1∈fp/\h.get? p.1=some p.2:=by
 obtain⟨b,hb,e⟩:=acn.mp hp;cases q:h.get? b with
 | none=>rw[q]at e;cases e
 | some o =>
  rw[q]at e;have e':(b,o)=p:=aax e;subst e';exact⟨hb,q⟩
theorem Inv.pinned{π:List (Addr×Obj)}{σ:St}{H:Hp}{s:Shared}{fp:List Addr}(I:Inv X π σ H s)(hf:∀b∈fp,fG X π H b)(ho:∀b∈fp,∃o,s.heap.get? b=some o /\ ∀v,o.data ≠ .cell v):Inv X (π++oR fp s.heap) σ H s:=
 I.pins_of λp hp=>(aaK.mp hp).elim (λz=>I.pin p (aas _ z)) λz=>by
  obtain⟨hb,e⟩:=Ai z;obtain⟨f0,f1,f2,_⟩:=hf p.1 hb;obtain⟨o,e',d⟩:=ho p.1 hb;rw[e]at e';cases e';exact⟨e,f0,f1,f2,d⟩
theorem Inv.ξ{π pl:List (Addr×Obj)}{σ:St}{H:Hp}{s:Shared}(I:Inv X (π++pl) σ H s):Inv X π σ H s:=I.pins_of λp hp=>I.pin p (aas _ (aa0 _ hp))
theorem b8{iter:Expr}{body:List Stmt}{wi:TI}{g:TG}{tb:TS}{pos:Pos}(hp:PassesOwn (model X.prog X.w) X.A X.env X.xe)(hc:X.calm=true)(hi:PI X tg iter wi)(hg:PG X tg g)(hb:Ma X body tb)
  (hs:∀x,foldedSetIterable iter X.env x=pure x:=by intro _;rfl):PS X (.For tg iter body [] pos) (KH wi g tb):=by
 intro π s σ H D I h;refine wpAny_For (K7 (hi π s σ H _ I h) λv s1 h1=>K7 h1 λitv s2 h2=>?_) hs;obtain⟨it,fp,tn,J,H2,e,I2,T,st2,f2,W,⟨m0,w0⟩,turn⟩:=h2;subst e;have stat:∀{H':Hp},(∀b∈fp,H' b=none) -> ∀b∈fp,fG X π H' b:=λhn b hb=>⟨hn b hb,(f2 b hb).2⟩;refine codeAny_forLoop_any (λn s'=>∃i σ' H',Inv X π σ' H' s'/\tn i s'.heap/\(∀b∈fp,H' b=none)/\W i n σ' H') ?_ m0 ⟨0,σ,H2,I2,st2,λb hb=>(f2 b hb).1,w0⟩;rintro n s3 ⟨i,σ3,H3,I3,st3,Ol,w3⟩;rcases turn i n σ3 H3 w3 with ⟨stop,qn⟩|⟨go,N,hN,step⟩
 ·refine wpAny_passesOwn hp (K7 (T.done X rfl rfl rfl hc i π s3 σ3 H3 X.xe I3 (stat Ol) st3 stop) λr s4 ⟨hr,I4⟩=>?_);subst hr;exact wpAny_execs_nil ⟨σ3,H3,I4,qn⟩
 ·refine wpAny_passesOwn hp (K7 (T.item X rfl rfl rfl hc i π s3 σ3 H3 X.xe I3 (stat Ol) st3 go) λr s4 ⟨u,hr,h4⟩=>?_);subst hr;refine wpAny_passesOwn hp (K7 h4 λ_ s5 ⟨x,H5,I5,r5,y5,Ng,O8⟩=>?_);have Qv:=I5.pinned (stat O8) (T.obj _ _ Ng);refine wpAny_passesOwn hp (K7 (hg _ s5 σ3 H5 x u _ Qv r5 (step x H5 y5)) λ_ s6 ⟨σ6,H6,I6,q6⟩=>?_);refine wpAny_passesOwn hp (K7 (hb _ s6 σ6 H6 _ I6 q6) λf s7 q7=>?_);have again:∀{σ7:St}{H7:Hp},Inv X (π++oR fp s5.heap) σ7 H7 s7->N σ7 H7 -> ∃m,m<n /\ ∃i σ' H',Inv X π σ' H' s7/\tn i s7.heap/\(∀b∈fp,H' b=none)/\W i m σ' H':=λ{σ7 H7} I7 n7=>by
   obtain⟨m',hm,w7⟩:=hN σ7 H7 n7;refine⟨m',hm,i+1,σ7,H7,I7.ξ,T.keep _ _ _ Ng λb hb o e=>(I7.pin (b,o) (aas _ (aas _ (fD hb e)))).1,λb hb=>?_,w7⟩;obtain⟨o,e,d⟩:=T.obj _ _ Ng b hb;exact(I7.pin (b,o) (aas _ (aas _ (fD hb e)))).2.1
  cases f with
  | next=>obtain⟨σ7,H7,I7,n7⟩:=q7;exact again I7 n7
  | cont=>obtain⟨σ7,H7,I7,n7⟩:=q7;exact again I7 n7
  | brk=>obtain⟨σ7,H7,I7,q7⟩:=q7;exact⟨σ7,H7,I7.ξ,q7⟩
  | ret v=>obtain⟨x7,σ7,H7,I7,r7,q7⟩:=q7;exact⟨x7,σ7,H7,I7.ξ,r7,q7⟩
end
theorem cQ{K:PySem.W.Frag}{a:Addr}{xs:List V}{g:TG}{tb:TS}{D:Ends}{σ:St}{H:Hp}(Pv:Nat->St->Hp->Prop)(h0:Pv 0 σ H)(hl:∀i σ H,i<=xs.length->Pv i σ H->K5 K H a xs)
  (hs:∀i x σ H,xs[i]?=some x->Pv i σ H->g x σ H λ σ2 H2=>tb { D with nx:=Pv (i+1),ct:=Pv (i+1),bk:=D.nx } σ2 H2)(hd:∀σ H,Pv xs.length σ H->D.nx σ H):
  ∃W:Nat->Nat->St->Hp->Prop,(∃m,W 0 m σ H) /\ ∀i m σ H,W i m σ H ->
   ((N7 K a).stop i H/\D.nx σ H)\/((N7 K a).go i H /\ ∃N:St->Hp->Prop,(∀σ' H',N σ' H' -> ∃m',m'<m/\W (i+1) m' σ' H') /\ ∀x H',(N7 K a).Nk i H x H'->g x σ H' λ σ2 H2=>tb { D with nx:=N,ct:=N,bk:=D.nx } σ2 H2):=by
 refine⟨λi m σ H=>m=xs.length - i/\i<=xs.length/\Pv i σ H,⟨xs.length,by simp,aaq _,h0⟩,?_⟩;rintro i m σ H ⟨rfl,hi,p⟩;have q:=hl i σ H hi p;by_cases hlt:i<xs.length
 ·refine .inr ⟨⟨xs,xs[i],q,by simp[hlt]⟩,Pv (i+1),λ σ' H' p'=>⟨xs.length - (i+1),by lia,rfl,hlt,p'⟩,λx H' y=>?_⟩;obtain⟨e,y⟩:=y;subst e;exact hs i x σ _ (y xs q) p
 ·have e:i=xs.length:=by lia
  subst e;exact .inl ⟨⟨xs,q,aad _⟩,hd σ H p⟩
theorem Gm{K:PySem.W.Frag}{a:Addr}{xs:List V}{g:TG}{tb:TS}{D:Ends}{σ:St}{H:Hp}(Pv:Nat->St->Hp->Prop)(h0:Pv 0 σ H)(hl:∀i σ H,i<=xs.length->Pv i σ H->K6 K H a xs)
  (hs:∀i x σ H,xs[i]?=some x->Pv i σ H->g x σ H λ σ2 H2=>tb { D with nx:=Pv (i+1),ct:=Pv (i+1),bk:=D.nx } σ2 H2)(hd:∀σ H,Pv xs.length σ H->D.nx σ H):
  ∃W:Nat->Nat->St->Hp->Prop,(∃m,W 0 m σ H) /\ ∀i m σ H,W i m σ H ->
   ((Qu K a).stop i H/\D.nx σ H)\/((Qu K a).go i H /\ ∃N:St->Hp->Prop,(∀σ' H',N σ' H' -> ∃m',m'<m/\W (i+1) m' σ' H') /\ ∀x H',(Qu K a).Nk i H x H'->g x σ H' λ σ2 H2=>tb { D with nx:=N,ct:=N,bk:=D.nx } σ2 H2):=by
 refine⟨λi m σ H=>m=xs.length - i/\i<=xs.length/\Pv i σ H,⟨xs.length,by simp,aaq _,h0⟩,?_⟩;rintro i m σ H ⟨rfl,hi,p⟩;have q:=hl i σ H hi p;by_cases hlt:i<xs.length
 ·refine .inr ⟨⟨xs,xs[i],q,by simp[hlt]⟩,Pv (i+1),λ σ' H' p'=>⟨xs.length - (i+1),by lia,rfl,hlt,p'⟩,λx H' y=>?_⟩;obtain⟨e,y⟩:=y;subst e;exact hs i x σ _ (y xs q) p
 ·have e:i=xs.length:=by lia
  subst e;exact .inl ⟨⟨xs,q,aad _⟩,hd σ H p⟩
theorem Bj{lo:Int}{n:Nat}{g:TG}{tb:TS}{D:Ends}{σ:St}{H:Hp}(Pv:Nat->St->Hp->Prop)(h0:Pv 0 σ H)
  (hs:∀i σ H,i<n->Pv i σ H->g (.int (lo+i)) σ H λ σ2 H2=>tb { D with nx:=Pv (i+1),ct:=Pv (i+1),bk:=D.nx } σ2 H2)(hd:∀σ H,Pv n σ H->D.nx σ H):
  ∃W:Nat->Nat->St->Hp->Prop,(∃m,W 0 m σ H) /\ ∀i m σ H,W i m σ H ->
   ((Oj lo n).stop i H/\D.nx σ H)\/((Oj lo n).go i H /\ ∃N:St->Hp->Prop,(∀σ' H',N σ' H' -> ∃m',m'<m/\W (i+1) m' σ' H') /\ ∀x H',(Oj lo n).Nk i H x H'->g x σ H' λ σ2 H2=>tb { D with nx:=N,ct:=N,bk:=D.nx } σ2 H2):=by
 refine⟨λi m σ H=>m=n - i/\i<=n/\Pv i σ H,⟨n,by simp,aaq _,h0⟩,?_⟩;rintro i m σ H ⟨rfl,hi,p⟩;by_cases hlt:i<n
 ·refine .inr ⟨hlt,Pv (i+1),λ σ' H' p'=>⟨n - (i+1),by lia,rfl,hlt,p'⟩,λx H' y=>?_⟩;obtain⟨e,y⟩:=y;subst e y;exact hs i σ _ hlt p
 ·have e:i=n:=by lia
  subst e;exact .inl ⟨aad _,hd σ H p⟩
abbrev R2:=V->V->Hp->VK->Prop
def Lp(X:Cx)(f:Value->Value->Sem Value)(r:R2):Prop:=
 ∀(π:List (Addr×Obj)) (s:Shared) (σ:St) (H:Hp) (x y:V) (v u:Value) (Q:VK),Inv X π σ H s->RelV x v->RelV y u->r x y H Q ->
  wpAny (model X.prog X.w) X.A (f v u) (EP X π σ Q) X.xe s
def R6(X:Cx)(f:Value->Sem Value)(r:V->Hp->VK->Prop):Prop:=
 ∀(π:List (Addr×Obj)) (s:Shared) (σ:St) (H:Hp) (x:V) (v:Value) (Q:VK),Inv X π σ H s->RelV x v->r x H Q ->
  wpAny (model X.prog X.w) X.A (f v) (EP X π σ Q) X.xe s
def gH(X:Cx)(f:Value)(r:List V->Hp->VK->Prop):Prop:=
 ∀(π:List (Addr×Obj)) (s:Shared) (σ:St) (H:Hp) (xs:List V) (us:List Value) (Q:VK),Inv X π σ H s->Vals xs us->r xs H Q ->
  wpAny (model X.prog X.w) X.A (call f us) (EP X π σ Q) X.xe s
def Rm(r:R2)(ta tb:TE):TE:=λ σ H Q=>ta σ H λx H1=>tb σ H1 λy H2=>r x y H2 Q
def ZJ(r:V->Hp->VK->Prop)(ta:TE):TE:=λ σ H Q=>ta σ H λx H1=>r x H1 Q
inductive rI(C:Int->Int->Prop)(g:Int->Int->V)(x:V)(y:V)(H:Hp)(Q:VK):Prop
 | mk (i j:_) (_:x=.int i) (_:y=.int j) (_:C i j) (_:Q (g i j) H)
inductive N8(g:Int->Int->V)(x:V)(y:V)(H:Hp)(Q:VK):Prop
 | mk (i j:_) (_:x=.int i) (_:y=.int j) (_:Q (g i j) H)
inductive rU(g:Int->V)(x:V)(H:Hp)(Q:VK):Prop
 | mk (i:_) (_:x=.int i) (_:Q (g i) H)
section
variable{X:Cx}{a b c:Expr}{ta tb tc:TE}{pos:Pos}
theorem Jj(ha:PE X a ta)(hb:PE X b tb){π:List (Addr×Obj)}{s:Shared}{σ:St}{H:Hp}{R:V->V->Hp->Prop}(I:Inv X π σ H s)
  (h:ta σ H λx H1=>tb σ H1 λy H2=>R x y H2){Q:Value->Shared->Prop}{f:Value->Value->Sem Value}
  (hf:∀v u s2 x y H2,Inv X π σ H2 s2->RelV x v->RelV y u->R x y H2->wpAny (model X.prog X.w) X.A (f v u) Q X.xe s2):
  wpAny (model X.prog X.w) X.A (eval a X.env) (λv s₁=>wpAny (model X.prog X.w) X.A (eval b X.env) (λu s₂=>wpAny (model X.prog X.w) X.A (f v u) Q X.xe s₂) X.xe s₁) X.xe s:=by
 refine K7 (ha π s σ H _ I h) λv s1 ⟨x,H1,I1,r1,q1⟩=>?_;refine K7 (hb π s1 σ H1 _ I1 q1) λu s2 ⟨y,H2,I2,r2,q2⟩=>?_;exact hf v u s2 x y H2 I2 r1 r2 q2
theorem aA{op:Operator}{r:R2}(ho:Lp X (binaryOp op) r)(ha:PE X a ta)(hb:PE X b tb):PE X (.BinOp a op b pos) (Rm r ta tb):=by
 intro π s σ H Q I h;exact wpAny_BinOp (Jj ha hb I h λv u s2 x y H2 I2 rx ry q=>ho π s2 σ H2 x y v u Q I2 rx ry q)
theorem oZ{op:UnaryOp}{r:V->Hp->VK->Prop}(ho:R6 X (unaryOp op) r)(ha:PE X a ta):PE X (.UnaryOp op a pos) (ZJ r ta):=by
 intro π s σ H Q I h;exact UnaryOp_ (K7 (ha π s σ H _ I h) λv s1 ⟨x,H1,I1,r1,q1⟩=>ho π s1 σ H1 x v Q I1 r1 q1)
theorem Qw{f:Value->Value->Sem Value}{C:Int->Int->Prop}{g:Int->Int->Int}
  (rule:∀(i j:Int) (t u:Tok) (s:Shared) (Q:Value->Shared->Prop) (E:Value->Shared->Prop),C i j->Q (.int (g i j) s.toks) { s with toks:=s.toks+1 }->wpAny (model X.prog X.w) X.A (f (.int i t) (.int j u)) Q E s):
  Lp X f (rI C λi j=>.int (g i j)):=by
 intro π s σ H x y v u Q I rx ry h;obtain⟨i,j,rfl,rfl,hc,q⟩:=h;obtain⟨t,rfl⟩:=rx;obtain⟨t',rfl⟩:=ry;exact rule i j t t' s _ _ hc ⟨.int (g i j),H,I.tok _,⟨_,rfl⟩,q⟩
theorem Ir{f:Value->Value->Sem Value}{g:Int->Int->Int}
  (rule:∀(i j:Int) (t u:Tok) (s:Shared) (Q:Value->Shared->Prop) (E:Value->Shared->Prop),Q (.int (g i j) s.toks) { s with toks:=s.toks+1 }->wpAny (model X.prog X.w) X.A (f (.int i t) (.int j u)) Q E s):
  Lp X f (N8 λi j=>.int (g i j)):=by
 intro π s σ H x y v u Q I rx ry h;obtain⟨i,j,rfl,rfl,q⟩:=h;obtain⟨t,rfl⟩:=rx;obtain⟨t',rfl⟩:=ry;exact rule i j t t' s _ _ ⟨.int (g i j),H,I.tok _,⟨_,rfl⟩,q⟩
theorem GP{f:Value->Value->Sem Value}{g:Int->Int->Bool}
  (rule:∀(i j:Int) (t u:Tok) (s:Shared) (Q:Value->Shared->Prop) (E:Value->Shared->Prop),Q (.bool (g i j)) s->wpAny (model X.prog X.w) X.A (f (.int i t) (.int j u)) Q E s):
  Lp X f (N8 λi j=>.bl (g i j)):=by
 intro π s σ H x y v u Q I rx ry h;obtain⟨i,j,rfl,rfl,q⟩:=h;obtain⟨t,rfl⟩:=rx;obtain⟨t',rfl⟩:=ry;exact rule i j t t' s _ _ ⟨.bl (g i j),H,I,rfl,q⟩
def KR(i j:Int):Prop:=0<j/\j<1073741824
def Kq(i j:Int):Prop:=0<=j/\j<=1000000/\i.natAbs<2^64
def HB(i j:Int):Prop:=(-(2^64)<i/\i<2^64)\/(-(2^64)<j/\j<2^64)
theorem HB.ok{i j:Int}(h:HB i j):IntMulOk i j:=by
 rcases h with ⟨h1,h2⟩|⟨h1,h2⟩
 ·exact .of_left (intBits_le_64 h1 h2)
 ·exact .of_right (intBits_le_64 h1 h2)
theorem yh(k:Nat):(0:Int)<=2^k:=by
 rw[two_pow_cast];exact Int.natCast_nonneg _
theorem bG:Lp X (binaryOp .Add) (N8 λi j=>.int (i+j)):=Ir λ_ _ _ _ _ _ _ q=>add_int q
theorem bu:Lp X (binaryOp .Sub) (N8 λi j=>.int (i - j)):=Ir λ_ _ _ _ _ _ _ q=>sub_int q
theorem bT:Lp X (binaryOp .Mult) (rI HB λi j=>.int (i*j)):=Qw λ_ _ _ _ _ _ _ hc q=>mul_int q hc.ok
theorem dZ:Lp X (binaryOp .FloorDiv) (rI KR λi j=>.int (i / j)):=Qw λi j _ _ _ _ _ hc q=>by
 have h1:(0:Int)<j:=hc.1;have h2:j<1073741824:=hc.2;exact floordiv_int (by lia) (by rw[acF i (by lia)];exact q) (.inl (PyProof.noPylong_small (by lia)))
theorem bj:Lp X (binaryOp .Mod) (rI (λ_ j=>0<j) λi j=>.int (i%j)):=Qw λi j _ _ _ _ _ hc q=>by
 have h1:(0:Int)<j:=hc;exact mod_int' (by lia) (by rw[Int.fmod_eq_emod_of_nonneg i (by lia)];exact q)
theorem jo:Lp X (binaryOp .Pow) (rI Kq λi j=>.int (i^j.toNat)):=Qw λ_ _ _ _ _ _ _ hc q=>pow_int_small hc.1 hc.2.1 hc.2.2 q
theorem Ij:Lp X (binaryOp .RShift) (rI (λ_ j=>0<=j) λi j=>.int (i / 2^j.toNat)):=Qw λi j _ _ _ _ _ hc q =>
 rshift_int hc (by rw[acF i (yh _)];exact q)
theorem Jh:Lp X (binaryOp .BitAnd) (N8 λi j=>.int (Builtin.bitAnd i j)):=Ir λ_ _ _ _ _ _ _ q=>and_int q
theorem ZK{f:Value->Sem Value}{g:Int->Int}
  (rule:∀(i:Int) (t:Tok) (s:Shared) (Q:Value->Shared->Prop) (E:Value->Shared->Prop),Q (.int (g i) s.toks) { s with toks:=s.toks+1 }->wpAny (model X.prog X.w) X.A (f (.int i t)) Q E s):
  R6 X f (rU λi=>.int (g i)):=by
 intro π s σ H x v Q I rx h;obtain⟨i,rfl,q⟩:=h;obtain⟨t,rfl⟩:=rx;exact rule i t s _ _ ⟨.int (g i),H,I.tok _,⟨_,rfl⟩,q⟩
theorem jO:R6 X (unaryOp .USub) (rU λi=>.int (-i)):=ZK λ_ _ _ _ _ q=>neg_int q
end
def JZ:V->V->Bool
 | .non,.non=>true | .non,.int _=>true | .int _,.non=>true | .non,.bl _=>true | .bl _,.non=>true | .non,.str _=>true | .str _,.non=>true
 | .int _,.int _=>true | .bl _,.bl _=>true | .str _,.str _=>true | .Nj _,.Nj _=>true
 | .int _,.str _=>true | .str _,.int _=>true | .bl _,.str _=>true | .str _,.bl _=>true
 | _,_=>false
def ZL:R2:=λx y H Q=>JZ x y=true/\Q (.bl (decide (x=y))) H
def ZM:R2:=λx y H Q=>JZ x y=true/\Q (.bl (!decide (x=y))) H
theorem zy{i j:Int}:decide (V.int i=V.int j)=(i == j):=by
 rw[acA];simp
theorem Ey{i j:Bool}:decide (V.bl i=V.bl j)=(i == j):=by
 rw[acA];simp
theorem zT{i j:Str}:decide (V.str i=V.str j)=(i == j):=by
 rw[acA];simp
theorem zQ{i j:Array UInt8}:decide (V.Nj i=V.Nj j)=(i.toList == j.toList):=by
 rw[acA];cases i;cases j;simp
section
variable{X:Cx}{a b c:Expr}{ta tb tc:TE}{pos:Pos}
theorem bF{π:List (Addr×Obj)}{σ:St}{H:Hp}{s:Shared}{Q:VK}{k k':Bool}(I:Inv X π σ H s)(q:Q (.bl k) H)(e:k=k'):EP X π σ Q (.bool k') s:=by
 subst e;exact⟨.bl k,H,I,rfl,q⟩
theorem bD:Lp X (compareOp .Eq) ZL:=by
 intro π s σ H x y v u Q I rx ry h;obtain⟨hs,q⟩:=h;cases x with
 | non =>
  cases rx;cases y with
  | non=>cases ry;exact PySem.EqNone.eq_none_none (bF I q (by simp))
  | bl j=>cases ry;exact PySem.EqNone.eq_none_bool (bF I q (by simp))
  | int j=>obtain⟨t',rfl⟩:=ry;exact PySem.EqNone.eq_none_int (bF I q (by simp))
  | str j=>obtain⟨t',rfl⟩:=ry;exact PySem.EqNone.eq_none_str (bF I q (by simp))
  | _=>exact absurd (show false=true from hs) aat
 | bl i =>
  cases rx;cases y with
  | non=>cases ry;exact PySem.EqNone.eq_bool_none (bF I q (by simp))
  | bl j=>cases ry;exact eq_bool (bF I q Ey)
  | str j=>obtain⟨t',rfl⟩:=ry;exact PySem.EqMixed.eq_bool_str (bF I q (by simp))
  | _=>exact absurd (show false=true from hs) aat
 | int i =>
  obtain⟨t,rfl⟩:=rx;cases y with
  | non=>cases ry;exact PySem.EqNone.eq_int_none (bF I q (by simp))
  | int j=>obtain⟨t',rfl⟩:=ry;exact eq_int (bF I q zy)
  | str j=>obtain⟨t',rfl⟩:=ry;exact PySem.EqMixed.eq_int_str (bF I q (by simp))
  | _=>exact absurd (show false=true from hs) aat
 | str i =>
  obtain⟨t,rfl⟩:=rx;cases y with
  | non=>cases ry;exact PySem.EqNone.eq_str_none (bF I q (by simp))
  | bl j=>cases ry;exact PySem.EqMixed.eq_str_bool (bF I q (by simp))
  | int j=>obtain⟨t',rfl⟩:=ry;exact PySem.EqMixed.eq_str_int (bF I q (by simp))
  | str j=>obtain⟨t',rfl⟩:=ry;exact eq_str (bF I q zT)
  | _=>exact absurd (show false=true from hs) aat
 | Nj i =>
  obtain⟨t,rfl⟩:=rx;cases y with
  | Nj j=>obtain⟨t',rfl⟩:=ry;exact PySem.W.eq_bytes (bF I q zQ)
  | _=>exact absurd (show false=true from hs) aat
 | _=>cases y <;> exact absurd (show false=true from hs) aat
theorem vN:Lp X (compareOp .NotEq) ZM:=by
 intro π s σ H x y v u Q I rx ry h;obtain⟨hs,q⟩:=h;cases x with
 | non =>
  cases rx;cases y with
  | non=>cases ry;exact PySem.EqNone.ne_none_none (bF I q (by simp))
  | bl j=>cases ry;exact PySem.EqNone.ne_none_bool (bF I q (by simp))
  | int j=>obtain⟨t',rfl⟩:=ry;exact PySem.EqNone.ne_none_int (bF I q (by simp))
  | str j=>obtain⟨t',rfl⟩:=ry;exact PySem.EqNone.ne_none_str (bF I q (by simp))
  | _=>exact absurd (show false=true from hs) aat
 | bl i =>
  cases rx;cases y with
  | non=>cases ry;exact PySem.EqNone.ne_bool_none (bF I q (by simp))
  | bl j=>cases ry;exact ne_bool (bF I q (congrArg not Ey))
  | str j=>obtain⟨t',rfl⟩:=ry;exact PySem.EqMixed.ne_bool_str (bF I q (by simp))
  | _=>exact absurd (show false=true from hs) aat
 | int i =>
  obtain⟨t,rfl⟩:=rx;cases y with
  | non=>cases ry;exact PySem.EqNone.ne_int_none (bF I q (by simp))
  | int j=>obtain⟨t',rfl⟩:=ry;exact ne_int (bF I q (congrArg not zy))
  | str j=>obtain⟨t',rfl⟩:=ry;exact PySem.EqMixed.ne_int_str (bF I q (by simp))
  | _=>exact absurd (show false=true from hs) aat
 | str i =>
  obtain⟨t,rfl⟩:=rx;cases y with
  | non=>cases ry;exact PySem.EqNone.ne_str_none (bF I q (by simp))
  | bl j=>cases ry;exact PySem.EqMixed.ne_str_bool (bF I q (by simp))
  | int j=>obtain⟨t',rfl⟩:=ry;exact PySem.EqMixed.ne_str_int (bF I q (by simp))
  | str j=>obtain⟨t',rfl⟩:=ry;exact ne_str (bF I q (congrArg not zT))
  | _=>exact absurd (show false=true from hs) aat
 | Nj i =>
  obtain⟨t,rfl⟩:=rx;cases y with
  | Nj j=>obtain⟨t',rfl⟩:=ry;exact PySem.W.ne_bytes (bF I q (congrArg not zQ))
  | _=>exact absurd (show false=true from hs) aat
 | _=>cases y <;> exact absurd (show false=true from hs) aat
theorem iD:Lp X (compareOp .Lt) (N8 λi j=>.bl (decide (i<j))):=GP λ_ _ _ _ _ _ _ q=>lt_int q
theorem oX:Lp X (compareOp .LtE) (N8 λi j=>.bl (decide (i<=j))):=GP λ_ _ _ _ _ _ _ q=>le_int q
theorem mq:Lp X (compareOp .Gt) (N8 λi j=>.bl (decide (j<i))):=GP λ_ _ _ _ _ _ _ q=>gt_int q
theorem Af:Lp X (compareOp .GtE) (N8 λi j=>.bl (decide (j<=i))):=GP λ_ _ _ _ _ _ _ q=>ge_int q
theorem aO(b:Expr){op:CmpOp}(h:op ≠ .In:=by decide)(h2:op ≠ .NotIn:=by decide):behindInMarks op b=false:=by
 have e1:(op == CmpOp.In)=false:=by cases op <;> first|rfl|exact absurd rfl h
 have e2:(op == CmpOp.NotIn)=false:=by cases op <;> first|rfl|exact absurd rfl h2
 cases b <;> simp[behindInMarks,e1,e2]
theorem zV{op:CmpOp}{r:R2}(ho:Lp X (compareOp op) r)(ha:PE X a ta)(hb:PE X b tb)(hm:behindInMarks op b=false):PE X (.Compare a [op] [b] pos) (Rm r ta tb):=by
 intro π s σ H Q I h;exact wpAny_Compare1 (Jj ha hb I h λv u s2 x y H2 I2 rx ry q=>ho π s2 σ H2 x y v u Q I2 rx ry q) hm
inductive Ft(Q:Bool->Hp->Prop)(x:V)(H':Hp):Prop
 | mk (k:_) (_:x=.bl k) (_:Q k H')
def Em(t:TE):TT:=λ σ H Q=>t σ H λx H'=>Ft Q x H'
theorem aH{op:CmpOp}{r:R2}(ho:Lp X (compareOp op) r)(ha:PE X a ta)(hb:PE X b tb)(hm:behindInMarks op b=false):PT X (.Compare a [op] [b] pos) (Em (Rm r ta tb)):=by
 intro π s σ H Q I h;refine wpAny_isTrue_Compare1 (K7 (ha π s σ H _ I h) λv s1 ⟨x,H1,I1,r1,q1⟩=>K7 (hb π s1 σ H1 _ I1 q1) λu s2 ⟨y,H2,I2,r2,q2⟩ =>
  K7 (ho π s2 σ H2 x y v u _ I2 r1 r2 q2) λc s3 ⟨z,H3,I3,r3,k,e,q3⟩=>?_) hm
 subst e;cases r3;exact wpAny_truthy_bool ⟨H3,I3,q3⟩
inductive Du(r':R2)(tc:TE)(σ:St)(Q:VK)(y:V)(z:V)(H3:Hp):Prop
 | mk (k:_) (_:z=.bl k) (_:(if k=true then tc σ H3 λw' H4=>r' y w' H4 Q else Q (.bl false) H3))
def Hn(r r':R2)(ta tb tc:TE):TE:=λ σ H Q=>ta σ H λx H1=>tb σ H1 λy H2=>r x y H2 λz H3=>Du r' tc σ Q y z H3
theorem qH{op op':CmpOp}{r r':R2}(ho:Lp X (compareOp op) r)(ho':Lp X (compareOp op') r')(ha:PE X a ta)(hb:PE X b tb)(hc:PE X c tc)
  (hm:lastMarks [op,op'] [b,c]=false:=by with_unfolding_all rfl):PT X (.Compare a [op,op'] [b,c] pos) (Em (Hn r r' ta tb tc)):=by
 intro π s σ H Q I h;refine isTrue_chain (K7 (ha π s σ H _ I h) λv s1 ⟨x,H1,I1,r1,q1⟩=>test_link (K7 (hb π s1 σ H1 _ I1 q1) λu s2 ⟨y,H2,I2,r2,q2⟩ =>
  K7 (ho π s2 σ H2 x y v u _ I2 r1 r2 q2) λd s3 ⟨z,H3,I3,r3,k,e,q3⟩=>?_)) hm
 subst e;cases r3;refine wpAny_truthy_bool ?_;cases k with
 | false =>
  obtain⟨k',e',q'⟩:=q3;cases e';exact ite_ff ⟨H3,I3,q'⟩
 | true =>
  refine ite_tt (test_last (K7 (hc π s3 σ H3 _ I3 q3) λw' s4 ⟨z',H4,I4,r4,q4⟩=>K7 (ho' π s4 σ H4 y z' u w' _ I4 r2 r4 q4) λd' s5 ⟨z2,H5,I5,r5,k2,e2,q5⟩=>?_));subst e2;cases r5;exact wpAny_truthy_bool ⟨H5,I5,q5⟩
theorem vm:(sizeLine:Nat)<2^63:=by rw[sizeLine_eq];decide
theorem vals1{x:V}{us:List Value}(r:Vals [x] us):∃u,us=[u]/\RelV x u:=by
 cases r with
 | cons r1 r2=>cases r2;exact⟨_,rfl,r1⟩
theorem vals2{x y:V}{us:List Value}(r:Vals [x,y] us):∃u w',us=[u,w']/\RelV x u/\RelV y w':=by
 cases r with
 | cons r1 r2 =>
  cases r2 with
  | cons r3 r4=>cases r4;exact⟨_,_,rfl,r1,r3⟩
theorem El:gH X (.builtin "abs") (λxs H Q=>∃i,xs=[.int i]/\Q (.int (if i<0 then -i else i)) H):=by
 intro π s σ H xs us Q I r h;obtain⟨i,rfl,q⟩:=h;obtain⟨u,rfl,t,rfl⟩:=vals1 r;exact call_abs_int λu tk=>⟨.int (if i<0 then -i else i),H,I.tok _,⟨_,rfl⟩,q⟩
theorem Bf(hc:X.calm=true):gH X (.builtin "max") (λxs H Q=>∃i j,xs=[.int i,.int j]/\Q (.int (if j > i then j else i)) H):=by
 intro π s σ H xs us Q I r h;obtain⟨i,j,rfl,q⟩:=h;obtain⟨u,w',rfl,⟨t,rfl⟩,⟨t',rfl⟩⟩:=vals2 r;refine max_two_ints (I.ok.hd hc) λh' tk k=>⟨_,H,I.kept k,?_,q⟩;by_cases hj:j > i
 ·rw[if_pos hj,if_pos hj];exact⟨_,rfl⟩
 ·rw[if_neg hj,if_neg hj];exact⟨_,rfl⟩
theorem nH(hc:X.calm=true):gH X (.builtin "min") (λxs H Q=>∃i j,xs=[.int i,.int j]/\Q (.int (if j<i then j else i)) H):=by
 intro π s σ H xs us Q I r h;obtain⟨i,j,rfl,q⟩:=h;obtain⟨u,w',rfl,⟨t,rfl⟩,⟨t',rfl⟩⟩:=vals2 r;refine min_two_ints (I.ok.hd hc) λh' tk k=>⟨_,H,I.kept k,?_,q⟩;by_cases hj:j<i
 ·rw[if_pos hj,if_pos hj];exact⟨_,rfl⟩
 ·rw[if_neg hj,if_neg hj];exact⟨_,rfl⟩
end
structure Hv(h:Heap)(x dx C:Addr)(mA:Str->Option Value):Prop where
 obj:h.get? x=some (PySem.W.instObj C dx)
 ns:h.Ns1 dx mA
 ne:dx≠x
theorem Bu{h:Heap}{dx:Addr}{mA:Str->Option Value}(n:h.Ns1 dx mA):∃od,h.get? dx=some od /\ ∀name,PySem.W.lookIn name od=some (mA name):=by
 obtain⟨o,es,ep,ho,hd,hk,_,hm⟩:=n;refine⟨o,ho,λname=>?_⟩;have e:=hm name;unfold nsFind findBy at e;rw[<-Array.find?_toList]at e;unfold PySem.W.lookIn;rw[hd];dsimp only;split
 ·rename_i y q;rw[q]at e;exact congrArg some e
 ·rename_i q;rw[q]at e;have a:es.toList.any (·.refKey)=false:=by
   rw[List.any_eq_false];intro y hy;obtain⟨z,t,hkey⟩:=hk y (Array.mem_toList_iff.mp hy);simp[DictEntry.refKey,hkey]
  have a':¬es.toList.any (·.refKey)=true:=by rw[a];exact aat
  rw[if_neg a'];exact congrArg some e
theorem Hv.look{h:Heap}{x dx C:Addr}{mA:Str->Option Value}(I:Hv h x dx C mA):∃od,PySem.W.InstAt h x (PySem.W.instObj C dx) C (some od) /\ ∀name,PySem.W.lookIn name od=some (mA name):=
 let ⟨od,ho,hl⟩:=Bu I.ns
 ⟨od,⟨I.obj,rfl,rfl,ho⟩,hl⟩
section
variable{prog:Program}{w:World}{A:Around}{E:Value->Shared->Prop}{s:Shared}{K:PySem.W.Frag}{x dx C f:Addr}{mA:Str->Option Value}{name:Str}{v:Value}
end
theorem p6.some_of{v:V}{o:Option Value}(r:p6 (some v) o):∃u,o=some u/\RelV v u:=by
 cases o with
 | none=>exact(show False from r).elim
 | some u=>exact⟨u,rfl,r⟩
section
variable{P:Program}{w:World}{H H':Hp}{h h':Heap}{a C dx:Addr}{fs fs':List (Str×V)}
theorem FT(hok:Lf P w H h)(e:H a=some (.ins C dx fs)):∃mA,Hv h a dx C mA/\(∀f,p6 (fs.lookup f) (mA f))/\PySem.Within mA (fs.map (·.1))/\fs.length<=1000/\H dx=some (.own a):=by
 obtain⟨d,z,ne,ob,mA,n,r,q⟩:=(show bI P w H h a (.ins C dx fs)from hok a _ e);exact⟨mA,⟨ob,n,ne⟩,r,q,z,d⟩
end
structure R7(K:PySem.W.Frag)(C:Addr):Prop where
 pg:PySem.W.plainGet K C Str.empty=true
 hd:PySem.W.hasDictIn K C=true
 po:PySem.W.plainOver K C=true
 sa:PySem.W.findIn K (.ref C) "__setattr__" = some (some (.builtin "object.__setattr__"))
theorem R7.get{K:PySem.W.Frag}{C:Addr}(c:R7 K C)(f:Str):PySem.W.plainGet K C f=true:=c.pg
section
variable{X:Cx}{π:List (Addr×Obj)}{σ:St}{H:Hp}{s:Shared}{a C dx:Addr}{fs:List (Str×V)}{f:Str}{v:V}{A:Around}{E:Value->Shared->Prop}
end
section
variable{X:Cx}{o e value:Expr}{f:Str}{pos pos' tpos:Pos}{ta tv:TE}
end
section
variable{X:Cx}{π:List (Addr×Obj)}{σ:St}{H:Hp}{s:Shared}{A:Around}{E:Value->Shared->Prop}{Q:Value->Shared->Prop}{c:Value}{b:Bool}
inductive oO(K:PySem.W.Frag)(H:Hp):V->Value->Prop where
 | non:oO K H .non (.type "NoneType")
 | bl (x:Bool):oO K H (.bl x) (.type "bool")
 | int (i:Int):oO K H (.int i) (.type "int")
 | str (x:Str):oO K H (.str x) (.type "str")
 | flt (x:UInt64):oO K H (.flt x) (.type "float")
 | lst {a:Addr}{xs:List V} (e:H a=some (.lst xs)):oO K H (.ref a) (.type "list")
 | Mi {a:Addr}{o:Obj}{xs:List V} (e:H a=some (.Mi o (.lst xs))):oO K H (.ref a) (.type "list")
 | tup {a:Addr}{xs:List V} (e:H a=some (.tup xs)):oO K H (.ref a) (.type "tuple")
 | dK {a:Addr}{kvs:List (Key×V)} (e:H a=some (.dK kvs)):oO K H (.ref a) (.type "dict")
 | dT {a:Addr}{kvs:List (List Key×V)} (e:H a=some (.dT kvs)):oO K H (.ref a) (.type "dict")
 | ins {a C dx:Addr}{fs:List (Str×V)} (e:H a=some (.ins C dx fs)) (cl:R7 K C) (ha:PySem.W.findIn K (.ref C) "__class__" = some (some (.builtin "object.__class__")))
   (hn:PySem.W.specialIn K (.builtin "object.__class__") "__get__" = some (some (.builtin "getset_descriptor.__get__"))) (htk:PySem.W.takesIn K (.builtin "object.__class__")=some true)
   (hm:PySem.W.mroIn K C (.type "object")=some true):oO K H (.ref a) (.ref C)
theorem Cg{x:V}{u t:Value}(I:Inv X π σ H s)(rx:RelV x u)(ty:oO X.K H x t)(e:PySem.W.kitOne X.K t c=some b)(h:∀tk,Q (.bool b) { s with toks:=tk }):
  wpAny (model X.prog X.w) A (call (.builtin "isinstance") [u,c]) Q E s:=by
 cases ty with
 | non=>cases (show u=Value.none from rx);exact PySem.W.kia_one PySem.W.kitx_none I.Mj True.intro e (λz=>nomatch z) h
 | bl y=>cases (show u=Value.bool y from rx);exact PySem.W.kia_one PySem.W.kitx_bool I.Mj True.intro e (λz=>nomatch z) h
 | int i=>obtain⟨t,q⟩:=(show ∃t,u=Value.int i t from rx);cases q;exact PySem.W.kia_one PySem.W.kitx_int I.Mj True.intro e (λz=>nomatch z) h
 | str y=>obtain⟨t,q⟩:=(show ∃t,u=Value.str y t from rx);cases q;exact PySem.W.kia_one PySem.W.kitx_str I.Mj True.intro e (λz=>nomatch z) h
 | flt y=>obtain⟨t,q⟩:=(show ∃t,u=Value.float y t from rx);cases q;exact PySem.W.kia_one PySem.W.kitx_float I.Mj True.intro e (λz=>nomatch z) h
 | @lst a xs ea =>
  cases (show u=Value.ref a from rx);obtain⟨_,_,n,_,h1⟩:=(show bI X.prog X.w H s.heap a (.lst xs)from I.hok a _ ea);exact PySem.W.kia_one PySem.W.kitx_list I.Mj ⟨_,h1,rfl⟩ e (λz=>nomatch z) h
 | @Mi a ob xs ea =>
  cases (show u=Value.ref a from rx);obtain⟨_,_,_,n,_,h1⟩:=(show bI X.prog X.w H s.heap a (.Mi ob (.lst xs))from I.hok a _ ea);exact PySem.W.kia_one PySem.W.kitx_list I.Mj ⟨_,h1,rfl⟩ e (λz=>nomatch z) h
 | @tup a xs ea =>
  cases (show u=Value.ref a from rx);obtain⟨_,_,_,p⟩:=(show bI X.prog X.w H s.heap a (.tup xs)from I.hok a _ ea);obtain⟨o,h1,h2,_⟩:=p;exact PySem.W.kia_one PySem.W.kitx_tuple I.Mj ⟨o,h1,h2⟩ e (λz=>nomatch z) h
 | @dK a kvs ea =>
  cases (show u=Value.ref a from rx);obtain⟨_,_,vs,_,p⟩:=(show bI X.prog X.w H s.heap a (.dK kvs)from I.hok a _ ea);obtain⟨o,es,ep,h1,h2,_⟩:=p;exact PySem.W.kia_one PySem.W.kitx_dict I.Mj ⟨o,h1,h2.1⟩ e (λz=>nomatch z) h
 | @dT a kvs ea =>
  cases (show u=Value.ref a from rx);obtain⟨_,_,xs,_,o,es,ep,h1,h2,_⟩:=(show bI X.prog X.w H s.heap a (.dT kvs)from I.hok a _ ea);exact PySem.W.kia_one PySem.W.kitx_dict I.Mj ⟨o,h1,h2.1⟩ e (λz=>nomatch z) h
 | @ins a C dx fs ea cl ha hn htk hm =>
  cases (show u=Value.ref a from rx);obtain⟨mA,O,_⟩:=FT I.hok ea;obtain⟨od,J,_⟩:=O.look;exact PySem.W.kia_one (PySem.W.kitx_own (cl.get _) cl.hd ha hn htk hm) I.Mj J e (λz=>nomatch z) h
end
structure eY(k:Nat)(A:Around):Prop where
 hd:A.handled=none
 dp:A.depth+3*k+5<recursionLimit
 un:A.units+16*k+200<cLine
theorem eY.mono{j k:Nat}{A:Around}(r:eY k A)(h:j<=k):eY j A:=⟨r.hd,by have:=r.dp;lia,by have:=r.un;lia⟩
theorem eY.deeper{k:Nat}{A:Around}(r:eY (k+1) A)(env:Env):eY k (A.deeper env):=
 ⟨r.hd,by have:=r.dp;show A.depth+1+3*k+5<_;lia,by have:=r.un;show A.units+3+16*k+200<_;lia⟩
theorem eY.depth{k:Nat}{A:Around}(r:eY k A):A.depth<recursionLimit:=by have:=r.dp;lia
theorem eY.units{k:Nat}{A:Around}(r:eY k A):A.units+64<cLine:=by have:=r.un;lia
def KD:TA:=λ_ H Q=>Q [] H
def J2(ta:TE)(tr:TA):TA:=λ σ H Q=>ta σ H λx H1=>tr σ H1 λxs H2=>Q (x::xs) H2
section
variable{X:Cx}{e:Expr}{es:List Expr}{te:TE}{t:TA}{pos:Pos}
theorem ao:PA X [] KD:=λ_ _ _ _ H Q I h=>Calls.spliced_nil ⟨[],H,I,.nil,h⟩
theorem aa(ha:PE X e te)(hr:PA X es t)(hs:starEach (e::es) X.env=(false,eval e X.env)::starEach es X.env:=by rfl):PA X (e::es) (J2 te t):=by
 intro pos π s σ H Q I h;rw[hs];show wpAny _ _ (spliced ((false,eval e X.env)::backTo pos (starEach es X.env))) _ _ s;refine Calls.spliced_cons (K7 (ha π s σ H _ I h) λu s1 ⟨x,H1,I1,r1,q1⟩=>?_);exact K7 (hr pos π s1 σ H1 _ I1 q1) λus s2 ⟨xs,H2,I2,r2,q2⟩=>⟨x::xs,H2,I2,.cons r1 r2,q2⟩
def K4(t:TA):TE:=λ σ H Q=>t σ H λxs H1=>xs.length<=sizeLine /\ ∀p,H1 p=none->Q (.ref p) (upd H1 p (.tup xs))
def K1(t:TA):TE:=λ σ H Q=>t σ H λxs H1=>xs.length<=sizeLine /\ ∀p,H1 p=none->Q (.ref p) (upd H1 p (.lst xs))
theorem bU{x1}(h:PA X es t):PE X (.Tuple es x1 pos) (K4 t):=by
 intro π s σ H Q I hq;refine wpAny_Tuple_spliced (K7 (h pos π s σ H _ I hq) λus s1 ⟨xs,H1,I1,r,z,q⟩=>⟨by rw[<-r.length];exact z,?_⟩);have hf:H1 s1.heap.objs.size=none:=I1.hok.fresh (aad _);refine⟨.ref s1.heap.objs.size,upd H1 s1.heap.objs.size (.tup xs),I1.laid (t':=s1.toks) (λb u e=>Heap.get?_push_of_some _ e) (aad _) ?_,rfl,q _ hf⟩;exact⟨z,us,r,⟨_,Heap.get?_push_size _ rfl,rfl,_,rfl⟩⟩
theorem bR(h:PA X es t):PE X (.List es pos) (K1 t):=by
 intro π s σ H Q I hq;refine wpAny_List_spliced (K7 (h pos π s σ H _ I hq) λus s1 ⟨xs,H1,I1,r,z,q⟩=>⟨by rw[<-r.length];exact z,?_⟩);have hf:H1 s1.heap.objs.size=none:=I1.hok.fresh (aad _);refine⟨.ref s1.heap.objs.size,upd H1 s1.heap.objs.size (.lst xs),I1.laid (t':=s1.toks) (λb u e=>Heap.get?_push_of_some _ e) (aad _) ?_,rfl,q _ hf⟩;exact⟨z,us,0,r,Heap.get?_push_size _ rfl⟩
end
abbrev Sp:=List V->Hp->VK->XK->Prop
abbrev Mx:=List Env->Hp->Shared->XK->Value->Shared->Prop
structure yq(P:Program)(w:World)(K:PySem.W.Frag)(mg:Str->Option Value)(base:Heap)(A:Around)(outer:List Env)(s:Shared)(H:Hp):Prop where
 frames:A.frames=some outer
 mod:Mod K mg base
 bs:∀b o,base.get? b=some o->s.heap.get? b=some o/\H b=none
 Mv:base.objs.size<=s.heap.objs.size
 funs:s.heap.FunFrames base outer
 Nf:∀b∈frs outer,H b=none
 hok:Lf P w H s.heap
 bare:AllBare s.gens
inductive CE(outer:List Env)(P:Program)(w:World)(H:Hp)(s:Shared)(Q:VK)(u:Value)(s':Shared):Prop
 | mk (v H':_) (_:s'.os=s.os) (_:AllBare s'.gens) (_:Un (frs outer) [] H H' s.heap s'.heap) (_:Lf P w H' s'.heap) (_:RelV v u) (_:Q v H')
def CR(CX:Mx)(outer:List Env)(P:Program)(w:World)(H:Hp)(s:Shared)(Q:VK)(E:XK)(r:Result)(s':Shared):Prop:=
 match r with
 | .ok (.ret u)=>CE outer P w H s Q u s'
 | .ok _=>False
 | .error e=>CX outer H s E e s'
structure bh(P:Program)(w:World)(K:PySem.W.Frag)(mg:Str->Option Value)(base:Heap)(CX:Mx)(k:Nat)(f:Addr)(fd:FuncData)(ps:List Str)(sp:Sp):Prop where
 len:∀vs H Q E,sp vs H Q E->vs.length=ps.length
 run:∀(A:Around) (outer:List Env) (s:Shared) (H:Hp) (args:Args) (us:List Value) (vs:List V) (Q:VK) (E:XK),eY k A->yq P w K mg base A outer s H->BindsTo s fd args (ps.zip us)->Vals vs us->sp vs H Q E ->
  codeAny (model P w) A (.call (.ref f) args) (CR CX outer P w H s Q E) s
theorem bh.mono{P:Program}{w:World}{K:PySem.W.Frag}{mg:Str->Option Value}{base:Heap}{CX:Mx}{j k:Nat}{f:Addr}{fd:FuncData}{ps:List Str}{sp:Sp}(F:bh P w K mg base CX j f fd ps sp)(h:j<=k):
  bh P w K mg base CX k f fd ps sp:=⟨F.len,λA outer s H args us vs Q E hr=>F.run A outer s H args us vs Q E (hr.mono h)⟩
section
variable{X:Cx}{π:List (Addr×Obj)}{σ:St}{H:Hp}{s s':Shared}
theorem Inv.env0(I:Inv X π σ H s):yq X.prog X.w X.K X.mg X.base X.A X.stack s H:=
 ⟨I.ok.frames,I.ok.mod,I.bs,aaS I.ok.Mv I.sz,I.stack,I.stkFree,I.hok,I.bare⟩
theorem Inv.after{Q:VK}{u:Value}(I:Inv X π σ H s)(h:CE X.stack X.prog X.w H s Q u s'):EP X π σ Q u s':=by
 obtain⟨v,H',os,bare,un,hok,r,q⟩:=h;obtain⟨hh,g,d,t,os'⟩:=s';obtain rfl:os'=s.os:=os;exact⟨v,H',I.call (h':=hh) (g':=g) (d':=d) (t':=t) (ch:=[]) un hok bare (λb z=>absurd z (by simp)),r,q⟩
end
def Hi(sp:Sp)(Oa:List V)(E:XK)(t:TA):TE:=λ σ H Q=>t σ H λvs H1=>sp (vs++Oa) H1 Q E
def Binds(K:PySem.W.Frag)(fd:FuncData)(ps:List Str)(ds:List Value):Prop:=
 ∀(s:Shared) (us:List Value),K.In s.heap->(us++ds).length=ps.length->BindsTo s fd ⟨us,[]⟩ (ps.zip (us++ds))
theorem Binds.all{K:PySem.W.Frag}{fd:FuncData}{ps:List Str}(h:∀us:List Value,us.length=ps.length->bindArgs fd ⟨us,[]⟩=pure (ps.zip us)):Binds K fd ps []:=λs us _ hl=>by
 rw[abv]at hl ⊢;exact .of_eq (h us hl)
def lX(CX:Mx)(X:Cx)(E:XK):Prop:=∀(π:List (Addr×Obj)) (σ:St) (H:Hp) (s:Shared) (e:Value) (s':Shared),Inv X π σ H s->CX X.stack H s E e s'->X.xe e s'
section
variable{X:Cx}{CX:Mx}{k:Nat}{f C:Addr}{fd:FuncData}{ps:List Str}{sp:Sp}{Oa:List V}{ds:List Value}{E:XK}{x m:Str}{p pos apos:Pos}{e o:Expr}{es:List Expr}{ta:TE}{t:TA}
theorem Hr{π:List (Addr×Obj)}{σ:St}{H:Hp}{s:Shared}{Q:VK}{us:List Value}{vs:List V}(F:bh X.prog X.w X.K X.mg X.base CX k f fd ps sp)(hr:eY k X.A)(hb:Binds X.K fd ps ds)(hd:Vals Oa ds)(hx:lX CX X E)
  (I:Inv X π σ H s)(r:Vals vs us)(h:sp (vs++Oa) H Q E):wpAny (model X.prog X.w) X.A (call (.ref f) us) (EP X π σ Q) X.xe s:=by
 have r2:Vals (vs++Oa) (us++ds):=r.append hd;have hl:(us++ds).length=ps.length:=by rw[<-r2.length];exact F.len _ _ _ _ h
 refine wpAny_call (codeAny_mono (F.run X.A X.stack s H ⟨us,[]⟩ (us++ds) (vs++Oa) Q E hr I.env0 (hb s us I.Mj hl) r2 h) λr s' hq=>?_);cases r with
 | error e=>exact hx π σ H s e s' I hq
 | ok fl =>
  cases fl with
  | ret u=>exact I.after hq
  | next=>exact False.elim hq
  | brk=>exact False.elim hq
  | cont=>exact False.elim hq
theorem GD(F:bh X.prog X.w X.K X.mg X.base CX k f fd ps sp)(hr:eY k X.A)(hg:Gl X x)(hm:X.mg x=some (.ref f))(hk:PySem.W.keepIn X.K (.ref f)=true)(hb:Binds X.K fd ps ds)(hd:Vals Oa ds)(hx:lX CX X E)
  (ha:PA X (e::es) t)(hdb:(x == ("__debug__" : Str))=false:=by decide)(he:starEach (e::es) X.env=(false,eval e X.env)::starEach es X.env:=by rfl)(hpl:(backTo pos (starEach es X.env)).any (·.1)=false:=by rfl):
  PE X (.Call (.Name x p) (e::es) [] pos) (Hi sp Oa E t):=by
 intro π s σ H Q I h;refine wpAny_Call_Name_kw (pN I hg hm ?_ hdb);refine PySem.W.callWith_K (h₀:=X.base) I.ok.mod.Qp hk (K7 (ha pos π s σ H _ I h) λus s1 ⟨vs,H1,I1,r,q⟩=>⟨I1.Mj,?_⟩) he hpl;exact Hr F hr hb hd hx I1 r q
end
section
variable{X:Cx}{CX:Mx}{k:Nat}{f C:Addr}{fd:FuncData}{ps ks:List Str}{sp:Sp}{E:XK}{x m:Str}{p pos apos kpos:Pos}{e o:Expr}{es:List Expr}{kws:List Keyword}{te ta:TE}{t tk:TA}{nm:Option Str}
variable{g:List Value->List Value->List Value}{gV:List V->List V->List V}
end
structure aK(N P:List Str)(sc:Scope):Prop where
 kind:sc.kind=.function
 co:sc.isCoroutine=false
 gen:sc.isGenerator=false
 nd:N.Nodup
 pre:N.take P.length=P
 Ob:∀x∈P,sc.names.lookup x=some .local\/sc.names.lookup x=some .cell
 nofree:∀y∈sc.names,y.2 ≠ .free
theorem tU{kindOf:Str->Option NameKind}{x:Str}:∀{binds:List (Str×Value)} {m:Str->Option Value},(∀v,(x,v)∉binds)->bindL kindOf binds m x=m x
 | [],_,_=>rfl
 | (n,v)::r,m,h=>by
  unfold bindL;rw[tU λw hw=>h w (aaw _ hw)];split
  ·have:x≠n:=by rintro rfl;exact h v aay
   simp[this]
  ·rfl
theorem tZ{kindOf:Str->Option NameKind}{x:Str}:∀{binds:List (Str×Value)} {m:Str->Option Value},(∀v,(x,v)∉binds)->bindC kindOf binds m x=m x
 | [],_,_=>rfl
 | (n,v)::r,m,h=>by
  unfold bindC;rw[tZ λw hw=>h w (aaw _ hw)];split
  ·rfl
  ·have:x≠n:=by rintro rfl;exact h v aay
   simp[this]
theorem tW{kindOf:Str->Option NameKind}{x:Str}{v:Value}:∀{P:List Str}{vs:List Value}{i:Nat}{m:Str->Option Value},P.Nodup->P[i]?=some x->vs[i]?=some v->kindOf x=some .local ->
  bindL kindOf (P.zip vs) m x=some v
 | [],_,_,_,_,h,_,_=>by simp at h
 | _::_,[],_,_,_,_,h,_=>by simp at h
 | p::P,w::vs,0,m,nd,h1,h2,hk=>by
  simp at h1 h2;subst h1;subst h2;show bindL kindOf ((p,w)::P.zip vs) m p=_;unfold bindL;rw[tU λv hv=>(aa4.mp nd).1 (ab3 hv).1,if_pos hk];simp
 | p::P,w::vs,i+1,m,nd,h1,h2,hk=>by
  show bindL kindOf ((p,w)::P.zip vs) m x=_;unfold bindL;exact tW (i:=i) (aa4.mp nd).2 (by simpa using h1) (by simpa using h2) hk
theorem ul{kindOf:Str->Option NameKind}{x:Str}{v:Value}:∀{P:List Str}{vs:List Value}{i:Nat}{m:Str->Option Value},P.Nodup->P[i]?=some x->vs[i]?=some v->kindOf x≠some .local ->
  bindC kindOf (P.zip vs) m x=some v
 | [],_,_,_,_,h,_,_=>by simp at h
 | _::_,[],_,_,_,_,h,_=>by simp at h
 | p::P,w::vs,0,m,nd,h1,h2,hk=>by
  simp at h1 h2;subst h1;subst h2;show bindC kindOf ((p,w)::P.zip vs) m p=_;unfold bindC;rw[tZ λv hv=>(aa4.mp nd).1 (ab3 hv).1,if_neg hk];simp
 | p::P,w::vs,i+1,m,nd,h1,h2,hk=>by
  show bindC kindOf ((p,w)::P.zip vs) m x=_;unfold bindC;exact ul (i:=i) (aa4.mp nd).2 (by simpa using h1) (by simpa using h2) hk
def start(N:List Str)(vs:List V):St:=vs.map some++aaQ (N.length - vs.length) none
def gU(CX:Mx)(P:Program)(w:World)(K:PySem.W.Frag)(mg:Str->Option Value)(base:Heap)(N:List Str)(qual:Str)(scope:Scope)(f:Addr)(cd:Value)(A:Around)(outer:List Env)(s:Shared)(H:Hp)(E:XK):Cx where
 prog:=P
 w:=w
 K:=K
 mg:=mg
 base:=base
 A:=A.deeper (envOfC qual scope s.heap.objs.size f cd)
 N:=N
 s₀:=s
 H₀:=H
 env:=envOfC qual scope s.heap.objs.size f cd
 outer:=outer
 stack:=envOfC qual scope s.heap.objs.size f cd::outer
 ex:=[]
 calm:=true
 fn:=λ_=>true
 pn:=[]
 xe:=λe s'=>wpAny (model P w) (A.deeper (envOfC qual scope s.heap.objs.size f cd)) (leaving (envOfC qual scope s.heap.objs.size f cd) e) (λ_ s''=>CX outer H s E e s'') (λe' s''=>CX outer H s E e' s'') s'
theorem xF{sc:Scope}{n:Nat}{x:Str}(h:sc.names.lookup x=some .cell):∃c,(cellsFrom n sc.names []).lookup x=some c:=by
 have q:=PySem.W.cellsFrom_some sc.names n [] (.inl h);exact acP.mp q
theorem t7{CX:Mx}{P:Program}{w:World}{K:PySem.W.Frag}{mg:Str->Option Value}{base:Heap}{N ps:List Str}{qual:Str}{scope:Scope}{f:Addr}{cd:Value}{A:Around}{outer:List Env}{s s1:Shared}{H:Hp}{E:XK}{us:List Value}{vs:List V}
  (S:aK N ps scope)(hd:A.handled=none)(e0:yq P w K mg base A outer s H)(hl:vs.length=ps.length)(r:Vals vs us)
  (x:InCallC s s.heap.objs.size (bindL (envOfC qual scope s.heap.objs.size f cd).kindOf (ps.zip us) λ_=>none) (cellsFrom (s.heap.objs.size+1) scope.names []) (bindC (envOfC qual scope s.heap.objs.size f cd).kindOf (ps.zip us) λ_=>none) s1):
  Inv (gU CX P w K mg base N qual scope f cd A outer s H E) [] (start N vs) H s1:=by
 have hpl:ps.length<=N.length:=by have:=congrArg abC S.pre;rw[aaC]at this;lia
 obtain⟨h1,tk,rfl,hk⟩:=x.done;have PJ:∀b:Addr,b∉(gU CX P w K mg base N qual scope f cd A outer s H E).ex:=λb z=>absurd (show b∈([]:List Addr)from z) (by simp);refine⟨⟨e0.mod,S.kind,rfl,rfl,aad _,λy z c h1 h2=>?_,λy hy=>?_,λy c _ h=>?_,λ_=>hd,Around.frames_deeper e0.frames,.inr ⟨rfl,rfl⟩,λb z=>absurd z (PJ b),e0.bs,e0.Mv,λb _ _=>PJ b,λb z=>absurd z (PJ b),e0.funs,e0.Nf⟩,
  rfl,e0.bare,Un.kept hk,⟨_,x.toInCall.ns,λi y v h1 h2 h3=>?_⟩,λy c h=>⟨_,x.cell y c h⟩,e0.hok.fresh (aad _),λy c h=>?_,λp hp=>absurd (show p∈([]:List (Addr×Obj))from hp) (by simp),e0.hok.kept hk,?_⟩
 ·exact name_of_addr x.apart (PySem.mem_of_lookup h1) (PySem.mem_of_lookup h2)
 ·have hy:scope.names.lookup y=some .cell\/scope.names.lookup y=some .free:=hy;rcases hy with hy|hy
  ·exact xF hy
  ·exact absurd rfl (S.nofree _ (PySem.mem_of_lookup hy))
 ·exact aba (x.above y c (PySem.mem_of_lookup h))
 ·have hi:i<vs.length:=by
   unfold start at h2;by_cases hi:i<vs.length
   ·exact hi
   ·rw[aap (by simpa using hi)]at h2;rw[aco]at h2;split at h2 <;> cases h2
  have ha:vs[i]?=some v:=by
   unfold start at h2;rw[aar (by simpa using hi),aag]at h2;cases e:vs[i]? with
   | none=>rw[e]at h2;cases h2
   | some a=>rw[e]at h2;cases h2;rfl
  obtain⟨u,hu,rv⟩:=r.get ha;have hp:ps[i]?=some y:=by
   rw[<-S.pre,aa3 (by lia)];exact h1
  have PK:ps.Nodup:=by rw[<-S.pre];exact S.nd.sublist (abE _ _)
  refine⟨u,rv,?_⟩;rcases S.Ob y (aah hp)with k|k
  ·exact .inl ⟨k,tW PK hp hu k⟩
  ·obtain⟨c,e⟩:=xF (n:=s.heap.objs.size+1) k;refine .inr ⟨.inl k,c,e,?_⟩;have q:=x.cell y c e;rw[ul PK hp hu (by show scope.names.lookup y≠_;rw[k];decide)]at q;exact q
 ·exact e0.hok.fresh (aba (x.above y c (PySem.mem_of_lookup h)))
 ·unfold start;show _=N.length;rw[aae,aaa,ab4];lia
theorem Hf{CX:Mx}{P:Program}{w:World}{K:PySem.W.Frag}{mg:Str->Option Value}{base:Heap}{k:Nat}{f:Addr}{name qual:Str}{params:Arguments}{body:List Stmt}{scope:Scope}{dV kV doc pm cdv ct oc:Value}{an od:Option Addr}
  {osl:Array (Option Value)}{N ps:List Str}{sp:Sp}(lk:K.lookup f=some ⟨oc,od,.func (PySem.W.fnOf name qual params body scope dV kV doc pm an cdv ct),osl⟩)(hcd:PySem.W.codeIn K cdv qual=true)(S:aK N ps scope)
  (len:∀vs H Q E,sp vs H Q E->vs.length=ps.length)
  (hbody:∀(A:Around) (outer:List Env) (s:Shared) (H:Hp) (vs:List V) (Q:VK) (E:XK),eY k (A.deeper (envOfC qual scope s.heap.objs.size f cdv))->sp vs H Q E ->
   ∃t,Ma (gU CX P w K mg base N qual scope f cdv A outer s H E) body t/\t { nx:=λ_ H'=>Q .non H',rt:=Q } (start N vs) H):
  bh P w K mg base CX (k+1) f (PySem.W.fnOf name qual params body scope dV kV doc pm an cdv ct) ps sp:=by
 refine⟨len,λA outer s H args us vs Q E hr e0 hb r hsp=>?_⟩;have hl:=len _ _ _ _ hsp;have KX:K.In s.heap:=e0.mod.Qp.keeps λb o e=>(e0.bs b o e).1;have lim:s.heap.NoLimit:=e0.mod.nolimit.keeps λb o e=>(e0.bs b o e).1;have hkind:∀y∈ps.zip us,scope.names.lookup y.1=some .local\/(scope.names.lookup y.1=some .cell/\((cellsFrom (s.heap.objs.size+1) scope.names []).lookup y.1).isSome=true):=λ⟨n,v⟩ hy=>by
  rcases S.Ob n (ab3 hy).1 with q|q
  ·exact .inl q
  ·exact .inr ⟨q,PySem.W.cellsFrom_some _ _ _ (.inl q)⟩
 refine codeAny_call_function hr.depth (KX _ _ lk) rfl S.co S.gen rfl (PySem.W.codeRec_of KX hcd) (hb _ _ _ _ ?_);refine wpAny_newFunctionEnv_cells S.kind hkind λenv he s1 x=>?_;subst he;refine⟨lim.keeps x.toInCall.keep,codeAny_func ?_⟩;obtain⟨t,ht,hq⟩:=hbody A outer s H vs Q E (hr.deeper _) hsp;have I:Inv (gU CX P w K mg base N qual scope f cdv A outer s H E) [] (start N vs) H s1:=t7 S hr.hd e0 hl r x;refine wpAny_mono (ht [] s1 (start N vs) H _ I hq) (λfl s' hs=>?_) λe s' hs=>hs;have fin:∀{σ':St}{H':Hp}{v:V}{u:Value},Inv (gU CX P w K mg base N qual scope f cdv A outer s H E) [] σ' H' s'->RelV v u->Q v H'->CE outer P w H s Q u s':=
  λ{σ' H' v u} J rv q=>⟨v,H',J.os,J.bare,J.base,J.hok,rv,q⟩
 cases fl with
 | ret u =>
  obtain⟨v,σ',H',J,rv,q⟩:=hs;exact fin J rv q
 | next =>
  obtain⟨σ',H',J,q⟩:=hs;exact fin (v:=V.non) (u:=Value.none) J rfl q
 | brk =>
  obtain⟨_,_,_,q⟩:=hs;exact False.elim q
 | cont =>
  obtain⟨_,_,_,q⟩:=hs;exact False.elim q
section
variable{X:Cx}{x:Str}{p pos:Pos}{e:Expr}{es:List Expr}{t:TA}{id T:String}{r:List V->Hp->VK->Prop}
def Vq(r:List V->Hp->VK->Prop)(t:TA):TE:=λ σ H Q=>t σ H λvs H1=>r vs H1 Q
theorem aN(hc:gH X (.builtin id) r)(hg:Gl X x)(hm:X.mg x=none)(hv:bootBuiltins x=some (.builtin id))(ha:PA X (e::es) t)(hn:x ≠ "__name__":=by decide)(hdb:(x == ("__debug__" : Str))=false:=by decide)
  (he:starEach (e::es) X.env=(false,eval e X.env)::starEach es X.env:=by rfl)(hpl:(backTo pos (starEach es X.env)).any (·.1)=false:=by rfl):PE X (.Call (.Name x p) (e::es) [] pos) (Vq r t):=by
 intro π s σ H Q I h;refine wpAny_Call_Name_kw (fu I hg hm hv ?_ hn hdb);exact PyProof.Rows.callWith_builtin1 (K7 (ha pos π s σ H _ I h) λus s1 ⟨vs,H1,I1,r1,q1⟩=>hc π s1 σ H1 vs us Q I1 r1 q1) he hpl
theorem fj(hc:gH X (.type T) r)(hg:Gl X x)(hm:X.mg x=none)(hv:bootBuiltins x=some (.type T))(ha:PA X (e::es) t)(hn:x ≠ "__name__":=by decide)(hdb:(x == ("__debug__" : Str))=false:=by decide)
  (he:starEach (e::es) X.env=(false,eval e X.env)::starEach es X.env:=by rfl)(hpl:(backTo pos (starEach es X.env)).any (·.1)=false:=by rfl):PE X (.Call (.Name x p) (e::es) [] pos) (Vq r t):=by
 intro π s σ H Q I h;refine wpAny_Call_Name_kw (fu I hg hm hv ?_ hn hdb);exact PyProof.Rows.callWith_type1 (K7 (ha pos π s σ H _ I h) λus s1 ⟨vs,H1,I1,r1,q1⟩=>hc π s1 σ H1 vs us Q I1 r1 q1) he hpl
end
end L2
namespace HT
open PySem PyProof.Rows
section
open PySem.SeqAt
open PySem.AutoSeq1 (wpAny_loadPart')
open PySem.MeetsSeq PySem.MeetsSeq2 PySem.MeetsSeq3
end
section
variable{prog:Program}{w:World}{A:Around}{E:Value->Shared->Prop}{s:Shared}
def Mw(n d:Nat):Option Int->Nat
 | none=>d
 | some v=>if v<0 then (v+(n:Int)).toNat else min v.toNat n
theorem De(n d:Nat):Mw n d none=d:=rfl
theorem vD(n d k:Nat):Mw n d (some (k:Int))=min k n:=by
 show (if (k:Int)<0 then ((k:Int)+(n:Int)).toNat else min (k:Int).toNat n)=min k n;rw[if_neg (by lia),aaD]
end
end HT
namespace L2
open PySem PySem.Spec PyProof.Rows
abbrev TO:=St->Hp->(Option Int->Hp->Prop)->Prop
def PO(X:Cx)(e:Option Expr)(t:TO):Prop:=
 ∀(π:List (Addr×Obj)) (s:Shared) (σ:St) (H:Hp) (Q:Option Int->Hp->Prop),Inv X π σ H s->t σ H Q ->
  wpAny (model X.prog X.w) X.A (evalPart e X.env) (λu s'=>∃o H',Inv X π σ H' s'/\IsPart u o/\Q o H') X.xe s
def Gn:TO:=λ_ H Q=>Q none H
inductive G4(Q:Option Int->Hp->Prop)(x:V)(H1:Hp):Prop
 | mk (i:_) (_:x=.int i) (_:Q (some i) H1)
def J3(t:TE):TO:=λ σ H Q=>t σ H λx H1=>G4 Q x H1
theorem intsAre_of{ns:List Int}:∀{us:List Value},Vals (ns.map V.int) us->IntsAre us ns:=by
 induction ns with
 | nil=>intro us r;rw[ac7]at r;cases r;exact .nil
 | cons n ns ih =>
  intro us r;rw[aaz]at r;cases r with
  | cons r1 r2 =>
   obtain⟨t,e⟩:=r1;subst e;exact .cons n t (ih r2)
section
variable{X:Cx}{e:Expr}{te:TE}{lo hi:Option Expr}{tl th:TO}{pos p2:Pos}
theorem uT:PO X none Gn:=by
 intro π s σ H Q I h;rw[evalPart_none];exact wpAny_pure ⟨none,H,I,.none,h⟩
theorem jt(h:PE X e te):PO X (some e) (J3 te):=by
 intro π s σ H Q I hw;rw[evalPart_some];refine K7 (h π s σ H _ I hw) λu s1 ⟨x,H1,I1,r1,q1⟩=>?_;obtain⟨i,rfl,q⟩:=q1;obtain⟨t,rfl⟩:=r1;exact⟨some i,H1,I1,.int i t,q⟩
def R8(X:Cx)(r:V->Option Int->Option Int->Hp->VK->Prop):Prop:=
 ∀(π:List (Addr×Obj)) (s:Shared) (σ:St) (H:Hp) (x:V) (v vl vu:Value) (lo hi:Option Int) (sl:Addr) (Q:VK),Inv X π σ H s->RelV x v->s.heap.IsSliceOf sl vl vu .none->IsPart vl lo->IsPart vu hi->r x lo hi H Q ->
  ∃T id,typeLookup (.type T) "__getitem__" = pure (some (.builtin id))/\s.TypeIs v T/\wpAny (model X.prog X.w) X.A (getItem v (.ref sl)) (EP X π σ Q) X.xe s
def ZP(r:V->Option Int->Option Int->Hp->VK->Prop)(te:TE)(tl th:TO):TE:=λ σ H Q=>te σ H λx H1=>tl σ H1 λl H2=>th σ H2 λu H3=>r x l u H3 Q
theorem jE{r:V->Option Int->Option Int->Hp->VK->Prop}(hr:R8 X r)(he:PE X e te)(hl:PO X lo tl)(hu:PO X hi th):PE X (.Subscript e (.Slice lo hi none p2) pos) (ZP r te tl th):=by
 intro π s σ H Q I h;refine Subscript_ (K7 (he π s σ H _ I h) λv s1 ⟨x,H1,I1,r1,q1⟩=>?_);refine wpAny_Slice (K7 (hl π s1 σ H1 _ I1 q1) λvl s2 ⟨l,H2,I2,pl,q2⟩=>K7 (hu π s2 σ H2 _ I2 q2) λvu s3 ⟨u,H3,I3,pu,q3⟩=>?_);rw[evalPart_none];refine wpAny_pure ?_
 have I4:Inv X π σ H3 { s3 with heap:=s3.heap.push { cls:=.type "slice",data:=.fields #[vl,vu,.none] } }:=I3.kept (t':=s3.toks) λb ob q=>Heap.get?_push_of_some _ q
 obtain⟨T,id,hT,ht,hg⟩:=hr π { s3 with heap:=s3.heap.push { cls:=.type "slice",data:=.fields #[vl,vu,.none] } } σ H3 x v vl vu l u s3.heap.objs.size Q I4 r1 (Heap.IsSliceOf.new ..) pl pu q3
 show wpAny (model X.prog X.w) X.A (subscriptTail e (.Slice lo hi none p2) v (.ref s3.heap.objs.size)) (EP X π σ Q) X.xe { s3 with heap:=s3.heap.push { cls:=.type "slice",data:=.fields #[vl,vu,.none] } }
 exact tail_any (ops:=[.ref s3.heap.objs.size,v]) ht hT hg (by with_unfolding_all rfl)
def rJ(xs:List V)(lo hi:Option Int):List V:=(xs.drop (HT.Mw xs.length 0 lo)).take (HT.Mw xs.length xs.length hi - HT.Mw xs.length 0 lo)
theorem wW(xs:List V)(lo hi:Option Int):(rJ xs lo hi).length<=xs.length:=by
 unfold rJ;rw[aaC,abe];lia
end
def Om(n:Nat)(i:Int):Option Nat:=if 0<=i then (if i<n then some i.toNat else none)else if -(n:Int)<=i then some (i+n).toNat else none
def Lj{α:Type}(xs:List α)(i:Int):Option α:=(Om xs.length i).bind λj=>xs[j]?
theorem G7{n:Nat}{i:Int}{j:Nat}(h:Om n i=some j):seqIndex? i n=some j/\j<n /\ -(n:Int)<=i/\i<n:=by
 unfold Om at h;by_cases h0:0<=i
 ·rw[if_pos h0]at h;by_cases h1:i<n
  ·rw[if_pos h1]at h;have e:i.toNat=j:=aax h;exact⟨by rw[seqIndex_of h0 h1,e],by lia,by lia,h1⟩
  ·rw[if_neg h1]at h;cases h
 ·rw[if_neg h0]at h;by_cases h1 : -(n:Int)<=i
  ·rw[if_pos h1]at h;have e:(i+n).toNat=j:=aax h;exact⟨by rw[seqIndex_neg (by lia) h1,e],by lia,h1,by lia⟩
  ·rw[if_neg h1]at h;cases h
theorem vH{α:Type}{xs:List α}{i:Int}{v:α}(h:Lj xs i=some v):∃j,seqIndex? i xs.length=some j/\xs[j]?=some v/\j<xs.length /\ -(xs.length:Int)<=i/\i<xs.length:=by
 unfold Lj at h;cases e:Om xs.length i with
 | none=>rw[e]at h;cases h
 | some j =>
  rw[e]at h;obtain⟨h1,h2,h3,h4⟩:=G7 e;exact⟨j,h1,h,h2,h3,h4⟩
theorem zz{α:Type}{xs:List α}{j:Nat}{v:α}(h:xs[j]?=some v):Lj xs (j:Int)=some v:=by
 have hj:j<xs.length:=(aab.mp h).1;have e:Om xs.length (j:Int)=some j:=by
  unfold Om;rw[if_pos (by lia),if_pos (by lia)];simp
 unfold Lj;rw[e];exact h
theorem my{α:Type}(xs:List α)(v:α):Lj (xs++[v]) (-1)=some v:=by
 have hl:(xs++[v]).length=xs.length+1:=by simp
 have e:Om (xs++[v]).length (-1)=some xs.length:=by
  unfold Om;rw[hl,if_neg (by decide),if_pos (by lia)];congr 1;lia
 unfold Lj;rw[e];show (xs++[v])[xs.length]?=some v;simp
def Gg(b:Expr):Prop:=∀o i,subscripted b false o i=operate [o,i] (getItem o i)
def LC(X:Cx)(r:R2):Prop:=
 ∀(value slice:Expr) (π:List (Addr×Obj)) (s:Shared) (σ:St) (H:Hp) (x y:V) (v u:Value) (Q:VK),Inv X π σ H s->RelV x v->RelV y u->r x y H Q ->
  subscripted slice false v u=operate [v,u] (getItem v u)->wpAny (model X.prog X.w) X.A (subscriptTail value slice v u) (EP X π σ Q) X.xe s
def R9(X:Cx)(id:String)(r:V->List V->Hp->VK->Prop):Prop:=
 ∀(π:List (Addr×Obj)) (s:Shared) (σ:St) (H:Hp) (x:V) (xs:List V) (v:Value) (us:List Value) (Q:VK),Inv X π σ H s->RelV x v->Vals xs us->r x xs H Q ->
  wpAny (model X.prog X.w) X.A (call (.builtin id) (v::us)) (EP X π σ Q) X.xe s
section
variable{X:Cx}{a b:Expr}{ta tb:TE}{pos:Pos}
theorem LC.or{r r':R2}(h:LC X r)(h':LC X r'):LC X (λx y H Q=>r x y H Q\/r' x y H Q):=by
 intro value slice π s σ H x y v u Q I rx ry q hs;rcases q with q|q
 ·exact h value slice π s σ H x y v u Q I rx ry q hs
 ·exact h' value slice π s σ H x y v u Q I rx ry q hs
theorem aM{r:R2}(hr:LC X r)(ha:PE X a ta)(hb:PE X b tb)(hs:Gg b):PE X (.Subscript a b pos) (Rm r ta tb):=by
 intro π s σ H Q I h;exact Subscript_ (Jj ha hb I h λv u s2 x y H2 I2 rx ry q=>hr a b π s2 σ H2 x y v u Q I2 rx ry q (hs _ _))
inductive Cm(K:PySem.W.Frag)(x:V)(y:V)(H:Hp)(Q:VK):Prop
 | mk (p xs i v:_) (_:x=.ref p) (_:y=.int i) (_:K5 K H p xs) (_:Lj xs i=some v) (_:Q v H)
inductive pI(K:PySem.W.Frag)(x:V)(y:V)(H:Hp)(Q:VK):Prop
 | mk (p xs i v:_) (_:x=.ref p) (_:y=.int i) (_:K6 K H p xs) (_:Lj xs i=some v) (_:Q v H)
inductive Ju(x:V)(y:V)(H:Hp)(Q:VK):Prop
 | mk (z i c:_) (_:x=.str z) (_:y=.int i) (_:z.length<=sizeLine) (_:Lj z.cps.toList i=some c) (_:Q (.str ⟨#[c]⟩) H)
theorem cD:LC X (Cm X.K):=by
 intro value slice π s σ H x y v u Q I rx ry h hs;obtain⟨p,xs,i,z,rfl,rfl,hq,he,q⟩:=h;cases rx;obtain⟨t,rfl⟩:=ry;obtain⟨its,r,pl,hz⟩:=I.list hq;obtain⟨j,h1,h2,h3,h4,h5⟩:=vH he;obtain⟨w,ew,Nt⟩:=r.get h2;have hl:=r.length;have hn:=vm;have fin:EP X π σ Q w s:=⟨z,H,I,Nt,q⟩;by_cases h0:0<=i
 ·have hj:i.toNat=j:=by
   rw[seqIndex_of h0 h5]at h1;exact aax h1
  exact item_listR pl.isList h0 (by lia) (by rw[hj];simpa using ew) fin hs
 ·have hj:(i+(its.toArray.size:Int)).toNat=j:=by
   rw[seqIndex_neg (by lia) h4]at h1;rw[aao,<-hl];exact aax h1
  exact subscriptTail_builtinR (x:=w) pl.isList.typeIs slot_list_getitem.lookup
   (wpAny_getItem_list_neg (Q:=λr s'=>r=w/\EP X π σ Q r s') pl.isList (by lia) (by rw[aao] <;> lia) (by lia) (by rw[hj];simpa using ew) ⟨rfl,fin⟩) hs
theorem aJ:LC X (pI X.K):=by
 intro value slice π s σ H x y v u Q I rx ry h hs;obtain⟨p,xs,i,z,rfl,rfl,hq,he,q⟩:=h;cases rx;obtain⟨t,rfl⟩:=ry;obtain⟨its,r,pl,hz⟩:=I.tuple hq;obtain⟨j,h1,h2,h3,h4,h5⟩:=vH he;obtain⟨w,ew,Nt⟩:=r.get h2;have hl:=r.length;have hn:=vm;have fin:EP X π σ Q w s:=⟨z,H,I,Nt,q⟩;exact subscriptTail_builtinR (x:=w) pl.typeIs slot_tuple_getitem.lookup
  (getItem_tuple (j:=j) (Q:=λr s'=>r=w/\EP X π σ Q r s') pl (by lia) (by lia) (by rw[aao,<-hl];exact h1) (by simpa using ew) ⟨rfl,fin⟩) hs
theorem Hw:LC X Ju:=by
 intro value slice π s σ H x y v u Q I rx ry h hs;obtain⟨z,i,c,rfl,rfl,hz,he,q⟩:=h;obtain⟨t,rfl⟩:=rx;obtain⟨t',rfl⟩:=ry;obtain⟨j,h1,h2,h3,h4,h5⟩:=vH he;have hl:z.cps.toList.length=z.length:=by simp[Str.length]
 rw[hl]at h1 h4 h5;have hn:=vm;exact tail_any (typeIs_str s z t) slot_str_getitem.lookup (getItem_str (c:=c) (by
  have e1:decide (i < -(2^63:Int))=false:=decide_eq_false (by lia);have e2:decide (i >= 2^63)=false:=decide_eq_false (by lia);rw[e1,e2,adz]) (by rw[h1];simpa using h2) ⟨.str ⟨#[c]⟩,H,I.tok _,⟨_,rfl⟩,q⟩) hs
def Vr(K:PySem.W.Frag):R2:=λx y H Q=>Cm K x y H Q\/pI K x y H Q\/Ju x y H Q
theorem Ii:LC X (Vr X.K):=cD.or (aJ.or Hw)
theorem vq(lo hi:Option Int)(n:Nat):(sliceBounds lo hi none n).1=((HT.Mw n 0 lo:Nat):Int)/\(sliceBounds lo hi none n).2.1=((HT.Mw n n hi:Nat):Int)/\(sliceBounds lo hi none n).2.2=1:=by
 refine⟨?_,?_,rfl⟩
 ·cases lo with
  | none=>simp[sliceBounds,HT.Mw]
  | some i =>
   simp only[sliceBounds,HT.Mw,adS,show (1:Int) > 0 by decide,if_true];by_cases h:i<0
   ·simp only[h,if_true] <;> lia
   ·simp only[h,if_false] <;> lia
 ·cases hi with
  | none=>simp[sliceBounds,HT.Mw]
  | some i =>
   simp only[sliceBounds,HT.Mw,adS,show (1:Int) > 0 by decide,if_true];by_cases h:i<0
   ·simp only[h,if_true] <;> lia
   ·simp only[h,if_false] <;> lia
theorem sZ(its:List Value)(lo hi:Option Int):slicePick its.toArray lo hi none=((its.drop (HT.Mw its.length 0 lo)).take (HT.Mw its.length its.length hi - HT.Mw its.length 0 lo)).toArray:=by
 obtain⟨h1,h2,h3⟩:=vq lo hi its.toArray.size;unfold slicePick;rw[h1,h2,h3];simp only[sliceRange_one,pick_run,aao] <;> rfl
inductive J7(K:PySem.W.Frag)(x:V)(lo:Option Int)(hi:Option Int)(H:Hp)(Q:VK):Prop
 | mk (a xs:_) (_:x=.ref a) (_:K5 K H a xs) (_:∀p,H p=none->Q (.ref p) (upd H p (.lst (rJ xs lo hi))))
theorem mJ:R8 X (J7 X.K):=by
 intro π s σ H x v vl vu lo hi sl Q I rx hs pl pu h;obtain⟨a,xs,rfl,hx,q⟩:=h;cases rx;obtain⟨its,r,ht,hz⟩:=I.list hx;have hlen:=r.length
 refine⟨"list",_,slot_list_getitem.lookup,ht.isList.typeIs,?_⟩
 refine wpAny_getItem_list_slice ht.isList hs pl pu .none (by simp) ?_ (by rw[aao] <;> lia);rw[sZ,<-hlen];refine⟨.ref s.heap.objs.size,_,I.laid (t':=s.toks) (o:=.lst (rJ xs lo hi)) (λb ob q=>Heap.get?_push_of_some _ q) (aad _) ?_,rfl,q _ (I.hok.fresh (aad _))⟩;exact⟨aaS (wW xs lo hi) hz,_,0,(r.drop (HT.Mw xs.length 0 lo)).take (HT.Mw xs.length xs.length hi - HT.Mw xs.length 0 lo),Heap.get?_push_size _ rfl⟩
theorem aF:gH X (.builtin "len") (λxs H Q=>∃p ys,xs=[.ref p]/\(K5 X.K H p ys\/K6 X.K H p ys)/\Q (.int ys.length) H):=by
 intro π s σ H xs us Q I r h;obtain⟨p,ys,rfl,hq,q⟩:=h;obtain⟨u,rfl,rx⟩:=vals1 r;cases rx;have hn:=vm;rcases hq with hq|hq
 ·obtain⟨its,r',pl,hz⟩:=I.list hq;have hlen:=r'.length;exact Calls.call_len_list pl.isList (by simp only[aao] <;> lia) ⟨.int ys.length,H,I.tok _,⟨s.toks+1,by rw[aao,hlen]⟩,q⟩
 ·obtain⟨its,r',pl,hz⟩:=I.tuple hq;have hlen:=r'.length;exact len_tuple pl (by simp only[aao] <;> lia) ⟨.int ys.length,H,I.tok _,⟨s.toks+1,by rw[aao,hlen]⟩,q⟩
theorem uX:gH X (.type "list") (λxs H Q=>∃p ys,xs=[.ref p]/\(K5 X.K H p ys\/K6 X.K H p ys) /\ ∀l,H l=none->Q (.ref l) (upd H l (.lst ys))):=by
 intro π s σ H xs us Q I r h;obtain⟨p,ys,rfl,hq,q⟩:=h;obtain⟨u,rfl,rx⟩:=vals1 r;cases rx;have fin:∀(its:List Value),Vals ys its->ys.length<=sizeLine -> ∀(h':Heap) (c':Nat),(∀b o',s.heap.get? b=some o'->h'.get? b=some o') ->
   h'.get? s.heap.objs.size=some { cls:=.type "list",dict:=none,data:=.seq its.toArray c',slots:=#[] }->EP X π σ Q (.ref s.heap.objs.size) { s with heap:=h' }:=λits r' hz h' c' kp e =>
  ⟨.ref s.heap.objs.size,_,I.laid (t':=s.toks) kp (aad _) (show bI X.prog X.w _ h' _ (.lst ys)from ⟨hz,its,c',r',e⟩),rfl,q _ (I.hok.fresh (aad _))⟩
 rcases hq with hq|hq
 ·obtain⟨its,r',pl,hz⟩:=I.list hq;have hlen:=r'.length;obtain⟨o,ho,hc,n,hd⟩:=pl.isList;exact call_list_seq p (.inl rfl) ho hc hd (λh' c' kp e=>fin its r' hz h' c' kp e) (by simp only[aao] <;> lia)
 ·obtain⟨its,r',pl,hz⟩:=I.tuple hq;have hlen:=r'.length;obtain⟨o,ho,hc,n,hd⟩:=pl;exact call_list_seq p (.inr rfl) ho hc hd (λh' c' kp e=>fin its r' hz h' c' kp e) (by simp only[aao] <;> lia)
theorem g8:gH X (.type "tuple") (λxs H Q=>∃p ys,xs=[.ref p]/\((K5 X.K H p ys /\ ∀l,H l=none->Q (.ref l) (upd H l (.tup ys)))\/(K6 X.K H p ys/\Q (.ref p) H))):=by
 intro π s σ H xs us Q I r h;obtain⟨p,ys,rfl,h⟩:=h;obtain⟨u,rfl,rx⟩:=vals1 r;cases rx;rcases h with ⟨hq,q⟩|⟨hq,q⟩
 ·obtain⟨its,r',pl,hz⟩:=I.list hq;have hlen:=r'.length;refine call_tuple_list pl.isList (λh' kp=>?_) (by simp only[aao] <;> lia);have I1:Inv X π σ H { s with heap:=h' }:=I.kept (t':=s.toks) kp
  have I2:Inv X π σ (upd H h'.objs.size (.tup ys)) { s with heap:=h'.push { cls:=.type "tuple",data:=.seq its.toArray } }:=
   I1.laid (t':=s.toks) (λb o e=>Heap.get?_push_of_some _ e) (aad _) (show bI X.prog X.w _ _ _ (.tup ys)from ⟨hz,its,r',IsTup.new _ _⟩)
  exact⟨.ref h'.objs.size,_,I2,rfl,q _ (I1.hok.fresh (aad _))⟩
 ·obtain⟨its,r',pl,hz⟩:=I.tuple hq;exact call_tuple_same pl ⟨.ref p,H,I,rfl,q⟩
def Sg(K:PySem.W.Frag)(T:String)(x:V)(H:Hp):Prop:=match x with
 | .str _=>T = "str"
 | .int _=>T = "int"
 | .ref p=>(T = "list" /\ ∃xs,K5 K H p xs)\/(T = "tuple" /\ ∃o,K.lookup p=some o/\o.cls=.type "tuple" /\ o.dict=none) \/
   (T = "dict" /\ ((∃kvs,H p=some (.dK kvs)) \/ ∃kvs,H p=some (.dT kvs)))\/(T = "set" /\ ∃S n,H p=some (.set S n))
 | _=>False
theorem Dl{π:List (Addr×Obj)}{σ:St}{H:Hp}{s:Shared}{T:String}{x:V}{v:Value}(I:Inv X π σ H s)(r:RelV x v)(ty:Sg X.K T x H):
  s.TypeIs v T /\ ∀a,v=.ref a -> ∃ob,s.heap.get? a=some ob/\ob.dict=none:=by
 cases x with
 | str z =>
  obtain⟨t,rfl⟩:=r
  cases (show T = "str" from ty)
  exact⟨typeIs_str s z t,λ_ e=>nomatch e⟩
 | int i =>
  obtain⟨t,rfl⟩:=r
  cases (show T = "int" from ty)
  exact⟨typeIs_int s i t,λ_ e=>nomatch e⟩
 | ref p =>
  cases r;rcases ty with ⟨rfl,xs,hq⟩|⟨rfl,o,hk,hc,hd⟩|⟨rfl,hk⟩|⟨rfl,S,n,hk⟩
  ·obtain⟨its,_,pl,_⟩:=I.list hq;refine⟨pl.isList.typeIs,λa e=>?_⟩;cases e;obtain⟨o,n,e,c,hd,_⟩:=pl;exact⟨o,e,hd⟩
  ·refine⟨⟨o,I.Mj p o hk,hc⟩,λa e=>?_⟩;cases e;exact⟨o,I.Mj _ o hk,hd⟩
  ·have z:∃o,s.heap.get? p=some o/\o.ExactDict:=by
    rcases hk with ⟨kvs,hk⟩|⟨kvs,hk⟩
    ·obtain⟨_,_,_,_,o,_,_,e,ex,_⟩:=I.hok p _ hk;exact⟨o,e,ex⟩
    ·obtain⟨_,_,_,_,o,_,_,e,ex,_⟩:=I.hok p _ hk;exact⟨o,e,ex⟩
   obtain⟨o,e,ex⟩:=z;refine⟨⟨o,e,ex.1⟩,λa e2=>?_⟩;cases e2;exact⟨o,e,ex.2.1⟩
  ·obtain⟨o,_,_,_,e,ex,_⟩:=I.hok p _ hk;refine⟨⟨o,e,ex.1⟩,λa e2=>?_⟩;cases e2;exact⟨o,e,ex.2.1⟩
 | _=>exact False.elim ty
def Ke(K:PySem.W.Frag)(T:String)(r:V->List V->Hp->VK->Prop)(to:TE):TE:=λ σ H Q=>to σ H λx H1=>Sg K T x H1/\r x [] H1 Q
def ZQ(K:PySem.W.Frag)(T:String)(r:V->List V->Hp->VK->Prop)(to:TE)(t:TA):TE:=λ σ H Q=>to σ H λx H1=>Sg K T x H1/\t σ H1 λxs H2=>r x xs H2 Q
variable{o e:Expr}{es:List Expr}{to:TE}{t:TA}{name:Str}{apos cpos:Pos}{T id:String}{r:V->List V->Hp->VK->Prop}
theorem HN(pa:PlainAttrs T)(slot:Slot T name id)(hty:typeOf (.builtin id)=pure (.type "method_descriptor"))(hm:R9 X id r)(ho:PE X o to)
  (hbase:attributeBase o name X.env (eval o X.env)=eval o X.env:=by rfl)(hline:(apos.endLine == cpos.line)=true:=by rfl):PE X (.Call (.Attribute o name apos) [] [] cpos) (Ke X.K T r to):=by
 intro π s σ H Q I h;refine wpAny_Call_method0_late hbase hline (K7 (ho π s σ H _ I h) λv s1 ⟨x,H1,I1,r1,ty,q1⟩=>?_);obtain⟨h1,h2⟩:=Dl I1 r1 ty;exact⟨T,id,pa,slot,hty,h1,h2,Calls.callWith_builtin rfl (PySem.evalArgs_none (hm π s1 σ H1 x [] v [] Q I1 r1 .nil q1))⟩
theorem lB(pa:PlainAttrs T)(slot:Slot T name id)(hty:typeOf (.builtin id)=pure (.type "method_descriptor"))(hm:R9 X id r)(ho:PE X o to)(ha:PA X (e::es) t)
  (hbase:attributeBase o name X.env (eval o X.env)=eval o X.env:=by rfl)
  (hfew:((backTo cpos (starEach (e::es) X.env)).all (λx=>!x.1) && (backToKw cpos (keywordEach [] X.env)).all (λx=>x.1.isSome)
   && decide ((e::es).length+([]:List Keyword).length+(if ([]:List Keyword).isEmpty then 0 else 1)<30))=true:=by rfl)
  (hline:(apos.endLine == cpos.line)=true:=by rfl)(hs:starEach (e::es) X.env=(false,eval e X.env)::starEach es X.env:=by rfl)(hplain:(backTo cpos (starEach es X.env)).any (·.1)=false:=by rfl):
  PE X (.Call (.Attribute o name apos) (e::es) [] cpos) (ZQ X.K T r to t):=by
 intro π s σ H Q I h;refine wpAny_Call_method_late hbase hfew hline rfl (K7 (ho π s σ H _ I h) λv s1 ⟨x,H1,I1,r1,ty,q1⟩=>?_);obtain⟨h1,h2⟩:=Dl I1 r1 ty;refine⟨T,id,pa,slot,hty,h1,h2,?_⟩;have hA:=ha cpos π s1 σ H1 _ I1 q1;rw[hs]at hA ⊢;refine Calls.callWith_builtin (by show (false || (backTo cpos (starEach es X.env)).any (·.1))=false;rw[hplain] <;> rfl) (Calls.evalArgs_plain ?_);exact K7 hA λus s2 ⟨vs,H2,I2,r2,q2⟩=>hm π s2 σ H2 x vs v us Q I2 r1 r2 q2
end
def Vs(X:Cx)(id:String)(r:V->List V->Hp->VK->Prop):Prop:=
 ∀(π:List (Addr×Obj)) (s:Shared) (σ:St) (H:Hp) (x:V) (xs:List V) (v:Value) (us:List Value) (Q:VK),Inv X π σ H s->RelV x v->Vals xs us->r x xs H Q ->
  wpAny (model X.prog X.w) X.A (call (.builtin id) (v::us)) (EP X π σ Q) X.xe s
theorem Vals.one:∀{x:V}{us:List Value},Vals [x] us -> ∃u,us=[u]/\RelV x u
 | _,_,.cons r .nil=>⟨_,rfl,r⟩
theorem Vals.reverse{xs:List V}{us:List Value}(h:Vals xs us):Vals xs.reverse us.reverse:=by
 induction h with
 | nil=>exact .nil
 | cons r t ih=>rw[adF,adF];exact Vals.append ih (.cons r .nil)
theorem Vals.rep{xs:List V}{us:List Value}(h:Vals xs us):∀k:Nat,Vals (aaQ k xs).flatten (aaQ k us).flatten
 | 0=>.nil
 | k+1=>by
  rw[abq,abq,abh,abh];exact Vals.append h (Vals.rep h k)
theorem foldl_rep(its:List Value):∀(k:Nat) (acc:List Value),
  ael (λx1 x2=>x1++x2) acc.toArray (aaQ k its.toArray)=(acc++(aaQ k its).flatten).toArray
 | 0,acc=>by simp
 | k+1,acc=>by
  have e:acc.toArray++its.toArray=(acc++its).toArray:=by simp
  have e2:(acc++its)++(aaQ k its).flatten=acc++(aaQ (k+1) its).flatten:=by
   rw[abq,abh,aaG]
  rw[<-e2,<-foldl_rep its k (acc++its),<-e,abq,ad2]
section
variable{X:Cx}{π:List (Addr×Obj)}{σ:St}{H:Hp}{s:Shared}{l b:Addr}{xs ys zs:List V}
theorem Inv.lset{its its':List Value}{n:Nat}{f:Array Value->Array Value}{t':Nat}(I:Inv X π σ H s)(hH:H l=some (.lst xs))
  (e:s.heap.get? l=some { cls:=.type "list",data:=.seq its.toArray n })(hf:f its.toArray=its'.toArray)(hv:Vals ys its')(hz:ys.length<=sizeLine):
  Inv X π σ (upd H l (.lst ys)) { s with heap:=s.heap.update l (Obj.mapSeq f),toks:=t' }:=by
 have q:=PySem.IsL.update e f;rw[hf]at q;refine I.write (x:=l) (e:=l) (by rw[hH];exact trivial) (.inl rfl) (λb' u hb hu=>(Heap.get?_update_other s.heap (Obj.mapSeq f) (abg hb)).trans hu) ⟨_,q⟩ ?_;exact⟨hz,its',_,hv,q⟩
theorem Inv.lnew{its:List Value}{t':Nat}(I:Inv X π σ H s)(hv:Vals ys its)(hz:ys.length<=sizeLine):
  Inv X π σ (upd H s.heap.objs.size (.lst ys)) { s with heap:=s.heap.push { cls:=.type "list",data:=.seq its.toArray },toks:=t' }:=
 I.laid (λ_ _ q=>Heap.get?_push_of_some _ q) (aad _) ⟨hz,its,0,hv,Heap.get?_push_size _ rfl⟩
theorem Inv.fresh(I:Inv X π σ H s):H s.heap.objs.size=none:=I.hok.fresh (aad _)
theorem Inv.lstM(I:Inv X π σ H s)(hH:H l=some (.lst xs)):xs.length<=sizeLine /\ ∃(its:List Value) (n:Nat),Vals xs its/\xs.length=its.length/\s.heap.get? l=some { cls:=.type "list",data:=.seq its.toArray n }:=by
 obtain⟨z,its,n,r,e⟩:=I.hok l _ hH;exact⟨z,its,n,r,r.length,e⟩
theorem wu{n:Nat}(h:n<=sizeLine):Builtin.List.listTooLong n=false:=by
 unfold Builtin.List.listTooLong;exact decide_eq_false (by lia)
end
section
variable{X:Cx}
inductive GZ(x:V)(vs:List V)(H:Hp)(Q:VK):Prop
 | mk (l xs y:_) (_:x=.ref l) (_:vs=[y]) (_:H l=some (.lst xs)) (_:xs.length<sizeLine) (_:Q .non (upd H l (.lst (xs++[y]))))
theorem cG:Vs X "list.append" GZ:=by
 intro π s σ H x vs v us Q I rx rv h;obtain⟨l,xs,y,rfl,rfl,hH,hz,q⟩:=h;cases rx;obtain⟨u,rfl,ru⟩:=rv.one;obtain⟨z,its,n,r,hl,e⟩:=I.lstM hH;refine call_meets F.slot_list_append ⟨_,e,rfl⟩ F.entry_list_append (F.args_list_append_2 _ _) (PySem.list_append l its.toArray n u (by rw[aao];lia)) ⟨e,?_⟩;refine⟨.non,_,I.lset (its':=its++[u]) hH e (by simp) (r.append (.cons ru .nil)) ?_,rfl,q⟩;rw[aae,aa5];lia
inductive FZ(x:V)(vs:List V)(H:Hp)(Q:VK):Prop
 | mk (l b xs zs:_) (_:x=.ref l) (_:vs=[.ref b]) (_:H l=some (.lst xs)) (_:H b=some (.lst zs)) (_:xs.length+zs.length<=sizeLine) (_:Q .non (upd H l (.lst (xs++zs))))
theorem BJ:Vs X "list.extend" FZ:=by
 intro π s σ H x vs v us Q I rx rv h;obtain⟨l,b,xs,zs,rfl,rfl,hH,hB,hz,q⟩:=h;cases rx;obtain⟨u,rfl,ru⟩:=rv.one;cases ru;obtain⟨z,its,n,r,hl,e⟩:=I.lstM hH;obtain⟨z2,its2,n2,r2,hl2,e2⟩:=I.lstM hB;have hsz:its.toArray.size+its2.toArray.size<=sizeLine:=by rw[aao,aao];lia
 have hlong:¬(!its.toArray.isEmpty && Builtin.List.listTooLong (its.toArray.size+its2.toArray.size))=true:=by
  rw[wu hsz,Bool.and_false];exact aat
 refine call_meets F.slot_list_extend ⟨_,e,rfl⟩ F.entry_list_extend (F.args_list_extend_2 _ _)
  (AutoSeq1.list_extend_list_list_0 l its.toArray n b its2.toArray n2 hlong (by rw[aao];lia) (by lia)) ⟨e,e2,?_⟩
 refine⟨.non,_,I.lset (its':=its++its2) hH e (by simp) (r.append r2) ?_,rfl,q⟩;rw[aae];lia
inductive Ka(x:V)(y:V)(H:Hp)(Q:VK):Prop
 | mk (l b xs zs:_) (_:x=.ref l) (_:y=.ref b) (_:H l=some (.lst xs)) (_:H b=some (.lst zs)) (_:xs.length+zs.length<=sizeLine) (_:∀p,H p=none->Q (.ref p) (upd H p (.lst (xs++zs))))
theorem zr:Lp X (binaryOp .Add) Ka:=by
 intro π s σ H x y v u Q I rx ry h;obtain⟨l,b,xs,zs,rfl,rfl,hH,hB,hz,q⟩:=h;cases rx;cases ry;obtain⟨z,its,n,r,hl,e⟩:=I.lstM hH;obtain⟨z2,its2,n2,r2,hl2,e2⟩:=I.lstM hB;refine PySem.P.add_list e e2 ?_ (by rw[aao,aao];lia);have ea:its.toArray++its2.toArray=(its++its2).toArray:=by simp
 rw[ea];exact⟨.ref _,_,I.lnew (t':=s.toks) (r.append r2) (by rw[aae];lia),rfl,q _ I.fresh⟩
inductive Kr(x:V)(y:V)(H:Hp)(Q:VK):Prop
 | mk (l k xs:_) (_:x=.ref l) (_:y=.int k) (_:H l=some (.lst xs)) (_ : -(2^63)<=k) (_:k<2^63) (_:xs.length*k.toNat<=sizeLine) (_:∀p,H p=none->Q (.ref p) (upd H p (.lst (aaQ k.toNat xs).flatten)))
theorem len_rep{α:Type}(xs:List α)(k:Nat):(aaQ k xs).flatten.length=k*xs.length:=by
 induction k with
 | zero=>simp
 | succ k ih=>rw[abq,abh,aae,ih,acI,Nat.add_comm]
theorem HS:Lp X (binaryOp .Mult) Kr:=by
 intro π s σ H x y v u Q I rx ry h;obtain⟨l,k,xs,rfl,rfl,hH,h1,h2,hz,q⟩:=h;cases rx;obtain⟨t,rfl⟩:=ry;obtain⟨z,its,n,r,hl,e⟩:=I.lstM hH;have hlen:its.toArray.size*k.toNat<=sizeLine:=by rw[aao,<-hl];exact hz
 have hcap:¬its.toArray.size*k.toNat > (2^63 - 1) / 8:=by
  have:(sizeLine:Nat)<=(2^63 - 1) / 8:=by decide
  lia
 have hfit:¬(!Builtin.List.listFitsIndex k)=true:=by
  rw[fitsIndex_both h1 h2];exact aat
 have hlong:¬Builtin.List.listTooLong (its.toArray.size*k.toNat)=true:=by
  rw[wu hlen];exact aat
 have hnew:ael (λx1 x2=>x1++x2) #[] (aaQ (if its.toArray.isEmpty=true then 0 else k.toNat) its.toArray)=(aaQ k.toNat its).flatten.toArray:=by
  have f0:∀m:Nat,ael (λx1 x2=>x1++x2) #[] (aaQ m its.toArray)=(aaQ m its).flatten.toArray:=λm=>by
   have:=foldl_rep its m [];rw[abj]at this;exact this
  rw[f0];cases its with
  | nil=>simp
  | cons a r'=>rw[if_neg (by simp)]
 refine wpAny_binaryOp_repeat_ref (T := "list") (U := "int") (by decide) ⟨_,e,rfl⟩ (λs'=>typeIs_int s' k t) noFill_list_mul F.fills_int_mul F.slot_int_rmul repeat_list F.slot_int_index.lookup
  (call_meets F.slot_int_rmul (typeIs_int s k t) F.entry_int_rmul (F.args_int_rmul_2 _ _) (int___rmul___int_list k t l its.toArray n)
   ⟨e,rfl,⟨_,e,rfl⟩,call_meets F.slot_list_mul ⟨_,e,rfl⟩ F.entry_list_mul (F.args_list_mul_2 _ _) (AutoListH.list___mul___list_int_3 l its.toArray n k t hfit hcap hlong) ⟨e,?_⟩⟩)
 rw[hnew];exact⟨.ref _,_,I.lnew (t':=s.toks) (r.rep k.toNat) (by rw[len_rep,Nat.mul_comm];exact hz),rfl,q _ I.fresh⟩
end
section
variable{prog:Program}{w:World}{A:Around}{E:Value->Shared->Prop}{s:Shared}
end
section
variable{X:Cx}
end
end L2
namespace Rn
open PySem PySem.W PySem.Calls PyProof.Rows
theorem o9{P:Params}{h:Heap}:∀(ns:List Int) (vs:List Value),WellAll P h vs (ns.map WData.int)->IntsAre vs ns:=by
 intro ns
 induction ns with
 | nil =>
  intro vs w;rw[ac7]at w;cases w;exact .nil
 | cons n ns ih =>
  intro vs w;rw[aaz]at w;cases w with
  | cons a b =>
   cases a;exact .cons _ _ (ih _ b)
theorem Bm{l:OpenLaw}{n:Nat}(hn:l.most=some n){P:Params}{h:Heap}{args:List WData}{vals:List Value}
  (hpre:l.row.toRowW.claim.pre args=true)(hwl:WellAll P h vals args):
  ∃a vs ns,vals=[Value.ref a]/\args=[WData.list (ns.map WData.int)]/\h.get? a=some { cls:=.type "list",data:=.seq vs.toArray }/\IntsAre vs ns/\ns.length<=n:=by
 have hsh:WShape.hasAll [] args [.list .int]=true:=(pre_splitW hpre).1;have hc:l.pre.holds [] { args:=args }=true:=(pre_splitW hpre).2;obtain⟨d,r,rfl,h1,h2⟩:=hasAllW_cons hsh;obtain rfl:=hasAllW_nil h2;obtain⟨xs,rfl,h3⟩:=hasW_list h1;obtain⟨ns,rfl⟩:=items_int h3;have hlen:ns.length<=n:=by
  unfold OpenLaw.pre at hc;have h4:(WTm.not (.lt (.lit (.int (n:Int))) (.len (.arg 0)))).holds [] { args:=[.list (ns.map .int)] }=true:=by
   have h4:=(holds_andW hc).1;rw[hn]at h4;exact h4
  have h5:=condW_of h4 (w_not (w_lt w_lit (w_len_list (w_arg rfl))));rw[aaa]at h5;refine Nat.le_of_not_lt λq=>?_;have q':(n:Int)<((ns.length:Nat):Int):=by lia
  first
   | (rw[decide_eq_true q']at h5;exact absurd h5 (by decide))
   | (simp at h5;lia)
 cases hwl with
 | cons w1 w2 =>
  cases w2;cases w1 with
  | list ho hall=>exact⟨_,_,ns,rfl,rfl,ho,o9 ns _ hall,hlen⟩
theorem Av(l:OpenLaw)(args:List WData):l.row.toRowW.claim.post args (.bool true) args=true:=
 postW_of (r:=l.row.toRowW) (X:=(true == true))
  (show WShape.has [] (.bool true) .bool=true by first|rfl|decide|simp[WShape.has,WShape.arms,WShape.armsAll])
  (show (WTm.eq .res (.lit (.bool true))).value [] { args:=args,res:=some (.bool true),after:=args }=some (.bool (true == true))from w_eq_bool (w_res rfl) w_lit) rfl
theorem attach_call{l:OpenLaw}{n:Nat}{q:Program}{loose:List Str}{XP:(Str->Option Value)->Heap->Prop}{YP:World->Heap->Prop}{d:DefRec}
  (hn:l.most=some n)(hdf:d.params.defaults=[])
  (call:∀(w:World) (s₀ s₁:Shared) (mg mb:Str->Option Value) (fa:Addr) (o:Obj) (pm cd doc:Value) (a:Addr) (vs:List Value) (ns:List Int),
   Ground q loose [] XP w s₀ mg mb s₁.heap->YP w s₁.heap ->
   s₁.heap.get? fa=some o->o.data=.func (docDef d.name d.params d.body d.scope pm cd doc)->s₁.heap.CodeRec cd d.name->mg d.name=some (.ref fa) ->
   s₁.heap.get? a=some { cls:=.type "list",data:=.seq vs.toArray }->IntsAre vs ns->ns.length<=n->s₁.gens=#[] ->
   codeAny (model l.prog w) callerA (.call (.ref fa) ⟨[.ref a],[]⟩) (λr s'=>r=.ok (.ret (.bool true))/\OldK s₁.heap s'.heap/\s'.os=s₁.os/\AllBare s'.gens) s₁):
  WalkO q loose XP YP l.row.toRowW d [] (λf vs=>PySem.call f vs):=by
 intro w s₀ s₁ mg mb G Y fa o pm cd doc dV kV ho hd hcd hD hmg hg args vals as hpre hlay hrd hwl hlo;obtain rfl:dV=.none:=Dflts.none hD hdf;obtain rfl:kV=.none:=Dflts.noKw hD;obtain⟨a,vs,ns,rfl,rfl,hobj,hints,hlen⟩:=Bm hn hpre hwl;refine enter_call (codeAny_mono (call w s₀ s₁ mg mb fa o pm cd doc a vs ns G Y ho (fd_plain hd) hcd hmg hobj hints hlen hg) λr s' hq=>?_);obtain⟨rfl,h2,h3,h4⟩:=hq;exact⟨.inl ⟨.bool true,.bool true,[],rfl,λ_=>rfl,.bool true,Av l _,λ_=>⟨adG,λ_ hm=>(nomatch hm)⟩⟩,h2,h3,h4⟩
section
variable{prog:Program}{w:World}{A:Around}{E:Value->Shared->Prop}{s:Shared}{K:Frag}
end
end Rn
namespace L2
open PySem PySem.Spec PyProof.Rows
theorem j9:∀{vs:List Value}{ns:List Int},IntsAre vs ns->Vals (ns.map V.int) vs
 | _,_,.nil=>.nil
 | _,_,.cons n t h=>.cons ⟨t,rfl⟩ (j9 h)
def ν(s:Stmt):Arguments:=match s with
 | .FunctionDef _ a _ _ _ _ _ _ _ _=>a
 | _=>{ posonlyargs:=[],args:=[],vararg:=none,kwonlyargs:=[],kw_defaults:=[],kwarg:=none,defaults:=[] }
def μ(s:Stmt):List Stmt:=match s with
 | .FunctionDef _ _ b _ _ _ _ _ _ _=>b
 | _=>[]
def δ(s:Stmt):Scope:=match s with
 | .FunctionDef _ _ _ _ _ _ sc _ _ _=>sc
 | _=>{ kind:=.function,names:=[],isGenerator:=false,isCoroutine:=false }
abbrev K9:Mx:=λ_ _ _ _ _ _=>False
abbrev E0:XK:=λ_ _ _=>False
theorem aR{X:Cx}:lX K9 X E0:=λ_ _ _ _ _ _ _ h=>h.elim
structure MJ(K:PySem.W.Frag)(x qual:Str)(st:Stmt)(f:Addr)(fd:FuncData):Prop where
 ex:∃(oc:Value) (od:Option Addr) (kV doc pm:Value) (an:Option Addr) (cdv ct:Value) (osl:Array (Option Value)),
  fd=PySem.W.fnOf x qual (ν st) (μ st) (δ st) .none kV doc pm an cdv ct/\K.lookup f=some ⟨oc,od,.func fd,osl⟩/\PySem.W.codeIn K cdv qual=true
 kp:PySem.W.keepIn K (.ref f)=true
section
variable{P:Program}{w:World}{K:PySem.W.Frag}{mg:Str->Option Value}{base:Heap}
theorem MJ.ok{x qual:Str}{st:Stmt}{f:Addr}{fd:FuncData}{N ps:List Str}{k:Nat}{sp:Sp}(F:MJ K x qual st f fd)(S:aK N ps (δ st))(len:∀vs H Q E,sp vs H Q E->vs.length=ps.length)
  (hbody:∀(cdv:Value) (A:Around) (outer:List Env) (s:Shared) (H:Hp) (vs:List V) (Q:VK) (E:XK),eY k (A.deeper (envOfC qual (δ st) s.heap.objs.size f cdv))->sp vs H Q E ->
   ∃t,Ma (gU K9 P w K mg base N qual (δ st) f cdv A outer s H E).Rj (μ st) t/\t { nx:=λ_ H'=>Q .non H',rt:=Q } (start N vs) H):bh P w K mg base K9 (k+1) f fd ps sp:=by
 obtain⟨oc,od,kV,doc,pm,an,cdv,ct,osl,rfl,lk,hcd⟩:=F.ex;refine Hf lk hcd S len λA outer s H vs Q E hr hsp=>?_;obtain⟨t,h,q⟩:=hbody cdv A outer s H vs Q E hr hsp;exact⟨t,h.Rj,q⟩
theorem MJ.binds{x qual:Str}{st:Stmt}{f:Addr}{fd:FuncData}{ps:List Str}(F:MJ K x qual st f fd)
  (h:∀(kV doc pm:Value) (an:Option Addr) (cdv ct:Value) (us:List Value),us.length=ps.length->bindArgs (PySem.W.fnOf x qual (ν st) (μ st) (δ st) .none kV doc pm an cdv ct) ⟨us,[]⟩=pure (ps.zip us)):Binds K fd ps []:=by
 obtain⟨oc,od,kV,doc,pm,an,cdv,ct,osl,rfl,lk,hcd⟩:=F.ex;exact .all (h kV doc pm an cdv ct)
theorem yI{x qual:Str}{st:Stmt}{f:Addr}{oc:Value}{od an:Option Addr}{osl:Array (Option Value)}{kV doc pm cdv ct:Value}(l:K.lookup f=some ⟨oc,od,.func (PySem.W.fnOf x qual (ν st) (μ st) (δ st) .none kV doc pm an cdv ct),osl⟩)
  (c:PySem.W.codeIn K cdv qual=true)(k:PySem.W.keepIn K (.ref f)=true):MJ K x qual st f (PySem.W.fnOf x qual (ν st) (μ st) (δ st) .none kV doc pm an cdv ct):=⟨⟨oc,od,kV,doc,pm,an,cdv,ct,osl,rfl,l,c⟩,k⟩
end
section
variable{X:Cx}
theorem pv(i:Nat){x:Str}{pos:Pos}(hN:X.N[i]?=some x:=by rfl)(hv:Rg X.env.scope x:=by first|exact aai rfl|exact acJ (aai rfl) | exact acJ (acJ rfl))(hd:(x == ("__debug__" : Str))=false:=by decide)
  (hcd:(x == ("__classdict__" : Str))=false:=by decide):PE X (.Name x pos) (Jy i):=yR hN hv hd hcd
end
theorem cF{A B:Prop}(h:B):if false=true then A else B:=by
 rw[if_neg aat];exact h
theorem dz{A B:Prop}(h:A):if true=true then A else B:=by
 rw[if_pos rfl];exact h
theorem bJ{c A B:Prop}[Decidable c](h1:c->A)(h2:¬c->B):if c then A else B:=by
 by_cases h:c
 ·rw[if_pos h];exact h1 h
 ·rw[if_neg h];exact h2 h
theorem oU{c A B:Prop}[Decidable c](hc:c)(h:B):if (!decide c)=true then A else B:=by
 rw[decide_eq_true hc];exact cF h
def aV(H H':Hp):Prop:=∀b o,H b=some o->H' b=some o
theorem aV.refl(H:Hp):aV H H:=λ_ _ h=>h
theorem aV.trans{H H1 H2:Hp}(a:aV H H1)(b:aV H1 H2):aV H H2:=λc o h=>b c o (a c o h)
theorem aV.free{H H':Hp}(e:aV H H'){l:Addr}(h:H' l=aeu):H l=aeu:=by
 cases q:H l with
 | none=>rfl
 | some o =>
  rw[e l o q]at h;cases h
theorem aV.seq{K:PySem.W.Frag}{H H':Hp}{a:Addr}{xs:List V}(e:aV H H')(h:K5 K H a xs):K5 K H' a xs:=by
 rcases h with (h|⟨o,h⟩) | h
 ·exact .inl (.inl (e _ _ h))
 ·exact .inl (.inr ⟨o,e _ _ h⟩)
 ·exact .inr h
end L2
set_option maxHeartbeats 4000000
set_option Elab.async false
set_option linter.all false
set_option maxRecDepth 100000
set_option maxHeartbeats 4000000
namespace Tw
open PySem L2
theorem au{H:Hp}{p:Addr}(h:H p=none)(o:HO):aV H (upd H p o):=λb u q=>by rw[aD (aB q h)];exact q
theorem cR{H H':Hp}{p:Addr}(s:aV H H')(h:H p=none)(o:HO):aV H (upd H' p o):=λb u q=>by rw[aD (aB q h)];exact s b u q
theorem small{n:Nat}(h:n<=4097):n<sizeLine:=ab0 h (by decide)
theorem bc:bootBuiltins "len" = some (.builtin "len"):=by decide +kernel
theorem Jk:bootBuiltins "sum" = some (.builtin "sum"):=by decide +kernel
theorem dH:bootBuiltins "isinstance" = some (.builtin "isinstance"):=by decide +kernel
theorem yC:bootBuiltins "min" = some (.builtin "min"):=by decide +kernel
theorem Ih:bootBuiltins "max" = some (.builtin "max"):=by decide +kernel
theorem Jf:bootBuiltins "abs" = some (.builtin "abs"):=by decide +kernel
theorem oN:bootBuiltins "sorted" = some (.builtin "sorted"):=by decide +kernel
theorem Jq:bootBuiltins "int" = some (.type "int"):=by decide +kernel
theorem Fw:bootBuiltins "bool" = some (.type "bool"):=by decide +kernel
theorem lY:bootBuiltins "list" = some (.type "list"):=by decide +kernel
theorem mD:bootBuiltins "tuple" = some (.type "tuple"):=by decide +kernel
theorem jJ:bootBuiltins "reversed" = some (.type "reversed"):=by decide +kernel
theorem yP:bootBuiltins "set" = some (.type "set"):=by decide +kernel
theorem nG:bootBuiltins "zip" = some (.type "zip"):=by decide +kernel
theorem zx(ns:List Int)(i j:Nat):rJ (ns.map V.int) (some (i:Int)) (some (j:Int))=((ns.drop i).take (j - i)).map V.int:=by
 unfold rJ;rw[HT.vD,HT.vD,acW,aem,aaa];rcases aaM ns.length i with h|h
 ·rw[ac3 (aba h),abY (by simp),abY (by simp;lia)];simp
 ·rw[ab5 h];rcases aaM ns.length j with q|q
  ·rw[ac3 (aba q),aav (by simp),aav (by simp;lia)]
  ·rw[ab5 q]
theorem zc(ns:List Int)(j:Nat):rJ (ns.map V.int) none (some (j:Int))=(ns.take j).map V.int:=by
 unfold rJ;rw[HT.vD,HT.De,acW,aaa,abX,abw];rcases aaM ns.length j with q|q
 ·rw[ac3 (aba q),aav (by simp),aav (by simp;lia)]
 ·rw[ab5 q]
theorem int_at{ns:List Int}{i:Nat}{x:V}(h:(ns.map V.int)[i]?=some x):∃c,ns[i]?=some c/\x=.int c:=by
 rw[aag]at h;cases e:ns[i]? with
 | none=>rw[e]at h;cases h
 | some c=>rw[e]at h;exact⟨c,rfl,(aax h).symm⟩
theorem cM{ns:List Int}{i:Nat}{c:Int}(h:ns[i]?=some c):Lj (ns.map V.int) (i:Int)=some (.int c):=zz (by rw[aag,h];rfl)
structure Df(K:PySem.W.Frag)(mg:Str->Option Value)(x:Str)(st:Stmt)(ps:List Str)(f:Addr)(fd:FuncData):Prop where
 F:MJ K x x st f fd
 b:Binds K fd ps []
 m:mg x=some (.ref f)
def bit(b:Int)(k:Nat):Int:=b / 2^k%2
def bits(b:Int)(n:Nat):List Int:=(aaO n).map (bit b)
def ones(b:Int)(n:Nat):Int:=(bits b n).sum
theorem jU(b:Int)(n:Nat):(bits b n).length=n:=by simp[bits]
theorem BV(b:Int)(n:Nat):bits b (n+1)=bits b n++[bit b n]:=by simp[bits,aaR]
theorem ue(b:Int):ones b 0=0:=rfl
theorem dU(b:Int)(n:Nat):ones b (n+1)=ones b n+bit b n:=by
 unfold ones;rw[BV];simp
theorem xK{b:Int}{n k:Nat}(h:k<n):(bits b n)[k]?=some (bit b k):=by simp[bits,h]
theorem ux(b:Int)(k:Nat):bit b k=0\/bit b k=1:=by
 unfold bit;lia
theorem CK(b:Int){k n:Nat}(h:k<=n):ones b k<=ones b n:=by
 induction n with
 | zero =>
  have:k=0:=by lia
  subst this;lia
 | succ n ih =>
  rcases aaM k (n+1)with h' | h'
  ·have:=ih (by lia);have:=ux b n;rw[dU];lia
  ·have:k=n+1:=by lia
   subst this;lia
theorem place_below{b:Int}{k n:Nat}(hk:bit b k=1)(h:k<n):ones b k<ones b n:=by
 have:=CK b (show k+1<=n by lia);rw[dU]at this;lia
def bB(ns:List Int):Prop:=∀b∈ns,b=0\/b=1
theorem bB.tail{b:Int}{ns:List Int}(h:bB (b::ns)):bB ns:=λx hx=>h x (.tail _ hx)
theorem bB.head{b:Int}{ns:List Int}(h:bB (b::ns)):b=0\/b=1:=h b (.head _)
theorem bB.take{ns:List Int}(h:bB ns)(k:Nat):bB (ns.take k):=λx hx=>h x (abm hx)
theorem bB.drop{ns:List Int}(h:bB ns)(k:Nat):bB (ns.drop k):=λx hx=>h x (acy hx)
def blk:List Int->Int
 | []=>0
 | b::r=>2*blk r+b
theorem qN:∀{ns:List Int},bB ns->0<=blk ns
 | [],_=>by simp[blk]
 | b::r,h=>by
  have:=qN h.tail;have:=h.head;simp only[blk];lia
theorem wY(b:Int):bit b 0=b%2:=by simp[bit]
theorem uv(b:Int)(k:Nat):bit b (k+1)=bit (b / 2) k:=by
 unfold bit;rw[acX (by decide),<-Int.pow_succ']
theorem pQ:∀{ns:List Int},bB ns -> ∀k:Nat,bit (blk ns) k=(ns[k]?).getD 0
 | [],_,k=>by simp[blk,bit]
 | b::r,h,0=>by
  have:=h.head;rw[wY];simp only[blk,List.getElem?_cons_zero,adT];lia
 | b::r,h,k+1=>by
  have hb:=h.head;rw[uv,acY];have e:blk (b::r) / 2=blk r:=by simp only[blk];lia
  rw[e];exact pQ h.tail k
theorem mz{ns:List Int}(h:bB ns):∀k:Nat,ones (blk ns) k=(ns.take k).sum
 | 0=>by simp[ue]
 | k+1=>by
  rw[dU,mz h k,pQ h];by_cases hk:k<ns.length
  ·rw[aa8,aac hk];simp only[Option.toList_some,acB,acZ,List.sum_nil,adT];lia
  ·rw[aav (by lia),aav (by lia),ab6 (by lia)];simp
def many(n:Nat):Nat:=(n+31) / 32
def dG(ns:List Int)(j:Nat):Int:=blk ((ns.drop (32*j)).take 32)
def cZ(ns:List Int):List Int:=(aaO (many ns.length)).map (dG ns)
theorem eX(ns:List Int):(cZ ns).length=many ns.length:=by simp[cZ]
theorem uw{ns:List Int}{j:Nat}(h:j<many ns.length):(cZ ns)[j]?=some (dG ns j):=by simp[cZ,h]
theorem qz{ns:List Int}(h:bB ns)(j:Nat):bB ((ns.drop (32*j)).take 32):=(h.drop _).take _
theorem bit_at{ns:List Int}(h:bB ns)(j k:Nat)(hk:k<32):bit (dG ns j) k=(ns[32*j+k]?).getD 0:=by
 unfold dG;rw[pQ (qz h j),aa3 hk,ab1]
def ht(ns:List Int)(k:Nat):Int:=2*(ns.take k).sum - k
theorem u5(ns:List Int)(a k:Nat):(ns.take (a+k)).sum=(ns.take a).sum+((ns.drop a).take k).sum:=by
 rw[ac0,acB]
theorem yG{ns:List Int}(h:bB ns)(j k:Nat)(hk:k<=32):ones (dG ns j) k=((ns.drop (32*j)).take k).sum:=by
 unfold dG;rw[mz (qz h j),adm,ab5 hk]
theorem gr{ns:List Int}(h:bB ns)(j k:Nat)(hk:k<=32):(ns.take (32*j)).sum+ones (dG ns j) k=(ns.take (32*j+k)).sum:=by
 rw[yG h j k hk,u5]
theorem CN(b:Int)(n:Nat):bits b (n+1)=b%2::bits (b / 2) n:=by
 unfold bits;rw[List.range_succ_eq_map,aaz,wY,acK];congr 1;refine acC λk _=>?_;exact uv b k
theorem xT:∀(n:Nat) (b:Int),0<=b->b<2^n->blk (bits b n)=b
 | 0,b,h0,h1=>by
  have:b=0:=by simp at h1;lia
  subst this;rfl
 | n+1,b,h0,h1=>by
  rw[acL]at h1;rw[CN,blk,xT n (b / 2) (by lia) (by lia)];lia
theorem xU(b:Int)(n:Nat):bB (bits b n):=λx hx=>by
 obtain⟨k,_,rfl⟩:=aaE.mp hx;exact ux b k
end Tw
namespace L2
open PySem PySem.Spec PyProof.Rows
section
variable{X:Cx}{π:List (Addr×Obj)}{σ:St}{H:Hp}{s:Shared}{h':Heap}
theorem Inv.turn2{e it p:Addr}{o:HO}{t':Nat}(I:Inv X π σ H s)(fe:fG X π H e)(fi:fG X π H it)
  (k:∀b u,b≠e->b≠it->s.heap.get? b=some u->h'.get? b=some u)(hp:s.heap.objs.size<=p)
  (new:bI X.prog X.w (upd H p o) h' p o):Inv X π σ (upd H p o) { s with heap:=h',toks:=t' }:=by
 have hn:=I.hok.fresh hp;have ne:∀b u,H b=some u->b≠e:=λb u q z=>by rw[z,fe.1]at q;cases q
 have ni:∀b u,H b=some u->b≠it:=λb u q z=>by rw[z,fi.1]at q;cases q
 have up:∀b u,H b=some u->upd H p o b=some u:=λb u q=>by rw[aD (aB q hn)];exact q
 have k':∀b u,b∉[e,it]->s.heap.get? b=some u->h'.get? b=some u:=λb u hb q=>k b u (λz=>hb (by simp[z])) (λz=>hb (by simp[z])) q;refine I.step (g':=s.gens) (d':=s.drawn) (ch:=[e,it]) (λb hb=>?_) (λb u _ _ hx q _=>k' b u hx q) (λb u _ _ hx q _=>⟨u.slots,k' b u hx q⟩)
  (λb u _ q n=>by rw[aD (aak (aaf (Heap.lt_size q) hp))];exact n) (λb u hx q=>⟨u,k' b u hx q⟩)
  (λb xs q=>up _ _ q) (λb ob u q=>up _ _ q) (λb ps q=>⟨#[],by rw[up _ _ q];simp⟩) (λm hm=>?_) (λb u q=>?_) I.bare
 ·rcases aaA.mp hb with rfl|hb
  ·exact⟨fe.2.2.2.1,fe.2.1,fe.2.2.2.2.1,fe.2.2.2.2.2⟩
  ·rw[aal.mp hb];exact⟨fi.2.2.2.1,fi.2.1,fi.2.2.2.2.1,fi.2.2.2.2.2⟩
 ·obtain⟨ob,es,ep,ho,r⟩:=hm;exact⟨ob,es,ep,k _ ob (abg fe.2.1) (abg fi.2.1) ho,r⟩
 ·by_cases hb:b=p
  ·subst hb;rw[aq]at q;cases q;exact new
  ·rw[aD hb]at q;refine(I.hok b u q).stay (λc v hc r=>k c v ?_ ?_ r) (λc r=>up _ _ r) λc xs r=>up _ _ r
   ·rcases hc with rfl|z
    ·exact ne _ _ q
    ·exact ne _ _ z
   ·rcases hc with rfl|z
    ·exact ni _ _ q
    ·exact ni _ _ z
end
def PL(K:PySem.W.Frag)(a:Addr):It:=
  ⟨λi H=>∃xs x,K5 K H a xs/\xs[i]?=some x,λi H x H'=>∃p y,H p=none/\x=.ref p/\H'=upd H p (.tup [.int (i:Int),y]) /\ ∀xs,K5 K H a xs->xs[i]?=some y,
   λi H=>∃xs,K5 K H a xs/\xs.length<=i⟩
theorem By{P:Program}{w:World}{K:PySem.W.Frag}{elts:List Expr}{x1:Nat}{tpos:Pos}(a e it:Addr)(hne:e≠it):
  Turn P w K (.Tuple elts x1 tpos) (PL K a) [e,it] e (λi h=>(∃old,IsEnum h e it (i:Nat) old)/\h.IsListIter it a i) where
 mem:=by simp
 obj:=λi h st b hb=>by
  obtain⟨⟨old,he⟩,o,ho,hc,hd⟩:=st;rcases aaA.mp hb with rfl|hb
  ·exact⟨_,he,λv z=>by cases z⟩
  ·rw[aal.mp hb];exact⟨o,ho,λv z=>by rw[hd]at z;cases z⟩
 keep:=λi h h' st k=>by
  obtain⟨⟨old,he⟩,st⟩:=st;exact⟨⟨old,k e (by simp) _ he⟩,st.at λo q=>k it (by simp) o q⟩
 item:=by
  intro X hP hw hK hc i π s σ H E I hf st hg;subst hP hw hK;obtain⟨xs,x,hq,hx⟩:=hg;obtain⟨its,rv,p,hz⟩:=I.list hq;obtain⟨u,hu,ru⟩:=rv.get hx;obtain⟨⟨old,he⟩,st⟩:=st;refine wpAny_pyNext_enum_item he st p.isList (x:=u) (by simpa using hu) hne λh1 heo hit1 ht1 hz1 hk1=>?_;refine⟨_,rfl,wpAny_letOwnedTupleGo_enum heo λh2 he2 hs2=>?_⟩;have ee:e<s.heap.objs.size:=Heap.lt_size he
  have g2:h2.get? s.heap.objs.size=some { cls:=.type "tuple",data:=.seq #[.int (i:Int) s.toks,u] }:=(hs2.2 _ (abH ee)).trans ht1
  have kk:∀b o,b≠e->b≠it->s.heap.get? b=some o->h2.get? b=some o:=λb o h3 h4 q=>(hs2.2 b h3).trans (hk1 b o h3 h4 q);have new:bI X.prog X.w (upd H s.heap.objs.size (.tup [.int (i:Int),x])) h2 s.heap.objs.size (.tup [.int (i:Int),x]):=
   ⟨(by show 2<=sizeLine;decide),[.int (i:Int) s.toks,u],.cons ⟨_,rfl⟩ (.cons ru .nil),_,g2,rfl,_,rfl⟩
  have I2:=I.turn2 (h':=h2) (t':=s.toks+1) (hf e (by simp)) (hf it (by simp)) kk (aad _) new;have hn:H s.heap.objs.size=none:=I.hok.fresh (aad _);refine⟨.ref s.heap.objs.size,_,I2,rfl,⟨_,x,hn,rfl,rfl,λys hy=>by rw[I.list_inj hy hq];exact hx⟩,⟨⟨u,by simpa using he2⟩,hit1.extBut hs2.extBut (abg hne)⟩,λb hb=>?_⟩;have hbn:=(hf b hb).1;have hbs:b≠s.heap.objs.size:=by
   obtain⟨o,hio,_⟩:=st;rcases aaA.mp hb with rfl|hb
   ·exact aak ee
   ·rw[aal.mp hb];exact aak (Heap.lt_size hio)
  rw[aD hbs];exact hbn
 done:=by
  intro X hP hw hK hc i π s σ H E I hf st hg;subst hP hw hK;obtain⟨xs,hq,hx⟩:=hg;obtain⟨its,rv,p,hz⟩:=I.list hq;obtain⟨f0,f1,f2,f3,f4,f5⟩:=hf it (by simp);obtain⟨⟨old,he⟩,st⟩:=st;have hl:=rv.length;exact wpAny_pyNext_enum_end (I.ok.hd hc) he st p.isList (by simp;lia) λh' eb=>⟨rfl,I.turned (t':=s.toks) (λb o hb q=>eb b o hb q) f0 f1 f3 f4 f5⟩
 self:=λ_ _ _ _ _ st h=>by
  obtain⟨⟨old,he⟩,_⟩:=st;exact wpAny_pyIter_enum he h
section
variable{X:Cx}
inductive FP(K:PySem.W.Frag)(R:It->Hp->Prop)(vs:List V)(H1:Hp):Prop
 | mk (a xs:_) (_:vs=[.ref a]) (_:K5 K H1 a xs) (_:R (PL K a) H1)
def Jt(K:PySem.W.Frag)(ta:TA):TI:=λ σ H R=>ta σ H λvs H1=>FP K R vs H1
theorem zG{a:Expr}{ta:TA}{p pos:Pos}{elts:List Expr}{x1:Nat}{tpos:Pos}(hg:Gl X "enumerate")(hm:X.mg "enumerate" = none)(ha:PA X [a] ta)(hs:starEach [a] X.env=[(false,eval a X.env)]:=by rfl):
  PI X (.Tuple elts x1 tpos) (.Call (.Name "enumerate" p) [a] [] pos) (Jt X.K ta):=by
 intro π s σ H R I h;refine Call_ (fu I hg hm boot_enumerate (PyProof.Rows.callWith_type1 (K7 (ha pos π s σ H _ I h) λus s1 ⟨vs,H1,I1,r1,q1⟩=>?_) hs rfl));obtain⟨b,xs,e,hq,q⟩:=q1;subst e;obtain⟨u,rfl,rx⟩:=vals1 r1;cases rx;obtain⟨its,rv,pl,hz⟩:=I1.list hq;refine call_enumerate_list pl.isList λh' he hit hsz hk=>?_;refine wpAny_pyIter_enum he ?_;have I2:Inv X π σ H1 { s1 with heap:=h' }:=I1.kept (t':=s1.toks) hk;have ne:s1.heap.objs.size+1≠s1.heap.objs.size:=by lia
 refine⟨s1.heap.objs.size+1,[s1.heap.objs.size+1,s1.heap.objs.size],_,PL X.K b,H1,rfl,I2,By b _ _ ne,⟨⟨_,he⟩,hit⟩,λc hc=>?_,q⟩;have hle:s1.heap.objs.size<=c:=by
  rcases aaA.mp hc with rfl|hc
  ·lia
  ·rw[aal.mp hc];lia
 exact I1.fpOk hle (I1.hok.fresh hle)
end
theorem wJ{K:PySem.W.Frag}{a:Addr}{xs:List V}{g:TG}{tb:TS}{D:Ends}{σ:St}{H:Hp}(Pv:Nat->St->Hp->Prop)(h0:Pv 0 σ H)(hl:∀i σ H,i<=xs.length->Pv i σ H->K5 K H a xs)
  (hs:∀i x σ H p,xs[i]?=some x->Pv i σ H->H p=none->g (.ref p) σ (upd H p (.tup [.int (i:Int),x])) λ σ2 H2=>tb { D with nx:=Pv (i+1),ct:=Pv (i+1),bk:=D.nx } σ2 H2)(hd:∀σ H,Pv xs.length σ H->D.nx σ H):
  ∃W:Nat->Nat->St->Hp->Prop,(∃m,W 0 m σ H) /\ ∀i m σ H,W i m σ H ->
   ((PL K a).stop i H/\D.nx σ H)\/((PL K a).go i H /\ ∃N:St->Hp->Prop,(∀σ' H',N σ' H' -> ∃m',m'<m/\W (i+1) m' σ' H') /\ ∀x H',(PL K a).Nk i H x H'->g x σ H' λ σ2 H2=>tb { D with nx:=N,ct:=N,bk:=D.nx } σ2 H2):=by
 refine⟨λi m σ H=>m=xs.length - i/\i<=xs.length/\Pv i σ H,⟨xs.length,by simp,aaq _,h0⟩,?_⟩;rintro i m σ H ⟨rfl,hi,p⟩;have q:=hl i σ H hi p;by_cases hlt:i<xs.length
 ·refine .inr ⟨⟨xs,xs[i],q,by simp[hlt]⟩,Pv (i+1),λ σ' H' p'=>⟨xs.length - (i+1),by lia,rfl,hlt,p'⟩,λx H' y=>?_⟩;obtain⟨c,y,hn,e1,e2,hy⟩:=y;subst e1 e2;exact hs i y σ H c (hy xs q) p hn
 ·have e:i=xs.length:=by lia
  subst e;exact .inl ⟨⟨xs,q,aad _⟩,hd σ H p⟩
section
variable{X:Cx}
theorem DX(hc:X.calm=true):gH X (.builtin "sum") (λxs H Q=>∃(p:Addr) (ns:List Int),xs=[.ref p]/\K5 X.K H p (ns.map V.int)/\Q (.int ns.sum) H):=by
 intro π s σ H xs us Q I r h;obtain⟨p,ns,rfl,hq,q⟩:=h;obtain⟨u,rfl,rx⟩:=vals1 r;cases rx;obtain⟨its,r',pl,hz⟩:=I.list hq;have hi:=intsAre_of r';obtain⟨zs,e⟩:=hi.allInts.items;refine sum_intListG (xs:=zs) (I.ok.hd hc) (by rw[<-e];exact pl.isList) λh' tk t' hk=>⟨.int ns.sum,H,I.kept (t':=tk) hk,⟨t',?_⟩,q⟩;have e2:numsOf (intItems zs).toList=ns:=by rw[<-e];exact hi.numsOf
 rw[nums_intItems]at e2;rw[<-e2,preSum_eq,aav (by simp)]
theorem jH:gH X (.builtin "isinstance") (λxs H Q=>∃x T t b,xs=[x,.ty T]/\oO X.K H x t/\PySem.W.kitOne X.K t (.type T)=some b/\Q (.bl b) H):=by
 intro π s σ H xs us Q I r h;obtain⟨x,T,t,b,rfl,ty,e,q⟩:=h;obtain⟨u,v,rfl,rx,rv⟩:=vals2 r;obtain rfl:v=Value.type T:=rv;exact Cg I rx ty e λtk=>⟨.bl b,H,I.tok tk,rfl,q⟩
end
def bC(X:Cx)(N:List Str)(scope:Scope)(cl:List (Str×Addr))(C:Addr)(s:Shared)(H:Hp)(fp:List Addr):Cx:=
 { X with N:=N,s₀:=s,H₀:=H,env:=compEnvC scope cl C X.env,outer:=X.stack,ex:=fp,fn:=λ_=>false,pn:=[],xe:=λ_ _=>False }
structure bM(X:Cx)(x:Str)(caps:List (Str×Nat))(scope:Scope)(cl:List (Str×Addr)):Prop where
 kind:scope.kind=.function
 ρ:∀y∈scope.names,y.2 ≠ .cell
 names:∀y∈scope.names,y.2=.local->scope.names.lookup y.1=some .local
 hx:scope.names.lookup x=some .local
 clos:closureFor scope X.env=pure cl
 cls:∀y c,cl.lookup y=some c->X.env.cells.lookup y=some c
 has:∀y,((relabel scope X.env).names.lookup y=some .cell\/(relabel scope X.env).names.lookup y=some .free) -> ∃c,cl.lookup y=some c
 nd:(x::caps.map (·.1)).Nodup
 cap:∀y j,(y,j)∈caps->X.N[j]?=some y/\(X.env.scope.names.lookup y=some .cell\/X.env.scope.names.lookup y=some .free) /\
  ((relabel scope X.env).names.lookup y=some .cell\/(relabel scope X.env).names.lookup y=some .free)
def dw(caps:List (Str×Nat))(σ:St):St:=caps.map λp=>(σ[p.2]?).getD none
section
variable{X:Cx}{π:List (Addr×Obj)}{σ:St}{H:Hp}{s:Shared}
theorem j6(caps:List (Str×Nat))(σ:St):(dw caps σ).length=caps.length:=by simp[dw]
theorem Inv.comp{x:Str}{caps:List (Str×Nat)}{scope:Scope}{cl:List (Str×Addr)}{fp:List Addr}{h':Heap}{tk:Nat}{m:Str->Option Value}{D C:Addr}(I:Inv X π σ H s)(K0:bM X x caps scope cl)(hf:∀b∈fp,fG X π H b)
  (hfs:∀b∈fp,b<s.heap.objs.size)(hD:s.heap.objs.size<=D)(hC:s.heap.objs.size<=C)(hDC:D≠C)(hk:∀b o,s.heap.get? b=some o->h'.get? b=some o)(hn:h'.Ns C m)(hL:h'.get? D=some { cls:=.type "list",data:=.seq #[] }):
  Inv (bC X (x::caps.map (·.1)) scope cl C s H fp) [] (none::dw caps σ) (upd H D (.lst [])) { s with heap:=h',toks:=tk }:=by
 have Oo:=I.hok.fresh hD;have hnC:=I.hok.fresh hC;have Ml:∀y c,(bC X (x::caps.map (·.1)) scope cl C s H fp).env.cells.lookup y=some c->X.env.cells.lookup y=some c:=λy c e=>K0.cls y c e;have O9:∀y c,X.env.cells.lookup y=some c->c<s.heap.objs.size:=λy c e=>by
  obtain⟨v,q⟩:=I.cell y c e;exact q.lt
 have up:∀b u,H b=some u->upd H D (.lst []) b=some u:=λb u q=>by rw[aD (aB q Oo)];exact q
 have ok:(bC X (x::caps.map (·.1)) scope cl C s H fp).Ok:=by
  refine⟨I.ok.mod,K0.kind,I.ok.glob,I.ok.blt,hC,λy z c h1 h2=>I.ok.inj y z c (Ml y c h1) (Ml z c h2),λy hy=>K0.has y hy,λy c h=>absurd (show false=true from h) aat,I.ok.hd,I.ok.frames,.inl rfl,λb hb=>?_,I.bs,aaS I.ok.Mv I.sz,λb o e hb=>?_,λb hb hz=>?_,I.stack,I.stkFree⟩
  ·obtain⟨f0,f1,f2,f3,f4,f5⟩:=hf b hb;exact⟨aak (aaf (hfs b hb) hC),λy c e=>f4 y c (Ml y c e)⟩
  ·obtain⟨f0,f1,f2,f3,f4,f5⟩:=hf b hb;rcases f3 with z|z
   ·exact I.ok.noex b o e z
   ·exact absurd (aaf (aaf (Heap.lt_size e) I.ok.Mv) z) (aaZ _)
  ·obtain⟨f0,f1,f2,f3,f4,f5⟩:=hf b hb;rcases aaA.mp (I.stkSub b hz)with z|z
   ·exact f1 z
   ·exact f2 z
 refine⟨ok,rfl,I.bare,?_,⟨m,hn,λi y v e1 e2 e3=>?_⟩,λy c e=>?_,?_,λy c e=>?_,λp hp=>absurd (show p∈([]:List (Addr×Obj))from hp) (by simp),?_,?_⟩
 ·exact Un.laid hk hD Oo
 ·cases i with
  | zero=>cases e2
  | succ i =>
   have e1':(caps.map (·.1))[i]?=some y:=e1;have e2':(dw caps σ)[i]?=some (some v):=e2;rw[aag]at e1';unfold dw at e2';rw[aag]at e2';cases ec:caps[i]? with
   | none=>rw[ec]at e1';cases e1'
   | some p =>
    rw[ec]at e1' e2';obtain⟨y',j⟩:=p;have ey:y'=y:=aax e1';subst ey;have ev:(σ[j]?).getD none=some v:=aax e2';have ev':σ[j]?=some (some v):=by
     cases q:σ[j]? with
     | none=>rw[q]at ev;cases ev
     | some w=>rw[q]at ev;exact congrArg some ev
    obtain⟨c1,c2,c3⟩:=K0.cap y' j (aah ec);obtain⟨m0,hn0,hl⟩:=I.loc;obtain⟨u,r,l⟩:=hl j y' v c1 ev' (by rcases c2 with z|z;exact .inr (.inl z);exact .inr (.inr z));refine⟨u,r,.inr ⟨c3,?_⟩⟩;rcases l with ⟨k,_⟩|⟨k,c,ec,z⟩
    ·have k':X.env.scope.names.lookup y'=some .local:=k;rcases c2 with z|z
     ·rw[z]at k';cases k'
     ·rw[z]at k';cases k'
    ·obtain⟨c',hc'⟩:=K0.has y' c3;have e4:=K0.cls y' c' hc';rw[ec]at e4;cases e4;obtain⟨o,ho,hd⟩:=z;exact⟨c,hc',o,hk _ _ ho,hd⟩
 ·obtain⟨v,o,ho,hd⟩:=I.cell y c (Ml y c e);exact⟨v,o,hk _ _ ho,hd⟩
 ·show upd H D (.lst []) C=none;rw[aD (abg hDC)];exact hnC
 ·have hlt:=O9 y c (Ml y c e);rw[aD (aak (aaf hlt hD))];exact I.freeC y c (Ml y c e)
 ·exact I.hok.laid hk hD ⟨aaq _,[],_,.nil,hL⟩
 ·show (none::dw caps σ).length=(x::caps.map (·.1)).length;simp[j6]
theorem Inv.comped{N:List Str}{scope:Scope}{cl:List (Str×Addr)}{fp:List Addr}{C:Addr}{s':Shared}{σ':St}{H':Hp}(I:Inv X π σ H s)(hf:∀b∈fp,fG X π H b)
  (J:Inv (bC X N scope cl C s H fp) [] σ' H' s'):Inv X π σ H' s':=by
 refine I.call' (ch:=fp) (J.os.trans rfl) J.base J.hok J.bare λb hb=>?_;obtain⟨f0,f1,f2,f3,f4,f5⟩:=hf b hb;exact⟨f3,f1,f4,f5⟩
def j7(J:It)(cap:St)(tt:TT)(te:TE)(Qf:Addr->Hp->Prop)(H:Hp):Prop:=
 ∀D,H D=none -> ∃W:Nat->Nat->List V->Hp->Prop,(∃m,W 0 m [] (upd H D (.lst []))) /\ ∀i m ys H1,W i m ys H1 ->
  (J.stop i H1/\Qf D H1)\/(J.go i H1 /\ ∀v H2,J.Nk i H1 v H2->tt (some v::cap) H2 λb H3=>if b=true then
   te (some v::cap) H3 λy H4=>H4 D=some (.lst ys)/\ys.length<sizeLine /\ ∃m',m'<m/\W (i+1) m' (ys++[y]) (upd H4 D (.lst (ys++[y])))else ∃m',m'<m/\W (i+1) m' ys H3)
def Nu(X:Cx)(ifs:List Expr)(tt:TT):Prop:=
 ∀(π:List (Addr×Obj)) (s:Shared) (σ:St) (H:Hp) (Q:Bool->Hp->Prop),Inv X π σ H s->tt σ H Q ->
  wpAny (model X.prog X.w) X.A (forIn ifs true λc r=>if r=true then do let ok <-isTrue c X.env (eval c X.env);pure (ForInStep.yield ok)else pure (ForInStep.yield r)) (TP X π σ Q) X.xe s
def vQ:TT:=λ_ H Q=>Q true H
theorem jc:Nu X [] vQ:=λ_ _ _ H _ I h=>wpAny_tests_nil ⟨H,I,h⟩
theorem fK{c:Expr}{tt:TT}(h:PT X c tt):Nu X [c] tt:=λ π s σ H Q I q=>wpAny_tests_one (h π s σ H Q I q)
def dj(X:Cx)(fn:Str->Bool)(N:List Str)(scope:Scope)(cl:List (Str×Addr))(C:Addr)(s:Shared)(H:Hp)(fp:List Addr):Cx:=
 { bC X N scope cl C s H fp with fn:=fn }
theorem Inv.compedG{fn:Str->Bool}{N:List Str}{scope:Scope}{cl:List (Str×Addr)}{fp:List Addr}{C:Addr}{s':Shared}{σ':St}{H':Hp}(I:Inv X π σ H s)(hf:∀b∈fp,fG X π H b)
  (J:Inv (dj X fn N scope cl C s H fp) [] σ' H' s'):Inv X π σ H' s':=by
 refine I.call' (ch:=fp) (J.os.trans rfl) J.base J.hok J.bare λb hb=>?_;obtain⟨f0,f1,f2,f3,f4,f5⟩:=hf b hb;exact⟨f3,f1,f4,f5⟩
theorem qg{fn:Str->Bool}{x:Str}{px pos:Pos}{caps:List (Str×Nat)}{scope:Scope}{cl:List (Str×Addr)}{elt iter:Expr}{ifs:List Expr}{J:It}{fp:List Addr}{it:Addr}{tn:Nat->Heap->Prop}{tt:TT}{te:TE}{Qf:Addr->Hp->Prop}{D C:Addr}{h1:Heap}{tk:Nat}
  {RR:Value->Addr->Result->Shared->Prop}(I:Inv X π σ H s)(hc:X.calm=true)(T:Turn X.prog X.w X.K (.Name x px) J fp it tn)(hf:∀b∈fp,fG X π H b)(hfs:∀b∈fp,b<s.heap.objs.size)(hle:s.heap.objs.size<=C)(eD:D=s.heap.objs.size)(hcl:∀y c,cl.lookup y=some c -> ∀b∈fp,c≠b)
  (hg:PG (dj X fn (x::caps.map (·.1)) scope cl C s H fp) (.Name x px) (fQ 0))(ht:Nu (dj X fn (x::caps.map (·.1)) scope cl C s H fp) ifs tt)(he:PE (dj X fn (x::caps.map (·.1)) scope cl C s H fp) elt te)(rd:j7 J (dw caps σ) tt te Qf H)
  (hRR:∀D C s' H' m,Inv X π σ H' s'->s'.heap.Ns C m->fG X π H' C->Qf D H'->RR (.ref D) C (.ok .next) s')
  (I0:Inv (dj X fn (x::caps.map (·.1)) scope cl C s H fp) [] (none::dw caps σ) (upd H D (.lst [])) { s with heap:=h1,toks:=tk })(st1:tn 0 h1):
  codeAny (model X.prog X.w) X.A (.compLoop (.ListComp elt [⟨.Name x px,iter,ifs,0⟩] scope pos) 0 (.ref it) (.ref D) (compEnvC scope cl C X.env)) (RR (.ref D) C) { s with heap:=h1,toks:=tk }:=by
 obtain⟨W,⟨m0,w0⟩,turn⟩:=rd D (I.hok.fresh (ac8 eD.symm));refine codeAny_compLoop_tests (λn s'=>∃i ys sl H',Inv (dj X fn (x::caps.map (·.1)) scope cl C s H fp) [] (sl::dw caps σ) H' s'/\tn i s'.heap/\(∀b∈fp,H' b=none)/\W i n ys H') ?_ m0
  ⟨0,[],none,_,I0,st1,λb hb=>?_,w0⟩
 ·rintro n s3 ⟨i,ys,sl,H3,I3,st3,Ol,w3⟩;have Pa:∀{H':Hp}{pi:List (Addr×Obj)},(∀b∈fp,H' b=none)->(∀p∈pi,p.1∉fp) -> ∀b∈fp,fG (dj X fn (x::caps.map (·.1)) scope cl C s H fp) pi H' b:=λ{H' pi} hn hp b hb=>by
   obtain⟨f0,f1,f2,f3,f4,f5⟩:=hf b hb;refine⟨hn b hb,?_,λz=>?_,.inl hb,λy c e=>hcl y c e b hb,λp hpp z=>?_⟩
   ·exact aak (aaf (hfs b hb) hle)
   ·rcases aaA.mp (I.stkSub b z)with q|q
    ·exact f1 q
    ·exact f2 q
   ·exact hp p (by simpa [dj,bC]using hpp) (by rw[z];exact hb)
  have clear:∀{α:Type}{t:Sem α}{Q:α->Shared->Prop}{E':Value->Shared->Prop}{s:Shared},wpAny (model X.prog X.w) X.A t Q (λ_ _=>False) s->wpAny (model X.prog X.w) X.A t Q E' s:=λh=>wpAny_mono h (λ_ _ z=>z) λ_ _ z=>z.elim;rcases turn i n ys H3 w3 with ⟨stop,qf⟩|⟨go,step⟩
  ·refine K7 (T.done (dj X fn (x::caps.map (·.1)) scope cl C s H fp) rfl rfl rfl hc i [] s3 _ H3 _ I3 (Pa Ol (by simp)) st3 stop) λr s4 ⟨hr,I4⟩=>?_;subst hr;obtain⟨m4,Ro,_⟩:=id I4.loc;refine hRR D _ s4 H3 m4 (I.compedG hf I4) Ro ?_ qf;have gC:s.heap.objs.size<=C:=hle;exact I.fpOk gC I4.free
  ·refine clear (K7 (T.item (dj X fn (x::caps.map (·.1)) scope cl C s H fp) rfl rfl rfl hc i [] s3 _ H3 (λ_ _=>False) I3 (Pa Ol (by simp)) st3 go) λr s4 ⟨u,hr,h4⟩=>?_);subst hr;refine clear (show wpAny (model X.prog X.w) X.A (pure () >>= λ_=>assign (.Name x px) (compEnvC scope cl C X.env) u) _ _ s4 from wpAny_bind (K7 (h4:wpAny (model X.prog X.w) X.A (pure ()) _ _ s4) λ_ s5 ⟨v,H5,I5,r5,y5,Ng,O8⟩=>?_));have Qv:=I5.pinned (Pa O8 (by simp)) (T.obj _ _ Ng);refine K7 (hg _ s5 (sl::dw caps σ) H5 v u (λ σ2 H2=>σ2=some v::dw caps σ/\H2=H5) Qv r5 (show _/\_ from ⟨rfl,rfl⟩)) λ_ s6 ⟨σ6,H6,I6,e6,e7⟩=>?_;subst e6 e7;have q6:=step v _ y5;have again:∀{H7:Hp}{s7:Shared}{sl:Option V}{zs:List V}{m':Nat},Inv (dj X fn (x::caps.map (·.1)) scope cl C s H fp) ([]++oR fp s5.heap) (sl::dw caps σ) H7 s7->m'<n->W (i+1) m' zs H7 ->
     ∃m,m<n /\ ∃i ys sl H',Inv (dj X fn (x::caps.map (·.1)) scope cl C s H fp) [] (sl::dw caps σ) H' s7/\tn i s7.heap/\(∀b∈fp,H' b=none)/\W i m ys H':=λ{H7 s7 sl zs m'} I7 hm w7=>by
    refine⟨m',hm,i+1,zs,sl,H7,I7.ξ,T.keep _ _ _ Ng λb hb o e=>(I7.pin (b,o) (aas _ (aas _ (fD hb e)))).1,λb hb=>?_,w7⟩;obtain⟨o,e,d⟩:=T.obj _ _ Ng b hb;exact(I7.pin (b,o) (aas _ (aas _ (fD hb e)))).2.1
   refine clear (K7 (ht _ s6 _ H6 _ I6 q6) λok s7 ⟨H7,I7,q7⟩=>?_);cases ok with
   | false =>
    obtain⟨m',hm,w7⟩:=(show ∃m',m'<n/\W (i+1) m' ys H7 from q7);exact again I7 hm w7
   | true =>
    refine clear (K7 (he _ s7 _ H7 _ I7 q7) λxv s8 ⟨y,H8,I8,r8,Sh,hz8,m',hm,w8⟩=>?_);refine clear (K7 (cG _ s8 _ H8 (.ref D) [y] (.ref D) [xv] (λ_ H9=>H9=upd H8 D (.lst (ys++[y]))) I8 rfl (.cons r8 .nil) ⟨D,ys,y,rfl,rfl,Sh,hz8,rfl⟩) λ_ s9 ⟨_,H9,I9,_,e9⟩=>?_);subst e9;exact again I9 hm w8
 ·rw[aD (by rw[eD];exact aak (hfs b hb))];exact(hf b hb).1
theorem ud{x:Str}{px pos:Pos}{caps:List (Str×Nat)}{scope:Scope}{cl:List (Str×Addr)}{elt iter:Expr}{ifs:List Expr}{J:It}{fp:List Addr}{it:Addr}{tn:Nat->Heap->Prop}{tt:TT}{te:TE}{Qf:Addr->Hp->Prop}
  {RR:Value->Addr->Result->Shared->Prop}{E:Value->Shared->Prop}(I:Inv X π σ H s)(hc:X.calm=true)(K0:bM X x caps scope cl)(T:Turn X.prog X.w X.K (.Name x px) J fp it tn)(st:tn 0 s.heap)(hf:∀b∈fp,fG X π H b)
  (ht:∀C s1 H1 Li,Nu (bC X (x::caps.map (·.1)) scope cl C s1 H1 Li) ifs tt)(he:∀C s1 H1 Li,PE (bC X (x::caps.map (·.1)) scope cl C s1 H1 Li) elt te)(rd:j7 J (dw caps σ) tt te Qf H)
  (hRR:∀D C s' H' m,Inv X π σ H' s'->s'.heap.Ns C m->fG X π H' C->Qf D H'->RR (.ref D) C (.ok .next) s'):
  wpAny (model X.prog X.w) X.A (newList []) (λacc s3=>wpAny (model X.prog X.w) X.A (newFunctionEnv scope X.env.globals cl [] X.env.qual none .none (some X.env)) (λcenv s4 =>
   codeAny (model X.prog X.w) X.A (.compStart (.ListComp elt [⟨.Name x px,iter,ifs,0⟩] scope pos) 0 (.ref it) acc { cenv with scope:=relabel scope X.env }) (RR acc cenv.locals) s4) E s3) E s:=by
 have hfs:∀b∈fp,b<s.heap.objs.size:=λb hb=>by
  obtain⟨o,e,_⟩:=T.obj _ _ st b hb;exact Heap.lt_size e
 refine wpAny_newObj_type (wpAny_newFunctionEnv K0.ρ (by intro y hy;simp at hy) (λh1 hn1 hb1=>?_) K0.kind);dsimp only at hn1 hb1 ⊢;obtain⟨D,eD⟩:∃D:Nat,D=s.heap.objs.size:=⟨_,rfl⟩
 obtain⟨H2,Mf⟩:∃g,g=s.heap.push { cls:=.type "list",dict:=none,data:=.seq ([]:List Value).toArray }:=⟨_,rfl⟩
 rw[<-Mf]at hn1 hb1 ⊢;rw[<-eD];have hC:H2.objs.size=D+1:=by rw[Mf,Heap.size_push,eD]
 have hle:s.heap.objs.size<=H2.objs.size:=by rw[hC,eD];exact abJ _
 have hDC:D≠H2.objs.size:=by rw[hC];exact aak (aa7 _)
 have hk:∀b o,s.heap.get? b=some o->h1.get? b=some o:=λb o e=>by
  refine hb1.extBut b o (aak (aaf (Heap.lt_size e) hle)) (Heap.get?_push_of_some _ ?_);rw[Mf];exact Heap.get?_push_of_some _ e
 have hL:h1.get? D=some { cls:=.type "list",data:=.seq #[] }:=by
  refine hb1.extBut D _ (by lia) (Heap.get?_push_of_some _ ?_);rw[Mf,eD];exact Heap.get?_push_size _ rfl
 have st1:tn 0 h1:=T.keep _ _ _ st λb _ o e=>hk b o e;have loop:=qg (fn:=λ_=>false) (pos:=pos) (iter:=iter) (RR:=RR) I hc T hf hfs hle eD (λy c e b hb=>(hf b hb).2.2.2.2.1 y c (K0.cls y c e)) (aX (i:=0) K0.nd rfl (aai (lookup_relabel_local K0.hx)) (acJ (lookup_relabel_local K0.hx))) (ht _ _ _ _) (he _ _ _ _) rd hRR (I.comp (tk:=s.toks+([]:List (Str×Value)).length) K0 hf hfs (by lia) (by lia) hDC hk hn1 hL) st1;exact codeAny_compStart_list loop (T.self _ 0 _ _ _ st1 loop)
def Do(wi:TI)(caps:List (Str×Nat))(tt:TT)(te:TE):TE:=λ σ H Q=>wi σ H λJ H1=>j7 J (dw caps σ) tt te (λD H'=>Q (.ref D) H') H1
theorem fP{x:Str}{px pos:Pos}{caps:List (Str×Nat)}{scope:Scope}{cl:List (Str×Addr)}{elt iter:Expr}{ifs:List Expr}{wi:TI}{tt:TT}{te:TE}(hc:X.calm=true)(K0:bM X x caps scope cl)(hi:PI X (.Name x px) iter wi)
  (ht:∀C s1 H1 Li,Nu (bC X (x::caps.map (·.1)) scope cl C s1 H1 Li) ifs tt)(he:∀C s1 H1 Li,PE (bC X (x::caps.map (·.1)) scope cl C s1 H1 Li) elt te)(hs:∀x,foldedSetIterable iter X.env x=pure x:=by intro _;rfl):
  PE X (.ListComp elt [⟨.Name x px,iter,ifs,0⟩] scope pos) (Do wi caps tt te):=by
 intro π s σ H Q I h;rw[eval_ListComp];refine wpAny_comprehension_free (use:=none) rfl hs K0.clos K0.kind K0.names (K7 (hi π s σ H _ I h) λv s1 h1=>K7 h1 λitv s2 h2=>?_);obtain⟨it,fp,tn,J,H2,e,I2,T,st2,f2,rd⟩:=h2;subst e;refine ud (RR:=λacc C=>compPost (model X.prog X.w) X.A X.xe none (EP X π σ Q) acc C) I2 hc K0 T st2 f2 ht he rd ?_;intro D C s' H' m I' hn fC q;exact⟨m,hn,λh'' hs''=>⟨.ref D,H',I'.turned (h':=h'') (t':=s'.toks) (λb o hb e=>hs''.extBut b o hb e) fC.1 fC.2.1 fC.2.2.2.1 fC.2.2.2.2.1 fC.2.2.2.2.2,rfl,q⟩⟩
theorem qL{i:Nat}{y x:Str}{px py pos spos:Pos}{caps:List (Str×Nat)}{scope:Scope}{cl:List (Str×Addr)}{elt iter:Expr}{ifs:List Expr}{wi:TI}{tt:TT}{te:TE}(hN:X.N.Nodup)(Sq:X.N[i]?=some y)(hy:X.env.scope.names.lookup y=some .local)(hc:X.calm=true)
  (K0:bM X x caps scope cl)(hi:PI X (.Name x px) iter wi)
  (ht:∀C s1 H1 Li,Nu (bC X (x::caps.map (·.1)) scope cl C s1 H1 Li) ifs tt)(he:∀C s1 H1 Li,PE (bC X (x::caps.map (·.1)) scope cl C s1 H1 Li) elt te)
  (hsw:swapsWith (.ListComp elt [⟨.Name x px,iter,ifs,0⟩] scope pos) (some (.Name y py)) spos.line X.env=pure true:=by rfl)(hs:∀x,foldedSetIterable iter X.env x=pure x:=by intro _;rfl):
  PS X (.Assign [.Name y py] (.ListComp elt [⟨.Name x px,iter,ifs,0⟩] scope pos) spos) (Jp (Do wi caps tt te) (fQ i)):=by
 intro π s σ H D0 I h;rw[exec_Assign_Name_used _ _ _ _ hsw];refine wpAny_bind (wpAny_standAt (wpAny_bind ?_));show wpAny _ X.A (do let _ <-comprehension (.ListComp elt [⟨.Name x px,iter,ifs,0⟩] scope pos) scope X.env _ (newList []) false (eval iter X.env) (some (assign (.Name y py) X.env))) _ _ s;refine wpAny_bind (wpAny_mono (wpAny_comprehension_free (use:=some (assign (.Name y py) X.env)) (Q:=λ_ s'=>SP X π D0 .next s') rfl hs K0.clos K0.kind K0.names
  (K7 (hi π s σ H _ I h) λv s1 h1=>K7 h1 λitv s2 h2=>?_)) (λ_ s' hq=>wpAny_pure (wpAny_pure hq)) λ_ _ e=>e)
 obtain⟨it,fp,tn,J,H2,e,I2,T,st2,f2,rd⟩:=h2;subst e;refine ud (RR:=λacc C=>compPost (model X.prog X.w) X.A X.xe (some (assign (.Name y py) X.env)) (λ_ s'=>SP X π D0 .next s') acc C) I2 hc K0 T st2 f2 ht he rd ?_;intro D C s' H' m I' hn fC q;show wpAny _ X.A (assign (.Name y py) X.env (.ref D)) _ _ _;refine wpAny_assign_Name (oE (v:=.ref D) I' hN Sq (.inl hy) rfl (λs'' Ss ch=>⟨m,?_,λh'' hs''=>?_⟩) (.inr hy))
 ·obtain⟨a,sb,ha⟩:=ch;refine hn.sameBut sb λz=>?_;rcases ha with ha|ha
  ·exact fC.2.1 (z.trans ha)
  ·exact fC.2.2.2.2.1 _ a ha z.symm
 ·exact⟨_,H',Ss.turned (h':=h'') (t':=s''.toks) (λb o hb e=>hs''.extBut b o hb e) fC.1 fC.2.1 fC.2.2.2.1 fC.2.2.2.2.1 fC.2.2.2.2.2,q⟩
end
theorem gm{scope:Scope}{env:Env}{y:Str}{k:NameKind}(h:(relabel scope env).names.lookup y=some k):∃k0,(y,k0)∈scope.names/\(k=k0\/(k0=.free/\k=.cell)):=by
 have h:=PySem.mem_of_lookup h;obtain⟨⟨n,k0⟩,hm,e⟩:=aaE.mp (show (y,k)∈scope.names.map _ from h);by_cases c:(k0 == NameKind.free && env.scope.kind == .function && env.kindOf n == some .cell)=true
 ·have e':(n,NameKind.cell)=(y,k):=by rw[<-e];exact(if_pos c).symm
  have c1:k0=.free:=by
   simp only[adU]at c;exact eq_of_beq c.1.1
  cases e';exact⟨_,hm,.inr ⟨c1,rfl⟩⟩
 ·have e':(n,k0)=(y,k):=by rw[<-e];exact(if_neg c).symm
  cases e';exact⟨_,hm,.inl rfl⟩
section
variable{X:Cx}{x:Str}{scope:Scope}
theorem bM.zero(hfree:∀y∈scope.names,y.2 ≠ .free:=by decide)(ρ:∀y∈scope.names,y.2 ≠ .cell:=by decide)(kind:scope.kind=.function:=by rfl)(names:∀y∈scope.names,y.2=.local->scope.names.lookup y.1=some .local:=by decide)
  (hx:scope.names.lookup x=some .local:=by rfl):bM X x [] scope []:=by
 refine⟨kind,ρ,names,hx,closureFor_none hfree,λy c e=>(by cases e),λy hy=>?_,by simp,λy j h=>nomatch h⟩;rcases hy with hy|hy
 all_goals
  obtain⟨k0,hm,e⟩:=gm hy;rcases e with e|⟨e,_⟩
  ·subst e
   first|exact absurd rfl (ρ _ hm) | exact absurd rfl (hfree _ hm)
  ·subst e;exact absurd rfl (hfree _ hm)
theorem bM.one{y:Str}{j:Nat}{c:Addr}(hN:X.N[j]?=some y)(hX:X.env.scope.names.lookup y=some .cell\/X.env.scope.names.lookup y=some .free)(ec:X.env.cells.lookup y=some c)(clos:closureFor scope X.env=pure [(y,c)])
  (hr:(relabel scope X.env).names.lookup y=some .cell\/(relabel scope X.env).names.lookup y=some .free)
  (hfree:∀z∈scope.names,z.2=.free->z.1=y:=by decide)(ρ:∀y∈scope.names,y.2 ≠ .cell:=by decide)(kind:scope.kind=.function:=by rfl)(names:∀y∈scope.names,y.2=.local->scope.names.lookup y.1=some .local:=by decide)
  (hx:scope.names.lookup x=some .local:=by rfl)(nd:[x,y].Nodup:=by decide):bM X x [(y,j)] scope [(y,c)]:=by
 have look:([(y,c)]:List (Str×Addr)).lookup y=some c:=by simp
 refine⟨kind,ρ,names,hx,clos,λz d e=>?_,λz hz=>?_,nd,λz i h=>?_⟩
 ·have:=PySem.mem_of_lookup e;cases aal.mp this;exact ec
 ·have hz':z=y:=by
   rcases hz with hz|hz
   all_goals
    obtain⟨k0,hm,e⟩:=gm hz;rcases e with e|⟨e,_⟩
    ·subst e
     first|exact absurd rfl (ρ _ hm) | exact hfree _ hm rfl
    ·subst e;exact hfree _ hm rfl
  subst hz';exact⟨c,look⟩
 ·cases aal.mp h;exact⟨hN,hX,hr⟩
theorem bM.two{y z:Str}{j k:Nat}{c d:Addr}(hyz:y≠z)(ZR:X.N[j]?=some y)(ZS:X.N[k]?=some z)(ZV:X.env.scope.names.lookup y=some .cell\/X.env.scope.names.lookup y=some .free)
  (ZW:X.env.scope.names.lookup z=some .cell\/X.env.scope.names.lookup z=some .free)(ZX:X.env.cells.lookup y=some c)(ZZ:X.env.cells.lookup z=some d)(clos:closureFor scope X.env=pure [(y,c),(z,d)])
  (Z0:(relabel scope X.env).names.lookup y=some .cell\/(relabel scope X.env).names.lookup y=some .free)(Z1:(relabel scope X.env).names.lookup z=some .cell\/(relabel scope X.env).names.lookup z=some .free)
  (hfree:∀u∈scope.names,u.2=.free->u.1=y\/u.1=z:=by decide)(ρ:∀y∈scope.names,y.2 ≠ .cell:=by decide)(kind:scope.kind=.function:=by rfl)(names:∀y∈scope.names,y.2=.local->scope.names.lookup y.1=some .local:=by decide)
  (hx:scope.names.lookup x=some .local:=by rfl)(nd:[x,y,z].Nodup:=by decide):bM X x [(y,j),(z,k)] scope [(y,c),(z,d)]:=by
 have ly:([(y,c),(z,d)]:List (Str×Addr)).lookup y=some c:=by simp
 have lz:([(y,c),(z,d)]:List (Str×Addr)).lookup z=some d:=by
  have:(z == y)=false:=by simpa using abg hyz
  simp[List.lookup,this]
 refine⟨kind,ρ,names,hx,clos,λu e he=>?_,λu hu=>?_,nd,λu i h=>?_⟩
 ·have hm:=PySem.mem_of_lookup he;rcases aaA.mp hm with q|q
  ·cases q;exact ZX
  ·cases aal.mp q;exact ZZ
 ·have hu':u=y\/u=z:=by
   rcases hu with hu|hu
   all_goals
    obtain⟨k0,hm,e⟩:=gm hu;rcases e with e|⟨e,_⟩
    ·subst e
     first|exact absurd rfl (ρ _ hm) | exact hfree _ hm rfl
    ·subst e;exact hfree _ hm rfl
  rcases hu' with rfl|rfl
  ·exact⟨c,ly⟩
  ·exact⟨d,lz⟩
 ·rcases aaA.mp h with q|q
  ·cases q;exact⟨ZR,ZV,Z0⟩
  ·cases aal.mp q;exact⟨ZS,ZW,Z1⟩
end
def PN(lo st:Int)(n:Nat):It:=⟨λi _=>i<n,λi H x H'=>H'=H/\x=.int (lo+i*st),λi _=>n<=i⟩
theorem tO{P:Program}{w:World}{K:PySem.W.Frag}{tg:Expr}(it:Addr)(lo st:Int)(n:Nat):Turn P w K tg (PN lo st n) [it] it (λi h=>IsRangeIter h it (lo+(i:Nat)*st) ((n:Int) - (i:Nat)) st) where
 mem:=by simp
 obj:=λi h q b hb=>by
  have e:b=it:=by simpa using hb
  subst e;exact⟨_,q,λv z=>by
   have z':Data.fields _=Data.cell v:=z;cases z'⟩
 keep:=λi h h' q k=>k it (by simp) _ q
 item:=by
  intro X hP hw hK hc i π s σ H E I hf q hg;subst hP hw hK;obtain⟨f0,f1,f2,f3,f4,f5⟩:=hf it (by simp);have W:=Walks.range (prog:=X.prog) (w:=X.w) (I.ok.hd hc) it lo st n;refine W.item i s _ _ hg q λv h' tk hv q' kk=>?_;obtain⟨t,rfl⟩:=hv;have I1:Inv X π σ H { s with heap:=h',toks:=tk }:=I.turned (λb o hb e=>kk b o (by simpa using hb) e) f0 f1 f3 f4 f5
  exact⟨_,rfl,wk (s:={ s with heap:=h',toks:=tk }) (n := "range_iterator") q' rfl rfl (by decide) ⟨.int (lo+i*st),H,I1,⟨t,rfl⟩,⟨rfl,rfl⟩,q',λb hb=>(hf b hb).1⟩⟩
 done:=by
  intro X hP hw hK hc i π s σ H E I hf q hg;subst hP hw hK;obtain⟨f0,f1,f2,f3,f4,f5⟩:=hf it (by simp);exact wpAny_pyNext_range_end (I.ok.hd hc) q (by have:n<=i:=hg;lia) λh' eb=>⟨rfl,I.turned (t':=s.toks) (λb o hb e=>eb b o hb e) f0 f1 f3 f4 f5⟩
 self:=λ_ _ _ _ _ q h=>wpAny_pyIter_rangeiter q h
section
variable{X:Cx}{tg:Expr}
inductive GF(R:It->Hp->Prop)(vs:List V)(H1:Hp):Prop
 | mk (b:Nat) (_:vs=[.int 0,.int (b:Int),.int 32]) (_:b<536870912) (_:R (PN 0 32 ((b+31) / 32)) H1)
def JT(ta:TA):TI:=λ σ H R=>ta σ H λvs H1=>GF R vs H1
theorem z7(b:Nat):Builtin.Range.rangeSize 0 b 32=(((b+31) / 32:Nat):Int):=by
 unfold Builtin.Range.rangeSize;rw[if_pos (by decide)];split <;> lia
theorem lM{p q:Bool}(hp:p=true)(hq:q=true):(p && q)=true:=by rw[hp,hq];rfl
theorem Dm{b:Nat}(h:b<536870912):Builtin.Range.small 0 b 32=true:=by
 unfold Builtin.Range.small Builtin.Range.rangeFitsLong;rw[z7];generalize hn:(((b+31) / 32:Nat):Int)=n;have h1:n<=16777216:=by lia
 have h0:0<=n:=by lia
 have e:(2:Int)^63=9223372036854775808:=by decide
 rw[e,if_pos (by decide)];refine lM (lM (lM (lM (by decide) (lM (decide_eq_true ?_) (decide_eq_true ?_))) (by decide)) (lM (decide_eq_true ?_) (decide_eq_true ?_))) ?_
 ·lia
 ·lia
 ·lia
 ·lia
 ·rw[ad3];exact .inr (lM (decide_eq_true (by lia)) (decide_eq_true (by lia)))
theorem BW{a b c:Expr}{ta:TA}{p pos:Pos}(hg:Gl X "range")(hm:X.mg "range" = none)(ha:PA X [a,b,c] ta)(hs:starEach [a,b,c] X.env=[(false,eval a X.env),(false,eval b X.env),(false,eval c X.env)]:=by rfl)
  (hs2:starEach [b,c] X.env=[(false,eval b X.env),(false,eval c X.env)]:=by rfl):PI X tg (.Call (.Name "range" p) [a,b,c] [] pos) (JT ta):=by
 intro π s σ H R I h;refine Call_ (fu I hg hm boot_range (PyProof.Rows.callWith_type1 (K7 (ha pos π s σ H _ I h) λus s1 ⟨vs,H1,I1,r1,q1⟩=>?_) (by rw[hs,hs2]) (by rw[hs2];rfl)));obtain⟨y,e,l1,q⟩:=q1;subst e;cases r1 with
 | cons r rr =>
  cases rr with
  | cons r' rr =>
   cases rr with
   | cons r'' rr =>
    cases rr;obtain⟨t,rfl⟩:=r;obtain⟨t',rfl⟩:=r';obtain⟨t'',rfl⟩:=r'';refine call_range_3 (by decide) ?_ (.inl (PyProof.noPylong_small (by lia)));refine wpAny_pyIter_range (IsRange.new ..) (Dm l1) ?_
    have I2:Inv X π σ H1 { s1 with heap:=s1.heap.push { cls:=.type "range",data:=.fields #[.int 0 t,.int y t',.int 32 t''] },toks:=s1.toks }:=I1.kept λb o e=>Heap.get?_push_of_some _ e
    refine⟨(s1.heap.push { cls:=.type "range",data:=.fields #[.int 0 t,.int y t',.int 32 t''] }).objs.size,[(s1.heap.push { cls:=.type "range",data:=.fields #[.int 0 t,.int y t',.int 32 t''] }).objs.size],_,_,H1,rfl,
     I2.kept (t':=s1.toks) λb o e=>Heap.get?_push_of_some _ e,tO _ 0 32 ((y+31) / 32),?_,λb hb=>?_,q⟩
    ·have e1:(0:Int)+((0:Nat):Int)*32=0:=by decide
     have e2:(((y+31) / 32:Nat):Int) - ((0:Nat):Int)=Builtin.Range.rangeSize 0 y 32:=by rw[z7];simp
     show IsRangeIter _ _ ((0:Int)+((0:Nat):Int)*32) ((((y+31) / 32:Nat):Int) - ((0:Nat):Int)) 32;rw[e1,e2];exact Heap.get?_push_size _ rfl
    ·have e:b=(s1.heap.push { cls:=.type "range",data:=.fields #[.int 0 t,.int y t',.int 32 t''] }).objs.size:=by simpa using hb
     subst e;exact I2.fpOk (aad _) (I2.hok.fresh (aad _))
end
theorem DK{lo st:Int}{n:Nat}{g:TG}{tb:TS}{D:Ends}{σ:St}{H:Hp}(Pv:Nat->St->Hp->Prop)(h0:Pv 0 σ H)
  (hs:∀(i:Nat) σ H,i<n->Pv i σ H->g (.int (lo+i*st)) σ H λ σ2 H2=>tb { D with nx:=Pv (i+1),ct:=Pv (i+1),bk:=D.nx } σ2 H2)(hd:∀σ H,Pv n σ H->D.nx σ H):
  ∃W:Nat->Nat->St->Hp->Prop,(∃m,W 0 m σ H) /\ ∀i m σ H,W i m σ H ->
   ((PN lo st n).stop i H/\D.nx σ H)\/((PN lo st n).go i H /\ ∃N:St->Hp->Prop,(∀σ' H',N σ' H' -> ∃m',m'<m/\W (i+1) m' σ' H') /\ ∀x H',(PN lo st n).Nk i H x H'->g x σ H' λ σ2 H2=>tb { D with nx:=N,ct:=N,bk:=D.nx } σ2 H2):=by
 refine⟨λi m σ H=>m=n - i/\i<=n/\Pv i σ H,⟨n,by simp,aaq _,h0⟩,?_⟩;rintro i m σ H ⟨rfl,hi,p⟩;by_cases hlt:i<n
 ·refine .inr ⟨hlt,Pv (i+1),λ σ' H' p'=>⟨n - (i+1),by lia,rfl,hlt,p'⟩,λx H' y=>?_⟩;obtain⟨rfl,rfl⟩:=y;exact hs i σ _ hlt p
 ·have e:i=n:=by lia
  subst e;exact .inl ⟨aad _,hd σ H p⟩
def PP(K:PySem.W.Frag)(a:Addr)(xs:List V):It:=
 ⟨λi H=>K5 K H a xs/\i<xs.length,λi H x H'=>H'=H/\xs[xs.length - 1 - i]?=some x,λi _=>xs.length<=i⟩
theorem CZ{P:Program}{w:World}{K:PySem.W.Frag}{tg:Expr}(a it:Addr)(xs:List V):Turn P w K tg (PP K a xs) [it] it (λi h=>i<=xs.length/\h.IsRevIter it a ((xs.length:Int) - 1 - (i:Nat))) where
 mem:=by simp
 obj:=λi h st b hb=>by
  have e:b=it:=by simpa using hb
  subst e;obtain⟨_,o,e,c,d⟩:=st;exact⟨o,e,λv z=>by rw[d]at z;cases z⟩
 keep:=λi h h' st k=>⟨st.1,st.2.at λo e=>k it (by simp) o e⟩
 item:=by
  intro X hP hw hK hc i π s σ H E I hf st hg;subst hP hw hK;obtain⟨hq,hi⟩:=hg;obtain⟨its,rv,p,hz⟩:=I.list hq;obtain⟨x,hx⟩:∃x,xs[xs.length - 1 - i]?=some x:=⟨_,aac (by lia)⟩;obtain⟨u,hu,ru⟩:=rv.get hx;obtain⟨f0,f1,f2,f3,f4,f5⟩:=hf it (by simp);obtain⟨hle,st⟩:=st;have e:(xs.length:Int) - 1 - (i:Nat)=((xs.length - 1 - i:Nat):Int):=by lia
  rw[e]at st;refine wpAny_pyNext_rev_item st p.isList (x:=u) (by simpa using hu) λh' st' sb=>?_;have I1:Inv X π σ H { s with heap:=h' }:=I.turned (t':=s.toks) (λb o hb e=>(sb.2 b hb).trans e) f0 f1 f3 f4 f5;have e2:((xs.length - 1 - i:Nat):Int) - 1=(xs.length:Int) - 1 - ((i+1:Nat):Int):=by lia
  rw[e2]at st';obtain⟨o,e,c,d⟩:=id st';exact⟨u,rfl,wk (s:={ s with heap:=h' }) e c d (by decide) ⟨x,H,I1,ru,⟨rfl,hx⟩,⟨by lia,st'⟩,λb hb=>(hf b hb).1⟩⟩
 done:=by
  intro X hP hw hK hc i π s σ H E I hf st hg;subst hP hw hK;obtain⟨f0,f1,f2,f3,f4,f5⟩:=hf it (by simp);obtain⟨hle,st⟩:=st;have e:(xs.length:Int) - 1 - (i:Nat) = -1:=by have:xs.length<=i:=hg;lia
  rw[e]at st;exact wpAny_pyNext_rev_end (I.ok.hd hc) st λh' eb=>⟨rfl,I.turned (t':=s.toks) (λb o hb e=>eb b o hb e) f0 f1 f3 f4 f5⟩
 self:=λ_ _ _ _ _ st h=>wpAny_pyIter_revIter st.2 h
section
variable{X:Cx}{tg:Expr}
inductive HJ(K:PySem.W.Frag)(R:It->Hp->Prop)(vs:List V)(H1:Hp):Prop
 | mk (a xs:_) (_:vs=[.ref a]) (_:K5 K H1 a xs) (_:R (PP K a xs) H1)
def Ky(K:PySem.W.Frag)(ta:TA):TI:=λ σ H R=>ta σ H λvs H1=>HJ K R vs H1
theorem Fj{a:Expr}{ta:TA}{p pos:Pos}(hg:Gl X "reversed")(hm:X.mg "reversed" = none)(ha:PA X [a] ta)(hv:bootBuiltins "reversed" = some (.type "reversed"))(hs:starEach [a] X.env=[(false,eval a X.env)]:=by rfl):
  PI X tg (.Call (.Name "reversed" p) [a] [] pos) (Ky X.K ta):=by
 intro π s σ H R I h;refine Call_ (fu I hg hm hv (PyProof.Rows.callWith_type1 (K7 (ha pos π s σ H _ I h) λus s1 ⟨vs,H1,I1,r1,q1⟩=>?_) hs rfl));obtain⟨b,xs,e,hq,q⟩:=q1;subst e;obtain⟨u,rfl,rx⟩:=vals1 r1;cases rx;obtain⟨its,rv,pl,hz⟩:=I1.list hq;refine call_reversed_list pl.isList ?_;have hl:=rv.length;have st:({ s1 with heap:=s1.heap.push (revObj b ((its.toArray.size:Int) - 1)) }:Shared).heap.IsRevIter s1.heap.objs.size b ((xs.length:Int) - 1 - ((0:Nat):Int)):=by
  refine⟨_,Heap.get?_push_size _ rfl,rfl,?_⟩;show Data.fields #[.ref b,rawInt ((its.toArray.size:Int) - 1)]=_;have e:(its.toArray.size:Int) - 1=(xs.length:Int) - 1 - ((0:Nat):Int):=by simp;lia
  rw[e]
 refine wpAny_pyIter_revIter st ?_;have I2:Inv X π σ H1 { s1 with heap:=s1.heap.push (revObj b ((its.toArray.size:Int) - 1)) }:=I1.kept (t':=s1.toks) λc o e=>Heap.get?_push_of_some _ e;refine⟨s1.heap.objs.size,[s1.heap.objs.size],_,PP X.K b xs,H1,rfl,I2,CZ b _ xs,⟨aaq _,st⟩,λc hc=>?_,q⟩;have e:c=s1.heap.objs.size:=by simpa using hc
 subst e;exact I1.fpOk (aad _) (I1.hok.fresh (aad _))
end
theorem zO{K:PySem.W.Frag}{a:Addr}{xs:List V}{g:TG}{tb:TS}{D:Ends}{σ:St}{H:Hp}(Pv:Nat->St->Hp->Prop)(h0:Pv 0 σ H)(hl:∀i σ H,i<=xs.length->Pv i σ H->K5 K H a xs)
  (hs:∀i x σ H,i<xs.length->xs[xs.length - 1 - i]?=some x->Pv i σ H->g x σ H λ σ2 H2=>tb { D with nx:=Pv (i+1),ct:=Pv (i+1),bk:=D.nx } σ2 H2)(hd:∀σ H,Pv xs.length σ H->D.nx σ H):
  ∃W:Nat->Nat->St->Hp->Prop,(∃m,W 0 m σ H) /\ ∀i m σ H,W i m σ H ->
   ((PP K a xs).stop i H/\D.nx σ H)\/((PP K a xs).go i H /\ ∃N:St->Hp->Prop,(∀σ' H',N σ' H' -> ∃m',m'<m/\W (i+1) m' σ' H') /\ ∀x H',(PP K a xs).Nk i H x H'->g x σ H' λ σ2 H2=>tb { D with nx:=N,ct:=N,bk:=D.nx } σ2 H2):=by
 refine⟨λi m σ H=>m=xs.length - i/\i<=xs.length/\Pv i σ H,⟨xs.length,by simp,aaq _,h0⟩,?_⟩;rintro i m σ H ⟨rfl,hi,p⟩;by_cases hlt:i<xs.length
 ·refine .inr ⟨⟨hl i σ H hi p,hlt⟩,Pv (i+1),λ σ' H' p'=>⟨xs.length - (i+1),by lia,rfl,hlt,p'⟩,λx H' y=>?_⟩;obtain⟨rfl,hx⟩:=y;exact hs i x σ _ hlt hx p
 ·have e:i=xs.length:=by lia
  subst e;exact .inl ⟨aad _,hd σ H p⟩
mutual
inductive mU(K:PySem.W.Frag)(H:Hp):V->PyData->Prop where
 | non:mU K H .non .none
 | bl (b:Bool):mU K H (.bl b) (.bool b)
 | int (i:Int):mU K H (.int i) (.int i)
 | str (x:Str):mU K H (.str x) (.str x)
 | lst {a:Addr}{xs:List V}{ds:List PyData} (h:K5 K H a xs) (r:j0 K H xs ds):mU K H (.ref a) (.list ds)
 | tup {a:Addr}{xs:List V}{ds:List PyData} (h:K6 K H a xs) (r:j0 K H xs ds):mU K H (.ref a) (.tuple ds)
inductive j0(K:PySem.W.Frag)(H:Hp):List V->List PyData->Prop where
 | nil:j0 K H [] []
 | cons {x:V}{xs:List V}{d:PyData}{ds:List PyData} (h:mU K H x d) (r:j0 K H xs ds):j0 K H (x::xs) (d::ds)
end
section
variable{X:Cx}{π:List (Addr×Obj)}{σ:St}{H:Hp}{s:Shared}
mutual
theorem mU.reads(I:Inv X π σ H s){x:V}{d:PyData}{u:Value}:mU X.K H x d->RelV x u -> ∃as,Reads s.heap u d as
 | .non,r=>⟨_,by cases (show u=Value.none from r);exact .none⟩
 | .bl b,r=>⟨_,by cases (show u=Value.bool b from r);exact .bool b⟩
 | .int i,r=>by
  obtain⟨t,rfl⟩:=r;exact⟨_,.int i t⟩
 | .str y,r=>by
  obtain⟨t,rfl⟩:=r;exact⟨_,.str y t⟩
 | .lst (a:=a) h q,r=>by
  cases (show u=Value.ref a from r);obtain⟨its,rv,p,_⟩:=I.list h;obtain⟨as,ra⟩:=j0.reads I q rv;obtain⟨o,n,e,c,_,d⟩:=p;exact⟨_,.list e c d (by simpa using ra)⟩
 | .tup (a:=a) h q,r=>by
  cases (show u=Value.ref a from r);obtain⟨its,rv,p,_⟩:=I.tuple h;obtain⟨as,ra⟩:=j0.reads I q rv;obtain⟨o,e,c,n,d⟩:=p;exact⟨_,.tuple e c d (by simpa using ra)⟩
theorem j0.reads(I:Inv X π σ H s){xs:List V}{ds:List PyData}{us:List Value}:j0 X.K H xs ds->Vals xs us -> ∃as,ReadsAll s.heap us ds as
 | .nil,r=>by
  cases r;exact⟨_,.nil⟩
 | .cons h q,r=>by
  cases r with
  | cons r1 r2 =>
   obtain⟨as,ra⟩:=mU.reads I h r1;obtain⟨bs,rb⟩:=j0.reads I q r2;exact⟨_,.cons ra rb⟩
end
end
inductive Ko(K:PySem.W.Frag)(x:V)(y:V)(H:Hp)(Q:VK):Prop
 | mk (a b:Addr) (ns ms:List Int) (_:x=.ref a) (_:y=.ref b) (_:K5 K H a (ns.map V.int)) (_:K5 K H b (ms.map V.int)) (_:Q (.bl (decide (ns=ms))) H)
inductive KY(K:PySem.W.Frag)(x:V)(y:V)(H:Hp)(Q:VK):Prop
 | mk (d1 d2:PyData) (_:mU K H x d1) (_:mU K H y d2) (_:SeqAt.shaped d1=true) (_:SeqAt.shaped d2=true) (_:Q (.bl (PyData.eqv d1 d2)) H)
inductive Kl(K:PySem.W.Frag)(x:V)(y:V)(H:Hp)(Q:VK):Prop
 | mk (a b:Addr) (ns ms:List Int) (_:x=.ref a) (_:y=.ref b) (_:K5 K H a (ns.map V.int)) (_:K5 K H b (ms.map V.int)) (_:Q (.bl (!decide (ns=ms))) H)
inductive Kh(K:PySem.W.Frag)(x:V)(y:V)(H:Hp)(Q:VK):Prop
 | mk (d1 d2:PyData) (_:mU K H x d1) (_:mU K H y d2) (_:SeqAt.shaped d1=true) (_:SeqAt.shaped d2=true) (_:Q (.bl (!PyData.eqv d1 d2)) H)
section
variable{X:Cx}
theorem Ht(hu:X.A.units+64<cLine):Lp X (compareOp .Eq) (λx y H Q=>Ko X.K x y H Q\/KY X.K x y H Q):=by
 intro π s σ H x y u v Q I rx ry h;rcases h with ⟨a,b,ns,ms,rfl,rfl,ha,hb,q⟩|⟨d1,d2,h1,h2,e1,e2,q⟩
 ·cases (show u=Value.ref a from rx);cases (show v=Value.ref b from ry);obtain⟨us,r1,p1,_⟩:=I.list ha;obtain⟨ws,r2,p2,_⟩:=I.list hb;exact PySem.W.ke_eq_ints p1.isList p2.isList (intsAre_of r1) (intsAre_of r2) hu ⟨.bl _,H,I,rfl,q⟩
 ·obtain⟨as,ra⟩:=h1.reads I rx;obtain⟨bs,rb⟩:=h2.reads I ry;exact eq_dataH ra rb e1 e2 hu ⟨.bl _,H,I,rfl,q⟩
theorem Dz(hu:X.A.units+64<cLine):Lp X (compareOp .NotEq) (λx y H Q=>Kl X.K x y H Q\/Kh X.K x y H Q):=by
 intro π s σ H x y u v Q I rx ry h;rcases h with ⟨a,b,ns,ms,rfl,rfl,ha,hb,q⟩|⟨d1,d2,h1,h2,e1,e2,q⟩
 ·cases (show u=Value.ref a from rx);cases (show v=Value.ref b from ry);obtain⟨us,r1,p1,_⟩:=I.list ha;obtain⟨ws,r2,p2,_⟩:=I.list hb;exact PySem.W.ke_ne_ints p1.isList p2.isList (intsAre_of r1) (intsAre_of r2) hu ⟨.bl _,H,I,rfl,q⟩
 ·obtain⟨as,ra⟩:=h1.reads I rx;obtain⟨bs,rb⟩:=h2.reads I ry;exact ne_dataH ra rb e1 e2 hu ⟨.bl _,H,I,rfl,q⟩
end
end L2
namespace Tw
open PySem L2
theorem Cu{lo:Int}{n:Nat}{cap:L2.St}{tt:TT}{te:TE}{Qf:Addr->Hp->Prop}{H:Hp}(f:Nat->Int)(hl:n<sizeLine)
  (htt:∀(z:Int) (H':Hp) (Q:Bool->Hp->Prop),Q true H'->tt (some (.int z)::cap) H' Q)(Oc:∀(i:Nat) (H':Hp) (Q:VK),i<n->aV H H'->Q (.int (f i)) H'->te (some (.int (lo+i))::cap) H' Q)
  (q:∀D,H D=none->Qf D (upd H D (.lst (((aaO n).map f).map V.int)))):j7 (Oj lo n) cap tt te Qf H:=by
 intro D hD;refine⟨λi m ys H1=>m=n - i/\i<=n/\ys=((aaO i).map f).map V.int/\H1=upd H D (.lst ys),⟨_,rfl,aaq _,rfl,rfl⟩,?_⟩;rintro i m ys H1 ⟨rfl,hi,rfl,rfl⟩;by_cases hlt:i<n
 ·refine .inr ⟨hlt,λv H2 y=>?_⟩;obtain⟨rfl,rfl⟩:=y;refine htt _ _ _ ?_;rw[if_pos rfl];refine Oc i _ _ hlt (au hD _) ⟨aq,?_,n - (i+1),by lia,rfl,hlt,?_,?_⟩
  ·rw[aaa,aaa,abi];lia
  ·rw[aaR,aam,aam];rfl
  ·rw[mR]
 ·have e:i=n:=by lia
  subst e;exact .inl ⟨aad _,q D hD⟩
theorem Hy{H:Hp}{a:Addr}{o:HO}(h:H a=some o):upd H a o=H:=funext λb=>by
 by_cases e:b=a
 ·rw[e,aq,h]
 ·rw[aD e]
end Tw
namespace L2
open PySem PySem.Spec PyProof.Rows PySem.W
section
variable{X:Cx}
end
end L2
namespace Tw
open PySem L2
theorem Gw{c1 U A:Prop}[Decidable c1]{D:Ends}{σ:St}{H:Hp}(N:D.nx σ H)(hU:c1->D.nx σ H->U):if c1 then U else (if false=true then A else G9 D σ H):=by
 by_cases q:c1
 ·rw[if_pos q];exact hU q N
 ·rw[if_neg q];exact cF N
theorem lQ{K:PySem.W.Frag}{a:Addr}{ns:List Int}{cap:L2.St}{tt:TT}{te:TE}{Qf:Addr->Hp->Prop}{H:Hp}(p:Int->Bool)(hS:K5 K H a (ns.map V.int))(hl:ns.length<sizeLine)
  (htt:∀(z:Int) (H':Hp) (Q:Bool->Hp->Prop),aV H H'->Q (p z) H'->tt (some (.int z)::cap) H' Q)(Oc:∀(z:Int) (H':Hp) (Q:VK),aV H H'->Q (.int z) H'->te (some (.int z)::cap) H' Q)
  (q:∀D,H D=none->Qf D (upd H D (.lst ((ns.filter p).map V.int)))):j7 (N7 K a) cap tt te Qf H:=by
 intro D hD;refine⟨λi m ys H1=>m=ns.length - i/\i<=ns.length/\ys=((ns.take i).filter p).map V.int/\H1=upd H D (.lst ys),⟨_,rfl,aaq _,rfl,rfl⟩,?_⟩;rintro i m ys H1 ⟨rfl,hi,rfl,rfl⟩;have hS1:K5 K (upd H D (.lst (((ns.take i).filter p).map V.int))) a (ns.map V.int):=(au hD _).seq hS;by_cases hlt:i<ns.length
 ·have hg:(ns.map V.int)[i]?=some (.int ns[i]):=by
   rw[aag,aac hlt];rfl
  have et:ns.take (i+1)=ns.take i++[ns[i]]:=by
   rw[aa8,aac hlt];rfl
  refine .inr ⟨⟨_,_,hS1,hg⟩,λv H2 y=>?_⟩;obtain⟨rfl,y⟩:=y;have e:=y _ hS1;rw[hg]at e;cases e;refine htt _ _ _ (au hD _) ?_;have hz:=abx p (ns.take i);rw[aaC]at hz;by_cases hp:p ns[i]=true
  ·rw[if_pos hp];refine Oc _ _ _ (au hD _) ⟨aq,?_,ns.length - (i+1),by lia,rfl,hlt,?_,?_⟩
   ·rw[aaa];lia
   ·rw[et,aaI,aam,abD hp];rfl
   ·rw[mR]
  ·rw[if_neg hp];refine⟨ns.length - (i+1),by lia,rfl,hlt,?_,rfl⟩;rw[et,aaI,abP hp,List.filter_nil,abv]
 ·have e:i=ns.length:=by lia
  subst e;rw[abf];rw[abf]at hS1;exact .inl ⟨⟨_,hS1,by rw[aaa];exact aad _⟩,q D hD⟩
end Tw
namespace L2
open PySem PySem.Spec PyProof.Rows
theorem bI.ex{P:Program}{w:World}{H:Hp}{h:Heap}{a:Addr}{o:HO}(x:bI P w H h a o):∃ob,h.get? a=some ob:=by
 induction o with
 | lst xs=>obtain⟨z,its,n,r,e⟩:=x;exact⟨_,e⟩
 | tup xs=>obtain⟨z,its,r,ob,e,c⟩:=x;exact⟨_,e⟩
 | dK kvs=>obtain⟨z,y,vs,r,ob,es,ep,e,c⟩:=x;exact⟨_,e⟩
 | dT kvs=>obtain⟨z,y,xs,r,ob,es,ep,e,c⟩:=x;exact⟨_,e⟩
 | set S n=>obtain⟨ob,es,ep,t,e,c⟩:=x;exact⟨_,e⟩
 | ins C dx fs=>obtain⟨d,z,ne,e,_⟩:=x;exact⟨_,e⟩
 | own y=>exact x
 | xd fs=>obtain⟨mA,⟨od,es,ep,e,c⟩,r⟩:=x;exact⟨_,e⟩
 | Rf lo hi=>obtain⟨t,u,v,e⟩:=x;exact⟨_,e⟩
 | Mi ob u ih=>exact⟨_,x.1⟩
 | Ld ps=>exact⟨_,x⟩
 | met f y=>exact⟨_,x⟩
 | ext φ=>exact x.2.1
structure Su(B:Heap)(fs:List Addr)(H H':Hp)(h:Heap):Prop where
 old:∀b o,h.get? b=some o->b∉fs -> ∃o',B.get? b=some o'/\(H b=none->o'=o)
 Nr:∀b u,H' b=some u -> ∃o,B.get? b=some o
def My(P:Program)(w:World):Mx:=λouter H s E e s'=>∃(ea C t:Addr) (B:Heap) (H':Hp),e=.ref ea/\s'.os=s.os/\AllBare s'.gens/\Un (frs outer) [] H H' s.heap s'.heap/\Lf P w H' s'.heap /\
  Heap.FlyingW B outer ea (.ref C) (.ref t) s'.heap/\Su B (frs outer) H H' s.heap/\E (.ref C) none H'
section
variable{P:Program}{w:World}{K:PySem.W.Frag}{mg:Str->Option Value}{base:Heap}{N:List Str}{qual:Str}{scope:Scope}{f:Addr}{cd:Value}{A:Around}{outer:List Env}{s0:Shared}{H0:Hp}{E:XK}
abbrev X1(P:Program)(w:World)(K:PySem.W.Frag)(mg:Str->Option Value)(base:Heap)(N:List Str)(qual:Str)(scope:Scope)(f:Addr)(cd:Value)(A:Around)(outer:List Env)(s0:Shared)(H0:Hp)(E:XK):Cx:=
 gU (My P w) P w K mg base N qual scope f cd A outer s0 H0 E
theorem young{b:Addr}{o:Obj}(q:s0.heap.get? b=some o)(hb:b∉frs outer):b∉frs (envOfC qual scope s0.heap.objs.size f cd::outer):=λz=>by
 have z':b∈s0.heap.objs.size::frs outer:=z;rcases aaA.mp z' with e|e
 ·exact absurd (Heap.lt_size q) (by rw[e];exact aaZ _)
 ·exact hb e
theorem raised{π:List (Addr×Obj)}{σ:St}{H:Hp}{s:Shared}{h1:Heap}{ea C:Addr}{vs:List Value}(I:Inv (X1 P w K mg base N qual scope f cd A outer s0 H0 E) π σ H s)(m:Heap.MadeExcOf s.heap h1 ea (.ref C) vs)(q:E (.ref C) none H):
  (X1 P w K mg base N qual scope f cd A outer s0 H0 E).xe (.ref ea) { s with heap:=h1 }:=by
 have NP:s.heap.FunFrames base (envOfC qual scope s0.heap.objs.size f cd::outer):=I.stack;have hin:∀env∈(envOfC qual scope s0.heap.objs.size f cd::outer),∀b,env.frame=some b->b∈frs (envOfC qual scope s0.heap.objs.size f cd::outer):=λenv he b hb=>acn.mpr ⟨env,he,hb⟩;have U:Un (frs outer) [] H0 H s0.heap s.heap:=I.base;have nofr:∀b u,H b=some u->b∉frs (envOfC qual scope s0.heap.objs.size f cd::outer):=λb u e z=>by
  have:=I.stkFree b z;rw[this]at e;cases e
 have inB:∀b o,s.heap.get? b=some o->b∉frs (envOfC qual scope s0.heap.objs.size f cd::outer)->(PySem.W.hideAll s.heap (frs (envOfC qual scope s0.heap.objs.size f cd::outer))).get? b=some o:=λb o e n=>PySem.W.hideAll_get _ e n;show wpAny _ _ (leaving _ _) _ _ _;refine wpAny_leaves_madeW (base:=PySem.W.hideAll s.heap (frs (envOfC qual scope s0.heap.objs.size f cd::outer))) I.ok.frames rfl (λb o e=>PySem.W.of_hideAll _ e) (PySem.W.funFrames_hide NP hin) m λh2 t x1 x2 x3 x4=>?_;have kept:=x1.1;have fr:∀b o,s.heap.get? b=some o->b∈frs outer -> ∃sl,h2.get? b=some { o with slots:=sl }:=λb o e hb=>by
  obtain⟨_,o',ho',nf⟩:=NP.mem (b:=b) (aaw _ hb);rw[e]at ho';cases ho';exact x4 b o (m.keeps _ _ e) nf
 refine⟨ea,C,t,_,H,rfl,I.os,I.bare,⟨λb o e n hb hx=>?_,λb o e n hb hx=>?_,U.free,λb o e hx=>?_,U.tups,U.frzs,U.tbls⟩,λb u e=>?_,x1,⟨λb o e hb=>?_,λb u e=>?_⟩,q⟩
 ·exact kept b o (inB b o (U.keep b o e n hb hx) (young e hb))
 ·obtain⟨sl,e1⟩:=U.slot b o e n hb hx;obtain⟨sl',e2⟩:=fr b _ e1 hb;exact⟨sl',e2⟩
 ·obtain⟨o1,e1⟩:=U.there b o e hx;by_cases hb:b∈frs outer
  ·obtain⟨sl,e2⟩:=fr b _ e1 hb;exact⟨_,e2⟩
  ·exact⟨o1,kept b o1 (inB b o1 e1 (young e hb))⟩
 ·refine(I.hok b u e).stay (λc o hc e1=>kept c o (inB c o e1 ?_)) (λ_ r=>r) λ_ _ r=>r;rcases hc with rfl|hc
  ·exact nofr _ _ e
  ·exact nofr _ _ hc
 ·obtain⟨o1,e1⟩:=U.there b o e (by simp);refine⟨o1,inB b o1 e1 (young e hb),λn=>?_⟩;have:=U.keep b o e n hb (by simp);rw[e1]at this;exact aax this
 ·obtain⟨o,e1⟩:=(I.hok b u e).ex;exact⟨o,inB b o e1 (nofr b u e)⟩
theorem iK:lX (My P w) (X1 P w K mg base N qual scope f cd A outer s0 H0 E) E:=by
 intro π σ H s e s' I h;obtain⟨ea,C,t,B,H',rfl,os,bare,un,hok,fl,cov,q⟩:=h;have U:Un (frs outer) [] H0 H s0.heap s.heap:=I.base;show wpAny _ _ (leaving _ _) _ _ _;refine wpAny_leaves_onW (base:=B) I.ok.frames rfl fl λh2 x1 x2=>?_;have kept:=x1.1;have fr:∀b o,s'.heap.get? b=some o->b∈frs outer -> ∃sl,h2.get? b=some { o with slots:=sl }:=λb o e hb=>by
  obtain⟨_,o',ho',nf⟩:=fl.2.2.1.mem (b:=b) (aaw _ hb);rw[e]at ho';cases ho';exact x2 b o e nf
 refine⟨ea,C,t,B,H',rfl,os.trans I.os,bare,⟨λb o e n hb hx=>?_,λb o e n hb hx=>?_,λb o e n hx=>?_,λb o e hx=>?_,λb xs e=>un.tups b xs (U.tups b xs e),λb o u e=>un.frzs b o u (U.frzs b o u e),λb ps e=>?_⟩,λb u e=>?_,x1,⟨λb o e hb=>?_,cov.Nr⟩,q⟩
 ·obtain⟨o',e2,z⟩:=cov.old b o (U.keep b o e n hb hx) (young e hb);rw[z (U.free b o e n hx)]at e2;exact kept b o e2
 ·obtain⟨sl,e1⟩:=U.slot b o e n hb hx;obtain⟨sl',e2⟩:=un.slot b _ e1 (U.free b o e n hx) (aaw _ hb) hx;obtain⟨sl2,e3⟩:=fr b _ e2 hb;exact⟨sl2,e3⟩
 ·obtain⟨o1,e1⟩:=U.there b o e hx;exact un.free b o1 e1 (U.free b o e n hx) hx
 ·obtain⟨o1,e1⟩:=U.there b o e hx;by_cases hb:b∈frs outer
  ·obtain⟨o2,e2⟩:=un.there b o1 e1 hx;obtain⟨sl,e3⟩:=fr b _ e2 hb;exact⟨_,e3⟩
  ·obtain⟨o',e2,_⟩:=cov.old b o1 e1 (young e hb);exact⟨o',kept b o' e2⟩
 ·obtain⟨m1,e1⟩:=U.tbls b ps e;obtain⟨m2,e2⟩:=un.tbls b _ e1;exact⟨m1++m2,by rw[e2,acH]⟩
 ·refine(hok b u e).stay (λc o hc e1=>?_) (λ_ r=>r) λ_ _ r=>r;have ht:∃o,B.get? c=some o:=by
   rcases hc with rfl|hc
   ·exact cov.Nr _ _ e
   ·exact cov.Nr _ _ hc
  obtain⟨o1,e2⟩:=ht;have:=fl.1 c o1 e2;rw[e1]at this;cases this;exact kept c o e2
 ·obtain⟨o1,e1⟩:=U.there b o e (by simp);obtain⟨o',e2,z⟩:=cov.old b o1 e1 (young e hb);refine⟨o',e2,λn=>?_⟩;have:=U.keep b o e n hb (by simp);rw[e1]at this;rw[z (U.free b o e n (by simp))];exact aax this
theorem pJ:PassesOwn (model P w) (X1 P w K mg base N qual scope f cd A outer s0 H0 E).A (X1 P w K mg base N qual scope f cd A outer s0 H0 E).env (X1 P w K mg base N qual scope f cd A outer s0 H0 E).xe:=PassesOwn.leaving
end
section
variable{P:Program}{w:World}{K:PySem.W.Frag}{mg:Str->Option Value}{base:Heap}
theorem MJ.ok1{x qual:Str}{st:Stmt}{f:Addr}{fd:FuncData}{N ps:List Str}{k:Nat}{sp:Sp}(F:MJ K x qual st f fd)(S:aK N ps (δ st))(len:∀vs H Q E,sp vs H Q E->vs.length=ps.length)
  (hbody:∀(cdv:Value) (A:Around) (outer:List Env) (s:Shared) (H:Hp) (vs:List V) (Q:VK) (E:XK),eY k (A.deeper (envOfC qual (δ st) s.heap.objs.size f cdv))->sp vs H Q E ->
   ∃t,Ma (X1 P w K mg base N qual (δ st) f cdv A outer s H E) (μ st) t/\t { nx:=λ_ H'=>Q .non H',rt:=Q } (start N vs) H):bh P w K mg base (My P w) (k+1) f fd ps sp:=by
 obtain⟨oc,od,kV,doc,pm,an,cdv,ct,osl,rfl,lk,hcd⟩:=F.ex;exact Hf lk hcd S len λA outer s H vs Q E hr hsp=>hbody cdv A outer s H vs Q E hr hsp
end
abbrev Rp:List Value:=[.type "ValueError",.type "Exception",.type "BaseException",.type "object"]
structure Exc(K:PySem.W.Frag)(mg:Str->Option Value)(x:Str)(C:Addr):Prop where
 m:mg x=some (.ref C)
 q:PySem.W.excIn K C Rp "ValueError.__new__" = true
theorem zU{K:PySem.W.Frag}{h:Heap}{C:Addr}(X:K.In h)(q:PySem.W.excIn K C Rp "ValueError.__new__" = true):
  ∃bm N nm qn bs hdct sn sub ab col dd k0 k1 k2 k3 k5 mN,h.get? C=some (excClassObj nm qn C N bs bm hdct sn sub ab col dd k0 k1 k2 k3 k5 "ValueError.__new__")/\h.Ns N mN/\mN "__init__" = none/\OwnTail h Rp bm:=by
 unfold PySem.W.excIn at q;split at q
 ·rename_i dd cd sl ho;split at q
  ·rename_i C' bm k0 k1 k2 k3 n k5 hm hs;simp only[adU,beq_iff_eq,acQ]at q;obtain⟨⟨⟨⟨⟨rfl,rfl⟩,hdel⟩,ht⟩,hok⟩,hni⟩:=q;obtain⟨nm,bs,mro,ns,qn,hd,sn,sub,ab,col,del⟩:=cd;dsimp only at hm hdel hok hni;subst hm hdel
   have hsl:sl=#[k0,k1,k2,k3,some (.builtin "ValueError.__new__"),k5]:=by
    obtain⟨l⟩:=sl;simp only at hs;rw[hs]
   subst hsl;exact⟨bm,ns,nm,qn,bs,hd,sn,sub,ab,col,dd,k0,k1,k2,k3,k5,_,X _ _ ho,.of_isNs (PySem.W.isNs_of_in X hok),PySem.W.nsMap_none_of_in X hok hni,PySem.W.tail_of_in X ht⟩
  ·cases q
 ·cases q
section
variable{P:Program}{w:World}{K:PySem.W.Frag}{mg:Str->Option Value}{base:Heap}{N:List Str}{qual:Str}{scope:Scope}{f:Addr}{cd:Value}{A:Around}{outer:List Env}{s0:Shared}{H0:Hp}{E:XK}
def Hz(C:Addr)(E:XK)(ta:TA):TS:=λ_ σ H=>ta σ H λvs H1=>vs.length<=sizeLine/\E (.ref C) none H1
theorem mV{x:Str}{C:Addr}{a:Expr}{ta:TA}{np cpos pos:Pos}(e:Exc K mg x C)(hg:Gl (X1 P w K mg base N qual scope f cd A outer s0 H0 E) x)(ha:PA (X1 P w K mg base N qual scope f cd A outer s0 H0 E) [a] ta)
  (hdb:(x == ("__debug__" : Str))=false:=by decide)
  (he:starEach [a] (X1 P w K mg base N qual scope f cd A outer s0 H0 E).env=[(false,eval a (X1 P w K mg base N qual scope f cd A outer s0 H0 E).env)]:=by rfl):
  PS (X1 P w K mg base N qual scope f cd A outer s0 H0 E) (.Raise (some (.Call (.Name x np) [a] [] cpos)) none pos) (Hz C E ta):=by
 intro π s σ H D I h;obtain⟨bm,N',nm,qn,bs,hdct,sn,sub,ab,col,dd,k0,k1,k2,k3,k5,mN,hC,hN,hni,T⟩:=zU I.mod.Qp e.q;refine wpAny_Raise_call_subU (C:=C) (nm:=nm) (q:=qn) (N:=N') (bs:=bs) (bm:=bm) (hdct:=hdct) (sn:=sn) (sub:=sub) (ab:=ab) (col:=col) (dd:=dd) (k0:=k0) (k1:=k1) (k2:=k2) (k3:=k3) (k5:=k5)
  PySem.F.excBase_ValueError PySem.F.excBase_ValueError.hasB PySem.F.excBase_ValueError (mN:=mN) (T.hasType PySem.F.excBase_ValueError.hasBase) (I.ok.hd rfl) (by rw[he];rfl) hni (pN I hg e.m ⟨rfl,?_⟩ hdb)
 have h2:=ha cpos π s σ H _ I h;rw[he]at h2 ⊢;refine Calls.evalArgs_plain (K7 h2 λus s2 ⟨vs,H2,I2,r2,q1,q2⟩=>⟨rfl,?_,I2.bk _ _ hC,hN.keeps I2.bk,T.keeps I2.bk,λh' ea m=>raised I2 m q2⟩);rw[<-r2.length];exact q1
end
def Gb(ea C:Addr):HO:=.ext λh=>∃o vs,h.get? ea=some o/\o.cls=.ref C/\o.data=.fields vs
structure HD(K:PySem.W.Frag)(C:Addr):Prop where
 dct:PySem.W.hasDictIn K C=true
 ga:PySem.W.findIn K (.ref C) "__getattribute__" = some (some (.builtin "BaseException.__getattribute__"))
 nga:PySem.W.findIn K (.ref C) "__getattr__" = some none
 cl:PySem.W.findIn K (.ref C) "__class__" = some (some (.builtin "object.__class__"))
 gt:PySem.W.specialIn K (.builtin "object.__class__") "__get__" = some (some (.builtin "getset_descriptor.__get__"))
 tk:PySem.W.takesIn K (.builtin "object.__class__")=some true
 mo:PySem.W.mroIn K C (.type "object")=some true
 mb:PySem.W.mroIn K C (.type "BaseException")=some true
def Cx.suite(X:Cx)(ea:Addr):Cx:={ X with A:=X.A.mark (some (.ref ea)),calm:=false,xe:=λ_ _=>False }
section
variable{X:Cx}{π:List (Addr×Obj)}{σ:St}{H:Hp}{s:Shared}{ea:Addr}
theorem Cx.Ok.suite(ok:X.Ok):(X.suite ea).Ok:=
 ⟨ok.mod,ok.kind,ok.glob,ok.blt,ok.above,ok.inj,ok.has,ok.cab,λz=>absurd z aat,ok.frames,ok.NP,ok.Qq,ok.bs,ok.Mv,ok.noex,ok.exfs,ok.funs,ok.Nf⟩
theorem Inv.suite(I:Inv X π σ H s):Inv (X.suite ea) π σ H s:=⟨I.ok.suite,I.os,I.bare,I.base,I.loc,I.cell,I.free,I.freeC,I.pin,I.hok,I.len⟩
theorem Inv.unsuite(ok:X.Ok)(I:Inv (X.suite ea) π σ H s):Inv X π σ H s:=⟨ok,I.os,I.bare,I.base,I.loc,I.cell,I.free,I.freeC,I.pin,I.hok,I.len⟩
theorem landed{C t:Addr}{B:Heap}{H':Hp}{s':Shared}{h6:Heap}(I:Inv X π σ H s)(os:s'.os=s.os)(bare:AllBare s'.gens)(un:Un (frs X.stack) [] H H' s.heap s'.heap)(hok:Lf X.prog X.w H' s'.heap)
  (fl:Heap.FlyingW B X.stack ea (.ref C) (.ref t) s'.heap)(cov:Su B (frs X.stack) H H' s.heap)(Od:Heap.FlyingW B X.stack ea (.ref C) (.ref t) h6)(up:s'.heap.UpToSlots h6):
  H' ea=none/\Inv X π σ (upd H' ea (Gb ea C)) { s' with heap:=h6 }:=by
 have Pb:H' ea=none:=by
  cases q:H' ea with
  | none=>rfl
  | some u =>
   obtain⟨o,e⟩:=cov.Nr ea u q;rw[fl.2.1]at e;cases e
 obtain⟨oe,vs,hoe,hoc,hod,_⟩:=Od.first;have fresh:s.heap.get? ea=none:=by
  cases q:s.heap.get? ea with
  | none=>rfl
  | some o =>
   by_cases hb:ea∈frs X.stack
   ·obtain⟨_,o',ho',nf⟩:=Od.2.2.1.mem hb;rw[hoe]at ho';cases ho';exact absurd hod (nf vs)
   ·obtain⟨o',e,_⟩:=cov.old ea o q hb;rw[fl.2.1]at e;cases e
 have fr:∀b o,s'.heap.get? b=some o->b∈frs X.stack -> ∃sl,h6.get? b=some { o with slots:=sl }:=λb o e hb=>by
  obtain⟨_,o',ho',nf⟩:=fl.2.2.1.mem hb;rw[e]at ho';cases ho';exact up b o e nf
 have ne:∀b u,H' b=some u->b≠ea:=λb u e=>aB e Pb;refine⟨Pb,I.call' (ch:=[]) os ⟨λb o e n hb hx=>?_,λb o e n hb hx=>?_,λb o e n hx=>?_,λb o e hx=>?_,λb xs e=>?_,λb o u e=>?_,λb ps e=>?_⟩ (λb u e=>?_) bare λb z=>absurd z (by simp)⟩
 ·obtain⟨o',e2,z⟩:=cov.old b o e hb;rw[z n]at e2;exact Od.1 b o e2
 ·obtain⟨sl,e1⟩:=un.slot b o e n hb hx;obtain⟨sl2,e2⟩:=fr b _ e1 hb;exact⟨sl2,e2⟩
 ·have:b≠ea:=λz=>by rw[z,fresh]at e;cases e
  rw[aD this];exact un.free b o e n hx
 ·by_cases hb:b∈frs X.stack
  ·obtain⟨o1,e1⟩:=un.there b o e hx;obtain⟨sl,e2⟩:=fr b _ e1 hb;exact⟨_,e2⟩
  ·obtain⟨o',e2,_⟩:=cov.old b o e hb;exact⟨o',Od.1 b o' e2⟩
 ·have q:=un.tups b xs e;rw[aD (ne b _ q)];exact q
 ·have q:=un.frzs b o u e;rw[aD (ne b _ q)];exact q
 ·obtain⟨more,q⟩:=un.tbls b ps e;exact⟨more,by rw[aD (ne b _ q)];exact q⟩
 ·by_cases hb:b=ea
  ·subst hb;rw[aq]at e;cases e;refine⟨⟨oe,vs,hoe,hoc,hod⟩,⟨oe,hoe⟩,λh1 h2 p k=>?_⟩;obtain⟨o,ws,e1,e2,e3⟩:=p;exact⟨o,ws,k o e1,e2,e3⟩
  ·rw[aD hb]at e;refine(hok b u e).stay (λc o hc e1=>?_) (λc r=>by rw[aD (ne c _ r)];exact r) λc xs r=>by rw[aD (ne c _ r)];exact r
   have ht:∃o,B.get? c=some o:=by
    rcases hc with rfl|hc
    ·exact cov.Nr _ _ e
    ·exact cov.Nr _ _ hc
   obtain⟨o1,e2⟩:=ht;have:=fl.1 c o1 e2;rw[e1]at this;cases this;exact Od.1 c o e2
end
section
variable{K:PySem.W.Frag}{x C:Addr}
inductive ExcAt(x:Addr)(C:Addr)(h:Heap):Prop
 | mk (o vs:_) (_:h.get? x=some o) (_:o.cls=.ref C) (_:o.data=.fields vs)
theorem Jb{M:Model}{h:Heap}(p:ExcAt x C h):PySem.W.Looks M h (typeOf (.ref x)) (.ref C):=by
 obtain⟨o,vs,h1,h2,_⟩:=p;exact h2 ▸ (PySem.W.Looks.ld h1).andThen .now
end
open PySem.W Builtin Builtin.ObjectAttr Builtin.Getset_descriptor
section
variable{K:PySem.W.Frag}{x C:Addr}
variable{prog:Program}{w:World}{A:Around}{E:Value->Shared->Prop}{s:Shared}{R:Result->Shared->Prop}
end
section
variable{X:Cx}
end
theorem zH{P:Program}{w:World}{X:Cx}:lX (My P w) X (λ_ _ _=>False):=λ_ _ _ _ _ _ _ h=>by
 obtain⟨_,_,_,_,_,_,_,_,_,_,_,_,z⟩:=h;exact z.elim
def JD(K:PySem.W.Frag)(te tk:TE):TE:=λ σ H Q=>te σ H λx H1=>tk σ H1 λy H2=>y=.int (-1) /\ ∃a xs,x=.ref a/\K5 K H2 a xs /\ ∀p,H2 p=none->Q (.ref p) (upd H2 p (.lst xs.reverse))
theorem Gf{X:Cx}{e k:Expr}{te tk:TE}{p2 pos:Pos}(he:PE X e te)(hk:PE X k tk):PE X (.Subscript e (.Slice none none (some k) p2) pos) (JD X.K te tk):=by
 intro π s σ H Q I h;refine Subscript_ (K7 (he π s σ H _ I h) λv s1 ⟨x,H1,I1,r1,q1⟩=>?_);refine wpAny_Slice ?_;rw[evalPart_none];refine wpAny_pure ?_;refine wpAny_pure ?_;rw[evalPart_some];refine K7 (hk π s1 σ H1 _ I1 q1) λvk s3 ⟨y,H3,I3,ry,q3⟩=>?_;obtain⟨rfl,a,xs,rfl,hx,q⟩:=q3;obtain⟨tk0,rfl⟩:=ry;cases r1
 have I4:Inv X π σ H3 { s3 with heap:=s3.heap.push { cls:=.type "slice",data:=.fields #[.none,.none,.int (-1) tk0] } }:=I3.kept (t':=s3.toks) λb ob q=>Heap.get?_push_of_some _ q
 obtain⟨its,r,ht,hz⟩:=I4.list hx;have hlen:=r.length
 show wpAny (model X.prog X.w) X.A (subscriptTail e (.Slice none none (some k) p2) (.ref a) (.ref s3.heap.objs.size)) (EP X π σ Q) X.xe { s3 with heap:=s3.heap.push { cls:=.type "slice",data:=.fields #[.none,.none,.int (-1) tk0] } }
 refine tail_any (ops:=[.ref a,.ref s3.heap.objs.size]) ht.isList.typeIs slot_list_getitem.lookup ?_ (by with_unfolding_all rfl);refine wpAny_getItem_list_slice ht.isList (Heap.IsSliceOf.new ..) .none .none (.int (-1) tk0) (by decide) ?_ (by rw[aao];lia);rw[krv_pick];refine⟨.ref _,_,I4.laid (t':=s3.toks) (o:=.lst xs.reverse) (λb ob q=>Heap.get?_push_of_some _ q) (aad _) ?_,rfl,q _ (I4.hok.fresh (aad _))⟩;refine⟨by rw[acj];exact hz,its.reverse,0,r.reverse,?_⟩;exact Heap.get?_push_size _ rfl
def Cx.tr(X:Cx)(π:List (Addr×Obj))(E:XK):Cx:={ X with pn:=X.pn++π,xe:=λe s'=>∃σ H s,Inv X π σ H s/\My X.prog X.w X.stack H s E e s' }
section
variable{X:Cx}{π pins':List (Addr×Obj)}{E:XK}{σ:St}{H:Hp}{s:Shared}
theorem Cx.Ok.tr(ok:X.Ok):(X.tr π E).Ok:=
 ⟨ok.mod,ok.kind,ok.glob,ok.blt,ok.above,ok.inj,ok.has,ok.cab,ok.hd,ok.frames,ok.NP,ok.Qq,ok.bs,ok.Mv,ok.noex,ok.exfs,ok.funs,ok.Nf⟩
theorem Cx.Ok.untr(ok:(X.tr π E).Ok):X.Ok:=
 ⟨ok.mod,ok.kind,ok.glob,ok.blt,ok.above,ok.inj,ok.has,ok.cab,ok.hd,ok.frames,ok.NP,ok.Qq,ok.bs,ok.Mv,ok.noex,ok.exfs,ok.funs,ok.Nf⟩
theorem Inv.tr(I:Inv X π σ H s):Inv (X.tr π E) [] σ H s:=
 ⟨I.ok.tr,I.os,I.bare,I.base,I.loc,I.cell,I.free,I.freeC,λp hp=>I.pin p (by
  have hp':p∈(X.pn++π)++[]:=hp
  rwa [abv]at hp'),I.hok,I.len⟩
theorem Inv.untr(I:Inv (X.tr π E) pins' σ H s):Inv X π σ H s:=
 ⟨I.ok.untr,I.os,I.bare,I.base,I.loc,I.cell,I.free,I.freeC,λp hp=>I.pin p (aa0 _ hp),I.hok,I.len⟩
theorem Jv:lX (My X.prog X.w) (X.tr π E) E:=λ_ σ H s _ _ I h=>⟨σ,H,s,I.untr,h⟩
theorem SP.untr{D:Ends}{f:Flow}{s':Shared}(h:SP (X.tr π E) [] D f s'):SP X π D f s':=by
 cases f with
 | next=>obtain⟨σ,H,I,q⟩:=h;exact⟨σ,H,I.untr,q⟩
 | ret v=>obtain⟨x,σ,H,I,r,q⟩:=h;exact⟨x,σ,H,I.untr,r,q⟩
 | brk=>obtain⟨σ,H,I,q⟩:=h;exact⟨σ,H,I.untr,q⟩
 | cont=>obtain⟨σ,H,I,q⟩:=h;exact⟨σ,H,I.untr,q⟩
end
abbrev TH:=Addr->Ends->St->Hp->Prop
def PH(X:Cx)(hs:List ExceptHandler)(th:TH):Prop:=∀(π:List (Addr×Obj)) (ea C t:Addr) (B:Heap) (H':Hp) (s':Shared) (σ:St) (D:Ends) (h5:Heap),
 (∀h6,Heap.FlyingW B X.stack ea (.ref C) (.ref t) h6->s'.heap.UpToSlots h6->Inv X π σ (upd H' ea (Gb ea C)) { s' with heap:=h6 }) ->
 Heap.FlyingW B X.stack ea (.ref C) (.ref t) h5->s'.heap.UpToSlots h5->H' ea=none->th C D σ H' ->
 wpAny (model X.prog X.w) X.A (handleBy (.ref ea) X.env hs) (SP X π D) X.xe { s' with heap:=h5 }
def Kz:TH:=λ_ _ _ _=>False
theorem Io{X:Cx}:PH X [] Kz:=λ_ _ _ _ _ _ _ _ _ _ _ _ _ _ z=>z.elim
theorem Ji{X:Cx}{Cw ea C t:Addr}{B:Heap}{h5:Heap}{s':Shared}{cx:Str}{b:Bool}{π:List (Addr×Obj)}{σ:St}{H:Hp}(ex:Exc X.K X.mg cx Cw)(Sv:HD X.K Cw)(I5:Inv X π σ H { s' with heap:=h5 })
  (Oq:Heap.FlyingW B X.stack ea (.ref C) (.ref t) h5)(hsub:kitOne X.K (.ref C) (.ref Cw)=some b){M:Model}{A:Around}{Q:Bool->Shared->Prop}{E:Value->Shared->Prop}(qq:Q b { s' with heap:=h5 }):
  wpAny M A (excMatches (.ref ea) (.ref Cw)) Q E { s' with heap:=h5 }:=by
 obtain⟨oe,Z2,hoe,hoc,hod,_⟩:=Oq.first;by_cases eC:C=Cw
 ·subst eC;have hb:b=true:=by
   unfold kitOne at hsub;rw[if_pos (by simp)]at hsub;exact(aax hsub).symm
  subst hb;obtain⟨bm,N',nm,qn,bs,hdct,sn,sub,ab,col,dd,k0,k1,k2,k3,k5,mN,hC,hN',hni,T⟩:=zU I5.Mj ex.q;exact wpAny_excMatches_sub_self hC hoe hoc (T.hasType PySem.F.excBase_ValueError.hasBase) qq
 ·have hx:exmOne X.K (.ref C) (.ref Cw)=some b:=by
   unfold exmOne
   rw[if_pos (beq_iff_eq.mpr (show subIn X.K (.ref Cw) (.type "BaseException")=some true from Sv.mb))]
   unfold kitOne at hsub;rw[if_neg (by simpa using eC)]at hsub;exact hsub
  exact(exm_one (M:=M) I5.Mj (Jb ⟨oe,Z2,hoe,hoc,hod⟩) hx).at qq
def Z3(K:PySem.W.Frag)(Cw:Addr)(ts:TS)(th:TH):TH:=λC D σ H=>∃b,kitOne K (.ref C) (.ref Cw)=some b/\if b=true then (∀ea,H ea=none ->
 ts { nx:=D.nx,rt:=λ_ _=>False } σ (upd H ea (Gb ea C)))else th C D σ H
theorem J1{X:Cx}{Cw:Addr}{cx:Str}{np hpos:Pos}{b0:Stmt}{suite:List Stmt}{ts:TS}{rest:List ExceptHandler}{th:TH}
  (ex:Exc X.K X.mg cx Cw)(Sv:HD X.K Cw)(Z4:Gl X cx)
  (hs:∀ea,Ma (X.suite ea) (b0::suite) ts)(hr:PH X rest th)(hdc:(cx == ("__debug__" : Str))=false:=by decide):
  PH X (.ExceptHandler (some (.Name cx np)) none (b0::suite) hpos::rest) (Z3 X.K Cw ts th):=by
 intro π ea C t B H' s' σ D h5 L Oq Ot Pb q;obtain⟨b,hsub,q⟩:=q;have I5:=L h5 Oq Ot;refine wpAny_handleBy_cons (codeAny_handlers_test (pN (X:=X.suite ea) I5.suite Z4 ex.m ?_ hdc)) (by intro z;cases z);refine Ji ex Sv I5 Oq hsub ?_;cases b with
 | false =>
  rw[if_neg aat]at q;exact hr π ea C t B H' s' σ D h5 L Oq Ot Pb q
 | true =>
  rw[if_pos rfl]at q;refine codeAny_handlers_suite ?_;refine lands_againW Oq λh6 Od Sw=>?_;have I6:=L h6 Od (Ot.trans Sw);refine wpAny_mono (hs ea π _ _ _ _ I6.suite (q ea Pb)) (λfw s8 q8=>?_) λ_ _ z=>False.elim z;cases fw with
  | next =>
   obtain⟨σ8,H8,I8,n8⟩:=q8;exact⟨σ8,H8,I8.unsuite I5.ok,n8⟩
  | ret v=>obtain⟨_,_,_,_,_,z⟩:=q8;exact False.elim z
  | brk=>obtain⟨_,_,_,z⟩:=q8;exact False.elim z
  | cont=>obtain⟨_,_,_,z⟩:=q8;exact False.elim z
def J4(tb:XK->TS)(th:TH):TS:=λD σ H=>tb (λcv _ H2=>∃C,cv=.ref C /\ ∀σ':St,σ'.length=σ.length->th C D σ' H2) D σ H
theorem Hk{X:Cx}{body:List Stmt}{h0:ExceptHandler}{hs:List ExceptHandler}{pos:Pos}{tb:XK->TS}{th:TH}(hst:X.stack=X.env::X.outer)(hfr:X.env.frame=some X.env.locals)
  (hb:∀π E,Ma (X.tr π E) body (tb E))(hh:PH X (h0::hs) th):PS X (.Try body (h0::hs) [] [] pos) (J4 tb th):=by
 intro π s σ H D I h;refine wpAny_Try_except ?_;refine wpAny_mono (hb π _ [] s σ H D I.tr h) (λfw s1 q=>?_) λe s1 q=>?_
 ·have q':=q.untr;cases fw with
  | next=>exact wpAny_execs_nil q'
  | ret v=>exact q'
  | brk=>exact q'
  | cont=>exact q'
 ·obtain⟨σ1,H1,s0,I1,ea,C',t',B,H',rfl,os,bare,un,hok,fl,cov,C,eC,q2⟩:=q;cases eC;have frm:X.A.frames=some (X.env::X.outer):=by rw[<-hst];exact I.ok.frames
  refine wpAny_looks_onW (base:=B) frm hfr (by rw[<-hst];exact fl) λh4 held Vt=>wpAny_landsW held λh5 Oq Ot=>?_;have fl5':Heap.FlyingW B X.stack ea (.ref C') (.ref t') h5:=by rw[hst];exact Oq
  obtain⟨Pb,_⟩:=landed I1 os bare un hok fl cov fl5' (Vt.trans Ot);exact hh π ea C' t' B H' s1 σ1 D h5 (λh6 Od Sw=>(landed I1 os bare un hok fl cov Od Sw).2) fl5' (Vt.trans Ot) Pb (q2 σ1 (by rw[I1.len,I.len]))
inductive Cj(r':R2)(r'':R2)(tc:TE)(td:TE)(σ:St)(Q:VK)(y:V)(z:V)(H3:Hp):Prop
 | mk (k:_) (_:z=.bl k) (_:(if k=true then tc σ H3 λw' H4=>r' y w' H4 λz2 H5=>∃k2,z2=.bl k2/\(if k2=true then td σ H5 λw2 H6=>r'' w' w2 H6 Q else Q (.bl false) H5)else Q (.bl false) H3))
def Gi(r r' r'':R2)(ta tb tc td:TE):TE:=λ σ H Q=>ta σ H λx H1=>tb σ H1 λy H2=>r x y H2 λz H3=>Cj r' r'' tc td σ Q y z H3
theorem Ah{X:Cx}{a b c d:Expr}{ta tb tc td:TE}{pos:Pos}{op op' op'':CmpOp}{r r' r'':R2}(ho:Lp X (compareOp op) r)(ho':Lp X (compareOp op') r')(ho'':Lp X (compareOp op'') r'')(ha:PE X a ta)(hb:PE X b tb)(hc:PE X c tc)(hd:PE X d td)
  (hm:lastMarks [op,op',op''] [b,c,d]=false:=by with_unfolding_all rfl):PT X (.Compare a [op,op',op''] [b,c,d] pos) (Em (Gi r r' r'' ta tb tc td)):=by
 intro π s σ H Q I h;refine isTrue_chain (K7 (ha π s σ H _ I h) λv s1 ⟨x,H1,I1,r1,q1⟩=>test_link (K7 (hb π s1 σ H1 _ I1 q1) λu s2 ⟨y,H2,I2,r2,q2⟩ =>
  K7 (ho π s2 σ H2 x y v u _ I2 r1 r2 q2) λd s3 ⟨z,H3,I3,r3,k,e,q3⟩=>?_)) hm
 subst e;cases r3;refine wpAny_truthy_bool ?_;cases k with
 | false =>
  obtain⟨k',e',q'⟩:=q3;cases e';exact ite_ff ⟨H3,I3,q'⟩
 | true =>
  refine ite_tt (test_link (K7 (hc π s3 σ H3 _ I3 q3) λw' s4 ⟨z',H4,I4,r4,q4⟩=>K7 (ho' π s4 σ H4 y z' u w' _ I4 r2 r4 q4) λd' s5 ⟨z2,H5,I5,r5,k2,e2,q5⟩=>?_));subst e2;cases r5;refine wpAny_truthy_bool ?_;cases k2 with
  | false =>
   obtain⟨k',e',q'⟩:=q5;cases e';exact ite_ff ⟨H5,I5,q'⟩
  | true =>
   refine ite_tt (test_last (K7 (hd π s5 σ H5 _ I5 q5) λw2 s6 ⟨z3,H6,I6,r6,q6⟩=>K7 (ho'' π s6 σ H6 z' z3 w' w2 _ I6 r4 r6 q6) λd2 s7 ⟨z4,H7,I7,r7,k3,e3,q7⟩=>?_));subst e3;cases r7;exact wpAny_truthy_bool ⟨H7,I7,q7⟩
def aQ(a:Addr)(o:Obj):HO:=.ext λh=>h.get? a=some o
theorem eG{P:Program}{w:World}{H:Hp}{h:Heap}{a:Addr}{o:Obj}(e:h.get? a=some o):bI P w H h a (aQ a o):=⟨e,⟨o,e⟩,λ_ _ p k=>k o p⟩
theorem cT{P:Program}{w:World}{H:Hp}{h:Heap}{a:Addr}{o:Obj}(hok:Lf P w H h)(e:H a=some (aQ a o)):h.get? a=some o:=(hok a _ e).1
def hide(H:Hp)(cs:List Addr):Hp:=λb=>if b∈cs then none else H b
def over(H:Hp)(cs:List Addr)(H':Hp):Hp:=λb=>if b∈cs then H b else H' b
theorem kJ{H:Hp}{cs:List Addr}{b:Addr}(h:b∈cs):hide H cs b=none:=if_pos h
theorem bw{H:Hp}{cs:List Addr}{b:Addr}(h:b∉cs):hide H cs b=H b:=if_neg h
theorem pU{H H':Hp}{cs:List Addr}{b:Addr}(h:b∈cs):over H cs H' b=H b:=if_pos h
theorem dD{H H':Hp}{cs:List Addr}{b:Addr}(h:b∉cs):over H cs H' b=H' b:=if_neg h
theorem tX(H:Hp)(cs:List Addr):over H cs (hide H cs)=H:=by
 funext b;by_cases h:b∈cs
 ·rw[pU h]
 ·rw[dD h,bw h]
theorem vO{H H':Hp}{cs:List Addr}{a:Addr}{o:HO}(h:a∉cs):over H cs (upd H' a o)=upd (over H cs H') a o:=by
 funext b;by_cases hb:b∈cs
 ·have:b≠a:=λe=>h (e ▸ hb);rw[pU hb,aD this,pU hb]
 ·rw[dD hb];by_cases e:b=a
  ·subst e;rw[aq,aq]
  ·rw[aD e,aD e,dD hb]
section
variable{P:Program}{w:World}{H H':Hp}{h h':Heap}{cs:List Addr}
theorem zL(hok:Lf P w H h)(hx:∀a∈cs,∃o,H a=some (aQ a o)):Lf P w (hide H cs) h:=λb u e=>by
 have hb:b∉cs:=λz=>by rw[kJ z]at e;cases e
 rw[bw hb]at e;refine(hok b u e).stay (λ_ _ _ q=>q) (λc q=>?_) λc xs q=>?_
 ·rw[bw]
  ·exact q
  ·intro z;obtain⟨o,e2⟩:=hx c z;rw[q]at e2;cases e2
 ·rw[bw]
  ·exact q
  ·intro z;obtain⟨o,e2⟩:=hx c z;rw[q]at e2;cases e2
theorem zX{fs:List Addr}(hok:Lf P w H h)(hok':Lf P w H' h')(hx:∀a∈cs,∃o,H a=some (aQ a o))(hf:∀b∈fs,H b=none)(u:Un fs [] (hide H cs) H' h h'):
  Lf P w (over H cs H') h'/\Un fs [] H (over H cs H') h h':=by
 have get:∀a∈cs,∃o,H a=some (aQ a o)/\h.get? a=some o:=λa ha=>by
  obtain⟨o,e⟩:=hx a ha;exact⟨o,e,cT hok e⟩
 have gone:∀a∈cs,H' a=none:=λa ha=>by
  obtain⟨o,_,e⟩:=get a ha;exact u.free a o e (kJ ha) (by simp)
 have out:∀b,H b=none->b∉cs:=λb n z=>by
  obtain⟨o,e,_⟩:=get b z;rw[n]at e;cases e
 refine⟨λb v e=>?_,λb o e n hb hx'=>?_,λb o e n hb hx'=>?_,λb o e n hx'=>?_,λb o e hx'=>u.there b o e hx',λb xs e=>?_,λb o v e=>?_,λb ps e=>?_⟩
 ·by_cases hb:b∈cs
  ·obtain⟨o,e1,e2⟩:=get b hb;rw[pU hb,e1]at e;cases e;exact eG (u.keep b o e2 (kJ hb) (λz=>by rw[hf b z]at e1;cases e1) (by simp))
  ·rw[dD hb]at e;refine(hok' b v e).stay (λ_ _ _ q=>q) (λc q=>?_) λc xs q=>?_
   ·rw[dD]
    ·exact q
    ·intro z;rw[gone c z]at q;cases q
   ·rw[dD]
    ·exact q
    ·intro z;rw[gone c z]at q;cases q
 ·exact u.keep b o e (by rw[bw (out b n)];exact n) hb hx'
 ·exact u.slot b o e (by rw[bw (out b n)];exact n) hb hx'
 ·rw[dD (out b n)];exact u.free b o e (by rw[bw (out b n)];exact n) hx'
 ·have hb:b∉cs:=λz=>by
   obtain⟨o,e1⟩:=hx b z;rw[e]at e1;cases e1
  rw[dD hb];exact u.tups b xs (by rw[bw hb];exact e)
 ·have hb:b∉cs:=λz=>by
   obtain⟨o,e1⟩:=hx b z;rw[e]at e1;cases e1
  rw[dD hb];exact u.frzs b o v (by rw[bw hb];exact e)
 ·have hb:b∉cs:=λz=>by
   obtain⟨o,e1⟩:=hx b z;rw[e]at e1;cases e1
  rw[dD hb];exact u.tbls b ps (by rw[bw hb];exact e)
end
structure oH where
 name:Str
 qual:Str
 params:Arguments
 body:List Stmt
 scope:Scope
 ps:List Str
 xs:List Str
structure cX(H:Hp)(f:Addr)(c:oH)(cs:List Addr)(K8:List V):Prop where
 ex:∃(cd:Addr) (doc pm ctv:Value) (oc:Obj) (vs:Array Value) (t:Tok),H f=some (aQ f (fnMade c.name c.qual c.params c.body c.scope (c.xs.zip cs) doc pm cd ctv))/\H cd=some (aQ cd oc)/\oc.data=.fields vs/\vs[1]?=some (.str c.qual t)
 cells:∀(i:Nat) (a:Addr),cs[i]?=some a -> ∃(co:Obj) (v:V) (u:Value),K8[i]?=some v/\H a=some (aQ a co)/\co.data=.cell (some u)/\RelV v u
 nd:cs.Nodup
 len:cs.length=c.xs.length
 lenV:K8.length=c.xs.length
theorem cX.same{H H':Hp}{f:Addr}{c:oH}{cs:List Addr}{K8:List V}(h:cX H f c cs K8)(s:∀b o,H b=some (aQ b o)->H' b=some (aQ b o)):cX H' f c cs K8:=by
 obtain⟨⟨cd,doc,pm,ctv,oc,vs,t,h1,h2,h3,h4⟩,hc,nd,len,lenV⟩:=h;refine⟨⟨cd,doc,pm,ctv,oc,vs,t,s _ _ h1,s _ _ h2,h3,h4⟩,λi a e=>?_,nd,len,lenV⟩;obtain⟨co,v,u,e1,e2,e3⟩:=hc i a e;exact⟨co,v,u,e1,s _ _ e2,e3⟩
structure pY(N:List Str)(c:oH):Prop where
 kind:c.scope.kind=.function
 co:c.scope.isCoroutine=false
 gen:c.scope.isGenerator=false
 ρ:∀x∈c.scope.names,x.2 ≠ .cell
 pre:N.take (c.ps.length+c.xs.length)=c.ps++c.xs
 nd:N.Nodup
 Ob:∀n∈c.ps,c.scope.names.lookup n=some .local
 fr:∀x∈c.scope.names,x.2=.free->x.1∈c.xs
 Sx:∀n∈c.xs,c.scope.names.lookup n≠some .local
def oY(P:Program)(w:World)(K:PySem.W.Frag)(mg:Str->Option Value)(base:Heap)(N:List Str)(qual:Str)(scope:Scope)(f:Addr)(cd:Value)(cl:List (Str×Addr))(A:Around)(outer:List Env)(s:Shared)(H:Hp):Cx where
 prog:=P
 w:=w
 K:=K
 mg:=mg
 base:=base
 A:=A.deeper (envX qual scope s.heap.objs.size f cd cl)
 N:=N
 s₀:=s
 H₀:=H
 env:=envX qual scope s.heap.objs.size f cd cl
 outer:=outer
 stack:=envX qual scope s.heap.objs.size f cd cl::outer
 ex:=[]
 calm:=true
 fn:=λ_=>false
 pn:=[]
 xe:=λ_ _=>False
theorem cL:∀{xs:List Str}{cs:List Addr}{x:Str}{c:Addr},(xs.zip cs).lookup x=some c -> ∃i:Nat,xs[i]?=some x/\cs[i]?=some c
 | [],_,_,_,h=>by simp at h
 | _::_,[],_,_,h=>by simp at h
 | y::xs,d::cs,x,c,h=>by
  rw[ab2,abn]at h;cases hb:x == y with
  | true =>
   rw[hb]at h;cases h;exact⟨0,by rw[eq_of_beq hb];rfl,rfl⟩
  | false =>
   rw[hb]at h;obtain⟨i,h1,h2⟩:=cL h;exact⟨i+1,h1,h2⟩
theorem vJ:∀{xs:List Str}{cs:List Addr}{x:Str},cs.length=xs.length->x∈xs -> ∃c,(xs.zip cs).lookup x=some c
 | [],_,_,_,h=>by simp at h
 | _::_,[],_,l,_=>by simp at l
 | y::xs,d::cs,x,l,h=>by
  rw[ab2,abn];cases hb:x == y with
  | true=>exact⟨d,rfl⟩
  | false =>
   rcases aaA.mp h with e|e
   ·rw[e]at hb;simp at hb
   ·exact vJ (by simpa using l) e
theorem za:∀{xs:List Str}{cs:List Addr}{i:Nat}{x:Str}{c:Addr},xs.Nodup->xs[i]?=some x->cs[i]?=some c->(xs.zip cs).lookup x=some c
 | [],_,_,_,_,_,h,_=>by simp at h
 | _::_,[],_,_,_,_,_,h=>by simp at h
 | y::xs,d::cs,0,x,c,_,h1,h2=>by
  simp at h1 h2;subst h1 h2;simp
 | y::xs,d::cs,i+1,x,c,nd,h1,h2=>by
  have h1':xs[i]?=some x:=by simpa using h1
  have hne:(x == y)=false:=by
   cases hb:x == y with
   | false=>rfl
   | true =>
    rw[eq_of_beq hb]at h1';exact absurd (aah h1') (aa4.mp nd).1
  rw[ab2,abn,hne];exact za (aa4.mp nd).2 h1' (by simpa using h2)
theorem lookup_mem:∀{l:List (Str×Value)} {y:Str}{u:Value},(l.map (·.1)).Nodup->(y,u)∈l->l.lookup y=some u
 | [],_,_,_,h=>by simp at h
 | (z,v)::l,y,u,nd,h=>by
  rw[aaz]at nd;rw[abn];rcases aaA.mp h with e|e
  ·cases e;simp
  ·cases hb:y == z with
   | true =>
    rw[eq_of_beq hb]at e;exact absurd (aaE.mpr ⟨_,e,rfl⟩) (aa4.mp nd).1
   | false=>exact lookup_mem (aa4.mp nd).2 e
theorem o5:∀(ps:List Str) (us:List Value),((ps.zip us).map (·.1)).Sublist ps
 | [],_=>by simp
 | _::_,[]=>by simp
 | p::ps,u::us=>by
  rw[ab2,aaz];exact(o5 ps us).cons₂ _
theorem zY{ps:List Str}{us:List Value}{i:Nat}{y:Str}{u:Value}(nd:ps.Nodup)(h1:ps[i]?=some y)(h2:us[i]?=some u):(ps.zip us).reverse.lookup y=some u:=by
 refine lookup_mem ?_ ?_
 ·rw[adV];refine ab7.mpr (List.Pairwise.imp (λh=>abg h) (show ((ps.zip us).map (·.1)).Nodup from nd.sublist (o5 ps us)))
 ·rw[abU];exact aah (i:=i) (by rw[List.getElem?_zip_eq_some];exact⟨h1,h2⟩)
section
variable{P:Program}{w:World}{K:PySem.W.Frag}{mg:Str->Option Value}{base:Heap}{A:Around}{outer:List Env}{s:Shared}{H:Hp}{f:Addr}{c:oH}{cs:List Addr}{K8 vs:List V}{us:List Value}{N:List Str}{k:Nat}{Q:VK}{E:XK}
theorem GK(S:pY N c)(hr:eY (k+1) A)(e0:yq P w K mg base A outer s H)(ca:cX H f c cs K8)(hb:∀(cl:List (Str×Addr)) (doc pm cd ctv:Value),BindsTo s (fnX c.name c.qual c.params c.body c.scope cl .none .none doc pm none cd ctv) ⟨us,[]⟩ (c.ps.zip us))(r:Vals vs us)(hl:vs.length=c.ps.length)
  (body:∀cd:Addr,eY k (A.deeper (envX c.qual c.scope s.heap.objs.size f (.ref cd) (c.xs.zip cs))) -> ∃t,Ma (oY P w K mg base N c.qual c.scope f (.ref cd) (c.xs.zip cs) A outer s (hide H cs)) c.body t/\t { nx:=λ_ H'=>Q .non (over H cs H'),rt:=λv H'=>Q v (over H cs H') } (start N (vs++K8)) (hide H cs)):
  codeAny (model P w) A (.call (.ref f) ⟨us,[]⟩) (CR K9 outer P w H s Q E) s:=by
 obtain⟨⟨cd,doc,pm,ctv,oc,ws,tk,h1,h2,h3,h4⟩,hc,nd,len,lenV⟩:=ca;have hx:∀a∈cs,∃o,H a=some (aQ a o):=λa ha=>by
  obtain⟨i,hi⟩:=aaL ha;obtain⟨co,v,u,_,e,_⟩:=hc i a hi;exact⟨co,e⟩
 have lim:s.heap.NoLimit:=e0.mod.nolimit.keeps λb o e=>(e0.bs b o e).1;have PK:c.ps.Nodup:=by
  have:c.ps.Sublist N:=by
   have h5:(c.ps++c.xs).Sublist N:=by rw[<-S.pre];exact abE _ _
   exact(acR _ _).trans h5
  exact S.nd.sublist this
 have Sy:c.xs.Nodup:=by
  have:c.xs.Sublist N:=by
   have h5:(c.ps++c.xs).Sublist N:=by rw[<-S.pre];exact abE _ _
   exact(acN _ _).trans h5
  exact S.nd.sublist this
 have hpl:c.ps.length+c.xs.length<=N.length:=by
  have:=congrArg abC S.pre;rw[aaC,aae]at this;lia
 refine codeAny_call_def (fd:=fnX c.name c.qual c.params c.body c.scope (c.xs.zip cs) .none .none doc pm none (.ref cd) ctv) (binds:=c.ps.zip us) hr.depth (cT e0.hok h1) rfl lim ⟨cd,oc,ws,tk,rfl,cT e0.hok h2,h3,h4⟩ rfl (hb _ _ _ _ _) S.ρ (λy hy=>S.Ob _ (ab3 hy).1) (λh0 hns hk=>?_) S.co S.gen S.kind;obtain⟨t,ht,hq⟩:=body cd (hr.deeper _);have hok0:=zL e0.hok hx;have I:Inv (oY P w K mg base N c.qual c.scope f (.ref cd) (c.xs.zip cs) A outer s (hide H cs)) [] (start N (vs++K8)) (hide H cs) { s with heap:=h0,toks:=s.toks+(c.ps.zip us).length }:=by
  refine⟨⟨e0.mod,S.kind,rfl,rfl,aad _,λy z b h5 h6=>?_,λy hy=>?_,λy b h5 _=>absurd h5 aat,λ_=>hr.hd,Around.frames_deeper e0.frames,.inr ⟨rfl,rfl⟩,λb z=>absurd (show b∈([]:List Addr)from z) (by simp),λb o e=>⟨(e0.bs b o e).1,?_⟩,e0.Mv,λb _ _ z=>absurd (show b∈([]:List Addr)from z) (by simp),λb z=>absurd (show b∈([]:List Addr)from z) (by simp),e0.funs,λb hb'=>?_⟩,
   rfl,e0.bare,Un.kept hk,⟨_,hns,λi y v h5 h6 h7=>?_⟩,λy b h5=>?_,hok0.fresh (aad _),λy b h5=>?_,λp hp=>absurd (show p∈([]:List (Addr×Obj))from hp) (by simp),hok0.kept hk,?_⟩
  ·obtain⟨i,i1,i2⟩:=cL h5;obtain⟨j,j1,j2⟩:=cL h6;have:=(adH (aab.mp i2).1 nd).mp (i2.trans j2.symm);subst this;exact aax (i1.symm.trans j1)
  ·have hy:c.scope.names.lookup y=some .cell\/c.scope.names.lookup y=some .free:=hy;rcases hy with hy|hy
   ·exact absurd rfl (S.ρ _ (PySem.mem_of_lookup hy))
   ·exact vJ len (S.fr _ (PySem.mem_of_lookup hy) rfl)
  ·have n:=(e0.bs b o e).2;show hide H cs b=none;rw[bw]
   ·exact n
   ·intro z;obtain⟨o',e'⟩:=hx b z;rw[n]at e';cases e'
  ·have n:=e0.Nf b hb';show hide H cs b=none;rw[bw]
   ·exact n
   ·intro z;obtain⟨o',e'⟩:=hx b z;rw[n]at e';cases e'
  ·have hi:i<(vs++K8).length:=by
    unfold start at h6;by_cases hi:i<(vs++K8).length
    ·exact hi
    ·rw[aap (by simpa using hi)]at h6;rw[aco]at h6;split at h6 <;> cases h6
   have ha:(vs++K8)[i]?=some v:=by
    unfold start at h6;rw[aar (by simpa using hi),aag]at h6;cases e:(vs++K8)[i]? with
    | none=>rw[e]at h6;cases h6
    | some a=>rw[e]at h6;cases h6;rfl
   rw[aae]at hi;have hp:(c.ps++c.xs)[i]?=some y:=by
    rw[<-S.pre,aa3 (by lia)];exact h5
   by_cases hi2:i<vs.length
   ·rw[aar hi2]at ha;rw[aar (by lia)]at hp;obtain⟨u,hu,rv⟩:=r.get ha;exact⟨u,rv,.inl ⟨S.Ob y (aah hp),zY PK hp hu⟩⟩
   ·rw[aap (by lia)]at ha;rw[aap (by lia),<-hl]at hp;have hj:i - vs.length<cs.length:=by
     have:=(aab.mp hp).1;lia
    obtain⟨b,Qx⟩:∃b,cs[i - vs.length]?=some b:=⟨_,aac hj⟩;obtain⟨co,v',u,q1,q2,q3,q4⟩:=hc _ b Qx;rw[ha]at q1;cases q1;have hfree:c.scope.names.lookup y=some .free:=by
     rcases h7 with q|q|q
     ·exact absurd q (S.Sx y (aah hp))
     ·exact absurd rfl (S.ρ _ (PySem.mem_of_lookup q))
     ·exact q
    exact⟨u,q4,.inr ⟨.inr hfree,b,za Sy hp Qx,co,hk _ _ (cT e0.hok q2),q3⟩⟩
  ·obtain⟨i,i1,i2⟩:=cL h5;obtain⟨co,v',u,q1,q2,q3,q4⟩:=hc _ b i2;exact⟨_,co,hk _ _ (cT e0.hok q2),q3⟩
  ·obtain⟨i,i1,i2⟩:=cL h5;exact kJ (aah i2)
  ·unfold start;show _=N.length;rw[aae,aaa,ab4,aae];lia
 have fin:∀{s':Shared}{σ':St}{H':Hp}{v:V}{u:Value},Inv (oY P w K mg base N c.qual c.scope f (.ref cd) (c.xs.zip cs) A outer s (hide H cs)) [] σ' H' s'->RelV v u->Q v (over H cs H')->CE outer P w H s Q u s':=λ{s' σ' H' v u} J rv q=>by
  obtain⟨k1,k2⟩:=zX e0.hok J.hok hx e0.Nf J.base;exact⟨v,over H cs H',J.os,J.bare,k2,k1,rv,q⟩
 refine wpAny_mono (ht [] _ (start N (vs++K8)) (hide H cs) _ I hq) (λfl s' hs=>?_) λe s' hs=>False.elim hs;cases fl with
 | ret u =>
  obtain⟨v,σ',H',J,rv,q⟩:=hs;exact fin J rv q
 | next =>
  obtain⟨σ',H',J,q⟩:=hs;exact fin (v:=V.non) (u:=Value.none) J rfl q
 | brk =>
  obtain⟨_,_,_,q⟩:=hs;exact False.elim q
 | cont =>
  obtain⟨_,_,_,q⟩:=hs;exact False.elim q
end
def o7(P:Program)(w:World)(K:PySem.W.Frag)(mg:Str->Option Value)(base:Heap)(k:Nat)(sp:Addr->Sp):Prop:=
 ∀(f:Addr) (A:Around) (outer:List Env) (s:Shared) (H:Hp) (us:List Value) (vs:List V) (Q:VK),eY k A->yq P w K mg base A outer s H->Vals vs us->sp f vs H Q E0 ->
  codeAny (model P w) A (.call (.ref f) ⟨us,[]⟩) (CR K9 outer P w H s Q E0) s
theorem o7.mono{P:Program}{w:World}{K:PySem.W.Frag}{mg:Str->Option Value}{base:Heap}{j k:Nat}{sp:Addr->Sp}(F:o7 P w K mg base j sp)(h:j<=k):o7 P w K mg base k sp:=
 λf A outer s H us vs Q hr=>F f A outer s H us vs Q (hr.mono h)
inductive HQ(i:Nat)(sp:Addr->Sp)(t:TA)(σ:St)(H:Hp)(Q:VK):Prop
 | mk (f o fd:_) (_:σ[i]?=some (some (.ref f))) (_:H f=some (aQ f o)) (_:o.data=.func fd) (_:t σ H λvs H1=>H1 f=some (aQ f o)/\sp f vs H1 Q E0)
section
variable{X:Cx}{k i:Nat}{x:Str}{p pos:Pos}{e:Expr}{es:List Expr}{t:TA}{sp:Addr->Sp}
theorem jy(C:o7 X.prog X.w X.K X.mg X.base k sp)(hr:eY k X.A)(hi:X.N[i]?=some x)(ha:PA X (e::es) t)(hv:Rg X.env.scope x:=by first|exact aai rfl|exact acJ (aai rfl) | exact acJ (acJ rfl))
  (hd:(x == ("__debug__" : Str))=false:=by decide)(hcd:(x == ("__classdict__" : Str))=false:=by decide)
  (he:starEach (e::es) X.env=(false,eval e X.env)::starEach es X.env:=by rfl)(hpl:(backTo pos (starEach es X.env)).any (·.1)=false:=by rfl):PE X (.Call (.Name x p) (e::es) [] pos) (HQ i sp t):=by
 intro π s σ H Q I h;obtain⟨f,o,fd,hs,hf,ho,h⟩:=h;refine wpAny_Call_Name_kw (K7 (yR hi hv hd hcd π s σ H (λv H'=>v=.ref f/\H'=H) I ⟨_,hs,rfl,rfl⟩) λu s1 hu=>?_);obtain⟨v,H1,I1,rv,rfl,rfl⟩:=hu;obtain rfl:u=Value.ref f:=rv;have fa:∀{H:Hp}{s:Shared},Inv X π σ H s->H f=some (aQ f o)->FnAt f s.heap:=λ{H s} J hf=>by
  obtain⟨oc,od,dt,sl⟩:=o;have ho:dt=.func fd:=ho;subst ho;exact⟨oc,od,fd,sl,cT J.hok hf⟩
 refine callWith_F (fa I1 hf) (K7 (ha pos π s1 σ H1 _ I1 h) λus s2 ⟨vs,H2,I2,r,hf2,q⟩=>⟨fa I2 hf2,?_⟩) he hpl;refine wpAny_call (codeAny_mono (C f X.A X.stack s2 H2 us vs Q hr I2.env0 r q) λr s' hq=>?_);cases r with
 | error e=>exact False.elim hq
 | ok fl =>
  cases fl with
  | ret u=>exact I2.after hq
  | next=>exact False.elim hq
  | brk=>exact False.elim hq
  | cont=>exact False.elim hq
end
def BMain(mg:Str->Option Value)(h:Heap):Prop:=∃bm ob,mg "__builtins__" = some (.ref bm)/\bm≠builtinsNs/\h.get? bm=some ob/\ob.cls=.type "module" /\ ob.dict=some builtinsNs/\ob.data=.plain
inductive TabAt(H:Hp)(P:Addr)(pos:Pos)(qual:Str):Prop
 | mk (ps:Array Value) (_:H P=some (.Ld ps)) (_:TriplesOk ps.toList) (_:(codeAmong pos ps.toList=none \/ ∃(cd:Addr) (oc:Obj) (vs:Array Value) (t:Tok),codeAmong pos ps.toList=some (.ref cd)/\H cd=some (aQ cd oc)/\oc.data=.fields vs/\vs[1]?=some (.str qual t)))
section
variable{X:Cx}{π:List (Addr×Obj)}{σ:St}{H:Hp}{s:Shared}{c P:Addr}{name qual:Str}{params:Arguments}{body:List Stmt}{scope:Scope}{clos:List (Str×Addr)}{pos:Pos}{n:Nat}
theorem Gr{M:Model}{A:Around}{E:Value->Shared->Prop}{Q:Value->Shared->Prop}(I:Inv X π σ H s)(bm:BMain X.mg X.base)(hcode:X.env.code=.ref c)(C:CodeHd X.base c P)(hT:TabAt H P pos qual)(hcl:closureFor scope X.env=pure clos)
  (h:∀(fi cd:Addr) (doc pm ctv:Value) (oc:Obj) (vs:Array Value) (t:Tok) (H1:Hp) (s1:Shared),Inv X π σ H1 s1->H fi=none->(∀b o,H b=some o->b≠P->H1 b=some o)->TabAt H1 P pos qual ->
   H1 fi=some (aQ fi (fnMade name qual params body scope clos doc pm cd ctv))->H1 cd=some (aQ cd oc)->oc.data=.fields vs->vs[1]?=some (.str qual t)->Q (.ref fi) s1):
  wpAny M A (makeFunction name qual params (.stmts body) scope X.env [] [] [] pos n) Q E s:=by
 obtain⟨ps,hP,htr,hcase⟩:=hT;have hPs:s.heap.get? P=some (tabObj ps):=I.hok P _ hP;have G:=I.mod.glob.keeps I.bk;obtain⟨bm,ob,b1,b2,b3,b4,b5,b6⟩:=bm;have Nv:=I.bk _ _ b3;have hgP:mainGlobals≠P:=λq=>by
  obtain⟨o,es,ep,e,hd,_⟩:=G;rw[q,hPs]at e;cases e;cases hd
 have hbP:bm≠P:=λq=>by
  rw[q,hPs]at Nv;cases Nv;cases b4
 have hbG:bm≠mainGlobals:=λq=>by
  obtain⟨o,es,ep,e,hd,_⟩:=G;rw[q,e]at Nv;cases Nv;rw[hd]at b6;cases b6
 have Qy:s.heap.BuiltinsAt X.mg P:=⟨bm,ob,b1,b2,hbG,hbP,Nv,b4,b5,b6⟩;rcases hcase with hnf|⟨cd,oc,vs,t,hf,hcd,hd,hv⟩
 ·refine makeFunction_K (mg:=X.mg) hcl I.ok.glob G hcode (C.keeps I.bk) hPs htr hnf hgP Qy λc' ctv doc h' tk hx hge hlt hrec htb=>?_;obtain⟨c2,oc,vs,t,e2,hoc,hd,hv⟩:=hrec;cases e2;have nc:H c'=none:=I.hok.fresh hge;have nf:H h'.objs.size=none:=I.hok.fresh (aaS hge (aba hlt));have SJ:P≠c':=aB hP nc;have SM:P≠h'.objs.size:=aB hP nf;have SN:c'≠h'.objs.size:=aak hlt
  have k1:∀b,b≠P->b≠c'->b≠h'.objs.size->upd (upd (upd H P (.Ld (ps ++ #[rawInt pos.line,rawInt pos.col,.ref c']))) c' (aQ c' oc)) h'.objs.size (aQ h'.objs.size (fnMade name qual params body scope clos doc ((X.mg "__name__").getD .none) c' ctv)) b=H b:=λb e1 e2 e3=>by
   rw[aD e3,aD e2,aD e1]
  have kS:∀b o,H b=some o->b≠P->upd (upd (upd H P (.Ld (ps ++ #[rawInt pos.line,rawInt pos.col,.ref c']))) c' (aQ c' oc)) h'.objs.size (aQ h'.objs.size (fnMade name qual params body scope clos doc ((X.mg "__name__").getD .none) c' ctv)) b=some o:=λb o e n=>by
   rw[k1 b n (aB e nc) (aB e nf)];exact e
  have kP:upd (upd (upd H P (.Ld (ps ++ #[rawInt pos.line,rawInt pos.col,.ref c']))) c' (aQ c' oc)) h'.objs.size (aQ h'.objs.size (fnMade name qual params body scope clos doc ((X.mg "__name__").getD .none) c' ctv)) P=some (.Ld (ps ++ #[rawInt pos.line,rawInt pos.col,.ref c'])):=by
   rw[aD SM,aD SJ,aq]
  have kc:upd (upd (upd H P (.Ld (ps ++ #[rawInt pos.line,rawInt pos.col,.ref c']))) c' (aQ c' oc)) h'.objs.size (aQ h'.objs.size (fnMade name qual params body scope clos doc ((X.mg "__name__").getD .none) c' ctv)) c'=some (aQ c' oc):=by
   rw[aD SN,aq]
  have kf:upd (upd (upd H P (.Ld (ps ++ #[rawInt pos.line,rawInt pos.col,.ref c']))) c' (aQ c' oc)) h'.objs.size (aQ h'.objs.size (fnMade name qual params body scope clos doc ((X.mg "__name__").getD .none) c' ctv)) h'.objs.size=some (aQ h'.objs.size (fnMade name qual params body scope clos doc ((X.mg "__name__").getD .none) c' ctv)):=aq
  generalize upd (upd (upd H P (.Ld (ps ++ #[rawInt pos.line,rawInt pos.col,.ref c']))) c' (aQ c' oc)) h'.objs.size (aQ h'.objs.size (fnMade name qual params body scope clos doc ((X.mg "__name__").getD .none) c' ctv))=H1 at *
  have old:∀b o,s.heap.get? b=some o->b≠P->(h'.push (fnMade name qual params body scope clos doc ((X.mg "__name__").getD .none) c' ctv)).get? b=some o:=λb o e n=>Heap.get?_push_of_some _ (hx b o n e)
  have tabP:(h'.push (fnMade name qual params body scope clos doc ((X.mg "__name__").getD .none) c' ctv)).get? P=some (tabObj (ps ++ #[rawInt pos.line,rawInt pos.col,.ref c'])):=Heap.get?_push_of_some _ htb
  have hl:(ps ++ #[rawInt pos.line,rawInt pos.col,.ref c']).toList=ps.toList++[rawInt pos.line,rawInt pos.col,.ref c']:=by simp
  refine h h'.objs.size c' doc _ ctv oc vs t H1 _ (I.call' (ch:=[]) rfl ⟨λb o e n hb hx'=>?_,λb o e n hb hx'=>?_,λb o e n hx'=>?_,λb o e hx'=>?_,λb xs e=>?_,λb o u e=>?_,λb qs e=>?_⟩ (λb u e=>?_) I.bare λb z=>absurd z (by simp)) nf kS ⟨_,kP,by rw[hl];exact TriplesOk_snoc _ _ _ _ htr,.inr ⟨c',oc,vs,t,by rw[hl];exact codeAmong_snoc _ htr hnf,kc,hd,hv⟩⟩ kf kc hd hv
  ·exact old b o e λz=>by rw[z,hP]at n;cases n
  ·exact⟨o.slots,old b o e λz=>by rw[z,hP]at n;cases n⟩
  ·rw[k1 b (λz=>by rw[z,hP]at n;cases n) (aak (aaf (Heap.lt_size e) hge)) (aak (aaf (Heap.lt_size e) (aaS hge (aba hlt))))];exact n
  ·by_cases z:b=P
   ·exact⟨_,by rw[z];exact tabP⟩
   ·exact⟨o,old b o e z⟩
  ·exact kS b _ e λz=>by rw[z,hP]at e;cases e
  ·exact kS b _ e λz=>by rw[z,hP]at e;cases e
  ·by_cases z:b=P
   ·rw[z,hP]at e;cases e;exact⟨_,by rw[z];exact kP⟩
   ·exact⟨#[],by rw[kS b _ e z];simp⟩
  ·by_cases z1:b=h'.objs.size
   ·rw[z1,kf]at e;cases e;rw[z1];exact eG (Heap.get?_push_size _ rfl)
   by_cases z2:b=c'
   ·rw[z2,kc]at e;cases e;rw[z2];exact eG (Heap.get?_push_of_some _ hoc)
   by_cases z3:b=P
   ·rw[z3,kP]at e;cases e;rw[z3];exact tabP
   rw[k1 b z3 z2 z1]at e;refine(I.hok b u e).stay (λd o hd' q=>old d o q ?_) (λd q=>kS d _ q ?_) λd xs q=>kS d _ q ?_
   ·rcases hd' with rfl|hd'
    ·exact z3
    ·exact λz=>by rw[z,hP]at hd';cases hd'
   ·exact λz=>by rw[z,hP]at q;cases q
   ·exact λz=>by rw[z,hP]at q;cases q
 ·refine makeFunction_hit (mg:=X.mg) hcl I.ok.glob G hcode (C.keeps I.bk) hPs htr hf Qy λctv doc h' tk hk hsz=>?_;have nf:H h'.objs.size=none:=I.hok.fresh hsz
  have kS:∀b o,H b=some o->upd H h'.objs.size (aQ h'.objs.size (fnMade name qual params body scope clos doc ((X.mg "__name__").getD .none) cd ctv)) b=some o:=λb o e=>by
   rw[aD (aB e nf)];exact e
  have old:∀b o,s.heap.get? b=some o->(h'.push (fnMade name qual params body scope clos doc ((X.mg "__name__").getD .none) cd ctv)).get? b=some o:=λb o e=>Heap.get?_push_of_some _ (hk b o e)
  refine h h'.objs.size cd doc _ ctv oc vs t _ _ (I.call' (ch:=[]) rfl (Un.laid old hsz nf) (λb u e=>?_) I.bare λb z=>absurd z (by simp)) nf (λb o e _=>kS b o e) ⟨ps,kS _ _ hP,htr,.inr ⟨cd,oc,vs,t,hf,kS _ _ hcd,hd,hv⟩⟩ aq (kS _ _ hcd) hd hv;by_cases z1:b=h'.objs.size
  ·rw[z1,aq]at e;cases e;rw[z1];exact eG (Heap.get?_push_size _ rfl)
  rw[aD z1]at e;exact(I.hok b u e).stay (λd o _ q=>old d o q) (λd q=>kS d _ q) λd xs q=>kS d _ q
end
section
variable{CX:Mx}{P:Program}{w:World}{K:PySem.W.Frag}{mg:Str->Option Value}{base:Heap}{N:List Str}{qual:Str}{scope:Scope}{f c Pt:Addr}{A:Around}{outer:List Env}{s0 s:Shared}{H0 H:Hp}{E:XK}{σ:St}{Q:VK}
theorem Ga{T:oH}{cs:List Addr}{K8:List V}{pos p1 p2:Pos}{i:Nat}(I:Inv (gU CX P w K mg base N qual scope f (.ref c) A outer s0 H0 E) [] σ H s)(bm:BMain mg base)(C:CodeHd base c Pt)(hT:TabAt H Pt pos T.qual)
  (hnd:N.Nodup)(hi:N[i]?=some T.name)(hloc:scope.names.lookup T.name=some .local)(hq:qualnameIn (envOfC qual scope s0.heap.objs.size f (.ref c)) T.name T.name=T.qual)
  (hcl:closureFor T.scope (envOfC qual scope s0.heap.objs.size f (.ref c))=pure (T.xs.zip cs))(hd0:T.params.defaults=[])(hk0:T.params.kw_defaults=[])(ha:annTrees T.params none (envOfC qual scope s0.heap.objs.size f (.ref c))=[])
  (hndC:cs.Nodup)(hlen:cs.length=T.xs.length)(hlenV:K8.length=T.xs.length)
  (Qz:∀(j:Nat) (a:Addr),cs[j]?=some a -> ∃(x:Str) (m:Nat) (v:V),(envOfC qual scope s0.heap.objs.size f (.ref c)).cells.lookup x=some a/\scope.names.lookup x=some .cell/\N[m]?=some x/\σ[m]?=some (some v)/\K8[j]?=some v/\m≠i)
  (hQ:∀(fi:Addr) (H2:Hp),H fi=none->(∀a∈cs,H a=none)->(∀b o,H b=some o->b≠Pt->H2 b=some o)->TabAt H2 Pt pos T.qual->cX H2 fi T cs K8->Q (.ref fi) H2)
  (hdb:(T.name == ("__debug__" : Str))=false:=by decide)(hcdn:(T.name == ("__classdict__" : Str))=false:=by decide):
  wpAny (model P w) (A.deeper (envOfC qual scope s0.heap.objs.size f (.ref c))) (execs [.FunctionDef T.name T.params T.body [] none [] T.scope none T.name pos,.Return (some (.Name T.name p1)) p2] (envOfC qual scope s0.heap.objs.size f (.ref c)))
   (λfl s'=>∃u,fl=.ret u/\CE outer P w H0 s0 Q u s') (gU CX P w K mg base N qual scope f (.ref c) A outer s0 H0 E).xe s:=by
 refine wpAny_execs_cons (nestDef_K hd0 hk0 ha ?_);rw[hq];refine Gr (X:=gU CX P w K mg base N qual scope f (.ref c) A outer s0 H0 E) (n:=pos.line) I bm rfl C hT hcl λfi cd doc pm ctv oc vs t H1 s1 I1 SX keep hT1 hf1 hc1 hd hv=>?_;refine jL (X:=gU CX P w K mg base N qual scope f (.ref c) A outer s0 H0 E) (v:=.ref fi) I1 hnd hi (.inl hloc) rfl (λs2 I2=>?_) (.inr hloc);have Ri:i<σ.length:=by rw[I.len];exact(aab.mp hi).1
 refine wpAny_execs_cons (wpAny_Return_some (K7 (yR (X:=gU CX P w K mg base N qual scope f (.ref c) A outer s0 H0 E) hi (.inl hloc) hdb hcdn [] s2 _ H1 (λv H'=>v=.ref fi/\H'=H1) I2 ⟨_,acq Ri,rfl,rfl⟩) λu s3 hu=>?_));obtain⟨v,H',J,rv,rfl,rfl⟩:=hu;refine⟨u,rfl,.ref fi,λb=>if b∈cs then (s3.heap.get? b).map (aQ b)else H' b,J.os,J.bare,?_,?_,rv,?_⟩
 all_goals
  have cellsOf:∀a∈cs,∃x,(envOfC qual scope s0.heap.objs.size f (.ref c)).cells.lookup x=some a:=λa ha'=>by
   obtain⟨j,hj⟩:=aaL ha';obtain⟨x,m,v,h1,_⟩:=Qz j a hj;exact⟨x,h1⟩
  have fresh:∀a∈cs,s0.heap.objs.size<=a:=λa ha'=>by
   obtain⟨x,hx⟩:=cellsOf a ha';exact J.ok.cab x a rfl hx
  have gone:∀a∈cs,H' a=none:=λa ha'=>by
   obtain⟨x,hx⟩:=cellsOf a ha';exact J.freeC x a hx
  have out:∀b o,H' b=some o->b∉cs:=λb o e z=>by
   rw[gone b z]at e;cases e
 ·have U:Un (frs outer) [] H0 H' s0.heap s3.heap:=J.base;refine⟨U.keep,U.slot,λb o e n hx'=>?_,U.there,λb xs e=>?_,λb o v e=>?_,λb ps e=>?_⟩
  ·show (if b∈cs then _ else H' b)=none;rw[if_neg (λz=>absurd (aaf (Heap.lt_size e) (fresh b z)) (aaZ _))];exact U.free b o e n hx'
  ·have e1:=U.tups b xs e;show (if b∈cs then _ else H' b)=_;rw[if_neg (out b _ e1)];exact e1
  ·have e1:=U.frzs b o v e;show (if b∈cs then _ else H' b)=_;rw[if_neg (out b _ e1)];exact e1
  ·obtain⟨more,e1⟩:=U.tbls b ps e;refine⟨more,?_⟩;show (if b∈cs then _ else H' b)=_;rw[if_neg (out b _ e1)];exact e1
 ·intro b u' e;have e:(if b∈cs then (s3.heap.get? b).map (aQ b)else H' b)=some u':=e;by_cases hb:b∈cs
  ·rw[if_pos hb]at e;cases q:s3.heap.get? b with
   | none=>rw[q]at e;cases e
   | some o =>
    rw[q]at e;cases e;exact eG q
  ·rw[if_neg hb]at e;refine(J.hok b u' e).stay (λ_ _ _ q=>q) (λd q=>?_) λd xs q=>?_
   ·show (if d∈cs then _ else H' d)=_;rw[if_neg (out d _ q)];exact q
   ·show (if d∈cs then _ else H' d)=_;rw[if_neg (out d _ q)];exact q
 ·have kp:∀b o,H' b=some o->(λb=>if b∈cs then (s3.heap.get? b).map (aQ b)else H' b) b=some o:=λb o e=>by
   show (if b∈cs then _ else H' b)=_;rw[if_neg (out b _ e)];exact e
  refine hQ fi _ SX (λa ha'=>?_) (λb o e n=>kp b o (keep b o e n)) ?_ ⟨⟨cd,doc,pm,ctv,oc,vs,t,kp _ _ hf1,kp _ _ hc1,hd,hv⟩,λj a hj=>?_,hndC,hlen,hlenV⟩
  ·obtain⟨x,hx⟩:=cellsOf a ha';exact I.freeC x a hx
  ·obtain⟨ps,e1,e2,e3⟩:=hT1;refine⟨ps,kp _ _ e1,e2,?_⟩;rcases e3 with e3|⟨cd',oc',vs',t',e4,e5,e6⟩
   ·exact .inl e3
   ·exact .inr ⟨cd',oc',vs',t',e4,kp _ _ e5,e6⟩
  ·obtain⟨x,m,v,h1,h2,h3,h4,h5,h6⟩:=Qz j a hj;obtain⟨mm,_,hl⟩:=J.loc;obtain⟨u',r',l⟩:=hl m x v h3 (by rw[acx (abg h6)];exact h4) (.inr (.inl h2));have l':∃c',(envOfC qual scope s0.heap.objs.size f (.ref c)).cells.lookup x=some c'/\s3.heap.IsCell c' (some u'):=by
    rcases l with ⟨l1,_⟩|⟨_,l2⟩
    ·have l1:scope.names.lookup x=some .local:=l1;rw[h2]at l1;cases l1
    ·exact l2
   obtain⟨c',l1,co,l2,l3⟩:=l';rw[h1]at l1;cases l1;refine⟨co,v,u',h5,?_,l3,r'⟩;show (if a∈cs then (s3.heap.get? a).map (aQ a)else H' a)=_;rw[if_pos (aah hj),l2];rfl
theorem DR{k:Nat}{name:Str}{params:Arguments}{body:List Stmt}{dV kV doc pm cdv ct oc:Value}{an od:Option Addr}{osl:Array (Option Value)}{ps:List Str}{sp:Sp}(lk:K.lookup f=some ⟨oc,od,.func (PySem.W.fnOf name qual params body scope dV kV doc pm an cdv ct),osl⟩)(hcd:PySem.W.codeIn K cdv qual=true)(S:aK N ps scope)
  (len:∀vs H Q E,sp vs H Q E->vs.length=ps.length)
  (hbody:∀(A:Around) (outer:List Env) (s:Shared) (H:Hp) (vs:List V) (Q:VK) (E:XK) (s1:Shared),eY k (A.deeper (envOfC qual scope s.heap.objs.size f cdv))->sp vs H Q E->Inv (gU K9 P w K mg base N qual scope f cdv A outer s H E) [] (start N vs) H s1 ->
   wpAny (model P w) (A.deeper (envOfC qual scope s.heap.objs.size f cdv)) (execs body (envOfC qual scope s.heap.objs.size f cdv)) (λfl s'=>∃u,fl=.ret u/\CE outer P w H s Q u s') (gU K9 P w K mg base N qual scope f cdv A outer s H E).xe s1):
  bh P w K mg base K9 (k+1) f (PySem.W.fnOf name qual params body scope dV kV doc pm an cdv ct) ps sp:=by
 refine⟨len,λA outer s H args us vs Q E hr e0 hb r hsp=>?_⟩;have hl:=len _ _ _ _ hsp;have KX:K.In s.heap:=e0.mod.Qp.keeps λb o e=>(e0.bs b o e).1;have lim:s.heap.NoLimit:=e0.mod.nolimit.keeps λb o e=>(e0.bs b o e).1;have hkind:∀y∈ps.zip us,scope.names.lookup y.1=some .local\/(scope.names.lookup y.1=some .cell/\((cellsFrom (s.heap.objs.size+1) scope.names []).lookup y.1).isSome=true):=λ⟨n,v⟩ hy=>by
  rcases S.Ob n (ab3 hy).1 with q|q
  ·exact .inl q
  ·exact .inr ⟨q,PySem.W.cellsFrom_some _ _ _ (.inl q)⟩
 refine codeAny_call_function hr.depth (KX _ _ lk) rfl S.co S.gen rfl (PySem.W.codeRec_of KX hcd) (hb _ _ _ _ ?_);refine wpAny_newFunctionEnv_cells S.kind hkind λenv he s1 x=>?_;subst he;refine⟨lim.keeps x.toInCall.keep,codeAny_func ?_⟩;have I:Inv (gU K9 P w K mg base N qual scope f cdv A outer s H E) [] (start N vs) H s1:=t7 S hr.hd e0 hl r x;refine wpAny_mono (hbody A outer s H vs Q E s1 (hr.deeper _) hsp I) (λfl s' hs=>?_) λe s' hs=>hs;obtain⟨u,rfl,q⟩:=hs;exact q
end
theorem Bh{P:Program}{w:World}{K:PySem.W.Frag}{mg mb:Str->Option Value}{k:Nat}{fa a:Addr}{fd:FuncData}{x:Str}{sp:Sp}{s₁:Shared}{vs:List Value}{ns:List Int}{tabs:List (Addr×Addr)}
  (KX:K.In s₁.heap)(hns:s₁.heap.Ns mainGlobals mg)(hb:s₁.heap.Ns builtinsNs mb)(hbb:∀x:Str,x ≠ "__name__" -> mb x=bootBuiltins x)(hlim:s₁.heap.NoLimit)(hbm:BMain mg s₁.heap)(hT:TabsAt tabs s₁.heap)(S5:noTabs K=true)(hg:s₁.gens=#[])
  (ha:s₁.heap.get? a=some { cls:=.type "list",data:=.seq vs.toArray })(hi:IntsAre vs ns)(hl:ns.length<=sizeLine)(hr:eY k callerA)
  (F:∀base:Heap,K.In base->base.Ns mainGlobals mg->BMain mg base->(∀q∈tabs,CodeHd base q.1 q.2)->bh P w K mg base K9 k fa fd [x] sp)(hbind:∀(s:Shared) (u:Value),BindsTo s fd ⟨[u],[]⟩ [(x,u)])
  (hsp:∀H:Hp,K5 K H a (ns.map V.int)->(∀q∈tabs,H q.2=some (.Ld #[]))->sp [.ref a] H (λv _=>v=.bl true) λ_ _ _=>False):
  codeAny (model P w) callerA (.call (.ref fa) ⟨[.ref a],[]⟩) (λr s'=>r=.ok (.ret (.bool true))/\OldK s₁.heap s'.heap/\s'.os=s₁.os/\AllBare s'.gens) s₁:=by
 have rv:=j9 hi;have lenV:=hi.length;have tabNoK:∀b,b∈tabs.map (·.2)->K.lookup b=none:=λb hb'=>by
  cases q:K.lookup b with
  | none=>rfl
  | some o =>
   obtain⟨r,hr',rfl⟩:=aaE.mp hb';have e:=KX _ _ q;rw[(hT r hr').2]at e;cases e;have h2:=List.all_eq_true.mp S5 _ (mem_of_lookupK q);exact absurd (show false=true from h2) aat
 have aNoT:a∉tabs.map (·.2):=λz=>by
  obtain⟨r,hr',e⟩:=aaE.mp z;have e2:=(hT r hr').2;rw[e,ha]at e2;cases e2
 have core:∀H:Hp,(∀b,H b=none\/(b=a/\K.lookup a=none/\H b=some (.Mi { cls:=.type "list",data:=.seq vs.toArray } (.lst (ns.map V.int))))\/(b∈tabs.map (·.2)/\H b=some (.Ld #[])))->(∀q∈tabs,H q.2=some (.Ld #[]))->K5 K H a (ns.map V.int)->Lf P w H s₁.heap ->
   codeAny (model P w) callerA (.call (.ref fa) ⟨[.ref a],[]⟩) (λr s'=>r=.ok (.ret (.bool true))/\OldK s₁.heap s'.heap/\s'.os=s₁.os/\AllBare s'.gens) s₁:=by
  intro H hO hTb hS hok;have base_of:∀{b:Addr}{o:Obj},s₁.heap.get? b=some o->H b=none->(qF s₁.heap H).get? b=some o:=λe n=>CV e n
  have PJ:∀{b:Addr}{o:Obj},s₁.heap.get? b=some o->o.cls ≠ .type "list" -> o.cls ≠ .none->H b=none:=λ{b o} e d1 d2=>by
   rcases hO b with z|⟨rfl,_,z⟩|⟨z,_⟩
   ·exact z
   ·rw[ha]at e;cases e;exact absurd rfl d1
   ·obtain⟨r,hr',rfl⟩:=aaE.mp z;rw[(hT r hr').2]at e;cases e;exact absurd rfl d2
  have Z5:∀{b:Addr}{o:Obj}{es:Array DictEntry}{ep:Nat},s₁.heap.get? b=some o->o.data=.dict es ep->H b=none:=λ{b o es ep} e d=>by
   rcases hO b with z|⟨rfl,_,z⟩|⟨z,_⟩
   ·exact z
   ·rw[ha]at e;cases e;have d':Data.seq vs.toArray _=Data.dict es ep:=d;cases d'
   ·obtain⟨r,hr',rfl⟩:=aaE.mp z;rw[(hT r hr').2]at e;cases e;have d':Data.fields _=Data.dict es ep:=d;cases d'
  have Rq:∀{b:Addr}{m:Str->Option Value},s₁.heap.Ns b m->(qF s₁.heap H).Ns b m:=λ{b m} ⟨o,es,ep,e,d,r⟩=>⟨o,es,ep,base_of e (Z5 e d),d,r⟩;have Vu:K.In (qF s₁.heap H):=λb o e=>base_of (KX b o e) (by
   rcases hO b with z|⟨rfl,z,_⟩|⟨z,_⟩
   ·exact z
   ·rw[e]at z;cases z
   ·rw[tabNoK b z]at e;cases e)
  have hM:Mod K mg (qF s₁.heap H):=⟨Vu,Rq hns,⟨mb,Rq hb,hbb⟩,let ⟨mc,h1,h2⟩:=hlim;⟨mc,Rq h1,h2⟩⟩;have hB:BMain mg (qF s₁.heap H):=by
   obtain⟨bm,ob,b1,b2,b3,b4,b5⟩:=hbm;exact⟨bm,ob,b1,b2,base_of b3 (PJ b3 (by rw[b4];decide) (by rw[b4];nofun)),b4,b5⟩
  have hC:∀q∈tabs,CodeHd (qF s₁.heap H) q.1 q.2:=λq hq=>by
   obtain⟨o,ws,file,tf,flags,tg,inF,text,tt,e1,r1,r2⟩:=(hT q hq).1;exact⟨o,ws,file,tf,flags,tg,inF,text,tt,base_of e1 (PJ e1 (by rw[r1];decide) (by rw[r1];nofun)),r1,r2⟩
  have e0:yq P w K mg (qF s₁.heap H) callerA [] s₁ H:=⟨rfl,hM,λb o e=>Gk e,ac8 (Cz _ _),trivial,λb hb=>absurd (show b∈([]:List Addr)from hb) (by simp),hok,.of_eq hg⟩;refine codeAny_mono ((F _ Vu (Rq hns) hB hC).run callerA [] s₁ H ⟨[.ref a],[]⟩ [.ref a] [.ref a] _ _ hr e0 (hbind s₁ (.ref a)) (.cons rfl .nil) (hsp H hS hTb)) λr s' h=>?_;cases r with
  | error e=>exact False.elim h
  | ok fl =>
   cases fl with
   | next=>exact False.elim h
   | brk=>exact False.elim h
   | cont=>exact False.elim h
   | ret u =>
    obtain⟨v,H',os,bare,un,hok',r',q⟩:=h;have q':v=.bl true:=q;subst q';obtain rfl:u=Value.bool true:=r';refine⟨rfl,⟨λb o e=>?_,λb o e=>un.there b o e (by simp)⟩,os,bare⟩;rcases hO b with z|⟨rfl,_,z⟩|⟨z1,z⟩
    ·exact .inl (un.keep b o e z (by intro z;exact absurd (show b∈([]:List Addr)from z) (by simp)) (by simp))
    ·have z2:=un.frzs b _ _ z;obtain⟨e1,_⟩:=hok b _ z;obtain⟨e2,_⟩:=hok' b _ z2;rw[e]at e1;cases e1;exact .inl e2
    ·obtain⟨more,z2⟩:=un.tbls b _ z;have e1:s'.heap.get? b=some { cls:=.none,data:=.fields (#[]++more) }:=hok' b _ z2;obtain⟨r,hr',rfl⟩:=aaE.mp z1;have e2:=(hT r hr').2;rw[e]at e2;cases e2;exact .inr (.inl ⟨((hT r hr').1.tab (hT r hr').2).isCodeTable,rfl,#[],more,rfl,e1⟩)
 cases hk:K.lookup a with
 | some o =>
  have e:=KX a o hk;rw[ha]at e;cases e;refine core (λb=>if b∈tabs.map (·.2)then some (.Ld #[])else none) (λb=>?_) (λq hq=>if_pos (abQ hq)) (.inr ⟨_,vs.toArray,_,hk,rfl,rfl,rfl,by rw[aao,lenV];exact hl,by simpa using rv⟩) (λb u z=>?_)
  ·by_cases hb':b∈tabs.map (·.2)
   ·exact .inr (.inr ⟨hb',if_pos hb'⟩)
   ·exact .inl (if_neg hb')
  ·by_cases hb':b∈tabs.map (·.2)
   ·have z':=(if_pos hb').symm.trans z;cases z';obtain⟨r,hr',rfl⟩:=aaE.mp hb';exact(hT r hr').2
   ·have z':=(if_neg hb').symm.trans z;cases z'
 | none =>
  have hA:(λb=>if b=a then some (.Mi { cls:=.type "list",data:=.seq vs.toArray } (.lst (ns.map V.int)))else if b∈tabs.map (·.2)then some (.Ld #[])else none:Hp) a=some (.Mi { cls:=.type "list",data:=.seq vs.toArray } (.lst (ns.map V.int))):=if_pos rfl
  have QB:∀b∈tabs.map (·.2),(λb=>if b=a then some (.Mi { cls:=.type "list",data:=.seq vs.toArray } (.lst (ns.map V.int)))else if b∈tabs.map (·.2)then some (.Ld #[])else none:Hp) b=some (.Ld #[]):=λb hb'=>by
   have hne:b≠a:=λe=>aNoT (e ▸ hb');show (if b=a then _ else if b∈tabs.map (·.2)then _ else _)=_;rw[if_neg hne,if_pos hb']
  have hN:∀b,b≠a->b∉tabs.map (·.2)->(λb=>if b=a then some (.Mi { cls:=.type "list",data:=.seq vs.toArray } (.lst (ns.map V.int)))else if b∈tabs.map (·.2)then some (.Ld #[])else none:Hp) b=none:=λb h1 h2=>by
   show (if b=a then _ else if b∈tabs.map (·.2)then _ else _)=_;rw[if_neg h1,if_neg h2]
  generalize (λb=>if b=a then some (.Mi { cls:=.type "list",data:=.seq vs.toArray } (.lst (ns.map V.int)))else if b∈tabs.map (·.2)then some (.Ld #[])else none:Hp)=H at *
  refine core H (λb=>?_) (λq hq=>QB _ (abQ hq)) (.inl (.inr ⟨{ cls:=.type "list",data:=.seq vs.toArray },hA⟩)) (λb u z=>?_)
  ·by_cases h1:b=a
   ·rw[h1];exact .inr (.inl ⟨rfl,hk,hA⟩)
   ·by_cases h2:b∈tabs.map (·.2)
    ·exact .inr (.inr ⟨h2,QB b h2⟩)
    ·exact .inl (hN b h1 h2)
  ·by_cases h1:b=a
   ·rw[h1,hA]at z;cases z;rw[h1];exact⟨ha,by rw[aaa];exact hl,vs,_,rv,ha⟩
   ·by_cases h2:b∈tabs.map (·.2)
    ·rw[QB b h2]at z;cases z;obtain⟨r,hr',rfl⟩:=aaE.mp h2;exact(hT r hr').2
    ·rw[hN b h1 h2]at z;cases z
theorem Er{l:PySem.W.OpenLaw}{n k:Nat}{q:Program}{loose:List Str}{XP:(Str->Option Value)->Heap->Prop}{YP:World->Heap->Prop}{d:DefRec}{K:Params->PySem.W.Frag}{x:Str}
  (hn:l.most=some n)(hn2:n<=sizeLine)(hdf:d.params.defaults=[])(hr:eY k callerA)
  (hY:∀(w:World) (h:Heap),YP w h->(K w.params).In h)
  (F:∀(w:World) (mg mb:Str->Option Value) (mean:ExcName->Option Value) (fa:Addr) (h:Heap),(K w.params).In h->Top q (looseW q loose) mean mg mb h->mg d.name=some (.ref fa) ->
   ∃(fd:FuncData) (tabs:List (Addr×Addr)) (sp:Sp),(∀(s:Shared) (u:Value),BindsTo s fd ⟨[u],[]⟩ [(x,u)])/\TabsAt tabs h/\noTabs (K w.params)=true /\
    (∀base:Heap,(K w.params).In base->base.Ns mainGlobals mg->BMain mg base->(∀q∈tabs,CodeHd base q.1 q.2)->bh l.prog w (K w.params) mg base K9 k fa fd [x] sp) /\
    ∀(H:Hp) (a:Addr) (ns:List Int),ns.length<=n->K5 (K w.params) H a (ns.map V.int)->(∀q∈tabs,H q.2=some (.Ld #[]))->sp [.ref a] H (λv _=>v=.bl true) λ_ _ _=>False):
  PySem.W.WalkO q loose XP YP l.row.toRowW d [] (λf vs=>PySem.call f vs):=by
 refine Rn.attach_call hn hdf λw s₀ s₁ mg mb fa o pm cd doc a vs ns G Y ho hd hcd hmg hobj hints hlen hg=>?_;have KX:=hY w _ Y;obtain⟨fd,tabs,sp,hb,hT,S5,hF,hsp⟩:=F w mg mb _ fa _ KX G.T hmg;exact Bh KX G.T.g G.T.b G.T.builtins G.T.nolimit G.T.bmain hT S5 hg hobj hints (aaS hlen hn2) hr hF hb λH hS hTb=>hsp H a ns hlen hS hTb
def JB(st:Stmt)(qual:Str)(ps xs:List Str):oH:=match st with
 | .FunctionDef n a b _ _ _ sc _ _ _=>⟨n,qual,a,b,sc,ps,xs⟩
 | _=>⟨"",qual,ν st,[],δ st,ps,xs⟩
def tG:Stmt->Pos
 | .FunctionDef _ _ _ _ _ _ _ _ _ p=>p
 | _=>⟨0,0,0,0⟩
structure Hu(N:List Str)(qual:Str)(scope:Scope)(T:oH)(i:Nat)(slots:List Nat)(Mt:Addr->List Addr):Prop where
 nd:N.Nodup
 hi:N[i]?=some T.name
 loc:scope.names.lookup T.name=some .local
 qn:∀(L f:Addr) (c:Value),qualnameIn (envOfC qual scope L f c) T.name T.name=T.qual
 cl:∀(L f:Addr) (c:Value),closureFor T.scope (envOfC qual scope L f c)=pure (T.xs.zip (Mt L))
 d0:T.params.defaults=[]
 k0:T.params.kw_defaults=[]
 an:∀(L f:Addr) (c:Value),annTrees T.params none (envOfC qual scope L f c)=[]
 S6:∀L:Addr,(Mt L).Nodup
 len:∀L:Addr,(Mt L).length=T.xs.length
 fv:∀(L f:Addr) (c:Value) (j:Nat) (a:Addr),(Mt L)[j]?=some a -> ∃(x:Str) (m:Nat),(envOfC qual scope L f c).cells.lookup x=some a/\scope.names.lookup x=some .cell/\N[m]?=some x/\slots[j]?=some m/\m≠i
 db:(T.name == ("__debug__" : Str))=false
 dn:(T.name == ("__classdict__" : Str))=false
def Made(H:Hp)(Pt:Addr)(pos:Pos)(T:oH)(slots:List Nat)(σ:St)(Q:VK):Prop:=
 TabAt H Pt pos T.qual /\ ∃K8:List V,(∀j m:Nat,slots[j]?=some m -> ∃v,σ[m]?=some (some v)/\K8[j]?=some v)/\K8.length=T.xs.length /\
  ∀(fi:Addr) (cs:List Addr) (H2:Hp),H fi=none->(∀a∈cs,H a=none)->(∀b o,H b=some o->b≠Pt->H2 b=some o)->TabAt H2 Pt pos T.qual->cX H2 fi T cs K8->Q (.ref fi) H2
section
variable{P:Program}{w:World}{K:PySem.W.Frag}{mg:Str->Option Value}{base:Heap}{x qual:Str}{st:Stmt}{f c Pt:Addr}{fd:FuncData}{N ps:List Str}{k i:Nat}{sp:Sp}{T:oH}{slots:List Nat}{Mt:Addr->List Addr}{pos p1 p2:Pos}
theorem Dc{A:Around}{outer:List Env}{s s1:Shared}{H H1:Hp}{Q:VK}{E:XK}{σ:St}(M:Hu N qual (δ st) T i slots Mt)(bm:BMain mg base)(C:CodeHd base c Pt)(I:Inv (gU K9 P w K mg base N qual (δ st) f (.ref c) A outer s H E) [] σ H1 s1)(h:Made H1 Pt pos T slots σ Q):
  wpAny (model P w) (A.deeper (envOfC qual (δ st) s.heap.objs.size f (.ref c))) (execs [.FunctionDef T.name T.params T.body [] none [] T.scope none T.name pos,.Return (some (.Name T.name p1)) p2] (envOfC qual (δ st) s.heap.objs.size f (.ref c)))
   (λfl s'=>∃u,fl=.ret u/\CE outer P w H s Q u s') (gU K9 P w K mg base N qual (δ st) f (.ref c) A outer s H E).xe s1:=by
 obtain⟨hT,K8,h1,h2,h3⟩:=h;refine Ga (cs:=Mt s.heap.objs.size) (K8:=K8) I bm C hT M.nd M.hi M.loc (M.qn _ _ _) (M.cl _ _ _) M.d0 M.k0 (M.an _ _ _) (M.S6 _) (M.len _) h2 (λj a e=>?_) (λfi H2 n1 n2 n3 n4 n5=>h3 fi _ H2 n1 n2 n3 n4 n5) M.db M.dn;obtain⟨y,m,e1,e2,e3,e4,e5⟩:=M.fv s.heap.objs.size f (.ref c) j a e;obtain⟨v,e6,e7⟩:=h1 j m e4;exact⟨y,m,v,e1,e2,e3,e6,e7,e5⟩
theorem MJ.maker0(F:MJ K x qual st f fd)(S:aK N ps (δ st))(M:Hu N qual (δ st) T i slots Mt)(bm:BMain mg base)(hcode:fd.code=.ref c)(C:CodeHd base c Pt)(len:∀vs H Q E,sp vs H Q E->vs.length=ps.length)
  (hb:μ st=[.FunctionDef T.name T.params T.body [] none [] T.scope none T.name pos,.Return (some (.Name T.name p1)) p2])
  (h:∀(vs:List V) (H:Hp) (Q:VK) (E:XK),sp vs H Q E->Made H Pt pos T slots (start N vs) Q):bh P w K mg base K9 (k+1) f fd ps sp:=by
 obtain⟨oc,od,kV,doc,pm,an,cdv,ct,osl,rfl,lk,hcd⟩:=F.ex;obtain rfl:cdv=.ref c:=hcode;refine DR lk hcd S len λA outer s H vs Q E s1 hr hsp I=>?_;rw[hb];exact Dc M bm C I (h vs H Q E hsp)
theorem Jg{sp:Addr->Sp}(S:pY N T)(hb:∀(cl:List (Str×Addr)) (doc pm cd ctv:Value) (us:List Value),us.length=T.ps.length->bindArgs (fnX T.name T.qual T.params T.body T.scope cl .none .none doc pm none cd ctv) ⟨us,[]⟩=pure (T.ps.zip us))
  (h:∀(f:Addr) (vs:List V) (H:Hp) (Q:VK),sp f vs H Q E0->vs.length=T.ps.length /\ ∃cs K8,cX H f T cs K8 /\
   ∀(cd:Addr) (A:Around) (outer:List Env) (s:Shared),eY k (A.deeper (envX T.qual T.scope s.heap.objs.size f (.ref cd) (T.xs.zip cs))) -> ∃t,Ma (oY P w K mg base N T.qual T.scope f (.ref cd) (T.xs.zip cs) A outer s (hide H cs)) T.body t/\t { nx:=λ_ H'=>Q .non (over H cs H'),rt:=λv H'=>Q v (over H cs H') } (start N (vs++K8)) (hide H cs)):
  o7 P w K mg base (k+1) sp:=by
 intro f A outer s H us vs Q hr e0 r hsp;obtain⟨hl,cs,K8,ca,hbody⟩:=h f vs H Q hsp;exact GK S hr e0 ca (λcl doc pm cd ctv=>.of_eq (hb cl doc pm cd ctv us (by rw[<-r.length];exact hl))) r hl λcd hr'=>hbody cd A outer s hr'
end
theorem tab0{H:Hp}{P:Addr}{pos:Pos}{qual:Str}(h:H P=some (.Ld #[])):TabAt H P pos qual:=⟨#[],h,trivial,.inl rfl⟩
theorem wC{K:PySem.W.Frag}{x:Str}{f c P:Addr}{oc to:Value}{od td:Option Addr}{fd:FuncData}{osl Z6:Array (Option Value)}{vs:Array Value}(a:nsIn K mainGlobals x=some (some (.ref f)))(l:K.lookup f=some ⟨oc,od,.func fd,osl⟩)(hc:fd.code=.ref c)
  (t:K.lookup c=some ⟨to,td,.fields vs,Z6⟩)(p:vs[11]?=some (.ref P)):tabIn K x=some (c,P):=by
 unfold tabIn;simp only[a,l,hc,t,p]
end L2
namespace PySem
open PyProof.Rows
namespace F
theorem lri_no_len:typeLookup (.type "list_reverseiterator") "__len__" = pure none:=by rw[typeLookup_type,builtinLookup_eq_fast];kernel_rfl
theorem lri_hint:typeLookup (.type "list_reverseiterator") "__length_hint__" = pure (some (.builtin "list_reverseiterator.__length_hint__")):=by rw[typeLookup_type,builtinLookup_eq_fast];kernel_rfl
end F
section
variable{prog:Program}{w:World}{A:Around}{E:Value->Shared->Prop}{s:Shared}
theorem qM{it l:Addr}{i:Int}{Q:Bool->Shared->Prop}(hit:s.heap.IsRevIter it l i)(h:Q false s):wpAny (model prog w) A (Builtin.List.listLengthHint (.ref it)) Q E s:=by
 unfold Builtin.List.listLengthHint;refine wpAny_bind (wpAny_specialOf hit.typeIs F.lri_no_len ?_)
 show wpAny _ A (specialOf (Value.ref it) (Str.ofString "__length_hint__") >>= _) _ _ _
 refine wpAny_bind (wpAny_specialOf hit.typeIs F.lri_hint ?_)
 generalize hid:("list_reverseiterator.__length_hint__" : String)=id0
 wp_delta
 rw[show splitId id0=some ("list_reverseiterator","__length_hint__")from by subst hid;decide +kernel]
 subst hid
 refine wpAny_bind (wpAny_isInstance (T := "list_reverseiterator") (b:=true) hit.typeIs (by rw[isSubtype_type];kernel_rfl) ?_)
 refine wpAny_ite_split (λhab=>absurd hab (by decide)) (λ_=>?_);refine wpAny_ite_split (λ_=>?_) (λhab=>absurd (by decide +kernel) hab);refine wpAny_ite_split (λhab=>absurd hab (by decide +kernel)) (λ_=>?_);exact wpAny_pure h
end
section
variable{prog:Program}{w:World}{A:Around}{s:Shared}{R:Result->Shared->Prop}
theorem nT{it l:Addr}{items:Array Value}(hh:A.handled=none)(hne:l≠it)(S:Addr)(res:Value)(c₀:Nat)(hit:s.heap.IsRevIter it l ((items.size:Int) - 1))(hl:s.heap.IsList l items)(hSi:S≠it)(hSl:S≠l)
  (hS:s.heap.get? S=some { cls:=.type "list",data:=.seq #[] c₀ })
  (hR:∀h' tk acc' c',(∀b o,b≠S->b≠it->s.heap.get? b=some o->h'.get? b=some o)->h'.get? S=some { cls:=.type "list",dict:=none,data:=.seq acc' c',slots:=#[] } ->
   ItemsOf (λi v=>items[items.size - 1 - i]?=some v) acc' items.size->R (.ok (.ret res)) { s with heap:=h',toks:=tk })(hn:items.size<=sizeLine):
  wpAny (model prog w) A.in1 (Builtin.List.listExtendWith (.ref S) (.ref it) res)
   (λfin s'=>match fin with | .done f=>R (.ok f) s' | .again c'=>c'.quiet=true/\codeAny (model prog w) A c' R s') (λe s'=>R (.error e) s') s:=by
 have hSf:S∉[it,l]:=λhm=>by
  rcases aaA.mp hm with e|hm
  ·exact hSi e
  ·exact hSl (aal.mp hm)
 have W:=(Walks.listRev (prog:=prog) (w:=w) (A:=A.in1) hh it l hne items).toS;have key:∀(h:Heap) (c₁ tk:Nat),h.IsRevIter it l ((items.size:Int) - 1)->h.IsList l items->(∀b o,b≠S->s.heap.get? b=some o->h.get? b=some o) ->
   h.get? S=some { cls:=.type "list",data:=.seq #[] c₁ }->codeAny (model prog w) A (.builtin "list.extend.loop" ⟨[.ref S,.ref it,res],[]⟩) R { s with heap:=h,toks:=tk }:=by
  intro h c₁ tk hit₁ Z7 hk Z8;refine codeAny_extend_loopS W hn S hSf res items.size 0 _ #[] c₁ rfl (aaq _) ⟨aaq _,?_,Z7⟩ Z8 (ItemsOf.nil _) λs' acc' c' hm hS' hacc=>?_
  ·have e:(items.size:Int) - 1 - ((0:Nat):Int)=(items.size:Int) - 1:=by lia
   rw[e];exact hit₁
  rw[Moved.eq_with hm];refine hR s'.heap s'.toks acc' c' (λb o hb hb2 e=>hm.heap b o (λhmem=>?_) (hk b o hb e)) hS' hacc;rcases aaA.mp hmem with e' | hmem
  ·exact hb e'
  ·exact hb2 (aal.mp hmem)
 unfold Builtin.List.listExtendWith;refine wpAny_bind (wpAny_typeOf hit.typeIs ?_);have h1:Builtin.List.listSameRef (.ref S) (.ref it)=false:=by simp[Builtin.List.listSameRef,hSi]
 have h2:(Value.type "list_reverseiterator" == Value.type "list")=false:=by decide
 have h3:(Value.type "list_reverseiterator" == Value.type "tuple")=false:=by decide
 simp only[h1,h2,h3,adz,aaV,if_false];refine wpAny_bind (wpAny_pyIter_revIter hit ?_);refine wpAny_bind (wpAny_holding (qM hit ?_));refine wpAny_ite_split (λ_=>?_) (λ_=>wpAny_pure ⟨plainId_quiet F.plain_extend_loop _,key _ c₀ _ hit hl (λb o _ e=>e) hS⟩);refine wpAny_bind (wpAny_rule ?_);refine wpAny_bind ?_;show wpAny _ _ (updateSeq S (·.push .none) >>= λ_=>updateSeq S (·.pop)) _ _ _;refine wpAny_bind (wpAny_updateSeq hS rfl ?_);have Oe:=Heap.get?_update_self (Obj.mapSeq (·.push Value.none)) hS rfl;refine wpAny_updateSeq (hz:=by seq_fits) Oe rfl ?_;have S7:=Heap.get?_update_self (Obj.mapSeq (·.pop)) Oe rfl;have oth:∀b o,b≠S->s.heap.get? b=some o->((s.heap.update S (Obj.mapSeq (·.push Value.none))).update S (Obj.mapSeq (·.pop))).get? b=some o:=
  λb o hb e=>(Heap.get?_update_other _ _ (abg hb)).trans ((Heap.get?_update_other _ _ (abg hb)).trans e)
 exact wpAny_pure ⟨plainId_quiet F.plain_extend_loop _,key _ _ _ (hit.at λo e=>oth it o (abg hSi) e) (hl.at λo e=>oth l o (abg hSl) e) oth S7⟩
theorem kZ{it l:Addr}{items:Array Value}(hh:A.handled=none)(hne:l≠it)(S:Addr)(hit:s.heap.IsRevIter it l ((items.size:Int) - 1))(hl:s.heap.IsList l items)(hSi:S≠it)(hSl:S≠l)
  (hS:s.heap.get? S=some { cls:=.type "list",data:=.seq #[] })
  (hR:∀h' tk acc' c',(∀b o,b≠S->b≠it->s.heap.get? b=some o->h'.get? b=some o)->h'.get? S=some { cls:=.type "list",dict:=none,data:=.seq acc' c',slots:=#[] } ->
   ItemsOf (λi v=>items[items.size - 1 - i]?=some v) acc' items.size->R (.ok (.ret .none)) { s with heap:=h',toks:=tk })(hn:items.size<=sizeLine):
  wpAny (model prog w) A.in1 (Builtin.«list.__init__» ⟨[.ref S,.ref it],[]⟩)
   (λfin s'=>match fin with | .done f=>R (.ok f) s' | .again c'=>c'.quiet=true/\codeAny (model prog w) A c' R s') (λe s'=>R (.error e) s') s:=by
 show wpAny _ _ (do let old <-Builtin.List.listItems (.ref S);Builtin.List.listUpdate (.ref S) (λ_=>#[]);letGo old.toList.reverse;Builtin.List.listExtendWith (.ref S) (.ref it) .none) _ _ s;refine wpAny_bind ?_;unfold Builtin.List.listItems;refine wpAny_bind (wpAny_seqItems hS rfl (wpAny_pure ?_));show wpAny _ _ (updateSeq S (λ_=>#[]) >>= λ_=>letGo (#[]:Array Value).toList.reverse >>= λ_=>Builtin.List.listExtendWith (.ref S) (.ref it) .none) _ _ s;refine wpAny_bind (wpAny_updateSeq hS rfl ?_);have Oe:=Heap.get?_update_self (Obj.mapSeq (λ_=>(#[]:Array Value))) hS rfl;have oth:∀b o,b≠S->s.heap.get? b=some o->(s.heap.update S (Obj.mapSeq (λ_=>(#[]:Array Value)))).get? b=some o:=
  λb o hb e=>(Heap.get?_update_other _ _ (abg hb)).trans e
 refine wpAny_bind (wpAny_letGo ?_);refine nT hh hne S .none _ (hit.at λo e=>oth it o (abg hSi) e) (hl.at λo e=>oth l o (abg hSl) e) hSi hSl Oe (λh' tk acc' c' hk hS' hacc=>?_) hn;exact hR h' tk acc' c' (λb o hb hb2 e=>hk b o hb hb2 (oth b o hb e)) hS' hacc
end
section
variable{prog:Program}{w:World}{A:Around}{E:Value->Shared->Prop}{s:Shared}
theorem rR{Q:Value->Shared->Prop}{it l:Addr}{items:Array Value}(hh:A.handled=none)(hne:l≠it)(hit:s.heap.IsRevIter it l ((items.size:Int) - 1))(hl:s.heap.IsList l items)(hn:items.size<=sizeLine)
  (hQ:∀h' tk acc' c',(∀b o,b≠it->s.heap.get? b=some o->h'.get? b=some o)->h'.get? s.heap.objs.size=some { cls:=.type "list",dict:=none,data:=.seq acc' c',slots:=#[] } ->
   ItemsOf (λi v=>items[items.size - 1 - i]?=some v) acc' items.size->Q (.ref s.heap.objs.size) { s with heap:=h',toks:=tk }):
  wpAny (model prog w) A (call (.type "list") [.ref it]) Q E s:=by
 obtain⟨oi,hoi,_⟩:=id hit;obtain⟨ol,hol,_⟩:=id hl
 refine callType_codes (Q₁:=λobj s₁=>obj=.ref s.heap.objs.size/\s₁={ s with heap:=s.heap.push { cls:=.type "list",data:=.seq #[] } }) F.called_list (F.typeCall_list_1 _) F.entry_list_init
  (code_list_new _ ⟨rfl,rfl⟩) λobj s₁ h₁=>?_
 obtain⟨rfl,rfl⟩:=h₁
 have hS:(s.heap.push { cls:=.type "list",data:=.seq #[] }).get? s.heap.objs.size=some { cls:=.type "list",data:=.seq #[] }:=Heap.get?_push_size _ rfl
 refine⟨⟨_,hS,rfl⟩,F.args_list_init_2 _ _,kZ (A:=A.in1) hh hne _ (hit.at λo e=>Heap.get?_push_of_some _ e) (hl.at λo e=>Heap.get?_push_of_some _ e) (abH (Heap.lt_size hoi)) (abH (Heap.lt_size hol)) hS (λh' tk acc' c' hk hS' hacc=>?_) hn⟩;exact⟨rfl,hQ h' tk acc' c' (λb o hb e=>hk b o (aak (Heap.lt_size e)) hb (Heap.get?_push_of_some _ e)) hS' hacc⟩
end
end PySem
namespace L2
open PySem PySem.Spec PyProof.Rows PySem.W
section
variable{X:Cx}
inductive Gp(K:PySem.W.Frag)(Q:VK)(vs:List V)(H1:Hp):Prop
 | mk (p ys:_) (_:vs=[.ref p]) (_:K5 K H1 p ys) (_:∀l,H1 l=none->Q (.ref l) (upd H1 l (.lst ys.reverse)))
def JK(K:PySem.W.Frag)(ta:TA):TE:=λ σ H Q=>ta σ H λvs H1=>Gp K Q vs H1
theorem yj{a:Expr}{ta:TA}{p p2 pos pos2:Pos}(hc:X.calm=true)(hg:Gl X "list")(hm:X.mg "list" = none)(hv:bootBuiltins "list" = some (.type "list"))(hg2:Gl X "reversed")(hm2:X.mg "reversed" = none)(hv2:bootBuiltins "reversed" = some (.type "reversed"))
  (ha:PA X [a] ta)(hs:starEach [a] X.env=[(false,eval a X.env)]:=by rfl)
  (he:starEach [.Call (.Name "reversed" p2) [a] [] pos2] X.env=(false,eval (.Call (.Name "reversed" p2) [a] [] pos2) X.env)::starEach [] X.env:=by rfl)(hpl:(backTo pos (starEach [] X.env)).any (·.1)=false:=by rfl):
  PE X (.Call (.Name "list" p) [.Call (.Name "reversed" p2) [a] [] pos2] [] pos) (JK X.K ta):=by
 intro π s σ H Q I h;refine wpAny_Call_Name_kw (fu I hg hm hv ?_);refine PyProof.Rows.callWith_type1 ?_ he hpl;rw[he]
 show wpAny _ _ (spliced ((false,eval (.Call (.Name "reversed" p2) [a] [] pos2) X.env)::backTo pos (starEach [] X.env))) _ _ s
 refine Calls.spliced_cons ?_;refine Call_ (fu I hg2 hm2 hv2 (PyProof.Rows.callWith_type1 (K7 (ha pos2 π s σ H _ I h) λus s1 ⟨vs,H1,I1,r1,q1⟩=>?_) hs rfl));obtain⟨b,xs,e,hq,q⟩:=q1;subst e;obtain⟨u,rfl,rx⟩:=vals1 r1;cases rx;obtain⟨its,rv,pl,hz⟩:=I1.list hq;have hl:=rv.length;obtain⟨ob,hob,hobc,hobn,hobd⟩:=id pl.isList;have blt:b<s1.heap.objs.size:=Heap.lt_size hob;refine call_reversed_list pl.isList ?_;refine Calls.spliced_nil ?_;refine rR (I.ok.hd hc) (l:=b) (items:=its.toArray) (aak blt) ⟨_,Heap.get?_push_size _ rfl,rfl,rfl⟩ (pl.isList.push _) (by rw[aao];lia) λh' tk acc' c' hk hS hacc=>?_;have eacc:acc'=its.reverse.toArray:=by
  obtain⟨e1,e2⟩:=hacc;apply Array.ext
  ·rw[e1,aao,aao,acj]
  ·intro i h1 h2;have:=e2 i acc'[i] (abt h1);rw[aao,acr,<-List.getElem?_reverse (by rw[e1,aao]at h1;exact h1)]at this;rw[List.getElem_toArray];exact(aax ((aac _).symm.trans this)).symm
 subst eacc;refine⟨.ref _,_,I1.laid (t':=tk) (o:=.lst xs.reverse) (λc o e=>hk c o (aak (Heap.lt_size e)) (Heap.get?_push_of_some _ e)) ?_ ⟨by rw[acj];exact hz,its.reverse,c',rv.reverse,hS⟩,rfl,q _ (I1.hok.fresh ?_)⟩
 ·show s1.heap.objs.size<=(s1.heap.push _).objs.size;simp[Heap.push]
 ·show s1.heap.objs.size<=(s1.heap.push _).objs.size;simp[Heap.push]
end
end L2
namespace Tw
def pairs(f:Nat):List Int:=(aaQ f [1,0]).flatten
inductive BR(n:Nat)(S:Nat):Prop
 | mk (h:_) (_:S=2^h) (_:n<=S) (_:∀j,j<h->2^j<n)
def NodeOk(S st sp n e:Nat):Prop:=1<=n/\S<=n*2^e/\(n+1)*2^e<=S+sp/\(1<n->S<=n / 2*2^(e+1)/\(n / 2+1)*2^(e+1)<=2*S/\(n / 2*2^(e+1)<S+st\/S+sp<(n / 2+1)*2^(e+1)))
def Chain(S st sp:Nat):List Nat->Nat->Nat->Prop
 | [],x,y=>x=y
 | n::r,x,y=>∃e,n*2^e=x/\NodeOk S st sp n e/\Chain S st sp r ((n+1)*2^e) y
structure Su(S st sp e low high:Nat)(ls rs:List Nat):Prop where
 lo1:S+st<=low*2^e
 lo2:low*2^e<S+st+2^e
 hi1:high*2^e<=S+sp
 hi2:S+sp<high*2^e+2^e
 le:low<=high
 left:Chain S st sp ls (S+st) (low*2^e)
 right:Chain S st sp rs.reverse (high*2^e) (S+sp)
def JN:Nat->Nat->Nat->List Nat->List Nat->List Nat
 | 0,_,_,ls,rs=>ls++rs.reverse
 | f+1,low,high,ls,rs=>if low<high then JN f ((low+low%2) / 2) ((high - high%2) / 2) (if low%2=1 then ls++[low]else ls) (if high%2=1 then rs++[high - 1]else rs)else ls++rs.reverse
def cover(S st sp:Nat):List Nat:=JN (sp - st) (S+st) (S+sp) [] []
open L2
theorem G8{xs:List V}{j:Nat}{x:V}(h:xs[j]?=some x):Lj xs (j:Int)=some x:=zz h
def Lr(ns:List Int)(n:Nat):List Int:=(aaO (n+1)).map λk=>(ns.take (32*k)).sum
theorem fH(ns:List Int)(n:Nat):(Lr ns n).length=n+1:=by simp[Lr]
theorem kI{ns:List Int}{n k:Nat}(h:k<=n):(Lr ns n)[k]?=some (ns.take (32*k)).sum:=by
 have:k<n+1:=by lia
 simp[Lr,this]
def iB(bs:List Int)(k:Nat):Int:=((bs.take k).map λb=>ones b 32).sum
theorem oV{bs:List Int}{k:Nat}{b:Int}(h:bs[k]?=some b):iB bs (k+1)=iB bs k+ones b 32:=by
 unfold iB;rw[aa8,h];simp[acB]
def aheads(bs:List Int)(n:Nat):List Int:=(aaO (n+1)).map (iB bs)
theorem sJ(bs:List Int)(n:Nat):(aheads bs n).length=n+1:=by simp[aheads]
theorem v5(bs:List Int)(n:Nat):aheads bs (n+1)=aheads bs n++[iB bs (n+1)]:=by
 unfold aheads;rw[aaR,aam];rfl
theorem wL(bs:List Int)(n:Nat):aheads bs n=(aaO n).map (iB bs)++[iB bs n]:=by
 unfold aheads;rw[aaR,aam];rfl
theorem mF{ns:List Int}(h:bB ns):∀k:Nat,k<=many ns.length->iB (cZ ns) k=(ns.take (32*k)).sum
 | 0,_=>by simp[iB]
 | k+1,hk=>by
  rw[oV (uw (by lia)),mF h k (by lia),gr h k 32 (by lia)];rfl
theorem vM{ns:List Int}(h:bB ns):aheads (cZ ns) (cZ ns).length=Lr ns (many ns.length):=by
 rw[eX];unfold aheads Lr;refine acC λk hk=>?_;have:=ach.mp hk;exact mF h k (by lia)
def hts(ns:List Int)(n:Nat):List Int:=(aaO (n+1)).map (ht ns)
end Tw
namespace L2
open PySem PySem.Spec PyProof.Rows
section
variable{prog:Program}{w:World}{A:Around}{s:Shared}
theorem ym{elt iter:Expr}{elts ifs:List Expr}{x1:Nat}{tp pos:Pos}{scope:Scope}{it acc:Value}{env:Env}{R:Result->Shared->Prop}(J:Nat->Shared->Prop)
  (turn:∀n a,J n a->wpAny (model prog w) A (pyNext it) (λr a1=>match r with
   | none=>R (.ok .next) a1
   | some v=>wpAny (model prog w) A (letOwnedTupleGo (.Tuple elts x1 tp) it v) (λ_ a2=>wpAny (model prog w) A (assign (.Tuple elts x1 tp) env v) (λ_ a3 =>
     wpAny (model prog w) A (forIn ifs true λc r=>if r=true then do let ok <-isTrue c env (eval c env);pure (ForInStep.yield ok)else pure (ForInStep.yield r)) (λok a4=>if ok=true then
      wpAny (model prog w) A (eval elt env) (λy a5=>wpAny (model prog w) A (call (.builtin "list.append") [acc,y]) (λ_ a6=>∃m,m<n/\J m a6) (notedBy (model prog w) A env λe b=>R (.error e) b) a5) (notedBy (model prog w) A env λe b=>R (.error e) b) a4
      else ∃m,m<n/\J m a4) (notedBy (model prog w) A env λe b=>R (.error e) b) a3)
     (notedBy (model prog w) A env λe b=>R (.error e) b) a2) (notedBy (model prog w) A env λe b=>R (.error e) b) a1) (notedBy (model prog w) A env λe b=>R (.error e) b) a)
  (n:Nat)(h:J n s):codeAny (model prog w) A (.compLoop (.ListComp elt [⟨.Tuple elts x1 tp,iter,ifs,0⟩] scope pos) 0 it acc env) R s:=by
 refine codeAny_loop rfl J (λn a hJ=>wpAny_noted ?_) n h;rw[compTurn_list];refine wpAny_bind (wpAny_standAt (wpAny_bind (wpAny_mono (turn n a hJ) (λr a1 h1=>?_) λ_ _ q=>q)));cases r with
 | none=>exact wpAny_pure h1
 | some v =>
  refine wpAny_bind (wpAny_mono h1 (λ_ a2 h2=>wpAny_bind (wpAny_mono h2 (λ_ a3 h3=>wpAny_bind (wpAny_mono h3 (λok a4 h4=>?_) λ_ _ q=>q)) λ_ _ q=>q)) λ_ _ q=>q);cases ok with
  | false=>exact wpAny_pure ⟨rfl,h4⟩
  | true=>exact wpAny_bind (wpAny_bind (wpAny_mono h4 (λy a5 h5=>wpAny_bind (wpAny_mono h5 (λ_ a6 h6=>wpAny_pure (wpAny_pure ⟨rfl,h6⟩)) λ_ _ q=>q)) λ_ _ q=>q))
end
structure kY(X:Cx)(x z:Str)(caps:List (Str×Nat))(scope:Scope)(cl:List (Str×Addr)):Prop where
 o:bM X x caps scope cl
 hz:scope.names.lookup z=some .local
 nd:(x::z::caps.map (·.1)).Nodup
section
variable{X:Cx}{π:List (Addr×Obj)}{σ:St}{H:Hp}{s:Shared}
theorem Inv.comp2{x z:Str}{caps:List (Str×Nat)}{scope:Scope}{cl:List (Str×Addr)}{fp:List Addr}{h':Heap}{tk:Nat}{m:Str->Option Value}{D C:Addr}(I:Inv X π σ H s)(K0:kY X x z caps scope cl)(hf:∀b∈fp,fG X π H b)
    (hfs:∀b∈fp,b<s.heap.objs.size)(hD:s.heap.objs.size<=D)(hC:s.heap.objs.size<=C)(hDC:D≠C)(hk:∀b o,s.heap.get? b=some o->h'.get? b=some o)(hn:h'.Ns C m)(hL:h'.get? D=some { cls:=.type "list",data:=.seq #[] }):
    Inv (bC X (x::z::caps.map (·.1)) scope cl C s H fp) [] (none::none::dw caps σ) (upd H D (.lst [])) { s with heap:=h',toks:=tk }:=by
  have Oo:=I.hok.fresh hD;have hnC:=I.hok.fresh hC;have Ml:∀y c,(bC X (x::z::caps.map (·.1)) scope cl C s H fp).env.cells.lookup y=some c->X.env.cells.lookup y=some c:=λy c e=>K0.o.cls y c e;have O9:∀y c,X.env.cells.lookup y=some c->c<s.heap.objs.size:=λy c e=>by
    obtain⟨v,q⟩:=I.cell y c e;exact q.lt
  have up:∀b u,H b=some u->upd H D (.lst []) b=some u:=λb u q=>by rw[aD (aB q Oo)];exact q
  have ok:(bC X (x::z::caps.map (·.1)) scope cl C s H fp).Ok:=by
    refine⟨I.ok.mod,K0.o.kind,I.ok.glob,I.ok.blt,hC,λy z c h1 h2=>I.ok.inj y z c (Ml y c h1) (Ml z c h2),λy hy=>K0.o.has y hy,λy c h=>absurd (show false=true from h) aat,I.ok.hd,I.ok.frames,.inl rfl,λb hb=>?_,I.bs,aaS I.ok.Mv I.sz,λb o e hb=>?_,λb hb hz=>?_,I.stack,I.stkFree⟩
    · obtain⟨f0,f1,f2,f3,f4,f5⟩:=hf b hb
      exact⟨aak (aaf (hfs b hb) hC),λy c e=>f4 y c (Ml y c e)⟩
    · obtain⟨f0,f1,f2,f3,f4,f5⟩:=hf b hb
      rcases f3 with z|z
      · exact I.ok.noex b o e z
      · exact absurd (aaf (aaf (Heap.lt_size e) I.ok.Mv) z) (aaZ _)
    · obtain⟨f0,f1,f2,f3,f4,f5⟩:=hf b hb
      rcases aaA.mp (I.stkSub b hz)with z|z
      · exact f1 z
      · exact f2 z
  refine⟨ok,rfl,I.bare,?_,⟨m,hn,λi y v e1 e2 e3=>?_⟩,λy c e=>?_,?_,λy c e=>?_,λp hp=>absurd (show p∈([]:List (Addr×Obj))from hp) (by simp),?_,?_⟩
  · exact Un.laid hk hD Oo
  · cases i with
    | zero=>cases e2
    | succ i =>
     cases i with
     | zero=>cases e2
     | succ i =>
      have e1':(caps.map (·.1))[i]?=some y:=e1;have e2':(dw caps σ)[i]?=some (some v):=e2;rw[aag]at e1';unfold dw at e2';rw[aag]at e2';cases ec:caps[i]? with
      | none=>rw[ec]at e1';cases e1'
      | some p =>
        rw[ec]at e1' e2';obtain⟨y',j⟩:=p;have ey:y'=y:=aax e1';subst ey;have ev:(σ[j]?).getD none=some v:=aax e2';have ev':σ[j]?=some (some v):=by
          cases q:σ[j]? with
          | none=>rw[q]at ev;cases ev
          | some w=>rw[q]at ev;exact congrArg some ev
        obtain⟨c1,c2,c3⟩:=K0.o.cap y' j (aah ec);obtain⟨m0,hn0,hl⟩:=I.loc;obtain⟨u,r,l⟩:=hl j y' v c1 ev' (by rcases c2 with z|z;exact .inr (.inl z);exact .inr (.inr z));refine⟨u,r,.inr ⟨c3,?_⟩⟩;rcases l with ⟨k,_⟩|⟨k,c,ec,z⟩
        · have k':X.env.scope.names.lookup y'=some .local:=k
          rcases c2 with z|z
          · rw[z]at k';cases k'
          · rw[z]at k';cases k'
        · obtain⟨c',hc'⟩:=K0.o.has y' c3
          have e4:=K0.o.cls y' c' hc';rw[ec]at e4;cases e4;obtain⟨o,ho,hd⟩:=z;exact⟨c,hc',o,hk _ _ ho,hd⟩
  · obtain⟨v,o,ho,hd⟩:=I.cell y c (Ml y c e)
    exact⟨v,o,hk _ _ ho,hd⟩
  · show upd H D (.lst []) C=none
    rw[aD (abg hDC)];exact hnC
  · have hlt:=O9 y c (Ml y c e)
    rw[aD (aak (aaf hlt hD))];exact I.freeC y c (Ml y c e)
  · exact I.hok.laid hk hD ⟨aaq _,[],_,.nil,hL⟩
  · show (none::none::dw caps σ).length=(x::z::caps.map (·.1)).length
    simp[j6]
def u9(K:PySem.W.Frag)(J:It)(cap:St)(te:TE)(Qf:Addr->Hp->Prop)(H:Hp):Prop:=
 ∀D,H D=none -> ∃W:Nat->Nat->List V->Hp->Prop,(∃m,W 0 m [] (upd H D (.lst []))) /\ ∀i m ys H1,W i m ys H1 ->
  (J.stop i H1/\Qf D H1)\/(J.go i H1 /\ ∀v H2,J.Nk i H1 v H2 -> ∃ta v1 v2,v=.ref ta/\K6 K H2 ta [v1,v2] /\
   te (some v1::some v2::cap) H2 λy H4=>H4 D=some (.lst ys)/\ys.length<sizeLine /\ ∃m',m'<m/\W (i+1) m' (ys++[y]) (upd H4 D (.lst (ys++[y]))))
def m6(K:PySem.W.Frag)(J:It)(cap:St)(tt:TT)(te:TE)(Qf:Addr->Hp->Prop)(H:Hp):Prop:=
 ∀D,H D=none -> ∃W:Nat->Nat->List V->Hp->Prop,(∃m,W 0 m [] (upd H D (.lst []))) /\ ∀i m ys H1,W i m ys H1 ->
  (J.stop i H1/\Qf D H1)\/(J.go i H1 /\ ∀v H2,J.Nk i H1 v H2 -> ∃ta v1 v2,v=.ref ta/\K6 K H2 ta [v1,v2] /\
   tt (some v1::some v2::cap) H2 λb H3=>if b=true then
   te (some v1::some v2::cap) H3 λy H4=>H4 D=some (.lst ys)/\ys.length<sizeLine /\ ∃m',m'<m/\W (i+1) m' (ys++[y]) (upd H4 D (.lst (ys++[y])))else ∃m',m'<m/\W (i+1) m' ys H3)
theorem jK{x z:Str}{px pz tp pos:Pos}{tx:Nat}{caps:List (Str×Nat)}{scope:Scope}{cl:List (Str×Addr)}{elt iter:Expr}{ifs:List Expr}{J:It}{fp:List Addr}{it:Addr}{tn:Nat->Heap->Prop}{tt:TT}{te:TE}{Qf:Addr->Hp->Prop}
  {RR:Value->Addr->Result->Shared->Prop}{E:Value->Shared->Prop}(I:Inv X π σ H s)(hc:X.calm=true)(K0:kY X x z caps scope cl)(T:Turn X.prog X.w X.K (.Tuple [.Name x px,.Name z pz] tx tp) J fp it tn)(st:tn 0 s.heap)(hf:∀b∈fp,fG X π H b)
  (ht:∀C s1 H1 Li,Nu (bC X (x::z::caps.map (·.1)) scope cl C s1 H1 Li) ifs tt)(he:∀C s1 H1 Li,PE (bC X (x::z::caps.map (·.1)) scope cl C s1 H1 Li) elt te)(rd:m6 X.K J (dw caps σ) tt te Qf H)
  (hRR:∀D C s' H' m,Inv X π σ H' s'->s'.heap.Ns C m->fG X π H' C->Qf D H'->RR (.ref D) C (.ok .next) s'):
  wpAny (model X.prog X.w) X.A (newList []) (λacc s3=>wpAny (model X.prog X.w) X.A (newFunctionEnv scope X.env.globals cl [] X.env.qual none .none (some X.env)) (λcenv s4 =>
   codeAny (model X.prog X.w) X.A (.compStart (.ListComp elt [⟨.Tuple [.Name x px,.Name z pz] tx tp,iter,ifs,0⟩] scope pos) 0 (.ref it) acc { cenv with scope:=relabel scope X.env }) (RR acc cenv.locals) s4) E s3) E s:=by
 have hfs:∀b∈fp,b<s.heap.objs.size:=λb hb=>by
  obtain⟨o,e,_⟩:=T.obj _ _ st b hb;exact Heap.lt_size e
 refine wpAny_newObj_type (wpAny_newFunctionEnv K0.o.ρ (by intro y hy;simp at hy) (λh1 hn1 hb1=>?_) K0.o.kind);dsimp only at hn1 hb1 ⊢;obtain⟨D,eD⟩:∃D:Nat,D=s.heap.objs.size:=⟨_,rfl⟩
 obtain⟨H2,Mf⟩:∃g,g=s.heap.push { cls:=.type "list",dict:=none,data:=.seq ([]:List Value).toArray }:=⟨_,rfl⟩
 rw[<-Mf]at hn1 hb1 ⊢;rw[<-eD];have hC:H2.objs.size=D+1:=by rw[Mf,Heap.size_push,eD]
 have hle:s.heap.objs.size<=H2.objs.size:=by rw[hC,eD];exact abJ _
 have hDC:D≠H2.objs.size:=by rw[hC];exact aak (aa7 _)
 have hk:∀b o,s.heap.get? b=some o->h1.get? b=some o:=λb o e=>by
  refine hb1.extBut b o (aak (aaf (Heap.lt_size e) hle)) (Heap.get?_push_of_some _ ?_);rw[Mf];exact Heap.get?_push_of_some _ e
 have hL:h1.get? D=some { cls:=.type "list",data:=.seq #[] }:=by
  refine hb1.extBut D _ (by lia) (Heap.get?_push_of_some _ ?_);rw[Mf,eD];exact Heap.get?_push_size _ rfl
 have st1:tn 0 h1:=T.keep _ _ _ st λb _ o e=>hk b o e;obtain⟨W,⟨m0,w0⟩,turn⟩:=rd D (I.hok.fresh (by lia));have loop:codeAny (model X.prog X.w) X.A (.compLoop (.ListComp elt [⟨.Tuple [.Name x px,.Name z pz] tx tp,iter,ifs,0⟩] scope pos) 0 (.ref it) (.ref D) (compEnvC scope cl H2.objs.size X.env)) (RR (.ref D) H2.objs.size) { s with heap:=h1,toks:=s.toks+([]:List (Str×Value)).length }:=by
  refine ym (λn s'=>∃i ys sl sm H',Inv (bC X (x::z::caps.map (·.1)) scope cl H2.objs.size s H fp) [] (sl::sm::dw caps σ) H' s'/\tn i s'.heap/\(∀b∈fp,H' b=none)/\W i n ys H') ?_ m0
   ⟨0,[],none,none,_,I.comp2 K0 hf hfs (by lia) (by lia) hDC hk hn1 hL,st1,λb hb=>?_,w0⟩
  ·rintro n s3 ⟨i,ys,sl,sm,H3,I3,st3,Ol,w3⟩;have Pa:∀{H':Hp}{pi:List (Addr×Obj)},(∀b∈fp,H' b=none)->(∀p∈pi,p.1∉fp) -> ∀b∈fp,fG (bC X (x::z::caps.map (·.1)) scope cl H2.objs.size s H fp) pi H' b:=λ{H' pi} hn hp b hb=>by
    obtain⟨f0,f1,f2,f3,f4,f5⟩:=hf b hb;refine⟨hn b hb,?_,λz=>?_,.inl hb,λy c e=>f4 y c (K0.o.cls y c e),λp hpp z=>?_⟩
    ·exact aak (aaf (hfs b hb) hle)
    ·rcases aaA.mp (I.stkSub b z)with q|q
     ·exact f1 q
     ·exact f2 q
    ·exact hp p (by simpa [bC]using hpp) (by rw[z];exact hb)
   have clear:∀{α:Type}{t:Sem α}{Q:α->Shared->Prop}{E':Value->Shared->Prop}{s:Shared},wpAny (model X.prog X.w) X.A t Q (λ_ _=>False) s->wpAny (model X.prog X.w) X.A t Q E' s:=λh=>wpAny_mono h (λ_ _ z=>z) λ_ _ z=>z.elim;rcases turn i n ys H3 w3 with ⟨stop,qf⟩|⟨go,step⟩
   ·refine K7 (T.done (bC X (x::z::caps.map (·.1)) scope cl H2.objs.size s H fp) rfl rfl rfl hc i [] s3 _ H3 _ I3 (Pa Ol (by simp)) st3 stop) λr s4 ⟨hr,I4⟩=>?_;subst hr;obtain⟨m4,Ro,_⟩:=id I4.loc;refine hRR D _ s4 H3 m4 (I.comped hf I4) Ro ?_ qf;have gC:s.heap.objs.size<=H2.objs.size:=by lia
    exact I.fpOk gC I4.free
   ·refine clear (K7 (T.item (bC X (x::z::caps.map (·.1)) scope cl H2.objs.size s H fp) rfl rfl rfl hc i [] s3 _ H3 (λ_ _=>False) I3 (Pa Ol (by simp)) st3 go) λr s4 ⟨u,hr,h4⟩=>?_);subst hr;refine clear (K7 h4 λ_ s5 ⟨v,H5,I5,r5,y5,Ng,O8⟩=>?_);have Qv:=I5.pinned (Pa O8 (by simp)) (T.obj _ _ Ng);obtain⟨ta,v1,v2,ev,Z9,q6⟩:=step v _ y5;subst ev;have hg:PG (bC X (x::z::caps.map (·.1)) scope cl H2.objs.size s H fp) (.Tuple [.Name x px,.Name z pz] tx tp) (JL X.K 2 (Fg (fQ 0) (Fg (fQ 1) JQ))):=
     jN hc (bW (aX (i:=0) K0.nd rfl (aai (lookup_relabel_local K0.o.hx)) (acJ (lookup_relabel_local K0.o.hx))) (bW (aX (i:=1) K0.nd rfl (aai (lookup_relabel_local K0.hz)) (acJ (lookup_relabel_local K0.hz))) gZ))
    refine clear (K7 (hg _ s5 (sl::sm::dw caps σ) H5 (.ref ta) u (λ σ2 H2=>σ2=some v1::some v2::dw caps σ/\H2=H5) Qv r5 ⟨ta,[v1,v2],rfl,Z9,rfl,v1,[v2],rfl,v2,[],rfl,rfl,(show _/\_ from ⟨rfl,rfl⟩)⟩) λ_ s6 ⟨σ6,H6,I6,e6,e7⟩=>?_);subst e6 e7;have again:∀{H7:Hp}{s7:Shared}{sl sm:Option V}{zs:List V}{m':Nat},Inv (bC X (x::z::caps.map (·.1)) scope cl H2.objs.size s H fp) ([]++oR fp s5.heap) (sl::sm::dw caps σ) H7 s7->m'<n->W (i+1) m' zs H7 ->
      ∃m,m<n /\ ∃i ys sl sm H',Inv (bC X (x::z::caps.map (·.1)) scope cl H2.objs.size s H fp) [] (sl::sm::dw caps σ) H' s7/\tn i s7.heap/\(∀b∈fp,H' b=none)/\W i m ys H':=λ{H7 s7 sl sm zs m'} I7 hm w7=>by
     refine⟨m',hm,i+1,zs,sl,sm,H7,I7.ξ,T.keep _ _ _ Ng λb hb o e=>(I7.pin (b,o) (aas _ (aas _ (fD hb e)))).1,λb hb=>?_,w7⟩;obtain⟨o,e,d⟩:=T.obj _ _ Ng b hb;exact(I7.pin (b,o) (aas _ (aas _ (fD hb e)))).2.1
    refine clear (K7 (ht H2.objs.size s H fp _ s6 _ H6 _ I6 q6) λok s7 ⟨H7,I7,q7⟩=>?_);cases ok with
    | false =>
     obtain⟨m',hm,w7⟩:=(show ∃m',m'<n/\W (i+1) m' ys H7 from q7);exact again I7 hm w7
    | true =>
     refine clear (K7 (he H2.objs.size s H fp _ s7 _ H7 _ I7 q7) λxv s8 ⟨y,H8,I8,r8,Sh,hz8,m',hm,w8⟩=>?_);refine clear (K7 (cG _ s8 _ H8 (.ref D) [y] (.ref D) [xv] (λ_ H9=>H9=upd H8 D (.lst (ys++[y]))) I8 rfl (.cons r8 .nil) ⟨D,ys,y,rfl,rfl,Sh,hz8,rfl⟩) λ_ s9 ⟨_,H9,I9,_,e9⟩=>?_);subst e9;exact again I9 hm w8
  ·rw[aD (by rw[eD];exact aak (hfs b hb))];exact(hf b hb).1
 exact codeAny_compStart_list loop (T.self _ 0 _ _ _ st1 loop)
theorem zb{x z:Str}{px pz tp pos:Pos}{tx:Nat}{caps:List (Str×Nat)}{scope:Scope}{cl:List (Str×Addr)}{elt iter:Expr}{J:It}{fp:List Addr}{it:Addr}{tn:Nat->Heap->Prop}{te:TE}{Qf:Addr->Hp->Prop}
  {RR:Value->Addr->Result->Shared->Prop}{E:Value->Shared->Prop}(I:Inv X π σ H s)(hc:X.calm=true)(K0:kY X x z caps scope cl)(T:Turn X.prog X.w X.K (.Tuple [.Name x px,.Name z pz] tx tp) J fp it tn)(st:tn 0 s.heap)(hf:∀b∈fp,fG X π H b)
  (he:∀C s1 H1 Li,PE (bC X (x::z::caps.map (·.1)) scope cl C s1 H1 Li) elt te)(rd:u9 X.K J (dw caps σ) te Qf H)
  (hRR:∀D C s' H' m,Inv X π σ H' s'->s'.heap.Ns C m->fG X π H' C->Qf D H'->RR (.ref D) C (.ok .next) s'):
  wpAny (model X.prog X.w) X.A (newList []) (λacc s3=>wpAny (model X.prog X.w) X.A (newFunctionEnv scope X.env.globals cl [] X.env.qual none .none (some X.env)) (λcenv s4 =>
   codeAny (model X.prog X.w) X.A (.compStart (.ListComp elt [⟨.Tuple [.Name x px,.Name z pz] tx tp,iter,[],0⟩] scope pos) 0 (.ref it) acc { cenv with scope:=relabel scope X.env }) (RR acc cenv.locals) s4) E s3) E s:=
 jK I hc K0 T st hf (λ_ _ _ _=>jc) he (λD hD=>by
  obtain⟨W,w0,turn⟩:=rd D hD;refine⟨W,w0,λi m ys H1 w1=>?_⟩;rcases turn i m ys H1 w1 with h|⟨go,step⟩
  ·exact .inl h
  ·refine .inr ⟨go,λv H2 y=>?_⟩;obtain⟨ta,v1,v2,e,sq,h⟩:=step v H2 y;refine⟨ta,v1,v2,e,sq,?_⟩;unfold vQ
   set_option simprocs false in dsimp only
   rw[if_pos rfl];exact h) hRR
def Iz(K:PySem.W.Frag)(wi:TI)(caps:List (Str×Nat))(te:TE):TE:=λ σ H Q=>wi σ H λJ H1=>u9 K J (dw caps σ) te (λD H'=>Q (.ref D) H') H1
theorem Fd{x z:Str}{px pz tp pos:Pos}{tx:Nat}{caps:List (Str×Nat)}{scope:Scope}{cl:List (Str×Addr)}{elt iter:Expr}{wi:TI}{te:TE}(hc:X.calm=true)(K0:kY X x z caps scope cl)(hi:PI X (.Tuple [.Name x px,.Name z pz] tx tp) iter wi)
  (he:∀C s1 H1 Li,PE (bC X (x::z::caps.map (·.1)) scope cl C s1 H1 Li) elt te)(hs:∀x,foldedSetIterable iter X.env x=pure x:=by intro _;rfl):
  PE X (.ListComp elt [⟨.Tuple [.Name x px,.Name z pz] tx tp,iter,[],0⟩] scope pos) (Iz X.K wi caps te):=by
 intro π s σ H Q I h;rw[eval_ListComp];refine wpAny_comprehension_free (use:=none) rfl hs K0.o.clos K0.o.kind K0.o.names (K7 (hi π s σ H _ I h) λv s1 h1=>K7 h1 λitv s2 h2=>?_);obtain⟨it,fp,tn,J,H2,e,I2,T,st2,f2,rd⟩:=h2;subst e;refine zb (RR:=λacc C=>compPost (model X.prog X.w) X.A X.xe none (EP X π σ Q) acc C) I2 hc K0 T st2 f2 he rd ?_;intro D C s' H' m I' hn fC q;exact⟨m,hn,λh'' hs''=>⟨.ref D,H',I'.turned (h':=h'') (t':=s'.toks) (λb o hb e=>hs''.extBut b o hb e) fC.1 fC.2.1 fC.2.2.2.1 fC.2.2.2.2.1 fC.2.2.2.2.2,rfl,q⟩⟩
end
section
variable{X:Cx}{x:Str}{scope:Scope}
end
end L2
namespace Tw
open PySem L2
theorem tE{K:PySem.W.Frag}{a:Addr}{ns:List Int}{cap:L2.St}{tt:TT}{te:TE}{Qf:Addr->Hp->Prop}{H:Hp}(g:Int->Int)(hS:K5 K H a (ns.map V.int))(hl:ns.length<sizeLine)
  (htt:∀(z:Int) (H':Hp) (Q:Bool->Hp->Prop),Q true H'->tt (some (.int z)::cap) H' Q)(Oc:∀(z:Int) (H':Hp) (Q:VK),z∈ns->aV H H'->Q (.int (g z)) H'->te (some (.int z)::cap) H' Q)
  (q:∀D,H D=none->Qf D (upd H D (.lst ((ns.map g).map V.int)))):j7 (N7 K a) cap tt te Qf H:=by
 intro D hD;refine⟨λi m ys H1=>m=ns.length - i/\i<=ns.length/\ys=((ns.take i).map g).map V.int/\H1=upd H D (.lst ys),⟨_,rfl,aaq _,rfl,rfl⟩,?_⟩;rintro i m ys H1 ⟨rfl,hi,rfl,rfl⟩;have hS1:K5 K (upd H D (.lst (((ns.take i).map g).map V.int))) a (ns.map V.int):=(au hD _).seq hS;by_cases hlt:i<ns.length
 ·have hg:(ns.map V.int)[i]?=some (.int ns[i]):=by
   rw[aag,aac hlt];rfl
  refine .inr ⟨⟨_,_,hS1,hg⟩,λv H2 y=>?_⟩;obtain⟨rfl,y⟩:=y;have e:=y _ hS1;rw[hg]at e;cases e;refine htt _ _ _ ?_;rw[if_pos rfl];refine Oc _ _ _ (aaP hlt) (au hD _) ⟨aq,?_,ns.length - (i+1),by lia,rfl,hlt,?_,?_⟩
  ·rw[aaa,aaa,aaC];lia
  ·rw[aa8,aac hlt,aam,aam];rfl
  ·rw[mR]
 ·have e:i=ns.length:=by lia
  subst e;rw[abf];rw[abf]at hS1;exact .inl ⟨⟨_,hS1,by rw[aaa];exact aad _⟩,q D hD⟩
end Tw
namespace L2
open PySem PySem.Spec PyProof.Rows PySem.W
structure pG where
 qual:Str
 params:Arguments
 body:Expr
 scope:Scope
 ps:List Str
 xs:List Str
def lamOf(st:Stmt)(qual:Str)(ps xs:List Str):pG:=match st with
 | .Return (some (.Lambda a b sc _)) _=>⟨qual,a,b,sc,ps,xs⟩
 | _=>⟨qual,ν st,.Name "" ⟨0,0,0,0⟩,δ st,ps,xs⟩
def lE:Stmt->Pos
 | .Return (some (.Lambda _ _ _ p)) _=>p
 | _=>⟨0,0,0,0⟩
structure iQ(H:Hp)(f:Addr)(c:pG)(cs:List Addr)(K8:List V):Prop where
 ex:∃(cd:Addr) (pm ctv:Value) (oc:Obj) (vs:Array Value) (t:Tok),H f=some (aQ f (kla_obj "<lambda>" c.qual c.params c.body c.scope (c.xs.zip cs) pm cd ctv))/\H cd=some (aQ cd oc)/\oc.data=.fields vs/\vs[1]?=some (.str c.qual t)
 cells:∀(i:Nat) (a:Addr),cs[i]?=some a -> ∃(co:Obj) (v:V) (u:Value),K8[i]?=some v/\H a=some (aQ a co)/\co.data=.cell (some u)/\RelV v u
 nd:cs.Nodup
 len:cs.length=c.xs.length
 lenV:K8.length=c.xs.length
theorem iQ.same{H H':Hp}{f:Addr}{c:pG}{cs:List Addr}{K8:List V}(h:iQ H f c cs K8)(s:∀b o,H b=some (aQ b o)->H' b=some (aQ b o)):iQ H' f c cs K8:=by
 obtain⟨⟨cd,pm,ctv,oc,vs,t,h1,h2,h3,h4⟩,hc,nd,len,lenV⟩:=h;refine⟨⟨cd,pm,ctv,oc,vs,t,s _ _ h1,s _ _ h2,h3,h4⟩,λi a e=>?_,nd,len,lenV⟩;obtain⟨co,v,u,e1,e2,e3⟩:=hc i a e;exact⟨co,v,u,e1,s _ _ e2,e3⟩
structure qI(N:List Str)(c:pG):Prop where
 kind:c.scope.kind=.function
 co:c.scope.isCoroutine=false
 gen:c.scope.isGenerator=false
 ρ:∀x∈c.scope.names,x.2 ≠ .cell
 pre:N.take (c.ps.length+c.xs.length)=c.ps++c.xs
 nd:N.Nodup
 Ob:∀n∈c.ps,c.scope.names.lookup n=some .local
 fr:∀x∈c.scope.names,x.2=.free->x.1∈c.xs
 Sx:∀n∈c.xs,c.scope.names.lookup n≠some .local
section
variable{P:Program}{w:World}{K:PySem.W.Frag}{mg:Str->Option Value}{base:Heap}{A:Around}{outer:List Env}{s:Shared}{H:Hp}{f:Addr}{c:pG}{cs:List Addr}{K8 vs:List V}{us:List Value}{N:List Str}{k:Nat}{Q:VK}{E:XK}
theorem Fq(S:qI N c)(hr:eY (k+1) A)(e0:yq P w K mg base A outer s H)(ca:iQ H f c cs K8)(hb:∀(cl:List (Str×Addr)) (pm cd ctv:Value),bindArgs (kla_fn "<lambda>" c.qual c.params c.body c.scope cl pm cd ctv) ⟨us,[]⟩=pure (c.ps.zip us))(r:Vals vs us)(hl:vs.length=c.ps.length)
  (body:∀cd:Addr,eY k (A.deeper (envX c.qual c.scope s.heap.objs.size f (.ref cd) (c.xs.zip cs))) -> ∃t,PE (oY P w K mg base N c.qual c.scope f (.ref cd) (c.xs.zip cs) A outer s (hide H cs)) c.body t/\t (start N (vs++K8)) (hide H cs) λv H'=>Q v (over H cs H')):
  codeAny (model P w) A (.call (.ref f) ⟨us,[]⟩) (CR K9 outer P w H s Q E) s:=by
 obtain⟨⟨cd,pm,ctv,oc,ws,tk,h1,h2,h3,h4⟩,hc,nd,len,lenV⟩:=ca;have hx:∀a∈cs,∃o,H a=some (aQ a o):=λa ha=>by
  obtain⟨i,hi⟩:=aaL ha;obtain⟨co,v,u,_,e,_⟩:=hc i a hi;exact⟨co,e⟩
 have lim:s.heap.NoLimit:=e0.mod.nolimit.keeps λb o e=>(e0.bs b o e).1;have PK:c.ps.Nodup:=by
  have:c.ps.Sublist N:=by
   have h5:(c.ps++c.xs).Sublist N:=by rw[<-S.pre];exact abE _ _
   exact(acR _ _).trans h5
  exact S.nd.sublist this
 have Sy:c.xs.Nodup:=by
  have:c.xs.Sublist N:=by
   have h5:(c.ps++c.xs).Sublist N:=by rw[<-S.pre];exact abE _ _
   exact(acN _ _).trans h5
  exact S.nd.sublist this
 have hpl:c.ps.length+c.xs.length<=N.length:=by
  have:=congrArg abC S.pre;rw[aaC,aae]at this;lia
 refine kla_callFunE hr.depth (cT e0.hok h1) rfl S.co S.gen rfl ⟨cd,oc,ws,tk,rfl,cT e0.hok h2,h3,h4⟩ ?_;rw[hb];refine wpAny_pure (wpAny_newFunctionEnv S.ρ (λy hy=>S.Ob _ (ab3 hy).1) (λh0 hns hsb=>⟨lim.fresh _ hsb,?_⟩) S.kind);show codeAny _ _ (.expr c.body (envX c.qual c.scope s.heap.objs.size f (.ref cd) (c.xs.zip cs))) _ _;have hk:∀b o,s.heap.get? b=some o->h0.get? b=some o:=λb o e=>hsb.extBut b o (aak (Heap.lt_size e)) (Heap.get?_push_of_some _ e);refine kla_codeExpr ?_;obtain⟨t,ht,hq⟩:=body cd (hr.deeper _);have hok0:=zL e0.hok hx;have I:Inv (oY P w K mg base N c.qual c.scope f (.ref cd) (c.xs.zip cs) A outer s (hide H cs)) [] (start N (vs++K8)) (hide H cs) { s with heap:=h0,toks:=s.toks+(c.ps.zip us).length }:=by
  refine⟨⟨e0.mod,S.kind,rfl,rfl,aad _,λy z b h5 h6=>?_,λy hy=>?_,λy b h5 _=>absurd h5 aat,λ_=>hr.hd,Around.frames_deeper e0.frames,.inr ⟨rfl,rfl⟩,λb z=>absurd (show b∈([]:List Addr)from z) (by simp),λb o e=>⟨(e0.bs b o e).1,?_⟩,e0.Mv,λb _ _ z=>absurd (show b∈([]:List Addr)from z) (by simp),λb z=>absurd (show b∈([]:List Addr)from z) (by simp),e0.funs,λb hb'=>?_⟩,
   rfl,e0.bare,Un.kept hk,⟨_,hns,λi y v h5 h6 h7=>?_⟩,λy b h5=>?_,hok0.fresh (aad _),λy b h5=>?_,λp hp=>absurd (show p∈([]:List (Addr×Obj))from hp) (by simp),hok0.kept hk,?_⟩
  ·obtain⟨i,i1,i2⟩:=cL h5;obtain⟨j,j1,j2⟩:=cL h6;have:=(adH (aab.mp i2).1 nd).mp (i2.trans j2.symm);subst this;exact aax (i1.symm.trans j1)
  ·have hy:c.scope.names.lookup y=some .cell\/c.scope.names.lookup y=some .free:=hy;rcases hy with hy|hy
   ·exact absurd rfl (S.ρ _ (PySem.mem_of_lookup hy))
   ·exact vJ len (S.fr _ (PySem.mem_of_lookup hy) rfl)
  ·have n:=(e0.bs b o e).2;show hide H cs b=none;rw[bw]
   ·exact n
   ·intro z;obtain⟨o',e'⟩:=hx b z;rw[n]at e';cases e'
  ·have n:=e0.Nf b hb';show hide H cs b=none;rw[bw]
   ·exact n
   ·intro z;obtain⟨o',e'⟩:=hx b z;rw[n]at e';cases e'
  ·have hi:i<(vs++K8).length:=by
    unfold start at h6;by_cases hi:i<(vs++K8).length
    ·exact hi
    ·rw[aap (by simpa using hi)]at h6;rw[aco]at h6;split at h6 <;> cases h6
   have ha:(vs++K8)[i]?=some v:=by
    unfold start at h6;rw[aar (by simpa using hi),aag]at h6;cases e:(vs++K8)[i]? with
    | none=>rw[e]at h6;cases h6
    | some a=>rw[e]at h6;cases h6;rfl
   rw[aae]at hi;have hp:(c.ps++c.xs)[i]?=some y:=by
    rw[<-S.pre,aa3 (by lia)];exact h5
   by_cases hi2:i<vs.length
   ·rw[aar hi2]at ha;rw[aar (by lia)]at hp;obtain⟨u,hu,rv⟩:=r.get ha;exact⟨u,rv,.inl ⟨S.Ob y (aah hp),zY PK hp hu⟩⟩
   ·rw[aap (by lia)]at ha;rw[aap (by lia),<-hl]at hp;have hj:i - vs.length<cs.length:=by
     have:=(aab.mp hp).1;lia
    obtain⟨b,Qx⟩:∃b,cs[i - vs.length]?=some b:=⟨_,aac hj⟩;obtain⟨co,v',u,q1,q2,q3,q4⟩:=hc _ b Qx;rw[ha]at q1;cases q1;have hfree:c.scope.names.lookup y=some .free:=by
     rcases h7 with q|q|q
     ·exact absurd q (S.Sx y (aah hp))
     ·exact absurd rfl (S.ρ _ (PySem.mem_of_lookup q))
     ·exact q
    exact⟨u,q4,.inr ⟨.inr hfree,b,za Sy hp Qx,co,hk _ _ (cT e0.hok q2),q3⟩⟩
  ·obtain⟨i,i1,i2⟩:=cL h5;obtain⟨co,v',u,q1,q2,q3,q4⟩:=hc _ b i2;exact⟨_,co,hk _ _ (cT e0.hok q2),q3⟩
  ·obtain⟨i,i1,i2⟩:=cL h5;exact kJ (aah i2)
  ·unfold start;show _=N.length;rw[aae,aaa,ab4,aae];lia
 have fin:∀{s':Shared}{σ':St}{H':Hp}{v:V}{u:Value},Inv (oY P w K mg base N c.qual c.scope f (.ref cd) (c.xs.zip cs) A outer s (hide H cs)) [] σ' H' s'->RelV v u->Q v (over H cs H')->CE outer P w H s Q u s':=λ{s' σ' H' v u} J rv q=>by
  obtain⟨k1,k2⟩:=zX e0.hok J.hok hx e0.Nf J.base;exact⟨v,over H cs H',J.os,J.bare,k2,k1,rv,q⟩
 refine wpAny_mono (ht [] _ (start N (vs++K8)) (hide H cs) _ I hq) (λu s' hs=>?_) λe s' hs=>False.elim hs;obtain⟨v,H',J,rv,q⟩:=hs;exact fin J rv q
end
section
variable{X:Cx}{π:List (Addr×Obj)}{σ:St}{H:Hp}{s:Shared}{c P:Addr}{name qual:Str}{params:Arguments}{body:Expr}{scope:Scope}{clos:List (Str×Addr)}{pos:Pos}{n:Nat}
theorem Ds{M:Model}{A:Around}{E:Value->Shared->Prop}{Q:Value->Shared->Prop}(I:Inv X π σ H s)(bm:BMain X.mg X.base)(hcode:X.env.code=.ref c)(C:CodeHd X.base c P)(hT:TabAt H P pos qual)(hcl:closureFor scope X.env=pure clos)
  (h:∀(fi cd:Addr) (pm ctv:Value) (oc:Obj) (vs:Array Value) (t:Tok) (H1:Hp) (s1:Shared),Inv X π σ H1 s1->H fi=none->(∀b o,H b=some o->b≠P->H1 b=some o)->TabAt H1 P pos qual ->
   H1 fi=some (aQ fi (kla_obj name qual params body scope clos pm cd ctv))->H1 cd=some (aQ cd oc)->oc.data=.fields vs->vs[1]?=some (.str qual t)->Q (.ref fi) s1):
  wpAny M A (makeFunction name qual params (.expr body) scope X.env [] [] [] pos n) Q E s:=by
 obtain⟨ps,hP,htr,hcase⟩:=hT;have hPs:s.heap.get? P=some (tabObj ps):=I.hok P _ hP;have G:=I.mod.glob.keeps I.bk;obtain⟨bm,ob,b1,b2,b3,b4,b5,b6⟩:=bm;have Nv:=I.bk _ _ b3;have hgP:mainGlobals≠P:=λq=>by
  obtain⟨o,es,ep,e,hd,_⟩:=G;rw[q,hPs]at e;cases e;cases hd
 have hbP:bm≠P:=λq=>by
  rw[q,hPs]at Nv;cases Nv;cases b4
 have hbG:bm≠mainGlobals:=λq=>by
  obtain⟨o,es,ep,e,hd,_⟩:=G;rw[q,e]at Nv;cases Nv;rw[hd]at b6;cases b6
 have Qy:s.heap.BuiltinsAt X.mg P:=⟨bm,ob,b1,b2,hbG,hbP,Nv,b4,b5,b6⟩;rcases hcase with hnf|⟨cd,oc,vs,t,hf,hcd,hd,hv⟩
 ·refine kla_makeFunction (mg:=X.mg) hcl I.ok.glob G hcode (C.keeps I.bk) hPs htr hnf hgP Qy λc' ctv h' tk hx hge hlt hrec htb=>?_;obtain⟨c2,oc,vs,t,e2,hoc,hd,hv⟩:=hrec;cases e2;have nc:H c'=none:=I.hok.fresh hge;have nf:H h'.objs.size=none:=I.hok.fresh (aaS hge (aba hlt));have SJ:P≠c':=aB hP nc;have SM:P≠h'.objs.size:=aB hP nf;have SN:c'≠h'.objs.size:=aak hlt
  have k1:∀b,b≠P->b≠c'->b≠h'.objs.size->upd (upd (upd H P (.Ld (ps ++ #[rawInt pos.line,rawInt pos.col,.ref c']))) c' (aQ c' oc)) h'.objs.size (aQ h'.objs.size (kla_obj name qual params body scope clos ((X.mg "__name__").getD .none) c' ctv)) b=H b:=λb e1 e2 e3=>by
   rw[aD e3,aD e2,aD e1]
  have kS:∀b o,H b=some o->b≠P->upd (upd (upd H P (.Ld (ps ++ #[rawInt pos.line,rawInt pos.col,.ref c']))) c' (aQ c' oc)) h'.objs.size (aQ h'.objs.size (kla_obj name qual params body scope clos ((X.mg "__name__").getD .none) c' ctv)) b=some o:=λb o e n=>by
   rw[k1 b n (aB e nc) (aB e nf)];exact e
  have kP:upd (upd (upd H P (.Ld (ps ++ #[rawInt pos.line,rawInt pos.col,.ref c']))) c' (aQ c' oc)) h'.objs.size (aQ h'.objs.size (kla_obj name qual params body scope clos ((X.mg "__name__").getD .none) c' ctv)) P=some (.Ld (ps ++ #[rawInt pos.line,rawInt pos.col,.ref c'])):=by
   rw[aD SM,aD SJ,aq]
  have kc:upd (upd (upd H P (.Ld (ps ++ #[rawInt pos.line,rawInt pos.col,.ref c']))) c' (aQ c' oc)) h'.objs.size (aQ h'.objs.size (kla_obj name qual params body scope clos ((X.mg "__name__").getD .none) c' ctv)) c'=some (aQ c' oc):=by
   rw[aD SN,aq]
  have kf:upd (upd (upd H P (.Ld (ps ++ #[rawInt pos.line,rawInt pos.col,.ref c']))) c' (aQ c' oc)) h'.objs.size (aQ h'.objs.size (kla_obj name qual params body scope clos ((X.mg "__name__").getD .none) c' ctv)) h'.objs.size=some (aQ h'.objs.size (kla_obj name qual params body scope clos ((X.mg "__name__").getD .none) c' ctv)):=aq
  generalize upd (upd (upd H P (.Ld (ps ++ #[rawInt pos.line,rawInt pos.col,.ref c']))) c' (aQ c' oc)) h'.objs.size (aQ h'.objs.size (kla_obj name qual params body scope clos ((X.mg "__name__").getD .none) c' ctv))=H1 at *
  have old:∀b o,s.heap.get? b=some o->b≠P->(h'.push (kla_obj name qual params body scope clos ((X.mg "__name__").getD .none) c' ctv)).get? b=some o:=λb o e n=>Heap.get?_push_of_some _ (hx b o n e)
  have tabP:(h'.push (kla_obj name qual params body scope clos ((X.mg "__name__").getD .none) c' ctv)).get? P=some (tabObj (ps ++ #[rawInt pos.line,rawInt pos.col,.ref c'])):=Heap.get?_push_of_some _ htb
  have hl:(ps ++ #[rawInt pos.line,rawInt pos.col,.ref c']).toList=ps.toList++[rawInt pos.line,rawInt pos.col,.ref c']:=by simp
  refine h h'.objs.size c' _ ctv oc vs t H1 _ (I.call' (ch:=[]) rfl ⟨λb o e n hb hx'=>?_,λb o e n hb hx'=>?_,λb o e n hx'=>?_,λb o e hx'=>?_,λb xs e=>?_,λb o u e=>?_,λb qs e=>?_⟩ (λb u e=>?_) I.bare λb z=>absurd z (by simp)) nf kS ⟨_,kP,by rw[hl];exact TriplesOk_snoc _ _ _ _ htr,.inr ⟨c',oc,vs,t,by rw[hl];exact codeAmong_snoc _ htr hnf,kc,hd,hv⟩⟩ kf kc hd hv
  ·exact old b o e λz=>by rw[z,hP]at n;cases n
  ·exact⟨o.slots,old b o e λz=>by rw[z,hP]at n;cases n⟩
  ·rw[k1 b (λz=>by rw[z,hP]at n;cases n) (aak (aaf (Heap.lt_size e) hge)) (aak (aaf (Heap.lt_size e) (aaS hge (aba hlt))))];exact n
  ·by_cases z:b=P
   ·exact⟨_,by rw[z];exact tabP⟩
   ·exact⟨o,old b o e z⟩
  ·exact kS b _ e λz=>by rw[z,hP]at e;cases e
  ·exact kS b _ e λz=>by rw[z,hP]at e;cases e
  ·by_cases z:b=P
   ·rw[z,hP]at e;cases e;exact⟨_,by rw[z];exact kP⟩
   ·exact⟨#[],by rw[kS b _ e z];simp⟩
  ·by_cases z1:b=h'.objs.size
   ·rw[z1,kf]at e;cases e;rw[z1];exact eG (Heap.get?_push_size _ rfl)
   by_cases z2:b=c'
   ·rw[z2,kc]at e;cases e;rw[z2];exact eG (Heap.get?_push_of_some _ hoc)
   by_cases z3:b=P
   ·rw[z3,kP]at e;cases e;rw[z3];exact tabP
   rw[k1 b z3 z2 z1]at e;refine(I.hok b u e).stay (λd o hd' q=>old d o q ?_) (λd q=>kS d _ q ?_) λd xs q=>kS d _ q ?_
   ·rcases hd' with rfl|hd'
    ·exact z3
    ·exact λz=>by rw[z,hP]at hd';cases hd'
   ·exact λz=>by rw[z,hP]at q;cases q
   ·exact λz=>by rw[z,hP]at q;cases q
 ·refine kla_makeFunctionHit (mg:=X.mg) hcl I.ok.glob G hcode (C.keeps I.bk) hPs htr hf Qy λctv h' tk hk hsz=>?_;have nf:H h'.objs.size=none:=I.hok.fresh hsz
  have kS:∀b o,H b=some o->upd H h'.objs.size (aQ h'.objs.size (kla_obj name qual params body scope clos ((X.mg "__name__").getD .none) cd ctv)) b=some o:=λb o e=>by
   rw[aD (aB e nf)];exact e
  have old:∀b o,s.heap.get? b=some o->(h'.push (kla_obj name qual params body scope clos ((X.mg "__name__").getD .none) cd ctv)).get? b=some o:=λb o e=>Heap.get?_push_of_some _ (hk b o e)
  refine h h'.objs.size cd _ ctv oc vs t _ _ (I.call' (ch:=[]) rfl (Un.laid old hsz nf) (λb u e=>?_) I.bare λb z=>absurd z (by simp)) nf (λb o e _=>kS b o e) ⟨ps,kS _ _ hP,htr,.inr ⟨cd,oc,vs,t,hf,kS _ _ hcd,hd,hv⟩⟩ aq (kS _ _ hcd) hd hv;by_cases z1:b=h'.objs.size
  ·rw[z1,aq]at e;cases e;rw[z1];exact eG (Heap.get?_push_size _ rfl)
  rw[aD z1]at e;exact(I.hok b u e).stay (λd o _ q=>old d o q) (λd q=>kS d _ q) λd xs q=>kS d _ q
end
section
variable{CX:Mx}{P:Program}{w:World}{K:PySem.W.Frag}{mg:Str->Option Value}{base:Heap}{N:List Str}{qual:Str}{scope:Scope}{f c Pt:Addr}{A:Around}{outer:List Env}{s0 s:Shared}{H0 H:Hp}{E:XK}{σ:St}{Q:VK}
theorem Gv{T:pG}{cs:List Addr}{K8:List V}{pos p2:Pos}(I:Inv (gU CX P w K mg base N qual scope f (.ref c) A outer s0 H0 E) [] σ H s)(bm:BMain mg base)(C:CodeHd base c Pt)(hT:TabAt H Pt pos T.qual)
  (hq:(envOfC qual scope s0.heap.objs.size f (.ref c)).qual ++ "<lambda>" = T.qual)
  (hcl:closureFor T.scope (envOfC qual scope s0.heap.objs.size f (.ref c))=pure (T.xs.zip cs))(hd0:defaultsOf T.params (envOfC qual scope s0.heap.objs.size f (.ref c))=([],[]))
  (hndC:cs.Nodup)(hlen:cs.length=T.xs.length)(hlenV:K8.length=T.xs.length)
  (Qz:∀(j:Nat) (a:Addr),cs[j]?=some a -> ∃(x:Str) (m:Nat) (v:V),(envOfC qual scope s0.heap.objs.size f (.ref c)).cells.lookup x=some a/\scope.names.lookup x=some .cell/\N[m]?=some x/\σ[m]?=some (some v)/\K8[j]?=some v)
  (hQ:∀(fi:Addr) (H2:Hp),H fi=none->(∀a∈cs,H a=none)->(∀b o,H b=some o->b≠Pt->H2 b=some o)->TabAt H2 Pt pos T.qual->iQ H2 fi T cs K8->Q (.ref fi) H2):
  wpAny (model P w) (A.deeper (envOfC qual scope s0.heap.objs.size f (.ref c))) (execs [.Return (some (.Lambda T.params T.body T.scope pos)) p2] (envOfC qual scope s0.heap.objs.size f (.ref c)))
   (λfl s'=>∃u,fl=.ret u/\CE outer P w H0 s0 Q u s') (gU CX P w K mg base N qual scope f (.ref c) A outer s0 H0 E).xe s:=by
 refine wpAny_execs_cons (wpAny_Return_some (kla_eval hd0 ?_));rw[hq];refine Ds (X:=gU CX P w K mg base N qual scope f (.ref c) A outer s0 H0 E) (n:=pos.line) I bm rfl C hT hcl λfi cd pm ctv oc vs t H1 s1 I1 SX keep hT1 hf1 hc1 hd hv=>?_;refine⟨.ref fi,rfl,.ref fi,λb=>if b∈cs then (s1.heap.get? b).map (aQ b)else H1 b,I1.os,I1.bare,?_,?_,rfl,?_⟩
 all_goals
  have cellsOf:∀a∈cs,∃x,(envOfC qual scope s0.heap.objs.size f (.ref c)).cells.lookup x=some a:=λa ha'=>by
   obtain⟨j,hj⟩:=aaL ha';obtain⟨x,m,v,h1,_⟩:=Qz j a hj;exact⟨x,h1⟩
  have fresh:∀a∈cs,s0.heap.objs.size<=a:=λa ha'=>by
   obtain⟨x,hx⟩:=cellsOf a ha';exact I1.ok.cab x a rfl hx
  have gone:∀a∈cs,H1 a=none:=λa ha'=>by
   obtain⟨x,hx⟩:=cellsOf a ha';exact I1.freeC x a hx
  have out:∀b o,H1 b=some o->b∉cs:=λb o e z=>by
   rw[gone b z]at e;cases e
 ·have U:Un (frs outer) [] H0 H1 s0.heap s1.heap:=I1.base;refine⟨U.keep,U.slot,λb o e n hx'=>?_,U.there,λb xs e=>?_,λb o v e=>?_,λb ps e=>?_⟩
  ·show (if b∈cs then _ else H1 b)=none;rw[if_neg (λz=>absurd (aaf (Heap.lt_size e) (fresh b z)) (aaZ _))];exact U.free b o e n hx'
  ·have e1:=U.tups b xs e;show (if b∈cs then _ else H1 b)=_;rw[if_neg (out b _ e1)];exact e1
  ·have e1:=U.frzs b o v e;show (if b∈cs then _ else H1 b)=_;rw[if_neg (out b _ e1)];exact e1
  ·obtain⟨more,e1⟩:=U.tbls b ps e;refine⟨more,?_⟩;show (if b∈cs then _ else H1 b)=_;rw[if_neg (out b _ e1)];exact e1
 ·intro b u' e;have e:(if b∈cs then (s1.heap.get? b).map (aQ b)else H1 b)=some u':=e;by_cases hb:b∈cs
  ·rw[if_pos hb]at e;cases q:s1.heap.get? b with
   | none=>rw[q]at e;cases e
   | some o =>
    rw[q]at e;cases e;exact eG q
  ·rw[if_neg hb]at e;refine(I1.hok b u' e).stay (λ_ _ _ q=>q) (λd q=>?_) λd xs q=>?_
   ·show (if d∈cs then _ else H1 d)=_;rw[if_neg (out d _ q)];exact q
   ·show (if d∈cs then _ else H1 d)=_;rw[if_neg (out d _ q)];exact q
 ·have kp:∀b o,H1 b=some o->(λb=>if b∈cs then (s1.heap.get? b).map (aQ b)else H1 b) b=some o:=λb o e=>by
   show (if b∈cs then _ else H1 b)=_;rw[if_neg (out b _ e)];exact e
  refine hQ fi _ SX (λa ha'=>?_) (λb o e n=>kp b o (keep b o e n)) ?_ ⟨⟨cd,pm,ctv,oc,vs,t,kp _ _ hf1,kp _ _ hc1,hd,hv⟩,λj a hj=>?_,hndC,hlen,hlenV⟩
  ·obtain⟨x,hx⟩:=cellsOf a ha';exact I.freeC x a hx
  ·obtain⟨ps,e1,e2,e3⟩:=hT1;refine⟨ps,kp _ _ e1,e2,?_⟩;rcases e3 with e3|⟨cd',oc',vs',t',e4,e5,e6⟩
   ·exact .inl e3
   ·exact .inr ⟨cd',oc',vs',t',e4,kp _ _ e5,e6⟩
  ·obtain⟨x,m,v,h1,h2,h3,h4,h5⟩:=Qz j a hj;obtain⟨mm,_,hl⟩:=I1.loc;obtain⟨u',r',l⟩:=hl m x v h3 h4 (.inr (.inl h2));have l':∃c',(envOfC qual scope s0.heap.objs.size f (.ref c)).cells.lookup x=some c'/\s1.heap.IsCell c' (some u'):=by
    rcases l with ⟨l1,_⟩|⟨_,l2⟩
    ·have l1:scope.names.lookup x=some .local:=l1;rw[h2]at l1;cases l1
    ·exact l2
   obtain⟨c',l1,co,l2,l3⟩:=l';rw[h1]at l1;cases l1;refine⟨co,v,u',h5,?_,l3,r'⟩;show (if a∈cs then (s1.heap.get? a).map (aQ a)else H1 a)=_;rw[if_pos (aah hj),l2];rfl
end
structure Dh(N:List Str)(qual:Str)(scope:Scope)(T:pG)(slots:List Nat)(Mt:Addr->List Addr):Prop where
 qn:∀(L f:Addr) (c:Value),(envOfC qual scope L f c).qual ++ "<lambda>" = T.qual
 cl:∀(L f:Addr) (c:Value),closureFor T.scope (envOfC qual scope L f c)=pure (T.xs.zip (Mt L))
 d0:∀(L f:Addr) (c:Value),defaultsOf T.params (envOfC qual scope L f c)=([],[])
 S6:∀L:Addr,(Mt L).Nodup
 len:∀L:Addr,(Mt L).length=T.xs.length
 fv:∀(L f:Addr) (c:Value) (j:Nat) (a:Addr),(Mt L)[j]?=some a -> ∃(x:Str) (m:Nat),(envOfC qual scope L f c).cells.lookup x=some a/\scope.names.lookup x=some .cell/\N[m]?=some x/\slots[j]?=some m
def Hg(H:Hp)(Pt:Addr)(pos:Pos)(T:pG)(slots:List Nat)(σ:St)(Q:VK):Prop:=
 TabAt H Pt pos T.qual /\ ∃K8:List V,(∀j m:Nat,slots[j]?=some m -> ∃v,σ[m]?=some (some v)/\K8[j]?=some v)/\K8.length=T.xs.length /\
  ∀(fi:Addr) (cs:List Addr) (H2:Hp),H fi=none->(∀a∈cs,H a=none)->(∀b o,H b=some o->b≠Pt->H2 b=some o)->TabAt H2 Pt pos T.qual->iQ H2 fi T cs K8->Q (.ref fi) H2
section
variable{P:Program}{w:World}{K:PySem.W.Frag}{mg:Str->Option Value}{base:Heap}{x qual:Str}{st:Stmt}{f c Pt:Addr}{fd:FuncData}{N ps:List Str}{k i:Nat}{sp:Sp}{T:pG}{slots:List Nat}{Mt:Addr->List Addr}{pos p1 p2:Pos}
theorem CQ{A:Around}{outer:List Env}{s s1:Shared}{H H1:Hp}{Q:VK}{E:XK}{σ:St}(M:Dh N qual (δ st) T slots Mt)(bm:BMain mg base)(C:CodeHd base c Pt)(I:Inv (gU K9 P w K mg base N qual (δ st) f (.ref c) A outer s H E) [] σ H1 s1)(h:Hg H1 Pt pos T slots σ Q):
  wpAny (model P w) (A.deeper (envOfC qual (δ st) s.heap.objs.size f (.ref c))) (execs [.Return (some (.Lambda T.params T.body T.scope pos)) p2] (envOfC qual (δ st) s.heap.objs.size f (.ref c)))
   (λfl s'=>∃u,fl=.ret u/\CE outer P w H s Q u s') (gU K9 P w K mg base N qual (δ st) f (.ref c) A outer s H E).xe s1:=by
 obtain⟨hT,K8,h1,h2,h3⟩:=h;refine Gv (cs:=Mt s.heap.objs.size) (K8:=K8) I bm C hT (M.qn _ _ _) (M.cl _ _ _) (M.d0 _ _ _) (M.S6 _) (M.len _) h2 (λj a e=>?_) (λfi H2 n1 n2 n3 n4 n5=>h3 fi _ H2 n1 n2 n3 n4 n5);obtain⟨y,m,e1,e2,e3,e4⟩:=M.fv s.heap.objs.size f (.ref c) j a e;obtain⟨v,e6,e7⟩:=h1 j m e4;exact⟨y,m,v,e1,e2,e3,e6,e7⟩
theorem Jl{sp:Addr->Sp}(S:qI N T)(hb:∀(cl:List (Str×Addr)) (pm cd ctv:Value) (us:List Value),us.length=T.ps.length->bindArgs (kla_fn "<lambda>" T.qual T.params T.body T.scope cl pm cd ctv) ⟨us,[]⟩=pure (T.ps.zip us))
  (h:∀(f:Addr) (vs:List V) (H:Hp) (Q:VK),sp f vs H Q E0->vs.length=T.ps.length /\ ∃cs K8,iQ H f T cs K8 /\
   ∀(cd:Addr) (A:Around) (outer:List Env) (s:Shared),eY k (A.deeper (envX T.qual T.scope s.heap.objs.size f (.ref cd) (T.xs.zip cs))) -> ∃t,PE (oY P w K mg base N T.qual T.scope f (.ref cd) (T.xs.zip cs) A outer s (hide H cs)) T.body t/\t (start N (vs++K8)) (hide H cs) λv H'=>Q v (over H cs H')):
  o7 P w K mg base (k+1) sp:=by
 intro f A outer s H us vs Q hr e0 r hsp;obtain⟨hl,cs,K8,ca,hbody⟩:=h f vs H Q hsp;exact Fq S hr e0 ca (λcl pm cd ctv=>hb cl pm cd ctv us (by rw[<-r.length];exact hl)) r hl λcd hr'=>hbody cd A outer s hr'
end
section
variable{X:Cx}{π:List (Addr×Obj)}{σ:St}{H:Hp}{s:Shared}{h':Heap}
theorem Inv.turnN{ch:List Addr}{p:Addr}{o:HO}{t':Nat}(I:Inv X π σ H s)(hf:∀b∈ch,fG X π H b)
  (k:∀b u,b∉ch->s.heap.get? b=some u->h'.get? b=some u)(hp:s.heap.objs.size<=p)
  (new:bI X.prog X.w (upd H p o) h' p o):Inv X π σ (upd H p o) { s with heap:=h',toks:=t' }:=by
 have hn:=I.hok.fresh hp;have ne:∀b u,H b=some u->b∉ch:=λb u q z=>by rw[(hf b z).1]at q;cases q
 have up:∀b u,H b=some u->upd H p o b=some u:=λb u q=>by rw[aD (aB q hn)];exact q
 refine I.step (g':=s.gens) (d':=s.drawn) (ch:=ch) (λb hb=>?_) (λb u _ _ hx q _=>k b u hx q) (λb u _ _ hx q _=>⟨u.slots,k b u hx q⟩)
  (λb u _ q n=>by rw[aD (aak (aaf (Heap.lt_size q) hp))];exact n) (λb u hx q=>⟨u,k b u hx q⟩)
  (λb xs q=>up _ _ q) (λb ob u q=>up _ _ q) (λb ps q=>⟨#[],by rw[up _ _ q];simp⟩) (λm hm=>?_) (λb u q=>?_) I.bare
 ·have fe:=hf b hb;exact⟨fe.2.2.2.1,fe.2.1,fe.2.2.2.2.1,fe.2.2.2.2.2⟩
 ·obtain⟨ob,es,ep,ho,r⟩:=hm;exact⟨ob,es,ep,k _ ob (λz=>(hf _ z).2.1 rfl) ho,r⟩
 ·by_cases hb:b=p
  ·subst hb;rw[aq]at q;cases q;exact new
  ·rw[aD hb]at q;refine(I.hok b u q).stay (λc v hc r=>k c v ?_ r) (λc r=>up _ _ r) λc xs r=>up _ _ r;rcases hc with rfl|z
   ·exact ne _ _ q
   ·exact ne _ _ z
theorem Inv.turnedN{ch:List Addr}{t':Nat}(I:Inv X π σ H s)(hf:∀b∈ch,fG X π H b)
  (k:∀b u,b∉ch->s.heap.get? b=some u->h'.get? b=some u):Inv X π σ H { s with heap:=h',toks:=t' }:=by
 have ne:∀b u,H b=some u->b∉ch:=λb u q z=>by rw[(hf b z).1]at q;cases q
 refine I.step (g':=s.gens) (d':=s.drawn) (ch:=ch) (λb hb=>?_) (λb u _ _ hx q _=>k b u hx q) (λb u _ _ hx q _=>⟨u.slots,k b u hx q⟩)
  (λ_ _ _ _ n=>n) (λb u hx q=>⟨u,k b u hx q⟩)
  (λ_ _ q=>q) (λ_ _ _ q=>q) (λb ps q=>⟨#[],by rw[q];simp⟩) (λm hm=>?_) (λb u q=>?_) I.bare
 ·have fe:=hf b hb;exact⟨fe.2.2.2.1,fe.2.1,fe.2.2.2.2.1,fe.2.2.2.2.2⟩
 ·obtain⟨ob,es,ep,ho,r⟩:=hm;exact⟨ob,es,ep,k _ ob (λz=>(hf _ z).2.1 rfl) ho,r⟩
 ·refine(I.hok b u q).stay (λc v hc r=>k c v ?_ r) (λc r=>r) λc xs r=>r;rcases hc with rfl|z
  ·exact ne _ _ q
  ·exact ne _ _ z
end
def Pg(K:PySem.W.Frag)(a b:Addr):It:=
  ⟨λi H=>∃xs ys x y,K5 K H a xs/\K5 K H b ys/\xs[i]?=some x/\ys[i]?=some y,
   λi H v H'=>∃p x y,H p=none/\v=.ref p/\H'=upd H p (.tup [x,y])/\(∀xs,K5 K H a xs->xs[i]?=some x) /\ ∀ys,K5 K H b ys->ys[i]?=some y,
   λi H=>∃xs ys,K5 K H a xs/\K5 K H b ys/\(xs.length<=i\/ys.length<=i)⟩
structure vL(z TI TO i1 i2:Addr):Prop where
 TIz:TI≠z
 TOz:TO≠z
 i1z:i1≠z
 i2z:i2≠z
 TITO:TI≠TO
 TIi1:TI≠i1
 TIi2:TI≠i2
 TOi1:TO≠i1
 TOi2:TO≠i2
 i12:i1≠i2
def Hh(a b z TI TO i1 i2:Addr)(i:Nat)(h:Heap):Prop:=IsZip h z TI TO .none/\IsPair h TI (.ref i1) (.ref i2)/\(∃x y,IsPair h TO x y)/\h.IsListIter i1 a i/\h.IsListIter i2 b i
theorem fZ{h:Heap}{a b:Addr}{o u:Obj}(ho:h.get? a=some o)(hu:h.get? b=some u)(hc:o.cls≠u.cls):a≠b:=λz=>by
 subst z;rw[ho]at hu;cases hu;exact hc rfl
theorem qW{h:Heap}{a b z TI TO i1 i2:Addr}{i:Nat}{xs ys:Array Value}(D:vL z TI TO i1 i2)(st:Hh a b z TI TO i1 i2 i h)(h1:h.IsList a xs)(h2:h.IsList b ys):ZipApart z TI TO i1 i2 a b:=by
 obtain⟨hz,hTI,⟨x,y,hTO⟩,⟨o1,e1,c1,_⟩,⟨o2,e2,c2,_⟩⟩:=st;obtain⟨oa,ea,ca,_⟩:=h1;obtain⟨ob,eb,cb,_⟩:=h2;exact⟨D.TIz,D.TOz,D.i1z,D.i2z,D.TITO,D.TIi1,D.TIi2,D.TOi1,D.TOi2,D.i12,
  fZ ea hz (by rw[ca];show Value.type "list" ≠ Value.type "zip";decide),fZ ea hTO (by rw[ca];show Value.type "list" ≠ Value.type "tuple";decide),fZ ea e1 (by rw[ca,c1];decide),fZ ea e2 (by rw[ca,c2];decide),
  fZ eb hz (by rw[cb];show Value.type "list" ≠ Value.type "zip";decide),fZ eb hTO (by rw[cb];show Value.type "list" ≠ Value.type "tuple";decide),fZ eb e1 (by rw[cb,c1];decide),fZ eb e2 (by rw[cb,c2];decide)⟩
theorem Dt{P:Program}{w:World}{K:PySem.W.Frag}{elts:List Expr}{x1:Nat}{tpos:Pos}(a b z TI TO i1 i2:Addr)(D:vL z TI TO i1 i2):
  Turn P w K (.Tuple elts x1 tpos) (Pg K a b) [z,TI,TO,i1,i2] z (Hh a b z TI TO i1 i2) where
 mem:=by simp
 obj:=λi h st c hc=>by
  obtain⟨hz,hTI,⟨x,y,hTO⟩,⟨o1,e1,c1,d1⟩,⟨o2,e2,c2,d2⟩⟩:=st;have hc':c=z\/c=TI\/c=TO\/c=i1\/c=i2:=by simpa using hc
  rcases hc' with rfl|rfl|rfl|rfl|rfl
  ·exact⟨_,hz,λv q=>by cases q⟩
  ·exact⟨_,hTI,λv q=>by cases q⟩
  ·exact⟨_,hTO,λv q=>by cases q⟩
  ·exact⟨_,e1,λv q=>by rw[d1]at q;cases q⟩
  ·exact⟨_,e2,λv q=>by rw[d2]at q;cases q⟩
 keep:=λi h h' st k=>by
  obtain⟨hz,hTI,⟨x,y,hTO⟩,h1,h2⟩:=st;exact⟨k z (by simp) _ hz,k TI (by simp) _ hTI,⟨x,y,k TO (by simp) _ hTO⟩,h1.at λo q=>k i1 (by simp) o q,h2.at λo q=>k i2 (by simp) o q⟩
 item:=by
  intro X hP hw hK hc i π s σ H E I hf st hg;subst hP hw hK;obtain⟨xs,ys,x,y,hq1,hq2,hx,hy⟩:=hg;obtain⟨Ou,Pj,p1,hz1⟩:=I.list hq1;obtain⟨is2,Pk,p2,hz2⟩:=I.list hq2;obtain⟨u1,hu1,ru1⟩:=Pj.get hx;obtain⟨u2,hu2,ru2⟩:=Pk.get hy;have D7:=qW D st p1.isList p2.isList;obtain⟨hz,hTI,⟨v1,v2,hTO⟩,st1,st2⟩:=id st;refine wpAny_pyNext_zip_item D7 hz hTI hTO st1 st2 p1.isList p2.isList (x:=u1) (by simpa using hu1) (y:=u2) (by simpa using hu2) λh1 a1 a2 a3 a4 a5 a6 hk=>?_;refine⟨_,rfl,wpAny_letOwnedTupleGo_zip a1 λh2 he2 hs2=>?_⟩;have lt:∀{c o},s.heap.get? c=some o->s.heap.objs.size≠c:=λe=>abH (Heap.lt_size e)
  have g2:h2.get? s.heap.objs.size=some { cls:=.type "tuple",data:=.seq #[u1,u2] }:=(hs2.2 _ (lt hz)).trans a5
  have kk:∀b o,b∉[z,TI,TO,i1,i2]->s.heap.get? b=some o->h2.get? b=some o:=λb o hb q =>
   (hs2.2 b (λe=>hb (by simp[e]))).trans (hk b o (λe=>hb (by simp[e])) (λe=>hb (by simp[e])) (λe=>hb (by simp[e])) (λe=>hb (by simp[e])) q)
  have new:bI X.prog X.w (upd H s.heap.objs.size (.tup [x,y])) h2 s.heap.objs.size (.tup [x,y]):=
   ⟨(by show 2<=sizeLine;decide),[u1,u2],.cons ru1 (.cons ru2 .nil),_,g2,rfl,_,rfl⟩
  have I2:=I.turnN (h':=h2) (t':=s.toks) hf kk (aad _) new;have hn:H s.heap.objs.size=none:=I.hok.fresh (aad _);refine⟨.ref s.heap.objs.size,_,I2,rfl,⟨_,x,y,hn,rfl,rfl,λzs hq=>by rw[I.list_inj hq hq1];exact hx,λzs hq=>by rw[I.list_inj hq hq2];exact hy⟩,
   ⟨he2,(hs2.2 _ D.TIz).trans (hk _ _ D.TIz D.TITO D.TIi1 D.TIi2 hTI),⟨u1,u2,(hs2.2 _ D.TOz).trans a2⟩,a3.extBut hs2.extBut D.i1z,a4.extBut hs2.extBut D.i2z⟩,λb hb=>?_⟩
  have hbs:b≠s.heap.objs.size:=by
   obtain⟨o1,e1,_⟩:=st1;obtain⟨o2,e2,_⟩:=st2;have hc':b=z\/b=TI\/b=TO\/b=i1\/b=i2:=by simpa using hb
   rcases hc' with rfl|rfl|rfl|rfl|rfl
   ·exact(lt hz).symm
   ·exact(lt hTI).symm
   ·exact(lt hTO).symm
   ·exact(lt e1).symm
   ·exact(lt e2).symm
  rw[aD hbs];exact(hf b hb).1
 done:=by
  intro X hP hw hK hc i π s σ H E I hf st hg;subst hP hw hK;obtain⟨xs,ys,hq1,hq2,hx⟩:=hg;obtain⟨Ou,Pj,p1,hz1⟩:=I.list hq1;obtain⟨is2,Pk,p2,hz2⟩:=I.list hq2;have D7:=qW D st p1.isList p2.isList;obtain⟨hz,hTI,⟨v1,v2,hTO⟩,st1,st2⟩:=id st;have l1:=Pj.length;have l2:=Pk.length;refine wpAny_pyNext_zip_end (I.ok.hd hc) D7 hz hTI hTO st1 st2 p1.isList p2.isList ?_ λh' hk=>⟨rfl,I.turnedN (t':=s.toks) hf λb o hb q=>hk b o (λe=>hb (by simp[e])) (λe=>hb (by simp[e])) (λe=>hb (by simp[e])) (λe=>hb (by simp[e])) q⟩;rcases hx with hx|hx
  ·exact .inl (by simp;lia)
  ·exact .inr (by simp;lia)
 self:=λ_ _ _ _ _ st h=>wpAny_pyIter_zip st.1 h
section
variable{X:Cx}
inductive Jo(K:PySem.W.Frag)(R:It->Hp->Prop)(vs:List V)(H1:Hp):Prop
 | mk (a b xs ys:_) (_:vs=[.ref a,.ref b]) (_:K5 K H1 a xs) (_:K5 K H1 b ys) (_:R (Pg K a b) H1)
def KC(K:PySem.W.Frag)(ta:TA):TI:=λ σ H R=>ta σ H λvs H1=>Jo K R vs H1
theorem qp{a b:Expr}{ta:TA}{p pos:Pos}{elts:List Expr}{x1:Nat}{tpos:Pos}(hg:Gl X "zip")(hm:X.mg "zip" = none)(hv:bootBuiltins "zip" = some (.type "zip"))(ha:PA X [a,b] ta)
  (hs:starEach [a,b] X.env=[(false,eval a X.env),(false,eval b X.env)]:=by rfl)(hs2:starEach [b] X.env=[(false,eval b X.env)]:=by rfl):
  PI X (.Tuple elts x1 tpos) (.Call (.Name "zip" p) [a,b] [] pos) (KC X.K ta):=by
 intro π s σ H R I h;refine Call_ (fu I hg hm hv (PyProof.Rows.callWith_type1 (K7 (ha pos π s σ H _ I h) λus s1 ⟨vs,H1,I1,r1,q1⟩=>?_) (by rw[hs,hs2]) (by rw[hs2];rfl)));obtain⟨l1,l2,xs,ys,e,hq1,hq2,q⟩:=q1;subst e;cases r1 with
 | cons r rr =>
  cases rr with
  | cons r' rr =>
   cases rr;cases r;cases r';obtain⟨Ou,Pj,p1,hz1⟩:=I1.list hq1;obtain⟨is2,Pk,p2,hz2⟩:=I1.list hq2;refine call_zip_2 p1.isList p2.isList λh' hz hTI hTO hi1 hi2 hsz hk=>?_;refine wpAny_pyIter_zip hz ?_;have I2:Inv X π σ H1 { s1 with heap:=h' }:=I1.kept (t':=s1.toks) hk;have D:vL (s1.heap.objs.size+4) (s1.heap.objs.size+2) (s1.heap.objs.size+3) s1.heap.objs.size (s1.heap.objs.size+1):=by
    have k:∀n i j:Nat,i≠j->n+i≠n+j:=λn i j h=>by lia
    exact⟨k _ 2 4 (by decide),k _ 3 4 (by decide),k _ 0 4 (by decide),k _ 1 4 (by decide),k _ 2 3 (by decide),k _ 2 0 (by decide),k _ 2 1 (by decide),k _ 3 0 (by decide),k _ 3 1 (by decide),k _ 0 1 (by decide)⟩
   refine⟨s1.heap.objs.size+4,_,_,Pg X.K l1 l2,H1,rfl,I2,Dt l1 l2 _ _ _ _ _ D,⟨hz,hTI,⟨_,_,hTO⟩,hi1,hi2⟩,λc hc=>?_,q⟩;have hle:s1.heap.objs.size<=c:=by
    have hc':c=s1.heap.objs.size+4\/c=s1.heap.objs.size+2\/c=s1.heap.objs.size+3\/c=s1.heap.objs.size\/c=s1.heap.objs.size+1:=by simpa using hc
    rcases hc' with rfl|rfl|rfl|rfl|rfl
    ·exact abo _ _
    ·exact abo _ _
    ·exact abo _ _
    ·exact aad _
    ·exact abo _ _
   exact I1.fpOk hle (I1.hok.fresh hle)
end
theorem uL{K:PySem.W.Frag}{a b:Addr}{xs ys:List V}{g:TG}{tb:TS}{D:Ends}{σ:St}{H:Hp}(Pv:Nat->St->Hp->Prop)(h0:Pv 0 σ H)(hl:∀i σ H,i<=min xs.length ys.length->Pv i σ H->K5 K H a xs/\K5 K H b ys)
  (hs:∀i x y σ H p,xs[i]?=some x->ys[i]?=some y->Pv i σ H->H p=none->g (.ref p) σ (upd H p (.tup [x,y])) λ σ2 H2=>tb { D with nx:=Pv (i+1),ct:=Pv (i+1),bk:=D.nx } σ2 H2)(hd:∀σ H,Pv (min xs.length ys.length) σ H->D.nx σ H):
  ∃W:Nat->Nat->St->Hp->Prop,(∃m,W 0 m σ H) /\ ∀i m σ H,W i m σ H ->
   ((Pg K a b).stop i H/\D.nx σ H)\/((Pg K a b).go i H /\ ∃N:St->Hp->Prop,(∀σ' H',N σ' H' -> ∃m',m'<m/\W (i+1) m' σ' H') /\ ∀x H',(Pg K a b).Nk i H x H'->g x σ H' λ σ2 H2=>tb { D with nx:=N,ct:=N,bk:=D.nx } σ2 H2):=by
 refine⟨λi m σ H=>m=min xs.length ys.length - i/\i<=min xs.length ys.length/\Pv i σ H,⟨min xs.length ys.length,rfl,aaq _,h0⟩,?_⟩;rintro i m σ H ⟨rfl,hi,p⟩;obtain⟨q1,q2⟩:=hl i σ H hi p;by_cases hlt:i<min xs.length ys.length
 ·have k1:i<xs.length:=by lia
  have k2:i<ys.length:=by lia
  refine .inr ⟨⟨xs,ys,xs[i],ys[i],q1,q2,aac k1,aac k2⟩,Pv (i+1),λ σ' H' p'=>⟨min xs.length ys.length - (i+1),by lia,rfl,hlt,p'⟩,λx H' y=>?_⟩;obtain⟨c,x,y,hn,e1,e2,hx,hy⟩:=y;subst e1 e2;exact hs i x y σ H c (hx xs q1) (hy ys q2) p hn
 ·have e:i=min xs.length ys.length:=by lia
  subst e;exact .inl ⟨⟨xs,ys,q1,q2,by lia⟩,hd σ H p⟩
end L2
namespace Tw
def brk:List Int->Int->List Int
 | [],u=>aaQ u.toNat 0
 | d::r,u=>aaQ (u - d).toNat 0++1::brk r (d+1)
end Tw
namespace L2
open PySem PySem.Spec PyProof.Rows
section
variable(P:Program)(w:World)
end
section
variable{P:Program}{w:World}{H H':Hp}{h h':Heap}{a:Addr}{o:HO}
end
section
variable{P:Program}{w:World}{H:Hp}{h h':Heap}{x e:Addr}{o':HO}
end
section
variable{fs fs' ex ex':List Addr}{H H1 H2:Hp}{h h1 h2 h':Heap}{a x e:Addr}{o:HO}
end
section
variable{X:Cx}{π:List (Addr×Obj)}{σ:List (Option V)}{H H':Hp}{s:Shared}{h':Heap}
end
section
variable{X:Cx}
variable{a b:Expr}{ta tb:TE}{pos:Pos}
variable{tA Qt:TT}{rest:List Expr}
end
section
variable{X:Cx}{π:List (Addr×Obj)}{σ:St}{H:Hp}{s:Shared}{a:Addr}{xs ys:List V}
end
section
variable{X:Cx}{π:List (Addr×Obj)}{σ:St}{H:Hp}{s:Shared}{E:Value->Shared->Prop}
end
section
variable{X:Cx}{st:Stmt}{rest:List Stmt}{t u:TS}{e:Expr}{te:TE}{pos:Pos}
end
section
variable{X:Cx}{pos:Pos}
end
section
variable{X:Cx}{pos:Pos}
end
section
variable{X:Cx}{tg:Expr}
end
section
variable{X:Cx}{a b c:Expr}{ta tb tc:TE}{pos:Pos}
end
section
variable{X:Cx}{a b c:Expr}{ta tb tc:TE}{pos:Pos}
end
section
variable{prog:Program}{w:World}{A:Around}{E:Value->Shared->Prop}{s:Shared}{K:PySem.W.Frag}{x dx C f:Addr}{mA:Str->Option Value}{name:Str}{v:Value}
end
section
variable{P:Program}{w:World}{H H':Hp}{h h':Heap}{a C dx:Addr}{fs fs':List (Str×V)}
end
section
variable{X:Cx}{π:List (Addr×Obj)}{σ:St}{H:Hp}{s:Shared}{a C dx:Addr}{fs:List (Str×V)}{f:Str}{v:V}{A:Around}{E:Value->Shared->Prop}
end
section
variable{X:Cx}{o e value:Expr}{f:Str}{pos pos' tpos:Pos}{ta tv:TE}
end
section
variable{X:Cx}{π:List (Addr×Obj)}{σ:St}{H:Hp}{s:Shared}{A:Around}{E:Value->Shared->Prop}{Q:Value->Shared->Prop}{c:Value}{b:Bool}
end
section
variable{X:Cx}{e:Expr}{es:List Expr}{te:TE}{t:TA}{pos:Pos}
end
section
variable{X:Cx}{π:List (Addr×Obj)}{σ:St}{H:Hp}{s s':Shared}
end
section
variable{X:Cx}{CX:Mx}{k:Nat}{f C:Addr}{fd:FuncData}{ps:List Str}{sp:Sp}{Oa:List V}{ds:List Value}{E:XK}{x m:Str}{p pos apos:Pos}{e o:Expr}{es:List Expr}{ta:TE}{t:TA}
end
section
variable{X:Cx}{CX:Mx}{k:Nat}{f C:Addr}{fd:FuncData}{ps ks:List Str}{sp:Sp}{E:XK}{x m:Str}{p pos apos kpos:Pos}{e o:Expr}{es:List Expr}{kws:List Keyword}{te ta:TE}{t tk:TA}{nm:Option Str}
variable{g:List Value->List Value->List Value}{gV:List V->List V->List V}
end
section
variable{X:Cx}{x:Str}{p pos:Pos}{e:Expr}{es:List Expr}{t:TA}{id T:String}{r:List V->Hp->VK->Prop}
end
section
variable{κ:Type}[DecidableEq κ]
def gn(kvs:List (κ×V))(k:κ):Option V:=(kvs.find? λkv=>decide (kv.1=k)).map (·.2)
def putK(kvs:List (κ×V))(k:κ)(v:V):List (κ×V):=
 if (kvs.any λkv=>decide (kv.1=k))=true then kvs.map (λkv=>if kv.1=k then (kv.1,v)else kv)else kvs++[(k,v)]
def Hj(kvs:List (κ×V))(k:κ):List (κ×V):=kvs.filter λkv=>decide (kv.1≠k)
theorem cY{p:κ×V}{r:List (κ×V)}{k:κ}(e:p.1=k):gn (p::r) k=some p.2:=by simp[gn,ab8,e]
theorem dg{p:κ×V}{r:List (κ×V)}{k:κ}(e:¬p.1=k):gn (p::r) k=gn r k:=by simp[gn,ab8,e]
theorem iM(k:κ):∀kvs:List (κ×V),(kvs.any λkv=>decide (kv.1=k))=(gn kvs k).isSome
 | []=>rfl
 | p::r=>by
  rw[adA];by_cases e:p.1=k
  ·simp only[cY e,decide_eq_true e,Bool.true_or,adB]
  ·rw[dg e,decide_eq_false e,Bool.false_or];exact iM k r
theorem vR(k j:κ)(y:V):∀kvs:List (κ×V),gn (kvs.map λkv=>if kv.1=k then (kv.1,y)else kv) j=(gn kvs j).map λx=>if j=k then y else x
 | []=>rfl
 | p::r=>by
  have ih:=vR k j y r;rw[aaz];by_cases h:p.1=k
  ·rw[if_pos h];by_cases e:p.1=j
   ·rw[cY (p:=(p.1,y)) e,cY e,acp,if_pos (e.symm.trans h)]
   ·rw[dg (p:=(p.1,y)) e,dg e,ih]
  ·rw[if_neg h];by_cases e:p.1=j
   ·rw[cY (p:=p) e,cY e,acp,if_neg (λz=>h (e.trans z))]
   ·rw[dg (p:=p) e,dg e,ih]
theorem tR(k j:κ)(y:V):∀kvs:List (κ×V),gn kvs k=none->gn (kvs++[(k,y)]) j=if j=k then some y else gn kvs j
 | [],_=>by
  by_cases e:k=j
  ·rw[if_pos e.symm];exact cY (p:=(k,y)) e
  ·rw[if_neg (λz=>e z.symm)];exact dg (p:=(k,y)) e
 | p::r,hn=>by
  rw[List.cons_append];have hk:¬p.1=k:=λz=>by rw[cY z]at hn;cases hn
  rw[dg hk]at hn;have ih:=tR k j y r hn;by_cases e:p.1=j
  ·rw[cY e,cY e,if_neg (λz=>hk (e.trans z))]
  ·rw[dg e,dg e,ih]
theorem Fe(kvs:List (κ×V))(k j:κ)(y:V):gn (putK kvs k y) j=if j=k then some y else gn kvs j:=by
 unfold putK;by_cases a:(kvs.any λkv=>decide (kv.1=k))=true
 ·rw[if_pos a,vR];rw[iM]at a;by_cases e:j=k
  ·obtain⟨x,hx⟩:=acP.mp a;rw[if_pos e,e,hx,acp,if_pos rfl]
  ·rw[if_neg e];cases gn kvs j with
   | none=>rfl
   | some x=>rw[acp,if_neg e]
 ·rw[if_neg a];refine tR k j y kvs ?_;rw[iM]at a;cases q:gn kvs k with
  | none=>rfl
  | some x=>rw[q]at a;exact(a rfl).elim
theorem o6(kvs:List (κ×V))(k:κ)(v:V):(putK kvs k v).length<=kvs.length+1:=by
 unfold putK;split
 ·rw[aaa];lia
 ·rw[aae,aan,ad4];lia
theorem DY{kvs:List (κ×V)}{k:κ}(v:V)(h:gn kvs k=none):putK kvs k v=kvs++[(k,v)]:=by
 unfold putK;rw[iM,h];exact if_neg (by decide)
theorem p6.isSome_eq{o:Option V}{u:Option Value}(r:p6 o u):o.isSome=u.isSome:=by
 cases o with
 | none=>cases u with
  | none=>rfl
  | some _=>exact(show False from r).elim
 | some _=>cases u with
  | none=>exact(show False from r).elim
  | some _=>rfl
theorem KV.val{kvs:List (κ×V)}{vs:List (κ×Value)}(r:KV kvs vs)(k:κ):p6 (gn kvs k) (valueAt vs k):=by
 unfold KV at r
 induction r with
 | nil=>exact True.intro
 | @cons p q ps qs h t ih =>
  obtain⟨h1,h2⟩:=h;by_cases e:p.1=k
  ·have e':q.1=k:=h1.symm.trans e;have b:valueAt (q::qs) k=some q.2:=by simp[valueAt,ab8,e']
   rw[cY e,b];exact h2
  ·have e':¬q.1=k:=λz=>e (h1.trans z);have b:valueAt (q::qs) k=valueAt qs k:=by simp[valueAt,ab8,e']
   rw[dg e,b];exact ih
theorem KV.any{kvs:List (κ×V)}{vs:List (κ×Value)}(r:KV kvs vs)(k:κ):(kvs.any λkv=>decide (kv.1=k))=vs.any λkv=>decide (kv.1=k):=by
 unfold KV at r
 induction r with
 | nil=>rfl
 | cons h t ih=>rw[adA,adA,ih,h.1]
theorem KV.repl{kvs:List (κ×V)}{vs:List (κ×Value)}(r:KV kvs vs)(k:κ){y:V}{u:Value}(ry:RelV y u):
  KV (kvs.map λkv=>if kv.1=k then (kv.1,y)else kv) (vs.map λkv=>if kv.1=k then (kv.1,u)else kv):=by
 unfold KV at r ⊢
 induction r with
 | nil=>exact .nil
 | @cons p q ps qs h t ih =>
  rw[aaz,aaz];refine .cons ?_ ih;obtain⟨h1,h2⟩:=h;by_cases e:p.1=k
  ·rw[if_pos e,if_pos (h1.symm.trans e)];exact⟨h1,ry⟩
  ·rw[if_neg e,if_neg (λz=>e (h1.trans z))];exact⟨h1,h2⟩
theorem KV.put{kvs:List (κ×V)}{vs:List (κ×Value)}(r:KV kvs vs)(k:κ){y:V}{u:Value}(ry:RelV y u):KV (putK kvs k y) (stored vs k u):=by
 unfold putK stored;rw[r.any k];by_cases e:(vs.any λkv=>decide (kv.1=k))=true
 ·rw[if_pos e,if_pos e];exact r.repl k ry
 ·rw[if_neg e,if_neg e];exact Paired.snoc r ⟨rfl,ry⟩
theorem KV.drop{kvs:List (κ×V)}{vs:List (κ×Value)}(r:KV kvs vs)(k:κ):KV (Hj kvs k) (without vs k):=by
 unfold KV at r ⊢;unfold Hj without
 induction r with
 | nil=>exact .nil
 | @cons p q ps qs h t ih =>
  obtain⟨h1,h2⟩:=h;rw[aau,aau];by_cases e:p.1=k
  ·have a:¬decide (p.1≠k)=true:=by simp[e]
   have b:¬decide (q.1≠k)=true:=by simp[h1.symm.trans e]
   rw[if_neg a,if_neg b];exact ih
  ·have e':¬q.1=k:=λz=>e (h1.trans z);have a:decide (p.1≠k)=true:=by simp[e]
   have b:decide (q.1≠k)=true:=by simp[e']
   rw[if_pos a,if_pos b];exact .cons ⟨h1,h2⟩ ih
theorem KV.length{kvs:List (κ×V)}{vs:List (κ×Value)}(r:KV kvs vs):kvs.length=vs.length:=Paired.length r
end
theorem Dn{P:Program}{w:World}{k:Key}{u:Value}(r:RelV (kV k) u):(dh P w).is k u=true:=by
 cases k with
 | inl i=>obtain⟨t,e⟩:=(show ∃t,u=Value.int i t from r);subst e;exact xN P w i t
 | inr x=>obtain⟨t,e⟩:=(show ∃t,u=Value.str x t from r);subst e;exact wX P w x t
theorem tY{P:Program}{w:World}:∀{ks:List Key}{us:List Value},Vals (ks.map kV) us->ItemsAre (dh P w) ks us
 | [],_,r=>by rw[ac7]at r;cases r;exact .nil
 | k::ks,_,r=>by
  rw[aaz]at r;cases r with
  | cons h t=>exact .cons (Dn h) (tY t)
abbrev KT(H:Hp):List (List Key×V)->List (List Key×Addr×Value)->Prop:=Paired λp q=>p.1=q.1/\H q.2.1=some (.tup (p.1.map kV))/\RelV p.2 q.2.2
theorem KT.val{H:Hp}{kvs:List (List Key×V)}{xs:List (List Key×Addr×Value)}(r:KT H kvs xs)(k:List Key):p6 (gn kvs k) ((atKey xs k).map (·.2)):=by
 induction r with
 | nil=>exact True.intro
 | @cons p q ps qs h t ih =>
  obtain⟨h1,_,h2⟩:=h;by_cases e:p.1=k
  ·have e':q.1=k:=h1.symm.trans e;have b:atKey (q::qs) k=some q.2:=by simp[atKey,ab8,e']
   rw[cY e,b];exact h2
  ·have e':¬q.1=k:=λz=>e (h1.trans z);have b:atKey (q::qs) k=atKey qs k:=by simp[atKey,ab8,e']
   rw[dg e,b];exact ih
theorem KT.repl{H:Hp}{kvs:List (List Key×V)}{xs:List (List Key×Addr×Value)}(r:KT H kvs xs)(k:List Key){y:V}{u:Value}(ry:RelV y u):
  KT H (kvs.map λkv=>if kv.1=k then (kv.1,y)else kv) (xs.map (putAt k u)):=by
 induction r with
 | nil=>exact .nil
 | @cons p q ps qs h t ih =>
  rw[aaz,aaz];refine .cons ?_ ih;obtain⟨h1,h2,h3⟩:=h;unfold putAt;by_cases e:p.1=k
  ·rw[if_pos e,if_pos (h1.symm.trans e)];exact⟨h1,h2,ry⟩
  ·rw[if_neg e,if_neg (λz=>e (h1.trans z))];exact⟨h1,h2,h3⟩
theorem KT.put{H:Hp}{kvs:List (List Key×V)}{xs:List (List Key×Addr×Value)}(r:KT H kvs xs)(k:List Key){b:Addr}{y:V}{u:Value}(hb:H b=some (.tup (k.map kV)))(ry:RelV y u):
  KT H (putK kvs k y) (storedH xs k b u):=by
 have e:(kvs.any λkv=>decide (kv.1=k))=(atKey xs k).isSome:=by
  rw[iM,(r.val k).isSome_eq,Option.isSome_map]
 unfold putK storedH;rw[e];by_cases q:(atKey xs k).isSome=true
 ·rw[if_pos q,if_pos q];exact r.repl k ry
 ·rw[if_neg q,if_neg q];exact Paired.snoc r ⟨rfl,hb,ry⟩
theorem KT.keeps{H H':Hp}{kvs:List (List Key×V)}{xs:List (List Key×Addr×Value)}(r:KT H kvs xs)(ht:∀b ys,H b=some (.tup ys)->H' b=some (.tup ys)):KT H' kvs xs:=
 Paired.mapP r λ_ _ z=>⟨z.1,ht _ _ z.2.1,z.2.2⟩
section
variable{P:Program}{w:World}{H:Hp}{h:Heap}{a:Addr}
theorem Hd{u:HO}(ok:Lf P w H h)(e:Rd H a u):bI P w H h a u:=e.ok ok
theorem Dj{kvs:List (Key×V)}(ok:Lf P w H h)(e:Rd H a (.dK kvs)):kvs.length<=sizeLine/\(a == sysModules)=false /\ ∃vs,KV kvs vs/\h.DictOf (dh P w) a vs:=
 show bI P w H h a (.dK kvs)from Hd ok e
theorem J0{kvs:List (Key×V)}(ok:Lf P w H h)(e:H a=some (.dK kvs)):kvs.length<=sizeLine/\(a == sysModules)=false /\ ∃vs,KV kvs vs/\h.DictOf (dh P w) a vs:=Dj ok (.inl e)
theorem yQ{ks:List Key}(ok:Lf P w H h)(e:H a=some (.tup (ks.map kV))):(tupleKind (dh P w)).is h ks a:=by
 obtain⟨_,its,r,o,h1,h2,n,h3⟩:=(show bI P w H h a (.tup (ks.map kV))from ok a _ e);exact⟨o,its.toArray,n,h1,h2,h3,by simpa using tY r⟩
theorem CW{kvs:List (List Key×V)}(ok:Lf P w H h)(e:Rd H a (.dT kvs)):kvs.length<=sizeLine/\(a == sysModules)=false /\
  ∃xs,KT H kvs xs/\h.DictOfH (tupleKind (dh P w)) a xs:=by
 obtain⟨z,y,xs,r,o,es,ep,h1,h2,h3,h4,h5⟩:=(show bI P w H h a (.dT kvs)from Hd ok e);refine⟨z,y,xs,r,o,es,ep,h1,h2,h3,h4,λx hx=>?_,h5⟩;have all:∀{l:List (List Key×V)} {m:List (List Key×Addr×Value)},KT H l m -> ∀x∈m,(tupleKind (dh P w)).is h x.1 x.2.1:=by
  intro l m q
  induction q with
  | nil=>intro x hx;exact nomatch hx
  | @cons p q ps qs hq t ih =>
   intro x hx;rcases aaA.mp hx with e|hx
   ·subst e;exact yQ ok (by rw[<-hq.1];exact hq.2.1)
   ·exact ih x hx
 exact all r x hx
theorem JG{kvs:List (List Key×V)}(ok:Lf P w H h)(e:H a=some (.dT kvs)):kvs.length<=sizeLine/\(a == sysModules)=false /\
  ∃xs,KT H kvs xs/\h.DictOfH (tupleKind (dh P w)) a xs:=CW ok (.inl e)
end
def wy(H:Hp)(a:Addr)(y:V)(r:Option V):Prop:=
 (∃kvs k,Rd H a (.dK kvs)/\y=kV k/\r=gn kvs k) \/ ∃kvs k b,Rd H a (.dT kvs)/\y=.ref b/\H b=some (.tup (k.map kV))/\r=gn kvs k
def Cq(H:Hp)(a:Addr)(y v:V)(H':Hp):Prop:=
 (∃kvs k,H a=some (.dK kvs)/\y=kV k/\kvs.length<sizeLine/\H'=upd H a (.dK (putK kvs k v))) \/
 ∃kvs k b,H a=some (.dT kvs)/\y=.ref b/\H b=some (.tup (k.map kV))/\kvs.length<sizeLine/\H'=upd H a (.dT (putK kvs k v))
theorem wy.k{H:Hp}{a:Addr}{kvs:List (Key×V)}{k:Key}(e:H a=some (.dK kvs)):wy H a (kV k) (gn kvs k):=.inl ⟨kvs,k,.inl e,rfl,rfl⟩
theorem wy.t{H:Hp}{a b:Addr}{kvs:List (List Key×V)}{k:List Key}(e:H a=some (.dT kvs))(eb:H b=some (.tup (k.map kV))):wy H a (.ref b) (gn kvs k):=.inr ⟨kvs,k,b,.inl e,rfl,eb,rfl⟩
theorem Cq.k{H:Hp}{a:Addr}{kvs:List (Key×V)}{k:Key}{v:V}(e:H a=some (.dK kvs))(hl:kvs.length<sizeLine):Cq H a (kV k) v (upd H a (.dK (putK kvs k v))):=.inl ⟨kvs,k,e,rfl,hl,rfl⟩
theorem Cq.t{H:Hp}{a b:Addr}{kvs:List (List Key×V)}{k:List Key}{v:V}(e:H a=some (.dT kvs))(eb:H b=some (.tup (k.map kV)))(hl:kvs.length<sizeLine):
  Cq H a (.ref b) v (upd H a (.dT (putK kvs k v))):=.inr ⟨kvs,k,b,e,rfl,eb,hl,rfl⟩
section
variable{X:Cx}{π:List (Addr×Obj)}{σ:St}{H:Hp}{s:Shared}{a:Addr}{y v:V}{u r:Value}{o:Option V}{A:Around}{E:Value->Shared->Prop}
theorem Inv.big(I:Inv X π σ H s):sysModules<s.heap.objs.size:=by
 have h:mainGlobals<s.heap.objs.size:=(I.mod.glob.keeps I.bk).lt;exact adL (by decide) h
theorem BL{Q:Value->Shared->Prop}(hu:A.units+1<cLine)(I:Inv X π σ H s)(g:wy H a y (some v))(ry:RelV y u)(h:∀w' s',Inv X π σ H s'->RelV v w'->Q w' s'):
  wpAny (model X.prog X.w) A (getItem (.ref a) u) Q E s:=by
 rcases g with ⟨kvs,k,e,ey,l⟩|⟨kvs,k,b,e,ey,eb,l⟩
 ·subst ey;obtain⟨z,hd,vs,rel,dd⟩:=Dj I.hok e;obtain⟨w',hw,Nt⟩:=p6.some_of (v:=v) (o:=valueAt vs k) (by rw[l];exact rel.val k);exact wpAny_getItem_of (Dn ry) dd.mapOf hw (h w' _ (I.tok _) Nt)
 ·subst ey;cases (show u=Value.ref b from ry);obtain⟨z,hd,xs,rel,dd⟩:=CW I.hok e;obtain⟨w',hw,Nt⟩:=p6.some_of (v:=v) (o:=(atKey xs k).map (·.2)) (by rw[l];exact rel.val k);obtain⟨p,hp,hp2⟩:=aaJ.mp hw;refine wpAny_getItem_heap (tupleKind_room_in1 hu) (yQ I.hok eb) dd hp ?_;rw[hp2];exact h w' _ (I.tok _) Nt
theorem zF{h':Heap}{t':Nat}{ob:HO}(I:Inv X π σ H s)(mu:Qo (H a))(hs:Heap.SameBut a s.heap h')(he:∃q,h'.get? a=some q)(new:bI X.prog X.w (upd H a ob) h' a ob):
  Inv X π σ (upd H a ob) { s with heap:=h',toks:=t' }:=
 I.write (x:=a) (e:=a) mu (.inl rfl) (λb q hb z=>(hs.2 b hb).trans z) he new
theorem Ho{P:Program}{w:World}{H':Hp}{h':Heap}{kvs:List (Key×V)}{vs:List (Key×Value)}(z:kvs.length<=sizeLine)(hd:(a == sysModules)=false)(rel:KV kvs vs)(dd:h'.DictOf (dh P w) a vs):
  bI P w H' h' a (.dK kvs):=⟨z,hd,vs,rel,dd⟩
theorem BK{H':Hp}{Q:Unit->Shared->Prop}(hu:A.units+1<cLine)(I:Inv X π σ H s)(g:Cq H a y v H')(ry:RelV y u)(rv:RelV v r)(h:∀s',Inv X π σ H' s'->Q () s'):
  wpAny (model X.prog X.w) A (setItem (.ref a) u r) Q E s:=by
 rcases g with ⟨kvs,k,e,ey,l,eH⟩|⟨kvs,k,b,e,ey,eb,l,eH⟩
 ·subst ey eH;obtain⟨z,hd,vs,rel,dd⟩:=J0 I.hok e;have hz:vs.length<=sizeLine:=by rw[<-rel.length];exact z
  have hl:(putK kvs k v).length<=sizeLine:=by have:=o6 kvs k v;lia
  refine wpAny_setItem_pairs (hsz:=hz) (Dn ry) dd λh' Rr hs=>h _ ?_;have he:∃q,h'.get? a=some q:=let ⟨q,_,_,hq,_⟩:=Rr;⟨q,hq⟩;exact zF I (by rw[e];exact True.intro) hs he (Ho hl hd (rel.put k rv) Rr)
 ·subst ey eH;cases (show u=Value.ref b from ry);obtain⟨z,hd,xs,rel,dd⟩:=JG I.hok e;have hz:xs.length<=sizeLine:=by rw[<-Paired.length rel];exact z
  have hl:(putK kvs k v).length<=sizeLine:=by have:=o6 kvs k v;lia
  refine wpAny_setItem_heap (hsz:=hz) (tupleKind_room_in1 hu) (yQ I.hok eb) dd λh' Rr hs=>h _ ?_;obtain⟨q,es,ep,hq,h2,h3,h4,_,h5⟩:=Rr;refine zF I (by rw[e];exact True.intro) hs ⟨q,hq⟩ ⟨hl,hd,_,(rel.put k eb rv).keeps λc ys ec=>?_,q,es,ep,hq,h2,h3,h4,h5⟩;rw[aD (JS ec e (λz=>nomatch z))];exact ec
end
section
variable{X:Cx}{π:List (Addr×Obj)}{σ:St}{H:Hp}{s:Shared}{a:Addr}{kvs:List (Key×V)}{k:Key}{u:Value}{A:Around}{E:Value->Shared->Prop}
end
def J9(i:Expr):Prop:=∀ov iv,subscripted i false ov iv=operate [ov,iv] (getItem ov iv)
theorem GJ{prog:Program}{w:World}{A:Around}{E:Value->Shared->Prop}{s:Shared}{env:Env}{value slice:Expr}{pos:Pos}{T id:String}{Q:Value->Shared->Prop}
  (hl:typeLookup (.type T) "__getitem__" = pure (some (.builtin id)))(hs:J9 slice)
  (h:wpAny (model prog w) A (eval value env) (λo s₁=>wpAny (model prog w) A (eval slice env) (λi s₂=>s₂.TypeIs o T/\wpAny (model prog w) A (getItem o i) Q E s₂) E s₁) E s):
  wpAny (model prog w) A (eval (.Subscript value slice pos) env) Q E s:=by
 refine Subscript_ (wpAny_mono h (λo s₁ h₁=>wpAny_mono h₁ (λi s₂ h₂=>?_) λ_ _ x=>x) λ_ _ x=>x);obtain⟨hT,h₂⟩:=h₂;unfold subscriptTail;refine wpAny_bind ?_;rw[getitemInPython_of_ne hT.not_modules];refine wpAny_bind (wpAny_specialOf hT hl ?_);have fin:wpAny (model prog w) A (subscripted slice false o i) (λr s₃=>wpAny (model prog w) A (letTemporaryGo value o r >>= λ_=>pure r) Q E s₃) E s₂:=by
  rw[hs o i];exact wpAny_operating (wpAny_mono h₂ (λr s₃ h₃=>wpAny_bind (wpAny_letTemporaryGo (wpAny_pure h₃))) λ_ _ x=>x)
 first
  | exact wpAny_pure (wpAny_bind fin)
  | exact wpAny_bind (wpAny_pure (wpAny_bind fin))
  | exact wpAny_bind fin
theorem vP{X:Cx}{π:List (Addr×Obj)}{σ:St}{H:Hp}{s:Shared}{a:Addr}{y:V}{o:Option V}(I:Inv X π σ H s)(g:wy H a y o):s.TypeIs (.ref a) "dict":=by
 rcases g with ⟨kvs,k,e,_,_⟩|⟨kvs,k,b,e,_,_,_⟩
 ·obtain⟨_,_,vs,_,dd⟩:=Dj I.hok e;exact dd.typeIs
 ·obtain⟨_,_,xs,_,dd⟩:=CW I.hok e;exact dd.typeIs
inductive Gu(Q:VK)(x:V)(y:V)(H2:Hp):Prop
 | mk (a v:_) (_:x=.ref a) (_:wy H2 a y (some v)) (_:Q v H2)
def JX(td ty:TE):TE:=λ σ H Q=>td σ H λx H1=>ty σ H1 λy H2=>Gu Q x y H2
inductive FW(D:Ends)(σ:St)(v:V)(x:V)(y:V)(H3:Hp):Prop
 | mk (a H4:_) (_:x=.ref a) (_:Cq H3 a y v H4) (_:D.nx σ H4)
def Jz(td ty tv:TE):TS:=λD σ H=>tv σ H λv H1=>td σ H1 λx H2=>ty σ H2 λy H3=>FW D σ v x y H3
section
variable{X:Cx}{o i e value:Expr}{pos pos' tpos:Pos}{td ty tv:TE}
theorem GC(hu:X.A.units+1<cLine)(ho:PE X o td)(hi:PE X i ty)(hs:J9 i):PE X (.Subscript o i pos) (JX td ty):=by
 intro π s σ H Q I h;refine GJ PySem.F.slot_dict_getitem.lookup hs (K7 (ho π s σ H _ I h) λu s1 ⟨x,H1,I1,rx,q1⟩=>K7 (hi π s1 σ H1 _ I1 q1) λiv s2 ⟨y,H2,I2,ry,a,v,ex,g,q2⟩=>?_);subst ex;obtain rfl:u=Value.ref a:=rx;exact⟨vP I2 g,BL hu I2 g ry λw' s3 I3 Nt=>⟨v,H2,I3,Nt,q2⟩⟩
theorem Ge(hu:X.A.units+1<cLine)(ho:PE X o td)(hi:PE X i ty)(hv:PE X value tv)(hs:swapsWith value (some (.Subscript o i pos')) pos.line X.env=pure false):
  PS X (.Assign [.Subscript o i pos'] value pos) (Jz td ty tv):=by
 intro π s σ H D I h;refine wpAny_Assign_Subscript (K7 (hv π s σ H _ I h) λr s1 ⟨v,H1,I1,rv,q1⟩=>K7 (ho π s1 σ H1 _ I1 q1) λu s2 ⟨x,H2,I2,rx,q2⟩=>K7 (hi π s2 σ H2 _ I2 q2) λiv s3 ⟨y,H3,I3,ry,a,H4,ex,g,q3⟩=>?_) hs;subst ex;obtain rfl:u=Value.ref a:=rx;exact BK hu I3 g ry rv λs4 I4=>⟨σ,H4,I4,q3⟩
end
theorem DQ{P:Program}{w:World}{H:Hp}(h:Heap)(hb:sysModules<h.objs.size):bI P w H (h.push { cls:=.type "dict",data:=.dict #[] }) h.objs.size (.dK []):=
 ⟨aaq _,beq_eq_false_iff_ne.mpr (abg (aak hb)),[],.nil,Heap.DictOf.new h⟩
def Jm:TE:=λ_ H Q=>∀p,H p=none->Q (.ref p) (upd H p (.dK []))
section
variable{X:Cx}{pos:Pos}
theorem Dy:PE X (.Dict [] [] pos) Jm:=λ π s σ H Q I h =>
 wpAny_Dict_empty ⟨.ref s.heap.objs.size,_,I.laid (a:=s.heap.objs.size) (o:=.dK []) (t':=s.toks) (λ_ _ q=>Heap.get?_push_of_some _ q) (aad _) (DQ s.heap I.big),rfl,h _ (I.hok.fresh (aad _))⟩
end
structure M1(X:Cx)(o:Expr)(m:Str)(apos:Pos)(e:Expr)(cpos:Pos):Prop where
 base:attributeBase o m X.env (eval o X.env)=eval o X.env
 few:((backTo cpos (starEach [e] X.env)).all (λx=>!x.1) && (backToKw cpos (keywordEach [] X.env)).all (λx=>x.1.isSome)
  && decide (([e]:List Expr).length+([]:List Keyword).length+(if ([]:List Keyword).isEmpty then 0 else 1)<30))=true
 line:(apos.endLine == cpos.line)=true
 trees:backTo cpos (starEach [e] X.env)=[(false,eval e X.env)]
section
variable{X:Cx}{π:List (Addr×Obj)}{σ:St}{H:Hp}{s:Shared}{a:Addr}{y d:V}{u r:Value}{o:Option V}{A:Around}{E:Value->Shared->Prop}
end
section
variable{X:Cx}{o e f:Expr}{apos cpos:Pos}{td ty tx:TE}
end
section
variable{X:Cx}{π:List (Addr×Obj)}{σ:St}{H:Hp}{s:Shared}{a:Addr}{kvs:List (Key×V)}{A:Around}{E:Value->Shared->Prop}
end
section
variable{X:Cx}{π:List (Addr×Obj)}{σ:St}{H:Hp}{s:Shared}{a:Addr}{y:V}{u:Value}{A:Around}{E:Value->Shared->Prop}
end
end L2
namespace Rn
open PySem PySem.W PySem.Calls PyProof.Rows
section
variable{prog:Program}{w:World}{A:Around}{E:Value->Shared->Prop}{s:Shared}{K:Frag}
end
end Rn
namespace L2
open PySem PySem.Spec PyProof.Rows
section
variable{P:Program}{w:World}{K:PySem.W.Frag}{mg:Str->Option Value}{base:Heap}
end
section
variable{X:Cx}
end
section
variable{κ:Type}[DecidableEq κ]
end
section
variable{X:Cx}{st:Stmt}{rest:List Stmt}{t u:TS}
def KZ(t u:TS):TS:=λD σ H=>∃R:St->Hp->Prop,t { D with nx:=R } σ H /\ ∀σ' H',R σ' H'->u D σ' H'
theorem pO(h1:PS X st t)(h2:Ma X rest u):Ma X (st::rest) (KZ t u):=by
 rintro π s σ H D I ⟨R,h,hR⟩;refine wpAny_execs_cons (K7 (h1 π s σ H { D with nx:=R } I h) λf s1 q=>?_);cases f with
 | next =>
  obtain⟨σ',H',I',q⟩:=q;exact h2 π s1 σ' H' D I' (hR _ _ q)
 | ret v=>exact q
 | brk=>exact q
 | cont=>exact q
theorem aL{CX:Mx}{x:Str}{sd:Stmt}{ps:List Str}{f:Addr}{fd:FuncData}{sp:Sp}{j k:Nat}{E:XK}{e:Expr}{es:List Expr}{p pos:Pos}{t:TA}(D:Tw.Df X.K X.mg x sd ps f fd)(F:bh X.prog X.w X.K X.mg X.base CX j f fd ps sp)(hj:j<=k)(hr:eY k X.A)(hx:lX CX X E)(hg:Gl X x)
  (ha:PA X (e::es) t)(hdb:(x == ("__debug__" : Str))=false:=by decide)(he:starEach (e::es) X.env=(false,eval e X.env)::starEach es X.env:=by rfl)(hpl:(backTo pos (starEach es X.env)).any (·.1)=false:=by rfl):
  PE X (.Call (.Name x p) (e::es) [] pos) (Hi sp [] E t):=GD (F.mono hj) hr hg D.m D.F.kp D.b .nil hx ha hdb he hpl
end
end L2
namespace Tw
open PySem L2
theorem Dg{ns:List Int}{k:Nat}{b:Int}(h:ns[k]?=some b):(ns.take (k+1)).sum=(ns.take k).sum+b:=by
 rw[aa8,h];simp[acB]
theorem xH{ns:List Int}(h:bB ns)(i:Nat):∀j:Nat,i<=j->(ns.take i).sum<=(ns.take j).sum
 | 0,hj=>by
  have:i=0:=by lia
  subst this;exact ack _
 | j+1,hj=>by
  by_cases e:i=j+1
  ·subst e;exact ack _
  have:=xH h i j (by lia);cases q:ns[j]? with
  | none =>
   rw[aa8,q];simp;exact this
  | some b =>
   rw[Dg q];have:=h b (aah q);lia
theorem Ea:∀{ns:List Int},bB ns->blk ns<2^ns.length
 | [],_=>by simp[blk]
 | b::r,h=>by
  have:=Ea h.tail;have:=h.head;rw[aan,acL];simp only[blk];lia
theorem Ab(n:Nat):∀m:Nat,n<=m->(2:Int)^n<=2^m
 | 0,h=>by
  have:n=0:=by lia
  subst this;exact ack _
 | m+1,h=>by
  by_cases e:n=m+1
  ·subst e;exact ack _
  have h1:=Ab n m (by lia);have h2:(0:Int)<=2^m:=aei (by decide);rw[acL];lia
theorem xj:∀l:List Int,blk (l.map λx=>1 - x)=2^l.length - 1 - blk l
 | []=>by simp[blk]
 | x::l=>by
  rw[aaz,aan,acL];simp only[blk];rw[xj l];lia
theorem wB:∀(l:List Int) (k:Nat),k<=l.length->((l.map λx=>1 - x).take k).sum=k - (l.take k).sum
 | _,0,_=>by simp
 | [],k+1,h=>by simp at h
 | x::l,k+1,h=>by
  have:=wB l k (by simpa using h);rw[aaz,acD,acD,acZ,acZ,this];lia
theorem turned{b:Int}(h0:0<=b)(h1:b<2^32):(∀k:Nat,k<32->bit (2^32 - 1 - b) k=1 - bit b k) /\ ∀k:Nat,k<=32->ones (2^32 - 1 - b) k=k - ones b k:=by
 have hb:=xU b 32;have e:=xT 32 b h0 h1;have hl:=jU b 32;have ht:bB ((bits b 32).map λx=>1 - x):=λx hx=>by
  obtain⟨y,hy,rfl⟩:=aaE.mp hx;have:=hb y hy;lia
 have et:blk ((bits b 32).map λx=>1 - x)=2^32 - 1 - b:=by rw[xj,hl,e]
 refine⟨λk hk=>?_,λk hk=>?_⟩
 ·rw[<-et,pQ ht,aag,xK hk];rfl
 ·rw[<-et,mz ht,wB _ _ (by lia),<-mz hb,e]
theorem HY(b:Int)(k:Nat):bit b k=0\/bit b k=1:=by
 unfold bit;lia
theorem nC(b:Int)(i:Nat):∀j:Nat,i<=j->ones b i<=ones b j
 | 0,h=>by
  have:i=0:=by lia
  subst this;exact ack _
 | j+1,h=>by
  by_cases e:i=j+1
  ·subst e;exact ack _
  have:=nC b i j (by lia);have:=HY b j;rw[dU];lia
theorem Bd{b:Int}{i j:Nat}(h1:bit b i=1)(h2:bit b j=1)(e:ones b i=ones b j):i=j:=by
 rcases abM i j with c|c|c
 ·have:=nC b (i+1) j (by lia);rw[dU]at this;lia
 ·exact c
 ·have:=nC b (j+1) i (by lia);rw[dU]at this;lia
def nz(ns:List Int)(n:Nat):List Int:=(aaO n).map λk:Nat=>32*(k:Int) - (ns.take (32*k)).sum
theorem iG(ns:List Int)(n:Nat):(nz ns n).length=n:=by simp[nz]
theorem Fy(ns:List Int)(n:Nat):nz ns (n+1)=nz ns n++[32*(n:Int) - (ns.take (32*n)).sum]:=by
 unfold nz;rw[aaR,aam];rfl
theorem yr{ns:List Int}{n k:Nat}(h:k<n):(nz ns n)[k]?=some (32*(k:Int) - (ns.take (32*k)).sum):=by simp[nz,h]
theorem yM(b t:Int)(ht:0<=t):∀n:Nat,t<ones b n -> ∃k,k<n/\bit b k=1/\ones b k=t
 | 0,h=>by
  rw[ue]at h;lia
 | n+1,h=>by
  by_cases c:t<ones b n
  ·obtain⟨k,h1,h2⟩:=yM b t ht n c;exact⟨k,by lia,h2⟩
  ·rw[dU]at h;have hb:bit b n=0\/bit b n=1:=by
    unfold bit;lia
   exact⟨n,by lia,by lia,by lia⟩
theorem xJ(ns:List Int)(n:Nat):Lr ns n=(aaO n).map (λk=>(ns.take (32*k)).sum)++[(ns.take (32*n)).sum]:=by
 unfold Lr;rw[aaR,aam];rfl
def Rt(ds:List Int)(j:Nat)(g:Int)(i:Nat):Prop:=i<=j/\ds[i]?=some g /\ ∀m x,i<m->m<=j->ds[m]?=some x->g<x
theorem Rt.trans{ds:List Int}{j i e:Nat}{g:Int}(h:Rt ds j g i)(h':Rt ds i (g - 1) e):Rt ds j (g - 1) e:=by
 obtain⟨a1,a2,a3⟩:=h;obtain⟨b1,b2,b3⟩:=h';refine⟨by lia,b2,λm x m1 m2 e=>?_⟩;rcases aaM i m with z|z
 ·have:=a3 m x z m2 e;lia
 ·exact b3 m x m1 z e
def run(ds:List Int)(k:Nat)(g:Int):Nat:=((ds.drop k).takeWhile λx=>decide (g<x)).length
end Tw
namespace L2
open PySem PySem.Spec PyProof.Rows
section
variable{X:Cx}{tg:Expr}
theorem Dd(a b:Int):Builtin.Range.rangeSize a b (-1)=((a - b).toNat:Int):=by
 unfold Builtin.Range.rangeSize;rw[if_neg (by decide),show (- -1:Int)=1 from rfl,acl];split <;> lia
theorem vV{a b:Int}(ha0 : -1<=a)(hb0 : -1<=b)(ha:a<536870912)(hb:b<536870912):Builtin.Range.small a b (-1)=true:=by
 unfold Builtin.Range.small Builtin.Range.rangeFitsLong;rw[Dd];have e:(2:Int)^63=9223372036854775808:=by decide
 rw[e,if_neg (by decide)];refine lM (lM (lM (lM (lM (decide_eq_true ?_) (decide_eq_true ?_)) (lM (decide_eq_true ?_) (decide_eq_true ?_))) (by decide)) (lM (decide_eq_true ?_) (decide_eq_true ?_))) ?_
 ·lia
 ·lia
 ·lia
 ·lia
 ·lia
 ·lia
 ·rw[ad3];exact .inr (lM (decide_eq_true (by lia)) (decide_eq_true (by lia)))
inductive Cv(R:It->Hp->Prop)(vs:List V)(H1:Hp):Prop
 | mk (a b:Int) (_:vs=[.int a,.int b,.int (-1)]) (_ : -1<=a) (_ : -1<=b) (_:a<536870912) (_:b<536870912) (_:R (PN a (-1) (a - b).toNat) H1)
def FQ(ta:TA):TI:=λ σ H R=>ta σ H λvs H1=>Cv R vs H1
theorem vX{a b c:Expr}{ta:TA}{p pos:Pos}(hg:Gl X "range")(hm:X.mg "range" = none)(ha:PA X [a,b,c] ta)(hs:starEach [a,b,c] X.env=[(false,eval a X.env),(false,eval b X.env),(false,eval c X.env)]:=by rfl)
  (hs2:starEach [b,c] X.env=[(false,eval b X.env),(false,eval c X.env)]:=by rfl):PI X tg (.Call (.Name "range" p) [a,b,c] [] pos) (FQ ta):=by
 intro π s σ H R I h;refine Call_ (fu I hg hm boot_range (PyProof.Rows.callWith_type1 (K7 (ha pos π s σ H _ I h) λus s1 ⟨vs,H1,I1,r1,q1⟩=>?_) (by rw[hs,hs2]) (by rw[hs2];rfl)));obtain⟨x,y,e,l2,l3,l0,l1,q⟩:=q1;subst e;cases r1 with
 | cons r rr =>
  cases rr with
  | cons r' rr =>
   cases rr with
   | cons r'' rr =>
    cases rr;obtain⟨t,rfl⟩:=r;obtain⟨t',rfl⟩:=r';obtain⟨t'',rfl⟩:=r'';refine call_range_3 (by decide) ?_ (.inl (PyProof.noPylong_small (by decide)));refine wpAny_pyIter_range (IsRange.new ..) (vV l2 l3 l0 l1) ?_
    have I2:Inv X π σ H1 { s1 with heap:=s1.heap.push { cls:=.type "range",data:=.fields #[.int x t,.int y t',.int (-1) t''] },toks:=s1.toks }:=I1.kept λb o e=>Heap.get?_push_of_some _ e
    refine⟨(s1.heap.push { cls:=.type "range",data:=.fields #[.int x t,.int y t',.int (-1) t''] }).objs.size,[(s1.heap.push { cls:=.type "range",data:=.fields #[.int x t,.int y t',.int (-1) t''] }).objs.size],_,_,H1,rfl,
     I2.kept (t':=s1.toks) λb o e=>Heap.get?_push_of_some _ e,tO _ x (-1) (x - y).toNat,?_,λb hb=>?_,q⟩
    ·have e1:x+((0:Nat):Int)*(-1)=x:=by lia
     have e2:(((x - y).toNat:Nat):Int) - ((0:Nat):Int)=Builtin.Range.rangeSize x y (-1):=by rw[Dd];lia
     show IsRangeIter _ _ (x+((0:Nat):Int)*(-1)) ((((x - y).toNat:Nat):Int) - ((0:Nat):Int)) (-1);rw[e1,e2];exact Heap.get?_push_size _ rfl
    ·have e:b=(s1.heap.push { cls:=.type "range",data:=.fields #[.int x t,.int y t',.int (-1) t''] }).objs.size:=by simpa using hb
     subst e;exact I2.fpOk (aad _) (I2.hok.fresh (aad _))
end
end L2
namespace Tw
open PySem L2
end Tw
namespace L2
open PySem PySem.Spec PyProof.Rows
section
variable{X:Cx}{π:List (Addr×Obj)}{σ:St}{H:Hp}{s:Shared}
def zJ(K:PySem.W.Frag)(wi:TI)(caps:List (Str×Nat))(tt:TT)(te:TE):TE:=λ σ H Q=>wi σ H λJ H1=>m6 K J (dw caps σ) tt te (λD H'=>Q (.ref D) H') H1
theorem Bc{x z:Str}{px pz tp pos:Pos}{tx:Nat}{caps:List (Str×Nat)}{scope:Scope}{cl:List (Str×Addr)}{elt iter:Expr}{ifs:List Expr}{wi:TI}{tt:TT}{te:TE}(hc:X.calm=true)(K0:kY X x z caps scope cl)(hi:PI X (.Tuple [.Name x px,.Name z pz] tx tp) iter wi)
  (ht:∀C s1 H1 Li,Nu (bC X (x::z::caps.map (·.1)) scope cl C s1 H1 Li) ifs tt)(he:∀C s1 H1 Li,PE (bC X (x::z::caps.map (·.1)) scope cl C s1 H1 Li) elt te)(hs:∀x,foldedSetIterable iter X.env x=pure x:=by intro _;rfl):
  PE X (.ListComp elt [⟨.Tuple [.Name x px,.Name z pz] tx tp,iter,ifs,0⟩] scope pos) (zJ X.K wi caps tt te):=by
 intro π s σ H Q I h;rw[eval_ListComp];refine wpAny_comprehension_free (use:=none) rfl hs K0.o.clos K0.o.kind K0.o.names (K7 (hi π s σ H _ I h) λv s1 h1=>K7 h1 λitv s2 h2=>?_);obtain⟨it,fp,tn,J,H2,e,I2,T,st2,f2,rd⟩:=h2;subst e;refine jK (RR:=λacc C=>compPost (model X.prog X.w) X.A X.xe none (EP X π σ Q) acc C) I2 hc K0 T st2 f2 ht he rd ?_;intro D C s' H' m I' hn fC q;exact⟨m,hn,λh'' hs''=>⟨.ref D,H',I'.turned (h':=h'') (t':=s'.toks) (λb o hb e=>hs''.extBut b o hb e) fC.1 fC.2.1 fC.2.2.2.1 fC.2.2.2.2.1 fC.2.2.2.2.2,rfl,q⟩⟩
theorem m5{i:Nat}{y x z:Str}{px pz tp py pos spos:Pos}{tx:Nat}{caps:List (Str×Nat)}{scope:Scope}{cl:List (Str×Addr)}{elt iter:Expr}{ifs:List Expr}{wi:TI}{tt:TT}{te:TE}(hN:X.N.Nodup)(Sq:X.N[i]?=some y)(hy:X.env.scope.names.lookup y=some .local)(hc:X.calm=true)
  (K0:kY X x z caps scope cl)(hi:PI X (.Tuple [.Name x px,.Name z pz] tx tp) iter wi)
  (ht:∀C s1 H1 Li,Nu (bC X (x::z::caps.map (·.1)) scope cl C s1 H1 Li) ifs tt)(he:∀C s1 H1 Li,PE (bC X (x::z::caps.map (·.1)) scope cl C s1 H1 Li) elt te)
  (hsw:swapsWith (.ListComp elt [⟨.Tuple [.Name x px,.Name z pz] tx tp,iter,ifs,0⟩] scope pos) (some (.Name y py)) spos.line X.env=pure true:=by rfl)(hs:∀x,foldedSetIterable iter X.env x=pure x:=by intro _;rfl):
  PS X (.Assign [.Name y py] (.ListComp elt [⟨.Tuple [.Name x px,.Name z pz] tx tp,iter,ifs,0⟩] scope pos) spos) (Jp (zJ X.K wi caps tt te) (fQ i)):=by
 intro π s σ H D0 I h;rw[exec_Assign_Name_used _ _ _ _ hsw];refine wpAny_bind (wpAny_standAt (wpAny_bind ?_));show wpAny _ X.A (do let _ <-comprehension (.ListComp elt [⟨.Tuple [.Name x px,.Name z pz] tx tp,iter,ifs,0⟩] scope pos) scope X.env _ (newList []) false (eval iter X.env) (some (assign (.Name y py) X.env))) _ _ s;refine wpAny_bind (wpAny_mono (wpAny_comprehension_free (use:=some (assign (.Name y py) X.env)) (Q:=λ_ s'=>SP X π D0 .next s') rfl hs K0.o.clos K0.o.kind K0.o.names
  (K7 (hi π s σ H _ I h) λv s1 h1=>K7 h1 λitv s2 h2=>?_)) (λ_ s' hq=>wpAny_pure (wpAny_pure hq)) λ_ _ e=>e)
 obtain⟨it,fp,tn,J,H2,e,I2,T,st2,f2,rd⟩:=h2;subst e;refine jK (RR:=λacc C=>compPost (model X.prog X.w) X.A X.xe (some (assign (.Name y py) X.env)) (λ_ s'=>SP X π D0 .next s') acc C) I2 hc K0 T st2 f2 ht he rd ?_;intro D C s' H' m I' hn fC q;show wpAny _ X.A (assign (.Name y py) X.env (.ref D)) _ _ _;refine wpAny_assign_Name (oE (v:=.ref D) I' hN Sq (.inl hy) rfl (λs'' Ss ch=>⟨m,?_,λh'' hs''=>?_⟩) (.inr hy))
 ·obtain⟨a,sb,ha⟩:=ch;refine hn.sameBut sb λz=>?_;rcases ha with ha|ha
  ·exact fC.2.1 (z.trans ha)
  ·exact fC.2.2.2.2.1 _ a ha z.symm
 ·exact⟨_,H',Ss.turned (h':=h'') (t':=s''.toks) (λb o hb e=>hs''.extBut b o hb e) fC.1 fC.2.1 fC.2.2.2.1 fC.2.2.2.2.1 fC.2.2.2.2.2,q⟩
end
end L2
namespace Tw
open PySem L2
theorem t8{K:PySem.W.Frag}{a b:Addr}{os bs:List Int}{cap:L2.St}{tt:TT}{te:TE}{Qf:Addr->Hp->Prop}{H:Hp}(pr:Int->Int->Bool)(g:Int->Int->Int)(hA:K5 K H a (os.map V.int))(hB:K5 K H b (bs.map V.int))(hl:os.length=bs.length)(hz:os.length<sizeLine)
  (htt:∀(x y:Int) (H':Hp) (Q:Bool->Hp->Prop),aV H H'->Q (pr x y) H'->tt (some (.int x)::some (.int y)::cap) H' Q)
  (Oc:∀(x y:Int) (H':Hp) (Q:VK),aV H H'->Q (.int (g x y)) H'->te (some (.int x)::some (.int y)::cap) H' Q)
  (q:∀D H',H D=none->aV H H'->H' D=some (.lst ((((os.zip bs).filter λp=>pr p.1 p.2).map λp=>g p.1 p.2).map V.int))->Qf D H'):m6 K (Pg K a b) cap tt te Qf H:=by
 intro D hD;refine⟨λi m ys H1=>m=os.length - i/\i<=os.length/\aV H H1/\ys=(((((os.zip bs).take i).filter λp=>pr p.1 p.2).map λp=>g p.1 p.2).map V.int)/\H1 D=some (.lst ys),⟨_,rfl,aaq _,au hD _,rfl,aq⟩,?_⟩;rintro i m ys H1 ⟨rfl,hi,sm,rfl,hD1⟩;have S8:=sm.seq hA;have Ly:=sm.seq hB;by_cases hlt:i<os.length
 ·have ha:(os.map V.int)[i]?=some (.int os[i]):=by rw[aag,aac hlt];rfl
  have hb:(bs.map V.int)[i]?=some (.int (bs[i]'(by omega))):=by rw[aag,aac (by omega)];rfl
  refine .inr ⟨⟨_,_,_,_,S8,Ly,ha,hb⟩,λv H2 y=>?_⟩;obtain⟨p,x,y,hp,rfl,rfl,ex,ey⟩:=y;have ex:=ex _ S8;have ey:=ey _ Ly;rw[ha]at ex;rw[hb]at ey;cases ex;cases ey;have s2:=au hp (.tup [.int os[i],.int (bs[i]'(by omega))]);have hzip:(os.zip bs).take (i+1)=(os.zip bs).take i++[(os[i],bs[i]'(by omega))]:=by
   rw[aa8,aac (by rw[ad5];lia)];simp
  refine⟨p,_,_,rfl,K6.of aq,htt _ _ _ _ (sm.trans s2) ?_⟩;by_cases hp1:pr os[i] (bs[i]'(by omega))=true
  ·rw[if_pos hp1];refine Oc _ _ _ _ (sm.trans s2) ⟨s2 _ _ hD1,?_,os.length - (i+1),by lia,rfl,hlt,cR (sm.trans s2) hD _,?_,aq⟩
   ·have:=abx (λp:Int×Int=>pr p.1 p.2) ((os.zip bs).take i);rw[aaC]at this;rw[aaa,aaa];lia
   ·rw[hzip,aaI,aam,aam];simp[hp1]
  ·rw[if_neg hp1];refine⟨os.length - (i+1),by lia,rfl,hlt,sm.trans s2,?_,s2 _ _ hD1⟩;rw[hzip,aaI,aam,aam];simp[hp1]
 ·have e:i=os.length:=by lia
  subst e;refine .inl ⟨⟨_,_,S8,Ly,.inl (by rw[aaa];exact aad _)⟩,q D H1 hD sm ?_⟩;rw[aav (by rw[ad5];lia)]at hD1;exact hD1
end Tw
namespace L2
open PySem PySem.Spec PyProof.Rows
section
variable{X:Cx}
inductive JR(x:V)(vs:List V)(H:Hp)(Q:VK):Prop
 | mk (i:_) (_:x=.int i) (_:vs=[]) (_:Q (.int (Builtin.Int.intBits i)) H)
theorem sS:R9 X "int.bit_length" JR:=by
 intro π s σ H x vs v us Q I rx rv h;obtain⟨i,rfl,rfl,q⟩:=h;obtain⟨t,rfl⟩:=rx;cases rv;exact call_int_bit_length ⟨.int (Builtin.Int.intBits i),H,I.tok _,⟨_,rfl⟩,q⟩
end
end L2
namespace Tw
open PySem
def eZ(b:Bool)(t:SetTable):Prop:=t.led=b/\t.place.toList.Pairwise (· < ·)
theorem mK{xs:Array Nat}(h:xs.toList.Pairwise (· < ·)){i j:Nat}(hij:i<j)(hj:j<xs.size):xs[i]'(by omega)<xs[j]:=by
 have:=aaB.mp h i j (by simpa using (by lia:i<xs.size)) (by simpa using hj) hij;simpa using this
theorem qZ{xs:Array Nat}(h:xs.toList.Pairwise (· < ·))(j:Nat):∀(fuel lo hi:Nat),hi - lo<=fuel->lo<=hi->hi<=xs.size->(∀k (hk:k<xs.size),k<lo->xs[k]<j)->(∀k (hk:k<xs.size),hi<=k->j<=xs[k]) ->
  SetTable.below.go xs j fuel lo hi<=xs.size/\(∀k (hk:k<xs.size),k<SetTable.below.go xs j fuel lo hi->xs[k]<j) /\ ∀k (hk:k<xs.size),SetTable.below.go xs j fuel lo hi<=k->j<=xs[k]
 | 0,lo,hi,hf,h1,h2,h3,h4=>by
  have:lo=hi:=by lia
  subst this;unfold SetTable.below.go;exact⟨h2,h3,h4⟩
 | fuel+1,lo,hi,hf,h1,h2,h3,h4=>by
  unfold SetTable.below.go;by_cases c:lo<hi
  ·rw[if_pos c];have hm:(lo+hi) / 2<xs.size:=by lia
   have em:xs.getD ((lo+hi) / 2) j=xs[(lo+hi) / 2]:=by simp[adI,hm]
   dsimp only;rw[em];by_cases c2:xs[(lo+hi) / 2]<j
   ·rw[if_pos c2];refine qZ h j fuel _ _ (by lia) (by lia) h2 (λk hk hl=>?_) h4;rcases aaM k ((lo+hi) / 2)with z|z
    ·exact adL (mK h z hm) c2
    ·have:k=(lo+hi) / 2:=by lia
     subst this;exact c2
   ·rw[if_neg c2];refine qZ h j fuel _ _ (by lia) (by lia) (by lia) h3 (λk hk hl=>?_);rcases aaM ((lo+hi) / 2) k with z|z
    ·have:=mK h z hk;lia
    ·have:k=(lo+hi) / 2:=by lia
     subst this;lia
  ·rw[if_neg c];have:lo=hi:=by lia
   subst this;exact⟨h2,h3,h4⟩
theorem xY{xs:Array Nat}(h:xs.toList.Pairwise (· < ·))(j:Nat):SetTable.below xs j<=xs.size/\(∀k (hk:k<xs.size),k<SetTable.below xs j->xs[k]<j) /\ ∀k (hk:k<xs.size),SetTable.below xs j<=k->j<=xs[k]:=by
 unfold SetTable.below;exact qZ h j xs.size 0 xs.size (by lia) (aaq _) (aad _) (λk _ hk=>absurd hk (aby _)) (λk hk hl=>by lia)
theorem Ip{b:Bool}{t:SetTable}(h:eZ b t){j:Nat}(hj:t.place[SetTable.below t.place j]? ≠ some j):eZ b (t.put j).1:=by
 refine⟨h.1,?_⟩;obtain⟨h0,h1,h2⟩:=xY h.2 j;show (SetTable.insertAt t.place (SetTable.below t.place j) j).toList.Pairwise (· < ·);rw[SetTable.toList_insertAt];generalize SetTable.below t.place j=p at *;have hlt:∀x∈t.place.toList.take p,x<j:=λx hx=>by
  obtain⟨k,hk⟩:=aaL hx;have hk2:=(aab.mp hk).1;rw[aaC]at hk2;rw[aa3 (by lia),aaN]at hk;obtain⟨hk3,e⟩:=acf.mp hk;rw[<-e];exact h1 k hk3 (by lia)
 have hgt:∀x∈t.place.toList.drop p,j<x:=λx hx=>by
  obtain⟨k,hk⟩:=aaL hx;rw[ab1,aaN]at hk;obtain⟨hk3,e⟩:=acf.mp hk;have a:=h2 (p+k) hk3 (by lia);rcases Nat.eq_zero_or_pos k with z|z
  ·subst z;have:x≠j:=λy=>hj (by rw[<-y];exact hk);lia
  ·have b:=mK h.2 (show p<p+k by lia) hk3;have c:=h2 p (by lia) (aad _);lia
 refine aa1.mpr ⟨h.2.sublist (abE _ _),abk.mpr ⟨hgt,h.2.sublist (List.drop_sublist _ _)⟩,λx hx y hy=>?_⟩;rcases aaA.mp hy with rfl|hy
 ·exact hlt x hx
 ·exact adL (hlt x hx) (hgt y hy)
theorem jh{b:Bool}{t:SetTable}(h:t.led=b)(n:Nat):eZ b (t.standIn n):=by
 refine⟨h,?_⟩;show (Array.range n).toList.Pairwise (· < ·);rw[Array.toList_range];exact ac5
theorem Ar{t:SetTable}{j:Nat}(h:∀i,t.slot j ≠ .live i):t.place[SetTable.below t.place j]? ≠ some j:=λe=>by
 refine h (SetTable.below t.place j) ?_;unfold SetTable.slot;simp[e]
theorem p8{t:SetTable}{f:Nat->Int}{h:Int}:∀(fuel:Nat) (p:SetTable.Probe) (j:Nat) (d:Option Nat),(∀x,p.dummy=some x->t.slot x=.dummy)->SetTable.probe.go t f h fuel p=some (.empty j d)->t.slot j=.empty /\ ∀x,d=some x->t.slot x=.dummy
 | 0,p,j,d,_,e=>by
  unfold SetTable.probe.go at e;cases e
 | fuel+1,p,j,d,hd,e=>by
  unfold SetTable.probe.go at e;have Vv:∀q:SetTable.Probe,(t.advance q).dummy=q.dummy:=λq=>by
   unfold SetTable.advance;split <;> rfl
  cases hs:t.slot p.j with
  | empty =>
   rw[hs]at e;cases e;exact⟨hs,hd⟩
  | dummy =>
   rw[hs]at e;refine p8 fuel _ j d (λx hx=>?_) e;rw[Vv]at hx;cases hx;exact hs
  | live i =>
   rw[hs]at e;dsimp only at e;split at e
   ·cases e
   ·exact p8 fuel _ j d (λx hx=>hd x (by rw[Vv]at hx;exact hx)) e
theorem rK{t:SetTable}{h:Int}{j:Nat}{w:Bool}(e:t.freeSlot h=some (j,w)):∀i,t.slot j ≠ .live i:=by
 unfold SetTable.freeSlot SetTable.probe at e;split at e
 ·rename_i a d he;cases e;obtain⟨h1,h2⟩:=p8 _ _ _ _ (λx hx=>by cases hx) he;cases d with
  | none =>
   intro i z;rw[show (none:Option Nat).getD a=a from rfl,h1]at z;cases z
  | some x =>
   intro i z;rw[show (some x:Option Nat).getD a=x from rfl,h2 x rfl]at z;cases z
 ·cases e
theorem uZ{b:Bool}{t:SetTable}(h:eZ b t)(n:Nat):eZ b (t.orStandIn n):=by
 unfold SetTable.orStandIn;split
 ·exact h
 ·exact jh h.1 n
theorem Bg{b:Bool}{t:SetTable}(h:eZ b t)(es:Array (Int×Value))(i:Int)(x:Value):eZ b (layNew t es i x).2.1:=by
 unfold layNew;split
 ·rename_i slot w e;exact uZ (Ip h (Ar (rK e))) _
 ·exact jh h.1 _
theorem Gz{m f v:Nat}{l p:Bool}{hs:Array Int}{t:SetTable}{o:Array Nat}(e:SetTable.laid m f v l p hs=some (t,o)):eZ l t:=by
 unfold SetTable.laid at e;cases ho:SetTable.layClean m hs with
 | none =>
  rw[ho]at e;cases e
 | some ow =>
  rw[ho]at e;cases e;refine⟨rfl,?_⟩;show (List.toArray _).toList.Pairwise (· < ·);rw[acS];refine List.Pairwise.filterMap _ (R:=(· < ·)) (λa a' haa b hb b' hb'=>?_) ac5;obtain⟨x,_,rfl⟩:=aaJ.mp hb;obtain⟨y,_,rfl⟩:=aaJ.mp hb';exact haa
theorem vZ{b:Bool}{t:SetTable}(h:eZ b t)(es:Array (Int×Value))(n:Nat):eZ b (relayAll t es n).2.1:=by
 unfold relayAll;split
 ·rename_i t' o e;dsimp only;split
  ·have:=Gz e;rw[h.1]at this;exact this
  ·exact jh h.1 _
 ·exact jh h.1 _
theorem DP{b:Bool}{t:SetTable}(h:eZ b t):eZ b { t with plain:=false }:=h
open PySem.Spec PyProof.Rows
section
variable{α β:Type}
theorem Bb{f:α->β}{l' l:List β}(h:abb l' l):∀L:List α,L.map f=l -> ∃L',abb L' L/\L'.map f=l':=by
 induction h with
 | nil =>
  intro L e;exact⟨L,.rfl,e⟩
 | cons x p ih =>
  intro L e;cases L with
  | nil=>cases e
  | cons a L =>
   rw[aaz]at e;injection e with e1 e2
   obtain⟨L',p',e'⟩:=ih L e2;exact⟨a::L',p'.cons a,by rw[aaz,e',e1]⟩
 | swap x y l =>
  intro L e
  match L,e with
  | a::b::L,e =>
   rw[aaz,aaz]at e;injection e with e1 e2
   injection e2 with e2 e3
   exact⟨b::a::L,.swap a b L,by rw[aaz,aaz,e1,e2,e3]⟩
 | trans p q ihp ihq =>
  intro L e;obtain⟨L1,p1,e1⟩:=ihq L e;obtain⟨L2,p2,e2⟩:=ihp L1 e1;exact⟨L2,p2.trans p1,e2⟩
end
section
variable{prog:Program}{w:World}{K:Type}[DecidableEq K]{knd:KeyKind prog w K}{A:Around}{E:Value->Shared->Prop}{s:Shared}{b:Bool}
structure lg(knd:KeyKind prog w K)(es:List (Int×Value))(ks:List K)(ps:List (K×(Int×Value))):Prop where
 snd:ps.map (·.2)=es
 fst:abb (ps.map (·.1)) ks
 is:∀p∈ps,knd.is p.1 p.2.2=true/\p.2.1=knd.hash p.1/\p.2.2.scannable=true
theorem lg.elems{es:List (Int×Value)}{ks:List K}{ps:List (K×(Int×Value))}(h:lg knd es ks ps):ElemsOf knd es:=λe he=>by
 rw[<-h.snd]at he;obtain⟨p,hp,rfl⟩:=aaE.mp he;obtain⟨h1,h2,h3⟩:=h.is p hp;exact⟨⟨p.1,h1,h2⟩,h3⟩
theorem lg.size{es:List (Int×Value)}{ks:List K}{ps:List (K×(Int×Value))}(h:lg knd es ks ps):es.length=ks.length:=by
 rw[<-h.snd,aaa,<-h.fst.length_eq,aaa]
theorem lg.mem{es:List (Int×Value)}{ks:List K}{ps:List (K×(Int×Value))}(h:lg knd es ks ps)(k:K):k∈ks ↔ ∃e∈es,knd.is k e.2=true:=by
 rw[<-h.fst.mem_iff];constructor
 ·intro hk;obtain⟨p,hp,rfl⟩:=aaE.mp hk;exact⟨p.2,by rw[<-h.snd];exact aaE.mpr ⟨p,hp,rfl⟩,(h.is p hp).1⟩
 ·rintro⟨e,he,hk⟩;rw[<-h.snd]at he;obtain⟨p,hp,rfl⟩:=aaE.mp he;have:=knd.inj _ _ _ hk (h.is p hp).1;rw[this];exact aaE.mpr ⟨p,hp,rfl⟩
theorem lg.perm{es es':List (Int×Value)}{ks:List K}{ps:List (K×(Int×Value))}(h:lg knd es ks ps)(p:abb es' es):∃ps',lg knd es' ks ps':=by
 obtain⟨ps',p1,e⟩:=Bb p ps h.snd;exact⟨ps',e,(p1.map _).trans h.fst,λq hq=>h.is q (p1.mem_iff.mp hq)⟩
theorem lg.push{es:List (Int×Value)}{ks:List K}{ps:List (K×(Int×Value))}(h:lg knd es ks ps){k:K}{x:Value}(hk:knd.is k x=true)(hx:x.scannable=true):lg knd (es++[(knd.hash k,x)]) (ks++[k]) (ps++[(k,(knd.hash k,x))]):=by
 refine⟨by rw[aam,h.snd];rfl,by rw[aam];exact h.fst.append_right _,λp hp=>?_⟩;rcases aaK.mp hp with hp|hp
 ·exact h.is p hp
 ·rw[aal.mp hp];exact⟨hk,rfl,hx⟩
def jz(b:Bool)(knd:KeyKind prog w K)(h:Heap)(a:Addr)(ks:List K):Prop:=
 ∃o es ep t ps,h.get? a=some o/\o.ExactSet/\o.data=.set es ep t/\es.size<scanBound/\t.fits es.size=true/\eZ b t/\lg knd es.toList ks ps
theorem Eh{h:Heap}{a:Addr}{o:Obj}{es:Array (Int×Value)}{ep:Nat}{t:SetTable}(ho:h.get? a=some o)(hex:o.ExactSet)(hd:o.data=.set es ep t)
  {es':Array (Int×Value)}{t':SetTable}{ks:List K}{ps:List (K×(Int×Value))}(hb:es'.size<scanBound)(hf:t'.fits es'.size=true)(ht:eZ b t')(hp:lg knd es'.toList ks ps):
  (h.update a (Obj.putSet es' t')).get? a=some { o with data:=.set es' (ep+1) t' }/\jz b knd (h.update a (Obj.putSet es' t')) a ks:=by
 have g:=Heap.get?_update_self (Obj.putSet es' t') ho (by rw[putSet_of es' t' hd];rfl);rw[putSet_of es' t' hd]at g;exact⟨g,_,es',ep+1,t',ps,g,hex,rfl,hb,hf,ht,hp⟩
theorem Hb{g:Bool->Sem Unit}(hg:∀(c:Bool) (s1:Shared) (Q1:Unit->Shared->Prop),Q1 () s1->wpAny (model prog w) A (g c) Q1 E s1)
  {a:Addr}{o:Obj}{es es1:Array (Int×Value)}{ep:Nat}{t t2:SetTable}{ks:List K}{ps:List (K×(Int×Value))}{wd:Bool}{R:Option Bool->Shared->Prop}
  (ho:s.heap.get? a=some o)(hex:o.ExactSet)(hd:o.data=.set es ep t)(hb:es1.size<scanBound)(hf:t2.fits es1.size=true)(ht:eZ b t2)(hp:lg knd es1.toList ks ps)
  (h:∀h1,Heap.SameBut a s.heap h1->jz b knd h1 a ks->R (some true) { s with heap:=h1 }):
  wpAny (model prog w) A (do
   storeSet a es1 t2
   if (!wd && t2.tooFull)=true then do
    g (relayAll t2 es1 (SetTable.grown es1.size)).2.2
    storeSet a (relayAll t2 es1 (SetTable.grown es1.size)).1 (relayAll t2 es1 (SetTable.grown es1.size)).2.1
    pure (some true)
   else pure (some true)) R E s:=by
 obtain⟨g1,w1⟩:=Eh (knd:=knd) ho hex hd hb hf ht hp;have b1:=Heap.SameBut.update s.heap a (Obj.putSet es1 t2);refine wpAny_bind (wpAny_storeSet_of ho hd ?_ (fits_of_scanBound hb));split
 ·have p2:=relayAll_perm t2 es1 (SetTable.grown es1.size);have f2:=relayAll_fits t2 es1 (SetTable.grown es1.size);have o2:=vZ ht es1 (SetTable.grown es1.size);generalize relayAll t2 es1 (SetTable.grown es1.size)=r at p2 f2 o2 ⊢;obtain⟨es2,t3,gv⟩:=r;dsimp only at p2 f2 o2 ⊢;obtain⟨ps2,hp2⟩:=hp.perm p2;have hs:es2.size=es1.size:=by simpa using p2.length_eq
  have hb2:es2.size<scanBound:=hs ▸ hb;refine wpAny_bind (hg _ _ _ (wpAny_bind (wpAny_storeSet_of g1 rfl ?_ (fits_of_scanBound hb2))));exact wpAny_pure (h _ (b1.trans (Heap.SameBut.update _ a _)) (Eh (knd:=knd) g1 hex rfl hb2 f2 o2 hp2).2)
 ·exact wpAny_pure (h _ b1 w1)
theorem G3{a:Addr}{ks:List K}{k:K}{x:Value}{Q:Bool->Shared->Prop}(hkey:knd.is k x=true)(hsc:x.scannable=true)(hS:jz b knd s.heap a ks)(hroom:ks.length+1<scanBound)
  (h:∀h1,Heap.SameBut a s.heap h1->jz b knd h1 a (if k∈ks then ks else ks++[k])->Q (!decide (k∈ks)) { s with heap:=h1 }):
  wpAny (model prog w) A (setAddHashed a x (knd.hash k)) Q E s:=by
 obtain⟨o,es,ep,t,ps,ho,hex,hd,hb,hf,ht,hp⟩:=hS;have hel:=hp.elems;have hn:es.size=ks.length:=by simpa using hp.size
 unfold setAddHashed setAddHashedIn;refine wpAny_holding (wpAny_bind (wpAny_setState_of ho hd hf ?_));dsimp only;rw[byScan_of hsc hb hel,if_pos rfl];unfold setAddByScan;refine wpAny_bind (wpAny_bind (wpAny_rule (wpAny_bind (wpAny_setScan_of hkey ho hd hf hel ?_))));have hm:=hp.mem k;cases hr:List.findIdx? (λe=>knd.is k e.2) es.toList with
 | some j =>
  obtain⟨hj,hpj,_⟩:=List.findIdx?_eq_some_iff_getElem.mp hr;have hk:k∈ks:=hm.mpr ⟨_,aaP hj,hpj⟩;have e:s={ s with heap:=s.heap }:=by cases s;rfl
  have q:=h s.heap (Heap.SameBut.refl a s.heap) (by rw[if_pos hk];exact⟨o,es,ep,t,ps,ho,hex,hd,hb,hf,ht,hp⟩);rw[decide_eq_true hk]at q;dsimp only;rw[e];exact wpAny_pure (wpAny_pure q)
 | none =>
  have hk:¬k∈ks:=λz=>by
   obtain⟨e,he,hq⟩:=hm.mp z;have:=List.findIdx?_eq_none_iff.mp hr e he;rw[hq]at this;cases this
  rw[if_neg hk,decide_eq_false hk]at h;dsimp only;have p1:=layNew_perm t es (knd.hash k) x;have f1:=layNew_fits t es (knd.hash k) x;have o1:=Bg ht es (knd.hash k) x;generalize layNew t es (knd.hash k) x=L at p1 f1 o1 ⊢;obtain⟨es1,t1,wd,gv⟩:=L;dsimp only at p1 f1 o1 ⊢;rw[abr]at p1;obtain⟨ps1,hp1⟩:=(hp.push hkey hsc).perm p1;have hb1:es1.size<scanBound:=by
   have:=p1.length_eq;rw[aae,aa5,aaj,aaj]at this;lia
  have hg:∀(c:Bool) (s1:Shared) (Q1:Unit->Shared->Prop),Q1 () s1->wpAny (model prog w) A (match c with|true=>rule "set.scan.the-table-gave-way" | false=>pure ()) Q1 E s1:=λc s1 Q1 q=>by
   cases c
   ·exact wpAny_pure q
   ·exact wpAny_rule q
  refine wpAny_bind (hg _ _ _ ?_);split
  ·refine wpAny_bind ?_;rw[hashByValue_scannable 8 hsc];refine wpAny_pure (Hb (b:=b) hg ho hex hd hb1 ?_ ?_ hp1 λh1 a1 a2=>?_)
   ·split
    ·exact f1
    ·exact SetTable.fits_plain_off f1
   ·split
    ·exact o1
    ·exact DP o1
   ·exact wpAny_pure (h h1 a1 a2)
  ·refine wpAny_bind (wpAny_pure ?_);rw[if_pos rfl];exact Hb (b:=b) hg ho hex hd hb1 f1 o1 hp1 λh1 a1 a2=>wpAny_pure (h h1 a1 a2)
end
section
variable{K:Type}[DecidableEq K]
def met(f:Nat->K):Nat->List K
 | 0=>[]
 | n+1=>if f n∈met f n then met f n else met f n++[f n]
theorem uQ(f:Nat->K):∀(n:Nat) (k:K),k∈met f n ↔ ∃i,i<n/\f i=k
 | 0,k=>by simp[met]
 | n+1,k=>by
  unfold met;have ih:=uQ f n;constructor
  ·intro h;split at h
   ·obtain⟨i,h1,h2⟩:=(ih k).mp h;exact⟨i,by lia,h2⟩
   ·rcases aaK.mp h with h|h
    ·obtain⟨i,h1,h2⟩:=(ih k).mp h;exact⟨i,by lia,h2⟩
    ·exact⟨n,by lia,(aal.mp h).symm⟩
  ·rintro⟨i,h1,rfl⟩;rcases aaM i n with z|z
   ·have:=(ih (f i)).mpr ⟨i,z,rfl⟩;split
    ·exact this
    ·exact aa0 _ this
   ·have e:i=n:=by lia
    subst e;split
    ·assumption
    ·exact aas _ (aal.mpr rfl)
theorem kh(f:Nat->K):∀n:Nat,(met f n).Nodup
 | 0=>.nil
 | n+1=>by
  unfold met;split
  ·exact kh f n
  ·rename_i h;refine List.nodup_append.mpr ⟨kh f n,by simp,λa ha b hb e=>?_⟩;rw[aal.mp hb]at e;exact h (e ▸ ha)
theorem uE(f:Nat->K):∀n:Nat,(met f n).length<=n
 | 0=>aad _
 | n+1=>by
  unfold met;have:=uE f n;split
  ·lia
  ·rw[aae,aa5];lia
theorem wR(f:Nat->K){i:Nat}:∀n:Nat,i<=n->(met f i).length<=(met f n).length
 | 0,h=>by
  have:i=0:=by lia
  subst this;exact aad _
 | n+1,h=>by
  rcases aaM i (n+1)with z|z
  ·have:=wR f n (show i<=n by lia);show _<=(if f n∈met f n then met f n else met f n++[f n]).length;split
   ·exact this
   ·rw[aae];lia
  ·have:i=n+1:=by lia
   subst this;exact aad _
end
section
variable{prog:Program}{w:World}{K:Type}[DecidableEq K]{knd:KeyKind prog w K}{A:Around}{R:Result->Shared->Prop}{I:Addr}{fp wr:List Addr}{G:Array GenState->Array GenState->Prop}{n:Nat}{P:Nat->Value->Prop}{St:Nat->Shared->Prop}{b:Bool}
theorem jz.at{h h':Heap}{a:Addr}{ks:List K}(hS:jz b knd h a ks)(e:∀o,h.get? a=some o->h'.get? a=some o):jz b knd h' a ks:=by
 obtain⟨o,es,ep,t,ps,ho,r⟩:=hS;exact⟨o,es,ep,t,ps,e o ho,r⟩
theorem J6(W:WalksS prog w A.in1 I fp wr G n P St)(S:Addr)(hSf:S∉fp)(f:Nat->K)(hf:∀i v,P i v->knd.is (f i) v=true/\v.scannable=true)(hb:(met f n).length+1<scanBound):
  ∀(k i:Nat) (s:Shared),n - i=k->i<=n->St i s->jz b knd s.heap S (met f i) ->
   (∀s1,Moved (S::wr) G s s1->jz b knd s1.heap S (met f n)->R (.ok (.ret .none)) s1) ->
   codeAny (model prog w) A (.builtin "set.update.loop" ⟨[.ref S,.ref I],[]⟩) R s:=by
 have nw:S∉wr:=λz=>hSf (W.sub _ z);have sub:∀c∈wr,c∈S::wr:=λc hc=>.tail _ hc;intro k
 induction k with
 | zero =>
  intro i s hk hi hst hS q;obtain rfl:i=n:=by lia
  refine codeAny_builtin PyProof.Rows.F.entry_set_update_loop ?_;rw[Around.under_plainId PyProof.Rows.F.plain_set_update_loop _];refine wpAny_bind (m:=pyNext (.ref I)) (W.done s _ _ hst λs1 m1=>?_);exact wpAny_pure (q s1 (m1.mono sub) (hS.at λo e=>m1.heap S _ nw e))
 | succ k ih =>
  intro i s hk hi hst hS q;have hlt:i<n:=by lia
  refine codeAny_builtin PyProof.Rows.F.entry_set_update_loop ?_;rw[Around.under_plainId PyProof.Rows.F.plain_set_update_loop _];refine wpAny_bind (m:=pyNext (.ref I)) (W.item i s _ _ hlt hst λv s1 hv hst1 m1=>?_);obtain⟨hk1,hk2⟩:=hf i v hv;refine wpAny_bind (m:=holding [v] (setAdd S v)) (wpAny_holding ?_);unfold setAdd;refine wpAny_holding (wpAny_bind (knd.pyHash hk1 ?_));have hroom:(met f i).length+1<scanBound:=by
   have:=wR f n hi;lia
  refine G3 (s:={ s1 with toks:=s1.toks+1 }) hk1 hk2 (hS.at λo e=>m1.heap S _ nw e) hroom λh2 b2 w2=>?_;refine wpAny_pure ⟨plainId_quiet PyProof.Rows.F.plain_set_update_loop _,ih (i+1) _ (by lia) hlt (W.frame _ s1 _ _ hst1 (abJ _) λc hc o e=>?_) w2 λs3 m3 w3=>?_⟩
  ·rw[b2.2 c (λz:c=S=>hSf (z ▸ hc))];exact e
  ·refine q s3 (Moved.trans W.gtrans ((m1.mono sub).then_heap (abJ _) λc o hc e=>?_) m3) w3;rw[b2.2 c (λz:c=S=>hc (by rw[z];exact .head _))];exact e
theorem HX(b:Bool){h:Heap}{a:Addr}(e:h.get? a=some { cls:=.type "set",dict:=none,data:=.set #[] 0 (.fresh 0 0 b) }):jz b knd h a []:=
 ⟨_,#[],0,_,[],e,⟨rfl,rfl,rfl⟩,rfl,by decide,rfl,⟨rfl,.nil⟩,rfl,.nil,λp hp=>by cases hp⟩
end
section
variable{prog:Program}{w:World}{K:Type}[DecidableEq K]{knd:KeyKind prog w K}{A:Around}{E:Value->Shared->Prop}{s:Shared}
def dC(w:World):Bool:=!w.params.followText "set-order"
abbrev newS(w:World):Obj:={ cls:=.type "set",dict:=none,data:=.set #[] 0 (.fresh 0 0 (dC w)) }
theorem Ak(x:Value){Q:Value->Shared->Prop}(h:Q (.ref s.heap.objs.size) { s with heap:=s.heap.push (newS w) }):
  codeAny (model prog w) A (.call (.builtin "set.__new__") ⟨[.type "set",x],[]⟩) (wants Q E) s:=by
 refine codeAny_of_tree ?_
 refine wpAny_bind (m:=checkBuiltinCall "set.__new__" ⟨[.type "set",x],[]⟩) (wpAny_of_eq (PySem.F.newCall_set_1 x) (wpAny_pure ⟨plainId_quiet PySem.F.plain_set_new _,codeAny_builtin PySem.F.entry_set_new ?_⟩))
 rw[Around.under_plainId PySem.F.plain_set_new _];unfold Builtin.«set.__new__» Builtin.Frozenset.newClass;have hsub:=PySem.sub_set_self;obtain⟨hp,g,d,tk,os⟩:=s;dsimp only
 wp_walk
 refine wpAny_askSetting (wpAny_pure ?_);dsimp only;simp only[newObj];refine wpAny_bind (wpAny_alloc (wpAny_pure ?_));exact wpAny_pure h
set_option maxRecDepth 100000 in
set_option maxHeartbeats 3200000 in
theorem Bq{l:Addr}{its:Array Value}{f:Nat->K}{Q:Value->Shared->Prop}(hh:A.handled=none)(hl:s.heap.IsList l its)(hf:∀i v,its[i]?=some v->knd.is (f i) v=true/\v.scannable=true)(hb:(met f its.size).length+1<scanBound)
  (h:∀(h1:Heap) (tk:Nat),jz (dC w) knd h1 s.heap.objs.size (met f its.size)->(∀c o,c<s.heap.objs.size->s.heap.get? c=some o->h1.get? c=some o)->Q (.ref s.heap.objs.size) { s with heap:=h1,toks:=tk }):
  wpAny (model prog w) A (call (.type "set") [.ref l]) Q E s:=by
 obtain⟨c,tl,hmro⟩:=PySem.F.called_set.mro;have hmade:=PySem.F.called_set.made;have hsub:=PySem.F.called_set.sub
 refine wpAny_call (codeAny_of_tree (show wpAny _ _ (callAny (.type "set") _) _ _ _ from ?_))
 refine wpAny_pure ⟨Code.quiet_builtin _ (by decide +kernel),codeAny_builtin PySem.F.entry_type_call ?_⟩
 rw[Around.under_plain (weight_type_call_type "set" [.ref l] []) rfl]
 have n1:=PySem.F.called_set.notType;have n2:=PySem.F.called_set.canCreate;have n3:=PySem.F.typeCall_set_1 (.ref l)
 repeat (any_goals (first|assumption|wp_step))
 refine codeAny_mono (Ak (.ref l) (E:=E) (Q:=λob s1=>ob=.ref s.heap.objs.size/\s1={ s with heap:=s.heap.push (newS w) }) ⟨rfl,rfl⟩) λr s1 hr=>?_;cases r with
 | error e=>exact hr
 | ok fl =>
  cases fl with
  | ret ob =>
   obtain⟨rfl,rfl⟩:=hr;have eS:(s.heap.push (newS w)).get? s.heap.objs.size=some (newS w):=Heap.get?_push_size _ rfl
   have hT:Shared.TypeIs { s with heap:=s.heap.push (newS w) } (.ref s.heap.objs.size) "set":=⟨_,eS,rfl⟩
   have i1:=PySem.F.called_set.init.lookup;have i2:=PySem.F.called_set.init.bind (.ref s.heap.objs.size)
   repeat (any_goals (first|assumption|wp_step))
   refine codeAny_mono (codeAny_call_builtin (R:=wants (λr s2=>r=.none /\ ∃h1 tk,s2={ s with heap:=h1,toks:=tk }/\jz (dC w) knd h1 s.heap.objs.size (met f its.size)/\(∀c o,c<s.heap.objs.size->s.heap.get? c=some o->h1.get? c=some o)) E)
    PySem.F.called_set.init.plain PySem.F.entry_set_init (check_set_init_1 hT ?_)) λr2 s2 hr2=>?_
   ·obtain⟨ol,hol,hcl,nl,hdl⟩:=hl;obtain⟨ocls,odict,odata,oslots⟩:=ol;simp only at hcl hdl;subst hcl;subst hdl
    have e1:(s.heap.push (newS w)).get? l=some { cls:=.type "list",dict:=odict,data:=.seq its nl,slots:=oslots }:=Heap.get?_push_of_some _ hol
    have q1:=PySem.F.sub_list_set;have q2:=PySem.F.sub_list_frozenset
    have q3:(Value.type "list" == Value.type "dict")=false:=by decide
    have hl1:(s.heap.push (newS w)).IsList l its:=⟨_,e1,rfl,nl,rfl⟩;unfold Builtin.«set.__init__» noKeywords Builtin.Frozenset.updateFrom;generalize hPI:pyIter=PI
    wp_walk
    subst hPI;refine wpAny_pyIter_list hl1 (wpAny_bind (wpAny_runValue ?_));have hlS:l<s.heap.objs.size:=Heap.lt_size hol;have z1:(s.heap.push (newS w)).objs.size=s.heap.objs.size+1:=Heap.size_push ..;have h3:A.in1.in1.in1.handled=none:=by simp[hh]
    have n4:l≠(s.heap.push (newS w)).objs.size:=by rw[z1];exact aak (abF hlS)
    have n5:s.heap.objs.size∉[(s.heap.push (newS w)).objs.size,l]:=λz=>by
     rcases aaA.mp z with z|z
     ·exact absurd (z.trans z1) (aak (aa7 _))
     ·exact absurd (aal.mp z).symm (aak hlS)
    refine J6 (b:=dC w) (knd:=knd) ((Walks.list h3 _ l n4 its).toS) s.heap.objs.size n5 f hf hb (its.size - 0) 0 _ (by lia) (aaq _) ⟨⟨_,Heap.get?_push_size _ rfl,rfl,rfl⟩,hl1.push _⟩ (HX (dC w) (Heap.get?_push_of_some _ eS)) λs3 m3 w3=>?_;obtain⟨h1,g1,d1,QC,os1⟩:=s3;have eg:g1=s.gens:=m3.gens;have ed:d1=s.drawn:=m3.drawn;have eo:os1=s.os:=m3.os;subst eg;subst ed;subst eo;refine wpAny_pure (show wpAny _ _ (ret Value.none) _ _ _ from wpAny_pure ⟨rfl,h1,QC,rfl,w3,λc o hc e=>?_⟩);refine m3.heap c o (λz=>?_) (Heap.get?_push_of_some _ (Heap.get?_push_of_some _ e));rcases aaA.mp z with z|z
    ·exact absurd z (aak hc)
    ·exact absurd ((aal.mp z).trans z1) (aak (abF hc))
   ·cases r2 with
    | error e=>exact hr2
    | ok fl2 =>
     cases fl2 with
     | ret r =>
      obtain⟨rfl,h1,tk,rfl,w1,k1⟩:=hr2
      repeat (any_goals (first|assumption|wp_step))
      exact h _ _ w1 k1
     | _=>exact hr2.elim
  | _=>exact hr.elim
end
set_option maxRecDepth 100000
theorem dY:Slot "set_iterator" "__next__" "set_iterator.__next__":=
 Slot.of (id := "set_iterator.__next__") (owner := "set_iterator") (n := "__next__") (by rw[typeLookup_type,builtinLookup_eq_fast];kernel_rfl) (by decide +kernel) (by decide +kernel) (by decide +kernel) (by first|exact .inl (by decide +kernel) | exact .inr (by decide +kernel)) (by rw[isSubtype_type];kernel_rfl)
theorem fL:entryFor table "set_iterator.__next__" = some Builtin.«set_iterator.__next__»:=entryFor_of_fast (by kernel_rfl)
theorem gk(x:Value):argsOk "set_iterator.__next__" ⟨[x],[]⟩:=by unfold argsOk;kernel_rfl
theorem zE:Slot "set_iterator" "__iter__" "set_iterator.__iter__":=
 Slot.of (id := "set_iterator.__iter__") (owner := "set_iterator") (n := "__iter__") (by rw[typeLookup_type,builtinLookup_eq_fast];kernel_rfl) (by decide +kernel) (by decide +kernel) (by decide +kernel) (by first|exact .inl (by decide +kernel) | exact .inr (by decide +kernel)) (by rw[isSubtype_type];kernel_rfl)
theorem rT:entryFor table "set_iterator.__iter__" = some Builtin.«dict_keyiterator.__iter__»:=entryFor_alias (id' := "dict_keyiterator.__iter__") (by kernel_rfl) rfl (by decide +kernel) (by kernel_rfl)
theorem uK(x:Value):argsOk "set_iterator.__iter__" ⟨[x],[]⟩:=by unfold argsOk;kernel_rfl
theorem qJ:entryFor table "set.__iter__" = some Builtin.«frozenset.__iter__»:=entryFor_alias (id' := "frozenset.__iter__") (by kernel_rfl) rfl (by decide +kernel) (by kernel_rfl)
set_option maxRecDepth 100000
section
variable{prog:Program}{w:World}{A:Around}{E:Value->Shared->Prop}{s:Shared}
abbrev M7(first:Value)(i:Int)(sv:Value)(n ep:Nat):Obj:={ cls:=.type "set_iterator",data:=.fields #[first,.int i 0,sv,.int n 0,.int ep 0] }
structure cz(h:Heap)(S:Addr)(o:Obj)(es:Array (Int×Value))(ep:Nat)(t:SetTable):Prop where
 get:h.get? S=some o
 dat:o.data=.set es ep t
 fit:t.fits es.size=true
theorem zu{it S:Addr}{o:Obj}{es:Array (Int×Value)}{ep slot nx i:Nat}{t:SetTable}{x:Value}{Q:Option Value->Shared->Prop}(hit:s.heap.get? it=some (M7 (.int slot 0) i (.ref S) es.size ep))(hS:cz s.heap S o es ep t)
  (hsn:∀(A':Around) (Q':Option (Value×Nat)->Shared->Prop) (E':Value->Shared->Prop),Q' (some (x,nx)) s->wpAny (model prog w) A' (setNext S slot i ep) Q' E' s)
  (hQ:∀h',h'.get? it=some (M7 (.int nx 0) (i+1:Nat) (.ref S) es.size ep)->Heap.SameBut it s.heap h'->Q (some x) { s with heap:=h' }):wpAny (model prog w) A (pyNext (.ref it)) Q E s:=by
 have hT:s.TypeIs (.ref it) "set_iterator":=⟨_,hit,rfl⟩
 unfold pyNext
 refine wpAny_bind (wpAny_attempt (wpAny_callSpecial?_slot (name:=Str.ofString "__next__") hT dY (wpAny_call_entry dY hT fL ?_ (gk _))))
 unfold Builtin.«set_iterator.__next__»
 refine wpAny_bind (m:=slotArgs "__next__" 0 _) (wpAny_pure ?_)
 refine wpAny_bind (wpAny_fieldsOf hit rfl ?_);dsimp only;refine wpAny_bind (wpAny_setEntries_of hS.get hS.dat hS.fit ?_);rw[if_neg (by simp)];rw[aaD,aaD,aaD];refine wpAny_bind (hsn _ _ _ ?_);dsimp only;refine wpAny_bind (wpAny_setField hit rfl (by simp) ?_);have h1:(s.heap.update it (Obj.mapFields (·.setIfInBounds 0 (rawInt nx)))).get? it=some (M7 (.int nx 0) i (.ref S) es.size ep):=Heap.get?_update_self _ hit rfl;refine wpAny_bind (wpAny_setField (s:={ s with heap:=s.heap.update it (Obj.mapFields (·.setIfInBounds 0 (rawInt nx))) }) h1 rfl (by simp) ?_);have h2:((s.heap.update it (Obj.mapFields (·.setIfInBounds 0 (rawInt nx)))).update it (Obj.mapFields (·.setIfInBounds 1 (rawInt ((i:Int)+1))))).get? it=some (M7 (.int nx 0) (i+1:Nat) (.ref S) es.size ep):=Heap.get?_update_self _ h1 rfl;exact wpAny_pure ⟨x,rfl,wpAny_pure (hQ _ h2 ((Heap.SameBut.update ..).trans (Heap.SameBut.update ..)))⟩
theorem next_end{it S:Addr}{o:Obj}{es:Array (Int×Value)}{ep slot i:Nat}{t:SetTable}{Q:Option Value->Shared->Prop}(hh:A.handled=none)(hit:s.heap.get? it=some (M7 (.int slot 0) i (.ref S) es.size ep))(hS:cz s.heap S o es ep t)
  (hsn:∀(A':Around) (Q':Option (Value×Nat)->Shared->Prop) (E':Value->Shared->Prop),Q' none s->wpAny (model prog w) A' (setNext S slot i ep) Q' E' s)
  (hQ:∀h',Heap.ExtBut it s.heap h'->Q none { s with heap:=h' }):wpAny (model prog w) A (pyNext (.ref it)) Q E s:=by
 have hT:s.TypeIs (.ref it) "set_iterator":=⟨_,hit,rfl⟩
 unfold pyNext
 refine wpAny_bind (wpAny_attempt (wpAny_callSpecial?_slot (name:=Str.ofString "__next__") hT dY (wpAny_call_entry dY hT fL ?_ (gk _))))
 unfold Builtin.«set_iterator.__next__»
 refine wpAny_bind (m:=slotArgs "__next__" 0 _) (wpAny_pure ?_)
 refine wpAny_bind (wpAny_fieldsOf hit rfl ?_);dsimp only;refine wpAny_bind (wpAny_setEntries_of hS.get hS.dat hS.fit ?_);rw[if_neg (by simp),aaD,aaD,aaD];refine wpAny_bind (hsn _ _ _ ?_);dsimp only;refine wpAny_bind (wpAny_setField hit rfl (by simp) ?_)
 refine wpAny_bind (m:=newExc (.type "StopIteration") []) ?_
 simp only[newExc,newTuple];refine wpAny_bind (wpAny_newObj_type ?_ (by size_fits));refine wpAny_bind (m:=firstArgMember _ _) (wpAny_of_eq (a:=Value.none) (by first|rfl | (simp only[firstArgMember];rfl)) ?_);refine wpAny_newObj_type ?_ (by size_fits);simp only[raiseNew];refine wpAny_bind (wpAny_handled ?_);rw[show A.in1.handled=none from hh];refine wpAny_bind (wpAny_pure (wpAny_throw ?_))
 refine wpAny_bind (wpAny_isInstance (T := "StopIteration") (b:=true) ⟨_,Heap.get?_push_size _ rfl,rfl⟩ isSubtype_stop ?_)
 exact wpAny_pure (hQ _ (((Heap.SameBut.update ..).extBut.push _).push _))
end
theorem lO{α:Type}:∀{l:List α}{i:Nat}{x:α},l[i]?=some x->abb (x::l.eraseIdx i) l
 | [],i,x,h=>by simp at h
 | a::l,0,x,h=>by
  cases h;exact .rfl
 | a::l,i+1,x,h=>by
  rw[List.eraseIdx_cons_succ];exact(List.Perm.swap a x _).trans ((lO (by simpa using h)).cons a)
theorem Ae{α:Type}(nx:Nat->Nat):∀(fuel k:Nat) (left:List α) (out:Array α),left.length=fuel->abb (pickOrder.go nx fuel k left out).toList (out.toList++left)
 | 0,k,left,out,h=>by
  have:left=[]:=acu h;subst this;unfold pickOrder.go;simp
 | fuel+1,k,left,out,h=>by
  have hlt:nx k%left.length<left.length:=aex _ (by lia);have e:=aac hlt;unfold pickOrder.go;rw[e];refine(Ae nx fuel (k+1) _ _ (by rw[acG hlt];lia)).trans ?_;rw[abr,aaG];exact(lO e).append_left _
theorem nQ{α:Type}(nx:Nat->Nat)(xs:Array α):abb (pickOrder nx xs).toList xs.toList:=by
 have:=Ae nx xs.size 0 xs.toList #[] (by simp);rw[abj]at this;exact this
section
variable{prog:Program}{w:World}{A:Around}{E:Value->Shared->Prop}{s:Shared}{S:Addr}{o:Obj}{es:Array (Int×Value)}{ep:Nat}{t:SetTable}
theorem kE{Q:Bool->Shared->Prop}(h:Q (!dC w) s):wpAny (model prog w) A setsByText Q E s:=by
 unfold setsByText;refine wpAny_bind (wpAny_askSetting (wpAny_pure ?_));unfold dC at h;rw[aep]at h;exact h
theorem vU(hS:cz s.heap S o es ep t)(ht:dC w=false){slot i:Nat}{Q:Option (Value×Nat)->Shared->Prop}(h:Q (((pickOrder (w.params.setOrder S ep) es)[i]?).map λe=>(e.2,slot)) s):wpAny (model prog w) A (setNext S slot i ep) Q E s:=by
 unfold setNext;refine wpAny_bind (wpAny_setState_of hS.get hS.dat hS.fit ?_);dsimp only;refine wpAny_bind (kE ?_);rw[ht];simp only[aej,if_true,bne_self_eq_false,aaV,if_false];refine wpAny_bind ?_;unfold setWalk;refine wpAny_bind (wpAny_setState_of hS.get hS.dat hS.fit ?_);dsimp only;refine wpAny_bind (kE ?_);rw[ht];simp only[aej,if_true];refine wpAny_bind (wpAny_askSetting (wpAny_pure (wpAny_pure h)))
theorem tD(hS:cz s.heap S o es ep t)(ht:dC w=true)(hl:t.led=true)(hp:¬((!t.plain && decide (es.size > 1))=true)){slot i:Nat}{Q:Option (Value×Nat)->Shared->Prop}
  (h:Q (match es[SetTable.below t.place slot]?,t.place[SetTable.below t.place slot]? with|some (_,x),some j=>some (x,j+1) | _,_=>none) s):wpAny (model prog w) A (setNext S slot i ep) Q E s:=by
 unfold setNext;refine wpAny_bind (wpAny_setState_of hS.get hS.dat hS.fit ?_);dsimp only;refine wpAny_bind (kE ?_);rw[ht];simp only[aen,aaV,if_false];split
 ·rename_i hc;exact absurd hc hp
 refine wpAny_bind (show wpAny _ _ (if (!t.led && !es.isEmpty)=true then unsupported "set:maker-not-led" else pure PUnit.unit) _ _ _ from ?_)
 rw[hl,aen,adl,if_neg aat];exact wpAny_pure (wpAny_pure h)
theorem Br(hS:cz s.heap S o es ep t){k:Nat}{e:Int×Value}(he:es[k]?=some e){Q:Value->Shared->Prop}(h:Q e.2 s):wpAny (model prog w) A (setNextDrawn S k ep) Q E s:=by
 unfold setNextDrawn;refine wpAny_bind (wpAny_setState_of hS.get hS.dat hS.fit ?_);dsimp only;rw[bne_self_eq_false,if_neg aat,he];exact wpAny_pure h
theorem Ac{α:Type}:∀(n:Nat) (xs:List α) (s:Shared) {Q:List α->Shared->Prop},xs.length=n->(∀l d,abb l xs->Q l { s with drawn:=d })->wpAny (model prog w) A (drawOrder n xs) Q E s
 | 0,xs,s,Q,hl,h=>by
  have:xs=[]:=acu hl;subst this;unfold drawOrder;have:=h [] s.drawn .rfl;exact wpAny_pure this
 | n+1,[],s,Q,hl,h=>by simp at hl
 | n+1,x::xs,s,Q,hl,h=>by
  unfold drawOrder;refine wpAny_bind ?_;intro Γ p hΓ;rw[show (choose Source.order (x::xs).length:Sem Nat)=Sem.choose .order (x::xs).length pure from rfl,Sem.wp_choose];refine⟨by simp,?_⟩;generalize (model prog w).w.draws Source.order (s.drawn.get Source.order)=v;have hlt:v%(x::xs).length<(x::xs).length:=aex _ (by simp);have e:=aac hlt
  show wpAny (model prog w) A (match (x::xs)[v%(x::xs).length]? with|some y=>(do return y::(<-drawOrder n ((x::xs).eraseIdx (v%(x::xs).length)))) | none=>unsupported "internal:drawOrder") Q E { s with drawn:=s.drawn.bump Source.order }
  rw[e];refine wpAny_bind (Ac n _ _ (by rw[acG hlt];simp at hl ⊢;lia) λl d p=>wpAny_pure (h _ d ((p.cons _).trans (lO e))))
end
set_option maxRecDepth 100000
section
variable{prog:Program}{w:World}{A:Around}{E:Value->Shared->Prop}{s:Shared}{S:Addr}{o:Obj}{es:Array (Int×Value)}{ep:Nat}{t:SetTable}
theorem Eg(hS:cz s.heap S o es ep t)(hc:o.cls=.type "set")(hb:es.size<scanBound){Q:Value->Shared->Prop}
  (h1:¬((dC w && (!t.plain && decide (es.size > 1)))=true)->Q (.ref s.heap.objs.size) { s with heap:=s.heap.push (M7 (.int 0 0) 0 (.ref S) es.size ep) })
  (h2:(dC w && (!t.plain && decide (es.size > 1)))=true -> ∀(l:List Nat) d,abb l (aaO es.size)->Q (.ref (s.heap.objs.size+1)) { s with heap:=(s.heap.push { cls:=.type "tuple",data:=.seq (l.map λi:Nat=>rawInt i).toArray 0 }).push (M7 (.ref s.heap.objs.size) 0 (.ref S) es.size ep),drawn:=d }):
  wpAny (model prog w) A (pyIter (.ref S)) Q E s:=by
 have hT:s.TypeIs (.ref S) "set":=⟨_,hS.get,hc⟩
 refine wpAny_pyIter_slot hT PySem.F.slot_set_iter (wpAny_call_entry PySem.F.slot_set_iter hT qJ ?_ (PySem.F.args_set_iter_1 _));unfold Builtin.«frozenset.__iter__»
 refine wpAny_bind (m:=Builtin.Frozenset.slot0 "__iter__" _) (wpAny_pure ?_)
 refine wpAny_bind (m:=Builtin.Frozenset.sizeOf S) (wpAny_bind (wpAny_setEntries_of hS.get hS.dat hS.fit (wpAny_pure ?_)));refine wpAny_bind (m:=setDrawn S) ?_;unfold setDrawn;refine wpAny_bind (wpAny_setState_of hS.get hS.dat hS.fit ?_);dsimp only;refine wpAny_bind (kE (wpAny_pure ?_));rw[aep];split
 ·rename_i hc1;refine wpAny_bind (Ac _ _ _ abi λl d hl=>?_);refine wpAny_bind (wpAny_newTuple ?_ (by rw[aaa,hl.length_eq,abi];exact fits_of_scanBound hb));refine wpAny_bind (wpAny_setEpoch_of (Heap.get?_push_of_some _ hS.get) hS.dat hS.fit ?_)
  refine wpAny_bind (wpAny_newObj_type (wpAny_pure ⟨_,rfl,"set_iterator",_,⟨_,Heap.get?_push_size _ rfl,rfl⟩,dY.lookup,?_⟩))
  have e:(s.heap.push { cls:=.type "tuple",data:=.seq (l.map λi:Nat=>rawInt i).toArray 0 }).objs.size=s.heap.objs.size+1:=Heap.size_push ..
  have q:=h2 hc1 l d hl;rw[<-e]at q;exact q
 ·rename_i hc1;refine wpAny_bind (wpAny_pure ?_);refine wpAny_bind (wpAny_setEpoch_of hS.get hS.dat hS.fit ?_)
  refine wpAny_bind (wpAny_newObj_type (wpAny_pure ⟨_,rfl,"set_iterator",_,⟨_,Heap.get?_push_size _ rfl,rfl⟩,dY.lookup,?_⟩))
  exact h1 hc1
abbrev Ru(l:List Nat):Obj:={ cls:=.type "tuple",data:=.seq (l.map λi:Nat=>rawInt i).toArray 0 }
theorem Ei{it T:Addr}{i k:Nat}{l:List Nat}{e:Int×Value}{Q:Option Value->Shared->Prop}(hit:s.heap.get? it=some (M7 (.ref T) i (.ref S) es.size ep))(QD:s.heap.get? T=some (Ru l))(hS:cz s.heap S o es ep t)(hk:l[i]?=some k)(he:es[k]?=some e)
  (hQ:∀h',h'.get? it=some (M7 (.ref T) (i+1:Nat) (.ref S) es.size ep)->Heap.SameBut it s.heap h'->Q (some e.2) { s with heap:=h' }):wpAny (model prog w) A (pyNext (.ref it)) Q E s:=by
 have hT:s.TypeIs (.ref it) "set_iterator":=⟨_,hit,rfl⟩
 unfold pyNext
 refine wpAny_bind (wpAny_attempt (wpAny_callSpecial?_slot (name:=Str.ofString "__next__") hT dY (wpAny_call_entry dY hT fL ?_ (gk _))))
 unfold Builtin.«set_iterator.__next__»
 refine wpAny_bind (m:=slotArgs "__next__" 0 _) (wpAny_pure ?_)
 refine wpAny_bind (wpAny_fieldsOf hit rfl ?_);dsimp only;refine wpAny_bind (wpAny_setEntries_of hS.get hS.dat hS.fit ?_);rw[if_neg (by simp)];refine wpAny_bind (wpAny_seqItems QD rfl ?_);have ek:(l.map λi:Nat=>rawInt i).toArray[(i:Int).toNat]?=some (rawInt k):=by
  rw[aaD,acr,aag,hk];rfl
 dsimp only;rw[ek];dsimp only [rawInt];rw[aaD,aaD];refine wpAny_bind (Br hS he ?_);refine wpAny_bind (wpAny_setField hit rfl (by simp) ?_);exact wpAny_pure ⟨_,rfl,wpAny_pure (hQ _ (Heap.get?_update_self _ hit rfl) (Heap.SameBut.update ..))⟩
theorem Bx{it T:Addr}{i:Nat}{l:List Nat}{Q:Option Value->Shared->Prop}(hh:A.handled=none)(hit:s.heap.get? it=some (M7 (.ref T) i (.ref S) es.size ep))(QD:s.heap.get? T=some (Ru l))(hS:cz s.heap S o es ep t)(hk:l[i]?=none)
  (hQ:∀h',Heap.ExtBut it s.heap h'->Q none { s with heap:=h' }):wpAny (model prog w) A (pyNext (.ref it)) Q E s:=by
 have hT:s.TypeIs (.ref it) "set_iterator":=⟨_,hit,rfl⟩
 unfold pyNext
 refine wpAny_bind (wpAny_attempt (wpAny_callSpecial?_slot (name:=Str.ofString "__next__") hT dY (wpAny_call_entry dY hT fL ?_ (gk _))))
 unfold Builtin.«set_iterator.__next__»
 refine wpAny_bind (m:=slotArgs "__next__" 0 _) (wpAny_pure ?_)
 refine wpAny_bind (wpAny_fieldsOf hit rfl ?_);dsimp only;refine wpAny_bind (wpAny_setEntries_of hS.get hS.dat hS.fit ?_);rw[if_neg (by simp)];refine wpAny_bind (wpAny_seqItems QD rfl ?_);have ek:(l.map λi:Nat=>rawInt i).toArray[(i:Int).toNat]?=none:=by
  rw[aaD,acr,aag,hk];rfl
 dsimp only;rw[ek];dsimp only;refine wpAny_bind (wpAny_setField hit rfl (by simp) ?_);have h1:(s.heap.update it (Obj.mapFields (·.setIfInBounds 0 (rawInt 0)))).get? it=some (M7 (.int 0 0) i (.ref S) es.size ep):=Heap.get?_update_self _ hit rfl;refine wpAny_bind (wpAny_setField (s:={ s with heap:=s.heap.update it (Obj.mapFields (·.setIfInBounds 0 (rawInt 0))) }) h1 rfl (by simp) ?_)
 refine wpAny_bind (m:=newExc (.type "StopIteration") []) ?_
 simp only[newExc,newTuple];refine wpAny_bind (wpAny_newObj_type ?_ (by size_fits));refine wpAny_bind (m:=firstArgMember _ _) (wpAny_of_eq (a:=Value.none) (by first|rfl | (simp only[firstArgMember];rfl)) ?_);refine wpAny_newObj_type ?_ (by size_fits);simp only[raiseNew];refine wpAny_bind (wpAny_handled ?_);rw[show A.in1.handled=none from hh];refine wpAny_bind (wpAny_pure (wpAny_throw ?_))
 refine wpAny_bind (wpAny_isInstance (T := "StopIteration") (b:=true) ⟨_,Heap.get?_push_size _ rfl,rfl⟩ isSubtype_stop ?_)
 exact wpAny_pure (hQ _ ((((Heap.SameBut.update ..).trans (Heap.SameBut.update ..)).extBut.push _).push _))
end
set_option maxRecDepth 100000
section
variable{prog:Program}{w:World}{A:Around}{E:Value->Shared->Prop}{s:Shared}{S it:Addr}{o:Obj}{es:Array (Int×Value)}{ep:Nat}{t:SetTable}
theorem oG(hit:s.TypeIs (.ref it) "set_iterator"){Q:Value->Shared->Prop}(h:Q (.ref it) s):wpAny (model prog w) A (pyIter (.ref it)) Q E s:=by
 refine wpAny_pyIter_slot hit zE (wpAny_call_entry zE hit rT ?_ (uK _));show wpAny _ _ (ret (.ref it)) _ _ s
 exact wpAny_pure ⟨_,rfl,"set_iterator",_,hit,dY.lookup,h⟩
theorem cz.at{h h':Heap}(hS:cz h S o es ep t)(e:∀o,h.get? S=some o->h'.get? S=some o):cz h' S o es ep t:=⟨e _ hS.get,hS.dat,hS.fit⟩
abbrev uc(ps:List (Int×Value))(i:Nat)(v:Value):Prop:=∃e,ps[i]?=some e/\v=e.2
theorem BZ(hh:A.handled=none)(ht:dC w=false)(hne:S≠it):
  Walks prog w A it [it,S] [it] es.size (uc (pickOrder (w.params.setOrder S ep) es).toList) (λi h=>h.get? it=some (M7 (.int 0 0) i (.ref S) es.size ep)/\cz h S o es ep t) where
 sub:=λb hb=>by simp at hb;simp[hb]
 frame:=λ_ _ _ st hk=>⟨hk it (by simp) _ st.1,st.2.at λo e=>hk S (by simp) o e⟩
 item:=λi s Q E hi st hQ=>by
  have hl:(pickOrder (w.params.setOrder S ep) es).size=es.size:=by
   have:=(nQ (w.params.setOrder S ep) es).length_eq;simpa using this
  obtain⟨e,he⟩:∃e,(pickOrder (w.params.setOrder S ep) es)[i]?=some e:=⟨(pickOrder (w.params.setOrder S ep) es)[i]'(by omega),by simp[hl,hi]⟩;refine zu st.1 st.2 (x:=e.2) (nx:=0) (λA' Q' E' h=>vU st.2 ht (by rw[he];exact h)) λh' h1 hs=>?_;exact hQ e.2 h' s.toks ⟨e,by rw[aaN];exact he,rfl⟩ ⟨h1,st.2.at λo e=>hs.extBut S o hne e⟩ λb o hb e=>hs.extBut b o (λh=>hb (by simp[h])) e
 done:=λs Q E st hQ=>by
  have hl:(pickOrder (w.params.setOrder S ep) es).size=es.size:=by
   have:=(nQ (w.params.setOrder S ep) es).length_eq;simpa using this
  refine next_end hh st.1 st.2 (λA' Q' E' h=>vU st.2 ht (by rw[show (pickOrder (w.params.setOrder S ep) es)[es.size]?=none by simp[hl]];exact h)) λh' he=>?_;exact hQ h' s.toks λb o hb e=>he b o (λh=>hb (by simp[h])) e
 self:=λ_ _ _ _ st hQ=>oG ⟨_,st.1,rfl⟩ hQ
def slotAt(t:SetTable):Nat->Nat
 | 0=>0
 | i+1=>t.place.getD i 0+1
theorem qG(h:t.place.toList.Pairwise (· < ·)){i:Nat}(hi:i<=t.place.size):SetTable.below t.place (slotAt t i)=i:=by
 obtain⟨h1,h2,h3⟩:=xY h (slotAt t i);generalize SetTable.below t.place (slotAt t i)=b at h1 h2 h3;rcases abM b i with hb|hb|hb
 ·exfalso
  match i,hi,hb,h2,h3 with
  | i+1,hi,hb,h2,h3 =>
   have a:=h3 b (by lia) (aad _);have e:slotAt t (i+1)=t.place[i]'(by omega)+1:=by simp[slotAt,adI,show i<t.place.size by omega]
   rw[e]at a;rcases aaM b i with hc|hc
   ·have:=mK h hc (show i<t.place.size by lia);lia
   ·have:b=i:=by lia
    subst this;lia
 ·exact hb
 ·exfalso;have a:=h2 i (by lia) hb
  match i,hi,hb,a with
  | 0,hi,hb,a=>exact absurd a (aby _)
  | i+1,hi,hb,a =>
   have e:slotAt t (i+1)=t.place[i]'(by omega)+1:=by simp[slotAt,adI,show i<t.place.size by omega]
   rw[e]at a;have:=mK h (show i<i+1 by lia) (show i+1<t.place.size by lia);lia
theorem yH(hh:A.handled=none)(ht:dC w=true)(hT:eZ true t)(hf:t.fits es.size=true)(hp:¬((!t.plain && decide (es.size > 1))=true))(hne:S≠it):
  Walks prog w A it [it,S] [it] es.size (uc es.toList) (λi h=>h.get? it=some (M7 (.int (slotAt t i) 0) i (.ref S) es.size ep)/\cz h S o es ep t) where
 sub:=λb hb=>by simp at hb;simp[hb]
 frame:=λ_ _ _ st hk=>⟨hk it (by simp) _ st.1,st.2.at λo e=>hk S (by simp) o e⟩
 item:=λi s Q E hi st hQ=>by
  have hl:t.place.size=es.size:=by
   simp[SetTable.fits]at hf;exact hf.1
  have he:es[i]?=some es[i]:=by simp[hi]
  have hj:t.place[i]?=some (t.place[i]'(by omega)):=by simp[hl,hi]
  have e:slotAt t (i+1)=t.place[i]'(by omega)+1:=by simp[slotAt,adI,show i<t.place.size by omega]
  refine zu st.1 st.2 (x:=es[i].2) (nx:=slotAt t (i+1)) (λA' Q' E' h=>tD st.2 ht hT.1 hp (by rw[qG hT.2 (by lia),he,hj];rw[e]at h;exact h)) λh' h1 hs=>?_;exact hQ es[i].2 h' s.toks ⟨es[i],by rw[aaN];exact he,rfl⟩ ⟨h1,st.2.at λo e=>hs.extBut S o hne e⟩ λb o hb e=>hs.extBut b o (λh=>hb (by simp[h])) e
 done:=λs Q E st hQ=>by
  have hl:t.place.size=es.size:=by
   simp[SetTable.fits]at hf;exact hf.1
  refine next_end hh st.1 st.2 (λA' Q' E' h=>tD st.2 ht hT.1 hp (by rw[qG hT.2 (by lia),show es[es.size]?=none by simp];exact h)) λh' he=>?_;exact hQ h' s.toks λb o hb e=>he b o (λh=>hb (by simp[h])) e
 self:=λ_ _ _ _ st hQ=>oG ⟨_,st.1,rfl⟩ hQ
theorem yE{T:Addr}{l:List Nat}(hh:A.handled=none)(hl:abb l (aaO es.size))(hne:S≠it)(hTi:T≠it):
  Walks prog w A it [it,S,T] [it] es.size (uc (l.filterMap λk=>es[k]?)) (λi h=>h.get? it=some (M7 (.ref T) i (.ref S) es.size ep)/\cz h S o es ep t/\h.get? T=some (Ru l)) where
 sub:=λb hb=>by simp at hb;simp[hb]
 frame:=λ_ _ _ st hk=>⟨hk it (by simp) _ st.1,st.2.1.at λo e=>hk S (by simp) o e,hk T (by simp) _ st.2.2⟩
 item:=λi s Q E hi st hQ=>by
  have hll:l.length=es.size:=by rw[hl.length_eq,abi]
  have hk:l[i]?=some (l[i]'(by omega)):=by simp[hll,hi]
  have hkm:l[i]'(by omega)<es.size:=ach.mp (hl.mem_iff.mp (aaP _));have he:es[l[i]'(by omega)]?=some (es[l[i]'(by omega)]):=by simp[hkm]
  have hv:(l.filterMap λk=>es[k]?)[i]?=some (es[l[i]'(by omega)]):=by
   have hm:∀l':List Nat,(∀k∈l',k<es.size)->(l'.filterMap λk=>es[k]?).map some=l'.map λk=>es[k]?:=by
    intro l'
    induction l' with
    | nil=>intro _;rfl
    | cons a l' ih =>
     intro h;have ha:es[a]?=some (es[a]'(h a aay)):=by simp[h a aay]
     rw[abO,ha,aaz,aaz,ih λk hk=>h k (aaw _ hk),ha]
   have:=congrArg (λx=>x[i]?) (hm l λk hk=>ach.mp (hl.mem_iff.mp hk));simp only[aag,hk,acp,he]at this;cases hq:(l.filterMap λk=>es[k]?)[i]? with
   | none=>rw[hq]at this;cases this
   | some y=>rw[hq]at this;injection this
  refine Ei st.1 st.2.2 st.2.1 hk he λh' h1 hs=>?_;exact hQ _ h' s.toks ⟨_,hv,rfl⟩ ⟨h1,st.2.1.at λo e=>hs.extBut S o hne e,hs.extBut T _ hTi st.2.2⟩ λb o hb e=>hs.extBut b o (λh=>hb (by simp[h])) e
 done:=λs Q E st hQ=>by
  have hll:l.length=es.size:=by rw[hl.length_eq,abi]
  refine Bx hh st.1 st.2.2 st.2.1 (by simp[hll]) λh' he=>?_;exact hQ h' s.toks λb o hb e=>he b o (λh=>hb (by simp[h])) e
 self:=λ_ _ _ _ st hQ=>oG ⟨_,st.1,rfl⟩ hQ
theorem sH(es:Array (Int×Value)):((aaO es.size).filterMap λk=>es[k]?)=es.toList:=by
 apply ab9;intro i;have hm:∀n,n<=es.size->((aaO n).filterMap λk=>es[k]?)=es.toList.take n:=by
  intro n
  induction n with
  | zero=>intro _;simp
  | succ n ih =>
   intro h;have ha:es[n]?=some (es[n]'(by omega)):=by simp[show n<es.size by omega]
   rw[aaR,List.filterMap_append,ih (by lia),abO,ha,List.filterMap_nil,aa8,aaN,ha];rfl
 rw[hm es.size (aad _)];rw[aav (by simp)]
theorem Bt(hh:A.handled=none)(hS:cz s.heap S o es ep t)(hc:o.cls=.type "set")(hb:es.size<scanBound)(hT:eZ (dC w) t){Q:Value->Shared->Prop}
  (h:∀(I:Addr) (h':Heap) d fp ps St,abb ps es.toList->Walks prog w A I fp [I] es.size (uc ps) St->St 0 h'->(∀b o,s.heap.get? b=some o->h'.get? b=some o)->s.heap.objs.size<=I->(∀b∈fp,b=S\/s.heap.objs.size<=b)->Q (.ref I) { s with heap:=h',drawn:=d }):
  wpAny (model prog w) A (pyIter (.ref S)) Q E s:=by
 have hlt:S<s.heap.objs.size:=Heap.lt_size hS.get;refine Eg hS hc hb (λhc1=>?_) λhc1 l d hl=>?_
 ·cases ht:dC w with
  | false =>
   refine h s.heap.objs.size _ s.drawn _ _ _ (nQ _ _) (BZ (o:=o) (t:=t) hh ht (aak hlt)) ⟨Heap.get?_push_size _ rfl,hS.at λo e=>Heap.get?_push_of_some _ e⟩ (λb o e=>Heap.get?_push_of_some _ e) (aad _) ?_;intro b hb;simp at hb;rcases hb with rfl|rfl
   ·exact .inr (aad _)
   ·exact .inl rfl
  | true =>
   rw[ht]at hT hc1;rw[ac1]at hc1;refine h s.heap.objs.size _ s.drawn _ _ _ .rfl (yH (o:=o) (t:=t) hh ht hT hS.fit hc1 (aak hlt)) ⟨Heap.get?_push_size _ rfl,hS.at λo e=>Heap.get?_push_of_some _ e⟩ (λb o e=>Heap.get?_push_of_some _ e) (aad _) ?_;intro b hb;simp at hb;rcases hb with rfl|rfl
   ·exact .inr (aad _)
   ·exact .inl rfl
 ·have e1:(s.heap.push (Ru l)).objs.size=s.heap.objs.size+1:=Heap.size_push ..;refine h (s.heap.objs.size+1) _ d _ _ _ ?_ (yE (o:=o) (t:=t) (T:=s.heap.objs.size) hh hl (aak (abF hlt)) (aak (aa7 _))) ⟨?_,hS.at λo e=>Heap.get?_push_of_some _ (Heap.get?_push_of_some _ e),Heap.get?_push_of_some _ (Heap.get?_push_size _ rfl)⟩ (λb o e=>Heap.get?_push_of_some _ (Heap.get?_push_of_some _ e)) (abJ _) ?_
  ·have:=hl.filterMap λk=>es[k]?;rw[sH]at this;exact this
  ·rw[<-e1];exact Heap.get?_push_size _ rfl
  ·intro b hb;simp at hb;rcases hb with rfl|rfl|rfl
   ·exact .inr (abJ _)
   ·exact .inl rfl
   ·exact .inr (aad _)
end
set_option maxRecDepth 100000
section
variable{prog:Program}{w:World}{A:Around}{E:Value->Shared->Prop}{s:Shared}{S:Addr}{o:Obj}{es:Array (Int×Value)}{ep:Nat}{t:SetTable}
theorem Fl{Q:Bool->Shared->Prop}(hT:s.TypeIs (.ref S) "set")(h:Q false s):wpAny (model prog w) A (Builtin.List.listLengthHint (.ref S)) Q E s:=by
 unfold Builtin.List.listLengthHint;refine wpAny_bind (wpAny_specialOf hT PySem.F.slot_set_len.lookup ?_)
 generalize hi:("set.__len__" : String)=i0
 wp_delta
 rw[show splitId i0=some ("set","__len__") by subst hi;decide +kernel]
 subst hi
 refine wpAny_bind (wpAny_isInstance (T := "set") (b:=true) hT (by rw[isSubtype_type];kernel_rfl) ?_)
 refine wpAny_ite_split (λab=>absurd ab (by decide)) λ_=>wpAny_ite_split (λ_=>?_) λab=>absurd (by decide +kernel) ab;exact wpAny_bind (wpAny_typeOf hT (wpAny_pure h))
theorem yJ{wr:List Addr}{s s':Shared}(m:Moved wr (λa b=>b=a) s s'):s'={ s with heap:=s'.heap,toks:=s'.toks }:=by
 obtain⟨h1,g1,d1,t1,o1⟩:=s';obtain⟨h0,g0,d0,t0,o0⟩:=s;have a:=m.gens;have b:=m.drawn;have c:=m.os;dsimp only at a b c;subst a;subst b;subst c;rfl
theorem xn{Q:List Value->Shared->Prop}(hh:A.handled=none)(hS:cz s.heap S o es ep t)(hc:o.cls=.type "set")(hb:es.size<scanBound)(hT:eZ (dC w) t)
  (h:∀(acc:Array Value) (h':Heap) d tk ps,abb ps es.toList->ItemsOf (uc ps) acc es.size->s.heap.objs.size<h'.objs.size->(∀b o,s.heap.get? b=some o->h'.get? b=some o)->Q acc.toList { s with heap:=h',drawn:=d,toks:=tk }):
  wpAny (model prog w) A (collect (.ref S)) Q E s:=by
 have hlt:=Heap.lt_size hS.get
 have hty:s.TypeIs (.ref S) "set":=⟨_,hS.get,hc⟩
 have hsz:es.size<=sizeLine:=fits_of_scanBound hb;unfold collect;refine wpAny_bind (wpAny_runValue (codeAny_builtin PySem.F.entry_proto_collect ?_));rw[Around.under_plainId PySem.F.plain_proto_collect _];refine wpAny_bind (m:=newList []) (wpAny_newObj_type (wpAny_pure ⟨plainId_quiet PySem.F.plain_list_iadd _,codeAny_builtin PySem.F.entry_list_iadd ?_⟩));rw[Around.under_plainId PySem.F.plain_list_iadd _]
 show wpAny _ A.in1 (Builtin.List.listExtendWith (.ref s.heap.objs.size) (.ref S) (.ref s.heap.objs.size)) _ _ { s with heap:=s.heap.push (seqObj "list" #[] 0) }
 generalize hL:s.heap.objs.size=L at *
 have oth0:∀b o,s.heap.get? b=some o->(s.heap.push (seqObj "list" #[] 0)).get? b=some o:=λb o e=>Heap.get?_push_of_some _ e
 have hL0:(s.heap.push (seqObj "list" #[] 0)).get? L=some (seqObj "list" #[] 0):=by
  rw[<-hL];exact Heap.get?_push_size _ rfl
 have hsz0:(s.heap.push (seqObj "list" #[] 0)).objs.size=L+1:=by rw[<-hL];exact Heap.size_push ..
 generalize s.heap.push (seqObj "list" #[] 0)=h0 at *
 have hS0:cz h0 S o es ep t:=hS.at λo e=>oth0 _ _ e;have Vw:L≠S:=λe=>absurd hlt (by rw[e];exact aaZ _)
 have hty0:Shared.TypeIs { s with heap:=h0 } (.ref S) "set":=⟨_,hS0.get,hc⟩
 unfold Builtin.List.listExtendWith;refine wpAny_bind (wpAny_typeOf hty0 ?_);rw[if_neg (by simp[Builtin.List.listSameRef,Vw])];refine wpAny_bind (Bt (s:={ s with heap:=h0 }) (by simp[hh]) hS0 hc hb hT λI h1 d fp ps St hp W st hk hI hfp=>?_)
 have hL1:h1.get? L=some (seqObj "list" #[] 0):=hk _ _ hL0
 have hty1:Shared.TypeIs { s with heap:=h1,drawn:=d } (.ref S) "set":=⟨_,hk _ _ hS0.get,hc⟩
 refine wpAny_bind (wpAny_holding (Fl hty1 ?_));rw[if_pos (by decide)];refine wpAny_bind (wpAny_rule (wpAny_bind ?_));have hLI:L≠I:=λe=>by
  have:L+1<=I:=hsz0 ▸ hI;lia
 have hLf:L∉fp:=λz=>by
  rcases hfp _ z with z|z
  ·exact Vw z
  ·rw[hsz0]at z;lia
 show wpAny _ _ (updateSeq L (·.push .none) >>= λ_=>updateSeq L (·.pop)) _ _ _;refine wpAny_bind (wpAny_updateSeq hL1 rfl ?_);have hL2:=Heap.get?_update_self (Obj.mapSeq (·.push Value.none)) hL1 rfl;refine wpAny_updateSeq (hz:=by seq_fits) hL2 rfl ?_;have S9:=Heap.get?_update_self (Obj.mapSeq (·.pop)) hL2 rfl;have oth1:∀b o,b≠L->h1.get? b=some o->((h1.update L (Obj.mapSeq (·.push Value.none))).update L (Obj.mapSeq (·.pop))).get? b=some o:=λb o hb e=>(Heap.get?_update_other _ _ (abg hb)).trans ((Heap.get?_update_other _ _ (abg hb)).trans e);generalize ((h1.update L (Obj.mapSeq (·.push Value.none))).update L (Obj.mapSeq (·.pop)))=h2 at *;refine wpAny_pure ⟨plainId_quiet PySem.F.plain_extend_loop _,codeAny_extend_loopS W.toS hsz L hLf _ es.size 0 _ #[] _ rfl (aaq _) (W.frame 0 _ _ st λb hb o e=>oth1 b o (λz=>hLf (z ▸ hb)) e) S9 (ItemsOf.nil _) λs' acc c' hm hL' hacc=>?_⟩;rw[yJ hm];refine wpAny_bind (wpAny_load hL' (wpAny_pure ?_));refine h acc s'.heap d _ ps hp hacc (Heap.lt_size hL') λb o e=>hm.heap b o (λz=>?_) (oth1 b o ?_ (hk _ _ (oth0 _ _ e)))
 ·have:=Heap.lt_size e;rcases aaA.mp z with z|z
  ·rw[z,hL]at this;exact aaZ _ this
  ·rw[aal.mp z,hL]at this;have hI':L+1<=I:=by rw[<-hsz0];exact hI
   exact absurd (aaf (aa7 L) hI') (Nat.lt_asymm this)
 ·intro z;have:=Heap.lt_size e;rw[z,hL]at this;exact aaZ _ this
end
set_option maxRecDepth 100000
section
variable{prog:Program}{w:World}{A:Around}{E:Value->Shared->Prop}{s:Shared}{S:Addr}
theorem Bw{ks:List Int}{es:Array (Int×Value)}{pq:List (Int×(Int×Value))}(hE:lg (intKind prog w) es.toList ks pq){acc:Array Value}{ps:List (Int×Value)}(hp:abb ps es.toList)(hi:ItemsOf (uc ps) acc es.size):∃ns,IntsAre acc.toList ns/\abb ns ks:=by
 obtain⟨Tc,hE'⟩:=hE.perm hp;have hl:ps.length=es.size:=by rw[hp.length_eq,aaj]
 have hv:acc.toList=ps.map (·.2):=by
  apply ab9;intro i;rw[aag];cases he:acc.toList[i]? with
  | none =>
   have:acc.toList.length<=i:=List.getElem?_eq_none_iff.mp he;rw[aaj,hi.1,<-hl]at this;rw[ab6 this];rfl
  | some v =>
   obtain⟨e,h1,h2⟩:=hi.2 i v (by rw[<-aaN];exact he);rw[h1,h2];rfl
 refine⟨Tc.map (·.1),?_,hE'.fst⟩;rw[hv,<-hE'.snd];have his:=hE'.is
 clear hE' hv hl hi hp
 induction Tc with
 | nil=>exact .nil
 | cons p Tc ih =>
  obtain⟨t,ht⟩:=Value.isInt_shape (his p aay).1;rw[aaz,aaz,aaz,ht];exact .cons _ t (ih λq hq=>his q (aaw _ hq))
end
end Tw
namespace L2
open PySem PySem.Spec PyProof.Rows Tw
section
variable{X:Cx}{π:List (Addr×Obj)}{σ:St}{H:Hp}{s:Shared}
theorem Inv.drawnTo(I:Inv X π σ H s)(d:Drawn):Inv X π σ H { s with drawn:=d }:=
 I.step (g':=s.gens) (t':=s.toks) (d':=d) (ch:=[]) (λ_ z=>nomatch z) (λ_ _ _ _ _ e _=>e) (λb o _ _ _ e _=>⟨o.slots,e⟩) (λ_ _ _ _ n=>n) (λb o _ e=>⟨o,e⟩) (λ_ _ e=>e) (λ_ _ _ e=>e) (λb ps e=>⟨#[],by rw[e];simp⟩) (λ_ h=>h) I.hok I.bare
def FJ(P:Program)(w:World)(a:Addr)(ks:List Int):HO:=.ext λh=>jz (dC w) (intKind P w) h a ks
theorem Gh{P:Program}{w:World}{h:Heap}{a:Addr}{ks:List Int}(e:jz (dC w) (intKind P w) h a ks):bI P w H h a (FJ P w a ks):=by
 refine⟨e,?_,λ_ _ p k=>p.at k⟩;obtain⟨o,_,_,_,_,ho,_⟩:=e;exact⟨o,ho⟩
theorem oh(hc:X.calm=true):gH X (.type "set") (λxs H Q=>∃(p:Addr) (ns:List Int),xs=[.ref p]/\K5 X.K H p (ns.map V.int)/\(met (λi=>ns.getD i 0) ns.length).length+1<scanBound /\
  ∀l ks o,H l=none->ks=met (λi=>ns.getD i 0) ns.length->o=FJ X.prog X.w l ks->Q (.ref l) (upd H l o)):=by
 intro π s σ H xs us Q I r h;obtain⟨p,ns,rfl,hq,hb,q⟩:=h;obtain⟨u,rfl,rx⟩:=vals1 r;cases rx;obtain⟨its,r',pl,hz⟩:=I.list hq;have hi:=intsAre_of r';have hlen:=hi.length;have hsz:its.toArray.size=ns.length:=by simpa using hlen
 refine Bq (knd:=intKind X.prog X.w) (f:=λi=>ns.getD i 0) (I.ok.hd hc) pl.isList (λi v e=>?_) (by rw[hsz];exact hb) λh1 tk hS hk=>?_
 ·have e':its[i]?=some v:=by simpa using e
  have:∀{vs:List Value}{ns:List Int},IntsAre vs ns -> ∀(i:Nat) v,vs[i]?=some v->Value.isInt (ns.getD i 0) v=true/\v.scannable=true:=by
   intro vs ns hI
   induction hI with
   | nil=>intro i v e;simp at e
   | cons n t _ ih =>
    intro i v e;cases i with
    | zero =>
     simp at e;subst e;exact⟨by simp[Value.isInt],rfl⟩
    | succ i=>exact ih i v (by simpa using e)
  exact this hi i v e'
 ·rw[hsz]at hS;exact⟨.ref s.heap.objs.size,_,I.laid (t':=tk) (λb o e=>hk b o (Heap.lt_size e) e) (aad _) (Gh hS),rfl,q _ _ _ (I.hok.fresh (aad _)) rfl rfl⟩
end
end L2
namespace Tw
open PySem PyProof.Rows
set_option autoImplicit false
structure TB(a₀:Array Keyed)(pd:Array (Nat×Nat×Nat))(st:SortSt):Prop where
 perm:(arrOf st).Perm a₀
 kind:kindOf st=oneType'
 failed:failedOf st=none
 pend:pendingOf st=pd
theorem TB.size{a₀:Array Keyed}{pd:Array (Nat×Nat×Nat)}{st:SortSt}(h:TB a₀ pd st):(arrOf st).size=a₀.size:=h.perm.size_eq
theorem TB.set{a₀:Array Keyed}{pd:Array (Nat×Nat×Nat)}{st:SortSt}(h:TB a₀ pd st){xs:Array Keyed}(hp:xs.Perm (arrOf st)):TB a₀ pd (setArr st xs):=⟨hp.trans h.perm,h.kind,h.failed,h.pend⟩
def Mz(κ:KeyKind)(xs:Array Keyed)(lo n:Nat):Prop:=∀i j,i<=j->j<n->κ.kle (KK κ xs (lo+i)) (KK κ xs (lo+j))
def M8(κ:KeyKind)(xs:Array Keyed)(lo n:Nat):Prop:=∀i j,i<=j->j<n->κ.kle (KK κ xs (lo+j)) (KK κ xs (lo+i))
def Mg(lo:Nat)(xs ys:Array Keyed):Prop:=∀k:Nat,k<lo->ys[k]?=xs[k]?
theorem Mg.refl(lo:Nat)(xs:Array Keyed):Mg lo xs xs:=λ_ _=>rfl
theorem Mg.trans{lo:Nat}{xs ys zs:Array Keyed}(h:Mg lo xs ys)(g:Mg lo ys zs):Mg lo xs zs:=λk hk=>(g k hk).trans (h k hk)
theorem gF{lo i j:Nat}{xs:Array Keyed}(hj:j<=xs.size)(hi:lo<=i):Mg lo xs (mirror xs i j ((j - i) / 2)):=λk hk=>by
 rw[getElem?_mirror_all hj,if_neg (by lia)]
theorem Mz.one(κ:KeyKind)(xs:Array Keyed)(lo:Nat):Mz κ xs lo 1:=λi j hij hj=>by
 have:i=j:=by lia
 subst this;exact KeyOrd.kle_refl _
theorem Mz.more{κ:KeyKind}{xs:Array Keyed}{lo x:Nat}(h:Mz κ xs lo x)(h1:1<=x)(hl:κ.blt (KK κ xs (lo+x)) (KK κ xs (lo+x - 1))=false):Mz κ xs lo (x+1):=λi j hij hj=>by
 by_cases hjx:j<x
 ·exact h i j hij hjx
 have hj':j=x:=by lia
 subst hj';by_cases hi':i=j
 ·subst hi';exact KeyOrd.kle_refl _
 refine KeyOrd.kle_trans (h i (j - 1) (by lia) (by lia)) ?_;rw[show lo+(j - 1)=lo+j - 1 by lia];exact hl
theorem M8.more{κ:KeyKind}{xs:Array Keyed}{lo x:Nat}(h:M8 κ xs lo x)(h1:1<=x)(hl:κ.kle (KK κ xs (lo+x)) (KK κ xs (lo+x - 1))):M8 κ xs lo (x+1):=λi j hij hj=>by
 by_cases hjx:j<x
 ·exact h i j hij hjx
 have hj':j=x:=by lia
 subst hj';by_cases hi':i=j
 ·subst hi';exact KeyOrd.kle_refl _
 have q:=h i (j - 1) (by lia) (by lia);rw[show lo+(j - 1)=lo+j - 1 by lia]at q;exact KeyOrd.kle_trans hl q
theorem M8.turn{κ:KeyKind}{xs:Array Keyed}{lo n:Nat}(h:M8 κ xs lo n)(hn:lo+n<=xs.size):Mz κ (mirror xs lo (lo+n) ((lo+n - lo) / 2)) lo n:=λi j hij hj=>by
 rw[KK_mirror hn,KK_mirror hn,if_pos (by lia),if_pos (by lia)];have q:=h (n - 1 - j) (n - 1 - i) (by lia) (by lia);rw[show lo+(lo+n) - 1 - (lo+i)=lo+(n - 1 - i) by lia,show lo+(lo+n) - 1 - (lo+j)=lo+(n - 1 - j) by lia];exact q
theorem M8.keys{κ:KeyKind}{xs ys:Array Keyed}{lo n:Nat}(h:M8 κ xs lo n)(e:∀k,KK κ ys k=KK κ xs k):M8 κ ys lo n:=λi j hij hj=>by
 rw[e,e];exact h i j hij hj
section
variable{prog:Program}{w:World}{A:Around}{E:Value->Shared->Prop}{s:Shared}{a₀:Array Keyed}{κ:KeyKind}{pd:Array (Nat×Nat×Nat)}
theorem TB.atK{st:SortSt}(h:TB a₀ pd st)(h0:KeysOf κ a₀){i:Nat}(hi:i<a₀.size):∃x p a,(arrOf st)[i]?=some (x,p)/\κ.keyOf x=some a/\KK κ (arrOf st) i=a:=by
 have hi':i<(arrOf st).size:=by rw[h.size];exact hi
 have hm:(arrOf st)[i]∈a₀.toList:=(acg.mp h.perm).mem_iff.mp (aaT _);obtain⟨a,ha⟩:=h0 _ hm;have e:(arrOf st)[i]?=some ((arrOf st)[i].1,(arrOf st)[i].2):=getElem?_pos _ i hi';exact⟨_,_,a,e,ha,by unfold KK;rw[e];simp[ha]⟩
theorem mO{st:SortSt}{i j:Nat}{Q:Option Bool->SortSt->Prop}(hO:κ.OneLt)(hB:TB a₀ pd st)(h0:KeysOf κ a₀)(hi:i<a₀.size)(hj:j<a₀.size)
  (h:Q (some (κ.blt (KK κ (arrOf st) i) (KK κ (arrOf st) j))) st):wpS (model prog w) A E s (ltAt' i j) Q st:=by
 obtain⟨x,p,a,e1,ha,ka⟩:=hB.atK h0 hi;obtain⟨y,q,b,e2,hb,kb⟩:=hB.atK h0 hj;rw[ka,kb]at h;exact wpS_ltAtK hO hB.kind e1 e2 ha hb h
theorem wH{st:SortSt}{lo nrem:Nat}{Q:Option Nat->SortSt->Prop}(hO:κ.OneLt)(h0:KeysOf κ a₀)(hB:TB a₀ pd st)(hn:lo+nrem<=a₀.size)(h1:1<=nrem)
  (h:∀m st',TB a₀ pd st'->Mg lo (arrOf st) (arrOf st')->1<=m->m<=nrem->Mz κ (arrOf st') lo m->Q (some m) st'):wpS (model prog w) A E s (countRun' lo nrem) Q st:=by
 have asc:∀(a:Nat) (st1:SortSt),TB a₀ pd st1->1<=a->a<=nrem->Mz κ (arrOf st1) lo a -> ∀(Q1:Option (Option Nat)×Nat->SortSt->Prop),
   (∀n,a<=n->n<=nrem->Mz κ (arrOf st1) lo n->(n=nrem\/κ.klt (KK κ (arrOf st1) (lo+n)) (KK κ (arrOf st1) (lo+n - 1)))->Q1 (none,n) st1) ->
   wpS (model prog w) A E s (forIn [a:nrem] ((none,a):Option (Option Nat)×Nat) λ_ r=>do
    let x <-ltAt' (lo+r.2) (lo+r.2 - 1)
    match x with
    | some b=>if b=true then pure (ForInStep.done (none,r.2))else pure (ForInStep.yield (none,r.2+1))
    | _=>pure (ForInStep.done (some none,r.2))) Q1 st1:=by
  intro a st1 Ly h1a han hs Q1 hq;refine wpS_forRange (I:=λx c st'=>st'=st1/\c=(none,x)/\Mz κ (arrOf st1) lo x) ?_ ?_ ⟨rfl,rfl,hs⟩
  ·rintro x c st' hax hxn ⟨rfl,rfl,hs'⟩;refine wpS_bind (mO hO Ly h0 (by lia) (by lia) ?_);cases hl:κ.blt (KK κ (arrOf st') (lo+x)) (KK κ (arrOf st') (lo+x - 1))
   ·exact wpS_pure ⟨rfl,rfl,hs'.more (by lia) hl⟩
   ·exact wpS_pure (hq x hax (by lia) hs' (.inr hl))
  ·rintro c st' ⟨rfl,rfl,hs'⟩;rw[show max a nrem=nrem by lia]at hs' ⊢;exact hq nrem han (aad _) hs' (.inl rfl)
 have rev:∀{i j:Nat}{st1:SortSt}{Q1:Unit->SortSt->Prop},Q1 () (setArr st1 (mirror (arrOf st1) i j ((j - i) / 2)))->wpS (model prog w) A E s (reverseSlice' i j) Q1 st1:=λhq=>by
  rw[reverseSlice'_eq];exact wpS_modify hq
 have fin:∀(n:Nat) (st1:SortSt) (k:Option (Option Nat)×Nat->StateT SortSt Sem (Option Nat)),(∀m,k (none,m)=pure (some m))->TB a₀ pd st1->Mg lo (arrOf st) (arrOf st1)->1<=n->n<=nrem->M8 κ (arrOf st1) lo n ->
   wpS (model prog w) A E s (reverseSlice' lo (lo+n) >>= λ_=>(forIn [n:nrem] ((none,n):Option (Option Nat)×Nat) λ_ r=>do
     let x <-ltAt' (lo+r.2) (lo+r.2 - 1)
     match x with
     | some b=>if b=true then pure (ForInStep.done (none,r.2))else pure (ForInStep.yield (none,r.2+1))
     | _=>pure (ForInStep.done (some none,r.2))) >>= k) Q st1:=by
  intro n st1 k hk Ly hL hn1 hn2 hd;have hsz:lo+n<=(arrOf st1).size:=by rw[Ly.size];lia
  refine wpS_bind (rev ?_);have hB2:TB a₀ pd (setArr st1 (mirror (arrOf st1) lo (lo+n) ((lo+n - lo) / 2))):=Ly.set (mirror_perm _ _ _ _);refine wpS_bind (asc n _ hB2 hn1 hn2 (hd.turn hsz) _ λm hm1 hm2 hsm _=>?_);rw[hk];exact wpS_pure (h m _ hB2 (hL.trans (gF hsz (aad _))) (by lia) hm2 hsm)
 have desc:∀(n1:Nat) (st1:SortSt),TB a₀ pd st1->Mg lo (arrOf st) (arrOf st1)->1<=n1->n1<=nrem->M8 κ (arrOf st1) lo n1 -> ∀(Q1:Option (Option Nat)×Nat×Nat->SortSt->Prop),
   (∀m q st',TB a₀ pd st'->Mg lo (arrOf st) (arrOf st')->n1<=m->m<=nrem->M8 κ (arrOf st') lo m->q+1<=m->(∀i,lo+m - (q+1)<=i->i<lo+m->KK κ (arrOf st') i=KK κ (arrOf st') (lo+m - 1))->Q1 (none,m,q) st') ->
   wpS (model prog w) A E s (forIn [n1:nrem] ((none,n1,0):Option (Option Nat)×Nat×Nat) λ_ r=>ltAt' (lo+r.2.1) (lo+r.2.1 - 1) >>= λx=>match x with
    | some b=>if b=true then (if r.2.2 > 0 then (reverseSlice' (lo+r.2.1 - (r.2.2+1)) (lo+r.2.1) >>= λ_=>pure (ForInStep.yield (none,r.2.1+1,0)))else pure (ForInStep.yield (none,r.2.1+1,0)))
     else (ltAt' (lo+r.2.1 - 1) (lo+r.2.1) >>= λy=>match y with
      | some b=>if b=true then pure (ForInStep.done (none,r.2.1,r.2.2))else pure (ForInStep.yield (none,r.2.1+1,r.2.2+1))
      | _=>pure (ForInStep.done (some none,r.2.1,r.2.2)))
    | _=>pure (ForInStep.done (some none,r.2.1,r.2.2))) Q1 st1:=by
  intro n1 st1 Ly hL h1n hnn hd Q1 hq;refine wpS_forRange (I:=λx c st'=>∃q,c=(none,x,q)/\TB a₀ pd st'/\Mg lo (arrOf st) (arrOf st')/\M8 κ (arrOf st') lo x/\q+1<=x /\ ∀i,lo+x - (q+1)<=i->i<lo+x->KK κ (arrOf st') i=KK κ (arrOf st') (lo+x - 1)) ?_ ?_ ⟨0,rfl,Ly,hL,hd,by lia,λi a b=>by congr 1;lia⟩
  ·rintro x c st' hax hxn ⟨q,rfl,hB',hL',hd',Rv,he⟩;have hsz:lo+x<=(arrOf st').size:=by rw[hB'.size];lia
   dsimp only;refine wpS_bind (mO hO hB' h0 (by lia) (by lia) ?_);cases hl:κ.blt (KK κ (arrOf st') (lo+x)) (KK κ (arrOf st') (lo+x - 1))
   ·refine wpS_bind (mO hO hB' h0 (by lia) (by lia) ?_);cases hg:κ.blt (KK κ (arrOf st') (lo+x - 1)) (KK κ (arrOf st') (lo+x))
    ·have eq:KK κ (arrOf st') (lo+x)=KK κ (arrOf st') (lo+x - 1):=κ.total _ _ hl hg;refine wpS_pure ⟨q+1,rfl,hB',hL',hd'.more (by lia) (by rw[eq];exact KeyOrd.kle_refl _),by lia,λi a b=>?_⟩;rw[show lo+(x+1) - 1=lo+x by lia,eq];by_cases hi:i=lo+x
     ·rw[hi,eq]
     ·exact he i (by lia) (by lia)
    ·exact wpS_pure (hq x q st' hB' hL' hax (by lia) hd' Rv he)
   ·have stp:∀ys:Array Keyed,(∀k,KK κ ys k=KK κ (arrOf st') k)->M8 κ ys lo (x+1):=λys hk=>(hd'.more (by lia) (KeyOrd.kle_of_klt hl)).keys hk;show wpS _ _ _ _ (if q > 0 then _ else _) _ _;by_cases hq0:q > 0
    ·rw[if_pos hq0];refine wpS_bind (rev (wpS_pure ⟨0,rfl,hB'.set (mirror_perm _ _ _ _),hL'.trans (gF hsz (by lia)),stp _ λk=>KK_mirror_equal hsz he k,by lia,λi a b=>by congr 1;lia⟩))
    ·rw[if_neg hq0];exact wpS_pure ⟨0,rfl,hB',hL',stp _ λk=>rfl,by lia,λi a b=>by congr 1;lia⟩
  ·rintro c st' ⟨q,rfl,hB',hL',hd',Rv,he⟩;rw[show max n1 nrem=nrem by lia]at hd' Rv he ⊢;exact hq nrem q st' hB' hL' hnn (aad _) hd' Rv he
 rw[countRun'_eq];refine wpS_bind (asc 1 st hB (aad _) h1 (Mz.one κ _ lo) _ λn hn1 hn2 hs hor=>?_);dsimp only;by_cases hnn:n=nrem
 ·rw[if_pos (by simpa using hnn)];exact wpS_pure (h n st hB (Mg.refl _ _) hn1 hn2 hs)
 rw[if_neg (by simpa using hnn)];have hlt:=hor.resolve_left hnn;by_cases hgt:n > 1
 ·rw[if_pos hgt];refine wpS_bind (mO hO hB h0 (by lia) (by lia) ?_);have hsz:lo+n<=(arrOf st).size:=by rw[hB.size];lia
  cases hro:κ.blt (KK κ (arrOf st) lo) (KK κ (arrOf st) (lo+n - 1))
  ·have hall:∀k,lo<=k->k<lo+n->KK κ (arrOf st) k=KK κ (arrOf st) (lo+n - 1):=λk hk1 hk2=>by
    have a1:=hs 0 (k - lo) (by lia) (by lia);have a2:=hs (k - lo) (n - 1) (by lia) (by lia);rw[show lo+(k - lo)=k by lia]at a1 a2;rw[show lo+(n - 1)=lo+n - 1 by lia]at a2;exact KeyOrd.kle_antisymm a2 (KeyOrd.kle_trans hro a1)
   refine wpS_bind (rev (wpS_bind (wpS_lift (wpAny_rule ⟨rfl,?_⟩))));have hB2:TB a₀ pd (setArr st (mirror (arrOf st) lo (lo+n) ((lo+n - lo) / 2))):=hB.set (mirror_perm _ _ _ _);refine wpS_bind (desc (n+1) _ hB2 (gF hsz (aad _)) (by lia) (by lia) ?_ _ λm q st' hB' hL' hm1 hm2 hd' hqm he=>?_)
   ·refine M8.keys (xs:=arrOf st) (λi j hij hj=>?_) λk=>KK_mirror_equal hsz hall k;by_cases hjn:j<n
    ·rw[hall (lo+i) (by lia) (by lia),hall (lo+j) (by lia) (by lia)];exact KeyOrd.kle_refl _
    have:j=n:=by lia
    subst this;by_cases hi':i=j
    ·subst hi';exact KeyOrd.kle_refl _
    rw[hall (lo+i) (by lia) (by lia)];exact KeyOrd.kle_of_klt hlt
   ·have hsz':lo+m<=(arrOf st').size:=by rw[hB'.size];lia
    dsimp only;by_cases hq0:q > 0
    ·rw[if_pos hq0];exact wpS_bind (rev (fin m _ _ (λ_=>rfl) (hB'.set (mirror_perm _ _ _ _)) (hL'.trans (gF hsz' (by lia))) (by lia) hm2 (hd'.keys λk=>KK_mirror_equal hsz' he k)))
    ·rw[if_neg hq0];exact fin m _ _ (λ_=>rfl) hB' hL' (by lia) hm2 hd'
  ·exact wpS_pure (h n st hB (Mg.refl _ _) hn1 hn2 hs)
 ·rw[if_neg hgt];have:n=1:=by lia
  subst this;refine wpS_bind (wpS_lift (wpAny_rule ⟨rfl,?_⟩));refine wpS_bind (desc (1+1) _ hB (Mg.refl _ _) (by lia) (by lia) ?_ _ λm q st' hB' hL' hm1 hm2 hd' hqm he=>?_)
  ·intro i j hij hj;by_cases hi':i=j
   ·subst hi';exact KeyOrd.kle_refl _
   have hi0:i=0:=by lia
   have hj1:j=1:=by lia
   subst hi0;subst hj1;exact KeyOrd.kle_of_klt hlt
  ·have hsz':lo+m<=(arrOf st').size:=by rw[hB'.size];lia
   dsimp only;by_cases hq0:q > 0
   ·rw[if_pos hq0];exact wpS_bind (rev (fin m _ _ (λ_=>rfl) (hB'.set (mirror_perm _ _ _ _)) (hL'.trans (gF hsz' (by lia))) (by lia) hm2 (hd'.keys λk=>KK_mirror_equal hsz' he k)))
   ·rw[if_neg hq0];exact fin m _ _ (λ_=>rfl) hB' hL' (by lia) hm2 hd'
theorem rW{st:SortSt}{lo n ok:Nat}{Q:Bool->SortSt->Prop}(hO:κ.OneLt)(h0:KeysOf κ a₀)(hB:TB a₀ pd st)(hn:lo+n<=a₀.size)(hok:ok<=n)(hs:Mz κ (arrOf st) lo ok)
  (h:∀st',TB a₀ pd st'->Mg lo (arrOf st) (arrOf st')->Mz κ (arrOf st') lo n->Q true st'):wpS (model prog w) A E s (binarySort' lo n ok) Q st:=by
 rw[binarySort'_eq];refine wpS_bind (wpS_mono (wpS_forRange (I:=λk c st'=>c=(none,())/\TB a₀ pd st'/\Mg lo (arrOf st) (arrOf st')/\Mz κ (arrOf st') lo (min k n)) (Q:=λc st'=>c=(none,())/\TB a₀ pd st'/\Mg lo (arrOf st) (arrOf st')/\Mz κ (arrOf st') lo n) ?_ ?_ ?_) ?_)
 ·rintro k c st' hak hkn ⟨rfl,hB',hL',hs'⟩;rw[show min k n=k by lia]at hs';have hk:lo+k<a₀.size:=by lia
  refine wpS_bind (wpS_mono (wpS_forRange (I:=λx c st''=>st''=st' /\ ∃l r,c=(none,l,r)/\l<=r/\r<=k/\r - l<=k - x/\(∀i,i<l->κ.kle (KK κ (arrOf st') (lo+i)) (KK κ (arrOf st') (lo+k))) /\ ∀i,r<=i->i<k->κ.klt (KK κ (arrOf st') (lo+k)) (KK κ (arrOf st') (lo+i)))
   (Q:=λc st''=>st''=st' /\ ∃l r,c=(none,l,r)/\l<=k/\(∀i,i<l->κ.kle (KK κ (arrOf st') (lo+i)) (KK κ (arrOf st') (lo+k))) /\ ∀i,l<=i->i<k->κ.klt (KK κ (arrOf st') (lo+k)) (KK κ (arrOf st') (lo+i))) ?_ ?_ ?_) ?_)
  ·rintro x c st'' _ hxk ⟨rfl,l,r,rfl,hlr,hrk,hm,hlo,hhi⟩;dsimp only;by_cases hge:l >= r
   ·rw[if_pos hge];have:l=r:=by lia
    subst this;exact wpS_pure ⟨rfl,l,l,rfl,hrk,hlo,hhi⟩
   rw[if_neg hge];refine wpS_bind (mO hO hB' h0 hk (by lia) ?_);cases hl:κ.blt (KK κ (arrOf st'') (lo+k)) (KK κ (arrOf st'') (lo+(l+r) / 2))
   ·refine wpS_pure ⟨rfl,_,_,rfl,by lia,hrk,by lia,λi hi=>?_,hhi⟩;exact KeyOrd.kle_trans (hs' i ((l+r) / 2) (by lia) (by lia)) hl
   ·refine wpS_pure ⟨rfl,_,_,rfl,by lia,by lia,by lia,hlo,λi hi1 hi2=>?_⟩;exact KeyOrd.klt_of_klt_of_kle hl (hs' ((l+r) / 2) i hi1 hi2)
  ·rintro c st'' ⟨rfl,l,r,rfl,hlr,hrk,hm,hlo,hhi⟩;have:l=r:=by lia
   subst this;exact⟨rfl,l,l,rfl,hrk,hlo,hhi⟩
  ·exact⟨rfl,0,k,rfl,by lia,by lia,by lia,λi hi=>by lia,λi h1 h2=>by lia⟩
  ·rintro c st'' ⟨rfl,l,r,rfl,hlk,hlo,hhi⟩;dsimp only;rw[moveDown'_eq];refine wpS_bind (wpS_modify (wpS_pure ⟨rfl,hB'.set (bubble_perm _ _ _),hL'.trans λi hi=>?_,λi j hij hj=>?_⟩))
   ·rw[getElem?_bubble (by rw[hB'.size];exact hk) _ (by lia),if_neg (by lia),if_neg (by lia)]
   have hb:∀t,t<=k->KK κ (bubble (arrOf st'') (lo+k) (lo+k - (lo+l))) (lo+t)=if t=l then KK κ (arrOf st'') (lo+k)else if l<t then KK κ (arrOf st'') (lo+(t - 1))else KK κ (arrOf st'') (lo+t):=λt ht=>by
    rw[KK_bubble (by rw[hB'.size];exact hk) (by lia)];by_cases t1:t=l
    ·rw[if_pos (by lia),if_pos t1]
    rw[if_neg (by lia),if_neg t1];by_cases t2:l<t
    ·rw[if_pos (by lia),if_pos t2,show lo+t - 1=lo+(t - 1) by lia]
    ·rw[if_neg (by lia),if_neg t2]
   rw[show min (k+1) n=k+1 by lia]at hj;show κ.kle (KK κ (bubble (arrOf st'') (lo+k) (lo+k - (lo+l))) (lo+i)) (KK κ (bubble (arrOf st'') (lo+k) (lo+k - (lo+l))) (lo+j));rw[hb i (by lia),hb j (by lia)];by_cases i1:i=l
   ·rw[if_pos i1];by_cases j1:j=l
    ·rw[if_pos j1];exact KeyOrd.kle_refl _
    rw[if_neg j1,if_pos (by lia)];exact KeyOrd.kle_of_klt (hhi (j - 1) (by lia) (by lia))
   rw[if_neg i1];by_cases i2:l<i
   ·rw[if_pos i2,if_neg (show ¬j=l by lia),if_pos (show l<j by lia)];exact hs' (i - 1) (j - 1) (by lia) (by lia)
   rw[if_neg i2];by_cases j1:j=l
   ·rw[if_pos j1];exact hlo i (by lia)
   rw[if_neg j1];by_cases j2:l<j
   ·rw[if_pos j2];exact hs' i (j - 1) (by lia) (by lia)
   rw[if_neg j2];exact hs' i j hij (by lia)
 ·rintro c st' ⟨rfl,hB',hL',hs'⟩;rw[show min (max (max ok 1) n) n=n by lia]at hs';exact⟨rfl,hB',hL',hs'⟩
 ·refine⟨rfl,hB,Mg.refl _ _,λi j hij hj=>?_⟩;by_cases h1:ok=0
  ·have:i=j:=by lia
   subst this;exact KeyOrd.kle_refl _
  ·exact hs i j hij (by lia)
 ·rintro c st' ⟨rfl,hB',hL',hs'⟩;exact wpS_pure (h st' hB' hL' hs')
end
set_option autoImplicit false
def fJ:Bool->Keyed->Array Keyed->Nat->Nat->Nat->StateT SortSt Sem (Option Nat):=sortPriv% PySem.Builtin.gallop
def Ib(Ov:Nat->StateT SortSt Sem (Option Bool))(n hint:Nat):StateT SortSt Sem (Option Nat):=do
 let mut la:=0
 let mut u:=1
 let mut l:=0
 let mut h:=0
 let some r <-Ov hint|return none
 if r then
  let mx:=n - hint
  for _ in [0:n] do
   if u >= mx then break
   let some mo <-Ov (hint+u) | return none
   if !mo then break
   la:=u
   u:=2*u+1
  l:=hint+la+1
  h:=hint+min u mx
 else
  let mx:=hint+1
  for _ in [0:n] do
   if u >= mx then break
   let some fo <-Ov (hint - u) | return none
   if fo then break
   la:=u
   u:=2*u+1
  l:=hint+1 - min u mx
  h:=hint - la
 for _ in [0:n] do
  if l >= h then break
  let m:=l+(h - l) / 2
  let some mo <-Ov m|return none
  if mo then l:=m+1 else h:=m
 return some h
def zM(left:Bool)(key:Keyed)(arr:Array Keyed)(base i:Nat):StateT SortSt Sem (Option Bool):=do
 let x <-elem' arr (base+i)
 if left then lt' x key else return (<-lt' key x).map (!·)
theorem yN(left:Bool)(key:Keyed)(arr:Array Keyed)(base n hint:Nat):fJ left key arr base n hint=Ib (zM left key arr base) n hint:=rfl
section
variable{prog:Program}{w:World}{A:Around}{E:Value->Shared->Prop}{s:Shared}{κ:KeyKind}
theorem Fz{Ov:Nat->StateT SortSt Sem (Option Bool)}{n hint:Nat}{st:SortSt}{Q:Option Nat->SortSt->Prop}(pr:Nat->Bool)(hh:hint<n)
  (hb:∀i,i<n -> ∀(Q1:Option Bool->SortSt->Prop),Q1 (some (pr i)) st->wpS (model prog w) A E s (Ov i) Q1 st)(mono:∀i j,i<=j->j<n->pr j=true->pr i=true)
  (h:∀r,r<=n->(∀i,i<r->pr i=true)->(∀i,r<=i->i<n->pr i=false)->Q (some r) st):wpS (model prog w) A E s (Ib Ov n hint) Q st:=by
 have bin:∀(l u:Nat),l<=u->u<=n->(∀i,i<l->pr i=true)->(∀i,u<=i->i<n->pr i=false) -> ∀(Q1:Option (Option Nat)×Nat×Nat->SortSt->Prop),
   (∀r,r<=n->(∀i,i<r->pr i=true)->(∀i,r<=i->i<n->pr i=false)->Q1 (none,r,r) st) ->
   wpS (model prog w) A E s (forIn [0:n] ((none,l,u):Option (Option Nat)×Nat×Nat) λ_ r=>if r.2.1 >= r.2.2 then pure (ForInStep.done (none,r.2.1,r.2.2))else Ov (r.2.1+(r.2.2 - r.2.1) / 2) >>= λx=>match x with
    | some b=>if b=true then pure (ForInStep.yield (none,r.2.1+(r.2.2 - r.2.1) / 2+1,r.2.2))else pure (ForInStep.yield (none,r.2.1,r.2.1+(r.2.2 - r.2.1) / 2))
    | _=>pure (ForInStep.done (some none,r.2.1,r.2.2))) Q1 st:=by
  intro l u Td hun hlo hhi Q1 hq;refine wpS_forRange (I:=λx c st'=>st'=st /\ ∃l u,c=(none,l,u)/\l<=u/\u<=n/\(u - l)+x<=n/\(∀i,i<l->pr i=true) /\ ∀i,u<=i->i<n->pr i=false) ?_ ?_ ⟨rfl,l,u,rfl,Td,hun,by lia,hlo,hhi⟩
  ·rintro x c st' _ hx ⟨rfl,l,u,rfl,Td,hun,hm,hlo,hhi⟩;dsimp only;by_cases hge:l >= u
   ·rw[if_pos hge];have:l=u:=by lia
    subst this;exact wpS_pure (hq l hun hlo hhi)
   rw[if_neg hge];refine wpS_bind (hb _ (by lia) _ ?_);cases hp:pr (l+(u - l) / 2)
   ·refine wpS_pure ⟨rfl,l,_,rfl,by lia,by lia,by lia,hlo,λi hi1 hi2=>?_⟩;cases hi:pr i
    ·rfl
    ·rw[mono _ i hi1 hi2 hi]at hp;exact absurd hp (by decide)
   ·exact wpS_pure ⟨rfl,_,u,rfl,by lia,hun,by lia,λi hi=>mono i _ (by lia) (by lia) hp,hhi⟩
  ·rintro c st' ⟨rfl,l,u,rfl,Td,hun,hm,hlo,hhi⟩;have:l=u:=by lia
   subst this;exact hq l hun hlo hhi
 unfold Ib;refine wpS_bind (hb hint hh _ ?_);have neg:∀i j,i<=j->j<n->pr i=false->pr j=false:=λi j hij hj hi=>by
  cases hp:pr j
  ·rfl
  ·rw[mono i j hij hj hp]at hi;exact absurd hi (by decide)
 cases hp:pr hint
 ·dsimp only;rw[if_neg (by decide)];refine wpS_bind (wpS_mono (wpS_forRange (I:=λx c st'=>st'=st /\ ∃la u,c=(none,la,u)/\la<u/\x+1<=u/\la<=hint/\pr (hint - la)=false) (Q:=λc st'=>st'=st /\ ∃la u,c=(none,la,u)/\la<u/\la<=hint/\pr (hint - la)=false/\(u >= hint+1\/pr (hint - u)=true)) ?_ ?_ ⟨rfl,0,1,rfl,by lia,by lia,by lia,hp⟩) ?_)
  ·rintro x c st' _ hx ⟨rfl,la,u,rfl,h1,h2,h3,h4⟩;dsimp only;by_cases hge:u >= hint+1
   ·rw[if_pos hge];exact wpS_pure ⟨rfl,la,u,rfl,h1,h3,h4,.inl hge⟩
   rw[if_neg hge];refine wpS_bind (hb _ (by lia) _ ?_);cases hq:pr (hint - u)
   ·exact wpS_pure ⟨rfl,u,_,rfl,by lia,by lia,by lia,hq⟩
   ·exact wpS_pure ⟨rfl,la,u,rfl,h1,h3,h4,.inr hq⟩
  ·rintro c st' ⟨rfl,la,u,rfl,h1,h2,h3,h4⟩;exact⟨rfl,la,u,rfl,h1,h3,h4,.inl (by lia)⟩
  ·rintro c st' ⟨rfl,la,u,rfl,h1,h3,h4,h5⟩;dsimp only;refine wpS_bind (bin _ _ (by lia) (by lia) (λi hi=>?_) (λi hi1 hi2=>neg _ i hi1 hi2 h4) _ λr hr1 hr2 NQ=>wpS_pure (h r hr1 hr2 NQ));rcases h5 with h5|h5
   ·lia
   ·exact mono i _ (by lia) (by lia) h5
 ·dsimp only;rw[if_pos rfl];refine wpS_bind (wpS_mono (wpS_forRange (I:=λx c st'=>st'=st /\ ∃la u,c=(none,la,u)/\la<u/\x+1<=u/\hint+la<n/\pr (hint+la)=true) (Q:=λc st'=>st'=st /\ ∃la u,c=(none,la,u)/\la<u/\hint+la<n/\pr (hint+la)=true/\(u >= n - hint\/pr (hint+u)=false)) ?_ ?_ ⟨rfl,0,1,rfl,by lia,by lia,by lia,hp⟩) ?_)
  ·rintro x c st' _ hx ⟨rfl,la,u,rfl,h1,h2,h3,h4⟩;dsimp only;by_cases hge:u >= n - hint
   ·rw[if_pos hge];exact wpS_pure ⟨rfl,la,u,rfl,h1,h3,h4,.inl hge⟩
   rw[if_neg hge];refine wpS_bind (hb _ (by lia) _ ?_);cases hq:pr (hint+u)
   ·exact wpS_pure ⟨rfl,la,u,rfl,h1,h3,h4,.inr hq⟩
   ·exact wpS_pure ⟨rfl,u,_,rfl,by lia,by lia,by lia,hq⟩
  ·rintro c st' ⟨rfl,la,u,rfl,h1,h2,h3,h4⟩;exact⟨rfl,la,u,rfl,h1,h3,h4,.inl (by lia)⟩
  ·rintro c st' ⟨rfl,la,u,rfl,h1,h3,h4,h5⟩;dsimp only;refine wpS_bind (bin _ _ (by lia) (by lia) (λi hi=>mono i _ (by lia) (by lia) h4) (λi hi1 hi2=>?_) _ λr hr1 hr2 NQ=>wpS_pure (h r hr1 hr2 NQ));rcases h5 with h5|h5
   ·lia
   ·rcases aaM u (n - hint)with c|c
    ·exact neg _ i (by lia) hi2 h5
    ·lia
def ky(κ:KeyKind)(x:Keyed):κ.α:=(κ.keyOf x.1).getD κ.dflt
theorem zK{st:SortSt}{x y:Keyed}{Q:Option Bool->SortSt->Prop}(hO:κ.OneLt)(hk:kindOf st=oneType')(hx:∃a,κ.keyOf x.1=some a)(hy:∃a,κ.keyOf y.1=some a)
  (h:Q (some (κ.blt (ky κ x) (ky κ y))) st):wpS (model prog w) A E s (lt' x y) Q st:=by
 obtain⟨a,ha⟩:=hx;obtain⟨b,hb⟩:=hy;have e1:ky κ x=a:=by unfold ky;rw[ha];rfl
 have e2:ky κ y=b:=by unfold ky;rw[hb];rfl
 rw[e1,e2]at h;rw[lt'_eq];refine wpS_bind (wpS_get ?_);rw[hk,keyLt'_oneType];exact wpS_bind (wpS_lift (wpAny_attempt (hO prog w A _ s _ _ a b ha hb ⟨rfl,wpS_pure h⟩)))
theorem aY{st:SortSt}{xs:Array Keyed}{i:Nat}{Q:Keyed->SortSt->Prop}(hi:i<xs.size)(h:Q xs[i] st):wpS (model prog w) A E s (elem' xs i) Q st:=by
 rw[elem'_eq,getElem?_pos xs i hi];exact wpS_pure h
def Sd(κ:KeyKind)(xs:Array Keyed)(lo hi:Nat):Prop:=∀i j,lo<=i->i<=j->j<hi->κ.kle (KK κ xs i) (KK κ xs j)
theorem bK{xs:Array Keyed}{i:Nat}(hi:i<xs.size):KK κ xs i=ky κ xs[i]:=by
 unfold KK ky;rw[getElem?_pos xs i hi]
theorem tQ{st:SortSt}{left:Bool}{key:Keyed}{xs:Array Keyed}{base n hint:Nat}{Q:Option Nat->SortSt->Prop}(hO:κ.OneLt)(hk:kindOf st=oneType')(hK:KeysOf κ xs)(hy:∃a,κ.keyOf key.1=some a)(hs:Sd κ xs base (base+n))(hn:base+n<=xs.size)(hh:hint<n)
  (h:∀r,r<=n->(∀i,i<r->(if left then κ.blt (KK κ xs (base+i)) (ky κ key)else !κ.blt (ky κ key) (KK κ xs (base+i)))=true)->(∀i,r<=i->i<n->(if left then κ.blt (KK κ xs (base+i)) (ky κ key)else !κ.blt (ky κ key) (KK κ xs (base+i)))=false)->Q (some r) st):
  wpS (model prog w) A E s (fJ left key xs base n hint) Q st:=by
 rw[yN];have hkey:∀i (hi:i<xs.size),∃a,κ.keyOf xs[i].1=some a:=λi hi=>hK _ (aaT _);refine Fz (λi=>if left then κ.blt (KK κ xs (base+i)) (ky κ key)else !κ.blt (ky κ key) (KK κ xs (base+i))) hh (λi hi Q1 hq=>?_) (λi j hij hj hp=>?_) h
 ·rw[bK (by lia)]at hq;unfold zM;refine wpS_bind (aY (by lia) ?_);cases left
  ·rw[if_neg (by decide)];exact wpS_bind (zK hO hk hy (hkey _ (by lia)) (wpS_pure hq))
  ·rw[if_pos rfl];exact zK hO hk (hkey _ (by lia)) hy hq
 ·have hle:=hs (base+i) (base+j) (by lia) (by lia) (by lia);cases left
  ·have hp:(!κ.blt (ky κ key) (KK κ xs (base+j)))=true:=hp;show (!κ.blt (ky κ key) (KK κ xs (base+i)))=true;rw[acQ]at hp ⊢;exact KeyOrd.kle_trans hle hp
  ·exact KeyOrd.klt_of_kle_of_klt hle hp
theorem iT{st:SortSt}{key:Keyed}{xs:Array Keyed}{base n hint:Nat}{Q:Option Nat->SortSt->Prop}(hO:κ.OneLt)(hk:kindOf st=oneType')(hK:KeysOf κ xs)(hy:∃a,κ.keyOf key.1=some a)(hs:Sd κ xs base (base+n))(hn:base+n<=xs.size)(hh:hint<n)
  (h:∀r,r<=n->(∀i,i<r->κ.kle (KK κ xs (base+i)) (ky κ key))->(∀i,r<=i->i<n->κ.klt (ky κ key) (KK κ xs (base+i)))->Q (some r) st):wpS (model prog w) A E s (fJ false key xs base n hint) Q st:=by
 refine tQ hO hk hK hy hs hn hh λr hr h1 h2=>h r hr (λi hi=>?_) λi a b=>?_
 ·have q:(!κ.blt (ky κ key) (KK κ xs (base+i)))=true:=h1 i hi;rw[acQ]at q;exact q
 ·have q:(!κ.blt (ky κ key) (KK κ xs (base+i)))=false:=h2 i a b;rw[Bool.not_eq_false']at q;exact q
theorem fU{st:SortSt}{key:Keyed}{xs:Array Keyed}{base n hint:Nat}{Q:Option Nat->SortSt->Prop}(hO:κ.OneLt)(hk:kindOf st=oneType')(hK:KeysOf κ xs)(hy:∃a,κ.keyOf key.1=some a)(hs:Sd κ xs base (base+n))(hn:base+n<=xs.size)(hh:hint<n)
  (h:∀r,r<=n->(∀i,i<r->κ.klt (KK κ xs (base+i)) (ky κ key))->(∀i,r<=i->i<n->κ.kle (ky κ key) (KK κ xs (base+i)))->Q (some r) st):wpS (model prog w) A E s (fJ true key xs base n hint) Q st:=
 tQ hO hk hK hy hs hn hh λr hr h1 h2=>h r hr (λi hi=>h1 i hi) λi a b=>h2 i a b
end
set_option autoImplicit false
structure MI(le:Keyed->Keyed->Prop)(L O X Y:List Keyed):Prop where
 perm:abb (O++X++Y) L
 so:O.Pairwise le
 sx:X.Pairwise le
 sy:Y.Pairwise le
 ox:∀o∈O,∀x∈X,le o x
 oy:∀o∈O,∀y∈Y,le o y
theorem MI.left{le:Keyed->Keyed->Prop}{L O X X' Y:List Keyed}(h:MI le L O (X++X') Y)(hy:∀x∈X,∀y∈Y,le x y):MI le L (O++X) X' Y:=by
 have s:=aa1.mp h.sx;refine⟨by rw[aaG O X X'];exact h.perm,aa1.mpr ⟨h.so,s.1,λo ho x hx=>h.ox o ho x (aa0 _ hx)⟩,s.2.1,h.sy,λo ho x hx=>?_,λo ho y hy'=>?_⟩
 ·rcases aaK.mp ho with ho|ho
  ·exact h.ox o ho x (aas _ hx)
  ·exact s.2.2 o ho x hx
 ·rcases aaK.mp ho with ho|ho
  ·exact h.oy o ho y hy'
  ·exact hy o ho y hy'
theorem MI.right{le:Keyed->Keyed->Prop}{L O X Y Y':List Keyed}(h:MI le L O X (Y++Y'))(hx:∀y∈Y,∀x∈X,le y x):MI le L (O++Y) X Y':=by
 have s:=aa1.mp h.sy;refine⟨ad6 ?_ h.perm,aa1.mpr ⟨h.so,s.1,λo ho y hy=>h.oy o ho y (aa0 _ hy)⟩,h.sx,s.2.1,λo ho x hx'=>?_,λo ho y hy=>?_⟩
 ·rw[aaG O Y X,aaG,aaG O X,<-aaG X,aaG Y];refine ac9 O ?_;rw[<-aaG];exact(ada).append_right Y'
 ·rcases aaK.mp ho with ho|ho
  ·exact h.ox o ho x hx'
  ·exact hx o ho x hx'
 ·rcases aaK.mp ho with ho|ho
  ·exact h.oy o ho y (aas _ hy)
  ·exact s.2.2 o ho y hy
def Fin(le:Keyed->Keyed->Prop)(L r:List Keyed):Prop:=abb r L/\r.Pairwise le
theorem MI.xy{le:Keyed->Keyed->Prop}{L O X Y:List Keyed}(h:MI le L O X Y)(hxy:∀x∈X,∀y∈Y,le x y):Fin le L (O++X++Y):=by
 refine⟨h.perm,aa1.mpr ⟨aa1.mpr ⟨h.so,h.sx,h.ox⟩,h.sy,λa ha y hy=>?_⟩⟩;rcases aaK.mp ha with ha|ha
 ·exact h.oy a ha y hy
 ·exact hxy a ha y hy
theorem MI.yx{le:Keyed->Keyed->Prop}{L O X Y:List Keyed}(h:MI le L O X Y)(hyx:∀y∈Y,∀x∈X,le y x):Fin le L (O++Y++X):=by
 refine⟨ad6 ?_ h.perm,aa1.mpr ⟨aa1.mpr ⟨h.so,h.sy,h.oy⟩,h.sx,λa ha x hx=>?_⟩⟩
 ·rw[aaG,aaG];exact ac9 O ada
 ·rcases aaK.mp ha with ha|ha
  ·exact h.ox a ha x hx
  ·exact hyx a ha x hx
def qP:Array Keyed->Array Keyed->StateT SortSt Sem (Array Keyed):=sortPriv% PySem.Builtin.mergeLo
def setG:Nat->StateT SortSt Sem Unit:=sortPriv% PySem.Builtin.setMinGallop
theorem GX(g:Nat):setG g=modify λst=>SortSt.mk' (kindOf st) (arrOf st) (pendingOf st) g (failedOf st):=rfl
def Vx(a b:Array Keyed):StateT SortSt Sem (Array Keyed):=do
 rule "list.sort.merge-lo"
 let t:=a.size+b.size
 let fa (o:Array Keyed) (i j:Nat):=o++a.extract i a.size++b.extract j b.size
 let fb (o:Array Keyed) (i j:Nat):=o++b.extract j b.size++a.extract i a.size
 let mut o:Array Keyed:=#[<-elem' b 0]
 let mut i:=0
 let mut j:=1
 if j == b.size then return fa o i j
 if i+1 == a.size then return fb o i j
 let mut g:=gallopOf (<-get)
 for _ in [0:t] do
  let mut p:=0
  let mut q:=0
  for _ in [0:t] do
   let some v <-lt' (<-elem' b j) (<-elem' a i) | return fa o i j
   if v then
    o:=o.push (<-elem' b j);j:=j+1;q:=q+1;p:=0
    if j == b.size then return fa o i j
    if q >= g then break
   else
    o:=o.push (<-elem' a i);i:=i+1;p:=p+1;q:=0
    if i+1 == a.size then return fb o i j
    if p >= g then break
  rule "list.sort.gallop"
  g:=g+1
  for _ in [0:t] do
   if g > 1 then g:=g - 1
   setG g
   let some k <-fJ false (<-elem' b j) a i (a.size - i) 0|return fa o i j
   p:=k
   if k > 0 then
    o:=o++a.extract i (i+k);i:=i+k
    if i+1 == a.size then return fb o i j
    if i == a.size then return fa o i j
   o:=o.push (<-elem' b j);j:=j+1
   if j == b.size then return fa o i j
   let some k <-fJ true (<-elem' a i) b j (b.size - j) 0|return fa o i j
   q:=k
   if k > 0 then
    o:=o++b.extract j (j+k);j:=j+k
    if j == b.size then return fa o i j
   o:=o.push (<-elem' a i);i:=i+1
   if i+1 == a.size then return fb o i j
   if p<7 && q<7 then break
  g:=g+1
  setG g
 (unsupported "internal:list.sort.merge-bound" : StateT SortSt Sem (Array Keyed))
theorem wG(a b:Array Keyed):qP a b=Vx a b:=rfl
section
variable{prog:Program}{w:World}{A:Around}{E:Value->Shared->Prop}{s:Shared}{κ:KeyKind}
theorem aU{α:Type}{c:Prop}[Decidable c]{x y:StateT SortSt Sem α}{Q:α->SortSt->Prop}{st:SortSt}(h1:c->wpS (model prog w) A E s x Q st)(h2:¬c->wpS (model prog w) A E s y Q st):wpS (model prog w) A E s (if c then x else y) Q st:=by
 by_cases h:c
 ·rw[if_pos h];exact h1 h
 ·rw[if_neg h];exact h2 h
def kl(κ:KeyKind)(x y:Keyed):Prop:=κ.kle (ky κ x) (ky κ y)
theorem dF{x y z:Keyed}(h:kl κ x y)(g:kl κ y z):kl κ x z:=KeyOrd.kle_trans h g
theorem rE{xs:Array Keyed}(h:xs.toList.Pairwise (kl κ)){lo hi:Nat}(hh:hi<=xs.size):Sd κ xs lo hi:=λi j _ hij hj=>by
 rw[bK (show i<xs.size by lia),bK (show j<xs.size by lia)];by_cases e:i=j
 ·subst e;exact KeyOrd.kle_refl _
 have q:=aaB.mp h i j (by rw[aaj];lia) (by rw[aaj];lia) (by lia);rw[aaX,aaX]at q;exact q
theorem tV{xs:Array Keyed}{i:Nat}(hi:i<xs.size):xs.toList.drop i=[xs[i]]++xs.toList.drop (i+1):=by
 rw[abK (by rw[aaj];exact hi),aaX];rfl
theorem eE{xs:Array Keyed}{i:Nat}{x:Keyed}(h:x∈xs.toList.drop i):∃k,∃hk:i+k<xs.size,x=xs[i+k]:=by
 obtain⟨k,hk,e⟩:=abG h;rw[abe,aaj]at hk;refine⟨k,by lia,?_⟩;rw[<-e,aca,aaX]
theorem iJ{xs:Array Keyed}{i k:Nat}{x:Keyed}(h:x∈(xs.toList.drop i).take k):∃d,d<k /\ ∃hd:i+d<xs.size,x=xs[i+d]:=by
 obtain⟨d,hd,e⟩:=abG h;rw[aaC,abe,aaj]at hd;refine⟨d,by lia,by lia,?_⟩;rw[<-e,acb,aca,aaX]
theorem lH(xs:Array Keyed)(i k:Nat):(xs.extract i (i+k)).toList=(xs.toList.drop i).take k:=by
 rw[abL,abu,abl]
theorem kj(xs:Array Keyed)(i:Nat):(xs.extract i xs.size).toList=xs.toList.drop i:=by
 rw[abL,abu,aav (by rw[abe,aaj];lia)]
section
variable{le:Keyed->Keyed->Prop}{L:List Keyed}{o a b:Array Keyed}{i j k:Nat}{X:List Keyed}
theorem MI.pushR(h:MI le L o.toList X (b.toList.drop j))(hj:j<b.size)(hx:∀x∈X,le b[j] x):MI le L (o.push b[j]).toList X (b.toList.drop (j+1)):=by
 rw[tV hj]at h;rw[abr];exact h.right λy hy x hx'=>by rw[aal.mp hy];exact hx x hx'
theorem MI.pushL(h:MI le L o.toList (a.toList.drop i) X)(hi:i<a.size)(hx:∀x∈X,le a[i] x):MI le L (o.push a[i]).toList (a.toList.drop (i+1)) X:=by
 rw[tV hi]at h;rw[abr];exact h.left λy hy x hx'=>by rw[aal.mp hy];exact hx x hx'
theorem MI.moreR(h:MI le L o.toList X (b.toList.drop j))(hx:∀y∈(b.toList.drop j).take k,∀x∈X,le y x):MI le L (o++b.extract j (j+k)).toList X (b.toList.drop (j+k)):=by
 rw[<-aa6 k (b.toList.drop j),acO]at h;rw[aaW,lH];exact h.right hx
theorem MI.moreL(h:MI le L o.toList (a.toList.drop i) X)(hx:∀y∈(a.toList.drop i).take k,∀x∈X,le y x):MI le L (o++a.extract i (i+k)).toList (a.toList.drop (i+k)) X:=by
 rw[<-aa6 k (a.toList.drop i),acO]at h;rw[aaW,lH];exact h.left hx
theorem MI.fa(h:MI le L o.toList (a.toList.drop i) (b.toList.drop j))(hxy:∀x∈a.toList.drop i,∀y∈b.toList.drop j,le x y):Fin le L (o++a.extract i a.size++b.extract j b.size).toList:=by
 rw[aaW,aaW,kj,kj];exact h.xy hxy
theorem MI.fb(h:MI le L o.toList (a.toList.drop i) (b.toList.drop j))(hyx:∀y∈b.toList.drop j,∀x∈a.toList.drop i,le y x):Fin le L (o++b.extract j b.size++a.extract i a.size).toList:=by
 rw[aaW,aaW,kj,kj];exact h.yx hyx
theorem gA(h:b.size<=j):b.toList.drop j=[]:=List.drop_eq_nil_of_le (by rw[aaj];exact h)
end
structure cH(st st':SortSt):Prop where
 kind:kindOf st'=kindOf st
 arr:arrOf st'=arrOf st
 pend:pendingOf st'=pendingOf st
 failed:failedOf st'=failedOf st
theorem cH.refl(st:SortSt):cH st st:=⟨rfl,rfl,rfl,rfl⟩
theorem pR{st0 st:SortSt}{g:Nat}{Q:Unit->SortSt->Prop}(hg:cH st0 st)(h:∀st',cH st0 st'->Q () st'):wpS (model prog w) A E s (setG g) Q st:=by
 rw[GX];exact wpS_modify (h _ ⟨hg.kind,hg.arr,hg.pend,hg.failed⟩)
theorem zq{st:SortSt}{a b:Array Keyed}{Q:Array Keyed->SortSt->Prop}(hO:κ.OneLt)(hk:kindOf st=oneType')(hA:KeysOf κ a)(hB:KeysOf κ b)(sa:a.toList.Pairwise (kl κ))(sb:b.toList.Pairwise (kl κ))(na:0<a.size)(nb:0<b.size)
  (hf:∀x∈a.toList,kl κ b[0] x)(hl:∀y∈b.toList,kl κ y (a[a.size - 1]'(by omega)))(h:∀r st',cH st st'->Fin (kl κ) (a.toList++b.toList) r.toList->Q r st'):wpS (model prog w) A E s (qP a b) Q st:=by
 have kA:∀i (hi:i<a.size),∃x,κ.keyOf a[i].1=some x:=λi hi=>hA _ (aaT _);have kB:∀i (hi:i<b.size),∃x,κ.keyOf b[i].1=some x:=λi hi=>hB _ (aaT _);have last:∀i j,i+1=a.size -> ∀y∈b.toList.drop j,∀x∈a.toList.drop i,kl κ y x:=λi j hi y hy x hx=>by
  obtain⟨k,hk,rfl⟩:=eE hx;have:i+k=a.size - 1:=by lia
  have q:=hl y (acy hy);simp only[this];exact q
 have sA:=λlo=>rE sa (lo:=lo) (aad _);have sB:=λlo=>rE sb (lo:=lo) (aad _);have M0:MI (kl κ) (a.toList++b.toList) (#[b[0]]:Array Keyed).toList (a.toList.drop 0) (b.toList.drop 1):=by
  have M:MI (kl κ) (a.toList++b.toList) (#[]:Array Keyed).toList (a.toList.drop 0) (b.toList.drop 0):=⟨.rfl,.nil,sa,sb,λo ho=>(abV ho).elim,λo ho=>(abV ho).elim⟩;exact M.pushR nb λx hx=>hf x hx
 rw[wG];unfold Vx;refine wpS_bind (wpS_lift (wpAny_rule ⟨rfl,?_⟩));refine wpS_bind (aY nb ?_);refine aU (λc=>wpS_pure (h _ _ (cH.refl _) (M0.fa λx _ y hy=>?_))) λc1=>?_
 ·rw[gA (by have:=beq_iff_eq.mp c;lia)]at hy;cases hy
 refine aU (λc=>wpS_pure (h _ _ (cH.refl _) (M0.fb (last _ _ (beq_iff_eq.mp c))))) λc2=>?_;have c1:1≠b.size:=λz=>c1 (beq_iff_eq.mpr z);have c2:0+1≠a.size:=λz=>c2 (beq_iff_eq.mpr z);refine wpS_bind (wpS_get ?_);have fin:∀r st',cH st st'->Fin (kl κ) (a.toList++b.toList) r.toList->Q r st':=h;refine wpS_bind (wpS_mono (wpS_forRange (I:=λx c st'=>cH st st' /\ ∃o i j g,c=(none,o,i,j,g)/\MI (kl κ) (a.toList++b.toList) o.toList (a.toList.drop i) (b.toList.drop j)/\i+1<a.size/\j<b.size/\x+1<=i+j)
  (Q:=λc st'=>cH st st' /\ ∃r,c.1=some r/\Fin (kl κ) (a.toList++b.toList) r.toList) ?_ ?_ ⟨cH.refl _,_,0,1,_,rfl,M0,by lia,by lia,by lia⟩) ?_)
 ·rintro x c st1 _ hx ⟨hg1,o,i,j,g,rfl,M,hi,hj,hm⟩;refine wpS_bind (wpS_mono (wpS_forRange (I:=λy c st'=>cH st st' /\ ∃o i j p q,c=(none,o,i,j,p,q)/\MI (kl κ) (a.toList++b.toList) o.toList (a.toList.drop i) (b.toList.drop j)/\i+1<a.size/\j<b.size/\x+1+y<=i+j)
   (Q:=λc st'=>cH st st'/\((∃r,c.1=some r/\Fin (kl κ) (a.toList++b.toList) r.toList) \/ ∃o i j p q,c=(none,o,i,j,p,q)/\MI (kl κ) (a.toList++b.toList) o.toList (a.toList.drop i) (b.toList.drop j)/\i+1<a.size/\j<b.size/\x+2<=i+j)) ?_ ?_ ⟨hg1,o,i,j,0,0,rfl,M,hi,hj,hm⟩) ?_)
  ·rintro y c st2 _ hy ⟨hg2,o,i,j,p,q,rfl,M,hi,hj,hm⟩;refine wpS_bind (aY hj (wpS_bind (aY (show i<a.size by lia) (wpS_bind (zK hO (hg2.kind.trans hk) (kB j hj) (kA i (by lia)) ?_)))));cases hv:κ.blt (ky κ b[j]) (ky κ (a[i]'(by omega)))
   ·refine aU (λz=>absurd z (by decide)) λ_=>?_;refine wpS_bind (aY (show i<a.size by lia) ?_);have M':=M.pushL (show i<a.size by lia) λy hy=>by
     obtain⟨d,hd,rfl⟩:=eE hy;have q:=sB j j (j+d) (aad _) (by lia) hd;rw[bK hj,bK hd]at q;exact dF hv q
    refine aU (λz=>wpS_pure ⟨hg2,.inl ⟨_,rfl,M'.fb (last _ _ (beq_iff_eq.mp z))⟩⟩) λz=>?_;have z:i+1+1≠a.size:=λe=>z (beq_iff_eq.mpr e);exact aU (λ_=>wpS_pure ⟨hg2,.inr ⟨_,i+1,j,_,_,rfl,M',by lia,hj,by lia⟩⟩) λ_=>wpS_pure ⟨hg2,_,i+1,j,_,_,rfl,M',by lia,hj,by lia⟩
   ·refine aU (λ_=>?_) λz=>absurd rfl z;refine wpS_bind (aY hj ?_);have M':=M.pushR hj λy hy=>by
     obtain⟨d,hd,rfl⟩:=eE hy;have q:=sA i i (i+d) (aad _) (by lia) hd;rw[bK (show i<a.size by lia),bK hd]at q;exact dF (KeyOrd.kle_of_klt hv) q
    refine aU (λz=>wpS_pure ⟨hg2,.inl ⟨_,rfl,M'.fa λx _ y hy=>?_⟩⟩) λz=>?_
    ·have z:j+1=b.size:=beq_iff_eq.mp z;rw[gA (by lia)]at hy;cases hy
    have z:j+1≠b.size:=λe=>z (beq_iff_eq.mpr e);exact aU (λ_=>wpS_pure ⟨hg2,.inr ⟨_,i,j+1,_,_,rfl,M',hi,by lia,by lia⟩⟩) λ_=>wpS_pure ⟨hg2,_,i,j+1,_,_,rfl,M',hi,by lia,by lia⟩
  ·rintro c st2 ⟨hg2,o,i,j,p,q,rfl,M,hi,hj,hm⟩;exact⟨hg2,.inr ⟨o,i,j,p,q,rfl,M,hi,hj,by lia⟩⟩
  ·rintro c st2 ⟨hg2,hc⟩;rcases hc with ⟨r,hr,hF⟩|⟨o,i,j,p,q,rfl,M,hi,hj,hm⟩
   ·obtain⟨c1,c2⟩:=c;cases hr;exact wpS_pure ⟨hg2,r,rfl,hF⟩
   refine wpS_bind (wpS_lift (wpAny_rule ⟨rfl,?_⟩));refine wpS_bind (wpS_mono (wpS_forRange (I:=λy c st'=>cH st st' /\ ∃o i j g p q,c=(none,o,i,j,g,p,q)/\MI (kl κ) (a.toList++b.toList) o.toList (a.toList.drop i) (b.toList.drop j)/\i+1<a.size/\j<b.size/\x+2<=i+j)
    (Q:=λc st'=>cH st st'/\((∃r,c.1=some r/\Fin (kl κ) (a.toList++b.toList) r.toList) \/ ∃o i j g p q,c=(none,o,i,j,g,p,q)/\MI (kl κ) (a.toList++b.toList) o.toList (a.toList.drop i) (b.toList.drop j)/\i+1<a.size/\j<b.size/\x+2<=i+j)) ?_ ?_ ⟨hg2,o,i,j,_,p,q,rfl,M,hi,hj,hm⟩) ?_)
   ·rintro y c st3 _ hy ⟨Nh,o,i,j,g,p,q,rfl,M,hi,hj,hm⟩;refine aU (λ_=>?_) λ_=>?_
    all_goals
     refine wpS_bind (pR Nh λMK Lb=>?_);refine wpS_bind (aY hj (wpS_bind (iT (base:=i) (n:=a.size - i) (hint:=0) hO (Lb.kind.trans hk) hA (kB j hj) (by rw[show i+(a.size - i)=a.size by lia];exact sA i) (by lia) (by lia) λk hk1 hk2 hk3=>?_)));have M1:MI (kl κ) (a.toList++b.toList) (o++a.extract i (i+k)).toList (a.toList.drop (i+k)) (b.toList.drop j):=M.moreL λx hx y hy=>by
      obtain⟨d,hd,hd',rfl⟩:=iJ hx;obtain⟨e,he,rfl⟩:=eE hy;have q1:=hk2 d hd;rw[bK hd']at q1;have q2:=sB j j (j+e) (aad _) (by lia) he;rw[bK hj,bK he]at q2;exact dF q1 q2
     have B1:∀x∈a.toList.drop (i+k),kl κ b[j] x:=λx hx=>by
      obtain⟨d,hd,rfl⟩:=eE hx;have q1:=hk3 (k+d) (by lia) (by lia);rw[show i+(k+d)=i+k+d by lia,bK hd]at q1;exact KeyOrd.kle_of_klt q1
     refine aU (λhk0=>aU (λz=>wpS_pure ⟨Lb,.inl ⟨_,rfl,M1.fb (last _ _ (beq_iff_eq.mp z))⟩⟩) λz1=>aU (λz=>wpS_pure ⟨Lb,.inl ⟨_,rfl,M1.fa λx hx=>?_⟩⟩) λz2=>?_) λhk0=>?_
     ·have z:i+k=a.size:=beq_iff_eq.mp z;rw[gA (by lia)]at hx;cases hx
     ·have z1:i+k+1≠a.size:=λe=>z1 (beq_iff_eq.mpr e);have z2:i+k≠a.size:=λe=>z2 (beq_iff_eq.mpr e);refine wpS_bind (aY hj ?_);have M3:=M1.pushR hj B1;refine aU (λz=>wpS_pure ⟨Lb,.inl ⟨_,rfl,M3.fa λx _ y hy=>?_⟩⟩) λz3=>?_
      ·have z:j+1=b.size:=beq_iff_eq.mp z;rw[gA (by lia)]at hy;cases hy
      have z3:j+1≠b.size:=λe=>z3 (beq_iff_eq.mpr e);refine wpS_bind (aY (show i+k<a.size by lia) (wpS_bind (fU (base:=j+1) (n:=b.size - (j+1)) (hint:=0) hO (Lb.kind.trans hk) hB (kA (i+k) (by lia)) (by rw[show j+1+(b.size - (j+1))=b.size by lia];exact sB _) (by lia) (by lia) λl hl1 hl2 hl3=>?_)));have M4:=M3.moreR (k:=l) λy hy x hx=>by
       obtain⟨d,hd,hd',rfl⟩:=iJ hy;obtain⟨e,he,rfl⟩:=eE hx;have q1:=hl2 d hd;rw[bK hd']at q1;have q2:=sA (i+k) (i+k) (i+k+e) (aad _) (by lia) he;rw[bK (show i+k<a.size by lia),bK he]at q2;exact dF (KeyOrd.kle_of_klt q1) q2
      have A4:∀y∈b.toList.drop (j+1+l),kl κ (a[i+k]'(by omega)) y:=λy hy=>by
       obtain⟨d,hd,rfl⟩:=eE hy;have q1:=hl3 (l+d) (by lia) (by lia);rw[show j+1+(l+d)=j+1+l+d by lia,bK hd]at q1;exact q1
      refine aU (λhl0=>aU (λz=>wpS_pure ⟨Lb,.inl ⟨_,rfl,M4.fa λx _ y hy=>?_⟩⟩) λz4=>?_) λhl0=>?_
      ·have z:j+1+l=b.size:=beq_iff_eq.mp z;rw[gA (by lia)]at hy;cases hy
      ·have z4:j+1+l≠b.size:=λe=>z4 (beq_iff_eq.mpr e);refine wpS_bind (aY (show i+k<a.size by lia) ?_);have M5:=M4.pushL (show i+k<a.size by lia) A4;refine aU (λz=>wpS_pure ⟨Lb,.inl ⟨_,rfl,M5.fb (last _ _ (beq_iff_eq.mp z))⟩⟩) λz5=>?_;have z5:i+k+1+1≠a.size:=λe=>z5 (beq_iff_eq.mpr e);exact aU (λ_=>wpS_pure ⟨Lb,.inr ⟨_,i+k+1,j+1+l,_,_,_,rfl,M5,by lia,by lia,by lia⟩⟩) λ_=>wpS_pure ⟨Lb,_,i+k+1,j+1+l,_,_,_,rfl,M5,by lia,by lia,by lia⟩
      ·have:l=0:=by lia
       subst this;refine wpS_bind (aY (show i+k<a.size by lia) ?_);have M5:=M3.pushL (show i+k<a.size by lia) A4;refine aU (λz=>wpS_pure ⟨Lb,.inl ⟨_,rfl,M5.fb (last _ _ (beq_iff_eq.mp z))⟩⟩) λz5=>?_;have z5:i+k+1+1≠a.size:=λe=>z5 (beq_iff_eq.mpr e);exact aU (λ_=>wpS_pure ⟨Lb,.inr ⟨_,i+k+1,j+1,_,_,_,rfl,M5,by lia,by lia,by lia⟩⟩) λ_=>wpS_pure ⟨Lb,_,i+k+1,j+1,_,_,_,rfl,M5,by lia,by lia,by lia⟩
     ·have:k=0:=by lia
      subst this;refine wpS_bind (aY hj ?_);have M3:=M.pushR hj B1;refine aU (λz=>wpS_pure ⟨Lb,.inl ⟨_,rfl,M3.fa λx _ y hy=>?_⟩⟩) λz3=>?_
      ·have z:j+1=b.size:=beq_iff_eq.mp z;rw[gA (by lia)]at hy;cases hy
      have z3:j+1≠b.size:=λe=>z3 (beq_iff_eq.mpr e);refine wpS_bind (aY (show i<a.size by lia) (wpS_bind (fU (base:=j+1) (n:=b.size - (j+1)) (hint:=0) hO (Lb.kind.trans hk) hB (kA (i) (by lia)) (by rw[show j+1+(b.size - (j+1))=b.size by lia];exact sB _) (by lia) (by lia) λl hl1 hl2 hl3=>?_)));have M4:=M3.moreR (k:=l) λy hy x hx=>by
       obtain⟨d,hd,hd',rfl⟩:=iJ hy;obtain⟨e,he,rfl⟩:=eE hx;have q1:=hl2 d hd;rw[bK hd']at q1;have q2:=sA (i) (i) (i+e) (aad _) (by lia) he;rw[bK (show i<a.size by lia),bK he]at q2;exact dF (KeyOrd.kle_of_klt q1) q2
      have A4:∀y∈b.toList.drop (j+1+l),kl κ (a[i]'(by omega)) y:=λy hy=>by
       obtain⟨d,hd,rfl⟩:=eE hy;have q1:=hl3 (l+d) (by lia) (by lia);rw[show j+1+(l+d)=j+1+l+d by lia,bK hd]at q1;exact q1
      refine aU (λhl0=>aU (λz=>wpS_pure ⟨Lb,.inl ⟨_,rfl,M4.fa λx _ y hy=>?_⟩⟩) λz4=>?_) λhl0=>?_
      ·have z:j+1+l=b.size:=beq_iff_eq.mp z;rw[gA (by lia)]at hy;cases hy
      ·have z4:j+1+l≠b.size:=λe=>z4 (beq_iff_eq.mpr e);refine wpS_bind (aY (show i<a.size by lia) ?_);have M5:=M4.pushL (show i<a.size by lia) A4;refine aU (λz=>wpS_pure ⟨Lb,.inl ⟨_,rfl,M5.fb (last _ _ (beq_iff_eq.mp z))⟩⟩) λz5=>?_;have z5:i+1+1≠a.size:=λe=>z5 (beq_iff_eq.mpr e);exact aU (λ_=>wpS_pure ⟨Lb,.inr ⟨_,i+1,j+1+l,_,_,_,rfl,M5,by lia,by lia,by lia⟩⟩) λ_=>wpS_pure ⟨Lb,_,i+1,j+1+l,_,_,_,rfl,M5,by lia,by lia,by lia⟩
      ·have:l=0:=by lia
       subst this;refine wpS_bind (aY (show i<a.size by lia) ?_);have M5:=M3.pushL (show i<a.size by lia) A4;refine aU (λz=>wpS_pure ⟨Lb,.inl ⟨_,rfl,M5.fb (last _ _ (beq_iff_eq.mp z))⟩⟩) λz5=>?_;have z5:i+1+1≠a.size:=λe=>z5 (beq_iff_eq.mpr e);exact aU (λ_=>wpS_pure ⟨Lb,.inr ⟨_,i+1,j+1,_,_,_,rfl,M5,by lia,by lia,by lia⟩⟩) λ_=>wpS_pure ⟨Lb,_,i+1,j+1,_,_,_,rfl,M5,by lia,by lia,by lia⟩
   ·rintro c st3 ⟨Nh,o,i,j,g,p,q,rfl,M,hi,hj,hm⟩;exact⟨Nh,.inr ⟨o,i,j,g,p,q,rfl,M,hi,hj,hm⟩⟩
   ·rintro c st3 ⟨Nh,hc⟩;rcases hc with ⟨r,hr,hF⟩|⟨o,i,j,g,p,q,rfl,M,hi,hj,hm⟩
    ·obtain⟨c1,c2⟩:=c;cases hr;exact wpS_pure ⟨Nh,r,rfl,hF⟩
    exact wpS_bind (pR Nh λMK Lb=>wpS_pure ⟨Lb,o,i,j,_,rfl,M,hi,hj,by lia⟩)
 ·rintro c st1 ⟨hg1,o,i,j,g,rfl,M,hi,hj,hm⟩;exfalso;lia
 ·rintro c st1 ⟨hg1,r,hr,hF⟩;obtain⟨c1,c2⟩:=c;cases hr;exact wpS_pure (h r st1 hg1 hF)
end
set_option autoImplicit false
def qw:Array Keyed->Array Keyed->StateT SortSt Sem (Array Keyed):=sortPriv% PySem.Builtin.mergeHi
def Vy(a b:Array Keyed):StateT SortSt Sem (Array Keyed):=do
 rule "list.sort.merge-hi"
 let t:=a.size+b.size
 let fa (o:Array Keyed) (m n:Nat):=a.extract 0 m++b.extract 0 n++o.reverse
 let fb (o:Array Keyed) (m n:Nat):=b.extract 0 n++a.extract 0 m++o.reverse
 let mut m:=a.size - 1
 let mut n:=b.size
 let mut o:Array Keyed:=#[<-elem' a m]
 if m == 0 then return fa o m n
 if n == 1 then return fb o m n
 let mut g:=gallopOf (<-get)
 for _ in [0:t] do
  let mut p:=0
  let mut q:=0
  for _ in [0:t] do
   let some v <-lt' (<-elem' b (n - 1)) (<-elem' a (m - 1)) | return fa o m n
   if v then
    m:=m - 1;o:=o.push (<-elem' a m);p:=p+1;q:=0
    if m == 0 then return fa o m n
    if p >= g then break
   else
    n:=n - 1;o:=o.push (<-elem' b n);q:=q+1;p:=0
    if n == 1 then return fb o m n
    if q >= g then break
  rule "list.sort.gallop"
  g:=g+1
  for _ in [0:t] do
   if g > 1 then g:=g - 1
   setG g
   let some z <-fJ false (<-elem' b (n - 1)) a 0 m (m - 1) | return fa o m n
   let k:=m - z
   p:=k
   if k > 0 then
    o:=o++(a.extract z m).reverse;m:=z
    if m == 0 then return fa o m n
   n:=n - 1;o:=o.push (<-elem' b n)
   if n == 1 then return fb o m n
   let some z <-fJ true (<-elem' a (m - 1)) b 0 n (n - 1) | return fa o m n
   let k:=n - z
   q:=k
   if k > 0 then
    o:=o++(b.extract z n).reverse;n:=z
    if n == 1 then return fb o m n
    if n == 0 then return fa o m n
   m:=m - 1;o:=o.push (<-elem' a m)
   if m == 0 then return fa o m n
   if p<7 && q<7 then break
  g:=g+1
  setG g
 (unsupported "internal:list.sort.merge-bound" : StateT SortSt Sem (Array Keyed))
theorem xW(a b:Array Keyed):qw a b=Vy a b:=rfl
section
variable{prog:Program}{w:World}{A:Around}{E:Value->Shared->Prop}{s:Shared}{κ:KeyKind}
def kr(κ:KeyKind)(x y:Keyed):Prop:=kl κ y x
abbrev hd(xs:Array Keyed)(m:Nat):List Keyed:=(xs.toList.take m).reverse
theorem zP{xs:Array Keyed}{m:Nat}(h1:1<=m)(hm:m<=xs.size):hd xs m=[xs[m - 1]'(by omega)]++hd xs (m - 1):=by
 obtain⟨k,rfl⟩:∃k,m=k+1:=⟨m - 1,by lia⟩;unfold hd;rw[aa8,aac (by rw[aaj];lia),aaX];simp
theorem EY{xs:Array Keyed}{m z:Nat}(hz:z<=m):hd xs m=((xs.toList.take m).drop z).reverse++hd xs z:=by
 unfold hd;rw[<-abR,show xs.toList.take z=(xs.toList.take m).take z by rw[adm,ab5 hz],aa6]
theorem dR{xs:Array Keyed}{m:Nat}{x:Keyed}(h:x∈hd xs m):∃d,d<m /\ ∃hd:d<xs.size,x=xs[d]:=by
 obtain⟨d,h1,e⟩:=abG (abU.mp h);rw[aaC,aaj]at h1;exact⟨d,by lia,by lia,by rw[<-e,acb,aaX]⟩
theorem uM{xs:Array Keyed}{m z:Nat}{x:Keyed}(h:x∈((xs.toList.take m).drop z).reverse):∃d,z<=d/\d<m /\ ∃hd:d<xs.size,x=xs[d]:=by
 obtain⟨d,h1,e⟩:=abG (abU.mp h);rw[abe,aaC,aaj]at h1;exact⟨z+d,by lia,by lia,by lia,by rw[<-e,aca,acb,aaX]⟩
section
variable{le:Keyed->Keyed->Prop}{L:List Keyed}{o a b:Array Keyed}{m n z:Nat}{X:List Keyed}
theorem MI.popL(h:MI le L o.toList (hd a m) X)(h1:1<=m)(hm:m<=a.size)(hx:∀x∈X,le (a[m - 1]'(by omega)) x):MI le L (o.push (a[m - 1]'(by omega))).toList (hd a (m - 1)) X:=by
 rw[zP h1 hm]at h;rw[abr];exact h.left λy hy x hx'=>by rw[aal.mp hy];exact hx x hx'
theorem MI.popR(h:MI le L o.toList X (hd b n))(h1:1<=n)(hn:n<=b.size)(hx:∀x∈X,le (b[n - 1]'(by omega)) x):MI le L (o.push (b[n - 1]'(by omega))).toList X (hd b (n - 1)):=by
 rw[zP h1 hn]at h;rw[abr];exact h.right λy hy x hx'=>by rw[aal.mp hy];exact hx x hx'
theorem xV(xs:Array Keyed)(m z:Nat):(o++(xs.extract z m).reverse).toList=o.toList++((xs.toList.take m).drop z).reverse:=by
 rw[aaW,acz,abL,abu,<-List.drop_take]
theorem MI.cutL(h:MI le L o.toList (hd a m) X)(hz:z<=m)(hx:∀y∈((a.toList.take m).drop z).reverse,∀x∈X,le y x):MI le L (o++(a.extract z m).reverse).toList (hd a z) X:=by
 rw[EY hz]at h;rw[xV];exact h.left hx
theorem MI.cutR(h:MI le L o.toList X (hd b n))(hz:z<=n)(hx:∀y∈((b.toList.take n).drop z).reverse,∀x∈X,le y x):MI le L (o++(b.extract z n).reverse).toList X (hd b z):=by
 rw[EY hz]at h;rw[xV];exact h.right hx
theorem Aa{r:List Keyed}(h:Fin (kr κ) L r.reverse):Fin (kl κ) L r:=⟨(acT r).symm.trans h.1,ab7.mp h.2⟩
theorem iW(xs:Array Keyed)(m:Nat):(xs.extract 0 m).toList=xs.toList.take m:=by
 rw[abL,abu,abX,abw]
theorem MI.ha(h:MI (kr κ) L o.toList (hd a m) (hd b n))(hyx:∀y∈hd b n,∀x∈hd a m,kr κ y x):Fin (kl κ) L (a.extract 0 m++b.extract 0 n++o.reverse).toList:=by
 refine Aa ?_;rw[aaW,aaW,iW,iW,acz,abR,adh,abR,<-aaG];exact h.yx hyx
theorem MI.hb(h:MI (kr κ) L o.toList (hd a m) (hd b n))(hxy:∀x∈hd a m,∀y∈hd b n,kr κ x y):Fin (kl κ) L (b.extract 0 n++a.extract 0 m++o.reverse).toList:=by
 refine Aa ?_;rw[aaW,aaW,iW,iW,acz,abR,adh,abR,<-aaG];exact h.xy hxy
end
theorem yS{st:SortSt}{a b:Array Keyed}{Q:Array Keyed->SortSt->Prop}(hO:κ.OneLt)(hk:kindOf st=oneType')(hA:KeysOf κ a)(hB:KeysOf κ b)(sa:a.toList.Pairwise (kl κ))(sb:b.toList.Pairwise (kl κ))(na:0<a.size)(nb:0<b.size)
  (hf:∀x∈a.toList,kl κ b[0] x)(hl:∀y∈b.toList,kl κ y (a[a.size - 1]'(by omega)))(h:∀r st',cH st st'->Fin (kl κ) (a.toList++b.toList) r.toList->Q r st'):wpS (model prog w) A E s (qw a b) Q st:=by
 have kA:∀i (hi:i<a.size),∃x,κ.keyOf a[i].1=some x:=λi hi=>hA _ (aaT _);have kB:∀i (hi:i<b.size),∃x,κ.keyOf b[i].1=some x:=λi hi=>hB _ (aaT _);have first:∀m,∀x∈hd a m,∀y∈hd b 1,kr κ x y:=λm x hx y hy=>by
  obtain⟨d,hd1,hd2,rfl⟩:=dR hy;have:d=0:=by lia
  subst this;exact hf x (abm (abU.mp hx))
 have sA:=rE sa (lo:=0) (aad _);have sB:=rE sb (lo:=0) (aad _);have Te:∀d e (hd:d<a.size) (he:e<a.size),d<=e->kl κ a[d] a[e]:=λd e hd he hde=>by
  have q:=sA d e (aaq _) hde he;rw[bK hd,bK he]at q;exact q
 have leB:∀d e (hd:d<b.size) (he:e<b.size),d<=e->kl κ b[d] b[e]:=λd e hd he hde=>by
  have q:=sB d e (aaq _) hde he;rw[bK hd,bK he]at q;exact q
 have nilA:∀y∈hd b b.size,∀x∈hd a 0,kr κ y x:=λy _ x hx=>by
  obtain⟨d,hd,_⟩:=dR hx;lia
 have zA:∀n,∀y∈hd b n,∀x∈hd a 0,kr κ y x:=λn y _ x hx=>by
  obtain⟨d,hd,_⟩:=dR hx;lia
 have zB:∀m,∀y∈hd b 0,∀x∈hd a m,kr κ y x:=λm y hy x _=>by
  obtain⟨d,hd,_⟩:=dR hy;lia
 have M0:MI (kr κ) (a.toList++b.toList) (#[a[a.size - 1]'(by omega)]:Array Keyed).toList (hd a (a.size - 1)) (hd b b.size):=by
  have ea:a.toList.take a.size=a.toList:=aav (by rw[aaj];exact aad _);have eb:b.toList.take b.size=b.toList:=aav (by rw[aaj];exact aad _);have M:MI (kr κ) (a.toList++b.toList) (#[]:Array Keyed).toList (hd a a.size) (hd b b.size):=by
   refine⟨?_,.nil,?_,?_,λo ho=>(abV ho).elim,λo ho=>(abV ho).elim⟩
   ·show abb ([]++hd a a.size++hd b b.size) _;unfold hd;rw[ea,eb];exact(acT _).append (acT _)
   ·unfold hd;rw[ea];exact ab7.mpr sa
   ·unfold hd;rw[eb];exact ab7.mpr sb
  exact M.popL na (aad _) λy hy=>hl y (by have:=abU.mp hy;rw[eb]at this;exact this)
 rw[xW];unfold Vy;refine wpS_bind (wpS_lift (wpAny_rule ⟨rfl,?_⟩));refine wpS_bind (aY (show a.size - 1<a.size by lia) ?_);refine aU (λc=>wpS_pure (h _ _ (cH.refl _) (M0.ha ?_))) λc1=>?_
 ·have c:a.size - 1=0:=beq_iff_eq.mp c;rw[c];exact zA _
 refine aU (λc=>wpS_pure (h _ _ (cH.refl _) (M0.hb ?_))) λc2=>?_
 ·have c:b.size=1:=beq_iff_eq.mp c;rw[c];exact first _
 have c1:a.size - 1≠0:=λz=>c1 (beq_iff_eq.mpr z);have c2:b.size≠1:=λz=>c2 (beq_iff_eq.mpr z);refine wpS_bind (wpS_get ?_);refine wpS_bind (wpS_mono (wpS_forRange (I:=λx c st'=>cH st st' /\ ∃m n o g,c=(none,m,n,o,g)/\MI (kr κ) (a.toList++b.toList) o.toList (hd a m) (hd b n)/\1<=m/\m<=a.size/\2<=n/\n<=b.size/\x+1+(m+n)<=a.size+b.size)
  (Q:=λc st'=>cH st st' /\ ∃r,c.1=some r/\Fin (kl κ) (a.toList++b.toList) r.toList) ?_ ?_ ⟨cH.refl _,a.size - 1,b.size,_,_,rfl,M0,by lia,by lia,by lia,by lia,by lia⟩) ?_)
 ·rintro x c st1 _ hx ⟨hg1,m,n,o,g,rfl,M,hm1,hm2,hn1,hn2,hms⟩;refine wpS_bind (wpS_mono (wpS_forRange (I:=λy c st'=>cH st st' /\ ∃m n o p q,c=(none,m,n,o,p,q)/\MI (kr κ) (a.toList++b.toList) o.toList (hd a m) (hd b n)/\1<=m/\m<=a.size/\2<=n/\n<=b.size/\x+1+y+(m+n)<=a.size+b.size)
   (Q:=λc st'=>cH st st'/\((∃r,c.1=some r/\Fin (kl κ) (a.toList++b.toList) r.toList) \/ ∃m n o p q,c=(none,m,n,o,p,q)/\MI (kr κ) (a.toList++b.toList) o.toList (hd a m) (hd b n)/\1<=m/\m<=a.size/\2<=n/\n<=b.size/\x+2+(m+n)<=a.size+b.size)) ?_ ?_ ⟨hg1,m,n,o,0,0,rfl,M,hm1,hm2,hn1,hn2,hms⟩) ?_)
  ·rintro y c st2 _ hy ⟨hg2,m,n,o,p,q,rfl,M,hm1,hm2,hn1,hn2,hms⟩;refine wpS_bind (aY (show n - 1<b.size by lia) (wpS_bind (aY (show m - 1<a.size by lia) (wpS_bind (zK hO (hg2.kind.trans hk) (kB (n - 1) (by lia)) (kA (m - 1) (by lia)) ?_)))));cases hv:κ.blt (ky κ (b[n - 1]'(by omega))) (ky κ (a[m - 1]'(by omega)))
   ·refine aU (λz=>absurd z (by decide)) λ_=>?_;refine wpS_bind (aY (show n - 1<b.size by lia) ?_);have M':=M.popR (by lia) hn2 λx hx=>by
     obtain⟨d,h1,h2,rfl⟩:=dR hx;exact dF (Te d (m - 1) h2 (by lia) (by lia)) hv
    refine aU (λz=>wpS_pure ⟨hg2,.inl ⟨_,rfl,M'.hb ?_⟩⟩) λz=>?_
    ·have z:n - 1=1:=beq_iff_eq.mp z;rw[z];exact first _
    have z:n - 1≠1:=λe=>z (beq_iff_eq.mpr e);exact aU (λ_=>wpS_pure ⟨hg2,.inr ⟨m,n - 1,_,_,_,rfl,M',hm1,hm2,by lia,by lia,by lia⟩⟩) λ_=>wpS_pure ⟨hg2,m,n - 1,_,_,_,rfl,M',hm1,hm2,by lia,by lia,by lia⟩
   ·refine aU (λ_=>?_) λz=>absurd rfl z;refine wpS_bind (aY (show m - 1<a.size by lia) ?_);have M':=M.popL hm1 hm2 λy hy=>by
     obtain⟨d,h1,h2,rfl⟩:=dR hy;exact dF (leB d (n - 1) h2 (by lia) (by lia)) (KeyOrd.kle_of_klt hv)
    refine aU (λz=>wpS_pure ⟨hg2,.inl ⟨_,rfl,M'.ha ?_⟩⟩) λz=>?_
    ·have z:m - 1=0:=beq_iff_eq.mp z;rw[z];exact zA _
    have z:m - 1≠0:=λe=>z (beq_iff_eq.mpr e);exact aU (λ_=>wpS_pure ⟨hg2,.inr ⟨m - 1,n,_,_,_,rfl,M',by lia,by lia,hn1,hn2,by lia⟩⟩) λ_=>wpS_pure ⟨hg2,m - 1,n,_,_,_,rfl,M',by lia,by lia,hn1,hn2,by lia⟩
  ·rintro c st2 ⟨hg2,m,n,o,p,q,rfl,M,hm1,hm2,hn1,hn2,hms⟩;exact⟨hg2,.inr ⟨m,n,o,p,q,rfl,M,hm1,hm2,hn1,hn2,by lia⟩⟩
  ·rintro c st2 ⟨hg2,hc⟩;rcases hc with ⟨r,hr,hF⟩|⟨m,n,o,p,q,rfl,M,hm1,hm2,hn1,hn2,hms⟩
   ·obtain⟨c1,c2⟩:=c;cases hr;exact wpS_pure ⟨hg2,r,rfl,hF⟩
   refine wpS_bind (wpS_lift (wpAny_rule ⟨rfl,?_⟩));refine wpS_bind (wpS_mono (wpS_forRange (I:=λy c st'=>cH st st' /\ ∃m n o g p q,c=(none,m,n,o,g,p,q)/\MI (kr κ) (a.toList++b.toList) o.toList (hd a m) (hd b n)/\1<=m/\m<=a.size/\2<=n/\n<=b.size/\x+2+(m+n)<=a.size+b.size)
    (Q:=λc st'=>cH st st'/\((∃r,c.1=some r/\Fin (kl κ) (a.toList++b.toList) r.toList) \/ ∃m n o g p q,c=(none,m,n,o,g,p,q)/\MI (kr κ) (a.toList++b.toList) o.toList (hd a m) (hd b n)/\1<=m/\m<=a.size/\2<=n/\n<=b.size/\x+2+(m+n)<=a.size+b.size)) ?_ ?_ ⟨hg2,m,n,o,_,p,q,rfl,M,hm1,hm2,hn1,hn2,hms⟩) ?_)
   ·rintro y c st3 _ hy ⟨Nh,m,n,o,g,p,q,rfl,M,hm1,hm2,hn1,hn2,hms⟩;refine aU (λ_=>?_) λ_=>?_
    all_goals
     refine wpS_bind (pR Nh λMK Lb=>?_);refine wpS_bind (aY (show n - 1<b.size by lia) (wpS_bind (iT (base:=0) (n:=m) (hint:=m - 1) hO (Lb.kind.trans hk) hA (kB (n - 1) (by lia)) (by rw[abz];exact rE sa hm2) (by lia) (by lia) λz hz1 hz2 Rw=>?_)));have hz2:∀d (hd:d<a.size),d<z->kl κ a[d] (b[n - 1]'(by omega)):=λd hd hdz=>by
      have q:=hz2 d hdz;rw[abz,bK hd]at q;exact q
     have Rw:∀d (hd:d<a.size),z<=d->d<m->kl κ (b[n - 1]'(by omega)) a[d]:=λd hd h1 h2=>by
      have q:=Rw d h1 h2;rw[abz,bK hd]at q;exact KeyOrd.kle_of_klt q
     have M1:MI (kr κ) (a.toList++b.toList) (o++(a.extract z m).reverse).toList (hd a z) (hd b n):=M.cutL hz1 λx hx y hy=>by
      obtain⟨d,h1,h2,h3,rfl⟩:=uM hx;obtain⟨e,h4,h5,rfl⟩:=dR hy;exact dF (leB e (n - 1) h5 (by lia) (by lia)) (Rw d h3 h1 h2)
     refine aU (λhk0=>aU (λc=>wpS_pure ⟨Lb,.inl ⟨_,rfl,M1.ha ?_⟩⟩) λc3=>?_) λhk0=>?_
     ·have c:z=0:=beq_iff_eq.mp c;rw[c];exact zA _
     ·have c3:z≠0:=λe=>c3 (beq_iff_eq.mpr e);refine wpS_bind (aY (show n - 1<b.size by lia) ?_);have M3:=M1.popR (by lia) hn2 λx hx=>by
       obtain⟨d,h1,h2,rfl⟩:=dR hx;exact hz2 d h2 h1
      refine aU (λc=>wpS_pure ⟨Lb,.inl ⟨_,rfl,M3.hb ?_⟩⟩) λc4=>?_
      ·have c:n - 1=1:=beq_iff_eq.mp c;rw[c];exact first _
      have c4:n - 1≠1:=λe=>c4 (beq_iff_eq.mpr e);refine wpS_bind (aY (show z - 1<a.size by lia) (wpS_bind (fU (base:=0) (n:=n - 1) (hint:=n - 1 - 1) hO (Lb.kind.trans hk) hB (kA (z - 1) (by lia)) (by rw[abz];exact rE sb (by lia)) (by lia) (by lia) λl hl1 hl2 hl3=>?_)));have hl2:∀d (hd:d<b.size),d<l->kl κ b[d] (a[z - 1]'(by omega)):=λd hd hdl=>by
       have q:=hl2 d hdl;rw[abz,bK hd]at q;exact KeyOrd.kle_of_klt q
      have hl3:∀d (hd:d<b.size),l<=d->d<n - 1->kl κ (a[z - 1]'(by omega)) b[d]:=λd hd h1 h2=>by
       have q:=hl3 d h1 h2;rw[abz,bK hd]at q;exact q
      have M4:=M3.cutR hl1 λy hy x hx=>by
       obtain⟨d,h1,h2,h3,rfl⟩:=uM hy;obtain⟨e,h4,h5,rfl⟩:=dR hx;exact dF (Te e (z - 1) h5 (by lia) (by lia)) (hl3 d h3 h1 h2)
      refine aU (λhl0=>aU (λc=>wpS_pure ⟨Lb,.inl ⟨_,rfl,M4.hb ?_⟩⟩) λc6=>aU (λc=>wpS_pure ⟨Lb,.inl ⟨_,rfl,M4.ha ?_⟩⟩) λc7=>?_) λhl0=>?_
      ·have c:l=1:=beq_iff_eq.mp c;rw[c];exact first _
      ·have c:l=0:=beq_iff_eq.mp c;rw[c];exact zB _
      ·have c6:l≠1:=λe=>c6 (beq_iff_eq.mpr e);have c7:l≠0:=λe=>c7 (beq_iff_eq.mpr e);refine wpS_bind (aY (show z - 1<a.size by lia) ?_);have M5:=M4.popL (by lia) (by lia) λy hy=>by obtain⟨d,h1,h2,rfl⟩:=dR hy;exact hl2 d h2 h1
       refine aU (λc=>wpS_pure ⟨Lb,.inl ⟨_,rfl,M5.ha ?_⟩⟩) λc5=>?_
       ·have c:z - 1=0:=beq_iff_eq.mp c;rw[c];exact zA _
       have c5:z - 1≠0:=λe=>c5 (beq_iff_eq.mpr e);exact aU (λ_=>wpS_pure ⟨Lb,.inr ⟨z - 1,l,_,_,_,_,rfl,M5,by lia,by lia,by lia,by lia,by lia⟩⟩) λ_=>wpS_pure ⟨Lb,z - 1,l,_,_,_,_,rfl,M5,by lia,by lia,by lia,by lia,by lia⟩
      ·have hl0:¬n - 1 - l > 0:=hl0;have:l=n - 1:=by lia
       subst this;refine wpS_bind (aY (show z - 1<a.size by lia) ?_);have M5:=M3.popL (by lia) (by lia) λy hy=>by obtain⟨d,h1,h2,rfl⟩:=dR hy;exact hl2 d h2 h1
       refine aU (λc=>wpS_pure ⟨Lb,.inl ⟨_,rfl,M5.ha ?_⟩⟩) λc5=>?_
       ·have c:z - 1=0:=beq_iff_eq.mp c;rw[c];exact zA _
       have c5:z - 1≠0:=λe=>c5 (beq_iff_eq.mpr e);exact aU (λ_=>wpS_pure ⟨Lb,.inr ⟨z - 1,(n - 1),_,_,_,_,rfl,M5,by lia,by lia,by lia,by lia,by lia⟩⟩) λ_=>wpS_pure ⟨Lb,z - 1,(n - 1),_,_,_,_,rfl,M5,by lia,by lia,by lia,by lia,by lia⟩
     ·have hk0:¬m - z > 0:=hk0;have:z=m:=by lia
      subst this;refine wpS_bind (aY (show n - 1<b.size by lia) ?_);have M3:=M.popR (by lia) hn2 λx hx=>by
       obtain⟨d,h1,h2,rfl⟩:=dR hx;exact hz2 d h2 h1
      refine aU (λc=>wpS_pure ⟨Lb,.inl ⟨_,rfl,M3.hb ?_⟩⟩) λc4=>?_
      ·have c:n - 1=1:=beq_iff_eq.mp c;rw[c];exact first _
      have c4:n - 1≠1:=λe=>c4 (beq_iff_eq.mpr e);refine wpS_bind (aY (show z - 1<a.size by lia) (wpS_bind (fU (base:=0) (n:=n - 1) (hint:=n - 1 - 1) hO (Lb.kind.trans hk) hB (kA (z - 1) (by lia)) (by rw[abz];exact rE sb (by lia)) (by lia) (by lia) λl hl1 hl2 hl3=>?_)));have hl2:∀d (hd:d<b.size),d<l->kl κ b[d] (a[z - 1]'(by omega)):=λd hd hdl=>by
       have q:=hl2 d hdl;rw[abz,bK hd]at q;exact KeyOrd.kle_of_klt q
      have hl3:∀d (hd:d<b.size),l<=d->d<n - 1->kl κ (a[z - 1]'(by omega)) b[d]:=λd hd h1 h2=>by
       have q:=hl3 d h1 h2;rw[abz,bK hd]at q;exact q
      have M4:=M3.cutR hl1 λy hy x hx=>by
       obtain⟨d,h1,h2,h3,rfl⟩:=uM hy;obtain⟨e,h4,h5,rfl⟩:=dR hx;exact dF (Te e (z - 1) h5 (by lia) (by lia)) (hl3 d h3 h1 h2)
      refine aU (λhl0=>aU (λc=>wpS_pure ⟨Lb,.inl ⟨_,rfl,M4.hb ?_⟩⟩) λc6=>aU (λc=>wpS_pure ⟨Lb,.inl ⟨_,rfl,M4.ha ?_⟩⟩) λc7=>?_) λhl0=>?_
      ·have c:l=1:=beq_iff_eq.mp c;rw[c];exact first _
      ·have c:l=0:=beq_iff_eq.mp c;rw[c];exact zB _
      ·have c6:l≠1:=λe=>c6 (beq_iff_eq.mpr e);have c7:l≠0:=λe=>c7 (beq_iff_eq.mpr e);refine wpS_bind (aY (show z - 1<a.size by lia) ?_);have M5:=M4.popL (by lia) (by lia) λy hy=>by obtain⟨d,h1,h2,rfl⟩:=dR hy;exact hl2 d h2 h1
       refine aU (λc=>wpS_pure ⟨Lb,.inl ⟨_,rfl,M5.ha ?_⟩⟩) λc5=>?_
       ·have c:z - 1=0:=beq_iff_eq.mp c;rw[c];exact zA _
       have c5:z - 1≠0:=λe=>c5 (beq_iff_eq.mpr e);exact aU (λ_=>wpS_pure ⟨Lb,.inr ⟨z - 1,l,_,_,_,_,rfl,M5,by lia,by lia,by lia,by lia,by lia⟩⟩) λ_=>wpS_pure ⟨Lb,z - 1,l,_,_,_,_,rfl,M5,by lia,by lia,by lia,by lia,by lia⟩
      ·have hl0:¬n - 1 - l > 0:=hl0;have:l=n - 1:=by lia
       subst this;refine wpS_bind (aY (show z - 1<a.size by lia) ?_);have M5:=M3.popL (by lia) (by lia) λy hy=>by obtain⟨d,h1,h2,rfl⟩:=dR hy;exact hl2 d h2 h1
       refine aU (λc=>wpS_pure ⟨Lb,.inl ⟨_,rfl,M5.ha ?_⟩⟩) λc5=>?_
       ·have c:z - 1=0:=beq_iff_eq.mp c;rw[c];exact zA _
       have c5:z - 1≠0:=λe=>c5 (beq_iff_eq.mpr e);exact aU (λ_=>wpS_pure ⟨Lb,.inr ⟨z - 1,(n - 1),_,_,_,_,rfl,M5,by lia,by lia,by lia,by lia,by lia⟩⟩) λ_=>wpS_pure ⟨Lb,z - 1,(n - 1),_,_,_,_,rfl,M5,by lia,by lia,by lia,by lia,by lia⟩
   ·rintro c st3 ⟨Nh,m,n,o,g,p,q,rfl,M,hm1,hm2,hn1,hn2,hms⟩;exact⟨Nh,.inr ⟨m,n,o,g,p,q,rfl,M,hm1,hm2,hn1,hn2,hms⟩⟩
   ·rintro c st3 ⟨Nh,hc⟩;rcases hc with ⟨r,hr,hF⟩|⟨m,n,o,g,p,q,rfl,M,hm1,hm2,hn1,hn2,hms⟩
    ·obtain⟨c1,c2⟩:=c;cases hr;exact wpS_pure ⟨Nh,r,rfl,hF⟩
    exact wpS_bind (pR Nh λMK Lb=>wpS_pure ⟨Lb,m,n,o,_,rfl,M,hm1,hm2,hn1,hn2,by lia⟩)
 ·rintro c st1 ⟨hg1,m,n,o,g,rfl,M,hm1,hm2,hn1,hn2,hms⟩;exfalso;lia
 ·rintro c st1 ⟨hg1,r,hr,hF⟩;obtain⟨c1,c2⟩:=c;cases hr;exact wpS_pure (h r st1 hg1 hF)
end
set_option autoImplicit false
theorem xP(i:Nat):mergeAt' i=(do
 let u <-get
 let (some (sa,m,pw),some (sb,n,_)):=((pendingOf u)[i]?,(pendingOf u)[i+1]?) | unsupported "internal:list.sort.pending"
 set (setPending u (((pendingOf u).setIfInBounds i (sa,m+n,pw)).eraseIdxIfInBounds (i+1)))
 let some k <-fJ false (<-elem' (arrOf u) sb) (arrOf u) sa m 0|return false
 let (sa,m):=(sa+k,m - k)
 if m == 0 then return true
 let some n <-fJ true (<-elem' (arrOf u) (sa+m - 1)) (arrOf u) sb n (n - 1) | return false
 if n == 0 then return true
 let x:=(arrOf u).extract sa sb
 let y:=(arrOf u).extract sb (sb+n)
 let r <-if m<=n then qP x y else qw x y
 modify λv=>setArr v (r.toList.zipIdx.foldl (λc (p,j)=>c.setIfInBounds (sa+j) p) (arrOf v))
 return (failedOf (<-get)).isNone):=rfl
def wr(xs:Array Keyed)(base:Nat)(r:List Keyed):Array Keyed:=r.zipIdx.foldl (λc (p,j)=>c.setIfInBounds (base+j) p) xs
theorem Ha(base:Nat):∀(r:List Keyed) (n:Nat) (xs:Array Keyed),base+n+r.length<=xs.size->((r.zipIdx n).foldl (λc (p,j)=>c.setIfInBounds (base+j) p) xs).size=xs.size /\ ∀t:Nat,((r.zipIdx n).foldl (λc (p,j)=>c.setIfInBounds (base+j) p) xs)[t]?=if base+n<=t/\t<base+n+r.length then r[t - (base+n)]? else xs[t]?
 | [],n,xs,_=>⟨rfl,λt=>by rw[if_neg (by rw[ad4];lia)];rfl⟩
 | p::r,n,xs,h=>by
  rw[aan]at h;have ih:=Ha base r (n+1) (xs.setIfInBounds (base+n) p) (by rw[acU];lia);rw[List.zipIdx_cons,ad2];refine⟨ih.1.trans acU,λt=>(ih.2 t).trans ?_⟩;rw[aan];by_cases h1:t=base+n
  ·subst h1;rw[if_neg (by lia),if_pos (by lia),abA,Array.getElem?_setIfInBounds_self_of_lt (by lia)];rfl
  by_cases h2:base+(n+1)<=t/\t<base+(n+1)+r.length
  ·rw[if_pos h2,if_pos (by lia),show t - (base+n)=t - (base+(n+1))+1 by lia,acY]
  ·rw[if_neg h2,if_neg (by lia),Array.getElem?_setIfInBounds_ne (by lia)]
theorem yt{xs:Array Keyed}{base:Nat}{r:List Keyed}(h:base+r.length<=xs.size)(t:Nat):(wr xs base r)[t]?=if base<=t/\t<base+r.length then r[t - base]? else xs[t]?:=(Ha base r 0 xs h).2 t
theorem GR{xs:Array Keyed}{base:Nat}{r:List Keyed}(h:base+r.length<=xs.size):(wr xs base r).toList=xs.toList.take base++r++xs.toList.drop (base+r.length):=by
 apply ab9;intro t;have hl:(xs.toList.take base).length=base:=by rw[aaC,aaj];lia
 rw[aaN,yt h];by_cases h1:t<base
 ·rw[if_neg (by lia),aaG,aar (by lia),aa3 h1,aaN]
 by_cases h2:t<base+r.length
 ·rw[if_pos (by lia),aaG,aap (by lia),hl,aar (by lia)]
 ·rw[if_neg (by lia),aap (by rw[aae];lia),aae,hl,ab1,aaN];congr 1;lia
section
variable{prog:Program}{w:World}{A:Around}{E:Value->Shared->Prop}{s:Shared}{a₀:Array Keyed}{κ:KeyKind}{pd:Array (Nat×Nat×Nat)}
theorem Gd{σ:Type}{M:Model}{st st':σ}{Q:PUnit->σ->Prop}(h:Q ⟨⟩ st'):wpS M A E s (set st':StateT σ Sem PUnit) Q st:=by
 unfold wpS;rw[StateT.run_set];exact wpAny_pure ⟨rfl,h⟩
theorem Bk{xs ys:Array Keyed}(h:KeysOf κ ys)(p:xs.Perm ys):KeysOf κ xs:=λq hq=>h q ((acg.mp p).mem_iff.mp hq)
theorem DN{xs:Array Keyed}(h:KeysOf κ xs){i:Nat}(hi:i<xs.size):∃a,κ.keyOf xs[i].1=some a:=h _ (aaT _)
theorem wF{xs:Array Keyed}{lo n:Nat}(h:Sd κ xs lo (lo+n))(hn:lo+n<=xs.size):((xs.toList.drop lo).take n).Pairwise (kl κ):=by
 refine aaB.mpr λi j hi hj hij=>?_;rw[aaC,abe,aaj]at hi hj;rw[acb,aca,aaX,acb,aca,aaX];have q:=h (lo+i) (lo+j) (by lia) (by lia) (by lia);rw[bK (show lo+i<xs.size by lia),bK (show lo+j<xs.size by lia)]at q;exact q
theorem zf{st:SortSt}{i sa m sb n pw QF:Nat}{Q:Bool->SortSt->Prop}(hO:κ.OneLt)(h0:KeysOf κ a₀)(hB:TB a₀ pd st)(h1:pd[i]?=some (sa,m,pw))(h2:pd[i+1]?=some (sb,n,QF))(hsb:sb=sa+m)(hm:1<=m)(hn:1<=n)(hz:sb+n<=a₀.size)(s1:Sd κ (arrOf st) sa sb)(s2:Sd κ (arrOf st) sb (sb+n))
  (h:∀st',TB a₀ ((pd.setIfInBounds i (sa,m+n,pw)).eraseIdxIfInBounds (i+1)) st'->Sd κ (arrOf st') sa (sb+n)->(∀k:Nat,k<sa\/sb+n<=k->(arrOf st')[k]?=(arrOf st)[k]?)->Q true st'):wpS (model prog w) A E s (mergeAt' i) Q st:=by
 have hsz:=hB.size;have hK:KeysOf κ (arrOf st):=Bk h0 hB.perm;rw[xP];refine wpS_bind (wpS_get ?_);dsimp only;rw[hB.pend,h1,h2];dsimp only;refine wpS_bind (Gd ?_);have Ly:TB a₀ ((pd.setIfInBounds i (sa,m+n,pw)).eraseIdxIfInBounds (i+1)) (setPending st ((pd.setIfInBounds i (sa,m+n,pw)).eraseIdxIfInBounds (i+1))):=⟨hB.perm,hB.kind,hB.failed,rfl⟩;refine wpS_bind (aY (show sb<(arrOf st).size by lia) (wpS_bind (iT hO Ly.kind hK (DN hK (by lia)) (by rw[<-hsb];exact s1) (by lia) (by lia) λk hk1 hk2 hk3=>?_)));dsimp only;have ek:ky κ ((arrOf st)[sb]'(by omega))=KK κ (arrOf st) sb:=(bK _).symm;rw[ek]at hk2 hk3;have lowL:∀t,sa<=t->t<sa+k->κ.kle (KK κ (arrOf st) t) (KK κ (arrOf st) sb):=λt a b=>by
  have q:=hk2 (t - sa) (by lia)
  rwa [show sa+(t - sa)=t by lia]at q
 have upL:∀t,sa+k<=t->t<sb->κ.klt (KK κ (arrOf st) sb) (KK κ (arrOf st) t):=λt a b=>by
  have q:=hk3 (t - sa) (by lia) (by lia)
  rwa [show sa+(t - sa)=t by lia]at q
 refine aU (λc=>wpS_pure (h _ Ly (λt u a b d=>?_) λt _=>rfl)) λc=>?_
 ·have c:m - k=0:=beq_iff_eq.mp c;by_cases u1:u<sb
  ·exact s1 t u a b u1
  by_cases t1:t<sb
  ·exact KeyOrd.kle_trans (lowL t a (by lia)) (s2 sb u (aad _) (by lia) d)
  ·exact s2 t u (by lia) b d
 have c:m - k≠0:=λe=>c (beq_iff_eq.mpr e);refine wpS_bind (aY (show sa+k+(m - k) - 1<(arrOf st).size by lia) (wpS_bind (fU hO Ly.kind hK (DN hK (by lia)) s2 (by lia) (by lia) λl hl1 hl2 hl3=>?_)));dsimp only;have el:ky κ ((arrOf st)[sa+k+(m - k) - 1]'(by omega))=KK κ (arrOf st) (sb - 1):=by
  rw[<-bK];congr 1;lia
 rw[el]at hl2 hl3;have lowR:∀t,sb<=t->t<sb+l->κ.klt (KK κ (arrOf st) t) (KK κ (arrOf st) (sb - 1)):=λt a b=>by
  have q:=hl2 (t - sb) (by lia)
  rwa [show sb+(t - sb)=t by lia]at q
 have Vz:∀t,sb+l<=t->t<sb+n->κ.kle (KK κ (arrOf st) (sb - 1)) (KK κ (arrOf st) t):=λt a b=>by
  have q:=hl3 (t - sb) (by lia) (by lia)
  rwa [show sb+(t - sb)=t by lia]at q
 refine aU (λc=>wpS_pure (h _ Ly (λt u a b d=>?_) λt _=>rfl)) λc2=>?_
 ·have c:l=0:=beq_iff_eq.mp c;by_cases u1:u<sb
  ·exact s1 t u a b u1
  by_cases t1:t<sb
  ·exact KeyOrd.kle_trans (s1 t (sb - 1) a (by lia) (by lia)) (Vz u (by lia) d)
  ·exact s2 t u (by lia) b d
 have c2:l≠0:=λe=>c2 (beq_iff_eq.mpr e);have xsz:((arrOf st).extract (sa+k) sb).size=m - k:=by rw[adC];lia
 have ysz:((arrOf st).extract sb (sb+l)).size=l:=by rw[adC];lia
 have xl:((arrOf st).extract (sa+k) sb).toList=((arrOf st).toList.drop (sa+k)).take (m - k):=by
  rw[abL,abu,show sb - (sa+k)=m - k by lia]
 have yl:((arrOf st).extract sb (sb+l)).toList=((arrOf st).toList.drop sb).take l:=lH _ _ _;have sx:((arrOf st).extract (sa+k) sb).toList.Pairwise (kl κ):=by
  rw[xl];exact wF (λt u a b d=>s1 t u (by lia) b (by lia)) (by lia)
 have sy:((arrOf st).extract sb (sb+l)).toList.Pairwise (kl κ):=by
  rw[yl];exact wF (λt u a b d=>s2 t u a b (by lia)) (by lia)
 have memx:∀z∈((arrOf st).extract (sa+k) sb).toList,∃t,sa+k<=t/\t<sb/\ky κ z=KK κ (arrOf st) t/\z∈(arrOf st).toList:=λz hz=>by
  rw[xl]at hz;obtain⟨d,hd,hd',rfl⟩:=iJ hz;exact⟨sa+k+d,by lia,by lia,(bK hd').symm,aaT _⟩
 have memy:∀z∈((arrOf st).extract sb (sb+l)).toList,∃t,sb<=t/\t<sb+l/\ky κ z=KK κ (arrOf st) t/\z∈(arrOf st).toList:=λz hz=>by
  rw[yl]at hz;obtain⟨d,hd,hd',rfl⟩:=iJ hz;exact⟨sb+d,by lia,by lia,(bK hd').symm,aaT _⟩
 have kx:KeysOf κ ((arrOf st).extract (sa+k) sb):=λz hz=>hK z (memx z hz).choose_spec.2.2.2;have VB:KeysOf κ ((arrOf st).extract sb (sb+l)):=λz hz=>hK z (memy z hz).choose_spec.2.2.2;have y0:ky κ (((arrOf st).extract sb (sb+l))[0]'(by omega))=KK κ (arrOf st) sb:=by
  rw[adb];exact(bK (by lia)).symm
 have xlast:ky κ (((arrOf st).extract (sa+k) sb)[((arrOf st).extract (sa+k) sb).size - 1]'(by omega))=KK κ (arrOf st) (sb - 1):=by
  rw[adb,<-bK];congr 1;lia
 have hf:∀z∈((arrOf st).extract (sa+k) sb).toList,kl κ (((arrOf st).extract sb (sb+l))[0]'(by omega)) z:=λz hz=>by
  obtain⟨t,t1,t2,e,_⟩:=memx z hz;unfold kl;rw[y0,e];exact KeyOrd.kle_of_klt (upL t t1 t2)
 have hl:∀z∈((arrOf st).extract sb (sb+l)).toList,kl κ z (((arrOf st).extract (sa+k) sb)[((arrOf st).extract (sa+k) sb).size - 1]'(by omega)):=λz hz=>by
  obtain⟨t,t1,t2,e,_⟩:=memy z hz;unfold kl;rw[xlast,e];exact KeyOrd.kle_of_klt (lowR t t1 t2)
 have fin:∀(r:Array Keyed) (st':SortSt),cH (setPending st ((pd.setIfInBounds i (sa,m+n,pw)).eraseIdxIfInBounds (i+1))) st'->Fin (kl κ) (((arrOf st).extract (sa+k) sb).toList++((arrOf st).extract sb (sb+l)).toList) r.toList ->
   wpS (model prog w) A E s (do
    modify λv=>setArr v (wr (arrOf v) (sa+k) r.toList)
    return (failedOf (<-get)).isNone) Q st':=by
  intro r st' hg hF;have hrl:r.toList.length=m - k+l:=by rw[hF.1.length_eq,aae,aaj,aaj,xsz,ysz]
  have ea:arrOf st'=arrOf st:=hg.arr;have hfit:sa+k+r.toList.length<=(arrOf st).size:=by lia
  refine wpS_bind (wpS_modify (wpS_bind (wpS_get ?_)));have e3:failedOf (setArr st' (wr (arrOf st') (sa+k) r.toList))=none:=hg.failed.trans hB.failed;rw[e3];refine wpS_pure (h _ ⟨?_,hg.kind.trans hB.kind,e3,hg.pend⟩ ?_ ?_)
  ·show (wr (arrOf st') (sa+k) r.toList).Perm a₀;rw[ea];refine Array.Perm.trans (acg.mpr ?_) hB.perm;rw[GR hfit,hrl];have e4:(arrOf st).toList=(arrOf st).toList.take (sa+k)++(((arrOf st).extract (sa+k) sb).toList++((arrOf st).extract sb (sb+l)).toList)++(arrOf st).toList.drop (sa+k+(m - k+l)):=by
    rw[xl,yl,aaG]
    conv=>lhs;rw[<-aa6 (sa+k) (arrOf st).toList]
    congr 1
    conv=>lhs;rw[<-aa6 (m - k+l) ((arrOf st).toList.drop (sa+k))]
    rw[acO,ac0,acO,show sa+k+(m - k)=sb by lia]
   conv=>rhs;rw[e4]
   exact((aek _).append hF.1).append (aek _)
  ·have VD:∀t,KK κ (wr (arrOf st) (sa+k) r.toList) t=if ht:sa+k<=t/\t<sb+l then ky κ (r.toList[t - (sa+k)]'(by omega))else KK κ (arrOf st) t:=λt=>by
    have g:=yt hfit t;by_cases ht:sa+k<=t/\t<sb+l
    ·rw[dif_pos ht];rw[if_pos (by lia),aac (by lia)]at g;unfold KK ky;rw[g]
    ·rw[dif_neg ht];rw[if_neg (by lia)]at g;exact KK_congr g
   have memr:∀z∈r.toList,∃t,sa+k<=t/\t<sb+l/\ky κ z=KK κ (arrOf st) t:=λz hz=>by
    rcases aaK.mp (hF.1.mem_iff.mp hz)with hz|hz
    ·obtain⟨t,t1,t2,e,_⟩:=memx z hz;exact⟨t,t1,by lia,e⟩
    ·obtain⟨t,t1,t2,e,_⟩:=memy z hz;exact⟨t,by lia,t2,e⟩
   have ahead:∀t,sa<=t->t<sa+k -> ∀u,sa+k<=u->u<sb+n->κ.kle (KK κ (arrOf st) t) (KK κ (arrOf st) u):=λt a b u c d=>by
    by_cases u1:u<sb
    ·exact s1 t u a (by lia) u1
    ·exact KeyOrd.kle_trans (lowL t a b) (s2 sb u (aad _) (by lia) d)
   have behind:∀t,sa+k<=t->t<sb+l -> ∀u,sb+l<=u->u<sb+n->κ.kle (KK κ (arrOf st) t) (KK κ (arrOf st) u):=λt a b u c d=>by
    by_cases t1:t<sb
    ·exact KeyOrd.kle_trans (s1 t (sb - 1) (by lia) (by lia) (by lia)) (Vz u c d)
    ·exact s2 t u (by lia) (by lia) d
   show Sd κ (wr (arrOf st') (sa+k) r.toList) sa (sb+n);rw[ea];intro t u a b d;rw[VD,VD];by_cases tr:sa+k<=t/\t<sb+l
   ·rw[dif_pos tr];by_cases ur:sa+k<=u/\u<sb+l
    ·rw[dif_pos ur];by_cases e:t=u
     ·subst e;exact KeyOrd.kle_refl _
     ·exact aaB.mp hF.2 (t - (sa+k)) (u - (sa+k)) (by lia) (by lia) (by lia)
    ·rw[dif_neg ur];obtain⟨v,v1,v2,e⟩:=memr _ (aaP (show t - (sa+k)<r.toList.length by lia));rw[e];exact behind v v1 v2 u (by lia) d
   ·rw[dif_neg tr];by_cases ur:sa+k<=u/\u<sb+l
    ·rw[dif_pos ur];obtain⟨v,v1,v2,e⟩:=memr _ (aaP (show u - (sa+k)<r.toList.length by lia));rw[e];exact ahead t a (by lia) v v1 (by lia)
    ·rw[dif_neg ur];by_cases t1:t<sa+k
     ·by_cases u1:u<sa+k
      ·exact s1 t u a b (by lia)
      ·exact ahead t a t1 u (by lia) d
     ·exact s2 t u (by lia) b d
  ·intro t ht;show (wr (arrOf st') (sa+k) r.toList)[t]?=_;rw[ea,yt hfit,if_neg (by lia)]
 by_cases hle:m - k<=l
 ·rw[if_pos hle];exact wpS_bind (zq hO Ly.kind kx VB sx sy (by lia) (by lia) hf hl fin)
 ·rw[if_neg hle];exact wpS_bind (yS hO Ly.kind kx VB sx sy (by lia) (by lia) hf hl fin)
end
set_option autoImplicit false
def Lay:Nat->List (Nat×Nat×Nat)->Nat->Prop
 | s,[],e=>s=e
 | s,x::r,e=>s=x.1/\1<=x.2.1/\Lay (x.1+x.2.1) r e
theorem mX:∀{P R:List (Nat×Nat×Nat)} {s e:Nat},Lay s (P++R) e ↔ ∃m,Lay s P m/\Lay m R e
 | [],R,s,e=>⟨λh=>⟨s,rfl,h⟩,λ⟨m,h1,h2⟩=>by cases h1;exact h2⟩
 | x::P,R,s,e=>by
  constructor
  ·rintro⟨h1,h2,h3⟩;obtain⟨m,h4,h5⟩:=mX.mp h3;exact⟨m,⟨h1,h2,h4⟩,h5⟩
  ·rintro⟨m,⟨h1,h2,h4⟩,h5⟩;exact⟨h1,h2,mX.mpr ⟨m,h4,h5⟩⟩
theorem gR:∀{R:List (Nat×Nat×Nat)} {s e:Nat},Lay s R e->s+R.length<=e /\ ∀x∈R,s<=x.1/\x.1+x.2.1<=e
 | [],s,e,h=>⟨ac8 h,λx hx=>by cases hx⟩
 | y::R,s,e,h=>by
  obtain⟨h1,h2,h3⟩:=h;obtain⟨g1,g2⟩:=gR h3;refine⟨by rw[aan];lia,λx hx=>?_⟩;rcases aaA.mp hx with rfl|hx
  ·lia
  ·have:=g2 x hx;lia
structure Runs(κ:KeyKind)(xs:Array Keyed)(pd:Array (Nat×Nat×Nat))(lo:Nat):Prop where
 lay:Lay 0 pd.toList lo
 sd:∀x∈pd.toList,Sd κ xs x.1 (x.1+x.2.1)
theorem jV{κ:KeyKind}{xs ys:Array Keyed}{lo hi:Nat}(h:Sd κ xs lo hi)(e:∀k:Nat,lo<=k->k<hi->ys[k]?=xs[k]?):Sd κ ys lo hi:=λi j a b c=>by
 rw[KK_congr (e i a (by lia)),KK_congr (e j (by lia) c)];exact h i j a b c
theorem Runs.low{κ:KeyKind}{xs ys:Array Keyed}{pd:Array (Nat×Nat×Nat)}{lo:Nat}(h:Runs κ xs pd lo)(e:Mg lo xs ys):Runs κ ys pd lo:=
 ⟨h.lay,λx hx=>jV (h.sd x hx) λk _ hk=>e k (by have:=(gR h.lay).2 x hx;lia)⟩
theorem Runs.push{κ:KeyKind}{xs:Array Keyed}{pd:Array (Nat×Nat×Nat)}{lo n p:Nat}(h:Runs κ xs pd lo)(hn:1<=n)(hs:Sd κ xs lo (lo+n)):Runs κ xs (pd.push (lo,n,p)) (lo+n):=by
 refine⟨by rw[abr];exact mX.mpr ⟨lo,h.lay,rfl,hn,rfl⟩,λx hx=>?_⟩;rw[abr]at hx;rcases aaK.mp hx with hx|hx
 ·exact h.sd x hx
 ·rw[aal.mp hx];exact hs
theorem w5:∀{R R':List (Nat×Nat×Nat)} {s e:Nat},R.map (λx=>(x.1,x.2.1))=R'.map (λx=>(x.1,x.2.1))->Lay s R e->Lay s R' e
 | [],[],_,_,_,h=>h
 | [],_::_,_,_,h,_=>by cases h
 | _::_,[],_,_,h,_=>by cases h
 | x::R,y::R',s,e,h,l=>by
  rw[aaz,aaz]at h;injection h with h1 h2
  injection h1 with h3 h4
  obtain⟨l1,l2,l3⟩:=l;rw[h3]at l1 l3;rw[h4]at l2 l3;exact⟨l1,l2,w5 h2 l3⟩
theorem Runs.same{κ:KeyKind}{xs:Array Keyed}{pd Lh:Array (Nat×Nat×Nat)}{lo:Nat}(h:Runs κ xs pd lo)(e:pd.toList.map (λx=>(x.1,x.2.1))=Lh.toList.map (λx=>(x.1,x.2.1))):Runs κ xs Lh lo:=by
 refine⟨w5 e h.lay,λx hx=>?_⟩;have hm:(x.1,x.2.1)∈pd.toList.map (λx=>(x.1,x.2.1)):=by
  rw[e];exact aaE.mpr ⟨x,hx,rfl⟩
 obtain⟨y,hy,e2⟩:=aaE.mp hm;injection e2 with e3 e4
 have q:=h.sd y hy;rw[e3,e4]at q;exact q
theorem Hq{c:Prop}[Decidable c]{n:Nat}(h:¬n<=1):(if c then n - 2 - 1 else n - 2)+1<n:=by
 split <;> lia
theorem wV{α β:Type}(l:List α)(i:Nat)(f:α->α)(g:α->β)(h:∀x,g (f x)=g x):(l.modify i f).map g=l.map g:=by
 apply ab9;intro t;rw[aag,aag,List.getElem?_modify];cases l[t]? with
 | none=>rfl
 | some x =>
  by_cases e:i=t
  ·simp[e,h]
  ·simp[e]
section
variable{prog:Program}{w:World}{A:Around}{E:Value->Shared->Prop}{s:Shared}{a₀:Array Keyed}{κ:KeyKind}{pd:Array (Nat×Nat×Nat)}
theorem ji{st:SortSt}{i lo:Nat}{Q:Bool->SortSt->Prop}(hO:κ.OneLt)(h0:KeysOf κ a₀)(hB:TB a₀ pd st)(hR:Runs κ (arrOf st) pd lo)(hi:i+1<pd.size)(hlo:lo<=a₀.size)
  (h:∀st' Lh,TB a₀ Lh st'->Runs κ (arrOf st') Lh lo->Lh.size+1=pd.size->(∀k:Nat,lo<=k->(arrOf st')[k]?=(arrOf st)[k]?)->Q true st'):wpS (model prog w) A E s (mergeAt' i) Q st:=by
 obtain⟨⟨sa,m,pw⟩,e1⟩:∃x,pd[i]?=some x:=⟨_,getElem?_pos pd i (by lia)⟩;obtain⟨⟨sb,n,QF⟩,e2⟩:∃x,pd[i+1]?=some x:=⟨_,getElem?_pos pd (i+1) hi⟩;have hl:pd.toList=pd.toList.take i++(sa,m,pw)::(sb,n,QF)::pd.toList.drop (i+2):=by
  have g1:pd.toList[i]?=some (sa,m,pw):=by rw[aaN];exact e1
  have g2:pd.toList[i+1]?=some (sb,n,QF):=by rw[aaN];exact e2
  have f1:=aab.mp g1;have f2:=aab.mp g2;obtain⟨f1,f1'⟩:=f1;obtain⟨f2,f2'⟩:=f2
  conv=>lhs;rw[<-aa6 i pd.toList]
  rw[abK f1,f1',abK f2,f2']
 have hlay:=hR.lay;rw[hl]at hlay;obtain⟨q0,l1,l2,l3,l4,l5,l6⟩:=mX.mp hlay;dsimp only at l2 l3 l4 l5 l6;have b1:=gR l1;have b2:=gR l6;have mem1:(sa,m,pw)∈pd.toList:=by rw[hl];exact aas _ aay
 have mem2:(sb,n,QF)∈pd.toList:=by rw[hl];exact aas _ (aaw _ aay)
 have d1:=hR.sd _ mem1;have d2:=hR.sd _ mem2;dsimp only at d1 d2;refine zf hO h0 hB e1 e2 l4.symm l3 l5 (by have:=b2.1;lia) (by rw[<-l4];exact d1) d2 λst' hB' hs' hk'=>?_;have hp:((pd.setIfInBounds i (sa,m+n,pw)).eraseIdxIfInBounds (i+1)).toList=pd.toList.take i++(sa,m+n,pw)::pd.toList.drop (i+2):=by
  have hli:(pd.toList.take i).length=i:=by rw[aaC,aaj];lia
  rw[Array.toList_eraseIdxIfInBounds,Array.toList_setIfInBounds]
  conv=>lhs;rw[hl]
  rw[List.set_append_right _ _ (by lia),hli,abA,List.set_cons_zero,List.eraseIdx_append_of_length_le (by lia),hli,abl];rfl
 refine h st' _ hB' ⟨?_,λx hx=>?_⟩ ?_ λk hk=>hk' k (.inr (by have:=b2.1;lia))
 ·rw[hp];refine mX.mpr ⟨q0,l1,l2,by show 1<=m+n;lia,?_⟩;show Lay (sa+(m+n)) _ lo;rw[show sa+(m+n)=sb+n by lia];exact l6
 ·rw[hp]at hx;rcases aaK.mp hx with hx|hx
  ·have q:=hR.sd x (by rw[hl];exact aa0 _ hx);exact jV q λk _ hk2=>hk' k (.inl (by have:=b1.2 x hx;lia))
  ·rcases aaA.mp hx with rfl|hx
   ·show Sd κ (arrOf st') sa (sa+(m+n));rw[show sa+(m+n)=sb+n by lia];exact hs'
   ·have q:=hR.sd x (by rw[hl];exact aas _ (aaw _ (aaw _ hx)));exact jV q λk hk1 _=>hk' k (.inr (by have:=b2.2 x hx;lia))
 ·have:=congrArg abC hp;rw[aaj,aae,aaC,aan,abe,aaj]at this;lia
theorem Et{xs:Array Keyed}{lo n:Nat}(h:Mz κ xs lo n):Sd κ xs lo (lo+n):=λi j a b c=>by
 have q:=h (i - lo) (j - lo) (by lia) (by lia)
 rwa [show lo+(i - lo)=i by lia,show lo+(j - lo)=j by lia]at q
theorem wI{st:SortSt}{Q:Unit->SortSt->Prop}(hO:κ.OneLt)(h0:KeysOf κ a₀)(hB:TB a₀ #[] st)(h2:2<=a₀.size)
  (h:∀st',(arrOf st').Perm a₀->failedOf st'=none->SortedToK κ (arrOf st') a₀.size->Q () st'):wpS (model prog w) A E s sortRuns' Q st:=by
 rw[sortRuns'_eq];refine wpS_bind (wpS_get ?_);dsimp only;rw[hB.size];refine wpS_bind (wpS_mono (wpS_forRange (I:=λx c st'=>∃lo pd,c=(none,lo)/\TB a₀ pd st'/\Runs κ (arrOf st') pd lo/\x<=lo/\lo<=a₀.size) (Q:=λc st'=>∃pd,c=(none,a₀.size)/\TB a₀ pd st'/\Runs κ (arrOf st') pd a₀.size) ?_ ?_ ⟨0,#[],rfl,hB,⟨rfl,λx hx=>by cases hx⟩,aad _,aaq _⟩) ?_)
 ·rintro x c st1 _ hx ⟨lo,pd,rfl,Ly,Pn,Ow,hlo⟩;dsimp only;by_cases hge:lo >= a₀.size
  ·rw[if_pos hge];have:lo=a₀.size:=by lia
   subst this;exact wpS_pure ⟨pd,rfl,Ly,Pn⟩
  rw[if_neg hge];refine wpS_bind (wH hO h0 Ly (by lia) (by lia) λm st2 hB2 hL2 hm1 hm2 hs2=>?_);dsimp only;have Nm:=Pn.low hL2;by_cases hmr:m<minRun' a₀.size a₀.size 0
  ·rw[if_pos hmr];generalize minRun' a₀.size a₀.size 0=mr at hmr ⊢;refine wpS_bind (wpS_lift (wpAny_rule ⟨rfl,?_⟩));refine wpS_bind (rW hO h0 hB2 (by lia) (by lia) hs2 λst3 hB3 S9 ha3=>?_);rw[if_neg (by decide)];have Pq:=Nm.low S9;have hs3:=Et ha3;obtain⟨n,hn,QG,Ro⟩:∃n,min (a₀.size - lo) mr=n/\1<=n/\lo+n<=a₀.size:=⟨_,rfl,by lia,by lia⟩;rw[hn]at hs3 ⊢;refine wpS_bind (wpS_get ?_);rw[hB3.pend];cases hbk:pd.back? with
   | none =>
    dsimp only;exact wpS_bind (wpS_modify (wpS_pure ⟨lo+n,pd.push (lo,n,0),rfl,⟨hB3.perm,hB3.kind,hB3.failed,by show (pendingOf st3).push _=_;rw[hB3.pend]⟩,Pq.push QG hs3,by lia,by lia⟩))
   | some t =>
    obtain⟨s1,n1,p1⟩:=t;dsimp only;refine wpS_bind (wpS_mono (wpS_forRange (I:=λ_ c st'=>c=(none,()) /\ ∃Lh,TB a₀ Lh st'/\Runs κ (arrOf st') Lh lo/\Sd κ (arrOf st') lo (lo+n)) (Q:=λc st'=>c=(none,()) /\ ∃Lh,TB a₀ Lh st'/\Runs κ (arrOf st') Lh lo/\Sd κ (arrOf st') lo (lo+n)) ?_ ?_ ⟨rfl,pd,hB3,Pq,hs3⟩) ?_)
    ·rintro y c MK _ _ ⟨rfl,Lh,Mm,Nx,Ny⟩;refine wpS_bind (wpS_get ?_);rw[Mm.pend];by_cases hp:Lh.size > 1
     ·rw[if_pos hp,getElem?_pos Lh (Lh.size - 2) (by lia)];generalize Lh[Lh.size - 2]=tt;obtain⟨a1,a2,older⟩:=tt;dsimp only;refine aU (λ_=>wpS_pure ⟨rfl,Lh,Mm,Nx,Ny⟩) λ_=>wpS_bind (ji hO h0 Mm Nx (by lia) hlo λNg Tf Tg Th _ Ti=>?_);rw[if_neg (by decide)];exact wpS_pure ⟨rfl,Tf,Tg,Th,jV Ny λk hk _=>Ti k hk⟩
     ·rw[if_neg hp];exact wpS_pure ⟨rfl,Lh,Mm,Nx,Ny⟩
    ·rintro c MK hh;exact hh
    ·rintro c MK ⟨rfl,Lh,Mm,Nx,Ny⟩;dsimp only;refine wpS_bind (wpS_modify (wpS_bind (wpS_modify (wpS_pure ⟨lo+n,_,rfl,⟨Mm.perm,Mm.kind,Mm.failed,rfl⟩,?_,by lia,by lia⟩))));show Runs κ (arrOf MK) (((pendingOf MK).modify ((pendingOf MK).size - 1) _).push (lo,n,0)) (lo+n);rw[Mm.pend];refine Runs.push (Nx.same ?_) QG Ny;rw[adp];refine(wV _ _ _ _ ?_).symm;exact λ_=>rfl
  ·rw[if_neg hmr];have hB3:=hB2;have Pq:=Nm;have hs3:=Et hs2;have QG:=hm1;refine wpS_bind (wpS_get ?_);rw[hB3.pend];cases hbk:pd.back? with
   | none =>
    dsimp only;exact wpS_bind (wpS_modify (wpS_pure ⟨lo+m,pd.push (lo,m,0),rfl,⟨hB3.perm,hB3.kind,hB3.failed,by show (pendingOf st2).push _=_;rw[hB3.pend]⟩,Pq.push QG hs3,by lia,by lia⟩))
   | some t =>
    obtain⟨s1,n1,p1⟩:=t;dsimp only;refine wpS_bind (wpS_mono (wpS_forRange (I:=λ_ c st'=>c=(none,()) /\ ∃Lh,TB a₀ Lh st'/\Runs κ (arrOf st') Lh lo/\Sd κ (arrOf st') lo (lo+m)) (Q:=λc st'=>c=(none,()) /\ ∃Lh,TB a₀ Lh st'/\Runs κ (arrOf st') Lh lo/\Sd κ (arrOf st') lo (lo+m)) ?_ ?_ ⟨rfl,pd,hB3,Pq,hs3⟩) ?_)
    ·rintro y c MK _ _ ⟨rfl,Lh,Mm,Nx,Ny⟩;refine wpS_bind (wpS_get ?_);rw[Mm.pend];by_cases hp:Lh.size > 1
     ·rw[if_pos hp,getElem?_pos Lh (Lh.size - 2) (by lia)];generalize Lh[Lh.size - 2]=tt;obtain⟨a1,a2,older⟩:=tt;dsimp only;refine aU (λ_=>wpS_pure ⟨rfl,Lh,Mm,Nx,Ny⟩) λ_=>wpS_bind (ji hO h0 Mm Nx (by lia) hlo λNg Tf Tg Th _ Ti=>?_);rw[if_neg (by decide)];exact wpS_pure ⟨rfl,Tf,Tg,Th,jV Ny λk hk _=>Ti k hk⟩
     ·rw[if_neg hp];exact wpS_pure ⟨rfl,Lh,Mm,Nx,Ny⟩
    ·rintro c MK hh;exact hh
    ·rintro c MK ⟨rfl,Lh,Mm,Nx,Ny⟩;dsimp only;refine wpS_bind (wpS_modify (wpS_bind (wpS_modify (wpS_pure ⟨lo+m,_,rfl,⟨Mm.perm,Mm.kind,Mm.failed,rfl⟩,?_,by lia,by lia⟩))));show Runs κ (arrOf MK) (((pendingOf MK).modify ((pendingOf MK).size - 1) _).push (lo,m,0)) (lo+m);rw[Mm.pend];refine Runs.push (Nx.same ?_) QG Ny;rw[adp];refine(wV _ _ _ _ ?_).symm;exact λ_=>rfl
 ·rintro c st1 ⟨lo,pd,rfl,Ly,Pn,Ow,hlo⟩;have:lo=a₀.size:=by lia
  subst this;exact⟨pd,rfl,Ly,Pn⟩
 ·rintro c st1 ⟨pd,rfl,Ly,Pn⟩;dsimp only;refine wpS_bind (wpS_mono (wpS_forRange (I:=λx c st'=>c=(none,()) /\ ∃pd,TB a₀ pd st'/\Runs κ (arrOf st') pd a₀.size/\pd.size+x<=a₀.size) (Q:=λc st'=>c=(none,()) /\ ∃pd,TB a₀ pd st'/\Runs κ (arrOf st') pd a₀.size/\pd.size<=1) ?_ ?_ ⟨rfl,pd,Ly,Pn,?_⟩) ?_)
  ·rintro x c st2 _ hx ⟨rfl,PQ,hB2,Nm,hs2⟩;refine wpS_bind (wpS_get ?_);rw[hB2.pend];refine aU (λhp=>wpS_pure ⟨rfl,PQ,hB2,Nm,hp⟩) λhp=>?_;refine wpS_bind (ji hO h0 hB2 Nm (Hq hp) (aad _) λst3 pd3 hB3 Pq Rw _=>?_);rw[if_neg (by decide)];exact wpS_pure ⟨rfl,pd3,hB3,Pq,by lia⟩
  ·rintro c st2 ⟨rfl,PQ,hB2,Nm,hs2⟩;exact⟨rfl,PQ,hB2,Nm,by lia⟩
  ·have:=(gR Pn.lay).1;rw[aaj]at this;lia
  ·rintro c st2 ⟨rfl,PQ,hB2,Nm,hs2⟩;refine wpS_pure (h st2 hB2.perm hB2.failed λi j hij hj=>?_);have hlen:PQ.toList.length<=1:=by rw[aaj];exact hs2
   have hl:=Nm.lay;have hd:=Nm.sd
   match hpl:PQ.toList,hlen with
   | [],_ =>
    rw[hpl]at hl;have:0=a₀.size:=hl;lia
   | [y],_ =>
    rw[hpl]at hl hd;obtain⟨y1,y2,y3⟩:=hl;have y3:y.1+y.2.1=a₀.size:=y3;exact hd y aay i j (by lia) hij (by lia)
end
set_option autoImplicit false
section
variable{prog:Program}{w:World}{A:Around}{E:Value->Shared->Prop}{s:Shared}
theorem Bp{κ:PyProof.Rows.KeyKind}(hO:κ.OneLt){l:Addr}{vs:List Value}{n:Nat}{Q:PySem.Fin->Shared->Prop}(hl:s.heap.get? l=some (seqObj "list" vs.toArray n))(hK:KeysOf κ (pairsOf vs))(hT:∀u v r,vs=u::v::r->keyKind' (u::v::r).toArray=pure oneType')(hz:vs.length<=100000)
  (h:∀z:SortSt,(arrOf z).Perm (pairsOf vs)->SortedToK κ (arrOf z) (pairsOf vs).size->Q (.done (.ret .none)) { s with heap:=sortedHeap s.heap l vs ((arrOf z).map (·.2)) }):wpAny (model prog w) A (Builtin.«list.sort» ⟨[.ref l],[]⟩) Q E s:=by
 have hll:=Heap.lt_size hl;have VF:vs.length<=sizeLine:=by rw[sizeLine_eq];lia
 obtain⟨e,he⟩:∃e,(s.heap.update l (Obj.mapSeq λ_=>#[])).get? l=some (seqObj "list" #[] e):=⟨_,get?_update_seq hl (λ_=>#[])⟩
 have he2:(((s.heap.update l (Obj.mapSeq λ_=>#[])).push (seqObj "tuple" vs.toArray 0)).push (seqObj "list" #[] 0)).get? l=some (seqObj "list" #[] e):=by
  have z1:l<(s.heap.update l (Obj.mapSeq λ_=>#[])).objs.size:=by rw[Heap.size_update];exact hll
  rw[Heap.get?_push_ne _ _ _ (by rw[size_push'];exact aak (abF z1)),Heap.get?_push_ne _ _ _ (aak z1)];exact he
 rw[list_sort_plain];refine wpAny_bind (listItems_at hl rfl (wpAny_bind (listUpdate_at hl rfl ?_ (by show vs.toArray.size<=sizeLine;rw[aao];exact VF) (by show 0<=_;exact aaq _))));refine wpAny_bind (seqEpoch_at he rfl (wpAny_bind (wpAny_newTuple ?_ (by simpa using VF))));refine wpAny_bind (wpAny_newList (wpAny_holding ?_))
 show wpAny (model prog w) A _ Q E { s with heap:=((s.heap.update l (Obj.mapSeq λ_=>#[])).push (seqObj "tuple" vs.toArray 0)).push (seqObj "list" #[] 0) }
 dsimp only;have hv:vs.toArray.size=vs.length:=by simp
 have fin:∀z:SortSt,(arrOf z).Perm (pairsOf vs)->((arrOf z).map (·.2)).size<=sizeLine+1:=λz hp=>by
  rw[Array.size_map,hp.size_eq,pairsOf_size];lia
 by_cases h2:vs.toArray.size<2
 ·rw[if_pos h2,if_pos h2];refine wpAny_bind (wpAny_pure ?_);rw[StateT.run_pure];refine wpAny_bind (wpAny_pure (wpAny_bind (seqEpoch_at he2 rfl (wpAny_bind (listUpdate_at he2 rfl ?_ (aaq _) (fin (SortSt.mk' general' (vs.toArray.zip vs.toArray) #[] 7 none) (adc _)))))));simp only[bne_self_eq_false,aaV,if_false];refine wpAny_pure (h (SortSt.mk' general' (vs.toArray.zip vs.toArray) #[] 7 none) (adc _) λi j hij hj=>?_);rw[pairsOf_size]at hj;have:i=j:=by lia
  subst this;exact KeyOrd.kle_refl _
 ·rw[if_neg h2,if_neg h2];obtain⟨u,v,r,rfl⟩:∃u v r,vs=u::v::r:=by
   match vs,hv,h2 with
   | [],_,z=>exact absurd (by decide) z
   | [_],_,z=>exact absurd (by show 1<2;decide) z
   | u::v::r,_,_=>exact⟨u,v,r,rfl⟩
  rw[hT _ _ _ rfl];refine wpAny_bind (wpAny_pure (wpAny_bind (wpAny_mono (wI (κ:=κ) hO (a₀:=pairsOf (u::v::r)) (st:=SortSt.mk' oneType' ((u::v::r).toArray.zip (u::v::r).toArray) #[] 7 none)
   (Q:=λ_ z=>(arrOf z).Perm (pairsOf (u::v::r))/\failedOf z=none/\SortedToK κ (arrOf z) (pairsOf (u::v::r)).size) hK ⟨adc _,rfl,rfl,rfl⟩ (by rw[pairsOf_size,aan,aan];lia) λz p f q=>⟨p,f,q⟩) ?_ λ_ _ q=>q)))
  rintro⟨⟨⟩,z⟩ s2 ⟨rfl,hp,hf,hs⟩;dsimp only;refine wpAny_bind (seqEpoch_at he2 rfl (wpAny_bind (listUpdate_at he2 rfl ?_ (aaq _) (fin z hp))));rw[hf];simp only[bne_self_eq_false,aaV,if_false];exact wpAny_pure (h z hp hs)
end
@[reducible] def vG:PyProof.Rows.KeyKind where
 α:=Int
 blt a b:=decide (a<b)
 irrefl a:=decide_eq_false (Int.lt_irrefl a)
 trans a b c h1 h2:=decide_eq_true (Int.lt_trans (of_decide_eq_true h1) (of_decide_eq_true h2))
 negTrans a b c h:=by
  have h:=of_decide_eq_true h;by_cases q:a<b
  ·exact .inl (decide_eq_true q)
  ·exact .inr (decide_eq_true (by lia))
 total a b h1 h2:=by
  have h1:=of_decide_eq_false h1;have h2:=of_decide_eq_false h2;lia
 keyOf v:=match v with | .int n _=>some n|_=>none
 dflt:=0
theorem CG:vG.OneLt:=by
 intro prog w A E s x y a b Q ha hb h;cases x <;> simp only[vG,reduceCtorEq,adJ]at ha;cases y <;> simp only[vG,reduceCtorEq,adJ]at hb;cases ha;cases hb;exact oneLt_int h
theorem Dq(xs:Array Keyed)(i:Nat):KK vG xs i=PyProof.Rows.K xs i:=by
 unfold KK PyProof.Rows.K;cases xs[i]? with
 | none=>rfl
 | some p =>
  obtain⟨x,q⟩:=p;cases x <;> rfl
section
variable{prog:Program}{w:World}{A:Around}{E:Value->Shared->Prop}{s:Shared}
theorem uf{l:Addr}{vs:List Value}{ns:List Int}{n:Nat}{Q:PySem.Fin->Shared->Prop}(hl:s.heap.get? l=some (seqObj "list" vs.toArray n))(hI:IntsAre vs ns)(hz:vs.length<=100000)
  (h:∀(out:Array Value) (ns':List Int),IntsAre out.toList ns'->ns'.Perm ns->ns'.Pairwise (· <= ·)->Q (.done (.ret .none)) { s with heap:=sortedHeap s.heap l vs out }):wpAny (model prog w) A (Builtin.«list.sort» ⟨[.ref l],[]⟩) Q E s:=by
 refine Bp CG hl (λp hp=>?_) (λu v r e=>?_) hz λz hp hs=>?_
 ·obtain⟨m,t,e⟩:=hI.intKeys p hp;exact⟨m,by rw[e]⟩
 ·subst e;exact keyKind_ints hI
 ·have hs':SortedTo (arrOf z) (pairsOf vs).size:=λi j hij hj=>by
   have q:=hs i j hij hj;rw[Dq,Dq]at q;have q:=of_decide_eq_false q;lia
  obtain⟨ns',h1,h2,h3⟩:=sorted_out hI hp hs';exact h _ ns' h1 h2 h3
end
open PySem.Spec
set_option maxRecDepth 100000
section
variable{prog:Program}{w:World}{A:Around}{E:Value->Shared->Prop}{s:Shared}{S:Addr}
theorem wD{ks:List Int}{Q:Value->Shared->Prop}(hh:A.handled=none)(hS:jz (dC w) (intKind prog w) s.heap S ks)
  (h:∀(D:Addr) (h':Heap) d tk (vs:List Value) (ns:List Int) (e:Nat),s.heap.objs.size<=D->(∀b o,s.heap.get? b=some o->h'.get? b=some o)->h'.get? D=some (seqObj "list" vs.toArray e)->IntsAre vs ns->abb ns ks->ns.Pairwise (· <= ·)->ns.length<=4096->Q (.ref D) { s with heap:=h',drawn:=d,toks:=tk }):
  wpAny (model prog w) A (call (.builtin "sorted") [.ref S]) Q E s:=by
 obtain⟨o,es,ep,t,pq,ho,hex,hd,hb,hf,hT,hE⟩:=hS;have hsc:scanBound=4096:=rfl;refine Calls.call_function_entry kind_sorted plain_sorted entry_sorted (args_sorted1 _) ?_;unfold Builtin.«sorted»
 refine wpAny_bind (m:=checkCount "sorted" 1 1 _) (wpAny_pure ?_)
 refine wpAny_bind (xn (by simp[hh]) ⟨ho,hd,hf⟩ hex.1 hb hT λacc h1 d tk ps hp hi hsz hk=>?_);obtain⟨ns,hI,hpn⟩:=Bw hE hp hi;have hlen:acc.toList.length<=4096:=by rw[aaj,hi.1];lia
 refine wpAny_bind (wpAny_newList ?_ (by rw[sizeLine_eq];lia))
 have hoL:(h1.push (seqObj "list" acc.toList.toArray 0)).get? h1.objs.size=some (seqObj "list" acc.toList.toArray 0):=Heap.get?_push_size _ rfl
 refine wpAny_bind (wpAny_holding (wpAny_call_entry slot_list_sort ⟨_,hoL,rfl⟩ entry_list_sort (uf hoL hI (by lia) λout ns' a1 a2 a3=>⟨_,rfl,?_⟩) (args_list_sort _)));refine wpAny_pure ⟨_,rfl,?_⟩;obtain⟨e,he⟩:=sortedHeap_at (out:=out) hoL;refine h h1.objs.size _ d _ out.toList ns' e (aba hsz) (λb o eb=>?_) (by simpa using he) a1 (a2.trans hpn) a3 (by rw[a2.length_eq,<-hI.length];exact hlen);have hlt:=Heap.lt_size (hk _ _ eb);rw[sortedHeap_old (aak hlt) (by rw[Heap.size_push];exact abF hlt)];exact Heap.get?_push_of_some _ (hk _ _ eb)
theorem uI{l:Addr}{vs:List Value}{ns:List Int}{Q:Value->Shared->Prop}(hl:s.heap.IsList l vs.toArray)(hI:IntsAre vs ns)(hz:vs.length<=100000)
  (h:∀(out:Array Value) (ns':List Int),IntsAre out.toList ns'->ns'.Perm ns->ns'.Pairwise (· <= ·)->Q (.ref (s.heap.objs.size+1)) { s with heap:=sortedAll s.heap vs out }):
  wpAny (model prog w) A (call (.builtin "sorted") [.ref l]) Q E s:=by
 have PX:vs.length<=sizeLine:=by rw[sizeLine_eq];lia
 refine Calls.call_function_entry kind_sorted plain_sorted entry_sorted (args_sorted1 _) ?_;unfold Builtin.«sorted»
 refine wpAny_bind (m:=checkCount "sorted" 1 1 _) (wpAny_pure (wpAny_bind (collect_list hl ?_ PX)))
 refine wpAny_bind (wpAny_newList ?_ PX)
 have z:((s.heap.push (seqObj "list" #[] 0)).update s.heap.objs.size (Obj.mapSeq (· ++ vs.toArray))).objs.size=s.heap.objs.size+1:=by rw[Heap.size_update,size_push']
 have g:(((s.heap.push (seqObj "list" #[] 0)).update s.heap.objs.size (Obj.mapSeq (· ++ vs.toArray))).push (seqObj "list" vs.toArray 0)).get? (s.heap.objs.size+1)=some (seqObj "list" vs.toArray 0):=by
  rw[<-z];exact Heap.get?_push_size _ rfl
 show wpAny _ _ _ _ _ { s with heap:=((s.heap.push (seqObj "list" #[] 0)).update s.heap.objs.size (Obj.mapSeq (· ++ vs.toArray))).push (seqObj "list" vs.toArray 0) }
 rw[z];exact wpAny_bind (wpAny_holding (wpAny_call_entry slot_list_sort ⟨_,g,rfl⟩ entry_list_sort (uf g hI hz λout ns' a1 a2 a3=>⟨_,rfl,wpAny_pure ⟨_,rfl,h out ns' a1 a2 a3⟩⟩) (args_list_sort _)))
end
end Tw
namespace L2
open PySem PySem.Spec PyProof.Rows Tw
section
variable{X:Cx}
theorem m8(hc:X.calm=true):gH X (.builtin "sorted") (λxs H Q=>∃(p:Addr) (ks:List Int),xs=[.ref p]/\H p=some (FJ X.prog X.w p ks) /\
  ∀l ms,H l=none->abb ms ks->ms.Pairwise (· <= ·)->Q (.ref l) (upd H l (.lst (ms.map V.int)))):=by
 intro π s σ H xs us Q I r h;obtain⟨p,ks,rfl,hp,q⟩:=h;obtain⟨u,rfl,rx⟩:=vals1 r;cases rx;have hS:jz (dC X.w) (intKind X.prog X.w) s.heap p ks:=(I.hok p _ hp).1;refine wD (I.ok.hd hc) hS λD h' d tk vs ns e hD hk he hI hpm hs hl=>?_;exact⟨.ref D,_,(I.laid (t':=tk) hk hD (show bI X.prog X.w _ h' D (.lst (ns.map V.int))from ⟨by rw[aaa,sizeLine_eq];lia,vs,e,j9 hI,he⟩)).drawnTo d,rfl,q _ _ (I.hok.fresh hD) hpm hs⟩
theorem uD:gH X (.builtin "sorted") (λxs H Q=>∃(p:Addr) (ns:List Int),xs=[.ref p]/\K5 X.K H p (ns.map V.int)/\ns.length<=100000 /\ ∀l ms,H l=none->abb ms ns->ms.Pairwise (· <= ·)->Q (.ref l) (upd H l (.lst (ms.map V.int)))):=by
 intro π s σ H xs us Q I r h;obtain⟨p,ns,rfl,hq,hb,q⟩:=h;obtain⟨u,rfl,rx⟩:=vals1 r;cases rx;obtain⟨its,r',pl,hz⟩:=I.list hq;have hi:=intsAre_of r';have hlen:=hi.length;refine uI pl.isList (by simpa using hi) (by lia) λout ns' a1 a2 a3=>?_;obtain⟨e,he⟩:=sortedAll_at s.heap its out;have hl:ns'.length<=sizeLine:=by
  rw[a2.length_eq,sizeLine_eq];lia
 refine⟨.ref (s.heap.objs.size+1),_,I.laid (t':=s.toks) (λ_ _=>sortedAll_old) (abJ _) (show bI X.prog X.w _ _ _ (.lst (ns'.map V.int))from ⟨by rw[aaa];exact hl,out.toList,e,j9 a1,?_⟩),rfl,q _ _ (I.hok.fresh (abJ _)) a2 a3⟩;rw[he]
end
open PySem.W
section
variable{P:Program}{w:World}{K:PySem.W.Frag}{mg:Str->Option Value}{base:Heap}{x qual:Str}{st:Stmt}{f c Pt:Addr}{fd:FuncData}{N ps:List Str}{k i:Nat}{sp:Sp}{T:pG}{slots:List Nat}{Mt:Addr->List Addr}{pos p1 p2:Pos}
theorem MJ.makerL0(F:MJ K x qual st f fd)(S:aK N ps (δ st))(M:Dh N qual (δ st) T slots Mt)(bm:BMain mg base)(hcode:fd.code=.ref c)(C:CodeHd base c Pt)(len:∀vs H Q E,sp vs H Q E->vs.length=ps.length)
  (hb:μ st=[.Return (some (.Lambda T.params T.body T.scope pos)) p2])
  (h:∀(vs:List V) (H:Hp) (Q:VK) (E:XK),sp vs H Q E->Hg H Pt pos T slots (start N vs) Q):bh P w K mg base K9 (k+1) f fd ps sp:=by
 obtain⟨oc,od,kV,doc,pm,an,cdv,ct,osl,rfl,lk,hcd⟩:=F.ex;obtain rfl:cdv=.ref c:=hcode;refine DR lk hcd S len λA outer s H vs Q E s1 hr hsp I=>?_;rw[hb];exact CQ M bm C I (h vs H Q E hsp)
end
theorem iC:∀{l U:List Int},l.Nodup->(∀z∈l,z∈U)->l.length<=U.length
 | [],_,_,_=>aaq _
 | a::l,U,nd,h=>by
  have ha:=h a aay;have QH:=aa4.mp nd;have q:=iC (l:=l) (U:=U.erase a) QH.2 λz hz=>(adi λe:z=a=>QH.1 (e ▸ hz)).mpr (h z (aaw _ hz));have e:=acV ha;have p:=abZ ha;rw[aan];lia
section
variable{X:Cx}
end
section
variable{X:Cx}
theorem rP:gH X (.builtin "len") (λxs H Q=>∃(p:Addr) (ks:List Int),xs=[.ref p]/\H p=some (FJ X.prog X.w p ks)/\Q (.int (ks.length:Int)) H):=by
 intro π s σ H xs us Q I r h;obtain⟨p,ks,rfl,hp,q⟩:=h;obtain⟨u,rfl,rx⟩:=vals1 r;cases rx;have hS:jz (dC X.w) (intKind X.prog X.w) s.heap p ks:=(I.hok p _ hp).1;obtain⟨o,es,ep,t,ps,ho,hex,hd,hb,hf,_,hE⟩:=hS;have e1:es.size=ks.length:=by
  have h1:=congrArg abC hE.snd;have h2:=hE.fst.length_eq;rw[aaa]at h1 h2;rw[<-h2,h1,aaj]
 have hsb:scanBound=4096:=rfl;refine call_len_set ho hex hd hf (by lia) ?_;exact⟨.int (ks.length:Int),H,I.tok (s.toks+1+1),⟨_,by rw[<-e1]⟩,q⟩
theorem zN{ns:List Int}{U:List Int}(h:∀z∈ns,z∈U):(met (λi=>ns.getD i 0) ns.length).length<=U.length:=
 iC (kh _ _) λz hz=>by
  obtain⟨i,hi,rfl⟩:=(uQ _ _ _).mp hz;refine h _ ?_;show ns.getD i 0∈ns;rw[aaH,aac hi];exact aaP hi
end
end L2
namespace PySem
open Sem (wp)
abbrev dO(h:Heap)(z TI TO:Addr)(f0 f1:Value):Prop:=
 h.get? z=some { cls:=.type "zip",dict:=none,data:=.fields #[f0,f1,.bool false,.ref TI,.ref TO],slots:=#[] }
section
variable{prog:Program}{w:World}{A:Around}{E:Value->Shared->Prop}{s:Shared}
theorem mQ{a:Addr}{Q:Option Obj->Shared->Prop}(h:Q (s.heap.get? a) s):wpAny (model prog w) A (loadIfAlive a) Q E s:=
 λ Γ p hΓ=>by
  unfold loadIfAlive;rw[Sem.wp_loadIfAlive];exact(wpAny_pure h) Γ p hΓ
theorem lu{z TI TO T:Addr}{oT:Obj}{g:Bool}{Q:Bool->Shared->Prop}(hz:dO s.heap z TI TO (rawInt T) (.bool g))(hT:s.heap.get? T=some oT)
  (h:∀h1,dO h1 z TI TO (rawInt T) (.bool true)->Heap.SameBut z s.heap h1->Q false { s with heap:=h1 }):wpAny (model prog w) A (Builtin.SmallTypes.ownedTupleIsFree (.ref z)) Q E s:=by
 unfold Builtin.SmallTypes.ownedTupleIsFree;refine wpAny_bind (wpAny_field hz rfl (x:=rawInt T) rfl ?_);show wpAny _ _ (loadIfAlive (T:Int).toNat >>= _) _ _ _;refine wpAny_bind (mQ ?_);rw[aaD,hT];rw[if_neg (by simp)];refine wpAny_bind (wpAny_field hz rfl (x:=.bool g) rfl ?_);cases g with
 | true =>
  rw[if_neg (by simp)];exact wpAny_pure (h _ hz ⟨rfl,λ_ _=>rfl⟩)
 | false =>
  rw[if_pos (by simp)];exact wpAny_bind (wpAny_setField_rec hz (by simp) λh1 hz1 hs1=>wpAny_pure (h h1 hz1 hs1))
theorem pZ{z TI TO T i1 i2 l1 l2:Addr}{oT:Obj}{g:Bool}{k1 k2:Nat}{xs ys:Array Value}{x y:Value}{Q:Value->Shared->Prop}(D:ZipApart z TI TO i1 i2 l1 l2)
  (hz:dO s.heap z TI TO (rawInt T) (.bool g))(hT:s.heap.get? T=some oT)(hTI:IsPair s.heap TI (.ref i1) (.ref i2))
  (h1:s.heap.IsListIter i1 l1 k1)(h2:s.heap.IsListIter i2 l2 k2)(hl1:s.heap.IsList l1 xs)(hl2:s.heap.IsList l2 ys)(hx:xs[k1]?=some x)(hy:ys[k2]?=some y)
  (hQ:∀h',dO h' z TI TO (rawInt T) (.bool true)->h'.IsListIter i1 l1 (k1+1)->h'.IsListIter i2 l2 (k2+1)->IsPair h' s.heap.objs.size x y ->
   (∀c o,c≠z->c≠i1->c≠i2->s.heap.get? c=some o->h'.get? c=some o)->Q (.ref s.heap.objs.size) { s with heap:=h' }):
  wpAny (model prog w) A (Builtin.«zip.__next__» ⟨[.ref z],[]⟩) (λfin s'=>∃v,fin=.done (.ret v)/\Q v s') E s:=by
 show wpAny _ _ (field (.ref z) 2 >>= _) _ _ _;refine wpAny_bind (wpAny_field hz rfl (x:=.bool false) rfl ?_);show wpAny _ _ (field (.ref z) 3 >>= _) _ _ _;refine wpAny_bind (wpAny_field hz rfl (x:=.ref TI) rfl ?_);refine wpAny_bind (wpAny_seqItems hTI rfl ?_);show wpAny _ _ (Builtin.SmallTypes.ownedTupleIsFree (.ref z) >>= _) _ _ _;refine wpAny_bind (lu hz hT λh₁ VG MN=>?_);simp only[aaV,if_false,adD,aee,adn];refine wpAny_bind (wpAny_bind (wpAny_bind (wpAny_holding ?_)));show wpAny _ _ (Builtin.SmallTypes.nextOf (.ref i1) >>= _) _ _ _;refine wpAny_bind (wpAny_nextOf_list_item (h1.extBut MN.extBut D.i1z) (hl1.extBut MN.extBut D.l1z) hx λh₂ VH Nz=>wpAny_pure ?_);refine wpAny_pure ?_;dsimp only;refine wpAny_bind (wpAny_bind (wpAny_holding ?_));show wpAny _ _ (Builtin.SmallTypes.nextOf (.ref i2) >>= _) _ _ _;refine wpAny_bind (wpAny_nextOf_list_item ((h2.extBut MN.extBut D.i2z).extBut Nz.extBut D.i12.symm) ((hl2.extBut MN.extBut D.l2z).extBut Nz.extBut D.l2i1) hy λh₃ h2₃ P0=>wpAny_pure ?_);refine wpAny_pure (wpAny_pure ?_);show wpAny _ _ (newTuple [x,y] >>= _) _ _ _;refine wpAny_bind (wpAny_newTuple ?_);have hsz:h₃.objs.size=s.heap.objs.size:=by rw[P0.1,Nz.1,MN.1]
 refine wpAny_pure ⟨_,rfl,?_⟩;show Q (.ref h₃.objs.size) _;have hz₃:dO h₃ z TI TO (rawInt T) (.bool true):=P0.extBut _ _ D.i2z.symm (Nz.extBut _ _ D.i1z.symm VG)
 have gp:(h₃.push { cls:=.type "tuple",data:=.seq #[x,y] }).get? h₃.objs.size=some { cls:=.type "tuple",data:=.seq #[x,y] }:=Heap.get?_push_size _ rfl
 rw[hsz]at gp ⊢;refine hQ _ (Heap.get?_push_of_some _ hz₃) ((VH.extBut P0.extBut D.i12).at λo e=>Heap.get?_push_of_some _ e) (h2₃.at λo e=>Heap.get?_push_of_some _ e) gp λc o c1 c3 c4 e=>Heap.get?_push_of_some _ (P0.extBut _ _ c4 (Nz.extBut _ _ c3 (MN.extBut _ _ c1 e)))
theorem rQ{z TI TO T i1 i2 l1 l2:Addr}{oT:Obj}{g:Bool}{k1 k2:Nat}{xs ys:Array Value}{Q:Fin->Shared->Prop}(hh:A.handled=none)(D:ZipApart z TI TO i1 i2 l1 l2)
  (hz:dO s.heap z TI TO (rawInt T) (.bool g))(hT:s.heap.get? T=some oT)(hTI:IsPair s.heap TI (.ref i1) (.ref i2))
  (h1:s.heap.IsListIter i1 l1 k1)(h2:s.heap.IsListIter i2 l2 k2)(hl1:s.heap.IsList l1 xs)(hl2:s.heap.IsList l2 ys)(hend:xs[k1]?=none\/ys[k2]?=none)
  (hE:∀h' e,(∀c o,c≠z->c≠i1->c≠i2->s.heap.get? c=some o->h'.get? c=some o)->(∃o,h'.get? e=some o/\o.cls=.type "StopIteration")->E (.ref e) { s with heap:=h' }):
  wpAny (model prog w) A (Builtin.«zip.__next__» ⟨[.ref z],[]⟩) Q E s:=by
 show wpAny _ _ (field (.ref z) 2 >>= _) _ _ _;refine wpAny_bind (wpAny_field hz rfl (x:=.bool false) rfl ?_);show wpAny _ _ (field (.ref z) 3 >>= _) _ _ _;refine wpAny_bind (wpAny_field hz rfl (x:=.ref TI) rfl ?_);refine wpAny_bind (wpAny_seqItems hTI rfl ?_);show wpAny _ _ (Builtin.SmallTypes.ownedTupleIsFree (.ref z) >>= _) _ _ _;refine wpAny_bind (lu hz hT λh₁ VG MN=>?_);simp only[aaV,if_false,adD,aee,adn];refine wpAny_bind (wpAny_bind (wpAny_bind (wpAny_holding ?_)));show wpAny _ _ (Builtin.SmallTypes.nextOf (.ref i1) >>= _) _ _ _;cases hx:xs[k1]? with
 | none =>
  exact wpAny_bind (wpAny_nextOf_list_end hh (h1.extBut MN.extBut D.i1z) (hl1.extBut MN.extBut D.l1z) hx λh₂ e Nz he=>hE h₂ e (λc o c1 c3 _ x=>Nz _ _ c3 (MN.extBut _ _ c1 x)) he)
 | some x =>
  have hy:ys[k2]?=none:=by
   rcases hend with h|h
   ·rw[hx]at h;cases h
   ·exact h
  refine wpAny_bind (wpAny_nextOf_list_item (h1.extBut MN.extBut D.i1z) (hl1.extBut MN.extBut D.l1z) hx λh₂ VH Nz=>wpAny_pure ?_);refine wpAny_pure ?_;dsimp only;refine wpAny_bind (wpAny_bind (wpAny_holding ?_));show wpAny _ _ (Builtin.SmallTypes.nextOf (.ref i2) >>= _) _ _ _;exact wpAny_bind (wpAny_nextOf_list_end hh ((h2.extBut MN.extBut D.i2z).extBut Nz.extBut D.i12.symm) ((hl2.extBut MN.extBut D.l2z).extBut Nz.extBut D.l2i1) hy λh₃ e P0 he=>hE h₃ e (λc o c1 c3 c4 x=>P0 _ _ c4 (Nz.extBut _ _ c3 (MN.extBut _ _ c1 x))) he)
theorem nP{z TI TO T i1 i2 l1 l2:Addr}{oT:Obj}{g:Bool}{k1 k2:Nat}{xs ys:Array Value}{x y:Value}{Q:Option Value->Shared->Prop}(D:ZipApart z TI TO i1 i2 l1 l2)
  (hz:dO s.heap z TI TO (rawInt T) (.bool g))(hT:s.heap.get? T=some oT)(hTI:IsPair s.heap TI (.ref i1) (.ref i2))
  (h1:s.heap.IsListIter i1 l1 k1)(h2:s.heap.IsListIter i2 l2 k2)(hl1:s.heap.IsList l1 xs)(hl2:s.heap.IsList l2 ys)(hx:xs[k1]?=some x)(hy:ys[k2]?=some y)
  (hQ:∀h',dO h' z TI TO (rawInt T) (.bool true)->h'.IsListIter i1 l1 (k1+1)->h'.IsListIter i2 l2 (k2+1)->IsPair h' s.heap.objs.size x y ->
   (∀c o,c≠z->c≠i1->c≠i2->s.heap.get? c=some o->h'.get? c=some o)->Q (some (.ref s.heap.objs.size)) { s with heap:=h' }):
  wpAny (model prog w) A (pyNext (.ref z)) Q E s:=by
 have hTy:s.TypeIs (.ref z) "zip":=⟨_,hz,rfl⟩
 unfold pyNext
 exact wpAny_bind (wpAny_attempt (wpAny_callSpecial?_slot (name:=Str.ofString "__next__") hTy F.slot_zip_next
  (wpAny_call_entry F.slot_zip_next hTy F.entry_zip_next
   (pZ D hz hT hTI h1 h2 hl1 hl2 hx hy λh' a1 a2 a3 a4 a5=>wpAny_pure (hQ h' a1 a2 a3 a4 a5)) (F.args_zip_next_1 _))))
theorem o8{z TI TO T i1 i2 l1 l2:Addr}{oT:Obj}{g:Bool}{k1 k2:Nat}{xs ys:Array Value}{Q:Option Value->Shared->Prop}(hh:A.handled=none)(D:ZipApart z TI TO i1 i2 l1 l2)
  (hz:dO s.heap z TI TO (rawInt T) (.bool g))(hT:s.heap.get? T=some oT)(hTI:IsPair s.heap TI (.ref i1) (.ref i2))
  (h1:s.heap.IsListIter i1 l1 k1)(h2:s.heap.IsListIter i2 l2 k2)(hl1:s.heap.IsList l1 xs)(hl2:s.heap.IsList l2 ys)(hend:xs[k1]?=none\/ys[k2]?=none)
  (hQ:∀h',(∀c o,c≠z->c≠i1->c≠i2->s.heap.get? c=some o->h'.get? c=some o)->Q none { s with heap:=h' }):wpAny (model prog w) A (pyNext (.ref z)) Q E s:=by
 have hTy:s.TypeIs (.ref z) "zip":=⟨_,hz,rfl⟩
 unfold pyNext
 refine wpAny_bind (wpAny_attempt (wpAny_callSpecial?_slot (name:=Str.ofString "__next__") hTy F.slot_zip_next
  (wpAny_call_entry F.slot_zip_next hTy F.entry_zip_next (rQ hh D hz hT hTI h1 h2 hl1 hl2 hend λh' e hk he=>?_) (F.args_zip_next_1 _))))
 obtain⟨o,ho,hc⟩:=he
 refine wpAny_bind (wpAny_isInstance (T := "StopIteration") (b:=true) ⟨o,ho,hc⟩ isSubtype_stop ?_)
 exact wpAny_pure (hQ _ hk)
end
namespace F
theorem zip_no_len:typeLookup (.type "zip") "__len__" = pure none:=by rw[typeLookup_type,builtinLookup_eq_fast];kernel_rfl
theorem zip_no_hint:typeLookup (.type "zip") "__length_hint__" = pure none:=by rw[typeLookup_type,builtinLookup_eq_fast];kernel_rfl
end F
section
variable{prog:Program}{w:World}{A:Around}{E:Value->Shared->Prop}{s:Shared}
theorem rF{z:Addr}{Q:Bool->Shared->Prop}(hT:s.TypeIs (.ref z) "zip")(h:Q true s):wpAny (model prog w) A (Builtin.List.listLengthHint (.ref z)) Q E s:=by
 unfold Builtin.List.listLengthHint;refine wpAny_bind (wpAny_specialOf hT F.zip_no_len ?_)
 show wpAny _ A (specialOf (Value.ref z) (Str.ofString "__length_hint__") >>= _) _ _ _
 refine wpAny_bind (wpAny_specialOf hT F.zip_no_hint ?_);exact wpAny_pure h
end
theorem qm{h:Heap}{z TI TO:Addr}{T:Nat}{g:Value}(a:IsZip h z TI TO .none)(b:dO h z TI TO (rawInt T) g):False:=by
 have:=a.symm.trans b;simp[rawInt]at this
structure Rx(z TI TO i1 i2 l1 l2:Addr)(xs ys:Array Value)(i:Nat)(h:Heap):Prop where
 zp:(i=0/\IsZip h z TI TO .none /\ ∃a b,IsPair h TO a b) \/ ∃T a b g,dO h z TI TO (rawInt (T:Nat)) (.bool g)/\IsPair h T a b
 ti:IsPair h TI (.ref i1) (.ref i2)
 j1:h.IsListIter i1 l1 i
 j2:h.IsListIter i2 l2 i
 k1:h.IsList l1 xs
 k2:h.IsList l2 ys
structure Es(N:Nat)(xs ys acc:Array Value)(i:Nat)(h:Heap):Prop where
 sz:acc.size=i
 at_:∀j x y,j<i->xs[j]?=some x->ys[j]?=some y -> ∃T:Nat,acc[j]?=some (.ref T)/\N<=T/\IsPair h T x y
 inj:∀(j k T:Nat),acc[j]?=some (.ref T)->acc[k]?=some (.ref T)->j=k
theorem pA{prog:Program}{w:World}{A:Around}{R:Result->Shared->Prop}{z TI TO i1 i2 l1 l2 S:Addr}{xs ys:Array Value}(hh:A.handled=none)(D:ZipApart z TI TO i1 i2 l1 l2)(res:Value)(N:Nat)
  (hS1:S∉[z,TI,TO,i1,i2,l1,l2])(hN:∀b∈[S,z,TI,TO,i1,i2,l1,l2],b<N)(hn:min xs.size ys.size<=sizeLine):
  ∀(k i:Nat) (s:Shared) (acc:Array Value) (c:Nat),min xs.size ys.size - i=k->i<=min xs.size ys.size->N<=s.heap.objs.size->Rx z TI TO i1 i2 l1 l2 xs ys i s.heap->s.heap.get? S=some { cls:=.type "list",dict:=none,data:=.seq acc c,slots:=#[] }->Es N xs ys acc i s.heap ->
  (∀h' acc' c',(∀b o,b∉[S,z,TO,i1,i2]->s.heap.get? b=some o->h'.get? b=some o)->h'.get? S=some { cls:=.type "list",dict:=none,data:=.seq acc' c',slots:=#[] }->Es N xs ys acc' (min xs.size ys.size) h'->R (.ok (.ret res)) { s with heap:=h' }) ->
  codeAny (model prog w) A (.builtin "list.extend.loop" ⟨[.ref S,.ref z,res],[]⟩) R s:=by
 have hb:∀b∈[z,TI,TO,i1,i2,l1,l2],b≠S:=λb hb e=>hS1 (by rw[<-e];exact hb);intro k
 induction k with
 | zero =>
  intro i s acc c hk hi hNs hst hS hacc hR;have hin:i=min xs.size ys.size:=by lia
  refine codeAny_builtin F.entry_extend_loop ?_;rw[Around.under_plainId F.plain_extend_loop _];show wpAny _ A.in1 (pyNext (.ref z) >>= _) _ _ s;have hend:xs[i]?=none\/ys[i]?=none:=by
   rcases Nat.le_total xs.size ys.size with h|h
   ·exact .inl (ac6 (by lia))
   ·exact .inr (ac6 (by lia))
  have fin:∀h',(∀c o,c≠z->c≠TO->c≠i1->c≠i2->s.heap.get? c=some o->h'.get? c=some o)->R (.ok (.ret res)) { s with heap:=h' }:=λh' hk'=>by
   refine hR h' acc c (λb o hbn e=>hk' b o (λx=>hbn (by simp[x])) (λx=>hbn (by simp[x])) (λx=>hbn (by simp[x])) (λx=>hbn (by simp[x])) e) (hk' S _ (hb z (by simp)).symm (hb TO (by simp)).symm (hb i1 (by simp)).symm (hb i2 (by simp)).symm hS) ?_;rw[<-hin];refine⟨hacc.sz,λj x y hj hx hy=>?_,hacc.inj⟩;obtain⟨T,e1,e2,e3⟩:=hacc.at_ j x y hj hx hy;have lt:∀b∈[S,z,TI,TO,i1,i2,l1,l2],T≠b:=λb hb'=>abH (aaf (hN b hb') e2);exact⟨T,e1,e2,hk' T _ (lt z (by simp)) (lt TO (by simp)) (lt i1 (by simp)) (lt i2 (by simp)) e3⟩
  rcases hst.zp with ⟨_,hz,a,b,hTO⟩|⟨T,a,b,g,hz,hT⟩
  ·exact wpAny_bind (wpAny_pyNext_zip_end (A:=A.in1) hh D hz hst.ti hTO hst.j1 hst.j2 hst.k1 hst.k2 hend λh' hk'=>wpAny_pure (fin h' hk'))
  ·exact wpAny_bind (o8 (A:=A.in1) hh D hz hT hst.ti hst.j1 hst.j2 hst.k1 hst.k2 hend λh' hk'=>wpAny_pure (fin h' λc o c1 _ c3 c4 e=>hk' c o c1 c3 c4 e))
 | succ k ih =>
  intro i s acc c hk hi hNs hst hS hacc hR;have hlt:i<min xs.size ys.size:=by lia
  have hix:i<xs.size:=by lia
  have hiy:i<ys.size:=by lia
  have hx:=abt hix;have hy:=abt hiy;refine codeAny_builtin F.entry_extend_loop ?_;rw[Around.under_plainId F.plain_extend_loop _];show wpAny _ A.in1 (pyNext (.ref z) >>= _) _ _ s;have lt:∀{c o},s.heap.get? c=some o->s.heap.objs.size≠c:=λe=>abH (Heap.lt_size e);have step:∀h' g,dO h' z TI TO (rawInt (s.heap.objs.size:Nat)) (.bool g)\/(∃T a b,dO h' z TI TO (rawInt (T:Nat)) (.bool g)/\IsPair h' T a b)->h'.IsListIter i1 l1 (i+1)->h'.IsListIter i2 l2 (i+1)->IsPair h' s.heap.objs.size xs[i] ys[i] ->
    (∀c o,c≠z->c≠TO->c≠i1->c≠i2->s.heap.get? c=some o->h'.get? c=some o)->N<=h'.objs.size ->
    wpAny (model prog w) A.in1 (updateSeq S (·.push (.ref s.heap.objs.size)) >>= λ_=>pure (Fin.again (.builtin "list.extend.loop" ⟨[.ref S,.ref z,res],[]⟩)))
     (λfin s'=>match fin with | .done f=>R (.ok f) s' | .again c'=>c'.quiet=true/\codeAny (model prog w) A c' R s') (λe s'=>R (.error e) s') { s with heap:=h' }:=by
   intro h' g hz a3 a4 a5 hk' hN';have hS':=hk' S _ (hb z (by simp)).symm (hb TO (by simp)).symm (hb i1 (by simp)).symm (hb i2 (by simp)).symm hS;have hzN:dO h' z TI TO (rawInt (s.heap.objs.size:Nat)) (.bool g)\/(∃T a b,dO h' z TI TO (rawInt (T:Nat)) (.bool g)/\IsPair h' T a b):=by
    rcases hz with hz|⟨T,a,b,hz,hT⟩
    ·exact .inl hz
    ·exact .inr ⟨T,a,b,hz,hT⟩
   have oth:∀b o,b≠S->h'.get? b=some o->(h'.update S (Obj.mapSeq (·.push (.ref s.heap.objs.size)))).get? b=some o:=λb o hb' e=>(Heap.get?_update_other _ _ (abg hb')).trans e;have VJ:s.heap.objs.size≠S:=lt hS;refine wpAny_bind ?_;refine wpAny_updateSeq hS' rfl (wpAny_pure ⟨plainId_quiet F.plain_extend_loop _,ih (i+1) _ (acc.push (.ref s.heap.objs.size)) _ (by lia) hlt ?_ ⟨?_,?_,?_,?_,?_,?_⟩ (Heap.get?_update_self _ hS' rfl) ⟨?_,λj x y hj hx' hy'=>?_,λj k T e1 e2=>?_⟩ λh2 acc' c' hk2 hS2 hacc2=>?_⟩) (by rw[hacc.sz];lia) (by show (acc.push _).size<=sizeLine+1;rw[aef,hacc.sz];lia)
   ·show N<=(h'.update S _).objs.size;rw[Heap.size_update];exact hN'
   ·rcases hzN with hz|⟨T,a,b,hz,hT⟩
    ·exact .inr ⟨_,_,_,g,oth z _ (hb z (by simp)) hz,oth _ _ VJ a5⟩
    ·exact .inr ⟨T,a,b,g,oth z _ (hb z (by simp)) hz,oth _ _ (L2.fZ hT hS' (by show Value.type "tuple" ≠ Value.type "list";decide)) hT⟩
   ·exact oth TI _ (hb TI (by simp)) (hk' TI _ D.TIz D.TITO D.TIi1 D.TIi2 hst.ti)
   ·exact a3.at λo e=>oth i1 o (hb i1 (by simp)) e
   ·exact a4.at λo e=>oth i2 o (hb i2 (by simp)) e
   ·exact hst.k1.at λo e=>oth l1 o (hb l1 (by simp)) (hk' l1 o D.l1z D.l1TO D.l1i1 D.l1i2 e)
   ·exact hst.k2.at λo e=>oth l2 o (hb l2 (by simp)) (hk' l2 o D.l2z D.l2TO D.l2i1 D.l2i2 e)
   ·rw[aef,hacc.sz]
   ·rw[adq];by_cases hji:j=i
    ·subst hji;rw[if_pos hacc.sz.symm];rw[hx]at hx';rw[hy]at hy';cases hx';cases hy';exact⟨_,rfl,hNs,oth _ _ VJ a5⟩
    ·rw[if_neg (by rw[hacc.sz];exact hji)];obtain⟨T,e1,e2,e3⟩:=hacc.at_ j x y (by lia) hx' hy';have QJ:∀b∈[S,z,TI,TO,i1,i2,l1,l2],T≠b:=λb hb'=>abH (aaf (hN b hb') e2);exact⟨T,e1,e2,oth T _ (QJ S (by simp)) (hk' T _ (QJ z (by simp)) (QJ TO (by simp)) (QJ i1 (by simp)) (QJ i2 (by simp)) e3)⟩
   ·have old:∀(j:Nat),acc[j]? ≠ some (.ref s.heap.objs.size):=λj ej=>by
     have hj:j<i:=by
      have:=(acf.mp ej).1;rw[hacc.sz]at this;exact this
     obtain⟨T,e1,e2,e3⟩:=hacc.at_ j _ _ hj (abt (show j<xs.size by lia)) (abt (show j<ys.size by lia));rw[ej]at e1;cases e1;exact lt e3 rfl
    rw[adq]at e1 e2;split at e1
    ·split at e2
     ·lia
     ·cases e1;exact absurd e2 (old k)
    ·split at e2
     ·cases e2;exact absurd e1 (old j)
     ·exact hacc.inj j k T e1 e2
   ·exact hR h2 acc' c' (λb o hbn e=>hk2 b o hbn (oth b o (λx=>hbn (by simp[x])) (hk' b o (λx=>hbn (by simp[x])) (λx=>hbn (by simp[x])) (λx=>hbn (by simp[x])) (λx=>hbn (by simp[x])) e))) hS2 hacc2
  rcases hst.zp with ⟨_,hz,a,b,hTO⟩|⟨T,a,b,g,hz,hT⟩
  ·refine wpAny_bind (wpAny_pyNext_zip_item D hz hst.ti hTO hst.j1 hst.j2 hst.k1 hst.k2 hx hy λh' a1 a2 a3 a4 a5 a6 hk'=>?_);exact step h' false (.inl a1) a3 a4 a5 hk' (by rw[a6];lia)
  ·refine wpAny_bind (nP D hz hT hst.ti hst.j1 hst.j2 hst.k1 hst.k2 hx hy λh' a1 a3 a4 a5 hk'=>?_);have Tj:T≠z/\T≠i1/\T≠i2:=by
    obtain⟨o1,e1,c1,_⟩:=hst.j1;obtain⟨o2,e2,c2,_⟩:=hst.j2
    exact⟨L2.fZ hT hz (by show Value.type "tuple" ≠ Value.type "zip";decide),L2.fZ hT e1 (by rw[c1];show Value.type "tuple" ≠ Value.type "list_iterator";decide),L2.fZ hT e2 (by rw[c2];show Value.type "tuple" ≠ Value.type "list_iterator";decide)⟩
   exact step h' true (.inr ⟨T,a,b,a1,hk' T _ Tj.1 Tj.2.1 Tj.2.2 hT⟩) a3 a4 a5 (λc o c1 _ c3 c4 e=>hk' c o c1 c3 c4 e) (aba (ab0 hNs (Heap.lt_size a5)))
section
variable{prog:Program}{w:World}{A:Around}{s:Shared}{R:Result->Shared->Prop}
theorem oK{z TI TO i1 i2 l1 l2 S:Addr}{xs ys:Array Value}(hh:A.handled=none)(D:ZipApart z TI TO i1 i2 l1 l2)(res:Value)(c₀:Nat)(hn:min xs.size ys.size<=sizeLine)
  (hS1:S∉[z,TI,TO,i1,i2,l1,l2])(hz:IsZip s.heap z TI TO .none)(hst:Rx z TI TO i1 i2 l1 l2 xs ys 0 s.heap)
  (hN:∀b∈[S,z,TI,TO,i1,i2,l1,l2],b<s.heap.objs.size)(hS:s.heap.get? S=some { cls:=.type "list",data:=.seq #[] c₀ })
  (hR:∀h' acc' c',(∀b o,b∉[S,z,TO,i1,i2]->s.heap.get? b=some o->h'.get? b=some o)->h'.get? S=some { cls:=.type "list",dict:=none,data:=.seq acc' c',slots:=#[] } ->
   Es s.heap.objs.size xs ys acc' (min xs.size ys.size) h'->R (.ok (.ret res)) { s with heap:=h' }):
  wpAny (model prog w) A.in1 (Builtin.List.listExtendWith (.ref S) (.ref z) res)
   (λfin s'=>match fin with | .done f=>R (.ok f) s' | .again c'=>c'.quiet=true/\codeAny (model prog w) A c' R s') (λe s'=>R (.error e) s') s:=by
 have hTy:s.TypeIs (.ref z) "zip":=⟨_,hz,rfl⟩
 have hSz:S≠z:=λe=>hS1 (by simp[e]);unfold Builtin.List.listExtendWith;refine wpAny_bind (wpAny_typeOf hTy ?_);have h1:Builtin.List.listSameRef (.ref S) (.ref z)=false:=by simp[Builtin.List.listSameRef,hSz]
 have h2:(Value.type "zip" == Value.type "list")=false:=by decide
 have h3:(Value.type "zip" == Value.type "tuple")=false:=by decide
 simp only[h1,h2,h3,adz,aaV,if_false];refine wpAny_bind (wpAny_pyIter_zip hz ?_);refine wpAny_bind (wpAny_holding (rF hTy ?_));refine wpAny_ite_split (λ_=>?_) (λhab=>absurd rfl hab);refine wpAny_bind (wpAny_rule ?_);refine wpAny_bind ?_;show wpAny _ _ (updateSeq S (·.push .none) >>= λ_=>updateSeq S (·.pop)) _ _ _;refine wpAny_bind (wpAny_updateSeq hS rfl ?_);have Oe:=Heap.get?_update_self (Obj.mapSeq (·.push Value.none)) hS rfl;refine wpAny_updateSeq (hz:=by seq_fits) Oe rfl ?_;have S7:=Heap.get?_update_self (Obj.mapSeq (·.pop)) Oe rfl;have oth:∀b o,b≠S->s.heap.get? b=some o->((s.heap.update S (Obj.mapSeq (·.push Value.none))).update S (Obj.mapSeq (·.pop))).get? b=some o:=
  λb o hb e=>(Heap.get?_update_other _ _ (abg hb)).trans ((Heap.get?_update_other _ _ (abg hb)).trans e)
 have hb:∀b∈[z,TI,TO,i1,i2,l1,l2],b≠S:=λb hb e=>hS1 (by rw[<-e];exact hb);have hsz:((s.heap.update S (Obj.mapSeq (·.push Value.none))).update S (Obj.mapSeq (·.pop))).objs.size=s.heap.objs.size:=by rw[Heap.size_update,Heap.size_update]
 refine wpAny_pure ⟨plainId_quiet F.plain_extend_loop _,pA hh D res s.heap.objs.size hS1 hN hn _ 0 _ #[] _ rfl (aaq _) (by show s.heap.objs.size<=(Heap.update _ _ _).objs.size;rw[hsz];exact aad _) ⟨?_,?_,?_,?_,?_,?_⟩ S7 ⟨rfl,λj x y hj=>absurd hj (aby _),λj k T e=>by simp at e⟩ λh' acc' c' hk hS' hacc=>hR h' acc' c' (λb o hbn e=>hk b o hbn (oth b o (λx=>hbn (by simp[x])) e)) hS' hacc⟩
 ·rcases hst.zp with ⟨_,hz,a,b,hTO⟩|⟨T,a,b,g,hz2,_⟩
  ·exact .inl ⟨rfl,oth z _ (hb z (by simp)) hz,a,b,oth TO _ (hb TO (by simp)) hTO⟩
  ·exact(qm hz hz2).elim
 ·exact oth TI _ (hb TI (by simp)) hst.ti
 ·exact hst.j1.at λo e=>oth i1 o (hb i1 (by simp)) e
 ·exact hst.j2.at λo e=>oth i2 o (hb i2 (by simp)) e
 ·exact hst.k1.at λo e=>oth l1 o (hb l1 (by simp)) e
 ·exact hst.k2.at λo e=>oth l2 o (hb l2 (by simp)) e
theorem lq{z TI TO i1 i2 l1 l2 S:Addr}{xs ys:Array Value}(hh:A.handled=none)(D:ZipApart z TI TO i1 i2 l1 l2)(hn:min xs.size ys.size<=sizeLine)
  (hS1:S∉[z,TI,TO,i1,i2,l1,l2])(hz:IsZip s.heap z TI TO .none)(hst:Rx z TI TO i1 i2 l1 l2 xs ys 0 s.heap)
  (hN:∀b∈[S,z,TI,TO,i1,i2,l1,l2],b<s.heap.objs.size)(hS:s.heap.get? S=some { cls:=.type "list",data:=.seq #[] })
  (hR:∀h' acc' c',(∀b o,b∉[S,z,TO,i1,i2]->s.heap.get? b=some o->h'.get? b=some o)->h'.get? S=some { cls:=.type "list",dict:=none,data:=.seq acc' c',slots:=#[] } ->
   Es s.heap.objs.size xs ys acc' (min xs.size ys.size) h'->R (.ok (.ret .none)) { s with heap:=h' }):
  wpAny (model prog w) A.in1 (Builtin.«list.__init__» ⟨[.ref S,.ref z],[]⟩)
   (λfin s'=>match fin with | .done f=>R (.ok f) s' | .again c'=>c'.quiet=true/\codeAny (model prog w) A c' R s') (λe s'=>R (.error e) s') s:=by
 show wpAny _ _ (do let old <-Builtin.List.listItems (.ref S);Builtin.List.listUpdate (.ref S) (λ_=>#[]);letGo old.toList.reverse;Builtin.List.listExtendWith (.ref S) (.ref z) .none) _ _ s;refine wpAny_bind ?_;unfold Builtin.List.listItems;refine wpAny_bind (wpAny_seqItems hS rfl (wpAny_pure ?_));show wpAny _ _ (updateSeq S (λ_=>#[]) >>= λ_=>letGo (#[]:Array Value).toList.reverse >>= λ_=>Builtin.List.listExtendWith (.ref S) (.ref z) .none) _ _ s;refine wpAny_bind (wpAny_updateSeq hS rfl ?_);have Oe:=Heap.get?_update_self (Obj.mapSeq (λ_=>(#[]:Array Value))) hS rfl;have oth:∀b o,b≠S->s.heap.get? b=some o->(s.heap.update S (Obj.mapSeq (λ_=>(#[]:Array Value)))).get? b=some o:=
  λb o hb e=>(Heap.get?_update_other _ _ (abg hb)).trans e
 have hb:∀b∈[z,TI,TO,i1,i2,l1,l2],b≠S:=λb hb e=>hS1 (by rw[<-e];exact hb);have hsz:(s.heap.update S (Obj.mapSeq (λ_=>(#[]:Array Value)))).objs.size=s.heap.objs.size:=by rw[Heap.size_update]
 refine wpAny_bind (wpAny_letGo ?_);refine oK hh D .none _ hn hS1 (oth z _ (hb z (by simp)) hz) ⟨?_,?_,?_,?_,?_,?_⟩ (λb hb'=>?_) Oe (λh' acc' c' hk hS' hacc=>?_)
 ·rcases hst.zp with ⟨_,hz,a,b,hTO⟩|⟨T,a,b,g,hz2,_⟩
  ·exact .inl ⟨rfl,oth z _ (hb z (by simp)) hz,a,b,oth TO _ (hb TO (by simp)) hTO⟩
  ·exact(qm hz hz2).elim
 ·exact oth TI _ (hb TI (by simp)) hst.ti
 ·exact hst.j1.at λo e=>oth i1 o (hb i1 (by simp)) e
 ·exact hst.j2.at λo e=>oth i2 o (hb i2 (by simp)) e
 ·exact hst.k1.at λo e=>oth l1 o (hb l1 (by simp)) e
 ·exact hst.k2.at λo e=>oth l2 o (hb l2 (by simp)) e
 ·show b<(Heap.update _ _ _).objs.size;rw[hsz];exact hN b hb'
 ·refine hR h' acc' c' (λb o hbn e=>hk b o hbn (oth b o (λx=>hbn (by simp[x])) e)) hS' ?_;have e:({ s with heap:=s.heap.update S (Obj.mapSeq (λ_=>(#[]:Array Value))) }:Shared).heap.objs.size=s.heap.objs.size:=hsz;rw[e]at hacc;exact hacc
end
section
variable{prog:Program}{w:World}{A:Around}{E:Value->Shared->Prop}{s:Shared}
theorem su{Q:Value->Shared->Prop}{z TI TO i1 i2 l1 l2:Addr}{xs ys:Array Value}(hh:A.handled=none)(D:ZipApart z TI TO i1 i2 l1 l2)(hn:min xs.size ys.size<=sizeLine)
  (hz:IsZip s.heap z TI TO .none)(hst:Rx z TI TO i1 i2 l1 l2 xs ys 0 s.heap)(hN:∀b∈[z,TI,TO,i1,i2,l1,l2],b<s.heap.objs.size)
  (hQ:∀h' acc' c',(∀b o,b∉[z,TO,i1,i2]->s.heap.get? b=some o->h'.get? b=some o)->h'.get? s.heap.objs.size=some { cls:=.type "list",dict:=none,data:=.seq acc' c',slots:=#[] } ->
   Es (s.heap.objs.size+1) xs ys acc' (min xs.size ys.size) h'->Q (.ref s.heap.objs.size) { s with heap:=h' }):
  wpAny (model prog w) A (call (.type "list") [.ref z]) Q E s:=by
 refine callType_codes (Q₁:=λobj s₁=>obj=.ref s.heap.objs.size/\s₁={ s with heap:=s.heap.push { cls:=.type "list",data:=.seq #[] } }) F.called_list (F.typeCall_list_1 _) F.entry_list_init
  (code_list_new _ ⟨rfl,rfl⟩) λobj s₁ h₁=>?_
 obtain⟨rfl,rfl⟩:=h₁
 have hS:(s.heap.push { cls:=.type "list",data:=.seq #[] }).get? s.heap.objs.size=some { cls:=.type "list",data:=.seq #[] }:=Heap.get?_push_size _ rfl
 have pu:∀b o,s.heap.get? b=some o->(s.heap.push { cls:=.type "list",data:=.seq #[] }).get? b=some o:=λb o e=>Heap.get?_push_of_some _ e
 have hsz:(s.heap.push { cls:=.type "list",data:=.seq #[] }).objs.size=s.heap.objs.size+1:=Heap.size_push ..
 refine⟨⟨_,hS,rfl⟩,F.args_list_init_2 _ _,lq (A:=A.in1) hh D hn (λhm=>absurd (hN _ hm) (aaZ _)) (pu z _ hz) ⟨?_,pu _ _ hst.ti,hst.j1.at λo e=>pu _ o e,hst.j2.at λo e=>pu _ o e,hst.k1.at λo e=>pu _ o e,hst.k2.at λo e=>pu _ o e⟩ (λb hb=>?_) hS (λh' acc' c' hk hS' hacc=>?_)⟩
 ·rcases hst.zp with ⟨_,hz,a,b,hTO⟩|⟨T,a,b,g,hz2,_⟩
  ·exact .inl ⟨rfl,pu z _ hz,a,b,pu TO _ hTO⟩
  ·exact(qm hz hz2).elim
 ·show b<(Heap.push _ _).objs.size;rw[hsz];rcases aaA.mp hb with e|hb
  ·rw[e];exact aa7 _
  ·exact abF (hN b hb)
 ·have e:({ s with heap:=s.heap.push { cls:=.type "list",data:=.seq #[] } }:Shared).heap.objs.size=s.heap.objs.size+1:=hsz
  rw[e]at hacc;refine⟨rfl,hQ h' acc' c' (λb o hb e=>hk b o (λhm=>?_) (pu b o e)) hS' hacc⟩;rcases aaA.mp hm with e' | hm
  ·exact absurd (Heap.lt_size e) (by rw[e'];exact aaZ _)
  ·exact hb hm
end
end PySem
namespace L2
open PySem PySem.Spec PyProof.Rows PySem.W
section
variable{X:Cx}{π:List (Addr×Obj)}{σ:St}{H H':Hp}{s:Shared}{h':Heap}
theorem Inv.laidAll{t':Nat}(I:Inv X π σ H s)(k:∀b u,s.heap.get? b=some u->h'.get? b=some u)(up:∀b u,H b=some u->H' b=some u)(old:∀b u,s.heap.get? b=some u->H b=none->H' b=none)
  (new:∀b u,H b=none->H' b=some u->bI X.prog X.w H' h' b u):Inv X π σ H' { s with heap:=h',toks:=t' }:=by
 refine I.un ⟨λb u q _ _ _=>k b u q,λb u q _ _ _=>⟨u.slots,k b u q⟩,λb u q n _=>old b u q n,λb u q _=>⟨u,k b u q⟩,λb xs q=>up b _ q,λb u xs q=>up b _ q,λb ps q=>⟨#[],by rw[up b _ q];simp⟩⟩ λb u e=>?_;cases hb:H b with
 | none=>exact new b u hb e
 | some v =>
  have:=up b v hb;rw[e]at this;cases this;exact(I.hok b u hb).stay (λc v _ q=>k c v q) (λc q=>up c _ q) λc xs q=>up c _ q
theorem ug:∀Ts:List Addr,Vals (Ts.map V.ref) (Ts.map Value.ref)
 | []=>.nil
 | T::Ts=>.cons (show RelV (.ref T) (.ref T)from rfl) (ug Ts)
end
section
variable{X:Cx}
inductive Fo(K:PySem.W.Frag)(Q:VK)(vs:List V)(H1:Hp):Prop
 | mk (a b xs ys:_) (_:vs=[.ref a,.ref b]) (_:K5 K H1 a xs) (_:K5 K H1 b ys) (_:∀l (Ts:List Addr) H',H1 l=none->(∀b o,H1 b=some o->H' b=some o)->H' l=some (.lst (Ts.map V.ref))->Ts.length=min xs.length ys.length->(∀(i:Nat) x y T,xs[i]?=some x->ys[i]?=some y->Ts[i]?=some T->H' T=some (.tup [x,y]))->Q (.ref l) H')
def J5(K:PySem.W.Frag)(ta:TA):TE:=λ σ H Q=>ta σ H λvs H1=>Fo K Q vs H1
theorem zm{a b:Expr}{ta:TA}{p p2 pos pos2:Pos}(hc:X.calm=true)(hg:Gl X "list")(hm:X.mg "list" = none)(hv:bootBuiltins "list" = some (.type "list"))(hg2:Gl X "zip")(hm2:X.mg "zip" = none)(hv2:bootBuiltins "zip" = some (.type "zip"))
  (ha:PA X [a,b] ta)(hs:starEach [a,b] X.env=[(false,eval a X.env),(false,eval b X.env)]:=by rfl)(hs2:starEach [b] X.env=[(false,eval b X.env)]:=by rfl)
  (he:starEach [.Call (.Name "zip" p2) [a,b] [] pos2] X.env=(false,eval (.Call (.Name "zip" p2) [a,b] [] pos2) X.env)::starEach [] X.env:=by rfl)(hpl:(backTo pos (starEach [] X.env)).any (·.1)=false:=by rfl):
  PE X (.Call (.Name "list" p) [.Call (.Name "zip" p2) [a,b] [] pos2] [] pos) (J5 X.K ta):=by
 intro π s σ H Q I h;refine wpAny_Call_Name_kw (fu I hg hm hv ?_);refine PyProof.Rows.callWith_type1 ?_ he hpl;rw[he]
 show wpAny _ _ (spliced ((false,eval (.Call (.Name "zip" p2) [a,b] [] pos2) X.env)::backTo pos (starEach [] X.env))) _ _ s
 refine Calls.spliced_cons ?_;refine Call_ (fu I hg2 hm2 hv2 (PyProof.Rows.callWith_type1 (K7 (ha pos2 π s σ H _ I h) λus s1 ⟨vs,H1,I1,r1,q1⟩=>?_) (by rw[hs,hs2]) (by rw[hs2];rfl)));obtain⟨l1,l2,xs,ys,e,hq1,hq2,q⟩:=q1;subst e;cases r1 with
 | cons r rr =>
  cases rr with
  | cons r' rr =>
   cases rr;cases r;cases r';obtain⟨Ou,Pj,p1,hz1⟩:=I1.list hq1;obtain⟨is2,Pk,Ry,hz2⟩:=I1.list hq2;have e1:=Pj.length;have e2:=Pk.length;obtain⟨ob1,hob1,_⟩:=id p1.isList;obtain⟨ob2,hob2,_⟩:=id Ry.isList;have lt1:=Heap.lt_size hob1;have lt2:=Heap.lt_size hob2;refine call_zip_2 p1.isList Ry.isList λh' hz hTI hTO hi1 hi2 hsz hk=>?_;refine Calls.spliced_nil ?_;have kn:∀n i j:Nat,i≠j->n+i≠n+j:=λn i j h=>by lia
   have D5:vL (s1.heap.objs.size+4) (s1.heap.objs.size+2) (s1.heap.objs.size+3) s1.heap.objs.size (s1.heap.objs.size+1):=
    ⟨kn _ 2 4 (by decide),kn _ 3 4 (by decide),kn _ 0 4 (by decide),kn _ 1 4 (by decide),kn _ 2 3 (by decide),kn _ 2 0 (by decide),kn _ 2 1 (by decide),kn _ 3 0 (by decide),kn _ 3 1 (by decide),kn _ 0 1 (by decide)⟩
   have D:=qW (i:=0) D5 ⟨hz,hTI,⟨_,_,hTO⟩,hi1,hi2⟩ (p1.isList.at λo e=>hk _ o e) (Ry.isList.at λo e=>hk _ o e);refine su (s:={ s1 with heap:=h' }) (xs:=Ou.toArray) (ys:=is2.toArray) (I.ok.hd hc) D (by rw[aao,aao];lia) hz ⟨.inl ⟨rfl,hz,_,_,hTO⟩,hTI,hi1,hi2,p1.isList.at λo e=>hk _ o e,Ry.isList.at λo e=>hk _ o e⟩ (λb hb=>?_) λh2 acc c' hk2 hS hacc=>?_
   ·show b<h'.objs.size;rw[hsz];have hb':b=s1.heap.objs.size+4\/b=s1.heap.objs.size+2\/b=s1.heap.objs.size+3\/b=s1.heap.objs.size\/b=s1.heap.objs.size+1\/b=l1\/b=l2:=by simpa using hb
    have ad:∀n i:Nat,i<5->n+i<n+5:=λn i h=>by lia
    rcases hb' with rfl|rfl|rfl|rfl|rfl|rfl|rfl
    ·exact ad _ 4 (by decide)
    ·exact ad _ 2 (by decide)
    ·exact ad _ 3 (by decide)
    ·exact ad _ 0 (by decide)
    ·exact ad _ 1 (by decide)
    ·exact aaf lt1 (abo _ _)
    ·exact aaf lt2 (abo _ _)
   have hl0:({ s1 with heap:=h' }:Shared).heap.objs.size=s1.heap.objs.size+5:=hsz;rw[hl0]at hS hacc;obtain⟨N,eN⟩:∃N:Nat,N=s1.heap.objs.size:=⟨_,rfl⟩;have hf:∀(b:Nat) u,H1 b=some u->b<N:=λb u e=>by
    rcases aaM b N with c|c
    ·exact c
    ·rw[I1.hok.fresh (by rw[<-eN];exact c)]at e;cases e
   have hg:∀(b:Nat) u,s1.heap.get? b=some u->b<N:=λb u e=>by
    rw[eN];exact Heap.lt_size e
   rw[<-eN]at hS hacc hsz;have hsz1:Ou.toArray.size=xs.length:=by rw[aao,e1]
   have hsz2:is2.toArray.size=ys.length:=by rw[aao,e2]
   have hall:∀j,j<min xs.length ys.length -> ∃(T:Nat) (u1 u2:Value),acc[j]?=some (.ref T)/\N+5+1<=T/\Ou[j]?=some u1/\is2[j]?=some u2/\IsPair h2 T u1 u2:=λj hj=>by
    have hj1:j<Ou.length:=by lia
    have hj2:j<is2.length:=by lia
    obtain⟨T,a1,a2,a3⟩:=hacc.at_ j Ou[j] is2[j] (by rw[hsz1,hsz2];exact hj) (by simp[hj1]) (by simp[hj2]);exact⟨T,_,_,a1,a2,aac hj1,aac hj2,a3⟩
   have hasz:acc.size=min xs.length ys.length:=by rw[hacc.sz,hsz1,hsz2]
   obtain⟨Ts,VL⟩:∃Ts:List Addr,Ts=acc.toList.map λv=>match v with | .ref a=>a|_=>0:=⟨_,rfl⟩
   have hlen:Ts.length=min xs.length ys.length:=by rw[VL,aaa,aaj,hasz]
   have hTat:∀(j:Nat) T,acc[j]?=some (.ref T)->Ts[j]?=some T:=λj T e=>by
    rw[VL,aag,aaN,e];rfl
   have hback:∀(j:Nat) T,Ts[j]?=some T->acc[j]?=some (.ref T):=λj T e=>by
    have hj:=(aab.mp e).1;obtain⟨T',u1,u2,a1,_⟩:=hall j (by lia);rw[hTat j T' a1]at e;cases e;exact a1
   have hacL:acc.toList=Ts.map Value.ref:=by
    refine ab9 λj=>?_;rcases aaM j (min xs.length ys.length)with c|c
    ·obtain⟨T',u1,u2,a1,_⟩:=hall j c;rw[aag,hTat j T' a1,aaN,a1];rfl
    ·rw[ab6 (by rw[aaj,hasz];exact c),ab6 (by rw[aaa,hlen];exact c)]
   have hnd:Ts.Nodup:=by
    refine aaB.mpr λj k hj hk hjk e=>?_;have:=hacc.inj j k Ts[j] (hback j _ (aac hj)) (hback k _ (by rw[e];exact aac hk));lia
   have hTge:∀T∈Ts,N+6<=T:=λT hT=>by
    obtain⟨j,hj⟩:=aaL hT;have hjl:=(aab.mp hj).1;obtain⟨T',u1,u2,a1,a2,_⟩:=hall j (by lia);rw[hTat j T' a1]at hj;cases hj;exact a2
   have hnl:∀b:Nat,b<N->b≠N+5:=λb h=>by lia
   have hnT:∀b:Nat,b<N->b∉Ts:=λb h hm=>by
    have:=hTge b hm;exact absurd this (adW (aaf h (abo _ _)))
   have hlT:(N+5:Nat)∉Ts:=λhm=>by
    have:=hTge _ hm;exact absurd this (adW (aa7 _))
   obtain⟨H2,Mf⟩:∃H2:Hp,H2=λb=>if b=N+5 then some (.lst (Ts.map V.ref))else if b∈Ts then some (.tup [xs.getD (Ts.idxOf b) .non,ys.getD (Ts.idxOf b) .non])else H1 b:=⟨_,rfl⟩
   have up:∀b u,H1 b=some u->H2 b=some u:=λb u e=>by
    rw[Mf];show (if b=N+5 then _ else if b∈Ts then _ else H1 b)=_;rw[if_neg (hnl b (hf b u e)),if_neg (hnT b (hf b u e))];exact e
   have hH2T:∀(j:Nat) x y T,xs[j]?=some x->ys[j]?=some y->Ts[j]?=some T->H2 T=some (.tup [x,y]):=λj x y T ex ey eT=>by
    obtain⟨hj,rfl⟩:=aab.mp eT;rw[Mf];show (if Ts[j]=N+5 then _ else if Ts[j]∈Ts then _ else H1 Ts[j])=_;rw[if_neg (λe=>hlT (by rw[<-e];exact aaP hj)),if_pos (aaP hj),hnd.idxOf_getElem,aaH,aaH,ex,ey];rfl
   have hk12:∀b u,s1.heap.get? b=some u->h2.get? b=some u:=λb u e=>by
    refine hk2 b u (λhm=>?_) (hk b u e);have hb:=hg b u e;have hm':b=s1.heap.objs.size+4\/b=s1.heap.objs.size+3\/b=s1.heap.objs.size\/b=s1.heap.objs.size+1:=by simpa using hm
    rw[<-eN]at hm';have no:∀i:Nat,b=N+i->False:=λi e=>by
     rw[e]at hb;exact absurd hb (Nat.not_lt_of_le (abo _ _))
    rcases hm' with e|e|e|e
    ·exact no 4 e
    ·exact no 3 e
    ·exact no 0 e
    ·exact no 1 e
   have I2:Inv X π σ H2 { s1 with heap:=h2,toks:=s1.toks }:=by
    refine I1.laidAll hk12 up (λb u e n=>?_) λb u n e=>?_
    ·have hb:=hg b u e;rw[Mf];show (if b=N+5 then _ else if b∈Ts then _ else H1 b)=_;rw[if_neg (hnl b hb),if_neg (hnT b hb)];exact n
    ·rw[Mf]at e
     replace e:(if b=N+5 then some (.lst (Ts.map V.ref))else if b∈Ts then some (.tup [xs.getD (Ts.idxOf b) .non,ys.getD (Ts.idxOf b) .non])else H1 b)=some u:=e
     split at e
     ·rename_i hb;cases e;subst hb;refine⟨by rw[aaa];lia,Ts.map Value.ref,c',ug Ts,?_⟩;rw[hS,<-hacL]
     ·split at e
      ·rename_i hb;cases e;obtain⟨j,hj⟩:=aaL hb;obtain⟨hj',rfl⟩:=aab.mp hj;obtain⟨T',u1,u2,a1,a2,a3,a4,a5⟩:=hall j (by lia);rw[hTat j T' a1]at hj;have hj:T'=Ts[j]:=aax hj;rw[hnd.idxOf_getElem,aaH,aaH];have h1:j<xs.length:=by lia
       have h2':j<ys.length:=by lia
       obtain⟨v1,b1,b2⟩:=Pj.get (aac h1);obtain⟨v2,b3,b4⟩:=Pk.get (aac h2');rw[a3]at b1;rw[a4]at b3;cases b1;cases b3;rw[aac h1,aac h2']
       refine⟨(by show 2<=sizeLine;decide),[u1,u2],.cons b2 (.cons b4 .nil),{ cls:=.type "tuple",data:=.seq #[u1,u2] },?_,rfl,_,rfl⟩
       rw[<-hj];exact a5
      ·rw[n]at e;cases e
   refine⟨.ref (N+5),H2,I2,?_,q _ Ts H2 ?_ up ?_ hlen hH2T⟩
   ·show Value.ref h'.objs.size=_;rw[hsz]
   ·exact I1.hok.fresh (by rw[<-eN];exact abo _ _)
   ·rw[Mf];show (if (N+5:Nat)=N+5 then _ else _)=_;rw[if_pos rfl]
end
theorem uA:∀us:List Value,(∀u∈us,∃n t,u=Value.int n t) -> ∃ms:List Int,ms.length=us.length/\Vals (ms.map V.int) us
 | [],_=>⟨[],rfl,.nil⟩
 | u::us,h=>by
  obtain⟨n,t,e⟩:=h u aay;obtain⟨ms,h1,h2⟩:=uA us λv hv=>h v (aaw _ hv);exact⟨n::ms,by rw[aan,aan,h1],.cons (show RelV (.int n) u from ⟨t,e⟩) h2⟩
theorem mH:∀{ns:List Int}{us:List Value},Vals (ns.map V.int) us -> ∀u∈us,∃n t,u=Value.int n t
 | [],_,.nil,u,h=>by cases h
 | n::ns,_,.cons r rr,u,h=>by
  rcases aaA.mp h with rfl|h
  ·obtain⟨t,e⟩:=r;exact⟨n,t,e⟩
  ·exact mH rr u h
inductive Fi(K:PySem.W.Frag)(Q:VK)(x:V)(ya:V)(yk:V)(H3:Hp):Prop
 | mk (i st:Int) (p:Addr) (ns:List Int) (_:ya=.int i) (_:yk=.int st) (_:st≠0) (_:x=.ref p) (_:K5 K H3 p (ns.map V.int)) (_:∀(l:Addr) (ms:List Int),H3 l=none->ms.length<=ns.length->Q (.ref l) (upd H3 l (.lst (ms.map V.int))))
def Iw(K:PySem.W.Frag)(te ta tk:TE):TE:=λ σ H Q=>te σ H λx H1=>ta σ H1 λya H2=>tk σ H2 λyk H3=>Fi K Q x ya yk H3
theorem wg{X:Cx}{e a k:Expr}{te ta tk:TE}{p2 pos:Pos}(he:PE X e te)(ha:PE X a ta)(hk:PE X k tk):PE X (.Subscript e (.Slice (some a) none (some k) p2) pos) (Iw X.K te ta tk):=by
 intro π s σ H Q I h;refine Subscript_ (K7 (he π s σ H _ I h) λv s1 ⟨x,H1,I1,r1,q1⟩=>?_);refine wpAny_Slice ?_;rw[evalPart_some];refine K7 (ha π s1 σ H1 _ I1 q1) λva s2 ⟨ya,H2,I2,ra,q2⟩=>?_;rw[evalPart_none];refine wpAny_pure ?_;rw[evalPart_some];refine K7 (hk π s2 σ H2 _ I2 q2) λvk s3 ⟨y,H3,I3,ry,q3⟩=>?_;obtain⟨i,st,p,ns,rfl,rfl,h0,rfl,hx,q⟩:=q3;obtain⟨QC,rfl⟩:=ra;obtain⟨tk0,rfl⟩:=ry;cases r1
 have I4:Inv X π σ H3 { s3 with heap:=s3.heap.push { cls:=.type "slice",data:=.fields #[.int i QC,.none,.int st tk0] } }:=I3.kept (t':=s3.toks) λb ob q=>Heap.get?_push_of_some _ q
 obtain⟨its,r,ht,hz⟩:=I4.list hx;have hlen:=r.length
 show wpAny (model X.prog X.w) X.A (subscriptTail e (.Slice (some a) none (some k) p2) (.ref p) (.ref s3.heap.objs.size)) (EP X π σ Q) X.xe { s3 with heap:=s3.heap.push { cls:=.type "slice",data:=.fields #[.int i QC,.none,.int st tk0] } }
 refine tail_any (ops:=[.ref p,.ref s3.heap.objs.size]) ht.isList.typeIs slot_list_getitem.lookup ?_ (by with_unfolding_all rfl);refine wpAny_getItem_list_slice ht.isList (Heap.IsSliceOf.new ..) (.int i QC) .none (.int st tk0) (λe=>h0 (aax e)) ?_ (by rw[aao];lia);obtain⟨ms,hm1,hm2⟩:=uA (slicePick its.toArray (some i) none (some st)).toList λu hu=>by
  unfold slicePick at hu;rw[List.toList_toArray]at hu;obtain⟨j,_,hj⟩:=acn.mp hu;exact mH r u (by simpa using Array.mem_of_getElem? hj)
 have hsz:(slicePick its.toArray (some i) none (some st)).size<=its.length:=aaS (slicePick_size_le its.toArray (some i) none (some st)) (ac8 (by rw[aao]));have Np:ms.length<=ns.length:=by
  rw[hm1,aaj];rw[aaa]at hlen;lia
 rw[aaa]at hz;refine⟨.ref _,_,I4.laid (t':=s3.toks) (o:=.lst (ms.map V.int)) (λb ob q=>Heap.get?_push_of_some _ q) (aad _) ?_,rfl,q _ ms (I4.hok.fresh (aad _)) Np⟩;refine⟨by rw[aaa];lia,(slicePick its.toArray (some i) none (some st)).toList,0,hm2,?_⟩;exact Heap.get?_push_size _ rfl
structure kO(X:Cx)(x:Str)(caps:List (Str×Nat))(scope:Scope)(cl:List (Str×Addr)):Prop where
 kind:scope.kind=.function
 cells:∀n,cellsFrom n scope.names cl=(x,n)::cl
 push:∀h,pushCells h scope.names=h.push { cls:=.type "cell",data:=.cell none }
 names:∀y∈scope.names,y.2=.local->scope.names.lookup y.1=some .local
 rel:(relabel scope X.env).names.lookup x=some .cell
 clos:closureFor scope X.env=pure cl
 cls:∀y c,cl.lookup y=some c->X.env.cells.lookup y=some c
 has:∀cx y,((relabel scope X.env).names.lookup y=some .cell\/(relabel scope X.env).names.lookup y=some .free) -> ∃c,((x,cx)::cl).lookup y=some c
 nd:(x::caps.map (·.1)).Nodup
 cap:∀y j,(y,j)∈caps->X.N[j]?=some y/\(X.env.scope.names.lookup y=some .cell\/X.env.scope.names.lookup y=some .free) /\
  ((relabel scope X.env).names.lookup y=some .cell\/(relabel scope X.env).names.lookup y=some .free)
def iY(X:Cx)(x:Str)(N:List Str)(scope:Scope)(cl:List (Str×Addr))(C:Addr)(s:Shared)(H:Hp)(fp:List Addr):Cx:=
 dj X (λy=>decide (y=x)) N scope cl C s H fp
theorem lW{x y:Str}{c cx:Addr}{cl:List (Str×Addr)}{P:Str->Addr->Prop}(h:∀y c,cl.lookup y=some c->P y c)(e:((x,cx)::cl).lookup y=some c):(y=x/\c=cx)\/P y c:=by
 rw[abn]at e;cases hb:y == x with
 | true =>
  rw[hb]at e;cases e;exact .inl ⟨beq_iff_eq.mp hb,rfl⟩
 | false =>
  rw[hb]at e;exact .inr (h y c e)
section
variable{M:Model}{A:Around}{E:Value->Shared->Prop}{s:Shared}
theorem xx{x:Str}{scope:Scope}{globals:Addr}{cl:List (Str×Addr)}{qual:Str}{outer:Env}{Q:Env->Shared->Prop}(cells:∀n,cellsFrom n scope.names cl=(x,n)::cl)(push:∀h,pushCells h scope.names=h.push { cls:=.type "cell",data:=.cell none })
  (hQ:Q (newEnv scope s.heap.objs.size globals ((x,s.heap.objs.size+1)::cl) qual none .none (some outer) builtinsNs) { s with heap:=(s.heap.push { cls:=.type "dict",data:=.dict #[] }).push { cls:=.type "cell",data:=.cell none } }):
  wpAny M A (newFunctionEnv scope globals cl [] qual none .none (some outer)) Q E s:=by
 simp only[newFunctionEnv,adB,if_true];refine wpAny_bind (wpAny_alloc ?_);refine wpAny_bind (wpAny_layCells _ (λname kind cells=>by cases hkc:kind == NameKind.cell <;> simp[hkc]) _ _ _ _ ?_);rw[cells,push]
 rw[show ({ s with heap:=s.heap.push { cls:=.type "dict",data:=.dict #[] } }:Shared).heap.objs.size=s.heap.objs.size+1 from Heap.size_push ..]
 exact wpAny_bind (by rw[adn];exact wpAny_pure (wpAny_pure hQ))
end
section
variable{X:Cx}{π:List (Addr×Obj)}{σ:St}{H:Hp}{s:Shared}
theorem Inv.compC{x:Str}{caps:List (Str×Nat)}{scope:Scope}{cl:List (Str×Addr)}{fp:List Addr}{h':Heap}{tk:Nat}{m:Str->Option Value}{D C cx:Addr}(I:Inv X π σ H s)(K0:kO X x caps scope cl)(hf:∀b∈fp,fG X π H b)
  (hfs:∀b∈fp,b<s.heap.objs.size)(hD:s.heap.objs.size<=D)(hC:s.heap.objs.size<=C)(hDC:D≠C)(hk:∀b o,s.heap.get? b=some o->h'.get? b=some o)(hn:h'.Ns C m)(hL:h'.get? D=some { cls:=.type "list",data:=.seq #[] })(hX:s.heap.objs.size<=cx)(hDX:D≠cx)(hCX:C≠cx)(hxc:h'.get? cx=some { cls:=.type "cell",data:=.cell none }):
  Inv (iY X x (x::caps.map (·.1)) scope ((x,cx)::cl) C s H fp) [] (none::dw caps σ) (upd H D (.lst [])) { s with heap:=h',toks:=tk }:=by
 have Oo:=I.hok.fresh hD;have hnC:=I.hok.fresh hC;have Ml:∀y c,(iY X x (x::caps.map (·.1)) scope ((x,cx)::cl) C s H fp).env.cells.lookup y=some c->(y=x/\c=cx)\/X.env.cells.lookup y=some c:=λy c e=>lW K0.cls e;have O9:∀y c,X.env.cells.lookup y=some c->c<s.heap.objs.size:=λy c e=>by
  obtain⟨v,q⟩:=I.cell y c e;exact q.lt
 have up:∀b u,H b=some u->upd H D (.lst []) b=some u:=λb u q=>by rw[aD (aB q Oo)];exact q
 have ok:(iY X x (x::caps.map (·.1)) scope ((x,cx)::cl) C s H fp).Ok:=by
  refine⟨I.ok.mod,K0.kind,I.ok.glob,I.ok.blt,hC,λy z c h1 h2=>?_,λy hy=>K0.has cx y hy,λy c h e=>?_,I.ok.hd,I.ok.frames,.inl rfl,λb hb=>?_,I.bs,aaS I.ok.Mv I.sz,λb o e hb=>?_,λb hb hz=>?_,I.stack,I.stkFree⟩
  ·rcases Ml y c h1 with ⟨rfl,rfl⟩|a1 <;> rcases Ml z c h2 with ⟨rfl,e⟩|a2
   ·rfl
   ·exact absurd (O9 z _ a2) (aey.mpr hX)
   ·subst e;exact absurd (O9 y _ a1) (aey.mpr hX)
   ·exact I.ok.inj y z c a1 a2
  ·have h:y=x:=of_decide_eq_true h;subst h;have e:((y,cx)::cl).lookup y=some c:=e;rw[abn,beq_self_eq_true]at e;cases e;exact hX
  ·obtain⟨f0,f1,f2,f3,f4,f5⟩:=hf b hb;refine⟨aak (aaf (hfs b hb) hC),λy c e=>?_⟩;rcases Ml y c e with ⟨_,rfl⟩|e
   ·exact abH (aaf (hfs b hb) hX)
   ·exact f4 y c e
  ·obtain⟨f0,f1,f2,f3,f4,f5⟩:=hf b hb;rcases f3 with z|z
   ·exact I.ok.noex b o e z
   ·exact absurd (aaf (aaf (Heap.lt_size e) I.ok.Mv) z) (aaZ _)
  ·obtain⟨f0,f1,f2,f3,f4,f5⟩:=hf b hb;rcases aaA.mp (I.stkSub b hz)with z|z
   ·exact f1 z
   ·exact f2 z
 refine⟨ok,rfl,I.bare,?_,⟨m,hn,λi y v e1 e2 e3=>?_⟩,λy c e=>?_,?_,λy c e=>?_,λp hp=>absurd (show p∈([]:List (Addr×Obj))from hp) (by simp),?_,?_⟩
 ·exact Un.laid hk hD Oo
 ·cases i with
  | zero=>cases e2
  | succ i =>
   have e1':(caps.map (·.1))[i]?=some y:=e1;have e2':(dw caps σ)[i]?=some (some v):=e2;rw[aag]at e1';unfold dw at e2';rw[aag]at e2';cases ec:caps[i]? with
   | none=>rw[ec]at e1';cases e1'
   | some p =>
    rw[ec]at e1' e2';obtain⟨y',j⟩:=p;have ey:y'=y:=aax e1';subst ey;have ev:(σ[j]?).getD none=some v:=aax e2';have ev':σ[j]?=some (some v):=by
     cases q:σ[j]? with
     | none=>rw[q]at ev;cases ev
     | some w=>rw[q]at ev;exact congrArg some ev
    have nyx:y'≠x:=λz=>(aa4.mp K0.nd).1 (z ▸ aaE.mpr ⟨_,aah ec,rfl⟩);obtain⟨c1,c2,c3⟩:=K0.cap y' j (aah ec);obtain⟨m0,hn0,hl⟩:=I.loc;obtain⟨u,r,l⟩:=hl j y' v c1 ev' (by rcases c2 with z|z;exact .inr (.inl z);exact .inr (.inr z));refine⟨u,r,.inr ⟨c3,?_⟩⟩;rcases l with ⟨k,_⟩|⟨k,c,ec,z⟩
    ·have k':X.env.scope.names.lookup y'=some .local:=k;rcases c2 with z|z
     ·rw[z]at k';cases k'
     ·rw[z]at k';cases k'
    ·obtain⟨c',hc'⟩:=K0.has cx y' c3;have e4:X.env.cells.lookup y'=some c':=by
      rcases lW K0.cls hc' with ⟨z,_⟩|z
      ·exact absurd z nyx
      ·exact z
     rw[ec]at e4;cases e4;obtain⟨o,ho,hd⟩:=z;exact⟨c,hc',o,hk _ _ ho,hd⟩
 ·rcases Ml y c e with ⟨_,rfl⟩|e
  ·exact⟨none,_,hxc,rfl⟩
  ·obtain⟨v,o,ho,hd⟩:=I.cell y c e;exact⟨v,o,hk _ _ ho,hd⟩
 ·show upd H D (.lst []) C=none;rw[aD (abg hDC)];exact hnC
 ·rcases Ml y c e with ⟨_,rfl⟩|e
  ·rw[aD (abg hDX)];exact I.hok.fresh hX
  ·have hlt:=O9 y c e;rw[aD (aak (aaf hlt hD))];exact I.freeC y c e
 ·exact I.hok.laid hk hD ⟨aaq _,[],_,.nil,hL⟩
 ·show (none::dw caps σ).length=(x::caps.map (·.1)).length;simp[j6]
theorem yD{x:Str}{px pos:Pos}{caps:List (Str×Nat)}{scope:Scope}{cl:List (Str×Addr)}{elt iter:Expr}{ifs:List Expr}{J:It}{fp:List Addr}{it:Addr}{tn:Nat->Heap->Prop}{tt:TT}{te:TE}{Qf:Addr->Hp->Prop}
  {RR:Value->Addr->Result->Shared->Prop}{E:Value->Shared->Prop}(I:Inv X π σ H s)(hc:X.calm=true)(K0:kO X x caps scope cl)(T:Turn X.prog X.w X.K (.Name x px) J fp it tn)(st:tn 0 s.heap)(hf:∀b∈fp,fG X π H b)
  (ht:∀C cx s1 H1 Li,Nu (iY X x (x::caps.map (·.1)) scope ((x,cx)::cl) C s1 H1 Li) ifs tt)(he:∀C cx s1 H1 Li,PE (iY X x (x::caps.map (·.1)) scope ((x,cx)::cl) C s1 H1 Li) elt te)(rd:j7 J (dw caps σ) tt te Qf H)
  (hRR:∀D C s' H' m,Inv X π σ H' s'->s'.heap.Ns C m->fG X π H' C->Qf D H'->RR (.ref D) C (.ok .next) s'):
  wpAny (model X.prog X.w) X.A (newList []) (λacc s3=>wpAny (model X.prog X.w) X.A (newFunctionEnv scope X.env.globals cl [] X.env.qual none .none (some X.env)) (λcenv s4 =>
   codeAny (model X.prog X.w) X.A (.compStart (.ListComp elt [⟨.Name x px,iter,ifs,0⟩] scope pos) 0 (.ref it) acc { cenv with scope:=relabel scope X.env }) (RR acc cenv.locals) s4) E s3) E s:=by
 have hfs:∀b∈fp,b<s.heap.objs.size:=λb hb=>by
  obtain⟨o,e,_⟩:=T.obj _ _ st b hb;exact Heap.lt_size e
 refine wpAny_newObj_type (xx K0.cells K0.push ?_);dsimp only;obtain⟨D,eD⟩:∃D:Nat,D=s.heap.objs.size:=⟨_,rfl⟩
 obtain⟨H2,Mf⟩:∃g,g=s.heap.push { cls:=.type "list",dict:=none,data:=.seq ([]:List Value).toArray }:=⟨_,rfl⟩
 rw[<-Mf];rw[<-eD]
 obtain⟨h1,QK⟩:∃g,g=(H2.push { cls:=.type "dict",data:=.dict #[] }).push { cls:=.type "cell",data:=.cell none }:=⟨_,rfl⟩
 rw[<-QK];have hC:H2.objs.size=D+1:=by rw[Mf,Heap.size_push,eD]
 have hle:s.heap.objs.size<=H2.objs.size:=by rw[hC,eD];exact abJ _
 have hDC:D≠H2.objs.size:=by rw[hC];exact aak (aa7 _)
 have hk:∀b o,s.heap.get? b=some o->h1.get? b=some o:=λb o e=>by
  rw[QK];refine Heap.get?_push_of_some _ (Heap.get?_push_of_some _ ?_);rw[Mf];exact Heap.get?_push_of_some _ e
 have hL:h1.get? D=some { cls:=.type "list",data:=.seq #[] }:=by
  rw[QK];refine Heap.get?_push_of_some _ (Heap.get?_push_of_some _ ?_);rw[Mf,eD];exact Heap.get?_push_size _ rfl
 have hn1:h1.Ns H2.objs.size (λ_=>none):=by
  rw[QK]
  exact(Heap.Ns.new H2 (.type "dict")).keeps λb o e=>Heap.get?_push_of_some _ e
 have hxc:h1.get? (H2.objs.size+1)=some { cls:=.type "cell",data:=.cell none }:=by
  rw[QK,show H2.objs.size+1=(H2.push { cls:=.type "dict",data:=.dict #[] }).objs.size from (Heap.size_push ..).symm]
  exact Heap.get?_push_size _ rfl
 have st1:tn 0 h1:=T.keep _ _ _ st λb _ o e=>hk b o e;have loop:=qg (fn:=λy=>decide (y=x)) (pos:=pos) (iter:=iter) (RR:=RR) I hc T hf hfs hle eD (λy c e b hb=>by
  rcases lW K0.cls e with ⟨_,rfl⟩|e
  ·exact abH (aaf (hfs b hb) (aaS hle (abJ _)))
  ·exact(hf b hb).2.2.2.2.1 y c e) (aX (i:=0) K0.nd rfl (acJ (K0.rel)) (aai (decide_eq_true rfl))) (ht _ _ _ _ _) (he _ _ _ _ _) rd hRR (I.compC (tk:=s.toks) K0 hf hfs (by lia) (by lia) hDC hk hn1 hL (aaS hle (abJ _)) (aak (show D<H2.objs.size+1 by rw[hC];exact abF (aa7 _))) (aak (aa7 _)) hxc) st1
 exact codeAny_compStart_list loop (T.self _ 0 _ _ _ st1 loop)
theorem Eo{x:Str}{px pos:Pos}{caps:List (Str×Nat)}{scope:Scope}{cl:List (Str×Addr)}{elt iter:Expr}{ifs:List Expr}{wi:TI}{tt:TT}{te:TE}(hc:X.calm=true)(K0:kO X x caps scope cl)(hi:PI X (.Name x px) iter wi)
  (ht:∀C cx s1 H1 Li,Nu (iY X x (x::caps.map (·.1)) scope ((x,cx)::cl) C s1 H1 Li) ifs tt)(he:∀C cx s1 H1 Li,PE (iY X x (x::caps.map (·.1)) scope ((x,cx)::cl) C s1 H1 Li) elt te)(hs:∀x,foldedSetIterable iter X.env x=pure x:=by intro _;rfl):
  PE X (.ListComp elt [⟨.Name x px,iter,ifs,0⟩] scope pos) (Do wi caps tt te):=by
 intro π s σ H Q I h;rw[eval_ListComp];refine wpAny_comprehension_free (use:=none) rfl hs K0.clos K0.kind K0.names (K7 (hi π s σ H _ I h) λv s1 h1=>K7 h1 λitv s2 h2=>?_);obtain⟨it,fp,tn,J,H2,e,I2,T,st2,f2,rd⟩:=h2;subst e;refine yD (RR:=λacc C=>compPost (model X.prog X.w) X.A X.xe none (EP X π σ Q) acc C) I2 hc K0 T st2 f2 ht he rd ?_;intro D C s' H' m I' hn fC q;exact⟨m,hn,λh'' hs''=>⟨.ref D,H',I'.turned (h':=h'') (t':=s'.toks) (λb o hb e=>hs''.extBut b o hb e) fC.1 fC.2.1 fC.2.2.2.1 fC.2.2.2.2.1 fC.2.2.2.2.2,rfl,q⟩⟩
end
section
variable{X:Cx}{x:Str}{scope:Scope}
theorem kO.one{y:Str}{j:Nat}{c:Addr}(hN:X.N[j]?=some y)(hX:X.env.scope.names.lookup y=some .cell\/X.env.scope.names.lookup y=some .free)(ec:X.env.cells.lookup y=some c)(clos:closureFor scope X.env=pure [(y,c)])
  (hr:(relabel scope X.env).names.lookup y=some .cell\/(relabel scope X.env).names.lookup y=some .free)(rel:(relabel scope X.env).names.lookup x=some .cell:=by rfl)
  (hfree:∀z∈scope.names,z.2=.free->z.1=y:=by decide)(hcell:∀z∈scope.names,z.2=.cell->z.1=x:=by decide)
  (cells:∀n,cellsFrom n scope.names [(y,c)]=(x,n)::[(y,c)]:=by intro _;rfl)(push:∀h,pushCells h scope.names=h.push { cls:=.type "cell",data:=.cell none }:=by intro _;rfl)
  (kind:scope.kind=.function:=by rfl)(names:∀y∈scope.names,y.2=.local->scope.names.lookup y.1=some .local:=by decide)(nd:[x,y].Nodup:=by decide):kO X x [(y,j)] scope [(y,c)]:=by
 have nxy:(y == x)=false:=by
  have:=(aa4.mp nd).1;refine beq_false_of_ne λz=>this ?_;rw[z];exact ac2 _
 refine⟨kind,cells,push,names,rel,clos,λz d e=>?_,λcx z hz=>?_,nd,λz i h=>?_⟩
 ·have:=PySem.mem_of_lookup e;cases aal.mp this;exact ec
 ·have hz':z=x\/z=y:=by
   rcases hz with hz|hz
   all_goals
    obtain⟨k0,hm,e⟩:=gm hz;rcases e with e|⟨e,_⟩
    ·subst e
     first|exact .inl (hcell _ hm rfl) | exact .inr (hfree _ hm rfl)
    ·subst e;exact .inr (hfree _ hm rfl)
  rcases hz' with e|e
  ·subst e;exact⟨cx,by rw[abn,beq_self_eq_true]⟩
  ·subst e;exact⟨c,by rw[abn,nxy,abn,beq_self_eq_true]⟩
 ·cases aal.mp h;exact⟨hN,hX,hr⟩
end
end L2
set_option Elab.async false
set_option maxRecDepth 100000
set_option maxHeartbeats 4000000
namespace Tw
open PySem L2
def top(i:Nat):Stmt:=PySem.Challenge.pw_thinwood_k69_whole_signs.main.body.getD i (.Pass ⟨0,0,0,0⟩)
abbrev rG:Stmt:=top 9
theorem Ay:aK ["bits"] ["bits"] (δ rG):=⟨rfl,rfl,rfl,by decide +kernel,rfl,by decide +kernel,by decide +kernel⟩
abbrev jZ:Stmt:=top 10
theorem mW:aK ["bits","bit"] ["bits"] (δ jZ):=⟨rfl,rfl,rfl,by decide +kernel,rfl,by decide +kernel,by decide +kernel⟩
abbrev lV:Stmt:=top 11
theorem gY:aK ["bits","block","bit"] ["bits"] (δ lV):=⟨rfl,rfl,rfl,by decide +kernel,rfl,by decide +kernel,by decide +kernel⟩
abbrev q9:Stmt:=top 12
theorem Cr:aK ["block","k"] ["block","k"] (δ q9):=⟨rfl,rfl,rfl,by decide +kernel,rfl,by decide +kernel,by decide +kernel⟩
abbrev oJ:Stmt:=top 13
theorem yW:aK ["block","upto"] ["block","upto"] (δ oJ):=⟨rfl,rfl,rfl,by decide +kernel,rfl,by decide +kernel,by decide +kernel⟩
abbrev nq:Stmt:=top 14
theorem yZ:aK ["block","upto"] ["block","upto"] (δ nq):=⟨rfl,rfl,rfl,by decide +kernel,rfl,by decide +kernel,by decide +kernel⟩
abbrev qx:Stmt:=top 15
theorem iH:aK ["block","nth","ones","k","bit"] ["block","nth"] (δ qx):=⟨rfl,rfl,rfl,by decide +kernel,rfl,by decide +kernel,by decide +kernel⟩
abbrev cu:Stmt:=top 16
theorem uP:aK ["look","first"] ["look","first"] (δ cu):=⟨rfl,rfl,rfl,by decide +kernel,rfl,by decide +kernel,by decide +kernel⟩
abbrev nR:Stmt:=top 18
theorem lF:aK ["many","size"] ["many"] (δ nR):=⟨rfl,rfl,rfl,by decide +kernel,rfl,by decide +kernel,by decide +kernel⟩
abbrev fX:Stmt:=top 19
theorem m9:aK ["many","start","stop"] ["many","start","stop"] (δ fX):=⟨rfl,rfl,rfl,by decide +kernel,rfl,by decide +kernel,by decide +kernel⟩
abbrev lG:Stmt:=top 21
theorem oW:aK ["bits","blocks"] ["bits"] (δ lG):=⟨rfl,rfl,rfl,by decide +kernel,rfl,by decide +kernel,by decide +kernel⟩
abbrev lC:Stmt:=top 22
theorem jY:aK ["blocks","ahead","block"] ["blocks"] (δ lC):=⟨rfl,rfl,rfl,by decide +kernel,rfl,by decide +kernel,by decide +kernel⟩
abbrev iw:Stmt:=top 23
theorem qC:aK ["at","most"] ["at","most"] (δ iw):=⟨rfl,rfl,rfl,by decide +kernel,rfl,by decide +kernel,by decide +kernel⟩
abbrev qQ:Stmt:=top 24
theorem Aq:aK ["tables","look","at"] ["tables","look","at"] (δ qQ):=⟨rfl,rfl,rfl,by decide +kernel,rfl,by decide +kernel,by decide +kernel⟩
abbrev nW:Stmt:=top 25
theorem gM:aK ["tables","look","at","many","ahead","number","within"] ["tables","look","at"] (δ nW):=⟨rfl,rfl,rfl,by decide +kernel,rfl,by decide +kernel,by decide +kernel⟩
abbrev iZ:Stmt:=top 26
theorem sO:aK ["tables","look","at"] ["tables","look","at"] (δ iZ):=⟨rfl,rfl,rfl,by decide +kernel,rfl,by decide +kernel,by decide +kernel⟩
abbrev jM:Stmt:=top 27
theorem jg:aK ["tables","look","nth","ahead","number"] ["tables","look","nth"] (δ jM):=⟨rfl,rfl,rfl,by decide +kernel,rfl,by decide +kernel,by decide +kernel⟩
abbrev gQ:Stmt:=top 28
theorem cj:aK ["tables","look","nth","many","ahead","noughts","number","turned"] ["tables","look","nth"] (δ gQ):=⟨rfl,rfl,rfl,by decide +kernel,rfl,by decide +kernel,by decide +kernel⟩
abbrev j8:Stmt:=top 29
theorem vg:aK ["nth","many"] ["nth","many"] (δ j8):=⟨rfl,rfl,rfl,by decide +kernel,rfl,by decide +kernel,by decide +kernel⟩
abbrev eU:Stmt:=top 30
theorem bN:aK ["numbers","goal","low","high","middle"] ["numbers","goal"] (δ eU):=⟨rfl,rfl,rfl,by decide +kernel,rfl,by decide +kernel,by decide +kernel⟩
abbrev ig:Stmt:=top 33
theorem jT:aK ["signs","sign"] ["signs"] (δ ig):=⟨rfl,rfl,rfl,by decide +kernel,rfl,by decide +kernel,by decide +kernel⟩
abbrev jn:Stmt:=top 34
theorem cV:aK ["signs","kinds","aheads","blocks","bits","row"] ["signs"] (δ jn):=⟨rfl,rfl,rfl,by decide +kernel,rfl,by decide +kernel,by decide +kernel⟩
abbrev ie:Stmt:=top 35
theorem eQ:aK ["kinds","signs","ranks","rank","kind"] ["kinds","signs"] (δ ie):=⟨rfl,rfl,rfl,by decide +kernel,rfl,by decide +kernel,by decide +kernel⟩
abbrev ir:Stmt:=top 36
theorem qK:aK ["kind_count"] ["kind_count"] (δ ir):=⟨rfl,rfl,rfl,by decide +kernel,rfl,by decide +kernel,by decide +kernel⟩
abbrev ju:Stmt:=top 37
theorem cW:aK ["ranks","kind_count","rows","order","k","bits"] ["ranks","kind_count"] (δ ju):=⟨rfl,rfl,rfl,by decide +kernel,rfl,by decide +kernel,by decide +kernel⟩
abbrev pW:Stmt:=top 38
theorem nA:aK ["order","bits","noughts","ones"] ["order","bits"] (δ pW):=⟨rfl,rfl,rfl,by decide +kernel,rfl,by decide +kernel,by decide +kernel⟩
abbrev jR:Stmt:=top 39
theorem eV:aK ["tables","look","levels","first","ahead"] ["tables","look"] (δ jR):=⟨rfl,rfl,rfl,by decide +kernel,rfl,by decide +kernel,by decide +kernel⟩
abbrev il:Stmt:=top 40
theorem gG:aK ["level","at","bit","row","look"] ["level","at","bit"] (δ il):=⟨rfl,rfl,rfl,by decide +kernel,rfl,by decide +kernel,by decide +kernel⟩
abbrev iy:Stmt:=top 41
theorem gJ:aK ["level","at","bit","row","look"] ["level","at","bit"] (δ iy):=⟨rfl,rfl,rfl,by decide +kernel,rfl,by decide +kernel,by decide +kernel⟩
abbrev gD:Stmt:=top 42
theorem pD:aK ["row"] ["row"] (δ gD):=⟨rfl,rfl,rfl,by decide +kernel,rfl,by decide +kernel,by decide +kernel⟩
abbrev fW:Stmt:=top 43
theorem nO:aK ["level","stretch","bit"] ["level","stretch","bit"] (δ fW):=⟨rfl,rfl,rfl,by decide +kernel,rfl,by decide +kernel,by decide +kernel⟩
abbrev jX:Stmt:=top 44
theorem uR:aK ["stretch"] ["stretch"] (δ jX):=⟨rfl,rfl,rfl,by decide +kernel,rfl,by decide +kernel,by decide +kernel⟩
abbrev dX:Stmt:=top 45
theorem bZ:aK ["levels","bits","stretch","found","level","bit"] ["levels","bits","stretch"] (δ dX):=⟨rfl,rfl,rfl,by decide +kernel,rfl,by decide +kernel,by decide +kernel⟩
abbrev jW:Stmt:=top 46
theorem uF:aK ["rank","levels"] ["rank","levels"] (δ jW):=⟨rfl,rfl,rfl,by decide +kernel,rfl,by decide +kernel,by decide +kernel⟩
abbrev ik:Stmt:=top 47
theorem qj:aK ["kinds","sign"] ["kinds","sign"] (δ ik):=⟨rfl,rfl,rfl,by decide +kernel,rfl,by decide +kernel,by decide +kernel⟩
abbrev nF:Stmt:=top 48
theorem ql:aK ["kinds","sign","rank"] ["kinds","sign"] (δ nF):=⟨rfl,rfl,rfl,by decide +kernel,rfl,by decide +kernel,by decide +kernel⟩
abbrev oA:Stmt:=top 49
theorem dJ:aK ["tables","look","at","rank","place","level","bit"] ["tables","look","at"] (δ oA):=⟨rfl,rfl,rfl,by decide +kernel,rfl,by decide +kernel,by decide +kernel⟩
abbrev iz:Stmt:=top 50
theorem gB:aK ["tables","look","sign","at","rank","levels"] ["tables","look","sign","at"] (δ iz):=⟨rfl,rfl,rfl,by decide +kernel,rfl,by decide +kernel,by decide +kernel⟩
abbrev iU:Stmt:=top 51
theorem bQ:aK ["tables","look","sign","nth","rank","levels","bits","stretch","place","level","bit"] ["tables","look","sign","nth"] (δ iU):=⟨rfl,rfl,rfl,by decide +kernel,rfl,by decide +kernel,by decide +kernel⟩
abbrev nY:Stmt:=top 52
theorem yF:aK ["tables","look","start","stop","low","high"] ["tables","look","start","stop","low","high"] (δ nY):=⟨rfl,rfl,rfl,by decide +kernel,rfl,by decide +kernel,by decide +kernel⟩
abbrev uV:Stmt:=top 53
theorem eO:aK ["tables","look","stretch","sign","rank","levels","lesser","rest","level","bit"] ["tables","look","stretch","sign"] (δ uV):=⟨rfl,rfl,rfl,by decide +kernel,rfl,by decide +kernel,by decide +kernel⟩
abbrev jr:Stmt:=top 54
theorem bx:aK ["tables","look","start","stop","nth","rank","ahead","stretch","level","noughts","bit"] ["tables","look","start","stop","nth"] (δ jr):=⟨rfl,rfl,rfl,by decide +kernel,rfl,by decide +kernel,by decide +kernel⟩
abbrev rn:Stmt:=top 55
theorem kW:aK ["tables","look","start","stop","found","level"] ["tables","look","start","stop"] (δ rn):=⟨rfl,rfl,rfl,by decide +kernel,rfl,by decide +kernel,by decide +kernel⟩
abbrev lL:Stmt:=top 56
theorem gW:aK ["level","found","parts","rank","stretch"] ["level","found"] (δ lL):=⟨rfl,rfl,rfl,by decide +kernel,rfl,by decide +kernel,by decide +kernel⟩
abbrev qi:Stmt:=top 57
theorem Bo:aK ["parts"] ["parts"] (δ qi):=⟨rfl,rfl,rfl,by decide +kernel,rfl,by decide +kernel,by decide +kernel⟩
abbrev j4:Stmt:=top 59
theorem vf:aK ["_law_found"] ["_law_found"] (δ j4):=⟨rfl,rfl,rfl,by decide +kernel,rfl,by decide +kernel,by decide +kernel⟩
abbrev jA:Stmt:=top 60
theorem cB:aK ["_law_cell","_law_ahead","_law_rest","_law_number","_law_kinds","_law_far","_law_found","_law_k"] ["_law_cell","_law_ahead"] (δ jA):=⟨rfl,rfl,rfl,by decide +kernel,rfl,by decide +kernel,by decide +kernel⟩
abbrev jP:Stmt:=top 61
theorem gq:aK ["_law_cells","_law_signs_here","_law_cell"] ["_law_cells"] (δ jP):=⟨rfl,rfl,rfl,by decide +kernel,rfl,by decide +kernel,by decide +kernel⟩
abbrev cO:Stmt:=top 62
theorem o4:aK ["_law_blocks","_law_seen","_law_told"] ["_law_blocks","_law_seen"] (δ cO):=⟨rfl,rfl,rfl,by decide +kernel,rfl,by decide +kernel,by decide +kernel⟩
abbrev nU:Stmt:=top 63
theorem qT:aK ["_law_seen","_law_size","_law_most","_law_number"] ["_law_seen","_law_size","_law_most"] (δ nU):=⟨rfl,rfl,rfl,by decide +kernel,rfl,by decide +kernel,by decide +kernel⟩
abbrev jq:Stmt:=top 64
theorem iu:aK ["_law_cell","_law_signs_here","_law_rest","_law_near"] ["_law_cell","_law_signs_here"] (δ jq):=⟨rfl,rfl,rfl,by decide +kernel,rfl,by decide +kernel,by decide +kernel⟩
abbrev jQ:Stmt:=top 65
theorem cC:aK ["_law_way","_law_signs_here","_law_cell","_law_many","_law_one","_law_other","_law_start","_law_stop"] ["_law_way","_law_signs_here","_law_cell"] (δ jQ):=⟨rfl,rfl,rfl,by decide +kernel,rfl,by decide +kernel,by decide +kernel⟩
abbrev nM:Stmt:=top 66
theorem lK:aK ["_law_way","_law_signs_here","_law_parts_here","_law_places","_law_part"] ["_law_way","_law_signs_here","_law_parts_here"] (δ nM):=⟨rfl,rfl,rfl,by decide +kernel,rfl,by decide +kernel,by decide +kernel⟩
abbrev jb:Stmt:=top 67
theorem tu:aK ["_law_way","_law_tables","_law_look_here","_law_parts_here"] ["_law_way","_law_tables","_law_look_here","_law_parts_here"] (δ jb):=⟨rfl,rfl,rfl,by decide +kernel,rfl,by decide +kernel,by decide +kernel⟩
abbrev jk:Stmt:=top 68
theorem fO:aK ["_law_way","_law_tables","_law_look_here","_law_parts_here","_law_told_here"] ["_law_way","_law_tables","_law_look_here","_law_parts_here"] (δ jk):=⟨rfl,rfl,rfl,by decide +kernel,rfl,by decide +kernel,by decide +kernel⟩
abbrev j5:Stmt:=top 69
theorem jd:aK ["_law_found","_law_due_here","_law_row","_law_other"] ["_law_found","_law_due_here"] (δ j5):=⟨rfl,rfl,rfl,by decide +kernel,rfl,by decide +kernel,by decide +kernel⟩
abbrev gK:Stmt:=top 70
theorem bf:aK ["_law_row","_law_cell","_law_signs_here","_law_number","_law_way","_law_parts_here","_law_due_here","_law_seen","_law_found","_law_levels","_law_most"] ["_law_row","_law_cell"] (δ gK):=⟨rfl,rfl,rfl,by decide +kernel,rfl,by decide +kernel,by decide +kernel⟩
abbrev Dw:Stmt:=top 71
theorem lD:aK ["_law_script","_law_cells","_law_rows","_law_signs_here","_law_handed","_law_found","_law_cell"] ["_law_script"] (δ Dw):=⟨rfl,rfl,rfl,by decide +kernel,rfl,by decide +kernel,by decide +kernel⟩
abbrev cI:Stmt:=(μ cu).getD 0 (.Pass ⟨0,0,0,0⟩)
abbrev aZ:pG:=lamOf cI "look_from.<locals>.<lambda>" ["number"] ["look","first"]
theorem nj:qI ["number","look","first"] aZ:=⟨rfl,rfl,rfl,by decide +kernel,rfl,by decide +kernel,by decide +kernel,by decide +kernel,by decide +kernel⟩
theorem uY:Dh ["look","first"] "look_from" (δ cu) aZ [0,1] (λL=>[L+1,L+2]):=⟨λ_ _ _=>rfl,λ_ _ _=>rfl,λ_ _ _=>rfl,λL=>by simp,λ_=>rfl,λL f c j a h=>match j,h with|0,h=>⟨"look",0,by cases h;rfl,by decide +kernel,rfl,rfl⟩|1,h=>⟨"first",1,by cases h;rfl,by decide +kernel,rfl,rfl⟩|j+2,h=>absurd h (by simp)⟩
abbrev dN:Stmt:=(μ cO).getD 0 (.Pass ⟨0,0,0,0⟩)
abbrev bL:oH:=JB dN "_law_look.<locals>._law_told" ["_law_number"] ["_law_seen","_law_blocks"]
theorem wQ:pY ["_law_number","_law_seen","_law_blocks"] bL:=⟨rfl,rfl,rfl,by decide +kernel,rfl,by decide +kernel,by decide +kernel,by decide +kernel,by decide +kernel⟩
theorem v7:Hu ["_law_blocks","_law_seen","_law_told"] "_law_look" (δ cO) bL 2 [1,0] (λL=>[L+2,L+1]):=⟨o4.nd,rfl,by decide +kernel,λ_ _ _=>rfl,λ_ _ _=>rfl,rfl,rfl,λ_ _ _=>rfl,λL=>by simp,λ_=>rfl,λL f c j a h=>match j,h with|0,h=>⟨"_law_seen",1,by cases h;rfl,by decide +kernel,rfl,rfl,by decide⟩|1,h=>⟨"_law_blocks",0,by cases h;rfl,by decide +kernel,rfl,rfl,by decide⟩|j+2,h=>absurd h (by simp),by decide,by decide⟩
structure FI(K:PySem.W.Frag)(n:Str)(st:Stmt)(f:Addr)(fd:FuncData):Prop where
 a:PySem.W.nsIn K mainGlobals n=some (some (.ref f))
 F:MJ K n n st f fd
theorem JC{α:Type}{C:List α->Prop}{us:List α}(hl:us.length=1)(h:∀x0,C [x0]):C us:=match us,hl with | [_],_=>h _
theorem MP{K:PySem.W.Frag}{h:Heap}{mg:Str->Option Value}{n p0:Str}{st:Stmt}{f:Addr}{fd:FuncData}(X:K.In h)(G:h.Ns mainGlobals mg)(d:FI K n st f fd)(b:∀(kV doc pm:Value) (an:Option Addr) (cdv ct:Value) (x0:Value),bindArgs (PySem.W.fnOf n n (ν st) (μ st) (δ st) .none kV doc pm an cdv ct) ⟨[x0],[]⟩=pure (acd [p0] [x0])):Df K mg n st [p0] f fd:=⟨d.F,d.F.binds (ps:=[p0]) λkV doc pm an cdv ct us hl=>JC (C:=λus=>bindArgs _ ⟨us,[]⟩=pure (acd ([p0]:List Str) us)) hl (b kV doc pm an cdv ct),PySem.W.mg_of X G d.a⟩
theorem Eu{α:Type}{C:List α->Prop}{us:List α}(hl:us.length=2)(h:∀x0 x1,C [x0,x1]):C us:=match us,hl with | [_,_],_=>h _ _
theorem Mp{K:PySem.W.Frag}{h:Heap}{mg:Str->Option Value}{n p0 p1:Str}{st:Stmt}{f:Addr}{fd:FuncData}(X:K.In h)(G:h.Ns mainGlobals mg)(d:FI K n st f fd)(b:∀(kV doc pm:Value) (an:Option Addr) (cdv ct:Value) (x0 x1:Value),bindArgs (PySem.W.fnOf n n (ν st) (μ st) (δ st) .none kV doc pm an cdv ct) ⟨[x0,x1],[]⟩=pure (acd [p0,p1] [x0,x1])):Df K mg n st [p0,p1] f fd:=⟨d.F,d.F.binds (ps:=[p0,p1]) λkV doc pm an cdv ct us hl=>Eu (C:=λus=>bindArgs _ ⟨us,[]⟩=pure (acd ([p0,p1]:List Str) us)) hl (b kV doc pm an cdv ct),PySem.W.mg_of X G d.a⟩
theorem JF{α:Type}{C:List α->Prop}{us:List α}(hl:us.length=3)(h:∀x0 x1 x2,C [x0,x1,x2]):C us:=match us,hl with | [_,_,_],_=>h _ _ _
theorem M9{K:PySem.W.Frag}{h:Heap}{mg:Str->Option Value}{n p0 p1 p2:Str}{st:Stmt}{f:Addr}{fd:FuncData}(X:K.In h)(G:h.Ns mainGlobals mg)(d:FI K n st f fd)(b:∀(kV doc pm:Value) (an:Option Addr) (cdv ct:Value) (x0 x1 x2:Value),bindArgs (PySem.W.fnOf n n (ν st) (μ st) (δ st) .none kV doc pm an cdv ct) ⟨[x0,x1,x2],[]⟩=pure (acd [p0,p1,p2] [x0,x1,x2])):Df K mg n st [p0,p1,p2] f fd:=⟨d.F,d.F.binds (ps:=[p0,p1,p2]) λkV doc pm an cdv ct us hl=>JF (C:=λus=>bindArgs _ ⟨us,[]⟩=pure (acd ([p0,p1,p2]:List Str) us)) hl (b kV doc pm an cdv ct),PySem.W.mg_of X G d.a⟩
theorem JH{α:Type}{C:List α->Prop}{us:List α}(hl:us.length=4)(h:∀x0 x1 x2 x3,C [x0,x1,x2,x3]):C us:=match us,hl with | [_,_,_,_],_=>h _ _ _ _
theorem Qa{K:PySem.W.Frag}{h:Heap}{mg:Str->Option Value}{n p0 p1 p2 p3:Str}{st:Stmt}{f:Addr}{fd:FuncData}(X:K.In h)(G:h.Ns mainGlobals mg)(d:FI K n st f fd)(b:∀(kV doc pm:Value) (an:Option Addr) (cdv ct:Value) (x0 x1 x2 x3:Value),bindArgs (PySem.W.fnOf n n (ν st) (μ st) (δ st) .none kV doc pm an cdv ct) ⟨[x0,x1,x2,x3],[]⟩=pure (acd [p0,p1,p2,p3] [x0,x1,x2,x3])):Df K mg n st [p0,p1,p2,p3] f fd:=⟨d.F,d.F.binds (ps:=[p0,p1,p2,p3]) λkV doc pm an cdv ct us hl=>JH (C:=λus=>bindArgs _ ⟨us,[]⟩=pure (acd ([p0,p1,p2,p3]:List Str) us)) hl (b kV doc pm an cdv ct),PySem.W.mg_of X G d.a⟩
theorem JW{α:Type}{C:List α->Prop}{us:List α}(hl:us.length=5)(h:∀x0 x1 x2 x3 x4,C [x0,x1,x2,x3,x4]):C us:=match us,hl with | [_,_,_,_,_],_=>h _ _ _ _ _
theorem df5{K:PySem.W.Frag}{h:Heap}{mg:Str->Option Value}{n p0 p1 p2 p3 p4:Str}{st:Stmt}{f:Addr}{fd:FuncData}(X:K.In h)(G:h.Ns mainGlobals mg)(d:FI K n st f fd)(b:∀(kV doc pm:Value) (an:Option Addr) (cdv ct:Value) (x0 x1 x2 x3 x4:Value),bindArgs (PySem.W.fnOf n n (ν st) (μ st) (δ st) .none kV doc pm an cdv ct) ⟨[x0,x1,x2,x3,x4],[]⟩=pure (acd [p0,p1,p2,p3,p4] [x0,x1,x2,x3,x4])):Df K mg n st [p0,p1,p2,p3,p4] f fd:=⟨d.F,d.F.binds (ps:=[p0,p1,p2,p3,p4]) λkV doc pm an cdv ct us hl=>JW (C:=λus=>bindArgs _ ⟨us,[]⟩=pure (acd ([p0,p1,p2,p3,p4]:List Str) us)) hl (b kV doc pm an cdv ct),PySem.W.mg_of X G d.a⟩
theorem Js{α:Type}{C:List α->Prop}{us:List α}(hl:us.length=6)(h:∀x0 x1 x2 x3 x4 x5,C [x0,x1,x2,x3,x4,x5]):C us:=match us,hl with | [_,_,_,_,_,_],_=>h _ _ _ _ _ _
theorem df6{K:PySem.W.Frag}{h:Heap}{mg:Str->Option Value}{n p0 p1 p2 p3 p4 p5:Str}{st:Stmt}{f:Addr}{fd:FuncData}(X:K.In h)(G:h.Ns mainGlobals mg)(d:FI K n st f fd)(b:∀(kV doc pm:Value) (an:Option Addr) (cdv ct:Value) (x0 x1 x2 x3 x4 x5:Value),bindArgs (PySem.W.fnOf n n (ν st) (μ st) (δ st) .none kV doc pm an cdv ct) ⟨[x0,x1,x2,x3,x4,x5],[]⟩=pure (acd [p0,p1,p2,p3,p4,p5] [x0,x1,x2,x3,x4,x5])):Df K mg n st [p0,p1,p2,p3,p4,p5] f fd:=⟨d.F,d.F.binds (ps:=[p0,p1,p2,p3,p4,p5]) λkV doc pm an cdv ct us hl=>Js (C:=λus=>bindArgs _ ⟨us,[]⟩=pure (acd ([p0,p1,p2,p3,p4,p5]:List Str) us)) hl (b kV doc pm an cdv ct),PySem.W.mg_of X G d.a⟩
set_option genInjectivity false in
set_option genSizeOf false in
structure Ad where
 Ox:Addr
 Le:Addr
 Oz:Addr
 MT:Addr
 VM:Addr
 VN:FuncData
 VP:Addr
 VR:FuncData
 VV:Addr
 V0:FuncData
 V1:Addr
 V2:FuncData
 V3:Addr
 V4:FuncData
 V5:Addr
 V6:FuncData
 V7:Addr
 V8:FuncData
 V9:Addr
 Tn:FuncData
 Wa:Addr
 Wb:FuncData
 Wc:Addr
 Wd:FuncData
 We:Addr
 Wf:FuncData
 Wg:Addr
 Wh:FuncData
 Wi:Addr
 Wj:FuncData
 Wk:Addr
 Wl:FuncData
 Wm:Addr
 Wn:FuncData
 Wo:Addr
 Wq:FuncData
 Wr:Addr
 Ws:FuncData
 Wt:Addr
 Wu:FuncData
 Wv:Addr
 Ww:FuncData
 Wx:Addr
 Wy:FuncData
 Wz:Addr
 WD:FuncData
 WF:Addr
 WK:FuncData
 WL:Addr
 WM:FuncData
 WN:Addr
 WP:FuncData
 WQ:Addr
 WR:FuncData
 WT:Addr
 WW:FuncData
 WX:Addr
 WY:FuncData
 W0:Addr
 W2:FuncData
 W3:Addr
 W4:FuncData
 W5:Addr
 W6:FuncData
 W7:Addr
 W8:FuncData
 W9:Addr
 Xa:FuncData
 Xb:Addr
 Xc:FuncData
 Xd:Addr
 Xe:FuncData
 Xf:Addr
 Xg:FuncData
 Xh:Addr
 Xi:FuncData
 Xj:Addr
 Xk:FuncData
 Xl:Addr
 Xm:FuncData
 Xn:Addr
 Xo:FuncData
 Xp:Addr
 Xq:FuncData
 Xr:Addr
 Xu:FuncData
 Xv:Addr
 Xw:FuncData
 Xx:Addr
 Xy:FuncData
 Xz:Addr
 XC:FuncData
 XD:Addr
 XF:FuncData
 XH:Addr
 XJ:FuncData
 XM:Addr
 XN:FuncData
 XQ:Addr
 XR:FuncData
 XS:Addr
 Tq:FuncData
 XX:Addr
 X3:FuncData
 X4:Addr
 X5:FuncData
 X6:Addr
 X7:FuncData
 X8:Addr
 Yb:FuncData
 Yc:Addr
 Yd:FuncData
 f_law_told_t:Addr
 fd_law_told_t:FuncData
 Ye:Addr
 Yg:FuncData
 Yh:Addr
 Yi:FuncData
 Yj:Addr
 Yk:FuncData
 t_BLOCK_BITS:Tok
 t_MOST_BITS:Tok
 t_MOST_SIGNS:Tok
 Ln:Addr
structure Tx(K:PySem.W.Frag)(mg:Str->Option Value)(a:Ad):Prop where
 Yl:Df K mg "packed" rG ["bits"] a.VM a.VN
 Ym:Df K mg "check_row" jZ ["bits"] a.VP a.VR
 Yn:Df K mg "block_of" lV ["bits"] a.VV a.V0
 Rz:Df K mg "bit_in" q9 ["block","k"] a.V1 a.V2
 RB:Df K mg "bits_of" oJ ["block","upto"] a.V3 a.V4
 Tr:Df K mg "ones_in" nq ["block","upto"] a.V5 a.V6
 Tt:Df K mg "one_in" qx ["block","nth"] a.V7 a.V8
 Yo:Df K mg "look_from" cu ["look","first"] a.V9 a.Tn
 Yp:Df K mg "size_of" nR ["many"] a.Wa a.Wb
 RC:Df K mg "check_stretch" fX ["many","start","stop"] a.Wc a.Wd
 Yq:Df K mg "kept_row" lG ["bits"] a.We a.Wf
 Yr:Df K mg "ahead_of" lC ["blocks"] a.Wg a.Wh
 QL:Df K mg "check_place" iw ["at","most"] a.Wi a.Wj
 Ys:Df K mg "bit_at" qQ ["tables","look","at"] a.Wk a.Wl
 Tu:Df K mg "ones_at" nW ["tables","look","at"] a.Wm a.Wn
 Yt:Df K mg "noughts_at" iZ ["tables","look","at"] a.Wo a.Wq
 Yu:Df K mg "one_place" jM ["tables","look","nth"] a.Wr a.Ws
 Yv:Df K mg "nought_place" gQ ["tables","look","nth"] a.Wt a.Wu
 QM:Df K mg "check_nth" j8 ["nth","many"] a.Wv a.Ww
 RD:Df K mg "last_no_greater" eU ["numbers","goal"] a.Wx a.Wy
 Yw:Df K mg "check_signs" ig ["signs"] a.Wz a.WD
 Yx:Df K mg "kept_signs" jn ["signs"] a.WF a.WK
 Yy:Df K mg "ranks_among" ie ["kinds","signs"] a.WL a.WM
 Yz:Df K mg "level_count" ir ["kind_count"] a.WN a.WP
 YB:Df K mg "level_rows" ju ["ranks","kind_count"] a.WQ a.WR
 YC:Df K mg "parted" pW ["order","bits"] a.WT a.WW
 Pu:Df K mg "levels_of" jR ["tables","look"] a.WX a.WY
 RG:Df K mg "place_below" il ["level","at","bit"] a.W0 a.W2
 YD:Df K mg "place_above" iy ["level","at","bit"] a.W3 a.W4
 Tv:Df K mg "nought_count" gD ["row"] a.W5 a.W6
 OD:Df K mg "stretch_below" fW ["level","stretch","bit"] a.W7 a.W8
 OJ:Df K mg "length_of" jX ["stretch"] a.W9 a.Xa
 Tz:Df K mg "stretch_of_rank" dX ["levels","bits","stretch"] a.Xb a.Xc
 RJ:Df K mg "rank_bits" jW ["rank","levels"] a.Xd a.Xe
 TF:Df K mg "kinds_below" ik ["kinds","sign"] a.Xf a.Xg
 TJ:Df K mg "rank_of" nF ["kinds","sign"] a.Xh a.Xi
 YF:Df K mg "sign_at" oA ["tables","look","at"] a.Xj a.Xk
 YG:Df K mg "signs_ahead" iz ["tables","look","sign","at"] a.Xl a.Xm
 YH:Df K mg "sign_place" iU ["tables","look","sign","nth"] a.Xn a.Xo
 YJ:Df K mg "between" nY ["tables","look","start","stop","low","high"] a.Xp a.Xq
 TQ:Df K mg "below" uV ["tables","look","stretch","sign"] a.Xr a.Xu
 YK:Df K mg "so_manieth" jr ["tables","look","start","stop","nth"] a.Xv a.Xw
 YL:Df K mg "unlike" rn ["tables","look","start","stop"] a.Xx a.Xy
 YM:Df K mg "split_up" lL ["level","found"] a.Xz a.XC
 TV:Df K mg "filled" qi ["parts"] a.XD a.XF
 QQ:Df K mg "_law_whole" j4 ["_law_found"] a.XH a.XJ
 YQ:Df K mg "_law_piece" jA ["_law_cell","_law_ahead"] a.XM a.XN
 TX:Df K mg "_law_signs" jP ["_law_cells"] a.XQ a.XR
 YS:Df K mg "_law_look" cO ["_law_blocks","_law_seen"] a.XS a.Tq
 YT:Df K mg "_law_few" nU ["_law_seen","_law_size","_law_most"] a.XX a.X3
 QR:Df K mg "_law_sought" jq ["_law_cell","_law_signs_here"] a.X4 a.X5
 YW:Df K mg "_law_parts" jQ ["_law_way","_law_signs_here","_law_cell"] a.X6 a.X7
 YX:Df K mg "_law_due" nM ["_law_way","_law_signs_here","_law_parts_here"] a.X8 a.Yb
 YZ:Df K mg "_law_answer" jb ["_law_way","_law_tables","_law_look_here","_law_parts_here"] a.Yc a.Yd
 D_law_told_t:Df K mg "_law_told" jk ["_law_way","_law_tables","_law_look_here","_law_parts_here"] a.f_law_told_t a.fd_law_told_t
 Y0:Df K mg "_law_alike" j5 ["_law_found","_law_due_here"] a.Ye a.Yg
 Y4:Df K mg "_law_one_good" gK ["_law_row","_law_cell"] a.Yh a.Yi
 ad9:Df K mg "law" Dw ["_law_script"] a.Yj a.Yk
 aea:mg "abs" = none
 ad7:mg "bool" = none
 Y5:mg "enumerate" = none
 aeb:mg "int" = none
 QS:mg "isinstance" = none
 Lg:mg "len" = none
 QT:mg "list" = none
 aec:mg "max" = none
 TY:mg "min" = none
 Og:mg "range" = none
 T3:mg "reversed" = none
 T4:mg "set" = none
 T5:mg "sorted" = none
 aed:mg "sum" = none
 RK:mg "tuple" = none
 Qc:mg "zip" = none
 NB:mg "BLOCK_BITS" = some (.int 32 a.t_BLOCK_BITS)
 adw:mg "MOST_BITS" = some (.int 4096 a.t_MOST_BITS)
 adt:mg "MOST_SIGNS" = some (.int 4096 a.t_MOST_SIGNS)
 ad8:mg "NoPlace" = some (.ref a.Ln)
 QV:Exc K mg "NoPlace" a.Ln
 adR:HD K a.Ln
 QW:PySem.W.kitOne K (.ref a.Ln) (.ref a.Ln)=some true
 RL:PySem.W.kitOne K (.ref a.Ln) (.type "ValueError")=some true
 adx:a.Tn.code=.ref a.Ox
 adO:a.Tq.code=.ref a.Oz
structure Bs(mg:Str->Option Value)(base:Heap)(a:Ad):Prop where
 bm:BMain mg base
 ady:PySem.W.CodeHd base a.Ox a.Le
 adP:PySem.W.CodeHd base a.Oz a.MT
 aaU:a.Le≠a.MT
theorem Di(kvs:List (Key×V))(k:Key)(v:V):(putK kvs k v).length<=kvs.length+1:=by
 cases h:gn kvs k with
 | none=>rw[DY v h,aae];exact aad _
 | some x =>
  unfold putK;rw[iM,h];simp
theorem cX.out{H:Hp}{f b:Addr}{c:oH}{cs:List Addr}{K8:List V}{xs:List V}(h:cX H f c cs K8)(e:H b=some (.lst xs)):b∉cs:=λz=>by
 obtain⟨i,hi⟩:=aaL z;obtain⟨co,v,u,_,e2,_⟩:=h.cells i b hi;rw[e]at e2;cases e2
theorem TabAt.same{H H':Hp}{P:Addr}{pos:Pos}{q:Str}(h:TabAt H P pos q)(s:aV H H'):TabAt H' P pos q:=by
 obtain⟨ps,h1,h2,h3⟩:=h;refine⟨ps,s _ _ h1,h2,?_⟩;rcases h3 with h3|⟨cd,oc,vs,t,h4,h5,h6⟩
 ·exact .inl h3
 ·exact .inr ⟨cd,oc,vs,t,h4,s _ _ h5,h6⟩
def mC(P:Addr)(H H':Hp):Prop:=∀b o,H b=some o->b≠P->H' b=some o
theorem mC.trans{P:Addr}{H H1 H2:Hp}(s:mC P H H1)(s2:mC P H1 H2):mC P H H2:=λb o e n=>s2 b o (s b o e n) n
theorem TabAt.ex{H:Hp}{P:Addr}{pos:Pos}{q:Str}(h:TabAt H P pos q):∃o,H P=some o:=by
 obtain⟨ps,h1,_⟩:=h;exact⟨_,h1⟩
theorem TabAt.ne{H:Hp}{P b:Addr}{pos:Pos}{q:Str}{o:HO}(h:TabAt H P pos q)(e:H b=some o)(n:∀ps,o ≠ .Ld ps):b≠P:=λz=>by
 obtain⟨ps,h1,_⟩:=h;rw[z,h1]at e;cases e;exact n _ rfl
theorem TabAt.upd{H:Hp}{P x:Addr}{pos:Pos}{q:Str}{xs ys:List V}(h:TabAt H P pos q)(e:H x=some (.lst xs)):TabAt (L2.upd H x (.lst ys)) P pos q:=by
 obtain⟨ps,h1,h2,h3⟩:=h;have ne:∀b o,H b=some o->(∀zs,o ≠ .lst zs)->L2.upd H x (.lst ys) b=some o:=λb o e2 n=>by
  rw[aD (λz=>by rw[z,e]at e2;cases e2;exact n _ rfl)];exact e2
 refine⟨ps,ne _ _ h1 nofun,h2,?_⟩;rcases h3 with h3|⟨cd,oc,vs,t,h4,h5,h6⟩
 ·exact .inl h3
 ·exact .inr ⟨cd,oc,vs,t,h4,ne _ _ h5 nofun,h6⟩
theorem mC.free{P:Addr}{H H1:Hp}(s:mC P H H1){l:Addr}(hP:∃o,H1 P=some o)(h:H1 l=none):H l=none:=by
 cases e:H l with
 | none=>rfl
 | some o =>
  by_cases z:l=P
  ·obtain⟨o,ho⟩:=hP;rw[z,ho]at h;cases h
  ·rw[s l o e z]at h;cases h
theorem Fp(k:Nat)(v:Int):(aaQ k [V.int v]).flatten=(aaQ k v).map V.int:=by
 induction k with
 | zero=>rfl
 | succ k ih=>rw[abq,abh,ih,abq];rfl
structure LK where
 f:Addr
 wr:Option Addr
 bl:Addr
 off:Nat
 all:List V
def LK.put(L:LK)(H:Hp)(ss:List Int):Hp:=match L.wr with
 | some sn=>upd H sn (.lst (ss.map V.int))
 | none=>H
inductive jF(H:Hp)(L:LK):Prop
 | mk (sn g:Addr) (cs cs':List Addr) (_:L.wr=some sn) (_:sn≠L.bl) (_:iQ H L.f aZ cs [.ref g,.int (L.off:Int)]) (_:cX (hide H cs) g bL cs' [.ref sn,.ref L.bl])
theorem Am{H:Hp}{cs:List Addr}{b:Addr}{o:HO}(h:hide H cs b=some o):b∉cs/\H b=some o:=by
 by_cases z:b∈cs
 ·rw[kJ z]at h;cases h
 ·rw[bw z]at h;exact⟨z,h⟩
theorem cX.hid{H H':Hp}{g:Addr}{c:oH}{cs cs':List Addr}{K8:List V}(h:cX (hide H cs) g c cs' K8)(s:∀b o,H b=some (aQ b o)->H' b=some (aQ b o)):cX (hide H' cs) g c cs' K8:=h.same λb o e=>by
 obtain⟨z,e⟩:=Am e;rw[bw z];exact s b o e
theorem cX.hid2{H H':Hp}{g:Addr}{c:oH}{cs cs':List Addr}{K8:List V}(h:cX H g c cs' K8)(f:∀b∈cs,H b=none)(s:∀b o,H b=some (aQ b o)->H' b=some (aQ b o)):cX (hide H' cs) g c cs' K8:=h.same λb o e=>by
 rw[bw λz=>by rw[f b z]at e;cases e];exact s b o e
theorem jF.fn{H:Hp}{L:LK}(h:jF H L):∃o fd,H L.f=some (aQ L.f o)/\o.data=.func fd:=by
 obtain⟨sn,g,cs,cs',_,_,ca,_⟩:=h;obtain⟨cd,pm,ctv,oc,vs,t,h1,_⟩:=ca.ex;exact⟨_,_,h1,rfl⟩
theorem jF.kept{H H':Hp}{L:LK}(h:jF H L)(s:∀b o,H b=some o->(∀ps,o ≠ .Ld ps)->(∀ps,o ≠ .lst ps)->H' b=some o):jF H' L:=by
 obtain⟨sn,g,cs,cs',h1,h2,ca,cg⟩:=h;exact⟨sn,g,cs,cs',h1,h2,ca.same λb o e=>s _ _ e nofun nofun,cX.hid cg λb o e=>s _ _ e nofun nofun⟩
theorem jF.same{H H':Hp}{L:LK}(h:jF H L)(s:aV H H'):jF H' L:=h.kept λb o e _ _=>s _ _ e
structure Asks(H:Hp)(L:LK)(ss:List Int):Prop where
 look:jF H L
 seen:∀sn,L.wr=some sn->H sn=some (.lst (ss.map V.int))/\sn≠L.bl
 nodes:H L.bl=some (.lst L.all)
 few:ss.length<=1000000
theorem Asks.same{H H':Hp}{L:LK}{ss:List Int}(h:Asks H L ss)(s:aV H H'):Asks H' L ss:=⟨h.look.same s,λsn e=>⟨s _ _ (h.seen sn e).1,(h.seen sn e).2⟩,s _ _ h.nodes,h.few⟩
theorem LK.put_none{L:LK}(e:L.wr=none)(H:Hp)(ss:List Int):L.put H ss=H:=by unfold LK.put;rw[e]
theorem LK.put_some{L:LK}{sn:Addr}(e:L.wr=some sn)(H:Hp)(ss:List Int):L.put H ss=upd H sn (.lst (ss.map V.int)):=by unfold LK.put;rw[e]
theorem LK.put_ne{L:LK}{b:Addr}(n:L.wr≠some b)(H:Hp)(ss:List Int):L.put H ss b=H b:=by
 cases e:L.wr with
 | none=>rw[LK.put_none e]
 | some sn=>rw[LK.put_some e,aD (λz=>n (by rw[e,z]))]
theorem Asks.id{H:Hp}{L:LK}{ss:List Int}(h:Asks H L ss):L.put H ss=H:=by
 cases e:L.wr with
 | none=>rw[LK.put_none e]
 | some sn=>rw[LK.put_some e];exact Hy (h.seen sn e).1
theorem Asks.putN{H:Hp}{L:LK}{ss tt:List Int}{b:Addr}{o:HO}(h:Asks H L ss)(e:H b=some o)(n:∀xs,o ≠ .lst xs):L.put H tt b=some o:=by
 rw[LK.put_ne (λz=>?_)]
 ·exact e
 ·rw[(h.seen b z).1]at e;cases e;exact n _ rfl
theorem Asks.putT{H:Hp}{L:LK}{ss tt:List Int}{b:Addr}{xs:List V}(h:Asks H L ss)(e:H b=some (.tup xs)):L.put H tt b=some (.tup xs):=h.putN e nofun
theorem LK.put_same{L:LK}{H H':Hp}{tt:List Int}(s:aV H H'):aV (L.put H tt) (L.put H' tt):=by
 cases e:L.wr with
 | none =>
  rw[LK.put_none e,LK.put_none e];exact s
 | some sn =>
  rw[LK.put_some e,LK.put_some e];intro b o z;by_cases y:b=sn
  ·subst y;rw[aq]at z ⊢;exact z
  ·rw[aD y]at z ⊢;exact s b o z
inductive Fv(f:Addr)(vs:List V)(H:Hp)(Q:VK)(_e1:XK):Prop
 | mk (L:LK) (ss:List Int) (n:Nat) (x:V) (_:f=L.f) (_:vs=[.int (n:Int)]) (_:Asks H L ss) (_:ss.length<1000000) (_:L.all[L.off+n]?=some x) (_:Q x (L.put H (ss++[((L.off+n:Nat):Int)])))
section
variable{P:Program}{w:World}{K:PySem.W.Frag}{mg:Str->Option Value}{base:Heap}{a:Ad}
theorem Ff(x:Int):Builtin.bitAnd x 1=x%2:=by
 unfold Builtin.bitAnd;by_cases hx:0<=x
 ·simp[hx];lia
 ·simp[hx];unfold Builtin.bitNot;lia
inductive Ba(vs:List V)(H:Hp)(Q:VK)(_e1:XK):Prop
 | mk (b k:Int) (_:vs=[.int b,.int k]) (_:0<=k) (_:Q (.int (bit b k.toNat)) H)
theorem n6(T:Tx K mg a):bh P w K mg base K9 1 a.V1 a.V2 ["block","k"] Ba:=by
 refine T.Rz.F.ok Cr (λvs H Q E h=>?_) (λcdv A outer s H vs Q E hr h=>?_)
 ·obtain⟨b,k,rfl,_⟩:=h;rfl
 obtain⟨b,k,rfl,h0,q⟩:=h;refine⟨_,(az (aG (aA Jh (aA Ij (pv 0) (pv 1)) aj))),?_⟩;refine⟨_,rfl,_,rfl,_,_,rfl,rfl,h0,_,_,rfl,rfl,?_⟩;have e:Builtin.bitAnd (b / 2^k.toNat) 1=bit b k.toNat:=Ff _;show Q (.int (Builtin.bitAnd (b / 2^k.toNat) 1)) H;rw[e];exact q
inductive yK(vs:List V)(H:Hp)(Q:VK)(_e1:XK):Prop
 | mk (b n:Int) (_:vs=[.int b,.int n]) (_:0<=n) (_:n<=32) (_:∀r,H r=none->Q (.ref r) (upd H r (.lst ((bits b n.toNat).map V.int))))
theorem lR(T:Tx K mg a):bh P w K mg base K9 2 a.V3 a.V4 ["block","upto"] yK:=by
 refine T.RB.F.ok yW (λvs H Q E h=>?_) (λcdv A outer s H vs Q E hr h=>?_)
 ·obtain⟨b,n,rfl,_⟩:=h;rfl
 obtain⟨b,n,rfl,h0,h1,q⟩:=h;refine⟨_,(az (aG (fP rfl (bM.one (j:=0) rfl (aai rfl) rfl rfl (aai rfl)) (fB rfl T.Og (aa (pv 1) ao)) (λ_ _ _ _=>jc) (λ_ _ _ _=>(aL T.Rz (n6 T) (by decide) hr aR rfl (aa (pv 1) (aa (pv 0) ao))))))),?_⟩;refine⟨_,rfl,n,rfl,by lia,by lia,?_⟩;refine Cu (λj=>bit b j) (by rw[sizeLine_eq];lia) (λ_ _ _ q=>q) (λj H' Q hj sm q=>⟨_,rfl,_,rfl,_,_,rfl,by lia,?_⟩) λD hD=>q D hD;rw[show ((0:Int)+(j:Int)).toNat=j from by lia];exact q
inductive yU(vs:List V)(H:Hp)(Q:VK)(_e1:XK):Prop
 | mk (b n:Int) (_:vs=[.int b,.int n]) (_:0<=n) (_:n<=32) (_:∀H',aV H H'->Q (.int (ones b n.toNat)) H')
theorem qy(T:Tx K mg a):bh P w K mg base K9 3 a.V5 a.V6 ["block","upto"] yU:=by
 refine T.Tr.F.ok yZ (λvs H Q E h=>?_) (λcdv A outer s H vs Q E hr h=>?_)
 ·obtain⟨b,n,rfl,_⟩:=h;rfl
 obtain⟨b,n,rfl,h0,h1,q⟩:=h;refine⟨_,(az (aG (aN (DX rfl) rfl T.aed Tw.Jk (aa (aL T.RB (lR T) (by decide) hr aR rfl (aa (pv 0) (aa (pv 1) ao))) ao)))),?_⟩;exact⟨_,rfl,_,rfl,b,n,rfl,h0,h1,λr hr'=>⟨r,bits b n.toNat,rfl,K5.of aq,q _ (au hr' _)⟩⟩
inductive xR(K:PySem.W.Frag)(vs:List V)(H:Hp)(Q:VK)(_e1:XK):Prop
 | mk (p:Addr) (ns:List Int) (_:vs=[.ref p]) (_:K5 K H p (ns.map V.int)) (_:Q (.int (blk ns)) H)
theorem xu(T:Tx K mg a):bh P w K mg base K9 1 a.VV a.V0 ["bits"] (xR K):=by
 refine T.Yn.F.ok gY (λvs H Q E h=>?_) (λcdv A outer s H vs Q E hr h=>?_)
 ·obtain⟨p,ns,rfl,_⟩:=h;rfl
 obtain⟨p,ns,rfl,hS,q⟩:=h;refine⟨_,(ak (aC (i:=1) gY.nd rfl (aai rfl) aj)
  (ak (b8 PassesOwn.never rfl (Fj rfl T.T3 (aa (pv 0) ao) Tw.jJ) (aX (i:=2) gY.nd rfl (aai rfl)) (az (aC (i:=1) gY.nd rfl (aai rfl) (aA bG (aA bT aj (pv 1)) (pv 2)))))
  (az (aG (pv 1))))),?_⟩
 refine⟨_,rfl,p,_,rfl,hS,?_⟩;refine zO (xs:=ns.map V.int) (λi σ H'=>(∃k,σ=[some (.ref p),some (.int (blk (ns.drop (ns.length - i)))),k])/\H'=H) ?_ ?_ ?_ ?_
 ·refine⟨⟨none,?_⟩,rfl⟩;rw[abw,adX];rfl
 ·rintro i σ H' _ ⟨_,rfl⟩;exact hS
 ·rintro i x σ H' hi hx ⟨⟨k,rfl⟩,rfl⟩;obtain⟨c,hc,rfl⟩:=int_at hx;rw[aaa]at hi hc;refine⟨_,rfl,_,_,rfl,rfl,.inl ⟨by decide,by decide⟩,_,rfl,_,_,rfl,rfl,⟨some (.int c),?_⟩,rfl⟩;have e:ns.drop (ns.length - (i+1))=c::ns.drop (ns.length - i):=by
   have e1:ns.length - (i+1)=ns.length - 1 - i:=by lia
   have e2:ns.length - i=ns.length - 1 - i+1:=by lia
   rw[e1,e2,abK (by lia)];congr 1;have:=aab.mp hc;exact this.2
  rw[e];rfl
 ·rintro σ H' ⟨⟨k,rfl⟩,rfl⟩;rw[aaa,abA,abX];exact⟨_,rfl,q⟩
inductive DG(vs:List V)(H:Hp)(Q:VK)(_e1:XK):Prop
 | mk (i:Int) (_:vs=[.int i]) (_:Q (.bl true) H)
theorem gf(T:Tx K mg a):bh P w K mg base K9 1 a.XH a.XJ ["_law_found"] DG:=by
 refine T.QQ.F.ok vf (λvs H Q E h=>?_) (λcdv A outer s H vs Q E hr h=>?_)
 ·obtain⟨i,rfl,_⟩:=h;rfl
 obtain⟨i,rfl,q⟩:=h
 refine⟨_,(az (aG (yw (aN jH rfl T.QS Tw.dH (aa (pv 0) (aa (mG (v:=.ty "int") rfl T.aeb Tw.Jq rfl) ao))) (yo (Jc (aN jH rfl T.QS Tw.dH (aa (pv 0) (aa (mG (v:=.ty "bool") rfl T.ad7 Tw.Fw rfl) ao)))))))),?_⟩
 refine⟨_,rfl,_,"int",_,true,rfl,.int i,rfl,true,rfl,dz ?_⟩
 exact⟨_,rfl,_,"bool",_,false,rfl,.int i,rfl,false,rfl,q⟩
inductive uO(K:PySem.W.Frag)(vs:List V)(H:Hp)(Q:VK)(_e1:XK):Prop
 | mk (p:Addr) (ns:List Int) (_:vs=[.ref p]) (_:K5 K H p (ns.map V.int)) (_:ns.length<=4096) (_:bB ns) (_:Q .non H)
theorem vK(T:Tx K mg a):bh P w K mg base K9 1 a.VP a.VR ["bits"] (uO K):=by
 refine T.Ym.F.ok mW (λvs H Q E h=>?_) (λcdv A outer s H vs Q E hr h=>?_)
 ·obtain⟨p,ns,rfl,_⟩:=h;rfl
 obtain⟨p,ns,rfl,hS,hl,hb,q⟩:=h;refine⟨_,(ak (aW (aH mq (aN aF rfl T.Lg Tw.bc (aa (pv 0) ao)) (dm (v:=.int 4096) rfl T.adw ⟨_,rfl⟩) (aO _)) (az mY) aP)
  (az (b8 PassesOwn.never rfl (bV (pv 0)) (aX (i:=1) mW.nd rfl (aai rfl)) (az (aW (PW.pt (vz (aH vN (pv 1) aj (aO _)) (pM (aH vN (pv 1) aj (aO _))))) (az mY) aP))))),?_⟩
 refine⟨_,rfl,p,_,rfl,.inl hS,_,_,rfl,rfl,_,rfl,bJ (λc=>?_) λ_=>?_⟩
 ·have c:=of_decide_eq_true c;rw[aaa]at c;lia
 refine⟨_,rfl,p,rfl,⟨_,hS⟩,?_⟩;refine cQ (xs:=ns.map V.int) (λi σ H'=>(∃k,σ=[some (.ref p),k])/\H'=H) ⟨⟨none,rfl⟩,rfl⟩ ?_ ?_ ?_
 ·rintro i σ H' _ ⟨_,rfl⟩;exact hS
 ·rintro i x σ H' hx ⟨⟨k,rfl⟩,rfl⟩;obtain⟨c,hc,rfl⟩:=int_at hx;rcases hb c (aah hc)with rfl|rfl
  ·exact⟨_,rfl,rfl,_,rfl,oU rfl (cF ⟨⟨_,rfl⟩,rfl⟩)⟩
  ·refine⟨_,rfl,rfl,_,rfl,bJ (λ_=>⟨_,rfl,rfl,_,rfl,oU rfl ⟨⟨_,rfl⟩,rfl⟩⟩) λz=>absurd ?_ z⟩;decide
 ·rintro σ H' ⟨_,rfl⟩;exact q
inductive Aj(K:PySem.W.Frag)(vs:List V)(H:Hp)(Q:VK)(_e1:XK):Prop
 | mk (p:Addr) (ns:List Int) (_:vs=[.ref p]) (_:K5 K H p (ns.map V.int)) (_:ns.length<=4096) (_:bB ns) (_:∀r H',H r=none->aV H H'->H' r=some (.lst ((cZ ns).map V.int))->Q (.ref r) H')
theorem Be(T:Tx K mg a):bh P w K mg base K9 2 a.VM a.VN ["bits"] (Aj K):=by
 refine T.Yl.F.ok Ay (λvs H Q E h=>?_) (λcdv A outer s H vs Q E hr h=>?_)
 ·obtain⟨p,ns,rfl,_⟩:=h;rfl
 obtain⟨p,ns,rfl,hS,hl,hb,q⟩:=h;refine⟨_,(ak (bH (aL T.Ym (vK T) (by decide) hr aR rfl (aa (pv 0) ao)))
  (az (aG (fP rfl (bM.one (j:=0) rfl (aai rfl) rfl rfl (aai rfl)) (BW rfl T.Og (aa aj (aa (aN aF rfl T.Lg Tw.bc (aa (pv 0) ao)) (aa (dm (v:=.int 32) rfl T.NB ⟨_,rfl⟩) ao)))) (λ_ _ _ _=>jc) (λ_ _ _ _=>(aL T.Yn (xu T) (by decide) hr aR rfl (aa (jE (show R8 _ (J7 K)from mJ) (pv 1) (jt (pv 0)) (jt (aA bG (pv 0) (dm (v:=.int 32) rfl T.NB ⟨_,rfl⟩)))) ao))))))),?_⟩
 refine⟨_,rfl,p,ns,rfl,hS,hl,hb,?_⟩;refine⟨_,rfl,p,_,rfl,.inl hS,(ns.map V.int).length,rfl,?_,?_⟩
 ·rw[aaa];exact ab0 hl (by decide)
 rw[aaa];intro D hD;refine⟨λi m ys H1=>m=many ns.length - i/\i<=many ns.length/\ys=((aaO i).map (dG ns)).map V.int/\aV H H1/\H1 D=some (.lst ys),⟨_,rfl,aaq _,rfl,au hD _,aq⟩,?_⟩;rintro i m ys H1 ⟨rfl,hi,rfl,sm,hD1⟩;by_cases hlt:i<many ns.length
 ·refine .inr ⟨hlt,λv H2 y=>?_⟩;obtain⟨rfl,rfl⟩:=y;unfold vQ;refine dz ?_;refine⟨_,rfl,_,rfl,_,rfl,_,rfl,_,_,rfl,rfl,_,rfl,p,_,rfl,sm.seq hS,λp2 hp2=>?_⟩;have e1:(0:Int)+(i:Int)*32=((32*i:Nat):Int):=by lia
  have e2:(0:Int)+(i:Int)*32+32=((32*i+32:Nat):Int):=by lia
  rw[e1,show ((32*i:Nat):Int)+32=((32*i+32:Nat):Int)from by lia,zx,abl];refine⟨p2,_,rfl,K5.of aq,?_⟩;have ne:D≠p2:=aB hD1 hp2;refine⟨by rw[aD ne];exact hD1,?_,many ns.length - (i+1),by lia,rfl,hlt,?_,cR (sm.trans (au hp2 _)) hD _,aq⟩
  ·rw[aaa,aaa,abi];unfold many at hlt;exact small (by lia)
  ·rw[aaR,aam,aam];rfl
 ·have e:i=many ns.length:=by lia
  subst e;exact .inl ⟨aad _,q D H1 hD sm hD1⟩
inductive wj(K:PySem.W.Frag)(vs:List V)(H:Hp)(Q:VK)(_e1:XK):Prop
 | mk (p:Addr) (bs:List Int) (_:vs=[.ref p]) (_:K5 K H p (bs.map V.int)) (_:bs.length<=4096) (_:∀r H',H r=none->aV H H'->H' r=some (.tup ((aheads bs bs.length).map V.int))->Q (.ref r) H')
theorem xG(T:Tx K mg a):bh P w K mg base K9 4 a.Wg a.Wh ["blocks"] (wj K):=by
 refine T.Yr.F.ok jY (λvs H Q E h=>?_) (λcdv A outer s H vs Q E hr h=>?_)
 ·obtain⟨p,bs,rfl,_⟩:=h;rfl
 obtain⟨p,bs,rfl,hS,hl,q⟩:=h;refine⟨_,(ak (aC (i:=1) jY.nd rfl (aai rfl) (bR (aa aj ao)))
  (ak (b8 PassesOwn.never rfl (bV (pv 0)) (aX (i:=2) jY.nd rfl (aai rfl)) (az (bH (lB PySem.F.plainAttrs_list PySem.F.slot_list_append PySem.F.type_list_append cG (pv 1) (aa (aA bG (aM cD (pv 1) (oZ jO aj) (λ_ _=>rfl)) (aL T.Tr (qy T) (by decide) hr aR rfl (aa (pv 2) (aa (dm (v:=.int 32) rfl T.NB ⟨_,rfl⟩) ao)))) ao)))))
  (az (aG (fj g8 rfl T.RK Tw.mD (aa (pv 1) ao)))))),?_⟩
 refine⟨(by show 1<=sizeLine;decide),λr hr'=>?_⟩;refine⟨_,rfl,p,rfl,⟨_,(au hr' _).seq hS⟩,?_⟩;refine cQ (xs:=bs.map V.int) (λi σ H'=>(∃k,σ=[some (.ref p),some (.ref r),k])/\aV H H'/\H' r=some (.lst ((aheads bs i).map V.int))) ?_ ?_ ?_ ?_
 ·exact⟨⟨none,rfl⟩,au hr' _,aq⟩
 ·rintro i σ H' _ ⟨_,sm,_⟩;exact sm.seq hS
 ·rintro i x σ H' hx ⟨⟨k,rfl⟩,sm,hr1⟩;obtain⟨b,hb,rfl⟩:=int_at hx;have hi:=(aab.mp hb).1;have hla:Lj ((aheads bs i).map V.int) (-1)=some (.int (iB bs i)):=by
   rw[wL,aam];exact my _ _
  refine⟨_,rfl,.inl ⟨rfl,_,K5.of hr1⟩,_,rfl,_,rfl,r,_,_,_,rfl,rfl,K5.of hr1,hla,_,rfl,b,32,rfl,by decide,by decide,λH2 Lk=>⟨_,_,rfl,rfl,r,_,_,rfl,rfl,Lk _ _ hr1,?_,⟨_,rfl⟩,cR (sm.trans Lk) hr' _,?_⟩⟩
  ·rw[aaa,sJ];exact small (by lia)
  ·rw[aq,v5,aam,oV hb];rfl
 ·rintro σ H' ⟨⟨k,rfl⟩,sm,hr1⟩;rw[aaa]at hr1;exact⟨_,rfl,r,_,rfl,.inl ⟨K5.of hr1,λl hl=>q l _ (sm.free hl) (sm.trans (au hl _)) aq⟩⟩
inductive yV(vs:List V)(H:Hp)(Q:VK)(_e1:XK):Prop
 | mk (n:Nat) (_:vs=[.int (n:Int)]) (_:n<=100000) (_:∀S,BR n S->Q (.int (S:Int)) H)
theorem xZ(T:Tx K mg a):bh P w K mg base K9 1 a.Wa a.Wb ["many"] yV:=by
 refine T.Yp.F.ok lF (λvs H Q E h=>?_) (λcdv A outer s H vs Q E hr h=>?_)
 ·obtain⟨n,rfl,_⟩:=h;rfl
 obtain⟨n,rfl,hn,q⟩:=h;refine⟨_,(ak (aC (i:=1) lF.nd rfl (aai rfl) aj)
  (ak (vW PassesOwn.never (aH iD (pv 1) (pv 0) (aO _)) (az (aC (i:=1) lF.nd rfl (aai rfl) (aA bT aj (pv 1)))))
  (az (aG (pv 1))))),?_⟩
 refine⟨λm σ H'=>∃h:Nat,σ=[some (.int (n:Int)),some (.int ((2^h:Nat):Int))]/\H'=H/\m=n - 2^h /\ ∀j,j<h->2^j<n,⟨_,0,rfl,rfl,rfl,λj hj=>absurd hj (aby _)⟩,?_⟩;rintro m σ H' ⟨h,rfl,rfl,rfl,hj⟩;refine⟨_,rfl,_,rfl,_,_,rfl,rfl,_,rfl,bJ (λc=>?_) λc=>?_⟩
 ·have c:((2^h:Nat):Int)<(n:Int):=of_decide_eq_true c;have hp:0<2^h:=aeg h;refine⟨_,λ σ' H2 z=>z,_,rfl,_,_,rfl,rfl,.inl ⟨by decide,by decide⟩,n - 2^(h+1),by rw[adM];lia,h+1,?_,rfl,rfl,λj hj2=>?_⟩
  ·have e:(2:Int)*((2^h:Nat):Int)=((2^(h+1):Nat):Int):=by rw[adM];lia
   rw[<-e];rfl
  ·rcases aaM j h with l|l
   ·exact hj j l
   ·have:j=h:=by lia
    subst this;lia
 ·have c:¬((2^h:Nat):Int)<(n:Int):=λz=>c (decide_eq_true z);exact⟨_,rfl,q (2^h) ⟨h,rfl,by lia,hj⟩⟩
structure Tab(H:Hp)(t ah:Addr)(ns:List Int)(rest:List V):Prop where
 tup:H t=some (.tup (.int (ns.length:Int)::.ref ah::rest))
 Px:H ah=some (.tup ((Lr ns (many ns.length)).map V.int))
 few:rest.length<=1
theorem Tab.same{H H':Hp}{t ah:Addr}{ns:List Int}{rest:List V}(h:Tab H t ah ns rest)(s:aV H H'):Tab H' t ah ns rest:=⟨s _ _ h.tup,s _ _ h.Px,h.few⟩
theorem vy(x y:V):∀rest:List V,rest.length<=1->Lj (x::y::rest) 0=some x
 | [],_=>rfl
 | [_],_=>rfl
 | _::_::_,h=>absurd h (by simp)
theorem uN(x y:V):∀rest:List V,rest.length<=1->Lj (x::y::rest) 1=some y
 | [],_=>rfl
 | [_],_=>rfl
 | _::_::_,h=>absurd h (by simp)
theorem HH{ns:List Int}{n j:Nat}(h:j<=n):Lj ((Lr ns n).map V.int) (j:Int)=some (.int (ns.take (32*j)).sum):=cM (kI h)
inductive vY(K:PySem.W.Frag)(vs:List V)(H:Hp)(Q:VK)(_e1:XK):Prop
 | mk (p:Addr) (ns:List Int) (_:vs=[.ref p]) (_:K5 K H p (ns.map V.int)) (_:ns.length<=4096) (_:bB ns) (_:∀r b t ah H',H b=none->aV H H'->H' r=some (.tup [.ref t,.ref b])->Tab H' t ah ns []->H' b=some (.lst ((cZ ns).map V.int))->Q (.ref r) H')
theorem v8(T:Tx K mg a):bh P w K mg base K9 5 a.We a.Wf ["bits"] (vY K):=by
 refine T.Yq.F.ok oW (λvs H Q E h=>?_) (λcdv A outer s H vs Q E hr h=>?_)
 ·obtain⟨p,ns,rfl,_⟩:=h;rfl
 obtain⟨p,ns,rfl,hS,hl,hb,q⟩:=h;refine⟨_,(ak (aC (i:=1) oW.nd rfl (aai rfl) (aL T.Yl (Be T) (by decide) hr aR rfl (aa (pv 0) ao)))
  (az (aG (bU (aa (bU (aa (aN aF rfl T.Lg Tw.bc (aa (pv 0) ao)) (aa (aL T.Yr (xG T) (by decide) hr aR rfl (aa (pv 1) ao)) ao))) (aa (pv 1) ao)))))),?_⟩
 refine⟨_,rfl,p,ns,rfl,hS,hl,hb,λb H1 hb0 O1 h1=>?_⟩;refine⟨_,rfl,p,_,rfl,.inl (O1.seq hS),_,rfl,b,cZ ns,rfl,K5.of h1,?_,λah H2 Mq Lk h2=>?_⟩
 ·rw[eX];unfold many;lia
 rw[vM hb]at h2;have MF:(ns.map V.int).length=ns.length:=aaa ..;rw[MF];refine⟨(by show 2<=sizeLine;decide),λt ht=>⟨_,rfl,(by show 2<=sizeLine;decide),λr hr'=>?_⟩⟩;have s3:=au ht (.tup [.int (ns.length:Int),.ref ah]);have s4:=au hr' (.tup [.ref t,.ref b]);exact q r b t ah _ hb0 (O1.trans (Lk.trans (s3.trans s4))) aq ⟨s4 _ _ aq,s4 _ _ (s3 _ _ h2),by decide⟩ (s4 _ _ (s3 _ _ (Lk _ _ h1)))
def O2(ns:List Int):Prop:=∀z∈ns,-(10:Int)^60<z/\z<10^60
inductive rH(K:PySem.W.Frag)(vs:List V)(H:Hp)(Q:VK)(_e1:XK):Prop
 | mk (p:Addr) (ns:List Int) (_:vs=[.ref p]) (_:K5 K H p (ns.map V.int)) (_:ns.length<=4096) (_:O2 ns) (_:Q .non H)
theorem pX(T:Tx K mg a):bh P w K mg base K9 1 a.Wz a.WD ["signs"] (rH K):=by
 refine T.Yw.F.ok jT (λvs H Q E h=>?_) (λcdv A outer s H vs Q E hr h=>?_)
 ·obtain⟨p,ns,rfl,_⟩:=h;rfl
 obtain⟨p,ns,rfl,hS,hl,hi,q⟩:=h;refine⟨_,(ak (aW (aH mq (aN aF rfl T.Lg Tw.bc (aa (pv 0) ao)) (dm (v:=.int 4096) rfl T.adt ⟨_,rfl⟩) (aO _)) (az mY) aP)
  (az (b8 PassesOwn.never rfl (bV (pv 0)) (aX (i:=1) jT.nd rfl (aai rfl)) (az (aW (jf (qH iD iD (oZ jO (aA jo aj aj)) (pv 1) (aA jo aj aj))) (az mY) aP))))),?_⟩
 refine⟨_,rfl,p,_,rfl,.inl hS,_,_,rfl,rfl,_,rfl,bJ (λc=>?_) λc=>?_⟩
 ·have c:(4096:Int)<((ns.map V.int).length:Int):=of_decide_eq_true c;rw[aaa]at c;lia
 refine⟨_,rfl,p,rfl,⟨_,hS⟩,?_⟩;refine cQ (xs:=ns.map V.int) (λi σ H'=>(∃k,σ=[some (.ref p),k])/\H'=H) ⟨⟨none,rfl⟩,rfl⟩ ?_ ?_ ?_
 ·rintro i σ H' _ ⟨_,rfl⟩;exact hS
 ·rintro i x σ H' hx ⟨⟨k,rfl⟩,rfl⟩;obtain⟨z,hz,rfl⟩:=int_at hx;have hr:=hi z (aah hz);refine⟨_,_,rfl,rfl,⟨by decide,by decide,by decide⟩,_,rfl,_,rfl,_,_,rfl,rfl,_,rfl,bJ (λc1=>?_) λc1=>absurd (decide_eq_true hr.1) c1⟩;refine⟨_,_,rfl,rfl,⟨by decide,by decide,by decide⟩,_,_,rfl,rfl,_,rfl,bJ (λc2=>?_) λc2=>⟨⟨_,rfl⟩,rfl⟩⟩;rw[decide_eq_true (show z<10^(60:Int).toNat from hr.2)]at c2;exact absurd c2 (by decide)
 ·rintro σ H' ⟨_,rfl⟩;exact q
def rks(ms ns:List Int):List Int:=ns.map λz=>(ms.idxOf z:Int)
inductive qt(K:PySem.W.Frag)(vs:List V)(H:Hp)(Q:VK)(_e1:XK):Prop
 | mk (q p:Addr) (ms ns:List Int) (_:vs=[.ref q,.ref p]) (_:K5 K H q (ms.map V.int)) (_:K5 K H p (ns.map V.int)) (_:ms.Nodup) (_:(∀z∈ns,z∈ms)) (_:ms.length<=4096) (_:ns.length<=4096) (_:∀r H',H r=none->aV H H'->H' r=some (.lst ((rks ms ns).map V.int))->Q (.ref r) H')
theorem qb(T:Tx K mg a):bh P w K mg base K9 1 a.WL a.WM ["kinds","signs"] (qt K):=by
 refine T.Yy.F.ok eQ (λvs H Q E h=>?_) (λcdv A outer s H vs Q E hr h=>?_)
 ·obtain⟨q,p,ms,ns,rfl,_⟩:=h;rfl
 obtain⟨kd,p,ms,ns,rfl,hK,hS,nd,hin,hm,hn,q⟩:=h;refine⟨_,(ak (aC (i:=2) eQ.nd rfl (acJ rfl) Dy)
  (ak (b8 PassesOwn.never rfl (zG rfl T.Y5 (aa (pv 0) ao)) (jN rfl (bW (aX (i:=3) eQ.nd rfl (aai rfl)) (bW (aX (i:=4) eQ.nd rfl (aai rfl)) gZ))) (az (Ge (ab0 (acE (by decide:1<=64) _) hr.units) (pv 2) (pv 4) (pv 3) rfl)))
  (az (aG (fP rfl (bM.one (j:=2) rfl (aai rfl) rfl rfl (aai rfl)) (bV (pv 1)) (λ_ _ _ _=>jc) (λ_ _ _ _=>(GC (ab0 (acE (by decide:1<=64) _) hr.units) (pv 1) (pv 0) (λ_ _=>rfl)))))))),?_⟩
 intro d hd;have s0:=au hd (.dK []);refine⟨_,rfl,kd,_,rfl,s0.seq hK,?_⟩;refine wJ (xs:=ms.map V.int) (λi σ H'=>(∃k3 k4,σ=[some (.ref kd),some (.ref p),some (.ref d),k3,k4])/\aV H H' /\ ∃kvs:List (Key×V),H' d=some (.dK kvs)/\kvs.length<=i /\ ∀(j:Nat) (z:Int),j<i->ms[j]?=some z->gn kvs (Sum.inl z)=some (.int (j:Int))) ⟨⟨none,none,rfl⟩,s0,[],aq,aad _,λj z hj=>absurd hj (aby _)⟩ ?_ ?_ ?_
 ·rintro i σ H' _ ⟨_,sm,_⟩;exact sm.seq hK
 ·rintro i x σ H' pt hx ⟨⟨k3,k4,rfl⟩,sm,kvs,xd,hl,hv⟩ Qd;obtain⟨z,hz,rfl⟩:=int_at hx;have hi:=(aab.mp hz).1;have s1:=au Qd (.tup [.int (i:Int),.int z]);refine⟨pt,_,rfl,K6.of aq,rfl,_,_,rfl,_,_,rfl,rfl,?_⟩;refine⟨_,rfl,_,rfl,_,rfl,d,_,rfl,.inl ⟨kvs,Sum.inl z,s1 _ _ xd,rfl,by rw[sizeLine_eq];lia,rfl⟩,?_⟩;refine⟨⟨_,_,rfl⟩,cR (sm.trans s1) hd _,_,aq,?_,λj y hj hy=>?_⟩
  ·have:=Di kvs (Sum.inl z) (.int (i:Int));lia
  ·rw[Fe];by_cases e:y=z
   ·subst e;rw[if_pos rfl];have:j=i:=by
     have hj':=(aab.mp hy).1;rw[aac hj']at hy;rw[aac hi]at hz;have e:=(aax hy).trans (aax hz).symm;have pw:=aaB.mp nd;rcases abM j i with l|l|l
     ·exact absurd e (pw j i hj' hi l)
     ·exact l
     ·exact absurd e.symm (pw i j hi hj' l)
    rw[this]
   ·rw[if_neg (λz=>e (Sum.inl.inj z))];refine hv j y ?_ hy;rcases aaM j i with l|l
    ·exact l
    ·have:j=i:=by lia
     subst this;rw[hz]at hy;exact absurd (aax hy).symm e
 ·rintro σ H' ⟨⟨k3,k4,rfl⟩,sm,kvs,xd,hl,hv⟩;rw[aaa]at hv;refine⟨_,rfl,p,rfl,⟨_,sm.seq hS⟩,?_⟩;refine tE (λz=>(ms.idxOf z:Int)) (sm.seq hS) (by rw[sizeLine_eq];lia) (λ_ _ _ q=>q) (λz H2 Q hz s2 q=>⟨_,rfl,_,rfl,d,_,rfl,?_,q⟩) λD hD=>?_
  ·have hz:=hin z hz;have hlt:=aaF hz;have e:=hv (ms.idxOf z) z hlt (by rw[aac hlt];exact congrArg some (aa2 hlt));have g:=wy.k (k:=Sum.inl z) (s2 _ _ xd);rw[e]at g;exact g
  ·exact q D _ (sm.free hD) (sm.trans (au hD _)) aq
inductive rD(vs:List V)(H:Hp)(Q:VK)(_e1:XK):Prop
 | mk (n:Nat) (_:vs=[.int (n:Int)]) (_:n<=100000) (_:∀h:Nat,BR n (2^h)->Q (.int (h:Int)) H)
theorem Ew(h:Nat):Builtin.Int.intBits ((2^h:Nat):Int)=h+1:=by
 unfold Builtin.Int.intBits;have:0<2^h:=aeg h;rw[if_neg (by rw[beq_iff_eq];lia),Int.natAbs_natCast,Nat.log2_two_pow]
theorem qD(T:Tx K mg a):bh P w K mg base K9 2 a.WN a.WP ["kind_count"] rD:=by
 refine T.Yz.F.ok qK (λvs H Q E h=>?_) (λcdv A outer s H vs Q E hr h=>?_)
 ·obtain⟨n,rfl,_⟩:=h;rfl
 obtain⟨n,rfl,hn,q⟩:=h;refine⟨_,(az (aG (aA bu (HN PySem.F.plainAttrs_int PySem.F.slot_int_bit_length PySem.F.type_int_bit_length sS (aL T.Yp (xZ T) (by decide) hr aR rfl (aa (pv 0) ao))) aj))),?_⟩;refine⟨_,rfl,n,rfl,hn,λS hS=>?_⟩;obtain⟨h,rfl,h1,h2⟩:=hS;refine⟨rfl,_,rfl,rfl,_,_,rfl,rfl,?_⟩;have e:((Builtin.Int.intBits ((2^h:Nat):Int):Nat):Int) - 1=(h:Int):=by
  rw[Ew];lia
 show Q (.int (((Builtin.Int.intBits ((2^h:Nat):Int):Nat):Int) - 1)) H;rw[e];exact q h ⟨h,rfl,h1,h2⟩
def Mr(os:List Int)(k:Nat):List Int:=(os.filter λz=>bit z k=0)++os.filter λz=>bit z k=1
theorem pK(os:List Int)(k:Nat):(Mr os k).length=os.length:=by
 unfold Mr;rw[aae]
 induction os with
 | nil=>rfl
 | cons z os ih =>
  have:bit z k=0\/bit z k=1:=by
   unfold bit;lia
  rcases this with e|e
  ·simp only[aau,e,decide_true,if_true,aan,show decide ((0:Int)=1)=false from rfl,aaV,if_false];lia
  ·simp only[aau,e,decide_true,if_true,aan,show decide ((1:Int)=0)=false from rfl,aaV,if_false];lia
theorem wK(os:List Int)(f:Int->Int)(c:Int):((os.zip (os.map f)).filter λp=>decide (V.int p.2=V.int c)).map (λp=>p.1)=os.filter λz=>f z=c:=by
 induction os with
 | nil=>rfl
 | cons z os ih =>
  rw[aaz,ab2,aau,aau];by_cases e:f z=c
  ·rw[if_pos (decide_eq_true (by rw[e])),if_pos (decide_eq_true e),aaz,ih]
  ·rw[if_neg (by simp[e]),if_neg (by simp[e]),ih]
inductive BP(K:PySem.W.Frag)(vs:List V)(H:Hp)(Q:VK)(_e1:XK):Prop
 | mk (p r:Addr) (os:List Int) (k:Nat) (_:vs=[.ref p,.ref r]) (_:K5 K H p (os.map V.int)) (_:K5 K H r ((os.map λz=>bit z k).map V.int)) (_:os.length<=4096) (_:∀l H',H l=none->aV H H'->H' l=some (.lst ((Mr os k).map V.int))->Q (.ref l) H')
theorem Bl(T:Tx K mg a):bh P w K mg base K9 1 a.WT a.WW ["order","bits"] (BP K):=by
 refine T.YC.F.ok nA (λvs H Q E h=>?_) (λcdv A outer s H vs Q E hr h=>?_)
 ·obtain⟨p,r,os,k,rfl,_⟩:=h;rfl
 obtain⟨p,r,os,k,rfl,hA,hB,hl,q⟩:=h;refine⟨_,(ak (m5 (i:=2) nA.nd rfl rfl rfl ⟨bM.zero,rfl,by decide⟩ (qp rfl T.Qc Tw.nG (aa (pv 0) (aa (pv 1) ao))) (λ_ _ _ _=>(fK (aH bD (pv 1) aj (aO _)))) (λ_ _ _ _=>(pv 0)))
  (ak (m5 (i:=3) nA.nd rfl rfl rfl ⟨bM.zero,rfl,by decide⟩ (qp rfl T.Qc Tw.nG (aa (pv 0) (aa (pv 1) ao))) (λ_ _ _ _=>(fK (aH bD (pv 1) aj (aO _)))) (λ_ _ _ _=>(pv 0)))
  (az (aG (aA zr (pv 2) (pv 3)))))),?_⟩
 refine⟨_,rfl,_,rfl,p,r,_,_,rfl,hA,hB,?_⟩;refine t8 (os:=os) (bs:=os.map λz=>bit z k) (λ_ y=>decide (V.int y=V.int 0)) (λx _=>x) hA hB (by rw[aaa]) (by rw[sizeLine_eq];lia) (λx y H' Q sm q=>⟨_,rfl,rfl,_,rfl,q⟩) (λx y H' Q sm q=>⟨_,rfl,q⟩) λl1 H1 hl1 O1 x1=>?_;rw[wK]at x1;refine⟨_,rfl,_,rfl,p,r,_,_,rfl,O1.seq hA,O1.seq hB,?_⟩;refine t8 (os:=os) (bs:=os.map λz=>bit z k) (λ_ y=>decide (V.int y=V.int 1)) (λx _=>x) (O1.seq hA) (O1.seq hB) (by rw[aaa]) (by rw[sizeLine_eq];lia) (λx y H' Q sm q=>⟨_,rfl,rfl,_,rfl,q⟩) (λx y H' Q sm q=>⟨_,rfl,q⟩) λl2 H2 hl2 Lk x2=>?_;rw[wK]at x2;have e:=pK os k;unfold Mr at e;rw[aae]at e;refine⟨_,rfl,_,rfl,l1,l2,_,_,rfl,rfl,Lk _ _ x1,x2,?_,λl hl'=>?_⟩
 ·rw[aaa,aaa,sizeLine_eq];lia
 have sA:=O1.trans Lk;refine q l _ (sA.free hl') (sA.trans (au hl' _)) ?_;rw[aq];unfold Mr;rw[aam]
def Ls:Nat->List Int->List (List Int)
 | 0,_=>[]
 | k+1,os=>(os.map λz=>bit z k)::Ls k (Mr os k)
theorem jl:∀(k:Nat) (os:List Int),(Ls k os).length=k
 | 0,_=>rfl
 | k+1,os=>by
  unfold Ls;rw[aan,jl k]
theorem pP:∀(k:Nat) (os bs:List Int),bs∈Ls k os->bB bs/\bs.length=os.length
 | 0,_,_,h=>by cases h
 | k+1,os,bs,h=>by
  unfold Ls at h;rcases aaA.mp h with rfl|h
  ·refine⟨λx hx=>?_,aaa ..⟩;obtain⟨z,_,rfl⟩:=aaE.mp hx;unfold bit;lia
  ·obtain⟨h1,h2⟩:=pP k _ _ h;exact⟨h1,h2.trans (pK os k)⟩
def pB(H:Hp)(ls:List Addr)(Mh:List (List Int)):Prop:=ls.length=Mh.length /\ ∀(i:Nat) (l:Addr) (xs:List Int),ls[i]?=some l->Mh[i]?=some xs->H l=some (.lst (xs.map V.int))
theorem pB.same{H H':Hp}{ls:List Addr}{Mh:List (List Int)}(h:pB H ls Mh)(s:aV H H'):pB H' ls Mh:=⟨h.1,λi l xs e1 e2=>s _ _ (h.2 i l xs e1 e2)⟩
theorem pB.snoc{H:Hp}{ls:List Addr}{Mh:List (List Int)}{l:Addr}{xs:List Int}(h:pB H ls Mh)(e:H l=some (.lst (xs.map V.int))):pB H (ls++[l]) (Mh++[xs]):=by
 refine⟨by rw[aae,aae,h.1];rfl,λi l' xs' e1 e2=>?_⟩;rcases aaM i ls.length with c|c
 ·rw[aar c]at e1;rw[aar (by rw[<-h.1];exact c)]at e2;exact h.2 i l' xs' e1 e2
 ·rw[aap c]at e1;rw[aap (by rw[<-h.1];exact c),<-h.1]at e2;have:i - ls.length=0:=by
   have:=(aab.mp e1).1;simp at this;lia
  rw[this]at e1 e2;cases e1;cases e2;exact e
theorem pB.upd{H:Hp}{ls:List Addr}{Mh:List (List Int)}{x:Addr}{o:HO}(h:pB H ls Mh)(hx:x∉ls):pB (upd H x o) ls Mh:=
 ⟨h.1,λi l xs e1 e2=>by rw[aD (λz:l=x=>hx (z ▸ aah e1))];exact h.2 i l xs e1 e2⟩
def Oh(K:PySem.W.Frag)(H:Hp)(r o:Addr)(xs:List V):Prop:=(Rd H o (.lst xs)/\o≠r) \/ ∀H',K5 K H' o xs
theorem Oh.of{H:Hp}{r o:Addr}{xs:List V}(h:K5 K H o xs)(hr:H r=none):Oh K H r o xs:=by
 rcases h with h|h
 ·refine .inl ⟨h,λz=>?_⟩;subst z;unfold Rd at h;rcases h with h|⟨_,h⟩
  ·rw[hr]at h;cases h
  ·rw[hr]at h;cases h
 ·exact .inr λ_=>.inr h
theorem Oh.sq{H:Hp}{r o:Addr}{xs:List V}(h:Oh K H r o xs):K5 K H o xs:=by
 rcases h with h|h
 ·exact .inl h.1
 ·exact h H
theorem Oh.to{H H':Hp}{r o:Addr}{xs:List V}(h:Oh K H r o xs)(s:∀b u,b≠r->H b=some u->H' b=some u):Oh K H' r o xs:=by
 rcases h with ⟨h,n⟩|h
 ·refine .inl ⟨?_,n⟩;unfold Rd at h ⊢;rcases h with h|⟨ob,h⟩
  ·exact .inl (s _ _ n h)
  ·exact .inr ⟨ob,s _ _ n h⟩
 ·exact .inr h
inductive rM(K:PySem.W.Frag)(vs:List V)(H:Hp)(Q:VK)(_e1:XK):Prop
 | mk (p:Addr) (os:List Int) (n:Nat) (_:vs=[.ref p,.int (n:Int)]) (_:K5 K H p (os.map V.int)) (_:os.length<=4096) (_:n<=4096) (_:∀(h:Nat) (r:Addr) (ls:List Addr) (H':Hp),BR n (2^h)->h<=12->H r=none->aV H H'->H' r=some (.lst (ls.map V.ref))->pB H' ls (Ls h os)->(∀l∈ls,H l=none)->Q (.ref r) H')
theorem Jw{n h:Nat}(hn:n<=4096)(hs:BR n (2^h)):h<=12:=by
 obtain⟨h',e,h1,h2⟩:=hs;have:h=h':=(Nat.pow_right_inj (a:=2) (by decide)).mp e;subst this;rcases aaM 12 h with c|c
 ·have:=h2 12 c;lia
 ·exact c
theorem sX(T:Tx K mg a):bh P w K mg base K9 3 a.WQ a.WR ["ranks","kind_count"] (rM K):=by
 refine T.YB.F.ok cW (λvs H Q E h=>?_) (λcdv A outer s H vs Q E hr h=>?_)
 ·obtain⟨p,os,n,rfl,_⟩:=h;rfl
 obtain⟨p,os0,n,rfl,hS,hl,hn,q⟩:=h;refine⟨_,(ak (aC (i:=2) cW.nd rfl (aai rfl) (bR ao))
  (ak (aC (i:=3) cW.nd rfl (aai rfl) (pv 0))
  (ak (b8 PassesOwn.never rfl (vX rfl T.Og (aa (aA bu (aL T.Yz (qD T) (by decide) hr aR rfl (aa (pv 1) ao)) aj) (aa (oZ jO aj) (aa (oZ jO aj) ao)))) (aX (i:=4) cW.nd rfl (acJ rfl)) (ak (qL (i:=5) cW.nd rfl rfl rfl (bM.one (j:=4) rfl (aai rfl) rfl rfl (aai rfl)) (bV (pv 3)) (λ_ _ _ _=>jc) (λ_ _ _ _=>(aL T.Rz (n6 T) (by decide) hr aR rfl (aa (pv 0) (aa (pv 1) ao)))))
  (ak (bH (lB PySem.F.plainAttrs_list PySem.F.slot_list_append PySem.F.type_list_append cG (pv 2) (aa (pv 5) ao)))
  (az (aC (i:=3) cW.nd rfl (aai rfl) (aL T.YC (Bl T) (by decide) hr aR rfl (aa (pv 3) (aa (pv 5) ao))))))))
  (az (aG (pv 2)))))),?_⟩
 refine⟨(by show 0<=sizeLine;decide),λr hr'=>⟨_,rfl,?_⟩⟩;have s0:=au hr' (.lst []);refine⟨_,rfl,n,rfl,by lia,λh hz=>?_⟩;have h12:=Jw hn hz;refine⟨_,_,rfl,rfl,_,rfl,_,rfl,(h:Int) - 1,-1,rfl,by lia,by decide,by lia,by decide,?_⟩;refine DK (λi σ H'=>∃(o:Addr) (os:List Int) (ls:List Addr) (k4 k5:Option V) (dn:List (List Int)),σ=[some (.ref p),some (.int (n:Int)),some (.ref r),some (.ref o),k4,k5]/\aV H H'/\Oh K H' r o (os.map V.int)/\os.length=os0.length/\H' r=some (.lst (ls.map V.ref))/\pB H' ls dn/\dn.length=i/\(∀l∈ls,H l=none/\l≠r)/\Ls h os0=dn++Ls (h - i) os) ?_ ?_ ?_
 ·exact⟨p,os0,[],none,none,[],rfl,s0,(Oh.of hS hr').to (λb u n e=>by rw[aD n];exact e),rfl,aq,⟨rfl,λi l xs e=>by cases e⟩,rfl,(λl hl=>nomatch hl),rfl⟩
 ·rintro i σ H' hi ⟨o,os,ls,k4,k5,dn,rfl,sm,hO,hol,hr1,hls,hdn,hfr,he⟩;have ei:(h:Int) - 1+(i:Int) * -1=((h - 1 - i:Nat):Int):=by lia
  rw[ei];obtain⟨k,hk⟩:∃k,h - i=k+1:=⟨h - i - 1,by lia⟩;have ek:h - 1 - i=k:=by lia
  rw[ek];refine⟨_,rfl,o,rfl,⟨_,hO.sq⟩,?_⟩;refine tE (λz=>bit z k) hO.sq (by rw[sizeLine_eq];lia) (λ_ _ _ q=>q) (λz H2 Q hz s2 q=>⟨_,rfl,_,rfl,z,(k:Int),rfl,by lia,q⟩) λb hb=>?_;have s1:=au hb (.lst ((os.map λz=>bit z k).map V.int));have xb:upd H' b (.lst ((os.map λz=>bit z k).map V.int)) b=some (.lst ((os.map λz=>bit z k).map V.int)):=aq;have hbH:H b=none:=sm.free hb;have RM:b≠r:=λz=>by rw[z,hr1]at hb;cases hb
  replace hO:=hO.to λb u _ e=>s1 b u e
  replace hr1:=s1 _ _ hr1
  replace hls:=hls.same s1
  replace sm:=sm.trans s1
  generalize upd H' b (.lst ((os.map λz=>bit z k).map V.int))=H1 at *;refine⟨_,rfl,.inl ⟨rfl,_,K5.of hr1⟩,_,rfl,r,_,_,rfl,rfl,hr1,?_,?_⟩
  ·rw[aaa,hls.1,hdn,sizeLine_eq];lia
  have s2:=cR sm hr' (.lst (ls.map V.ref++[.ref b]));have Y6:upd H1 r (.lst (ls.map V.ref++[.ref b])) b=some (.lst ((os.map λz=>bit z k).map V.int)):=by rw[aD RM];exact xb
  have hO2:=(hO.to (H':=upd H1 r (.lst (ls.map V.ref++[.ref b]))) λb u n e=>by rw[aD n];exact e).sq;have hls2:pB (upd H1 r (.lst (ls.map V.ref++[.ref b]))) (ls++[b]) (dn++[os.map λz=>bit z k]):=(hls.upd λz=>(hfr r z).2 rfl).snoc Y6;have hr2:upd H1 r (.lst (ls.map V.ref++[.ref b])) r=some (.lst ((ls++[b]).map V.ref)):=by
   rw[aq,aam];rfl
  generalize upd H1 r (.lst (ls.map V.ref++[.ref b]))=H2 at *;refine⟨_,rfl,_,rfl,o,b,os,k,rfl,hO2,K5.of Y6,by lia,λl H3 hl3 sm3 x3=>?_⟩;refine⟨l,Mr os k,ls++[b],_,_,dn++[os.map λz=>bit z k],rfl,s2.trans sm3,.inl ⟨.inl x3,?_⟩,(pK os k).trans hol,sm3 _ _ hr2,hls2.same sm3,?_,λx hx=>?_,?_⟩
  ·intro z;rw[z,hr2]at hl3;cases hl3
  ·rw[aae,hdn];rfl
  ·rcases aaK.mp hx with hx|hx
   ·exact hfr x hx
   ·rw[aal.mp hx];exact⟨hbH,RM⟩
  ·rw[he,hk,aaG,show h - (i+1)=k from by lia];rfl
 ·rintro σ H' ⟨o,os,ls,k4,k5,dn,rfl,sm,hO,hol,hr1,hls,hdn,hfr,he⟩;have ei:((h:Int) - 1 - -1).toNat=h:=by lia
  rw[ei]at hdn he;have:Ls h os0=dn:=by
   rw[he,abA];exact abv _
  rw[<-this]at hls;exact⟨_,rfl,q h r ls H' hz h12 hr' sm hr1 hls λl hl=>(hfr l hl).1⟩
theorem Ja(ns:List Int)(z:Int):z∈met (λi=>ns.getD i 0) ns.length ↔ z∈ns:=by
 rw[uQ];constructor
 ·rintro⟨i,hi,rfl⟩;rw[aaH,aac hi];exact aaP hi
 ·intro h;obtain⟨i,hi,rfl⟩:=abG h;exact⟨i,hi,by rw[aaH,aac hi];rfl⟩
structure Kinds(ns ms:List Int):Prop where
 up:ms.Pairwise (· < ·)
 mem:∀z,z∈ms ↔ z∈ns
theorem Kinds.nd{ns ms:List Int}(h:Kinds ns ms):ms.Nodup:=h.up.imp λa=>adN a
theorem kinds_of{ns ms ks:List Int}(hk:ks=met (λi=>ns.getD i 0) ns.length)(pm:abb ms ks)(up:ms.Pairwise (· <= ·)):Kinds ns ms:=by
 have nd:ms.Nodup:=pm.nodup_iff.mpr (by rw[hk];exact kh _ _);refine⟨(up.and nd).imp λ⟨a,b⟩=>by lia,λz=>?_⟩;rw[pm.mem_iff,hk];exact Ja ns z
def qY(H:Hp)(ls:List Addr)(Mh:List (List Int)):Prop:=ls.length=Mh.length /\ ∀(i:Nat) (l:Addr) (xs:List Int),ls[i]?=some l->Mh[i]?=some xs->H l=some (.tup (xs.map V.int))
theorem qY.to{H H':Hp}{ls:List Addr}{Mh:List (List Int)}(h:qY H ls Mh)(s:∀b xs,H b=some (.tup xs)->H' b=some (.tup xs)):qY H' ls Mh:=⟨h.1,λi l xs e1 e2=>s _ _ (h.2 i l xs e1 e2)⟩
theorem qY.snoc{H:Hp}{ls:List Addr}{Mh:List (List Int)}{l:Addr}{xs:List Int}(h:qY H ls Mh)(e:H l=some (.tup (xs.map V.int))):qY H (ls++[l]) (Mh++[xs]):=by
 refine⟨by rw[aae,aae,h.1];rfl,λi l' xs' e1 e2=>?_⟩;rcases aaM i ls.length with c|c
 ·rw[aar c]at e1;rw[aar (by rw[<-h.1];exact c)]at e2;exact h.2 i l' xs' e1 e2
 ·rw[aap c]at e1;rw[aap (by rw[<-h.1];exact c),<-h.1]at e2;have:i - ls.length=0:=by
   have:=(aab.mp e1).1;simp at this;lia
  rw[this]at e1 e2;cases e1;cases e2;exact e
structure Kept(H:Hp)(r t b k c:Addr)(ns ms:List Int)(h:Nat)(ls:List Addr):Prop where
 r:H r=some (.tup [.ref t,.ref b])
 t:H t=some (.tup [.int (ns.length:Int),.ref k,.ref c])
 k:H k=some (.tup (ms.map V.int))
 c:H c=some (.tup (ls.map V.ref))
 ls:qY H ls ((Ls h (rks ms ns)).map λbs=>Lr bs (many ns.length))
 b:H b=some (.lst ((((Ls h (rks ms ns)).map cZ).flatten).map V.int))
 kd:Kinds ns ms
 sz:BR ms.length (2^h)
 h12:h<=12
inductive sI(K:PySem.W.Frag)(vs:List V)(H:Hp)(Q:VK)(_e1:XK):Prop
 | mk (p:Addr) (ns:List Int) (_:vs=[.ref p]) (_:K5 K H p (ns.map V.int)) (_:ns.length<=4000) (_:O2 ns) (_:∀(r t b k c:Addr) (ms:List Int) (h:Nat) (ls:List Addr) (H':Hp),H b=none->aV H H'->Kept H' r t b k c ns ms h ls->Q (.ref r) H')
theorem rZ(T:Tx K mg a):bh P w K mg base K9 6 a.WF a.WK ["signs"] (sI K):=by
 refine T.Yx.F.ok cV (λvs H Q E h=>?_) (λcdv A outer s H vs Q E hr h=>?_)
 ·obtain⟨p,ns,rfl,_⟩:=h;rfl
 obtain⟨p,ns,rfl,hS,hl,hi,q⟩:=h;refine⟨_,(ak (bH (aL T.Yw (pX T) (by decide) hr aR rfl (aa (pv 0) ao)))
  (ak (aC (i:=1) cV.nd rfl (aai rfl) (aN (m8 rfl) rfl T.T5 Tw.oN (aa (fj (oh rfl) rfl T.T4 Tw.yP (aa (pv 0) ao)) ao)))
  (ak (aC (i:=2) cV.nd rfl (aai rfl) (bR ao))
  (ak (aC (i:=3) cV.nd rfl (aai rfl) (bR ao))
  (ak (b8 PassesOwn.never rfl (bV (aL T.YB (sX T) (by decide) hr aR rfl (aa (aL T.Yy (qb T) (by decide) hr aR rfl (aa (pv 1) (aa (pv 0) ao))) (aa (aN aF rfl T.Lg Tw.bc (aa (pv 1) ao)) ao)))) (aX (i:=4) cV.nd rfl (aai rfl)) (ak (aC (i:=5) cV.nd rfl (aai rfl) (aL T.Yq (v8 T) (by decide) hr aR rfl (aa (pv 4) ao)))
  (ak (bH (lB PySem.F.plainAttrs_list PySem.F.slot_list_append PySem.F.type_list_append cG (pv 2) (aa (aM aJ (aM aJ (pv 5) aj (λ_ _=>rfl)) aj (λ_ _=>rfl)) ao)))
  (az (bH (lB PySem.F.plainAttrs_list PySem.F.slot_list_extend PySem.F.type_list_extend BJ (pv 3) (aa (aM aJ (pv 5) aj (λ_ _=>rfl)) ao)))))))
  (az (aG (bU (aa (bU (aa (aN aF rfl T.Lg Tw.bc (aa (pv 0) ao)) (aa (fj g8 rfl T.RK Tw.mD (aa (pv 1) ao)) (aa (fj g8 rfl T.RK Tw.mD (aa (pv 2) ao)) ao)))) (aa (pv 3) ao)))))))))),?_⟩
 refine⟨_,rfl,p,ns,rfl,hS,by lia,hi,?_⟩;have hmet:(met (λi=>ns.getD i 0) ns.length).length<=ns.length:=uE _ _;refine⟨_,rfl,p,ns,rfl,hS,?_,λl0 ks o0 hl0 hks T6=>⟨l0,ks,rfl,by rw[aq,T6],λkd ms hkd pm T7=>?_⟩⟩
 ·have:scanBound=4096:=rfl;lia
 have sA:=(au hl0 o0).trans (au hkd (.lst (ms.map V.int)));have xk:upd (upd H l0 o0) kd (.lst (ms.map V.int)) kd=some (.lst (ms.map V.int)):=aq;have hkdH:H kd=none:=(au hl0 _).free hkd;have hK:=kinds_of hks pm T7;have inm:∀z∈ns,z∈ms:=λz hz=>(hK.mem z).mpr hz;have lm:ms.length<=4000:=by rw[pm.length_eq,hks];lia
 generalize upd (upd H l0 o0) kd (.lst (ms.map V.int))=H1 at *;refine⟨(by show 0<=sizeLine;decide),λah Mq=>⟨(by show 0<=sizeLine;decide),λbl QX=>?_⟩⟩;have sB:=(au Mq (.lst [])).trans (au QX (.lst []));have T8:ah≠bl:=aB aq QX;have xa:upd (upd H1 ah (.lst [])) bl (.lst []) ah=some (.lst []):=by rw[aD T8];exact aq
 have xb:upd (upd H1 ah (.lst [])) bl (.lst []) bl=some (.lst []):=aq;have hahH:H ah=none:=sA.free Mq;have hblH:H bl=none:=sA.free ((au Mq _).free QX);have nka:kd≠ah:=aB xk Mq;have nkb:kd≠bl:=aB xk ((au Mq _).free QX)
 replace xk:=sB _ _ xk
 have sC:=sA.trans sB;generalize upd (upd H1 ah (.lst [])) bl (.lst [])=H2 at *;refine⟨_,rfl,_,rfl,kd,p,ms,ns,rfl,K5.of xk,sC.seq hS,hK.nd,inm,by lia,by lia,λrk H3 hrk sm3 x3=>?_⟩;refine⟨_,rfl,kd,_,rfl,.inl (K5.of (sm3 _ _ xk)),rk,rks ms ns,ms.length,?_,K5.of x3,(by unfold rks;rw[aaa];lia),by lia,λh La ls H4 hz h12 RN T9 x4 hls hfr=>?_⟩
 ·rw[aaa];rfl
 have hla:∀l∈ls,l≠ah/\l≠bl:=λl hl=>⟨(aB (sm3 _ _ xa) (hfr l hl)).symm,(aB (sm3 _ _ xb) (hfr l hl)).symm⟩;have nra:La≠ah:=(aB (sm3 _ _ xa) RN).symm;have nrb:La≠bl:=(aB (sm3 _ _ xb) RN).symm;have sD:=sm3.trans T9
 replace xk:=sD _ _ xk
 replace xa:=sD _ _ xa
 replace xb:=sD _ _ xb
 have sE:=sC.trans sD;have hll:ls.length=h:=by rw[hls.1,jl]
 refine⟨La,rfl,⟨_,K5.of x4⟩,?_⟩;refine cQ (xs:=ls.map V.ref) (λi σ H'=>(∃k4 k5,σ=[some (.ref p),some (.ref kd),some (.ref ah),some (.ref bl),k4,k5])/\aV H H'/\(∀b o,b≠ah->b≠bl->H4 b=some o->H' b=some o) /\ ∃as:List Addr,H' ah=some (.lst (as.map V.ref))/\H' bl=some (.lst (((((Ls h (rks ms ns)).take i).map cZ).flatten).map V.int))/\qY H' as (((Ls h (rks ms ns)).take i).map λbs=>Lr bs (many ns.length))/\((((Ls h (rks ms ns)).take i).map cZ).flatten).length<=128*i) ?_ ?_ ?_ ?_
 ·exact⟨⟨none,none,rfl⟩,sE,λb o _ _ e=>e,[],xa,xb,⟨rfl,λi l xs e=>by cases e⟩,aaq _⟩
 ·rintro i σ H' _ ⟨_,_,kp,_⟩;exact K5.of (kp _ _ nra nrb x4)
 ·rintro i x σ H' hx ⟨⟨k4,k5,rfl⟩,sm,kp,as,ya,yb,hts,PX⟩;rw[aag]at hx;obtain⟨l,hl1,rfl⟩:=aaJ.mp hx;have hil:=(aab.mp hl1).1;obtain⟨bs,hbs⟩:∃bs,(Ls h (rks ms ns))[i]?=some bs:=⟨_,aac (by rw[<-hls.1];exact hil)⟩;obtain⟨hbb,hbl2⟩:=pP h _ bs (aah hbs);have hrl:(rks ms ns).length=ns.length:=by unfold rks;exact aaa ..
  have hbn:bs.length=ns.length:=hbl2.trans hrl;have Y7:=hla l (aah hl1);have yl:=kp _ _ Y7.1 Y7.2 (hls.2 i l bs hl1 hbs);have Ow:as.length=i:=by
   rw[hts.1,aaa,aaC,jl];lia
  refine⟨_,rfl,l,bs,rfl,K5.of yl,by lia,hbb,λr b t Mu H5 hb0 O3 y1 tab y2=>?_⟩;have RP:=O3 _ _ ya;have yb5:=O3 _ _ yb;have nba:b≠ah:=(aB ya hb0).symm;refine⟨_,rfl,.inl ⟨rfl,_,K5.of RP⟩,_,rfl,r,_,_,_,rfl,rfl,K6.of y1,rfl,t,_,_,_,rfl,rfl,K6.of tab.tup,rfl,ah,_,_,rfl,rfl,RP,?_,?_⟩
  ·rw[aaa,Ow,sizeLine_eq];lia
  have nra2:r≠ah:=λz=>by rw[z,RP]at y1;cases y1
  have y1':upd H5 ah (.lst (as.map V.ref++[.ref Mu])) r=some (.tup [.ref t,.ref b]):=by rw[aD nra2];exact y1
  have y2':upd H5 ah (.lst (as.map V.ref++[.ref Mu])) b=some (.lst ((cZ bs).map V.int)):=by rw[aD nba];exact y2
  have Ua:upd H5 ah (.lst (as.map V.ref++[.ref Mu])) bl=some (.lst (((((Ls h (rks ms ns)).take i).map cZ).flatten).map V.int)):=by rw[aD (abg T8)];exact yb5
  have ya':upd H5 ah (.lst (as.map V.ref++[.ref Mu])) ah=some (.lst ((as++[Mu]).map V.ref)):=by rw[aq,aam];rfl
  have s6:=cR (sm.trans O3) hahH (.lst (as.map V.ref++[.ref Mu]));have kp6:∀c o,c≠ah->c≠bl->H4 c=some o->upd H5 ah (.lst (as.map V.ref++[.ref Mu])) c=some o:=λc o n1 n2 e=>by rw[aD n1];exact O3 _ _ (kp c o n1 n2 e)
  have Y8:∀c xs,H5 c=some (.tup xs)->upd H5 ah (.lst (as.map V.ref++[.ref Mu])) c=some (.tup xs):=λc xs e=>by
   rw[aD λz=>?_]
   ·exact e
   ·rw[z,RP]at e;cases e
  have hts6:qY (upd H5 ah (.lst (as.map V.ref++[.ref Mu]))) (as++[Mu]) ((((Ls h (rks ms ns)).take i).map λbs=>Lr bs (many ns.length))++[Lr bs (many ns.length)]):=by
   refine qY.snoc (hts.to λc xs e=>Y8 _ _ (O3 _ _ e)) (Y8 _ _ ?_);have:=tab.Px;rw[hbn]at this;exact this
  have pl:(cZ bs).length<=128:=by rw[eX];unfold many;lia
  generalize upd H5 ah (.lst (as.map V.ref++[.ref Mu]))=H6 at *;have NK:(Ls h (rks ms ns)).take (i+1)=(Ls h (rks ms ns)).take i++[bs]:=by rw[aa8,hbs];rfl
  refine⟨_,rfl,.inl ⟨rfl,_,K5.of Ua⟩,_,rfl,r,_,_,_,rfl,rfl,K6.of y1',rfl,bl,b,_,_,rfl,rfl,Ua,y2',?_,?_⟩
  ·rw[aaa,aaa,sizeLine_eq];lia
  refine⟨⟨_,_,rfl⟩,cR s6 hblH _,λc o n1 n2 e=>by rw[aD n2];exact kp6 c o n1 n2 e,as++[Mu],by rw[aD T8];exact ya',?_,?_,?_⟩
  ·rw[aq,NK,aam,adu,aam];simp
  ·rw[NK,aam];refine hts6.to λc xs e=>?_;rw[aD λz=>?_]
   ·exact e
   ·rw[z,Ua]at e;cases e
  ·rw[NK,aam,adu,aae];simp only[aaz,ac7,abh,List.flatten_nil,abv];lia
 ·rintro σ H' ⟨⟨k4,k5,rfl⟩,sm,kp,as,ya,yb,hts,PX⟩;have efull:(Ls h (rks ms ns)).take (ls.map V.ref).length=Ls h (rks ms ns):=aav (by rw[aaa,jl];lia);rw[efull]at yb hts;have yk:=kp _ _ nka nkb xk;refine⟨_,rfl,p,_,rfl,.inl (sm.seq hS),_,rfl,kd,_,rfl,.inl ⟨K5.of yk,λk hk=>?_⟩⟩;have s1:=au hk (.tup (ms.map V.int));refine⟨_,rfl,ah,_,rfl,.inl ⟨K5.of (s1 _ _ ya),λc hc=>?_⟩⟩;have s2:=au hc (.tup (as.map V.ref));have MF:(ns.map V.int).length=ns.length:=aaa ..;rw[MF];refine⟨(by show 3<=sizeLine;decide),λt ht=>⟨_,rfl,(by show 2<=sizeLine;decide),λr hr'=>?_⟩⟩;have s3:=au ht (.tup [.int (ns.length:Int),.ref k,.ref c]);have s4:=au hr' (.tup [.ref t,.ref bl]);have s14:=s1.trans (s2.trans (s3.trans s4));exact q r t bl k c ms h as _ hblH (sm.trans s14) ⟨aq,s4 _ _ aq,s4 _ _ (s3 _ _ (s2 _ _ aq)),s4 _ _ (s3 _ _ aq),hts.to λb xs e=>s14 _ _ e,s14 _ _ yb,hK,hz,h12⟩
theorem uh:∀{l l':List Int},l.Pairwise (· < ·)->l'.Pairwise (· < ·)->(∀z,z∈l ↔ z∈l')->l=l'
 | [],[],_,_,_=>rfl
 | [],b::r',_,_,h=>absurd ((h b).mpr aay) abV
 | a::r,[],_,_,h=>absurd ((h a).mp aay) abV
 | a::r,b::r',p,p',h=>by
  have pa:=abk.mp p;have pb:=abk.mp p';have e:a=b:=by
   rcases aaA.mp ((h a).mp aay)with e|e
   ·exact e
   ·rcases aaA.mp ((h b).mpr aay)with e2|e2
    ·exact e2.symm
    ·have:=pb.1 a e;have:=pa.1 b e2;lia
  subst e;rw[uh pa.2 pb.2 λz=>?_];constructor
  ·intro hz;rcases aaA.mp ((h z).mp (aaw _ hz))with e|e
   ·have:=pa.1 z hz;lia
   ·exact e
  ·intro hz;rcases aaA.mp ((h z).mpr (aaw _ hz))with e|e
   ·have:=pb.1 z hz;lia
   ·exact e
theorem Kept.same{H H':Hp}{r t b k c:Addr}{ns ms:List Int}{h:Nat}{ls:List Addr}(x:Kept H r t b k c ns ms h ls)(s:aV H H'):Kept H' r t b k c ns ms h ls:=
 ⟨s _ _ x.r,s _ _ x.t,s _ _ x.k,s _ _ x.c,x.ls.to λb xs e=>s _ _ e,s _ _ x.b,x.kd,x.sz,x.h12⟩
theorem Kept.upd{H:Hp}{r t b k c y:Addr}{ns ms:List Int}{h:Nat}{ls:List Addr}{l:List V}{o:HO}(x:Kept H r t b k c ns ms h ls)(hy:H y=some (.lst l))(ne:b≠y):Kept (upd H y o) r t b k c ns ms h ls:=by
 have tk:∀d xs,H d=some (.tup xs)->L2.upd H y o d=some (.tup xs):=λd xs e=>by
  rw[aD λz=>?_]
  ·exact e
  ·rw[z,hy]at e;cases e
 exact⟨tk _ _ x.r,tk _ _ x.t,tk _ _ x.k,tk _ _ x.c,x.ls.to tk,by rw[aD ne];exact x.b,x.kd,x.sz,x.h12⟩
inductive qO(C:Addr)(vs:List V)(H:Hp)(Q:VK)(E:XK):Prop
 | mk (at0 most:Int) (_:vs=[.int at0,.int most]) (_:((0<=at0/\at0<=most/\Q .non H)\/((at0<0\/most<at0)/\E (.ref C) none H)))
theorem dW(T:Tx K mg a):bh P w K mg base (My P w) 1 a.Wi a.Wj ["at","most"] (qO a.Ln):=by
 refine T.QL.F.ok1 qC (λvs H Q E h=>?_) (λcdv A outer s H vs Q E hr h=>?_)
 ·obtain⟨p,m,rfl,_⟩:=h;rfl
 obtain⟨at0,most,rfl,h⟩:=h;refine⟨_,(az (aW (PW.pt (iI (aH iD (pv 0) aj (aO _)) (jm (aH mq (pv 0) (pv 1) (aO _))))) (az (mV T.QV rfl (aa u6 ao))) aP)),?_⟩;refine⟨_,rfl,_,_,rfl,rfl,_,rfl,bJ (λc=>?_) λc=>?_⟩
 ·have c:=of_decide_eq_true c;rcases h with ⟨h0,_⟩|⟨_,q⟩
  ·lia
  ·exact dz ⟨(by show 1<=sizeLine;decide),q⟩
 have c:¬at0<0:=λz=>c (decide_eq_true z);refine⟨_,rfl,_,rfl,_,_,rfl,rfl,_,rfl,bJ (λc2=>?_) λc2=>?_⟩
 ·have c2:=of_decide_eq_true c2;rcases h with ⟨h0,h1,_⟩|⟨_,q⟩
  ·lia
  ·exact⟨(by show 1<=sizeLine;decide),q⟩
 have c2:¬most<at0:=λz=>c2 (decide_eq_true z);rcases h with ⟨_,_,q⟩|⟨z,_⟩
 ·exact q
 ·lia
theorem Jd{p:Addr}{xs:List V}{i:Int}{v:V}{H:Hp}{Q:VK}(h:K5 K H p xs\/K6 K H p xs)(hat:Lj xs i=some v)(q:Q v H):Vr K (.ref p) (.int i) H Q:=by
 rcases h with h|h
 ·exact .inl ⟨p,_,_,_,rfl,rfl,h,hat,q⟩
 ·exact .inr (.inl ⟨p,_,_,_,rfl,rfl,h,hat,q⟩)
inductive HR(K:PySem.W.Frag)(vs:List V)(H:Hp)(Q:VK)(_e1:XK):Prop
 | mk (p:Addr) (ns:List Int) (goal:Int) (_:vs=[.ref p,.int goal]) (_:(K5 K H p (ns.map V.int)\/K6 K H p (ns.map V.int))) (_:0<ns.length) (_:ns.length<=4096) (_:∀lo:Nat,lo<ns.length->(lo=0 \/ ∃x,ns[lo]?=some x/\x<=goal)->(lo+1=ns.length \/ ∃x,ns[lo+1]?=some x/\goal<x)->Q (.int (lo:Int)) H)
theorem dM(T:Tx K mg a):bh P w K mg base K9 1 a.Wx a.Wy ["numbers","goal"] (HR K):=by
 refine T.RD.F.ok bN (λvs H Q E h=>?_) (λcdv A outer s H vs Q E hr h=>?_)
 ·obtain⟨p,ns,goal,rfl,_⟩:=h;rfl
 obtain⟨p,ns,goal,rfl,hS,h0,hl,q⟩:=h;refine⟨_,(ak (aC (i:=2) bN.nd rfl (aai rfl) aj)
  (ak (aC (i:=3) bN.nd rfl (aai rfl) (aN aF rfl T.Lg Tw.bc (aa (pv 0) ao)))
  (ak (vW PassesOwn.never (aH mq (aA bu (pv 3) (pv 2)) aj (aO _)) (ak (aC (i:=4) bN.nd rfl (aai rfl) (aA dZ (aA bG (pv 2) (pv 3)) aj))
  (az (aW (aH oX (aM Ii (pv 0) (pv 4) (λ_ _=>rfl)) (pv 1) (aO _)) (az (aC (i:=2) bN.nd rfl (aai rfl) (pv 4))) (az (aC (i:=3) bN.nd rfl (aai rfl) (pv 4)))))))
  (az (aG (pv 2)))))),?_⟩
 refine⟨_,rfl,p,_,rfl,hS,?_⟩;refine⟨λm σ H'=>∃(lo hi:Nat) (k:Option V),σ=[some (.ref p),some (.int goal),some (.int (lo:Int)),some (.int (hi:Int)),k]/\H'=H/\m=hi - lo/\lo<hi/\hi<=ns.length/\(lo=0 \/ ∃x,ns[lo]?=some x/\x<=goal)/\(hi=ns.length \/ ∃x,ns[hi]?=some x/\goal<x),⟨_,0,ns.length,none,?_,rfl,rfl,h0,aad _,.inl rfl,.inl rfl⟩,?_⟩
 ·rw[aaa];rfl
 rintro m σ H' ⟨lo,hi,k,rfl,rfl,rfl,hlt,hle,h1,h2⟩;refine⟨_,rfl,_,rfl,_,_,rfl,rfl,_,_,rfl,rfl,_,rfl,bJ (λc=>?_) λc=>?_⟩
 ·have c:(1:Int)<(hi:Int) - (lo:Int):=of_decide_eq_true c;refine⟨_,λ σ' H2 z=>z,?_⟩;have em:((lo:Int)+(hi:Int)) / 2=(((lo+hi) / 2:Nat):Int):=by lia
  have hm:(lo+hi) / 2<ns.length:=by lia
  have hg:ns[(lo+hi) / 2]?=some ns[(lo+hi) / 2]:=aac hm;have hat:Lj (ns.map V.int) (((lo:Int)+(hi:Int)) / 2)=some (.int ns[(lo+hi) / 2]):=by
   rw[em];exact cM hg
  refine⟨_,rfl,_,rfl,_,_,rfl,rfl,_,_,rfl,rfl,⟨by decide,by decide⟩,?_⟩;refine⟨_,rfl,_,rfl,Jd hS hat ⟨_,rfl,_,_,rfl,rfl,_,rfl,bJ (λd=>?_) λd=>?_⟩⟩
  ·have d:=of_decide_eq_true d;refine⟨_,rfl,hi - (lo+hi) / 2,by lia,(lo+hi) / 2,hi,some (.int (((lo:Int)+(hi:Int)) / 2)),?_,rfl,rfl,by lia,hle,.inr ⟨_,hg,d⟩,h2⟩;rw[<-em];rfl
  ·have d:¬ns[(lo+hi) / 2]<=goal:=λz=>d (decide_eq_true z);refine⟨_,rfl,(lo+hi) / 2 - lo,by lia,lo,(lo+hi) / 2,some (.int (((lo:Int)+(hi:Int)) / 2)),?_,rfl,rfl,by lia,by lia,h1,.inr ⟨_,hg,by lia⟩⟩;rw[<-em];rfl
 ·have c:¬(1:Int)<(hi:Int) - (lo:Int):=λz=>c (decide_eq_true z);have e:hi=lo+1:=by lia
  subst e;exact⟨_,rfl,q lo (by lia) h1 h2⟩
inductive Ca(vs:List V)(H:Hp)(Q:VK)(_e1:XK):Prop
 | mk (b t:Int) (_:vs=[.int b,.int t]) (_:(∀H',aV H H' -> ∀k:Nat,k<32->bit b k=1->ones b k=t->Q (.int (k:Int)) H')) (_:∀H',aV H H'->(∀k:Nat,k<32 -> ¬(bit b k=1/\ones b k=t))->Q .non H')
theorem ut(T:Tx K mg a):bh P w K mg base K9 3 a.V7 a.V8 ["block","nth"] Ca:=by
 refine T.Tt.F.ok iH (λvs H Q E h=>?_) (λcdv A outer s H vs Q E hr h=>?_)
 ·obtain⟨b,n,rfl,_⟩:=h;rfl
 obtain⟨b,t,rfl,q1,q2⟩:=h;refine⟨_,(ak (aC (i:=2) iH.nd rfl (aai rfl) aj)
  (ak (b8 PassesOwn.never rfl (zG rfl T.Y5 (aa (aL T.RB (lR T) (by decide) hr aR rfl (aa (pv 0) (aa (dm (v:=.int 32) rfl T.NB ⟨_,rfl⟩) ao))) ao)) (jN rfl (bW (aX (i:=3) iH.nd rfl (aai rfl)) (bW (aX (i:=4) iH.nd rfl (aai rfl)) gZ))) (ak (aW (PW.pt (vz (aH bD (pv 4) aj (aO _)) (pM (aH bD (pv 2) (pv 1) (aO _))))) (az (aG (pv 3))) aP)
  (az (aC (i:=2) iH.nd rfl (aai rfl) (aA bG (pv 2) (pv 4))))))
  (az (aG Dp)))),?_⟩
 refine⟨_,rfl,b,32,rfl,by decide,by decide,λr hr'=>⟨r,_,rfl,K5.of aq,?_⟩⟩;refine wJ (xs:=(bits b 32).map V.int) (λi σ H'=>(∃k bt,σ=[some (.int b),some (.int t),some (.int (ones b i)),k,bt])/\aV (upd H r (.lst ((bits b 32).map V.int))) H' /\ ∀j:Nat,j<i -> ¬(bit b j=1/\ones b j=t)) ?_ ?_ ?_ ?_
 ·exact⟨⟨none,none,rfl⟩,aV.refl _,λj hj=>absurd hj (aby _)⟩
 ·rintro i σ H' hi ⟨_,sm,_⟩;exact K5.of (sm _ _ aq)
 ·rintro i x σ H' p hx ⟨⟨k,bt,rfl⟩,sm,no⟩ hp;have hi:i<32:=by
   have:=(aab.mp hx).1;rw[aaa,jU]at this;exact this
  have ex:x=.int (bit b i):=by
   rw[aag,xK hi]at hx;exact(aax hx).symm
  subst ex;have sm':aV (upd H r (.lst ((bits b 32).map V.int))) (upd H' p (.tup [.int (i:Int),.int (bit b i)])):=sm.trans (au hp _);have smH:=(au hr' (.lst ((bits b 32).map V.int))).trans sm';have next:(∀j:Nat,j<i+1 -> ¬(bit b j=1/\ones b j=t)) ↔ ¬(bit b i=1/\ones b i=t):=by
   refine⟨λh=>h i (aa7 _),λh j hj=>?_⟩;rcases aaM j i with l|l
   ·exact no j l
   ·have:j=i:=by lia
    subst this;exact h
  have go:¬(bit b i=1/\ones b i=t)->(∃k bt,[some (V.int b),some (V.int t),some (V.int (ones b i+bit b i)),some (V.int (i:Int)),some (V.int (bit b i))]=[some (.int b),some (.int t),some (.int (ones b (i+1))),k,bt]) /\
    aV (upd H r (.lst ((bits b 32).map V.int))) (upd H' p (.tup [.int (i:Int),.int (bit b i)])) /\ ∀j:Nat,j<i+1 -> ¬(bit b j=1/\ones b j=t):=λh =>
   ⟨⟨_,_,by rw[dU]⟩,sm',next.mpr h⟩
  refine⟨p,_,rfl,K6.of aq,rfl,_,_,rfl,_,_,rfl,rfl,?_⟩;refine⟨_,rfl,rfl,_,rfl,?_⟩;refine bJ (λc=>?_) (λc=>?_)
  ·have c1:V.int (bit b i)=V.int 1:=of_decide_eq_true c;refine⟨_,rfl,_,rfl,rfl,_,rfl,?_⟩;refine bJ (λd=>?_) (λd=>?_)
   ·have d1:V.int (ones b i)=V.int t:=of_decide_eq_true d;exact⟨_,rfl,q1 _ smH i hi (V.int.inj c1) (V.int.inj d1)⟩
   ·have d1:¬V.int (ones b i)=V.int t:=λz=>d (decide_eq_true z);exact⟨_,rfl,_,rfl,_,_,rfl,rfl,go λz=>d1 (congrArg V.int z.2)⟩
  ·have c1:¬V.int (bit b i)=V.int 1:=λz=>c (decide_eq_true z);exact cF ⟨_,rfl,_,rfl,_,_,rfl,rfl,go λz=>c1 (congrArg V.int z.1)⟩
 ·rintro σ H' ⟨_,sm,no⟩;refine q2 _ ((au hr' _).trans sm) λk hk=>no k ?_;rw[aaa,jU];exact hk
structure Ask(H:Hp)(t:Addr)(L:LK)(ah:Addr)(ns ss:List Int)(rest:List V):Prop where
 tab:Tab H t ah ns rest
 asks:Asks H L ss
 bits:bB ns
 len:ns.length<=4096
 blk:∀n,n<many ns.length->L.all[L.off+n]?=some (.int (dG ns n))
theorem Ask.same{H H':Hp}{t:Addr}{L:LK}{ah:Addr}{ns ss:List Int}{rest:List V}(h:Ask H t L ah ns ss rest)(s:aV H H'):Ask H' t L ah ns ss rest:=⟨h.tab.same s,h.asks.same s,h.bits,h.len,h.blk⟩
inductive Lw(n:Nat)(k:Nat)(U:List Int)(ss:List Int)(ss':List Int):Prop
 | mk (tt:List Int) (_:ss'=ss++tt) (_:tt.length<=k) (_:∀x∈tt,(0<=x/\x<n)/\x∈U)
theorem Lw.none{n k:Nat}(U ss:List Int):Lw n k U ss ss:=⟨[],by simp,by simp,nofun⟩
theorem Lw.one{n:Nat}(ss:List Int){i:Int}(h0:0<=i)(h1:i<n):Lw n 1 [i] ss (ss++[i]):=⟨[i],rfl,by simp,λx hx=>by rw[aal.mp hx];exact⟨⟨h0,h1⟩,ac2 _⟩⟩
theorem Lw.trans{n j k:Nat}{U V a b c:List Int}(h:Lw n j U a b)(h':Lw n k V b c):Lw n (j+k) (U++V) a c:=by
 obtain⟨t,rfl,l,m⟩:=h;obtain⟨u,rfl,l',m'⟩:=h';refine⟨t++u,by rw[aaG],by rw[aae];lia,λx hx=>?_⟩;rcases aaK.mp hx with hx|hx
 ·exact⟨(m x hx).1,aa0 _ (m x hx).2⟩
 ·exact⟨(m' x hx).1,aas _ (m' x hx).2⟩
theorem Lw.le{n j k:Nat}{U V a b:List Int}(h:Lw n j U a b)(hk:j<=k)(hu:∀x∈U,x∈V):Lw n k V a b:=by
 obtain⟨t,e,l,m⟩:=h;exact⟨t,e,by lia,λx hx=>⟨(m x hx).1,hu x (m x hx).2⟩⟩
theorem Lw.len{n k:Nat}{U a b:List Int}(h:Lw n k U a b):b.length<=a.length+k:=by
 obtain⟨t,rfl,l,m⟩:=h;rw[aae];lia
theorem Ask.wr{H:Hp}{t:Addr}{L:LK}{ah:Addr}{ns ss:List Int}{rest:List V}(h:Ask H t L ah ns ss rest){n:Nat}(hn:n<many ns.length):Lw L.all.length 1 [((L.off+n:Nat):Int)] ss (ss++[((L.off+n:Nat):Int)]):=by
 have:=(aab.mp (h.blk n hn)).1;exact Lw.one ss (by lia) (by lia)
theorem iQ.outL{H:Hp}{f b:Addr}{c:pG}{cs:List Addr}{K8:List V}{xs:List V}(h:iQ H f c cs K8)(e:H b=some (.lst xs)):b∉cs:=λz=>by
 obtain⟨i,hi⟩:=aaL z;obtain⟨co,v,u,_,e2,_⟩:=h.cells i b hi;rw[e]at e2;cases e2
inductive Dv(f:Addr)(vs:List V)(H:Hp)(Q:VK)(_e1:XK):Prop
 | mk (sn bl:Addr) (ss:List Int) (xs:List V) (n:Nat) (x:V) (cs:List Addr) (_:vs=[.int (n:Int)]) (_:cX H f bL cs [.ref sn,.ref bl]) (_:H sn=some (.lst (ss.map V.int))) (_:H bl=some (.lst xs)) (_:sn≠bl) (_:ss.length<=1000000) (_:xs[n]?=some x) (_:Q x (upd H sn (.lst ((ss++[(n:Int)]).map V.int))))
theorem xm(T:Tx K mg a):o7 P w K mg base 1 Dv:=by
 refine Jg wQ (λ_ _ _ _ _ us hl=>match us,hl with | [_],_=>rfl) λf vs H Q h=>?_;obtain⟨sn,nd,ss,xs,n,x,cs,rfl,ca,h1,h2,ne,hls,hg,q⟩:=h;have o1:=cX.out ca h1;have o2:=cX.out ca h2;refine⟨rfl,cs,[.ref sn,.ref nd],ca,λcd A outer s hr=>⟨_,(ak (bH (lB PySem.F.plainAttrs_list PySem.F.slot_list_append PySem.F.type_list_append cG (pv 1) (aa (pv 0) ao)))
  (ak (aW (qH oX iD aj (pv 0) (aN aF rfl T.Lg Tw.bc (aa (pv 2) ao))) (az (aG (aM cD (pv 2) (pv 0) (λ_ _=>rfl)))) aP)
  (az (aG aj)))),?_⟩⟩
 have g1:hide H cs sn=some (.lst (ss.map V.int)):=by rw[bw o1];exact h1
 have g2:upd (hide H cs) sn (.lst (ss.map V.int++[.int (n:Int)])) nd=some (.lst xs):=by rw[aD (abg ne),bw o2];exact h2
 have hn:=(aab.mp hg).1;refine⟨_,rfl,.inl ⟨rfl,_,K5.of g1⟩,_,rfl,sn,_,_,rfl,rfl,g1,?_,?_⟩
 ·rw[aaa,sizeLine_eq];lia
 refine⟨_,rfl,_,_,rfl,rfl,_,rfl,bJ (λ_=>?_) λz=>absurd (decide_eq_true (show (0:Int)<=(n:Int) by lia)) z⟩;refine⟨_,rfl,nd,_,rfl,.inl (K5.of g2),_,_,rfl,rfl,_,rfl,bJ (λ_=>?_) λz=>absurd (decide_eq_true (show (n:Int)<(xs.length:Int) by lia)) z⟩;refine⟨_,rfl,_,rfl,nd,_,_,_,rfl,rfl,K5.of g2,G8 hg,?_⟩;show Q x (over H cs (upd (hide H cs) sn (.lst (ss.map V.int++[.int (n:Int)]))));rw[vO o1,tX];rw[aam]at q;exact q
inductive wN(Pt:Addr)(vs:List V)(H:Hp)(Q:VK)(_e1:XK):Prop
 | mk (bl sn:Addr) (_:vs=[.ref bl,.ref sn]) (_:TabAt H Pt (tG dN) bL.qual) (_:∀f cs H2,H f=none->mC Pt H H2->TabAt H2 Pt (tG dN) bL.qual->cX H2 f bL cs [.ref sn,.ref bl]->Q (.ref f) H2)
theorem xQ(T:Tx K mg a)(B:Bs mg base a):bh P w K mg base K9 1 a.XS a.Tq ["_law_blocks","_law_seen"] (wN a.MT):=by
 refine MJ.maker0 (T:=bL) (pos:=tG dN) T.YS.F o4 v7 B.bm T.adO B.adP (λvs H Q E h=>?_) rfl (λvs H Q E h=>?_)
 ·obtain⟨bl,sn,rfl,_⟩:=h;rfl
 obtain⟨nd,sn,rfl,hT,q⟩:=h;refine⟨hT,[.ref sn,.ref nd],λj m e=>?_,rfl,λfi cs H2 n1 n2 n3 n4 n5=>q fi cs H2 n1 n3 n4 n5⟩
 match j,e with
 | 0,e=>cases e;exact⟨_,rfl,rfl⟩
 | 1,e=>cases e;exact⟨_,rfl,rfl⟩
 | j+2,e=>simp at e
theorem dq(T:Tx K mg a):o7 P w K mg base 2 Fv:=by
 refine Jl nj (λ_ _ _ _ us hl=>match us,hl with | [_],_=>rfl) λf vs H Q h=>?_;obtain⟨L,ss,n,x,rfl,rfl,hA,hls,hat,q⟩:=h;obtain⟨sn,g,cs,cs',hw,nsb,ca,cg⟩:=hA.look;have hsn:=(hA.seen sn hw).1;have o1:sn∉cs:=iQ.outL ca hsn;have o2:L.bl∉cs:=iQ.outL ca hA.nodes;refine⟨rfl,cs,[.ref g,.int (L.off:Int)],ca,λcd A outer s hr=>⟨_,(jy ((xm T).mono (by decide)) hr (i:=1) rfl (aa (aA bG (pv 2) (pv 0)) ao)),?_⟩⟩;have g1:hide H cs sn=some (.lst (ss.map V.int)):=by rw[bw o1];exact hsn
 have g2:hide H cs L.bl=some (.lst L.all):=by rw[bw o2];exact hA.nodes
 obtain⟨o,fd,e1,e2⟩:∃o fd,hide H cs g=some (aQ g o)/\o.data=.func fd:=by
  obtain⟨cd,doc,pm,ctv,oc,vs,t,h1,_⟩:=cg.ex;exact⟨_,_,h1,rfl⟩
 refine⟨g,o,fd,rfl,e1,e2,_,rfl,_,rfl,_,_,rfl,rfl,e1,sn,L.bl,ss,L.all,L.off+n,x,cs',?_,cg,g1,g2,nsb,by lia,hat,?_⟩
 ·exact congrArg (λv=>[V.int v]) (by lia)
 show Q x (over H cs (upd (hide H cs) sn (.lst ((ss++[((L.off+n:Nat):Int)]).map V.int))));rw[vO o1,tX];rw[LK.put_some hw]at q;exact q
inductive vI(Pt:Addr)(vs:List V)(H:Hp)(Q:VK)(_e1:XK):Prop
 | mk (g:Addr) (off:Nat) (_:vs=[.ref g,.int (off:Int)]) (_:TabAt H Pt (lE cI) aZ.qual) (_:∀f cs H2,H f=none->(∀c∈cs,H c=none)->mC Pt H H2->TabAt H2 Pt (lE cI) aZ.qual->iQ H2 f aZ cs [.ref g,.int (off:Int)]->Q (.ref f) H2)
theorem uJ(T:Tx K mg a)(B:Bs mg base a):bh P w K mg base K9 1 a.V9 a.Tn ["look","first"] (vI a.Le):=by
 refine MJ.makerL0 (T:=aZ) (pos:=lE cI) T.Yo.F uP uY B.bm T.adx B.ady (λvs H Q E h=>?_) rfl (λvs H Q E h=>?_)
 ·obtain⟨bl,sn,rfl,_⟩:=h;rfl
 obtain⟨g,off,rfl,hT,q⟩:=h;refine⟨hT,[.ref g,.int (off:Int)],λj m e=>?_,rfl,λfi cs H2 n1 n2 n3 n4 n5=>q fi cs H2 n1 n2 n3 n4 n5⟩
 match j,e with
 | 0,e=>cases e;exact⟨_,rfl,rfl⟩
 | 1,e=>cases e;exact⟨_,rfl,rfl⟩
 | j+2,e=>simp at e
inductive yf(vs:List V)(H:Hp)(Q:VK)(E:XK):Prop
 | mk (t:Addr) (L:LK) (ah:Addr) (ns ss:List Int) (rest:List V) (at0:Nat) (_:vs=[.ref t,.ref L.f,.int (at0:Int)]) (_:Ask H t L ah ns ss rest) (_:ss.length<1000000) (_:at0<=ns.length) (_:∀ss' H',Lw L.all.length 1 [((L.off+at0 / 32:Nat):Int)] ss ss'->aV (L.put H ss') H'->Q (.int (ns.take at0).sum) H')
theorem qX(T:Tx K mg a):bh P w K mg base K9 4 a.Wm a.Wn ["tables","look","at"] yf:=by
 refine T.Tu.F.ok gM (λvs H Q E h=>?_) (λcdv A outer s H vs Q E hr h=>?_)
 ·obtain⟨t,L,ah,ns,ss,rest,at0,rfl,_⟩:=h;rfl
 obtain⟨t,L,ah,ns,ss,rest,at0,rfl,hA,hls,hat0,q⟩:=h;refine⟨_,(ak (aC (i:=3) gM.nd rfl (aai rfl) (aM aJ (pv 0) aj (λ_ _=>rfl)))
  (ak (aC (i:=4) gM.nd rfl (aai rfl) (aM aJ (pv 0) aj (λ_ _=>rfl)))
  (ak (bH (aL T.QL (dW T) (by decide) hr zH rfl (aa (pv 2) (aa (pv 3) ao))))
  (ak (aC (i:=5) gM.nd rfl (aai rfl) (aA dZ (pv 2) (dm (v:=.int 32) rfl T.NB ⟨_,rfl⟩)))
  (ak (aC (i:=6) gM.nd rfl (aai rfl) (aA bj (pv 2) (dm (v:=.int 32) rfl T.NB ⟨_,rfl⟩)))
  (ak (aW (aH bD (pv 6) aj (aO _)) (az (aG (aM aJ (pv 4) (pv 5) (λ_ _=>rfl)))) aP)
  (az (aG (aA bG (aM aJ (pv 4) (pv 5) (λ_ _=>rfl)) (aL T.Tr (qy T) (by decide) hr aR rfl (aa (jy ((dq T).mono (by decide)) hr (i:=1) rfl (aa (pv 5) ao)) (aa (pv 6) ao)))))))))))),?_⟩
 refine⟨_,rfl,t,_,_,_,rfl,rfl,K6.of hA.tab.tup,vy _ _ _ hA.tab.few,?_⟩;refine⟨_,rfl,t,_,_,_,rfl,rfl,K6.of hA.tab.tup,uN _ _ _ hA.tab.few,?_⟩;refine⟨_,rfl,_,rfl,_,_,rfl,.inl ⟨by lia,by lia,?_⟩⟩;refine⟨_,rfl,_,_,rfl,rfl,⟨by decide,by decide⟩,?_⟩;refine⟨_,rfl,_,_,rfl,rfl,(by show (0:Int)<32;decide),?_⟩;have ej:(at0:Int) / 32=((at0 / 32:Nat):Int):=by lia
 have hat:Lj ((Lr ns (many ns.length)).map V.int) ((at0:Int) / 32)=some (.int (ns.take (32*(at0 / 32))).sum):=by
  rw[ej];exact HH (by unfold many;lia)
 refine⟨_,rfl,rfl,_,rfl,bJ (λc=>?_) λc=>?_⟩
 ·have c:V.int ((at0:Int)%32)=V.int 0:=of_decide_eq_true c;injection c with c
  refine⟨_,rfl,_,rfl,ah,_,_,_,rfl,rfl,K6.of hA.tab.Px,hat,?_⟩;have:=q ss H (Lw.none _ ss) (by rw[hA.asks.id];exact aV.refl _);rw[show at0=32*(at0 / 32)from by lia]at this;exact this
 have c:(at0:Int)%32≠0:=λz=>c (decide_eq_true (congrArg V.int z));obtain⟨o,fd,e1,g1⟩:=hA.asks.look.fn;have hm:at0 / 32<many ns.length:=by
  unfold many;lia
 refine⟨_,rfl,_,rfl,ah,_,_,_,rfl,rfl,K6.of hA.tab.Px,hat,L.f,o,fd,rfl,e1,g1,_,rfl,e1,L,ss,at0 / 32,_,rfl,congrArg (λv=>[v]) (congrArg V.int ej),hA.asks,hls,hA.blk _ (by first|exact hm|lia),?_⟩;refine⟨_,rfl,_,_,rfl,(show 0<=(at0:Int)%32 from by lia),(show (at0:Int)%32<=32 from by lia),λH' sm=>⟨_,_,rfl,rfl,?_⟩⟩;have:=q _ H' (hA.wr hm) sm;have e:(ns.take at0).sum=(ns.take (32*(at0 / 32))).sum+ones (dG ns (at0 / 32)) ((at0:Int)%32).toNat:=by
  rw[gr hA.bits _ _ (by lia)];congr 2;lia
 rw[e]at this;exact this
inductive CJ(vs:List V)(H:Hp)(Q:VK)(E:XK):Prop
 | mk (t:Addr) (L:LK) (ah:Addr) (ns ss:List Int) (rest:List V) (at0:Nat) (b:Int) (_:vs=[.ref t,.ref L.f,.int (at0:Int)]) (_:Ask H t L ah ns ss rest) (_:ss.length<1000000) (_:ns[at0]?=some b) (_:∀ss' H',Lw L.all.length 1 [((L.off+at0 / 32:Nat):Int)] ss ss'->aV (L.put H ss') H'->Q (.int b) H')
theorem Ck(T:Tx K mg a):bh P w K mg base K9 3 a.Wk a.Wl ["tables","look","at"] CJ:=by
 refine T.Ys.F.ok Aq (λvs H Q E h=>?_) (λcdv A outer s H vs Q E hr h=>?_)
 ·obtain⟨t,L,ah,ns,ss,rest,at0,b,rfl,_⟩:=h;rfl
 obtain⟨t,L,ah,ns,ss,rest,at0,b,rfl,hA,hls,hb,q⟩:=h;have hat0:=(aab.mp hb).1;refine⟨_,(ak (bH (aL T.QL (dW T) (by decide) hr zH rfl (aa (pv 2) (aa (aA bu (aM aJ (pv 0) aj (λ_ _=>rfl)) aj) ao))))
  (az (aG (aL T.Rz (n6 T) (by decide) hr aR rfl (aa (jy ((dq T).mono (by decide)) hr (i:=1) rfl (aa (aA dZ (pv 2) (dm (v:=.int 32) rfl T.NB ⟨_,rfl⟩)) ao)) (aa (aA bj (pv 2) (dm (v:=.int 32) rfl T.NB ⟨_,rfl⟩)) ao)))))),?_⟩
 refine⟨_,rfl,_,rfl,t,_,_,_,rfl,rfl,K6.of hA.tab.tup,vy _ _ _ hA.tab.few,_,_,rfl,rfl,_,_,rfl,.inl ⟨by lia,by lia,?_⟩⟩;obtain⟨o,fd,e1,g1⟩:=hA.asks.look.fn;have hm:at0 / 32<many ns.length:=by
  unfold many;lia
 have ej:(at0:Int) / 32=((at0 / 32:Nat):Int):=by lia
 refine⟨L.f,o,fd,rfl,e1,g1,_,rfl,_,_,rfl,rfl,⟨by decide,by decide⟩,e1,L,ss,at0 / 32,_,rfl,congrArg (λv=>[v]) (congrArg V.int ej),hA.asks,hls,hA.blk _ (by first|exact hm|lia),?_⟩;refine⟨_,rfl,_,_,rfl,rfl,(by show (0:Int)<32;decide),_,_,rfl,(show 0<=(at0:Int)%32 from by lia),?_⟩;rw[show bit (dG ns (at0 / 32)) ((at0:Int)%32).toNat=b from by rw[show ((at0:Int)%32).toNat=at0%32 from by lia,bit_at hA.bits _ _ (by lia),show 32*(at0 / 32)+at0%32=at0 from by lia,hb];rfl];exact q _ _ (hA.wr hm) (aV.refl _)
structure SG where
 t:Addr
 k:Addr
 c:Addr
 bl:Addr
 sn:Addr
 g:Addr
 ls:List Addr
 ns:List Int
 ms:List Int
 h:Nat
def SG.lv(p:SG):List (List Int):=Ls p.h (rks p.ms p.ns)
def SG.all(p:SG):List V:=((p.lv.map cZ).flatten).map V.int
theorem SG.lv_len(p:SG):p.lv.length=p.h:=jl _ _
theorem SG.lv_mem(p:SG){bs:List Int}(h:bs∈p.lv):bB bs/\bs.length=p.ns.length:=by
 obtain⟨h1,h2⟩:=Tw.pP _ _ _ h;refine⟨h1,h2.trans ?_⟩;unfold rks;exact aaa ..
theorem z9{m:Nat}:∀{L:List (List Int)} {i:Nat}{bs:List Int},(∀x∈L,(cZ x).length=m)->L[i]?=some bs->(((L.map cZ).flatten).drop (i*m)).take m=cZ bs
 | [],i,bs,_,h=>by cases h
 | x::L,0,bs,hl,h=>by
  cases h;rw[aeq,abX,aaz,abh,abW (by rw[hl x aay];exact aad _),aav (by rw[hl x aay];exact aad _)]
 | x::L,i+1,bs,hl,h=>by
  have hx:=hl x aay;rw[aaz,abh,adY,abY (by rw[hx,acI];lia),abj,hx,show (i+1)*m - m=i*m by rw[acI];lia];exact z9 (λy hy=>hl y (aaw _ hy)) h
theorem SG.all_at(p:SG){i n:Nat}{bs:List Int}(h:p.lv[i]?=some bs)(hn:n<many p.ns.length):p.all[i*many p.ns.length+n]?=some (.int (dG bs n)):=by
 have hl:=(p.lv_mem (aah h)).2;have hf:=z9 (m:=many p.ns.length) (λx hx=>by rw[eX,(p.lv_mem hx).2]) h;unfold SG.all;rw[aag,<-ab1,<-aa3 hn,hf,uw (by rw[hl];exact hn)];rfl
structure SQ(H:Hp)(Ph:Addr)(p:SG)(ss:List Int):Prop where
 t:H p.t=some (.tup [.int (p.ns.length:Int),.ref p.k,.ref p.c])
 k:H p.k=some (.tup (p.ms.map V.int))
 c:H p.c=some (.tup (p.ls.map V.ref))
 ls:qY H p.ls (p.lv.map λbs=>Lr bs (many p.ns.length))
 b:H p.bl=some (.lst p.all)
 kd:Kinds p.ns p.ms
 sz:BR p.ms.length (2^p.h)
 h12:p.h<=12
 len:p.ns.length<=4000
 sn:H p.sn=some (.lst (ss.map V.int))
 ne:p.sn≠p.bl
 few:ss.length<=900000
 clo:∃cs,cX H p.g bL cs [.ref p.sn,.ref p.bl]
 tab:TabAt H Ph (lE cI) aZ.qual
structure bY(H H':Hp)(Ph:Addr)(p:SG)(k:Nat)(U ss ss':List Int):Prop where
 kp:∀b o,H b=some o->b≠Ph->b≠p.sn->H' b=some o
 seen:H' p.sn=some (.lst (ss'.map V.int))
 tab:TabAt H' Ph (lE cI) aZ.qual
 wr:Lw p.all.length k U ss ss'
theorem bY.trans{H H1 H2:Hp}{Ph:Addr}{p:SG}{j k:Nat}{U V a b c:List Int}(h:bY H H1 Ph p j U a b)(h':bY H1 H2 Ph p k V b c):bY H H2 Ph p (j+k) (U++V) a c:=
 ⟨λx o e n1 n2=>h'.kp x o (h.kp x o e n1 n2) n1 n2,h'.seen,h'.tab,h.wr.trans h'.wr⟩
theorem bY.le{H H1:Hp}{Ph:Addr}{p:SG}{j k:Nat}{U V a b:List Int}(h:bY H H1 Ph p j U a b)(hk:j<=k)(hu:∀x∈U,x∈V):bY H H1 Ph p k V a b:=⟨h.kp,h.seen,h.tab,h.wr.le hk hu⟩
theorem bY.same{H H1 H2:Hp}{Ph:Addr}{p:SG}{j:Nat}{U a b:List Int}(h:bY H H1 Ph p j U a b)(s:aV H1 H2):bY H H2 Ph p j U a b:=
 ⟨λx o e n1 n2=>s _ _ (h.kp x o e n1 n2),s _ _ h.seen,TabAt.same h.tab s,h.wr⟩
theorem bY.free{H H':Hp}{Ph l:Addr}{p:SG}{k:Nat}{U ss ss':List Int}(d:bY H H' Ph p k U ss ss')(h:H' l=none):H l=none:=by
 cases e:H l with
 | none=>rfl
 | some o =>
  by_cases z1:l=Ph
  ·obtain⟨ps,h1,_⟩:=d.tab;rw[z1,h1]at h;cases h
  by_cases z2:l=p.sn
  ·rw[z2,d.seen]at h;cases h
  rw[d.kp l o e z1 z2]at h;cases h
theorem bY.set{H X:Hp}{Ph r:Addr}{p:SG}{k:Nat}{U ss us:List Int}{vs ws:List V}(d:bY H X Ph p k U ss us)(hn:H r=none)(hx:X r=some (.lst vs))(nr:r≠p.sn):bY H (L2.upd X r (.lst ws)) Ph p k U ss us:=
 ⟨λb o e n1 n2=>by rw[aD (aB e hn)];exact d.kp b o e n1 n2,by rw[aD nr.symm];exact d.seen,TabAt.upd d.tab hx,d.wr⟩
theorem SQ.self{H:Hp}{Ph:Addr}{p:SG}{ss:List Int}(h:SQ H Ph p ss):bY H H Ph p 0 [] ss ss:=⟨λ_ _ e _ _=>e,h.sn,h.tab,Lw.none _ ss⟩
def Kp(H H':Hp):Prop:=∀b o,H b=some o->(∀ps,o ≠ .Ld ps)->(∀ps,o ≠ .lst ps)->H' b=some o
theorem SQ.kp{H H':Hp}{Ph:Addr}{p:SG}{k:Nat}{U ss ss':List Int}(h:SQ H Ph p ss)(d:bY H H' Ph p k U ss ss'):Kp H H':=λb o e n1 n2=>d.kp b o e (TabAt.ne h.tab e n1) λz=>by
 rw[z,h.sn]at e;cases e;exact n2 _ rfl
theorem SQ.did{H H':Hp}{Ph:Addr}{p:SG}{k:Nat}{U ss ss':List Int}(h:SQ H Ph p ss)(d:bY H H' Ph p k U ss ss')(hl:ss'.length<=900000):SQ H' Ph p ss':=by
 have k1:=h.kp d;refine⟨k1 _ _ h.t nofun nofun,k1 _ _ h.k nofun nofun,k1 _ _ h.c nofun nofun,h.ls.to λb xs e=>k1 _ _ e nofun nofun,d.kp _ _ h.b (TabAt.ne h.tab h.b nofun) h.ne.symm,h.kd,h.sz,h.h12,h.len,d.seen,h.ne,hl,?_,d.tab⟩;obtain⟨cs,ca⟩:=h.clo;exact⟨cs,ca.same λb o e=>k1 _ _ e nofun nofun⟩
theorem SQ.same{H H':Hp}{Ph:Addr}{p:SG}{ss:List Int}(h:SQ H Ph p ss)(s:aV H H'):SQ H' Ph p ss:=h.did (h.self.same s) h.few
inductive Lv(H:Hp)(p:SG)(i:Nat)(l:Addr):Prop
 | mk (La ah f:Addr) (bs:List Int) (_:p.lv[i]?=some bs) (_:H l=some (.tup [.ref La,.ref f])) (_:H La=some (.tup [.int (p.ns.length:Int),.ref ah])) (_:H ah=some (.tup ((Lr bs (many p.ns.length)).map V.int))) (_:jF H ⟨f,some p.sn,p.bl,i*many p.ns.length,p.all⟩)
theorem Lv.kept{H H':Hp}{p:SG}{i:Nat}{l:Addr}(h:Lv H p i l)(s:Kp H H'):Lv H' p i l:=by
 obtain⟨La,ah,f,bs,h1,h2,h3,h4,h5⟩:=h;exact⟨La,ah,f,bs,h1,s _ _ h2 nofun nofun,s _ _ h3 nofun nofun,s _ _ h4 nofun nofun,h5.kept s⟩
theorem Kp.of{H H':Hp}(s:aV H H'):Kp H H':=λb o e _ _=>s _ _ e
theorem Lv.ask{H:Hp}{Ph:Addr}{p:SG}{ss:List Int}{i:Nat}{l:Addr}(x:SQ H Ph p ss)(h:Lv H p i l):∃(La ah f:Addr) (bs:List Int),p.lv[i]?=some bs/\H l=some (.tup [.ref La,.ref f])/\Ask H La ⟨f,some p.sn,p.bl,i*many p.ns.length,p.all⟩ ah bs ss []:=by
 obtain⟨La,ah,f,bs,h1,h2,h3,h4,h5⟩:=h;obtain⟨hb,hl⟩:=p.lv_mem (aah h1);refine⟨La,ah,f,bs,h1,h2,⟨by rw[hl];exact h3,by rw[hl];exact h4,by decide⟩,⟨h5,λsn e=>?_,x.b,?_⟩,hb,?_,λn hn=>p.all_at h1 (by rw[<-hl];exact hn)⟩
 ·cases e;exact⟨x.sn,x.ne⟩
 ·have:=x.few;lia
 ·have:=x.len;lia
theorem SQ.look{H H':Hp}{Ph:Addr}{p:SG}{ss ss' U:List Int}{k:Nat}{L:LK}(h:SQ H Ph p ss)(hw:L.wr=some p.sn)(ha:L.all=p.all)(w:Lw L.all.length k U ss ss')(s:aV (L.put H ss') H'):bY H H' Ph p k U ss ss':=by
 rw[LK.put_some hw]at s;rw[ha]at w;exact⟨λx o e n1 n2=>s _ _ (by rw[aD n2];exact e),s _ _ aq,TabAt.same (TabAt.upd h.tab h.sn) s,w⟩
inductive vh(Ph:Addr)(vs:List V)(H:Hp)(Q:VK)(_e1:XK):Prop
 | mk (p:SG) (ss:List Int) (_:vs=[.ref p.t,.ref p.g]) (_:SQ H Ph p ss) (_:∀(r:Addr) (lv:List Addr) (H':Hp),H r=none->H' r=some (.lst (lv.map V.ref))->lv.length=p.h->(∀i l,lv[i]?=some l->Lv H' p i l)->bY H H' Ph p 0 [] ss ss->Q (.ref r) H')
theorem di(T:Tx K mg a)(B:Bs mg base a):bh P w K mg base K9 2 a.WX a.WY ["tables","look"] (vh a.Le):=by
 refine T.Pu.F.ok eV (λvs H Q E h=>?_) (λcdv A outer s H vs Q E hr h=>?_)
 ·obtain⟨p,ss,rfl,_⟩:=h;rfl
 obtain⟨p,ss,rfl,x,q⟩:=h;refine⟨_,(ak (aC (i:=2) eV.nd rfl (aai rfl) (bR ao))
  (ak (aC (i:=3) eV.nd rfl (aai rfl) aj)
  (ak (b8 PassesOwn.never rfl (IV (aM aJ (pv 0) aj (λ_ _=>rfl))) (aX (i:=4) eV.nd rfl (aai rfl)) (ak (bH (lB PySem.F.plainAttrs_list PySem.F.slot_list_append PySem.F.type_list_append cG (pv 2) (aa (bU (aa (bU (aa (aM aJ (pv 0) aj (λ_ _=>rfl)) (aa (pv 4) ao))) (aa (aL T.Yo (uJ T B) (by decide) hr aR rfl (aa (pv 1) (aa (pv 3) ao))) ao))) ao)))
  (az (aC (i:=3) eV.nd rfl (aai rfl) (aA bu (aA bG (pv 3) (aN aF rfl T.Lg Tw.bc (aa (pv 4) ao))) aj)))))
  (az (aG (pv 2)))))),?_⟩
 refine⟨(by show 0<=sizeLine;decide),λr hr'=>?_⟩;have Ub:r≠p.sn:=(aB x.sn hr').symm;have d0:=(x.self).same (au hr' (.lst []));have x0:=x.did d0 x.few;have xr:upd H r (.lst []) r=some (.lst []):=aq;generalize upd H r (.lst [])=H0 at *;have hll:p.ls.length=p.h:=by rw[x.ls.1,aaa,p.lv_len]
 have h12:=x.h12;have Nb:=x.len;refine⟨_,rfl,p.t,_,_,_,rfl,rfl,K6.of x0.t,rfl,p.c,rfl,⟨_,K6.of x0.c⟩,?_⟩;refine Gm (xs:=p.ls.map V.ref) (λi σ H'=>(∃k4,σ=[some (.ref p.t),some (.ref p.g),some (.ref r),some (.int ((i*many p.ns.length:Nat):Int)),k4])/\bY H H' a.Le p 0 [] ss ss /\ ∃lv:List Addr,H' r=some (.lst (lv.map V.ref))/\lv.length=i /\ ∀j l,lv[j]?=some l->Lv H' p j l) ⟨⟨none,?_⟩,d0,[],xr,rfl,λj l e=>by cases e⟩ ?_ ?_ ?_
 ·rw[aeq];rfl
 ·rintro i σ H' _ ⟨_,d,_⟩;exact K6.of ((x.did d x.few).c)
 ·rintro i y σ H' hy ⟨⟨k4,rfl⟩,d,lv,xr,Lq,hL⟩;rw[aag]at hy;obtain⟨ah,Mq,rfl⟩:=aaJ.mp hy;have hil:=(aab.mp Mq).1;obtain⟨bs,hbs⟩:∃bs,p.lv[i]?=some bs:=⟨_,aac (by rw[p.lv_len];lia)⟩;have x1:=x.did d x.few;have O4:=x1.ls.2 i ah (Lr bs (many p.ns.length)) Mq (by rw[aag,hbs];rfl);refine⟨_,rfl,.inl ⟨rfl,_,K5.of xr⟩,_,rfl,p.t,_,_,_,rfl,rfl,K6.of x1.t,rfl,_,rfl,(by show 2<=sizeLine;decide),λLa RN=>?_⟩;have s1:=au RN (.tup [.int (p.ns.length:Int),.ref ah]);have x2:=x1.same s1;have QZ:upd H' La (.tup [.int (p.ns.length:Int),.ref ah]) La=some (.tup [.int (p.ns.length:Int),.ref ah]):=aq
  replace xr:=s1 _ _ xr
  replace O4:=s1 _ _ O4
  replace d:=d.same s1
  replace hL:∀j l,lv[j]?=some l->Lv (upd H' La (.tup [.int (p.ns.length:Int),.ref ah])) p j l:=λj l e=>(hL j l e).kept (Kp.of s1)
  generalize upd H' La (.tup [.int (p.ns.length:Int),.ref ah])=H1 at *;obtain⟨cs',cg⟩:=x2.clo;refine⟨_,rfl,_,rfl,p.g,i*many p.ns.length,rfl,x2.tab,λf cs H2 hf hcs st tab2 la=>?_⟩;have RQ:Kp H1 H2:=λb o e n1 n2=>st _ _ e (TabAt.ne x2.tab e n1);have d2:bY H1 H2 a.Le p 0 [] ss ss:=⟨λb o e n1 n2=>st _ _ e n1,st _ _ x2.sn (TabAt.ne x2.tab x2.sn nofun),tab2,Lw.none _ ss⟩;have lk:jF H2 ⟨f,some p.sn,p.bl,i*many p.ns.length,p.all⟩:=⟨p.sn,p.g,cs,cs',rfl,x.ne,la,cX.hid2 cg hcs λb o e=>RQ _ _ e nofun nofun⟩
  replace xr:=st _ _ xr (TabAt.ne x2.tab xr nofun)
  replace O4:=RQ _ _ O4 nofun nofun
  replace QZ:=RQ _ _ QZ nofun nofun
  replace d:=d.trans d2
  replace hL:∀j l,lv[j]?=some l->Lv H2 p j l:=λj l e=>(hL j l e).kept RQ
  refine⟨(by show 2<=sizeLine;decide),λl hl=>⟨r,_,_,rfl,rfl,au hl _ _ _ xr,?_,?_⟩⟩
  ·rw[aaa,Lq,sizeLine_eq];lia
  have s3:=au hl (.tup [.ref La,.ref f]);have xl:upd H2 l (.tup [.ref La,.ref f]) l=some (.tup [.ref La,.ref f]):=aq
  replace xr:=s3 _ _ xr
  replace O4:=s3 _ _ O4
  replace QZ:=s3 _ _ QZ
  replace lk:=lk.same s3
  replace d:=d.same s3
  replace hL:∀j l',lv[j]?=some l'->Lv (upd H2 l (.tup [.ref La,.ref f])) p j l':=λj l' e=>(hL j l' e).kept (Kp.of s3)
  generalize upd H2 l (.tup [.ref La,.ref f])=H3 at *;have Uc:Kp H3 (upd H3 r (.lst (lv.map V.ref++[.ref l]))):=λb o e _ n2=>by
   rw[aD λz=>by rw[z,xr]at e;cases e;exact n2 _ rfl];exact e
  have eal:((Lr bs (many p.ns.length)).map V.int).length=many p.ns.length+1:=by rw[aaa,fH]
  refine⟨_,rfl,_,rfl,ah,_,rfl,.inr (K6.of (Uc _ _ O4 nofun nofun)),_,_,rfl,rfl,_,_,rfl,rfl,⟨some (.ref ah),?_⟩,d.set hr' xr Ub,lv++[l],?_,?_,λj l' e=>?_⟩
  ·have e:((i*many p.ns.length:Nat):Int)+(((Lr bs (many p.ns.length)).map V.int).length:Int) - 1=(((i+1)*many p.ns.length:Nat):Int):=by
    rw[eal,acI];lia
   rw[<-e];rfl
  ·rw[aq,aam];rfl
  ·rw[aae,Lq];rfl
  ·rcases aaM j lv.length with c|c
   ·rw[aar c]at e;exact(hL j l' e).kept Uc
   ·rw[aap c]at e;have:j - lv.length=0:=by
     have:=(aab.mp e).1;simp at this;lia
    rw[this]at e;cases e;have hj:j=i:=by lia
    subst hj;exact Lv.kept ⟨La,ah,f,bs,hbs,xl,QZ,O4,lk⟩ Uc
 ·rintro σ H' ⟨⟨k4,rfl⟩,d,lv,xr,Lq,hL⟩;exact⟨_,rfl,q r lv H' hr' xr (by rw[Lq,aaa];exact hll) hL d⟩
def cnt(os:List Int)(k:Nat)(c:Int)(j:Nat):Nat:=((os.take j).filter λz=>bit z k=c).length
def pos(os:List Int)(k:Nat)(c:Int)(j:Nat):Nat:=(if c=0 then 0 else (os.filter λz=>bit z k=0).length)+cnt os k c j
def Py(bs:List Int)(j:Nat)(c:Int):Int:=if c=0 then (j:Int) - (bs.take j).sum else (bs.length:Int) - bs.sum+(bs.take j).sum
theorem cN(z:Int)(k:Nat):bit z k=0\/bit z k=1:=by
 unfold bit;lia
theorem jB(os:List Int)(k:Nat):((os.map λz=>bit z k).sum=((os.filter λz=>bit z k=1).length:Int))/\(os.filter λz=>bit z k=0).length+(os.filter λz=>bit z k=1).length=os.length:=by
 induction os with
 | nil=>exact⟨rfl,rfl⟩
 | cons z os ih =>
  rw[aaz,acZ,ih.1];rcases cN z k with e|e
  ·simp only[aau,e,decide_true,if_true,aan,show decide ((0:Int)=1)=false from rfl,aaV,if_false];lia
  ·simp only[aau,e,decide_true,if_true,aan,show decide ((1:Int)=0)=false from rfl,aaV,if_false];lia
theorem zZ{os:List Int}{k j:Nat}{c:Int}(hj:j<=os.length)(hc:c=0\/c=1):Py (os.map λz=>bit z k) j c=((pos os k c j:Nat):Int):=by
 have h1:=jB (os.take j) k;have h2:=jB os k;rw[aaC,ab5 hj]at h1;unfold Py pos cnt;rw[<-acW,h1.1,h2.1,aaa];rcases hc with rfl|rfl
 ·rw[if_pos rfl,if_pos rfl];lia
 ·rw[if_neg (by decide),if_neg (by decide)];lia
theorem vB{f:Int->Bool}:∀{os:List Int}{j:Nat}{z:Int},os[j]?=some z->f z=true->(os.filter f)[((os.take j).filter f).length]?=some z
 | [],j,z,h,_=>by cases h
 | y::os,0,z,h,hf=>by
  cases h;rw[abD hf];rfl
 | y::os,j+1,z,h,hf=>by
  have ih:=vB (os:=os) (j:=j) h hf;rw[acD];by_cases e:f y=true
  ·rw[abD e,abD e];exact ih
  ·rw[abP e,abP e];exact ih
theorem Dk{os:List Int}{k j:Nat}{z:Int}(h:os[j]?=some z):(Mr os k)[pos os k (bit z k) j]?=some z:=by
 unfold Mr pos cnt;rcases cN z k with e|e
 ·rw[e,if_pos rfl,abz];have:=vB (f:=λz=>decide (bit z k=0)) h (decide_eq_true e);rw[aar (aab.mp this).1];exact this
 ·rw[e,if_neg (by decide),aap (by lia),abl];exact vB (f:=λz=>decide (bit z k=1)) h (decide_eq_true e)
theorem Ek(f:Int->Bool)(os:List Int)(i j:Nat)(h:i<=j):(((os.filter f).drop ((os.take i).filter f).length).take (((os.take j).filter f).length - ((os.take i).filter f).length))=((os.drop i).take (j - i)).filter f:=by
 have e1:os.take j=os.take i++(os.drop i).take (j - i):=by
  rw[<-ac0,show i+(j - i)=j by lia]
 have e2:os=os.take i++((os.drop i).take (j - i)++(os.drop i).drop (j - i)):=by rw[aa6,aa6]
 rw[e1,aaI,aae,abl]
 conv=>lhs;arg 2;arg 2;arg 2;rw[e2]
 rw[aaI,aaI,acv (aad _),adX,abj,abW (aad _),abf]
theorem wA(os:List Int)(k:Nat)(c:Int){i j:Nat}(h:i<=j):cnt os k c i<=cnt os k c j:=by
 unfold cnt;rw[show j=i+(j - i) by lia,ac0,aaI,aae];lia
theorem ye(os:List Int)(k:Nat)(c:Int)(j:Nat):cnt os k c j<=(os.filter λz=>bit z k=c).length:=by
 unfold cnt;exact((abE j os).filter _).length_le
theorem Hl{os:List Int}{k j:Nat}{c:Int}(hc:c=0\/c=1):pos os k c j<=os.length:=by
 have h:=(jB os k).2;have h1:=ye os k c j;unfold pos;rcases hc with rfl|rfl
 ·rw[if_pos rfl];lia
 ·rw[if_neg (by decide)];lia
theorem Fb(os:List Int)(k:Nat)(c:Int){i j:Nat}(h:i<=j):pos os k c i<=pos os k c j:=acE (wA os k c h) _
theorem Gj{os:List Int}{k i j:Nat}{c:Int}(h:i<=j)(hc:c=0\/c=1):((Mr os k).drop (pos os k c i)).take (pos os k c j - pos os k c i)=((os.drop i).take (j - i)).filter λz=>bit z k=c:=by
 rw[<-Ek (λz=>decide (bit z k=c)) os i j h];have l1:=ye os k c i;have l2:=ye os k c j;have l3:=wA os k c h;have p1:pos os k c j - pos os k c i=cnt os k c j - cnt os k c i:=by unfold pos;lia
 rw[p1];unfold Mr;rcases hc with rfl|rfl
 ·rw[show pos os k 0 i=cnt os k 0 i by unfold pos;rw[if_pos rfl,abz],acv l1,abW (by rw[abe];lia)];rfl
 ·rw[show pos os k 1 i=(os.filter λz=>bit z k=0).length+cnt os k 1 i by unfold pos;rw[if_neg (by decide)],adY,abY (by lia),abj,abl];rfl
inductive rN(vs:List V)(H:Hp)(Q:VK)(E:XK):Prop
 | mk (t:Addr) (L:LK) (ah:Addr) (ns ss:List Int) (rest:List V) (at0:Nat) (_:vs=[.ref t,.ref L.f,.int (at0:Int)]) (_:Ask H t L ah ns ss rest) (_:ss.length<1000000) (_:at0<=ns.length) (_:∀ss' H',Lw L.all.length 1 [((L.off+at0 / 32:Nat):Int)] ss ss'->aV (L.put H ss') H'->Q (.int ((at0:Int) - (ns.take at0).sum)) H')
theorem sV(T:Tx K mg a):bh P w K mg base K9 5 a.Wo a.Wq ["tables","look","at"] rN:=by
 refine T.Yt.F.ok sO (λvs H Q E h=>?_) (λcdv A outer s H vs Q E hr h=>?_)
 ·obtain⟨t,L,ah,ns,ss,rest,at0,rfl,_⟩:=h;rfl
 obtain⟨t,L,ah,ns,ss,rest,at0,rfl,hA,hls,hat0,q⟩:=h;refine⟨_,(az (aG (aA bu (pv 2) (aL T.Tu (qX T) (by decide) hr aR rfl (aa (pv 0) (aa (pv 1) (aa (pv 2) ao))))))),?_⟩;exact⟨_,rfl,_,rfl,_,rfl,_,rfl,t,L,ah,ns,ss,rest,at0,rfl,hA,hls,hat0,λss' H' w sm=>⟨_,_,rfl,rfl,q ss' H' w sm⟩⟩
inductive ph(vs:List V)(H:Hp)(Q:VK)(E:XK):Prop
 | mk (t ah:Addr) (ns:List Int) (_:vs=[.ref t]) (_:Tab H t ah ns []) (_:Q (.int ((ns.length:Int) - ns.sum)) H)
theorem jw(T:Tx K mg a):bh P w K mg base K9 1 a.W5 a.W6 ["row"] ph:=by
 refine T.Tv.F.ok pD (λvs H Q E h=>?_) (λcdv A outer s H vs Q E hr h=>?_)
 ·obtain⟨t,ah,ns,rfl,_⟩:=h;rfl
 obtain⟨t,ah,ns,rfl,hT,q⟩:=h;refine⟨_,(az (aG (aA bu (aM aJ (pv 0) aj (λ_ _=>rfl)) (aM aJ (aM aJ (pv 0) aj (λ_ _=>rfl)) (oZ jO aj) (λ_ _=>rfl))))),?_⟩;have hla:Lj ((Lr ns (many ns.length)).map V.int) (-1)=some (.int ns.sum):=by
  unfold Lr;rw[aaR,aam,aam];refine(my _ _).trans ?_;show some (V.int (ns.take (32*many ns.length)).sum)=_;rw[aav (by unfold many;lia)]
 exact⟨_,rfl,t,_,_,_,rfl,rfl,K6.of hT.tup,rfl,_,rfl,t,_,_,_,rfl,rfl,K6.of hT.tup,rfl,_,rfl,ah,_,_,_,rfl,rfl,K6.of hT.Px,hla,_,_,rfl,rfl,q⟩
inductive rB(Ph:Addr)(vs:List V)(H:Hp)(Q:VK)(E:XK):Prop
 | mk (p:SG) (ss:List Int) (i:Nat) (l:Addr) (bs:List Int) (at0:Nat) (c:Int) (_:vs=[.ref l,.int (at0:Int),.int c]) (_:SQ H Ph p ss) (_:Lv H p i l) (_:p.lv[i]?=some bs) (_:at0<=p.ns.length) (_:(c=0\/c=1)) (_:∀ss' H',bY H H' Ph p 1 [((i*many p.ns.length+at0 / 32:Nat):Int)] ss ss'->Q (.int (Py bs at0 c)) H')
theorem gO(T:Tx K mg a):bh P w K mg base K9 6 a.W0 a.W2 ["level","at","bit"] (rB a.Le):=by
 refine T.RG.F.ok gG (λvs H Q E h=>?_) (λcdv A outer s H vs Q E hr h=>?_)
 ·obtain⟨p,ss,i,l,bs,at0,c,rfl,_⟩:=h;rfl
 obtain⟨p,ss,i,l,bs,at0,c,rfl,x,hL,hbs,hat,hc,q⟩:=h;refine⟨_,(ak (aC (i:=3) gG.nd rfl (aai rfl) (aM aJ (pv 0) aj (λ_ _=>rfl)))
  (ak (aC (i:=4) gG.nd rfl (aai rfl) (aM aJ (pv 0) aj (λ_ _=>rfl)))
  (ak (aW (aH bD (pv 2) aj (aO _)) (az (aG (aL T.Yt (sV T) (by decide) hr aR rfl (aa (pv 3) (aa (pv 4) (aa (pv 1) ao)))))) aP)
  (az (aG (aA bG (aL T.Tv (jw T) (by decide) hr aR rfl (aa (pv 3) ao)) (aL T.Tu (qX T) (by decide) hr aR rfl (aa (pv 3) (aa (pv 4) (aa (pv 1) ao)))))))))),?_⟩
 obtain⟨La,ah,f,bs',hbs',xl,hA⟩:=hL.ask x;rw[hbs]at hbs';cases hbs';have hl:=(p.lv_mem (aah hbs)).2;have hfew:=x.few;refine⟨_,rfl,l,_,_,_,rfl,rfl,K6.of xl,rfl,_,rfl,l,_,_,_,rfl,rfl,K6.of xl,rfl,?_⟩;rcases hc with rfl|rfl
 ·refine⟨_,rfl,rfl,_,rfl,dz ?_⟩;exact⟨_,rfl,_,rfl,_,rfl,La,_,ah,bs,ss,[],at0,rfl,hA,by lia,by lia,λss' H' w sm=>q ss' H' (x.look rfl rfl w sm)⟩
 ·refine⟨_,rfl,rfl,_,rfl,cF ?_⟩;refine⟨_,rfl,La,ah,bs,rfl,hA.tab,_,rfl,_,rfl,_,rfl,La,_,ah,bs,ss,[],at0,rfl,hA,by lia,by lia,λss' H' w sm=>⟨_,_,rfl,rfl,q ss' H' (x.look rfl rfl w sm)⟩⟩
def ord(h:Nat)(os:List Int):Nat->List Int
 | 0=>os
 | i+1=>Mr (ord h os i) (h - 1 - i)
theorem ord_len(h:Nat)(os:List Int):∀i,(ord h os i).length=os.length
 | 0=>rfl
 | i+1=>(pK _ _).trans (ord_len h os i)
theorem wM(k:Nat)(os:List Int):∀i,ord (k+1) os (i+1)=ord k (Mr os k) i
 | 0=>rfl
 | i+1=>by
  show Mr (ord (k+1) os (i+1)) (k+1 - 1 - (i+1))=Mr (ord k (Mr os k) i) (k - 1 - i);rw[wM k os i,show k+1 - 1 - (i+1)=k - 1 - i by lia]
theorem Eb:∀(h:Nat) (os:List Int) (i:Nat),i<h->(Ls h os)[i]?=some ((ord h os i).map λz=>bit z (h - 1 - i))
 | 0,_,_,hi=>by lia
 | k+1,os,0,_=>rfl
 | k+1,os,i+1,hi=>by
  rw[wM];show (Ls k (Mr os k))[i]?=_;rw[Eb k (Mr os k) i (by lia),show k+1 - 1 - (i+1)=k - 1 - i by lia]
theorem cU(r:Int)(k:Nat):2*(r / 2^(k+1))+bit r k=r / 2^k:=by
 unfold bit;have e:r / 2^(k+1)=r / 2^k / 2:=by
  rw[acL,acX (aei (by decide))]
 rw[e];lia
theorem SG.lv_at(p:SG){i:Nat}(hi:i<p.h):p.lv[i]?=some ((ord p.h (rks p.ms p.ns) i).map λz=>bit z (p.h - 1 - i)):=Eb _ _ _ hi
theorem SG.ord_len(p:SG)(i:Nat):(ord p.h (rks p.ms p.ns) i).length=p.ns.length:=by
 rw[Tw.ord_len];unfold rks;exact aaa ..
theorem Cp(j:Nat):((2^j:Nat):Int)=(2:Int)^j:=by
 rw[Int.natCast_pow];rfl
theorem SQ.rank{H:Hp}{Ph:Addr}{p:SG}{ss:List Int}(x:SQ H Ph p ss){j:Nat}{z:Int}(h:p.ns[j]?=some z):(rks p.ms p.ns)[j]?=some (p.ms.idxOf z:Int)/\(p.ms.idxOf z:Int) / 2^p.h=0/\p.ms[p.ms.idxOf z]?=some z:=by
 have hm:z∈p.ms:=(x.kd.mem z).mpr (aah h);have hlt:=aaF hm;obtain⟨_,_,h1,_⟩:=x.sz;have h2:p.ms.length<=2^p.h:=by
  obtain⟨h',e,h1,_⟩:=x.sz;lia
 refine⟨?_,?_,?_⟩
 ·unfold rks;rw[aag,h];rfl
 ·refine Int.ediv_eq_zero_of_lt (by lia) ?_;rw[<-Cp];lia
 ·rw[aac hlt];exact congrArg some (aa2 hlt)
inductive yc(Ph:Addr)(C:Addr)(vs:List V)(H:Hp)(Q:VK)(E:XK):Prop
 | mk (p:SG) (ss:List Int) (at0:Int) (_:vs=[.ref p.t,.ref p.g,.int at0]) (_:SQ H Ph p ss) (_:ss.length<=800000) (_:((∃(j:Nat) (z:Int),at0=(j:Int)/\p.ns[j]?=some z /\ ∀ss' U H',bY H H' Ph p (2*p.h) U ss ss'->U.length<=p.h->Q (.int z) H')\/((at0<0\/(p.ns.length:Int)<=at0)/\E (.ref C) none H)))
theorem zg(T:Tx K mg a)(B:Bs mg base a):bh P w K mg base (My P w) 7 a.Xj a.Xk ["tables","look","at"] (yc a.Le a.Ln):=by
 refine T.YF.F.ok1 dJ (λvs H Q E h=>?_) (λcdv A outer s H vs Q E hr h=>?_)
 ·obtain⟨p,ss,at0,rfl,_⟩:=h;rfl
 obtain⟨p,ss,at0,rfl,x,hss,h⟩:=h;refine⟨_,(ak (bH (aL T.QL (dW T) (by decide) hr iK rfl (aa (pv 2) (aa (aA bu (aM aJ (pv 0) aj (λ_ _=>rfl)) aj) ao))))
  (ak (aC (i:=3) dJ.nd rfl (aai rfl) aj)
  (ak (aC (i:=4) dJ.nd rfl (aai rfl) (pv 2))
  (ak (b8 pJ rfl (bV (aL T.Pu (di T B) (by decide) hr aR rfl (aa (pv 0) (aa (pv 1) ao)))) (aX (i:=5) dJ.nd rfl (aai rfl)) (ak (aC (i:=6) dJ.nd rfl (aai rfl) (aL T.Ys (Ck T) (by decide) hr aR rfl (aa (aM aJ (pv 5) aj (λ_ _=>rfl)) (aa (aM aJ (pv 5) aj (λ_ _=>rfl)) (aa (pv 4) ao)))))
  (ak (aC (i:=3) dJ.nd rfl (aai rfl) (aA bG (aA bT aj (pv 3)) (pv 6)))
  (az (aC (i:=4) dJ.nd rfl (aai rfl) (aL T.RG (gO T) (by decide) hr aR rfl (aa (pv 5) (aa (pv 4) (aa (pv 6) ao)))))))))
  (az (aG (aM aJ (aM aJ (pv 0) aj (λ_ _=>rfl)) (pv 3) (λ_ _=>rfl)))))))),?_⟩
 rcases h with ⟨j,z,rfl,hz,q⟩|⟨hb,he⟩
 rotate_left
 ·exact⟨_,rfl,_,rfl,p.t,_,_,_,rfl,rfl,K6.of x.t,rfl,_,_,rfl,rfl,_,_,rfl,.inr ⟨by lia,he⟩⟩
 have hjl:=(aab.mp hz).1;refine⟨_,rfl,_,rfl,p.t,_,_,_,rfl,rfl,K6.of x.t,rfl,_,_,rfl,rfl,_,_,rfl,.inl ⟨by lia,by lia,?_⟩⟩;refine⟨_,rfl,_,rfl,_,rfl,p,ss,rfl,x,λr lv H1 hr1 xr Lq hL d1=>?_⟩;have x1:=x.did d1 x.few;have h12:=x.h12;obtain⟨r1,r2,r3⟩:=x.rank hz;generalize hrk:(p.ms.idxOf z:Int)=rk at *;have Ub:r≠p.sn:=(aB x.sn hr1).symm;have nrp:r≠a.Le:=λe=>by
  obtain⟨o,ho⟩:=TabAt.ex x.tab;rw[<-e,hr1]at ho;cases ho
 refine⟨r,rfl,⟨_,K5.of xr⟩,?_⟩;refine cQ (xs:=lv.map V.ref) (λi σ H'=>∃(pl:Nat) (k5 k6:Option V) (ss' U:List Int),σ=[some (.ref p.t),some (.ref p.g),some (.int (j:Int)),some (.int (rk / 2^(p.h - i))),some (.int (pl:Int)),k5,k6]/\(ord p.h (rks p.ms p.ns) i)[pl]?=some rk/\bY H1 H' a.Le p (2*i) U ss ss'/\U.length<=i) ?_ ?_ ?_ ?_
 ·refine⟨j,none,none,ss,[],?_,r1,x1.self,aad _⟩;rw[abw,r2];rfl
 ·rintro i σ H' _ ⟨_,_,_,_,_,_,_,d,_⟩;exact K5.of (d.kp _ _ xr nrp Ub)
 ·rintro i y σ H' hy ⟨pl,k5,k6,ss',U,rfl,hpl,d,hU⟩;rw[aag]at hy;obtain⟨l,hl,rfl⟩:=aaJ.mp hy;have hil:=(aab.mp hl).1;rw[Lq]at hil;have Nb:=d.wr.len;have x2:=x1.did d (by lia);have L2:=(hL i l hl).kept (x1.kp d);have hbs:=p.lv_at hil;obtain⟨La,ah,f,bs',hbs',xl,hA⟩:=L2.ask x2;rw[hbs]at hbs';cases hbs';have hplt:=(aab.mp hpl).1;rw[p.ord_len]at hplt;refine⟨_,rfl,l,_,_,_,rfl,rfl,K6.of xl,rfl,_,rfl,l,_,_,_,rfl,rfl,K6.of xl,rfl,_,rfl,La,_,ah,_,ss',[],pl,bit rk (p.h - 1 - i),rfl,hA,by lia,?_,λLR H2 w sm=>?_⟩
  ·rw[aag,hpl];rfl
  have d2:=x2.look rfl rfl w sm;have hl2:=d2.wr.len;have x3:=x2.did d2 (by lia);have L3:=L2.kept (x2.kp d2);refine⟨_,rfl,_,_,rfl,rfl,.inl ⟨by decide,by decide⟩,_,rfl,_,_,rfl,rfl,?_⟩;refine⟨_,rfl,_,rfl,_,rfl,p,LR,i,l,_,pl,bit rk (p.h - 1 - i),rfl,x3,L3,hbs,by lia,cN _ _,λQ0 H3 d3=>?_⟩;have hk:p.h - i=(p.h - 1 - i)+1:=by lia
  have hpo:pl<=(ord p.h (rks p.ms p.ns) i).length:=by rw[p.ord_len];lia
  rw[zZ hpo (cN _ _)];refine⟨_,some (.ref l),some (.int (bit rk (p.h - 1 - i))),Q0,U++[((i*many p.ns.length+pl / 32:Nat):Int)],?_,Dk hpl,((d.trans d2).trans d3).le (by lia) ?_,?_⟩
  ·have e:=cU rk (p.h - 1 - i);rw[<-hk]at e;rw[show p.h - (i+1)=p.h - 1 - i by lia,<-e];rfl
  ·intro y hy;rcases aaK.mp hy with hy|hy
   ·exact hy
   ·exact aas _ hy
  ·rw[aae,aa5];lia
 ·rintro σ H' ⟨pl,k5,k6,ss',U,rfl,hpl,d,hU⟩;have e:p.h - (lv.map V.ref).length=0:=by rw[aaa,Lq,abA]
  rw[aaa,Lq]at hU d;have Nb:=d.wr.len;have x2:=x1.did d (by lia);rw[e,acM,acl];subst hrk;refine⟨_,rfl,p.t,_,_,_,rfl,rfl,K6.of x2.t,rfl,_,rfl,p.k,_,_,_,rfl,rfl,K6.of x2.k,cM r3,?_⟩;exact q ss' U H' ((d1.trans d).le (by lia) λy hy=>hy) hU
inductive Iu(K:PySem.W.Frag)(vs:List V)(H:Hp)(Q:VK)(_e1:XK):Prop
 | mk (p:Addr) (ss U:List Int) (size most:Int) (_:vs=[.ref p,.int size,.int most]) (_:K5 K H p (ss.map V.int)) (_:(∀x∈ss,(0<=x/\x<size)/\x∈U)) (_:(U.length:Int)<=most) (_:size<=4000) (_:∀H',aV H H'->Q (.bl true) H')
theorem yz(T:Tx K mg a):bh P w K mg base K9 2 a.XX a.X3 ["_law_seen","_law_size","_law_most"] (Iu K):=by
 refine T.YT.F.ok qT (λvs H Q E h=>?_) (λcdv A outer s H vs Q E hr h=>?_)
 ·obtain⟨p,ss,U,size,most,rfl,_⟩:=h;rfl
 obtain⟨p,ss,U,size,most,rfl,hS,hx,hm,hl,q⟩:=h;refine⟨_,(ak (b8 PassesOwn.never rfl (bV (pv 0)) (aX (i:=3) qT.nd rfl (aai rfl)) (az (aW (PW.pt (iI (jf (lJ (aL T.QQ (gf T) (by decide) hr aR rfl (aa (pv 3) ao)))) (iI (aH iD (pv 3) aj (aO _)) (jm (aH Af (pv 3) (pv 1) (aO _)))))) (az (aG lA)) aP)))
  (az (aG (zV oX (aN rP rfl T.Lg Tw.bc (aa (fj (oh rfl) rfl T.T4 Tw.yP (aa (pv 0) ao)) ao)) (pv 2) (aO _))))),?_⟩
 refine⟨_,rfl,p,rfl,⟨_,hS⟩,?_⟩;refine cQ (xs:=ss.map V.int) (λi σ H'=>(∃k,σ=[some (.ref p),some (.int size),some (.int most),k])/\H'=H) ⟨⟨none,rfl⟩,rfl⟩ ?_ ?_ ?_
 ·rintro i σ H' _ ⟨_,rfl⟩;exact hS
 ·rintro i x σ H' hx' ⟨⟨k,rfl⟩,rfl⟩;obtain⟨c,hc,rfl⟩:=int_at hx';have hcx:=(hx c (aah hc)).1;refine⟨_,rfl,c,rfl,true,rfl,cF ?_⟩;refine⟨_,rfl,_,_,rfl,rfl,_,rfl,bJ (λz=>?_) λ_=>?_⟩
  ·have z:=of_decide_eq_true z;lia
  refine⟨_,rfl,_,rfl,_,_,rfl,rfl,_,rfl,bJ (λz=>?_) λ_=>?_⟩
  ·have z:=of_decide_eq_true z;lia
  exact⟨⟨_,rfl⟩,rfl⟩
 ·rintro σ H' ⟨⟨k,rfl⟩,rfl⟩;have hroom:(met (λi=>ss.getD i 0) ss.length).length<=size.toNat:=by
   have:=zN (ns:=ss) (U:=(aaO size.toNat).map Int.ofNat) λz hz=>by
    have:=(hx z hz).1;refine aaE.mpr ⟨z.toNat,ach.mpr (by lia),?_⟩;show ((z.toNat:Nat):Int)=z;lia
   rw[aaa,abi]at this;exact this
  refine⟨_,rfl,p,ss,rfl,hS,(by show _+1<4096;lia),λl ks o hl' hks ho=>?_⟩;have hnU:=zN (ns:=ss) (U:=U) λz hz=>(hx z hz).2;rw[<-hks]at hnU;refine⟨l,ks,rfl,by rw[aq,ho],_,rfl,_,_,rfl,rfl,?_⟩;show Q (.bl (decide ((ks.length:Int)<=most))) _;rw[decide_eq_true (show (ks.length:Int)<=most from by lia)];exact q _ (au hl' _)
theorem uq{n:Nat}:∀{L:List (List Int)},(∀x∈L,x.length=n)->((L.map cZ).flatten).length=L.length*many n
 | [],_=>by simp
 | x::L,h=>by
  rw[aaz,abh,aae,uq λy hy=>h y (aaw _ hy),eX,h x aay,aan,acI];lia
theorem Kept.size{H:Hp}{r t b k c:Addr}{ns ms:List Int}{h:Nat}{ls:List Addr}(x:Kept H r t b k c ns ms h ls)(hn:ns.length<=4000):((((Ls h (rks ms ns)).map cZ).flatten).map V.int).length<=1600:=by
 rw[aaa,uq (n:=ns.length) λbs hb=>by
  rw[(Tw.pP _ _ _ hb).2];unfold rks;exact aaa ..,jl]
 have h12:=x.h12;have hm:many ns.length<=126:=by
  unfold many;lia
 exact aaS (Nat.mul_le_mul h12 hm) (by decide)
structure fY(H6 H':Hp)(Ph Pt:Addr):Prop where
 ob:∀b o,H6 b=some o->(∀ps,o ≠ .Ld ps)->H' b=some o
 th:TabAt H' Ph (lE cI) aZ.qual
 tl:TabAt H' Pt (tG dN) bL.qual
theorem fY.same{H6 H' H2:Hp}{Ph Pt:Addr}(h:fY H6 H' Ph Pt)(s:aV H' H2):fY H6 H2 Ph Pt:=⟨λb o e n=>s _ _ (h.ob b o e n),TabAt.same h.th s,TabAt.same h.tl s⟩
theorem fY.trans{H6 H' H2:Hp}{Ph Pt:Addr}(h:fY H6 H' Ph Pt)(h':fY H' H2 Ph Pt):fY H6 H2 Ph Pt:=⟨λb o e n=>h'.ob b o (h.ob b o e n) n,h'.th,h'.tl⟩
theorem fY.made{H6 H5 H4:Hp}{Ph Pt:Addr}(h:fY H6 H5 Ph Pt)(nn:Ph≠Pt)(b4:mC Pt H5 H4)(hT4:TabAt H4 Pt (tG dN) bL.qual):fY H6 H4 Ph Pt:=by
 refine⟨λb o e n=>b4 b o (h.ob b o e n) (TabAt.ne h.tl (h.ob b o e n) n),?_,hT4⟩;obtain⟨ps,z1,z2,z3⟩:=h.th;refine⟨ps,b4 _ _ z1 nn,z2,?_⟩;rcases z3 with z3|⟨cd,oc,vs,tk,z4,z5,z6⟩
 ·exact .inl z3
 ·exact .inr ⟨cd,oc,vs,tk,z4,b4 _ _ z5 (TabAt.ne h.tl z5 nofun),z6⟩
theorem fY.did{H6 H4 H8:Hp}{Ph Pt:Addr}{p:SG}{k:Nat}{U ss ss':List Int}(h:fY H6 H4 Ph Pt)(nn:Ph≠Pt)(fr:∀b o,H6 b=some o->(∀ps,o ≠ .Ld ps)->b≠p.sn)(hs:H4 p.sn=some (.lst (ss.map V.int)))(d:bY H4 H8 Ph p k U ss ss'):fY H6 H8 Ph Pt:=by
 refine⟨λb o e n=>d.kp b o (h.ob b o e n) (TabAt.ne h.th (h.ob b o e n) n) (fr b o e n),d.tab,?_⟩;obtain⟨ps,z1,z2,z3⟩:=h.tl;refine⟨ps,d.kp _ _ z1 nn.symm (λz=>by rw[z,hs]at z1;cases z1),z2,?_⟩;rcases z3 with z3|⟨cd,oc,vs,tk,z4,z5,z6⟩
 ·exact .inl z3
 ·exact .inr ⟨cd,oc,vs,tk,z4,d.kp _ _ z5 (TabAt.ne h.th z5 nofun) (λz=>by rw[z,hs]at z5;cases z5),z6⟩
theorem fY.fresh{H6 H':Hp}{Ph Pt sn:Addr}(h:fY H6 H' Ph Pt)(hsn:H' sn=none):∀b o,H6 b=some o->(∀ps,o ≠ .Ld ps)->b≠sn:=λb o e n=>aB (h.ob b o e n) hsn
theorem fY.ask{H6 H4:Hp}{Ph Pt r t k c bl sn f:Addr}{ls cs:List Addr}{ns ms ss:List Int}{hh:Nat}(h:fY H6 H4 Ph Pt)(x:Kept H6 r t bl k c ns ms hh ls)(hs:H4 sn=some (.lst (ss.map V.int)))(ne:sn≠bl)(ca:cX H4 f bL cs [.ref sn,.ref bl])(hn:ns.length<=4000)(hl:ss.length<=900000):SQ H4 Ph ⟨t,k,c,bl,sn,f,ls,ns,ms,hh⟩ ss:=
 ⟨h.ob _ _ x.t nofun,h.ob _ _ x.k nofun,h.ob _ _ x.c nofun,x.ls.to λb xs e=>h.ob _ _ e nofun,h.ob _ _ x.b nofun,x.kd,x.sz,x.h12,hn,hs,ne,hl,⟨cs,ca⟩,h.th⟩
theorem fY.keep{H6 H':Hp}{Ph Pt r t b k c:Addr}{ns ms:List Int}{h:Nat}{ls:List Addr}(e:fY H6 H' Ph Pt)(x:Kept H6 r t b k c ns ms h ls):Kept H' r t b k c ns ms h ls:=
 ⟨e.ob _ _ x.r nofun,e.ob _ _ x.t nofun,e.ob _ _ x.k nofun,e.ob _ _ x.c nofun,x.ls.to λb xs y=>e.ob _ _ y nofun,e.ob _ _ x.b nofun,x.kd,x.sz,x.h12⟩
def seg(os:List Int)(x y:Nat):List Int:=(os.drop x).take (y - x)
theorem cP{os:List Int}{x y:Nat}(hy:y<=os.length):(seg os x y).length=y - x:=by
 unfold seg;rw[aaC,abe];lia
theorem Ep{os:List Int}{k x y:Nat}{c:Int}(h:x<=y)(hc:c=0\/c=1):seg (Mr os k) (pos os k c x) (pos os k c y)=(seg os x y).filter λz=>bit z k=c:=Gj h hc
def nxt(p:SG)(i:Nat)(c:Int)(x:Nat):Nat:=pos (ord p.h (rks p.ms p.ns) i) (p.h - 1 - i) c x
def SG.od(p:SG)(i:Nat):List Int:=ord p.h (rks p.ms p.ns) i
theorem lN{p:SG}{i:Nat}{c:Int}{x:Nat}(hc:c=0\/c=1):nxt p i c x<=p.ns.length:=by
 rw[<-p.ord_len i];exact Hl hc
theorem fV(p:SG)(i:Nat)(c:Int){x y:Nat}(h:x<=y):nxt p i c x<=nxt p i c y:=Fb _ _ _ h
theorem jj{p:SG}{i:Nat}{c:Int}{x y:Nat}(h:x<=y)(hc:c=0\/c=1):seg (p.od (i+1)) (nxt p i c x) (nxt p i c y)=(seg (p.od i) x y).filter λz=>bit z (p.h - 1 - i)=c:=Ep h hc
theorem km{p:SG}{i:Nat}{bs:List Int}{c:Int}{x:Nat}(hi:i<p.h)(hb:p.lv[i]?=some bs)(hx:x<=p.ns.length)(hc:c=0\/c=1):Py bs x c=((nxt p i c x:Nat):Int):=by
 rw[p.lv_at hi]at hb;cases hb;exact zZ (by rw[p.ord_len];exact hx) hc
theorem Cy(z r:Int)(k:Nat):(z / 2^(k+1)=r / 2^(k+1)/\bit z k=bit r k) ↔ z / 2^k=r / 2^k:=by
 rw[<-cU z k,<-cU r k];have:=cN z k;have:=cN r k;lia
inductive vC(vs:List V)(H:Hp)(Q:VK)(E:XK):Prop
 | mk (st:Addr) (x y:Int) (_:vs=[.ref st]) (_:H st=some (.tup [.int x,.int y])) (_:Q (.int (y - x)) H)
theorem cJ(T:Tx K mg a):bh P w K mg base K9 1 a.W9 a.Xa ["stretch"] vC:=by
 refine T.OJ.F.ok uR (λvs H Q E h=>?_) (λcdv A outer s H vs Q E hr h=>?_)
 ·obtain⟨st,x,y,rfl,_⟩:=h;rfl
 obtain⟨st,x,y,rfl,hs,q⟩:=h;refine⟨_,(az (aG (aA bu (aM aJ (pv 0) aj (λ_ _=>rfl)) (aM aJ (pv 0) aj (λ_ _=>rfl))))),?_⟩;exact⟨_,rfl,st,_,_,_,rfl,rfl,K6.of hs,rfl,_,rfl,st,_,_,_,rfl,rfl,K6.of hs,rfl,_,_,rfl,rfl,q⟩
def jD(p:SG)(i x y:Nat):List Int:=[((i*many p.ns.length+x / 32:Nat):Int),((i*many p.ns.length+y / 32:Nat):Int)]
inductive nZ(Ph:Addr)(vs:List V)(H:Hp)(Q:VK)(E:XK):Prop
 | mk (p:SG) (ss:List Int) (i:Nat) (l st:Addr) (x y:Nat) (c:Int) (_:vs=[.ref l,.ref st,.int c]) (_:SQ H Ph p ss) (_:ss.length<=899990) (_:Lv H p i l) (_:i<p.h) (_:H st=some (.tup [.int (x:Int),.int (y:Int)])) (_:x<=y) (_:y<=p.ns.length) (_:(c=0\/c=1)) (_:∀r ss' H',H r=none->H' r=some (.tup [.int ((nxt p i c x:Nat):Int),.int ((nxt p i c y:Nat):Int)])->bY H H' Ph p 2 (jD p i x y) ss ss'->Q (.ref r) H')
theorem bO(T:Tx K mg a):bh P w K mg base K9 7 a.W7 a.W8 ["level","stretch","bit"] (nZ a.Le):=by
 refine T.OD.F.ok nO (λvs H Q E h=>?_) (λcdv A outer s H vs Q E hr h=>?_)
 ·obtain⟨p,ss,i,l,st,x,y,c,rfl,_⟩:=h;rfl
 obtain⟨p,ss,i,l,st,x,y,c,rfl,sq,hss,hL,hi,hst,hxy,hy,hc,q⟩:=h;refine⟨_,(az (aG (bU (aa (aL T.RG (gO T) (by decide) hr aR rfl (aa (pv 0) (aa (aM aJ (pv 1) aj (λ_ _=>rfl)) (aa (pv 2) ao)))) (aa (aL T.RG (gO T) (by decide) hr aR rfl (aa (pv 0) (aa (aM aJ (pv 1) aj (λ_ _=>rfl)) (aa (pv 2) ao)))) ao))))),?_⟩;have hbs:=p.lv_at hi;refine⟨_,rfl,_,rfl,st,_,_,_,rfl,rfl,K6.of hst,rfl,_,rfl,p,ss,i,l,_,x,c,rfl,sq,hL,hbs,by lia,hc,λQ3 H1 d1=>?_⟩;rw[km hi hbs (by lia) hc];have hl1:=d1.wr.len;have Lz:=sq.did d1 (by lia);have Y9:=sq.kp d1;refine⟨_,rfl,_,rfl,st,_,_,_,rfl,rfl,K6.of (Y9 _ _ hst nofun nofun),rfl,_,rfl,p,Q3,i,l,_,y,c,rfl,Lz,hL.kept Y9,hbs,hy,hc,λLR H2 d2=>?_⟩;rw[km hi hbs hy hc];have Qg:=d1.trans d2;exact⟨(by show 2<=sizeLine;decide),λr hr'=>q r LR _ (Qg.free hr') aq (Qg.same (au hr' _))⟩
inductive qU(K:PySem.W.Frag)(vs:List V)(H:Hp)(Q:VK)(E:XK):Prop
 | mk (p:Addr) (ms:List Int) (z:Int) (_:vs=[.ref p,.int z]) (_:K6 K H p (ms.map V.int)) (_:ms.Pairwise (· < ·)) (_:ms.length<=4096) (_:∀k:Nat,k<=ms.length->(∀i y,i<k->ms[i]?=some y->y<z)->(∀i y,k<=i->ms[i]?=some y->z<=y)->Q (.int (k:Int)) H)
theorem jG(T:Tx K mg a):bh P w K mg base K9 2 a.Xf a.Xg ["kinds","sign"] (qU K):=by
 refine T.TF.F.ok qj (λvs H Q E h=>?_) (λcdv A outer s H vs Q E hr h=>?_)
 ·obtain⟨p,ms,z,rfl,_⟩:=h;rfl
 obtain⟨p,ms,z,rfl,hS,up,hl,q⟩:=h;refine⟨_,(ak (aW (PW.pt (iI (aH bD (aN aF rfl T.Lg Tw.bc (aa (pv 0) ao)) aj (aO _)) (jm (aH Af (aM aJ (pv 0) aj (λ_ _=>rfl)) (pv 1) (aO _))))) (az (aG aj)) aP)
  (az (aG (aA bG (aL T.RD (dM T) (by decide) hr aR rfl (aa (pv 0) (aa (aA bu (pv 1) aj) ao))) aj)))),?_⟩
 have NT:(ms.map V.int).length=ms.length:=aaa ..;have le:∀{i j:Nat}{u v:Int},i<=j->ms[i]?=some u->ms[j]?=some v->u<=v:=λ{i j u v} hij e1 e2=>by
  obtain⟨h1,rfl⟩:=aab.mp e1;obtain⟨h2,rfl⟩:=aab.mp e2;rcases aaM i j with c|c
  ·exact aer (aaB.mp up i j h1 h2 c)
  ·have:i=j:=by lia
   subst this;exact ack _
 refine⟨_,rfl,p,_,rfl,.inr hS,rfl,_,rfl,bJ (λc=>?_) λc=>?_⟩
 ·have c:V.int ((ms.map V.int).length:Int)=V.int 0:=of_decide_eq_true c;injection c with c
  rw[NT]at c;exact dz (q 0 (aaq _) (λi y hi=>absurd hi (aby _)) λi y _ e=>by have:=(aab.mp e).1;lia)
 have c:ms.length≠0:=λz=>c (decide_eq_true (congrArg V.int (by rw[NT,z];rfl)));have h0:ms[0]?=some ms[0]:=aac (by lia);refine⟨_,rfl,p,_,_,_,rfl,rfl,hS,cM (i:=0) h0,_,rfl,_,_,rfl,rfl,_,rfl,bJ (λd=>?_) λd=>?_⟩
 ·have d:z<=ms[0]:=of_decide_eq_true d;exact q 0 (aaq _) (λi y hi=>absurd hi (aby _)) λi y _ e=>Int.le_trans d (le (aaq _) h0 e)
 have d:¬z<=ms[0]:=λy=>d (decide_eq_true y);refine⟨_,rfl,_,rfl,_,_,rfl,rfl,p,ms,z - 1,rfl,.inr hS,by lia,hl,λlo hlo h1 h2=>⟨_,_,rfl,rfl,?_⟩⟩;refine q (lo+1) (by lia) (λi y hi e=>?_) λi y hi e=>?_
 ·rcases h1 with rfl|⟨x,hx,hxz⟩
  ·have:=le (show i<=0 by lia) e h0;lia
  ·have:=le (show i<=lo by lia) e hx;lia
 ·rcases h2 with e2|⟨x,hx,hxz⟩
  ·have:=(aab.mp e).1;lia
  ·have:=le hi hx e;lia
inductive yp(K:PySem.W.Frag)(vs:List V)(H:Hp)(Q:VK)(E:XK):Prop
 | mk (p:Addr) (ms:List Int) (z:Int) (_:vs=[.ref p,.int z]) (_:K6 K H p (ms.map V.int)) (_:ms.Pairwise (· < ·)) (_:ms.length<=4096) (_:(z∈ms->Q (.int (ms.idxOf z:Int)) H)) (_:(z∉ms->Q .non H))
theorem qd(T:Tx K mg a):bh P w K mg base K9 3 a.Xh a.Xi ["kinds","sign"] (yp K):=by
 refine T.TJ.F.ok ql (λvs H Q E h=>?_) (λcdv A outer s H vs Q E hr h=>?_)
 ·obtain⟨p,ms,z,rfl,_⟩:=h;rfl
 obtain⟨p,ms,z,rfl,hS,up,hl,q1,q2⟩:=h;refine⟨_,(ak (aC (i:=2) ql.nd rfl (aai rfl) (aL T.TF (jG T) (by decide) hr aR rfl (aa (pv 0) (aa (pv 1) ao))))
  (ak (aW (PW.pt (vz (aH iD (pv 2) (aN aF rfl T.Lg Tw.bc (aa (pv 0) ao)) (aO _)) (pM (aH bD (aM aJ (pv 0) (pv 2) (λ_ _=>rfl)) (pv 1) (aO _))))) (az (aG (pv 2))) aP)
  (az (aG Dp)))),?_⟩
 have NT:(ms.map V.int).length=ms.length:=aaa ..;refine⟨_,rfl,_,rfl,p,ms,z,rfl,hS,up,hl,λk hk hlo hhi=>?_⟩;have nd:ms.Nodup:=up.imp λa=>adN a;have hno:(∀y,ms[k]?=some y->y≠z)->z∉ms:=λh hm=>by
  obtain⟨i,hi,e⟩:=abG hm;have e':ms[i]?=some z:=by rw[aac hi,e]
  rcases abM i k with c|c|c
  ·have:=hlo i z c e';lia
  ·subst c;exact h z e' rfl
  ·have hk':k<ms.length:=by lia
   have e2:ms[k]?=some ms[k]:=aac hk';have h1:=hhi k ms[k] (aad _) e2;have h2:=aaB.mp up k i hk' hi c;rw[e]at h2;lia
 refine⟨_,rfl,_,rfl,p,_,rfl,.inr hS,_,_,rfl,rfl,_,rfl,bJ (λc=>?_) λc=>?_⟩
 ·have c:(k:Int)<((ms.map V.int).length:Int):=of_decide_eq_true c;rw[NT]at c;have hk':k<ms.length:=by lia
  have e2:ms[k]?=some ms[k]:=aac hk';refine⟨_,rfl,_,rfl,p,_,_,_,rfl,rfl,hS,cM e2,_,rfl,rfl,_,rfl,bJ (λd=>?_) λd=>?_⟩
  ·have d:V.int ms[k]=V.int z:=of_decide_eq_true d;injection d with d
   have hm:z∈ms:=d ▸ aaP hk';have:=q1 hm;have ek:ms.idxOf z=k:=by
    have hlt:=aaF hm;have e3:ms[ms.idxOf z]=z:=aa2 hlt;rcases abM (ms.idxOf z) k with c|c|c
    ·exact absurd (e3.trans d.symm) (aaB.mp nd _ _ hlt hk' c)
    ·exact c
    ·exact absurd (d.trans e3.symm) (aaB.mp nd _ _ hk' hlt c)
   rw[ek]at this;exact⟨_,rfl,this⟩
  ·have d:ms[k]≠z:=λy=>d (decide_eq_true (congrArg V.int y));exact q2 (hno λy e=>by rw[e2]at e;cases e;exact d)
 ·have c:¬(k:Int)<((ms.map V.int).length:Int):=λy=>c (decide_eq_true y);rw[NT]at c;exact cF (q2 (hno λy e=>by have:=(aab.mp e).1;lia))
def lw(h:Nat)(r:Int):List Int:=(aaO h).map λi=>bit r (h - 1 - i)
theorem Ax(h:Nat)(r:Int):lw h r=(bits r h).reverse:=by
 unfold lw bits;refine adZ (by simp) λi h1 h2=>?_;rw[List.getElem_reverse];simp
theorem rC{h i:Nat}{r:Int}(hi:i<h):(lw h r)[i]?=some (bit r (h - 1 - i)):=by
 unfold lw;rw[aag,List.getElem?_range hi];rfl
theorem oM(h:Nat)(r:Int):(lw h r).length=h:=by
 unfold lw;rw[aaa,abi]
inductive uG(K:PySem.W.Frag)(vs:List V)(H:Hp)(Q:VK)(E:XK):Prop
 | mk (rk:Int) (l:Addr) (xs:List V) (_:vs=[.int rk,.ref l]) (_:K5 K H l xs) (_:xs.length<=32) (_:∀r H',H r=none->aV H H'->H' r=some (.lst ((lw xs.length rk).map V.int))->Q (.ref r) H')
theorem je(T:Tx K mg a):bh P w K mg base K9 3 a.Xd a.Xe ["rank","levels"] (uG K):=by
 refine T.RJ.F.ok uF (λvs H Q E h=>?_) (λcdv A outer s H vs Q E hr h=>?_)
 ·obtain⟨rk,l,xs,rfl,_⟩:=h;rfl
 obtain⟨rk,l,xs,rfl,hS,hl,q⟩:=h;refine⟨_,(az (aG (yj rfl rfl T.QT Tw.lY rfl T.T3 Tw.jJ (aa (aL T.RB (lR T) (by decide) hr aR rfl (aa (pv 0) (aa (aN aF rfl T.Lg Tw.bc (aa (pv 1) ao)) ao))) ao)))),?_⟩;refine⟨_,rfl,_,rfl,l,_,rfl,.inl hS,rk,(xs.length:Int),rfl,by lia,by lia,λr1 hr1=>?_⟩;have s1:=au hr1 (.lst ((bits rk (xs.length:Int).toNat).map V.int));refine⟨r1,_,rfl,K5.of aq,λr hr'=>q r _ (s1.free hr') (s1.trans (au hr' _)) ?_⟩;rw[aq,Ax,adV,aaD]
theorem jC{H:Hp}{Ph:Addr}{p:SG}{ss:List Int}(x:SQ H Ph p ss):∀z∈rks p.ms p.ns,z / 2^p.h=0:=λz hz=>by
 unfold rks at hz;obtain⟨u,hu,rfl⟩:=aaE.mp hz;obtain⟨j,hj⟩:=aaL hu;exact(x.rank hj).2.1
theorem gh{os:List Int}{x y:Nat}{z:Int}(h:z∈seg os x y):z∈os:=acy (abm h)
theorem zR{H:Hp}{Ph:Addr}{p:SG}{ss:List Int}(sq:SQ H Ph p ss){x y:Nat}{rk:Int}(hxy:x<=y)(hy:y<=p.ns.length)(hrk:rk / 2^p.h=0){xs ys:Nat->Nat}(hx0:xs 0=x)(hx1:∀i,xs (i+1)=nxt p i (bit rk (p.h - 1 - i)) (xs i))(NZ:ys 0=y)(hy1:∀i,ys (i+1)=nxt p i (bit rk (p.h - 1 - i)) (ys i)):∀i,i<=p.h->xs i<=ys i/\ys i<=p.ns.length/\seg (p.od i) (xs i) (ys i)=(seg (p.od 0) x y).filter λz=>z / 2^(p.h - i)=rk / 2^(p.h - i):=by
 intro i
 induction i with
 | zero =>
  intro _;rw[hx0,NZ];refine⟨hxy,hy,?_⟩;rw[abw,abS.mpr];intro z hz;rw[hrk];exact decide_eq_true (jC sq z (gh hz))
 | succ i ih =>
  intro hi;obtain⟨h1,h2,h3⟩:=ih (by lia);rw[hx1,hy1];refine⟨fV _ _ _ h1,lN (cN _ _),?_⟩;rw[jj h1 (cN _ _),h3,abI];refine aa9 λz _=>?_;have hk:p.h - i=(p.h - 1 - i)+1:=by lia
  have e:=Cy z rk (p.h - 1 - i);rw[<-hk]at e;rw[show p.h - (i+1)=p.h - 1 - i by lia,<-abd];exact decide_eq_decide.mpr (by rw[<-e];exact and_comm)
inductive lU(Ph:Addr)(vs:List V)(H:Hp)(Q:VK)(E:XK):Prop
 | mk (p:SG) (ss:List Int) (lr br st:Addr) (lv:List Addr) (rk:Int) (x y:Nat) (_:vs=[.ref lr,.ref br,.ref st]) (_:SQ H Ph p ss) (_:ss.length<=800000) (_:H lr=some (.lst (lv.map V.ref))) (_:lv.length=p.h) (_:(∀i l,lv[i]?=some l->Lv H p i l)) (_:H br=some (.lst ((lw p.h rk).map V.int))) (_:lr≠p.sn) (_:br≠p.sn) (_:H st=some (.tup [.int (x:Int),.int (y:Int)])) (_:x<=y) (_:y<=p.ns.length) (_:rk / 2^p.h=0) (_:∀(r:Addr) (ss':List Int) (H':Hp) (xs:Nat->Nat) (ys:Nat->Nat),xs 0=x->ys 0=y->(∀i,i<p.h->xs (i+1)=nxt p i (bit rk (p.h - 1 - i)) (xs i)/\ys (i+1)=nxt p i (bit rk (p.h - 1 - i)) (ys i))->(∀i,i<=p.h->xs i<=ys i/\ys i<=p.ns.length/\seg (p.od i) (xs i) (ys i)=(seg (p.od 0) x y).filter λz=>z / 2^(p.h - i)=rk / 2^(p.h - i))->H' r=some (.tup [.int ((xs p.h:Nat):Int),.int ((ys p.h:Nat):Int)])->bY H H' Ph p (2*p.h) ((aaO p.h).flatMap λi=>jD p i (xs i) (ys i)) ss ss'->Q (.ref r) H')
theorem gP(T:Tx K mg a):bh P w K mg base K9 8 a.Xb a.Xc ["levels","bits","stretch"] (lU a.Le):=by
 refine T.Tz.F.ok bZ (λvs H Q E h=>?_) (λcdv A outer s H vs Q E hr h=>?_)
 ·obtain⟨p,ss,lr,br,st,lv,rk,x,y,rfl,_⟩:=h;rfl
 obtain⟨p,ss,lr,br,st,lv,rk,x,y,rfl,sq,hss,hlr,Lq,hL,hbr,nl,nb,hst,hxy,hy,hrk,q⟩:=h;refine⟨_,(ak (aC (i:=3) bZ.nd rfl (aai rfl) (pv 2))
  (ak (b8 PassesOwn.never rfl (qp rfl T.Qc Tw.nG (aa (pv 0) (aa (pv 1) ao))) (jN rfl (bW (aX (i:=4) bZ.nd rfl (aai rfl)) (bW (aX (i:=5) bZ.nd rfl (aai rfl)) gZ))) (az (aC (i:=3) bZ.nd rfl (aai rfl) (aL T.OD (bO T) (by decide) hr aR rfl (aa (pv 4) (aa (pv 3) (aa (pv 5) ao)))))))
  (az (aG (pv 3))))),?_⟩
 have Oi:=TabAt.ne sq.tab hlr nofun;have Q4:=TabAt.ne sq.tab hbr nofun;have h12:=sq.h12;obtain⟨xs,hx0,hx1⟩:∃xs:Nat->Nat,xs 0=x /\ ∀i,xs (i+1)=nxt p i (bit rk (p.h - 1 - i)) (xs i):=⟨λi=>aev x (λi u=>nxt p i (bit rk (p.h - 1 - i)) u) i,rfl,λ_=>rfl⟩;obtain⟨ys,NZ,hy1⟩:∃ys:Nat->Nat,ys 0=y /\ ∀i,ys (i+1)=nxt p i (bit rk (p.h - 1 - i)) (ys i):=⟨λi=>aev y (λi u=>nxt p i (bit rk (p.h - 1 - i)) u) i,rfl,λ_=>rfl⟩;have hseg:=zR sq hxy hy hrk hx0 hx1 NZ hy1;refine⟨_,rfl,_,rfl,_,rfl,lr,br,_,_,rfl,K5.of hlr,K5.of hbr,?_⟩;refine uL (xs:=lv.map V.ref) (ys:=(lw p.h rk).map V.int) (λi σ H'=>∃(f:Addr) (k4 k5:Option V) (ss':List Int),σ=[some (.ref lr),some (.ref br),some (.ref st),some (.ref f),k4,k5]/\H' f=some (.tup [.int ((xs i:Nat):Int),.int ((ys i:Nat):Int)])/\bY H H' a.Le p (2*i) ((aaO i).flatMap λi=>jD p i (xs i) (ys i)) ss ss') ⟨st,none,none,ss,rfl,by rw[hx0,NZ];exact hst,sq.self⟩ ?_ ?_ ?_
 ·rintro i σ H' _ ⟨_,_,_,_,_,_,d⟩;exact⟨K5.of (d.kp _ _ hlr Oi nl),K5.of (d.kp _ _ hbr Q4 nb)⟩
 ·rintro i u v σ H' pt hu hv ⟨f,k4,k5,ss',rfl,hf,d⟩ Qd;rw[aag]at hu;obtain⟨l,hl,rfl⟩:=aaJ.mp hu;have hil:=(aab.mp hl).1;rw[Lq]at hil;rw[aag,rC hil]at hv;cases hv;have Nb:=d.wr.len;have LQ:=sq.did d (by lia);have L2:=(hL i l hl).kept (sq.kp d);have s1:=au Qd (.tup [.ref l,.int (bit rk (p.h - 1 - i))]);obtain⟨g1,g2,_⟩:=hseg i (by lia);refine⟨pt,_,rfl,K6.of aq,rfl,_,_,rfl,_,_,rfl,rfl,?_⟩;refine⟨_,rfl,_,rfl,_,rfl,p,ss',i,l,f,xs i,ys i,bit rk (p.h - 1 - i),rfl,LQ.same s1,by lia,L2.kept (Kp.of s1),hil,s1 _ _ hf,g1,g2,cN _ _,λr LR H2 hr2 x2 d2=>?_⟩;refine⟨r,_,_,LR,rfl,?_,?_⟩
  ·rw[hx1,hy1];exact x2
  ·have:=(d.same s1).trans d2;rw[aaR,abT];refine this.le (by lia) λz hz=>?_;simpa using hz
 ·rintro σ H' ⟨f,k4,k5,ss',rfl,hf,d⟩;rw[aaa,aaa,oM,Lq,adQ]at hf d;exact⟨_,rfl,q f ss' H' xs ys hx0 NZ (λi _=>⟨hx1 i,hy1 i⟩) hseg hf d⟩
theorem iR(ms ns:List Int)(x y:Nat):seg (rks ms ns) x y=rks ms (seg ns x y):=by
 unfold seg rks;rw[acW,aem]
theorem z8{ms:List Int}{u z:Int}(hu:u∈ms)(h:(ms.idxOf u:Int)=(ms.idxOf z:Int))(hz:z∈ms):u=z:=by
 have h1:=aa2 (aaF hu);have h2:=aa2 (aaF hz);have e:ms.idxOf u=ms.idxOf z:=by lia
 rw[<-h1,<-h2];congr 1
theorem gw{ms:List Int}{z:Int}(hz:z∈ms):∀{ns:List Int},(∀u∈ns,u∈ms)->((rks ms ns).filter λy=>y=(ms.idxOf z:Int)).length=(ns.filter λy=>y=z).length
 | [],_=>rfl
 | u::ns,h=>by
  have ih:=gw hz (ns:=ns) λy hy=>h y (aaw _ hy);have hu:=h u aay;unfold rks at ih ⊢;rw[aaz,aau,aau];by_cases e:u=z
  ·subst e;rw[if_pos (decide_eq_true rfl),if_pos (decide_eq_true rfl),aan,aan,ih]
  ·rw[if_neg (λy=>e (z8 hu (of_decide_eq_true y) hz)),if_neg (λy=>e (of_decide_eq_true y)),ih]
theorem mj(p:SG)(xs ys:Nat->Nat):∀n,((aaO n).flatMap λi=>jD p i (xs i) (ys i)).length=2*n
 | 0=>rfl
 | n+1=>by
  rw[aaR,abT,aae,mj p xs ys n];show 2*n+2=_;lia
inductive qR(Ph:Addr)(C:Addr)(vs:List V)(H:Hp)(Q:VK)(E:XK):Prop
 | mk (p:SG) (ss:List Int) (z at0:Int) (_:vs=[.ref p.t,.ref p.g,.int z,.int at0]) (_:SQ H Ph p ss) (_:ss.length<=700000) (_:((∃j:Nat,at0=(j:Int)/\j<=p.ns.length /\ ∀ss' U H',bY H H' Ph p (2*p.h) U ss ss'->U.length<=2*p.h->Q (.int (((p.ns.take j).filter λy=>y=z).length:Int)) H')\/((at0<0\/(p.ns.length:Int)<at0)/\E (.ref C) none H)))
theorem rm(T:Tx K mg a)(B:Bs mg base a):bh P w K mg base (My P w) 9 a.Xl a.Xm ["tables","look","sign","at"] (qR a.Le a.Ln):=by
 refine T.YG.F.ok1 gB (λvs H Q E h=>?_) (λcdv A outer s H vs Q E hr h=>?_)
 ·obtain⟨p,ss,z,at0,rfl,_⟩:=h;rfl
 obtain⟨p,ss,z,at0,rfl,sq,hss,h⟩:=h;refine⟨_,(ak (bH (aL T.QL (dW T) (by decide) hr iK rfl (aa (pv 3) (aa (aM aJ (pv 0) aj (λ_ _=>rfl)) ao))))
  (ak (aC (i:=4) gB.nd rfl (aai rfl) (aL T.TJ (qd T) (by decide) hr aR rfl (aa (aM aJ (pv 0) aj (λ_ _=>rfl)) (aa (pv 2) ao))))
  (ak (aW (Dr (DW (pv 4))) (az (aG aj)) aP)
  (ak (aC (i:=5) gB.nd rfl (aai rfl) (aL T.Pu (di T B) (by decide) hr aR rfl (aa (pv 0) (aa (pv 1) ao))))
  (az (aG (aL T.OJ (cJ T) (by decide) hr aR rfl (aa (aL T.Tz (gP T) (by decide) hr aR rfl (aa (pv 5) (aa (aL T.RJ (je T) (by decide) hr aR rfl (aa (pv 4) (aa (pv 5) ao))) (aa (bU (aa aj (aa (pv 3) ao))) ao)))) ao)))))))),?_⟩
 rcases h with ⟨j,rfl,hj,q⟩|⟨hb,he⟩
 rotate_left
 ·exact⟨_,rfl,_,rfl,p.t,_,_,_,rfl,rfl,K6.of sq.t,rfl,_,_,rfl,.inr ⟨by lia,he⟩⟩
 refine⟨_,rfl,_,rfl,p.t,_,_,_,rfl,rfl,K6.of sq.t,rfl,_,_,rfl,.inl ⟨by lia,by lia,?_⟩⟩;have Np:p.ms.length<=4096:=by
  have:=iC sq.kd.nd λz hz=>(sq.kd.mem z).mp hz;have:=sq.len;lia
 refine⟨_,rfl,p.t,_,_,_,rfl,rfl,K6.of sq.t,rfl,_,rfl,p.k,p.ms,z,rfl,K6.of sq.k,sq.kd.up,Np,λhz=>?_,λhz=>?_⟩
 rotate_left
 ·have e0:((p.ns.take j).filter λy=>y=z).length=0:=by
   rw[abp.mpr]
   ·rfl
   intro u hu e;rw[of_decide_eq_true e]at hu;exact hz ((sq.kd.mem z).mpr (abm hu))
  have:=q ss [] H ((sq.self).le (aaq _) nofun) (aaq _);rw[e0]at this;exact⟨_,rfl,_,rfl,dz this⟩
 refine⟨_,rfl,_,rfl,cF ?_⟩;refine⟨_,rfl,_,rfl,p,ss,rfl,sq,λlr lv H1 hr1 xr Lq hL d1=>?_⟩;have Lz:=sq.did d1 sq.few;have h12:=sq.h12;have Q5:(lv.map V.ref).length=p.h:=by rw[aaa,Lq]
 refine⟨_,rfl,_,rfl,_,rfl,(p.ms.idxOf z:Int),lr,_,rfl,K5.of xr,by lia,λbr H2 hbr Lk N5=>?_⟩;rw[Q5]at N5;have d2:=d1.same Lk;have LQ:=Lz.same Lk;refine⟨_,rfl,(by show 2<=sizeLine;decide),λst hst=>?_⟩;have s3:=au hst (.tup [.int 0,.int (j:Int)]);have Ms:=LQ.same s3;have hm:z∈p.ns:=(sq.kd.mem z).mp hz;obtain⟨i0,hi0⟩:=aaL hm;refine⟨p,ss,lr,br,st,lv,(p.ms.idxOf z:Int),0,j,rfl,Ms,by lia,s3 _ _ (Lk _ _ xr),Lq,λi l e=>((hL i l e).kept (Kp.of Lk)).kept (Kp.of s3),s3 _ _ N5,(aB sq.sn hr1).symm,(aB Lz.sn hbr).symm,aq,aaq _,hj,(sq.rank hi0).2.1,λr ss' H' xs ys hx0 NZ hx hseg xr' d=>?_⟩;obtain⟨g1,g2,g3⟩:=hseg p.h (aad _);refine⟨r,_,_,rfl,xr',?_⟩;have e1:((ys p.h:Nat):Int) - ((xs p.h:Nat):Int)=(((p.ns.take j).filter λy=>y=z).length:Int):=by
  have hlen:=congrArg abC g3;rw[cP (by rw[show p.od p.h=ord p.h (rks p.ms p.ns) p.h from rfl,p.ord_len];exact g2),abA]at hlen;have e2:((seg (p.od 0) 0 j).filter λy=>y / 2^0=(p.ms.idxOf z:Int) / 2^0)=(rks p.ms (p.ns.take j)).filter λy=>y=(p.ms.idxOf z:Int):=by
   rw[show p.od 0=rks p.ms p.ns from rfl,iR,show seg p.ns 0 j=p.ns.take j by unfold seg;rw[abX,abw]];refine aa9 λy _=>?_;rw[acM,acl,acl]
  rw[e2,gw hz λu hu=>(sq.kd.mem u).mpr (abm hu)]at hlen;lia
 rw[e1];refine q ss' _ H' (((d2.same s3).trans d).le (by lia) λy hy=>hy) ?_;rw[abj,mj];exact aad _
inductive nJ(C:Addr)(vs:List V)(H:Hp)(Q:VK)(E:XK):Prop
 | mk (n st sp:Int) (_:vs=[.int n,.int st,.int sp]) (_:((0<=st/\st<=sp/\sp<=n/\Q .non H)\/(¬(0<=st/\st<=sp/\sp<=n)/\E (.ref C) none H)))
theorem fc(T:Tx K mg a):bh P w K mg base (My P w) 1 a.Wc a.Wd ["many","start","stop"] (nJ a.Ln):=by
 refine T.RC.F.ok1 m9 (λvs H Q E h=>?_) (λcdv A outer s H vs Q E hr h=>?_)
 ·obtain⟨n,st,sp,rfl,_⟩:=h;rfl
 obtain⟨n,st,sp,rfl,h⟩:=h;refine⟨_,(az (aW (jf (Ah oX oX oX aj (pv 1) (pv 2) (pv 0))) (az (mV T.QV rfl (aa u6 ao))) aP)),?_⟩;rcases h with ⟨h0,h1,h2,q⟩|⟨hbad,e⟩
 rotate_left
 ·refine⟨_,rfl,_,_,rfl,rfl,_,rfl,bJ (λc1=>?_) λc1=>⟨_,rfl,dz ⟨(by show 1<=sizeLine;decide),e⟩⟩⟩;have c1:(0:Int)<=st:=of_decide_eq_true c1;refine⟨_,rfl,_,_,rfl,rfl,_,rfl,bJ (λc2=>?_) λc2=>⟨_,rfl,dz ⟨(by show 1<=sizeLine;decide),e⟩⟩⟩;have c2:st<=sp:=of_decide_eq_true c2;refine⟨_,rfl,_,_,rfl,rfl,_,rfl,?_⟩;rw[decide_eq_false (show ¬sp<=n from λz=>hbad ⟨c1,c2,z⟩)];exact dz ⟨(by show 1<=sizeLine;decide),e⟩
 refine⟨_,rfl,_,_,rfl,rfl,_,rfl,bJ (λ_=>?_) λz=>absurd (decide_eq_true (show (0:Int)<=st from h0)) z⟩;refine⟨_,rfl,_,_,rfl,rfl,_,rfl,bJ (λ_=>?_) λz=>absurd (decide_eq_true (show st<=sp from h1)) z⟩;refine⟨_,rfl,_,_,rfl,rfl,_,rfl,?_⟩;rw[decide_eq_true (show sp<=n from h2)];exact cF q
theorem uy(z r:Int)(k:Nat):z / 2^k<r / 2^k ↔ (z / 2^(k+1)<r / 2^(k+1)\/(z / 2^(k+1)=r / 2^(k+1)/\bit z k=0/\bit r k=1)):=by
 rw[<-cU z k,<-cU r k];have:=cN z k;have:=cN r k;lia
theorem mL{f g h:Int->Bool}(e:∀x,f x=(g x || h x))(d:∀x,g x=true->h x=false):∀xs:List Int,(xs.filter f).length=(xs.filter g).length+(xs.filter h).length
 | []=>rfl
 | x::xs=>by
  have ih:=mL e d xs;rw[aau,aau,aau,e x];cases c:g x
  ·cases c2:h x <;> simp[ih] <;> lia
  ·rw[d x c];simp[ih];lia
theorem Hx{ms:List Int}{z:Int}{k:Nat}(h1:∀i y,i<k->ms[i]?=some y->y<z)(h2:∀i y,k<=i->ms[i]?=some y->z<=y):∀{ns:List Int},(∀u∈ns,u∈ms)->((rks ms ns).filter λy=>y<(k:Int)).length=(ns.filter λy=>y<z).length
 | [],_=>rfl
 | u::ns,h=>by
  have ih:=Hx h1 h2 (ns:=ns) λy hy=>h y (aaw _ hy);have hu:=h u aay;have hlt:=aaF hu;have e:ms[ms.idxOf u]?=some u:=by rw[aac hlt,aa2 hlt]
  unfold rks at ih ⊢;rw[aaz,aau,aau];by_cases c:ms.idxOf u<k
  ·rw[if_pos (decide_eq_true (show ((ms.idxOf u:Nat):Int)<(k:Int) by lia)),if_pos (decide_eq_true (h1 _ _ c e)),aan,aan,ih]
  ·have:=h2 _ _ (show k<=ms.idxOf u by lia) e;rw[if_neg (λy=>c (by have:=of_decide_eq_true y;lia)),if_neg (λy=>by have:=of_decide_eq_true y;lia),ih]
inductive Ed(Ph:Addr)(vs:List V)(H:Hp)(Q:VK)(E:XK):Prop
 | mk (p:SG) (ss:List Int) (st:Addr) (x y:Nat) (z:Int) (_:vs=[.ref p.t,.ref p.g,.ref st,.int z]) (_:SQ H Ph p ss) (_:ss.length<=700000) (_:H st=some (.tup [.int (x:Int),.int (y:Int)])) (_:x<=y) (_:y<=p.ns.length) (_:∀ss' U H',bY H H' Ph p (4*p.h) U ss ss'->U.length<=2*p.h->Q (.int (((seg p.ns x y).filter λu=>u<z).length:Int)) H')
theorem xO(T:Tx K mg a)(B:Bs mg base a):bh P w K mg base K9 8 a.Xr a.Xu ["tables","look","stretch","sign"] (Ed a.Le):=by
 refine T.TQ.F.ok eO (λvs H Q E h=>?_) (λcdv A outer s H vs Q E hr h=>?_)
 ·obtain⟨p,ss,st,x,y,z,rfl,_⟩:=h;rfl
 obtain⟨p,ss,st,x,y,z,rfl,sq,hss,hst,hxy,hy,q⟩:=h;refine⟨_,(ak (aC (i:=4) eO.nd rfl (aai rfl) (aL T.TF (jG T) (by decide) hr aR rfl (aa (aM aJ (pv 0) aj (λ_ _=>rfl)) (aa (pv 3) ao))))
  (ak (aW (aH bD (pv 4) (aN aF rfl T.Lg Tw.bc (aa (aM aJ (pv 0) aj (λ_ _=>rfl)) ao)) (aO _)) (az (aG (aL T.OJ (cJ T) (by decide) hr aR rfl (aa (pv 2) ao)))) aP)
  (ak (aC (i:=5) eO.nd rfl (aai rfl) (aL T.Pu (di T B) (by decide) hr aR rfl (aa (pv 0) (aa (pv 1) ao))))
  (ak (aC (i:=6) eO.nd rfl (aai rfl) aj)
  (ak (aC (i:=7) eO.nd rfl (aai rfl) (pv 2))
  (ak (b8 PassesOwn.never rfl (qp rfl T.Qc Tw.nG (aa (pv 5) (aa (aL T.RJ (je T) (by decide) hr aR rfl (aa (pv 4) (aa (pv 5) ao))) ao))) (jN rfl (bW (aX (i:=8) eO.nd rfl (aai rfl)) (bW (aX (i:=9) eO.nd rfl (aai rfl)) gZ))) (pO (aW (aH bD (pv 9) aj (aO _)) (az (aC (i:=6) eO.nd rfl (aai rfl) (aA bG (pv 6) (aL T.OJ (cJ T) (by decide) hr aR rfl (aa (aL T.OD (bO T) (by decide) hr aR rfl (aa (pv 8) (aa (pv 7) (aa aj ao)))) ao))))) aP)
  (az (aC (i:=7) eO.nd rfl (aai rfl) (aL T.OD (bO T) (by decide) hr aR rfl (aa (pv 8) (aa (pv 7) (aa (pv 9) ao))))))))
  (az (aG (pv 6))))))))),?_⟩
 have Np:p.ms.length<=4096:=by
  have:=iC sq.kd.nd λz hz=>(sq.kd.mem z).mp hz;have:=sq.len;lia
 have NT:(p.ms.map V.int).length=p.ms.length:=aaa ..;refine⟨_,rfl,p.t,_,_,_,rfl,rfl,K6.of sq.t,rfl,_,rfl,p.k,p.ms,z,rfl,K6.of sq.k,sq.kd.up,Np,λk hk hlo hhi=>?_⟩;have hmem:∀u∈seg p.ns x y,u∈p.ms:=λu hu=>(sq.kd.mem u).mpr (gh hu);refine⟨_,rfl,_,rfl,p.t,_,_,_,rfl,rfl,K6.of sq.t,rfl,p.k,_,rfl,.inr (K6.of sq.k),rfl,_,rfl,bJ (λc=>?_) λc=>?_⟩
 ·have c:V.int (k:Int)=V.int ((p.ms.map V.int).length:Int):=of_decide_eq_true c;injection c with c
  rw[NT]at c;have e1:(y:Int) - (x:Int)=(((seg p.ns x y).filter λu=>u<z).length:Int):=by
   rw[abS.mpr,cP hy]
   ·lia
   intro u hu;obtain⟨i,hi⟩:=aaL (hmem u hu);have:=(aab.mp hi).1;exact decide_eq_true (hlo i u (by lia) hi)
  have:=q ss [] H ((sq.self).le (aaq _) nofun) (aaq _);rw[<-e1]at this;exact⟨_,rfl,st,_,_,rfl,hst,this⟩
 have c:k<p.ms.length:=by
  have:k≠p.ms.length:=λe=>c (decide_eq_true (congrArg V.int (by rw[NT,e])));lia
 refine⟨_,rfl,_,rfl,p,ss,rfl,sq,λlr lv H1 hr1 xr Lq hL d1=>?_⟩;have Lz:=sq.did d1 sq.few;have h12:=sq.h12;have Q5:(lv.map V.ref).length=p.h:=by rw[aaa,Lq]
 have hst1:=sq.kp d1 _ _ hst nofun nofun;obtain⟨rk,Ud⟩:∃rk:Int,(k:Int)=rk:=⟨_,rfl⟩;have hrk:rk / 2^p.h=0:=by
  have hm:p.ms[k]∈p.ns:=(sq.kd.mem _).mp (aaP c);obtain⟨i0,hi0⟩:=aaL hm;have:=(sq.rank hi0).2.1;rw[List.Nodup.idxOf_getElem sq.kd.nd]at this;rw[<-Ud];exact this
 obtain⟨xs,hx0,hx1⟩:∃xs:Nat->Nat,xs 0=x /\ ∀i,xs (i+1)=nxt p i (bit rk (p.h - 1 - i)) (xs i):=⟨λi=>aev x (λi u=>nxt p i (bit rk (p.h - 1 - i)) u) i,rfl,λ_=>rfl⟩;obtain⟨ys,NZ,hy1⟩:∃ys:Nat->Nat,ys 0=y /\ ∀i,ys (i+1)=nxt p i (bit rk (p.h - 1 - i)) (ys i):=⟨λi=>aev y (λi u=>nxt p i (bit rk (p.h - 1 - i)) u) i,rfl,λ_=>rfl⟩;have hseg:=zR sq hxy hy hrk hx0 hx1 NZ hy1;refine⟨_,rfl,_,rfl,_,rfl,_,rfl,(k:Int),lr,_,rfl,K5.of xr,by lia,λbr H2 hbr Lk N5=>?_⟩;rw[Q5,Ud]at N5;have nl:lr≠p.sn:=(aB sq.sn hr1).symm;have nb:br≠p.sn:=(aB Lz.sn hbr).symm;have LQ:=Lz.same Lk;have hlr:=Lk _ _ xr;have Oi:=TabAt.ne LQ.tab hlr nofun;have Q4:=TabAt.ne LQ.tab N5 nofun;refine⟨lr,br,_,_,rfl,K5.of hlr,K5.of N5,?_⟩;refine uL (xs:=lv.map V.ref) (ys:=(lw p.h rk).map V.int) (λi σ H'=>∃(f:Addr) (k8 k9:Option V) (ss':List Int),σ=[some (.ref p.t),some (.ref p.g),some (.ref st),some (.int z),some (.int (k:Int)),some (.ref lr),some (.int (((seg (p.od 0) x y).filter λu=>u / 2^(p.h - i)<rk / 2^(p.h - i)).length:Int)),some (.ref f),k8,k9]/\H' f=some (.tup [.int ((xs i:Nat):Int),.int ((ys i:Nat):Int)])/\bY H2 H' a.Le p (4*i) ((aaO i).flatMap λi=>jD p i (xs i) (ys i)) ss ss') ⟨st,none,none,ss,?_,by rw[hx0,NZ];exact Lk _ _ hst1,LQ.self⟩ ?_ ?_ ?_
 ·rw[abw,abp.mpr]
  ·rfl
  intro u hu hlt;have:=of_decide_eq_true hlt;rw[hrk,jC sq u (gh hu)]at this;lia
 ·rintro i σ H' _ ⟨_,_,_,_,_,_,d⟩;exact⟨K5.of (d.kp _ _ hlr Oi nl),K5.of (d.kp _ _ N5 Q4 nb)⟩
 ·rintro i u v σ H' pt hu hv ⟨f,k8,k9,ss',rfl,hf,d⟩ Qd;rw[aag]at hu;obtain⟨l,hl,rfl⟩:=aaJ.mp hu;have hil:=(aab.mp hl).1;rw[Lq]at hil;rw[aag,rC hil]at hv;cases hv;have Nb:=d.wr.len;have Ms:=LQ.did d (by lia);have L2:=(((hL i l hl).kept (Kp.of Lk)).kept (LQ.kp d));have s1:=au Qd (.tup [.ref l,.int (bit rk (p.h - 1 - i))]);obtain⟨g1,g2,g3⟩:=hseg i (by lia);have hk:p.h - i=(p.h - 1 - i)+1:=by lia
  have hk2:p.h - (i+1)=p.h - 1 - i:=by lia
  refine⟨pt,_,rfl,K6.of aq,rfl,_,_,rfl,_,_,rfl,rfl,?_⟩;have M6:=Ms.same s1;have L3:=L2.kept (Kp.of s1);have Za:=s1 _ _ hf;have d3:=d.same s1;generalize upd H' pt (.tup [.ref l,.int (bit rk (p.h - 1 - i))])=H3 at *;refine⟨λ σ H'=>∃(LR:List Int),σ=[some (.ref p.t),some (.ref p.g),some (.ref st),some (.int z),some (.int (k:Int)),some (.ref lr),some (.int (((seg (p.od 0) x y).filter λu=>u / 2^(p.h - (i+1))<rk / 2^(p.h - (i+1))).length:Int)),some (.ref f),some (.ref l),some (.int (bit rk (p.h - 1 - i)))]/\bY H3 H' a.Le p 2 (jD p i (xs i) (ys i)) ss' LR,?_,?_⟩
  ·refine⟨_,rfl,rfl,_,rfl,bJ (λc=>?_) λc=>?_⟩
   ·have c:V.int (bit rk (p.h - 1 - i))=V.int 1:=of_decide_eq_true c;injection c with c
    refine⟨_,rfl,_,rfl,_,rfl,p,ss',i,l,f,xs i,ys i,0,rfl,M6,by lia,L3,hil,Za,g1,g2,.inl rfl,λr LR H4 hr2 x2 d2=>?_⟩;refine⟨r,_,_,rfl,x2,_,_,rfl,rfl,LR,?_,d2⟩;have e1:(((seg (p.od 0) x y).filter λu=>u / 2^(p.h - (i+1))<rk / 2^(p.h - (i+1))).length:Int)=(((seg (p.od 0) x y).filter λu=>u / 2^(p.h - i)<rk / 2^(p.h - i)).length:Int)+(((nxt p i 0 (ys i):Nat):Int) - ((nxt p i 0 (xs i):Nat):Int)):=by
     have hseg0:=congrArg abC (jj (p:=p) (i:=i) g1 (.inl (rfl:(0:Int)=0)));have hyl:nxt p i 0 (ys i)<=(p.od (i+1)).length:=by
      rw[show p.od (i+1)=ord p.h (rks p.ms p.ns) (i+1)from rfl,p.ord_len];exact lN (.inl rfl)
     rw[cP hyl,g3,abI]at hseg0;have hmono:=fV p i 0 g1;rw[mL (f:=λu=>u / 2^(p.h - (i+1))<rk / 2^(p.h - (i+1))) (g:=λu=>u / 2^(p.h - i)<rk / 2^(p.h - i)) (h:=λu=>decide (bit u (p.h - 1 - i)=0) && decide (u / 2^(p.h - i)=rk / 2^(p.h - i)))]
     ·lia
     ·intro u;rw[hk2,hk,<-abd,<-ado];exact decide_eq_decide.mpr (by rw[uy,c];constructor <;> intro h <;> lia)
     ·intro u hu;have hu:=of_decide_eq_true hu;rw[<-abd];exact decide_eq_false λh=>by lia
    rw[e1];rfl
   ·have c:bit rk (p.h - 1 - i)≠1:=λe=>c (decide_eq_true (congrArg V.int e));have e1:((seg (p.od 0) x y).filter λu=>u / 2^(p.h - (i+1))<rk / 2^(p.h - (i+1)))=(seg (p.od 0) x y).filter λu=>u / 2^(p.h - i)<rk / 2^(p.h - i):=by
     refine aa9 λu _=>?_;rw[hk2,hk];exact decide_eq_decide.mpr (by rw[uy];constructor <;> intro h <;> lia)
    rw[e1];exact⟨ss',rfl,(M6.self).le (by lia) nofun⟩
  rintro σ H4 ⟨LR,rfl,d2⟩;have hln2:=d2.wr.len;have Qh:=M6.did d2 (by lia);refine⟨_,rfl,_,rfl,_,rfl,p,LR,i,l,f,xs i,ys i,bit rk (p.h - 1 - i),rfl,Qh,by lia,L3.kept (M6.kp d2),hil,M6.kp d2 _ _ Za nofun nofun,g1,g2,cN _ _,λr Q0 H5 NQ x3 d5=>?_⟩;refine⟨r,_,_,Q0,rfl,?_,?_⟩
  ·rw[hx1,hy1];exact x3
  ·rw[aaR,abT];refine(d3.trans (d2.trans d5)).le (by lia) λz hz=>?_;simp at hz ⊢;rcases hz with hz|hz
   ·exact .inl hz
   ·exact .inr hz
 ·rintro σ H' ⟨f,k8,k9,ss',rfl,hf,d⟩;rw[aaa,aaa,oM,Lq,adQ]at hf d ⊢;have e2:((seg (p.od 0) x y).filter λu=>u / 2^(p.h - p.h)<rk / 2^(p.h - p.h)).length=((seg p.ns x y).filter λu=>u<z).length:=by
   rw[show p.od 0=rks p.ms p.ns from rfl,iR,<-Hx hlo hhi hmem,abA,Ud];simp
  rw[e2];exact⟨_,rfl,q ss' _ H' (((d1.same Lk).trans d).le (by lia) λy hy=>hy) (by rw[abj,mj];exact aad _)⟩
inductive yu(Ph:Addr)(C:Addr)(vs:List V)(H:Hp)(Q:VK)(E:XK):Prop
 | mk (p:SG) (ss:List Int) (s0 e0 lo hi:Int) (_:vs=[.ref p.t,.ref p.g,.int s0,.int e0,.int lo,.int hi]) (_:SQ H Ph p ss) (_:ss.length<=600000) (_:((∃x y:Nat,s0=(x:Int)/\e0=(y:Int)/\x<=y/\y<=p.ns.length /\ ∀ss' U H',bY H H' Ph p (8*p.h) U ss ss'->U.length<=4*p.h->Q (.int (((seg p.ns x y).filter λu=>decide (lo<=u) && decide (u<hi)).length:Int)) H')\/(¬(0<=s0/\s0<=e0/\e0<=(p.ns.length:Int))/\E (.ref C) none H)))
theorem zj(T:Tx K mg a)(B:Bs mg base a):bh P w K mg base (My P w) 9 a.Xp a.Xq ["tables","look","start","stop","low","high"] (yu a.Le a.Ln):=by
 refine T.YJ.F.ok1 yF (λvs H Q E h=>?_) (λcdv A outer s H vs Q E hr h=>?_)
 ·obtain⟨p,ss,s0,e0,lo,hi,rfl,_⟩:=h;rfl
 obtain⟨p,ss,s0,e0,lo,hi,rfl,sq,hss,h⟩:=h;refine⟨_,(ak (bH (aL T.RC (fc T) (by decide) hr iK rfl (aa (aM aJ (pv 0) aj (λ_ _=>rfl)) (aa (pv 2) (aa (pv 3) ao)))))
  (ak (aW (aH oX (pv 5) (pv 4) (aO _)) (az (aG aj)) aP)
  (az (aG (aA bu (aL T.TQ (xO T B) (by decide) hr aR rfl (aa (pv 0) (aa (pv 1) (aa (bU (aa (pv 2) (aa (pv 3) ao))) (aa (pv 5) ao))))) (aL T.TQ (xO T B) (by decide) hr aR rfl (aa (pv 0) (aa (pv 1) (aa (bU (aa (pv 2) (aa (pv 3) ao))) (aa (pv 4) ao)))))))))),?_⟩
 rcases h with ⟨x,y,rfl,rfl,hxy,hy,q⟩|⟨hb,he⟩
 rotate_left
 ·exact⟨_,rfl,p.t,_,_,_,rfl,rfl,K6.of sq.t,rfl,_,rfl,_,rfl,_,_,_,rfl,.inr ⟨hb,he⟩⟩
 refine⟨_,rfl,p.t,_,_,_,rfl,rfl,K6.of sq.t,rfl,_,rfl,_,rfl,_,_,_,rfl,.inl ⟨by lia,by lia,by lia,?_⟩⟩;have h12:=sq.h12;refine⟨_,rfl,_,rfl,_,_,rfl,rfl,_,rfl,bJ (λc=>?_) λc=>?_⟩
 ·have c:hi<=lo:=of_decide_eq_true c;have:=q ss [] H ((sq.self).le (aaq _) nofun) (aaq _);rw[abp.mpr]at this
  ·exact this
  intro u _ h;rw[<-abd]at h;have:=of_decide_eq_true h;lia
 have c:lo<hi:=by
  have:¬hi<=lo:=λe=>c (decide_eq_true e);lia
 refine⟨_,rfl,_,rfl,_,rfl,_,rfl,(by show 2<=sizeLine;decide),λst hst=>?_⟩;have s1:=au hst (.tup [.int (x:Int),.int (y:Int)]);have Lz:=sq.same s1;refine⟨_,rfl,p,ss,st,x,y,hi,rfl,Lz,by lia,aq,hxy,hy,λQ3 U1 H1 d1 hU1=>?_⟩;have hl1:=d1.wr.len;have LQ:=Lz.did d1 (by lia);refine⟨_,rfl,_,rfl,_,rfl,_,rfl,(by show 2<=sizeLine;decide),λst2 hst2=>?_⟩;have s2:=au hst2 (.tup [.int (x:Int),.int (y:Int)]);refine⟨_,rfl,p,Q3,st2,x,y,lo,rfl,LQ.same s2,by lia,aq,hxy,hy,λLR U2 H2 d2 hU2=>⟨_,_,rfl,rfl,?_⟩⟩;have e1:(((seg p.ns x y).filter λu=>u<hi).length:Int) - (((seg p.ns x y).filter λu=>u<lo).length:Int)=(((seg p.ns x y).filter λu=>decide (lo<=u) && decide (u<hi)).length:Int):=by
  rw[mL (f:=λu=>u<hi) (g:=λu=>u<lo) (h:=λu=>decide (lo<=u) && decide (u<hi))]
  ·lia
  ·intro u;rw[<-abd,<-ado];exact decide_eq_decide.mpr (by lia)
  ·intro u hu;have hu:=of_decide_eq_true hu;rw[<-abd];exact decide_eq_false λh=>by lia
 show Q (.int ((((seg p.ns x y).filter λu=>u<hi).length:Int) - (((seg p.ns x y).filter λu=>u<lo).length:Int))) H2;rw[e1];refine q LR (U1++U2) H2 ((((sq.self).same s1).trans ((d1.same s2).trans d2)).le (by lia) λz hz=>by simpa using hz) ?_;rw[aae];lia
inductive uH(C:Addr)(vs:List V)(H:Hp)(Q:VK)(E:XK):Prop
 | mk (at0 most:Int) (_:vs=[.int at0,.int most]) (_:((0<=at0/\at0<most/\Q .non H)\/((at0<0\/most<=at0)/\E (.ref C) none H)))
theorem gj(T:Tx K mg a):bh P w K mg base (My P w) 1 a.Wv a.Ww ["nth","many"] (uH a.Ln):=by
 refine T.QM.F.ok1 vg (λvs H Q E h=>?_) (λcdv A outer s H vs Q E hr h=>?_)
 ·obtain⟨p,m,rfl,_⟩:=h;rfl
 obtain⟨at0,most,rfl,h⟩:=h;refine⟨_,(az (aW (PW.pt (iI (aH iD (pv 0) aj (aO _)) (jm (aH Af (pv 0) (pv 1) (aO _))))) (az (mV T.QV rfl (aa u6 ao))) aP)),?_⟩;refine⟨_,rfl,_,_,rfl,rfl,_,rfl,bJ (λc=>?_) λc=>?_⟩
 ·have c:=of_decide_eq_true c;rcases h with ⟨h0,_⟩|⟨_,q⟩
  ·lia
  ·exact dz ⟨(by show 1<=sizeLine;decide),q⟩
 have c:¬at0<0:=λz=>c (decide_eq_true z);refine⟨_,rfl,_,rfl,_,_,rfl,rfl,_,rfl,bJ (λc2=>?_) λc2=>?_⟩
 ·have c2:=of_decide_eq_true c2;rcases h with ⟨h0,h1,_⟩|⟨_,q⟩
  ·lia
  ·exact⟨(by show 1<=sizeLine;decide),q⟩
 have c2:¬most<=at0:=λz=>c2 (decide_eq_true z);rcases h with ⟨_,_,q⟩|⟨z,_⟩
 ·exact q
 ·lia
def lows(os:List Int)(z:Int):Nat:=(os.filter λu=>u<z).length
def bA(os:List Int)(z:Int):Nat:=(os.filter λu=>u=z).length
theorem Gy{ms:List Int}(up:ms.Pairwise (· < ·)){k:Nat}(hk:k<ms.length):(∀i y,i<k->ms[i]?=some y->y<ms[k]) /\ ∀i y,k<=i->ms[i]?=some y->ms[k]<=y:=by
 refine⟨λi y hi e=>?_,λi y hi e=>?_⟩
 ·obtain⟨h1,rfl⟩:=aab.mp e;exact aaB.mp up i k h1 hk hi
 ·obtain⟨h1,rfl⟩:=aab.mp e;rcases aaM k i with c|c
  ·exact aer (aaB.mp up k i hk h1 c)
  ·have:i=k:=by lia
   subst this;exact ack _
inductive rY(Ph:Addr)(C:Addr)(vs:List V)(H:Hp)(Q:VK)(E:XK):Prop
 | mk (p:SG) (ss:List Int) (s0 e0 nth:Int) (_:vs=[.ref p.t,.ref p.g,.int s0,.int e0,.int nth]) (_:SQ H Ph p ss) (_:ss.length<=600000) (_:((∃x y j:Nat,s0=(x:Int)/\e0=(y:Int)/\nth=(j:Int)/\x<=y/\y<=p.ns.length/\j<y - x /\ ∀z ss' U H',z∈seg p.ns x y->lows (seg p.ns x y) z<=j->j<lows (seg p.ns x y) z+bA (seg p.ns x y) z->bY H H' Ph p (4*p.h) U ss ss'->U.length<=2*p.h->Q (.int z) H')\/((¬(0<=s0/\s0<=e0/\e0<=(p.ns.length:Int))\/(nth<0\/e0 - s0<=nth))/\E (.ref C) none H)))
theorem sr(T:Tx K mg a)(B:Bs mg base a):bh P w K mg base (My P w) 8 a.Xv a.Xw ["tables","look","start","stop","nth"] (rY a.Le a.Ln):=by
 refine T.YK.F.ok1 bx (λvs H Q E h=>?_) (λcdv A outer s H vs Q E hr h=>?_)
 ·obtain⟨p,ss,s0,e0,nth,rfl,_⟩:=h;rfl
 obtain⟨p,ss,s0,e0,nth,rfl,sq,hss,h⟩:=h;refine⟨_,(ak (bH (aL T.RC (fc T) (by decide) hr iK rfl (aa (aM aJ (pv 0) aj (λ_ _=>rfl)) (aa (pv 2) (aa (pv 3) ao)))))
  (ak (bH (aL T.QM (gj T) (by decide) hr iK rfl (aa (pv 4) (aa (aA bu (pv 3) (pv 2)) ao))))
  (ak (aC (i:=5) bx.nd rfl (aai rfl) aj)
  (ak (aC (i:=6) bx.nd rfl (aai rfl) (pv 4))
  (ak (aC (i:=7) bx.nd rfl (aai rfl) (bU (aa (pv 2) (aa (pv 3) ao))))
  (ak (b8 pJ rfl (bV (aL T.Pu (di T B) (by decide) hr aR rfl (aa (pv 0) (aa (pv 1) ao)))) (aX (i:=8) bx.nd rfl (aai rfl)) (ak (aC (i:=9) bx.nd rfl (aai rfl) (aL T.OJ (cJ T) (by decide) hr aR rfl (aa (aL T.OD (bO T) (by decide) hr aR rfl (aa (pv 8) (aa (pv 7) (aa aj ao)))) ao)))
  (ak (aC (i:=10) bx.nd rfl (aai rfl) aj)
  (pO (aW (aH Af (pv 6) (pv 9) (aO _)) (ak (aC (i:=10) bx.nd rfl (aai rfl) aj)
  (az (aC (i:=6) bx.nd rfl (aai rfl) (aA bu (pv 6) (pv 9))))) aP)
  (ak (aC (i:=5) bx.nd rfl (aai rfl) (aA bG (aA bT aj (pv 5)) (pv 10)))
  (az (aC (i:=7) bx.nd rfl (aai rfl) (aL T.OD (bO T) (by decide) hr aR rfl (aa (pv 8) (aa (pv 7) (aa (pv 10) ao)))))))))))
  (az (aG (aM aJ (aM aJ (pv 0) aj (λ_ _=>rfl)) (pv 5) (λ_ _=>rfl)))))))))),?_⟩
 rcases h with ⟨x,y,j,rfl,rfl,rfl,hxy,hy,hj,q⟩|⟨hb,he⟩
 rotate_left
 ·by_cases g:0<=s0/\s0<=e0/\e0<=(p.ns.length:Int)
  ·refine⟨_,rfl,p.t,_,_,_,rfl,rfl,K6.of sq.t,rfl,_,rfl,_,rfl,_,_,_,rfl,.inl ⟨g.1,g.2.1,g.2.2,?_⟩⟩;exact⟨_,rfl,_,rfl,_,rfl,_,_,rfl,rfl,_,_,rfl,.inr ⟨by rcases hb with hb|hb;exact absurd g hb;exact hb,he⟩⟩
  ·exact⟨_,rfl,p.t,_,_,_,rfl,rfl,K6.of sq.t,rfl,_,rfl,_,rfl,_,_,_,rfl,.inr ⟨g,he⟩⟩
 refine⟨_,rfl,p.t,_,_,_,rfl,rfl,K6.of sq.t,rfl,_,rfl,_,rfl,_,_,_,rfl,.inl ⟨by lia,by lia,by lia,?_⟩⟩;refine⟨_,rfl,_,rfl,_,rfl,_,_,rfl,rfl,_,_,rfl,.inl ⟨by lia,by lia,?_⟩⟩;refine⟨_,rfl,_,rfl,_,rfl,(by show 2<=sizeLine;decide),λst hst=>?_⟩;have s1:=au hst (.tup [.int (x:Int),.int (y:Int)]);have xst:upd H st (.tup [.int (x:Int),.int (y:Int)]) st=some (.tup [.int (x:Int),.int (y:Int)]):=aq;have Qi:=sq.same s1;have d0:=(sq.self).same s1;generalize upd H st (.tup [.int (x:Int),.int (y:Int)])=H0 at *;refine⟨_,rfl,_,rfl,p,ss,rfl,Qi,λlr lv H1 hr1 xr Lq hL d1=>⟨lr,rfl,⟨_,K5.of xr⟩,?_⟩⟩;have Lz:=Qi.did d1 sq.few;have h12:=sq.h12;have nl:lr≠p.sn:=(aB Qi.sn hr1).symm;have Oi:=TabAt.ne Lz.tab xr nofun;have xst1:=Qi.kp d1 _ _ xst nofun nofun;refine cQ (xs:=lv.map V.ref) (λi σ H'=>∃(rk:Int) (ah u v:Nat) (f:Addr) (k8 k9 k10:Option V) (U ss':List Int),σ=[some (.ref p.t),some (.ref p.g),some (.int (x:Int)),some (.int (y:Int)),some (.int (j:Int)),some (.int rk),some (.int (ah:Int)),some (.ref f),k8,k9,k10]/\H' f=some (.tup [.int (u:Int),.int (v:Int)])/\u<=v/\v<=p.ns.length/\seg (p.od i) u v=(seg (p.od 0) x y).filter (λz=>z / 2^(p.h - i)=rk)/\ah<v - u/\((seg (p.od 0) x y).filter λz=>z / 2^(p.h - i)<rk).length+ah=j/\U.length<=2*i/\bY H1 H' a.Le p (4*i) U ss ss') ⟨0,j,x,y,st,none,none,none,[],ss,rfl,xst1,hxy,hy,?_,hj,?_,aaq _,Lz.self⟩ ?_ ?_ ?_
 ·rw[abw,abS.mpr];intro z hz;exact decide_eq_true (jC sq z (gh hz))
 ·rw[abw,abp.mpr]
  ·exact abz _
  intro z hz h;have:=of_decide_eq_true h;rw[jC sq z (gh hz)]at this;lia
 ·rintro i σ H' _ ⟨_,_,_,_,_,_,_,_,_,_,_,_,_,_,_,_,_,_,d⟩;exact K5.of (d.kp _ _ xr Oi nl)
 ·rintro i w0 σ H' hw ⟨rk,ah,u,v,f,k8,k9,k10,U,ss',rfl,hf,huv,hv,hseg,Mq,hcnt,hU,d⟩;rw[aag]at hw;obtain⟨l,hl,rfl⟩:=aaJ.mp hw;have hil:=(aab.mp hl).1;rw[Lq]at hil;have Nb:=d.wr.len;have Ms:=Lz.did d (by lia);have L3:=(hL i l hl).kept (Lz.kp d);have hk:p.h - i=(p.h - 1 - i)+1:=by lia
  have hk2:p.h - (i+1)=p.h - 1 - i:=by lia
  refine⟨_,rfl,_,rfl,p,ss',i,l,f,u,v,0,rfl,Ms,by lia,L3,hil,hf,huv,hv,.inl rfl,λr LR H4 hr2 x2 d2=>?_⟩;have hmono:=fV p i 0 huv;have Qj:∀c,(c=0\/c=1)->nxt p i c v - nxt p i c u=((seg (p.od i) u v).filter λz=>bit z (p.h - 1 - i)=c).length:=λc hc=>by
   have e:=congrArg abC (jj (p:=p) (i:=i) huv hc);rw[cP]at e
   ·exact e
   rw[show p.od (i+1)=ord p.h (rks p.ms p.ns) (i+1)from rfl,p.ord_len];exact lN hc
  have e0:=Qj 0 (.inl rfl);have e1:=Qj 1 (.inr rfl);have esum:=(jB (seg (p.od i) u v) (p.h - 1 - i)).2;rw[cP (show v<=(p.od i).length by rw[show p.od i=ord p.h (rks p.ms p.ns) i from rfl,p.ord_len];exact hv)]at esum;have ez:((nxt p i 0 v:Nat):Int) - ((nxt p i 0 u:Nat):Int)=((nxt p i 0 v - nxt p i 0 u:Nat):Int):=by lia
  refine⟨r,_,_,rfl,x2,?_⟩;show fQ 9 (.int (((nxt p i 0 v:Nat):Int) - ((nxt p i 0 u:Nat):Int))) _ _ _;rw[ez];have hln2:=d2.wr.len;have M6:=Ms.did d2 (by lia);have L4:=L3.kept (Ms.kp d2);have Ue:=Ms.kp d2 _ _ hf nofun nofun;refine⟨λ σ H'=>∃(c:Int) (Mu:Nat),σ=[some (.ref p.t),some (.ref p.g),some (.int (x:Int)),some (.int (y:Int)),some (.int (j:Int)),some (.int rk),some (.int (Mu:Int)),some (.ref f),some (.ref l),some (.int ((nxt p i 0 v - nxt p i 0 u:Nat):Int)),some (.int c)]/\H'=H4/\((c=0/\Mu=ah/\ah<nxt p i 0 v - nxt p i 0 u)\/(c=1/\Mu+(nxt p i 0 v - nxt p i 0 u)=ah)),?_,?_⟩
  ·refine⟨_,rfl,_,rfl,_,_,rfl,rfl,_,rfl,bJ (λc=>?_) λc=>?_⟩
   ·have c:((nxt p i 0 v - nxt p i 0 u:Nat):Int)<=(ah:Int):=of_decide_eq_true c;refine⟨_,rfl,_,rfl,_,_,rfl,rfl,1,ah - (nxt p i 0 v - nxt p i 0 u),?_,rfl,.inr ⟨rfl,by lia⟩⟩;rw[show ((ah - (nxt p i 0 v - nxt p i 0 u):Nat):Int)=(ah:Int) - ((nxt p i 0 v - nxt p i 0 u:Nat):Int) by lia];rfl
   ·have c:¬((nxt p i 0 v - nxt p i 0 u:Nat):Int)<=(ah:Int):=λe=>c (decide_eq_true e);exact⟨0,ah,rfl,rfl,.inl ⟨rfl,rfl,by lia⟩⟩
  rintro σ H5 ⟨c,Mu,rfl,rfl,hc⟩;have hc01:c=0\/c=1:=by
   rcases hc with h|h
   ·exact .inl h.1
   ·exact .inr h.1
  refine⟨_,rfl,_,_,rfl,rfl,.inl ⟨by decide,by decide⟩,_,rfl,_,_,rfl,rfl,?_⟩;refine⟨_,rfl,_,rfl,_,rfl,p,LR,i,l,f,u,v,c,rfl,M6,by lia,L4,hil,Ue,huv,hv,hc01,λr3 Q0 H6 NQ x3 d3=>?_⟩;refine⟨2*rk+c,Mu,nxt p i c u,nxt p i c v,r3,_,_,_,U++jD p i u v,Q0,rfl,x3,fV p i c huv,lN hc01,?_,?_,?_,?_,?_⟩
  ·rw[jj huv hc01,hseg,abI];refine aa9 λz _=>?_;have e:=cU z (p.h - 1 - i);have:=cN z (p.h - 1 - i);rw[hk2,hk,<-abd];exact decide_eq_decide.mpr (by lia)
  ·rw[Qj c hc01];rcases hc with ⟨rfl,h2,h3⟩|⟨rfl,h2⟩
   ·lia
   ·lia
  ·rcases hc with ⟨rfl,h2,h3⟩|⟨rfl,h2⟩
   ·rw[h2,<-hcnt,show ((seg (p.od 0) x y).filter λz=>z / 2^(p.h - (i+1))<2*rk+0)=(seg (p.od 0) x y).filter λz=>z / 2^(p.h - i)<rk from aa9 λz _=>by
     have e:=cU z (p.h - 1 - i);have:=cN z (p.h - 1 - i);rw[hk2,hk];exact decide_eq_decide.mpr (by lia)]
   ·rw[hseg,abI]at e0;rw[mL (f:=λz=>z / 2^(p.h - (i+1))<2*rk+1) (g:=λz=>z / 2^(p.h - i)<rk) (h:=λz=>decide (bit z (p.h - 1 - i)=0) && decide (z / 2^(p.h - i)=rk))]
    ·lia
    ·intro z;have e:=cU z (p.h - 1 - i);have:=cN z (p.h - 1 - i);rw[hk2,hk,<-abd,<-ado];exact decide_eq_decide.mpr (by lia)
    ·intro z hz;have hz:=of_decide_eq_true hz;rw[<-abd];exact decide_eq_false λh=>by lia
  ·rw[aae];show _+2<=_;lia
  ·refine(d.trans (d2.trans d3)).le (by lia) λz hz=>?_;simp at hz ⊢;exact hz
 ·rintro σ H' ⟨rk,ah,u,v,f,k8,k9,k10,U,ss',rfl,hf,huv,hv,hseg,Mq,hcnt,hU,d⟩;rw[aaa,Lq]at hseg hcnt hU d;have Nb:=d.wr.len;have LQ:=Lz.did d (by lia);have hod:p.od 0=rks p.ms p.ns:=rfl;have hsl:=congrArg abC hseg;rw[cP (show v<=(p.od p.h).length by rw[show p.od p.h=ord p.h (rks p.ms p.ns) p.h from rfl,p.ord_len];exact hv),hod,iR]at hsl;rw[hod,iR]at hcnt;have f1:∀z:Int,z / 2^(p.h - p.h)=z:=λz=>by rw[abA,acM,acl]
  simp only[f1]at hsl hcnt;obtain⟨k0,hk0⟩:=acw (show 0<((rks p.ms (seg p.ns x y)).filter λz=>z=rk).length by lia);obtain⟨hk1,hk2⟩:=aaY.mp hk0;have hk2:k0=rk:=of_decide_eq_true hk2;subst hk2;unfold rks at hk1;obtain⟨z,hz,rfl⟩:=aaE.mp hk1;have RT:z∈p.ms:=(sq.kd.mem z).mpr (gh hz);have hlt:=aaF RT;have Zb:p.ms[p.ms.idxOf z]=z:=aa2 hlt;have hmem:∀u∈seg p.ns x y,u∈p.ms:=λu hu=>(sq.kd.mem u).mpr (gh hu);obtain⟨g1,g2⟩:=Gy sq.kd.up hlt;rw[Zb]at g1 g2;have h1:=Hx g1 g2 hmem;have h2:=gw RT hmem;rw[h1]at hcnt;rw[h2]at hsl;have hat:Lj (p.ms.map V.int) (p.ms.idxOf z:Int)=some (.int z):=cM (by rw[aac hlt,Zb]);refine⟨_,rfl,p.t,_,_,_,rfl,rfl,K6.of LQ.t,rfl,_,rfl,p.k,_,_,_,rfl,rfl,K6.of LQ.k,hat,?_⟩;refine q z ss' U H' hz (by unfold lows;lia) (by unfold lows bA;lia) ((d0.trans (d1.trans d)).le (by lia) λz hz=>by simpa using hz) hU
theorem yd{K:PySem.W.Frag}{a:Addr}{xs:List V}{cap:L2.St}{tt:TT}{te:TE}{Qf:Addr->Hp->Prop}{H:Hp}(Pv:Addr->Nat->List V->Hp->Prop)(hl:xs.length<sizeLine)
  (h0:∀D,H D=none->Pv D 0 [] (upd H D (.lst [])))(hs:∀D i ys X,Pv D i ys X->K5 K X a xs/\ys.length<=i)
  (hp:∀D i x ys X,xs[i]?=some x->Pv D i ys X -> ∃ta v1 v2,x=.ref ta/\K6 K X ta [v1,v2] /\ ∀(Qb:Bool->Hp->Prop),(∀H3,Pv D (i+1) ys H3->Qb false H3) ->
   (∀H3,(∀Qe:VK,(∀y H4,H4 D=some (.lst ys)->Pv D (i+1) (ys++[y]) (upd H4 D (.lst (ys++[y])))->Qe y H4)->te (some v1::some v2::cap) H3 Qe)->Qb true H3)->tt (some v1::some v2::cap) X Qb)
  (q:∀D ys X,H D=none->Pv D xs.length ys X->Qf D X):m6 K (N7 K a) cap tt te Qf H:=by
 intro D hD;refine⟨λi m ys X=>m=xs.length - i/\i<=xs.length/\Pv D i ys X,⟨_,rfl,aaq _,h0 D hD⟩,?_⟩;rintro i m ys X ⟨rfl,hi,hP⟩;obtain⟨h2,h3⟩:=hs D i ys X hP;by_cases hlt:i<xs.length
 ·have hg:=aac hlt;refine .inr ⟨⟨_,_,h2,hg⟩,λv H2 y=>?_⟩;obtain⟨rfl,y⟩:=y;have e:=y _ h2;rw[hg]at e;cases e;obtain⟨ta,v1,v2,e1,e2,step⟩:=hp D i _ ys _ hg hP;refine⟨ta,v1,v2,e1,e2,step _ (λH3 p3=>?_) λH3 k3=>?_⟩
  ·rw[if_neg (by decide)];exact⟨xs.length - (i+1),by lia,rfl,hlt,p3⟩
  ·rw[if_pos rfl];exact k3 _ λy H4 e1 e2=>⟨e1,by lia,xs.length - (i+1),by lia,rfl,hlt,e2⟩
 ·have e:i=xs.length:=by lia
  subst e;exact .inl ⟨⟨_,h2,aad _⟩,q D ys X hD hP⟩
theorem Az{K:PySem.W.Frag}{a:Addr}{xs:List V}{cap:L2.St}{te:TE}{Qf:Addr->Hp->Prop}{H:Hp}(Pv:Addr->Nat->List V->Hp->Prop)(hl:xs.length<sizeLine)
  (h0:∀D,H D=none->Pv D 0 [] (upd H D (.lst [])))(hs:∀D i ys X,Pv D i ys X->K5 K X a xs/\ys.length<=i)
  (hp:∀D i x ys X,xs[i]?=some x->Pv D i ys X -> ∃ta v1 v2,x=.ref ta/\K6 K X ta [v1,v2] /\ ∀Qe:VK,(∀y H4,H4 D=some (.lst ys)->Pv D (i+1) (ys++[y]) (upd H4 D (.lst (ys++[y])))->Qe y H4)->te (some v1::some v2::cap) X Qe)
  (q:∀D ys X,H D=none->Pv D xs.length ys X->Qf D X):u9 K (N7 K a) cap te Qf H:=by
 intro D hD;refine⟨λi m ys X=>m=xs.length - i/\i<=xs.length/\Pv D i ys X,⟨_,rfl,aaq _,h0 D hD⟩,?_⟩;rintro i m ys X ⟨rfl,hi,hP⟩;obtain⟨h2,h3⟩:=hs D i ys X hP;by_cases hlt:i<xs.length
 ·have hg:=aac hlt;refine .inr ⟨⟨_,_,h2,hg⟩,λv H2 y=>?_⟩;obtain⟨rfl,y⟩:=y;have e:=y _ h2;rw[hg]at e;cases e;obtain⟨ta,v1,v2,e1,e2,step⟩:=hp D i _ ys _ hg hP;exact⟨ta,v1,v2,e1,e2,step _ λy H4 e1 e2=>⟨e1,by lia,xs.length - (i+1),by lia,rfl,hlt,e2⟩⟩
 ·have e:i=xs.length:=by lia
  subst e;exact .inl ⟨⟨_,h2,aad _⟩,q D ys X hD hP⟩
abbrev RS:=Int×Nat×Nat
inductive Pr(H:Hp)(v:V)(f:RS):Prop
 | mk (p st:Addr) (_:v=.ref p) (_:H p=some (.tup [.int f.1,.ref st])) (_:H st=some (.tup [.int (f.2.1:Int),.int (f.2.2:Int)]))
theorem Pr.to{H H':Hp}{v:V}{f:RS}(h:Pr H v f)(s:∀b xs,H b=some (.tup xs)->H' b=some (.tup xs)):Pr H' v f:=by
 obtain⟨p,st,e,h1,h2⟩:=h;exact⟨p,st,e,s _ _ h1,s _ _ h2⟩
def Lx(H:Hp)(vs:List V)(fs:List RS):Prop:=vs.length=fs.length /\ ∀(i:Nat) (v:V) (f:RS),vs[i]?=some v->fs[i]?=some f->Pr H v f
theorem Lx.to{H H':Hp}{vs:List V}{fs:List RS}(h:Lx H vs fs)(s:∀b xs,H b=some (.tup xs)->H' b=some (.tup xs)):Lx H' vs fs:=⟨h.1,λi v f e1 e2=>(h.2 i v f e1 e2).to s⟩
theorem Lx.nil(H:Hp):Lx H [] []:=⟨rfl,λi v f e=>by simp at e⟩
theorem Lx.snoc{H:Hp}{vs:List V}{fs:List RS}{v:V}{f:RS}(h:Lx H vs fs)(p:Pr H v f):Lx H (vs++[v]) (fs++[f]):=by
 refine⟨by rw[aae,aae,h.1];rfl,λi w g e1 e2=>?_⟩;rcases aaM i vs.length with c|c
 ·rw[aar c]at e1;rw[aar (by rw[<-h.1];exact c)]at e2;exact h.2 i w g e1 e2
 ·rw[aap c]at e1;rw[aap (by rw[<-h.1];exact c),<-h.1]at e2;have hi:=(aab.mp e1).1;have e0:i - vs.length=0:=by
   rw[aa5]at hi;lia
  rw[e0]at e1 e2;cases e1;cases e2;exact p
theorem tL{H H':Hp}(s:aV H H'):∀b xs,H b=some (.tup xs)->H' b=some (.tup xs):=λb xs e=>s _ _ e
theorem dI{H:Hp}{r:Addr}{vs ws:List V}(h:H r=some (.lst vs)):∀b xs,H b=some (.tup xs)->upd H r (.lst ws) b=some (.tup xs):=λb xs e=>by
 rw[aD λz=>by rw[z,h]at e;cases e];exact e
def full(f:RS):Bool:=decide (f.2.1<f.2.2)
inductive Al(K:PySem.W.Frag)(vs:List V)(H:Hp)(Q:VK)(_e1:XK):Prop
 | mk (r:Addr) (us:List V) (fs:List RS) (_:vs=[.ref r]) (_:H r=some (.lst us)) (_:Lx H us fs) (_:us.length<100000) (_:∀r' us' H',H r'=none->aV H H'->H' r'=some (.lst us')->Lx H' us' (fs.filter full)->Q (.ref r') H')
theorem tK(T:Tx K mg a):bh P w K mg base K9 2 a.XD a.XF ["parts"] (Al K):=by
 refine T.TV.F.ok Bo (λvs H Q E h=>?_) (λcdv A outer s H vs Q E hr h=>?_)
 ·obtain⟨r,us,fs,rfl,_⟩:=h;rfl
 obtain⟨r,us,fs,rfl,hr0,hf,hl,q⟩:=h;refine⟨_,(az (aG (Bc rfl ⟨bM.zero,rfl,by decide⟩ (bV (pv 0)) (λ_ _ _ _=>(fK (aH mq (aL T.OJ (cJ T) (by decide) hr aR rfl (aa (pv 1) ao)) aj (aO _)))) (λ_ _ _ _=>(bU (aa (pv 0) (aa (pv 1) ao))))))),?_⟩;refine⟨_,rfl,r,rfl,⟨_,K5.of hr0⟩,?_⟩;refine yd (xs:=us) (λD i ys X=>H D=none/\aV H X/\X D=some (.lst ys)/\ys.length<=i/\Lx X ys ((fs.take i).filter full)) (by rw[sizeLine_eq];lia) (λD hD=>⟨hD,au hD _,aq,aad _,Lx.nil _⟩) (λD i ys X h=>⟨K5.of (h.2.1 _ _ hr0),h.2.2.2.1⟩) (λD i x ys X hx hP=>?_) (λD ys X hD hP=>?_)
 ·obtain⟨hD,sm,xD,hyl,hys⟩:=hP;have hi:=(aab.mp hx).1;rw[hf.1]at hi;have hg:=aac hi;obtain⟨p,st,rfl,h1,h2⟩:=(hf.2 i x fs[i] hx hg).to (tL sm);refine⟨p,.int fs[i].1,.ref st,rfl,K6.of h1,λQb k1 k2=>?_⟩;have NK:fs.take (i+1)=fs.take i++[fs[i]]:=by rw[aci,hg];rfl
  refine⟨_,rfl,st,_,_,rfl,h2,_,_,rfl,rfl,_,rfl,?_⟩;by_cases c:fs[i].2.1<fs[i].2.2
  ·rw[decide_eq_true (show (0:Int)<(fs[i].2.2:Int) - (fs[i].2.1:Int) by lia)];refine k2 _ λQe ke=>?_;refine⟨_,rfl,_,rfl,(by show 2<=sizeLine;decide),λp2 hp2=>?_⟩;have t1:=au hp2 (.tup [.int fs[i].1,.ref st]);refine ke _ _ (t1 _ _ xD) ⟨hD,cR (sm.trans t1) hD _,aq,by rw[aae,aa5];lia,?_⟩;rw[NK,aaI,aau,if_pos (show full fs[i]=true from decide_eq_true c)];refine Lx.snoc (hys.to λb xs e=>dI (t1 _ _ xD) _ _ (t1 _ _ e)) ⟨p2,st,rfl,dI (t1 _ _ xD) _ _ aq,dI (t1 _ _ xD) _ _ (t1 _ _ h2)⟩
  ·rw[decide_eq_false (show ¬(0:Int)<(fs[i].2.2:Int) - (fs[i].2.1:Int) by lia)];refine k1 _ ⟨hD,sm,xD,by lia,?_⟩;rw[NK,aaI,aau,if_neg (show ¬full fs[i]=true from λe=>c (of_decide_eq_true e))];simpa using hys
 ·obtain⟨hD,sm,xD,hyl,hys⟩:=hP;rw[hf.1,aav (aad _)]at hys;exact q D ys X hD sm xD hys
def kids(p:SG)(i:Nat)(f:RS):List RS:=[(2*f.1,nxt p i 0 f.2.1,nxt p i 0 f.2.2),(2*f.1+1,nxt p i 1 f.2.1,nxt p i 1 f.2.2)]
theorem m7(p:SG)(i:Nat):∀fs:List RS,(fs.flatMap (kids p i)).length=2*fs.length
 | []=>rfl
 | f::fs=>by
  rw[ace,aae,m7 p i fs,aan];show 2+_=_;lia
inductive xX(Ph:Addr)(vs:List V)(H:Hp)(Q:VK)(_e1:XK):Prop
 | mk (p:SG) (ss:List Int) (i:Nat) (l r:Addr) (us:List V) (fs:List RS) (_:vs=[.ref l,.ref r]) (_:SQ H Ph p ss) (_:ss.length<=800000) (_:Lv H p i l) (_:i<p.h) (_:H r=some (.lst us)) (_:r≠p.sn) (_:Lx H us fs) (_:fs.length<=4096) (_:(∀f∈fs,f.2.1<=f.2.2/\f.2.2<=p.ns.length)) (_:∀r' us' ss' H',H r'=none->H' r'=some (.lst us')->Lx H' us' ((fs.flatMap (kids p i)).filter full)->bY H H' Ph p (4*fs.length) (fs.flatMap λf=>jD p i f.2.1 f.2.2) ss ss'->Q (.ref r') H')
theorem wz(T:Tx K mg a):bh P w K mg base K9 8 a.Xz a.XC ["level","found"] (xX a.Le):=by
 refine T.YM.F.ok gW (λvs H Q E h=>?_) (λcdv A outer s H vs Q E hr h=>?_)
 ·obtain⟨p,ss,i,l,r,us,fs,rfl,_⟩:=h;rfl
 obtain⟨p,ss,i,l,r,us,fs,rfl,sq,hss,hL,hi,hr0,nr,hf,hfl,hle,q⟩:=h;refine⟨_,(ak (aC (i:=2) gW.nd rfl (aai rfl) (bR ao))
  (ak (b8 PassesOwn.never rfl (bV (pv 1)) (jN rfl (bW (aX (i:=3) gW.nd rfl (aai rfl)) (bW (aX (i:=4) gW.nd rfl (aai rfl)) gZ))) (ak (bH (lB PySem.F.plainAttrs_list PySem.F.slot_list_append PySem.F.type_list_append cG (pv 2) (aa (bU (aa (aA bT aj (pv 3)) (aa (aL T.OD (bO T) (by decide) hr aR rfl (aa (pv 0) (aa (pv 4) (aa aj ao)))) ao))) ao)))
  (az (bH (lB PySem.F.plainAttrs_list PySem.F.slot_list_append PySem.F.type_list_append cG (pv 2) (aa (bU (aa (aA bG (aA bT aj (pv 3)) aj) (aa (aL T.OD (bO T) (by decide) hr aR rfl (aa (pv 0) (aa (pv 4) (aa aj ao)))) ao))) ao))))))
  (az (aG (aL T.TV (tK T) (by decide) hr aR rfl (aa (pv 2) ao)))))),?_⟩
 refine⟨(by show 0<=sizeLine;decide),λpr hpr=>?_⟩;have s0:=au hpr (.lst []);have RV:pr≠p.sn:=(aB sq.sn hpr).symm;have nrP:=TabAt.ne sq.tab hr0 nofun;have npp:pr≠r:=(aB hr0 hpr).symm;refine⟨_,rfl,r,rfl,⟨_,K5.of (s0 _ _ hr0)⟩,?_⟩;refine cQ (xs:=us) (λj σ H'=>∃(k3 k4:Option V) (ws:List V) (ss':List Int),σ=[some (.ref l),some (.ref r),some (.ref pr),k3,k4]/\H' pr=some (.lst ws)/\Lx H' ws ((fs.take j).flatMap (kids p i))/\bY H H' a.Le p (4*j) ((fs.take j).flatMap λf=>jD p i f.2.1 f.2.2) ss ss') ⟨none,none,[],ss,rfl,aq,Lx.nil _,(sq.self).same s0⟩ ?_ ?_ ?_
 ·rintro j σ H' _ ⟨_,_,_,_,_,_,_,d⟩;exact K5.of (d.kp _ _ hr0 nrP nr)
 ·rintro j x σ H' hx ⟨k3,k4,ws,ss',rfl,Q6,hws,d⟩;have hj:=(aab.mp hx).1;rw[hf.1]at hj;have hg:=aac hj;obtain⟨hxy,hy⟩:=hle _ (aaP hj);have NK:fs.take (j+1)=fs.take j++[fs[j]]:=by rw[aci,hg];rfl
  have Nb:=d.wr.len;have Zc:=sq.kp d;obtain⟨tp,st,rfl,h1,h2⟩:=(hf.2 j x fs[j] hx hg).to λb xs e=>Zc _ _ e nofun nofun;have Lz:=sq.did d (by lia);have L1:=hL.kept Zc;have hwl:ws.length=2*j:=by
   rw[hws.1,m7,aaC];lia
  generalize fs[j]=f at *;obtain⟨rk,x,y⟩:=f;refine⟨tp,_,rfl,K6.of h1,rfl,_,_,rfl,_,_,rfl,rfl,?_⟩;refine⟨_,rfl,.inl ⟨rfl,_,K5.of Q6⟩,_,rfl,_,_,rfl,rfl,.inl ⟨by decide,by decide⟩,_,rfl,_,rfl,p,ss',i,l,st,x,y,0,rfl,Lz,by lia,L1,hi,h2,hxy,hy,.inl rfl,λr1 Q3 H1 hr1 x1 d1=>?_⟩;have nprP:=TabAt.ne Lz.tab Q6 nofun;have hl1:=d1.wr.len;refine⟨(by show 2<=sizeLine;decide),λp1 hp1=>?_⟩;have t1:=au hp1 (.tup [.int (2*rk),.ref r1]);have xpr1:=t1 _ _ (d1.kp _ _ Q6 nprP RV);refine⟨pr,_,_,rfl,rfl,xpr1,by rw[sizeLine_eq];lia,?_⟩;have dA:=((d.trans d1).same t1).set (ws:=ws++[.ref p1]) hpr xpr1 RV;have hwsA:Lx (upd (upd H1 p1 (.tup [.int (2*rk),.ref r1])) pr (.lst (ws++[.ref p1]))) (ws++[.ref p1]) ((fs.take j).flatMap (kids p i)++[(2*rk,nxt p i 0 x,nxt p i 0 y)]):=
   Lx.snoc (hws.to λb xs e=>dI xpr1 _ _ (t1 _ _ (Lz.kp d1 _ _ e nofun nofun))) ⟨p1,r1,rfl,dI xpr1 _ _ aq,dI xpr1 _ _ (t1 _ _ x1)⟩
  have Ug:=sq.did dA (by lia);have LA:=hL.kept (sq.kp dA);have h2A:=dI (ws:=ws++[.ref p1]) xpr1 _ _ (t1 _ _ (Lz.kp d1 _ _ h2 nofun nofun));have xprA:upd (upd H1 p1 (.tup [.int (2*rk),.ref r1])) pr (.lst (ws++[.ref p1])) pr=some (.lst (ws++[.ref p1])):=aq;generalize upd (upd H1 p1 (.tup [.int (2*rk),.ref r1])) pr (.lst (ws++[.ref p1]))=H2 at *;refine⟨_,rfl,.inl ⟨rfl,_,K5.of xprA⟩,_,rfl,_,_,rfl,rfl,.inl ⟨by decide,by decide⟩,_,_,rfl,rfl,_,rfl,_,rfl,p,Q3,i,l,st,x,y,1,rfl,Ug,by lia,LA,hi,h2A,hxy,hy,.inr rfl,λr2 LR H3 hr2 x2 d2=>?_⟩;have nprA:=TabAt.ne Ug.tab xprA nofun;refine⟨(by show 2<=sizeLine;decide),λp2 hp2=>?_⟩;have t2:=au hp2 (.tup [.int (2*rk+1),.ref r2]);have xpr2:=t2 _ _ (d2.kp _ _ xprA nprA RV);refine⟨pr,_,_,rfl,rfl,xpr2,by rw[sizeLine_eq,aae];show _+1<_;lia,?_⟩;have dB:=((dA.trans d2).same t2).set (ws:=ws++[.ref p1]++[.ref p2]) hpr xpr2 RV;refine⟨_,_,ws++[.ref p1]++[.ref p2],LR,rfl,aq,?_,?_⟩
  ·rw[NK,abT,ace,ad0,abv];show Lx _ _ ((fs.take j).flatMap (kids p i)++[(2*rk,nxt p i 0 x,nxt p i 0 y),(2*rk+1,nxt p i 1 x,nxt p i 1 y)]);rw[<-List.singleton_append (x:=(2*rk,nxt p i 0 x,nxt p i 0 y)),<-aaG];exact Lx.snoc (hwsA.to λb xs e=>dI xpr2 _ _ (t2 _ _ (Ug.kp d2 _ _ e nofun nofun))) ⟨p2,r2,rfl,dI xpr2 _ _ aq,dI xpr2 _ _ (t2 _ _ x2)⟩
  ·rw[NK,abT,ace,ad0,abv];refine dB.le (by lia) λz hz=>?_;rw[aaG]at hz;rcases aaK.mp hz with hz|hz
   ·exact aa0 _ hz
   ·refine aas _ ?_;rcases aaK.mp hz with hz|hz
    ·exact hz
    ·exact hz
 ·rintro σ H' ⟨k3,k4,ws,ss',rfl,Q6,hws,d⟩;rw[hf.1,aav (aad _)]at hws d;have hwl:ws.length=2*fs.length:=by rw[hws.1,m7]
  exact⟨_,rfl,pr,ws,_,rfl,Q6,hws,by lia,λr' us' H2 hr2 Lk x2 h2=>q r' us' ss' H2 (d.free hr2) x2 h2 (d.same Lk)⟩
structure Good(p:SG)(os:List Int)(i:Nat)(fs:List RS):Prop where
 le:∀f∈fs,f.2.1<f.2.2/\f.2.2<=p.ns.length
 sg:∀f∈fs,seg (p.od i) f.2.1 f.2.2=os.filter λz=>z / 2^(p.h - i)=f.1
 up:(fs.map (·.1)).Pairwise (· < ·)
 all:∀z∈os,∃f∈fs,f.1=z / 2^(p.h - i)
theorem zW(p:SG)(i:Nat):∀{fs:List RS},(fs.map (·.1)).Pairwise (· < ·)->((fs.flatMap (kids p i)).map (·.1)).Pairwise (· < ·)
 | [],_=>adG
 | f::fs,h=>by
  obtain⟨h1,h2⟩:=abk.mp h;have ih:=zW p i h2;have hb:∀v∈(fs.flatMap (kids p i)).map (·.1),2*f.1+1<v:=λv hv=>by
   obtain⟨g,hg,rfl⟩:=aaE.mp hv;obtain⟨g0,hg0,hk⟩:=ac4.mp hg;have:f.1<g0.1:=h1 _ (abQ (f:=λx:RS=>x.1) hg0);have hk':g=(2*g0.1,nxt p i 0 g0.2.1,nxt p i 0 g0.2.2)\/g=(2*g0.1+1,nxt p i 1 g0.2.1,nxt p i 1 g0.2.2):=by
    unfold kids at hk;simpa using hk
   rcases hk' with rfl|rfl
   ·show 2*f.1+1<2*g0.1;lia
   ·show 2*f.1+1<2*g0.1+1;lia
  show ((2*f.1)::(2*f.1+1)::(fs.flatMap (kids p i)).map (·.1)).Pairwise (· < ·);refine abk.mpr ⟨λv hv=>?_,abk.mpr ⟨hb,ih⟩⟩;rcases aaA.mp hv with rfl|hv
  ·lia
  ·have:=hb v hv;lia
theorem rz(p:SG)(i:Nat):(p.od i).length=p.ns.length:=p.ord_len i
theorem Gx(p:SG)(i:Nat){x y:Nat}(h:x<=y)(hy:y<=p.ns.length):(nxt p i 0 y - nxt p i 0 x)+(nxt p i 1 y - nxt p i 1 x)=y - x:=by
 have Qj:∀c,(c=0\/c=1)->nxt p i c y - nxt p i c x=((seg (p.od i) x y).filter λz=>bit z (p.h - 1 - i)=c).length:=λc hc=>by
  have e:=congrArg abC (jj (p:=p) (i:=i) h hc);rw[cP]at e
  ·exact e
  rw[rz];exact lN hc
 have esum:=(jB (seg (p.od i) x y) (p.h - 1 - i)).2;rw[cP (by rw[rz];exact hy)]at esum;rw[Qj 0 (.inl rfl),Qj 1 (.inr rfl)];exact esum
theorem tM(p:SG)(i:Nat):∀{fs:List RS},(∀f∈fs,f.2.1<f.2.2/\f.2.2<=p.ns.length)->fs.length<=((fs.flatMap (kids p i)).filter full).length
 | [],_=>aad _
 | f::fs,h=>by
  have ih:=tM p i (fs:=fs) λg hg=>h g (aaw _ hg);obtain⟨h1,h2⟩:=h f aay;have hs:=Gx p i (aba h1) h2;rw[ace,aaI,aae,aan];have:1<=((kids p i f).filter full).length:=by
   unfold kids;rw[aau,aau];by_cases c:nxt p i 0 f.2.1<nxt p i 0 f.2.2
   ·rw[if_pos (show full (2*f.1,nxt p i 0 f.2.1,nxt p i 0 f.2.2)=true from decide_eq_true c),aan];lia
   ·rw[if_neg (show ¬full (2*f.1,nxt p i 0 f.2.1,nxt p i 0 f.2.2)=true from λe=>c (of_decide_eq_true e)),if_pos (show full (2*f.1+1,nxt p i 1 f.2.1,nxt p i 1 f.2.2)=true from decide_eq_true (show nxt p i 1 f.2.1<nxt p i 1 f.2.2 by lia)),aan];lia
  lia
theorem Good.next{p:SG}{os:List Int}{i:Nat}{fs:List RS}(h:Good p os i fs)(hi:i<p.h):Good p os (i+1) ((fs.flatMap (kids p i)).filter full):=by
 have hk:p.h - i=(p.h - 1 - i)+1:=by lia
 have hk2:p.h - (i+1)=p.h - 1 - i:=by lia
 have hsg:∀f∈fs,∀c:Int,(c=0\/c=1)->seg (p.od (i+1)) (nxt p i c f.2.1) (nxt p i c f.2.2)=os.filter λz=>z / 2^(p.h - (i+1))=2*f.1+c:=λf hf c hc=>by
  rw[jj (aba (h.le f hf).1) hc,h.sg f hf,abI];refine aa9 λz _=>?_;have e:=cU z (p.h - 1 - i);have:=cN z (p.h - 1 - i);rw[hk2,hk,<-abd];exact decide_eq_decide.mpr (by lia)
 have hmem:∀g∈fs.flatMap (kids p i),∃f∈fs,∃c:Int,(c=0\/c=1)/\g=(2*f.1+c,nxt p i c f.2.1,nxt p i c f.2.2):=λg hg=>by
  obtain⟨g0,hg0,hk⟩:=ac4.mp hg;have hk':g=(2*g0.1,nxt p i 0 g0.2.1,nxt p i 0 g0.2.2)\/g=(2*g0.1+1,nxt p i 1 g0.2.1,nxt p i 1 g0.2.2):=by
   unfold kids at hk;simpa using hk
  rcases hk' with rfl|rfl
  ·exact⟨g0,hg0,0,.inl rfl,by rw[aes]⟩
  ·exact⟨g0,hg0,1,.inr rfl,rfl⟩
 refine⟨λg hg=>?_,λg hg=>?_,?_,λz hz=>?_⟩
 ·obtain⟨hg1,hg2⟩:=aaY.mp hg;obtain⟨f,hf,c,hc,rfl⟩:=hmem g hg1;exact⟨of_decide_eq_true hg2,lN hc⟩
 ·obtain⟨hg1,hg2⟩:=aaY.mp hg;obtain⟨f,hf,c,hc,rfl⟩:=hmem g hg1;exact hsg f hf c hc
 ·exact ade (ad1 _ adv) (zW p i h.up)
 ·obtain⟨f,hf,e⟩:=h.all z hz;have hc:=cN z (p.h - 1 - i);have e2:=cU z (p.h - 1 - i);refine⟨(2*f.1+bit z (p.h - 1 - i),nxt p i (bit z (p.h - 1 - i)) f.2.1,nxt p i (bit z (p.h - 1 - i)) f.2.2),aaY.mpr ⟨ac4.mpr ⟨f,hf,?_⟩,decide_eq_true ?_⟩,?_⟩
  ·unfold kids;rcases hc with hc|hc
   ·rw[hc,aes];exact aay
   ·rw[hc];exact aaw _ aay
  ·have hs:=hsg f hf _ hc;have RT:z∈os.filter λu=>u / 2^(p.h - (i+1))=2*f.1+bit z (p.h - 1 - i):=aaY.mpr ⟨hz,decide_eq_true (by rw[hk2,e,hk];lia)⟩;have hl:=abZ RT;rw[<-hs,cP (by rw[rz];exact lN hc)]at hl;show nxt p i (bit z (p.h - 1 - i)) f.2.1<nxt p i (bit z (p.h - 1 - i)) f.2.2;lia
  ·show 2*f.1+bit z (p.h - 1 - i)=_;rw[hk2,e,hk];exact e2
inductive v6(H:Hp)(v:V)(f:Int×Nat):Prop
 | mk (q:Addr) (_:v=.ref q) (_:H q=some (.tup [.int f.1,.int (f.2:Int)]))
theorem v6.to{H H':Hp}{v:V}{f:Int×Nat}(h:v6 H v f)(s:∀b xs,H b=some (.tup xs)->H' b=some (.tup xs)):v6 H' v f:=by
 obtain⟨q,e,h1⟩:=h;exact⟨q,e,s _ _ h1⟩
def Rows(H:Hp)(vs:List V)(fs:List (Int×Nat)):Prop:=vs.length=fs.length /\ ∀(i:Nat) (v:V) (f:Int×Nat),vs[i]?=some v->fs[i]?=some f->v6 H v f
theorem Rows.to{H H':Hp}{vs:List V}{fs:List (Int×Nat)}(h:Rows H vs fs)(s:∀b xs,H b=some (.tup xs)->H' b=some (.tup xs)):Rows H' vs fs:=⟨h.1,λi v f e1 e2=>(h.2 i v f e1 e2).to s⟩
theorem Rows.nil(H:Hp):Rows H [] []:=⟨rfl,λi v f e=>by simp at e⟩
theorem Rows.snoc{H:Hp}{vs:List V}{fs:List (Int×Nat)}{v:V}{f:Int×Nat}(h:Rows H vs fs)(p:v6 H v f):Rows H (vs++[v]) (fs++[f]):=by
 refine⟨by rw[aae,aae,h.1];rfl,λi w g e1 e2=>?_⟩;rcases aaM i vs.length with c|c
 ·rw[aar c]at e1;rw[aar (by rw[<-h.1];exact c)]at e2;exact h.2 i w g e1 e2
 ·rw[aap c]at e1;rw[aap (by rw[<-h.1];exact c),<-h.1]at e2;have hi:=(aab.mp e1).1;have e0:i - vs.length=0:=by
   rw[aa5]at hi;lia
  rw[e0]at e1 e2;cases e1;cases e2;exact p
theorem xq{ms:List Int}{s:Int}(h:ms.idxOf s<ms.length):ms.getD (ms.idxOf s) 0=s:=by
 rw[aaH,aac h,aa2 h];rfl
structure Told(ns:List Int)(ps:List (Int×Nat)):Prop where
 up:(ps.map (·.1)).Pairwise (· < ·)
 mem:∀s,s∈ps.map (·.1) ↔ s∈ns
 cnt:∀f∈ps,f.2=bA ns f.1
theorem Good.told{H:Hp}{Ph:Addr}{p:SG}{ss:List Int}(sq:SQ H Ph p ss){x y:Nat}{fs:List RS}(h:Good p (seg (p.od 0) x y) p.h fs):(∀f∈fs,∃k:Nat,f.1=(k:Int)/\k<p.ms.length)/\Told (seg p.ns x y) (fs.map λf=>(p.ms.getD f.1.toNat 0,f.2.2 - f.2.1)):=by
 have hos:seg (p.od 0) x y=rks p.ms (seg p.ns x y):=by rw[show p.od 0=rks p.ms p.ns from rfl,iR]
 have f1:∀z:Int,z / 2^(p.h - p.h)=z:=λz=>by rw[abA,acM,acl]
 have hmem:∀u∈seg p.ns x y,u∈p.ms:=λu hu=>(sq.kd.mem u).mpr (gh hu);have key:∀f∈fs,∃s∈seg p.ns x y,f.1=(p.ms.idxOf s:Int)/\p.ms.getD f.1.toNat 0=s/\f.2.2 - f.2.1=bA (seg p.ns x y) s:=λf hf=>by
  obtain⟨h1,h2⟩:=h.le f hf;have hs:=h.sg f hf;simp only[f1]at hs;have hl:=congrArg abC hs;rw[cP (by rw[rz];exact h2)]at hl;obtain⟨u,hu⟩:=acw (show 0<((seg (p.od 0) x y).filter λz=>z=f.1).length by lia);obtain⟨hu1,hu2⟩:=aaY.mp hu;have hu2:u=f.1:=of_decide_eq_true hu2;rw[hos]at hu1 hl;unfold rks at hu1;obtain⟨s,hs1,rfl⟩:=aaE.mp hu1;have hlt:=aaF (hmem s hs1);refine⟨s,hs1,hu2.symm,?_,?_⟩
  ·rw[<-hu2,aaD,xq hlt]
  ·rw[hl,<-hu2];exact gw (hmem s hs1) hmem
 refine⟨λf hf=>?_,?_,λs=>?_,λg hg=>?_⟩
 ·obtain⟨s,hs,e,_⟩:=key f hf;exact⟨_,e,aaF (hmem s hs)⟩
 ·rw[acK];refine acS.mpr ?_;have hup:=acS.mp h.up;refine hup.imp_of_mem λ{f g} hf hg hlt=>?_;obtain⟨s,hs,e1,e2,_⟩:=key f hf;obtain⟨s',hs',e1',e2',_⟩:=key g hg;show p.ms.getD f.1.toNat 0<p.ms.getD g.1.toNat 0;rw[e2,e2'];have h1:=aaF (hmem s hs);have h2:=aaF (hmem s' hs');have:=aaB.mp sq.kd.up _ _ h1 h2 (by lia);rw[aa2 h1,aa2 h2]at this;exact this
 ·constructor
  ·intro hs;obtain⟨g,hg,rfl⟩:=aaE.mp hs;obtain⟨f,hf,rfl⟩:=aaE.mp hg;obtain⟨s,hs,_,e2,_⟩:=key f hf;show p.ms.getD f.1.toNat 0∈_;rw[e2];exact hs
  ·intro hs;obtain⟨f,hf,e⟩:=h.all (p.ms.idxOf s:Int) (by rw[hos];unfold rks;exact abQ (f:=λz=>(p.ms.idxOf z:Int)) hs);rw[f1]at e;refine aaE.mpr ⟨_,abQ hf,?_⟩;show p.ms.getD f.1.toNat 0=s;have hlt:=aaF (hmem s hs);rw[e,aaD,xq hlt]
 ·obtain⟨f,hf,rfl⟩:=aaE.mp hg;obtain⟨s,hs,_,e2,e3⟩:=key f hf;show f.2.2 - f.2.1=bA _ (p.ms.getD f.1.toNat 0);rw[e2];exact e3
inductive Ag(Ph:Addr)(C:Addr)(vs:List V)(H:Hp)(Q:VK)(E:XK):Prop
 | mk (p:SG) (ss:List Int) (s0 e0:Int) (_:vs=[.ref p.t,.ref p.g,.int s0,.int e0]) (_:SQ H Ph p ss) (_:ss.length<=600000) (_:((∃x y:Nat,s0=(x:Int)/\e0=(y:Int)/\x<=y/\y<=p.ns.length /\ ∀r us ps ss' k U H',H r=none->H' r=some (.lst us)->Rows H' us ps->Told (seg p.ns x y) ps->bY H H' Ph p k U ss ss'->k<=200000->U.length<=2*p.h*ps.length->Q (.ref r) H')\/(¬(0<=s0/\s0<=e0/\e0<=(p.ns.length:Int))/\E (.ref C) none H)))
theorem BX(T:Tx K mg a)(B:Bs mg base a):bh P w K mg base (My P w) 9 a.Xx a.Xy ["tables","look","start","stop"] (Ag a.Le a.Ln):=by
 refine T.YL.F.ok1 kW (λvs H Q E h=>?_) (λcdv A outer s H vs Q E hr h=>?_)
 ·obtain⟨p,ss,s0,e0,rfl,_⟩:=h;rfl
 obtain⟨p,ss,s0,e0,rfl,sq,hss,h⟩:=h;refine⟨_,(ak (bH (aL T.RC (fc T) (by decide) hr iK rfl (aa (aM aJ (pv 0) aj (λ_ _=>rfl)) (aa (pv 2) (aa (pv 3) ao)))))
  (ak (aC (i:=4) kW.nd rfl (aai rfl) (aL T.TV (tK T) (by decide) hr aR rfl (aa (bR (aa (bU (aa aj (aa (bU (aa (pv 2) (aa (pv 3) ao))) ao))) ao)) ao)))
  (ak (b8 pJ rfl (bV (aL T.Pu (di T B) (by decide) hr aR rfl (aa (pv 0) (aa (pv 1) ao)))) (aX (i:=5) kW.nd rfl (aai rfl)) (az (aC (i:=4) kW.nd rfl (aai rfl) (aL T.YM (wz T) (by decide) hr aR rfl (aa (pv 5) (aa (pv 4) ao))))))
  (az (aG (Fd rfl ⟨(bM.one (j:=0) rfl (aai rfl) rfl rfl (aai rfl)),rfl,by decide⟩ (bV (pv 4)) (λ_ _ _ _=>(bU (aa (aM (show LC _ (pI K)from aJ) (aM (show LC _ (pI K)from aJ) (pv 2) aj (λ_ _=>rfl)) (pv 0) (λ_ _=>rfl)) (aa (aL T.OJ (cJ T) (by decide) hr aR rfl (aa (pv 1) ao)) ao)))))))))),?_⟩
 rcases h with ⟨x,y,rfl,rfl,hxy,hy,q⟩|⟨hb,he⟩
 rotate_left
 ·exact⟨_,rfl,p.t,_,_,_,rfl,rfl,K6.of sq.t,rfl,_,rfl,_,rfl,_,_,_,rfl,.inr ⟨hb,he⟩⟩
 refine⟨_,rfl,p.t,_,_,_,rfl,rfl,K6.of sq.t,rfl,_,rfl,_,rfl,_,_,_,rfl,.inl ⟨by lia,by lia,by lia,?_⟩⟩;refine⟨_,rfl,_,rfl,(by show 2<=sizeLine;decide),λst hst=>?_⟩;have t1:=au hst (.tup [.int (x:Int),.int (y:Int)]);refine⟨(by show 2<=sizeLine;decide),λtp htp=>?_⟩;have t2:=au htp (.tup [.int 0,.ref st]);refine⟨(by show 1<=sizeLine;decide),λl0 hl0=>?_⟩;have t3:=au hl0 (.lst [.ref tp]);have h0:Lx (upd (upd (upd H st (.tup [.int (x:Int),.int (y:Int)])) tp (.tup [.int 0,.ref st])) l0 (.lst [.ref tp])) [.ref tp] [(0,x,y)]:=Lx.snoc (Lx.nil _) ⟨tp,st,rfl,t3 _ _ aq,t3 _ _ (t2 _ _ aq)⟩;have Uh:=t1.trans (t2.trans t3);have xl0:upd (upd (upd H st (.tup [.int (x:Int),.int (y:Int)])) tp (.tup [.int 0,.ref st])) l0 (.lst [.ref tp]) l0=some (.lst [.ref tp]):=aq;generalize upd (upd (upd H st (.tup [.int (x:Int),.int (y:Int)])) tp (.tup [.int 0,.ref st])) l0 (.lst [.ref tp])=H1 at *;refine⟨l0,_,_,rfl,xl0,h0,(by show 1<100000;decide),λf0 us0 H2 Zd Lk Ze hp0=>?_⟩;have s2:=Uh.trans Lk;have LQ:=sq.same s2;have Zf:f0≠p.sn:=(aB (Uh _ _ sq.sn) Zd).symm;have g0:Good p (seg (p.od 0) x y) 0 ([(0,x,y)].filter full):=by
  have hz0:∀z∈seg (p.od 0) x y,z / 2^(p.h - 0)=0:=λz hz=>by
   rw[abw];exact jC sq z (gh hz)
  refine⟨λf hf=>?_,λf hf=>?_,?_,λz hz=>?_⟩
  ·obtain⟨h1,h2⟩:=aaY.mp hf;rw[aal.mp h1]at h2 ⊢;exact⟨of_decide_eq_true h2,hy⟩
  ·obtain⟨h1,h2⟩:=aaY.mp hf;rw[aal.mp h1];exact(abS.mpr λz hz=>decide_eq_true (hz0 z hz)).symm
  ·refine ade (ad1 _ adv) ?_;exact List.pairwise_singleton _ _
  ·refine⟨(0,x,y),aaY.mpr ⟨aal.mpr rfl,decide_eq_true ?_⟩,(hz0 z hz).symm⟩;have:=abZ hz;rw[cP (by rw[rz];exact hy)]at this;show x<y;lia
 have hfl0:([(0,x,y)].filter full:List RS).length<=2^0:=by
  refine aaS (abx _ _) ?_;exact aad _
 have h12:=sq.h12;refine⟨_,rfl,_,rfl,p,ss,rfl,LQ,λlr lv H3 NQ xr Lq hL d3=>⟨lr,rfl,⟨_,K5.of xr⟩,?_⟩⟩;have Ms:=LQ.did d3 sq.few;have nl:lr≠p.sn:=(aB LQ.sn NQ).symm;have Oi:=TabAt.ne Ms.tab xr nofun;have nfP:=TabAt.ne LQ.tab Ze nofun;have pw:∀i,i<=p.h->2^i<=4096:=λi hi=>by
  have:=Nat.pow_le_pow_right (n:=2) (by decide) (show i<=12 by lia);exact this
 refine cQ (xs:=lv.map V.ref) (λi σ H'=>∃(f:Addr) (k5:Option V) (us:List V) (fs:List RS) (k:Nat) (U ss':List Int),σ=[some (.ref p.t),some (.ref p.g),some (.int (x:Int)),some (.int (y:Int)),some (.ref f),k5]/\H f=none/\f≠p.sn/\H' f=some (.lst us)/\Lx H' us fs/\Good p (seg (p.od 0) x y) i fs/\fs.length<=2^i/\bY H3 H' a.Le p k U ss ss'/\k<=16384*i/\U.length<=2*i*fs.length) ⟨f0,none,us0,_,0,[],ss,rfl,Uh.free Zd,Zf,d3.kp _ _ Ze nfP Zf,hp0.to λb xs e=>LQ.kp d3 _ _ e nofun nofun,g0,hfl0,Ms.self,aaq _,aaq _⟩ ?_ ?_ ?_
 ·rintro i σ H' _ ⟨_,_,_,_,_,_,_,_,_,_,_,_,_,_,d,_⟩;exact K5.of (d.kp _ _ xr Oi nl)
 ·rintro i w0 σ H' hw ⟨f,k5,us,fs,k,U,ss',rfl,hfH,nf,xf,hp,g,hfl,d,hk,hU⟩;rw[aag]at hw;obtain⟨l,hl,rfl⟩:=aaJ.mp hw;have hil:=(aab.mp hl).1;rw[Lq]at hil;have Nb:=d.wr.len;have M6:=Ms.did d (by lia);have L4:=(hL i l hl).kept (Ms.kp d);have Ue:=pw i (by lia);refine⟨_,rfl,_,rfl,p,ss',i,l,f,us,fs,rfl,M6,by lia,L4,hil,xf,nf,hp,by lia,λg' hg'=>⟨aba (g.le g' hg').1,(g.le g' hg').2⟩,λr' us' LR H5 Zg x5 hp5 d5=>?_⟩;have hmore:=tM p i g.le;refine⟨r',_,us',_,k+4*fs.length,U++fs.flatMap (λf=>jD p i f.2.1 f.2.2),LR,rfl,s2.free (d3.free (d.free Zg)),(aB M6.sn Zg).symm,x5,hp5,g.next hil,?_,d.trans d5,by lia,?_⟩
  ·refine aaS (abx _ _) ?_;rw[m7,adM];lia
  ·rw[aae];have e2:∀gs:List RS,(gs.flatMap λf=>jD p i f.2.1 f.2.2).length=2*gs.length:=λgs=>by
    induction gs with
    | nil=>rfl
    | cons a r ih =>
     rw[ace,aae,ih,aan];show 2+_=_;lia
   rw[e2];have h3:=Nat.mul_le_mul_left (2*(i+1)) hmore;have h4:2*(i+1)*fs.length=2*i*fs.length+2*fs.length:=by
    rw[Nat.mul_add,Nat.add_mul]
   lia
 ·rintro σ H' ⟨f,k5,us,fs,k,U,ss',rfl,hfH,nf,xf,hp,g,hfl,d,hk,hU⟩;rw[aaa,Lq]at g hfl hk hU;have Nb:=d.wr.len;have M6:=Ms.did d (by lia);obtain⟨hrk,told⟩:=g.told sq;have Ue:=pw p.h (aad _);refine⟨_,rfl,f,rfl,⟨_,K5.of xf⟩,?_⟩;refine Az (xs:=us) (λD i ys X=>H' D=none/\aV H' X/\X D=some (.lst ys)/\ys.length<=i/\Rows X ys ((fs.take i).map λf=>(p.ms.getD f.1.toNat 0,f.2.2 - f.2.1))) (by rw[sizeLine_eq,hp.1];lia) (λD hD=>⟨hD,au hD _,aq,aad _,Rows.nil _⟩) (λD i ys X h=>⟨K5.of (h.2.1 _ _ xf),h.2.2.2.1⟩) (λD i v ys X hv hP=>?_) (λD ys X hD hP=>?_)
  ·obtain⟨hD,sm,xD,hyl,hys⟩:=hP;have hi:=(aab.mp hv).1;rw[hp.1]at hi;have hg:=aac hi;have hfm:=aaP hi;obtain⟨pp,stp,rfl,h1,h2⟩:=(hp.2 i v fs[i] hv hg).to (tL sm);obtain⟨k0,ek,hk0⟩:=hrk _ hfm;have hlt:=(g.le _ hfm).1;refine⟨pp,.int fs[i].1,.ref stp,rfl,K6.of h1,λQe ke=>?_⟩;have NK:fs.take (i+1)=fs.take i++[fs[i]]:=by rw[aci,hg];rfl
   have hat:Lj (p.ms.map V.int) fs[i].1=some (.int (p.ms.getD fs[i].1.toNat 0)):=by
    rw[ek,aaD,aaH,aac hk0];exact cM (aac hk0)
   have Zh:=M6.same sm;refine⟨_,rfl,p.t,_,_,_,rfl,rfl,K6.of Zh.t,rfl,_,rfl,p.k,_,_,_,rfl,rfl,K6.of Zh.k,hat,_,rfl,stp,_,_,rfl,h2,(by show 2<=sizeLine;decide),λqa hqa=>?_⟩;have t5:=au hqa (.tup [.int (p.ms.getD fs[i].1.toNat 0),.int ((fs[i].2.2:Int) - (fs[i].2.1:Int))]);refine ke _ _ (t5 _ _ xD) ⟨hD,cR (sm.trans t5) hD _,aq,by rw[aae,aa5];lia,?_⟩;rw[NK,aam];refine Rows.snoc (hys.to λb xs e=>dI (t5 _ _ xD) _ _ (t5 _ _ e)) ⟨qa,rfl,dI (t5 _ _ xD) _ _ ?_⟩;rw[aq];show some (HO.tup [.int (p.ms.getD fs[i].1.toNat 0),.int ((fs[i].2.2:Int) - (fs[i].2.1:Int))])=some (HO.tup [.int (p.ms.getD fs[i].1.toNat 0),.int ((fs[i].2.2 - fs[i].2.1:Nat):Int)]);rw[show ((fs[i].2.2 - fs[i].2.1:Nat):Int)=(fs[i].2.2:Int) - (fs[i].2.1:Int) by lia]
  ·obtain⟨hD,sm,xD,hyl,hys⟩:=hP;rw[hp.1,aav (aad _)]at hys;refine q D ys _ ss' k U X (s2.free (d3.free (d.free hD))) xD hys told ?_ (by lia) (by rw[aaa];exact hU);refine((((sq.self).same s2).trans (d3.trans d)).same sm).le (by lia) λz hz=>by simpa using hz
inductive uC(vs:List V)(H:Hp)(Q:VK)(E:XK):Prop
 | mk (t:Addr) (L:LK) (ah:Addr) (ns ss:List Int) (rest:List V) (nth:Int) (_:vs=[.ref t,.ref L.f,.int nth]) (_:Ask H t L ah ns ss rest) (_:ss.length<1000000) (_:0<=nth) (_:nth<ns.sum) (_:∀(H':Hp) (p:Nat) (ss':List Int),ns[p]?=some 1->(ns.take p).sum=nth->Lw L.all.length 1 [((L.off+p / 32:Nat):Int)] ss ss'->aV (L.put H ss') H'->Q (.int (p:Int)) H')
theorem uU(T:Tx K mg a):bh P w K mg base K9 4 a.Wr a.Ws ["tables","look","nth"] uC:=by
 refine T.Yu.F.ok jg (λvs H Q E h=>?_) (λcdv A outer s H vs Q E hr h=>?_)
 ·obtain⟨t,L,ah,ns,ss,rest,nth,rfl,_⟩:=h;rfl
 obtain⟨t,L,ah,ns,ss,rest,nth,rfl,R,hls,p0,p1,q⟩:=h;have ht:=R.tab.tup;have Mq:=R.tab.Px;have hb:=R.bits;have hl:=R.len;have hM:many ns.length<=128:=by
  unfold many;lia
 have hall:ns.take (32*many ns.length)=ns:=aav (by unfold many;lia);have hla:Lj ((Lr ns (many ns.length)).map V.int) (-1)=some (.int ns.sum):=by
  rw[xJ,aam,hall];exact my _ _
 refine⟨_,(ak (aC (i:=3) jg.nd rfl (aai rfl) (aM aJ (pv 0) aj (λ_ _=>rfl)))
  (ak (bH (aL T.QM (gj T) (by decide) hr zH rfl (aa (pv 2) (aa (aM aJ (pv 3) (oZ jO aj) (λ_ _=>rfl)) ao))))
  (ak (aC (i:=4) jg.nd rfl (aai rfl) (aL T.RD (dM T) (by decide) hr aR rfl (aa (pv 3) (aa (pv 2) ao))))
  (az (aG (aA bG (aA bT (dm (v:=.int 32) rfl T.NB ⟨_,rfl⟩) (pv 4)) (aL T.Tt (ut T) (by decide) hr aR rfl (aa (jy ((dq T).mono (by decide)) hr (i:=1) rfl (aa (pv 4) ao)) (aa (aA bu (pv 2) (aM aJ (pv 3) (pv 4) (λ_ _=>rfl))) ao))))))))),?_⟩
 refine⟨_,rfl,t,_,_,_,rfl,rfl,K6.of ht,uN _ _ _ R.tab.few,?_⟩;refine⟨_,rfl,_,rfl,_,rfl,ah,_,_,_,rfl,rfl,K6.of Mq,hla,_,_,rfl,.inl ⟨p0,p1,?_⟩⟩;refine⟨_,rfl,_,rfl,ah,_,_,rfl,.inr (K6.of Mq),(by rw[fH];lia),(by rw[fH];lia),λlo hlo c1 c2=>?_⟩;rw[fH]at hlo c2;have hlo2:lo<many ns.length:=by
  rcases c2 with c2|⟨x,e,_⟩
  ·have e:lo=many ns.length:=by lia
   rcases c1 with c1|⟨x,e2,c1⟩
   ·have e3:many ns.length=0:=by lia
    have:ns.sum=0:=by
     rw[<-hall,e3];rfl
    lia
   ·rw[kI (by lia)]at e2;cases e2;rw[e,hall]at c1;lia
  ·have:=(aab.mp e).1;rw[fH]at this;lia
 have d1:(ns.take (32*lo)).sum<=nth:=by
  rcases c1 with c1|⟨x,e2,c1⟩
  ·subst c1;exact p0
  ·rw[kI (by lia)]at e2;cases e2;exact c1
 have d2:nth<(ns.take (32*lo+32)).sum:=by
  rcases c2 with c2|⟨x,e2,c2⟩
  ·lia
  ·rw[kI (by lia)]at e2;cases e2;exact c2
 have hat:Lj ((Lr ns (many ns.length)).map V.int) (lo:Int)=some (.int (ns.take (32*lo)).sum):=cM (kI (by lia));have sb:=gr hb lo 32 (by lia);obtain⟨k0,hk0,hk1,hk2⟩:=yM (dG ns lo) (nth - (ns.take (32*lo)).sum) (by lia) 32 (by lia);obtain⟨o,fd,e1,g1⟩:=R.asks.look.fn;refine⟨_,rfl,_,_,rfl,rfl,.inl ⟨by decide,by decide⟩,L.f,o,fd,rfl,e1,g1,_,rfl,e1,L,ss,lo,_,rfl,rfl,R.asks,hls,R.blk _ (by first|exact hm|lia),?_⟩;refine⟨_,rfl,_,rfl,_,rfl,ah,_,_,_,rfl,rfl,K6.of (R.asks.putT Mq),hat,_,_,rfl,rfl,?_⟩;refine⟨_,_,rfl,λH' sm k hk b1 o1=>?_,λH' sm no=>absurd ⟨hk1,hk2⟩ (no k0 hk0)⟩;refine⟨_,_,rfl,rfl,?_⟩;have b1:bit (dG ns lo) k=1:=b1;have o1:ones (dG ns lo) k=nth - (ns.take (32*lo)).sum:=o1;have hp:ns[32*lo+k]?=some 1:=by
  have:=bit_at hb lo k hk;rw[b1]at this;cases e:ns[32*lo+k]? with
  | none=>rw[e]at this;cases this
  | some x =>
   rw[e]at this;have this:1=x:=this;rw[this]
 have hs:(ns.take (32*lo+k)).sum=nth:=by
  have:=gr hb lo k (by lia);lia
 have:=q H' (32*lo+k) _ hp hs (by rw[show (32*lo+k) / 32=lo by lia];exact R.wr hlo2) sm;rw[show ((32*lo+k:Nat):Int)=32*(lo:Int)+(k:Int)from by lia]at this;exact this
inductive pF(vs:List V)(H:Hp)(Q:VK)(E:XK):Prop
 | mk (t:Addr) (L:LK) (ah:Addr) (ns ss:List Int) (rest:List V) (nth:Int) (_:vs=[.ref t,.ref L.f,.int nth]) (_:Ask H t L ah ns ss rest) (_:ss.length<1000000) (_:0<=nth) (_:nth<ns.length - ns.sum) (_:∀(H':Hp) (p:Nat) (ss':List Int),ns[p]?=some 0->(p:Int) - (ns.take p).sum=nth->Lw L.all.length 1 [((L.off+p / 32:Nat):Int)] ss ss'->aV (L.put H ss') H'->Q (.int (p:Int)) H')
theorem pH(T:Tx K mg a):bh P w K mg base K9 4 a.Wt a.Wu ["tables","look","nth"] pF:=by
 refine T.Yv.F.ok cj (λvs H Q E h=>?_) (λcdv A outer s H vs Q E hr h=>?_)
 ·obtain⟨t,L,ah,ns,ss,rest,nth,rfl,_⟩:=h;rfl
 obtain⟨t,L,ah,ns,ss,rest,nth,rfl,R,hls,p0,p1,q⟩:=h;have ht:=R.tab.tup;have Mq:=R.tab.Px;have hb:=R.bits;have hl:=R.len;have hM:many ns.length<=128:=by
  unfold many;lia
 have hall:ns.take (32*many ns.length)=ns:=aav (by unfold many;lia);have en:(ns.map V.int).length=ns.length:=aaa ..;have hla:Lj ((Lr ns (many ns.length)).map V.int) (-1)=some (.int ns.sum):=by
  rw[xJ,aam,hall];exact my _ _
 refine⟨_,(ak (aC (i:=3) cj.nd rfl (aai rfl) (aM aJ (pv 0) aj (λ_ _=>rfl)))
  (ak (aC (i:=4) cj.nd rfl (acJ rfl) (aM aJ (pv 0) aj (λ_ _=>rfl)))
  (ak (bH (aL T.QM (gj T) (by decide) hr zH rfl (aa (pv 2) (aa (aA bu (pv 3) (aM aJ (pv 4) (oZ jO aj) (λ_ _=>rfl))) ao))))
  (ak (qL (i:=5) cj.nd rfl rfl rfl (bM.one (j:=4) rfl (aai rfl) rfl rfl (aai rfl)) (fB rfl T.Og (aa (aA bu (aN aF rfl T.Lg Tw.bc (aa (pv 4) ao)) aj) ao)) (λ_ _ _ _=>jc) (λ_ _ _ _=>(aA bu (aA bT (dm (v:=.int 32) rfl T.NB ⟨_,rfl⟩) (pv 0)) (aM (show LC _ (pI K)from aJ) (pv 1) (pv 0) (λ_ _=>rfl)))))
  (ak (aC (i:=6) cj.nd rfl (aai rfl) (aL T.RD (dM T) (by decide) hr aR rfl (aa (pv 5) (aa (pv 2) ao))))
  (ak (aC (i:=7) cj.nd rfl (aai rfl) (aA bu (aA bu (aA jo aj aj) aj) (jy ((dq T).mono (by decide)) hr (i:=1) rfl (aa (pv 6) ao))))
  (az (aG (aA bG (aA bT (dm (v:=.int 32) rfl T.NB ⟨_,rfl⟩) (pv 6)) (aL T.Tt (ut T) (by decide) hr aR rfl (aa (pv 7) (aa (aA bu (pv 2) (aM cD (pv 5) (pv 6) (λ_ _=>rfl))) ao)))))))))))),?_⟩
 refine⟨_,rfl,t,_,_,_,rfl,rfl,K6.of ht,vy _ _ _ R.tab.few,?_⟩;refine⟨_,rfl,t,_,_,_,rfl,rfl,K6.of ht,uN _ _ _ R.tab.few,?_⟩;refine⟨_,rfl,_,rfl,_,rfl,_,rfl,ah,_,_,_,rfl,rfl,K6.of Mq,hla,_,_,rfl,rfl,_,_,rfl,.inl ⟨p0,p1,?_⟩⟩;have hsum:0<=ns.sum:=by
  have:=xH hb 0 ns.length (by lia);rw[abf]at this;exact this
 have hMp:0<many ns.length:=by
  unfold many;lia
 refine⟨_,rfl,ah,_,rfl,.inr (K6.of Mq),_,_,rfl,rfl,(many ns.length:Int),?_,by lia,by lia,?_⟩
 ·refine congrArg (λx=>[V.int x]) ?_;rw[aaa,fH];lia
 intro D hD;refine⟨λi m ys H'=>m=many ns.length - i/\i<=many ns.length/\ys=(nz ns i).map V.int/\H'=upd H D (.lst ys),⟨_,rfl,aaq _,rfl,rfl⟩,?_⟩;rintro i m ys H' ⟨rfl,hi,rfl,rfl⟩;by_cases hlt:i<many ns.length
 ·refine .inr ⟨hlt,λv H4' y=>?_⟩;obtain⟨rfl,rfl⟩:=y;unfold vQ;refine dz ?_;have hatA:Lj ((Lr ns (many ns.length)).map V.int) (0+(i:Int))=some (.int (ns.take (32*i)).sum):=by
   rw[adf];exact cM (kI (by lia))
  refine⟨_,rfl,_,_,rfl,rfl,.inl ⟨by decide,by decide⟩,_,rfl,_,rfl,ah,_,_,_,rfl,rfl,K6.of (au hD _ _ _ Mq),hatA,_,_,rfl,rfl,aq,?_,many ns.length - (i+1),by lia,rfl,hlt,?_,?_⟩
  ·rw[aaa,iG,sizeLine_eq];lia
  ·rw[Fy,aam,adf];rfl
  ·rw[mR]
 have e:i=many ns.length:=by lia
 subst e;refine .inl ⟨aad _,?_⟩;have Zi:=au hD (.lst ((nz ns (many ns.length)).map V.int));have xD:upd H D (.lst ((nz ns (many ns.length)).map V.int)) D=some (.lst ((nz ns (many ns.length)).map V.int)):=aq;have R':=R.same Zi;generalize upd H D (.lst ((nz ns (many ns.length)).map V.int))=H0 at *;refine⟨_,rfl,_,rfl,D,nz ns (many ns.length),_,rfl,.inl (K5.of xD),(by rw[iG];lia),(by rw[iG];lia),λlo hlo c1 c2=>?_⟩;rw[iG]at hlo c2;have d1:32*(lo:Int) - (ns.take (32*lo)).sum<=nth:=by
  rcases c1 with c1|⟨x,e2,c1⟩
  ·subst c1;have:(ns.take (32*0)).sum=0:=rfl;lia
  ·rw[yr hlo]at e2;cases e2;exact c1
 have hw:32*lo<ns.length:=by
  unfold many at hlo;lia
 obtain⟨wd,hw1,hw2,hw3⟩:∃wd:Nat,wd<=32/\32*lo+wd<=ns.length/\nth<((32*lo+wd:Nat):Int) - (ns.take (32*lo+wd)).sum:=by
  rcases c2 with c2|⟨x,e2,c2⟩
  ·refine⟨ns.length - 32*lo,by unfold many at c2;lia,by lia,?_⟩;rw[show 32*lo+(ns.length - 32*lo)=ns.length from by lia,abf];exact p1
  ·have hx:=(aab.mp e2).1;rw[iG]at hx;rw[yr hx]at e2;cases e2;refine⟨32,by lia,by unfold many at hx;lia,?_⟩;have e3:32*(lo+1)=32*lo+32:=by lia
   rw[e3]at c2;lia
 have hsb:=qz hb lo;have b0:0<=dG ns lo:=qN hsb;have b32:dG ns lo<2^32:=by
  have h3:=Ea hsb;have h4:(2:Int)^((ns.drop (32*lo)).take 32).length<=2^32:=Ab _ _ (by rw[aaC];lia);exact Int.lt_of_lt_of_le h3 h4
 obtain⟨tb,to⟩:=turned b0 b32;have sbw:=gr hb lo wd hw1;obtain⟨k0,hk0,hk1,hk2⟩:=yM (2^32 - 1 - dG ns lo) (nth - (32*(lo:Int) - (ns.take (32*lo)).sum)) (by lia) wd (by rw[to wd hw1];lia);obtain⟨o,fd,e1,gg1⟩:=R'.asks.look.fn;have nD:L.wr≠some D:=λz=>by rw[(R.asks.seen D z).1]at hD;cases hD
 refine⟨_,_,rfl,rfl,⟨by decide,by decide,by decide⟩,_,_,rfl,rfl,L.f,o,fd,rfl,e1,gg1,_,rfl,e1,L,ss,lo,_,rfl,rfl,R'.asks,hls,R'.blk _ (by first|exact hm|lia),_,_,rfl,rfl,?_⟩;have hat:Lj ((nz ns (many ns.length)).map V.int) (lo:Int)=some (.int (32*(lo:Int) - (ns.take (32*lo)).sum)):=cM (yr hlo);refine⟨_,rfl,_,_,rfl,rfl,.inl ⟨by decide,by decide⟩,_,rfl,_,rfl,_,rfl,_,rfl,D,_,_,_,rfl,rfl,K5.of (by rw[LK.put_ne nD];exact xD),hat,_,_,rfl,rfl,?_⟩;refine⟨_,_,rfl,λH' sm k hk b1 o1=>?_,λH' sm no=>absurd ⟨hk1,hk2⟩ (no k0 (by lia))⟩;refine⟨_,_,rfl,rfl,?_⟩;have b1:bit (2^32 - 1 - dG ns lo) k=1:=b1;have o1:ones (2^32 - 1 - dG ns lo) k=nth - (32*(lo:Int) - (ns.take (32*lo)).sum):=o1;have ek:k=k0:=Bd b1 hk1 (by lia);have hk9:k<wd:=by lia
 have bz:=tb k hk;have oz:=to k (by lia);have hp:ns[32*lo+k]?=some 0:=by
  have h5:=bit_at hb lo k hk;have h6:ns[32*lo+k]?=some ns[32*lo+k]:=aac (by lia);rw[h6]at h5 ⊢;have h5:bit (dG ns lo) k=ns[32*lo+k]:=h5;exact congrArg some (by lia)
 have hs:((32*lo+k:Nat):Int) - (ns.take (32*lo+k)).sum=nth:=by
  have:=gr hb lo k (by lia);lia
 have sU:aV (L.put H (ss++[((L.off+lo:Nat):Int)])) (L.put H0 (ss++[((L.off+lo:Nat):Int)])):=LK.put_same Zi;have:=q H' (32*lo+k) _ hp hs (by rw[show (32*lo+k) / 32=lo by lia];exact R.wr hlo) (sU.trans sm);rw[show ((32*lo+k:Nat):Int)=32*(lo:Int)+(k:Int)from by lia]at this;exact this
inductive qu(Ph:Addr)(vs:List V)(H:Hp)(Q:VK)(E:XK):Prop
 | mk (p:SG) (ss:List Int) (i:Nat) (l:Addr) (b:Nat) (c:Int) (_:vs=[.ref l,.int (b:Int),.int c]) (_:SQ H Ph p ss) (_:ss.length<900000) (_:Lv H p i l) (_:i<p.h) (_:(c=0\/c=1)) (_:nxt p i c 0<=b) (_:b<nxt p i c p.ns.length) (_:∀(x:Nat) ss' H',x<p.ns.length->nxt p i c x=b->(∃z,(p.od i)[x]?=some z/\bit z (p.h - 1 - i)=c)->bY H H' Ph p 1 [((i*many p.ns.length+x / 32:Nat):Int)] ss ss'->Q (.int (x:Int)) H')
theorem rA(T:Tx K mg a):bh P w K mg base K9 5 a.W3 a.W4 ["level","at","bit"] (qu a.Le):=by
 refine T.YD.F.ok gJ (λvs H Q E h=>?_) (λcdv A outer s H vs Q E hr h=>?_)
 ·obtain⟨p,ss,i,l,b,c,rfl,_⟩:=h;rfl
 obtain⟨p,ss,i,l,b,c,rfl,sq,hss,hL,hi,hc,hb0,hb1,q⟩:=h;refine⟨_,(ak (aC (i:=3) gJ.nd rfl (aai rfl) (aM aJ (pv 0) aj (λ_ _=>rfl)))
  (ak (aC (i:=4) gJ.nd rfl (aai rfl) (aM aJ (pv 0) aj (λ_ _=>rfl)))
  (ak (aW (aH bD (pv 2) aj (aO _)) (az (aG (aL T.Yv (pH T) (by decide) hr aR rfl (aa (pv 3) (aa (pv 4) (aa (pv 1) ao)))))) aP)
  (az (aG (aL T.Yu (uU T) (by decide) hr aR rfl (aa (pv 3) (aa (pv 4) (aa (aA bu (pv 1) (aL T.Tv (jw T) (by decide) hr aR rfl (aa (pv 3) ao))) ao))))))))),?_⟩
 obtain⟨La,ah,f,bs,hbs,hl2,hA⟩:=hL.ask sq;have QX:=(p.lv_mem (aah hbs)).2;have e0:=km (x:=0) hi hbs (aaq _) hc;have e1:=km (x:=p.ns.length) hi hbs (aad _) hc;have ebs:bs=(p.od i).map λz=>bit z (p.h - 1 - i):=by
  have:=p.lv_at hi;rw[hbs]at this;exact aax this
 have hz:∀{x:Nat},bs[x]?=some c -> ∃z,(p.od i)[x]?=some z/\bit z (p.h - 1 - i)=c:=λ{x} e=>by
  rw[ebs,aag]at e;obtain⟨z,h1,h2⟩:=aaJ.mp e;exact⟨z,h1,h2⟩
 have hdid:∀{x:Nat}{ss':List Int}{H':Hp},Lw p.all.length 1 [((i*many p.ns.length+x / 32:Nat):Int)] ss ss'->aV ((⟨f,some p.sn,p.bl,i*many p.ns.length,p.all⟩:LK).put H ss') H'->bY H H' a.Le p 1 [((i*many p.ns.length+x / 32:Nat):Int)] ss ss':=λw s=>sq.look rfl rfl w s;refine⟨_,rfl,l,_,_,_,rfl,rfl,K6.of hl2,rfl,_,rfl,l,_,_,_,rfl,rfl,K6.of hl2,rfl,?_⟩;unfold Py at e0 e1;rw[List.take_zero]at e0;rw[show bs.take p.ns.length=bs from aav (by lia)]at e1;have hs0:([]:List Int).sum=0:=rfl;refine⟨_,rfl,rfl,_,rfl,bJ (λd=>?_) λd=>?_⟩
 ·have d:V.int c=V.int 0:=of_decide_eq_true d;injection d with d
  subst d;rw[if_pos rfl]at e0 e1;refine⟨_,rfl,_,rfl,_,rfl,La,⟨f,some p.sn,p.bl,i*many p.ns.length,p.all⟩,ah,bs,ss,[],(b:Int),rfl,hA,by lia,by lia,by lia,λH' x ss' hx hsum hw hsm=>?_⟩;have Ow:=(aab.mp hx).1;have en:=km (x:=x) hi hbs (by lia) (.inl (rfl:(0:Int)=0));unfold Py at en;rw[if_pos rfl]at en;exact q x ss' H' (by lia) (by lia) (hz hx) (hdid hw hsm)
 ·have d:c=1:=by
   rcases hc with h|h
   ·exact absurd (decide_eq_true (congrArg V.int h)) d
   ·exact h
  subst d;rw[if_neg (by decide)]at e0 e1;refine⟨_,rfl,_,rfl,_,rfl,_,rfl,La,ah,bs,rfl,hA.tab,_,_,rfl,rfl,La,⟨f,some p.sn,p.bl,i*many p.ns.length,p.all⟩,ah,bs,ss,[],(b:Int) - ((bs.length:Int) - bs.sum),rfl,hA,by lia,by lia,by lia,λH' x ss' hx hsum hw hsm=>?_⟩;have Ow:=(aab.mp hx).1;have en:=km (x:=x) hi hbs (by lia) (.inr (rfl:(1:Int)=1));unfold Py at en;rw[if_neg (by decide)]at en;exact q x ss' H' (by lia) (by lia) (hz hx) (hdid hw hsm)
theorem G6{p:SG}{i x:Nat}{c z:Int}(h:(p.od i)[x]?=some z)(hb:bit z (p.h - 1 - i)=c):nxt p i c (x+1)=nxt p i c x+1:=by
 unfold nxt pos cnt;have h':(ord p.h (rks p.ms p.ns) i)[x]?=some z:=h;rw[aci,h',aaI,aae];have e:((some z).toList.filter λz=>bit z (p.h - 1 - i)=c).length=1:=by
  show ([z].filter λz=>bit z (p.h - 1 - i)=c).length=1;rw[aau,if_pos (decide_eq_true hb)];rfl
 rw[e];lia
theorem Ia{p:SG}{i x:Nat}{z:Int}(h:(p.od i)[x]?=some z):(p.od (i+1))[nxt p i (bit z (p.h - 1 - i)) x]?=some z:=Dk h
structure Q7(p:SG)(xs ys:Nat->Nat)(rk:Int)(k i b:Nat):Prop where
 lo:xs i<=b
 hi:b<ys i
 at_:(p.od i)[b]?=some rk
 cnt:((seg (p.od i) (xs i) b).filter λz=>z=rk).length=k
theorem Q7.prev{p:SG}{xs ys:Nat->Nat}{rk:Int}{k i b x:Nat}(h:Q7 p xs ys rk k (i+1) b)(hx1:xs (i+1)=nxt p i (bit rk (p.h - 1 - i)) (xs i))(hy1:ys (i+1)=nxt p i (bit rk (p.h - 1 - i)) (ys i))(hx:nxt p i (bit rk (p.h - 1 - i)) x=b)(hz:∃z,(p.od i)[x]?=some z/\bit z (p.h - 1 - i)=bit rk (p.h - 1 - i)):Q7 p xs ys rk k i x:=by
 obtain⟨z,hz1,hz2⟩:=hz;have ez:z=rk:=by
  have:=Ia hz1;rw[hz2,hx,h.at_]at this;exact(aax this).symm
 subst ez;have hlo:=h.lo;have hhi:=h.hi;rw[hx1]at hlo;rw[hy1]at hhi;have l1:xs i<=x:=by
  rcases aaM x (xs i)with c|c
  ·have h1:=fV p i (bit z (p.h - 1 - i)) (show x+1<=xs i by lia);rw[G6 hz1 rfl]at h1;lia
  ·exact c
 have l2:x<ys i:=by
  rcases aaM x (ys i)with c|c
  ·exact c
  ·have h1:=fV p i (bit z (p.h - 1 - i)) c;lia
 refine⟨l1,l2,hz1,?_⟩;rw[<-h.cnt,hx1,<-hx,jj l1 (cN _ _),abI];congr 1;refine aa9 λu _=>?_;rw[<-abd];exact decide_eq_decide.mpr ⟨λe=>⟨e,by rw[e]⟩,λe=>e.1⟩
inductive sW(Ph:Addr)(C:Addr)(vs:List V)(H:Hp)(Q:VK)(E:XK):Prop
 | mk (p:SG) (ss:List Int) (z nth:Int) (_:vs=[.ref p.t,.ref p.g,.int z,.int nth]) (_:SQ H Ph p ss) (_:ss.length<=600000) (_:((∃k:Nat,nth=(k:Int)/\k<bA p.ns z /\ ∀b ss' U H',p.ns[b]?=some z->bA (p.ns.take b) z=k->bY H H' Ph p (3*p.h) U ss ss'->U.length<=4*p.h->Q (.int (b:Int)) H')\/((nth<0\/(bA p.ns z:Int)<=nth) /\ ∀ss' U H',bY H H' Ph p (2*p.h) U ss ss'->E (.ref C) none H')))
theorem rO(T:Tx K mg a)(B:Bs mg base a):bh P w K mg base (My P w) 9 a.Xn a.Xo ["tables","look","sign","nth"] (sW a.Le a.Ln):=by
 refine T.YH.F.ok1 bQ (λvs H Q E h=>?_) (λcdv A outer s H vs Q E hr h=>?_)
 ·obtain⟨p,ss,z,nth,rfl,_⟩:=h;rfl
 obtain⟨p,ss,z,nth,rfl,sq,hss,hout⟩:=h;refine⟨_,(ak (aC (i:=4) bQ.nd rfl (aai rfl) (aL T.TJ (qd T) (by decide) hr aR rfl (aa (aM aJ (pv 0) aj (λ_ _=>rfl)) (aa (pv 2) ao))))
  (ak (aW (Dr (DW (pv 4))) (az (mV T.QV rfl (aa u6 ao))) aP)
  (ak (aC (i:=5) bQ.nd rfl (aai rfl) (aL T.Pu (di T B) (by decide) hr aR rfl (aa (pv 0) (aa (pv 1) ao))))
  (ak (aC (i:=6) bQ.nd rfl (aai rfl) (aL T.RJ (je T) (by decide) hr aR rfl (aa (pv 4) (aa (pv 5) ao))))
  (ak (aC (i:=7) bQ.nd rfl (aai rfl) (aL T.Tz (gP T) (by decide) hr aR rfl (aa (pv 5) (aa (pv 6) (aa (bU (aa aj (aa (aM aJ (pv 0) aj (λ_ _=>rfl)) ao))) ao)))))
  (ak (bH (aL T.QM (gj T) (by decide) hr iK rfl (aa (pv 3) (aa (aL T.OJ (cJ T) (by decide) hr aR rfl (aa (pv 7) ao)) ao))))
  (ak (aC (i:=8) bQ.nd rfl (aai rfl) (aA bG (aM aJ (pv 7) aj (λ_ _=>rfl)) (pv 3)))
  (ak (b8 pJ rfl (Fj rfl T.T3 (aa (zm rfl rfl T.QT Tw.lY rfl T.Qc Tw.nG (aa (pv 5) (aa (pv 6) ao))) ao) Tw.jJ) (jN rfl (bW (aX (i:=9) bQ.nd rfl (aai rfl)) (bW (aX (i:=10) bQ.nd rfl (aai rfl)) gZ))) (az (aC (i:=8) bQ.nd rfl (aai rfl) (aL T.YD (rA T) (by decide) hr aR rfl (aa (pv 9) (aa (pv 8) (aa (pv 10) ao)))))))
  (az (aG (pv 8))))))))))),?_⟩
 have Np:p.ms.length<=4096:=by
  have:=iC sq.kd.nd λz hz=>(sq.kd.mem z).mp hz;have:=sq.len;lia
 refine⟨_,rfl,p.t,_,_,_,rfl,rfl,K6.of sq.t,rfl,_,rfl,p.k,p.ms,z,rfl,K6.of sq.k,sq.kd.up,Np,λhz=>?_,λhz=>?_⟩
 rotate_left
 ·have e0:bA p.ns z=0:=by
   unfold bA;rw[abp.mpr]
   ·rfl
   intro u hu e;rw[of_decide_eq_true e]at hu;exact hz ((sq.kd.mem z).mpr hu)
  rcases hout with ⟨k,_,hk,_⟩|⟨_,he⟩
  ·lia
  ·exact⟨_,rfl,_,rfl,dz ⟨(by show 1<=sizeLine;decide),he ss [] H ((sq.self).le (aaq _) nofun)⟩⟩
 refine⟨_,rfl,_,rfl,cF ?_⟩;refine⟨_,rfl,_,rfl,p,ss,rfl,sq,λlr lv H1 hr1 xr Lq hL d1=>?_⟩;have Lz:=sq.did d1 sq.few;have h12:=sq.h12;have Q5:(lv.map V.ref).length=p.h:=by rw[aaa,Lq]
 refine⟨_,rfl,_,rfl,(p.ms.idxOf z:Int),lr,_,rfl,K5.of xr,by lia,λbr H2 hbr Lk N5=>?_⟩;rw[Q5]at N5;have d2:=d1.same Lk;have LQ:=Lz.same Lk;refine⟨_,rfl,_,rfl,_,rfl,p.t,_,_,_,rfl,rfl,K6.of LQ.t,rfl,(by show 2<=sizeLine;decide),λst hst=>?_⟩;have s3:=au hst (.tup [.int 0,.int (p.ns.length:Int)]);have Ms:=LQ.same s3;have hm:z∈p.ns:=(sq.kd.mem z).mp hz;obtain⟨i0,hi0⟩:=aaL hm;have nl:lr≠p.sn:=(aB sq.sn hr1).symm;have nb:br≠p.sn:=(aB Lz.sn hbr).symm;have hrk:=(sq.rank hi0).2.1;have hlr:=s3 _ _ (Lk _ _ xr);have hbr3:=s3 _ _ N5;refine⟨p,ss,lr,br,st,lv,(p.ms.idxOf z:Int),0,p.ns.length,rfl,Ms,by lia,hlr,Lq,λi l e=>((hL i l e).kept (Kp.of Lk)).kept (Kp.of s3),hbr3,nl,nb,aq,aaq _,aad _,hrk,λr Ui H4 xs ys hx0 NZ hxy hseg Zj d4=>?_⟩;have Oi:=TabAt.ne Ms.tab hlr nofun;have Q4:=TabAt.ne Ms.tab hbr3 nofun;have dA:=(d2.same s3).trans d4;have hl4:=dA.wr.len;have M6:=sq.did dA (by lia);have xl4:=d4.kp _ _ hlr Oi nl;have xb4:=d4.kp _ _ hbr3 Q4 nb;have L4:∀i l,lv[i]?=some l->Lv H4 p i l:=λi l e=>(((hL i l e).kept (Kp.of Lk)).kept (Kp.of s3)).kept (Ms.kp d4);obtain⟨g1,g2,g3⟩:=hseg p.h (aad _);generalize hrke:(p.ms.idxOf z:Int)=rk at *;have hmem:∀u∈p.ns,u∈p.ms:=λu hu=>(sq.kd.mem u).mpr hu;have hall:seg p.ns 0 p.ns.length=p.ns:=by
  unfold seg;rw[abX,abw,abf]
 have hseg0:seg (p.od 0) 0 p.ns.length=rks p.ms p.ns:=by
  rw[show p.od 0=rks p.ms p.ns from rfl,iR,hall]
 have f1:∀z:Int,z / 2^(p.h - p.h)=z:=λz=>by rw[abA,acM,acl]
 simp only[f1]at g3;have hcnt:ys p.h - xs p.h=bA p.ns z:=by
  have:=congrArg abC g3;rw[cP (show ys p.h<=(p.od p.h).length by rw[show p.od p.h=ord p.h (rks p.ms p.ns) p.h from rfl,p.ord_len];exact g2),hseg0,<-hrke,gw hz hmem]at this;exact this
 have hdi:((ys p.h:Nat):Int) - ((xs p.h:Nat):Int)=(bA p.ns z:Int):=by lia
 refine⟨_,rfl,_,rfl,r,_,_,rfl,Zj,_,_,rfl,?_⟩;rcases hout with ⟨k,rfl,hk,q⟩|⟨hbad,he⟩
 rotate_left
 ·exact .inr ⟨by lia,he Ui _ H4 (dA.le (by lia) λy hy=>hy)⟩
 refine .inl ⟨by lia,by lia,?_⟩;refine⟨_,rfl,r,_,_,_,rfl,rfl,K6.of Zj,rfl,_,rfl,_,_,rfl,rfl,?_⟩;refine⟨_,rfl,_,rfl,lr,br,_,_,rfl,K5.of xl4,K5.of xb4,λzl Ts H5 PX Ot Uj RW hT=>?_⟩;rw[aaa,aaa,oM,Lq,adQ]at RW;have s5:aV H4 H5:=Ot;have Qh:=M6.same s5;have d5:=dA.same s5;have nz:zl≠p.sn:=(aB M6.sn PX).symm;have nzP:=TabAt.ne Qh.tab Uj nofun;have u0:Q7 p xs ys rk k p.h (xs p.h+k):=by
  have hin:∀u,(seg (p.od p.h) (xs p.h) (ys p.h))[u]?=(if u<ys p.h - xs p.h then (p.od p.h)[xs p.h+u]? else none):=λu=>by
   unfold seg;rw[List.getElem?_take,ab1]
  have hat:(p.od p.h)[xs p.h+k]?=some rk:=by
   have hlt:k<((seg (p.od p.h) (xs p.h) (ys p.h))).length:=by
    rw[cP (show ys p.h<=(p.od p.h).length by rw[show p.od p.h=ord p.h (rks p.ms p.ns) p.h from rfl,p.ord_len];exact g2)];lia
   obtain⟨v,hv⟩:∃v,(seg (p.od p.h) (xs p.h) (ys p.h))[k]?=some v:=⟨_,aac hlt⟩;have hm1:=aah hv;rw[g3]at hm1;have e2:v=rk:=of_decide_eq_true (aaY.mp hm1).2;rw[hin k,if_pos (by lia)]at hv;rw[hv,e2]
  refine⟨by lia,by lia,hat,?_⟩;have e3:seg (p.od p.h) (xs p.h) (xs p.h+k)=(seg (p.od p.h) (xs p.h) (ys p.h)).take k:=by
   unfold seg;rw[adm,show xs p.h+k - xs p.h=min k (ys p.h - xs p.h) by lia]
  rw[e3,abS.mpr,aaC,cP (show ys p.h<=(p.od p.h).length by rw[show p.od p.h=ord p.h (rks p.ms p.ns) p.h from rfl,p.ord_len];exact g2)]
  ·lia
  intro u hu;have:=abm hu;rw[g3]at this;exact(aaY.mp this).2
 refine⟨zl,_,rfl,K5.of Uj,?_⟩;refine zO (xs:=Ts.map V.ref) (λj σ H'=>∃(b:Nat) (k9 k10:Option V) (U ss':List Int),σ=[some (.ref p.t),some (.ref p.g),some (.int z),some (.int (k:Int)),some (.int rk),some (.ref lr),some (.ref br),some (.ref r),some (.int (b:Int)),k9,k10]/\Q7 p xs ys rk k (p.h - j) b/\bY H5 H' a.Le p j U Ui ss'/\U.length<=j) ⟨xs p.h+k,none,none,[],Ui,by rw[show ((xs p.h+k:Nat):Int)=((xs p.h:Nat):Int)+(k:Int) by lia];rfl,u0,Qh.self,aad _⟩ ?_ ?_ ?_
 ·rintro j σ H' _ ⟨_,_,_,_,_,_,_,d,_⟩;exact K5.of (d.kp _ _ Uj nzP nz)
 ·rintro j v σ H' hj hv ⟨b,k9,k10,U,ss',rfl,hu,d,hU⟩;rw[aaa,RW]at hj hv;rw[aag]at hv;obtain⟨Tp,QD,rfl⟩:=aaJ.mp hv;have hi:p.h - 1 - j<p.h:=by lia
  obtain⟨l,hl⟩:∃l,lv[p.h - 1 - j]?=some l:=⟨_,aac (by rw[Lq];exact hi)⟩;have QB:=hT (p.h - 1 - j) (.ref l) (.int (bit rk (p.h - 1 - (p.h - 1 - j)))) Tp (by rw[aag,hl];rfl) (by rw[aag,rC hi];rfl) QD;have Nb:=d.wr.len;have sq6:=Qh.did d (by lia);have Zk:=Qh.kp d;have hTt2:=Zk _ _ QB nofun nofun;have L6:=((L4 _ l hl).kept (Kp.of s5)).kept Zk;rw[show p.h - j=(p.h - 1 - j)+1 by lia]at hu;obtain⟨w1,w2⟩:=hxy (p.h - 1 - j) hi;obtain⟨v1,v2,_⟩:=hseg (p.h - 1 - j) (by lia);have hlo:=hu.lo;have hhi:=hu.hi;have m1:=fV p (p.h - 1 - j) (bit rk (p.h - 1 - (p.h - 1 - j))) (aaq (xs (p.h - 1 - j)));have m2:=fV p (p.h - 1 - j) (bit rk (p.h - 1 - (p.h - 1 - j))) v2;refine⟨Tp,_,rfl,K6.of hTt2,rfl,_,_,rfl,_,_,rfl,rfl,?_⟩;refine⟨_,rfl,_,rfl,_,rfl,p,ss',p.h - 1 - j,l,b,bit rk (p.h - 1 - (p.h - 1 - j)),rfl,sq6,by lia,L6,hi,cN _ _,by lia,by lia,λx LR H7 hx hnx hzx d7=>?_⟩;refine⟨x,_,_,U++[(((p.h - 1 - j)*many p.ns.length+x / 32:Nat):Int)],LR,rfl,?_,d.trans d7,?_⟩
  ·rw[show p.h - (j+1)=p.h - 1 - j by lia];exact hu.prev w1 w2 hnx hzx
  ·rw[aae];show _+1<=_;lia
 ·rintro σ H' ⟨b,k9,k10,U,ss',rfl,hu,d,hU⟩;rw[aaa,RW,abA]at hu;rw[aaa,RW]at d hU;have hodl:(rks p.ms p.ns)[b]?=some rk:=hu.at_;unfold rks at hodl;rw[aag]at hodl;obtain⟨u,hub,hue⟩:=aaJ.mp hodl;have Zm:u=z:=z8 (hmem u (aah hub)) (hue.trans hrke.symm) hz;subst Zm;have hc:=hu.cnt;rw[hx0,show p.od 0=rks p.ms p.ns from rfl,iR,show seg p.ns 0 b=p.ns.take b by unfold seg;rw[abX,abw],<-hrke,gw hz λv hv=>hmem v (abm hv)]at hc;refine⟨_,rfl,q b ss' _ H' hub hc ((d5.trans d).le (by lia) λy hy=>hy) ?_⟩;rw[abj,aae,mj];lia
def Short(n:Nat)(xs:List Int):Prop:=O2 xs/\xs.length<=n
theorem IW{x f:Int}(h1 : -11<=x)(h2:x<=11)(f0:0<=f)(f1:f<=10^58) : -(10:Int)^60<x*f/\x*f<10^60:=by
 have a:=acs h2 f0;have b:=acs h1 f0;lia
inductive En(K:PySem.W.Frag)(vs:List V)(H:Hp)(Q:VK)(_e1:XK):Prop
 | mk (c:Int) (p:Addr) (ns:List Int) (_:vs=[.int c,.ref p]) (_:K5 K H p (ns.map V.int)) (_:O2 ns) (_:∀r H' xs,aV H H'->H' r=some (.lst (xs.map V.int))->Short 20 xs->Q (.ref r) H')
theorem uz{z:Int}(h : -(10:Int)^60<z/\z<10^60):Short 20 [z]:=⟨λx hx=>by rw[aal.mp hx];exact h,by show 1<=20;decide⟩
theorem vA(T:Tx K mg a):bh P w K mg base K9 1 a.XM a.XN ["_law_cell","_law_ahead"] (En K):=by
 refine T.YQ.F.ok cB (λvs H Q E h=>?_) (λcdv A outer s H vs Q E hr h=>?_)
 ·obtain⟨c,p,ns,rfl,_⟩:=h;rfl
 obtain⟨c,p,ns,rfl,hS,hin,q⟩:=h;refine⟨_,(ak (aC (i:=2) cB.nd rfl (aai rfl) (aA dZ (pv 0) aj))
  (ak (aW (aH bD (aA bj (pv 0) aj) aj (aO _)) (az (aG (bR (aa (aA bG (aA bu (aA bj (pv 2) (aA bu (aA bT aj (aA jo aj aj)) aj)) (aA jo aj aj)) aj) ao)))) aP)
  (ak (aW (PW.pt (vz (aH bD (aA bj (pv 0) aj) aj (aO _)) (pM (aH mq (aN aF rfl T.Lg Tw.bc (aa (pv 1) ao)) aj (aO _))))) (az (aG (bR (aa (aN (nH rfl) rfl T.TY Tw.yC (aa (aA bG (aM cD (pv 1) (aA bj (aA dZ (pv 2) aj) (aN aF rfl T.Lg Tw.bc (aa (pv 1) ao))) (λ_ _=>rfl)) (aA bj (pv 2) aj)) (aa (aA bu (aA jo aj aj) aj) ao))) ao)))) aP)
  (ak (aW (aH bD (aA bj (pv 0) aj) aj (aO _)) (az (aG (aA HS (bR (aa (aA bu (aA bj (pv 2) aj) aj) ao)) (aA bG aj (aA bj (aA dZ (pv 2) aj) aj))))) aP)
  (ak (aC (i:=3) cB.nd rfl (aai rfl) (aA bj (aA bT (pv 2) aj) aj))
  (ak (aC (i:=4) cB.nd rfl (aai rfl) (aA bG aj (aA bj (aA dZ (pv 3) aj) aj)))
  (ak (aC (i:=5) cB.nd rfl (aai rfl) (aM cD (bR (aa aj (aa (aA jo aj aj) ao))) (aA bj (aA dZ (pv 3) aj) aj) (λ_ _=>rfl)))
  (ak (aC (i:=6) cB.nd rfl (aai rfl) (bR ao))
  (ak (b8 PassesOwn.never rfl (fB rfl T.Og (aa (aA bG aj (aA bj (pv 3) aj)) ao)) (aX (i:=7) cB.nd rfl (aai rfl)) (ak (aC (i:=3) cB.nd rfl (aai rfl) (aA bj (aA bG (aA bG (aA bT (pv 3) (pv 3)) (aA bT aj (pv 3))) (pv 7)) aj))
  (az (bH (lB PySem.F.plainAttrs_list PySem.F.slot_list_append PySem.F.type_list_append cG (pv 6) (aa (aA bT (aA bu (aA bj (aA dZ (pv 3) aj) (pv 4)) aj) (pv 5)) ao))))))
  (az (aG (pv 6)))))))))))),?_⟩
 have MF:(ns.map V.int).length=ns.length:=aaa ..;refine⟨_,rfl,_,_,rfl,rfl,⟨by decide,by decide⟩,?_⟩;show fQ 2 (.int (c / 5)) _ _ _;generalize c / 5=rs;refine⟨_,rfl,_,_,rfl,rfl,(by show (0:Int)<5;decide),rfl,_,rfl,bJ (λ_=>?_) λ_=>?_⟩
 ·refine⟨_,rfl,_,_,rfl,rfl,⟨by decide,by decide,by decide⟩,_,_,rfl,rfl,.inl ⟨by decide,by decide⟩,_,_,rfl,rfl,_,_,rfl,rfl,(by show (0:Int)<2*10^60 - 1;decide),_,_,rfl,rfl,⟨by decide,by decide,by decide⟩,_,_,rfl,rfl,_,_,rfl,rfl,(by show 1<=sizeLine;decide),λr hr'=>?_⟩;refine q r _ [rs%(2*10^60 - 1) - 10^60+1] (au hr' _) aq (uz ?_);lia
 refine⟨_,rfl,_,_,rfl,rfl,(by show (0:Int)<5;decide),rfl,_,rfl,Gw ?_ λ_ n=>⟨_,rfl,p,_,rfl,.inl hS,_,_,rfl,rfl,_,rfl,bJ (λc=>?_) λ_=>n⟩⟩
 rotate_left
 ·have c:(0:Int)<((ns.map V.int).length:Int):=of_decide_eq_true c;rw[MF]at c;have g0:=abN (rs / 2) (show (ns.length:Int)≠0 by lia);have g1:=abB (rs / 2) c;obtain⟨i,ei⟩:∃i:Nat,rs / 2%(ns.length:Int)=i:=⟨(rs / 2%(ns.length:Int)).toNat,by lia⟩;have hi:i<ns.length:=by lia
  have hat:Lj (ns.map V.int) (rs / 2%((ns.map V.int).length:Int))=some (.int ns[i]):=by
   rw[MF,ei];exact cM (aac hi)
  have hz:=hin ns[i] (aaP hi);refine⟨_,rfl,_,rfl,_,_,rfl,rfl,⟨by decide,by decide⟩,_,rfl,p,_,rfl,.inl hS,_,_,rfl,rfl,(by rw[MF];exact c),p,_,_,_,rfl,rfl,hS,hat,_,rfl,_,_,rfl,rfl,(by show (0:Int)<2;decide),_,_,rfl,rfl,_,_,rfl,rfl,⟨by decide,by decide,by decide⟩,_,_,rfl,rfl,_,_,rfl,(by show 1<=sizeLine;decide),λr hr'=>?_⟩;refine q r _ [if 10^60 - 1<ns[i]+rs%2 then 10^60 - 1 else ns[i]+rs%2] (au hr' _) aq (uz ?_);split <;> lia
 refine⟨_,rfl,_,_,rfl,rfl,(by show (0:Int)<5;decide),rfl,_,rfl,bJ (λ_=>?_) λ_=>?_⟩
 ·refine⟨_,rfl,_,_,rfl,rfl,(by show (0:Int)<4;decide),_,_,rfl,rfl,(by show 1<=sizeLine;decide),λl hl=>⟨_,rfl,_,_,rfl,rfl,⟨by decide,by decide⟩,_,_,rfl,rfl,(by show (0:Int)<20;decide),_,_,rfl,rfl,l,1+rs / 4%20,[.int (rs%4 - 2)],rfl,rfl,aq,by lia,by lia,?_,λr hr'=>?_⟩⟩
  ·show 1*(1+rs / 4%20).toNat<=sizeLine;rw[sizeLine_eq];lia
  refine q r _ (aaQ (1+rs / 4%20).toNat (rs%4 - 2)) ((au hl _).trans (au hr' _)) ?_ ⟨λz hz=>?_,?_⟩
  ·rw[aq,Fp]
  ·rw[List.eq_of_mem_replicate hz];lia
  ·rw[ab4];lia
 refine⟨_,rfl,_,_,rfl,rfl,.inr ⟨by decide,by decide⟩,_,_,rfl,rfl,(by show (0:Int)<2147483629;decide),?_⟩;have n0:=abN (rs*69621) (show (2147483629:Int)≠0 by decide);have n1:=abB (rs*69621) (show (0:Int)<2147483629 by decide);show fQ 3 (.int (rs*69621%2147483629)) _ _ _;generalize rs*69621%2147483629=n at *;refine⟨_,rfl,_,_,rfl,rfl,⟨by decide,by decide⟩,_,_,rfl,rfl,(by show (0:Int)<22;decide),_,_,rfl,rfl,?_⟩;obtain⟨kn,hkn,k1,k2⟩:∃kn:Int,1+n / 20%22=kn/\1<=kn/\kn<=22:=⟨_,rfl,by lia,by lia⟩;show fQ 4 (.int (1+n / 20%22)) _ _ _;rw[hkn];have hat:∃f:Int,Lj (α:=V) [.int 1,.int (10^(58:Int).toNat)] (n / 440%2)=some (.int f)/\0<=f/\f<=10^58:=by
  have:n / 440%2=0\/n / 440%2=1:=by lia
  rcases this with e|e
  all_goals
   rw[e];exact⟨_,rfl,by decide,by decide⟩
 obtain⟨f,hat,f0,f1⟩:=hat;refine⟨_,_,rfl,rfl,⟨by decide,by decide,by decide⟩,(by show 2<=sizeLine;decide),λl hl=>?_⟩;have s0:=au hl (.lst [.int 1,.int (10^(58:Int).toNat)]);refine⟨_,rfl,_,_,rfl,rfl,⟨by decide,by decide⟩,_,_,rfl,rfl,(by show (0:Int)<2;decide),l,_,_,_,rfl,rfl,K5.of aq,hat,?_⟩;generalize upd H l (.lst [.int 1,.int (10^(58:Int).toNat)])=H1 at *;refine⟨(by show 0<=sizeLine;decide),λr hr'=>?_⟩;have s1:=s0.trans (au hr' (.lst []));have Q8:H r=none:=s0.free hr';obtain⟨m,em,hm⟩:∃m:Nat,1+n%20=(m:Int)/\m<=20:=⟨(1+n%20).toNat,by lia,by lia⟩;refine⟨_,rfl,_,_,rfl,rfl,(by show (0:Int)<20;decide),_,_,rfl,rfl,(m:Int),(by rw[<-em]),by lia,by lia,?_⟩;rw[aaD];refine Bj (λi σ H'=>∃(n:Int) (k7:Option V) (xs:List Int),σ=[some (.int c),some (.ref p),some (.int rs),some (.int n),some (.int kn),some (.int f),some (.ref r),k7]/\aV H H'/\H' r=some (.lst (xs.map V.int))/\0<=n/\n<2147483629/\O2 xs/\xs.length=i) ⟨n,none,[],rfl,s1,aq,n0,n1,nofun,rfl⟩ ?_ ?_
 ·rintro i σ H' hi ⟨m1,k7,xs,rfl,sm,xr,a0,a1,hx,Ow⟩;refine⟨_,rfl,_,rfl,_,_,rfl,rfl,.inl ⟨by lia,by lia⟩,_,rfl,_,_,rfl,rfl,.inl ⟨by decide,by decide⟩,_,_,rfl,rfl,_,rfl,_,_,rfl,rfl,_,_,rfl,rfl,(by show (0:Int)<2147483629;decide),?_⟩;have g0:=abN (m1*m1+69621*m1+(0+(i:Int))) (show (2147483629:Int)≠0 by decide);have g1:=abB (m1*m1+69621*m1+(0+(i:Int))) (show (0:Int)<2147483629 by decide);show fQ 3 (.int ((m1*m1+69621*m1+(0+(i:Int)))%2147483629)) _ _ _;generalize (m1*m1+69621*m1+(0+(i:Int)))%2147483629=m2 at *;have b0:=abN (m2 / 64) (show kn≠0 by lia);have b1:=abB (m2 / 64) (show (0:Int)<kn by lia);refine⟨_,rfl,.inl ⟨rfl,_,K5.of xr⟩,_,rfl,_,_,rfl,rfl,⟨by decide,by decide⟩,_,rfl,_,_,rfl,rfl,(show 0<kn by lia),_,_,rfl,rfl,_,rfl,_,_,rfl,rfl,.inl ⟨by lia,by lia⟩,r,_,_,rfl,rfl,xr,by rw[aaa,sizeLine_eq];lia,?_⟩;refine⟨m2,_,xs++[(m2 / 64%kn - 11)*f],rfl,cR sm Q8 _,by rw[aq,aam];rfl,g0,g1,λz hz=>?_,by rw[aae,Ow];rfl⟩;rcases aaK.mp hz with hz|hz
  ·exact hx z hz
  ·rw[aal.mp hz];exact IW (by lia) (by lia) f0 f1
 ·rintro σ H' ⟨m1,k7,xs,rfl,sm,xr,a0,a1,hx,Ow⟩;exact⟨_,rfl,q r _ xs sm xr ⟨hx,by lia⟩⟩
inductive Ce(K:PySem.W.Frag)(vs:List V)(H:Hp)(Q:VK)(_e1:XK):Prop
 | mk (s:Addr) (zs:List Int) (_:vs=[.ref s]) (_:K5 K H s (zs.map V.int)) (_:∀(r:Addr) (H':Hp) (ns:List Int),H r=none->aV H H'->H' r=some (.lst (ns.map V.int))->O2 ns->ns.length<=110->Q (.ref r) H')
theorem lZ(T:Tx K mg a):bh P w K mg base K9 2 a.XQ a.XR ["_law_cells"] (Ce K):=by
 refine T.TX.F.ok gq (λvs H Q E h=>?_) (λcdv A outer s H vs Q E hr h=>?_)
 ·obtain⟨b,f,rfl,_⟩:=h;rfl
 obtain⟨sa,zs,rfl,hS,q⟩:=h;refine⟨_,(ak (aC (i:=1) gq.nd rfl (aai rfl) (bR ao))
  (ak (b8 PassesOwn.never rfl (bV (pv 0)) (aX (i:=2) gq.nd rfl (aai rfl)) (az (aW (aH iD (aN aF rfl T.Lg Tw.bc (aa (pv 1) ao)) aj (aO _)) (az (aC (i:=1) gq.nd rfl (aai rfl) (aA zr (pv 1) (aL T.YQ (vA T) (by decide) hr aR rfl (aa (pv 2) (aa (pv 1) ao)))))) aP)))
  (az (aG (pv 1))))),?_⟩
 refine⟨(by show 0<=sizeLine;decide),λr hr'=>?_⟩;have s0:=au hr' (.lst []);refine⟨_,rfl,sa,rfl,⟨_,s0.seq hS⟩,?_⟩;refine cQ (xs:=zs.map V.int) (λi σ H'=>∃(r:Addr) (k2:Option V) (ns:List Int),σ=[some (.ref sa),some (.ref r),k2]/\H r=none/\aV H H'/\H' r=some (.lst (ns.map V.int))/\O2 ns/\ns.length<=110) ⟨r,none,[],rfl,hr',s0,aq,nofun,by decide⟩ ?_ ?_ ?_
 ·rintro i σ H' _ ⟨_,_,_,_,_,sm,_⟩;exact sm.seq hS
 ·rintro i x σ H' hx ⟨r,k2,ns,rfl,Q8,sm,xr,hin,Nb⟩;obtain⟨z,_,rfl⟩:=int_at hx;have MF:(ns.map V.int).length=ns.length:=aaa ..;refine⟨_,rfl,r,_,rfl,.inl (K5.of xr),_,_,rfl,rfl,_,rfl,bJ (λc1=>?_) λ_=>⟨r,_,ns,rfl,Q8,sm,xr,hin,Nb⟩⟩;have c1:((ns.map V.int).length:Int)<90:=of_decide_eq_true c1;rw[MF]at c1;refine⟨_,rfl,_,rfl,_,rfl,z,r,ns,rfl,K5.of xr,hin,λl H2 xs Lk xl hsh=>?_⟩;have xr2:=Lk _ _ xr;have h20:=hsh.2;refine⟨r,l,_,_,rfl,rfl,xr2,xl,?_,λr3 NQ=>?_⟩
  ·rw[aaa,aaa,sizeLine_eq];lia
  have s3:=au NQ (.lst (ns.map V.int++xs.map V.int));have sA:=sm.trans Lk;refine⟨r3,_,ns++xs,rfl,sA.free NQ,sA.trans s3,?_,λu hu=>?_,?_⟩
  ·rw[aq,aam]
  ·rcases aaK.mp hu with hu|hu
   ·exact hin u hu
   ·exact hsh.1 u hu
  ·rw[aae];lia
 ·rintro σ H' ⟨r,k2,ns,rfl,Q8,sm,xr,hin,Nb⟩;exact⟨_,rfl,q r _ ns Q8 sm xr hin Nb⟩
inductive Cd(K:PySem.W.Frag)(vs:List V)(H:Hp)(Q:VK)(_e1:XK):Prop
 | mk (c:Int) (p:Addr) (ns:List Int) (_:vs=[.int c,.ref p]) (_:K5 K H p (ns.map V.int)) (_:∀z:Int,Q (.int z) H)
theorem fM(T:Tx K mg a):bh P w K mg base K9 1 a.X4 a.X5 ["_law_cell","_law_signs_here"] (Cd K):=by
 refine T.QR.F.ok iu (λvs H Q E h=>?_) (λcdv A outer s H vs Q E hr h=>?_)
 ·obtain⟨c,p,ns,rfl,_⟩:=h;rfl
 obtain⟨c,p,ns,rfl,hS,q⟩:=h;refine⟨_,(ak (aC (i:=2) iu.nd rfl (aai rfl) (aA dZ (pv 0) aj))
  (ak (aW (PW.pt (iI (aH iD (aA bj (pv 0) aj) aj (aO _)) (jm (aH bD (aN aF rfl T.Lg Tw.bc (aa (pv 1) ao)) aj (aO _))))) (az (aG (aA bu (aA bj (pv 2) (aA bG (aA bT aj (aA jo aj aj)) aj)) (aA bT aj (aA jo aj aj))))) aP)
  (ak (aC (i:=3) iu.nd rfl (aai rfl) (aM cD (pv 1) (aA bj (pv 2) (aN aF rfl T.Lg Tw.bc (aa (pv 1) ao))) (λ_ _=>rfl)))
  (ak (aW (aH bD (aA bj (pv 0) aj) aj (aO _)) (az (aG (aA bu (pv 3) aj))) aP)
  (az (aG (pv 3))))))),?_⟩
 have MF:(ns.map V.int).length=ns.length:=aaa ..;refine⟨_,rfl,_,_,rfl,rfl,⟨by decide,by decide⟩,?_⟩;refine⟨_,rfl,_,_,rfl,rfl,(by show (0:Int)<8;decide),_,_,rfl,rfl,_,rfl,bJ (λ_=>dz ?_) λ_=>⟨_,rfl,p,_,rfl,.inl hS,rfl,_,rfl,bJ (λ_=>?_) λc0=>?_⟩⟩
 ·exact⟨_,rfl,_,_,rfl,rfl,⟨by decide,by decide,by decide⟩,_,_,rfl,rfl,.inl ⟨by decide,by decide⟩,_,_,rfl,rfl,_,_,rfl,rfl,(by show (0:Int)<4*10^60+1;decide),_,_,rfl,rfl,⟨by decide,by decide,by decide⟩,_,_,rfl,rfl,.inl ⟨by decide,by decide⟩,_,_,rfl,rfl,q _⟩
 ·exact⟨_,rfl,_,_,rfl,rfl,⟨by decide,by decide,by decide⟩,_,_,rfl,rfl,.inl ⟨by decide,by decide⟩,_,_,rfl,rfl,_,_,rfl,rfl,(by show (0:Int)<4*10^60+1;decide),_,_,rfl,rfl,⟨by decide,by decide,by decide⟩,_,_,rfl,rfl,.inl ⟨by decide,by decide⟩,_,_,rfl,rfl,q _⟩
 have c0:ns.length≠0:=λz=>c0 (decide_eq_true (congrArg V.int (by rw[MF,z];rfl)));have g0:=abN (c / 8) (show (ns.length:Int)≠0 by lia);have g1:=abB (c / 8) (show (0:Int)<(ns.length:Int) by lia);obtain⟨i,ei⟩:∃i:Nat,c / 8%(ns.length:Int)=i:=⟨(c / 8%(ns.length:Int)).toNat,by lia⟩;have hi:i<ns.length:=by lia
 have hat:Lj (ns.map V.int) (c / 8%((ns.map V.int).length:Int))=some (.int ns[i]):=by
  rw[MF,ei];exact cM (aac hi)
 refine⟨_,rfl,_,rfl,_,rfl,p,_,rfl,.inl hS,_,_,rfl,rfl,(by rw[MF];lia),p,_,_,_,rfl,rfl,hS,hat,?_⟩;exact⟨_,rfl,_,_,rfl,rfl,(by show (0:Int)<8;decide),rfl,_,rfl,bJ (λ_=>⟨_,rfl,_,_,rfl,rfl,q _⟩) λ_=>⟨_,rfl,q _⟩⟩
def pL(way:Int)(ps:List Int):Prop:=(way=0 /\ ∃x,ps=[x])\/(way=1 /\ ∃x y,ps=[x,y])\/(way=2 /\ ∃x y,ps=[x,y])\/(way=3 /\ ∃x y z u,ps=[x,y,z,u])\/(way=4 /\ ∃x y z,ps=[x,y,z])\/(way=5 /\ ∃x y,ps=[x,y])
inductive Ej(K:PySem.W.Frag)(vs:List V)(H:Hp)(Q:VK)(_e1:XK):Prop
 | mk (way c:Int) (p:Addr) (ns:List Int) (_:vs=[.int way,.ref p,.int c]) (_:K5 K H p (ns.map V.int)) (_:0<=way) (_:way<6) (_:∀r ps H',H r=none->aV H H'->H' r=some (.tup (ps.map V.int))->pL way ps->Q (.ref r) H')
theorem vo(T:Tx K mg a):bh P w K mg base K9 2 a.X6 a.X7 ["_law_way","_law_signs_here","_law_cell"] (Ej K):=by
 refine T.YW.F.ok cC (λvs H Q E h=>?_) (λcdv A outer s H vs Q E hr h=>?_)
 ·obtain⟨way,c,p,ns,rfl,_⟩:=h;rfl
 obtain⟨way,c,p,ns,rfl,hS,w0,w6,q⟩:=h;refine⟨_,(ak (aC (i:=3) cC.nd rfl (aai rfl) (aN aF rfl T.Lg Tw.bc (aa (pv 1) ao)))
  (ak (aC (i:=4) cC.nd rfl (aai rfl) (aA bu (aA bj (aA bj (aA bT (pv 2) aj) aj) (aA bG (pv 3) aj)) aj))
  (ak (aC (i:=5) cC.nd rfl (aai rfl) (aA bu (aA bj (aA bj (aA bT (pv 2) aj) aj) (aA bG (pv 3) aj)) aj))
  (ak (aW (aH bD (pv 0) aj (aO _)) (az (aG (bU (aa (pv 4) ao)))) aP)
  (ak (aW (aH bD (pv 0) aj (aO _)) (az (aG (bU (aa (aL T.QR (fM T) (by decide) hr aR rfl (aa (pv 2) (aa (pv 1) ao))) (aa (pv 4) ao))))) aP)
  (ak (aW (aH bD (pv 0) aj (aO _)) (az (aG (bU (aa (aL T.QR (fM T) (by decide) hr aR rfl (aa (pv 2) (aa (pv 1) ao))) (aa (aA bu (aA bj (aA bj (aA bT (pv 2) aj) aj) (aA bG (aA dZ (pv 3) aj) aj)) aj) ao))))) aP)
  (ak (aC (i:=6) cC.nd rfl (aai rfl) (aN (nH rfl) rfl T.TY Tw.yC (aa (pv 4) (aa (pv 5) ao))))
  (ak (aC (i:=7) cC.nd rfl (aai rfl) (aN (Bf rfl) rfl T.aec Tw.Ih (aa (pv 4) (aa (pv 5) ao))))
  (pO (aW (aH bD (pv 0) aj (aO _)) (az (aC (i:=7) cC.nd rfl (aai rfl) (aN (nH rfl) rfl T.TY Tw.yC (aa (pv 7) (aa (aA bG (pv 6) aj) ao))))) aP)
  (pO (aW (aH bD (aA bj (aA bj (aA bT (pv 2) aj) aj) aj) aj (aO _)) (az (IK (i:=6) (j:=7) rfl cC.nd rfl rfl (by decide) rfl rfl (aa (pv 7) (aa (pv 6) ao)) rfl)) aP)
  (ak (aW (aH bD (pv 0) aj (aO _)) (az (aG (bU (aa (pv 6) (aa (pv 7) (aa (aL T.QR (fM T) (by decide) hr aR rfl (aa (pv 2) (aa (pv 1) ao))) (aa (aL T.QR (fM T) (by decide) hr aR rfl (aa (aA bj (aA bT (pv 2) aj) aj) (aa (pv 1) ao))) ao))))))) aP)
  (ak (aW (aH bD (pv 0) aj (aO _)) (az (aG (bU (aa (pv 6) (aa (pv 7) (aa (aA bu (aA bj (aA bj (aA bT (pv 2) aj) aj) (aA bG (aN El rfl T.aea Tw.Jf (aa (aA bu (pv 7) (pv 6)) ao)) aj)) aj) ao)))))) aP)
  (az (aG (bU (aa (pv 6) (aa (pv 7) ao))))))))))))))))),?_⟩
 have vi:∀{x y:Int},decide (V.int x=V.int y)=true->x=y:=λh=>V.int.inj (of_decide_eq_true h);have vn:∀{x y:Int},¬decide (V.int x=V.int y)=true->x≠y:=λh z=>h (decide_eq_true (congrArg V.int z));refine⟨_,rfl,p,_,rfl,.inl hS,?_⟩;obtain⟨mn,emn,hmn⟩:∃mn:Int,((ns.map V.int).length:Int)=mn/\0<=mn:=⟨_,rfl,by lia⟩;show fQ 3 (.int ((ns.map V.int).length:Int)) _ _ _;rw[emn];refine⟨_,rfl,_,_,rfl,rfl,.inr ⟨by decide,by decide⟩,_,_,rfl,rfl,(by show (0:Int)<2147483629;decide),_,rfl,_,_,rfl,rfl,_,_,rfl,rfl,(show (0:Int)<mn+4 by lia),_,_,rfl,rfl,?_⟩;show fQ 4 (.int (c*48271%2147483629%(mn+4) - 1)) _ _ _;generalize c*48271%2147483629%(mn+4) - 1=one;refine⟨_,rfl,_,_,rfl,rfl,.inr ⟨by decide,by decide⟩,_,_,rfl,rfl,(by show (0:Int)<2147483647;decide),_,rfl,_,_,rfl,rfl,_,_,rfl,rfl,(show (0:Int)<mn+4 by lia),_,_,rfl,rfl,?_⟩;show fQ 5 (.int (c*16807%2147483647%(mn+4) - 1)) _ _ _;generalize c*16807%2147483647%(mn+4) - 1=other;refine⟨_,rfl,rfl,_,rfl,bJ (λc0=>?_) λc0=>?_⟩
 ·exact⟨_,rfl,(by show 1<=sizeLine;decide),λr hr'=>q r [one] _ hr' (au hr' _) aq (.inl ⟨vi c0,_,rfl⟩)⟩
 refine⟨_,rfl,rfl,_,rfl,bJ (λc1=>?_) λc1=>?_⟩
 ·exact⟨_,rfl,_,rfl,c,p,ns,rfl,hS,λz=>⟨_,rfl,(by show 2<=sizeLine;decide),λr hr'=>q r [z,one] _ hr' (au hr' _) aq (.inr (.inl ⟨vi c1,_,_,rfl⟩))⟩⟩
 refine⟨_,rfl,rfl,_,rfl,bJ (λc2=>?_) λc2=>?_⟩
 ·exact⟨_,rfl,_,rfl,c,p,ns,rfl,hS,λz=>⟨_,rfl,_,_,rfl,rfl,.inr ⟨by decide,by decide⟩,_,_,rfl,rfl,(by show (0:Int)<2147483647;decide),_,rfl,_,_,rfl,rfl,⟨by decide,by decide⟩,_,_,rfl,rfl,_,_,rfl,rfl,(show (0:Int)<mn / 4+3 by lia),_,_,rfl,rfl,(by show 2<=sizeLine;decide),λr hr'=>q r [z,_] _ hr' (au hr' _) aq (.inr (.inr (.inl ⟨vi c2,_,_,rfl⟩)))⟩⟩
 refine⟨_,rfl,_,rfl,_,_,rfl,?_⟩;obtain⟨s0,es⟩:∃s0:Int,(if other<one then other else one)=s0:=⟨_,rfl⟩;show fQ 6 (.int (if other<one then other else one)) _ _ _;rw[es];refine⟨_,rfl,_,rfl,_,_,rfl,?_⟩;refine⟨λ σ H'=>H'=H /\ ∃e0:Int,σ=[some (.int way),some (.ref p),some (.int c),some (.int mn),some (.int one),some (.int other),some (.int s0),some (.int e0)],?_,?_⟩
 ·exact⟨_,rfl,rfl,_,rfl,bJ (λ_=>⟨_,rfl,_,rfl,_,_,rfl,rfl,_,_,rfl,rfl,_,rfl⟩) λ_=>⟨rfl,_,rfl⟩⟩
 rintro σ H' ⟨rfl,e0,rfl⟩;refine⟨λ σ H2=>H2=H' /\ ∃s0 e0:Int,σ=[some (.int way),some (.ref p),some (.int c),some (.int mn),some (.int one),some (.int other),some (.int s0),some (.int e0)],?_,?_⟩
 ·refine⟨_,rfl,_,_,rfl,rfl,.inr ⟨by decide,by decide⟩,_,_,rfl,rfl,(by show (0:Int)<2147483647;decide),_,_,rfl,rfl,(by show (0:Int)<9;decide),rfl,_,rfl,bJ (λ_=>?_) λ_=>⟨rfl,_,_,rfl⟩⟩;exact⟨_,rfl,_,rfl,_,_,rfl,rfl,_,_,rfl⟩
 clear es s0 e0
 rintro σ H2 ⟨rfl,s0,e0,rfl⟩;refine⟨_,rfl,rfl,_,rfl,bJ (λc3=>?_) λc3=>?_⟩
 ·exact⟨_,rfl,_,rfl,_,rfl,_,rfl,c,p,ns,rfl,hS,λz=>⟨_,rfl,_,_,rfl,rfl,.inr ⟨by decide,by decide⟩,_,_,rfl,rfl,(by show (0:Int)<2147483563;decide),_,rfl,_,p,ns,rfl,hS,λu=>⟨(by show 4<=sizeLine;decide),λr hr'=>q r [s0,e0,z,u] _ hr' (au hr' _) aq (.inr (.inr (.inr (.inl ⟨vi c3,_,_,_,_,rfl⟩))))⟩⟩⟩
 refine⟨_,rfl,rfl,_,rfl,bJ (λc4=>?_) λc4=>?_⟩
 ·have habs:(0:Int)<(if e0 - s0<0 then -(e0 - s0)else e0 - s0)+3:=by split <;> lia
  exact⟨_,rfl,_,rfl,_,rfl,_,_,rfl,rfl,.inr ⟨by decide,by decide⟩,_,_,rfl,rfl,(by show (0:Int)<2147483647;decide),_,rfl,_,rfl,_,_,rfl,rfl,_,rfl,_,_,rfl,rfl,_,_,rfl,rfl,habs,_,_,rfl,rfl,(by show 3<=sizeLine;decide),λr hr'=>q r [s0,e0,_] _ hr' (au hr' _) aq (.inr (.inr (.inr (.inr (.inl ⟨vi c4,_,_,_,rfl⟩)))))⟩
 have h5:way=5:=by
  have:=vn c0;have:=vn c1;have:=vn c2;have:=vn c3;have:=vn c4;lia
 exact⟨_,rfl,_,rfl,(by show 2<=sizeLine;decide),λr hr'=>q r [s0,e0] _ hr' (au hr' _) aq (.inr (.inr (.inr (.inr (.inr ⟨h5,_,_,rfl⟩)))))⟩
def jx(ns:List Int)(z:Int):List Nat:=(aaO ns.length).filter λi=>decide (ns[i]?=some z)
theorem ou(ns:List Int)(z:Int):∀n,n<=ns.length->((aaO n).filter λi=>decide (ns[i]?=some z)).length=bA (ns.take n) z
 | 0,_=>rfl
 | n+1,h=>by
  have ih:=ou ns z n (by lia);have e:=aac (show n<ns.length by lia);unfold bA at ih ⊢;rw[aaR,aaI,aae,ih,aci,e,aaI,aae];congr 1;show _=([ns[n]].filter λu=>decide (u=z)).length;rw[aau,aau,e];by_cases c:ns[n]=z
  ·rw[if_pos (decide_eq_true (congrArg some c)),if_pos (decide_eq_true c)];rfl
  ·rw[if_neg (λe=>c (aax (of_decide_eq_true e))),if_neg (λe=>c (of_decide_eq_true e))];rfl
theorem tH(z:Int)(ns:List Int):(jx ns z).length=bA ns z:=by
 have:=ou ns z ns.length (aad _);rw[abf]at this;exact this
theorem v9{ns:List Int}{z:Int}{b:Nat}(h:ns[b]?=some z):∀d,b<d->d<=ns.length->((aaO d).filter λi=>decide (ns[i]?=some z))[bA (ns.take b) z]?=some b
 | 0,h0,_=>absurd h0 (aby _)
 | d+1,h0,hd=>by
  rw[aaR,aaI];rcases aaM b d with c|c
  ·have ih:=v9 h d c (by lia);rw[aar (aab.mp ih).1];exact ih
  ·have e:b=d:=by lia
   subst e;rw[<-ou ns z b (by lia),aap (aad _),abA,aau,if_pos (decide_eq_true h)];rfl
theorem mZ{ns:List Int}{z:Int}{b:Nat}(h:ns[b]?=some z):(jx ns z)[bA (ns.take b) z]?=some b:=v9 h _ (aab.mp h).1 (aad _)
theorem oF{ms ns:List Int}(h:abb ms ns)(z:Int):lows ms z=lows ns z/\bA ms z=bA ns z:=⟨(h.filter _).length_eq,(h.filter _).length_eq⟩
theorem uW{z u:Int}(h:z<u):∀ms:List Int,lows ms z+bA ms z<=lows ms u
 | []=>aad _
 | v::ms=>by
  have ih:=uW h ms;unfold lows bA at ih ⊢;rw[aau,aau,aau];rcases adK v z with c|c|c
  ·rw[if_pos (decide_eq_true c),if_neg (λe=>by have:=of_decide_eq_true e;lia),if_pos (decide_eq_true (by lia)),aan,aan];lia
  ·rw[if_neg (λe=>by have:=of_decide_eq_true e;lia),if_pos (decide_eq_true c),if_pos (decide_eq_true (by lia)),aan,aan];lia
  ·rw[if_neg (λe=>by have:=of_decide_eq_true e;lia),if_neg (λe=>by have:=of_decide_eq_true e;lia)];split
   ·rw[aan];lia
   ·exact ih
theorem p7{z:Int}:∀{ms:List Int}{j:Nat},ms.Pairwise (· <= ·)->ms[j]?=some z->lows ms z<=j/\j<lows ms z+bA ms z
 | [],j,_,h=>by cases h
 | u::ms,0,hp,h=>by
  cases h;obtain⟨hu,_⟩:=abk.mp hp;have h0:(ms.filter λv=>v<z).length=0:=by
   rw[abp.mpr]
   ·rfl
   intro v hv e;have:=of_decide_eq_true e;have:=hu v hv;lia
  unfold lows bA;rw[aau,aau,if_neg (λe=>by have:=of_decide_eq_true e;lia),if_pos (decide_eq_true rfl),h0,aan];lia
 | u::ms,j+1,hp,h=>by
  obtain⟨hu,hp'⟩:=abk.mp hp;have h:ms[j]?=some z:=h;have ih:=p7 hp' h;have Zm:=hu z (aah h);unfold lows bA at ih ⊢;rw[aau,aau];by_cases c:u<z
  ·rw[if_pos (decide_eq_true c),if_neg (λe=>by have:=of_decide_eq_true e;lia),aan];lia
  ·rw[if_neg (λe=>c (of_decide_eq_true e)),if_pos (decide_eq_true (by lia)),aan];lia
theorem Told.uniq{ns:List Int}{ps qs:List (Int×Nat)}(h:Told ns ps)(h':Told ns qs):ps=qs:=by
 have e:=uh h.up h'.up λz=>(h.mem z).trans (h'.mem z).symm;have l:ps.length=qs.length:=by
  have:=congrArg abC e;rw[aaa,aaa]at this;exact this
 refine adZ l λi h1 h2=>?_;have e1:ps[i].1=qs[i].1:=by
  have a:(ps.map (·.1))[i]?=some ps[i].1:=by rw[aag,aac h1];rfl
  have b:(qs.map (·.1))[i]?=some qs[i].1:=by rw[aag,aac h2];rfl
  rw[e,b]at a;exact(aax a).symm
 have e2:=h.cnt _ (aaP h1);have e3:=h'.cnt _ (aaP h2);exact Prod.ext e1 (by rw[e2,e3,e1])
inductive An where
 | v (z:Int)
 | l (ps:List (Int×Nat))
def Q9(ns:List Int)(s e:Int):Prop:=0<=s/\s<=e/\e<=(ns.length:Int)
def AR(ns:List Int)(way:Int)(ps:List Int)(o:Option An):Prop:=
 (way=0 /\ ∃x,ps=[x]/\((∃(j:Nat) (z:Int),x=(j:Int)/\ns[j]?=some z/\o=some (.v z))\/((x<0\/(ns.length:Int)<=x)/\o=none))) \/
 (way=1 /\ ∃z x,ps=[z,x]/\((∃j:Nat,x=(j:Int)/\j<=ns.length/\o=some (.v (((ns.take j).filter λy=>y=z).length:Int)))\/((x<0\/(ns.length:Int)<x)/\o=none))) \/
 (way=2 /\ ∃z x,ps=[z,x]/\((∃k b:Nat,x=(k:Int)/\ns[b]?=some z/\bA (ns.take b) z=k/\o=some (.v (b:Int)))\/((x<0\/(bA ns z:Int)<=x)/\o=none))) \/
 (way=3 /\ ∃s e lo hi,ps=[s,e,lo,hi]/\((∃x y:Nat,s=(x:Int)/\e=(y:Int)/\x<=y/\y<=ns.length/\o=some (.v (((seg ns x y).filter λu=>decide (lo<=u) && decide (u<hi)).length:Int)))\/(¬Q9 ns s e/\o=none))) \/
 (way=4 /\ ∃s e k,ps=[s,e,k]/\((∃(x y j:Nat) (z:Int),s=(x:Int)/\e=(y:Int)/\k=(j:Int)/\x<=y/\y<=ns.length/\j<y - x/\lows (seg ns x y) z<=j/\j<lows (seg ns x y) z+bA (seg ns x y) z/\o=some (.v z))\/((¬Q9 ns s e\/k<0\/e - s<=k)/\o=none))) \/
 (way=5 /\ ∃s e,ps=[s,e]/\((∃(x y:Nat) (qs:List (Int×Nat)),s=(x:Int)/\e=(y:Int)/\x<=y/\y<=ns.length/\Told (seg ns x y) qs/\o=some (.l qs))\/(¬Q9 ns s e/\o=none)))
theorem AR.uniq{ns:List Int}{way:Int}{ps:List Int}{o o':Option An}(h:AR ns way ps o)(h':AR ns way ps o'):o=o':=by
 unfold AR Q9 at h h';rcases h with ⟨rfl,x,rfl,h⟩|⟨rfl,z,x,rfl,h⟩|⟨rfl,z,x,rfl,h⟩|⟨rfl,s,e,lo,hi,rfl,h⟩|⟨rfl,s,e,k,rfl,h⟩|⟨rfl,s,e,rfl,h⟩
 ·rcases h' with ⟨_,y,ey,h'⟩|⟨z,_⟩|⟨z,_⟩|⟨z,_⟩|⟨z,_⟩|⟨z,_⟩
  ·cases ey;rcases h with ⟨j,z,e,hz,rfl⟩|⟨h,rfl⟩ <;> rcases h' with ⟨j',z',e',hz',rfl⟩|⟨h',rfl⟩
   ·have:j=j':=by lia
    subst this;rw[hz]at hz';cases hz';rfl
   ·have:=(aab.mp hz).1;lia
   ·have:=(aab.mp hz').1;lia
   ·rfl
  all_goals exact absurd z (by decide)
 ·rcases h' with ⟨y,_⟩|⟨_,z',x',ey,h'⟩|⟨y,_⟩|⟨y,_⟩|⟨y,_⟩|⟨y,_⟩
  ·exact absurd y (by decide)
  ·cases ey;rcases h with ⟨j,e,hj,rfl⟩|⟨h,rfl⟩ <;> rcases h' with ⟨j',e',hj',rfl⟩|⟨h',rfl⟩
   ·have:j=j':=by lia
    subst this;rfl
   ·lia
   ·lia
   ·rfl
  all_goals exact absurd y (by decide)
 ·rcases h' with ⟨y,_⟩|⟨y,_⟩|⟨_,z',x',ey,h'⟩|⟨y,_⟩|⟨y,_⟩|⟨y,_⟩
  ·exact absurd y (by decide)
  ·exact absurd y (by decide)
  ·cases ey;have lt:∀{k b:Nat},ns[b]?=some z->bA (ns.take b) z=k->k<bA ns z:=λ{k b} hb hk=>by
    have h1:=mZ hb;have h2:=(aab.mp h1).1;rw[tH]at h2;lia
   rcases h with ⟨k,b,e,hb,hk,rfl⟩|⟨h,rfl⟩ <;> rcases h' with ⟨k',b',e',hb',hk',rfl⟩|⟨h',rfl⟩
   ·have h1:=mZ hb;have h2:=mZ hb';rw[hk]at h1;rw[hk',show k'=k by lia,h1]at h2;cases h2;rfl
   ·have:=lt hb hk;lia
   ·have:=lt hb' hk';lia
   ·rfl
  all_goals exact absurd y (by decide)
 ·rcases h' with ⟨y,_⟩|⟨y,_⟩|⟨y,_⟩|⟨_,s',e',lo',hi',ey,h'⟩|⟨y,_⟩|⟨y,_⟩
  ·exact absurd y (by decide)
  ·exact absurd y (by decide)
  ·exact absurd y (by decide)
  ·cases ey;rcases h with ⟨x,y,e1,e2,h1,h2,rfl⟩|⟨h,rfl⟩ <;> rcases h' with ⟨x',y',e1',e2',h1',h2',rfl⟩|⟨h',rfl⟩
   ·have:x=x':=by lia
    have:y=y':=by lia
    subst_vars
    rfl
   ·lia
   ·lia
   ·rfl
  all_goals exact absurd y (by decide)
 ·rcases h' with ⟨y,_⟩|⟨y,_⟩|⟨y,_⟩|⟨y,_⟩|⟨_,s',e',k',ey,h'⟩|⟨y,_⟩
  ·exact absurd y (by decide)
  ·exact absurd y (by decide)
  ·exact absurd y (by decide)
  ·exact absurd y (by decide)
  ·cases ey;rcases h with ⟨x,y,j,z,e1,e2,e3,h1,h2,h3,h4,h5,rfl⟩|⟨h,rfl⟩ <;> rcases h' with ⟨x',y',j',z',e1',e2',e3',h1',h2',h3',h4',h5',rfl⟩|⟨h',rfl⟩
   ·have a1:x=x':=by lia
    have a2:y=y':=by lia
    have a3:j=j':=by lia
    subst a1 a2 a3;rcases adK z z' with c|c|c
    ·have:=uW c (seg ns x y);lia
    ·rw[c]
    ·have:=uW c (seg ns x y);lia
   ·lia
   ·lia
   ·rfl
  ·exact absurd y (by decide)
 ·rcases h' with ⟨y,_⟩|⟨y,_⟩|⟨y,_⟩|⟨y,_⟩|⟨y,_⟩|⟨_,s',e',ey,h'⟩
  ·exact absurd y (by decide)
  ·exact absurd y (by decide)
  ·exact absurd y (by decide)
  ·exact absurd y (by decide)
  ·exact absurd y (by decide)
  ·cases ey;rcases h with ⟨x,y,qs,e1,e2,h1,h2,h3,rfl⟩|⟨h,rfl⟩ <;> rcases h' with ⟨x',y',qs',e1',e2',h1',h2',h3',rfl⟩|⟨h',rfl⟩
   ·have a1:x=x':=by lia
    have a2:y=y':=by lia
    subst a1 a2;rw[h3.uniq h3']
   ·lia
   ·lia
   ·rfl
def Gs(H:Hp)(r:Addr):Option An->Prop
 | none=>H r=some (.lst [])
 | some (.v z)=>H r=some (.lst [.int z])
 | some (.l ps)=>∃(l:Addr) (us:List V),H r=some (.lst [.ref l])/\H l=some (.lst us)/\Rows H us ps
theorem iV{lo:Int}{n:Nat}{cap:L2.St}{tt:TT}{te:TE}{Qf:Addr->Hp->Prop}{H:Hp}(f:Nat->Bool)(g:Nat->V)(hl:n<sizeLine)
  (htt:∀(i:Nat) (H':Hp) (Q:Bool->Hp->Prop),i<n->aV H H'->Q (f i) H'->tt (some (.int (lo+i))::cap) H' Q)(Oc:∀(i:Nat) (H':Hp) (Q:VK),i<n->f i=true->aV H H'->Q (g i) H'->te (some (.int (lo+i))::cap) H' Q)
  (q:∀D,H D=none->Qf D (upd H D (.lst (((aaO n).filter f).map g)))):j7 (Oj lo n) cap tt te Qf H:=by
 intro D hD;refine⟨λi m ys H1=>m=n - i/\i<=n/\ys=((aaO i).filter f).map g/\H1=upd H D (.lst ys),⟨_,rfl,aaq _,rfl,rfl⟩,?_⟩;rintro i m ys H1 ⟨rfl,hi,rfl,rfl⟩;by_cases hlt:i<n
 ·refine .inr ⟨hlt,λv H2 y=>?_⟩;obtain⟨rfl,rfl⟩:=y;refine htt i _ _ hlt (au hD _) ?_;have hlen:(((aaO i).filter f).map g).length<=i:=by
   rw[aaa];refine aaS (abx _ _) ?_;rw[abi];exact aad _
  by_cases d:f i=true
  ·rw[d,if_pos rfl];refine Oc i _ _ hlt d (au hD _) ⟨aq,by lia,n - (i+1),by lia,rfl,hlt,?_,?_⟩
   ·rw[aaR,aaI,aam];show _=_++(aeh f [i]).map g;rw[abD d];rfl
   ·rw[mR]
  ·have d':f i=false:=by
    cases e:f i
    ·rfl
    ·exact absurd e d
   rw[d'];refine cF ⟨n - (i+1),by lia,rfl,hlt,?_,rfl⟩;rw[aaR,aaI,aam];show _=_++(aeh f [i]).map g;rw[abP d];exact(abv _).symm
 ·have e:i=n:=by lia
  subst e;exact .inl ⟨aad _,q D hD⟩
theorem uo(x:Int):∀n:Nat,(aaO n).filter (λi:Nat=>decide (V.int (0+((i:Nat):Int))=V.int x))=if 0<=x/\x<(n:Int)then [x.toNat]else []
 | 0=>by
  rw[if_neg (by lia)];rfl
 | n+1=>by
  rw[aaR,aaI,uo x n];have e:(aeh (λi:Nat=>decide (V.int (0+((i:Nat):Int))=V.int x)) [n])=if (n:Int)=x then [n]else []:=by
   rw[aau];by_cases c:(n:Int)=x
   ·rw[if_pos c,if_pos (decide_eq_true (congrArg V.int (by lia)))];rfl
   ·rw[if_neg c,if_neg λz=>c (by have:=V.int.inj (of_decide_eq_true z);lia)];rfl
  rw[e];by_cases c:(n:Int)=x
  ·rw[if_pos c,if_neg (by lia),if_pos (by lia),abj];congr 1;lia
  ·rw[if_neg c,abv];by_cases d:0<=x/\x<(n:Int)
   ·rw[if_pos d,if_pos (by lia)]
   ·rw[if_neg d,if_neg (by lia)]
theorem at_getD{ns:List Int}{i:Nat}(h:i<ns.length):Lj (ns.map V.int) (0+(i:Int))=some (.int (ns.getD i 0)):=by
 rw[adf];refine cM ?_;rw[aaH,aac h];rfl
theorem vp{ns:List Int}{x:Int}{H:Hp}{r:Addr}(h:H r=some (.lst (((aaO ns.length).filter (λi:Nat=>decide (V.int (0+((i:Nat):Int))=V.int x))).map λi=>V.int (ns.getD i 0)))):(∃(j:Nat) (z:Int),x=(j:Int)/\ns[j]?=some z/\Gs H r (some (.v z)))\/((x<0\/(ns.length:Int)<=x)/\Gs H r none):=by
 rw[uo]at h;by_cases c:0<=x/\x<(ns.length:Int)
 ·rw[if_pos c]at h;have hj:x.toNat<ns.length:=by lia
  refine .inl ⟨x.toNat,ns[x.toNat],by lia,aac hj,?_⟩;show H r=some (.lst [.int ns[x.toNat]]);rw[h,List.map_singleton,aaH,aac hj];rfl
 ·rw[if_neg c]at h;exact .inr ⟨by lia,h⟩
inductive Im(K:PySem.W.Frag)(vs:List V)(H:Hp)(Q:VK)(_e1:XK):Prop
 | mk (way:Int) (sg pt:Addr) (ns ps:List Int) (_:vs=[.int way,.ref sg,.ref pt]) (_:K5 K H sg (ns.map V.int)) (_:H pt=some (.tup (ps.map V.int))) (_:pL way ps) (_:ns.length<=1000) (_:∀r o H',aV H H'->Gs H' r o->AR ns way ps o->Q (.ref r) H')
theorem yL(T:Tx K mg a):bh P w K mg base K9 1 a.X8 a.Yb ["_law_way","_law_signs_here","_law_parts_here"] (Im K):=by
 refine T.YX.F.ok lK (λvs H Q E h=>?_) (λcdv A outer s H vs Q E hr h=>?_)
 ·obtain⟨way,sg,pt,ns,ps,rfl,_⟩:=h;rfl
 obtain⟨way,sg,pt,ns,ps,rfl,hS,xp,hp,hl,q⟩:=h;refine⟨_,(ak (aW (aH bD (pv 0) aj (aO _)) (az (aG (fP rfl (bM.two (j:=1) (k:=2) (by decide) rfl rfl (aai rfl) (aai rfl) rfl rfl rfl (aai rfl) (aai rfl)) (fB rfl T.Og (aa (aN aF rfl T.Lg Tw.bc (aa (pv 1) ao)) ao)) (λ_ _ _ _=>(fK (aH bD (pv 0) (aM (show LC _ (pI K)from aJ) (pv 2) aj (λ_ _=>rfl)) (aO _)))) (λ_ _ _ _=>(aM (show LC _ (Cm K)from cD) (pv 1) (pv 0) (λ_ _=>rfl)))))) aP)
  (ak (aW (aH bD (pv 0) aj (aO _)) (ak (aW (PW.pt (iI (aH iD (aM aJ (pv 2) aj (λ_ _=>rfl)) aj (aO _)) (jm (aH mq (aM aJ (pv 2) aj (λ_ _=>rfl)) (aN aF rfl T.Lg Tw.bc (aa (pv 1) ao)) (aO _))))) (az (aG (bR ao))) aP)
  (az (aG (bR (aa (aN aF rfl T.Lg Tw.bc (aa (fP rfl (bM.one (j:=2) rfl (aai rfl) rfl rfl (aai rfl)) (bV (jE mJ (pv 1) uT (jt (aM aJ (pv 2) aj (λ_ _=>rfl))))) (λ_ _ _ _=>(fK (aH bD (pv 0) (aM (show LC _ (pI K)from aJ) (pv 1) aj (λ_ _=>rfl)) (aO _)))) (λ_ _ _ _=>(pv 0))) ao)) ao))))) aP)
  (ak (aW (aH bD (pv 0) aj (aO _)) (ak (aC (i:=3) lK.nd rfl (acJ rfl) (fP rfl (bM.two (j:=1) (k:=2) (by decide) rfl rfl (aai rfl) (aai rfl) rfl rfl rfl (aai rfl) (aai rfl)) (fB rfl T.Og (aa (aN aF rfl T.Lg Tw.bc (aa (pv 1) ao)) ao)) (λ_ _ _ _=>(fK (aH bD (aM (show LC _ (Cm K)from cD) (pv 1) (pv 0) (λ_ _=>rfl)) (aM (show LC _ (pI K)from aJ) (pv 2) aj (λ_ _=>rfl)) (aO _)))) (λ_ _ _ _=>(pv 0))))
  (az (aG (fP rfl (bM.two (j:=3) (k:=2) (by decide) rfl rfl (aai rfl) (aai rfl) rfl rfl rfl (aai rfl) (aai rfl)) (fB rfl T.Og (aa (aN aF rfl T.Lg Tw.bc (aa (pv 3) ao)) ao)) (λ_ _ _ _=>(fK (aH bD (pv 0) (aM (show LC _ (pI K)from aJ) (pv 2) aj (λ_ _=>rfl)) (aO _)))) (λ_ _ _ _=>(aM (show LC _ (Cm K)from cD) (pv 1) (pv 0) (λ_ _=>rfl))))))) aP)
  (ak (aW (PW.pt (iI (aH iD (aM aJ (pv 2) aj (λ_ _=>rfl)) aj (aO _)) (iI (aH mq (aM aJ (pv 2) aj (λ_ _=>rfl)) (aM aJ (pv 2) aj (λ_ _=>rfl)) (aO _)) (jm (aH mq (aM aJ (pv 2) aj (λ_ _=>rfl)) (aN aF rfl T.Lg Tw.bc (aa (pv 1) ao)) (aO _)))))) (az (aG (bR ao))) aP)
  (ak (aC (i:=4) lK.nd rfl (acJ rfl) (aN uD rfl T.T5 Tw.oN (aa (jE mJ (pv 1) (jt (aM aJ (pv 2) aj (λ_ _=>rfl))) (jt (aM aJ (pv 2) aj (λ_ _=>rfl)))) ao)))
  (ak (aW (aH bD (pv 0) aj (aO _)) (az (aG (bR (aa (aN aF rfl T.Lg Tw.bc (aa (fP rfl (bM.one (j:=2) rfl (aai rfl) rfl rfl (aai rfl)) (bV (pv 4)) (λ_ _ _ _=>(fK (qH oX iD (aM (show LC _ (pI K)from aJ) (pv 1) aj (λ_ _=>rfl)) (pv 0) (aM (show LC _ (pI K)from aJ) (pv 1) aj (λ_ _=>rfl))))) (λ_ _ _ _=>(pv 0))) ao)) ao)))) aP)
  (ak (aW (aH bD (pv 0) aj (aO _)) (az (aG (fP rfl (bM.two (j:=2) (k:=4) (by decide) rfl rfl (aai rfl) (aai rfl) rfl rfl rfl (aai rfl) (aai rfl)) (fB rfl T.Og (aa (aN aF rfl T.Lg Tw.bc (aa (pv 4) ao)) ao)) (λ_ _ _ _=>(fK (aH bD (pv 0) (aM (show LC _ (pI K)from aJ) (pv 1) aj (λ_ _=>rfl)) (aO _)))) (λ_ _ _ _=>(aM (show LC _ (Cm K)from cD) (pv 2) (pv 0) (λ_ _=>rfl)))))) aP)
  (az (aG (bR (aa (Eo rfl (kO.one (j:=4) rfl (aai rfl) rfl rfl (aai rfl)) (bV (aN (m8 rfl) rfl T.T5 Tw.oN (aa (fj (oh rfl) rfl T.T4 Tw.yP (aa (pv 4) ao)) ao))) (λ_ _ _ _ _=>jc) (λ_ _ _ _ _=>by exact(bU (aa (pv 0) (aa (aN (show gH _ (.builtin "len") (λxs H Q=>∃p ys,xs=[.ref p]/\(K5 K H p ys\/K6 K H p ys)/\Q (.int ys.length) H)from aF) rfl T.Lg Tw.bc (aa (fP rfl (bM.one (j:=0) rfl (aai rfl) rfl rfl (aai rfl)) (show PI _ _ _ (Hc K _)from bV (pv 1)) (λ_ _ _ _=>(by exact(fK (aH bD (pv 0) (pv 1) (aO _))))) (λ_ _ _ _=>(by exact(pv 0)))) ao)) ao))))) ao))))))))))),?_⟩
 have MF:(ns.map V.int).length=ns.length:=aaa ..;rcases hp with ⟨rfl,x,rfl⟩|⟨rfl,z,x,rfl⟩|⟨rfl,z,x,rfl⟩|hp
 ·refine⟨_,rfl,rfl,_,rfl,dz ⟨_,rfl,sg,_,rfl,.inl hS,(ns.length:Int),congrArg (λn:Nat=>[V.int (n:Int)]) MF,by lia,by lia,?_⟩⟩;rw[aaD];refine iV (λi=>decide (V.int (0+(i:Int))=V.int x)) (λi=>.int (ns.getD i 0)) (by rw[sizeLine_eq];lia) (λi H' Q' hi sm qq=>⟨_,rfl,_,rfl,pt,_,_,_,rfl,rfl,K6.of (sm _ _ xp),rfl,rfl,_,rfl,qq⟩) (λi H' Q' hi c sm qq=>⟨_,rfl,_,rfl,sg,_,_,_,rfl,rfl,sm.seq hS,at_getD hi,qq⟩) λD hD=>?_;rcases vp (ns:=ns) (x:=x) (r:=D) aq with ⟨j,z,e,hz,ho⟩|⟨e,ho⟩
  ·exact q D _ _ (au hD _) ho (.inl ⟨rfl,x,rfl,.inl ⟨j,z,e,hz,rfl⟩⟩)
  ·exact q D _ _ (au hD _) ho (.inl ⟨rfl,x,rfl,.inr ⟨e,rfl⟩⟩)
 ·refine⟨_,rfl,rfl,_,rfl,cF ⟨_,rfl,rfl,_,rfl,dz ?_⟩⟩;have none1:(x<0\/(ns.length:Int)<x)->([]:List V).length<=sizeLine /\ ∀r,H r=none->Q (.ref r) (upd H r (.lst [])):=λe=>⟨aaq _,λr hr'=>q r none _ (au hr' _) aq (.inr (.inl ⟨rfl,z,x,rfl,.inr ⟨e,rfl⟩⟩))⟩;refine⟨_,rfl,pt,_,_,_,rfl,rfl,K6.of xp,rfl,_,_,rfl,rfl,_,rfl,bJ (λc=>dz (none1 (.inl (of_decide_eq_true c)))) λc=>?_⟩;have c:¬x<0:=λy=>c (decide_eq_true y);refine⟨_,rfl,pt,_,_,_,rfl,rfl,K6.of xp,rfl,_,rfl,sg,_,rfl,.inl hS,_,_,rfl,rfl,_,rfl,bJ (λd=>?_) λd=>?_⟩
  ·have d:((ns.map V.int).length:Int)<x:=of_decide_eq_true d;exact none1 (.inr (by lia))
  have d:¬((ns.map V.int).length:Int)<x:=λy=>d (decide_eq_true y);obtain⟨j,rfl⟩:∃j:Nat,x=(j:Int):=⟨x.toNat,by lia⟩;refine⟨_,rfl,_,rfl,pt,_,_,_,rfl,rfl,K6.of xp,rfl,_,rfl,sg,_,rfl,hS,λl hl'=>?_⟩;rw[zc];have s1:=au hl' (.lst ((ns.take j).map V.int));refine⟨l,rfl,⟨_,K5.of aq⟩,?_⟩;refine lQ (λu=>decide (V.int u=V.int z)) (K5.of aq) (by rw[sizeLine_eq,aaC];lia) (λu H' Q' sm qq=>⟨_,rfl,_,rfl,pt,_,_,_,rfl,rfl,K6.of ((s1.trans sm) _ _ xp),rfl,rfl,_,rfl,qq⟩) (λu H' Q' sm qq=>⟨_,rfl,qq⟩) λD hD=>?_;have s2:=au hD (.lst (((ns.take j).filter λu=>decide (V.int u=V.int z)).map V.int));refine⟨D,_,rfl,.inl (K5.of aq),(by show 1<=sizeLine;decide),λr hr'=>?_⟩;refine q r (some (.v (((ns.take j).filter λy=>y=z).length:Int))) _ (s1.trans (s2.trans (au hr' _))) ?_ (.inr (.inl ⟨rfl,z,_,rfl,.inl ⟨j,rfl,by lia,rfl⟩⟩));show _=some (HO.lst [.int _]);rw[aq,aaa];congr 6;refine aa9 λu _=>?_;exact decide_eq_decide.mpr ⟨V.int.inj,λz=>by rw[z]⟩
 ·refine⟨_,rfl,rfl,_,rfl,cF ⟨_,rfl,rfl,_,rfl,cF ⟨_,rfl,rfl,_,rfl,dz ⟨_,rfl,sg,_,rfl,.inl hS,(ns.length:Int),congrArg (λn:Nat=>[V.int (n:Int)]) MF,by lia,by lia,?_⟩⟩⟩⟩;rw[aaD];refine iV (λi=>decide (V.int (ns.getD i 0)=V.int z)) (λi=>.int (0+(i:Int))) (by rw[sizeLine_eq];lia) (λi H' Q' hi sm qq=>⟨_,rfl,_,rfl,sg,_,_,_,rfl,rfl,sm.seq hS,at_getD hi,_,rfl,pt,_,_,_,rfl,rfl,K6.of (sm _ _ xp),rfl,rfl,_,rfl,qq⟩) (λi H' Q' hi c sm qq=>⟨_,rfl,qq⟩) λD hD=>?_;have eF:(aaO ns.length).filter (λi=>decide (V.int (ns.getD i 0)=V.int z))=jx ns z:=by
   unfold jx;refine aa9 λi hi=>?_;have hi:=ach.mp hi;rw[aaH,aac hi];exact decide_eq_decide.mpr ⟨λz=>by rw[<-V.int.inj z];rfl,λz=>by rw[<-aax z];rfl⟩
  rw[eF];have eM:((jx ns z).map λi:Nat=>V.int (0+((i:Nat):Int)))=((jx ns z).map λi:Nat=>((i:Nat):Int)).map V.int:=by
   rw[acK];exact acC λi _=>by rw[adf];rfl
  rw[eM];have hsl:=tH z ns;have s1:=au hD (.lst (((jx ns z).map λi:Nat=>((i:Nat):Int)).map V.int));have xD:upd H D (.lst (((jx ns z).map λi:Nat=>((i:Nat):Int)).map V.int)) D=some (.lst (((jx ns z).map λi:Nat=>((i:Nat):Int)).map V.int)):=aq;generalize hq:((jx ns z).map λi:Nat=>((i:Nat):Int))=qs at *;have hql:qs.length=bA ns z:=by rw[<-hq,aaa,hsl]
  have hqs:bA ns z<=ns.length:=abx _ _;generalize upd H D (.lst (qs.map V.int))=H1 at *;refine⟨_,rfl,D,_,rfl,.inl (K5.of xD),(qs.length:Int),congrArg (λn:Nat=>[V.int (n:Int)]) (aaa ..),by lia,by lia,?_⟩;rw[aaD];refine iV (λi=>decide (V.int (0+(i:Int))=V.int x)) (λi=>.int (qs.getD i 0)) (by rw[sizeLine_eq];lia) (λi H' Q' hi sm qq=>⟨_,rfl,_,rfl,pt,_,_,_,rfl,rfl,K6.of ((s1.trans sm) _ _ xp),rfl,rfl,_,rfl,qq⟩) (λi H' Q' hi c sm qq=>⟨_,rfl,_,rfl,D,_,_,_,rfl,rfl,K5.of (sm _ _ xD),at_getD hi,qq⟩) λr hr'=>?_;rcases vp (ns:=qs) (x:=x) (r:=r) aq with ⟨j,u,e,hu,ho⟩|⟨e,ho⟩
  ·rw[<-hq,aag]at hu;obtain⟨b,hb,rfl⟩:=aaJ.mp hu;have hbm:=aah hb;unfold jx at hbm;have Zn:=of_decide_eq_true (aaY.mp hbm).2;refine q r _ _ (s1.trans (au hr' _)) ho (.inr (.inr (.inl ⟨rfl,z,x,rfl,.inl ⟨j,b,e,Zn,?_,rfl⟩⟩)));have h1:=mZ Zn;have nd:(jx ns z).Nodup:=List.nodup_range.filter _;obtain⟨i1,e1⟩:=aab.mp h1;obtain⟨i2,e2⟩:=aab.mp hb;rcases abM (bA (ns.take b) z) j with c|c|c
   ·exact absurd (e1.trans e2.symm) (aaB.mp nd _ _ i1 i2 c)
   ·exact c
   ·exact absurd (e2.trans e1.symm) (aaB.mp nd _ _ i2 i1 c)
  ·exact q r _ _ (s1.trans (au hr' _)) ho (.inr (.inr (.inl ⟨rfl,z,x,rfl,.inr ⟨by lia,rfl⟩⟩)))
 ·obtain⟨s0,e0,rest,eps,hq⟩:∃s0 e0 rest,ps=s0::e0::rest/\((way=3 /\ ∃lo hi,rest=[lo,hi])\/(way=4 /\ ∃k,rest=[k])\/(way=5/\rest=[])):=by
   rcases hp with ⟨e,x,y,z,u,rfl⟩|⟨e,x,y,z,rfl⟩|⟨e,x,y,rfl⟩
   ·exact⟨x,y,_,rfl,.inl ⟨e,z,u,rfl⟩⟩
   ·exact⟨x,y,_,rfl,.inr (.inl ⟨e,z,rfl⟩)⟩
   ·exact⟨x,y,_,rfl,.inr (.inr ⟨e,rfl⟩)⟩
  subst eps
  clear hp
  have a0:Lj ((s0::e0::rest).map V.int) 0=some (.int s0):=cM (i:=0) rfl;have a1:Lj ((s0::e0::rest).map V.int) 1=some (.int e0):=cM (i:=1) rfl;have nw:∀j:Int,j<3 -> ¬decide (V.int way=V.int j)=true:=λj hj z=>by
   have:=V.int.inj (of_decide_eq_true z);rcases hq with ⟨e,_⟩|⟨e,_⟩|⟨e,_⟩ <;> lia
  refine⟨_,rfl,rfl,_,rfl,bJ (λz=>absurd z (nw 0 (by decide))) λ_=>⟨_,rfl,rfl,_,rfl,bJ (λz=>absurd z (nw 1 (by decide))) λ_=>⟨_,rfl,rfl,_,rfl,bJ (λz=>absurd z (nw 2 (by decide))) λ_=>?_⟩⟩⟩;have none1:¬Q9 ns s0 e0->([]:List V).length<=sizeLine /\ ∀r,H r=none->Q (.ref r) (upd H r (.lst [])):=λe=>⟨aaq _,λr hr'=>q r none _ (au hr' _) aq (by
   rcases hq with ⟨rfl,lo,hi,rfl⟩|⟨rfl,k,rfl⟩|⟨rfl,rfl⟩
   ·exact .inr (.inr (.inr (.inl ⟨rfl,s0,e0,lo,hi,rfl,.inr ⟨e,rfl⟩⟩)))
   ·exact .inr (.inr (.inr (.inr (.inl ⟨rfl,s0,e0,k,rfl,.inr ⟨.inl e,rfl⟩⟩))))
   ·exact .inr (.inr (.inr (.inr (.inr ⟨rfl,s0,e0,rfl,.inr ⟨e,rfl⟩⟩)))))⟩
  refine⟨_,rfl,pt,_,_,_,rfl,rfl,K6.of xp,a0,_,_,rfl,rfl,_,rfl,bJ (λc=>dz (none1 λv=>?_)) λc1=>?_⟩
  ·have c:s0<0:=of_decide_eq_true c;have:=v.1;lia
  have c1:¬s0<0:=λy=>c1 (decide_eq_true y);refine⟨_,rfl,pt,_,_,_,rfl,rfl,K6.of xp,a0,_,rfl,pt,_,_,_,rfl,rfl,K6.of xp,a1,_,_,rfl,rfl,_,rfl,bJ (λc=>dz (none1 λv=>?_)) λc2=>?_⟩
  ·have c:e0<s0:=of_decide_eq_true c;have:=v.2.1;lia
  have c2:¬e0<s0:=λy=>c2 (decide_eq_true y);refine⟨_,rfl,pt,_,_,_,rfl,rfl,K6.of xp,a1,_,rfl,sg,_,rfl,.inl hS,_,_,rfl,rfl,_,rfl,bJ (λc=>none1 λv=>?_) λc3=>?_⟩
  ·have c:((ns.map V.int).length:Int)<e0:=of_decide_eq_true c;have:=v.2.2;lia
  have c3:¬((ns.map V.int).length:Int)<e0:=λy=>c3 (decide_eq_true y)
  clear none1
  obtain⟨x,rfl⟩:∃x:Nat,s0=(x:Int):=⟨s0.toNat,by lia⟩;obtain⟨y,rfl⟩:∃y:Nat,e0=(y:Int):=⟨e0.toNat,by lia⟩;have hxy:x<=y:=by lia
  have RX:y<=ns.length:=by lia
  have hsl:=cP (x:=x) RX;refine⟨_,rfl,_,rfl,pt,_,_,_,rfl,rfl,K6.of xp,a0,_,rfl,_,rfl,pt,_,_,_,rfl,rfl,K6.of xp,a1,_,rfl,sg,_,rfl,hS,λl hl'=>?_⟩;rw[show rJ (ns.map V.int) (some (x:Int)) (some (y:Int))=(seg ns x y).map V.int from zx ns x y];have s1:=au hl' (.lst ((seg ns x y).map V.int));refine⟨l,seg ns x y,rfl,K5.of aq,by lia,λpa ms hpa pm T7=>?_⟩;have s2:=s1.trans (au hpa (.lst (ms.map V.int)));have O5:upd (upd H l (.lst ((seg ns x y).map V.int))) pa (.lst (ms.map V.int)) pa=some (.lst (ms.map V.int)):=aq;have Np:ms.length=y - x:=by rw[pm.length_eq,hsl]
  have NT:(ms.map V.int).length=ms.length:=aaa ..;have Uk:=s2 _ _ xp;generalize upd (upd H l (.lst ((seg ns x y).map V.int))) pa (.lst (ms.map V.int))=H2 at *
  clear a0 a1 nw
  rcases hq with ⟨rfl,lo,hi,rfl⟩|⟨rfl,k,rfl⟩|⟨rfl,rfl⟩
  ·refine⟨_,rfl,rfl,_,rfl,dz ⟨_,rfl,pa,rfl,⟨_,K5.of O5⟩,?_⟩⟩;refine lQ (λu=>decide (lo<=u) && decide (u<hi)) (K5.of O5) (by rw[sizeLine_eq];lia) (λu H' Q' sm qq=>⟨_,rfl,pt,_,_,_,rfl,rfl,K6.of (sm _ _ Uk),rfl,_,rfl,_,_,rfl,rfl,_,rfl,bJ (λc=>⟨_,rfl,pt,_,_,_,rfl,rfl,K6.of (sm _ _ Uk),rfl,_,_,rfl,rfl,_,rfl,?_⟩) λc=>?_⟩) (λu H' Q' sm qq=>⟨_,rfl,qq⟩) λD hD=>?_
   ·rw[c,ac1]at qq;exact qq
   ·have c':decide (lo<=u)=false:=by
     cases e:decide (lo<=u)
     ·rfl
     ·exact absurd e c
    rw[c',adl]at qq;exact⟨_,rfl,qq⟩
   have s3:=au hD (.lst ((ms.filter λu=>decide (lo<=u) && decide (u<hi)).map V.int));refine⟨D,_,rfl,.inl (K5.of aq),(by show 1<=sizeLine;decide),λr hr'=>?_⟩;refine q r (some (.v (((seg ns x y).filter λu=>decide (lo<=u) && decide (u<hi)).length:Int))) _ (s2.trans (s3.trans (au hr' _))) ?_ (.inr (.inr (.inr (.inl ⟨rfl,_,_,lo,hi,rfl,.inl ⟨x,y,rfl,rfl,hxy,RX,rfl⟩⟩))));show _=some (HO.lst [.int _]);rw[aq,aaa,(pm.filter _).length_eq]
  ·refine⟨_,rfl,rfl,_,rfl,cF ⟨_,rfl,rfl,_,rfl,dz ⟨_,rfl,pa,_,rfl,.inl (K5.of O5),(ms.length:Int),congrArg (λn:Nat=>[V.int (n:Int)]) NT,by lia,by lia,?_⟩⟩⟩;rw[aaD];refine iV (λi=>decide (V.int (0+(i:Int))=V.int k)) (λi=>.int (ms.getD i 0)) (by rw[sizeLine_eq];lia) (λi H' Q' hi sm qq=>⟨_,rfl,_,rfl,pt,_,_,_,rfl,rfl,K6.of (sm _ _ Uk),rfl,rfl,_,rfl,qq⟩) (λi H' Q' hi c sm qq=>⟨_,rfl,_,rfl,pa,_,_,_,rfl,rfl,K5.of (sm _ _ O5),at_getD hi,qq⟩) λr hr'=>?_;rcases vp (ns:=ms) (x:=k) (r:=r) aq with ⟨j,u,e,hu,ho⟩|⟨e,ho⟩
   ·have hj:=(aab.mp hu).1;have h1:=p7 T7 hu;rw[(oF pm u).1,(oF pm u).2]at h1;exact q r _ _ (s2.trans (au hr' _)) ho (.inr (.inr (.inr (.inr (.inl ⟨rfl,_,_,k,rfl,.inl ⟨x,y,j,u,rfl,rfl,e,hxy,RX,by lia,h1.1,h1.2,rfl⟩⟩)))))
   ·exact q r _ _ (s2.trans (au hr' _)) ho (.inr (.inr (.inr (.inr (.inl ⟨rfl,_,_,k,rfl,.inr ⟨.inr (by lia),rfl⟩⟩)))))
  ·refine⟨_,rfl,rfl,_,rfl,cF ⟨_,rfl,rfl,_,rfl,cF ?_⟩⟩;have hmet:(met (λi=>ms.getD i 0) ms.length).length<=ms.length:=uE _ _;refine⟨_,rfl,pa,ms,rfl,K5.of O5,?_,λl0 ks o0 hl0 hks T6=>⟨l0,ks,rfl,by rw[aq,T6],λkd us hkd Zo srt2=>?_⟩⟩
   ·have:scanBound=4096:=rfl;lia
   have Kd:=kinds_of hks Zo srt2;have s3:=(au hl0 o0).trans (au hkd (.lst (us.map V.int)));have Zq:upd (upd H2 l0 o0) kd (.lst (us.map V.int)) kd=some (.lst (us.map V.int)):=aq
   replace O5:=s3 _ _ O5
   replace s2:=s2.trans s3
   generalize upd (upd H2 l0 o0) kd (.lst (us.map V.int))=H3 at *;have hul:us.length<=ms.length:=by
    rw[Zo.length_eq,hks];exact hmet
   refine⟨kd,rfl,⟨_,K5.of Zq⟩,λD hD=>?_⟩;refine⟨λi m vs H1=>m=us.length - i/\i<=us.length/\vs.length=i/\H1 D=some (.lst vs)/\aV H3 H1/\Rows H1 vs ((us.take i).map λz=>(z,bA (seg ns x y) z)),⟨_,rfl,aaq _,rfl,aq,au hD _,Rows.nil _⟩,?_⟩;rintro i m vs H1 ⟨rfl,hi,hvl,xD,sm,hR⟩;have hk1:=sm _ _ Zq;by_cases hlt:i<us.length
   ·have hg:us[i]?=some us[i]:=aac hlt;have Zr:(us.map V.int)[i]?=some (.int us[i]):=by rw[aag,hg];rfl
    refine .inr ⟨⟨_,_,K5.of hk1,Zr⟩,λv H4 yy=>?_⟩;obtain⟨rfl,yy⟩:=yy;have e:=yy _ (K5.of hk1);rw[Zr]at e;cases e;generalize us[i]=z at *;unfold vQ
    set_option simprocs false in dsimp only
    rw[if_pos rfl];have xpa1:=sm _ _ O5;refine⟨_,rfl,_,rfl,pa,rfl,⟨_,K5.of xpa1⟩,?_⟩;refine lQ (λu=>decide (V.int u=V.int z)) (K5.of xpa1) (by rw[sizeLine_eq];lia) (λu H' Q' sm' qq=>⟨_,rfl,_,rfl,rfl,_,rfl,qq⟩) (λu H' Q' sm' qq=>⟨_,rfl,qq⟩) λD2 hD2=>?_;have t1:=au hD2 (.lst ((ms.filter λu=>decide (V.int u=V.int z)).map V.int));refine⟨D2,_,rfl,.inl (K5.of aq),(by show 2<=sizeLine;decide),λtp htp=>?_⟩;have ecnt:((ms.filter λu=>decide (V.int u=V.int z)).map V.int).length=bA (seg ns x y) z:=by
     rw[aaa,<-(oF pm z).2];unfold bA;congr 1;exact aa9 λu _=>decide_eq_decide.mpr ⟨V.int.inj,λz=>by rw[z]⟩
    rw[ecnt];have t2:=au htp (.tup [.int z,.int (bA (seg ns x y) z:Int)]);have Ul:=t1.trans t2;have xt:upd (upd H4 D2 (.lst ((ms.filter λu=>decide (V.int u=V.int z)).map V.int))) tp (.tup [.int z,.int (bA (seg ns x y) z:Int)]) tp=some (.tup [.int z,.int (bA (seg ns x y) z:Int)]):=aq
    replace xD:=Ul _ _ xD
    replace sm:=sm.trans Ul
    replace hR:=hR.to λb xs e=>Ul _ _ e
    generalize upd (upd H4 D2 (.lst ((ms.filter λu=>decide (V.int u=V.int z)).map V.int))) tp (.tup [.int z,.int (bA (seg ns x y) z:Int)])=H5 at *;refine⟨xD,by rw[hvl,sizeLine_eq];lia,us.length - (i+1),by lia,rfl,hlt,by rw[aae,hvl];rfl,aq,cR sm hD _,?_⟩;have Nm:Rows H5 (vs++[.ref tp]) ((us.take (i+1)).map λz=>(z,bA (seg ns x y) z)):=by
     rw[aci,hg,aam];exact hR.snoc ⟨tp,rfl,xt⟩
    exact Nm.to λb xs e=>by
     rw[aD λz=>by rw[z,xD]at e;cases e];exact e
   ·have e:i=us.length:=by lia
    subst e;refine .inl ⟨⟨_,K5.of hk1,by rw[aaa];exact aad _⟩,(by show 1<=sizeLine;decide),λr hr'=>?_⟩;rw[abf]at hR;have t3:=au hr' (.lst [.ref D]);refine q r (some (.l (us.map λz=>(z,bA (seg ns x y) z)))) _ (s2.trans (sm.trans t3)) ⟨D,vs,aq,t3 _ _ xD,hR.to λb xs e=>t3 _ _ e⟩ (.inr (.inr (.inr (.inr (.inr ⟨rfl,_,_,rfl,.inl ⟨x,y,_,rfl,rfl,hxy,RX,⟨?_,λu=>?_,λf hf=>?_⟩,rfl⟩⟩)))))
    ·rw[acK];show (us.map id).Pairwise _;rw[aew];exact Kd.up
    ·rw[acK];show u∈us.map id ↔ _;rw[aew,Kd.mem];exact pm.mem_iff
    ·obtain⟨u,_,rfl⟩:=aaE.mp hf;rfl
def Il(H:Hp)(v:V):An->Prop
 | .v z=>v=.int z
 | .l ps=>∃(l:Addr) (us:List V),v=.ref l/\H l=some (.lst us)/\Rows H us ps
def bnd(way:Int)(h:Nat):An->Nat
 | .l qs=>2*h*qs.length
 | .v _=>(if way=0 then 1 else if way=1 then 2 else if way=2 then 4 else if way=3 then 4 else 2)*h
inductive Aw(Ph:Addr)(C:Addr)(vs:List V)(H:Hp)(Q:VK)(E:XK):Prop
 | mk (p:SG) (ss:List Int) (way:Int) (pt:Addr) (ps:List Int) (_:vs=[.int way,.ref p.t,.ref p.g,.ref pt]) (_:SQ H Ph p ss) (_:ss.length<=500000) (_:H pt=some (.tup (ps.map V.int))) (_:pL way ps) (_:(∀an v ss' k U H',AR p.ns way ps (some an)->Il H' v an->bY H H' Ph p k U ss ss'->k<=300000->U.length<=bnd way p.h an->Q v H')) (_:(AR p.ns way ps none -> ∀ss' k U H',bY H H' Ph p k U ss ss'->k<=300000->E (.ref C) none H'))
theorem sG(T:Tx K mg a)(B:Bs mg base a):bh P w K mg base (My P w) 10 a.Yc a.Yd ["_law_way","_law_tables","_law_look_here","_law_parts_here"] (Aw a.Le a.Ln):=by
 refine T.YZ.F.ok1 tu (λvs H Q E h=>?_) (λcdv A outer s H vs Q E hr h=>?_)
 ·obtain⟨p,ss,way,pt,ps,rfl,_⟩:=h;rfl
 obtain⟨p,ss,way,pt,ps,rfl,sq,hss,xp,hp,q,qe⟩:=h;refine⟨_,(ak (aW (aH bD (pv 0) aj (aO _)) (az (aG (aL T.YF (zg T B) (by decide) hr iK rfl (aa (pv 1) (aa (pv 2) (aa (aM aJ (pv 3) aj (λ_ _=>rfl)) ao)))))) aP)
  (ak (aW (aH bD (pv 0) aj (aO _)) (az (aG (aL T.YG (rm T B) (by decide) hr iK rfl (aa (pv 1) (aa (pv 2) (aa (aM aJ (pv 3) aj (λ_ _=>rfl)) (aa (aM aJ (pv 3) aj (λ_ _=>rfl)) ao))))))) aP)
  (ak (aW (aH bD (pv 0) aj (aO _)) (az (aG (aL T.YH (rO T B) (by decide) hr iK rfl (aa (pv 1) (aa (pv 2) (aa (aM aJ (pv 3) aj (λ_ _=>rfl)) (aa (aM aJ (pv 3) aj (λ_ _=>rfl)) ao))))))) aP)
  (ak (aW (aH bD (pv 0) aj (aO _)) (az (aG (aL T.YJ (zj T B) (by decide) hr iK rfl (aa (pv 1) (aa (pv 2) (aa (aM aJ (pv 3) aj (λ_ _=>rfl)) (aa (aM aJ (pv 3) aj (λ_ _=>rfl)) (aa (aM aJ (pv 3) aj (λ_ _=>rfl)) (aa (aM aJ (pv 3) aj (λ_ _=>rfl)) ao))))))))) aP)
  (ak (aW (aH bD (pv 0) aj (aO _)) (az (aG (aL T.YK (sr T B) (by decide) hr iK rfl (aa (pv 1) (aa (pv 2) (aa (aM aJ (pv 3) aj (λ_ _=>rfl)) (aa (aM aJ (pv 3) aj (λ_ _=>rfl)) (aa (aM aJ (pv 3) aj (λ_ _=>rfl)) ao)))))))) aP)
  (az (aG (aL T.YL (BX T B) (by decide) hr iK rfl (aa (pv 1) (aa (pv 2) (aa (aM aJ (pv 3) aj (λ_ _=>rfl)) (aa (aM aJ (pv 3) aj (λ_ _=>rfl)) ao)))))))))))),?_⟩
 have self:=sq.self;have h12:=sq.h12;rcases hp with ⟨rfl,x,rfl⟩|⟨rfl,z,x,rfl⟩|⟨rfl,z,x,rfl⟩|⟨rfl,s0,e0,lo,hi,rfl⟩|⟨rfl,s0,e0,k,rfl⟩|⟨rfl,s0,e0,rfl⟩
 ·refine⟨_,rfl,rfl,_,rfl,dz ⟨_,rfl,_,rfl,_,rfl,pt,_,_,_,rfl,rfl,K6.of xp,rfl,p,ss,x,rfl,sq,by lia,?_⟩⟩;by_cases c:0<=x/\x<(p.ns.length:Int)
  ·have hj:x.toNat<p.ns.length:=by lia
   refine .inl ⟨x.toNat,p.ns[x.toNat],by lia,aac hj,λss' U H' d hU=>q (.v _) _ ss' _ U H' (.inl ⟨rfl,x,rfl,.inl ⟨x.toNat,_,by lia,aac hj,rfl⟩⟩) rfl d (by lia) ?_⟩;show U.length<=1*p.h;lia
  ·exact .inr ⟨by lia,qe (.inl ⟨rfl,x,rfl,.inr ⟨by lia,rfl⟩⟩) ss 0 [] H self (by lia)⟩
 ·refine⟨_,rfl,rfl,_,rfl,cF ⟨_,rfl,rfl,_,rfl,dz ⟨_,rfl,_,rfl,_,rfl,pt,_,_,_,rfl,rfl,K6.of xp,rfl,_,rfl,pt,_,_,_,rfl,rfl,K6.of xp,rfl,p,ss,z,x,rfl,sq,by lia,?_⟩⟩⟩;by_cases c:0<=x/\x<=(p.ns.length:Int)
  ·obtain⟨j,rfl⟩:∃j:Nat,x=(j:Int):=⟨x.toNat,by lia⟩;exact .inl ⟨j,rfl,by lia,λss' U H' d hU=>q (.v _) _ ss' _ U H' (.inr (.inl ⟨rfl,z,_,rfl,.inl ⟨j,rfl,by lia,rfl⟩⟩)) rfl d (by lia) hU⟩
  ·exact .inr ⟨by lia,qe (.inr (.inl ⟨rfl,z,x,rfl,.inr ⟨by lia,rfl⟩⟩)) ss 0 [] H self (by lia)⟩
 ·refine⟨_,rfl,rfl,_,rfl,cF ⟨_,rfl,rfl,_,rfl,cF ⟨_,rfl,rfl,_,rfl,dz ⟨_,rfl,_,rfl,_,rfl,pt,_,_,_,rfl,rfl,K6.of xp,rfl,_,rfl,pt,_,_,_,rfl,rfl,K6.of xp,rfl,p,ss,z,x,rfl,sq,by lia,?_⟩⟩⟩⟩;by_cases c:0<=x/\x<(bA p.ns z:Int)
  ·obtain⟨j,rfl⟩:∃j:Nat,x=(j:Int):=⟨x.toNat,by lia⟩;exact .inl ⟨j,rfl,by lia,λb ss' U H' hb hk d hU=>q (.v _) _ ss' _ U H' (.inr (.inr (.inl ⟨rfl,z,_,rfl,.inl ⟨j,b,rfl,hb,hk,rfl⟩⟩))) rfl d (by lia) hU⟩
  ·exact .inr ⟨by lia,λss' U H' d=>qe (.inr (.inr (.inl ⟨rfl,z,x,rfl,.inr ⟨by lia,rfl⟩⟩))) ss' _ U H' d (by lia)⟩
 ·refine⟨_,rfl,rfl,_,rfl,cF ⟨_,rfl,rfl,_,rfl,cF ⟨_,rfl,rfl,_,rfl,cF ⟨_,rfl,rfl,_,rfl,dz ⟨_,rfl,_,rfl,_,rfl,pt,_,_,_,rfl,rfl,K6.of xp,rfl,_,rfl,pt,_,_,_,rfl,rfl,K6.of xp,rfl,_,rfl,pt,_,_,_,rfl,rfl,K6.of xp,rfl,_,rfl,pt,_,_,_,rfl,rfl,K6.of xp,rfl,p,ss,s0,e0,lo,hi,rfl,sq,by lia,?_⟩⟩⟩⟩⟩;by_cases c:0<=s0/\s0<=e0/\e0<=(p.ns.length:Int)
  ·obtain⟨x,rfl⟩:∃x:Nat,s0=(x:Int):=⟨s0.toNat,by lia⟩;obtain⟨y,rfl⟩:∃y:Nat,e0=(y:Int):=⟨e0.toNat,by lia⟩;exact .inl ⟨x,y,rfl,rfl,by lia,by lia,λss' U H' d hU=>q (.v _) _ ss' _ U H' (.inr (.inr (.inr (.inl ⟨rfl,_,_,lo,hi,rfl,.inl ⟨x,y,rfl,rfl,by lia,by lia,rfl⟩⟩)))) rfl d (by lia) hU⟩
  ·exact .inr ⟨c,qe (.inr (.inr (.inr (.inl ⟨rfl,s0,e0,lo,hi,rfl,.inr ⟨c,rfl⟩⟩)))) ss 0 [] H self (by lia)⟩
 ·refine⟨_,rfl,rfl,_,rfl,cF ⟨_,rfl,rfl,_,rfl,cF ⟨_,rfl,rfl,_,rfl,cF ⟨_,rfl,rfl,_,rfl,cF ⟨_,rfl,rfl,_,rfl,dz ⟨_,rfl,_,rfl,_,rfl,pt,_,_,_,rfl,rfl,K6.of xp,rfl,_,rfl,pt,_,_,_,rfl,rfl,K6.of xp,rfl,_,rfl,pt,_,_,_,rfl,rfl,K6.of xp,rfl,p,ss,s0,e0,k,rfl,sq,by lia,?_⟩⟩⟩⟩⟩⟩;by_cases c:(0<=s0/\s0<=e0/\e0<=(p.ns.length:Int))/\0<=k/\k<e0 - s0
  ·obtain⟨x,rfl⟩:∃x:Nat,s0=(x:Int):=⟨s0.toNat,by lia⟩;obtain⟨y,rfl⟩:∃y:Nat,e0=(y:Int):=⟨e0.toNat,by lia⟩;obtain⟨j,rfl⟩:∃j:Nat,k=(j:Int):=⟨k.toNat,by lia⟩;exact .inl ⟨x,y,j,rfl,rfl,rfl,by lia,by lia,by lia,λz ss' U H' _ h1 h2 d hU=>q (.v z) _ ss' _ U H' (.inr (.inr (.inr (.inr (.inl ⟨rfl,_,_,_,rfl,.inl ⟨x,y,j,z,rfl,rfl,rfl,by lia,by lia,by lia,h1,h2,rfl⟩⟩))))) rfl d (by lia) hU⟩
  ·have c':¬(0<=s0/\s0<=e0/\e0<=(p.ns.length:Int))\/(k<0\/e0 - s0<=k):=by lia
   exact .inr ⟨c',qe (.inr (.inr (.inr (.inr (.inl ⟨rfl,s0,e0,k,rfl,.inr ⟨c',rfl⟩⟩))))) ss 0 [] H self (by lia)⟩
 ·refine⟨_,rfl,rfl,_,rfl,cF ⟨_,rfl,rfl,_,rfl,cF ⟨_,rfl,rfl,_,rfl,cF ⟨_,rfl,rfl,_,rfl,cF ⟨_,rfl,rfl,_,rfl,cF ⟨_,rfl,_,rfl,_,rfl,pt,_,_,_,rfl,rfl,K6.of xp,rfl,_,rfl,pt,_,_,_,rfl,rfl,K6.of xp,rfl,p,ss,s0,e0,rfl,sq,by lia,?_⟩⟩⟩⟩⟩⟩;by_cases c:0<=s0/\s0<=e0/\e0<=(p.ns.length:Int)
  ·obtain⟨x,rfl⟩:∃x:Nat,s0=(x:Int):=⟨s0.toNat,by lia⟩;obtain⟨y,rfl⟩:∃y:Nat,e0=(y:Int):=⟨e0.toNat,by lia⟩;exact .inl ⟨x,y,rfl,rfl,by lia,by lia,λr us qs ss' k U H' _ hr' hR hT d hk hU=>q (.l qs) _ ss' k U H' (.inr (.inr (.inr (.inr (.inr ⟨rfl,_,_,rfl,.inl ⟨x,y,qs,rfl,rfl,by lia,by lia,hT,rfl⟩⟩))))) ⟨r,us,rfl,hr',hR⟩ d (by lia) hU⟩
  ·exact .inr ⟨c,qe (.inr (.inr (.inr (.inr (.inr ⟨rfl,s0,e0,rfl,.inr ⟨c,rfl⟩⟩))))) ss 0 [] H self (by lia)⟩
theorem Jx{σ:St}(h:σ.length=5):∃a b c d e,σ=[a,b,c,d,e]:=by
 match σ,h with
 | [a,b,c,d,e],_=>exact⟨a,b,c,d,e,rfl⟩
inductive CT(Ph:Addr)(vs:List V)(H:Hp)(Q:VK)(_e1:XK):Prop
 | mk (p:SG) (ss:List Int) (way:Int) (pt:Addr) (ps:List Int) (_:vs=[.int way,.ref p.t,.ref p.g,.ref pt]) (_:SQ H Ph p ss) (_:ss.length<=500000) (_:H pt=some (.tup (ps.map V.int))) (_:pL way ps) (_:∀r o ss' k U H',AR p.ns way ps o->Gs H' r o->bY H H' Ph p k U ss ss'->k<=300000->(∀an,o=some an->U.length<=bnd way p.h an)->Q (.ref r) H')
theorem sY(T:Tx K mg a)(B:Bs mg base a):bh P w K mg base K9 11 a.f_law_told_t a.fd_law_told_t ["_law_way","_law_tables","_law_look_here","_law_parts_here"] (CT a.Le):=by
 refine T.D_law_told_t.F.ok fO (λvs H Q E h=>?_) (λcdv A outer s H vs Q E hr h=>?_)
 ·obtain⟨p,ss,way,pt,ps,rfl,_⟩:=h;rfl
 obtain⟨p,ss,way,pt,ps,rfl,sq,hss,xp,hp,q⟩:=h;refine⟨_,(ak (aC (i:=4) fO.nd rfl (aai rfl) (bR ao))
  (ak (Hk rfl rfl (λ_ _=>(az (aC (i:=4) fO.nd rfl (aai rfl) (bR (aa (aL T.YZ (sG T B) (by decide) hr Jv rfl (aa (pv 0) (aa (pv 1) (aa (pv 2) (aa (pv 3) ao))))) ao))))) (J1 T.QV T.adR rfl (λ_=>(az (aC (i:=4) fO.nd rfl (aai rfl) (bR ao)))) Io))
  (az (aG (pv 4))))),?_⟩
 refine⟨(by show 0<=sizeLine;decide),λt0 ht0=>?_⟩;have s0:=au ht0 (.lst []);have d0:=sq.self.same s0;have Qi:=sq.did d0 sq.few;have xp0:=s0 _ _ xp;generalize upd H t0 (.lst [])=H1 at *;refine⟨_,rfl,_,rfl,_,rfl,_,rfl,p,ss,way,pt,ps,rfl,Qi,hss,xp0,hp,λan v ss' k U H' har hv d hk hU=>?_,λhar ss' k U H' d hk=>⟨_,rfl,λ σ' hσ=>?_⟩⟩
 ·refine⟨(by show 1<=sizeLine;decide),λr hr'=>?_⟩;have s1:=au hr' (.lst [v]);refine⟨_,rfl,q r (some an) ss' (0+k) ([]++U) _ har ?_ ((d0.trans d).same s1) (by lia) λan' e=>?_⟩
  ·cases an with
   | v z =>
    have hv:v=.int z:=hv;rw[hv];exact aq
   | l qs =>
    obtain⟨l,us,rfl,h1,h2⟩:=hv;exact⟨l,us,aq,s1 _ _ h1,h2.to λb xs e=>s1 _ _ e⟩
  ·cases e;exact hU
 ·obtain⟨k0,k1,k2,k3,k4,rfl⟩:=Jx hσ;refine⟨true,T.QW,dz λea hea=>?_⟩;refine⟨(by show 0<=sizeLine;decide),λr hr'=>?_⟩;have s1:=(au hea (Gb ea a.Ln)).trans (au hr' (.lst []));exact⟨_,rfl,q r none ss' (0+k) ([]++U) _ har aq ((d0.trans d).same s1) (by lia) nofun⟩
theorem nu(n m:Int):SeqAt.shaped (.tuple [.int n,.int m])=true/\PyData.eqv (.tuple [.int n,.int m]) (.tuple [.int n,.int m])=true:=by
 have hc:(PyData.tuple [.int n,.int m]).canLay0=true:=by
  simp only[PyData.canLayAll0,PyData.canLay0,adE]
 refine⟨?_,SeqAt.eqv_refl _ hc⟩;unfold SeqAt.shaped;rw[hc,ac1];refine decide_eq_true ?_;simp only[PyData.depthAll,PyData.depth];lia
inductive Ef(K:PySem.W.Frag)(vs:List V)(H:Hp)(Q:VK)(_e1:XK):Prop
 | mk (v v':V) (an:An) (_:vs=[v,v']) (_:Il H v an) (_:Il H v' an) (_:(∀qs,an=.l qs->qs.length<=5000)) (_:∀H',aV H H'->Q (.bl true) H')
theorem vd(T:Tx K mg a):bh P w K mg base K9 2 a.Ye a.Yg ["_law_found","_law_due_here"] (Ef K):=by
 refine T.Y0.F.ok jd (λvs H Q E h=>?_) (λcdv A outer s H vs Q E hr h=>?_)
 ·obtain⟨v,v',an,rfl,_⟩:=h;rfl
 obtain⟨v,v',an,rfl,hv,hv',hq,q⟩:=h
 refine⟨_,(ak (aW (jf (lJ (aN jH rfl T.QS Tw.dH (aa (pv 1) (aa (mG (v:=.ty "list") rfl T.QT Tw.lY rfl) ao))))) (az (aG (yw (aL T.QQ (gf T) (by decide) hr aR rfl (aa (pv 0) ao)) (yo (zV bD (pv 0) (pv 1) (aO _)))))) aP)
  (ak (aW (PW.pt (iI (jf (lJ (aN jH rfl T.QS Tw.dH (aa (pv 0) (aa (mG (v:=.ty "list") rfl T.QT Tw.lY rfl) ao))))) (jm (aH vN (aN aF rfl T.Lg Tw.bc (aa (pv 0) ao)) (aN aF rfl T.Lg Tw.bc (aa (pv 1) ao)) (aO _))))) (az (aG lA)) aP)
  (ak (b8 PassesOwn.never rfl (qp rfl T.Qc Tw.nG (aa (pv 0) (aa (pv 1) ao))) (jN rfl (bW (aX (i:=2) jd.nd rfl (aai rfl)) (bW (aX (i:=3) jd.nd rfl (aai rfl)) gZ))) (ak (aW (PW.pt (iI (jf (lJ (aN jH rfl T.QS Tw.dH (aa (pv 2) (aa (mG (v:=.ty "tuple") rfl T.RK Tw.mD rfl) ao))))) (iI (aH vN (aN aF rfl T.Lg Tw.bc (aa (pv 2) ao)) aj (aO _)) (iI (jf (lJ (aL T.QQ (gf T) (by decide) hr aR rfl (aa (aM aJ (pv 2) aj (λ_ _=>rfl)) ao)))) (jm (jf (lJ (aL T.QQ (gf T) (by decide) hr aR rfl (aa (aM aJ (pv 2) aj (λ_ _=>rfl)) ao))))))))) (az (aG lA)) aP)
  (az (aW (aH (Dz hr.units) (pv 2) (pv 3) (aO _)) (az (aG lA)) aP))))
  (az (aG lA))))),?_⟩
 cases an with
 | v z =>
  have hv:v=.int z:=hv;have hv':v'=.int z:=hv';subst hv hv'
  refine⟨_,rfl,_,"list",_,false,rfl,.int z,rfl,false,rfl,dz ?_⟩
  refine⟨_,rfl,_,rfl,true,rfl,dz ⟨_,rfl,_,rfl,rfl,?_⟩⟩;have e:decide (V.int z=V.int z)=true:=decide_eq_true rfl;show Q (.bl (decide (V.int z=V.int z))) H;rw[e];exact q _ (aV.refl _)
 | l qs =>
  obtain⟨l1,us,rfl,x1,R1⟩:=hv;obtain⟨l2,ws,rfl,x2,R2⟩:=hv';have hql:=hq qs rfl;have e1:=R1.1;have e2:=R2.1
  refine⟨_,rfl,_,"list",_,true,rfl,.lst x2,rfl,true,rfl,cF ?_⟩
  refine⟨_,rfl,_,"list",_,true,rfl,.lst x1,rfl,true,rfl,cF ?_⟩
  refine⟨_,rfl,l1,_,rfl,.inl (K5.of x1),_,rfl,l2,_,rfl,.inl (K5.of x2),rfl,_,rfl,oU (congrArg V.int (by lia)) ?_⟩;refine⟨_,rfl,_,rfl,l1,l2,us,ws,rfl,K5.of x1,K5.of x2,?_⟩;refine uL (xs:=us) (ys:=ws) (λi σ H'=>(∃k2 k3,σ=[some (.ref l1),some (.ref l2),k2,k3])/\aV H H') ⟨⟨none,none,rfl⟩,aV.refl _⟩ ?_ ?_ ?_
  ·rintro i σ H' _ ⟨_,sm⟩;exact⟨K5.of (sm _ _ x1),K5.of (sm _ _ x2)⟩
  ·rintro i x y σ H' t hx hy ⟨⟨k2,k3,rfl⟩,sm⟩ ht;have hi:=(aab.mp hx).1;obtain⟨f,hf⟩:∃f,qs[i]?=some f:=⟨_,aac (by lia)⟩;obtain⟨t1,rfl,y1⟩:=R1.2 i x f hx hf;obtain⟨t2,rfl,y2⟩:=R2.2 i y f hy hf;have s1:=sm.trans (au ht (.tup [.ref t1,.ref t2]))
   replace y1:=s1 _ _ y1
   replace y2:=s1 _ _ y2
   refine⟨t,_,rfl,K6.of aq,rfl,_,_,rfl,_,_,rfl,rfl,?_⟩
   refine⟨_,rfl,_,"tuple",_,true,rfl,.tup y1,rfl,true,rfl,cF ?_⟩
   refine⟨_,rfl,t1,_,rfl,.inr (K6.of y1),rfl,_,rfl,oU rfl ?_⟩;refine⟨_,rfl,t1,_,_,_,rfl,rfl,K6.of y1,rfl,_,rfl,true,rfl,cF ?_⟩;refine⟨_,rfl,t1,_,_,_,rfl,rfl,K6.of y1,rfl,_,rfl,true,rfl,cF ?_⟩;refine⟨_,rfl,_,rfl,.inr ⟨_,_,.tup (K6.of y1) (.cons (.int _) (.cons (.int _) .nil)),.tup (K6.of y2) (.cons (.int _) (.cons (.int _) .nil)),(nu _ _).1,(nu _ _).1,?_⟩⟩;rw[(nu _ _).2];exact⟨false,rfl,cF ⟨⟨_,_,rfl⟩,s1⟩⟩
  ·rintro σ H' ⟨_,sm⟩;exact q _ sm
theorem um:∀{l U:List Int},l.Nodup->(∀z∈l,z∈U)->l.length<=U.length
 | [],_,_,_=>aaq _
 | a::l,U,nd,h=>by
  have ha:=h a aay;have QH:=aa4.mp nd;have q:=um (l:=l) (U:=U.erase a) QH.2 λz hz=>(adi λe:z=a=>QH.1 (e ▸ hz)).mpr (h z (aaw _ hz));have e:=acV ha;have p:=abZ ha;rw[aan];lia
theorem AR.kindV{ns:List Int}{way:Int}{ps:List Int}{z:Int}(h:AR ns way ps (some (.v z))):way=0\/way=1\/way=2\/way=3\/way=4:=by
 rcases h with ⟨e,_⟩|⟨e,_⟩|⟨e,_⟩|⟨e,_⟩|⟨e,_⟩|⟨_,s,e,_,⟨x,y,qs,_,_,_,_,_,h⟩|⟨_,h⟩⟩
 ·exact .inl e
 ·exact .inr (.inl e)
 ·exact .inr (.inr (.inl e))
 ·exact .inr (.inr (.inr (.inl e)))
 ·exact .inr (.inr (.inr (.inr e)))
 ·cases h
 ·cases h
theorem AR.kindL{ns:List Int}{way:Int}{ps:List Int}{qs:List (Int×Nat)}(h:AR ns way ps (some (.l qs))):way=5/\qs.length<=ns.length:=by
 rcases h with ⟨e,x,_,⟨_,_,_,_,h⟩|⟨_,h⟩⟩|⟨e,_,x,_,⟨_,_,_,h⟩|⟨_,h⟩⟩|⟨e,_,x,_,⟨_,_,_,_,_,h⟩|⟨_,h⟩⟩|⟨e,_,_,_,_,_,⟨_,_,_,_,_,_,h⟩|⟨_,h⟩⟩|⟨e,_,_,_,_,⟨_,_,_,_,_,_,_,_,_,_,_,_,h⟩|⟨_,h⟩⟩|⟨e,_,_,_,⟨x,y,ts,_,_,_,_,hT,h⟩|⟨_,h⟩⟩
 all_goals first | (cases h;done) | skip
 cases h;refine⟨e,?_⟩;have hnd:(qs.map (·.1)).Nodup:=hT.up.imp λa=>adN a;have h1:=um (U:=seg ns x y) hnd λz hz=>(hT.mem z).mp hz;rw[aaa]at h1;unfold seg at h1;rw[aaC,abe]at h1;lia
def v4(f:Int×Nat):PyData:=.tuple [.int f.1,.int (f.2:Int)]
theorem ww{H:Hp}:∀{us:List V}{qs:List (Int×Nat)},Rows H us qs->j0 K H us (qs.map v4)
 | [],[],_=>.nil
 | [],_::_,h=>by cases h.1
 | _::_,[],h=>by cases h.1
 | u::us,f::qs,h=>by
  obtain⟨t,rfl,ht⟩:=h.2 0 u f rfl rfl;refine .cons (.tup (K6.of ht) (.cons (.int _) (.cons (.int _) .nil))) (ww ⟨Nat.succ.inj h.1,λi v g e1 e2=>h.2 (i+1) v g e1 e2⟩)
theorem xM:∀qs:List (Int×Nat),PyData.canLayAll0 (qs.map v4)=true/\PyData.depthAll (qs.map v4)<=2
 | []=>⟨rfl,by simp[PyData.depthAll]⟩
 | f::qs=>by
  obtain⟨h1,h2⟩:=xM qs;rw[aaz];refine⟨?_,?_⟩
  ·simp only[PyData.canLayAll0,PyData.canLay0,v4,h1,adE]
  ·simp only[PyData.depthAll,PyData.depth,v4];lia
theorem wZ(qs:List (Int×Nat)):SeqAt.shaped (.list [.list (qs.map v4)])=true:=by
 obtain⟨h1,h2⟩:=xM qs;have hc:(PyData.list [.list (qs.map v4)]).canLay0=true:=by
  simp only[PyData.canLayAll0,PyData.canLay0,h1,adE]
 unfold SeqAt.shaped;rw[hc,ac1];refine decide_eq_true ?_;simp only[PyData.depthAll,PyData.depth];lia
theorem Ex:SeqAt.shaped (.list [])=true:=by decide +kernel
inductive wU(Ph:Addr)(Pt:Addr)(vs:List V)(H:Hp)(Q:VK)(_e1:XK):Prop
 | mk (H3:Hp) (La r t b k c sg:Addr) (ns ms:List Int) (h:Nat) (ls:List Addr) (z:Int) (_:vs=[.ref La,.int z]) (_:fY H3 H Ph Pt) (_:Kept H3 r t b k c ns ms h ls) (_:H3 sg=some (.lst (ns.map V.int))) (_:H3 La=some (.tup [.ref sg,.ref t,.ref b])) (_:ns.length<=1000) (_:∀H',fY H3 H' Ph Pt->Q (.bl true) H')
theorem pC(T:Tx K mg a)(B:Bs mg base a):bh P w K mg base K9 12 a.Yh a.Yi ["_law_row","_law_cell"] (wU a.Le a.MT):=by
 refine T.Y4.F.ok bf (λvs H Q E h=>?_) (λcdv A outer s H vs Q E hr h=>?_)
 ·obtain⟨H3,La,r,t,b,k,c,sg,ns,ms,h,ls,z,rfl,_⟩:=h;rfl
 obtain⟨H3,La,r,t,b,k,c,sg,ns,ms,h,ls,z,rfl,e,Kf,xg,xr,hn,q⟩:=h;refine⟨_,(ak (aC (i:=2) bf.nd rfl (aai rfl) (aM aJ (pv 0) aj (λ_ _=>rfl)))
  (ak (aC (i:=3) bf.nd rfl (aai rfl) (aA bj (aA bT (pv 1) aj) aj))
  (ak (aC (i:=4) bf.nd rfl (aai rfl) (aA bj (pv 3) aj))
  (ak (aC (i:=5) bf.nd rfl (aai rfl) (aL T.YW (vo T) (by decide) hr aR rfl (aa (pv 4) (aa (pv 2) (aa (pv 1) ao)))))
  (ak (aC (i:=6) bf.nd rfl (aai rfl) (aL T.YX (yL T) (by decide) hr aR rfl (aa (pv 4) (aa (pv 2) (aa (pv 5) ao)))))
  (ak (aC (i:=7) bf.nd rfl (aai rfl) (bR ao))
  (ak (aC (i:=8) bf.nd rfl (aai rfl) (aL T.D_law_told_t (sY T B) (by decide) hr aR rfl (aa (pv 4) (aa (aM aJ (pv 0) aj (λ_ _=>rfl)) (aa (aL T.YS (xQ T B) (by decide) hr aR rfl (aa (aM aJ (pv 0) aj (λ_ _=>rfl)) (aa (pv 7) ao))) (aa (pv 5) ao))))))
  (ak (aW (aH vN (aN aF rfl T.Lg Tw.bc (aa (pv 8) ao)) (aN aF rfl T.Lg Tw.bc (aa (pv 6) ao)) (aO _)) (az (aG lA)) aP)
  (ak (aW (aH (Ht hr.units) (pv 6) (bR ao) (aO _)) (az (aG lA)) aP)
  (ak (aC (i:=9) bf.nd rfl (aai rfl) (aN aF rfl T.Lg Tw.bc (aa (aM aJ (aM aJ (pv 0) aj (λ_ _=>rfl)) aj (λ_ _=>rfl)) ao)))
  (ak (aC (i:=10) bf.nd rfl (aai rfl) (aA bT (aM cD (bR (aa aj (aa aj (aa aj (aa aj (aa aj (aa aj ao))))))) (pv 4) (λ_ _=>rfl)) (pv 9)))
  (ak (aW (aH bD (pv 4) aj (aO _)) (az (aC (i:=10) bf.nd rfl (aai rfl) (aA bT (pv 10) (aN aF rfl T.Lg Tw.bc (aa (aM cD (pv 6) aj (λ_ _=>rfl)) ao))))) aP)
  (az (aG (yw (aL T.Y0 (vd T) (by decide) hr aR rfl (aa (aM cD (pv 8) aj (λ_ _=>rfl)) (aa (aM cD (pv 6) aj (λ_ _=>rfl)) ao))) (yo (aL T.YT (yz T) (by decide) hr aR rfl (aa (pv 7) (aa (aN aF rfl T.Lg Tw.bc (aa (aM aJ (pv 0) aj (λ_ _=>rfl)) ao)) (aa (pv 10) ao)))))))))))))))))))),?_⟩
 have nn:=B.aaU;have hh:=Kf.h12;have hll:=Kf.ls.1;rw[aaa,jl]at hll;have hsz:=Kf.size (show ns.length<=4000 by lia);have xrH:=e.ob _ _ xr nofun;refine⟨_,rfl,La,_,_,_,rfl,rfl,K6.of xrH,rfl,?_⟩;refine⟨_,rfl,_,_,rfl,rfl,.inr ⟨by decide,by decide⟩,_,_,rfl,rfl,(by show (0:Int)<2147483647;decide),?_⟩;refine⟨_,rfl,_,_,rfl,rfl,(by show (0:Int)<6;decide),?_⟩;obtain⟨way,ew,w0,w6⟩:∃way:Int,z*48271%2147483647%6=way/\0<=way/\way<6:=⟨_,rfl,abN _ (by decide),abB _ (by decide)⟩;show fQ 4 (.int (z*48271%2147483647%6)) _ _ _;rw[ew]
 clear ew
 refine⟨_,rfl,_,rfl,_,rfl,way,z,sg,ns,rfl,K5.of (e.ob _ _ xg nofun),w0,w6,λpt ps H4 Qd T9 RZ hp=>?_⟩
 replace e:=e.same T9
 have e4:fY H4 H4 a.Le a.MT:=⟨λ_ _ e _=>e,e.th,e.tl⟩;refine⟨_,rfl,_,rfl,_,rfl,way,sg,pt,ns,ps,rfl,K5.of (e.ob _ _ xg nofun),RZ,hp,by lia,λdu o H5 O3 ho har=>?_⟩
 replace e:=e.same O3
 replace RZ:=O3 _ _ RZ
 clear e4
 have e5:fY H5 H5 a.Le a.MT:=⟨λ_ _ e _=>e,e.th,e.tl⟩;refine⟨(by show 0<=sizeLine;decide),λsn hsn=>?_⟩;have t6:=au hsn (.lst []);have fr:=e.fresh hsn;have O8:=e5.fresh hsn;have Zt:upd H5 sn (.lst []) sn=some (.lst (([]:List Int).map V.int)):=aq
 replace e:=e.same t6
 have e6:=e5.same t6;generalize upd H5 sn (.lst [])=H6 at *;have Zu:=e.ob _ _ xr nofun;refine⟨_,rfl,_,rfl,La,_,_,_,rfl,rfl,K6.of Zu,rfl,_,rfl,La,_,_,_,rfl,rfl,K6.of Zu,rfl,_,rfl,b,sn,rfl,e.tl,λf cs H7 hf b7 Zv ca=>?_⟩;have e7:=e.made nn b7 Zv;have Zw:=e6.made nn b7 Zv;have Um:=b7 _ _ Zt (TabAt.ne e.tl Zt nofun);have nb:sn≠b:=(fr b _ Kf.b nofun).symm;have sq:=e7.ask Kf Um nb ca (by lia) (by decide);refine⟨_,rfl,⟨t,k,c,b,sn,f,ls,ns,ms,h⟩,[],way,pt,ps,rfl,sq,by decide,Zw.ob _ _ RZ nofun,hp,λfo o' ss' kk U H8 har' ho' d hk hU=>?_⟩;have eo:=har'.uniq har;subst eo;have e8:=e7.did nn fr Um d;have Ra:=Zw.did nn O8 Um d;have O6:=e8.ob _ _ xr nofun;cases o' with
 | none =>
  have ho':H8 fo=some (.lst []):=ho';have Zx:H8 du=some (.lst []):=Ra.ob _ _ ho nofun;refine⟨_,rfl,fo,_,rfl,.inl (K5.of ho'),_,rfl,du,_,rfl,.inl (K5.of Zx),rfl,_,rfl,oU rfl ?_⟩;refine⟨_,rfl,(by show 0<=sizeLine;decide),λnl hnl=>?_⟩;have t9:=au hnl (.lst []);refine .inl ⟨du,nl,[],[],rfl,rfl,K5.of (t9 _ _ Zx),K5.of aq,_,rfl,dz (q _ (e8.same t9))⟩
 | some an =>
  have hU:=hU an rfl;have hwr:∀x∈ss',(0<=x/\x<(((((Ls h (rks ms ns)).map cZ).flatten).map V.int).length:Int))/\x∈U:=by
   obtain⟨tt,et,_,ht⟩:=d.wr;rw[et,abj];exact ht
  have Qk:H8 sn=some (.lst (ss'.map V.int)):=d.seen;have Ql:=e8.ob _ _ Kf.t nofun;have Qm:=e8.ob _ _ Kf.c nofun;have Qn:=e8.ob _ _ Kf.b nofun;cases an with
  | v z1 =>
   have x2:H8 fo=some (.lst [.int z1]):=ho';have x1:H8 du=some (.lst [.int z1]):=Ra.ob _ _ ho nofun
   clear ho ho'
   have hkd:=har.kindV;refine⟨_,rfl,fo,_,rfl,.inl (K5.of x2),_,rfl,du,_,rfl,.inl (K5.of x1),rfl,_,rfl,oU rfl ?_⟩;refine⟨_,rfl,(by show 0<=sizeLine;decide),λnl hnl=>?_⟩;have t9:=au hnl (.lst []);refine .inl ⟨du,nl,[z1],[],rfl,rfl,K5.of (t9 _ _ x1),K5.of aq,_,rfl,cF ?_⟩
   replace e8:=e8.same t9
   replace x1:=t9 _ _ x1
   replace x2:=t9 _ _ x2
   replace Ql:=t9 _ _ Ql
   replace Qm:=t9 _ _ Qm
   replace Qn:=t9 _ _ Qn
   replace Qk:=t9 _ _ Qk
   replace O6:=t9 _ _ O6
   generalize upd H8 nl (.lst [])=H9 at *;refine⟨_,rfl,La,_,_,_,rfl,rfl,K6.of O6,rfl,t,_,_,_,rfl,rfl,K6.of Ql,rfl,c,_,rfl,.inr (K6.of Qm),?_⟩;obtain⟨cw,hat,hcw,hcw4⟩:∃cw:Nat,Lj (α:=V) [.int 1,.int 2,.int 4,.int 4,.int 2,.int 2] way=some (.int (cw:Int))/\bnd way h (.v z1)=cw*h/\cw<=4:=by
    rcases hkd with rfl|rfl|rfl|rfl|rfl
    ·exact⟨1,rfl,rfl,by decide⟩
    ·exact⟨2,rfl,rfl,by decide⟩
    ·exact⟨4,rfl,rfl,by decide⟩
    ·exact⟨4,rfl,rfl,by decide⟩
    ·exact⟨2,rfl,rfl,by decide⟩
   refine⟨(by show 6<=sizeLine;decide),λml Np=>?_⟩;have Ni:=au Np (.lst [.int 1,.int 2,.int 4,.int 4,.int 2,.int 2]);refine⟨_,rfl,ml,_,_,_,rfl,rfl,K5.of aq,hat,_,rfl,_,_,rfl,rfl,.inl ⟨by lia,by lia⟩,?_⟩;refine⟨_,rfl,rfl,_,rfl,bJ (λy=>?_) λ_=>?_⟩
   ·have y:way=5:=V.int.inj (of_decide_eq_true y);lia
   refine⟨_,rfl,fo,_,_,_,rfl,rfl,K5.of (Ni _ _ x2),rfl,_,rfl,du,_,_,_,rfl,rfl,K5.of (Ni _ _ x1),rfl,.int z1,.int z1,.v z1,rfl,rfl,rfl,nofun,λH10 sm10=>⟨true,rfl,dz ?_⟩⟩;have tA:=Ni.trans sm10;refine⟨_,rfl,_,rfl,La,_,_,_,rfl,rfl,K6.of (tA _ _ O6),rfl,b,_,rfl,.inl (K5.of (tA _ _ Qn)),_,rfl,sn,ss',U,_,_,rfl,K5.of (tA _ _ Qk),hwr,?_,by lia,λH11 sm11=>q _ (e8.same (tA.trans sm11))⟩;have hU:U.length<=bnd way h (.v z1):=hU;rw[hcw]at hU;show (U.length:Int)<=(cw:Int)*((ls.map V.ref).length:Int);rw[aaa,hll,<-adg];exact aet.mpr hU
  | l qs =>
   obtain⟨l1,Zy,x1,y1,R1⟩:=ho;obtain⟨l2,us2,x2,y2,R2⟩:=ho';obtain⟨h5,hql⟩:=har.kindL;subst h5
   replace x1:=Ra.ob _ _ x1 nofun
   replace y1:=Ra.ob _ _ y1 nofun
   replace R1:=R1.to λb xs e=>Ra.ob _ _ e nofun
   refine⟨_,rfl,fo,_,rfl,.inl (K5.of x2),_,rfl,du,_,rfl,.inl (K5.of x1),rfl,_,rfl,oU rfl ?_⟩;refine⟨_,rfl,(by show 0<=sizeLine;decide),λnl hnl=>?_⟩;have t9:=au hnl (.lst [])
   replace e8:=e8.same t9
   replace x1:=t9 _ _ x1
   replace y1:=t9 _ _ y1
   replace R1:=R1.to λb xs e=>t9 _ _ e
   replace x2:=t9 _ _ x2
   replace y2:=t9 _ _ y2
   replace R2:=R2.to λb xs e=>t9 _ _ e
   replace Ql:=t9 _ _ Ql
   replace Qm:=t9 _ _ Qm
   replace Qn:=t9 _ _ Qn
   replace Qk:=t9 _ _ Qk
   replace O6:=t9 _ _ O6
   have xnl:upd H8 nl (.lst []) nl=some (.lst []):=aq;generalize upd H8 nl (.lst [])=H9 at *;refine .inr ⟨_,.list [],.lst (K5.of x1) (.cons (.lst (K5.of y1) (ww R1)) .nil),.lst (K5.of xnl) .nil,wZ qs,Ex,?_⟩;rw[show PyData.eqv (.list [.list (qs.map v4)]) (.list [])=false by simp[PyData.eqv,PyData.eqvAll]];refine⟨_,rfl,cF ?_⟩;refine⟨_,rfl,La,_,_,_,rfl,rfl,K6.of O6,rfl,t,_,_,_,rfl,rfl,K6.of Ql,rfl,c,_,rfl,.inr (K6.of Qm),?_⟩;refine⟨(by show 6<=sizeLine;decide),λml Np=>?_⟩;have Ni:=au Np (.lst [.int 1,.int 2,.int 4,.int 4,.int 2,.int 2]);refine⟨_,rfl,ml,_,_,_,rfl,rfl,K5.of aq,rfl,_,rfl,_,_,rfl,rfl,.inl ⟨by decide,by decide⟩,?_⟩;have hls:((ls.map V.ref).length:Int)=(h:Int):=by rw[aaa,hll]
   refine⟨_,rfl,rfl,_,rfl,dz ?_⟩;refine⟨_,rfl,_,rfl,du,_,_,_,rfl,rfl,K5.of (Ni _ _ x1),rfl,l1,_,rfl,.inl (K5.of (Ni _ _ y1)),_,_,rfl,rfl,.inl ⟨by rw[hls];lia,by rw[hls];lia⟩,?_⟩;have hql2:qs.length<=5000:=by lia
   refine⟨_,rfl,fo,_,_,_,rfl,rfl,K5.of (Ni _ _ x2),rfl,_,rfl,du,_,_,_,rfl,rfl,K5.of (Ni _ _ x1),rfl,.ref l2,.ref l1,.l qs,rfl,⟨l2,us2,rfl,Ni _ _ y2,R2.to λb xs e=>Ni _ _ e⟩,⟨l1,Zy,rfl,Ni _ _ y1,R1.to λb xs e=>Ni _ _ e⟩,λqs' e=>by cases e;exact hql2,λH10 sm10=>⟨true,rfl,dz ?_⟩⟩;have tA:=Ni.trans sm10;refine⟨_,rfl,_,rfl,La,_,_,_,rfl,rfl,K6.of (tA _ _ O6),rfl,b,_,rfl,.inl (K5.of (tA _ _ Qn)),_,rfl,sn,ss',U,_,_,rfl,K5.of (tA _ _ Qk),hwr,?_,by lia,λH11 sm11=>q _ (e8.same (tA.trans sm11))⟩;have hU:U.length<=2*h*qs.length:=hU;show (U.length:Int)<=2*((ls.map V.ref).length:Int)*(Zy.length:Int);rw[hls,R1.1,show (2:Int)*(h:Int)*(qs.length:Int)=((2*h*qs.length:Nat):Int) by rw[adg,adg];rfl];exact aet.mpr hU
def gb(rr:Addr)(H:Hp)(v:V):Prop:=∃(La r t b k c sg:Addr) (ns ms:List Int) (h:Nat) (ls:List Addr),v=.ref La/\H La=some (.tup [.ref sg,.ref t,.ref b])/\Kept H r t b k c ns ms h ls/\H sg=some (.lst (ns.map V.int))/\ns.length<=1000/\sg≠rr/\b≠rr
theorem gb.same{rr:Addr}{H H':Hp}{v:V}(h:gb rr H v)(s:aV H H'):gb rr H' v:=by
 obtain⟨La,r,t,b,k,c,sg,ns,ms,hh,ls,h1,h2,h3,h4,h5⟩:=h;exact⟨La,r,t,b,k,c,sg,ns,ms,hh,ls,h1,s _ _ h2,h3.same s,s _ _ h4,h5⟩
theorem gb.upd{rr:Addr}{H:Hp}{v:V}{xs ys:List V}(h:gb rr H v)(e:H rr=some (.lst xs)):gb rr (L2.upd H rr (.lst ys)) v:=by
 obtain⟨La,r,t,b,k,c,sg,ns,ms,hh,ls,h1,h2,h3,h4,h5,h6,h7⟩:=h;refine⟨La,r,t,b,k,c,sg,ns,ms,hh,ls,h1,?_,h3.upd e h7,?_,h5,h6,h7⟩
 ·rw[aD λz=>by rw[z,e]at h2;cases h2];exact h2
 ·rw[aD h6];exact h4
inductive Uo(K:PySem.W.Frag)(Ph:Addr)(Pt:Addr)(vs:List V)(H:Hp)(Q:VK)(_e1:XK):Prop
 | mk (s:Addr) (ns:List Int) (_:vs=[.ref s]) (_:K5 K H s (ns.map V.int)) (_:ns.length<=63) (_:TabAt H Ph (lE cI) aZ.qual) (_:TabAt H Pt (tG dN) bL.qual) (_:∀H',Q (.bl true) H')
theorem Bv{H:Hp}{s Ph Pt:Addr}{ns:List Int}(hS:K5 K H s (ns.map V.int))(hl:ns.length<=63)(h0:H Ph=some (.Ld #[]))(h:H Pt=some (.Ld #[])):Uo K Ph Pt [.ref s] H (λv _=>v=.bl true) λ_ _ _=>False:=
 ⟨s,ns,rfl,hS,hl,tab0 h0,tab0 h,λ_=>rfl⟩
theorem Ie(T:Tx K mg a)(B:Bs mg base a):bh P w K mg base K9 13 a.Yj a.Yk ["_law_script"] (Uo K a.Le a.MT):=by
 refine T.ad9.F.ok lD (λvs H Q E h=>?_) (λcdv A outer s H vs Q E hr h=>?_)
 ·obtain⟨b,f,rfl,_⟩:=h;rfl
 obtain⟨sa,zs,rfl,hS,hl,tPh,tPt,q⟩:=h;refine⟨_,(ak (aC (i:=1) lD.nd rfl (aai rfl) (jE mJ (pv 0) uT (jt aj)))
  (ak (aC (i:=2) lD.nd rfl (aai rfl) (bR ao))
  (ak (b8 PassesOwn.never rfl (bV (bR (aa (aL T.TX (lZ T) (by decide) hr aR rfl (aa (wg (pv 1) aj aj) ao)) (aa (aL T.TX (lZ T) (by decide) hr aR rfl (aa (wg (pv 1) aj aj) ao)) ao)))) (aX (i:=3) lD.nd rfl (aai rfl)) (ak (aC (i:=4) lD.nd rfl (aai rfl) (fj uX rfl T.QT Tw.lY (aa (pv 3) ao)))
  (ak (aC (i:=5) lD.nd rfl (aai rfl) (aL T.Yx (rZ T) (by decide) hr aR rfl (aa (pv 4) ao)))
  (ak (aW (aH (Dz hr.units) (pv 4) (pv 3) (aO _)) (az (aG lA)) aP)
  (az (bH (lB PySem.F.plainAttrs_list PySem.F.slot_list_append PySem.F.type_list_append cG (pv 2) (aa (bU (aa (pv 3) (aa (aM aJ (pv 5) aj (λ_ _=>rfl)) (aa (aM aJ (pv 5) aj (λ_ _=>rfl)) ao)))) ao))))))))
  (ak (b8 PassesOwn.never rfl (bV (aA zr (pv 1) (Gf (jE mJ (pv 1) uT (jt aj)) (oZ jO aj)))) (aX (i:=6) lD.nd rfl (aai rfl)) (az (aW (jf (lJ (aL T.Y4 (pC T B) (by decide) hr aR rfl (aa (aM cD (pv 2) (aA bj (aA bj (aA bT (pv 6) aj) aj) aj) (λ_ _=>rfl)) (aa (pv 6) ao))))) (az (aG lA)) aP)))
  (az (aG lA)))))),?_⟩
 refine⟨_,rfl,_,rfl,sa,_,rfl,hS,λce hce=>?_⟩;have ecut:rJ (zs.map V.int) none (some 63)=(zs.take 63).map V.int:=zc zs 63;rw[ecut];have s0:=au hce (.lst ((zs.take 63).map V.int));have Nq:upd H ce (.lst ((zs.take 63).map V.int)) ce=some (.lst ((zs.take 63).map V.int)):=aq;have hcl:(zs.take 63).length<=63:=by rw[aaC];lia
 generalize zs.take 63=cs at *;generalize upd H ce (.lst (cs.map V.int))=H0 at *;refine⟨(by show 0<=sizeLine;decide),λrr hrr=>?_⟩;have s1:=s0.trans (au hrr (.lst []));have hrrH:H rr=none:=s0.free hrr;have N6:upd H0 rr (.lst []) rr=some (.lst []):=aq;have ncr:ce≠rr:=aB Nq hrr
 replace Nq:=au hrr (.lst []) _ _ Nq
 generalize upd H0 rr (.lst [])=H1 at *;refine⟨_,rfl,0,2,ce,cs,rfl,rfl,by decide,rfl,K5.of Nq,λl1 m1 hl1 _=>⟨l1,m1,rfl,K5.of aq,λg1 H2 n1 hg1 Lk x1 hin1 hn1=>?_⟩⟩;have t1:=(au hl1 (.lst (m1.map V.int))).trans Lk;have Zz:g1≠rr:=(aB (au hl1 (.lst (m1.map V.int)) _ _ N6) hg1).symm
 replace Nq:=t1 _ _ Nq
 replace N6:=t1 _ _ N6
 replace s1:=s1.trans t1
 refine⟨_,rfl,1,2,ce,cs,rfl,rfl,by decide,rfl,K5.of Nq,λl2 m2 hl2 _=>⟨l2,m2,rfl,K5.of aq,λg2 H3 n2 hg2 sm3 x2 hin2 hn2=>?_⟩⟩;have t2:=(au hl2 (.lst (m2.map V.int))).trans sm3;have ZC:g2≠rr:=(aB (au hl2 (.lst (m2.map V.int)) _ _ N6) hg2).symm
 replace Nq:=t2 _ _ Nq
 replace N6:=t2 _ _ N6
 replace x1:=t2 _ _ x1
 replace s1:=s1.trans t2
 refine⟨(by show 2<=sizeLine;decide),λll hll=>⟨ll,rfl,⟨_,K5.of aq⟩,?_⟩⟩;have t3:=au hll (.lst [.ref g1,.ref g2]);have nll:ll≠rr:=(aB N6 hll).symm;have xll:upd H3 ll (.lst [.ref g1,.ref g2]) ll=some (.lst [.ref g1,.ref g2]):=aq
 replace Nq:=t3 _ _ Nq
 replace N6:=t3 _ _ N6
 replace x1:=t3 _ _ x1
 replace x2:=t3 _ _ x2
 replace s1:=s1.trans t3
 generalize upd H3 ll (.lst [.ref g1,.ref g2])=H4 at *;have itm:∀(i:Nat) (v:V) (H':Hp),([V.ref g1,V.ref g2]:List V)[i]?=some v->H' g1=some (.lst (n1.map V.int))->H' g2=some (.lst (n2.map V.int)) -> ∃(g:Addr) (ns:List Int),v=.ref g/\H' g=some (.lst (ns.map V.int))/\O2 ns/\ns.length<=110/\g≠rr:=λi v H' e y1 y2=>by
  match i,e with
  | 0,e=>cases e;exact⟨g1,n1,rfl,y1,hin1,hn1,Zz⟩
  | 1,e=>cases e;exact⟨g2,n2,rfl,y2,hin2,hn2,ZC⟩
 refine cQ (xs:=[V.ref g1,V.ref g2]) (λi σ H'=>∃(k3 k4 k5:Option V) (vs:List V),σ=[some (.ref sa),some (.ref ce),some (.ref rr),k3,k4,k5,none]/\aV H H'/\H' ll=some (.lst [.ref g1,.ref g2])/\H' g1=some (.lst (n1.map V.int))/\H' g2=some (.lst (n2.map V.int))/\H' ce=some (.lst (cs.map V.int))/\H' rr=some (.lst vs)/\vs.length=i /\ ∀v∈vs,gb rr H' v) ⟨none,none,none,[],rfl,s1,xll,x1,x2,Nq,N6,rfl,nofun⟩ ?_ ?_ ?_
 ·rintro i σ H' _ ⟨_,_,_,_,_,_,h,_⟩;exact K5.of h
 ·rintro i v σ H' hv ⟨k3,k4,k5,vs,rfl,sm,ZD,y1,y2,R0,Pz,hvl,hG⟩;have hi:=(aab.mp hv).1;obtain⟨g,ns,rfl,yg,hin,hn,ngr⟩:=itm i v H' hv y1 y2;refine⟨_,rfl,g,_,rfl,.inl (K5.of yg),λhd hhd=>?_⟩;have u1:=au hhd (.lst (ns.map V.int));have xh:upd H' hd (.lst (ns.map V.int)) hd=some (.lst (ns.map V.int)):=aq;have yrr1:=u1 _ _ Pz;generalize upd H' hd (.lst (ns.map V.int))=H5 at *;refine⟨_,rfl,hd,ns,rfl,K5.of xh,by lia,hin,λr t b k c ms h ls H6 hb ZF Kf=>?_⟩;have RM:b≠rr:=(aB yrr1 hb).symm;have u2:=u1.trans ZF;refine⟨_,rfl,_,rfl,.inl ⟨hd,g,ns,ns,rfl,rfl,K5.of (ZF _ _ xh),K5.of (u2 _ _ yg),_,rfl,oU rfl ?_⟩⟩;have yrr2:=u2 _ _ Pz;refine⟨_,rfl,.inl ⟨rfl,_,K5.of yrr2⟩,_,rfl,_,rfl,r,_,_,_,rfl,rfl,K6.of Kf.r,rfl,_,rfl,r,_,_,_,rfl,rfl,K6.of Kf.r,rfl,(by show 3<=sizeLine;decide),λtp htp=>?_⟩;have u3:=au htp (.tup [.ref g,.ref t,.ref b]);have u4:=u2.trans u3;have yrr3:=u4 _ _ Pz;refine⟨rr,_,_,rfl,rfl,yrr3,by rw[hvl,sizeLine_eq];have:i<2:=hi;lia,?_⟩;have G0:gb rr (upd H6 tp (.tup [.ref g,.ref t,.ref b])) (.ref tp):=⟨tp,r,t,b,k,c,g,ns,ms,h,ls,rfl,aq,Kf.same u3,u4 _ _ yg,by lia,ngr,RM⟩;refine⟨_,_,_,vs++[.ref tp],rfl,cR (sm.trans u4) hrrH _,by rw[aD nll];exact u4 _ _ ZD,by rw[aD Zz];exact u4 _ _ y1,by rw[aD ZC];exact u4 _ _ y2,by rw[aD ncr];exact u4 _ _ R0,aq,by rw[aae,hvl];rfl,λv hv=>?_⟩;rcases aaK.mp hv with hv|hv
  ·exact((hG v hv).same u4).upd yrr3
  ·rw[aal.mp hv];exact G0.upd yrr3
 rintro σ H5 ⟨k3,k4,k5,vs,rfl,sm,ZD,y1,y2,R0,Pz,hvl,hG⟩;have hvl:vs.length=2:=hvl;refine⟨_,rfl,_,rfl,_,rfl,ce,_,rfl,K5.of R0,λc1 hc1=>?_⟩;have ec:rJ (cs.map V.int) none (some 10)=(cs.take 10).map V.int:=zc cs 10;rw[ec];have u1:=au hc1 (.lst ((cs.take 10).map V.int));refine⟨_,rfl,rfl,c1,_,rfl,K5.of aq,λc2 hc2=>?_⟩;have u2:=au hc2 (.lst ((cs.take 10).map V.int).reverse);refine⟨ce,c2,_,_,rfl,rfl,u2 _ _ (u1 _ _ R0),aq,by rw[aaa,acj,aaa,aaC,sizeLine_eq];lia,λc3 hc3=>⟨c3,rfl,⟨_,K5.of aq⟩,?_⟩⟩;have u3:=au hc3 (.lst (cs.map V.int++((cs.take 10).map V.int).reverse));have Up:=u1.trans (u2.trans u3);have e6:∀v∈cs.map V.int++((cs.take 10).map V.int).reverse,∃z:Int,v=.int z:=λv hv=>by
  rcases aaK.mp hv with hv|hv
  ·obtain⟨z,_,rfl⟩:=aaE.mp hv;exact⟨z,rfl⟩
  ·obtain⟨z,_,rfl⟩:=aaE.mp (abU.mp hv);exact⟨z,rfl⟩
 have xc3:upd (upd (upd H5 c1 (.lst ((cs.take 10).map V.int))) c2 (.lst ((cs.take 10).map V.int).reverse)) c3 (.lst (cs.map V.int++((cs.take 10).map V.int).reverse)) c3=some (.lst (cs.map V.int++((cs.take 10).map V.int).reverse)):=aq
 replace Pz:=Up _ _ Pz
 replace sm:=sm.trans Up
 replace hG:∀v∈vs,gb rr _ v:=λv hv=>(hG v hv).same Up
 generalize upd (upd (upd H5 c1 (.lst ((cs.take 10).map V.int))) c2 (.lst ((cs.take 10).map V.int).reverse)) c3 (.lst (cs.map V.int++((cs.take 10).map V.int).reverse))=H6 at *;generalize cs.map V.int++((cs.take 10).map V.int).reverse=qs at *;have env:fY H6 H6 a.Le a.MT:=⟨λ_ _ e _=>e,TabAt.same tPh sm,TabAt.same tPt sm⟩;refine cQ (xs:=qs) (λi σ H'=>(∃k6,σ=[some (.ref sa),some (.ref ce),some (.ref rr),k3,k4,k5,k6])/\fY H6 H' a.Le a.MT) ⟨⟨none,rfl⟩,env⟩ ?_ ?_ ?_
 ·rintro i σ H' _ ⟨_,e'⟩;exact K5.of (e'.ob _ _ xc3 nofun)
 ·rintro i v σ H' hv ⟨⟨k6,rfl⟩,e'⟩;obtain⟨z,rfl⟩:=e6 v (aah hv);have i0:=abN (z*69621%2147483629) (show (2:Int)≠0 by decide);have i1:=abB (z*69621%2147483629) (show (0:Int)<2 by decide);obtain⟨j,ej,hj⟩:∃j:Nat,z*69621%2147483629%2=(j:Int)/\j<vs.length:=by
   generalize z*69621%2147483629%2=y at *;exact⟨y.toNat,by lia,by lia⟩
  clear i0 i1
  have hat:Lj vs (z*69621%2147483629%2)=some vs[j]:=by
   rw[ej];exact G8 (aac hj)
  obtain⟨La,r,t,b,k,c,sg,ns,ms,h,ls,erw,h2,h3,h4,h5,_,_⟩:=hG _ (aaP hj)
  clear ej
  refine⟨_,rfl,_,rfl,_,_,rfl,rfl,.inr ⟨by decide,by decide⟩,_,_,rfl,rfl,(by show (0:Int)<2147483629;decide),_,_,rfl,rfl,(by show (0:Int)<2;decide),rr,_,_,_,rfl,rfl,K5.of (e'.ob _ _ Pz nofun),hat,_,rfl,H6,La,r,t,b,k,c,sg,ns,ms,h,ls,z,by rw[erw];rfl,e',h3,h4,h2,h5,λH7 e7=>⟨true,rfl,cF ⟨⟨_,rfl⟩,e7⟩⟩⟩
 ·rintro σ H' ⟨⟨k6,rfl⟩,e'⟩;exact q _
end
theorem Jr{l:PySem.W.OpenLaw}{w:World}{K:PySem.W.Frag}{h:Heap}{mg:Str->Option Value}{fa f0 f1 f2 f3 f4 f5 f6 f7 f8 f9 f10 f11 f12 f13 f14 f15 f16 f17 f18 f19 f20 f21 f22 f23 f24 f25 f26 f27 f28 f29 f30 f31 f32 f33 f34 f35 f36 f37 f38 f39 f40 f41 f42 f43 f44 f45 f46 f47 Uq f49 f50 f51 f52 f53 f54 f55 f56 f57:Addr}{e0 e1 e2 e3 e4 e5 e6 e8 e9 e10 e11 e12 e13 e14 e15 e16 e17 e18 e19 e20 e21 e22 e23 e24 e25 e26 e27 e28 e29 e30 e31 e32 e33 e34 e35 e36 e37 e38 e39 e40 e41 e42 e43 e44 e45 e46 e47 e49 e50 e51 e52 e53 e54 e55 e56 e57:FuncData}{od7 an7 od48 an48:Option Addr}{sl7 sl48:Array (Option Value)}{oc7 kV7 dc7 pm7 ct7 oc48 kV48 dc48 pm48 ct48:Value}{tt_BLOCK_BITS tt_MOST_BITS tt_MOST_SIGNS:Tok}{Ln:Addr}{Ox Le Oz MT:Addr}{to_look_from to_law_look:Value}{td_look_from td_law_look:Option Addr}{tv_look_from tv_law_look:Array Value}{ts_look_from ts_law_look:Array (Option Value)}{qq:Program}{loose:List Str}{mb:Str->Option Value}{mean:ExcName->Option Value}(X:K.In h)(TT:PyProof.Rows.Top qq loose mean mg mb h)(hfa:mg "law" = some (.ref fa))
  (d0:FI K "packed" rG f0 e0)
  (d1:FI K "check_row" jZ f1 e1)
  (d2:FI K "block_of" lV f2 e2)
  (d3:FI K "bit_in" q9 f3 e3)
  (d4:FI K "bits_of" oJ f4 e4)
  (d5:FI K "ones_in" nq f5 e5)
  (d6:FI K "one_in" qx f6 e6)
  (a7:PySem.W.nsIn K mainGlobals "look_from" = some (some (.ref f7)))(l7:K.lookup f7=some ⟨oc7,od7,.func (PySem.W.fnOf "look_from" "look_from" (ν cu) (μ cu) (δ cu) .none kV7 dc7 pm7 an7 (.ref Ox) ct7),sl7⟩)(c7:PySem.W.codeIn K (.ref Ox) "look_from" = true)(k7:PySem.W.keepIn K (.ref f7)=true)
  (Ur:K.lookup Ox=some ⟨to_look_from,td_look_from,.fields tv_look_from,ts_look_from⟩)(Us:tv_look_from[11]?=some (.ref Le))(Rb:∃d,(PyProof.Rows.recsOf qq).find? (λe=>e.name == ("look_from" : Str))=some d)
  (d8:FI K "size_of" nR f8 e8)
  (d9:FI K "check_stretch" fX f9 e9)
  (d10:FI K "kept_row" lG f10 e10)
  (d11:FI K "ahead_of" lC f11 e11)
  (Qg:FI K "check_place" iw f12 e12)
  (d13:FI K "bit_at" qQ f13 e13)
  (d14:FI K "ones_at" nW f14 e14)
  (d15:FI K "noughts_at" iZ f15 e15)
  (d16:FI K "one_place" jM f16 e16)
  (d17:FI K "nought_place" gQ f17 e17)
  (d18:FI K "check_nth" j8 f18 e18)
  (d19:FI K "last_no_greater" eU f19 e19)
  (d20:FI K "check_signs" ig f20 e20)
  (d21:FI K "kept_signs" jn f21 e21)
  (d22:FI K "ranks_among" ie f22 e22)
  (d23:FI K "level_count" ir f23 e23)
  (d24:FI K "level_rows" ju f24 e24)
  (d25:FI K "parted" pW f25 e25)
  (d26:FI K "levels_of" jR f26 e26)
  (d27:FI K "place_below" il f27 e27)
  (d28:FI K "place_above" iy f28 e28)
  (d29:FI K "nought_count" gD f29 e29)
  (d30:FI K "stretch_below" fW f30 e30)
  (d31:FI K "length_of" jX f31 e31)
  (d32:FI K "stretch_of_rank" dX f32 e32)
  (d33:FI K "rank_bits" jW f33 e33)
  (d34:FI K "kinds_below" ik f34 e34)
  (d35:FI K "rank_of" nF f35 e35)
  (d36:FI K "sign_at" oA f36 e36)
  (d37:FI K "signs_ahead" iz f37 e37)
  (d38:FI K "sign_place" iU f38 e38)
  (d39:FI K "between" nY f39 e39)
  (d40:FI K "below" uV f40 e40)
  (d41:FI K "so_manieth" jr f41 e41)
  (d42:FI K "unlike" rn f42 e42)
  (d43:FI K "split_up" lL f43 e43)
  (d44:FI K "filled" qi f44 e44)
  (d45:FI K "_law_whole" j4 f45 e45)
  (d46:FI K "_law_piece" jA f46 e46)
  (d47:FI K "_law_signs" jP f47 e47)
  (a48:PySem.W.nsIn K mainGlobals "_law_look" = some (some (.ref Uq)))(R3:K.lookup Uq=some ⟨oc48,od48,.func (PySem.W.fnOf "_law_look" "_law_look" (ν cO) (μ cO) (δ cO) .none kV48 dc48 pm48 an48 (.ref Oz) ct48),sl48⟩)(Ut:PySem.W.codeIn K (.ref Oz) "_law_look" = true)(Uu:PySem.W.keepIn K (.ref Uq)=true)
  (Uv:K.lookup Oz=some ⟨to_law_look,td_law_look,.fields tv_law_look,ts_law_look⟩)(Uw:tv_law_look[11]?=some (.ref MT))(Rc:∃d,(PyProof.Rows.recsOf qq).find? (λe=>e.name == ("_law_look" : Str))=some d)
  (d49:FI K "_law_few" nU f49 e49)
  (d50:FI K "_law_sought" jq f50 e50)
  (d51:FI K "_law_parts" jQ f51 e51)
  (d52:FI K "_law_due" nM f52 e52)
  (Ux:FI K "_law_answer" jb f53 e53)
  (d54:FI K "_law_told" jk f54 e54)
  (d55:FI K "_law_alike" j5 f55 e55)
  (d56:FI K "_law_one_good" gK f56 e56)
  (d57:FI K "law" Dw f57 e57)
  (Uy:PySem.W.nsIn K mainGlobals "abs" = some none)
  (Uz:PySem.W.nsIn K mainGlobals "bool" = some none)
  (UG:PySem.W.nsIn K mainGlobals "enumerate" = some none)
  (UJ:PySem.W.nsIn K mainGlobals "int" = some none)
  (UL:PySem.W.nsIn K mainGlobals "isinstance" = some none)
  (UT:PySem.W.nsIn K mainGlobals "len" = some none)
  (UV:PySem.W.nsIn K mainGlobals "list" = some none)
  (UW:PySem.W.nsIn K mainGlobals "max" = some none)
  (U0:PySem.W.nsIn K mainGlobals "min" = some none)
  (U3:PySem.W.nsIn K mainGlobals "range" = some none)
  (U4:PySem.W.nsIn K mainGlobals "reversed" = some none)
  (U5:PySem.W.nsIn K mainGlobals "set" = some none)
  (U6:PySem.W.nsIn K mainGlobals "sorted" = some none)
  (U7:PySem.W.nsIn K mainGlobals "sum" = some none)
  (U8:PySem.W.nsIn K mainGlobals "tuple" = some none)
  (U9:PySem.W.nsIn K mainGlobals "zip" = some none)
  (Va:PySem.W.nsIn K mainGlobals "BLOCK_BITS" = some (some (.int 32 tt_BLOCK_BITS)))
  (Vb:PySem.W.nsIn K mainGlobals "MOST_BITS" = some (some (.int 4096 tt_MOST_BITS)))
  (Vc:PySem.W.nsIn K mainGlobals "MOST_SIGNS" = some (some (.int 4096 tt_MOST_SIGNS)))
  (R4:PySem.W.nsIn K mainGlobals "NoPlace" = some (some (.ref Ln)))
  (Vd:PySem.W.excIn K Ln Rp "ValueError.__new__" = true)
  (Ve:PySem.W.hasDictIn K Ln=true)
  (Vf:PySem.W.findIn K (.ref Ln) "__getattribute__" = some (some (.builtin "BaseException.__getattribute__")))
  (Vg:PySem.W.findIn K (.ref Ln) "__getattr__" = some none)
  (Vh:PySem.W.findIn K (.ref Ln) "__class__" = some (some (.builtin "object.__class__")))
  (Vi:PySem.W.specialIn K (.builtin "object.__class__") "__get__" = some (some (.builtin "getset_descriptor.__get__")))
  (Vj:PySem.W.takesIn K (.builtin "object.__class__")=some true)
  (Vk:PySem.W.mroIn K Ln (.type "object")=some true)
  (Vl:PySem.W.mroIn K Ln (.type "BaseException")=some true)
  (QW:PySem.W.kitOne K (.ref Ln) (.ref Ln)=some true)
  (RL:PySem.W.kitOne K (.ref Ln) (.type "ValueError")=some true)
  (nt:PySem.W.noTabs K=true)
  (Vm:Le≠MT):
  ∃(fd:FuncData) (tabs:List (Addr×Addr)) (sp:Sp),(∀(s:Shared) (v:Value),BindsTo s fd ⟨[v],[]⟩ [("_law_script",v)])/\PySem.W.TabsAt tabs h/\PySem.W.noTabs K=true/\(∀base:Heap,K.In base->base.Ns mainGlobals mg->BMain mg base->(∀q∈tabs,PySem.W.CodeHd base q.1 q.2)->bh l.prog w K mg base K9 13 fa fd ["_law_script"] sp) /\
   ∀(H:Hp) (a:Addr) (ns:List Int),ns.length<=63->K5 K H a (ns.map V.int)->(∀q∈tabs,H q.2=some (.Ld #[]))->sp [.ref a] H (λv _=>v=.bl true) λ_ _ _=>False:=by
 have G:=TT.g;have e:=hfa.symm.trans (PySem.W.mg_of X G d57.a);cases e;obtain⟨_,_,_,_,_,_,_,_,_,rfl,_,_⟩:=d57.F.ex;have F7:=yI (st:=cu) l7 c7 k7
 have D7:Df K mg "look_from" cu ["look","first"] _ _:=⟨F7,F7.binds (ps:=["look","first"]) λ_ _ _ _ _ _ us hl=>Eu (C:=λus=>bindArgs _ ⟨us,[]⟩=pure (acd (["look","first"]:List Str) us)) hl (λ_ _=>rfl),PySem.W.mg_of X G a7⟩
 have F48:=yI (st:=cO) R3 Ut Uu
 have D48:Df K mg "_law_look" cO ["_law_blocks","_law_seen"] _ _:=⟨F48,F48.binds (ps:=["_law_blocks","_law_seen"]) λ_ _ _ _ _ _ us hl=>Eu (C:=λus=>bindArgs _ ⟨us,[]⟩=pure (acd (["_law_blocks","_law_seen"]:List Str) us)) hl (λ_ _=>rfl),PySem.W.mg_of X G a48⟩
 have T:Tx K mg ⟨Ox,Le,Oz,MT,_,_,_,_,_,_,_,_,_,_,_,_,_,_,_,_,_,_,_,_,_,_,_,_,_,_,_,_,_,_,_,_,_,_,_,_,_,_,_,_,_,_,_,_,_,_,_,_,_,_,_,_,_,_,_,_,_,_,_,_,_,_,_,_,_,_,_,_,_,_,_,_,_,_,_,_,_,_,_,_,_,_,_,_,_,_,_,_,_,_,_,_,_,_,_,_,_,_,_,_,_,_,_,_,_,_,_,_,_,_,_,_,_,_,_,_,_,_,_,Ln⟩:=⟨MP X G d0 λ_ _ _ _ _ _ _=>rfl,MP X G d1 λ_ _ _ _ _ _ _=>rfl,MP X G d2 λ_ _ _ _ _ _ _=>rfl,Mp X G d3 λ_ _ _ _ _ _ _ _=>rfl,Mp X G d4 λ_ _ _ _ _ _ _ _=>rfl,Mp X G d5 λ_ _ _ _ _ _ _ _=>rfl,Mp X G d6 λ_ _ _ _ _ _ _ _=>rfl,D7,MP X G d8 λ_ _ _ _ _ _ _=>rfl,M9 X G d9 λ_ _ _ _ _ _ _ _ _=>rfl,MP X G d10 λ_ _ _ _ _ _ _=>rfl,MP X G d11 λ_ _ _ _ _ _ _=>rfl,Mp X G Qg λ_ _ _ _ _ _ _ _=>rfl,M9 X G d13 λ_ _ _ _ _ _ _ _ _=>rfl,M9 X G d14 λ_ _ _ _ _ _ _ _ _=>rfl,M9 X G d15 λ_ _ _ _ _ _ _ _ _=>rfl,M9 X G d16 λ_ _ _ _ _ _ _ _ _=>rfl,M9 X G d17 λ_ _ _ _ _ _ _ _ _=>rfl,Mp X G d18 λ_ _ _ _ _ _ _ _=>rfl,Mp X G d19 λ_ _ _ _ _ _ _ _=>rfl,MP X G d20 λ_ _ _ _ _ _ _=>rfl,MP X G d21 λ_ _ _ _ _ _ _=>rfl,Mp X G d22 λ_ _ _ _ _ _ _ _=>rfl,MP X G d23 λ_ _ _ _ _ _ _=>rfl,Mp X G d24 λ_ _ _ _ _ _ _ _=>rfl,Mp X G d25 λ_ _ _ _ _ _ _ _=>rfl,Mp X G d26 λ_ _ _ _ _ _ _ _=>rfl,M9 X G d27 λ_ _ _ _ _ _ _ _ _=>rfl,M9 X G d28 λ_ _ _ _ _ _ _ _ _=>rfl,MP X G d29 λ_ _ _ _ _ _ _=>rfl,M9 X G d30 λ_ _ _ _ _ _ _ _ _=>rfl,MP X G d31 λ_ _ _ _ _ _ _=>rfl,M9 X G d32 λ_ _ _ _ _ _ _ _ _=>rfl,Mp X G d33 λ_ _ _ _ _ _ _ _=>rfl,Mp X G d34 λ_ _ _ _ _ _ _ _=>rfl,Mp X G d35 λ_ _ _ _ _ _ _ _=>rfl,M9 X G d36 λ_ _ _ _ _ _ _ _ _=>rfl,Qa X G d37 λ_ _ _ _ _ _ _ _ _ _=>rfl,Qa X G d38 λ_ _ _ _ _ _ _ _ _ _=>rfl,df6 X G d39 λ_ _ _ _ _ _ _ _ _ _ _ _=>rfl,Qa X G d40 λ_ _ _ _ _ _ _ _ _ _=>rfl,df5 X G d41 λ_ _ _ _ _ _ _ _ _ _ _=>rfl,Qa X G d42 λ_ _ _ _ _ _ _ _ _ _=>rfl,Mp X G d43 λ_ _ _ _ _ _ _ _=>rfl,MP X G d44 λ_ _ _ _ _ _ _=>rfl,MP X G d45 λ_ _ _ _ _ _ _=>rfl,Mp X G d46 λ_ _ _ _ _ _ _ _=>rfl,MP X G d47 λ_ _ _ _ _ _ _=>rfl,D48,M9 X G d49 λ_ _ _ _ _ _ _ _ _=>rfl,Mp X G d50 λ_ _ _ _ _ _ _ _=>rfl,M9 X G d51 λ_ _ _ _ _ _ _ _ _=>rfl,M9 X G d52 λ_ _ _ _ _ _ _ _ _=>rfl,Qa X G Ux λ_ _ _ _ _ _ _ _ _ _=>rfl,Qa X G d54 λ_ _ _ _ _ _ _ _ _ _=>rfl,Mp X G d55 λ_ _ _ _ _ _ _ _=>rfl,Mp X G d56 λ_ _ _ _ _ _ _ _=>rfl,MP X G d57 λ_ _ _ _ _ _ _=>rfl,PySem.W.mg_none_of X G Uy,PySem.W.mg_none_of X G Uz,PySem.W.mg_none_of X G UG,PySem.W.mg_none_of X G UJ,PySem.W.mg_none_of X G UL,PySem.W.mg_none_of X G UT,PySem.W.mg_none_of X G UV,PySem.W.mg_none_of X G UW,PySem.W.mg_none_of X G U0,PySem.W.mg_none_of X G U3,PySem.W.mg_none_of X G U4,PySem.W.mg_none_of X G U5,PySem.W.mg_none_of X G U6,PySem.W.mg_none_of X G U7,PySem.W.mg_none_of X G U8,PySem.W.mg_none_of X G U9,PySem.W.mg_of X G Va,PySem.W.mg_of X G Vb,PySem.W.mg_of X G Vc,PySem.W.mg_of X G R4,⟨PySem.W.mg_of X G R4,Vd⟩,⟨Ve,Vf,Vg,Vh,Vi,Vj,Vk,Vl⟩,QW,RL,rfl,rfl⟩;obtain⟨d_look_from,Rb⟩:=Rb;have tb_look_from:=PySem.W.tab_of TT X Rb (wC a7 l7 rfl Ur Us);obtain⟨d_law_look,Rc⟩:=Rc;have tb_law_look:=PySem.W.tab_of TT X Rc (wC a48 R3 rfl Uv Uw);exact⟨_,[(Ox,Le),(Oz,MT)],Uo K Le MT,λs v=>.of_eq rfl,adk.mpr ⟨tb_look_from,adk.mpr ⟨tb_law_look,λ_ z=>nomatch z⟩⟩,nt,λbase _ _ bm hc=>Ie T ⟨bm,hc _ (.head _),hc _ (.tail _ (.head _)),Vm⟩,λH a ns hl hS hTb=>Bv hS hl (hTb _ (.head _)) (hTb _ (.tail _ (.head _)))⟩
end Tw
namespace Tp
open PySem
noncomputable section
abbrev O:=Params→Obj
def sq (l:List Str):Nat→List Value:=@List.rec Str (λ_=>Nat→List Value) (λ_=>[]) (λs _ ih t=>Value.str s t::ih (Nat.add t 1)) l
def ap {α:Type} (a b:List α):List α:=@List.rec α (λ_=>List α) b (λx _ r=>x::r) a
def tk {α:Type} (l:List α):Nat→List α:=@List.rec α (λ_=>Nat→List α) (λ_=>[]) (λx _ ih n=>@Nat.rec (λ_=>List α) [] (λm _=>x::ih m) n) l
def mp {α β:Type} (f:α→β) (l:List α):List β:=@List.rec α (λ_=>List β) [] (λx _ r=>f x::r) l
def ov (l:List O):List (Nat×O)→List O:=@List.rec O (λ_=>List (Nat×O)→List O) (λ_=>[]) (λx _ ih ex=>@List.rec (Nat×O) (λ_=>List O) (x::ih []) (λe r _=>@Nat.rec (λ_=>List O) (e.2::ih r) (λg _=>x::ih ((g,e.2)::r)) e.1) ex) l
def ev (l:List Obj):Bool→List Obj:=@List.rec Obj (λ_=>Bool→List Obj) (λ_=>[]) (λx _ ih b=>@Bool.rec (λ_=>List Obj) (ih true) (x::ih false) b) l
def bt (n:Nat):List Obj→PySem.W.BT:=@Nat.rec (λ_=>List Obj→PySem.W.BT) (λ_=>.nil) (λ_ ih l=>@List.rec Obj (λ_=>PySem.W.BT) .nil (λx xs _=>.node x (ih (ev xs true)) (ih (ev xs false))) l) n
def Z (s:Str) (t:Nat) (v:Value) (P:Params):DictEntry:=.mk (PyData.keyHash P s) (.str s t) v
def E (s:Str) (t r:Nat) (P:Params):DictEntry:=.mk (PyData.keyHash P s) (.str s t) (.ref r)
def gd (l:List (Params→DictEntry)) (n:Nat) (P:Params):Obj:=.mk (.type "dict") none (.dict (mp (λe=>e P) l).toArray n) #[]
def tb (l:List (Nat×Nat)) (P:Params):Obj:=.mk .none none (.fields (@List.rec (Nat×Nat) (λ_=>List Value) [] (λx _ r=>.int (Int.ofNat x.1) 0::.int 0 0::.ref x.2::r) l).toArray) #[]
def h0 (x0:Nat) (x1:Nat) (x2:Nat) (x3:Str):List O:=[λP=>(.mk (.type "tuple") none (.seq #[(.ref 24)] 0) #[]),λP=>(.mk (.type "builtin_function_or_method") none (.fields #[(.builtin "type.__prepare__"),(.type "type")]) #[]),λP=>(.mk (.type "dict") none (.dict #[(.mk (PyData.keyHash P "__module__") (.str "__module__" (Nat.add x0 7)) (.str "thinwood.errors" 187)),(.mk (PyData.keyHash P "__qualname__") (.str "__qualname__" (Nat.add x0 9)) (.str x3 (Nat.add x0 8))),(.mk (PyData.keyHash P "__firstlineno__") (.str "__firstlineno__" (Nat.add x0 11)) (.int (Int.ofNat x1) (Nat.add x0 10))),(.mk (PyData.keyHash P "__static_attributes__") (.str "__static_attributes__" (Nat.add x0 12)) (.ref (Nat.add x2 7)))] 4) #[]),λP=>(.mk (.type "tuple") none (.seq #[] 0) #[]),λP=>(.mk .none none (.fields #[]) #[]),λP=>(.mk (.type "code") none (.fields #[(.str x3 (Nat.add x0 2)),(.str x3 (Nat.add x0 3)),(.str "/claim/cut.py" (Nat.add x0 4)),(.int (Int.ofNat x1) 0),(.int 0 0),(.int 0 0),(.int 0 0),(.int 0 0),(.ref (Nat.add x2 3)),(.bool .false),(.int 181 0),(.ref (Nat.add x2 4)),.none,.none,.none,.none,(.int (Int.ofNat (Nat.add x0 5)) 0),(.int (Int.ofNat x1) 0),(.str "/claim/cut.py" (Nat.add x0 6))]) #[]),λP=>(.mk (.type "frame") none .plain #[(some (.ref (Nat.add x2 5))),(some (.ref 3)),(some (.ref (Nat.add x2 2))),none,(some (.str "thinwood.errors" 187)),none,(some (.ref 0))]),λP=>(.mk (.type "tuple") none (.seq #[] 0) #[]),λP=>(.mk (.type "dict") none (.dict #[(.mk (PyData.keyHash P "__module__") (.str "__module__" (Nat.add x0 7)) (.str "thinwood.errors" 187)),(.mk (PyData.keyHash P "__firstlineno__") (.str "__firstlineno__" (Nat.add x0 11)) (.int (Int.ofNat x1) (Nat.add x0 10))),(.mk (PyData.keyHash P "__static_attributes__") (.str "__static_attributes__" (Nat.add x0 12)) (.ref (Nat.add x2 7))),(.mk (PyData.keyHash P "__doc__") (.str "__doc__" (Nat.add x0 13)) .none)] 2) #[]),λP=>(.mk (.type "type") none (.cls (.mk x3 [(.ref 24)] [(.ref (Nat.add x2 9)),(.ref 24),(.type "ValueError"),(.type "Exception"),(.type "BaseException"),(.type "object")] (Nat.add x2 8) x3 .true [] [] .false none .false)) #[(some (.ref x2)),none,(some (.str x3 x0)),(some (.str x3 (Nat.add x0 8))),(some (.builtin "ValueError.__new__")),(some (.bool .true))]),λP=>(.mk (.type "super") none (.fields #[(.ref (Nat.add x2 9)),(.ref (Nat.add x2 9)),(.ref (Nat.add x2 9))]) #[]),λP=>(.mk (.type "builtin_function_or_method") none (.fields #[(.builtin "object.__init_subclass__"),(.ref (Nat.add x2 9))]) #[])]
def h1 (x0:Nat) (x1:Nat) (x2:Nat) (x3:Nat) (x4:Nat) (x5:Nat) (x6:Str) (x7:Str):List O:=[λP=>(.mk (.type "tuple") none (.seq #[] 0) #[]),λP=>(.mk .none none (.fields #[]) #[]),λP=>(.mk .none none (.func (FuncData.mk x6 x6 (L2.ν (Tw.top x0)) (FuncBody.stmts (L2.μ (Tw.top x0))) (L2.δ (Tw.top x0)) 0 [] .none .none .none .none none .none .none 0)) #[]),λP=>(.mk (.type "code") none (.fields #[(.str x6 x1),(.str x6 (Nat.add x1 1)),(.str "/claim/cut.py" (Nat.add x1 2)),(.int (Int.ofNat x2) 0),(.int (Int.ofNat x3) 0),(.int 0 0),(.int 0 0),(.int 3 0),(.ref x4),(.bool .true),(.int 181 0),(.ref (Nat.add x4 1)),.none,.none,.none,(.ref (Nat.add x4 2)),(.int (Int.ofNat (Nat.add x1 3)) 0),(.int (Int.ofNat x2) 0),(.str "/claim/cut.py" (Nat.add x1 4))]) #[]),λP=>(.mk (.type "function") none (.func (FuncData.mk x6 x6 (L2.ν (Tw.top x0)) (FuncBody.stmts (L2.μ (Tw.top x0))) (L2.δ (Tw.top x0)) 3 [] .none .none .none (.str x7 x5) none (.ref (Nat.add x4 3)) .none 0)) #[])]
def h2 (x0:Nat) (x1:Nat) (x2:Nat) (x3:Nat) (x4:Nat) (x5:Nat) (x6:Nat) (x7:List Str) (x8:Str) (x9:Str):List O:=[λP=>(.mk (.type "tuple") none (.seq #[] 0) #[]),λP=>(.mk .none none (.fields #[]) #[]),λP=>(.mk (.type "tuple") none (.seq (sq x7 (Nat.add x0 3)).toArray 0) #[]),λP=>(.mk (.type "tuple") none (.seq #[] 0) #[]),λP=>(.mk .none none (.func (FuncData.mk x8 x8 (L2.ν (Tw.top x1)) (FuncBody.stmts (L2.μ (Tw.top x1))) (L2.δ (Tw.top x1)) 0 [] .none .none .none .none none .none .none 0)) #[]),λP=>(.mk (.type "code") none (.fields #[(.str x8 x0),(.str x8 (Nat.add x0 1)),(.str "/claim/cut.py" (Nat.add x0 2)),(.int (Int.ofNat x2) 0),(.int (Int.ofNat x3) 0),(.int 0 0),(.int 0 0),(.int 3 0),(.ref x4),(.bool .true),(.int 181 0),(.ref (Nat.add x4 1)),.none,(.ref (Nat.add x4 2)),(.ref (Nat.add x4 3)),(.ref (Nat.add x4 4)),(.int (Int.ofNat x5) 0),(.int (Int.ofNat x2) 0),(.str "/claim/cut.py" (Nat.add x5 1))]) #[]),λP=>(.mk (.type "function") none (.func (FuncData.mk x8 x8 (L2.ν (Tw.top x1)) (FuncBody.stmts (L2.μ (Tw.top x1))) (L2.δ (Tw.top x1)) 3 [] .none .none .none (.str x9 x6) none (.ref (Nat.add x4 5)) .none 0)) #[])]
def g0:List (Params→DictEntry):=[Z "__doc__" 166 .none,Z "__package__" 167 .none,Z "__loader__" 168 (.builtin "__main__.__loader__#opaque"),Z "__spec__" 169 .none,E "__annotations__" 170 6,E "__builtins__" 171 4,Z "__file__" 173 (.str "/claim/cut.py" 172),Z "__cached__" 174 .none,E "WoodError" 206 24,E "TooMany" 222 37]
def g1:List (Params→DictEntry):=[E "NoBit" 238 49,E "NoPlace" 254 61,E "NoSign" 270 73,Z "BLOCK_BITS" 274 (.int 32 273),Z "MOST_BITS" 276 (.int 4096 275),E "packed" 282 80,E "check_row" 290 87,E "block_of" 299 94,E "bit_in" 307 101,E "bits_of" 313 106]
def g2:List (Params→DictEntry):=[E "ones_in" 321 113,E "one_in" 332 120,E "look_from" 342 127,E "size_of" 352 134,E "check_stretch" 361 141,E "kept_row" 371 148,E "ahead_of" 380 155,E "check_place" 388 162,E "bit_at" 397 169,E "ones_at" 410 176]
def g3:List (Params→DictEntry):=[E "noughts_at" 419 183,E "one_place" 430 190,E "nought_place" 436 195,E "check_nth" 444 202,E "last_no_greater" 455 209,Z "MOST_SIGNS" 459 (.int 4096 458),E "check_signs" 467 216,E "kept_signs" 479 223,E "ranks_among" 485 228,E "level_count" 492 235]
def g4:List (Params→DictEntry):=[E "level_rows" 498 240,E "parted" 504 245,E "levels_of" 515 252,E "place_below" 526 259,E "place_above" 537 266,E "nought_count" 544 273,E "stretch_below" 553 280,E "length_of" 560 287,E "stretch_of_rank" 572 294,E "rank_bits" 580 301]
def g5:List (Params→DictEntry):=[E "kinds_below" 588 308,E "rank_of" 597 315,E "sign_at" 610 322,E "signs_ahead" 622 329,E "sign_place" 639 336,E "between" 651 343,E "below" 667 350,E "so_manieth" 684 357,E "unlike" 690 362,E "split_up" 701 369]
def g6:List (Params→DictEntry):=[E "filled" 707 374,E "_law_whole" 716 381,E "_law_piece" 730 388,E "_law_signs" 739 395,E "_law_look" 750 402,E "_law_few" 760 409,E "_law_sought" 770 416,E "_law_parts" 784 423,E "_law_due" 790 428,E "_law_answer" 800 435]
def g7:List (Params→DictEntry):=[E "_law_told" 811 442,E "_law_alike" 821 449,E "_law_one_good" 838 456,E "law" 851 463]
def gg:List (Params→DictEntry):=ap g0 (ap g1 (ap g2 (ap g3 (ap g4 (ap g5 (ap g6 (g7)))))))
def tt:List (Nat×Nat):=[(2,20),(4,33),(6,45),(8,57),(10,69),(15,79),(18,86),(24,93),(29,100),(31,105),(33,112),(35,119),(42,126),(45,133),(50,140),(54,147),(57,154),(62,161),(65,168),(68,175),(77,182),(79,189),(84,194),(92,201),(95,208),(107,215),(113,222),(123,227),(128,234),(130,239),(138,244),(142,251),(149,258),(155,265),(161,272),(163,279),(165,286),(167,293),(172,300),(174,307),(178,314),(183,321),(192,328),(199,335),(211,342),(216,349),(228,356),(243,361),(249,368),(255,373),(258,380),(260,387),(276,394),(282,401),(290,408),(295,415),(303,422),(324,427),(342,434),(354,441),(361,448),(372,455),(389,462)]
def s0:O:=gd (Z "__name__" 165 (.str "law_thinwood_k69_whole_signs" 708)::tk gg 74) 75
def l0:O:=λP=>(.mk (.type "tuple") none (.seq #[] 0) #[])
def s1:O:=tb (tk tt 63)
def l1:O:=λP=>(.mk (.type "code") none (.fields #[(.str "<module>" 182),(.str "<module>" 183),(.str "/claim/cut.py" 184),(.int 1 0),(.int 0 0),(.int 0 0),(.int 0 0),(.int 0 0),(.ref 11),(.bool .false),(.int 181 0),(.ref 12),.none,.none,.none,.none,(.int 185 0),(.int 1 0),(.str "/claim/cut.py" 186)]) #[])
def l2:O:=λP=>(.mk (.type "frame") none .plain #[(some (.ref 13)),(some (.ref 3)),(some (.ref 3)),none,(some (.str "__main__" 164)),none,(some (.ref 0))])
def l3:O:=λP=>(.mk (.type "tuple") none (.seq #[(.type "ValueError")] 0) #[])
def l4:O:=λP=>(.mk (.type "builtin_function_or_method") none (.fields #[(.builtin "type.__prepare__"),(.type "type")]) #[])
def l5:O:=λP=>(.mk (.type "dict") none (.dict #[(.mk (PyData.keyHash P "__module__") (.str "__module__" 196) (.str "thinwood.errors" 187)),(.mk (PyData.keyHash P "__qualname__") (.str "__qualname__" 198) (.str "WoodError" 197)),(.mk (PyData.keyHash P "__firstlineno__") (.str "__firstlineno__" 200) (.int 2 199)),(.mk (PyData.keyHash P "__static_attributes__") (.str "__static_attributes__" 201) (.ref 22))] 4) #[])
def l6:O:=λP=>(.mk .none none (.fields #[]) #[])
def l7:O:=λP=>(.mk (.type "code") none (.fields #[(.str "WoodError" 191),(.str "WoodError" 192),(.str "/claim/cut.py" 193),(.int 2 0),(.int 0 0),(.int 0 0),(.int 0 0),(.int 0 0),(.ref 18),(.bool .false),(.int 181 0),(.ref 19),.none,.none,.none,.none,(.int 194 0),(.int 2 0),(.str "/claim/cut.py" 195)]) #[])
def l8:O:=λP=>(.mk (.type "frame") none .plain #[(some (.ref 20)),(some (.ref 3)),(some (.ref 17)),none,(some (.str "thinwood.errors" 187)),none,(some (.ref 0))])
def l9:O:=λP=>(.mk (.type "dict") none (.dict #[(.mk (PyData.keyHash P "__module__") (.str "__module__" 196) (.str "thinwood.errors" 187)),(.mk (PyData.keyHash P "__firstlineno__") (.str "__firstlineno__" 200) (.int 2 199)),(.mk (PyData.keyHash P "__static_attributes__") (.str "__static_attributes__" 201) (.ref 22)),(.mk (PyData.keyHash P "__weakref__") (.str "__weakref__" 203) (.ref 25)),(.mk (PyData.keyHash P "__doc__") (.str "__doc__" 204) .none)] 3) #[])
def l10:O:=λP=>(.mk (.type "type") none (.cls (.mk "WoodError" [(.type "ValueError")] [(.ref 24),(.type "ValueError"),(.type "Exception"),(.type "BaseException"),(.type "object")] 23 "WoodError" .true [] [(.ref 37),(.ref 49),(.ref 61),(.ref 73)] .false none .false)) #[(some (.ref 15)),none,(some (.str "WoodError" 189)),(some (.str "WoodError" 197)),(some (.builtin "ValueError.__new__")),(some (.bool .true))])
def l11:O:=λP=>(.mk (.type "getset_descriptor") none (.fields #[(.str "__weakref__" 202),(.ref 24),(.builtin "ExceptionGroup.__weakref__"),.none]) #[])
def l12:O:=λP=>(.mk (.type "super") none (.fields #[(.ref 24),(.ref 24),(.ref 24)]) #[])
def l13:O:=λP=>(.mk (.type "builtin_function_or_method") none (.fields #[(.builtin "object.__init_subclass__"),(.ref 24)]) #[])
def d1:List O:=h0 207 4 28 "TooMany"
def d2:List O:=h0 223 6 40 "NoBit"
def d3:List O:=h0 239 8 52 "NoPlace"
def d4:List O:=h0 255 10 64 "NoSign"
def d5:List O:=h1 9 277 15 1 76 271 "packed" "thinwood.blocks"
def d6:List O:=h2 283 10 18 1 81 288 271 ["bits","bit"] "check_row" "thinwood.blocks"
def d7:List O:=h2 291 11 24 1 88 297 271 ["bits","block","bit"] "block_of" "thinwood.blocks"
def d8:List O:=h2 300 12 29 2 95 305 271 ["block","k"] "bit_in" "thinwood.blocks"
def d9:List O:=h1 13 308 31 2 102 271 "bits_of" "thinwood.blocks"
def d10:List O:=h2 314 14 33 2 107 319 271 ["block","upto"] "ones_in" "thinwood.blocks"
def d11:List O:=h2 322 15 35 2 114 330 271 ["block","nth","ones","k","bit"] "one_in" "thinwood.blocks"
def l14:O:=λP=>(.mk (.type "tuple") none (.seq #[(.str "look" 336),(.str "first" 337)] 0) #[])
def l15:O:=λP=>(.mk (.type "tuple") none (.seq #[(.str "look" 338),(.str "first" 339)] 0) #[])
def l16:O:=λP=>(.mk .none none (.func (FuncData.mk "look_from" "look_from" (L2.ν (Tw.top 16)) (FuncBody.stmts (L2.μ (Tw.top 16))) (L2.δ (Tw.top 16)) 0 [] .none .none .none .none none .none .none 0)) #[])
def l17:O:=λP=>(.mk (.type "code") none (.fields #[(.str "look_from" 333),(.str "look_from" 334),(.str "/claim/cut.py" 335),(.int 42 0),(.int 2 0),(.int 0 0),(.int 0 0),(.int 3 0),(.ref 121),(.bool .true),(.int 181 0),(.ref 122),.none,(.ref 123),(.ref 124),(.ref 125),(.int 340 0),(.int 42 0),(.str "/claim/cut.py" 341)]) #[])
def l18:O:=λP=>(.mk (.type "function") none (.func (FuncData.mk "look_from" "look_from" (L2.ν (Tw.top 16)) (FuncBody.stmts (L2.μ (Tw.top 16))) (L2.δ (Tw.top 16)) 3 [] .none .none .none (.str "thinwood.blocks" 271) none (.ref 126) .none 0)) #[])
def d13:List O:=h2 345 18 45 1 128 350 343 ["many","size"] "size_of" "thinwood.heaps"
def d14:List O:=h2 353 19 50 3 135 359 343 ["many","start","stop"] "check_stretch" "thinwood.heaps"
def d15:List O:=h2 364 21 54 1 142 369 362 ["bits","blocks"] "kept_row" "thinwood.rows"
def d16:List O:=h2 372 22 57 1 149 378 362 ["blocks","ahead","block"] "ahead_of" "thinwood.rows"
def d17:List O:=h2 381 23 62 2 156 386 362 ["at","most"] "check_place" "thinwood.rows"
def d18:List O:=h2 389 24 65 3 163 395 362 ["tables","look","at"] "bit_at" "thinwood.rows"
def d19:List O:=h2 398 25 68 3 170 408 362 ["tables","look","at","many","ahead","number","within"] "ones_at" "thinwood.rows"
def d20:List O:=h2 411 26 77 3 177 417 362 ["tables","look","at"] "noughts_at" "thinwood.rows"
def d21:List O:=h2 420 27 79 3 184 428 362 ["tables","look","nth","ahead","number"] "one_place" "thinwood.rows"
def d22:List O:=h1 28 431 84 3 191 362 "nought_place" "thinwood.rows"
def d23:List O:=h2 437 29 92 2 196 442 362 ["nth","many"] "check_nth" "thinwood.rows"
def d24:List O:=h2 445 30 95 2 203 453 362 ["numbers","goal","low","high","middle"] "last_no_greater" "thinwood.rows"
def d25:List O:=h2 460 33 107 1 210 465 456 ["signs","sign"] "check_signs" "thinwood.signs"
def d26:List O:=h2 468 34 113 1 217 477 456 ["signs","kinds","aheads","blocks","bits","row"] "kept_signs" "thinwood.signs"
def d27:List O:=h1 35 480 123 2 224 456 "ranks_among" "thinwood.signs"
def d28:List O:=h2 486 36 128 1 229 490 456 ["kind_count"] "level_count" "thinwood.signs"
def d29:List O:=h1 37 493 130 2 236 456 "level_rows" "thinwood.signs"
def d30:List O:=h1 38 499 138 2 241 456 "parted" "thinwood.signs"
def d31:List O:=h2 505 39 142 2 246 513 456 ["tables","look","levels","first","ahead"] "levels_of" "thinwood.signs"
def d32:List O:=h2 516 40 149 3 253 524 456 ["level","at","bit","row","look"] "place_below" "thinwood.signs"
def d33:List O:=h2 527 41 155 3 260 535 456 ["level","at","bit","row","look"] "place_above" "thinwood.signs"
def d34:List O:=h2 538 42 161 1 267 542 456 ["row"] "nought_count" "thinwood.signs"
def d35:List O:=h2 545 43 163 3 274 551 456 ["level","stretch","bit"] "stretch_below" "thinwood.signs"
def d36:List O:=h2 554 44 165 1 281 558 456 ["stretch"] "length_of" "thinwood.signs"
def d37:List O:=h2 561 45 167 3 288 570 456 ["levels","bits","stretch","found","level","bit"] "stretch_of_rank" "thinwood.signs"
def d38:List O:=h2 573 46 172 2 295 578 456 ["rank","levels"] "rank_bits" "thinwood.signs"
def d39:List O:=h2 581 47 174 2 302 586 456 ["kinds","sign"] "kinds_below" "thinwood.signs"
def d40:List O:=h2 589 48 178 2 309 595 456 ["kinds","sign","rank"] "rank_of" "thinwood.signs"
def d41:List O:=h2 598 49 183 3 316 608 456 ["tables","look","at","rank","place","level","bit"] "sign_at" "thinwood.signs"
def d42:List O:=h2 611 50 192 4 323 620 456 ["tables","look","sign","at","rank","levels"] "signs_ahead" "thinwood.signs"
def d43:List O:=h2 623 51 199 4 330 637 456 ["tables","look","sign","nth","rank","levels","bits","stretch","place","level","bit"] "sign_place" "thinwood.signs"
def d44:List O:=h2 640 52 211 6 337 649 456 ["tables","look","start","stop","low","high"] "between" "thinwood.signs"
def d45:List O:=h2 652 53 216 4 344 665 456 ["tables","look","stretch","sign","rank","levels","lesser","rest","level","bit"] "below" "thinwood.signs"
def d46:List O:=h2 668 54 228 5 351 682 456 ["tables","look","start","stop","nth","rank","ahead","stretch","level","noughts","bit"] "so_manieth" "thinwood.signs"
def d47:List O:=h1 55 685 243 4 358 456 "unlike" "thinwood.signs"
def d48:List O:=h2 691 56 249 2 363 699 456 ["level","found","parts","rank","stretch"] "split_up" "thinwood.signs"
def d49:List O:=h1 57 702 255 1 370 456 "filled" "thinwood.signs"
def d50:List O:=h2 710 59 258 1 375 714 708 ["_law_found"] "_law_whole" "law_thinwood_k69_whole_signs"
def d51:List O:=h2 717 60 260 2 382 728 708 ["_law_cell","_law_ahead","_law_rest","_law_number","_law_kinds","_law_far","_law_found","_law_k"] "_law_piece" "law_thinwood_k69_whole_signs"
def d52:List O:=h2 731 61 276 1 389 737 708 ["_law_cells","_law_signs_here","_law_cell"] "_law_signs" "law_thinwood_k69_whole_signs"
def l19:O:=λP=>(.mk (.type "tuple") none (.seq #[(.str "_law_blocks" 743),(.str "_law_seen" 744),(.str "_law_told" 745)] 0) #[])
def l20:O:=λP=>(.mk (.type "tuple") none (.seq #[(.str "_law_blocks" 746),(.str "_law_seen" 747)] 0) #[])
def l21:O:=λP=>(.mk .none none (.func (FuncData.mk "_law_look" "_law_look" (L2.ν (Tw.top 62)) (FuncBody.stmts (L2.μ (Tw.top 62))) (L2.δ (Tw.top 62)) 0 [] .none .none .none .none none .none .none 0)) #[])
def l22:O:=λP=>(.mk (.type "code") none (.fields #[(.str "_law_look" 740),(.str "_law_look" 741),(.str "/claim/cut.py" 742),(.int 282 0),(.int 2 0),(.int 0 0),(.int 0 0),(.int 3 0),(.ref 396),(.bool .true),(.int 181 0),(.ref 397),.none,(.ref 398),(.ref 399),(.ref 400),(.int 748 0),(.int 282 0),(.str "/claim/cut.py" 749)]) #[])
def l23:O:=λP=>(.mk (.type "function") none (.func (FuncData.mk "_law_look" "_law_look" (L2.ν (Tw.top 62)) (FuncBody.stmts (L2.μ (Tw.top 62))) (L2.δ (Tw.top 62)) 3 [] .none .none .none (.str "law_thinwood_k69_whole_signs" 708) none (.ref 401) .none 0)) #[])
def d54:List O:=h2 751 63 290 3 403 758 708 ["_law_seen","_law_size","_law_most","_law_number"] "_law_few" "law_thinwood_k69_whole_signs"
def d55:List O:=h2 761 64 295 2 410 768 708 ["_law_cell","_law_signs_here","_law_rest","_law_near"] "_law_sought" "law_thinwood_k69_whole_signs"
def d56:List O:=h2 771 65 303 3 417 782 708 ["_law_way","_law_signs_here","_law_cell","_law_many","_law_one","_law_other","_law_start","_law_stop"] "_law_parts" "law_thinwood_k69_whole_signs"
def d57:List O:=h1 66 785 324 3 424 708 "_law_due" "law_thinwood_k69_whole_signs"
def d58:List O:=h2 791 67 342 4 429 798 708 ["_law_way","_law_tables","_law_look_here","_law_parts_here"] "_law_answer" "law_thinwood_k69_whole_signs"
def d59:List O:=h2 801 68 354 4 436 809 708 ["_law_way","_law_tables","_law_look_here","_law_parts_here","_law_told_here"] "_law_told" "law_thinwood_k69_whole_signs"
def d60:List O:=h2 812 69 361 2 443 819 708 ["_law_found","_law_due_here","_law_row","_law_other"] "_law_alike" "law_thinwood_k69_whole_signs"
def d61:List O:=h2 822 70 372 2 450 836 708 ["_law_row","_law_cell","_law_signs_here","_law_number","_law_way","_law_parts_here","_law_due_here","_law_seen","_law_found","_law_levels","_law_most"] "_law_one_good" "law_thinwood_k69_whole_signs"
def d62:List O:=h2 839 71 389 1 457 849 708 ["_law_script","_law_cells","_law_rows","_law_signs_here","_law_handed","_law_found","_law_cell"] "law" "law_thinwood_k69_whole_signs"
def f0:List O:=ap [PySem.W.boot_o_0,PySem.W.boot_o_1,PySem.W.boot_o_2,s0,PySem.W.boot_o_4,PySem.W.boot_o_5,PySem.W.boot_o_6,PySem.W.boot_o_7,PySem.W.boot_o_8,PySem.W.boot_o_9,PySem.W.boot_o_10,l0,s1,l1,l2,l3,l4,l5,l0,l6,l7,l8,l0,l9,l10,l11,l12,l13] (ap d1 (ap d2 (ap d3 (ap d4 (ap d5 (ap d6 (ap d7 (ap d8 (d9)))))))))
def f1:List O:=ap d10 (ap d11 (ap [l0,l6,l14,l15,l16,l17,l18] (ap d13 (ap d14 (ap d15 (ap d16 (ap d17 (ap d18 (d19)))))))))
def f2:List O:=ap d20 (ap d21 (ap d22 (ap d23 (ap d24 (ap d25 (ap d26 (ap d27 (ap d28 (d29)))))))))
def f3:List O:=ap d30 (ap d31 (ap d32 (ap d33 (ap d34 (ap d35 (ap d36 (ap d37 (ap d38 (d39)))))))))
def f4:List O:=ap d40 (ap d41 (ap d42 (ap d43 (ap d44 (ap d45 (ap d46 (ap d47 (ap d48 (d49)))))))))
def f5:List O:=ap d50 (ap d51 (ap d52 (ap [l0,l6,l19,l20,l21,l22,l23] (ap d54 (ap d55 (ap d56 (ap d57 (ap d58 (d59)))))))))
def f6:List O:=ap d60 (ap d61 (d62))
def ff:List O:=ap f0 (ap f1 (ap f2 (ap f3 (ap f4 (ap f5 (f6))))))
def s2:O:=gd (Z "__name__" 165 (.str "thinwood.errors" 187)::tk gg 9) 10
def l24:O:=λP=>(.mk .none none (.fields #[(.int 2 0),(.int 0 0),(.ref 20)]) #[])
def l25:O:=λP=>(.mk (.type "type") none (.cls (.mk "WoodError" [(.type "ValueError")] [(.ref 24),(.type "ValueError"),(.type "Exception"),(.type "BaseException"),(.type "object")] 23 "WoodError" .true [] [] .false none .false)) #[(some (.ref 15)),none,(some (.str "WoodError" 189)),(some (.str "WoodError" 197)),(some (.builtin "ValueError.__new__")),(some (.bool .true))])
def S_tree_63:Params→PySem.W.BT:=λP=>bt 6 (mp (λx=>x P) (ov (tk ff 28) [(3,s2),(8,l24),(11,l25)]))
def s3:O:=gd (Z "__name__" 165 (.str "thinwood.errors" 187)::tk gg 10) 11
def s4:O:=tb (tk tt 2)
def l26:O:=λP=>(.mk (.type "type") none (.cls (.mk "WoodError" [(.type "ValueError")] [(.ref 24),(.type "ValueError"),(.type "Exception"),(.type "BaseException"),(.type "object")] 23 "WoodError" .true [] [(.ref 37)] .false none .false)) #[(some (.ref 15)),none,(some (.str "WoodError" 189)),(some (.str "WoodError" 197)),(some (.builtin "ValueError.__new__")),(some (.bool .true))])
def S_tree_78:Params→PySem.W.BT:=λP=>bt 7 (mp (λx=>x P) (ov (tk ff 40) [(3,s3),(8,s4),(11,l26)]))
def s5:O:=gd (Z "__name__" 165 (.str "thinwood.errors" 187)::tk gg 11) 12
def s6:O:=tb (tk tt 3)
def l27:O:=λP=>(.mk (.type "type") none (.cls (.mk "WoodError" [(.type "ValueError")] [(.ref 24),(.type "ValueError"),(.type "Exception"),(.type "BaseException"),(.type "object")] 23 "WoodError" .true [] [(.ref 37),(.ref 49)] .false none .false)) #[(some (.ref 15)),none,(some (.str "WoodError" 189)),(some (.str "WoodError" 197)),(some (.builtin "ValueError.__new__")),(some (.bool .true))])
def S_tree_93:Params→PySem.W.BT:=λP=>bt 7 (mp (λx=>x P) (ov (tk ff 52) [(3,s5),(8,s6),(11,l27)]))
def s7:O:=gd (Z "__name__" 165 (.str "thinwood.errors" 187)::tk gg 12) 13
def s8:O:=tb (tk tt 4)
def l28:O:=λP=>(.mk (.type "type") none (.cls (.mk "WoodError" [(.type "ValueError")] [(.ref 24),(.type "ValueError"),(.type "Exception"),(.type "BaseException"),(.type "object")] 23 "WoodError" .true [] [(.ref 37),(.ref 49),(.ref 61)] .false none .false)) #[(some (.ref 15)),none,(some (.str "WoodError" 189)),(some (.str "WoodError" 197)),(some (.builtin "ValueError.__new__")),(some (.bool .true))])
def S_tree_108:Params→PySem.W.BT:=λP=>bt 8 (mp (λx=>x P) (ov (tk ff 64) [(3,s7),(8,s8),(11,l28)]))
def s9:O:=gd (Z "__name__" 165 (.str "thinwood.blocks" 271)::tk gg 20) 21
def s10:O:=tb (tk tt 10)
def S_tree_154:Params→PySem.W.BT:=λP=>bt 8 (mp (λx=>x P) (ov (tk ff 107) [(3,s9),(8,s10)]))
def s11:O:=gd (Z "__name__" 165 (.str "thinwood.rows" 362)::tk gg 32) 33
def s12:O:=tb (tk tt 22)
def S_tree_240:Params→PySem.W.BT:=λP=>bt 9 (mp (λx=>x P) (ov (tk ff 191) [(3,s11),(8,s12)]))
def s13:O:=gd (Z "__name__" 165 (.str "thinwood.signs" 456)::tk gg 45) 46
def s14:O:=tb (tk tt 34)
def S_tree_318:Params→PySem.W.BT:=λP=>bt 10 (mp (λx=>x P) (ov (tk ff 267) [(3,s13),(8,s14)]))
def s15:O:=gd (Z "__name__" 165 (.str "thinwood.signs" 456)::tk gg 57) 58
def s16:O:=tb (tk tt 46)
def S_tree_404:Params→PySem.W.BT:=λP=>bt 10 (mp (λx=>x P) (ov (tk ff 351) [(3,s15),(8,s16)]))
def s17:O:=gd (Z "__name__" 165 (.str "law_thinwood_k69_whole_signs" 708)::tk gg 69) 70
def s18:O:=tb (tk tt 58)
def S_tree_484:Params→PySem.W.BT:=λP=>bt 10 (mp (λx=>x P) (ov (tk ff 429) [(3,s17),(8,s18)]))
def S_tree_521:Params→PySem.W.BT:=λP=>bt 10 (mp (λx=>x P) (ff))
def S_heap_522:Params→Heap:=λP=>Heap.mk (Array.mk (mp (λx=>x P) (ff))) (.mk [] [] [] 0 [] [] .false #[] [] 0 .false .false .false 0 [2000,10,10] .false 0 .true [] [] 0 .false)
def S_sts_49:List Stmt:=tk (List.drop 0 PySem.Challenge.pw_thinwood_k69_whole_signs.main.body) 2
def S_sts_64:List Stmt:=tk (List.drop 2 PySem.Challenge.pw_thinwood_k69_whole_signs.main.body) 1
def S_sts_79:List Stmt:=tk (List.drop 3 PySem.Challenge.pw_thinwood_k69_whole_signs.main.body) 1
def S_sts_94:List Stmt:=tk (List.drop 4 PySem.Challenge.pw_thinwood_k69_whole_signs.main.body) 1
def S_sts_109:List Stmt:=tk (List.drop 5 PySem.Challenge.pw_thinwood_k69_whole_signs.main.body) 9
def S_sts_155:List Stmt:=tk (List.drop 14 PySem.Challenge.pw_thinwood_k69_whole_signs.main.body) 14
def S_sts_241:List Stmt:=tk (List.drop 28 PySem.Challenge.pw_thinwood_k69_whole_signs.main.body) 14
def S_sts_319:List Stmt:=tk (List.drop 42 PySem.Challenge.pw_thinwood_k69_whole_signs.main.body) 12
def S_sts_405:List Stmt:=tk (List.drop 54 PySem.Challenge.pw_thinwood_k69_whole_signs.main.body) 13
def S_sts_485:List Stmt:=tk (List.drop 67 PySem.Challenge.pw_thinwood_k69_whole_signs.main.body) 5
def S_view:Program:={ PySem.Challenge.pw_thinwood_k69_whole_signs with main:={ PySem.Challenge.pw_thinwood_k69_whole_signs.main with body:=mp Tw.top [1,2,3,4,5,7,8,9,10,11,12,13,14,15,16,18,19,21,22,23,24,25,26,27,28,29,30,32,33,34,35,36,37,38,39,40,41,42,43,44,45,46,47,48,49,50,51,52,53,54,55,56,57,59,60,61,62,63,64,65,66,67,68,69,70,71] } }
end
end Tp
theorem PySem.W.Fast.tw14598715356260435866:True:=trivial
noncomputable abbrev PySem.W.Fast.tw13864815942538165338:PySem.Program:=PySem.Challenge.pw_thinwood_k69_whole_signs
theorem PySem.W.Fast.te13864815942538165338:PySem.Challenge.pw_thinwood_k69_whole_signs = PySem.W.Fast.tw13864815942538165338:=rfl
lay_quick Tp.g0 Tp.g1 Tp.g2 Tp.g3 Tp.g4 Tp.g5 Tp.g6 Tp.g7 Tp.gg Tp.s0 Tp.l0 Tp.s1 Tp.l1 Tp.l2 Tp.l3 Tp.l4 Tp.l5 Tp.l6 Tp.l7 Tp.l8 Tp.l9 Tp.l10 Tp.l11 Tp.l12 Tp.l13 Tp.d1 Tp.d2 Tp.d3 Tp.d4 Tp.d5 Tp.d6 Tp.d7 Tp.d8 Tp.d9 Tp.d10 Tp.d11 Tp.l14 Tp.l15 Tp.l16 Tp.l17
lay_quick Tp.l18 Tp.d13 Tp.d14 Tp.d15 Tp.d16 Tp.d17 Tp.d18 Tp.d19 Tp.d20 Tp.d21 Tp.d22 Tp.d23 Tp.d24 Tp.d25 Tp.d26 Tp.d27 Tp.d28 Tp.d29 Tp.d30 Tp.d31 Tp.d32 Tp.d33 Tp.d34 Tp.d35 Tp.d36 Tp.d37 Tp.d38 Tp.d39 Tp.d40 Tp.d41 Tp.d42 Tp.d43 Tp.d44 Tp.d45 Tp.d46 Tp.d47 Tp.d48 Tp.d49 Tp.d50 Tp.d51
lay_quick Tp.d52 Tp.l19 Tp.l20 Tp.l21 Tp.l22 Tp.l23 Tp.d54 Tp.d55 Tp.d56 Tp.d57 Tp.d58 Tp.d59 Tp.d60 Tp.d61 Tp.d62 Tp.f0 Tp.f1 Tp.f2 Tp.f3 Tp.f4 Tp.f5 Tp.f6 Tp.ff Tp.s2 Tp.l24 Tp.l25 Tp.S_tree_63 Tp.s3 Tp.s4 Tp.l26 Tp.S_tree_78 Tp.s5 Tp.s6 Tp.l27 Tp.S_tree_93 Tp.s7 Tp.s8 Tp.l28 Tp.S_tree_108 Tp.s9
lay_quick Tp.s10 Tp.S_tree_154 Tp.s11 Tp.s12 Tp.S_tree_240 Tp.s13 Tp.s14 Tp.S_tree_318 Tp.s15 Tp.s16 Tp.S_tree_404 Tp.s17 Tp.s18 Tp.S_tree_484 Tp.S_tree_521 Tp.S_heap_522 Tp.S_sts_49 Tp.S_sts_64 Tp.S_sts_79 Tp.S_sts_94 Tp.S_sts_109 Tp.S_sts_155 Tp.S_sts_241 Tp.S_sts_319 Tp.S_sts_405 Tp.S_sts_485 Tp.S_view
namespace Tp
open PySem PySem.W.Fast
noncomputable abbrev _root_.PySem.W.Fast.tw10851815685524796335:Params→PySem.W.BT:=tw11432227658251013801
theorem _root_.PySem.W.Fast.te10851815685524796335:S_tree_63 = _root_.PySem.W.Fast.tw10851815685524796335:=te11432227658251013801
noncomputable abbrev _root_.PySem.W.Fast.tw6091486493380500313:Params→PySem.W.BT:=tw16269510630359031336
theorem _root_.PySem.W.Fast.te6091486493380500313:S_tree_78 = _root_.PySem.W.Fast.tw6091486493380500313:=te16269510630359031336
noncomputable abbrev _root_.PySem.W.Fast.tw4245962333088782163:Params→PySem.W.BT:=tw5549918322004914887
theorem _root_.PySem.W.Fast.te4245962333088782163:S_tree_93 = _root_.PySem.W.Fast.tw4245962333088782163:=te5549918322004914887
noncomputable abbrev _root_.PySem.W.Fast.tw17101831485017855368:Params→PySem.W.BT:=tw10118726668083288838
theorem _root_.PySem.W.Fast.te17101831485017855368:S_tree_108 = _root_.PySem.W.Fast.tw17101831485017855368:=te10118726668083288838
noncomputable abbrev _root_.PySem.W.Fast.tw10034013869693765067:Params→PySem.W.BT:=tw16665700225380909522
theorem _root_.PySem.W.Fast.te10034013869693765067:S_tree_154 = _root_.PySem.W.Fast.tw10034013869693765067:=te16665700225380909522
noncomputable abbrev _root_.PySem.W.Fast.tw11853212643907259589:Params→PySem.W.BT:=tw2661761619935845587
theorem _root_.PySem.W.Fast.te11853212643907259589:S_tree_240 = _root_.PySem.W.Fast.tw11853212643907259589:=te2661761619935845587
noncomputable abbrev _root_.PySem.W.Fast.tw10697083297842860281:Params→PySem.W.BT:=tw9084064741720758310
theorem _root_.PySem.W.Fast.te10697083297842860281:S_tree_318 = _root_.PySem.W.Fast.tw10697083297842860281:=te9084064741720758310
noncomputable abbrev _root_.PySem.W.Fast.tw3843612620509031609:Params→PySem.W.BT:=tw11042073624038568673
theorem _root_.PySem.W.Fast.te3843612620509031609:S_tree_404 = _root_.PySem.W.Fast.tw3843612620509031609:=te11042073624038568673
noncomputable abbrev _root_.PySem.W.Fast.tw10001895894258883645:Params→PySem.W.BT:=tw17999269922526806507
theorem _root_.PySem.W.Fast.te10001895894258883645:S_tree_484 = _root_.PySem.W.Fast.tw10001895894258883645:=te17999269922526806507
noncomputable abbrev _root_.PySem.W.Fast.tw8010561540254478300:Params→PySem.W.BT:=tw4912356936970631584
theorem _root_.PySem.W.Fast.te8010561540254478300:S_tree_521 = _root_.PySem.W.Fast.tw8010561540254478300:=te4912356936970631584
noncomputable abbrev _root_.PySem.W.Fast.tw7893352705417662424:Params→Heap:=tw3823686939461822939
theorem _root_.PySem.W.Fast.te7893352705417662424:S_heap_522 = _root_.PySem.W.Fast.tw7893352705417662424:=te3823686939461822939
noncomputable abbrev _root_.PySem.W.Fast.tw2588577093467579801:List Stmt:=tw666750322614274432
theorem _root_.PySem.W.Fast.te2588577093467579801:S_sts_49 = _root_.PySem.W.Fast.tw2588577093467579801:=te666750322614274432
noncomputable abbrev _root_.PySem.W.Fast.tw16327855655519926784:List Stmt:=tw5768192320520425421
theorem _root_.PySem.W.Fast.te16327855655519926784:S_sts_64 = _root_.PySem.W.Fast.tw16327855655519926784:=te5768192320520425421
noncomputable abbrev _root_.PySem.W.Fast.tw5637733340435420843:List Stmt:=tw16161987442105222805
theorem _root_.PySem.W.Fast.te5637733340435420843:S_sts_79 = _root_.PySem.W.Fast.tw5637733340435420843:=te16161987442105222805
noncomputable abbrev _root_.PySem.W.Fast.tw1149623992625719089:List Stmt:=tw11682420065776883047
theorem _root_.PySem.W.Fast.te1149623992625719089:S_sts_94 = _root_.PySem.W.Fast.tw1149623992625719089:=te11682420065776883047
noncomputable abbrev _root_.PySem.W.Fast.tw10874749928753133149:List Stmt:=tw5728941507444464575
theorem _root_.PySem.W.Fast.te10874749928753133149:S_sts_109 = _root_.PySem.W.Fast.tw10874749928753133149:=te5728941507444464575
noncomputable abbrev _root_.PySem.W.Fast.tw5549628416880766047:List Stmt:=tw12685685531787007723
theorem _root_.PySem.W.Fast.te5549628416880766047:S_sts_155 = _root_.PySem.W.Fast.tw5549628416880766047:=te12685685531787007723
noncomputable abbrev _root_.PySem.W.Fast.tw14773540545352959263:List Stmt:=tw16491903245679500111
theorem _root_.PySem.W.Fast.te14773540545352959263:S_sts_241 = _root_.PySem.W.Fast.tw14773540545352959263:=te16491903245679500111
noncomputable abbrev _root_.PySem.W.Fast.tw18015517110753804089:List Stmt:=tw13842149996191508760
theorem _root_.PySem.W.Fast.te18015517110753804089:S_sts_319 = _root_.PySem.W.Fast.tw18015517110753804089:=te13842149996191508760
noncomputable abbrev _root_.PySem.W.Fast.tw427892602210697717:List Stmt:=tw815525099432566788
theorem _root_.PySem.W.Fast.te427892602210697717:S_sts_405 = _root_.PySem.W.Fast.tw427892602210697717:=te815525099432566788
noncomputable abbrev _root_.PySem.W.Fast.tw3006035957951106870:List Stmt:=tw17795333583496584339
theorem _root_.PySem.W.Fast.te3006035957951106870:S_sts_485 = _root_.PySem.W.Fast.tw3006035957951106870:=te17795333583496584339
noncomputable abbrev _root_.PySem.W.Fast.tw13569161718971191637:Program:=tw11325136443342628617
theorem _root_.PySem.W.Fast.te13569161718971191637:S_view = _root_.PySem.W.Fast.tw13569161718971191637:=te11325136443342628617
theorem _root_.PySem.W.Fast.te8797611824175867568:True:=trivial
end Tp
open PySem PySem.W PyProof.Rows
set_option maxRecDepth 100000 in
set_option maxHeartbeats 0 in
theorem PySem.Challenge.cw_thinwood_k69_whole_signs_holds : PySem.Challenge.rw_thinwood_k69_whole_signs.Holds := by
 w_on;o_law;k_head;(case hw=>w_witness2)
 k_fill
 refine L2.Er (l:=PySem.Challenge.rw_thinwood_k69_whole_signs) (n:=63) (k:=13) (x := "_law_script") rfl (by decide) rfl ⟨rfl,by decide,by decide⟩ (λw h Y=>PySem.W.km_in_of Y) ?F
 case F =>
  intro w mg mb mean fa h KX TT hmg
  refine' Tw.Jr KX TT hmg ?d0 ?d1 ?d2 ?d3 ?d4 ?d5 ?d6 ?a7 ?l7 ?c7 ?k7 ?Ur ?Us ?Rb ?d8 ?d9 ?d10 ?d11 ?Qg ?d13 ?d14 ?d15 ?d16 ?d17 ?d18 ?d19 ?d20 ?d21 ?d22 ?d23 ?d24 ?d25 ?d26 ?d27 ?d28 ?d29 ?d30 ?d31 ?d32 ?d33 ?d34 ?d35 ?d36 ?d37 ?d38 ?d39 ?d40 ?d41 ?d42 ?d43 ?d44 ?d45 ?d46 ?d47 ?a48 ?R3 ?Ut ?Uu ?Uv ?Uw ?Rc ?d49 ?d50 ?d51 ?d52 ?Ux ?d54 ?d55 ?d56 ?d57 ?Uy ?Uz ?UG ?UJ ?UL ?UT ?UV ?UW ?U0 ?U3 ?U4 ?U5 ?U6 ?U7 ?U8 ?U9 ?Va ?Vb ?Vc ?R4 ?Vd ?Ve ?Vf ?Vg ?Vh ?Vi ?Vj ?Vk ?Vl ?QW ?RL ?nt ?Vm
  (case d0|d1|d2|d3|d4|d5|d6|d8|d9|d10|d11|Qg|d13|d14|d15|d16|d17|d18|d19|d20|d21|d22|d23|d24|d25|d26|d27|d28|d29|d30|d31|d32|d33|d34|d35|d36|d37|d38|d39|d40|d41|d42|d43|d44|d45|d46|d47|d49|d50|d51|d52|Ux|d54|d55|d56|d57=>exact⟨by k_is,L2.yI (by k_is) (by k_is) (by k_is)⟩);(case a7=>k_is);(case l7=>k_is);(case c7=>k_is);(case k7=>k_is);(case Ur=>k_is);(case Us=>rfl);(case Rb=>exact⟨_,rfl⟩);(case a48=>k_is);(case R3=>k_is);(case Ut=>k_is);(case Uu=>k_is);(case Uv=>k_is);(case Uw=>rfl);(case Rc=>exact⟨_,rfl⟩);(case Uy=>k_is);(case Uz=>k_is);(case UG=>k_is);(case UJ=>k_is);(case UL=>k_is);(case UT=>k_is);(case UV=>k_is);(case UW=>k_is);(case U0=>k_is);(case U3=>k_is);(case U4=>k_is);(case U5=>k_is);(case U6=>k_is);(case U7=>k_is);(case U8=>k_is);(case U9=>k_is);(case Va=>k_is);(case Vb=>k_is);(case Vc=>k_is);(case R4=>k_is);(case Vd=>k_exc);(case Ve=>k_is);(case Vf=>k_is);(case Vg=>k_is);(case Vh=>k_is);(case Vi=>k_is);(case Vj=>k_is);(case Vk=>k_is);(case Vl=>k_is);(case QW=>kit_is);(case RL=>kit_is);(case nt=>kernel_rfl);(case Vm=>decide)
