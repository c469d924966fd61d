import PyProof.Rows.All
import Wide.All
import OpenK.AllK
import Wide.FinOn
import Lean
import PyProof.EqAt
import PyProof.EqKinds
import PyProof.TupleCall
import PyProof.NeKinds
import PyProof.TupleKey
import PyProof.DictFindH
import PyProof.NsDelKeeps
import PyProof.ExcBaseAll.ValueError
import KE.KIsAll
import PyProof.ExcArgsOwn
import PyProof.ExcAttrAll.ValueError
import KE.KSortTup
import KE.KDictList
import PyProof.Rows.SortWalk
import KE.KEqDict
import KE.KLam
import KE.KRevIter
import PyProof.InstStoreFacts
import PyProof.ExcClass3
import PyProof.StrLawsTight
import PyProof.FitsReplace
import PyProof.Rows.SumAny
import KE.KFind
import PyProof.MeetsStr
import PyProof.StrLawsJoin
import PyProof.JoinWalk
import KE.KIntText
import KE.IntTextLaws
import PyProof.Rows.StrNews2
import PyProof.Rows.StrLawsPart
import PyProof.Rows.StrFirst
import PyProof.StrLawsChain
import PyProof.Rows.StrItems
import PyProof.Rows.Range3
import PyProof.PureStr
import PyProof.Rows.StrStep
import PySem.Challenge.RW_twigmap_k93_rows_refused
open PySem renaming wpAny_bind→aa,wpAny_pure→ad,wpAny_mono→ae,wpAny_holding→af,wpAny_Call_Name_kw→ah,wpAny_standAt→ai,wpAny_rule→aj,Value→ak,Addr→al,Shared→am,Program→ao,FuncData→aq,mainGlobals→ar,sizeLine→au,starEach→aw,World→ax,Around→ay,bootBuiltins→az,compareOp→aA,model→aB,wpAny→aC,Stmt→aD,Heap→aE,Scope→aF,backTo→aG,eval→aH,Obj→aI,Pos→aJ
universe u
local macro_rules(kind:=Lean.Parser.Command.declaration)|d=>if d.getPos?.isSome then return d.rewriteBottomUp (·.setInfo .none) else Lean.Macro.throwUnsupported
noncomputable section
set_option compiler.extract_closed false
theorem aK{p:Prop}[Decidable p](h:¬p):decide p=false:=decide_eq_false h
theorem aM{p:Prop}[Decidable p](h:p):decide p=true:=decide_eq_true h
theorem aO{c:Prop}{h:Decidable c}(n:¬c){α:Sort u}{t e:α}:(ite c t e)=e:=if_neg n
theorem aP{c:Prop}{h:Decidable c}(n:c){α:Sort u}{t e:α}:(ite c t e)=t:=if_pos n
set_option Elab.async false
set_option linter.all false
set_option maxRecDepth 100000
set_option maxHeartbeats 8000000
open PySem.W renaming Frag->zZ,findIn->zC,nsIn->zD,typeIn->yN,mroIn->yS,mg_of->yJ,keepIn->yF,kitOne->xY,mg_none_of->xJ,Looks->yD,fnOf->xR,kia_one->wY,hideAll->wZ,emptyDict->wA,callWith_K->vP,hasDictIn->vQ,codeIn->wE,instObj->vM,isFn->wG,plainGet->uW,of_hideAll->uJ,looks_mroIn->tH,plainOver->tK,looks_findIn->rQ,hideAll_none->rR,makesIn->tP,hideAll_get->rV,lookIn->sX,any_some->sC,cellsFrom_some->qJ,looks_typeIn->qM,plainGet_of->qQ,looks_clsIn->qR,clsIn->sI,specialIn->qV,methodObj->qW,takesIn->rB,takerIn->rC,OpenLaw->rD,kitAny->qC,KdlSrc->qD,InstAt->qE,funFrames_hide->zEK,methodCall_KW->zEP,callWith_K0->zEU,tail_of_in->zEa,codeRec_of->zEb
open List renaming length_map->zY,getElem?_eq_getElem->zU,getD_eq_getElem?_getD->zO,length_cons->zV,length_append->zS,mem_cons_self->zQ,mem_cons_of_mem->zM,mem_singleton->zP,mem_of_getElem?->zI,getElem?_eq_some_iff->yL,mem_cons->zN,getElem?_map->zF,length_take->zH,size_toArray->zB,all_eq_true->zE,take_of_length_le->yH,mem_append->yY,map_append->yX,take_add_one->yR,mem_range->yZ,length_drop->yV,append_assoc->yM,mem_append_right->yB,mem_map->zA,range->zG,eq_nil_of_length_eq_zero->wU,map_cons->yT,flatMap_cons->xX,length_nil->yE,mem_append_left->xO,getElem?_append_left->wS,length_pos_iff->xN,getElem?_append_right->wN,cons_append->xU,length_singleton->wW,getElem_mem->xP,append_nil->xK,pairwise_cons->wX,take_length->xF,range_succ->xA,lookup_cons->wQ,toArray->xL,replicate->xD,mem_filterMap->vY,filter_cons->wJ,take_succ_cons->vO,cons_lt_cons_iff->uY,cons->xW,mem_flatMap->wB,dropLast_concat_getLast->sT,length_range->vR,nodup_cons->wC,mem_filter->wD,length_reverse->uZ,length->xI,flatMap_append->vA,filterMap_cons->vB,any_eq_true->vS,count_pos_iff->vC,mem_of_mem_take->uC,count_cons_self->uD,map_eq_nil_iff->uE,lookup->wO,drop_succ_cons->uF,not_mem_nil->vD,mem_reverse->vE,filter_append->uK,take_append_drop->sZ,getElem?_eq_none->tE,pairwise_append->tF,drop_eq_getElem_cons->rK,drop_drop->vF,getElem?_take_of_lt->rM,find?_cons->uQ,all_cons->vH,drop_eq_nil_of_le->rP,count_append->tM,drop_left->uT,mem_iff_getElem?->rS,map_map->vI,length_filter_le->rT,all_map->vJ,mem_of_mem_drop->rW,any_cons->uH,not_lt_nil->sU,nil_append->sV,map_congr_left->rH,length_set->sW,getD_cons_zero->rJ,getElem?_drop->rZ,take_zero->tT,drop_zero->tU,nodup_append->sE,sum_cons->tW,map_take->tX,getLast_eq_getElem->qK,flatMap_map->sG,getElem?_set_self->qL,of_mem_zip->sH,map_nil->tY,flatMap->tZ,eq_nil_or_concat->qN,count_cons_of_ne->qO,concat_eq_append->qP,getElem?_set_ne->qS,nodup_nil->sJ,reverse_append->qU,Pairwise->sM,eraseIdx_eq_take_drop_succ->pU,Sublist->sQ,take_append_of_le_length->pT,nodup_range->pZ,nil_lt_cons->qA,drop_length->qB,take_length_add_append->zED,forIn_cons->zEE,foldl_cons->zEF,all_append->zEG,takeWhile_cons_of_neg->zEJ,pairwise_singleton->zES,map_drop->zET,range_succ_eq_map->zEW,length_pos_of_mem->zEX,append_eq_nil_iff->zEY,pairwise_flatMap->zEc
open PySem.Str renaming ofString->zX,length->wM
open Nat renaming le_refl->zW,le_trans->zK,lt_of_lt_of_le->yI,lt_of_le_of_lt->yG,le_of_ble_eq_true->yC,lt_or_ge->yW,ne_of_lt->yU,le_of_lt->yK,zero_le->yQ,toDigits->xV,lt_irrefl->xQ,min_eq_left->xG,lt_succ_self->wR,lt_trans->xH,min_eq_right->vT,toDigits_of_lt_base->sS,succ->xT,lt_succ_of_le->uN,mul_le_mul_right->tI,le_of_not_lt->uP,le_succ->wF,add_comm->vU,add_sub_cancel_left->rO,zero_add->vK,succ_le_succ->tQ,le_add_right->tS,toDigits_append_toDigits->pX,le_of_eq->uU,lt_succ_of_lt->sF,succ_mul->uA,sub_self->uB,sub_le->uV,pow_le_pow_right->qT,sub_lt_sub_left->qX,eq_zero_or_pos->qZ,digitChar->sO,le_succ_of_le->rE,ne_of_gt->rY,min_le_right->qF,not_lt_zero->zEI,not_lt->zER,length_toDigits_pos->zEV
open Bool renaming and_eq_true->zT,false_ne_true->zR,false_eq_true->vZ,eq_iff_iff->wL,eq_false_iff->uM,false_and->vG,or_eq_true->uR,not_eq_true'->tN,true_and->uI,and_false->tV,not_true->sN
open PySem.Heap renaming get?_push_of_some->zL,get?_push_size->yO,lt_size->zJ,get?_update_other->wH,get?_update_self->wI,SameBut->xM,get?_none_of_le->tG,size_push->sK
open Int renaming eq_ofNat_of_zero_le->yA,emod_lt_of_pos->uL,emod_nonneg->uS,toNat_natCast->tO,zero_add->vL,fdiv_eq_ediv_of_nonneg->zEO
open Array renaming getElem?_eq_getElem->wV,getElem?_eq_some_iff->vV,getElem?_toList->uX,getElem?_setIfInBounds_ne->rF,toList_inj->uO,append_assoc->tJ,length_toList->rG,forIn_toList->qY,size_append->rA,toList->zEZ,mem_toList_iff->zEd
open Option renaming some->yP,map_eq_some_iff->wP,map_some->wK,isSome_iff_exists->qH,none->rX,bind_eq_some_iff->zEN
open PySem.F renaming plainAttrs_list->wT,type_list_append->vW,slot_list_append->vX,plainAttrs_str->vN,slot_str_join->uG,type_str_join->sY,slot_dict_keyiterator_next->pY,slot_tuple_hash->rL,slot_str_split->rN,args_str_split_2->qG,entry_str_split->qI,slot_str_partition->pV,excBase_ValueError->pW,type_list_insert->zEA,store_ValueError->zEB,slot_list_insert->zEC,plain_list_iadd->zEH,slot_str_upper->zEL,slot_dict_iter->zEM,slot_dict_pop->zEQ
local macro_rules|`(tactic|exists $e,*)=>`(tactic|refine #[$e,*, ?_])
def Z{α:Sort u}{a:α}:a=a:=rfl
local macro_rules|`(∅)=>`(by lia)
local macro_rules|`(tactic|let $d:letDecl)=>let n:=d.raw[0];let l(s:Lean.Syntax)k:Lean.Syntax:=.node .none `Lean.Parser.Tactic.rcasesPatLo #[.node .none `Lean.Parser.Tactic.rcasesPatMed #[Lean.mkNullNode #[.node .none k s.getArgs]],Lean.mkNullNode];if n.getKind== ``Lean.Parser.Term.letPatDecl then let m:Lean.TSyntax `Lean.Parser.Tactic.rcasesPatMed:=⟨(n[0].rewriteBottomUp λs=>match s.getKind with|`ident=>l (Lean.mkNullNode #[s]) `Lean.Parser.Tactic.rcasesPat.one|`Lean.Parser.Term.hole=>l s `Lean.Parser.Tactic.rcasesPat.ignore|`Lean.Parser.Term.anonymousCtor=>l s `Lean.Parser.Tactic.rcasesPat.tuple|`«term#[_,]»=>l s `Lean.Parser.Tactic.rcasesPat.tuple|_=>s)[0]⟩;`(tactic|obtain $m:rcasesPatMed:=$(⟨n[4]⟩)) else `(tactic|have $d:letDecl)
local macro_rules|`(#[$x,*])=>do let r←`(rfl);let h←`(_);let y:=x.getElems.flatMap λe=>match e.raw.isNatLit? with|some n=>(Array.replicate n #[h,r]).flatten|_=>#[e];`(⟨$y,*⟩)
local macro_rules|`($x\$y)=>`($x=some $y)
local macro_rules|`(tactic|rwa[$r,*])=>let a:=r.getElems;`(tactic|(rw[$(a.pop),*];exact $(⟨a.back!.raw[1]⟩)))
local macro_rules|`(tactic|erw[$r,*] at $h:ident)=>`(tactic|(rw[$r,*] at $h:ident;cases $h:ident))
local macro_rules|`(↑$x)=>`(($x).length)
local macro_rules|`(⇑$x)=>`(($x).toArray)
open Option renaming some->Z',none->Y'
open Bool renaming true->V'
local macro_rules|`($x[$i]!)=>`(($x).getD ($i) .d)
local macro_rules|`(#v[$x,*])=>let a:=x.getElems;`(by rw[$[$(a.pop):term],*];exact $(a.back!))
local macro_rules|`(⋯)=>`(by simp)
local macro_rules|`(↥$x)=>if x.raw.isIdent then `(aA ($x).prog ($x).w) else `(aA $(Lean.mkIdent `prog) $(Lean.mkIdent `w))
local macro_rules|`(tactic|show $t)=>`(tactic|refine $t)
abbrev ja:=PySem.Value->PySem.Shared->Prop
abbrev jb:=PySem.Str->Option PySem.Value
abbrev jc:=Option PySem.Value
abbrev jd:=List PySem.Value
abbrev T9:List PySem.Str:=["self","number"]
abbrev T2:List PySem.Str:=["_law_well_here","_law_many"]
abbrev TJ:List PySem.Str:=["_law_well_here","_law_twigs","_law_rows"]
abbrev T5:List PySem.Str:=["text","at"]
abbrev T0:List PySem.Str:=["self","numbers"]
abbrev Ty:List PySem.Str:=["_law_well_here","_law_twigs","_law_row"]
abbrev TL:List PySem.Str:=["_law_well_here","_law_room"]
abbrev TY:List PySem.Str:=["_law_well_here"]
abbrev T1:List PySem.Str:=["_law_spot"]
abbrev TU:List PySem.Str:=["numbers","text","at"]
abbrev TZ:List PySem.Str:=["shelf","root"]
abbrev TN:List PySem.Str:=["text","at","room"]
abbrev Tc:List PySem.Str:=["_law_well_here","_law_twigs","_law_high"]
abbrev T3:List PySem.Str:=["rows"]
abbrev Tl:List PySem.Str:=["shelf","numbers","words","at"]
abbrev Tn:List PySem.Str:=["_law_well_here","_law_bound"]
abbrev TV:List PySem.Str:=["self","at"]
abbrev Tt:List PySem.Str:=["self","shelf","root"]
abbrev To:List PySem.Str:=["shelf","numbers","many"]
abbrev Td:List PySem.Str:=["_law_well_here","_law_twigs"]
abbrev Tq:List PySem.Str:=["self","things","label"]
abbrev Tu:List PySem.Str:=["label","following"]
abbrev S2:List PySem.Str:=["_law_numbers","_law_twigs"]
abbrev TX:List PySem.Str:=["sign"]
abbrev TH:List PySem.Str:=["thing","room"]
abbrev Ti:List PySem.Str:=["self","things","tag"]
abbrev SZ:List PySem.Str:=["_law_well_here","_law_twigs","_law_row","_law_some","_law_twig"]
abbrev S':List PySem.Str:=["self","stem","branches"]
abbrev Tj:List PySem.Str:=["shelf","text","at"]
abbrev Ta:List PySem.Str:=["shelf","branches","at"]
abbrev Tb:List PySem.Str:=["_law_script","_law_k"]
abbrev Tx:List PySem.Str:=["one","other"]
abbrev Tz:List PySem.Str:=["self","rows"]
abbrev TQ:List PySem.Str:=["thing"]
abbrev Tr:List PySem.Str:=["things","at"]
abbrev TM:List PySem.Str:=["keys"]
abbrev TD:List PySem.Str:=["labels"]
abbrev S0:List PySem.Str:=["self","number","twig"]
abbrev Ts:List PySem.Str:=["_law_end"]
abbrev Tv:List PySem.Str:=["number"]
abbrev TK:List PySem.Str:=["key"]
abbrev Tf:List PySem.Str:=["_law_twig"]
abbrev Tg:List PySem.Str:=["_law_rows"]
abbrev Th:List PySem.Str:=["row","at"]
abbrev S1:List PySem.Str:=["_law_script"]
abbrev jo:=List Nat
abbrev jr:=List PySem.Str
abbrev js:=List (al×aI)
abbrev ju:=Option Nat
abbrev jv:=List al
abbrev jw:=Array ak
abbrev jx:=Option al
abbrev jy:=List PySem.Expr
abbrev jA:=Array Nat
abbrev jB:=List PySem.Env
abbrev jD:=Option Int
abbrev jF:=List (PySem.Str×al)
abbrev jH:=List Int
abbrev jI:=List (PySem.Str×ak)
abbrev jJ:=List aD
def bxG:List PySem.Str->(List PySem.Value->Prop)->Prop
 |[],p=>p []
 |_::j,p=>∀ a,bxG j (λl=>p (a::l))
theorem bxN:∀ (j:List PySem.Str) (p:List PySem.Value->Prop),bxG j p->∀ us,List.length us=List.length j->p us
 |[],_,h,[],_=>h
 |_::j,p,h,a::l,e=>bxN j (λl=>p (a::l)) (h a) l (Nat.succ.inj e)
namespace L2
open PySem PySem.Spec PyProof.Rows
abbrev Zj:=Sum Int Str
abbrev jC:=List Zj
def Nb:Zj->ak->Bool
 | .inl k,v=>Value.isInt k v
 | .inr x,v=>Value.isStrOf x v
def CW(w:ax):Zj->Int
 | .inl k=>hashInt k
 | .inr x=>hashStr w x
theorem Pr:∀{k:Zj}{v:ak},Nb k v=V'->(∃ i t,k=Sum.inl i/\v=Value.int i t)\/(∃ x t,k=Sum.inr x/\v=Value.str x t)
 | .inl i,v,h=>by
  let#[t,e]:=Value.isInt_shape (k:=i) (v:=v) h;show .inl #[i,t,Z,e]
 | .inr x,v,h=>by
  let#[t,e]:=Value.isStrOf_shape (x:=x) (v:=v) h;show .inr #[x,t,Z,e]
theorem oG(i:Int)(t:Tok):Nb (.inl i) (.int i t)=V':=by simp[Nb,Value.isInt]
theorem og(x:Str)(t:Tok):Nb (.inr x) (.str x t)=V':=by simp[Nb,Value.isStrOf]
theorem yq(a b:Int):decide ((Sum.inl a:Zj)=Sum.inl b)=(a==b):=by
 by_cases e:a=b
 .subst e;simp
 .let h:¬ (Sum.inl a:Zj)=Sum.inl b:=λq=>e (Sum.inl.inj q);rwa[aK h,(beq_eq_false_iff_ne.mpr e).symm]
theorem x'(a b:Str):decide ((Sum.inr a:Zj)=Sum.inr b)=decide (a=b):=by
 by_cases e:a=b
 .subst e;simp
 .let h:¬ (Sum.inr a:Zj)=Sum.inr b:=λq=>e (Sum.inr.inj q);rw[aK h,aK e]
theorem yw(a:Int)(b:Str):decide ((Sum.inl a:Zj)=Sum.inr b)=false:=aK (λq=>nomatch q)
theorem F'(a:Str)(b:Int):decide ((Sum.inr a:Zj)=Sum.inl b)=false:=aK (λq=>nomatch q)
def UF(c:ao)(w:ax):PySem.KeyKind c w Zj where
 is:=Nb
 hash:=CW w
 inj:=λv a b g f=>by
  rcases Pr g with ⟨i,t,rfl,rfl⟩ | ⟨x,t,rfl,rfl⟩
  .rcases Pr f with ⟨j,u,rfl,e⟩ | ⟨y,u,rfl,e⟩
   .injection e with e1 _;rw[e1]
   .show nomatch e
  .rcases Pr f with ⟨j,u,rfl,e⟩ | ⟨y,u,rfl,e⟩
   .show nomatch e
   .injection e with e1 _;rw[e1]
 byValue:=λk v h=>by
  rcases Pr h with ⟨i,t,rfl,rfl⟩ | ⟨x,t,rfl,rfl⟩ <;> rfl
 pyHash:=λd h=>by
  rcases Pr d with ⟨i,t,rfl,rfl⟩ | ⟨x,t,rfl,rfl⟩
  .show wpAny_pyHash_int h
  .show wpAny_pyHash_str h
 eqBool:=λl d h=>by
  rcases Pr l with ⟨i,t,rfl,rfl⟩ | ⟨x,t,rfl,rfl⟩
  .rcases Pr d with ⟨j,u,rfl,rfl⟩ | ⟨y,u,rfl,rfl⟩
   .rw[yq] at h;show wpAny_eqBool_int h
   .rw[yw] at h;show SeqAt.EqAt.int_str i t y u _ _ _ _ h
  .rcases Pr d with ⟨j,u,rfl,rfl⟩ | ⟨y,u,rfl,rfl⟩
   .rw[F'] at h;show SeqAt.EqAt.str_int x t j u _ _ _ _ h
   .rw[x'] at h;show wpAny_eqBool_str h
 «strs» :=λk x t v h=>by
  rcases Pr h with ⟨i,u,rfl,e⟩ | ⟨y,u,rfl,e⟩
  .show nomatch e
  .injection e with e1 _;subst e1;cases v <;> rfl
theorem kO(a:ao)(w:ax)(i:Int)(t:Tok):(UF a w).is (.inl i) (.int i t)=V':=oG i t
theorem kZ(a:ao)(w:ax)(x:Str)(t:Tok):(UF a w).is (.inr x) (.str x t)=V':=og x t
inductive V where
 | non | bl (b:Bool) | int (i:Int) | str (x:Str) | byt (b:Array UInt8) | flt (b:UInt64) | ref (a:al) | ty (n:String)
 deriving DecidableEq
abbrev je:=List V
abbrev jf:=Option V
def ZQ:V->ak->Prop
 | .non,u=>u=Value.none
 | .bl b,u=>u=Value.bool b
 | .int i,u=>∃ t,u=Value.int i t
 | .str x,u=>∃ t,u=Value.str x t
 | .byt b,u=>∃ t,u=Value.bytes b t
 | .flt b,u=>∃ t,u=Value.float b t
 | .ref a,u=>u=Value.ref a
 | .ty n,u=>u=Value.type n
abbrev ZN:je->jd->Prop:=Paired ZQ
theorem ZN.length{b:je}{a:jd}(r:ZN b a):↑b=↑a:=Paired.length r
theorem ZN.get:∀{b:je}{a:jd}{i:Nat}{x:V},ZN b a->b[i]?\x->∃ u,a[i]?\u/\ZQ x u
 | _,_,_,_,.nil,e=>by simp at e
 | _,_,0,_,.cons r _,e=>by simp at e;subst e;show#[1,r]
 | _,_,i+1,x,.cons _ t,e=>by
  let#[u,c,d]:=ZN.get (i:=i) (x:=x) t (by simpa using e)
  show#[u,by simpa using c,d]
theorem ZN.set{x:V}{u:ak}(r:ZQ x u):∀{b:je}{a:jd}(i:Nat),ZN b a->ZN (b.set i x) (a.set i u)
 | _,_,_,.nil=>.nil
 | _,_,0,.cons _ t=>.cons r t
 | _,_,i+1,.cons q t=>.cons q (ZN.set r i t)
theorem ZN.append:∀{c d:je}{a b:jd},ZN c a->ZN d b->ZN (c++d) (a++b):=by intro _ _ _ _ h g;induction h with
 | nil=>show g
 | cons r _ e=>show .cons r e
theorem ZN.take:∀{b:je}{a:jd}(n:Nat),ZN b a->ZN (b.take n) (a.take n)
 | _,_,0,_=>.nil
 | _,_,_+1,.nil=>.nil
 | _,_,n+1,.cons r t=>.cons r (ZN.take n t)
theorem ZN.drop:∀{b:je}{a:jd}(n:Nat),ZN b a->ZN (b.drop n) (a.drop n)
 | _,_,0,r=>r
 | _,_,_+1,.nil=>.nil
 | _,_,n+1,.cons _ t=>ZN.drop n t
def Yy:jf->jc->Prop
 | some v,Z' u=>ZQ v u
 | none,Y'=>True
 | _,_=>False
def KV{a:Type}:List (a×V)->List (a×ak)->Prop:=Paired fun(p:a×V)(q:a×ak)=>p.1=q.1/\ZQ p.2 q.2
def kV:Zj->V
 | .inl i=>.int i
 | .inr x=>.str x
inductive HO where
 | lst (xs:je)
 | tup (xs:je)
 | dK (kvs:List (Zj×V)) | dT (kvs:List (jC×V))
 | set (S:Int->Bool) (n:Nat)
 | ins (C dx:al) (fs:List (Str×V))
 | own (x:al)
 | xd (fs:List (Str×V))
 | met (f x:al)
 | rng (lo hi:Int)
 | frz (o:aI) (u:HO)
 | tbl (ps:jw)
 | ext (φ:aE->Prop)
abbrev Hp:=al->Option HO
def upd(H:Hp)(a:al)(o:HO):Hp:=λb=>if b=a then Z' o else H b
theorem ZY{H:Hp}{a:al}{o:HO}:upd H a o a\o:=by unfold upd;rw[aP rfl]
theorem ZT{H:Hp}{a b:al}{o:HO}(h:b≠a):upd H a o b=H b:=by unfold upd;rw[aO h]
theorem Lg{H:Hp}{a:al}{o u:HO}:upd (upd H a o) a u=upd H a u:=by
 funext b;unfold upd;split <;> rfl
theorem Z5{H:Hp}{a b:al}{o u:HO}(h:H a\o)(c:H b\u)(d:o≠u:=by intro z;cases z):a≠b:=by
 intro e;subst e;rw[h] at c;show d (yP.inj c)
theorem Zf{H:Hp}{a b:al}{o:HO}(h:H a\o)(c:H b=Y'):a≠b:=by
 intro e;subst e;erw[h] at c
section
variable(P:ao)(w:ax)
def Zc(H:Hp)(h:aE)(a:al):HO->Prop
 | .lst c=>↑c<=au/\∃(b:jd)(n:Nat),ZN c b/\h.get? a\{ cls:=.type "list",data:=.seq ⇑b n }
 | .tup c=>↑c<=au/\∃ b:jd,ZN c b/\IsTup h a ⇑b
 | .dK kvs=>↑kvs<=au/\(a==sysModules)=false/\∃ l,KV kvs l/\h.DictOf (UF P w) a l
 | .dT kvs=>↑kvs<=au/\(a==sysModules)=false/\∃ c:List (jC×al×ak),
   Paired (fun(p:jC×V)(q:jC×al×ak)=>p.1=q.1/\H q.2.1\.tup (p.1.map kV)/\ZQ p.2 q.2.2) kvs c /\
   ∃ o i m,h.get? a\o/\o.ExactDict/\o.data=.dict i m/\i.toList=c.map (entryOfKey (tupleKind (UF P w)))/\(c.map (·.1)).Nodup
 | .set S n=>h.SetOf (intKind P w) a S n
 | .ins C g e=>H g\.own a/\↑e<=1000/\g≠a/\h.get? a=Z' (vM C g) /\
   ∃ d,h.Ns1 g d/\(∀ f,Yy (e.lookup f) (d f))/\PySem.Within d (e.map (·.1))
 | .own _=>∃ o,h.get? a\o
 | .xd e=>∃ d,h.Ns1 a d/\∀ f,Yy (e.lookup f) (d f)
 | .rng lo r=>∃ t u v,h.get? a\{ cls:=.type "range",data:=.fields ⇑[.int lo t,.int r u,.int 1 v] }
 | .frz o u=>h.get? a\o/\Zc H h a u
 | .tbl ps=>h.get? a\{ cls:=.none,data:=.fields ps }
 | .met f x=>h.get? a\qW (.ref f) (.ref x)
 | .ext φ=>φ h/\(∃ o,h.get? a\o)/\∀ j k:aE,φ j->(∀ o,j.get? a\o->k.get? a\o)->φ k
def Y6(H:Hp)(h:aE):Prop:=∀ a o,H a\o->Zc P w H h a o
end
section
variable{P:ao}{w:ax}{H H':Hp}{h h':aE}{a:al}{o:HO}
theorem Zc.lt(x:Zc P w H h a o):a<h.objs.size:=by
 cases o with
 | lst d=>let#[_,_,_,_,e]:=x;show zJ e
 | tup d=>let#[_,_,_,p]:=x;show p.lt
 | dK b=>let#[_,_,_,_,o,_,_,e,_]:=x;show zJ e
 | dT b=>let#[_,_,_,_,o,_,_,e,_]:=x;show zJ e
 | set S n=>let#[o,_,_,_,e,_]:=x;show zJ e
 | ins C g c=>let#[_,_,_,e,_]:=x;show zJ e
 | own y=>let#[_,e]:=x;show zJ e
 | xd c=>let#[_,#[_,_,_,e,_],_]:=x;show zJ e
 | rng j i=>let#[_,_,_,e]:=x;show zJ e
 | frz k u=>let#[e,_]:=x;show zJ e
 | tbl l=>show zJ (show h.get? a\_ from x)
 | met f y=>show zJ (show h.get? a\_ from x)
 | ext m=>let#[_,#[_,e],_]:=x;show zJ e
theorem Paired.mapP{e g:Type}{F G:e->g->Prop}:∀{c:List e}{d:List g},Paired F c d->(∀ a b,F a b->G a b)->Paired G c d:=by intro _ _ h f;induction h with
 | nil=>show .nil
 | cons r _ i=>show .cons (f _ _ r) i
theorem Paired.imp'{e g:Type}{F G:e->g->Prop}(f:∀ a b,F a b->G a b){c:List e}{d:List g}(r:Paired F c d):Paired G c d:=Paired.mapP r f
theorem Zc.stay(x:Zc P w H h a o)(k:∀ b u,(b=a\/H b\.own a)->h.get? b\u->h'.get? b\u)(I:∀ b,H b\.own a->H' b\.own a)(J:∀ b m,H b\.tup m->H' b\.tup m):Zc P w H' h' a o:=by
 induction o with
 | lst m=>let#[z,l,n,r,e]:=x;show#[z,l,n,r,k _ _ (.inl Z) e]
 | tup m=>let#[z,l,r,g,e,c]:=x;show#[z,l,r,g,k _ _ (.inl Z) e,c]
 | dK s=>let#[z,y,M,r,g,j,i,e,c]:=x;show#[z,y,M,r,g,j,i,k _ _ (.inl Z) e,c]
 | dT s=>
  let#[z,y,m,r,g,j,i,e,c]:=x;show#[z,y,m,Paired.mapP r λp q z=>#[z.1,J _ _ z.2.1,z.2.2],g,j,i,k _ _ (.inl Z) e,c]
 | set S n=>let#[g,j,i,t,e,c]:=x;show#[g,j,i,t,k _ _ (.inl Z) e,c]
 | ins C N G=>
  let#[d,z,L,e,A,#[B,j,i,F,c],r]:=x;show#[I _ d,z,L,k _ _ (.inl Z) e,A,#[B,j,i,k _ _ (.inr d) F,c],r]
 | own y=>let#[g,e]:=x;show#[g,k _ _ (.inl Z) e]
 | xd G=>let#[A,#[B,j,i,e,c],r]:=x;show#[A,#[B,j,i,k _ _ (.inl Z) e,c],r]
 | rng Q O=>let#[t,u,v,e]:=x;show#[t,u,v,k _ _ (.inl Z) e]
 | frz g u K=>let#[e,q]:=x;show#[k _ _ (.inl Z) e,K q]
 | tbl D=>
  let e:h.get? a\{ cls:=.none,data:=.fields D }:=x;change h'.get? a\{ cls:=.none,data:=.fields D };show k a _ (.inl Z) e
 | met f y=>
  let e:h.get? a\qW (.ref f) (.ref y):=x;change h'.get? a\qW (.ref f) (.ref y);show k a _ (.inl Z) e
 | ext R=>let#[p,#[o,e],E]:=x;show#[E _ _ p λo q=>k _ _ (.inl Z) q,#[o,k _ _ (.inl Z) e],E]
theorem Y6.lt(x:Y6 P w H h)(e:H a\o):a<h.objs.size:=(x a o e).lt
theorem Y6.fresh(x:Y6 P w H h)(e:h.objs.size<=a):H a=Y':=by
 cases q:H a with
 | none=>rfl
 | some u=>show absurd (yI (x.lt q) e) (xQ _)
theorem Y6.kept(x:Y6 P w H h)(k:∀ b u,h.get? b\u->h'.get? b\u):Y6 P w H h':=λa o e=>
 (x a o e).stay (λb u _ q=>k b u q) (λ_ q=>q) λ_ _ q=>q
theorem Y6.laid(x:Y6 P w H h)(k:∀ b u,h.get? b\u->h'.get? b\u)(i:h.objs.size<=a)(d:Zc P w (upd H a o) h' a o):Y6 P w (upd H a o) h':=λb u e=>by
 let g:=x.fresh i;by_cases f:b=a
 .subst f;erw[ZY] at e;show d
 .rw[ZT f] at e;show(x b u e).stay (λc v _ q=>k c v q) (λc q=>#v[ZT (Zf q g),q]) λc j q=>#v[ZT (Zf q g),q]
end
def Rd(H:Hp)(a:al)(u:HO):Prop:=H a\u\/∃ o,H a\.frz o u
theorem Rd.of{H:Hp}{a:al}{u:HO}(h:H a\u):Rd H a u:=.inl h
theorem Rd.ok{P:ao}{w:ax}{H:Hp}{h:aE}{a:al}{u:HO}(r:Rd H a u)(x:Y6 P w H h):Zc P w H h a u:=by
 rcases r with r | ⟨o,r⟩
 .show x a u r
 .let#[_,q]:=x a _ r;show q
def Nm:Option HO->Prop
 | some (.lst _)=>True
 | some (.dK _)=>True
 | some (.dT _)=>True
 | some (.set _ _)=>True
 | some (.ins _ _ _)=>True
 | some (.ext _)=>True
 | _=>False
section
variable{P:ao}{w:ax}{H:Hp}{h h':aE}{x e:al}{o':HO}
theorem Y6.write(t:Y6 P w H h)(j:Nm (H x))(o:e=x\/H e\.own x)(k:∀ b u,b≠e->h.get? b\u->h'.get? b\u)(m:∃ u,h'.get? e\u)(n:Zc P w (upd H x o') h' x o'):Y6 P w (upd H x o') h':=λb u q=>by
 let d:∀ c y,H c\.own y->c≠x:=λc y r z=>by subst z;rw[r] at j;show j
 let f:∀ c l,H c\.tup l->c≠x:=λc l r z=>by subst z;rw[r] at j;show j
 by_cases g:b=x
 .subst g;erw[ZY] at q;show n
 .rw[ZT g] at q;by_cases a:b=e
  .let p:H b\.own x:=by
    rcases o with z | z
    .show absurd (a.trans z) g
    .rwa[a,z]
   erw[q] at p;let#[v,s]:=m;show#[v,#v[a,s]]
  .show(t b u q).stay (λc v i r=>k c v ?_ r) (λc r=>#v[ZT (d c b r),r]) λc l r=>#v[ZT (f c l r),r]
   rcases i with rfl | i
   .show a
   .rintro rfl;rcases o with z | z
    .show d c b i z
    .erw[i] at z;show g Z
end
structure Un(fs ex:jv)(H H':Hp)(h h':aE):Prop where
 keep:∀ b o,h.get? b\o->H b=Y'->b∉fs->b∉ex->h'.get? b\o
 slot:∀ b o,h.get? b\o->H b=Y'->b∈fs->b∉ex->∃ sl,h'.get? b\{ o with slots:=sl }
 free:∀ b o,h.get? b\o->H b=Y'->b∉ex->H' b=Y'
 there:∀ b o,h.get? b\o->b∉ex->∃ o',h'.get? b\o'
 tups:∀ b xs,H b\.tup xs->H' b\.tup xs
 frzs:∀ b o u,H b\.frz o u->H' b\.frz o u
 tbls:∀ b ps,H b\.tbl ps->∃ more,H' b\.tbl (ps++more)
section
variable{fs fs' ex ex':jv}{H H1 H2:Hp}{h h1 h2 h':aE}{a x e:al}{o:HO}
theorem Un.any(u:Un fs ex H H1 h h1){b:al}{c:aI}(q:h.get? b\c)(n:H b=Y')(f:b∉ex):∃ g,h1.get? b\{ c with slots:=g }:=by
 by_cases d:b∈fs
 .show u.slot b c q n d f
 .show#[c.slots,u.keep b c q n d f]
theorem Un.kept(k:∀ b u,h.get? b\u->h'.get? b\u):Un fs ex H H h h':=
 #[λb c q _ _ _=>k b c q,λb c q _ _ _=>#[c.slots,k b c q],λ_ _ _ n _=>n,λb c q _=>#[c,k b c q],λ_ _ q=>q,λ_ _ _ q=>q,λ_ d q=>#[⇑[],by rw[q];simp]]
theorem Un.refl:Un fs ex H H h h:=Un.kept λ_ _ q=>q
theorem Un.laid(k:∀ b u,h.get? b\u->h'.get? b\u)(d:h.objs.size<=a)(c:H a=Y'):Un fs ex H (upd H a o) h h' where
 keep:=λb u q _ _ _=>k b u q
 slot:=λb u q _ _ _=>#[u.slots,k b u q]
 free:=λb u q n _=>#v[ZT (yU (yI (zJ q) d)),n]
 there:=λb u q _=>#[u,k b u q]
 tups:=λb f q=>#v[ZT (Zf q c),q]
 frzs:=λb u f q=>#v[ZT (Zf q c),q]
 tbls:=λb g q=>#[⇑[],by rw[ZT (Zf q c),q];simp]
theorem Un.write(d:Nm (H x))(l:e=x\/H e\.own x)(k:∀ b u,b≠e->h.get? b\u->h'.get? b\u)(f:∃ u,h'.get? e\u):Un fs ex H (upd H x o) h h':=by
 let j:∀ b,H b=Y'->b≠x:=λb n z=>by subst z;rw[n] at d;show d
 let i:∀ b,H b=Y'->b≠e:=λb n z=>by
  subst z;rcases l with r | r
  .show j b n r
  .erw[n] at r
 let g:∀ b u,H b\u->¬ Nm (Z' u)->b≠x:=λb u q m z=>by subst z;rw[q] at d;show m d
 show#[λb u q n _ _=>k b u (i b n) q,λb u q n _ _=>#[u.slots,k b u (i b n) q],λb u q n _=>#v[ZT (j b n),n],λb u q _=>?_,
  λb p q=>#v[ZT (g b _ q λz=>z),q],λb u p q=>#v[ZT (g b _ q λz=>z),q],λb s q=>#[⇑[],by rw[ZT (g b _ q λz=>z),q];simp]]
 by_cases c:b=e
 .subst c;show f
 .show#[u,k b u c q]
end
def KD(h:aE)(H:Hp):List Addr:=(zG h.objs.size).filter λa=>(H a).isSome
def P7(h:aE)(H:Hp):Heap:=wZ h (KD h H)
theorem oF(h:aE)(H:Hp):(P7 h H).objs.size=h.objs.size:=PySem.W.hideAll_size _ _
theorem ox{h:aE}{H:Hp}{b:al}{o:aI}(e:h.get? b\o)(n:H b=Y'):(P7 h H).get? b\o:=
 rV _ e λa=>by
  let q:(H b).isSome=V':=(wD.mp a).2;rw[n] at q;simp at q
theorem ug{h:aE}{H:Hp}{b:al}{o:aI}(e:(P7 h H).get? b\o):h.get? b\o/\H b=Y':=by
 let a:h.get? b\o:=uJ (KD h H) e;exists a
 cases q:H b with
 | none=>rfl
 | some x=>
  let c:b∈KD h H:=wD.mpr #[yZ.mpr (zJ a),by simp[q]]
  let z:(P7 h H).get? b=Y':=rR (KD h H) c;erw[z] at e
def w5(g h:aE)(L:al):js:=(zG h.objs.size).filterMap λa=>if a=L\/(g.get? a).isSome=V' then Y' else (h.get? a).map λo=>(a,o)
def rest(g h:aE)(L d:al):js:=(w5 g h L).filter λp=>decide (p.1≠d)
structure Mod(K:zZ)(mg:jb)(jS:aE):Prop where
 kin:K.In jS
 glob:jS.Ns ar mg
 blt:∃ mb,jS.Ns builtinsNs mb/\∀ x:Str,x ≠ "__name__"->mb x=az x
 nolimit:jS.NoLimit
structure Cx where
 prog:ao
 w:ax
 K:zZ
 mg:jb
 base:aE
 A:ay
 N:jr
 s₀:am
 H₀:Hp
 env:Env
 outer:jB
 stack:jB
 ex:jv
 fn:Str->Bool
 calm:Bool
 pn:js
 xe:ja
def frs(l:jB):List Addr:=l.filterMap (·.frame)
abbrev Cx.fs(X:Cx):List Addr:=frs X.outer
def Ll(a:aF)(x:Str):Prop:=a.names.lookup x\.local\/a.names.lookup x\.cell\/a.names.lookup x\.free
def NU(a:aF)(x:Str):Prop:=a.names.lookup x\.local\/a.names.lookup x\.cell
def Sq(a:Env)(h:aE)(m:jb)(x:Str)(u:ak):Prop:=
 (a.kindOf x\.local/\m x\u)\/((a.kindOf x\.cell\/a.kindOf x\.free)/\∃ c,a.cells.lookup x\c/\h.IsCell c (Z' u))
structure Cx.Ok(X:Cx):Prop where
 mod:Mod X.K X.mg X.base
 kind:X.env.scope.kind=.function
 glob:X.env.globals=ar
 blt:X.env.builtins=builtinsNs
 above:X.s₀.heap.objs.size<=X.env.locals
 inj:∀ x y c,X.env.cells.lookup x\c->X.env.cells.lookup y\c->x=y
 has:∀ x,(X.env.kindOf x\.cell\/X.env.kindOf x\.free)->∃ c,X.env.cells.lookup x\c
 cab:∀ x c,X.fn x=V'->X.env.cells.lookup x\c->X.s₀.heap.objs.size<=c
 hd:X.calm=V'->X.A.handled=Y'
 frames:X.A.frames\X.stack
 stk:X.stack=X.outer\/(X.stack=X.env::X.outer/\X.env.frame\X.env.locals)
 exf:∀ b∈X.ex,b≠X.env.locals/\∀ x c,X.env.cells.lookup x\c->c≠b
 bs:∀ b o,X.base.get? b\o->X.s₀.heap.get? b\o/\X.H₀ b=Y'
 bsz:X.base.objs.size<=X.s₀.heap.objs.size
 noex:∀ b o,X.base.get? b\o->b∉X.ex
 exfs:∀ b∈X.ex,b∉X.fs
 funs:X.s₀.heap.FunFrames X.base X.outer
 frf:∀ b∈X.fs,X.H₀ b=Y'
structure ZF(X:Cx)(jR:js)(σ:List (jf))(H:Hp)(s:am):Prop where
 ok:X.Ok
 os:s.os=X.s₀.os
 bare:AllBare s.gens
 base:Un X.fs X.ex X.H₀ H X.s₀.heap s.heap
 loc:∃ m,s.heap.Ns X.env.locals m/\∀(i:Nat)(x:Str)(v:V),X.N[i]?\x->σ[i]?\Z' v->Ll X.env.scope x->∃ u,ZQ v u/\Sq X.env s.heap m x u
 cell:∀ x c,X.env.cells.lookup x\c->∃ v,s.heap.IsCell c v
 free:H X.env.locals=Y'
 freeC:∀ x c,X.env.cells.lookup x\c->H c=Y'
 pin:∀ p∈X.pn++jR,s.heap.get? p.1\p.2/\H p.1=Y'/\p.1≠X.env.locals/\p.1∉X.fs/\∀ v,p.2.data≠.cell v
 hok:Y6 X.prog X.w H s.heap
 len:↑σ=↑X.N
section
variable{X:Cx}{jR:js}{σ:List (jf)}{H H':Hp}{s:am}{h':aE}
theorem Cx.Ok.nofr(c:X.Ok){b:al}{o:aI}(e:X.base.get? b\o):b∉X.fs:=λa=>by
 have:=(c.funs.mem a).1;erw[e] at this
theorem ZF.bs(I:ZF X jR σ H s):∀ b o,X.base.get? b\o->s.heap.get? b\o/\H b=Y':=λb o e=>
 #[I.base.keep b o (I.ok.bs b o e).1 (I.ok.bs b o e).2 (I.ok.nofr e) (I.ok.noex b o e),I.base.free b o (I.ok.bs b o e).1 (I.ok.bs b o e).2 (I.ok.noex b o e)]
theorem ZF.bk(I:ZF X jR σ H s):∀ b o,X.base.get? b\o->s.heap.get? b\o:=λb o e=>(I.bs b o e).1
theorem ZF.mod(I:ZF X jR σ H s):Mod X.K X.mg X.base:=I.ok.mod
theorem ZF.kIn(I:ZF X jR σ H s):X.K.In s.heap:=I.ok.mod.kin.keeps I.bk
theorem ZF.lt(I:ZF X jR σ H s):X.env.locals<s.heap.objs.size:=let #[_,hn,_]:=I.loc;hn.lt
theorem ZF.sz(I:ZF X jR σ H s):X.s₀.heap.objs.size<=s.heap.objs.size:=zK I.ok.above (yK I.lt)
theorem ZF.nofs(I:ZF X jR σ H s){a:al}(h:s.heap.objs.size<=a):a∉X.fs:=λb=>by
 let#[_,o,c,_]:=I.ok.funs.mem b;show absurd (yI (zJ c) (zK I.sz h)) (xQ _)
theorem ZF.cne(I:ZF X jR σ H s):∀ x c,X.env.cells.lookup x\c->c≠X.env.locals:=λx c e z=>by
 let#[v,o,f,d]:=I.cell x c e;let#[m,#[i,h,g,b,a,_],_]:=I.loc;erw[z,b] at f;erw[a] at d
theorem ZF.funs(I:ZF X jR σ H s):s.heap.FunFrames X.base X.outer:=by
 let a:∀(l:jB),(∀ b∈frs l,b∈X.fs)->X.s₀.heap.FunFrames X.base l->s.heap.FunFrames X.base l:=by
  intro l
  induction l with
  | nil=>intro _ _;trivial
  | cons h r q=>
   intro g k;let#[j,#[L,o,f,m,n,i],p]:=k;let c:L∈X.fs:=g L (by unfold frs;rwa[vB,f,zQ])
   let#[t,e]:=I.base.slot L o n (I.ok.frf L c) c λz=>I.ok.exfs L z c;show#[j,#[L,_,f,m,e,i],q (λb d=>g b (by unfold frs;rwa[vB,f,zM _ d])) p]
 show a X.outer (λ_ d=>d) I.ok.funs
theorem ZF.stack(I:ZF X jR σ H s):s.heap.FunFrames X.base X.stack:=by
 rcases I.ok.stk with e | ⟨e,a⟩
 .rwa[e,I.funs]
 .rw[e];let#[m,b,_]:=I.loc;show .cons (by rw[I.ok.kind];decide) a b ?_ I.funs
  show tG (zK I.ok.bsz I.ok.above)
theorem ZF.stkSub(I:ZF X jR σ H s):∀ b∈frs X.stack,b∈X.env.locals::X.fs:=λb a=>by
 rcases I.ok.stk with e | ⟨e,c⟩
 .rw[e] at a;show zM _ a
 .rw[e] at a;unfold frs at a;rw[vB,c] at a;show a
theorem ZF.stkFree(I:ZF X jR σ H s):∀ b∈frs X.stack,H b=Y':=λb a=>by
 rcases zN.mp (I.stkSub b a) with e | a
 .rwa[e,I.free]
 .let#[_,o,c,_]:=I.ok.funs.mem a;show I.base.free b o c (I.ok.frf b a) λz=>I.ok.exfs b z a
theorem ZF.step{g':Array GenState}{t':Nat}{d':Drawn}{ch:jv}(I:ZF X jR σ H s)(h:∀ b∈ch,(b∈X.ex\/X.s₀.heap.objs.size<=b)/\b≠X.env.locals/\(∀ x c,X.env.cells.lookup x\c->c≠b)/\∀ p∈X.pn++jR,p.1≠b)(j:∀ b o,b≠X.env.locals->b∉X.fs->b∉ch->s.heap.get? b\o->H b=Y'->h'.get? b\o)(B:∀ b o,b≠X.env.locals->b∈X.fs->b∉ch->s.heap.get? b\o->H b=Y'->∃ S,h'.get? b\{ o with slots:=S })(f:∀ b o,b∉ch->s.heap.get? b\o->H b=Y'->H' b=Y')(E:∀ b o,b∉ch->s.heap.get? b\o->∃ M,h'.get? b\M)(O:∀ b C,H b\.tup C->H' b\.tup C)(J:∀ b o u,H b\.frz o u->H' b\.frz o u)(N:∀ b P,H b\.tbl P->∃ K,H' b\.tbl (P++K))(ns:∀ m,s.heap.Ns X.env.locals m->h'.Ns X.env.locals m)(R:Y6 X.prog X.w H' h')(hg:AllBare g'):
  ZF X jR σ H' { s with heap:=h',gens:=g',drawn:=d',toks:=t' }:=by
 let L:∀ b o,X.s₀.heap.get? b\o->b≠X.env.locals:=λb o e=>yU (yI (zJ e) I.ok.above);let A:∀ b o,X.s₀.heap.get? b\o->b∉X.ex->b∉ch:=λb o e a D=>by
  rcases(h b D).1 with z | z
  .show a z
  .show absurd (yI (zJ e) z) (xQ _)
 let g:∀ x c,X.env.cells.lookup x\c->∀ v,s.heap.IsCell c v->h'.IsCell c v:=λx c e v ⟨o,F,Q⟩=>by
  let t:c∉ch:=λz=>(h c z).2.2.1 x c e Z;by_cases U:c∈X.fs
  .let#[S,q]:=B c o (I.cne x c e) U t F (I.freeC x c e);show#[_,q,Q]
  .show#[o,j c o (I.cne x c e) U t F (I.freeC x c e),Q]
 show#[I.ok,I.os,hg,#[λb o e n D a=>?_,λb o e n D a=>?_,λb o e n a=>?_,λb o e a=>?_,λb C e=>O b C (I.base.tups b C e),λb o C e=>J b o C (I.base.frzs b o C e),λb P e=>?_],?_,λx c e=>?_,?_,λx c e=>?_,λp V=>?_,R,I.len]
 .show j b o (L b o e) D (A b o e a) (I.base.keep b o e n D a) (I.base.free b o e n a)
 .let#[S,y]:=I.base.slot b o e n D a;let#[T,G]:=B b _ (L b o e) D (A b o e a) y (I.base.free b o e n a);show#[T,G]
 .let#[M,y]:=I.base.there b o e a;show f b M (A b o e a) y (I.base.free b o e n a)
 .let#[M,y]:=I.base.there b o e a;show E b M (A b o e a) y
 .let#[m1,y]:=I.base.tbls b P e;let#[m2,G]:=N b _ y;show#[m1++m2,by rw[G,tJ]]
 .let#[m,hn,hl]:=I.loc;exists m,ns m hn;intro i x v y G e3;let#[u,r,l]:=hl i x v y G e3;exists u,r;rcases l with l | ⟨k,c,e,z⟩
  .show .inl l
  .show .inr #[k,c,e,g x c e _ z]
 .let#[v,z]:=I.cell x c e;show#[v,g x c e v z]
 .let#[m,#[o,_,_,F,_],_]:=I.loc;show f _ o (λz=>(h _ z).2.1 Z) F I.free
 .let#[v,o,F,Q]:=I.cell x c e;show f c o (λz=>(h c z).2.2.1 x c e Z) F (I.freeC x c e)
 .let#[e,n,W,Y,d]:=I.pin p V;let t:p.1∉ch:=λz=>(h p.1 z).2.2.2 p V Z;show#[j p.1 p.2 W Y t e n,f p.1 p.2 t e n,W,Y,d]
theorem ZF.un{t':Nat}(I:ZF X jR σ H s)(u:Un X.fs [] H H' s.heap h')(g:Y6 X.prog X.w H' h'):ZF X jR σ H' { s with heap:=h',toks:=t' }:=by
 let#[m,#[o,p,l,h,r],_]:=id I.loc;let#[v,i]:=u.any h I.free ⋯
 show I.step (g':=s.gens) (d':=s.drawn) (ch:=[]) (λ_ z=>nomatch z) (λb o _ f _ e n=>u.keep b o e n f ⋯) (λb o _ f _ e n=>u.slot b o e n f ⋯) (λb o _ e n=>u.free b o e n ⋯) (λb o _ e=>u.there b o e ⋯) u.tups u.frzs u.tbls (λq j=>by
  let#[t,d,c,a,k]:=j;erw[h] at a;show#[_,d,c,i,k]) g I.bare
theorem ZF.call{g':Array GenState}{t':Nat}{d':Drawn}{ch:jv}(I:ZF X jR σ H s)(u:Un (frs X.stack) ch H H' s.heap h')(j:Y6 X.prog X.w H' h')(q:AllBare g')(d:∀ b∈ch,(b∈X.ex\/X.s₀.heap.objs.size<=b)/\b≠X.env.locals/\(∀ x c,X.env.cells.lookup x\c->c≠b)/\∀ p∈X.pn++jR,p.1≠b):
  ZF X jR σ H' { s with heap:=h',gens:=g',drawn:=d',toks:=t' }:=by
 let#[m,#[o,A,y,k,r],_]:=id I.loc;let#[D,i]:=u.any k I.free λz=>(d _ z).2.1 Z;show I.step (ch:=ch) d (λb o i l a e n=>u.keep b o e n (λz=>(zN.mp (I.stkSub b z)).elim i l) a) (λb o _ _ a e n=>u.any e n a) (λb o a e n=>u.free b o e n a) (λb o a e=>u.there b o e a) u.tups u.frzs u.tbls (λB t=>by
  let#[C,h,g,f,v]:=t;erw[k] at f;show#[_,h,g,i,v]) j q
theorem ZF.turned{t':Nat}{it:al}(I:ZF X jR σ H s)(k:∀ b o,b≠it->s.heap.get? b\o->h'.get? b\o)(y:H it=Y')(f:it≠X.env.locals)(i:it∈X.ex\/X.s₀.heap.objs.size<=it)(j:∀ x c,X.env.cells.lookup x\c->c≠it)(l:∀ p∈X.pn++jR,p.1≠it):ZF X jR σ H { s with heap:=h',toks:=t' }:=by
 let d:∀ b u,H b\u->b≠it:=λb u e z=>by erw[z,y] at e
 show I.step (g':=s.gens) (d':=s.drawn) (ch:=[it]) (λb t=>?_) (λb o _ _ a e _=>k b o (λz=>a (by simp[z])) e) (λb o _ _ a e _=>#[o.slots,k b o (λz=>a (by simp[z])) e]) (λ_ _ _ _ n=>n)
  (λb o a e=>#[o,k b o (λz=>a (by simp[z])) e]) (λ_ _ e=>e) (λ_ _ _ e=>e) (λb B e=>#[⇑[],by rw[e];simp]) (λm w=>?_) (λb u e=>?_) I.bare
 .let e:b=it:=by simpa using t
  subst e;show#[i,f,j,l]
 .let#[o,h,g,A,r]:=w;show#[o,h,g,k _ o (Ne.symm f) A,r]
 .show(I.hok b u e).stay (λc v a q=>k c v ?_ q) (λ_ q=>q) λ_ _ q=>q;rcases a with z | z
  .rwa[z,d b u e]
  .show d c _ z
theorem ZF.tok(I:ZF X jR σ H s)(t:Nat):ZF X jR σ H { s with toks:=t }:=I.un (h':=s.heap) (t':=t) Un.refl I.hok
theorem ZF.kept{t':Nat}(I:ZF X jR σ H s)(k:∀ b u,s.heap.get? b\u->h'.get? b\u):ZF X jR σ H { s with heap:=h',toks:=t' }:=I.un (Un.kept k) (I.hok.kept k)
theorem ZF.laid{a:al}{o:HO}{t':Nat}(I:ZF X jR σ H s)(k:∀ b u,s.heap.get? b\u->h'.get? b\u)(c:s.heap.objs.size<=a)(d:Zc X.prog X.w (upd H a o) h' a o):
  ZF X jR σ (upd H a o) { s with heap:=h',toks:=t' }:=I.un (Un.laid k c (I.hok.fresh c)) (I.hok.laid k c d)
theorem ZF.write{x e:al}{o:HO}{g:Nat}(I:ZF X jR σ H s)(f:Nm (H x))(d:e=x\/H e\.own x)(k:∀ b u,b≠e->s.heap.get? b\u->h'.get? b\u)(a:∃ u,h'.get? e\u)(c:Zc X.prog X.w (upd H x o) h' x o):ZF X jR σ (upd H x o) { s with heap:=h',toks:=g }:=I.un (Un.write f d k a) (I.hok.write f d k a c)
theorem ZF.pins_of{a:js}(I:ZF X jR σ H s)(h:∀ p∈a,s.heap.get? p.1\p.2/\H p.1=Y'/\p.1≠X.env.locals/\p.1∉X.fs/\∀ v,p.2.data≠.cell v):ZF X a σ H s:=
 #[I.ok,I.os,I.bare,I.base,I.loc,I.cell,I.free,I.freeC,λp b=>(yY.mp b).elim (λz=>I.pin p (xO _ z)) (h p),I.hok,I.len]
theorem HY{N:jr}(e:N.Nodup){i j:Nat}{x:Str}(a:N[i]?\x)(b:N[j]?\x):i=j:=by
 let#[f,c]:=yL.mp a;let#[g,d]:=yL.mp b;show(List.getElem_inj e).mp (c.trans d.symm)
theorem Bn{M:Model}{A:ay}{E:ja}{i:Nat}{x:Str}{v:V}{u:ak}{Q:Unit->am->Prop}(I:ZF X jR σ H s)(hN:X.N.Nodup)(T:X.N[i]?\x)(B:NU X.env.scope x)(r:ZQ v u)(h:∀ s',ZF X jR (σ.set i (Z' v)) H s'->(∃ a,xM a s.heap s'.heap/\(a=X.env.locals\/X.env.cells.lookup x\a))->Q () s')(hf:X.fn x=V'\/X.env.scope.names.lookup x\.local:=by first | show .inl rfl | show .inr rfl | assumption):aC M A (storeName X.env x u) Q E s:=by
 let#[m,hn,hl]:=id I.loc;let S:(X.env.scope.kind==.class || (X.env.scope.kind==.module&&X.env.locals != X.env.globals))=false:=by rw[I.ok.kind];rfl
 let F:i<↑σ:=#v[I.len,(yL.mp T).1]
 let J:=I.cne;let l:∀{a:al}{h':aE},(∃ o,s.heap.get? a\o/\H a=Y')->xM a s.heap h'->Y6 X.prog X.w H h':=fun{a h'} ha f b ob e=>by
  let#[_,_,C]:=ha;show(I.hok b ob e).stay (λc w' t q=>(f.2 c ?_).trans q) (λ_ q=>q) λ_ _ q=>q;rintro rfl;rcases t with rfl | t
  .erw[C] at e
  .erw[C] at t
 rcases B with G | G
 .show wpAny_storeName_local G hn (λh' a0 f=>?_) S;let#[oL,_,_,a1,_]:=id hn;show h _ #[I.ok,I.os,I.bare,#[λb o e n K B=>?_,λb o e n K B=>?_,I.base.free,λb o e B=>?_,I.base.tups,I.base.frzs,I.base.tbls],#[_,a0,λj y v' g D e3=>?_],λy c e=>?_,I.free,I.freeC,λp hp=>?_,l #[oL,a1,I.free] f,by simpa using I.len] #[_,f,.inl Z]
  .show(f.2 b (yU (yI (zJ e) I.ok.above))).trans (I.base.keep b o e n K B)
  .let#[sl,g]:=I.base.slot b o e n K B;show#[sl,(f.2 b (yU (yI (zJ e) I.ok.above))).trans g]
  .let#[o',g]:=I.base.there b o e B;show#[o',(f.2 b (yU (yI (zJ e) I.ok.above))).trans g]
  .by_cases O:j=i
   .subst O;erw[T] at g;erw[qL F] at D;show#[u,r,.inl #[G,by simp]]
   .rw[qS (Ne.symm O)] at D;let#[u',r',q]:=hl j y v' g D e3;exists u',r';rcases q with ⟨k,e⟩ | ⟨k,c,e,z⟩
    .show .inl #[k,?_];have:y≠x:=λe=>O (HY hN g (e ▸ T));simp[this,e]
    .show .inr #[k,c,e,z.sameBut f (J y c e)]
  .let#[w',z]:=I.cell y c e;show#[w',z.sameBut f (J y c e)]
  .let#[e,n,ne,nf,d]:=I.pin p hp;show#[(f.2 p.1 ne).trans e,n,ne,nf,d]
 .let L:X.fn x=V':=by
   rcases hf with z | z
   .show z
   .erw[z] at G
  let#[c,t]:=I.ok.has x (.inl G);let#[w',z]:=I.cell x c t;show wpAny_storeName_cell I.ok.kind G t z (λh' P f=>?_);let#[oc,U,W]:=id z;show h { s with heap:=h' } #[I.ok,I.os,I.bare,#[λb o e n K B=>?_,λb o e n K B=>?_,I.base.free,λb o e B=>?_,I.base.tups,I.base.frzs,I.base.tbls],#[m,hn.sameBut f (Ne.symm (J x c t)),λj y v' g D e3=>?_],λy Y e=>?_,I.free,I.freeC,λp hp=>?_,l #[oc,U,I.freeC x c t] f,by simpa using I.len] #[c,f,.inr t]
  .show(f.2 b (yU (yI (zJ e) (I.ok.cab x c L t)))).trans (I.base.keep b o e n K B)
  .let#[sl,g]:=I.base.slot b o e n K B;show#[sl,(f.2 b (yU (yI (zJ e) (I.ok.cab x c L t)))).trans g]
  .let#[o',g]:=I.base.there b o e B;show#[o',(f.2 b (yU (yI (zJ e) (I.ok.cab x c L t)))).trans g]
  .by_cases O:j=i
   .subst O;erw[T] at g;erw[qL F] at D;show#[u,r,.inr #[.inl G,c,t,P]]
   .rw[qS (Ne.symm O)] at D;let#[u',r',q]:=hl j y v' g D e3;exists u',r';rcases q with q | ⟨k,Y,e,z'⟩
    .show .inl q
    .show .inr #[k,Y,e,z'.sameBut f ?_];rintro rfl;show O (HY hN g (I.ok.inj _ _ _ e t ▸ T))
  .by_cases R:Y=c
   .subst R;show#[_,P]
   .let#[w2,z2]:=I.cell y Y e;show#[w2,z2.sameBut f R]
  .let#[e,n,ne,nf,d]:=I.pin p hp;show#[(f.2 p.1 ?_).trans e,n,ne,nf,d];intro q;rw[q,U] at e;let q':oc=p.2:=yP.inj e;show d w' (by rwa[<-q',W])
theorem N0{M:Model}{A:ay}{E:ja}{i:Nat}{x:Str}{v:V}{u:ak}{Q:Unit->am->Prop}(I:ZF X jR σ H s)(c:X.N.Nodup)(e:X.N[i]?\x)(f:NU X.env.scope x)(r:ZQ v u)(h:∀ a,ZF X jR (σ.set i (Z' v)) H a->Q () a)(d:X.fn x=V'\/X.env.scope.names.lookup x\.local:=by first | show .inl rfl | show .inr rfl | assumption):aC M A (storeName X.env x u) Q E s:=
 Bn I c e f r (λa b _=>h a b) d
theorem ZF.call'{s':am}{ch:jv}(I:ZF X jR σ H s)(i:s'.os=s.os)(u:Un (frs X.stack) ch H H' s.heap s'.heap)(d:Y6 X.prog X.w H' s'.heap)(h:AllBare s'.gens)(a:∀ b∈ch,(b∈X.ex\/X.s₀.heap.objs.size<=b)/\b≠X.env.locals/\(∀ x c,X.env.cells.lookup x\c->c≠b)/\∀ p∈X.pn++jR,p.1≠b):ZF X jR σ H' s':=by
 let#[h',g,f,k,j]:=s';let e:j=s.os:=i;subst e;show I.call (g':=g) (t':=k) (d':=f) u d h a
end
abbrev XK:=ak->jx->Hp->Prop
abbrev St:=List (jf)
abbrev VK:=V->Hp->Prop
abbrev TE:=St->Hp->VK->Prop
abbrev TT:=St->Hp->(Bool->Hp->Prop)->Prop
abbrev TA:=St->Hp->(je->Hp->Prop)->Prop
structure YX where
 nx:St->Hp->Prop
 rt:VK
 bk:St->Hp->Prop:=λ_ _=>False
 ct:St->Hp->Prop:=λ_ _=>False
abbrev TS:=YX->St->Hp->Prop
def EP(X:Cx)(a:js)(d:St)(Q:VK)(u:ak)(c:am):Prop:=∃ v b,ZF X a d b c/\ZQ v u/\Q v b
def TP(X:Cx)(a:js)(e:St)(Q:Bool->Hp->Prop)(b:Bool)(d:am):Prop:=∃ c,ZF X a e c d/\Q b c
def AP(X:Cx)(a:js)(f:St)(Q:je->Hp->Prop)(e:jd)(d:am):Prop:=∃ c b,ZF X a f b d/\ZN c e/\Q c b
def SP(X:Cx)(b:js)(D:YX)(f:Flow)(d:am):Prop:=
 match f with
 | .next=>∃ a c,ZF X b a c d/\D.nx a c
 | .brk=>∃ a c,ZF X b a c d/\D.bk a c
 | .cont=>∃ a c,ZF X b a c d/\D.ct a c
 | .ret u=>∃ v a c,ZF X b a c d/\ZQ v u/\D.rt v c
def PE(X:Cx)(e:Expr)(t:TE):Prop:=
 ∀(a:js)(s:am)(b:St)(H:Hp)(Q:VK),ZF X a b H s->t b H Q->aC (aB X.prog X.w) X.A (aH e X.env) (EP X a b Q) X.xe s
def PT(X:Cx)(e:Expr)(t:TT):Prop:=
 ∀(a:js)(s:am)(b:St)(H:Hp)(Q:Bool->Hp->Prop),ZF X a b H s->t b H Q->aC (aB X.prog X.w) X.A (isTrue e X.env (aH e X.env)) (TP X a b Q) X.xe s
def PW(X:Cx)(e:Expr)(t:TT):Prop:=
 ∀(b:Sem ak)(a:js)(s:am)(c:St)(H:Hp)(Q:Bool->Hp->Prop),ZF X a c H s->t c H Q->aC (aB X.prog X.w) X.A (isTrue e X.env b) (TP X a c Q) X.xe s
theorem PW.pt{X:Cx}{e:Expr}{t:TT}(h:PW X e t):PT X e t:=h _
def PA(X:Cx)(d:jy)(t:TA):Prop:=
 ∀(b:aJ)(a:js)(s:am)(c:St)(H:Hp)(Q:je->Hp->Prop),ZF X a c H s->t c H Q->aC (aB X.prog X.w) X.A (spliced (aG b (aw d X.env))) (AP X a c Q) X.xe s
def PS(X:Cx)(c:aD)(t:TS):Prop:=
 ∀(a:js)(s:am)(b:St)(H:Hp)(D:YX),ZF X a b H s->t D b H->aC (aB X.prog X.w) X.A (exec c X.env) (SP X a D) X.xe s
def Xm(X:Cx)(c:jJ)(t:TS):Prop:=
 ∀(a:js)(s:am)(b:St)(H:Hp)(D:YX),ZF X a b H s->t D b H->aC (aB X.prog X.w) X.A (execs c X.env) (SP X a D) X.xe s
theorem Z3{c:Type}{t:Sem c}{Q b:c->am->Prop}{M:Model}{A:ay}{E:ja}{s:am}(h:aC M A t Q E s)(d:∀ a s,Q a s->b a s):aC M A t b E s:=ae h d λ_ _ x=>x
theorem Z8{d g i:Type}{t:Sem d}{a b c:d->am->g->i->Prop}{e:d->am->Prop}{M:Model}{A:ay}{E:ja}{s:am}(h:aC M A t (λv s=>∃ x H,a v s x H/\b v s x H/\c v s x H) E s)(f:∀ v s x H,a v s x H->b v s x H->c v s x H->e v s):aC M A t e E s:=Z3 h (by rintro v s ⟨x,H,p,q,r⟩;show f v s x H p q r)
variable{X:Cx}
section
inductive Y9(i:Nat)(a:L2.St)(H:Hp)(Q:VK):Prop
 |mk(v:_)(_:a[i]?\Z' v)(_:Q v H)
def tC(v:V):TE:=λ_ H Q=>Q v H
theorem yu{i:Nat}{x:Str}{k:aJ}(o:X.N[i]?\x)(w:Ll X.env.scope x)(j:(x==("__debug__" : Str))=false:=by decide)(g:(x==("__classdict__" : Str))=false:=by decide):PE X (.Name x k) (Y9 i):=by
 intro f s y H Q I h;let#[v,e,h]:=h;let#[m,t,p]:=I.loc;let#[u,r,l]:=p i x v o e w;let b:EP X f y Q u s:=#[v,H,I,r,h];rcases l with ⟨d,q⟩ | ⟨d,c,n,a⟩
 .show wpAny_Name (wpAny_loadName_local I.ok.kind d t q b) j
 .rcases d with d | d
  .show wpAny_Name (wpAny_loadName_cell I.ok.kind d n a b) j
  .show wpAny_Name (wpAny_loadName_free I.ok.kind d n a b g) j
theorem ZJ{i j a}:PE X (.Constant (.int i) j a) (tC (.int i)):=λ_ _ _ H _ I h=>wpAny_Constant_int #[.int i,H,I.tok _,#[1],h]
theorem MC{b j a}:PE X (.Constant (.bool b) j a) (tC (.bl b)):=λ_ _ _ H _ I h=>Constant_bool #[.bl b,H,I,Z,h]
theorem KI{j a}:PE X (.Constant .none j a) (tC .non):=λ_ _ _ H _ I h=>Constant_none #[.non,H,I,Z,h]
theorem Zu{x j pos}:PE X (.Constant (.str x) j pos) (tC (.str x)):=λ_ _ _ H _ I h=>Calls.Constant_str #[.str x,H,I.tok _,#[1],h]
def Gl(X:Cx)(x:Str):Prop:=X.env.kindOf x\.globalImplicit
theorem QZ{E:ja}{a:js}{s:am}{f:St}{H:Hp}{x:Str}{u:ak}{b:aJ}{Q:ja}(I:ZF X a f H s)(d:Gl X x)(e:X.mg x\u)(h:Q u s)(c:(x==("__debug__" : Str))=false:=by decide):aC (aB X.prog X.w) X.A (aH (.Name x b) X.env) Q E s:=
 Calls.Name_function_global I.ok.kind d (Calls.loadGlobal_global #v[I.ok.glob,I.mod.glob.keeps I.bk] e h) c
theorem NA{E:ja}{a:js}{s:am}{k:St}{H:Hp}{x:Str}{u:ak}{b:aJ}{Q:ja}(I:ZF X a k H s)(f:Gl X x)(g:X.mg x=Y')(j:az x\u)(h:Q u s)(i:x ≠ "__name__" :=by decide)(e:(x==("__debug__" : Str))=false:=by decide):aC (aB X.prog X.w) X.A (aH (.Name x b) X.env) Q E s:=by
 let#[l,c,d]:=I.mod.blt;show Calls.Name_function_global I.ok.kind f (Calls.loadGlobal_builtin #v[I.ok.glob,I.mod.glob.keeps I.bk] g #v[I.ok.blt,c.keeps I.bk] ((d x i).trans j) h) e
theorem Xo{x:Str}{v:V}{u:ak}{pos:aJ}(b:Gl X x)(c:X.mg x\u)(r:ZQ v u)(a:(x==("__debug__" : Str))=false:=by decide):PE X (.Name x pos) (tC v):=
 λ_ _ _ H _ I h=>QZ I b c #[v,H,I,r,h] a
theorem U3{x:Str}{v:V}{u:ak}{a:aJ}(c:Gl X x)(d:X.mg x=Y')(f:az x\u)(r:ZQ v u)(e:x ≠ "__name__" :=by decide)(b:(x==("__debug__" : Str))=false:=by decide):PE X (.Name x a) (tC v):=
 λ_ _ _ H _ I h=>NA I c d f #[v,H,I,r,h] e b
variable{a b:Expr}{ta tb:TE}{pos:aJ}
def PC(X:Cx)(g:CmpOp)(a b:Expr)(t:TE):Prop:=
 ∀(c:js)(s:am)(f:St)(H:Hp)(Q:VK),ZF X c f H s->t f H Q ->
  aC (aB X.prog X.w) X.A (aH a X.env) (λv d=>aC (aB X.prog X.w) X.A (aH b X.env) (λu e=>aC (aB X.prog X.w) X.A (aA g v u) (EP X c f Q) X.xe e) X.xe d) X.xe s
theorem pd(b:Expr){c:CmpOp}(h:c≠.In)(f:c≠.NotIn):behindInMarks c b=false:=by
 let d:(c==CmpOp.In)=false:=by cases c <;> first | rfl | show absurd rfl h
 let e:(c==CmpOp.NotIn)=false:=by cases c <;> first | rfl | show absurd rfl f
 cases b <;> simp[behindInMarks,d,e]
def Sj(ta:TE):TE:=λd H Q=>ta d H λx c=>Q (.bl (decide (x=.non))) c
def zc(ta:TE):TE:=λd H Q=>ta d H λx c=>Q (.bl (!decide (x=.non))) c
theorem ZQ.none_iff{x:V}{v:ak}(r:ZQ x v):(v==Value.none)=decide (x=.non):=by
 cases x with
 | non=>cases r;rfl
 | bl _=>cases r;rfl
 | int _=>let#[t,rfl]:=r;rfl
 | str _=>let#[t,rfl]:=r;rfl
 | byt _=>let#[t,rfl]:=r;rfl
 | flt _=>let#[t,rfl]:=r;rfl
 | ref _=>cases r;rfl
 | ty _=>cases r;rfl
theorem Ep{j d}(g:PE X a ta):PC X .Is a (.Constant .none j d) (Sj ta):=by
 intro c s l H Q I h;show Z8 (g c s l H _ I h) λv m x e f k i=>?_;show Constant_none (is_none_gen #[.bl _,e,f,by rw[k.none_iff];rfl,i])
theorem Lc{j d}(g:PE X a ta):PC X .IsNot a (.Constant .none j d) (zc ta):=by
 intro c s l H Q I h;show Z8 (g c s l H _ I h) λv m x e f k i=>?_;show Constant_none (isnot_none_gen #[.bl _,e,f,by rw[k.none_iff];rfl,i])
def tB(t:TE):TT:=λe H Q=>t e H λx d=>∃ c,x=.bl c/\Q c d
theorem Ps{g:CmpOp}{t:TE}(h:PC X g a b t)(f:behindInMarks g b=false:=by first | show pd _ (by decide) (by decide) | rfl):PT X (.Compare a [g] [b] pos) (tB t):=by
 intro e s o H Q I l;show wpAny_isTrue_Compare1 (Z3 (h e s o H _ I l) λv p f=>Z3 f λu r k=>Z8 k λc w x i j n m=>?_) f;let#[d,rfl,q]:=m;cases n;show wpAny_truthy_bool #[i,j,q]
theorem WU{e:Expr}{t:TE}(h:PE X e t)(j:∀ c,isTrue e X.env c=(do let v<-c;standAt e.pos;holding [v] (truthy v)):=by intro _;rfl):PT X e (tB t):=by
 intro f s n H Q I k;show isTrue_plain (Z8 (h f s n H _ I k) λv o x g i m l=>?_) (j _);let#[d,rfl,q]:=l;cases m;show wpAny_truthy_bool #[g,i,q]
variable{tA tB':TT}{rest:jy}
def Sn(t u:TT):TT:=λe H Q=>t e H λc d=>if c=V' then u e d Q else Q false d
def SW(t u:TT):TT:=λe H Q=>t e H λc d=>if c=V' then Q true d else u e d Q
def Si(t:TT):TT:=λe H Q=>t e H λc d=>Q (!c) d
theorem OJ(f:PT X a tA):PW X (.BoolOp .And [a] pos) tA:=by
 intro j d s g H Q I h;show isTrue_and (Z3 (f d s g H Q I h) λc i e=>?_)
 cases c with
 | true=>show isTrue_and_nil e
 | false=>show e
theorem Pc(f:PT X a tA):PW X (.BoolOp .Or [a] pos) tA:=by
 intro j d s g H Q I h;show isTrue_or (Z3 (f d s g H Q I h) λc i e=>?_)
 cases c with
 | false=>show isTrue_or_nil e
 | true=>show e
theorem Pn(j:PT X a tA)(k:PW X (.BoolOp .And (b::rest) pos) tB'):PW X (.BoolOp .And (a::b::rest) pos) (Sn tA tB'):=by
 intro m d s i H Q I h;show isTrue_and (Z3 (j d s i H _ I h) ?_);rintro c l ⟨e,f,g⟩
 cases c with
 | true=>show k m d l i e Q f g
 | false=>show#[e,f,g]
theorem Pe(j:PT X a tA)(k:PW X (.BoolOp .Or (b::rest) pos) tB'):PW X (.BoolOp .Or (a::b::rest) pos) (SW tA tB'):=by
 intro m d s i H Q I h;show isTrue_or (Z3 (j d s i H _ I h) ?_);rintro c l ⟨e,f,g⟩
 cases c with
 | true=>show#[e,f,g]
 | false=>show k m d l i e Q f g
theorem Ux(f:PT X a tA):PT X (.UnaryOp .Not a pos) (Si tA):=by
 intro d s g H Q I h;show isTrue_not (f d s g H (λc e=>Q (!c) e) I h)
inductive O1(tb:TE)(e:L2.St)(Q:VK)(x:V)(d:Hp):Prop
 |mk(c:_)(_:x=.bl c)(_:if c=V' then tb e d Q else Q (.bl false) d)
def Ri(ta tb:TE):TE:=λc H Q=>ta c H λx d=>O1 tb c Q x d
theorem LV{e}{t:TE}(h:PE X a t):PE X (.BoolOp e [a] pos) t:=λc s f H Q I d=>BoolOp_one (h c s f H Q I d)
theorem LP(j:PE X a ta)(k:PE X (.BoolOp .And (b::rest) pos) tb):PE X (.BoolOp .And (a::b::rest) pos) (Ri ta tb):=by
 intro d s i H Q I h;show BoolOp_and (Z8 (j d s i H _ I h) λv m x f g l e=>?_);let#[c,rfl,e]:=e;cases l;show wpAny_truthy_bool ?_
 cases c with
 | true=>show k d m i f Q g e
 | false=>show#[.bl false,f,g,Z,e]
end
def ZH(K:zZ)(H:Hp)(a:al)(c:je):Prop:=
 Rd H a (.lst c) \/
  ∃(o:aI)(b:jw)(n:Nat),K.lookup a\o/\o.cls=.type "list" /\ o.dict=Y'/\o.data=.seq b n/\b.size<=au/\ZN c b.toList
def Zd(K:zZ)(H:Hp)(a:al)(c:je):Prop:=
 Rd H a (.tup c) \/
  ∃(o:aI)(b:jw)(n:Nat),K.lookup a\o/\o.cls=.type "tuple" /\ o.data=.seq b n/\b.size<=au/\ZN c b.toList
def SI:ak->jf
 | .none=>Z' .non
 | .bool b=>Z' (.bl b)
 | .int i _=>Z' (.int i)
 | .str x _=>Z' (.str x)
 | .bytes b _=>Z' (.byt b)
 | .float b _=>Z' (.flt b)
 | .ref a=>Z' (.ref a)
 | .type n=>Z' (.ty n)
 | _=>Y'
theorem ZQ.abs{x:V}{u:ak}(r:ZQ x u):SI u\x:=by
 cases x with
 | non=>cases r;rfl
 | bl _=>cases r;rfl
 | int _=>let#[t,rfl]:=r;rfl
 | str _=>let#[t,rfl]:=r;rfl
 | byt _=>let#[t,rfl]:=r;rfl
 | flt _=>let#[t,rfl]:=r;rfl
 | ref _=>cases r;rfl
 | ty _=>cases r;rfl
theorem ZQ.inj{x y:V}{u:ak}(r:ZQ x u)(q:ZQ y u):x=y:=yP.inj (r.abs.symm.trans q.abs)
theorem ZN.inj:∀{c a:je}{b:jd},ZN c b->ZN a b->c=a:=by intro _ a _ h g;induction h generalizing a with
 | nil=>cases g;rfl
 | cons r _ d=>cases g with
  | cons e f=>rw[r.inj e,d f]
section
variable{jR:js}{σ:St}{H:Hp}{s:am}{a:al}{xs ys:je}
theorem ZH.of{K:zZ}(h:H a\.lst xs):ZH K H a xs:=.inl (.inl h)
theorem Zd.of{K:zZ}(h:H a\.tup xs):Zd K H a xs:=.inl (.inl h)
theorem ZF.list(I:ZF X jR σ H s)(h:ZH X.K H a xs):∃ b:jd,ZN xs b/\PlainL s.heap a ⇑b/\↑xs<=sizeLine:=by
 rcases h with h | ⟨o,b,n,f,c,d,g,i,r⟩
 .let#[z,b,n,r,e]:=h.ok I.hok;show#[b,r,#[_,n,e,Z,Z,Z],z]
 .exists b.toList,r,#[o,n,I.kIn a o f,c,d,by simpa using g]
  let e:=↑r;simp only[rG] at e
  lia
theorem ZF.tuple(I:ZF X jR σ H s)(h:Zd X.K H a xs):∃ b:jd,ZN xs b/\IsTup s.heap a ⇑b/\↑xs<=sizeLine:=by
 rcases h with h | ⟨o,b,n,d,c,f,g,r⟩
 .let#[z,b,r,p]:=h.ok I.hok;show#[b,r,p,z]
 .exists b.toList,r,#[o,I.kIn a o d,c,n,by simpa using f]
  let e:=↑r;simp only[rG] at e
  lia
theorem ZF.list_inj(I:ZF X jR σ H s)(h:ZH X.K H a xs)(i:ZH X.K H a ys):xs=ys:=by
 let#[c,r,#[o,n,e,_,_,d],_]:=I.list h;let#[b,j,#[l,k,g,_,_,f],_]:=I.list i;erw[e] at g;rw[d] at f;injection f with d1 _;have:c=b:=by simpa using congrArg zEZ d1
 subst this;show r.inj j
theorem ZF.tuple_inj(I:ZF X jR σ H s)(h:Zd X.K H a xs)(i:Zd X.K H a ys):xs=ys:=by
 let#[c,r,#[o,e,_,n,d],_]:=I.tuple h;let#[b,j,#[l,g,_,k,f],_]:=I.tuple i;erw[e] at g;rw[d] at f;injection f with d1 _;have:c=b:=by simpa using congrArg zEZ d1
 subst this;show r.inj j
end
abbrev Cx.wish(X:Cx)(E:ja):Cx:={ X with xe:=E }
abbrev Cx.nox(X:Cx):Cx:=X.wish λ_ _=>False
theorem Cx.Ok.wish{X:Cx}(a:X.Ok)(E:ja):(X.wish E).Ok:=
 #[a.mod,a.kind,a.glob,a.blt,a.above,a.inj,a.has,a.cab,a.hd,a.frames,a.stk,a.exf,a.bs,a.bsz,a.noex,a.exfs,a.funs,a.frf]
theorem Cx.Ok.unwish{X:Cx}{E:ja}(a:(X.wish E).Ok):X.Ok:=
 #[a.mod,a.kind,a.glob,a.blt,a.above,a.inj,a.has,a.cab,a.hd,a.frames,a.stk,a.exf,a.bs,a.bsz,a.noex,a.exfs,a.funs,a.frf]
section
variable{jR:js}{σ:St}{H:Hp}{s:am}{E:ja}
theorem ZF.wish(I:ZF X jR σ H s)(E:ja):ZF (X.wish E) jR σ H s:=#[I.ok.wish E,I.os,I.bare,I.base,I.loc,I.cell,I.free,I.freeC,I.pin,I.hok,I.len]
theorem ZF.unwish(I:ZF (X.wish E) jR σ H s):ZF X jR σ H s:=#[I.ok.unwish,I.os,I.bare,I.base,I.loc,I.cell,I.free,I.freeC,I.pin,I.hok,I.len]
theorem SP.unwish{D:YX}{f:Flow}{c:am}(h:SP (X.wish E) jR D f c):SP X jR D f c:=by
 cases f with
 | next=>let#[a,b,I,q]:=h;show#[a,b,I.unwish,q]
 | brk=>let#[a,b,I,q]:=h;show#[a,b,I.unwish,q]
 | cont=>let#[a,b,I,q]:=h;show#[a,b,I.unwish,q]
 | ret u=>let#[v,a,b,I,r,q]:=h;show#[v,a,b,I.unwish,r,q]
theorem Xm.nox{a:jJ}{t:TS}(h:Xm X.nox a t):Xm X a t:=λjR s σ H D I b=>
 ae (h jR s σ H D (I.wish _) b) (λ_ _ q=>q.unwish) λ_ _ z=>False.elim z
end
section
variable{st:aD}{rest:jJ}{t u:TS}{e:Expr}{te:TE}{pos:aJ}
def RK:TS:=λD a H=>D.nx a H
def Sa(t u:TS):TS:=λD a H=>t { D with nx:=u D } a H
theorem Z0:Xm X [] RK:=λ_ _ a H _ I h=>wpAny_execs_nil #[a,H,I,h]
theorem ZL(g:PS X st t)(i:Xm X rest u):Xm X (st::rest) (Sa t u):=by
 intro a s k H D I h;show wpAny_execs_cons (Z3 (g a s k H { D with nx:=u D } I h) λf j q=>?_)
 cases f with
 | next=>
  let#[b,c,d,q]:=q;show i a j b c D d q
 | ret v=>show q
 | brk=>show q
 | cont=>show q
theorem ZR(b:PS X st t):Xm X [st] t:=by
 intro a s c H D I h;show wpAny_execs_cons (Z3 (b a s c H D I h) λf d q=>?_)
 cases f with
 | next=>show wpAny_execs_nil q
 | ret v=>show q
 | brk=>show q
 | cont=>show q
theorem ZF.quiet{a:js}{b:St}{H:Hp}{s:am}(I:ZF X a b H s):interactive X.env=false:=by simp[interactive,I.ok.kind]
def R0(te:TE):TS:=λD a H=>te a H λ_ b=>D.nx a b
theorem Wa(f:PE X e te)(g:swapsWith e Y' pos.line X.env=pure false:=by rfl):PS X (.Expr e pos) (R0 te):=by
 intro a s b H D I h;show wpAny_Expr_any (Z8 (f a s b H _ I h) λv k x c d j i=>#[b,c,d,i]) I.quiet g
def Sk(te:TE):TS:=λD a H=>te a H D.rt
theorem Zl(f:PE X e te):PS X (.Return (Z' e) pos) (Sk te):=by
 intro a s b H D I h;show wpAny_Return_some (Z8 (f a s b H _ I h) λv j x c d i g=>#[x,b,c,d,i,g])
def R7:TS:=λD _ H=>D.rt .non H
theorem vi:PS X (.Return Y' pos) R7:=λ_ _ a H _ I h=>wpAny_Return_none #[.non,a,H,I,Z,h]
def Sx(c:TT)(t u:TS):TS:=λD a H=>c a H λb d=>if b=V' then t D a d else u D a d
theorem Zx{c:Expr}{a b:jJ}{m:TT}(p:PT X c m)(n:Xm X a t)(o:Xm X b u):PS X (.If c a b pos) (Sx m t u):=by
 intro f s g H D I h;show wpAny_If (Z3 (p f s g H _ I h) ?_);rintro d l ⟨i,j,k⟩
 cases d with
 | true=>show n f l g i D j k
 | false=>show o f l g i D j k
def Bt:TS:=λ_ _ _=>False
theorem GW:PS X st Bt:=λ_ _ _ _ _ _ h=>h.elim
theorem Nt{a:jJ}:Xm X a Bt:=λ_ _ _ _ _ _ h=>h.elim
end
abbrev TG:=V->St->Hp->(St->Hp->Prop)->Prop
abbrev MJ:=je->St->Hp->(St->Hp->Prop)->Prop
def PG(X:Cx)(a:Expr)(t:TG):Prop:=
 ∀(b:js)(s:am)(e:St)(H:Hp)(v:V)(u:ak)(Q:St->Hp->Prop),ZF X b e H s->ZQ v u->t v e H Q ->
  aC (aB X.prog X.w) X.A (assign a X.env u) (λ_ f=>∃ c d,ZF X b c d f/\Q c d) X.xe s
def KM(X:Cx)(h:jy)(t:MJ):Prop:=
 ∀(a:js)(s:am)(f:St)(H:Hp)(e:je)(d:jd)(Q:St->Hp->Prop),ZF X a f H s->ZN e d->t e f H Q ->
  aC (aB X.prog X.w) X.A (assignInOrder ((assignEach h X.env).map (·.2)) d) (λ_ g=>∃ b c,ZF X a b c g/\Q b c) X.xe s
abbrev GV:=V->V->V->Hp->(Hp->Prop)->Prop
def Cu(X:Cx)(t:GV):Prop:=
 ∀(a:js)(s:am)(e:St)(H:Hp)(o i v:V)(d c u:ak)(Q:Hp->Prop),ZF X a e H s->ZQ o d->ZQ i c->ZQ v u->t o i v H Q ->
  aC (aB X.prog X.w) X.A (setItem d c u) (λ_ f=>∃ b,ZF X a e b f/\Q b) X.xe s
abbrev JA:=V->V->Hp->VK->Prop
def E8(X:Cx)(c:Operator)(t:JA):Prop:=
 ∀(a:js)(s:am)(b:St)(H:Hp)(x y:V)(v u:ak)(Q:VK),ZF X a b H s->ZQ x v->ZQ y u->t x y H Q ->
  aC (aB X.prog X.w) X.A (inplaceOp c v u) (EP X a b Q) X.xe s
section
variable{pos:aJ}
def PM(i:Nat):TG:=λv a H Q=>Q (a.set i (Z' v)) H
theorem Kn{i:Nat}{x:Str}(c:X.N.Nodup)(e:X.N[i]?\x)(f:NU X.env.scope x)(d:X.fn x=V'\/X.env.scope.names.lookup x\.local:=by first | show .inl rfl | show .inr rfl | assumption):PG X (.Name x pos) (PM i):=by
 intro a s j H v u Q I r h;show wpAny_assign_Name (N0 I c e f r (λg b=>#[_,H,b,h]) d)
theorem WB(i:Nat){x:Str}(a:X.N.Nodup)(c:X.N[i]?\x:=by rfl)(d:NU X.env.scope x:=by show Or.inl Z)(b:X.fn x=V'\/X.env.scope.names.lookup x\.local:=by first | show .inl rfl | show .inr rfl | assumption):PG X (.Name x pos) (PM i):=Kn a c d b
def Su:MJ:=λa b H Q=>a=[]/\Q b H
inductive LO(t:TG)(u:MJ)(c:je)(d:L2.St)(H:Hp)(Q:L2.St->Hp->Prop):Prop
 |mk(v r:_)(_:c=v::r)(_:t v d H λa b=>u r a b Q)
theorem Fs:KM X [] Su:=by
 intro a s b H d c Q I r h;let#[e,h]:=h;subst e;cases r;show assignInOrder_nil #[b,H,I,h]
theorem Kq{e:Expr}{b:jy}{t:TG}{u:MJ}(i:PG X e t)(j:KM X b u)(k:(assignEach (e::b) X.env).map (·.2)=assign e X.env::(assignEach b X.env).map (·.2):=by rfl):KM X (e::b) (LO t u):=by
 intro a s o H w p Q I r h;let#[v,q,g,h]:=h;subst g
 cases r with
 | cons r m=>
  rw[k];show assignInOrder_cons (Z3 (i a s o H _ _ _ I r h) ?_);rintro _ n ⟨c,d,f,l⟩;show j a n c d _ _ Q f m l
inductive JW(K:zZ)(n:Nat)(t:MJ)(v:V)(c:L2.St)(H:Hp)(Q:L2.St->Hp->Prop):Prop
 |mk(a b:_)(_:v=.ref a)(_:Zd K H a b)(_:↑b=n)(_:t b c H Q)
theorem Dr{d:jy}{k:Nat}{t:MJ}{n:Nat}(q:X.calm=V')(h:KM X d t)(x:↑(assignEach d X.env)=n:=by rfl)(f:(assignEach d X.env).findIdx? (·.1)=Y':=by rfl):PG X (.Tuple d k pos) (JW X.K n t):=by
 intro c s j H v u Q I r g;let#[a,C,m,y,w,g]:=g;subst m;cases r;let#[B,i,z,D]:=I.tuple y;show assign_Tuple_tuple (I.ok.hd q) z (by simp[x,<-w,i.length]) f λp A=>?_
 let l:ZF X c j H { s with heap:=p }:=I.kept (t':=s.toks) λb o e=>A b o (yU (zJ e)) e;show h c _ j H C _ Q l (by simpa using i) g
def SG(f e:TE)(t:GV):TG:=λv a H Q=>f a H λo b=>e a b λi c=>t o i v c λd=>Q a d
theorem Ml{o i:Expr}{f e:TE}{t:GV}(w:PE X o f)(q:PE X i e)(z:Cu X t)(p:∀ v,assign (.Subscript o i pos) X.env v=(do
   let b<-holding [v] (aH o X.env)
   let c<-holding [v,b] (aH i X.env)
   standAt pos
   holding [v,b,c] (setItem b c v)
   release [v,b,c] []):=by intro _;rfl):PG X (.Subscript o i pos) (SG f e t):=by
 intro a s d H v u Q I r h;rw[p];show aa (af (Z8 (w a s d H _ I h) λb F x g l D A=>?_));show aa (af (Z8 (q a F d g _ l A) λc G y j m E B=>?_));show aa (ai (aa (af (Z3 (z a G d j x y v b c u _ m D E r B) ?_))));rintro _ J ⟨k,n,C⟩;show wpAny_release #[d,k,n,C]
def Ls(c:TE)(g:TG):TS:=λD a H=>c a H λx b=>g x a b D.nx
theorem Nk{b e:Expr}{c:TE}{g:TG}(k:PE X e c)(l:PG X b g)(m:swapsWithSole [b] e pos.line X.env=pure false:=by rfl)(n:swappedStores [b] e X.env=pure Y':=by rfl)(j:(assignEach [b] X.env).map (·.2)=[assign b X.env]:=by rfl):PS X (.Assign [b] e pos) (Ls c g):=by
 intro a s d H D I h;show wpAny_Assign_stores (Z8 (k a s d H _ I h) λv r x f i p o=>?_) m n;rwa[j,Z3 (l a r d f x v _ i p o) λ_ t q=>q]
theorem Hv{i:Nat}{x:Str}{e:Expr}{c:TE}{a:aJ}(j:X.N.Nodup)(m:X.N[i]?\x)(o:NU X.env.scope x)(k:PE X e c)(n:swapsWith e (Z' (.Name x a)) pos.line X.env=pure false:=by rfl)(l:X.fn x=V'\/X.env.scope.names.lookup x\.local:=by first | show .inl rfl | show .inr rfl | assumption):
  PS X (.Assign [.Name x a] e pos) (Ls c (PM i)):=by
 intro b s r H D I h;show wpAny_Assign_Name (Z8 (k b s r H _ I h) λv t y d f q p=>?_) n;show N0 f j m o q (λu g=>#[_,d,g,p]) l
theorem Zh(i:Nat){x:Str}{e:Expr}{b:TE}{a:aJ}(c:X.N.Nodup)(d:PE X e b)(g:X.N[i]?\x:=by rfl)(j:NU X.env.scope x:=by show Or.inl Z)(h:swapsWith e (Z' (.Name x a)) pos.line X.env=pure false:=by rfl)(f:X.fn x=V'\/X.env.scope.names.lookup x\.local:=by first | show .inl rfl | show .inr rfl | assumption):
  PS X (.Assign [.Name x a] e pos) (Ls b (PM i)):=Hv c g j d h f
inductive M8(i j:Nat)(D:YX)(c:L2.St)(b:je)(a:Hp):Prop
 |mk(v w:_)(_:b=[v,w])(_:D.nx ((c.set i (Z' v)).set j (Z' w)) a)
def SF(i j:Nat)(c:TA):TS:=λD a H=>c a H λd b=>M8 i j D a d b
theorem Ra{i j:Nat}{x y:Str}{a b:Expr}{L:TA}{u z t:aJ}{r n d}(V:X.calm=V')(G:X.N.Nodup)(W:X.N[i]?\x)(Y:X.N[j]?\y)(l:i≠j)(J:X.env.scope.names.lookup x\.local)(K:X.env.scope.names.lookup y\.local)(U:PA X [a,b] L)(hw:swappedStores [.Tuple [.Name x u,.Name y z] r t] (.Tuple [a,b] n d) X.env=pure (Z' [x,y]))(hs:swapsWithSole [.Tuple [.Name x u,.Name y z] r t] (.Tuple [a,b] n d) pos.line X.env=pure false:=by rfl):
  PS X (.Assign [.Tuple [.Name x u,.Name y z] r t] (.Tuple [a,b] n d) pos) (SF i j L):=by
 intro c s M H D I h;rw[exec_Assign_arm];show aa (ai ?_);rw[hs];show aa (ad ?_);rw[aO (by decide)]
 show aa (Tuple_ (Z8 (U _ c s M H _ I h) λus f vs E O r1 B=>?_));let#[v,w,S,B]:=B;subst S;obtain⟨g,k,rfl,rv,C⟩:∃ g k,us=[g,k]/\ZQ v g/\ZQ w k:=by
  cases r1 with
  | cons p q=>
   cases q with
   | cons p' q'=>
    cases q';show#[_,1,p,p']
 show wpAny_newObj_type ?_ (by change 2<=au;decide)
 let P:ZF X c M E { f with heap:=f.heap.push { cls:=.type "tuple",data:=.seq ⇑[g,k] } }:=O.kept (t':=f.toks) λb o e=>zL _ e;rw[hw];show aa (ad ?_);change aC (aB X.prog X.w) X.A (do rule "assign.swapped-stores";let items<-unpackItems (.ref f.heap.objs.size) 2 Y';assignInOrder [λv=>bindName X.env y v,λv=>bindName X.env x v] items.reverse;pure Flow.next) _ _ _
 show aa (aj (aa (unpackItems_tuple (items:=⇑[g,k]) (I.ok.hd V) (IsTup.new f.heap _) λT m=>?_)));let Q:=P.kept (h':=T) (t':=f.toks) λb o e=>m b o (yU (zJ e)) e;change aC _ _ (assignInOrder [λv=>bindName X.env y v,λv=>bindName X.env x v] [k,g] >>= λ_=>pure Flow.next) _ _ _;show aa (assignInOrder_cons (wpAny_bindName (N0 Q G Y (.inl K) C (λs2 R=>?_) (.inr K))));show assignInOrder_cons (wpAny_bindName (N0 R G W (.inl J) rv (λs3 F=>assignInOrder_nil (ad ?_)) (.inr J)));rw[List.set_comm _ _ (Ne.symm l)] at F;show#[_,E,F,B]
inductive Ju(i:Nat)(d:TE)(e:JA)(D:YX)(a:L2.St)(H:Hp):Prop
 |mk(x:_)(_:a[i]?\Z' x)(_:d a H λy b=>e x y b λz c=>D.nx (a.set i (Z' z)) c)
theorem Fu{i:Nat}{x:Str}{e:Expr}{B:TE}{o:Operator}{C:JA}{f:aJ}(O:X.N.Nodup)(t:X.N[i]?\x)(n:NU X.env.scope x)(Q:PE X e B)(V:E8 X o C)(R:X.fn x=V'\/X.env.scope.names.lookup x\.local:=by first | show .inl rfl | show .inr rfl | assumption):
  PS X (.AugAssign (.Name x f) o e pos) (Ju i B C):=by
 intro a s E H D I h;let#[v,M,h]:=h;let#[m,U,S]:=I.loc;let p:Ll X.env.scope x:=by rcases n with k | k;show .inl k;show .inr (.inl k)
 let#[u,r,l]:=S i x v t M p;show wpAny_AugAssign_Name ?_;let q:aC (aB X.prog X.w) X.A (aH e X.env) (λw g=>aC (aB X.prog X.w) X.A (inplaceOp o u w) (λr j=>aC (aB X.prog X.w) X.A (storeName X.env x r) (λ_=>SP X a D .next) X.xe j) X.xe g) X.xe s:=by
  show Z8 (Q a s E H _ I h) λw s1 y F J r1 W=>?_;show Z8 (V a s1 E F v y u w _ J r r1 W) λz s2 zv G K r2 Y=>?_;show N0 K O t n r2 (λs3 L=>#[_,G,L,Y]) R
 rcases l with ⟨b,T⟩ | ⟨b,c,P,d⟩
 .show wpAny_loadName_local I.ok.kind b U T q
 .rcases b with b | b
  .show wpAny_loadName_cell I.ok.kind b P d q
  .rcases n with k | k
   .have:X.env.scope.names.lookup x\.free:=b;erw[k] at this
   .have:X.env.scope.names.lookup x\.free:=b;erw[k] at this
def Av(f:Int->Int->Int):JA:=λx y H Q=>∃ i j,x=.int i/\y=.int j/\Q (.int (f i j)) H
theorem EG:E8 X .Add (Av λi j=>i+j):=by
 intro a s g H x y v u Q I d e h;let#[i,j,b,c,q]:=h;subst b;subst c;let#[t,rfl]:=d;let#[f,rfl]:=e;show iadd_int #[.int _,H,I.tok _,#[1],q]
inductive ND(c:TT)(h:TS)(D:YX)(a:L2.St)(H:Hp):Prop
 |mk(W:Nat->St->Hp->Prop)(_:∃ m,W m a H)(_:∀ m a H,W m a H->c a H λb f=>if b=V' then ∃ N:St->Hp->Prop,(∀ d e,N d e->∃ g,g<m/\W g d e)/\h { D with nx:=N,ct:=N,bk:=D.nx } a f else D.nx a f)
theorem LB{c:Expr}{g:jJ}{F:TT}{E:TS}(C:PassesOwn (aB X.prog X.w) X.A X.env X.xe)(K:PT X c F)(J:Xm X g E):PS X (.While c g [] pos) (ND F E):=by
 intro a s Q H D I h;let#[W,#[L,w0],j]:=h;show wpAny_While (codeAny_whileLoop (λn M=>∃ k u,ZF X a k u M/\W n k u) ?_ L #[Q,H,I,w0]);rintro n O ⟨e,x,G,w1⟩;show wpAny_passesOwn C (Z3 (K a O e x _ G (j n e x w1)) ?_);rintro b P ⟨y,z,l⟩
 cases b with
 | true=>
  let#[N,B,l]:=l;rw[aP rfl];show wpAny_passesOwn C (Z3 (J a P e y _ z l) λf R m=>?_)
  cases f with
  | next=>
   let#[d,i,o,r]:=m;let#[q,p,t]:=B d i r;show#[q,p,d,i,o,t]
  | cont=>
   let#[d,i,o,r]:=m;let#[q,p,t]:=B d i r;show#[q,p,d,i,o,t]
  | brk=>show m
  | ret v=>show m
 | false=>
  rwa[aO zR,wpAny_execs_nil #[e,y,z,l]]
end
structure It where
 go:Nat->Hp->Prop
 yld:Nat->Hp->V->Hp->Prop
 stop:Nat->Hp->Prop
def WW(X:Cx)(a:js)(H:Hp)(b:al):Prop:=
 H b=Y'/\b≠X.env.locals/\b∉X.fs/\(b∈X.ex\/X.s₀.heap.objs.size<=b)/\(∀ x c,X.env.cells.lookup x\c->c≠b)/\∀ p∈X.pn++a,p.1≠b
theorem ZF.fpOk{X:Cx}{a:js}{i:St}{H f:Hp}{s:am}{b:al}(I:ZF X a i H s)(d:s.heap.objs.size<=b)(g:f b=Y'):WW X a f b:=by
 show#[g,rY (yI I.lt d),I.nofs d,.inr (zK I.sz d),λx c e z=>?_,λp h z=>?_]
 .let#[v,q]:=I.cell x c e;show absurd (yI q.lt #v[z,d]) (xQ _)
 .show absurd (yI (zJ (I.pin p h).1) #v[z,d]) (xQ _)
structure Vn(P:ao)(w:ax)(K:zZ)(tg:Expr)(J:It)(fp:jv)(it:al)(tn:Nat->aE->Prop):Prop where
 mem:it∈fp
 obj:∀ i h,tn i h->∀ b∈fp,∃ o,h.get? b\o/\∀ v,o.data≠.cell v
 keep:∀ i h h',tn i h->(∀ b∈fp,∀ o,h.get? b\o->h'.get? b\o)->tn i h'
 item:∀(X:Cx),X.prog=P->X.w=w->X.K=K->X.calm=V'->∀(i:Nat)(jR:js)(s:am)(σ:St)(H:Hp)(E:ja),ZF X jR σ H s->(∀ b∈fp,WW X jR H b)->tn i s.heap->J.go i H ->
  aC (aB P w) X.A (pyNext (.ref it)) (λr s1=>∃ u,r=Z' u /\
   aC (aB P w) X.A (letOwnedTupleGo tg (.ref it) u) (λ_ s2=>∃ x H',ZF X jR σ H' s2/\ZQ x u/\J.yld i H x H'/\tn (i+1) s2.heap/\∀ b∈fp,H' b=Y') E s1) E s
 done:∀(X:Cx),X.prog=P->X.w=w->X.K=K->X.calm=V'->∀(i:Nat)(jR:js)(s:am)(σ:St)(H:Hp)(E:ja),ZF X jR σ H s->(∀ b∈fp,WW X jR H b)->tn i s.heap->J.stop i H ->
  aC (aB P w) X.A (pyNext (.ref it)) (λr s1=>r=Y'/\ZF X jR σ H s1) E s
 self:∀(A:ay)(i:Nat)(s:am)(Q:ja)(E:ja),tn i s.heap->Q (.ref it) s->aC (aB P w) A (pyIter (.ref it)) Q E s
abbrev TI:=St->Hp->(It->Hp->Prop)->Prop
def Ei(X:Cx)(a:js)(i:St)(h:Expr)(R:It->Hp->Prop)(d:ak)(g:am):Prop:=
 ∃(f:al)(e:jv)(tn:Nat->aE->Prop)(J:It)(c:Hp),d=.ref f/\ZF X a i c g/\Vn X.prog X.w X.K h J e f tn/\tn 0 g.heap/\(∀ b∈e,WW X a c b)/\R J c
def PI(X:Cx)(e b:Expr)(f:TI):Prop:=
 ∀(a:js)(s:am)(c:St)(H:Hp)(R:It->Hp->Prop),ZF X a c H s->f c H R ->
  aC (aB X.prog X.w) X.A (aH b X.env) (λv d=>aC (aB X.prog X.w) X.A (pyIter v) (Ei X a c e R) X.xe d) X.xe s
theorem Me{M:Model}{A:ay}{E:ja}{s:am}{c:Expr}{b:al}{u:ak}{o:aI}{n:String}{d:jw}{Q:Unit->am->Prop}(i:s.heap.get? b\o)(e:o.cls=.type n)(f:o.data=.fields d)(g:["enumerate","zip","dict_itemiterator","dict_reverseitemiterator","odict_iterator","itertools.zip_longest","itertools.pairwise"].contains n=false)(a:Q () s):aC M A (letOwnedTupleGo c (.ref b) u) Q E s:=by
 unfold letOwnedTupleGo;cases c <;> first
  | show ad a
  | (cases u <;> first
    | show ad a
    | (show aa (wpAny_load i ?_);rw[e,f];change aC M A (if (["enumerate","zip","dict_itemiterator","dict_reverseitemiterator","odict_iterator","itertools.zip_longest","itertools.pairwise"].contains n&&d[0]? == Z' (rawInt _))=V' then _ else _) Q E s;rwa[aO (by intro h;erw[g,vG] at h),ad a]))
def MQ(K:zZ)(a:al):It:=
 #[λi H=>∃ b x,ZH K H a b/\b[i]?\x,λi H x c=>c=H/\∀ b,ZH K H a b->b[i]?\x,λi H=>∃ b,ZH K H a b/\↑b<=i]
def E5(K:zZ)(a:al):It:=
 #[λi H=>∃ b x,Zd K H a b/\b[i]?\x,λi H x c=>c=H/\∀ b,Zd K H a b->b[i]?\x,λi H=>∃ b,Zd K H a b/\↑b<=i]
def O3(b:Int)(n:Nat):It:=#[λi _=>i<n,λi H x a=>a=H/\x=.int (b+i),λi _=>n<=i]
theorem mX{P:ao}{w:ax}{K:zZ}{tg:Expr}(a l:al):Vn P w K tg (MQ K a) [l] l (λi h=>h.IsListIter l a i) where
 mem:=by simp
 obj:=λi h f b j=>by
  let e:b=l:=by simpa using j
  subst e;let#[o,e,c,d]:=f;show#[o,e,λv z=>by erw[d] at z]
 keep:=λi h n f k=>f.at λo e=>k l ⋯ o e
 item:=by
  intro X F J D O i g s Q H E I q f G;subst F J D;let#[xs,x,r,L]:=G;let#[M,N,p,Y]:=I.list r;let#[u,U,ru]:=N.get L;let#[t,y,T,A,B,C]:=q l ⋯
  show wpAny_pyNext_list_item f p.isList (x:=u) (by simpa using U) λn m sb=>?_
  let R:ZF X g Q H { s with heap:=n }:=I.turned (t':=s.toks) (λb o j e=>(sb.2 b j).trans e) t y A B C;let#[o,e,c,d]:=id m;show#[u,Z,Me (s:={ s with heap:=n }) e c d (by decide) #[x,H,R,ru,#[Z,λys V=>#v[I.list_inj V r,L]],m,λb j=>(q b j).1]]
 done:=by
  intro X F J D O i g s Q H E I q f G;subst F J D;let#[xs,r,L]:=G;let#[M,N,p,Y]:=I.list r;let#[t,y,T,A,B,C]:=q l ⋯
  let hl:=↑N;show wpAny_pyNext_list_end (I.ok.hd O) f p.isList (by simp;lia) λn S=>#[Z,I.turned (t':=s.toks) (λb o j e=>S b o j e) t y A B C]
 self:=λ_ _ _ _ _ f h=>wpAny_pyIter_listiter f h
theorem mq{P:ao}{w:ax}{K:zZ}{tg:Expr}(a l:al):Vn P w K tg (E5 K a) [l] l (λi h=>h.IsTupleIter l a i) where
 mem:=by simp
 obj:=λi h f b j=>by
  let e:b=l:=by simpa using j
  subst e;let#[o,e,c,d]:=f;show#[o,e,λv z=>by erw[d] at z]
 keep:=λi h q f k=>f.at λo e=>k l ⋯ o e
 item:=by
  intro X G L F O i g s Q H E I r f J;subst G L F;let#[xs,x,t,M]:=J;let#[m,N,p,Y]:=I.tuple t;let#[u,U,ru]:=N.get M;let#[y,A,T,B,C,D]:=r l ⋯
  show wpAny_pyNext_tuple_item f (show s.heap.IsTuple a ⇑m from p) (x:=u) (by simpa using U) λq n sb=>?_
  let R:ZF X g Q H { s with heap:=q }:=I.turned (t':=s.toks) (λb o j e=>(sb.2 b j).trans e) y A B C D;let#[o,e,c,d]:=id n;show#[u,Z,Me (s:={ s with heap:=q }) e c d (by decide) #[x,H,R,ru,#[Z,λys V=>#v[I.tuple_inj V t,M]],n,λb j=>(r b j).1]]
 done:=by
  intro X G L F O i g s Q H E I r f J;subst G L F;let#[xs,t,M]:=J;let#[m,N,p,Y]:=I.tuple t;let#[y,A,T,B,C,D]:=r l ⋯
  let hl:=↑N;show wpAny_pyNext_tuple_end (I.ok.hd O) f (show s.heap.IsTuple a ⇑m from p) (by simp;lia) λq S=>#[Z,I.turned (t':=s.toks) (λb o j e=>S b o j e) y A B C D]
 self:=λ_ _ _ _ _ f h=>wpAny_pyIter_tupleiter f h
theorem mj{P:ao}{w:ax}{K:zZ}{Q:Expr}(c:al)(m:Int)(n:Nat):Vn P w K Q (O3 m n) [c] c (λi h=>IsRangeIter h c (m+(i:Nat) * 1) ((n:Int)-(i:Nat)) 1) where
 mem:=by simp
 obj:=λi h a b f=>by
  let e:b=c:=by simpa using f
  subst e;show#[_,a,λv z=>by
   let R:Data.fields _=Data.cell v:=z;cases R]
 keep:=λi h j a k=>k c ⋯ _ a
 item:=by
  intro X A D y B i d s G H E I l a C;subst A D y;let#[p,q,M,r,u,x]:=l c ⋯
  let W:=Walks.range (prog:=X.prog) (w:=X.w) (I.ok.hd B) c m 1 n;show W.item i s _ _ C a λv j F N g O=>?_;let#[t,rfl]:=N;let J:ZF X d G H { s with heap:=j,toks:=F }:=I.turned (λb o f e=>O b o (by simpa using f) e) p q r u x
  show#[1,Me (s:={ s with heap:=j,toks:=F }) (n:= "range_iterator") g Z Z (by decide) #[.int (m+i),H,J,#[t,?_],#[Z,Z],g,λb f=>(l b f).1]]
  rw[Int.mul_one]
 done:=by
  intro X A D y B i d s G H E I l a C;subst A D y;let#[p,q,M,r,u,x]:=l c ⋯
  show wpAny_pyNext_range_end (I.ok.hd B) a (by have:n<=i:=C;lia) λj L=>#[Z,I.turned (t':=s.toks) (λb o f e=>L b o f e) p q r u x]
 self:=λ_ _ _ _ _ a h=>wpAny_pyIter_rangeiter a h
section
variable{tg:Expr}
inductive Ng(K:zZ)(R:It->Hp->Prop)(x:V)(b:Hp):Prop
 |mk(a:_)(_:x=.ref a)(_:∃ c,ZH K b a c)(_:R (MQ K a) b)
def RP(K:zZ)(b:TE):TI:=λc H R=>b c H λx a=>Ng K R x a
inductive MZ(K:zZ)(R:It->Hp->Prop)(x:V)(b:Hp):Prop
 |mk(a:_)(_:x=.ref a)(_:∃ c,Zd K b a c)(_:R (E5 K a) b)
def So(K:zZ)(b:TE):TI:=λc H R=>b c H λx a=>MZ K R x a
theorem WQ{l:Expr}{g:TE}(k:PE X l g):PI X tg l (RP X.K g):=by
 intro c s u H R I h;show Z8 (k c s u H _ I h) λv f x i d t r=>?_;let#[a,e,#[z,m],q]:=r;subst e;cases t;let#[n,y,p,w]:=d.list m;show wpAny_pyIter_list p.isList ?_;show#[f.heap.objs.size,[f.heap.objs.size],_,_,i,Z,d.kept (t':=f.toks) λb o e=>zL _ e,mX a _,#[_,yO _ Z,Z,Z],λb j=>?_,q];let e:b=f.heap.objs.size:=by simpa using j
 subst e;show d.fpOk (zW _) (d.hok.fresh (zW _))
theorem Lr{l:Expr}{i:TE}(m:PE X l i):PI X tg l (So X.K i):=by
 intro c s u H R I h;show Z8 (m c s u H _ I h) λv d x j f t r=>?_;let#[a,e,#[z,n],q]:=r;subst e;cases t;let#[g,y,p,w]:=f.tuple n;show wpAny_pyIter_tuple (show d.heap.IsTuple a ⇑g from p) ?_;show#[d.heap.objs.size,[d.heap.objs.size],_,_,j,Z,f.kept (t':=d.toks) λb o e=>zL _ e,mq a _,#[_,yO _ Z,Z,Z],λb k=>?_,q];let e:b=d.heap.objs.size:=by simpa using k
 subst e;show f.fpOk (zW _) (f.hok.fresh (zW _))
theorem Ff{d:js}{h:St}{H:Hp}{s:am}{R:It->Hp->Prop}{E:ja}{a c:Int}{t u v:Tok}{g:Nat}(I:ZF X d h H s)(k : -(2 ^ 62)<=a)(l:a<2 ^ 62)(m : -(2 ^ 62)<=c)(n:c<2 ^ 62)(q:R (O3 a (c-a).toNat) H):aC (aB X.prog X.w) X.A (pyIter (.ref s.heap.objs.size)) (Ei X d h tg R) E { s with heap:=s.heap.push { cls:=.type "range",data:=.fields ⇑[.int a t,.int c u,.int 1 v] },toks:=g }:=by
 show wpAny_pyIter_range (IsRange.new ..) (small_one k l m n) ?_;let f:ZF X d h H { s with heap:=s.heap.push { cls:=.type "range",data:=.fields ⇑[.int a t,.int c u,.int 1 v] },toks:=g }:=I.kept λb o e=>zL _ e;show#[(s.heap.push { cls:=.type "range",data:=.fields ⇑[.int a t,.int c u,.int 1 v] }).objs.size,[(s.heap.push { cls:=.type "range",data:=.fields ⇑[.int a t,.int c u,.int 1 v] }).objs.size],_,_,H,Z,
  f.kept (t':=g) λb o e=>zL _ e,mj _ a (c-a).toNat,?_,λb p=>?_,q]
 .let i:a+((0:Nat):Int) * 1=a:=by simp
  let j:(((c-a).toNat:Nat):Int)-((0:Nat):Int)=Builtin.Range.rangeSize a c 1:=by rw[rangeSize_one];split <;> lia
  change IsRangeIter _ _ (a+((0:Nat):Int) * 1) ((((c-a).toNat:Nat):Int)-((0:Nat):Int)) 1;rwa[i,j,yO _ Z]
 .let e:b=(s.heap.push { cls:=.type "range",data:=.fields ⇑[.int a t,.int c u,.int 1 v] }).objs.size:=by simpa using p
  subst e;show f.fpOk (zW _) (f.hok.fresh (zW _))
inductive Nf(R:It->Hp->Prop)(b:je)(a:Hp):Prop
 |mk(j:Int)(_:b=[.int j])(_ : -(2 ^ 62)<=j)(_:j<2 ^ 62)(_:R (O3 0 j.toNat) a)
def RZ(b:TA):TI:=λd H R=>b d H λc a=>Nf R c a
inductive NB(R:It->Hp->Prop)(b:je)(a:Hp):Prop
 |mk(i j:Int)(_:b=[.int i,.int j])(_ : -(2 ^ 62)<=i/\i<2 ^ 62 /\ -(2 ^ 62)<=j/\j<2 ^ 62)(_:R (O3 i (j-i).toNat) a)
def RW(b:TA):TI:=λd H R=>b d H λc a=>NB R c a
theorem QO{a:Expr}{f:TA}{p c:aJ}(k:Gl X "range")(l:X.mg "range" = Y')(i:PA X [a] f)(m:aw [a] X.env=[(false,aH a X.env)]:=by rfl):PI X tg (.Call (.Name "range" p) [a] [] c) (RZ f):=by
 intro b s v H R I h;show Call_ (NA I k l boot_range (PyProof.Rows.callWith_type1 (Z8 (i c b s v H _ I h) λy x z w g o d=>?_) m Z));let#[j,e,d,n,q]:=d;subst e
 cases o with
 | cons r u=>
  cases u;let#[t,rfl]:=r;show call_range_1 (Ff g ∅ ∅ d n (by simpa using q))
theorem KW{a b:Expr}{l:TA}{p f:aJ}(o:Gl X "range")(u:X.mg "range" = Y')(n:PA X [a,b] l)(v:aw [a,b] X.env=[(false,aH a X.env),(false,aH b X.env)]:=by rfl)(c:aw [b] X.env=[(false,aH b X.env)]:=by rfl):
  PI X tg (.Call (.Name "range" p) [a,b] [] f) (RW l):=by
 intro d s B H R I h;show Call_ (NA I o u boot_range (PyProof.Rows.callWith_type1 (Z8 (n f d s B H _ I h) λF D G C m A g=>?_) (by rw[v,c]) (by rw[c];rfl)))
 let#[i,j,e,#[g,w,x,y],q]:=g;subst e
 cases A with
 | cons r k=>
  cases k with
  | cons z k=>
   cases k;let#[t,rfl]:=r;let#[E,rfl]:=z;show call_range_2 (Ff m g w x y q)
def Sh(k:TI)(g:TG)(j:TS):TS:=λD a H=>k a H λJ f=>∃ W:Nat->Nat->St->Hp->Prop,(∃ m,W 0 m a f)/\∀ i m a H,W i m a H ->
 (J.stop i H/\D.nx a H)\/(J.go i H/\∃ N:St->Hp->Prop,(∀ c b,N c b->∃ e,e<m/\W (i+1) e c b)/\∀ x b,J.yld i H x b->g x a b λd h=>j { D with nx:=N,ct:=N,bk:=D.nx } d h)
def MM(a:jv)(h:aE):js:=a.filterMap λb=>(h.get? b).map λo=>(b,o)
theorem MO{a:jv}{h:aE}{b:al}{o:aI}(c:b∈a)(e:h.get? b\o):(b,o)∈MM a h:=vY.mpr #[b,c,by rw[e];rfl]
theorem nu{a:jv}{h:aE}{p:al×aI}(f:p∈MM a h):p.1∈a/\h.get? p.1\p.2:=by
 let#[b,d,e]:=vY.mp f
 cases q:h.get? b with
 | none=>erw[q] at e
 | some o=>
  rw[q] at e;let c:(b,o)=p:=yP.inj e;subst c;show#[d,q]
theorem ZF.pinned{a:js}{h:St}{H:Hp}{s:am}{c:jv}(I:ZF X a h H s)(l:∀ b∈c,WW X a H b)(m:∀ b∈c,∃ o,s.heap.get? b\o/\∀ v,o.data≠.cell v):ZF X (a++MM c s.heap) h H s:=
 I.pins_of λp n=>(yY.mp n).elim (λz=>I.pin p (yB _ z)) λz=>by
  let#[g,e]:=nu z;let#[i,j,k,_]:=l p.1 g;let#[o,f,d]:=m p.1 g;erw[e] at f;show#[e,i,j,k,d]
theorem ZF.unpinned{a d:js}{b:St}{H:Hp}{s:am}(I:ZF X (a++d) b H s):ZF X a b H s:=I.pins_of λp c=>I.pin p (yB _ (xO _ c))
theorem WZ{q:Expr}{C:jJ}{wi:TI}{g:TG}{tb:TS}{Y:aJ}(L:PassesOwn (aB X.prog X.w) X.A X.env X.xe)(hc:X.calm=V')(hi:PI X tg q wi)(hg:PG X tg g)(p:Xm X C tb)(hs:∀ x,foldedSetIterable q X.env x=pure x:=by intro _;rfl):PS X (.For tg q C [] Y) (Sh wi g tb):=by
 intro a s σ H D I h;show wpAny_For (Z3 (hi a s σ H _ I h) λv s1 h1=>Z3 h1 λa2 s2 h2=>?_) hs;let#[it,G,tn,J,H2,e,I2,T,a0,f2,W,#[m0,w0],Q]:=h2;subst e;let t:∀{B:Hp},(∀ b∈G,B b=Y')->∀ b∈G,WW X a B b:=λhn b p=>#[hn b p,(f2 b p).2];show codeAny_forLoop_any (λn s'=>∃ i y B,ZF X a y B s'/\tn i s'.heap/\(∀ b∈G,B b=Y')/\W i n y B) ?_ m0 #[(0),σ,H2,I2,a0,λb p=>(f2 b p).1,w0];rintro n s3 ⟨i,z,R,I3,O,K,w3⟩;rcases Q i n z R w3 with ⟨P,qn⟩ | ⟨go,N,hN,step⟩
 .show wpAny_passesOwn L (Z3 (T.done X Z Z Z hc i a s3 z R X.xe I3 (t K) O P) ?_);rintro r s4 ⟨V,I4⟩;subst V;show wpAny_execs_nil #[z,R,I4,qn]
 .show wpAny_passesOwn L (Z3 (T.item X Z Z Z hc i a s3 z R X.xe I3 (t K) O go) ?_);rintro r s4 ⟨u,V,h4⟩;subst V;show wpAny_passesOwn L (Z3 h4 ?_);rintro _ s5 ⟨x,H5,I5,r5,y5,F,U⟩;let S:=I5.pinned (t U) (T.obj _ _ F);show wpAny_passesOwn L (Z3 (hg _ s5 z H5 x u _ S r5 (step x H5 y5)) ?_);rintro _ s6 ⟨a1,H6,I6,q6⟩;show wpAny_passesOwn L (Z3 (p _ s6 a1 H6 _ I6 q6) λf s7 E=>?_);let l:∀{c:St}{j:Hp},ZF X (a++MM G s5.heap) c j s7->N c j->∃ m,m<n/\∃ i y B,ZF X a y B s7/\tn i s7.heap/\(∀ b∈G,B b=Y')/\W i m y B:=fun{c j} k M=>by
   let#[m',hm,w7]:=hN c j M;show#[m',hm,i+1,c,j,k.unpinned,T.keep _ _ _ F λb p o e=>(k.pin (b,o) (yB _ (yB _ (MO p e)))).1,λb p=>?_,w7];let#[o,e,d]:=T.obj _ _ F b p;show(k.pin (b,o) (yB _ (yB _ (MO p e)))).2.1
  cases f with
  | next=>let#[c,j,k,M]:=E;show l k M
  | cont=>let#[c,j,k,M]:=E;show l k M
  | brk=>let#[c,j,k,E]:=E;show#[c,j,k.unpinned,E]
  | ret v=>let#[x7,c,j,k,r7,E]:=E;show#[x7,c,j,k.unpinned,r7,E]
end
theorem UZ{K:zZ}{a:al}{xs:je}{g:TG}{n:TS}{D:YX}{b:St}{H:Hp}(c:Nat->St->Hp->Prop)(o:c 0 b H)(t:∀ i b H,i<=↑xs->c i b H->ZH K H a xs)(u:∀ i x b H,xs[i]?\x->c i b H->g x b H λh k=>n { D with nx:=c (i+1),ct:=c (i+1),bk:=D.nx } h k)(r:∀ b H,c ↑xs b H->D.nx b H):
  ∃ W:Nat->Nat->St->Hp->Prop,(∃ m,W 0 m b H)/\∀ i m b H,W i m b H ->
   ((MQ K a).stop i H/\D.nx b H)\/((MQ K a).go i H/\∃ N:St->Hp->Prop,(∀ f d,N f d->∃ l,l<m/\W (i+1) l f d)/\∀ x d,(MQ K a).yld i H x d->g x b d λh k=>n { D with nx:=N,ct:=N,bk:=D.nx } h k):=by
 exists λi m b H=>m=↑xs-i/\i<=↑xs/\c i b H,#[↑xs,by simp,yQ _,o]
 rintro i m b H ⟨rfl,s,p⟩;let q:=t i b H s p;by_cases j:i<↑xs
 .show .inr #[#[xs,xs[i],q,by simp[j]],c (i+1),λf d v=>#[↑xs-(i+1),by show qX ‹_› (wR _),Z,j,v],λx d y=>?_]
  let#[e,y]:=y;subst e;show u i x b _ (y xs q) p
 .let e:i=↑xs:=∅
  subst e;show .inl #[#[xs,q,zW _],r b H p]
theorem Pk{lo:Int}{n:Nat}{g:TG}{l:TS}{D:YX}{a:St}{H:Hp}(c:Nat->St->Hp->Prop)(o:c 0 a H)(r:∀ i a H,i<n->c i a H->g (.int (lo+i)) a H λh j=>l { D with nx:=c (i+1),ct:=c (i+1),bk:=D.nx } h j)(q:∀ a H,c n a H->D.nx a H):
  ∃ W:Nat->Nat->St->Hp->Prop,(∃ m,W 0 m a H)/\∀ i m a H,W i m a H ->
   ((O3 lo n).stop i H/\D.nx a H)\/((O3 lo n).go i H/\∃ N:St->Hp->Prop,(∀ f b,N f b->∃ k,k<m/\W (i+1) k f b)/\∀ x b,(O3 lo n).yld i H x b->g x a b λh j=>l { D with nx:=N,ct:=N,bk:=D.nx } h j):=by
 exists λi m a H=>m=n-i/\i<=n/\c i a H,#[n,by simp,yQ _,o]
 rintro i m a H ⟨rfl,t,p⟩;by_cases d:i<n
 .show .inr #[d,c (i+1),λf b s=>#[n-(i+1),by show qX ‹_› (wR _),Z,d,s],λx b y=>?_]
  let#[e,y]:=y;subst e y;show r i a _ d p
 .let e:i=n:=∅
  subst e;show .inl #[zW _,q a H p]
abbrev R2:=V->V->Hp->VK->Prop
def XS(X:Cx)(f:ak->ak->Sem ak)(r:R2):Prop:=
 ∀(a:js)(s:am)(b:St)(H:Hp)(x y:V)(v u:ak)(Q:VK),ZF X a b H s->ZQ x v->ZQ y u->r x y H Q ->
  aC (aB X.prog X.w) X.A (f v u) (EP X a b Q) X.xe s
def HU(X:Cx)(f:ak->Sem ak)(r:V->Hp->VK->Prop):Prop:=
 ∀(a:js)(s:am)(b:St)(H:Hp)(x:V)(v:ak)(Q:VK),ZF X a b H s->ZQ x v->r x H Q ->
  aC (aB X.prog X.w) X.A (f v) (EP X a b Q) X.xe s
def V7(X:Cx)(f:ak)(r:je->Hp->VK->Prop):Prop:=
 ∀(a:js)(s:am)(d:St)(H:Hp)(c:je)(b:jd)(Q:VK),ZF X a d H s->ZN c b->r c H Q ->
  aC (aB X.prog X.w) X.A (call f b) (EP X a d Q) X.xe s
def Sw(X:Cx)(r:V->Hp->(Bool->Hp->Prop)->Prop):Prop:=
 ∀(a:js)(s:am)(b:St)(H:Hp)(x:V)(v:ak)(Q:Bool->Hp->Prop),ZF X a b H s->ZQ x v->r x H Q ->
  aC (aB X.prog X.w) X.A (truthy v) (TP X a b Q) X.xe s
def VI(r:R2)(d e:TE):TE:=λa H Q=>d a H λx b=>e a b λy c=>r x y c Q
def SX(r:V->Hp->VK->Prop)(b:TE):TE:=λc H Q=>b c H λx a=>r x a Q
inductive rI(C:Int->Int->Prop)(g:Int->Int->V)(x y:V)(H:Hp)(Q:VK):Prop
 |mk(i j:_)(_:x=.int i)(_:y=.int j)(_:C i j)(_:Q (g i j) H)
inductive Op(g:Int->Int->V)(x y:V)(H:Hp)(Q:VK):Prop
 |mk(i j:_)(_:x=.int i)(_:y=.int j)(_:Q (g i j) H)
inductive rU(g:Int->V)(x:V)(H:Hp)(Q:VK):Prop
 |mk(i:_)(_:x=.int i)(_:Q (g i) H)
section
variable{a b c:Expr}{ta tb tc:TE}{pos:aJ}
theorem Gf(o:PE X a ta)(p:PE X b tb){d:js}{s:am}{g:St}{H:Hp}{R:V->V->Hp->Prop}(I:ZF X d g H s)(h:ta g H λx l=>tb g l λy e=>R x y e){Q:ja}{f:ak->ak->Sem ak}(q:∀ v u k x y e,ZF X d g e k->ZQ x v->ZQ y u->R x y e->aC (aB X.prog X.w) X.A (f v u) Q X.xe k):
  aC (aB X.prog X.w) X.A (aH a X.env) (λv i=>aC (aB X.prog X.w) X.A (aH b X.env) (λu j=>aC (aB X.prog X.w) X.A (f v u) Q X.xe j) X.xe i) X.xe s:=by
 show Z8 (o d s g H _ I h) λv C x l m z r=>?_;show Z8 (p d C g l _ m r) λu k y e n B t=>?_;show q v u k x y e n z B t
theorem ZW{e:Operator}{r:R2}(k:XS X (binaryOp e) r)(i:PE X a ta)(j:PE X b tb):PE X (.BinOp a e b pos) (VI r ta tb):=by
 intro d s o H Q I h;show wpAny_BinOp (Gf i j I h λv u n x y f g l m q=>k d n o f x y v u Q g l m q)
theorem Pw{e:UnaryOp}{r:V->Hp->VK->Prop}(k:HU X (unaryOp e) r)(j:PE X a ta):PE X (.UnaryOp e a pos) (SX r ta):=by
 intro d s f H Q I h;show UnaryOp_ (Z8 (j d s f H _ I h) λv n x g i m l=>k d n f g x v Q i m l)
theorem Mi{f:ak->ak->Sem ak}{C:Int->Int->Prop}{g:Int->Int->Int}(d:∀ (i j:Int) (t u:Tok) (s:am) (Q:ja) (E:ja),C i j->Q (.int (g i j) s.toks) { s with toks:=s.toks+1 }->aC (aB X.prog X.w) X.A (f (.int i t) (.int j u)) Q E s):
  XS X f (rI C λi j=>.int (g i j)):=by
 intro e s o H x y v u Q I l m h;let#[i,j,rfl,rfl,k,q]:=h;let#[t,rfl]:=l;let#[n,rfl]:=m;show d i j t n s _ _ k #[.int (g i j),H,I.tok _,#[1],q]
theorem Cw{f:ak->ak->Sem ak}{g:Int->Int->Int}(d:∀ (i j:Int) (t u:Tok) (s:am) (Q:ja) (E:ja),Q (.int (g i j) s.toks) { s with toks:=s.toks+1 }->aC (aB X.prog X.w) X.A (f (.int i t) (.int j u)) Q E s):
  XS X f (Op λi j=>.int (g i j)):=by
 intro e s n H x y v u Q I k l h;let#[i,j,rfl,rfl,q]:=h;let#[t,rfl]:=k;let#[m,rfl]:=l;show d i j t m s _ _ #[.int (g i j),H,I.tok _,#[1],q]
theorem Lp{f:ak->ak->Sem ak}{g:Int->Int->Bool}(d:∀ (i j:Int) (t u:Tok) (s:am) (Q:ja) (E:ja),Q (.bool (g i j)) s->aC (aB X.prog X.w) X.A (f (.int i t) (.int j u)) Q E s):
  XS X f (Op λi j=>.bl (g i j)):=by
 intro e s n H x y v u Q I k l h;let#[i,j,rfl,rfl,q]:=h;let#[t,rfl]:=k;let#[m,rfl]:=l;show d i j t m s _ _ #[.bl (g i j),H,I,Z,q]
def Sr(i j:Int):Prop:=0<j/\j<1073741824
def Sy(i j:Int):Prop:=0<=j/\j<=1000000/\i.natAbs<2 ^ 64
def P8(i j:Int):Prop:=(-(2 ^ 64)<i/\i<2 ^ 64)\/(-(2 ^ 64)<j/\j<2 ^ 64)
theorem P8.ok{i j:Int}(h:P8 i j):IntMulOk i j:=by
 rcases h with ⟨d,e⟩ | ⟨d,e⟩
 .show .of_left (intBits_le_64 d e)
 .show .of_right (intBits_le_64 d e)
theorem Yo:XS X (binaryOp .Add) (Op λi j=>.int (i+j)):=Cw λ_ _ _ _ _ _ _ q=>add_int q
theorem Ui:XS X (binaryOp .Sub) (Op λi j=>.int (i-j)):=Cw λ_ _ _ _ _ _ _ q=>sub_int q
theorem NZ:XS X (binaryOp .Mult) (rI P8 λi j=>.int (i * j)):=Mi λ_ _ _ _ _ _ _ d q=>mul_int q d.ok
theorem HG:XS X (binaryOp .FloorDiv) (rI Sr λi j=>.int (i / j)):=Mi λi j _ _ _ _ _ d q=>by
 let e:(0:Int)<j:=d.1;let f:j<1073741824:=d.2;show floordiv_int ∅ #v[zEO i ∅,q] (.inl (PyProof.noPylong_small ∅))
theorem OR:XS X (binaryOp .Mod) (rI (λ_ j=>0<j) λi j=>.int (i % j)):=Mi λi j _ _ _ _ _ d q=>by
 show mod_int' ∅ #v[Int.fmod_eq_emod_of_nonneg i ∅,q]
theorem Kj:XS X (binaryOp .Pow) (rI Sy λi j=>.int (i ^ j.toNat)):=Mi λ_ _ _ _ _ _ _ d q=>pow_int_small d.1 d.2.1 d.2.2 q
theorem SY{f:ak->Sem ak}{g:Int->Int}(d:∀ (i:Int) (t:Tok) (s:am) (Q:ja) (E:ja),Q (.int (g i) s.toks) { s with toks:=s.toks+1 }->aC (aB X.prog X.w) X.A (f (.int i t)) Q E s):
  HU X f (rU λi=>.int (g i)):=by
 intro e s k H x v Q I j h;let#[i,rfl,q]:=h;let#[t,rfl]:=j;show d i t s _ _ #[.int (g i),H,I.tok _,#[1],q]
theorem OD:HU X (unaryOp .USub) (rU λi=>.int (-i)):=SY λ_ _ _ _ _ q=>neg_int q
end
def D9:V->V->Bool
 | .non,.non=>true | .non,.int _=>true | .int _,.non=>true | .non,.bl _=>true | .bl _,.non=>true | .non,.str _=>true | .str _,.non=>true
 | .int _,.int _=>true | .bl _,.bl _=>true | .str _,.str _=>true | .byt _,.byt _=>true
 | .int _,.str _=>true | .str _,.int _=>true | .bl _,.str _=>true | .str _,.bl _=>true
 | _,_=>false
def SR:R2:=λx y H Q=>D9 x y=V'/\Q (.bl (decide (x=y))) H
def SU:R2:=λx y H Q=>D9 x y=V'/\Q (.bl (!decide (x=y))) H
theorem AK{i j:Int}:decide (V.int i=V.int j)=(i==j):=by
 rw[wL];simp
theorem Bi{i j:Bool}:decide (V.bl i=V.bl j)=(i==j):=by
 rw[wL];simp
theorem Gx{i j:Str}:decide (V.str i=V.str j)=(i==j):=by
 rw[wL];simp
theorem Ex{i j:Array UInt8}:decide (V.byt i=V.byt j)=(i.toList==j.toList):=by
 rw[wL];cases i;cases j;simp
section
variable{a b c:Expr}{ta tb tc:TE}{pos:aJ}
theorem Y8{d:js}{g:St}{H:Hp}{s:am}{Q:VK}{k f:Bool}(I:ZF X d g H s)(q:Q (.bl k) H)(e:k=f):EP X d g Q (.bool f) s:=by
 subst e;show#[.bl k,H,I,Z,q]
theorem Y4:XS X (aA .Eq) SR:=by
 intro k s l H x y v u Q I g d h;let#[f,q]:=h
 cases x with
 | non=>
  cases g
  cases y with
  | non=>cases d;show PySem.EqNone.eq_none_none (Y8 I q ⋯)
  | bl j=>cases d;show PySem.EqNone.eq_none_bool (Y8 I q ⋯)
  | int j=>let#[e,rfl]:=d;show PySem.EqNone.eq_none_int (Y8 I q ⋯)
  | str j=>let#[e,rfl]:=d;show PySem.EqNone.eq_none_str (Y8 I q ⋯)
  | _=>show absurd (show false=V' from f) zR
 | bl i=>
  cases g
  cases y with
  | non=>cases d;show PySem.EqNone.eq_bool_none (Y8 I q ⋯)
  | bl j=>cases d;show eq_bool (Y8 I q Bi)
  | str j=>let#[e,rfl]:=d;show PySem.EqMixed.eq_bool_str (Y8 I q ⋯)
  | _=>show absurd (show false=V' from f) zR
 | int i=>
  let#[t,rfl]:=g
  cases y with
  | non=>cases d;show PySem.EqNone.eq_int_none (Y8 I q ⋯)
  | int j=>let#[e,rfl]:=d;show eq_int (Y8 I q AK)
  | str j=>let#[e,rfl]:=d;show PySem.EqMixed.eq_int_str (Y8 I q ⋯)
  | _=>show absurd (show false=V' from f) zR
 | str i=>
  let#[t,rfl]:=g
  cases y with
  | non=>cases d;show PySem.EqNone.eq_str_none (Y8 I q ⋯)
  | bl j=>cases d;show PySem.EqMixed.eq_str_bool (Y8 I q ⋯)
  | int j=>let#[e,rfl]:=d;show PySem.EqMixed.eq_str_int (Y8 I q ⋯)
  | str j=>let#[e,rfl]:=d;show eq_str (Y8 I q Gx)
  | _=>show absurd (show false=V' from f) zR
 | byt i=>
  let#[t,rfl]:=g
  cases y with
  | byt j=>let#[e,rfl]:=d;show PySem.W.eq_bytes (Y8 I q Ex)
  | _=>show absurd (show false=V' from f) zR
 | _=>cases y <;> show absurd (show false=V' from f) zR
theorem NW:XS X (aA .NotEq) SU:=by
 intro k s l H x y v u Q I g d h;let#[f,q]:=h
 cases x with
 | non=>
  cases g
  cases y with
  | non=>cases d;show PySem.EqNone.ne_none_none (Y8 I q ⋯)
  | bl j=>cases d;show PySem.EqNone.ne_none_bool (Y8 I q ⋯)
  | int j=>let#[e,rfl]:=d;show PySem.EqNone.ne_none_int (Y8 I q ⋯)
  | str j=>let#[e,rfl]:=d;show PySem.EqNone.ne_none_str (Y8 I q ⋯)
  | _=>show absurd (show false=V' from f) zR
 | bl i=>
  cases g
  cases y with
  | non=>cases d;show PySem.EqNone.ne_bool_none (Y8 I q ⋯)
  | bl j=>cases d;show ne_bool (Y8 I q (congrArg not Bi))
  | str j=>let#[e,rfl]:=d;show PySem.EqMixed.ne_bool_str (Y8 I q ⋯)
  | _=>show absurd (show false=V' from f) zR
 | int i=>
  let#[t,rfl]:=g
  cases y with
  | non=>cases d;show PySem.EqNone.ne_int_none (Y8 I q ⋯)
  | int j=>let#[e,rfl]:=d;show ne_int (Y8 I q (congrArg not AK))
  | str j=>let#[e,rfl]:=d;show PySem.EqMixed.ne_int_str (Y8 I q ⋯)
  | _=>show absurd (show false=V' from f) zR
 | str i=>
  let#[t,rfl]:=g
  cases y with
  | non=>cases d;show PySem.EqNone.ne_str_none (Y8 I q ⋯)
  | bl j=>cases d;show PySem.EqMixed.ne_str_bool (Y8 I q ⋯)
  | int j=>let#[e,rfl]:=d;show PySem.EqMixed.ne_str_int (Y8 I q ⋯)
  | str j=>let#[e,rfl]:=d;show ne_str (Y8 I q (congrArg not Gx))
  | _=>show absurd (show false=V' from f) zR
 | byt i=>
  let#[t,rfl]:=g
  cases y with
  | byt j=>let#[e,rfl]:=d;show PySem.W.ne_bytes (Y8 I q (congrArg not Ex))
  | _=>show absurd (show false=V' from f) zR
 | _=>cases y <;> show absurd (show false=V' from f) zR
theorem OA:XS X (aA .Lt) (Op λi j=>.bl (decide (i<j))):=Lp λ_ _ _ _ _ _ _ q=>lt_int q
theorem Qf:XS X (aA .LtE) (Op λi j=>.bl (decide (i<=j))):=Lp λ_ _ _ _ _ _ _ q=>le_int q
theorem Pi:XS X (aA .Gt) (Op λi j=>.bl (decide (j<i))):=Lp λ_ _ _ _ _ _ _ q=>gt_int q
theorem zd:XS X (aA .GtE) (Op λi j=>.bl (decide (j<=i))):=Lp λ_ _ _ _ _ _ _ q=>ge_int q
theorem Zz(b:Expr){d:CmpOp}(h:d≠.In:=by decide)(g:d≠.NotIn:=by decide):behindInMarks d b=false:=by
 let e:(d==CmpOp.In)=false:=by cases d <;> first | rfl | show absurd rfl h
 let f:(d==CmpOp.NotIn)=false:=by cases d <;> first | rfl | show absurd rfl g
 cases b <;> simp[behindInMarks,e,f]
theorem Pm{e:CmpOp}{r:R2}(l:XS X (aA e) r)(i:PE X a ta)(j:PE X b tb)(k:behindInMarks e b=false):PE X (.Compare a [e] [b] pos) (VI r ta tb):=by
 intro d s p H Q I h;show wpAny_Compare1 (Gf i j I h λv u o x y f g m n q=>l d o p f x y v u Q g m n q) k
inductive O5(Q:Bool->Hp->Prop)(x:V)(d:Hp):Prop
 |mk(k:_)(_:x=.bl k)(_:Q k d)
def Bp(t:TE):TT:=λe H Q=>t e H λx d=>O5 Q x d
theorem Z6{f:CmpOp}{r:R2}(w:XS X (aA f) r)(p:PE X a ta)(q:PE X b tb)(t:behindInMarks f b=false):PT X (.Compare a [f] [b] pos) (Bp (VI r ta tb)):=by
 intro d s g H Q I h;show wpAny_isTrue_Compare1 (Z8 (p d s g H _ I h) λv G x i m D A=>Z8 (q d G g i _ m A) λu J y j n E B=>
  Z3 (w d J g j x y v u _ n D E B) λc K ⟨z,l,o,F,k,e,C⟩=>?_) t
 subst e;cases F;show wpAny_truthy_bool #[l,o,C]
inductive OB(f:R2)(tc:TE)(h:L2.St)(Q:VK)(y z:V)(d:Hp):Prop
 |mk(k:_)(_:z=.bl k)(_:if k=V' then tc h d λg e=>f y g e Q else Q (.bl false) d)
def Bx(r h:R2)(ta tb tc:TE):TE:=λd H Q=>ta d H λx e=>tb d e λy f=>r x y f λz g=>OB h tc d Q y z g
theorem Ht{l g:CmpOp}{r p:R2}(K:XS X (aA l) r)(j:XS X (aA g) p)(E:PE X a ta)(F:PE X b tb)(G:PE X c tc)(J:lastMarks [l,g] [b,c]=false:=by with_unfolding_all rfl):PE X (.Compare a [l,g] [b,c] pos) (Bx r p ta tb tc):=by
 intro f s i H Q I h;show Compare_chain (Z8 (E f s i H _ I h) λv S x t B O L=>chain_link (Z8 (F f S i t _ B L) λu T y w C q M=>
  Z3 (K f T i w x y v u _ C O q M) λd U ⟨z,m,n,P,k,e,o⟩=>?_)) J
 subst e;cases P;show wpAny_truthy_bool ?_
 cases k with
 | false=>show ite_ff #[.bl false,m,n,Z,o]
 | true=>show ite_tt (chain_last (Z8 (G f U i m _ n o) λW V Y A D R N=>j f V i A y Y u W Q D q R N))
theorem Ke{l g:CmpOp}{r p:R2}(O:XS X (aA l) r)(j:XS X (aA g) p)(K:PE X a ta)(L:PE X b tb)(M:PE X c tc)(N:lastMarks [l,g] [b,c]=false:=by with_unfolding_all rfl):PT X (.Compare a [l,g] [b,c] pos) (Bp (Bx r p ta tb tc)):=by
 intro f s i H Q I h;show isTrue_chain (Z8 (K f s i H _ I h) λv s1 x t C V R=>test_link (Z8 (L f s1 i t _ C R) λu s2 y w D q S=>
  Z3 (O f s2 i w x y v u _ D V q S) λd s3 ⟨z,m,n,W,k,e,o⟩=>?_)) N
 subst e;cases W;show wpAny_truthy_bool ?_
 cases k with
 | false=>
  let#[k',G,P]:=o;cases G;show ite_ff #[m,n,P]
 | true=>
  show ite_tt (test_last (Z8 (M f s3 i m _ n o) λw' s4 z' A E Y T=>Z3 (j f s4 i A y z' u w' _ E q Y T) λd' s5 ⟨z2,B,F,r5,k2,J,U⟩=>?_));subst J;cases r5;show wpAny_truthy_bool #[B,F,U]
def B8(K:zZ)(x:V)(H:Hp)(k:Bool):Prop:=
 match x with
 | .non=>k=false
 | .bl b=>k=b
 | .int i=>k=(i != 0)
 | .str y=>↑y<=au/\k=((↑y:Int) != 0)
 | .byt y=>y.size<=au/\k=((y.size:Int) != 0)
 | .ref p=>(∃ e,ZH K H p e/\k = !e.isEmpty)\/(∃ e,Zd K H p e/\k = !e.isEmpty)\/∃ d,H p\.dK d/\k = !d.isEmpty
 | _=>False
theorem lD{f:Type}{d:List (f×V)}{e:List (f×ak)}(r:KV d e):(!e.isEmpty) = !d.isEmpty:=by
 cases r <;> rfl
theorem EJ{e:je}{d:jd}(r:ZN e d):(!d.toArray.isEmpty) = !e.isEmpty:=by
 cases r <;> simp
theorem O6:(au:Nat)<2 ^ 63:=by rw[sizeLine_eq];decide
theorem yo:Sw X (λx H Q=>∃ k,B8 X.K x H k/\Q k H):=by
 intro B s F H x v Q I l h;let#[k,e,q]:=h;let E:au=16777216:=sizeLine_eq
 cases x with
 | non=>
  cases l;let d:k=false:=e;subst d;show truthy_none #[H,I,q]
 | bl b=>
  cases l;let d:k=b:=e;subst d;show wpAny_truthy_bool #[H,I,q]
 | int i=>
  let#[t,rfl]:=l;let d:k=(i != 0):=e;subst d;show PySem.P.truthy_int #[H,I,q]
 | str y=>
  let#[t,rfl]:=l;obtain⟨D,d⟩:↑y<=au/\k=((↑y:Int) != 0):=e;subst d;show PySem.P.truthy_str ∅ #[H,I.tok _,q]
 | byt y=>
  let#[t,rfl]:=l;obtain⟨D,d⟩:y.size<=au/\k=((y.size:Int) != 0):=e;subst d;show PySem.W.truthy_bytes ∅ #[H,I.tok _,q]
 | ref p=>
  cases l;let d:(∃ j,ZH X.K H p j/\k = !j.isEmpty)\/(∃ j,Zd X.K H p j/\k = !j.isEmpty)\/∃ f,H p\.dK f/\k = !f.isEmpty:=e;rcases d with ⟨j,n,d⟩ | ⟨j,n,d⟩ | ⟨f,n,d⟩
  .subst d;let#[u,r,z,A]:=I.list n;let g:=↑r;show wpAny_truthy_list z.isList (by simp only[zB];lia) #[H,I.tok _,#v[EJ r,q]]
  .subst d;let#[u,r,z,A]:=I.tuple n;let g:=↑r;show truthy_tuple z (by simp only[zB];lia) #[H,I.tok _,#v[EJ r,q]]
  .subst d;obtain⟨A,C,o,r,m⟩:↑f<=au/\(p==sysModules)=false/\∃ o,KV f o/\s.heap.DictOf (UF X.prog X.w) p o:=I.hok p _ n;let g:↑f=↑o:=Paired.length r;show wpAny_truthy_dict C m ∅ #[H,I.tok _,#v[lD r,q]]
 | _=>show(show False from e).elim
theorem WR:XS X (binaryOp .Add) (λx y H Q=>∃ i j,x=.str i/\y=.str j/\↑i+↑j<=au/\Q (.str (i++j)) H):=by
 intro d s m H x y v u Q I f g h;let#[i,j,rfl,rfl,e,q]:=h;let#[t,rfl]:=f;let#[k,rfl]:=g;show add_str (λk l=>#[.str (i++j),H,I.tok _,#[1],q]) e
theorem UG{x:V}{d:jd}(r:ZN [x] d):∃ u,d=[u]/\ZQ x u:=by
 cases r with
 | cons e f=>cases f;show#[1,e]
theorem MV{x y:V}{d:jd}(r:ZN [x,y] d):∃ u e,d=[u,e]/\ZQ x u/\ZQ y e:=by
 cases r with
 | cons f g=>
  cases g with
  | cons h i=>cases i;show#[_,1,f,h]
inductive QJ(d:je)(H:Hp)(Q:VK):Prop
 |mk(i:_)(_:d=[.int i])(_:Q (.int (if i<0 then -i else i)) H)
theorem Ia:V7 X (.builtin "abs") (QJ):=by
 intro d s j H g f Q I r h;let#[i,rfl,q]:=h;let#[u,rfl,t,rfl]:=UG r;show call_abs_int λu e=>#[.int (if i<0 then -i else i),H,I.tok _,#[1],q]
inductive Ue(d:je)(H:Hp)(Q:VK):Prop
 |mk(i j:_)(_:d=[.int i,.int j])(_:Q (.int (if j > i then j else i)) H)
theorem Ij(f:X.calm=V'):V7 X (.builtin "max") (Ue):=by
 intro e s v H p n Q I r h;let#[i,j,rfl,q]:=h;let#[u,o,rfl,#[t,rfl],#[l,rfl]]:=MV r;show max_two_ints (I.ok.hd f) λg m k=>#[_,H,I.kept k,?_,q];by_cases d:j > i
 .rwa[aP d,aP d,#[1]]
 .rwa[aO d,aO d,#[1]]
inductive Ud(d:je)(H:Hp)(Q:VK):Prop
 |mk(i j:_)(_:d=[.int i,.int j])(_:Q (.int (if j<i then j else i)) H)
theorem Ae(f:X.calm=V'):V7 X (.builtin "min") (Ud):=by
 intro e s v H p n Q I r h;let#[i,j,rfl,q]:=h;let#[u,o,rfl,#[t,rfl],#[l,rfl]]:=MV r;show min_two_ints (I.ok.hd f) λg m k=>#[_,H,I.kept k,?_,q];by_cases d:j<i
 .rwa[aP d,aP d,#[1]]
 .rwa[aO d,aO d,#[1]]
theorem BV:V7 X (.type "int") (λd H Q=>(∃ i,d=[.int i]/\Q (.int i) H)\/∃ k,d=[.bl k]/\Q (.int (if k then 1 else 0)) H):=by
 intro e s j H d g Q I r h;rcases h with ⟨i,rfl,q⟩ | ⟨k,rfl,q⟩
 .let#[u,rfl,t,rfl]:=UG r;show call_int_int #[.int i,H,I,#[1],q]
 .let#[u,rfl,f]:=UG r;cases f;show call_int_bool #[.int (if k then 1 else 0),H,I.tok _,#[1],q]
inductive VL(d:je)(H:Hp)(Q:VK):Prop
 |mk(i:_)(_:d=[.int i])(_:i.natAbs.log2<1920)(_:Q (.str (toString i)) H)
theorem PN:V7 X (.type "str") (VL):=by
 intro d s j H g f Q I r h;let#[i,rfl,e,q]:=h;let#[u,rfl,t,rfl]:=UG r;show PySem.P.str_of_int e #[.str _,H,I.tok _,#[1],q]
end
structure Uf(h:aE)(x dx C:al)(mA:jb):Prop where
 obj:h.get? x\vM C dx
 ns:h.Ns1 dx mA
 ne:dx≠x
theorem DQ{h:aE}{d:al}{g:jb}(n:h.Ns1 d g):∃ i,h.get? d\i/\∀ b,sX b i\g b:=by
 let#[o,f,s,p,k,l,_,m]:=n;exists o,p;intro b;let e:=m b;unfold nsFind findBy at e;rw[<-Array.find?_toList] at e;unfold sX;rw[k];dsimp only;split
 .rename_i y q
  rw[q] at e;show congrArg Z' e
 .rename_i q
  rw[q] at e;let a:f.toList.any (·.refKey)=false:=by
   rw[List.any_eq_false];intro y r;let#[z,t,c]:=l y (zEd.mp r);simp[DictEntry.refKey,c]
  let j:¬ f.toList.any (·.refKey)=V':=#v[a,zR]
  rwa[aO j,congrArg Z' e]
theorem Uf.look{h:aE}{x c C:al}{d:jb}(I:Uf h x c C d):∃ b,qE h x (vM C c) C (Z' b)/\∀ a,sX a b\d a:=
 let #[b,ho,hl]:=DQ I.ns
 #[b,#[I.obj,Z,Z,ho],hl]
section
variable{prog:ao}{w:ax}{A:ay}{E:ja}{s:am}{K:zZ}{x dx C f:al}{mA:jb}{name:Str}{v:ak}
theorem An{a:Bool}{Q:ja}(X:K.In s.heap)(I:Uf s.heap x dx C mA)(d:uW K C name=V')(e:vQ K C=V')(c:zC K (.ref C) name\Y')(i:mA name\v)(b:PySem.W.handedIn v=V')(h:Q v { s with toks:=s.toks+1 }):
  aC (aB prog w) A (getAttr (.ref x) name a) Q E s:=by
 let#[j,J,g]:=I.look;show PySem.W.get_value X J (qQ d).1 (PySem.W.findObj_own e c Z (by rw[g,i])) b h
theorem qo{i:Sem Bool}{Q:ak×jd->am->Prop}(X:K.In s.heap)(I:Uf s.heap x dx C mA)(a:uW K C name=V')(b:zC K (.ref C) name\Z' (.ref f))(d:wG K (.ref f)=V')(e:mA name=Y')(h:Q (.ref f,[.ref x]) s):
  aC (aB prog w) A (getMethod (.ref x) name i) Q E s:=by
 let#[g,J,c]:=I.look;show PySem.W.method_fn X J (qQ a).1 (qQ a).2 b (beq_iff_eq.mp d) (by change (sX name g).map (·.isSome)\false;rw[c,e];rfl) h
theorem ud{l:jr}{Q:Unit->am->Prop}(X:K.In s.heap)(I:Uf s.heap x dx C mA)(t:zC K (.ref C) "__setattr__" = Z' (Z' (.builtin "object.__setattr__")))(q:tK K C=V')(z:rC K C name\Y')(p:vQ K C=V')(B:PySem.Within mA l)(u:↑l<=au)(h:∀ e,Uf e x dx C (λy=>if y=name then Z' v else mA y)->xM dx s.heap e->Q () { s with heap:=e,toks:=s.toks+2 }):
  aC (aB prog w) A (setAttr (.ref x) name v) Q E s:=by
 let#[L,J,G]:=I.look;show PySem.W.set_plain X J t (PySem.W.osa_open (s:={ s with toks:=s.toks+1 }) (r:=Y') X J q z λb=>?_);let#[F,o,i]:=sC p;let D:s.heap.get? x\#[.ref C,Z' dx,.plain,⇑[]]:=I.obj;show aa (ad (aa (aa (wpAny_loadPart D (aa (yD.here (s:={ s with toks:=s.toks+1 }) (qR X o) ?_))))));rw[i];show ad (a:=Z' dx) (aa (ad (aa ?_)));show wpAny_nsSet1 (s:={ s with toks:=s.toks+1 }) I.ns λe c d=>?_;let#[H,n,m,k,j,g]:=c.count (PySem.Within.cons name v B);show aa (wpAny_lookBehind k #v[j,pastItsLine_dict (zK g (by rw[zV];lia))] ?_)
 show ad (h _ #[(d.2 _ (Ne.symm I.ne)).trans I.obj,c,I.ne] d)
theorem AS{R:Result->am->Prop}{c:jd}{b:jI}(X:K.In s.heap)(j:tP K C=V')(i:zC K (.ref C) "__init__" = Z' (Z' (.ref f)))(e:yN K (.ref f)\.type "function")(h:codeAny (aB prog w) (A.under (.builtin "type.__call__" #[.ref C::c,b])) (.call (.ref f) #[.ref (s.heap.objs.size+1)::c,b]) (PySem.W.InitBack (s.heap.objs.size+1) R)
   { s with heap:=(s.heap.push wA).push (vM C s.heap.objs.size) }):
  codeAny (aB prog w) A (.call (.ref C) #[c,b]) R s:=by
 let#[k,g,d,t,l]:=s;show PySem.W.make_core (PySem.W.makes_of X j) (rQ X i) (λa=>PySem.W.bind_fn X a e) (.inl Z) h
end
def Xl(f:Str)(v:V):List (Str×V)->List (Str×V)
 | []=>[(f,v)]
 | (g,x)::r=>if g=f then (g,v)::r else (g,x)::Xl f v r
theorem Gs(f g:Str)(v:V):∀ c:List (Str×V),(Xl f v c).lookup g=if g=f then Z' v else c.lookup g
 | []=>by
  change wO g [(f,v)]=_;by_cases h:g=f
  .let a:(g==f)=V':=beq_iff_eq.mpr h;simp only[wO,a,aP h]
  .let a:(g==f)=false:=beq_eq_false_iff_ne.mpr h;simp only[wO,a,aO h]
 | (k,x)::r=>by
  let d:=Gs f g v r;rw[show Xl f v ((k,x)::r)=(if k=f then (k,v)::r else (k,x)::Xl f v r) from rfl]
  by_cases b:k=f
  .rw[aP b];by_cases h:g=k
   .let a:(g==k)=V':=beq_iff_eq.mpr h;simp only[wO,a,aP (h.trans b)]
   .let a:(g==k)=false:=beq_eq_false_iff_ne.mpr h;simp only[wO,a,aO (λe:g=f=>h (e.trans b.symm))]
  .rw[aO b];by_cases h:g=k
   .let a:(g==k)=V':=beq_iff_eq.mpr h;simp only[wO,a,aO (λe:g=f=>b (h.symm.trans e))]
   .let a:(g==k)=false:=beq_eq_false_iff_ne.mpr h;simp only[wO,a];show d
theorem HE(f:Str)(v:V):∀ a:List (Str×V),f∈(Xl f v a).map (·.1)/\∀ g,g∈a.map (·.1)->g∈(Xl f v a).map (·.1)
 | []=>#[by simp[Xl],λg h=>by simp at h]
 | (k,x)::r=>by
  let#[c,d]:=HE f v r;rw[show Xl f v ((k,x)::r)=(if k=f then (k,v)::r else (k,x)::Xl f v r) from rfl]
  by_cases b:k=f
  .rw[aP b];subst b;show#[by simp,λg h=>by simpa using h]
  .rw[aO b];show#[?_,λg h=>?_]
   .rwa[yT,zM _ c]
   .rw[yT] at h⊢;rcases zN.mp h with e | e
    .show zN.mpr (.inl e)
    .show zM _ (d g e)
theorem AQ(f:Str)(v:V):∀ a:List (Str×V),↑(Xl f v a)<=↑a+1
 | []=>by simp[Xl]
 | (k,x)::r=>by
  let c:=AQ f v r;rw[show Xl f v ((k,x)::r)=(if k=f then (k,v)::r else (k,x)::Xl f v r) from rfl]
  by_cases b:k=f
  .rw[aP b,zV,zV];lia
  .rw[aO b,zV,zV];lia
theorem Yy.some_of{v:V}{o:jc}(r:Yy (Z' v) o):∃ u,o\u/\ZQ v u:=by
 cases o with
 | none=>show(show False from r).elim
 | some u=>show#[u,Z,r]
theorem Yy.none_of{o:jc}(r:Yy Y' o):o=Y':=by
 cases o with
 | none=>rfl
 | some u=>show(show False from r).elim
theorem EV{v:V}{u:ak}(r:ZQ v u):PySem.W.handedIn u=V':=by
 cases v with
 | non=>cases(show u=Value.none from r);rfl
 | bl b=>cases(show u=Value.bool b from r);rfl
 | int i=>let#[t,e]:=(show ∃ t,u=Value.int i t from r);cases e;rfl
 | str x=>let#[t,e]:=(show ∃ t,u=Value.str x t from r);cases e;rfl
 | byt b=>let#[t,e]:=(show ∃ t,u=Value.bytes b t from r);cases e;rfl
 | flt b=>let#[t,e]:=(show ∃ t,u=Value.float b t from r);cases e;rfl
 | ref a=>cases(show u=Value.ref a from r);rfl
 | ty n=>cases(show u=Value.type n from r);rfl
section
variable{P:ao}{w:ax}{H H':Hp}{h h':aE}{a C dx:al}{fs fs':List (Str×V)}
theorem Lh(c:Y6 P w H h)(e:H a\.ins C dx fs):∃ b,Uf h a dx C b/\(∀ f,Yy (fs.lookup f) (b f))/\PySem.Within b (fs.map (·.1))/\↑fs<=1000/\H dx\.own a:=by
 let#[d,z,g,i,b,n,r,q]:=(show Zc P w H h a (.ins C dx fs) from c a _ e);show#[b,#[i,n,g],r,q,z,d]
end
structure Uc(K:zZ)(C:al):Prop where
 pg:uW K C Str.empty=V'
 hd:vQ K C=V'
 po:tK K C=V'
 sa:zC K (.ref C) "__setattr__" = Z' (Z' (.builtin "object.__setattr__"))
theorem Uc.get{K:zZ}{C:al}(c:Uc K C)(f:Str):uW K C f=V':=c.pg
def Z7(K:zZ)(C:al)(f:Str):Prop:=zC K (.ref C) f\Y'
theorem Z7.taker{K:zZ}{C:al}{f:Str}(n:Z7 K C f):rC K C f\Y':=by
 unfold rC;rw[show zC K (.ref C) f\Y' from n];rfl
structure Q2(K:zZ)(C:al)(m:Str)(f:al):Prop where
 at_:zC K (.ref C) m\Z' (.ref f)
 fn:wG K (.ref f)=V'
 kp:yF K (.ref f)=V'
section
variable{jR:js}{σ:St}{H:Hp}{s:am}{a C dx:al}{fs:List (Str×V)}{f:Str}{v:V}{A:ay}{E:ja}
theorem Dh{b:Bool}{Q:ja}(I:ZF X jR σ H s)(e:H a\.ins C dx fs)(c:Uc X.K C)(n:Z7 X.K C f)(l:fs.lookup f\v)(h:∀ u g,ZF X jR σ H g->ZQ v u->Q u g):aC (aB X.prog X.w) A (getAttr (.ref a) f b) Q E s:=by
 let#[j,O,r,_,_,_]:=Lh I.hok e;let#[u,i,d]:=Yy.some_of (v:=v) (o:=j f) (by rwa[<-l,r f])
 show An I.kIn O (c.get f) c.hd n i (EV d) (h u _ (I.tok _) d)
theorem Fg{m:Str}{g:al}{i:Sem Bool}{Q:ak×jd->am->Prop}(I:ZF X jR σ H s)(e:H a\.ins C dx fs)(c:Uc X.K C)(k:Q2 X.K C m g)(l:fs.lookup m=Y')(h:Q (.ref g,[.ref a]) s):aC (aB X.prog X.w) A (getMethod (.ref a) m i) Q E s:=by
 let#[d,O,r,_,_,_]:=Lh I.hok e;let b:d m=Y':=Yy.none_of (by rwa[<-l,r m])
 show qo I.kIn O (c.get m) k.at_ k.fn b h
theorem Fa{y:V}{u:ak}{Q:Unit->am->Prop}(I:ZF X jR σ H s)(e:H a\.ins C dx fs)(c:Uc X.K C)(n:Z7 X.K C f)(J:↑fs<1000)(F:ZQ y u)(h:∀ k,ZF X jR σ (upd H a (.ins C dx (Xl f y fs))) k->Q () k):aC (aB X.prog X.w) A (setAttr (.ref a) f u) Q E s:=by
 let#[j,O,r,l,_,i]:=Lh I.hok e;let D:↑(fs.map (·.1))<=sizeLine:=by rw[zY,sizeLine_eq];lia
 show ud I.kIn O c.sa c.po n.taker c.hd l D λm d G=>h _ ?_;let t:∃ o,m.get? dx\o:=let #[o,_,_,e',_]:=d.ns;#[o,e'];show I.write (x:=a) (e:=dx) #v[e,True.intro] (.inr i) (λb q p z=>(G.2 b p).trans z) t ?_
 show#[#v[ZT O.ne,i],?_,O.ne,d.obj,_,d.ns,λg=>?_,λg B=>?_]
 .have:=AQ f y fs;lia
 .change Yy ((Xl f y fs).lookup g) (if g=f then Z' u else j g)
  rw[Gs];by_cases q:g=f
  .rwa[aP q,aP q,F]
  .rwa[aO q,aO q,r g]
 .by_cases q:g=f
  .rwa[q,(HE f y fs).1]
  .show(HE f y fs).2 g (l g λz=>B ?_);change (if g=f then Z' u else j g)=Y'
   rwa[aO q,z]
theorem ZF.made(I:ZF X jR σ H s):ZF X jR σ (upd (upd H s.heap.objs.size (.own (s.heap.objs.size+1))) (s.heap.objs.size+1) (.ins C s.heap.objs.size []))
  { s with heap:=(s.heap.push wA).push (vM C s.heap.objs.size) }:=by
 let c:(s.heap.push wA).get? s.heap.objs.size\wA:=yO s.heap Z;let h:((s.heap.push wA).push (vM C s.heap.objs.size)).get? (s.heap.objs.size+1)\vM C s.heap.objs.size:=by
  have:=yO (s.heap.push wA) (o:=vM C s.heap.objs.size) Z
  rw[sK] at this;assumption
 let i:(s.heap.push wA).Ns s.heap.objs.size (λ_=>Y'):=#[wA,⇑[],_,c,Z,(λe j=>absurd j ⋯),λ_=>rfl]
 let g:=I.laid (a:=s.heap.objs.size) (o:=.own (s.heap.objs.size+1)) (h':=s.heap.push wA) (t':=s.toks) (λb u q=>zL _ q) (zW _) #[_,c];show g.laid (a:=s.heap.objs.size+1) (o:=.ins C s.heap.objs.size []) (t':=s.toks) (λb u q=>zL _ q) (uU (sK _ _)) ?_;let d:s.heap.objs.size≠s.heap.objs.size+1:=yU (wR _);show#[by rw[ZT d,ZY],yQ _,d,h,λ_=>Y',(Heap.Ns1.of_empty i).at λo q=>zL _ q,λ_=>True.intro,λy k=>absurd Z k]
theorem AI{c:ao}{w:ax}{b:Env}{e:Expr}{f:Str}{g:aJ}{s:am}{Q:ja}(i:attributeBase e f b (aH e b)=aH e b)(h:aC (aB c w) A (aH e b) (λo d=>aC (aB c w) A (getAttr o f true) Q E d) E s):aC (aB c w) A (aH (.Attribute e f g) b) Q E s:=
 Attribute_any_ h (by rw[arm_eval_Attribute,i])
end
inductive M9(K:zZ)(f:Str)(Q:VK)(x:V)(b:Hp):Prop
 |mk(a C d c v:_)(_:x=.ref a)(_:b a\.ins C d c)(_:Uc K C)(_:Z7 K C f)(_:c.lookup f\v)(_:Q v b)
def Sm(K:zZ)(b:TE)(f:Str):TE:=λc H Q=>b c H λx a=>M9 K f Q x a
inductive MW(K:zZ)(f:Str)(D:YX)(e:L2.St)(y x:V)(c:Hp):Prop
 |mk(a C d b:_)(_:x=.ref a)(_:c a\.ins C d b)(_:Uc K C)(_:Z7 K C f)(_:↑b<1000)(_:D.nx e (upd c a (.ins C d (Xl f y b))))
def R9(K:zZ)(d e:TE)(f:Str):TS:=λD a H=>e a H λy b=>d a b λx c=>MW K f D a y x c
def IR(X:Cx)(c:Operator)(rd:V->V->Hp->VK->Prop):Prop:=
 ∀(a:js)(s:am)(b:St)(H:Hp)(x y:V)(u v:ak)(Q:VK),ZF X a b H s->ZQ x u->ZQ y v->rd x y H Q->aC (aB X.prog X.w) X.A (inplaceOp c u v) (EP X a b Q) X.xe s
inductive Qc(K:zZ)(k:TE)(rd:V->V->Hp->VK->Prop)(f:Str)(D:YX)(h:L2.St)(x:V)(d:Hp):Prop
 |mk(a C j g v:_)(_:x=.ref a)(_:d a\.ins C j g)(_:Uc K C)(_:Z7 K C f)(_:g.lookup f\v)(_:k h d λy i=>rd v y i λz e=>∃ c b,e a\.ins C c b/\↑b<1000/\D.nx h (upd e a (.ins C c (Xl f z b))))
def uy(K:zZ)(c d:TE)(rd:V->V->Hp->VK->Prop)(f:Str):TS:=λD a H=>c a H λx b=>Qc K d rd f D a x b
section
variable{o e value:Expr}{f:Str}{pos pos' tpos:aJ}{ta tv:TE}
theorem QI(p:PE X e ta)(m:attributeBase e f X.env (aH e X.env)=aH e X.env):PE X (.Attribute e f pos) (Sm X.K ta f):=by
 intro b s w H Q I h;show AI m (Z3 (p b s w H _ I h) ?_);rintro u A ⟨x,d,g,t,a,C,y,z,v,k,j,c,n,l,q⟩;subst k;obtain rfl:u=Value.ref a:=t;show Dh g j c n l λD B i r=>#[v,d,i,r,q]
theorem PY(r:PE X o ta)(v:PE X value tv)(t:swapsWith value (Z' (.Attribute o f pos')) pos.line X.env=pure false):PS X (.Assign [.Attribute o f pos'] value pos) (R9 X.K ta tv f):=by
 intro b s d H D I h;show plainObj_wpAny_Assign_Attribute (Z8 (v b s d H _ I h) λu E y g i B q=>Z3 (r b E d g _ i q) λw L ⟨x,F,j,A,a,C,G,J,p,m,c,n,l,z⟩=>?_) t;subst p;obtain rfl:w=Value.ref a:=A;show Fa j m c n l B λM k=>#[d,_,k,z]
theorem Jc{j:Operator}{rd:V->V->Hp->VK->Prop}(J:PE X o ta)(L:PE X value tv)(i:IR X j rd):PS X (.AugAssign (.Attribute o f tpos) j value pos) (uy X.K ta tv rd f):=by
 intro b s d H D I h;show wpAny_AugAssign_AttributeAny (Z3 (J b s d H _ I h) ?_);rintro N s1 ⟨x,k,p,R,a,C,dx,fs,v,F,E,c,n,l,q⟩;subst F;obtain rfl:N=Value.ref a:=R;show Dh p E c n l λu U r Q=>Z8 (L b U d k _ r q) λY W y m t S O=>Z3 (i b W d m v y u Y _ t Q S O) ?_;rintro w4 s4 ⟨z,H3,w,T,B,G,g,M,P⟩;show Fa w g c n M T λs5 A=>#[d,_,A,P]
inductive Gp(x y:V)(H:Hp)(Q:VK):Prop
 |mk(i j:_)(_:x=.int i)(_:y=.int j)(_:Q (.int (i+j)) H)
inductive Jd(x y:V)(H:Hp)(Q:VK):Prop
 |mk(i j:_)(_:x=.int i)(_:y=.int j)(_:Q (.int (i-j)) H)
theorem y6:IR X .Add Gp:=by
 rintro a s g H x y u v Q I c d ⟨i,j,rfl,rfl,q⟩;let#[t,rfl]:=(show ∃ t,u=Value.int i t from c);let#[b,rfl]:=(show ∃ b,v=Value.int j b from d);show PyProof.Rows.iadd_int #[.int (i+j),H,I.tok _,#[1],q]
theorem BJ:IR X .Sub Jd:=by
 rintro a s g H x y u v Q I c d ⟨i,j,rfl,rfl,q⟩;let#[t,rfl]:=(show ∃ t,u=Value.int i t from c);let#[b,rfl]:=(show ∃ b,v=Value.int j b from d);show PyProof.Rows.isub_int #[.int (i-j),H,I.tok _,#[1],q]
end
section
variable{jR:js}{σ:St}{H:Hp}{s:am}{A:ay}{E Q:ja}{c:ak}{b:Bool}
inductive Y5(K:zZ)(H:Hp):V->ak->Prop where
 | non:Y5 K H .non (.type "NoneType")
 | bl (x:Bool):Y5 K H (.bl x) (.type "bool")
 | int (i:Int):Y5 K H (.int i) (.type "int")
 | str (x:Str):Y5 K H (.str x) (.type "str")
 | flt (x:UInt64):Y5 K H (.flt x) (.type "float")
 | lst {a:al} {xs:je} (e:H a\.lst xs):Y5 K H (.ref a) (.type "list")
 | frz {a:al} {o:aI} {xs:je} (e:H a\.frz o (.lst xs)):Y5 K H (.ref a) (.type "list")
 | tup {a:al} {xs:je} (e:H a\.tup xs):Y5 K H (.ref a) (.type "tuple")
 | dK {a:al} {kvs:List (Zj×V)} (e:H a\.dK kvs):Y5 K H (.ref a) (.type "dict")
 | dT {a:al} {kvs:List (jC×V)} (e:H a\.dT kvs):Y5 K H (.ref a) (.type "dict")
 | ins {a C dx:al} {fs:List (Str×V)} (e:H a\.ins C dx fs) (cl:Uc K C) (ha:zC K (.ref C) "__class__" = Z' (Z' (.builtin "object.__class__")))
   (hn:qV K (.builtin "object.__class__") "__get__" = Z' (Z' (.builtin "getset_descriptor.__get__"))) (htk:rB K (.builtin "object.__class__")\true)
   (hm:yS K C (.type "object")\true):Y5 K H (.ref a) (.ref C)
theorem my{x:V}{u t:ak}(I:ZF X jR σ H s)(f:ZQ x u)(N:Y5 X.K H x t)(e:xY X.K t c\b)(h:∀ M,Q (.bool b) { s with toks:=M }):
  aC (aB X.prog X.w) A (call (.builtin "isinstance") [u,c]) Q E s:=by
 cases N with
 | non=>cases(show u=Value.none from f);show wY PySem.W.kitx_none I.kIn True.intro e (λz=>nomatch z) h
 | bl y=>cases(show u=Value.bool y from f);show wY PySem.W.kitx_bool I.kIn True.intro e (λz=>nomatch z) h
 | int i=>let#[t,q]:=(show ∃ t,u=Value.int i t from f);cases q;show wY PySem.W.kitx_int I.kIn True.intro e (λz=>nomatch z) h
 | str y=>let#[t,q]:=(show ∃ t,u=Value.str y t from f);cases q;show wY PySem.W.kitx_str I.kIn True.intro e (λz=>nomatch z) h
 | flt y=>let#[t,q]:=(show ∃ t,u=Value.float y t from f);cases q;show wY PySem.W.kitx_float I.kIn True.intro e (λz=>nomatch z) h
 | @lst a k d=>
  cases(show u=Value.ref a from f);let#[_,_,n,_,g]:=(show Zc X.prog X.w H s.heap a (.lst k) from I.hok a _ d);show wY PySem.W.kitx_list I.kIn #[_,g,Z] e (λz=>nomatch z) h
 | @frz a L k d=>
  cases(show u=Value.ref a from f);let#[_,_,_,n,_,g]:=(show Zc X.prog X.w H s.heap a (.frz L (.lst k)) from I.hok a _ d);show wY PySem.W.kitx_list I.kIn #[_,g,Z] e (λz=>nomatch z) h
 | @tup a k d=>
  cases(show u=Value.ref a from f);let#[_,_,_,p]:=(show Zc X.prog X.w H s.heap a (.tup k) from I.hok a _ d);let#[o,g,l,_]:=p;show wY PySem.W.kitx_tuple I.kIn #[o,g,l] e (λz=>nomatch z) h
 | @dK a j d=>
  cases(show u=Value.ref a from f);let#[_,_,U,_,p]:=(show Zc X.prog X.w H s.heap a (.dK j) from I.hok a _ d);let#[o,B,v,g,l,_]:=p;show wY PySem.W.kitx_dict I.kIn #[o,g,l.1] e (λz=>nomatch z) h
 | @dT a j d=>
  cases(show u=Value.ref a from f);let#[_,_,k,_,o,B,v,g,l,_]:=(show Zc X.prog X.w H s.heap a (.dT j) from I.hok a _ d);show wY PySem.W.kitx_dict I.kIn #[o,g,l.1] e (λz=>nomatch z) h
 | @ins a C P R d r D G m F=>
  cases(show u=Value.ref a from f);let#[S,O,_]:=Lh I.hok d;let#[T,J,_]:=O.look;show wY (PySem.W.kitx_own (r.get _) r.hd D G m F) I.kIn J e (λz=>nomatch z) h
end
structure ZU(k:Nat)(A:ay):Prop where
 hd:A.handled=Y'
 dp:A.depth+3 * k+5<recursionLimit
 un:A.units+16 * k+200<cLine
theorem ZU.mono{j k:Nat}{A:ay}(r:ZU k A)(h:j<=k):ZU j A:=#[r.hd,by have:=r.dp;lia,by have:=r.un;lia]
theorem ZU.to{j:Nat}{A:ay}(r:ZU j A)(k:Nat)(h:k<=j:=by decide):ZU k A:=r.mono h
theorem ZU.deeper{k:Nat}{A:ay}(r:ZU (k+1) A)(a:Env):ZU k (A.deeper a):=
 #[r.hd,by have:=r.dp;change A.depth+1+3 * k+5<_;lia,by have:=r.un;change A.units+3+16 * k+200<_;lia]
theorem ZU.in1{k:Nat}{A:ay}(r:ZU (k+1) A):ZU k A.in1:=
 #[r.hd,by have:=r.dp;change A.depth+3 * k+5<_;lia,by have:=r.un;change A.units+1+16 * k+200<_;lia]
theorem AY{A:ay}{C:al}{b:jd}{a:jI}:(A.under (.builtin "type.__call__" #[.ref C::b,a])).depth=A.depth+1:=by
 first | rfl | simp[Around.under,Code.weight,Code.isCreation,Code.isGuard,Code.isCaller,Code.frames,Code.isFrame,guardIds]
theorem mi{A:ay}{C:al}{b:jd}{a:jI}:(A.under (.builtin "type.__call__" #[.ref C::b,a])).units=A.units+1:=by
 first | rfl | simp[Around.under,Code.cUnits,Code.frames,Code.isFrame]
theorem ZU.make{k:Nat}{A:ay}(r:ZU (k+1) A)(C:al)(b:jd)(a:jI):ZU k (A.under (.builtin "type.__call__" #[.ref C::b,a])):=
 #[r.hd,by have:=r.dp;rw[AY];lia,by have:=r.un;rw[mi];lia]
theorem ZU.depth{k:Nat}{A:ay}(r:ZU k A):A.depth<recursionLimit:=by have:=r.dp;lia
theorem ZU.units{k:Nat}{A:ay}(r:ZU k A):A.units+64<cLine:=by have:=r.un;lia
theorem ZU.units0{k:Nat}{A:ay}(r:ZU k A):A.units<cLine:=by have:=r.un;lia
def V0:TA:=λ_ H Q=>Q [] H
def YI(d:TE)(e:TA):TA:=λa H Q=>d a H λx b=>e a b λf c=>Q (x::f) c
section
variable{e:Expr}{es:jy}{te:TE}{t:TA}{pos:aJ}
theorem Zv:PA X [] V0:=λ_ _ _ _ H Q I h=>Calls.spliced_nil #[[],H,I,.nil,h]
theorem Zg(i:PE X e te)(j:PA X es t)(k:aw (e::es) X.env=(false,aH e X.env)::aw es X.env:=by rfl):PA X (e::es) (YI te t):=by
 intro pos a s b H Q I h;rw[k];change aC _ _ (spliced ((false,aH e X.env)::aG pos (aw es X.env))) _ _ s;show Calls.spliced_cons (Z8 (i a s b H _ I h) λu p x c f n l=>?_);show Z8 (j pos a p b c _ f l) λv r q d g o m=>#[x::q,d,g,.cons n o,m]
def GD(t:TA):TE:=λc H Q=>t c H λb a=>↑b<=au/\∀ p,a p=Y'->Q (.ref p) (upd a p (.tup b))
def O4(t:TA):TE:=λc H Q=>t c H λb a=>↑b<=au/\∀ p,a p=Y'->Q (.ref p) (upd a p (.lst b))
theorem Y2{k}(h:PA X es t):PE X (.Tuple es k pos) (GD t):=by
 intro a s m H Q I i;show wpAny_Tuple_spliced (Z3 (h pos a s m H _ I i) λj c ⟨l,d,f,r,z,q⟩=>#[by rwa[<-↑r,z],?_])
 let g:d c.heap.objs.size=Y':=f.hok.fresh (zW _);show#[.ref c.heap.objs.size,upd d c.heap.objs.size (.tup l),f.laid (t':=c.toks) (λb u e=>zL _ e) (zW _) ?_,Z,q _ g];show#[z,j,r,#[_,yO _ Z,Z,1]]
theorem YY(h:PA X es t):PE X (.List es pos) (O4 t):=by
 intro a s l H Q I i;show wpAny_List_spliced (Z3 (h pos a s l H _ I i) λj c ⟨k,d,f,r,z,q⟩=>#[by rwa[<-↑r,z],?_])
 let g:d c.heap.objs.size=Y':=f.hok.fresh (zW _);show#[.ref c.heap.objs.size,upd d c.heap.objs.size (.lst k),f.laid (t':=c.toks) (λb u e=>zL _ e) (zW _) ?_,Z,q _ g];show#[z,j,(0),r,yO _ Z]
end
abbrev Sp:=je->Hp->VK->XK->Prop
abbrev VG:=jB->Hp->am->XK->ja
structure VN(P:ao)(w:ax)(K:zZ)(mg:jb)(jS:aE)(A:ay)(outer:jB)(s:am)(H:Hp):Prop where
 frames:A.frames\outer
 mod:Mod K mg jS
 bs:∀ b o,jS.get? b\o->s.heap.get? b\o/\H b=Y'
 bsz:jS.objs.size<=s.heap.objs.size
 funs:s.heap.FunFrames jS outer
 frf:∀ b∈frs outer,H b=Y'
 hok:Y6 P w H s.heap
 bare:AllBare s.gens
def CE(a:jB)(P:ao)(w:ax)(H:Hp)(s:am)(Q:VK)(u:ak)(b:am):Prop:=
 ∃ v c,b.os=s.os/\AllBare b.gens/\Un (frs a) [] H c s.heap b.heap/\Y6 P w c b.heap/\ZQ v u/\Q v c
def CR(c:VG)(a:jB)(P:ao)(w:ax)(H:Hp)(s:am)(Q:VK)(E:XK)(r:Result)(b:am):Prop:=
 match r with
 | .ok (.ret u)=>CE a P w H s Q u b
 | .ok _=>False
 | .error e=>c a H s E e b
structure ZI(P:ao)(w:ax)(K:zZ)(mg:jb)(jS:aE)(CX:VG)(k:Nat)(f:al)(fd:aq)(ps:jr)(sp:Sp):Prop where
 len:∀ vs H Q E,sp vs H Q E->↑vs=↑ps
 run:∀(A:ay)(outer:jB)(s:am)(H:Hp)(args:Args)(us:jd)(vs:je)(Q:VK)(E:XK),ZU k A->VN P w K mg jS A outer s H->BindsTo s fd args (ps.zip us)->ZN vs us->sp vs H Q E ->
  codeAny (aB P w) A (.call (.ref f) args) (CR CX outer P w H s Q E) s
theorem ZI.mono{P:ao}{w:ax}{K:zZ}{e:jb}{a:aE}{c:VG}{j k:Nat}{f:al}{d:aq}{g:jr}{i:Sp}(F:ZI P w K e a c j f d g i)(h:j<=k):
  ZI P w K e a c k f d g i:=#[F.len,λA b s H args m n Q E l=>F.run A b s H args m n Q E (l.mono h)]
theorem ZI.imp{P:ao}{w:ax}{K:zZ}{i:jb}{a:aE}{e:VG}{k:Nat}{f:al}{g:aq}{j:jr}{l d:Sp}(F:ZI P w K i a e k f g j l)(h:∀ c H Q E,d c H Q E->l c H Q E):ZI P w K i a e k f g j d:=
 #[λc H Q E q=>F.len c H Q E (h _ _ _ _ q),λA b s H args t c Q E o n m r p=>F.run A b s H args t c Q E o n m r (h _ _ _ _ p)]
theorem VN.make{P:ao}{w:ax}{K:zZ}{c:jb}{b:aE}{A:ay}{a:jB}{s:am}{H:Hp}(e:VN P w K c b A a s H)(C:al)(f:jd)(d:jI):
  VN P w K c b (A.under (.builtin "type.__call__" #[.ref C::f,d])) a s H:=#[by first | show e.frames | (simpa [Around.under,Code.envs,Code.isFrame,pushEnvs] using e.frames),e.mod,e.bs,e.bsz,e.funs,e.frf,e.hok,e.bare]
section
variable{jR:js}{σ:St}{H:Hp}{s s':am}
theorem ZF.env0(I:ZF X jR σ H s):VN X.prog X.w X.K X.mg X.base X.A X.stack s H:=
 #[I.ok.frames,I.ok.mod,I.bs,zK I.ok.bsz I.sz,I.stack,I.stkFree,I.hok,I.bare]
theorem ZF.after{Q:VK}{u:ak}(I:ZF X jR σ H s)(h:CE X.stack X.prog X.w H s Q u s'):EP X jR σ Q u s':=by
 let#[v,f,j,a,k,c,r,q]:=h;let#[i,g,d,t,e]:=s';obtain rfl:e=s.os:=j;show#[v,f,I.call (h':=i) (g':=g) (d':=d) (t':=t) (ch:=[]) k c a (λb z=>absurd z ⋯),r,q]
end
def Mb(c:Sp)(a:je)(E:XK)(t:TA):TE:=λe H Q=>t e H λd b=>c (d++a) b Q E
inductive NH(C:al)(m:Str)(g:Sp)(b:je)(E:XK)(t:TA)(i:L2.St)(Q:VK)(x:V)(c:Hp):Prop
 |mk(a f d:_)(_:x=.ref a)(_:c a\.ins C f d)(_:d.lookup m=Y')(_:t i c λh e=>g (x::(h++b)) e Q E)
def Ii(C:al)(m:Str)(d:Sp)(a:je)(E:XK)(e:TE)(t:TA):TE:=λb H Q=>e b H λx c=>NH C m d a E t b Q x c
def Le(C:al)(e:Sp)(c:je)(E:XK)(t:TA):TE:=λg H Q=>t g H λf b=>∀ x a,b x=Y'->b a=Y'->a≠x ->
 e (.ref x::(f++c)) (upd (upd b a (.own x)) x (.ins C a [])) (λv d=>v=.non/\Q (.ref x) d) E
def Zi(K:zZ)(d:aq)(c:jr)(b:jd):Prop:=
 ∀(s:am)(a:jd),K.In s.heap->↑(a++b)=↑c->BindsTo s d #[a,[]] (c.zip (a++b))
theorem Zi.all{K:zZ}{c:aq}{b:jr}(h:∀ a:jd,↑a=↑b->bindArgs c #[a,[]]=pure (b.zip a)):Zi K c b []:=λs a _ d=>by
 rw[xK] at d⊢;show .of_eq (h a d)
def UT(c:VG)(X:Cx)(E:XK):Prop:=∀(a:js)(d:St)(H:Hp)(s:am)(e:ak)(b:am),ZF X a d H s->c X.stack H s E e b->X.xe e b
section
variable{CX:VG}{k:Nat}{f C:al}{fd:aq}{ps:jr}{sp:Sp}{jk:je}{ds:jd}{E:XK}{x m:Str}{p pos jh:aJ}{e o:Expr}{es:jy}{ta:TE}{t:TA}
theorem Fi{a:js}{c:St}{H:Hp}{s:am}{Q:VK}{us:jd}{vs:je}(F:ZI X.prog X.w X.K X.mg X.base CX k f fd ps sp)(n:ZU k X.A)(i:Zi X.K fd ps ds)(j:ZN jk ds)(q:UT CX X E)(I:ZF X a c H s)(r:ZN vs us)(h:sp (vs++jk) H Q E):aC (aB X.prog X.w) X.A (call (.ref f) us) (EP X a c Q) X.xe s:=by
 let d:ZN (vs++jk) (us++ds):=r.append j;let l:↑(us++ds)=↑ps:=by rwa[<-↑d,F.len _ _ _ _ h]
 show wpAny_call (codeAny_mono (F.run X.A X.stack s H #[us,[]] (us++ds) (vs++jk) Q E n I.env0 (i s us I.kIn l) d h) λr v b=>?_)
 cases r with
 | error e=>show q a c H s e v I b
 | ok g=>
  cases g with
  | ret u=>show I.after b
  | next=>show False.elim b
  | brk=>show False.elim b
  | cont=>show False.elim b
theorem GG(F:ZI X.prog X.w X.K X.mg X.base CX k f fd ps sp)(y:ZU k X.A)(n:Gl X x)(v:X.mg x\.ref f)(u:yF X.K (.ref f)=V')(i:Zi X.K fd ps ds)(j:ZN jk ds)(z:UT CX X E)(g:PA X (e::es) t)(b:(x==("__debug__" : Str))=false:=by decide)(l:aw (e::es) X.env=(false,aH e X.env)::aw es X.env:=by rfl)(c:(aG pos (aw es X.env)).any (·.1)=false:=by rfl):
  PE X (.Call (.Name x p) (e::es) [] pos) (Mb sp jk E t):=by
 intro a s B H Q I h;show ah (QZ I n v ?_ b);show vP (h₀:=X.base) I.ok.mod.kin u (Z8 (g pos a s B H _ I h) λJ G L D d r q=>#[d.kIn,?_]) l c;show Fi F y i j z d r q
theorem vg{v:Sem Bool}(M:PE X o ta)(c:Uc X.K C)(n:Q2 X.K C m f)(F:ZI X.prog X.w X.K X.mg X.base CX k f fd ps sp)(N:ZU k X.A)(J:Zi X.K fd ps ds)(L:ZN jk ds)(P:UT CX X E)(G:PA X (e::es) t)(g:aw (e::es) X.env=(false,aH e X.env)::aw es X.env:=by rfl)(d:(aG pos (aw es X.env)).any (·.1)=false:=by rfl)(O:aH (.Call (.Attribute o m jh) (e::es) [] pos) X.env=(do
   let ov<-aH o X.env
   standAt jh.atName
   let (f,first)<-holding [ov] (getMethod ov m v)
   callWith pos f first (aG pos (aw (e::es) X.env)) (backToKw pos (keywordEach [] X.env))):=by rfl):
  PE X (.Call (.Attribute o m jh) (e::es) [] pos) (Ii C m sp jk E ta t):=by
 intro b s y H Q I h;show zEP (pl:=v) (Z3 (M b s y H _ I h) λu T ⟨x,z,i,S,a,dx,fs,D,B,l,q⟩=>?_) O;subst D;obtain rfl:u=Value.ref a:=S;show Fg i B c n l ?_;show vP (first:=[.ref a]) (h₀:=X.base) I.ok.mod.kin n.kp (Z8 (G pos b T y z _ i q) λU s2 V Y j r R=>#[j.kIn,?_]) g d
 show Fi (us:=.ref a::U) (vs:=.ref a::V) F N J L P j (.cons Z r) R
structure Mk(K:zZ)(C f:al):Prop where
 makes:tP K C=V'
 init:zC K (.ref C) "__init__" = Z' (Z' (.ref f))
 fn:wG K (.ref f)=V'
 kp:yF K (.ref C)=V'
theorem DJ{b:js}{i:St}{H:Hp}{s:am}{Q:VK}{us:jd}{g:je}(M:Mk X.K C f)(F:ZI X.prog X.w X.K X.mg X.base CX k f fd ps sp)(L:ZU (k+1) X.A)(D:Zi X.K fd ps ds)(G:ZN jk ds)(N:UT CX X E)(I:ZF X b i H s)(r:ZN g us)(h:∀ x d,H x=Y'->H d=Y'->d≠x->sp (.ref x::(g++jk)) (upd (upd H d (.own x)) x (.ins C d [])) (λv q=>v=.non/\Q (.ref x) q) E):
  aC (aB X.prog X.w) X.A (call (.ref C) us) (EP X b i Q) X.xe s:=by
 let j:=h (s.heap.objs.size+1) s.heap.objs.size (I.hok.fresh (wF _)) (I.hok.fresh (zW _)) (yU (wR _));let c:=ZF.made (C:=C) I;let l:ZN (V.ref (s.heap.objs.size+1)::(g++jk)) (Value.ref (s.heap.objs.size+1)::(us++ds)):=.cons Z (r.append G);let J:↑(Value.ref (s.heap.objs.size+1)::us++ds)=↑ps:=by
  let e:=↑l;rw[F.len _ _ _ _ j] at e;show e.symm
 show wpAny_call (AS (f:=f) I.kIn M.makes M.init (beq_iff_eq.mp M.fn) (codeAny_mono (F.run _ X.stack _ _ #[Value.ref (s.heap.objs.size+1)::us,[]] (Value.ref (s.heap.objs.size+1)::(us++ds)) _ _ E (L.make C us [])
  (c.env0.make C us []) (D _ (Value.ref (s.heap.objs.size+1)::us) c.kIn J) l j) λr R a=>?_))
 cases r with
 | error e=>show N b i _ _ e R c a
 | ok B=>
  cases B with
  | ret u=>
   let#[v,n,y,P,z,O]:=c.after a;subst z;show#[P,#[V.ref (s.heap.objs.size+1),n,y,Z,O]]
  | next=>show False.elim a
  | brk=>show False.elim a
  | cont=>show False.elim a
theorem EU(M:Mk X.K C f)(F:ZI X.prog X.w X.K X.mg X.base CX k f fd ps sp)(v:ZU (k+1) X.A)(n:Gl X x)(u:X.mg x\.ref C)(i:Zi X.K fd ps ds)(j:ZN jk ds)(y:UT CX X E)(g:PA X (e::es) t)(b:(x==("__debug__" : Str))=false:=by decide)(l:aw (e::es) X.env=(false,aH e X.env)::aw es X.env:=by rfl)(c:(aG pos (aw es X.env)).any (·.1)=false:=by rfl):
  PE X (.Call (.Name x p) (e::es) [] pos) (Le C sp jk E t):=by
 intro a s z H Q I h;show ah (QZ I n u ?_ b);show vP (h₀:=X.base) I.ok.mod.kin M.kp (Z8 (g pos a s z H _ I h) λG D J B d r q=>#[d.kIn,?_]) l c;show DJ M F v i j y d r q
theorem Ah(M:Mk X.K C f)(F:ZI X.prog X.w X.K X.mg X.base CX k f fd ps sp)(j:ZU (k+1) X.A)(g:Gl X x)(i:X.mg x\.ref C)(c:Zi X.K fd ps ds)(d:ZN jk ds)(l:UT CX X E)(a:(x==("__debug__" : Str))=false:=by decide):PE X (.Call (.Name x p) [] [] pos) (Le C sp jk E V0):=by
 intro b s n H Q I h;show ah (QZ I g i ?_ a);show zEU I.kIn M.kp (DJ (us:=[]) M F j c d l I .nil h)
end
def PK(X:Cx)(b:List Keyword)(t:TA):Prop:=
 ∀(c:aJ)(a:js)(s:am)(d:St)(H:Hp)(Q:je->Hp->Prop),ZF X a d H s->t d H Q->aC (aB X.prog X.w) X.A (evalAll ((backToKw c (keywordEach b X.env)).map (·.2))) (AP X a d Q) X.xe s
section
variable{CX:VG}{k:Nat}{f C:al}{fd:aq}{ps ks:jr}{sp:Sp}{E:XK}{x m:Str}{p pos jh kpos:aJ}{e o:Expr}{es:jy}{kws:List Keyword}{te ta:TE}{t tk:TA}{nm:Option Str}
theorem L':PK X [] V0:=λ_ _ _ _ H Q I h=>wpAny_evalAll_nil #[[],H,I,.nil,h]
theorem ux(j:PE X e te)(l:PK X kws t):PK X (#[nm,e,kpos]::kws) (YI te t):=by
 intro pos a s b H Q I h;change aC _ _ (evalAll ((do let v<-aH e X.env;standAt pos;pure v)::(backToKw pos (keywordEach kws X.env)).map (·.2))) _ _ s
 show wpAny_evalAll_cons (aa (Z8 (j a s b H _ I h) λu y x c g r n=>aa (ai (ad ?_))));show Z8 (l pos a y b c _ g n) λB A z d i w q=>#[x::z,d,i,.cons r w,q]
variable{g:jd->jd->jd}{gV:je->je->je}
end
structure ZB(N P:jr)(sc:aF):Prop where
 kind:sc.kind=.function
 co:sc.isCoroutine=false
 gen:sc.isGenerator=false
 nd:N.Nodup
 pre:N.take ↑P=P
 par:∀ x∈P,sc.names.lookup x\.local\/sc.names.lookup x\.cell
 nofree:∀ y∈sc.names,y.2≠.free
theorem Z2{N P:jr}{a:aF}(b:a.kind=.function:=by rfl)(c:a.isCoroutine=false:=by rfl)(d:a.isGenerator=false:=by rfl)(e:N.Nodup:=by decide +kernel)(f:N.take ↑P=P:=by rfl)(g:∀ x∈P,a.names.lookup x\.local\/a.names.lookup x\.cell:=by decide +kernel)(h:∀ y∈a.names,y.2≠.free:=by decide +kernel):ZB N P a:=#[b,c,d,e,f,g,h]
theorem B3{kindOf:Str->Option NameKind}{x:Str}:∀{a:jI}{m:jb},(∀ v,(x,v)∉a)->bindL kindOf a m x=m x
 | [],_,_=>rfl
 | (n,v)::r,m,h=>by
  unfold bindL;rw[B3 λw b=>h w (zM _ b)];split
  .have:x≠n:=by rintro rfl;show h v zQ
   simp[this]
  .rfl
theorem Cn{kindOf:Str->Option NameKind}{x:Str}:∀{a:jI}{m:jb},(∀ v,(x,v)∉a)->bindC kindOf a m x=m x
 | [],_,_=>rfl
 | (n,v)::r,m,h=>by
  unfold bindC;rw[Cn λw b=>h w (zM _ b)];split
  .rfl
  .have:x≠n:=by rintro rfl;show h v zQ
   simp[this]
theorem Ed{kindOf:Str->Option NameKind}{x:Str}{v:ak}:∀{P:jr}{a:jd}{i:Nat}{m:jb},P.Nodup->P[i]?\x->a[i]?\v->kindOf x=Z' .local ->
  bindL kindOf (P.zip a) m x\v
 | [],_,_,_,_,h,_,_=>by simp at h
 | _::_,[],_,_,_,_,h,_=>by simp at h
 | p::P,w::a,0,m,nd,h1,h2,hk=>by
  simp at h1 h2;subst h1;subst h2;change bindL kindOf ((p,w)::P.zip a) m p=_;unfold bindL;rw[B3 λv b=>(wC.mp nd).1 (sH b).1,aP hk];simp
 | p::P,w::a,i+1,m,nd,h1,h2,hk=>by
  change bindL kindOf ((p,w)::P.zip a) m x=_;unfold bindL;show Ed (i:=i) (wC.mp nd).2 (by simpa using h1) (by simpa using h2) hk
theorem F8{kindOf:Str->Option NameKind}{x:Str}{v:ak}:∀{P:jr}{a:jd}{i:Nat}{m:jb},P.Nodup->P[i]?\x->a[i]?\v->kindOf x≠Z' .local ->
  bindC kindOf (P.zip a) m x\v
 | [],_,_,_,_,h,_,_=>by simp at h
 | _::_,[],_,_,_,_,h,_=>by simp at h
 | p::P,w::a,0,m,nd,h1,h2,hk=>by
  simp at h1 h2;subst h1;subst h2;change bindC kindOf ((p,w)::P.zip a) m p=_;unfold bindC;rw[Cn λv b=>(wC.mp nd).1 (sH b).1,aO hk];simp
 | p::P,w::a,i+1,m,nd,h1,h2,hk=>by
  change bindC kindOf ((p,w)::P.zip a) m x=_;unfold bindC;show F8 (i:=i) (wC.mp nd).2 (by simpa using h1) (by simpa using h2) hk
def UQ(N:jr)(a:je):St:=a.map Z'++xD (↑N-↑a) Y'
def X7(CX:VG)(P:ao)(w:ax)(K:zZ)(mg:jb)(jS:aE)(N:jr)(qual:Str)(scope:aF)(f:al)(cd:ak)(A:ay)(outer:jB)(s:am)(H:Hp)(E:XK):Cx where
 prog:=P
 w:=w
 K:=K
 mg:=mg
 base:=jS
 A:=A.deeper (envOfC qual scope s.heap.objs.size f cd)
 N:=N
 s₀:=s
 H₀:=H
 env:=envOfC qual scope s.heap.objs.size f cd
 outer:=outer
 stack:=envOfC qual scope s.heap.objs.size f cd::outer
 ex:=[]
 calm:=true
 fn:=λ_=>true
 pn:=[]
 xe:=λe s'=>aC (aB P w) (A.deeper (envOfC qual scope s.heap.objs.size f cd)) (leaving (envOfC qual scope s.heap.objs.size f cd) e) (λ_ s''=>CX outer H s E e s'') (λe' s''=>CX outer H s E e' s'') s'
theorem Bc{a:aF}{n:Nat}{x:Str}(h:a.names.lookup x\.cell):∃ c,(cellsFrom n a.names []).lookup x\c:=by
 let q:=qJ a.names n [] (.inl h);show qH.mp q
theorem De{Q:VG}{P:ao}{w:ax}{K:zZ}{M:jb}{m:aE}{N C:jr}{j:Str}{d:aF}{f:al}{I:ak}{A:ay}{g:jB}{s U:am}{H:Hp}{E:XK}{O:jd}{D:je}(S:ZB N C d)(Y:A.handled=Y')(o:VN P w K M m A g s H)(hl:↑D=↑C)(r:ZN D O)(x:InCallC s s.heap.objs.size (bindL (envOfC j d s.heap.objs.size f I).kindOf (C.zip O) λ_=>Y') (cellsFrom (s.heap.objs.size+1) d.names []) (bindC (envOfC j d s.heap.objs.size f I).kindOf (C.zip O) λ_=>Y') U):
  ZF (X7 Q P w K M m N j d f I A g s H E) [] (UQ N D) H U:=by
 let a0:↑C<=↑N:=by have:=congrArg xI S.pre;rw[zH] at this;lia
 let#[J,tk,rfl,R]:=x.done;let B:∀ b:al,b∉(X7 Q P w K M m N j d f I A g s H E).ex:=λb z=>absurd (show b∈([]:jv) from z) ⋯
 show#[#[o.mod,S.kind,Z,Z,zW _,λy z c J l=>?_,λy t=>?_,λy c _ h=>?_,λ_=>Y,Around.frames_deeper o.frames,.inr #[Z,Z],λb z=>absurd z (B b),o.bs,o.bsz,λb _ _=>B b,λb z=>absurd z (B b),o.funs,o.frf],
  Z,o.bare,Un.kept R,#[_,x.toInCall.ns,λi y v J l h3=>?_],λy c h=>#[_,x.cell y c h],o.hok.fresh (zW _),λy c h=>?_,λp F=>absurd (show p∈([]:js) from F) ⋯,o.hok.kept R,?_]
 .show name_of_addr x.apart (PySem.mem_of_lookup J) (PySem.mem_of_lookup l)
 .let t:d.names.lookup y\.cell\/d.names.lookup y\.free:=t;rcases t with t | t
  .show Bc t
  .show absurd Z (S.nofree _ (PySem.mem_of_lookup t))
 .show yK (x.above y c (PySem.mem_of_lookup h))
 .let L:i<↑D:=by
   unfold UQ at l;by_cases L:i<↑D
   .show L
   .rw[wN (by simpa using L)] at l
    rw[List.getElem?_replicate] at l;split at l <;> cases l
  let X:D[i]?\v:=by
   unfold UQ at l;rw[wS (by simpa using L),zF] at l
   cases e:D[i]? with
   | none=>erw[e] at l
   | some a=>erw[e] at l;rfl
  let#[u,T,rv]:=r.get X;let F:C[i]?\y:=by
   rwa[<-S.pre,rM ∅,J]
  let G:C.Nodup:=by rwa[<-S.pre,S.nd.sublist (List.take_sublist _ _)]
  exists u,rv;rcases S.par y (zI F) with k | k
  .show .inl #[k,Ed G F T k]
  .let#[c,e]:=Bc (n:=s.heap.objs.size+1) k;show .inr #[.inl k,c,e,?_];let q:=x.cell y c e;rw[F8 G F T (by change d.names.lookup y≠_;rw[k];decide)] at q
   show q
 .show o.hok.fresh (yK (x.above y c (PySem.mem_of_lookup h)))
 .unfold UQ;change _=↑N;rw[zS,zY,List.length_replicate]
  lia
theorem HI{R:VG}{P:ao}{w:ax}{K:zZ}{T:jb}{h:aE}{k:Nat}{f:al}{z d:Str}{i:Arguments}{j:jJ}{a:aF}{dV kV F pm g ct oc:ak}{an od:jx}{a1:Array (jc)}{N U:jr}{sp:Sp}(lk:K.lookup f\#[oc,od,.func (xR z d i j a dV kV F pm an g ct),a1])(X:wE K g d=V')(S:ZB N U a)(O:∀ l H Q E,sp l H Q E->↑l=↑U)(B:∀ (A:ay) (c:jB) (s:am) (H:Hp) (l:je) (Q:VK) (E:XK),ZU k (A.deeper (envOfC d a s.heap.objs.size f g))->sp l H Q E ->
   ∃ t,Xm (X7 R P w K T h N d a f g A c s H E) j t/\t { nx:=λ_ p=>Q .non p,rt:=Q } (UQ N l) H):
  ZI P w K T h R (k+1) f (xR z d i j a dV kV F pm an g ct) U sp:=by
 exists O;intro A c s H args us l Q E Y G hb r M;let hl:=O _ _ _ _ M;let KX:K.In s.heap:=G.mod.kin.keeps λb o e=>(G.bs b o e).1;let a0:s.heap.NoLimit:=G.mod.nolimit.keeps λb o e=>(G.bs b o e).1;let C:∀ y∈U.zip us,a.names.lookup y.1\.local\/(a.names.lookup y.1\.cell/\((cellsFrom (s.heap.objs.size+1) a.names []).lookup y.1).isSome=V'):=λ⟨n,v⟩ hy=>by
  rcases S.par n (sH hy).1 with q | q
  .show .inl q
  .show .inr #[q,qJ _ _ _ (.inl q)]
 show codeAny_call_function Y.depth (KX _ _ lk) Z S.co S.gen Z (zEb KX X) (hb _ _ _ _ ?_);show wpAny_newFunctionEnv_cells S.kind C λa2 he s1 x=>?_;subst he;show#[a0.keeps x.toInCall.keep,codeAny_func ?_];let#[t,ht,hq]:=B A c s H l Q E (Y.deeper _) M;let I:ZF (X7 R P w K T h N d a f g A c s H E) [] (UQ N l) H s1:=De S Y.hd G hl r x;show ae (ht [] s1 (UQ N l) H _ I hq) (λfl s' D=>?_) λe s' D=>D;let L:∀{m:St}{p:Hp}{v:V}{u:ak},ZF (X7 R P w K T h N d a f g A c s H E) [] m p s'->ZQ v u->Q v p->CE c P w H s Q u s':=
  fun{m p v u} J rv q=>#[v,p,J.os,J.bare,J.base,J.hok,rv,q]
 cases fl with
 | ret u=>
  let#[v,m,p,J,rv,q]:=D;show L J rv q
 | next=>
  let#[m,p,J,q]:=D;show L (v:=V.non) (u:=Value.none) J Z q
 | brk=>
  let#[_,_,_,q]:=D;show False.elim q
 | cont=>
  let#[_,_,_,q]:=D;show False.elim q
section
variable{x:Str}{p pos:aJ}{e:Expr}{es:jy}{t:TA}{id T:String}{r:je->Hp->VK->Prop}
def Gm(r:je->Hp->VK->Prop)(t:TA):TE:=λc H Q=>t c H λb a=>r b a Q
theorem Zp(j:V7 X (.builtin id) r)(l:Gl X x)(m:X.mg x=Y')(o:az x\.builtin id)(i:PA X (e::es) t)(n:x ≠ "__name__" :=by decide)(b:(x==("__debug__" : Str))=false:=by decide)(k:aw (e::es) X.env=(false,aH e X.env)::aw es X.env:=by rfl)(c:(aG pos (aw es X.env)).any (·.1)=false:=by rfl):PE X (.Call (.Name x p) (e::es) [] pos) (Gm r t):=by
 intro a s d H Q I h;show ah (NA I l m o ?_ n b);show PyProof.Rows.callWith_builtin1 (Z8 (i pos a s d H _ I h) λw v y f g u q=>j a v d f y w Q g u q) k c
theorem VD(j:V7 X (.type T) r)(l:Gl X x)(m:X.mg x=Y')(o:az x\.type T)(i:PA X (e::es) t)(n:x ≠ "__name__" :=by decide)(b:(x==("__debug__" : Str))=false:=by decide)(k:aw (e::es) X.env=(false,aH e X.env)::aw es X.env:=by rfl)(c:(aG pos (aw es X.env)).any (·.1)=false:=by rfl):PE X (.Call (.Name x p) (e::es) [] pos) (Gm r t):=by
 intro a s d H Q I h;show ah (NA I l m o ?_ n b);show PyProof.Rows.callWith_type1 (Z8 (i pos a s d H _ I h) λw v y f g u q=>j a v d f y w Q g u q) k c
end
end L2
variable{X:L2.Cx}{prog P:ao}{w:ax}{A:ay}{E:ja}{s:am}{K:zZ}{mg:jb}{f:al}{fd:aq}{jS:aE}
namespace HT
open PySem PyProof.Rows
theorem rcLt_int(A:ay)(s:am)(a:Int)(t:Tok)(c:Int)(u:Tok)(b:ao)(w:ax)(E Q:ja)(h:Q (.bool (decide (a<c))) s):
  aC (aB b w) A (richCompare .Lt (.int a t) (.int c u)) Q E s:=
 (PyProof.Rows.lt_int h:aC (aB b w) A (aA .Lt (.int a t) (.int c u)) Q E s)
section
open PySem.SeqAt
open PySem.AutoSeq1 (wpAny_loadPart')
open PySem.MeetsSeq PySem.MeetsSeq2 PySem.MeetsSeq3
end
def sIx(n d:Nat):jD->Nat
 | none=>d
 | some v=>if v<0 then (v+(n:Int)).toNat else min v.toNat n
theorem sIx_none(n d:Nat):sIx n d Y'=d:=rfl
theorem sIx_nat(n d k:Nat):sIx n d (Z' (k:Int))=min k n:=by
 change (if (k:Int)<0 then ((k:Int)+(n:Int)).toNat else min (k:Int).toNat n)=min k n
 rw[aO ∅,tO]
end HT
namespace L2
open PySem PySem.Spec PyProof.Rows
abbrev TO:=St->Hp->(jD->Hp->Prop)->Prop
def PO(X:Cx)(e:Option Expr)(t:TO):Prop:=
 ∀(a:js)(s:am)(b:St)(H:Hp)(Q:jD->Hp->Prop),ZF X a b H s->t b H Q ->
  aC (aB X.prog X.w) X.A (evalPart e X.env) (λu d=>∃ o c,ZF X a b c d/\IsPart u o/\Q o c) X.xe s
def Mt:TO:=λ_ H Q=>Q Y' H
inductive NV(Q:jD->Hp->Prop)(x:V)(a:Hp):Prop
 |mk(i:_)(_:x=.int i)(_:Q (Z' i) a)
def NG(t:TE):TO:=λb H Q=>t b H λx a=>NV Q x a
theorem lH{a:jH}:∀{b:jd},ZN (a.map V.int) b->IntsAre b a:=by
 induction a with
 | nil=>intro b r;erw[tY] at r;show .nil
 | cons n a c=>
  intro b r;rw[yT] at r
  cases r with
  | cons d f=>
   let#[t,e]:=d;subst e;show .cons n t (c f)
section
variable{e:Expr}{te:TE}{lo hi:Option Expr}{tl th:TO}{pos p2:aJ}
theorem V3:PO X Y' Mt:=by
 intro a s b H Q I h;rwa[evalPart_none,ad #[Y',H,I,.none,h]]
theorem Ws(h:PE X e te):PO X (Z' e) (NG te):=by
 intro a s j H Q I d;rw[evalPart_some];show Z8 (h a s j H _ I d) λu k x b c g f=>?_;let#[i,rfl,q]:=f;let#[t,rfl]:=g;show#[Z' i,b,c,.int i t,q]
def Ha(X:Cx)(r:V->jD->jD->Hp->VK->Prop):Prop:=
 ∀(a:js)(s:am)(f:St)(H:Hp)(x:V)(v c d:ak)(lo hi:jD)(b:al)(Q:VK),ZF X a f H s->ZQ x v->s.heap.IsSliceOf b c d .none->IsPart c lo->IsPart d hi->r x lo hi H Q ->
  ∃ T id,typeLookup (.type T) "__getitem__" = pure (Z' (.builtin id))/\s.TypeIs v T/\aC (aB X.prog X.w) X.A (getItem v (.ref b)) (EP X a f Q) X.xe s
def N4(r:V->jD->jD->Hp->VK->Prop)(te:TE)(tl th:TO):TE:=λa H Q=>te a H λx b=>tl a b λl c=>th a c λu d=>r x l u d Q
theorem VZ{r:V->jD->jD->Hp->VK->Prop}(C:Ha X r)(y:PE X e te)(B:PO X lo tl)(E:PO X hi th):PE X (.Subscript e (.Slice lo hi Y' p2) pos) (N4 r te tl th):=by
 intro a s d H Q I h;show Subscript_ (Z8 (y a s d H _ I h) λv N x j m M J=>?_);show wpAny_Slice (Z8 (B a N d j _ m J) λf O l k n F K=>Z8 (E a O d k _ n K) λg c u i o G L=>?_);rw[evalPart_none];show ad ?_;let p:ZF X a d i { c with heap:=c.heap.push { cls:=.type "slice",data:=.fields ⇑[f,g,.none] } }:=o.kept (t':=c.toks) λb P q=>zL _ q;let#[T,id,t,D,z]:=C a { c with heap:=c.heap.push { cls:=.type "slice",data:=.fields ⇑[f,g,.none] } } d i x v f g l u c.heap.objs.size Q p M (Heap.IsSliceOf.new ..) F G L;change aC (aB X.prog X.w) X.A (subscriptTail e (.Slice lo hi Y' p2) v (.ref c.heap.objs.size)) (EP X a d Q) X.xe { c with heap:=c.heap.push { cls:=.type "slice",data:=.fields ⇑[f,g,.none] } };show tail_any (ops:=[.ref c.heap.objs.size,v]) D t z (by with_unfolding_all rfl)
def QR(a:je)(lo hi:jD):je:=(a.drop (HT.sIx ↑a 0 lo)).take (HT.sIx ↑a ↑a hi-HT.sIx ↑a 0 lo)
theorem A8(a:je)(lo hi:jD):↑(QR a lo hi)<=↑a:=by
 unfold QR;rwa[zH,yV,zK (qF _ _) (uV _ _)]
end
def QD(n:Nat)(i:Int):ju:=if 0<=i then (if i<n then Z' i.toNat else Y') else if -(n:Int)<=i then Z' (i+n).toNat else Y'
def Vx{b:Type}(a:List b)(i:Int):Option b:=(QD ↑a i).bind λj=>a[j]?
theorem AF{n:Nat}{i:Int}{j:Nat}(h:QD n i\j):seqIndex? i n\j/\j<n /\ -(n:Int)<=i/\i<n:=by
 unfold QD at h;by_cases b:0<=i
 .rw[aP b] at h;by_cases a:i<n
  .rw[aP a] at h;let e:i.toNat=j:=yP.inj h;show#[by rw[seqIndex_of b a,e],∅,∅,a]
  .erw[aO a] at h
 .rw[aO b] at h;by_cases a : -(n:Int)<=i
  .rw[aP a] at h;let e:(i+n).toNat=j:=yP.inj h;show#[by rw[seqIndex_neg ∅ a,e],∅,a,∅]
  .erw[aO a] at h
theorem GM{b:Type}{a:List b}{i:Int}{v:b}(h:Vx a i\v):∃ j,seqIndex? i ↑a\j/\a[j]?\v/\j<↑a /\ -(↑a:Int)<=i/\i<↑a:=by
 unfold Vx at h
 cases e:QD ↑a i with
 | none=>erw[e] at h
 | some j=>
  rw[e] at h;let#[c,d,f,g]:=AF e;show#[j,c,h,d,f,g]
theorem YW{b:Type}{a:List b}{j:Nat}{v:b}(h:a[j]?\v):Vx a (j:Int)\v:=by
 let c:j<↑a:=(yL.mp h).1;let e:QD ↑a (j:Int)\j:=by
  unfold QD;rw[aP ∅,aP ∅];simp
 unfold Vx;rwa[e,h]
theorem E3{b:Type}(a:List b)(v:b):Vx (a++[v]) (-1)\v:=by
 let c:↑(a++[v])=↑a+1:=by simp
 let e:QD ↑(a++[v]) (-1)\↑a:=by
  unfold QD;rw[c,aO (by decide),aP ∅]
  congr 1
  lia
 unfold Vx;rw[e];change (a++[v])[a.length]?\v;simp
def HR(b:Expr):Prop:=∀ o i,subscripted b false o i=operate [o,i] (getItem o i)
def Qg(X:Cx)(r:R2):Prop:=
 ∀(c a:Expr)(b:js)(s:am)(d:St)(H:Hp)(x y:V)(v u:ak)(Q:VK),ZF X b d H s->ZQ x v->ZQ y u->r x y H Q ->
  subscripted a false v u=operate [v,u] (getItem v u)->aC (aB X.prog X.w) X.A (subscriptTail c a v u) (EP X b d Q) X.xe s
def MK(X:Cx)(id:String)(r:V->je->Hp->VK->Prop):Prop:=
 ∀(a:js)(s:am)(d:St)(H:Hp)(x:V)(c:je)(v:ak)(b:jd)(Q:VK),ZF X a d H s->ZQ x v->ZN c b->r x c H Q ->
  aC (aB X.prog X.w) X.A (call (.builtin id) (v::b)) (EP X a d Q) X.xe s
section
variable{a b:Expr}{ta tb:TE}{pos:aJ}
theorem Qg.or{r g:R2}(h:Qg X r)(l:Qg X g):Qg X (λx y H Q=>r x y H Q\/g x y H Q):=by
 intro d c e s k H x y v u Q I i j q f;rcases q with q | q
 .show h d c e s k H x y v u Q I i j q f
 .show l d c e s k H x y v u Q I i j q f
theorem Xd{r:R2}(i:Qg X r)(f:PE X a ta)(g:PE X b tb)(j:HR b):PE X (.Subscript a b pos) (VI r ta tb):=by
 intro c s n H Q I h;show Subscript_ (Gf f g I h λv u m x y d e k l q=>i a b c m n d x y v u Q e k l q (j _ _))
inductive Mg(K:zZ)(x y:V)(H:Hp)(Q:VK):Prop
 |mk(p c i v:_)(_:x=.ref p)(_:y=.int i)(_:ZH K H p c)(_:Vx c i\v)(_:Q v H)
inductive Py(K:zZ)(x y:V)(H:Hp)(Q:VK):Prop
 |mk(p c i v:_)(_:x=.ref p)(_:y=.int i)(_:Zd K H p c)(_:Vx c i\v)(_:Q v H)
inductive LC(x y:V)(H:Hp)(Q:VK):Prop
 |mk(z i c:_)(_:x=.str z)(_:y=.int i)(_:↑z<=au)(_:Vx z.cps.toList i\c)(_:Q (.str ⟨⇑[c]⟩) H)
theorem Z1:Qg X (Mg X.K):=by
 intro n m c s C H x y v u Q I M N h B;let#[p,T,i,z,rfl,rfl,L,G,q]:=h;cases M;let#[t,rfl]:=N;let#[g,r,k,S]:=I.list L;let#[j,e,D,P,E,F]:=GM G;let#[w,o,l]:=r.get D;let J:=↑r;let R:=O6;let d:EP X c C Q w s:=#[z,H,I,l,q];by_cases A:0<=i
 .let f:i.toNat=j:=by
   rw[seqIndex_of A F] at e;show yP.inj e
  show item_listR k.isList A ∅ (by rw[f];simpa using o) d B
 .let f:(i+(g.toArray.size:Int)).toNat=j:=by
   rw[seqIndex_neg ∅ E] at e
   rwa[zB,<-J,yP.inj e]
  show subscriptTail_builtinR (x:=w) k.isList.typeIs slot_list_getitem.lookup
   (wpAny_getItem_list_neg (Q:=λr O=>r=w/\EP X c C Q r O) k.isList ∅ (by rw[zB] <;> lia) ∅ (by rw[f];simpa using o) #[Z,d]) B
theorem YD:Qg X (Py X.K):=by
 intro g f c s l H x y v u Q I F G h D;let#[p,R,i,z,rfl,rfl,C,A,q]:=h;cases F;let#[t,rfl]:=G;let#[E,r,k,P]:=I.tuple C;let#[j,n,o,L,M,N]:=GM A;let#[w,m,e]:=r.get o;let B:=↑r;let O:=O6;let d:EP X c l Q w s:=#[z,H,I,e,q];show subscriptTail_builtinR (x:=w) k.typeIs slot_tuple_getitem.lookup
  (getItem_tuple (j:=j) (Q:=λr J=>r=w/\EP X c l Q r J) k ∅ ∅ (by rwa[zB,<-B,n]) (by simpa using m) #[Z,d]) D
theorem LU:Qg X LC:=by
 intro e d g s G H x y v u Q I A B h w;let#[z,i,c,rfl,rfl,E,p,q]:=h;let#[t,rfl]:=A;let#[F,rfl]:=B;let#[j,f,m,C,n,o]:=GM p;let r:↑z.cps.toList=↑z:=by simp[wM]
 rw[r] at f n o;let D:=O6;show tail_any (typeIs_str s z t) slot_str_getitem.lookup (getItem_str (c:=c) (by
  let k:decide (i < -(2 ^ 63:Int))=false:=aK ∅
  let l:decide (i ≥ 2 ^ 63)=false:=aK ∅
  rw[k,l,Bool.or_false]) (by rw[f];simpa using m) #[.str #[⇑[c]],H,I.tok _,#[1],q]) w
def JD(K:zZ):R2:=λx y H Q=>Mg K x y H Q\/Py K x y H Q\/LC x y H Q
theorem Ee:Qg X (JD X.K):=Z1.or (YD.or LU)
theorem XI{X:Cx}{a b:Expr}{ta tb:TE}{pos:aJ}(K:zZ)(c:PE X a ta)(d:PE X b tb)(f:HR b:=by show λ_ _=>rfl)(e:Qg X (Py K):=by show YD):PE X (.Subscript a b pos) (VI (Py K) ta tb):=Xd e c d f
theorem YC{X:Cx}{a b:Expr}{ta tb:TE}{pos:aJ}(K:zZ)(c:PE X a ta)(d:PE X b tb)(f:HR b:=by show λ_ _=>rfl)(e:Qg X (JD K):=by show Ee):PE X (.Subscript a b pos) (VI (JD K) ta tb):=Xd e c d f
theorem lU(c:jd)(n j:Nat)(u:ak):Obj.mapSeq (·.setIfInBounds j u) { cls:=.type "list",data:=.seq ⇑c n }={ cls:=.type "list",data:=.seq ⇑(c.set j u) n }:=by
 simp[Obj.mapSeq]
theorem ZF.lst{d:js}{g:St}{H:Hp}{s:am}{p:al}{f:je}(I:ZF X d g H s)(h:H p\.lst f):
  ∃(c:jd)(n:Nat),ZN f c/\s.heap.get? p\{ cls:=.type "list",data:=.seq ⇑c n }/\↑f<=sizeLine:=by
 let#[z,c,n,r,e]:=I.hok p _ h;show#[c,n,r,e,z]
theorem ZF.lstUpd{d:js}{l:St}{H:Hp}{s:am}{p:al}{w j:je}{g c:jd}{n i:Nat}{f:aI->aI}(I:ZF X d l H s)(h:H p\.lst w)(o:s.heap.get? p\{ cls:=.type "list",data:=.seq ⇑g n })(k:f { cls:=.type "list",data:=.seq ⇑g n }={ cls:=.type "list",data:=.seq ⇑c i })(r:ZN j c)(v:↑j<=au)(t:Nat):
  ZF X d l (upd H p (.lst j)) { s with heap:=s.heap.update p f,toks:=t }:=by
 let e:(s.heap.update p f).get? p\{ cls:=.type "list",data:=.seq ⇑c i }:=by
  rw[wI f o (by rw[k] <;> rfl),k]
 show I.write (x:=p) (e:=p) (by rw[h];trivial) (.inl Z) (λb u m q=>(wH _ _ (Ne.symm m)).trans q) #[_,e] ?_
 show#[v,c,i,r,e]
inductive Lf(o i v:V)(H:Hp)(Q:Hp->Prop):Prop
 |mk(p c k j:_)(_:o=.ref p)(_:i=.int k)(_:H p\.lst c)(_:QD ↑c k\j)(_:Q (upd H p (.lst (c.set j v))))
theorem Ld:Cu X Lf:=by
 intro d s G H o i v M L u Q I D C E h;let#[p,F,k,j,rfl,rfl,z,A,q]:=h;cases D;let#[t,rfl]:=C;let#[c,n,r,l,B]:=I.lst z;let#[e,J,x,y]:=AF A;let g:=↑r;let K:=O6;let m:ZF X d G (upd H p (.lst (F.set j v))) { s with heap:=s.heap.update p (Obj.mapSeq (·.setIfInBounds j u)) }:=
  I.lstUpd z l (lU c n j u) (r.set E j) #v[sW,B] s.toks
 by_cases w:0<=k
 .let f:k.toNat=j:=by
   rw[seqIndex_of w y] at e;show yP.inj e
  show PySem.W.ki_setAt l w ∅ (by rwa[zB,<-g,y]) #v[f,#[_,m,q]]
 .let f:(k+(c.toArray.size:Int)).toNat=j:=by
   rw[seqIndex_neg ∅ x] at e
   rwa[zB,<-g,yP.inj e]
  show PySem.W.ki_setBack l ∅ (by rwa[zB,<-g,x]) ∅ #v[f,#[_,m,q]]
theorem kg(d c:jD)(n:Nat):(sliceBounds d c Y' n).1=((HT.sIx n 0 d:Nat):Int)/\(sliceBounds d c Y' n).2.1=((HT.sIx n n c:Nat):Int)/\(sliceBounds d c Y' n).2.2=1:=by
 show#[?_,?_,Z]
 .cases d with
  | none=>simp[sliceBounds,HT.sIx]
  | some i=>
   simp only[sliceBounds,HT.sIx,Option.getD_none,show (1:Int) > 0 by decide,if_true]
   by_cases h:i<0
   .simp only[h,if_true] <;> lia
   .simp only[h,if_false] <;> lia
 .cases c with
  | none=>simp[sliceBounds,HT.sIx]
  | some i=>
   simp only[sliceBounds,HT.sIx,Option.getD_none,show (1:Int) > 0 by decide,if_true]
   by_cases h:i<0
   .simp only[h,if_true] <;> lia
   .simp only[h,if_false] <;> lia
theorem Ax(c:jd)(d e:jD):slicePick ⇑c d e Y'=⇑((c.drop (HT.sIx ↑c 0 d)).take (HT.sIx ↑c ↑c e-HT.sIx ↑c 0 d)):=by
 let#[f,g,h]:=kg d e c.toArray.size;unfold slicePick;rw[f,g,h];simp only[sliceRange_one,pick_run,zB] <;> rfl
inductive Yj(K:zZ)(x:V)(e d:jD)(H:Hp)(Q:VK):Prop
 |mk(a c:_)(_:x=.ref a)(_:ZH K H a c)(_:∀ p,H p=Y'->Q (.ref p) (upd H p (.lst (QR c e d))))
theorem V2:Ha X (Yj X.K):=by
 intro i s A H x v y z e f w Q I t j n p h;let#[a,c,rfl,k,q]:=h;cases t;let#[m,r,g,l]:=I.list k;let d:=↑r;exists "list",_,slot_list_getitem.lookup,g.isList.typeIs;show wpAny_getItem_list_slice g.isList j n p .none ⋯ ?_ (by rw[zB] <;> lia)
 rw[Ax,<-d];show#[.ref s.heap.objs.size,_,I.laid (t':=s.toks) (o:=.lst (QR c e f)) (λb u q=>zL _ q) (zW _) ?_,Z,q _ (I.hok.fresh (zW _))];show#[zK (A8 c e f) l,_,(0),(r.drop (HT.sIx ↑c 0 e)).take (HT.sIx ↑c ↑c f-HT.sIx ↑c 0 e),yO _ Z]
def Oj:V->Bool
 | .non=>true
 | .bl _=>true
 | .int _=>true
 | .str _=>true
 | _=>false
def Pv:V->V->Bool
 | .non,.non=>true
 | .bl a,.bl b=>a==b
 | .bl a,.int b=>(if a then 1 else 0)==b
 | .int a,.bl b=>a==(if b then 1 else 0)
 | .int a,.int b=>a==b
 | .str a,.str b=>a==b
 | _,_=>false
theorem xu{A:ay}{s:am}{y x:V}{u v:ak}(f:ZQ y u)(c:ZQ x v)(g:Oj y=V')(e:Oj x=V'):SeqAt.EqAt A s u v (Pv y x):=by
 cases y with
 | non=>
  cases f
  cases x with
  | non=>cases c;show SeqAt.EqAt.same _
  | bl b=>cases c;show SeqAt.EqAt.none_bool b
  | int b=>let#[t,rfl]:=c;show SeqAt.EqAt.none_int b t
  | str b=>let#[t,rfl]:=c;show SeqAt.EqAt.none_str b t
  | _=>show absurd (show false=V' from e) zR
 | bl a=>
  cases f
  cases x with
  | non=>cases c;show SeqAt.EqAt.bool_none a
  | bl b=>cases c;show SeqAt.EqAt.bool_bool a b
  | int b=>let#[t,rfl]:=c;show SeqAt.EqAt.bool_int a b t
  | str b=>let#[t,rfl]:=c;show SeqAt.EqAt.bool_str a b t
  | _=>show absurd (show false=V' from e) zR
 | int a=>
  let#[d,rfl]:=f
  cases x with
  | non=>cases c;show SeqAt.EqAt.int_none a d
  | bl b=>cases c;show SeqAt.EqAt.int_bool a d b
  | int b=>let#[t,rfl]:=c;show SeqAt.EqAt.int_int a d b t
  | str b=>let#[t,rfl]:=c;show SeqAt.EqAt.int_str a d b t
  | _=>show absurd (show false=V' from e) zR
 | str a=>
  let#[d,rfl]:=f
  cases x with
  | non=>cases c;show SeqAt.EqAt.str_none a d
  | bl b=>cases c;show SeqAt.EqAt.str_bool a d b
  | int b=>let#[t,rfl]:=c;show SeqAt.EqAt.str_int a d b t
  | str b=>let#[t,rfl]:=c;show SeqAt.EqAt.str_str a d b t
  | _=>show absurd (show false=V' from e) zR
 | _=>show absurd (show false=V' from g) zR
def OY(x:V)(u:ak):Bool:=match u with
 | .none=>Pv .non x
 | .bool b=>Pv (.bl b) x
 | .int i _=>Pv (.int i) x
 | .str z _=>Pv (.str z) x
 | _=>false
theorem Fw{x y:V}{u:ak}(r:ZQ y u)(f:Oj y=V'):OY x u=Pv y x:=by
 cases y with
 | non=>cases r;rfl
 | bl b=>cases r;rfl
 | int i=>let#[t,rfl]:=r;rfl
 | str z=>let#[t,rfl]:=r;rfl
 | _=>show absurd (show false=V' from f) zR
theorem Hb{x:V}:∀{c:je}{d:jd},ZN c d->c.all Oj=V'->d.any (OY x)=c.any λy=>Pv y x
 | _,_,.nil,_=>rfl
 | y::c,u::d,.cons r t,f=>by
  rw[vH,zT] at f;rw[uH,uH,Fw r f.1,Hb t f.2]
theorem HC{A:ay}{s:am}{x:V}{v:ak}(h:ZQ x v)(g:Oj x=V'):∀{e:je}{d:jd},ZN e d->e.all Oj=V'->∀ u∈d,SeqAt.EqAt A s u v (OY x u)
 | _,_,.nil,_=>λu c=>by cases c
 | y::e,u::d,.cons r t,f=>λi c=>by
  rw[vH,zT] at f;rcases zN.mp c with rfl | c
  .rwa[Fw r f.1,xu r h f.1 g]
  .show HC h g t f.2 i c
def Ku(x:V)(c:je):Bool:=c.any λy=>Pv y x
inductive SS(K:zZ)(d:Bool)(x y:V)(H:Hp)(Q:VK):Prop
 |mk(p c:_)(_:y=.ref p)(_:ZH K H p c\/Zd K H p c)(_:Oj x=V')(_:c.all Oj=V')(_:Q (.bl (if d then !Ku x c else Ku x c)) H)
theorem ki:XS X (aA .NotIn) (SS X.K true):=by
 intro j s o H x y v u Q I k m h;let#[p,n,rfl,d,i,e,q]:=h;cases m;rcases d with d | d
 .let#[c,r,g,l]:=I.list d;show SeqAt.notIn_listAt (OY x) g.isList (λw f=>HC k i r e w (by simpa using f)) #[.bl _,H,I,Z,?_]
  rw[show c.toArray.any (OY x)=c.any (OY x) by simp,Hb r e]
  show q
 .let#[c,r,g,l]:=I.tuple d;show SeqAt.notIn_tupleAt (OY x) g (λw f=>HC k i r e w (by simpa using f)) #[.bl _,H,I,Z,?_]
  rw[show c.toArray.any (OY x)=c.any (OY x) by simp,Hb r e]
  show q
inductive VM(d:zZ)(e:je)(H:Hp)(Q:VK):Prop
 |mk(p c:_)(_:e=[.ref p])(_:ZH d H p c\/Zd d H p c)(_:Q (.int ↑c) H)
theorem YO:V7 X (.builtin "len") (VM X.K):=by
 intro i s t H o n Q I r h;let#[p,j,rfl,d,q]:=h;let#[u,rfl,l]:=UG r;cases l;let m:=O6;rcases d with d | d
 .let#[e,g,f,k]:=I.list d;let c:=↑g;show Calls.call_len_list f.isList (by simp only[zB] <;> lia) #[.int ↑j,H,I.tok _,#[s.toks+1,by rw[zB,c]],q]
 .let#[e,g,f,k]:=I.tuple d;let c:=↑g;show len_tuple f (by simp only[zB] <;> lia) #[.int ↑j,H,I.tok _,#[s.toks+1,by rw[zB,c]],q]
inductive VP(c:je)(H:Hp)(Q:VK):Prop
 |mk(z:_)(_:c=[.str z])(_:↑z<=au)(_:Q (.int ↑z) H)
theorem Bd:V7 X (.builtin "len") (VP):=by
 intro c s i H g f Q I r h;let#[z,rfl,e,q]:=h;let#[u,rfl,t,rfl]:=UG r;let d:=O6;show len_str ∅ #[.int ↑z,H,I.tok _,#[1],q]
inductive VO(d:zZ)(e:je)(H:Hp)(Q:VK):Prop
 |mk(p c:_)(_:e=[.ref p])(_:ZH d H p c\/Zd d H p c)(_:∀ l,H l=Y'->Q (.ref l) (upd H l (.lst c)))
theorem LJ:V7 X (.type "list") (VO X.K):=by
 intro t s D H F E Q I r h;let#[p,A,rfl,k,q]:=h;let#[u,rfl,C]:=UG r;cases C;let i:∀(c:jd),ZN A c->↑A<=au->∀(d:aE)(f:Nat),(∀ b B,s.heap.get? b\B->d.get? b\B) ->
   d.get? s.heap.objs.size\{ cls:=.type "list",dict:=Y',data:=.seq ⇑c f,slots:=⇑[] }->EP X t D Q (.ref s.heap.objs.size) { s with heap:=d }:=λc g l d f m e=>
  #[.ref s.heap.objs.size,_,I.laid (t':=s.toks) m (zW _) (show Zc X.prog X.w _ d _ (.lst A) from #[l,c,f,g,e]),Z,q _ (I.hok.fresh (zW _))]
 rcases k with k | k
 .let#[c,g,z,l]:=I.list k;let j:=↑g;let#[o,y,v,n,x]:=z.isList;show call_list_seq p (.inl Z) y v x (λd f m e=>i c g l d f m e) (by simp only[zB] <;> lia)
 .let#[c,g,z,l]:=I.tuple k;let j:=↑g;let#[o,y,v,n,x]:=z;show call_list_seq p (.inr Z) y v x (λd f m e=>i c g l d f m e) (by simp only[zB] <;> lia)
inductive Wv(d:zZ)(e:je)(H:Hp)(Q:VK):Prop
 |mk(p c:_)(_:e=[.ref p])(_:(ZH d H p c/\∀ l,H l=Y'->Q (.ref l) (upd H l (.tup c)))\/(Zd d H p c/\Q (.ref p) H))
theorem KU:V7 X (.type "tuple") (Wv X.K):=by
 intro c s t H A z Q I r h;let#[p,n,rfl,h]:=h;let#[u,rfl,y]:=UG r;cases y;rcases h with ⟨g,q⟩ | ⟨g,q⟩
 .let#[d,j,i,m]:=I.list g;let l:=↑j;show call_tuple_list i.isList (λf x=>?_) (by simp only[zB] <;> lia)
  let k:ZF X c t H { s with heap:=f }:=I.kept (t':=s.toks) x;let v:ZF X c t (upd H f.objs.size (.tup n)) { s with heap:=f.push { cls:=.type "tuple",data:=.seq ⇑d } }:=
   k.laid (t':=s.toks) (λb o e=>zL _ e) (zW _) (show Zc X.prog X.w _ _ _ (.tup n) from #[m,d,j,IsTup.new _ _])
  show#[.ref f.objs.size,_,v,Z,q _ (k.hok.fresh (zW _))]
 .let#[d,j,i,m]:=I.tuple g;show call_tuple_same i #[.ref p,H,I,Z,q]
def JX(K:zZ)(T:String)(x:V)(H:Hp):Prop:=match x with
 | .str _=>T = "str"
 | .int _=>T = "int"
 | .ref p=>(T = "list" /\ ∃ d,ZH K H p d)\/(T = "tuple" /\ ∃ o,K.lookup p\o/\o.cls=.type "tuple" /\ o.dict=Y') \/
   (T = "dict" /\ ((∃ c,H p\.dK c)\/∃ c,H p\.dT c))\/(T = "set" /\ ∃ S n,H p\.set S n)
 | _=>False
theorem B4{g:js}{A:St}{H:Hp}{s:am}{T:String}{x:V}{v:ak}(I:ZF X g A H s)(r:ZQ x v)(h:JX X.K T x H):
  s.TypeIs v T/\∀ a,v=.ref a->∃ m,s.heap.get? a\m/\m.dict=Y':=by
 cases x with
 | str z=>
  let#[t,rfl]:=r;cases(show T = "str" from h);show#[typeIs_str s z t,λ_ e=>nomatch e]
 | int i=>
  let#[t,rfl]:=r;cases(show T = "int" from h);show#[typeIs_int s i t,λ_ e=>nomatch e]
 | ref p=>
  cases r;rcases h with ⟨rfl,B,w⟩ | ⟨rfl,o,d,u,k⟩ | ⟨rfl,d⟩ | ⟨rfl,S,n,d⟩
  .let#[y,_,q,_]:=I.list w;exists q.isList.typeIs;intro a e;cases e;let#[o,n,e,c,k,_]:=q;show#[o,e,k]
  .exists #[o,I.kIn p o d,u];intro a e;cases e;show#[o,I.kIn _ o d,k]
  .let z:∃ o,s.heap.get? p\o/\o.ExactDict:=by
    rcases d with ⟨l,d⟩ | ⟨l,d⟩
    .let#[_,_,_,_,o,_,_,e,f,_]:=I.hok p _ d;show#[o,e,f]
    .let#[_,_,_,_,o,_,_,e,f,_]:=I.hok p _ d;show#[o,e,f]
   let#[o,e,f]:=z;exists #[o,e,f.1];intro a j;cases j;show#[o,e,f.2.1]
  .let#[o,_,_,_,e,f,_]:=I.hok p _ d;exists #[o,e,f.1];intro a j;cases j;show#[o,e,f.2.1]
 | _=>show False.elim h
def BG(K:zZ)(T:String)(r:V->je->Hp->VK->Prop)(d:TE):TE:=λe H Q=>d e H λx c=>JX K T x c/\r x [] c Q
def SV(K:zZ)(T:String)(r:V->je->Hp->VK->Prop)(f:TE)(t:TA):TE:=λd H Q=>f d H λx c=>JX K T x c/\t d c λg e=>r x g e Q
variable{o e:Expr}{es:jy}{to:TE}{t:TA}{name:Str}{jh jg:aJ}{T id:String}{r:V->je->Hp->VK->Prop}
theorem yd(w:PlainAttrs T)(g:Slot T name id)(i:typeOf (.builtin id)=pure (.type "method_descriptor"))(q:MK X id r)(u:PE X o to)(d:attributeBase o name X.env (aH o X.env)=aH o X.env:=by rfl)(f:(jh.endLine==jg.line)=V':=by rfl):PE X (.Call (.Attribute o name jh) [] [] jg) (BG X.K T r to):=by
 intro c s l H Q I h;show wpAny_Call_method0_late d f (Z3 (u c s l H _ I h) ?_);rintro v z ⟨x,m,j,k,A,y⟩;let#[n,p]:=B4 j k A;show#[T,id,w,g,i,n,p,Calls.callWith_builtin Z (PySem.evalArgs_none (q c z l m x [] v [] Q j k .nil y))]
theorem Vo(E:PlainAttrs T)(j:Slot T name id)(k:typeOf (.builtin id)=pure (.type "method_descriptor"))(B:MK X id r)(C:PE X o to)(A:PA X (e::es) t)(f:attributeBase o name X.env (aH o X.env)=aH o X.env:=by rfl)(i:((aG jg (aw (e::es) X.env)).all (λx=>!x.1)&&(backToKw jg (keywordEach [] X.env)).all (λx=>x.1.isSome)
   && decide (↑(e::es)+↑([]:List Keyword)+(if ([]:List Keyword).isEmpty then 0 else 1)<30))=V':=by rfl)(g:(jh.endLine==jg.line)=V':=by rfl)(D:aw (e::es) X.env=(false,aH e X.env)::aw es X.env:=by rfl)(d:(aG jg (aw es X.env)).any (·.1)=false:=by rfl):
  PE X (.Call (.Attribute o name jh) (e::es) [] jg) (SV X.K T r to t):=by
 intro c s l H Q I h;show wpAny_Call_method_late f i g Z (Z3 (C c s l H _ I h) ?_);rintro v L ⟨x,q,m,p,N,F⟩;let#[y,z]:=B4 m p N;exists T,id,E,j,k,y,z;let n:=A jg c L l q _ m F;rw[D] at n⊢;show Calls.callWith_builtin (by change (false || (aG jg (aw es X.env)).any (·.1))=false;rw[d] <;> rfl) (Calls.evalArgs_plain ?_)
 show Z8 n λO M P u w J G=>B c M l u x P v O Q w p J G
end
def Jx(X:Cx)(id:String)(r:V->je->Hp->VK->Prop):Prop:=
 ∀(a:js)(s:am)(d:St)(H:Hp)(x:V)(c:je)(v:ak)(b:jd)(Q:VK),ZF X a d H s->ZQ x v->ZN c b->r x c H Q ->
  aC (aB X.prog X.w) X.A (call (.builtin id) (v::b)) (EP X a d Q) X.xe s
theorem ZN.one:∀{x:V}{a:jd},ZN [x] a->∃ u,a=[u]/\ZQ x u:=λh=>by cases h with | cons r n=>cases n;show#[1,r]
theorem ZN.two:∀{x y:V}{a:jd},ZN [x,y] a->∃ u v,a=[u,v]/\ZQ x u/\ZQ y v
 :=λh=>by
 cases h with
 | cons r h=>cases h with
  | cons q h=>cases h;show#[_,1,r,q]
section
variable{jR:js}{σ:St}{H:Hp}{l b:al}{xs ys zs:je}
theorem ZF.lset{a its':jd}{n:Nat}{f:jw->jw}{k:Nat}(I:ZF X jR σ H s)(c:H l\.lst xs)(e:s.heap.get? l\{ cls:=.type "list",data:=.seq ⇑a n })(g:f ⇑a=⇑its')(i:ZN ys its')(j:↑ys<=au):
  ZF X jR σ (upd H l (.lst ys)) { s with heap:=s.heap.update l (Obj.mapSeq f),toks:=k }:=by
 let q:=PySem.IsL.update e f;rw[g] at q;show I.write (x:=l) (e:=l) #v[c,trivial] (.inl Z) (λm u d h=>(wH s.heap (Obj.mapSeq f) (Ne.symm d)).trans h) #[_,q] ?_
 show#[j,its',_,i,q]
theorem ZF.lnew{a:jd}{t':Nat}(I:ZF X jR σ H s)(c:ZN ys a)(d:↑ys<=au):
  ZF X jR σ (upd H s.heap.objs.size (.lst ys)) { s with heap:=s.heap.push { cls:=.type "list",data:=.seq ⇑a },toks:=t' }:=
 I.laid (λ_ _ q=>zL _ q) (zW _) #[d,a,(0),c,yO _ Z]
theorem ZF.fresh(I:ZF X jR σ H s):H s.heap.objs.size=Y':=I.hok.fresh (zW _)
theorem ZF.lstM(I:ZF X jR σ H s)(c:H l\.lst xs):↑xs<=au/\∃(a:jd)(n:Nat),ZN xs a/\↑xs=↑a/\s.heap.get? l\{ cls:=.type "list",data:=.seq ⇑a n }:=by
 let#[z,a,n,r,e]:=I.hok l _ c;show#[z,a,n,r,↑r,e]
end
inductive OH(x:V)(b:je)(H:Hp)(Q:VK):Prop
 |mk(l a y:_)(_:x=.ref l)(_:b=[y])(_:H l\.lst a)(_:↑a<au)(_:Q .non (upd H l (.lst (a++[y]))))
theorem Ql:Jx X "list.append" OH:=by
 intro c s p H x m v k Q I g f h;let#[l,o,y,rfl,rfl,b,j,q]:=h;cases g;let#[u,rfl,d]:=f.one;let#[z,a,n,r,i,e]:=I.lstM b;show call_meets F.slot_list_append #[_,e,Z] F.entry_list_append (F.args_list_append_2 _ _) (PySem.list_append l ⇑a n u (by rw[zB];lia)) #[e,?_]
 show#[.non,_,I.lset (its':=a++[u]) b e ⋯ (r.append (.cons d .nil)) ?_,Z,q]
 rw[zS,wW]
 lia
inductive QA(x y:V)(H:Hp)(Q:VK):Prop
 |mk(l b a c:_)(_:x=.ref l)(_:y=.ref b)(_:H l\.lst a)(_:H b\.lst c)(_:↑a+↑c<=au)(_:∀ p,H p=Y'->Q (.ref p) (upd H p (.lst (a++c))))
theorem Xn:XS X (binaryOp .Add) QA:=by
 intro d s E H x y v u Q I o p h;let#[l,b,B,D,rfl,rfl,j,i,w,q]:=h;cases o;cases p;let#[z,c,n,r,t,e]:=I.lstM j;let#[C,a,A,m,k,f]:=I.lstM i;show PySem.P.add_list e f ?_ (by rw[zB,zB];lia)
 let g:⇑c++⇑a=⇑(c++a):=by simp
 rwa[g,#[.ref _,_,I.lnew (t':=s.toks) (r.append m) (by rw[zS];lia),Z,q _ I.fresh]]
end L2
namespace Att
open PySem PySem.W PySem.Calls PyProof.Rows
theorem j'{P:Params}{h:aE}:∀(c:jH)(d:jd),WellAll P h d (c.map WData.int)->IntsAre d c:=by
 intro c
 induction c with
 | nil=>
  intro d w;erw[tY] at w;show .nil
 | cons n c e=>
  intro d w;rw[yT] at w
  cases w with
  | cons a b=>
   cases a;show .cons _ _ (e _ b)
theorem nP{l:OpenLaw}{n:Nat}(v:l.most\n){P:Params}{h:aE}{args:List WData}{e:jd}(c:l.row.toRowW.claim.pre args=V')(m:WellAll P h e args):
  ∃ a p b,e=[Value.ref a]/\args=[WData.list (b.map WData.int)]/\h.get? a\{ cls:=.type "list",data:=.seq ⇑p }/\IntsAre p b/\↑b<=n:=by
 let k:WShape.hasAll [] args [.list .int]=V':=(pre_splitW c).1;let o:l.pre.holds [] { args:=args }=V':=(pre_splitW c).2;let#[d,r,rfl,s,t]:=hasAllW_cons k;obtain rfl:=hasAllW_nil t;let#[z,rfl,u]:=hasW_list s;let#[b,rfl]:=items_int u;let g:↑b<=n:=by
  unfold OpenLaw.pre at o;let i:(WTm.not (.lt (.lit (.int (n:Int))) (.len (.arg 0)))).holds [] { args:=[.list (b.map .int)] }=V':=by
   let i:=(holds_andW o).1;rw[v] at i;show i
  let j:=condW_of i (w_not (w_lt w_lit (w_len_list (w_arg Z))));rw[zY] at j;show uP λq=>?_;let x:(n:Int)<((↑b:Nat):Int):=∅
  first
   | (rw[aM x] at j;show absurd j (by decide))
   | (simp at j;lia)
 cases m with
 | cons w1 y=>
  cases y
  cases w1 with
  | list w f=>show#[_,_,b,Z,Z,w,j' b _ f,g]
theorem ng(l:OpenLaw)(args:List WData):l.row.toRowW.claim.post args (.bool true) args=V':=
 postW_of (r:=l.row.toRowW) (X:=(true==true))
  (show WShape.has [] (.bool true) .bool=V' by first | rfl | decide | simp[WShape.has,WShape.arms,WShape.armsAll])
  (show (WTm.eq .res (.lit (.bool true))).value [] { args:=args,res:=Z' (.bool true),after:=args }\.bool (true==true) from w_eq_bool (w_res Z) w_lit) Z
theorem attach_call{l:OpenLaw}{n:Nat}{q:ao}{c:jr}{E:(jb)->aE->Prop}{F:ax->aE->Prop}{d:DefRec}(S:l.most\n)(z:d.params.defaults=[])(j:∀ (w:ax) (e b:am) (u C:jb) (k:al) (o:aI) (D t g:ak) (a:al) (i:jd) (v:jH),
   Ground q c [] E w e u C b.heap->F w b.heap ->
   b.heap.get? k\o->o.data=.func (docDef d.name d.params d.body d.scope D t g)->b.heap.CodeRec t d.name->u d.name=Z' (.ref k) ->
   b.heap.get? a\{ cls:=.type "list",data:=.seq ⇑i }->IntsAre i v->↑v<=n->b.gens=⇑[] ->
   codeAny (aB l.prog w) callerA (.call (.ref k) #[[.ref a],[]]) (λr x=>r=.ok (.ret (.bool true))/\OldK b.heap x.heap/\x.os=b.os/\AllBare x.gens) b):
  WalkO q c E F l.row.toRowW d [] (λf i=>PySem.call f i):=by
 intro w e b u C G Y k o D t g K kV T O y H A P args J W s I V B Q;obtain rfl:K=.none:=Dflts.none H z;obtain rfl:kV=.none:=Dflts.noKw H;let#[a,i,v,rfl,rfl,p,h,m]:=nP S s B;show enter_call (codeAny_mono (j w e b u C k o D t g a i v G Y T (fd_plain O) y A p h m P) λr x U=>?_);let#[rfl,L,M,N]:=U;show#[.inl #[.bool true,.bool true,[],Z,λ_=>rfl,.bool true,ng l _,λ_=>#[sM.nil,λ_ R=>(nomatch R)]],L,M,N]
section
variable{K:Frag}
def j7(h:aE)(L d:al):js:=(zG h.objs.size).filterMap λa=>if a=L\/a=d then Y' else (h.get? a).map λo=>(a,o)
end
end Att
namespace L2
open PySem PySem.Spec PyProof.Rows
theorem oM:∀{b:jd}{a:jH},IntsAre b a->ZN (a.map V.int) b:=by intro _ _ h;induction h with
 | nil=>show .nil
 | cons n t _ c=>show .cons #[t,Z] c
def IU(H:Hp):Prop:=∀ b,H b=Y'\/∃ o a,H b\.frz o (.lst a)
theorem qr{P:ao}{w:ax}{K:zZ}{M mb:jb}{CX:VG}{k:Nat}{S a:al}{fd:aq}{x:Str}{sp:Sp}{c:am}{y:jd}{N:jH}(KX:K.In c.heap)(G:c.heap.Ns ar M)(g:c.heap.Ns builtinsNs mb)(U:∀ x:Str,x ≠ "__name__"->mb x=az x)(E:c.heap.NoLimit)(hg:c.gens=⇑[])(Q:c.heap.get? a\{ cls:=.type "list",data:=.seq ⇑y })(hi:IntsAre y N)(hl:↑N<=au)(hr:ZU k callerA)(F:∀ i:aE,K.In i->i.Ns ar M->ZI P w K M i CX k S fd [x] sp)(t:∀ (s:am) (u:ak),BindsTo s fd #[[u],[]] [(x,u)])(Y:∀ H:Hp,IU H->ZH K H a (N.map V.int)->sp [.ref a] H (λv _=>v=.bl true) λ_ _ _=>False)(T:∀ H e j,CX [] H c (λ_ _ _=>False) e j->False):
  codeAny (aB P w) callerA (.call (.ref S) #[[.ref a],[]]) (λr j=>r=.ok (.ret (.bool true))/\OldK c.heap j.heap/\j.os=c.os/\AllBare j.gens) c:=by
 let rv:=oM hi;let L:=↑hi;let p:∀ H:Hp,IU H->ZH K H a (N.map V.int)->Y6 P w H c.heap->(∀ b,H b≠Y'->b=a)->(H a≠Y'->K.lookup a=Y') ->
   codeAny (aB P w) callerA (.call (.ref S) #[[.ref a],[]]) (λr j=>r=.ok (.ret (.bool true))/\OldK c.heap j.heap/\j.os=c.os/\AllBare j.gens) c:=by
  intro H hO hS I hA hK;let f:∀{b:al}{o:aI},c.heap.get? b\o->H b=Y'->(P7 c.heap H).get? b\o:=λe n=>ox e n;let a0:∀{b:al}{o:aI}{C:Array DictEntry}{B:Nat},c.heap.get? b\o->o.data=.dict C B->H b=Y':=fun{b o C B} e d=>by
   cases q:H b with
   | none=>rfl
   | some u=>
    let R:b=a:=hA b (by rw[q];simp)
    subst R;erw[Q] at e;let d':Data.seq ⇑y _=Data.dict C B:=d;cases d'
  let l:∀{b:al}{m:jb},c.heap.Ns b m->(P7 c.heap H).Ns b m:=fun{b m} ⟨o,C,B,e,d,r⟩=>#[o,C,B,f e (a0 e d),d,r];let D:K.In (P7 c.heap H):=λb o e=>f (KX b o e) (by
   cases q:H b with
   | none=>rfl
   | some u=>
    let R:b=a:=hA b (by rw[q];simp)
    subst R;erw[hK (by rw[q];simp)] at e)
  let hM:Mod K M (P7 c.heap H):=#[D,l G,#[mb,l g,U],let #[mc,h1,h2]:=E;#[mc,l h1,h2]];let e0:VN P w K M (P7 c.heap H) callerA [] c H:=#[Z,hM,λb o e=>ug e,uU (oF _ _),trivial,λb g=>absurd (show b∈([]:jv) from g) ⋯,I,.of_eq hg]
  show codeAny_mono ((F _ D (l G)).run callerA [] c H #[[.ref a],[]] [.ref a] [.ref a] _ _ hr e0 (t c (.ref a)) (.cons Z .nil) (Y H hO hS)) λr j h=>?_
  cases r with
  | error e=>show(T H e j h).elim
  | ok fl=>
   cases fl with
   | next=>show False.elim h
   | brk=>show False.elim h
   | cont=>show False.elim h
   | ret u=>
    let#[v,H',os,A,un,J,r',q]:=h;let q':v=.bl true:=q;subst q';obtain rfl:u=Value.bool true:=r';show#[Z,OldK.of_keep λb o e=>?_,os,A]
    cases q:H b with
    | none=>show un.keep b o e q (by intro z;show absurd (show b∈([]:jv) from z) ⋯) ⋯
    | some u=>
     rcases hO b with z | ⟨ob,xs,z⟩
     .erw[q] at z
     .let z2:=un.frzs b ob _ z;let#[e1,_]:=I b _ z;let#[e2,_]:=J b _ z2;erw[e] at e1;show e2
 cases X:K.lookup a with
 | some o=>
  let e:=KX a o X;erw[Q] at e;show p (λ_=>Y') (λ_=>.inl Z) (.inr #[_,⇑y,_,X,Z,Z,Z,#v[zB,L,hl],by simpa using rv]) (λb u z=>by let O:(Y':Option HO)\u:=z;cases O) (λb z=>absurd Z z) λz=>absurd Z z
 | none=>
  show p (λb=>if b=a then Z' (.frz { cls:=.type "list",data:=.seq ⇑y } (.lst (N.map V.int))) else Y') (λb=>?_) (.inl (.inr #[{ cls:=.type "list",data:=.seq ⇑y },aP Z])) (λb u z=>?_) (λb z=>?_) λ_=>X
  .by_cases g:b=a
   .show .inr #[_,_,aP g]
   .show .inl (aO g)
  .by_cases g:b=a
   .let O:=(aP g).symm.trans z;cases O;subst g;show#[Q,#v[zY,hl],y,_,rv,Q]
   .let O:=(aO g).symm.trans z;cases O
  .by_cases g:b=a
   .show g
   .show absurd (aO g) z
abbrev j6{K:zZ}{h:aE}(_:K.In h):zZ:=K
theorem Ko{l:rD}{n k:Nat}{q:ao}{loose:jr}{XP:(jb)->aE->Prop}{YP:ax->aE->Prop}{d:DefRec}{K:Params->zZ}{CX:ax->VG}{sp:ax->Sp}{x:Str}(hn:l.most\n)(hn2:n<=au)(hdf:d.params.defaults=[])(hr:ZU k callerA)(hY:∀ (w:ax) (h:aE),YP w h->(K w.params).In h)(F:∀ (w:ax) (m:jb) (t:al) (h:aE),(K w.params).In h->h.Ns ar m->m d.name=Z' (.ref t) ->
   ∃ z:aq,(∀ (s:am) (u:ak),BindsTo s z #[[u],[]] [(x,u)]) /\
    ∀ c:aE,(K w.params).In c->c.Ns ar m->ZI l.prog w (K w.params) m c (CX w) k t z [x] (sp w))(hsp:∀ (w:ax) (H:Hp) (a:al) (y:jH),↑y<=n->IU H->ZH (K w.params) H a (y.map V.int)->sp w [.ref a] H (λv _=>v=.bl true) λ_ _ _=>False)(hCX:∀ (w:ax) (H:Hp) (s:am) (e:ak) (B:am),CX w [] H s (λ_ _ _=>False) e B->False):
  PySem.W.WalkO q loose XP YP l.row.toRowW d [] (λf E=>PySem.call f E):=by
 show Att.attach_call hn hdf λw D r m U t o X Q I a E y G Y S R O A p j i P=>?_;let C:=hY w _ Y;let#[z,N,J]:=F w m t _ C G.T.g A;show qr C G.T.g G.T.b G.T.builtins G.T.nolimit P p j (zK i hn2) hr J N (λH L M=>hsp w H a y i L M) λH e B=>hCX w H r e B
def UM(s:aD)(j:Nat):Stmt:=match s with
 | .ClassDef _ _ _ a _ _ _ _ _ _ _=>a.getD j (.Pass #[(0),(0),(0),(0)])
 | _=>.Pass #[(0),(0),(0),(0)]
def Ur(s:aD):Arguments:=match s with
 | .FunctionDef _ a _ _ _ _ _ _ _ _=>a
 | _=>{ posonlyargs:=[],args:=[],vararg:=Y',kwonlyargs:=[],kw_defaults:=[],kwarg:=Y',defaults:=[] }
def X5(s:aD):List Stmt:=match s with
 | .FunctionDef _ _ b _ _ _ _ _ _ _=>b
 | _=>[]
def Za(s:aD):Scope:=match s with
 | .FunctionDef _ _ _ _ _ _ a _ _ _=>a
 | _=>{ kind:=.function,names:=[],isGenerator:=false,isCoroutine:=false }
abbrev ZX:VG:=λ_ _ _ _ _ _=>False
abbrev E0:XK:=λ_ _ _=>False
theorem Xi{X:Cx}:UT ZX X E0:=λ_ _ _ _ _ _ _ h=>h.elim
structure Zk(K:zZ)(x qual:Str)(st:aD)(f:al)(fd:aq):Prop where
 ex:∃(oc:ak)(od:jx)(kV doc pm:ak)(an:jx)(cdv ct:ak)(osl:Array (jc)),
  fd=xR x qual (Ur st) (X5 st) (Za st) .none kV doc pm an cdv ct/\K.lookup f\#[oc,od,.func fd,osl]/\wE K cdv qual=V'
 kp:yF K (.ref f)=V'
theorem Zk.ok{x b:Str}{g:aD}{f:al}{o:aq}{N m:jr}{k:Nat}{n:Sp}(F:Zk K x b g f o)(S:ZB N m (Za g))(l:∀ e H Q E,n e H Q E->↑e=↑m)(d:∀ (c:ak) (A:ay) (a:jB) (s:am) (H:Hp) (e:je) (Q:VK) (E:XK),ZU k (A.deeper (envOfC b (Za g) s.heap.objs.size f c))->n e H Q E ->
   let X:=(X7 ZX P w K mg jS N b (Za g) f c A a s H E).nox;∃ t,Xm X (X5 g) t/\t { nx:=λ_ p=>Q .non p,rt:=Q } (UQ N e) H):ZI P w K mg jS ZX (k+1) f o m n:=by
 let#[B,C,kV,r,D,z,c,ct,y,rfl,v,i]:=F.ex;show HI v i S l λA a s H e Q E u j=>?_;let#[t,h,q]:=d c A a s H e Q E u j;show#[t,h.nox,q]
theorem Zk.ko{x a:Str}{g:aD}{f:al}{m:aq}{N j:jr}{k:Nat}{l:Sp}(F:Zk K x a g f m)(S:ZB N j (Za g))(b:∀ (e:ak) (A:ay) (c:jB) (s:am) (H:Hp) (d:je) (Q:VK) (E:XK),ZU k (A.deeper (envOfC a (Za g) s.heap.objs.size f e))->l d H Q E ->
   let X:=(X7 ZX P w K mg jS N a (Za g) f e A c s H E).nox;∃ t,Xm X (X5 g) t/\t { nx:=λ_ n=>Q .non n,rt:=Q } (UQ N d) H)(i:∀ d H Q E,l d H Q E->↑d=↑j:=by intro d _ _ _ h;cases h;(try subst d);rfl):ZI P w K mg jS ZX (k+1) f m j l:=F.ok S i b
theorem Zk.binds{x a:Str}{d:aD}{f:al}{k:aq}{i:jr}(F:Zk K x a d f k)(h:∀ (kV c g:ak) (e:jx) (b ct:ak) (j:jd),↑j=↑i->bindArgs (xR x a (Ur d) (X5 d) (Za d) .none kV c g e b ct) #[j,[]]=pure (i.zip j)):Zi K k i []:=by
 let#[o,p,kV,c,g,e,b,ct,m,rfl,n,l]:=F.ex;show .all (h kV c g e b ct)
theorem NK{x a:Str}{st:aD}{f:al}{i:ak}{j g:jx}{e:Array (jc)}{kV d h b ct:ak}(l:K.lookup f\#[i,j,.func (xR x a (Ur st) (X5 st) (Za st) .none kV d h g b ct),e])(c:wE K b a=V')(k:yF K (.ref f)=V'):Zk K x a st f (xR x a (Ur st) (X5 st) (Za st) .none kV d h g b ct):=#[#[i,j,kV,d,h,g,b,ct,e,Z,l,c],k]
theorem BD{A:ay}{k:Nat}(a:ZU k A):A.units+1<cLine:=yG (Nat.add_le_add_left (by decide:1<=64) _) a.units
theorem YQ{n:Nat}(h:n<=1000):n<sizeLine:=yG h (by decide)
theorem pv(i:Nat){x:Str}{b:aJ}(c:X.N[i]?\x:=by rfl)(e:Ll X.env.scope x:=by first | show Or.inl rfl | show Or.inr (Or.inl Z) | show Or.inr (Or.inr Z))(d:(x==("__debug__" : Str))=false:=by decide)(a:(x==("__classdict__" : Str))=false:=by decide):PE X (.Name x b) (Y9 i):=yu c e d a
theorem Zo{A B:Prop}(h:B):if false=V' then A else B:=by
 rwa[aO zR,h]
theorem Zq{A B:Prop}(h:A):if true=V' then A else B:=by
 rwa[aP Z,h]
theorem Ys{c A B:Prop}[Decidable c](a:c->A)(b:¬ c->B):if c then A else B:=by
 by_cases h:c
 .rwa[aP h,a h]
 .rwa[aO h,b h]
def ZD(H a:Hp):Prop:=∀ b o,H b\o->a b\o
theorem ZD.refl(H:Hp):ZD H H:=λ_ _ h=>h
theorem ZD.trans{H d e:Hp}(a:ZD H d)(b:ZD d e):ZD H e:=λc o h=>b c o (a c o h)
theorem ZD.free{H a:Hp}(e:ZD H a){l:al}(h:a l=rX):H l=rX:=by
 cases q:H l with
 | none=>rfl
 | some o=>
  erw[e l o q] at h
theorem ZD.seq{K:zZ}{H b:Hp}{a:al}{c:je}(e:ZD H b)(h:ZH K H a c):ZH K b a c:=by
 rcases h with (h | ⟨o,h⟩) | h
 .show .inl (.inl (e _ _ h))
 .show .inl (.inr #[o,e _ _ h])
 .show .inr h
section
variable{R:Result->am->Prop}
theorem Cj{elt target iter:Expr}{ifs:jy}{scope:aF}{pos:aJ}{it acc:ak}{env:Env}(I:Nat->am->Prop)(turn:∀ n s,I n s->aC (aB prog w) A (pyNext it) (λr d=>match r with
   | none=>R (.ok .next) d
   | some v=>aC (aB prog w) A (letOwnedTupleGo target it v) (λ_ j=>aC (aB prog w) A (assign target env v) (λ_ k=>
     aC (aB prog w) A (forIn ifs true λc r=>if r=V' then do let y<-isTrue c env (aH c env);pure (ForInStep.yield y) else pure (ForInStep.yield r)) (λy f=>
      if y=V' then aC (aB prog w) A (aH elt env) (λx l=>
       aC (aB prog w) A (call (.builtin "list.append") [acc,x]) (λ_ o=>∃ m,m<n/\I m o) (notedBy (aB prog w) A env λe b=>R (.error e) b) l) (notedBy (aB prog w) A env λe b=>R (.error e) b) f
      else ∃ m,m<n/\I m f) (notedBy (aB prog w) A env λe b=>R (.error e) b) k) (notedBy (aB prog w) A env λe b=>R (.error e) b) j) (notedBy (aB prog w) A env λe b=>R (.error e) b) d) (notedBy (aB prog w) A env λe b=>R (.error e) b) s)(n:Nat)(h:I n s):
  codeAny (aB prog w) A (.compLoop (.ListComp elt [#[target,iter,ifs,(0)]] scope pos) 0 it acc env) R s:=by
 show codeAny_loop Z I (λn s z=>?_) n h;change aC _ A ((compTurn (.ListComp elt [#[target,iter,ifs,(0)]] scope pos) 0 it acc env).onRaise (λx=>do noteFrame x env;theTreesLotGoes x)) _ _ s
 show wpAny_noted ?_;rw[compTurn_list];show aa (ai (aa (ae (turn n s z) (λr d g=>?_) λ_ _ a=>a)))
 cases r with
 | none=>show ad g
 | some v=>
  show aa (ae g (λ_ j p=>?_) λ_ _ a=>a);show aa (ae p (λ_ k q=>aa (ae q (λy f i=>?_) λ_ _ a=>a)) λ_ _ a=>a)
  cases y with
  | false=>show ad #[Z,i]
  | true=>
   show aa (aa (ae i (λx l t=>aa (ae t (λ_ o u=>ad (ad #[Z,u])) λ_ _ a=>a)) λ_ _ a=>a))
end
def WY(b:Env)(l:List (Str×NameKind)):jF->jF:=λa=>l.foldl (λa p=>if p.2==.free then (p.1,(b.cells.lookup p.1).getD 0)::a else a) a
def MS(a:Env)(l:List (Str×NameKind)):Prop:=∀ p∈l,p.2=.free->∃ c,a.cells.lookup p.1\c
theorem Ga{b:Env}{d:aF}(h:MS b d.names):closureFor d b=pure (WY b d.names []):=by
 let i:∀(l:List (Str×NameKind))(f:jF),MS b l->(forIn l f λx r=>if (x.2==.free)=V' then do let a<-cellOf b x.1;pure (ForInStep.yield ((x.1,a)::r)) else pure (ForInStep.yield r):Sem (jF))=pure (WY b l f):=by
  intro l
  induction l with
  | nil=>intro f _;rfl
  | cons p r n=>
   intro f j;let e:WY b (p::r) f=WY b r (if p.2==.free then (p.1,(b.cells.lookup p.1).getD 0)::f else f):=rfl
   rw[zEE,e]
   cases o:(p.2==NameKind.free) with
   | true=>
    let#[c,m]:=j p zQ (eq_of_beq o);let g:cellOf b p.1=pure c:=by unfold cellOf;rw[m]
    simp only[if_true,g,pure_bind];rw[n _ λq k=>j q (zM _ k),m];rfl
   | false=>
    simp only[vZ,if_false,pure_bind];show n _ λq k=>j q (zM _ k)
 have:=i d.names [] h;simpa [closureFor] using this
theorem F9{a:Env}:∀{l:List (Str×NameKind)}{b:jF}{x:Str}{c:al},MS a l->(WY a l b).lookup x\c->b.lookup x\c\/a.cells.lookup x\c
 | [],_,_,_,_,h=>.inl h
 | p::r,b,x,c,hf,h=>by
  let i:(WY a r (if p.2==.free then (p.1,(a.cells.lookup p.1).getD 0)::b else b)).lookup x\c:=h
  rcases F9 (λq j=>hf q (zM _ j)) i with q | q
  .cases f:(p.2==NameKind.free) with
   | true=>
    rw[f,aP rfl,wQ] at q
    cases e:x==p.1 with
    | true=>
     rw[e] at q;let#[d,g]:=hf p zQ (eq_of_beq f);show .inr ?_;rw[eq_of_beq e,g];rw[g] at q;show q
    | false=>
     rw[e] at q;show .inl q
   | false=>
    rw[f,aO zR] at q;show .inl q
  .show .inr q
theorem Gu{a:Env}{x:Str}:∀{l:List (Str×NameKind)}{b:jF},(b.lookup x).isSome=V'->((WY a l b).lookup x).isSome=V'
 | [],_,h=>h
 | p::r,b,h=>by
  change ((WY a r (if p.2==.free then (p.1,(a.cells.lookup p.1).getD 0)::b else b)).lookup x).isSome=V'
  show Gu ?_
  cases c:(p.2==NameKind.free) with
  | true=>
   rw[aP rfl,wQ]
   cases e:x==p.1 with
   | true=>rfl
   | false=>show h
  | false=>rwa[aO zR,h]
theorem BC{a:Env}{x:Str}:∀{l:List (Str×NameKind)}{b:jF},(x,NameKind.free)∈l->((WY a l b).lookup x).isSome=V'
 | [],_,h=>by cases h
 | p::r,b,h=>by
  change ((WY a r (if p.2==.free then (p.1,(a.cells.lookup p.1).getD 0)::b else b)).lookup x).isSome=V'
  rcases zN.mp h with e | h
  .subst e;show Gu ?_;change (wO x ((x,(a.cells.lookup x).getD 0)::b)).isSome=V';rw[wQ,beq_self_eq_true];rfl
  .show BC h
def Yk(a:Env)(b:jF):Prop:=∀ x c,b.lookup x\c->a.cells.lookup x\c
theorem Yk.get{a:Env}{b:jF}{x:Str}{c:al}(h:Yk a b)(e:b.lookup x\c):a.cells.lookup x\c:=h x c e
theorem Hx{a:Env}{l:List (Str×NameKind)}(h:MS a l):Yk a (WY a l []):=λx c e=>by
 rcases F9 h e with q | q
 .cases q
 .show q
theorem FP{env:Env}:∀{names:List (Str×NameKind)}{x:Str},names.lookup x=Z' .free ->
  (names.map fun(n,k)=>if (k==NameKind.free&&env.scope.kind==.function&&env.kindOf n==Z' .cell) then (n,NameKind.cell) else (n,k)).lookup x=Z' .cell \/
  (names.map fun(n,k)=>if (k==NameKind.free&&env.scope.kind==.function&&env.kindOf n==Z' .cell) then (n,NameKind.cell) else (n,k)).lookup x\.free
 | [],_,h=>by simp at h
 | (n,k)::r,x,h=>by
  rw[wQ] at h;simp only[yT]
  cases a:x==n with
  | true=>
   erw[a] at h;split
   .show .inl (by rw[wQ,a])
   .show .inr (by rw[wQ,a])
  | false=>
   rw[a] at h;let b:=FP (env:=env) h;split
   .rwa[wQ,a,b]
   .rwa[wQ,a,b]
theorem C4{env:Env}:∀{names:List (Str×NameKind)}{x:Str},(∀ y∈names,y.2≠.cell) ->
  ((names.map fun(n,k)=>if (k==NameKind.free&&env.scope.kind==.function&&env.kindOf n==Z' .cell) then (n,NameKind.cell) else (n,k)).lookup x=Z' .cell \/
  (names.map fun(n,k)=>if (k==NameKind.free&&env.scope.kind==.function&&env.kindOf n==Z' .cell) then (n,NameKind.cell) else (n,k)).lookup x\.free)->(x,NameKind.free)∈names
 | [],_,_,h=>by simp at h
 | (n,k)::r,x,hc,h=>by
  let e:∀ y∈r,y.2≠.cell:=λy f=>hc y (zM _ f);simp only[yT] at h
  cases b:x==n with
  | true=>
   let c:=eq_of_beq b;subst c;by_cases a:k=.free
   .subst a;show zQ
   .let d:(k==NameKind.free)=false:=by simpa using a
    simp only[d,vG,vZ,if_false,wQ,beq_self_eq_true] at h;rcases h with h | h
    .show absurd (yP.inj h) (hc _ zQ)
    .show absurd (yP.inj h) a
  | false=>
   show zM _ (C4 (env:=env) e ?_);split at h
   .simpa only [wQ,b] using h
   .simpa only [wQ,b] using h
def YH(X:Cx)(a:aF):jo->jr->Prop
 | [],[]=>True
 | i::is,y::ys=>X.N[i]?\y/\(X.env.kindOf y\.cell\/X.env.kindOf y\.free)/\a.names.lookup y\.free/\YH X a is ys
 | _,_=>False
theorem YH.len{X:Cx}{a:aF}:∀{b:jo}{c:jr},YH X a b c->↑b=↑c
 | [],[],_=>rfl
 | _::_,_::_,h=>congrArg (· + 1) h.2.2.2.len
theorem YH.get{X:Cx}{a:aF}:∀{b:jo}{c:jr}{j:Nat}{y:Str},YH X a b c->c[j]? = Z' y ->
  ∃ i,b[j]?\i/\X.N[i]?\y/\(X.env.kindOf y\.cell\/X.env.kindOf y\.free)/\a.names.lookup y\.free
 | [],[],_,_,_,h=>by simp at h
 | i::_,z::_,0,y,f,h=>by
  simp at h;subst h;show#[i,Z,f.1,f.2.1,f.2.2.1]
 | _::b,_::c,j+1,y,f,h=>by
  let#[i,e,r]:=YH.get (j:=j) f.2.2.2 (by simpa using h)
  show#[i,by simpa using e,r]
def Yu(X:Cx)(N:jr)(a:aF)(b:jF)(C:al)(s:am)(H:Hp)(c:jv)(E:ja):Cx where
 prog:=X.prog
 w:=X.w
 K:=X.K
 mg:=X.mg
 base:=X.base
 A:=X.A
 N:=N
 s₀:=s
 H₀:=H
 env:=compEnvC a b C X.env
 outer:=X.stack
 stack:=X.stack
 ex:=c
 fn:=λ_=>false
 calm:=X.calm
 pn:=[]
 xe:=E
def Du(b:St)(a:jo):St:=Y'::a.map λi=>(b[i]?).join
def N7(b:St)(a:jo)(x:V):St:=Z' x::a.map λi=>(b[i]?).join
def OE(X:Cx)(b:jy)(e:TT):Prop:=
 ∀(a:js)(s:am)(d:St)(H:Hp)(Q:Bool->Hp->Prop),ZF X a d H s->e d H Q ->
  aC (aB X.prog X.w) X.A (forIn b true λc r=>if r=V' then do let ok<-isTrue c X.env (aH c X.env);pure (ForInStep.yield ok) else pure (ForInStep.yield r)) (TP X a d Q) X.xe s
def GL:TT:=λ_ H Q=>Q true H
theorem VH{X:Cx}:OE X [] GL:=λ_ _ _ H _ I h=>wpAny_tests_nil #[H,I,h]
theorem Gj{X:Cx}{c:Expr}{t:TT}(h:PT X c t):OE X [c] t:=λa s d H Q I b=>wpAny_tests_one (h a s d H Q I b)
def UC(J:It)(j:St)(h:jo)(l:TT)(k:TE)(e:Hp)(Q:VK):Prop:=
 ∀ D,e D=Y'->∃ W:Nat->Nat->Hp->Prop,(∃ m,W 0 m (upd e D (.lst [])))/\∀ i m H,W i m H ->
  (J.stop i H/\Q (.ref D) H)\/(J.go i H/\∀ x d,J.yld i H x d->l (N7 j h x) d λc f=>
   if c=V' then k (N7 j h x) f λy g=>∃ b a,g D\.lst b/\↑b<au/\a<m/\W (i+1) a (upd g D (.lst (b++[y])))
   else ∃ a,a<m/\W (i+1) a f)
def IY(f:TI)(c:jo)(e:TT)(d:TE):TE:=λa H Q=>f a H λJ b=>UC J a c e d b Q
section
variable{jR:js}{σ:St}{H:Hp}
theorem nY{b:jo}{j:Nat}{v:V}(h:(b.map λi=>(σ[i]?).join)[j]?\Z' v):∃ i,b[j]?\i/\σ[i]?\Z' v:=by
 rw[zF] at h
 cases e:b[j]? with
 | none=>erw[e] at h
 | some i=>
  rw[e] at h;let a:(σ[i]?).join\v:=yP.inj h;exists i,Z
  cases q:σ[i]? with
  | none=>erw[q] at a
  | some o=>
   rw[q] at a
   cases o with
   | none=>cases a
   | some z=>cases a;rfl
def MB(a:Env)(l:List (Str×NameKind)):Bool:=l.all λp=>!(p.2==.free) || a.kindOf p.1==Z' .cell || a.kindOf p.1==Z' .free
theorem IL{X:Cx}{l:List (Str×NameKind)}(a:X.Ok)(h:MB X.env l=V'):MS X.env l:=λp c b=>by
 let q:=zE.mp h p c;rw[b] at q;let d:(X.env.kindOf p.1==Z' .cell || X.env.kindOf p.1==Z' .free)=V':=by simpa using q
 rcases Bool.or_eq_true_iff.mp d with q | q
 .show a.has p.1 (.inl (eq_of_beq q))
 .show a.has p.1 (.inr (eq_of_beq q))
def NY(a:aF)(x:Str):Bool:=a.kind==.function&&a.names.lookup x==Z' .local&&a.names.all (λp=>!(p.2==.cell))&&a.names.all (λp=>!(p.2==.local) || a.names.lookup p.1==Z' .local)
structure OI(scope:aF)(x:Str):Prop where
 kind:scope.kind=.function
 own:scope.names.lookup x\.local
 cell:∀ y∈scope.names,y.2≠.cell
 names:∀ y∈scope.names,y.2=.local->scope.names.lookup y.1\.local
theorem LW{a:aF}{x:Str}(h:NY a x=V'):OI a x:=by
 unfold NY at h;rw[zT,zT,zT] at h;let#[#[#[c,d],e],f]:=h;show#[eq_of_beq c,eq_of_beq d,λy b z=>?_,λy b z=>?_]
 .have:=zE.mp e y b;erw[z] at this
 .have:=zE.mp f y b;rw[z] at this;let q:(a.names.lookup y.1==Z' NameKind.local)=V':=by simpa using this
  show eq_of_beq q
theorem IE{a:aF}{b:Env}(d:∀ y∈a.names,y.2≠.cell)(y:Str)(h:(relabel a b).names.lookup y\.cell\/(relabel a b).names.lookup y\.free):∃ c,(WY b a.names []).lookup y\c:=
 qH.mp (BC (C4 d h))
def Da(i:Nat)(t:TE):TS:=λD σ H=>t σ H λv a=>D.nx (σ.set i (Z' v)) a
end
def Kb(b:jr)(c:St)(a:jo):St:=b.map (λ_=>(Y':jf))++a.map λi=>(c[i]?).join
def Gb(J:It)(k:Nat)(g:TG)(p:St)(n:jo)(s:TT)(r:TE)(h:Hp)(Q:VK):Prop:=
 ∀ D,h D=Y'->∃ W:Nat->Nat->Hp->Prop,(∃ m,W 0 m (upd h D (.lst [])))/\∀ i m H,W i m H ->
  (J.stop i H/\Q (.ref D) H)\/(J.go i H/\∀ x f,J.yld i H x f->∀ o:St,↑o=k->g x (o++n.map λi=>(p[i]?).join) f λa q=>(∃ d:St,↑d=k/\a=d++n.map λi=>(p[i]?).join)/\s a q λc j=>
   if c=V' then r a j λy l=>∃ e b,l D\.lst e/\↑e<au/\b<m/\W (i+1) b (upd l D (.lst (e++[y])))
   else ∃ b,b<m/\W (i+1) b j)
def Cv(k:Nat)(g:TG)(f:TI)(c:jo)(e:TT)(d:TE):TE:=λa H Q=>f a H λJ b=>Gb J k g a c e d b Q
section
variable{jR:js}{σ:St}{H:Hp}
theorem F7{xs J:jr}{G:jo}{a:aF}{K:jF}{fp:jv}{E:ja}{g:aE}{D C n tk:Nat}{m:jb}(I:ZF X jR σ H s)(M:∀ b∈fp,WW X jR H b/\b<s.heap.objs.size)(f:Yk X.env K)(A:a.kind=.function)(t:∀ y,((relabel a X.env).names.lookup y\.cell\/(relabel a X.env).names.lookup y\.free)->∃ c,K.lookup y\c)(fo:YH X a G J)(L:s.heap.objs.size<=D)(Q:s.heap.objs.size<=C)(R:D≠C)(S:g.Ns C m)(k:∀ b o,s.heap.get? b\o->g.get? b\o)(hd:g.get? D\{ cls:=.type "list",data:=.seq ⇑([]:jd) n }):
  ZF (Yu X (xs++J) a K C s H fp E) [] (Kb xs σ G) (upd H D (.lst [])) { s with heap:=g,toks:=tk }:=by
 let d:∀ y c,K.lookup y\c->c<s.heap.objs.size:=λy c e=>by
  let#[v,q]:=I.cell y c (f.get e);show q.lt
 show#[#[I.ok.mod,A,I.ok.glob,I.ok.blt,Q,λy z c h1 h2=>I.ok.inj y z c (f.get h1) (f.get h2),t,λy c h _=>absurd h (by simp[Yu]),I.ok.hd,I.ok.frames,.inl Z,λb F=>#[?_,λy c e=>?_],I.bs,zK I.ok.bsz I.sz,λb o e F=>?_,λb F z=>?_,I.stack,I.stkFree],
  Z,I.bare,Un.laid k L (I.hok.fresh L),#[m,S,λj y v e1 Y B=>?_],λy c e=>?_,?_,λy c e=>?_,λp hp=>absurd (show p∈([]:js) from hp) ⋯,I.hok.laid k L ?_,?_]
 .show yU (yI (M b F).2 Q)
 .show(M b F).1.2.2.2.2.1 y c (f.get e)
 .let#[_,_,_,z,_]:=(M b F).1;rcases z with z | z
  .show I.ok.noex b o e z
  .show absurd (yI (zJ (I.ok.bs b o e).1) z) (xQ _)
 .let#[_,z1,z2,_]:=(M b F).1;rcases zN.mp (I.stkSub b z) with q | q
  .show z1 q
  .show z2 q
 .by_cases N:j<↑xs
  .exfalso
   let B:(xs.map (λ_=>(Y':jf))++G.map λi=>(σ[i]?).join)[j]?\Z' v:=Y;rw[wS #v[zY,N],zF,zU N] at B
   cases B
  .let W:(xs++J)[j]?\y:=e1;let O:J[j-↑xs]?\y:=by rw[wN (uP N)] at W;show W
   let B:(xs.map (λ_=>(Y':jf))++G.map λi=>(σ[i]?).join)[j]?\Z' v:=Y;let P:(G.map λi=>(σ[i]?).join)[j-↑xs]?\Z' v:=by
    rw[wN #v[zY,uP N],zY] at B
    show B
   let#[i,q1,q2]:=nY P;let#[i',p1,p2,w,U]:=fo.get O;erw[q1] at p1;let p4:(relabel a X.env).names.lookup y\.cell\/(relabel a X.env).names.lookup y\.free:=FP U;let#[c,p5]:=t y p4;let#[m0,a0,hl]:=I.loc;let#[u,r,l]:=hl i y v p2 q2 (.inr w);show#[u,r,.inr #[p4,c,p5,?_]];rcases l with ⟨l1,_⟩ | ⟨_,c',l2,l3⟩
   .rcases w with w | w
    .erw[l1] at w
    .erw[l1] at w
   .erw[f.get p5] at l2;let#[o,T,x]:=l3;show#[o,k _ _ T,x]
 .let#[v,o,T,x]:=I.cell y c (f.get e);show#[v,o,k _ _ T,x]
 .change upd H D (.lst []) C=Y';rwa[ZT (Ne.symm R),I.hok.fresh Q]
 .change upd H D (.lst []) c=Y';rwa[ZT (yU (yI (d y c e) L)),I.freeC y c (f.get e)]
 .show#[yQ _,[],n,.nil,hd]
 .change ↑(Kb xs σ G)=↑(xs++J);unfold Kb;rw[zS,zY,zY,fo.len,zS]
def FT(k:Nat)(c:jo)(σ a:St):Prop:=∃ b:St,↑b=k/\a=b++c.map λi=>(σ[i]?).join
inductive JZ(Y:Cx)(k:Nat)(f:jo)(σ:St)(tn:Nat->aE->Prop)(e:jv)(W:Nat->Nat->Hp->Prop)(n:Nat)(d:am):Prop
 |mk(i:Nat)(a:St)(c:Hp):ZF Y [] a c d->FT k f σ a->tn i d.heap->(∀ b∈e,c b=Y')->W i n c->JZ Y k f σ tn e W n d
theorem Ez{elt iter tg:Expr}{xs:jr}{g:TG}{ifs:jy}{scope:aF}{cl:jF}{pos:aJ}{ix:jo}{ys:jr}{tt:TT}{te:TE}{it:al}{fp:jv}{tn:Nat->aE->Prop}{J:It}{Q:VK}{E:ja}{RR:ak->al->Result->am->Prop}(hc:X.calm=V')(hg:∀ C s H fp E,PG (Yu X (xs++ys) scope cl C s H fp E) tg g)(ht:∀ C s H fp E,OE (Yu X (xs++ys) scope cl C s H fp E) ifs tt)(he:∀ C s H fp E,PE (Yu X (xs++ys) scope cl C s H fp E) elt te)(sub:Yk X.env cl)(ji:scope.kind=.function)(jm:∀ y∈scope.names,y.2≠.cell)(hhas:∀ y,((relabel scope X.env).names.lookup y\.cell\/(relabel scope X.env).names.lookup y\.free)->∃ c,cl.lookup y\c)(fo:YH X scope ix ys)(I:ZF X jR σ H s)(T:Vn X.prog X.w X.K tg J fp it tn)(st:tn 0 s.heap)(hf:∀ b∈fp,WW X jR H b)(q:Gb J ↑xs g σ ix tt te H Q)(hRR:∀ D C s' H' m,s.heap.objs.size<=C->ZF X jR σ H' s'->WW X jR H' C->s'.heap.Ns C m->Q (.ref D) H'->RR (.ref D) C (.ok .next) s'):
  aC (aB X.prog X.w) X.A (newList []) (λacc s₃=>aC (aB X.prog X.w) X.A (newFunctionEnv scope X.env.globals cl [] X.env.qual Y' .none (Z' X.env)) (λcenv s₄=>
   codeAny (aB X.prog X.w) X.A (.compStart (.ListComp elt [#[tg,iter,ifs,(0)]] scope pos) 0 (.ref it) acc { cenv with scope:=relabel scope X.env }) (RR acc cenv.locals) s₄) E s₃) E s:=by
 show wpAny_newObj_type (wpAny_newFunctionEnv jm (by intro y hy;simp at hy) (λh₁ hns₁ hsb₁=>?_) ji)
 dsimp only at hns₁ hsb₁⊢;generalize hH2:s.heap.push { cls:=.type "list",dict:=Y',data:=.seq ⇑([]:jd) }=H2 at hns₁ hsb₁⊢;let hC:H2.objs.size=s.heap.objs.size+1:=by rw[<-hH2,sK]
 let hDC:s.heap.objs.size≠H2.objs.size:=#v[hC,yU (wR _)]
 let hCle:s.heap.objs.size<=H2.objs.size:=#v[hC,wF _]
 let below:∀ b,b<s.heap.objs.size->b≠H2.objs.size/\b≠s.heap.objs.size:=λb hb=>#[#v[hC,yU (sF hb)],yU hb]
 let old:∀ b o,s.heap.get? b\o->h₁.get? b\o:=λb o e=>hsb₁.extBut b o (below b (zJ e)).1 (zL _ (hH2 ▸ zL _ e));let hacc:∃ n,h₁.get? s.heap.objs.size\{ cls:=.type "list",data:=.seq ⇑([]:jd) n }:=#[_,hsb₁.extBut _ _ hDC (zL _ (hH2 ▸ yO _ Z))];let#[nD,hacc]:=hacc;let hf':∀ b∈fp,WW X jR H b/\b<s.heap.objs.size:=λb hb=>#[hf b hb,by let#[o,e,_]:=T.obj 0 _ st b hb;show zJ e]
 let hDn:H s.heap.objs.size=Y':=I.hok.fresh (zW _);let#[W,#[m0,w0],turn]:=q _ hDn;generalize hE:notedBy (aB X.prog X.w) X.A (compEnvC scope cl H2.objs.size X.env) (λe s'=>RR (.ref s.heap.objs.size) H2.objs.size (.error e) s')=EE;let I0:ZF (Yu X (xs++ys) scope cl H2.objs.size s H fp EE) [] (Kb xs σ ix) (upd H s.heap.objs.size (.lst [])) { s with heap:=h₁,toks:=s.toks+↑([]:jI) }:=
  F7 I hf' sub ji hhas fo (zW _) hCle hDC hns₁ old hacc
 let st1:tn 0 h₁:=T.keep _ _ _ st λb _ o e=>old b o e;let fr1:∀ b∈fp,upd H s.heap.objs.size (.lst []) b=Y':=λb hb=>#v[ZT (below b (hf' b hb).2).2,(hf b hb).1]
 let stat:∀{H':Hp},(∀ b∈fp,H' b=Y')->∀ b∈fp,WW (Yu X (xs++ys) scope cl H2.objs.size s H fp EE) [] H' b:=λhn b hb=>
  #[hn b hb,(I0.ok.exf b hb).1,I0.ok.exfs b hb,.inl hb,(I0.ok.exf b hb).2,λp hp=>absurd (show p∈([]:js) from hp) ⋯]
 let loop:∀ s₃:am,s₃={ s with heap:=h₁,toks:=s.toks+↑([]:jI) } ->
   codeAny (aB X.prog X.w) X.A (.compLoop (.ListComp elt [#[tg,iter,ifs,(0)]] scope pos) 0 (.ref it) (.ref s.heap.objs.size) (compEnvC scope cl H2.objs.size X.env)) (RR (.ref s.heap.objs.size) H2.objs.size) s₃:=by
  rintro s₃ rfl;show Cj (JZ (Yu X (xs++ys) scope cl H2.objs.size s H fp EE) ↑xs ix σ tn fp W) ?_ m0 #[(0),_,_,I0,#[_,zY _,Z],st1,fr1,w0];rintro n s3 ⟨i,σ3,H3,I3,⟨o3,ho3,hσ3⟩,st3,fr3,w3⟩;rw[hE];rcases turn i n H3 w3 with ⟨stop,qn⟩ | ⟨go,step⟩
  .show Z3 (T.done (Yu X (xs++ys) scope cl H2.objs.size s H fp EE) Z Z Z hc i [] s3 σ3 H3 EE I3 (stat fr3) st3 stop) ?_;rintro r s4 ⟨hr,I4⟩;subst hr;let#[m4,hn4,_]:=I4.loc;let Ix:ZF X jR σ H3 s4:=I.call' (s':=s4) (ch:=fp) I4.os I4.base I4.hok I4.bare λb hb=>by
    let#[_,z1,_,z3,z4,z5]:=hf b hb;show#[z3,z1,z4,z5]
   show hRR _ _ s4 H3 m4 hCle Ix (I.fpOk hCle I4.free) hn4 qn
  .show Z3 (T.item (Yu X (xs++ys) scope cl H2.objs.size s H fp EE) Z Z Z hc i [] s3 σ3 H3 EE I3 (stat fr3) st3 go) ?_;rintro r s4 ⟨u,hr,h4⟩;subst hr;show Z3 h4 ?_;rintro _ s5 ⟨xv,H5,I5,r5,y5,st5,fr5⟩;let I5':=I5.pinned (stat fr5) (T.obj _ _ st5);let again:∀{σ7:St}{H7:Hp}{s7:am}{m':Nat},ZF (Yu X (xs++ys) scope cl H2.objs.size s H fp EE) ([]++MM fp s5.heap) σ7 H7 s7->FT ↑xs ix σ σ7->m'<n->W (i+1) m' H7 ->
     ∃ m,m<n/\JZ (Yu X (xs++ys) scope cl H2.objs.size s H fp EE) ↑xs ix σ tn fp W m s7:=fun{σ7 H7 s7 m'} I7 e7 hm w7=>by
    show#[m',hm,.mk (i+1) σ7 H7 I7.unpinned e7 (T.keep _ _ _ st5 λb hb o e=>(I7.pin (b,o) (yB _ (yB _ (MO hb e)))).1) (λb hb=>?_) w7];let#[o,e,d]:=T.obj _ _ st5 b hb;show(I7.pin (b,o) (yB _ (yB _ (MO hb e)))).2.1
   let stp:=step xv _ y5 o3 ho3;rw[<-hσ3] at stp;show Z3 (hg _ _ _ _ _ _ s5 σ3 H5 xv u _ I5' r5 stp) ?_;rintro _ s6 ⟨σ6,H6,I6,e6,q6⟩;show Z3 (ht _ _ _ _ _ _ s6 _ _ _ I6 q6) ?_;rintro ok s7 ⟨H7,I7,q7⟩
   cases ok with
   | false=>
    rw[aO zR] at q7⊢;let#[m',hm,w7]:=q7;show again I7 e6 hm w7
   | true=>
    rw[aP rfl] at q7⊢;show Z3 (he _ _ _ _ _ _ s7 _ _ _ I7 q7) ?_;rintro y s8 ⟨yv,H8,I8,r8,ys8,m',e8,z8,hm,w8⟩;show Z3 (Ql _ s8 _ H8 (.ref s.heap.objs.size) [yv] (.ref s.heap.objs.size) [y] (λ_ H9=>W (i+1) m' H9) I8 Z (.cons r8 .nil) #[_,ys8,yv,Z,Z,e8,z8,w8]) ?_;rintro _ s9 ⟨_,H9,I9,_,w9⟩;show again I9 e6 hm w9
 show codeAny_compStart_list (loop _ Z) (T.self _ 0 _ _ _ st1 (loop _ Z))
theorem qg{f c t:Expr}(j:jr)(x:Str){g:TG}{i:jy}{a:aF}{p:aJ}{G:TI}{z:TT}{y:TE}(u:jo)(k:jr)(hc:X.calm=V')(hg:∀ C s H d E,PG (Yu X (j++k) a (WY X.env a.names []) C s H d E) t g)(hi:PI X t c G)(ht:∀ C s H d E,OE (Yu X (j++k) a (WY X.env a.names []) C s H d E) i z)(he:∀ C s H d E,PE (Yu X (j++k) a (WY X.env a.names []) C s H d E) f y)(W:YH X a u k)(hk:MB X.env a.names=V':=by rfl)(n:NY a x=V':=by rfl)(hs:∀ x,foldedSetIterable c X.env x=pure x:=by intro _;rfl):
  PE X (.ListComp f [#[t,c,i,(0)]] a p) (Cv ↑j g G u z y):=by
 intro jR s σ H Q I h;let B:=LW n;let F:=IL I.ok hk;rw[eval_ListComp];show wpAny_comprehension_free (use:=Y') Z hs (Ga F) B.kind B.names (Z3 (hi jR s σ H _ I h) λv s1 Y=>Z3 Y λa0 s2 h2=>?_);let#[it,d,tn,J,H2,e,L,T,r,P,q2]:=h2;subst e;show Ez (RR:=λl C=>compPost (aB X.prog X.w) X.A X.xe Y' (EP X jR σ Q) l C) hc hg ht he (Hx F) B.kind B.cell (IE B.cell) W L T r P q2 ?_;intro D C s' K m hC M V hn q;show#[m,hn,λh' sb=>#[.ref D,K,?_,Z,q]];let#[N,O,_,R,S,U]:=V;show M.turned (t':=s'.toks) (λb o n e=>(sb.2 b n).trans e) N O R S U
theorem kL{f d u:Expr}(G:jr)(x:Str){g:TG}{y:Str}{p:aJ}{j:jy}{c:aF}{l k:aJ}{wi:TI}{tt:TT}{te:TE}{i:Nat}(ix:jo)(K:jr)(hN:X.N.Nodup)(O:X.N[i]?\y)(Y:X.env.scope.names.lookup y\.local)(hc:X.calm=V')(hg:∀ C s H n E,PG (Yu X (G++K) c (WY X.env c.names []) C s H n E) u g)(hi:PI X u d wi)(ht:∀ C s H n E,OE (Yu X (G++K) c (WY X.env c.names []) C s H n E) j tt)(he:∀ C s H n E,PE (Yu X (G++K) c (WY X.env c.names []) C s H n E) f te)(fo:YH X c ix K)(P:swapsWith (.ListComp f [#[u,d,j,(0)]] c l) (Z' (.Name y p)) k.line X.env=pure true:=by rfl)(hk:MB X.env c.names=V':=by rfl)(M:NY c x=V':=by rfl)(hs:∀ x,foldedSetIterable d X.env x=pure x:=by intro _;rfl):
  PS X (.Assign [.Name y p] (.ListComp f [#[u,d,j,(0)]] c l) k) (Da i (Cv ↑G g wi ix tt te)):=by
 intro jR s σ H D I h;let B:=LW M;let F:=IL I.ok hk;rw[exec_Assign_Name_used _ _ _ _ P];show aa (ai (aa ?_));change aC _ X.A (do let _<-comprehension (.ListComp f [#[u,d,j,(0)]] c l) c X.env _ (newList []) false (aH d X.env) (Z' (assign (.Name y p) X.env))) _ _ s
 show aa (ae (wpAny_comprehension_free (use:=Z' (assign (.Name y p) X.env)) (Q:=λ_ t=>SP X jR D .next t) Z hs (Ga F) B.kind B.names
  (Z3 (hi jR s σ H _ I h) λv s1 h1=>Z3 h1 λa0 s2 h2=>?_)) (λ_ t hq=>ad (ad hq)) λ_ _ e=>e)
 let#[it,n,tn,J,H2,e,I2,T,S,f2,q2]:=h2;subst e;show Ez (RR:=λL C=>compPost (aB X.prog X.w) X.A X.xe (Z' (assign (.Name y p) X.env)) (λ_ t=>SP X jR D .next t) L C) hc hg ht he (Hx F) B.kind B.cell (IE B.cell) fo I2 T S f2 q2 ?_;intro U C t H' m hC Ix fC hn q;let#[f0,V,_,f3,W,f5]:=fC;change aC _ X.A (assign (.Name y p) X.env (.ref U)) _ _ _;show wpAny_assign_Name (Bn Ix hN O (.inl Y) (v:=.ref U) Z (λs3 I3 ⟨a,sb,r⟩=>?_) (.inr Y));let ne:C≠a:=by
  rcases r with r | r
  .rwa[r,V]
  .show λz=>W y a r z.symm
 show#[m,hn.sameBut sb ne,λh' R=>#[_,H',?_,q]];show I3.turned (t':=s3.toks) (λb o M e=>(R.2 b M).trans e) f0 V f3 W f5
theorem pu{x:Str}{q:jr}{p:jo}{a:aF}{g:jF}{l:jv}{E:ja}{d:aE}{D C n z:Nat}{m:jb}(I:ZF X jR σ H s)(w:∀ b∈l,WW X jR H b/\b<s.heap.objs.size)(j:Yk X.env g)(e:a.kind=.function)(f:∀ y,((relabel a X.env).names.lookup y\.cell\/(relabel a X.env).names.lookup y\.free)->∃ c,g.lookup y\c)(r:YH X a p q)(u:s.heap.objs.size<=D)(t:s.heap.objs.size<=C)(h:D≠C)(i:d.Ns C m)(k:∀ b o,s.heap.get? b\o->d.get? b\o)(v:d.get? D\{ cls:=.type "list",data:=.seq ⇑([]:jd) n }):
  ZF (Yu X (x::q) a g C s H l E) [] (Du σ p) (upd H D (.lst [])) { s with heap:=d,toks:=z }:=
 F7 (xs:=[x]) I w j e f r u t h i k v
theorem UC.toT{J:It}{a:jo}{c:TT}{b:TE}{Q:VK}(h:UC J σ a c b H Q):Gb J 1 (PM 0) σ a c b H Q:=λD f=>by
 let#[W,e,j]:=h D f;show#[W,e,λi m H k=>(j i m H k).imp id λq=>#[q.1,λx d y l g=>?_]];let#[_,rfl]:=List.length_eq_one_iff.mp g;show#[#[[Z' x],Z,Z],q.2 x d y]
inductive Mx(c:TI)(σ:L2.St)(H:Hp)(K:It->Hp->Prop):Prop
 |mk(b:It->Hp->Prop)(_:c σ H b)(_:∀ J a,b J a->K J a)
theorem PI.more{i g:Expr}{j:TI}(h:PI X i g j):PI X i g (Mx j):=λjR s σ H R I ⟨l,n,f⟩=>
 ae (h jR s σ H l I n) (λ_ _ z=>ae z (by rintro _ _ ⟨o,m,tn,J,k,a,b,c,d,e,r⟩;show#[o,m,tn,J,k,a,b,c,d,e,f _ _ r]) λ_ _ z=>z) λ_ _ z=>z
theorem VT{c b:Expr}{x:Str}{o:aJ}{d:jy}{a:aF}{l:aJ}{r:TI}{q:TT}{p:TE}(k:jo)(e:jr)(u:X.calm=V')(w:PI X (.Name x o) b r)(B:∀ C s H f E,OE (Yu X (x::e) a (WY X.env a.names []) C s H f E) d q)(v:∀ C s H f E,PE (Yu X (x::e) a (WY X.env a.names []) C s H f E) c p)(t:YH X a k e)(y:MB X.env a.names=V':=by rfl)(m:NY a x=V':=by rfl)(j:(x::e).Nodup:=by decide +kernel)(A:∀ x,foldedSetIterable b X.env x=pure x:=by intro _;rfl):
  PE X (.ListComp c [#[.Name x o,b,d,(0)]] a l) (IY r k q p):=by
 intro jR s σ H Q I h;let n:(relabel a X.env).names.lookup x\.local:=lookup_relabel_local (LW m).own;show qg [x] x (g:=PM 0) k e u (λ_ _ _ _ _=>Kn (i:=0) j Z (Or.inl n) (Or.inr n)) (PI.more w) B v t y m A jR s σ H Q I #[_,h,λ_ _ z=>UC.toT z]
theorem Kr{d b:Expr}{x y:Str}{p t:aJ}{e:jy}{a:aF}{f c:aJ}{w:TI}{v:TT}{u:TE}{i:Nat}(o:jo)(j:jr)(B:X.N.Nodup)(l:X.N[i]?\y)(O:X.env.scope.names.lookup y\.local)(F:X.calm=V')(J:PI X (.Name x p) b w)(M:∀ C s H k E,OE (Yu X (x::j) a (WY X.env a.names []) C s H k E) e v)(G:∀ C s H k E,PE (Yu X (x::j) a (WY X.env a.names []) C s H k E) d u)(A:YH X a o j)(n:swapsWith (.ListComp d [#[.Name x p,b,e,(0)]] a f) (Z' (.Name y t)) c.line X.env=pure true:=by rfl)(K:MB X.env a.names=V':=by rfl)(q:NY a x=V':=by rfl)(m:(x::j).Nodup:=by decide +kernel)(L:∀ x,foldedSetIterable b X.env x=pure x:=by intro _;rfl):
  PS X (.Assign [.Name y t] (.ListComp d [#[.Name x p,b,e,(0)]] a f) c) (Da i (IY w o v u)):=by
 intro jR s σ H D I h;let r:(relabel a X.env).names.lookup x\.local:=lookup_relabel_local (LW q).own;show kL [x] x (g:=PM 0) o j B l O F (λ_ _ _ _ _=>Kn (i:=0) m Z (Or.inl r) (Or.inr r)) (PI.more J) M G A n K q L jR s σ H D I #[_,h,λ_ _ z=>UC.toT z]
end
end L2
namespace L2
open PySem PySem.Spec PyProof.Rows
inductive NP(K:zZ)(a:je)(H:Hp)(Q:VK):Prop
 |mk(x n t b:_)(_:a=[x,.ty n])(_:Y5 K H x t)(_:xY K t (.type n)\b)(_:Q (.bl b) H)
theorem QH:V7 X (.builtin "isinstance") (NP X.K):=by
 intro a s l H k j Q I r h;let#[x,n,t,b,rfl,g,e,q]:=h;let#[u,i,rfl,d,c]:=MV r;cases(show i=Value.type n from c);show my I d g e λf=>#[.bl b,H,I.tok f,Z,q]
theorem xr{K:zZ}:xY K (.type "int") (.type "bool")\false:=by kernel_rfl
theorem xp{K:zZ}:xY K (.type "str") (.type "bool")\false:=by kernel_rfl
theorem vu{K:zZ}:xY K (.type "tuple") (.type "bool")\false:=by kernel_rfl
theorem IC{K:zZ}:xY K (.type "int") (.type "int")\true:=by kernel_rfl
theorem JV{K:zZ}:xY K (.type "str") (.type "int")\false:=by kernel_rfl
theorem GN{K:zZ}:xY K (.type "tuple") (.type "int")\false:=by kernel_rfl
theorem TF{K:zZ}:xY K (.type "int") (.type "str")\false:=by kernel_rfl
theorem MP{K:zZ}:xY K (.type "str") (.type "str")\true:=by kernel_rfl
theorem Ks{K:zZ}:xY K (.type "tuple") (.type "str")\false:=by kernel_rfl
theorem yc{K:zZ}:xY K (.type "int") (.type "tuple")\false:=by kernel_rfl
theorem BP{K:zZ}:xY K (.type "tuple") (.type "tuple")\true:=by kernel_rfl
theorem UK:az "isinstance" = Z' (.builtin "isinstance"):=by decide +kernel
theorem KO:az "all" = Z' (.builtin "all"):=by decide +kernel
theorem Jj:az "max" = Z' (.builtin "max"):=by decide +kernel
theorem Rb:az "min" = Z' (.builtin "min"):=by decide +kernel
theorem GP:az "abs" = Z' (.builtin "abs"):=by decide +kernel
theorem YK:az "len" = Z' (.builtin "len"):=by decide +kernel
theorem Eu:az "bool" = Z' (.type "bool"):=by decide +kernel
theorem Nc:az "int" = Z' (.type "int"):=by decide +kernel
theorem UL:az "str" = Z' (.type "str"):=by decide +kernel
theorem Nr:az "tuple" = Z' (.type "tuple"):=by decide +kernel
theorem Mj:az "list" = Z' (.type "list"):=by decide +kernel
inductive Ua(x y:V)(H:Hp)(Q:VK):Prop
 |mk(i j:_)(_:x=.str i)(_:y=.str j)(_:Q (.bl (!decide (j.cps.toList<i.cps.toList))) H)
theorem Nv:XS X (aA .LtE) (Ua):=by
 intro a s e H x y v u Q I b c h;let#[i,j,rfl,rfl,q]:=h;let#[t,rfl]:=b;let#[d,rfl]:=c;show PySem.P.le_str (Y8 I q ⋯)
inductive UP(a:zZ)(x y:V)(H:Hp)(Q:VK):Prop
 |mk(p b c:_)(_:x=.ref p)(_:y=.ref b)(_:ZH a H p c)(_:ZH a H b [])(_:Q (.bl c.isEmpty) H)
theorem Fx(f:X.A.units<cLine):XS X (aA .Eq) (UP X.K):=by
 intro l s G H x y v u Q I B C h;let#[p,b,D,rfl,rfl,c,o,q]:=h;cases B;cases C;let#[d,w,i,E]:=I.list c;let#[a,z,k,F]:=I.list o;let g:=↑w;let t:=↑z;let n:a=[]:=wU (by rw[<-t];rfl)
 subst n
 cases D with
 | nil=>
  let m:d=[]:=wU (by rw[<-g];rfl)
  subst m;show PySem.SeqAt.eq_listAt (e:=λ_=>true) i.isList k.isList Z f (λj c _=>absurd c ⋯) (Y8 I q ⋯)
 | cons x r=>show PySem.SeqAt.eq_list_lengthsAt i.isList k.isList (by simp;intro e;subst e;simp at g) f (Y8 I q Z)
def RV(i j:Int):Prop:=0<j/\j.natAbs.log2<9000
theorem wg:XS X (binaryOp .FloorDiv) (rI RV λi j=>.int (i / j)):=Mi λi j _ _ _ _ _ a q=>by
 let b:(0:Int)<j:=a.1;show floordiv_int ∅ #v[zEO i ∅,q] (.inl (PyProof.noPylong_of_log2 a.2))
inductive P9(x:V)(b:je)(H:Hp)(Q:VK):Prop
 |mk(l:al)(a:je)(i:Nat)(y:V)(_:x=.ref l)(_:b=[.int (i:Int),y])(_:H l\.lst a)(_:i<=↑a)(_:↑a<au)(_:Q .non (upd H l (.lst (a.take i++y::a.drop i))))
theorem kn{l:al}{a:jd}{n:Nat}{x:Int}{t:Tok}{u:ak}{A:ay}{b:ao}{w:ax}{E:ja}{s:am}{Q:ja}(e:s.heap.get? l\{ cls:=.type "list",data:=.seq ⇑a n })(c:Builtin.List.listFitsIndex x=V')(d:↑a<=au)(j:0<=x)(k:x.toNat<=↑a)(h:∀ g:jw->jw,g ⇑a=⇑(a.take x.toNat++u::a.drop x.toNat)->Q .none { s with heap:=s.heap.update l (Obj.mapSeq g) }):aC (aB b w) A (call (.builtin "list.insert") [.ref l,.int x t,u]) Q E s:=by
 show call_meets F.slot_list_insert #[_,e,Z] F.entry_list_insert (F.args_list_insert_3 _ _ _) (PySem.AutoSeq1.list_insert_list_int_val_1 l ⇑a n x t u #v[c,zR] #v[zB,d]) #[e,h _ ?_]
 let f:¬ (x<0):=∅
 let i:min x.toNat ↑a=x.toNat:=∅
 simp only[zB,f,if_false,i];apply uO.mp;simp;show yH #v[yV,zW _]
theorem Cd:Jx X "list.insert" P9:=by
 intro k s K H x G v F Q I B A h;let#[l,J,i,y,rfl,rfl,d,u,D,q]:=h;cases B;let#[E,C,rfl,#[t,rfl],w]:=A.two;let#[z,b,n,r,j,e]:=I.lstM d;let p:=O6;let c:(i:Int).toNat=i:=tO i;let a:Builtin.List.listFitsIndex (i:Int)=V':=by
  unfold Builtin.List.listFitsIndex;let m:(-(2 ^ 63:Int)<=(i:Int)):=(by lia (splits:=8))
  let o:((i:Int)<2 ^ 63):=(by lia (splits:=8))
  show Bool.and_eq_true_iff.mpr #[aM m,aM o]
 show kn e a (by rwa[<-j,z]) (by lia (splits:=8)) (by rwa[c,<-j,u]) λg f=>?_
 rw[c] at f;show#[.non,_,I.lset (its':=b.take i++C::b.drop i) d e f ((r.take i).append (.cons w (r.drop i))) ?_,Z,q];rw[zS,zV,zH,yV]
 lia (splits:=8)
inductive OM(b:zZ)(c:je)(H:Hp)(Q:VK):Prop
 |mk(p:al)(a:List Bool)(_:c=[.ref p])(_:ZH b H p (a.map V.bl))(_:Q (.bl (a.all id)) H)
theorem K9(C:X.calm=V'):V7 X (.builtin "all") (OM X.K):=by
 intro w s Y H W V Q I r h;let#[p,a,rfl,G,q]:=h;let#[u,rfl,L]:=UG r;cases L;let#[c,y,k,T]:=I.list G;let t:=↑y;let g:p<s.heap.objs.size:=by let#[_,e,_]:=k.isList;show zJ e
 let j:p≠s.heap.objs.size:=yU g;let D:=I.ok.hd C;let N:∀(i:Nat)(v:ak),c.toArray[i]?\v->v=.bool (a.getD i true):=λi v J=>by
  let d:c[i]?\v:=by simpa using J
  let S:i<↑c:=(yL.mp d).1;let n:i<↑a:=by rw[zY] at t;lia
  let#[u,l,f]:=y.get (i:=i) (x:=.bl a[i]) (by rw[zF,zU n];rfl)
  erw[d] at l;rw[show v=Value.bool a[i] from f,zO,zU n];rfl
 show call_all_walk (wpAny_pyIter_list k.isList ?_);show#[_,_,_,_,_,_,(λi=>a.getD i true),Z,Walks.list (A:=X.A.in1) D s.heap.objs.size p j ⇑c,#[#[_,yO _ Z,Z,Z],k.isList.push _],λi v U P O z B=>?_,λR M E=>?_]
 .rwa[N i v z,wpAny_truthy_bool B]
 .let e:(zG c.toArray.size).all (λi=>a.getD i true)=a.all id:=by
   rw[zB,<-t,zY];let f:a.all id=((zG ↑a).map λi=>a.getD i true).all id:=by rw[range_getD]
   rw[f,vJ];rfl
  rw[e];show#[.bl (a.all id),H,I.kept (t':=M) λb o m=>E b o ?_ (zL _ m),Z,q];intro F;show absurd (zJ m) #v[zP.mp F,xQ _]
section
variable{R:Result->am->Prop}
end
def M3(x:Str):It:=#[λi _=>i<x.cps.size,λi H v a=>a=H/\∃ c,x.cps[i]?\c/\v=.str #[⇑[c]],λi _=>i=x.cps.size]
theorem FH{P:ao}{w:ax}{K:zZ}{tg:Expr}(ty:String)(hty:["enumerate","zip","dict_itemiterator","dict_reverseitemiterator","odict_iterator","itertools.zip_longest","itertools.pairwise"].contains ty=false)(x:Str)(t:Tok)(it:al)(W:∀ A:ay,A.handled=Y'->Walks P w A it [it] [it] x.cps.size (SignAt x) (λi h=>h.IsStrIter it ty x t i))(self:∀ (A:ay) (i:Nat) (s:am) (Q:ja) (E:ja),s.heap.IsStrIter it ty x t i->Q (.ref it) s->aC (aB P w) A (pyIter (.ref it)) Q E s):
  Vn P w K tg (M3 x) [it] it (λi h=>h.IsStrIter it ty x t i) where
 mem:=by simp
 obj:=λi h st b hb=>by
  let e:b=it:=by simpa using hb
  subst e;let#[o,e,c,d]:=st;show#[o,e,λv z=>by erw[d] at z]
 keep:=λi h h' ⟨o,e,r⟩ k=>#[o,k it ⋯ o e,r]
 item:=by
  intro X hP hw hK hc i jR s σ H E I hf st hg;subst hP hw hK;let#[f0,f1,f2,f3,f4,f5]:=hf it ⋯
  show(W X.A (I.ok.hd hc)).item i s _ _ hg st λv h' tk hv st' kk=>?_;let#[c,u,hx,rfl]:=hv;let I1:ZF X jR σ H { s with heap:=h',toks:=tk }:=I.turned (λb o hb e=>kk b o (by simpa using hb) e) f0 f1 f3 f4 f5
  let#[o,e,cl,d]:=id st';show#[1,Me (s:={ s with heap:=h',toks:=tk }) e cl d hty #[.str #[⇑[c]],H,I1,#[u,Z],#[Z,c,hx,Z],st',λb hb=>(hf b hb).1]]
 done:=by
  intro X hP hw hK hc i jR s σ H E I hf st hg;subst hP hw hK;let#[f0,f1,f2,f3,f4,f5]:=hf it ⋯
  let hi:i=x.cps.size:=hg;subst hi;show(W X.A (I.ok.hd hc)).done s _ _ st λh' tk kk=>#[Z,I.turned (λb o hb e=>kk b o (by simpa using hb) e) f0 f1 f3 f4 f5]
 self:=self
section
variable{tg:Expr}
inductive Mr(R:It->Hp->Prop)(v:V)(a:Hp):Prop
 |mk(x:_)(_:v=.str x)(_:R (M3 x) a)
def Sv(b:TE):TI:=λc H R=>b c H λv a=>Mr R v a
theorem FN{l:Expr}{n:TE}(r:PE X l n):PI X tg l (Sv n):=by
 intro a s w H R I h;show Z3 (r a s w H _ I h) ?_;rintro v c ⟨z,f,d,u,x,e,q⟩;subst e;let#[t,rfl]:=u;let k:∀ b∈[c.heap.objs.size],WW X a f b:=λb p=>by
  rwa[zP.mp p,d.fpOk (zW _) (d.hok.fresh (zW _))]
 cases m:x.cps.all (· < 128)
 .show wpAny_pyIter_wide m #[c.heap.objs.size,[c.heap.objs.size],_,_,f,Z,d.kept (t':=c.toks) λb o e=>zL _ e,
   FH "str_iterator" (by decide) x t _ (λA g=>Walks.strWide g _ x t) (λA i s Q E j h=>wpAny_pyIter_striter_wide j h),#[_,yO _ Z,Z,Z],k,q]
 .show wpAny_pyIter_ascii m #[c.heap.objs.size,[c.heap.objs.size],_,_,f,Z,d.kept (t':=c.toks) λb o e=>zL _ e,
   FH "str_ascii_iterator" (by decide) x t _ (λA g=>Walks.strAscii g _ x t) (λA i s Q E j h=>wpAny_pyIter_striter_ascii j h),#[_,yO _ Z,Z,Z],k,q]
end
section
variable{σ:St}{H:Hp}{ix:jo}{te:TE}{Q:VK}
theorem Wr{J:It}{n:Nat}(d:Nat->V->Prop)(c:al->Nat->je->Hp->Prop)(z:n<au)(k:∀ D i a H,i<n->c D i a H->J.go i H)(t:∀ D i a H x g,i<n->c D i a H->J.yld i H x g->g=H/\d i x)(f:∀ D a H,c D n a H->J.stop n H)(q:∀ D,H D=Y'->c D 0 [] (upd H D (.lst [])))(step:∀ D i a H x,H D\.lst a->↑a<=i->i<n->d i x->c D i a H->∀ R:VK,(∀ y h,h D\.lst a->c D (i+1) (a++[y]) (upd h D (.lst (a++[y])))->R y h)->te (N7 σ ix x) H R)(j:∀ D a H,H D\.lst a->c D n a H->Q (.ref D) H):UC J σ ix GL te H Q:=by
 intro D r;exists λi m H=>m=n-i/\i<=n/\∃ a,H D\.lst a/\↑a<=i/\c D i a H,#[n,Z,yQ _,[],ZY,zW _,q D r];rintro i m H ⟨rfl,w,a,e,s,p⟩;by_cases b:i<n
 .show .inr #[k D i a H b p,λx g y=>?_];let#[rfl,u]:=t D i a H x g b p y;unfold GL;dsimp only;rw[aP rfl];show step D i a _ x e s b u p _ λy h o v=>?_;show#[a,n-(i+1),o,∅,∅,Z,b,a++[y],ZY,by rw[zS,wW];lia,v]
 .let l:i=n:=∅
  subst l;show .inl #[f D a H p,j D a H e p]
end
end L2
namespace Tw
open PySem
inductive KT where
 | int (i:Int)
 | str (x:Str)
 | tup (l:List KT)
abbrev jq:=List KT
mutual
def KT.depth:KT->Nat
 | .int _=>0
 | .str _=>0
 | .tup l=>1+jN l
def jN:jq->Nat
 | []=>0
 | t::r=>max t.depth (jN r)
end
mutual
def KT.size:KT->Nat
 | .int _=>1
 | .str _=>1
 | .tup l=>1+sizeL l
def sizeL:jq->Nat
 | []=>0
 | t::r=>t.size+sizeL r
end
def WS(c:Nat):Bool:=decide (32<=c)&&decide (c<=126)
def QW(x:Str):Bool:=decide (↑x<=40)&&x.cps.toList.all WS
mutual
def KT.fits:KT->Nat->Bool
 | .int i,_=>decide (i.natAbs<10 ^ 60)
 | .str x,_=>QW x
 | .tup l,r=>decide (0<r)&&(decide (↑l<=4)&&fitsL l (r-1))
def fitsL:jq->Nat->Bool
 | [],_=>true
 | t::l,r=>t.fits r&&fitsL l r
end
theorem QX(r:Nat):∀ l:jq,fitsL l r=l.all λt=>t.fits r
 | []=>by simp[fitsL]
 | t::l=>by rw[fitsL,vH,QX r l]
mutual
theorem UO:∀(t:KT)(r:Nat),t.fits r=V'->t.depth<=r
 | .int _,r,_=>#v[KT.depth,yQ _]
 | .str _,r,_=>#v[KT.depth,yQ _]
 | .tup l,r,h=>by
  rw[KT.fits,zT,zT] at h;let#[h1,_,h3]:=h;let h1':0<r:=of_decide_eq_true h1;have:=fitsL_depth l (r-1) h3;rw[KT.depth]
  lia
theorem fitsL_depth:∀(l:jq)(r:Nat),fitsL l r=V'->jN l<=r
 | [],r,_=>#v[jN,yQ _]
 | t::l,r,h=>by
  rw[fitsL,zT] at h;let a:=UO t r h.1;let b:=fitsL_depth l r h.2;rw[jN]
  lia
end
def KT.things:KT->jq
 | .tup l=>l
 | _=>[]
def below(l:jq):jq:=l.flatMap KT.things
end Tw
namespace Tw
open PySem PySem.Spec L2
structure ZC(P:ao)(w:ax)(K:zZ)(mg:jb)(jS:aE)(k:Nat)(x:Str)(ps:jr)(sp:Sp):Prop where
 ex:∃ f fd,ZI P w K mg jS ZX k f fd ps sp/\Zi K fd ps []/\yF K (.ref f)=V'/\mg x\.ref f
theorem Ze{X:Cx}{k:Nat}{x:Str}{q:jr}{h:Sp}{e:Expr}{a:jy}{t:TA}{p c:aJ}(D:ZC X.prog X.w X.K X.mg X.base k x q h)(n:ZU k X.A)(i:PA X (e::a) t)(l:Gl X x:=by rfl)(d:(x==("__debug__" : Str))=false:=by decide)(j:aw (e::a) X.env=(false,aH e X.env)::aw a X.env:=by rfl)(g:(aG c (aw a X.env)).any (·.1)=false:=by rfl):
  PE X (.Call (.Name x p) (e::a) [] c) (Mb h [] E0 t):=by
 let#[f,r,F,b,o,m]:=D.ex;show GG F n l m o b .nil Xi i d j g
mutual
def ZE(H:Hp):KT->V->Prop
 | .int i,v=>v=.int i
 | .str x,v=>v=.str x
 | .tup l,v=>∃ a vs,v=.ref a/\H a\.tup vs/\jK H l vs
def jK(H:Hp):jq->je->Prop
 | [],vs=>vs=[]
 | t::l,vs=>∃ v r,vs=v::r/\ZE H t v/\jK H l r
end
def XB(H c:Hp):Prop:=∀ b a,H b\.tup a->c b\.tup a
mutual
theorem ZE.mono{H H':Hp}(m:XB H H'):∀(t:KT)(v:V),ZE H t v->ZE H' t v
 | .int _,_,h=>by rw[ZE] at h⊢;show h
 | .str _,_,h=>by rw[ZE] at h⊢;show h
 | .tup l,_,h=>by
  rw[ZE] at h⊢;let#[a,vs,e,h1,h2]:=h;show#[a,vs,e,m a vs h1,jK.mono m l vs h2]
theorem jK.mono{H H':Hp}(m:XB H H'):∀(l:jq)(vs:je),jK H l vs->jK H' l vs
 | [],_,h=>by rw[jK] at h⊢;show h
 | t::l,_,h=>by
  rw[jK] at h⊢;let#[v,r,e,h1,h2]:=h;show#[v,r,e,ZE.mono m t v h1,jK.mono m l r h2]
end
def jK.nil{H:Hp}:jK H [] []:=by rw[jK]
def jK.cons{H:Hp}{t:KT}{l:jq}{v:V}{r:je}(h:ZE H t v)(a:jK H l r):jK H (t::l) (v::r):=by
 rwa[jK,#[v,r,Z,h,a]]
theorem ZE.tup{H:Hp}{a:al}{b:je}{l:jq}(e:H a\.tup b)(h:jK H l b):ZE H (.tup l) (.ref a):=by
 rwa[ZE,#[a,b,Z,e,h]]
theorem ZE.int{H:Hp}(i:Int):ZE H (.int i) (.int i):=by rw[ZE]
theorem ZE.str{H:Hp}(x:Str):ZE H (.str x) (.str x):=by rw[ZE]
def jK.append{H:Hp}:∀{l m:jq}{a b:je},jK H l a->jK H m b->jK H (l++m) (a++b)
 | [],m,a,b,h,g=>by rw[jK] at h;subst h;show g
 | t::l,m,a,b,h,g=>by
  rw[jK] at h;let#[v,r,rfl,c,d]:=h;show .cons c (d.append g)
def jK.length{H:Hp}:∀{l:jq}{a:je},jK H l a->↑l=↑a
 | [],a,h=>by rw[jK] at h;subst h;rfl
 | t::l,a,h=>by
  rw[jK] at h;let#[v,r,rfl,_,b]:=h;rw[zV,zV,↑b]
def jK.get{H:Hp}:∀{l:jq}{a:je}{i:Nat}{v:V},jK H l a->a[i]?\v->∃ t,l[i]?\t/\ZE H t v
 | [],a,i,v,h,e=>by rw[jK] at h;subst h;simp at e
 | t::l,a,0,v,h,e=>by
  rw[jK] at h;let#[j,r,rfl,d,_]:=h;simp at e;subst e;show#[t,Z,d]
 | t::l,a,i+1,v,h,e=>by
  rw[jK] at h;let#[j,r,rfl,_,f]:=h;let#[g,b,c]:=f.get (i:=i) (by simpa using e)
  show#[g,by simpa using b,c]
def KT.ty:KT->ak
 | .int _=>.type "int"
 | .str _=>.type "str"
 | .tup _=>.type "tuple"
theorem ZE.ty{H:Hp}{K:zZ}{t:KT}{v:V}(h:ZE H t v):Y5 K H v t.ty:=by
 cases t with
 | int i=>rw[ZE] at h;subst h;show .int i
 | str x=>rw[ZE] at h;subst h;show .str x
 | tup l=>rw[ZE] at h;let#[a,b,rfl,e,_]:=h;show .tup e
def ZA(p:al)(H a:Hp):Prop:=∀ b o,H b\o->b≠p->a b\o
theorem ZA.refl(p:al)(H:Hp):ZA p H H:=λ_ _ h _=>h
theorem ZA.trans{p:al}{H d e:Hp}(a:ZA p H d)(b:ZA p d e):ZA p H e:=λc o h n=>b c o (a c o h n) n
theorem ZA.upd{p:al}{H b:Hp}{o:HO}(a:ZA p H b):ZA p H (L2.upd b p o):=λc u h n=>#v[ZT n,a c u h n]
theorem ZA.of{p:al}{H b:Hp}(a:ZD H b):ZA p H b:=λc o h _=>a c o h
theorem ZA.tups{p:al}{H c:Hp}{d:je}(a:ZA p H c)(h:H p\.lst d):XB H c:=λb f e=>a b _ e (Z5 e h)
theorem ZD.tups{H c:Hp}(a:ZD H c):XB H c:=λb d e=>a b _ e
theorem ZE.sm{H a:Hp}{t:KT}{v:V}(h:ZE H t v)(s:ZD H a):ZE a t v:=h.mono (ZD.tups s) _ _
def jK.sm{H a:Hp}{t:jq}{v:je}(h:jK H t v)(s:ZD H a):jK a t v:=h.mono (ZD.tups s) _ _
theorem Zr{H:Hp}{p:al}(h:H p=Y')(o:HO):ZD H (L2.upd H p o):=λb u q=>#v[ZT (Zf q h),q]
structure ZG(H:Hp)(p:al):Prop where
 ex:∃ a b c d:Int,H p\.lst [.int a,.int b,.int c,.int d]/\0<=a/\a<2147483647/\0<=c/\0<=d
theorem ZG.stay{H f:Hp}{p q:al}(w:ZG H p)(s:ZA q H f)(n:p≠q):ZG f p:=by
 let#[a,b,c,d,e,r]:=w.ex;show#[a,b,c,d,s p _ e n,r]
theorem ZG.same{H f:Hp}{p:al}(w:ZG H p)(s:ZD H f):ZG f p:=by
 let#[a,b,c,d,e,r]:=w.ex;show#[a,b,c,d,s p _ e,r]
theorem ZG.some{H:Hp}{p:al}(w:ZG H p):∃ f,H p=yP (.lst f):=by
 let#[a,b,c,d,e,r]:=w.ex;show#[_,e]
theorem ZA.tupsW{p:al}{H b:Hp}(a:ZA p H b)(w:ZG H p):XB H b:=by
 let#[c,e]:=w.some;show a.tups e
def small(m:Int):Prop:=0<m/\m.natAbs.log2<9000
inductive Ub(K:zZ)(d:je)(H:Hp)(Q:VK)(_:XK):Prop
 |mk(a:al)(c:jH)(k:Int)(_:d=[.ref a,.int k])(_:ZH K H a (c.map V.int))(_:↑c<=63)(_:0<=k)(_:k<=1000)(_:∀(p:al)(b:Hp),H p=Y'->ZD H b->ZG b p->Q (.ref p) b)
inductive Zm(b:je)(H:Hp)(Q:VK)(_:XK):Prop
 |mk(p:al)(m:Int)(_:b=[.ref p,.int m])(_:ZG H p)(_:small m)(_:∀(r:Int)(a:Hp),0<=r->r<m->ZG a p->ZA p H a->Q (.int r) a)
inductive VE(b:je)(H:Hp)(Q:VK)(_:XK):Prop
 |mk(p:al)(_:b=[.ref p])(_:ZG H p)(_:∀(x:Str)(a:Hp),QW x=V'->ZG a p->ZA p H a->Q (.str x) a)
inductive WM(n:Nat)(b:je)(H:Hp)(Q:VK)(_:XK):Prop
 |mk(p:al)(r:Nat)(_:b=[.ref p,.int (r:Int)])(_:ZG H p)(_:r<n)(_:∀(v:V)(t:KT)(a:Hp),ZE a t v->t.fits r=V'->ZG a p->ZA p H a->Q v a)
inductive WH(n:Nat)(b:je)(H:Hp)(Q:VK)(_:XK):Prop
 |mk(v:V)(t:KT)(r q:Nat)(_:b=[v,.int (r:Int)])(_:ZE H t v)(_:t.fits q=V')(_:r<n)(_:∀ a,ZD H a->Q (.bl (t.fits r)) a)
inductive Uq(a:je)(H:Hp)(Q:VK)(_:XK):Prop
 |mk(i:Int)(_:a=[.int i])(_:Q (.bl (decide (i.natAbs<10 ^ 60))) H)
inductive Va(a:je)(H:Hp)(Q:VK)(_:XK):Prop
 |mk(c:Nat)(_:a=[.str ⟨⇑[c]⟩])(_:Q (.bl (WS c)) H)
inductive Vm(b:je)(H:Hp)(Q:VK)(_:XK):Prop
 |mk(v:V)(t:KT)(q:Nat)(_:b=[v])(_:ZE H t v)(_:t.fits q=V')(_:∀ a,ZD H a->Q (.bl (t.fits 3)) a)
inductive Uk(K:zZ)(d:je)(H:Hp)(Q:VK)(_:XK):Prop
 |mk(a:al)(b:jH)(_:d=[.ref a])(_:ZH K H a (b.map V.int))(_:↑b<=63)(_:∀ c,Q (.bl true) c)
theorem nn{n:Nat}(h:n<=1000):n<=sizeLine:=yK (YQ h)
theorem Ym{n:Nat}(h:Nat.ble n 1000=V':=by rfl):n<=sizeLine:=nn (yC h)
theorem MU{x y:V}{i:Int}(a:0<=i)(b:i<2):∃ v,Vx [x,y] i\v/\(v=x\/v=y):=by
 rcases(show i=0\/i=1 by lia) with e | e
 .subst e;show#[x,Z,.inl Z]
 .subst e;show#[y,Z,.inr Z]
theorem HN{b:Type}{xs:List b}{i:Int}(c:0<=i)(d:i<(↑xs:Int)):∃ v,Vx xs i\v/\v∈xs:=by
 let a:i.toNat<↑xs:=∅
 let e:i=((i.toNat:Nat):Int):=∅
 rwa[e,#[xs[i.toNat],YW (zU a),xP a]]
theorem XZ{m:Int}(a:0<m)(b:m.natAbs<2 ^ 250):small m:=by
 exists a;have:m.natAbs.log2<250:=(Nat.log2_lt ∅).mpr b
 lia
theorem KA{i j:Int}(h:V.int i=V.int j):i=j:=by injection h
theorem B0(c:Nat):((!decide ([c]<[32])) && !decide ([126]<[c]))=WS c:=by
 unfold WS;let a:([c]<[32]) ↔ c<32:=by simp[uY]
 let b:([126]<[c]) ↔ 126<c:=by simp[uY]
 rw[wL];simp only[zT,tN,decide_eq_false_iff_not,decide_eq_true_eq,a,b]
 lia
theorem ye(i:Int):decide ((if i<0 then -i else i)<10 ^ (60:Int).toNat)=decide (i.natAbs<10 ^ 60):=by
 let e:((10:Int) ^ (60:Int).toNat)=((10 ^ 60:Nat):Int):=by decide +kernel
 rw[e];generalize (10 ^ 60:Nat)=N;apply decide_eq_decide.mpr;split <;> lia
end Tw
namespace Tw
open PySem
mutual
def KT.eqb:KT->KT->Bool
 | .int i,.int j=>i==j
 | .str x,.str y=>x==y
 | .tup l,.tup m=>jM l m
 | _,_=>false
def jM:jq->jq->Bool
 | [],[]=>true
 | a::l,b::m=>a.eqb b&&jM l m
 | _,_=>false
end
mutual
def KT.plt:KT->KT->Bool
 | .int i,.int j=>decide (i<j)
 | .str x,.str y=>decide (x.cps.toList<y.cps.toList)
 | .tup l,.tup m=>pltL l m
 | _,_=>false
def pltL:jq->jq->Bool
 | [],[]=>false
 | [],_::_=>true
 | _::_,[]=>false
 | a::l,b::m=>if a.eqb b=V' then pltL l m else a.plt b
end
mutual
def KT.cmp:KT->KT->Bool
 | .int _,.int _=>true
 | .str _,.str _=>true
 | .tup l,.tup m=>cmpL l m
 | _,_=>false
def cmpL:jq->jq->Bool
 | [],_=>true
 | _::_,[]=>true
 | a::l,b::m=>if a.eqb b=V' then cmpL l m else a.cmp b
end
def KT.kind:KT->Nat
 | .int _=>0
 | .str _=>1
 | .tup _=>2
mutual
def KT.lt:KT->KT->Bool
 | .int i,.int j=>decide (i<j)
 | .int _,.str _=>true
 | .int _,.tup _=>true
 | .str _,.int _=>false
 | .str x,.str y=>decide (x.cps.toList<y.cps.toList)
 | .str _,.tup _=>true
 | .tup _,.int _=>false
 | .tup _,.str _=>false
 | .tup l,.tup m=>ltL l m
def ltL:jq->jq->Bool
 | [],[]=>false
 | [],_::_=>true
 | _::_,[]=>false
 | a::l,b::m=>if a.eqb b=V' then ltL l m else a.lt b
end
mutual
def KT.st:KT->KT
 | .int i=>.tup [.int 0,.int i]
 | .str x=>.tup [.int 1,.str x]
 | .tup l=>.tup [.int 2,.tup (stL l)]
def stL:jq->jq
 | []=>[]
 | t::l=>t.st::stL l
end
theorem CD:∀ l:jq,stL l=l.map KT.st
 | []=>by rw[stL];rfl
 | t::l=>by rw[stL,CD l];rfl
mutual
theorem Ob:∀(a b:KT),a.eqb b=V'->a=b
 | .int i,.int j,h=>by rw[KT.eqb] at h;rw[eq_of_beq h]
 | .str x,.str y,h=>by rw[KT.eqb] at h;rw[eq_of_beq h]
 | .tup l,.tup m,h=>by rw[KT.eqb] at h;rw[eqbL_eq l m h]
 | .int _,.str _,h=>by simp[KT.eqb] at h
 | .int _,.tup _,h=>by simp[KT.eqb] at h
 | .str _,.int _,h=>by simp[KT.eqb] at h
 | .str _,.tup _,h=>by simp[KT.eqb] at h
 | .tup _,.int _,h=>by simp[KT.eqb] at h
 | .tup _,.str _,h=>by simp[KT.eqb] at h
theorem eqbL_eq:∀(l m:jq),jM l m=V'->l=m
 | [],[],_=>rfl
 | a::l,b::m,h=>by
  rw[jM,zT] at h;rw[Ob a b h.1,eqbL_eq l m h.2]
 | [],_::_,h=>by simp[jM] at h
 | _::_,[],h=>by simp[jM] at h
end
mutual
theorem P5:∀ a:KT,a.eqb a=V'
 | .int i=>#v[KT.eqb,beq_self_eq_true i]
 | .str x=>#v[KT.eqb,beq_self_eq_true x]
 | .tup l=>#v[KT.eqb,eqbL_self l]
theorem eqbL_self:∀ l:jq,jM l l=V'
 | []=>by rw[jM]
 | a::l=>by rw[jM,P5 a,eqbL_self l];rfl
end
theorem XV{a b:KT}:a.eqb b=V' ↔ a=b:=#[Ob a b,λe=>#v[e,P5 b]]
mutual
theorem Fy:∀ a b:KT,a.st.eqb b.st=a.eqb b
 | .int i,.int j=>by simp[KT.st,KT.eqb,jM]
 | .str x,.str y=>by simp[KT.st,KT.eqb,jM]
 | .tup l,.tup m=>by simp[KT.st,KT.eqb,jM,eqbL_st l m]
 | .int _,.str _=>by simp[KT.st,KT.eqb,jM]
 | .int _,.tup _=>by simp[KT.st,KT.eqb,jM]
 | .str _,.int _=>by simp[KT.st,KT.eqb,jM]
 | .str _,.tup _=>by simp[KT.st,KT.eqb,jM]
 | .tup _,.int _=>by simp[KT.st,KT.eqb,jM]
 | .tup _,.str _=>by simp[KT.st,KT.eqb,jM]
theorem eqbL_st:∀ l m:jq,jM (stL l) (stL m)=jM l m
 | [],[]=>by simp[stL,jM]
 | a::l,b::m=>by simp[stL,jM,Fy a b,eqbL_st l m]
 | [],_::_=>by simp[stL,jM]
 | _::_,[]=>by simp[stL,jM]
end
theorem AN:∀ l:jq,ltL l l=false
 | []=>by rw[ltL]
 | a::l=>by rw[ltL,P5 a,aP rfl,AN l]
theorem B7{l m:jq}(h:jM l m=V'):ltL l m=false:=by
 rwa[eqbL_eq l m h,AN m]
mutual
theorem EO:∀ a b:KT,a.st.cmp b.st=V'
 | .int i,.int j=>by simp[KT.st,KT.eqb,KT.cmp,cmpL]
 | .str x,.str y=>by simp[KT.st,KT.eqb,KT.cmp,cmpL]
 | .tup l,.tup m=>by simp[KT.st,KT.eqb,KT.cmp,cmpL,cmpL_st l m]
 | .int _,.str _=>by simp[KT.st,KT.eqb,KT.cmp,cmpL]
 | .int _,.tup _=>by simp[KT.st,KT.eqb,KT.cmp,cmpL]
 | .str _,.int _=>by simp[KT.st,KT.eqb,KT.cmp,cmpL]
 | .str _,.tup _=>by simp[KT.st,KT.eqb,KT.cmp,cmpL]
 | .tup _,.int _=>by simp[KT.st,KT.eqb,KT.cmp,cmpL]
 | .tup _,.str _=>by simp[KT.st,KT.eqb,KT.cmp,cmpL]
theorem cmpL_st:∀ l m:jq,cmpL (stL l) (stL m)=V'
 | [],_=>by simp[stL,cmpL]
 | _::_,[]=>by simp[stL,cmpL]
 | a::l,b::m=>by
  rw[stL,stL,cmpL,cmpL_st l m,EO a b];split <;> rfl
end
mutual
theorem F6:∀ a b:KT,a.st.plt b.st=a.lt b
 | .int i,.int j=>by
  simp only[KT.st,KT.eqb,KT.plt,pltL,KT.lt,beq_self_eq_true,if_true];by_cases h:i=j
  .subst h;simp
  .simp[h]
 | .str x,.str y=>by
  simp only[KT.st,KT.eqb,KT.plt,pltL,KT.lt,beq_self_eq_true,if_true];by_cases h:x=y
  .subst h;simp
  .simp[h]
 | .tup l,.tup m=>by
  simp only[KT.st,KT.eqb,KT.plt,pltL,KT.lt,beq_self_eq_true,if_true,eqbL_st,pltL_st l m]
  cases h:jM l m with
  | true=>rw[aP rfl,B7 h]
  | false=>rw[aO zR]
 | .int _,.str _=>by simp[KT.st,KT.eqb,KT.plt,pltL,KT.lt]
 | .int _,.tup _=>by simp[KT.st,KT.eqb,KT.plt,pltL,KT.lt]
 | .str _,.int _=>by simp[KT.st,KT.eqb,KT.plt,pltL,KT.lt]
 | .str _,.tup _=>by simp[KT.st,KT.eqb,KT.plt,pltL,KT.lt]
 | .tup _,.int _=>by simp[KT.st,KT.eqb,KT.plt,pltL,KT.lt]
 | .tup _,.str _=>by simp[KT.st,KT.eqb,KT.plt,pltL,KT.lt]
theorem pltL_st:∀ l m:jq,pltL (stL l) (stL m)=ltL l m
 | [],[]=>by simp[stL,pltL,ltL]
 | [],_::_=>by simp[stL,pltL,ltL]
 | _::_,[]=>by simp[stL,pltL,ltL]
 | a::l,b::m=>by rw[stL,stL,pltL,ltL,Fy a b,pltL_st l m,F6 a b]
end
mutual
theorem Bv:∀ t:KT,t.st.depth<=2 * t.depth+1
 | .int i=>by simp[KT.st,KT.depth,jN]
 | .str x=>by simp[KT.st,KT.depth,jN]
 | .tup l=>by
  have:=depthL_st l;simp only[KT.st,KT.depth,jN]
  lia
theorem depthL_st:∀ l:jq,jN (stL l)<=2 * jN l+1
 | []=>by simp[stL,jN]
 | t::l=>by
  let a:=Bv t;let b:=depthL_st l;rw[stL,jN,jN]
  lia
end
theorem FD{x:Str}(h:QW x=V'):x.cps.size<=40/\x.cps.toList.all WS=V':=by
 unfold QW at h;rw[zT] at h;show#[of_decide_eq_true h.1,h.2]
theorem Em:∀(l m:jo),l<m->¬ m<l
 | [],[],h,_=>absurd h (sU _)
 | [],_::_,_,h=>absurd h (sU _)
 | _::_,[],h,_=>absurd h (sU _)
 | a::l,b::m,h,c=>by
  rw[uY] at h c;rcases h with h | ⟨rfl,h⟩
  .rcases c with c | ⟨rfl,c⟩
   .lia
   .lia
  .rcases c with c | ⟨_,c⟩
   .lia
   .show Em l m h c
theorem DY:∀(l m:jo),¬ l<m->¬ m<l->l=m
 | [],[],_,_=>rfl
 | [],_::_,h,_=>absurd (qA _ _) h
 | _::_,[],_,h=>absurd (qA _ _) h
 | a::l,b::m,h,h'=>by
  rw[uY] at h h';let e:a=b:=by
   rcases Nat.lt_trichotomy a b with c | c | c
   .show absurd (.inl c) h
   .show c
   .show absurd (.inl c) h'
  subst e;rw[DY l m (λz=>h (.inr #[Z,z])) λz=>h' (.inr #[Z,z])]
theorem AG:∀(l m k:jo),l<m->m<k->l<k
 | _,_,[],_,h=>absurd h (sU _)
 | [],_,_::_,_,_=>qA _ _
 | _::_,[],_,h,_=>absurd h (sU _)
 | a::l,b::m,c::k,h,d=>by
  rw[uY] at h d⊢;rcases h with h | ⟨rfl,h⟩
  .rcases d with d | ⟨rfl,d⟩
   .show .inl (xH h d)
   .show .inl h
  .rcases d with d | ⟨rfl,d⟩
   .show .inl d
   .show .inr #[Z,AG l m k h d]
theorem T4(a b:KT):a.eqb b=b.eqb a:=by
 rwa[wL,XV,XV,eq_comm]
mutual
theorem J9:∀(a b:KT),a.lt b=V'->b.lt a=false
 | .int i,.int j,h=>by rw[KT.lt] at h⊢;have:=of_decide_eq_true h;show aK ∅
 | .int _,.str _,_=>by rw[KT.lt]
 | .int _,.tup _,_=>by rw[KT.lt]
 | .str _,.int _,h=>by erw[KT.lt] at h
 | .str x,.str y,h=>by rw[KT.lt] at h⊢;show aK (Em _ _ (of_decide_eq_true h))
 | .str _,.tup _,_=>by rw[KT.lt]
 | .tup _,.int _,h=>by erw[KT.lt] at h
 | .tup _,.str _,h=>by erw[KT.lt] at h
 | .tup l,.tup m,h=>by rw[KT.lt] at h⊢;show ltL_asym l m h
theorem ltL_asym:∀(l m:jq),ltL l m=V'->ltL m l=false
 | [],[],h=>by erw[ltL] at h
 | [],_::_,_=>by rw[ltL]
 | _::_,[],h=>by erw[ltL] at h
 | a::l,b::m,h=>by
  rw[ltL] at h⊢;rw[T4 b a]
  cases e:a.eqb b with
  | true=>rw[e,aP rfl] at h;rwa[aP Z,ltL_asym l m h]
  | false=>rw[e,aO zR] at h;rwa[aO zR,J9 a b h]
end
mutual
theorem Ib:∀(a b:KT),a.lt b=false->b.lt a=false->a=b
 | .int i,.int j,h,h'=>by rw[KT.lt] at h h';have:=of_decide_eq_false h;have:=of_decide_eq_false h';rw[show i=j by lia]
 | .int _,.str _,h,_=>by erw[KT.lt] at h
 | .int _,.tup _,h,_=>by erw[KT.lt] at h
 | .str _,.int _,_,h=>by erw[KT.lt] at h
 | .str x,.str y,h,h'=>by
  rw[KT.lt] at h h';let e:=DY _ _ (of_decide_eq_false h) (of_decide_eq_false h');let#[#[x]]:=x;let#[#[y]]:=y;dsimp only at e;rw[e]
 | .str _,.tup _,h,_=>by erw[KT.lt] at h
 | .tup _,.int _,_,h=>by erw[KT.lt] at h
 | .tup _,.str _,_,h=>by erw[KT.lt] at h
 | .tup l,.tup m,h,h'=>by rw[KT.lt] at h h';rw[ltL_total l m h h']
theorem ltL_total:∀(l m:jq),ltL l m=false->ltL m l=false->l=m
 | [],[],_,_=>rfl
 | [],_::_,h,_=>by erw[ltL] at h
 | _::_,[],_,h=>by erw[ltL] at h
 | a::l,b::m,h,h'=>by
  rw[ltL] at h h';rw[T4 b a] at h'
  cases e:a.eqb b with
  | true=>rw[e,aP rfl] at h h';rw[XV.mp e,ltL_total l m h h']
  | false=>
   rw[e,aO zR] at h h';have:=Ib a b h h';erw[this,P5] at e
end
theorem Oo(a:KT):a.lt a=false:=by
 cases h:a.lt a with
 | false=>rfl
 | true=>have:=J9 a a h;erw[h] at this
mutual
theorem U':∀(a b c:KT),a.lt b=V'->b.lt c=V'->a.lt c=V'
 | .int i,.int j,.int k,h,h'=>by rw[KT.lt] at h h'⊢;have:=of_decide_eq_true h;have:=of_decide_eq_true h';show aM ∅
 | .int _,_,.str _,_,_=>by rw[KT.lt]
 | .int _,_,.tup _,_,_=>by rw[KT.lt]
 | .str _,_,.tup _,_,_=>by rw[KT.lt]
 | .int _,.str _,.int _,_,h=>by erw[KT.lt] at h
 | .int _,.tup _,.int _,_,h=>by erw[KT.lt] at h
 | .str _,.int _,_,h,_=>by erw[KT.lt] at h
 | .str x,.str y,.str z,h,h'=>by rw[KT.lt] at h h'⊢;show aM (AG _ _ _ (of_decide_eq_true h) (of_decide_eq_true h'))
 | .str _,.str _,.int _,_,h=>by erw[KT.lt] at h
 | .str _,.tup _,.str _,_,h=>by erw[KT.lt] at h
 | .str _,.tup _,.int _,_,h=>by erw[KT.lt] at h
 | .tup _,.int _,_,h,_=>by erw[KT.lt] at h
 | .tup _,.str _,_,h,_=>by erw[KT.lt] at h
 | .tup l,.tup m,.tup k,h,h'=>by rw[KT.lt] at h h'⊢;show ltL_trans l m k h h'
 | .tup _,.tup _,.int _,_,h=>by erw[KT.lt] at h
 | .tup _,.tup _,.str _,_,h=>by erw[KT.lt] at h
theorem ltL_trans:∀(l m k:jq),ltL l m=V'->ltL m k=V'->ltL l k=V'
 | _,[],[],_,h=>by erw[ltL] at h
 | _,_::_,[],_,h=>by erw[ltL] at h
 | [],_,_::_,_,_=>by rw[ltL]
 | _::_,[],_::_,h,_=>by erw[ltL] at h
 | a::l,b::m,c::k,h,h'=>by
  rw[ltL] at h h'⊢
  cases e:a.eqb b with
  | true=>
   rw[e,aP rfl] at h;let ab:=XV.mp e;subst ab
   cases e2:a.eqb c with
   | true=>rw[e2,aP rfl] at h';rwa[aP Z,ltL_trans l m k h h']
   | false=>rw[e2,aO zR] at h';rwa[aO zR,h']
  | false=>
   rw[e,aO zR] at h
   cases e2:b.eqb c with
   | true=>
    let bc:=XV.mp e2;subst bc;rwa[e,aO zR,h]
   | false=>
    rw[e2,aO zR] at h';let ac:=U' a b c h h'
    cases e3:a.eqb c with
    | true=>
     have:=XV.mp e3;subst this;erw[Oo] at ac
    | false=>rwa[aO zR,ac]
end
theorem TR{a b c:KT}(f:b.lt a=false)(d:c.lt b=false):c.lt a=false:=by
 cases h:c.lt a with
 | false=>rfl
 | true=>
  cases e:a.lt b with
  | true=>erw[U' c a b h e] at d
  | false=>erw[Ib a b e f,d] at h
end Tw
namespace Tw
open PySem PySem.Spec L2 PyProof.Rows
mutual
def ZO(h:aE):KT->ak->Prop
 | .int i,v=>∃ t,v=.int i t
 | .str x,v=>∃ t,v=.str x t
 | .tup l,v=>∃(a:al)(its:jd),v=.ref a/\IsTup h a ⇑its/\jL h l its
def jL(h:aE):jq->jd->Prop
 | [],vs=>vs=[]
 | t::l,vs=>∃ v r,vs=v::r/\ZO h t v/\jL h l r
end
section
variable{jR:js}{σ:L2.St}{H:Hp}
mutual
theorem PX(I:ZF X jR σ H s):∀(t:KT)(x:V)(v:ak),ZE H t x->ZQ x v->ZO s.heap t v
 | .int i,x,v,h,r=>by
  rw[ZE] at h;subst h;rwa[ZO,r]
 | .str y,x,v,h,r=>by
  rw[ZE] at h;subst h;rwa[ZO,r]
 | .tup l,x,v,h,r=>by
  rw[ZE] at h;let#[a,vs,rfl,e,hk]:=h;let#[its,rv,pl,_]:=I.tuple (Zd.of e);rwa[ZO,#[a,its,r,pl,kvals_of I l vs its hk rv]]
theorem kvals_of(I:ZF X jR σ H s):∀(l:jq)(vs:je)(us:jd),jK H l vs->ZN vs us->jL s.heap l us
 | [],vs,us,h,r=>by
  rw[jK] at h;subst h;rw[jL];cases r;rfl
 | t::l,vs,us,h,r=>by
  rw[jK] at h;let#[v,q,rfl,h1,h2]:=h
  cases r with
  | cons r1 r2=>
   rwa[jL,#[_,1,PX I t v _ h1 r1,kvals_of I l q _ h2 r2]]
end
end
theorem nW{h:aE}{a:al}{c b:jd}(x:IsTup h a ⇑c)(y:IsTup h a ⇑b):c=b:=by
 let#[o,e,_,n,d]:=x;let#[j,g,_,i,f]:=y;erw[e] at g;rw[d] at f;injection f with d1 _;simpa using congrArg zEZ d1
mutual
theorem ZO.inj{h:aE}:∀(a b:KT)(v:ak),ZO h a v->ZO h b v->a.eqb b=V'
 | .int i,b,v,x,y=>by
  rw[ZO] at x;let#[t,rfl]:=x
  cases b with
  | int j=>rw[ZO] at y;let#[u,e]:=y;injection e with e _;rwa[KT.eqb,e,beq_self_eq_true j]
  | str z=>rw[ZO] at y;let#[u,e]:=y;cases e
  | tup m=>rw[ZO] at y;let#[_,_,e,_]:=y;cases e
 | .str w,b,v,x,y=>by
  rw[ZO] at x;let#[t,rfl]:=x
  cases b with
  | int j=>rw[ZO] at y;let#[u,e]:=y;cases e
  | str z=>rw[ZO] at y;let#[u,e]:=y;injection e with e _;rwa[KT.eqb,e,beq_self_eq_true z]
  | tup m=>rw[ZO] at y;let#[_,_,e,_]:=y;cases e
 | .tup l,b,v,x,y=>by
  rw[ZO] at x;let#[p,its,rfl,px,kx]:=x
  cases b with
  | int j=>rw[ZO] at y;let#[u,e]:=y;cases e
  | str z=>rw[ZO] at y;let#[u,e]:=y;cases e
  | tup m=>
   rw[ZO] at y;let#[q,its',e,py,ky]:=y;cases e;cases nW px py;rwa[KT.eqb,jL.inj l m its kx ky]
theorem jL.inj{h:aE}:∀(l m:jq)(us:jd),jL h l us->jL h m us->jM l m=V'
 | [],m,us,x,y=>by
  rw[jL] at x;subst x
  cases m with
  | nil=>rw[jM]
  | cons b m=>rw[jL] at y;let#[_,_,e,_]:=y;cases e
 | a::l,m,us,x,y=>by
  rw[jL] at x;let#[v,r,rfl,x1,x2]:=x
  cases m with
  | nil=>erw[jL] at y
  | cons b m=>
   rw[jL] at y;let#[v',r',e,y1,y2]:=y;injection e with e1 e2;subst e1 e2;rw[jM,ZO.inj a b v x1 y1,jL.inj l m r x2 y2];rfl
end
def jL.length{h:aE}:∀{l:jq}{b:jd},jL h l b->↑l=↑b
 | [],b,x=>by rw[jL] at x;subst x;rfl
 | a::l,b,x=>by
  rw[jL] at x;let#[v,r,rfl,_,c]:=x;rw[zV,zV,↑c]
def jL.get{h:aE}:∀{l:jq}{b:jd}{j:Nat}{u:ak},jL h l b->b[j]?\u->∃ t,l[j]?\t/\ZO h t u
 | [],b,j,u,x,e=>by rw[jL] at x;subst x;simp at e
 | a::l,b,0,u,x,e=>by
  rw[jL] at x;let#[v,r,rfl,f,_]:=x;simp at e;subst e;show#[a,Z,f]
 | a::l,b,j+1,u,x,e=>by
  rw[jL] at x;let#[v,r,rfl,_,g]:=x;let#[t,c,d]:=g.get (j:=j) (by simpa using e)
  show#[t,by simpa using c,d]
theorem O9:∀{l:jq}{t:KT},t∈l->t.depth<=jN l
 | [],_,h=>by cases h
 | u::l,t,h=>by
  rw[jN];rcases zN.mp h with e | h
  .subst e;lia
  .have:=O9 h;lia
theorem Kf:∀(l m:jq),((zG (min ↑l ↑m)).all (λj=>(l.getD j (.int 0)).eqb (m.getD j (.int 0)))&&↑l==↑m)=jM l m
 | [],[]=>by simp[jM]
 | [],_::_=>by simp[jM]
 | _::_,[]=>by simp[jM]
 | a::l,b::m=>by
  let c:=Kf l m;let e:min ↑(a::l) ↑(b::m)=min ↑l ↑m+1:=by simp only[zV];lia
  rw[e,zEW,vH,vJ,jM,<-c,Bool.and_assoc];simp[Function.comp_def]
theorem M0{s:am}:∀(n:Nat)(a b:KT)(A:ay)(v u:ak),a.depth<=n->ZO s.heap a v->ZO s.heap b u->A.units+a.depth<cLine->SeqAt.EqAt A s v u (a.eqb b)
 | n,.int i,b,A,v,u,_,x,y,o=>by
  rw[ZO] at x;let#[t,rfl]:=x;let d:A.units<cLine:=∅
  cases b with
  | int j=>rw[ZO] at y;let#[g,rfl]:=y;rwa[KT.eqb,SeqAt.EqAt.int_int i t j g]
  | str z=>rw[ZO] at y;let#[g,rfl]:=y;rwa[show (KT.int i).eqb (.str z)=false by simp[KT.eqb],SeqAt.EqAt.int_str i t z g]
  | tup m=>rw[ZO] at y;let#[p,f,rfl,k,_]:=y;rwa[show (KT.int i).eqb (.tup m)=false by simp[KT.eqb],SeqAt.EqAt.int_tuple i t k d]
 | n,.str w,b,A,v,u,_,x,y,o=>by
  rw[ZO] at x;let#[t,rfl]:=x;let d:A.units<cLine:=∅
  cases b with
  | int j=>rw[ZO] at y;let#[g,rfl]:=y;rwa[show (KT.str w).eqb (.int j)=false by simp[KT.eqb],SeqAt.EqAt.str_int w t j g]
  | str z=>rw[ZO] at y;let#[g,rfl]:=y;rwa[KT.eqb,SeqAt.EqAt.str_str w t z g]
  | tup m=>rw[ZO] at y;let#[p,f,rfl,k,_]:=y;rwa[show (KT.str w).eqb (.tup m)=false by simp[KT.eqb],SeqAt.EqAt.str_tuple w t k d]
 | 0,.tup l,b,A,v,u,C,x,y,o=>by
  rw[KT.depth] at C
  lia
 | n+1,.tup l,b,A,v,u,C,x,y,o=>by
  let U:=x;rw[ZO] at x;let#[p,f,rfl,D,G]:=x;rw[KT.depth] at C o;let d:A.units<cLine:=∅
  cases b with
  | int j=>rw[ZO] at y;let#[g,rfl]:=y;rwa[show (KT.tup l).eqb (.int j)=false by simp[KT.eqb],SeqAt.EqAt.tuple_int j g D d]
  | str z=>rw[ZO] at y;let#[g,rfl]:=y;rwa[show (KT.tup l).eqb (.str z)=false by simp[KT.eqb],SeqAt.EqAt.tuple_str z g D d]
  | tup m=>
   let V:=y;rw[ZO] at y;let#[q,c,rfl,k,H]:=y;by_cases h:p=q
   .subst h;rwa[ZO.inj _ _ _ U V,SeqAt.EqAt.same _]
   .let S:=↑G;let T:=↑H;let I:=SeqAt.RcAt.tuples (A:=A) (s:=s) (e:=λj=>(l.getD j (.int 0)).eqb (m.getD j (.int 0))) D k d (λj O P=>by
     let r:j<↑f:=by simpa using O
     let B:j<↑c:=by simpa using P
     let#[E,F,Q]:=G.get (j:=j) (u:=f[j]) (by simp[r])
     let#[J,K,R]:=H.get (j:=j) (u:=c[j]) (by simp[B])
     let W:=O9 (zI F);let M:l.getD j (.int 0)=E:=by rw[zO,F];rfl
     let N:m.getD j (.int 0)=J:=by rw[zO,K];rfl
     have:=M0 n E J A.in1 f[j] c[j] ∅ Q R (by change A.units+1+E.depth<cLine;lia)
     change SeqAt.EqAt A.in1 s _ _ ((l.getD j (.int 0)).eqb (m.getD j (.int 0)));rw[M,N];simpa using this)
    let L:((zG (min f.toArray.size c.toArray.size)).all (λj=>(l.getD j (.int 0)).eqb (m.getD j (.int 0)))&&f.toArray.size==c.toArray.size)=(KT.tup l).eqb (.tup m):=by
     rwa[zB,zB,<-S,<-T,KT.eqb,Kf l m]
    rw[L] at I;show .of_refs h I
def Qi(o:Bool)(a b:KT):Bool:=bif o then !b.plt a else a.plt b
def Po(o:Bool)(l m:jq):Bool:=bif o then !pltL m l else pltL l m
theorem AV{o:Bool}{a c:KT}{l m:jq}:Po o (a::l) (c::m)=if a.eqb c=V' then Po o l m else Qi o a c:=by
 unfold Po Qi;rw[pltL,pltL,T4 c a];cases o <;> cases a.eqb c <;> rfl
theorem ve{o:Bool}{l m:jq}{i j:Nat}(h:l=[]\/m=[])(e:↑l+j=↑m+i):Po o l m=bif o then decide (i<=j) else decide (i<j):=by
 rcases h with rfl | rfl
 .cases m <;> cases o <;> simp[Po,pltL] at e⊢ <;> lia
 .cases l <;> cases o <;> simp[Po,pltL] at e⊢ <;> lia
def Lz(o:Bool)(A:ay)(s:am)(v u:ak)(b:Bool):Prop:=
 ∀(a:ao)(w:ax)(E:ja)(Q:ja),Q (.bool b) s->aC (aB a w) A (richCompare (bif o then .LtE else .Lt) v u) Q E s
section
open PySem.SeqAt
open PySem.AutoSeq1 (wpAny_loadPart')
open PySem.MeetsSeq PySem.MeetsSeq2 PySem.MeetsSeq3
inductive Db(c:aE)(d:jq)(n m:Nat)(G:jq->jq->Prop)(rest:List (ak×ak)):Prop
 |mk(e f:jd)(a b:jq):rest=e.zip f->jL c a e->jL c b f->(∀ x∈a,x∈d)->cmpL a b=V'->↑a+m=↑b+n->G a b->Db c d n m G rest
theorem j9(o:Bool)(l b:al)(f e:jw)(n n2:Nat)(dd K:jx)(sl O:Array (jc))(D J:jq):
  Meets ((bif o then Builtin.«tuple.__le__» else Builtin.«tuple.__lt__») #[[.ref l,.ref b],[]])
   (λA R s=>s.heap.get? l\{ cls:=.type "tuple",dict:=dd,data:=.seq f n,slots:=sl }/\s.heap.get? b=Z' { cls:=.type "tuple",dict:=K,data:=.seq e n2,slots:=O } /\
    jL s.heap D f.toList/\jL s.heap J e.toList/\cmpL D J=V' /\
    (∀ x y v u,x∈D->ZO s.heap x v->ZO s.heap y u->EqAt A.in1 s v u (x.eqb y))/\(∀ x y v u,x∈D->ZO s.heap x v->ZO s.heap y u->x.cmp y=V'->Lz o A.in1 s v u (Qi o x y)) /\
    R (.ok (.ret (.bool (Po o D J)))) s):=by
 let P:=@AV o;let Q:=@ve o;generalize Po o=F at P Q⊢;cases o
 all_goals
  dsimp only[cond_true,cond_false];show .of_wp λC w A R s h=>?_;let#[L,g,d,Y,X]:=s;let#[hl,hb,S,T,hc,hE,hL,h]:=h;let f2:=AutoSeq1.sub_tuple_tuple;let z1:f.size=↑D:=by rw[↑S];simp
  let z2:e.size=↑J:=by rw[↑T];simp
  wp_walk using wpAny_loadPart' hl,wpAny_loadPart' hb,wpAny_forIn_list _ (λrest b N=>b.1=Y'/\N=#[L,g,d,Y,X]/\Db L D f.size e.size (λa b=>R (.ok (.ret (.bool (F a b)))) #[L,g,d,Y,X]) rest) _
  case turn=>
   rintro⟨y,x⟩ rest b N ⟨E,rfl,vs,ws,q,r,p,i,j,t,k,m,B⟩
   cases q with
   | nil=>rw[jL] at i;subst i;erw[List.zip_nil_left] at p
   | cons a q=>
    cases r with
    | nil=>rw[jL] at j;subst j;erw[List.zip_nil_right] at p
    | cons c r=>
     rw[jL] at i j;let#[v,vr,rfl,V,H]:=i;let#[u,ur,rfl,W,I]:=j;rw[List.zip_cons_cons] at p;injection p with hyx hrest;injection hyx with hy M;subst hy M;rw[P] at B;rw[cmpL] at k;simp only[zV] at m;let he:=hE a c y x (t a zQ) V W;show aa (he C w _ _ ?_)
     cases U:a.eqb c with
     | true=>
      rw[U,aP rfl] at B k
      wp_walk
      show#[Z,Z,_,_,_,_,hrest,H,I,λz p=>t z (zM _ p),k,∅,B]
     | false=>
      rw[U,aO zR] at B k;let G:=hL a c y x (t a zQ) V W k C w;dsimp only[cond_true,cond_false] at G
      wp_walk using G
      show#[1,by simpa using B]
  case fin=>
   rintro⟨b1,b2⟩ N ⟨E,rfl,vs,ws,q,r,p,i,j,t,k,m,B⟩;simp only at E;subst E;rw[Q (by
    cases q with
    | nil=>show .inl Z
    | cons a q=>
     cases r with
     | nil=>show .inr Z
     | cons c r=>
      rw[jL] at i j;let#[v,vr,rfl,_,_]:=i;let#[u,ur,rfl,_,_]:=j;erw[List.zip_cons_cons] at p) m] at B
   wp_walk
   show#[1,by simpa [Builtin.Tuple.tupleCompareSizes] using B]
  case h=>
   show#[Z,Z,f.toList,e.toList,D,J,Z,S,T,λ_ M=>M,hc,∅,h]
end
theorem HQ(o:Bool){s:am}:∀(n:Nat)(a b:KT)(A:ay)(v u:ak),a.depth<=n->ZO s.heap a v->ZO s.heap b u->a.cmp b=V'->A.units+a.depth<cLine->Lz o A s v u (Qi o a b)
 | n,.int i,b,A,v,u,_,x,y,d,H=>by
  rw[ZO] at x;let#[t,rfl]:=x
  cases b with
  | int j=>
   rw[ZO] at y;let#[D,rfl]:=y;unfold Qi;rw[KT.plt,KT.plt];intro c w E Q h;cases o
   .show HT.rcLt_int A s i t j D c w E Q h
   .show(le_int #v[show decide (i<=j) = !decide (j<i) by by_cases z:j<i <;> simp[z] <;> lia,h]:aC (aB c w) A (aA .LtE (.int i t) (.int j D)) Q E s)
  | str z=>simp[KT.cmp] at d
  | tup m=>simp[KT.cmp] at d
 | n,.str w,b,A,v,u,_,x,y,d,H=>by
  rw[ZO] at x;let#[t,rfl]:=x
  cases b with
  | int j=>simp[KT.cmp] at d
  | str z=>
   rw[ZO] at y;let#[D,rfl]:=y;unfold Qi;rw[KT.plt,KT.plt];intro c w' E Q h;cases o
   .show(lt_str h:aC (aB c w') A (aA .Lt (.str w t) (.str z D)) Q E s)
   .show(PySem.P.le_str h:aC (aB c w') A (aA .LtE (.str w t) (.str z D)) Q E s)
  | tup m=>simp[KT.cmp] at d
 | 0,.tup l,b,A,v,u,K,x,y,d,H=>by
  rw[KT.depth] at K
  lia
 | n+1,.tup l,b,A,v,u,K,x,y,d,H=>by
  rw[ZO] at x;let#[p,M,rfl,px,kx]:=x;rw[KT.depth] at K H;let B:A.units<cLine:=∅
  cases b with
  | int j=>simp[KT.cmp] at d
  | str z=>simp[KT.cmp] at d
  | tup m=>
   rw[ZO] at y;let#[q,C,rfl,py,ky]:=y;rw[KT.cmp] at d;let e:Qi o (.tup l) (.tup m)=Po o l m:=by
    unfold Qi Po;rw[KT.plt,KT.plt]
   rw[e];intro c w E Q h;let#[#[cls,dd,data,sl],G,k,R,Y]:=id px;let#[#[V,J,I,U],f,g,S,r]:=id py;simp only at k Y g r;subst k Y g r;let W:∀ x y v u,x∈l->ZO s.heap x v->ZO s.heap y u->SeqAt.EqAt A.in1 s v u (x.eqb y):=λx y v u L N O=>by
    let d1:=O9 L;show M0 x.depth x y A.in1 v u (zW _) N O (by change A.units+1+x.depth<cLine;lia)
   let X:∀ x y v u,x∈l->ZO s.heap x v->ZO s.heap y u->x.cmp y=V'->Lz o A.in1 s v u (Qi o x y):=λx y v u L N O k3=>by
    let d1:=O9 L;show HQ o n x y A.in1 v u ∅ N O k3 (by change A.units+1+x.depth<cLine;lia)
   let T:=j9 o p q ⇑M ⇑C R S dd J sl U l m;cases o
   .show richCompare_meets_room (op:=.Lt) #[_,G,Z] #[_,f,Z] PySem.F.slot_tuple_lt PySem.F.entry_tuple_lt (PySem.F.args_tuple_lt_2 _ _) T #[G,f,kx,ky,d,W,X,(λx=>nomatch x),h] B
   .show richCompare_meets_room (op:=.LtE) #[_,G,Z] #[_,f,Z] PySem.F.slot_tuple_le PySem.F.entry_tuple_le (PySem.F.args_tuple_le_2 _ _) T #[G,f,kx,ky,d,W,X,(λx=>nomatch x),h] B
theorem Ba{s:am}(n:Nat)(a b:KT)(A:ay)(v u:ak):a.depth<=n->ZO s.heap a v->ZO s.heap b u->a.cmp b=V'->A.units+a.depth<cLine->Lz false A s v u (a.plt b):=HQ false n a b A v u
theorem ZU.key{k:Nat}{A:ay}(r:ZU k A){n:Nat}(h:n<=200):A.units+n<cLine:=by have:=r.un;lia
inductive Ih(x y:V)(H:Hp)(Q:VK):Prop
 |mk(a b:_)(_:ZE H a x)(_:ZE H b y)(_:a.cmp b=V')(_:a.depth<=200)(_:Q (.bl (a.plt b)) H)
theorem HB{k:Nat}(i:ZU k X.A):XS X (aA .Lt) Ih:=by
 intro c s m H x y v u Q I j l h;let#[a,b,d,e,f,g,q]:=h;show Ba a.depth a b X.A v u (zW _) (PX I a x v d j) (PX I b y u e l) f (ZU.key i g) X.prog X.w X.xe _ #[.bl _,H,I,Z,q]
inductive LQ(x:V)(b a:jD)(H:Hp)(Q:VK):Prop
 |mk(z:_)(_:x=.str z)(_:↑z<=au)(_:Q (.str (Txt.slice z b a)) H)
theorem CG:Ha X LQ:=by
 intro b s A H x v C D p n B Q I w d r f h;let#[z,rfl,o,q]:=h;let#[t,rfl]:=w;exists "str",_,PySem.F.slot_str_getitem.lookup,typeIs_str _ _ _;let a:∀(l u:Option (Int×Tok)),l.map (·.1)=p->u.map (·.1)=n->(sliceMade z t l u Y').post (EP X b A Q) s:=λl u g m=>by
  subst g m;show post_val_or_str #[zK (Txt.slice_le z _ _) o,λy k=>#[.str _,H,I.tok k,#[y,Z],q]]
 cases r with
 | none=>
  cases f with
  | none=>show wpAny_getItem_str_slice (l:=Y') (u:=Y') (st:=Y') d Z (a Y' Y' Z Z)
  | int j c=>show wpAny_getItem_str_slice (l:=Y') (u:=Z' (j,c)) (st:=Y') d Z (a Y' (Z' (j,c)) Z Z)
 | int i e=>
  cases f with
  | none=>show wpAny_getItem_str_slice (l:=Z' (i,e)) (u:=Y') (st:=Y') d Z (a (Z' (i,e)) Y' Z Z)
  | int j c=>show wpAny_getItem_str_slice (l:=Z' (i,e)) (u:=Z' (j,c)) (st:=Y') d Z (a (Z' (i,e)) (Z' (j,c)) Z Z)
mutual
def W0(w:ax):KT->Int
 | .int i=>hashInt i
 | .str x=>CW w (.inr x)
 | .tup l=>reduceHash (Builtin.Tuple.tupleHashOf (hashL w l))
def hashL(w:ax):jq->jH
 | []=>[]
 | t::l=>W0 w t::hashL w l
end
theorem BY(w:ax):∀(l m:jq),hashL w (l++m)=hashL w l++hashL w m
 | [],m=>by rw[hashL];rfl
 | t::l,m=>by rw[xU,hashL,hashL,BY w l m];rfl
theorem G5:∀(n:Nat)(t:KT){A:ay}{E:ja}{s:am}{v:ak}{Q:Int->am->Prop},t.depth<=n->ZO s.heap t v->A.units+t.depth<cLine->(∀ d,s.toks<=d->Q (W0 w t) { s with toks:=d })->aC (aB prog w) A (pyHash v) Q E s
 | n,.int i,A,E,s,v,Q,_,x,B,q=>by
  rw[ZO] at x;let#[t,rfl]:=x;rw[W0] at q;show wpAny_pyHash_int (q _ (wF _))
 | n,.str i,A,E,s,v,Q,_,x,B,q=>by
  rw[ZO] at x;let#[t,rfl]:=x;rw[W0] at q;show wpAny_pyHash_str (q _ (wF _))
 | 0,.tup l,A,E,s,v,Q,D,x,B,q=>by rw[KT.depth] at D;lia
 | n+1,.tup l,A,E,s,v,Q,D,x,B,q=>by
  rw[KT.depth] at D B;rw[ZO] at x;let#[a,N,rfl,I,R]:=x;let z:=I.typeIs;let#[o,M,S,nn,K]:=I;unfold pyHash
  first | unfold pyHashByItsType | skip
  first | show aa (wpAny_cRoomFor_or (.inr ∅) ?_) | skip
  show aa (wpAny_specialOf z rL.lookup ?_);change aC _ _ (if (Z' (Value.builtin "tuple.__hash__")==Z' Value.none)=V' then _ else _) Q E s
  rw[aO #v[beq_builtin_none,zR]]
  show aa (wpAny_specialOf z rL.lookup ?_);change aC _ _ (callSpecialIfBoundUnlessNone? (.ref a) "__hash__" _ >>= _) Q E s;show aa (wpAny_callSpecialIfBoundUnlessNone?_slot z rL (wpAny_call_entry rL z PySem.F.entry_tuple_hash ?_ (PySem.F.args_tuple_hash_1 _)));change aC _ _ (Builtin.Tuple.tupleItemsOf (.ref a) >>= _) _ _ s;show aa (wpAny_tupleItemsOf M K (aa ?_));rw[<-qY];show wpAny_forIn_list _ (λrest (b:Array Int) H=>∃ h c d,l=h++c/\jL s.heap c rest/\b.toList=hashL w h/\H={ s with toks:=d }/\s.toks<=d) _ ?_ ?_ _ _ #[[],l,s.toks,Z,R,by rw[hashL],Z,zW _]
  .rintro x rest b H ⟨h,c,d,k,f,C,rfl,p⟩
   cases c with
   | nil=>erw[jL] at f
   | cons t c=>
    rw[jL] at f;let#[U,T,e,O,P]:=f;injection e with e1 e2;subst e1 e2;let L:t.depth<=jN l:=#v[k,O9 ⋯]
    show aa (G5 n t (s:={ s with toks:=d }) ∅ O (by change A.units+1+_<_;lia) λy J=>?_)
    let m:∃ j r u,l=j++r/\jL s.heap r rest/\(b.push (W0 w t)).toList=hashL w j/\({ s with toks:=y }:am)={ s with toks:=u }/\s.toks<=u:=
     #[h++[t],c,y,by rw[k];simp,P,by rw[Array.toList_push,C,BY,hashL,hashL],Z,zK p J]
    first | show ad m | show aa (ad (ad m))
  .rintro b H ⟨h,c,d,k,f,C,rfl,p⟩
   cases c with
   | cons t c=>rw[jL] at f;let#[_,_,e,_]:=f;cases e
   | nil=>
    rw[xK] at k;subst k;change aC _ _ (retInt (Builtin.Tuple.tupleHashOf b.toList)) _ _ _;rw[C];show wpAny_ret_mkInt ?_;change aC _ _ (if (decide (-(2:Int) ^ 63<=Builtin.Tuple.tupleHashOf (hashL w l))&&decide (Builtin.Tuple.tupleHashOf (hashL w l)<2 ^ 63))=V' then _ else _) Q E _
    let g:=q (d+1) ∅
    rw[W0] at g;unfold reduceHash at g;split
    .rename_i G
     rw[aP G] at g;show ad g
    .rename_i G
     rw[aO G] at g;show aa (aj (ad g))
theorem JU:∀(n:Nat)(t:KT){A:ay}{E:ja}{s:am}{v:ak}{Q:Bool->am->Prop},t.depth<=n->ZO s.heap t v->Q true s->aC (aB prog w) A (eqIsQuiet n v) Q E s
 | n,.int i,A,E,s,v,Q,_,x,q=>by
  rw[ZO] at x;let#[t,rfl]:=x;rwa[eqIsQuiet_byValue n Z,ad q]
 | n,.str i,A,E,s,v,Q,_,x,q=>by
  rw[ZO] at x;let#[t,rfl]:=x;rwa[eqIsQuiet_byValue n Z,ad q]
 | 0,.tup l,A,E,s,v,Q,f,x,q=>by rw[KT.depth] at f;lia
 | n+1,.tup l,A,E,s,v,Q,f,x,q=>by
  rw[KT.depth] at f;rw[ZO] at x;let#[a,h,rfl,m,B]:=x;let k:=m.typeIs;let#[o,u,C,nn,p]:=m;unfold eqIsQuiet;show aa (wpAny_specialOf k PySem.F.slot_tuple_eq.lookup ?_);change aC _ _ (isInstance (.ref a) (.type "tuple") >>= _) _ _ s;show aa (wpAny_isInstance k isSubtype_tuple_tuple ?_);simp only[sN,vZ,if_false];show aa (wpAny_seqItems u p (aa ?_));change aC _ _ (forIn ⇑h _ _) _ _ s;rw[<-qY];show wpAny_forIn_list _ (λrest r j=>r.1=Y'/\j=s/\∃ b,jL s.heap b rest/\jN b<=n) _ ?_ ?_ _ _ #[Z,Z,l,B,∅]
  .rintro x rest r j ⟨g,rfl,b,c,d⟩
   cases b with
   | nil=>erw[jL] at c
   | cons t b=>
    rw[jL] at c;let#[I,D,e,y,z]:=c;injection e with e1 e2;subst e1 e2;rw[jN] at d;show aa (JU n t ∅ y ?_)
    simp only[sN,vZ,if_false];show ad #[Z,Z,b,z,∅]
  .rintro⟨G,H⟩ j ⟨g,rfl,_⟩;dsimp only at g;subst g;show ad q
structure N9(w:ax)(h:aE)(ks:jq)(es:Array DictEntry):Prop where
 len:es.size=↑ks
 ent:∀(i:Nat)(e:DictEntry),es[i]?\e->∃ t,ks[i]?\t/\e.hash=W0 w t/\ZO h t e.key/\t.depth<=3
 nd:ks.Nodup
theorem N9.uniq{h:aE}{b:jq}{d:Array DictEntry}(x:N9 w h b d){i j:Nat}{t:KT}(c:b[i]?\t)(e:b[j]?\t):i=j:=by
 let#[a,f]:=yL.mp c;show(List.getElem?_inj a x.nd).mp (c.trans e.symm)
theorem N9.get{h:aE}{f:jq}{b:Array DictEntry}(x:N9 w h f b){j:Nat}{t:KT}(d:f[j]?\t):∃ e,b[j]?\e/\e.hash=W0 w t/\ZO h t e.key/\t.depth<=3:=by
 let#[a,_]:=yL.mp d;let l:j<b.size:=by have:=x.len;lia
 let e:b[j]?\b[j]:=wV l;let#[m,c,g,i,k]:=x.ent j _ e;erw[d] at c;show#[_,e,g,i,k]
theorem IK{v:ak}{a:jd}{Q:Bool->am->Prop}(i:∃ t,ZO s.heap t v/\t.depth<=8)(f:∀ u∈a,∃ t,ZO s.heap t u/\t.depth<=8)(h:Q false s):aC (aB prog w) A (tableMayTell v a) Q E s:=by
 unfold tableMayTell;show wpAny_ite_split (λ_=>ad h) (λ_=>?_);let#[t,j,e]:=i;show aa (JU 8 t e j ?_);simp only[sN,vZ,if_false];show aa ?_;show wpAny_forIn_list _ (λrest r c=>c=s/\r=(Y',())/\∀ u∈rest,u∈a) _ ?_ ?_ _ _ #[Z,Z,λ_ z=>z]
 .rintro u rest r c ⟨rfl,rfl,d⟩;let#[k,Qi,b]:=f u (d u (zQ ..));show aa (JU 8 k b Qi ?_);simp only[sN,vZ,if_false];show ad #[Z,Z,λu g=>d u (zM _ g)]
 .rintro r c ⟨rfl,rfl,_⟩;show ad h
theorem tj{d:al}{o:aI}{c:Array DictEntry}{ep:Nat}{X:jq}{t:KT}{v:ak}{Q:ju->am->Prop}(M:ZO s.heap t v)(dt:t.depth<=3)(hu:A.units+3<cLine)(U:s.heap.get? d\o)(T:o.data=.dict c ep)(x:N9 w s.heap X c)(a2:t∉X->Q Y' s)(F:∀ j,X[j]?\t->Q (Z' j) s):aC (aB prog w) A (dictFind d v (W0 w t)) Q E s:=by
 let N:∀ j,X[j]?\t->j∈placesWithHash c.size (λi=>c[i]?.map (·.hash)) (W0 w t):=λj k=>by
  let#[e,n,B,_]:=x.get k;let#[lt,_]:=vV.mp n;unfold placesWithHash;rwa[wD,yZ,#[lt,by change (Option.map _ c[j]? == _)=V';rw[n,wK,B];simp]]
 let G:∀ i,i∈placesWithHash c.size (λi=>c[i]?.map (·.hash)) (W0 w t)->∃ e u,c[i]?\e/\e.hash=W0 w t/\X[i]?\u/\ZO s.heap u e.key/\u.depth<=3:=λi K=>by
  unfold placesWithHash at K;rw[wD,yZ] at K;let n:c[i]?\c[i]:=wV K.1;let#[u,B,_,C,D]:=x.ent i _ n;have:(Option.map (·.hash) c[i]? == Z' (W0 w t))=V':=K.2;rw[n,wK] at this;show#[_,u,n,by simpa using this,B,C,D]
 let a5:(placesWithHash c.size (λi=>c[i]?.map (·.hash)) (W0 w t)).Nodup:=by
  unfold placesWithHash;show pZ.filter _
 let p:∀(u:KT)(e:DictEntry),ZO s.heap u e.key->u.depth<=3->SeqAt.EqAt A s e.key v (u.eqb t):=λu e k1 d1=>M0 u.depth u t A e.key v (zW _) k1 M ∅
 let m:∀ u∈(placesWithHash c.size (λi=>c[i]?.map (·.hash)) (W0 w t)).filterMap (λi=>c[i]?.map (·.key)),∃ t,ZO s.heap t u/\t.depth<=8:=λu hu=>by
  let#[i,K,e]:=vY.mp hu;let#[en,z,n,_,_,C,D]:=G i K;erw[n,wK] at e;show#[z,C,∅]
 unfold dictFind
 try with_reducible show af ?_
 show aa (wpAny_dictEntries U T ?_);generalize hP:placesWithHash c.size (λi=>c[i]?.map (·.hash)) (W0 w t)=pl at N G a5 m;let O:aC (aB prog w) A (dictWalkPlain d v (W0 w t) c pl) Q E s:=by
  unfold dictWalkPlain;show aa ?_;show wpAny_forIn_list _ (λrest b s'=>s'=s/\b=(Y',())/\(∀ i∈rest,i∈pl)/\∀ i∈pl,i∈rest\/X[i]? ≠ Z' t) _ ?_ ?_ _ _ #[Z,Z,λ_ z=>z,λ_ z=>.inl z]
  .rintro i rest b s' ⟨rfl,rfl,h1,H⟩;let#[e,u,n,B,J,C,D]:=G i (h1 i (zQ ..));rw[n];dsimp only;rw[B,aP ⋯]
   show aa (wpAny_dictEpoch U T (aa (p u e C D prog w _ _ (aa (wpAny_dictEpoch U T ?_)))));rw[aO ⋯]
   cases I:u.eqb t with
   | true=>
    have:u=t:=Ob u t I;subst this;rwa[aP Z,aa (aj (ad (ad (F i J))))]
   | false=>
    rw[aO zR];show aa (aj (ad #[Z,Z,λj k=>h1 j (zM _ k),λj k=>?_]));rcases H j k with z | z
    .rcases zN.mp z with z | z
     .subst z;show .inr λz=>?_;erw[J] at z;erw[P5] at I
     .show .inl z
    .show .inr z
  .rintro b s' ⟨rfl,rfl,_,H⟩;show ad (a2 λz=>?_);let#[j,k]:=rS.mp z;rcases H j (N j k) with q | q
   .cases q
   .show q k
 let L:∀(f:Nat->Option (ju)×ju->Sem (ForInStep (Option (ju)×ju)))(g:Option (ju)×ju->Sem (ju)),(∀ r,g (Z' r,Y')=pure r)->(∀ h,g (Y',h)=pure h) ->
   (∀ i u e (R:ForInStep (Option (ju)×ju)->am->Prop),c[i]?\e->e.hash=W0 w t->ZO s.heap u e.key->u.depth<=3->u=t->R (.done (Z' (Z' i),Y')) s->R (.yield (Y',Z' i)) s->aC (aB prog w) A (f i (Y',Y')) R E s) ->
   (∀ i u e a1 (R:ForInStep (Option (ju)×ju)->am->Prop),c[i]?\e->e.hash=W0 w t->ZO s.heap u e.key->u.depth<=3->u≠t->R (.yield (Y',a1)) s->aC (aB prog w) A (f i (Y',a1)) R E s) ->
   aC (aB prog w) A (forIn pl (Y',Y') f >>= g) Q E s:=λf g g1 g2 f1 f2=>by
  show aa ?_;show wpAny_forIn_list _ (λrest b s'=>s'=s/\rest.Nodup/\(∀ i∈rest,i∈pl)/\((b=(Y',Y')/\∀ i∈pl,i∈rest\/X[i]? ≠ Z' t)\/∃ j,b=(Y',Z' j)/\X[j]?\t/\j∉rest)) _ ?_ ?_ _ _ #[Z,a5,λ_ z=>z,.inl #[Z,λ_ z=>.inl z]]
  .rintro i rest b s' ⟨rfl,nd,h1,H⟩;let#[e,u,n,B,J,C,D]:=G i (h1 i (zQ ..));let V:=wC.mp nd;let a0:∀ j∈rest,j∈pl:=λj k=>h1 j (zM _ k);by_cases I:u=t
   .let S:=J;rw[I] at S;rcases H with ⟨rfl,H⟩ | ⟨j,rfl,k,hn⟩
    .show f1 i u e _ n B C D I ?_ ?_
     .change aC _ _ (g (Z' (Z' i),Y')) _ _ _;rwa[g1,ad (F i S)]
     .show#[Z,V.2,a0,.inr #[i,Z,S,V.1]]
    .have:i=j:=x.uniq S k;show absurd (this ▸ zQ ..) hn
   .rcases H with ⟨rfl,H⟩ | ⟨j,rfl,k,hn⟩
    .show f2 i u e Y' _ n B C D I #[Z,V.2,a0,.inl #[Z,λj k=>?_]];rcases H j k with z | z
     .rcases zN.mp z with z | z
      .subst z;show .inr λz=>I (by rw[J] at z;show yP.inj z)
      .show .inl z
     .show .inr z
    .show f2 i u e (Z' j) _ n B C D I #[Z,V.2,a0,.inr #[j,Z,k,λz=>hn (zM _ z)]]
  .rintro b s' ⟨rfl,_,_,H⟩;rcases H with ⟨rfl,H⟩ | ⟨j,rfl,k,hn⟩
   .rw[g2];show ad (a2 λz=>?_);let#[j,k]:=rS.mp z;rcases H j (N j k) with q | q
    .cases q
    .show q k
   .rwa[g2,ad (F j k)]
 let vs:(∃ a,v=.ref a)\/(∃ i P,v=.int i P)\/∃ y P,v=.str y P/\t=.str y:=by
  cases t with
  | int i=>rw[ZO] at M;let#[P,e]:=M;show .inr (.inl #[i,P,e])
  | str y=>rw[ZO] at M;let#[P,e]:=M;show .inr (.inr #[y,P,e,Z])
  | tup l=>rw[ZO] at M;let#[a,_,e,_]:=M;show .inl #[a,e]
 rcases vs with ⟨a,rfl⟩ | ⟨i,P,rfl⟩ | ⟨y,P,rfl,ht⟩
 case' inl=>
  dsimp only;rw[aO (by simp[carriedByValue])]
  let a3:¬ (c.any λe=>e.key==Value.ref a&&e.hash != W0 w t)=V':=by
   rw[<-Array.any_toList,vS];rintro⟨e,a6,hc⟩;let#[j,k]:=rS.mp a6;rw[uX] at k;let#[u,_,B,J,_]:=x.ent j e k;rw[zT] at hc;rw[eq_of_beq hc.1] at J;have:u=t:=Ob _ _ (ZO.inj _ _ _ J M);rw[B,this] at hc;simp at hc
  rw[aO a3];show wpAny_ite_split (λ_=>aa (ad ?_)) (λ_=>aa (IK #[t,M,∅] m ?_))
 case' inr.inl=>
  dsimp only;show wpAny_ite_split (λ_=>O) (λ_=>?_);show wpAny_ite_split (λ_=>aa (ad ?_)) (λ_=>aa (IK #[t,M,∅] m ?_))
 case' inr.inr=>
  let Y:aC (aB prog w) A (foundByValue d (.str y P) c y) Q E s:=by
   unfold foundByValue
   cases hf:c.findIdx? (λe=>e.key.isStr y) with
   | none=>
    show ad (a2 λz=>?_);let#[j,k]:=rS.mp z;let#[e,n,B,J,_]:=x.get k;have:=Array.findIdx?_eq_none_iff.mp hf e (Array.mem_of_getElem? n);rw[ht,ZO] at J;let#[W,ek]:=J;rw[ek] at this;simp[Value.isStr] at this
   | some i=>
    let#[a7,K,_]:=Array.findIdx?_eq_some_iff_getElem.mp hf;let n:c[i]?\c[i]:=wV a7;let#[u,B,J,C,D]:=x.ent i _ n;let a4:u=t:=by
     let hs:∃ W,c[i].key=.str y W:=by
      cases q:c[i].key with
      | str z tz=>rw[q] at K;simp[Value.isStr] at K;show#[tz,by rw[K]]
      | _=>rw[q] at K;simp[Value.isStr] at K
     let#[W,ek]:=hs;let hk:ZO s.heap (.str y) c[i].key:=#v[ZO,#[W,ek]]
     rwa[ht,Ob _ _ (ZO.inj _ _ _ C hk)]
    dsimp only;rw[n];dsimp only;show aa (wpAny_dictEpoch U T (aa (p u _ C D prog w _ _ (aa (wpAny_dictEpoch U T ?_)))));rw[aO ⋯,a4,P5,aP rfl]
    show aa (aj (ad (F i (by rw[B,a4]))))
  dsimp only;show wpAny_ite_split (λ_=>Y) (λ_=>?_);show wpAny_ite_split (λ_=>O) (λ_=>?_);show wpAny_ite_split (λ_=>aa (ad ?_)) (λ_=>aa (IK #[t,M,∅] m ?_))
 all_goals
  rw[aO ⋯]
  show L _ _ (λr=>rfl) (λh=>rfl) (λi u e R n B C D I r1 r2=>?_) (λi u e a1 R n B C D I r1=>?_)
  .rw[n];dsimp only;rw[B,aP ⋯]
   show aa (wpAny_dictEpoch U T (aa (p u e C D prog w _ _ (aa (wpAny_dictEpoch U T ?_)))));rw[aO ⋯,I,P5,aP rfl]
   simp only[Option.isSome_none,vZ,if_false];show aa (aj (wpAny_ite_split (λ_=>ad r1) (λ_=>ad r2)))
  .rw[n];dsimp only;rw[B,aP ⋯]
   show aa (wpAny_dictEpoch U T (aa (p u e C D prog w _ _ (aa (wpAny_dictEpoch U T ?_)))));let hf:u.eqb t=false:=by
    cases q:u.eqb t with
    | false=>rfl
    | true=>show absurd (Ob _ _ q) I
   rw[aO ⋯,hf,aO zR]
   show aa (aj ?_);rw[aO ⋯]
   show ad r1
end Tw
namespace L2
open PySem PySem.Spec PyProof.Rows
theorem Zc.there{P:ao}{w:ax}{H:Hp}{h:aE}{a:al}:∀{o:HO},Zc P w H h a o->∃ b,h.get? a\b:=by
 intro o x
 induction o with
 | lst l=>let#[z,j,n,r,e]:=x;show#[_,e]
 | tup l=>let#[z,j,r,b,e,c]:=x;show#[_,e]
 | dK k=>let#[z,y,G,r,b,i,g,e,c]:=x;show#[_,e]
 | dT k=>let#[z,y,l,r,b,i,g,e,c]:=x;show#[_,e]
 | set S n=>let#[b,i,g,t,e,c]:=x;show#[_,e]
 | ins C p m=>let#[d,z,D,e,_]:=x;show#[_,e]
 | own y=>show x
 | xd m=>let#[B,#[E,i,g,e,c],r]:=x;show#[_,e]
 | rng A q=>let#[t,u,v,e]:=x;show#[_,e]
 | frz b u s=>show#[_,x.1]
 | tbl F=>show#[_,x]
 | met f y=>show#[_,x]
 | ext I=>show x.2.1
theorem Y6.there{P:ao}{w:ax}{H:Hp}{h:aE}{a:al}(x:Y6 P w H h)(n:H a≠Y'):∃ b,h.get? a\b:=by
 cases e:H a with
 | none=>show absurd e n
 | some o=>show Zc.there (x a o e)
theorem Y6.keptT{P:ao}{w:ax}{H:Hp}{h d:aE}(x:Y6 P w H h)(k:∀ b u,h.get? b\u->H b≠Y'->d.get? b\u):Y6 P w H d:=λa o e=>
 (x a o e).stay (λb u c q=>k b u q (by
  rcases c with rfl | c
  .rwa[e,λz=>nomatch z]
  .rwa[c,λz=>nomatch z])) (λ_ q=>q) λ_ _ q=>q
section
variable{jR:js}{σ:St}{H H':Hp}{s':am}{E:XK}
theorem ZF.noloc(I:ZF X jR σ H s):X.s₀.heap.get? X.env.locals=Y':=tG I.ok.above
theorem GE(I:ZF X jR σ H s):∀ b∈frs X.stack,∀ o,s.heap.get? b\o->∀ a,o.data≠.fields a:=λb c o q a z=>by
 let#[_,f,e,d]:=I.stack.mem c;erw[q] at e;show d a z
end
end L2
namespace L2
open PySem PySem.Spec PySem.W PyProof.Rows
def WJ(x C:al)(h:aE):Prop:=∃ o,h.get? x\o/\o.cls=.ref C
theorem WJ.ty{x C:al}{h:aE}(I:WJ x C h)(M:Model):Looks M h (typeOf (.ref x)) (.ref C):=by
 let#[o,e,c]:=I;rwa[<-c,Looks.andThen (Looks.ld e) Looks.now]
structure Wt(K:Frag)(C:al):Prop where
 ga:findIn K (.ref C) "__getattribute__" = Z' (Z' (.builtin "BaseException.__getattribute__"))
 hk:findIn K (.ref C) "__getattr__" = Z' Y'
 mB:mroIn K C (.type "BaseException")\true
 mO:mroIn K C (.type "object")\true
 ca:findIn K (.ref C) "__class__" = Z' (Z' (.builtin "object.__class__"))
 hn:specialIn K (.builtin "object.__class__") "__get__" = Z' (Z' (.builtin "getset_descriptor.__get__"))
 tk:takesIn K (.builtin "object.__class__")\true
section
variable{K:Frag}{x C:al}
theorem Al{f:ak}{Q:Unit->am->Prop}(X:K.In s.heap)(I:WJ x C s.heap)(a:mroIn K C (.type "BaseException")\true)(b:Q () s):
  aC (aB prog w) A (checkBuiltinCall "BaseException.__getattribute__" #[[.ref x,f],[]]) Q E s:=by
 let#[h,g,d,t,k]:=s;let c:builtinKind "BaseException.__getattribute__" = Z' .slot:=by decide +kernel
 let e:splitId "BaseException.__getattribute__" = Z' ("BaseException","__getattribute__"):=by decide +kernel
 let i:=I.ty (aB prog w);let j:=looks_mroIn (M:=aB prog w) X a;simp only[checkBuiltinCall,c,e];show aa ?_;unfold isInstance
 repeat lk
 show b
theorem oi{b:Str}{i:Tok}{r:Builtin.ObjectAttr.Found}{Q:Fin->am->Prop}(X:K.In s.heap)(I:WJ x C s.heap)(e:Looks (aB prog w) s.heap (Builtin.ObjectAttr.find (.ref x) (.ref C) b) r)(h:match r with
   | .value v=>Q (.done (.ret v)) s
   | .bind g a=>aC (aB prog w) A (call g [a,.ref x,.ref C]) (λv c=>Q (.done (.ret v)) c) E s
   | .missing=>False):aC (aB prog w) A (Builtin.«object.__getattribute__» #[[.ref x,.str b i],[]]) Q E s:=by
 let#[j,g,d,t,k]:=s;let f:=I.ty (aB prog w);unfold Builtin.«object.__getattribute__»;show aa (ad ?_);show aa (ad ?_);show aa (f.at ?_);show aa (e.at ?_)
 cases r with
 | value v=>show ad h
 | bind g a=>
  change aC _ _ (holding [a] (call g [a,.ref x,.ref C]) >>= ret) _ _ _;show aa (af (ae h (λv c z=>ad z) λ_ _ z=>z))
 | missing=>show h.elim
theorem Cq{c:Str}{r:Builtin.ObjectAttr.Found}{b f:Bool}{k:Tok}{Q:ja}(X:K.In s.heap)(I:WJ x C s.heap)(e:Wt K C)(l:Looks (aB prog w) s.heap (Builtin.ObjectAttr.find (.ref x) (.ref C) c) r)(h:match r with
   | .value v=>handedIn v=V'/\Q v s
   | .bind g a=>aC (aB prog w) A.in1 (call g [a,.ref x,.ref C]) (λv j=>handedIn v=V'/\Q v j) (λ_ _=>False) s
   | .missing=>False):aC (aB prog w) A (getAttrBy (.ref x) (.str c k) f b) Q E s:=by
 let i:=F.excAttr_ValueError;let m:=I.ty (aB prog w);let n:=looks_findIn (M:=aB prog w) X e.ga;let o:=looks_findIn (M:=aB prog w) X e.hk;let p:(Value.builtin "BaseException.__getattribute__" == Value.builtin "object.__getattribute__")=false:=by decide +kernel
 let#[q,g,d,t,u]:=s;unfold getAttrBy;show af (aa (m.at (aa (n.at ?_))));change aC _ _ (if (true&&(Value.builtin "BaseException.__getattribute__" == Value.builtin "object.__getattribute__"))=V' then _ else getAttrByItsOwn (.ref x) (.str c k) (.ref C) (.builtin "BaseException.__getattribute__") f b) _ _ _
 rw[p,aO (by decide)]
 unfold getAttrByItsOwn hookBefore;show aa (o.at ?_);show aa (wpAny_attempt (af ?_));unfold callGetattribute;rw[aO (by cases b <;> decide)]
 unfold boundAndCalled;rw[i.ga.bind (.ref x)];show aa (ad ?_);show wpAny_call (codeAny_call_builtin i.ga.plain F.entry_bexc_ga (Al X I e.mB (oi X I l ?_)))
 cases r with
 | value v=>show handed_on h.1 h.2
 | bind g a=>show ae h (λv j z=>handed_on z.1 z.2) λ_ _ z=>z.elim
 | missing=>show h.elim
theorem wj{R:Result->am->Prop}{b:ak}(X:K.In s.heap)(I:WJ x C s.heap)(e:Wt K C)(h:R (.ok (.ret (.ref C))) s):
  codeAny (aB prog w) A (.call (.builtin "getset_descriptor.__get__") #[[.builtin "object.__class__",.ref x,b],[]]) R s:=by
 let#[f,d,c,j,a]:=s;let g:=I.ty (aB prog w);let i:=looks_mroIn (M:=aB prog w) X e.mO;show codeAny_call_builtin KF.slot_gs.plain KF.entry_gs ?_;show KF.slot_gs.check _ _ _ _ _ _ _ _ KF.type_class (KF.args_gs _ _ _) ?_;unfold Builtin.«getset_descriptor.__get__»;unfold Builtin.Getset_descriptor.descrGet;rw[dga_obj];show aa (ad ?_);unfold Builtin.Getset_descriptor.descrGetter;unfold Builtin.Getset_descriptor.descrCheckInstance;unfold Builtin.Getset_descriptor.descrNameAndClass;unfold isInstance;simp only[KF.owner_class]
 repeat lk
 exists Code.quiet_builtin _ (by decide +kernel)
 show codeAny_builtin KF.entry_class ?_;unfold Builtin.«object.__class__»;unfold shownTypeOf
 repeat lk
 show h
theorem oY(X:K.In s.heap)(e:Wt K C)(M:Model):Looks M s.heap (Builtin.ObjectAttr.find (.ref x) (.ref C) "__class__") (.bind (.builtin "getset_descriptor.__get__") (.builtin "object.__class__")):=by
 let a:=looks_findIn (M:=M) X e.ca;let b:=looks_specialIn (M:=M) X e.hn;let c:=looks_takesIn (M:=M) X e.tk;show Looks.andThen a (Looks.andThen b ?_);show Looks.andThen (show Looks M s.heap (Builtin.ObjectAttr.dataDescriptor? (Z' (.builtin "object.__class__")) (Z' (.builtin "getset_descriptor.__get__"))) (Z' (_,_)) from Looks.andThen c Looks.now) (Looks.tag Looks.now)
end
theorem Wt.cls{K:Frag}{C:al}(e:Wt K C):∃ g d c k,K.lookup C\#[g,d,.cls c,k]:=by
 let#[c,h,_]:=zEN.mp e.mB;unfold clsIn at h;split at h
 .rename_i f i a b j
  show#[f,i,a,b,j]
 .cases h
theorem FQ{K:Frag}{x C:al}(e:Wt K C):KitX K (.ref x) (.ref C) (WJ x C) where
 ty:=λM _ _ I=>I.ty M
 it:=λ_ _ X _=>by
  let#[i,d,g,m,b]:=e.cls;intro p t r v k q;unfold isType loadHead;let z:=k _ _ (X _ _ b);show aa (wpAny_loadPart z (ad q))
 ne:=λh f u l n m X a=>by
  let#[i,d,g,o,b]:=e.cls
  cases q:(Value.ref C==Value.ref f) with
  | false=>rfl
  | true=>
   let j:C=f:=Value.ref.inj (eq_of_beq q);erw[<-j,X _ _ b] at a
 ca:=fun{c w A E Q s} X I k=>by
  unfold getAttr? getAttrBy?;show aa (wpAny_mkText (aa (wpAny_attempt ?_)));show Cq (s:={ s with toks:=s.toks+1 }) X I e (oY (s:={ s with toks:=s.toks+1 }) X e _) ?_;show wpAny_call (wj (s:={ s with toks:=s.toks+1 }) X I e #[Z,ad k])
end L2
namespace L2
open PySem PySem.Spec PyProof.Rows
def Cx.held(X:Cx)(a:al)(E:ja):Cx:={ X with A:=X.A.mark (Z' (.ref a)),calm:=false,xe:=E }
section
variable{jR:js}{σ:St}{H H':Hp}{s':am}{ea:al}
theorem ZF.held(I:ZF X jR σ H s)(ea:al)(E:ja):ZF (X.held ea E) jR σ H s:=
 #[#[I.ok.mod,I.ok.kind,I.ok.glob,I.ok.blt,I.ok.above,I.ok.inj,I.ok.has,I.ok.cab,λz=>absurd z zR,I.ok.frames,I.ok.stk,I.ok.exf,I.ok.bs,I.ok.bsz,I.ok.noex,I.ok.exfs,I.ok.funs,I.ok.frf],
  I.os,I.bare,I.base,I.loc,I.cell,I.free,I.freeC,I.pin,I.hok,I.len]
theorem ZF.unheld(a:X.Ok)(I:ZF (X.held ea E) jR σ H s):ZF X jR σ H s:=#[a,I.os,I.bare,I.base,I.loc,I.cell,I.free,I.freeC,I.pin,I.hok,I.len]
theorem ZF.track{a:al}{o:HO}(I:ZF X jR σ H s)(l:X.s₀.heap.get? a=Y')(t:a≠X.env.locals)(m:∀ x c,X.env.cells.lookup x\c->c≠a)(y:∀ p∈X.pn++jR,p.1≠a)(v:H a=Y')(h:Zc X.prog X.w (upd H a o) s.heap a o):ZF X jR σ (upd H a o) s:=by
 let g:∀{b:al}{u:HO},H b\u->b≠a:=fun{b u} e z=>by erw[z,v] at e
 show#[I.ok,I.os,I.bare,#[I.base.keep,I.base.slot,λb i q n A=>?_,I.base.there,λb k q=>?_,λb i u q=>?_,λb B q=>?_],I.loc,I.cell,?_,λx c e=>?_,λp d=>?_,λb u e=>?_,I.len]
 .rw[ZT (λz=>by erw[z,l] at q)]
  show I.base.free b i q n A
 .let e:=I.base.tups b k q;rwa[ZT (g e),e]
 .let e:=I.base.frzs b i u q;rwa[ZT (g e),e]
 .let#[f,e]:=I.base.tbls b B q;show#[f,#v[ZT (g e),e]]
 .rwa[ZT (Ne.symm t),I.free]
 .rwa[ZT (m x c e),I.freeC x c e]
 .let#[e,n,r]:=I.pin p d;show#[e,#v[ZT (y p d),n],r]
 .by_cases j:b=a
  .subst j;erw[ZY] at e;show h
  .rw[ZT j] at e;show(I.hok b u e).stay (λ_ _ _ q=>q) (λc q=>#v[ZT (g q),q]) λc k q=>#v[ZT (g q),q]
theorem ZF.goes{i:Nat}{n:Str}{M:Model}{A:ay}{Q:Unit->am->Prop}{D:aJ}(I:ZF X jR σ H s)(O:X.N.Nodup)(F:X.N[i]?\n)(f:X.env.scope.names.lookup n\.local)(h:∀ s',ZF X jR (σ.set i Y') H s'->Q () s'):aC M A (do bindName X.env n .none;unbindBehindTheSuite X.env n D) Q E s:=by
 let#[m,G,P]:=id I.loc;let r:(X.env.scope.kind==.class || (X.env.scope.kind==.module&&X.env.locals != X.env.globals))=false:=by rw[I.ok.kind];rfl
 let t:i<↑σ:=#v[I.len,(yL.mp F).1]
 show wpAny_nameGoes_keeps f G r λh' v C a=>h _ ?_;let#[oL,_,_,R,_]:=id G;let g:∀ b o,X.s₀.heap.get? b\o->b≠X.env.locals:=λb o e=>yU (yI (zJ e) I.ok.above);show#[I.ok,I.os,I.bare,#[λb o e n x f=>?_,λb o e n x f=>?_,I.base.free,λb o e f=>?_,I.base.tups,I.base.frzs,I.base.tbls],#[_,C,λj y v' l u L=>?_],λy c e=>?_,I.free,I.freeC,λp S=>?_,λb V e=>?_,by simpa using I.len]
 .show(a.2 b (g b o e)).trans (I.base.keep b o e n x f)
 .let#[Y,l]:=I.base.slot b o e n x f;show#[Y,(a.2 b (g b o e)).trans l]
 .let#[U,l]:=I.base.there b o e f;show#[U,(a.2 b (g b o e)).trans l]
 .by_cases B:j=i
  .subst B;erw[qL t] at u
  .rw[qS (Ne.symm B)] at u;let#[u',W,q]:=P j y v' l u L;exists u',W;rcases q with ⟨k,e⟩ | ⟨k,c,e,z⟩
   .show .inl #[k,?_];have:y≠n:=λe=>B (HY O l (e ▸ F));simp[this,e]
   .show .inr #[k,c,e,z.sameBut a (I.cne y c e)]
 .let#[K,z]:=I.cell y c e;show#[K,z.sameBut a (I.cne y c e)]
 .let#[e,n,J,T,d]:=I.pin p S;show#[(a.2 p.1 J).trans e,n,J,T,d]
 .show(I.hok b V e).stay (λc K w q=>(a.2 c ?_).trans q) (λ_ q=>q) λ_ _ q=>q;rintro rfl;rcases w with rfl | w
  .erw[I.free] at e
  .erw[I.free] at w
end
section
variable{x C CB:al}
theorem AJ{b:Bool}{Q:Bool->am->Prop}(X:K.In s.heap)(I:WJ x C s.heap)(o:yN K (.ref CB)\.type "type")(c:yS K CB (.type "BaseException")\true)(l:yS K C (.ref CB)\b)(h:Q b s):aC (aB prog w) A (excMatches (.ref x) (.ref CB)) Q E s:=by
 let#[m,g,d,t,H]:=s;let v:=I.ty (aB prog w);let y:=tH (M:=aB prog w) X c;let z:=tH (M:=aB prog w) X l;let e:=qM (M:=aB prog w) X o;let f:=tc_notTuple;let B:yD (aB prog w) m (isType (.ref CB)) true:=by
  let#[j,a,_]:=zEN.mp c;unfold sI at a;split at a
  .rename_i F G i p n
   intro r D u J k q;unfold isType loadHead;show aa (wpAny_loadPart (k _ _ (X _ _ n)) (ad q))
  .cases a
 unfold excMatches isInstance isExcClass;show aa (aa (e.at ?_));rw[f];show ad ?_;rw[aO zR];show aa (ad ?_);simp only[zEE,List.forIn_nil]
 cases b with
 | true=>
  repeat (first | lk | wp_step)
  all_goals first | show h | trace_state
 | false=>
  repeat (first | lk | wp_step)
  all_goals first | show h | trace_state
end
end L2
namespace Tw
open PySem
inductive TG where
 | int (i:Int)
 | str (x:Str)
 | tup (l:List TG)
 | odd (n:String)
mutual
def TG.fits:TG->Nat->Bool
 | .int i,_=>decide (i.natAbs<10 ^ 60)
 | .str x,_=>QW x
 | .tup l,r=>decide (0<r)&&(decide (↑l<=4)&&gfitsL l (r-1))
 | .odd _,_=>false
def gfitsL:List TG->Nat->Bool
 | [],_=>true
 | t::l,r=>t.fits r&&gfitsL l r
end
end Tw
namespace L2
open PySem PySem.Spec PyProof.Rows
theorem ZF.big{a:js}{b:St}{H:Hp}{s:am}(I:ZF X a b H s):sysModules<s.heap.objs.size:=by
 let h:ar<s.heap.objs.size:=(I.mod.glob.keeps I.bk).lt;show xH (by decide) h
theorem qk{P:ao}{w:ax}{H:Hp}(h:aE)(a:sysModules<h.objs.size):Zc P w H (h.push { cls:=.type "dict",data:=.dict ⇑[] }) h.objs.size (.dK []):=
 #[yQ _,beq_eq_false_iff_ne.mpr (Ne.symm (yU a)),[],.nil,Heap.DictOf.new h]
def ym:TE:=λ_ H Q=>∀ p,H p=Y'->Q (.ref p) (upd H p (.dK []))
theorem Jg{b:aJ}:PE X (.Dict [] [] b) ym:=λc s d H Q I h=>
 wpAny_Dict_empty #[.ref s.heap.objs.size,_,I.laid (a:=s.heap.objs.size) (o:=.dK []) (t':=s.toks) (λ_ _ q=>zL _ q) (zW _) (qk s.heap I.big),Z,h _ (I.hok.fresh (zW _))]
def Vi(x:Str)(n:Int):Str:=#[(xD n.toNat x.cps).foldl (· ++ ·) ⇑[]]
theorem C9(a:jA):∀(k:Nat)(b:jA),((xD k a).foldl (· ++ ·) b).size=b.size+k * a.size
 | 0,b=>by simp
 | k+1,b=>by
  rw[List.replicate_succ,zEF,C9 a k,rA,uA]
  lia
theorem JR:XS X (binaryOp .Mult) (λx y H Q=>∃ i n,x=.str i/\y=.int n/\↑i=1/\2<=n/\n<=1000/\Q (.str (Vi i n)) H):=by
 intro b s o H x y v u Q I f g h;let#[i,n,rfl,rfl,a,k,l,q]:=h;let#[t,rfl]:=f;let#[m,rfl]:=g;let c:¬ n<1:=∅
 let d:¬ ((n==1 || ↑i==0)=V'):=by rw[a];simp;lia
 let j:↑(Vi i n)<=sizeLine:=by
  change ((xD n.toNat i.cps).foldl (· ++ ·) ⇑[]).size<=au;let e:i.cps.size=1:=a;rwa[C9,e,yK (YQ (by simp;lia))]
 show PySem.P.mul_str ?_ (λ_ _=>?_) (λ_ _=>?_) ?_
 .rw[aK ∅,aK ∅];rfl
 .rw[a];have:(1:Int)<=(2 ^ 63-1) / n:=(Int.le_ediv_iff_mul_le ∅).mpr ∅
  lia
 .rw[a];unfold Builtin.Str.tooLong au;show aK ∅
 .rwa[aO c,aO d,#[j,#[.str (Vi i n),H,I.tok _,#[1],q]]]
def cV:V->ak
 | .ty n=>.type n
 | .ref a=>.ref a
 | _=>.none
def Mo:V->Bool
 | .ty _=>true
 | .ref _=>true
 | _=>false
theorem Bw{c:V}{u:ak}(r:ZQ c u)(h:Mo c=V'):u=cV c:=by
 cases c with
 | ty n=>show r
 | ref a=>show r
 | _=>cases h
theorem EZ:∀{a:je}{b:jd},ZN a b->(∀ c∈a,Mo c=V')->b=a.map cV
 | _,_,.nil,_=>rfl
 | _,_,.cons r t,h=>by rw[Bw r (h _ zQ),EZ t λc d=>h c (zM _ d)];rfl
section
variable{κ:Type}[DecidableEq κ]
def YS(a:List (κ×V))(k:κ):jf:=(a.find? λb=>decide (b.1=k)).map (·.2)
def Wf(a:List (κ×V))(k:κ)(v:V):List (κ×V):=
 if (a.any λb=>decide (b.1=k))=V' then a.map (λb=>if b.1=k then (b.1,v) else b) else a++[(k,v)]
def VJ(a:List (κ×V))(k:κ):List (κ×V):=a.filter λb=>decide (b.1≠k)
theorem QG{p:κ×V}{r:List (κ×V)}{k:κ}(e:p.1=k):YS (p::r) k\p.2:=by simp[YS,uQ,e]
theorem U1{p:κ×V}{r:List (κ×V)}{k:κ}(e:¬ p.1=k):YS (p::r) k=YS r k:=by simp[YS,uQ,e]
theorem MG(k:κ):∀ a:List (κ×V),(a.any λb=>decide (b.1=k))=(YS a k).isSome
 | []=>rfl
 | p::r=>by
  rw[uH];by_cases e:p.1=k
  .simp only[QG e,aM e,Bool.true_or,Option.isSome_some]
  .rwa[U1 e,aK e,Bool.false_or,MG k r]
theorem Cp(k j:κ)(y:V):∀ a:List (κ×V),YS (a.map λb=>if b.1=k then (b.1,y) else b) j=(YS a j).map λx=>if j=k then y else x
 | []=>rfl
 | p::r=>by
  let c:=Cp k j y r;rw[yT];by_cases h:p.1=k
  .rw[aP h];by_cases e:p.1=j
   .rw[QG (p:=(p.1,y)) e,QG e,wK,aP (e.symm.trans h)]
   .rw[U1 (p:=(p.1,y)) e,U1 e,c]
  .rw[aO h];by_cases e:p.1=j
   .rw[QG (p:=p) e,QG e,wK,aO (λz=>h (e.trans z))]
   .rw[U1 (p:=p) e,U1 e,c]
theorem K7(k j:κ)(y:V):∀ a:List (κ×V),YS a k=Y'->YS (a++[(k,y)]) j=if j=k then Z' y else YS a j
 | [],_=>by
  by_cases e:k=j
  .rwa[aP e.symm,QG (p:=(k,y)) e]
  .rwa[aO (λz=>e z.symm),U1 (p:=(k,y)) e]
 | p::r,hn=>by
  rw[xU];let b:¬ p.1=k:=λz=>by erw[QG z] at hn
  rw[U1 b] at hn;let c:=K7 k j y r hn;by_cases e:p.1=j
  .rw[QG e,QG e,aO (λz=>b (e.trans z))]
  .rw[U1 e,U1 e,c]
theorem CI(b:List (κ×V))(k j:κ)(y:V):YS (Wf b k y) j=if j=k then Z' y else YS b j:=by
 unfold Wf;by_cases a:(b.any λd=>decide (d.1=k))=V'
 .rw[aP a,Cp];rw[MG] at a;by_cases e:j=k
  .let#[x,c]:=qH.mp a;rw[aP e,e,c,wK,aP rfl]
  .rw[aO e]
   cases YS b j with
   | none=>rfl
   | some x=>rw[wK,aO e]
 .rw[aO a];show K7 k j y b ?_;rw[MG] at a
  cases q:YS b k with
  | none=>rfl
  | some x=>rw[q] at a;show(a Z).elim
theorem Ie(a:List (κ×V))(k:κ)(v:V):↑(Wf a k v)<=↑a+1:=by
 unfold Wf;split
 .rw[zY];lia
 .rw[zS,zV,yE];lia
theorem BZ{a:List (κ×V)}{k:κ}(v:V)(h:YS a k=Y'):Wf a k v=a++[(k,v)]:=by
 unfold Wf;rwa[MG,h,aO (by decide)]
theorem Yy.isSome_eq{o:jf}{u:jc}(r:Yy o u):o.isSome=u.isSome:=by
 cases o with
 | none=>cases u with
  | none=>rfl
  | some _=>show(show False from r).elim
 | some _=>cases u with
  | none=>show(show False from r).elim
  | some _=>rfl
theorem KV.val{a:List (κ×V)}{g:List (κ×ak)}(r:KV a g)(k:κ):Yy (YS a k) (valueAt g k):=by
 unfold KV at r
 induction r with
 | nil=>show True.intro
 | @cons p q l d h t j=>
  let#[f,i]:=h;by_cases e:p.1=k
  .let c:q.1=k:=f.symm.trans e;let b:valueAt (q::d) k\q.2:=by simp[valueAt,uQ,c]
   rwa[QG e,b,i]
  .let c:¬ q.1=k:=λz=>e (f.trans z);let b:valueAt (q::d) k=valueAt d k:=by simp[valueAt,uQ,c]
   rwa[U1 e,b,j]
theorem KV.any{a:List (κ×V)}{c:List (κ×ak)}(r:KV a c)(k:κ):(a.any λb=>decide (b.1=k))=c.any λb=>decide (b.1=k):=by
 unfold KV at r
 induction r with
 | nil=>rfl
 | cons h t d=>rw[uH,uH,d,h.1]
theorem KV.repl{b:List (κ×V)}{d:List (κ×ak)}(r:KV b d)(k:κ){y:V}{u:ak}(i:ZQ y u):
  KV (b.map λa=>if a.1=k then (a.1,y) else a) (d.map λa=>if a.1=k then (a.1,u) else a):=by
 unfold KV at r⊢
 induction r with
 | nil=>show .nil
 | @cons p q j l h t g=>
  rw[yT,yT];show .cons ?_ g;let#[c,f]:=h;by_cases e:p.1=k
  .rwa[aP e,aP (c.symm.trans e),#[c,i]]
  .rwa[aO e,aO (λz=>e (c.trans z)),#[c,f]]
theorem KV.put{a:List (κ×V)}{b:List (κ×ak)}(r:KV a b)(k:κ){y:V}{u:ak}(c:ZQ y u):KV (Wf a k y) (stored b k u):=by
 unfold Wf stored;rw[r.any k];by_cases e:(b.any λd=>decide (d.1=k))=V'
 .rwa[aP e,aP e,r.repl k c]
 .rwa[aO e,aO e,Paired.snoc r #[Z,c]]
theorem KV.drop{c:List (κ×V)}{g:List (κ×ak)}(r:KV c g)(k:κ):KV (VJ c k) (without g k):=by
 unfold KV at r⊢;unfold VJ without
 induction r with
 | nil=>show .nil
 | @cons p q l m h t f=>
  let#[d,j]:=h;rw[wJ,wJ];by_cases e:p.1=k
  .let a:¬ decide (p.1≠k)=V':=by simp[e]
   let b:¬ decide (q.1≠k)=V':=by simp[d.symm.trans e]
   rwa[aO a,aO b,f]
  .let i:¬ q.1=k:=λz=>e (d.trans z);let a:decide (p.1≠k)=V':=by simp[e]
   let b:decide (q.1≠k)=V':=by simp[i]
   rwa[aP a,aP b,.cons #[d,j] f]
theorem KV.length{a:List (κ×V)}{b:List (κ×ak)}(r:KV a b):↑a=↑b:=Paired.length r
theorem pG(a:List (κ×V))(k:κ):↑(VJ a k)<=↑a:=rT _ _
end
theorem LA{P:ao}{w:ax}{k:Zj}{u:ak}(r:ZQ (kV k) u):(UF P w).is k u=V':=by
 cases k with
 | inl i=>let#[t,e]:=(show ∃ t,u=Value.int i t from r);subst e;show kO P w i t
 | inr x=>let#[t,e]:=(show ∃ t,u=Value.str x t from r);subst e;show kZ P w x t
theorem Ci{P:ao}{w:ax}:∀{a:jC}{b:jd},ZN (a.map kV) b->ItemsAre (UF P w) a b
 | [],_,r=>by erw[tY] at r;show .nil
 | k::a,_,r=>by
  rw[yT] at r
  cases r with
  | cons h t=>show .cons (LA h) (Ci t)
abbrev KT(H:Hp):List (jC×V)->List (jC×al×ak)->Prop:=Paired λp q=>p.1=q.1/\H q.2.1\.tup (p.1.map kV)/\ZQ p.2 q.2.2
theorem KT.val{H:Hp}{a:List (jC×V)}{g:List (jC×al×ak)}(r:KT H a g)(k:jC):Yy (YS a k) ((atKey g k).map (·.2)):=by
 induction r with
 | nil=>show True.intro
 | @cons p q l d h t j=>
  let#[f,_,i]:=h;by_cases e:p.1=k
  .let c:q.1=k:=f.symm.trans e;let b:atKey (q::d) k\q.2:=by simp[atKey,uQ,c]
   rwa[QG e,b,i]
  .let c:¬ q.1=k:=λz=>e (f.trans z);let b:atKey (q::d) k=atKey d k:=by simp[atKey,uQ,c]
   rwa[U1 e,b,j]
theorem KT.repl{H:Hp}{a:List (jC×V)}{f:List (jC×al×ak)}(r:KT H a f)(k:jC){y:V}{u:ak}(j:ZQ y u):
  KT H (a.map λc=>if c.1=k then (c.1,y) else c) (f.map (putAt k u)):=by
 induction r with
 | nil=>show .nil
 | @cons p q l m h t i=>
  rw[yT,yT];show .cons ?_ i;let#[b,d,g]:=h;unfold putAt;by_cases e:p.1=k
  .rwa[aP e,aP (b.symm.trans e),#[b,d,j]]
  .rwa[aO e,aO (λz=>e (b.trans z)),#[b,d,g]]
theorem KT.put{H:Hp}{a:List (jC×V)}{c:List (jC×al×ak)}(r:KT H a c)(k:jC){b:al}{y:V}{u:ak}(f:H b\.tup (k.map kV))(d:ZQ y u):
  KT H (Wf a k y) (storedH c k b u):=by
 let e:(a.any λg=>decide (g.1=k))=(atKey c k).isSome:=by
  rw[MG,(r.val k).isSome_eq,Option.isSome_map]
 unfold Wf storedH;rw[e];by_cases q:(atKey c k).isSome=V'
 .rwa[aP q,aP q,r.repl k d]
 .rwa[aO q,aO q,Paired.snoc r #[Z,f,d]]
theorem KT.keeps{H c:Hp}{a:List (jC×V)}{d:List (jC×al×ak)}(r:KT H a d)(f:∀ b e,H b\.tup e->c b\.tup e):KT c a d:=
 Paired.mapP r λ_ _ z=>#[z.1,f _ _ z.2.1,z.2.2]
section
variable{H:Hp}{h:aE}{a:al}
theorem Fr{u:HO}(b:Y6 P w H h)(e:Rd H a u):Zc P w H h a u:=e.ok b
theorem LI{b:List (Zj×V)}(d:Y6 P w H h)(e:Rd H a (.dK b)):↑b<=au/\(a==sysModules)=false/\∃ c,KV b c/\h.DictOf (UF P w) a c:=
 show Zc P w H h a (.dK b) from Fr d e
theorem BT{b:List (Zj×V)}(d:Y6 P w H h)(e:H a\.dK b):↑b<=au/\(a==sysModules)=false/\∃ c,KV b c/\h.DictOf (UF P w) a c:=LI d (.inl e)
theorem Lk{c:jC}(i:Y6 P w H h)(e:H a\.tup (c.map kV)):(tupleKind (UF P w)).is h c a:=by
 let#[_,b,r,o,d,f,n,g]:=(show Zc P w H h a (.tup (c.map kV)) from i a _ e);show#[o,⇑b,n,d,f,g,by simpa using Ci r]
theorem MY{b:List (jC×V)}(i:Y6 P w H h)(e:Rd H a (.dT b)):↑b<=au/\(a==sysModules)=false /\
  ∃ d,KT H b d/\h.DictOfH (tupleKind (UF P w)) a d:=by
 let#[z,y,d,r,o,k,j,n,s,u,v,A]:=(show Zc P w H h a (.dT b) from Fr i e);show#[z,y,d,r,o,k,j,n,s,u,v,λx c=>?_,A];let f:∀{l:List (jC×V)}{m:List (jC×al×ak)},KT H l m->∀ x∈m,(tupleKind (UF P w)).is h x.1 x.2.1:=by
  intro l m q
  induction q with
  | nil=>intro x c;show nomatch c
  | @cons p q C D g t B=>
   intro x c;rcases zN.mp c with e | c
   .subst e;show Lk i (by rwa[<-g.1,g.2.1])
   .show B x c
 show f r x c
theorem Ro{b:List (jC×V)}(d:Y6 P w H h)(e:H a\.dT b):↑b<=au/\(a==sysModules)=false /\
  ∃ c,KT H b c/\h.DictOfH (tupleKind (UF P w)) a c:=MY d (.inl e)
end
def Vt(H:Hp)(a:al)(y:V)(r:jf):Prop:=
 (∃ c k,Rd H a (.dK c)/\y=kV k/\r=YS c k)\/∃ c k b,Rd H a (.dT c)/\y=.ref b/\H b\.tup (k.map kV)/\r=YS c k
def Q0(H:Hp)(a:al)(y v:V)(d:Hp):Prop:=
 (∃ c k,H a\.dK c/\y=kV k/\↑c<au/\d=upd H a (.dK (Wf c k v))) \/
 ∃ c k b,H a\.dT c/\y=.ref b/\H b\.tup (k.map kV)/\↑c<au/\d=upd H a (.dT (Wf c k v))
theorem Vt.k{H:Hp}{a:al}{b:List (Zj×V)}{k:Zj}(e:H a\.dK b):Vt H a (kV k) (YS b k):=.inl #[b,k,.inl e,Z,Z]
theorem Q0.k{H:Hp}{a:al}{b:List (Zj×V)}{k:Zj}{v:V}(e:H a\.dK b)(c:↑b<au):Q0 H a (kV k) v (upd H a (.dK (Wf b k v))):=.inl #[b,k,e,Z,c,Z]
section
variable{jR:js}{σ:St}{H:Hp}{a:al}{y v:V}{u r:ak}{o:jf}
theorem oH{Q:ja}(F:A.units+1<cLine)(I:ZF X jR σ H s)(g:Vt H a y (Z' v))(t:ZQ y u)(h:∀ f x,ZF X jR σ H x->ZQ v f->Q f x):
  aC (aB X.prog X.w) A (getItem (.ref a) u) Q E s:=by
 rcases g with ⟨q,k,e,j,l⟩ | ⟨q,k,b,e,j,B,l⟩
 .subst j;let#[z,C,G,c,i]:=LI I.hok e;let#[f,n,d]:=Yy.some_of (v:=v) (o:=valueAt G k) #v[l,c.val k]
  show wpAny_getItem_of (LA t) i.mapOf n (h f _ (I.tok _) d)
 .subst j;cases(show u=Value.ref b from t);let#[z,C,J,c,i]:=MY I.hok e;let#[f,n,d]:=Yy.some_of (v:=v) (o:=(atKey J k).map (·.2)) #v[l,c.val k]
  let#[p,D,m]:=wP.mp n;show wpAny_getItem_heap (tupleKind_room_in1 F) (Lk I.hok B) i D ?_;rwa[m,h f _ (I.tok _) d]
theorem ue{Q:ja}(t:A.units+1<cLine)(I:ZF X jR σ H s)(g:Vt H a y o)(m:ZQ y u)(h:∀ n,ZF X jR σ H n->Q (.bool (!o.isSome)) n):
  aC (aB X.prog X.w) A (aA .NotIn u (.ref a)) Q E s:=by
 rcases g with ⟨j,k,e,f,l⟩ | ⟨j,k,b,e,f,p,l⟩
 .subst f;let#[z,i,x,c,d]:=LI I.hok e;show wpAny_notIn_of (LA m) i d.mapOf ?_;rwa[<-(c.val k).isSome_eq,<-l,h _ (I.tok _)]
 .subst f;cases(show u=Value.ref b from m);let#[z,i,B,c,d]:=MY I.hok e;show wpAny_notIn_heap (tupleKind_room_in1 t) (Lk I.hok p) i d ?_;let q:=(c.val k).isSome_eq;rw[Option.isSome_map] at q;rwa[<-q,<-l,h _ (I.tok _)]
theorem Kh{c:aE}{k:Nat}{f:HO}(I:ZF X jR σ H s)(j:Nm (H a))(i:xM a s.heap c)(h:∃ q,c.get? a\q)(d:Zc X.prog X.w (upd H a f) c a f):
  ZF X jR σ (upd H a f) { s with heap:=c,toks:=k }:=
 I.write (x:=a) (e:=a) j (.inl Z) (λb q g z=>(i.2 b g).trans z) h d
theorem FY{P:ao}{w:ax}{f:Hp}{e:aE}{b:List (Zj×V)}{d:List (Zj×ak)}(z:↑b<=au)(h:(a==sysModules)=false)(c:KV b d)(g:e.DictOf (UF P w) a d):
  Zc P w f e a (.dK b):=#[z,h,d,c,g]
theorem Aq{D:Hp}{Q:Unit->am->Prop}(V:A.units+1<cLine)(I:ZF X jR σ H s)(g:Q0 H a y v D)(L:ZQ y u)(K:ZQ v r)(h:∀ M,ZF X jR σ D M->Q () M):
  aC (aB X.prog X.w) A (setItem (.ref a) u r) Q E s:=by
 rcases g with ⟨d,k,e,p,l,n⟩ | ⟨d,k,b,e,p,F,l,n⟩
 .subst p n;let#[z,t,W,f,m]:=BT I.hok e;let C:↑W<=sizeLine:=by rwa[<-↑f,z]
  let x:↑(Wf d k v)<=sizeLine:=by have:=Ie d k v;lia
  show wpAny_setItem_pairs (hsz:=C) (LA L) m λJ i B=>h _ ?_;let U:∃ q,J.get? a\q:=let #[q,_,_,j,_]:=i;#[q,j];show Kh I #v[e,True.intro] B U (FY x t (f.put k K) i)
 .subst p n;cases(show u=Value.ref b from L);let#[z,t,Y,f,m]:=Ro I.hok e;let C:↑Y<=sizeLine:=by rwa[<-Paired.length f,z]
  let x:↑(Wf d k v)<=sizeLine:=by have:=Ie d k v;lia
  show wpAny_setItem_heap (hsz:=C) (tupleKind_room_in1 V) (Lk I.hok F) m λJ i B=>h _ ?_;let#[q,O,N,j,P,R,S,_,T]:=i;show Kh I #v[e,True.intro] B #[q,j] #[x,t,_,(f.put k F K).keeps λc ys G=>?_,q,O,N,j,P,R,S,T]
  rwa[ZT (Z5 G e (λz=>nomatch z)),G]
end
section
variable{jR:js}{σ:St}{H:Hp}{a:al}{kvs:List (Zj×V)}{k:Zj}{u:ak}
theorem zh{v:V}{b:jd}{Q:ja}(I:ZF X jR σ H s)(e:H a\.dK kvs)(j:ZQ (kV k) u)(l:YS kvs k\v)(n:b=[]\/∃ x,b=[x])(h:∀ f p,ZF X jR σ (upd H a (.dK (VJ kvs k))) p->ZQ v f->Q f p):aC (aB X.prog X.w) A (call (.builtin "dict.pop") (.ref a::u::b)) Q E s:=by
 let#[z,C,r,c,m]:=BT I.hok e;let#[f,K,g]:=Yy.some_of (v:=v) (o:=valueAt r k) (by rwa[<-l,c.val k])
 let G:(keyPart u).isSome=V':=by
  cases k with
  | inl i=>let#[t,q]:=(show ∃ t,u=Value.int i t from j);subst q;rfl
  | inr x=>let#[t,q]:=(show ∃ t,u=Value.str x t from j);subst q;rfl
 let B:argsOk "dict.pop" #[.ref a::u::b,[]]:=by
  rcases n with q | ⟨x,q⟩
  .subst q;show PySem.F.args_dict_pop_2 _ _
  .subst q;show PySem.F.args_dict_pop_3 _ _ _
 show call_meetsIn zEQ m.typeIs PySem.F.entry_dict_pop B (meets_dict_pop_there (UF X.prog X.w) a (LA j) b n G)
  #[r,f,m,by rwa[<-↑c,z],K,λy d J=>h f _ ?_ g]
 let D:∃ q,y.get? a\q:=let #[q,_,_,hq,_]:=d;#[q,hq];show Kh I #v[e,True.intro] J D (FY (zK (pG kvs k) z) C (c.drop k) d)
end
def Gz(i:Expr):Prop:=∀ b a,subscripted i false b a=operate [b,a] (getItem b a)
theorem wb{a:ao}{w:ax}{A:ay}{E:ja}{s:am}{j:Env}{c b:Expr}{n:aJ}{T id:String}{Q:ja}(q:typeLookup (.type T) "__getitem__" = pure (Z' (.builtin id)))(t:Gz b)(h:aC (aB a w) A (aH c j) (λo f=>aC (aB a w) A (aH b j) (λi d=>d.TypeIs o T/\aC (aB a w) A (getItem o i) Q E d) E f) E s):
  aC (aB a w) A (aH (.Subscript c b n) j) Q E s:=by
 show Subscript_ (ae h (λo f l=>ae l (λi d e=>?_) λ_ _ x=>x) λ_ _ x=>x);let#[p,e]:=e;unfold subscriptTail;show aa ?_;rw[getitemInPython_of_ne p.not_modules];show aa (wpAny_specialOf p q ?_);let k:aC (aB a w) A (subscripted b false o i) (λr g=>aC (aB a w) A (letTemporaryGo c o r >>= λ_=>pure r) Q E g) E d:=by
  rwa[t o i,wpAny_operating (ae e (λr g m=>aa (wpAny_letTemporaryGo (ad m))) λ_ _ x=>x)]
 first
  | show ad (aa k)
  | show aa (ad (aa k))
  | show aa k
theorem kG{X:Cx}{c:js}{h:St}{H:Hp}{s:am}{a:al}{y:V}{o:jf}(I:ZF X c h H s)(g:Vt H a y o):s.TypeIs (.ref a) "dict" :=by
 rcases g with ⟨f,k,e,_,_⟩ | ⟨f,k,b,e,_,_,_⟩
 .let#[_,_,i,_,d]:=LI I.hok e;show d.typeIs
 .let#[_,_,j,_,d]:=MY I.hok e;show d.typeIs
inductive NF(Q:VK)(x y:V)(b:Hp):Prop
 |mk(a v:_)(_:x=.ref a)(_:Vt b a y (Z' v))(_:Q v b)
def RJ(d e:TE):TE:=λa H Q=>d a H λx b=>e a b λy c=>NF Q x y c
inductive Qm(Q:VK)(y x:V)(b:Hp):Prop
 |mk(a o:_)(_:x=.ref a)(_:Vt b a y o)(_:Q (.bl (!o.isSome)) b)
def xh(e d:TE):TE:=λa H Q=>e a H λy b=>d a b λx c=>Qm Q y x c
inductive NX(D:YX)(d:L2.St)(v x y:V)(c:Hp):Prop
 |mk(a b:_)(_:x=.ref a)(_:Q0 c a y v b)(_:D.nx d b)
def Rq(e g f:TE):TS:=λD a H=>f a H λv b=>e a b λx c=>g a c λy d=>NX D a v x y d
section
variable{o i e value:Expr}{pos pos' tpos:aJ}{td ty tv:TE}
theorem GO(t:X.A.units+1<cLine)(q:PE X o td)(p:PE X i ty)(r:Gz i:=by show λ_ _=>rfl):PE X (.Subscript o i pos) (RJ td ty):=by
 intro b s f H Q I h;show wb PySem.F.slot_dict_getitem.lookup r (Z8 (q b s f H _ I h) λu D x j l B w=>Z3 (p b D f j _ l w) ?_);rintro E G ⟨y,k,d,C,a,v,n,g,z⟩;subst n;obtain rfl:u=Value.ref a:=B;show#[kG d g,oH t d g C λK J m c=>#[v,k,m,c,z]]
theorem Iy(q:X.A.units+1<cLine)(n:PE X i ty)(p:PE X o td):PC X .NotIn i o (xh ty td):=by
 intro b s c H Q I h;show Z8 (n b s c H _ I h) λC B y d j z t=>Z3 (p b B c d _ j t) ?_;rintro u D ⟨x,f,k,w,a,r,m,g,v⟩;subst m;obtain rfl:u=Value.ref a:=w;show ue q k g z λE l=>#[.bl (!r.isSome),f,l,Z,v]
theorem IX(z:X.A.units+1<cLine)(t:PE X o td)(q:PE X i ty)(B:PE X value tv)(w:swapsWith value (Z' (.Subscript o i pos')) pos.line X.env=pure false):
  PS X (.Assign [.Subscript o i pos'] value pos) (Rq td ty tv):=by
 intro b s c H D I h;show wpAny_Assign_Subscript (Z8 (B b s c H _ I h) λr L v d k G C=>Z8 (t b L c d _ k C) λu M x f l J E=>Z3 (q b M c f _ l E) λO P ⟨y,N,m,K,a,j,p,g,F⟩=>?_) w;subst p;obtain rfl:u=Value.ref a:=J;show Aq z m g K G λQ n=>#[c,j,n,F]
end
section
variable{pos:aJ}
end
structure M1(X:Cx)(o:Expr)(m:Str)(jh:aJ)(e:Expr)(jg:aJ):Prop where
 base:attributeBase o m X.env (aH o X.env)=aH o X.env
 few:((aG jg (aw [e] X.env)).all (λx=>!x.1)&&(backToKw jg (keywordEach [] X.env)).all (λx=>x.1.isSome)
  && decide (↑([e]:jy)+↑([]:List Keyword)+(if ([]:List Keyword).isEmpty then 0 else 1)<30))=V'
 line:(jh.endLine==jg.line)=V'
 trees:aG jg (aw [e] X.env)=[(false,aH e X.env)]
structure M2(X:Cx)(o:Expr)(m:Str)(jh:aJ)(e f:Expr)(jg:aJ):Prop where
 base:attributeBase o m X.env (aH o X.env)=aH o X.env
 few:((aG jg (aw [e,f] X.env)).all (λx=>!x.1)&&(backToKw jg (keywordEach [] X.env)).all (λx=>x.1.isSome)
  && decide (↑([e,f]:jy)+↑([]:List Keyword)+(if ([]:List Keyword).isEmpty then 0 else 1)<30))=V'
 line:(jh.endLine==jg.line)=V'
 trees:aG jg (aw [e,f] X.env)=[(false,aH e X.env),(false,aH f X.env)]
def Fm(H:Hp)(a:al):Prop:=(∃ b,Rd H a (.dK b))\/∃ b,Rd H a (.dT b)
theorem AR{X:Cx}{g:js}{l:St}{H:Hp}{s:am}{a:al}(I:ZF X g l H s)(d:Fm H a):
  s.TypeIs (.ref a) "dict" /\ (∀ b,Value.ref a=.ref b->∃ c,s.heap.get? b\c/\c.dict=Y')/\(a==sysModules)=false:=by
 rcases d with ⟨k,e⟩ | ⟨k,e⟩
 .let#[_,j,m,_,f]:=LI I.hok e;show#[f.typeIs,λb q=>?_,j];cases q;let#[c,_,_,h,i,_]:=f;show#[c,h,i.2.1]
 .let#[_,j,n,_,f]:=MY I.hok e;show#[f.typeIs,λb q=>?_,j];cases q;let#[c,_,_,h,i,_]:=f;show#[c,h,i.2.1]
section
variable{jR:js}{σ:St}{H:Hp}{a:al}{y d:V}{u r:ak}{o:jf}
end
inductive P6(e:TE)(f:L2.St)(Q:VK)(x:V)(c:Hp):Prop
 |mk(a:_)(_:x=.ref a)(_:Fm c a)(_:e f c λy d=>∃ b k v,d a\.dK b/\y=kV k/\YS b k\v/\Q v (upd d a (.dK (VJ b k))))
def yl(c d:TE):TE:=λa H Q=>c a H λx b=>P6 d a Q x b
section
variable{o e f:Expr}{jh jg:aJ}{td ty tx:TE}
theorem qh(z:PE X o td)(w:PE X e ty)(m:M1 X o "pop" jh e jg):PE X (.Call (.Attribute o "pop" jh) [e] [] jg) (yl td ty):=by
 intro b s i H Q I h;show wpAny_Call_method m.base m.few m.line PySem.F.plainAttrs_dict zEQ PySem.F.type_dict_pop (Z3 (z b s i H _ I h) ?_);rintro u G ⟨x,j,g,D,a,r,d,B⟩;subst r;obtain rfl:u=Value.ref a:=D;let#[J,K,_]:=AR g d;exists J,K;rw[m.trees];show Calls.callWith_builtin Z (Calls.evalArgs_plain (Calls.spliced_cons (Z3 (w b G i j _ g B) λM N ⟨y,L,n,E,A,k,v,q,t,l,C⟩=>Calls.spliced_nil ?_)));subst t;show zh n q E l (.inl Z) λP O p c=>#[v,_,p,c,C]
end
section
variable{jR:js}{σ:St}{H:Hp}{a:al}{kvs:List (Zj×V)}
end
section
variable{jR:js}{σ:St}{H:Hp}{a:al}{y:V}{u:ak}
end
section
variable{κ:Type}[DecidableEq κ]
theorem xg{a:List (κ×V)}{k:κ}{v:V}(h:YS a k\v):k∈a.map (·.1):=by
 let q:(a.any λc=>decide (c.1=k))=V':=by
  rw[MG,h]
  all_goals rfl
 let#[p,b,e]:=vS.mp q;show zA.mpr #[p,b,of_decide_eq_true e]
theorem mQ{p:κ×V}{r:List (κ×V)}{k:κ}(e:p.1=k):VJ (p::r) k=VJ r k:=by
 unfold VJ;rw[wJ,aO (by simp[e])]
theorem nT{p:κ×V}{r:List (κ×V)}{k:κ}(e:¬ p.1=k):VJ (p::r) k=p::VJ r k:=by
 unfold VJ;rw[wJ,aP (by simp[e])]
end
end L2
namespace Tw
open PySem PySem.Spec L2 PyProof.Rows
def Mu(d:al)(a:Array DictEntry):HO:=.ext λh=>(d==sysModules)=false/\a.size<=au/\∃ o b,h.get? d\o/\o.ExactDict/\o.data=.dict a b
abbrev N1(w:ax)(x:KT×V×V)(e:DictEntry):Prop:=e.hash=W0 w x.1/\ZQ x.2.1 e.key/\ZQ x.2.2 e.val
structure Xr(w:ax)(H:Hp)(d:al)(xs:List (KT×V×V)):Prop where
 ex:∃ es,H d\Mu d es/\Paired (N1 w) xs es.toList
 key:∀ x∈xs,ZE H x.1 x.2.1/\x.1.depth<=3
 nd:(xs.map (·.1)).Nodup
theorem BW{P:ao}{w:ax}{H:Hp}{h:aE}{d:al}{e:Array DictEntry}(i:(d==sysModules)=false)(j:e.size<=au)(f:∃ o c,h.get? d\o/\o.ExactDict/\o.data=.dict e c):Zc P w H h d (Mu d e):=by
 exists #[i,j,f],?_
 .let#[o,c,g,_]:=f;show#[o,g]
 .rintro a b ⟨l,m,o,c,g,r⟩ k;show#[l,m,o,c,k o g,r]
theorem UH{d c:Type}{F:d->c->Prop}:∀{l:List d}{m:List c}{i:Nat}{b:c},Paired F l m->m[i]?\b->∃ a,l[i]?\a/\F a b
 | _,_,_,_,.nil,e=>by simp at e
 | _,_,0,_,.cons r _,e=>by simp at e;subst e;show#[1,r]
 | _,_,i+1,b,.cons _ t,e=>by
  let#[a,f,g]:=UH (i:=i) (b:=b) t (by simpa using e)
  show#[a,by simpa using f,g]
theorem Ji{c d:Type}{F:c->d->Prop}:∀{l:List c}{m:List d},↑l=↑m->(∀(i:Nat) a b,l[i]?\a->m[i]?\b->F a b)->Paired F l m
 | [],[],_,_=>.nil
 | [],_::_,h,_=>by simp at h
 | _::_,[],h,_=>by simp at h
 | a::l,b::m,h,f=>.cons (f 0 a b Z Z) (Ji (by simpa using h) λi x y e g=>f (i+1) x y (by simpa using e) (by simpa using g))
theorem F0{c d:Type}{F:c->d->Prop}{a:c}{b:d}(h:F a b){l:List c}{m:List d}(g:Paired F l m):Paired F (l++[a]) (m++[b]):=by
 induction g with
 | nil=>show .cons h .nil
 | cons r _ e=>show .cons r e
def N8(t:KT)(v:V)(x:KT×V×V):KT×V×V:=if x.1.eqb t=V' then (x.1,x.2.1,v) else x
def Pq(a:List (KT×V×V))(t:KT)(y v:V):List (KT×V×V):=if (a.any λx=>x.1.eqb t)=V' then a.map (N8 t v) else a++[(t,y,v)]
theorem Vq{b:List (KT×V×V)}{t:KT}:(b.any λx=>x.1.eqb t)=V' ↔ t∈b.map (·.1):=by
 rw[vS,zA];constructor
 .rintro⟨x,a,e⟩;show#[x,a,Ob _ _ e]
 .rintro⟨x,a,e⟩;show#[x,a,#v[e,P5 _]]
theorem HK(t:KT)(v:V)(x:KT×V×V):(N8 t v x).1=x.1/\(N8 t v x).2.1=x.2.1:=by
 unfold N8;split <;> show#[Z,Z]
theorem Ki(a:List (KT×V×V))(t:KT)(y v:V):(Pq a t y v).map (·.1)=if (a.any λx=>x.1.eqb t)=V' then a.map (·.1) else a.map (·.1)++[t]:=by
 unfold Pq;split
 .rwa[vI,rH λx _=>(HK t v x).1]
 .rw[yX];rfl
theorem pH(a:List (KT×V×V))(t:KT)(y v:V):↑(Pq a t y v)<=↑a+1:=by
 have:=congrArg xI (Ki a t y v);rw[zY] at this;rw[this];split
 .rw[zY];lia
 .rw[zS,zY];simp
theorem Xr.but{w:ax}{H a:Hp}{d p:al}{c:List (KT×V×V)}(x:Xr w H d c)(s:ZA p H a)(t:XB H a)(n:d≠p):Xr w a d c:=by
 let#[e,f,g]:=x.ex;show#[#[e,s _ _ f n,g],λz b=>#[(x.key z b).1.mono t,(x.key z b).2],x.nd]
section
variable{jR:js}{σ:L2.St}{H:Hp}
theorem Xr.es{d:al}{a:List (KT×V×V)}{c:Array DictEntry}(I:ZF X jR σ H s)(x:Xr X.w H d a)(r:Paired (N1 X.w) a c.toList):N9 X.w s.heap (a.map (·.1)) c:=by
 show#[by have:=Paired.length r;simpa using this.symm,λi e f=>?_,x.nd]
 rw[<-uX] at f;let#[z,b,h,j,k]:=UH r f;let g:=x.key z (zI b);show#[z.1,by rw[zF,b];rfl,h,PX I _ _ _ g.1 j,g.2]
theorem G'{d:al}{f:List (KT×V×V)}{b:Array DictEntry}{o:aI}{q:Nat}{t:KT}{y:V}{u:ak}{Q:ju->am->Prop}(I:ZF X jR σ H s)(x:Xr X.w H d f)(r:Paired (N1 X.w) f b.toList)(B:s.heap.get? d\o)(v:o.data=.dict b q)(D:ZE H t y)(m:t.depth<=3)(G:ZQ y u)(C:A.units+3<cLine)(h:t∉f.map (·.1)->Q Y' s)(c:∀ j z e,f[j]?\z->z.1=t->b[j]?\e->N1 X.w z e->Q (Z' j) s):aC (aB X.prog X.w) A (dictFind d u (W0 X.w t)) Q E s:=by
 show tj (PX I t y u D G) m C B v (x.es I r) h λj l=>?_;rw[zF] at l;let#[z,g,n]:=wP.mp l;let F:j<b.size:=by
  have:=Paired.length r;let#[a,_]:=yL.mp g;simp at this
  lia
 let i:b[j]?\b[j]:=wV F;let#[J,k,p]:=UH r #v[uX,i]
 erw[g] at k;show c j z _ g n i p
theorem Rz{d:al}{l:List (KT×V×V)}{t:KT}{y v:V}{u r:ak}{Q:Unit->am->Prop}(hu:A.units+4<cLine)(I:ZF X jR σ H s)(x:Xr X.w H d l)(hl:↑l<1000)(hy:ZE H t y)(dt:t.depth<=3)(ry:ZQ y u)(rv:ZQ v r)(h:∀ s' H',ZF X jR σ H' s'->ZA d H H'->Xr X.w H' d (Pq l t y v)->Q () s'):aC (aB X.prog X.w) A (setItem (.ref d) u r) Q E s:=by
 let#[p,hH,k]:=x.ex;let#[#[O,P,o,W,F,hx,B],_]:=I.hok d _ hH;let S:p.size=↑l:=by have:=Paired.length k;simpa using this.symm
 let hT:s.TypeIs (.ref d) "dict" :=#[o,F,hx.1];unfold setItem
 try with_reducible show af ?_
 show aa (wpAny_sequenceKey hT (by decide) ?_)
 show aa (wpAny_callSpecial?_slot (name:=zX "__setitem__") hT slot_dict_setitem (wpAny_call_entry slot_dict_setitem hT entry_dict_setitem ?_ (args_dict_setitem _ _ _)));change aC _ _ (Builtin.Dict.notOrdered "__setitem__" #[[.ref d,u,r],[]] >>= _) _ _ s;show aa (wpAny_notOrdered_dict hT ?_);change aC _ _ (dictSet d u r >>= _) _ _ s;show aa ?_;unfold dictSet
 try with_reducible show af ?_
 show aa (G5 t.depth t (zW _) (PX I t y u hy ry) (by change A.units+1+_<_;lia) λT a1=>?_)
 unfold dictSetHashed
 try with_reducible show af ?_
 let I1:ZF X jR σ H { s with toks:=T }:=I.tok T;let mu:Nm (H d):=#v[hH,True.intro]
 let f:∀ c,XB H (upd H d (Mu d c)):=λc b ws e=>#v[ZT (Z5 e hH),e]
 let L:∀(c:Array DictEntry)(Y:aE),c.size<=au->xM d s.heap Y->(∃ o W,Y.get? d\o/\o.ExactDict/\o.data=.dict c W)->Paired (N1 X.w) (Pq l t y v) c.toList->Q () { s with heap:=Y,toks:=T }:=λc Y G hs N hp=>by
  show h _ (upd H d (Mu d c)) (Kh I mu hs (by let#[o,_,g,_]:=N;show#[o,g]) (BW O G N)) (λb o e n=>#v[ZT n,e]) #[#[c,ZY,hp],λz G=>?_,?_]
  .unfold Pq at G;split at G
   .let#[z',R,rfl]:=zA.mp G;rwa[(HK t v z').1,(HK t v z').2,#[(x.key z' R).1.mono (f c),(x.key z' R).2]]
   .rcases yY.mp G with q | q
    .show#[(x.key z q).1.mono (f c),(x.key z q).2]
    .rwa[zP.mp q,#[hy.mono (f c),dt]]
  .rw[Ki];split
   .show x.nd
   .rename_i hn
    rwa[sE,#[x.nd,by simp,λa ha b m=>by rw[zP.mp m];show λz=>hn (Vq.mpr (z ▸ ha))]]
 show aa (G' (A:=A.in1) I1 x k F B hy dt ry (by change A.units+1+3<_;lia) (λhn=>?_) λj z e e1 U e3 e4=>?_)
 .let D:¬ (l.any λx=>x.1.eqb t)=V':=λq=>hn (Vq.mp q);show aa (aj (wpAny_updateDictKeys (s:={ s with toks:=T }) (hz:=P) F B ?_));show ad #[.none,Z,ad (L (p.push #[W0 X.w t,u,r]) _ #v[Array.size_push,S,yK (YQ ∅)] (xM.update ..) #[_,W+1,wI _ F (Obj.isFreed_of_dict (Obj.data_mapDictKeys B _)),hx.mapDictKeys _,Obj.data_mapDictKeys B _] ?_)]
  unfold Pq;rwa[aO D,Array.toList_push,F0 #[Z,ry,rv] k]
 .let D:(l.any λx=>x.1.eqb t)=V':=Vq.mpr (zA.mpr #[z,zI e1,U]);show aa (aj (aa (wpAny_updateDict (s:={ s with toks:=T }) F B (wpAny_point ?_))));show ad #[.none,Z,ad (L (p.modify j λe=>{ e with val:=r }) _ #v[Array.size_modify,P] (xM.update ..) #[_,W,wI _ F (Obj.isFreed_of_dict (Obj.data_mapDict B _)),hx.mapDict _,Obj.data_mapDict B _] ?_)]
  unfold Pq;rw[aP D];let lm:↑(p.modify j λe=>{ e with val:=r }).toList=p.size:=#v[rG,Array.size_modify]
  show Ji (by rw[lm,zY,S]) λi a b ha m=>?_
  rw[zF] at ha;let#[a',J,rfl]:=wP.mp ha;rw[uX,Array.getElem?_modify] at m;let M:p[i]?\p[i]'(by let#[l1,_]:=yL.mp J;lia):=wV _
  let#[a2,K,r1,r2,r3]:=UH k #v[uX,M]
  erw[J] at K;rw[M] at m;by_cases C:j=i
  .subst C;erw[aP rfl,wK] at m;erw[e1] at J;unfold N8;rw[U,P5,aP rfl];rw[U] at r1;show#[r1,r2,rv]
  .erw[aO C] at m;let a0:a'.1.eqb t=false:=by
    cases q:a'.1.eqb t with
    | false=>rfl
    | true=>
     let q1:(l.map (·.1))[i]?\t:=#v[zF,J,congrArg Z' (Ob _ _ q)]
     let q2:(l.map (·.1))[j]?\t:=#v[zF,e1,congrArg Z' U]
     let#[l1,_]:=yL.mp q2;show absurd ((List.getElem?_inj l1 x.nd).mp (q2.trans q1.symm)) C
   unfold N8;rwa[a0,aO zR,#[r1,r2,r3]]
end
end Tw
namespace Srt
open PySem PySem.W PyProof.Rows
structure Q1(lt:Nat->Nat->Bool):Prop where
 asym:∀ i j,lt i j=V'->lt j i=false
 trans:∀ i j k,lt j i=false->lt k j=false->lt k i=false
def gt(p:jA)(i:Nat):Nat:=p.getD i 0
theorem Og(p:jA)(i:Nat):gt p i=(p[i]?).getD 0:=by unfold gt;rw[Array.getD_eq_getD_getElem?]
theorem KY{p:jA}{i j:Nat}(a:j<=p.size)(k:Nat):gt (kas_rev p i j) k=if i<=k/\k<j then gt p (i+j-1-k) else gt p k:=by
 rw[Og,Og,Og];unfold kas_rev;rw[getElem?_mirror_all a];split <;> rfl
theorem y8{p:jA}{k l:Nat}(a:k<p.size)(b:l<=k)(x:Nat):gt (bubble p k (k-l)) x=if x=l then gt p k else if l<x/\x<=k then gt p (x-1) else gt p x:=by
 rw[Og,Og,Og,Og,getElem?_bubble a (k-l) ∅]
 let e:k-(k-l)=l:=∅
 rw[e];split
 .rfl
 .split <;> rfl
def PB(n:Nat)(p:jA):Prop:=p.Perm (xL (zG n))
theorem PB.size{n:Nat}{p:jA}(h:PB n p):p.size=n:=by rw[h.size_eq];simp
theorem PB.lt{n:Nat}{p:jA}(h:PB n p){i:Nat}(a:i<n):gt p i<n:=by
 let b:=h.size;rw[Og,wV ∅]
 have:p[i]'∅∈(xL (zG n)):=h.mem_iff.mp (Array.getElem_mem _)
 simpa using this
theorem PB.rev{n:Nat}{p:jA}(h:PB n p)(i j:Nat):PB n (kas_rev p i j):=(mirror_perm _ _ _ _).trans h
theorem PB.bub{n:Nat}{p:jA}(h:PB n p)(i j:Nat):PB n (bubble p i j):=(bubble_perm _ _ _).trans h
section
variable{lt:Nat->Nat->Bool}{n:Nat}{cmp:Nat->Nat->(Bool->am->Prop)->am->Prop}
def Pf(lt:Nat->Nat->Bool)(p:jA)(k:Nat):Prop:=∀ i j,i<=j->j<k->lt (gt p j) (gt p i)=false
def OW(lt:Nat->Nat->Bool)(p:jA)(k:Nat):Prop:=∀ i j,i<=j->j<k->lt (gt p i) (gt p j)=false
theorem Q1.irr(O:Q1 lt)(i:Nat):lt i i=false:=by
 cases h:lt i i with
 | false=>rfl
 | true=>show absurd (O.asym i i h) (by rw[h];decide)
def Ol(lt:Nat->Nat->Bool)(n:Nat)(cmp:Nat->Nat->(Bool->am->Prop)->am->Prop)(s:am):Prop:=∀ i j,i<n->j<n->∀ C:Bool->am->Prop,C (lt i j) s->cmp i j C s
theorem Hs(O:Q1 lt)(k:Ol lt n cmp s){p:jA}(e:PB n p):∀(f m N:Nat)(Q:Nat->am->Prop),f+m=N->N<=n->1<=m->Pf lt p m ->
  (∀ a,m<=a->a<=N->Pf lt p a->(a=N\/lt (gt p a) (gt p (a-1))=V')->Q a s)->(kas_asc p f m).kasWp cmp Q s
 | 0,m,N,Q,v,g,w,b,c=>c m (zW _) ∅ b (.inl ∅)
 | f+1,m,N,Q,v,g,w,b,c=>by
  show k _ _ (e.lt (i:=m) ∅) (e.lt (i:=m-1) ∅) _ ?_
  change (if lt (gt p m) (gt p (m-1))=V' then KasT.ret m else kas_asc p f (m+1)).kasWp cmp Q s
  cases l:lt (gt p m) (gt p (m-1)) with
  | true=>rwa[aP Z,c m (zW _) ∅ b (.inr l)]
  | false=>
   rw[aO zR];show Hs O k e f (m+1) N Q ∅ g ∅ (λi j d y=>?_) λa x q r t=>c a ∅ q r t
   rcases yW j m with h | h
   .show b i j d h
   .let o:j=m:=∅
    subst o;rcases yW i j with u | u
    .show O.trans _ _ _ (b i (j-1) ∅ ∅) l
    .have:i=j:=∅
     rwa[this,O.irr _]
def Jb(lt:Nat->Nat->Bool)(p:jA)(m q:Nat):Prop:=q+1<=m/\∀ i j,m-(q+1)<=i->i<m->m-(q+1)<=j->j<m->lt (gt p i) (gt p j)=false
theorem Gy(O:Q1 lt){p:jA}{m q:Nat}(h:m<=p.size)(e:Jb lt p m q)(b:OW lt p m):OW lt (kas_rev p (m-(q+1)) m) m:=by
 let#[l,d]:=e;let g (k:Nat):=KY (p:=p) (i:=m-(q+1)) h k;intro i j a f;rw[g i,g j];split
 .rename_i c
  rw[aP #[∅,∅]]
  show d _ _ ∅ ∅ ∅ ∅
 .rename_i c
  split
  .show b _ _ ∅ ∅
  .show b _ _ a f
theorem Ln(O:Q1 lt)(D:Ol lt n cmp s):∀(f:Nat)(p:jA)(m q N:Nat)(Q:jA×Nat×Nat->am->Prop),PB n p->f+m=N->N<=n->OW lt p m->Jb lt p m q ->
  (∀ a c u,PB n a->m<=c->c<=N->OW lt a c->Jb lt a c u->Q (a,c,u) s)->(kas_desc f p m q).kasWp cmp Q s
 | 0,p,m,q,N,Q,b,P,F,r,o,x=>x p m q b (zW _) ∅ r o
 | f+1,p,m,q,N,Q,b,P,F,r,o,x=>by
  let S:=o.1;let V:=b.size;show D _ _ (b.lt (i:=m) ∅) (b.lt (i:=m-1) ∅) _ ?_
  change (if lt (gt p m) (gt p (m-1))=V' then (if q > 0 then kas_desc f (kas_rev p (m-(q+1)) m) (m+1) 0 else kas_desc f p (m+1) 0) else .ask (p.getD (m-1) 0) (p.getD m 0) λd=>if d=V' then .ret (p,m,q) else kas_desc f p (m+1) (q+1):KasT _).kasWp cmp Q s
  let t:∀ a:jA,PB n a->OW lt a m->gt a m=gt p m->lt (gt p m) (gt p (m-1))=V'->(∀ i,i<m->lt (gt a i) (gt p (m-1))=false)->OW lt a (m+1):=λa _ w e E R i j v U=>by
   rcases yW j m with h | h
   .show w i j v h
   .let C:j=m:=∅
    subst C;rcases yW i j with l | l
    .rwa[e,O.trans _ _ _ (O.asym _ _ E) (R i l)]
    .have:i=j:=∅
     rwa[this,O.irr _]
  cases E:lt (gt p m) (gt p (m-1)) with
  | true=>
   rw[aP rfl];split
   .let w:=Gy O ∅ o r
    let g (k:Nat):=KY (p:=p) (i:=m-(q+1)) (j:=m) ∅ k
    show Ln O D f _ (m+1) 0 N Q (b.rev _ _) ∅ F (t _ (b.rev _ _) w (by rw[g m,aO ∅]) E λi T=>?_) #[∅,λi j G H I J=>?_] λa c u y K z A B=>x a c u y ∅ z A B
    .rw[g i];split
     .show o.2 _ _ ∅ ∅ ∅ ∅
     .show r _ _ ∅ ∅
    .have:i=j:=∅
     rwa[this,O.irr _]
   .show Ln O D f _ (m+1) 0 N Q b ∅ F (t _ b r Z E λi T=>r _ _ ∅ ∅) #[∅,λi j G H I J=>?_] λa c u y K z A B=>x a c u y ∅ z A B
    have:i=j:=∅
    rwa[this,O.irr _]
  | false=>
   rw[aO zR];show D _ _ (b.lt (i:=m-1) ∅) (b.lt (i:=m) ∅) _ ?_
   change (if lt (gt p (m-1)) (gt p m)=V' then KasT.ret (p,m,q) else kas_desc f p (m+1) (q+1)).kasWp cmp Q s
   cases L:lt (gt p (m-1)) (gt p m) with
   | true=>rwa[aP Z,x p m q b (zW _) ∅ r o]
   | false=>
    rw[aO zR];show Ln O D f _ (m+1) (q+1) N Q b ∅ F (λi j v U=>?_) #[∅,λi j G H I J=>?_] λa c u y K z A B=>x a c u y ∅ z A B
    .rcases yW j m with h | h
     .show r i j v h
     .let C:j=m:=∅
      subst C;rcases yW i j with l | l
      .show O.trans _ _ _ L (r i (j-1) ∅ ∅)
      .have:i=j:=∅
       rwa[this,O.irr _]
    .rcases yW i m with h | h
     .rcases yW j m with l | l
      .show o.2 i j ∅ h ∅ l
      .let C:j=m:=∅
       subst C;show O.trans _ _ _ L (o.2 i (j-1) ∅ h ∅ ∅)
     .let M:i=m:=∅
      subst M;rcases yW j i with l | l
      .show O.trans _ _ _ (o.2 (i-1) j ∅ ∅ ∅ l) E
      .have:i=j:=∅
       rwa[this,O.irr _]
theorem lK{p:jA}{m:Nat}(b:m<=p.size)(c:OW lt p m):Pf lt (kas_rev p 0 m) m:=λi j a d=>by
 let g (k:Nat):=KY (p:=p) (i:=0) b k;rw[g i,g j,aP #[∅,∅],aP #[∅,∅]]
 show c _ _ ∅ ∅
theorem BE(O:Q1 lt)(h:Ol lt n cmp s){p:jA}(b:PB n p){m N:Nat}{Q:Nat×jA->am->Prop}(f:1<=m)(l:m<=N)(g:N<=n)(i:OW lt p m)(j:∀ a c,PB n c->1<=a->a<=N->Pf lt c a->Q (a,c) s):(kas_tail3 m N p).kasWp cmp Q s:=by
 unfold kas_tail3;rwa[KasT.kasWp_bind,Hs O h (b.rev 0 m) (N-m) m N _ ∅ g f (lK (by have:=b.size;lia) i) λa k d e _=>j a _ (b.rev 0 m) ∅ d e]
theorem E7(O:Q1 lt)(e:Ol lt n cmp s){p:jA}(q:PB n p){m N:Nat}{Q:Nat×jA->am->Prop}(x:m+1<=N)(d:N<=n)(o:OW lt p (m+1))(h:∀ a b,PB n b->1<=a->a<=N->Pf lt b a->Q (a,b) s):(kas_descPart m N p).kasWp cmp Q s:=by
 unfold kas_descPart;rw[KasT.kasWp_bind];show Ln O e (N-(m+1)) p (m+1) 0 N _ q ∅ d o #[∅,λi j r t u v=>?_] λb a k c w f g l=>?_
 .have:i=j:=∅
  rwa[this,O.irr _]
 .let y:=c.size;change (if k > 0 then kas_tail3 a N (kas_rev b (a-(k+1)) a) else kas_tail3 a N b).kasWp cmp Q s
  split
  .show BE O e (c.rev _ _) ∅ f d (Gy O ∅ l g) h
  .show BE O e c ∅ f d g h
theorem qx(O:Q1 lt)(l:Ol lt n cmp s){p:jA}(a:PB n p){Q:Nat×jA->am->Prop}(F:1<=n)(o:∀ q v,PB n v->1<=q->q<=n->Pf lt v q->Q (q,v) s):(kas_count n p).kasWp cmp Q s:=by
 unfold kas_count;rw[KasT.kasWp_bind];let H:=a.size;show Hs O l a (n-1) 1 n _ ∅ (zW _) (zW _) (λi j b t=>?_) λm x y c d=>?_
 .have:i=j:=∅
  rwa[this,O.irr _]
 .split
  .show o m p a x y c
  .rename_i u
   let G:m<n:=by have:m≠n:=λe=>u (by rw[e];simp);lia
   let z:lt (gt p m) (gt p (m-1))=V':=by
    rcases d with d | d
    .lia
    .show d
   split
   .rename_i D
    show l _ _ (a.lt (i:=0) ∅) (a.lt (i:=m-1) ∅) _ ?_
    change (if lt (gt p 0) (gt p (m-1))=V' then KasT.ret (m,p) else kas_descPart m n (kas_rev p 0 m)).kasWp cmp Q s
    cases C:lt (gt p 0) (gt p (m-1)) with
    | true=>rwa[aP Z,o m p a x y c]
    | false=>
     rw[aO zR];let w:∀ i j,i<m->j<m->lt (gt p i) (gt p j)=false:=λi j E t=>
      O.trans _ _ _ (c j (m-1) ∅ ∅) (O.trans _ _ _ C (c 0 i ∅ E))
     let g (k:Nat):=KY (p:=p) (i:=0) (j:=m) ∅ k
     show E7 O l (a.rev 0 m) ∅ (zW _) (λi j b t=>?_) o
     rw[g i,g j];rcases yW j m with h | h
     .rw[aP #[∅,∅],aP #[∅,∅]]
      show w _ _ ∅ ∅
     .let r:j=m:=∅
      subst r;rcases yW i j with f | f
      .rw[aP #[∅,f],aO ∅]
       show O.trans _ _ _ (O.asym _ _ z) (w _ _ ∅ ∅)
      .have:i=j:=∅
       rwa[this,aO ∅,O.irr _]
   .let B:m=1:=∅
    subst B;show E7 O l a ∅ (zW _) (λi j b t=>?_) o
    rcases yW i j with f | f
    .let A:i=0:=∅
     let r:j=1:=∅
     subst A r;show O.asym _ _ z
    .have:i=j:=∅
     rwa[this,O.irr _]
theorem Jr(O:Q1 lt)(m:Ol lt n cmp s){p:jA}(e:PB n p){k:Nat}(q:k<n)(g:Pf lt p k):∀(f l r:Nat)(Q:Nat->am->Prop),l<=r->r<=k->r-l<=f->(∀ i,i<l->lt (gt p k) (gt p i)=false)->(∀ i,r<=i->i<k->lt (gt p k) (gt p i)=V') ->
  (∀ j,j<=k->(∀ i,i<j->lt (gt p k) (gt p i)=false)->(∀ i,j<=i->i<k->lt (gt p k) (gt p i)=V')->Q j s)->(kas_place p k f l r).kasWp cmp Q s
 | 0,l,r,Q,v,t,w,a,b,c=>c l ∅ a λi d=>b i ∅
 | f+1,l,r,Q,v,t,w,a,b,c=>by
  unfold kas_place;split
  .show c l ∅ a λi d=>b i ∅
  .rename_i x
   show m _ _ (e.lt (i:=k) q) (e.lt (i:=(l+r) / 2) ∅) _ ?_
   change (if lt (gt p k) (gt p ((l+r) / 2))=V' then kas_place p k f l ((l+r) / 2) else kas_place p k f ((l+r) / 2+1) r).kasWp cmp Q s
   cases u:lt (gt p k) (gt p ((l+r) / 2)) with
   | true=>
    rw[aP rfl];show Jr O m e q g f l ((l+r) / 2) Q ∅ ∅ ∅ a (λi d o=>?_) c
    cases h:lt (gt p k) (gt p i) with
    | true=>rfl
    | false=>
     have:=O.trans _ _ _ (g ((l+r) / 2) i d o) h;erw[u] at this
   | false=>
    rw[aO zR];show Jr O m e q g f ((l+r) / 2+1) r Q ∅ t ∅ (λi d=>?_) b c
    show O.trans _ _ _ (g i ((l+r) / 2) ∅ ∅) u
theorem Eh(O:Q1 lt)(v:Ol lt n cmp s):∀(f:Nat)(p:jA)(k:Nat)(Q:jA->am->Prop),PB n p->f+k=n->1<=k->Pf lt p k->(∀ o,PB n o->Pf lt o n->Q o s)->(kas_bin f p k).kasWp cmp Q s
 | 0,p,k,Q,e,u,y,c,m=>m p e (by rwa[<-u,vK,c])
 | f+1,p,k,Q,e,u,y,c,m=>by
  unfold kas_bin;rw[KasT.kasWp_bind];let C:=e.size;show Jr O v e ∅ c k 0 k _ (yQ _) (zW _) ∅ (λi w=>absurd w ∅) (λi w z=>absurd z ∅) λl A a b=>?_
  let g (x:Nat):=y8 (p:=p) (k:=k) (l:=l) ∅ A x
  show Eh O v f _ (k+1) Q (e.bub _ _) ∅ ∅ (λi j h B=>?_) m
  rw[g i,g j];by_cases t:i=l
  .rw[aP t];by_cases d:j=l
   .rwa[aP d,O.irr _]
   .rw[aO d,aP #[∅,∅]]
    show O.asym _ _ (b (j-1) ∅ ∅)
  .rw[aO t];by_cases d:j=l
   .rw[aP d,aO ∅]
    show a i ∅
   .rw[aO d];by_cases q:l<i/\i<=k
    .rw[aP q,aP #[∅,∅]]
     show c _ _ ∅ ∅
    .rw[aO q];by_cases r:l<j/\j<=k
     .rwa[aP r,c _ _ ∅ ∅]
     .rwa[aO r,c _ _ h ∅]
theorem sort_ok(O:Q1 lt)(b:Ol lt n cmp s)(g:1<=n){Q:jA->am->Prop}(d:∀ p,PB n p->Pf lt p n->Q p s):(kas_sort n).kasWp cmp Q s:=by
 unfold kas_sort;rw[KasT.kasWp_bind];show qx O b (p:=xL (zG n)) (Array.Perm.refl _) g λm p c f h a=>?_;change (if m<n then kas_bin (n-max m 1) p (max m 1) else .ret p:KasT _).kasWp cmp Q s
 split
 .let e:max m 1=m:=∅
  rwa[e,Eh O b (n-m) p m Q c ∅ f a d]
 .let e:m=n:=∅
  subst e;show d p c a
end
end Srt
namespace Tw
open PySem PySem.Spec L2 PyProof.Rows
structure Kg(g:KT->KT):Prop where
 plt:∀ t u,(g t).plt (g u)=t.lt u
 cmp:∀ t u,(g t).cmp (g u)=V'
 shape:∃ n:Nat,∀ t,∃(k:Int)(r:jq),g t=.tup (.int k::r)/\↑r=n
def MD(g:KT->KT)(h:aE)(t:KT)(v:ak):Prop:=ZO h (g t) v
section
variable{g:KT->KT}
theorem Fh:∀{l m:jq}{f d:jd}{i:Nat}{Q:Bool->am->Prop},↑l=↑m->jL s.heap l f->jL s.heap m d->cmpL l m=V'->A.units+jN l<cLine->Q (pltL l m) s->PySem.W.KatLex prog w A true false Q (f.zip d) (i+1) s
 | [],m,f,d,i,Q,c,x,y,_,_,h=>by
  rw[jL] at x;subst x
  cases m with
  | nil=>rw[pltL] at h;show PySem.W.kat_nil h
  | cons _ _=>simp at c
 | a::l,m,f,d,i,Q,c,x,y,hc,hu,h=>by
  cases m with
  | nil=>simp at c
  | cons b m=>
   rw[jL] at x y;let#[v,r,rfl,k,o]:=x;let#[j,q,rfl,n,p]:=y;rw[jN] at hu;rw[pltL] at h;rw[cmpL] at hc;show PySem.W.kat_cons (M0 a.depth a b A v j (zW _) k n ∅ prog w _ _ ?_)
   show PySem.W.kat_go (λe=>PySem.W.kat_yes ?_) (λe=>PySem.W.kat_no ?_)
   .rw[e,aP rfl] at h hc;show Fh (by simpa using c) o p hc ∅ h
   .rw[e,aO zR] at h hc;show PySem.W.kat_one v j (Ba a.depth a b A v j (zW _) k n hc ∅ prog w _ _ h)
theorem SD(z:Kg g){t u:KT}{x y:ak}{Q:Bool->am->Prop}(l:MD g s.heap t x)(o:MD g s.heap u y)(G:A.units+(g t).depth<cLine)(h:Q (t.lt u) s):aC (aB prog w) A (keyLt' (tuples' true) x y) Q E s:=by
 let#[n,sh]:=z.shape;let#[k,r,R,la]:=sh t;let#[m,q,S,lc]:=sh u;let b:=z.plt t u;let d:=z.cmp t u;unfold MD at l o;rw[R] at b d l G;rw[S] at b d o;rw[ZO] at l o;let#[a,X,rfl,#[#[cl,dd,N,sl],V,T,n1,U],i]:=l;let#[c,H,rfl,#[#[M,P,O,a0],B,F,n2,v],j]:=o;let Y:=↑i;let l2:=↑j;rw[jL] at i j;let#[v1,K,rfl,I,i]:=i;let#[v2,L,rfl,J,j]:=j;rw[ZO] at I J;let#[C,rfl]:=I;let#[D,rfl]:=J;rw[KT.plt,pltL] at b;rw[KT.cmp,cmpL] at d;rw[KT.depth,jN] at G;show PySem.W.kat_lt V U B v ?_;let f:decide ((Value.int k C::K).toArray.size<(Value.int m D::L).toArray.size)=false:=by
  simp only[zV] at Y l2;simp only[zB,zV,decide_eq_false_iff_not]
  lia
 rw[f];change PySem.W.KatLex prog w A true false Q ((.int k C,.int m D)::K.zip L) 0 s;show PySem.W.kat_cons (SeqAt.EqAt.int_int k C m D prog w _ _ ?_);show PySem.W.kat_go (λe=>PySem.W.kat_yes ?_) (λe=>PySem.W.kat_no ?_)
 .let p:(KT.int k).eqb (KT.int m)=V':=#v[KT.eqb,e]
  rw[p,aP rfl] at b d;show Fh (by rw[la,lc]) i j d ∅ ?_
  rwa[b,h]
 .let p:(KT.int k).eqb (KT.int m)=false:=#v[KT.eqb,e]
  rw[p,aO zR,KT.plt] at b;show oneLt_int ?_;rwa[b,h]
end
def Y1(g:KT->KT)(h:aE):jq->jd->Prop
 | [],[]=>True
 | t::ts,v::vs=>MD g h t v/\Y1 g h ts vs
 | _,_=>False
theorem Y1.len{g:KT->KT}{h:aE}:∀{a:jq}{b:jd},Y1 g h a b->↑a=↑b
 | [],[],_=>rfl
 | _::_,_::_,x=>congrArg (· + 1) x.2.len
 | [],_::_,x=>x.elim
 | _::_,[],x=>x.elim
theorem Y1.get{g:KT->KT}{h:aE}:∀{c:jq}{b:jd},Y1 g h c b->∀ i,i<↑b->MD g h (c.getD i (.int 0)) (b.getD i Value.none)
 | _::_,_::_,x,0,_=>x.1
 | _::_,_::_,x,i+1,a=>x.2.get i (by simpa using a)
 | [],[],_,_,a=>absurd a ⋯
 | [],_::_,x,_,_=>x.elim
 | _::_,[],x,_,_=>x.elim
theorem Y1.firsts{g:KT->KT}(i:Kg g){h:aE}:∀{m:jq}{d:jd},Y1 g h m d->∃ b,PySem.W.KatTups h d b/\↑b=↑d/\∀ v∈b,∃ k t,v=Value.int k t
 | [],[],_=>#[[],.nil,Z,λv c=>absurd c ⋯]
 | t::m,v::d,x=>by
  let#[b,q,s,u]:=Y1.firsts i x.2;let#[_,sh]:=i.shape;let#[k,r,p,_]:=sh t;let f:=x.1;unfold MD at f;rw[p,ZO] at f;let#[a,A,rfl,#[o,z,w,n,y],e]:=f;rw[jL] at e;let#[C,B,rfl,j,e]:=e;rw[ZO] at j;let#[l,rfl]:=j;exists .int k l::b,.cons z w y Z q,by simp[s]
  intro v c;rcases zN.mp c with rfl | c
  .show#[k,l,Z]
  .show u v c
 | [],_::_,x=>x.elim
 | _::_,[],x=>x.elim
section
variable{g:KT->KT}
theorem yn(d:Kg g){i:jq}{a:jd}{Q:PyProof.Rows.SortKind->am->Prop}(m:0<↑a)(h:Y1 g s.heap i a)(e:Q (tuples' true) s):aC (aB prog w) A (keyKind' ⇑a) Q E s:=by
 let#[j,b,l,c]:=h.firsts d;show PySem.W.kat_kind (T:=.type "int") b ∅ (λv f=>?_) (by decide) e
 let#[k,t,rfl]:=c v f;show yD.of_pure Z
theorem R8(B:Kg g){b:jq}{d c:jd}{Q:SortSt->am->Prop}(D:↑d=↑c)(y:2<=↑c)(m:↑c<64)(h:Y1 g s.heap b d)(I:∀ t∈b,A.units+(g t).depth<cLine)(H:∀ (p:jA) (a:SortSt),Srt.PB ↑c p->(∀ i j,i<=j->j<↑c->(b.getD (p.getD j 0) (.int 0)).lt (b.getD (p.getD i 0) (.int 0))=false)->arrOf a=p.map (PySem.W.kas_item (d.toArray.zip ⇑c))->failedOf a=Y'->Q a s):
  aC (aB prog w) A ((sortRuns').run (SortSt.mk' (tuples' true) (d.toArray.zip ⇑c) ⇑[] 7 Y')) (λr e=>Q r.2 e) E s:=by
 let F:=h.len;show PySem.W.kat_run (G:=λp e=>e=s/\Srt.PB ↑c p/\∀ i j,i<=j->j<↑c->(b.getD (p.getD j 0) (.int 0)).lt (b.getD (p.getD i 0) (.int 0))=false) D y m (λp a e J u v x=>?_) ?_
 .let#[rfl,f,l]:=x;show H p a f l u v
 .show Srt.sort_ok (lt:=λi j=>(b.getD i (.int 0)).lt (b.getD j (.int 0))) #[λi j=>J9 _ _,λi j k=>TR] (λi j K q C z=>?_) ∅ λp f l=>#[Z,f,λi j o q=>l i j o q]
  unfold PySem.W.kas_ask;show SD B (h.get i ∅) (h.get j ∅) (I _ ?_) z
  let n:i<↑b:=∅
  rwa[zO,zU n,xP _]
end
inductive Nj(g:KT->KT)(c:je)(H:Hp)(Q:VK)(_:XK):Prop
 |mk(v:V)(t:KT)(_:c=[v])(_:ZE H t v)(_:t.fits 3=V')(_:∀(b:V)(a:Hp),ZE a (g t) b->ZD H a->Q b a)
theorem Ds{g:KT->KT}{X:Cx}{b:js}{k:L2.St}{H:Hp}{s:am}(I:ZF X b k H s):∀{d:jq}{a:je}{c:jd},jK H (d.map g) a->ZN a c->Y1 g s.heap d c
 | [],a,c,h,r=>by
  rw[tY,jK] at h;subst h;cases r;trivial
 | t::d,a,c,h,r=>by
  rw[yT,jK] at h;let#[v,l,rfl,e,f]:=h
  cases r with
  | cons i j=>show#[PX I _ _ _ e i,Ds I f j]
section
variable{jR:js}{σ:L2.St}
theorem C1{H:Hp}{s:am}{b:al}(I:ZF X jR σ H s)(h:s.heap.objs.size<=b):b∉frs X.stack:=λz=>by
 let#[_,o,e,_]:=I.stack.mem z;show absurd (zJ e) (zER.mpr h)
theorem D7{g:KT->KT}{T:Hp->KT->V->Prop}{sp:Sp}{x0:Str}{k:Nat}{f D kS:al}{fd:aq}{oD:aI}{H0:Hp}{A:ay}{E:ja}{p:ak->PUnit->Sem (ForInStep PUnit)}{all:jq}(hI:∀ (H c:Hp) (t:KT) (u:V),ZD H c->T H t u->T c t u)(hS:∀ (H:Hp) (u:V) (t:KT) (Q:VK),ZD H0 H->T H t u->(∀ (S:V) (c:Hp),ZE c (g t) S->ZD H c->Q S c)->sp [u] H Q E0)(F:ZI X.prog X.w X.K X.mg X.base ZX k f fd [x0] sp)(hb:Zi X.K fd [x0] [])(hr:ZU k A)(hA:A.frames=X.A.frames)(nD:D∉frs X.stack)(nS:kS∉frs X.stack)(a0:D≠kS)(a4:H0 D=Y')(v:∀ x (s:am) (R:am->Prop),aC (aB X.prog X.w) A (call (.ref f) [x]) (λy h=>∃ (l:jd) (e:Nat),↑l<64/\h.heap.get? kS\seqObj "list" ⇑l e/\R { h with heap:=h.heap.update kS (Obj.mapSeq (·.push y)) }) (λ_ _=>False) s ->
   aC (aB X.prog X.w) A (p x #[]) (λr h=>r=.yield #[]/\R h) E s):
  ∀(r:jd)(rU:je)(P C:jq)(H:Hp)(s:am)(l:jd)(m:je)(e:Nat),all=C++P->↑all<64->ZF X jR σ H s->ZD H0 H->WW X jR H kS->H D=Y'->ZN rU r->Paired (T H) P rU ->
   s.heap.get? D\oD->s.heap.get? kS\seqObj "list" ⇑l e->jK H (C.map g) m->ZN m l ->
   aC (aB X.prog X.w) A (forIn r PUnit.unit p) (λ_ h=>∃(c:Hp)(j:jd)(d:je)(W:Nat),ZF X jR σ c h/\ZD H0 c/\WW X jR c kS/\c D=Y'/\h.heap.get? D\oD/\h.heap.get? kS\seqObj "list" ⇑j W/\jK c (all.map g) d/\ZN d j) E s
 | [],rU,P,C,H,s,l,m,e,ha,hl,I,s0,Y,hD,r,hk,oo,os,B,rk=>by
  cases r;cases hk;rw[xK] at ha;subst ha;rwa[List.forIn_nil,ad #[H,l,m,e,I,s0,Y,hD,oo,os,B,rk]]
 | x::r,rU,P,C,H,s,l,m,e,ha,hl,I,s0,Y,hD,rr,hk,oo,os,B,rk=>by
  cases rr with
  | cons ra rb=>
  rename_i u ur
  cases hk with
  | cons a7 a8=>
  rename_i t P
  rw[zEE];let c5:↑l=↑C:=by
   let a:=↑B;let b:=↑rk;rw[zY] at a
   lia
  let a9:↑C+(↑P+1)<64:=by rw[ha,zS,zV] at hl;lia
  show aa (Z3 (v x s (λh=>∃(c:Hp)(j:jd)(d:je)(W:Nat),ZF X jR σ c h/\ZD H0 c/\ZD H c/\WW X jR c kS/\c D=Y'/\h.heap.get? D\oD/\h.heap.get? kS\seqObj "list" ⇑j W/\jK c ((C++[t]).map g) d/\ZN d j) ?_) λq h M=>?_)
  .let a3:VN X.prog X.w X.K X.mg X.base A X.stack s H:=#[#v[hA,I.ok.frames],I.env0.mod,I.env0.bs,I.env0.bsz,I.env0.funs,I.env0.frf,I.env0.hok,I.env0.bare]
   let c1:sp [u] H (λS c=>ZE c (g t) S/\ZD H c) E0:=hS H u t _ s0 a7 λS c a b=>#[a,b];let r2:ZN [u] [x]:=.cons ra .nil;show wpAny_call (codeAny_mono (F.run A X.stack s H #[[x],[]] [x] [u] _ E0 hr a3 (hb s [x] I.kIn Z) r2 c1) λrr h M=>?_)
   cases rr with
   | error ev=>show M.elim
   | ok fl=>
    cases fl with
    | next=>show False.elim M
    | brk=>show False.elim M
    | cont=>show False.elim M
    | ret y=>
     let#[S,c,O,U,un,c0,rv,kt,sm]:=M;let J:ZF X jR σ c h:=I.call' O un c0 U (λb hb=>absurd hb ⋯)
     let N:=un.keep D oD oo hD nD ⋯
     let a2:=un.keep kS _ os Y.1 nS ⋯
     let a5:c kS=Y':=un.free kS _ os Y.1 ⋯
     let L:c D=Y':=un.free D _ oo hD ⋯
     exists l,e,∅,a2
     let i:WW X jR c kS:=#[a5,Y.2];let ea:(xL l).push y=xL (l++[y]):=by simp
     obtain⟨c2,a6⟩:∃ c2,(h.heap.update kS (Obj.mapSeq (·.push y))).get? kS\seqObj "list" (xL (l++[y])) c2:=#[_,by rwa[<-ea,get?_update_seq a2 (·.push y)]]
     let sb:=xM.update h.heap kS (Obj.mapSeq (·.push y));let J2:ZF X jR σ c { h with heap:=h.heap.update kS (Obj.mapSeq (·.push y)) }:=J.turned (t':=h.toks) (it:=kS) (λb o n q=>(sb.2 b n).trans q) i.1 i.2.1 i.2.2.2.1 i.2.2.2.2.1 i.2.2.2.2.2;show#[c,l++[y],m++[S],c2,J2,s0.trans sm,sm,i,L,(sb.2 D a0).trans N,a6,?_,rk.append (.cons rv .nil)];rwa[yX,(B.sm sm).append (.cons kt .nil)]
  .let#[rfl,c,j,d,W,J,c4,sm,i,L,N,O,a1,c3]:=M;change aC (aB X.prog X.w) A (forIn r PUnit.unit p) _ E h;show D7 hI hS F hb hr hA nD nS a0 a4 v r _ P (C++[t]) c h j d W (by rw[ha];simp) hl J c4 i L rb (Paired.mapP (G:=T c) a8 λ_ _ z=>hI _ _ _ _ sm z) N O a1 c3
end
section
variable{jR:js}{σ:L2.St}{H:Hp}
theorem yz{a:al}{o:HO}(I:ZF X jR σ H s)(l:X.s₀.heap.get? a=Y')(t:a≠X.env.locals)(m:∀ x c,X.env.cells.lookup x\c->c≠a)(y:∀ p∈X.pn++jR,p.1≠a)(v:H a=Y')(h:Zc X.prog X.w (upd H a o) s.heap a o):ZF X jR σ (upd H a o) s:=by
 let g:∀{b:al}{u:HO},H b\u->b≠a:=fun{b u} e z=>by erw[z,v] at e
 show#[I.ok,I.os,I.bare,#[I.base.keep,I.base.slot,λb i q n A=>?_,I.base.there,λb k q=>?_,λb i u q=>?_,λb B q=>?_],I.loc,I.cell,?_,λx c e=>?_,λp d=>?_,λb u e=>?_,I.len]
 .rwa[ZT (λz=>by erw[z,l] at q),I.base.free b i q n A]
 .let e:=I.base.tups b k q;rwa[ZT (g e),e]
 .let e:=I.base.frzs b i u q;rwa[ZT (g e),e]
 .let#[f,e]:=I.base.tbls b B q;show#[f,#v[ZT (g e),e]]
 .rwa[ZT (Ne.symm t),I.free]
 .rwa[ZT (m x c e),I.freeC x c e]
 .let#[e,n,r]:=I.pin p d;show#[e,#v[ZT (y p d),n],r]
 .by_cases j:b=a
  .subst j;erw[ZY] at e;show h
  .rw[ZT j] at e;show(I.hok b u e).stay (λ_ _ _ q=>q) (λc q=>#v[ZT (g q),q]) λc k q=>#v[ZT (g q),q]
theorem ZN.getD{b:je}{a:jd}(r:ZN b a){i:Nat}(h:i<↑b):ZQ (b.getD i .non) (a.getD i Value.none):=by
 let e:=↑r;let#[u,c,d]:=r.get (i:=i) (x:=b[i]) (by simp[h])
 rwa[zO,zO,c,zU h,d]
theorem Bk{b:je}{a:jd}(r:ZN b a):∀(l:jo),(∀ i∈l,i<↑b)->ZN (l.map λi=>b.getD i .non) (l.map λi=>a.getD i Value.none)
 | [],_=>.nil
 | i::l,h=>.cons (ZN.getD r (h i zQ)) (Bk r l λj c=>h j (zM _ c))
theorem Dn{F:KT->V->Prop}{c:jq}{a:je}(e:Paired F c a):∀(l:jo),(∀ i∈l,i<↑a)->Paired F (l.map λi=>c.getD i (.int 0)) (l.map λi=>a.getD i .non)
 | [],_=>.nil
 | i::l,h=>by
  let d:=h i zQ;let#[t,f,k]:=UH e (i:=i) (b:=a[i]) (by simp[d])
  show .cons (show F (c.getD i (.int 0)) (a.getD i .non) from ?_) (Dn e l λj g=>h j (zM _ g));rwa[zO,zO,f,zU d,k]
theorem range_getD{a:Type}(l:List a)(d:a):(zG ↑l).map (λi=>l.getD i d)=l:=by
 apply List.ext_getElem
 .simp
 .intro i c b;simp[b]
theorem kr{g:KT->KT}{IT:Hp->KT->V->Prop}{sp:Sp}(hg:Kg g)(dg:∀ t,(g t).depth<=2 * t.depth+2){x0:Str}{k:Nat}{f:al}{lv:ak}{fd:aq}{us:je}{C:jq}{Q:VK}(hr:ZU (k+2) X.A)(F:ZI X.prog X.w X.K X.mg X.base ZX k f fd [x0] sp)(hb:Zi X.K fd [x0] [])(I0:ZF X jR σ H s)(hI:∀ (H h:Hp) (t:KT) (u:V),ZD H h->IT H t u->IT h t u)(hS:∀ (h:Hp) (u:V) (t:KT) (Q:VK),ZD H h->IT h t u->(∀ (v':V) (H2:Hp),ZE H2 (g t) v'->ZD h H2->Q v' H2)->sp [u] h Q E0)(hk:Paired (IT H) C us)(hf:∀ t∈C,t.fits 3=V')(i5:↑us<64)(c6:∀ (Q':jd->am->Prop),(∀ (s1:am) (c:jd),ZF X jR σ H s1->ZN us c->Q' c s1)->aC (aB X.prog X.w) X.A.in1 (collect lv) Q' X.xe s)(q:∀ (D:al) (ws:je) (rs:jq) (h:Hp),ZD H h->H D=Y'->h D\.lst ws->Paired (IT h) rs ws->rs.Perm C->rs.Pairwise (λa b=>b.lt a=false)->Q (.ref D) h):
  aC (aB X.prog X.w) X.A (call (.builtin "sorted") [lv] [(zX "key",.ref f)]) (EP X jR σ Q) X.xe s:=by
 let i6:=Paired.length hk;let e2:ZU k X.A.in1.in1:=(ZU.in1 (k:=k+1) hr).in1;show call_function_entry_kw kind_sorted plain_sorted entry_sorted (ksk_s1 _ _) ?_;unfold Builtin.«sorted»;show aa (m:=checkCount "sorted" 1 1 _) (ad ?_);show aa (c6 _ λs c I rv=>?_);let i4:=↑rv;show aa (wpAny_newList ?_ (by rw[sizeLine_eq];lia))
 obtain⟨L,U⟩:∃ L,s.heap.push (seqObj "list" ⇑c 0)=L:=#[1];let N:L.get? s.heap.objs.size\seqObj "list" ⇑c 0:=by rwa[<-U,yO _ Z]
 let e3:∀ b o,s.heap.get? b\o->L.get? b\o:=λb o z=>by rwa[<-U,zL _ z]
 let i2:L.objs.size=s.heap.objs.size+1:=by rw[<-U,size_push']
 obtain⟨D,eD⟩:∃ D,s.heap.objs.size=D:=#[1];rw[eD] at N;let Y:s.heap.objs.size<=D:=∅
 let a0:H D=Y':=I.hok.fresh Y;let E:WW X jR H D:=I.fpOk Y a0;let nD:D∉frs X.stack:=C1 I Y;let e6:X.s₀.heap.get? D=Y':=tG (zK I.sz Y);let I1:ZF X jR σ H { s with heap:=L }:=I.kept (t':=s.toks) e3;change aC _ _ _ _ _ { s with heap:=s.heap.push (seqObj "list" ⇑c 0) };rw[U,eD];show aa (af (wpAny_call_entry_kw slot_list_sort #[_,N,Z] entry_list_sort ?body (ksk_l1 _ _)));rw[ksk_t1];unfold ksk_tree;show aa (listItems_at N Z ?_);show aa (listUpdate_at N Z ?_ (by rw[zB,sizeLine_eq];lia) (yQ _))
 let e5:=xM.update L D (Obj.mapSeq λ_=>(⇑[]:jw));obtain⟨e1,c0⟩:∃ e1,(L.update D (Obj.mapSeq λ_=>(⇑[]:jw))).get? D\seqObj "list" ⇑[] e1:=#[_,get?_update_seq N λ_=>⇑[]];obtain⟨B,a5⟩:∃ B,L.update D (Obj.mapSeq λ_=>(⇑[]:jw))=B:=#[1];rw[a5] at c0 e5;change aC _ _ _ _ _ { s with heap:=L.update D (Obj.mapSeq λ_=>(⇑[]:jw)) };rw[a5];let I2:ZF X jR σ H { s with heap:=B }:=ZF.turned (s:={ s with heap:=L }) (t':=s.toks) (it:=D) I1 (λb o n z=>(e5.2 b n).trans z) E.1 E.2.1 E.2.2.2.1 E.2.2.2.2.1 E.2.2.2.2.2;show aa (seqEpoch_at c0 Z ?_);show aa (wpAny_newTuple ?_ (by change ↑c<=_;rw[sizeLine_eq];lia))
 show aa (wpAny_newList ?_ (yQ _));show af ?_;let i3:B.objs.size=s.heap.objs.size+1:=by rw[<-a5,Heap.size_update,i2]
 obtain⟨h3,a6⟩:∃ h3,(B.push (seqObj "tuple" ⇑c 0)).push (seqObj "list" ⇑[] 0)=h3:=#[1];let a7:(B.push (seqObj "tuple" ⇑c 0)).objs.size=s.heap.objs.size+2:=by rw[size_push',i3]
 let O:∀ b o,B.get? b\o->h3.get? b\o:=λb o z=>by rwa[<-a6,zL _ (zL _ z)]
 let c8:h3.get? (s.heap.objs.size+2)\seqObj "list" (xL []) 0:=by rwa[<-a6,<-a7,yO _ Z]
 obtain⟨l,c4⟩:∃ l,s.heap.objs.size+2=l:=#[1];rw[c4] at c8 a7;let a8:s.heap.objs.size<=l:=∅
 let c5:D≠l:=∅
 let e8:H l=Y':=I.hok.fresh a8;let fS:WW X jR H l:=I.fpOk a8 e8;let nS:l∉frs X.stack:=C1 I a8;let I3:ZF X jR σ H { s with heap:=h3 }:=I2.kept (t':=s.toks) O;change aC _ _ (ksk_rest D (.ref f) false ⇑c e1 (.ref (B.push (seqObj "tuple" ⇑c 0)).objs.size)) _ _ { s with heap:=(B.push (seqObj "tuple" ⇑c 0)).push (seqObj "list" ⇑[] 0) };rw[a6,a7];let y:∀(h:Hp)(d:am)(P:jd)(S:je)(e:Nat),ZF X jR σ h d->ZD H h->WW X jR h l->h D=Y'->d.heap.get? D\seqObj "list" ⇑[] e1->d.heap.get? l\seqObj "list" ⇑P e->jK h (C.map g) S->ZN S P ->
   aC (aB X.prog X.w) X.A.in1.in1 (ksk_end D false ⇑c e1 (.ref l) ⇑P) (λy d=>∃ v,y=.done (.ret v)/\aC (aB X.prog X.w) X.A.in1 (ret (.ref D)) (λy d=>∃ v,y=.done (.ret v)/\EP X jR σ Q v d) X.xe d) X.xe d:=by
  intro h d P S e J sm fp M oo os a1 rk;let a2:↑P=↑c:=by
   let a:=↑a1;let b:=↑rk;rw[zY] at a
   lia
  let sv:Y1 g d.heap C P:=Ds J a1 rk;let a4:∀(st:SortSt)(p:jA),Srt.PB ↑c p->(∀ i j,i<=j->j<↑c->(C.getD (p.getD j 0) (.int 0)).lt (C.getD (p.getD i 0) (.int 0))=false)->(arrOf st).map (·.2)=xL (p.toList.map λi=>c.getD i Value.none)->failedOf st=Y' ->
    aC (aB X.prog X.w) X.A.in1.in1 (ksk_tail D false e1 (.ref l) st) (λy d=>∃ v,y=.done (.ret v)/\aC (aB X.prog X.w) X.A.in1 (ret (.ref D)) (λy d=>∃ v,y=.done (.ret v)/\EP X jR σ Q v d) X.xe d) X.xe d:=by
   intro st p hp hs c9 a9;let e0:=hp.size;let a3:∀ i∈p.toList,i<↑us:=λi hi=>by
    have:i∈(xL (zG ↑c)):=hp.mem_iff.mp (zEd.mp hi);have:=(yZ.mp (by simpa using this):i<↑c)
    lia
   let c1:↑p.toList=↑c:=by rw[rG,e0]
   let s1:=xM.update d.heap l (Obj.mapSeq λ_=>(⇑[]:jw));let e7:D≠l:=∅
   let c3:=(s1.2 D e7).trans oo;let s2:=xM.update (d.heap.update l (Obj.mapSeq λ_=>(⇑[]:jw))) D (Obj.mapSeq λ_=>xL (p.toList.map λi=>c.getD i Value.none));obtain⟨c2,e9⟩:∃ c2,((d.heap.update l (Obj.mapSeq λ_=>(⇑[]:jw))).update D (Obj.mapSeq λ_=>xL (p.toList.map λi=>c.getD i Value.none))).get? D\seqObj "list" (xL (p.toList.map λi=>c.getD i Value.none)) c2:=#[_,get?_update_seq c3 λ_=>xL (p.toList.map λi=>c.getD i Value.none)];unfold ksk_tail;dsimp only;rw[c9,aO zR];show aa (listUpdate_at os Z ?_ (by rw[zB,sizeLine_eq];lia) (yQ _))
   show aa (wpAny_letGo ?_);show aa (seqEpoch_at c3 Z ?_);show aa (listUpdate_at c3 Z ?_ (yQ _) (by rw[zB,zY,c1,sizeLine_eq];lia))
   rw[a9];simp only[bne_self_eq_false,vZ,if_false];let J1:ZF X jR σ h { d with heap:=d.heap.update l (Obj.mapSeq λ_=>(⇑[]:jw)) }:=J.turned (t':=d.toks) (it:=l) (λb o n z=>(s1.2 b n).trans z) fp.1 fp.2.1 fp.2.2.2.1 fp.2.2.2.2.1 fp.2.2.2.2.2;let J2:ZF X jR σ h { d with heap:=(d.heap.update l (Obj.mapSeq λ_=>(⇑[]:jw))).update D (Obj.mapSeq λ_=>xL (p.toList.map λi=>c.getD i Value.none)) }:=ZF.turned (s:={ d with heap:=d.heap.update l (Obj.mapSeq λ_=>(⇑[]:jw)) }) (t':=d.toks) (it:=D) J1 (λb o n z=>(s2.2 b n).trans z) M E.2.1 E.2.2.2.1 E.2.2.2.2.1 E.2.2.2.2.2;let J3:=yz (a:=D) (o:=.lst (p.toList.map λi=>us.getD i .non)) J2 e6 E.2.1 E.2.2.2.2.1 E.2.2.2.2.2 M #[by rw[zY,c1,sizeLine_eq];lia,_,c2,Bk rv _ a3,e9]
   let g:=Zr M (.lst (p.toList.map λi=>us.getD i .non));show ad #[.none,Z,ad #[1,.ref D,_,J3,Z,q D _ (p.toList.map λi=>C.getD i (.int 0)) _ (sm.trans g) a0 ZY (Dn (Paired.mapP (G:=IT _) hk λ_ _ z=>hI _ _ _ _ (sm.trans g) z) _ a3) ?_ ?_]]
   .let i0:p.toList.Perm (zG ↑c):=by simpa using Array.perm_iff_toList_perm.mp hp
    have:=i0.map (λi=>C.getD i (KT.int 0));rw[show ↑c=↑C by lia,range_getD] at this
    show this
   .rw[List.pairwise_iff_getElem];intro i j hi hj c7;rw[zY,c1] at hi hj;simp only[List.getElem_map];have:=hs i j (yK c7) hj;let e (x:Nat) (hx:x<↑c):p.getD x 0=p.toList[x]'∅:=by simp[Array.getD,e0,hx]
    rw[e i hi,e j hj] at this;show this
  unfold ksk_end;dsimp only;rw[aO zR,aO zR];by_cases B:↑c<2
  .rw[aP #v[zB,B],aP #v[zB,B]]
   show aa (ad (aa (ad ?_)));show a4 _ (xL (zG ↑c)) (Array.Perm.refl _) (λi j c7 hj=>?_) ?_ Z
   .have:i=j:=∅
    rwa[this,Oo _]
   .change ((P.toArray.zip ⇑c).map (·.2))=_;apply uO.mp;rw[Array.toList_map,ksk_zip];simp only[List.toList_toArray];rw[range_getD,List.map_snd_zip ∅]
  .rw[aO #v[zB,B],aO #v[zB,B]]
   show aa (yn hg ∅ sv ?_)
   show aa (Z3 (R8 hg (Q:=λT e4=>e4=d/\∃ p:jA,Srt.PB ↑c p/\(∀ i j,i<=j->j<↑c->(C.getD (p.getD j 0) (.int 0)).lt (C.getD (p.getD i 0) (.int 0))=false)/\arrOf T=p.map (PySem.W.kas_item (P.toArray.zip ⇑c))/\failedOf T=Y')
    a2 ∅ ∅ sv (λt ht=>?_) λp T b1 b2 b3 b4=>#[Z,p,b1,b2,b3,b4]) λr e4 i1=>?_)
   .let a:=e2.un;let d1:=dg t;let d2:=UO t 3 (hf t ht)
    lia
   .let#[#[],T]:=r;let#[rfl,p,b1,b2,b3,b4]:=i1;show a4 T p b1 b2 (PySem.W.kat_snds a2 b3) b4
 unfold ksk_rest;show aa (aj ?_)
 first
  | rw[List.forIn_toArray]
  | (rw[<-qY];simp only[List.toList_toArray])
 show aa (Z3 (D7 (all:=C) (H0:=H) (D:=D) (kS:=l) hI hS F hb e2 Z nD nS c5 a0 (λx s4 R hx=>?_) c us C [] H { s with heap:=h3 } [] [] 0 Z ∅ I3 (ZD.refl H) fS a0 rv hk (O _ _ c0) c8 .nil .nil) λ_ s4 h4=>?_)
 .show aa (wpAny_attempt (ae hx (λkv s5 h5=>?_) λ_ _ z=>z.elim));let#[P,e,i7,o5,R5]:=h5
  try dsimp only
  show aa (listUpdate_at o5 Z ?_ (by rw[zB,sizeLine_eq];lia) (zK (uU (Array.size_push ..)) (by rw[zB,sizeLine_eq];lia)))
  show ad #[Z,R5]
 .let#[h,P,S,e,J,sm,fp,M,oo,os,a1,rk]:=h4
  try dsimp only
  show aa (listItems_at os Z (y h s4 P S e J sm fp M oo os a1 rk))
theorem EB{H:Hp}:∀{a:jq}{b:je},jK H a b->(∀ t∈a,t.fits 3=V')->Paired (λt u=>ZE H t u/\t.fits 3=V') a b
 | [],b,h,_=>by rw[jK] at h;subst h;show .nil
 | t::a,b,h,hf=>by
  rw[jK] at h;let#[v,r,rfl,c,d]:=h;show .cons #[c,hf t zQ] (EB d λt e=>hf t (zM _ e))
theorem EL{H:Hp}{G:KT->Prop}:∀{a:jq}{b:je},Paired (λt u=>ZE H t u/\G t) a b->jK H a b
 | _,_,.nil=>.nil
 | _,_,.cons h r=>.cons h.1 (EL r)
theorem kR{g:KT->KT}(G:Kg g)(B:∀ t,(g t).depth<=2 * t.depth+2){y:Str}{k:Nat}{f:al}{v:ak}{p:aq}{n:je}{m:jq}{Q:VK}(L:ZU (k+2) X.A)(F:ZI X.prog X.w X.K X.mg X.base ZX k f p [y] (Nj g))(E:Zi X.K p [y] [])(z:ZF X jR σ H s)(I:jK H m n)(r:∀ t∈m,t.fits 3=V')(l:↑n<64)(d:∀ (o:jd->am->Prop),(∀ (x:am) (e:jd),ZF X jR σ H x->ZN n e->o e x)->aC (aB X.prog X.w) X.A.in1 (collect v) o X.xe s)(q:∀ (D:al) (j:je) (i:jq) (c:Hp),ZD H c->H D=Y'->c D\.lst j->jK c i j->i.Perm m->i.Pairwise (λa b=>b.lt a=false)->Q (.ref D) c):
  aC (aB X.prog X.w) X.A (call (.builtin "sorted") [v] [(zX "key",.ref f)]) (EP X jR σ Q) X.xe s:=
 kr (IT:=λH t u=>ZE H t u/\t.fits 3=V') G B L F E z (λ_ _ _ _ P h=>#[h.1.sm P,h.2]) (λc u t Q _ h k=>#[u,t,Z,h.1,h.2,k]) (EB I r) r l d λD j i c O M C J N R=>q D j i c O M C (EL J) N R
end
end Tw
namespace L2
open PySem PySem.Spec PyProof.Rows
section
variable{T:String}{r d:al}{n:Nat}{P:Nat->ak->Prop}{OK:aE->Prop}
theorem pF{R:Result->am->Prop}(K:qD prog w T r d n P OK)(l:A.handled=Y')(h:OK s.heap)(S:al)(g:S≠r)(f:S≠d)(c:Nat)(k:s.heap.get? S\{ cls:=.type "list",data:=.seq ⇑[] c })(j:∀ e p a i,(∀ b o,b≠S->s.heap.get? b\o->e.get? b\o)->e.get? S\{ cls:=.type "list",dict:=Y',data:=.seq a i,slots:=⇑[] }->ItemsOf P a n->R (.ok (.ret (.ref S))) { s with heap:=e,toks:=p })(m:n<=au):
  codeAny (aB prog w) A (.builtin "list.__iadd__" #[[.ref S,.ref r],[]]) R s:=by
 show codeAny_builtin PySem.F.entry_list_iadd ?_;rwa[Around.under_plainId zEH _,PySem.W.kdl_extend (R:=R) K l h S g f (.ref S) c k j m]
theorem kA{Q:jd->am->Prop}(K:qD prog w T r d n P OK)(q:A.handled=Y')(j:OK s.heap)(u:n<=au)(m:∀ f k a,(∀ b o,s.heap.get? b\o->f.get? b\o)->s.heap.objs.size<f.objs.size->ItemsOf P a n->Q a.toList { s with heap:=f,toks:=k }):aC (aB prog w) A (collect (.ref r)) Q E s:=by
 let i:=K.there _ j;unfold collect;show aa (wpAny_runValue (codeAny_builtin PySem.F.entry_proto_collect ?_));rw[Around.under_plainId PySem.F.plain_proto_collect _];change aC _ A.in1 (newList [] >>= λl=>again (.builtin "list.__iadd__" #[[l,.ref r],[]])) _ _ s;show aa (wpAny_newObj_type ?_);let p:(s.heap.push { cls:=.type "list",data:=.seq ⇑([]:jd) }).get? s.heap.objs.size\{ cls:=.type "list",data:=.seq ⇑[] 0 }:=yO _ Z;show ad #[plainId_quiet zEH _,pF (s:={ s with heap:=s.heap.push { cls:=.type "list",data:=.seq ⇑([]:jd) } }) K q (K.keep _ _ j λb _ o e=>zL _ e) s.heap.objs.size (rY i.1) (rY i.2) _ p (λf k c v t g h=>?_) u];change aC _ A (load s.heap.objs.size >>= _) _ _ _;show aa (wpAny_load g ?_);show ad (m f k c (λb o e=>t b o (yU (zJ e)) (zL _ e)) (zJ g) h)
end
end L2
namespace Tw
open PySem PySem.Spec L2 PyProof.Rows
def Vf(d:al)(b:Array DictEntry)(a:Nat)(h:aE):Prop:=∃ o,h.get? d\o/\o.ExactDict/\o.data=.dict b a
section
variable{d:al}{es:Array DictEntry}{ep:Nat}
theorem Vf.type(x:Vf d es ep s.heap):s.TypeIs (.ref d) "dict" :=let #[o,g,hx,_]:=x;#[o,g,hx.1]
theorem Vf.at{h a:aE}(x:Vf d es ep h)(k:∀ o,h.get? d\o->a.get? d\o):Vf d es ep a:=let #[o,g,r]:=x;#[o,k o g,r]
theorem pI{Q:ja}(f:(d==sysModules)=false)(x:Vf d es ep s.heap)(e:Q (.ref s.heap.objs.size) { s with heap:=s.heap.push { cls:=.type "dict_keyiterator",data:=.fields ⇑[.ref d,.int 0 0,.int es.size 0,.int ep 0] } }):
  aC (aB prog w) A (pyIter (.ref d)) Q E s:=by
 let b:=x.type;let#[o,c,g,a]:=x;show wpAny_pyIter_slot b zEM (wpAny_call_entry zEM b PySem.F.entry_dict_iter ?_ (PySem.F.args_dict_iter_1 _));unfold Builtin.«dict.__iter__»;show aa ?_;unfold Builtin.Dict.dictSlotNone;show aa (wpAny_notOrdered_dict b (ad ?_));change aC _ _ (Builtin.Dict.showsAll d >>= _) _ _ s;unfold Builtin.Dict.showsAll;rw[aO #v[f,zR]]
 show aa (ad (aa (wpAny_dictEntries c a (aa (wpAny_dictEpoch c a ?_)))));show aa (wpAny_newObj_type (ad #[_,Z,"dict_keyiterator",_,#[_,yO _ Z,Z],pY.lookup,e]))
theorem Dv{f:al}{i:Nat}{Q:jc->am->Prop}(v:A.handled=Y')(c:s.heap.IsKeyIter f d i es.size ep)(x:Vf d es ep s.heap)(t:∀ e h,es[i]?\e->h.IsKeyIter f d (i+1) es.size ep->xM f s.heap h->Q (Z' e.key) { s with heap:=h })(r:∀ h,es[i]? = Y'->Heap.ExtBut f s.heap h->Q Y' { s with heap:=h }):aC (aB prog w) A (pyNext (.ref f)) Q E s:=by
 let#[o,p,u,j]:=id c;let#[z,l,y,k]:=x;unfold pyNext;show aa (wpAny_attempt (wpAny_callSpecial?_slot (name:=zX "__next__") c.typeIs pY (wpAny_call_entry pY c.typeIs PySem.F.entry_dict_keyiterator_next ?_ (PySem.F.args_dict_keyiterator_next_1 _))));show aa (ad (aa (aa ?_)))
 first | show aa (wpAny_typeNameOfWhole_keyiter c.typeIs (ad ?_)) | show aa (wpAny_typeNameOf_keyiter c.typeIs (ad ?_))
 show aa (wpAny_fieldsOf p j ?_);let n:Builtin.Dict_items.ownsTuple "dict_keyiterator" = false:=by decide
 simp only[n,vZ,if_false];change aC _ _ (if (Value.ref d==Value.none)=V' then _ else _) _ _ s
 rw[aO (show ¬ ((Value.ref d==Value.none)=V') from zR)];show aa (ad (aa (wpAny_dictEntries l k ?_)));rw[aO ⋯]
 show aa (ad (aa (wpAny_dictEpoch l k ?_)));rw[aO ⋯]
 show ad ?_;simp only[show ¬ ((i:Int)<0) from by lia,if_false,tO]
 cases q:es[i]? with
 | some e=>
  show aa ?_
  first | show aa (wpAny_typeNameOfWhole_keyiter c.typeIs (ad ?_)) | show aa (wpAny_typeNameOf_keyiter c.typeIs (ad ?_))
  show aa (wpAny_isOneOf_keyiter c.typeIs ?_);change aC _ _ (setField (.ref f) 1 (rawInt ((i:Int)+1)) >>= _) _ _ s;show aa (wpAny_setField p j ⋯ ?_)
  let g:(s.heap.update f (Obj.mapFields (·.setIfInBounds 1 (rawInt ((i:Int)+1))))).IsKeyIter f d (i+1) es.size ep:=
   #[_,wI _ p (Obj.isFreed_of_fields (Obj.data_mapFields j _)),(Obj.cls_mapFields ..).trans u,by rw[Obj.data_mapFields j];simp[rawInt]]
  show aa (af (aa (wpAny_isOneOf_keyiter (s:={ s with heap:=s.heap.update f (Obj.mapFields (·.setIfInBounds 1 (rawInt ((i:Int)+1)))) }) g.typeIs ?_)));change aC _ _ (pure e.key) _ _ _;show ad (ad #[1,ad (t e _ q g (xM.update ..))])
 | none=>
  show aa ?_
  first | show aa (wpAny_typeNameOfWhole_keyiter c.typeIs (ad ?_)) | show aa (wpAny_typeNameOf_keyiter c.typeIs (ad ?_))
  change aC _ _ (setField (.ref f) 0 .none >>= _) _ _ s;show aa (wpAny_setField p j ⋯ ?_)
  change aC _ _ (newExc (.type "StopIteration") [] >>= _) _ _ _;show aa ?_;simp only[newExc,newTuple];show aa (wpAny_newObj_type ?_ (by size_fits))
  show aa (m:=firstArgMember _ _) (wpAny_of_eq (a:=Value.none) (by first | rfl | (simp only[firstArgMember];rfl)) (wpAny_newObj_type ?_ (by size_fits)))
  simp only[raiseNew];show aa (wpAny_handled ?_);rw[show A.in1.handled=Y' from v];show aa (ad (wpAny_throw ?_));show aa (wpAny_isInstance (T:= "StopIteration") (b:=true) #[_,yO _ Z,Z] isSubtype_stop ?_);show ad (r _ q (((xM.update ..).extBut.push _).push _))
theorem nJ(m:A.handled=Y')(I:al)(l:d≠I):Walks prog w A I [I,d] [I] es.size (λi v=>(es[i]?).map (·.key)\v) (λi h=>h.IsKeyIter I d i es.size ep/\Vf d es ep h) where
 sub:=λb f=>by simp at f;simp[f]
 frame:=λ_ _ _ a n=>#[a.1.at λo e=>n I ⋯ o e,a.2.at λo e=>n d ⋯ o e]
 item:=λi s Q E r a j=>by
  show Dv m a.1 a.2 (λe g c k p=>?_) (λg c=>by erw[wV r] at c)
  show j e.key g s.toks (by rw[c];rfl) #[k,a.2.at λo z=>(p.2 d l).trans z] λb o f e=>(p.2 b (λh=>f (by simp[h]))).trans e
 done:=λs Q E a j=>by
  show Dv m a.1 a.2 (λe g c=>by erw[Array.getElem?_eq_none (zW _)] at c) (λg _ q=>?_)
  show j g s.toks λb o f e=>q b o (λh=>f (by simp[h])) e
 self:=λ_ _ _ _ a j=>wpAny_pyIter_keyiter a.1 j
theorem vt(f:(d==sysModules)=false):qD prog w "dict" d d es.size (λi v=>(es[i]?).map (·.key)\v) (Vf d es ep) where
 type:=λ_ x=>x.type
 there:=λ_ x=>by let#[o,g,_]:=x;show#[zJ g,zJ g]
 keep:=λ_ _ x c=>x.at λo e=>c d (.inl Z) o e
 notList:=by decide
 notTuple:=by decide
 hint:=λ_ _ _ _ x a=>PySem.W.kdl_hint_dict x.type a
 iter:=λ_ s b x=>#[_,_,(λ_ _ a=>pI f x a),nJ b _ (by let#[o,g,_]:=x;show yU (zJ g)),#[#[_,yO _ Z,Z,Z],x.at λo e=>zL _ e]]
end
section
variable{jR:js}{σ:L2.St}{H:Hp}
theorem lC{w:ax}{k:List (KT×V×V)}{d:Array DictEntry}{c:jw}(r:Paired (N1 w) k d.toList)(h:ItemsOf (λi v=>(d[i]?).map (·.key)\v) c d.size):ZN (k.map (·.2.1)) c.toList:=by
 let p:=Paired.length r;let o:↑c.toList=d.size:=by have:=h.1;simpa using this
 show Ji (by rw[zY,o,p];simp) λi a b g j=>?_
 rw[zF] at g;let#[z,n,rfl]:=wP.mp g;rw[uX] at j;have:=h.2 i b j;let#[e,m,rfl]:=wP.mp this;let#[q,f,l]:=UH r #v[uX,m]
 erw[n] at f;show l.2.1
theorem mE{d:al}{i:List (KT×V×V)}{Q:jd->am->Prop}(n:A.handled=Y')(I:ZF X jR σ H s)(x:Xr X.w H d i)(l:∀ (h:am) (c:jd),ZF X jR σ H h->ZN (i.map (·.2.1)) c->Q c h):aC (aB X.prog X.w) A (collect (.ref d)) Q E s:=by
 let#[u,k,g]:=x.ex;let#[#[b,f,o,j,p,q,m],_]:=I.hok d _ k;show kA (vt (ep:=j) b) n #[o,p,q,m] f λv t e r _ a=>?_;show l _ e.toList (I.kept (t':=t) r) (lC g a)
end
theorem lP:az "sorted" = Z' (.builtin "sorted"):=by decide +kernel
def zf:TE:=λ_ H Q=>∀(p:al)(a:Hp),H p=Y'->ZA p H a->ZD H a->Xr X.w a p []->Q (.ref p) a
theorem si{c:aJ}:PE X (.Dict [] [] c) (zf (X:=X)):=λf s i H Q I h=>by
 let d:=I.hok.fresh (zW s.heap.objs.size);show wpAny_Dict_empty #[.ref s.heap.objs.size,_,I.laid (a:=s.heap.objs.size) (o:=Mu s.heap.objs.size ⇑[]) (t':=s.toks) (λ_ _ q=>zL _ q) (zW _) (BW (beq_eq_false_iff_ne.mpr (Ne.symm (yU I.big))) (yQ _) #[_,(0),yO _ Z,#[Z,Z,Z],Z]),Z,?_];show h _ _ d (λb o e n=>#v[ZT n,e]) (Zr d _) #[#[⇑[],ZY,.nil],λz g=>by simp at g,.nil]
inductive Ni(w:ax)(D:YX)(e:L2.St)(v x y:V)(b:Hp):Prop
 |mk(a:al)(d:List (KT×V×V))(t:KT)(_:x=.ref a)(_:Xr w b a d)(_:↑d<1000)(_:ZE b t y)(_:t.depth<=3)(_:∀ c,ZA a b c->Xr w c a (Pq d t y v)->D.nx e c)
def Rj(w:ax)(e g f:TE):TS:=λD a H=>f a H λv b=>e a b λx c=>g a c λy d=>Ni w D a v x y d
theorem wa{o i b:Expr}{e d:aJ}{k m l:TE}(M:X.A.units+4<cLine)(K:PE X o k)(J:PE X i m)(N:PE X b l)(L:swapsWith b (Z' (.Subscript o i d)) e.line X.env=pure false):
  PS X (.Assign [.Subscript o i d] b e) (Rj X.w k m l):=by
 intro c s f H D I h;show wpAny_Assign_Subscript (Z8 (N c s f H _ I h) λr W v n q T Q=>Z8 (K c W f n _ q Q) λu Y x p z U R=>Z3 (J c Y f p _ z R) λiv s3 ⟨y,H3,B,V,a,xs,t,G,E,P,O,F,S⟩=>?_) L;subst G;obtain rfl:u=Value.ref a:=U;show Rz M B E P O F V T λs4 j C sx g=>#[f,j,C,S j sx g]
def RN(g:jq)(e:Hp)(Q:VK):Prop:=∀(D:al)(f:je)(d:jq)(c:Hp),ZD e c->e D=Y'->c D\.lst f->jK c d f->d.Perm g->d.Pairwise (λa b=>b.lt a=false)->Q (.ref D) c
inductive Px(w:ax)(Q:VK)(c:je)(b:Hp):Prop
 |mk(d:al)(a:List (KT×V×V))(_:c=[.ref d])(_:Xr w b d a)(_:∀ x∈a,x.1.fits 3=V')(_:↑a<64)(_:RN (a.map (·.1)) b Q)
def zq(w:ax)(t:TA):TE:=λc H Q=>t c H λb a=>Px w Q b a
theorem ou{g:KT->KT}(hg:Kg g)(U:∀ t,(g t).depth<=2 * t.depth+2){k:Nat}{p a O E:aJ}{e:Expr}{x x0:Str}{t:TA}(S:ZC X.prog X.w X.K X.mg X.base k x [x0] (Nj g))(N:ZU (k+2) X.A)(B:Gl X "sorted")(hm:X.mg "sorted" = Y')(C:Gl X x)(ha:PA X [e] t)(y:(x==("__debug__" : Str))=false:=by decide)(he:aG a (aw [e] X.env)=(false,aH e X.env)::aG a (aw [] X.env):=by rfl)(c:(aG a (aw [e] X.env)).any (·.1)=false:=by rfl):
  PE X (.Call (.Name "sorted" p) [e] [#[Z' (zX "key"),.Name x E,O]] a) (zq X.w t):=by
 intro i s R H Q I h;let#[f,fd,F,b,a0,m]:=S.ex;show ah (NA I B hm lP (callWith_kw (Z3 (ha a i s R H _ I h) λus s1 ⟨vs,J,T,r,d,l,V,o,M,j,q⟩=>?_) he c));let pk:PK X [#[Z' (zX "key"),.Name x E,O]] (YI (tC (.ref f)) V0):=ux (Xo (v:=.ref f) (pos:=E) C m Z y) L';show Z3 (pk a i s1 R J (λP n=>P=[.ref f]/\n=J) T #[Z,Z]) ?_;rintro P s2 ⟨zv,n,L,rz,Y,W⟩;subst V Y W;let#[u,rfl,ru]:=UG r;let#[u2,rfl,G]:=UG rz;cases ru;cases G;let ka:jK n (l.map (·.1)) (l.map (·.2.1)):=by
  have:=o.key;clear q j M o
  induction l with
  | nil=>show .nil
  | cons z l ih=>show .cons (this z (zQ ..)).1 (ih λz D=>this z (zM _ D))
 show kR hg U N F b L ka (λt ht=>by let#[z,D,rfl]:=zA.mp ht;show M z D) #v[zY,j] (λQ' hq=>mE N.hd L o hq) q
end Tw
namespace L2
open PySem PySem.Spec PyProof.Rows
section
variable{jR:js}{σ:St}{H:Hp}
end
end L2
namespace Tw
open PySem PySem.Spec L2 PyProof.Rows
mutual
theorem ZO.keep{h h':aE}(k:∀ b o,h.get? b\o->h'.get? b\o):∀(t:KT)(v:ak),ZO h t v->ZO h' t v
 | .int i,v,x=>by rw[ZO] at x⊢;show x
 | .str i,v,x=>by rw[ZO] at x⊢;show x
 | .tup l,v,x=>by
  rw[ZO] at x⊢;let#[a,its,e,#[o,g,r],e2]:=x;show#[a,its,e,#[o,k _ _ g,r],jL.keep k l its e2]
theorem jL.keep{h h':aE}(k:∀ b o,h.get? b\o->h'.get? b\o):∀(l:jq)(vs:jd),jL h l vs->jL h' l vs
 | [],vs,x=>by rw[jL] at x⊢;show x
 | t::l,vs,x=>by
  rw[jL] at x⊢;let#[v,r,e,e1,e2]:=x;show#[v,r,e,ZO.keep k t v e1,jL.keep k l r e2]
end
section
variable{jR:js}{σ:L2.St}{H:Hp}
end
section
variable{o i e f:Expr}{pos jh jg:aJ}{td ty tx:TE}
end
section
variable{jR:js}{σ:L2.St}{H:Hp}{s0:am}
end
end Tw
namespace Tw
open PySem PySem.Spec L2
def RB(N:al->Prop)(H:Hp)(n:String)(v:V):Prop:=
 (n = "bool" /\ ∃ b,v=.bl b)\/(n = "NoneType" /\ v=.non)\/(n = "list" /\ ∃ a d,v=.ref a/\H a\.lst d/\¬ N a)\/(n = "dict" /\ ∃ a c,v=.ref a/\H a\.dK c/\¬ N a)
mutual
def XD(N:al->Prop)(H:Hp):TG->V->Prop
 | .int i,v=>v=.int i
 | .str x,v=>v=.str x
 | .tup l,v=>∃ a vs,v=.ref a/\H a\.tup vs/\jO N H l vs
 | .odd n,v=>RB N H n v
def jO(N:al->Prop)(H:Hp):List TG->je->Prop
 | [],vs=>vs=[]
 | t::l,vs=>∃ v r,vs=v::r/\XD N H t v/\jO N H l r
end
structure Oz(N:al->Prop)(H H':Hp):Prop where
 tup:XB H H'
 rest:∀ b o,H b\o->¬ N b->H' b\o
mutual
theorem XD.mono{N:al->Prop}{H H':Hp}(m:Oz N H H'):∀(t:TG)(v:V),XD N H t v->XD N H' t v
 | .int _,_,h=>by rw[XD] at h⊢;show h
 | .str _,_,h=>by rw[XD] at h⊢;show h
 | .tup l,_,h=>by
  rw[XD] at h⊢;let#[a,vs,e,h1,h2]:=h;show#[a,vs,e,m.tup a vs h1,jO.mono m l vs h2]
 | .odd n,_,h=>by
  rw[XD] at h⊢;rcases h with h | h | ⟨e,a,xs,e1,e2,e3⟩ | ⟨e,a,xs,e1,e2,e3⟩
  .show .inl h
  .show .inr (.inl h)
  .show .inr (.inr (.inl #[e,a,xs,e1,m.rest _ _ e2 e3,e3]))
  .show .inr (.inr (.inr #[e,a,xs,e1,m.rest _ _ e2 e3,e3]))
theorem jO.mono{N:al->Prop}{H H':Hp}(m:Oz N H H'):∀(l:List TG)(vs:je),jO N H l vs->jO N H' l vs
 | [],_,h=>by rw[jO] at h⊢;show h
 | t::l,_,h=>by
  rw[jO] at h⊢;let#[v,r,e,h1,h2]:=h;show#[v,r,e,XD.mono m t v h1,jO.mono m l r h2]
end
mutual
theorem XD.less{N N':al->Prop}{H:Hp}(m:∀ b,N' b->N b):∀(t:TG)(v:V),XD N H t v->XD N' H t v
 | .int _,_,h=>by rw[XD] at h⊢;show h
 | .str _,_,h=>by rw[XD] at h⊢;show h
 | .tup l,_,h=>by
  rw[XD] at h⊢;let#[a,vs,e,h1,h2]:=h;show#[a,vs,e,h1,jO.less m l vs h2]
 | .odd n,_,h=>by
  rw[XD] at h⊢;rcases h with h | h | ⟨e,a,xs,e1,e2,e3⟩ | ⟨e,a,xs,e1,e2,e3⟩
  .show .inl h
  .show .inr (.inl h)
  .show .inr (.inr (.inl #[e,a,xs,e1,e2,λz=>e3 (m a z)]))
  .show .inr (.inr (.inr #[e,a,xs,e1,e2,λz=>e3 (m a z)]))
theorem jO.less{N N':al->Prop}{H:Hp}(m:∀ b,N' b->N b):∀(l:List TG)(vs:je),jO N H l vs->jO N' H l vs
 | [],_,h=>by rw[jO] at h⊢;show h
 | t::l,_,h=>by
  rw[jO] at h⊢;let#[v,r,e,h1,h2]:=h;show#[v,r,e,XD.less m t v h1,jO.less m l r h2]
end
end Tw
namespace L2
open PySem PySem.Spec PyProof.Rows
abbrev SH(a:al)(o:aI):HO:=.ext λh=>h.get? a\o
section
variable{H H2:Hp}{h h':aE}{cs fs ex:jv}
end
inductive Na(o:aI)(q:Str):Prop
 |mk(a t:_)(_:o.data=.fields a)(_:a[1]?\.str q t)
def Ry(H:Hp)(q:Str)(e:jw):Prop:=TriplesOk e.toList/\∀ b d,PySem.codeAmong b e.toList\d->∃ a c,d=.ref a/\H a\SH a c/\Na c q
inductive Oi(H:Hp)(P:al)(q:Str):Prop
 |mk(a:_)(_:H P\.tbl a)(_:Ry H q a)
section
variable{cs:jv}{HL Hc H' H3:Hp}
end
theorem Ov{P:ao}{w:ax}{K:zZ}{h:jb}{d:aE}{g:VG}{N:jr}{c:Str}{a:aF}{f:al}{e:ak}{A:ay}{b:jB}{s:am}{H:Hp}{E:XK}:
  PassesOwn (aB (X7 g P w K h d N c a f e A b s H E).prog (X7 g P w K h d N c a f e A b s H E).w) (X7 g P w K h d N c a f e A b s H E).A (X7 g P w K h d N c a f e A b s H E).env (X7 g P w K h d N c a f e A b s H E).xe:=by
 change PassesOwn (aB P w) (A.deeper (envOfC c a s.heap.objs.size f e)) (envOfC c a s.heap.objs.size f e) _
 passes_own
def Pj:Expr->Bool
 | .Starred _ _=>false
 | _=>true
theorem UN{e:Expr}{b:jy}{a:Env}(h:Pj e=V'):aw (e::b) a=(false,aH e a)::aw b a:=by
 cases e <;> first | rfl | cases h
theorem WE{X:Cx}{e:Expr}{a:jy}{b:TE}{t:TA}(c:PE X e b)(d:PA X a t)(h:Pj e=V':=by rfl):PA X (e::a) (YI b t):=Zg c d (UN h)
theorem ZM{X:Cx}{e:Expr}{a:TE}(b:PE X e a)(h:Pj e=V':=by rfl):PA X [e] (YI a V0):=Zg b Zv (UN h)
theorem Zb{X:Cx}{e d:Expr}{b a:TE}(f:PE X e b)(g:PE X d a)(h:Pj e=V':=by rfl)(c:Pj d=V':=by rfl):PA X [e,d] (YI b (YI a V0)):=Zg f (ZM g c) (UN h)
theorem QB{X:Cx}{a b c:Expr}{d e f:TE}(g:PE X a d)(i:PE X b e)(j:PE X c f)(h:[a,b,c].all Pj=V':=by rfl):PA X [a,b,c] (YI d (YI e (YI f V0))):=
 (Zg g (Zg i (Zg j Zv (UN (zE.mp h c ⋯))) (UN (zE.mp h b ⋯))) (UN (zE.mp h a ⋯)))
theorem MH{X:Cx}{a b c d:Expr}{e f g i:TE}(j:PE X a e)(k:PE X b f)(l:PE X c g)(m:PE X d i)(h:[a,b,c,d].all Pj=V':=by rfl):PA X [a,b,c,d] (YI e (YI f (YI g (YI i V0)))):=
 (Zg j (Zg k (Zg l (Zg m Zv (UN (zE.mp h d ⋯))) (UN (zE.mp h c ⋯))) (UN (zE.mp h b ⋯))) (UN (zE.mp h a ⋯)))
theorem SN{X:Cx}{a b c d e f:Expr}{g i j k l m:TE}(n:PE X a g)(o:PE X b i)(p:PE X c j)(q:PE X d k)(r:PE X e l)(s:PE X f m)(h:[a,b,c,d,e,f].all Pj=V':=by rfl):PA X [a,b,c,d,e,f] (YI g (YI i (YI j (YI k (YI l (YI m V0)))))):=
 (Zg n (Zg o (Zg p (Zg q (Zg r (Zg s Zv (UN (zE.mp h f ⋯))) (UN (zE.mp h e ⋯))) (UN (zE.mp h d ⋯))) (UN (zE.mp h c ⋯))) (UN (zE.mp h b ⋯))) (UN (zE.mp h a ⋯)))
def Wy(g:jw->Prop)(x C:al)(b:jx)(h:aE):Prop:=∃ o a,h.get? x\o/\o.cls=.ref C/\o.data=.fields a/\o.dict=b/\g a
def UX:jw->Prop:=λa=>a[1]?\.none/\a[2]?\.none/\4<a.size
def PU:jw->Prop:=λ_=>True
def XO(g:jw->Prop)(x C:al)(a:jx):HO:=.ext (Wy g x C a)
theorem Wy.is{g:jw->Prop}{x C:al}{c:jx}{h:aE}(e:Wy g x C c h):WJ x C h:=let #[o,_,a,b,_]:=e;#[o,a,b]
theorem K5{P:ao}{w:ax}{H:Hp}{h:aE}{g:jw->Prop}{x C:al}{j:jx}(e:Wy g x C j h):Zc P w H h x (XO g x C j):=by
 let#[o,s,a,b,c,d]:=id e;show#[e,#[o,a],λq r ⟨i,f,l,m,n,p⟩ k=>#[i,f,k i l,m,n,p]]
abbrev ME:jd:=[.type "ValueError",.type "Exception",.type "BaseException",.type "object"]
def GA:jd->Bool
 | .ref _::r=>GA r
 | l=>l==ME
theorem Dd(a:ak):∀{l:jd},GA l=V'->PySem.refuseLoop a "__setattr__" l=pure ()
 | .ref c::r,e=>(refuseLoop_ref _ _ _ _).trans (Dd a (l:=r) e)
 | .type n::r,e=>#v[show (Value.type n::r)=ME from beq_iff_eq.mp e,zEB.passes a]
 | [],e=>by cases e
 | .none::r,e | .bool _::r,e | .int _ _::r,e | .str _ _::r,e | .bytes _ _::r,e | .float _ _::r,e | .builtin _::r,e=>by cases(beq_iff_eq.mp e)
def FS(K:zZ)(C:al):Bool:=(sI K C).any λa=>GA a.mro
def EN:ak->Bool
 | .type t=>t == "type"
 | _=>false
theorem u5{v:ak}(h:EN v=V'):v=.type "type" :=by
 cases v with
 | type t=>show congrArg Value.type (eq_of_beq h)
 | _=>cases h
def Cg:Data->Option ClassData
 | .cls c=>Z' c
 | _=>Y'
theorem rh{d:Data}{c:ClassData}(h:Cg d\c):d=.cls c:=by
 cases d with
 | cls c=>cases h;rfl
 | _=>cases h
def Dx:jc->Bool
 | some (.builtin m)=>m == "ValueError.__new__"
 | _=>false
theorem AW{v:jc}(h:Dx v=V'):v\.builtin "ValueError.__new__":=by
 cases v with
 | none=>cases h
 | some v=>
  cases v with
  | builtin m=>show congrArg (Z' <| Value.builtin ·) (eq_of_beq h)
  | _=>cases h
def Bh(C:al):jd->Bool
 | .ref D::_=>D==C
 | _=>false
theorem yi{C:al}{l:jd}(h:Bh C l=V'):l=.ref C::l.tail:=by
 cases l with
 | nil=>cases h
 | cons v r=>
  cases v with
  | ref D=>show congrArg (Value.ref ·::r) (eq_of_beq h)
  | _=>cases h
theorem No{b:Type}{n:Nat}{l:List b}(h:↑l=n+1):∃ a m,l=a::m:=by
 cases l with
 | nil=>cases h
 | cons a m=>show#[a,m,Z]
theorem yk{l:List (jc)}(h:↑l=6):∃ a b c d e f,l=[a,b,c,d,e,f]:=by
 let#[a,l,rfl]:=No h;let#[b,l,rfl]:=No (xT.inj h);let#[c,l,rfl]:=No (xT.inj (xT.inj h));let#[d,l,rfl]:=No (xT.inj (xT.inj (xT.inj h)));let#[e,l,rfl]:=No (xT.inj (xT.inj (xT.inj (xT.inj h))));let#[f,l,rfl]:=No (xT.inj (xT.inj (xT.inj (xT.inj (xT.inj h)))))
 cases l with
 | nil=>show#[a,b,c,d,e,f,Z]
 | cons _ _=>cases h
theorem Ef{b:Type}{p:b->Bool}{o:Option b}(h:o.any p=V'):∃ a,o\a/\p a=V':=by
 cases o with
 | none=>cases h
 | some a=>show#[a,Z,h]
def Jw(K:zZ)(C:al)(f:ClassData->Bool):Bool:=(K.lookup C).any λo=>EN o.cls&&(↑o.slots.toList==6&&(Dx (o.slots.toList.getD 4 Y')&&(Cg o.data).any λc=>Bh C c.mro&&(PySem.W.tailIn K ME c.mro.tail&&(!c.hasDel&&f c))))
inductive Oa(K:zZ)(C:al)(f:ClassData->Bool):Prop
 |mk(h e i j g k b d a l m n o p q:_)(c:jd):K.lookup C\excClassObj h j C i e c g k b d a l m n o p q "ValueError.__new__"->PySem.W.tailIn K ME c=V'->f ⟨h,e,.ref C::c,i,j,g,k,b,d,a,false⟩=V'->Oa K C f
theorem Bs{K:zZ}{C:al}{f:ClassData->Bool}(h:Jw K C f=V'):Oa K C f:=by
 let#[#[H,l,I,#[J]],e,h]:=Ef h;rw[zT,zT,zT] at h;let#[n,o,p,q]:=h;let#[#[B,k,g,D,E,t,F,i,j,b,c],m,h]:=Ef q;rw[zT,zT,zT] at h;let#[a,d,r,s]:=h;cases u5 n;cases rh m;let#[u,w,x,y,z,A,rfl]:=yk (eq_of_beq o);cases AW (v:=z) p;let a:=yi a;dsimp only at a d;generalize g.tail=G at a d;subst a
 cases c with
 | true=>cases r
 | false=>show#[B,k,D,E,t,F,i,j,b,l,u,w,x,y,A,G,e,d,s]
def G7(K:zZ)(C:al):Bool:=Jw K C λ_=>true
def GR(K:zZ)(C:al):Bool:=Jw K C λc=>PySem.W.nsOkIn K c.ns&&zD K c.ns "__init__" == Z' Y'
theorem HF{K:zZ}{a:aE}{g:jb}{x:Str}{C:al}(b:K.In a)(l:g x\.ref C)(q:GR K C=V'):OwnCls x C ME "ValueError.__new__" g a:=by
 exists l;let#[u,j,h,v,m,w,d,i,c,k,o,p,r,s,t,y,e,n,f]:=Bs q;rw[zT] at f;show#[y,h,u,v,j,m,w,d,i,c,k,o,p,r,s,t,a.nsMap h,b _ _ e,.of_isNs (PySem.W.isNs_of_in b f.1),PySem.W.nsMap_none_of_in b f.1 (eq_of_beq f.2),zEa b n]
structure Xx(K:zZ)(C fI:al)(f:Str):Prop where
 exc:Wt K C
 made:G7 K C=V'
 init:zC K (.ref C) "__init__" = Z' (Z' (.ref fI))
 fn:wG K (.ref fI)=V'
 kp:yF K (.ref C)=V'
 sa:zC K (.ref C) "__setattr__" = Z' (Z' (.builtin "object.__setattr__"))
 no:zC K (.ref C) f\Y'
 hd:vQ K C=V'
 over:FS K C=V'
section
variable{g:jw->Prop}{jR:js}{σ:St}{H:Hp}{a C fI:al}{f:Str}{v:V}
theorem Az{y:V}{u:ak}{Q:Unit->am->Prop}(I:ZF X jR σ H s)(e:H a\XO g a C Y')(c:Xx X.K C fI f)(ry:ZQ y u)(h:∀ L s',H L=Y'->L≠a->ZF X jR σ (upd (upd H L (.xd [(f,y)])) a (XO g a C (Z' L))) s'->Q () s'):aC (aB X.prog X.w) A (setAttr (.ref a) f u) Q E s:=by
 let#[o,vs,N,d,i,x,a0]:=(I.hok a _ e).1;let#[oc,od,a7,k]:=o;dsimp only at d i x;subst d i x;let J:qE s.heap a #[.ref C,Y',.fields vs,k] C Y':=#[N,Z,Z,True.intro];show PySem.W.set_plain I.kIn J c.sa ?_;let l:=zEB;let#[cd,S,ho]:=sC c.over;let a3:yD (aB X.prog X.w) s.heap (isInstance (.ref a) (.type "object")) true:=J.type.andThen (tH I.kIn c.exc.mO);show codeAny_call_builtin l.slot.plain l.entry (@PySem.W.check_slot (aB X.prog X.w) _ _ { s with toks:=s.toks+1 } "object.__setattr__" "object" "__setattr__" (.ref a) [.str f s.toks,u] [] _ l.kind l.split a3 (l.args (.ref a) (.str f s.toks) u) ?_);let hm:yD (aB X.prog X.w) s.heap (mroOf (.ref C)) cd.mro:=(qR I.kIn S).andThen .now;rw[PySem.W.osa_eq,PySem.refuse_eq];show aa (aa (yD.here (s:={ s with toks:=s.toks+1 }) J.type (aa (yD.here (s:={ s with toks:=s.toks+1 }) hm ?_))));rw[Dd _ ho];show ad (aa (yD.here (s:={ s with toks:=s.toks+1 }) J.type (aa (yD.here (s:={ s with toks:=s.toks+1 }) (rQ I.kIn c.no) (aa (ad ?_))))));let#[a4,t,T]:=sC c.hd;show aa (ad (aa (aa (wpAny_loadPart N (aa (yD.here (s:={ s with toks:=s.toks+1 }) (qR I.kIn t) ?_))))));rw[T];dsimp only;let i:a≠s.heap.objs.size:=yU (zJ N);let p:H s.heap.objs.size=Y':=I.hok.fresh (zW _);rw[aO ⋯,aO (by simp[typeHasDict])]
 let D:=zL { cls:=.type "dict",data:=.dict ⇑[] } N;show aa (wpAny_alloc' (aa (wpAny_update' D (ad ?_))));generalize O:((s.heap.push { cls:=.type "dict",data:=.dict ⇑[] }).update a λo=>{ cls:=o.cls,dict:=Z' s.heap.objs.size,data:=o.data,slots:=o.slots })=M;let ga:M.get? a\#[.ref C,Z' s.heap.objs.size,.fields vs,k]:=by
  rwa[<-O,wI _ D Z]
 let gd:M.get? s.heap.objs.size\{ cls:=.type "dict",data:=.dict ⇑[] }:=by
  rwa[<-O,(Heap.get?_update_ne _ _ _ _ i.symm).trans (Heap.get?_push_at Z Z)]
 let go:∀ b o,b≠a->s.heap.get? b\o->M.get? b\o:=λb o n q=>by
  rwa[<-O,(Heap.get?_update_ne _ _ _ _ n).trans (zL _ q)]
 let a1:M.Ns s.heap.objs.size (λ_=>Y'):=#[_,⇑[],_,gd,Z,λe he=>absurd he ⋯,λ_=>rfl]
 change aC _ _ (Builtin.ObjectAttr.storeInDict s.heap.objs.size (.str f s.toks) f u) _ _ _;unfold Builtin.ObjectAttr.storeInDict Builtin.ObjectAttr.newKeyGuard;show aa (ad (aa (wpAny_nsSet1 (Heap.Ns1.of_empty a1) λP B hs=>?_)));let#[oD,a6,a5,a2,U,R]:=B.count (Within.cons f u Within.nil);show aa (wpAny_lookBehind a2 #v[U,pastItsLine_dict (zK R (by rw[zV,yE,sizeLine_eq];lia))] ?_)
 let m:P.get? a\#[.ref C,Z' s.heap.objs.size,.fields vs,k]:=(hs.2 a i).trans ga;let j:∀ b o,b≠a->s.heap.get? b\o->P.get? b\o:=λb o n q=>(hs.2 b (yU (zJ q))).trans (go b o n q);let G:∀{b:al}{o:HO},H b\o->b≠s.heap.objs.size:=fun{b o} q z=>by erw[z,p] at q
 let na:∀{b:al},H b=Y'->b≠a:=fun{b} q z=>by erw[z,e] at q
 show ad (h s.heap.objs.size _ p i.symm (I.call' (s':={ s with heap:=P,toks:=_ }) (ch:=[]) Z #[λb o q n _ _=>j b o (na n) q,λb o q n _ _=>#[o.slots,j b o (na n) q],λb o q n _=>?_,λb o q _=>?_,λb xs q=>?_,λb o u q=>?_,λb ps q=>?_] (λb ob q=>?_) I.bare (λb hb=>absurd hb ⋯)))
 .rwa[ZT (na n),ZT (yU (zJ q)),n]
 .by_cases z:b=a
  .rwa[z,#[_,m]]
  .show#[o,j b o z q]
 .rwa[ZT (λz=>by erw[z,e] at q),ZT (G q),q]
 .rwa[ZT (λz=>by erw[z,e] at q),ZT (G q),q]
 .show#[⇑[],by rw[ZT (λz=>by erw[z,e] at q),ZT (G q),q];simp]
 .by_cases z:b=a
  .erw[z,ZY] at q;rwa[z,K5 #[_,_,m,Z,Z,Z,a0]]
  .rw[ZT z] at q;by_cases z2:b=s.heap.objs.size
   .erw[z2,ZY] at q;rw[z2];exists _,B;intro g;change Yy (wO g [(f,y)]) (if g=f then Z' u else Y')
    by_cases Y:g=f
    .rw[Y,aP rfl];simp only[wO,beq_self_eq_true];show ry
    .rw[aO Y];simp only[wO,beq_eq_false_iff_ne.mpr Y];show True.intro
   .rw[ZT z2] at q;let oc:∀{c:al},H c\.own b->c≠a:=fun{c} d z=>by erw[z,e] at d
    show(I.hok b ob q).stay (λc u d r=>j c u ?_ r) (λc d=>?_) (λc xs d=>?_)
    .rcases d with rfl | d
     .show z
     .show oc d
    .rwa[ZT (oc d),ZT (G d),d]
    .rwa[ZT (λz=>by erw[z,e] at d),ZT (G d),d]
theorem mz{b:Bool}{j:al}{x:List (Str×V)}{Q:ja}(I:ZF X jR σ H s)(e:H a\XO g a C (Z' j))(d:H j\.xd x)(c:Xx X.K C fI f)(l:x.lookup f\v)(h:∀ u B,ZF X jR σ H B->ZQ v u->Q u B):aC (aB X.prog X.w) A (getAttr (.ref a) f b) Q E s:=by
 let#[o,R,N,D,m,n,G]:=id (I.hok a _ e).1;let#[O,r,i]:=I.hok j _ d;let#[u,M,z]:=Yy.some_of (v:=v) (o:=O f) (by rwa[<-l,i f])
 let#[y,t,q]:=DQ r;let J:qE s.heap a o C (Z' y):=#[N,D,by unfold PySem.W.notCls;rw[m],#v[n,t]]
 let#[P,k,p]:=sC c.hd;let L:yD (aB X.prog X.w) s.heap (Builtin.ObjectAttr.inOwnDict f (.ref a)) (Z' u):=PySem.W.looks_own I.kIn J k (by unfold PySem.W.ownOf;rw[p,aP rfl];change sX f y=_;rw[q,M])
 let F:yD (aB X.prog X.w) s.heap (Builtin.ObjectAttr.find (.ref a) (.ref C) f) (.value u):=by
  show yD.andThen (rQ I.kIn c.no) (yD.andThen .now (yD.andThen .now ?_));show yD.andThen L (yD.tag yD.now)
 show aa (wpAny_mkText ?_);show Cq (s:={ s with toks:=s.toks+1 }) I.kIn (I.hok a _ e).1.is c.exc F #[EV z,h u _ (I.tok _) z]
end
section
variable{C fI:al}{f:Str}
abbrev QQ(h:aE)(C:al)(a:jd):Heap:=(h.push { cls:=.type "tuple",data:=.seq ⇑a }).push { cls:=.ref C,data:=.fields ⇑[.ref h.objs.size,.none,.none,.none,.bool false,.none] }
theorem CZ{e:jd}{Q:ja}(X:K.In s.heap)(c:Xx K C fI f)(p:↑e<=au)(h:aC (aB prog w) (A.under (.builtin "type.__call__" #[.ref C::e,[]])) (call (.ref fI) (.ref (s.heap.objs.size+1)::e)) (λr D=>r=.none/\Q (.ref (s.heap.objs.size+1)) D) E { s with heap:=QQ s.heap C e }):
  aC (aB prog w) A (call (.ref C) e) Q E s:=by
 let#[a,g,d,t,B]:=s;let n:=c.made;let#[nm,H,ns,qn,M,sn,u,G,k,I,R,S,U,V,Y,v,N,P,_]:=Bs n;let i:a.get? C\excClassObj nm qn C ns H v M sn u G k I R S U V Y "ValueError.__new__":=X _ _ N;let T:OwnTail a ME v:=zEa X P;let j:=pW;let f1:=tc_lookup;let f2:=tc_bind (.ref C);let hT:(#[a,g,d,t,B]:am).TypeIs (.ref C) "type" :=#[_,i,Z];show wpAny_call (codeAny_of_tree (show aC _ _ (callAny (.ref C) _) _ _ _ from ?_))
 repeat (any_goals (first | assumption | with_reducible show wpAny_loadPart_at i ?_ | wp_step))
 show#[Z,codeAny_call_builtin_at (Code.quiet_builtin _ (by decide +kernel)) entry_typeCall (wpAny_check_type_call_sub i ?_)]
 repeat (first | with_reducible show wpAny_loadPart_at i ?_ | with_reducible show wpAny_madeBy_exc i ?_ | wp_step)
 show codeAny_call_builtin_code (Code.quiet_builtin _ j.quiet) (wpAny_check_new_subU j j.hasB T i (codeAny_exc_new_subU j j.hasB j T i ?_ p));change aC _ _ _ _ _ _;let J:(QQ a C e).get? (a.objs.size+1)\{ cls:=.ref C,data:=.fields ⇑[.ref a.objs.size,.none,.none,.none,.bool false,.none] }:=by heap_get
 let y:∀ b o,a.get? b\o->(QQ a C e).get? b\o:=λb o q=>zL _ (zL _ q);let l:=y _ _ i;let m:(Value.ref C::v).contains (.ref C)=V':=by simp
 unfold isInstance;change aC _ _ _ _ _ #[QQ a C e,g,d,t,B]
 repeat (first | with_reducible show wpAny_loadPart_at J ?_ | wp_step)
 show wpAny_isSubtype_exc (C:=C) (h:=QQ a C e) l ?_;rw[m]
 repeat wp_step
 let x:K.In (QQ a C e):=λb o q=>y b o (X b o q);change aC _ _ (typeLookup (.ref C) _) _ _ _;show(rQ x c.init).at ?_;show af (aa ((PySem.W.bind_fn x _ (beq_iff_eq.mp c.fn)).at ?_));show aa (ae h (λr D O=>?_) λ_ _ z=>z);let#[rfl,L]:=O
 wp_walk
 show L
end
def O7(H:Hp)(a C:al):Prop:=∃ b,H a\.ext b/\∀ h,b h->WJ a C h
theorem Rn{g:jw->Prop}{H:Hp}{a C:al}{b:jx}(e:H a\XO g a C b):O7 H a C:=#[_,e,λ_ h=>h.is]
theorem O7.mono{H a:Hp}{b C:al}(x:O7 H b C)(s:ZD H a):O7 a b C:=let #[φ,e,k]:=x;#[φ,s _ _ e,k]
inductive Qk(K:zZ)(d:je)(H:Hp)(Q:VK):Prop
 |mk(a C c b:_)(_:d=[.ref a,c])(_:O7 H a C)(_:Wt K C)(_:Mo c=V')(_:xY K (.ref C) (cV c)\b)(_:Q (.bl b) H)
inductive Qs(K:zZ)(f:je)(H:Hp)(Q:VK):Prop
 |mk(d C e a b:_)(_:f=[.ref d,.ref e])(_:O7 H d C)(_:Wt K C)(_:H e\.tup a)(_:∀ c∈a,Mo c=V')(_:qC K (.ref C) (a.map cV)\b)(_:Q (.bl b) H)
inductive Nd(K:zZ)(f:Str)(D:YX)(e:L2.St)(y x:V)(c:Hp):Prop
 |mk(g a C d:_)(_:x=.ref a)(_:c a\XO g a C Y')(_:Xx K C d f)(_:∀ b,c b=Y'->b≠a->D.nx e (upd (upd c b (.xd [(f,y)])) a (XO g a C (Z' b))))
def Ek(K:zZ)(d e:TE)(f:Str):TS:=λD a H=>e a H λy b=>d a b λx c=>Nd K f D a y x c
inductive Nh(K:zZ)(f:Str)(Q:VK)(x:V)(b:Hp):Prop
 |mk(g a C c d v e:_)(_:x=.ref a)(_:b a\XO g a C (Z' c))(_:b c\.xd d)(_:Xx K C e f)(_:d.lookup f\v)(_:Q v b)
def BH(K:zZ)(b:TE)(f:Str):TE:=λc H Q=>b c H λx a=>Nh K f Q x a
def QK(K:zZ)(C c:al)(f:Str):Sp:=λd H Q _=>Xx K C c f/\∃ a y,d=[.ref a,y]/\H a\XO UX a C Y'/\∀ b,H b=Y'->b≠a->Q .non (upd (upd H b (.xd [(f,y)])) a (XO UX a C (Z' b)))
section
theorem BI:V7 X (.builtin "isinstance") (Qk X.K):=by
 intro f s t H p n Q I r h;let#[d,C,c,b,rfl,#[v,e,k],g,i,j,q]:=h;let#[u,o,rfl,l,a]:=MV r;cases(show u=Value.ref d from l);rwa[Bw a i,wY (FQ g) I.kIn (k _ (I.hok d _ e).1) j (λz=>nomatch z) λm=>#[.bl b,H,I.tok m,Z,q]]
theorem zn:V7 X (.builtin "isinstance") (Qs X.K):=by
 intro g s L H J G Q I r h;let#[d,C,A,D,b,rfl,#[M,e,t],i,k,l,m,q]:=h;let#[u,B,rfl,w,c]:=MV r;cases(show u=Value.ref d from w);cases(show B=Value.ref A from c);let#[p,x,v,_]:=I.tuple (Zd.of k);let j:=EZ x l;subst j;let#[#[cls,E,data,F],o,a,n,f]:=v;simp only at a f;subst a f;show PySem.W.kia_tup (FQ i) I.kIn (t _ (I.hok d _ e).1) o m (λz=>nomatch z) λy=>#[.bl b,H,I.tok y,Z,q]
variable{C fI:al}{f:Str}{e o value:Expr}{es:jy}{ta tv:TE}{t:TA}{pos pos' p:aJ}{x:Str}
theorem GQ(v:PE X o ta)(B:PE X value tv)(A:swapsWith value (Z' (.Attribute o f pos')) pos.line X.env=pure false):PS X (.Assign [.Attribute o f pos'] value pos) (Ek X.K ta tv f):=by
 intro b s d H D I h;show plainObj_wpAny_Assign_Attribute (Z8 (B b s d H _ I h) λu L y i j J q=>Z3 (v b L d i _ j q) λE O ⟨x,M,k,G,g,a,C,fI,r,n,c,F⟩=>?_) A;subst r;obtain rfl:E=Value.ref a:=G;show Az k n c J λm N w z l=>#[d,_,l,F m w z]
theorem wz(w:PE X e ta)(r:attributeBase e f X.env (aH e X.env)=aH e X.env):PE X (.Attribute e f pos) (BH X.K ta f):=by
 intro b s A H Q I h;show AI r (Z3 (w b s A H _ I h) ?_);rintro u F ⟨x,d,i,z,g,a,C,B,D,v,fI,n,k,m,c,l,q⟩;subst n;obtain rfl:u=Value.ref a:=z;show mz i k m c l λu E j y=>#[v,d,j,y,q]
theorem ZF.newx{g:js}{j:St}{H:Hp}{s:am}{h':aE}{ea:al}(I:ZF X g j H s)(d:∀ b o,s.heap.get? b\o->h'.get? b\o)(n:s.heap.get? ea=Y')(m:Wy UX ea C Y' h'):ZF X g j (upd H ea (XO UX ea C Y')) { s with heap:=h' }:=by
 let l:H ea=Y':=by
  cases z:H ea with
  | none=>rfl
  | some o=>
   let#[A,q]:=I.hok.there (a:=ea) #v[z,λy=>nomatch y]
   erw[n] at q
 let i:∀{b:al}{o:HO},H b\o->b≠ea:=fun{b o} q z=>by erw[z,l] at q
 show I.call' (s':={ s with heap:=h' }) (ch:=[]) Z #[λb o q _ _ _=>d b o q,λb o q _ _ _=>#[o.slots,d b o q],λb o q z _=>?_,λb o q _=>#[o,d b o q],λb w q=>?_,λb o u q=>?_,λb B q=>#[⇑[],?_]] (λb v q=>?_) I.bare (λb k=>absurd k ⋯)
 .rwa[ZT (λy=>by erw[y,n] at q),z]
 .rwa[ZT (i q),q]
 .rwa[ZT (i q),q]
 .rw[ZT (i q),q];simp
 .by_cases z:b=ea
  .erw[z,ZY] at q;rwa[z,K5 m]
  .rw[ZT z] at q;show(I.hok b v q).stay (λc u _ r=>d c u r) (λc h=>#v[ZT (i h),h]) (λc w h=>#v[ZT (i h),h])
end
theorem nO(f:jw->jw)(o:aI):(Obj.mapFields f o).dict=o.dict:=by
 let#[c,d,a,b]:=o;cases a <;> rfl
def N2(B:aE)(cls:ak)(b:jw):Prop:=b[2]?\.none\/∀ C o a,cls=.ref C->B.get? C\o->o.data=.cls a->a.name = "NoRow"
def RI(h B:aE)(e:al)(cls:ak)(g:jx)(f:ak):Prop:=
 ∃ a b T c d,(h.get? e\a/\a.cls=cls/\a.dict=g/\a.data=.fields b/\b[1]?\.ref T)/\B.get? T=Y'/\T≠e/\h.get? T\c/\c.data=.fields d/\d[3]?\f/\N2 B cls b
def Xf(B:aE)(l:jB)(e:al)(cls:ak)(b:jx)(a:ak)(h:aE):Prop:=B.StaysIn h/\B.get? e=Y'/\h.FunFrames B l/\RI h B e cls b a
theorem Xf.at{B h:aE}{l:jB}{e C:al}{f:jx}{g:ak}(x:Xf B l e (.ref C) f g h):Wy PU e C f h:=by
 let#[_,_,_,i,j,T,k,m,#[a,b,c,d,_],_]:=x;show#[i,j,a,b,d,c,trivial]
section
variable{M:Model}{B:aE}{env:Env}{outer l:jB}{L e:al}{cls:ak}{od:jx}{Q:Unit->am->Prop}
theorem Hj{oe:aI}{vs:jw}{first:ak}{nx:Bool}(fr:A.frames\(env::outer))(ff:s.heap.FunFrames B (env::outer))(eL:env.frame\L)(ge:s.heap.get? e\oe)(sb:B.StaysIn s.heap)(eB:B.get? e=Y')(dd:oe.data=.fields vs)(two:1<vs.size)(cx:N2 B oe.cls vs)(h:∀ h',Xf B (env::outer) e oe.cls oe.dict (rawInt L) h'->s.heap.UpToSlots h'->Q () { s with heap:=h' }):
  aC M A (frameOf env >>= λa=>entryPlaceOf L nx >>= λpl=>EntryCells.newEntry first a .none (rawInt L) .none pl >>= λb=>setField (.ref e) 1 b) Q E s:=by
 let en:e∉(env::outer).filterMap (·.frame):=λz=>by
  let#[_,o,g1,g2]:=ff.mem z;erw[ge] at g1;show g2 vs dd
 show aa (wpAny_frameOf_fun fr ff eL λh1 k1=>aa (wpAny_entryPlaceOf λpl kp=>?_));unfold EntryCells.newEntry newFields;show aa (wpAny_newObj_type ?_ (kp.sizeOk5 _ _ _ _ _));let t3:([first,Value.ref L,.none,rawInt L,.none]++(if pl.isEmpty then xD 6 Value.none else pl)).toArray[3]?\rawInt L:=by
  first | (simp;done) | (rcases kp with rfl | ⟨_,_,_,_,_,_,_,rfl⟩ <;> simp)
 generalize ⇑([first,Value.ref L,.none,rawInt L,.none]++(if pl.isEmpty then xD 6 Value.none else pl))=ts at t3⊢;let g1:h1.get? e\oe:=(k1.2.1 e en).trans ge;let sb1:B.StaysIn h1:=λb o q=>(k1.2.1 b λz=>by erw[(ff.mem z).1] at q).trans (sb b o q)
 let eT:h1.objs.size≠e:=λz=>xQ _ (by have:=zJ g1;rw[<-z] at this;show this)
 let g2:=zL (h:=h1) ({ cls:=.type "traceback",dict:=Y',data:=.fields ts }:aI) g1;let d3:=Obj.data_mapFields dd (·.setIfInBounds 1 (Value.ref h1.objs.size));let g3:=wI (Obj.mapFields (·.setIfInBounds 1 (Value.ref h1.objs.size))) g2 (Obj.isFreed_of_fields d3);let gT:=(wH (h1.push ({ cls:=.type "traceback",dict:=Y',data:=.fields ts }:aI)) (Obj.mapFields (·.setIfInBounds 1 (Value.ref h1.objs.size))) eT.symm).trans (yO h1 Z);let stay:∀ b o,b≠e->h1.get? b\o->((h1.push ({ cls:=.type "traceback",dict:=Y',data:=.fields ts }:aI)).update e (Obj.mapFields (·.setIfInBounds 1 (Value.ref h1.objs.size)))).get? b\o:=λb o n q=>
  (wH _ _ n.symm).trans (zL _ q)
 let notE:∀ b o,s.heap.get? b\o->(∀ ws,o.data≠.fields ws)->b≠e:=λb o q nf z=>by
  erw[z,ge] at q;show nf vs dd
 show wpAny_setField g2 dd two (h _ #[λb o q=>stay b o (λz=>by erw[z,eB] at q) (sb1 b o q),eB,ff.of_keeps λb o q nf=>?_,_,_,h1.objs.size,_,_,#[g3,Obj.cls_mapFields _ _,nO _ _,d3,by simp[two]],sb1.fresh,eT,gT,Z,t3,cx.imp (λz=>#v[rF (by decide),z]) id] λb o q nf=>?_)
 .let#[sl,z]:=k1.2.2 b o q;show#[_,stay b _ (notE b o q nf) z,Z]
 .let#[sl,z]:=k1.2.2 b o q;show#[sl,stay b _ (notE b o q nf) z]
theorem OT{G:ak}(x:Xf B l e cls od G s.heap)(h:∀ j,Xf B l e cls od .none j->s.heap.UpToSlots j->Q () { s with heap:=j }):aC M A (setFlight (.ref e) Y') Q E s:=by
 let#[I,D,F,H,K,T,O,u,#[r,w,y,p,v],k,m,i,g,J,C]:=x;let t:3<u.size:=(vV.mp J).1;let a:∀ b,b≠T->(s.heap.update T (Obj.mapFields (·.setIfInBounds 3 ((Y':jx).elim Value.none λf=>rawInt f)))).get? b=s.heap.get? b:=λb n=>wH _ _ n.symm;let c:∀ b o,s.heap.get? b\o->(∀ N,o.data≠.fields N)->b≠T:=λb o q d z=>by
  erw[z,i] at q;show d u g
 unfold setFlight;show aa (wpAny_field r p v ?_);rw[aP (show (Value.ref T != Value.none)=V' by simp)]
 show wpAny_setField i g t (h _ #[λb o q=>(a b λz=>by erw[z,k] at q).trans (I b o q),D,F.of_keeps λb o q d=>#[o,(a b (c b o q d)).trans q,Z],?_] λb o q d=>#[o.slots,(a b (c b o q d)).trans q])
 show#[H,K,T,_,_,#[(a e m.symm).trans r,w,y,p,v],k,m,wI _ i (Obj.isFreed_of_fields (Obj.data_mapFields g _)),Obj.data_mapFields g _,by simp[t],C]
theorem Cr{a:aI}{c:jw}(n:A.frames\(env::outer))(m:s.heap.FunFrames B (env::outer))(f:env.frame\L)(g:s.heap.get? e\a)(o:B.StaysIn s.heap)(k:B.get? e=Y')(d:a.data=.fields c)(i:c[1]?\.none)(j:N2 B a.cls c)(h:∀ b,Xf B (env::outer) e a.cls a.dict (rawInt L) b->s.heap.UpToSlots b->Q () { s with heap:=b }):aC M A (noteFrame (.ref e) env) Q E s:=by
 unfold noteFrame;simp only[f];show aa (wpAny_field g d i ?_);rw[aO (by decide)]
 show Hj n m f g o k d (vV.mp i).1 j h
theorem KC(H:A.frames\(env::outer))(k:env.frame\L)(x:Xf B (env::outer) e cls od .none s.heap)(h:∀ f,Xf B (env::outer) e cls od (rawInt L) f->s.heap.UpToSlots f->Q () { s with heap:=f }):
  aC M A (noteFrame (.ref e) env) Q E s:=by
 let#[J,D,G,P,R,T,O,r,#[m,w,y,j,t],u,v,i,g,p,C]:=x;subst w y;let I:3<r.size:=(vV.mp p).1;let a:∀ b,b≠T->(s.heap.update T (Obj.mapFields (·.setIfInBounds 3 Value.none))).get? b=s.heap.get? b:=λb n=>wH _ _ n.symm;let c:∀ b o,s.heap.get? b\o->(∀ N,o.data≠.fields N)->b≠T:=λb o q d z=>by
  erw[z,i] at q;show d r g
 unfold noteFrame;simp only[k];show aa (wpAny_field m j t ?_);rw[aP (show (Value.ref T != Value.none)=V' by simp)]
 show aa (wpAny_field i g p ?_);rw[aO (show ¬ ((Value.none==rawInt L)=V') by simp[rawInt])]
 show aa (wpAny_setField i g I ?_);show Hj (s:={ s with heap:=_ }) H (G.of_keeps λb o q d=>#[o,(a b (c b o q d)).trans q,Z]) k ((a e v.symm).trans m) (λb o q=>(a b λz=>by erw[z,u] at q).trans (J b o q)) D j (vV.mp t).1 C λf F K=>h f F λb o q d=>?_
 show K b o ((a b (c b o q d)).trans q) d
theorem Xf.less{f:ak}{h:aE}(x:Xf B (env::outer) e cls od f h):Xf B outer e cls od f h:=by
 let#[a,b,#[_,_,c],d]:=x;show#[a,b,c,d]
theorem lQ(f:A.frames\(env::outer))(b:env.frame\L)(x:Xf B (env::outer) e cls od .none s.heap)(h:∀ a,Xf B outer e cls od .none a->s.heap.UpToSlots a->Q () { s with heap:=a }):aC M A (leaving env (.ref e)) Q E s:=by
 unfold leaving;show aa (KC f b x λg c j=>OT (s:={ s with heap:=g }) c λi d k=>h i d.less (j.trans k))
theorem lS{a:aI}{c:jw}(n:A.frames\(env::outer))(m:s.heap.FunFrames B (env::outer))(i:env.frame\L)(o:s.heap.get? e\a)(r:B.StaysIn s.heap)(g:B.get? e=Y')(f:a.data=.fields c)(v:c[1]?\.none)(d:N2 B a.cls c)(h:∀ b,Xf B outer e a.cls a.dict .none b->s.heap.UpToSlots b->Q () { s with heap:=b }):aC M A (leaving env (.ref e)) Q E s:=by
 unfold leaving;show aa (Cr n m i o r g f v d λp j t=>OT (s:={ s with heap:=p }) j λq k u=>h q k.less (t.trans u))
end
theorem BK{a:ao}{w:ax}{A:ay}{E:ja}{s:am}{c:Env}{K:zZ}{C:al}{x:Sem ak}{Q:Flow->am->Prop}(F:A.handled=Y')(H:yS K C (.type "BaseException")\true)(G:yN K (.ref C)\.type "type")(h:aC (aB a w) A x (λv b=>∃ e q,v=.ref e/\K.In b.heap/\Wy UX e C q b.heap/\E (.ref e) b) E s):aC (aB a w) A (raiseStmt c (Z' x) Y') Q E s:=by
 unfold raiseStmt;show aa (ae h (λv b B=>?_) λ_ _ z=>z);let#[e,q,rfl,k,#[#[L,i,I,j],r,o,l,m,n,J,P,_],D]:=B;dsimp only at l m n;subst l m n;let#[p,g,d,O,N]:=b;let t:yD (aB a w) p (typeOf (.ref e)) (.ref C):=WJ.ty #[_,o,Z] _;let u:=tH (M:=aB a w) k H;let y:=qM (M:=aB a w) k G;let f:p.get? e\#[.ref C,i,.fields r,j]:=o;unfold excFromValue isExcClass isInstance isType raisedInstance setFlight
 repeat (first | with_reducible show wpAny_loadPart_at f ?_ | with_reducible show u.at ?_ | with_reducible show t.at ?_ | with_reducible show y.at ?_ | wp_step)
 rw[show r[1]?\Value.none from J]
 repeat wp_step
 all_goals first | show wpAny_raiseNew_none F D | trace_state
structure Vu(P:ao)(w:ax)(outer:jB)(H:Hp)(s:am)(ea:al)(cls:ak)(od:jx)(H':Hp)(s':am):Prop where
 ex:∃ B:aE,Xf B outer ea cls od .none s'.heap/\(∀ b o,s'.heap.get? b\o->H' b≠Y'->B.get? b\o)/\(∀ b o,s.heap.get? b\o->H b=Y'->b∉frs outer->B.get? b\o)/\(∀ b o,s.heap.get? b\o->b∉frs outer->∃ o',B.get? b\o')
 os:s'.os=s.os
 bare:AllBare s'.gens
 un:Un (frs outer) [] H H' s.heap s'.heap
 hok:Y6 P w H' s'.heap
 new:s.heap.get? ea=Y'
 free:H' ea=Y'
def Yl(P:ao)(w:ax):VG:=λa H s E e f=>∃ c cls d b,e=.ref c/\Vu P w a H s c cls d b f/\E cls d b
structure Wh(X:Cx)(E:XK):Prop where
 stack:X.stack=X.env::X.outer
 frame:X.env.frame\X.env.locals
 ex:X.ex=[]
 calm:X.calm=V'
 xe:∀ e s',aC (aB X.prog X.w) X.A (leaving X.env e) (λ_ s''=>Yl X.prog X.w X.outer X.H₀ X.s₀ E e s'') (λe' s''=>Yl X.prog X.w X.outer X.H₀ X.s₀ E e' s'') s'->X.xe e s'
theorem XA{P:ao}{w:ax}{K:zZ}{g:jb}{c:aE}{N:jr}{d:Str}{b:aF}{f:al}{e:ak}{A:ay}{a:jB}{s:am}{H:Hp}{E:XK}:
  Wh (X7 (Yl P w) P w K g c N d b f e A a s H E) E:=#[Z,Z,Z,Z,λ_ _ h=>h]
section
variable{jR:js}{σ:St}{H H':Hp}{s':am}{E:XK}
theorem Wh.frs(F:Wh X E):frs X.stack=X.env.locals::X.fs:=by
 rw[F.stack];change List.filterMap _ (X.env::X.outer)=_;rw[vB,F.frame];rfl
theorem Wh.off(F:Wh X E)(I:ZF X jR σ H s){b:al}{o:aI}(q:X.s₀.heap.get? b\o)(n:b∉L2.frs X.outer):b∉L2.frs X.stack:=λz=>by
 rw[F.frs] at z;rcases zN.mp z with z | z
 .erw[z,I.noloc] at q
 .show n z
theorem Wh.on(F:Wh X E){b:al}(n:b∈L2.frs X.outer):b∈L2.frs X.stack:=by
 rwa[F.frs,zM _ n]
theorem CJ{B h:aE}{g:al}(F:Wh X E)(J:ZF X jR σ H s)(r:B.StaysIn h)(d:∀ b o,b≠g->s.heap.get? b\o->b∉L2.frs X.stack->B.get? b\o)(p:s.heap.UpToSlots h)(i:X.s₀.heap.get? g=Y'):
  Un (L2.frs X.outer) [] X.H₀ H X.s₀.heap h:=by
 let c:=J.base;rw[F.ex] at c;let l:∀{b:al}{o:aI},X.s₀.heap.get? b\o->b≠g:=λq z=>by erw[z,i] at q
 let m:∀{b:al}{o:aI},b∈L2.frs X.stack->s.heap.get? b\o->∀ v,o.data≠.fields v:=λa q=>GE J _ a _ q;show#[λb o q n a _=>r b o (d b o (l q) (c.keep b o q n a ⋯) (F.off J q a)),λb o q n a _=>?_,c.free,λb o q _=>?_,c.tups,c.frzs,c.tbls]
 .let#[u,e]:=c.slot b o q n a ⋯
  let#[k,t]:=p b _ e (m (F.on a) e);show#[k,t]
 .let#[f,j]:=c.there b o q ⋯
  by_cases a:b∈L2.frs X.stack
  .let#[u,e]:=p b f j (m a j);show#[_,e]
  .show#[f,r b f (d b f (l q) j a)]
theorem ZF.untrack{a:al}{g:aE->Prop}(I:ZF X jR σ (upd H a (.ext g)) s)(l:H a=Y'):ZF X jR σ H s:=by
 let v:∀{b:al}{u:HO},H b\u->b≠a:=fun{b u} e z=>by erw[z,l] at e
 let h:∀{b:al},upd H a (.ext g) b=Y'->H b=Y':=fun{b} e=>by
  by_cases z:b=a
  .rwa[z,l]
  .rw[ZT z] at e;show e
 let d:∀{b:al}{u:HO},upd H a (.ext g) b\u->(∀ y,u≠.ext y)->H b\u:=fun{b u} e k=>by
  by_cases z:b=a
  .rw[z,ZY] at e;show absurd (yP.inj e).symm (k g)
  .rw[ZT z] at e;show e
 show#[I.ok,I.os,I.bare,#[I.base.keep,I.base.slot,λb j q n t=>h (I.base.free b j q n t),I.base.there,λb m q=>d (I.base.tups b m q) (λ_ z=>nomatch z),λb j u q=>d (I.base.frzs b j u q) (λ_ z=>nomatch z),λb w q=>?_],I.loc,I.cell,h I.free,λx c e=>h (I.freeC x c e),λp i=>?_,λb u e=>?_,I.len]
 .let#[f,e]:=I.base.tbls b w q;show#[f,d e (λ_ z=>nomatch z)]
 .let#[e,n,r]:=I.pin p i;show#[e,h n,r]
 .let o:upd H a (.ext g) b\u:=#v[ZT (v e),e]
  show(I.hok b u o).stay (λ_ _ _ q=>q) (λc q=>d q (λ_ z=>nomatch z)) λc m q=>d q (λ_ z=>nomatch z)
theorem pi{c C:al}{m:jx}{g:jw->Prop}(F:Wh X E)(J:ZF X jR σ H s)(e:X.s₀.heap.get? c=Y')(u:H c=Y')(Q:Wy g c C m s.heap)(K:∀ f,g f->f[1]?\.none)(L:∀ f B,g f->(∀ b o,B.get? b\o->s.heap.get? b\o)->N2 B (.ref C) f)(N:E (.ref C) m H):X.xe (.ref c) s:=by
 let#[U,f,I,r,w,x,t]:=Q;let T:=K f t;let G:X.A.frames\(X.env::X.outer):=by rw[J.ok.frames,F.stack]
 let D:s.heap.FunFrames (wZ s.heap (c::L2.frs X.stack)) (X.env::X.outer):=by
  have:=zEK (as:=c::L2.frs X.stack) J.stack (λl P a O=>zM _ (vY.mpr #[l,P,O]));rw[F.stack] at this⊢;show this
 let d:∀ b o,b≠c->s.heap.get? b\o->b∉L2.frs X.stack->(wZ s.heap (c::L2.frs X.stack)).get? b\o:=λb o n q h=>rV _ q (λz=>by
  rcases zN.mp z with z | z
  .show n z
  .show h z)
 let inT:∀ b o,s.heap.get? b\o->H b≠Y'->(wZ s.heap (c::L2.frs X.stack)).get? b\o:=λb o q n=>d b o (λz=>n #v[z,u]) q λz=>n (J.stkFree b z)
 let y:(wZ s.heap (c::L2.frs X.stack)).get? c=Y':=rR _ ⋯
 show F.xe _ _ (lS G D F.frame I (λb o q=>uJ _ q) y w T #v[r,L f _ t λb o q=>uJ _ q] λM j S=>?_)
 rw[r,x] at j;show#[c,_,m,H,Z,#[#[_,j,λb o q n=>?_,λb o q n h=>?_,λb o q h=>?_],J.os,J.bare,CJ F J j.1 d S e,J.hok.keptT λb o q n=>j.1 b o (inT b o q n),e,u],N]
 .let#[i,k]:=J.hok.there n;let R:=j.1 b i (inT b i k n);let v:M.get? b\o:=q;rw[R] at v;rwa[<-yP.inj v,inT b i k n]
 .let p:=J.base;rw[F.ex] at p;show d b o (λz=>by erw[z,e] at q) (p.keep b o q n h ⋯) (F.off J q h)
 .let#[i,k]:=J.base.there b o q (by rw[F.ex];simp)
  show#[i,d b i (λz=>by erw[z,e] at q) k (F.off J q h)]
theorem En{a C:al}{c:jx}(F:Wh X E)(J:ZF X jR σ H s)(b:X.s₀.heap.get? a=Y')(e:H a=Y')(f:Wy UX a C c s.heap)(d:E (.ref C) c H):X.xe (.ref a) s:=pi F J b e f (λ_ z=>z.1) (λ_ _ z _=>.inl z.2.1) d
theorem BL{i:al}{cls:ak}{p:jx}{B h2:aE}(F:Wh X E)(I:ZF X jR σ H s)(W:Vu X.prog X.w X.stack H s i cls p H' s')(inT:∀ b o,s'.heap.get? b\o->H' b≠Y'->B.get? b\o)(t:∀ b o,s.heap.get? b\o->H b=Y'->b∉L2.frs X.stack->B.get? b\o)(l:∀ b o,s.heap.get? b\o->b∉L2.frs X.stack->∃ c,B.get? b\c)(f:Xf B X.outer i cls p .none h2)(N:s'.heap.UpToSlots h2)(q:E cls p H'):Yl X.prog X.w X.outer X.H₀ X.s₀ E (.ref i) { s' with heap:=h2 }:=by
 let d:=I.base;rw[F.ex] at d;let K:∀{b:al}{o:aI},b∈L2.frs X.stack->s.heap.get? b\o->∀ x,o.data≠.fields x:=λa q=>GE I _ a _ q;let m:∀ b o,X.s₀.heap.get? b\o->X.H₀ b=Y'->b∉L2.frs X.outer->B.get? b\o:=λb o q n a=>t b o (d.keep b o q n a ⋯) (d.free b o q n ⋯) (F.off I q a)
 let g:∀ b o,s.heap.get? b\o->b∈L2.frs X.stack->∃ r,h2.get? b\{ o with slots:=r }:=λb o q a=>by
  let#[r,h]:=W.un.slot b o q (I.stkFree b a) a ⋯
  let#[g,k]:=N b _ h (λx z=>K a q x z);show#[g,k]
 let u:Un (L2.frs X.outer) [] X.H₀ H' X.s₀.heap h2:=by
  show#[λb o q n a _=>f.1 b o (m b o q n a),λb o q n a _=>?_,λb o q n _=>?_,λb o q _=>?_,λb C q=>W.un.tups b C (d.tups b C q),λb o u q=>W.un.frzs b o u (d.frzs b o u q),λb L q=>?_]
  .let#[r,h]:=d.slot b o q n a ⋯
   let#[v,D]:=g b _ h (F.on a);show#[v,D]
  .let#[c,e]:=d.there b o q ⋯
   show W.un.free b c e (d.free b o q n ⋯) ⋯
  .let#[c,e]:=d.there b o q ⋯
   by_cases a:b∈L2.frs X.stack
   .let#[r,h]:=g b c e a;show#[_,h]
   .let#[y,k]:=l b c e a;show#[y,f.1 b y k]
  .let#[G,h]:=d.tbls b L q;let#[J,k]:=W.un.tbls b _ h;show#[G++J,by rw[k,tJ]]
 show#[i,cls,p,H',Z,#[#[B,f,λb o j n=>?_,m,λb o j a=>?_],W.os.trans I.os,W.bare,u,W.hok.keptT λb o j n=>f.1 b o (inT b o j n),?_,W.free],q]
 .let#[c,e]:=W.hok.there n;let M:=f.1 b c (inT b c e n);let A:h2.get? b\o:=j;rw[M] at A;rwa[<-yP.inj A,inT b c e n]
 .let#[c,e]:=d.there b o j ⋯
  show l b c e (F.off I j a)
 .cases z:X.s₀.heap.get? i with
  | none=>rfl
  | some o=>
   let#[c,e]:=d.there i o z ⋯
   erw[W.new] at e
theorem pL{d:XK}(F:Wh X E)(i:∀ cls o H,d cls o H->E cls o H):UT (Yl X.prog X.w) X d:=by
 intro jR σ H s e s' I h;let#[k,cls,m,H',rfl,W,q]:=h;let#[B,f,inT,c,b]:=W.ex;let g:X.A.frames\(X.env::X.outer):=by rw[I.ok.frames,F.stack]
 show F.xe _ _ (lQ g F.frame (by rwa[<-F.stack,f]) λl a j=>BL F I W inT c b a j (i _ _ _ q))
inductive Qn(C:al)(f:Str)(E:XK)(c:je)(b:Hp):Prop
 |mk(y:_)(_:c=[y])(_:∀ a,b a=Y'->E (.ref C) (Z' a) (upd b a (.xd [(f,y)])))
def GC(C:al)(f:Str)(E:XK)(t:TA):TS:=λ_ σ H=>t σ H λb a=>Qn C f E b a
theorem Co{k:Nat}{C N:al}{f x:Str}{fd:aq}{R:jr}{e:Expr}{n:jy}{t:TA}{p g Q:aJ}(F:Wh X E)(c:Xx X.K C N f)(ht:yN X.K (.ref C)\.type "type")(U:ZI X.prog X.w X.K X.mg X.base ZX k N fd R (QK X.K C N f))(hr:ZU (k+1) X.A)(hg:Gl X x)(hm:X.mg x\.ref C)(hb:Zi X.K fd R [])(ha:PA X (e::n) t)(O:(x==("__debug__" : Str))=false:=by decide)(he:aw (e::n) X.env=(false,aH e X.env)::aw n X.env:=by rfl)(P:(aG g (aw n X.env)).any (·.1)=false:=by rfl):
  PS X (.Raise (Z' (.Call (.Name x p) (e::n) [] g)) Y' Q) (GC C f E t):=by
 intro jR s σ H D I h;let hh:=I.ok.hd F.calm;rw[arm_exec_Raise];show aa (ai ?_);show BK hh c.exc.mB ht (aa (ae ?_ (λv s3 h3=>aa (ai (ad h3))) λ_ _ z=>z));show ah (QZ I hg hm ?_ O);show vP (h₀:=X.base) I.ok.mod.kin c.kp (Z3 (ha g jR s σ H _ I h) λus d ⟨vs,l,m,r,y,ey,q⟩=>#[m.kIn,?_]) he P;subst ey;obtain⟨u,rfl,S⟩:∃ u,us=[u]/\ZQ y u:=by
  cases r with
  | cons S r0=>cases r0;show#[1,S]
 show CZ m.kIn c (by change 1<=au;rw[sizeLine_eq];lia) ?_
 let kk:∀ b o,d.heap.get? b\o->(QQ d.heap C [u]).get? b\o:=λb o q=>zL _ (zL _ q);let e1:(QQ d.heap C [u]).get? (d.heap.objs.size+1)\{ cls:=.ref C,data:=.fields ⇑[.ref d.heap.objs.size,.none,.none,.none,.bool false,.none] }:=by heap_get
 let Y:d.heap.get? (d.heap.objs.size+1)=Y':=tG (wF _);let h0:l (d.heap.objs.size+1)=Y':=m.hok.fresh (wF _);let L:X.s₀.heap.get? (d.heap.objs.size+1)=Y':=by
  cases z:X.s₀.heap.get? (d.heap.objs.size+1) with
  | none=>rfl
  | some o=>
   let#[o',q']:=m.base.there _ o z (by rw[F.ex];simp)
   erw[Y] at q'
 let J:=m.newx (C:=C) (ea:=d.heap.objs.size+1) (h':=QQ d.heap C [u]) kk Y #[_,_,e1,Z,Z,Z,Z,Z,by change 4<6;lia]
 generalize a0:d.heap.objs.size+1=a at *;let r2:ZN [V.ref a,y] [Value.ref a,u]:=.cons Z (.cons S .nil);let G:QK X.K C N f [V.ref a,y] (upd l a (XO UX a C Y')) (λv H2=>v=.non/\∃ i,H2=upd (upd l i (.xd [(f,y)])) a (XO UX a C (Z' i))/\l i=Y'/\i≠a) E0:=by
  show#[c,_,y,Z,ZY,λi hd B=>#[Z,i,?_,?_,B]]
  .funext b
   by_cases z:b=a
   .rw[z,ZY,ZY]
   .rw[ZT z,ZT z];by_cases T:b=i
    .rw[T,ZY,ZY]
    .rw[ZT T,ZT T,ZT z]
  .rw[ZT B] at hd;show hd
 let hl:↑([Value.ref a,u]++([]:jd))=↑R:=by
  let e:=↑r2;rw[U.len _ _ _ _ G] at e;show e.symm
 show wpAny_call (codeAny_mono (U.run _ X.stack _ _ #[[Value.ref a,u],[]] _ _ _ E0 (hr.make C [u] []) (J.env0.make C [u] []) (hb _ [Value.ref a,u] J.kIn hl) r2 G) λr s' j=>?_)
 cases r with
 | error e=>show(Xi jR σ _ _ e s' J j)
 | ok fl=>
  cases fl with
  | ret u2=>
   let#[v,H',M,rv,ev,i,eH,nd,ne]:=J.after j;subst ev eH;exists rv,a,Z' i,Z,M.kIn,(M.hok a _ ZY).1;let hn:upd l i (.xd [(f,y)]) a=Y':=#v[ZT (Ne.symm ne),h0]
   show En F (M.untrack hn) L hn (M.hok a _ ZY).1 (q i nd)
  | next=>show False.elim j
  | brk=>show False.elim j
  | cont=>show False.elim j
end
def CF(K:zZ)(e:al)(i:Nat)(g:TS)(D:YX)(h:St):XK:=λcls f d=>∃ C,cls=.ref C/\yS K C (.ref e)\true/\∀ c,d c=Y' ->
 g { nx:=λa b=>D.nx (a.set i Y') b,rt:=D.rt,bk:=λa b=>D.bk (a.set i Y') b,ct:=λa b=>D.ct (a.set i Y') b } (h.set i (Z' (.ref c))) (upd d c (XO PU c C f))
theorem KL{X:Cx}{d:js}{p:St}{H i:Hp}{s g:am}{t:al}{u:jx}{B f:aE}{cls:ak}(I:ZF X d p H s)(W:Vu X.prog X.w X.stack H s t cls u i g)(inT:∀ b o,g.heap.get? b\o->i b≠Y'->B.get? b\o)(k:∀ b o,s.heap.get? b\o->H b=Y'->b∉frs X.stack->B.get? b\o)(j:∀ b o,s.heap.get? b\o->b∉frs X.stack->∃ h,B.get? b\h)(m:B.StaysIn f)(v:g.heap.UpToSlots f):
  ZF X d p i { g with heap:=f }:=by
 let c:∀ b o,s.heap.get? b\o->b∈frs X.stack->∃ l,f.get? b\{ o with slots:=l }:=λb o q a=>by
  let#[l,e]:=W.un.slot b o q (I.stkFree b a) a ⋯
  let#[c,r]:=v b _ e (λx z=>GE I b a o q x z);show#[c,r]
 show I.call' (s':={ g with heap:=f }) W.os #[λb o q n a _=>m b o (k b o q n a),λb o q n a _=>c b o q a,W.un.free,λb o q _=>?_,W.un.tups,W.un.frzs,W.un.tbls] (W.hok.keptT λb o q n=>m b o (inT b o q n)) W.bare (λb a=>absurd a ⋯)
 by_cases a:b∈frs X.stack
 .let#[l,e]:=c b o q a;show#[_,e]
 .let#[h,e]:=j b o q a;show#[h,m b h e]
theorem Zk.okD{x b:Str}{g:aD}{f:al}{n:aq}{N l:jr}{k:Nat}{m:Sp}(F:Zk K x b g f n)(S:ZB N l (Za g))(j:∀ e H Q E,m e H Q E->↑e=↑l)(d:∀ (c:ak) (A:ay) (a:jB) (s:am) (H:Hp) (e:je) (Q:VK) (E:XK),ZU k (A.deeper (envOfC b (Za g) s.heap.objs.size f c))->m e H Q E ->
   let X:=(X7 (Yl P w) P w K mg jS N b (Za g) f c A a s H E);∃ t,Xm X (X5 g) t/\t { nx:=λ_ o=>Q .non o,rt:=Q } (UQ N e) H):ZI P w K mg jS (Yl P w) (k+1) f n l m:=by
 let#[y,z,kV,p,B,v,c,ct,u,rfl,r,h]:=F.ex;show HI r h S j λA a s H e Q E q i=>d c A a s H e Q E q i
theorem Zk.kD{x a:Str}{g:aD}{f:al}{m:aq}{N j:jr}{k:Nat}{l:Sp}(F:Zk K x a g f m)(S:ZB N j (Za g))(b:∀ (e:ak) (A:ay) (c:jB) (s:am) (H:Hp) (d:je) (Q:VK) (E:XK),ZU k (A.deeper (envOfC a (Za g) s.heap.objs.size f e))->l d H Q E ->
   let X:=(X7 (Yl P w) P w K mg jS N a (Za g) f e A c s H E);∃ t,Xm X (X5 g) t/\t { nx:=λ_ n=>Q .non n,rt:=Q } (UQ N d) H)(i:∀ d H Q E,l d H Q E->↑d=↑j:=by intro d _ _ _ h;cases h;(try subst d);rfl):ZI P w K mg jS (Yl P w) (k+1) f m j l:=F.okD S i b
inductive QC(a:zZ)(x y:V)(H:Hp)(Q:VK):Prop
 |mk(p b c:_)(_:x=.ref p)(_:y=.ref b)(_:ZH a H p c)(_:ZH a H b [])(_:Q (.bl (!c.isEmpty)) H)
theorem oC(f:X.A.units<cLine):XS X (aA .NotEq) (QC X.K):=by
 intro l s J H x y v u Q I C D h;let#[p,b,E,rfl,rfl,c,o,q]:=h;cases C;cases D;let#[d,z,i,F]:=I.list c;let#[a,B,k,G]:=I.list o;let g:=↑z;let t:=↑B;let n:a=[]:=wU (by rw[<-t];rfl)
 subst n
 cases E with
 | nil=>
  let m:d=[]:=wU (by rw[<-g];rfl)
  subst m;show PySem.SeqAt.RcNeAt.lists (e:=λ_=>true) i.isList k.isList Z f (λj c _=>absurd c ⋯) X.prog X.w X.xe _ (Y8 I q ⋯)
 | cons x r=>show PySem.SeqAt.RcNeAt.lists_lengths i.isList k.isList (by simp;intro e;subst e;simp at g) f X.prog X.w X.xe _ (Y8 I q Z)
end L2
namespace PySem
end PySem
namespace PySem
open Builtin Builtin.Str
theorem K8(z:Str):∀(r:jr)(a:jA),(r.foldl (λb p=>b++z.cps++p.cps) a).toList=a.toList++r.flatMap λp=>z.cps.toList++p.cps.toList
 | [],a=>by simp
 | p::r,a=>by rw[zEF,K8 z r];simp[yM]
end PySem
namespace L2
open PySem PySem.Spec PyProof.Rows
section
variable{k:Nat}{ps:jr}{sp:Sp}{x:Str}{p pos:aJ}{e:Expr}{es:jy}{t:TA}
end
end L2
namespace Tw
open PySem
def YE(c:Nat):jo:=if c=34\/c=92 then [92,c] else [c]
def Xe(i:Int):jo:=(toString i).toList.map Char.toNat
mutual
def KT.shown:KT->jo
 | .int i=>Xe i
 | .str x=>34::(x.cps.toList.flatMap YE++[34])
 | .tup l=>40::(shownL l++[41])
def shownL:jq->jo
 | []=>[]
 | t::l=>t.shown++(shownR l)
def shownR:jq->jo
 | []=>[]
 | t::l=>32::(t.shown++shownR l)
end
theorem M7:∀ l:jq,shownR l=l.flatMap λt=>32::t.shown
 | []=>by rw[shownR];rfl
 | t::l=>by rw[shownR,M7 l];simp
def Y7(c:Nat):Bool:=decide (48<=c)&&decide (c<=57)
theorem Q3(m:Nat):Xe (m:Int)=(xV 10 m).map Char.toNat:=by
 change (Nat.repr m).toList.map Char.toNat=_;rw[Nat.toList_repr]
theorem Mq(m:Nat):Xe (-((m+1:Nat):Int))=45::(xV 10 (m+1)).map Char.toNat:=by
 let e:(-((m+1:Nat):Int))=Int.negSucc m:=rfl;rw[e];change ("-" ++ Nat.repr (m+1)).toList.map Char.toNat=_;rw[String.toList_append,yX,Nat.toList_repr];rfl
theorem ql{c:Char}(h:c.isDigit=V'):Y7 c.toNat=V':=by
 unfold Char.isDigit at h;rw[zT] at h;let d:(48:UInt32)<=c.val:=by simpa using h.1
 let e:c.val<=(57:UInt32):=by simpa using h.2
 let a:48<=c.val.toNat:=UInt32.le_iff_toNat_le.mp d;let b:c.val.toNat<=57:=UInt32.le_iff_toNat_le.mp e;unfold Y7;rwa[zT,#[aM a,aM b]]
theorem LK(m:Nat):((xV 10 m).map Char.toNat).all Y7=V':=by
 rwa[vJ,zE.mpr λc a=>ql (Nat.isDigit_of_mem_toDigits (by decide) (by decide) a)]
theorem lE:∀ d:Nat,d<10->d≠0->(sO d).toNat≠48:=by decide
theorem G0(m:Nat)(h:m≠0):∃ c r,(xV 10 m).map Char.toNat=c::r/\c≠48:=by
 induction m using Nat.strongRecOn with
 | _ m f=>
  by_cases a:m<10
  .rwa[sS a,#[_,1,lE m a h]]
  .let d:m % 10<10:=Nat.mod_lt m (by decide)
   let t:xV 10 (m / 10)++xV 10 (m % 10)=xV 10 (10 * (m / 10)+m % 10):=pX (by decide) ∅ d
   rw[Nat.div_add_mod] at t;let#[c,r,e,b]:=f (m / 10) ∅ ∅
   rwa[<-t,yX,e,#[c,1,b]]
theorem NJ{m k:Nat}(g:0<k)(h:m<10 ^ k):↑(xV 10 m)<=k:=by
 induction k generalizing m with
 | zero=>lia
 | succ k f=>
  by_cases d:m<10
  .rw[sS d];simp
  .let b:m % 10<10:=Nat.mod_lt m (by decide)
   let t:xV 10 (m / 10)++xV 10 (m % 10)=xV 10 (10 * (m / 10)+m % 10):=pX (by decide) ∅ b
   rw[Nat.div_add_mod] at t;let a:0<k:=by
    rcases qZ k with e | e
    .subst e;simp at h;lia
    .show e
   let c:m / 10<10 ^ k:=by rw[Nat.pow_succ] at h;lia
   have:=f a c;rw[<-t,zS,sS b,wW]
   lia
theorem FJ:(xV 10 0).map Char.toNat=[48]:=by decide
def sg(T:jo)(i:Nat):Str:=#[⇑(T[i]?).toList]
theorem sy{T:jo}{i c:Nat}(h:T[i]?\c):sg T i=#[⇑[c]]:=by unfold sg;rw[h];rfl
theorem v5{T:jo}{i:Nat}(h:T[i]? = Y'):sg T i=#[⇑[]]:=by unfold sg;rw[h];rfl
theorem Mh{T:jo}{i c:Nat}{r:jo}(h:T.drop i=c::r):T[i]?\c:=by
 have:(T.drop i)[0]?\c:=by rw[h];rfl
 rw[rZ] at this;simpa using this
theorem nQ{T:jo}{i:Nat}(h:T.drop i=[]):T[i]? = Y':=by
 have:↑T<=i:=List.drop_eq_nil_iff.mp h;show tE this
theorem QF{T:jo}{i c:Nat}{r:jo}(h:T.drop i=c::r):T.drop (i+1)=r:=by
 rw[<-vF,h];rfl
theorem Ho{T a b:jo}{i:Nat}(h:T.drop i=a++b):T.drop (i+↑a)=b:=by
 rw[<-vF,h,uT]
def QY(a:jo):Prop:=a=[]\/∃ r,a=32::r\/a=41::r
theorem UY{c d:Nat}:((#[⇑[c]]:Str)=#[⇑[d]]) ↔ c=d:=by
 constructor
 .intro h;injection h with h;simpa using h
 .intro h;rw[h]
theorem JQ(t:KT){r:Nat}(h:t.fits r=V'):∃ c q,t.shown=c::q/\c≠41/\c≠32/\(c=34 ↔ ∃ x,t=.str x)/\(c=40 ↔ ∃ l,t=.tup l):=by
 cases t with
 | int i=>
  rw[KT.shown];let f:∃ c q,Xe i=c::q/\(c=45\/Y7 c=V'):=by
   rcases(show i<0\/0<=i by lia) with g | g
   .obtain⟨m,rfl⟩:∃ m:Nat,i = -((m+1:Nat):Int):=#[(-i).toNat-1,∅]
    rwa[Mq,#[(45),1,.inl Z]]
   .let#[m,rfl]:=yA g;show ∃ c q,Xe (m:Int)=c::q/\_;rw[Q3];let a:=LK m
    cases e:(xV 10 m).map Char.toNat with
    | nil=>
     have:↑(xV 10 m)=0:=by rw[uE.mp e];rfl
     let j:=zEV (b:=10) (n:=m)
     lia
    | cons c q=>
     rw[e,vH,zT] at a;show#[c,q,Z,.inr a.1]
  let#[c,q,e,d]:=f;let k:c=45\/(48<=c/\c<=57):=by
   rcases d with d | d
   .show .inl d
   .unfold Y7 at d;rw[zT] at d;show .inr #[of_decide_eq_true d.1,of_decide_eq_true d.2]
  show#[c,q,e,∅,∅,#[λz=>∅,λ⟨x,z⟩=>(by cases z)],#[λz=>∅,λ⟨x,z⟩=>(by cases z)]]
 | str x=>rwa[KT.shown,#[(34),1,by decide,by decide,#[λ_=>#[x,Z],λ_=>rfl],#[λz=>(by cases z),λ⟨l,z⟩=>(by cases z)]]]
 | tup l=>rwa[KT.shown,#[(40),1,by decide,by decide,#[λz=>(by cases z),λ⟨x,z⟩=>(by cases z)],#[λ_=>#[l,Z],λ_=>rfl]]]
theorem OZ(c:Nat):(YE c=[92,c]/\(c=34\/c=92))\/(YE c=[c]/\c≠34/\c≠92):=by
 unfold YE;by_cases h:c=34\/c=92
 .rwa[aP h,.inl #[Z,h]]
 .rwa[aO h,.inr #[Z,λz=>h (.inl z),λz=>h (.inr z)]]
end Tw
namespace Tw
open PySem PySem.Spec L2
variable{jP jQ CS CT CH CK CP CB:al}
def top(i:Nat):Stmt:=PySem.Challenge.pw_twigmap_k93_rows_refused.main.body.getD i (.Pass #[(0),(0),(0),(0)])
abbrev GH:Stmt:=top 15
abbrev Ir:Stmt:=top 16
abbrev JN:Stmt:=top 17
abbrev HM:Stmt:=top 18
abbrev Ma:Stmt:=top 19
abbrev HX:Stmt:=top 20
abbrev Lq:Stmt:=top 21
abbrev KZ:Stmt:=top 31
abbrev Jk:Stmt:=top 32
abbrev KK:Stmt:=top 33
abbrev Jo:Stmt:=top 34
abbrev Kv:Stmt:=top 35
abbrev Iv:Stmt:=top 36
abbrev Iu:Stmt:=top 43
abbrev Hh:Stmt:=top 44
abbrev IO:Stmt:=top 45
abbrev Iz:Stmt:=top 48
abbrev Gd:Stmt:=top 50
abbrev K3:Stmt:=top 51
abbrev LM:Stmt:=top 52
abbrev Ja:Stmt:=top 53
abbrev Ge:Stmt:=top 54
abbrev Ly:Stmt:=top 55
abbrev Iq:Stmt:=top 56
abbrev Hn:Stmt:=top 57
abbrev Id:Stmt:=top 61
abbrev Jt:Stmt:=top 62
abbrev Hi:Stmt:=top 63
abbrev Gn:Stmt:=top 64
abbrev GU:Stmt:=top 65
abbrev Gc:Stmt:=top 66
abbrev Jy:Stmt:=top 67
abbrev IV:Stmt:=top 68
abbrev KG:Stmt:=top 69
abbrev HP:Stmt:=top 71
abbrev GS:Stmt:=top 72
abbrev Hw:Stmt:=top 73
abbrev HD:Stmt:=top 74
abbrev KB:Stmt:=top 75
abbrev JC:Stmt:=top 76
abbrev Hm:Stmt:=top 78
abbrev Jz:Stmt:=top 79
abbrev Ky:Stmt:=top 82
abbrev Gk:Stmt:=top 83
abbrev GF:Stmt:=top 84
abbrev Jh:Stmt:=top 85
abbrev HH:Stmt:=top 86
abbrev IM:Stmt:=top 87
abbrev Hf:Stmt:=top 88
abbrev Hl:Stmt:=top 89
abbrev Ny:Stmt:=top 90
abbrev Q5:Stmt:=top 91
abbrev QS:Stmt:=top 92
abbrev OG:Stmt:=top 93
structure Txt(mg:jb):Prop where
 isi:mg "isinstance" = Y'
 bool:mg "bool" = Y'
 int:mg "int" = Y'
 str:mg "str" = Y'
 tuple:mg "tuple" = Y'
 list:mg "list" = Y'
 len:mg "len" = Y'
 all:mg "all" = Y'
 abs:mg "abs" = Y'
 max:mg "max" = Y'
 min:mg "min" = Y'
 range:mg "range" = Y'
 sorted:mg "sorted" = Y'
 ValueError:mg "ValueError" = Y'
 sum:mg "sum" = Y'
 figures:∃ t,mg "MOST_FIGURES" = Z' (.int 60 t)
 signs:∃ t,mg "MOST_SIGNS" = Z' (.int 40 t)
 things:∃ t,mg "MOST_THINGS" = Z' (.int 4 t)
 deep:∃ t,mg "MOST_DEEP" = Z' (.int 3 t)
 rows:∃ t,mg "MOST_ROWS" = Z' (.int 4 t)
 few:∃ t,mg "FEWEST_BRANCHES" = Z' (.int 2 t)
 most:∃ t,mg "MOST_BRANCHES" = Z' (.int 4 t)
 height:∃ t,mg "HEIGHT" = Z' (.int 0 t)
 least:∃ t,mg "LEAST" = Z' (.int 1 t)
 greatest:∃ t,mg "GREATEST" = Z' (.int 2 t)
 many:∃ t,mg "MANY" = Z' (.int 3 t)
theorem Qj:ZB ["_law_well_here","_law_many","_law_found","_law_first","_law_second"] T2 (Za GS):=Z2
theorem uu(F:Zk K "_law_pull" "_law_pull" GS f fd):ZI P w K mg jS ZX 1 f fd T2 Zm:=by
 show F.ok Qj (λz H Q E h=>?_) (λy A q s H z Q E G h=>?_)
 .let#[p,m,rfl,_]:=h;rfl
 let#[p,m,rfl,W,#[g,l],k]:=h;let#[a,b,c,d,n,i,j,r,D]:=W.ex;let o:=Qj.nd;intro B;show#[_,ZL (Zx (Z6 Y4 (Xd Z1 (pv 0) ZJ (λ_ _=>rfl)) ZJ (Zz _)) (ZR (Zl ZJ)) Z0)
  (ZL (Nk (ZW Ui (Xd Z1 (pv 0) ZJ (λ_ _=>rfl)) ZJ) (Ml (pv 0) ZJ Ld))
  (ZL (Zx (Z6 Pi (Xd Z1 (pv 0) ZJ (λ_ _=>rfl)) ZJ (Zz _))
   (ZL (Zh 2 o (ZW OR (Xd Z1 (pv 0) ZJ (λ_ _=>rfl)) (pv 1)))
   (ZL (Nk (ZW wg (Xd Z1 (pv 0) ZJ (λ_ _=>rfl)) (pv 1)) (Ml (pv 0) ZJ Ld))
   (ZR (Zl (pv 2))))) Z0)
  (ZL (Nk (ZW Yo (Xd Z1 (pv 0) ZJ (λ_ _=>rfl)) ZJ) (Ml (pv 0) ZJ Ld))
  (ZL (Zh 3 o (ZW OR (ZW NZ (ZW Yo (Xd Z1 (pv 0) ZJ (λ_ _=>rfl)) ZJ) (ZW Yo ZJ (ZW NZ ZJ (Xd Z1 (pv 0) ZJ (λ_ _=>rfl))))) ZJ))
  (ZL (Zh 4 o (ZW OR (ZW NZ (ZW Yo (ZW HG (pv 3) ZJ) ZJ) (ZW Yo (ZW OR (pv 3) ZJ) ZJ)) ZJ))
  (ZR (Zl (ZW OR (ZW HG (pv 4) ZJ) (pv 1))))))))),?_]
 exists 1,p,_,_,1,Z,ZH.of n,Z,Z,_,Z;show Ys (λ_=>?_) (λu=>?_)
 .show k 0 H (Int.le_refl 0) g W (ZA.refl p H)
 let C:d≠0:=λe=>u (aM (by rw[e]))
 exists 1,p,_,_,1,Z,ZH.of n,Z,_,1,Z,1,p,_,_,1,Z,n,Z;exists 1,p,_,_,1,Z,ZH.of ZY,Z,_,1,Z,_,Z;show Ys (λv=>?_) (λv=>?_)
 .exists 1,p,_,_,1,Z,ZH.of ZY,Z,1,_,1,Z,g;exists 1,p,_,_,1,Z,ZH.of ZY,Z,1,_,1,Z,#[g,l],1,p,_,_,1,Z,ZY,Z;exists _,Z;show k (c % m) _ (uS _ ∅) (uL _ g) #[a,b,c / m,d-1,ZY,i,j,Int.ediv_nonneg r ∅,∅] (ZA.refl p H).upd.upd
 .exists 1,p,_,_,1,Z,ZH.of ZY,Z,_,1,Z,1,p,_,_,1,Z,ZY,Z;exists 1,p,_,_,1,Z,ZH.of ZY,Z,_,1,Z,1,p,_,_,1,Z,ZH.of ZY,Z,_,1,Z,.inl #[by decide,by decide],_,1,Z,_,1,Z,.inl #[∅,∅],_,1,Z,(by change (0:Int)<2147483629;decide)
  generalize t:(a+1) * (48271+7919 * (b+1)) % 2147483629=x;let I:0<=x:=by rwa[<-t,uS _ (by decide)]
  let J:x<2147483629:=by rwa[<-t,uL _ (by decide)]
  exists 1,_,1,Z,#[by decide,by decide],_,1,Z,1,_,1,Z,(by change (0:Int)<1009;decide),_,1,Z,_,1,Z,.inl #[∅,∅],_,1,Z,(by change (0:Int)<1000000007;decide)
  exists 1,_,1,Z,#[by decide,by decide],1,_,1,Z,g
  show k _ _ (uS _ ∅) (uL _ g) #[a,b+1,c,d-1,ZY,i,j,r,∅] (ZA.refl p H).upd.upd
theorem U4:ZB ["_law_well_here","_law_bound","_law_found","_law_j"] Tn (Za Hw):=Z2
theorem qe(F:Zk K "_law_great" "_law_great" Hw f fd)(T:Txt mg)(v:ZC P w K mg jS 1 "_law_pull" T2 Zm):ZI P w K mg jS ZX 2 f fd Tn Zm:=by
 show F.ok U4 (λG H Q E h=>?_) (λB A q s H G Q E x h=>?_)
 .let#[p,m,rfl,_]:=h;rfl
 let#[p,m,rfl,W,g,k]:=h;let#[a,b,c,d,C,_]:=W.ex;let o:=U4.nd;intro J;show#[_,ZL (Zx (Z6 Pi (Xd Z1 (pv 0) ZJ (λ_ _=>rfl)) ZJ (Zz _)) (ZR (Zl (Ze v x (Zg (pv 0) (Zg (pv 1) Zv))))) Z0)
  (ZL (Zh 2 o ZJ)
  (ZL (WZ PassesOwn.never Z (QO Z T.range (Zg ZJ Zv)) (WB 3 o)
   (ZR (Zh 2 o (ZW Yo (ZW NZ (pv 2) ZJ) (Ze v x (Zg (pv 0) (Zg ZJ Zv)))))))
  (ZR (Zl (ZW OR (pv 2) (pv 1)))))),?_]
 exists 1,p,_,_,1,Z,ZH.of C,Z,_,1,Z,_,Z;show Ys (λ_=>?_) (λ_=>?_)
 .show#[2,p,m,Z,W,g,k]
 show#[(8),Z,by decide,by decide,Pk (n:=8) (λi u e=>∃(z:Int)(j:jf),u=[Z' (.ref p),Z' (.int m),Z' (.int z),j]/\ZG e p/\ZA p H e) #[(0),Y',Z,W,ZA.refl p H] ?_ ?_]
 .rintro i u e L ⟨z,j,rfl,l,t⟩;exists 1,_,1,Z,.inr #[by decide,by decide],1,p,(62500000),Z,l,XZ (by decide) (by decide)
  intro r I _ _ y D;show#[_,1,Z,_,1,y,t.trans D]
 .rintro u e ⟨z,j,rfl,l,t⟩;exists 2,_,1,Z,g.1;show k _ _ (uS _ (by have:=g.1;lia)) (uL _ g.1) l t
def Yr:Str:= " \"\\~!#$&'()*+,-./0123456789:;<=>?@ABCDEFGHIJKLMNOPQRSTUVWXYZ[]^_`abcdefghijklmnopqrstuvwxyz{|}"
theorem nw:↑Yr.cps.toList=94:=by decide +kernel
theorem Fj:Yr.length=94:=by decide +kernel
theorem A7:Yr.cps.toList.all WS=V':=by decide +kernel
theorem TW{i:Int}(a:0<=i)(b:i<94):∃ c,Vx Yr.cps.toList i\c/\WS c=V':=by
 let#[c,e,m]:=HN (xs:=Yr.cps.toList) a #v[nw,b]
 show#[c,e,zE.mp A7 c m]
def Wk(x:Str)(i:Nat):Prop:=x.cps.size<=i/\x.cps.toList.all WS=V'
theorem Wk.ok{x:Str}{i:Nat}(h:Wk x i)(a:i<=40):QW x=V':=by
 unfold QW;rwa[zT,#[aM (zK h.1 a),h.2]]
theorem Wk.more{x:Str}{i c:Nat}(h:Wk x i)(a:WS c=V'):Wk (x++(#[⇑[c]]:Str)) (i+1):=by
 let e:(x++(#[⇑[c]]:Str)).cps=x.cps++⇑[c]:=rfl;exists ?_
 .rwa[e,rA,tQ h.1]
 .rw[e,Array.toList_append,zEG,h.2];simp[a]
abbrev ze:jr:=["_law_well_here","_law_signs","_law_text_here","_law_few","_law_j","_law_sign"]
theorem Qu:ZB ze TY (Za HD):=Z2
theorem vx(F:Zk K "_law_text" "_law_text" HD f fd)(T:Txt mg)(B:ZC P w K mg jS 1 "_law_pull" T2 Zm):ZI P w K mg jS ZX 2 f fd TY VE:=by
 show F.ok Qu (λvs H Q E h=>?_) (λa2 A a1 s H vs Q E I h=>?_)
 .let#[p,rfl,_]:=h;rfl
 let#[p,rfl,W,k]:=h;let o:=Qu.nd;intro Xc;show#[_,ZL (Zh 1 o Zu) (ZL (Zh 2 o Zu)
  (ZL (Zh 3 o (Ze B I (Zg (pv 0) (Zg ZJ Zv))))
  (ZL (WZ PassesOwn.never Z (QO Z T.range (Zg (Ze B I (Zg (pv 0) (Zg (Xd Z1 (YY (Zg ZJ (Zg ZJ Zv))) (Ze B I (Zg (pv 0) (Zg ZJ Zv))) (λ_ _=>rfl)) Zv))) Zv)) (WB 4 o)
   (ZL (Zh 5 o Zu)
   (ZL (Zx (Pe (Z6 Pi (pv 3) ZJ (Zz _)) (Pc (Z6 Y4 (Ze B I (Zg (pv 0) (Zg ZJ Zv))) ZJ (Zz _)))).pt
    (ZR (Zh 5 o (Xd LU (pv 1) (Ze B I (Zg (pv 0) (Zg (Xd Z1 (YY (Zg ZJ (Zg ZJ Zv))) (ZW HG (pv 3) ZJ) (λ_ _=>rfl)) Zv))) (λ_ _=>rfl)))) Z0)
   (ZR (Zh 2 o (ZW WR (pv 2) (pv 5)))))))
  (ZR (Zl (pv 2)))))),?_]
 exists 1,p,(3),Z,W,XZ (by decide) (by decide)
 intro J H1 a3 a4 W1 s1;exists 1,(by change 2<=au;decide)
 intro l X;let O:ZG (upd H1 l (.lst [.int 4,.int 41])) p:=W1.same (Zr X _);exists 1,p,(2),Z,O,XZ (by decide) (by decide)
 intro r H2 r0 r1 W2 s2;let a0:l≠p:=by
  let#[xs,e]:=W1.some;show(Zf e X).symm
 let a:H2 l\.lst [.int 4,.int 41]:=s2 l _ ZY a0;let#[v,hv,Y]:=MU (x:=V.int 4) (y:=V.int 41) r0 r1;let hb:∃ z:Int,v=.int z/\0<z/\z<=41:=by
  rcases Y with e | e
  .show#[(4),e,by decide,by decide]
  .show#[(41),e,by decide,by decide]
 let#[z,rfl,z0,z1]:=hb;exists l,_,_,1,Z,ZH.of a,hv,p,z,Z,W2,XZ z0 ∅
 intro n H3 n0 n1 W3 s3;let sA:ZA p H H3:=(s1.trans (ZA.of (Zr X _))).trans (s2.trans s3);show#[n,Z,∅,∅,Pk (n:=n.toNat) (λi σ t=>∃(x:Str)(j g:jf),σ=[Z' (.ref p),Z' (.str Yr),Z' (.str x),Z' (.int J),j,g]/\Wk x i/\ZG t p/\ZA p H t)
  #["",Y',Y',Z,#[by decide,by decide],W3,sA] ?_ ?_]
 .rintro i σ t hi ⟨x,j,g,rfl,N,C,q⟩;let m:∀(c:Nat)(b:Hp),WS c=V'->ZG b p->ZA p H b->∃(y:Str)(j g:jf),[Z' (V.ref p),Z' (.str Yr),Z' (.str (x++(#[⇑[c]]:Str))),Z' (.int J),Z' (.int (0+(i:Int))),Z' (.str #[⇑[c]])]=[Z' (.ref p),Z' (.str Yr),Z' (.str y),Z' (.int J),j,g]/\Wk y (i+1)/\ZG b p/\ZA p H b:=
   λc b G D L=>#[_,_,1,N.more G,D,L]
  let d:∀ c:Nat,↑x+↑(#[⇑[c]]:Str)<=sizeLine:=λc=>by
   let h1:↑x<=i:=N.1;let h2:↑(#[⇑[c]]:Str)=1:=rfl;rwa[h2,nn ∅]
  let M:∀ b,ZG b p->ZA p H b->∃(v:Int),0<v/\v<=94/\Vx [V.int 94,V.int 5] (J / 2)\.int v:=λb _ _=>by
   let#[v,e,h]:=MU (x:=V.int 94) (y:=V.int 5) (i:=J / 2) ∅ ∅
   rcases h with rfl | rfl
   .show#[(94),by decide,by decide,e]
   .show#[(5),by decide,by decide,e]
  exists 1,_,1,Z,_,Z;show Ys (λ_=>?_) (λ_=>?_)
  .show Zq ?_;exists 2,(by change 2<=au;decide)
   intro l2 a;let#[v,v0,v1,U]:=M t C q;exists 1,_,1,Z,#[by decide,by decide],l2,_,_,1,Z,ZH.of ZY,U,p,v,Z,C.same (Zr a _),XZ v0 ∅
   intro u b u0 u1 D L;let#[c,S,G]:=TW u0 ∅
   exists Yr,_,c,Z,Z,#v[Fj,nn (by decide)],S
   show#[2,_,1,Z,d c,m c b G D ((q.trans (ZA.of (Zr a _))).trans L)]
  .show#[1,p,(8),Z,C,XZ (by decide) (by decide),λy H6 _ _ R s6=>#[Z,1,?_]]
   show Ys (λ_=>?_) (λ_=>?_)
   .exists 2,(by change 2<=au;decide)
    intro l2 a;let#[v,v0,v1,U]:=M H6 R (q.trans s6);exists 1,_,1,Z,#[by decide,by decide],l2,_,_,1,Z,ZH.of ZY,U,p,v,Z,R.same (Zr a _),XZ v0 ∅
    intro u b u0 u1 D L;let#[c,S,G]:=TW u0 ∅
    exists Yr,_,c,Z,Z,#v[Fj,nn (by decide)],S
    show#[2,_,1,Z,d c,m c b G D (((q.trans s6).trans (ZA.of (Zr a _))).trans L)]
   .show#[2,_,1,Z,d 97,m 97 H6 (by decide) R (q.trans s6)]
 .rintro σ t ⟨x,j,g,rfl,N,C,q⟩;show#[1,k x t (N.ok ∅) C q]
theorem Ou:ZB ["_law_well_here","_law_room","_law_way"] TL (Za KB):=Z2
theorem qc{k:Nat}:ZI P w K mg jS ZX k f fd TL (WM 0):=by
 let c:∀ a H Q E,¬ WM 0 a H Q E:=λa H Q E h=>by
  let#[p,r,_,_,d,_]:=h
  lia
 show#[λa H Q E h=>absurd h (c a H Q E),λA b s H args e a Q E _ _ _ _ h=>absurd h (c a H Q E)]
theorem xx{n:Nat}(F:Zk K "_law_key" "_law_key" KB f fd)(T:Txt mg)(DP:ZC P w K mg jS 1 "_law_pull" T2 Zm)(DG:ZC P w K mg jS 2 "_law_great" Tn Zm)(DT:ZC P w K mg jS 2 "_law_text" TY VE)(DK:ZC P w K mg jS (n+2) "_law_key" TL (WM n)):ZI P w K mg jS ZX (n+3) f fd TL (WM (n+1)):=by
 show F.ok Ou (λvs H Q E h=>?_) (λa1 A a0 s H vs Q E hr h=>?_)
 .let#[p,r,rfl,_]:=h;rfl
 let#[p,r,rfl,W,hn,k]:=h;let nd:=Ou.nd;let q:=hr.mono (show 1<=n+2 by lia)
 let L:=hr.mono (show 2<=n+2 by lia)
 intro Xc;show#[_,ZL (Zh 2 nd (Ze DP q (Zg (pv 0) (Zg ZJ Zv))))
  (ZL (Zx (Z6 OA (pv 2) ZJ (Zz _)) (ZR (Zl (ZW Ui (Ze DP q (Zg (pv 0) (Zg ZJ Zv))) ZJ))) Z0)
  (ZL (Zx (Z6 Y4 (pv 2) ZJ (Zz _)) (ZR (Zl (ZW Yo (ZW Ui (Ze DG L (Zg (pv 0) (Zg (ZW Ui (ZW NZ ZJ (ZW Kj ZJ ZJ)) ZJ) Zv))) (ZW Kj ZJ ZJ)) ZJ))) Z0)
  (ZL (Zx (Pe (Z6 OA (pv 2) ZJ (Zz _)) (Pc (Z6 Y4 (pv 1) ZJ (Zz _)))).pt (ZR (Zl (Ze DT L (Zg (pv 0) Zv)))) Z0)
  (ZR (Zl (VD KU Z T.tuple Nr (Zg (VT [0,1] TL Z (QO Z T.range (Zg (Ze DP q (Zg (pv 0) (Zg ZJ Zv))) Zv)) (λ_ _ _ _ _=>VH)
   (λ_ _ _ _ _=>Ze DK hr (Zg (pv 1) (Zg (ZW Ui (pv 2) ZJ) Zv))) #[Z,.inl Z,Z,Z,.inl Z,Z,trivial]) Zv))))))),?_]
 exists 1,p,(8),Z,W,XZ (by decide) (by decide)
 intro y H1 y0 y1 S Y;exists 1,_,1,Z,_,Z;show Ys (λ_=>?_) (λc1=>?_)
 .show#[1,p,(41),Z,S,XZ (by decide) (by decide),λu j u0 u1 d C=>#[_,1,Z,?_]]
  show k (.int (u-20)) (.int (u-20)) j (ZE.int _) ?_ d (Y.trans C);rw[KT.fits];let e:(10:Nat) ^ 60 > 1000:=by decide
  show aM ∅
 exists 1,Z,_,Z;show Ys (λ_=>?_) (λc2=>?_)
 .exists 1,_,1,Z,#[by decide,by decide,by decide],_,1,Z,.inl #[by decide,by decide],_,1,Z,p,1,S,XZ (by decide +kernel) (by decide +kernel)
  intro u j u0 u1 d C;exists _,1,Z,#[by decide,by decide,by decide],_,1,Z,_,1,Z
  show k _ (.int _) j (ZE.int _) ?_ d (Y.trans C);let e:((10:Int) ^ (60:Int).toNat)=((10 ^ 60:Nat):Int):=by decide +kernel
  rw[e] at u1;rw[KT.fits,e];generalize (10 ^ 60:Nat)=N at *;show aM ∅
 let O:VE ([.ref p]++[]) H1 Q E0:=#[p,Z,S,λx j hx d C=>k (.str x) (.str x) j (ZE.str x) #v[KT.fits,hx] d (Y.trans C)]
 exists 1,_,1,Z,_,Z;show Ys (λ_=>?_) (λ_=>?_)
 .show Zq #[1,O]
 exists 1,Z,_,Z;show Ys (λ_=>?_) (λc3=>?_)
 .show#[1,O]
 let r0:r≠0:=λe=>c3 (aM (by rw[e];rfl))
 show#[1,p,(5),Z,S,XZ (by decide) (by decide),λu j u0 u1 d C=>#[u,Z,∅,∅,?_]]
 let sB:ZA p H j:=Y.trans C;show Wr (n:=u.toNat) (λi x=>x=.int (0+(i:Int))) (λD i a c=>ZG c p/\ZA p H c/\D≠p/\H D=Y'/\∃ G,jK c G a/\↑G=i/\fitsL G (r-1)=V') (YQ ∅)
  (λD i a c hi _=>hi) (λD i a c x m hi _ hy=>hy) (λD a c _=>zW _) (λD J=>?_) (λD i a c x eD hl hi hx hP R hR=>?_) (λD a c eD hP=>?_)
 .let B:D≠p:=by
   let#[xs,e]:=d.some;show(Zf e J).symm
  let M:H D=Y':=by
   cases e:H D with
   | none=>rfl
   | some o=>erw[sB D o e B] at J
  show#[d.same (Zr J _),sB.trans (ZA.of (Zr J _)),B,M,[],.nil,Z,by rw[fitsL]]
 .let#[U,s3,B,M,G,hk,g,X]:=hP;let er:(r:Int)-1=((r-1:Nat):Int):=∅
  exists 2,_,1,Z,p,r-1,congrArg (λz=>[V.ref p,V.int z]) er,U,by lia
  intro v t m hv ht W4 s4;let I:=s4 D _ eD B;let sD:ZA D m (upd m D (.lst (a++[v]))):=(ZA.refl D m).upd;let tD:XB m (upd m D (.lst (a++[v]))):=sD.tups I;show hR v m I #[W4.stay sD B.symm,λb o e n=>?_,B,M,G++[t],((jK.mono (s4.tupsW U) _ _ hk).append (.cons hv .nil)).mono tD _ _,by simp[g],?_]
  .rwa[ZT (Zf e M),(s3.trans s4) b o e n]
  .rw[QX] at X⊢;rw[zEG,X];simp[ht]
 .let#[U,s3,B,M,G,hk,g,X]:=hP;show#[D,a,Z,.inl #[ZH.of eD,λl hl=>?_]];let sl:=Zr hl (.tup a);show k (.ref l) (.tup G) _ (.tup ZY (hk.sm sl)) ?_ (U.same sl) (s3.trans (ZA.of sl));rwa[KT.fits,X,Bool.and_true,zT,#[aM ∅,aM ∅]]
abbrev RL:jr:=["_law_script","_law_k","_law_left","_law_cell","_law_digits"]
theorem Qb:ZB RL Tb (Za HP):=Z2
theorem ww(F:Zk K "_law_well" "_law_well" HP f fd)(T:Txt mg):ZI P w K mg jS ZX 1 f fd Tb (Ub K):=by
 show F.ok Qb (λvs H Q E h=>?_) (λX A L s H vs Q E hr h=>?_)
 .let#[a,g,k,rfl,_]:=h;rfl
 let#[a,g,k,rfl,u,hn,k0,k1,q]:=h;let J:=Qb.nd;intro Xc;show#[_,ZL (Zh 2 J (Xd Z1 (YY (Zg ZJ (Zg ZJ Zv))) (VD BV Z T.int Nc (Zg (Pm Y4 (pv 1) ZJ (Zz _)) Zv)) (λ_ _=>rfl)))
  (ZL (Zh 3 J (Xd Z1 (ZW Xn (VD LJ Z T.list Mj (Zg (pv 0) Zv)) (YY (Zg ZJ Zv))) (ZW OR (pv 1) (Zp (Ij Z) Z T.max Jj (Zg ZJ (Zg (Zp YO Z T.len YK (Zg (pv 0) Zv)) Zv)))) (λ_ _=>rfl)))
  (ZL (Zh 4 J (ZW NZ (Zp Ia Z T.abs GP (Zg (pv 3) Zv)) (VD BV Z T.int Nc (Zg (LP (Pm zd (Zp Ia Z T.abs GP (Zg (pv 3) Zv)) (ZW Kj ZJ ZJ) (Zz _)) (LV (Pm OA (pv 1) (Zp YO Z T.len YK (Zg (pv 0) Zv)) (Zz _)))) Zv))))
  (ZR (Zl (YY (Zg (ZW OR (pv 3) ZJ) (Zg (ZW NZ ZJ (pv 1)) (Zg (pv 4) (Zg (pv 2) Zv))))))))),?_]
 exists (by change 2<=au;decide)
 intro l1 v;let O:=Zr v (.lst [V.int 240,V.int 2400]);show#[1,Z,.inr #[1,?_]];obtain⟨lv,t,D⟩:∃ z:Int,Vx [V.int 240,V.int 2400] (if decide (V.int k=V.int 0)=V' then 1 else 0)\.int z/\0<=z:=by
  split
  .show#[(2400),Z,by decide]
  .show#[(240),Z,by decide]
 exists l1,_,_,1,Z,ZH.of ZY,t;exists 1,a,1,.inl (O.seq u);intro S y;let g2:=O.trans (Zr y (.lst (g.map V.int)));exists (by change 1<=au;decide)
 intro U n;let g3:=g2.trans (Zr n (.lst [V.int 0]));let I:S≠U:=Zf ZY n;exists S,U,_,1,Z,#v[ZT I,ZY],ZY,#v[zY,nn (by change ↑g+1<=1000;lia)]
 intro l4 B;let p:=g3.trans (Zr B (.lst (g.map V.int++[V.int 0])));exists 2,a,1,.inl (p.seq u),_,_,Z;let C:↑(g.map V.int)=↑g:=zY _;generalize R:(if ((↑(g.map V.int):Nat):Int) > 1 then ((↑(g.map V.int):Nat):Int) else 1)=M
 let M1:1<=M/\M<=(↑g:Int)+1:=by
  rw[C] at R;rw[<-R];split <;> lia
 exists _,1,Z,by lia
 let i0:0<=k % M:=uS _ ∅
 let i1:k % M<M:=uL _ ∅
 let#[Y,r,G]:=HN (xs:=g.map V.int++[V.int 0]) i0 (by rw[zS,zY,wW];lia)
 obtain⟨c,rfl⟩:∃ z:Int,Y=.int z:=by
  rcases yY.mp G with m | m
  .let#[z,_,e]:=zA.mp m;show#[z,e.symm]
  .show#[(0),zP.mp m]
 exists l4,_,_,1,Z,ZH.of ZY,r;let l:∀ b:Bool,0<=(if c<0 then -c else c) * (if b=V' then 1 else 0):=λb=>by
  cases b
  .simp
  .simp;split <;> lia
 let N:∀(x:Int)(b:Bool),P8 x (if b=V' then 1 else 0):=λx b=>.inr (by cases b <;> show#[by decide,by decide])
 let j:∀(z:Int)(o:Hp),0<=z->ZD H o->∀ i,o i=Y'->Q (.ref i) (upd o i (.lst [.int (c % 2147483647),.int (1000 * k),.int z,.int lv])):=λz o z0 W i d=>
  q i _ (W.free d) (W.trans (Zr d _)) #[_,_,_,_,ZY,uS _ (by decide),uL _ (by decide),z0,D]
 exists 4,_,1,Z,#[by decide,by decide,by decide],_,1,Z,_,Z
 show Ys (λ_=>?_) (λ_=>?_)
 .show#[2,a,1,.inl (p.seq u),_,1,Z,.inr #[1,_,1,Z,N _ _,?_]];exists 1,_,1,Z,(by change (0:Int)<2147483647;decide),1,_,1,Z,.inl #[by decide,by decide],2,(by change 4<=au;decide)
  intro i d;show j _ _ (l _) p i d
 .show .inr #[1,_,1,Z,N _ false,?_];exists 1,_,1,Z,(by change (0:Int)<2147483647;decide),1,_,1,Z,.inl #[by decide,by decide],2,(by change 4<=au;decide)
  intro i d;show j _ _ (l false) p i d
theorem RX:ZB Tv Tv (Za HM):=Z2
theorem yb(F:Zk K "has_few_figures" "has_few_figures" HM f fd)(T:Txt mg):ZI P w K mg jS ZX 1 f fd Tv Uq:=by
 show F.ok RX (λc H Q E h=>?_) (λb A a s H c Q E g h=>?_)
 .let#[i,rfl,_]:=h;rfl
 let#[i,rfl,q]:=h;intro d;exists _,ZR (Zl (Pm OA (Zp Ia Z T.abs GP (Zg (pv 0) Zv)) (ZW Kj ZJ ZJ) (Zz _)));exists 2,_,1,Z,#[by decide,by decide,by decide],_,1,Z
 let e:=ye i;rw[<-e] at q;show q
theorem A1:ZB TX TX (Za Ma):=Z2
theorem vb(F:Zk K "is_sign" "is_sign" Ma f fd):ZI P w K mg jS ZX 1 f fd TX Va:=by
 show F.ok A1 (λk H Q E h=>?_) (λi A d s H k Q E m h=>?_)
 .let#[c,rfl,_]:=h;rfl
 let#[c,rfl,q]:=h;intro l;exists _,ZR (Zl (Ht Nv Nv Zu (pv 0) Zu));let g:(zX " ").cps.toList=[32]:=by decide +kernel
 let j:(zX "~").cps.toList=[126]:=by decide +kernel
 let e:=B0 c;exists 1,_,1,Z,_,Z;show Ys (λb=>?_) (λb=>?_)
 .exists _,1,Z;let a:(!decide ([c]<[32]))=V':=by rwa[<-g,b]
  rw[a,uI] at e;rw[<-e,<-j] at q;show q
 .let a:(!decide ([c]<[32]))=false:=by rwa[<-g,uM.mpr b]
  rw[a,vG] at e;rw[<-e] at q;show q
structure ZZ(K:zZ)(mg:jb)(x:Str)(st:aD)(ps:jr):Prop where
 ex:∃ f fd,Zk K x x st f fd/\Zi K fd ps []/\mg x\.ref f
theorem ZZ.of{P:ao}{w:ax}{K:zZ}{d:jb}{a:aE}{x:Str}{i:aD}{e:jr}{k:Nat}{g:Sp}(L:ZZ K d x i e)(h:∀ f c,Zk K x x i f c->ZI P w K d a ZX k f c e g):ZC P w K d a k x e g:=by
 let#[f,c,F,b,m]:=L.ex;show#[f,c,h f c F,b,F.kp,m]
theorem JK{K:zZ}{h:aE}{o:jb}{x:Str}{b:aD}{j:jr}{f:al}{s d:jx}{t:Array (jc)}{r kV p i n ct:ak}(X:K.In h)(G:h.Ns ar o)(a:zD K ar x\Z' (.ref f))(l:K.lookup f\#[r,s,.func (xR x x (Ur b) (X5 b) (Za b) .none kV p i d n ct),t])(c:wE K n x=V')(k:yF K (.ref f)=V')(q:∀ (kV g i:ak) (d:jx) (e ct:ak) (m:jd),↑m=↑j->bindArgs (xR x x (Ur b) (X5 b) (Za b) .none kV g i d e ct) #[m,[]]=pure (j.zip m):=by show λ_ _ _ _ _ _=>bxN _ _ (by(repeat intro _);show Z)):ZZ K o x b j:=
 #[f,_,NK (st:=b) l c k,(NK (st:=b) l c k).binds q,yJ X G a]
theorem Di(T:Txt mg)(L:ZZ K mg "_law_key" KB TL)(b:ZC P w K mg jS 1 "_law_pull" T2 Zm)(a:ZC P w K mg jS 2 "_law_great" Tn Zm)(c:ZC P w K mg jS 2 "_law_text" TY VE):∀ n:Nat,ZC P w K mg jS (n+2) "_law_key" TL (WM n)
 | 0=>L.of λ_ _ _=>qc
 | n+1=>L.of λ_ _ F=>xx F T b a c (Di T L b a c n)
theorem u8{d:Sp}{k:Nat}{e:jr}(c:∀ a H Q E,¬ d a H Q E):ZI P w K mg jS ZX k f fd e d:=
 #[λa H Q E h=>absurd h (c a H Q E),λA b s H args g a Q E _ _ _ _ h=>absurd h (c a H Q E)]
theorem y7:ZB TH TH (Za JN):=Z2
theorem mW{k:Nat}:ZI P w K mg jS ZX k f fd TH (WH 0):=by
 let c:∀ a H Q E,¬ WH 0 a H Q E:=λa H Q E h=>by
  let#[v,t,r,q,_,_,_,d,_]:=h
  lia
 show#[λa H Q E h=>absurd h (c a H Q E),λA b s H args e a Q E _ _ _ _ h=>absurd h (c a H Q E)]
theorem vj{n:Nat}(F:Zk K "fits" "fits" JN f fd)(T:Txt mg)(DW:ZC P w K mg jS 1 "has_few_figures" Tv Uq)(DS:ZC P w K mg jS 1 "is_sign" TX Va)(DF:ZC P w K mg jS (n+1) "fits" TH (WH n)):ZI P w K mg jS ZX (n+2) f fd TH (WH (n+1)):=by
 show F.ok y7 (λp H Q E h=>?_) (λa3 A a2 s H p Q E hr h=>?_)
 .let#[v,t,r,q,rfl,_]:=h;rfl
 let#[v,t,r,q,rfl,g,hq,hn,k]:=h;let W:=hr.mono (show 1<=n+1 by lia)
 let#[t1,m1]:=T.signs;let#[t2,m2]:=T.things;intro Xc;show#[_,ZL (Zx (WU (Zp QH Z T.isi UK (Zg (pv 0) (Zg (U3 (v:=.ty "bool") Z T.bool Eu Z) Zv)))) (ZR (Zl MC)) Z0)
  (ZL (Zx (WU (Zp QH Z T.isi UK (Zg (pv 0) (Zg (U3 (v:=.ty "int") Z T.int Nc Z) Zv)))) (ZR (Zl (Ze DW W (Zg (pv 0) Zv)))) Z0)
  (ZL (Zx (WU (Zp QH Z T.isi UK (Zg (pv 0) (Zg (U3 (v:=.ty "str") Z T.str UL Z) Zv))))
   (ZR (Zl (LP (Pm Qf (Zp Bd Z T.len YK (Zg (pv 0) Zv)) (Xo (v:=.int 40) Z m1 #[_,Z]) (Zz _))
    (LV (Zp (K9 Z) Z T.all KO (Zg (VT [] [] Z (FN (pv 0)) (λ_ _ _ _ _=>VH) (λ_ _ _ _ _=>Ze DS W (Zg (pv 0) Zv)) trivial) Zv)))))) Z0)
  (ZL (Zx (WU (Zp QH Z T.isi UK (Zg (pv 0) (Zg (U3 (v:=.ty "tuple") Z T.tuple Nr Z) Zv))))
   (ZR (Zl (LP (Pm Pi (pv 1) ZJ (Zz _)) (LP (Pm Qf (Zp YO Z T.len YK (Zg (pv 0) Zv)) (Xo (v:=.int 4) Z m2 #[_,Z]) (Zz _))
    (LV (Zp (K9 Z) Z T.all KO (Zg (VT [1] ["room"] Z (Lr (pv 0)) (λ_ _ _ _ _=>VH) (λ_ _ _ _ _=>Ze DF hr (Zg (pv 0) (Zg (ZW Ui (pv 1) ZJ) Zv))) #[Z,.inl Z,Z,trivial]) Zv))))))) Z0)
  (ZR (Zl MC))))),?_]
 cases t with
 | int i=>
  let ev:v=.int i:=by rw[ZE] at g;show g
  subst ev;show#[1,_,_,_,1,g.ty,xr,1,Zo ?_];show#[1,_,_,_,1,g.ty,IC,1,Zq ?_];let u:=k H (ZD.refl H);rw[KT.fits] at u;show#[1,i,Z,u]
 | str x=>
  let ev:v=.str x:=by rw[ZE] at g;show g
  subst ev;let hx:QW x=V':=by rw[KT.fits] at hq;show hq
  let B:=hx;unfold QW at B;rw[zT] at B;let O:↑x<=40:=of_decide_eq_true B.1;show#[1,_,_,_,1,g.ty,xp,1,Zo ?_];show#[1,_,_,_,1,g.ty,JV,1,Zo ?_];show#[1,_,_,_,1,g.ty,MP,1,Zq ?_];exists 1,x,Z,nn ∅,_,1,Z,_,Z
  rw[aP (aM (show (↑x:Int)<=40 by lia))]
  exists 1,x,Z;let a7:x.cps.size<=40:=O;show Wr (n:=x.cps.size) (λi z=>∃ c,x.cps[i]?\c/\z=.str #[⇑[c]]) (λD i m d=>ZD H d/\H D=Y'/\m=((x.cps.toList.take i).map WS).map V.bl) (YQ ∅)
   (λD i m d J _=>J) (λD i m d z H4 J _ hy=>hy) (λD m d _=>rfl) (λD N=>#[Zr N _,N,Z]) (λD i m d z G hl J hz j R hR=>?_) (λD m d G j=>?_)
  .let#[c,hc,rfl]:=hz;let#[C,L,rfl]:=j;exists 1,c,Z;show hR _ d G #[λb o e=>#v[ZT (Zf e L),C b o e],L,?_]
   let a0:x.cps.toList[i]?\c:=by simpa using hc
   rw[yR,a0];simp
  .let#[C,L,rfl]:=j;exists D,1,ZH.of G;let u:=k d C;rw[KT.fits,hx] at u;let M:(x.cps.toList.take x.cps.size)=x.cps.toList:=yH ⋯
   rw[M];let I:(x.cps.toList.map WS).all id=V':=#v[vJ,B.2]
   rwa[I,u]
 | tup l=>
  let X:=g;rw[ZE] at X;let#[a,p,rfl,I,Y]:=X;let hl:=↑Y;rw[KT.fits,zT,zT] at hq;let#[a6,S,U]:=hq;let a5:↑l<=4:=of_decide_eq_true S;show#[1,_,_,_,1,g.ty,vu,1,Zo ?_];show#[1,_,_,_,1,g.ty,GN,1,Zo ?_];show#[1,_,_,_,1,g.ty,Ks,1,Zo ?_];show#[1,_,_,_,1,g.ty,BP,1,Zq ?_];exists 1,_,1,Z,_,Z;show Ys (λc1=>?_) (λc1=>?_)
  .let r0:0<r:=by
    have:=of_decide_eq_true c1
    lia
   exists 1,a,p,Z,.inr (Zd.of I),_,1,Z,_,Z;rw[aP (aM (show ((↑p:Nat):Int)<=4 by lia))]
   exists 1,a,Z,#[p,Zd.of I];show Wr (n:=↑p) (λi z=>p[i]?\z) (λD i m d=>ZD H d/\H D=Y'/\m=((l.take i).map λt=>t.fits (r-1)).map V.bl) (YQ ∅)
    (λD i m d J j=>#[p,p[i],Zd.of (j.1 _ _ I),by simp[J]]) (λD i m d z H4 J j hy=>#[hy.1,hy.2 p (Zd.of (j.1 _ _ I))]) (λD m d j=>#[p,Zd.of (j.1 _ _ I),zW _])
    (λD N=>#[Zr N _,N,Z]) (λD i m d z G a4 J hz j R hR=>?_) (λD m d G j=>?_)
   .let#[C,L,rfl]:=j;let#[t,M,kt]:=Y.get hz;let er:(r:Int)-1=((r-1:Nat):Int):=∅
    let a1:t.fits (q-1)=V':=by
     rw[QX] at U;show zE.mp U t (zI M)
    exists 2,_,1,Z,z,t,r-1,q-1,congrArg (λy=>[z,V.int y]) er,kt.sm C,a1,by lia
    intro H4 s4;show hR _ H4 (s4 D _ G) #[λb o e=>#v[ZT (Zf e L),s4 b o (C b o e)],L,?_]
    rw[yR,M];simp
   .let#[C,L,rfl]:=j;exists D,1,ZH.of G;let u:=k d C;rw[KT.fits,aM r0,uI,S,uI,QX] at u;let M:l.take ↑p=l:=yH ∅
    rwa[M,vJ,u]
  .let r0:r=0:=by
    have:¬ ((0:Int)<(r:Int)):=λz=>c1 (aM z)
    lia
   subst r0;let u:=k H (ZD.refl H);rw[KT.fits] at u;show u
theorem Aw:ZB TQ TQ (Za GH):=Z2
theorem A6(F:Zk K "is_key" "is_key" GH f fd)(T:Txt mg)(b:ZC P w K mg jS 5 "fits" TH (WH 4)):ZI P w K mg jS ZX 6 f fd TQ Vm:=by
 show F.ok Aw (λj H Q E h=>?_) (λc A a s H j Q E e h=>?_)
 .let#[v,t,q,rfl,_]:=h;rfl
 let#[v,t,q,rfl,g,d,k]:=h;let#[m,i]:=T.deep;intro l;exists _,ZR (Zl (Ze b e (Zg (pv 0) (Zg (Xo (v:=.int 3) Z i #[_,Z]) Zv))));show#[1,v,t,(3),q,Z,g,d,by decide,k]
theorem Br(T:Txt mg)(L:ZZ K mg "fits" JN TH)(b:ZC P w K mg jS 1 "has_few_figures" Tv Uq)(a:ZC P w K mg jS 1 "is_sign" TX Va):∀ n:Nat,ZC P w K mg jS (n+1) "fits" TH (WH n)
 | 0=>L.of λ_ _ _=>mW
 | n+1=>L.of λ_ _ F=>vj F T b a (Br T L b a n)
inductive US(n:Nat)(c:je)(H:Hp)(Q:VK)(_:XK):Prop
 |mk(v:V)(t:KT)(q:Nat)(_:c=[v])(_:ZE H t v)(_:t.fits q=V')(_:t.depth<n)(_:∀(b:V)(a:Hp),ZE a t.st b->ZD H a->Q b a)
inductive Xv(d:je)(H:Hp)(Q:VK)(_:XK):Prop
 |mk(v u:V)(a b:KT)(_:d=[v,u])(_:ZE H a v)(_:ZE H b u)(_:a.fits 3=V')(_:b.fits 3=V')(_:∀ c,ZD H c->Q (.bl (a.lt b)) c)
theorem l':ZB TK TK (Za Lq):=Z2
theorem wx{k:Nat}:ZI P w K mg jS ZX k f fd TK (US 0):=by
 let c:∀ a H Q E,¬ US 0 a H Q E:=λa H Q E h=>by
  let#[v,t,q,_,_,_,d,_]:=h
  lia
 show#[λa H Q E h=>absurd h (c a H Q E),λA b s H args e a Q E _ _ _ _ h=>absurd h (c a H Q E)]
theorem kI{n:Nat}(F:Zk K "standing" "standing" Lq f fd)(T:Txt mg)(DS:ZC P w K mg jS (n+1) "standing" TK (US n)):ZI P w K mg jS ZX (n+2) f fd TK (US (n+1)):=by
 show F.ok l' (λg H Q E h=>?_) (λa2 A a1 s H g Q E hr h=>?_)
 .let#[v,t,q,rfl,_]:=h;rfl
 let#[v,t,q,rfl,d,hq,hn,k]:=h;intro Xc;show#[_,ZL (Zx (WU (Zp QH Z T.isi UK (Zg (pv 0) (Zg (U3 (v:=.ty "int") Z T.int Nc Z) Zv)))) (ZR (Zl (Y2 (Zg ZJ (Zg (pv 0) Zv))))) Z0)
  (ZL (Zx (WU (Zp QH Z T.isi UK (Zg (pv 0) (Zg (U3 (v:=.ty "str") Z T.str UL Z) Zv)))) (ZR (Zl (Y2 (Zg ZJ (Zg (pv 0) Zv))))) Z0)
  (ZR (Zl (Y2 (Zg ZJ (Zg (VD KU Z T.tuple Nr (Zg (VT [] [] Z (Lr (pv 0)) (λ_ _ _ _ _=>VH) (λ_ _ _ _ _=>Ze DS hr (Zg (pv 0) Zv)) trivial) Zv)) Zv)))))),?_]
 cases t with
 | int i=>
  let N:v=.int i:=by rw[ZE] at d;show d
  subst N;show#[1,_,_,_,1,d.ty,IC,1,Zq ?_];exists 1,(by change 2<=au;decide)
  intro p U;show k _ _ ?_ (Zr U _);rwa[KT.st,.tup ZY (.cons (.int 0) (.cons (.int i) .nil))]
 | str x=>
  let N:v=.str x:=by rw[ZE] at d;show d
  subst N;show#[1,_,_,_,1,d.ty,JV,1,Zo ?_];show#[1,_,_,_,1,d.ty,MP,1,Zq ?_];exists 1,(by change 2<=au;decide)
  intro p U;show k _ _ ?_ (Zr U _);rwa[KT.st,.tup ZY (.cons (.int 1) (.cons (.str x) .nil))]
 | tup l=>
  let C:=d;rw[ZE] at C;let#[a,g,rfl,I,G]:=C;let hl:=↑G;rw[KT.fits,zT,zT] at hq;let#[a6,X,B]:=hq;let a5:↑l<=4:=of_decide_eq_true X;rw[KT.depth] at hn;show#[1,_,_,_,1,d.ty,GN,1,Zo ?_];show#[1,_,_,_,1,d.ty,Ks,1,Zo ?_];exists 1,a,Z,#[g,Zd.of I];show Wr (n:=↑g) (λi z=>g[i]?\z) (λD i m r=>ZD H r/\H D=Y'/\jK r ((l.take i).map KT.st) m) (YQ ∅)
   (λD i m r S j=>#[g,g[i],Zd.of (j.1 _ _ I),by simp[S]]) (λD i m r z u S j hy=>#[hy.1,hy.2 g (Zd.of (j.1 _ _ I))]) (λD m r j=>#[g,Zd.of (j.1 _ _ I),zW _])
   (λD hD=>#[Zr hD _,hD,.nil]) (λD i m r z M a4 S hz j R hR=>?_) (λD m r M j=>?_)
  .let#[L,nD,c]:=j;let#[t,J,kt]:=G.get hz;let mt:=zI J;let Y:t.fits (q-1)=V':=by
    rw[QX] at B;show zE.mp B t mt
   let a3:=O9 mt;exists 1,z,t,q-1,Z,kt.sm L,Y,by lia
   intro v' u k4 s4;let y:=s4 D _ M;let tD:XB u (upd u D (.lst (m++[v']))):=(ZA.refl D u).upd.tups y;show hR v' u y #[λb o e=>#v[ZT (Zf e nD),s4 b o (L b o e)],nD,?_]
   rwa[yR,J,yX,((c.sm s4).append (.cons k4 .nil)).mono tD _ _]
  .let#[L,nD,c]:=j;let J:l.take ↑g=l:=yH ∅
   rw[J] at c;let a0:=↑c;rw[zY] at a0;show#[D,m,Z,.inl #[ZH.of M,λp1 V=>?_]];let g1:=Zr V (.tup m);exists (by change 2<=au;decide)
   intro p2 W;let O:=Zr W (.tup [.int 2,.ref p1]);show k _ _ ?_ ((L.trans g1).trans O);rwa[KT.st,CD,.tup ZY (.cons (.int 2) (.cons (.tup (O _ _ ZY) (c.sm (g1.trans O))) .nil))]
theorem E6(T:Txt mg)(L:ZZ K mg "standing" Lq TK):∀ n:Nat,ZC P w K mg jS (n+1) "standing" TK (US n)
 | 0=>L.of λ_ _ _=>wx
 | n+1=>L.of λ_ _ F=>kI F T (E6 T L n)
theorem xa:ZB Tx Tx (Za HX):=Z2
theorem A3(F:Zk K "ahead" "ahead" HX f fd)(e:ZC P w K mg jS 6 "standing" TK (US 5)):ZI P w K mg jS ZX 7 f fd Tx Xv:=by
 show F.ok xa (λt H Q E h=>?_) (λn A d s H t Q E c h=>?_)
 .let#[v,u,a,b,rfl,_]:=h;rfl
 let#[v,u,a,b,rfl,o,p,g,i,k]:=h;intro y;exists _,ZR (Zl (Pm (HB c) (Ze e c (Zg (pv 0) Zv)) (Ze e c (Zg (pv 1) Zv)) (Zz _)));let z:=UO a 3 g;let B:=UO b 3 i;let C:=Bv a;exists 1,v,a,(3),Z,o,g,by lia
 intro D x q j;exists 1,u,b,(3),Z,p.sm j,i,by lia
 intro G m r l;exists a.st,b.st,q.sm l,r,EO a b,by lia
 rwa[F6,k m (j.trans l)]
mutual
def KT.wide:KT->Nat->Bool
 | .int _,_=>true
 | .str _,_=>true
 | .tup l,r=>decide (0<r)&&(decide (↑l<=400)&&wideL l (r-1))
def wideL:jq->Nat->Bool
 | [],_=>true
 | t::l,r=>t.wide r&&wideL l r
end
theorem Fk{d:Sp}{k:Nat}{e:jr}(c:∀ a H Q E,¬ d a H Q E):ZI P w K mg jS ZX k f fd e d:=
 #[λa H Q E h=>absurd h (c a H Q E),λA b s H args g a Q E _ _ _ _ h=>absurd h (c a H Q E)]
mutual
def KT.rk:KT->KT
 | .int i=>.tup [.int 0,.int i,.str "",.tup []]
 | .str x=>.tup [.int 1,.int 0,.str x,.tup []]
 | .tup l=>.tup [.int 2,.int 0,.str "",.tup (rkL l)]
def rkL:jq->jq
 | []=>[]
 | t::l=>t.rk::rkL l
end
theorem C6:∀ l:jq,rkL l=l.map KT.rk
 | []=>by rw[rkL];rfl
 | t::l=>by rw[rkL,C6 l];rfl
mutual
theorem El:∀ a b:KT,a.rk.eqb b.rk=a.eqb b
 | .int i,.int j=>by simp[KT.rk,KT.eqb,jM]
 | .str x,.str y=>by simp[KT.rk,KT.eqb,jM]
 | .tup l,.tup m=>by simp[KT.rk,KT.eqb,jM,eqbL_rk l m]
 | .int _,.str _=>by simp[KT.rk,KT.eqb,jM]
 | .int _,.tup _=>by simp[KT.rk,KT.eqb,jM]
 | .str _,.int _=>by simp[KT.rk,KT.eqb,jM]
 | .str _,.tup _=>by simp[KT.rk,KT.eqb,jM]
 | .tup _,.int _=>by simp[KT.rk,KT.eqb,jM]
 | .tup _,.str _=>by simp[KT.rk,KT.eqb,jM]
theorem eqbL_rk:∀ l m:jq,jM (rkL l) (rkL m)=jM l m
 | [],[]=>by simp[rkL,jM]
 | a::l,b::m=>by simp[rkL,jM,El a b,eqbL_rk l m]
 | [],_::_=>by simp[rkL,jM]
 | _::_,[]=>by simp[rkL,jM]
end
mutual
theorem LY:∀ a b:KT,a.rk.cmp b.rk=V'
 | .int i,.int j=>by simp[KT.rk,KT.eqb,KT.cmp,cmpL,jM]
 | .str x,.str y=>by simp[KT.rk,KT.eqb,KT.cmp,cmpL,jM]
 | .tup l,.tup m=>by simp[KT.rk,KT.eqb,KT.cmp,cmpL,cmpL_rk l m]
 | .int _,.str _=>by simp[KT.rk,KT.eqb,KT.cmp,cmpL]
 | .int _,.tup _=>by simp[KT.rk,KT.eqb,KT.cmp,cmpL]
 | .str _,.int _=>by simp[KT.rk,KT.eqb,KT.cmp,cmpL]
 | .str _,.tup _=>by simp[KT.rk,KT.eqb,KT.cmp,cmpL]
 | .tup _,.int _=>by simp[KT.rk,KT.eqb,KT.cmp,cmpL]
 | .tup _,.str _=>by simp[KT.rk,KT.eqb,KT.cmp,cmpL]
theorem cmpL_rk:∀ l m:jq,cmpL (rkL l) (rkL m)=V'
 | [],_=>by simp[rkL,cmpL]
 | _::_,[]=>by simp[rkL,cmpL]
 | a::l,b::m=>by
  rw[rkL,rkL,cmpL,cmpL_rk l m,LY a b];split <;> rfl
end
mutual
theorem K2:∀ a b:KT,a.rk.plt b.rk=a.lt b
 | .int i,.int j=>by
  simp only[KT.rk,KT.eqb,KT.plt,pltL,jM,KT.lt,beq_self_eq_true,if_true];by_cases h:i=j
  .subst h;simp
  .simp[h]
 | .str x,.str y=>by
  simp only[KT.rk,KT.eqb,KT.plt,pltL,jM,KT.lt,beq_self_eq_true,if_true];by_cases h:x=y
  .subst h;simp
  .simp[h]
 | .tup l,.tup m=>by
  simp only[KT.rk,KT.eqb,KT.plt,pltL,KT.lt,beq_self_eq_true,if_true,eqbL_rk,pltL_rk l m]
  cases h:jM l m with
  | true=>rw[aP rfl,B7 h]
  | false=>rw[aO zR]
 | .int _,.str _=>by simp[KT.rk,KT.eqb,KT.plt,pltL,KT.lt]
 | .int _,.tup _=>by simp[KT.rk,KT.eqb,KT.plt,pltL,KT.lt]
 | .str _,.int _=>by simp[KT.rk,KT.eqb,KT.plt,pltL,KT.lt]
 | .str _,.tup _=>by simp[KT.rk,KT.eqb,KT.plt,pltL,KT.lt]
 | .tup _,.int _=>by simp[KT.rk,KT.eqb,KT.plt,pltL,KT.lt]
 | .tup _,.str _=>by simp[KT.rk,KT.eqb,KT.plt,pltL,KT.lt]
theorem pltL_rk:∀ l m:jq,pltL (rkL l) (rkL m)=ltL l m
 | [],[]=>by simp[rkL,pltL,ltL]
 | [],_::_=>by simp[rkL,pltL,ltL]
 | _::_,[]=>by simp[rkL,pltL,ltL]
 | a::l,b::m=>by rw[rkL,rkL,pltL,ltL,El a b,pltL_rk l m,K2 a b]
end
mutual
theorem N5:∀ t:KT,t.rk.depth<=2 * t.depth+2
 | .int i=>by simp[KT.rk,KT.depth,jN]
 | .str x=>by simp[KT.rk,KT.depth,jN]
 | .tup l=>by
  have:=depthL_rk l;simp only[KT.rk,KT.depth,jN]
  lia
theorem depthL_rk:∀ l:jq,jN (rkL l)<=2 * jN l+2
 | []=>by simp[rkL,jN]
 | t::l=>by
  let a:=N5 t;let b:=depthL_rk l;rw[rkL,jN,jN]
  lia
end
inductive Yb(n:Nat)(c:je)(H:Hp)(Q:VK)(_:XK):Prop
 |mk(v:V)(t:KT)(q:Nat)(_:c=[v])(_:ZE H t v)(_:t.fits q=V')(_:t.depth<n)(_:∀(b:V)(a:Hp),ZE a t.rk b->ZD H a->Q b a)
theorem J':ZB T1 T1 (Za JC):=Z2
theorem xb{n:Nat}(F:Zk K "_law_rank" "_law_rank" JC f fd)(T:Txt mg)(DS:ZC P w K mg jS (n+1) "_law_rank" T1 (Yb n)):ZI P w K mg jS ZX (n+2) f fd T1 (Yb (n+1)):=by
 show F.ko J' λa5 A a4 s H j Q E hr h=>?_;let#[v,t,q,rfl,d,hq,hn,k]:=h;intro Xc;show#[_,ZL (Zx (WU (Zp QH Z T.isi UK (Zb (pv 0) (U3 (v:=.ty "int") Z T.int Nc Z)))) (ZR (Zl (Y2 (MH ZJ (pv 0) Zu (Y2 Zv))))) Z0)
  (ZL (Zx (WU (Zp QH Z T.isi UK (Zb (pv 0) (U3 (v:=.ty "str") Z T.str UL Z)))) (ZR (Zl (Y2 (MH ZJ ZJ (pv 0) (Y2 Zv))))) Z0)
  (ZR (Zl (Y2 (MH ZJ ZJ Zu (VD KU Z T.tuple Nr (ZM (VT [] [] Z (Lr (pv 0)) (λ_ _ _ _ _=>VH) (λ_ _ _ _ _=>Ze DS hr (ZM (pv 0))) trivial)))))))),?_]
 cases t with
 | int i=>
  let O:v=.int i:=by rw[ZE] at d;show d
  subst O;show#[1,_,_,_,1,d.ty,IC,1,Zq ?_];show#[1,(by change 0<=au;decide),λp0 V=>#[(by change 4<=au;decide),λp X=>?_]]
  let S:=Zr V (.tup []);let r:=Zr X (.tup [.int 0,.int i,.str "",.ref p0]);show k _ _ ?_ (S.trans r);rwa[KT.rk,.tup ZY (.cons (.int 0) (.cons (.int i) (.cons (.str _) (.cons (.tup (r _ _ ZY) .nil) .nil))))]
 | str x=>
  let O:v=.str x:=by rw[ZE] at d;show d
  subst O;show#[1,_,_,_,1,d.ty,JV,1,Zo ?_];show#[1,_,_,_,1,d.ty,MP,1,Zq ?_];show#[1,(by change 0<=au;decide),λp0 V=>#[(by change 4<=au;decide),λp X=>?_]]
  let S:=Zr V (.tup []);let r:=Zr X (.tup [.int 1,.int 0,.str x,.ref p0]);show k _ _ ?_ (S.trans r);rwa[KT.rk,.tup ZY (.cons (.int 1) (.cons (.int 0) (.cons (.str x) (.cons (.tup (r _ _ ZY) .nil) .nil))))]
 | tup l=>
  let G:=d;rw[ZE] at G;let#[a,j,rfl,J,I]:=G;let hl:=↑I;rw[KT.fits,zT,zT] at hq;let#[a9,a1,C]:=hq;let a8:↑l<=4:=of_decide_eq_true a1;rw[KT.depth] at hn;show#[1,_,_,_,1,d.ty,GN,1,Zo ?_];show#[1,_,_,_,1,d.ty,Ks,1,Zo ?_];exists 1,a,Z,#[j,Zd.of J];show Wr (n:=↑j) (λi z=>j[i]?\z) (λD i m u=>ZD H u/\H D=Y'/\jK u ((l.take i).map KT.rk) m) (YQ ∅)
   (λD i m u W g=>#[j,j[i],Zd.of (g.1 _ _ J),by simp[W]]) (λD i m u z y W g hy=>#[hy.1,hy.2 j (Zd.of (g.1 _ _ J))]) (λD m u g=>#[j,Zd.of (g.1 _ _ J),zW _])
   (λD hD=>#[Zr hD _,hD,.nil]) (λD i m u z N a7 W hz g R hR=>?_) (λD m u N g=>?_)
  .let#[M,nD,c]:=g;let#[t,L,kt]:=I.get hz;let mt:=zI L;let a2:t.fits (q-1)=V':=by
    rw[QX] at C;show zE.mp C t mt
   let a6:=O9 mt;exists 1,z,t,q-1,Z,kt.sm M,a2,by lia
   intro v' y k4 s4;let B:=s4 D _ N;let tD:XB y (upd y D (.lst (m++[v']))):=(ZA.refl D y).upd.tups B;show hR v' y B #[λb o e=>#v[ZT (Zf e nD),s4 b o (M b o e)],nD,?_]
   rwa[yR,L,yX,((c.sm s4).append (.cons k4 .nil)).mono tD _ _]
  .let#[M,nD,c]:=g;let L:l.take ↑j=l:=yH ∅
   rw[L] at c;let a3:=↑c;rw[zY] at a3;show#[D,m,Z,.inl #[ZH.of N,λp1 Y=>?_]];let r:=Zr Y (.tup m);exists (by change 4<=au;decide)
   intro p2 a0;let U:=Zr a0 (.tup [.int 2,.int 0,.str "",.ref p1]);show k _ _ ?_ ((M.trans r).trans U);rwa[KT.rk,C6,.tup ZY (.cons (.int 2) (.cons (.int 0) (.cons (.str _) (.cons (.tup (U _ _ ZY) (c.sm (r.trans U))) .nil))))]
theorem Hz(T:Txt mg)(L:ZZ K mg "_law_rank" JC T1):∀ n:Nat,ZC P w K mg jS (n+1) "_law_rank" T1 (Yb n)
 | 0=>L.of λ_ _ _=>Fk λb H Q E h=>by let#[v,t,q,_,_,_,a,_]:=h;lia
 | n+1=>L.of λ_ _ F=>xb F T (Hz T L n)
end Tw
namespace Tw
open PySem PySem.Spec L2 PyProof.Rows
variable{jP jQ CS CT CH CK CP CB:al}
theorem RT:Kg KT.rk:=#[K2,LY,(3),λt=>by cases t <;> (rwa[KT.rk,#[_,1,Z]])]
def NQ(c:jq):Prop:=c.Pairwise λa b=>a.lt b=V'
theorem zr{c:jq}(d:c.Nodup)(h:c.Pairwise λa b=>b.lt a=false):NQ c:=by
 induction c with
 | nil=>show .nil
 | cons a c g=>
  rw[wC] at d;rw[wX] at h;show wX.mpr #[λb f=>?_,g d.2 h.2]
  cases q:a.lt b with
  | true=>rfl
  | false=>
   let e:=Ib a b q (h.1 b f);show absurd (e ▸ f) d.1
theorem Ak{k:Nat}{A:ay}(r:ZU k A):A.units+4<cLine:=by have:=r.un;lia
theorem v7{p D:al}{H a:Hp}(s:ZA p H a)(w:ZG a p)(n:a D=Y'):H D=Y':=by
 cases e:H D with
 | none=>rfl
 | some o=>
  by_cases h:D=p
  .subst h;let#[c,b]:=w.some;erw[n] at b
  .erw[s D o e h] at n
inductive UR(d:je)(H:Hp)(Q:VK)(_:XK):Prop
 |mk(p:al)(n:Nat)(_:d=[.ref p,.int (n:Int)])(_:ZG H p)(_:n<63)(_:∀(D:al)(c:je)(b:jq)(a:Hp),H D=Y'->a D\.lst c->jK a b c->(∀ t∈b,t.fits 3=V')->NQ b->↑b<=n->(0<n->0<↑b)->ZG a p->ZA p H a->Q (.ref D) a)
theorem Qt:ZB ["_law_well_here","_law_many","_law_found","_law_j"] T2 (Za Hm):=Z2
theorem A2(F:Zk K "_law_keys" "_law_keys" Hm f fd)(T:Txt mg)(DK:ZC P w K mg jS 6 "_law_key" TL (WM 4))(DR:ZC P w K mg jS 6 "_law_rank" T1 (Yb 5)):
  ZI P w K mg jS ZX 9 f fd T2 UR:=by
 show F.ko Qt λa2 A a1 s H vs Q E U h=>?_;let#[p,n,rfl,hw,hn,k]:=h;let nd:=Qt.nd;let W:=U.mono (show 6<=8 by lia)
 let DS:ZC P w K mg jS 6 "_law_rank" T1 (Nj KT.rk):=by
  let#[g,gd,FG,b,kp,m]:=DR.ex;show#[g,gd,FG.imp λvs H Q E h=>by
   let#[v,t,e,a,c,d]:=h;have:=UO t 3 c;show#[v,t,(3),e,a,c,∅,d],b,kp,m]
 intro Xc;show#[_,ZL (Zh 2 nd si)
  (ZL (WZ PassesOwn.never Z (QO Z T.range (ZM (pv 1))) (WB 3 nd)
   (ZR (wa (Ak U) (pv 2) (Ze DK W (Zb (pv 0) ZJ)) MC Z)))
  (ZR (Zl (ou RT N5 DS U Z T.sorted Z (ZM (pv 2)))))),?_]
 intro B H1 J _ s1 O;let#[a3,a0]:=hw.some;let G:p≠B:=Zf a0 J;show#[1,(n:Int),Z,∅,Int.lt_of_lt_of_le (Int.ofNat_lt.mpr hn) (by decide),Pk (n:=(n:Int).toNat) (λi σ u=>∃(l:List (KT×V×V))(o:jf),σ=[Z' (.ref p),Z' (.int (n:Int)),Z' (.ref B),o]/\Xr w u B l/\↑l<=i/\(0<i->0<↑l)/\(∀ x∈l,x.1.fits 3=V')/\ZG u p/\ZA p H u)
  #[[],Y',Z,O,zW _,λz=>absurd z (xQ 0),λx Y=>by simp at Y,hw.same s1,ZA.of s1] (λi σ u hi S=>?_) (λσ u S=>?_)]
 .let#[l,o,rfl,M,lx,px,C,j,N]:=S;exists 2,p,(3),Z,j,by lia
  intro v t H3 kv ft X r;let tu:=r.tupsW j;show#[B,l,t,Z,M.but r tu (Ne.symm G),∅,kv,UO t 3 ft,λH4 L R=>#[_,1,R,by have:=pH l t v (.bl true);lia,λ_=>?_,λx Y=>?_,X.stay L G,λb ob e nb=>?_]]
  .have:=congrArg xI (Ki l t v (.bl true));rw[zY] at this;rw[this];split
   .next y=>rw[zY];show xN.mpr λz=>by rw[z] at y;show zR y
   .rwa[zS,Nat.succ_pos _]
  .have:x.1∈(Pq l t v (.bl true)).map (·.1):=List.mem_map_of_mem Y;rw[Ki] at this;split at this
   .let#[z,I,e]:=zA.mp this;rwa[<-e,C z I]
   .rcases yY.mp this with q | q
    .let#[z,I,e]:=zA.mp q;rwa[<-e,C z I]
    .rwa[zP.mp q,ft]
  .show L b ob (r b ob (N b ob e nb) nb) (Zf e J)
 .let#[l,o,rfl,M,lx,px,C,j,N]:=S;exists 1,B,l,Z,M,C,by lia
  intro D ws rs H5 s5 nD hD ka pm pw;let lr:=pm.length_eq;rw[zY] at lr;show k D ws rs H5 (v7 N j nD) hD ka (λt ht=>?_) (zr (pm.nodup_iff.mpr M.nd) pw) ∅ (λz=>by rw[show ((n:Int).toNat)=n from rfl] at px;have:=px z;lia) (j.same s5) (N.trans (ZA.of s5))
  let#[z,I,e]:=zA.mp (pm.mem_iff.mp ht);rwa[<-e,C z I]
section
open PySem.SeqAt
open PySem.AutoSeq1 (wpAny_loadPart')
open PySem.MeetsSeq PySem.MeetsSeq2 PySem.MeetsSeq3
end
theorem sk{H:Hp}{p q:al}(W:ZG H p)(h:H q=Y'):q≠p:=λz=>by
 let#[a,e]:=W.some;erw[z,e] at h
inductive Vk(b:je)(H:Hp)(Q:VK)(_:XK):Prop
 |mk(p:al)(_:b=[.ref p])(_:ZG H p)(_:∀(v:V)(t:KT)(a:Hp),ZE a t v->t.fits 3=V'->ZG a p->ZA p H a->Q v a)
theorem Ab:ZB TY TY (Za Jz):=Z2
theorem qb(F:Zk K "_law_value" "_law_value" Jz f fd)(z:ZC P w K mg jS 1 "_law_pull" T2 Zm)(J:ZC P w K mg jS 6 "_law_key" TL (WM 4)):ZI P w K mg jS ZX 7 f fd TY Vk:=by
 show F.ko Ab λN A y s H vs Q E C h=>?_;let#[p,rfl,W,q]:=h;let g:=C.to 1;show#[_,@ZL _ _ _ _ _ (Zx (Z6 Y4 (Ze z g (Zb (pv 0) ZJ)) ZJ (Zz _)) (ZR (Zl (Ze J C (Zb (pv 0) ZJ)))) Z0)
  (@ZR _ _ _ (@Zl _ _ _ _ (@Xd _ _ _ _ _ _ (JD K) Ee (YY (SN ZJ ZJ Zu (Y2 (ZM ZJ)) Zu (Y2 Zv))) (Ze z g (Zb (pv 0) ZJ)) (λ_ _=>rfl)))),?_]
 show#[1,p,(3),Z,W,XZ (by decide) (by decide),λw0 L a0 a1 k G=>#[Z,1,?_]]
 show Ys (λc=>?_) (λc=>?_)
 .show#[1,p,(3),Z,k,by decide,λv t a S R b j=>q v t a S R b (G.trans j)]
 exists Ym;intro l X;let B:=Zr X (.tup [.int 1]);exists Ym;intro m Y;let n:=Zr Y (.tup []);exists Ym;intro d i;let o:=Zr i (.lst [.int 0,.int 1,.str "1",.ref l,.str "",.ref m]);let u:ZD L _:=(B.trans n).trans o;let x:d≠p:=sk (k.same (B.trans n)) i;exists 1,p,(6),Z,k.same u,XZ (by decide) (by decide)
 intro r a r0 r1 b j;let I:=j.tupsW (k.same u);let e:ZA p H a:=(G.trans (ZA.of u)).trans j;let T:ZE a (.tup [.int 1]) (.ref l):=.tup (I _ _ (o _ _ (n _ _ ZY))) (.cons (.int 1) .nil);let U:ZE a (.tup []) (.ref m):=.tup (I _ _ (o _ _ ZY)) .nil;let O:a d\.lst [.int 0,.int 1,.str "1",.ref l,.str "",.ref m]:=j d _ ZY x;let#[v,M,D]:=HN (xs:=[V.int 0,.int 1,.str "1",.ref l,.str "",.ref m]) r0 r1;show .inl #[d,_,_,v,Z,Z,ZH.of O,M,?_];simp only[zN,vD,or_false] at D;rcases D with rfl | rfl | rfl | rfl | rfl | rfl
 .show q _ _ a (.int 0) (by decide +kernel) b e
 .show q _ _ a (.int 1) (by decide +kernel) b e
 .show q _ _ a (.str _) (by decide +kernel) b e
 .show q _ _ a T (by decide +kernel) b e
 .show q _ _ a (.str _) (by decide +kernel) b e
 .show q _ _ a U (by decide +kernel) b e
end Tw
namespace L2
open PySem PySem.Spec PyProof.Rows
inductive OL(b:zZ)(c:je)(H:Hp)(Q:VK):Prop
 |mk(p:al)(a:jH)(_:c=[.ref p])(_:ZH b H p (a.map V.int))(_:Q (.int a.sum) H)
theorem Ad(g:X.calm=V'):V7 X (.builtin "sum") (OL X.K):=by
 intro d s A H z y Q I r h;let#[p,c,rfl,j,q]:=h;let#[u,rfl,m]:=UG r;cases m;let#[k,n,l,x]:=I.list j;let a:=lH n;let#[v,e]:=a.allInts.items;let b:=l.isList;rw[e] at b;let f:v.toList.map (·.1)=c:=by
  rwa[<-nums_intItems,<-e,a.numsOf]
 show sum_intListG (I.ok.hd g) b λw t o i=>#[.int c.sum,H,I.kept (t':=t) i,#[o,?_],q];rw[preSum_eq,yH ⋯,f]
end L2
namespace Tw
open PySem PySem.Spec L2 PyProof.Rows
variable{jP jQ CS CT CH CK CP CB:al}
theorem y':az "sum" = Z' (.builtin "sum"):=by decide +kernel
structure YV where
 h:Int
 lo:KT
 hi:KT
 m:Int
abbrev jG:=List YV
def YV.d:YV:=#[(0),.int 0,.int 0,(0)]
def YV.kt(L:YV):KT:=.tup [.int L.h,L.lo,L.hi,.int L.m]
inductive XE(H:Hp)(L:YV)(u:V):Prop
 |mk(a c b:_)(_:u=.ref a)(_:H a\.tup [.int L.h,c,b,.int L.m])(_:ZE H L.lo c)(_:ZE H L.hi b)
theorem XE.mono{H d:Hp}{L:YV}{u:V}(x:XE H L u)(m:XB H d):XE d L u:=by
 let#[a,c,b,e,f,g,h]:=x;show#[a,c,b,e,m _ _ f,g.mono m _ _,h.mono m _ _]
def Yq(H:Hp)(a:jG)(b:je):Prop:=↑b=↑a/\∀ i u,b[i]?\u->XE H a[i]! u
theorem Yq.mono{H a:Hp}{b:jG}{c:je}(x:Yq H b c)(m:XB H a):Yq a b c:=#[x.1,λi u e=>(x.2 i u e).mono m]
def YV.fit(L:YV):Prop:=L.lo.fits 3=V'/\L.hi.fits 3=V'
def VY(a b:YV):Bool:=(a.h==b.h)&&a.hi.lt b.lo
def Kp(a:jG):Bool:=(zG (↑a-1)).all λj=>VY a[j]! a[j+1]!
def over(a:jG):Option YV:=if 2<=↑a/\↑a<=4/\Kp a=V' then Z' #[a[0]!.h+1,a[0]!.lo,a[↑a-1]!.hi,(a.map YV.m).sum] else Y'
theorem mh{a:jG}(h:¬ (2<=↑a/\↑a<=4)):over a=Y':=aO λz=>h #[z.1,z.2.1]
theorem u4{a:jG}{i:Nat}(b:i+1<↑a)(h:VY a[i]! a[i+1]! =false):over a=Y':=aO λz=>by
 have:=zE.mp z.2.2 i (yZ.mpr ∅)
 erw[h] at this
theorem FB{ls:jG}(a:2<=↑ls)(b:↑ls<=4)(h:∀ j,j<↑ls-1->VY ls[j]! ls[j+1]! =V'):over ls\#[ls[0]!.h+1,ls[0]!.lo,ls[↑ls-1]!.hi,(ls.map YV.m).sum]:=
 aP #[a,b,zE.mpr λj c=>h j (yZ.mp c)]
inductive Vj(d:je)(H:Hp)(Q:VK)(_:XK):Prop
 |mk(v u:V)(a b:YV)(_:d=[v,u])(_:XE H a v)(_:XE H b u)(_:a.fit)(_:b.fit)(_:∀ c,ZD H c->Q (.bl (VY a b)) c)
theorem xm:ZB Tu Tu (Za Iv):=Z2
theorem Ay(F:Zk K "stand_side_by_side" "stand_side_by_side" Iv f fd)(T:Txt mg)(r:ZC P w K mg jS 7 "ahead" Tx Xv):ZI P w K mg jS ZX 8 f fd Tu Vj:=by
 show F.ko xm λB A l s H X Q E J h=>?_;let#[v,u,a,b,rfl,G,I,C,D,k]:=h;let#[U,o]:=T.height;let#[V,N]:=T.least;let#[W,O]:=T.greatest;let#[p,x,c,rfl,m,L,i]:=G;let#[q,d,y,rfl,n,j,M]:=I;intro S;show#[_,ZR (Zl (LP (Pm Y4 (YC K (pv 0) (Xo (v:=.int 0) Z o #[_,Z])) (YC K (pv 1) (Xo (v:=.int 0) Z o #[_,Z])) (Zz _))
  (LV (Ze r J (Zb (YC K (pv 0) (Xo (v:=.int 2) Z O #[_,Z])) (YC K (pv 1) (Xo (v:=.int 1) Z N #[_,Z]))))))),?_]
 show#[1,.inr (.inl #[p,_,_,.int a.h,Z,Z,Zd.of m,Z,?_])];show#[1,.inr (.inl #[q,_,_,.int b.h,Z,Z,Zd.of n,Z,Z,_,Z,?_])];by_cases g:a.h=b.h
 .rw[aM (by rw[g])]
  show Zq ?_;show#[1,.inr (.inl #[p,_,_,c,Z,Z,Zd.of m,Z,?_])];show#[1,.inr (.inl #[q,_,_,d,Z,Z,Zd.of n,Z,c,d,a.hi,b.lo,Z,i,j,C.2,D.1,λt R=>?_])];let e:a.hi.lt b.lo=VY a b:=by unfold VY;rw[g,beq_self_eq_true,uI]
  rwa[e,k t R]
 .rw[aK (λz=>g (KA z))];show Zo ?_;let e:false=VY a b:=by unfold VY;rw[beq_eq_false_iff_ne.mpr g,vG]
  rwa[e,k H (ZD.refl H)]
theorem FZ{n:Int}(h:n.natAbs<10 ^ 60)(r:Nat):(KT.int n).fits r=V':=#v[KT.fits,aM h]
theorem JB{H:Hp}{L:YV}{u:V}(h:ZE H L.kt u):XE H L u:=by
 unfold YV.kt at h;rw[ZE] at h;let#[a,r,rfl,e,b]:=h;rw[jK] at b;let#[p,l,rfl,c,b]:=b;rw[jK] at b;let#[j,m,rfl,g,b]:=b;rw[jK] at b;let#[k,n,rfl,i,b]:=b;rw[jK] at b;let#[q,o,rfl,d,b]:=b;rw[jK] at b;subst b;rw[ZE] at c d;subst c d;show#[a,j,k,Z,e,g,i]
theorem RY:YV.d.fit:=#[FZ (n:=0) (by decide) 3,FZ (n:=0) (by decide) 3]
def FC(H:Hp)(b:jq)(c:je):Prop:=↑c=↑b/\∀ i u,c[i]?\u->∃ a d e,u=.ref a/\H a\.tup [d,e]/\ZE H (b.getD i (.int 0)) d
def Kc(a:jq):KT:=.tup [.int 0,a.getD 0 (.int 0),a.getD (↑a-1) (.int 0),.int ↑a]
theorem wq{a:je}{u:V}(h:a[↑a-1]?\u):Vx a (-1)\u:=by
 let b:a≠[]:=λz=>by rw[z] at h;simp at h
 let e:a=a.dropLast++[u]:=by
  let c:a.getLast b=u:=by
   rwa[qK,(yL.mp h).2]
  rw[<-c,sT]
 rwa[e,E3 _ _]
inductive WK(d:je)(H:Hp)(Q:VK)(_:XK):Prop
 |mk(l:al)(b:je)(c:jq)(_:d=[.ref l])(_:H l\.lst b)(_:FC H c b)(_:0<↑b)(_:∀(a:Hp)(v:V),ZD H a->ZE a (Kc c) v->Q v a)
theorem nF:ZB T3 T3 (Za Jo):=Z2
theorem mF(F:Zk K "label_of_rows" "label_of_rows" Jo f fd)(T:Txt mg):ZI P w K mg jS ZX 1 f fd T3 WK:=by
 show F.ko nF λq A i s H L Q E I h=>?_;let#[l,c,J,rfl,e,d,u,k]:=h;intro C;show#[_,ZR (Zl (Y2 (MH ZJ (YC K (YC K (pv 0) ZJ) ZJ)
  (YC K (YC K (pv 0) (Pw OD ZJ)) ZJ) (Zp YO Z T.len YK (ZM (pv 0)))))),?_]
 let m:c[0]?\c[0]:=zU u;let n:c[↑c-1]?\(c[↑c-1]'∅):=zU ∅
 let#[a,o,D,r,z,x]:=d.2 0 _ m;let#[b,bk,G,t,B,y]:=d.2 _ _ n;rw[r] at m;rw[t] at n;show#[1,.inl #[l,c,_,.ref a,Z,Z,ZH.of e,YW (j:=0) m,.inr (.inl #[a,_,_,o,Z,Z,Zd.of z,Z,?_])]];show#[1,(1),Z,.inl #[l,c,_,.ref b,Z,Z,ZH.of e,wq n,.inr (.inl #[b,_,_,bk,Z,Z,Zd.of B,Z,?_])]];exists 1,l,c,Z,.inl (ZH.of e),Ym;intro p v;let g:=Zr v (.tup [.int 0,o,bk,.int ↑c]);show k _ _ g ?_;unfold Kc;rwa[<-d.1,.tup ZY (.cons (.int _) (.cons (x.sm g) (.cons (y.sm g) (.cons (.int _) .nil))))]
abbrev Ya:=KT×KT
abbrev jz:=List Ya
def AE(r:Ya):KT:=.tup [r.1,r.2]
def WC(a:jz):jq:=a.map AE
def Ya.fit(r:Ya):Prop:=r.1.fits 3=V'/\r.2.fits 3=V'
structure ZK where
 h:Nat
 rows:jz
 bs:jo
abbrev jp:=List ZK
def ZK.d:ZK:=#[(0),[],[]]
def gd(a:jp)(i:Nat):ZK:=a[i]!
theorem U7{a:jp}{i:Nat}(h:i<↑a):a[i]?\gd a i:=by
 unfold gd;rw[zO,zU h];rfl
structure V4(gt:jo)(ts:jp)(i:Nat)(t:ZK):Prop where
 ne:t.rows≠[]
 up:(t.rows.map (·.1)).Pairwise λa b=>a.lt b=V'
 inn:∀ r∈t.rows,r.fit
 leaf:t.h=0->t.bs=[]/\↑t.rows<=4
 stem:t.h≠0->2<=↑t.bs/\↑t.bs<=4/\(∀ b∈t.bs,b∈gt/\(gd ts b).h+1=t.h)/\t.rows=t.bs.flatMap λb=>(gd ts b).rows
def WF(gt:jo)(a:jp):Prop:=∀ i∈gt,V4 gt a i (gd a i)
def kindOf(t:ZK):Str:=if t.h=0 then "leaf" else "stem"
theorem UJ{H c:Hp}{a:al}{o:HO}(s:ZD H c)(n:H a=Y'):ZD H (upd c a o):=λb u e=>#v[ZT (Zf e n),s b u e]
abbrev iN(l:jo):je:=l.map λb=>V.int (b:Nat)
theorem Jp(a b:jz):WC (a++b)=WC a++WC b:=yX
theorem Ik{a:je}{j:Nat}{v:V}(b:1<=j)(c:j<=↑a)(h:a[↑a-j]?\v):Vx a (-(j:Int))\v:=by
 unfold Vx;let e:QD ↑a (-(j:Int))\(↑a-j):=by
  unfold QD;rw[aO ∅,aP ∅]
  congr 1
  lia
 rwa[e,h]
def rc:Ya:=(.int 0,.int 0)
def Zs(t:ZK):YV:=#[t.h,(t.rows.getD 0 rc).1,(t.rows.getD (↑t.rows-1) rc).1,↑t.rows]
theorem NO{H:Hp}{c:jz}{k:je}{i:Nat}{u:V}(h:jK H (WC c) k)(e:k[i]?\u):∃ a l m,c[i]?\c.getD i rc/\u=.ref a/\H a\.tup [l,m]/\ZE H (c.getD i rc).1 l/\ZE H (c.getD i rc).2 m:=by
 let#[t,d,g]:=h.get e;unfold WC at d;rw[zF] at d;let#[r,j,rfl]:=wP.mp d;let n:c.getD i rc=r:=by rw[zO,j];rfl
 unfold AE at g;rw[ZE] at g;let#[a,z,rfl,o,b]:=g;rw[jK] at b;let#[s,x,rfl,p,b]:=b;rw[jK] at b;let#[v,y,rfl,q,b]:=b;rw[jK] at b;subst b;rwa[n,#[a,s,v,j,Z,o,p,q]]
theorem Yq.snoc{H:Hp}{d:jG}{a:je}{L:YV}{u:V}(h:Yq H d a)(j:XE H L u):Yq H (d++[L]) (a++[u]):=by
 exists by rw[zS,zS,h.1];rfl
 intro i w e;rcases yW i ↑a with b | b
 .rw[wS b] at e;have:=h.2 i w e;rw[zO] at this⊢;rw[wS (by rwa[<-h.1,b])]
  show this
 .rw[wN b] at e;let c:i-↑a=0:=by
   rcases qZ (i-↑a) with z | z
   .show z
   .erw[tE (by simp;lia)] at e
  rw[c] at e;simp at e;subst e;let g:i=↑d:=by have:=h.1;lia
  rw[zO,g];simp;show j
def inT(a:jo)(x:Int):Bool:=decide (0<=x/\x.toNat∈a)
def ID(a:jG):Prop:=∀ j,j+1<↑a->a[j+1]!.h=a[0]!.h/\a[j]!.hi.lt a[j+1]!.lo=V'
theorem Qy{c:jG}:ID c ↔ Kp c=V':=by
 unfold ID Kp VY;rw[zE];constructor
 .intro h j e;let i:j<↑c-1:=yZ.mp e;let#[a,b]:=h j ∅
  rw[zT];show#[?_,b];rw[beq_iff_eq,a]
  cases j with
  | zero=>rfl
  | succ j=>show(h j ∅).1
 .intro h;let g:∀ j,j<↑c->c[j]!.h=c[0]!.h:=λj=>by
   induction j with
   | zero=>intro _;rfl
   | succ j k=>
    intro e;have:=h j (yZ.mpr ∅)
    rw[zT,beq_iff_eq] at this;rwa[<-this.1,k ∅]
  intro j e;have:=h j (yZ.mpr ∅)
  rw[zT] at this;show#[g (j+1) e,this.2]
theorem vp{gt:jo}{d:jp}{i:Nat}{t:ZK}(h:V4 gt d i t):(Zs t).fit:=by
 let a:0<↑t.rows:=xN.mpr h.ne;let b:t.rows.getD 0 rc∈t.rows:=#v[zO,zU a,xP _]
 let c:t.rows.getD (↑t.rows-1) rc∈t.rows:=#v[zO,zU (show ↑t.rows-1<↑t.rows by lia),xP _]
 show#[(h.inn _ b).1,(h.inn _ c).1]
def YF(c:jp)(a:jo):jG:=a.map λb=>Zs (gd c b)
structure ZP(P:ao)(w:ax)(K:zZ)(mg:jb)(jS:aE)(CX:VG)(k:Nat)(C:al)(m:Str)(ps:jr)(sp:Sp):Prop where
 ex:∃ f fd,Q2 K C m f/\ZI P w K mg jS CX k f fd ps sp/\Zi K fd ps []
theorem WV{X:Cx}{j:VG}{k:Nat}{C:al}{m:Str}{x:jr}{l:Sp}{E:XK}{o e:Expr}{g:jy}{n:TE}{t:TA}{a d:aJ}{v:Sem Bool}(q:PE X o n)(c:Uc X.K C)(D:ZP X.prog X.w X.K X.mg X.base j k C m x l)(r:ZU k X.A)(u:UT j X E)(p:PA X (e::g) t)(i:aw (e::g) X.env=(false,aH e X.env)::aw g X.env:=by rfl)(h:(aG a (aw g X.env)).any (·.1)=false:=by rfl)(s:aH (.Call (.Attribute o m d) (e::g) [] a) X.env=(do
   let ov<-aH o X.env
   standAt d.atName
   let (f,first)<-holding [ov] (getMethod ov m v)
   callWith a f first (aG a (aw (e::g) X.env)) (backToKw a (keywordEach [] X.env))):=by rfl):
  PE X (.Call (.Attribute o m d) (e::g) [] a) (Ii C m l [] E n t):=by
 let#[f,fd,M,F,b]:=D.ex;show vg q c M F r b .nil u p i h s
abbrev IQ:Stmt:=UM (top 30) 0
abbrev IF:Stmt:=UM (top 47) 0
abbrev Lj:Stmt:=UM (top 47) 1
abbrev Gr:Stmt:=UM (top 47) 3
abbrev Ig:Stmt:=UM (top 47) 7
abbrev GX:Stmt:=UM (top 47) 8
abbrev HS:Stmt:=UM (top 47) 13
abbrev IG:Stmt:=UM (top 47) 18
structure WD(K:zZ)(mg:jb)(jP jQ:al):Prop where
 shelf:mg "Shelf" = Z' (.ref jP)
 twig:mg "Twig" = Z' (.ref jQ)
 cS:Uc K jP
 cT:Uc K jQ
 nk:Z7 K jP "kept"
 nf:Z7 K jP "following"
 nl:Z7 K jP "looks"
 nth:Z7 K jQ "things"
 ntg:Z7 K jQ "tag"
 nab:Z7 K jQ "above"
 nho:Z7 K jQ "holds"
abbrev Of(d a:al)(n:Nat):List (Str×V):=[("kept",.ref d),("following",.int n),("looks",.ref a)]
abbrev QV(d c:V)(a:al)(b:Nat):List (Str×V):=[("things",d),("tag",c),("above",.ref a),("holds",.int b)]
structure WT(jP:al)(H:Hp)(S d lk:al)(n:Nat)(kvs:List (Zj×V))(ls:je):Prop where
 self:∃ dx,H S\.ins jP dx (Of d lk n)
 kept:H d\.dK kvs
 looks:H lk\.lst ls
structure VQ(jQ:al)(H:Hp)(x:al)(th tg:V)(ab:al)(ho:Nat)(us:je):Prop where
 self:∃ dx,H x\.ins jQ dx (QV th tg ab ho)
 above:H ab\.lst us
theorem WT.same{jP:al}{H b:Hp}{S d c:al}{n:Nat}{a:List (Zj×V)}{g:je}(h:WT jP H S d c n a g)(s:ZD H b):WT jP b S d c n a g:=by
 let#[#[i,e],j,k]:=h;show#[#[i,s _ _ e],s _ _ j,s _ _ k]
theorem VQ.same{jQ:al}{H a:Hp}{x:al}{g d:V}{b:al}{c:Nat}{i:je}(h:VQ jQ H x g d b c i)(s:ZD H a):VQ jQ a x g d b c i:=by
 let#[#[j,e],k]:=h;show#[#[j,s _ _ e],s _ _ k]
inductive Qh(jQ:al)(h:je)(H:Hp)(Q:VK)(_:XK):Prop
 |mk(x g:al)(e d:V)(_:h=[.ref x,e,d])(_:H x\.ins jQ g [])(_:∀(a:Hp)(c:al),(∀ b o,b≠x->H b\o->a b\o)->H c=Y'->VQ jQ a x e d c 1 []->Q .non a)
theorem RO:ZB Ti Ti (Za IQ):=Z2
theorem Rc(F:Zk K "__init__" "Twig.__init__" IQ f fd)(L:WD K mg jP jQ):ZI P w K mg jS ZX 1 f fd Ti (Qh jQ):=by
 show F.ko RO λl A j s H u Q E q h=>?_;let#[x,d,t,r,rfl,m,k]:=h;intro p;exists _,ZL (PY (pv 0) (pv 1) Z) (ZL (PY (pv 0) (pv 2) Z) (ZL (PY (pv 0) (YY Zv) Z) (ZR (PY (pv 0) ZJ Z))));exists 2,x,jQ,d,1,m,L.cT,L.nth,yC Z;exists 2,x,jQ,d,1,ZY,L.cT,L.ntg,yC Z;exists Ym;intro i a;rw[Lg] at a⊢;let c:x≠i:=λz=>by erw[<-z,ZY] at a
 let g:H i=Y':=by rw[ZT (Ne.symm c)] at a;show a
 exists 1,x,jQ,d,1,#v[ZT c,ZY],L.cT,L.nab,yC Z
 exists 1,x,jQ,d,1,ZY,L.cT,L.nho,yC Z;show k _ i (λb o n e=>?_) g #[#[d,ZY],?_]
 .rwa[Lg,ZT n,ZT (Zf e g),ZT n,e]
 .rwa[Lg,ZT (Ne.symm c),ZY]
inductive Qv(jP:al)(g:je)(H:Hp)(Q:VK)(_:XK):Prop
 |mk(x e:al)(_:g=[.ref x])(_:H x\.ins jP e [])(_:∀(a:Hp)(d c:al),(∀ b o,b≠x->H b\o->a b\o)->H d=Y'->H c=Y'->d≠c->WT jP a x d c 0 [] []->Q .non a)
theorem Rx:ZB ["self"] ["self"] (Za IF):=Z2
theorem Ao(F:Zk K "__init__" "Shelf.__init__" IF f fd)(L:WD K mg jP jQ):ZI P w K mg jS ZX 1 f fd ["self"] (Qv jP):=by
 show F.ko Rx λu A p s H B Q E y h=>?_;let#[x,j,rfl,t,k]:=h;intro v;exists _,ZL (PY (pv 0) Jg Z) (ZL (PY (pv 0) ZJ Z) (ZR (PY (pv 0) (YY Zv) Z)));intro d m;let q:x≠d:=Zf t m;exists 1,x,jP,j,1,#v[ZT q,t],L.cS,L.nk,yC Z
 exists 1,x,jP,j,1,ZY,L.cS,L.nf,yC Z;exists Ym;intro g c;rw[Lg] at c⊢;let r:x≠g:=λz=>by erw[<-z,ZY] at c
 let a:upd H d (.dK []) g=Y':=by rw[ZT (Ne.symm r)] at c;show c
 let l:d≠g:=λz=>by erw[<-z,ZY] at a
 let i:H g=Y':=by rw[ZT (Ne.symm l)] at a;show a
 exists 1,x,jP,j,1,#v[ZT r,ZY],L.cS,L.nl,yC Z
 show k _ d g (λb o n e=>?_) m i l #[#[j,ZY],?_,?_]
 .rwa[ZT n,ZT (Zf e i),ZT n,ZT (Zf e m),e]
 .rwa[ZT (Ne.symm q),ZT l,ZT (Ne.symm q),ZY]
 .rwa[ZT (Ne.symm r),ZY]
inductive Z9(jP:al)(g:je)(H:Hp)(Q:VK)(_:XK):Prop
 |mk(S d c:al)(n:Nat)(a:List (Zj×V))(e:je)(i:Int)(b:V)(_:g=[.ref S,.int i])(_:WT jP H S d c n a e)(_:YS a (.inl i)\b)(_:Q b H)
theorem rg:ZB T9 T9 (Za IG):=Z2
theorem oN(F:Zk K "twig_of" "Shelf.twig_of" IG f fd)(L:WD K mg jP jQ):ZI P w K mg jS ZX 1 f fd T9 (Z9 jP):=by
 show F.ko rg λl A a s H x Q E o h=>?_;let#[S,d,u,n,q,v,i,b,rfl,#[#[c,e],m,t],p,k]:=h;let j:=BD o;intro r;exists _,ZL (Zx (Ps (Iy j (pv 1) (QI (pv 0) Z))) Nt Z0) (ZR (Zl (GO j (QI (pv 0) Z) (pv 1))));let g:Vt H d (.int i) (Z' b):=p ▸ Vt.k (k:=Sum.inl i) m;show#[2,S,jP,c,_,.ref d,Z,e,L.cS,L.nk,Z,d,Z' b,Z,g,1,Zo ?_];show#[1,S,jP,c,_,.ref d,Z,e,L.cS,L.nk,Z,1,d,b,Z,g,k]
structure QE(P:ao)(w:ax)(K:zZ)(mg:jb)(jS:aE)(k:Nat)(C:al)(ps:jr)(sp:Sp):Prop where
 ex:∃ f fd,Mk K C f/\ZI P w K mg jS ZX k f fd ps sp/\Zi K fd ps []
structure M6(jP jQ:al)(H:Hp)(S d lk:al)(n:Nat)(kvs:List (Zj×V))(ls:je)(i:Int)(x:al)(th tg:V)(ab:al)(ho:Nat)(us:je):Prop where
 sh:WT jP H S d lk n kvs ls
 val:YS kvs (.inl i)\.ref x
 tw:VQ jQ H x th tg ab ho us
inductive WX(jP jQ:al)(res:V->Nat->je->V)(l:je)(H:Hp)(Q:VK)(_:XK):Prop
 |mk(S d h:al)(n:Nat)(a:List (Zj×V))(j:je)(i:Int)(x:al)(k c:V)(g:al)(b:Nat)(e:je)(_:l=[.ref S,.int i])(_:M6 jP jQ H S d h n a j i x k c g b e)(_:Q (res c b e) H)
theorem mU:ZB T9 T9 (Za GX):=Z2
theorem mL(F:Zk K "outside" "Shelf.outside" GX f fd)(L:WD K mg jP jQ)(e:ZP P w K mg jS ZX 1 jP "twig_of" T9 (Z9 jP)):ZI P w K mg jS ZX 2 f fd T9 (WX jP jQ λ_ a _=>.int a):=by
 show F.ko mU λg A c s H B Q E o h=>?_;let#[S,d,q,n,b,r,i,x,y,v,u,a,z,rfl,R,k]:=h;intro t;exists _,ZR (Zl (QI (WV (E:=E0) (pv 0) L.cS e o Xi (ZM (pv 1))) Z));let#[l,m]:=R.sh.self;let#[j,p]:=R.tw.self;show#[1,S,l,1,m,Z,1,S,d,q,n,b,r,i,.ref x,Z,R.sh,R.val,x,jQ,j,_,.int a,Z,p,L.cT,L.nho,Z,k]
theorem uk:ZB T9 T9 (Za HS):=Z2
theorem pb(F:Zk K "label" "Shelf.label" HS f fd)(L:WD K mg jP jQ)(e:ZP P w K mg jS ZX 1 jP "twig_of" T9 (Z9 jP)):ZI P w K mg jS ZX 2 f fd T9 (WX jP jQ λc _ _=>c):=by
 show F.ko uk λg A b s H B Q E o h=>?_;let#[S,d,q,n,a,r,i,x,y,c,u,v,z,rfl,R,k]:=h;intro t;exists _,ZR (Zl (QI (WV (E:=E0) (pv 0) L.cS e o Xi (ZM (pv 1))) Z));let#[l,m]:=R.sh.self;let#[j,p]:=R.tw.self;show#[1,S,l,1,m,Z,1,S,d,q,n,a,r,i,.ref x,Z,R.sh,R.val,x,jQ,j,_,c,Z,p,L.cT,L.ntg,Z,k]
theorem VS:ZB S0 T9 (Za Ig):=Z2
theorem lY(F:Zk K "holders" "Shelf.holders" Ig f fd)(T:Txt mg)(L:WD K mg jP jQ)(m:ZP P w K mg jS ZX 1 jP "twig_of" T9 (Z9 jP)):ZI P w K mg jS ZX 2 f fd T9 (WX jP jQ λ_ a e=>.int ((↑e:Nat)+(a:Nat):Int)):=by
 show F.ko VS λo A c s H C Q E r h=>?_;let#[S,d,t,n,b,u,i,x,B,z,g,a,e,rfl,R,k]:=h;let v:=VS.nd;intro y;exists _,ZL (Zh 2 v (WV (E:=E0) (pv 0) L.cS m r Xi (ZM (pv 1)))) (ZR (Zl (ZW Yo (Zp YO Z T.len YK (ZM (QI (pv 2) Z))) (QI (pv 2) Z))));let#[p,q]:=R.sh.self;let#[j,l]:=R.tw.self;exists 1,S,p,1,q,Z,1,S,d,t,n,b,u,i,.ref x,Z,R.sh,R.val;show#[1,x,jQ,j,_,.ref g,Z,l,L.cT,L.nab,Z,g,e,Z,.inl (ZH.of R.tw.above),1,x,jQ,j,_,.int a,Z,l,L.cT,L.nho,Z,_,1,Z,k]
inductive Vv(jQ:al)(g:je)(H:Hp)(Q:VK)(_:XK):Prop
 |mk(x:al)(d:V)(a b:al)(c:Nat)(e:je)(h:Int)(i:je)(_:g=[.ref x])(_:VQ jQ H x d (.ref a) b c e)(_:H a\.tup (.int h::i))(_:Q (.bl (decide (h > 0))) H)
theorem O':ZB ["twig"] ["twig"] (Za Iz):=Z2
theorem vy(F:Zk K "is_stem" "is_stem" Iz f fd)(T:Txt mg)(L:WD K mg jP jQ):ZI P w K mg jS ZX 1 f fd ["twig"] (Vv jQ):=by
 show F.ko O' λc A a s H u Q E p h=>?_;let#[x,r,b,n,o,t,e,y,rfl,W,g,k]:=h;let#[q,l]:=T.height;let#[d,i]:=W.self;intro m;exists _,ZR (Zl (Pm Pi (YC K (QI (pv 0) Z) (Xo (v:=.int 0) Z l #[_,Z])) ZJ (Zz _)));show#[1,x,jQ,d,_,.ref b,Z,i,L.cT,L.ntg,Z,.inr (.inl #[b,_,_,.int e,Z,Z,Zd.of g,YW (j:=0) Z,_,_,Z,Z,k])]
structure Xb where
 x:al
 th:al
 tg:al
 ab:al
abbrev jE:=List Xb
def Xb.d:Xb:=#[(0),(0),(0),(0)]
structure NE(jQ:al)(H:Hp)(ts:jp)(av:Nat->jo)(ho:Nat->Nat)(i:Nat)(a:Xb):Prop where
 tw:VQ jQ H a.x (.ref a.th) (.ref a.tg) a.ab (ho i) (iN (av i))
 things:∃ us,H a.th\.lst us/\((gd ts i).h=0->jK H (WC (gd ts i).rows) us)/\((gd ts i).h≠0->us=iN (gd ts i).bs)
 tag:XE H (Zs (gd ts i)) (.ref a.tg)
theorem NE.same{jQ:al}{H b:Hp}{e:jp}{c:Nat->jo}{d:Nat->Nat}{i:Nat}{a:Xb}(h:NE jQ H e c d i a)(s:ZD H b):NE jQ b e c d i a:=by
 let#[l,g,j,k]:=h.things;show#[h.tw.same s,#[l,s _ _ g,λz=>(j z).sm s,k],h.tag.mono (ZD.tups s)]
structure Yz(jP jQ:al)(H:Hp)(S d lk:al)(lv:jo)(ts:jp)(av:Nat->jo)(ho:Nat->Nat)(as:jE)(kvs:List (Zj×V))(ls:je):Prop where
 sh:WT jP H S d lk ↑ts kvs ls
 lt:∀ i∈lv,i<↑ts
 keys:kvs.map (·.1)=lv.map (λi:Nat=>(Sum.inl (i:Int):Zj))
 val:∀ i:Nat,i∈lv->YS kvs (Sum.inl (i:Int))\.ref as[i]!.x
 len:↑as=↑ts
 tw:∀ i:Nat,i∈lv->NE jQ H ts av ho i as[i]!
 own:∀ i:Nat,i∈lv->as[i]!.x≠S/\as[i]!.ab≠lk/\as[i]!.th≠lk/\as[i]!.ab≠as[i]!.th
 two:∀ i j:Nat,i∈lv->j∈lv->i≠j->as[i]!.x≠as[j]!.x/\as[i]!.ab≠as[j]!.ab/\as[i]!.ab≠as[j]!.th/\as[i]!.th≠as[j]!.th
theorem Yz.same{jP jQ:al}{H b:Hp}{S d j:al}{l:jo}{m:jp}{e:Nat->jo}{g:Nat->Nat}{c:jE}{a:List (Zj×V)}{k:je}(h:Yz jP jQ H S d j l m e g c a k)(s:ZD H b):Yz jP jQ b S d j l m e g c a k:=
 #[h.sh.same s,h.lt,h.keys,h.val,h.len,λi n=>(h.tw i n).same s,h.own,h.two]
theorem NE.frame{jQ:al}{H b:Hp}{e:jp}{c:Nat->jo}{d:Nat->Nat}{i:Nat}{a:Xb}(h:NE jQ H e c d i a)(m:XB H b)(r:∀ o,H a.x\o->b a.x\o)(q:∀ o,H a.th\o->b a.th\o)(p:∀ o,H a.ab\o->b a.ab\o):NE jQ b e c d i a:=by
 let#[s,j,k,l]:=h.things;let#[g,n]:=h.tw.self;show#[#[#[g,r _ n],p _ h.tw.above],#[s,q _ j,λz=>(k z).mono m _ _,l],h.tag.mono m]
theorem Yz.none{jP jQ:al}{H:Hp}{S d n:al}{c:jo}{p:jp}{g:Nat->jo}{m:Nat->Nat}{e:jE}{a:List (Zj×V)}{o:je}(h:Yz jP jQ H S d n c p g m e a o){x:Int}(b:inT c x=false):YS a (Sum.inl x)=rX:=by
 cases z:YS a (Sum.inl x) with
 | none=>rfl
 | some v=>
  have:=xg z;rw[h.keys] at this;let#[i,l,k]:=zA.mp this;let j:=Sum.inl.inj k;unfold inT at b;show absurd #[∅,by rwa[<-j,l]] (of_decide_eq_false b)
def Mz(a:Nat->jo)(b c:Nat):Nat->jo:=λi=>if i=b then a i++[c] else a i
def V8(a:Nat->Nat)(b:Nat):Nat->Nat:=λi=>if i=b then a i-1 else a i
theorem Yz.touch{jP jQ:al}{H n:Hp}{S d I:al}{C:jo}{L:jp}{j:Nat->jo}{l:Nat->Nat}{g:jE}{r:List (Zj×V)}{J:je}(R:Yz jP jQ H S d I C L j l g r J){b s:Nat}(p:b∈C)(Y:∃ N,n g[b]!.x\.ins jQ N (QV (.ref g[b]!.th) (.ref g[b]!.tg) g[b]!.ab (l b-1)))(X:n g[b]!.ab\.lst (iN (j b++[s])))(k:∀ c o,c≠g[b]!.x->c≠g[b]!.ab->H c\o->n c\o):Yz jP jQ n S d I C L (Mz j b s) (V8 l b) g r J:=by
 let#[#[M,E],B,F]:=R.sh;let t:=R.tw b p;let#[O,a]:=t.tw.self;let h:=t.tw.above;let#[us,D,T,U]:=t.things;let m:XB H n:=λc xs e=>k c _ (Z5 e a) (Z5 e h) e;show#[#[#[M,k _ _ (R.own b p).1.symm (Z5 E h) E],k _ _ (Z5 B a) (Z5 B h) B,k _ _ (Z5 F a) (R.own b p).2.1.symm F],R.lt,R.keys,R.val,R.len,λi v=>?_,R.own,R.two];by_cases z:i=b
 .subst z;let y:Mz j i s i=j i++[s]:=aP Z;let A:V8 l i i=l i-1:=aP Z;show#[#[?_,?_],#[us,k _ _ (Z5 D a) (R.own i v).2.2.2.symm D,λz=>(T z).mono m _ _,U],t.tag.mono m]
  .rwa[A,Y]
  .rwa[y,X]
 .let y:Mz j b s i=j i:=aO z;let A:V8 l b i=l i:=aO z;let u:=R.tw i v;let#[t1,t2,t3,t4]:=R.two i b v p z;let#[s1,s2,s3,s4]:=R.two b i p v (Ne.symm z);let#[Q,q]:=u.tw.self;let#[vs,W,_]:=u.things;let G:=u.frame m (λo e=>k _ _ t1 (by have:=q.symm.trans e;show Z5 q h) e) (λo e=>k _ _ (Z5 W a) s3.symm e) (λo e=>k _ _ (Z5 u.tw.above a) t2 e)
  show#[?_,G.things,G.tag];rwa[y,A,G.tw]
def UW(b:jo)(c:Nat)(a:Nat->jo):Nat->jo:=λi=>if i∈b then a i++[c] else a i
def QM(b:jo)(a:Nat->Nat):Nat->Nat:=λi=>if i∈b then a i-1 else a i
theorem pS{a:jo}{b c:Nat}{d:Nat->jo}(h:b∉a):Mz (UW a c d) b c=UW (a++[b]) c d:=by
 funext i
 unfold Mz UW;by_cases z:i=b
 .subst z;rw[aP rfl,aO h,aP ⋯]
 .rw[aO z];by_cases y:i∈a
  .rw[aP y,aP (by simp[y])]
  .rw[aO y,aO (by simp[y,z])]
theorem oA{a:jo}{b:Nat}{c:Nat->Nat}(h:b∉a):V8 (QM a c) b=QM (a++[b]) c:=by
 funext i
 unfold V8 QM;by_cases z:i=b
 .subst z;rw[aP rfl,aO h,aP ⋯]
 .rw[aO z];by_cases y:i∈a
  .rw[aP y,aP (by simp[y])]
  .rw[aO y,aO (by simp[y,z])]
abbrev Hq:Stmt:=UM (top 47) 21
inductive Xj(jP jQ:al)(r:je)(H:Hp)(Q:VK)(_:XK):Prop
 |mk(S d m l:al)(h:jo)(q:jp)(j:Nat->jo)(k:Nat->Nat)(a:jE)(g:List (Zj×V))(n:je)(e:jo)(p:Nat)(_:r=[.ref S,.int p,.ref l])(_:Yz jP jQ H S d m h q j k a g n)(_:H l\.lst (iN e))(_:e.Nodup)(_:∀ b∈e,b∈h/\1<=k b/\↑(j b)<=900)(_:∀ b:Nat,b∈h->l≠a[b]!.ab)(_:∀ i:Hp,(∀ c o,(∀ b:Nat,b∈h->c≠a[b]!.x/\c≠a[b]!.ab)->H c\o->i c\o)->(∀ c,i c=Y'->H c=Y')->Yz jP jQ i S d m h q (UW e p j) (QM e k) a g n->Q .non i)
abbrev nE:jr:=["self","stem","branches","branch","twig"]
theorem Wx:ZB nE S' (Za Hq):=Z2
theorem kP(F:Zk K "take_over" "Shelf.take_over" Hq f fd)(L:WD K mg jP jQ)(DT:ZP P w K mg jS ZX 1 jP "twig_of" T9 (Z9 jP)):ZI P w K mg jS ZX 2 f fd S' (Xj jP jQ):=by
 show F.ko Wx λa2 A a1 s H vs Q E hr h=>?_;let#[S,d,lk,l,lv,ts,B,j,g,U,ls,p,X,rfl,R,hl,O,hb,a0,k]:=h;let nd:=Wx.nd;intro Xc;show#[_,ZR (WZ PassesOwn.never Z (WQ (pv 2)) (WB 3 nd)
  (ZL (Zh 4 nd (WV (E:=E0) (pv 0) L.cS DT hr Xi (ZM (pv 3))))
  (ZL (Jc (pv 4) ZJ BJ)
  (ZR (Wa (Vo wT vX vW Ql (QI (pv 4) Z) (ZM (pv 1)))))))),?_]
 show#[1,l,Z,#[_,ZH.of hl],UZ (K:=K) (a:=l) (xs:=iN p) (λi σ m=>∃ x y:jf,σ=[Z' (.ref S),Z' (.int X),Z' (.ref l),x,y]/\(∀ c o,(∀ b:Nat,b∈lv->c≠g[b]!.x/\c≠g[b]!.ab)->H c\o->m c\o)/\(∀ c,m c=Y'->H c=Y')/\Yz jP jQ m S d lk lv ts (UW (p.take i) X B) (QM (p.take i) j) g U ls)
  #[_,1,λc o _ e=>e,λc e=>e,(by
   let e1:UW [] X B=B:=funext λi=>aO ⋯
   let e2:QM [] j=j:=funext λi=>aO ⋯
   rwa[show p.take 0=[] from Z,e1,e2,R])] ?_ ?_ ?_]
 .rintro i σ m _ ⟨x,y,rfl,T,_,R2⟩;show ZH.of (T _ _ (λb hb=>#[?_,a0 b hb]) hl);let#[dx,J]:=(R.tw b hb).tw.self;show Z5 hl J
 .rintro i u σ m D ⟨x,y,rfl,T,k3,R2⟩;unfold iN at D;rw[zF] at D;let#[b,eb,rfl]:=wP.mp D;let#[t,a3,a4]:=hb b (zI eb);let v:b∉p.take i:=λz=>by
   let hs:p=p.take i++b::p.drop (i+1):=by
    let hi:=(yL.mp eb);let#[hi,e]:=hi;rw[<-e,<-rK hi,sZ]
   rw[hs,sE] at O;show O.2.2 b z b ⋯ Z
  let N:QM (p.take i) j b=j b:=aO v;let M:UW (p.take i) X B b=B b:=aO v;let#[dS,hS]:=R2.sh.self;let Wb:=R2.tw b t;let#[r,J]:=Wb.tw.self;let C:=Wb.tw.above;rw[N] at J;rw[M] at C;exists 1,S,dS,1,hS,Z,1,S,d,lk,↑ts,U,ls,(b:Int),.ref g[b]!.x,Z,R2.sh,R2.val b t;exists 1,g[b]!.x,jQ,r,_,.int (j b:Nat),Z,J,L.cT,L.nho,Z,_,1,Z,r,_,J,yC Z;let eh:((j b:Nat):Int)-1=((j b-1:Nat):Int):=∅
  let G:upd m g[b]!.x (.ins jQ r (Xl "holds" (.int (((j b:Nat):Int)-1)) (QV (.ref g[b]!.th) (.ref g[b]!.tg) g[b]!.ab (j b)))) g[b]!.x\.ins jQ r (QV (.ref g[b]!.th) (.ref g[b]!.tg) g[b]!.ab (j b-1)):=by rw[ZY,eh];rfl
  let Y:g[b]!.ab≠g[b]!.x:=Z5 C J;let q:upd m g[b]!.x (.ins jQ r (Xl "holds" (.int (((j b:Nat):Int)-1)) (QV (.ref g[b]!.th) (.ref g[b]!.tg) g[b]!.ab (j b)))) g[b]!.ab\.lst (iN (B b)):=#v[ZT Y,C]
  let I:∀ c o,c≠g[b]!.x->m c\o->upd m g[b]!.x (.ins jQ r (Xl "holds" (.int (((j b:Nat):Int)-1)) (QV (.ref g[b]!.th) (.ref g[b]!.tg) g[b]!.ab (j b)))) c\o:=λc o n e=>#v[ZT n,e]
  let W:∀ c,upd m g[b]!.x (.ins jQ r (Xl "holds" (.int (((j b:Nat):Int)-1)) (QV (.ref g[b]!.th) (.ref g[b]!.tg) g[b]!.ab (j b)))) c=Y'->m c=Y':=λc e=>by
   by_cases z:c=g[b]!.x
   .erw[z,ZY] at e
   .rw[ZT z] at e;show e
  generalize upd m g[b]!.x (.ins jQ r (Xl "holds" (.int (((j b:Nat):Int)-1)) (QV (.ref g[b]!.th) (.ref g[b]!.tg) g[b]!.ab (j b))))=H3 at G q I W⊢;exists 1,g[b]!.x,jQ,r,_,.ref g[b]!.ab,Z,G,L.cT,L.nab,Z,.inl #[Z,_,ZH.of q],1,g[b]!.ab,_,.int X,Z,Z,q,YQ (by rw[show ↑(iN (B b))=↑(B b) from zY _];lia)
  let et:p.take (i+1)=p.take i++[b]:=by rw[yR,eb];rfl
  exists _,1,λc o hc e=>?_,λc e=>?_
  .let#[n1,n2]:=hc b t;rwa[ZT n2,I _ _ n1 (T c o hc e)]
  .by_cases z:c=g[b]!.ab
   .erw[z,ZY] at e
   .rw[ZT z] at e;show k3 c (W c e)
  .rw[et,<-pS v,<-oA v];show R2.touch t #[r,?_] ?_ λc o n1 n2 e=>?_
   .rwa[ZT (Ne.symm Y),N,G]
   .rw[ZY,M];simp[iN]
   .rwa[ZT n2,I _ _ n1 e]
 .rintro σ m ⟨x,y,rfl,T,k3,R2⟩;rw[show ↑(iN p)=↑p from zY _,yH (zW _)] at R2;show k m T k3 R2
theorem RH{X:Cx}{k:Nat}{C:al}{x:Str}{o:jr}{h:Sp}{e:Expr}{a:jy}{t:TA}{p c:aJ}(D:QE X.prog X.w X.K X.mg X.base k C o h)(n:ZU (k+1) X.A)(l:Gl X x)(m:X.mg x\.ref C)(i:PA X (e::a) t)(d:(x==("__debug__" : Str))=false:=by decide)(j:aw (e::a) X.env=(false,aH e X.env)::aw a X.env:=by rfl)(g:(aG c (aw a X.env)).any (·.1)=false:=by rfl):
  PE X (.Call (.Name x p) (e::a) [] c) (Le C h [] E0 t):=by
 let#[f,fd,M,F,b]:=D.ex;show EU M F n l m b .nil Xi i d j g
theorem zu{X:Cx}{k:Nat}{C:al}{x:Str}{i:jr}{d:Sp}{p c:aJ}(D:QE X.prog X.w X.K X.mg X.base k C i d)(h:ZU (k+1) X.A)(e:Gl X x)(g:X.mg x\.ref C)(a:(x==("__debug__" : Str))=false:=by decide):PE X (.Call (.Name x p) [] [] c) (Le C d [] E0 V0):=by
 let#[f,fd,M,F,b]:=D.ex;show Ah M F h e g b .nil Xi a
def U9(n:Nat)(a:Nat->jo):Nat->jo:=λi=>if i=n then [] else a i
def Pa(n:Nat)(a:Nat->Nat):Nat->Nat:=λi=>if i=n then 1 else a i
theorem Kd{a:jp}{t:ZK}{i:Nat}(h:i<↑a):gd (a++[t]) i=gd a i:=by
 unfold gd;rw[zO,wS h,<-zO]
theorem Ox{a:jp}{t:ZK}:gd (a++[t]) ↑a=t:=by
 unfold gd;rw[zO,wN (zW _)];simp
theorem Js{b:jE}{a:Xb}{i:Nat}(h:i<↑b):(b++[a]).getD i .d=b[i]!:=by
 rw[zO,wS h,<-zO]
theorem GZ{b:jE}{a:Xb}:(b++[a]).getD ↑b .d=a:=by
 rw[zO,wN (zW _)];simp
theorem EC{jP jQ:al}{H H':Hp}{S d N:al}{D:jo}{g:jp}{B:Nat->jo}{M:Nat->Nat}{n:jE}{q:List (Zj×V)}{ls:je}(R:Yz jP jQ H S d N D g B M n q ls){t:ZK}{x th tg ab:al}(Q:∀ b o,b≠S->b≠d->H b\o->H' b\o)(nx:H x=Y')(s:H th=Y')(r:H ab=Y')(I:ab≠th)(R':WT jP H' S d N (↑g+1) (Wf q (.inl (↑g:Int)) (.ref x)) ls)(W:VQ jQ H' x (.ref th) (.ref tg) ab 1 [])(Y:∃ l,H' th\.lst l/\(t.h=0->jK H' (WC t.rows) l)/\(t.h≠0->l=iN t.bs))(X:XE H' (Zs t) (.ref tg)):
  Yz jP jQ H' S d N (D++[↑g]) (g++[t]) (U9 ↑g B) (Pa ↑g M) (n++[#[x,th,tg,ab]]) (Wf q (.inl (↑g:Int)) (.ref x)) ls:=by
 let#[#[dS,T],U,hl]:=R.sh;let m:XB H H':=λc xs e=>Q c _ (Z5 e T) (Z5 e U) e;let en:↑(g++[t])=↑g+1:=by simp
 let nv:YS q (Sum.inl (↑g:Int))=Y':=R.none (by unfold inT;show aK (λz=>by have:=R.lt _ z.2;lia))
 let a:∀ i,i∈D++[↑g]->i∈D\/i=↑g:=λi k=>(yY.mp k).imp_right zP.mp;let el:↑n=↑g:=R.len;let A:∀ i,i∈D->(n++[(#[x,th,tg,ab]:Xb)]).getD i .d=n[i]!:=λi k=>Js (by have:=R.lt i k;lia)
 let E:(n++[(#[x,th,tg,ab]:Xb)]).getD ↑g .d=#[x,th,tg,ab]:=by rwa[<-el,GZ]
 let y:∀ i,i∈D->∃ C l o,H n[i]!.x\.ins jQ C l/\H n[i]!.th\.lst o/\H n[i]!.ab\.lst (iN (B i)):=λi k=>by
  let#[C,u]:=(R.tw i k).tw.self;let#[l,p,_]:=(R.tw i k).things;show#[C,_,l,u,p,(R.tw i k).tw.above]
 let nS:x≠S:=(Zf T nx).symm;let F:ab≠N:=(Zf hl r).symm;let O:th≠N:=(Zf hl s).symm;show#[#v[en,R'],λi k=>#v[en,(a i k).elim (λc=>by have:=R.lt i c;lia) (λc=>by lia)],?_,λi k=>?_,by simp[el],λi k=>?_,λi k=>?_,λi j k hj L=>?_]
 .rw[BZ _ nv,yX,R.keys,yX];rfl
 .rw[CI];rcases a i k with c | rfl
  .rw[aO (λz=>by have:=Sum.inl.inj z;have:=R.lt i c;lia),A i c]
   show R.val i c
  .rw[aP rfl,E]
 .rcases a i k with c | rfl
  .let Wi:=R.tw i c;let#[C,l,o,u,p,v]:=y i c;let il:=R.lt i c;let ni:i≠↑g:=∅
   let G:=Wi.frame m (λo' e=>Q _ _ (R.own i c).1 (Z5 u U) e) (λo' e=>Q _ _ (Z5 p T) (Z5 p U) e) (λo' e=>Q _ _ (Z5 v T) (Z5 v U) e);rw[A i c];exists ?_,?_
   .rwa[show U9 ↑g B i=B i from aO ni,show Pa ↑g M i=M i from aO ni,G.tw]
   .rwa[Kd il,G.things]
   .rwa[Kd il,G.tag]
  .rw[E];exists ?_,?_
   .rwa[show U9 ↑g B ↑g=[] from aP Z,show Pa ↑g M ↑g=1 from aP Z,W]
   .rwa[Ox,Y]
   .rwa[Ox,X]
 .rcases a i k with c | rfl
  .rwa[A i c,R.own i c]
  .rwa[E,#[nS,F,O,I]]
 .rcases a i k with c | rfl
  .rw[A i c];rcases a j hj with J | rfl
   .rwa[A j J,R.two i j c J L]
   .rw[E];let#[C,l,o,u,p,v]:=y i c;show#[Zf u nx,Zf v r,Zf v s,Zf p s]
  .rw[E];rcases a j hj with J | rfl
   .rw[A j J];let#[C,l,o,u,p,v]:=y j J;show#[(Zf u nx).symm,(Zf v r).symm,(Zf p r).symm,(Zf p s).symm]
   .show absurd Z L
inductive XJ(jP jQ:al)(k:je)(H:Hp)(Q:VK)(_:XK):Prop
 |mk(S d g:al)(n:Nat)(a:List (Zj×V))(h:je)(j i:V)(_:k=[.ref S,j,i])(_:WT jP H S d g n a h)(_:↑a<=900)(_:∀(c:Hp)(x e:al),H x=Y'->H e=Y'->(∀ b o,b≠S->b≠d->H b\o->c b\o)->WT jP c S d g (n+1) (Wf a (.inl (n:Int)) (.ref x)) h->VQ jQ c x j i e 1 []->Q (.int (n:Int)) c)
theorem VU:ZB ["self","things","label","number"] Tq (Za Gr):=Z2
theorem mH(F:Zk K "put_twig" "Shelf.put_twig" Gr f fd)(L:WD K mg jP jQ)(DM:QE P w K mg jS 1 jQ Ti (Qh jQ)):ZI P w K mg jS ZX 3 f fd Tq (XJ jP jQ):=by
 show F.ko VU λa1 A Y s H vs Q E hr h=>?_;let#[S,d,c,n,T,ls,th,tg,rfl,R,a0,k]:=h;let nd:=VU.nd;let hu:=BD hr;intro Xc;show#[_,ZL (Zh 3 nd (QI (pv 0) Z)) (ZL (PY (pv 0) (ZW Yo (pv 3) ZJ) Z)
  (ZL (IX hu (QI (pv 0) Z) (pv 3) (RH DM hr Z L.twig (Zb (pv 1) (pv 2))) Z) (ZR (Zl (pv 3))))),?_]
 let#[#[a,y],J,M]:=R;let Sd:S≠d:=Z5 y J;let Sl:S≠c:=Z5 y M;let dl:d≠c:=Z5 J M;exists 1,S,jP,a,_,.int n,Z,y,L.cS,L.nf,Z;exists 1,_,1,Z,1,S,jP,a,1,y,L.cS,L.nf,yC Z;let l:upd H S (.ins jP a (Xl "following" (.int ((n:Int)+1)) (Of d c n))) S\.ins jP a (Of d c (n+1)):=ZY;let q:upd H S (.ins jP a (Xl "following" (.int ((n:Int)+1)) (Of d c n))) d\.dK T:=#v[ZT (Ne.symm Sd),J]
 let r:upd H S (.ins jP a (Xl "following" (.int ((n:Int)+1)) (Of d c n))) c\.lst ls:=#v[ZT (Ne.symm Sl),M]
 let u:∀ b o,b≠S->H b\o->upd H S (.ins jP a (Xl "following" (.int ((n:Int)+1)) (Of d c n))) b\o:=λb o n e=>#v[ZT n,e]
 let j:∀ b,upd H S (.ins jP a (Xl "following" (.int ((n:Int)+1)) (Of d c n))) b=Y'->H b=Y':=λb e=>by
  by_cases z:b=S
  .erw[z,ZY] at e
  .rw[ZT z] at e;show e
 generalize upd H S (.ins jP a (Xl "following" (.int ((n:Int)+1)) (Of d c n)))=B at l q r u j⊢;exists 1,_,Z;intro x G nx V ne;let g1:=Zr V (.own x);let X:upd B G (.own x) x=Y':=#v[ZT (Ne.symm ne),nx]
 let g2:=Zr X (.ins jQ G []);let g:=g1.trans g2;show#[x,G,th,tg,Z,ZY,λH2 C O U W=>#[Z,?_]];let v:∀ b o,B b\o->H2 b\o:=λb o e=>O b o (Zf e nx) (g b o e);let m:=v _ _ l;let i:=v _ _ q;let N:=v _ _ r;let p:B C=Y':=g.free U;let#[I,t]:=W.self;let xd:x≠d:=Z5 t i;let D:C≠d:=Z5 W.above i;exists 1,S,jP,a,_,.ref d,Z,m,L.cS,L.nk,Z,1,d,1,Q0.k (k:=Sum.inl (n:Int)) i (YQ ∅)
 show#[1,k _ x C (j _ nx) (j _ p) (λb o n1 n2 e=>?_) #[#[a,?_],ZY,?_] #[#[I,?_],?_]]
 .rwa[ZT n2,v b o (u b o n1 e)]
 .rwa[ZT Sd,m]
 .rwa[ZT (Ne.symm dl),N]
 .rwa[ZT xd,t]
 .rwa[ZT D,W.above]
theorem oO{H:Hp}{b:jz}{c:je}(h:jK H (WC b) c):FC H (b.map (·.1)) c:=by
 let k:↑c=↑b:=by have:=↑h;rwa[<-this,zY _]
 exists #v[zY,k]
 intro i u e;let#[a,m,n,j,d,g,l,_]:=NO h e;exists a,m,n,d,g;rwa[zO,zF,j,l]
inductive Qr(b:je)(H:Hp)(Q:VK)(_:XK):Prop
 |mk(v:V)(t:KT)(_:b=[v])(_:ZE H t v)(_:t.fits 3=V')(_:∀ a,ZD H a->Q v a)
theorem ot:ZB TQ TQ (Za Ir):=Z2
theorem lO(F:Zk K "checked" "checked" Ir f fd)(c:ZC P w K mg jS 6 "is_key" TQ Vm):ZI P w K mg jS ZX 7 f fd TQ Qr:=by
 show F.ko ot λe A a s H m Q E g h=>?_;let#[v,t,rfl,i,b,k]:=h;intro l;exists _,ZL (Zx (Ux (WU (Ze c g (ZM (pv 0))))) Nt Z0) (ZR (Zl (pv 0)));show#[1,v,t,(3),Z,i,b,λd j=>#[1,?_]];rwa[b,Zo #[1,k d j]]
inductive XL(g:je)(H:Hp)(Q:VK)(_:XK):Prop
 |mk(l:al)(e:je)(d:jz)(_:g=[.ref l])(_:H l\.lst e)(_:jK H (WC d) e)(_:∀ r∈d,r.fit)(_:↑e<=100)(_:∀(b:Hp)(c:al)(a:je),ZD H b->H c=Y'->b c\.lst a->jK b (WC d) a->Q (.ref c) b)
theorem ny:ZB T3 T3 (Za Jk):=Z2
theorem mK(F:Zk K "own_rows" "own_rows" Jk f fd)(M:ZC P w K mg jS 7 "checked" TQ Qr):ZI P w K mg jS ZX 8 f fd T3 XL:=by
 show F.ko ny λa0 A J s H vs Q E W h=>?_;let#[l,r,rs,rfl,y,V,hf,T,k]:=h;let lk:↑r=↑rs:=by have:=V.length;rwa[<-this,zY _]
 intro Xc;show#[_,ZR (Zl (VT [] [] Z (WQ (pv 0)) (λ_ _ _ _ _=>VH)
   (λ_ _ _ _ _=>Y2 (Zb (Ze M W (ZM (YC K (pv 0) ZJ))) (Ze M W (ZM (YC K (pv 0) ZJ))))) trivial)),?_]
 exists 1,l,Z,#[r,ZH.of y];show Wr (n:=↑r) (λi z=>r[i]?\z) (λD i t m=>ZD H m/\H D=Y'/\jK m (WC (rs.take i)) t) (YQ ∅)
  (λD i t m I d=>#[r,r[i],ZH.of (d.1 _ _ y),by simp[I]]) (λD i t m z H4 I d X=>#[X.1,X.2 r (ZH.of (d.1 _ _ y))]) (λD t m d=>#[r,ZH.of (d.1 _ _ y),zW _])
  (λD U=>#[Zr U _,U,.nil]) (λD i t m z G a1 I hz d R hR=>?_) (λD t m G d=>?_)
 .let#[p,B,j]:=d;let#[a,v,x,S,rfl,e2,Y,k2]:=NO V hz;let O:=p _ _ e2;let o:=hf _ (zI S);show#[1,.inr (.inl #[a,_,_,v,Z,Z,Zd.of O,Z,v,_,Z,Y.sm p,o.1,λH4 L=>?_])];show#[1,.inr (.inl #[a,_,_,x,Z,Z,Zd.of (L _ _ O),Z,x,_,Z,k2.sm (p.trans L),o.2,λN s5=>?_])];exists Ym;intro q hq;let g:=Zr hq (.tup [v,x]);let c:=(L.trans s5).trans g;let u:=c _ _ G;let C:XB (upd N q (.tup [v,x])) (upd (upd N q (.tup [v,x])) D (.lst (t++[.ref q]))):=λb xs e=>#v[ZT (Z5 e u),e]
  show hR _ _ u #[UJ (p.trans c) B,B,?_];rw[yR,S,Jp];show((j.sm c).mono C _ _).append (.cons (.tup (C _ _ ZY) (.cons ?_ (.cons ?_ .nil))) .nil)
  .show(Y.sm (p.trans c)).mono C _ _
  .show(k2.sm (p.trans c)).mono C _ _
 .let#[p,B,j]:=d;rw[yH ∅] at j
  show k m D t p B G j
inductive Vg(g:je)(H:Hp)(Q:VK)(_:XK):Prop
 |mk(l:al)(d:je)(c:jq)(_:g=[.ref l])(_:H l\.lst d)(_:jK H c d)(_:∀ t∈c,t.fits 3=V')(_:↑d<=100)(_:c.Pairwise (λa b=>a.lt b=V'))(_:∀ e,ZD H e->Q (.bl true) e)
theorem DZ:ZB TM TM (Za KK):=Z2
theorem Lv{c:Type}{R:c->c->Prop}:∀{l:List c},l.Pairwise R->∀{i j:Nat}{a b:c},i<j->l[i]?\a->l[j]?\b->R a b
 | [],_,_,_,_,_,_,h,_=>by simp at h
 | x::l,hp,0,j+1,a,b,_,ha,hb=>by
  simp at ha hb;subst ha;show(wX.mp hp).1 b (zI hb)
 | x::l,hp,i+1,j+1,a,b,hij,ha,hb=>by
  simp at ha hb;show Lv (wX.mp hp).2 ∅ ha hb
theorem uz(F:Zk K "rise" "rise" KK f fd)(T:Txt mg)(S:ZC P w K mg jS 7 "ahead" Tx Xv):ZI P w K mg jS ZX 8 f fd TM Vg:=by
 show F.ko DZ λU A y s H vs Q E hr h=>?_;let#[l,c,ks,rfl,L,t,J,G,u,k]:=h;let lk:=↑t;intro Xc;show#[_,ZR (Zl (Zp (K9 Z) Z T.all KO (ZM (VT [0] TM Z (KW Z T.range (Zb ZJ (Zp YO Z T.len YK (ZM (pv 0))))) (λ_ _ _ _ _=>VH)
  (λ_ _ _ _ _=>Ze S hr (Zb (YC K (pv 1) (ZW Ui (pv 0) ZJ)) (YC K (pv 1) (pv 0)))) #[Z,.inl Z,Z,trivial])))),?_]
 exists 1,l,c,Z,.inl (ZH.of L),(1),(↑c:Int),Z,#[∅,∅,∅,∅]
 show Wr (n:=((↑c:Int)-1).toNat) (λi x=>x=.int (1+(i:Int))) (λD i j d=>ZD H d/\H D=Y'/\j=(xD i true).map V.bl) (YQ ∅)
  (λD i j d q _=>q) (λD i j d x z q _ hy=>hy) (λD j d _=>zW _) (λD I=>#[Zr I _,I,Z]) (λD i j d x o a0 q hx p R Y=>?_) (λD j d o p=>?_)
 .subst hx;let#[g,v,rfl]:=p;let r:i+1<↑c:=∅
  let N:c[i]?\(c[i]'∅):=zU ∅
  let O:c[i+1]?\c[i+1]:=zU r;let X:(1:Int)+(i:Int)=((i+1:Nat):Int):=∅
  let W:(1:Int)+(i:Int)-1=((i:Nat):Int):=∅
  let#[a,B,ka]:=t.get N;let#[b,C,kb]:=t.get O;let m:=g _ _ L;show#[2,_,1,Z,.inl #[l,c,_,1,Z,ZH.of m,#v[W,YW N],?_]]
  show#[2,.inl #[l,c,_,1,Z,ZH.of m,#v[X,YW O],?_]]
  exists _,_,a,b,Z,ka.sm g,kb.sm g,J a (zI B),J b (zI C);intro z M;rw[Lv u (wR i) B C];show Y _ z (M D _ o) #[UJ (g.trans M) v,v,?_];rw[List.replicate_succ',yX];rfl
 .let#[g,v,rfl]:=p;exists D,1,ZH.of o;let e:(xD ((↑c:Int)-1).toNat true).all id=V':=by simp
  rwa[e,k d g]
def Vy(c:jz):Prop:=(∀ r∈c,r.fit)/\0<↑c/\↑c<=4/\(c.map (·.1)).Pairwise (λa b=>a.lt b=V')
inductive Wm(g:je)(H:Hp)(Q:VK)(_:XK):Prop
 |mk(l:al)(e:je)(d:jz)(_:g=[.ref l])(_:H l\.lst e)(_:jK H (WC d) e)(_:Vy d)(_:∀(b:Hp)(c:al)(a:je),ZD H b->H c=Y'->b c\.lst a->jK b (WC d) a->Q (.ref c) b)
theorem Xw:ZB ["rows","own"] T3 (Za KZ):=Z2
theorem oJ(F:Zk K "checked_rows" "checked_rows" KZ f fd)(T:Txt mg)(W:ZC P w K mg jS 8 "own_rows" T3 XL)(X:ZC P w K mg jS 8 "rise" TM Vg):ZI P w K mg jS ZX 9 f fd T3 Wm:=by
 show F.ko Xw λY A J s H vs Q E S h=>?_;let#[l,V,y,rfl,hl,O,#[N,h0,h4,I],k]:=h;let nd:=Xw.nd;let lk:V.length=↑y:=by have:=↑O;rwa[<-this,zY _]
 let#[t4,m4]:=T.rows;intro Xc;show#[_,ZL (Zh 1 nd (Ze W S (ZM (pv 0))))
  (ZL (Zx (PW.pt (Pe (Ux (Ke Qf Qf ZJ (Zp YO Z T.len YK (ZM (pv 1))) (Xo (v:=.int 4) Z m4 #[_,Z])))
   (Pc (Ux (WU (Ze X S (ZM (VT [] [] Z (WQ (pv 1)) (λ_ _ _ _ _=>VH) (λ_ _ _ _ _=>YC K (pv 0) ZJ) trivial)))))))) Nt Z0)
  (ZR (Zl (pv 1)))),?_]
 exists 1,l,V,y,Z,hl,O,N,by lia
 intro B D b s3 nD u m;let ly:↑b=↑y:=by have:=↑m;rwa[<-this,zY _]
 exists 1,D,b,Z,.inl (ZH.of u),_,1,Z,_,Z;rw[aM (show (1:Int)<=(↑b:Int) by lia)]
 show Zq #[_,1,Z,1,?_];rw[aM (show (↑b:Int)<=4 by lia)]
 show Zo ?_;exists 1,D,Z,#[b,ZH.of u];show Wr (n:=↑b) (λi z=>b[i]?\z) (λe i q g=>ZD B g/\B e=Y'/\jK B ((y.map (·.1)).take i) q) (YQ ∅)
  (λe i q g C d=>#[b,b[i],ZH.of (d.1 _ _ u),by simp[C]]) (λe i q g z M C d U=>#[U.1,U.2 b (ZH.of (d.1 _ _ u))]) (λe q g d=>#[b,ZH.of (d.1 _ _ u),zW _])
  (λe x=>#[Zr x _,x,.nil]) (λe i q g z j a0 C hz d R hR=>?_) (λe q g j d=>?_)
 .let#[p,o,c]:=d;let#[a,vk,vv,er,rfl,e2,k1,_]:=NO m hz;show#[1,.inr (.inl #[a,_,_,vk,Z,Z,Zd.of (p _ _ e2),Z,?_])];show hR _ g j #[UJ p o,o,?_];rwa[yR,zF,er,c.append (.cons k1 .nil)]
 .let#[p,o,c]:=d;rw[yH (by rw[zY];lia)] at c
  let lz:=↑c;rw[zY] at lz;show#[e,q,1,j,c.sm p,λt ht=>?_,∅,I,λM L=>#[1,Zo #[1,k M D b ((s3.trans p).trans L) nD (L _ _ (p _ _ u)) (m.sm (p.trans L))]]]
  let#[r,G,rfl]:=zA.mp ht;show(N r G).1
def U5(a:jz):ZK:=#[(0),a,[]]
inductive WI(jP jQ:al)(r:je)(H:Hp)(Q:VK)(_:XK):Prop
 |mk(S d n l:al)(h:jo)(c:jp)(k:Nat->jo)(m:Nat->Nat)(j:jE)(e:List (Zj×V))(p q:je)(i:jz)(_:r=[.ref S,.ref l])(_:Yz jP jQ H S d n h c k m j e p)(_:↑h<=900)(_:H l\.lst q)(_:jK H (WC i) q)(_:Vy i)(_:∀(g:Hp)(a:Xb),H a.x=Y'->H a.th=Y'->H a.ab=Y'->(∀ b o,b≠S->b≠d->H b\o->g b\o)->Yz jP jQ g S d n (h++[↑c]) (c++[U5 i]) (U9 ↑c k) (Pa ↑c m) (j++[a]) (Wf e (.inl (↑c:Int)) (.ref a.x)) p->Q (.int (↑c:Nat)) g)
theorem XG:ZB ["self","rows","own"] Tz (Za Lj):=Z2
theorem Ej{jP jQ:al}{H:Hp}{S d h:al}{b:jo}{j:jp}{e:Nat->jo}{g:Nat->Nat}{c:jE}{a:List (Zj×V)}{i:je}(R:Yz jP jQ H S d h b j e g c a i):↑a=↑b:=by
 have:=congrArg xI R.keys;simpa using this
def YM(c:jp)(a:jo):jz:=a.flatMap λb=>(gd c b).rows
def Yt(b:jp)(a:jo):ZK:=#[(gd b (a.getD 0 0)).h+1,YM b a,a]
def Kw(c:jp):jo->Prop
 | a::b::r=>(Zs (gd c a)).hi.lt (Zs (gd c b)).lo=V'/\Kw c (b::r)
 | _=>True
theorem BU{c:jp}:∀{bs:jo},(∀ j,j+1<↑bs->((YF c bs).getD j .d).hi.lt ((YF c bs).getD (j+1) .d).lo=V')->Kw c bs
 | [],_=>trivial
 | [_],_=>trivial
 | a::b::r,h=>#[h 0 ⋯,BU (bs:=b::r) λj e=>h (j+1) (by simp at e⊢;lia)]
theorem NN{t:ZK}(a:t.rows≠[]):∃ r b,t.rows=r::b/\(Zs t).lo=r.1:=by
 cases e:t.rows with
 | nil=>show absurd e a
 | cons r b=>show#[r,b,Z,by unfold Zs;rw[e];rfl]
theorem Kl{t:ZK}(a:t.rows≠[]):∃ b r,t.rows=b++[r]/\(Zs t).hi=r.1:=by
 rcases qN t.rows with e | ⟨b,r,e⟩
 .show absurd e a
 .rw[qP] at e;exists b,r,e;unfold Zs;rw[e];simp[zO]
theorem Ru{gt:jo}{g:jp}{i:Nat}{t:ZK}(h:V4 gt g i t){x:KT}(a:x∈t.rows.map (·.1)){y:KT}(b:(Zs t).hi.lt y=V'):x.lt y=V':=by
 let#[j,r,e,d]:=Kl h.ne;let c:=h.up;rw[e,yX] at c a;rw[d] at b;rcases yY.mp a with a | a
 .have:=(tF.mp c).2.2 x a r.1 ⋯
  show U' _ _ _ this b
 .simp at a;rwa[a,b]
theorem Rt{l:jq}(g:l.Pairwise λa b=>a.lt b=V'){z:KT}(e:l.head?\z){x:KT}(d:x.lt z=V'):∀ y∈l,x.lt y=V':=by
 cases l with
 | nil=>cases e
 | cons a l=>
  simp at e;subst e;intro y c;rcases zN.mp c with rfl | c
  .show d
  .show U' _ _ _ d ((wX.mp g).1 y c)
theorem EX{gt:jo}{d:jp}(i:WF gt d):∀{bs:jo},(∀ b∈bs,b∈gt)->Kw d bs->((YM d bs).map (·.1)).Pairwise (λa b=>a.lt b=V')/\bs.Nodup
 | [],_,_=>#[sM.nil,sJ]
 | [a],h,_=>by
  show#[?_,by simp]
  have:=(i a (h a ⋯)).up
  simpa [YM] using this
 | a::b::r,h,hn=>by
  let#[m,p]:=EX i (bs:=b::r) (λc q=>h c (zM _ q)) hn.2;let j:=i a (h a ⋯)
  let A:=i b (h b ⋯)
  let#[C,D,n,o]:=NN A.ne;let s:((YM d (b::r)).map (·.1)).head? = Z' (Zs (gd d b)).lo:=by
   rw[o];unfold YM;rw[xX,n];rfl
  let g:∀ x∈(gd d a).rows.map (·.1),∀ y∈(YM d (b::r)).map (·.1),x.lt y=V':=λx u=>Rt m s (Ru j u hn.1);show#[?_,wC.mpr #[λt=>?_,p]]
  .let e:YM d (a::b::r)=(gd d a).rows++YM d (b::r):=by simp[YM]
   rwa[e,yX,tF.mpr #[j.up,m,g]]
  .let#[k,B,l,_]:=NN j.ne;let v:k.1∈(gd d a).rows.map (·.1):=by rw[l];simp
   let z:k.1∈(YM d (b::r)).map (·.1):=zA.mpr #[k,wB.mpr #[a,t,by rw[l];simp],Z]
   have:=g _ v _ z;erw[Oo] at this
theorem Q8{c:jp}{a:jo}{i:Nat}(b:i<↑a):(YF c a).getD i .d=Zs (gd c (a.getD i 0)):=by
 unfold YF;rw[zO,zF,zU b,zO,zU b];rfl
theorem AD{gt:jo}{g:jp}(F:WF gt g){c:jo}(x:∀ b∈c,b∈gt){L:YV}(h:over (YF g c)\L):
  L=Zs (Yt g c)/\c.Nodup/\2<=↑c/\↑c<=4/\(∀ b∈c,(gd g b).h+1=(Yt g c).h)/\((YM g c).map (·.1)).Pairwise (λa b=>a.lt b=V')/\YM g c≠[]:=by
 unfold over at h;split at h
 case isFalse=>cases h
 case isTrue hc=>
  let#[o,H,V]:=hc;let G:↑(YF g c)=↑c:=zY _;rw[G] at o H;let p:=Qy.mpr V;unfold ID at p;rw[G] at p;let B:Kw g c:=BU λj U=>(p j U).2;let#[E,C]:=EX F x B;let T:∀ i,i<↑c->((YF g c).getD i .d).h=((YF g c).getD 0 .d).h:=λi n=>by
   cases i with
   | zero=>rfl
   | succ i=>show(p i n).1
  let k:∀ i,i<↑c->c.getD i 0∈c:=λi n=>#v[zO,zU n,xP _]
  let I:=F _ (x _ (k 0 ∅))
  let X:=F _ (x _ (k (↑c-1) ∅))
  let A:∀ b∈c,(gd g b).h+1=(Yt g c).h:=λb y=>by
   let#[i,n,e]:=List.getElem_of_mem y;have:=T i n;rw[Q8 n,Q8 ∅] at this
   let s:c.getD i 0=b:=by rw[zO,zU n,e];rfl
   rw[s] at this;have:=Int.ofNat.inj this;change (gd g b).h+1=(gd g (c.getD 0 0)).h+1
   lia
  let D:YM g c≠[]:=λz=>by
   let#[r,q,e,_]:=NN I.ne;have:r∈YM g c:=wB.mpr #[_,k 0 ∅,by rw[e];simp]
   rw[z] at this;simp at this
  show#[?_,C,o,H,A,E,D];rw[<-yP.inj h];let v:((YF g c).getD 0 .d).lo=(Zs (Yt g c)).lo:=by
   rw[Q8 ∅]
   let#[r,q,e,u]:=NN I.ne;rw[u]
   cases c with
   | nil=>simp at o
   | cons b c=>
    unfold Zs Yt YM;let M:(gd g b).rows=r::q:=e;simp only[xX,M];rfl
  let t:((YF g c).getD (↑(YF g c)-1) .d).hi=(Zs (Yt g c)).hi:=by
   rw[G,Q8 ∅]
   let#[q,r,e,u]:=Kl X.ne;rw[u];rcases qN c with z | ⟨J,b,z⟩
   .rw[z] at o;simp at o
   .rw[qP] at z;let O:c.getD (↑c-1) 0=b:=by rw[z];simp[zO]
    rw[O] at e;let S:YM g c=YM g J++q++[r]:=by rw[z];simp[YM,e]
    unfold Zs Yt;simp only[S];simp[zO]
  let R:((YF g c).map YV.m).sum=(Zs (Yt g c)).m:=by
   have:∀ l:jo,((YF g l).map YV.m).sum=(↑(YM g l):Int):=λl=>by
    induction l with
    | nil=>rfl
    | cons b l W=>
     let N:YF g (b::l)=Zs (gd g b)::YF g l:=rfl;let s:YM g (b::l)=(gd g b).rows++YM g l:=by simp[YM]
     rw[N,s,yT,tW,W,zS];change (↑(gd g b).rows:Int)+_=_
     lia
   show this c
  let Q:((YF g c).getD 0 .d).h+1=(Zs (Yt g c)).h:=by
   rw[Q8 ∅]
   change ((gd g (c.getD 0 0)).h:Int)+1=(((gd g (c.getD 0 0)).h+1:Nat):Int)
   lia
  rw[v,t,R,Q]
theorem rq{gt:jo}{c:jp}(k:WF gt c){d:jo}(e:∀ b∈d,b∈gt){L:YV}(h:over (YF c d)\L):V4 gt c ↑c (Yt c d):=by
 let#[_,_,l,m,n,j,g]:=AD k e h;show#[g,j,λr o=>?_,λz=>absurd z (by change (gd c (d.getD 0 0)).h+1≠0;lia),λ_=>#[l,m,λb a=>#[e b a,n b a],Z]]
 let#[b,a,i]:=wB.mp o;show(k b (e b a)).inn r i
theorem G1{gt:jo}{e:jp}(h:WF gt e){c:jo}(g:∀ b∈c,b∈gt)(i:Nat):((YF e c).getD i .d).fit:=by
 rcases yW i ↑c with a | a
 .rw[Q8 a];show vp (h _ (g _ ?_));rwa[zO,zU a,xP _]
 .rw[zO,tE (by unfold YF;rwa[zY,a])]
  show RY
abbrev RF:jr:=["labels","at","many"]
theorem Vd:ZB RF TD (Za Kv):=Z2
theorem nI{a:jG}{L:YV}(h:over a\L):2<=↑a/\↑a<=4/\Kp a=V'/\L=#[a[0]!.h+1,a[0]!.lo,a[↑a-1]!.hi,(a.map YV.m).sum]:=by
 unfold over at h;split at h
 .rename_i z
  cases h;show#[z.1,z.2.1,z.2.2,Z]
 .cases h
inductive Vp(e:je)(H:Hp)(Q:VK)(_:XK):Prop
 |mk(l:al)(c:je)(b:jG)(L:YV)(_:e=[.ref l])(_:H l\.lst c)(_:Yq H b c)(_:∀ i,b[i]!.fit)(_:over b\L)(_:∀ a v,ZD H a->ZE a L.kt v->Q v a)
theorem pa(F:Zk K "label_over" "label_over" Kv f fd)(T:Txt mg)(DS:ZC P w K mg jS 8 "stand_side_by_side" Tu Vj):ZI P w K mg jS ZX 9 f fd TD Vp:=by
 show F.ko Vd λc3 A a8 s H vs Q E hr h=>?_;let#[l,q,r,L,rfl,hl,hk,hf,a5,k]:=h;let#[v2,v4,vc,rfl]:=nI a5;let nd:=Vd.nd;let a1:=hk.1;let#[tf,mf]:=T.few;let#[tm,mm]:=T.most;let#[t0,m0]:=T.height;let#[t1,m1]:=T.least;let#[t2,m2]:=T.greatest;let#[t3,m3]:=T.many;intro Xc;show#[_,ZL (Zx (Ux (Ke Qf Qf (Xo (v:=.int 2) Z mf #[_,Z]) (Zp YO Z T.len YK (ZM (pv 0))) (Xo (v:=.int 4) Z mm #[_,Z]))) Nt Z0)
  (ZL (WZ PassesOwn.never Z (KW Z T.range (Zb ZJ (Zp YO Z T.len YK (ZM (pv 0))))) (WB 1 nd)
   (ZR (Zx (Ux (WU (Ze DS hr (Zb (YC K (pv 0) (ZW Ui (pv 1) ZJ)) (YC K (pv 0) (pv 1)))))) Nt Z0)))
  (ZL (Zh 2 nd (Zp (Ad Z) Z T.sum y' (ZM (VT [] [] Z (WQ (pv 0)) (λ_ _ _ _ _=>VH) (λ_ _ _ _ _=>YC K (pv 0) (Xo (v:=.int 3) Z m3 #[1])) trivial))))
  (ZR (Zl (Y2 (MH (ZW Yo (YC K (YC K (pv 0) ZJ) (Xo (v:=.int 0) Z m0 #[_,Z])) ZJ)
   (YC K (YC K (pv 0) ZJ) (Xo (v:=.int 1) Z m1 #[_,Z]))
   (YC K (YC K (pv 0) (Pw OD ZJ)) (Xo (v:=.int 2) Z m2 #[_,Z]))
   (pv 2))))))),?_]
 let O:∀(W:Hp)(i:Nat),ZD H W->i<↑q->∃(a:al)(G C:V),q[i]?\.ref a/\W a\.tup [.int r[i]!.h,G,C,.int r[i]!.m]/\ZE W r[i]!.lo G/\ZE W r[i]!.hi C:=λW i s' M=>by
  let hu:q[i]?\q[i]:=zU M;let#[a,G,C,e,e1,k1,k2]:=(hk.2 i _ hu).mono (ZD.tups s');show#[a,G,C,by rw[hu,e],e1,k1,k2]
 exists 1,l,q,Z,.inl (ZH.of hl),_,1,Z,_,Z;let h2:2<=↑q:=∅
 let h4:↑q<=4:=∅
 rw[aM (show (2:Int)<=(↑q:Int) by lia)]
 show Zq #[_,1,Z,1,?_];rw[aM (show (↑q:Int)<=4 by lia)]
 show Zo ?_;exists 1,l,q,Z,.inl (ZH.of hl),(1),(↑q:Int),Z,#[∅,∅,∅,∅]
 show Pk (lo:=1) (n:=((↑q:Int)-1).toNat) (λi σ X=>∃ x:jf,σ=[Z' (.ref l),x,Y']/\ZD H X/\∀ j,j<i->VY r[j]! r[j+1]! =V') #[1,ZD.refl H,λj hj=>absurd hj ∅] ?_ ?_
 .rintro i σ X M ⟨x,rfl,I,a2⟩;let a3:i+1<↑q:=∅
  let ua:q[i]?\(q[i]'∅):=zU ∅
  let ub:q[i+1]?\q[i+1]:=zU a3;let e1:(1:Int)+(i:Int)=((i+1:Nat):Int):=∅
  let e0:(1:Int)+(i:Int)-1=((i:Nat):Int):=∅
  let t:=I _ _ hl;show#[2,_,1,Z,.inl #[l,q,_,1,Z,ZH.of t,#v[e0,YW ua],?_]]
  show#[2,.inl #[l,q,_,1,Z,ZH.of t,#v[e1,YW ub],?_]]
  show#[_,_,r[i]!,r[i+1]!,Z,(hk.2 i _ ua).mono (ZD.tups I),(hk.2 (i+1) _ ub).mono (ZD.tups I),hf i,hf (i+1),λu S=>#[1,?_]];let hc:VY r[i]! r[i+1]! =V':=zE.mp vc i (yZ.mpr ∅)
  rw[hc];show Zo #[1,I.trans S,λj hj=>?_];rcases yW j i with c1 | c1
  .show a2 j c1
  .have:j=i:=∅
   rwa[this,hc]
 rintro σ X ⟨x,rfl,I,a2⟩;let t:=I _ _ hl;exists 1,l,Z,#[q,ZH.of t];show Wr (n:=↑q) (λi z=>q[i]?\z) (λD i U u=>ZD X u/\X D=Y'/\U=((r.map YV.m).take i).map V.int) (YQ ∅)
  (λD i U u M y=>#[q,q[i],ZH.of (y.1 _ _ t),by simp[M]]) (λD i U u z H4 M y hy=>#[hy.1,hy.2 q (ZH.of (y.1 _ _ t))]) (λD U u y=>#[q,ZH.of (y.1 _ _ t),zW _])
  (λD hD=>#[Zr hD _,hD,Z]) (λD i U u z eD c5 M hz y R hR=>?_) (λD U u eD y=>?_)
 .let#[S,nD,rfl]:=y;let#[a,c0,a9,ua,ea,c6,c7]:=O u i (I.trans S) M;erw[ua] at hz;show#[1,.inr (.inl #[a,_,_,.int r[i]!.m,Z,Z,Zd.of ea,Z,?_])];show hR _ u eD #[λb o e=>#v[ZT (Zf e nD),S b o e],nD,?_]
  let eg:(r.map YV.m)[i]? = Z' r[i]!.m:=by
   rw[zF,zO,zU (show i<↑r by lia)]
   rfl
  rw[yR,eg,yX];rfl
 .let#[S,nD,rfl]:=y;rw[yH (by rw[zY];lia)] at eD
  exists D,r.map YV.m,Z,ZH.of eD;let B:=I.trans S;let N:=B _ _ hl;let#[c,a0,c4,uc,ec,a7,c9]:=O u 0 B ∅
  let#[b,c2,Y,ub,eb,c8,a6]:=O u (↑q-1) B ∅
  let J:Vx q (-1)\.ref b:=by
   let e:q=q.dropLast++[.ref b]:=by
    let a4:q≠[]:=λz=>by rw[z] at h2;simp at h2
    let hg:q.getLast a4=.ref b:=by
     rw[qK];have:=(yL.mp ub).2;show this
    rw[<-hg,sT]
   rwa[e,E3 _ _]
  show#[1,.inl #[l,q,_,.ref c,Z,Z,ZH.of N,YW (j:=0) uc,.inr (.inl #[c,_,_,.int r[0]!.h,Z,Z,Zd.of ec,Z,_,_,Z,Z,?_])]];show#[1,.inl #[l,q,_,.ref c,Z,Z,ZH.of N,YW (j:=0) uc,.inr (.inl #[c,_,_,a0,Z,Z,Zd.of ec,Z,?_])]];show#[1,(1),Z,.inl #[l,q,_,.ref b,Z,Z,ZH.of N,J,.inr (.inl #[b,_,_,Y,Z,Z,Zd.of eb,Z,?_])]];exists 1,Ym;intro p hp;let g:=Zr hp (.tup [.int (r[0]!.h+1),a0,Y,.int (r.map YV.m).sum]);show k _ _ (B.trans g) ?_;rwa[<-a1,.tup ZY (.cons (.int _) (.cons (a7.sm g) (.cons (a6.sm g) (.cons (.int _) .nil))))]
abbrev JY:Stmt:=UM (top 47) 19
abbrev HJ:Stmt:=UM (top 47) 20
abbrev JJ:Stmt:=UM (top 47) 2
inductive Yp(jP jQ:al)(p:je)(H:Hp)(Q:VK)(_:XK):Prop
 |mk(S d n l:al)(g:jo)(h:jp)(k:Nat->jo)(m:Nat->Nat)(j:jE)(e:List (Zj×V))(o:je)(c:jo)(_:p=[.ref S,.ref l])(_:Yz jP jQ H S d n g h k m j e o)(_:H l\.lst (iN c))(_:∀ b∈c,b∈g)(_:↑c<=100)(_:∀(D:al)(i:je)(a:Hp),ZD H a->H D=Y'->a D\.lst i->Yq a (YF h c) i->Q (.ref D) a)
theorem Ap:ZB T0 T0 (Za JY):=Z2
theorem QU{a:jo}{i:Nat}{z:V}(h:(iN a)[i]?\z):∃ b,a[i]?\b/\z=.int (b:Nat):=by
 unfold iN at h;rw[zF] at h;let#[b,e,rfl]:=wP.mp h;show#[b,e,Z]
theorem km(F:Zk K "labels_of" "Shelf.labels_of" JY f fd)(L:WD K mg jP jQ)(T:ZP P w K mg jS ZX 2 jP "label" T9 (WX jP jQ λtg _ _=>tg)):ZI P w K mg jS ZX 3 f fd T0 (Yp jP jQ):=by
 show F.ko Ap λV A I s H vs Q E hr h=>?_;let#[S,d,lk,l,lv,q,av,ho,U,G,ls,j,rfl,R,v,hb,M,k]:=h;let li:↑(iN j)=↑j:=zY _;intro Xc;exists _,ZR (Zl (VT [0] ["self"] Z (WQ (pv 1)) (λ_ _ _ _ _=>VH) (λ_ _ _ _ _=>WV (E:=E0) (pv 1) L.cS T hr Xi (ZM (pv 0))) #[Z,.inl Z,Z,trivial]));exists 1,l,Z,#[_,ZH.of v];show Wr (n:=↑(iN j)) (λi z=>(iN j)[i]?\z) (λD i o a=>ZD H a/\H D=Y'/\Yq a (YF q (j.take i)) o) (YQ ∅)
  (λD i o a C g=>#[_,(iN j)[i],ZH.of (g.1 _ _ v),zU C]) (λD i o a z H4 C g O=>#[O.1,O.2 _ (ZH.of (g.1 _ _ v))]) (λD o a g=>#[_,ZH.of (g.1 _ _ v),zW _])
  (λD N=>#[Zr N _,N,Z,λi u e=>by simp at e]) (λD i o a z r a0 C hz g RR B=>?_) (λD us a r g=>?_)
 .let#[y,x,t]:=g;let#[b,J,rfl]:=QU hz;let m:=hb b (zI J);let p:=R.same y;let#[W,Y]:=p.sh.self;exists 1,S,W,1,Y,Z,1,S,d,lk,↑q,G,ls,(b:Int),_,_,_,_,_,1,#[p.sh,p.val b m,(p.tw b m).tw];show B _ a r #[UJ y x,x,?_];let tD:XB a (upd a D (.lst (o++[.ref U[b]!.tg]))):=λc xs e=>#v[ZT (Z5 e r),e]
  rw[yR,J];let X:YF q (j.take i++(Z' b).toList)=YF q (j.take i)++[Zs (gd q b)]:=by unfold YF;simp
  rwa[X,(t.snoc (p.tw b m).tag).mono tD]
 .let#[y,x,t]:=g;rw[yH ∅] at t
  show k D us a y x r t
inductive YJ(jP jQ:al)(q:je)(H:Hp)(Q:VK)(_:XK):Prop
 |mk(S l:al)(e:jH)(_:q=[.ref S,.ref l])(_:H l\.lst (e.map V.int))(_:∃ h b,H S\.ins jP h b/\b.lookup (zX "outside")=Y')(_:∀ n∈e,∃(d i:al)(m:Nat)(a:List (Zj×V))(j:je)(x:al)(o k:V)(g:al)(c:Nat)(p:je),M6 jP jQ H S d i m a j n x o k g c p/\1<=c)(_:Q .non H)
theorem WN:ZB ["self","numbers","number"] T0 (Za HJ):=Z2
theorem ke(F:Zk K "check_held" "Shelf.check_held" HJ f fd)(L:WD K mg jP jQ)(r:ZP P w K mg jS ZX 2 jP "outside" T9 (WX jP jQ λ_ j _=>.int j)):ZI P w K mg jS ZX 3 f fd T0 (YJ jP jQ):=by
 show F.ko WN λv A p s H vs Q E I h=>?_;let#[S,l,O,rfl,q,#[y,fs,D,g],G,k]:=h;let N:=WN.nd;intro Y;show#[_,ZR (WZ PassesOwn.never Z (WQ (pv 1)) (WB 2 N)
  (ZR (Zx (Z6 Y4 (WV (E:=E0) (pv 0) L.cS r I Xi (ZM (pv 2))) ZJ (Zz _)) Nt Z0))),?_]
 show#[1,l,Z,#[_,ZH.of q],UZ (K:=K) (a:=l) (xs:=O.map V.int) (λi e c=>∃ x:jf,e=[Z' (.ref S),Z' (.ref l),x]/\c=H) #[1,Z] (λi e c _ C=>by let#[_,_,rfl]:=C;show ZH.of q) ?_ ?_]
 .rintro i u e c b ⟨x,rfl,rfl⟩;rw[zF] at b;let#[n,B,rfl]:=wP.mp b;let#[d,J,m,o,M,X,U,T,t,j,W,R,h1]:=G n (zI B);exists 1,S,y,1,D,g,1,S,d,J,m,o,M,n,X,U,T,t,j,W,Z,R,Z,_,Z;rw[aK (λz=>by have:=KA z;lia)]
  show Zo #[1,Z]
 .rintro e c ⟨x,rfl,rfl⟩;show k
inductive Xk(jP jQ:al)(s:je)(H:Hp)(Q:VK)(_:XK):Prop
 |mk(S d p l:al)(h:jo)(e:jp)(m:Nat->jo)(n:Nat->Nat)(j:jE)(i:List (Zj×V))(q:je)(g:jo)(r:YV)(_:s=[.ref S,.ref l])(_:Yz jP jQ H S d p h e m n j i q)(_:WF h e)(_:↑h<=800)(_:∀ b∈g,b∈h/\1<=n b/\↑(m b)<=800)(_:H l\.lst (iN g))(_:over (YF e g)\r)(_:∀(k:Hp)(a:Xb),H a.x=Y'->H a.th=Y'->H a.ab=Y'->(∀ c o,c≠S->c≠d->(∀ b:Nat,b∈h->c≠j[b]!.x/\c≠j[b]!.ab)->H c\o->k c\o)->Yz jP jQ k S d p (h++[↑e]) (e++[Yt e g]) (UW g ↑e (U9 ↑e m)) (QM g (Pa ↑e n)) (j++[a]) (Wf i (.inl (↑e:Int)) (.ref a.x)) q->Q (.int (↑e:Nat)) k)
abbrev pM:jr:=["self","numbers","branches","label","number"]
theorem XQ:ZB pM T0 (Za JJ):=Z2
theorem Re(a:jo):iN a=(a.map λb:Nat=>(b:Int)).map V.int:=by unfold iN;rw[vI];rfl
theorem kF(F:Zk K "put_stem" "Shelf.put_stem" JJ f fd)(T:Txt mg)(L:WD K mg jP jQ)(DL:ZP P w K mg jS ZX 3 jP "labels_of" T0 (Yp jP jQ))(DO:ZC P w K mg jS 9 "label_over" TD Vp)(DC:ZP P w K mg jS ZX 3 jP "check_held" T0 (YJ jP jQ))(DT:ZP P w K mg jS ZX 3 jP "put_twig" Tq (XJ jP jQ))(DK:ZP P w K mg jS ZX 2 jP "take_over" S' (Xj jP jQ)):
  ZI P w K mg jS ZX 10 f fd T0 (Xk jP jQ):=by
 show F.ko XQ λc3 A c0 s H vs Q E hr h=>?_;let#[S,d,X,l,lv,k,av,ho,M,G,Y,g,Lb,rfl,R,hw,c2,B,hl,U,q3]:=h;let O:∀ b∈g,b∈lv:=λb h=>(B b h).1;let nd:=XQ.nd;let C:=hr.mono (show 3<=9 by lia)
 let a8:=hr.mono (show 2<=9 by lia)
 let#[eL,a7,c4,c5,c6,c9,c7]:=AD hw O U;intro Xc;show#[_,ZL (Zh 2 nd (VD LJ Z T.list Mj (ZM (pv 1))))
  (ZL (Zh 3 nd (Ze DO hr (ZM (WV (E:=E0) (pv 0) L.cS DL C Xi (ZM (pv 2))))))
  (ZL (Wa (WV (E:=E0) (pv 0) L.cS DC C Xi (ZM (pv 2))))
  (ZL (Zh 4 nd (WV (E:=E0) (pv 0) L.cS DT C Xi (Zb (pv 2) (pv 3))))
  (ZL (Wa (WV (E:=E0) (pv 0) L.cS DK a8 Xi (Zb (pv 4) (pv 2))))
  (ZR (Zl (pv 4))))))),?_]
 exists 1,l,iN g,Z,.inl (ZH.of hl);intro D nD;let g1:=Zr nD (.lst (iN g));let y:upd H D (.lst (iN g)) D\.lst (iN g):=ZY;generalize upd H D (.lst (iN g))=H1 at g1 y⊢;let R1:=R.same g1;let#[a0,a4]:=R1.sh.self;exists 1,S,a0,1,a4,Z,1,S,d,X,D,lv,k,av,ho,M,G,Y,g,Z,R1,y,O,by lia
 intro D2 us H2 s2 e0 a3 a6;let c1:=g1.trans s2;exists D2,us,YF k g,Lb,Z,a3,a6,G1 hw O,U;intro H3 v s3 kv;subst eL;let a:=c1.trans s3;let r:=R.same a;let#[u,p]:=r.sh.self;let m:H3 D\.lst (iN g):=s3 _ _ (s2 _ _ y);exists 1,S,u,1,p,Z,1,S,D,g.map (λb:Nat=>(b:Int)),Z,by rwa[<-Re,m],#[u,_,p,Z],λn hn=>?_
 .let#[b,i,rfl]:=zA.mp hn;let j:=B b i;show#[d,X,↑k,G,Y,_,_,_,_,_,_,#[r.sh,r.val b j.1,(r.tw b j.1).tw],j.2.1]
 let kl:=JB kv;let#[I,e3,e2,rfl,c8,_,_]:=kl;let a9:=JB kv;exists 1,S,u,1,p,Z,2,S,d,X,↑k,G,Y,.ref D,.ref I,Z,r.sh,by rw[Ej R];lia
 intro H5 x J nx q W R5 W5;let V:XB H3 H5:=λb ys e=>W b _ (Z5 e p) (Z5 e r.sh.kept) e;let N:H5 D\.lst (iN g):=W _ _ (Z5 m p) (Z5 m r.sh.kept) m;let PP:=EC (t:=Yt k g) (x:=x) (th:=D) (tg:=I) (ab:=J) R (H':=H5) (λb o n1 n2 e=>W b o n1 n2 (a b o e)) (a.free nx) nD (a.free q) (Zf m q).symm R5 W5
  #[iN g,N,λz=>absurd z (by change (gd k (g.getD 0 0)).h+1≠0;lia),λ_=>rfl] (a9.mono V)
 let#[a1,a5]:=R5.self;let el:↑M=↑k:=R.len;let aL:∀ b,b∈lv->(M++[(#[x,D,I,J]:Xb)]).getD b .d=M[b]!:=λb O=>Js (by have:=R.lt b O;lia)
 let aN:(M++[(#[x,D,I,J]:Xb)]).getD ↑k .d=#[x,D,I,J]:=by rwa[<-el,GZ]
 let en:↑(k++[Yt k g])=↑k+1:=by simp
 show#[1,S,a1,1,a5,Z,2,S,d,X,D,_,_,_,_,_,_,Y,g,↑k,Z,PP,N,a7,λb i=>?_,λb i=>?_,λH6 a2 e1 R6=>#[1,?_]]
 .let j:=B b i;let nb:b≠↑k:=by have:=R.lt b j.1;lia
  exists xO _ j.1,?_
  .rwa[show Pa ↑k ho b=ho b from aO nb,j.2.1]
  .rw[show U9 ↑k av b=av b from aO nb];lia
 .rcases yY.mp i with c | c
  .rwa[aL b c,(Zf (R.tw b c).tw.above nD).symm]
  .rwa[zP.mp c,aN,Zf m q]
 .show q3 H6 #[x,D,I,J] (a.free nx) nD (a.free q) (λc o n1 n2 n3 e=>?_) R6;show a2 c o (λb i=>?_) (W c o n1 n2 (a c o e));rcases yY.mp i with z | z
  .rwa[aL b z,n3 b z]
  .rwa[zP.mp z,aN,#[Zf e (a.free nx),Zf e (a.free q)]]
theorem ow(a:jz):(Zs (U5 a)).kt=Kc (a.map (·.1)):=by
 let b:↑(a.map (·.1))=↑a:=zY _;let c:(a.map (·.1)).getD 0 (.int 0)=(a.getD 0 rc).1:=by
  rw[zO,zO,zF];cases a[0]? <;> rfl
 let d:(a.map (·.1)).getD (↑a-1) (.int 0)=(a.getD (↑a-1) rc).1:=by
  rw[zO,zO,zF];cases a[↑a-1]? <;> rfl
 unfold Kc Zs U5 YV.kt;rw[b,c,d];rfl
inductive Wj(jP jQ:al)(q:je)(H:Hp)(Q:VK)(_:XK):Prop
 |mk(S d j l:al)(n:Nat)(c:List (Zj×V))(k p:je)(g:jz)(_:q=[.ref S,.ref l])(_:WT jP H S d j n c k)(_:↑c<=900)(_:H l\.lst p)(_:jK H (WC g) p)(_:Vy g)(_:∀(a:Hp)(x h m i:al),H x=Y'->H h=Y'->H i=Y'->i≠h->(∀ b o,b≠S->b≠d->H b\o->a b\o)->WT jP a S d j (n+1) (Wf c (.inl (n:Int)) (.ref x)) k->VQ jQ a x (.ref h) (.ref m) i 1 []->(∃ e,a h\.lst e/\jK a (WC g) e)->XE a (Zs (U5 g)) (.ref m)->Q (.int (n:Nat)) a)
theorem kE(F:Zk K "put_leaf" "Shelf.put_leaf" Lj f fd)(L:WD K mg jP jQ)(X:ZC P w K mg jS 9 "checked_rows" T3 Wm)(Y:ZC P w K mg jS 1 "label_of_rows" T3 WK)(DT:ZP P w K mg jS ZX 3 jP "put_twig" Tq (XJ jP jQ)):
  ZI P w K mg jS ZX 10 f fd Tz (Wj jP jQ):=by
 show F.ko XG λa0 A O s H vs Q E B h=>?_;let#[S,d,lk,l,n,M,ls,us,T,rfl,R,q,hl,hk,G,k]:=h;let nd:=XG.nd;let C:=B.mono (show 1<=9 by lia)
 let D:=B.mono (show 3<=9 by lia)
 intro Xc;show#[_,ZL (Zh 2 nd (Ze X B (ZM (pv 1))))
  (ZR (Zl (WV (E:=E0) (pv 0) L.cS DT D Xi (Zb (pv 2) (Ze Y C (ZM (pv 2))))))),?_]
 exists 1,l,us,T,Z,hl,hk,G;intro H1 t g V N p j;let R1:=R.same V;let#[dx,hS]:=R1.self;let lu:↑g=↑T:=by have:=↑j;rwa[<-this,zY _]
 exists 1,S,dx,1,hS,Z,2,t,g,T.map (·.1),Z,p,oO j,#v[lu,G.2.1]
 intro H2 v U J;rw[<-ow] at J;let I:=JB J;let#[W,a4,a3,rfl,a2,_,_]:=I;let I:=JB J;let c:=V.trans U;let R2:=R.same c;exists S,d,lk,n,M,ls,.ref t,.ref W,Z,R2,q;intro u x ab nx r y R3 W3;let#[a1,m]:=R2.self;let i:XB H2 u:=λb ys e=>y b _ (Z5 e m) (Z5 e R2.kept) e;let a:=U _ _ p;let z:u t\.lst g:=y _ _ (Z5 a m) (Z5 a R2.kept) a;show k u x t W ab (c.free nx) N (c.free r) (Zf a r).symm (λb o n1 n2 e=>y b o n1 n2 (c b o e)) R3 W3 #[g,z,j.mono (λb xs e=>i b xs (U _ _ e)) _ _] (I.mono i)
structure YG where
 S:al
 d:al
 lv:jo
 ts:jp
 av:Nat->jo
 ho:Nat->Nat
 as:jE
 kvs:List (Zj×V)
section
variable{jP jQ:al}{H H':Hp}{X:YG}{lk lk':al}{c c':Nat}{ls ls':je}
end
end Tw
namespace L2
open PySem PySem.Spec PyProof.Rows
section
variable{σ:St}{H:Hp}{ix:jo}{te:TE}{Q:VK}
theorem IA{J:It}{n:Nat}{w:TT}(f:Nat->V->Prop)(c:Nat->Bool)(d:al->Nat->je->Hp->Prop)(M:n<au)(s:∀ D i a H,i<n->d D i a H->J.go i H)(F:∀ D i a H x k,i<n->d D i a H->J.yld i H x k->k=H/\f i x)(g:∀ D a H,d D n a H->J.stop n H)(B:∀ D,H D=Y'->d D 0 [] (upd H D (.lst [])))(j:∀ D i a H x,H D\.lst a->i<n->f i x->d D i a H->∀ R:Bool->Hp->Prop,(∀ h,h D\.lst a->d D i a h->R (c i) h)->w (N7 σ ix x) H R)(q:∀ D i a H x,H D\.lst a->i<n->f i x->c i=V'->d D i a H->∀ R:VK,(∀ y l,l D\.lst a->d D (i+1) (a++[y]) (upd l D (.lst (a++[y])))->R y l)->te (N7 σ ix x) H R)(G:∀ D i a H,H D\.lst a->i<n->c i=false->d D i a H->d D (i+1) a H)(r:∀ D a H,H D\.lst a->d D n a H->Q (.ref D) H):UC J σ ix w te H Q:=by
 intro D C;exists λi m H=>m=n-i/\i<=n/\∃ a,H D\.lst a/\↑a<=i/\d D i a H,#[n,Z,yQ _,[],ZY,zW _,B D C];rintro i m H ⟨rfl,L,a,e,E,p⟩;by_cases b:i<n
 .show .inr #[s D i a H b p,λx k y=>?_];let#[rfl,u]:=F D i a H x k b p y;show j D i a _ x e b u p _ λh o v=>?_
  cases t:c i with
  | true=>
   rw[aP rfl];show q D i a h x o b u t v _ λy l A I=>?_;show#[a,n-(i+1),A,∅,∅,Z,b,a++[y],ZY,by rw[zS,wW];lia,I]
  | false=>
   rwa[aO zR,#[n-(i+1),∅,Z,b,a,o,rE E,G D i a h o b t v]]
 .let z:i=n:=∅
  subst z;show .inl #[g D a H p,r D a H e p]
end
end L2
namespace Tw
open PySem PySem.Spec L2 PyProof.Rows
variable{jP jQ CS CT CH CK CP CB:al}
end Tw
namespace L2
open PySem PySem.Spec PyProof.Rows
theorem lq{e:ak}{env env':Env}(h:env.frame=env'.frame):noteFrame e env=noteFrame e env':=by
 unfold noteFrame PySem.frameOf;rw[h]
section
variable{M:Model}
end
theorem Fq{a h f:aE}:∀{l:jB},h.FunFrames a l->(∀ b∈frs l,f.get? b=h.get? b)->f.FunFrames a l
 | [],_,_=>trivial
 | c::l,⟨hk,⟨L,o,hf,hn,ho,hd⟩,hr⟩,k=>#[hk,#[L,o,hf,hn,(k L (vY.mpr #[c,zQ,hf])).trans ho,hd],Fq hr λb d=>k b (by
   let#[e,g,d]:=vY.mp d;show vY.mpr #[e,zM _ g,d])]
section
variable{jR:js}{σ:St}{H:Hp}{E E1:XK}
end
section
variable{M:Model}{B:aE}{env:Env}{outer l:jB}{L e:al}{cls:ak}{od:jx}{Q:Unit->am->Prop}
theorem Fb{H:ak}{i:jx}(x:Xf B l e cls od H s.heap)(h:∀ k,Xf B l e cls od (i.elim .none λf=>rawInt f) k->s.heap.UpToSlots k->Q () { s with heap:=k }):aC M A (setFlight (.ref e) i) Q E s:=by
 let#[J,F,G,I,N,T,P,v,#[t,y,C,r,w],m,p,j,g,K,D]:=x;let u:3<v.size:=(vV.mp K).1;let a:∀ b,b≠T->(s.heap.update T (Obj.mapFields (·.setIfInBounds 3 (i.elim Value.none λf=>rawInt f)))).get? b=s.heap.get? b:=λb n=>wH _ _ n.symm;let c:∀ b o,s.heap.get? b\o->(∀ O,o.data≠.fields O)->b≠T:=λb o q d z=>by
  erw[z,j] at q;show d v g
 unfold setFlight;show aa (wpAny_field t r w ?_);rw[aP (show (Value.ref T != Value.none)=V' by simp)]
 show wpAny_setField j g u (h _ #[λb o q=>(a b λz=>by erw[z,m] at q).trans (J b o q),F,G.of_keeps λb o q d=>#[o,(a b (c b o q d)).trans q,Z],?_] λb o q d=>#[o.slots,(a b (c b o q d)).trans q])
 show#[I,N,T,_,_,#[(a e p.symm).trans t,y,C,r,w],m,p,wI _ j (Obj.isFreed_of_fields (Obj.data_mapFields g _)),Obj.data_mapFields g _,by simp[u],D]
theorem E9{u:ak}(S:A.frames\(env::outer))(r:env.frame\L)(x:Xf B (env::outer) e cls od u s.heap)(h:∀ d,Xf B outer e cls od .none d->s.heap.UpToSlots d->Q () { s with heap:=d }):aC M A (leaving env (.ref e)) Q E s:=by
 by_cases K:u=rawInt L
 .subst K;let x0:=x;let#[N,I,J,X,vs,T,W,w,#[k,F,G,j,p],C,D,i,g,m,H]:=x;unfold leaving noteFrame;simp only[r];show aa (aa (wpAny_field k j p ?_));rw[aP (show (Value.ref T != Value.none)=V' by simp)]
  show aa (wpAny_field i g m ?_);rw[aP ⋯]
  show ad (OT x0 λd t y=>h d t.less y)
 .let#[N,I,J,X,vs,T,W,w,#[k,F,G,j,p],C,D,i,g,m,H]:=x;subst F G;let V:3<w.size:=(vV.mp m).1;let a:∀ b,b≠T->(s.heap.update T (Obj.mapFields (·.setIfInBounds 3 Value.none))).get? b=s.heap.get? b:=λb n=>wH _ _ n.symm;let c:∀ b o,s.heap.get? b\o->(∀ ws,o.data≠.fields ws)->b≠T:=λb o q f z=>by
   erw[z,i] at q;show f w g
  unfold leaving noteFrame;simp only[r];show aa (aa (wpAny_field k j p ?_));rw[aP (show (Value.ref T != Value.none)=V' by simp)]
  show aa (wpAny_field i g m ?_);rw[aO (show ¬ ((u==rawInt L)=V') from λz=>K (eq_of_beq z))];show aa (wpAny_setField i g V ?_);show Hj (s:={ s with heap:=_ }) S (J.of_keeps λb o q f=>#[o,(a b (c b o q f)).trans q,Z]) r ((a e D.symm).trans k) (λb o q=>(a b λz=>by erw[z,C] at q).trans (N b o q)) I j (vV.mp p).1 H λd R u'=>?_
  show OT (s:={ s with heap:=d }) R λU t y=>h U t.less λb o q f=>?_;let#[Y,O]:=u' b o ((a b (c b o q f)).trans q) f;let#[v,P]:=y b { o with slots:=Y } O f;show#[v,P]
end
section
variable{jR:js}{σ:St}{H:Hp}{E E1:XK}
theorem kh{N:jr}{f:aF}{cl:jF}{fp:jv}{U:ak}{Q:ja}{R:Option (ak->Sem Unit)}{C:al}(F:Wh X E)(hE:∀ cls o H,E1 cls o H->E cls o H)(I:ZF X jR σ H s)(hf:∀ b∈fp,WW X jR H b)(hC:s.heap.objs.size<=C):
  UT (Yl X.prog X.w) (Yu X N f cl C s H fp (notedBy (aB X.prog X.w) X.A (compEnvC f cl C X.env) (λe L=>compPost (aB X.prog X.w) X.A X.xe R Q U C (.error e) L))) E1:=by
 intro pc l2 Hc sc e L Ic h;let#[x,cls,od,H',rfl,W,q]:=h;let#[B,fl,inT,i0,e9]:=W.ex;let e8:(Yu X N f cl C s H fp (notedBy (aB X.prog X.w) X.A (compEnvC f cl C X.env) (λe L=>compPost (aB X.prog X.w) X.A X.xe R Q U C (.error e) L))).stack=X.env::X.outer:=F.stack;let fl:Xf B (X.env::X.outer) x cls od .none L.heap:=e8 ▸ fl;let a9:X.A.frames\(X.env::X.outer):=by rw[I.ok.frames,F.stack]
 change aC (aB X.prog X.w) X.A (noteFrame (.ref x) (compEnvC f cl C X.env)) _ _ L;rw[lq (env:=compEnvC f cl C X.env) (env':=X.env) rfl];show KC a9 F.frame fl λh4 a0 c4=>?_;let#[m,hn,_]:=Ic.loc;let hn:sc.heap.Ns C m:=hn;let J:Hc C=Y':=Ic.free;let c3:C∉frs X.stack:=λz=>by
  let#[_,t,g,_]:=I.stack.mem z;show absurd (zJ g) (zER.mpr hC)
 let c0:h4.Ns C m:=by
  let#[o,es,ep,S,r]:=hn;show c4.ns #[o,es,ep,W.un.keep C o S J c3 ⋯,r]
 change compPost (aB X.prog X.w) X.A X.xe R Q U C (.error (.ref x)) { L with heap:=h4 }
 suffices hh:∃ m,h4.Ns C m/\∀ h',xM C h4 h'->∀ G:Env,G.locals=C->aC (aB X.prog X.w) X.A (PySem.passOn "comprehension.variables-let-go" (.ref x) G:Sem ak) (λ_ _=>False) X.xe { L with heap:=h' } by
  cases R with
  | none=>show hh
  | some u=>show hh
 exists m,c0;intro h5 sb G _;let#[k1,k2,k3,k4]:=a0
 let' B':=wZ B [C]
 let hB:∀ b o,B'.get? b\o->B.get? b\o/\b≠C:=λb o e=>by
  exists uJ _ e;intro z;have:B'.get? C=Y':=rR _ ⋯
  erw[z,this] at e
 let O:∀ b o,B.get? b\o->b≠C->B'.get? b\o:=λb o e n=>rV _ e (by simpa using n)
 let i6:B'.StaysIn h5:=λb o e=>by
  let#[j,n]:=hB b o e;show(sb.2 b n).trans (k1 b o j)
 let c5:B'.get? x=Y':=by
  cases z:B'.get? x with
  | none=>rfl
  | some o=>erw[(hB _ _ z).1] at k2
 let i1:∀ b,B.get? b=Y'->B'.get? b=Y':=λb z=>by
  cases y:B'.get? b with
  | none=>rfl
  | some o=>erw[(hB _ _ y).1] at z
 let M:∀ b o,h4.get? b\o->b≠C->h5.get? b\o:=λb o e n=>(sb.2 b n).trans e;let i7:B'.StaysIn B:=λb o e=>(hB b o e).1;let nC:∀ b∈frs (X.env::X.outer),b≠C:=λb i z=>c3 (by rw[F.stack];rwa[<-z,i])
 let c6:h5.FunFrames B' (X.env::X.outer):=Fq (PySem.W.funFrames_base i7 k3) λb i=>sb.2 b (nC b i);let a4:x≠C:=λz=>by
  let#[o,es,ep,S,_]:=hn;erw[<-z,W.new] at S
 let#[oe,vs,T,oT,ts,#[he,a8,c8,hd,h1],e0,c7,hT,Y,h3,cx]:=k4;let TC:T≠C:=λz=>by
  let#[o,es,ep,S,c9,_]:=c0;erw[z,S] at hT;erw[c9] at Y
 let a6:Xf B' (X.env::X.outer) x cls od (rawInt X.env.locals) h5:=#[i6,c5,c6,oe,vs,T,oT,ts,#[M _ _ he a4,a8,c8,hd,h1],i1 T e0,c7,M _ _ hT TC,Y,h3,cx.imp id λz C' t cd j k=>z C' t cd j (hB _ _ k).1];unfold PySem.passOn;show aa (wpAny_field (M _ _ he a4) hd h1 ?_);rw[aO (show ¬ ((Value.ref T==Value.none)=V') from by simp)]
 show aa (Fb (s:={ L with heap:=h5 }) a6 λh6 a7 k4=>?_);show wpAny_throw (F.xe _ _ ?_);show E9 (s:={ L with heap:=h6 }) a9 F.frame a7 λh7 a5 i4=>?_;let a:=I.base;rw[F.ex] at a;let c:Un (frs X.stack) fp H Hc s.heap sc.heap:=Ic.base;let D:∀{b o},X.s₀.heap.get? b\o->b∉fp:=fun{b o} e z=>by
  let#[_,_,_,z3,_]:=hf b z;rw[F.ex] at z3;rcases z3 with z3 | z3
  .simp at z3
  .show absurd (zJ e) (zER.mpr z3)
 let K:∀{b o},X.s₀.heap.get? b\o->b≠C:=fun{b o} e z=>by
  show absurd (zJ e) (zER.mpr #v[z,zK I.sz hC])
 let i5:∀ b o,L.heap.get? b\o->(∀ vs,o.data≠.fields vs)->b≠C->∃ sl,h7.get? b\{ o with slots:=sl }:=λb o e a1 n=>by
  let#[sl,e4]:=c4 b o e a1;let e5:=M b _ e4 n;let#[l1,e6]:=k4 b _ e5 a1;let#[i3,e7]:=i4 b _ e6 a1;show#[i3,e7]
 let l:∀ b o,X.s₀.heap.get? b\o->X.H₀ b=Y'->b∉frs X.outer->B.get? b\o/\H' b=Y':=λb o e n i=>by
  let nb:=F.off I e i;let j:=a.keep b o e n i ⋯
  let n1:=a.free b o e n ⋯
  let k:=c.keep b o j n1 nb (D e);let n2:=c.free b o j n1 (D e);show#[i0 b o k n2 nb,W.un.free b o k n2 ⋯]
 let v:∀ b o,X.s₀.heap.get? b\o->b∉frs X.outer->∃ t,B.get? b\t:=λb o e i=>by
  let nb:=F.off I e i;let#[o1,j]:=a.there b o e ⋯
  let#[o2,k]:=c.there b o1 j (D e);show e9 b o2 k nb
 let P:∀ b o,B.get? b\o->b≠C->h7.get? b\o:=λb o e n=>a5.1 b o (O b o e n);let p:∀ b o,X.s₀.heap.get? b\o->X.H₀ b=Y'->b∈frs X.outer->(∃ sl,h7.get? b\{ o with slots:=sl })/\H' b=Y':=λb o e n i=>by
  let#[i2,j]:=a.slot b o e n i ⋯
  let n1:=a.free b o e n ⋯
  let V:b∈frs X.stack:=#v[F.frs,zM _ i]
  let#[i9,k]:=c.slot b _ j n1 V (D e);let n2:=c.free b _ j n1 (D e);let#[l0,e3]:=W.un.slot b _ k n2 V ⋯
  let n3:=W.un.free b _ k n2 ⋯
  let#[_,t,g,d]:=I.stack.mem V;let a3:s.heap.get? b\{ o with slots:=i2 }:=j;erw[g] at a3;let#[sl,e7]:=i5 b _ e3 (λvs z=>d vs z) (K e);show#[#[sl,e7],n3]
 let i8:Un (frs X.outer) [] X.H₀ H' X.s₀.heap h7:={
  keep:=λb o e n i _=>P b o (l b o e n i).1 (K e)
  slot:=λb o e n i _=>(p b o e n i).1
  free:=λb o e n _=>by
   by_cases i:b∈frs X.outer
   .show(p b o e n i).2
   .show(l b o e n i).2
  there:=λb o e _=>by
   by_cases i:b∈frs X.outer
   .let#[#[sl,z],_]:=p b o e (I.ok.frf b i) i;show#[_,z]
   .let#[t,z]:=v b o e i;show#[t,P b t z (K e)]
  tups:=λb xs e=>W.un.tups b xs (c.tups b xs (a.tups b xs e))
  frzs:=λb o u e=>W.un.frzs b o u (c.frzs b o u (a.frzs b o u e))
  tbls:=λb ps e=>by
   let#[m1,j]:=a.tbls b ps e;let#[m2,k]:=c.tbls b _ j;let#[m3,e3]:=W.un.tbls b _ k;show#[m1++m2++m3,by rw[e3,tJ,tJ,tJ]] }
 let a2:∀ b,H' b≠Y'->b≠C:=λb n z=>by
  let#[o,es,ep,S,_]:=hn;show n #v[z,W.un.free C o S J ⋯]
 let c2:X.s₀.heap.get? x=Y':=by
  cases z:X.s₀.heap.get? x with
  | none=>rfl
  | some o=>
   let#[o1,j]:=a.there x o z ⋯
   let#[o2,k]:=c.there x o1 j (D z);erw[W.new] at k
 let c1:∀ b o,h7.get? b\o->H' b≠Y'->B'.get? b\o:=λb o e n=>by
  let#[t,q']:=W.hok.there n;let j:=inT b t q' n;let k:=P b t j (a2 b n);erw[e] at k;show O b o j (a2 b n)
 show#[x,cls,od,H',Z,#[#[B',a5,c1,λb o e n i=>O b o (l b o e n i).1 (K e),λb o e i=>by
   let#[t,z]:=v b o e i;show#[t,O b t z (K e)]],(W.os.trans Ic.os).trans I.os,W.bare,i8,W.hok.keptT (λb o e n=>P b o (inT b o e n) (a2 b n)),c2,W.free],hE _ _ _ q]
theorem kX{CX:VG}{elt iter:Expr}{x:Str}{px:aJ}{ifs:jy}{scope:aF}{cl:jF}{pos:aJ}{ix:jo}{ys:jr}{tt:TT}{te:TE}{it:al}{a:jv}{tn:Nat->aE->Prop}{J:It}{Q:VK}{E:ja}{RR:ak->al->Result->am->Prop}{E1:XK}(hp:∀ D C:al,s.heap.objs.size<=C->UT CX (Yu X (x::ys) scope cl C s H a (notedBy (aB X.prog X.w) X.A (compEnvC scope cl C X.env) (λe M=>RR (.ref D) C (.error e) M))) E1)(hc:X.calm=V')(ht:∀ C s H a E,OE (Yu X (x::ys) scope cl C s H a E) ifs tt)(he:∀ C s H a E,UT CX (Yu X (x::ys) scope cl C s H a E) E1->PE (Yu X (x::ys) scope cl C s H a E) elt te)(sub:Yk X.env cl)(ji:scope.kind=.function)(hnd:(x::ys).Nodup)(hx:scope.names.lookup x\.local)(jm:∀ y∈scope.names,y.2≠.cell)(hhas:∀ y,((relabel scope X.env).names.lookup y\.cell\/(relabel scope X.env).names.lookup y\.free)->∃ c,cl.lookup y\c)(fo:YH X scope ix ys)(I:ZF X jR σ H s)(T:Vn X.prog X.w X.K (.Name x px) J a it tn)(st:tn 0 s.heap)(hf:∀ b∈a,WW X jR H b)(q:UC J σ ix tt te H Q)(hRR:∀ D C M t m,s.heap.objs.size<=C->ZF X jR σ t M->WW X jR t C->M.heap.Ns C m->Q (.ref D) t->RR (.ref D) C (.ok .next) M):
  aC (aB X.prog X.w) X.A (newList []) (λa0 l=>aC (aB X.prog X.w) X.A (newFunctionEnv scope X.env.globals cl [] X.env.qual Y' .none (Z' X.env)) (λO c0=>
   codeAny (aB X.prog X.w) X.A (.compStart (.ListComp elt [#[.Name x px,iter,ifs,(0)]] scope pos) 0 (.ref it) a0 { O with scope:=relabel scope X.env }) (RR a0 O.locals) c0) E l) E s:=by
 show wpAny_newObj_type (wpAny_newFunctionEnv jm (by intro y hy;simp at hy) (λk h f=>?_) ji)
 dsimp only at h f⊢;generalize R:s.heap.push { cls:=.type "list",dict:=Y',data:=.seq ⇑([]:jd) }=j at h f⊢;let hC:j.objs.size=s.heap.objs.size+1:=by rw[<-R,sK]
 let a2:s.heap.objs.size≠j.objs.size:=#v[hC,yU (wR _)]
 let v:s.heap.objs.size<=j.objs.size:=#v[hC,wF _]
 let below:∀ b,b<s.heap.objs.size->b≠j.objs.size/\b≠s.heap.objs.size:=λb g=>#[#v[hC,yU (sF g)],yU g]
 let a6:∀ b o,s.heap.get? b\o->k.get? b\o:=λb o e=>f.extBut b o (below b (zJ e)).1 (zL _ (R ▸ zL _ e));let F:∃ n,k.get? s.heap.objs.size\{ cls:=.type "list",data:=.seq ⇑([]:jd) n }:=#[_,f.extBut _ _ a2 (zL _ (R ▸ yO _ Z))];let#[nD,F]:=F;let a3:∀ b∈a,WW X jR H b/\b<s.heap.objs.size:=λb g=>#[hf b g,by let#[o,e,_]:=T.obj 0 _ st b g;show zJ e]
 let c7:H s.heap.objs.size=Y':=I.hok.fresh (zW _);let#[W,#[m0,w0],c1]:=q _ c7;generalize hE:notedBy (aB X.prog X.w) X.A (compEnvC scope cl j.objs.size X.env) (λe M=>RR (.ref s.heap.objs.size) j.objs.size (.error e) M)=z;let c8:UT CX (Yu X (x::ys) scope cl j.objs.size s H a z) E1:=hE ▸ hp s.heap.objs.size j.objs.size v;let a4:(relabel scope X.env).names.lookup x\.local:=lookup_relabel_local hx;let I0:ZF (Yu X (x::ys) scope cl j.objs.size s H a z) [] (Du σ ix) (upd H s.heap.objs.size (.lst [])) { s with heap:=k,toks:=s.toks+↑([]:jI) }:=
  pu I a3 sub ji hhas fo (zW _) v a2 h a6 F
 let a7:tn 0 k:=T.keep _ _ _ st λb _ o e=>a6 b o e;let c5:∀ b∈a,upd H s.heap.objs.size (.lst []) b=Y':=λb g=>#v[ZT (below b (a3 b g).2).2,(hf b g).1]
 let G:∀{t:Hp},(∀ b∈a,t b=Y')->∀ b∈a,WW (Yu X (x::ys) scope cl j.objs.size s H a z) [] t b:=λhn b g=>
  #[hn b g,(I0.ok.exf b g).1,I0.ok.exfs b g,.inl g,(I0.ok.exf b g).2,λp hp=>absurd (show p∈([]:js) from hp) ⋯]
 let P:∀ l:am,l={ s with heap:=k,toks:=s.toks+↑([]:jI) } ->
   codeAny (aB X.prog X.w) X.A (.compLoop (.ListComp elt [#[.Name x px,iter,ifs,(0)]] scope pos) 0 (.ref it) (.ref s.heap.objs.size) (compEnvC scope cl j.objs.size X.env)) (RR (.ref s.heap.objs.size) j.objs.size) l:=by
  rintro l rfl;show Cj (λn M=>∃ i L t,ZF (Yu X (x::ys) scope cl j.objs.size s H a z) [] L t M/\(∃ o,L=o::ix.map λi=>(σ[i]?).join)/\tn i M.heap/\(∀ b∈a,t b=Y')/\W i n t) ?_ m0 #[(0),_,_,I0,#[Y',Z],a7,c5,w0];rintro n s3 ⟨i,V,H3,I3,⟨o3,a5⟩,a8,a1,w3⟩;rw[hE];rcases c1 i n H3 w3 with ⟨a9,qn⟩ | ⟨go,step⟩
  .show Z3 (T.done (Yu X (x::ys) scope cl j.objs.size s H a z) Z Z Z hc i [] s3 V H3 z I3 (G a1) a8 a9) ?_;rintro r s4 ⟨hr,Y⟩;subst hr;let#[m4,c9,_]:=Y.loc;let Ix:ZF X jR σ H3 s4:=I.call' (s':=s4) (ch:=a) Y.os Y.base Y.hok Y.bare λb g=>by
    let#[_,z1,_,z3,z4,z5]:=hf b g;show#[z3,z1,z4,z5]
   show hRR _ _ s4 H3 m4 v Ix (I.fpOk v Y.free) c9 qn
  .show Z3 (T.item (Yu X (x::ys) scope cl j.objs.size s H a z) Z Z Z hc i [] s3 V H3 z I3 (G a1) a8 go) ?_;rintro r s4 ⟨u,hr,h4⟩;subst hr;show Z3 h4 ?_;rintro _ s5 ⟨xv,H5,I5,r5,y5,U,c6⟩;let c3:=I5.pinned (G c6) (T.obj _ _ U);let B:∀{N:St}{H7:Hp}{s7:am}{S:Nat},ZF (Yu X (x::ys) scope cl j.objs.size s H a z) ([]++MM a s5.heap) N H7 s7->(∃ o,N=o::ix.map λi=>(σ[i]?).join)->S<n->W (i+1) S H7 ->
     ∃ m,m<n/\∃ i L t,ZF (Yu X (x::ys) scope cl j.objs.size s H a z) [] L t s7/\(∃ o,L=o::ix.map λi=>(σ[i]?).join)/\tn i s7.heap/\(∀ b∈a,t b=Y')/\W i m t:=fun{N H7 s7 S} I7 e7 hm w7=>by
    show#[S,hm,i+1,N,H7,I7.unpinned,e7,T.keep _ _ _ U λb g o e=>(I7.pin (b,o) (yB _ (yB _ (MO g e)))).1,λb g=>?_,w7];let#[o,e,d]:=T.obj _ _ U b g;show(I7.pin (b,o) (yB _ (yB _ (MO g e)))).2.1
   let hg:PG (Yu X (x::ys) scope cl j.objs.size s H a z) (.Name x px) (PM 0):=Kn hnd Z (.inl a4) (.inr a4);show Z8 (hg _ s5 V H5 xv u (λc2 H6=>c2=N7 σ ix xv/\H6=H5) c3 r5 #[by rw[a5];rfl,Z]) λ_ s6 c2 H6 I6 e6 c4=>?_
   subst e6 c4;show Z3 (ht _ _ _ _ _ _ s6 _ _ _ I6 (step xv _ y5)) ?_;rintro ok s7 ⟨H7,I7,q7⟩
   cases ok with
   | false=>
    rw[aO zR] at q7⊢;let#[S,hm,w7]:=q7;show B I7 #[1] hm w7
   | true=>
    rw[aP rfl] at q7⊢;show Z3 (he _ _ _ _ _ c8 _ s7 _ _ _ I7 q7) ?_;rintro y s8 ⟨yv,H8,I8,r8,e0,S,e8,z8,hm,w8⟩;show Z8 (Ql _ s8 _ H8 (.ref s.heap.objs.size) [yv] (.ref s.heap.objs.size) [y] (λ_ H9=>W (i+1) S H9) I8 Z (.cons r8 .nil) #[_,e0,yv,Z,Z,e8,z8,w8]) λ_ s9 _ H9 I9 _ w9=>?_;show B I9 #[1] hm w9
 show codeAny_compStart_list (P _ Z) (T.self _ 0 _ _ _ a7 (P _ Z))
theorem pJ{d c:Expr}{x:Str}{G:aJ}{g:jy}{a:aF}{n:aJ}{M:TI}{L:TT}{K:TE}(z:jo)(i:jr)(F:Wh X E)(hE:∀ cls o H,E1 cls o H->E cls o H)(hi:PI X (.Name x G) c M)(ht:∀ C s H f E,OE (Yu X (x::i) a (WY X.env a.names []) C s H f E) g L)(he:∀ C s H f E,UT (Yl X.prog X.w) (Yu X (x::i) a (WY X.env a.names []) C s H f E) E1->PE (Yu X (x::i) a (WY X.env a.names []) C s H f E) d K)(Y:YH X a z i)(hk:MB X.env a.names=V':=by rfl)(k:NY a x=V':=by rfl)(l:(x::i).Nodup:=by decide +kernel)(hs:∀ x,foldedSetIterable c X.env x=pure x:=by intro _;rfl):
  PE X (.ListComp d [#[.Name x G,c,g,(0)]] a n) (IY M z L K):=by
 intro jR s σ H Q I h;let B:=LW k;let r:=IL I.ok hk;rw[eval_ListComp];show wpAny_comprehension_free (use:=Y') Z hs (Ga r) B.kind B.names (Z3 (hi jR s σ H _ I h) λv s1 h1=>Z3 h1 λa0 s2 h2=>?_);let#[it,f,tn,J,H2,e,t,T,p,u,q2]:=h2;subst e;show kX (RR:=λj C=>compPost (aB X.prog X.w) X.A X.xe Y' (EP X jR σ Q) j C) (E1:=E1) (λD C y=>kh F hE t u y) F.calm ht he (Hx r) B.kind l B.own B.cell (IE B.cell) Y t T p u q2 ?_;intro D C s' N m y O W hn q;show#[m,hn,λh' sb=>#[.ref D,N,?_,Z,q]];let#[P,R,_,S,U,V]:=W;show O.turned (t':=s'.toks) (λb o k e=>(sb.2 b k).trans e) P R S U V
end
section
variable{E:XK}
theorem Io{x:Str}{C:al}{S c l:aJ}(F:Wh X E)(O:OwnCls x C [.type "ValueError",.type "Exception",.type "BaseException",.type "object"] "ValueError.__new__" X.mg X.base)(Q:yF X.K (.ref C)=V')(R:yS X.K C (.type "BaseException")\true)(P:yN X.K (.ref C)\.type "type")(L:Gl X x)(j:(x==("__debug__" : Str))=false:=by decide):
  PS X (.Raise (Z' (.Call (.Name x S) [] [] c)) Y' l) (λ_ _ H=>E (.ref C) Y' H):=by
 intro r s σ H D I h;let M:=I.ok.hd F.calm;rw[arm_exec_Raise];show aa (ai ?_);show BK M R P (aa (ae ?_ (λv s3 A=>aa (ai (ad A))) λ_ _ z=>z));let i:=pW;let#[tl,N,nm,q,bs,n,sn,V,Y,t,dd,k0,k1,k2,k3,k5,mN,B,G,k,T]:=O.obj;show ah (QZ I L O.bound ?_ j);show zEU I.kIn Q ?_;let#[hp,g,d,tk,os]:=s;show wpAny_call_exc_subU (rest:=[]) i i.hasB i (T.keeps I.bk) (I.bk _ _ B) (G.keeps I.bk) k (λw b e=>?_) (yQ _);let#[tt,u,e2,e3]:=e.there;let J:=I.newx (C:=C) (ea:=b) (h':=w) e.keeps e.new #[_,_,u,Z,Z,Z,Z,Z,by change 4<6;lia]
 let p:H b=Y':=by
  cases z:H b with
  | none=>rfl
  | some o=>
   let#[U,m]:=I.hok.there (a:=b) #v[z,λy=>nomatch y]
   have:=e.new;erw[m] at this
 let f:X.s₀.heap.get? b=Y':=by
  cases z:X.s₀.heap.get? b with
  | none=>rfl
  | some o=>
   let#[U,m]:=I.base.there b o z (by rw[F.ex];simp)
   have:=e.new;erw[m] at this
 show#[b,Y',Z,J.kIn,(J.hok b _ ZY).1,En F (J.untrack p) f p (J.hok b _ ZY).1 h]
end
end L2
namespace Tw
open PySem PySem.Spec L2 PyProof.Rows
variable{jP jQ CS CT CH CK CP CB:al}
def PD:ju->V
 | none=>.non
 | some i=>.int (i:Int)
def Wl(X:YG)(a c:al):Prop:=c≠X.S/\c≠X.d/\c≠a/\∀ i,i∈X.lv->c≠X.as[i]!.x/\c≠X.as[i]!.ab/\c≠X.as[i]!.th
end Tw
namespace L2
open PySem PySem.Spec PyProof.Rows
theorem u3{a:jH}{b:jd}(h:ZN (a.map V.int) b):PySem.W.kf_ints b=V'/\∀(i:Nat)(n:Int),a[i]?\n->∃ t,b[i]?\.int n t:=by
 show#[?_,λi n e=>?_]
 .induction a generalizing b with
  | nil=>cases h;rfl
  | cons n a d=>
   cases h with
   | cons r t=>
    let#[f,rfl]:=r;rwa[PySem.W.kf_ints,d t]
 .let#[u,c,t,rfl]:=h.get (x:=.int n) (i:=i) (by rw[zF,e];rfl)
  show#[t,c]
inductive OU(x:V)(c:je)(H:Hp)(Q:VK):Prop
 |mk(l:al)(a:jH)(b:Int)(_:x=.ref l)(_:c=[.int b])(_:H l\.lst (a.map V.int))(_:b∈a)(_:Q .non (upd H l (.lst ((a.erase b).map V.int))))
theorem mS:Jx X "list.remove" OU:=by
 intro D s Y H x V v U Q I R P h;let#[l,d,b,rfl,rfl,C,J,q]:=h;cases R;let#[u,rfl,O]:=P.one;let#[S,rfl]:=O;let#[z,c,n,r,T,e]:=I.lstM C;let#[N,o]:=u3 r;let B:=List.idxOf_lt_length_of_mem J;let g:↑c=↑d:=by have:=↑r;rw[zY] at this;show this.symm
 let MU:∀(m:Nat)(j:m<c.toArray.size)(k:Int),d[m]?\k->isInt b c.toArray[m]=decide (k=b):=λm j k K=>by
  let#[t,G]:=o m k K;have:c.toArray[m]?\Value.int k t:=by simpa using G
  rw[wV j] at this;rw[yP.inj this];change (k==b)=_;rw[wL];simp
 let f:d.idxOf b<c.toArray.size:=#v[zB,g,B]
 let M:c.toArray.size<=sizeLine:=by
  rw[zB,g];have:=z;rw[zY] at this;show this
 show call_meets F.slot_list_remove #[_,e,Z] F.entry_list_remove (F.args_list_remove_2 _ _) (MeetsSeq.list_remove l ⇑c n (.int b S) (isInt b) (λy L=>PySem.W.kf_eq N y (by simpa using L)) (d.idxOf b) f ?_ (λm j w=>?_) M) #[e,?_]
 .rw[MU _ f b (by rw[zU B,List.getElem_idxOf B])]
  show aM Z
 .let A:m<↑d:=∅
  rw[MU m j d[m] (zU A)];have:=List.not_of_lt_findIdx (p:=(· == b)) (xs:=d) (i:=m) w;show aK λz=>by rw[z] at this;simp at this
 .let E:d.erase b=d.take (d.idxOf b)++d.drop (d.idxOf b+1):=by rw[List.erase_eq_eraseIdx_of_idxOf rfl,pU]
  show#[.non,_,I.lset (its':=c.take (d.idxOf b)++c.drop (d.idxOf b+1)) C e ?_ ?_ ?_,Z,q]
  .apply uO.mp;rw[Array.toList_eraseIdxIfInBounds,pU]
  .rwa[E,yX,tX,zET,(r.take _).append (r.drop _)]
  .rw[zY];have:=List.length_erase_le (l:=d) (a:=b);rw[zY] at z
   lia
end L2
namespace Tw
open PySem PySem.Spec L2 PyProof.Rows
variable{jP jQ CS CT CH CK CP CB:al}
abbrev Up(a:jz):Prop:=NQ (a.map (·.1))
theorem Mv(a:jp)(l m:jo):YM a (l++m)=YM a l++YM a m:=vA
theorem Oe(a:jp)(b:Nat)(m:jo):YM a (b::m)=(gd a b).rows++YM a m:=xX ..
theorem JL{d a:jp}{l:jo}(h:∀ b∈l,(gd a b).rows=(gd d b).rows):YM a l=YM d l:=by
 induction l with
 | nil=>rfl
 | cons b l f=>rw[Oe,Oe,h b zQ,f λc e=>h c (zM _ e)]
theorem Ac{c:jp}{a:jo}(p:∀ b∈a,(gd c b).rows≠[])(g:0<↑a):(#[((YF c a).getD 0 .d).h+1,((YF c a).getD 0 .d).lo,((YF c a).getD (↑(YF c a)-1) .d).hi,((YF c a).map YV.m).sum]:YV)=Zs (Yt c a):=by
 let B:↑(YF c a)=↑a:=zY _;let f:∀ i,i<↑a->a.getD i 0∈a:=λi y=>#v[zO,zU y,xP _]
 let n:((YF c a).getD 0 .d).lo=(Zs (Yt c a)).lo:=by
  rw[Q8 g];let#[r,o,e,k]:=NN (p _ (f 0 g));rw[k]
  cases a with
  | nil=>simp at g
  | cons b a=>
   unfold Zs Yt YM;let s:(gd c b).rows=r::o:=e;simp only[xX,s];rfl
 let j:((YF c a).getD (↑(YF c a)-1) .d).hi=(Zs (Yt c a)).hi:=by
  rw[B,Q8 ∅]
  let#[o,r,e,k]:=Kl (p _ (f (↑a-1) ∅))
  rw[k];rcases qN a with z | ⟨q,b,z⟩
  .rw[z] at g;simp at g
  .rw[qP] at z;let u:a.getD (↑a-1) 0=b:=by rw[z];simp[zO]
   rw[u] at e;let x:YM c a=YM c q++o++[r]:=by rw[z];simp[YM,e]
   unfold Zs Yt;simp only[x];simp[zO]
 let w:((YF c a).map YV.m).sum=(Zs (Yt c a)).m:=by
  have:∀ l:jo,((YF c l).map YV.m).sum=(↑(YM c l):Int):=λl=>by
   induction l with
   | nil=>rfl
   | cons b l A=>
    let t:YF c (b::l)=Zs (gd c b)::YF c l:=rfl;rw[t,Oe,yT,tW,A,zS];change (↑(gd c b).rows:Int)+_=_
    lia
  show this a
 let v:((YF c a).getD 0 .d).h+1=(Zs (Yt c a)).h:=by
  rw[Q8 g];change ((gd c (a.getD 0 0)).h:Int)+1=(((gd c (a.getD 0 0)).h+1:Nat):Int)
  lia
 rw[n,j,w,v]
theorem oK{c:jp}{a:jo}{h:Nat}(d:∀ b∈a,(gd c b).rows≠[]/\(gd c b).h=h)(v:2<=↑a)(w:↑a<=4)(r:Up (YM c a)):over (YF c a)\Zs (Yt c a):=by
 let y:↑(YF c a)=↑a:=zY _;let e:=r;unfold Up NQ YM at e;rw[List.map_flatMap,zEc] at e;rw[<-Ac (λb h=>(d b h).1) ∅]
 show FB ∅ ∅ λj x=>?_
 let l:j<↑a:=∅
 let m:j+1<↑a:=∅
 rw[Q8 l,Q8 m];let f:a[j]?\a.getD j 0:=by rw[zO,zU l];rfl
 let g:a[j+1]?\a.getD (j+1) 0:=by rw[zO,zU m];rfl
 let i:=d _ (zI f);let k:=d _ (zI g);let s:=Lv e.2 (wR j) f g;let#[t,z,n,p]:=Kl i.1;let#[A,u,o,q]:=NN k.1;unfold VY;rw[zT];exists ?_
 .change (((gd c (a.getD j 0)).h:Int)==((gd c (a.getD (j+1) 0)).h:Int))=V';rw[i.2,k.2];simp
 .rw[p,q];show s _ ?_ _ ?_
  .rwa[n,yX,yB _ (zP.mpr Z)]
  .rwa[o,zQ ..]
section
variable{gt:jo}{ts:jp}{r:Nat}
def Tp(a:Nat->jo)(b:Nat->Nat)(i:Nat):Prop:=a i=[]/\b i=1
inductive Rd(gt:jo)(av:Nat->jo)(ho:Nat->Nat):Nat->jo->Prop
 | top {i:Nat}:i∈gt->Tp av ho i->Rd gt av ho i [i]
 | up {i j:Nat} {l:jo}:i∈gt->av i=[j]->ho i=0->Rd gt av ho j l->Rd gt av ho i (i::l)
theorem Rd.hd{a:Nat->jo}{b:Nat->Nat}{i:Nat}{l:jo}(h:Rd gt a b i l):∃ c,l=i::c:=by
 cases h <;> show#[1]
end
theorem su{gt:jo}{c:jp}(f:WF gt c){j:Nat}(s:j∈gt)(p:(gd c j).h≠0):(gd c j).bs.Pairwise λa b=>(Zs (gd c a)).lo.lt (Zs (gd c b)).lo=V':=by
 let i:=f j s;let#[t,u,l,o]:=i.stem p;let k:=i.up;rw[o,List.map_flatMap,zEc] at k;let g:∀ b∈(gd c j).bs,(Zs (gd c b)).lo∈(gd c b).rows.map (·.1):=λb d=>by
  let e:b∈gt:=(l b d).1;let#[r,v,m,n]:=NN (f b e).ne;rwa[m,n,zQ ..]
 have:=k.2;show this.imp_of_mem fun{a b} q d h=>h _ (g a q) _ (g b d)
theorem FV{gt:jo}{c:jp}(g:WF gt c){j:Nat}(f:j∈gt)(d:(gd c j).h≠0):(gd c j).bs.Nodup:=(su g f d).imp fun{a b} h e=>by erw[e,Oo] at h
theorem yr{a b:jz}(h:Up b)(s:a.Sublist b):Up a:=sM.sublist (s.map _) h
section
variable{gt:jo}{ts:jp}{r:Nat}{k:KT}
theorem FE(d:WF gt ts):∀(n i:Nat),i∈gt->(gd ts i).h=n->2 ^ n<=↑(gd ts i).rows
 | 0,i,a,_=>xN.mpr (d i a).ne
 | n+1,i,a,v=>by
  let#[f,_,g,m]:=(d i a).stem ∅
  let o:∀ l:jo,(∀ b∈l,b∈(gd ts i).bs)->↑l * 2 ^ n<=↑(l.flatMap λb=>(gd ts b).rows):=λl e=>by
   induction l with
   | nil=>simp
   | cons b l q=>
    let t:=q λc p=>e c (zM _ p);let#[j,s]:=g b (e b zQ);let u:=FE d n b j ∅
    rw[xX,zS,zV,Nat.add_mul]
    lia
  let h:=o _ λb h=>h;rw[m,Nat.pow_succ];have:2 * 2 ^ n<=↑(gd ts i).bs * 2 ^ n:=tI _ f
  lia
end
section
variable{jP jQ:al}{H H':Hp}{S d lk:al}{lv:jo}{ts:jp}{av:Nat->jo}{ho:Nat->Nat}{as:jE}{kvs:List (Zj×V)}{ls:je}{b:Nat}
theorem Yz.set1(R:Yz jP jQ H S d lk lv ts av ho as kvs ls)(g:b∈lv){av':Nat->jo}{ho':Nat->Nat}(B:∀ c,c≠b->av' c=av c)(C:∀ c,c≠b->ho' c=ho c)(F:∃ u,H' as[b]!.x\.ins jQ u (QV (.ref as[b]!.th) (.ref as[b]!.tg) as[b]!.ab (ho' b)))(E:H' as[b]!.ab\.lst (iN (av' b)))(k:∀ c o,c≠as[b]!.x->c≠as[b]!.ab->H c\o->H' c\o):Yz jP jQ H' S d lk lv ts av' ho' as kvs ls:=by
 let#[#[t,r],n,s]:=R.sh;let h:=R.tw b g;let#[v,a]:=h.tw.self;let f:=h.tw.above;let#[L,q,y,A]:=h.things;let m:XB H H':=λc U e=>k c _ (Z5 e a) (Z5 e f) e;show#[#[#[t,k _ _ (R.own b g).1.symm (Z5 r f) r],k _ _ (Z5 n a) (Z5 n f) n,k _ _ (Z5 s a) (R.own b g).2.1.symm s],R.lt,R.keys,R.val,R.len,λi l=>?_,R.own,R.two];by_cases z:i=b
 .subst z;show#[#[F,E],#[L,k _ _ (Z5 q a) (R.own i l).2.2.2.symm q,λz=>(y z).mono m _ _,A],h.tag.mono m]
 .let j:=R.tw i l;let#[J,K,P,Q]:=R.two i b l g z;let#[M,N,I,O]:=R.two b i g l (Ne.symm z);let#[w,p]:=j.tw.self;let#[T,D,_]:=j.things;let G:=j.frame m (λo e=>k _ _ J (Z5 p f) e) (λo e=>k _ _ (Z5 D a) I.symm e) (λo e=>k _ _ (Z5 j.tw.above a) K e);show#[?_,G.things,G.tag];rwa[B i z,C i z,G.tw]
end
theorem mv(l:jo)(b:Nat):(l.map λb:Nat=>(b:Int)).erase (b:Int)=(l.erase b).map λb:Nat=>(b:Int):=by
 induction l with
 | nil=>rfl
 | cons a l c=>
  by_cases z:a=b
  .subst z;simp
  .let d:¬ ((a:Int)=(b:Int)):=∅
   rw[yT,List.erase_cons_tail (by simpa using d),List.erase_cons_tail (by simpa using z),c]
   rfl
def Gh(b:jo)(c:Nat)(a:Nat->jo):Nat->jo:=λi=>if i∈b then (a i).erase c else a i
abbrev Gi:Stmt:=UM (top 47) 4
abbrev IB:Stmt:=UM (top 47) 5
abbrev Kx:Stmt:=UM (top 47) 6
theorem oq{a:List (Zj×V)}{b:jo}{i:Nat}(d:b.Nodup)(h:a.map (·.1)=b.map (λi:Nat=>(Sum.inl (i:Int):Zj))):(VJ a (.inl (i:Int))).map (·.1)=(b.erase i).map (λi:Nat=>(Sum.inl (i:Int):Zj)):=by
 let c:(VJ a (.inl (i:Int))).map (·.1)=(a.map (·.1)).filter λk=>decide (k≠.inl (i:Int)):=by
  unfold VJ;rw[List.filter_map];rfl
 rw[c,h,List.filter_map,d.erase_eq_filter]
 congr 1
 show List.filter_congr λj _=>?_;change decide ((Sum.inl (j:Int):Zj)≠Sum.inl (i:Int))=(j != i);rw[wL];simp
 lia
theorem qf{a:List (Zj×V)}{k j:Zj}(h:j≠k):YS (VJ a k) j=YS a j:=by
 induction a with
 | nil=>rfl
 | cons p r b=>
  by_cases z:p.1=k
  .rw[mQ z,b,U1 #v[z,Ne.symm h]]
  .rw[nT z];by_cases y:p.1=j
   .rw[QG y,QG y]
   .rw[U1 y,U1 y,b]
section
variable{jP jQ:al}{H H':Hp}{S d lk:al}{lv:jo}{ts:jp}{av:Nat->jo}{ho:Nat->Nat}{as:jE}{kvs:List (Zj×V)}{ls:je}{b i:Nat}
theorem Yz.gone(R:Yz jP jQ H S d lk lv ts av ho as kvs ls)(r:lv.Nodup):Yz jP jQ (upd H d (.dK (VJ kvs (.inl (i:Int))))) S d lk (lv.erase i) ts av ho as (VJ kvs (.inl (i:Int))) ls:=by
 let#[#[s,q],h,p]:=R.sh;let g:∀{a:Nat},a∈lv.erase i ↔ a≠i/\a∈lv:=r.mem_erase_iff;let k:∀ c o,c≠d->H c\o->upd H d (.dK (VJ kvs (.inl (i:Int)))) c\o:=λc o n e=>#v[ZT n,e]
 let m:XB H (upd H d (.dK (VJ kvs (.inl (i:Int))))):=λc x e=>k c _ (Z5 e h) e;show#[#[#[s,k _ _ (Z5 q h) q],ZY,k _ _ (Z5 p h) p],λj f=>R.lt j (g.mp f).2,oq r R.keys,λj f=>?_,R.len,λj f=>?_,λj f=>R.own j (g.mp f).2,λj l f p=>R.two j l (g.mp f).2 (g.mp p).2]
 .rw[qf (λz=>(g.mp f).1 (by have:=Sum.inl.inj z;lia))]
  show R.val j (g.mp f).2
 .let W:=R.tw j (g.mp f).2;let#[v,u]:=W.tw.self;let#[w,t,_]:=W.things;show W.frame m (λo e=>k _ _ (Z5 u h) e) (λo e=>k _ _ (Z5 t h) e) (λo e=>k _ _ (Z5 W.tw.above h) e)
end
def ON(a:Nat->Nat)(b:Nat):Nat->Nat:=λi=>if i=b then a i+1 else a i
inductive VF(jP jQ:al):Sp
 |mk{S d k:al}{h:jo}{m:jp}{i:Nat->jo}{j:Nat->Nat}{g:jE}{a:List (Zj×V)}{l:je}{b:Nat}{H:Hp}{Q:VK}{E:XK}:Yz jP jQ H S d k h m i j g a l->b∈h ->
  (∀ e:Hp,(∀ c o,c≠g[b]!.x->H c\o->e c\o)->Yz jP jQ e S d k h m i (ON j b) g a l->Q .non e)->VF jP jQ [.ref S,.int (b:Nat)] H Q E
theorem PL:ZB S0 T9 (Za Gi):=Z2
theorem A4(F:Zk K "hold" "Shelf.hold" Gi f fd)(L:WD K mg jP jQ)(u:ZP P w K mg jS ZX 1 jP "twig_of" T9 (Z9 jP)):ZI P w K mg jS ZX 2 f fd T9 (VF jP jQ):=by
 show F.ok PL (λN H Q E h=>(by induction h;rfl)) (λy A q s H N Q E C h=>?_)
 induction h
 rename_i S d D T M v i g p G b H Q E R l k
 let J:=PL.nd;intro O;show#[_,ZL (Zh 2 J (WV (E:=E0) (pv 0) L.cS u C Xi (ZM (pv 1))))
  (ZR (Jc (pv 2) ZJ y6)),?_]
 let#[z,B]:=R.sh.self;let t:=R.tw b l;let#[j,m]:=t.tw.self;let a:=t.tw.above;exists 1,S,z,1,B,Z,1,S,d,D,↑M,p,G,(b:Int),.ref g[b]!.x,Z,R.sh,R.val b l;exists 1,g[b]!.x,jQ,j,_,.int (i b:Nat),Z,m,L.cT,L.nho,Z,_,1,Z,j,_,m,yC Z;let r:g[b]!.ab≠g[b]!.x:=Z5 a m;show k _ (λc o n e=>#v[ZT n,e]) (R.set1 l (av':=v) (ho':=ON i b) (λ_ _=>rfl) (λc n=>aO n) #[j,?_] ?_ λc o I _ e=>#v[ZT I,e])
 .rw[ZY,show ON i b b=i b+1 from aP rfl];rfl
 .rwa[ZT r,a]
theorem Qz:ZB ["self","number","twig","branch"] T9 (Za Kx):=Z2
theorem Us:ZB S0 T9 (Za IB):=Z2
structure Go(lk:al)(H H':Hp)(X X':YG):Prop where
 S:X'.S=X.S
 d:X'.d=X.d
 fr:∀ c o,Wl X lk c->H c\o->H' c\o
 off:∀ c o,Wl X lk c->H c\o->Wl X' lk c
theorem Go.trans{f:al}{H g h:Hp}{X i j:YG}(a:Go f H g X i)(b:Go f g h i j):Go f H h X j:=#[b.S.trans a.S,b.d.trans a.d,λc o n e=>b.fr c o (a.off c o n e) (a.fr c o n e),λc o n e=>b.off c o (a.off c o n e) (a.fr c o n e)]
theorem Go.same{b:al}{H a:Hp}{X:YG}(s:ZD H a):Go b H a X X:=#[Z,Z,λc o _ e=>s c o e,λc o n _=>n]
section
variable{jP jQ:al}{H H':Hp}{X:YG}{lk:al}{ls:je}{r:Nat}
theorem Yz.new(R:Yz jP jQ H X.S X.d lk X.lv X.ts X.av X.ho X.as X.kvs ls){c:al}(n:H c=rX):Wl X lk c:=by
 let#[#[b,f],g,h]:=R.sh;exists (Zf f n).symm,(Zf g n).symm,(Zf h n).symm;intro i a;let#[b,j]:=(R.tw i a).tw.self;let#[k,e,_]:=(R.tw i a).things;show#[(Zf j n).symm,(Zf (R.tw i a).tw.above n).symm,(Zf e n).symm]
theorem Eo{t:ZK}{av':Nat->jo}{ho':Nat->Nat}{a:Xb}{kvs':List (Zj×V)}(l:↑X.as=↑X.ts)(h:∀ i∈X.lv,i<↑X.ts)(g:∀ c o,c≠X.S->c≠X.d->(∀ i:Nat,i∈X.lv->c≠X.as[i]!.x/\c≠X.as[i]!.ab)->H c\o->H' c\o)(nx:H a.x=Y')(k:H a.th=Y')(j:H a.ab=Y'):Go lk H H' X #[X.S,X.d,X.lv++[↑X.ts],X.ts++[t],av',ho',X.as++[a],kvs']:=
 #[Z,Z,λc o n e=>g c o n.1 n.2.1 (λi b=>#[(n.2.2.2 i b).1,(n.2.2.2 i b).2.1]) e,λc o n e=>#[n.1,n.2.1,n.2.2.1,λi b=>by
  change c≠((X.as++[a]).getD i .d).x/\c≠((X.as++[a]).getD i .d).ab/\c≠((X.as++[a]).getD i .d).th;rcases yY.mp b with q | q
  .rw[Js (by have:=h i q;lia)]
   show n.2.2.2 i q
  .let f:i=↑X.as:=by have:=zP.mp q;lia
   rwa[f,GZ,#[Zf e nx,Zf e j,Zf e k]]]]
end
structure K4(lv:jo)(ts:jp)(U:Nat->Prop)(g:Nat->Nat):Prop where
 gu:∀ b,0<g b->U b
 inn:∀ b,U b->b∈lv
 cl:∀ b,U b->∀ c∈(gd ts b).bs,U c
 hd:∀ b,U b->0<g b\/∃ p,U p/\b∈(gd ts p).bs
structure Dg(lv:jo)(ts:jp)(av:Nat->jo)(ho:Nat->Nat)(U:Nat->Prop)(g:Nat->Nat)(o:jo):Prop where
 wf:WF lv ts
 nd:lv.Nodup
 avn:∀ b∈lv,(av b).Nodup
 ave:∀ b∈lv,∀ p,p∈av b ↔ p∈lv/\b∈(gd ts p).bs
 hs:∀ b∈lv,ho b=g b+o.count b
 own:∀ b∈o,b∈lv
 u:K4 lv ts U g
theorem K4.keep{l d:jo}{j e:jp}{U:Nat->Prop}{g:Nat->Nat}(h:K4 l j U g)(k:∀ b,U b->b∈d/\gd e b=gd j b):K4 d e U g:=
 #[h.gu,λb a=>(k b a).1,λb a c f=>h.cl b a c (by rwa[<-(k b a).2,f]),λb a=>(h.hd b a).imp id λ⟨p,i,f⟩=>#[p,i,#v[(k p i).2,f]]]
theorem Hy{g:jo}{a:jp}(f:WF g a){p b:Nat}(e:p∈g)(c:b∈(gd a p).bs):b∈g/\(gd a b).h+1=(gd a p).h/\(gd a p).h≠0:=by
 let d:(gd a p).h≠0:=λy=>by erw[((f p e).leaf y).1] at c
 show#[(((f p e).stem d).2.2.1 b c).1,(((f p e).stem d).2.2.1 b c).2,d]
theorem IN{l:jo}(h:l.Nodup)(b:Nat):l.count b=if b∈l then 1 else 0:=by
 split
 .next y=>show Nat.le_antisymm (List.nodup_iff_count.mp h b) (vC.mpr y)
 .next y=>show List.count_eq_zero.mpr y
section
variable{lv:jo}{ts cur:jp}{av:Nat->jo}{ho:Nat->Nat}{U:Nat->Prop}{g:Nat->Nat}{o rest bs up:jo}{r n x c:Nat}
theorem Dg.perm(D:Dg lv ts av ho U g o){d:jo}(p:o.Perm d):Dg lv ts av ho U g d:=#[D.wf,D.nd,D.avn,D.ave,λb a=>by rwa[<-p.count_eq,D.hs b a],λb a=>D.own b (p.mem_iff.mpr a),D.u]
theorem Dg.free(D:Dg lv ts av ho U g o){f:jo}(rd:Rd lv av ho c f):(∀ i∈f,av i=[]->i∈o)->∀ x∈f,¬ U x:=by
 induction rd with
 | top a t=>
  intro k x h u;rename_i i
  cases zP.mp h;let v:=vC.mpr (k i zQ t.1);have:=D.hs i a;rw[t.2] at this;rcases D.u.hd i u with y | ⟨p,d,y⟩
  .lia
  .have:=(D.ave i a p).mpr #[D.u.inn p d,y];erw[t.1] at this
 | up a m q rd s=>
  intro k x h;rename_i i j l
  let b:=s λi a=>k i (zM _ a);rcases zN.mp h with y | y
  .intro u;cases y;have:=D.hs i a;rw[q] at this;rcases D.u.hd i u with y | ⟨p,d,y⟩
   .lia
   .have:=(D.ave i a p).mpr #[D.u.inn p d,y];rw[m] at this;cases zP.mp this;let#[w,e]:=rd.hd;show b j #v[e,zQ] d
  .show b x y
theorem Dg.put(D:Dg lv ts av ho U g o)(N:∀ i∈lv,i<↑ts){t:ZK}(V:V4 lv ts ↑ts t)(Q:t.bs.Nodup)(K:o.Perm (t.bs++rest)):
  Dg (lv++[↑ts]) (ts++[t]) (UW t.bs ↑ts (U9 ↑ts av)) (QM t.bs (Pa ↑ts ho)) U g (↑ts::rest):=by
 let P:∀ b∈t.bs,b∈lv:=λb d=>D.own b (K.mem_iff.mpr (xO _ d));let v:↑ts∉lv:=λy=>xQ _ (N _ y);let I:↑ts∉t.bs:=λy=>v (P _ y);let s:∀ i∈lv,gd (ts++[t]) i=gd ts i:=λi B=>Kd (N i B);let F:gd (ts++[t]) ↑ts=t:=Ox;let J:∀ i∈lv,i≠↑ts:=λi B y=>v (y ▸ B);let R:g ↑ts=0:=Nat.eq_zero_of_not_pos λy=>v (D.u.inn _ (D.u.gu _ y));let O:∀ b∈rest,b∈lv:=λb d=>D.own b (K.mem_iff.mpr (yB _ d));let A:∀ b∈lv,UW t.bs ↑ts (U9 ↑ts av) b=if b∈t.bs then av b++[↑ts] else av b:=λb d=>by
  unfold UW U9;rw[aO (J b d)]
 let w:UW t.bs ↑ts (U9 ↑ts av) ↑ts=[]:=by
  unfold UW U9;rw[aO I,aP rfl]
 show#[λi B=>?_,?_,λb d=>?_,λb d p=>?_,λb d=>?_,λb d=>?_,D.u.keep λb d=>#[xO _ (D.u.inn b d),s b (D.u.inn b d)]]
 .let C:∀{j M:Nat}{u:ZK},V4 lv ts j u->V4 (lv++[↑ts]) (ts++[t]) M u:=fun{j M u} k=>#[k.ne,k.up,k.inn,k.leaf,λz=>by
   let#[m,f,G,S]:=k.stem z;exists m,f,λb d=>#[xO _ (G b d).1,#v[s b (G b d).1,(G b d).2]]
   rwa[S,(JL (l:=u.bs) λb d=>(by rw[s b (G b d).1])).symm]]
  rcases yY.mp B with y | y
  .rwa[s i y,C (D.wf i y)]
  .rwa[zP.mp y,F,C V]
 .rwa[sE,#[D.nd,by simp,λa H b d e=>v (by rw[<-zP.mp d,<-e];show H)]]
 .rcases yY.mp d with y | y
  .rw[A b y];split
   .rwa[sE,#[D.avn b y,by simp,λa H c T e=>v (by rw[<-zP.mp T,<-e];show((D.ave b y a).mp H).1)]]
   .show D.avn b y
  .rwa[zP.mp y,w,sJ]
 .rcases yY.mp d with y | y
  .rw[A b y];constructor
   .intro h;split at h
    .next z=>
     rcases yY.mp h with q | q
     .let#[E,L]:=(D.ave b y p).mp q;show#[xO _ E,#v[s p E,L]]
     .rwa[zP.mp q,#[yB _ (zP.mpr Z),by rw[F];show z]]
    .let#[E,L]:=(D.ave b y p).mp h;show#[xO _ E,#v[s p E,L]]
   .rintro⟨m,f⟩;rcases yY.mp m with q | q
    .rw[s p q] at f;have:=(D.ave b y p).mpr #[q,f];split
     .show xO _ this
     .show this
    .rw[zP.mp q,F] at f;rwa[aP f,zP.mp q,yB _ (zP.mpr Z)]
  .rw[zP.mp y,w];show#[λh=>(by cases h),λ⟨m,f⟩=>?_]
   rcases yY.mp m with q | q
   .rw[s p q] at f;show absurd (Hy D.wf q f).1 v
   .rw[zP.mp q,F] at f;show absurd f I
 .unfold QM Pa;rcases yY.mp d with y | y
  .let m:=D.hs b y;rw[K.count_eq,tM,IN Q] at m;rw[aO (J b y),qO (J b y).symm];split
   .next z=>rw[aP z] at m;lia
   .next z=>rw[aO z] at m;lia
  .rw[zP.mp y,aO I,aP rfl,R,uD,List.count_eq_zero.mpr λz=>v (O _ z)]
 .rcases zN.mp d with y | y
  .rwa[y,yB _ (zP.mpr Z)]
  .show xO _ (O b y)
theorem Dg.hold(D:Dg lv ts av ho U g o)(d:x∈lv):Dg lv ts av (ON ho x) U g (x::o):=by
 show#[D.wf,D.nd,D.avn,D.ave,λb a=>?_,λb a=>?_,D.u]
 .have:=D.hs b a;unfold ON;by_cases y:b=x
  .rw[aP y,y,uD];rw[y] at this;lia
  .rwa[aO y,qO (λz=>y z.symm),this]
 .rcases zN.mp a with y | y
  .rwa[y,d]
  .show D.own b y
theorem Dg.less(D:Dg lv ts av ho U g (x::o)):Dg lv ts av (V8 ho x) U g o:=by
 show#[D.wf,D.nd,D.avn,D.ave,λb a=>?_,λb a=>D.own b (zM _ a),D.u];have:=D.hs b a;unfold V8;by_cases y:b=x
 .rw[y,uD] at this;rw[aP y,y];lia
 .rw[qO (λz=>y z.symm)] at this;rwa[aO y,this]
theorem Dg.drop(D:Dg lv ts av ho U g (x::o))(m:Tp av ho x):Dg (lv.erase x) ts (Gh (gd ts x).bs x av) (V8 ho x) U g o:=by
 let l:=D.own x zQ;let e:∀{a:Nat},a∈lv.erase x ↔ a≠x/\a∈lv:=D.nd.mem_erase_iff;let s:∀ p∈lv,x∉(gd ts p).bs:=λp A y=>by
  have:=(D.ave x l p).mpr #[A,y];erw[m.1] at this
 let B:=D.free (.top l m) (λi j _=>#v[zP.mp j,zQ]) x zQ
 let k:=D.hs x l;rw[m.2,uD] at k;let L:=D.less;show#[λi j=>?_,D.nd.erase _,λb d=>?_,λb d p=>?_,λb d=>L.hs b (e.mp d).2,λb d=>e.mpr #[λy=>?_,L.own b d],D.u.keep λb d=>#[e.mpr #[λy=>B (y ▸ d),D.u.inn b d],Z]]
 .let f:=D.wf i (e.mp j).2;exists f.ne,f.up,f.inn,f.leaf;intro z;let#[t,v,q,w]:=f.stem z;show#[t,v,λb d=>#[e.mpr #[λy=>s i (e.mp j).2 (y ▸ d),(q b d).1],(q b d).2],w]
 .unfold Gh;split
  .show(D.avn b (e.mp d).2).erase _
  .show D.avn b (e.mp d).2
 .let h:=D.ave b (e.mp d).2 p;unfold Gh;split
  .rw[(D.avn b (e.mp d).2).mem_erase_iff,h,e,and_assoc]
  .next z=>
   rwa[h,e,#[λ⟨a,b⟩=>#[#[λy=>z (y ▸ b),a],b],λ⟨a,b⟩=>#[a.2,b]]]
 .have:=vC.mpr (y ▸ d)
  lia
end
theorem EF:∀{l m:jo},l.Nodup->(∀ x∈l,x∈m)->↑l<=↑m
 | [],_,_,_=>yQ _
 | a::l,m,b,hs=>by
  let b:=wC.mp b;let c:=hs a zQ;have:=EF (l:=l) (m:=m.erase a) b.2 λx d=>(List.mem_erase_of_ne (show x≠a from λy=>b.1 (by rwa[<-y,d]))).mpr (hs x (zM _ d))
  let e:=List.length_erase_of_mem c;have:=zEX c;rw[zV]
  lia
structure Sd(jP jQ:al)(H:Hp)(X:YG)(lk:al)(ls:je)(U:Nat->Prop)(g:Nat->Nat)(o:jo):Prop where
 sh:Yz jP jQ H X.S X.d lk X.lv X.ts X.av X.ho X.as X.kvs ls
 dg:Dg X.lv X.ts X.av X.ho U g o
theorem Sd.same{a b:al}{H c:Hp}{X:YG}{d:al}{e:je}{U:Nat->Prop}{g:Nat->Nat}{o:jo}(h:Sd a b H X d e U g o)(s:ZD H c):Sd a b c X d e U g o:=#[h.sh.same s,h.dg]
end Tw
namespace L2
open PySem PySem.Spec PyProof.Rows
theorem AA:∀{a:jr}{b:jd},ZN (a.map V.str) b->∃ l:List (Str×Tok),b=strValues l/\l.map (·.1)=a
 | [],_,h=>by cases h;show#[[],Z,Z]
 | t::a,u::b,h=>by
  cases h with
  | cons r c=>
   let#[k,rfl]:=r;let#[l,rfl,e]:=AA c;show#[(t,k)::l,Z,by rw[yT,e]]
inductive LS(K:zZ)(x:V)(c:je)(H:Hp)(Q:VK):Prop
 |mk(a p b:_)(_:x=.str a)(_:c=[.ref p])(_:ZH K H p (b.map V.str))(_:(b.map (·.length)).sum+↑b * ↑a<=16777216)(_:Q (.str (Builtin.Str.glued a b)) H)
theorem Ms:MK X "str.join" (LS X.K):=by
 intro g s C H x B v A Q I w o h;let#[c,p,d,rfl,rfl,j,z,q]:=h;let#[t,rfl]:=w;let#[u,rfl,n]:=UG o;cases n;let#[k,r,m,_]:=I.list j;let#[l,rfl,e]:=AA r;let i:Builtin.Str.tooLong ((l.map (·.1)).toArray.foldl (· + ·.length+↑c) 0)=false:=by
  rw[e,StrLaws.joinTotal];unfold Builtin.Str.tooLong au;show aK ∅
 let f:↑(Builtin.Str.glued c d)<=sizeLine:=by
  rw[PySem.size_glued,sizeLine_eq];let y:(↑d-1) * ↑c<=↑d * ↑c:=tI _ (uV _ _)
  lia
 show call_meets uG (typeIs_str _ _ _) PySem.F.entry_str_join (PySem.F.args_str_join_2 _ _) (PySem.meets_str_join_list c t p l i) #[m.isList,?_]
 match l,e with
 | [],e=>
  subst e;show#[f,#[.str _,H,I.tok _,#[1],q]]
 | [a],e=>
  subst e;show#[.str _,H,I,#[1],q]
 | a::b::r,e=>
  subst e;show#[f,#[.str _,H,I.tok _,#[1],q]]
theorem kf:V7 X (.type "int") (λb H Q=>∃ x n,b=[.str x]/\PySem.intText? x\n/\↑x<=640/\Q (.int n) H):=by
 intro a s f H b e Q I r h;let#[x,n,rfl,d,c,q]:=h;let#[u,rfl,t,rfl]:=UG r;show PySem.W.KIN.call_text d c #[.int n,H,I.tok _,#[1],q]
end L2
namespace Tw
open PySem PySem.Spec L2
variable{jP jQ CS CT CH CK CP CB:al}
theorem Fe(x:Str){a b:Nat}(o:a<=b):(Txt.slice x (Z' (a:Int)) (Z' (b:Int))).cps.toList=(x.cps.toList.drop a).take (b-a):=by
 let e:(Builtin.Str.strSliceIndices (Z' (a:Int)) (Z' (b:Int)) 1 ↑x)=Builtin.Str.strSliceIndices (Z' ((min a ↑x:Nat):Int)) (Z' ((min b ↑x:Nat):Int)) 1 ↑x:=by
  let j:¬ ((a:Int)<0):=∅
  let k:¬ ((b:Int)<0):=∅
  let l:¬ (((min a ↑x:Nat):Int)<0):=∅
  let m:¬ (((min b ↑x:Nat):Int)<0):=∅
  let f:max (0:Int) (min (a:Int) (↑x:Int))=max (0:Int) (min ((min a ↑x:Nat):Int) (↑x:Int)):=∅
  let g:max (0:Int) (min (b:Int) (↑x:Int))=max (0:Int) (min ((min b ↑x:Nat):Int) (↑x:Int)):=∅
  simp only[Builtin.Str.strSliceIndices,j,k,l,m,if_false,show ((1:Int) > 0)=True from by simp,if_true,f,g]
 let p:=StrLaws.sliced_plain x (a:=min a ↑x) (b:=min b ↑x) ∅ ∅
 let q:↑x.cps.toList=↑x:=by simp[wM]
 let d:(x.cps.toList.drop (min a ↑x)).take (min b ↑x-min a ↑x)=(x.cps.toList.drop a).take (b-a):=by
  rcases yW a ↑x with h | h
  .rw[xG (yK h),List.take_eq_take_iff,yV,q]
   lia
  .rw[vT h,vT ∅,uB,tT,rP ∅,List.take_nil]
 unfold Txt.slice;split
 .rename_i h
  let c:↑(Builtin.Str.strSliceIndices (Z' (a:Int)) (Z' (b:Int)) 1 ↑x)=↑x:=by simpa using h
  rw[e,StrLaws.strSliceIndices_plain ∅ ∅,zY,vR] at c
  rw[<-d];let i:min b ↑x-min a ↑x=↑x:=c;rcases qZ ↑x with z | z
  .have:x.cps.toList=[]:=wU ∅
   rw[this];simp
  .let n:min a ↑x=0:=∅
   rw[i,n,tU,yH ∅]
 .rw[e,p,<-d]
theorem Ag(x:Str)(i:Nat):Txt.slice x (Z' (i:Int)) (Z' ((i:Int)+1))=sg x.cps.toList i:=by
 apply PySem.Str.ext';let e:=Fe x (a:=i) (b:=i+1) ∅
 let c:((i+1:Nat):Int)=(i:Int)+1:=∅
 rw[c,rO] at e;have:(Txt.slice x (Z' (i:Int)) (Z' ((i:Int)+1))).cps=⇑((x.cps.toList.drop i).take 1):=by rw[<-e]
 rw[this];unfold sg;rw[List.take_one,List.head?_drop]
theorem T6{i:Int}(h:i.natAbs<10 ^ 60){x:Str}(e:x.cps.toList=Xe i):PySem.intText? x\i/\↑x<=640:=by
 let g:∀ m:Nat,PySem.NumText.AllDigits ((xV 10 m).map Char.toNat):=λm c p=>by
  have:=zE.mp (LK m) c p;unfold Y7 at this;rw[zT] at this;show#[of_decide_eq_true this.1,of_decide_eq_true this.2]
 let o:∀ m:Nat,(xV 10 m).map Char.toNat≠[]:=λm z=>by
  let j:=zEV (b:=10) (n:=m);rw[uE.mp z] at j;simp at j
 let d:↑x=↑x.cps.toList:=by simp[wM]
 rcases(show i<0\/0<=i by lia) with l | l
 .obtain⟨m,rfl⟩:∃ m:Nat,i = -((m+1:Nat):Int):=#[(-i).toNat-1,∅]
  rw[Mq] at e;let f:=NJ (m:=m+1) (k:=60) (by decide) ∅
  let q:↑x<=61:=by rw[d,e,zV,zY];lia
  show#[?_,∅]
  rw[PySem.intText_neg e (g _) (o _) ∅,PySem.W.KIN.val_back]
 .let#[m,rfl]:=yA l;let a:x.cps.toList=(xV 10 m).map Char.toNat:=e.trans (Q3 m);let f:=NJ (m:=m) (k:=60) (by decide) (by simpa using h)
  let q:↑x<=60:=by rw[d,a,zY];lia
  show#[?_,∅]
  rw[PySem.intText_digits #v[a,g _] #v[a,o _] ∅,a,PySem.W.KIN.val_back]
def Qd:Nat->Nat
 | 0=>82
 | r+1=>4 * Qd r+6
theorem CQ(r:Nat):82<=Qd r:=by
 induction r with
 | zero=>show zW _
 | succ r a=>change 82<=4 * Qd r+6;lia
theorem ro{i:Int}(h:i.natAbs<10 ^ 60):↑(Xe i)<=61:=by
 rcases(show i<0\/0<=i by lia) with b | b
 .obtain⟨m,rfl⟩:∃ m:Nat,i = -((m+1:Nat):Int):=#[(-i).toNat-1,∅]
  rw[Mq];let a:=NJ (m:=m+1) (k:=60) (by decide) ∅
  rw[zV,zY];lia
 .let#[m,rfl]:=yA b;let a:=NJ (m:=m) (k:=60) (by decide) (by simpa using h)
  rw[Q3,zY];lia
theorem KJ:∀ l:jo,↑(l.flatMap YE)<=2 * ↑l
 | []=>zW _
 | c::l=>by
  rw[xX,zS,zV];have:=KJ l;rcases OZ c with ⟨e,_⟩ | ⟨e,_⟩ <;> rw[e] <;> simp only[zV,yE] <;> lia
mutual
theorem LF:∀(t:KT)(r:Nat),t.fits r=V'->↑t.shown<=Qd r
 | .int i,r,h=>by
  rw[KT.fits] at h;have:=ro (of_decide_eq_true h);have:=CQ r;rw[KT.shown];lia
 | .str x,r,h=>by
  rw[KT.fits] at h;let h1:=(FD h).1;let h2:=KJ x.cps.toList;let h3:↑x.cps.toList=x.cps.size:=by simp
  have:=CQ r;rw[KT.shown,zV,zS,wW]
  lia
 | .tup l,0,h=>by rw[KT.fits] at h;simp at h
 | .tup l,r+1,h=>by
  rw[KT.fits,zT,zT] at h;let l4:=of_decide_eq_true h.2.1;have:=shownL_len l r h.2.2;rw[KT.shown,zV,zS,wW];change _<=4 * Qd r+6;have:↑l * (Qd r+1)<=4 * (Qd r+1):=tI _ l4
  lia
theorem shownL_len:∀(l:jq)(r:Nat),fitsL l r=V'->↑(shownL l)+1<=↑l * (Qd r+1)+1
 | [],r,_=>by rw[shownL];simp
 | t::l,r,h=>by
  rw[fitsL,zT] at h;let h1:=LF t r h.1;let h2:=shownR_len l r h.2;rw[shownL,zS,zV,uA]
  lia
theorem shownR_len:∀(l:jq)(r:Nat),fitsL l r=V'->↑(shownR l)<=↑l * (Qd r+1)
 | [],r,_=>by rw[shownR];simp
 | t::l,r,h=>by
  rw[fitsL,zT] at h;let h1:=LF t r h.1;let h2:=shownR_len l r h.2;rw[shownR,zV,zS,zV,uA]
  lia
end
theorem Eg(t:KT)(l:jq):shownL (t::l)=t.shown++l.flatMap λu=>32::u.shown:=by rw[shownL,M7]
def Wg(t:KT):Str:=#[⇑t.shown]
theorem AC(l:jq):Builtin.Str.glued (zX " ") (l.map Wg)=#[⇑(shownL l)]:=by
 let d:(zX " ").cps.toList=[32]:=by decide +kernel
 apply PySem.Str.ext'
 cases l with
 | nil=>rw[shownL];rfl
 | cons t l=>
  rw[Eg];let e:=K8 (zX " ") (l.map Wg) (Wg t).cps;let b:((l.map Wg).flatMap λp=>(zX " ").cps.toList++p.cps.toList)=l.flatMap λu=>32::u.shown:=by
   rw[d,sG];rfl
  rw[b] at e;change ((l.map Wg).foldl (λa p=>a++(zX " ").cps++p.cps) (Wg t).cps)=_;let c:(Wg t).cps.toList=t.shown:=rfl;rw[c] at e;rw[<-e]
theorem PJ{x:Str}{l:jo}(h:x.cps.toList=l):x=#[⇑l]:=by
 apply PySem.Str.ext';rw[<-h]
theorem C8(i:Int):zX (toString i)=#[⇑(Xe i)]:=PJ (PyProof.Rows.signs_ofString _)
def La(y:Str):Bool:=(!decide (y.cps.toList<[48])) && !decide ([57]<y.cps.toList)
def JH(y:Str):Bool:=(!decide (y.cps.toList<[32])) && !decide ([126]<y.cps.toList)
theorem CY(c:Nat):La #[⇑[c]]=Y7 c:=by
 unfold La Y7;let a:([c]<[48]) ↔ c<48:=by simp[uY]
 let b:([57]<[c]) ↔ 57<c:=by simp[uY]
 rw[wL];simp only[zT,tN,decide_eq_false_iff_not,decide_eq_true_eq,a,b]
 lia
theorem Ev:La #[⇑[]]=false:=by decide
inductive PH(a:je)(H:Hp)(Q:VK)(_:XK):Prop
 |mk(y:Str)(_:a=[.str y])(_:Q (.bl (La y)) H)
inductive PR(a:je)(H:Hp)(Q:VK)(_:XK):Prop
 |mk(y:Str)(_:a=[.str y])(_:Q (.bl (JH y)) H)
inductive YT(a:je)(H:Hp)(Q:VK)(_:XK):Prop
 |mk(x:Str)(i:Nat)(_:a=[.str x,.int (i:Int)])(_:↑x<=au)(_:Q (.str (sg x.cps.toList i)) H)
inductive VC(n:Nat)(b:je)(H:Hp)(Q:VK)(_:XK):Prop
 |mk(v:V)(t:KT)(r:Nat)(_:b=[v])(_:ZE H t v)(_:t.fits r=V')(_:r<n)(_:n<=5)(_:∀ a,ZD H a->Q (.str (Wg t)) a)
theorem RA:ZB TX TX (Za Ma):=Z2
theorem M'(F:Zk K "is_sign" "is_sign" Ma f fd):ZI P w K mg jS ZX 1 f fd TX PR:=by
 show F.ok RA (λi H Q E h=>?_) (λd A b s H i Q E k h=>?_)
 .let#[c,rfl,_]:=h;rfl
 let#[y,rfl,q]:=h;intro j;exists _,ZR (Zl (Ht Nv Nv Zu (pv 0) Zu));let e:(zX " ").cps.toList=[32]:=by decide +kernel
 let g:(zX "~").cps.toList=[126]:=by decide +kernel
 unfold JH at q;rw[<-e,<-g] at q;exists 1,_,1,Z,_,Z;show Ys (λa=>?_) (λa=>?_)
 .exists _,1,Z;rw[a,uI] at q;show q
 .rw[uM.mpr a,vG] at q;show q
theorem Rk:ZB TX TX (Za Hn):=Z2
theorem yh(F:Zk K "is_figure" "is_figure" Hn f fd):ZI P w K mg jS ZX 1 f fd TX PH:=by
 show F.ok Rk (λi H Q E h=>?_) (λd A b s H i Q E k h=>?_)
 .let#[c,rfl,_]:=h;rfl
 let#[y,rfl,q]:=h;intro j;exists _,ZR (Zl (Ht Nv Nv Zu (pv 0) Zu));let e:(zX "0").cps.toList=[48]:=by decide +kernel
 let g:(zX "9").cps.toList=[57]:=by decide +kernel
 unfold La at q;rw[<-e,<-g] at q;exists 1,_,1,Z,_,Z;show Ys (λa=>?_) (λa=>?_)
 .exists _,1,Z;rw[a,uI] at q;show q
 .rw[uM.mpr a,vG] at q;show q
theorem q9:ZB T5 T5 (Za Iq):=Z2
theorem mV(F:Zk K "sign_at" "sign_at" Iq f fd):ZI P w K mg jS ZX 1 f fd T5 YT:=by
 show F.ok q9 (λd H Q E h=>?_) (λb A a s H d Q E g h=>?_)
 .let#[x,i,rfl,_]:=h;rfl
 let#[x,i,rfl,c,q]:=h;intro e;exists _,ZR (Zl (VZ CG (pv 0) (Ws (pv 1)) (Ws (ZW Yo (pv 1) ZJ))));rw[<-Ag] at q;show#[4,_,1,Z,1,x,Z,c,q]
end Tw
namespace L2
open PySem PySem.Spec
theorem uj{x:Str}{g:TG}{n:TS}{D:YX}{a:St}{H:Hp}(d:Nat->St->Hp->Prop)(o:d 0 a H)(s:∀ i c a H,x.cps.toList[i]?\c->d i a H->g (.str #[⇑[c]]) a H λh k=>n { D with nx:=d (i+1),ct:=d (i+1),bk:=D.nx } h k)(r:∀ a H,d x.cps.size a H->D.nx a H):
  ∃ W:Nat->Nat->St->Hp->Prop,(∃ m,W 0 m a H)/\∀ i m a H,W i m a H ->
   ((M3 x).stop i H/\D.nx a H)\/((M3 x).go i H/\∃ N:St->Hp->Prop,(∀ f b,N f b->∃ l,l<m/\W (i+1) l f b)/\∀ y b,(M3 x).yld i H y b->g y a b λh k=>n { D with nx:=N,ct:=N,bk:=D.nx } h k):=by
 exists λi m a H=>m=x.cps.size-i/\i<=x.cps.size/\d i a H,#[x.cps.size,by simp,yQ _,o]
 rintro i m a H ⟨rfl,v,p⟩;by_cases j:i<x.cps.size
 .show .inr #[j,d (i+1),λf b u=>#[x.cps.size-(i+1),∅,Z,j,u],λy b t=>?_]
  let#[e,c,q,rfl]:=t;subst e;show s i c a _ (by simpa using q) p
 .let e:i=x.cps.size:=∅
  subst e;show .inl #[Z,r a H p]
end L2
namespace Tw
open PySem PySem.Spec L2
variable{jP jQ CS CT CH CK CP CB:al}
theorem KR{r:Nat}(h:r<=4):Qd r<=22000:=by
 rcases(show r=0\/r=1\/r=2\/r=3\/r=4 by lia) with rfl | rfl | rfl | rfl | rfl <;> decide
theorem PF{i:Int}(h:i.natAbs<10 ^ 60):i.natAbs.log2<1920:=by
 by_cases z:i.natAbs=0
 .rw[z];decide
 .have:i.natAbs.log2<200:=(Nat.log2_lt z).mpr (xH h (by decide +kernel))
  lia
theorem GB(a b c:jo):(#[⇑a]:Str)++#[⇑b]++#[⇑c]=#[⇑(a++(b++c))]:=by
 apply PySem.Str.ext';change ⇑a++⇑b++⇑c=_;simp
theorem OO(l:jo):↑(#[⇑l]:Str)=↑l:=by simp[wM]
theorem JM:zX "\"" = #[⇑[34]]:=PJ (by decide +kernel)
theorem Dq:zX "(" = #[⇑[40]]:=PJ (by decide +kernel)
theorem zi:zX ")" = #[⇑[41]]:=PJ (by decide +kernel)
theorem va(x:Str):(zX "\"")++#[⇑(x.cps.toList.flatMap YE)]++(zX "\"")=Wg (.str x):=by
 rw[JM,GB];unfold Wg;rw[KT.shown];rfl
theorem q8(l:jq):(zX "(")++#[⇑(shownL l)]++(zX ")")=Wg (.tup l):=by
 rw[Dq,zi,GB];unfold Wg;rw[KT.shown];rfl
theorem wm(i:Int):zX (toString i)=Wg (.int i):=by
 rw[C8];unfold Wg;rw[KT.shown]
theorem q5(t:KT):↑(Wg t)=↑t.shown:=OO _
theorem xq{ts:jq}{B:Nat}(h:∀ t∈ts,↑t.shown<=B):((ts.map Wg).map (·.length)).sum<=↑ts * B:=by
 induction ts with
 | nil=>simp
 | cons t ts b=>
  let c:=h t zQ;let d:=b λu a=>h u (zM _ a);rw[yT,yT,tW,q5,zV,uA]
  lia
theorem Lm:zX "\\" = #[⇑[92]]:=PJ (by decide +kernel)
theorem LH:zX "\"" = #[⇑[34]]:=JM
theorem oy(l:jo)(c:Nat):(#[⇑((l++[c]).flatMap YE)]:Str)=if c=34\/c=92 then (#[⇑(l.flatMap YE)]:Str)++#[⇑[92]]++#[⇑[c]] else (#[⇑(l.flatMap YE)]:Str)++#[⇑[c]]:=by
 apply PySem.Str.ext';rw[vA];split
 .rename_i h
  have:[c].flatMap YE=[92,c]:=by unfold YE;simp[h]
  rw[this];change _=⇑(l.flatMap YE)++⇑[92]++⇑[c];simp
 .rename_i h
  have:[c].flatMap YE=[c]:=by unfold YE;simp[h]
  rw[this];change _=⇑(l.flatMap YE)++⇑[c];simp
abbrev Ar:jr:=["_law_spot","_law_text_here","_law_sign"]
theorem Uw:ZB Ar T1 (Za Ky):=Z2
theorem rn{n:Nat}(F:Zk K "_law_show" "_law_show" Ky f fd)(T:Txt mg)(DS:ZC P w K mg jS (n+1) "_law_show" T1 (VC n)):ZI P w K mg jS ZX (n+2) f fd T1 (VC (n+1)):=by
 show F.ok Uw (λg H Q E h=>?_) (λa7 A a4 s H g Q E hr h=>?_)
 .let#[v,t,r,rfl,_]:=h;rfl
 let#[v,t,r,rfl,N,u,hn,h5,k]:=h;let X:=Uw.nd;let c0:=hr.mono (show 1<=n+1 by lia)
 intro Xc;show#[_,ZL (Zx (WU (Zp QH Z T.isi UK (Zg (pv 0) (Zg (U3 (v:=.ty "str") Z T.str UL Z) Zv))))
  (ZL (Zh 1 X Zu)
  (ZL (WZ PassesOwn.never Z (FN (pv 0)) (WB 2 X)
   (ZL (Zx (PW.pt (Pe (Z6 Y4 (pv 2) Zu (Zz _)) (Pc (Z6 Y4 (pv 2) Zu (Zz _))))) (ZR (Zh 1 X (ZW WR (pv 1) Zu))) Z0)
   (ZR (Zh 1 X (ZW WR (pv 1) (pv 2))))))
  (ZR (Zl (ZW WR (ZW WR Zu (pv 1)) Zu))))) Z0)
  (ZL (Zx (WU (Zp QH Z T.isi UK (Zg (pv 0) (Zg (U3 (v:=.ty "tuple") Z T.tuple Nr Z) Zv))))
   (ZR (Zl (ZW WR (ZW WR Zu (Vo vN uG sY Ms Zu (Zg (VT [] [] Z (Lr (pv 0)) (λ_ _ _ _ _=>VH) (λ_ _ _ _ _=>Ze DS hr (Zg (pv 0) Zv)) trivial) Zv))) Zu))) Z0)
  (ZR (Zl (VD PN Z T.str UL (Zg (pv 0) Zv))))),?_]
 let W:=k H (ZD.refl H);let B:=KR (r:=r) ∅
 let sl:=LF t r u
 cases t with
 | int i=>
  let ev:v=.int i:=by rw[ZE] at N;show N
  subst ev;rw[KT.fits] at u;show#[1,_,_,_,1,.int i,TF,1,Zo ?_];show#[1,_,_,_,1,.int i,yc,1,Zo ?_];exists 1,i,Z,PF (of_decide_eq_true u);rw[<-wm] at W;show W
 | str x=>
  let ev:v=.str x:=by rw[ZE] at N;show N
  subst ev;rw[KT.fits] at u;let hx:↑x<=40:=(FD u).1;let h3:↑x.cps.toList=↑x:=by simp[wM]
  show#[1,_,_,_,1,.str x,MP,1,Zq ?_];show#[1,x,Z,uj (x:=x) (λi σ G=>∃ j:jf,σ=[Z' (.str x),Z' (.str #[⇑((x.cps.toList.take i).flatMap YE)]),j]/\G=H) #[Y',?_,Z] ?_ ?_]
  .let e:(#[⇑((x.cps.toList.take 0).flatMap YE)]:Str)=zX "" :=rfl;rw[e];rfl
  .rintro i c σ G hc ⟨j,rfl,rfl⟩;let el:=KJ (x.cps.toList.take i);let tl:↑(x.cps.toList.take i)<=40:=by rw[zH];lia
   let st:=oy (x.cps.toList.take i) c;let tk:x.cps.toList.take (i+1)=x.cps.toList.take i++[c]:=by rw[yR,hc];rfl
   let C:↑(#[⇑[c]]:Str)=1:=rfl;let a6:↑(#[⇑[92]]:Str)=1:=rfl;let d:c=34\/c=92->(#[⇑((x.cps.toList.take i).flatMap YE)]:Str)++zX "\\" ++ #[⇑[c]]=#[⇑((x.cps.toList.take (i+1)).flatMap YE)]:=λh=>by
    rw[Lm,tk,st,aP h]
   let L:¬ (c=34\/c=92)->(#[⇑((x.cps.toList.take i).flatMap YE)]:Str)++#[⇑[c]]=#[⇑((x.cps.toList.take (i+1)).flatMap YE)]:=λh=>by
    rw[tk,st,aO h]
   let lb:↑(zX "\\")=1:=by decide +kernel
   let fl:↑(#[⇑((x.cps.toList.take i).flatMap YE)]:Str)<=80:=by rw[OO];lia
   let a8:↑((#[⇑((x.cps.toList.take i).flatMap YE)]:Str)++zX "\\")<=81:=by rw[PySem.Str.length_append,lb];lia
   generalize (#[⇑((x.cps.toList.take i).flatMap YE)]:Str)=y at *;exists 1,Z,_,Z;show Ys (λc1=>?_) (λc1=>?_)
   .let m:V.str #[⇑[c]]=V.str (zX "\""):=of_decide_eq_true c1;let a0:c=34:=by injection m with m;rw[LH] at m;show UY.mp m
    show Zq ?_;show#[1,_,1,Z,nn ∅,2,_,1,Z,nn (by rw[C];lia),Z' (.str #[⇑[c]]),?_,Z]
    show congrArg (λz=>[Z' (V.str x),Z' (V.str z),Z' (V.str #[⇑[c]])]) (d (.inl a0))
   .let a2:c≠34:=λz=>c1 (aM (by rw[LH,z]))
    exists 1,Z,_,Z;show Ys (λc2=>?_) (λc2=>?_)
    .let m:V.str #[⇑[c]]=V.str (zX "\\"):=of_decide_eq_true c2;let a1:c=92:=by injection m with m;rw[Lm] at m;show UY.mp m
     show#[1,_,1,Z,nn ∅,2,_,1,Z,nn (by rw[C];lia),Z' (.str #[⇑[c]]),?_,Z]
     show congrArg (λz=>[Z' (V.str x),Z' (V.str z),Z' (V.str #[⇑[c]])]) (d (.inr a1))
    .let a3:c≠92:=λz=>c2 (aM (by rw[Lm,z]))
     show#[2,_,1,Z,nn (by rw[C];lia),Z' (.str #[⇑[c]]),?_,Z]
     show congrArg (λz=>[Z' (V.str x),Z' (V.str z),Z' (V.str #[⇑[c]])]) (L (λz=>z.elim a2 a3))
  .rintro σ G ⟨j,rfl,rfl⟩;let I:x.cps.toList.take x.cps.size=x.cps.toList:=yH ⋯
   let el:=KJ x.cps.toList;rw[I];exists 1,_,1,Z,?_,_,1,Z,?_
   .rwa[JM,OO,OO,nn (by simp only[zV,yE];lia)]
   .rw[JM];change ↑((#[⇑[34]]:Str)++#[⇑(x.cps.toList.flatMap YE)])+_<=_;rwa[PySem.Str.length_append,OO,OO,nn (by simp only[zV,yE];lia)]
   .rw[<-va] at W;show W
 | tup l=>
  let O:=N;rw[ZE] at O;let#[a,g,rfl,M,S]:=O;let hl:=↑S;rw[KT.fits,zT,zT] at u;let#[f0,f1,f2]:=u;let r0:=of_decide_eq_true f0;let l4:=of_decide_eq_true f1;let ty:Y5 K H (.ref a) (.type "tuple"):=.tup M;let fl:∀ t∈l,t.fits (r-1)=V':=λt ht=>by rw[QX] at f2;show zE.mp f2 t ht
  let B1:=KR (r:=r-1) ∅
  show#[1,_,_,_,1,ty,Ks,1,Zo ?_];show#[1,_,_,_,1,ty,BP,1,Zq ?_];exists Z,1,a,Z,#[g,Zd.of M];show Wr (n:=↑g) (λi z=>g[i]?\z) (λD i J q=>ZD H q/\H D=Y'/\J=((l.take i).map Wg).map V.str) (YQ ∅)
   (λD i J q hi p=>#[g,g[i],Zd.of (p.1 _ _ M),by simp[hi]]) (λD i J q z G hi p hy=>#[hy.1,hy.2 g (Zd.of (p.1 _ _ M))]) (λD J q p=>#[g,Zd.of (p.1 _ _ M),zW _])
   (λD hD=>#[Zr hD _,hD,Z]) (λD i J q z U a9 hi hz p R hR=>?_) (λD J q U p=>?_)
  .let#[Y,nD,rfl]:=p;let#[t,I,kt]:=S.get hz;exists 1,z,t,r-1,Z,kt.sm Y,fl t (zI I),∅,by lia
   intro G s4;show hR _ G (s4 D _ U) #[λb o e=>#v[ZT (Zf e nD),s4 b o (Y b o e)],nD,?_]
   rw[yR,I];simp
  .let#[Y,nD,rfl]:=p;let I:l.take ↑g=l:=yH ∅
   rw[I] at U;let sm:=xq (ts:=l) (B:=22000) λt ht=>zK (LF t _ (fl t ht)) B1;let a5:↑(zX " ")=1:=by decide +kernel
   let m4:↑l * 22000<=4 * 22000:=tI _ l4;let kk:=k q Y;rw[<-q8,<-AC] at kk;let gl:↑(Builtin.Str.glued (zX " ") (l.map Wg))+2<=22000:=by
    rw[KT.shown,zV,zS,wW] at sl;rw[AC,OO]
    lia
   show#[zX " ",D,l.map Wg,Z,Z,ZH.of U,by rw[zY,a5];lia,_,1,Z,?_,_,1,Z,?_,kk]
   .rw[Dq,OO,sizeLine_eq];simp only[zV,yE];lia
   .let la:↑(zX "(")=1:=by decide +kernel
    let lc:↑(zX ")")=1:=by decide +kernel
    change ↑((zX "(")++Builtin.Str.glued (zX " ") (l.map Wg))+↑(zX ")")<=_;rw[PySem.Str.length_append,la,lc,sizeLine_eq];lia
theorem Bf(T:Txt mg)(L:ZZ K mg "_law_show" Ky T1):∀ n:Nat,ZC P w K mg jS (n+1) "_law_show" T1 (VC n)
 | 0=>L.of λ_ _ _=>Fk λb H Q E h=>by let#[v,t,r,_,_,_,a,_]:=h;lia
 | n+1=>L.of λ_ _ F=>rn F T (Bf T L n)
end Tw
namespace L2
open PySem PySem.Spec
def xC(K:zZ)(C:al):Bool:=
 (zC K (.ref C) "__getattribute__" == Z' (Z' (.builtin "BaseException.__getattribute__")))&&((zC K (.ref C) "__getattr__" == Z' Y')&&((yS K C (.type "BaseException")==Z' true)&&((yS K C (.type "object")==Z' true) &&
 ((zC K (.ref C) "__class__" == Z' (Z' (.builtin "object.__class__")))&&((qV K (.builtin "object.__class__") "__get__" == Z' (Z' (.builtin "getset_descriptor.__get__")))&&(rB K (.builtin "object.__class__")==Z' true))))))
theorem Cy{K:zZ}{C:al}(h:xC K C=V'):Wt K C:=by
 unfold xC at h;simp only[zT,beq_iff_eq] at h;let#[a,b,c,d,e,f,g]:=h;show#[a,b,c,d,e,f,g]
structure j8(P:ao)(w:ax)(K:zZ)(mg:jb)(jS:aE)(x:Str)(C:al)(f:Str):Prop where
 ex:∃ fI fd,Xx K C fI f/\ZI P w K mg jS ZX 1 fI fd ["self",f] (QK K C fI f)/\Zi K fd ["self",f] []
 at_:mg x\.ref C
def C5(a:aD)(i:Nat):Stmt:=match a with
 | .ClassDef _ _ _ b _ _ _ _ _ _ _=>b.getD i (.Pass #[(0),(0),(0),(0)])
 | _=>.Pass #[(0),(0),(0),(0)]
end L2
namespace Tw
open PySem PySem.Spec L2
variable{jP jQ CS CT CH CK CP CB:al}
abbrev IZ:Stmt:=C5 (top 6) 0
theorem nh:ZB TV TV (Za IZ):=Z2
theorem Ai{C:al}(F:Zk K "__init__" "NoText.__init__" IZ f fd):ZI P w K mg jS ZX 1 f fd TV (QK K C f "at"):=by
 show F.ok nh (λg H Q E h=>(by let#[_,_,_,rfl,_]:=h;rfl)) (λb A a s H g Q E i h=>?_)
 let#[c,d,y,rfl,e,k]:=h;show#[_,ZR (GQ (pv 0) (pv 1) Z),#[2,UX,d,_,1,e,c,k]]
end Tw
namespace Tw
open PySem
inductive Wd where
 | wanted | opened | minus | text | freed | figures | behind
 deriving DecidableEq
structure Au where
 w:Wd
 n:Nat
 inn:jo
def VX:jo->jo
 | []=>[]
 | k::r=>(k+1)::r
def UI(c:Nat):Bool:=decide (49<=c)&&decide (c<=57)
def U2(a:jo)(c:Nat):Option Au:=
 if c=34 then Z' #[.text,(0),VX a]
 else if c=40/\↑a<3 then Z' #[.opened,(0),0::VX a]
 else if c=45 then Z' #[.minus,(0),VX a]
 else if c=48 then Z' #[.behind,(0),VX a]
 else if UI c then Z' #[.figures,(1),VX a] else Y'
def V1(w:Wd)(n:Nat)(a:jo)(c:Nat):Option Au:=
 if w=.minus/\UI c=V' then Z' #[.figures,(1),a]
 else if w=.freed/\(c=34\/c=92) then Z' #[.text,n+1,a]
 else if w=.text/\c=34 then Z' #[.behind,(0),a]
 else if w≠.text\/n=40\/c<32\/126<c then Y'
 else if c=92 then Z' #[.freed,n,a]
 else Z' #[.text,n+1,a]
def OC(b:Bool)(a:jo)(c:Nat):Option Au:=
 if c=41/\a≠[] then Z' #[.behind,(0),a.tail]
 else if c=32/\(a=[]/\b=V'\/a≠[]/\a.headD 0<4) then Z' #[.wanted,(0),a] else Y'
def Yv(a:Bool)(s:Au)(c:Nat):Option Au:=
 match s.w with
 | .minus=>V1 .minus s.n s.inn c
 | .text=>V1 .text s.n s.inn c
 | .freed=>V1 .freed s.n s.inn c
 | .opened=>if c=41 then Z' #[.behind,(0),s.inn.tail] else U2 s.inn c
 | .wanted=>U2 s.inn c
 | .figures=>if Y7 c=V'/\s.n<60 then Z' #[.figures,s.n+1,s.inn] else OC a s.inn c
 | .behind=>OC a s.inn c
def Pz(s:Au):Bool:=(decide (s.w=.figures) || decide (s.w=.behind))&&decide (s.inn=[])
def sh(k:Nat)(o:ju):ju:=o.map (· + k)
def ver(a:Bool):Au->jo->ju
 | s,[]=>if Pz s then Y' else Z' 0
 | s,c::l=>match Yv a s c with
  | none=>Z' 0
  | some b=>sh 1 (ver a b l)
theorem Ug(a b:Nat)(o:ju):sh a (sh b o)=sh (b+a) o:=by cases o <;> simp[sh,Nat.add_assoc]
theorem Cz(o:ju):sh 0 o=o:=by cases o <;> simp[sh]
theorem JE(a b:Nat):sh a (Z' b)\(b+a):=rfl
section
variable{many:Bool}{inn:jo}{n c:Nat}{l rest:jo}
theorem Vz{s a:Au}(h:Yv many s c\a):ver many s (c::l)=sh 1 (ver many a l):=by rw[ver,h]
theorem NL{s:Au}(h:Yv many s c=Y'):ver many s (c::l)\0:=by rw[ver,h]
theorem Ip:∀(a:jo)(n:Nat),(∀ d∈a,Y7 d=V')->n+↑a<=60->ver many #[.figures,n,inn] (a++rest)=sh ↑a (ver many #[.figures,n+↑a,inn] rest)
 | [],n,_,_=>by simp[Cz]
 | d::a,n,hd,hn=>by
  simp only[zV] at hn⊢;let b:Yv many #[.figures,n,inn] d=Z' #[.figures,n+1,inn]:=by
   simp only[Yv];rw[aP #[hd d zQ,∅]]
  rw[xU,Vz b,Ip a (n+1) (λe f=>hd e (zM _ f)) ∅,Ug]
  rw[show n+1+↑a=n+(↑a+1) by lia]
def MN(l:jo):Prop:=∀ c r,l=c::r->Y7 c=false
theorem Cb(h:60<=n\/MN rest):ver many #[.figures,n,inn] rest=ver many #[.behind,(0),inn] rest:=by
 cases rest with
 | nil=>simp[ver,Pz]
 | cons c r=>
  let e:Yv many #[.figures,n,inn] c=Yv many #[.behind,(0),inn] c:=by
   simp only[Yv];rw[aO];rintro⟨a,b⟩;rcases h with h | h
   .lia
   .erw[h c r rfl] at a
  rw[ver,ver,e]
end
structure Yf(l:jo)(r:Nat)(t:KT)(k:Nat):Prop where
 le:k<=↑l
 tk:l.take k=t.shown
 fits:t.fits r=V'
 ver:∀ many inn,↑inn+r=3->ver many #[.wanted,(0),inn] l=sh k (ver many #[.behind,(0),VX inn] (l.drop k))
def Qp(l:jo)(r f:Nat):Prop:=∀ b a,↑a+r=3->ver b #[.wanted,(0),a] l=Z' f
theorem JG{c:Nat}(h:UI c=V'):Y7 c=V'/\c≠48:=by
 unfold UI at h;unfold Y7;rw[zT] at h⊢;let b:=of_decide_eq_true h.1;let a:=of_decide_eq_true h.2;show#[#[aM ∅,aM a],∅]
theorem He{c:Nat}(h:Y7 c=V')(n:c≠48):UI c=V':=by
 unfold Y7 at h;unfold UI;rw[zT] at h⊢;let b:=of_decide_eq_true h.1;let a:=of_decide_eq_true h.2;show#[aM ∅,aM a]
theorem oR{c:Nat}{a:jo}(h:UI c=V'):U2 a c\#[.figures,(1),VX a]:=by
 let d:=JG h;let b:=d.1;unfold Y7 at b;rw[zT] at b;let e:=of_decide_eq_true b.1;let f:=of_decide_eq_true b.2;unfold U2;rw[aO ∅,aO ∅,aO ∅,aO d.2,aP h]
theorem BQ:∀(q:jo)(c:Nat),UI c=V'->(∀ d∈q,Y7 d=V')->∃ m:Nat,m≠0/\(xV 10 m).map Char.toNat=c::q/\m<10 ^ (↑q+1):=by
 let j:∀ d:Nat,d<10->(sO d).toNat=48+d:=by decide
 intro q c s l;generalize a:↑q=k
 induction k generalizing q with
 | zero=>
  have:q=[]:=wU a;subst this;let r:=JG s;let g:=r.1;unfold Y7 at g;rw[zT] at g;let o:=of_decide_eq_true g.1;let p:=of_decide_eq_true g.2;show#[c-48,∅,?_,by simp;lia]
  rw[sS ∅]
  change [(sO (c-48)).toNat]=[c];rw[j _ ∅]
  congr 1
  lia
 | succ k u=>
  let b:q≠[]:=λz=>by erw[z] at a
  obtain⟨f,d,rfl⟩:∃ f d,q=f++[d]:=#[q.dropLast,q.getLast b,(sT b).symm];let i:↑f=k:=by rw[zS] at a;simpa using a
  let#[m,w,n,v]:=u f (λe t=>l e (xO _ t)) i;let h:=l d (yB _ (zP.mpr Z));unfold Y7 at h;rw[zT] at h;let o:=of_decide_eq_true h.1;let p:=of_decide_eq_true h.2;exists 10 * m+(d-48),∅,?_
  .rw[<-pX (by decide) ∅ ∅,yX,n,sS ∅]
   change c::f++[(sO (d-48)).toNat]=_;rw[j _ ∅,show 48+(d-48)=d by lia]
   rfl
  .rw[Nat.pow_succ];lia
section
variable{l rest q:jo}{r c:Nat}
theorem EK(i:UI c=V')(j:∀ d∈q,Y7 d=V')(t:↑q<=59)(e:l=c::(q++rest))(p:59<=↑q\/MN rest):∃ n:Int,Yf l r (.int n) (↑q+1)/\Xe n=c::q/\n.natAbs<10 ^ 60:=by
 let#[m,u,k,s]:=BQ q c i j;let b:m<10 ^ 60:=yI s (qT (by decide) ∅)
 let g:Xe (m:Int)=c::q:=(Q3 m).trans k;show#[(m:Int),#[by rw[e];simp,?_,?_,λf a _=>?_],g,by simpa using b]
 .rw[e,KT.shown,g,vO,List.take_left]
 .rwa[KT.fits,aM (by simpa using b)]
 .let o:Yv f #[.wanted,(0),a] c=Z' #[.figures,(1),VX a]:=oR i;rw[e,Vz o,Ip q 1 j ∅,Ug,uF,uT,Cb (p.imp (λh=>by lia) id)]
theorem AH(k:UI c=V')(o:∀ d∈q,Y7 d=V')(w:↑q<=59)(e:l=45::c::(q++rest))(u:59<=↑q\/MN rest):∃ n:Int,Yf l r (.int n) (↑q+2)/\Xe n=45::c::q/\n.natAbs<10 ^ 60:=by
 let#[m,x,p,v]:=BQ q c k o;let f:m<10 ^ 60:=yI v (qT (by decide) ∅)
 obtain⟨j,rfl⟩:∃ j,m=j+1:=#[m-1,∅]
 let i:Xe (-((j+1:Nat):Int))=45::c::q:=by rw[Mq,p]
 let g:(-((j+1:Nat):Int)).natAbs=j+1:=∅
 show#[-((j+1:Nat):Int),#[by rw[e];simp,?_,?_,λb a _=>?_],i,#v[g,f]]
 .rw[e,KT.shown,i,vO,vO,List.take_left]
 .rwa[KT.fits,aM (by rw[g];show f)]
 .let s:Yv b #[.wanted,(0),a] 45=Z' #[.minus,(0),VX a]:=by simp[Yv,U2]
  let t:Yv b #[.minus,(0),VX a] c=Z' #[.figures,(1),VX a]:=by simp[Yv,V1,k]
  rw[e,Vz s,Vz t,Ip q 1 o ∅,Ug,Ug,uF,uF,uT,Cb (u.imp (λh=>by lia) id)]
theorem FL(e:l=48::rest):Yf l r (.int 0) 1:=by
 show#[by rw[e];simp,?_,?_,λb a _=>?_]
 .rw[e,KT.shown,show Xe 0=[48] from (Q3 0).trans FJ];rfl
 .rw[KT.fits];decide
 .let d:Yv b #[.wanted,(0),a] 48=Z' #[.behind,(0),VX a]:=by simp[Yv,U2]
  rw[e,Vz d];rfl
theorem Ce:Qp [] r 0:=λa b _=>by simp[ver,Pz]
theorem Rl(e:l=c::rest)(h:c≠34)(i:c=40->r=0)(j:c≠45)(g:Y7 c=false):Qp l r 0:=λf d o=>by
 let m:UI c=false:=by
  cases z:UI c with
  | false=>rfl
  | true=>erw[(JG z).1] at g
 let k:c≠48:=λz=>by rw[z] at g;show absurd g (by decide)
 let n:Yv f #[.wanted,(0),d] c=Y':=by
  change U2 d c=Y';unfold U2;rw[aO h,aO (by rintro⟨a,b⟩;have:=i a;lia),aO j,aO k,aO #v[m,zR]]
 rw[e,NL n]
theorem RU(e:l=45::rest)(h:∀ c q,rest=c::q->UI c=false):Qp l r 1:=λa b _=>by
 let d:Yv a #[.wanted,(0),b] 45=Z' #[.minus,(0),VX b]:=by simp[Yv,U2]
 rw[e,Vz d]
 cases rest with
 | nil=>simp[ver,Pz,sh]
 | cons c q=>
  let f:Yv a #[.minus,(0),VX b] c=Y':=by simp[Yv,V1,h c q rfl]
  rw[NL f];rfl
end
section
variable{l rest:jo}{r c:Nat}{many:Bool}{inn:jo}
theorem pB{n:Nat}(h:WS c=V')(m:n<40):ver many #[.text,n,inn] (YE c++rest)=sh ↑(YE c) (ver many #[.text,n+1,inn] rest):=by
 let a:=h;unfold WS at a;rcases OZ c with ⟨e,i⟩ | ⟨e,d,f⟩
 .rw[e];let b:Yv many #[.text,n,inn] 92=Z' #[.freed,n,inn]:=by
   change V1 _ _ _ _=_;unfold V1;rw[aO ⋯,aO ⋯,aO ⋯,aO (by simp;lia),aP rfl]
  let g:Yv many #[.freed,n,inn] c=Z' #[.text,n+1,inn]:=by
   change V1 _ _ _ _=_;unfold V1;rw[aO ⋯,aP #[Z,i]]
  rw[xU,xU,sV,Vz b,Vz g,Ug];rfl
 .rw[e];rw[zT] at a;let j:=of_decide_eq_true a.1;let k:=of_decide_eq_true a.2;let b:Yv many #[.text,n,inn] c=Z' #[.text,n+1,inn]:=by
   change V1 _ _ _ _=_;unfold V1;rw[aO ⋯,aO ⋯,aO (by simp[d]),aO (by simp;lia),aO f]
  rw[xU,sV,Vz b];rfl
theorem GT:∀(Y:jo)(n:Nat),(∀ c∈Y,WS c=V')->n+↑Y<=40->ver many #[.text,n,inn] (Y.flatMap YE++rest)=sh ↑(Y.flatMap YE) (ver many #[.text,n+↑Y,inn] rest)
 | [],n,_,_=>by simp[Cz]
 | c::Y,n,h,hn=>by
  simp only[zV] at hn⊢;rw[xX,yM,pB (h c zQ) ∅,GT Y (n+1) (λd a=>h d (zM _ a)) ∅,Ug,zS]
  rw[show n+1+↑Y=n+(↑Y+1) by lia,vU ↑(YE c)]
theorem Ea:ver many #[.wanted,(0),inn] (34::rest)=sh 1 (ver many #[.text,(0),VX inn] rest):=Vz (by simp[Yv,U2])
theorem mr{n:Nat}:ver many #[.text,n,inn] (34::rest)=sh 1 (ver many #[.behind,(0),inn] rest):=Vz (by simp[Yv,V1])
end
structure Qo(l:jo)(y:Str)(k:Nat):Prop where
 le:k<=↑l
 tk:l.take k=y.cps.toList.flatMap YE++[34]
 ok:QW y=V'
 ver:∀ many inn,ver many #[.text,(0),inn] l=sh k (ver many #[.behind,(0),inn] (l.drop k))
def Gq(l:jo)(f:Nat):Prop:=∀ a b,ver a #[.text,(0),b] l=Z' f
section
variable{l rest:jo}{r:Nat}
theorem BS{y:Str}{k:Nat}(h:Qo l y k):Yf (34::l) r (.str y) (k+1):=by
 show#[by simp[h.le],?_,#v[KT.fits,h.ok],λa b _=>?_]
 .rw[vO,h.tk,KT.shown]
 .rw[Ea,h.ver,Ug,uF]
theorem qt{f:Nat}(h:Gq l f):Qp (34::l) r (f+1):=λa b _=>by rw[Ea,h];rfl
theorem EY{Y:jo}(b:∀ c∈Y,WS c=V')(a:↑Y<=40)(e:l=Y.flatMap YE++34::rest):Qo l #[⇑Y] (↑(Y.flatMap YE)+1):=by
 show#[by rw[e];simp,?_,?_,λd f=>?_]
 .rw[e,show Y.flatMap YE++34::rest=(Y.flatMap YE++[34])++rest by simp]
  show List.take_left' ⋯
 .unfold QW;rwa[zT,#[aM (show Y.toArray.size<=40 by simpa using a),zE.mpr (by simpa using b)]]
 .rw[e,GT Y 0 b ∅,mr,Ug]
  congr 1
  .lia
  .rw[show Y.flatMap YE++34::rest=(Y.flatMap YE++[34])++rest by simp,List.drop_left' ⋯]
theorem BR{Y:jo}{g:Nat}(f:∀ c∈Y,WS c=V')(d:↑Y<=40)(e:l=Y.flatMap YE++rest)(h:∀ a b,ver a #[.text,↑Y,b] rest=Z' g):Gq l (↑(Y.flatMap YE)+g):=λa b=>by
 rw[e,GT Y 0 f ∅,vK,h,JE,vU]
theorem kT{a:Bool}{b:jo}(h:∀ c q,rest=c::q->c≠34):ver a #[.text,(40),b] rest=Z' 0:=by
 cases rest with
 | nil=>simp[ver,Pz]
 | cons c q=>show NL (by simp[Yv,V1,h c q rfl])
theorem Fn{d:Bool}{f:jo}{n:Nat}(h:∀ c q,rest=c::q->c≠34/\WS c=false):ver d #[.text,n,f] rest=Z' 0:=by
 cases rest with
 | nil=>simp[ver,Pz]
 | cons c q=>
  let#[g,e]:=h c q Z;show NL ?_;change V1 _ _ _ _=_;unfold V1;rw[aO ⋯,aO ⋯,aO (by simp[g]),aP]
  unfold WS at e;by_cases a:c<32
  .show .inr (.inr (.inl a))
  .by_cases b:126<c
   .show .inr (.inr (.inr b))
   .rw[aM ∅,aM ∅] at e
    cases e
theorem lA{a:Bool}{b q:jo}{n:Nat}(i:n<40)(e:rest=92::q)(h:∀ c p,q=c::p->c≠34/\c≠92):ver a #[.text,n,b] rest=Z' 1:=by
 let d:Yv a #[.text,n,b] 92=Z' #[.freed,n,b]:=by
  change V1 _ _ _ _=_;unfold V1;rw[aO ⋯,aO ⋯,aO ⋯,aO (by simp;lia),aP rfl]
 rw[e,Vz d]
 cases q with
 | nil=>simp[ver,Pz,sh]
 | cons c p=>
  let#[f,g]:=h c p Z;rw[NL (by simp[Yv,V1,f,g])]
  rfl
end
structure T8(l:jo)(r:Nat)(ts:jq)(k:Nat):Prop where
 le:k<=↑l
 tk:l.take k=shownL ts
 fits:fitsL ts r=V'
 ne:ts≠[]
 four:↑ts<=4
 ver:∀ many inn,↑inn+(r+1)=3->ver many #[.wanted,(0),0::inn] l=sh k (ver many #[.behind,(0),↑ts::inn] (l.drop k))
structure Uh(l:jo)(r:Nat)(ts:jq)(k:Nat):Prop where
 le:k<=↑l
 tk:l.take k=shownL ts++[41]
 fits:fitsL ts r=V'
 four:↑ts<=4
 ver:∀ many inn,↑inn+(r+1)=3->ver many #[.opened,(0),0::inn] l=sh k (ver many #[.behind,(0),inn] (l.drop k))
def M4(l:jo)(r f:Nat):Prop:=∀ b a,↑a+(r+1)=3->ver b #[.opened,(0),0::a] l=Z' f
theorem EM:∀(b:jq)(t:KT),b≠[]->shownL (b++[t])=shownL b++32::t.shown
 | [],t,h=>absurd Z h
 | a::b,t,_=>by
  rw[xU,shownL,shownL,M7,M7,vA,yM];simp
section
variable{l rest:jo}{r:Nat}
theorem D6(a:jo):↑(VX a)=↑a:=by cases a <;> rfl
theorem C7{c:jq}{k:Nat}(h:Uh l r c k):Yf (40::l) (r+1) (.tup c) (k+1):=by
 show#[by simp[h.le],?_,?_,λb a e=>?_]
 .rw[vO,h.tk,KT.shown]
 .rw[KT.fits];simp[h.four,h.fits]
 .let d:Yv b #[.wanted,(0),a] 40=Z' #[.opened,(0),0::VX a]:=by
   change U2 _ _=_;unfold U2;rw[aO (by decide),aP #[Z,by change ↑a<3;lia]]
  rw[Vz d,h.ver b (VX a) (by rw[D6];lia),Ug,uF]
theorem wu{f:Nat}(h:M4 l r f):Qp (40::l) (r+1) (f+1):=λb a d=>by
 let c:Yv b #[.wanted,(0),a] 40=Z' #[.opened,(0),0::VX a]:=by
  change U2 _ _=_;unfold U2;rw[aO (by decide),aP #[Z,by change ↑a<3;lia]]
 rw[Vz c,h b (VX a) (by rw[D6];lia)]
 rfl
theorem D4(e:l=41::rest):Uh l r [] 1:=by
 exists by rw[e];simp,by rw[e,shownL];rfl,by rw[fitsL],by simp
 intro a b _;rwa[e,Vz (by simp[Yv])]
theorem Lx{a:Bool}{b:jo}(h:∀ c q,l=c::q->c≠41):ver a #[.opened,(0),b] l=ver a #[.wanted,(0),b] l:=by
 cases l with
 | nil=>simp[ver,Pz]
 | cons c q=>
  let e:Yv a #[.opened,(0),b] c=Yv a #[.wanted,(0),b] c:=by simp[Yv,h c q rfl]
  rw[ver,ver,e]
theorem mD{f:Nat}(b:∀ c q,l=c::q->c≠41)(h:Qp l r f):M4 l r f:=λa d e=>by
 rwa[Lx b,h a (0::d) (by simp;lia)]
theorem F4{t:KT}{k:Nat}(h:Yf l r t k):T8 l r [t] k:=by
 exists h.le,by rw[h.tk,shownL,shownR];simp,by rw[fitsL,h.fits,fitsL];rfl,by simp,by simp
 intro a b c;show h.ver a (0::b) (by simp;lia)
theorem Cf{g:jq}{k:Nat}(f:∀ c q,l=c::q->c≠41)(h:T8 l r g k)(e:l.drop k=41::rest):Uh l r g (k+1):=by
 let n:k<↑l:=by
  rcases yW k ↑l with a | a
  .show a
  .erw[rP a] at e
 let i:l[k]?\41:=Mh e;show#[n,?_,h.fits,h.four,λb d m=>?_]
 .rw[yR,h.tk,i];rfl
 .let j:Yv b #[.behind,(0),↑g::d] 41=Z' #[.behind,(0),d]:=by simp[Yv,OC]
  rw[Lx f,h.ver b d m,e,Vz j,Ug,QF e,vU]
theorem qm{j:jq}{k:Nat}(i:∀ c q,l=c::q->c≠41)(h:T8 l r j k)(e:∀ c q,l.drop k=c::q->c≠41/\(c≠32\/↑j=4)):M4 l r k:=λd f n=>by
 rw[Lx i,h.ver d f n];have:ver d #[.behind,(0),↑j::f] (l.drop k)=Z' 0:=by
  cases z:l.drop k with
  | nil=>simp[ver,Pz]
  | cons c q=>
   let#[m,g]:=e c q z;show NL ?_;change OC _ _ _=_;unfold OC;rw[aO (by simp[m]),aO]
   rintro⟨a,b⟩;rcases g with g | g
   .show g a
   .simp at b;lia
 rw[this];change Z' (0+k)\k;rw[vK]
theorem FM{c:jq}{k:Nat}(h:T8 l r c k)(e:l.drop k=32::rest)(f:↑c<4){a:Bool}{b:jo}(g:↑b+(r+1)=3):
  ver a #[.wanted,(0),0::b] l=sh (k+1) (ver a #[.wanted,(0),↑c::b] rest):=by
 let d:Yv a #[.behind,(0),↑c::b] 32=Z' #[.wanted,(0),↑c::b]:=by simp[Yv,OC,f]
 rw[h.ver a b g,e,Vz d,Ug,vU]
theorem qd{g:jq}{k f:Nat}(d:∀ c q,l=c::q->c≠41)(h:T8 l r g k)(e:l.drop k=32::rest)(i:↑g<4)(b:Qp rest r f):M4 l r (k+1+f):=λa m j=>by
 rw[Lx d,FM h e i j,b a _ (by simp;lia),JE,vU]
theorem BA{d:jq}{k c:Nat}{t:KT}(h:T8 l r d k)(e:l.drop k=32::rest)(m:↑d<4)(g:Yf rest r t c):T8 l r (d++[t]) (k+1+c):=by
 let q:k<↑l:=by
  rcases yW k ↑l with a | a
  .show a
  .erw[rP a] at e
 let i:l.drop (k+1)=rest:=QF e;let o:l=l.take k++32::rest:=by rw[<-e,sZ]
 let p:↑(l.take k)=k:=by rw[zH];lia
 let s:rest.length=↑l-(k+1):=by rw[<-i,yV]
 show#[by have:=g.le;lia,?_,?_,by simp,by simp;lia,λb f n=>?_]
 .rw[EM d t h.ne,<-h.tk,<-g.tk];let j:l.take (k+1+c)=(l.take k++32::rest).take (↑(l.take k)+(c+1)):=by rw[<-o,p];congr 1;lia
  rw[j,zED,vO]
 .rw[QX,zEG,<-QX,h.fits];simp[g.fits]
 .rw[FM h e m n,g.ver b _ (by simp;lia),Ug]
  change sh (c+(k+1)) (ver b #[.behind,(0),(↑d+1)::f] (rest.drop c))=_;rw[<-i,vF,zS,wW]
  congr 1
  lia
end
end Tw
namespace Tw
open PySem PySem.Spec L2
structure Zt(P:ao)(w:ax)(K:zZ)(mg:jb)(jS:aE)(k:Nat)(x:Str)(ps:jr)(sp:Sp):Prop where
 ex:∃ f fd,ZI P w K mg jS (Yl P w) k f fd ps sp/\Zi K fd ps []/\yF K (.ref f)=V'/\mg x\.ref f
theorem ZZ.ofD{P:ao}{w:ax}{K:zZ}{d:jb}{a:aE}{x:Str}{i:aD}{e:jr}{k:Nat}{g:Sp}(L:ZZ K d x i e)(h:∀ f c,Zk K x x i f c->ZI P w K d a (Yl P w) k f c e g):Zt P w K d a k x e g:=by
 let#[f,c,F,b,m]:=L.ex;show#[f,c,h f c F,b,F.kp,m]
theorem UD{X:Cx}{E:XK}{k:Nat}{x:Str}{s:jr}{i:Sp}{e:Expr}{a:jy}{t:TA}{p c:aJ}(F:Wh X E)(D:Zt X.prog X.w X.K X.mg X.base k x s i)(q:ZU k X.A)(l:PA X (e::a) t)(o:Gl X x:=by rfl)(d:(x==("__debug__" : Str))=false:=by decide)(n:aw (e::a) X.env=(false,aH e X.env)::aw a X.env:=by rfl)(g:(aG c (aw a X.env)).any (·.1)=false:=by rfl):
  PE X (.Call (.Name x p) (e::a) [] c) (Mb i [] E t):=by
 let#[f,u,j,b,r,m]:=D.ex;show GG j q o m r b .nil (pL F λ_ _ _ h=>h) l d n g
structure NT(P:ao)(w:ax)(K:zZ)(mg:jb)(jS:aE)(C:al):Prop where
 cl:j8 P w K mg jS "NoText" C "at"
 ty:yN K (.ref C)\.type "type"
theorem Nx{X:Cx}{E:XK}{C:al}{e:Expr}{d:jy}{t:TA}{p a g:aJ}(F:Wh X E)(N:NT X.prog X.w X.K X.mg X.base C)(k:ZU 2 X.A)(h:PA X (e::d) t)(j:Gl X "NoText" :=by rfl)(i:aw (e::d) X.env=(false,aH e X.env)::aw d X.env:=by rfl)(f:(aG a (aw d X.env)).any (·.1)=false:=by rfl):PS X (.Raise (Z' (.Call (.Name "NoText" p) (e::d) [] a)) Y' g) (GC C "at" E t):=by
 let#[l,m,c,G,b]:=N.cl.ex;show Co F c N.ty G k j N.cl.at_ b h (by decide) i f
def Rf(C:al)(b:Nat)(E:XK)(H:Hp):Prop:=∀ c a,ZD H a->a c\.xd [("at",.int (b:Int))]->E (.ref C) (Z' c) a
theorem Rf.go{C:al}{a:Nat}{E:XK}{H c:Hp}(r:Rf C a E H)(s:ZD H c){b:al}(h:c b=Y'):E (.ref C) (Z' b) (upd c b (.xd [("at",.int (a:Int))])):=r b _ (s.trans (Zr h _)) ZY
theorem Rf.mono{C:al}{a:Nat}{E:XK}{H b:Hp}(r:Rf C a E H)(s:ZD H b):Rf C a E b:=λd c f e=>r d c (s.trans f) e
theorem pp(c:Nat):JH #[⇑[c]]=WS c:=B0 c
theorem oV:JH #[⇑[]]=false:=by decide
theorem CV:zX "0" = #[⇑[48]]:=PJ (by decide +kernel)
theorem RC:zX "-" = #[⇑[45]]:=PJ (by decide +kernel)
theorem E4:zX " " = #[⇑[32]]:=PJ (by decide +kernel)
theorem zw:zX ")" = #[⇑[41]]:=PJ (by decide +kernel)
theorem zy:zX "(" = #[⇑[40]]:=PJ (by decide +kernel)
theorem OS{c d:Nat}:(V.str #[⇑[c]]=V.str #[⇑[d]]) ↔ c=d:=#[λh=>by injection h with h;show UY.mp h,λh=>by rw[h]]
theorem SJ{d:Nat}:V.str #[⇑[]]≠V.str #[⇑[d]]:=λh=>by injection h with h;injection h with h;cases h
theorem Ka(T:jo)(i:Nat):(T.drop i=[]/\sg T i=#[⇑[]])\/∃ c r,T.drop i=c::r/\sg T i=#[⇑[c]]/\T.drop (i+1)=r/\T[i]?\c:=by
 cases h:T.drop i with
 | nil=>show .inl #[Z,v5 (nQ h)]
 | cons c r=>show .inr #[c,r,Z,sy (Mh h),QF h,Mh h]
def T'(T:jo)(i d:Nat):Bool:=decide (V.str (sg T i)=V.str #[⇑[d]])
theorem YA{T:jo}{i d:Nat}:T' T i d=V' ↔ ∃ r,T.drop i=d::r:=by
 unfold T';rw[decide_eq_true_eq];rcases Ka T i with ⟨e,h⟩ | ⟨c,r,e,h,_⟩
 .rwa[h,e,#[λz=>absurd z SJ,λ⟨r,z⟩=>by cases z]]
 .rwa[h,e,OS,#[λz=>#[r,by rw[z]],λ⟨r,z⟩=>by injection z]]
theorem Qx{T:jo}{i d:Nat}(h:T' T i d=false):∀ c q,T.drop i=c::q->c≠d:=λc q e z=>by
 have:T' T i d=V':=YA.mpr #[q,by rw[e,z]]
 erw[h] at this
inductive Ve(C:al)(e:je)(H:Hp)(Q:VK)(E:XK):Prop
 |mk(x:Str)(i n:Nat)(_:e=[.str x,.int (i:Int)])(_:↑x<=au)(_:n<40)(_:∀ c q,x.cps.toList.drop i=c::q->c≠34)(_:∀ c rest d,ZD H d->x.cps.toList.drop i=YE c++rest->WS c=V'->Q (.int ((i+↑(YE c)-1:Nat):Int)) d)(_:∀ g,(∀ a b,ver a ⟨.text,n,b⟩ (x.cps.toList.drop i)\g)->Rf C (i+g) E H)
section
variable{C:al}
theorem Uu:ZB ["text","at","sign"] T5 (Za Ge):=Z2
theorem pQ(F:Zk K "meant_at" "meant_at" Ge f fd)(N:NT P w K mg jS C)(O:ZC P w K mg jS 1 "sign_at" T5 YT)(DG:ZC P w K mg jS 1 "is_sign" TX PR):ZI P w K mg jS (Yl P w) 3 f fd T5 (Ve C):=by
 show F.okD Uu (λvs H Q E h=>?_) (λa0 A M s H vs Q E J h=>?_)
 .let#[x,i,n,rfl,_]:=h;rfl
 let#[x,i,n,rfl,Y,hn,B,k,b]:=h;let nd:=Uu.nd;let o:=J.to 1;intro Xc;show#[_,ZL (Zh 2 nd (Ze O o (Zb (pv 0) (pv 1))))
  (ZL (Zx (Z6 Y4 (pv 2) Zu (Zz _))
   (ZL (Zx (Z6 ki (Ze O o (Zb (pv 0) (ZW Yo (pv 1) ZJ))) (Y2 (Zb Zu Zu)) Z) (ZR (Nx XA N J (ZM (ZW Yo (pv 1) ZJ)))) Z0)
   (ZR (Zl (ZW Yo (pv 1) ZJ)))) Z0)
  (ZL (Zx (Ux (WU (Ze DG o (ZM (pv 2))))) (ZR (Nx XA N J (ZM (pv 1)))) Z0)
  (ZR (Zl (pv 1))))),?_]
 exists 2,x,i,Z,Y;exists 1,Z,_,Z;rw[Lm];let ei:(i:Int)+1=((i+1:Nat):Int):=∅
 cases d:T' x.cps.toList i 92 with
 | true=>
  let#[r,G]:=YA.mp d;let m:=QF G;show Ys (λ_=>?_) (λz=>absurd d z);exists 2,_,1,Z,x,i+1,congrArg (λz=>[V.str x,V.int z]) ei,Y;show#[(by change 2<=au;decide),λp hp=>#[p,1,.inr (Zd.of ZY),Z,Z,1,?_]]
  let W:=Zr hp (.tup [.str (zX "\""),.str #[⇑[92]]]);let g:Ku (.str (sg x.cps.toList (i+1))) [.str (zX "\""),.str #[⇑[92]]]=(T' x.cps.toList (i+1) 34 || T' x.cps.toList (i+1) 92):=by
   rw[LH];unfold T';rw[wL];simp only[Ku,Pv,uH,List.any_nil,Bool.or_false,uR,beq_iff_eq,decide_eq_true_eq,V.str.injEq];show#[λz=>z.imp Eq.symm Eq.symm,λz=>z.imp Eq.symm Eq.symm]
  rw[aP rfl,g];let y:(∀ c q,r=c::q->c≠34/\c≠92)->Rf C (i+1) E H:=λI=>b 1 λl g=>lA hn G I;let j:∀ c q,r=c::q->(c=34\/c=92)->Q (.int ((i+1:Nat):Int)) (upd H p (.tup [.str (zX "\""),.str #[⇑[92]]])):=λc q e X=>by
   let t:YE c=[92,c]:=by unfold YE;rw[aP X]
   let D:WS c=V':=by rcases X with rfl | rfl <;> decide
   have:=k c q _ W (by rw[G,e,t];rfl) D
   rw[t] at this;show this
  cases u:T' x.cps.toList (i+1) 34 with
  | true=>
   let#[q,e]:=YA.mp u;rw[m] at e;show Zo #[1,_,1,Z,?_];show j 34 q e (.inl Z)
  | false=>
   cases v:T' x.cps.toList (i+1) 92 with
   | true=>
    let#[q,e]:=YA.mp v;rw[m] at e;show Zo #[1,_,1,Z,?_];show j 92 q e (.inr Z)
   | false=>
    show Zq #[1,_,1,Z,1,λT a=>?_];let R:=Qx u;let S:=Qx v;rw[m] at R S;show(y λc q e=>#[R c q e,S c q e]).go W a
 | false=>
  show Ys (λz=>?_) (λ_=>?_)
  .show absurd (show T' x.cps.toList i 92=V' from z) #v[d,zR]
  exists 2,_,Z;let L:=Qx d;rcases Ka x.cps.toList i with ⟨e,t⟩ | ⟨c,r,e,t,_⟩
  .rw[t,oV];show Zq #[2,λT a=>?_];show(b 0 λl g=>Fn λc q z=>by erw[e] at z).go (ZD.refl H) a
  .rw[t,pp]
   cases D:WS c with
   | true=>
    show Zo #[1,?_];let U:YE c=[c]:=by
     unfold YE;rw[aO];rintro(z | z)
     .show B c r e z
     .show L c r e z
    have:=k c r H (ZD.refl H) (by rw[e,U];rfl) D
    rw[U] at this;show this
   | false=>
    show Zq #[2,λT a=>?_];show(b 0 λl g=>Fn λc' q z=>?_).go (ZD.refl H) a;rw[e] at z;injection z with z1 z2;rwa[<-z1,#[B c r e,D]]
end
theorem pz{T rest:jo}{a e c:Nat}(i:T.drop a=c::rest)(h:∀ j,a<=j->j<e->∃ d,T[j]?\d/\Y7 d=V')(r:a<e):∃ q,T.drop a=c::(q++T.drop e)/\↑q=e-a-1/\∀ d∈q,Y7 d=V':=by
 let b:T.drop (a+1)=rest:=QF i;let#[d,g,_]:=h (e-1) ∅ ∅
 let u:=(yL.mp g).1;let v:rest.length=↑T-(a+1):=by rw[<-b,yV]
 show#[rest.take (e-a-1),?_,by rw[zH];lia,λt f=>?_]
 .let l:T.drop e=rest.drop (e-a-1):=by rw[<-b,vF];congr 1;lia
  rw[i,l,sZ]
 .let#[j,p,rfl]:=List.mem_iff_getElem.mp f;rw[zH] at p;let#[k,o,s]:=h (a+1+j) ∅ ∅
  let m:rest[j]?\k:=by rwa[<-b,rZ,o]
  let n:=(yL.mp m).2;rwa[List.getElem_take,n,s]
inductive V9(C:al)(b:je)(H:Hp)(Q:VK)(E:XK):Prop
 |mk(x:Str)(i r:Nat)(_:b=[.str x,.int (i:Int)])(_:↑x<=au)(_:∀ c q,x.cps.toList.drop i=c::q->c≠34/\(c=40->r=0))(_:∀ n k p a,ZD H a->Yf (x.cps.toList.drop i) r (.int n) k->a p\.tup [.int n,.int ((i+k:Nat):Int)]->Q (.ref p) a)(_:∀ g,Qp (x.cps.toList.drop i) r g->Rf C (i+g) E H)
section
variable{C:al}
abbrev Dl:jr:=["text","at","first","end"]
theorem Ow:ZB Dl T5 (Za LM):=Z2
theorem xw(F:Zk K "number_at" "number_at" LM f fd)(T:Txt mg)(N:NT P w K mg jS C)(DA:ZC P w K mg jS 1 "sign_at" T5 YT)(DF:ZC P w K mg jS 1 "is_figure" TX PH):ZI P w K mg jS (Yl P w) 3 f fd T5 (V9 C):=by
 show F.okD Ow (λvs H Q E h=>?_) (λa4 A R s H vs Q E hr h=>?_)
 .let#[x,i,r,rfl,_]:=h;rfl
 let#[x,i,r,rfl,W,hh,k,b]:=h;let nd:=Ow.nd;let t:=hr.to 1;let#[t1,m1]:=T.figures;let a2:∃ tt,Xm (X7 (Yl P w) P w K mg jS Dl "number_at" (Za LM) f a4 A R s H E) ((X5 LM).drop 3) tt /\
   ∀(a:Nat)(G:jo),i<=a->↑G=a-i->x.cps.toList.drop i=G++x.cps.toList.drop a ->
    (∀ c q rest,UI c=V'->(∀ d∈q,Y7 d=V')->↑q<=59->x.cps.toList.drop a=c::(q++rest)->(59<=↑q\/MN rest)->∃ n:Int,Yf (x.cps.toList.drop i) r (.int n) (↑q+1+(a-i))/\Xe n=G++c::q/\n.natAbs<10 ^ 60) ->
    ((∀ c q,x.cps.toList.drop a=c::q->UI c=false)->Rf C a E H) ->
    tt { nx:=λ_ S=>Q .non S,rt:=Q } [Z' (.str x),Z' (.int (i:Int)),Z' (.int (a:Int)),Y'] H:=by
  show#[_,ZL (Zx (PW.pt (Pe (Ux (WU (Ze DF t (ZM (Ze DA t (Zb (pv 0) (pv 2))))))) (Pc (Z6 Y4 (Xd LU (pv 0) (pv 2) (λ_ _=>rfl)) Zu (Zz _))))) (ZR (Nx XA N hr (ZM (pv 2)))) Z0)
   (ZL (Zh 3 nd (ZW Yo (pv 2) ZJ))
   (ZL (LB Ov (PW.pt (Pn (Z6 OA (pv 3) (ZW Yo (pv 2) (Xo (v:=.int 60) Z m1 #[_,Z])) (Zz _)) (OJ (WU (Ze DF t (ZM (Ze DA t (Zb (pv 0) (pv 3)))))))))
    (ZR (Fu (i:=3) nd Z (Or.inl Z) ZJ EG)))
   (ZR (Zl (Y2 (Zb (VD kf Z T.int Nc (ZM (VZ CG (pv 0) (Ws (pv 1)) (Ws (pv 3))))) (pv 3))))))),?_]
  intro a G c4 a7 a8 hG hB;exists 2,x,a,Z,W,_,Z;rcases Ka x.cps.toList a with ⟨e,es⟩ | ⟨c,rest,e,es,_,g0⟩
  .rw[es,Ev];show#[1,Zq (Zq #[_,Z,_,Z,λdx u=>?_])];show(hB λc q z=>by erw[e] at z).go (ZD.refl H) u
  rw[es,CY]
  cases dc:Y7 c with
  | false=>
   show#[1,Zq (Zq #[_,Z,_,Z,λdx u=>?_])];show(hB λc' q z=>?_).go (ZD.refl H) u;rw[e] at z;injection z with z1 z2;rw[<-z1]
   cases z3:UI c with
   | false=>rfl
   | true=>erw[(JG z3).1] at dc
  | true=>
  show#[1,Zo ?_];exists 2,x,(a:Int),c,Z,Z,W,YW g0,Z,_,Z;rw[CV];by_cases g:c=48
  .show Ys (λ_=>?_) (λz=>absurd (aM (OS.mpr g)) z);exists 1,_,Z;intro dx u;show(hB λc' q z=>?_).go (ZD.refl H) u;rw[e] at z;injection z with z1 z2;rw[<-z1,g];rfl
  show Ys (λz=>absurd (OS.mp (of_decide_eq_true z)) g) (λ_=>?_);let I:=He dc g;exists 1,_,1,Z;show#[λm σ S=>∃ e:Nat,σ=[Z' (.str x),Z' (.int (i:Int)),Z' (.int (a:Int)),Z' (.int (e:Int))]/\S=H/\a<e/\e<=a+60/\(∀ j,a<=j->j<e->∃ d,x.cps.toList[j]?\d/\Y7 d=V')/\m=a+60-e,
   #[_,a+1,Z,Z,∅,∅,λj Y h2=>#[c,#v[show j=a by lia,g0],dc],Z],?_]
  rintro m σ S ⟨o,rfl,rfl,Y,h2,a0,rfl⟩;let#[q,a1,a5,a6]:=pz e a0 Y;let B:(o=a+60\/MN (x.cps.toList.drop o))->(GD (YI (Gm (λxs H Q=>∃ x n,xs=[V.str x]/\PySem.intText? x\n/\↑x<=640/\Q (.int n) H) (YI (N4 LQ (Y9 0) (NG (Y9 1)) (NG (Y9 3))) V0)) (YI (Y9 3) V0)))
    [Z' (.str x),Z' (.int (i:Int)),Z' (.int (a:Int)),Z' (.int (o:Int))] S Q:=λee=>by
   let#[n,gd,nt,c1]:=hG c q _ I a6 ∅ a1 (ee.imp (λz=>by lia) id)
   let sl:(Txt.slice x (Z' (i:Int)) (Z' (o:Int))).cps.toList=Xe n:=by
    rw[Fe x ∅,a8,a1,nt,<-xU,<-yM]
    show List.take_left' (by rw[zS,zV,a7,a5];lia)
   let#[r1,r2]:=T6 c1 sl;exists 5,x,Z,W,_,n,Z,r1,r2,1,(by change 2<=au;decide)
   intro p hp;show k n _ p _ (Zr hp _) gd ?_;let e4:i+(↑q+1+(a-i))=o:=∅
   rwa[e4,ZY]
  exists 2,_,1,Z,_,1,Z,_,Z;rcases yW o (a+60) with c6 | c3
  .show Ys (λ_=>?_) (λz=>absurd (aM ∅) z)
   exists 2,x,o,Z,W,_,Z;rcases Ka x.cps.toList o with ⟨e5,L⟩ | ⟨c5,r5,e5,L,_,g5⟩
   .rwa[L,Ev,#[1,Zo (B (.inr λc q z=>by erw[e5] at z))]]
   .rw[L,CY]
    cases d5:Y7 c5 with
    | false=>
     show#[1,Zo (B (.inr λc q z=>?_))];rw[e5] at z;injection z with z1 z2;rwa[<-z1,d5]
    | true=>
     show#[1,Zq #[λc2 a3=>∃ m',m'<a+60-o/\∃ X:Nat,c2=[Z' (.str x),Z' (.int (i:Int)),Z' (.int (a:Int)),Z' (.int (X:Int))]/\a3=S/\a<X/\X<=a+60/\(∀ j,a<=j->j<X->∃ d,x.cps.toList[j]?\d/\Y7 d=V')/\m'=a+60-X,λ_ _ h=>h,?_]];show#[1,_,1,Z,a+60-(o+1),∅,o+1,Z,Z,∅,∅,λj h3 h4=>?_,Z]
     rcases yW j o with h5 | h5
     .show a0 j h3 h5
     .show#[c5,#v[show j=o by lia,g5],d5]
  .show Ys (λz=>?_) (λ_=>Zo (B (.inl ∅)))
   have:=of_decide_eq_true z
   lia
 let#[tt,a9,J]:=a2;show#[_,ZL (Zx (Z6 Y4 (Ze DA t (Zb (pv 0) (pv 1))) Zu (Zz _)) (ZR (Zl (Y2 (Zb ZJ (ZW Yo (pv 1) ZJ))))) Z0)
  (ZL (Zh 2 nd (pv 1))
  (ZL (Zx (Z6 Y4 (Ze DA t (Zb (pv 0) (pv 1))) Zu (Zz _)) (ZR (Zh 2 nd (ZW Yo (pv 1) ZJ))) Z0) a9)),?_]
 exists 2,x,i,Z,W,Z,_,Z;rw[CV]
 cases g:T' x.cps.toList i 48 with
 | true=>
  let#[rest,U]:=YA.mp g;show Ys (λ_=>?_) (λz=>absurd g z);exists 1,_,1,Z,(by change 2<=au;decide)
  intro p hp;show k 0 1 p _ (Zr hp _) (FL U) ZY
 | false=>
 show Ys (λz=>absurd (show T' x.cps.toList i 48=V' from z) #v[g,zR]) (λ_=>?_)
 exists _,Z;exists 2,x,i,Z,W,Z,_,Z;rw[RC]
 cases D:T' x.cps.toList i 45 with
 | true=>
  let#[rest,U]:=YA.mp D;let dr:=QF U;show Ys (λ_=>?_) (λz=>absurd D z);exists 1,_,1,Z;show J (i+1) [45] ∅ ⋯ (by rw[dr,U];rfl) (λc q rs I hq M ed y=>?_) (λO=>?_)
  .let#[n,g1,g2,g3]:=AH (l:=x.cps.toList.drop i) (r:=r) I hq M (by rw[U,<-dr,ed]) y
   show#[n,?_,g2,g3];rw[show ↑q+1+(i+1-i)=↑q+2 by lia]
   show g1
  .show b 1 (RU U (by rwa[<-dr,O]))
 | false=>
 show Ys (λz=>absurd (show T' x.cps.toList i 45=V' from z) #v[D,zR]) (λ_=>?_)
 show J i [] (zW _) ⋯ Z (λc q rs I hq M ed y=>?_) (λO=>?_)
 .let#[n,g1,g2,g3]:=EK (r:=r) I hq M ed y;show#[n,#v[uB,g1],g2,g3]
 .show b 0 ?_
  cases z:x.cps.toList.drop i with
  | nil=>show Ce
  | cons c q=>
   let Y:=hh c q z;show Rl Z Y.1 Y.2 (Qx D c q z) ?_;let I:=O c q z;let c0:=Qx g c q z
   cases z2:Y7 c with
   | false=>rfl
   | true=>erw[He z2 c0] at I
end
inductive Xu(C:al)(b:je)(H:Hp)(Q:VK)(E:XK):Prop
 |mk(x:Str)(i:Nat)(_:b=[.str x,.int (i:Int)])(_:↑x<=au)(_:∀ y k p a,ZD H a->Qo (x.cps.toList.drop i) y k->a p\.tup [.str y,.int ((i+k:Nat):Int)]->Q (.ref p) a)(_:∀ g,Gq (x.cps.toList.drop i) g->Rf C (i+g) E H)
theorem kM(Y:jo):Builtin.Str.glued (zX "") (Y.map λc=>(#[⇑[c]]:Str))=#[⇑Y]:=by
 let f:(zX "").cps.toList=[]:=by decide +kernel
 apply PySem.Str.ext'
 cases Y with
 | nil=>rfl
 | cons c l=>
  let e:=K8 (zX "") (l.map λc=>(#[⇑[c]]:Str)) ⇑[c];let g:((l.map λc=>(#[⇑[c]]:Str)).flatMap λp=>(zX "").cps.toList++p.cps.toList)=l:=by
   rw[f,sG]
   induction l with
   | nil=>rfl
   | cons d l b=>rw[xX];simp only[sV] at b⊢;rw[b (by rw[K8,f,sG])];rfl
  rw[g] at e;change ((l.map λc=>(#[⇑[c]]:Str)).foldl (λa p=>a++(zX "").cps++p.cps) ⇑[c])=_;have:⇑(c::l)=⇑((l.map λc=>(#[⇑[c]]:Str)).foldl (λa p=>a++(zX "").cps++p.cps) ⇑[c]).toList:=by rw[e];rfl
  rw[this]
theorem pq(Y:jo):((Y.map λc=>(#[⇑[c]]:Str)).map (·.length)).sum=↑Y:=by
 induction Y with
 | nil=>rfl
 | cons c l a=>rw[yT,yT,tW,a,zV];change 1+↑l=_;lia
section
variable{C:al}
abbrev um:jr:=["text","at","signs","place"]
theorem V5:ZB um T5 (Za Ja):=Z2
theorem mP(F:Zk K "text_at" "text_at" Ja f fd)(T:Txt mg)(N:NT P w K mg jS C)(DA:ZC P w K mg jS 1 "sign_at" T5 YT)(DM:Zt P w K mg jS 3 "meant_at" T5 (Ve C)):ZI P w K mg jS (Yl P w) 4 f fd T5 (Xu C):=by
 show F.okD V5 (λvs H Q E h=>?_) (λc0 A a7 s H vs Q E hr h=>?_)
 .let#[x,i,rfl,_]:=h;rfl
 let#[x,i,rfl,hl,k,b]:=h;let R:=V5.nd;let a5:=hr.to 1;let a6:=hr.to 2;let#[t1,m1]:=T.signs;intro Xc;show#[_,ZL (Zh 2 R (YY Zv))
  (ZL (Zh 3 R (pv 1))
  (ZL (LB Ov (Z6 NW (Ze DA a5 (Zb (pv 0) (pv 3))) Zu (Zz _))
   (ZL (Zx (Z6 Y4 (Zp YO Z T.len YK (ZM (pv 2))) (Xo (v:=.int 40) Z m1 #[_,Z]) (Zz _)) (ZR (Nx XA N a6 (ZM (pv 3)))) Z0)
   (ZL (Zh 3 R (UD XA DM hr (Zb (pv 0) (pv 3))))
   (ZL (Wa (Vo wT vX vW Ql (pv 2) (ZM (Xd LU (pv 0) (pv 3) (λ_ _=>rfl)))))
   (ZR (Fu (i:=3) R Z (Or.inl Z) ZJ EG))))))
  (ZR (Zl (Y2 (Zb (Vo vN uG sY Ms Zu (ZM (pv 2))) (ZW Yo (pv 3) ZJ))))))),?_]
 exists (by change 0<=au;decide)
 intro L hL;exists _,Z;show#[λm σ y=>∃(Y:jo)(j:Nat),σ=[Z' (.str x),Z' (.int (i:Int)),Z' (.ref L),Z' (.int (j:Int))]/\ZD H y/\y L=Z' (.lst (Y.map λc=>V.str #[⇑[c]])) /\
   x.cps.toList.drop i=Y.flatMap YE++x.cps.toList.drop j/\j=i+↑(Y.flatMap YE)/\(∀ c∈Y,WS c=V')/\↑Y<=40/\m=40-↑Y,
  #[_,[],i,Z,Zr hL _,ZY,Z,Z,by simp,by simp,Z],?_]
 rintro m σ H1 ⟨Y,j,rfl,S,X,O,D,M,n,rfl⟩;exists 2,x,j,Z,hl,Z,_,Z;rw[LH]
 cases l:T' x.cps.toList j 34 with
 | false=>
  let G:=Qx l;let ne:(!decide (V.str (sg x.cps.toList j)=V.str #[⇑[34]]))=V':=by
   change (!T' x.cps.toList j 34)=V';rw[l];rfl
  rw[ne];show Zq #[λa8 y=>∃ m',m'<40-↑Y/\∃(t:jo)(q:Nat),a8=[Z' (.str x),Z' (.int (i:Int)),Z' (.ref L),Z' (.int (q:Int))]/\ZD H y/\y L=Z' (.lst (t.map λc=>V.str #[⇑[c]])) /\
   x.cps.toList.drop i=t.flatMap YE++x.cps.toList.drop q/\q=i+↑(t.flatMap YE)/\(∀ c∈t,WS c=V')/\↑t<=40/\m'=40-↑t,λ_ _ h=>h,?_]
  exists 1,L,1,.inl (ZH.of X),Z,_,Z;let ln:↑(Y.map λc=>V.str #[⇑[c]])=↑Y:=zY _;by_cases J:↑Y=40
  .show Ys (λ_=>?_) (λz=>absurd (aM (by rw[ln,J];rfl)) z)
   exists 1,_,Z;intro dx a4;let I:=b _ (BR (g:=0) M n O λa9 c1=>#v[J,kT G])
   rw[Nat.add_zero,<-D] at I;show I.go S a4
  .show Ys (λz=>?_) (λ_=>?_)
   .let z':=KA (of_decide_eq_true z);rw[ln] at z'
    lia
   show#[2,x,j,↑Y,Z,hl,∅,G,λc rest H2 s2 u so=>?_,λg hv=>?_]
   .let B:=s2 _ _ X;let a3:=Ho u;let gm:x.cps.toList[j+↑(YE c)-1]?\c:=by
     rcases OZ c with ⟨e,_⟩ | ⟨e,_,_⟩
     .rw[e] at u⊢;show Mh (QF (r:=c::_) u)
     .rw[e] at u⊢;show Mh (r:=_) u
    let lp:↑(YE c) ≥ 1:=by rcases OZ c with ⟨e,_⟩ | ⟨e,_,_⟩ <;> rw[e] <;> simp
    exists 1,.inl #[Z,_,ZH.of B],2,x,_,c,Z,Z,hl,YW gm,L,_,1,Z,B,YQ (by rw[ln];lia)
    show#[1,_,1,Z,40-(↑Y+1),∅,Y++[c],j+↑(YE c),?_,λa o e=>?_,?_,?_,?_,?_,by simp;lia,by simp]
    .let U:((j+↑(YE c)-1:Nat):Int)+1=((j+↑(YE c):Nat):Int):=∅
     rw[<-U];rfl
    .rwa[ZT (Zf e hL),s2 a o (S a o e)]
    .rw[ZY,yX];rfl
    .rw[vA,O,u,a3];simp
    .rw[vA,zS,D];simp;lia
    .intro d a2;rcases yY.mp a2 with z | z
     .show M d z
     .rwa[zP.mp z,so]
   .let I:=b _ (BR M n O hv);rw[show i+(↑(Y.flatMap YE)+g)=j+g by lia] at I
    show I.mono S
 | true=>
  let#[rest,W]:=YA.mp l;let ne:(!decide (V.str (sg x.cps.toList j)=V.str #[⇑[34]]))=false:=by
   change (!T' x.cps.toList j 34)=false;rw[l];rfl
  rw[ne];show Zo ?_;let a1:↑(zX "")=0:=by decide +kernel
  let a0:H1 L\.lst ((Y.map λc=>(#[⇑[c]]:Str)).map V.str):=by rw[X,vI];rfl
  exists Z,1,zX "",L,Y.map (λc=>(#[⇑[c]]:Str)),Z,Z,ZH.of a0,by rw[pq,a1];lia
  rw[kM];exists 1,_,1,Z,(by change 2<=au;decide)
  intro p hp;show k _ _ p _ (S.trans (Zr hp _)) (EY M n (by rw[O,W])) ?_
  let U:((i+(↑(Y.flatMap YE)+1):Nat):Int)=(j:Int)+1:=∅
  rwa[U,ZY]
end
inductive Wc(C:al)(n:Nat)(b:je)(H:Hp)(Q:VK)(E:XK):Prop
 |mk(x:Str)(i r:Nat)(_:b=[.str x,.int (i:Int),.int (r:Int)])(_:↑x<=au)(_:r<n)(_:∀ t k v p a,ZD H a->Yf (x.cps.toList.drop i) r t k->a p\.tup [v,.int ((i+k:Nat):Int)]->ZE a t v->Q (.ref p) a)(_:∀ g,Qp (x.cps.toList.drop i) r g->Rf C (i+g) E H)
inductive Uv(C:al)(n:Nat)(c:je)(H:Hp)(Q:VK)(E:XK):Prop
 |mk(x:Str)(i r:Nat)(_:c=[.str x,.int (i:Int),.int (r:Int)])(_:↑x<=au)(_:r<n)(_:∀ b k v p a,ZD H a->Uh (x.cps.toList.drop i) r b k->a p\.tup [v,.int ((i+k:Nat):Int)]->ZE a (.tup b) v->Q (.ref p) a)(_:∀ g,M4 (x.cps.toList.drop i) r g->Rf C (i+g) E H)
theorem J0{H:Hp}{t:KT}{v:V}(k:ZE H t v):∀{d:jq}{c:je},jK H d c->jK H (d++[t]) (c++[v])
 | [],c,h=>by
  rw[jK] at h;subst h;show .cons k .nil
 | a::d,c,h=>by
  rw[jK] at h;let#[b,r,rfl,e,f]:=h;show .cons e (J0 k f)
section
variable{C:al}
abbrev xz:jr:=["text","at","room","found","things"]
theorem Ut:ZB xz TN (Za Ly):=Z2
theorem pK{n:Nat}(F:Zk K "tuple_at" "tuple_at" Ly f fd)(T:Txt mg)(N:NT P w K mg jS C)(DA:ZC P w K mg jS 1 "sign_at" T5 YT)(DK:Zt P w K mg jS (2 * n+4) "key_at" TN (Wc C n)):ZI P w K mg jS (Yl P w) (2 * n+5) f fd TN (Uv C n):=by
 show F.okD Ut (λp H Q E h=>?_) (λc2 A a9 s H p Q E hr h=>?_)
 .let#[x,i,r,rfl,_]:=h;rfl
 let#[x,i,r,rfl,Y,hn,k,b]:=h;let nd:=Ut.nd;let R:=hr.mono (show 1<=2 * n+4 by lia)
 let a4:=hr.mono (show 2<=2 * n+4 by lia)
 let#[t1,m1]:=T.things;intro Xc;show#[_,ZL (Zx (Z6 Y4 (Ze DA R (Zb (pv 0) (pv 1))) Zu (Zz _)) (ZR (Zl (Y2 (Zb (Y2 Zv) (ZW Yo (pv 1) ZJ))))) Z0)
  (ZL (Zh 3 nd (UD XA DK hr (WE (pv 0) (Zb (pv 1) (pv 2)))))
  (ZL (Zh 4 nd (YY (ZM (Xd YD (pv 3) ZJ (λ_ _=>rfl)))))
  (ZL (LB Ov (Z6 NW (Ze DA R (Zb (pv 0) (Xd YD (pv 3) ZJ (λ_ _=>rfl)))) Zu (Zz _))
   (ZL (Zx (PW.pt (Pe (Z6 NW (Ze DA R (Zb (pv 0) (Xd YD (pv 3) ZJ (λ_ _=>rfl)))) Zu (Zz _)) (Pc (Z6 Y4 (Zp YO Z T.len YK (ZM (pv 4))) (Xo (v:=.int 4) Z m1 #[_,Z]) (Zz _))))) (ZR (Nx XA N a4 (ZM (Xd YD (pv 3) ZJ (λ_ _=>rfl))))) Z0)
   (ZL (Zh 3 nd (UD XA DK hr (WE (pv 0) (Zb (ZW Yo (Xd YD (pv 3) ZJ (λ_ _=>rfl)) ZJ) (pv 2)))))
   (ZR (Wa (Vo wT vX vW Ql (pv 4) (ZM (Xd YD (pv 3) ZJ (λ_ _=>rfl)))))))))
  (ZR (Zl (Y2 (Zb (VD KU Z T.tuple Nr (ZM (pv 4))) (ZW Yo (Xd YD (pv 3) ZJ (λ_ _=>rfl)) ZJ)))))))),?_]
 exists 2,x,i,Z,Y,Z,_,Z;rw[zw]
 cases y:T' x.cps.toList i 41 with
 | true=>
  let#[rest,hd]:=YA.mp y;show Ys (λ_=>?_) (λz=>absurd y z);show#[(by change 0<=au;decide),λp1 h1=>#[1,_,1,Z,(by change 2<=au;decide),λp2 h2=>?_]]
  let g1:=Zr h1 (.tup []);let g2:=Zr h2 (.tup [.ref p1,.int ((i:Int)+1)]);show k [] 1 (.ref p1) p2 _ (g1.trans g2) (D4 hd) ZY (.tup (g2 _ _ ZY) .nil)
 | false=>
 let G:=Qx y;show Ys (λz=>absurd (show T' x.cps.toList i 41=V' from z) #v[y,zR]) (λ_=>?_)
 show#[3,x,i,r,Z,Y,hn,λt k0 v0 p0 H1 s1 gd e1 kv=>?_,λg bd=>b g (mD G bd)];exists 1,p0,_,_,1,Z,Zd.of e1,Z,(by change 1<=au;decide)
 intro L hL;let gL:=Zr hL (.lst [v0]);let a7:H L=Y':=by
  cases e:H L with
  | none=>rfl
  | some o=>erw[s1 L o e] at hL
 show#[λm σ u=>∃(l:jq)(d:Nat)(I:al)(vf:V)(p:je),σ=[Z' (.str x),Z' (.int (i:Int)),Z' (.int (r:Int)),Z' (.ref I),Z' (.ref L)]/\ZD H u/\u I\.tup [vf,.int ((i+d:Nat):Int)]/\u L=Z' (.lst p) /\
   jK u l p/\T8 (x.cps.toList.drop i) r l d/\m=4-↑l,
  #[_,[t],k0,p0,v0,[v0],Z,s1.trans gL,gL _ _ e1,ZY,.cons (kv.sm gL) .nil,F4 gd,Z],?_]
 rintro m σ H2 ⟨l,d,I,vf,p,rfl,s2,U,eL,hk,sm,rfl⟩;let lv:=↑hk;let f4:=sm.four;let dk:(x.cps.toList.drop i).drop d=x.cps.toList.drop (i+d):=vF ..;exists 2,I,_,_,1,Z,Zd.of U,Z,x,i+d,Z,Y,Z,_,Z
 cases D:T' x.cps.toList (i+d) 41 with
 | true=>
  let#[rest,a3]:=YA.mp D;let ne:(!decide (V.str (sg x.cps.toList (i+d))=V.str #[⇑[41]]))=false:=by
   change (!T' x.cps.toList (i+d) 41)=false;rw[D];rfl
  rw[ne];show Zo ?_;show#[1,L,p,Z,.inl #[ZH.of eL,λp4 h4=>?_]];let g4:=Zr h4 (.tup p);exists 1,I,_,_,1,Z,Zd.of (g4 _ _ U),Z,_,1,Z,(by change 2<=au;decide)
  intro p5 h5;let g5:=Zr h5 (.tup [.ref p4,.int (((i+d:Nat):Int)+1)]);show k l (d+1) (.ref p4) p5 _ (s2.trans (g4.trans g5)) (Cf G sm #v[dk,a3]) ZY (.tup (g5 _ _ ZY) (hk.sm (g4.trans g5)))
 | false=>
 let a6:=Qx D;let ne:(!decide (V.str (sg x.cps.toList (i+d))=V.str #[⇑[41]]))=V':=by
  change (!T' x.cps.toList (i+d) 41)=V';rw[D];rfl
 rw[ne];show Zq #[λc1 u=>∃ m',m'<4-↑l/\∃(S:jq)(a0:Nat)(a1:al)(c0:V)(a2:je),c1=[Z' (.str x),Z' (.int (i:Int)),Z' (.int (r:Int)),Z' (.ref a1),Z' (.ref L)]/\ZD H u/\u a1\.tup [c0,.int ((i+a0:Nat):Int)]/\u L=Z' (.lst a2) /\
   jK u S a2/\T8 (x.cps.toList.drop i) r S a0/\m'=4-↑S,λ_ _ h=>h,?_]
 exists 2,I,_,_,1,Z,Zd.of U,Z,x,i+d,Z,Y,Z,_,Z;rw[E4];let j:(∀ c q,x.cps.toList.drop (i+d)=c::q->c≠32\/↑l=4)->Rf C (i+d) E H:=λhx=>b d (qm G sm #v[dk,λc q e=>#[a6 c q e,hx c q e]])
 cases B:T' x.cps.toList (i+d) 32 with
 | false=>
  let ne:(!decide (V.str (sg x.cps.toList (i+d))=V.str #[⇑[32]]))=V':=by
   change (!T' x.cps.toList (i+d) 32)=V';rw[B];rfl
  rw[ne];show Zq (Zq #[1,I,_,_,1,Z,Zd.of U,Z,1,λdx O=>?_]);show(j λc q e=>.inl (Qx B c q e)).go s2 O
 | true=>
 let#[rest,W]:=YA.mp B;let a8:(!decide (V.str (sg x.cps.toList (i+d))=V.str #[⇑[32]]))=false:=by
  change (!T' x.cps.toList (i+d) 32)=false;rw[B];rfl
 rw[a8];show Zo #[1,L,1,.inl (ZH.of eL),Z,1,?_];by_cases h4:↑l=4
 .show Ys (λ_=>?_) (λz=>absurd (aM (by rw[<-lv,h4];rfl)) z)
  exists 1,I,_,_,1,Z,Zd.of U,Z,_,Z;intro dx O;show(j λc q e=>.inr h4).go s2 O
 .show Ys (λz=>?_) (λ_=>?_)
  .let z':=KA (of_decide_eq_true z);rw[<-lv] at z'
   lia
  let X:↑l<4:=∅
  let J:(x.cps.toList.drop i).drop d=32::rest:=#v[dk,W]
  let dr:x.cps.toList.drop (i+d+1)=rest:=QF W;show#[2,I,_,_,1,Z,Zd.of U,Z,_,1,Z,1,x,i+d+1,r,Z,Y,hn,λt k2 v2 p2 H3 s3 gd e3 a5=>?_,λg bd=>?_]
  .let M:=s3 _ _ eL;exists 1,.inl #[Z,_,ZH.of M],1,p2,_,_,1,Z,Zd.of e3,Z,L,_,1,Z,M,YQ (by rw[<-lv];lia)
   let sL:ZD H (upd H3 L (.lst (p++[v2]))):=λa o e=>by
    rwa[ZT (Zf e a7),s3 a o (s2 a o e)]
   let tp:∀ a xs,H3 a\.tup xs->upd H3 L (.lst (p++[v2])) a\.tup xs:=λa xs e=>by
    rwa[ZT (λz=>by erw[z,M] at e),e]
   show#[4-(↑l+1),∅,l++[t],d+1+k2,p2,v2,p++[v2],Z,sL,?_,ZY,?_,?_,by simp]
   .rw[tp _ _ e3,show i+d+1+k2=i+(d+1+k2) by lia]
   .show J0 (a5.mono tp _ _) ((hk.sm s3).mono tp _ _)
   .rw[dr] at gd;show BA sm J X gd
  .rw[dr] at bd;have:=b _ (qd G sm J X bd);rw[show i+(d+1+g)=i+d+1+g by lia] at this
   show this.mono s2
abbrev yt:jr:=["text","at","room","sign"]
theorem U6:ZB yt TN (Za K3):=Z2
theorem pP{n:Nat}(F:Zk K "key_at" "key_at" K3 f fd)(W:ZC P w K mg jS 1 "sign_at" T5 YT)(X:Zt P w K mg jS 3 "number_at" T5 (V9 C))(DX:Zt P w K mg jS 4 "text_at" T5 (Xu C))(Y:Zt P w K mg jS (2 * n+5) "tuple_at" TN (Uv C n)):ZI P w K mg jS (Yl P w) (2 * n+6) f fd TN (Wc C (n+1)):=by
 show F.okD U6 (λvs H Q E h=>?_) (λa0 A R s H vs Q E I h=>?_)
 .let#[x,i,r,rfl,_]:=h;rfl
 let#[x,i,r,rfl,G,hn,k,b]:=h;let nd:=U6.nd;let M:=I.mono (show 1<=2 * n+5 by lia)
 let N:=I.mono (show 3<=2 * n+5 by lia)
 let O:=I.mono (show 4<=2 * n+5 by lia)
 intro Xc;show#[_,ZL (Zh 3 nd (Ze W M (Zb (pv 0) (pv 1))))
  (ZL (Zx (Z6 Y4 (pv 3) Zu (Zz _)) (ZR (Zl (UD XA DX O (Zb (pv 0) (ZW Yo (pv 1) ZJ))))) Z0)
  (ZL (Zx (PW.pt (Pn (Z6 Y4 (pv 3) Zu (Zz _)) (OJ (Z6 Pi (pv 2) ZJ (Zz _))))) (ZR (Zl (UD XA Y I (WE (pv 0) (Zb (ZW Yo (pv 1) ZJ) (ZW Ui (pv 2) ZJ)))))) Z0)
  (ZR (Zl (UD XA X N (Zb (pv 0) (pv 1))))))),?_]
 exists 2,x,i,Z,G;exists 1,Z,_,Z;rw[LH]
 cases d:T' x.cps.toList i 34 with
 | true=>
  let#[rest,m]:=YA.mp d;let o:=QF m;show Ys (λ_=>?_) (λz=>absurd d z);show#[2,_,1,Z,x,i+1,Z,G,λy l p a D V e=>?_,λg U=>?_]
  .rw[o] at V;show k (.str y) (l+1) (.str y) p a D #v[m,BS V] ?_ (ZE.str y)
   rw[e,show i+1+l=i+(l+1) by lia]
  .rw[o] at U;have:=b (g+1) #v[m,qt U]
   rw[show i+(g+1)=i+1+g by lia] at this
   show this
 | false=>
 show Ys (λz=>absurd (show T' x.cps.toList i 34=V' from z) #v[d,zR]) (λ_=>?_)
 let u:(∀ c q,x.cps.toList.drop i=c::q->c=40->r=0)->∀ J,(∀ t k v p a,ZD H a->Yf (x.cps.toList.drop i) r t k->a p\.tup [v,.int ((i+k:Nat):Int)]->ZE a t v->J (.ref p) a)->V9 C [.str x,.int (i:Int)] H J E:=λL J k'=>
  #[x,i,r,Z,G,λc q e=>#[Qx d c q e,L c q e],λn l p a D gd e=>k' (.int n) l (.int n) p a D gd e (ZE.int n),b]
 exists 1,Z,_,Z;rw[zy]
 cases j:T' x.cps.toList i 40 with
 | false=>
  show Ys (λz=>absurd (show T' x.cps.toList i 40=V' from z) #v[j,zR]) (λ_=>Zo ?_)
  show#[2,u (λc q e z=>absurd z (Qx j c q e)) _ k]
 | true=>
 let#[rest,m]:=YA.mp j;let o:=QF m;show Ys (λ_=>?_) (λz=>absurd j z);exists 1,_,1,Z,_,Z;by_cases r0:r=0
 .show Ys (λz=>?_) (λ_=>?_)
  .have:=of_decide_eq_true z
   lia
  show#[2,u (λ_ _ _ _=>r0) _ k]
 .show Ys (λ_=>?_) (λz=>absurd (aM ∅) z)
  obtain⟨B,rfl⟩:∃ B,r=B+1:=#[r-1,∅]
  let er:((B+1:Nat):Int)-1=((B:Nat):Int):=∅
  show#[2,_,1,Z,1,_,1,Z,x,i+1,B,?_,G,∅,λts l v p a D T e kv=>?_,λg S=>?_]
  .rw[<-er];rfl
  .rw[o] at T;show k (.tup ts) (l+1) v p a D #v[m,C7 T] ?_ kv
   rw[e,show i+1+l=i+(l+1) by lia]
  .rw[o] at S;have:=b (g+1) #v[m,wu S]
   rw[show i+(g+1)=i+1+g by lia] at this
   show this
theorem qj{d:Sp}{k:Nat}{e:jr}(c:∀ a H Q E,¬ d a H Q E):ZI P w K mg jS (Yl P w) k f fd e d:=
 #[λa H Q E h=>absurd h (c a H Q E),λA b s H args g a Q E _ _ _ _ h=>absurd h (c a H Q E)]
theorem CU(T:Txt mg)(N:NT P w K mg jS C)(b:ZZ K mg "key_at" K3 TN)(e:ZZ K mg "tuple_at" Ly TN)(a:ZC P w K mg jS 1 "sign_at" T5 YT)(c:Zt P w K mg jS 3 "number_at" T5 (V9 C))(d:Zt P w K mg jS 4 "text_at" T5 (Xu C)):∀ n:Nat,Zt P w K mg jS (2 * n+4) "key_at" TN (Wc C n)
 | 0=>b.ofD λ_ _ _=>qj λj H Q E h=>by let#[x,i,r,_,_,g,_]:=h;lia
 | n+1=>b.ofD λ_ _ F=>pP F a c d (e.ofD λ_ _ G=>pK G T N a (CU T N b e a c d n))
end
end Tw
namespace Tw
open PySem PySem.Spec L2 PyProof.Rows
def Uz(a:Bool)(T:jo):Int:=if a=V'/\T=[] then -1 else match ver a #[.wanted,(0),[]] T with
 | none=> -1
 | some k=>(k:Int)
theorem Sg(c d:Nat):decide (V.str #[⇑[c]]=V.str #[⇑[d]])=decide (c=d):=decide_eq_decide.mpr OS
theorem zl{n:Nat}(h:n<=1000000):n<=sizeLine:=by rw[sizeLine_eq];lia
structure WG(T:jo)(ts:jq)(k:Nat):Prop where
 le:k<=↑T
 tk:T.take k=shownL ts
 fits:∀ t∈ts,t.fits 3=V'
 ne:ts≠[]
 ver:ver true #[.wanted,(0),[]] T=sh k (ver true #[.behind,(0),[]] (T.drop k))
section
variable{T rest:jo}{ts:jq}{t:KT}{k k2 g:Nat}
theorem Gg(h:T≠[]):Uz true T=match ver true #[.wanted,(0),[]] T with | none=> -1 | some k=>(k:Int):=by
 unfold Uz;rw[aO (λz=>h z.2)]
 all_goals (cases Tw.ver true ⟨.wanted,0,[]⟩ T <;> rfl)
theorem Bo(h:Yf T 3 t k):WG T [t] k:=
 #[h.le,by rw[h.tk,shownL,shownR];simp,λu a=>#v[zP.mp a,h.fits],by simp,h.ver true [] Z]
theorem xk(a:T≠[])(h:Qp T 3 g):Uz true T=(g:Int):=by rw[Gg a,h true [] rfl]
theorem BN(h:WG T ts k)(c:¬ k<↑T):Uz true T = -1/\T=shownL ts:=by
 let e:k=↑T:=by have:=h.le;lia
 let b:=h.tk;rw[e,xF] at b;show#[?_,b];let a:=h.ver;rw[e,qB] at a;unfold Uz;rw[a];split <;> rfl
theorem pO(h:WG T ts k){c:Nat}{q:jo}(e:T.drop k=c::q)(n:c≠32):Uz true T=(k:Int):=by
 let a:Yv true #[.behind,(0),[]] c=Y':=by
  change OC true [] c=Y';unfold OC;rw[aO ⋯,aO (by simp[n])]
 rw[Gg (λz=>by rw[z] at e;simp at e),h.ver,e,NL a,JE,vK]
theorem AM(h:WG T ts k)(e:T.drop k=32::rest):ver true #[.wanted,(0),[]] T=sh (k+1) (ver true #[.wanted,(0),[]] rest):=by
 let a:Yv true #[.behind,(0),[]] 32=Z' #[.wanted,(0),[]]:=by simp[Yv,OC]
 rw[h.ver,e,Vz a,Ug,vU]
theorem EH(h:WG T ts k)(e:T.drop k=32::rest)(b:Qp rest 3 g):Uz true T=((k+1+g:Nat):Int):=by
 rw[Gg (λz=>by rw[z] at e;simp at e),AM h e,b true [] rfl,JE,vU]
theorem C0(h:WG T ts k)(e:T.drop k=32::rest)(g:Yf rest 3 t k2):WG T (ts++[t]) (k+1+k2):=by
 let j:k<↑T:=by
  rcases yW k ↑T with a | a
  .show a
  .erw[rP a] at e
 let b:T.drop (k+1)=rest:=QF e;let f:T=T.take k++32::rest:=by rw[<-e,sZ]
 let i:↑(T.take k)=k:=by rw[zH];lia
 let l:rest.length=↑T-(k+1):=by rw[<-b,yV]
 exists by have:=g.le;lia,?_,λu d=>?_,by simp
 .rw[EM ts t h.ne,<-h.tk,<-g.tk];let c:T.take (k+1+k2)=(T.take k++32::rest).take (↑(T.take k)+(k2+1)):=by rw[<-f,i];congr 1;lia
  rw[c,zED,vO]
 .rcases yY.mp d with z | z
  .show h.fits u z
  .rwa[zP.mp z,g.fits]
 .rw[AM h e,g.ver true [] rfl,Ug];change sh (k2+(k+1)) (Tw.ver true #[.behind,(0),[]] (rest.drop k2))=_;rw[<-b,vF]
  congr 1
  lia
theorem J8(t:KT){r:Nat}(h:t.fits r=V'):1<=↑t.shown:=by
 let#[c,q,e,_]:=JQ t h;rw[e];simp
theorem oE(h:WG T ts k):↑ts<=k:=by
 let c:∀ l:jq,(∀ t∈l,t.fits 3=V')->↑l<=↑(shownL l):=λl d=>by
  cases l with
  | nil=>simp
  | cons a l=>
   rw[shownL,M7,zS,zV];let e:=J8 a (d a zQ);have:↑l<=↑(l.flatMap λt=>32::t.shown):=by
    clear d
    induction l with
    | nil=>simp
    | cons b l f=>rw[xX,zS,zV,zV];lia
   lia
 have:=c ts h.fits;rw[<-h.tk,zH] at this
 lia
end
inductive Xh(C:al)(d:je)(H:Hp)(Q:VK)(E:XK):Prop
 |mk(x:Str)(_:d=[.str x])(_:↑x<=1000000)(_:∀ b (L:al) c a,ZD H a->H L=Y'->a L\.lst c->jK a b c->x.cps.toList=shownL b->(∀ t∈b,t.fits 3=V')->↑b<=↑x->Uz true x.cps.toList = -1->Q (.ref L) a)(_:∀ g:Nat,Uz true x.cps.toList=(g:Int)->Rf C g E H)
section
variable{C CB:al}
abbrev zj:jr:=["text","found","keys"]
theorem VB:ZB zj ["text"] (Za Gd):=Z2
theorem kW(F:Zk K "read_many" "read_many" Gd f fd)(T:Txt mg)(N:NT P w K mg jS C)(DK:Zt P w K mg jS 12 "key_at" TN (Wc C 4)):ZI P w K mg jS (Yl P w) 13 f fd ["text"] (Xh C):=by
 show F.kD VB λa4 A a2 s H i Q E hr h=>?_;let#[x,rfl,hx,k,b]:=h;let I:↑x<=sizeLine:=zl hx;let nd:=VB.nd;let#[t1,m1]:=T.deep;let a0:=hr.to 2;intro Xc;show#[_,ZL (Zx (Z6 Y4 (pv 0) Zu (Zz _)) (ZR (Zl (YY Zv))) Z0)
  (ZL (Zh 1 nd (UD XA DK hr (QB (pv 0) ZJ (Xo (v:=.int 3) Z m1 #[_,Z]))))
  (ZL (Zh 2 nd (YY (ZM (Xd YD (pv 1) ZJ (λ_ _=>rfl)))))
  (ZL (LB Ov (Z6 OA (Xd YD (pv 1) ZJ (λ_ _=>rfl)) (Zp Bd Z T.len YK (ZM (pv 0))) (Zz _))
   (ZL (Zx (Z6 NW (Xd LU (pv 0) (Xd YD (pv 1) ZJ (λ_ _=>rfl)) (λ_ _=>rfl)) Zu (Zz _)) (ZR (Nx XA N a0 (ZM (Xd YD (pv 1) ZJ (λ_ _=>rfl))))) Z0)
   (ZL (Zh 1 nd (UD XA DK hr (QB (pv 0) (ZW Yo (Xd YD (pv 1) ZJ (λ_ _=>rfl)) ZJ) (Xo (v:=.int 3) Z m1 #[_,Z]))))
   (ZR (Wa (Vo wT vX vW Ql (pv 2) (ZM (Xd YD (pv 1) ZJ (λ_ _=>rfl)))))))))
  (ZR (Zl (pv 2)))))),?_]
 let xl:↑x.cps.toList=↑x:=by simp[wM]
 let ex:(V.str x=V.str (zX "")) ↔ x.cps.toList=[]:=by
  let en:(zX "").cps.toList=[]:=by decide +kernel
  constructor
  .intro z;injection z with z;rwa[z,en]
  .intro z;rw[PJ z];rfl
 exists 1,Z,_,Z;by_cases y:x.cps.toList=[]
 .show Ys (λ_=>?_) (λz=>absurd (aM (ex.mpr y)) z);exists (by change 0<=au;decide)
  intro L u;show k [] L [] _ (Zr u _) u ZY .nil (by rw[y,shownL]) ⋯ ⋯ ?_
  unfold Uz;rw[aP #[Z,y]]
 show Ys (λz=>absurd (ex.mp (of_decide_eq_true z)) y) (λ_=>?_);show#[1,x,(0),(3),Z,I,by decide,λt k0 v0 p0 H1 s1 gd U kv=>?_,λg D=>?_]
 rotate_left
 .rw[tU] at D;rwa[vK,b g (xk y D)]
 rw[tU] at gd;rw[vK] at U;exists 1,p0,_,_,1,Z,Zd.of U,Z,(by change 1<=au;decide)
 intro L u;let W:=Zr u (.lst [v0]);let B:H L=Y':=by
  cases e:H L with
  | none=>rfl
  | some o=>erw[s1 L o e] at u
 show#[λm σ l=>∃(p:jq)(d:Nat)(j:al)(O:V)(i:je),σ=[Z' (.str x),Z' (.ref j),Z' (.ref L)]/\ZD H l/\l j\.tup [O,.int (d:Int)]/\l L=Z' (.lst i) /\
   jK l p i/\WG x.cps.toList p d/\m=↑x-d,
  #[_,[t],k0,p0,v0,[v0],Z,s1.trans W,W _ _ U,ZY,.cons (kv.sm W) .nil,Bo gd,Z],?_]
 rintro m σ H2 ⟨p,d,j,O,i,rfl,J,G,eL,hk,r,rfl⟩;let lv:=↑hk;let tm:=oE r;let a5:=r.le;exists 1,j,_,_,1,Z,Zd.of G,Z,1,x,Z,I,_,1,Z,_,Z;by_cases lt:d<↑x
 .show Ys (λ_=>?_) (λz=>absurd (aM ∅) z)
  show#[λa3 l=>∃ m',m'<↑x-d/\∃(p:jq)(d:Nat)(j:al)(O:V)(i:je),a3=[Z' (.str x),Z' (.ref j),Z' (.ref L)]/\ZD H l/\l j\.tup [O,.int (d:Int)]/\l L=Z' (.lst i) /\
   jK l p i/\WG x.cps.toList p d/\m'=↑x-d,λ_ _ h=>h,?_]
  obtain⟨c,hc⟩:∃ c,x.cps.toList[d]?\c:=#[_,zU ∅]
  let S:x.cps.toList.drop d=c::x.cps.toList.drop (d+1):=by
   rw[rK ∅,(yL.mp hc).2]
  exists 2,j,_,_,1,Z,Zd.of G,Z,x,_,c,Z,Z,I,YW hc,Z,_,Z;rw[E4,Sg];by_cases n:c=32
  .rw[aM n];show Zo ?_;subst n;show#[2,j,_,_,1,Z,Zd.of G,Z,_,1,Z,x,d+1,(3),Z,I,by decide,λt k2 M p2 R s3 X e3 a1=>?_,λg D=>?_]
   .let q:=s3 _ _ eL;exists 1,.inl #[Z,_,ZH.of q],1,p2,_,_,1,Z,Zd.of e3,Z,L,_,1,Z,q,(by rw[sizeLine_eq];lia)
    let sL:ZD H (upd R L (.lst (i++[M]))):=λa o e=>by
     rwa[ZT (Zf e B),s3 a o (J a o e)]
    let tp:∀ a xs,R a\.tup xs->upd R L (.lst (i++[M])) a\.tup xs:=λa xs e=>by
     rwa[ZT (λz=>by erw[z,q] at e),e]
    show#[↑x-(d+1+k2),∅,p++[t],d+1+k2,p2,M,i++[M],Z,sL,tp _ _ e3,ZY,?_,C0 r S X,Z]
    show J0 (a1.mono tp _ _) ((hk.sm s3).mono tp _ _)
   .show(b _ (EH r S D)).mono J
  .rw[aK n];show Zq #[1,j,_,_,1,Z,Zd.of G,Z,1,λdx Y=>?_];show(b d (pO r S n)).go J Y
 .show Ys (λz=>?_) (λ_=>?_)
  .have:=of_decide_eq_true z
   lia
  let te:=BN r ∅
  show#[1,k p L i H2 J B eL hk te.2 r.fits ∅ te.1]
end
theorem Ch{n:Int}(h:n.natAbs<10 ^ 60):(n=0/\Xe n=[48])\/∃(b:jo)(c:Nat)(q:jo),Xe n=b++c::q/\(b=[]\/b=[45])/\c≠48/\(∀ d∈c::q,Y7 d=V')/\↑(c::q)<=60:=by
 rcases(show n=0\/n<0\/0<n by lia) with g | g | g
 .subst g;show .inl #[Z,(Q3 0).trans FJ]
 .obtain⟨m,rfl⟩:∃ m:Nat,n = -((m+1:Nat):Int):=#[(-n).toNat-1,∅]
  let#[c,q,e,i]:=G0 (m+1) ∅
  let a:=NJ (m:=m+1) (k:=60) (by decide) ∅
  let f:=LK (m+1);rw[e] at f;show .inr #[[45],c,q,by rw[Mq,e];rfl,.inr Z,i,λd j=>zE.mp f d j,?_]
  rwa[<-e,zY,a]
 .let#[m,rfl]:=yA (Int.le_of_lt g);let l:m≠0:=λz=>by subst z;show absurd g (by decide)
  let#[c,q,e,i]:=G0 m l;let a:=NJ (m:=m) (k:=60) (by decide) (by simpa using h)
  let f:=LK m;rw[e] at f;show .inr #[[],c,q,(Q3 m).trans e,.inl Z,i,λd j=>zE.mp f d j,?_];rwa[<-e,zY,a]
theorem Ew{rest:jo}(h:QY rest):MN rest:=by
 intro c r e;rcases h with rfl | ⟨q,rfl | rfl⟩
 .cases e
 .cases e;decide
 .cases e;decide
theorem Il{i j:Int}(c:i.natAbs<10 ^ 60)(d:j.natAbs<10 ^ 60)(e:Xe i=Xe j):i=j:=by
 let a:=T6 c (x:=#[⇑(Xe i)]) Z;let b:=T6 d (x:=#[⇑(Xe i)]) e;show yP.inj (a.1.symm.trans b.1)
theorem zo{i:Int}{r:Nat}{rest:jo}(h:i.natAbs<10 ^ 60)(o:QY rest):Yf (Xe i++rest) r (.int i) ↑(Xe i):=by
 rcases Ch h with ⟨rfl,e⟩ | ⟨v,c,q,e,u,p,m,s⟩
 .rwa[e,FL Z]
 let j:=He (m c zQ) p;let k:∀ d∈q,Y7 d=V':=λd t=>m d (zM _ t);let b:↑q<=59:=by rw[zV] at s;lia
 rcases u with rfl | rfl
 .let#[n,g,a,f]:=EK (l:=Xe i++rest) (r:=r) (rest:=rest) j k b (by rw[e];rfl) (.inr (Ew o))
  have:n=i:=Il f h (by rw[a,e];rfl)
  subst this;rw[show ↑(Xe n)=↑q+1 by rw[a];rfl]
  show g
 .let#[n,g,a,f]:=AH (l:=Xe i++rest) (r:=r) (rest:=rest) j k b (by rw[e];rfl) (.inr (Ew o))
  have:n=i:=Il f h (by rw[a,e];rfl)
  subst this;rw[show ↑(Xe n)=↑q+2 by rw[a];rfl]
  show g
theorem Jf{t:KT}{r:Nat}(h:t.fits r=V')(rest:jo):∀ c q,t.shown++rest=c::q->c≠41:=λc q e=>by
 let#[d,p,a,n,_]:=JQ t h;rw[a] at e;show(xW.inj e).1 ▸ n
theorem ML(a:jq){rest:jo}(h:rest=[]\/∃ q,rest=41::q):QY (shownR a++rest):=by
 cases a with
 | nil=>rcases h with rfl | ⟨q,rfl⟩;show .inl Z;show .inr #[q,.inr Z]
 | cons t a=>show .inr #[_,.inl (by rw[shownR];rfl)]
mutual
theorem KH:∀(t:KT)(r:Nat)(rest:jo),t.fits r=V'->QY rest->Yf (t.shown++rest) r t ↑t.shown
 | .int i,r,rest,h,st=>by
  rw[KT.fits] at h;rwa[KT.shown,zo (of_decide_eq_true h) st]
 | .str x,r,rest,h,_=>by
  rw[KT.fits] at h;unfold QW at h;rw[zT] at h;let g:=EY (Y:=x.cps.toList) (l:=x.cps.toList.flatMap YE++34::rest) (rest:=rest) (λc hc=>by simpa using zE.mp h.2 c hc) (by have:=of_decide_eq_true h.1;simpa [wM] using this) Z
  let e:(KT.str x).shown++rest=34::(x.cps.toList.flatMap YE++34::rest):=by rw[KT.shown];simp
  let el:↑(KT.str x).shown=↑(x.cps.toList.flatMap YE)+1+1:=by rw[KT.shown];simp
  rwa[e,el,BS g]
 | .tup l,r,rest,h,_=>by
  rw[KT.fits,zT,zT] at h;let#[h0,h4,hl]:=h;obtain⟨r,rfl⟩:∃ r',r=r'+1:=#[r-1,by have:=of_decide_eq_true h0;lia]
  rw[Nat.add_sub_cancel] at hl;let h4:=of_decide_eq_true h4;let e:(KT.tup l).shown++rest=40::(shownL l++41::rest):=by rw[KT.shown];simp
  let el:↑(KT.tup l).shown=↑(shownL l)+1+1:=by rw[KT.shown];simp
  rw[e,el];show C7 ?_
  cases l with
  | nil=>rwa[shownL,D4 Z]
  | cons t ts=>
   rw[fitsL,zT] at hl;let g:=KH t r (shownR ts++41::rest) hl.1 (ML ts (.inr #[_,Z]));let e2:shownL (t::ts)++41::rest=t.shown++(shownR ts++41::rest):=by rw[shownL,yM]
   let#[k,sm,dk,ek]:=sm_of ts (t.shown++(shownR ts++41::rest)) r ↑t.shown [t] rest hl.2 (by simpa [vU] using h4) (F4 g) (uT ..)
   rw[e2,show ↑(shownL (t::ts))=k by rw[shownL,zS,ek]]
   show Cf (Jf hl.1 _) sm dk
theorem sm_of:∀(ts:jq)(l:jo)(r k:Nat)(acc:jq)(rest:jo),fitsL ts r=V'->↑acc+↑ts<=4->T8 l r acc k->l.drop k=shownR ts++41::rest->∃ k',T8 l r (acc++ts) k'/\l.drop k'=41::rest/\k'=k+↑(shownR ts)
 | [],l,r,k,acc,rest,_,_,h,e=>#[k,#v[xK,h],by rw[e,shownR];rfl,by rw[shownR];rfl]
 | t::ts,l,r,k,acc,rest,hf,h4,h,e=>by
  rw[fitsL,zT] at hf;rw[zV] at h4;let e':l.drop k=32::(t.shown++(shownR ts++41::rest)):=by rw[e,shownR];simp
  let g:=KH t r (shownR ts++41::rest) hf.1 (ML ts (.inr #[_,Z]));let sm:=BA h e' ∅ g
  let d1:l.drop (k+1)=t.shown++(shownR ts++41::rest):=QF e';let#[k',a,b,c]:=sm_of ts l r (k+1+↑t.shown) (acc++[t]) rest hf.2 (by simp;lia) sm (Ho d1)
  exists k',by rw[yM] at a;show a,b
  rw[c,shownR,zV,zS]
  lia
end
theorem E2:∀(d c:jq)(T:jo)(k:Nat)(rest:jo),(∀ t∈d,t.fits 3=V')->WG T c k->T.drop k=shownR d++rest->(rest=[]\/∃ q,rest=32::q)->∃ f,WG T (c++d) f/\T.drop f=rest
 | [],c,T,k,rest,_,h,e,_=>#[k,#v[xK,h],by rw[e,shownR];rfl]
 | t::d,c,T,k,rest,hf,h,e,hr=>by
  let i:T.drop k=32::(t.shown++(shownR d++rest)):=by rw[e,shownR];simp
  let n:QY (shownR d++rest):=by
   cases d with
   | nil=>rcases hr with rfl | ⟨q,rfl⟩;show .inl Z;show .inr #[q,.inl Z]
   | cons u o=>show .inr #[_,.inl (by rw[shownR];rfl)]
  let g:=KH t 3 (shownR d++rest) (hf t zQ) n;let m:=C0 h i g;let j:T.drop (k+1)=t.shown++(shownR d++rest):=QF i;let#[f,a,b]:=E2 d (c++[t]) T (k+1+↑t.shown) rest (λu l=>hf u (zM _ l)) m (Ho j) hr;show#[f,by rw[yM] at a;show a,b]
theorem B9{a:jq}(h:a≠[])(c:∀ t∈a,t.fits 3=V'){rest:jo}(d:rest=[]\/∃ q,rest=32::q):∃ k,WG (shownL a++rest) a k/\(shownL a++rest).drop k=rest:=by
 cases a with
 | nil=>show absurd Z h
 | cons t b=>
  let i:QY (shownR b++rest):=by
   cases b with
   | nil=>rcases d with rfl | ⟨q,rfl⟩;show .inl Z;show .inr #[q,.inl Z]
   | cons u j=>show .inr #[_,.inl (by rw[shownR];rfl)]
  let g:=KH t 3 (shownR b++rest) (c t zQ) i;let e:shownL (t::b)++rest=t.shown++(shownR b++rest):=by rw[shownL,yM]
  rwa[e,E2 b [t] _ ↑t.shown rest (λu f=>c u (zM _ f)) (Bo g) (uT ..) d]
theorem nH{a:jq}(c:∀ t∈a,t.fits 3=V'):Uz true (shownL a) = -1:=by
 by_cases b:a=[]
 .subst b;rw[shownL];rfl
 let#[k,h,e]:=B9 b c (rest:=[]) (.inl Z);rw[xK] at h e;show(BN h (by have:=List.drop_eq_nil_iff.mp e;lia)).1
theorem kY{a:jq}(c:a≠[])(b:∀ t∈a,t.fits 3=V'):Uz true (shownL a++[32]) ≠ -1:=by
 let#[k,h,e]:=B9 c b (rest:=[32]) (.inr #[_,Z]);rw[EH h e Ce]
 lia
theorem EI:∀(X Y p q:jo),X.flatMap YE++34::p=Y.flatMap YE++34::q->X=Y/\p=q
 | [],[],p,q,e=>#[Z,(xW.inj e).2]
 | [],d::Y,p,q,e=>by
  rw[xX] at e;rcases OZ d with ⟨h,_⟩ | ⟨h,f,_⟩
  .rw[h] at e;show absurd (xW.inj e).1 (by decide)
  .rw[h] at e;show absurd (xW.inj e).1.symm f
 | c::X,[],p,q,e=>by
  rw[xX] at e;rcases OZ c with ⟨h,_⟩ | ⟨h,f,_⟩
  .rw[h] at e;show absurd (xW.inj e).1 (by decide)
  .rw[h] at e;show absurd (xW.inj e).1 f
 | c::X,d::Y,p,q,e=>by
  rw[xX,xX,yM,yM] at e;let i:c=d/\X.flatMap YE++34::p=Y.flatMap YE++34::q:=by
   rcases OZ c with ⟨h,_⟩ | ⟨h,_,k⟩ <;> rcases OZ d with ⟨g,_⟩ | ⟨g,_,j⟩ <;> rw[h,g] at e
   .have:=(xW.inj e).2;show#[(xW.inj this).1,(xW.inj this).2]
   .show absurd (xW.inj e).1.symm j
   .show absurd (xW.inj e).1 k
   .show xW.inj e
  let#[a,b]:=EI X Y p q i.2;show#[by rw[i.1,a],b]
theorem uq{n:Int}(h:n.natAbs<10 ^ 60):∀ c∈Xe n,(decide (c=45) || Y7 c)=V':=λc a=>by
 rcases Ch h with ⟨_,e⟩ | ⟨g,d,q,e,f,_,b,_⟩
 .rw[e] at a;rw[zP.mp a];decide
 .rw[e] at a;rcases yY.mp a with z | z
  .rcases f with rfl | rfl
   .cases z
   .rw[zP.mp z];decide
  .rw[b c z,Bool.or_true]
theorem wy{rest:jo}(a:QY rest):rest.takeWhile (λc=>decide (c=45) || Y7 c)=[]:=by
 rcases a with rfl | ⟨q,rfl | rfl⟩
 .rfl
 .rw[zEJ (by decide)]
 .rw[zEJ (by decide)]
theorem se{i j:Int}{p q:jo}(b:i.natAbs<10 ^ 60)(d:j.natAbs<10 ^ 60)(f:QY p)(g:QY q)(e:Xe i++p=Xe j++q):i=j/\p=q:=by
 let a:∀{n:Int}{r:jo},n.natAbs<10 ^ 60->QY r->(Xe n++r).takeWhile (λc=>decide (c=45) || Y7 c)=Xe n:=λh s=>by
  rw[List.takeWhile_append_of_pos (uq h),wy s,xK]
 have:=a b f;rw[e,a d g] at this;rw[this] at e;show#[(Il d b this).symm,List.append_cancel_left e]
def YX(p:jo):Prop:=p=[]\/∃ q,p=41::q
theorem MA{t u:KT}{r s:Nat}{p q:jo}(j:t.fits r=V')(k:u.fits s=V')(e:t.shown++p=u.shown++q):((∃ x,t=.str x) ↔ ∃ x,u=.str x)/\((∃ l,t=.tup l) ↔ ∃ l,u=.tup l):=by
 let#[c,x,h,_,_,a,b]:=JQ t j;let#[d,y,i,_,_,f,g]:=JQ u k;rw[h,i] at e;have:c=d:=(xW.inj e).1;subst this;show#[a.symm.trans f,b.symm.trans g]
mutual
theorem C3:∀(t u:KT)(r s:Nat)(p q:jo),t.fits r=V'->u.fits s=V'->QY p->QY q->t.shown++p=u.shown++q->t=u/\p=q
 | .int i,.int j,r,s,p,q,ht,hu,sp,sq,e=>by
  rw[KT.fits] at ht hu;rw[KT.shown,KT.shown] at e;let#[a,b]:=se (of_decide_eq_true ht) (of_decide_eq_true hu) sp sq e;show#[by rw[a],b]
 | .str x,.str y,r,s,p,q,ht,hu,sp,sq,e=>by
  rw[KT.shown,KT.shown,xU,xU] at e;let e:=(xW.inj e).2;rw[yM,yM] at e;let#[a,b]:=EI _ _ _ _ e;show#[by rw[show x=y by cases x;cases y;simpa using a],b]
 | .tup l,.tup m,r,s,p,q,ht,hu,sp,sq,e=>by
  rw[KT.fits,zT,zT] at ht hu;rw[KT.shown,KT.shown,xU,xU] at e;let e:=(xW.inj e).2;rw[yM,yM] at e;let#[a,b]:=shL_inj l m (r-1) (s-1) _ _ ht.2.2 hu.2.2 (.inr #[_,Z]) (.inr #[_,Z]) e;show#[by rw[a],(xW.inj b).2]
 | .int i,.str y,r,s,p,q,ht,hu,sp,sq,e=>by let#[z,h]:=(MA ht hu e).1.mpr #[1];cases h
 | .int i,.tup y,r,s,p,q,ht,hu,sp,sq,e=>by let#[z,h]:=(MA ht hu e).2.mpr #[1];cases h
 | .str x,.int y,r,s,p,q,ht,hu,sp,sq,e=>by let#[z,h]:=(MA ht hu e).1.mp #[1];cases h
 | .str x,.tup y,r,s,p,q,ht,hu,sp,sq,e=>by let#[z,h]:=(MA ht hu e).1.mp #[1];cases h
 | .tup x,.int y,r,s,p,q,ht,hu,sp,sq,e=>by let#[z,h]:=(MA ht hu e).2.mp #[1];cases h
 | .tup x,.str y,r,s,p,q,ht,hu,sp,sq,e=>by let#[z,h]:=(MA ht hu e).2.mp #[1];cases h
theorem shL_inj:∀(l m:jq)(r s:Nat)(p q:jo),fitsL l r=V'->fitsL m s=V'->YX p->YX q->shownL l++p=shownL m++q->l=m/\p=q
 | [],[],r,s,p,q,_,_,_,_,e=>#[Z,by rw[shownL] at e;show e]
 | [],u::us,r,s,p,q,_,hm,ep,_,e=>by
  rw[fitsL,zT] at hm;rw[shownL,shownL,yM] at e;rcases ep with rfl | ⟨p,rfl⟩
  .have:=congrArg xI e;let h1:=J8 u hm.1;simp at this
   lia
  .show absurd Z (Jf hm.1 _ _ _ e.symm)
 | t::ts,[],r,s,p,q,hl,_,_,eq,e=>by
  rw[fitsL,zT] at hl;rw[shownL,shownL,yM] at e;rcases eq with rfl | ⟨q,rfl⟩
  .have:=congrArg xI e;let h1:=J8 t hl.1;simp at this;rw[this.1] at h1;show absurd h1 (by decide)
  .show absurd Z (Jf hl.1 _ _ _ e)
 | t::ts,u::us,r,s,p,q,hl,hm,ep,eq,e=>by
  rw[fitsL,zT] at hl hm;rw[shownL,shownL,yM,yM] at e;let#[a,b]:=C3 t u r s _ _ hl.1 hm.1 (ML ts ep) (ML us eq) e;let#[c,d]:=shR_inj ts us r s p q hl.2 hm.2 ep eq b;show#[by rw[a,c],d]
theorem shR_inj:∀(l m:jq)(r s:Nat)(p q:jo),fitsL l r=V'->fitsL m s=V'->YX p->YX q->shownR l++p=shownR m++q->l=m/\p=q
 | [],[],r,s,p,q,_,_,_,_,e=>#[Z,by rw[shownR] at e;show e]
 | [],u::us,r,s,p,q,_,hm,ep,_,e=>by
  rw[shownR,shownR] at e;rcases ep with rfl | ⟨p,rfl⟩
  .cases e
  .show absurd (xW.inj e).1 (by decide)
 | t::ts,[],r,s,p,q,hl,_,_,eq,e=>by
  rw[shownR,shownR] at e;rcases eq with rfl | ⟨q,rfl⟩
  .cases e
  .show absurd (xW.inj e).1 (by decide)
 | t::ts,u::us,r,s,p,q,hl,hm,ep,eq,e=>by
  rw[fitsL,zT] at hl hm;rw[shownR,shownR,xU,xU] at e;let e:=(xW.inj e).2;rw[yM,yM] at e;let#[a,b]:=C3 t u r s _ _ hl.1 hm.1 (ML ts ep) (ML us eq) e;let#[c,d]:=shR_inj ts us r s p q hl.2 hm.2 ep eq b;show#[by rw[a,c],d]
end
theorem BO{l m:jq}(a:∀ t∈l,t.fits 3=V')(b:∀ t∈m,t.fits 3=V')(e:shownL l=shownL m):l=m:=
 (shL_inj l m 3 3 [] [] #v[QX,zE.mpr a] #v[QX,zE.mpr b] (.inl Z) (.inl Z) #v[xK,xK,e]).1
end Tw
namespace L2
open PySem PySem.Spec PyProof.Rows
section
variable{M:Model}{B:aE}{env:Env}{outer l:jB}{L e:al}{cls:ak}{od:jx}{Q:Unit->am->Prop}
theorem qv{G:ak}(x:Xf B l e cls od G s.heap)(h:∀ j,Xf B l e cls od (rawInt L) j->s.heap.UpToSlots j->Q () { s with heap:=j }):aC M A (setFlight (.ref e) (Z' L)) Q E s:=by
 let#[I,D,F,H,K,T,O,u,#[r,w,y,p,v],k,m,i,g,J,C]:=x;let t:3<u.size:=(vV.mp J).1;let a:∀ b,b≠T->(s.heap.update T (Obj.mapFields (·.setIfInBounds 3 ((Z' L:jx).elim Value.none λf=>rawInt f)))).get? b=s.heap.get? b:=λb n=>wH _ _ n.symm;let c:∀ b o,s.heap.get? b\o->(∀ N,o.data≠.fields N)->b≠T:=λb o q d z=>by
  erw[z,i] at q;show d u g
 unfold setFlight;show aa (wpAny_field r p v ?_);rw[aP (show (Value.ref T != Value.none)=V' by simp)]
 show wpAny_setField i g t (h _ #[λb o q=>(a b λz=>by erw[z,k] at q).trans (I b o q),D,F.of_keeps λb o q d=>#[o,(a b (c b o q d)).trans q,Z],?_] λb o q d=>#[o.slots,(a b (c b o q d)).trans q])
 show#[H,K,T,_,_,#[(a e m.symm).trans r,w,y,p,v],k,m,wI _ i (Obj.isFreed_of_fields (Obj.data_mapFields g _)),Obj.data_mapFields g _,by simp[t],C]
theorem qa{g:ak}{m:Type}{b:String}{R:m->am->Prop}(d:env.frame\L)(x:Xf B l e cls od g s.heap)(h:∀ a,Xf B l e cls od (rawInt L) a->s.heap.UpToSlots a->E (.ref e) { s with heap:=a }):aC M A (PySem.passOn b (.ref e) env) R E s:=by
 let#[_,_,_,q,t,T,p,r,#[i,n,o,c,k],_]:=id x;unfold PySem.passOn;show aa (wpAny_field i c k ?_);rw[aO (show ¬ ((Value.ref T==Value.none)=V') by simp)]
 rwa[d,aa (qv x λa f j=>wpAny_throw (h a f j))]
theorem kQ(d:env.frame\L)(x:Xf B (env::outer) e cls od (rawInt L) s.heap)(h:∀ a,Xf B outer e cls od .none a->s.heap.UpToSlots a->Q () { s with heap:=a }):aC M A (leaving env (.ref e)) Q E s:=by
 unfold leaving;show aa ?_;let#[z,u,v,y,D,T,w,C,#[i,q,r,c,n],o,p,g,b,k,t]:=id x;unfold noteFrame;simp only[d];show aa (wpAny_field i c n ?_);rw[aP (show (Value.ref T != Value.none)=V' by simp)]
 show aa (wpAny_field g b k ?_);rw[aP (show (rawInt L==rawInt L)=V' by simp[rawInt])]
 show ad ?_;show OT x λj f m=>h j f.less m
end
theorem kd:PySem.entryFor PySem.table "proto.unchain" = Z' Builtin.«proto.unchain» :=entryFor_of_fast (by kernel_rfl)
def OF:jw->Prop:=λa=>a[2]?\.none
def RD:jw->Prop:=λa=>a[1]?\.none
theorem Aj{a:ao}{w:ax}{A:ay}{E:ja}{s:am}{K:zZ}{C e:al}{l:jw}{j:jx}{k:Array (jc)}{c:String}{Q:ja}(p:yS K C (.type "BaseException")\true)(m:K.In s.heap)(f:s.heap.get? e\#[.ref C,j,.fields l,k])(h:Q (.ref e) s):aC (aB a w) A (excFromValue (.ref e) c) Q E s:=by
 let#[i,g,d,r,q]:=s;let n:yD (aB a w) i (typeOf (.ref e)) (.ref C):=WJ.ty #[_,f,Z] _;let o:=tH (M:=aB a w) m p;let b:i.get? e\#[.ref C,j,.fields l,k]:=f;unfold excFromValue isExcClass isInstance isType
 repeat (first | with_reducible show wpAny_loadPart_at b ?_ | with_reducible show o.at ?_ | with_reducible show n.at ?_ | wp_step)
 all_goals show h
theorem md{a:ao}{w:ax}{A:ay}{E:ja}{s:am}{C e:al}{f:jw}{c:jx}{d:Array (jc)}{Q:Bool->am->Prop}(b:s.heap.get? e\#[.ref C,c,.fields f,d])(h:Q false s):aC (aB a w) A (isType (.ref e)) Q E s:=by
 unfold isType
 repeat (first | with_reducible show wpAny_loadPart_at b ?_ | wp_step)
 all_goals show h
theorem oX{a:ao}{w:ax}{A:ay}{E:ja}{s:am}{K:zZ}{C e:al}{n:jw}{l:jx}{m:Array (jc)}{Q:ja}(k:yN K (.ref C)\.type "type")(b:K.In s.heap)(i:s.heap.get? e\#[.ref C,l,.fields n,m])(h:Q (.ref e) s):aC (aB a w) A (raisedInstance (.ref e)) Q E s:=by
 let#[j,g,d,p,o]:=s;let c:yD (aB a w) j (typeOf (.ref e)) (.ref C):=WJ.ty #[_,i,Z] _;let f:=qM (M:=aB a w) b k;unfold raisedInstance
 repeat (first | with_reducible show c.at ?_ | with_reducible show f.at ?_ | wp_step)
 all_goals show h
theorem lJ{f:ao}{w:ax}{A:ay}{E:ja}{s:am}{F:Env}{K:zZ}{C h:al}{x c:Sem ak}{Q:Flow->am->Prop}(hh:A.handled\.ref h)(mB:yS K C (.type "BaseException")\true)(ht:yN K (.ref C)\.type "type")(hc:∀ (a:am) (R:ja),R .none a->aC (aB f w) A c R E a)(hx:aC (aB f w) A x (λv a=>∃ e I u L,v=.ref e/\(∀ k:aE,(∀ b,b≠e->k.get? b=a.heap.get? b)->K.In k)/\Wy UX e C I a.heap/\h≠e/\a.heap.get? h\u/\u.data=.fields L/\L[2]? = Z' .none /\
   ∀ k:aE,(∀ b,b≠e->k.get? b=a.heap.get? b)->Wy RD e C I k->E (.ref e) { a with heap:=k }) E s):aC (aB f w) A (raiseStmt F (Z' x) (Z' c)) Q E s:=by
 unfold raiseStmt;show aa (ae hx (λv a X=>?_) λ_ _ z=>z);let#[e,I,u,L,rfl,M,#[#[oc,m,a0,o],B,G,r,t,O,v1,v2,n4],S,V,U,w2,Y]:=X;dsimp only at r t O;subst r t O;show aa (af (hc a _ (aa (ad ?_))));show aa (af (Aj mB (M _ λ_ _=>rfl) G ?_));let P:(Value.none==Value.none)=V':=rfl;dsimp only;rw[aP P];show aa (ad ?_);let step:∀(l:aE)(J:jw)(i:Nat)(y:ak),(∀ b,b≠e->l.get? b=a.heap.get? b)->l.get? e\#[.ref C,m,.fields J,o]->(∀ b,b≠e->(l.update e (Obj.mapFields (·.setIfInBounds i y))).get? b=a.heap.get? b)/\(l.update e (Obj.mapFields (·.setIfInBounds i y))).get? e\#[.ref C,m,.fields (J.setIfInBounds i y),o]:=λl J i y k1 k2=>
  #[λb n=>(wH _ _ n.symm).trans (k1 b n),wI _ k2 Z]
 show aa (wpAny_setField G Z ∅ ?_)
 let#[N,D]:=step a.heap B 3 .none (λ_ _=>rfl) G;generalize a.heap.update e (Obj.mapFields (·.setIfInBounds 3 .none))=g at N D⊢;show aa (wpAny_setField (s:={ a with heap:=g }) D Z (by simp;lia) ?_)
 let#[q,j]:=step g _ 4 (.bool true) N D;dsimp only;generalize g.update e (Obj.mapFields (·.setIfInBounds 4 (.bool true)))=d at q j⊢;show aa (md (s:={ a with heap:=d }) j ?_);rw[aO zR];show aa (oX (s:={ a with heap:=d }) ht (M _ q) j ?_);let p:((B.setIfInBounds 3 Value.none).setIfInBounds 4 (Value.bool true))[1]?\Value.none:=by
  rwa[rF (by decide),rF (by decide),v1]
 unfold setFlight;show aa (aa (wpAny_field (s:={ a with heap:=d }) j Z p ?_));rw[aO (by decide)]
 show ad ?_;unfold raiseNew;show aa (wpAny_handled ?_);rw[hh];dsimp only;let nb:(Value.ref h != Value.ref e)=V':=by simp[S]
 rw[aP nb];show aa (af (wpAny_runValue (codeAny_builtin kd ?_)));let H:d.get? h\u:=(q h S).trans V;unfold Builtin.«proto.unchain»;dsimp only;show aa (wpAny_field (s:={ a with heap:=d }) H U w2 ?_);rw[aP P];show aa (ad (ad ?_));dsimp only;let T:2<((B.setIfInBounds 3 Value.none).setIfInBounds 4 (Value.bool true)).size:=by simp;lia
 let#[r,t]:=step d _ 2 (.ref h) q j;show aa (wpAny_setField (s:={ a with heap:=d }) j Z T ?_);show wpAny_throw (Y _ r #[_,_,t,Z,Z,Z,?_]);change (((B.setIfInBounds 3 Value.none).setIfInBounds 4 (Value.bool true)).setIfInBounds 2 (Value.ref h))[1]?\Value.none;rw[rF (by decide)]
 show p
def Nq(c:VG)(X:Cx)(a:js)(d:St)(E:XK):Prop:=∀(H:Hp)(s:am)(e:ak)(b:am),ZF X a d H s->c X.stack H s E e b->X.xe e b
def Nw(X:Cx)(a:js)(b:St)(e:Expr)(t:TE):Prop:=∀(s:am)(H:Hp)(Q:VK),ZF X a b H s->t b H Q->aC (aB X.prog X.w) X.A (aH e X.env) (EP X a b Q) X.xe s
def LZ(X:Cx)(a:js)(c:St)(d:jy)(t:TA):Prop:=∀(b:aJ)(s:am)(H:Hp)(Q:je->Hp->Prop),ZF X a c H s->t c H Q->aC (aB X.prog X.w) X.A (spliced (aG b (aw d X.env))) (AP X a c Q) X.xe s
section
variable{CX:VG}{k:Nat}{C:al}{ps:jr}{sp:Sp}{jk:je}{ds:jd}{E:XK}{x m:Str}{p pos jh:aJ}{e o:Expr}{es:jy}{ta te:TE}{t:TA}{jR:js}{σ:St}{pl:Sem Bool}
theorem Li(h:PA X es t):LZ X jR σ es t:=λpos s H Q I q=>h pos jR s σ H Q I q
theorem CA(g:Nw X jR σ e te)(i:LZ X jR σ es t)(j:aw (e::es) X.env=(false,aH e X.env)::aw es X.env:=by rfl):LZ X jR σ (e::es) (YI te t):=by
 intro pos s H Q I h;rw[j];change aC _ _ (spliced ((false,aH e X.env)::aG pos (aw es X.env))) _ _ s;show Calls.spliced_cons (Z8 (g s H _ I h) λu v x a c q l=>?_);show Z8 (i pos v a _ c l) λz y w b d r n=>#[x::w,b,d,.cons q r,n]
theorem Et{H:Hp}{s:am}{Q:VK}{us:jd}{vs:je}(F:ZI X.prog X.w X.K X.mg X.base CX k f fd ps sp)(i:ZU k X.A)(d:Zi X.K fd ps [])(j:Nq CX X jR σ E)(I:ZF X jR σ H s)(r:ZN vs us)(h:sp (vs++[]) H Q E):aC (aB X.prog X.w) X.A (call (.ref f) us) (EP X jR σ Q) X.xe s:=by
 let b:ZN (vs++[]) (us++[]):=r.append .nil;let g:↑(us++[])=↑ps:=by rwa[<-↑b,F.len _ _ _ _ h]
 show wpAny_call (codeAny_mono (F.run X.A X.stack s H #[us,[]] (us++[]) (vs++[]) Q E i I.env0 (d s us I.kIn g) b h) λr l a=>?_)
 cases r with
 | error e=>show j H s e l I a
 | ok c=>
  cases c with
  | ret u=>show I.after a
  | next=>show False.elim a
  | brk=>show False.elim a
  | cont=>show False.elim a
theorem FK(F:ZI X.prog X.w X.K X.mg X.base CX k f fd ps sp)(u:ZU k X.A)(j:Gl X x)(n:X.mg x\.ref f)(l:yF X.K (.ref f)=V')(g:Zi X.K fd ps [])(v:Nq CX X jR σ E)(d:LZ X jR σ (e::es) t)(a:(x==("__debug__" : Str))=false:=by decide)(i:aw (e::es) X.env=(false,aH e X.env)::aw es X.env:=by rfl)(b:(aG pos (aw es X.env)).any (·.1)=false:=by rfl):
  Nw X jR σ (.Call (.Name x p) (e::es) [] pos) (Mb sp [] E t):=by
 intro s H Q I h;show ah (QZ I j n ?_ a);show vP (h₀:=X.base) I.ok.mod.kin l (Z8 (d pos s H _ I h) λB z D y c r q=>#[c.kIn,?_]) i b;show Et F u g v c r q
theorem Ec(G:PE X o ta)(c:Uc X.K C)(n:Q2 X.K C m f)(F:ZI X.prog X.w X.K X.mg X.base CX k f fd ps sp)(J:ZU k X.A)(D:Zi X.K fd ps [])(L:Nq CX X jR σ E)(B:LZ X jR σ (e::es) t)(g:aw (e::es) X.env=(false,aH e X.env)::aw es X.env:=by rfl)(d:(aG pos (aw es X.env)).any (·.1)=false:=by rfl)(b:aH (.Call (.Attribute o m jh) (e::es) [] pos) X.env=(do
   let ov<-aH o X.env
   standAt jh.atName
   let (f,first)<-holding [ov] (getMethod ov m pl)
   callWith pos f first (aG pos (aw (e::es) X.env)) (backToKw pos (keywordEach [] X.env))):=by rfl):
  Nw X jR σ (.Call (.Attribute o m jh) (e::es) [] pos) (Ii C m sp [] E ta t):=by
 intro s H Q I h;show zEP (pl:=pl) (Z3 (G jR s σ H _ I h) λu O ⟨x,v,i,N,a,T,U,z,y,l,q⟩=>?_) b;subst z;obtain rfl:u=Value.ref a:=N;show Fg i y c n l ?_;show vP (first:=[.ref a]) (h₀:=X.base) I.ok.mod.kin n.kp (Z8 (B pos O v _ i q) λP V R S j r M=>#[j.kIn,?_]) g d
 show Et (us:=.ref a::P) (vs:=.ref a::R) F J D L j (.cons Z r) M
end
structure VA(P:ao)(w:ax)(K:zZ)(mg:jb)(jS:aE)(k:Nat)(f:al)(fd:aq)(ps:jr)(sp:Sp):Prop where
 len:∀ vs H Q E,sp vs H Q E->↑vs=↑ps
 run:∀(A:ay)(ea:al)(outer:jB)(s:am)(H:Hp)(args:Args)(us:jd)(vs:je)(Q:VK)(E:XK),ZU k A->VN P w K mg jS (A.mark (Z' (.ref ea))) outer s H->BindsTo s fd args (ps.zip us)->ZN vs us->sp vs H Q E ->
  codeAny (aB P w) (A.mark (Z' (.ref ea))) (.call (.ref f) args) (CR ZX outer P w H s Q E) s
theorem ya{P:ao}{w:ax}{K:zZ}{M:jb}{c:aE}{k:Nat}{x d:Str}{i:aD}{f:al}{fd:aq}{N R:jr}{sp:Sp}(F:Zk K x d i f fd)(S:ZB N R (Za i))(L:∀ j H Q E,sp j H Q E->↑j=↑R)(p:∀ (g:ak) (A:ay) (B:al) (a:jB) (s:am) (H:Hp) (j:je) (Q:VK) (E:XK),ZU k (A.deeper (envOfC d (Za i) s.heap.objs.size f g))->sp j H Q E ->
   ∃ t,(∀ O,Xm ((X7 ZX P w K M c N d (Za i) f g A a s H E).held B O) (X5 i) t)/\t { nx:=λ_ m=>Q .non m,rt:=Q } (UQ N j) H):
  VA P w K M c (k+1) f fd R sp:=by
 let#[oc,od,kV,a0,pm,an,g,ct,a2,rfl,lk,T]:=F.ex;exists L;intro A B a s H args us j Q E U h hb r G;let hl:=L _ _ _ _ G;let KX:K.In s.heap:=h.mod.kin.keeps λb o e=>(h.bs b o e).1;let X:s.heap.NoLimit:=h.mod.nolimit.keeps λb o e=>(h.bs b o e).1;let z:∀ y∈R.zip us,(Za i).names.lookup y.1\.local\/((Za i).names.lookup y.1\.cell/\((cellsFrom (s.heap.objs.size+1) (Za i).names []).lookup y.1).isSome=V'):=λ⟨n,v⟩ hy=>by
  rcases S.par n (sH hy).1 with q | q
  .show .inl q
  .show .inr #[q,qJ _ _ _ (.inl q)]
 show codeAny_call_function (A:=A.mark (Z' (.ref B))) U.depth (KX _ _ lk) Z S.co S.gen Z (zEb KX T) (hb _ _ _ _ ?_);show wpAny_newFunctionEnv_cells S.kind z λa1 he s1 x=>?_;subst he;show#[X.keeps x.toInCall.keep,codeAny_func ?_];let#[t,ht,hq]:=p g A B a s H j Q E (U.deeper _) G;let e1:VN P w K M c A a s H:=#[h.frames,h.mod,h.bs,h.bsz,h.funs,h.frf,h.hok,h.bare];let I:ZF (X7 ZX P w K M c N d (Za i) f g A a s H E) [] (UQ N j) H s1:=De S U.hd e1 hl r x;show ae (ht _ [] s1 (UQ N j) H _ (I.held B _) hq) (λfl s' C=>?_) λe s' C=>C;let D:∀{l:St}{m:Hp}{v:V}{u:ak}{O},ZF ((X7 ZX P w K M c N d (Za i) f g A a s H E).held B O) [] l m s'->ZQ v u->Q v m->CE a P w H s Q u s':=
  fun{l m v u O} J Y q=>#[v,m,J.os,J.bare,J.base,J.hok,Y,q]
 cases fl with
 | ret u=>
  let#[v,l,m,J,Y,q]:=C;show D J Y q
 | next=>
  let#[l,m,J,q]:=C;show D (v:=V.non) (u:=Value.none) J Z q
 | brk=>
  let#[_,_,_,q]:=C;show False.elim q
 | cont=>
  let#[_,_,_,q]:=C;show False.elim q
def Vw(K:zZ)(C:al)(p:Str->Bool):Bool:=match sI K C with
 | some a=>p a.name
 | none=>false
theorem Ct{K:zZ}{C:al}{p:Str->Bool}(h:Vw K C p=V'):∃ o a,K.lookup C\o/\o.data=.cls a/\p a.name=V':=by
 unfold Vw at h;split at h
 .rename_i a e
  unfold sI at e;split at e
  .rename_i b
   cases e;show#[_,_,b,Z,h]
  .cases e
 .cases h
def VV(K:zZ)(C:al):jv->Option Bool
 | []=>Z' false
 | D::r=>match yS K C (.ref D) with
  | some true=>Z' true
  | some false=>VV K C r
  | none=>Y'
def IH(K:zZ)(g:jv)(h:al)(f:Str)(t:TA)(E:XK)(j:St):XK:=λcls e b=>∃ C,cls=.ref C /\
 ((VV K C g\true/\Vw K C (· != "NoRow")=V'/\∀ a,b a=Y'->t j (upd b a (XO OF a C e)) λi c=>∃ y,i=[y]/\c a\XO OF a C e/\∀ d,c d=Y'->E (.ref h) (Z' d) (upd c d (.xd [(f,y)])))\/(VV K C g\false/\E cls e b))
def GY(K:zZ)(c:jv)(b:al)(f:Str)(t:TA)(E:XK)(e:XK->TE):TS:=λD a H=>e (IH K c b f t E a) a H λv d=>D.rt v d
inductive HZ(X:Cx)(z:Str)(t:TA):jv->List ExceptHandler->Prop
 | nil:HZ X z t [] []
 | cons {y:Str} {a:Expr} {py zp jg npos rpos ph:aJ} {kc:Nat} {CB:al} {Cs:jv} {hs:List ExceptHandler}:Gl X y->X.mg y\.ref CB->yN X.K (.ref CB)\.type "type"->yS X.K CB (.type "BaseException")\true->(y==("__debug__" : Str))=false->(aG jg (aw [] X.env)).any (·.1)=false->(∀ ea E',PA (X.held ea E') [a] t)->aw [a] X.env=(false,aH a X.env)::aw [] X.env->HZ X z t Cs hs ->
  HZ X z t (CB::Cs) (.ExceptHandler (Z' (.Name y py)) Y' [.Raise (Z' (.Call (.Name z zp) [a] [] jg)) (Z' (.Constant .none kc npos)) rpos] ph::hs)
section
variable{E:XK}{jR:js}{σ:St}{H H1 H':Hp}{s1 s':am}
theorem ut{a C:al}{j:jx}{h:aE}(F:Wh X E)(J:ZF X jR σ H s)(d:X.s₀.heap.get? a=Y')(l:H a=Y')(g:Xf (wZ s.heap (a::L2.frs X.stack)) X.outer a (.ref C) j .none h)(t:s.heap.UpToSlots h)(p:E (.ref C) j H):
  Yl X.prog X.w X.outer X.H₀ X.s₀ E (.ref a) { s with heap:=h }:=by
 let c:∀ b o,b≠a->s.heap.get? b\o->b∉L2.frs X.stack->(wZ s.heap (a::L2.frs X.stack)).get? b\o:=λb o n q e=>rV _ q (λz=>by
  rcases zN.mp z with z | z
  .show n z
  .show e z)
 let inT:∀ b o,s.heap.get? b\o->H b≠Y'->(wZ s.heap (a::L2.frs X.stack)).get? b\o:=λb o q n=>c b o (λz=>n #v[z,l]) q λz=>n (J.stkFree b z)
 show#[a,_,j,H,Z,#[#[_,g,λb o q n=>?_,λb o q n e=>?_,λb o q e=>?_],J.os,J.bare,CJ F J g.1 c t d,J.hok.keptT λb o q n=>g.1 b o (inT b o q n),d,l],p]
 .let#[f,i]:=J.hok.there n;let r:=g.1 b f (inT b f i n);let m:h.get? b\o:=q;rw[r] at m;rwa[<-yP.inj m,inT b f i n]
 .let k:=J.base;rw[F.ex] at k;show c b o (λz=>by erw[z,d] at q) (k.keep b o q n e ⋯) (F.off J q e)
 .let#[f,i]:=J.base.there b o q (by rw[F.ex];simp)
  show#[f,c b f (λz=>by erw[z,d] at q) i (F.off J q e)]
theorem wk{d C:al}{od:jx}{B:aE}{z fz:Str}{i fI:al}{fd:aq}{ps:jr}{k:Nat}{t:TA}{D:YX}(FX:Wh X E)(G:ZF X jR σ H1 s1)(W:Vu X.prog X.w X.stack H1 s1 d (.ref C) od H' s')(inT:∀ b o,s'.heap.get? b\o->H' b≠Y'->B.get? b\o)(a0:∀ b o,s1.heap.get? b\o->H1 b=Y'->b∉L2.frs X.stack->B.get? b\o)(Y:∀ b o,s1.heap.get? b\o->b∉L2.frs X.stack->∃ o',B.get? b\o')(c:Xx X.K i fI fz)(ht:yN X.K (.ref i)\.type "type")(i2:Vw X.K i (· == "NoRow")=V')(FI:VA X.prog X.w X.K X.mg X.base k fI fd ps (QK X.K i fI fz))(hr:ZU (k+1) X.A)(hg:Gl X z)(hm:X.mg z\.ref i)(hb:Zi X.K fd ps [])(e9:(z==("__debug__" : Str))=false):∀{Cs:jv}{hs:List ExceptHandler}(hz:HZ X z t Cs hs)(S:aE),Xf B (X.env::X.outer) d (.ref C) od .none S->s'.heap.UpToSlots S ->
  ((VV X.K C Cs\true/\Vw X.K C (· != "NoRow")=V'/\∀ d,H' d=Y'->t σ (upd H' d (XO OF d C od)) λvs H3=>∃ y,vs=[y]/\H3 d\XO OF d C od/\∀ g,H3 g=Y'->E (.ref i) (Z' g) (upd H3 g (.xd [(fz,y)])))\/(VV X.K C Cs\false/\E (.ref C) od H'))->aC (aB X.prog X.w) X.A (handleBy (.ref d) X.env hs) (SP X jR D) X.xe { s' with heap:=S }:=by
 intro Cs hs hz;let c3:=FX.stack;let U:=FX.frame;let a8:X.A.frames\(X.env::X.outer):=by rw[G.ok.frames,c3]
 induction hz with
 | nil=>
  intro S I P q;rcases q with ⟨z,_⟩ | ⟨_,q⟩
  .cases z
  show wpAny_handleBy_nil (qa (s:={ s' with heap:=S }) U I λh6 M a2=>?_);show FX.xe _ _ (kQ (s:={ s' with heap:=h6 }) U M λh7 N a3=>BL (s':=s') (h2:=h7) FX G W inT a0 Y N ((P.trans a2).trans a3) q)
 | cons hy i6 i5 hB i0 i3 ha i4 hz ih=>
  rename_i y a py zp a6 l1 l2 ph kc CB Cs hs
  intro S I P q;let J5:ZF X jR σ H' { s' with heap:=S }:=KL G W inT a0 Y I.1 P;show wpAny_handleBy_cons (codeAny_handlers_test ?_) (by intro q;cases q)
  show QZ (J5.held d (λ_ _=>False)) hy i6 ?_ i0;let i1:∃ b,yS X.K C (.ref CB)\b/\(b=false->VV X.K C (CB::Cs)=VV X.K C Cs)/\(b=V'->VV X.K C (CB::Cs)\true):=by
   cases e:yS X.K C (.ref CB) with
   | none=>rcases q with ⟨z,_⟩ | ⟨z,_⟩ <;> (unfold VV at z;erw[e] at z)
   | some b=>show#[b,Z,λz=>by subst z;rw[VV,e],λz=>by subst z;rw[VV,e]]
  let#[b,mC,b0,b1]:=i1;show AJ (s:={ s' with heap:=S }) J5.kIn I.at.is i5 hB mC ?_
  cases b with
  | false=>show ih S I P (by rw[b0 rfl] at q;show q)
  | true=>
  obtain⟨nC,q⟩:Vw X.K C (· != "NoRow")=V'/\∀ d,H' d=Y'->t σ (upd H' d (XO OF d C od)) λvs H3=>∃ y,vs=[y]/\H3 d\XO OF d C od/\∀ g,H3 g=Y'->E (.ref i) (Z' g) (upd H3 g (.xd [(fz,y)])):=by
   rcases q with ⟨_,nC,q⟩ | ⟨z,_⟩
   .show#[nC,q]
   .erw[b1 rfl] at z
  show codeAny_handlers_suite ?_;show OT (s:={ s' with heap:=S }) I λh6 M a2=>?_;let J6:ZF X jR σ H' { s' with heap:=h6 }:=KL G W inT a0 Y M.1 (P.trans a2);let#[oB,a5,lB,dB,nB]:=Ct nC;let nB:a5.name ≠ "NoRow" :=by simpa using nB
  let a1:C∉frs X.stack:=λz=>by
   let g0:=(G.stack.mem z).1;erw[G.ok.mod.kin _ _ lB] at g0
  let#[o',gB]:=Y C oB (G.kIn _ _ lB) a1;let eo:o'=oB:=by
   let e1:=M.1 C o' gB;let f:=J6.kIn C oB lB;show yP.inj (e1.symm.trans f)
  let#[_,_,_,oe,vs,T,oT,ts,#[ge,c1,c2,dd,v1],TB,Te,gT,dT,t3,cx]:=id M;let w2:vs[2]?\.none:=cx.elim id λz=>absurd (z C o' a5 Z gB #v[eo,dB]) nB
  show wpAny_execs_cons ?_;rw[arm_exec_Raise];show aa (ai ?_);let n0:X.s₀.heap.get? d=Y':=by
   cases z:X.s₀.heap.get? d with
   | none=>rfl
   | some o=>
    let#[o',q']:=G.base.there d o z (by rw[FX.ex];simp)
    erw[W.new] at q'
  let n1:d≠X.env.locals:=λz=>by
   let#[m,#[o,_,_,F,_],_]:=G.loc;erw[<-z,W.new] at F
  let n2:∀ x c,X.env.cells.lookup x\c->c≠d:=λx c e z=>by
   let#[v,o,F,_]:=G.cell x c e;erw[z,W.new] at F
  let n3:∀ p∈X.pn++jR,p.1≠d:=λp hp z=>by
   let F:=(G.pin p hp).1;erw[z,W.new] at F
  let K6:ZF X jR σ (upd H' d (XO OF d C od)) { s' with heap:=h6 }:=J6.track n0 n1 n2 n3 W.free (K5 #[oe,vs,ge,c1,dd,c2,w2]);let I6:=K6.held d (λ_ _=>False);show lJ (K:=X.K) (C:=i) (h:=d) Z c.exc.mB ht (λj R hR=>aa (Constant_none (aa (ai (ad hR))))) (aa (ae ?_ (λv s3 Q=>aa (ai (ad Q))) λ_ _ z=>z));show ah (QZ I6 hg hm ?_ e9);show vP (h₀:=X.base) I6.ok.mod.kin c.kp (Z3 (ha d _ a6 jR _ σ _ _ (K6.held d _) (q d W.free)) λus j ⟨l8,H2,I2,r,y,ey,l,q⟩=>#[I2.kIn,?_]) i4 i3;subst ey;obtain⟨u,rfl,ry⟩:∃ u,us=[u]/\ZQ y u:=by
   cases r with
   | cons ry r0=>cases r0;show#[1,ry]
  show CZ I2.kIn c (by change 1<=au;rw[sizeLine_eq];lia) ?_
  let kk:∀ b o,j.heap.get? b\o->(QQ j.heap i [u]).get? b\o:=λb o q=>zL _ (zL _ q);let e1:(QQ j.heap i [u]).get? (j.heap.objs.size+1)\{ cls:=.ref i,data:=.fields ⇑[.ref j.heap.objs.size,.none,.none,.none,.bool false,.none] }:=by heap_get
  let e0:j.heap.get? (j.heap.objs.size+1)=Y':=tG (wF _);let h0:H2 (j.heap.objs.size+1)=Y':=I2.hok.fresh (wF _);let L:=I2.unheld G.ok;let c5:X.s₀.heap.get? (j.heap.objs.size+1)=Y':=by
   cases z:X.s₀.heap.get? (j.heap.objs.size+1) with
   | none=>rfl
   | some o=>
    let#[o',q']:=L.base.there _ o z (by rw[FX.ex];simp)
    erw[e0] at q'
  let lo:X.s₀.heap.objs.size<=j.heap.objs.size+1:=rE L.sz;let m1:j.heap.objs.size+1≠X.env.locals:=rY (sF L.lt);let m2:∀ x c,X.env.cells.lookup x\c->c≠j.heap.objs.size+1:=λx c e z=>by
   let#[v,o,F,_]:=L.cell x c e;erw[z,e0] at F
  let m3:∀ p∈X.pn++jR,p.1≠j.heap.objs.size+1:=λp hp z=>by
   let F:=(L.pin p hp).1;erw[z,e0] at F
  let J:=I2.newx (C:=i) (ea:=j.heap.objs.size+1) (h':=QQ j.heap i [u]) kk e0 #[_,_,e1,Z,Z,Z,Z,Z,by change 4<6;lia]
  let c4:d≠j.heap.objs.size+1:=λz=>by erw[z,h0] at l
  generalize j.heap.objs.size+1=f at *;let r2:ZN [V.ref f,y] [Value.ref f,u]:=.cons Z (.cons ry .nil);let c0:QK X.K i fI fz [V.ref f,y] (upd H2 f (XO UX f i Y')) (λv H4=>v=.non/\∃ g,H4=upd (upd H2 g (.xd [(fz,y)])) f (XO UX f i (Z' g))/\H2 g=Y'/\g≠f) E0:=by
   show#[c,_,y,Z,ZY,λg hd a9=>#[Z,g,?_,?_,a9]]
   .funext b
    by_cases z:b=f
    .rw[z,ZY,ZY]
    .rw[ZT z,ZT z];by_cases z2:b=g
     .rw[z2,ZY,ZY]
     .rw[ZT z2,ZT z2,ZT z]
   .rw[ZT a9] at hd;show hd
  let hl:↑([Value.ref f,u]++([]:jd))=↑ps:=by
   let e:=↑r2;rw[FI.len _ _ _ _ c0] at e;show e.symm
  show wpAny_call (codeAny_mono (FI.run _ d X.stack _ _ #[[Value.ref f,u],[]] _ _ _ E0 (hr.make i [u] []) (J.env0.make i [u] []) (hb _ [Value.ref f,u] J.kIn hl) r2 c0) λr s' O=>?_)
  cases r with
  | error e=>show(Xi jR σ _ _ e s' J O)
  | ok fl=>
   cases fl with
   | ret u2=>
    let#[v,H4,I3,rv,ev,g,eH,nd,ne]:=J.after O;subst ev eH;let hn:upd H2 g (.xd [(fz,y)]) f=Y':=#v[ZT (Ne.symm ne),h0]
    let a4:=(I3.untrack hn).unheld G.ok;let e8:=(I3.hok f _ ZY).1;let a7:upd (upd H2 g (.xd [(fz,y)])) f (XO UX f i (Z' g)) d\XO OF d C od:=by
     rwa[ZT c4,ZT (λz=>by erw[<-z,l] at nd),l]
    let#[oh,wh,gh,_,dh,_,l0]:=(I3.hok d _ a7).1;show#[rv,f,Z' g,oh,wh,Z,λQ k=>?_,e8,c4,gh,dh,l0,λQ k hx=>?_]
    .show(a4.turned (t':=s'.toks) (h':=Q) (λb o n q=>(k b n).trans q) hn m1 (.inr lo) m2 m3).kIn
    let J3:=a4.turned (t':=s'.toks) (h':=Q) (λb o n q=>(k b n).trans q) hn m1 (.inr lo) m2 m3;let#[oz,vz,gz,z1,z2,z3,zg]:=hx;let ff:Q.FunFrames (wZ Q (f::L2.frs X.stack)) (X.env::X.outer):=by
     have:=zEK (as:=f::L2.frs X.stack) J3.stack (λc8 he a ha=>zM _ (vY.mpr #[c8,he,ha]));rw[c3] at this⊢;show this
    let eB:(wZ Q (f::L2.frs X.stack)).get? f=Y':=rR _ ⋯
    let#[oZ,l4,lZ,dZ,nZ]:=Ct i2;let c6:N2 (wZ Q (f::L2.frs X.stack)) oz.cls vz:=.inr λC' o' l3 y1 y2 y3=>by
     erw[z1] at y1;let e5:=uJ _ y2;let e6:=J3.kIn i oZ lZ;let e7:o'=oZ:=yP.inj (e5.symm.trans e6);erw[e7,dZ] at y3;show eq_of_beq nZ
    show Cr (A:=X.A.mark (Z' (.ref d))) a8 ff U gz (λb o q=>uJ _ q) eB z2 zg c6 λh7 N a3=>?_;rw[z1,z3] at N;let#[_,_,_,l6,l9,T7,l5,l7,#[e4,_,_,c7,i9],_]:=id N;change cameBackBy (aB X.prog X.w) X.A X.env X.xe (.ref f) _;unfold cameBackBy;show aa (wpAny_field e4 c7 i9 ?_);rw[aO (show ¬ ((Value.ref T7==Value.none)=V') from by simp)]
    show Fb N λh8 c9 i7=>?_;show FX.xe _ _ ?_;show E9 a8 U c9 λh9 e3 i8=>?_;show ut (s:={ s' with heap:=Q }) FX J3 c5 hn e3 ((a3.trans i7).trans i8) (q g nd)
   | next=>show False.elim O
   | brk=>show False.elim O
   | cont=>show False.elim O
theorem Bq{z o:Str}{e:Expr}{te:XK->TE}{b p y:al}{r:jv}{fd:aq}{ps:jr}{k:Nat}{t:TA}{a:ExceptHandler}{P:List ExceptHandler}{l T:aJ}(x:Wh X E)(he:∀ L jR σ Y,Nq (Yl X.prog X.w) (X.wish L) jR σ Y->Nw (X.wish L) jR σ e (te Y))(hz:HZ X z t (p::r) (a::P))(c:Xx X.K b y o)(ht:yN X.K (.ref b)\.type "type")(O:Vw X.K b (· == "NoRow")=V')(FI:VA X.prog X.w X.K X.mg X.base k y fd ps (QK X.K b y o))(hr:ZU (k+1) X.A)(hg:Gl X z)(hm:X.mg z\.ref b)(hb:Zi X.K fd ps [])(J:(z==("__debug__" : Str))=false:=by decide):
  PS X (.Try [.Return (Z' e) l] (a::P) [] [] T) (GY X.K (p::r) b o t E te):=by
 intro jR s σ H D I h;show wpAny_Try_except ?_;let j:=x.stack;let M:=x.frame;let N:X.A.frames\(X.env::X.outer):=by rw[I.ok.frames,j]
 let g:∀(H1:Hp)(s1:am)(d:ak)(s':am),ZF X jR σ H1 s1->Yl X.prog X.w X.stack H1 s1 (IH X.K (p::r) b o t E σ) d s' ->
   aC (aB X.prog X.w) X.A (noteFrame d X.env) (λ_ m=>aC (aB X.prog X.w) X.A (setFlight d Y') (λ_ n=>aC (aB X.prog X.w) X.A (handleBy d X.env (a::P)) (SP X jR D) X.xe n) X.xe m) X.xe s':=by
  intro H1 s1 d s' i Q;let#[ea,cls,od,H',rfl,W,C,rfl,q]:=Q;let#[B,fl,inT,S,R]:=W.ex;let F:Xf B (X.env::X.outer) ea (.ref C) od .none s'.heap:=by rwa[<-j,fl]
  show KC N M F λh4 f U=>?_;show OT (s:={ s' with heap:=h4 }) f λh5 G V=>?_;show wk x i W inT S R c ht O FI hr hg hm hb J hz h5 G (U.trans V) q
 show wpAny_execs_cons (wpAny_Return_some ?_);show Z8 (he _ jR σ _ (λH1 s1 d s' i Q=>g H1 s1 d s' i.unwish Q) s H _ (I.wish _) h) λu s1 v H1 i rv q=>?_;show#[v,σ,H1,i.unwish,rv,q]
theorem lR{z fz:Str}{e:Expr}{y:XK->TE}{a i:al}{v:aq}{x:jr}{k:Nat}{t:TA}{d p:aJ}{h:Str}{g:Expr}{U r b n q o:aJ}{m:Nat}{f:al}(D:Wh X E)(N:∀ L jR σ u,Nq (Yl X.prog X.w) (X.wish L) jR σ u->Nw (X.wish L) jR σ e (y u))(S:X.mg h\.ref f)(V:yN X.K (.ref f)\.type "type")(F:yS X.K f (.type "BaseException")\true)(Y:∀ I B,PA (X.held I B) [g] t)(c:Xx X.K a i fz)(R:yN X.K (.ref a)\.type "type")(l:Vw X.K a (· == "NoRow")=V')(C:VA X.prog X.w X.K X.mg X.base k i v x (QK X.K a i fz))(Q:ZU (k+1) X.A)(P:X.mg z\.ref a)(M:Zi X.K v x [])(J:Gl X h:=by rfl)(G:(h==("__debug__" : Str))=false:=by decide)(T:(aG b (aw [] X.env)).any (·.1)=false:=by rfl)(s1:aw [g] X.env=(false,aH g X.env)::aw [] X.env:=by rfl)(O:Gl X z:=by rfl)(j:(z==("__debug__" : Str))=false:=by decide):
  PS X (.Try [.Return (Z' e) d] [.ExceptHandler (Z' (.Name h U)) Y' [.Raise (Z' (.Call (.Name z r) [g] [] b)) (Z' (.Constant .none m n)) q] o] [] [] p) (GY X.K [f] a fz t E y):=
 Bq D N (.cons J S V F G T Y s1 .nil) c R l C Q O P M j
theorem mM{z fz:Str}{e:Expr}{P:XK->TE}{a p:al}{N:aq}{O:jr}{k:Nat}{t:TA}{f D:aJ}{l:Str}{i:Expr}{q1 I b x F B:aJ}{u:Nat}{g:al}{m:Str}{j:Expr}{q2 J d y G C:aJ}{v:Nat}{h:al}(R:Wh X E)(he:∀ L jR σ M,Nq (Yl X.prog X.w) (X.wish L) jR σ M->Nw (X.wish L) jR σ e (P M))(m1:X.mg l\.ref g)(t1:yN X.K (.ref g)\.type "type")(S:yS X.K g (.type "BaseException")\true)(v1:∀ o n,PA (X.held o n) [i] t)(m2:X.mg m\.ref h)(t2:yN X.K (.ref h)\.type "type")(T:yS X.K h (.type "BaseException")\true)(v2:∀ o n,PA (X.held o n) [j] t)(c:Xx X.K a p fz)(ht:yN X.K (.ref a)\.type "type")(r:Vw X.K a (· == "NoRow")=V')(Q:VA X.prog X.w X.K X.mg X.base k p N O (QK X.K a p fz))(hr:ZU (k+1) X.A)(hm:X.mg z\.ref a)(hb:Zi X.K N O [])(Y:Gl X l:=by rfl)(U:(l==("__debug__" : Str))=false:=by decide)(p1:(aG b (aw [] X.env)).any (·.1)=false:=by rfl)(s1:aw [i] X.env=(false,aH i X.env)::aw [] X.env:=by rfl)(g2:Gl X m:=by rfl)(V:(m==("__debug__" : Str))=false:=by decide)(p2:(aG d (aw [] X.env)).any (·.1)=false:=by rfl)(s2:aw [j] X.env=(false,aH j X.env)::aw [] X.env:=by rfl)(hg:Gl X z:=by rfl)(q:(z==("__debug__" : Str))=false:=by decide):
  PS X (.Try [.Return (Z' e) f] [.ExceptHandler (Z' (.Name l q1)) Y' [.Raise (Z' (.Call (.Name z I) [i] [] b)) (Z' (.Constant .none u x)) F] B,.ExceptHandler (Z' (.Name m q2)) Y' [.Raise (Z' (.Call (.Name z J) [j] [] d)) (Z' (.Constant .none v y)) G] C] [] [] D) (GY X.K [g,h] a fz t E P):=
 Bq R he (.cons Y m1 t1 S U p1 v1 s1 (.cons g2 m2 t2 T V p2 v2 s2 .nil)) c ht r Q hr hg hm hb q
end
end L2
namespace Tw
open PySem PySem.Spec L2 PyProof.Rows
variable{jP jQ CS CT CH CK CP CB:al}
def NS(a:jq):Bool:=((zG (↑a-1)).map λj=>(a.getD j (.int 0)).lt (a.getD (j+1) (.int 0))).all id
theorem wc{d:jq}(h:NS d=V'):d.Pairwise λa b=>a.lt b=V':=by
 unfold NS at h;rw[vJ,zE] at h;let i:∀ j,j+1<↑d->(d.getD j (.int 0)).lt (d.getD (j+1) (.int 0))=V':=λj k=>h j (yZ.mpr ∅)
 clear h
 induction d with
 | nil=>show .nil
 | cons a d l=>
  let e:=l λj k=>by
   have:=i (j+1) (by rw[zV];lia)
   simpa using this
  show wX.mpr #[λb g=>?_,e]
  cases d with
  | nil=>cases g
  | cons c d=>
   let f:a.lt c=V':=by
    have:=i 0 ⋯
    simpa using this
   rcases zN.mp g with z | z
   .rwa[z,f]
   .show U' _ _ _ f ((wX.mp e).1 b z)
theorem Jv{P:ao}{w:ax}{K:zZ}{l:jb}{a:aE}{f:al}{i:aq}{n:VG}{j k:Nat}{m:jr}{x g:Sp}(F:ZI P w K l a ZX j f i m x)(G:ZI P w K l a n k f i m g)(h:j<=k):ZI P w K l a n k f i m (λd H Q E=>x d H Q E\/g d H Q E):=by
 exists λd H Q E z=>z.elim (F.len d H Q E) (G.len d H Q E);intro A b s H args y d Q E t q p v z;rcases z with z | z
 .show codeAny_mono (F.run A b s H args y d Q E (t.mono h) q p v z) λr B c=>?_
  cases r with
  | ok o=>
   cases o with
   | ret u=>show c
   | _=>show c.elim
  | error e=>show c.elim
 .show G.run A b s H args y d Q E t q p v z
variable{CK CL:al}
theorem Mf{X:Cx}{a:jJ}:Xm X a (λ_ _ _=>False):=λ_ _ _ _ _ _ h=>h.elim
structure Jm(K:zZ)(mg:jb)(x:Str)(C:al):Prop where
 at_:mg x\.ref C
 exk:GR K C=V'
 kp:yF K (.ref C)=V'
 mB:yS K C (.type "BaseException")\true
 ty:yN K (.ref C)\.type "type"
structure XR(P:ao)(w:ax)(K:zZ)(mg:jb)(jS:aE)(C:al):Prop where
 ex:∃ fI fd,Xx K C fI "at" /\ ZI P w K mg jS ZX 1 fI fd TV (QK K C fI "at")/\VA P w K mg jS 1 fI fd TV (QK K C fI "at")/\Zi K fd TV []
 at_:mg "NoRow" = Z' (.ref C)
 ty:yN K (.ref C)\.type "type"
 nm:Vw K C (· == "NoRow")=V'
theorem Nu{X:Cx}{E:XK}{C:al}{e:Expr}{d:jy}{t:TA}{p a h:aJ}(F:Wh X E)(N:XR X.prog X.w X.K X.mg X.base C)(l:ZU 2 X.A)(i:PA X (e::d) t)(k:Gl X "NoRow" :=by rfl)(j:aw (e::d) X.env=(false,aH e X.env)::aw d X.env:=by rfl)(g:(aG a (aw d X.env)).any (·.1)=false:=by rfl):PS X (.Raise (Z' (.Call (.Name "NoRow" p) (e::d) [] a)) Y' h) (GC C "at" E t):=by
 let#[m,fd,c,G,_,b]:=N.ex;show Co F c N.ty G l k N.at_ b i (by decide) j g
abbrev N6:Stmt:=C5 (top 9) 0
theorem Bl:ZB TV TV (Za N6):=Z2
theorem nN{C:al}(F:Zk K "__init__" "NoRow.__init__" N6 f fd):ZI P w K mg jS ZX 1 f fd TV (QK K C f "at"):=by
 show F.ok Bl (λg H Q E h=>(by let#[_,_,_,rfl,_]:=h;rfl)) (λb A a s H g Q E i h=>?_)
 let#[c,d,y,rfl,e,k]:=h;show#[_,ZR (GQ (pv 0) (pv 1) Z),#[2,UX,d,_,1,e,c,k]]
theorem lM{C:al}(F:Zk K "__init__" "NoRow.__init__" N6 f fd):VA P w K mg jS 1 f fd TV (QK K C f "at"):=by
 show ya F Bl (λl H Q E h=>(by let#[_,_,_,rfl,_]:=h;rfl)) (λb A d a s H l Q E m h=>?_)
 let#[c,j,y,rfl,e,k]:=h;let g:∀ i,Xm ((X7 ZX P w K mg jS TV "NoRow.__init__" (Za N6) f b A a s H E).held d i) (X5 N6) (Ek K (Y9 0) (Y9 1) "at"):=λi=>ZR (GQ (pv 0) (pv 1) Z);show#[_,g,#[2,UX,j,_,1,e,c,k]]
section
variable{C jP jQ:al}
inductive We(C:al):Sp
 |mk{l:al}{b:je}{a:jG}{H:Hp}{Q:VK}{E:XK}:H l\.lst b->Yq H a b->(∀ i,a[i]!.fit)->↑b<=100->over a=Y'->(∀ c,ZD H c->E (.ref C) Y' c)->We C [.ref l] H Q E
theorem rj(F:Zk K "label_over" "label_over" Kv f fd)(m:K.In jS)(T:Txt mg)(N:Jm K mg "NoStem" C)(O:ZC P w K mg jS 8 "stand_side_by_side" Tu Vj):ZI P w K mg jS (Yl P w) 9 f fd TD (We C):=by
 show F.okD Vd (λvs H Q E h=>(by induction h;rfl)) (λS A u s H vs Q E hr h=>?_)
 induction h
 rename_i l a c H Q E t r D B I k
 let nd:=Vd.nd;let G:=r.1;let#[tf,mf]:=T.few;let#[tm,mm]:=T.most;intro Xc;show#[_,ZL (Zx (Ux (Ke Qf Qf (Xo (v:=.int 2) Z mf #[_,Z]) (Zp YO Z T.len YK (ZM (pv 0))) (Xo (v:=.int 4) Z mm #[_,Z]))) (ZR (Io XA (HF m N.at_ N.exk) N.kp N.mB N.ty Z)) Z0)
  (ZL (WZ Ov Z (KW Z T.range (Zb ZJ (Zp YO Z T.len YK (ZM (pv 0))))) (WB 1 nd)
   (ZR (Zx (Ux (WU (Ze O hr (Zb (YC K (pv 0) (ZW Ui (pv 1) ZJ)) (YC K (pv 0) (pv 1)))))) (ZR (Io XA (HF m N.at_ N.exk) N.kp N.mB N.ty Z)) Z0))) Mf),?_]
 exists 1,l,a,Z,.inl (ZH.of t),_,1,Z,_,Z;rcases yW ↑a 2 with X | X
 .rw[aK (show ¬ (2:Int)<=(↑a:Int) by lia)]
  show Zo #[1,Zq (k H (ZD.refl H))]
 rw[aM (show (2:Int)<=(↑a:Int) by lia)]
 show Zq #[_,1,Z,1,?_];rcases yW 4 ↑a with Y | Y
 .rw[aK (show ¬ (↑a:Int)<=4 by lia)]
  show Zq (k H (ZD.refl H))
 rw[aM (show (↑a:Int)<=4 by lia)]
 show Zo ?_;exists 1,l,a,Z,.inl (ZH.of t),(1),(↑a:Int),Z,#[∅,∅,∅,∅]
 show Pk (lo:=1) (n:=((↑a:Int)-1).toNat) (λi y o=>∃ x:jf,y=[Z' (.ref l),x,Y']/\ZD H o/\∀ j,j<i->VY c[j]! c[j+1]! =V') #[1,ZD.refl H,λj q=>absurd q ∅] ?_ ?_
 .rintro i y o hi ⟨x,rfl,e,b⟩;let p:i+1<↑a:=∅
  let L:a[i]?\(a[i]'∅):=zU ∅
  let M:a[i+1]?\a[i+1]:=zU p;let W:(1:Int)+(i:Int)=((i+1:Nat):Int):=∅
  let U:(1:Int)+(i:Int)-1=((i:Nat):Int):=∅
  let g:=e _ _ t;show#[2,_,1,Z,.inl #[l,a,_,1,Z,ZH.of g,#v[U,YW L],?_]]
  show#[2,.inl #[l,a,_,1,Z,ZH.of g,#v[W,YW M],?_]]
  show#[_,_,c[i]!,c[i+1]!,Z,(r.2 i _ L).mono (ZD.tups e),(r.2 (i+1) _ M).mono (ZD.tups e),D i,D (i+1),λR J=>#[1,?_]]
  cases hc:VY c[i]! c[i+1]! with
  | true=>
   show Zo #[1,e.trans J,λj q=>?_];rcases yW j i with z | z
   .show b j z
   .have:j=i:=∅
    rwa[this,hc]
  | false=>show Zq (k R (e.trans J))
 rintro y o ⟨x,rfl,e,b⟩;rw[FB (ls:=c) ∅ ∅ λj q=>b j ∅] at I
 cases I
inductive Yx(jP jQ C:al):Sp
 |mk{S d m l:al}{e:jo}{g:jp}{j:Nat->jo}{k:Nat->Nat}{i:jE}{c:List (Zj×V)}{n:je}{a:jo}{H:Hp}{Q:VK}{E:XK}:Yz jP jQ H S d m e g j k i c n->WF e g->(∀ b∈a,b∈e)->↑a<=90->H l\.lst (iN a)->over (YF g a)=Y'->(∀ h,ZD H h->E (.ref C) Y' h)->Yx jP jQ C [.ref S,.ref l] H Q E
theorem kN(F:Zk K "put_stem" "Shelf.put_stem" JJ f fd)(T:Txt mg)(L:WD K mg jP jQ)(x:ZP P w K mg jS ZX 3 jP "labels_of" T0 (Yp jP jQ))(y:Zt P w K mg jS 9 "label_over" TD (We C)):
  ZI P w K mg jS (Yl P w) 10 f fd T0 (Yx jP jQ C):=by
 show F.okD XQ (λvs H Q E h=>(by induction h;rfl)) (λJ A p s H vs Q E u h=>?_)
 induction h
 rename_i S d U l W ts G N B o V a H Q E R O t I M m k
 let v:=XQ.nd;let n:=u.mono (show 3<=9 by lia)
 intro Xc;show#[_,ZL (Zh 2 v (VD LJ Z T.list Mj (ZM (pv 1))))
  (ZL (Zh 3 v (UD XA y u (ZM (WV (E:=E0) (pv 0) L.cS x n Xi (ZM (pv 2)))))) Mf),?_]
 exists 1,l,iN a,Z,.inl (ZH.of M);intro D X;let g:=Zr X (.lst (iN a));let b:upd H D (.lst (iN a)) D\.lst (iN a):=ZY;generalize upd H D (.lst (iN a))=H1 at g b⊢;let r:=R.same g;let#[e,j]:=r.sh.self;exists 1,S,e,1,j,Z,1,S,d,U,D,W,ts,G,N,B,o,V,a,Z,r,b,t,by lia
 intro D2 us H2 s2 Y i c;let q:=g.trans s2;let lu:↑us=↑a:=c.1.trans (zY _);show .mk i c (G1 O t) ∅ m λz s3=>k z (q.trans s3)
inductive XU(C:al):Sp
 |mk{l:al}{c:je}{a:jz}{H:Hp}{Q:VK}{E:XK}:H l\.lst c->jK H (WC a) c->(∀ r∈a,r.fit)->↑a<=90->¬ Vy a->(∀ b,ZD H b->E (.ref C) Y' b)->XU C [.ref l] H Q E
inductive Vh(d:je)(H:Hp)(Q:VK)(_:XK):Prop
 |mk(l:al)(b:je)(a:jq)(_:d=[.ref l])(_:H l\.lst b)(_:jK H a b)(_:∀ t∈a,t.fits 3=V')(_:↑b<=100)(_:∀ c,ZD H c->Q (.bl (NS a)) c)
theorem qw(F:Zk K "rise" "rise" KK f fd)(T:Txt mg)(X:ZC P w K mg jS 7 "ahead" Tx Xv):ZI P w K mg jS ZX 8 f fd TM Vh:=by
 show F.ok DZ (λvs H Q E h=>(by let#[_,_,_,rfl,_]:=h;rfl)) (λY A B s H vs Q E hr h=>?_)
 let#[l,c,q,rfl,O,y,N,L,k]:=h;let lk:=↑y;intro Xc;show#[_,ZR (Zl (Zp (K9 Z) Z T.all KO (ZM (VT [0] TM Z (KW Z T.range (Zb ZJ (Zp YO Z T.len YK (ZM (pv 0))))) (λ_ _ _ _ _=>VH)
  (λ_ _ _ _ _=>Ze X hr (Zb (YC K (pv 1) (ZW Ui (pv 0) ZJ)) (YC K (pv 1) (pv 0)))) #[Z,.inl Z,Z,trivial])))),?_]
 exists 1,l,c,Z,.inl (ZH.of O),(1),(↑c:Int),Z,#[∅,∅,∅,∅]
 show Wr (n:=((↑c:Int)-1).toNat) (λi x=>x=.int (1+(i:Int))) (λD i m d=>ZD H d/\H D=Y'/\m=((zG i).map λj=>(q.getD j (.int 0)).lt (q.getD (j+1) (.int 0))).map V.bl) (YQ ∅)
  (λD i m d u _=>u) (λD i m d x G u _ hy=>hy) (λD m d _=>zW _) (λD M=>#[Zr M _,M,Z]) (λD i m d x r a0 u hx t R hR=>?_) (λD m d r t=>?_)
 .subst hx;let#[g,z,rfl]:=t;let v:i+1<↑c:=∅
  let U:c[i]?\(c[i]'∅):=zU ∅
  let W:c[i+1]?\c[i+1]:=zU v;let e1:(1:Int)+(i:Int)=((i+1:Nat):Int):=∅
  let e0:(1:Int)+(i:Int)-1=((i:Nat):Int):=∅
  let#[a,I,ka]:=y.get U;let#[b,J,kb]:=y.get W;let p:=g _ _ O;show#[2,_,1,Z,.inl #[l,c,_,1,Z,ZH.of p,#v[e0,YW U],?_]]
  show#[2,.inl #[l,c,_,1,Z,ZH.of p,#v[e1,YW W],?_]]
  exists _,_,a,b,Z,ka.sm g,kb.sm g,N a (zI I),N b (zI J);intro G S;show hR _ G (S D _ r) #[λb o e=>#v[ZT (Zf e z),S b o (g b o e)],z,?_]
  rw[xA,yX,yX]
  congr 1
  change [V.bl (a.lt b)]=[V.bl ((q.getD i (.int 0)).lt (q.getD (i+1) (.int 0)))];rw[zO,zO,I,J];rfl
 .let#[g,z,rfl]:=t;exists D,1,ZH.of r;let e:((↑c:Int)-1).toNat=↑q-1:=∅
  rwa[e,k d g]
theorem mI(F:Zk K "checked_rows" "checked_rows" KZ f fd)(L:K.In jS)(T:Txt mg)(N:Jm K mg "NoLeaf" C)(Y:ZC P w K mg jS 8 "own_rows" T3 XL)(DR:ZC P w K mg jS 8 "rise" TM Vh):ZI P w K mg jS (Yl P w) 9 f fd T3 (XU C):=by
 show F.okD Xw (λvs H Q E h=>(by induction h;rfl)) (λa0 A M s H vs Q E V h=>?_)
 induction h
 rename_i l X y H Q E hl U G a1 nG k
 let nd:=Xw.nd;let lk:↑X=↑y:=by have:=↑U;rwa[<-this,zY _]
 let#[t4,m4]:=T.rows;intro Xc;show#[_,ZL (Zh 1 nd (Ze Y V (ZM (pv 0))))
  (ZL (Zx (PW.pt (Pe (Ux (Ke Qf Qf ZJ (Zp YO Z T.len YK (ZM (pv 1))) (Xo (v:=.int 4) Z m4 #[_,Z])))
   (Pc (Ux (WU (Ze DR V (ZM (VT [] [] Z (WQ (pv 1)) (λ_ _ _ _ _=>VH) (λ_ _ _ _ _=>YC K (pv 0) ZJ) trivial)))))))) (ZR (Io XA (HF L N.at_ N.exk) N.kp N.mB N.ty Z)) Z0)
  Mf),?_]
 exists 1,l,X,y,Z,hl,U,G,by lia
 intro p D b O nD q x;let ly:↑b=↑y:=by have:=↑x;rwa[<-this,zY _]
 exists 1,D,b,Z,.inl (ZH.of q),_,1,Z,_,Z;rcases yW ↑b 1 with h1 | h1
 .rw[aK (show ¬ (1:Int)<=(↑b:Int) by lia)]
  show Zo #[1,Zq (k p O)]
 rw[aM (show (1:Int)<=(↑b:Int) by lia)]
 show Zq #[_,1,Z,1,?_];rcases yW 4 ↑b with h4 | h4
 .rw[aK (show ¬ (↑b:Int)<=4 by lia)]
  show Zq (k p O)
 rw[aM (show (↑b:Int)<=4 by lia)]
 show Zo ?_;exists 1,D,Z,#[b,ZH.of q];show Wr (n:=↑b) (λi z=>b[i]?\z) (λe i o g=>ZD p g/\p e=Y'/\jK p ((y.map (·.1)).take i) o) (YQ ∅)
  (λe i o g I d=>#[b,b[i],ZH.of (d.1 _ _ q),by simp[I]]) (λe i o g z S I d W=>#[W.1,W.2 b (ZH.of (d.1 _ _ q))]) (λe o g d=>#[b,ZH.of (d.1 _ _ q),zW _])
  (λe u=>#[Zr u _,u,.nil]) (λe i o g z j a2 I hz d R hR=>?_) (λe o g j d=>?_)
 .let#[B,m,c]:=d;let#[a,vk,vv,er,rfl,e2,k1,_]:=NO x hz;show#[1,.inr (.inl #[a,_,_,vk,Z,Z,Zd.of (B _ _ e2),Z,?_])];show hR _ g j #[UJ B m,m,?_];rwa[yR,zF,er,c.append (.cons k1 .nil)]
 .let#[B,m,c]:=d;rw[yH (by rw[zY];lia)] at c
  let lz:=↑c;rw[zY] at lz;show#[e,o,1,j,c.sm B,λt ht=>?_,∅,λS s5=>#[1,?_]]
  .let#[r,J,rfl]:=zA.mp ht;show(G r J).1
  have:NS (y.map (·.1))=false:=uM.mpr λz=>nG #[G,∅,∅,wc z]
  rwa[this,Zq (k S ((O.trans B).trans s5))]
inductive Y0(jP jQ C:al):Sp
 |mk{S l:al}{c:je}{a:jz}{H:Hp}{Q:VK}{E:XK}:H l\.lst c->jK H (WC a) c->(∀ r∈a,r.fit)->↑a<=90->¬ Vy a->(∀ b,ZD H b->E (.ref C) Y' b)->Y0 jP jQ C [.ref S,.ref l] H Q E
theorem kq(F:Zk K "put_leaf" "Shelf.put_leaf" Lj f fd)(c:Zt P w K mg jS 9 "checked_rows" T3 (XU C)):ZI P w K mg jS (Yl P w) 10 f fd Tz (Y0 jP jQ C):=by
 show F.okD XG (λo H Q E h=>(by induction h;rfl)) (λd A b s H o Q E j h=>?_)
 induction h
 rename_i S l r q H Q E i g e a m k
 let n:=XG.nd;intro p;exists _,ZL (Zh 2 n (UD XA c j (ZM (pv 1)))) Mf;show#[1,.mk i g e a m k]
end
end Tw
namespace L2
open PySem PySem.Spec PyProof.Rows
theorem Fl:∀ l:List (Str×Tok),ZN ((l.map (·.1)).map V.str) (strValues l)
 | []=>.nil
 | _::l=>.cons #[1] (Fl l)
inductive Oq:V->je->Hp->VK->Prop
 |mk{x y:Str}{H:Hp}{Q:VK}:↑x<=au->(↑y==0)=false->(∀ p,H p=Y'->Q (.ref p) (upd H p (.tup [.str (Txt.partition x y).1,.str (Txt.partition x y).2.1,.str (Txt.partition x y).2.2])))->Oq (.str x) [.str y] H Q
theorem sr:MK X "str.partition" Oq:=by
 intro c s p H x n v m Q I k j h
 cases h with
 | mk d f q=>
  rename_i x y
  let#[t,rfl]:=k;let#[u,rfl,g]:=UG j;let#[l,rfl]:=g;show call_meets pV (typeIs_str _ _ _) PySem.F.entry_str_partition (PySem.F.args_str_partition_2 _ _) (meets_str_partition x y t l f d) ?_;let a:=q s.heap.objs.size (I.hok.fresh (zW _));unfold Txt.partition at a
  revert a
  cases Builtin.Str.occurrences x y 0 ↑x 1 with
  | nil=>
   intro a;show#[.ref s.heap.objs.size,_,?_,Z,a];show I.laid (o:=.tup [.str _,.str _,.str _]) (λb o e=>zL _ e) (zW _) #[by change 3<=au;decide,_,.cons #[1] (.cons #[_,Z] (.cons #[_,Z] .nil)),#[_,yO _ Z,Z,1]]
  | cons i r=>
   intro a;show#[.ref s.heap.objs.size,_,?_,Z,a];show I.laid (o:=.tup [.str _,.str _,.str _]) (λb o e=>zL _ e) (zW _) #[by change 3<=au;decide,_,.cons #[1] (.cons #[_,Z] (.cons #[_,Z] .nil)),#[_,yO _ Z,Z,1]]
inductive Qa:V->je->Hp->VK->Prop
 |mk{x y:Str}{H:Hp}{Q:VK}:↑x+2<=au->(↑y==0)=false->(∀ p,H p=Y'->Q (.ref p) (upd H p (.lst ((Txt.split x y).map V.str))))->Qa (.str x) [.str y] H Q
theorem AZ:MK X "str.split" Qa:=by
 intro d s D H x K v J Q I C B h
 cases h with
 | mk G p q=>
  rename_i x y
  let#[t,rfl]:=C;let#[u,rfl,A]:=UG B;let#[i,rfl]:=A;let m:↑(Builtin.Str.partsBetween x (Builtin.Str.occurrences x y 0 ↑x (↑x+1)) ↑y)<=sizeLine:=by
   let E:=StrLaws.occ_length_le x y 0 ↑x (↑x+1);rw[length_partsBetween];lia
  let z:=q s.heap.objs.size (I.hok.fresh (zW _));let a:∀(l:List (Str×Tok))(k:Nat),l.map (·.1)=Txt.split x y->↑l<=au->∃(r:V)(j:Hp),ZF X d D j { s with toks:=k,heap:=s.heap.push { cls:=.type "list",data:=.seq ⇑(strValues l) } }/\ZQ r (.ref s.heap.objs.size)/\Q r j:=λl k f w=>by
   show#[.ref s.heap.objs.size,_,I.laid (t':=k) (λb o e=>zL _ e) (zW _) ?_,Z,z];let n:=Fl l;rw[f] at n;show#[by rwa[zY,<-f,zY,w],strValues l,_,n,yO _ Z]
  cases c:(decide (↑x<↑y) || decide (Builtin.Str.strKind x<Builtin.Str.strKind y))
  .cases g:(Builtin.Str.occurrences x y 0 ↑x (↑x+1)).isEmpty
   .show call_meets rN (typeIs_str _ _ _) qI (qG _ _) (meets_str_split_sep x y t i c p g ∅ m) ?_
    rw[strsFrom_eq];let f:(numbered s.toks (Builtin.Str.partsBetween x (Builtin.Str.occurrences x y 0 ↑x (↑x+1)) ↑y)).map (·.1)=Txt.split x y:=(numbered_texts s.toks (Builtin.Str.partsBetween x (Builtin.Str.occurrences x y 0 ↑x (↑x+1)) ↑y)).trans ((aO (ne_true_of_eq_false c)).trans (aO (ne_true_of_eq_false g))).symm;show a _ _ f (by
     have:=congrArg xI (numbered_texts s.toks (Builtin.Str.partsBetween x (Builtin.Str.occurrences x y 0 ↑x (↑x+1)) ↑y));rw[zY] at this;rwa[this,m])
   .show call_meets rN (typeIs_str _ _ _) qI (qG _ _) (meets_str_split_not_found x y t i c p g) (a [(x,t)] s.toks ((aO (ne_true_of_eq_false c)).trans (aP g)).symm (by change 1<=au;decide))
  .show call_meets rN (typeIs_str _ _ _) qI (qG _ _) (meets_str_split_cannot_occur x y t i c) (a [(x,t)] s.toks (aP c).symm (by change 1<=au;decide))
end L2
namespace L2
open PySem PySem.Spec PyProof.Rows PySem.Builtin PySem.Builtin.Str
abbrev ZS(l:jo):Str:=#[⇑l]
theorem MI:zX " " = #[⇑[32]]:=by
 apply Str.ext';decide +kernel
theorem Q7{x:Str}{l:jo}(h:x.cps.toList=l):x=ZS l:=by
 apply Str.ext';apply uO.mp;rw[h]
theorem mR{a b:jo}(j:32∉a):Txt.partition (ZS (a++32::b)) #[⇑[32]]=(ZS a,#[⇑[32]],ZS b):=by
 let l:↑(ZS (a++32::b))=↑a+(↑b+1):=by
  change (a++32::b).toArray.size=_;simp
 let c:∀ i,StrLaws.At (ZS (a++32::b)) #[⇑[32]] ↑(ZS (a++32::b)) i ↔ (a++32::b)[i]? = Z' 32:=λi=>StrLaws.subAt_one (ZS (a++32::b)) 32 i;let g:(a++32::b)[a.length]?\32:=by simp
 unfold Txt.partition;rcases StrLaws.occ_head (ZS (a++32::b)) ⟨⇑[32]⟩ 1 (zW 1) with ⟨e,d⟩ | ⟨i,r,e,k,d⟩
 .show absurd ((c _).mpr g) (d _)
 .let f:=(c i).mp k;let h:i=↑a:=by
   rcases Nat.lt_trichotomy i ↑a with z | z | z
   .rw[wS z] at f;show absurd (zI f) j
   .show z
   .show absurd ((c _).mpr g) (d _ z)
  rw[e];subst h;change (strSub (ZS (a++32::b)) 0 ↑a,(#[⇑[32]]:Str),strSub (ZS (a++32::b)) (↑a+1) ↑(ZS (a++32::b)))=_;rw[show strSub (ZS (a++32::b)) 0 ↑a=ZS a from Q7 (by rw[StrLaws.strSub_toList];simp),show strSub (ZS (a++32::b)) (↑a+1) ↑(ZS (a++32::b))=ZS b from Q7 (by
   rw[StrLaws.strSub_toList,l];change ((a++32::b).drop (↑a+1)).take _=_;rw[<-vF,uT];simp only[uF,tU];show yH ∅)]
def jn:List (jo)->jo
 | []=>[]
 | t::r=>t++r.flatMap λu=>32::u
theorem Lw(l:List (jo)):glued #[⇑[32]] (l.map ZS)=ZS (jn l):=by
 let b:∀(r:List (jo))(a:jA),(r.map ZS).foldl (λa p=>a++(⇑[32]:jA)++p.cps) a=a++⇑(r.flatMap λu=>32::u):=λr=>by
  induction r with
  | nil=>intro a;simp
  | cons t r c=>
   intro a;rw[yT,zEF,c,xX];apply uO.mp;simp
 cases l with
 | nil=>rfl
 | cons t r=>
  unfold glued jn;change (#[((r.map ZS).foldl (λa p=>a++(⇑[32]:jA)++p.cps) ⇑t)]:Str)=_;rw[b];apply Str.ext';apply uO.mp;simp
theorem zz:∀{l m:List (jo)},l≠[]->m≠[]->(∀ t∈l,32∉t)->(∀ t∈m,32∉t)->jn l=jn m->l=m:=by
 let f:∀{a b c d:jo},32∉a->32∉b->(c=[]\/∃ z,c=32::z)->(d=[]\/∃ z,d=32::z)->a++c=b++d->a=b/\c=d:=fun{a}=>by
  induction a with
  | nil=>
   intro b c d _ n o p e
   cases b with
   | nil=>show#[Z,e]
   | cons x b=>
    rcases o with rfl | ⟨z,rfl⟩
    .cases e
    .injection e with e1 e2;show absurd (e1 ▸ zQ) n
  | cons y a q=>
   intro b c d v n o p e
   cases b with
   | nil=>
    rcases p with rfl | ⟨z,rfl⟩
    .cases e
    .injection e with e1 e2;show absurd (e1 ▸ zQ) v
   | cons x b=>
    injection e with e1 e2;let#[h,i]:=q (λz=>v (zM _ z)) (λz=>n (zM _ z)) o p e2;show#[by rw[e1,h],i]
 let k:∀ r:List (jo),(r.flatMap λu=>32::u)=[]\/∃ z,(r.flatMap λu=>32::u)=32::z:=λr=>by
  cases r with
  | nil=>show .inl Z
  | cons t r=>show .inr #[1]
 let j:∀{r s:List (jo)},(∀ t∈r,32∉t)->(∀ t∈s,32∉t)->(r.flatMap λu=>32::u)=(s.flatMap λu=>32::u)->r=s:=fun{r}=>by
  induction r with
  | nil=>
   intro s _ _ e
   cases s with
   | nil=>rfl
   | cons t s=>cases e
  | cons a r q=>
   intro s B C e
   cases s with
   | nil=>cases e
   | cons b s=>
    rw[xX,xX] at e;injection e with _ e;let#[h,i]:=f (B a zQ) (C b zQ) (k r) (k s) e;rw[h,q (λt g=>B t (zM _ g)) (λt g=>C t (zM _ g)) i]
 intro l m D E w A e
 cases l with
 | nil=>show absurd Z D
 | cons a r=>
  cases m with
  | nil=>show absurd Z E
  | cons b s=>
   let#[h,i]:=f (w a zQ) (A b zQ) (k r) (k s) e;rw[h,j (λt g=>w t (zM _ g)) (λt g=>A t (zM _ g)) i]
theorem Bu{l:List (jo)}(j:l≠[])(g:∀ t∈l,32∉t):Txt.split (ZS (jn l)) #[⇑[32]]=l.map ZS:=by
 let a:=StrLaws.join_split (ZS (jn l)) #[⇑[32]];let d:=StrLaws.split_free (ZS (jn l)) 32;let b:=split_pos (ZS (jn l)) #[⇑[32]];generalize Txt.split (ZS (jn l)) #[⇑[32]]=m at a d b⊢;let c:m=(m.map λs=>s.cps.toList).map ZS:=by
  rwa[vI,(List.map_id m).symm.trans (rH λs _=>Q7 Z)]
 let e:jn (m.map λs=>s.cps.toList)=jn l:=by
  have:=Lw (m.map λs=>s.cps.toList);rw[<-c] at this;let a:glued #[⇑[32]] m=ZS (jn l):=by
   rw[<-a]
   cases m with
   | nil=>show absurd b (by decide)
   | cons x r=>show StrLaws.glued_cons _ r x
  rw[this] at a;have:=congrArg (λs:Str=>s.cps.toList) a;simpa using this
 let f:=zz (l:=m.map λs=>s.cps.toList) (m:=l) (λz=>by rw[uE] at z;rw[z] at b;show absurd b (by decide)) j (λt i=>by
  let#[s,h,rfl]:=zA.mp i;show d s h) g e
 rw[c,f]
end L2
namespace L2
open PySem PySem.Spec PyProof.Rows
def Ft(n:Nat):It:=#[λi _=>i<n,λi H x a=>a=H/\x=.int (2 * (i:Nat)),λi _=>n<=i]
theorem ri{P:ao}{w:ax}{K:zZ}{O:Expr}(c:al)(n:Nat):Vn P w K O (Ft n) [c] c (λi h=>IsRangeIter h c (0+(i:Nat) * 2) ((n:Int)-(i:Nat)) 2) where
 mem:=by simp
 obj:=λi h a b f=>by
  let e:b=c:=by simpa using f
  subst e;show#[_,a,λv z=>by
   let Q:Data.fields _=Data.cell v:=z;cases Q]
 keep:=λi h j a k=>k c ⋯ _ a
 item:=by
  intro X y C x A i d s F H E I l a B;subst y C x;let#[m,p,L,q,r,u]:=l c ⋯
  let W:=Walks.range (prog:=X.prog) (w:=X.w) (I.ok.hd A) c 0 2 n;show W.item i s _ _ B a λv j D M g N=>?_;let#[t,rfl]:=M;let G:ZF X d F H { s with heap:=j,toks:=D }:=I.turned (λb o f e=>N b o (by simpa using f) e) m p q r u
  show#[1,Me (s:={ s with heap:=j,toks:=D }) (n:= "range_iterator") g Z Z (by decide) #[.int (2 * (i:Nat)),H,G,#[t,?_],#[Z,Z],g,λb f=>(l b f).1]]
  rw[show (0:Int)+(i:Int) * 2=2 * (i:Nat) by lia]
 done:=by
  intro X y C x A i d s F H E I l a B;subst y C x;let#[m,p,L,q,r,u]:=l c ⋯
  show wpAny_pyNext_range_end (I.ok.hd A) a (by have:n<=i:=B;lia) λj J=>#[Z,I.turned (t':=s.toks) (λb o f e=>J b o f e) m p q r u]
 self:=λ_ _ _ _ _ a h=>wpAny_pyIter_rangeiter a h
section
variable{tg:Expr}
inductive My(R:It->Hp->Prop)(b:je)(a:Hp):Prop
 |mk(n:Nat)(_:b=[.int 0,.int (2 * (n:Nat)),.int 2])(_:n<=1000)(_:R (Ft n) a)
def SA(b:TA):TI:=λd H R=>b d H λc a=>My R c a
theorem Cc(n:Nat):Builtin.Range.rangeSize 0 (2 * (n:Nat)) 2=n:=by
 unfold Builtin.Range.rangeSize;rw[aP (by decide)]
 split
 .lia
 .lia
theorem xo{a b c:Expr}{m:TA}{p i:aJ}(C:Gl X "range")(D:X.mg "range" = Y')(A:PA X [a,b,c] m)(E:aw [a,b,c] X.env=[(false,aH a X.env),(false,aH b X.env),(false,aH c X.env)]:=by rfl)(g:aw [b,c] X.env=[(false,aH b X.env),(false,aH c X.env)]:=by rfl):
  PI X tg (.Call (.Name "range" p) [a,b,c] [] i) (SA m):=by
 intro d s w H R I h;show Call_ (NA I C D boot_range (PyProof.Rows.callWith_type1 (Z8 (A i d s w H _ I h) λM f N l x J F=>?_) (by rw[E,g]) (by rw[g];rfl)))
 let#[n,e,L,q]:=F;subst e
 cases J with
 | cons r j=>
  cases j with
  | cons G j=>
   cases j with
   | cons K j=>
    cases j;let#[t,rfl]:=r;let#[u,rfl]:=G;let#[v,rfl]:=K;show call_range_3 (by decide) ?_ (.inl (PyProof.noPylong_small ∅))
    show wpAny_pyIter_range (IsRange.new ..) ?_ ?_
    .unfold Builtin.Range.small;rw[Cc];unfold Builtin.Range.rangeFitsLong;simp
     lia
    .let k:ZF X d w l { f with heap:=f.heap.push { cls:=.type "range",data:=.fields ⇑[.int 0 t,.int (2 * (n:Nat)) u,.int 2 v] },toks:=f.toks }:=x.kept λb o e=>zL _ e;show#[(f.heap.push { cls:=.type "range",data:=.fields ⇑[.int 0 t,.int (2 * (n:Nat)) u,.int 2 v] }).objs.size,[(f.heap.push { cls:=.type "range",data:=.fields ⇑[.int 0 t,.int (2 * (n:Nat)) u,.int 2 v] }).objs.size],_,_,l,Z,
      k.kept (t':=f.toks) λb o e=>zL _ e,ri _ n,?_,λb B=>?_,q]
     .let y:(0:Int)+((0:Nat):Int) * 2=0:=by simp
      let z:((n:Nat):Int)-((0:Nat):Int)=Builtin.Range.rangeSize 0 (2 * (n:Nat)) 2:=by rw[Cc];lia
      change IsRangeIter _ _ ((0:Int)+((0:Nat):Int) * 2) (((n:Nat):Int)-((0:Nat):Int)) 2;rwa[y,z,yO _ Z]
     .let e:b=(f.heap.push { cls:=.type "range",data:=.fields ⇑[.int 0 t,.int (2 * (n:Nat)) u,.int 2 v] }).objs.size:=by simpa using B
      subst e;show k.fpOk (zW _) (k.hok.fresh (zW _))
end
end L2
namespace Tw
open PySem PySem.Spec L2 PyProof.Rows
variable{jP jQ CS CT CH CK CP CB:al}
def w0:jo->jo
 | []=>[]
 | c::l=>if c=32 then [] else c::w0 l
def w1:jo->jo
 | []=>[]
 | c::l=>if c=32 then l else w1 l
theorem FU{l:jo}(h:32∉l):w0 l=l/\w1 l=[]:=by
 induction l with
 | nil=>show#[Z,Z]
 | cons c l e=>
  let d:c≠32:=λz=>h #v[z,zQ]
  let#[a,b]:=e λz=>h (zM _ z);show#[by rw[w0,aO d,a],by rw[w1,aO d,b]]
theorem Um{a b:jo}(h:32∉a):w0 (a++32::b)=a/\w1 (a++32::b)=b:=by
 induction a with
 | nil=>show#[aP Z,aP Z]
 | cons c l e=>
  let d:c≠32:=λz=>h #v[z,zQ]
  let#[p,q]:=e λz=>h (zM _ z);show#[by rw[xU,w0,aO d,p],by rw[xU,w1,aO d,q]]
theorem B6:∀(l:jo),32∈l->∃ a b,l=a++32::b/\32∉a
 | [],h=>by cases h
 | c::l,h=>by
  by_cases d:c=32
  .show#[[],l,by rw[d];rfl,vD]
  .let#[a,b,e,n]:=B6 l ((zN.mp h).resolve_left λz=>d z.symm);show#[c::a,b,by rw[e];rfl,λz=>(zN.mp z).elim (λy=>d y.symm) n]
theorem Gv(l:jo):(Txt.partition (ZS l) #[⇑[32]]).1=ZS (w0 l)/\(Txt.partition (ZS l) #[⇑[32]]).2.2=ZS (w1 l):=by
 by_cases h:32∈l
 .let#[a,b,rfl,n]:=B6 l h;rwa[mR n,(Um n).1,(Um n).2,#[Z,Z]]
 .rw[(FU h).1,(FU h).2];unfold Txt.partition;rcases StrLaws.occ_head (ZS l) ⟨⇑[32]⟩ 1 (zW 1) with ⟨c,e⟩ | ⟨i,r,c,d,e⟩
  .rwa[c,#[Z,Z]]
  .show absurd (zI ((StrLaws.subAt_one (ZS l) 32 i).mp d)) h
def Om(C:al)(i:Nat)(E:XK)(H:Hp)(X:YG)(d:al):Prop:=∀ b a,(∀ c o,Wl X d c->H c\o->a c\o)->a b\.xd [("at",.int (i:Int))]->E (.ref C) (Z' b) a
theorem Om.rf{C:al}{i:Nat}{E:XK}{H:Hp}{X:YG}{d:al}(r:Om C i E H X d):Rf C i E H:=λb a s e=>r b a (λc o _ q=>s c o q) e
theorem Om.mono{C:al}{i:Nat}{E:XK}{H b:Hp}{X:YG}{a:al}(r:Om C i E H X a)(s:∀ c o,Wl X a c->H c\o->b c\o):Om C i E b X a:=λg d h e=>r g d (λc o f q=>h c o f (s c o f q)) e
section
variable{C CNT CNL CNS jP jQ:al}
inductive XX(K:zZ)(C:al):Sp
 | told {l:jo} {v:V} {H:Hp} {Q:VK} {E:XK}:↑(ZS l)<=au->(∀(H':Hp)(p:al),ZD H H'->H p=Y'->H' p\.tup [.str (ZS (w0 l)),.str (ZS (w1 l))]->Q (.ref p) H')->XX K C [.str (ZS l),v] H Q E
 | no {v:V} {ty:ak} {i:Nat} {H:Hp} {Q:VK} {E:XK}:Y5 K H v ty->xY K ty (.type "str")\false->Rf C i E H->XX K C [v,.int (i:Int)] H Q E
theorem Ul:ZB ["row","at","parts"] Th (Za Jt):=Z2
theorem qu(F:Zk K "words_of" "words_of" Jt f fd)(T:Txt mg)(N:XR P w K mg jS C):ZI P w K mg jS (Yl P w) 3 f fd Th (XX K C):=by
 show F.okD Ul (λz H Q E h=>(by induction h <;> rfl)) (λe A c s H z Q E n h=>?_)
 let t:=Ul.nd;intro D;show#[_,ZL (Zx (Ux (WU (Zp QH Z T.isi UK (Zb (pv 0) (U3 (v:=.ty "str") Z T.str UL Z))))) (ZR (Nu XA N n (ZM (pv 1)))) Z0)
  (ZL (Zh 2 t (Vo vN pV PySem.F.type_str_partition sr (pv 0) (ZM Zu)))
  (ZR (Zl (Y2 (Zb (XI K (pv 2) ZJ) (XI K (pv 2) ZJ)))))),?_]
 induction h with
 | told j k=>
  rename_i l v H Q E
  exists 1,_,_,_,1,.str _,MP,_,Z;show Zo ?_;exists _,Z;rw[MI];show#[Z,.mk j Z λp u=>?_];rw[(Gv l).1,(Gv l).2];generalize (Txt.partition (ZS l) #[⇑[32]]).2.1=m;let g:=Zr u (.tup [.str (ZS (w0 l)),.str m,.str (ZS (w1 l))]);let b:=ZY (H:=H) (a:=p) (o:=.tup [.str (ZS (w0 l)),.str m,.str (ZS (w1 l))]);generalize upd H p (.tup [.str (ZS (w0 l)),.str m,.str (ZS (w1 l))])=B at g b⊢;exists 1,p,_,_,1,Z,Zd.of b,Z,1,p,_,_,1,Z,Zd.of b,Z,Ym;intro x d;show k _ x (g.trans (Zr d _)) (g.free d) ZY
 | no y q r=>
  show#[1,_,_,_,1,y,q,1,Zq #[2,λG i=>r.go (ZD.refl _) i]]
inductive Yc(C:al):Sp
 | told {D:al} {kvs:List (Zj×V)} {x:Str} {u v:V} {H:Hp} {Q:VK} {E:XK}:L2.Rd H D (.dK kvs)->YS kvs (.inr x)\v->Q v H->Yc C [.ref D,.str x,u] H Q E
 | no {D:al} {kvs:List (Zj×V)} {x:Str} {i:Nat} {H:Hp} {Q:VK} {E:XK}:L2.Rd H D (.dK kvs)->YS kvs (.inr x)=Y'->Rf C i E H->Yc C [.ref D,.str x,.int (i:Int)] H Q E
theorem qs:ZB TU TU (Za Gn):=Z2
theorem nV(F:Zk K "number_for" "number_for" Gn f fd)(N:XR P w K mg jS C):ZI P w K mg jS (Yl P w) 3 f fd TU (Yc C):=by
 show F.okD qs (λl H Q E h=>(by induction h <;> rfl)) (λj A d s H l Q E e h=>?_)
 let g:=ZU.key e (n:=1) (by decide)
 intro m;exists _,ZL (Zx (Ps (Iy g (pv 1) (pv 0))) (ZR (Nu XA N e (ZM (pv 2)))) Z0) (ZR (Zl (GO g (pv 0) (pv 1))))
 induction h with
 | told b c q=>
  rename_i D a x u v H Q E
  show#[2,D,Z' v,Z,.inl #[a,.inr x,b,Z,c.symm],1,Zo #[2,D,v,Z,.inl #[a,.inr x,b,Z,c.symm],q]]
 | no b c r=>
  rename_i D a x i H Q E
  show#[2,D,Y',Z,.inl #[a,.inr x,b,Z,c.symm],1,Zq #[2,λo k=>r.go (ZD.refl _) k]]
inductive YR(C:al):Sp
 | none {D:al} {u:V} {H:Hp} {Q:VK} {E:XK}:Q .non H->YR C [.ref D,.str (ZS [45]),u] H Q E
 | num {D:al} {x:Str} {u:V} {H:Hp} {Q:VK} {E:XK}:x≠ZS [45]->Yc C [.ref D,.str x,u] H Q E->YR C [.ref D,.str x,u] H Q E
theorem mn:ZB TU TU (Za Hi):=Z2
theorem Ca:zX "-" = ZS [45]:=Q7 (by decide +kernel)
theorem kK(F:Zk K "read_root" "read_root" Hi f fd)(b:Zt P w K mg jS 3 "number_for" TU (Yc C)):ZI P w K mg jS (Yl P w) 4 f fd TU (YR C):=by
 show F.okD mn (λg H Q E h=>(by induction h <;> rfl)) (λc A a s H g Q E d h=>?_)
 intro i;exists _,ZL (Zx (Z6 Y4 (pv 1) Zu (Zz _)) (ZR (Zl KI)) Z0) (ZR (Zl (UD XA b d (QB (pv 0) (pv 1) (pv 2)))))
 induction h with
 | none q=>
  exists 1,Z,_,Z;rwa[Ca,aM Z,Zq q]
 | num e h=>
  exists 1,Z,_,Z;rwa[Ca,aK λz=>e (V.str.inj z),Zo #[3,h]]
def X6(a:jz):jq:=a.flatMap λr=>[r.1,r.2]
theorem Np(a:jz):↑(X6 a)=2 * ↑a:=by
 induction a with
 | nil=>rfl
 | cons r a b=>
  change ↑(X6 a)+1+1=2 * (↑a+1)
  lia
theorem xf:∀(a:jz)(i:Nat)(r:Ya),a[i]?\r->(X6 a)[2 * i]?\r.1/\(X6 a)[2 * i+1]?\r.2:=λa=>by
 induction a with
 | nil=>intro i r h;cases h
 | cons x a b=>
  intro i r h
  cases i with
  | zero=>cases h;show#[Z,Z]
  | succ i=>show b i r h
theorem AO:∀(n:Nat)(c:jq),↑c=2 * n->∃ d,c=X6 d/\↑d=n
 | 0,c,h=>#[[],wU ∅,Z]
 | n+1,[],h=>by simp at h
 | n+1,[a],h=>by simp at h;lia
 | n+1,a::b::c,h=>by
  let#[d,e,l]:=AO n c (by simp at h;lia)
  show#[(a,b)::d,by rw[e];rfl,by rw[zV,l]]
inductive Xp(C:al):Sp
 | told {l:al} {us:je} {rs:jz} {v:V} {H:Hp} {Q:VK} {E:XK}:H l\.lst us->jK H (X6 rs) us->↑rs<=400->(∀(H':Hp)(D:al)(ws:je),ZD H H'->H D=Y'->H' D\.lst ws->jK H' (WC rs) ws->Q (.ref D) H')->Xp C [.ref l,v] H Q E
 | no {l:al} {us:je} {i:Nat} {H:Hp} {Q:VK} {E:XK}:H l\.lst us->↑us % 2=1->Rf C i E H->Xp C [.ref l,.int (i:Int)] H Q E
theorem Uo:ZB Tr Tr (Za Jy):=Z2
theorem pN(F:Zk K "pairs_of" "pairs_of" Jy f fd)(T:Txt mg)(N:XR P w K mg jS C):ZI P w K mg jS (Yl P w) 3 f fd Tr (Xp C):=by
 show F.okD Uo (λvs H Q E h=>(by induction h <;> rfl)) (λa0 A S s H vs Q E hr h=>?_)
 let nd:=Uo.nd;intro Xc;show#[_,ZL (Zx (Z6 NW (ZW OR (Zp YO Z T.len YK (ZM (pv 0))) ZJ) ZJ (Zz _)) (ZR (Nu XA N hr (ZM (pv 1)))) Z0)
  (ZR (Zl (VT [0] ["things"] Z (xo Z T.range (QB ZJ (Zp YO Z T.len YK (ZM (pv 0))) ZJ)) (λ_ _ _ _ _=>VH) (λ_ _ _ _ _=>Y2 (Zb (YC K (pv 1) (pv 0)) (YC K (pv 1) (ZW Yo (pv 0) ZJ)))) #[Z,.inl Z,Z,trivial]))),?_]
 induction h with
 | no x a2 r=>
  rename_i l c i H Q E
  exists 1,l,c,Z,.inl (ZH.of x),_,1,Z,(show (0:Int)<2 by decide),Z,_,Z
  rw[show (!decide (V.int (((↑c:Nat):Int) % 2)=V.int 0))=V' by rw[aK (λz=>by have:=V.int.inj z;lia)];rfl]
  show Zq #[2,λdx hd=>r.go (ZD.refl _) hd]
 | told x hk l4 k=>
 rename_i l c d v H Q E
 let lu:↑c=2 * ↑d:=by rwa[<-↑hk,Np d]
 exists 1,l,c,Z,.inl (ZH.of x),_,1,Z,(show (0:Int)<2 by decide),Z,_,Z
 rw[lu,show (!decide (V.int (((2 * ↑d:Nat):Int) % 2)=V.int 0))=false by rw[aM (by congr 1;lia)];rfl]
 show Zo #[1,l,c,Z,.inl (ZH.of x),↑d,by rw[lu];rfl,∅,?_]
 show Wr (n:=↑d) (λi z=>z=.int (2 * (i:Nat))) (λD i m j=>ZD H j/\H D=Y'/\jK j (WC (d.take i)) m) (YQ ∅)
  (λD i m j J q=>J) (λD i m j z t J q hy=>hy) (λD m j q=>zW _) (λD hD=>#[Zr hD _,hD,.nil]) (λD i m j z G a1 J hz q R hR=>?_) (λD m j G q=>?_)
 .let#[B,M,L]:=q;subst hz;let Y:d[i]?\d[i]:=zU J;let#[f1,f2]:=xf d i _ Y;let u:=hk.sm B;let y:=B _ _ x;let u1:c[2 * i]?\(c[2 * i]'∅):=zU _
  let u2:c[2 * i+1]?\(c[2 * i+1]'∅):=zU _
  let#[t1,U,k1]:=u.get u1;let#[t2,W,k2]:=u.get u2;rw[f1] at U;rw[f2] at W;cases U;cases W;show#[2,.inl #[l,_,_,1,Z,ZH.of y,YW u1,?_]];let ei:(2 * (i:Nat):Int)+1=((2 * i+1:Nat):Int):=∅
  show#[2,_,1,Z,.inl #[l,_,_,1,congrArg V.int ei,ZH.of y,YW u2,?_]];exists Ym;intro p np;let g:=Zr np (.tup [c[2 * i]'∅,c[2 * i+1]'∅])
  let X:=ZY (H:=j) (a:=p) (o:=.tup [c[2 * i]'∅,c[2 * i+1]'∅])
  generalize upd j p (.tup [c[2 * i]'∅,c[2 * i+1]'∅])=t at g X⊢
  show hR _ t (g _ _ G) #[λb o e=>#v[ZT (Zf e M),g _ _ (B _ _ e)],M,?_]
  let I:XB t (upd t D (.lst (m++[.ref p]))):=((ZA.refl D t).upd (o:=.lst (m++[.ref p]))).tups (g _ _ G);let O:WC (d.take (i+1))=WC (d.take i)++[.tup [d[i].1,d[i].2]]:=by
   rw[yR,Y];unfold WC;rw[yX];rfl
  rwa[O,((L.sm g).mono I _ _).append (.cons (.tup (I _ _ X) (.cons ((k1.sm g).mono I _ _) (.cons ((k2.sm g).mono I _ _) .nil))) .nil)]
 .let#[B,M,L]:=q;rw[yH (zW _)] at L;show k j D m B M G L
end
theorem vl(n:Nat)(a:Nat->jo):UW [] n a=a:=funext λi=>aO ⋯
theorem vm(a:Nat->Nat):QM [] a=a:=funext λi=>aO ⋯
theorem xc{gt:jo}{b:jp}{i:Nat}{a:jz}(g:Vy a):V4 gt b i (U5 a):=
 #[λz=>by have:=g.2.1;rw[show (U5 a).rows=a from rfl] at z;rw[z] at this;simp at this,g.2.2.2,g.1,λ_=>#[Z,g.2.2.1],λz=>absurd Z z]
theorem Fc{b:jz}(h:∀ r∈b,r.fit):∀ t∈X6 b,t.fits 3=V':=λt d=>by
 let#[r,a,c]:=wB.mp d;rcases zN.mp c with z | z
 .rwa[z,(h r a).1]
 .rwa[zP.mp z,(h r a).2]
theorem pr{b:jz}(h:∀ t∈X6 b,t.fits 3=V'):∀ r∈b,r.fit:=λr a=>
 #[h _ (wB.mpr #[r,a,zQ]),h _ (wB.mpr #[r,a,zM _ zQ])]
inductive VR(x:jo):Prop
 | read:Uz true x ≠ -1->VR x
 | keys {ks:jq}:x=shownL ks->(∀ t∈ks,t.fits 3=V')->↑ks<=180->(∀ rs,ks=X6 rs->¬ Vy rs)->VR x
structure XH(K:zZ)(mg:jb)(C CNT CNL CNS:al):Prop where
 nt:mg "NoText" = Z' (.ref CNT)
 nl:mg "NoLeaf" = Z' (.ref CNL)
 ns:mg "NoStem" = Z' (.ref CNS)
 tt:yN K (.ref CNT)\.type "type"
 tl:yN K (.ref CNL)\.type "type"
 ts:yN K (.ref CNS)\.type "type"
 bt:yS K CNT (.type "BaseException")\true
 bl:yS K CNL (.type "BaseException")\true
 bs:yS K CNS (.type "BaseException")\true
 h1:VV K CNT [CNT,CNL]\true
 h2:VV K CNL [CNT,CNL]\true
 h3:VV K C [CNT,CNL]\false
 h4:VV K CNS [CNS]\true
 n1:Vw K CNT (· != "NoRow")=V'
 n2:Vw K CNL (· != "NoRow")=V'
 n3:Vw K CNS (· != "NoRow")=V'
section
variable{C CNT CNL CNS jP jQ:al}
theorem HW{l:jv}{E:XK}{t:L2.St}{d:Hp}{i j:Nat}{a:al}{s:jx}(h:VV K a l\true)(n:Vw K a (· != "NoRow")=V')(u:t[j]?\Z' (.int (i:Int)))(r:∀ b e,(∀ c o,d c\o->e c\o)->e b\.xd [("at",.int (i:Int))]->E (.ref C) (Z' b) e):
  IH K l C "at" (YI (Y9 j) V0) E t (.ref a) s d:=by
 show#[a,Z,.inl #[h,n,λp k=>#[_,u,1,ZY,λb g=>r b _ (λc o q=>?_) ZY]]];let m:upd d p (XO OF p a s) c\o:=#v[ZT (Zf q k),q]
 rwa[ZT (Zf m g),m]
inductive Yg(C jP jQ:al):Sp
 |mk{X:YG}{lk:al}{ls:je}{U:Nat->Prop}{g:Nat->Nat}{o:jo}{x:Str}{rs:jz}{v:V}{H:Hp}{Q:VK}{E:XK}:Sd jP jQ H X lk ls U g o->↑X.lv<=900->↑x<=1000000->x.cps.toList=shownL (X6 rs)->Vy rs ->
  (∀(H':Hp)(X':YG),Go lk H H' X X'->Sd jP jQ H' X' lk ls U g (↑X.ts::o)->X'.ts=X.ts++[U5 rs]->X'.lv=X.lv++[↑X.ts]->Q (.int (↑X.ts:Nat)) H')->Yg C jP jQ [.ref X.S,.str x,v] H Q E
 | no {X:YG} {lk:al} {ls:je} {U:Nat->Prop} {g:Nat->Nat} {o:jo} {x:Str} {i:Nat} {H:Hp} {Q:VK} {E:XK}:Sd jP jQ H X lk ls U g o->↑x<=1000000->VR x.cps.toList->Rf C i E H->Yg C jP jQ [.ref X.S,.str x,.int (i:Int)] H Q E
theorem lV:ZB Tj Tj (Za Gc):=Z2
theorem kB(F:Zk K "read_leaf" "read_leaf" Gc f fd)(L:WD K mg jP jQ)(N:XR P w K mg jS C)(j:XH K mg C CNT CNL CNS)(DL:ZP P w K mg jS (Yl P w) 10 jP "put_leaf" Tz (λW H Q E=>WI jP jQ W H Q E\/Y0 jP jQ CNL W H Q E))(DP:Zt P w K mg jS 3 "pairs_of" Tr (Xp C))(DR:Zt P w K mg jS 13 "read_many" ["text"] (Xh CNT)):ZI P w K mg jS (Yl P w) 14 f fd Tj (Yg C jP jQ):=by
 show F.okD lV (λW H Q E h=>(by induction h <;> rfl)) (λa4 A a2 s H W Q E R h=>?_)
 let a1:=R.mono (show 3<=13 by lia)
 let B:=R.mono (show 10<=13 by lia)
 let a0:=R.mono (show 2<=13 by lia)
 let#[f1,a5,m1,F1,b1]:=DL.ex;let#[f2,a6,F2,b2,D,g2]:=DP.ex;let#[f3,a7,F3,b3,k3,g3]:=DR.ex;let#[fI,a8,cI,_,FI,bI]:=N.ex;intro Xc;show#[_,ZR (mM (fz:= "at") XA
  (λLL a3 σ ET hp=>Ec (pv 0) L.cS m1 F1 B b1 hp (CA (FK F2 a1 Z g2 D b2 hp (CA (FK F3 R Z g3 k3 b3 hp (Li (ZM (pv 1)))) (Li (ZM (pv 2))))) (Li Zv)))
  j.nt j.tt j.bt (λea E'=>ZM (pv 2)) j.nl j.tl j.bl (λea E'=>ZM (pv 2)) cI N.ty N.nm FI a0 N.at_ bI),?_]
 induction h with
 | mk S l9 hl hx G k=>
  rename_i X lk ls U g o x l v H Q E
  let#[dS,hS]:=S.sh.sh.self;let l4:↑l<=4:=G.2.2.1;let hf:=Fc G.1;show#[1,X.S,dS,1,hS,Z,2,hl,λV D1 us H1 p n1 O T ex M _ _=>?_,λg y=>?_]
  .have:V=X6 l:=BO M hf (by rw[<-ex,hx])
   subst this;show#[1,.told O T ∅ λY D2 ws J n2 h2 D=>.inl ?_]
   let I:=p.trans J;let u:=S.same I;exists X.S,X.d,lk,D2,X.lv,X.ts,X.av,X.ho,X.as,X.kvs,ls,ws,l,Z,u.sh,l9,h2,D,G;intro H3 a nx nt na fr R3;let G3:=(Go.same I).trans (Eo (lk:=lk) (X:=X) (t:=U5 l) (av':=U9 ↑X.ts X.av) (ho':=Pa ↑X.ts X.ho) (kvs':=Wf X.kvs (.inl (↑X.ts:Int)) (.ref a.x)) u.sh.len u.sh.lt (λc o n1 n2 _ e=>fr c o n1 n2 e) nx nt na);let D3:=u.dg.put (rest:=o) u.sh.lt (xc G) sJ (by show List.Perm.refl _)
   rw[show (U5 l).bs=[] from rfl,vl,vm] at D3;show k H3 _ G3 #[R3,D3] Z Z
  .rw[hx,nH hf] at y
   lia
 | no S hl hb r=>
  rename_i X lk ls U g o x i H Q E
  let#[dS,hS]:=S.sh.sh.self;show#[1,X.S,dS,1,hS,Z,2,hl,λV D1 us H1 p n1 O T ex M _ fv=>?_,λg y m H1 p e1=>?_]
  .obtain⟨n,ek,fk,a9,nG⟩:∃ n,x.cps.toList=shownL n/\(∀ t∈n,t.fits 3=V')/\↑n<=180/\∀ l,n=X6 l->¬ Vy l:=by
    cases hb with
    | read z=>show absurd fv z
    | keys a b c d=>show#[_,a,b,c,d]
   have:V=n:=BO M fk (by rw[<-ex,ek])
   subst this;let lu:=↑T;rcases Nat.mod_two_eq_zero_or_one ↑us with e | e
   .let#[l,er,lr]:=AO (↑us / 2) V ∅
    subst er;show#[1,.told O T ∅ λY D2 ws J n2 h2 D=>.inr (.mk h2 D (pr M) ∅ (nG l Z) λH3 s3=>?_)]
    show HW (C:=C) j.h2 j.n2 (i:=i) Z λm H4 s4 e4=>r m H4 (λc o q=>s4 _ _ (s3 _ _ (J _ _ (p _ _ q)))) e4
   .show#[1,.no O e λm Y J e2=>#[C,Z,.inr #[j.h3,r m Y (p.trans J) e2]]]
  .show HW (C:=C) j.h1 j.n1 (i:=i) Z λm H4 s4 e4=>r m H4 (λc o q=>s4 _ _ (p _ _ q)) e4
end
abbrev YG.held(X:YG)(b:Nat):YG:=#[X.S,X.d,X.lv,X.ts,X.av,ON X.ho b,X.as,X.kvs]
theorem BM{i:al}{H a:Hp}{X:YG}{b:Nat}(h:b∈X.lv)(g:∀ c o,c≠X.as[b]!.x->H c\o->a c\o):Go i H a X (X.held b):=#[Z,Z,λc o f e=>g c o (f.2.2.2 b h).1 e,λc o f _=>f]
section
variable{C CNT CNL CNS jP jQ:al}
inductive Yi(C jP jQ:al):Sp
 |mk{X:YG}{lk l:al}{ls:je}{U:Nat->Prop}{g:Nat->Nat}{o bs:jo}{Lb:YV}{v:V}{H:Hp}{Q:VK}{E:XK}:Sd jP jQ H X lk ls U g o->↑X.lv<=800->(∀ b∈bs,b∈X.lv/\↑(X.av b)<=800)->bs.Nodup->H l\.lst (iN bs)->Wl X lk l->over (YF X.ts bs)=Z' Lb ->
  (∀(H':Hp)(X':YG),Go lk H H' X X'->Sd jP jQ H' X' lk ls U g (↑X.ts::o)->X'.ts=X.ts++[Yt X.ts bs]->X'.lv=X.lv++[↑X.ts]->Q (.int (↑X.ts:Nat)) H')->Yi C jP jQ [.ref X.S,.ref l,v] H Q E
 | no {X:YG} {lk l:al} {ls:je} {U:Nat->Prop} {g:Nat->Nat} {o bs:jo} {i:Nat} {H:Hp} {Q:VK} {E:XK}:Sd jP jQ H X lk ls U g o->(∀ b∈bs,b∈X.lv)->↑bs<=90->H l\.lst (iN bs)->Wl X lk l->over (YF X.ts bs)=Y'->Om C i E H X lk->Yi C jP jQ [.ref X.S,.ref l,.int (i:Int)] H Q E
theorem Wu:ZB ["shelf","branches","at","branch"] Ta (Za IV):=Z2
inductive BF(jP jQ:al)(X:YG)(lk l:al)(ls:je)(U:Nat->Prop)(g:Nat->Nat)(o bs:jo)(v:V)(H:Hp):Nat->L2.St->Hp->Prop
 |mk{j:Nat}{X':YG}{x3:jf}{H':Hp}:Go lk H H' X X'->Sd jP jQ H' X' lk ls U g ((bs.take j).reverse++o)->X'.S=X.S->X'.ts=X.ts->X'.lv=X.lv->X'.av=X.av->BF jP jQ X lk l ls U g o bs v H j [Z' (.ref X.S),Z' (.ref l),Z' v,x3] H'
theorem kJ(F:Zk K "read_stem" "read_stem" IV f fd)(L:WD K mg jP jQ)(N:XR P w K mg jS C)(p:XH K mg C CNT CNL CNS)(DH:ZP P w K mg jS ZX 2 jP "hold" T9 (VF jP jQ))(DS:ZP P w K mg jS (Yl P w) 10 jP "put_stem" T0 (λvs H Q E=>Xk jP jQ vs H Q E\/Yx jP jQ CNS vs H Q E)):ZI P w K mg jS (Yl P w) 11 f fd Ta (Yi C jP jQ):=by
 show F.okD Wu (λvs H Q E h=>(by induction h <;> rfl)) (λa4 A a2 s H vs Q E hr h=>?_)
 let nd:=Wu.nd;let Y:=hr.mono (show 2<=10 by lia)
 let#[f1,a5,m1,F1,b1]:=DS.ex;let#[fI,a6,cI,_,FI,bI]:=N.ex;intro Xc;show#[_,ZL (WZ Ov Z (WQ (pv 1)) (WB 3 nd) (ZR (Wa (WV (E:=E0) (pv 0) L.cS DH Y Xi (ZM (pv 3))))))
  (ZR (lR (fz:= "at") XA (λLL a3 σ ET hp=>Ec (pv 0) L.cS m1 F1 hr b1 hp (Li (ZM (pv 1)))) p.ns p.ts p.bs (λea E'=>ZM (pv 2)) cI N.ty N.nm FI Y N.at_ bI)),?_]
 obtain⟨X,z,l,ls,U,g,o,m,v,rfl,S,y,G,O,hh⟩:∃(X:YG)(z l:al)(ls:je)(U:Nat->Prop)(g:Nat->Nat)(o m:jo)(v:V),vs=[.ref X.S,.ref l,v]/\Sd jP jQ H X z ls U g o/\(∀ b∈m,b∈X.lv)/\H l\.lst (iN m)/\Wl X z l /\
   ((∃ Lb,↑X.lv<=800/\(∀ b∈m,↑(X.av b)<=800)/\m.Nodup/\over (YF X.ts m)\Lb/\∀(H':Hp)(X':YG),Go z H H' X X'->Sd jP jQ H' X' z ls U g (↑X.ts::o)->X'.ts=X.ts++[Yt X.ts m]->X'.lv=X.lv++[↑X.ts]->Q (.int (↑X.ts:Nat)) H') \/
   ∃ i:Nat,v=.int (i:Int)/\↑m<=90/\over (YF X.ts m)=Y'/\Om C i E H X z):=by
  cases h with
  | mk S l8 y bn G O I k=>show#[_,_,_,_,_,_,_,_,1,S,λb h=>(y b h).1,G,O,.inl #[_,l8,λb h=>(y b h).2,bn,I,k]]
  | no S y J G O I r=>show#[_,_,_,_,_,_,_,_,1,S,y,G,O,.inr #[1,J,I,r]]
 show#[1,l,Z,#[_,ZH.of G],UZ (K:=K) (a:=l) (xs:=iN m) (BF jP jQ X z l ls U g o m v H) (.mk (Go.same (ZD.refl H)) S Z Z Z Z) ?_ ?_ ?_]
 .intro j σ H2 _ M
  induction M
  rename_i B _ _ _ _ _
  show ZH.of (B.fr _ _ O G)
 .intro j u σ H2 hu M
  induction M
  rename_i j e x3 H2 B n T R D ea
  let#[b,W,rfl]:=QU hu;let bl:b∈e.lv:=#v[D,y b (zI W)]
  let#[dS,hS]:=n.sh.sh.self;rw[<-T];show#[1,e.S,dS,1,hS,Z,1,.mk n.sh bl λH3 a0 R3=>?_];rw[T];show .mk (X':=e.held b) (B.trans (BM bl a0)) #[R3,?_] T R D ea;rw[yR,W];change Dg _ _ _ _ _ _ ((m.take j++[b]).reverse++o);rwa[qU,n.dg.hold bl]
 .intro σ H2 M;rw[show ↑(iN m)=↑m from zY _] at M;generalize ej:↑m=j at M
  induction M
  rename_i j e x3 H2 B n T R D ea
  rw[<-ej,xF] at n;let#[dS,hS]:=n.sh.sh.self;let pm:(m.reverse++o).Perm (m++o):=(List.reverse_perm m).append_right o;rw[<-T];rcases hh with ⟨Lb,l8,a1,bn,I,k⟩ | ⟨i,rfl,J,I,r⟩
  .show#[1,e.S,dS,1,hS,Z,1,.inl #[e.S,e.d,z,l,e.lv,e.ts,e.av,e.ho,e.as,e.kvs,ls,m,Lb,Z,n.sh,n.dg.wf,#v[D,l8],λb h=>?_,B.fr _ _ O G,#v[R,I],λH3 a nx nt na fr R3=>?_]]
   .let h1:=n.dg.hs b (n.dg.own b (pm.mem_iff.mpr (xO _ h)));let h2:0<(m.reverse++o).count b:=vC.mpr (pm.mem_iff.mpr (xO _ h));show#[#v[D,y b h],∅,#v[ea,a1 b h]]
   .let D3:=n.dg.put (rest:=o) n.sh.lt (rq n.dg.wf (λb h=>#v[D,y b h]) #v[R,I]) bn pm
    let G3:=B.trans (Eo (lk:=z) (X:=e) (t:=Yt e.ts m) (av':=UW m ↑e.ts (U9 ↑e.ts e.av)) (ho':=QM m (Pa ↑e.ts e.ho)) (kvs':=Wf e.kvs (.inl (↑e.ts:Int)) (.ref a.x)) n.sh.len n.sh.lt fr nx nt na);rw[<-R,<-D] at k;show k H3 _ G3 #[R3,D3] Z Z
  .show#[1,e.S,dS,1,hS,Z,1,.inr (.mk n.sh n.dg.wf (λb h=>#v[D,y b h]) J (B.fr _ _ O G) #v[R,I] λH3 s3=>?_)]
   show HW p.h4 p.n3 (i:=i) Z λdx H4 s4 e4=>r dx H4 (λc o f q=>s4 _ _ (s3 _ _ (B.fr c o f q))) e4
end
theorem Lo:zX "leaf" = ZS [108,101,97,102]:=Q7 (by decide +kernel)
theorem Md:zX "stem" = ZS [115,116,101,109]:=Q7 (by decide +kernel)
theorem RG{X:Cx}{E:XK}{k:Nat}{x:Str}{r:jr}{i:Sp}{e:Expr}{a:jy}{t:TA}{p c:aJ}(D:Zt X.prog X.w X.K X.mg X.base k x r i)(n:ZU k X.A)(o:UT (Yl X.prog X.w) X E)(j:PA X (e::a) t)(l:Gl X x:=by rfl)(d:(x==("__debug__" : Str))=false:=by decide)(h:aw (e::a) X.env=(false,aH e X.env)::aw a X.env:=by rfl)(g:(aG c (aw a X.env)).any (·.1)=false:=by rfl):PE X (.Call (.Name x p) (e::a) [] c) (Mb i [] E t):=by
 let#[f,s,F,b,q,m]:=D.ex;show GG F n l m q b .nil o j d h g
theorem Pu{a b:jo}(h:ZS a=ZS b):a=b:=congrArg (λx:Str=>x.cps.toList) h
inductive Wo(kvs:List (Zj×V))(X:YG):jo->jo->Prop
 | leaf {x:jo}:VR x->Wo kvs X [108,101,97,102] x
 | stem {l:List (jo)}:l≠[]->(∀ t∈l,32∉t)->↑l<=90->((∃ t∈l,YS kvs (.inr (ZS t))=Y')\/∃ bs:jo,↑bs=↑l/\(∀(i b:Nat)(t:jo),bs[i]?\b->l[i]?\t->YS kvs (.inr (ZS t))\.int (b:Nat))/\(∀ b∈bs,b∈X.lv)/\over (YF X.ts bs)=Y')->Wo kvs X [115,116,101,109] (jn l)
 | word {a x:jo}:a≠[108,101,97,102]->a≠[115,116,101,109]->Wo kvs X a x
section
variable{C CNT CNL CNS jP jQ:al}
inductive YB(C jP jQ:al):Sp
 | leaf {X:YG} {lk p D:al} {ls:je} {U:Nat->Prop} {g:Nat->Nat} {o:jo} {x:Str} {rs:jz} {v:V} {H:Hp} {Q:VK} {E:XK}:H p\.tup [.str (ZS [108,101,97,102]),.str x]->Sd jP jQ H X lk ls U g o->↑X.lv<=800->↑x<=1000000->x.cps.toList=shownL (X6 rs)->Vy rs ->
  (∀(H':Hp)(X':YG),Go lk H H' X X'->Sd jP jQ H' X' lk ls U g (↑X.ts::o)->X'.ts=X.ts++[U5 rs]->X'.lv=X.lv++[↑X.ts]->Q (.int (↑X.ts:Nat)) H')->YB C jP jQ [.ref X.S,.ref D,.ref p,v] H Q E
 | stem {X:YG} {lk p D:al} {ls:je} {U:Nat->Prop} {g:Nat->Nat} {o bs:jo} {l:List (jo)} {kvs:List (Zj×V)} {Lb:YV} {v:V} {H:Hp} {Q:VK} {E:XK}:H p\.tup [.str (ZS [115,116,101,109]),.str (ZS (jn l))]->l≠[]->(∀ t∈l,32∉t)->↑(ZS (jn l))+2<=au->↑l<=900->↑bs=↑l->H D\.dK kvs->(∀(i:Nat)(b:Nat)(t:jo),bs[i]?\b->l[i]?\t->YS kvs (.inr (ZS t))\.int (b:Nat)) ->
  Sd jP jQ H X lk ls U g o->↑X.lv<=800->(∀ b∈bs,b∈X.lv/\↑(X.av b)<=800)->bs.Nodup->over (YF X.ts bs)=Z' Lb ->
  (∀(H':Hp)(X':YG),Go lk H H' X X'->Sd jP jQ H' X' lk ls U g (↑X.ts::o)->X'.ts=X.ts++[Yt X.ts bs]->X'.lv=X.lv++[↑X.ts]->Q (.int (↑X.ts:Nat)) H')->YB C jP jQ [.ref X.S,.ref D,.ref p,v] H Q E
 | no {X:YG} {lk p D:al} {ls:je} {U:Nat->Prop} {g:Nat->Nat} {o:jo} {a x:jo} {kvs:List (Zj×V)} {i:Nat} {H:Hp} {Q:VK} {E:XK}:H p\.tup [.str (ZS a),.str (ZS x)]->Sd jP jQ H X lk ls U g o->↑x<=900000->H D\.dK kvs->Wo kvs X a x->Om C i E H X lk->YB C jP jQ [.ref X.S,.ref D,.ref p,.int (i:Int)] H Q E
theorem mJ:ZB Tl Tl (Za GU):=Z2
theorem kH(F:Zk K "read_twig" "read_twig" GU f fd)(N:XR P w K mg jS C)(DL:Zt P w K mg jS 14 "read_leaf" Tj (Yg C jP jQ))(DS:Zt P w K mg jS 11 "read_stem" Ta (Yi C jP jQ))(DN:Zt P w K mg jS 3 "number_for" TU (Yc C)):ZI P w K mg jS (Yl P w) 15 f fd Tl (YB C jP jQ):=by
 show F.okD mJ (λvs H Q E h=>(by induction h <;> rfl)) (λa6 A a5 s H vs Q E hr h=>?_)
 let a3:=hr.mono (show 2<=14 by lia)
 let a4:=hr.mono (show 3<=14 by lia)
 let a0:=hr.mono (show 11<=14 by lia)
 intro Xc;show#[_,ZL (Zx (Z6 Y4 (XI K (pv 2) ZJ) Zu (Zz _)) (ZR (Zl (UD XA DL hr (QB (pv 0) (XI K (pv 2) ZJ) (pv 3))))) Z0)
  (ZL (Zx (Z6 Y4 (XI K (pv 2) ZJ) Zu (Zz _)) (ZR (Zl (UD XA DS a0 (QB (pv 0) (pJ (E1:=E) [1,3] ["numbers","at"] XA (λ_ _ _ h=>h) (WQ (Vo vN rN PySem.F.type_str_split AZ (XI K (pv 2) ZJ) (ZM Zu))) (λ_ _ _ _ _=>VH) (λ_ _ _ _ _ m=>RG (E:=E) DN a4 m (QB (pv 1) (pv 0) (pv 2))) #[Z,.inl Z,Z,Z,.inl Z,Z,trivial]) (pv 3))))) Z0)
  (ZR (Nu XA N a3 (ZM (pv 3))))),?_]
 induction h with
 | leaf m S l8 hl hx G k=>
  exists 1,_,_,_,1,Z,Zd.of m,Z,Z,_,Z;rwa[Lo,aM Z,Zq #[2,_,_,_,1,Z,Zd.of m,Z,1,.mk S ∅ hl hx G k]]
 | stem m nl fl hl l9 bl dk L S l8 hb bn ov k=>
  rename_i X lk p D ls U g o bs l u Lb v H Q E
  exists 1,p,_,_,1,Z,Zd.of m,Z,Z,_,Z;rw[Lo,aK (λz=>absurd (V.str.inj z) (by decide))]
  show Zo #[1,p,_,_,1,Z,Zd.of m,Z,Z,1,?_];rw[Md,aM rfl];show Zq #[2,p,_,_,1,Z,Zd.of m,Z,Z,?_];rw[MI];show .mk hl Z λD1 n1=>?_;rw[Bu nl fl];let I:=Zr n1 (.lst ((l.map ZS).map V.str));let J:=ZY (H:=H) (a:=D1) (o:=.lst ((l.map ZS).map V.str));generalize upd H D1 (.lst ((l.map ZS).map V.str))=H1 at I J⊢;let lm:↑((l.map ZS).map V.str)=↑l:=by rw[zY,zY]
  show#[D1,Z,#[_,ZH.of J],Wr (n:=↑l) (λi z=>((l.map ZS).map V.str)[i]?\z) (λD i B e=>ZD H1 e/\H1 D=Y'/\B=iN (bs.take i)) (YQ ∅)
   (λD i B e hi d=>#[_,((l.map ZS).map V.str)[i]'∅,ZH.of (d.1 _ _ J),zU _]) (λD i B e z H4 hi d hy=>#[hy.1,hy.2 _ (ZH.of (d.1 _ _ J))]) (λD B e d=>#[_,ZH.of (d.1 _ _ J),#v[lm,zW _]])
   (λD hD=>#[Zr hD _,hD,Z]) (λD2 i B e z T a2 hi hz d R hR=>?_) (λD2 B e T d=>?_)]
  .let#[O,Y,rfl]:=d;rw[zF,zF] at hz;let et:l[i]?\l[i]:=zU hi;let eb:bs[i]?\(bs[i]'∅):=zU _
   erw[et] at hz;show#[3,.told (.inl (O _ _ (I _ _ dk))) (L i _ _ eb et) (hR _ e T #[UJ O Y,Y,?_])];rw[yR,eb];unfold iN;rw[yX];rfl
  .let#[O,Y,rfl]:=d;rw[yH ∅] at T
   let M:=I.trans O;show#[1,.mk (S.same M) l8 hb bn T (S.sh.new (I.free Y)) ov λH4 X4 G4 S4 e4 v4=>k H4 X4 ((Go.same M).trans G4) S4 e4 v4]
 | no m S hl dk a1 r=>
  rename_i X lk p D ls U g o a x u i H Q E
  let lx:↑(ZS x)=↑x:=by simp[wM]
  exists 1,p,_,_,1,Z,Zd.of m,Z,Z,_,Z;rw[Lo]
  cases a1 with
  | leaf b=>
   rwa[aM Z,Zq #[2,_,_,_,1,Z,Zd.of m,Z,1,.no S ∅ b r.rf]]
  | word n1 n2=>
   rw[aK λz=>n1 (Pu (V.str.inj z))];show Zo #[1,p,_,_,1,Z,Zd.of m,Z,Z,1,?_];rwa[Md,aK λz=>n2 (Pu (V.str.inj z)),Zo #[2,λdx hd=>r.rf.go (ZD.refl _) hd]]
  | stem nl fl l9 hh=>
   rename_i l
   rw[aK (λz=>absurd (V.str.inj z) (by decide))]
   show Zo #[1,p,_,_,1,Z,Zd.of m,Z,Z,1,?_];rw[Md,aM rfl];show Zq #[2,p,_,_,1,Z,Zd.of m,Z,Z,?_];rw[MI];show .mk (by rw[lx,sizeLine_eq];lia) Z λD1 n1=>?_
   rw[Bu nl fl];let I:=Zr n1 (.lst ((l.map ZS).map V.str));let J:=ZY (H:=H) (a:=D1) (o:=.lst ((l.map ZS).map V.str));generalize upd H D1 (.lst ((l.map ZS).map V.str))=H1 at I J⊢;let lm:↑((l.map ZS).map V.str)=↑l:=by rw[zY,zY]
   show#[D1,Z,#[_,ZH.of J],Wr (n:=↑l) (λi z=>((l.map ZS).map V.str)[i]?\z) (λD i B e=>ZD H1 e/\H1 D=Y'/\(∀ t∈l.take i,YS u (.inr (ZS t))≠Y')/\B=(l.take i).map λt=>(YS u (.inr (ZS t))).getD .non) (YQ ∅)
    (λD i B e hi d=>#[_,((l.map ZS).map V.str)[i]'∅,ZH.of (d.1 _ _ J),zU _]) (λD i B e z H4 hi d hy=>#[hy.1,hy.2 _ (ZH.of (d.1 _ _ J))]) (λD B e d=>#[_,ZH.of (d.1 _ _ J),#v[lm,zW _]])
    (λD hD=>#[Zr hD _,hD,(λt ht=>absurd ht vD),Z]) (λD2 j B e z T a2 hi hz d R hR=>?_) (λD2 B e T d=>?_)]
   .let#[O,Y,W,rfl]:=d;rw[zF,zF] at hz;let et:l[j]?\l[j]:=zU hi;erw[et] at hz
    cases ev:YS u (.inr (ZS l[j])) with
    | none=>show#[3,.no (.inl (O _ _ (I _ _ dk))) ev λdx H4 s4 e4=>r dx H4 (λc o _ q=>s4 _ _ (O _ _ (I _ _ q))) e4]
    | some v=>
     show#[3,.told (.inl (O _ _ (I _ _ dk))) ev (hR _ e T #[UJ O Y,Y,λt ht=>?_,?_])]
     .rw[yR,et] at ht;rcases yY.mp ht with y | y
      .show W t y
      .rw[zP.mp y,ev];show λz=>by cases z
     .rw[yR,et,yX];change _=_++[(YS u (.inr (ZS l[j]))).getD .non];rw[ev];rfl
   .let#[O,Y,W,rfl]:=d;rw[yH (zW _)] at T W;let M:=I.trans O;rcases hh with ⟨t,ht,et⟩ | ⟨bs,bl,L,hb,ov⟩
    .show absurd et (W t ht)
    let eb:(l.map λt=>(YS u (.inr (ZS t))).getD .non)=iN bs:=by
     apply List.ext_getElem?;intro j;unfold iN;rw[zF,zF];rcases yW j ↑l with hj | hj
     .let e1:l[j]?\l[j]:=zU hj;let e2:bs[j]?\(bs[j]'∅):=zU _
      rw[e1,e2,wK,wK,L j _ _ e2 e1];rfl
     .rw[tE hj,tE ∅];rfl
    rw[eb] at T;show#[1,.no (S.same M) hb ∅ T (S.sh.new (I.free Y)) ov (r.mono λc o _ q=>M _ _ q)]
end
section
variable{jP jQ CTb:al}
inductive Vl(jP jQ:al):Sp
 |mk{X:YG}{c:al}{d:je}{U:Nat->Prop}{g:Nat->Nat}{o:jo}{r:ju}{H:Hp}{Q:VK}{E:XK}:Sd jP jQ H X c d U g o->(∀ i,r\i->i∈X.lv) ->
  (∀(b:Hp)(a:YG),Go c H b X a->Sd jP jQ b a c d U g (r.toList++o)->a.ts=X.ts->a.lv=X.lv->Q (PD r) b)->Vl jP jQ [.ref X.S,PD r] H Q E
theorem za:ZB TZ TZ (Za Hh):=Z2
theorem sd(F:Zk K "held" "held" Hh f fd)(L:WD K mg jP jQ)(d:ZP P w K mg jS ZX 2 jP "hold" T9 (VF jP jQ)):ZI P w K mg jS ZX 3 f fd TZ (Vl jP jQ):=by
 show F.ok za (λt H Q E h=>(by induction h;rfl)) (λj A c s H t Q E p h=>?_)
 induction h
 rename_i X v x U g o r H Q E S n q
 intro u;exists _,ZL (Zx (Ps (Lc (pv 1))) (ZR (Wa (WV (E:=E0) (pv 0) L.cS d p Xi (ZM (pv 1))))) Z0) (ZR (Zl (pv 1)))
 cases r with
 | none=>show#[2,Zo #[1,q H X (Go.same (ZD.refl H)) S Z Z]]
 | some b=>
  let a:=n b Z;let#[k,m]:=S.sh.sh.self;show#[2,Zq #[1,X.S,k,1,m,Z,1,.mk S.sh a λe l i=>#[1,q e (X.held b) (BM a l) #[i,S.dg.hold a] Z Z]]]
end
inductive Yn(jP jQ:al):Sp
 |mk{X:YG}{b:al}{c:je}{r:ju}{H:Hp}{Q:VK}{E:XK}:Yz jP jQ H X.S X.d b X.lv X.ts X.av X.ho X.as X.kvs c->(∀ i,r\i->i∈X.lv/\1<=X.ho i)->(∀ a,ZD H a->Q .non a)->Yn jP jQ [.ref X.S,PD r] H Q E
theorem ku:ZB TZ TZ (Za Iu):=Z2
theorem kz(F:Zk K "check_root" "check_root" Iu f fd)(L:WD K mg jP jQ)(l:ZP P w K mg jS ZX 3 jP "check_held" T0 (YJ jP jQ)):ZI P w K mg jS ZX 4 f fd TZ (Yn jP jQ):=by
 show F.ok ku (λC H Q E h=>(by induction h;rfl)) (λm A g s H C Q E v h=>?_)
 induction h
 rename_i X x y r H Q E R e q
 intro D;exists _,ZR (Zx (Ps (Lc (pv 1))) (ZR (Wa (WV (E:=E0) (pv 0) L.cS l v Xi (ZM (YY (ZM (pv 1))))))) Z0)
 cases r with
 | none=>show#[2,Zo (q H (ZD.refl H))]
 | some i=>
  let#[k,p]:=e i Z;let#[o,t]:=R.sh.self;show#[2,Zq #[1,X.S,o,1,t,Z,1,Ym,λB z=>?_]];let j:=Zr z (.lst [.int (i:Int)]);let a:=R.same j;let#[b,c]:=a.sh.self;show#[X.S,B,[(i:Int)],Z,ZY,#[b,_,c,Z],λn u=>by
   rwa[zP.mp u,#[X.d,x,↑X.ts,X.kvs,y,_,_,_,_,_,_,#[a.sh,a.val i k,(a.tw i k).tw],p]],q _ j]
def AL:jr->(jd->Prop)->Prop
 | [],p=>p []
 | _::j,p=>∀ a,AL j λl=>p (a::l)
theorem bxN(j:jr):∀(p:jd->Prop),AL j p->∀ a:jd,↑a=↑j->p a:=by
 induction j with
 | nil=>intro p h a e;cases a;show h;cases e
 | cons x j b=>intro p h a e;cases a;cases e;show b _ (h _) _ (xT.inj e)
structure UV(K:zZ)(x qual:Str)(st:aD)(f:al)(fd:aq):Prop where
 ex:∃(oc:ak)(od:jx)(dT:al)(kV doc pm:ak)(an:jx)(cdv ct:ak)(osl:Array (jc))(o:aI)(n:Nat),
  fd=xR x qual (Ur st) (X5 st) (Za st) (.ref dT) kV doc pm an cdv ct/\K.lookup f\#[oc,od,.func fd,osl]/\wE K cdv qual=V'/\K.lookup dT\o/\o.data=.seq ⇑[.none] n
 kp:yF K (.ref f)=V'
section
variable{jP jQ CTb CK:al}
theorem UV.go{x b:Str}{g:aD}{f:al}{fd:aq}{N m:jr}{k:Nat}{p:Sp}(F:UV K x b g f fd)(S:ZB N m (Za g))(l:∀ e H Q E,p e H Q E->↑e=↑m)(d:∀ (c:ak) (A:ay) (a:jB) (s:am) (H:Hp) (e:je) (Q:VK) (E:XK),ZU k (A.deeper (envOfC b (Za g) s.heap.objs.size f c))->p e H Q E ->
   ∃ t,Xm (X7 ZX P w K mg jS N b (Za g) f c A a s H E).nox (X5 g) t/\t { nx:=λ_ r=>Q .non r,rt:=Q } (UQ N e) H):ZI P w K mg jS ZX (k+1) f fd m p:=by
 let#[D,G,C,kV,u,I,B,c,ct,z,o,n,rfl,y,i,_]:=F.ex;show HI y i S l λA a s H e Q E v j=>?_;let#[t,h,q]:=d c A a s H e Q E v j;show#[t,h.nox,q]
abbrev O2:Stmt:=UM (top 59) 0
theorem UV.binds{f:al}{fd:aq}(F:UV K "__init__" "Table.__init__" O2 f fd):Zi K fd Tt []/\Zi K fd Tt [.none]:=by
 let#[t,u,q,kV,j,v,p,i,ct,m,o,n,rfl,r,l,g,h]:=F.ex;show#[λs e X d=>?_,λs e X d=>?_]
 .let k:↑e=3:=by simpa using d
  clear d
  revert e
  show bxN ["","",""] _ λa b c=>PySem.W.binds_K X Z g h Z Z
 .let k:↑e=2:=by simpa using d
  clear d
  revert e
  show bxN ["",""] _ λa b=>PySem.W.binds_K X Z g h Z Z
structure HV(K:zZ)(mg:jb)(CTb:al):Prop where
 tab:mg "Table" = Z' (.ref CTb)
 cT:Uc K CTb
 ns:Z7 K CTb "shelf"
 nr:Z7 K CTb "root"
abbrev SE(S:al)(r:ju):List (Str×V):=[("shelf",.ref S),("root",PD r)]
inductive Oi(CTb:al)(H:Hp)(T S:al)(r:ju):Prop
 |mk(a:_)(_:H T\.ins CTb a (SE S r))
structure IW(P:ao)(w:ax)(K:zZ)(mg:jb)(jS:aE)(k:Nat)(C:al)(ps:jr)(sp:Sp):Prop where
 ex:∃ f fd,Mk K C f/\ZI P w K mg jS ZX k f fd ps sp/\Zi K fd ps []/\Zi K fd ps [.none]
inductive Wn(jP jQ CTb:al):Sp
 |mk{x c:al}{X:YG}{e:al}{g:je}{r:ju}{H:Hp}{Q:VK}{E:XK}:H x\.ins CTb c []->x≠X.S->Yz jP jQ H X.S X.d e X.lv X.ts X.av X.ho X.as X.kvs g->(∀ i,r\i->i∈X.lv/\1<=X.ho i) ->
  (∀ a,(∀ b o,b≠x->H b\o->a b\o)->Oi CTb a x X.S r->Q .non a)->Wn jP jQ CTb [.ref x,.ref X.S,PD r] H Q E
theorem yg:ZB Tt Tt (Za O2):=Z2
theorem xi(F:UV K "__init__" "Table.__init__" O2 f fd)(L:HV K mg CTb)(i:ZC P w K mg jS 4 "check_root" TZ (Yn jP jQ)):ZI P w K mg jS ZX 5 f fd Tt (Wn jP jQ CTb):=by
 show UV.go F yg (λm H Q E h=>(by induction h;rfl)) (λj A d s H m Q E k h=>?_)
 induction h
 rename_i x a X t u r H Q E l xS R c q
 exists _,ZL (Wa (Ze i k (Zb (pv 1) (pv 2)))) (ZL (PY (pv 0) (pv 1) Z) (ZR (PY (pv 0) (pv 2) Z)));show#[2,.mk R c λp g=>?_];exists 2,x,CTb,a,1,g _ _ l,L.cT,L.ns,yC Z;exists 2,x,CTb,a,1,ZY,L.cT,L.nr,yC Z;rwa[Lg,q _ (λb o n e=>by rw[ZT n];show g _ _ e) #[a,ZY]]
theorem yj{X:Cx}{k:Nat}{C:al}{x:Str}{o:jr}{h:Sp}{e:Expr}{a:jy}{t:TA}{p c:aJ}(D:IW X.prog X.w X.K X.mg X.base k C o h)(n:ZU (k+1) X.A)(l:Gl X x)(m:X.mg x\.ref C)(i:PA X (e::a) t)(d:(x==("__debug__" : Str))=false:=by decide)(j:aw (e::a) X.env=(false,aH e X.env)::aw a X.env:=by rfl)(g:(aG c (aw a X.env)).any (·.1)=false:=by rfl):
  PE X (.Call (.Name x p) (e::a) [] c) (Le C h [] E0 t):=by
 let#[f,fd,M,F,b,_]:=D.ex;show EU M F n l m b .nil Xi i d j g
end
section
variable{jP jQ CTb:al}
end
def FF(a:jp):ju->jz
 | none=>[]
 | some i=>(gd a i).rows
theorem YN{H:Hp}{p:al}(h:H p=Y')(o:HO):∃ a,L2.upd H p o=a/\ZD H a/\a p\o:=#[1,Zr h o,ZY]
theorem zb{n m:Nat}(h:2 ^ n<=m)(a:m<=200):n<=7:=by
 rcases yW n 8 with z | z
 .lia
 .have:2 ^ 8<=2 ^ n:=qT (by decide) z
  have:(2:Nat) ^ 8=256:=by decide
  lia
section
variable{jP jQ:al}{H H':Hp}{X:YG}{lk:al}{ls ls':je}{U:Nat->Prop}{g:Nat->Nat}{o:jo}{r:ju}
theorem Sd.hi(t:Sd jP jQ H X lk ls U g (r.toList++o)):∀ i,r\i->i∈X.lv:=λi e=>t.dg.own i (by rw[e];simp)
theorem Sd.low(t:Sd jP jQ H X lk ls U g (r.toList++o))(b:↑(FF X.ts r)<=200):∀ i,r\i->(gd X.ts i).h<=7:=λi e=>by
 let a:=t.hi i e;subst e;show zb (FE t.dg.wf _ i a Z) b
end
theorem Sd.held{a b:al}{H:Hp}{X:YG}{c:al}{d:je}{U:Nat->Prop}{g:Nat->Nat}{o:jo}{r:ju}(t:Sd a b H X c d U g (r.toList++o)):∀ i,r\i->1<=X.ho i:=λi e=>by
 let m:i∈r.toList++o:=by rw[e];simp
 rw[t.dg.hs i (t.dg.own i m)];have:=vC.mpr m
 lia
theorem Yz.fr{c f:al}{H h:Hp}{X:YG}{j:al}{k:je}(R:Yz c f H X.S X.d j X.lv X.ts X.av X.ho X.as X.kvs k)(m:XB H h)(a:∀ b o,¬ Wl X j b->H b\o->h b\o):Yz c f h X.S X.d j X.lv X.ts X.av X.ho X.as X.kvs k:=by
 let#[#[l,n],p,q]:=R.sh;show#[#[#[l,a _ _ (λz=>z.1 Z) n],a _ _ (λz=>z.2.1 Z) p,a _ _ (λz=>z.2.2.1 Z) q],R.lt,R.keys,R.val,R.len,λi g=>?_,R.own,R.two];show(R.tw i g).frame m (λo e=>a _ _ (λz=>(z.2.2.2 i g).1 Z) e) (λo e=>a _ _ (λz=>(z.2.2.2 i g).2.2 Z) e) (λo e=>a _ _ (λz=>(z.2.2.2 i g).2.1 Z) e)
theorem Sd.fr{a c:al}{H d:Hp}{X:YG}{e:al}{f:je}{U:Nat->Prop}{g:Nat->Nat}{o:jo}(S:Sd a c H X e f U g o)(m:XB H d)(h:∀ b o,¬ Wl X e b->H b\o->d b\o):Sd a c d X e f U g o:=#[S.sh.fr m h,S.dg]
section
variable{lv:jo}{ts:jp}{av av':Nat->jo}{ho ho':Nat->Nat}{U:Nat->Prop}{g:Nat->Nat}{o:jo}{i:Nat}
theorem Dg.congr(D:Dg lv ts av ho U g o)(k:∀ b∈lv,(av' b).Nodup/\∀ p,p∈av' b ↔ p∈av b)(c:∀ b∈lv,ho' b=ho b):Dg lv ts av' ho' U g o:=
 #[D.wf,D.nd,λb a=>(k b a).1,λb a p=>((k b a).2 p).trans (D.ave b a p),λb a=>(c b a).trans (D.hs b a),D.own,D.u]
structure Pd(lv:jo)(ts:jp)(av:Nat->jo)(ho:Nat->Nat)(U:Nat->Prop)(g:Nat->Nat)(o:jo):Prop where
 dg:∃ a,Dg lv ts a ho U g o
 nd:∀ b∈lv,(av b).Nodup
 av:∀ b∈lv,∀ p∈lv,p∈av b ↔ b∈(gd ts p).bs
theorem Pd.of(D:Dg lv ts av ho U g o):Pd lv ts av ho U g o:=#[#[av,D],D.avn,λb a p c=>(D.ave b a p).trans (and_iff_right c)]
theorem Pd.to(P:Pd lv ts av ho U g o)(h:∀ b∈lv,∀ p∈av b,p∈lv):Dg lv ts av ho U g o:=by
 let#[a,D]:=P.dg;show D.congr (λb c=>#[P.nd b c,λp=>#[λy=>?_,λy=>?_]]) λb _=>rfl
 .let d:=h b c p y;show(D.ave b c p).mpr #[d,(P.av b c p d).mp y]
 .let#[d,e]:=(D.ave b c p).mp y;show(P.av b c p d).mpr e
theorem Pd.gone(P:Pd lv ts av ho U g o)(f:i∈lv)(e:av i=[])(n:ho i=0):Pd (lv.erase i) ts av ho U g o:=by
 let#[a,D]:=P.dg;let j:∀{c:Nat},c∈lv.erase i ↔ c≠i/\c∈lv:=D.nd.mem_erase_iff;let l:a i=[]:=List.eq_nil_iff_forall_not_mem.mpr λp h=>by
  let#[q,r]:=(D.ave i f p).mp h;have:=(P.av i f p q).mpr r;erw[e] at this
 let k:Tp a (ON ho i) i:=#[l,by change (if i=i then ho i+1 else ho i)=1;rw[aP rfl,n]]
 let m:∀ b,V8 (ON ho i) i b=ho b:=λb=>by
  unfold V8 ON;by_cases y:b=i
  .rw[aP y,y,aP rfl];lia
  .rw[aO y,aO y]
 show#[#[_,((D.hold f).drop k).congr (λb d=>#[((D.hold f).drop k).avn b d,λp=>Iff.rfl]) λb _=>(m b).symm],λb d=>P.nd b (j.mp d).2,λb d p h=>P.av b (j.mp d).2 p (j.mp h).2]
end
inductive XM(n:Nat)(jP jQ:al):Sp
 |mk{S d u:al}{j:jo}{q:jp}{k:Nat->jo}{l:Nat->Nat}{s:jE}{t:List (Zj×V)}{v:je}{U:Nat->Prop}{g:Nat->Nat}{o:jo}{i:Nat}{H:Hp}{Q:VK}{E:XK}:Yz jP jQ H S d u j q k l s t v->Pd j q k l U g o->i∈j->(gd q i).h<n ->
  (∀(r:Hp)(a:jo)(m:List (Zj×V))(e:Nat->jo),(∀ c o,c≠d->(∀ b∈j,c≠s[b]!.ab)->H c\o->r c\o)->a.Sublist j->(∀ b∈j,∀ p∈k b,p∉j->b∈a)->(∀ b∈a,∀ p,p∉j->(p∈e b ↔ p∈k b))->(∀ b∈a,∀ p∈e b,p∈j->p∈a)->Pd a q e l U g o->((∀ b∈j,b≠i->0<↑(k b)+l b)->∀ b∈a,0<↑(e b)+l b)->(0<↑(k i)+l i->a=j/\e=k)->Yz jP jQ r S d u a q e l s m v->Q .non r)->XM n jP jQ [.ref S,.int (i:Nat)] H Q E
inductive Dc(jP jQ S d lk:al)(lv:jo)(ts:jp)(av:Nat->jo)(ho:Nat->Nat)(as:jE)(ls:je)(U:Nat->Prop)(g:Nat->Nat)(o:jo)(i:Nat)(H:Hp):Nat->L2.St->Hp->Prop
 |mk{j:Nat}{x3:jf}{lv2:jo}{av2:Nat->jo}{kvs2:List (Zj×V)}{H2:Hp}:(∀ c o,c≠d->(∀ b∈lv,c≠as[b]!.ab)->H c\o->H2 c\o)->lv2.Sublist (lv.erase i)->(∀ b∈lv,∀ p∈av b,p∉lv->b∈lv2)->(∀ b∈lv2,∀ p,p∉lv->(p∈av2 b ↔ p∈av b))->(∀ b∈lv2,∀ p∈av2 b,p∈lv->p∈lv2\/p=i/\b∈(gd ts i).bs.drop j)->(∀ b∈(gd ts i).bs.drop j,b∈lv2/\i∈av2 b)->Pd lv2 ts av2 ho U g o->((∀ b∈lv,b≠i->0<↑(av b)+ho b)->∀ b∈lv2,0<↑(av2 b)+ho b)->Yz jP jQ H2 S d lk lv2 ts av2 ho as kvs2 ls->Dc jP jQ S d lk lv ts av ho as ls U g o i H j [Z' (.ref S),Z' (.int (i:Nat)),Z' (.ref as[i]!.x),x3] H2
theorem oS{n:Nat}(F:Zk K "drop_unheld" "Shelf.drop_unheld" Kx f fd)(L:WD K mg jP jQ)(DH:ZP P w K mg jS ZX 2 jP "holders" T9 (WX jP jQ λ_ ho us=>.int ((↑us:Nat)+(ho:Nat):Int)))(DT:ZP P w K mg jS ZX 1 jP "twig_of" T9 (Z9 jP))(DS:ZC P w K mg jS 1 "is_stem" ["twig"] (Vv jQ))(DR:ZP P w K mg jS ZX (n+3) jP "drop_unheld" T9 (XM n jP jQ)):ZI P w K mg jS ZX (n+4) f fd T9 (XM (n+1) jP jQ):=by
 show F.ok Qz (λvs H Q E h=>(by induction h;rfl)) (λl3 A i6 s H vs Q E hr h=>?_)
 induction h
 rename_i S d lk lv B Y ho r J ls U g o i H Q E R Pp C hn k
 let nd:=Qz.nd;let c9:=hr.mono (show 1<=n+3 by lia)
 let i1:=hr.mono (show 2<=n+3 by lia)
 intro Xc;show#[_,ZL (Zx (Z6 Pi (WV (E:=E0) (pv 0) L.cS DH i1 Xi (ZM (pv 1))) ZJ (Zz _)) (ZR vi) Z0)
  (ZL (Zh 2 nd (qh (QI (pv 0) Z) (pv 1) #[Z,Z,Z,Z]))
  (ZR (Zx (WU (Ze DS c9 (ZM (pv 2))))
   (ZR (WZ PassesOwn.never Z (WQ (QI (pv 2) Z)) (WB 3 nd)
    (ZL (Wa (Vo wT PySem.F.slot_list_remove PySem.F.type_list_remove mS (QI (WV (E:=E0) (pv 0) L.cS DT c9 Xi (ZM (pv 3))) Z) (ZM (pv 1))))
    (ZR (Wa (WV (E:=E0) (pv 0) L.cS DR hr Xi (ZM (pv 3)))))))) Z0))),?_]
 let#[dx,hS]:=R.sh.self;let W:=R.tw i C;let#[dt,hx]:=W.tw.self;let lI:↑(iN (Y i))=↑(Y i):=zY _;exists 1,S,dx,1,hS,Z,1,S,d,lk,↑B,J,ls,(i:Int),_,_,_,_,_,1,#[R.sh,R.val i C,W.tw];exists _,1,Z,_,Z;by_cases hh:0<↑(Y i)+ho i
 .rw[aM (show ((↑(iN (Y i)):Nat)+(ho i:Nat):Int) > 0 by rw[lI];lia)]
  show Zq (k H lv J Y (λc o _ _ e=>e) (sQ.refl _) (λb m _ _ _=>m) (λ_ _ _ _=>Iff.rfl) (λ_ _ _ _ y=>y) Pp (λkk b m=>if z:b=i then z ▸ hh else kk b m z) (λ_=>#[Z,Z]) R)
 let ea:Y i=[]:=wU ∅
 let h0:ho i=0:=∅
 rw[aK (show ¬ ((↑(iN (Y i)):Nat)+(ho i:Nat):Int) > 0 by rw[lI,ea,h0];simp)]
 show Zo ?_;let hd:=R.sh.kept;let#[a0,D0]:=Pp.dg;let e1:=D0.nd;let me:∀{c:Nat},c∈lv.erase i ↔ c≠i/\c∈lv:=e1.mem_erase_iff;exists 1,S,jP,dx,_,.ref d,Z,hS,L.cS,L.nk,Z,d,Z,.inl #[J,L2.Rd.of hd],1,J,.inl (i:Int),.ref r[i]!.x,hd,Z,R.val i C;let fr:∀ b o,b≠d->H b\o->upd H d (.dK (VJ J (.inl (i:Int)))) b\o:=λb o n e=>#v[ZT n,e]
 let R1:=R.gone (i:=i) e1;let#[us,a8,l5,i8]:=W.things;let#[q,k0,k1,eq,e3,_,_]:=W.tag;let eq:r[i]!.tg=q:=V.ref.inj eq;generalize upd H d (.dK (VJ J (.inl (i:Int))))=H1 at fr R1⊢;let e0:=fr _ _ (Z5 hx hd) hx;let e5:=fr _ _ (Z5 W.tw.above hd) W.tw.above;let i7:=fr _ _ (Z5 e3 hd) e3;let br:∀ b∈(gd B i).bs,b∈lv.erase i/\i∈Y b:=λb m=>by
  let#[b1,b2,_]:=Hy D0.wf C m;show#[me.mpr #[λz=>by rw[z] at b2;lia,b1],(Pp.av b b1 i C).mpr m]
 let a4:∀ b∈lv,∀ p∈Y b,p∉lv->b∈lv.erase i:=λb m p v _=>me.mpr #[λz=>(by erw[z,ea] at v),m]
 let P1:=Pp.gone C ea h0;exists 1,r[i]!.x,.ref r[i]!.th,r[i]!.tg,r[i]!.ab,ho i,_,_,1,#[#[dt,e0],e5],#v[eq,i7],_,Z
 by_cases hz:(gd B i).h=0
 .rw[aK (show ¬ (Zs (gd B i)).h > 0 by change ¬ ((gd B i).h:Int) > 0;lia)]
  show Zo (k H1 _ (VJ J (.inl (i:Int))) Y (λc o n _ e=>fr c o n e) List.erase_sublist a4 (λ_ _ _ _=>Iff.rfl) (λb m p v y=>me.mpr #[λz=>?_,y]) P1 (λkk b m=>kk b (me.mp m).2 (me.mp m).1) (λy=>absurd y hh) R1);have:=(Pp.av b (me.mp m).2 p y).mp v;erw[z,((D0.wf i C).leaf hz).1] at this
 .rw[aM (show (Zs (gd B i)).h > 0 by change ((gd B i).h:Int) > 0;lia)]
  let ew:=i8 hz;subst ew;let i4:=FV D0.wf C hz;let i9:=fr _ _ (Z5 a8 hd) a8;show Zq #[1,r[i]!.x,jQ,dt,_,.ref r[i]!.th,Z,e0,L.cT,L.nth,Z,1,#[_,ZH.of i9],?_];let e4:∀ b∈lv,r[i]!.th≠r[b]!.ab:=λb m=>by
   by_cases z:b=i
   .rwa[z,(R.own i C).2.2.2.symm]
   .show(R.two b i m C z).2.2.1.symm
  show UZ (K:=K) (a:=r[i]!.th) (xs:=iN (gd B i).bs) (Dc jP jQ S d lk lv B Y ho r ls U g o i H) (.mk (λc o n _ e=>fr c o n e) (sQ.refl _) a4 (λ_ _ _ _=>Iff.rfl) (λb m p v y=>?_) br P1 (λkk b m=>kk b (me.mp m).2 (me.mp m).1) R1) ?_ ?_ ?_
  .by_cases z:p=i
   .show .inr #[z,(Pp.av b (me.mp m).2 i C).mp (z ▸ v)]
   .show .inl (me.mpr #[z,y])
  .rintro j _ H2 _ ⟨a2,_⟩;show ZH.of (a2 _ _ (Z5 a8 hd) e4 a8)
  .intro j u σ H2 i2 hI
   induction hI
   rename_i j x3 M l a9 H2 a2 X I O N T P2 c6 R2
   let#[b,c7,rfl]:=QU i2;let hs:(gd B i).bs.drop j=b::(gd B i).bs.drop (j+1):=by
    let#[C,e]:=yL.mp c7;rw[<-e,<-rK C]
   let i5:(b::(gd B i).bs.drop (j+1)).Nodup:=by rwa[<-hs,i4.sublist (List.drop_sublist _ _)]
   rw[hs] at N T;let#[D,ib]:=T b zQ;let s2:∀ c∈M,c≠i/\c∈lv:=λc t=>me.mp (X.subset t);let bl:=(s2 b D).2;let ni:i∉M:=λz=>(s2 i z).1 Z;let#[e6,e9]:=R2.sh.self;let Wb:=R2.tw b D;let#[db,c5]:=Wb.tw.self;let c0:=Wb.tw.above;let eI:iN (l b)=((l b).map λn:Nat=>(n:Int)).map V.int:=by rw[vI];rfl
   exists 1,S,e6,1,e9,Z,1,S,d,lk,↑B,_,ls,(b:Int),.ref r[b]!.x,Z,R2.sh,R2.val b D,r[b]!.x,jQ,db,_,.ref r[b]!.ab,Z,c5,L.cT,L.nab,Z,.inl #[Z,_,ZH.of c0],1,r[b]!.ab,(l b).map (λn:Nat=>(n:Int)),(i:Int),Z,Z,by rwa[<-eI,c0],zA.mpr #[i,ib,Z]
   rw[mv];let l0:r[b]!.x≠r[b]!.ab:=Z5 c5 c0;let R3:=R2.set1 (H':=upd H2 r[b]!.ab (.lst ((((l b).erase i).map λn:Nat=>(n:Int)).map V.int))) D (av':=λc=>if c=b then (l b).erase i else l c) (ho':=ho) (λc n=>aO n) (λ_ _=>rfl) #[db,#v[ZT l0,c5]] (by rw[ZY,aP rfl,vI];rfl) λc o _ n2 e=>#v[ZT n2,e]
   let c8:∀ c o,c≠d->(∀ b∈lv,c≠r[b]!.ab)->H c\o->upd H2 r[b]!.ab (.lst ((((l b).erase i).map λn:Nat=>(n:Int)).map V.int)) c\o:=λc o n1 n2 e=>#v[ZT (n2 b bl),a2 c o n1 n2 e]
   generalize upd H2 r[b]!.ab (.lst ((((l b).erase i).map λn:Nat=>(n:Int)).map V.int))=H3 at R3 c8⊢;let G:∃ a1:Nat->jo,a1=λc=>if c=b then (l b).erase i else l c:=#[1]
   let#[a1,G]:=G;rw[<-G] at R3;let m3:∀ c∈M,∀ p,p∈a1 c ↔ p∈l c/\(c=b->p≠i):=λc t p=>by
    rw[G];change p∈(if c=b then (l b).erase i else l c) ↔ _
    split
    .next z=>
     rwa[(P2.nd b D).mem_erase_iff,z,#[λq=>#[q.2,λ_=>q.1],λq=>#[q.2 Z,q.1]]]
    .next z=>show#[λq=>#[q,λy=>absurd y z],λq=>q.1]
   let P3:Pd M B a1 ho U g o:=#[P2.dg,λc t=>by
    rw[G];change (if c=b then (l b).erase i else l c).Nodup
    split
    .show(P2.nd b D).erase _
    .show P2.nd c t,λc t p v=>(m3 c t p).trans ((and_iff_left λ_ (y:p=i)=>ni (y ▸ v)).trans (P2.av c t p v))]
   let a3:∀ c,c≠b->a1 c=l c:=λc z=>#v[G,aO z]
   clear G;let#[e7,i0]:=R3.sh.self;let b5:=(Hy D0.wf C (zI c7)).2.1;show#[1,S,e7,1,i0,Z,1,.mk R3 P3 D ∅ λH4 l4 l1 l2 e8 a7 a5 a6 e2 P4 i3 _ R4=>?_]
   show .mk (λc o n1 n2 e=>e8 c o n1 (λb m=>n2 b (s2 b m).2) (c8 c o n1 n2 e)) (a7.trans X) (λc t p v np=>?_) (λc t p np=>?_) (λc t p v y=>?_) (λc t=>?_) P4 (λkk=>i3 λc t z=>#v[a3 c z,c6 kk c t]) R4
   .let c2:=I c t p v np;show a5 c c2 p ((m3 c c2 p).mpr #[(O c c2 p np).mpr v,λ_ z=>np (z ▸ C)]) λz=>np (s2 p z).2
   .let c2:=a7.subset t;rwa[a6 c t p λz=>np (s2 p z).2,m3 c c2 p,O c c2 p np,and_iff_left λ_ z=>np (z ▸ C)]
   .let c2:=a7.subset t;by_cases p2:p∈M
    .show .inl (e2 c t p v p2)
    .let#[h1,h2]:=(m3 c c2 p).mp ((a6 c t p p2).mp v);rcases N c c2 p h1 y with z | ⟨z1,z2⟩
     .show absurd z p2
     .rcases zN.mp z2 with z3 | z3
      .show absurd z1 (h2 z3)
      .show .inr #[z1,z3]
   .let#[c1,c2]:=T c (zM _ t);let c3:=(m3 c c1 i).mpr #[c2,λz=>absurd (z ▸ t) (wC.mp i5).1];let c4:=a5 c c1 i c3 ni;show#[c4,(a6 c c4 i ni).mpr c3]
  .intro σ H2 hI;rw[show ↑(iN (gd B i).bs)=↑(gd B i).bs from zY _] at hI;generalize ej:↑(gd B i).bs=j at hI
   induction hI
   rename_i j x3 M l a9 H2 a2 X I O N T P2 c6 R2
   show k H2 M a9 l a2 (X.trans List.erase_sublist) I O (λb m p v y=>(N b m p v y).resolve_right λz=>?_) P2 c6 (λy=>absurd y hh) R2;let z:=z.2;erw[<-ej,qB] at z
structure YU(K:zZ)(C:al)(m q:Str)(st:aD)(ps:jr):Prop where
 ex:∃ f fd,Q2 K C m f/\Zk K m q st f fd/\Zi K fd ps []
theorem YU.of{P:ao}{w:ax}{K:zZ}{g:jb}{a:aE}{e:VG}{C:al}{m q:Str}{j:aD}{d:jr}{k:Nat}{i:Sp}(L:YU K C m q j d)(h:∀ f c,Zk K m q j f c->ZI P w K g a e k f c d i):ZP P w K g a e k C m d i:=by
 let#[f,c,M,F,b]:=L.ex;show#[f,c,M,h f c F,b]
section
variable{jP jQ CTb:al}
theorem EA(a:YU K jP "drop_unheld" "Shelf.drop_unheld" Kx T9)(L:WD K mg jP jQ)(b:ZP P w K mg jS ZX 2 jP "holders" T9 (WX jP jQ λ_ e g=>.int ((↑g:Nat)+(e:Nat):Int)))(d:ZP P w K mg jS ZX 1 jP "twig_of" T9 (Z9 jP))(c:ZC P w K mg jS 1 "is_stem" ["twig"] (Vv jQ)):∀ n:Nat,ZP P w K mg jS ZX (n+3) jP "drop_unheld" T9 (XM n jP jQ)
 | 0=>a.of λ_ _ _=>u8 λi H Q E h=>by cases h;lia
 | n+1=>a.of λ_ _ F=>oS F L b d c (EA a L b d c n)
inductive Vr(jP jQ:al):Sp
 |mk{X:YG}{e:al}{j:je}{U:Nat->Prop}{g:Nat->Nat}{o:jo}{i:Nat}{H:Hp}{Q:VK}{E:XK}:Sd jP jQ H X e j U g (i::o)->(gd X.ts i).h<=8 ->
  (∀(c:Hp)(a:YG),Go e H c X a->Sd jP jQ c a e j U g o->a.ts=X.ts->a.lv.Sublist X.lv->((∀ b∈X.lv,0<↑(X.av b)+X.ho b)->∀ b∈a.lv,0<↑(a.av b)+a.ho b)->(1<↑(X.av i)+X.ho i->a=#[X.S,X.d,X.lv,X.ts,X.av,V8 X.ho i,X.as,a.kvs])->Q .non c)->Vr jP jQ [.ref X.S,.int (i:Nat)] H Q E
theorem wr(F:Zk K "let_go" "Shelf.let_go" IB f fd)(L:WD K mg jP jQ)(DC:ZP P w K mg jS ZX 3 jP "check_held" T0 (YJ jP jQ))(DT:ZP P w K mg jS ZX 1 jP "twig_of" T9 (Z9 jP))(DD:ZP P w K mg jS ZX 12 jP "drop_unheld" T9 (XM 9 jP jQ)):
  ZI P w K mg jS ZX 13 f fd T9 (Vr jP jQ):=by
 show F.ok Us (λvs H Q E h=>(by induction h;rfl)) (λa8 A a5 s H vs Q E Y h=>?_)
 induction h
 rename_i X lk ls U g o i H Q E t h8 k
 let q:i∈X.lv:=t.dg.own i zQ;let h1:1<=X.ho i:=by
  have:=t.dg.hs i q;rw[uD] at this
  lia
 let R:=t.sh;let nd:=Us.nd;let a0:=Y.mono (show 1<=12 by lia)
 let a1:=Y.mono (show 3<=12 by lia)
 intro Xc;show#[_,ZL (Wa (WV (E:=E0) (pv 0) L.cS DC a1 Xi (ZM (YY (ZM (pv 1))))))
  (ZL (Zh 2 nd (WV (E:=E0) (pv 0) L.cS DT a0 Xi (ZM (pv 1))))
  (ZL (Jc (pv 2) ZJ BJ)
  (ZR (Wa (WV (E:=E0) (pv 0) L.cS DD Y Xi (ZM (pv 1))))))),?_]
 let#[dx,hS]:=R.sh.self;exists 1,X.S,dx,1,hS,Z,1,Ym;intro l nl;let#[J,eU,g1,hl]:=YN nl (.lst [.int (i:Nat)]);rw[eU];let m:=R.same g1;let#[u,B]:=m.sh.self;let N:=m.tw i q;let#[r,hx]:=N.tw.self;let C:=N.tw.above;exists X.S,l,[(i:Int)],Z,hl,#[u,_,B,Z],λn hn=>?_
 .rwa[zP.mp hn,#[X.d,lk,↑X.ts,X.kvs,ls,_,_,_,_,_,_,#[m.sh,m.val i q,N.tw],∅]]
 exists 1,X.S,u,1,B,Z,1,X.S,X.d,lk,↑X.ts,X.kvs,ls,(i:Int),.ref X.as[i]!.x,Z,m.sh,m.val i q;exists 1,X.as[i]!.x,jQ,r,_,.int (X.ho i:Nat),Z,hx,L.cT,L.nho,Z,_,1,Z,r,_,hx,yC Z;let a7:X.as[i]!.ab≠X.as[i]!.x:=Z5 C hx;let eh:((X.ho i:Nat):Int)-1=((X.ho i-1:Nat):Int):=∅
 let e1:V8 X.ho i i=X.ho i-1:=aP Z;let M:=m.set1 (H':=upd J X.as[i]!.x (.ins jQ r (Xl "holds" (.int (((X.ho i:Nat):Int)-1)) (QV (.ref X.as[i]!.th) (.ref X.as[i]!.tg) X.as[i]!.ab (X.ho i))))) q (av':=X.av) (ho':=V8 X.ho i) (λ_ _=>rfl) (λc n=>aO n) #[r,by
  rw[ZY,e1,eh];rfl] #v[ZT a7,C] λc o n1 _ e=>#v[ZT n1,e]
 let v:∀ c o,c≠X.as[i]!.x->J c\o->upd J X.as[i]!.x (.ins jQ r (Xl "holds" (.int (((X.ho i:Nat):Int)-1)) (QV (.ref X.as[i]!.th) (.ref X.as[i]!.tg) X.as[i]!.ab (X.ho i)))) c\o:=λc o n e=>#v[ZT n,e]
 generalize upd J X.as[i]!.x (.ins jQ r (Xl "holds" (.int (((X.ho i:Nat):Int)-1)) (QV (.ref X.as[i]!.th) (.ref X.as[i]!.tg) X.as[i]!.ab (X.ho i))))=H3 at M v⊢;let#[T,W]:=M.sh.self;let D3:=t.dg.less;show#[1,X.S,T,1,W,Z,1,.mk M (Pd.of D3) q ∅ λH4 a4 D O V a a2 I G P4 a3 a6 R4=>?_]
 show k H4 #[X.S,X.d,a4,X.ts,O,V8 X.ho i,X.as,D] #[Z,Z,λc o n e=>?_,λc o n e=>#[n.1,n.2.1,n.2.2.1,λb j=>n.2.2.2 b (a.subset j)]] #[R4,P4.to λb j p hp=>?_] Z a (λkk=>a3 λb j z=>?_) λh2=>?_
 .show V c o n.2.1 (λb j=>(n.2.2.2 b j).2.1) (v c o (n.2.2.2 i q).1 (g1 _ _ e))
 .by_cases y:p∈X.lv
  .show G b j p hp y
  .show absurd (((D3.ave b (a.subset j) p).mp ((I b j p y).mp hp)).1) y
 .change 0<↑(X.av b)+V8 X.ho i b;rwa[show V8 X.ho i b=X.ho b from aO z,kk b j]
 .let#[rfl,rfl]:=a6 (by rw[e1];lia)
  rfl
inductive XT(jP jQ:al):Sp
 |mk{X:YG}{e:al}{h:je}{U:Nat->Prop}{g:Nat->Nat}{o:jo}{r:ju}{H:Hp}{Q:VK}{E:XK}:Sd jP jQ H X e h U g (r.toList++o)->↑(FF X.ts r)<=200 ->
  (∀(c:Hp)(a:YG),Go e H c X a->Sd jP jQ c a e h U g o->a.ts=X.ts->a.lv.Sublist X.lv->((∀ b∈X.lv,0<↑(X.av b)+X.ho b)->∀ b∈a.lv,0<↑(a.av b)+a.ho b)->(∀ i,r\i->1<↑(X.av i)+X.ho i->a=#[X.S,X.d,X.lv,X.ts,X.av,V8 X.ho i,X.as,a.kvs])->Q .non c)->XT jP jQ [.ref X.S,PD r] H Q E
theorem mx:ZB TZ TZ (Za IO):=Z2
theorem ma(F:Zk K "release" "release" IO f fd)(L:WD K mg jP jQ)(l:ZP P w K mg jS ZX 13 jP "let_go" T9 (Vr jP jQ)):ZI P w K mg jS ZX 14 f fd TZ (XT jP jQ):=by
 show F.ok mx (λJ H Q E h=>(by induction h;rfl)) (λq A b s H J Q E B h=>?_)
 induction h
 rename_i X N O U g o r H Q E t D k
 intro M;exists _,ZR (Zx (Ps (Lc (pv 1))) (ZR (Wa (WV (E:=E0) (pv 0) L.cS l B Xi (ZM (pv 1))))) Z0)
 cases r with
 | none=>show#[2,Zo (k H X (Go.same λc o e=>e) t Z (sQ.refl _) (λC=>C) nofun)]
 | some i=>
  let#[u,z]:=t.sh.sh.self;show#[2,Zq #[1,X.S,u,1,z,Z,1,.mk t (zK (t.low D i Z) (by decide)) λn p m G v I a d=>k n p m G v I a λj x y=>by cases x;show d y]]
end
inductive X1(jP jQ:al):Sp
 |mk{X:YG}{c l:al}{h:je}{U:Nat->Prop}{g:Nat->Nat}{o e:jo}{v:V}{H:Hp}{Q:VK}{E:XK}:Sd jP jQ H X c h U g (e++o)->H l\.lst (iN e)->Wl X c l->(∀ b∈e,1<=↑(X.av b)+g b+o.count b/\↑(gd X.ts b).rows<=200) ->
  (∀(d:Hp)(a:YG),Go c H d X a->Sd jP jQ d a c h U g o->a.ts=X.ts->a.lv=X.lv->a.av=X.av->a.as=X.as->Q .non d)->X1 jP jQ [.ref X.S,.ref l,v] H Q E
theorem Xq:ZB ["shelf","numbers","many","number"] To (Za KG):=Z2
inductive DU(S l:al)(v:V)(H:Hp):Nat->L2.St->Hp->Prop
 |mk{j:Nat}{x3:jf}:DU S l v H j [Z' (.ref S),Z' (.ref l),Z' v,x3] H
inductive Er(jP jQ:al)(X:YG)(lk l:al)(ls:je)(U:Nat->Prop)(g:Nat->Nat)(o ns:jo)(v:V)(H:Hp):Nat->L2.St->Hp->Prop
 |mk{j:Nat}{X':YG}{x3:jf}{H':Hp}:Go lk H H' X X'->Sd jP jQ H' X' lk ls U g (ns.drop j++o)->X'.ts=X.ts->X'.lv=X.lv->X'.av=X.av->X'.as=X.as->Er jP jQ X lk l ls U g o ns v H j [Z' (.ref X.S),Z' (.ref l),Z' v,x3] H'
theorem nU(F:Zk K "give_up" "give_up" KG f fd)(L:WD K mg jP jQ)(DH:ZP P w K mg jS ZX 2 jP "holders" T9 (WX jP jQ λ_ ho us=>.int ((↑us:Nat)+(ho:Nat):Int)))(DR:ZC P w K mg jS 14 "release" TZ (XT jP jQ)):ZI P w K mg jS ZX 15 f fd To (X1 jP jQ):=by
 show F.ok Xq (λvs H Q E h=>(by induction h;rfl)) (λa0 A O s H vs Q E hr h=>?_)
 induction h
 rename_i X lk l ls U g o m v H Q E S C ol hb k
 let nd:=Xq.nd;let M:=hr.mono (show 2<=14 by lia)
 intro Xc;show#[_,ZL (WZ PassesOwn.never Z (WQ (pv 1)) (WB 3 nd) (ZR (Zx (Z6 Y4 (WV (E:=E0) (pv 0) L.cS DH M Xi (ZM (pv 3))) ZJ (Zz _)) (ZR GW) Z0)))
  (ZR (WZ PassesOwn.never Z (WQ (pv 1)) (WB 3 nd) (ZR (Wa (Ze DR hr (Zb (pv 0) (pv 3))))))),?_]
 show#[1,l,Z,#[_,ZH.of C],UZ (K:=K) (a:=l) (xs:=iN m) (DU X.S l v H) .mk (λ_ _ _ _ ⟨⟩=>ZH.of C) (λj u D p N c=>?_) (λD p c=>?_)]
 .induction c
  let#[b,i,rfl]:=QU N;let t:=zI i;let G:=S.dg.own b (xO _ t);let#[dS,hS]:=S.sh.sh.self;let R:=S.sh;let W:=R.tw b G;exists 1,X.S,dS,1,hS,Z,1,X.S,X.d,lk,↑X.ts,X.kvs,ls,(b:Int),_,_,_,_,_,1,#[R.sh,R.val b G,W.tw],Z,_,Z;have:=(hb b t).1;let B:=S.dg.hs b G;rw[tM] at B;let h3:0<m.count b:=vC.mpr t;rw[aK λz=>by have:=V.int.inj z;rw[show ↑(iN (X.av b))=↑(X.av b) from zY _] at this;lia]
  show Zo .mk
 .induction c
  show#[1,l,Z,#[_,ZH.of C],UZ (K:=K) (a:=l) (xs:=iN m) (Er jP jQ X lk l ls U g o m v H) (.mk (Go.same (ZD.refl H)) S Z Z Z Z) ?_ ?_ ?_]
  .intro j D p _ c
   induction c
   rename_i n _ _ _ _ _
   show ZH.of (n.fr _ _ ol C)
  .intro j u D p N c
   induction c
   rename_i j X2 x3 p n q y J x I
   let#[b,i,rfl]:=QU N;let t:=zI i;let hs:m.drop j=b::m.drop (j+1):=by
    let#[hi,e]:=yL.mp i;rw[<-e,<-rK hi]
   rw[hs] at q;let#[b1,b2]:=hb b t;let B:=q.dg.hs b (q.dg.own b zQ);rw[xU,uD,tM] at B;rw[<-n.S];show#[2,.mk (r:=Z' b) q #v[y,b2] λH3 X3 G3 S3 e3 v3 _ Y=>?_]
   let T:=Y b Z (by rw[x,B];lia)
   rw[n.S];show .mk (n.trans G3) S3 (e3.trans y) ?_ ?_ ?_
   .rwa[T,J]
   .rwa[T,x]
   .rwa[T,I]
  .intro D p c;rw[show ↑(iN m)=↑m from zY _] at c;generalize ej:↑m=j at c
   induction c
   rename_i j X2 x3 p n q y J x I
   rw[<-ej,qB] at q;show k p X2 n q y J x I
structure XY(ts:jp):Prop where
 lf:∀ i<↑ts,(gd ts i).h=0->(gd ts i).bs=[]/\Vy (gd ts i).rows
 st:∀ i<↑ts,(gd ts i).h≠0->gd ts i=Yt ts (gd ts i).bs/\2<=↑(gd ts i).bs/\↑(gd ts i).bs<=4/\(∀ b∈(gd ts i).bs,b<i/\(gd ts b).h+1=(gd ts i).h)/\Up (gd ts i).rows
theorem XY.ok{a:jp}(h:XY a):∀ i<↑a,(gd a i).rows≠[]/\∀ r∈(gd a i).rows,r.fit:=λi=>by
 induction i using Nat.strongRecOn with
 | ind i p=>
  intro f;by_cases m:(gd a i).h=0
  .let#[_,g]:=h.lf i f m;show#[λz=>by have:=g.2.1;rw[z] at this;show absurd this (by decide),g.1]
  .let#[e,n,t,o,u]:=h.st i f m;let q:(gd a i).rows=YM a (gd a i).bs:=by
    generalize (gd a i).bs=s at e;rw[e];rfl
   rw[q];show#[λz=>?_,λr k=>?_]
   .obtain⟨b,l,d⟩:∃ b l,(gd a i).bs=b::l:=by
     cases d:(gd a i).bs with
     | nil=>rw[d] at n;show absurd n (by decide)
     | cons b l=>show#[b,l,Z]
    let c:=(o b #v[d,zQ]).1
    rw[d,Oe] at z;show(p b c (xH c f)).1 (zEY.mp z).1
   .let#[b,j,k]:=wB.mp (show r∈(gd a i).bs.flatMap λb=>(gd a b).rows from k);let c:=(o b j).1;show(p b c (xH c f)).2 r k
theorem XY.wf{d:jp}(h:XY d):WF (zG ↑d) d:=λi a=>by
 let a:=yZ.mp a;let#[k,l]:=h.ok i a;by_cases f:(gd d i).h=0
 .let#[e,g]:=h.lf i a f;show#[k,g.2.2.2,l,λ_=>#[e,g.2.2.1],λz=>absurd f z]
 .let#[e,m,n,j,o]:=h.st i a f;show#[k,o,l,λz=>absurd z f,λ_=>#[m,n,λb c=>#[yZ.mpr (xH (j b c).1 a),(j b c).2],?_]];generalize (gd d i).bs=p at e;rw[e];rfl
theorem Qq{a:jp}{i b:Nat}(h:b<i):gd (a.take i) b=gd a b:=by
 unfold gd;rw[zO,zO,rM h]
theorem XY.stem{a:jp}(h:XY a){i:Nat}(g:i<↑a)(k:(gd a i).h≠0):(gd a i).bs.Nodup/\over (YF (a.take i) (gd a i).bs)\Zs (gd a i)/\Yt (a.take i) (gd a i).bs=gd a i:=by
 let#[e,f,p,d,q]:=h.st i g k;let o:(gd a i).rows=YM a (gd a i).bs:=by
  generalize (gd a i).bs=bs at e;rw[e];rfl
 let m:YF (a.take i) (gd a i).bs=YF a (gd a i).bs:=rH λb c=>by rw[Qq (d b c).1]
 let n:Yt (a.take i) (gd a i).bs=Yt a (gd a i).bs:=by
  unfold Yt;rw[JL (l:=(gd a i).bs) λb c=>(by rw[Qq (d b c).1]:(gd (a.take i) b).rows=(gd a b).rows)]
  congr 2
  cases j:(gd a i).bs with
  | nil=>rw[j] at f;show absurd f (by decide)
  | cons b l=>rw[rJ,Qq (d b #v[j,zQ]).1]
 show#[FV h.wf (yZ.mpr g) k,?_,n.trans e.symm];rw[m,oK (h:=(gd a i).h-1) (λb c=>#[(h.ok b (xH (d b c).1 g)).1,by have:=(d b c).2;lia]) f p (by rwa[<-o,q]),<-e]
abbrev Zy(n:Nat):jo:=Xe (n:Int)
theorem qi(n:Nat):∀ c∈Zy n,48<=c/\c<=57:=λc a=>by
 have:=LK n;unfold Zy at a;rw[Q3] at a;have:=zE.mp this c a;unfold Y7 at this;rw[zT,decide_eq_true_iff,decide_eq_true_iff] at this;show this
theorem KS{n c:Nat}(h:c<48):c∉Zy n:=λa=>by have:=(qi n c a).1;lia
theorem u9(n:Nat):Zy n≠[45]:=λe=>KS (n:=n) (c:=45) (by decide) #v[e,zP.mpr Z]
theorem q4:Function.Injective Char.toNat:=λa b h=>Char.toNat_inj.mp h
theorem A5{a b:Nat}(h:Zy a=Zy b):a=b:=by
 unfold Zy at h;rw[Q3,Q3] at h;have:=(List.map_inj_right λ_ _ h=>q4 h).mp h;have:=congrArg String.ofList this;show Nat.repr_inj.mp this
theorem Pg{n:Nat}(h:n<1000):↑(Zy n)<=3:=by
 unfold Zy;rwa[Q3,zY,NJ (k:=3) (by decide) h]
theorem On(n:Nat):zX (toString ((n:Nat):Int))=ZS (Zy n):=C8 _
end Tw
namespace L2
open PySem PySem.Spec PyProof.Rows
section
variable{jR:js}{σ:St}{H:Hp}
def Ss:HO->Prop
 | .dK _=>True
 | .frz _ (.dK _)=>True
 | _=>False
theorem ZF.re{d:al}{v u:HO}(I:ZF X jR σ H s)(e:H d\v)(h:Ss v)(B:∀ o x,X.H₀ d≠Z' (.frz o x))(g:Zc X.prog X.w H s.heap d u):ZF X jR σ (upd H d u) s:=by
 let f:∀{b:al},H b=Y'->b≠d:=fun{b} q z=>by erw[z,e] at q
 let C:∀{b y:al},H b\.own y->b≠d:=fun{b y} q z=>by erw[z,e] at q;show h
 let j:∀{b:al}{a:je},H b\.tup a->b≠d:=fun{b a} q z=>by erw[z,e] at q;show h
 let A:∀{b:al}{a:jw},H b\.tbl a->b≠d:=fun{b a} q z=>by erw[z,e] at q;show h
 show#[I.ok,I.os,I.bare,#[I.base.keep,I.base.slot,λb o q n t=>?_,I.base.there,λb a q=>?_,λb o x q=>?_,λb D q=>?_],I.loc,I.cell,?_,λx c q=>?_,λp r=>?_,λb o q=>?_,I.len]
 .let z:=I.base.free b o q n t;rwa[ZT (f z),z]
 .let z:=I.base.tups b a q;rwa[ZT (j z),z]
 .let z:=I.base.frzs b o x q;rwa[ZT (show b≠d from λy=>B o x (y ▸ q)),z]
 .let#[m,z]:=I.base.tbls b D q;show#[m,#v[ZT (A z),z]]
 .rwa[ZT (f I.free),I.free]
 .rwa[ZT (f (I.freeC x c q)),I.freeC x c q]
 .let#[E,l,F]:=I.pin p r;show#[E,#v[ZT (f l),l],F]
 .let k:∀{b o},Zc X.prog X.w H s.heap b o->Zc X.prog X.w (upd H d u) s.heap b o:=λx=>x.stay (λ_ _ _ q=>q) (λc q=>#v[ZT (C q),q]) λc a q=>#v[ZT (j q),q]
  by_cases i:b=d
  .subst i;erw[ZY] at q;show k g
  .rw[ZT i] at q;show k (I.hok b o q)
theorem ZF.nofrz{d:al}{a:List (Zj×V)}(I:ZF X jR σ H s)(e:H d\.dK a):∀ o x,X.H₀ d≠Z' (.frz o x):=λo x q=>by
 have:=I.base.frzs d o x q;erw[e] at this
inductive LN(t:TS)(D:YX)(σ:L2.St)(H:Hp):Prop
 |mk(d a:_)(_:H d\.dK a)(_:t ⟨λb c=>∃ o u,c d\.frz o (.dK u)/\D.nx b (upd c d (.dK u)),λ_ _=>False,λ_ _=>False,λ_ _=>False⟩ σ H)
theorem vn{g:aD}{t:TS}(h:PS X g t):PS X g (LN t):=by
 rintro jR s σ H D I ⟨d,i,e,q⟩;show Z3 (h jR s σ H _ I q) λf m z=>?_;let j:=I.nofrz e
 cases f with
 | next=>
  let#[a,l,b,o,u,c,k]:=z;show#[a,_,b.re c trivial j (b.hok d _ c).2,k]
 | brk=>let#[_,_,_,z]:=z;show z.elim
 | cont=>let#[_,_,_,z]:=z;show z.elim
 | ret u=>let#[_,_,_,_,_,z]:=z;show z.elim
def By(d:al)(o:aI)(a:List (Zj×V)):It:=
 #[λi H=>H d\.frz o (.dK a)/\i<↑a,λi H x b=>b=H/\∃ p,a[i]?\p/\x=kV p.1,λi H=>H d\.frz o (.dK a)/\↑a<=i]
theorem AB{a:Type}:∀{c:List (a×V)}{d:List (a×ak)}{i:Nat}{p:a×V},KV c d->c[i]?\p->∃ u,d[i]?\(p.1,u)
 | _,_,_,_,.nil,e=>by simp at e
 | _,_,0,p,.cons (b:=b) r _,e=>by simp at e;subst e;show#[b.2,by rw[r.1];rfl]
 | _,_,i+1,p,.cons _ t,e=>by
  let#[u,h]:=AB (i:=i) (p:=p) t (by simpa using e)
  show#[u,by simpa using h]
theorem Sz{k:Zj}{v:ak}(h:Nb k v=V'):ZQ (kV k) v:=by
 rcases Pr h with ⟨i,t,rfl,rfl⟩ | ⟨x,t,rfl,rfl⟩
 .show#[t,Z]
 .show#[t,Z]
theorem Fz{P:ao}{w:ax}{h:aE}{d:al}{o:aI}{a:List (Zj×V)}{j:Array DictEntry}{i:Nat}(k:o.data=.dict j i)(x:Zc P w H h d (.frz o (.dK a))):∃ b,KV a b/\h.DictAt (UF P w) d b i:=by
 let#[e,_,_,b,r,n,m,l,g,c,f,q]:=x;erw[e] at g;erw[k] at f;show#[b,r,o,j,e,c,k,q]
theorem J7{c:Type}{a:List (c×V)}{b:List (c×ak)}(h:KV a b):↑a=↑b:=Paired.length h
theorem AX{P:ao}{w:ax}{K:zZ}{tg:Expr}{d:al}{o:aI}{j:List (Zj×V)}{U:Array DictEntry}{N:Nat}(Q:o.data=.dict U N)(g:al):Vn P w K tg (By d o j) [g] g (λi h=>h.IsKeyIter g d i ↑j N) where
 mem:=by simp
 obj:=λi h a b f=>by
  let e:b=g:=by simpa using f
  subst e;let#[o,e,c,d]:=a;show#[o,e,λv z=>by erw[d] at z]
 keep:=λi h m a k=>a.at λo e=>k g ⋯ o e
 item:=by
  intro X F L D O i jR s σ H E I n a G;subst F L D;let#[J,q]:=G;let#[vs,r,t]:=Fz Q (I.hok d _ J);obtain⟨p,R⟩:∃ p,j[i]?\p:=#[_,zU q];let#[u,hu]:=AB r R;let#[x,y,Y,A,B,C]:=n g ⋯
  rw[J7 r] at a⊢;show wpAny_pyNext_dict_item a t hu λM m hk l sb=>?_;let S:ZF X jR σ H { s with heap:=m }:=I.turned (t':=s.toks) (λb o f e=>(sb.2 b f).trans e) x y A B C;show#[M,Z,letGo_keyiter (s':={ s with heap:=m }) l #[_,H,S,Sz hk,#[Z,p,R,Z],l,λb f=>(n b f).1]]
 done:=by
  intro X F L D O i jR s σ H E I n a G;subst F L D;let#[J,q]:=G;let#[vs,r,t]:=Fz Q (I.hok d _ J);let#[x,y,Y,A,B,C]:=n g ⋯
  rw[J7 r] at a q;show wpAny_pyNext_dict_end (I.ok.hd O) a t (List.getElem?_eq_none_iff.mpr q) λm T=>#[Z,I.turned (t':=s.toks) (λb o f e=>T b o f e) x y A B C]
 self:=λ_ _ _ _ _ a h=>wpAny_pyIter_keyiter a h
inductive O8(R:It->Hp->Prop)(x:V)(b:Hp):Prop
 |mk(d a:_)(_:x=.ref d)(_:b d\.dK a)(_:∀ o,R (By d o a) (upd b d (.frz o (.dK a))))
def Rw(b:TE):TI:=λσ H R=>b σ H λx a=>O8 R x a
theorem vq{C l:Expr}{m:TE}(z:PE X l m):PI X C l (Rw m):=by
 intro jR s σ H R I h;show Z8 (z jR s σ H _ I h) λv a x F f B A=>?_;let#[d,j,rfl,e,q]:=A;cases B;let#[G,E,D,r,o,t,p,g,c,k,rest]:=id (f.hok d _ e);let n:a.heap.DictAt (UF X.prog X.w) d D p:=#[o,t,g,c,k,rest];show wpAny_pyIter_dict E n ?_;rw[<-J7 r];let i:=f.re (u:=.frz o (.dK j)) e trivial (f.nofrz e) #[g,f.hok d _ e];show#[a.heap.objs.size,[a.heap.objs.size],_,_,1,i.kept (t':=a.toks) λb o e=>zL _ e,AX k _,#[_,yO _ Z,Z,Z],λb y=>?_,q o];let e:b=a.heap.objs.size:=by simpa using y
 subst e;show i.fpOk (zW _) (i.hok.fresh (zW _))
end
end L2
namespace Tw
open PySem PySem.Spec L2 PyProof.Rows
variable{jP jQ CS CT CH CK CP CB:al}
abbrev MX:Nat->Nat:=λ_=>0
abbrev U0:Nat->Prop:=λ_=>False
def Y3(t:ZK):jo:=if t.h=0 then [108,101,97,102]++32::shownL (X6 t.rows) else [115,116,101,109]++32::jn (t.bs.map Zy)
def QL:ju->jo
 | none=>[114,111,111,116]++32::[45]
 | some r=>[114,111,111,116]++32::Zy r
abbrev Z4(b:jp)(a:List (ju)):je:=b.map (λt=>V.str (ZS (Y3 t)))++a.map λe=>V.str (ZS (QL e))
def Xg(n:Nat):List (Zj×V):=(zG n).map λi=>(.inr (ZS (Zy i)),.int (i:Nat))
theorem II(n:Nat):Xg (n+1)=Xg n++[(.inr (ZS (Zy n)),.int (n:Nat))]:=by
 unfold Xg;rw[xA,yX];rfl
theorem NM:∀ n b,YS (Xg n) (.inr (ZS (Zy b)))=if b<n then Z' (.int (b:Nat)) else Y':=λn=>by
 induction n with
 | zero=>intro b;rfl
 | succ n a=>
  intro b;rw[II,K7 _ _ _ _ (by rw[a,aO (xQ _)]),a]
  by_cases e:b=n
  .rw[aP (by rw[e]),aP ∅,e]
  .rw[aO λz=>e (A5 (Pu (Sum.inr.inj z)))];by_cases l:b<n
   .rw[aP l,aP ∅]
   .rw[aO l,aO ∅]
theorem xj(n:Nat):Wf (Xg n) (.inr (ZS (Zy n))) (.int (n:Nat))=Xg (n+1):=by rw[BZ _ (by rw[NM,aO (xQ _)]),II]
theorem IS(n:Nat):↑(Xg n)=n:=by unfold Xg;rw[zY,vR]
theorem JP{l:List (jo)}(h:∀ t∈l,↑t<=3):↑(jn l)<=4 * ↑l:=by
 cases l with
 | nil=>show zW _
 | cons t r=>
  let e:=h t zQ;have:↑(r.flatMap λu=>32::u)<=4 * ↑r:=by
   let a:∀ u∈r,↑u<=3:=λu b=>h u (zM _ b);clear h
   induction r with
   | nil=>show zW _
   | cons u r d=>
    have:=d λx c=>a x (zM _ c);have:=a u zQ;rw[xX,zS,zV,zV]
    lia
  unfold jn;rw[zS,zV]
  lia
theorem FW{a:jz}(h:∀ r∈a,r.fit):fitsL (X6 a) 3=V':=by
 induction a with
 | nil=>rfl
 | cons r a c=>
  let e:X6 (r::a)=r.1::r.2::X6 a:=rfl;rw[e,fitsL,fitsL,(h r zQ).1,(h r zQ).2,c λx b=>h x (zM _ b)];rfl
theorem CO{a:jz}(g:Vy a):↑(shownL (X6 a))<=180000:=by
 let b:=shownL_len _ 3 (FW g.1);let d:=KR (r:=3) (by decide)
 let c:=Np a;let e:=g.2.2.1;rw[c] at b;have:2 * ↑a * (Qd 3+1)<=8 * 22001:=Nat.mul_le_mul ∅ ∅
 lia
theorem IJ{n:Nat}(h:n<=200000):n<=sizeLine:=zK h (by decide)
theorem LE:zX "root" = ZS [114,111,111,116]:=Q7 (by decide +kernel)
theorem Uy{l:jo}(h:l.all (λc=>decide (c≠32))=V'):32∉l:=λz=>by
 have:=zE.mp h 32 z;show absurd this (by decide)
section
variable{jP jQ CTb:al}
end
section
variable{C jP jQ:al}
inductive XN(C jP jQ:al):Sp
 |mk{X:YG}{c l:al}{d:je}{U:Nat->Prop}{g:Nat->Nat}{o a:jo}{i:Nat}{H:Hp}{Q:VK}{E:XK}:Sd jP jQ H X c d U g o->H l\.lst (iN a)->(∀ b∈a,b∈X.lv)->(∃ b∈a,↑(X.av b)+X.ho b=1)->Rf C i E H->XN C jP jQ [.ref X.S,.ref l,.int (i:Int)] H Q E
inductive Bz(S l:al)(v:V)(H:Hp)(X:YG)(ns:jo):Nat->L2.St->Hp->Prop
 |mk{j:Nat}{x3:jf}:(∀ b∈ns.take j,↑(X.av b)+X.ho b≠1)->Bz S l v H X ns j [Z' (.ref S),Z' (.ref l),Z' v,x3] H
theorem lh(F:Zk K "give_up" "give_up" KG f fd)(L:WD K mg jP jQ)(N:XR P w K mg jS C)(M:ZP P w K mg jS ZX 2 jP "holders" T9 (WX jP jQ λ_ ho us=>.int ((↑us:Nat)+(ho:Nat):Int))):ZI P w K mg jS (Yl P w) 3 f fd To (XN C jP jQ):=by
 show F.okD Xq (λvs H Q E h=>(by induction h;rfl)) (λY A x s H vs Q E I h=>?_)
 induction h
 rename_i X lk l ls U g o n i H Q E S G q hx r
 let nd:=Xq.nd;intro Xc;exists _,ZL (WZ Ov Z (WQ (pv 1)) (WB 3 nd) (ZR (Zx (Z6 Y4 (WV (E:=E0) (pv 0) L.cS M I Xi (ZM (pv 3))) ZJ (Zz _)) (ZR (Nu XA N I (ZM (pv 2)))) Z0))) Mf;show#[1,l,Z,#[_,ZH.of G],UZ (K:=K) (a:=l) (xs:=iN n) (Bz X.S l (.int (i:Int)) H X n) (.mk λb q=>absurd q vD) (λ_ _ _ _ k=>(by induction k;show ZH.of G)) (λj u σ O hu k=>?_) (λσ O k=>?_)]
 .induction k
  rename_i j x3 p
  let#[b,m,rfl]:=QU hu;let T:=zI m;let B:=q b T;let#[dS,hS]:=S.sh.sh.self;let R:=S.sh;let W:=R.tw b B;exists 1,X.S,dS,1,hS,Z,1,X.S,X.d,lk,↑X.ts,X.kvs,ls,(b:Int),_,_,_,_,_,1,#[R.sh,R.val b B,W.tw],Z,_,Z;let J:↑(iN (X.av b))=↑(X.av b):=zY _;by_cases e:↑(X.av b)+X.ho b=1
  .rw[aM (congrArg V.int (show ((↑(iN (X.av b)):Nat):Int)+(X.ho b:Int)=1 by rw[J];lia))]
   show Zq #[2,λdx hd=>r.go (ZD.refl _) hd]
  .rw[aK λz=>by have:=V.int.inj z;rw[J] at this;lia]
   show Zo (.mk λc D=>?_);rw[yR,m] at D;rcases yY.mp D with y | y
   .show p c y
   .rwa[zP.mp y,e]
 .rw[show ↑(iN n)=↑n from zY _] at k;generalize ej:↑n=j at k
  induction k
  rename_i j x3 p
  let#[b,t,v]:=hx;rw[<-ej,xF] at p;show absurd v (p b t)
structure YL(ts:jp)(es:List (ju)):Prop where
 fo:XY ts
 l30:↑ts<=30
 e99:↑es<=100
 inn:∀ r,Z' r∈es->r<↑ts
 low:∀ i<↑ts,↑(gd ts i).rows<=200
def Q9(a:jp)(b:List (ju))(i:Nat):Prop:=Z' i∈b\/∃ p<↑a,i∈(gd a p).bs
inductive Yd(K:zZ)(H:Hp)(ts:jp)(es:List (ju)):V->Prop
 | kind {v:V} {ty:ak}:(∀ H',ZD H H'->Y5 K H' v ty)->xY K ty (.type "str")\false->Yd K H ts es v
 | root {l:jo}:↑l<=900000->w0 l=[114,111,111,116]->w1 l≠[45]->YS (Xg ↑ts) (.inr (ZS (w1 l)))=Y'->Yd K H ts es (.str (ZS l))
 | behind {l:jo}:↑l<=900000->w0 l≠[114,111,111,116]->es≠[]->Yd K H ts es (.str (ZS l))
 | twig {l:jo}:↑l<=900000->w0 l≠[114,111,111,116]->es=[]->(∀ X:YG,X.ts=ts->X.lv=zG ↑ts->Wo (Xg ↑ts) X (w0 l) (w1 l))->Yd K H ts es (.str (ZS l))
inductive Zw(K:zZ)(C:al):Sp
 | ok {l:al} {ts:jp} {es:List (ju)} {H:Hp} {Q:VK} {E:XK}:H l\.lst (Z4 ts es)->YL ts es->(∀ i<↑ts,Q9 ts es i)->(∀(H':Hp)(p:al),ZD H H'->Q (.ref p) H')->Zw K C [.ref l] H Q E
 | row {l:al} {ts:jp} {es:List (ju)} {v:V} {rest:je} {H:Hp} {Q:VK} {E:XK}:H l\.lst (Z4 ts es++v::rest)->rest.length<=200->YL ts es->Yd K H ts es v->Rf C (↑ts+↑es) E H->Zw K C [.ref l] H Q E
 | lost {l:al} {ts:jp} {es:List (ju)} {i:Nat} {H:Hp} {Q:VK} {E:XK}:H l\.lst (Z4 ts es)->YL ts es->i<↑ts->¬ Q9 ts es i->Rf C (↑ts+↑es) E H->Zw K C [.ref l] H Q E
theorem WO:ZB ["rows","shelf","numbers","tables","at","words"] T3 (Za Id):=Z2
inductive Bm(jP jQ:al)(H:Hp)(l:al)(ts:jp)(es:List (ju))(S D L lk:al):Nat->L2.St->Hp->Prop
 |mk{j:Nat}{X:YG}{us:je}{x4 x5:jf}{H':Hp}:j<=↑ts+↑es->ZD H H'->(∀ c o,H c\o->Wl X lk c)->X.S=S->Sd jP jQ H' X lk [] U0 MX ((es.take (j-↑ts)).reverse.filterMap id++(zG (min j ↑ts)).reverse)->X.ts=ts.take j->X.lv=zG (min j ↑ts)->H' D\.dK (Xg (min j ↑ts))->H' L\.lst us->↑us=j-↑ts->Wl X lk D->Wl X lk L ->
  Bm jP jQ H l ts es S D L lk j [Z' (.ref l),Z' (.ref S),Z' (.ref D),Z' (.ref L),x4,x5] H'
end
section
variable{C jP jQ CTb:al}
theorem Dw{a:jp}{j:Nat}(h:j<↑a):a.take (j+1)=a.take j++[gd a j]:=by
 rw[yR,U7 h];rfl
theorem oa{j n:Nat}(h:j<n):zG (min (j+1) n)=zG (min j n)++[j]:=by
 rw[xG (yK h),xG h,xA]
theorem Sd.upd1{H i:Hp}{X:YG}{d a:al}{j:je}{U:Nat->Prop}{g:Nat->Nat}{o:jo}{x:HO}(S:Sd jP jQ H X d j U g o)(l:Wl X d a)(e:H a\x)(k:∀ h,x≠.tup h)(s:∀ c o,c≠a->H c\o->i c\o):Sd jP jQ i X d j U g o:=
 S.fr (λb h q=>s b _ (λz=>k h (by rw[z,e] at q;show yP.inj q)) q) λb o n q=>s b o (λz=>n (z ▸ l)) q
theorem QT(l:jo):↑(ZS l)=↑l:=OO l
theorem xy{d:jp}(L:XY d)(a0:↑d<=30){j:Nat}(r:j<↑d):∃ a b,Y3 (gd d j)=a++32::b/\32∉a/\a≠[114,111,111,116]/\↑(ZS (a++32::b))<=au/\∀{X:YG}{u p D:al}{U:Nat->Prop}{g:Nat->Nat}{o:jo}{F:je}{v:V}{H:Hp}{Q:VK}{E:XK},
  H p\.tup [.str (ZS a),.str (ZS b)]->Sd jP jQ H X u F U g o->X.ts=d.take j->X.lv=zG j->H D\.dK (Xg j)->(∀(n:Hp)(l:YG),Go u H n X l->Sd jP jQ n l u F U g (j::o)->l.ts=d.take (j+1)->l.lv=zG (j+1)->Q (.int (j:Nat)) n)->YB C jP jQ [.ref X.S,.ref D,.ref p,v] H Q E:=by
 let I:↑(d.take j)=j:=List.length_take_of_le (yK r);by_cases q:(gd d j).h=0
 .let#[W,G]:=L.lf j r q;let ll:=CO G;show#[[108,101,97,102],_,aP q,Uy Z,by decide,?_,fun{X u p D U g o F v H Q E} M S e m hD k=>?_]
  .simp only[QT,zS,zV,yE];show IJ ∅
  .show .leaf M S (by rw[m,vR];lia) (by rw[QT];lia) Z G λn l J s A y=>?_
   rw[e,I] at s y;rw[e,I];show k n l J s ?_ (by rw[y,m,xA])
   rw[A,e,Dw r]
   congr 2
   rcases e:gd d j with ⟨h,rs,bs⟩;rw[e] at q W;cases q;cases W;rfl
 .let#[bn,ov,es]:=L.stem r q;let#[_,Y,h4,B,_]:=L.st j r q;let ml:∀ t∈(gd d j).bs.map Zy,↑t<=3:=λt N=>by
   let#[b,c,rfl]:=zA.mp N;show Pg (by have:=(B b c).1;lia)
  let jl:=JP ml;rw[zY] at jl;show#[[115,116,101,109],_,aO q,Uy Z,by decide,?_,fun{X u p D U g o F v H Q E} M S e m hD k=>?_]
  .simp only[QT,zS,zV,yE];show IJ ∅
  .show .stem (bs:=(gd d j).bs) M (λz=>?_) (λt N=>?_) #v[QT,IJ ∅] (by rw[zY];lia) (zY _).symm hD (λi b t R T=>?_) S (by rw[m,vR];lia) (λb c=>#[#v[m,yZ.mpr (B b c).1],?_]) bn #v[e,ov] λn l J s A y=>?_
   .have:=congrArg xI z;rw[zY] at this;rw[this] at Y;show absurd Y (by decide)
   .let#[b,c,rfl]:=zA.mp N;show KS (by decide)
   .erw[zF,R] at T;rw[NM,aP (B b (zI R)).1]
   .let O:b∈X.lv:=#v[m,yZ.mpr (B b c).1]
    have:=EF (S.dg.avn b O) λx hx=>((S.dg.ave b O x).mp hx).1;rw[m,vR] at this
    lia
   .rw[e,I] at s y;rw[e,I];rw[e,es] at A;show k n l J s (by rw[A,Dw r]) (by rw[y,m,xA])
theorem Hd:∀ l:jo,↑(w1 l)<=↑l
 | []=>zW _
 | c::l=>by
  have:=Hd l;rw[w1];split <;> rw[zV] <;> lia
theorem yf{n:Nat}{e:ju}(a:n<=30)(h:∀ r,e\r->r<n):∃ x,QL e=[114,111,111,116]++32::x/\↑x<=70/\∀{D:al}{v:V}{H:Hp}{Q:VK}{E:XK},H D\.dK (Xg n)->Q (PD e) H->YR C [.ref D,.str (ZS x),v] H Q E:=by
 cases e with
 | none=>show#[1,by decide,λb q=>.none q]
 | some r=>
  show#[1,?_,λb q=>.num (λz=>u9 r (Pu z)) (.told (.inl b) (by rw[NM,aP (h r Z)];rfl) q)]
  show zK (Pg (yI (h r Z) (zK a (by decide)))) (by decide)
theorem kj(F:Zk K "read_shelf" "read_shelf" Id f fd)(T:Txt mg)(L:WD K mg jP jQ)(LT:HV K mg CTb)(N:XR P w K mg jS C)(DI:QE P w K mg jS 1 jP ["self"] (Qv jP))(DT:IW P w K mg jS 5 CTb Tt (Wn jP jQ CTb))(DH:ZC P w K mg jS 3 "held" TZ (Vl jP jQ))(DR:Zt P w K mg jS 4 "read_root" TU (YR C))(DW:Zt P w K mg jS 3 "words_of" Th (XX K C))(l2:Zt P w K mg jS 15 "read_twig" Tl (YB C jP jQ))(DG:Zt P w K mg jS 15 "give_up" To (λvs H Q E=>X1 jP jQ vs H Q E\/XN C jP jQ vs H Q E)):ZI P w K mg jS (Yl P w) 16 f fd T3 (Zw K C):=by
 show F.okD WO (λvs H Q E h=>(by induction h <;> rfl)) (λn6 A n4 s H vs Q E hr h=>?_)
 let nd:=WO.nd;let o1:=hr.mono (show 1<=15 by lia)
 let i4:=hr.mono (show 2<=15 by lia)
 let i5:=hr.mono (show 3<=15 by lia)
 let m9:=hr.mono (show 4<=15 by lia)
 let n0:=hr.mono (show 6<=15 by lia)
 let hu:=ZU.key hr (n:=1) (by decide)
 intro Xc;show#[_,ZL (Zh 1 nd (zu DI i4 Z L.shelf))
  (ZL (Hv (i:=2) nd Z (Or.inr Z) Jg)
  (ZL (Zh 3 nd (YY Zv))
  (ZL (WZ Ov Z (QO Z T.range (ZM (Zp YO Z T.len YK (ZM (pv 0))))) (WB 4 nd)
   (ZL (Zh 5 nd (UD XA DW i5 (Zb (YC K (pv 0) (pv 4)) (pv 4))))
   (ZR (Zx (Z6 Y4 (XI K (pv 5) ZJ) Zu (Zz _))
    (ZR (Wa (Vo wT vX vW Ql (pv 3) (ZM (yj DT n0 Z LT.tab (Zb (pv 1) (Ze DH i5 (Zb (pv 1) (UD XA DR m9 (QB (pv 2) (XI K (pv 5) ZJ) (pv 4)))))))))))
    (ZR (Zx (Z6 (Fx hr.units0) (pv 3) (YY Zv) (Zz _)) (ZR (IX hu (pv 2) (VD PN Z T.str UL (ZM (pv 4))) (UD XA l2 hr (WE (pv 1) (QB (pv 2) (pv 5) (pv 4)))) Z)) (ZR (Nu XA N i4 (ZM (pv 4))))))))))
  (ZL (vn (Wa (UD XA DG hr (QB (pv 1) (VT [2] ["numbers"] Z (vq (pv 2)) (λ_ _ _ _ _=>VH) (λ_ _ _ _ _=>GO hu (pv 1) (pv 0)) #[Z,.inl Z,Z,trivial]) (Zp YO Z T.len YK (ZM (pv 0)))))))
  (ZR (Zl (Y2 (Zb (pv 1) (pv 3))))))))),?_]
 obtain⟨l,g,u,tl,rfl,hl,ok,n5,hh⟩:∃(l:al)(g:jp)(u:List (ju))(tl:je),vs=[.ref l]/\H l\.lst (Z4 g u++tl)/\YL g u/\↑tl<=201/\((tl=[]/\(((∀ i<↑g,Q9 g u i)/\∀(H':Hp)(p:al),ZD H H'->Q (.ref p) H')\/((∃ i<↑g,¬ Q9 g u i)/\Rf C (↑g+↑u) E H)))\/∃ v rest,tl=v::rest/\Yd K H g u v/\Rf C (↑g+↑u) E H):=by
  cases h with
  | ok hl p hd k=>show#[_,_,_,[],Z,#v[xK,hl],p,yQ _,.inl #[Z,.inl #[hd,k]]]
  | row hl lr p b r=>show#[_,_,_,1,hl,p,by rw[zV];lia,.inr #[_,1,b,r]]
  | lost hl p I W r=>show#[_,_,_,[],Z,#v[xK,hl],p,yQ _,.inl #[Z,.inr #[#[_,I,W],r]]]
 intro S e nS ne z1;let i3:ZD H (upd (upd H e (.own S)) S (.ins jP e [])):=λb o q=>by
  rwa[ZT (Zf q nS),ZT (Zf q ne),q]
 show#[S,e,Z,ZY,λH3 d lk m3 n2 i9 n8 R3=>#[Z,?_]];let s3:ZD H H3:=λb o q=>m3 b o (Zf q nS) (i3 b o q);let S3:Sd jP jQ H3 #[S,d,[],[],λ_=>[],λ_=>0,[],[]] lk [] U0 MX []:=#[#[R3,λi I=>(by cases I),Z,λi I=>(by cases I),Z,λi I=>(by cases I),λi I=>(by cases I),λi _ I=>(by cases I)],
  #[λi I=>(by cases I),sJ,λi I=>(by cases I),λi I=>(by cases I),λi I=>(by cases I),λi I=>(by cases I),#[λb h=>absurd h (xQ _),nofun,nofun,nofun]]]
 let l0:∀ c o,H c\o->Wl #[S,d,[],[],λ_=>[],λ_=>0,[],[]] lk c:=λc o q=>#[Zf q nS,Zf q (i3.free n2),Zf q (i3.free i9),λi I=>(by cases I)]
 obtain⟨X0,a8⟩:∃ X:YG,X=⟨S,d,[],[],λ_=>[],λ_=>0,[],[]⟩:=#[1];rw[<-a8] at S3 l0;let l5:X0.S=S:=by rw[a8]
 let m0:X0.ts=[]:=by rw[a8]
 let c6:X0.lv=[]:=by rw[a8]
 clear a8;intro D nD;let#[H4,l6,s4,m4]:=YN nD (.dK []);rw[l6];let oD:=S3.sh.new nD;exists Ym;intro Lt nL;let#[H5,l7,s5,m6]:=YN nL (.lst []);rw[l7];let S5:=S3.same (s4.trans s5);let oL:=(S3.same s4).sh.new nL;let m5:=s5 _ _ m4;let l1:=s3.trans (s4.trans s5);let i6:=ok.l30;let n9:=ok.e99;let a4:↑(Z4 g u)=↑g+↑u:=by rw[zS,zY,zY]
 let lr:↑(Z4 g u++tl)=↑g+↑u+↑tl:=by rw[zS,a4]
 show#[1,l,1,.inl (ZH.of (l1 _ _ hl)),1,∅,∅,Pk (n:=((↑(Z4 g u++tl):Nat):Int).toNat) (Bm jP jQ H l g u S D Lt lk)
  (.mk (yQ _) l1 l0 l5 (by rw[Nat.zero_sub];rwa[Nat.zero_min,S5]) m0 #v[Nat.zero_min,c6] #v[Nat.zero_min,m5] m6 (by rw[Nat.zero_sub];rfl) oD oL) (λj σ H6 hj hP=>?_) (λσ H6 hP=>?_)]
 .rw[lr,tO] at hj;rw[vL]
  induction hP
  rename_i X us x4 x5 H6 n1 s6 a1 eS S6 et ev U hL lu a0 e3
  let c9:=s6 _ _ hl;subst eS;by_cases W:j<↑g
  .rw[show j-↑g=0 by lia,tT] at S6
   rw[show j-↑g=0 by lia] at lu
   let c5:=wU lu;subst c5;rw[xG (yK W)] at S6 ev U;let J:(Z4 g u++tl)[j]?\.str (ZS (Y3 (gd g j))):=by
    rw[wS (by rw[a4];lia),wS #v[zY,W],zF,U7 W];rfl
   let#[a,b,l8,e6,l3,e7,rt]:=xy (C:=C) (jP:=jP) (jQ:=jQ) ok.fo i6 W;rw[l8] at J;show#[2,.inl #[l,_,_,1,Z,ZH.of c9,YW J,1,.told e7 λH7 p Y np M=>?_]];rw[(Um e6).1,(Um e6).2] at M;exists 1,_,_,_,1,Z,Zd.of M,Z,Z,_,Z;rw[LE,aK λz=>l3 (Pu (V.str.inj z))];show Zo #[1,Ym,λq nq=>?_];let#[H8,a7,s8,a9]:=YN nq (.lst []);rw[a7];let B:=Y.trans s8;show#[Lt,q,[],Z,Z,ZH.of (B _ _ hL),ZH.of a9,1,Zq ?_];show#[4,rt (s8 _ _ M) (S6.same B) et ev (B _ _ U) λO X9 G9 S9 e9 v9=>?_];let c0:=G9.fr _ _ a0 (B _ _ U);let e2:=G9.off _ _ a0 (B _ _ U);exists 2,(j:Int),Z,PF (yG (show j<=30 by lia) (by decide)),D,1,.inl #[Xg j,.inr (ZS (Zy j)),c0,by rw[On];rfl,#v[IS,YQ ∅],Z]
   rw[xj];let G:∀ c o,c≠D->O c\o->upd O D (.dK (Xg (j+1))) c\o:=λc o n e=>#v[ZT n,e]
   let c1:=ZY (H:=O) (a:=D) (o:=.dK (Xg (j+1)));let a5:=S9.upd1 e2 c0 nofun G;generalize upd O D (.dK (Xg (j+1)))=a2 at G a5 c1⊢;let tr:∀ c o,Wl X lk c->c≠D->H6 c\o->a2 c\o/\Wl X9 lk c:=λc o n nd e=>#[G c o nd (G9.fr c o n (B _ _ e)),G9.off c o n (B _ _ e)];let tL:=tr _ _ e3 (Z5 hL U nofun) hL;rw[<-G9.S];show .mk (us:=[]) ∅ (λc o q=>(tr c o (a1 c o q) (Zf (s3 c o q) nD) (s6 c o q)).1) (λc o q=>(tr c o (a1 c o q) (Zf (s3 c o q) nD) (s6 c o q)).2) Z ?_ e9 ?_ ?_ tL.1 (by rw[show j+1-↑g=0 by lia];rfl) e2 tL.2
   .rw[show j+1-↑g=0 by lia,tT,oa W,xG (yK W),qU]
    show a5
   .rwa[xG W,v9]
   .rwa[xG W,c1]
  let W:=uP W;let#[k,rfl]:=Nat.exists_eq_add_of_le W;rw[rO] at S6 lu;rw[vT W] at S6 ev U;by_cases hk:k<↑u
  .let ek:u[k]?\u[k]:=zU hk;generalize u[k]=e at ek;let em:=zI ek;let J:(Z4 g u++tl)[g.length+k]?\.str (ZS (QL e)):=by
    rw[wS (by rw[a4];lia),wN #v[zY,W],zY,rO,zF,ek];rfl
   let ei:∀ r,e\r->r<↑g:=λr z=>ok.inn r (z ▸ em);let#[x,ex,xl,rr]:=yf (C:=C) i6 ei;rw[ex] at J;let i7:32∉[114,111,111,116]:=Uy Z;show#[2,.inl #[l,_,_,1,Z,ZH.of c9,YW J,1,.told ?_ λH7 p Y np M=>?_]]
   .simp only[QT,zS,zV,yE];show yK (YQ ∅)
   rw[(Um i7).1,(Um i7).2] at M;exists 1,_,_,_,1,Z,Zd.of M,Z,Z,_,Z;rw[LE,aM rfl];let S7:=S6.same Y;show Zq #[1,.inl #[Z,_,ZH.of (Y _ _ hL)],4,p,_,_,1,Z,Zd.of M,Z,1,rr (Y _ _ U) (.mk S7 (λi z=>#v[ev,yZ.mpr (ei i z)]) λH8 X8 G8 S8 e8 v8=>?_)]
   rw[<-G8.S];intro t dt nt n3 zt;let i8:ZD H8 (upd (upd H8 dt (.own t)) t (.ins CTb dt [])):=λb o q=>by
    rwa[ZT (Zf q nt),ZT (Zf q n3),q]
   let#[n7,m8]:=S8.sh.sh.self;show Wn.mk (X:=X8) ZY (Zf m8 nt).symm (S8.sh.same i8) (λi z=>#[#v[v8,ev,yZ.mpr (ei i z)],S8.held i z]) λO c8 ht=>#[Z,?_]
   let s9:ZD H8 O:=λb o q=>c8 b o (Zf q nt) (i8 b o q);let e5:∀ c o,Wl X lk c->H6 c\o->O c\o/\Wl X8 lk c:=λc o n e=>#[s9 _ _ (G8.fr c o n (Y _ _ e)),G8.off c o n (Y _ _ e)];let tL:=e5 _ _ e3 hL;exists Lt,_,1,Z,tL.1,YQ ∅
   let G:∀ c o,c≠Lt->O c\o->upd O Lt (.lst (us++[.ref t])) c\o:=λc o n e=>#v[ZT n,e]
   let c2:=ZY (H:=O) (a:=Lt) (o:=.lst (us++[.ref t]));let S9:=S8.same s9;let a5:=S9.upd1 tL.2 tL.1 nofun G;generalize upd O Lt (.lst (us++[.ref t]))=a2 at G a5 c2⊢;let tr:∀ c o,Wl X lk c->c≠Lt->H6 c\o->a2 c\o/\Wl X8 lk c:=λc o n nd e=>#[G c o nd (e5 c o n e).1,(e5 c o n e).2];let c4:∀ c o,H c\o->c≠Lt:=λc o q=>Zf (s4 _ _ (s3 c o q)) nL;let tD:=tr _ _ a0 (Z5 U hL nofun) U;let i1:u.take (k+1)=u.take k++[e]:=by rw[yR,ek];rfl
   show .mk ∅ (λc o q=>(tr c o (a1 c o q) (c4 c o q) (s6 c o q)).1) (λc o q=>(tr c o (a1 c o q) (c4 c o q) (s6 c o q)).2) Z ?_ (e8.trans (et.trans ?_)) ?_ ?_ c2 (by rw[zS,lu,wW];lia) tD.2 tL.2
   .rw[show ↑g+k+1-↑g=k+1 by lia,i1,qU,vT ∅]
    change Sd jP jQ a2 X8 lk [] U0 MX (([e]++(u.take k).reverse).filterMap id++_);rw[List.filterMap_append,yM];cases e <;> show a5
   .rw[yH ∅,yH ∅]
   .rw[v8,ev,vT ∅]
   .rwa[vT ∅,tD.1]
  let ek:k=↑u:=∅
  subst ek;rcases hh with ⟨z,_⟩ | ⟨v,rest,rfl,l4,r⟩
  .subst z;rw[yE] at hj;lia
  let J:(Z4 g u++v::rest)[g.length+↑u]?\v:=by
   rw[wN #v[a4,zW _],a4,uB];rfl
  let m1:X.ts=g:=#v[et,yH ∅]
  show#[2,.inl #[l,_,_,1,Z,ZH.of c9,YW J,1,?_]];let a6:∀{m:jo}{Q':VK},↑m<=900000->(∀(H7:Hp)(p:al),ZD H6 H7->H7 p\.tup [.str (ZS (w0 m)),.str (ZS (w1 m))]->Q' (.ref p) H7)->XX K C [.str (ZS m),.int ((↑g+↑u:Nat):Int)] H6 Q' E:=λhm q=>.told (by rw[QT,sizeLine_eq];lia) λH7 p Y _ M=>q H7 p Y M
  cases l4 with
  | kind ty kt=>show .no (ty H6 s6) kt (r.mono s6)
  | root hm e0 e1 c6=>
   show a6 hm λH7 p Y M=>?_;rw[e0] at M;exists 1,_,_,_,1,Z,Zd.of M,Z,Z,_,Z;rwa[LE,aM Z,Zq #[1,.inl #[Z,_,ZH.of (Y _ _ hL)],4,p,_,_,1,Z,Zd.of M,Z,1,.num (λz=>e1 (Pu z)) (.no (.inl (Y _ _ U)) c6 (r.mono (s6.trans Y)))]]
  | behind hm e0 en=>
   show a6 hm λH7 p Y M=>?_;exists 1,_,_,_,1,Z,Zd.of M,Z,Z,_,Z;rw[LE,aK λz=>e0 (Pu (V.str.inj z))];show Zo #[1,Ym,λq nq=>?_];let#[H8,a7,s8,a9]:=YN nq (.lst []);rw[a7];let B:=Y.trans s8;obtain⟨u0,ur,rfl⟩:∃ u0 ur,us=u0::ur:=by
    cases us with
    | nil=>show absurd (wU lu.symm) en
    | cons a b=>show#[a,b,Z]
   show#[Lt,q,1,Z,ZH.of (B _ _ hL),ZH.of a9,1,Zo #[2,λdx hd=>(r.mono (s6.trans B)).go (ZD.refl _) hd]]
  | twig hm e0 en tb=>
   show a6 hm λH7 p Y M=>?_;exists 1,_,_,_,1,Z,Zd.of M,Z,Z,_,Z;rw[LE,aK λz=>e0 (Pu (V.str.inj z))];show Zo #[1,Ym,λq nq=>?_];let#[H8,a7,s8,a9]:=YN nq (.lst []);rw[a7];let B:=Y.trans s8;let c5:us=[]:=wU (by rw[lu,en];rfl)
   subst c5;rename_i m
   let wl:=Hd m;show#[Lt,q,[],Z,Z,ZH.of (B _ _ hL),ZH.of a9,1,Zq #[4,.no (s8 _ _ M) (S6.same B) ∅ (B _ _ U) (tb X m1 ev) λdx O c8 e9=>r dx O (λc o q=>c8 c o (a1 c o q) (B _ _ (s6 _ _ q))) e9]]
 .rw[lr,tO] at hP;generalize ej:↑g+↑u+↑tl=j at hP
  induction hP
  rename_i X us x4 x5 H6 n1 s6 a1 eS S6 et ev U hL lu a0 e3
  let m2:tl=[]:=wU ∅
  subst m2;rw[yE,Nat.add_zero] at ej;rw[<-ej,show ↑g+↑u-↑g=↑u by lia,xF,vT (tS _ _)] at S6
  rw[<-ej,vT (tS _ _)] at ev U;rw[<-ej,yH (tS _ _)] at et;subst eS;exists D,_,U,2,D,1,U;intro oo;let o2:∀ c o,H6 c\o->(∀ kv,o≠.dK kv)->c≠D:=λc o e n=>Z5 e U (n _);let c7:∀ c o,c≠D->H6 c\o->upd H6 D (.frz oo (.dK (Xg ↑g))) c\o:=λc o n e=>#v[ZT n,e]
  let a3:=ZY (H:=H6) (a:=D) (o:=.frz oo (.dK (Xg ↑g)));let S7:=S6.upd1 a0 U nofun c7;generalize upd H6 D (.frz oo (.dK (Xg ↑g)))=H7 at c7 a3 S7⊢;show Wr (n:=↑g) (λi z=>z=.str (ZS (Zy i))) (λR i ys H8=>ZD H7 H8/\H7 R=Y'/\ys=iN (zG i)) (YQ ∅)
   (λR i ys H8 I hP=>#[hP.1 _ _ a3,#v[IS,I]]) (λR i ys H8 z O I hP hy=>#[hy.1,?_]) (λR ys H8 hP=>#[hP.1 _ _ a3,#v[IS,zW _]])
   (λR hR=>#[Zr hR _,hR,Z]) (λR i ys H8 z eR o0 I hz hP Rr m7=>?_) (λR ys H8 eR hP=>?_)
  .let#[p,ep,rfl]:=hy.2;unfold Xg at ep;erw[zF,List.getElem?_range I] at ep;rfl
  .let#[s8,nR,rfl]:=hP;subst hz;show#[2,D,.int (i:Nat),Z,.inl #[Xg ↑g,.inr (ZS (Zy i)),.inr #[oo,s8 _ _ a3],Z,by rw[NM,aP I]],m7 _ H8 eR #[UJ s8 nR,nR,?_]]
   rw[xA];unfold iN;rw[yX];rfl
  .let#[s8,nR,rfl]:=hP;let S8:=S7.same s8;let pm:(u.reverse.filterMap id++(zG ↑g).reverse).Perm (zG ↑g++u.reverse.filterMap id):=List.perm_append_comm.trans ((List.reverse_perm _).append_right _);let D8:Sd jP jQ H8 X lk [] U0 MX (zG ↑g++u.reverse.filterMap id):=#[S8.sh,S8.dg.perm pm];let c3:∀ c o,H c\o->c≠D:=λc o q=>Zf (s3 c o q) nD;let B:∀ c o,H c\o->H8 c\o:=λc o q=>s8 _ _ (c7 _ _ (c3 c o q) (s6 _ _ q));let i2:=B _ _ hl;let l9:((↑(Z4 g u++[]):Nat):Int)=((↑g+↑u:Nat):Int):=by rw[xK,a4]
   let i0:∀ b<↑g,(↑(X.av b)+X.ho b=1 ↔ ¬ Q9 g u b):=λb hb=>by
    let bl:b∈X.lv:=#v[ev,yZ.mpr hb]
    let h1:=D8.dg.hs b bl;rw[tM,IN pZ,aP (yZ.mpr hb)] at h1;let h1:X.ho b=1+(u.reverse.filterMap id).count b:=by rw[h1];change 0+_=_;lia
    let h2:0<(u.reverse.filterMap id).count b ↔ Z' b∈u:=by
     rwa[vC,vY,#[λ⟨a,h,e⟩=>by cases e;show vE.mp h,λh=>#[Z' b,vE.mpr h,Z]]]
    let h3:0<↑(X.av b) ↔ ∃ p<↑g,b∈(gd g p).bs:=by
     constructor
     .intro h;let#[p,M]:=List.exists_mem_of_length_pos h;have:=(D8.dg.ave b bl p).mp M;show#[p,by rw[ev] at this;show yZ.mp this.1,by rw[et] at this;show this.2]
     .rintro⟨p,M,y⟩;show zEX ((D8.dg.ave b bl p).mpr #[#v[ev,yZ.mpr M],#v[et,y]])
    unfold Q9;rw[<-h2,<-h3]
    lia
   rcases hh with ⟨_,hh⟩ | ⟨_,_,z,_⟩
   .rcases hh with ⟨hd,k⟩ | ⟨⟨b,hb,W⟩,r⟩
    .show#[1,l,1,.inl (ZH.of i2),.inl (.mk D8 eR (S7.sh.new nR) (λb hb=>?_) λO X9 G9 S9 e9 v9 _ _=>?_)]
     .let hb:=yZ.mp hb;show#[?_,#v[et,ok.low b hb]]
      let h1:=D8.dg.hs b #v[ev,yZ.mpr hb]
      rw[tM,IN pZ,aP (yZ.mpr hb)] at h1;have:¬ (↑(X.av b)+X.ho b=1):=λz=>(i0 b hb).mp z (hd b hb);let e0:MX b=0:=rfl
      lia
     let c0:=G9.fr _ _ a0 (s8 _ _ a3);let e2:=G9.off _ _ a0 (s8 _ _ a3);exists oo,Xg ↑g,c0;let G:∀ c o,c≠D->O c\o->upd O D (.dK (Xg ↑g)) c\o:=λc o n e=>#v[ZT n,e]
     generalize upd O D (.dK (Xg ↑g))=a2 at G⊢;let e4:ZD H a2:=λc o q=>G c o (c3 c o q) (G9.fr c o (a1 c o q) (B c o q));exists 2,Ym;intro p np;show k _ p (e4.trans (Zr np _))
    .show#[1,l,1,.inl (ZH.of i2),.inr ?_];rw[l9];show .mk D8 eR (λb hb=>#v[ev,hb]) #[b,yZ.mpr hb,(i0 b hb).mpr W] λdx O s9 e9=>r dx O (λc o q=>s9 _ _ (B _ _ q)) e9
   .cases z
end
inductive Xa(A:jv)(H:Hp):V->ZK->Prop
 |mk{a rl:al}{bV:V}{ws:je}{t:ZK}:H a\.tup [.int (t.h:Nat),bV,.ref rl]->rl∉A->H rl\.lst ws->jK H (WC t.rows) ws->(t.h=0->bV=.non)->(t.h≠0->∃ bl,bV=.ref bl/\bl∉A/\H bl\.lst (iN t.bs))->Xa A H (.ref a) t
theorem Xa.step{A A':jv}{H b:Hp}{u:V}{t:ZK}(h:Xa A H u t)(a:∀ x∈A',x∈A)(d:∀ c o,c∉A->H c\o->b c\o)(m:XB H b):Xa A' b u t:=by
 induction h
 rename_i e f j p l q
 show .mk (m _ _ e) (λz=>f (a _ z)) (d _ _ f j) (p.mono m _ _) l λz=>by
  let#[i,k,g,n]:=q z;show#[i,k,λz=>g (a _ z),d _ _ g n]
theorem Xa.same{A A':jv}{H b:Hp}{u:V}{t:ZK}(h:Xa A H u t)(a:∀ x∈A',x∈A)(s:ZD H b):Xa A' b u t:=h.step a (λc o _ e=>s c o e) (ZD.tups s)
abbrev Zn(A:jv)(H:Hp)(b:je)(a:jp):Prop:=Paired (Xa A H) b a
theorem Zn.step{A A':jv}{H a:Hp}{e:je}{d:jp}(h:Zn A H e d)(b:∀ x∈A',x∈A)(f:∀ c o,c∉A->H c\o->a c\o)(m:XB H a):Zn A' a e d:=Paired.imp' (λ_ _ h=>h.step b f m) h
theorem Zn.same{A A':jv}{H b:Hp}{f:je}{d:jp}(h:Zn A H f d)(a:∀ x∈A',x∈A)(s:ZD H b):Zn A' b f d:=h.step a (λc o _ e=>s c o e) (ZD.tups s)
abbrev Pb(a:jz):List (jo):=a.flatMap λr=>[r.1.shown,r.2.shown]
theorem KN(a:jz):Pb a=(X6 a).map KT.shown:=by
 induction a with
 | nil=>rfl
 | cons r a b=>
  change r.1.shown::r.2.shown::Pb a=r.1.shown::r.2.shown::(X6 a).map KT.shown;rw[b]
theorem vw{a:jz}(h:0<↑a):jn ([108,101,97,102]::Pb a)=[108,101,97,102]++32::shownL (X6 a):=by
 cases a with
 | nil=>cases h
 | cons r a=>
  rw[KN];change [108,101,97,102]++tZ (λu=>32::u) (r.1.shown::(r.2::X6 a).map KT.shown)=[108,101,97,102]++32::shownL (r.1::r.2::X6 a);rw[Eg,xX,sG];rfl
theorem Be{a:jo}(h:1<=↑a):jn ([115,116,101,109]::a.map Zy)=[115,116,101,109]++32::jn (a.map Zy):=by
 cases a with
 | nil=>cases h
 | cons b a=>rfl
theorem Je{l:List (jo)}{B:Nat}(h:∀ t∈l,↑t<=B):((l.map ZS).map (·.length)).sum<=↑l * B:=by
 induction l with
 | nil=>show yQ _
 | cons t l b=>
  have:=b λx a=>h x (zM _ a);have:=h t zQ;rw[yT,yT,tW,zV,QT,uA]
  lia
structure Mw(t:ZK):Prop where
 lf:t.h=0->Vy t.rows
 st:t.h≠0->1<=↑t.bs/\↑t.bs<=4/\∀ b∈t.bs,b<1000
inductive XF:Sp
 |mk{A:jv}{u:V}{t:ZK}{H:Hp}{Q:VK}{E:XK}:Xa A H u t->Mw t->(∀ a,ZD H a->Q (.str (ZS (Y3 t))) a)->XF [u] H Q E
theorem VW:ZB ["_law_twig","_law_words","_law_spot","_law_value_here"] Tf (Za HH):=Z2
inductive B2(H:Hp)(u:V)(rs:jz):Nat->L2.St->Hp->Prop
 |mk{j:Nat}{l:al}{x2 x3:jf}{H':Hp}:ZD H H'->H' l\.lst ((([108,101,97,102]::Pb (rs.take j)).map ZS).map V.str)->B2 H u rs j [Z' u,Z' (.ref l),x2,x3] H'
theorem lN(F:Zk K "_law_twig_row" "_law_twig_row" HH f fd)(T:Txt mg)(DS:ZC P w K mg jS 5 "_law_show" T1 (VC 4)):ZI P w K mg jS ZX 6 f fd Tf XF:=by
 show F.ok VW (λvs H Q E h=>(by induction h;rfl)) (λa6 A a4 s H vs Q E hr h=>?_)
 induction h
 rename_i A u t H Q E tg ok k
 let C:=VW.nd;intro Xc;show#[_,ZL (Zh 1 C (YY (ZM Zu)))
  (ZL (Zx (Ps (Ep (XI K (pv 0) ZJ)))
   (ZL (Zh 1 C (YY (ZM Zu)))
   (ZL (WZ PassesOwn.never Z (WQ (XI K (pv 0) ZJ)) (Dr Z (Kq (WB 2 C) (Kq (WB 3 C) Fs)))
    (ZR (Zh 1 C (ZW Xn (pv 1) (YY (Zb (Ze DS hr (ZM (pv 2))) (Ze DS hr (ZM (pv 3)))))))))
   (ZR (Zl (Vo vN uG sY Ms Zu (ZM (pv 1))))))) Z0)
  (ZR (Zl (Vo vN uG sY Ms Zu (ZM (ZW Xn (pv 1) (VT [] [] Z (WQ (XI K (pv 0) ZJ)) (λ_ _ _ _ _=>VH) (λ_ _ _ _ _=>VD PN Z T.str UL (ZM (pv 0))) trivial))))))),?_]
 induction tg
 rename_i a rl bV ws t ea n1 el ks hl hs
 exists Ym;intro l1 a2;rw[Md];let#[H1,S,g,h1]:=YN a2 (.lst [.str (ZS [115,116,101,109])]);rw[S];exists 1,a,_,_,1,Z,Zd.of (g _ _ ea),Z,_,Z;by_cases p:t.h=0
 .obtain rfl:=hl p;let G:=ok.lf p;show Zq #[Ym,λl2 a3=>?_];rw[Lo];let#[H2,U,s2,h2]:=YN a3 (.lst [.str (ZS [108,101,97,102])]);rw[U];let o:=g.trans s2;let a1:=o _ _ el;let lw:↑ws=↑t.rows:=by have:=↑ks;rwa[<-this,zY _]
  let l4:=G.2.2.1;show#[1,a,_,_,1,Z,Zd.of (o _ _ ea),Z,rl,Z,#[_,ZH.of a1],UZ (K:=K) (a:=rl) (xs:=ws) (B2 H (.ref a) t.rows) (.mk o h2) ?_ ?_ ?_]
  .intro j σ c _ m
   induction m
   rename_i d _
   show ZH.of (d _ _ el)
  .intro j u σ c hu m
   induction m
   rename_i j l3 x2 x3 c d J
   let#[ra,vk,vv,er,rfl,e4,k1,k2]:=NO (ks.sm d) hu;let rm:=G.1 _ (zI er);exists ra,[vk,vv],Z,Zd.of e4,Z,_,1,_,1,Z;show#[2,vk,_,(3),Z,k1,rm.1,by decide,by decide,λO N=>#[1,vv,_,(3),Z,k2.sm N,rm.2,by decide,by decide,λH5 s5=>#[Ym,λq nq=>?_]]]
   let#[H6,X,s6,h6]:=YN nq (.lst [.str (Wg (t.rows.getD j rc).1),.str (Wg (t.rows.getD j rc).2)]);rw[X];let I:=N.trans (s5.trans s6);show#[l3,q,_,1,Z,I _ _ J,h6,?_,λv nv=>?_]
   .let hj:=(yL.mp er).1;have:↑(Pb (t.rows.take j))=2 * ↑(t.rows.take j):=by rw[KN,zY,Np]
    rwa[zY,zY,zV,this,zH,yK (YQ (by simp only[zV,yE];lia))]
   .let#[H7,Y,s7,h7]:=YN nv (.lst ((([108,101,97,102]::Pb (t.rows.take j)).map ZS).map V.str++[.str (Wg (t.rows.getD j rc).1),.str (Wg (t.rows.getD j rc).2)]));rw[Y];show .mk (d.trans (I.trans s7)) ?_;rw[h7,yR,er];simp[Pb];show#[Z,Z]
  .intro σ c m;rw[lw] at m;generalize ej:↑t.rows=j at m
   induction m
   rename_i j l3 x2 x3 c d J
   rw[<-ej,xF] at J;let fl:∀ x∈[108,101,97,102]::Pb t.rows,↑x<=22000:=λx hx=>by
    rcases zN.mp hx with y | y
    .rw[y];decide
    .rw[KN] at y;let#[u,hu,rfl]:=zA.mp y;let ff:=FW G.1;rw[QX] at ff;show zK (LF u 3 (zE.mp ff u hu)) (KR (by decide))
   let sm:=Je fl;let ln:↑(Pb t.rows)=2 * ↑t.rows:=by rw[KN,zY,Np]
   rw[zV,ln] at sm;let m9:(2 * ↑t.rows+1) * 22000<=9 * 22000:=tI _ ∅
   exists Z,1,_,l3,([108,101,97,102]::Pb t.rows).map ZS,Z,Z,ZH.of J,?_
   .rw[zY,zV,ln,show ↑(zX " ")=1 by decide +kernel];lia
   .rw[MI,Lw,vw G.2.1];have:=k c d;unfold Y3 at this;rw[aP p] at this;show this
 .let#[bl,rfl,n2,M]:=hs p;let#[b1,b4,bK]:=ok.st p;show Zo #[Z,2,a,_,_,1,Z,Zd.of (g _ _ ea),Z,bl,Z,#[_,ZH.of (g _ _ M)],?_];let lb:↑(iN t.bs)=↑t.bs:=zY _;show Wr (n:=↑t.bs) (λi z=>(iN t.bs)[i]?\z) (λD i r c=>ZD H1 c/\H1 D=Y'/\r=(((t.bs.take i).map Zy).map ZS).map V.str) (YQ ∅)
   (λD i r c hi e=>#[_,(iN t.bs)[i]'∅,ZH.of (e.1 _ _ (g _ _ M)),zU _]) (λD i r c z O hi e hy=>#[hy.1,hy.2 _ (ZH.of (e.1 _ _ (g _ _ M)))]) (λD r c e=>#[_,ZH.of (e.1 _ _ (g _ _ M)),#v[lb,zW _]])
   (λD hD=>#[Zr hD _,hD,Z]) (λD i r c z L a7 hi hz e R hR=>?_) (λD r c L e=>?_)
  .let#[d,nD,rfl]:=e;let#[b,eb,rfl]:=QU hz;let b9:=bK b (zI eb);show#[1,(b:Int),Z,PF (yI (show (b:Int).natAbs<1000 from b9) (by decide)),hR _ c L #[UJ d nD,nD,?_]]
   rw[On,yR,eb];simp
  .let#[d,nD,rfl]:=e;rw[xF] at L;let a5:=g.trans d;exists l1,D,_,1,Z,d _ _ h1,L,yK (YQ (by simp only[zV,yE,zY];lia))
   intro q nq;let#[O,W,N,h4]:=YN nq (.lst ([V.str (ZS [115,116,101,109])]++((t.bs.map Zy).map ZS).map V.str));rw[W];let sm:=Je (l:=[115,116,101,109]::t.bs.map Zy) (B:=4) λx hx=>by
    rcases zN.mp hx with y | y
    .rw[y];decide
    .let#[b,a0,rfl]:=zA.mp y;show zK (Pg (bK b a0)) (by decide)
   rw[zV,zY] at sm;exists zX " ",q,([115,116,101,109]::t.bs.map Zy).map ZS,Z,Z,ZH.of h4,?_
   .rw[zY,zV,zY,show ↑(zX " ")=1 by decide +kernel];lia
   .rw[MI,Lw,Be b1];have:=k O (a5.trans N);unfold Y3 at this;rw[aO p] at this;show this
theorem oQ:zX "root -" = ZS (QL Y'):=Q7 (by decide +kernel)
theorem Dj:zX "root " = ZS [114,111,111,116,32]:=Q7 (by decide +kernel)
inductive GK(x y:V)(H:Hp)(Q:VK):Prop
 |mk(a b:_)(_:ZE H a x)(_:ZE H b y)(_:a.cmp b=V')(_:a.depth<=200)(_:Q (.bl (!b.plt a)) H)
theorem zm{k:Nat}(i:ZU k X.A):XS X (aA .LtE) GK:=by
 intro c s m H x y v u Q I j l h;let#[a,b,d,e,f,g,q]:=h;show HQ true a.depth a b X.A v u (zW _) (PX I a x v d j) (PX I b y u e l) f (ZU.key i g) X.prog X.w X.xe _ #[.bl _,H,I,Z,q]
inductive Xy:Sp
 |mk{e:ju}{H:Hp}{Q:VK}{E:XK}:(∀ r,e\r->r<1000)->Q (.str (ZS (QL e))) H->Xy [PD e] H Q E
theorem qq:ZB Ts Ts (Za Hf):=Z2
theorem mZ(F:Zk K "_law_end_row" "_law_end_row" Hf f fd)(T:Txt mg):ZI P w K mg jS ZX 1 f fd Ts Xy:=by
 show F.ok qq (λg H Q E h=>(by induction h;rfl)) (λc A a s H g Q E j h=>?_)
 induction h
 rename_i e H Q E d q
 intro i;exists _,ZL (Zx (Ps (Ep (pv 0))) (ZR (Zl Zu)) Z0) (ZR (Zl (ZW WR Zu (VD PN Z T.str UL (ZM (pv 0))))))
 cases e with
 | none=>
  show#[2,Zq ?_];rwa[oQ,q]
 | some r=>
  let b:=d r Z;show#[2,Zo #[1,(r:Int),Z,PF (yI (show (r:Int).natAbs<1000 from b) (by decide)),_,1,Z,?_,?_]]
  .rw[Dj,On,QT,QT];have:=Pg b;show yK (YQ (by simp only[zV,yE];lia))
  .rw[Dj,On];let e:ZS [114,111,111,116,32]++ZS (Zy r)=ZS (QL (Z' r)):=by
    have:=GB [114,111,111,116,32] (Zy r) [];rw[xK] at this;show(Q7 (by rfl)).trans this
   rwa[e,q]
abbrev OX(t:ZK):KT:=(t.rows.getD 0 rc).1
theorem pj{A:jv}{H:Hp}{u:V}{t:ZK}(h:Xa A H u t)(r:t.rows≠[]):∃(a d c:al)(g e i:V)(b:je),u=.ref a/\H a\.tup [.int (t.h:Nat),g,.ref d]/\H d\.lst b/\b[0]?\.ref c/\H c\.tup [e,i]/\ZE H (OX t) e:=by
 induction h
 rename_i a d g b t n z o j v x
 let q:↑b=↑t.rows:=by have:=↑j;rwa[<-this,zY _]
 let k:0<↑b:=#v[q,xN.mpr r]
 let#[c,e,i,s,l,m,p,y]:=NO j (zU k);show#[a,d,c,g,e,i,b,Z,n,o,by rw[zU k,l],m,p]
inductive Xt:Sp
 |mk{A:jv}{g h:al}{a:jo}{j:je}{c:jp}{H:Hp}{Q:VK}{E:XK}:H g\.lst (iN a)->H h\.lst j->Zn A H j c->(∀ b∈a,b<↑c)->(∀ i<↑c,(gd c i).rows≠[]/\∀ r∈(gd c i).rows,r.fit)->↑a<=200 ->
  (∀(d:Hp)(D:al)(e:jo),ZD H d->H D=Y'->d D\.lst (iN e)->(∀ x∈e,x∈a)->↑e<=↑a->Q (.ref D) d)->Xt [.ref g,.ref h] H Q E
theorem UB:ZB ["_law_numbers","_law_twigs","_law_found","_law_number","_law_at","_law_least"] S2 (Za Jh):=Z2
inductive FR(H:Hp)(nl tl D:al)(ns:jo):Nat->L2.St->Hp->Prop
 |mk{j:Nat}{ms:jo}{x3 x4 x5:jf}{H':Hp}:ZD H H'->H' D\.lst (iN ms)->(∀ x∈ms,x∈ns)->↑ms=j->FR H nl tl D ns j [Z' (.ref nl),Z' (.ref tl),Z' (.ref D),x3,x4,x5] H'
inductive Fo(H:Hp)(nl tl D:al)(n:Nat)(x3 lv:V)(ll:KT):Nat->L2.St->Hp->Prop
 |mk{i m:Nat}{H':Hp}:ZD H H'->i+m=n->ZE H' ll lv->Fo H nl tl D n x3 lv ll m [Z' (.ref nl),Z' (.ref tl),Z' (.ref D),Z' x3,Z' (.int (i:Nat)),Z' lv] H'
theorem K0{c d:Type}{C R:c->d->Prop}{G:Prop}(h:(∀ a b,C a b->R a b)->G)(r:∀ a b,C a b->R a b):G:=h r
theorem oP(F:Zk K "_law_by_keys" "_law_by_keys" Jh f fd)(T:Txt mg)(DR:ZC P w K mg jS 5 "_law_rank" T1 (Yb 4)):ZI P w K mg jS ZX 6 f fd S2 Xt:=by
 show F.ok UB (λvs H Q E h=>(by induction h;rfl)) (λc0 A a4 s H vs Q E hr h=>?_)
 induction h
 rename_i A nl tl X us n H Q E O R tg S ok a8 k
 let W:=UB.nd;let fk:∀{i:Nat}{l:Expr}{tt:TE},True:=fun{i l tt}=>trivial;intro Xc;show#[_,ZL (Zh 2 W (YY Zv))
  (ZL (WZ PassesOwn.never Z (WQ (pv 0)) (WB 3 W)
   (ZL (Zh 4 W ZJ)
   (ZL (Zh 5 W (Ze DR hr (ZM (XI K (YC K (XI K (YC K (pv 1) (pv 3)) ZJ) ZJ) ZJ))))
   (ZL (LB PassesOwn.never (PW.pt (Pn (Z6 OA (pv 4) (Zp YO Z T.len YK (ZM (pv 2))) (Zz _)) (OJ (Z6 (zm hr) (Ze DR hr (ZM (XI K (YC K (XI K (YC K (pv 1) (YC K (pv 2) (pv 4))) ZJ) ZJ) ZJ))) (pv 5) (Zz _)))))
    (ZR (Zh 4 W (ZW Yo (pv 4) ZJ))))
   (ZR (Wa (Vo wT zEC zEA Cd (pv 2) (Zb (pv 4) (pv 3)))))))))
  (ZR (Zl (pv 2)))),?_]
 let c1:=Paired.length tg;let U:∀{v:Hp}{b:Nat},ZD H v->b<↑n->∃(a G B:al)(bV I vv:V)(ws:je),us[b]?\.ref a/\v a\.tup [.int ((gd n b).h:Nat),bV,.ref G]/\v G\.lst ws/\ws[0]?\.ref B/\v B\.tup [I,vv]/\ZE v (OX (gd n b)) I/\(OX (gd n b)).fits 3=V':=fun{v b} s hb=>by
  let#[u,hu,tb]:=UH tg (U7 hb);let#[n0,ft]:=ok b hb;let#[a,G,B,bV,I,vv,ws,rfl,e1,e2,e3,e4,e5]:=pj tb n0;let l0:=xN.mpr n0;show#[a,G,B,bV,I,vv,ws,hu,s _ _ e1,s _ _ e2,e3,s _ _ e4,e5.sm s,(ft _ #v[zO,zU l0,xP l0]).1]
 exists Ym;intro D nD;let#[H1,a1,s1,h1]:=YN nD (.lst []);rw[a1];show#[1,nl,Z,#[_,ZH.of (s1 _ _ O)],UZ (K:=K) (a:=nl) (xs:=iN X) (FR H nl tl D X) (.mk (ms:=[]) s1 h1 (λx hx=>by cases hx) Z) ?_ ?_ ?_]
 .intro j σ J _ r
  induction r
  rename_i t _ _ _
  show ZH.of (t _ _ O)
 .intro j u σ J hu r
  induction r
  rename_i j d x3 x4 x5 J t h2 g ml
  let#[b,M,rfl]:=QU hu;let bm:=zI M;let jl:=(yL.mp M).1;let#[a,G,B,bV,I,vv,ws,e0,e1,e2,e3,e4,e5,e6]:=U t (S b bm);show#[2,.inl #[tl,_,_,1,Z,ZH.of (t _ _ R),YW e0,a,_,_,1,Z,Zd.of e1,Z,.inl #[G,_,_,1,Z,ZH.of e2,YW (j:=0) e3,B,_,_,1,Z,Zd.of e4,Z,I,_,(3),Z,e5,e6,?_,λlv H3 kl s3=>?_]]]
  .show uN (UO _ _ e6)
  let h3:=s3 _ _ h2;let Y:=t.trans s3;let dp:(OX (gd n b)).rk.depth<=200:=zK (N5 _) (by have:=UO _ _ e6;lia)
  apply K0 (C:=fun(i:Nat)(L:Hp)=>ZD H3 L/\i<=↑d)
  .intro ex;exists Fo H3 nl tl D ↑d (.int (b:Nat)) lv (OX (gd n b)).rk,#[_,.mk (i:=0) (ZD.refl H3) (vK _) kl];intro m σ L hW
   induction hW
   rename_i i m L p im k4
   let N:=p _ _ h3;let a0:=Y.trans p;exists 2,D,1,.inl (ZH.of N),_,1,Z,_,Z;let lm:↑(iN d)=↑d:=zY _;by_cases y:i<↑d
   .rw[aM (show ((i:Nat):Int)<(↑(iN d):Nat) by rw[lm];lia)]
    let#[a2,a6,a5,a9,a7,c3,c4,f0,f1,f2,f3,f4,f5,f6]:=U a0 (S _ (g _ (xP y)));let em:(iN d)[i]?\.int (d[i]:Nat):=by rw[zF,zU y];rfl
    show Zq #[3,.inl #[D,_,_,1,Z,ZH.of N,YW em,.inl #[tl,_,_,1,Z,ZH.of (a0 _ _ R),YW f0,a2,_,_,1,Z,Zd.of f1,Z,.inl #[a6,_,_,1,Z,ZH.of f2,YW (j:=0) f3,a5,_,_,1,Z,Zd.of f4,Z,a7,_,(3),Z,f5,f6,uN (UO _ _ f6),λc2 H5 a3 s5=>?_]]]];exists 1,(OX (gd n d[i])).rk,(OX (gd n b)).rk,a3,k4.sm s5,LY _ _,zK (N5 _) (by have:=UO _ _ f6;lia),_,Z
    cases(OX (gd n b)).rk.plt (OX (gd n d[i])).rk with
    | true=>show Zo (ex i H5 #[p.trans s5,yK y])
    | false=>show Zq #[_,λ_ _ z=>z,1,_,1,Z,m-1,∅,.mk (i:=i+1) (p.trans s5) ∅ (k4.sm s5)]
   .rw[aK (show ¬ ((i:Nat):Int)<(↑(iN d):Nat) by rw[lm];lia)]
    show Zo (Zo (ex i L #[p,∅]))
  .intro i L hc;let#[p,il]:=hc;let N:=p _ _ h3;exists 1,.inl #[Z,_,ZH.of N],2,D,_,i,1,Z,N,#v[zY,il],YQ (by rw[zY,ml];lia)
   let e:(iN d).take i++.int (b:Nat)::(iN d).drop i=iN (d.take i++b::d.drop i):=by
    unfold iN;rw[yX,yT,tX,zET]
   rw[e];show .mk (λc o q=>?_) ZY (λx hx=>?_) ?_
   .rwa[ZT (Zf q nD),p _ _ (Y _ _ q)]
   .rcases yY.mp hx with z | z
    .show g x (uC z)
    .rcases zN.mp z with z | z
     .rwa[z,bm]
     .show g x (rW z)
   .rw[zS,zV,zH,yV];lia
 .intro σ J r;rw[show ↑(iN X)=↑X from zY _] at r;generalize ej:↑X=j at r
  induction r
  rename_i j d x3 x4 x5 J t h2 g ml
  show#[1,k J D d t nD h2 g #v[ml,ej,zW _]]
theorem CN{a b:jz}(c:b≠[]):(a++b).getD (↑(a++b)-1) rc=b.getD (↑b-1) rc:=by
 have:=xN.mpr c;rw[zO,zO,zS,wN ∅]
 congr 2
 lia
theorem vh{a b:jz}(l:Up a)(n:Up b)(o:a≠[])(p:b≠[])(h:(a.getD (↑a-1) rc).1.lt (b.getD 0 rc).1=V'):Up (a++b):=by
 obtain⟨g,x,rfl⟩:∃ g x,a=g++[x]:=#[_,_,(sT o).symm]
 obtain⟨y,c,rfl⟩:∃ y c,b=y::c:=by cases b with
  | nil=>show absurd Z p
  | cons y c=>show#[y,c,Z]
 rw[CN (b:=[x]) ⋯] at h
 let h:x.1.lt y.1=V':=h;let d:((g++[x]).map (·.1)).Pairwise λx y=>x.lt y=V':=l;let e:((y::c).map (·.1)).Pairwise λx y=>x.lt y=V':=n;change ((g++[x]++y::c).map (·.1)).Pairwise λx y=>x.lt y=V';rw[yX,tF];let j:∀ k∈(y::c).map (·.1),x.1.lt k=V':=λk f=>by
  rw[yT] at f e;rcases zN.mp f with z | z
  .rwa[z,h]
  .show U' _ _ _ h ((wX.mp e).1 k z)
 exists d,e;intro k f m i;rw[yX] at f d;rcases yY.mp f with z | z
 .show U' _ _ _ ((tF.mp d).2.2 k z x.1 ⋯) (j m i)
 .rw[yT,tY] at z;rwa[zP.mp z,j m i]
theorem AU{a:jp}{c:jo}{b:Nat}(d:(gd a b).rows≠[]):((YM a (c++[b])).getD (↑(YM a (c++[b]))-1) rc).1=((gd a b).rows.getD (↑(gd a b).rows-1) rc).1:=by
 let e:YM a (c++[b])=YM a c++(gd a b).rows:=by rw[Mv];change _++tZ _ [b]=_;simp
 rw[e,CN d]
theorem Nn{A:jv}{H:Hp}{u:V}{t:ZK}(h:Xa A H u t):∃(a c:al)(f:V)(b:je),u=.ref a/\H a\.tup [.int (t.h:Nat),f,.ref c]/\H c\.lst b/\c∉A/\↑b=↑t.rows/\∀ i<↑t.rows,∃(d:al)(e g:V),b[i]?\.ref d/\H d\.tup [e,g]/\ZE H (t.rows.getD i rc).1 e:=by
 induction h
 rename_i a c f b t m q n j v w
 let p:↑b=↑t.rows:=by have:=↑j;rwa[<-this,zY _]
 exists a,c,f,b,Z,m,n,q,p;intro i s;let#[d,e,g,r,k,l,o,x]:=NO j (zU (show i<↑b by lia))
 show#[d,e,g,by rw[zU (show i<↑b by lia),k],l,o]
inductive Yw:Sp
 |mk{A:jv}{p e:al}{g:Nat}{i:je}{a:jp}{H:Hp}{Q:VK}{E:XK}:ZG H p->p∈A->e≠p->H e\.lst i->Zn A H i a->XY a->↑a<=30 ->
  (∀(c:Hp)(D:al)(d:jo),ZG c p->ZA p H c->H D=Y'->c D\.lst (iN d)->↑d<=4->(∀ b∈d,b<↑a/\(gd a b).h=g)->Up (YM a d)->Q (.ref D) c)->Yw [.ref p,.ref e,.int (g:Nat)] H Q E
theorem Wq:ZB ["_law_well_here","_law_twigs","_law_high","_law_some","_law_most","_law_first","_law_at"] Tc (Za GF):=Z2
inductive B5(H:Hp)(p tl D:al)(hi:Nat)(mo:Int)(ts:jp):Nat->L2.St->Hp->Prop
 |mk{j:Nat}{bs:jo}{fi:Int}{x6:jf}{H':Hp}:ZA D H H'->H' D\.lst (iN bs)->↑bs<=4->(∀ b∈bs,b<↑ts/\(gd ts b).h=hi)->Up (YM ts bs)->B5 H p tl D hi mo ts j [Z' (.ref p),Z' (.ref tl),Z' (.int (hi:Nat)),Z' (.ref D),Z' (.int mo),Z' (.int fi),x6] H'
abbrev CC(H:Hp)(D:al)(e:Nat)(c:jp)(a:jo)(d:Hp):Prop:=ZA D H d/\d D\.lst (iN a)/\↑a<=4/\(∀ b∈a,b<↑c/\(gd c b).h=e)/\Up (YM c a)
theorem LD{d e:Type}{C:d->e->Prop}{a:d}{b:e}(h:C a b):∃ g c,b=c/\C g c:=#[a,b,Z,h]
theorem A0(F:Zk K "_law_branches" "_law_branches" GF f fd)(T:Txt mg)(DP:ZC P w K mg jS 1 "_law_pull" T2 Zm)(DB:ZC P w K mg jS 6 "_law_by_keys" S2 Xt)(DR:ZC P w K mg jS 5 "_law_rank" T1 (Yb 4)):ZI P w K mg jS ZX 7 f fd Tc Yw:=by
 show F.ok Wq (λvs H Q E h=>(by induction h;rfl)) (λn9 A m2 s H vs Q E hr h=>?_)
 induction h
 rename_i A p tl J us g H Q E W pA n2 c6 tg fo o0 k
 let nd:=Wq.nd;let c4:=hr.mono (show 1<=6 by lia)
 let c5:=hr.mono (show 5<=6 by lia)
 intro Xc;show#[_,ZL (Zh 3 nd (YY Zv))
  (ZL (Zh 4 nd (ZW Yo ZJ (Ze DP c4 (Zb (pv 0) ZJ))))
  (ZL (Zh 5 nd (Ze DP c4 (Zb (pv 0) ZJ)))
  (ZL (WZ PassesOwn.never Z (WQ (Ze DB hr (Zb (VT [1,2] ["_law_twigs","_law_high"] Z (QO Z T.range (ZM (Zp YO Z T.len YK (ZM (pv 1))))) (λ_ _ _ _ _=>Gj (Z6 Y4 (XI K (YC K (pv 1) (pv 0)) ZJ) (pv 2) (Zz _))) (λ_ _ _ _ _=>pv 0) #[Z,.inl Z,Z,Z,.inl Z,Z,trivial]) (pv 1)))) (WB 6 nd)
   (ZL (Zx (PW.pt (Pn (Z6 OA (Zp YO Z T.len YK (ZM (pv 3))) (pv 4) (Zz _)) (OJ (Z6 Y4 (pv 5) ZJ (Zz _)))))
    (ZR (Zx (PW.pt (Pe (Z6 (Fx hr.units0) (pv 3) (YY Zv) (Zz _)) (Pc (Z6 (HB hr) (Ze DR c5 (ZM (XI K (YC K (XI K (YC K (pv 1) (YC K (pv 3) (Pw OD ZJ))) ZJ) (Pw OD ZJ)) ZJ))) (Ze DR c5 (ZM (XI K (YC K (XI K (YC K (pv 1) (pv 6)) ZJ) ZJ) ZJ))) (Zz _)))))
     (ZR (Wa (Vo wT vX vW Ql (pv 3) (ZM (pv 6))))) Z0)) Z0)
   (ZR (Zh 5 nd (Zp (Ij Z) Z T.max Jj (Zb ZJ (ZW Ui (pv 5) ZJ)))))))
  (ZR (Zl (pv 3)))))),?_]
 let o1:=Paired.length tg;let a8:=fo.ok;exists Ym;intro D nD;let#[H1,e9,s1,h1]:=YN nD (.lst []);rw[e9];let#[px,a6]:=W.some;let Dp:D≠p:=(Zf a6 nD).symm;show#[1,p,(3),Z,W.same s1,#[by decide,by decide],λr1 H2 o6 o7 W2 s2=>#[_,1,Z,?_]]
 exists 1,p,(4),Z,W2,#[by decide,by decide]
 intro r2 H3 o8 o9 W3 s3;let r:ZA p H H3:=λc o e n=>s3 c o (s2 c o (s1 c o e) n) n;let h3:H3 D\.lst []:=s3 _ _ (s2 _ _ h1 Dp) Dp;let e0:Zn A H3 us g:=tg.step (λx h=>h) (λc o n e=>r c o e λz=>n (z ▸ pA)) (r.tups a6);let l:=r _ _ c6 n2;exists 1,tl,us,Z,.inl (ZH.of l),1,∅,by lia
 show IA (n:=↑us) (λi z=>z=.int (0+(i:Int))) (λi=>decide (V.int ((gd g i).h:Nat)=V.int (J:Nat))) (λR i ys N=>ZD H3 N/\H3 R=Y'/\ys=iN ((zG i).filter λi=>decide (V.int ((gd g i).h:Nat)=V.int (J:Nat)))) (YQ ∅)
  (λR i ys N m O=>m) (λR i ys N z G m O hy=>hy) (λR ys N O=>zW _) (λR hR=>#[Zr hR _,hR,Z]) (λR i ys N z eR m hz O Rr a5=>?_) (λR i ys N z eR m hz hk O Rr a5=>?_) (λR i ys N eR m hk O=>?_) (λR ys N eR O=>?_)
 .let#[B,nR,rfl]:=O;subst hz;let#[u,hu,tb]:=UH e0 (U7 (show i<↑g by lia))
  let#[a,rl,bV,ws,rfl,ea,_,_,_,_]:=Nn tb;show#[2,.inl #[tl,_,_,1,congrArg V.int (vL _),ZH.of (B _ _ l),YW hu,a,_,_,1,Z,Zd.of (B _ _ ea),Z,1,Z,1,a5 N eR #[B,nR,Z]]]
 .let#[B,nR,rfl]:=O;subst hz;show#[1,a5 _ N eR #[UJ B nR,nR,?_]];rw[xA,uK,wJ,aP hk];unfold iN;rw[yX,vL];rfl
 .let#[B,nR,rfl]:=O;exists B,nR;rw[xA,uK,wJ,hk];unfold iN;simp
 .let#[B,nR,rfl]:=O;let e3:=e0.same (λx h=>h) B;show#[1,.mk eR (B _ _ l) e3 (λb hb=>?_) a8 ?_ λG Dm ms s9 a7 hm m9 ml=>?_]
  .have:=yZ.mp (wD.mp hb).1
   lia
  .have:=rT (λi=>decide (V.int ((gd g i).h:Nat)=V.int (J:Nat))) (zG ↑us);rw[vR] at this
   lia
  let t:=B.trans s9;let c7:∀ x∈ms,x<↑g/\(gd g x).h=J:=λx hx=>by
   let#[y1,y2]:=wD.mp (m9 x hx);let y1:=yZ.mp y1;let y2:=V.int.inj (of_decide_eq_true y2);show#[∅,∅]
  let c3:=t _ _ h3;let e6:Dm≠D:=λz=>by rw[z] at a7;erw[B _ _ h3] at a7
  let p1:=e3.same (A':=A) (λx h=>h) s9;let a3:=t _ _ l;let e4:tl≠D:=Zf c6 nD;show#[Dm,Z,#[_,ZH.of hm],UZ (K:=K) (a:=Dm) (xs:=iN ms) (B5 G p tl D J (2+r1) g) (.mk (bs:=[]) (ZA.refl D G) c3 (yQ _) (λb hb=>by cases hb) sM.nil) ?_ ?_ ?_]
  .intro j σ H4 _ hI
   induction hI
   rename_i s4 _ _ _ _
   show ZH.of (s4 _ _ hm e6)
  .intro j u σ H4 hu hI
   induction hI
   rename_i j d fi x6 H4 s4 h4 b4 bb ub
   let#[b,i3,rfl]:=QU hu;let#[bl,bh]:=c7 b (zI i3);let t4:XB G H4:=s4.tups c3;let L:↑(iN d)=↑d:=zY _;apply K0 (C:=CC G D J g)
   .intro ex;let c0:CC G D J g d H4:=#[s4,h4,b4,bb,ub];exists 1,D,1,.inl (ZH.of h4),1,_,1,Z,_,Z;by_cases y:(↑(iN d):Int)<2+r1
    .rw[aM y];show Zq #[1,Z,1,?_];by_cases y2:V.int fi=V.int 0
     .rw[aM y2];show Zq #[1,Ym,λq nq=>?_];let#[H5,i0,s5,l1]:=YN nq (.lst []);rw[i0];let Y:=s5 _ _ h4;exists D,q,1,Z,ZH.of Y,ZH.of l1,_,Z;let v:ZA D G H5:=λc o e n=>s5 _ _ (s4 c o e n);let l3:↑d+1<=4:=by rw[L] at y;lia
      let c9:∀ H6,ZD H5 H6->Up (YM g (d++[b]))->CC G D J g (d++[b]) (upd H6 D (.lst (iN d++[.int (b:Nat)]))):=λH6 s6 u6=>by
       show#[λc o e n=>#v[ZT n,s6 _ _ (v c o e n)],?_,#v[zS,l3],λb' l0=>?_,u6]
       .rw[ZY];unfold iN;rw[yX];rfl
       .rcases yY.mp l0 with z | z
        .show bb b' z
        .rwa[zP.mp z,#[bl,bh]]
      let nb:=a8 b bl;let e5:Up (gd g b).rows:=by
       have:=fo.wf b (yZ.mpr bl);show this.up
      by_cases eb:d=[]
      .rw[show (iN d).isEmpty=V' by rw[eb];rfl]
       show Zq (Zq #[1,.inl #[Z,_,ZH.of Y],1,D,_,1,Z,Y,YQ (by rw[L];lia),?_])
       let#[U,S,X,I]:=LD (C:=CC G D J g) (c9 H5 (ZD.refl H5) (by rw[eb,sV];simpa [YM] using e5))
       rwa[X,ex U S I]
      .let e8:0<↑d:=xN.mpr eb;rw[show (iN d).isEmpty=false from uM.mpr λz=>eb (uE.mp (List.isEmpty_iff.mp z))];let gl:d[↑d-1]?\(d[↑d-1]'∅):=zU _
       generalize d[↑d-1]'∅=c at gl
       let cm:=zI gl;let eN:(iN d)[(iN d).length-1]?\.int (c:Nat):=by rw[L,zF,gl];rfl
       let cl:=(bb c cm).1;let#[nc,fc]:=a8 c cl;let o5:=xN.mpr nc;let#[u1,l2,n0]:=UH tg (U7 cl);let#[a1,m5,n7,n6,rfl,i1,i6,m0,l9,m7]:=Nn n0;let#[m3,n4,p2,i8,i4,l5]:=m7 (↑(gd g c).rows-1) ∅
       let#[u2,l4,n1]:=UH tg (U7 bl);let#[a2,m6,n8,p4,rfl,i2,i7,m1,o4,m8]:=Nn n1;let c8:=xN.mpr nb.1;let#[m4,n5,p3,i9,i5,l6]:=m8 0 c8;let sP:∀ x o,x∉A->H x\o->H5 x\o:=λx o n e=>v x o (t x o (r x o e λz=>n (z ▸ pA))) (Zf e nD);let a0:XB H H5:=λx xs e=>v x _ (t x _ (r x _ e (Z5 e a6))) (Zf e nD);let a4:((gd g c).rows.getD (↑(gd g c).rows-1) rc).1.fits 3=V':=(fc _ #v[zO,zU (show ↑(gd g c).rows-1<↑(gd g c).rows by lia),xP _]).1
       let c2:((gd g b).rows.getD 0 rc).1.fits 3=V':=(nb.2 _ #v[zO,zU c8,xP _]).1
       show Zo #[3,.inl #[D,_,_,1,Z,ZH.of Y,Ik (zW 1) #v[L,e8] eN,.inl #[tl,_,_,1,Z,ZH.of (v _ _ a3 e4),YW l2,a1,_,_,1,Z,Zd.of (a0 _ _ i1),Z,1,.inl #[m5,_,_,1,Z,ZH.of (sP _ _ m0 i6),Ik (zW 1) (show 1<=↑n6 by lia) #v[l9,i8],m3,_,_,1,Z,Zd.of (a0 _ _ i4),Z,n4,_,(3),Z,l5.mono a0 _ _,a4,uN (UO _ _ a4),λo2 H6 l7 s6=>?_]]]]
       let p0:=s6;let a9:XB H H6:=λx xs e=>s6 _ _ (a0 x xs e);show#[2,.inl #[tl,_,_,1,Z,ZH.of (s6 _ _ (v _ _ a3 e4)),YW l4,a2,_,_,1,Z,Zd.of (a9 _ _ i2),Z,.inl #[m6,_,_,1,Z,ZH.of (s6 _ _ (sP _ _ m1 i7)),YW (j:=0) i9,m4,_,_,1,Z,Zd.of (a9 _ _ i5),Z,n5,_,(3),Z,l6.mono a9 _ _,c2,uN (UO _ _ c2),λo3 H7 l8 s7=>?_]]];let M:=s6.trans s7;exists _,_,l7.sm s7,l8,LY _ _,zK (N5 _) (by have:=UO _ _ a4;lia),_,Z
       rw[K2]
       cases el:((gd g c).rows.getD (↑(gd g c).rows-1) rc).1.lt ((gd g b).rows.getD 0 rc).1 with
       | false=>
        let#[U,S,X,I]:=LD (C:=CC G D J g) (a:=d) (b:=H7) #[λx o e n=>M _ _ (v x o e n),M _ _ Y,b4,bb,ub];rwa[X,ex U S I]
       | true=>
        show Zq #[1,.inl #[Z,_,ZH.of (M _ _ Y)],1,D,_,1,Z,M _ _ Y,YQ (by rw[L];lia),?_]
        let be:d=d.take (↑d-1)++[c]:=by
         let#[m,e]:=yL.mp gl;rwa[<-e,<-List.dropLast_eq_take,<-qK eb,(sT eb).symm]
        let#[U,S,X,I]:=LD (C:=CC G D J g) (c9 H7 M (by
         let e:YM g (d++[b])=YM g d++(gd g b).rows:=by rw[Mv];change _++tZ _ [b]=_;simp
         rw[e];show vh ub e5 (λz=>?_) nb.1 ?_
         .rw[be] at z;let e2:YM g (d.take (↑d-1)++[c])=YM g (d.take (↑d-1))++(gd g c).rows:=by rw[Mv];change _++tZ _ [c]=_;simp
          rw[e2] at z;show nc (zEY.mp z).2
         .rwa[be,AU nc,el]))
        rwa[X,ex U S I]
     .rw[aK y2];let#[U,S,X,I]:=LD c0;rwa[X,Zo (ex U S I)]
    .rw[aK y];let#[U,S,X,I]:=LD c0;rwa[X,Zo (Zo (ex U S I))]
   .intro cs H5 I;let#[s5,Y,b5,e7,n3]:=I;show#[1,_,1,Z,_,1,.mk s5 Y b5 e7 n3]
  .intro σ H4 hI;rw[show ↑(iN ms)=↑ms from zY _] at hI;generalize ej:↑ms=j at hI
   induction hI
   rename_i j d fi x6 H4 s4 h4 b4 bb ub
   show#[1,k H4 D d ?_ (λc o e n=>s4 c o (t _ _ (r c o e n)) (Zf e nD)) nD h4 b4 bb ub];show(W3.same t).stay s4 Dp.symm
theorem As:∀(a l:jq),NQ a->NQ l->(∀ x∈l,x∈a)->↑l<=↑a:=λa=>by
 induction a with
 | nil=>
  intro l _ _ s
  cases l with
  | nil=>show zW _
  | cons x l=>cases s x zQ
 | cons k a g=>
  intro l e f s;let#[h,i]:=wX.mp e
  cases l with
  | nil=>show yQ _
  | cons x l=>
   let#[j,m]:=wX.mp f;let c:∀ y∈l,y∈a:=λy d=>by
    rcases zN.mp (s y (zM _ d)) with z | z
    .exfalso
     let b:=j y d;rw[z] at b;rcases zN.mp (s x zQ) with q | q
     .erw[q,Oo] at b
     .have:=U' _ _ _ b (h x q);erw[Oo] at this
    .show z
   show tQ (g l i m c)
theorem P0{a:jp}{t:ZK}{i:Nat}(h:i<↑a):gd (a++[t]) i=gd a i:=Kd h
structure Q4(ks:jq)(ts:jp):Prop where
 fo:XY ts
 ks:∀ i<↑ts,∀ r∈(gd ts i).rows,r.1∈ks
theorem Hr{i n:Nat}(h:i<n+1):i<n\/i=n:=∅
theorem FA{c:jp}{t:ZK}{a:jo}(e:∀ b∈a,b<↑c)(f:2<=↑a):Yt (c++[t]) a=Yt c a:=by
 unfold Yt;rw[JL (l:=a) λb d=>(by rw[P0 (e b d)]:(gd (c++[t]) b).rows=(gd c b).rows)]
 congr 2
 cases a with
 | nil=>show absurd f (by decide)
 | cons b l=>rw[rJ,P0 (e b zQ)]
theorem Q4.snoc{n:jq}{c:jp}{t:ZK}(h:Q4 n c)(s:t.h=0->t.bs=[]/\Vy t.rows)(u:t.h≠0->t=Yt c t.bs/\2<=↑t.bs/\↑t.bs<=4/\(∀ b∈t.bs,b<↑c/\(gd c b).h+1=t.h)/\Up t.rows)(q:∀ r∈t.rows,r.1∈n):Q4 n (c++[t]):=by
 let o:↑(c++[t])=↑c+1:=by rw[zS];rfl
 let k:gd (c++[t]) ↑c=t:=Ox;show#[#[λi j d=>?_,λi j d=>?_],λi j=>?_]
 .rcases Hr (o ▸ j) with y | y
  .rw[P0 y] at d⊢;show h.fo.lf i y d
  .rw[y,k] at d⊢;show s d
 .rcases Hr (o ▸ j) with y | y
  .rw[P0 y] at d⊢;let#[e,g,l,f,m]:=h.fo.st i y d;let p:∀ b∈(gd c i).bs,b<↑c:=λb a=>xH (f b a).1 y;show#[e.trans (FA p g).symm,g,l,λb a=>#[(f b a).1,#v[P0 (p b a),(f b a).2]],m]
  .rw[y,k] at d⊢;let#[e,g,l,f,m]:=u d;show#[e.trans (FA (λb a=>(f b a).1) g).symm,g,l,λb a=>#[(f b a).1,#v[P0 (f b a).1,(f b a).2]],m]
 .rcases Hr (o ▸ j) with y | y
  .rwa[P0 y,h.ks i y]
  .rwa[y,k,q]
theorem Q4.low{a:jq}{b:jp}(h:Q4 a b)(f:NQ a)(l:↑a<=31):∀ i<↑b,↑(gd b i).rows<=200:=λi c=>by
 have:=As a (List.map (λr:Ya=>r.1) (gd b i).rows) f (h.fo.wf i (yZ.mpr c)).up λx e=>by
  let#[r,d,rfl]:=zA.mp e;show h.ks i c r d
 rw[zY] at this
 lia
inductive Xz:Sp
 |mk{p:al}{H:Hp}{Q:VK}{E:XK}:ZG H p->(∀(b:Hp)(c:al)(d:je)(a:jp),ZG b p->ZA p H b->H c=Y'->b c\.lst d->Zn [p] b d a->XY a->0<↑a->↑a<=24->(∀ i<↑a,↑(gd a i).rows<=200)->Q (.ref c) b)->Xz [.ref p] H Q E
abbrev wo:jr:=["_law_well_here","_law_keys_here","_law_twigs","_law_k","_law_heights","_law_high","_law_some","_law_rows","_law_at","_law_part"]
theorem UA:ZB wo TY (Za Gk):=Z2
inductive Hg(H:Hp)(p kl tl:al)(ks:jq):Nat->L2.St->Hp->Prop
 |mk{j:Nat}{us:je}{ts:jp}{x3 x4 x5 x6 x7 x8 x9:jf}{H':Hp}:(∀ c o,c≠p->c≠tl->H c\o->H' c\o)->ZG H' p->H' tl\.lst us->Zn [p,tl] H' us ts->Q4 ks ts->↑ts=j->Hg H p kl tl ks j [Z' (.ref p),Z' (.ref kl),Z' (.ref tl),x3,x4,x5,x6,x7,x8,x9] H'
theorem Dt{H d:Hp}{p q b a:al}{r:jq}{g:je}{k:jp}{t:ZK}{D E F G I J L:jf}(y:∀ c o,c≠p->c≠b->H c\o->d c\o)(W:ZG d p)(i:d b\.lst g)(C:Zn [p,b] d g k)(v:Q4 r (k++[t]))(B:Xa [p,b] d (.ref a) t)(j:p≠b):
  Hg H p q b r (↑k+1) [Z' (.ref p),Z' (.ref q),Z' (.ref b),D,E,F,G,I,J,L] (upd d b (.lst (g++[.ref a]))):=by
 let s:ZA b d (upd d b (.lst (g++[.ref a]))):=(ZA.refl b d).upd;let m:=s.tups i;let l:∀ c o,c∉[p,b]->d c\o->upd d b (.lst (g++[.ref a])) c\o:=λc o n e=>s c o e λz=>n (by rw[z];simp)
 show .mk (λc o A u e=>s c o (y c o A u e) u) (W.stay s j) ZY (F0 (B.step (λx h=>h) l m) (C.step (λx h=>h) l m)) v (by rw[zS];rfl)
theorem Paired.ixL{d j:Type}{F:d->j->Prop}{l:List d}{m:List j}{i:Nat}{a:d}(h:Paired F l m)(e:l[i]?\a):∃ b,m[i]?\b/\F a b:=by
 let c:=(yL.mp e).1;rw[Paired.length h] at c;let#[k,g,f]:=UH h (zU c);erw[e] at g;show#[_,zU c,f]
theorem we(a:je)(n s:Nat)(b:n<=↑a):QR a (Z' (n:Int)) (Z' ((n:Int)+(s:Int)))=(a.drop n).take s:=by
 unfold QR;let e:((n:Int)+(s:Int))=((n+s:Nat):Int):=∅
 rw[e,HT.sIx_nat,HT.sIx_nat,xG b,List.take_eq_take_min (i:=s),yV];rw[<-Nat.sub_min_sub_right,rO]
theorem SC{b:Type}{C R:b->Prop}{G:Prop}(h:(∀ a,C a->R a)->G)(r:∀ a,C a->R a):G:=h r
theorem zx{e g:Type}{C:e->g->Prop}{a:e}{b:g}(h:C a b):∃ c d,a=c/\b=d/\C c d:=#[a,b,Z,Z,h]
theorem G6{c:Type}{C:c->Prop}{a:c}(h:C a):∃ b,a=b/\C b:=#[a,Z,h]
theorem wt{A:jv}{H:Hp}{u:V}{t:ZK}(h:Xa A H u t):∃(a b:al)(d:V)(c:je),u=.ref a/\H a\.tup [.int (t.h:Nat),d,.ref b]/\H b\.lst c/\b∉A/\jK H (WC t.rows) c:=by
 induction h
 rename_i a b d c t e j g i k l
 show#[a,b,d,c,Z,e,g,j,i]
inductive EW(H:Hp)(p kl tl:al)(x3 x4 x5 x6 x9:jf)(ts:jp)(bs:jo):Nat->L2.St->Hp->Prop
 |mk{j:Nat}{l:al}{ws:je}{x8:jf}{H':Hp}:ZD H H'->H' l\.lst ws->l∉[p,tl]->jK H' (WC (YM ts (bs.take j))) ws->↑ws<=200 * j->EW H p kl tl x3 x4 x5 x6 x9 ts bs j [Z' (.ref p),Z' (.ref kl),Z' (.ref tl),x3,x4,x5,x6,Z' (.ref l),x8,x9] H'
theorem oj(F:Zk K "_law_forest" "_law_forest" Gk f fd)(T:Txt mg)(DP:ZC P w K mg jS 1 "_law_pull" T2 Zm)(DK:ZC P w K mg jS 9 "_law_keys" T2 UR)(DV:ZC P w K mg jS 7 "_law_value" TY Vk)(DB:ZC P w K mg jS 7 "_law_branches" Tc Yw):ZI P w K mg jS ZX 10 f fd TY Xz:=by
 show F.ok UA (λvs H Q E h=>(by induction h;rfl)) (λt0 A r5 s H vs Q E hr h=>?_)
 induction h
 rename_i p H Q E W k
 let nd:=UA.nd;let c5:=hr.mono (show 1<=9 by lia)
 let m7:=hr.mono (show 7<=9 by lia)
 intro Xc;show#[_,ZL (Zh 1 nd (Ze DK hr (Zb (pv 0) (ZW Yo ZJ (Ze DP c5 (Zb (pv 0) ZJ))))))
  (ZL (Zh 2 nd (YY Zv))
  (ZL (WZ PassesOwn.never Z (QO Z T.range (ZM (ZW Yo ZJ (Ze DP c5 (Zb (pv 0) ZJ))))) (WB 3 nd)
   (ZL (Kr (i:=4) [] [] nd Z Z Z (WQ (pv 2)) (λ_ _ _ _ _=>VH) (λ_ _ _ _ _=>XI K (pv 0) ZJ) trivial)
   (ZL (Zh 5 nd ZJ)
   (ZL (Zx (Z6 (oC hr.units0) (pv 4) (YY Zv) (Zz _)) (ZR (Zh 5 nd (YC K (pv 4) (Ze DP c5 (Zb (pv 0) (Zp YO Z T.len YK (ZM (pv 4)))))))) Z0)
   (ZL (Zh 6 nd (Ze DB m7 (QB (pv 0) (pv 2) (pv 5))))
   (ZR (Zx (PW.pt (Pn (Z6 Pi (Zp YO Z T.len YK (ZM (pv 6))) ZJ (Zz _)) (OJ (Z6 Pi (Ze DP c5 (Zb (pv 0) ZJ)) ZJ (Zz _)))))
    (ZL (Zh 7 nd (YY Zv))
    (ZL (WZ PassesOwn.never Z (WQ (pv 6)) (WB 8 nd) (ZR (Zh 7 nd (ZW Xn (pv 7) (XI K (YC K (pv 2) (pv 8)) ZJ)))))
    (ZR (Wa (Vo wT vX vW Ql (pv 2) (ZM (Y2 (QB (ZW Yo (pv 5) ZJ) (pv 6) (pv 7)))))))))
    (ZL (Zh 8 nd (Ze DP c5 (Zb (pv 0) (Zp YO Z T.len YK (ZM (pv 1))))))
    (ZL (Kr (i:=9) [0] TY nd Z Z Z (WQ (VZ (r:=Yj K) V2 (pv 1) (Ws (pv 8)) (Ws (ZW Yo (ZW Yo (pv 8) ZJ) (Ze DP c5 (Zb (pv 0) ZJ)))))) (λ_ _ _ _ _=>VH) (λ_ _ _ _ _=>Y2 (Zb (pv 0) (Ze DV m7 (ZM (pv 1))))) #[Z,.inl Z,Z,trivial])
    (ZR (Wa (Vo wT vX vW Ql (pv 2) (ZM (Y2 (QB ZJ KI (pv 9))))))))))))))))
  (ZR (Zl (pv 2))))),?_]
 let#[px,t1]:=W.some;show#[2,p,(30),Z,W,#[by decide,by decide],λr1 H1 r7 t8 W1 s1=>#[_,1,Z,?_]]
 let#[m1,rfl]:=yA r7;exists p,2+m1,by change [V.ref p,V.int ((2:Int)+(m1:Int))]=_;rw[show (2:Int)+(m1:Int)=((2+m1:Nat):Int) by lia],W1,by lia
 intro kl ws ks H2 n8 m5 n3 o9 l8 t4 r6 W2 s2;exists Ym;intro S e9;let#[H3,o7,s3,h3]:=YN e9 (.lst []);rw[o7];let W3:=W2.same s3;let#[t6,i5]:=W2.some;let L:p≠S:=Zf i5 e9;let n4:kl≠S:=Zf m5 e9;let i2:kl≠p:=λz=>by rw[z] at n8;let#[y,hy]:=W1.some;erw[n8] at hy
 show#[1,p,(24),Z,W3,#[by decide,by decide],λr2 H4 t9 r21 W4 s4=>#[_,1,Z,1,∅,∅,?_]]
 show Pk (n:=(1+r2).toNat) (Hg H4 p kl S ks) (.mk (us:=[]) (ts:=[]) (λc o _ _ e=>e) W4 (s4 _ _ h3 L.symm) .nil #[#[λi hi=>absurd hi (zEI _),λi hi=>absurd hi (zEI _)],λi hi=>absurd hi (zEI _)] Z) (λj σ H5 hj O=>?_) (λσ H5 O=>?_)
 .induction O
  rename_i j us M x3 x4 x5 x6 x7 x8 x9 H5 l3 W5 N i0 a6 lj
  let t3:↑M<24:=∅
  let#[t7,e6]:=W5.some;exists 1,S,Z,#[_,ZH.of N];let p9:=Paired.length i0;show Wr (n:=↑us) (λi z=>us[i]?\z) (λR i ys Y=>ZD H5 Y/\H5 R=Y'/\ys=(M.take i).map λt=>V.int (t.h:Nat)) (YQ ∅)
   (λR i ys Y hi O=>#[us,us[i]'hi,ZH.of (O.1 _ _ N),zU _]) (λR i ys Y z H9 hi O hy=>#[hy.1,hy.2 _ (ZH.of (O.1 _ _ N))]) (λR ys Y O=>#[us,ZH.of (O.1 _ _ N),zW _])
   (λR hR=>#[Zr hR _,hR,Z]) (λR i ys Y z eR p3 hi hz O Rr l4=>?_) (λR ys Y eR O=>?_)
  .let#[s8,nR,rfl]:=O;let#[t,et,tb]:=Paired.ixL i0 hz;let#[a,rl,bV,ws,rfl,ea,_,_,_,_]:=Nn tb;show#[1,a,_,_,1,Z,Zd.of (s8 _ _ ea),Z,l4 _ Y eR #[UJ s8 nR,nR,?_]];rw[yR,et];simp
  .let#[s8,nR,rfl]:=O;rw[p9,xF] at eR;let W8:=W5.same s8;let m9:=s8 _ _ N;let s5:Zn [p,S] Y us M:=i0.same (λx h=>h) s8;let pR:p≠R:=λz=>by rw[z] at e6;erw[nR] at e6
   let tlR:S≠R:=Zf N nR;apply K0 (C:=fun(hi:Int)(H9:Hp)=>(∃ n:Nat,hi=(n:Int))/\ZA p Y H9/\ZG H9 p)
   .intro ex;exists 1,Ym;intro q nq;let#[J,c8,g,hq]:=YN nq (.lst []);rw[c8];let a9:=W8.same g;exists R,q,1,Z,ZH.of (g _ _ eR),ZH.of hq,_,Z;by_cases e:M≠[]
    .let l0:0<↑M:=xN.mpr e;rw[show (!(M.map λt=>V.int (t.h:Nat)).isEmpty)=V' from #v[tN,uM.mpr λz=>e (uE.mp (List.isEmpty_iff.mp z))]]
     show Zq #[3,R,1,.inl (ZH.of (g _ _ eR)),p,1,a9,?_,λr d r0 r1 a4 B=>?_]
     .show XZ (by rw[zY];lia) (by rw[zY];lia)
     .let#[m,rfl]:=yA r0;rw[zY] at r1;let em:(M.map λt=>V.int (t.h:Nat))[m]?\.int ((gd M m).h:Nat):=by rw[zF,U7 ∅];rfl
      show .inl #[R,_,_,1,Z,ZH.of (B _ _ (g _ _ eR) pR.symm),YW em,?_];let#[a',b',ea,eb,hc]:=zx (C:=fun(hi:Int)(H9:Hp)=>(∃ n:Nat,hi=(n:Int))/\ZA p Y H9/\ZG H9 p) (a:=(((gd M m).h:Nat):Int)) (b:=d) #[#[1],λc o e n=>B c o (g c o e) n,a4];rwa[ea,eb,ex a' b' hc]
    .rw[show (!(M.map λt=>V.int (t.h:Nat)).isEmpty)=false by rw[Decidable.not_not.mp e];rfl]
     show Zo (ex 0 J #[#[(0),Z],ZA.of g,a9])
   .intro hi H9 hc;let#[#[n,rfl],s9,W9]:=hc;let e8:=s9 _ _ m9 L.symm;let o5:Zn [p,S] H9 us M:=s5.step (λx h=>h) (λc o n e=>s9 c o e λz=>n (by rw[z];simp)) (s9.tupsW W8)
    show#[3,.mk W9 ⋯ L.symm e8 o5 a6.fo ∅ λJ D bs a9 g nD hD b4 bb ub=>?_]
    let o0:=s9.trans g;let c1:=g _ _ e8 L.symm;let i9:Zn [p,S] J us M:=o5.step (λx h=>h) (λc o n e=>g c o e λz=>n (by rw[z];simp)) (g.tupsW W9)
    let i4:∀ c o,c≠p->c≠S->H4 c\o->J c\o:=λc o n1 n2 e=>o0 c o (s8 _ _ (l3 c o n1 n2 e)) n1;let lb:↑(iN bs)=↑bs:=zY _;let pD:p≠D:=λz=>by let#[y,hy]:=W9.some;erw[z,nD] at hy
    let s6:S≠D:=Zf e8 nD;apply SC (C:=λd=>ZA p J d/\ZG d p)
    .intro ex;exists 1,D,1,.inl (ZH.of hD),_,1,Z,_,Z;by_cases y:1<↑bs
     .rw[aM (show (↑(iN bs):Int) > 1 by rw[lb];lia)]
      show Zq #[1,p,(3),Z,a9,XZ (by decide) (by decide),λr3 d n9 r8 a4 B=>#[_,1,Z,1,?_]]
      by_cases y3:¬ r3 > 0
      .rw[aK y3];let#[b',eb,hc]:=G6 (C:=λd=>ZA p J d/\ZG d p) (a:=d) #[B,a4];rwa[eb,Zo (ex b' hc)]
      .rw[aM (Decidable.not_not.mp y3)];show Zq #[Ym,λl0 a2=>?_];let#[c6,m0,a3,p1]:=YN a2 (.lst []);rw[m0];let e4:=a3 _ _ (B _ _ hD pD.symm);let U:=a3 _ _ (B _ _ c1 L.symm);let l1:Zn [p,S] c6 us M:=(i9.step (A':=[p,S]) (λx h=>h) (λc o n e=>B c o e λz=>n (by rw[z];simp)) (B.tupsW a9)).same (λx h=>h) a3
       let c7:=a4.same a3;let m2:∀ c o,c≠p->c≠S->H4 c\o->c6 c\o:=λc o n1 n2 e=>a3 _ _ (B _ _ (i4 c o n1 n2 e) n1);let#[y11,i6]:=a4.some;let p8:l0≠p:=λz=>by rw[z] at a2;erw[a2] at i6
       let n6:l0≠S:=λz=>by rw[z] at a2;erw[B _ _ c1 L.symm] at a2
       let t2:l0≠D:=λz=>by rw[z] at a2;erw[B _ _ hD pD.symm] at a2
       let n7:=a6.low l8 ∅
       show#[1,D,Z,#[_,ZH.of e4],UZ (K:=K) (a:=D) (xs:=iN bs) (EW c6 p kl S (Z' (.int (0+(j:Int)))) (Z' (.ref R)) (Z' (.int (n:Nat))) (Z' (.ref D)) x9 M bs) (.mk (ZD.refl c6) p1 (λz=>by rcases zN.mp z with q | q;(show p8 q);show n6 (zP.mp q)) .nil (yQ _)) ?_ ?_ ?_]
       .intro j σ c4 _ hI
        induction hI
        rename_i I _ _ _ _
        show ZH.of (I _ _ e4)
       .intro jj u σ c4 hu hI
        induction hI
        rename_i jj l ws x8 c4 I hl nl kw lw
        let#[b,l2,rfl]:=QU hu;let#[bl,bh]:=bb b (zI l2);let jl:=(yL.mp l2).1;let#[u,p5,tb]:=UH l1 (U7 bl);let#[a,rl,bV,o6,rfl,ea,el,nA,n5]:=wt tb;let t5:↑o6=↑(gd M b).rows:=by have:=↑n5;rwa[<-this,zY _]
        have:=n7 b bl;show#[3,.inl #[S,_,_,1,Z,ZH.of (I _ _ U),YW p5,a,_,_,1,Z,Zd.of (I _ _ ea),Z,l,rl,_,1,Z,hl,I _ _ el,yK (YQ ∅),λq nq=>?_]]
        let#[a8,a5,X,a7]:=YN nq (.lst (ws++o6));rw[a5];show .mk (I.trans X) a7 (λz=>?_) ?_ (by rw[zS];lia)
        .rcases zN.mp z with z | z
         .let#[y,hy]:=c7.some;show absurd (I _ _ hy) (by rw[<-z,nq];show λy=>by cases y)
         .have:=I _ _ U;erw[<-zP.mp z,nq] at this
        .let e:YM M (bs.take (jj+1))=YM M (bs.take jj)++(gd M b).rows:=by
          rw[yR,l2,Mv];change _++tZ _ [b]=_;simp
         rwa[e,Jp,(kw.sm X).append (n5.sm (I.trans X))]
       .intro σ c4 hI;rw[lb] at hI;generalize ej:↑bs=jj at hI
        induction hI
        rename_i jj l ws x8 c4 I hl nl kw lw
        rw[<-ej,xF] at kw;exists 1,.inl #[Z,_,ZH.of (I _ _ U)],1,_,1,Z,2,Ym;intro a na;let#[a8,a5,X,a7]:=YN na (.tup [.int ((n:Int)+1),.ref D,.ref l]);rw[a5];let a1:=I.trans X;let b0:(gd M (bs.getD 0 0)).h=n:=by
         rw[zO,zU (show 0<↑bs by lia)]
         show(bb _ (xP _)).2
        let et:Yt M bs=#[n+1,YM M bs,bs]:=by unfold Yt;rw[b0]
        exists S,_,1,Z,a1 _ _ U,YQ ∅
        rw[<-lj];show Dt (t:=#[n+1,YM M bs,bs]) (λc o n1 n2 e=>a1 _ _ (m2 c o n1 n2 e)) (c7.same a1) (a1 _ _ U) (l1.same (λx h=>h) a1) (a6.snoc (λz=>absurd z (Nat.succ_ne_zero n)) (λ_=>#[et.symm,y,b4,λb hb=>#[(bb b hb).1,by rw[(bb b hb).2]],ub]) λr hr=>?_) (.mk (a7) nl (X _ _ hl) (kw.sm X) (λz=>absurd z (Nat.succ_ne_zero n)) λ_=>#[D,Z,λz=>?_,a1 _ _ e4]) L
        .let#[b,p2,hr]:=wB.mp (show r∈bs.flatMap λb=>(gd M b).rows from hr);show a6.ks b (bb b p2).1 r hr
        .rcases zN.mp z with z | z
         .show pD z.symm
         .show s6 (zP.mp z).symm
     .rw[aK (show ¬ (↑(iN bs):Int) > 1 by rw[lb];lia)]
      let#[b',eb,hc]:=G6 (C:=λd=>ZA p J d/\ZG d p) (a:=J) #[ZA.refl p J,a9];rwa[eb,Zo (Zo (ex b' hc))]
    .intro d hc;let#[B,a4]:=hc;let e7:=B _ _ c1 L.symm;let o3:Zn [p,S] d us M:=i9.step (λx h=>h) (λc o n e=>B c o e λz=>n (by rw[z];simp)) (B.tupsW a9)
     let c9:∀ c o,c≠p->c≠S->H4 c\o->d c\o:=λc o n1 n2 e=>B _ _ (i4 c o n1 n2 e) n1;let m6:=s4 _ _ (s3 _ _ m5) i2;let m8:H4 S\.lst []:=s4 _ _ h3 L.symm;let#[y4,p6]:=W4.some;let s0:XB H2 H4:=λc xs e=>s4 _ _ (s3 _ _ e) (Z5 e i5);let o2:XB H4 d:=λc xs e=>c9 c _ (Z5 e p6) (Z5 e m8) e;let e5:=c9 _ _ i2 n4 m6;let l6:=(n3.mono s0 _ _).mono o2 _ _;let lk:↑ws=↑ks:=n3.length.symm;let pk:=r6 ∅
     exists 2,kl,1,.inl (ZH.of e5),p,1,a4,XZ ∅ ∅
     intro r3 c6 n9 r8 c7 a3;let#[a0,rfl]:=yA n9;let s7:a0<↑ks:=∅
     let l5:=a3 _ _ e5 i2;show#[4,_,1,Z,1,p,(4),Z,c7,XZ (by decide) (by decide),λr4 c4 r9 r41 l9 I=>#[_,1,Z,1,kl,1,ZH.of (I _ _ l5 i2),λq nq=>?_]]
     let#[m4,rfl]:=yA r9;let ec:QR ws (Z' (a0:Int)) (Z' ((a0:Int)+1+(m4:Int)))=(ws.drop a0).take (1+m4):=by
      rw[show (a0:Int)+1+(m4:Int)=(a0:Int)+((1+m4:Nat):Int) by lia]
      show we ws a0 (1+m4) ∅
     let#[a8,a5,X,a7]:=YN nq (.lst ((ws.drop a0).take (1+m4)));let m3:upd c4 q (.lst (QR ws (Z' (a0:Int)) (Z' ((a0:Int)+1+(m4:Int)))))=a8:=#v[ec,a5]
     dsimp only;rw[m3];let#[y12,n0]:=c7.some;let o1:XB d a8:=λc xs e=>X _ _ (I.tups n0 _ _ ((a3.tupsW a4) _ _ e));let l7:=l6.mono o1 _ _;let i1:=l9.same X;let e0:∀ c o,c≠p->d c\o->a8 c\o:=λc o n e=>X _ _ (I _ _ (a3 _ _ e n) n);let pt:↑((ws.drop a0).take (1+m4))=min (1+m4) (↑ws-a0):=by rw[zH,yV]
     obtain⟨pn,p4⟩:∃ pn,pn=min (1+m4) (↑ws-a0):=#[1];rw[<-p4] at pt;let#[y14,i7]:=i1.some;let qp:q≠p:=λz=>by let#[y,hy]:=l9.some;erw[<-z,nq] at hy
     show#[q,Z,#[_,ZH.of a7],Wr (n:=pn) (λi z=>((ws.drop a0).take (1+m4))[i]?\z) (λR i ys Y=>ZA p a8 Y/\ZG Y p/\a8 R=Y'/\∃ rs:jz,rs.map (·.1)=((ks.drop a0).take (1+m4)).take i/\↑rs=i/\(∀ r∈rs,r.fit)/\jK Y (WC rs) ys) (YQ ∅)
      (λR i ys Y hi O=>#[_,((ws.drop a0).take (1+m4))[i]'∅,ZH.of (O.1 _ _ a7 qp),zU _]) (λR i ys Y z H9 hi O hy=>#[hy.1,hy.2 _ (ZH.of (O.1 _ _ a7 qp))]) (λR ys Y O=>#[_,ZH.of (O.1 _ _ a7 qp),∅])
      (λR hR=>#[ZA.of (Zr hR _),i1.same (Zr hR _),hR,[],Z,Z,nofun,.nil]) (λR i ys Y z eR p3 hi hz O Rr l4=>?_) (λR ys Y eR O=>?_)]
     .let#[s8,W8,nR,rs,e1,e2,e3,ky]:=O;let Rp:R≠p:=(Zf i7 nR).symm;let p7:ws[a0+i]?\z:=by rw[rM ∅,rZ] at hz;show hz
      let#[t,et,kt]:=l7.get p7;show#[2,p,Z,W8,λv tv H9 kv fv W9 s9=>#[Ym,λa na=>?_]];let#[J,c8,g,p0]:=YN na (.tup [z,v]);rw[c8];let i3:=g _ _ (s9 _ _ eR Rp);let i8:XB Y J:=λc xs e=>g _ _ (s9.tupsW W8 _ _ e);let sR:ZA R J (upd J R (.lst (ys++[.ref a]))):=(ZA.refl R J).upd;let tR:=sR.tups i3;show l4 _ J i3 #[λc o e n=>#v[ZT (Zf e nR),g _ _ (s9 _ _ (s8 _ _ e n) n)],(W9.same g).stay sR Rp.symm,nR,rs++[(t,tv)],?_,by rw[zS,e2];rfl,λr hr=>?_,?_]
      .rw[yX,e1,yR,rM (show i<1+m4 by lia),rZ,et]
       rfl
      .rcases yY.mp hr with y | y
       .show e3 r y
       .rwa[zP.mp y,#[o9 t (zI et),fv]]
      .rw[Jp];show((ky.mono i8 _ _).mono tR _ _).append (.cons (.tup (tR _ _ p0) (.cons ?_ (.cons ?_ .nil))) .nil)
       .show((kt.mono (s8.tupsW i1) _ _).mono i8 _ _).mono tR _ _
       .show(kv.sm g).mono tR _ _
     .let#[s8,W8,nR,rs,e1,e2,e3,ky]:=O;let Rp:R≠p:=(Zf i7 nR).symm;let c0:∀ c o,c≠p->d c\o->Y c\o:=λc o n e=>s8 _ _ (e0 c o n e) n;let c2:=c0 _ _ L.symm e7;exists 1,.inl #[Z,_,ZH.of c2],1,Ym;intro a na;let#[H9,o8,c3,h9]:=YN na (.tup [.int 0,.non,.ref R]);rw[o8];let G:Vy rs:=by
       let er:rs.map (·.1)=(ks.drop a0).take (min pn (1+m4)):=by rw[e1,List.take_take]
       exists e3,∅,by lia
       rwa[er,(l8.sublist (List.drop_sublist _ _)).sublist (List.take_sublist _ _)]
      exists S,_,1,Z,c3 _ _ c2,YQ ∅
      rw[<-lj];let o4:Zn [p,S] Y us M:=o3.step (λx h=>h) (λc o n e=>c0 c o (λz=>n (by rw[z];simp)) e) λc xs e=>s8.tupsW i1 _ _ (o1 _ _ e)
      show Dt (t:=U5 rs) (λc o n1 n2 e=>c3 _ _ (c0 c o n1 (c9 c o n1 n2 e))) (W8.same c3) (c3 _ _ c2) (o4.same (λx h=>h) c3) (a6.snoc (λ_=>#[Z,G]) (λz=>absurd Z z) λr hr=>?_) (.mk h9 (λz=>?_) (c3 _ _ eR) (ky.mono (ZD.tups c3) _ _) (λ_=>rfl) λz=>absurd Z z) L
      .have:r.1∈rs.map (·.1):=List.mem_map_of_mem hr;rw[e1] at this;show rW (uC (uC this))
      .rcases zN.mp z with z | z
       .show Rp z
       .have:=e0 _ _ L.symm e7;erw[<-zP.mp z,nR] at this
 .generalize ej:(1+r2).toNat=j at O
  induction O
  rename_i j us M x3 x4 x5 x6 x7 x8 x9 H5 l3 W5 N i0 a6 lj
  show#[1,k H5 S us M W5 (λc o e n=>l3 c o n ?_ ?_) ?_ N (i0.same (λx h=>by rcases zN.mp h with y | y;(rw[y];simp);cases y) (ZD.refl H5)) a6.fo ∅ ∅ (a6.low l8 ∅)]
  .intro z;show Zf (s2 c o (s1 c o e n) n) e9 z
  .show s4 _ _ (s3 _ _ (s2 _ _ (s1 c o e n) n)) n
  .cases h:H S with
   | none=>rfl
   | some o=>
    have:=s2 _ _ (s1 _ _ h L.symm) L.symm;erw[e9] at this
end Tw
namespace L2
open PySem PySem.Spec PyProof.Rows
section
variable{a b:Expr}{rest:jy}{pos:aJ}{ta tb:TE}
def Sb(K:zZ)(ta tb:TE):TE:=λd H Q=>ta d H λx c=>∃ k,B8 K x c k/\if k=V' then Q x c else tb d c Q
theorem yx(m:PE X a ta)(n:PE X (.BoolOp .Or (b::rest) pos) tb):PE X (.BoolOp .Or (a::b::rest) pos) (Sb X.K ta tb):=by
 intro d s f H Q I h;show BoolOp_or (Z8 (m d s f H _ I h) λv p x k l j o=>?_);show Z3 (yo d p f k x v (λc e=>if c=V' then Q x e else tb f e Q) l j o) ?_
 rintro c q ⟨e,g,i⟩
 cases c with
 | false=>show n d q f e Q g i
 | true=>show#[x,e,g,j,i]
end
end L2
namespace Tw
open PySem PySem.Spec L2 PyProof.Rows
variable{jP jQ CS CT CH CK CP CB:al}
abbrev Uj(a:List (ju)):je:=a.map PD
inductive Vs:Sp
 |mk{p d:al}{e:je}{a:jp}{H:Hp}{Q:VK}{E:XK}:ZG H p->d≠p->H d\.lst e->Zn [p] H e a->XY a->0<↑a->↑a<=24 ->
  (∀(b:Hp)(D:al)(c:List (ju)),ZG b p->ZA p H b->H D=Y'->b D\.lst (Uj c)->↑c<=28->(∀ r,Z' r∈c->r<↑a)->(∀ i<↑a,Z' i∈c\/∃ q<↑a,i∈(gd a q).bs)->Q (.ref D) b)->Vs [.ref p,.ref d] H Q E
theorem Qe:ZB ["_law_well_here","_law_twigs","_law_used","_law_twig","_law_at","_law_stops","_law_k"] Td (Za IM):=Z2
abbrev Es(c:jp)(a:List (Zj×V)):Prop:=∀ b:Nat,(YS a (.inl (b:Int))).isSome=V'->∃ q<↑c,b∈(gd c q).bs
inductive Gw(H:Hp)(p tl D:al)(ts:jp):Nat->L2.St->Hp->Prop
 |mk{j:Nat}{kvs:List (Zj×V)}{x3 x4 x5 x6:jf}{H':Hp}:ZA D H H'->H' D\.dK kvs->Es ts kvs->↑kvs<=4 * j->Gw H p tl D ts j [Z' (.ref p),Z' (.ref tl),Z' (.ref D),x3,x4,x5,x6] H'
inductive Fv(H:Hp)(p tl D:al)(ts:jp)(n:Nat)(x3 x5 x6:jf):Nat->L2.St->Hp->Prop
 |mk{j:Nat}{kvs:List (Zj×V)}{x4:jf}{H':Hp}:ZA D H H'->H' D\.dK kvs->Es ts kvs->↑kvs<=4 * n+j->Fv H p tl D ts n x3 x5 x6 j [Z' (.ref p),Z' (.ref tl),Z' (.ref D),x3,x4,x5,x6] H'
inductive Bb(H:Hp)(p tl D S:al)(n:Nat)(fs:List (ju))(x3 x4:jf):Nat->L2.St->Hp->Prop
 |mk{j:Nat}{es:List (ju)}{x6:jf}{H':Hp}:(∀ c o,c≠p->c≠S->H c\o->H' c\o)->ZG H' p->H' S\.lst (Uj es)->↑es=↑fs+j->(∀ r,Z' r∈es->r<n)->(∀ e∈fs,e∈es)->Bb H p tl D S n fs x3 x4 j [Z' (.ref p),Z' (.ref tl),Z' (.ref D),x3,x4,Z' (.ref S),x6] H'
theorem RE{A:jv}{H:Hp}{u:V}{t:ZK}(h:Xa A H u t):∃(a d:al)(b:V),u=.ref a/\H a\.tup [.int (t.h:Nat),b,.ref d]/\(t.h=0->b=.non)/\(t.h≠0->∃ c,b=.ref c/\c∉A/\H c\.lst (iN t.bs)):=by
 induction h
 rename_i a d b m t e l j k g i
 show#[a,d,b,Z,e,g,i]
theorem sf(F:Zk K "_law_ends" "_law_ends" IM f fd)(T:Txt mg)(DP:ZC P w K mg jS 1 "_law_pull" T2 Zm):ZI P w K mg jS ZX 2 f fd Td Vs:=by
 show F.ok Qe (λvs H Q E h=>(by induction h;rfl)) (λl8 A i7 s H vs Q E I h=>?_)
 induction h
 rename_i p U us ts H Q E W c4 e3 tg fo n0 l9 k
 let nd:=Qe.nd;let hu:=ZU.key I (n:=1) (by decide)
 intro Xc;show#[_,ZL (Hv (i:=2) nd Z (Or.inr Z) Jg)
  (ZL (WZ PassesOwn.never Z (WQ (pv 1)) (WB 3 nd)
   (ZR (WZ PassesOwn.never Z (WQ (yx (XI K (pv 3) ZJ) (LV (YY Zv)))) (WB 4 nd)
    (ZR (IX hu (pv 2) (pv 4) MC Z)))))
  (ZL (Kr (i:=5) [2] ["_law_used"] nd Z Z Z (QO Z T.range (ZM (Zp YO Z T.len YK (ZM (pv 1))))) (λ_ _ _ _ _=>Gj (Ps (Iy hu (pv 0) (pv 1)))) (λ_ _ _ _ _=>pv 0) #[Z,.inl Z,Z,trivial])
  (ZL (WZ PassesOwn.never Z (QO Z T.range (ZM (Ze DP I (Zb (pv 0) ZJ)))) (WB 6 nd)
   (ZR (Wa (Vo wT zEC zEA Cd (pv 5) (Zb (Ze DP I (Zb (pv 0) (ZW Yo (Zp YO Z T.len YK (ZM (pv 5))) ZJ))) (YC K (YY (Zb KI (Ze DP I (Zb (pv 0) (Zp YO Z T.len YK (ZM (pv 1))))))) (Ze DP I (Zb (pv 0) ZJ))))))))
  (ZR (Zl (pv 5)))))),?_]
 intro D nD;let#[H1,i0,s1,h1]:=YN nD (.dK []);rw[i0];let#[px,i4]:=W.some;let pD:p≠D:=Zf i4 nD;let e6:U≠D:=Zf e3 nD;let a9:=Paired.length tg;let J:=s1 _ _ e3;let n4:Zn [p] H1 us ts:=tg.same (λx h=>h) s1;show#[1,U,Z,#[_,ZH.of J],UZ (K:=K) (a:=U) (xs:=us) (Gw H1 p U D ts) (.mk (ZA.refl D H1) h1 (λb h=>by cases h) (yQ _)) ?_ ?_ ?_]
 .intro j B Y _ g
  induction g
  rename_i O _ _ _
  show ZH.of (O _ _ J e6)
 .intro j u B Y i5 g
  induction g
  rename_i j d x3 x4 x5 x6 Y O h2 uo ul
  let#[t,et,tb]:=Paired.ixL tg i5;let jl:=(yL.mp et).1;let eg:gd ts j=t:=by unfold gd;rw[zO,et];rfl
  let#[a,rl,bV,rfl,ea,lf,st]:=RE tb;let l1:XB H1 Y:=λc xs e=>O c _ e (Z5 e h1);let a3:=l1 _ _ (s1 _ _ ea);by_cases h0:t.h=0
  .rw[lf h0] at a3;show#[1,a,_,_,1,Z,Zd.of a3,Z,false,Z,Zo #[Ym,λq nq=>?_]];let#[H3,i1,s3,h3]:=YN nq (.lst []);rw[i1];show#[q,Z,#[_,ZH.of h3],UZ (K:=K) (a:=q) (xs:=[]) (λi B H'=>B=[Z' (.ref p),Z' (.ref U),Z' (.ref D),Z' (.ref a),x4,x5,x6]/\H'=H3) #[Z,Z] (λi B H' _ z=>#v[z.2,ZH.of h3]) (λi x B H' z=>by cases z) λB H' z=>?_]
   rwa[z.1,z.2,.mk (λc o e n=>s3 _ _ (O c o e n)) (s3 _ _ h2) uo ∅]
  .let#[bl,rfl,nA,hb]:=st h0;let#[_,b2,b4,_,_]:=fo.st j jl #v[eg,h0]
   rw[eg] at b2 b4;let e1:=O _ _ (s1 _ _ hb) (Zf hb nD);let lb:↑(iN t.bs)=↑t.bs:=zY _;show#[1,a,_,_,1,Z,Zd.of a3,Z,true,.inl #[_,ZH.of e1,?_],Zq #[bl,Z,#[_,ZH.of e1],UZ (K:=K) (a:=bl) (xs:=iN t.bs) (Fv H1 p U D ts j (Z' (.ref a)) x5 x6) (.mk O h2 uo ul) ?_ ?_ ?_]]
   .cases eb:t.bs with
    | nil=>rw[eb] at b2;show absurd b2 (by decide)
    | cons b l=>rfl
   .intro i B H3 _ g
    induction g
    rename_i s3 _ _ _
    show ZH.of (s3 _ _ (s1 _ _ hb) (Zf hb nD))
   .intro i u B H3 i6 g
    induction g
    rename_i i d x4 H3 s3 h3 c5 l3
    let#[b,c8,rfl]:=QU i6;let il:=(yL.mp c8).1;show#[2,D,1,.inl #[d,.inl (b:Int),h3,Z,YQ ∅,Z],.mk s3.upd ZY (λb' a5=>?_) (by have:=Ie d (.inl (b:Int)) (.bl true);lia)]
    rw[CI] at a5;by_cases z:(Sum.inl (b':Int):Zj)=Sum.inl (b:Int)
    .let z:=Sum.inl.inj z;show#[j,jl,#v[eg,show b'=b by lia,zI c8]]
    .rw[aO z] at a5;show c5 b' a5
   .intro B H3 g;rw[lb] at g;generalize ei:↑t.bs=i at g
    induction g
    rename_i i d x4 H3 s3 h3 c5 l3
    show .mk s3 h3 c5 ∅
 .intro B Y g;rw[a9] at g;generalize ej:↑ts=j at g
  induction g
  rename_i j d x3 x4 x5 x6 Y O h2 uo ul
  let y:∀ c o,c≠D->H1 c\o->Y c\o:=λc o n e=>O c o e n;let L:=O _ _ J e6;let W2:ZG Y p:=(W.same s1).stay O pD;let#[p2,i3]:=W2.some;let kp:∀ b:Nat,∃ o,YS d (.inl (b:Int))=o:=λb=>#[1];exists 1,U,us,Z,.inl (ZH.of L),1,∅,by lia
  show IA (n:=↑us) (λi z=>z=.int (0+(i:Int))) (λi=>!(YS d (.inl (i:Int))).isSome) (λR i ys N=>ZD Y N/\Y R=Y'/\ys=Uj (((zG i).filter λi:Nat=>!(YS d (.inl (i:Int))).isSome).map Z')) (YQ ∅)
   (λR i ys N G m=>G) (λR i ys N z H9 G m hy=>hy) (λR ys N m=>zW _) (λR hR=>#[Zr hR _,hR,Z]) (λR i ys N z eR G hz m Rr a4=>?_) (λR i ys N z eR G hz hk m Rr a4=>?_) (λR i ys N eR G hk m=>?_) (λR ys N eR m=>?_)
  .let#[S,M,rfl]:=m;subst hz;show#[2,D,1,.inl #[d,.inl (0+(i:Int)),.inl (S _ _ h2),Z,by rw[vL]],1,a4 N eR #[S,M,Z]]
  .let#[S,M,rfl]:=m;subst hz;show#[1,a4 _ N eR #[UJ S M,M,?_]];rw[xA,uK,wJ,aP hk,vL];simp[Uj];rfl
  .let#[S,M,rfl]:=m;exists S,M;rw[xA,uK,wJ,hk];simp[Uj]
  .let#[S,M,rfl]:=m;obtain⟨fs,a6⟩:∃ fs,fs=((zG ↑us).filter λi:Nat=>!(YS d (.inl (i:Int))).isSome).map Z':=#[1];rw[<-a6] at eR;let m0:↑fs<=↑us:=by
    rwa[a6,zY,zK (rT _ _) (by rw[vR];show zW _)]
   let e5:∀ i:Nat,Z' i∈fs ↔ i<↑us/\(YS d (.inl (i:Int))).isSome=false:=λi=>by
    rw[a6,zA];constructor
    .rintro⟨j,hj,e⟩;cases e;let#[h1,h2]:=wD.mp hj;show#[yZ.mp h1,by simpa using h2]
    .rintro⟨h1,h2⟩;show#[i,wD.mpr #[yZ.mpr h1,by rw[h2];rfl],Z]
   let W8:=W2.same S;let pR:p≠R:=Zf i3 M;let l2:U≠R:=Zf L M;let e4:=S _ _ L;show#[1,p,(5),Z,W8,XZ (by decide) (by decide),λr0 H9 m6 m7 W9 s9=>#[1,∅,∅,?_]]
   show Pk (n:=r0.toNat) (Bb H9 p U D R ↑ts fs x3 x4) (.mk (es:=fs) (λc o _ _ e=>e) W9 (s9 _ _ eR pR.symm) Z (λr I=>by rwa[<-a9,((e5 r).mp I).1]) λe h=>h) (λi B X hi m=>?_) (λB X m=>?_)
   .induction m
    rename_i i C x6 X v a0 hR ln a1 c3
    let le:↑(Uj C)=↑C:=zY _;let#[m4,l4]:=a0.some;let a7:=v _ _ c4 l2 (s9 _ _ e4 c4);exists 1,.inl #[Z,_,ZH.of hR],2,R,1,.inl (ZH.of hR),_,1,Z,p,1,a0,XZ ∅ ∅
    intro r1 l5 i8 m8 e7 c0;let c9:=c0 _ _ hR pR.symm;let a8:=c0 _ _ a7 c4;show#[2,U,1,.inl (ZH.of a8),p,1,e7,XZ ∅ ∅,λr2 l6 i9 m9 c6 y=>#[Ym,λq nq=>?_]]
    let#[l7,c7,c1,i2]:=YN nq (.lst [.non,.int r2]);rw[c7];let#[m5,e2]:=c6.some;let qp:q≠p:=(Zf e2 nq).symm;exists 1,p,(2),Z,c6.same c1,XZ (by decide) (by decide)
    intro r3 a2 l0 n3 e9 c2;let#[m2,rfl]:=yA i9;let#[m1,rfl]:=yA i8;let#[m3,rfl]:=yA l0;obtain⟨e,he,hv⟩:∃ e:ju,(∀ r,e\r->r<↑ts)/\([V.non,.int (m2:Int)]:je)[m3]?\PD e:=by
     by_cases z:m3=0
     .show#[Y',nofun,by rw[z];rfl]
     .show#[Z' m2,λr I=>by cases I;lia,by rw[show m3=1 by lia];rfl]
    let e0:=c2 _ _ (c1 _ _ (y _ _ c9 pR.symm)) pR.symm;show .inl #[q,_,_,1,Z,ZH.of (c2 _ _ i2 qp),YW hv,?_];exists R,_,m1,1,Z,e0,∅,YQ ∅
    let ee:(Uj C).take m1++PD e::(Uj C).drop m1=Uj (C.take m1++e::C.drop m1):=by
     unfold Uj;rw[yX,yT,tX,zET]
    rw[ee];let sR:ZA R a2 (upd a2 R (.lst (Uj (C.take m1++e::C.drop m1)))):=(ZA.refl R a2).upd;show .mk (λc o n1 n2 e'=>sR c o (c2 _ _ (c1 _ _ (y _ _ (c0 _ _ (v c o n1 n2 e') n1) n1)) n1) n2) (e9.stay sR pR) ZY (by rw[zS,zV,zH,yV];lia) (λr I=>?_) λx hx=>?_
    .rcases yY.mp I with z | z
     .show a1 r (uC z)
     .rcases zN.mp z with z | z
      .show he r z.symm
      .show a1 r (rW z)
    .have:=c3 x hx;rw[<-sZ m1 C] at this;rcases yY.mp this with z | z
     .show xO _ z
     .show yB _ (zM _ z)
   .generalize ei:r0.toNat=i at m
    induction m
    rename_i i C x6 X v a0 hR ln a1 c3
    show#[1,k X R C a0 (λc o e n=>?_) ?_ hR ∅ a1 λi hi=>?_]
    .let cD:=Zf e nD;let e8:=S _ _ (y _ _ cD (s1 _ _ e));show v c o n (Zf (y _ _ cD (s1 _ _ e)) M) (s9 _ _ e8 n)
    .cases h:H R with
     | none=>rfl
     | some o=>
      have:=y _ _ (Zf h nD) (s1 _ _ h);erw[M] at this
    .cases q:(YS d (.inl (i:Int))).isSome with
     | false=>show .inl (c3 _ ((e5 i).mpr #[#v[a9,hi],q]))
     | true=>show .inr (uo i q)
theorem JT{a b:KT}(h:a.lt b=V'):b.lt a=false:=by
 cases e:b.lt a with
 | false=>rfl
 | true=>have:=U' _ _ _ h e;erw[Oo] at this
theorem Dy{a:jz}(h:a≠[]):a.getD 0 rc∈a:=by
 cases a with
 | nil=>show absurd Z h
 | cons r l=>show zQ
theorem Kz{rs:jz}(h:rs≠[]):rs.getD (↑rs-1) rc∈rs:=by
 let a:0<↑rs:=xN.mpr h;rw[zO,zU (show ↑rs-1<↑rs by lia)]
 show xP _
theorem XY.up{a:jp}(h:XY a){i:Nat}(c:i<↑a):Up (gd a i).rows:=by
 by_cases b:(gd a i).h=0
 .show(h.lf i c b).2.2.2.2
 .show(h.st i c b).2.2.2.2
theorem wv{t:ZK}(b:t.rows≠[])(u:Up t.rows):VY (Zs t) (Zs t)=false:=by
 change ((Zs t).h==(Zs t).h&&(Zs t).hi.lt (Zs t).lo)=false;have:(Zs t).hi.lt (Zs t).lo=false:=by
  change ((t.rows.getD (↑t.rows-1) rc).1).lt ((t.rows.getD 0 rc).1)=false;rcases e:t.rows with _ | ⟨r,l⟩
  .show absurd e b
  .rw[e] at u;let a:=Kz (rs:=r::l) ⋯
   rcases zN.mp a with z | z
   .rwa[z,Oo _]
   .show JT ((wX.mp u).1 _ (zA.mpr #[_,z,Z]))
 rw[this,tV]
theorem v6{a b:ZK}(c:a.rows≠[])(d:b.rows≠[])(u:Up (a.rows++b.rows)):VY (Zs b) (Zs a)=false:=by
 have:(Zs b).hi.lt (Zs a).lo=false:=by
  let e:((a.rows.map (·.1))++b.rows.map (·.1)).Pairwise λa b=>a.lt b=V':=by rwa[<-yX,u]
  show JT ((tF.mp e).2.2 _ (zA.mpr #[_,Dy c,Z]) _ (zA.mpr #[_,Kz d,Z]))
 unfold VY;rw[this,tV]
def tn(x:jo):Bool:=(zG 30).any λi=>Zy i==x
theorem Dz:∀(n:Nat)(x:jo),(∀ i<n,Zy i≠x)->YS (Xg n) (.inr (ZS x))=Y'
 | 0,_,_=>rfl
 | n+1,x,h=>by
  let b:=Dz n x λi a=>h i (sF a);rw[II,K7 _ _ _ _ (by rw[NM,aO (xQ _)]),b,aO λz=>h n (wR n) (Pu (Sum.inr.inj z)).symm]
theorem Dk{n:Nat}{x:jo}(h:n<=30)(t:tn x=false):YS (Xg n) (.inr (ZS x))=Y':=Dz n x λi a e=>by
 have:tn x=V':=vS.mpr #[i,yZ.mpr ∅,beq_iff_eq.mpr e]
 erw[t] at this
theorem mT{n i:Nat}(h:n<=i):YS (Xg n) (.inr (ZS (Zy i)))=Y':=by rw[NM,aO ∅]
def KP:jq->jq
 | a::_::l=>a::KP l
 | _=>[]
theorem Bj:∀ a:jz,KP (X6 a)=a.map (·.1)
 | []=>rfl
 | r::a=>by
  change r.1::KP (X6 a)=r.1::a.map (·.1);rw[Bj a]
theorem u7{c:jq}(h:c.Pairwise λa b=>a.lt b=V'):NS c=V':=by
 unfold NS;rw[vJ,zE];intro j f;let f:=yZ.mp f;let d:c[j]?\(c[j]'∅):=zU _
 let e:c[j+1]?\(c[j+1]'∅):=zU _
 change ((c.getD j (.int 0)).lt (c.getD (j+1) (.int 0)))=V';rwa[zO,zO,d,e,Lv h (wR j) d e]
def JF(a:jq):Bool:=decide (↑a % 2=1) || decide (↑a=0) || decide (8<↑a) || !NS (KP a)
theorem oU{b:jq}(h:JF b=V'):∀ a,b=X6 a->¬ Vy a:=by
 rintro a rfl ⟨_,d,e,c⟩;unfold JF at h;rw[Bj,u7 c,Np] at h;simp at h
 lia
theorem AT{x:jo}(a:jq)(e:x=shownL a)(f:(a.all λt=>t.fits 3)=V')(l:↑a<=180)(b:JF a=V'):VR x:=.keys e (λt c=>zE.mp f t c) l (oU b)
abbrev Ph:jo:=[114,111,111,116]
abbrev OV:jo:=[108,101,97,102]
abbrev WL:jo:=[115,116,101,109]
inductive Yh(ts:jp)(l:jo):Prop
 | root:w0 l=Ph->w1 l≠[45]->tn (w1 l)=false->Yh ts l
 | leaf:w0 l=OV->VR (w1 l)->Yh ts l
 | word:w0 l≠Ph->w0 l≠OV->w0 l≠WL->Yh ts l
 | name {ws:List (jo)}:w0 l=WL->w1 l=jn ws->ws≠[]->(∀ t∈ws,32∉t)->↑ws<=90->(∃ t∈ws,tn t=false)->Yh ts l
 | same {n:Nat}:w0 l=WL->w1 l=jn (xD (n+1) (Zy 0))->n<=8->Yh ts l
 | turned {t:Nat}:t<↑ts->(gd ts t).h≠0->w0 l=WL->w1 l=jn ((gd ts t).bs.reverse.map Zy)->Yh ts l
theorem tq{a:jo}{n:Nat}(h:∀ b∈a,b<n):∀(i b:Nat)(t:jo),a[i]?\b->(a.map Zy)[i]?\t->YS (Xg n) (.inr (ZS t))\.int (b:Nat):=λi b t c d=>by
 erw[zF,c] at d;rw[NM,aP (h b (zI c))]
theorem Cm(a:jo):∀ t∈a.map Zy,32∉t:=λt c=>by
 let#[b,_,rfl]:=zA.mp c;show KS (by decide)
theorem Jl{e:List (Zj×V)}{X:YG}{d:jp}{a:jo}(f:e=Xg ↑d)(g:X.ts=d)(i:X.lv=zG ↑d)(l:a≠[])(k:↑a<=90)(h:(∀ b∈a,b<↑d)->over (YF d a)=Y'):Wo e X WL (jn (a.map Zy)):=by
 subst f;show .stem (λz=>l (uE.mp z)) (Cm a) #v[zY,k] ?_
 by_cases c:∀ b∈a,b<↑d
 .show .inr #[a,(zY _).symm,tq c,λb h=>#v[i,yZ.mpr (c b h)],#v[g,h c]]
 .let#[b,c]:=Classical.not_forall.mp c;let#[j,m]:=Classical.not_imp.mp c;show .inl #[Zy b,zA.mpr #[b,j,Z],mT ∅]
theorem pf(c:jp)(a b:Nat)(l:jo):(YF c (a::b::l)).getD 0 .d=Zs (gd c a)/\(YF c (a::b::l)).getD (0+1) .d=Zs (gd c b)/\0+1<↑(YF c (a::b::l)):=#[Z,Z,by unfold YF;simp]
theorem LX{c:jp}{a b:Nat}{l:jo}(h:VY (Zs (gd c a)) (Zs (gd c b))=false):over (YF c (a::b::l))=Y':=by
 let#[d,e,f]:=pf c a b l;show u4 f #v[d,e,h]
theorem Yh.row{K:zZ}{H:Hp}{d f:jp}{g:List (ju)}{l:jo}(b:Yh d l)(A:XY d)(C:∀ b,b<↑f->b<↑d->gd f b=gd d b)(p:YL f g)(j:↑l<=900000):Yd K H f g (.str (ZS l)):=by
 let s:=p.l30;let B:w0 l=WL->(∀ X:YG,X.ts=f->X.lv=zG ↑f->Wo (Xg ↑f) X WL (w1 l))->Yd K H f g (.str (ZS l)):=λe h=>by
  let v:w0 l≠[114,111,111,116]:=by rw[e];decide
  by_cases z:g=[]
  .show .twig j v z λX a b=>#v[e,h X a b]
  .show .behind j v z
 cases b with
 | root e n t=>show .root j e n (Dk s t)
 | leaf e b=>
  let v:w0 l≠[114,111,111,116]:=by rw[e];decide
  by_cases z:g=[]
  .show .twig j v z λX _ _=>#v[e,.leaf b]
  .show .behind j v z
 | word N V Y=>
  by_cases z:g=[]
  .show .twig j N z λX _ _=>.word V Y
  .show .behind j N z
 | name e k ne P U S=>
  show B e λX _ _=>?_;rw[k];let#[t,q,o]:=S;show .stem ne P U (.inl #[t,q,Dk s o])
 | same e k n8=>
  rename_i n
  show B e λX o y=>?_;rw[k,show xD (n+1) (Zy 0)=(xD (n+1) 0).map Zy by rw[List.map_replicate]]
  show Jl Z o y ⋯ (by simp;lia) λx=>?_
  let w:=x 0 ⋯
  let#[T,_]:=p.fo.ok 0 w
  cases n with
  | zero=>show mh (by unfold YF;simp)
  | succ n=>show LX (wv T (p.fo.up w))
 | turned q w e k=>
  rename_i t
  show B e λX o y=>?_;rw[k];let#[G,b2,b4,D,u]:=A.st t q w;let O:Up (YM d (gd d t).bs):=by
   have:(gd d t).rows=YM d (gd d t).bs:=by
    generalize (gd d t).bs=bs at G;rw[G];rfl
   rwa[<-this,u]
  show Jl Z o y (λz=>by have:=congrArg xI z;rw[uZ,yE] at this;lia) (by rw[uZ];lia) λx=>?_
  obtain⟨a,c,m,E⟩:∃ a c m,(gd d t).bs.reverse=a::c::m:=by
   cases F:(gd d t).bs.reverse with
   | nil=>have:=congrArg xI F;rw[uZ,yE] at this;lia
   | cons a r=>
    cases r with
    | nil=>have:=congrArg xI F;rw[uZ,wW] at this;lia
    | cons c m=>show#[a,c,m,Z]
  let i:(gd d t).bs=m.reverse++[c,a]:=by
   have:=congrArg List.reverse E;rw[List.reverse_reverse,List.reverse_cons,List.reverse_cons] at this;rw[this];simp
  let L:a∈(gd d t).bs:=by rw[i];simp
  let M:c∈(gd d t).bs:=by rw[i];simp
  let ua:Up ((gd d c).rows++(gd d a).rows):=by
   show yr O ?_;rw[i,Mv,Oe,Oe];change sQ _ (_++((gd d c).rows++((gd d a).rows++[])));rwa[xK,List.sublist_append_right _ _]
  let I:=xH (D a L).1 q;let J:=xH (D c M).1 q;let Q:=x a (vE.mpr L);let R:=x c (vE.mpr M);rw[E];show LX ?_;rwa[C a Q I,C c R J,v6 (A.ok c J).1 (A.ok a I).1 ua]
end Tw
namespace L2
open PySem PySem.Spec PyProof.Rows
inductive UU:V->je->Hp->VK->Prop
 |mk{x:Str}{H:Hp}{Q:VK}:↑x<=5592405->Q (.str (Txt.upper x)) H->UU (.str x) [] H Q
theorem rp:MK X "str.upper" UU:=by
 intro b s i H x g v f Q I e d h
 cases h with
 | mk a q=>
  rename_i x
  let#[t,rfl]:=e;cases d;show call_gives zEL (typeIs_str _ _ _) PySem.F.entry_str_upper (PySem.F.args_str_upper_1 _) (gives_str_upper x t (fit_upper a)) ?_;let c:↑(Txt.upper x)<=sizeLine:=by
   have:=fit_upper a;unfold Builtin.Str.tooLong at this;show uP (of_decide_eq_false this)
  show#[c,.str (Txt.upper x),H,I.tok _,#[1],q]
theorem lT(x:Str):(Txt.upper x).cps.toList=x.cps.toList.flatMap Unicode.upperOf:=by
 let h:(Txt.upper x).cps.toList=((x.cps.mapIdx λ_ c=>⇑(Unicode.upperOf c)).flatten).toList:=rfl;rw[h];let e:(x.cps.mapIdx λ_ c=>⇑(Unicode.upperOf c))=x.cps.map λc=>⇑(Unicode.upperOf c):=by
  apply Array.ext <;> simp
 rw[e,Array.toList_flatten,Array.toList_map,vI,List.flatMap_def]
 congr 1
def Hu:jy->Option (jr)
 | []=>Z' []
 | .Constant (.str x) _ _::es=>(Hu es).map (x::·)
 | _=>Y'
theorem OP:∀{d:jy}{c:jr},Hu d\c->PA X d (λ_ H Q=>Q (c.map V.str) H)
 | [],c,h=>by
  cases h;show λb a s f H Q I q=>Zv (X:=X) b a s f H Q I q
 | e::d,c,h=>by
  unfold Hu at h;split at h
  .rename_i z;cases z
  .rename_i x k p g l
   cases l;let#[n,i,rfl]:=wP.mp h;let m:=OP i;have:=Zg (X:=X) (Zu (x:=x) (j:=k) (pos:=p)) m Z;show λb a s f H Q I q=>this b a s f H Q I q
  .cases h
end L2
namespace Tw
open PySem PySem.Spec L2 PyProof.Rows
def PV:jo->List (jo)
 | []=>[[]]
 | c::l=>if c=32 then []::PV l else match PV l with
  | h::t=>(c::h)::t
  | []=>[[c]]
theorem C2:∀ l:jo,jn (PV l)=l/\PV l≠[]/\(∀ t∈PV l,32∉t)/\↑(PV l)<=↑l+1
 | []=>#[Z,by simp[PV],λt f=>#v[zP.mp f,vD],zW _]
 | c::l=>by
  let#[a,b,d,e]:=C2 l;unfold PV;by_cases g:c=32
  .rw[aP g];show#[?_,by simp,λt f=>?_,by simp only[zV];lia]
   .cases h:PV l with
    | nil=>show absurd h b
    | cons x r=>rw[h] at a;rw[g,<-a];rfl
   .rcases zN.mp f with z | z
    .rwa[z,vD]
    .show d t z
  .rw[aO g]
   cases h:PV l with
   | nil=>show absurd h b
   | cons x r=>
    rw[h] at a d e;show#[by rw[<-a];rfl,by simp,λt f=>?_,by simp only[zV] at e⊢;lia]
    rcases zN.mp f with z | z
    .rwa[z,λy=>(zN.mp y).elim (λq=>g q.symm) (d x zQ)]
    .show d t (zM _ z)
def Oh:List (jq):=[[],[.int 1],[.int 1,.int 2,.int 3],[.int 1,.int 2,.int 3,.int 4,.int 5,.int 6,.int 7,.int 8,.int 9,.int 10],[.int 2,.int 0,.int 1,.int 0],[.str (zX "a"),.int 1,.int 2,.int 3],[.int 1,.int 0,.int 1,.int 0]]
def IP(l:jo):Bool:=
 (w0 l==Ph&&(!(w1 l==[45]) && !tn (w1 l))) || ((w0 l==OV&&(!decide (Uz true (w1 l) = -1) || Oh.any λa=>w1 l==shownL a&&((a.all λt=>t.fits 3)&&JF a))) ||
 ((!(w0 l==Ph)&&(!(w0 l==OV) && !(w0 l==WL))) || (w0 l==WL&&(((PV (w1 l)).any λt=>!tn t) || [0,1,4].any λn=>w1 l==jn (xD (n+1) (Zy 0))))))
theorem uv:∀ a∈Oh,↑a<=180:=by decide
theorem ui{k:jp}{l:jo}(h:IP l=V')(m:↑l<=85):Yh k l:=by
 let o:=Hd l;unfold IP at h;rw[uR,uR,uR] at h;rcases h with h | h | h | h
 .simp only[zT,tN,beq_iff_eq,beq_eq_false_iff_ne] at h;show .root h.1 h.2.1 h.2.2
 .rw[zT,uR,beq_iff_eq] at h;show .leaf h.1 ?_;rcases h.2 with z | z
  .show .read (by simpa using z)
  .let#[c,g,e]:=vS.mp z;simp only[zT,beq_iff_eq] at e;show AT c e.1 e.2.1 (uv c g) e.2.2
 .simp only[zT,tN,beq_eq_false_iff_ne] at h;show .word h.1 h.2.1 h.2.2
 .rw[zT,uR,beq_iff_eq] at h;let#[a,b,d,e]:=C2 (w1 l);rcases h.2 with z | z
  .let#[t,j,f]:=vS.mp z;show .name h.1 a.symm b d ∅ #[t,j,by simpa using f]
  .let#[n,i,e]:=vS.mp z;show .same h.1 (beq_iff_eq.mp e) ?_;have:∀ n∈[0,1,4],n<=8:=by decide
   show this n i
def itm:V->Bool
 | .flt _=>false
 | .byt _=>false
 | _=>true
abbrev Vc(a:je):Prop:=∀ v∈a,itm v=V'
inductive ZV(K:zZ)(A:jv)(H:Hp)(ts:jp):V->Prop
 | text {x:Str}:Yh ts x.cps.toList->↑x<=900000->ZV K A H ts (.str x)
 | flat {v:V} {ty:ak}:itm v=V'->(∀ H',Y5 K H' v ty)->xY K ty (.type "str")\false->ZV K A H ts v
 | lst {a:al} {xs:je}:H a\.lst xs->a∉A->ZV K A H ts (.ref a)
 | tup {a:al} {xs:je}:H a\.tup xs->a∉A->ZV K A H ts (.ref a)
theorem ZV.itm{K:zZ}{A:jv}{H:Hp}{a:jp}{v:V}(b:ZV K A H a v):Tw.itm v=V':=by
 induction b with
 | text _ _=>rfl
 | flat i _ _=>show i
 | lst _ _=>rfl
 | tup _ _=>rfl
theorem ZV.step{K:zZ}{A A':jv}{H f:Hp}{g:jp}{v:V}(b:ZV K A H g v)(d:∀ x∈A',x∈A)(s:∀ c o,c∉A->H c\o->f c\o):ZV K A' f g v:=by
 induction b with
 | text a b=>show .text a b
 | flat i a b=>show .flat i a b
 | lst e n=>show .lst (s _ _ n e) λz=>n (d _ z)
 | tup e n=>show .tup (s _ _ n e) λz=>n (d _ z)
theorem ZV.row{K:zZ}{A:jv}{H:Hp}{f c:jp}{d:List (ju)}{v:V}(b:ZV K A H f v)(i:XY f)(h:∀ b,b<↑c->b<↑f->gd c b=gd f b)(p:YL c d):Yd K H c d v:=by
 induction b with
 | text a j=>
  rename_i x
  let e:x=ZS x.cps.toList:=rfl;rwa[e,a.row i h p (by simpa [wM] using j)]
 | flat _ a b=>show .kind (λg _=>a g) b
 | lst e n=>show .kind (ty:=.type "list") (λg s=>.lst (s _ _ e)) (by kernel_rfl)
 | tup e n=>show .kind (ty:=.type "tuple") (λg s=>.tup (s _ _ e)) (by kernel_rfl)
def Lu(x:Str):Bool:=IP x.cps.toList&&decide (↑x<=85)
theorem G2{K:zZ}{A:jv}{H:Hp}{a:jp}{x:Str}(h:Lu x=V'):ZV K A H a (.str x):=by
 unfold Lu at h;rw[zT] at h;let l:=of_decide_eq_true h.2;show .text (ui h.1 (by simpa [wM] using l)) ∅
theorem KQ{K:zZ}{A:jv}{H:Hp}{c:jp}{ss:jr}(h:(ss.all Lu)=V'):∀ v∈ss.map V.str,ZV K A H c v:=λv a=>by
 let#[x,b,rfl]:=zA.mp a;show G2 (zE.mp h x b)
inductive WP(ts:jp):jo->Prop
 | twig {i:Nat}:i<↑ts->WP ts (Y3 (gd ts i))
 | ends {e:ju}:(∀ r,e\r->r<↑ts)->WP ts (QL e)
theorem Im{c:jp}(g:XY c)(q:↑c<=30){l:jo}(h:WP c l):∃ a b,l=a++32::b/\(a=Ph\/a=OV\/a=WL)/\32∉a/\↑l<=180010:=by
 cases h with
 | twig j=>
  rename_i i
  unfold Y3;by_cases d:(gd c i).h=0
  .rw[aP d];let v:=CO (g.lf i j d).2;show#[_,1,.inr (.inl Z),Uy Z,by simp only[zS,zV,yE];lia]
  .rw[aO d];let#[_,s,u,k,_]:=g.st i j d;let p:=JP (l:=(gd c i).bs.map Zy) λt o=>by
    let#[b,f,rfl]:=zA.mp o;show Pg (by have:=(k b f).1;lia)
   rw[zY] at p;show#[_,1,.inr (.inr Z),Uy Z,by simp only[zS,zV,yE];lia]
 | ends m=>
  rename_i e
  cases e with
  | none=>show#[_,1,.inl Z,Uy Z,by decide]
  | some r=>
   have:=Pg (n:=r) (by have:=m r Z;lia)
   show#[_,1,.inl Z,Uy Z,by simp only[QL,zS,zV,yE];lia]
theorem lL{d:jp}(o:XY d)(A:↑d<=30){l:jo}(h:WP d l):Yh d (l++[32]):=by
 cases h with
 | twig q=>
  rename_i i
  unfold Y3;by_cases m:(gd d i).h=0
  .rw[aP m,yM];let#[_,g]:=o.lf i q m;let f:=Um (a:=OV) (b:=shownL (X6 (gd d i).rows)++[32]) (Uy Z);show .leaf f.1 ?_;rwa[show w1 (OV++(32::shownL (X6 (gd d i).rows)++[32]))=_ from f.2,.read (kY (λz=>by have:=congrArg xI z;rw[Np] at this;have:=g.2.1;simp at *;lia) (Fc g.1))]
  .rw[aO m,yM];let#[_,p,B,C,_]:=o.st i q m;let f:=Um (a:=WL) (b:=jn ((gd d i).bs.map Zy)++[32]) (Uy Z);let v:jn ((gd d i).bs.map Zy)++[32]=jn ((gd d i).bs.map Zy++[[]]):=by
    cases s:(gd d i).bs with
    | nil=>rw[s] at p;show absurd p (by decide)
    | cons b r=>
     rw[yT,xU];change (Zy b++(r.map Zy).flatMap λu=>32::u)++[32]=Zy b++((r.map Zy++[[]]).flatMap λu=>32::u);rw[vA,yM];rfl
   show .name (ws:=(gd d i).bs.map Zy++[[]]) f.1 (by rwa[<-v,f.2]) ⋯ (λt w=>?_) (by simp;lia) #[[],by simp,by decide +kernel]
   rcases yY.mp w with y | y
   .show Cm _ t y
   .rwa[zP.mp y,vD]
 | ends D=>
  rename_i e
  let k:∀ x:jo,tn (x++[32])=false:=λx=>by
   cases h:tn (x++[32]) with
   | false=>rfl
   | true=>
    let#[i,_,e]:=vS.mp h;have:=KS (n:=i) (c:=32) (by decide)
    rw[beq_iff_eq.mp e] at this;show absurd ⋯ this
  let j:∀ x:jo,Yh d (Ph++32::x++[32]):=λx=>by
   let f:=Um (a:=Ph) (b:=x++[32]) (Uy Z);rw[yM];show .root f.1 ?_ ?_
   .rw[show w1 (Ph++(32::x++[32]))=_ from f.2];intro z;have:=congrArg List.getLast? z;simp at this
   .rwa[show w1 (Ph++(32::x++[32]))=_ from f.2,k x]
  cases e with
  | none=>show j [45]
  | some r=>show j (Zy r)
theorem nX{a:jp}(l:jo):Yh a (32::l):=by
 let e:w0 (32::l)=[]:=aP Z;show .word (by rw[e];decide) (by rw[e];decide) (by rw[e];decide)
theorem nK{g:jp}(q:XY g)(i:↑g<=30){l:jo}(h:WP g l)(r:jo):Yh g (l.flatMap Unicode.upperOf++r):=by
 let#[a,b,rfl,s,_,_]:=Im q i h;let j:Unicode.upperOf 32=[32]:=by rw[upperOf_ascii 32 (by decide)];rfl
 let f:∀ c:jo,a.flatMap Unicode.upperOf=c->32∉c->c≠Ph->c≠OV->c≠WL->Yh g ((a++32::b).flatMap Unicode.upperOf++r):=λc e n v w x=>by
  rw[vA,xX,e,j];let m:=Um (a:=c) (b:=b.flatMap Unicode.upperOf++r) n;let p:c++([32]++b.flatMap Unicode.upperOf)++r=c++32::(b.flatMap Unicode.upperOf++r):=by simp
  rwa[p,.word (by rw[m.1];show v) (by rw[m.1];show w) (by rw[m.1];show x)]
 let k:∀ l:jo,(∀ c∈l,c<128)->l.flatMap Unicode.upperOf=l.map up1:=λl o=>by
  induction l with
  | nil=>rfl
  | cons c l u=>rw[xX,upperOf_ascii c (o c zQ),u λd t=>o d (zM _ t)];rfl
 rcases s with rfl | rfl | rfl
 .show f _ (k _ (by decide)) (by decide) (by decide) (by decide) (by decide)
 .show f _ (k _ (by decide)) (by decide) (by decide) (by decide) (by decide)
 .show f _ (k _ (by decide)) (by decide) (by decide) (by decide) (by decide)
end Tw
namespace L2
open PySem PySem.Spec PyProof.Rows
def Rm(K:zZ)(b:al)(e:Sp)(t:TA)(i:Nat)(f:TS):TS:=λD a H=>t a H λg c=>e (g++[]) c (λ_ d=>D.nx a d) (CF K b i f D a)
theorem uh{X:Cx}{k:Nat}{f CB:al}{fd:aq}{ps:jr}{sp:Sp}{x y n:Str}{p l P py ph c6:aJ}{e:Expr}{es:jy}{t:TA}{i:Nat}{j:aD}{b:jJ}{ts:TS}(F:ZI X.prog X.w X.K X.mg X.base (Yl X.prog X.w) k f fd ps sp)(hr:ZU k X.A)(hg:Gl X x)(hm:X.mg x\.ref f)(hk:yF X.K (.ref f)=V')(hb:Zi X.K fd ps [])(ha:∀ E',PA (X.wish E') (e::es) t)(a2:X.stack=X.env::X.outer)(c1:X.env.frame\X.env.locals)(c0:X.ex=[])(hy:Gl X y)(c5:X.mg y\.ref CB)(hN:X.N.Nodup)(hi:X.N[i]?\n)(hn:X.env.scope.names.lookup n\.local)(ht:yN X.K (.ref CB)\.type "type")(hB:yS X.K CB (.type "BaseException")\true)(hs:∀ g E',Xm (X.held g E') (j::b) ts)(a8:(x==("__debug__" : Str))=false:=by decide)(a9:(y==("__debug__" : Str))=false:=by decide)(he:aw (e::es) X.env=(false,aH e X.env)::aw es X.env:=by rfl)(c3:(aG l (aw es X.env)).any (·.1)=false:=by rfl)(c4:swapsWith (.Call (.Name x p) (e::es) [] l) Y' P.line X.env=pure false:=by rfl):
  PS X (.Try [.Expr (.Call (.Name x p) (e::es) [] l) P] [.ExceptHandler (Z' (.Name y py)) (Z' n) (j::b) ph] [] [] c6) (Rm X.K CB sp t i ts):=by
 intro a s σ H D I h;show wpAny_Try_except ?_;let c2:X.A.frames\(X.env::X.outer):=by rw[I.ok.frames,a2]
 let V:∀(H1:Hp)(s1:am)(G:ak)(E:am),ZF X a σ H1 s1->Yl X.prog X.w X.stack H1 s1 (CF X.K CB i ts D σ) G E ->
   aC (aB X.prog X.w) X.A (noteFrame G X.env) (λ_ L=>aC (aB X.prog X.w) X.A (setFlight G Y') (λ_ M=>aC (aB X.prog X.w) X.A (handleBy G X.env [.ExceptHandler (Z' (.Name y py)) (Z' n) (j::b) ph]) (SP X a D) X.xe M) X.xe L) X.xe E:=by
  intro H1 s1 G E d hx;let#[g,cls,od,H',rfl,W,C,rfl,mC,q]:=hx;let#[B,fl,inT,a4,a3]:=W.ex;let a7:Xf B (X.env::X.outer) g (.ref C) od .none E.heap:=by rwa[<-a2,fl]
  show KC c2 c1 a7 λh4 U a5=>?_;show OT (s:={ E with heap:=h4 }) U λh5 T a6=>?_;let J5:ZF X a σ H' { E with heap:=h5 }:=KL d W inT a4 a3 T.1 (a5.trans a6);show wpAny_handleBy_cons (codeAny_handlers_test ?_) (by intro q;cases q)
  show QZ (J5.held g (λ_ _=>False)) hy c5 ?_ a9;show AJ (s:={ E with heap:=h5 }) J5.kIn T.at.is ht hB mC ?_;show codeAny_handlers_suite_as ?_;show OT (s:={ E with heap:=h5 }) T λh6 a1 c7=>?_;let J6:ZF X a σ H' { E with heap:=h6 }:=KL d W inT a4 a3 a1.1 ((a5.trans a6).trans c7);let n0:X.s₀.heap.get? g=Y':=by
   cases z:X.s₀.heap.get? g with
   | none=>rfl
   | some o=>
    let#[o',q']:=d.base.there g o z (by rw[c0];simp)
    erw[W.new] at q'
  let n1:g≠X.env.locals:=λz=>by
   let#[m,#[o,_,_,O,_],_]:=d.loc;erw[<-z,W.new] at O
  let n2:∀ x c,X.env.cells.lookup x\c->c≠g:=λx c e z=>by
   let#[v,o,O,_]:=d.cell x c e;erw[z,W.new] at O
  let n3:∀ p∈X.pn++a,p.1≠g:=λp hp z=>by
   let O:=(d.pin p hp).1;erw[z,W.new] at O
  let K6:ZF X a σ (upd H' g (XO PU g C od)) { E with heap:=h6 }:=J6.track n0 n1 n2 n3 W.free (K5 a1.at);show N0 K6 hN hi (.inl hn) (v:=.ref g) Z (λs7 I7=>?_) (.inr hn);show ae (hs g _ a s7 _ _ _ (I7.held g _) (q g W.free)) (λfl s8 h8=>?_) λ_ _ z=>z
  cases fl with
  | next=>
   let#[a0,Q,S,Y]:=h8;show(S.unheld d.ok).goes hN hi hn λs9 R=>#[_,Q,R,Y]
  | brk=>
   let#[a0,Q,S,Y]:=h8;show(S.unheld d.ok).goes hN hi hn λs9 R=>#[_,Q,R,Y]
  | cont=>
   let#[a0,Q,S,Y]:=h8;show(S.unheld d.ok).goes hN hi hn λs9 R=>#[_,Q,R,Y]
  | ret u=>
   let#[v8,a0,Q,S,r8,Y]:=h8;show(S.unheld d.ok).goes hN hi hn λs9 R=>#[v8,_,Q,R,r8,Y]
 show wpAny_execs_cons (wpAny_Expr_any ?_ I.quiet c4);let I':=I.wish (λG E=>aC (aB X.prog X.w) X.A (noteFrame G X.env) (λ_ L=>aC (aB X.prog X.w) X.A (setFlight G Y') (λ_ M=>aC (aB X.prog X.w) X.A (handleBy G X.env [.ExceptHandler (Z' (.Name y py)) (Z' n) (j::b) ph]) (SP X a D) X.xe M) X.xe L) X.xe E);show ah (QZ I hg hm ?_ a8);show vP (h₀:=X.base) I.ok.mod.kin hk (Z8 (ha _ l a s σ H _ I' h) λus s1 vs H1 d r q=>#[d.kIn,?_]) he c3;let r2:ZN (vs++[]) (us++[]):=r.append .nil;let hl:↑(us++[])=↑ps:=by rwa[<-↑r2,F.len _ _ _ _ q]
 show wpAny_call (codeAny_mono (F.run X.A X.stack s1 H1 #[us,[]] (us++[]) (vs++[]) _ _ hr d.env0 (hb s1 us d.kIn hl) r2 q) λrr E hq=>?_)
 cases rr with
 | error G=>show V H1 s1 G E d.unwish hq
 | ok fl=>
  cases fl with
  | ret u=>
   let#[v,H2,J,rv,q2]:=d.unwish.after hq;show wpAny_execs_nil (wpAny_execs_nil #[σ,H2,J,q2])
  | next=>show False.elim hq
  | brk=>show False.elim hq
  | cont=>show False.elim hq
end L2
namespace Tw
open PySem PySem.Spec L2 PyProof.Rows
theorem Am:az "ValueError" = Z' (.type "ValueError"):=by decide +kernel
theorem Jn{X:Cx}{K:zZ}{e:Expr}{b:TE}{f:Str}{a:aJ}(g:PE X e b)(d:attributeBase e f X.env (aH e X.env)=aH e X.env)(c:X.K=K:=by rfl):PE X (.Attribute e f a) (BH K b f):=by
 subst c;show wz g d
structure Cl(K:zZ)(mg:jb)(CB CR c1 c2 c3 c4 c5:al):Prop where
 base:mg "TwigError" = Z' (.ref CB)
 n1:mg "NoKey" = Z' (.ref c1)
 n2:mg "NoLeaf" = Z' (.ref c2)
 n3:mg "NoStem" = Z' (.ref c3)
 n4:mg "NoText" = Z' (.ref c4)
 n5:mg "NoTwig" = Z' (.ref c5)
 ty:yN K (.ref CB)\.type "type"
 mB:yS K CB (.type "BaseException")\true
 sub:yS K CR (.ref CB)\true
 any:qC K (.ref CR) [.ref c1,.ref c2,.ref c3,.ref c4,.ref c5]\false
 self:xY K (.ref CR) (.ref CR)\true
 val:xY K (.ref CR) (.type "ValueError")\true
section
variable{CB CR c1 c2 c3 c4 c5:al}
inductive O0(K:zZ)(H:Hp)(l:al):Int->Prop
 | ok {ts:jp} {es:List (ju)}:H l\.lst (Z4 ts es)->YL ts es->(∀ i<↑ts,Q9 ts es i)->O0 K H l (-1)
 | row {ts:jp} {es:List (ju)} {v:V} {rest:je}:H l\.lst (Z4 ts es++v::rest)->rest.length<=200->YL ts es->Yd K H ts es v->O0 K H l ((↑ts+↑es:Nat):Int)
 | lost {ts:jp} {es:List (ju)} {i:Nat}:H l\.lst (Z4 ts es)->YL ts es->i<↑ts->¬ Q9 ts es i->O0 K H l ((↑ts+↑es:Nat):Int)
theorem O0.two{H:Hp}{l:al}{n:Int}(r:O0 K H l n):(n = -1/\∀(g:VK)(e:XK),(∀(h:Hp)(p:al),ZD H h->g (.ref p) h)->Zw K CR [.ref l] H g e)\/∃ j:Nat,n=(j:Int)/\∀(g:VK)(e:XK),Rf CR j e H->Zw K CR [.ref l] H g e:=by
 induction r with
 | ok a b c=>show .inl #[Z,λg e q=>.ok a b c q]
 | row a b c d=>show .inr #[1,λg e q=>.row a b c d q]
 | lost a b c d=>show .inr #[1,λg e q=>.lost a b c d q]
inductive XW(K:zZ):Sp
 |mk{l:al}{n:Int}{H:Hp}{Q:VK}{E:XK}:O0 K H l n->(∀ a,ZD H a->Q (.int n) a)->XW K [.ref l] H Q E
theorem Ww:ZB ["_law_rows","e"] Tg (Za Hl):=Z2
theorem lG(S:Zk K "_law_refused" "_law_refused" Hl f fd)(T:Txt mg)(N:XR P w K mg jS CR)(L:Cl K mg CB CR c1 c2 c3 c4 c5)(O:Zt P w K mg jS 16 "read_shelf" T3 (Zw K CR)):ZI P w K mg jS ZX 17 f fd Tg (XW K):=by
 show S.ok Ww (λvs H Q E h=>(by induction h;rfl)) (λX A F s H vs Q E M h=>?_)
 induction h
 rename_i l n H Q E rd k
 let nd:=Ww.nd;let hu:=M.units0;let#[g,a0,U,W,kC,mC]:=O.ex;let#[B,Y,e,_,_,_]:=N.ex;intro Xc;show#[_,ZL (uh (i:=1) U M Z mC kC W (λR=>ZM (pv 0)) Z Z Z Z L.base nd Z Z L.ty L.mB
   (λa R=>ZL (Zx (PW.pt (Pe (WU (Zp (r:=Qs K) zn Z T.isi UK (Zb (pv 1) (Y2 (WE (Xo (v:=.ref c1) Z L.n1 Z) (WE (Xo (v:=.ref c2) Z L.n2 Z) (WE (Xo (v:=.ref c3) Z L.n3 Z) (Zb (Xo (v:=.ref c4) Z L.n4 Z) (Xo (v:=.ref c5) Z L.n5 Z)))))))))
     (Pc (Ux (WU (Zp (r:=Qk K) BI Z T.isi UK (Zb (pv 1) (U3 (v:=.ty "ValueError") Z T.ValueError Am Z)))))))) (ZR (Zl (Pw OD ZJ))) Z0)
    (ZR (Zx (PW.pt (Pn (WU (Zp (r:=Qk K) BI Z T.isi UK (Zb (pv 1) (Xo (v:=.ref CR) Z N.at_ Z))))
     (Pn (WU (Zp (r:=NP K) QH Z T.isi UK (Zb (Jn (pv 1) (by rfl)) (U3 (v:=.ty "int") Z T.int Nc Z))))
     (OJ (Ux (WU (Zp (r:=NP K) QH Z T.isi UK (Zb (Jn (pv 1) (by rfl)) (U3 (v:=.ty "bool") Z T.bool Eu Z))))))))) (ZR (Zl (Jn (pv 1) (by rfl)))) Z0))))
  (ZR (Zl (Pw OD ZJ))),?_]
 rcases rd.two with ⟨rfl,I⟩ | ⟨j,rfl,I⟩
 .show#[1,I _ _ λV p G=>?_];show#[1,k V G]
 show#[1,I _ _ λb u G y=>#[CR,Z,L.sub,λa D=>?_]];let C:=Zr D (XO PU a CR (Z' b));let z:upd u a (XO PU a CR (Z' b)) a\XO PU a CR (Z' b):=ZY;let t:O7 (upd u a (XO PU a CR (Z' b))) a CR:=Rn z;let J:=C _ _ y;let o:=G.trans C;generalize upd u a (XO PU a CR (Z' b))=H2 at C z t J o⊢;exists 1,Ym;intro q nq;let#[H3,x,m,h3]:=YN nq (.tup _);rw[x];let d:=m _ _ z;let c:=m _ _ J;exists a,CR,q,_,false,Z,t.mono m,e.exc,h3,(by simp[Mo]),L.any,_,Z
 exists 1,a,CR,_,true,Z,t.mono m,e.exc,Z,L.val,_,Z;exists 1,a,CR,_,true,Z,t.mono m,e.exc,Z,L.self,_,Z;show Zq #[1,PU,a,CR,b,_,_,B,Z,d,c,e,Z,_,_,_,true,Z,.int _,(by kernel_rfl),1,?_]
 show Zq #[1,PU,a,CR,b,_,_,B,Z,d,c,e,Z,_,_,_,false,Z,.int _,(by kernel_rfl),1,?_]
 show Zq #[1,PU,a,CR,b,_,_,B,Z,d,c,e,Z,?_];show k _ (o.trans m)
end
structure QP(ts:jp)(es:List (ju)):Prop where
 fo:XY ts
 l0:0<↑ts
 l24:↑ts<=24
 low:∀ i<↑ts,↑(gd ts i).rows<=200
 e28:↑es<=28
 inn:∀ r,Z' r∈es->r<↑ts
 hd:∀ i<↑ts,Q9 ts es i
theorem QP.pre{b:jp}{a:List (ju)}(h:QP b a):YL b a:=#[h.fo,zK h.l24 (by decide),zK h.e28 (by decide),h.inn,h.low]
theorem JS{a:jp}(c:XY a){n:Nat}(f:↑a=n+1):¬ ∃ q<↑a,n∈(gd a q).bs:=λ⟨q,e,b⟩=>by
 by_cases d:(gd a q).h=0
 .erw[(c.lf q e d).1] at b
 .have:=((c.st q e d).2.2.2.1 n b).1
  lia
theorem QP.some{a:jp}{b:List (ju)}(h:QP a b):b≠[]:=λz=>by
 let d:=h.l0;obtain⟨n,c⟩:∃ n,↑a=n+1:=#[↑a-1,∅]
 rcases h.hd n ∅ with y | y
 .erw[z] at y
 .show JS h.fo c y
theorem mG{c:jp}{k:Nat}{a:jo}(e:∀ b∈a,b<k)(f:a≠[]):Yt (c.take k) a=Yt c a:=by
 unfold Yt;rw[JL (l:=a) λb d=>(by rw[Qq (e b d)]:(gd (c.take k) b).rows=(gd c b).rows)]
 congr 2
 cases a with
 | nil=>show absurd Z f
 | cons b l=>rw[rJ,Qq (e b zQ)]
theorem XY.take{j:jp}(h:XY j)(k:Nat):XY (j.take k):=by
 let m:∀ i<↑(j.take k),i<k/\i<↑j:=λi f=>by rw[zH] at f;lia
 show#[λi f d=>?_,λi f d=>?_]
 .let#[a,b]:=m i f;rw[Qq a] at d⊢;show h.lf i b d
 .let#[a,b]:=m i f;rw[Qq a] at d⊢;let#[e,l,n,g,o]:=h.st i b d;show#[e.trans (mG (λb c=>xH (g b c).1 a) (λz=>by rw[z] at l;show absurd l (by decide))).symm,l,n,λb c=>#[(g b c).1,#v[Qq (xH (g b c).1 a),(g b c).2]],o]
theorem Kt(a:jp)(b:List (ju))(k:Nat):(Z4 a b).take k=Z4 (a.take k) (b.take (k-↑a)):=by
 rw[List.take_append,zY,<-tX,<-tX]
theorem YL.take{a:jp}{c:List (ju)}(p:YL a c)(k:Nat):YL (a.take k) (c.take (k-↑a)):=by
 show#[p.fo.take k,?_,?_,λr b=>?_,λi d=>?_]
 .rw[zH];have:=p.l30;lia
 .rw[zH];have:=p.e99;lia
 .have:=p.inn r (uC b);rw[zH];rcases yW k ↑a with y | y
  .erw[show k-↑a=0 by lia] at b
  .lia
 .rw[zH] at d;rw[Qq ∅]
  show p.low i ∅
theorem MT{v:V}{l:je}(h:itm v=V')(g:Vc l):Vc (v::l):=λx a=>by
 rcases zN.mp a with z | z
 .rwa[z,h]
 .show g x z
theorem Pl{l:je}{k:Nat}(g:Vc l):Vc (l.drop k):=λx a=>g x (rW a)
theorem BX{l:je}{k:Nat}(g:Vc l):Vc (l.take k):=λx a=>g x (uC a)
theorem ED{l m:je}(g:Vc l)(h:Vc m):Vc (l++m):=λx a=>(yY.mp a).elim (g x) (h x)
theorem uw{l:je}{i:Nat}{v:V}(g:Vc l)(h:itm v=V'):Vc (l.set i v):=λx a=>by
 rcases List.mem_or_eq_of_mem_set a with z | z
 .show g x z
 .rwa[z,h]
section
variable{p:al}{H:Hp}
inductive UE(K:zZ)(p:al)(H:Hp)(xs:je):Nat->Prop
 | row {ts:jp} {es:List (ju)} {v:V} {rest:je} {n:Nat}:Vc (v::rest)->xs=Z4 ts es++v::rest->rest.length<=200->YL ts es->(∀ H',ZA p H H'->Yd K H' ts es v)->n=↑ts+↑es->UE K p H xs n
 | lost {ts:jp} {es:List (ju)} {i n:Nat}:xs=Z4 ts es->YL ts es->i<↑ts->¬ Q9 ts es i->n=↑ts+↑es->UE K p H xs n
theorem UE.step{g:je}{n:Nat}{f:Hp}(h:UE K p H g n)(s:ZA p H f):UE K p f g n:=by
 cases h with
 | row i a b c d e=>show .row i a b c (λj k=>d j (s.trans k)) e
 | lost a b c d e=>show .lost a b c d e
theorem UE.rd{g:je}{n:Nat}{l:al}(h:UE K p H g n)(f:H l\.lst g):O0 K H l (n:Int):=by
 cases h with
 | row _ a b c d e=>subst a e;show .row f b c (d H (ZA.refl _ _))
 | lost a b c d e=>subst a e;show .lost f b c d
theorem Qw(c:jp)(a:List (ju)):Vc (Z4 c a):=λv b=>by
 rcases yY.mp b with y | y
 .let#[t,_,rfl]:=zA.mp y;rfl
 .let#[t,_,rfl]:=zA.mp y;rfl
theorem UE.itm{f:je}{n:Nat}(h:UE K p H f n):Vc f:=by
 cases h with
 | row i a b c d e=>
  subst a;intro v g;rcases yY.mp g with y | y
  .show Qw _ _ v y
  .show i v y
 | lost a b c d e=>subst a;show Qw _ _
theorem L0{d a:jp}{f:List (ju)}{v:V}{k:Nat}(j:XY d)(g:YL a f)(i:∀ b,b<↑a->b<↑d->gd a b=gd d b)(u:k<=↑a+↑f)(b:ZV K [p] H d v){rest:je}(r:rest.length<=200)(q:Vc rest):UE K p H ((Z4 a f).take k++v::rest) k:=by
 rw[Kt];show .row (MT b.itm q) Z r (g.take k) (λt s=>(b.step (λx h=>h) λc o n e=>s c o e λz=>n (by rw[z];simp)).row j (λb l m=>?_) (g.take k)) (by rw[zH,zH];lia)
 rw[zH] at l;rw[Qq ∅]
 show i b ∅ m
theorem lW{b:jp}{c:List (ju)}{t:ZK}{k:Nat}(l:YL b c)(n:↑b<k)(f:k<=↑b+↑c)(g:↑(Y3 t)<=900000){rest:je}(i:rest.length<=200)(e:Vc rest):UE K p H ((Z4 b c).take k++.str (ZS (Y3 t))::rest) k:=by
 rw[Kt];let j:w0 (Y3 t)≠[114,111,111,116]:=by
  unfold Y3;by_cases d:t.h=0
  .rw[aP d,(Um (a:=OV) (Uy Z)).1];decide
  .rw[aO d,(Um (a:=WL) (Uy Z)).1];decide
 show .row (MT Z e) Z i (l.take k) (λm s=>.behind g j λz=>?_) (by rw[zH,zH];lia)
 have:=congrArg xI z;rw[zH,yE] at this
 lia
theorem GJ{c:jp}{g:List (ju)}{bs:jo}{k:Nat}(w:YL c g)(z:k<=↑c)(v:bs≠[])(t:↑bs<=90)(i:∀ b∈bs,b<1000)(h:(∀ b∈bs,b<k)->over (YF c bs)=Y'){rest:je}(o:rest.length<=200)(n:Vc rest):UE K p H ((Z4 c g).take k++.str (ZS (WL++32::jn (bs.map Zy)))::rest) k:=by
 rw[Kt];let f:=Um (a:=WL) (b:=jn (bs.map Zy)) (Uy Z);let r:=JP (l:=bs.map Zy) λx q=>by
  let#[b,d,rfl]:=zA.mp q;show Pg (i b d)
 rw[zY] at r;let u:↑(c.take k)=k:=by rw[zH];lia
 show .row (MT Z n) Z o (w.take k) (λy s=>.twig ?_ (by rw[f.1];decide) (by rw[show k-↑c=0 by lia];rfl) λX j m=>?_) (by rw[zH,zH];lia)
 .simp only[zS,zV,yE];lia
 .rw[f.1,f.2];show Jl Z j m v t λe=>?_;rw[u] at e;rw[show YF (c.take k) bs=YF c bs from rH λb d=>by rw[Qq (e b d)]]
  show h e
end
def Vb:ZK:=U5 [(.int 7,.int 7)]
def U8:ZK:=U5 [(.int 8,.int 8)]
def Os(a:jp):jq:=(a.flatMap (·.rows)).map (·.1)++[.int 7,.int 8]
theorem K'{a:jp}(h:XY a):Q4 (Os a) a:=#[h,λi b r c=>by
 show xO _ (zA.mpr #[r,wB.mpr #[gd a i,?_,c],Z]);unfold gd;rwa[zO,zU b,xP b]]
theorem xt:Vy [((.int 7,.int 7):Ya)]:=#[λr a=>#v[zP.mp a,#[by decide,by decide]],by decide,by decide,zES _ _]
theorem A9:Vy [((.int 8,.int 8):Ya)]:=#[λr a=>#v[zP.mp a,#[by decide,by decide]],by decide,by decide,zES _ _]
theorem Ck{a:jp}(h:XY a):Q4 (Os a) (a++[Vb]):=(K' h).snoc (λ_=>#[Z,xt]) (λz=>absurd Z z) (λr b=>by rw[zP.mp b];simp[Os])
theorem Rh{a:jp}(h:XY a):Q4 (Os a) ((a++[Vb])++[U8]):=(Ck h).snoc (λ_=>#[Z,A9]) (λz=>absurd Z z) (λr b=>by rw[zP.mp b];simp[Os])
def Mm(a:jp):ZK:=#[(1),[(.int 7,.int 7),(.int 8,.int 8)],[↑a,↑a+1]]
theorem xn(c:jp):Mm c=Yt ((c++[Vb])++[U8]) [c.length,c.length+1]:=by
 let a:gd ((c++[Vb])++[U8]) ↑c=Vb:=#v[P0 ⋯,Ox]
 let b:gd ((c++[Vb])++[U8]) (↑c+1)=U8:=by
  have:↑(c++[Vb])=↑c+1:=by simp
  rwa[<-this,Ox]
 unfold Yt;rw[Oe,Oe,rJ,a,b];rfl
theorem uf{c:jp}(h:XY c):Q4 (Os c) (((c++[Vb])++[U8])++[Mm c]):=(Rh h).snoc (λz=>by cases z) (λ_=>#[xn c,zW 2,show 2<=4 by decide,λb e=>by
 let a:gd ((c++[Vb])++[U8]) ↑c=Vb:=#v[P0 ⋯,Ox]
 let d:gd ((c++[Vb])++[U8]) (↑c+1)=U8:=by
  have:↑(c++[Vb])=↑c+1:=by simp
  rwa[<-this,Ox]
 rcases zN.mp e with z | z
 .rwa[z,a,#[by simp,Z]]
 .rwa[zP.mp z,d,#[by simp,Z]],List.pairwise_pair.mpr (by decide)]) (λr f=>by
 rcases zN.mp f with z | z
 .rw[z];simp[Os]
 .rw[zP.mp z];simp[Os])
structure NR(ts tx:jp)(es:List (ju))(more:je):Prop where
 pre:YL tx es
 len:↑tx=↑ts+↑more
 rows:Z4 tx es=ts.map (λt=>V.str (ZS (Y3 t)))++more++es.map λe=>V.str (ZS (QL e))
 ag:∀ b,b<↑ts->gd tx b=gd ts b
 free:∃ i<↑tx,¬ Q9 tx es i
theorem ER{c tx:jp}{g:List (ju)}{a:jp}(h:QP c g)(d:tx=c++a)(j:XY tx)(s:↑a<=3)(p:a≠[])(e:∀ t∈a,↑t.rows<=200):NR c tx g (a.map λt=>V.str (ZS (Y3 t))):=by
 let o:↑tx=↑c+↑a:=by rw[d,zS]
 let u:0<↑a:=xN.mpr p;let m:=h.l24;let f:∀ b,b<↑c->gd tx b=gd c b:=λb k=>by
  rw[d];unfold gd;rw[zO,zO,wS k]
 show#[#[j,∅,h.pre.e99,λr l=>by have:=h.inn r l;lia,λi q=>?_],#v[zY,o],by rw[d];simp only[Z4,yX],f,↑tx-1,∅,λz=>?_]
 .rcases yW i ↑c with y | y
  .rwa[f i y,h.low i y]
  .have:gd tx i∈a:=by
    rw[d];unfold gd;rw[zO,wN y,zU ∅]
    show xP _
   show e _ this
 .rcases z with z | z
  .have:=h.inn _ z;lia
  .show JS j (n:=↑tx-1) ∅ z
theorem Sf{a:jp}{b:List (ju)}(h:QP a b):NR a (a++[Vb]) b [.str (zX "leaf 7 7")]:=by
 let e:=ER h Z (Ck h.fo).fo (by decide) ⋯ (λt c=>by rw[zP.mp c];decide)
 let t:ZS (Y3 Vb)=zX "leaf 7 7" :=by decide +kernel
 rw[show [Vb].map (λt=>V.str (ZS (Y3 t)))=[.str (zX "leaf 7 7")] by rw[<-t];rfl] at e
 show e
theorem SB{a:jp}{b:List (ju)}(h:QP a b):NR a (a++[Vb,U8,Mm a]) b [.str (zX "leaf 7 7"),.str (zX "leaf 8 8"),.str (ZS (WL++32::jn [Zy ↑a,Zy (↑a+1)]))]:=by
 let e:=ER (tx:=a++[Vb,U8,Mm a]) h Z (by have:=(uf h.fo).fo;simpa using this) (zW 3) ⋯ (λt c=>by
  rcases zN.mp c with z | z
  .rw[z];decide
  .rcases zN.mp z with z | z
   .rw[z];decide
   .rw[zP.mp z];change 2<=200;decide)
 let t:ZS (Y3 Vb)=zX "leaf 7 7" :=by decide +kernel
 let d:ZS (Y3 U8)=zX "leaf 8 8" :=by decide +kernel
 rw[show [Vb,U8,Mm a].map (λt=>V.str (ZS (Y3 t)))=[.str (zX "leaf 7 7"),.str (zX "leaf 8 8"),.str (ZS (WL++32::jn [Zy ↑a,Zy (↑a+1)]))] by rw[<-t,<-d];rfl] at e
 show e
section
variable{p:al}{H:Hp}
theorem NR.lost{g b:jp}{es:List (ju)}{a:je}(x:NR g b es a){c:je}(e:c=Z4 b es):UE K p H c (↑b+↑es):=by
 let#[i,d,f]:=x.free;show .lost e x.pre d f Z
theorem oI{a:jp}{b:List (ju)}(h:QP a b):UE K p H ((Z4 a b).take ↑a) ↑a:=by
 let c:=h.l0;let p:=h.pre.take ↑a;rw[xF,uB,tT] at p;show .lost (es:=[]) (i:=↑a-1) ?_ p ∅ (λz=>?_) Z
 .rw[Kt,xF,uB,tT]
 .rcases z with z | z
  .cases z
  .show JS h.fo (n:=↑a-1) ∅ z
end
section
variable{p:al}{H:Hp}{σ:L2.St}
theorem Ey(a:je){k:Nat}(h:k<=↑a):QR a Y' (Z' (k:Int))=a.take k:=by
 unfold QR;rw[HT.sIx_none,HT.sIx_nat,tU,Nat.sub_zero,xG h]
theorem q0(a:je){k:Nat}(h:k<=↑a):QR a (Z' (k:Int)) Y'=a.drop k:=by
 unfold QR;rw[HT.sIx_none,HT.sIx_nat,xG h,yH #v[yV,zW _]]
theorem BB{i k:Nat}{a:al}{xs:je}{w N:TE}{M:Hp->je->Prop}{Q:VK}(W:ZG H p)(C:σ[i]?\Z' (.ref a))(ap:a≠p)(B:H a\.lst xs)(E:k<=↑xs)(l:↑xs<=150)(A:∀ (m:Hp) (Q:VK),ZA p H m->Q (.int (k:Int)) m->w σ m Q)(st:∀ d f b,M d b->ZD d f->M f b)(lv:∀ d b,M d b->↑b<=10)(hm:∀ (d:Hp) (Q:VK),ZG d p->ZA p H d->(∀ (f:Hp) (D:al) (b:je),ZG f p->ZA p d f->f D\.lst b->M f b->Q (.ref D) f)->N σ d Q)(q:∀ (g:Hp) (D:al) (b:je),ZG g p->ZA p H g->D≠p->g D\.lst (xs.take k++b++xs.drop k)->M g b->Q (.ref D) g):
  VI QA (VI QA (N4 (Yj K) (Y9 i) Mt (NG w)) N) (N4 (Yj K) (Y9 i) (NG w) Mt) σ H Q:=by
 let#[y,hy]:=W.some;show#[_,C,A _ _ (ZA.refl _ _) #[1,a,xs,Z,ZH.of B,λx G=>?_]];rw[Ey xs E];let#[d,e1,J,h1]:=YN G (.lst (xs.take k));rw[e1];let W1:=W.same J;let O:ZA p H d:=λc o e _=>J c o e;let j:x≠p:=(Zf hy G).symm;show hm d _ W1 O λf S b z L h2 F=>?_;let r:=L _ _ h1 j;let P:ZA p H f:=λc o e n=>L c o (O c o e n) n;let l2:=lv _ _ F;let lt:↑(xs.take k)<=150:=by rw[zH];lia
 exists x,S,_,b,Z,Z,r,h2,yK (YQ ∅)
 intro T n3;let#[Y,e3,u,h3]:=YN n3 (.lst (xs.take k++b));rw[e3];let R:ZA p H Y:=λc o e n=>u c o (P c o e n);let s:=R _ _ B ap;show#[_,C,A _ _ R #[1,a,xs,Z,ZH.of s,λU n4=>?_]];rw[q0 xs E];let#[H4,e4,v,h4]:=YN n4 (.lst (xs.drop k));rw[e4];exists T,U,_,1,Z,v _ _ h3,h4,yK (YQ (by rw[zS,yV];lia))
 intro X I;let#[g,e5,s5,h5]:=YN I (.lst (xs.take k++b++xs.drop k));rw[e5];let h:=u.trans (v.trans s5);let W5:=z.same h;let#[y4,t]:=(z.same (u.trans v)).some;show q g X b W5 (λc o e n=>h c o (P c o e n)) (Zf t I).symm h5 (st _ _ _ F h)
theorem NI{i k:Nat}{a:al}{xs:je}{r:TE}{w:TA}{M:Hp->V->Prop}{Q:VK}(W:ZG H p)(J:σ[i]?\Z' (.ref a))(C:a≠p)(I:H a\.lst xs)(L:k<=↑xs)(l:↑xs<=150)(G:∀ (h:Hp) (Q:VK),ZA p H h->Q (.int (k:Int)) h->r σ h Q)(u:∀ b d v,M b v->ZD b d->M d v)(N:∀ (b:Hp) (Q:je->Hp->Prop),ZG b p->ZA p H b->(∀ (d:Hp) (v:V),ZG d p->ZA p b d->M d v->Q [v] d)->w σ b Q)(q:∀ (f:Hp) (D:al) (v:V),ZG f p->ZA p H f->D≠p->f D\.lst (xs.take k++v::xs.drop k)->M f v->Q (.ref D) f):
  VI QA (VI QA (N4 (Yj K) (Y9 i) Mt (NG r)) (O4 w)) (N4 (Yj K) (Y9 i) (NG r) Mt) σ H Q:=by
 show BB (M:=λH g=>∃ v,g=[v]/\M H v) W J C I L l G (λb d g ⟨v,e,m⟩ s=>#[v,e,u _ _ _ m s]) (λb g ⟨v,e,m⟩=>#v[e,tQ (yQ 9)]) (λb T z P O=>?_) (λf D g B S x t ⟨v,e,m⟩=>?_)
 .show N b _ z P λd v A R m=>#[yK (YQ (by change 1<=1000;lia)),λD n=>?_]
  let#[y,E,j,F]:=YN n (.lst [v]);rwa[E,O y D [v] (A.same j) (λc o e n=>j c o (R c o e n)) F #[v,Z,u _ _ _ m j]]
 .subst e;rw[yM] at t;show q f D v B S x t m
end
inductive PQ(d:zZ)(x y:V)(H:Hp)(Q:VK):Prop
 |mk(a b:al)(f g:je)(c e:jq)(_:x=.ref a)(_:y=.ref b)(_:ZH d H a f)(_:ZH d H b g)(_:jK H c f)(_:jK H e g)(_:∀ t∈c,t.depth<=100)(_:Q (.bl (!jM c e)) H)
theorem w6{k:Nat}(Y:ZU k X.A):XS X (aA .NotEq) (PQ X.K):=by
 intro E s σ H x y v u Q I rx ry h;let#[a,b,xs,ys,f,g,rfl,rfl,U,V,z,B,W,q]:=h;cases rx;cases ry;let#[d,F,C,z1]:=I.list U;let#[c,G,D,z2]:=I.list V;let l1:=↑F;let l2:=↑G;let m1:=↑z;let m2:=↑B;let un:=Y.un;by_cases p:↑d=↑c
 .show PySem.SeqAt.RcNeAt.lists (e:=λj=>(f.getD j (.int 0)).eqb (g.getD j (.int 0))) C.isList D.isList (by simpa using p) ∅ (λj n o=>?_) X.prog X.w X.xe _ #[.bl _,H,I,Z,?_]
  .let r:j<↑xs:=by simp at n;lia
   let t:j<↑ys:=by simp at o;lia
   let#[l,m,M]:=z.get (zU r);let#[t2,R,N]:=B.get (zU t);let#[J,S,O]:=F.get (zU r);let#[L,T,P]:=G.get (zU t);let q1:d.toArray[j]=J:=by
    have:d.toArray[j]?\J:=by simpa using S
    rw[wV n] at this;show yP.inj this
   let q2:c.toArray[j]=L:=by
    have:c.toArray[j]?\L:=by simpa using T
    rw[wV o] at this;show yP.inj this
   rw[q1,q2,zO,zO,m,R];let dp:=W l (zI m);show M0 l.depth l t2 _ _ _ (zW _) (PX I _ _ _ M O) (PX I _ _ _ N P) (by change X.A.units+1+_<_;lia)
  .let e:=Kf f g;let i:min ↑f ↑g=d.toArray.size:=by simp;lia
   rw[i,show (↑f==↑g)=V' by simp;lia,Bool.and_true] at e
   rwa[e,q]
 .show PySem.SeqAt.RcNeAt.lists_lengths C.isList D.isList (by simpa using p) ∅ X.prog X.w X.xe _ #[.bl _,H,I,Z,?_]
  let e:=Kf f g;rw[show (↑f==↑g)=false by simp;lia,tV] at e
  rw[<-e] at q;show q
end Tw
namespace L2
open PySem PySem.Spec PyProof.Rows
theorem Bg:∀{e:je}{d:jd}(i:Nat),ZN e d->(e[i]? = Y'/\d[i]? = Y')\/∃ x u,e[i]?\x/\d[i]?\u/\ZQ x u
 | _,_,i,.nil=>.inl #[by simp,by simp]
 | _,_,0,.cons r t=>.inr #[_,1,Z,r]
 | _,_,i+1,.cons r t=>by
  rcases Bg i t with ⟨a,b⟩ | ⟨x,u,a,b,c⟩
  .show .inl #[by simpa using a,by simpa using b]
  .show .inr #[x,u,by simpa using a,by simpa using b,c]
theorem Jq{f:je}{e:jd}(r:ZN f e):∀ d:jo,ZN (d.filterMap (f[·]?)) (d.filterMap (e[·]?))
 | []=>.nil
 | i::d=>by
  rw[vB,vB];rcases Bg i r with ⟨a,b⟩ | ⟨x,u,a,b,c⟩
  .rwa[a,b,Jq r d]
  .rwa[a,b,.cons c (Jq r d)]
theorem pe{c:Type}:∀(l r:List c),(zG ↑l).filterMap ((l++r)[·]?)=l:=by
 intro l
 induction l with
 | nil=>intro r;rfl
 | cons a l b=>
  intro r;rw[zV,zEW,vB,List.filterMap_map];change a::List.filterMap (λi=>(l++r)[i]?) (zG ↑l)=a::l;rw[b]
theorem Af(n:Nat):sliceRange ((n:Int)-1) (-1) (-1)=(zG n).reverse:=by
 unfold sliceRange;let e:(if (-1:Int) > 0 then if ((n:Int)-1) < -1 then (-1-((n:Int)-1) + -1-1) / -1 else 0 else if ((n:Int)-1) > -1 then (((n:Int)-1) - -1 - -1-1) / - -1 else 0).toNat=n:=by
  rw[aO (by decide)]
  by_cases h:0<n
  .rw[aP ∅,show (- -1:Int)=1 from rfl,Int.ediv_one];lia
  .rw[aO ∅];lia
 simp only[e];show List.ext_getElem ⋯ λi a b=>?_
 simp at a;simp
 lia
theorem qy{a:Type}(l:List a):(sliceRange ((↑l:Int)-1) (-1) (-1)).filterMap (l[·]?)=l.reverse:=by
 rw[Af,List.filterMap_reverse];have:=pe l [];rw[xK] at this;rw[this]
inductive NC(K:zZ)(Q:VK)(x y:V)(b:Hp):Prop
 |mk(a c:_)(_:x=.ref a)(_:y=.int (-1))(_:ZH K b a c)(_:∀ p,b p=Y'->Q (.ref p) (upd b p (.lst c.reverse)))
def RQ(K:zZ)(e d:TE):TE:=λa H Q=>e a H λx b=>d a b λy c=>NC K Q x y c
theorem ti{e l:Expr}{B z:TE}{t m:aJ}(M:PE X e B)(L:PE X l z):PE X (.Subscript e (.Slice Y' Y' (Z' l) t) m) (RQ X.K B z):=by
 intro c s j H Q I h;show Subscript_ (Z8 (M c s j H _ I h) λv V x D F T R=>?_);show wpAny_Slice ?_;rw[evalPart_none];show ad (ad ?_);rw[evalPart_some];show Z8 (L c V j D _ F R) λu f y E G U S=>?_;let#[a,i,rfl,rfl,N,q]:=S;cases T;let#[n,rfl]:=U;let k:ZF X c j E { f with heap:=f.heap.push { cls:=.type "slice",data:=.fields ⇑[.none,.none,.int (-1) n] } }:=G.kept (t':=f.toks) λb O q=>zL _ q;let#[d,r,p,W]:=k.list N;let g:=↑r;change aC (aB X.prog X.w) X.A (subscriptTail e (.Slice Y' Y' (Z' l) t) (.ref a) (.ref f.heap.objs.size)) (EP X c j Q) X.xe { f with heap:=f.heap.push { cls:=.type "slice",data:=.fields ⇑[.none,.none,.int (-1) n] } };show tail_any (ops:=[.ref a,.ref f.heap.objs.size]) p.isList.typeIs slot_list_getitem.lookup ?_ (by with_unfolding_all rfl)
 show wpAny_getItem_list_slice p.isList (Heap.IsSliceOf.new ..) .none .none (.int (-1) n) ⋯ ?_ (by rw[zB] <;> lia)
 let P:slicePick ⇑d Y' Y' (Z' (-1))=⇑((sliceRange ((↑d:Int)-1) (-1) (-1)).filterMap (d[·]?)):=by
  unfold slicePick;simp[sliceBounds]
 rw[P];let C:=Jq r (sliceRange ((↑d:Int)-1) (-1) (-1));let J:(sliceRange ((↑d:Int)-1) (-1) (-1)).filterMap (i[·]?)=i.reverse:=by rwa[<-g,qy i]
 rw[J] at C;show#[.ref _,_,k.laid (t':=f.toks) (o:=.lst i.reverse) (λb O q=>zL _ q) (zW _) ?_,Z,q _ (k.hok.fresh (zW _))];show#[by rw[uZ];lia,_,(0),C,yO _ Z]
end L2
namespace Tw
open PySem PySem.Spec L2 PyProof.Rows
variable{jP jQ CS CT CH CK CP CB:al}
theorem SO{X:Cx}{a b c d e f g:Expr}{i j k l m n o:TE}(p:PE X a i)(q:PE X b j)(r:PE X c k)(s:PE X d l)(t:PE X e m)(u:PE X f n)(v:PE X g o)(h:[a,b,c,d,e,f,g].all Pj=V':=by rfl):PA X [a,b,c,d,e,f,g] (YI i (YI j (YI k (YI l (YI m (YI n (YI o V0))))))):=by
 simp only[vH,zT] at h;let#[w,x,y,z,A,B,C,_]:=h;show WE p (WE q (WE r (WE s (WE t (WE u (ZM v C) B) A) z) y) x) w
theorem SQ{X:Cx}{a b c d e f g i j:Expr}{k l m n o p q r s:TE}(t:PE X a k)(u:PE X b l)(v:PE X c m)(w:PE X d n)(x:PE X e o)(y:PE X f p)(z:PE X g q)(A:PE X i r)(B:PE X j s)(h:[a,b,c,d,e,f,g,i,j].all Pj=V':=by rfl):PA X [a,b,c,d,e,f,g,i,j] (YI k (YI l (YI m (YI n (YI o (YI p (YI q (YI r (YI s V0))))))))):=by
 simp only[vH,zT] at h;let#[C,D,E,F,G,H,I,J,K,_]:=h;show WE t (WE u (WE v (WE w (WE x (WE y (WE z (WE A (ZM B K) J) I) H) G) F) E) D) C
inductive Ye(K:zZ):Sp
 |mk{p c:al}{d:je}{a:jp}{l:jo}{H:Hp}{Q:VK}{E:XK}:ZG H p->c≠p->H c\.lst d->Zn [p] H d a->XY a->↑a<=24->WP a l->(∀(b:Hp)(v:V),ZG b p->ZA p H b->ZV K [p] b a v->Q v b)->Ye K [.ref p,.ref c,.str (ZS l)] H Q E
theorem Wp:ZB SZ Ty (Za Ny):=Z2
inductive PZ(K:zZ)(H:Hp)(p tl:al)(ts:jp)(rw:V)(n:Nat):Nat->L2.St->Hp->Prop
 |mk{j:Nat}{D:al}{vs:je}{x4:jf}{H':Hp}:ZD H H'->H D=Y'->H' D\.lst vs->(∀ v∈vs,ZV K [p,D] H' ts v)->0<↑vs->↑vs<=n+j->PZ K H p tl ts rw n j [Z' (.ref p),Z' (.ref tl),Z' rw,Z' (.ref D),x4] H'
theorem vd(T:Txt mg)(DP:ZC P w K mg jS 1 "_law_pull" T2 Zm){cdv:ak}{A:ay}{outer:jB}{s:am}{H0:Hp}{E:XK}(hr:ZU 1 (A.deeper (envOfC "_law_bad_row" (Za Ny) s.heap.objs.size f cdv))):
  ∃ t,Xm (X7 ZX P w K mg jS SZ "_law_bad_row" (Za Ny) f cdv A outer s H0 E).nox ((X5 Ny).drop 9) t /\
   ∀(p U:al)(us:je)(L:jp)(rv:V)(H:Hp)(Q:VK)(σ:L2.St)(H1:Hp),ZG H p->U≠p->H U\.lst us->Zn [p] H us L->XY L->↑L<=24->(∀(Y:Hp)(v:V),ZG Y p->ZA p H Y->ZV K [p] Y L v->Q v Y)->PZ K H p U L rv 100 0 σ H1->t { nx:=λ_ Y=>Q .non Y,rt:=Q } σ H1:=by
 let nd:=Wp.nd;show#[_,ZL (WZ PassesOwn.never Z (WQ (pv 1)) (WB 4 nd) (ZR (Zx (Ps (Lc (XI K (pv 4) ZJ)))
   (ZR (Wa (Vo wT vX vW Ql (pv 3) (ZM (Vo vN uG sY Ms Zu (ZM (ZW Xn (YY (ZM Zu)) (VT [] [] Z (WQ (ti (XI K (pv 4) ZJ) (Pw OD ZJ))) (λ_ _ _ _ _=>VH) (λ_ _ _ _ _=>VD PN Z T.str UL (ZM (pv 0))) trivial)))))))) Z0)))
  (ZR (Zl (YC K (pv 3) (Ze DP hr (Zb (pv 0) (Zp YO Z T.len YK (ZM (pv 3)))))))),λp U us L rv H Q σ H1 W c6 a1 tg fo c4 k G=>?_]
 let c5:=Paired.length tg;let#[y0,a6]:=W.some
 induction G
 rename_i D X x4 H1 s1 I d bv v0 lv
 show#[1,U,Z,#[_,ZH.of (s1 _ _ a1)],UZ (K:=K) (a:=U) (xs:=us) (PZ K H p U L rv 100) (.mk s1 I d bv v0 lv) ?_ ?_ ?_]
 .intro j σ H2 _ G
  induction G
  rename_i J _ _ _ _ _
  show ZH.of (J _ _ a1)
 .intro j u σ H2 hu G
  induction G
  rename_i D X x4 H2 J I d bv v0 lv
  let#[t,et,tb]:=Paired.ixL tg hu;let hj:=(yL.mp et).1;let eg:gd L j=t:=by unfold gd;rw[zO,et];rfl
  let c2:=tb.same (A':=[p]) (λx h=>h) J
  induction c2
  rename_i a rl bV ws t ea n1 el ks hl hs
  exists 1,a,_,_,1,Z,Zd.of ea,Z;by_cases h0:t.h=0
  .obtain rfl:=hl h0;show#[1,Zo (.mk J I d bv v0 ∅)]
  let#[bl,rfl,n2,hb]:=hs h0;let#[_,b2,b4,bb,_]:=fo.st j hj #v[eg,h0]
  rw[eg] at b2 b4 bb;let tx:∀ b∈t.bs,b<1000:=λb g=>by have:=(bb b g).1;lia
  show#[1,Zq #[1,.inl #[Z,_,ZH.of d],Z,Ym,λl1 a8=>?_]];rw[Md];let#[H3,a2,S,h3]:=YN a8 (.lst [.str (ZS [115,116,101,109])]);rw[a2];exists 1,a,_,_,1,Z,Zd.of (S _ _ ea),Z,(1),Z,bl,1,Z,ZH.of (S _ _ hb);intro rl a9;let#[H4,a3,s4,h4]:=YN a9 (.lst (iN t.bs).reverse);rw[a3];let er:(iN t.bs).reverse=iN t.bs.reverse:=by unfold iN;rw[List.map_reverse]
  rw[er] at h4;let lb:↑(iN t.bs.reverse)=↑t.bs:=by unfold iN;rw[zY,uZ]
  let lr:↑t.bs.reverse=↑t.bs:=uZ;show#[rl,Z,#[_,ZH.of h4],Wr (n:=↑t.bs) (λi z=>(iN t.bs.reverse)[i]?\z) (λD i ys M=>ZD H4 M/\H4 D=Y'/\ys=(((t.bs.reverse.take i).map Zy).map ZS).map V.str) (YQ ∅)
   (λD i ys M hi C=>#[_,(iN t.bs.reverse)[i]'∅,ZH.of (C.1 _ _ h4),zU _]) (λD i ys M z H6 hi C hy=>#[hy.1,hy.2 _ (ZH.of (C.1 _ _ h4))]) (λD ys M C=>#[_,ZH.of (C.1 _ _ h4),#v[lb,zW _]])
   (λD d=>#[Zr d _,d,Z]) (λD5 i ys M z eD c3 hi hz C R hR=>?_) (λD5 ys M eD C=>?_)]
  .let#[s5,N,rfl]:=C;let#[b,eb,rfl]:=QU hz;let b9:=tx b (vE.mp (zI eb));show#[1,(b:Int),Z,PF (yI (show (b:Int).natAbs<1000 from b9) (by decide)),hR _ M eD #[UJ s5 N,N,?_]]
   rw[On,yR,eb];simp
  .let#[s5,N,rfl]:=C;rw[<-lr,xF] at eD;let c1:=S.trans (s4.trans s5);exists l1,D5,_,1,Z,s5 _ _ (s4 _ _ h3),eD,yK (YQ (by simp only[zV,yE,zY];lia))
   intro q nq;let#[H6,a4,s6,h6]:=YN nq (.lst ([V.str (ZS [115,116,101,109])]++((t.bs.reverse.map Zy).map ZS).map V.str));rw[a4];let sm:=Je (l:=[115,116,101,109]::t.bs.reverse.map Zy) (B:=4) λx hx=>by
    rcases zN.mp hx with y | y
    .rw[y];decide
    .let#[b,g,rfl]:=zA.mp y;show zK (Pg (tx b (vE.mp g))) (by decide)
   rw[zV,zY] at sm;let O:=c1.trans s6;exists zX " ",q,([115,116,101,109]::t.bs.reverse.map Zy).map ZS,Z,Z,ZH.of h6,?_
   .rw[zY,zV,zY,show ↑(zX " ")=1 by decide +kernel];lia
   .let ne:1<=↑t.bs.reverse:=∅
    rw[MI,Lw,Be ne];let a5:=O _ _ d;exists D,_,1,Z,a5,YQ ∅
    let a0:∀ c o,c≠D->H6 c\o->upd H6 D (.lst (X++[.str (ZS ([115,116,101,109]++32::jn (t.bs.reverse.map Zy)))])) c\o:=λc o n e=>#v[ZT n,e]
    show .mk (λc o e=>a0 c o (Zf e I) (O _ _ (J _ _ e))) I ZY (λv hv=>?_) ⋯ (by rw[zS,wW];lia)
    rcases yY.mp hv with y | y
    .show(bv v y).step (λx h=>h) λc o n e=>a0 c o (λz=>n (by rw[z];simp)) (O _ _ e)
    .rw[zP.mp y];let wd:=Um (a:=WL) (b:=jn (t.bs.reverse.map Zy)) (Uy Z);let jl:=JP (l:=t.bs.reverse.map Zy) λx hx=>by
      let#[b,g,rfl]:=zA.mp hx;show Pg (tx b (vE.mp g))
     rw[zY] at jl;show .text (.turned (t:=j) hj #v[eg,h0] wd.1 #v[eg,wd.2]) (by rw[QT];simp only[zS,zV,yE];lia)
 .intro σ H2 G;generalize ej:↑us=j at G
  induction G
  rename_i D X x4 H2 J I d bv v0 lv
  let W2:=W.same J;exists 3,D,1,.inl (ZH.of d),p,1,W2,XZ ∅ (yG (show (↑X:Int).natAbs<=1000 by lia) (by decide))
  intro r H3 r0 r1 W3 S;let#[m,rfl]:=yA r0;let hm:m<↑X:=∅
  let a7:D≠p:=λz=>by erw[z,a6] at I
  let ev:X[m]?\X[m]:=zU hm;show .inl #[D,_,_,1,Z,ZH.of (S _ _ d a7),YW ev,?_];let c0:ZA p H H3:=λc o e n=>S c o (J _ _ e) n;show k H3 _ W3 c0 ((bv _ (zI ev)).step (A':=[p]) (λx h=>by rw[zP.mp h];simp) λc o n e=>S c o e λz=>n (by rw[z];simp))
theorem ZV.more{A:jv}{H:Hp}{g:jp}{v:V}{D:al}(b:ZV K A H g v)(n:H D=Y'):ZV K (A++[D]) H g v:=by
 let c:∀{a:al},H a≠Y'->a∉A->a∉A++[D]:=fun{a} e d z=>by
  rcases yY.mp z with y | y
  .show d y
  .rw[zP.mp y] at e;show e n
 induction b with
 | text a b=>show .text a b
 | flat i a b=>show .flat i a b
 | lst e d=>show .lst e (c #v[e,nofun] d)
 | tup e d=>show .tup e (c #v[e,nofun] d)
theorem Ot{H:Hp}{p I:al}{s:jp}{E:V}{n m:Nat}{G:TE}{A:L2.St}{a:Hp}{B:L2.YX}(U:PZ K H p I s E n 0 A a)(Y:n+m<=1000)(t:∀ (Q:VK),(∀ (i:al) (g:Hp) (d:je),ZD a g->a i=Y'->g i\.lst d->↑d<=m->(∀ v∈d,ZV K [p] g s v)->Q (.ref i) g)->G A a Q)(k:∀ (l:L2.St) (C:Hp),PZ K H p I s E (n+m) 0 l C->B.nx l C):Ls (VI QA (Y9 3) G) (PM 3) B A a:=by
 induction U
 rename_i D J x4 a F nD T M v0 lv
 show#[1,t _ λi g d r n2 R lw N=>#[D,i,J,d,Z,Z,r _ _ T,R,?_,λj q=>?_]]
 .show yK (YQ ∅)
 let#[X,O,z,S]:=YN q (.lst (J++d));rw[O];let b:a j=Y':=by
  cases h:a j with
  | none=>rfl
  | some o=>erw[r _ _ h] at q
 let u:H j=Y':=by
  cases h:H j with
  | none=>rfl
  | some o=>erw[F _ _ h] at b
 show k _ _ (.mk (F.trans (r.trans z)) u S (λv W=>?_) (by rw[zS];lia) (by rw[zS];lia))
 rcases yY.mp W with y | y
 .let L:ZV K ([p]++[j]) a s v:=((M v y).step (A':=[p]) (λx h=>by rw[zP.mp h];simp) λc o _ e=>e).more b
  show L.step (λx h=>h) λc o _ e=>(r.trans z) _ _ e
 .show((N v y).more q).step (λx h=>h) λc o _ e=>z _ _ e
theorem MR{c:Hp}{p:al}{o:jp}{r:L2.St}(b:jr){t:TA}(k:t=λ_ H Q=>Q (b.map V.str) H)(h:b.all Lu=V')(j:↑b<=10):∀(Q:VK),(∀(d:al)(a:Hp)(e:je),ZD c a->c d=Y'->a d\.lst e->↑e<=10->(∀ v∈e,ZV K [p] a o v)->Q (.ref d) a)->O4 t r c Q:=λQ q=>by
 subst k;exists #v[zY,yK (YQ ∅)]
 intro l n;let#[s,g,m,i]:=YN n (.lst (b.map V.str));rwa[g,q _ _ _ m n i (by rw[zY];show j) (KQ h)]
theorem Nz(x y:Str):(x++y).cps.toList=x.cps.toList++y.cps.toList:=Array.toList_append
theorem QN(x y:Str):↑(x++y)=↑x+↑y:=rA
theorem Iw{d g:Hp}{p:al}{r:jp}{Q:VK}{a:je}(k:ZD d g)(b:∀ v∈a,ZV K [p] g r v)(u:↑a<=10)(q:∀ (j:al) (i:Hp) (a:je),ZD d i->d j=Y'->i j\.lst a->↑a<=10->(∀ v∈a,ZV K [p] i r v)->Q (.ref j) i):↑a<=au/\∀ l,g l=Y'->Q (.ref l) (upd g l (.lst a)):=by
 exists yK (YQ ∅)
 intro l n;let#[A,s,m,t]:=YN n (.lst a);rw[s];let z:d l=Y':=by
  cases h:d l with
  | none=>rfl
  | some o=>erw[k _ _ h] at n
 show q _ _ _ (k.trans m) z t u λv y=>(b v y).step (λx h=>h) λc o _ e=>m _ _ e
theorem SK{b:Hp}{p:al}{h:jp}{k:L2.St}:∀(Q:VK),(∀(d:al)(a:Hp)(g:je),ZD b a->b d=Y'->a d\.lst g->↑g<=10->(∀ v∈g,ZV K [p] a h v)->Q (.ref d) a)->O4 (YI (tC (V.str (zX " root -"))) (YI (tC (V.str (zX "root --"))) (YI (tC (V.str (zX "leaf 1 2\n"))) (YI (tC (V.str (zX "root -\n"))) (YI (VI (λx y H Q=>∃ i j,x=V.str i/\y=V.str j/\↑i+↑j<=au/\Q (V.str (i++j)) H) (tC (V.str (zX "stem 0 "))) (VI (λx y H Q=>∃ i n,x=V.str i/\y=V.int n/\↑i=1/\2<=n/\n<=1000/\Q (V.str (Vi i n)) H) (tC (V.str (zX "9"))) (tC (V.int 30)))) (YI (tC (V.str (zX "stem 0 0 0 0 0"))) (YI (tC (V.str (zX "Stem 0 1"))) V0))))))) k b Q:=λQ q=>by
 exists _,1,Z,by decide,by decide,by decide,_,_,Z,Z,by decide +kernel
 show Iw (λc o e=>e) (KQ (ss:=[zX " root -",zX "root --",zX "leaf 1 2\n",zX "root -\n",zX "stem 0 " ++ Vi (zX "9") 30,zX "stem 0 0 0 0 0",zX "Stem 0 1"]) (by decide +kernel)) (by decide) q
theorem SM{b:Hp}{p:al}{h:jp}{k:L2.St}:∀(Q:VK),(∀(d:al)(a:Hp)(g:je),ZD b a->b d=Y'->a d\.lst g->↑g<=10->(∀ v∈g,ZV K [p] a h v)->Q (.ref d) a)->O4 (YI (tC (V.str (zX "leaf 1 0 1 0"))) (YI (VI (λx y H Q=>∃ i j,x=V.str i/\y=V.str j/\↑i+↑j<=au/\Q (V.str (i++j)) H) (VI (λx y H Q=>∃ i j,x=V.str i/\y=V.str j/\↑i+↑j<=au/\Q (V.str (i++j)) H) (tC (V.str (zX "leaf "))) (VI (λx y H Q=>∃ i n,x=V.str i/\y=V.int n/\↑i=1/\2<=n/\n<=1000/\Q (V.str (Vi i n)) H) (tC (V.str (zX "9"))) (tC (V.int 61)))) (tC (V.str (zX " 1")))) (YI (VI (λx y H Q=>∃ i j,x=V.str i/\y=V.str j/\↑i+↑j<=au/\Q (V.str (i++j)) H) (VI (λx y H Q=>∃ i j,x=V.str i/\y=V.str j/\↑i+↑j<=au/\Q (V.str (i++j)) H) (tC (V.str (zX "leaf 1 \""))) (VI (λx y H Q=>∃ i n,x=V.str i/\y=V.int n/\↑i=1/\2<=n/\n<=1000/\Q (V.str (Vi i n)) H) (tC (V.str (zX "a"))) (tC (V.int 41)))) (tC (V.str (zX "\"")))) (YI (tC (V.str (zX "leaf ((((1)))) 1"))) V0)))) k b Q:=λQ q=>by
 exists _,1,Z,by decide,by decide,by decide,_,_,Z,Z,by decide +kernel,_,_,Z,Z,by decide +kernel,_,_,Z,Z,by decide,by decide,by decide,_,_,Z,Z,by decide +kernel,_,_,Z,Z,by decide +kernel
 show Iw (λc o e=>e) (KQ (ss:=[zX "leaf 1 0 1 0",zX "leaf " ++ Vi (zX "9") 61++zX " 1",zX "leaf 1 \"" ++ Vi (zX "a") 41++zX "\"",zX "leaf ((((1)))) 1"]) (by decide +kernel)) (by decide) q
theorem SL{k:Hp}{p:al}{n:jp}{J:L2.St}{l:jo}(t:XY n)(R:↑n<=24)(rt:WP n l)(u:J[2]?\Z' (.str (ZS l)))(D:k p≠Y'):∀(Q:VK),(∀(A:al)(m:Hp)(B:je),ZD k m->k A=Y'->m A\.lst B->↑B<=10->(∀ v∈B,ZV K [p] m n v)->Q (.ref A) m)->O4 (YI (tC V.non) (YI (tC (V.int 5)) (YI (tC (V.bl true)) (YI (O4 λx H Q=>Q (List.map V.str ((λx=>zX "root -"::x) [])) H) (YI (GD λx H Q=>Q (List.map V.str ((λx=>zX "root -"::x) [])) H) (YI (VI (λx y H Q=>∃ i j,x=V.str i/\y=V.str j/\↑i+↑j<=au/\Q (V.str (i++j)) H) (Y9 2) (tC (V.str (zX " ")))) (YI (VI (λx y H Q=>∃ i j,x=V.str i/\y=V.str j/\↑i+↑j<=au/\Q (V.str (i++j)) H) (tC (V.str (zX " "))) (Y9 2)) (YI (VI (λx y H Q=>∃ i j,x=V.str i/\y=V.str j/\↑i+↑j<=au/\Q (V.str (i++j)) H) (BG K "str" UU (Y9 2)) (tC (V.str (zX "X")))) (YI (tC (V.str (zX "twig 0"))) V0))))))))) J k Q:=λQ q=>by
 let d:↑n<=30:=∅
 let#[W,X,Y,_,_,S]:=Im t d rt;let lx:↑(ZS l)<=180010:=#v[QT,S]
 let T:900000<=sizeLine:=by decide
 let lu:=len_upper (ZS l);let l1:↑(zX " ")=1:=by decide +kernel
 let lX:↑(zX "X")=1:=by decide +kernel
 exists by decide
 intro a E;let#[U,r,G,N]:=YN E (.lst _);rw[r];exists by decide
 intro b F;let#[m,s,I,O]:=YN F (.tup _);rw[s];let L:a≠p:=λz=>D (by rwa[<-z,E])
 let M:b≠p:=λz=>D (by
  let g:=F;rw[z] at g
  cases h:k p with
  | none=>rfl
  | some o=>erw[G _ _ h] at g)
 show#[_,u,_,1,Z,∅,_,u,_,1,Z,∅,_,u,Z,.mk ∅ #[_,1,Z,∅,?_]]
 show Iw (G.trans I) (λv c=>?_) ⋯ q
 rcases zN.mp c with rfl | c
 .show .flat Z (ty:=.type "NoneType") (λC=>.non) (by kernel_rfl)
 rcases zN.mp c with rfl | c
 .show .flat Z (ty:=.type "int") (λC=>.int _) (by kernel_rfl)
 rcases zN.mp c with rfl | c
 .show .flat Z (ty:=.type "bool") (λC=>.bl _) (by kernel_rfl)
 rcases zN.mp c with rfl | c
 .show .lst (I _ _ N) (by simp[L])
 rcases zN.mp c with rfl | c
 .show .tup O (by simp[M])
 rcases zN.mp c with rfl | c
 .show .text ?_ (by rw[QN];lia)
  let e:(ZS l++zX " ").cps.toList=l++[32]:=Nz _ _;rwa[e,lL t d rt]
 rcases zN.mp c with rfl | c
 .show .text ?_ (by rw[QN];lia)
  let e:(zX " " ++ ZS l).cps.toList=32::l:=Nz _ _;rwa[e,nX l]
 rcases zN.mp c with rfl | c
 .show .text ?_ (by rw[QN];lia)
  let e:(Txt.upper (ZS l)++zX "X").cps.toList=l.flatMap Unicode.upperOf++[88]:=by rw[Nz,lT];rfl
  rwa[e,nK t d rt _]
 rwa[zP.mp c,G2 (by decide +kernel)]
theorem PZ.rv{H:Hp}{p e:al}{g:jp}{a:V}{n:Nat}{c:L2.St}{d:Hp}(b:PZ K H p e g a n 0 c d):c[2]?\Z' a:=by
 induction b with
 | mk=>rfl
theorem PZ.well{H:Hp}{p e:al}{g:jp}{d:V}{n:Nat}{i:L2.St}{a:Hp}(b:PZ K H p e g d n 0 i a)(c:H p≠Y'):a p≠Y':=by
 induction b with
 | mk s=>
  intro z
  cases h:H p with
  | none=>show c h
  | some o=>erw[s _ _ h] at z
theorem om{l:TE}{k:Hp}{p:al}{m:jp}{n:L2.St}(h:∀ (Q:VK),(∀ (i:al) (g:Hp) (j:je),ZD k g->k i=Y'->g i\.lst j->↑j<=10->(∀ v∈j,ZV K [p] g m v)->Q (.ref i) g)->l n k Q):∀(Q:VK),(∀(i:al)(g:Hp)(j:je),ZD k g->k i=Y'->g i\.lst j->↑j<=20->(∀ v∈j,ZV K [p] g m v)->Q (.ref i) g)->l n k Q:=λQ q=>h Q λi g j a b c d e=>q i g j a b c ∅ e
theorem mY(F:Zk K "_law_bad_row" "_law_bad_row" Ny f fd)(T:Txt mg)(u:ZC P w K mg jS 1 "_law_pull" T2 Zm):ZI P w K mg jS ZX 2 f fd Ty (Ye K):=by
 show F.ok Wp (λY H Q E h=>(by induction h;rfl)) (λe A b s H Y Q E N h=>?_)
 induction h
 rename_i p r us X l H Q E W n i U o c rt k
 let a:=Wp.nd;let#[t,gt,O]:=vd (K:=K) (mg:=mg) (P:=P) (w:=w) (jS:=jS) (f:=f) (cdv:=e) (A:=A) (outer:=b) (s:=s) (H0:=H) (E:=E) T u N;show#[_,@ZL _ _ _ _ _ (Zh 3 a (YY (OP (by rfl))))
  (@ZL _ _ _ _ _ (Zh 3 a (ZW Xn (pv 3) (YY (OP (by rfl)))))
  (@ZL _ _ _ _ _ (Zh 3 a (ZW Xn (pv 3) (YY (OP (by rfl)))))
  (@ZL _ _ _ _ _ (Zh 3 a (ZW Xn (pv 3) (YY (OP (by rfl)))))
  (@ZL _ _ _ _ _ (Zh 3 a (ZW Xn (pv 3) (YY (OP (by rfl)))))
  (@ZL _ _ _ _ _ (Zh 3 a (ZW Xn (pv 3) (YY (SO Zu Zu Zu Zu (ZW WR Zu (ZW JR Zu ZJ)) Zu Zu))))
  (@ZL _ _ _ _ _ (Zh 3 a (ZW Xn (pv 3) (YY (SQ KI ZJ MC (YY (OP (by rfl))) (Y2 (OP (by rfl))) (ZW WR (pv 2) Zu) (ZW WR Zu (pv 2)) (ZW WR (yd vN zEL PySem.F.type_str_upper rp (pv 2)) Zu) Zu))))
  (@ZL _ _ _ _ _ (Zh 3 a (ZW Xn (pv 3) (YY (MH Zu (ZW WR (ZW WR Zu (ZW JR Zu ZJ)) Zu) (ZW WR (ZW WR Zu (ZW JR Zu ZJ)) Zu) Zu))))
  (@ZL _ _ _ _ _ (Zh 3 a (ZW Xn (pv 3) (YY (OP (by rfl))))) gt)))))))),?_]
 exists by decide
 intro R q;let#[v,g,S,L]:=YN q (.lst (List.map V.str _));rw[g];let#[y0,j]:=W.some;let M:H p≠Y':=λz=>by erw[j] at z
 let x:PZ K H p r X (.str (ZS l)) 10 0 [Z' (.ref p),Z' (.ref r),Z' (.str (ZS l)),Z' (.ref R),Y'] v:=.mk S q L (KQ (by decide +kernel)) (by decide) (by decide)
 show Ot (m:=10) x (by decide) (MR _ Z (by decide +kernel) (by decide)) λa0 H2 y=>?_
 show Ot (m:=10) y (by decide) (MR _ Z (by decide +kernel) (by decide)) λa1 H3 B=>?_
 show Ot (m:=10) B (by decide) (MR _ Z (by decide +kernel) (by decide)) λa2 H4 C=>?_
 show Ot (m:=10) C (by decide) (MR _ Z (by decide +kernel) (by decide)) λa3 H5 D=>?_
 show Ot (m:=10) D (by decide) SK λa4 H6 d=>?_
 show Ot (m:=10) d (by decide) (SL o c rt d.rv (d.well M)) λa5 H7 G=>?_
 show Ot (m:=10) G (by decide) SM λa6 H8 I=>?_
 show Ot (m:=20) I (by decide) (om (MR _ Z (by decide +kernel) (by decide))) λa7 H9 J=>?_
 show O _ _ _ _ _ _ _ _ _ W n i U o c k J
theorem D'{A:jv}{H:Hp}{u:V}{t:ZK}(h:Xa A H u t):∃(a d:al)(b:V)(e:je),u=.ref a/\H a\.tup [.int (t.h:Nat),b,.ref d]/\H d\.lst e/\jK H (WC t.rows) e/\(t.h=0->b=.non)/\(t.h≠0->∃ c,b=.ref c/\H c\.lst (iN t.bs)):=by
 induction h
 rename_i a d b e t g o i n l m
 show#[a,d,b,e,Z,g,i,n,l,λz=>by let#[c,j,_,k]:=m z;show#[c,j,k]]
inductive Wz(K:zZ):Sp
 |mk{p c b:al}{h:je}{d:jp}{g:List (ju)}{H:Hp}{Q:VK}{E:XK}:ZG H p->c≠p->b≠p->H c\.lst h->Zn [p] H h d->H b\.lst (Z4 d g)->QP d g ->
  (∀(a:Hp)(t D:al)(e:je)(n:Nat),ZG a p->ZA p H a->a t\.tup [.ref D,.int (n:Int)]->D≠p->a D\.lst e->↑e<=150->UE K p a e n->Q (.ref t) a)->Wz K [.ref p,.ref c,.ref b] H Q E
abbrev JI:jr:=["_law_well_here","_law_twigs","_law_rows","_law_way","_law_stems","_law_place","_law_at","_law_found","_law_other","_law_most","_law_bad"]
theorem YZ:ZB JI TJ (Za Q5):=Z2
structure Od(K:zZ)(p tl rl:al)(us:je)(ts:jp)(es:List (ju))(H:Hp)(Q:VK):Prop where
 W:ZG H p
 tlp:tl≠p
 rlp:rl≠p
 htl:H tl\.lst us
 tg:Zn [p] H us ts
 hrl:H rl\.lst (Z4 ts es)
 R:QP ts es
 k:∀(H':Hp)(t D:al)(xs:je)(n:Nat),ZG H' p->ZA p H H'->H' t\.tup [.ref D,.int (n:Int)]->D≠p->H' D\.lst xs->↑xs<=150->UE K p H' xs n->Q (.ref t) H'
theorem OQ(b:jp)(a:List (ju)):↑(Z4 b a)=↑b+↑a:=by rw[zS,zY,zY]
theorem GI(a b:Nat):zX "stem " ++ zX (toString ((a:Nat):Int))++zX " " ++ zX (toString ((b:Nat):Int))=ZS (WL++32::jn [Zy a,Zy b]):=by
 rw[On,On];show Q7 ?_;rw[Nz,Nz,Nz];rw[show (zX "stem ").cps.toList=WL++[32] by decide +kernel,show (zX " ").cps.toList=[32] by decide +kernel]
 change (WL++[32]++Zy a++[32])++Zy b=WL++32::(Zy a++([Zy b].flatMap λu=>32::u));simp
theorem Nl{a:Nat}(h:a<1000):↑(zX (toString ((a:Nat):Int)))<=3:=by
 rwa[On,QT,Pg h]
theorem FO{t:ZK}(b:t.rows≠[])(u:Up t.rows):(Zs t).lo=(Zs t).hi\/(Zs t).lo.lt (Zs t).hi=V':=by
 change (t.rows.getD 0 rc).1=(t.rows.getD (↑t.rows-1) rc).1\/((t.rows.getD 0 rc).1).lt ((t.rows.getD (↑t.rows-1) rc).1)=V';rcases e:t.rows with _ | ⟨r,l⟩
 .show absurd e b
 .rw[e] at u;let a:=Kz (rs:=r::l) ⋯
  rcases zN.mp a with z | z
  .rwa[z,.inl Z]
  .show .inr ((wX.mp u).1 _ (zA.mpr #[_,z,Z]))
theorem pC{a b:ZK}(e:a.rows≠[])(g:b.rows≠[])(i:Up a.rows)(j:Up b.rows)(h:(Zs a).hi.lt (Zs b).lo=V'):VY (Zs b) (Zs a)=false:=by
 have:(Zs b).hi.lt (Zs a).lo=false:=by
  let c:(Zs a).hi.lt (Zs b).hi=V':=by
   rcases FO g j with z | z
   .rwa[<-z,h]
   .show U' _ _ _ h z
  let d:(Zs a).lo.lt (Zs b).hi=V':=by
   rcases FO e i with z | z
   .rwa[z,c]
   .show U' _ _ _ z c
  show JT d
 unfold VY;rw[this,tV]
theorem Aa(T:Txt mg){cdv:ak}{A:ay}{outer:jB}{s:am}{H0:Hp}{E:XK}(hu:A.units=A.units):
  ∃ t,Xm (X7 ZX P w K mg jS JI "_law_not_ahead" (Za Q5) f cdv A outer s H0 E).nox ((X5 Q5).drop 8) t /\
   ∀{p u C:al}{G:je}{d:jp}{B:List (ju)}{H:Hp}{Q:VK}{X Y x5 O x7 S x9 y:jf}{h:Hp},Od K p u C G d B H Q->ZG h p->ZA p H h->∀ a b:Nat,O\.int (a:Int)->S\.int (b:Int)->a<↑d->b<↑d->over (YF d [a,b])=Y'->t { nx:=λ_ U=>Q .non U,rt:=Q } [Z' (.ref p),Z' (.ref u),Z' (.ref C),X,Y,x5,O,x7,S,x9,y] h:=by
 let nd:=YZ.nd;show#[_,ZL (Zh 10 nd (ZW WR (ZW WR (ZW WR Zu (VD PN Z T.str UL (ZM (pv 6)))) Zu) (VD PN Z T.str UL (ZM (pv 8)))))
  (ZR (Zl (Y2 (Zb (ZW Xn (ZW Xn (VZ (r:=Yj K) V2 (pv 2) V3 (Ws (Zp YO Z T.len YK (ZM (pv 1))))) (YY (ZM (pv 10)))) (VZ (r:=Yj K) V2 (pv 2) (Ws (Zp YO Z T.len YK (ZM (pv 1)))) V3)) (Zp YO Z T.len YK (ZM (pv 1))))))),fun{p u C G d B H Q X Y x5 O x7 S x9 y h} N I F a b J e8 la lb ov=>?_]
 subst J e8;let a1:=N.R.l24;let l:=Paired.length N.tg;let na:=Nl (a:=a) ∅
 let nb:=Nl (a:=b) ∅
 let l5:↑(zX "stem ")=5:=by decide +kernel
 let l1:↑(zX " ")=1:=by decide +kernel
 let sL:100<=sizeLine:=by decide
 exists 1,(a:Int),Z,PF (yG (show a<=30 by lia) (by decide)),_,1,Z,∅,_,1,Z,by rw[QN];lia,_,Z,(b:Int),Z,PF (yG (show b<=30 by lia) (by decide)),_,_,Z,Z,by rw[QN,QN];lia
 rw[GI];let g:=F _ _ N.htl N.tlp;let j:=F _ _ N.hrl N.rlp;let a0:=N.R.e28;let lr:=OQ d B;show NI (K:=K) (p:=p) (i:=2) (k:=↑d) (a:=C) (xs:=Z4 d B) (M:=λ_ v=>v=.str (ZS (WL++32::jn [Zy a,Zy b]))) I Z N.rlp j ∅ ∅ (λU Q s q=>#[1,u,G,Z,.inl (ZH.of (s _ _ g N.tlp)),#v[l,q]]) (λ_ _ _ m _=>m) (λh Q I F q=>#[1,q _ _ I (ZA.refl _ _) Z]) λH5 D v W5 W Dp h5 ev=>?_
 subst ev;exists 1,u,G,Z,.inl (ZH.of (W _ _ g N.tlp)),Ym;intro t nt;rw[l];let#[H6,J,L,h6]:=YN nt (.tup [V.ref D,V.int (↑d:Nat)]);rw[J];show N.k H6 t D _ ↑d (W5.same L) (λc o e n=>L _ _ (W _ _ (F c o e n) n)) h6 Dp (L _ _ h5) ?_ ?_
 .rw[zS,zV,zH,yV];lia
 .show GJ (bs:=[a,b]) N.R.pre (zW _) ⋯ (zK (zW 2) (by decide)) (λx hx=>by rcases zN.mp hx with z | z;lia;rw[zP.mp z];lia) (λ_=>ov) (by rw[yV];lia) (Pl (Qw _ _))
theorem pE(T:Txt mg)(DP:ZC P w K mg jS 1 "_law_pull" T2 Zm)(DR:ZC P w K mg jS 5 "_law_rank" T1 (Yb 4)){cdv:ak}{A:ay}{outer:jB}{s:am}{H0:Hp}{E:XK}(Y:ZU 5 (A.deeper (envOfC "_law_not_ahead" (Za Q5) s.heap.objs.size f cdv))):
  ∃ t,Xm (X7 ZX P w K mg jS JI "_law_not_ahead" (Za Q5) f cdv A outer s H0 E).nox ((X5 Q5).drop 4) t /\
   ∀{p m rl:al}{v:je}{d:jp}{es:List (ju)}{H:Hp}{Q:VK}{x3 x4 x5 x6 x7 x8 x9 U:jf}{X:Hp},Od K p m rl v d es H Q->ZG X p->ZA p H X->t { nx:=λ_ H'=>Q .non H',rt:=Q } [Z' (.ref p),Z' (.ref m),Z' (.ref rl),x3,x4,x5,x6,x7,x8,x9,U] X:=by
 let nd:=YZ.nd;let G:=Y.mono (show 1<=5 by lia)
 let#[t,gt,ht]:=Aa (K:=K) (mg:=mg) (P:=P) (w:=w) (jS:=jS) (f:=f) (cdv:=cdv) (A:=A) (outer:=outer) (s:=s) (H0:=H0) (E:=E) T Z;show#[_,ZL (Zh 6 nd (Ze DP G (Zb (pv 0) (Zp YO Z T.len YK (ZM (pv 1))))))
  (ZL (Zh 8 nd (Ze DP G (Zb (pv 0) (Zp YO Z T.len YK (ZM (pv 1))))))
  (ZL (Zh 9 nd (Ze DR Y (ZM (XI K (YC K (XI K (YC K (pv 1) (pv 6)) ZJ) (Pw OD ZJ)) ZJ))))
  (ZL (Zx (PW.pt (Pn (Z6 Y4 (XI K (YC K (pv 1) (pv 6)) ZJ) (XI K (YC K (pv 1) (pv 8)) ZJ) (Zz _)) (OJ (Z6 (HB Y) (pv 9) (Ze DR Y (ZM (XI K (YC K (XI K (YC K (pv 1) (pv 8)) ZJ) ZJ) ZJ))) (Zz _)))))
  (ZR (Ra (i:=6) (j:=8) Z nd Z Z (by decide) Z Z (Zb (pv 8) (pv 6)) (by rfl))) Z0)
  gt))),fun{p m rl v d es H Q x3 x4 x5 x6 x7 x8 x9 U X} N W1 s1=>?_]
 let i0:=N.R.l24;let l0:=N.R.l0;let i1:=Paired.length N.tg;let#[px,a8]:=N.W.some;let q:=s1 _ _ N.htl N.tlp;exists 2,m,v,Z,.inl (ZH.of q),p,1,W1,XZ ∅ (yG (show (↑v:Int).natAbs<=1000 by lia) (by decide))
 intro r2 H2 c5 i8 W2 s2;let#[a,rfl]:=yA c5;let I:=s2 _ _ q N.tlp;exists 2,m,v,Z,.inl (ZH.of I),p,1,W2,XZ ∅ (yG (show (↑v:Int).natAbs<=1000 by lia) (by decide))
 intro r3 H3 c6 i9 W3 s3;let#[b,rfl]:=yA c6;let y:a<↑d:=∅
 let B:b<↑d:=∅
 let k:ZA p H H3:=λc o e n=>s3 _ _ (s2 _ _ (s1 c o e n) n) n;let r:=k _ _ N.htl N.tlp;let S:Zn [p] H3 v d:=N.tg.step (λx h=>h) (λc o n e=>k c o e λz=>n (by rw[z];simp)) (k.tups a8)
 let#[na,fa]:=N.R.fo.ok a y;let#[nb,fb]:=N.R.fo.ok b B;let i5:=xN.mpr na;let c4:=xN.mpr nb;let#[u1,J,e3]:=UH S (U7 y);let#[a1,c9,e8,e7,rfl,C,a4,i6,c3,e1]:=Nn e3;let#[c7,e5,l1,a6,a0,a9]:=e1 (↑(gd d a).rows-1) ∅
 let#[u2,L,e4]:=UH S (U7 B);let#[a2,e0,e9,l3,rfl,D,a5,i7,i4,e2]:=Nn e4;let#[c8,e6,l2,a7,a3,c0]:=e2 0 c4;let u:((gd d a).rows.getD (↑(gd d a).rows-1) rc).1.fits 3=V':=(fa _ (Kz na)).1;let F:((gd d b).rows.getD 0 rc).1.fits 3=V':=(fb _ (Dy nb)).1;show#[2,.inl #[m,_,_,1,Z,ZH.of r,YW J,a1,_,_,1,Z,Zd.of C,Z,1,.inl #[c9,_,_,1,Z,ZH.of a4,Ik (zW 1) (show 1<=↑e7 by lia) #v[c3,a6],c7,_,_,1,Z,Zd.of a0,Z,e5,_,(3),Z,a9,u,uN (UO _ _ u),λi2 H4 c1 l=>?_]]]
 let M:ZA p H H4:=λc o e n=>l _ _ (k c o e n);let W4:=W3.same l;let g:=l _ _ r;let t4:=ZD.tups l;show#[2,.inl #[m,_,_,1,Z,ZH.of g,YW J,a1,_,_,1,Z,Zd.of (l _ _ C),Z,2,.inl #[m,_,_,1,Z,ZH.of g,YW L,a2,_,_,1,Z,Zd.of (l _ _ D),Z,Z,1,?_]]];by_cases eh:V.int ((gd d a).h:Nat)=V.int ((gd d b).h:Nat)
 .rw[aM eh];show Zq #[3,.inl #[m,_,_,1,Z,ZH.of g,YW L,a2,_,_,1,Z,Zd.of (l _ _ D),Z,.inl #[e0,_,_,1,Z,ZH.of (l _ _ a5),YW (j:=0) a7,c8,_,_,1,Z,Zd.of (l _ _ a3),Z,e6,_,(3),Z,c0.mono t4 _ _,F,uN (UO _ _ F),λi3 H5 c2 s5=>?_]]];let O:ZA p H H5:=λc o e n=>s5 _ _ (M c o e n);exists _,_,c1.sm s5,c2,LY _ _,zK (N5 _) (by have:=UO _ _ u;lia),_,Z
  rw[K2]
  cases el:((gd d a).rows.getD (↑(gd d a).rows-1) rc).1.lt ((gd d b).rows.getD 0 rc).1 with
  | true=>
   show Zq #[2,_,1,?_];show ht N (W4.same s5) O b a Z Z B y (LX (pC na nb (N.R.fo.up y) (N.R.fo.up B) el))
  | false=>
   show Zo ?_;show ht N (W4.same s5) O a b Z Z y B (LX ?_);change ((Zs (gd d a)).h==(Zs (gd d b)).h&&(Zs (gd d a)).hi.lt (Zs (gd d b)).lo)=false;rw[show (Zs (gd d a)).hi.lt (Zs (gd d b)).lo=false from el,tV]
 .rw[aK eh];show Zo (Zo ?_);show ht N W4 M a b Z Z y B (LX ?_);change ((Zs (gd d a)).h==(Zs (gd d b)).h&&(Zs (gd d a)).hi.lt (Zs (gd d b)).lo)=false;rw[show ((Zs (gd d a)).h==(Zs (gd d b)).h)=false from beq_eq_false_iff_ne.mpr λz=>eh (congrArg V.int z),vG]
theorem qz(T:Txt mg)(W:ZC P w K mg jS 1 "_law_pull" T2 Zm)(DR:ZC P w K mg jS 5 "_law_rank" T1 (Yb 4)){cdv:ak}{A:ay}{outer:jB}{s:am}{H0:Hp}{E:XK}(hr:ZU 5 (A.deeper (envOfC "_law_not_ahead" (Za Q5) s.heap.objs.size f cdv))):
  ∃ t,Xm (X7 ZX P w K mg jS JI "_law_not_ahead" (Za Q5) f cdv A outer s H0 E).nox ((X5 Q5).drop 3) t /\
   ∀{p G C:al}{I:je}{l:jp}{B:List (ju)}{H:Hp}{Q:VK}{U x4 x5 x6 x7 x8 x9 u:jf}{b:Hp},Od K p G C I l B H Q->ZG b p->ZA p H b->∀ L:Int,U\.int L->t { nx:=λ_ X=>Q .non X,rt:=Q } [Z' (.ref p),Z' (.ref G),Z' (.ref C),U,x4,x5,x6,x7,x8,x9,u] b:=by
 let nd:=YZ.nd;let J:=hr.mono (show 1<=5 by lia)
 let#[t,gt,ht]:=pE (K:=K) (mg:=mg) (P:=P) (w:=w) (jS:=jS) (f:=f) (cdv:=cdv) (A:=A) (outer:=outer) (s:=s) (H0:=H0) (E:=E) T W DR hr;show#[_,ZL (Zx (Z6 Y4 (pv 3) ZJ (Zz _))
  (ZL (Zh 6 nd (Ze W J (Zb (pv 0) (ZW Yo (Zp YO Z T.len YK (ZM (pv 1))) ZJ))))
  (ZR (Zl (Y2 (Zb (ZW Xn (ZW Xn (VZ (r:=Yj K) V2 (pv 2) V3 (Ws (pv 6))) (YY (ZM (ZW WR (ZW WR (ZW WR Zu (VD PN Z T.str UL (ZM (pv 6)))) Zu) (VD PN Z T.str UL (ZM (ZW Yo (pv 6) ZJ))))))) (VZ (r:=Yj K) V2 (pv 2) (Ws (pv 6)) V3)) (pv 6)))))) Z0)
  gt,fun{p G C I l B H Q U x4 x5 x6 x7 x8 x9 u b} N y F L e3=>?_]
 subst e3;exists 1,Z,_,Z;by_cases Y:V.int L=V.int 1
 case neg=>
  rwa[aK Y,Zo (ht N y F)]
 rw[aM Y];let a1:=N.R.l24;let a0:=N.R.e28;let a2:=Paired.length N.tg;let g:=F _ _ N.htl N.tlp;show Zq #[2,G,I,Z,.inl (ZH.of g),_,1,Z,p,1,y,XZ ∅ (yG (show ((↑I:Int)+1).natAbs<=1000 by lia) (by decide)),λr2 H2 O a3 W2 s2=>?_]
 let#[a,rfl]:=yA O;let la:a<=↑l:=∅
 let na:=Nl (a:=a) ∅
 let nb:=Nl (a:=a+1) ∅
 let l5:↑(zX "stem ")=5:=by decide +kernel
 let l1:↑(zX " ")=1:=by decide +kernel
 let sL:100<=sizeLine:=by decide
 let j:ZA p H H2:=λc o e n=>s2 _ _ (F c o e n) n;let d:=j _ _ N.hrl N.rlp;let lr:=OQ l B;show NI (K:=K) (p:=p) (i:=2) (k:=a) (a:=C) (xs:=Z4 l B) (M:=λ_ v=>v=.str (ZS (WL++32::jn [Zy a,Zy (a+1)]))) W2 Z N.rlp d ∅ ∅ (λX Q s q=>#[1,q]) (λ_ _ _ m _=>m) (λb Q y F q=>?_) λH5 D v W5 s5 Dp h5 ev=>?_
 .exists 1,(a:Int),Z,PF (yG (show a<=30 by lia) (by decide)),_,1,Z,∅,_,1,Z,by rw[QN];lia,_,Z,_,_,Z,Z,((a+1:Nat):Int),Z,PF (yG (show a+1<=30 by lia) (by decide)),_,_,Z,Z,by rw[QN,QN];lia
  rwa[GI,q _ _ y (ZA.refl _ _) Z]
 subst ev;exists 1,Ym;intro t nt;let#[H6,e6,S,h6]:=YN nt (.tup [V.ref D,V.int (a:Nat)]);rw[e6];show N.k H6 t D _ a (W5.same S) (λc o e n=>S _ _ (s5 _ _ (j c o e n) n)) h6 Dp (S _ _ h5) ?_ ?_
 .rw[zS,zV,zH,yV];lia
 .show GJ (bs:=[a,a+1]) N.R.pre la ⋯ (zK (zW 2) (by decide)) (λx hx=>by rcases zN.mp hx with z | z;lia;rw[zP.mp z];lia) (λh=>absurd (h a zQ) (xQ a)) (by rw[yV];lia) (Pl (Qw _ _))
theorem vo{A:jv}{H:Hp}{u:V}{t:ZK}(h:Xa A H u t):∃(a d:al)(b:V),u=.ref a/\H a\.tup [.int (t.h:Nat),b,.ref d]/\(t.h≠0->∃ c,b=.ref c/\c∉A/\H c\.lst (iN t.bs)):=by
 induction h
 rename_i a d b l t e k g j i f
 show#[a,d,b,Z,e,f]
theorem Do{n j:Nat}(h:j<n):QD n (j:Int)\j:=by
 unfold QD;rw[aP ∅,aP ∅];simp
theorem Eb{H:Hp}:∀ a:jo,jK H (a.map λn:Nat=>KT.int (n:Int)) (iN a)
 | []=>.nil
 | n::a=>.cons (by rw[ZE]) (Eb a)
theorem MF{a:jp}{b:List (ju)}{i:Nat}(h:i<↑a):(Z4 a b)[i]?\.str (ZS (Y3 (gd a i))):=by
 rw[wS #v[zY,h],zF,U7 h];rfl
theorem kU(F:Zk K "_law_not_ahead" "_law_not_ahead" Q5 f fd)(T:Txt mg)(DP:ZC P w K mg jS 1 "_law_pull" T2 Zm)(DR:ZC P w K mg jS 5 "_law_rank" T1 (Yb 4)):ZI P w K mg jS ZX 6 f fd TJ (Wz K):=by
 show F.ok YZ (λvs H Q E h=>(by induction h;rfl)) (λi8 A a7 s H vs Q E hr h=>?_)
 induction h
 rename_i p tl rl us g I H Q E W c1 a8 a6 tg a5 R_ k
 let nd:=YZ.nd;let#[t,gt,ht]:=qz (K:=K) (mg:=mg) (P:=P) (w:=w) (jS:=jS) (f:=f) (cdv:=i8) (A:=A) (outer:=a7) (s:=s) (H0:=H) (E:=E) T DP DR hr;let a4:=hr.mono (show 1<=5 by lia)
 intro Xc;show#[_,ZL (Zh 3 nd (Ze DP a4 (Zb (pv 0) ZJ)))
  (ZL (Kr (i:=4) [1] ["_law_twigs"] nd Z Z Z (QO Z T.range (ZM (Zp YO Z T.len YK (ZM (pv 1))))) (λ_ _ _ _ _=>Gj (Ps (Lc (XI K (YC K (pv 1) (pv 0)) ZJ)))) (λ_ _ _ _ _=>pv 0) #[Z,.inl Z,Z,trivial])
  (ZL (Zx (PW.pt (Pn (Z6 Y4 (pv 3) ZJ (Zz _)) (OJ (Z6 (w6 hr) (pv 4) (YY Zv) (Zz _)))))
  (ZL (Zh 5 nd (YC K (pv 4) (Ze DP a4 (Zb (pv 0) (Zp YO Z T.len YK (ZM (pv 4)))))))
  (ZL (Zh 6 nd (YC K (XI K (YC K (pv 1) (pv 5)) ZJ) (Ze DP a4 (Zb (pv 0) (Zp YO Z T.len YK (ZM (XI K (YC K (pv 1) (pv 5)) ZJ)))))))
  (ZL (Zh 7 nd (VD LJ Z T.list Mj (ZM (pv 2))))
  (ZL (Nk (YC K (pv 2) (pv 5)) (Ml (pv 7) (pv 6) Ld))
  (ZL (Nk (YC K (pv 2) (pv 6)) (Ml (pv 7) (pv 5) Ld))
  (ZR (Zl (Y2 (Zb (pv 7) (pv 6)))))))))) Z0)
  gt)),?_]
 let n0:=Paired.length tg;let#[px,e0]:=W.some;let m8:=R_.l24;let l0:=R_.l0;exists 1,p,(3),Z,W,#[by decide,by decide]
 intro r1 H1 n2 n3 W1 s1;let M:=s1 _ _ a6 c1;let e2:=s1 _ _ a5 a8;let i0:Zn [p] H1 us g:=tg.step (λx h=>h) (λc o n e=>s1 c o e λz=>n (by rw[z];simp)) (s1.tups e0)
 exists 1,tl,us,Z,.inl (ZH.of M),1,∅,by lia
 show IA (n:=↑us) (λi z=>z=.int (0+(i:Int))) (λi=>!decide ((gd g i).h=0)) (λR i ys C=>ZD H1 C/\H1 R=Y'/\ys=iN ((zG i).filter λi=>!decide ((gd g i).h=0))) (YQ ∅)
  (λR i ys C J X=>J) (λR i ys C z H9 J X hy=>hy) (λR ys C X=>zW _) (λR hR=>#[Zr hR _,hR,Z]) (λR i ys C z eR J hz X Rr a2=>?_) (λR i ys C z eR J hz hk X Rr a2=>?_) (λR i ys C eR J hk X=>?_) (λR ys C eR X=>?_)
 .let#[B,Y,rfl]:=X;subst hz;let#[u,hu,tb]:=UH i0 (U7 (show i<↑g by lia))
  let#[a,n6,bV,ws,rfl,ea,_,_,b0,b1]:=D' tb;show#[2,.inl #[tl,_,_,1,congrArg V.int (vL _),ZH.of (B _ _ M),YW hu,a,_,_,1,Z,Zd.of (B _ _ ea),Z,?_]];let eq:(λi=>!decide ((gd g i).h=0)) i = !decide (bV=V.non):=by
   by_cases h0:(gd g i).h=0
   .rw[b0 h0];simp[h0]
   .let#[bl,e,_]:=b1 h0;rw[e];simp[h0]
  exists _,Z;rwa[<-eq,a2 C eR #[B,Y,Z]]
 .let#[B,Y,rfl]:=X;subst hz;show#[1,a2 _ C eR #[UJ B Y,Y,?_]];rw[xA,uK,wJ,aP hk];unfold iN;rw[yX,vL];rfl
 .let#[B,Y,rfl]:=X;exists B,Y;rw[xA,uK,wJ,hk];unfold iN;simp
 .let#[B,Y,rfl]:=X;obtain⟨v,ew⟩:∃ v,v=(zG ↑us).filter (λi=>!decide ((gd g i).h=0)):=#[1];rw[<-ew] at eR;let lw:↑v<=↑us:=by
   rwa[ew,zK (rT _ _) (by rw[vR];show zW _)]
  let mw:∀ i∈v,i<↑g/\(gd g i).h≠0:=λi hi=>by
   rw[ew,wD] at hi;have:=yZ.mp hi.1;show#[∅,by simpa using hi.2]
  let m0:ZA p H1 C:=λc o e _=>B c o e;let e5:=s1.trans m0;let W8:=W1.same B;let m4:=B _ _ M;let m3:=B _ _ e2;let n8:Zn [p] C us g:=i0.same (λx h=>h) B;let N:Od K p tl rl us g I H Q:=#[W,c1,a8,a6,tg,a5,R_,k];exists 1,Z,_,Z;by_cases e1:V.int r1=V.int 0
  case neg=>
   rwa[aK e1,Zo (Zo (ht N W8 e5 r1 Z))]
  rw[aM e1];show Zq #[1,Ym,λq nq=>?_];let#[H9,e9,s9,h9]:=YN nq (.lst []);rw[e9];let a0:=s9 _ _ eR;exists R,q,_,[],v.map λn:Nat=>KT.int (n:Int),[],Z,Z,ZH.of a0,ZH.of h9,Eb v,.nil,λt ht=>?_,_,Z
  .let#[n,_,rfl]:=zA.mp ht;rw[KT.depth];lia
  let W9:=W8.same s9;let e6:ZA p H H9:=λc o e n=>s9 _ _ (e5 c o e n);by_cases wn:v=[]
  .rwa[wn,Zo (ht N W9 e6 r1 Z)]
  rw[show (!jM (v.map λn:Nat=>KT.int (n:Int)) [])=V' by
   cases v with
   | nil=>show absurd Z wn
   | cons a l=>rfl]
  let n9:=xN.mpr wn;let n1:↑(iN v)=↑v:=zY _;show Zq #[3,R,1,.inl (ZH.of a0),p,1,W9,XZ ∅ (yG (show (↑(iN v):Int).natAbs<=1000 by lia) (by decide)),λr2 c3 l7 n4 i6 e7=>?_]
  let#[m,rfl]:=yA l7;let#[yp,m7]:=W9.some;let#[y1,l4]:=W1.some;let Rp:R≠p:=(Zf l4 Y).symm;let c9:=e7 _ _ a0 Rp;let l5:m<↑v:=∅
  obtain⟨c,ec⟩:∃ c,v[m]?\c:=#[_,zU l5];let#[lc,a3]:=mw c (zI ec);show .inl #[R,_,_,.int (c:Nat),Z,Z,ZH.of c9,YW (by rw[zF,ec];rfl),?_]
  let r:ZA p H c3:=λc o e n=>e7 _ _ (e6 c o e n) n;let O:=r _ _ a6 c1;let i1:Zn [p] c3 us g:=tg.step (λx h=>h) (λc o n e=>r c o e λz=>n (by rw[z];simp)) (r.tups e0)
  let#[u1,e3,m1]:=UH i1 (U7 lc);let#[a1,n7,m5,rfl,c5,b1]:=vo m1;let#[bl,rfl,l6,c6]:=b1 a3;let#[_,b2,b4,bb,_]:=R_.fo.st c lc a3;let m9:↑(iN (gd g c).bs)=↑(gd g c).bs:=zY _;let i7:bl≠p:=λz=>l6 (by rw[z];simp)
  show#[2,.inl #[tl,_,_,1,Z,ZH.of O,YW e3,a1,_,_,1,Z,Zd.of c5,Z,3,.inl #[tl,_,_,1,Z,ZH.of O,YW e3,a1,_,_,1,Z,Zd.of c5,Z,bl,1,.inl (ZH.of c6),p,1,i6,XZ ∅ (yG (show (↑(iN (gd g c).bs):Int).natAbs<=1000 by lia) (by decide)),λr3 i3 l8 n5 c4 e8=>?_]]]
  let#[m2,rfl]:=yA l8;let mb:m2<↑(gd g c).bs:=∅
  obtain⟨b,eb⟩:∃ b,(gd g c).bs[m2]?\b:=#[_,zU mb];let bm:=zI eb;let bc:=(bb b bm).1;show .inl #[bl,_,_,.int (b:Nat),Z,Z,ZH.of (e8 _ _ c6 i7),YW (by rw[zF,eb];rfl),?_]
  let S:ZA p H i3:=λc o e n=>e8 _ _ (r c o e n) n;let j:=S _ _ a5 a8;let lr:=OQ g I;let m6:=R_.e28;exists 1,rl,1,.inl (ZH.of j);intro D nD;let#[y,i9,a9,l2]:=YN nD (.lst (Z4 g I));rw[i9];let L:=a9 _ _ j;let#[o0,e4]:=c4.some;let Dp:D≠p:=(Zf e4 nD).symm;let l9:rl≠D:=Zf j nD;show#[2,.inl #[rl,_,_,1,Z,ZH.of L,YW (MF lc),?_]];exists 2,D,_,_,b,Z,Z,l2,Do ∅
  let lb:b<↑g:=xH bc lc;let c2:ZA D y (upd y D (.lst ((Z4 g I).set b (.str (ZS (Y3 (gd g c))))))):=(ZA.refl D y).upd;let c7:upd y D (.lst ((Z4 g I).set b (.str (ZS (Y3 (gd g c)))))) D\.lst ((Z4 g I).set b (.str (ZS (Y3 (gd g c))))):=ZY;generalize upd y D (.lst ((Z4 g I).set b (.str (ZS (Y3 (gd g c))))))=G at c2 c7⊢;show#[2,.inl #[rl,_,_,1,Z,ZH.of (c2 _ _ L l9),YW (MF lb),?_]];exists 2,D,_,_,c,Z,Z,c7,Do (by rw[sW];lia)
  let i2:ZA D G (upd G D (.lst (((Z4 g I).set b (.str (ZS (Y3 (gd g c))))).set c (.str (ZS (Y3 (gd g b))))))):=(ZA.refl D G).upd;let c8:upd G D (.lst (((Z4 g I).set b (.str (ZS (Y3 (gd g c))))).set c (.str (ZS (Y3 (gd g b)))))) D\.lst (((Z4 g I).set b (.str (ZS (Y3 (gd g c))))).set c (.str (ZS (Y3 (gd g b))))):=ZY;generalize upd G D (.lst (((Z4 g I).set b (.str (ZS (Y3 (gd g c))))).set c (.str (ZS (Y3 (gd g b))))))=i4 at i2 c8⊢;exists 2,Ym;intro t nt;let#[i5,l1,c0,l3]:=YN nt (.tup [V.ref D,V.int (b:Nat)]);rw[l1];let U:ZA D y i4:=λc o e n=>i2 _ _ (c2 _ _ e n) n;show k i5 t D _ b (((c4.same a9).stay U Dp.symm).same c0) (λc o e n=>c0 _ _ (U _ _ (a9 _ _ (S _ _ e n)) (Zf (S _ _ e n) nD))) l3 Dp (c0 _ _ c8) ?_ ?_
  .rw[sW,sW];lia
  .rw[List.set_eq_take_append_cons_drop (i:=b),aP ∅]
   rw[List.set_append_right _ _ (by rw[zH];lia),zH,xG ∅]
   obtain⟨d,ed⟩:∃ d,c-b=d+1:=#[c-b-1,∅]
   rw[ed,List.set_cons_succ];rwa[show Y3 (gd g c)=WL++32::jn ((gd g c).bs.map Zy) from aO a3,GJ (bs:=(gd g c).bs) R_.pre ∅ (λz=>by rw[z] at b2;show absurd b2 (by decide)) ∅ (λx hx=>by have:=(bb x hx).1;lia) (λh=>absurd (h b bm) (xQ b)) (by rw[sW,yV];lia) (uw (Pl (Qw _ _)) Z)]
abbrev JO:jr:=["_law_well_here","_law_twigs","_law_rows","_law_way","_law_more","_law_found","_law_at","_law_bad","_law_other"]
theorem XC:ZB JO TJ (Za QS):=Z2
theorem Pt{p:al}{H a:Hp}{d:jp}{v:V}(b:ZV K [p] H d v)(s:ZA p H a):ZV K [p] a d v:=b.step (λx h=>h) λc o n e=>s c o e λz=>n (by rw[z];simp)
theorem N3{p:al}{H d:Hp}{i:je}{g:jp}(W:ZG H p)(b:Zn [p] H i g)(s:ZA p H d):Zn [p] d i g:=by
 let#[j,a]:=W.some;show b.step (λx h=>h) (λc o n e=>s c o e λz=>n (by rw[z];simp)) (s.tups a)
theorem Rg{a:jp}{b:List (ju)}(R:QP a b){i:Nat}(h:i<↑(Z4 a b)):∃ l,(Z4 a b)[i]?\.str (ZS l)/\WP a l:=by
 rw[OQ] at h;rcases yW i ↑a with y | y
 .show#[_,MF y,.twig y]
 .obtain⟨e,c⟩:∃ e,b[i-↑a]?\e:=#[_,zU ∅]
  show#[QL e,?_,.ends λr d=>R.inn r (by rwa[<-d,zI c])]
  rw[wN #v[zY,y],zY,zF,c];rfl
theorem zk(T:Txt mg)(DP:ZC P w K mg jS 1 "_law_pull" T2 Zm)(DB:ZC P w K mg jS 2 "_law_bad_row" Ty (Ye K)){cdv:ak}{A:ay}{outer:jB}{s:am}{H0:Hp}{E:XK}(hr:ZU 6 (A.deeper (envOfC "_law_spoilt" (Za QS) s.heap.objs.size f cdv))):
  ∃ t,Xm (X7 ZX P w K mg jS JO "_law_spoilt" (Za QS) f cdv A outer s H0 E).nox ((X5 QS).drop 9) t /\
   ∀{p tl J:al}{us:je}{b:jp}{g:List (ju)}{H:Hp}{Q:VK}{x3 x4 x5 x6 x7 x8:jf}{x:Hp},Od K p tl J us b g H Q->ZG x p->ZA p H x->∀(a:Nat)(z:al)(v:V),x6\.int (a:Int)->x5\.ref z->a<=↑(Z4 b g)->z≠p->x z\.lst ((Z4 b g).take a++v::(Z4 b g).drop a)->ZV K [p] x b v->t { nx:=λ_ O=>Q .non O,rt:=Q } [Z' (.ref p),Z' (.ref tl),Z' (.ref J),x3,x4,x5,x6,x7,x8] x:=by
 let nd:=XC.nd;let a1:=hr.mono (show 1<=6 by lia)
 let a2:=hr.mono (show 2<=6 by lia)
 show#[_,ZL (Zh 4 nd (Ze DP a1 (Zb (pv 0) (ZW Yo (Zp YO Z T.len YK (ZM (pv 5))) ZJ))))
  (ZL (Zh 8 nd (Ze DB a2 (WE (pv 0) (Zb (pv 1) (YC K (pv 2) ZJ)))))
  (ZL (Zx (Z6 Qf (pv 4) (pv 6) (Zz _)) (ZR (Zl (Y2 (Zb (ZW Xn (ZW Xn (VZ (r:=Yj K) V2 (pv 5) V3 (Ws (pv 4))) (YY (ZM (pv 8)))) (VZ (r:=Yj K) V2 (pv 5) (Ws (pv 4)) V3)) (pv 4))))) Z0)
  (ZR (Zl (Y2 (Zb (ZW Xn (ZW Xn (VZ (r:=Yj K) V2 (pv 5) V3 (Ws (pv 4))) (YY (ZM (pv 8)))) (VZ (r:=Yj K) V2 (pv 5) (Ws (pv 4)) V3)) (pv 6))))))),fun{p tl J us b g H Q x3 x4 x5 x6 x7 x8 x} N B s1 a z v e6 e5 ha I hF bv=>?_]
 subst e6 e5;let a3:=N.R.l24;let l0:=N.R.l0;let a5:=N.R.e28;let lr:=OQ b g;let lF:↑((Z4 b g).take a++v::(Z4 b g).drop a)=↑b+↑g+1:=by rw[zS,zV,zH,yV];lia
 let iF:Vc ((Z4 b g).take a++v::(Z4 b g).drop a):=ED (BX (Qw _ _)) (MT bv.itm (Pl (Qw _ _)));generalize eF:(Z4 b g).take a++v::(Z4 b g).drop a=h at hF lF iF;exists 2,z,1,.inl (ZH.of hF),_,1,Z,p,1,B,XZ ∅ (yG (show ((↑h:Int)+1).natAbs<=1000 by lia) (by decide))
 intro r2 H2 a4 a6 W2 s2;let#[m,rfl]:=yA a4;let l:ZA p H H2:=λc o e n=>s2 _ _ (s1 c o e n) n;let a0:=s2 _ _ hF I;show#[3,.inl #[J,_,_,1,Z,ZH.of (l _ _ N.hrl N.rlp),YW (j:=0) (MF l0),.mk W2 N.tlp (l _ _ N.htl N.tlp) (N3 N.W N.tg l) N.R.fo a3 (.twig l0) λH3 ov W3 s3 bo=>?_]];let F:ZA p H H3:=λc o e n=>s3 _ _ (l c o e n) n;let C:=s3 _ _ a0 I;let U:ZV K [p] H3 b v:=Pt (Pt bv s2) s3;let lm:m<=↑h:=∅
 exists 2,_,1,Z,_,Z;by_cases le:(m:Int)<=(a:Int)
 .rw[aM le];show Zq ?_;show NI (K:=K) (p:=p) (i:=5) (k:=m) (a:=z) (xs:=h) (M:=λ_ y=>y=ov) W3 Z I C lm ∅ (λO Q s q=>#[1,q]) (λ_ _ _ m _=>m) (λx Q B s1 q=>#[1,q _ _ B (ZA.refl _ _) Z]) λH5 D y S G L h5 ey=>?_
  subst ey;exists 1,Ym;intro t nt;let#[HZ,X,u,hZ]:=YN nt (.tup [V.ref D,V.int (m:Nat)]);rw[X];show N.k HZ t D _ m (S.same u) (λc o e n=>u _ _ (G _ _ (F c o e n) n)) hZ L (u _ _ h5) ?_ ?_
  .rw[zS,zV,zH,yV];lia
  .let Y:h.take m=(Z4 b g).take m:=by
    rw[<-eF,pT (by rw[zH];lia),List.take_take,xG ∅]
   rwa[Y,L0 N.R.fo N.R.pre (λ_ _ _=>rfl) ∅ (Pt bo (λc o e n=>u _ _ (G c o e n))) (by rw[yV];lia) (Pl iF)]
 .rw[aK le];show Zo ?_;show NI (K:=K) (p:=p) (i:=5) (k:=m) (a:=z) (xs:=h) (M:=λ_ y=>y=ov) W3 Z I C lm ∅ (λO Q s q=>#[1,q]) (λ_ _ _ m _=>m) (λx Q B s1 q=>#[1,q _ _ B (ZA.refl _ _) Z]) λH5 D y S G L h5 ey=>?_
  subst ey;exists 1,Ym;intro t nt;let#[HZ,X,u,hZ]:=YN nt (.tup [V.ref D,V.int (a:Nat)]);rw[X];show N.k HZ t D _ a (S.same u) (λc o e n=>u _ _ (G _ _ (F c o e n) n)) hZ L (u _ _ h5) ?_ ?_
  .rw[zS,zV,zH,yV];lia
  .let Y:h.take m++y::h.drop m=(Z4 b g).take a++v::(((Z4 b g).drop a).take (m-a-1)++y::h.drop m):=by
    obtain⟨d,ed⟩:∃ d,m=a+(d+1):=#[m-a-1,∅]
    rw[show h.take m=(Z4 b g).take a++v::((Z4 b g).drop a).take (m-a-1) by
     rw[<-eF,List.take_append,zH,xG ha,yH (by rw[zH];lia),ed,show a+(d+1)-a=d+1 by lia,vO];rfl]
    rw[yM];rfl
   rwa[Y,L0 N.R.fo N.R.pre (λ_ _ _=>rfl) ∅ (Pt U (λc o e n=>u _ _ (G c o e n))) (by rw[zS,zV,zH,yV,yV];lia) (ED (BX (Pl (Qw _ _))) (MT bo.itm (Pl iF)))]
theorem RM(T:Txt mg)(O:ZC P w K mg jS 1 "_law_pull" T2 Zm)(DB:ZC P w K mg jS 2 "_law_bad_row" Ty (Ye K)){cdv:ak}{A:ay}{outer:jB}{s:am}{H0:Hp}{E:XK}(X:ZU 6 (A.deeper (envOfC "_law_spoilt" (Za QS) s.heap.objs.size f cdv))):
  ∃ t,Xm (X7 ZX P w K mg jS JO "_law_spoilt" (Za QS) f cdv A outer s H0 E).nox ((X5 QS).drop 5) t /\
   ∀{p tl d:al}{us:je}{g:jp}{h:List (ju)}{H:Hp}{Q:VK}{x3 x4 x5 x6 x7 x8:jf}{j:Hp},Od K p tl d us g h H Q->ZG j p->ZA p H j->∀ r1:Int,x3\.int r1->t { nx:=λ_ H'=>Q .non H',rt:=Q } [Z' (.ref p),Z' (.ref tl),Z' (.ref d),x3,x4,x5,x6,x7,x8] j:=by
 let nd:=XC.nd;let u:=X.mono (show 1<=6 by lia)
 let Y:=X.mono (show 2<=6 by lia)
 let#[t,gt,ht]:=zk (K:=K) (mg:=mg) (P:=P) (w:=w) (jS:=jS) (f:=f) (cdv:=cdv) (A:=A) (outer:=outer) (s:=s) (H0:=H0) (E:=E) T O DB X;show#[_,ZL (Zh 6 nd (Ze O u (Zb (pv 0) (ZW Yo (Zp YO Z T.len YK (ZM (pv 2))) ZJ))))
  (ZL (Zh 7 nd (Ze DB Y (WE (pv 0) (Zb (pv 1) (YC K (pv 2) (Ze O u (Zb (pv 0) (Zp YO Z T.len YK (ZM (pv 2))))))))))
  (ZL (Zh 5 nd (ZW Xn (ZW Xn (VZ (r:=Yj K) V2 (pv 2) V3 (Ws (pv 6))) (YY (ZM (pv 7)))) (VZ (r:=Yj K) V2 (pv 2) (Ws (pv 6)) V3)))
  (ZL (Zx (Z6 OA (pv 3) ZJ (Zz _)) (ZR (Zl (Y2 (Zb (pv 5) (pv 6))))) Z0)
  gt))),fun{p tl d us g h H Q x3 x4 x5 x6 x7 x8 j} N S J r1 e3=>?_]
 subst e3;let a0:=N.R.l24;let l0:=N.R.l0;let a4:=N.R.e28;let lr:=OQ g h;let x:=J _ _ N.hrl N.rlp;exists 2,d,1,.inl (ZH.of x),_,1,Z,p,1,S,XZ ∅ (yG (show ((↑(Z4 g h):Int)+1).natAbs<=1000 by lia) (by decide))
 intro r2 H2 a1 a5 W2 s2;let#[a,rfl]:=yA a1;let F:ZA p H H2:=λc o e n=>s2 _ _ (J c o e n) n;let z:=F _ _ N.hrl N.rlp;exists 5,d,1,.inl (ZH.of z),p,1,W2,XZ ∅ (yG (show (↑(Z4 g h):Int).natAbs<=1000 by lia) (by decide))
 intro r3 H3 a2 a6 W3 s3;let#[c,rfl]:=yA a2;let b:ZA p H H3:=λc o e n=>s3 _ _ (F c o e n) n;let B:=b _ _ N.hrl N.rlp;let#[tx,U,a3]:=Rg N.R (i:=c) ∅
 show .inl #[d,_,_,1,Z,ZH.of B,YW U,.mk W3 N.tlp (b _ _ N.htl N.tlp) (N3 N.W N.tg b) N.R.fo a0 a3 λH4 v W4 s4 bv=>?_];let G:ZA p H H4:=λc o e n=>s4 _ _ (b c o e n) n;let C:=G _ _ N.hrl N.rlp;show NI (K:=K) (p:=p) (i:=2) (k:=a) (a:=d) (xs:=Z4 g h) (M:=λH y=>y=v/\ZV K [p] H g v) W4 Z N.rlp C ∅ ∅ (λH' Q s q=>#[1,q]) (λ_ _ _ m s=>#[m.1,Pt m.2 (λc o e _=>s c o e)]) (λj Q S J q=>#[1,q _ _ S (ZA.refl _ _) #[Z,Pt bv J]]) λH5 D y W5 s5 Dp h5 ey=>?_
 let#[rfl,l]:=ey;let I:ZA p H H5:=λc o e n=>s5 _ _ (G c o e n) n;exists 1,_,1,Z,_,Z;by_cases le:r1<5
 .rw[aM le];show Zq #[2,Ym,λt nt=>?_];let#[HZ,eZ,L,hZ]:=YN nt (.tup [V.ref D,V.int (a:Nat)]);rw[eZ];show N.k HZ t D _ a (W5.same L) (λc o e n=>L _ _ (I c o e n)) hZ Dp (L _ _ h5) ?_ ?_
  .rw[zS,zV,zH,yV];lia
  .show L0 N.R.fo N.R.pre (λ_ _ _=>rfl) ∅ (Pt l (λc o e _=>L _ _ e)) (by rw[yV];lia) (Pl (Qw _ _))
 .rwa[aK le,Zo (ht N W5 I a D y Z Z ∅ Dp h5 l)]
theorem Rv(T:Txt mg)(G:ZC P w K mg jS 1 "_law_pull" T2 Zm)(DB:ZC P w K mg jS 2 "_law_bad_row" Ty (Ye K)){cdv:ak}{A:ay}{outer:jB}{s:am}{H0:Hp}{E:XK}(I:ZU 6 (A.deeper (envOfC "_law_spoilt" (Za QS) s.heap.objs.size f cdv))):
  ∃ t,Xm (X7 ZX P w K mg jS JO "_law_spoilt" (Za QS) f cdv A outer s H0 E).nox ((X5 QS).drop 4) t /\
   ∀{p l j:al}{d:je}{h:jp}{u:List (ju)}{H:Hp}{Q:VK}{U x4 x5 x6 x7 x8:jf}{B:Hp},Od K p l j d h u H Q->ZG B p->ZA p H B->∀ C:Int,U\.int C->t { nx:=λ_ W=>Q .non W,rt:=Q } [Z' (.ref p),Z' (.ref l),Z' (.ref j),U,x4,x5,x6,x7,x8] B:=by
 let nd:=XC.nd;let v:=I.mono (show 1<=6 by lia)
 let a1:=I.mono (show 2<=6 by lia)
 let#[t,gt,ht]:=RM (K:=K) (mg:=mg) (P:=P) (w:=w) (jS:=jS) (f:=f) (cdv:=cdv) (A:=A) (outer:=outer) (s:=s) (H0:=H0) (E:=E) T G DB I;show#[_,ZL (Zx (Z6 Y4 (pv 3) ZJ (Zz _))
   (ZL (Zh 6 nd (ZW Yo (ZW Yo (Zp YO Z T.len YK (ZM (pv 1))) ZJ) (Ze G v (Zb (pv 0) (ZW Ui (Zp YO Z T.len YK (ZM (pv 2))) (Zp YO Z T.len YK (ZM (pv 1))))))))
   (ZR (Zl (Y2 (Zb (ZW Xn (ZW Xn (VZ (r:=Yj K) V2 (pv 2) V3 (Ws (pv 6))) (YY (ZM (YC K (pv 2) (Ze G v (Zb (pv 0) (Zp YO Z T.len YK (ZM (pv 1))))))))) (VZ (r:=Yj K) V2 (pv 2) (Ws (pv 6)) V3)) (pv 6)))))) Z0)
  gt,fun{p l j d h u H Q U x4 x5 x6 x7 x8 B} N X F C e3=>?_]
 subst e3;exists 1,Z,_,Z;by_cases Y:V.int C=V.int 1
 case neg=>
  rwa[aK Y,Zo (ht N X F C Z)]
 rw[aM Y];let a2:=N.R.l24;let l0:=N.R.l0;let a0:=N.R.e28;let lr:=OQ h u;let a3:=Paired.length N.tg;let e0:=xN.mpr N.R.some;let x:=F _ _ N.hrl N.rlp;let b:=F _ _ N.htl N.tlp;show Zq #[1,l,d,Z,.inl (ZH.of b),_,1,Z,2,j,1,.inl (ZH.of x),1,l,d,Z,.inl (ZH.of b),_,1,Z,p,1,X,XZ ∅ (yG (show ((↑(Z4 h u):Int)-(↑d:Int)).natAbs<=1000 by lia) (by decide)),λJ H2 a4 a5 W2 s2=>#[_,1,Z,?_]]
 obtain⟨a,ea⟩:∃ a:Nat,(↑d:Int)+1+J=(a:Int):=#[↑d+1+J.toNat,∅]
 change PM 6 (V.int ((↑d:Int)+1+J)) _ _ _;rw[ea];let z:ZA p H H2:=λc o e n=>s2 _ _ (F c o e n) n;let g:=z _ _ N.hrl N.rlp;show NI (K:=K) (p:=p) (i:=2) (k:=a) (a:=j) (xs:=Z4 h u) (M:=λ_ y=>∃ c<↑h,y=.str (ZS (Y3 (gd h c)))) W2 Z N.rlp g ∅ ∅ (λW Q s q=>#[1,q]) (λ_ _ _ m s=>m) (λH3 Q W3 s3 q=>?_) λH5 D y W5 s5 Dp h5 ey=>?_
 .exists 3,l,d,Z,.inl (ZH.of (s3 _ _ (s2 _ _ b N.tlp) N.tlp)),p,1,W3,XZ ∅ (yG (show (↑d:Int).natAbs<=1000 by lia) (by decide))
  intro r4 H4 L a6 W4 s4;let#[c,rfl]:=yA L;show .inl #[j,_,_,1,Z,ZH.of (s4 _ _ (s3 _ _ g N.rlp) N.rlp),YW (MF (show c<↑h by lia)),q _ _ W4 s4 #[c,∅,Z]]
 let#[c,lc,rfl]:=ey;let O:ZA p H H5:=λc o e n=>s5 _ _ (z c o e n) n;exists 1,Ym;intro t nt;let#[HZ,eZ,S,hZ]:=YN nt (.tup [V.ref D,V.int (a:Nat)]);rw[eZ];let#[_,_,_,_,_,ll]:=Im N.R.fo ∅ (.twig lc)
 show N.k HZ t D _ a (W5.same S) (λc o e n=>S _ _ (O c o e n)) hZ Dp (S _ _ h5) ?_ ?_
 .rw[zS,zV,zH,yV];lia
 .show lW N.R.pre ∅ ∅ ∅ (by rw[yV];lia) (Pl (Qw _ _))
theorem oW{b d:jp}{c:List (ju)}{a:je}(x:NR b d c a):(Z4 b c).take ↑b++a++(Z4 b c).drop ↑b=Z4 d c:=by
 rw[x.rows,pT #v[zY,zW _],yH #v[zY,zW _],List.drop_append_of_le_length #v[zY,zW _],List.drop_of_length_le #v[zY,zW _],sV]
theorem EQ{e g:Type}{C:e->g->Prop}{a:e}{b:g}(h:C a b):∃ c d,a=c/\b=d/\C c d:=#[a,b,Z,Z,h]
abbrev CM(p:al)(e:jp)(d:List (ju))(c:Hp)(M:al)(b:Hp):Prop:=ZA p c b/\ZG b p/\M≠p/\∃(g:jp)(a:je),b M\.lst a/\↑a<=3/\NR e g d a
theorem nj(F:Zk K "_law_spoilt" "_law_spoilt" QS f fd)(T:Txt mg)(DP:ZC P w K mg jS 1 "_law_pull" T2 Zm)(DB:ZC P w K mg jS 2 "_law_bad_row" Ty (Ye K))(DN:ZC P w K mg jS 6 "_law_not_ahead" TJ (Wz K)):ZI P w K mg jS ZX 7 f fd TJ (Wz K):=by
 show F.ok XC (λvs H Q E h=>(by induction h;rfl)) (λc8 A a4 s H vs Q E hr h=>?_)
 induction h
 rename_i p tl rl z u J H Q E W d g I tg G R k
 let nd:=XC.nd;let O:=hr.mono (show 1<=6 by lia)
 let e6:=hr.mono (show 2<=6 by lia)
 let#[t,gt,ht]:=Rv (K:=K) (mg:=mg) (P:=P) (w:=w) (jS:=jS) (f:=f) (cdv:=c8) (A:=A) (outer:=a4) (s:=s) (H0:=H) (E:=E) T DP DB hr;intro Xc;show#[_,ZL (Zh 3 nd (Ze DP O (Zb (pv 0) ZJ)))
  (ZL (Zx (Z6 Pi (pv 3) ZJ (Zz _)) (ZR (Zl (Ze DN hr (WE (pv 0) (Zb (pv 1) (pv 2)))))) Z0)
  (ZL (Zx (PW.pt (Pn (Z6 Y4 (pv 3) ZJ (Zz _)) (OJ (Z6 Y4 (Ze DP O (Zb (pv 0) ZJ)) ZJ (Zz _))))) (ZR (Zl (Y2 (Zb (VZ (r:=Yj K) V2 (pv 2) V3 (Ws (Zp YO Z T.len YK (ZM (pv 1))))) (Zp YO Z T.len YK (ZM (pv 1))))))) Z0)
  (ZL (Zx (Z6 Y4 (pv 3) ZJ (Zz _))
   (ZL (Zh 4 nd (YY (ZM Zu)))
   (ZL (Zx (Z6 Y4 (Ze DP O (Zb (pv 0) ZJ)) ZJ (Zz _)) (ZR (Zh 4 nd (YY (WE Zu (Zb Zu (ZW WR (ZW WR (ZW WR Zu (VD PN Z T.str UL (ZM (Zp YO Z T.len YK (ZM (pv 1)))))) Zu) (VD PN Z T.str UL (ZM (ZW Yo (Zp YO Z T.len YK (ZM (pv 1))) ZJ))))))))) Z0)
   (ZL (Zh 5 nd (ZW Xn (ZW Xn (VZ (r:=Yj K) V2 (pv 2) V3 (Ws (Zp YO Z T.len YK (ZM (pv 1))))) (pv 4)) (VZ (r:=Yj K) V2 (pv 2) (Ws (Zp YO Z T.len YK (ZM (pv 1)))) V3)))
   (ZL (Zx (Z6 Y4 (Ze DP O (Zb (pv 0) ZJ)) ZJ (Zz _))
    (ZL (Zh 6 nd (ZW Yo (ZW Yo (Zp YO Z T.len YK (ZM (pv 1))) (Zp YO Z T.len YK (ZM (pv 4)))) (Ze DP O (Zb (pv 0) (ZW Yo (ZW Ui (Zp YO Z T.len YK (ZM (pv 2))) (Zp YO Z T.len YK (ZM (pv 1)))) ZJ)))))
    (ZR (Zl (Y2 (Zb (ZW Xn (ZW Xn (VZ (r:=Yj K) V2 (pv 5) V3 (Ws (pv 6))) (YY (ZM (Ze DB e6 (WE (pv 0) (Zb (pv 1) (YC K (pv 2) ZJ))))))) (VZ (r:=Yj K) V2 (pv 5) (Ws (pv 6)) V3)) (pv 6)))))) Z0)
   (ZR (Zl (Y2 (Zb (pv 5) (Zp YO Z T.len YK (ZM (pv 5))))))))))) Z0)
  gt))),?_]
 let N:Od K p tl rl z u J H Q:=#[W,d,g,I,tg,G,R,k];let i0:=R.l24;let l0:=R.l0;let i4:=R.e28;let lr:=OQ u J;let B:=Paired.length tg;exists 1,p,(10),Z,W,#[by decide,by decide]
 intro r1 H1 i6 i7 W1 s1;let c3:=s1 _ _ I d;let a8:=s1 _ _ G g;exists 1,_,1,Z,_,Z;by_cases g7:r1 > 7
 .rwa[aM g7,Zq #[3,.mk W1 d g c3 (N3 W tg s1) a8 R λH' t D xs n W' s' e8 Dp hD l n'=>k H' t D xs n W' (λc o e n=>s' _ _ (s1 c o e n) n) e8 Dp hD l n']]
 rw[aK g7];show Zo #[1,Z,1,?_];by_cases e0:V.int r1=V.int 0
 case neg=>
  rw[aK e0];show Zo (Zo #[1,Z,1,?_]);rwa[aK e0,Zo (ht N W1 s1 r1 Z)]
 rw[aM e0];show Zq #[1,p,(4),Z,W1,#[by decide,by decide],λr2 H2 i8 i9 W2 s2=>#[Z,1,?_]]
 let U:ZA p H H2:=λc o e n=>s2 _ _ (s1 c o e n) n;let S:=U _ _ I d;let a9:=U _ _ G g;by_cases e2:V.int r2=V.int 0
 .rw[aM e2];show Zq #[2,tl,z,Z,.inl (ZH.of S),1,rl,1,ZH.of a9,λD nD=>?_];rw[B,Ey _ ∅]
  let#[H3,e3,s3,h3]:=YN nD (.lst ((Z4 u J).take ↑u));rw[e3];let#[y2,a3]:=W2.some;exists 1,tl,z,Z,.inl (ZH.of (s3 _ _ S)),Ym;intro t nt;rw[B];let#[HZ,eZ,L,hZ]:=YN nt (.tup [V.ref D,V.int (↑u:Nat)]);rwa[eZ,k HZ t D _ ↑u ((W2.same s3).same L) (λc o e n=>L _ _ (s3 _ _ (U c o e n))) hZ (Zf a3 nD).symm (L _ _ h3) (by rw[zH];lia) (oI R)]
 rw[aK e2];show Zo #[1,Z,1,?_];rw[aM e0];show Zq #[Ym,λM nM=>?_];let#[H3,e3,s3,h3]:=YN nM (.lst [.str (zX "leaf 7 7")]);rw[e3];let#[y2,a3]:=W2.some;let Mp:M≠p:=(Zf a3 nM).symm;show#[1,p,(2),Z,W2.same s3,#[by decide,by decide],λr4 H4 l2 l4 W4 s4=>#[Z,1,?_]]
 let a7:ZA p H2 H4:=λc o e n=>s4 _ _ (s3 _ _ e) n;apply K0 (C:=CM p u J H2)
 .intro ex;by_cases e4:V.int r4=V.int 1
  .rw[aM e4];let na:=Nl (a:=↑u) ∅
   let nb:=Nl (a:=↑u+1) ∅
   let l5:↑(zX "stem ")=5:=by decide +kernel
   let l1:↑(zX " ")=1:=by decide +kernel
   let sL:100<=sizeLine:=by decide
   let Y:=a7 _ _ S d;show Zq #[1,tl,z,Z,.inl (ZH.of Y),((↑z:Nat):Int),Z,PF (yG (show ↑z<=30 by lia) (by decide)),_,1,Z,by rw[B];lia,_,1,Z,by rw[B,QN];lia,1,tl,z,Z,.inl (ZH.of Y),_,1,Z,((↑z+1:Nat):Int),Z,PF (yG (show ↑z+1<=30 by lia) (by decide)),_,1,Z,by rw[B,QN,QN];lia,Ym,λM2 c6=>?_]
   rw[B,GI];let#[H5,e5,s5,h5]:=YN c6 (.lst [.str (zX "leaf 7 7"),.str (zX "leaf 8 8"),.str (ZS (WL++32::jn [Zy ↑u,Zy (↑u+1)]))]);rw[e5];let#[y4,e9]:=W4.some;let#[c1,K1,f1,f2,hc]:=EQ (C:=CM p u J H2) (a:=M2) (b:=H5) #[λc o e n=>s5 _ _ (a7 c o e n),W4.same s5,(Zf e9 c6).symm,_,_,h5,zW 3,SB R];rwa[f1,f2,ex c1 K1 hc]
  .rw[aK e4];show Zo ?_;let#[c1,K1,f1,f2,hc]:=EQ (C:=CM p u J H2) (a:=M) (b:=H4) #[a7,W4,Mp,_,_,s4 _ _ h3 Mp,tQ (yQ 2),Sf R];rwa[f1,f2,ex c1 K1 hc]
 rintro M5 H5 ⟨i3,W5,a1,tx,c5,hM,l3,x⟩;let a5:ZA p H H5:=λc o e n=>i3 _ _ (U c o e n) n;let c4:=a5 _ _ I d;let c0:=a5 _ _ G g;let i5:=x.len;let i1:=OQ tx J;show BB (K:=K) (p:=p) (i:=2) (k:=↑u) (a:=rl) (xs:=Z4 u J) (M:=λ_ vs=>vs=c5) W5 Z g c0 ∅ ∅ (λH' Q s q=>#[1,tl,z,Z,.inl (ZH.of (s _ _ c4 d)),#v[B,q]]) (λ_ _ _ m _=>m) (λ_ _ m=>by rw[m];lia) (λH6 Q W6 s6 q=>#[1,q _ _ _ W6 (ZA.refl _ _) (s6 _ _ hM a1) Z]) λH6 Fd vs W6 s6 Fp hF ev=>?_
 subst ev;rw[oW x] at hF;let i2:ZA p H H6:=λc o e n=>s6 _ _ (a5 c o e n) n;let c9:=s6 _ _ hM a1;show#[1,p,(2),Z,W6,#[by decide,by decide],λr7 H7 l6 l7 W7 s7=>#[Z,1,?_]]
 let X:ZA p H H7:=λc o e n=>s7 _ _ (i2 c o e n) n;let a2:=s7 _ _ hF Fp;let e1:=s7 _ _ c9 a1;let a0:=X _ _ I d;let c2:=X _ _ G g;by_cases e7:V.int r7=V.int 1
 .rw[aM e7];show Zq #[1,tl,z,Z,.inl (ZH.of a0),1,M5,1,.inl (ZH.of e1),_,1,Z,2,rl,1,.inl (ZH.of c2),1,tl,z,Z,.inl (ZH.of a0),_,1,Z,_,1,Z,p,1,W7,XZ ∅ (yG (show ((↑(Z4 u J):Int)-(↑z:Int)+1).natAbs<=1000 by lia) (by decide)),λr8 H8 l8 l9 W8 s8=>#[_,1,Z,?_]]
  obtain⟨a,ea⟩:∃ a:Nat,(↑z:Int)+(↑vs:Int)+r8=(a:Int):=#[↑z+↑vs+r8.toNat,∅]
  change PM 6 (V.int ((↑z:Int)+(↑vs:Int)+r8)) _ _ _;rw[ea];let c7:ZA p H H8:=λc o e n=>s8 _ _ (X c o e n) n;show NI (K:=K) (p:=p) (i:=5) (k:=a) (a:=Fd) (xs:=Z4 tx J) (M:=λH y=>ZV K [p] H u y) W8 Z Fp (s8 _ _ a2 Fp) ∅ ∅ (λH' Q s q=>#[1,q]) (λ_ _ _ m s=>Pt m (λc o e _=>s c o e)) (λH9 Q W9 s9 q=>?_) λH9 D y W9 s9 Dp h9 ey=>?_
  .let a6:ZA p H H9:=λc o e n=>s9 _ _ (c7 c o e n) n;show#[3,.inl #[rl,_,_,1,Z,ZH.of (a6 _ _ G g),YW (j:=0) (MF l0),.mk W9 d (a6 _ _ I d) (N3 W tg a6) R.fo i0 (.twig l0) λHA v WA sA bv=>q _ _ WA sA bv]]
  exists 1,Ym;intro t nt;let#[HZ,eZ,L,hZ]:=YN nt (.tup [V.ref D,V.int (a:Nat)]);rw[eZ];show k HZ t D _ a (W9.same L) (λc o e n=>L _ _ (s9 _ _ (c7 c o e n) n)) hZ Dp (L _ _ h9) ?_ ?_
  .rw[zS,zV,zH,yV];lia
  .show L0 R.fo x.pre (λb _ h=>x.ag b h) ∅ (Pt ey (λc o e _=>L _ _ e)) (by rw[yV];lia) (Pl (Qw _ _))
 .rw[aK e7];show Zo #[2,Fd,1,.inl (ZH.of a2),Ym,λt nt=>?_];rw[i1];let#[HZ,eZ,L,hZ]:=YN nt (.tup [V.ref Fd,V.int ((↑tx+↑J:Nat):Int)]);rwa[eZ,k HZ t Fd _ (↑tx+↑J) (W7.same L) (λc o e n=>L _ _ (X c o e n)) hZ Fp (L _ _ a2) ∅ (x.lost Z)]
end Tw
namespace L2
open PySem PySem.Spec PyProof.Rows
def J4:V->Bool
 | .int _=>true
 | .str _=>true
 | .bl _=>true
 | .non=>true
 | _=>false
theorem nz{A:ay}{s:am}{v:V}{a b:ak}(h:J4 v=V')(c:ZQ v a)(d:ZQ v b):PySem.SeqAt.EqAt A s a b true:=by
 cases v with
 | int i=>
  let#[e,rfl]:=c;let#[f,rfl]:=d;have:=PySem.SeqAt.EqAt.int_int (A:=A) (s:=s) i e i f
  rw[show (i==i)=V' by simp] at this;assumption
 | str x=>
  let#[e,rfl]:=c;let#[f,rfl]:=d;have:=PySem.SeqAt.EqAt.str_str (A:=A) (s:=s) x e x f
  rw[show (x==x)=V' by simp] at this;assumption
 | bl x=>
  obtain rfl:a=.bool x:=c;obtain rfl:b=.bool x:=d;show PySem.SeqAt.EqAt.same _
 | non=>
  obtain rfl:a=.none:=c;obtain rfl:b=.none:=d;show PySem.SeqAt.EqAt.same _
 | _=>cases h
inductive Q6(d:zZ)(x y:V)(H:Hp)(Q:VK):Prop
 |mk(p b:al)(c:je)(_:x=.ref p)(_:y=.ref b)(_:ZH d H p c)(_:ZH d H b c)(_:∀ v∈c,J4 v=V'\/(∃ a,v=.ref a)\/∃ n,v=.ty n)(_:Q (.bl false) H)
theorem sj(M:X.A.units<cLine):XS X (aA .NotEq) (Q6 X.K):=by
 intro t s σ H x y v u Q I S T h;let#[p,b,l,rfl,rfl,G,J,L,q]:=h;cases S;cases T;let#[g,B,P,W]:=I.list G;let#[c,C,R,Y]:=I.list J;let U:=↑B;let V:=↑C;show PySem.SeqAt.RcNeAt.lists (e:=λ_=>true) P.isList R.isList (by simp;lia) M (λj m F=>?_) X.prog X.w X.xe _ (Y8 I q ⋯)
 let o:j<↑l:=by simp at m;lia
 let r:l[j]?\l[j]:=zU o;let#[i,D,d]:=B.get r;let#[k,E,f]:=C.get r;let N:g.toArray[j]=i:=by
  have:g.toArray[j]?\i:=by simpa using D
  rw[wV m] at this;show yP.inj this
 let O:c.toArray[j]=k:=by
  have:c.toArray[j]?\k:=by simpa using E
  rw[wV F] at this;show yP.inj this
 rw[N,O];rcases L _ (xP o) with z | ⟨a,z⟩ | ⟨n,z⟩
 .show nz z d f
 .rw[z] at d f;rwa[show i=.ref a from d,show k=.ref a from f,PySem.SeqAt.EqAt.same _]
 .rw[z] at d f;rwa[show i=.type n from d,show k=.type n from f,PySem.SeqAt.EqAt.same _]
end L2
namespace Tw
open PySem PySem.Spec L2 PyProof.Rows
variable{jP jQ CS CT CH CK CP CB:al}
theorem P'{b:je}(h:Vc b):∀ v∈b,J4 v=V'\/(∃ a,v=.ref a)\/∃ n,v=.ty n:=λv c=>by
 have:=h v c
 cases v with
 | ref a=>show .inr (.inl #[a,Z])
 | ty n=>show .inr (.inr #[n,Z])
 | flt _=>cases this
 | byt _=>cases this
 | _=>show .inl Z
abbrev Se:jr:=["_law_script","_law_k","_law_well_here","_law_twigs","_law_rows","_law_turn","_law_spoilt_here","_law_at","_law_handed"]
theorem Oc:ZB Se S1 (Za OG):=Z2
inductive F5(H:Hp)(z:al):Nat->L2.St->Hp->Prop
 |mk{j:Nat}{x1 x2 x3 x4 x5 x6 x7 x8:jf}{H':Hp}:ZD H H'->F5 H z j [Z' (.ref z),x1,x2,x3,x4,x5,x6,x7,x8] H'
inductive ES(H:Hp)(z p tl rl:al)(x1:jf):Nat->L2.St->Hp->Prop
 |mk{j:Nat}{x5 x6 x7 x8:jf}{H':Hp}:ZA p H H'->ZG H' p->ES H z p tl rl x1 j [Z' (.ref z),x1,Z' (.ref p),Z' (.ref tl),Z' (.ref rl),x5,x6,x7,x8] H'
theorem yy(F:Zk K "law" "law" OG f fd)(T:Txt mg)(DW:ZC P w K mg jS 1 "_law_well" Tb (Ub K))(DF:ZC P w K mg jS 10 "_law_forest" TY Xz)(DE:ZC P w K mg jS 2 "_law_ends" Td Vs)(e3:ZC P w K mg jS 6 "_law_twig_row" Tf XF)(e2:ZC P w K mg jS 1 "_law_end_row" Ts Xy)(DS:ZC P w K mg jS 7 "_law_spoilt" TJ (Wz K))(DR:ZC P w K mg jS 17 "_law_refused" Tg (XW K)):ZI P w K mg jS ZX 18 f fd S1 (Uk K):=by
 show F.ko Oc λl4 A l1 s H vs Q E v h=>?_;let#[z,y,rfl,a9,hn,e9]:=h;let N:=Oc.nd;let c2:=v.mono (show 1<=17 by lia)
 let i1:=v.mono (show 2<=17 by lia)
 let i2:=v.mono (show 6<=17 by lia)
 let i3:=v.mono (show 7<=17 by lia)
 let c3:=v.mono (show 10<=17 by lia)
 intro Xc;show#[_,ZL (WZ PassesOwn.never Z (QO Z T.range (ZM (Zp (Ij Z) Z T.max Jj (Zb ZJ (Zp (Ae Z) Z T.min Rb (Zb (Zp YO Z T.len YK (ZM (pv 0))) ZJ)))))) (WB 1 N)
   (ZL (Zh 2 N (Ze DW c2 (Zb (pv 0) (pv 1))))
   (ZL (Zh 3 N (Ze DF c3 (ZM (pv 2))))
   (ZL (Zh 4 N (ZW Xn (VT [] [] Z (WQ (pv 3)) (λ_ _ _ _ _=>VH) (λ_ _ _ _ _=>Ze e3 i2 (ZM (pv 0))) trivial) (VT [] [] Z (WQ (Ze DE i1 (Zb (pv 2) (pv 3)))) (λ_ _ _ _ _=>VH) (λ_ _ _ _ _=>Ze e2 c2 (ZM (pv 0))) trivial)))
   (ZL (WZ PassesOwn.never Z (QO Z T.range (ZM ZJ)) (WB 5 N)
    (ZL (Nk (Ze DS i3 (WE (pv 2) (Zb (pv 3) (pv 4)))) (Dr Z (Kq (WB 6 N) (Kq (WB 7 N) Fs))))
    (ZL (Zh 8 N (VD LJ Z T.list Mj (ZM (pv 6))))
    (ZR (Zx (PW.pt (Pe (Z6 NW (Ze DR v (ZM (pv 8))) (pv 7) (Zz _)) (Pc (Z6 (sj v.units0) (pv 8) (pv 6) (Zz _))))) (ZR GW) Z0)))))
   (ZR (Zx (Z6 NW (Ze DR v (ZM (pv 4))) (Pw OD ZJ) (Zz _)) (ZR GW) Z0)))))))
  (ZR (Zl MC)),?_]
 exists 1,z,1,.inl a9,_,1,_,2,by split <;> (try split) <;> lia,by split <;> (try split) <;> lia
 show Pk (n:=(if (if (16:Int)<(↑(y.map V.int):Nat) then (16:Int) else (↑(y.map V.int):Nat)) > 3 then (if (16:Int)<(↑(y.map V.int):Nat) then (16:Int) else (↑(y.map V.int):Nat)) else 3).toNat) (F5 H z) (.mk (ZD.refl H)) (λj σ H1 hj a=>?_) (λσ H1 a=>?_)
 .induction a
  rename_i x1 x2 x3 x4 x5 x6 x7 x8 H1 s1
  let c0:ZH K H1 z (y.map V.int):=a9.imp (λr=>r.imp (λh=>s1 _ _ h) λ⟨o,h⟩=>#[o,s1 _ _ h]) id;exists 2,z,y,1,c0,hn,∅,by lia
  intro p H2 np s2 W2;show#[1,.mk W2 λH3 tl us O W3 s3 l0 k tg fo n0 c6 i7=>?_];let#[y2,i4]:=W2.some;let L:tl≠p:=(Zf i4 l0).symm;let c8:ZD H1 H3:=λc o e=>s3 c o (s2 c o e) (Zf e np);let i8:=Paired.length tg;let tx:∀ i<↑O,Mw (gd O i):=λi u=>#[λh0=>(fo.lf i u h0).2,λh0=>by
   let#[_,b2,b4,bb,_]:=fo.st i u h0;show#[∅,b4,λb hb=>by have:=(bb b hb).1;lia]]
  exists 1,tl,Z,#[_,ZH.of k];show Wr (n:=↑us) (λi z=>us[i]?\z) (λR i l H8=>ZD H3 H8/\H3 R=Y'/\l=(O.take i).map λt=>V.str (ZS (Y3 t))) (YQ ∅)
   (λR i l H8 u a=>#[us,us[i]'u,ZH.of (a.1 _ _ k),zU _]) (λR i l H8 z m u a hy=>#[hy.1,hy.2 _ (ZH.of (a.1 _ _ k))]) (λR l H8 a=>#[us,ZH.of (a.1 _ _ k),zW _])
   (λR hR=>#[Zr hR _,hR,Z]) (λR i l H8 z eR i0 u hz a Rr X=>?_) (λR l H8 eR a=>?_)
  .let#[s8,nR,rfl]:=a;let#[t,et,tb]:=Paired.ixL tg hz;let eg:gd O i=t:=by unfold gd;rw[zO,et];rfl
   show#[1,.mk (tb.same (A':=[p]) (λx h=>h) s8) (by rwa[<-eg,tx i ∅]) λm J=>X _ m (J _ _ eR) #[UJ (s8.trans J) nR,nR,?_]]
   rw[yR,et];simp
  let#[s8,nR,rfl]:=a;rw[i8,xF] at eR;let W8:=W3.same s8;let l2:=tg.same (A':=[p]) (λx h=>h) s8;let c5:=s8 _ _ k;show#[2,.mk W8 L c5 l2 fo n0 c6 λH4 sl W W4 s4 l6 C e8 M a8=>?_];let LR:QP O W:=#[fo,n0,c6,i7,e8,M,a8];let#[y3,i5]:=W3.some;let Rp:R≠p:=(Zf i5 nR).symm;exists sl,Z,#[_,ZH.of C];show Wr (n:=↑(Uj W)) (λi z=>(Uj W)[i]?\z) (λR2 i l m=>ZD H4 m/\H4 R2=Y'/\l=(W.take i).map λe=>V.str (ZS (QL e))) (YQ (by rw[zY];lia))
   (λR2 i l m u a=>#[_,(Uj W)[i]'u,ZH.of (a.1 _ _ C),zU _]) (λR2 i l m z d u a hy=>#[hy.1,hy.2 _ (ZH.of (a.1 _ _ C))]) (λR2 l m a=>#[_,ZH.of (a.1 _ _ C),zW _])
   (λR2 hR=>#[Zr hR _,hR,Z]) (λR2 i l m z B i0 u hz a Rr X=>?_) (λR2 l m B a=>?_)
  .let#[J,a0,rfl]:=a;rw[zF] at hz;let#[e,he,rfl]:=wP.mp hz;show#[1,.mk (λr v=>?_) (X _ m B #[UJ J a0,a0,?_])]
   .have:=M r (by rwa[<-v,zI he])
    lia
   .rw[yR,he];simp
  let#[J,a0,rfl]:=a;rw[zY,xF] at B;exists R,R2,_,1,Z,J _ _ (s4 _ _ eR Rp),B,yK (YQ (by rw[zY,zY];lia))
  intro rl c7;let#[d,a7,c9,c4]:=YN c7 (.lst (Z4 O W));let U:upd m rl (.lst ((O.map λt=>V.str (ZS (Y3 t)))++W.map λe=>V.str (ZS (QL e))))=d:=a7;rw[U];let q:ZA p H3 d:=λc o e n=>c9 _ _ (J _ _ (s4 _ _ (s8 _ _ e) n));let a5:ZG d p:=(W4.same J).same c9;let Y:=q _ _ k L;let e1:Zn [p] d us O:=N3 W3 tg q;let#[y9,i6]:=(W4.same J).some;let a2:rl≠p:=(Zf i6 c7).symm;let a1:ZD H d:=λc o e=>q _ _ (c8 _ _ (s1 _ _ e)) (Zf (s1 _ _ e) np);show#[(4),Z,by decide,by decide,Pk (n:=(4:Int).toNat) (ES d z p tl rl (Z' (.int (0+(j:Int))))) (.mk (ZA.refl p d) a5) (λjt σ S l5 a=>?_) (λσ S a=>?_)]
  .induction a
   rename_i x5 x6 x7 x8 S g a6
   show#[3,.mk a6 L a2 (g _ _ Y L) (N3 a5 e1 g) (g _ _ c4 a2) LR λe4 t D xs n e6 a3 ht Dp hD lx e0=>?_];exists t,1,Zd.of ht,Z,_,1,_,1,Z;exists 1,D,xs,Z,.inl (ZH.of hD);intro hl i9;let#[e5,e7,G,c1]:=YN i9 (.lst xs);rw[e7];let a4:UE K p e5 xs n:=e0.step λc o e _=>G c o e;show#[1,.mk (a4.rd c1) λl3 I=>#[1,Z,1,?_]];rw[show (!decide (V.int (n:Int)=V.int (n:Int)))=false by simp]
   show Zo #[2,hl,D,xs,Z,Z,ZH.of (I _ _ c1),ZH.of (I _ _ (G _ _ hD)),P' e0.itm,1,Zo ?_];show .mk (λc o e n=>I _ _ (G _ _ (a3 _ _ (g _ _ e n) n))) ((e6.same G).same I)
  .generalize (4:Int).toNat=jt at a
   induction a
   rename_i x5 x6 x7 x8 S g a6
   show#[1,.mk (.ok (g _ _ c4 a2) LR.pre a8) λe4 a3=>#[1,Z,1,Zo ?_]];show .mk λc o e=>a3 _ _ (g _ _ (a1 c o e) (Zf (s1 _ _ e) np))
 .generalize (if (if (16:Int)<(↑(y.map V.int):Nat) then (16:Int) else (↑(y.map V.int):Nat)) > 3 then (if (16:Int)<(↑(y.map V.int):Nat) then (16:Int) else (↑(y.map V.int):Nat)) else 3).toNat=j at a
  induction a
  show e9 _
def xC(K:zZ)(C:al):Bool:=
 (zC K (.ref C) "__getattribute__" == Z' (Z' (.builtin "BaseException.__getattribute__")))&&((zC K (.ref C) "__getattr__" == Z' Y')&&((yS K C (.type "BaseException")==Z' true)&&((yS K C (.type "object")==Z' true) &&
 ((zC K (.ref C) "__class__" == Z' (Z' (.builtin "object.__class__")))&&((qV K (.builtin "object.__class__") "__get__" == Z' (Z' (.builtin "getset_descriptor.__get__")))&&(rB K (.builtin "object.__class__")==Z' true))))))
theorem Cy{K:zZ}{C:al}(h:xC K C=V'):Wt K C:=by
 unfold xC at h;simp only[zT,beq_iff_eq] at h;let#[a,b,c,d,e,f,g]:=h;show#[a,b,c,d,e,f,g]
def xE(K:zZ)(C:al)(f:Str):Bool:=
 xC K C&&(G7 K C&&(yF K (.ref C)&&((zC K (.ref C) "__setattr__" == Z' (Z' (.builtin "object.__setattr__")))&&((zC K (.ref C) f==Z' Y')&&(vQ K C&&FS K C)))))
theorem Df{K:zZ}{C c:al}{f:Str}(h:xE K C f=V')(v:zC K (.ref C) "__init__" = Z' (Z' (.ref c)))(d:wG K (.ref c)=V'):Xx K C c f:=by
 unfold xE at h;simp only[zT,beq_iff_eq] at h;let#[a,b,e,f,g,i,j]:=h;show#[Cy a,b,v,d,e,f,g,i,j]
def xB(K:zZ)(C:al):Bool:=(yN K (.ref C)==Z' (.type "type"))&&(yS K C (.type "BaseException")==Z' true)
def xS(K:zZ)(C:al):Bool:=GR K C&&(yF K (.ref C)&&xB K C)
theorem Kk{K:zZ}{C:al}(h:xB K C=V'):yN K (.ref C)\.type "type"/\yS K C (.type "BaseException")\true:=by
 unfold xB at h;simpa only [zT,beq_iff_eq] using h
theorem Km{K:zZ}{e:jb}{x:Str}{C:al}(h:xS K C=V')(m:e x\.ref C):Jm K e x C:=by
 unfold xS at h;simp only[zT] at h;let#[a,b,c]:=h;let#[c,d]:=Kk c;show#[m,a,b,d,c]
def xZ(K:zZ)(C f a b c d e:al):Bool:=
 (VV K a [a,b]==Z' true)&&((VV K b [a,b]==Z' true)&&((VV K C [a,b]==Z' false)&&((VV K c [c]==Z' true)&&(Vw K a (· != "NoRow")&&(Vw K b (· != "NoRow")&&(Vw K c (· != "NoRow")&&(Vw K C (· == "NoRow") &&
 (xB K C&&(xB K f&&(xB K a&&((yS K C (.ref f)==Z' true)&&((qC K (.ref C) [.ref d,.ref b,.ref c,.ref a,.ref e]==Z' false)&&((xY K (.ref C) (.ref C)==Z' true)&&(xY K (.ref C) (.type "ValueError")==Z' true))))))))))))))
theorem lg{P:ao}{w:ax}{K:zZ}{u:jb}{a:aE}{f b c:al}{r:aq}(y:ZI P w K u a ZX 10 f r Tz (Wj b c)):ZI P w K u a ZX 10 f r Tz (WI b c):=
 y.imp λvs H Q E h=>by
  let#[S,d,L,l,lv,T,X,Y,V,p,M,U,v,e,R,i,J,I,G,k]:=h;exists S,d,L,l,↑T,p,M,U,v,e,R.sh,#v[Ej R,i],J,I,G
  intro A x O N C nx m j g s B W o n;let#[q,D,F]:=o;show k A #[x,O,N,C] nx m j s (EC (t:=U5 v) R s nx m j g B W #[q,D,λ_=>F,λz=>absurd Z z] n)
structure Xs(K:zZ)(mg:jb)(C CB CNT CNL CNS CNK CNW:al):Prop where
 h:XH K mg C CNT CNL CNS
 nm:Vw K C (· == "NoRow")=V'
 ty:yN K (.ref C)\.type "type"
 cl:mg "TwigError" = Z' (.ref CB)->mg "NoKey" = Z' (.ref CNK)->mg "NoTwig" = Z' (.ref CNW)->Cl K mg CB C CNK CNL CNS CNT CNW
theorem RS{K:zZ}{f:jb}{C q c a b d e:al}(h:xZ K C q c a b d e=V')(l:xS K a=V')(s:xS K b=V')(r:f "NoText" = Z' (.ref c))(o:f "NoLeaf" = Z' (.ref a))(p:f "NoStem" = Z' (.ref b)):Xs K f C q c a b d e:=by
 unfold xZ at h;simp only[zT,beq_iff_eq] at h;let#[y,z,A,B,D,E,F,G,H,g,i,j,k,m,n]:=h;let#[t,N]:=Kk H;let#[u,v]:=Kk g;let#[w,x]:=Kk i;let L:=Km l o;let S:=Km s p;show#[#[r,o,p,w,L.ty,S.ty,x,L.mB,S.mB,y,z,A,B,D,E,F],G,t,λI J M=>#[I,J,o,p,r,M,u,v,j,k,m,n]]
structure Oy(K:zZ)(C:al):Prop where
 ex:∃ f fd,zC K (.ref C) "__init__" = Z' (Z' (.ref f))/\wG K (.ref f)=V'/\UV K "__init__" "Table.__init__" O2 f fd
theorem Mc{K:zZ}{C f b:al}{m h e:jx}{p g:Array (jc)}{j kV i o a ct d:ak}{n:Nat}(v:zC K (.ref C) "__init__" = Z' (Z' (.ref f)))(l:K.lookup f\#[j,m,.func (xR "__init__" "Table.__init__" (Ur O2) (X5 O2) (Za O2) (.ref b) kV i o h a ct),p])(r:K.lookup b\#[d,e,.seq ⇑[.none] n,g])(q:wG K (.ref f)=V')(c:wE K a "Table.__init__" = true)(k:yF K (.ref f)=V'):Oy K C:=
 #[f,_,v,q,#[j,m,b,kV,i,o,h,a,ct,p,_,n,Z,l,c,r,Z],k]
theorem Mn{K:zZ}{C f:al}{m q:Str}{a:aD}{h:jr}{s b:jx}{t:Array (jc)}{r kV n g j ct:ak}(v:zC K (.ref C) m\Z' (.ref f))(l:K.lookup f\#[r,s,.func (xR m q (Ur a) (X5 a) (Za a) .none kV n g b j ct),t])(o:wG K (.ref f)=V')(c:wE K j q=V')(k:yF K (.ref f)=V')(p:∀ (kV e g:ak) (b:jx) (d ct:ak) (i:jd),↑i=↑h->bindArgs (xR m q (Ur a) (X5 a) (Za a) .none kV e g b d ct) #[i,[]]=pure (h.zip i):=by show λ_ _ _ _ _ _=>bxN _ _ (by(repeat intro _);show Z)):YU K C m q a h:=
 #[f,_,#[v,o,k],NK (st:=a) l c k,(NK (st:=a) l c k).binds p]
structure V6(K:zZ)(C:al)(q:Str)(st:aD)(ps:jr):Prop where
 ex:∃ f fd,zC K (.ref C) "__init__" = Z' (Z' (.ref f))/\wG K (.ref f)=V'/\Zk K "__init__" q st f fd/\Zi K fd ps []
theorem LG{K:zZ}{C f:al}{q:Str}{a:aD}{h:jr}{r b:jx}{s:Array (jc)}{p kV m g j ct:ak}(v:zC K (.ref C) "__init__" = Z' (Z' (.ref f)))(l:K.lookup f\#[p,r,.func (xR "__init__" q (Ur a) (X5 a) (Za a) .none kV m g b j ct),s])(n:wG K (.ref f)=V')(c:wE K j q=V')(k:yF K (.ref f)=V')(o:∀ (kV e g:ak) (b:jx) (d ct:ak) (i:jd),↑i=↑h->bindArgs (xR "__init__" q (Ur a) (X5 a) (Za a) .none kV e g b d ct) #[i,[]]=pure (h.zip i):=by show λ_ _ _ _ _ _=>bxN _ _ (by(repeat intro _);show Z)):V6 K C q a h:=
 #[f,_,v,n,NK (st:=a) l c k,(NK (st:=a) l c k).binds o]
theorem Hk{l:rD}{w:ax}{K:zZ}{h:aE}{mg:jb}{fa f54 jP jQ CTb CR CB CNT CNL CNS CNK CNW:al}(X:K.In h)(G:h.Ns ar mg)(hfa:mg "law" = Z' (.ref fa)){od54 an54:jx}{sl54:Array (jc)}{oc54 kV54 dc54 pm54 cd54 ct54:ak}{t1 t2 t3 t4 t5 t6 t7 t8 t9 t10 t11:Tok}(L1:ZZ K mg "is_key" GH TQ)(L2:ZZ K mg "checked" Ir TQ)(L3:ZZ K mg "fits" JN TH)(L4:ZZ K mg "has_few_figures" HM Tv)(L5:ZZ K mg "is_sign" Ma TX)(L6:ZZ K mg "ahead" HX Tx)(L7:ZZ K mg "standing" Lq TK)(L8:ZZ K mg "checked_rows" KZ T3)(L9:ZZ K mg "own_rows" Jk T3)(L10:ZZ K mg "rise" KK TM)(L11:ZZ K mg "label_of_rows" Jo T3)(L12:ZZ K mg "label_over" Kv TD)(L13:ZZ K mg "stand_side_by_side" Iv Tu)(L14:ZZ K mg "check_root" Iu TZ)(L15:ZZ K mg "held" Hh TZ)(L16:ZZ K mg "release" IO TZ)(L17:ZZ K mg "is_stem" Iz ["twig"])(L18:ZZ K mg "read_many" Gd ["text"])(L19:ZZ K mg "key_at" K3 TN)(L20:ZZ K mg "number_at" LM T5)(L21:ZZ K mg "text_at" Ja T5)(L22:ZZ K mg "meant_at" Ge T5)(L23:ZZ K mg "tuple_at" Ly TN)(L24:ZZ K mg "sign_at" Iq T5)(L25:ZZ K mg "is_figure" Hn TX)(L26:ZZ K mg "read_shelf" Id T3)(L27:ZZ K mg "words_of" Jt Th)(L28:ZZ K mg "read_root" Hi TU)(L29:ZZ K mg "number_for" Gn TU)(L30:ZZ K mg "read_twig" GU Tl)(L31:ZZ K mg "read_leaf" Gc Tj)(L32:ZZ K mg "pairs_of" Jy Tr)(L33:ZZ K mg "read_stem" IV Ta)(L34:ZZ K mg "give_up" KG To)(L35:ZZ K mg "_law_well" HP Tb)(L36:ZZ K mg "_law_pull" GS T2)(L37:ZZ K mg "_law_great" Hw Tn)(L38:ZZ K mg "_law_text" HD TY)(L39:ZZ K mg "_law_key" KB TL)(L40:ZZ K mg "_law_rank" JC T1)(L41:ZZ K mg "_law_keys" Hm T2)(L42:ZZ K mg "_law_value" Jz TY)(L43:ZZ K mg "_law_show" Ky T1)(L44:ZZ K mg "_law_forest" Gk TY)(L45:ZZ K mg "_law_branches" GF Tc)(L46:ZZ K mg "_law_by_keys" Jh S2)(L47:ZZ K mg "_law_twig_row" HH Tf)(L48:ZZ K mg "_law_ends" IM Td)(L49:ZZ K mg "_law_end_row" Hf Ts)(L50:ZZ K mg "_law_refused" Hl Tg)(L51:ZZ K mg "_law_bad_row" Ny Ty)(L52:ZZ K mg "_law_not_ahead" Q5 TJ)(L53:ZZ K mg "_law_spoilt" QS TJ)(a54:zD K ar "law" = Z' (Z' (.ref f54)))(l54:K.lookup f54\#[oc54,od54,.func (xR "law" "law" (Ur OG) (X5 OG) (Za OG) .none kV54 dc54 pm54 an54 cd54 ct54),sl54])(c54:wE K cd54 "law" = true)(k54:yF K (.ref f54)=V')(z1:zD K ar "isinstance" = Z' Y')(z2:zD K ar "bool" = Z' Y')(z3:zD K ar "int" = Z' Y')(z4:zD K ar "str" = Z' Y')(z5:zD K ar "tuple" = Z' Y')(z6:zD K ar "list" = Z' Y')(z7:zD K ar "len" = Z' Y')(z8:zD K ar "all" = Z' Y')(z9:zD K ar "abs" = Z' Y')(z10:zD K ar "max" = Z' Y')(z11:zD K ar "min" = Z' Y')(z12:zD K ar "range" = Z' Y')(z13:zD K ar "sorted" = Z' Y')(z14:zD K ar "ValueError" = Z' Y')(z15:zD K ar "sum" = Z' Y')(m1_:zD K ar "MOST_FIGURES" = Z' (Z' (.int 60 t1)))(m2_:zD K ar "MOST_SIGNS" = Z' (Z' (.int 40 t2)))(m3_:zD K ar "MOST_THINGS" = Z' (Z' (.int 4 t3)))(m4_:zD K ar "MOST_DEEP" = Z' (Z' (.int 3 t4)))(m5_:zD K ar "MOST_ROWS" = Z' (Z' (.int 4 t5)))(m6_:zD K ar "FEWEST_BRANCHES" = Z' (Z' (.int 2 t6)))(m7_:zD K ar "MOST_BRANCHES" = Z' (Z' (.int 4 t7)))(m8_:zD K ar "HEIGHT" = Z' (Z' (.int 0 t8)))(m9_:zD K ar "LEAST" = Z' (Z' (.int 1 t9)))(m10_:zD K ar "GREATEST" = Z' (Z' (.int 2 t10)))(m11_:zD K ar "MANY" = Z' (Z' (.int 3 t11)))(IjS:V6 K jP "Shelf.__init__" IF ["self"])(IjT:V6 K jQ "Twig.__init__" IQ Ti)(IjB:Oy K CTb)(IjX:V6 K CNT "NoText.__init__" IZ TV)(IjR:V6 K CR "NoRow.__init__" N6 TV)(Mm1:YU K jP "put_leaf" "Shelf.put_leaf" Lj Tz)(Mm2:YU K jP "put_stem" "Shelf.put_stem" JJ T0)(Mm3:YU K jP "put_twig" "Shelf.put_twig" Gr Tq)(Mm4:YU K jP "holders" "Shelf.holders" Ig T9)(Mm5:YU K jP "outside" "Shelf.outside" GX T9)(Mm8:YU K jP "label" "Shelf.label" HS T9)(Mm12:YU K jP "twig_of" "Shelf.twig_of" IG T9)(Mm13:YU K jP "labels_of" "Shelf.labels_of" JY T0)(Mm14:YU K jP "check_held" "Shelf.check_held" HJ T0)(Mm15:YU K jP "take_over" "Shelf.take_over" Hq S')(Mm25:YU K jP "hold" "Shelf.hold" Gi T9)(Mm26:YU K jP "let_go" "Shelf.let_go" IB T9)(Mm27:YU K jP "drop_unheld" "Shelf.drop_unheld" Kx T9)(xCSh:zD K ar "Shelf" = Z' (Z' (.ref jP)))(xCTw:zD K ar "Twig" = Z' (Z' (.ref jQ)))(xCTb:zD K ar "Table" = Z' (Z' (.ref CTb)))(xCR:zD K ar "NoRow" = Z' (Z' (.ref CR)))(xCB:zD K ar "TwigError" = Z' (Z' (.ref CB)))(xCNT:zD K ar "NoText" = Z' (Z' (.ref CNT)))(xCNL:zD K ar "NoLeaf" = Z' (Z' (.ref CNL)))(xCNS:zD K ar "NoStem" = Z' (Z' (.ref CNS)))(xCNK:zD K ar "NoKey" = Z' (Z' (.ref CNK)))(xCNW:zD K ar "NoTwig" = Z' (Z' (.ref CNW)))(mkCSh:tP K jP=V')(kpCSh:yF K (.ref jP)=V')(pgCSh:uW K jP Str.empty=V')(hdCSh:vQ K jP=V')(poCSh:tK K jP=V')(saCSh:zC K (.ref jP) "__setattr__" = Z' (Z' (.builtin "object.__setattr__")))(mkCTw:tP K jQ=V')(kpCTw:yF K (.ref jQ)=V')(pgCTw:uW K jQ Str.empty=V')(hdCTw:vQ K jQ=V')(poCTw:tK K jQ=V')(saCTw:zC K (.ref jQ) "__setattr__" = Z' (Z' (.builtin "object.__setattr__")))(mkCTb:tP K CTb=V')(kpCTb:yF K (.ref CTb)=V')(pgCTb:uW K CTb Str.empty=V')(hdCTb:vQ K CTb=V')(poCTb:tK K CTb=V')(saCTb:zC K (.ref CTb) "__setattr__" = Z' (Z' (.builtin "object.__setattr__")))(na_kept:zC K (.ref jP) "kept" = Z' Y')(na_following:zC K (.ref jP) "following" = Z' Y')(na_looks:zC K (.ref jP) "looks" = Z' Y')(na_things:zC K (.ref jQ) "things" = Z' Y')(na_tag:zC K (.ref jQ) "tag" = Z' Y')(na_above:zC K (.ref jQ) "above" = Z' Y')(na_holds:zC K (.ref jQ) "holds" = Z' Y')(na_shelf:zC K (.ref CTb) "shelf" = Z' Y')(na_root:zC K (.ref CTb) "root" = Z' Y')(xeT:xE K CNT "at" = true)(xeR:xE K CR "at" = true)(xsL:xS K CNL=V')(xsS:xS K CNS=V')(xzA:xZ K CR CB CNT CNL CNS CNK CNW=V')(tyT:yN K (.ref CNT)\.type "type"):
  ∃ i:aq,(∀(s:am)(v:ak),BindsTo s i #[[v],[]] [("_law_script",v)])/\∀ a:aE,K.In a->a.Ns ar mg->ZI l.prog w K mg a ZX 18 fa i S1 (Uk K):=by
 let e:=hfa.symm.trans (yJ X G a54);cases e;let T:Txt mg:=#[xJ X G z1,xJ X G z2,xJ X G z3,xJ X G z4,xJ X G z5,xJ X G z6,xJ X G z7,xJ X G z8,xJ X G z9,xJ X G z10,xJ X G z11,xJ X G z12,xJ X G z13,xJ X G z14,xJ X G z15,#[_,yJ X G m1_],#[_,yJ X G m2_],#[_,yJ X G m3_],#[_,yJ X G m4_],#[_,yJ X G m5_],#[_,yJ X G m6_],#[_,yJ X G m7_],#[_,yJ X G m8_],#[_,yJ X G m9_],#[_,yJ X G m10_],#[_,yJ X G m11_]];exists xR "law" "law" (Ur OG) (X5 OG) (Za OG) .none kV54 dc54 pm54 an54 cd54 ct54,λs v=>.of_eq Z;intro a kb _;let c:WD K mg jP jQ:=#[(yJ X G xCSh),(yJ X G xCTw),#[pgCSh,hdCSh,poCSh,saCSh],#[pgCTw,hdCTw,poCTw,saCTw],na_kept,na_following,na_looks,na_things,na_tag,na_above,na_holds];let C:HV K mg CTb:=#[(yJ X G xCTb),#[pgCTb,hdCTb,poCTb,saCTb],na_shelf,na_root];let j:NT l.prog w K mg a CNT:=by let#[f,i,v,n,F,b]:=IjX.ex;show#[#[#[f,i,Df xeT v n,Ai F,b],(yJ X G xCNT)],tyT]
 let l0:=Km xsL (yJ X G xCNL);let l1:=Km xsS (yJ X G xCNS);let D:=RS xzA xsL xsS (yJ X G xCNT) (yJ X G xCNL) (yJ X G xCNS);let d:XR l.prog w K mg a CR:=by let#[f,i,v,n,F,b]:=IjR.ex;show#[#[f,i,Df xeR v n,nN F,lM F,b],(yJ X G xCR),D.ty,D.nm]
 let I:=D.cl (yJ X G xCB) (yJ X G xCNK) (yJ X G xCNW);let a8:QE l.prog w K mg a 1 jP ["self"] (Qv jP):=by let#[f,i,v,n,F,b]:=IjS.ex;show#[f,i,#[mkCSh,v,n,kpCSh],Ao F c,b]
 let a9:QE l.prog w K mg a 1 jQ Ti (Qh jQ):=by let#[f,i,v,n,F,b]:=IjT.ex;show#[f,i,#[mkCTw,v,n,kpCTw],Rc F c,b]
 let g:ZP l.prog w K mg a ZX 1 jP "twig_of" T9 (Z9 jP):=Mm12.of λ_ _ F=>oN F c;let i6:ZP l.prog w K mg a ZX 2 jP "outside" T9 (WX jP jQ λ_ ho _=>.int ho):=Mm5.of λ_ _ F=>mL F c g;let i4:ZP l.prog w K mg a ZX 2 jP "label" T9 (WX jP jQ λtg _ _=>tg):=Mm8.of λ_ _ F=>pb F c g;let t:ZP l.prog w K mg a ZX 2 jP "holders" T9 (WX jP jQ λ_ ho us=>.int ((↑us:Nat)+(ho:Nat):Int)):=Mm4.of λ_ _ F=>lY F T c g;let a2:ZC l.prog w K mg a 1 "is_stem" ["twig"] (Vv jQ):=L17.of λ_ _ F=>vy F T c;let B:ZP l.prog w K mg a ZX 3 jP "put_twig" Tq (XJ jP jQ):=Mm3.of λ_ _ F=>mH F c a9;let i9:ZP l.prog w K mg a ZX 2 jP "take_over" S' (Xj jP jQ):=Mm15.of λ_ _ F=>kP F c g;let A:ZP l.prog w K mg a ZX 3 jP "labels_of" T0 (Yp jP jQ):=Mm13.of λ_ _ F=>km F c i4;let r:ZP l.prog w K mg a ZX 3 jP "check_held" T0 (YJ jP jQ):=Mm14.of λ_ _ F=>ke F c i6;let k:ZC l.prog w K mg a 1 "_law_pull" T2 (Zm):=L36.of λ_ _ F=>uu F;let DW:ZC l.prog w K mg a 1 "_law_well" Tb (Ub K):=L35.of λ_ _ F=>ww F T;let DG:ZC l.prog w K mg a 2 "_law_great" Tn (Zm):=L37.of λ_ _ F=>qe F T k;let DT:ZC l.prog w K mg a 2 "_law_text" TY (VE):=L38.of λ_ _ F=>vx F T k;let DN:ZC l.prog w K mg a 1 "has_few_figures" Tv (Uq):=L4.of λ_ _ F=>yb F T;let e6:ZC l.prog w K mg a 1 "is_sign" TX (Va):=L5.of λ_ _ F=>vb F;let e8:ZC l.prog w K mg a 1 "is_sign" TX (PR):=L5.of λ_ _ F=>M' F;let a1:ZC l.prog w K mg a 6 "is_key" TQ (Vm):=L1.of λ_ _ F=>A6 F T (Br T L3 DN e6 4);let DC:ZC l.prog w K mg a 7 "checked" TQ (Qr):=L2.of λ_ _ F=>lO F a1;let e9:ZC l.prog w K mg a 6 "standing" TK (US 5):=E6 T L7 5;let p:ZC l.prog w K mg a 7 "ahead" Tx (Xv):=L6.of λ_ _ F=>A3 F e9;let e0:ZC l.prog w K mg a 8 "rise" TM (Vg):=L10.of λ_ _ F=>uz F T p;let x:ZC l.prog w K mg a 8 "own_rows" T3 (XL):=L9.of λ_ _ F=>mK F DC;let P:ZC l.prog w K mg a 9 "checked_rows" T3 (Wm):=L8.of λ_ _ F=>oJ F T x e0;let a4:ZC l.prog w K mg a 1 "label_of_rows" T3 (WK):=L11.of λ_ _ F=>mF F T;let c7:ZC l.prog w K mg a 8 "rise" TM (Vh):=L10.of λ_ _ F=>qw F T p;let O:Zt l.prog w K mg a 9 "checked_rows" T3 (XU CNL):=L8.ofD λ_ _ F=>mI F kb T l0 x c7;let i7:ZP l.prog w K mg a (Yl l.prog w) 10 jP "put_leaf" Tz (λo H Q E=>WI jP jQ o H Q E\/Y0 jP jQ CNL o H Q E):=Mm1.of λ_ _ F=>Jv (lg (kE F c P a4 B)) (kq F O) (zW _);let y:ZC l.prog w K mg a 8 "stand_side_by_side" Tu (Vj):=L13.of λ_ _ F=>Ay F T p;let c4:ZC l.prog w K mg a 9 "label_over" TD (Vp):=L12.of λ_ _ F=>pa F T y;let c3:Zt l.prog w K mg a 9 "label_over" TD (We CNS):=L12.ofD λ_ _ F=>rj F kb T l1 y;let i8:ZP l.prog w K mg a (Yl l.prog w) 10 jP "put_stem" T0 (λo H Q E=>Xk jP jQ o H Q E\/Yx jP jQ CNS o H Q E):=Mm2.of λ_ _ F=>Jv (kF F T c A c4 r B i9) (kN F T c A c3) (zW _);let z:ZP l.prog w K mg a ZX 2 jP "hold" T9 (VF jP jQ):=Mm25.of λ_ _ F=>A4 F c g;let m:ZC l.prog w K mg a 1 "sign_at" T5 (YT):=L24.of λ_ _ F=>mV F;let U:ZC l.prog w K mg a 1 "is_figure" TX (PH):=L25.of λ_ _ F=>yh F;let c0:Zt l.prog w K mg a 3 "meant_at" T5 (Ve CNT):=L22.ofD λ_ _ F=>pQ F j m e8;let c1:Zt l.prog w K mg a 3 "number_at" T5 (V9 CNT):=L20.ofD λ_ _ F=>xw F T j m U;let i1:Zt l.prog w K mg a 4 "text_at" T5 (Xu CNT):=L21.ofD λ_ _ F=>mP F T j m c0;let e2:Zt l.prog w K mg a 13 "read_many" ["text"] (Xh CNT):=L18.ofD λ_ _ F=>kW F T j (CU T j L19 L23 m c1 i1 4);let c5:Zt l.prog w K mg a 3 "pairs_of" Tr (Xp CR):=L32.ofD λ_ _ F=>pN F T d;let i2:Zt l.prog w K mg a 3 "words_of" Th (XX K CR):=L27.ofD λ_ _ F=>qu F T d;let u:Zt l.prog w K mg a 3 "number_for" TU (Yc CR):=L29.ofD λ_ _ F=>nV F d;let e3:Zt l.prog w K mg a 4 "read_root" TU (YR CR):=L28.ofD λ_ _ F=>kK F u;let e1:Zt l.prog w K mg a 14 "read_leaf" Tj (Yg CR jP jQ):=L31.ofD λ_ _ F=>kB F c d D.h i7 c5 e2;let e4:Zt l.prog w K mg a 11 "read_stem" Ta (Yi CR jP jQ):=L33.ofD λ_ _ F=>kJ F c d D.h z i8;let e5:Zt l.prog w K mg a 15 "read_twig" Tl (YB CR jP jQ):=L30.ofD λ_ _ F=>kH F d e1 e4 u;let a0:ZC l.prog w K mg a 3 "held" TZ (Vl jP jQ):=L15.of λ_ _ F=>sd F c z;let N:ZC l.prog w K mg a 4 "check_root" TZ (Yn jP jQ):=L14.of λ_ _ F=>kz F c r;let a7:IW l.prog w K mg a 5 CTb Tt (Wn jP jQ CTb):=by let#[f,i,v,n,F]:=IjB.ex;show#[f,i,#[mkCTb,v,n,kpCTb],xi F C N,F.binds.1,F.binds.2]
 let i3:ZP l.prog w K mg a ZX 12 jP "drop_unheld" T9 (XM 9 jP jQ):=EA Mm27 c t g a2 9;let i5:ZP l.prog w K mg a ZX 13 jP "let_go" T9 (Vr jP jQ):=Mm26.of λ_ _ F=>wr F c r g i3;let c9:ZC l.prog w K mg a 14 "release" TZ (XT jP jQ):=L16.of λ_ _ F=>ma F c i5;let Y:Zt l.prog w K mg a 15 "give_up" To (λo H Q E=>X1 jP jQ o H Q E\/XN CR jP jQ o H Q E):=L34.ofD λ_ _ F=>Jv (nU F c t c9) ((lh F c d t).mono (by decide)) (zW _)
 let c8:Zt l.prog w K mg a 16 "read_shelf" T3 (Zw K CR):=L26.ofD λ_ _ F=>kj F T c C d a8 a7 a0 e3 i2 e5 Y;let DK:ZC l.prog w K mg a 6 "_law_key" TL (WM 4):=Di T L39 k DG DT 4;let q:ZC l.prog w K mg a 5 "_law_rank" T1 (Yb 4):=Hz T L40 4;let c6:ZC l.prog w K mg a 6 "_law_rank" T1 (Yb 5):=Hz T L40 5;let a3:ZC l.prog w K mg a 9 "_law_keys" T2 (UR):=L41.of λ_ _ F=>A2 F T DK c6;let DV:ZC l.prog w K mg a 7 "_law_value" TY (Vk):=L42.of λ_ _ F=>qb F k DK;let a6:ZC l.prog w K mg a 5 "_law_show" T1 (VC 4):=Bf T L43 4;let i0:ZC l.prog w K mg a 6 "_law_twig_row" Tf (XF):=L47.of λ_ _ F=>lN F T a6;let S:ZC l.prog w K mg a 1 "_law_end_row" Ts (Xy):=L49.of λ_ _ F=>mZ F T;let L:ZC l.prog w K mg a 6 "_law_by_keys" S2 (Xt):=L46.of λ_ _ F=>oP F T q;let M:ZC l.prog w K mg a 7 "_law_branches" Tc (Yw):=L45.of λ_ _ F=>A0 F T k L q;let V:ZC l.prog w K mg a 10 "_law_forest" TY (Xz):=L44.of λ_ _ F=>oj F T k a3 DV M;let R:ZC l.prog w K mg a 2 "_law_ends" Td (Vs):=L48.of λ_ _ F=>sf F T k;let a5:ZC l.prog w K mg a 17 "_law_refused" Tg (XW K):=L50.of λ_ _ F=>lG F T d I c8;let J:ZC l.prog w K mg a 2 "_law_bad_row" Ty (Ye K):=L51.of λ_ _ F=>mY F T k;let c2:ZC l.prog w K mg a 6 "_law_not_ahead" TJ (Wz K):=L52.of λ_ _ F=>kU F T k q;let e7:ZC l.prog w K mg a 7 "_law_spoilt" TJ (Wz K):=L53.of λ_ _ F=>nj F T k J c2;show yy (NK (st:=OG) l54 c54 k54) T DW V R i0 S e7 a5
theorem walk{l:rD}{q:ao}{c:jr}{o:(jb)->aE->Prop}{i:ax->aE->Prop}{d:DefRec}{K:Params->zZ}(v:l.most\63)(g:d.params.defaults=[])(r:∀ (w:ax) (h:aE),i w h->(K w.params).In h)(F:∀ (w:ax) (e:jb) (j:al) (h:aE),(K w.params).In h->h.Ns ar e->e d.name=Z' (.ref j) ->
   ∃ m:aq,(∀ (s:am) (u:ak),BindsTo s m #[[u],[]] [("_law_script",u)])/\∀ b:aE,(K w.params).In b->b.Ns ar e->ZI l.prog w (K w.params) e b ZX 18 j m S1 (Uk (K w.params))):
  PySem.W.WalkO q c o i l.row.toRowW d [] (λf A=>PySem.call f A):=
 L2.Ko (n:=63) (k:=18) (x:= "_law_script") (CX:=λ_=>ZX) (sp:=λw=>Uk (K w.params)) v (by decide) g #[Z,by decide,by decide] r F (λ_ _ a y t _ p=>#[a,y,Z,p,t,λ_=>rfl]) λ_ _ _ _ _ z=>z
end Tw
open PySem PySem.W PyProof.Rows
namespace PySem.W.Fast
local macro_rules|`(universe $x*)=>Lean.MonadRef.withRef .missing do return .node .none `null (←(x++(Array.range 1078).map λi=>Lean.mkIdent (.mkSimple s!"tw{((`PySem.Challenge).str "cw_twigmap_k93_rows_refused_holds"|>.str s!"o_{i}").hash}")).mapM λi=>`(noncomputable def $i:ident:=0))
universe tw1024793449065871997 tw1107727954425629499 tw12098260191952380001 tw12295626249175590407 tw12572471570044254362 tw12968171902404747259 tw13000427594536873216 tw13225944321945993459 tw1355996713529865761 tw13772988299351464017 tw15492577331736919030 tw16390886988703978670 tw16686738469042831952 tw17495980547907316895 tw17552736974087796322 tw17711714020501055512 tw17727733980890310287 tw17820745821947911536 tw1807065790026416401 tw2164252435265969338 tw2337080922284423563 tw2439005189956750042 tw2551106056250823358 tw2711959505402067783 tw3394567142935402847 tw3745447295279200676 tw399143776876588945 tw4331954596494285731 tw4810415115575726193 tw4840933217635628020 tw5089251158415780720 tw5651589826831249257 tw5977436740004854193 tw6347918082598485091 tw6473108635411530962 tw7634056777214197717 tw7787049368643200158 tw7823383610562979252 tw7899383612823609969 tw8095787396845767043 tw8479561771778380953 tw9180661691106714493
end PySem.W.Fast
set_option maxRecDepth 100000 in
set_option maxHeartbeats 0 in
theorem PySem.Challenge.cw_twigmap_k93_rows_refused_holds : PySem.Challenge.rw_twigmap_k93_rows_refused.Holds := by
 w_on;o_law;k_head;(case hw=>w_witness2)
 k_fill
 show Tw.walk (l:=PySem.Challenge.rw_twigmap_k93_rows_refused) Z Z (λw h Y=>PySem.W.kIn_of Y) ?qFun
 case qFun=>
  intro w mg fa h KX G hmg;refine' Tw.Hk KX G hmg (Tw.JK KX G ?a1 ?l1 ?c1 ?k1) (Tw.JK KX G ?a2 ?l2 ?c2 ?k2) (Tw.JK KX G ?a3 ?l3 ?c3 ?k3) (Tw.JK KX G ?a4 ?l4 ?c4 ?k4) (Tw.JK KX G ?a5 ?l5 ?c5 ?k5) (Tw.JK KX G ?a6 ?l6 ?c6 ?k6) (Tw.JK KX G ?a7 ?l7 ?c7 ?k7) (Tw.JK KX G ?a8 ?l8 ?c8 ?k8) (Tw.JK KX G ?a9 ?l9 ?c9 ?k9) (Tw.JK KX G ?A0 ?A1 ?A2 ?A3) (Tw.JK KX G ?A4 ?A5 ?A6 ?A7) (Tw.JK KX G ?A8 ?A9 ?Aa ?Ab) (Tw.JK KX G ?Ac ?Ad ?Ae ?Af) (Tw.JK KX G ?Ag ?Ah ?Ai ?Aj) (Tw.JK KX G ?Ak ?Al ?Am ?An) (Tw.JK KX G ?Ao ?Ap ?Aq ?Ar) (Tw.JK KX G ?As ?At ?Au ?Av) (Tw.JK KX G ?Aw ?Ax ?Ay ?Az) (Tw.JK KX G ?B0 ?B1 ?B2 ?B3) (Tw.JK KX G ?B4 ?B5 ?B6 ?B7) (Tw.JK KX G ?B8 ?B9 ?Ba ?Bb) (Tw.JK KX G ?Bc ?Bd ?Be ?Bf) (Tw.JK KX G ?Bg ?Bh ?Bi ?Bj) (Tw.JK KX G ?Bk ?Bl ?Bm ?Bn) (Tw.JK KX G ?Bo ?Bp ?Bq ?Br) (Tw.JK KX G ?Bs ?Bt ?Bu ?Bv) (Tw.JK KX G ?Bw ?Bx ?By ?Bz) (Tw.JK KX G ?C0 ?C1 ?C2 ?C3) (Tw.JK KX G ?C4 ?C5 ?C6 ?C7) (Tw.JK KX G ?C8 ?C9 ?Ca ?Cb) (Tw.JK KX G ?Cc ?Cd ?Ce ?Cf) (Tw.JK KX G ?Cg ?Ch ?Ci ?Cj) (Tw.JK KX G ?Ck ?Cl ?Cm ?Cn) (Tw.JK KX G ?Co ?Cp ?Cq ?Cr) (Tw.JK KX G ?Cs ?Ct ?Cu ?Cv) (Tw.JK KX G ?Cw ?Cx ?Cy ?Cz) (Tw.JK KX G ?D0 ?D1 ?D2 ?D3) (Tw.JK KX G ?D4 ?D5 ?D6 ?D7) (Tw.JK KX G ?D8 ?D9 ?Da ?Db) (Tw.JK KX G ?Dc ?Dd ?De ?Df) (Tw.JK KX G ?Dg ?Dh ?Di ?Dj) (Tw.JK KX G ?Dk ?Dl ?Dm ?Dn) (Tw.JK KX G ?Do ?Dp ?Dq ?Dr) (Tw.JK KX G ?Ds ?Dt ?Du ?Dv) (Tw.JK KX G ?Dw ?Dx ?Dy ?Dz) (Tw.JK KX G ?E0 ?E1 ?E2 ?E3) (Tw.JK KX G ?E4 ?E5 ?E6 ?E7) (Tw.JK KX G ?E8 ?E9 ?Ea ?Eb) (Tw.JK KX G ?Ec ?Ed ?Ee ?Ef) (Tw.JK KX G ?Eg ?Eh ?Ei ?Ej) (Tw.JK KX G ?Ek ?El ?Em ?En) (Tw.JK KX G ?Eo ?Ep ?Eq ?Er) (Tw.JK KX G ?Es ?Et ?Eu ?Ev) ?Ew ?Ex ?Ey ?Ez ?z1 ?z2 ?z3 ?z4 ?z5 ?z6 ?z7 ?z8 ?z9 ?F0 ?F1 ?F2 ?F3 ?F4 ?F5 ?F6 ?F7 ?F8 ?F9 ?Fa ?Fb ?Fc ?Fd ?Fe ?Ff ?Fg (Tw.LG ?Fh ?Fi ?Fj ?Fk ?Fl) (Tw.LG ?Fm ?Fn ?Fo ?Fp ?Fq) (Tw.Mc ?Fr ?Fs ?Ft ?Fu ?Fv ?Fw) (Tw.LG ?Fx ?Fy ?Fz ?G0 ?G1) (Tw.LG ?G2 ?G3 ?G4 ?G5 ?G6) (Tw.Mn ?G7 ?G8 ?G9 ?Ga ?Gb) (Tw.Mn ?Gc ?Gd ?Ge ?Gf ?Gg) (Tw.Mn ?Gh ?Gi ?Gj ?Gk ?Gl) (Tw.Mn ?Gm ?Gn ?Go ?Gp ?Gq) (Tw.Mn ?Gr ?Gs ?Gt ?Gu ?Gv) (Tw.Mn ?Gw ?Gx ?Gy ?Gz ?H0) (Tw.Mn ?H1 ?H2 ?H3 ?H4 ?H5) (Tw.Mn ?H6 ?H7 ?H8 ?H9 ?Ha) (Tw.Mn ?Hb ?Hc ?Hd ?He ?Hf) (Tw.Mn ?Hg ?Hh ?Hi ?Hj ?Hk) (Tw.Mn ?Hl ?Hm ?Hn ?Ho ?Hp) (Tw.Mn ?Hq ?Hr ?Hs ?Ht ?Hu) (Tw.Mn ?Hv ?Hw ?Hx ?Hy ?Hz) ?I0 ?I1 ?I2 ?I3 ?I4 ?I5 ?I6 ?I7 ?I8 ?I9 ?Ia ?Ib ?Ic ?Id ?Ie ?If ?Ig ?Ih ?Ii ?Ij ?Ik ?Il ?Im ?In ?Io ?Ip ?Iq ?Ir ?Is ?It ?Iu ?Iv ?Iw ?Ix ?Iy ?Iz ?J0 ?J1 ?J2 ?J3 ?J4 ?J5 ?J6
  (case I0|I1|I2|I3|I4|I5|I6|I7|I8|I9|Fh|Fm|Fr|Fx|G2|G7|Gc|Gh|Gm|Gr|Gw|H1|H6|Hb|Hg|Hl|Hq|Hv=>k_is)
  (case J1|J2|J3|J4|J5=>kernel_rfl)
  all_goals try k_is
  all_goals try k_is
