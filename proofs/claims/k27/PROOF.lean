import PyProof.Rows.All
import Wide.All
import OpenK.AllK
import Wide.FinOn
import Lean
import PyProof.EqAt
import PyProof.EqKinds
import PyProof.TupleCall
import PyProof.NsDelKeeps
import PyProof.ExcBaseAll.ValueError
import KE.KIsAll
import PyProof.ExcArgsOwn
import PyProof.ExcAttrAll.ValueError
import PyProof.NeKinds
import KE.KLam
import PyProof.Rows.SumAny
import PyProof.ListMulRoad
import PyProof.FactsAll.tuple
import KE.KDictList
import PyProof.Rows.SortWalk
import KE.KEqDict
import KE.KRevIter
import PyProof.InstStoreFacts
import PyProof.ExcClass3
import PyProof.WalkInts
import PyProof.SeqI3
import KE.KSortTup
import PyProof.TupleKey
import PyProof.DictFindH
import KE.KFind
import PySem.Challenge.RW_twigmap_k27_labels_and_looks
open PySem renaming wpAny_bind→aa,wpAny_pure→ad,wpAny_mono→ae,wpAny_holding→af,wpAny_Call_Name_kw→ag,wpAny_standAt→ah,Value→ai,Addr→aj,Shared→ak,Program→am,FuncData→ao,mainGlobals→ap,sizeLine→aq,starEach→ar,World→aw,Around→ax,bootBuiltins→ay,compareOp→az,model→aA,wpAny→aB,Stmt→aC,Heap→aD,Scope→aE,backTo→aF,codeAny→aG,eval→aH,Obj→aI,Pos→aJ
universe u
noncomputable section
def aK{p:Prop}[Decidable p](h:¬p):decide p=false:=decide_eq_false h
def aM{p:Prop}[Decidable p](h:p):decide p=true:=decide_eq_true h
def aO{c:Prop}{h:Decidable c}(n:¬c){α:Sort u}{t e:α}:(ite c t e)=e:=if_neg n
def aP{c:Prop}{h:Decidable c}(n:c){α:Sort u}{t e:α}:(ite c t e)=t:=if_pos n
set_option compiler.extract_closed false
set_option Elab.async false
set_option linter.all false
set_option maxRecDepth 100000
set_option maxHeartbeats 8000000
open PySem.W renaming Frag->zZ,nsIn->zK,findIn->zA,mg_of->yW,mroIn->yU,keepIn->yN,kitOne->yK,mg_none_of->xU,Looks->yE,typeIn->xX,fnOf->xZ,kia_one->xK,emptyDict->wK,codeIn->xE,tabIn->xG,CodeHd->wO,instObj->wF,hasDictIn->vP,callWith_K->uY,kla_obj->vQ,plainGet->uR,isFn->wH,hideAll->vB,looks_findIn->sR,looks_mroIn->sV,of_hideAll->sY,envX->vH,tabObj->uJ,lookIn->uK,plainOver->tG,excIn->tZ,kas_item->sK,any_some->sL,methodCall_KW->rA,makesIn->tJ,OpenLaw->tK,hideAll_none->rC,plainGet_of->rF,looks_clsIn->rG,hideAll_get->rH,callWith_K0->rJ,methodObj->rN,kat_cons->rQ,takerIn->rT,kat_yes->rV,noTabs->rZ,kat_no->sB,kat_go->sC,KdlSrc->sE,InstAt->sF,WalkO->qY,cellsFrom_some->mJ,looks_typeIn->mw,tail_of_in->ml
open List renaming getElem?_eq_getElem->zW,getD_eq_getElem?_getD->zV,length_map->zX,mem_cons_self->zT,getElem?_map->zO,size_toArray->zM,mem_cons_of_mem->zE,mem_singleton->zI,length_append->zG,getElem?_eq_some_iff->yO,mem_of_getElem?->yY,take_of_length_le->yQ,all_eq_true->zF,mem_append->zC,length_cons->yX,mem_map->zL,mem_append_right->yF,mem_cons->zD,map_map->zH,map_append->yT,mem_append_left->yG,range->zP,take_add_one->yI,mem_filter->yM,length_singleton->xS,getElem_mem->yH,map_cons->yL,getElem?_append_right->wY,drop_eq_getElem_cons->wZ,eq_nil_of_length_eq_zero->wJ,getElem?_append_left->wP,pairwise_append->xI,take_append_drop->wQ,nodup_cons->xR,flatMap_cons->xJ,lookup_cons->xB,length->xY,append_assoc->wR,mem_range->xL,append_nil->xD,length_take->wS,pairwise_iff_getElem->uS,mem_flatMap->wL,find?_cons->wM,filter_cons->wD,pairwise_cons->vM,find?_eq_none->vN,extract_eq_take_drop->tX,length_dropLast->uT,getElem?_set_ne->uU,length_set->wG,take_succ_cons->uV,lookup->xH,length_pos_iff->uW,filter_sublist->uX,exists_mem_of_length_pos->sI,getElem?_set_self->tY,mem_filterMap->uZ,length_filter_le->tS,getElem?_eq_none->tU,cons_lt_cons_iff->tV,nodup_append->uO,filter_congr->uP,replicate->vR,length_drop->vA,getElem_of_mem->uA,filter_append->uC,drop_of_length_le->sQ,length_range->uE,take_zero->vC,drop_drop->vD,toArray->vS,eq_nil_or_concat->sS,concat_eq_append->sT,all_map->vT,Sublist->vU,Perm->wX,mem_reverse->uG,cons_append->uH,dropLast_concat->sW,dropLast_concat_getLast->qQ,any_cons->vF,not_lt_nil->uI,map_congr_left->sZ,filterMap_cons->tE,map_nil->vI,erase_sublist->tH,ne_nil_of_length_pos->qL,mem_of_find?_eq_some->qM,getElem?_take_of_lt->qP,not_mem_nil->tL,pairwise_reverse->rD,foldl_cons->tO,dropLast_eq_take->rE,toList_toArray->rK,length_reverse->rL,getElem?_drop->rP,all_cons->tQ,take_succ_eq_append_getElem->qB,reverse_perm->rR,eraseIdx_eq_take_drop_succ->qE,nil_lt_cons->rX,mem_toArray->rY,sum_append->qU,of_mem_zip->qV,length_nil->qW,find?_some->qX,perm_ext_iff_of_nodup->mK,drop_zero->mX,sum_cons->mV,pairwise_singleton->mu,length_eq_zero_iff->ms,getLast_eq_getElem->mo,getElem_cons_drop->mn,perm_append_comm->mj,mem_of_mem_erase->mh,countP_mono_left->md
open PySem.Heap renaming get?_push_of_some->zS,lt_size->zU,get?_push_size->yS,get?_update_other->xV,get?_update_self->wC,size_push->vE,SameBut->vV,get?_none_of_le->sX,get?_update_ne->rM
open Nat renaming le_refl->zY,le_of_ble_eq_true->yR,le_trans->zR,lt_of_lt_of_le->yV,ne_of_lt->zJ,zero_le->yZ,lt_succ_self->yA,lt_of_le_of_lt->xO,le_of_lt->yJ,exists_eq_add_of_le->wB,le_succ->xW,le_of_not_lt->wT,lt_or_ge->xM,le_add_right->wE,lt_irrefl->wV,ne_of_gt->wW,succ->xT,lt_succ_of_lt->uQ,add_sub_cancel_left->sP,le_succ_of_le->uF,le_of_eq->vW,add_assoc->vG,not_lt_zero->uL,add_le_add_left->tF,lt_of_add_lt_add_left->qN,le_of_add_le_add_left->qO,not_lt->vZ,succ_le_succ->tN,zero_add->uN,sub_le->vJ,sub_lt_sub_left->rO,min_le_right->sG,add_le_add->mW
open Bool renaming false_ne_true->zN,and_eq_true->zQ,eq_iff_iff->wU,false_eq_true->vO,eq_false_iff->tI,false_and->tP,true_and->tR,not_eq_true'->rS
open PySem.F renaming plainAttrs_list->yP,type_list_append->xP,slot_list_append->xQ,plain_max_loop->vL,type_list_clear->sM,slot_list_clear->sN,slot_tuple_mul->sO,entry_max_loop->qZ,slot_dict_get->rB,excBase_ValueError->qF,type_list_remove->qH,store_ValueError->qI,slot_list_remove->qJ,args_tuple_mul_2->pW,args_tuple_add_2->pX,type_list_index->pZ,slot_tuple_rmul->qA,slot_list_index->mS,plain_list_iadd->mR,plainAttrs_dict->mQ,entry_tuple_mul->mP,entry_tuple_add->mM,args_dict_get_3->mL,slot_tuple_add->mI,entry_dict_get->mH,type_list_pop->mE,slot_list_pop->mD,slot_int_rmul->mz,slot_dict_pop->my
open Option renaming map_eq_some_iff->yB,some->zB,isSome_iff_exists->qK,map_some->tM,ne_none_iff_exists'->qG,bind_eq_some_iff->mG,none->mT
open Array renaming getElem?_toList->yC,length_toList->yD,toList_append->xA,getElem?_eq_some_iff->vK,toList_extract->tW,getElem?_eq_getElem->sH,append_assoc->uB,perm_iff_toList_perm->qR,toList_push->sJ,toList_eraseIdxIfInBounds->qC,toList_inj->rW,toList_setIfInBounds->pY,toList->mU,toList_reverse->ma,toArray_toList->lZ
open Int renaming le_refl->xN,emod_lt_of_pos->uD,le_trans->vX,le_of_lt->vY,emod_nonneg->uM,toNat->wA,fdiv_eq_ediv_of_nonneg->mF
open PySem.Str renaming ofString->wI
open PyProof.Rows renaming wpS_bind->jX,wpS_pure->jY,arrOf->jZ,SortSt->ke,pendingOf->kf,wpS_forRange->ki,wpS_mono->kj,Keyed->km,setArr->kn
local macro_rules|`(tactic|exists $e,*)=>`(tactic|refine #[$e,*, ?_])
def Z{α:Sort u}{a:α}:a=a:=rfl
local macro_rules|`(())=>`(by lia)
local macro_rules|`(nofun)=>`(by lia (splits:=8))
local macro_rules|`(tactic|let $d:letDecl)=>let n:=d.raw[0];let l(s:Lean.Syntax)k:Lean.Syntax:=.node .none `Lean.Parser.Tactic.rcasesPatLo #[.node .none `Lean.Parser.Tactic.rcasesPatMed #[Lean.mkNullNode #[.node .none k s.getArgs]],Lean.mkNullNode];if n.getKind== ``Lean.Parser.Term.letPatDecl then let m:Lean.TSyntax `Lean.Parser.Tactic.rcasesPatMed:=⟨(n[0].rewriteBottomUp λs=>match s.getKind with|`ident=>l (Lean.mkNullNode #[s]) `Lean.Parser.Tactic.rcasesPat.one|`Lean.Parser.Term.hole=>l s `Lean.Parser.Tactic.rcasesPat.ignore|`Lean.Parser.Term.anonymousCtor=>l s `Lean.Parser.Tactic.rcasesPat.tuple|`«term#[_,]»=>l s `Lean.Parser.Tactic.rcasesPat.tuple|_=>s)[0]⟩;`(tactic|obtain $m:rcasesPatMed:=$(⟨n[4]⟩)) else `(tactic|have $d:letDecl)
local macro_rules|`(#[$x,*])=>do let r←`(rfl);let h←`(_);let y:=x.getElems.flatMap λe=>match e.raw.isNatLit? with|some n=>(Array.replicate n #[h,r]).flatten|_=>#[e];`(⟨$y,*⟩)
local macro_rules|`($x\$y)=>`($x=some $y)
local macro_rules|`(tactic|rwa[$r,*])=>let a:=r.getElems;`(tactic|(rw[$(a.pop),*];exact $(⟨a.back!.raw[1]⟩)))
local macro_rules|`(tactic|erw[$r,*] at $h:ident)=>`(tactic|(rw[$r,*] at $h:ident;cases $h:ident))
local macro_rules|`(↑$x)=>`(($x).length)
local macro_rules|`(⇑$x)=>`(($x).toArray)
open Option renaming some->Z',none->Y'
open Bool renaming true->X'
local macro_rules|`($x[$i]!)=>`(($x).getD ($i) .d)
local macro_rules|`(#v[$x,*])=>let a:=x.getElems;if a.size==1 then `(by simpa using $(a.back!)) else `(by rw[$[$(a.pop):term],*];exact $(a.back!))
local macro_rules|`(⋯)=>`(by simp)
local macro_rules|`(↥$x)=>if x.raw.isIdent then `(aA ($x).prog ($x).w) else `(aA $(Lean.mkIdent `prog) $(Lean.mkIdent `w))
local macro_rules|`(tactic|show $t)=>`(tactic|refine $t)
local macro_rules|`(-$f:ident $a*)=>`($f $(Lean.mkIdent `P) $(Lean.mkIdent `w) $(Lean.mkIdent `K) $(Lean.mkIdent `mg) $(Lean.mkIdent `kF) $a*)
local macro_rules|`(‹$x:ident›)=>`($(Lean.mkIdent (x.getId++`heap.objs.size)))
local macro_rules|`(#[])=>`(by intro _ z;cases z)
local macro_rules|`(#v[])=>`(by intro _ _ _ z;cases z)
local macro_rules|`(!$x:ident)=>`(.ref $x)
local macro_rules|`($x|||$y)=>`(($x).trans $y)
open Decidable renaming decide->ng
open Sum renaming inl->mY
def mZ{a:Prop}{b:Sort u}(h:a)(n:¬a):b:=absurd h n
local macro_rules|`(-$x:ident)=>`(.int $x)
local macro_rules|`(!$f:ident $a*)=>if f.getId== `ZD||f.getId== `ZB then `($f $(Lean.mkIdent `l.prog) $(Lean.mkIdent `w) $(Lean.mkIdent `K) $(Lean.mkIdent `mg) $(Lean.mkIdent `a) $a*) else `(not ($f $a*))
abbrev ja:=PySem.Value->PySem.Shared->Prop
abbrev jc:=PySem.Str->Option PySem.Value
abbrev jd:=Option PySem.Value
abbrev je:=List PySem.Value
abbrev V':List PySem.Str:=["self","number"]
abbrev T1:List PySem.Str:=["_law_twigs","_law_number"]
abbrev T2:List PySem.Str:=["self","numbers"]
abbrev Tl:List PySem.Str:=["_law_well_here","_law_twigs","_law_holds","_law_grid_here"]
abbrev TY:List PySem.Str:=["_law_found","_law_due"]
abbrev TQ:List PySem.Str:=["_law_well_here","_law_many"]
abbrev TR:List PySem.Str:=["_law_well_here","_law_some"]
abbrev Tv:List PySem.Str:=["_law_well_here","_law_state","_law_block"]
abbrev TU:List PySem.Str:=["self","stem","branches"]
abbrev T':List PySem.Str:=["self"]
abbrev S7:List PySem.Str:=["_law_way","_law_well_here","_law_state","_law_number"]
abbrev Tx:List PySem.Str:=["_law_shelf","_law_number","_law_twig"]
abbrev Tn:List PySem.Str:=["_law_twigs","_law_holds","_law_number"]
abbrev To:List PySem.Str:=["_law_twigs","_law_numbers","_law_high"]
abbrev S8:List PySem.Str:=["_law_well_here","_law_grid_here","_law_block"]
abbrev S9:List PySem.Str:=["_law_well_here","_law_state","_law_seen_here"]
abbrev Ta:List PySem.Str:=["_law_well_here","_law_leaves","_law_stems"]
abbrev Tq:List PySem.Str:=["_law_well_here","_law_state"]
abbrev Ts:List PySem.Str:=["_law_holds","_law_numbers"]
abbrev Tb:List PySem.Str:=["_law_shelf","_law_seen_here"]
abbrev TZ:List PySem.Str:=["rows"]
abbrev Tf:List PySem.Str:=["_law_one","_law_other"]
abbrev Tg:List PySem.Str:=["self","things","label"]
abbrev TJ:List PySem.Str:=["thing","room"]
abbrev Th:List PySem.Str:=["self","things","tag"]
abbrev Ti:List PySem.Str:=["self","road","label"]
abbrev SX:List PySem.Str:=["_law_twigs","_law_holds"]
abbrev SY:List PySem.Str:=["self","number","numbers"]
abbrev Tj:List PySem.Str:=["label","following"]
abbrev SZ:List PySem.Str:=["_law_script","_law_k"]
abbrev Tc:List PySem.Str:=["self","number","rows"]
abbrev TV:List PySem.Str:=["thing"]
abbrev Ty:List PySem.Str:=["one","other"]
abbrev Tt:List PySem.Str:=["self","labels"]
abbrev TF:List PySem.Str:=["_law_key"]
abbrev SV:List PySem.Str:=["self","number","twig"]
abbrev Td:List PySem.Str:=["_law_well_here"]
abbrev SU:List PySem.Str:=["_law_shelf","_law_handed"]
abbrev TK:List PySem.Str:=["twig"]
abbrev Tu:List PySem.Str:=["_law_call"]
abbrev Te:List PySem.Str:=["self","rows"]
abbrev TL:List PySem.Str:=["key"]
abbrev Tz:List PySem.Str:=["labels"]
abbrev TD:List PySem.Str:=["number"]
abbrev SW:List PySem.Str:=["_law_script"]
abbrev jq:=List Nat
abbrev ju:=Array PyProof.Rows.Keyed
abbrev jv:=List PySem.Str
abbrev jw:=List (aj×aI)
abbrev jx:=List aj
abbrev jz:=List Int
abbrev jA:=Array ai
abbrev jB:=Option aj
abbrev jC:=List PySem.Expr
abbrev jE:=List PyProof.Rows.Keyed
abbrev jF:=List PySem.Env
abbrev jG:=List (PySem.Str×aj)
abbrev jJ:=Option Int
abbrev jL:=Option Nat
abbrev jO:=List (PySem.Str×ai)
abbrev jP:=List (Int×Int×Int)
abbrev jQ:=List aC
abbrev jR:=Array (Nat×Nat×Nat)
abbrev jS:=Option Bool
abbrev jT:=Option PySem.Expr
abbrev jU:=List Bool
def lq1{p:je->Prop}(h:∀ a,p [a]):∀ z,↑z=1->p z|[a],_=>h a
def lq2{p:je->Prop}(h:∀ a b,p [a,b]):∀ z,↑z=2->p z|[a,b],_=>h a b
def lq3{p:je->Prop}(h:∀ a b c,p [a,b,c]):∀ z,↑z=3->p z|[a,b,c],_=>h a b c
def lq4{p:je->Prop}(h:∀ a b c d,p [a,b,c,d]):∀ z,↑z=4->p z|[a,b,c,d],_=>h a b c d
def lq5{p:je->Prop}(h:∀ a b c d e,p [a,b,c,d,e]):∀ z,↑z=5->p z|[a,b,c,d,e],_=>h a b c d e
namespace Tw
open PySem PySem.Spec PyProof.Rows
abbrev ZQ:=Sum Int Str
abbrev jI:=List ZQ
abbrev jW:=List (ZQ×ai)
noncomputable def OA:ZQ->ai->Bool
 |.inl k,v=>Value.isInt k v
 |.inr x,v=>Value.isStrOf x v
def Bf(w:aw):ZQ->Int
 |.inl k=>hashInt k
 |.inr x=>hashStr w x
def Q2:∀{k:ZQ}{v:ai},OA k v=X'->(∃ i t,k=mY i/\v=Value.int i t)\/(∃ x t,k=Sum.inr x/\v=Value.str x t)
 |.inl i,v,h=>by
  let#[t,e]:=Value.isInt_shape (k:=i) (v:=v) h;show .inl #[i,t,Z,e]
 |.inr x,v,h=>by
  let#[t,e]:=Value.isStrOf_shape (x:=x) (v:=v) h;show .inr #[x,t,Z,e]
def qr(i:Int)(t:Tok):OA (.inl i) (.int i t)=X':=by simp[OA,Value.isInt]
def qv(x:Str)(t:Tok):OA (.inr x) (.str x t)=X':=by simp[OA,Value.isStrOf]
def AI(a b:Int):ng ((mY a:ZQ)=mY b)=(a==b):=by
 by_cases e:a=b
 .subst e;simp
 .let h:¬ (mY a:ZQ)=mY b:=λq=>e (Sum.inl.inj q);rwa[aK h,(beq_eq_false_iff_ne.mpr e).symm]
def Rf(a b:Str):ng ((Sum.inr a:ZQ)=Sum.inr b)=ng (a=b):=by
 by_cases e:a=b
 .subst e;simp
 .let h:¬ (Sum.inr a:ZQ)=Sum.inr b:=λq=>e (Sum.inr.inj q);rw[aK h,aK e]
def za(a:Int)(b:Str):ng ((mY a:ZQ)=Sum.inr b)=false:=aK (λq=>nomatch q)
def y8(a:Str)(b:Int):ng ((Sum.inr a:ZQ)=mY b)=false:=aK (λq=>nomatch q)
def Wg(c:am)(w:aw):PySem.KeyKind c w ZQ where
 is:=OA
 hash:=Bf w
 inj:=λv a b g f=>by
  rcases Q2 g with ⟨i,t,rfl,rfl⟩|⟨x,t,rfl,rfl⟩
  .rcases Q2 f with ⟨j,u,rfl,e⟩|⟨y,u,rfl,e⟩
   .injection e with e1 _;rw[e1]
   .show nomatch e
  .rcases Q2 f with ⟨j,u,rfl,e⟩|⟨y,u,rfl,e⟩
   .show nomatch e
   .injection e with e1 _;rw[e1]
 byValue:=λk v h=>by
  rcases Q2 h with ⟨i,t,rfl,rfl⟩|⟨x,t,rfl,rfl⟩ <;> rfl
 pyHash:=λd h=>by
  rcases Q2 d with ⟨i,t,rfl,rfl⟩|⟨x,t,rfl,rfl⟩
  .show wpAny_pyHash_int h
  .show wpAny_pyHash_str h
 eqBool:=λl d h=>by
  rcases Q2 l with ⟨i,t,rfl,rfl⟩|⟨x,t,rfl,rfl⟩
  .rcases Q2 d with ⟨j,u,rfl,rfl⟩|⟨y,u,rfl,rfl⟩
   .rw[AI] at h;show wpAny_eqBool_int h
   .rw[za] at h;show SeqAt.EqAt.int_str i t y u _ _ _ _ h
  .rcases Q2 d with ⟨j,u,rfl,rfl⟩|⟨y,u,rfl,rfl⟩
   .rw[y8] at h;show SeqAt.EqAt.str_int x t j u _ _ _ _ h
   .rw[Rf] at h;show wpAny_eqBool_str h
 «strs» :=λk x t v h=>by
  rcases Q2 h with ⟨i,u,rfl,e⟩|⟨y,u,rfl,e⟩
  .show nomatch e
  .injection e with e1 _;subst e1;cases v<;>rfl
def oy(a:am)(w:aw)(i:Int)(t:Tok):(Wg a w).is (.inl i) (.int i t)=X':=qr i t
def oM(a:am)(w:aw)(x:Str)(t:Tok):(Wg a w).is (.inr x) (.str x t)=X':=qv x t
inductive V where
 |non|bl (b:Bool)|int (i:Int)|str (x:Str)|byt (b:Array UInt8)|flt (b:UInt64)|ref (a:aj)|ty (n:String)
 deriving DecidableEq
abbrev ba:=List (ZQ×V)
abbrev jf:=List V
abbrev jg:=Option V
def ZT:V->ai->Prop
 |.non,u=>u=Value.none
 |.bl b,u=>u=Value.bool b
 |.int i,u=>∃ t,u=Value.int i t
 |.str x,u=>∃ t,u=Value.str x t
 |.byt b,u=>∃ t,u=Value.bytes b t
 |.flt b,u=>∃ t,u=Value.float b t
 |.ref a,u=>u=Value.ref a
 |.ty n,u=>u=Value.type n
abbrev ZR:jf->je->Prop:=Paired ZT
def ZR.length{b:jf}{a:je}(r:ZR b a):↑b=↑a:=Paired.length r
theorem ZR.get:∀{b:jf}{a:je}{i:Nat}{x:V},ZR b a->b[i]?\x->∃ u,a[i]?\u/\ZT x u
 |_,_,_,_,.nil,e=>by simp at e
 |_,_,0,_,.cons r _,e=>by simp at e;subst e;show#[1,r]
 |_,_,i+1,x,.cons _ t,e=>by
  let#[u,c,d]:=ZR.get (i:=i) (x:=x) t #v[e]
  show#[u,#v[c],d]
theorem ZR.set{x:V}{u:ai}(r:ZT x u):∀{b:jf}{a:je}(i:Nat),ZR b a->ZR (b.set i x) (a.set i u)
 |_,_,_,.nil=>.nil
 |_,_,0,.cons _ t=>.cons r t
 |_,_,i+1,.cons q t=>.cons q (ZR.set r i t)
def ZR.append:∀{c d:jf}{a b:je},ZR c a->ZR d b->ZR (c++d) (a++b):=by intro _ _ _ _ h g;induction h with
 |nil=>show g
 |cons r _ e=>show .cons r e
theorem ZR.take:∀{b:jf}{a:je}(n:Nat),ZR b a->ZR (b.take n) (a.take n)
 |_,_,0,_=>.nil
 |_,_,_+1,.nil=>.nil
 |_,_,n+1,.cons r t=>.cons r (ZR.take n t)
theorem ZR.drop:∀{b:jf}{a:je}(n:Nat),ZR b a->ZR (b.drop n) (a.drop n)
 |_,_,0,r=>r
 |_,_,_+1,.nil=>.nil
 |_,_,n+1,.cons _ t=>ZR.drop n t
def Yg:jg->jd->Prop
 |some v,Z' u=>ZT v u
 |none,Y'=>True
 |_,_=>False
def KV{a:Type}:List (a×V)->List (a×ai)->Prop:=Paired fun(p:a×V)(q:a×ai)=>p.1=q.1/\ZT p.2 q.2
def kV:ZQ->V
 |.inl i=>.int i
 |.inr x=>.str x
inductive HO where
 |lst (xs:jf)
 |tup (xs:jf)
 |dK (kvs:ba)|dT (kvs:List (jI×V))
 |set (S:Int->Bool) (n:Nat)
 |ins (C dx:aj) (fs:List (Str×V))
 |own (x:aj)
 |xd (fs:List (Str×V))
 |met (f x:aj)
 |rng (lo hi:Int)
 |frz (o:aI) (u:HO)
 |tbl (ps:jA)
 |ext (φ:aD->Prop)
abbrev Hp:=aj->Option HO
def upd(H:Hp)(a:aj)(o:HO):Hp:=λb=>if b=a then Z' o else H b
def ZP{H:Hp}{a:aj}{o:HO}:upd H a o a\o:=by unfold upd;rw[aP rfl]
def ZM{H:Hp}{a b:aj}{o:HO}(h:b≠a):upd H a o b=H b:=by unfold upd;rw[aO h]
def Mv{H:Hp}{a:aj}{o u:HO}:upd (upd H a o) a u=upd H a u:=by
 funext b;unfold upd;split<;>rfl
def ZE{H:Hp}{a b:aj}{o u:HO}(h:H a\o)(c:H b\u)(d:o≠u:=by intro z;cases z):a≠b:=by
 intro e;subst e;rw[h] at c;show d (zB.inj c)
def ZW{H:Hp}{a b:aj}{o:HO}(h:H a\o)(c:H b=Y'):a≠b:=by
 intro e;subst e;erw[h] at c
section
variable(P:am)(w:aw)
def Zb(H:Hp)(h:aD)(a:aj):HO->Prop
 |.lst c=>↑c<=aq/\∃(b:je)(n:Nat),ZR c b/\h.get? a\{ cls:=.type "list",data:=.seq ⇑b n }
 |.tup c=>↑c<=aq/\∃ b:je,ZR c b/\IsTup h a ⇑b
 |.dK kvs=>↑kvs<=aq/\(a==sysModules)=false/\∃ l,KV kvs l/\h.DictOf (Wg P w) a l
 |.dT kvs=>↑kvs<=aq/\(a==sysModules)=false/\∃ c:List (jI×aj×ai),
   Paired (fun(p:jI×V)(q:jI×aj×ai)=>p.1=q.1/\H q.2.1\.tup (p.1.map kV)/\ZT p.2 q.2.2) kvs c /\
   ∃ o i m,h.get? a\o/\o.ExactDict/\o.data=.dict i m/\i.toList=c.map (entryOfKey (tupleKind (Wg P w)))/\(c.map (·.1)).Nodup
 |.set S n=>h.SetOf (intKind P w) a S n
 |.ins C g e=>H g\.own a/\↑e<=1000/\g≠a/\h.get? a=Z' (wF C g) /\
   ∃ d,h.Ns1 g d/\(∀ f,Yg (e.lookup f) (d f))/\PySem.Within d (e.map (·.1))
 |.own _=>∃ o,h.get? a\o
 |.xd e=>∃ d,h.Ns1 a d/\∀ f,Yg (e.lookup f) (d f)
 |.rng lo r=>∃ t u v,h.get? a\{ cls:=.type "range",data:=.fields ⇑[.int lo t,.int r u,.int 1 v] }
 |.frz o u=>h.get? a\o/\Zb H h a u
 |.tbl ps=>h.get? a\{ cls:=.none,data:=.fields ps }
 |.met f x=>h.get? a\rN (!f) !x
 |.ext φ=>φ h/\(∃ o,h.get? a\o)/\∀ j k:aD,φ j->(∀ o,j.get? a\o->k.get? a\o)->φ k
def YT(H:Hp)(h:aD):=∀ a o,H a\o->Zb P w H h a o
end
section
variable{P:am}{w:aw}{H H':Hp}{h h':aD}{a:aj}{o:HO}
def Zb.lt(x:Zb P w H h a o):a<h.objs.size:=by
 cases o with
 |lst d=>let#[_,_,_,_,e]:=x;show zU e
 |tup d=>let#[_,_,_,p]:=x;show p.lt
 |dK b=>let#[_,_,_,_,o,_,_,e,_]:=x;show zU e
 |dT b=>let#[_,_,_,_,o,_,_,e,_]:=x;show zU e
 |set S n=>let#[o,_,_,_,e,_]:=x;show zU e
 |ins C g c=>let#[_,_,_,e,_]:=x;show zU e
 |own y=>let#[_,e]:=x;show zU e
 |xd c=>let#[_,#[_,_,_,e,_],_]:=x;show zU e
 |rng j i=>let#[_,_,_,e]:=x;show zU e
 |frz k u=>let#[e,_]:=x;show zU e
 |tbl l=>show zU (show h.get? a\_ from x)
 |met f y=>show zU (show h.get? a\_ from x)
 |ext m=>let#[_,#[_,e],_]:=x;show zU e
def Paired.mapP{e g:Type}{F G:e->g->Prop}:∀{c:List e}{d:List g},Paired F c d->(∀ a b,F a b->G a b)->Paired G c d:=by intro _ _ h f;induction h with
 |nil=>show .nil
 |cons r _ i=>show .cons (f _ _ r) i
def Zb.stay(x:Zb P w H h a o)(k:∀ b u,(b=a\/H b\.own a)->h.get? b\u->h'.get? b\u)(I:∀ b,H b\.own a->H' b\.own a)(J:∀ b m,H b\.tup m->H' b\.tup m):Zb P w H' h' a o:=by
 induction o with
 |lst m=>let#[z,l,n,r,e]:=x;show#[z,l,n,r,k _ _ (.inl Z) e]
 |tup m=>let#[z,l,r,g,e,c]:=x;show#[z,l,r,g,k _ _ (.inl Z) e,c]
 |dK s=>let#[z,y,M,r,g,j,i,e,c]:=x;show#[z,y,M,r,g,j,i,k _ _ (.inl Z) e,c]
 |dT s=>
  let#[z,y,m,r,g,j,i,e,c]:=x;show#[z,y,m,Paired.mapP r λp q z=>#[z.1,J _ _ z.2.1,z.2.2],g,j,i,k _ _ (.inl Z) e,c]
 |set S n=>let#[g,j,i,t,e,c]:=x;show#[g,j,i,t,k _ _ (.inl Z) e,c]
 |ins C N G=>
  let#[d,z,L,e,A,#[B,j,i,F,c],r]:=x;show#[I _ d,z,L,k _ _ (.inl Z) e,A,#[B,j,i,k _ _ (.inr d) F,c],r]
 |own y=>let#[g,e]:=x;show#[g,k _ _ (.inl Z) e]
 |xd G=>let#[A,#[B,j,i,e,c],r]:=x;show#[A,#[B,j,i,k _ _ (.inl Z) e,c],r]
 |rng Q O=>let#[t,u,v,e]:=x;show#[t,u,v,k _ _ (.inl Z) e]
 |frz g u K=>let#[e,q]:=x;show#[k _ _ (.inl Z) e,K q]
 |tbl D=>
  let e:h.get? a\{ cls:=.none,data:=.fields D }:=x;change h'.get? a\{ cls:=.none,data:=.fields D };show k a _ (.inl Z) e
 |met f y=>
  let e:h.get? a\rN (!f) (!y):=x;change h'.get? a\rN (!f) !y;show k a _ (.inl Z) e
 |ext R=>let#[p,#[o,e],E]:=x;show#[E _ _ p λo q=>k _ _ (.inl Z) q,#[o,k _ _ (.inl Z) e],E]
def YT.lt(x:YT P w H h)(e:H a\o):a<h.objs.size:=(x a o e).lt
def YT.fresh(x:YT P w H h)(e:h.objs.size<=a):H a=Y':=by
 cases q:H a with
 |none=>rfl
 |some u=>show mZ (yV (x.lt q) e) (wV _)
def YT.kept(x:YT P w H h)(k:∀ b u,h.get? b\u->h'.get? b\u):YT P w H h':=λa o e=>
 (x a o e).stay (λb u _ q=>k b u q) (λ_ q=>q) λ_ _ q=>q
def YT.laid(x:YT P w H h)(k:∀ b u,h.get? b\u->h'.get? b\u)(i:h.objs.size<=a)(d:Zb P w (upd H a o) h' a o):YT P w (upd H a o) h':=λb u e=>by
 let g:=x.fresh i;by_cases f:b=a
 .subst f;erw[ZP] at e;show d
 .rw[ZM f] at e;show(x b u e).stay (λc v _ q=>k c v q) (λc q=>#v[ZM (ZW q g),q]) λc j q=>#v[ZM (ZW q g),q]
end
def Rd(H:Hp)(a:aj)(u:HO):Prop:=H a\u\/∃ o,H a\.frz o u
def Rd.of{H:Hp}{a:aj}{u:HO}(h:H a\u):Rd H a u:=.inl h
def Rd.ok{P:am}{w:aw}{H:Hp}{h:aD}{a:aj}{u:HO}(r:Rd H a u)(x:YT P w H h):Zb P w H h a u:=by
 rcases r with r|⟨o,r⟩
 .show x a u r
 .let#[_,q]:=x a _ r;show q
def LP:Option HO->Prop
 |some (.lst _)=>True
 |some (.dK _)=>True
 |some (.dT _)=>True
 |some (.set _ _)=>True
 |some (.ins _ _ _)=>True
 |some (.ext _)=>True
 |_=>False
section
variable{P:am}{w:aw}{H:Hp}{h h':aD}{x e:aj}{o':HO}
def YT.write(t:YT P w H h)(j:LP (H x))(o:e=x\/H e\.own x)(k:∀ b u,b≠e->h.get? b\u->h'.get? b\u)(m:∃ u,h'.get? e\u)(n:Zb P w (upd H x o') h' x o'):YT P w (upd H x o') h':=λb u q=>by
 let d:∀ c y,H c\.own y->c≠x:=λc y r z=>by subst z;rw[r] at j;show j
 let f:∀ c l,H c\.tup l->c≠x:=λc l r z=>by subst z;rw[r] at j;show j
 by_cases g:b=x
 .subst g;erw[ZP] at q;show n
 .rw[ZM g] at q;by_cases a:b=e
  .let p:H b\.own x:=by
    rcases o with z|z
    .show mZ (a|||z) g
    .rwa[a,z]
   erw[q] at p;let#[v,s]:=m;show#[v,#v[a,s]]
  .show(t b u q).stay (λc v i r=>k c v ?_ r) (λc r=>#v[ZM (d c b r),r]) λc l r=>#v[ZM (f c l r),r]
   rcases i with rfl|i
   .show a
   .rintro rfl;rcases o with z|z
    .show d c b i z
    .erw[i] at z;show g Z
end
structure Un(fs ex:jx)(H H':Hp)(h h':aD):Prop where
 keep:∀ b o,h.get? b\o->H b=Y'->b∉fs->b∉ex->h'.get? b\o
 slot:∀ b o,h.get? b\o->H b=Y'->b∈fs->b∉ex->∃ sl,h'.get? b\{ o with slots:=sl }
 free:∀ b o,h.get? b\o->H b=Y'->b∉ex->H' b=Y'
 there:∀ b o,h.get? b\o->b∉ex->∃ o',h'.get? b\o'
 tups:∀ b xs,H b\.tup xs->H' b\.tup xs
 frzs:∀ b o u,H b\.frz o u->H' b\.frz o u
 tbls:∀ b ps,H b\.tbl ps->∃ more,H' b\.tbl (ps++more)
section
variable{fs fs' ex ex':jx}{H H1 H2:Hp}{h h1 h2 h':aD}{a x e:aj}{o:HO}
def Un.any(u:Un fs ex H H1 h h1){b:aj}{c:aI}(q:h.get? b\c)(n:H b=Y')(f:b∉ex):∃ g,h1.get? b\{ c with slots:=g }:=by
 by_cases d:b∈fs
 .show u.slot b c q n d f
 .show#[c.slots,u.keep b c q n d f]
def Un.kept(k:∀ b u,h.get? b\u->h'.get? b\u):Un fs ex H H h h':=
 #[λb c q _ _ _=>k b c q,λb c q _ _ _=>#[c.slots,k b c q],λ_ _ _ n _=>n,λb c q _=>#[c,k b c q],λ_ _ q=>q,λ_ _ _ q=>q,λ_ d q=>#[⇑[],by rw[q];simp]]
def Un.refl:Un fs ex H H h h:=Un.kept λ_ _ q=>q
def Un.laid(k:∀ b u,h.get? b\u->h'.get? b\u)(d:h.objs.size<=a)(c:H a=Y'):Un fs ex H (upd H a o) h h' where
 keep:=λb u q _ _ _=>k b u q
 slot:=λb u q _ _ _=>#[u.slots,k b u q]
 free:=λb u q n _=>#v[ZM (zJ (yV (zU q) d)),n]
 there:=λb u q _=>#[u,k b u q]
 tups:=λb f q=>#v[ZM (ZW q c),q]
 frzs:=λb u f q=>#v[ZM (ZW q c),q]
 tbls:=λb g q=>#[⇑[],by rw[ZM (ZW q c),q];simp]
def Un.write(d:LP (H x))(l:e=x\/H e\.own x)(k:∀ b u,b≠e->h.get? b\u->h'.get? b\u)(f:∃ u,h'.get? e\u):Un fs ex H (upd H x o) h h':=by
 let j:∀ b,H b=Y'->b≠x:=λb n z=>by subst z;rw[n] at d;show d
 let i:∀ b,H b=Y'->b≠e:=λb n z=>by
  subst z;rcases l with r|r
  .show j b n r
  .erw[n] at r
 let g:∀ b u,H b\u->¬ LP (Z' u)->b≠x:=λb u q m z=>by subst z;rw[q] at d;show m d
 show#[λb u q n _ _=>k b u (i b n) q,λb u q n _ _=>#[u.slots,k b u (i b n) q],λb u q n _=>#v[ZM (j b n),n],λb u q _=>?_,
  λb p q=>#v[ZM (g b _ q λz=>z),q],λb u p q=>#v[ZM (g b _ q λz=>z),q],λb s q=>#[⇑[],by rw[ZM (g b _ q λz=>z),q];simp]]
 by_cases c:b=e
 .subst c;show f
 .show#[u,k b u c q]
end
noncomputable def K0(h:aD)(H:Hp):List Addr:=(zP h.objs.size).filter λa=>(H a).isSome
def UE(h:aD)(H:Hp):Heap:=vB h (K0 h H)
def Er(h:aD)(H:Hp):(UE h H).objs.size=h.objs.size:=PySem.W.hideAll_size _ _
def EQ{h:aD}{H:Hp}{b:aj}{o:aI}(e:h.get? b\o)(n:H b=Y'):(UE h H).get? b\o:=
 rH _ e λa=>by
  let q:(H b).isSome=X':=(yM.mp a).2;rw[n] at q;simp at q
def E2{h:aD}{H:Hp}{b:aj}{o:aI}(e:(UE h H).get? b\o):h.get? b\o/\H b=Y':=by
 let a:h.get? b\o:=sY (K0 h H) e;exists a
 cases q:H b with
 |none=>rfl
 |some x=>
  let c:b∈K0 h H:=yM.mpr #[xL.mpr (zU a),by simp[q]]
  let z:(UE h H).get? b=Y':=rC (K0 h H) c;erw[z] at e
noncomputable def wo(g h:aD)(L:aj):jw:=(zP h.objs.size).filterMap λa=>if a=L\/(g.get? a).isSome=X' then Y' else (h.get? a).map λo=>(a,o)
def rest(g h:aD)(L d:aj):jw:=(wo g h L).filter λp=>ng (p.1≠d)
structure Mod(K:zZ)(mg:jc)(kF:aD):Prop where
 kin:K.In kF
 glob:kF.Ns ap mg
 blt:∃ mb,kF.Ns builtinsNs mb/\∀ x:Str,x≠"__name__"->mb x=ay x
 nolimit:kF.NoLimit
structure Cx where
 prog:am
 w:aw
 K:zZ
 mg:jc
 base:aD
 A:ax
 N:jv
 s₀:ak
 H₀:Hp
 env:Env
 outer:jF
 stack:jF
 ex:jx
 fn:Str->Bool
 calm:Bool
 pn:jw
 xe:ja
noncomputable def frs(l:jF):List Addr:=l.filterMap (·.frame)
abbrev Cx.fs(X:Cx):List Addr:=frs X.outer
def K2(a:aE)(x:Str):Prop:=a.names.lookup x\.local\/a.names.lookup x\.cell\/a.names.lookup x\.free
def Nk(a:aE)(x:Str):Prop:=a.names.lookup x\.local\/a.names.lookup x\.cell
def AR(a:Env)(h:aD)(m:jc)(x:Str)(u:ai):Prop:=
 (a.kindOf x\.local/\m x\u)\/((a.kindOf x\.cell\/a.kindOf x\.free)/\∃ c,a.cells.lookup x\c/\h.IsCell c (Z' u))
structure Cx.Ok(X:Cx):Prop where
 mod:Mod X.K X.mg X.base
 kind:X.env.scope.kind=.function
 glob:X.env.globals=ap
 blt:X.env.builtins=builtinsNs
 above:X.s₀.heap.objs.size<=X.env.locals
 inj:∀ x y c,X.env.cells.lookup x\c->X.env.cells.lookup y\c->x=y
 has:∀ x,(X.env.kindOf x\.cell\/X.env.kindOf x\.free)->∃ c,X.env.cells.lookup x\c
 cab:∀ x c,X.fn x=X'->X.env.cells.lookup x\c->X.s₀.heap.objs.size<=c
 hd:X.calm=X'->X.A.handled=Y'
 frames:X.A.frames\X.stack
 stk:X.stack=X.outer\/(X.stack=X.env::X.outer/\X.env.frame\X.env.locals)
 exf:∀ b∈X.ex,b≠X.env.locals/\∀ x c,X.env.cells.lookup x\c->c≠b
 bs:∀ b o,X.base.get? b\o->X.s₀.heap.get? b\o/\X.H₀ b=Y'
 bsz:X.base.objs.size<=X.s₀.heap.objs.size
 noex:∀ b o,X.base.get? b\o->b∉X.ex
 exfs:∀ b∈X.ex,b∉X.fs
 funs:X.s₀.heap.FunFrames X.base X.outer
 frf:∀ b∈X.fs,X.H₀ b=Y'
structure ZF(X:Cx)(kE:jw)(σ:List (jg))(H:Hp)(s:ak):Prop where
 ok:X.Ok
 os:s.os=X.s₀.os
 bare:AllBare s.gens
 base:Un X.fs X.ex X.H₀ H X.s₀.heap s.heap
 loc:∃ m,s.heap.Ns X.env.locals m/\∀(i:Nat)(x:Str)(v:V),X.N[i]?\x->σ[i]?\Z' v->K2 X.env.scope x->∃ u,ZT v u/\AR X.env s.heap m x u
 cell:∀ x c,X.env.cells.lookup x\c->∃ v,s.heap.IsCell c v
 free:H X.env.locals=Y'
 freeC:∀ x c,X.env.cells.lookup x\c->H c=Y'
 pin:∀ p∈X.pn++kE,s.heap.get? p.1\p.2/\H p.1=Y'/\p.1≠X.env.locals/\p.1∉X.fs/\∀ v,p.2.data≠.cell v
 hok:YT X.prog X.w H s.heap
 len:↑σ=↑X.N
section
variable{X:Cx}{kE:jw}{σ:List (jg)}{H H':Hp}{s:ak}{h':aD}
def Cx.Ok.nofr(c:X.Ok){b:aj}{o:aI}(e:X.base.get? b\o):b∉X.fs:=λa=>by
 have:=(c.funs.mem a).1;erw[e] at this
def ZF.bs(I:ZF X kE σ H s):∀ b o,X.base.get? b\o->s.heap.get? b\o/\H b=Y':=λb o e=>
 #[I.base.keep b o (I.ok.bs b o e).1 (I.ok.bs b o e).2 (I.ok.nofr e) (I.ok.noex b o e),I.base.free b o (I.ok.bs b o e).1 (I.ok.bs b o e).2 (I.ok.noex b o e)]
def ZF.bk(I:ZF X kE σ H s):∀ b o,X.base.get? b\o->s.heap.get? b\o:=λb o e=>(I.bs b o e).1
def ZF.mod(I:ZF X kE σ H s):Mod X.K X.mg X.base:=I.ok.mod
def ZF.kIn(I:ZF X kE σ H s):X.K.In s.heap:=I.ok.mod.kin.keeps I.bk
def ZF.lt(I:ZF X kE σ H s):X.env.locals<‹s›:=let #[_,hn,_]:=I.loc;hn.lt
def ZF.sz(I:ZF X kE σ H s):X.s₀.heap.objs.size<=‹s›:=zR I.ok.above (yJ I.lt)
def ZF.nofs(I:ZF X kE σ H s){a:aj}(h:‹s›<=a):a∉X.fs:=λb=>by
 let#[_,o,c,_]:=I.ok.funs.mem b;show mZ (yV (zU c) (zR I.sz h)) (wV _)
def ZF.cne(I:ZF X kE σ H s):∀ x c,X.env.cells.lookup x\c->c≠X.env.locals:=λx c e z=>by
 let#[v,o,f,d]:=I.cell x c e;let#[m,#[i,h,g,b,a,_],_]:=I.loc;erw[z,b] at f;erw[a] at d
def ZF.funs(I:ZF X kE σ H s):s.heap.FunFrames X.base X.outer:=by
 let a:∀(l:jF),(∀ b∈frs l,b∈X.fs)->X.s₀.heap.FunFrames X.base l->s.heap.FunFrames X.base l:=by
  intro l
  induction l with
  |nil=>intro _ _;trivial
  |cons h r q=>
   intro g k;let#[j,#[L,o,f,m,n,i],p]:=k;let c:L∈X.fs:=g L (by unfold frs;rwa[tE,f,zT])
   let#[t,e]:=I.base.slot L o n (I.ok.frf L c) c λz=>I.ok.exfs L z c;show#[j,#[L,_,f,m,e,i],q (λb d=>g b (by unfold frs;rwa[tE,f,zE _ d])) p]
 show a X.outer (λ_ d=>d) I.ok.funs
def ZF.stack(I:ZF X kE σ H s):s.heap.FunFrames X.base X.stack:=by
 rcases I.ok.stk with e|⟨e,a⟩
 .rwa[e,I.funs]
 .rw[e];let#[m,b,_]:=I.loc;show .cons (by rw[I.ok.kind];decide) a b ?_ I.funs
  show sX (zR I.ok.bsz I.ok.above)
def ZF.stkSub(I:ZF X kE σ H s):∀ b∈frs X.stack,b∈X.env.locals::X.fs:=λb a=>by
 rcases I.ok.stk with e|⟨e,c⟩
 .rw[e] at a;show zE _ a
 .rw[e] at a;unfold frs at a;rw[tE,c] at a;show a
def ZF.stkFree(I:ZF X kE σ H s):∀ b∈frs X.stack,H b=Y':=λb a=>by
 rcases zD.mp (I.stkSub b a) with e|a
 .rwa[e,I.free]
 .let#[_,o,c,_]:=I.ok.funs.mem a;show I.base.free b o c (I.ok.frf b a) λz=>I.ok.exfs b z a
def ZF.step{g':Array GenState}{t':Nat}{d':Drawn}{ch:jx}(I:ZF X kE σ H s)(h:∀ b∈ch,(b∈X.ex\/X.s₀.heap.objs.size<=b)/\b≠X.env.locals/\(∀ x c,X.env.cells.lookup x\c->c≠b)/\∀ p∈X.pn++kE,p.1≠b)(j:∀ b o,b≠X.env.locals->b∉X.fs->b∉ch->s.heap.get? b\o->H b=Y'->h'.get? b\o)(B:∀ b o,b≠X.env.locals->b∈X.fs->b∉ch->s.heap.get? b\o->H b=Y'->∃ S,h'.get? b\{ o with slots:=S })(f:∀ b o,b∉ch->s.heap.get? b\o->H b=Y'->H' b=Y')(E:∀ b o,b∉ch->s.heap.get? b\o->∃ M,h'.get? b\M)(O:∀ b C,H b\.tup C->H' b\.tup C)(J:∀ b o u,H b\.frz o u->H' b\.frz o u)(N:∀ b P,H b\.tbl P->∃ K,H' b\.tbl (P++K))(ns:∀ m,s.heap.Ns X.env.locals m->h'.Ns X.env.locals m)(R:YT X.prog X.w H' h')(hg:AllBare g'):
  ZF X kE σ H' { s with heap:=h',gens:=g',drawn:=d',toks:=t' }:=by
 let L:∀ b o,X.s₀.heap.get? b\o->b≠X.env.locals:=λb o e=>zJ (yV (zU e) I.ok.above);let A:∀ b o,X.s₀.heap.get? b\o->b∉X.ex->b∉ch:=λb o e a D=>by
  rcases(h b D).1 with z|z
  .show a z
  .show mZ (yV (zU e) z) (wV _)
 let g:∀ x c,X.env.cells.lookup x\c->∀ v,s.heap.IsCell c v->h'.IsCell c v:=λx c e v ⟨o,F,Q⟩=>by
  let t:c∉ch:=λz=>(h c z).2.2.1 x c e Z;by_cases U:c∈X.fs
  .let#[S,q]:=B c o (I.cne x c e) U t F (I.freeC x c e);show#[_,q,Q]
  .show#[o,j c o (I.cne x c e) U t F (I.freeC x c e),Q]
 show#[I.ok,I.os,hg,#[λb o e n D a=>?_,λb o e n D a=>?_,λb o e n a=>?_,λb o e a=>?_,λb C e=>O b C (I.base.tups b C e),λb o C e=>J b o C (I.base.frzs b o C e),λb P e=>?_],?_,λx c e=>?_,?_,λx c e=>?_,λp V=>?_,R,I.len]
 .show j b o (L b o e) D (A b o e a) (I.base.keep b o e n D a) (I.base.free b o e n a)
 .let#[S,y]:=I.base.slot b o e n D a;let#[T,G]:=B b _ (L b o e) D (A b o e a) y (I.base.free b o e n a);show#[T,G]
 .let#[M,y]:=I.base.there b o e a;show f b M (A b o e a) y (I.base.free b o e n a)
 .let#[M,y]:=I.base.there b o e a;show E b M (A b o e a) y
 .let#[m1,y]:=I.base.tbls b P e;let#[m2,G]:=N b _ y;show#[m1++m2,by rw[G,uB]]
 .let#[m,hn,hl]:=I.loc;exists m,ns m hn;intro i x v y G e3;let#[u,r,l]:=hl i x v y G e3;exists u,r;rcases l with l|⟨k,c,e,z⟩
  .show .inl l
  .show .inr #[k,c,e,g x c e _ z]
 .let#[v,z]:=I.cell x c e;show#[v,g x c e v z]
 .let#[m,#[o,_,_,F,_],_]:=I.loc;show f _ o (λz=>(h _ z).2.1 Z) F I.free
 .let#[v,o,F,Q]:=I.cell x c e;show f c o (λz=>(h c z).2.2.1 x c e Z) F (I.freeC x c e)
 .let#[e,n,W,Y,d]:=I.pin p V;let t:p.1∉ch:=λz=>(h p.1 z).2.2.2 p V Z;show#[j p.1 p.2 W Y t e n,f p.1 p.2 t e n,W,Y,d]
def ZF.un{t':Nat}(I:ZF X kE σ H s)(u:Un X.fs [] H H' s.heap h')(g:YT X.prog X.w H' h'):ZF X kE σ H' { s with heap:=h',toks:=t' }:=by
 let#[m,#[o,p,l,h,r],_]:=id I.loc;let#[v,i]:=u.any h I.free ⋯
 show I.step (g':=s.gens) (d':=s.drawn) (ch:=[]) (λ_ z=>nomatch z) (λb o _ f _ e n=>u.keep b o e n f ⋯) (λb o _ f _ e n=>u.slot b o e n f ⋯) (λb o _ e n=>u.free b o e n ⋯) (λb o _ e=>u.there b o e ⋯) u.tups u.frzs u.tbls (λq j=>by
  let#[t,d,c,a,k]:=j;erw[h] at a;show#[_,d,c,i,k]) g I.bare
def ZF.call{g':Array GenState}{t':Nat}{d':Drawn}{ch:jx}(I:ZF X kE σ H s)(u:Un (frs X.stack) ch H H' s.heap h')(j:YT X.prog X.w H' h')(q:AllBare g')(d:∀ b∈ch,(b∈X.ex\/X.s₀.heap.objs.size<=b)/\b≠X.env.locals/\(∀ x c,X.env.cells.lookup x\c->c≠b)/\∀ p∈X.pn++kE,p.1≠b):
  ZF X kE σ H' { s with heap:=h',gens:=g',drawn:=d',toks:=t' }:=by
 let#[m,#[o,A,y,k,r],_]:=id I.loc;let#[D,i]:=u.any k I.free λz=>(d _ z).2.1 Z;show I.step (ch:=ch) d (λb o i l a e n=>u.keep b o e n (λz=>(zD.mp (I.stkSub b z)).elim i l) a) (λb o _ _ a e n=>u.any e n a) (λb o a e n=>u.free b o e n a) (λb o a e=>u.there b o e a) u.tups u.frzs u.tbls (λB t=>by
  let#[C,h,g,f,v]:=t;erw[k] at f;show#[_,h,g,i,v]) j q
def ZF.turned{t':Nat}{it:aj}(I:ZF X kE σ H s)(k:∀ b o,b≠it->s.heap.get? b\o->h'.get? b\o)(y:H it=Y')(f:it≠X.env.locals)(i:it∈X.ex\/X.s₀.heap.objs.size<=it)(j:∀ x c,X.env.cells.lookup x\c->c≠it)(l:∀ p∈X.pn++kE,p.1≠it):ZF X kE σ H { s with heap:=h',toks:=t' }:=by
 let d:∀ b u,H b\u->b≠it:=λb u e z=>by erw[z,y] at e
 show I.step (g':=s.gens) (d':=s.drawn) (ch:=[it]) (λb t=>?_) (λb o _ _ a e _=>k b o (λz=>a (by simp[z])) e) (λb o _ _ a e _=>#[o.slots,k b o (λz=>a (by simp[z])) e]) (λ_ _ _ _ n=>n)
  (λb o a e=>#[o,k b o (λz=>a (by simp[z])) e]) (λ_ _ e=>e) (λ_ _ _ e=>e) (λb B e=>#[⇑[],by rw[e];simp]) (λm w=>?_) (λb u e=>?_) I.bare
 .let e:b=it:=#v[t]
  subst e;show#[i,f,j,l]
 .let#[o,h,g,A,r]:=w;show#[o,h,g,k _ o (Ne.symm f) A,r]
 .show(I.hok b u e).stay (λc v a q=>k c v ?_ q) (λ_ q=>q) λ_ _ q=>q;rcases a with z|z
  .rwa[z,d b u e]
  .show d c _ z
def ZF.tok(I:ZF X kE σ H s)(t:Nat):ZF X kE σ H { s with toks:=t }:=I.un (h':=s.heap) (t':=t) Un.refl I.hok
def ZF.kept{t':Nat}(I:ZF X kE σ H s)(k:∀ b u,s.heap.get? b\u->h'.get? b\u):ZF X kE σ H { s with heap:=h',toks:=t' }:=I.un (Un.kept k) (I.hok.kept k)
def ZF.laid{a:aj}{o:HO}{t':Nat}(I:ZF X kE σ H s)(k:∀ b u,s.heap.get? b\u->h'.get? b\u)(c:‹s›<=a)(d:Zb X.prog X.w (upd H a o) h' a o):
  ZF X kE σ (upd H a o) { s with heap:=h',toks:=t' }:=I.un (Un.laid k c (I.hok.fresh c)) (I.hok.laid k c d)
def ZF.write{x e:aj}{o:HO}{g:Nat}(I:ZF X kE σ H s)(f:LP (H x))(d:e=x\/H e\.own x)(k:∀ b u,b≠e->s.heap.get? b\u->h'.get? b\u)(a:∃ u,h'.get? e\u)(c:Zb X.prog X.w (upd H x o) h' x o):ZF X kE σ (upd H x o) { s with heap:=h',toks:=g }:=I.un (Un.write f d k a) (I.hok.write f d k a c)
def ZF.pins_of{a:jw}(I:ZF X kE σ H s)(h:∀ p∈a,s.heap.get? p.1\p.2/\H p.1=Y'/\p.1≠X.env.locals/\p.1∉X.fs/\∀ v,p.2.data≠.cell v):ZF X a σ H s:=
 #[I.ok,I.os,I.bare,I.base,I.loc,I.cell,I.free,I.freeC,λp b=>(zC.mp b).elim (λz=>I.pin p (yG _ z)) (h p),I.hok,I.len]
def Io{N:jv}(e:N.Nodup){i j:Nat}{x:Str}(a:N[i]?\x)(b:N[j]?\x):i=j:=by
 let#[f,c]:=yO.mp a;let#[g,d]:=yO.mp b;show(List.getElem_inj e).mp (c|||d.symm)
def Eg{M:Model}{A:ax}{E:ja}{i:Nat}{x:Str}{v:V}{u:ai}{Q:Unit->ak->Prop}(I:ZF X kE σ H s)(hN:X.N.Nodup)(T:X.N[i]?\x)(B:Nk X.env.scope x)(r:ZT v u)(h:∀ s',ZF X kE (σ.set i (Z' v)) H s'->(∃ a,vV a s.heap s'.heap/\(a=X.env.locals\/X.env.cells.lookup x\a))->Q .unit s')(hf:X.fn x=X'\/X.env.scope.names.lookup x\.local:=by first|show .inl rfl|show .inr rfl|assumption):aB M A (storeName X.env x u) Q E s:=by
 let#[m,hn,hl]:=id I.loc;let S:(X.env.scope.kind==.class||(X.env.scope.kind==.module&&X.env.locals != X.env.globals))=false:=by rw[I.ok.kind];rfl
 let F:i<↑σ:=#v[I.len,(yO.mp T).1]
 let J:=I.cne;let l:∀{a:aj}{h':aD},(∃ o,s.heap.get? a\o/\H a=Y')->vV a s.heap h'->YT X.prog X.w H h':=fun{a h'} ha f b ob e=>by
  let#[_,_,C]:=ha;show(I.hok b ob e).stay (λc w' t q=>(f.2 c ?_)|||q) (λ_ q=>q) λ_ _ q=>q;rintro rfl;rcases t with rfl|t
  .erw[C] at e
  .erw[C] at t
 rcases B with G|G
 .show wpAny_storeName_local G hn (λh' a0 f=>?_) S;let#[oL,_,_,a1,_]:=id hn;show h _ #[I.ok,I.os,I.bare,#[λb o e n K B=>?_,λb o e n K B=>?_,I.base.free,λb o e B=>?_,I.base.tups,I.base.frzs,I.base.tbls],#[_,a0,λj y v' g D e3=>?_],λy c e=>?_,I.free,I.freeC,λp hp=>?_,l #[oL,a1,I.free] f,#v[I.len]] #[_,f,.inl Z]
  .show(f.2 b (zJ (yV (zU e) I.ok.above))).trans (I.base.keep b o e n K B)
  .let#[sl,g]:=I.base.slot b o e n K B;show#[sl,(f.2 b (zJ (yV (zU e) I.ok.above)))|||g]
  .let#[o',g]:=I.base.there b o e B;show#[o',(f.2 b (zJ (yV (zU e) I.ok.above)))|||g]
  .by_cases O:j=i
   .subst O;erw[T] at g;erw[tY F] at D;show#[u,r,.inl #[G,by simp]]
   .rw[uU (Ne.symm O)] at D;let#[u',r',q]:=hl j y v' g D e3;exists u',r';rcases q with ⟨k,e⟩|⟨k,c,e,z⟩
    .show .inl #[k,?_];have:y≠x:=λe=>O (Io hN g (e▸T));simp[this,e]
    .show .inr #[k,c,e,z.sameBut f (J y c e)]
  .let#[w',z]:=I.cell y c e;show#[w',z.sameBut f (J y c e)]
  .let#[e,n,ne,nf,d]:=I.pin p hp;show#[(f.2 p.1 ne)|||e,n,ne,nf,d]
 .let L:X.fn x=X':=by
   rcases hf with z|z
   .show z
   .erw[z] at G
  let#[c,t]:=I.ok.has x (.inl G);let#[w',z]:=I.cell x c t;show wpAny_storeName_cell I.ok.kind G t z (λh' P f=>?_);let#[oc,U,W]:=id z;show h { s with heap:=h' } #[I.ok,I.os,I.bare,#[λb o e n K B=>?_,λb o e n K B=>?_,I.base.free,λb o e B=>?_,I.base.tups,I.base.frzs,I.base.tbls],#[m,hn.sameBut f (Ne.symm (J x c t)),λj y v' g D e3=>?_],λy Y e=>?_,I.free,I.freeC,λp hp=>?_,l #[oc,U,I.freeC x c t] f,#v[I.len]] #[c,f,.inr t]
  .show(f.2 b (zJ (yV (zU e) (I.ok.cab x c L t)))).trans (I.base.keep b o e n K B)
  .let#[sl,g]:=I.base.slot b o e n K B;show#[sl,(f.2 b (zJ (yV (zU e) (I.ok.cab x c L t))))|||g]
  .let#[o',g]:=I.base.there b o e B;show#[o',(f.2 b (zJ (yV (zU e) (I.ok.cab x c L t))))|||g]
  .by_cases O:j=i
   .subst O;erw[T] at g;erw[tY F] at D;show#[u,r,.inr #[.inl G,c,t,P]]
   .rw[uU (Ne.symm O)] at D;let#[u',r',q]:=hl j y v' g D e3;exists u',r';rcases q with q|⟨k,Y,e,z'⟩
    .show .inl q
    .show .inr #[k,Y,e,z'.sameBut f ?_];rintro rfl;show O (Io hN g (I.ok.inj _ _ _ e t▸T))
  .by_cases R:Y=c
   .subst R;show#[_,P]
   .let#[w2,z2]:=I.cell y Y e;show#[w2,z2.sameBut f R]
  .let#[e,n,ne,nf,d]:=I.pin p hp;show#[(f.2 p.1 ?_)|||e,n,ne,nf,d];intro q;rw[q,U] at e;let q':oc=p.2:=zB.inj e;show d w' (by rwa[<-q',W])
def KU{M:Model}{A:ax}{E:ja}{i:Nat}{x:Str}{v:V}{u:ai}{Q:Unit->ak->Prop}(I:ZF X kE σ H s)(c:X.N.Nodup)(e:X.N[i]?\x)(f:Nk X.env.scope x)(r:ZT v u)(h:∀ a,ZF X kE (σ.set i (Z' v)) H a->Q .unit a)(d:X.fn x=X'\/X.env.scope.names.lookup x\.local:=by first|show .inl rfl|show .inr rfl|assumption):aB M A (storeName X.env x u) Q E s:=
 Eg I c e f r (λa b _=>h a b) d
def ZF.call'{s':ak}{ch:jx}(I:ZF X kE σ H s)(i:s'.os=s.os)(u:Un (frs X.stack) ch H H' s.heap s'.heap)(d:YT X.prog X.w H' s'.heap)(h:AllBare s'.gens)(a:∀ b∈ch,(b∈X.ex\/X.s₀.heap.objs.size<=b)/\b≠X.env.locals/\(∀ x c,X.env.cells.lookup x\c->c≠b)/\∀ p∈X.pn++kE,p.1≠b):ZF X kE σ H' s':=by
 let#[h',g,f,k,j]:=s';let e:j=s.os:=i;subst e;show I.call (g':=g) (t':=k) (d':=f) u d h a
end
abbrev XK:=ai->jB->Hp->Prop
abbrev St:=List (jg)
abbrev VK:=V->Hp->Prop
abbrev TE:=St->Hp->VK->Prop
abbrev jV:=List (TE×TE)
abbrev TT:=St->Hp->(Bool->Hp->Prop)->Prop
abbrev TA:=St->Hp->(jf->Hp->Prop)->Prop
structure Y1 where
 nx:St->Hp->Prop
 rt:VK
 bk:St->Hp->Prop:=λ_ _=>False
 ct:St->Hp->Prop:=λ_ _=>False
abbrev TS:=Y1->St->Hp->Prop
def EP(X:Cx)(a:jw)(d:St)(Q:VK)(u:ai)(c:ak):=∃ v b,ZF X a d b c/\ZT v u/\Q v b
def TP(X:Cx)(a:jw)(e:St)(Q:Bool->Hp->Prop)(b:Bool)(d:ak):=∃ c,ZF X a e c d/\Q b c
def AP(X:Cx)(a:jw)(f:St)(Q:jf->Hp->Prop)(e:je)(d:ak):=∃ c b,ZF X a f b d/\ZR c e/\Q c b
def SP(X:Cx)(b:jw)(D:Y1)(f:Flow)(d:ak):Prop:=
 match f with
 |.next=>∃ a c,ZF X b a c d/\D.nx a c
 |.brk=>∃ a c,ZF X b a c d/\D.bk a c
 |.cont=>∃ a c,ZF X b a c d/\D.ct a c
 |.ret u=>∃ v a c,ZF X b a c d/\ZT v u/\D.rt v c
def PE(X:Cx)(e:Expr)(t:TE):Prop:=
 ∀(a:jw)(s:ak)(b:St)(H:Hp)(Q:VK),ZF X a b H s->t b H Q->aB ↥X X.A (aH e X.env) (EP X a b Q) X.xe s
def PT(X:Cx)(e:Expr)(t:TT):Prop:=
 ∀(a:jw)(s:ak)(b:St)(H:Hp)(Q:Bool->Hp->Prop),ZF X a b H s->t b H Q->aB ↥X X.A (isTrue e X.env (aH e X.env)) (TP X a b Q) X.xe s
def PW(X:Cx)(e:Expr)(t:TT):Prop:=
 ∀(b:Sem ai)(a:jw)(s:ak)(c:St)(H:Hp)(Q:Bool->Hp->Prop),ZF X a c H s->t c H Q->aB ↥X X.A (isTrue e X.env b) (TP X a c Q) X.xe s
def PW.pt{X:Cx}{e:Expr}{t:TT}(h:PW X e t):PT X e t:=h _
def PA(X:Cx)(c:jC)(t:TA):Prop:=
 ∀(pos:aJ)(a:jw)(s:ak)(b:St)(H:Hp)(Q:jf->Hp->Prop),ZF X a b H s->t b H Q->aB ↥X X.A (spliced (aF pos (ar c X.env))) (AP X a b Q) X.xe s
def PS(X:Cx)(c:aC)(t:TS):Prop:=
 ∀(a:jw)(s:ak)(b:St)(H:Hp)(D:Y1),ZF X a b H s->t D b H->aB ↥X X.A (exec c X.env) (SP X a D) X.xe s
def Wc(X:Cx)(c:jQ)(t:TS):Prop:=
 ∀(a:jw)(s:ak)(b:St)(H:Hp)(D:Y1),ZF X a b H s->t D b H->aB ↥X X.A (execs c X.env) (SP X a D) X.xe s
def Z0{c:Type}{t:Sem c}{Q b:c->ak->Prop}{M:Model}{A:ax}{E:ja}{s:ak}(h:aB M A t Q E s)(d:∀ a s,Q a s->b a s):aB M A t b E s:=ae h d λ_ _ x=>x
def YH{d g i:Type}{t:Sem d}{a b c:d->ak->g->i->Prop}{e:d->ak->Prop}{M:Model}{A:ax}{E:ja}{s:ak}(h:aB M A t (λv s=>∃ x H,a v s x H/\b v s x H/\c v s x H) E s)(f:∀ v s x H,a v s x H->b v s x H->c v s x H->e v s):aB M A t e E s:=Z0 h (by rintro v s ⟨x,H,p,q,r⟩;show f v s x H p q r)
variable{X:Cx}
section
inductive QA(i:Nat)(a:Tw.St)(H:Hp)(Q:VK):Prop
 |mk(v:_)(_:a[i]?\Z' v)(_:Q v H)
def tC(v:V):TE:=λ_ H Q=>Q v H
def Cc{i:Nat}{x:Str}{pos:aJ}(n:X.N[i]?\x)(t:K2 X.env.scope x)(j:(x==("__debug__":Str))=false:=by decide)(g:(x==("__classdict__":Str))=false:=by decide):PE X (.Name x pos) (QA i):=by
 intro f s w H Q I h;let#[v,e,h]:=h;let#[m,q,o]:=I.loc;let#[u,r,l]:=o i x v n e t;let b:EP X f w Q u s:=#[v,H,I,r,h];rcases l with ⟨d,p⟩|⟨d,c,k,a⟩
 .show wpAny_Name (wpAny_loadName_local I.ok.kind d q p b) j
 .rcases d with d|d
  .show wpAny_Name (wpAny_loadName_cell I.ok.kind d k a b) j
  .show wpAny_Name (wpAny_loadName_free I.ok.kind d k a b g) j
def ZN{i j pos}:PE X (.Constant (-i) j pos) (tC (-i)):=λ_ _ _ H _ I h=>wpAny_Constant_int #[-i,H,I.tok _,#[1],h]
def Uc{b j pos}:PE X (.Constant (.bool b) j pos) (tC (.bl b)):=λ_ _ _ H _ I h=>Constant_bool #[.bl b,H,I,Z,h]
def Mi{j pos}:PE X (.Constant .none j pos) (tC .non):=λ_ _ _ H _ I h=>Constant_none #[.non,H,I,Z,h]
def Y8{x j pos}:PE X (.Constant (.str x) j pos) (tC (.str x)):=λ_ _ _ H _ I h=>Calls.Constant_str #[.str x,H,I.tok _,#[1],h]
def Gl(X:Cx)(x:Str):Prop:=X.env.kindOf x\.globalImplicit
def Pq{E:ja}{a:jw}{s:ak}{e:St}{H:Hp}{x:Str}{u:ai}{pos:aJ}{Q:ja}(I:ZF X a e H s)(c:Gl X x)(d:X.mg x\u)(h:Q u s)(b:(x==("__debug__":Str))=false:=by decide):aB ↥X X.A (aH (.Name x pos) X.env) Q E s:=
 Calls.Name_function_global I.ok.kind c (Calls.loadGlobal_global #v[I.ok.glob,I.mod.glob.keeps I.bk] d h) b
def OD{E:ja}{a:jw}{s:ak}{j:St}{H:Hp}{x:Str}{u:ai}{pos:aJ}{Q:ja}(I:ZF X a j H s)(e:Gl X x)(f:X.mg x=Y')(i:ay x\u)(h:Q u s)(g:x≠"__name__" :=by decide)(d:(x==("__debug__":Str))=false:=by decide):aB ↥X X.A (aH (.Name x pos) X.env) Q E s:=by
 let#[k,b,c]:=I.mod.blt;show Calls.Name_function_global I.ok.kind e (Calls.loadGlobal_builtin #v[I.ok.glob,I.mod.glob.keeps I.bk] f #v[I.ok.blt,b.keeps I.bk] ((c x g)|||i) h) d
def WL{x:Str}{v:V}{u:ai}{pos:aJ}(b:Gl X x)(c:X.mg x\u)(r:ZT v u)(a:(x==("__debug__":Str))=false:=by decide):PE X (.Name x pos) (tC v):=
 λ_ _ _ H _ I h=>Pq I b c #[v,H,I,r,h] a
def We{x:Str}{v:V}{u:ai}{pos:aJ}(b:Gl X x)(c:X.mg x=Y')(e:ay x\u)(r:ZT v u)(d:x≠"__name__" :=by decide)(a:(x==("__debug__":Str))=false:=by decide):PE X (.Name x pos) (tC v):=
 λ_ _ _ H _ I h=>OD I b c e #[v,H,I,r,h] d a
variable{a b:Expr}{ta tb:TE}{pos:aJ}
def PC(X:Cx)(g:CmpOp)(a b:Expr)(t:TE):Prop:=
 ∀(c:jw)(s:ak)(f:St)(H:Hp)(Q:VK),ZF X c f H s->t f H Q ->
  aB ↥X X.A (aH a X.env) (λv d=>aB ↥X X.A (aH b X.env) (λu e=>aB ↥X X.A (az g v u) (EP X c f Q) X.xe e) X.xe d) X.xe s
def FQ(b:Expr){c:CmpOp}(h:c≠.In)(f:c≠.NotIn):behindInMarks c b=false:=by
 let d:(c==CmpOp.In)=false:=by cases c<;>first|rfl|show mZ rfl h
 let e:(c==CmpOp.NotIn)=false:=by cases c<;>first|rfl|show mZ rfl f
 cases b<;>simp[behindInMarks,d,e]
def Bm(ta:TE):TE:=λd H Q=>ta d H λx c=>Q (.bl (ng (x=.non))) c
def RC(ta:TE):TE:=λd H Q=>ta d H λx c=>Q (.bl (!ng (x=.non))) c
def ZT.none_iff{x:V}{v:ai}(r:ZT x v):(v==Value.none)=ng (x=.non):=by
 cases x with
 |non=>cases r;rfl
 |bl _=>cases r;rfl
 |int _=>let#[t,rfl]:=r;rfl
 |str _=>let#[t,rfl]:=r;rfl
 |byt _=>let#[t,rfl]:=r;rfl
 |flt _=>let#[t,rfl]:=r;rfl
 |ref _=>cases r;rfl
 |ty _=>cases r;rfl
def Pu{j d}(g:PE X a ta):PC X .Is a (.Constant .none j d) (Bm ta):=by
 intro c s l H Q I h;show YH (g c s l H _ I h) λv m x e f k i=>?_;show Constant_none (is_none_gen #[.bl _,e,f,by rw[k.none_iff];rfl,i])
def JB{j d}(g:PE X a ta):PC X .IsNot a (.Constant .none j d) (RC ta):=by
 intro c s l H Q I h;show YH (g c s l H _ I h) λv m x e f k i=>?_;show Constant_none (isnot_none_gen #[.bl _,e,f,by rw[k.none_iff];rfl,i])
inductive AV(Q:Bool->Hp->Prop)(x:V)(d:Hp):Prop
 |mk(c:_)(_:x=.bl c)(_:Q c d)
def tB(t:TE):TT:=λd H Q=>t d H λx c=>AV Q x c
def NW{d:CmpOp}{t:TE}(h:PC X d a b t)(e:behindInMarks d b=false:=by first|show FQ _ (by decide) (by decide)|rfl):PE X (.Compare a [d] [b] pos) t:=λc s g H Q I f=>wpAny_Compare1 (h c s g H Q I f) e
def Qm{g:CmpOp}{t:TE}(h:PC X g a b t)(f:behindInMarks g b=false:=by first|show FQ _ (by decide) (by decide)|rfl):PT X (.Compare a [g] [b] pos) (tB t):=by
 intro e s o H Q I l;show wpAny_isTrue_Compare1 (Z0 (h e s o H _ I l) λv p f=>Z0 f λu r k=>YH k λc w x i j n m=>?_) f;let#[d,rfl,q]:=m;cases n;show wpAny_truthy_bool #[i,j,q]
def Yy{e:Expr}{t:TE}(h:PE X e t)(j:∀ c,isTrue e X.env c=(do let v<-c;standAt e.pos;holding [v] (truthy v)):=by intro _;rfl):PT X e (tB t):=by
 intro f s n H Q I k;show isTrue_plain (YH (h f s n H _ I k) λv o x g i m l=>?_) (j _);let#[d,rfl,q]:=l;cases m;show wpAny_truthy_bool #[g,i,q]
variable{tA tB':TT}{rest:jC}
def SB(t u:TT):TT:=λe H Q=>t e H λc d=>if c=X' then u e d Q else Q false d
def SQ(t u:TT):TT:=λe H Q=>t e H λc d=>if c=X' then Q true d else u e d Q
def RH(t:TT):TT:=λe H Q=>t e H λc d=>Q (not c) d
def LM(f:PT X a tA):PW X (.BoolOp .And [a] pos) tA:=by
 intro j d s g H Q I h;show isTrue_and (Z0 (f d s g H Q I h) λc i e=>?_)
 cases c with
 |true=>show isTrue_and_nil e
 |false=>show e
def Us(f:PT X a tA):PW X (.BoolOp .Or [a] pos) tA:=by
 intro j d s g H Q I h;show isTrue_or (Z0 (f d s g H Q I h) λc i e=>?_)
 cases c with
 |false=>show isTrue_or_nil e
 |true=>show e
def M8(j:PT X a tA)(k:PW X (.BoolOp .And (b::rest) pos) tB'):PW X (.BoolOp .And (a::b::rest) pos) (SB tA tB'):=by
 intro m d s i H Q I h;show isTrue_and (Z0 (j d s i H _ I h) ?_);rintro c l ⟨e,f,g⟩
 cases c with
 |true=>show k m d l i e Q f g
 |false=>show#[e,f,g]
def Wf(j:PT X a tA)(k:PW X (.BoolOp .Or (b::rest) pos) tB'):PW X (.BoolOp .Or (a::b::rest) pos) (SQ tA tB'):=by
 intro m d s i H Q I h;show isTrue_or (Z0 (j d s i H _ I h) ?_);rintro c l ⟨e,f,g⟩
 cases c with
 |true=>show#[e,f,g]
 |false=>show k m d l i e Q f g
def WY(f:PT X a tA):PT X (.UnaryOp .Not a pos) (RH tA):=by
 intro d s g H Q I h;show isTrue_not (f d s g H (λc e=>Q (not c) e) I h)
inductive Oy(tb:TE)(e:Tw.St)(Q:VK)(x:V)(d:Hp):Prop
 |mk(c:_)(_:x=.bl c)(_:if c=X' then tb e d Q else Q (.bl false) d)
def RA(ta tb:TE):TE:=λc H Q=>ta c H λx d=>Oy tb c Q x d
inductive O1(Q:VK)(x:V)(d:Hp):Prop
 |mk(c:_)(_:x=.bl c)(_:Q (.bl (not c)) d)
def So(ta:TE):TE:=λd H Q=>ta d H λx c=>O1 Q x c
def PR{e}{t:TE}(h:PE X a t):PE X (.BoolOp e [a] pos) t:=λc s f H Q I d=>BoolOp_one (h c s f H Q I d)
def QQ(j:PE X a ta)(k:PE X (.BoolOp .And (b::rest) pos) tb):PE X (.BoolOp .And (a::b::rest) pos) (RA ta tb):=by
 intro d s i H Q I h;show BoolOp_and (YH (j d s i H _ I h) λv m x f g l e=>?_);let#[c,rfl,e]:=e;cases l;show wpAny_truthy_bool ?_
 cases c with
 |true=>show k d m i f Q g e
 |false=>show#[.bl false,f,g,Z,e]
def y4(i:PE X a ta):PE X (.UnaryOp .Not a pos) (So ta):=by
 intro d s k H Q I h;show UnaryOp_ (YH (i d s k H _ I h) λv l x f g j e=>?_);let#[c,rfl,e]:=e;cases j;show not_of (wpAny_truthy_bool #[.bl (not c),f,g,Z,e])
end
def ZH(K:zZ)(H:Hp)(a:aj)(c:jf):Prop:=
 Rd H a (.lst c) \/
  ∃(o:aI)(b:jA)(n:Nat),K.lookup a\o/\o.cls=.type "list"/\o.dict=Y'/\o.data=.seq b n/\b.size<=aq/\ZR c b.toList
def Zc(K:zZ)(H:Hp)(a:aj)(c:jf):Prop:=
 Rd H a (.tup c) \/
  ∃(o:aI)(b:jA)(n:Nat),K.lookup a\o/\o.cls=.type "tuple"/\o.data=.seq b n/\b.size<=aq/\ZR c b.toList
noncomputable def SF:ai->jg
 |.none=>Z' .non
 |.bool b=>Z' (.bl b)
 |.int i _=>Z' (-i)
 |.str x _=>Z' (.str x)
 |.bytes b _=>Z' (.byt b)
 |.float b _=>Z' (.flt b)
 |.ref a=>Z' !a
 |.type n=>Z' (.ty n)
 |_=>Y'
def ZT.abs{x:V}{u:ai}(r:ZT x u):SF u\x:=by
 cases x with
 |non=>cases r;rfl
 |bl _=>cases r;rfl
 |int _=>let#[t,rfl]:=r;rfl
 |str _=>let#[t,rfl]:=r;rfl
 |byt _=>let#[t,rfl]:=r;rfl
 |flt _=>let#[t,rfl]:=r;rfl
 |ref _=>cases r;rfl
 |ty _=>cases r;rfl
def ZT.inj{x y:V}{u:ai}(r:ZT x u)(q:ZT y u):x=y:=zB.inj (r.abs.symm|||q.abs)
def ZR.inj:∀{c a:jf}{b:je},ZR c b->ZR a b->c=a:=by intro _ a _ h g;induction h generalizing a with
 |nil=>cases g;rfl
 |cons r _ d=>cases g with
  |cons e f=>rw[r.inj e,d f]
section
variable{kE:jw}{σ:St}{H:Hp}{s:ak}{a:aj}{xs ys:jf}
def ZH.of{K:zZ}(h:H a\.lst xs):ZH K H a xs:=.inl (.inl h)
def Zc.of{K:zZ}(h:H a\.tup xs):Zc K H a xs:=.inl (.inl h)
theorem ZF.list(I:ZF X kE σ H s)(h:ZH X.K H a xs):∃ b:je,ZR xs b/\PlainL s.heap a ⇑b/\↑xs<=sizeLine:=by
 rcases h with h|⟨o,b,n,f,c,d,g,i,r⟩
 .let#[z,b,n,r,e]:=h.ok I.hok;show#[b,r,#[_,n,e,Z,Z,Z],z]
 .exists b.toList,r,#[o,n,I.kIn a o f,c,d,#v[g]]
  let e:=↑r;simp only[yD] at e
  lia
def ZF.tuple(I:ZF X kE σ H s)(h:Zc X.K H a xs):∃ b:je,ZR xs b/\IsTup s.heap a ⇑b/\↑xs<=sizeLine:=by
 rcases h with h|⟨o,b,n,d,c,f,g,r⟩
 .let#[z,b,r,p]:=h.ok I.hok;show#[b,r,p,z]
 .exists b.toList,r,#[o,I.kIn a o d,c,n,#v[f]]
  let e:=↑r;simp only[yD] at e
  lia
def ZF.list_inj(I:ZF X kE σ H s)(h:ZH X.K H a xs)(i:ZH X.K H a ys):xs=ys:=by
 let#[c,r,#[o,n,e,_,_,d],_]:=I.list h;let#[b,j,#[l,k,g,_,_,f],_]:=I.list i;erw[e] at g;rw[d] at f;injection f with d1 _;have:c=b:=by simpa using congrArg mU d1
 subst this;show r.inj j
def ZF.tuple_inj(I:ZF X kE σ H s)(h:Zc X.K H a xs)(i:Zc X.K H a ys):xs=ys:=by
 let#[c,r,#[o,e,_,n,d],_]:=I.tuple h;let#[b,j,#[l,g,_,k,f],_]:=I.tuple i;erw[e] at g;rw[d] at f;injection f with d1 _;have:c=b:=by simpa using congrArg mU d1
 subst this;show r.inj j
end
abbrev Cx.wish(X:Cx)(E:ja):Cx:={ X with xe:=E }
abbrev Cx.nox(X:Cx):Cx:=X.wish λ_ _=>False
def Cx.Ok.wish{X:Cx}(a:X.Ok)(E:ja):(X.wish E).Ok:=
 #[a.mod,a.kind,a.glob,a.blt,a.above,a.inj,a.has,a.cab,a.hd,a.frames,a.stk,a.exf,a.bs,a.bsz,a.noex,a.exfs,a.funs,a.frf]
def Cx.Ok.unwish{X:Cx}{E:ja}(a:(X.wish E).Ok):X.Ok:=
 #[a.mod,a.kind,a.glob,a.blt,a.above,a.inj,a.has,a.cab,a.hd,a.frames,a.stk,a.exf,a.bs,a.bsz,a.noex,a.exfs,a.funs,a.frf]
section
variable{kE:jw}{σ:St}{H:Hp}{s:ak}{E:ja}
def ZF.wish(I:ZF X kE σ H s)(E:ja):ZF (X.wish E) kE σ H s:=#[I.ok.wish E,I.os,I.bare,I.base,I.loc,I.cell,I.free,I.freeC,I.pin,I.hok,I.len]
def ZF.unwish(I:ZF (X.wish E) kE σ H s):ZF X kE σ H s:=#[I.ok.unwish,I.os,I.bare,I.base,I.loc,I.cell,I.free,I.freeC,I.pin,I.hok,I.len]
def SP.unwish{D:Y1}{f:Flow}{c:ak}(h:SP (X.wish E) kE D f c):SP X kE D f c:=by
 cases f with
 |next=>let#[a,b,I,q]:=h;show#[a,b,I.unwish,q]
 |brk=>let#[a,b,I,q]:=h;show#[a,b,I.unwish,q]
 |cont=>let#[a,b,I,q]:=h;show#[a,b,I.unwish,q]
 |ret u=>let#[v,a,b,I,r,q]:=h;show#[v,a,b,I.unwish,r,q]
def Wc.nox{a:jQ}{t:TS}(h:Wc X.nox a t):Wc X a t:=λkE s σ H D I b=>
 ae (h kE s σ H D (I.wish _) b) (λ_ _ q=>q.unwish) λ_ _ z=>False.elim z
end
section
variable{st:aC}{rest:jQ}{t u:TS}{e:Expr}{te:TE}{pos:aJ}
def Sg:TS:=λD a H=>D.nx a H
def Su(t u:TS):TS:=λD a H=>t { D with nx:=u D } a H
def Z3:Wc X [] Sg:=λ_ _ a H _ I h=>wpAny_execs_nil #[a,H,I,h]
def ZO(g:PS X st t)(i:Wc X rest u):Wc X (st::rest) (Su t u):=by
 intro a s k H D I h;show wpAny_execs_cons (Z0 (g a s k H { D with nx:=u D } I h) λf j q=>?_)
 cases f with
 |next=>
  let#[b,c,d,q]:=q;show i a j b c D d q
 |ret v=>show q
 |brk=>show q
 |cont=>show q
def ZU(b:PS X st t):Wc X [st] t:=by
 intro a s c H D I h;show wpAny_execs_cons (Z0 (b a s c H D I h) λf d q=>?_)
 cases f with
 |next=>show wpAny_execs_nil q
 |ret v=>show q
 |brk=>show q
 |cont=>show q
def ZF.quiet{a:jw}{b:St}{H:Hp}{s:ak}(I:ZF X a b H s):interactive X.env=false:=by simp[interactive,I.ok.kind]
def RE(te:TE):TS:=λD a H=>te a H λ_ b=>D.nx a b
def Y0(f:PE X e te)(g:swapsWith e Y' pos.line X.env=pure false:=by rfl):PS X (.Expr e pos) (RE te):=by
 intro a s b H D I h;show wpAny_Expr_any (YH (f a s b H _ I h) λv k x c d j i=>#[b,c,d,i]) I.quiet g
def RM(te:TE):TS:=λD a H=>te a H D.rt
def Zl(f:PE X e te):PS X (.Return (Z' e) pos) (RM te):=by
 intro a s b H D I h;show wpAny_Return_some (YH (f a s b H _ I h) λv j x c d i g=>#[x,b,c,d,i,g])
def C6:TS:=λD _ H=>D.rt .non H
def xu:PS X (.Return Y' pos) C6:=λ_ _ a H _ I h=>wpAny_Return_none #[.non,a,H,I,Z,h]
def RK(c:TT)(t u:TS):TS:=λD a H=>c a H λb d=>if b=X' then t D a d else u D a d
def Zz{c:Expr}{a b:jQ}{m:TT}(p:PT X c m)(n:Wc X a t)(o:Wc X b u):PS X (.If c a b pos) (RK m t u):=by
 intro f s g H D I h;show wpAny_If (Z0 (p f s g H _ I h) ?_);rintro d l ⟨i,j,k⟩
 cases d with
 |true=>show n f l g i D j k
 |false=>show o f l g i D j k
def zz:TS:=λ_ _ _=>False
def UC{a:jQ}:Wc X a zz:=λ_ _ _ _ _ _ h=>h.elim
end
abbrev nI:=V->St->Hp->(St->Hp->Prop)->Prop
abbrev Nx:=jf->St->Hp->(St->Hp->Prop)->Prop
def PG(X:Cx)(a:Expr)(t:nI):Prop:=
 ∀(b:jw)(s:ak)(e:St)(H:Hp)(v:V)(u:ai)(Q:St->Hp->Prop),ZF X b e H s->ZT v u->t v e H Q ->
  aB ↥X X.A (assign a X.env u) (λ_ f=>∃ c d,ZF X b c d f/\Q c d) X.xe s
def KA(X:Cx)(h:jC)(t:Nx):Prop:=
 ∀(a:jw)(s:ak)(f:St)(H:Hp)(e:jf)(d:je)(Q:St->Hp->Prop),ZF X a f H s->ZR e d->t e f H Q ->
  aB ↥X X.A (assignInOrder ((assignEach h X.env).map (·.2)) d) (λ_ g=>∃ b c,ZF X a b c g/\Q b c) X.xe s
abbrev Ji:=V->V->V->Hp->(Hp->Prop)->Prop
def FE(X:Cx)(t:Ji):Prop:=
 ∀(a:jw)(s:ak)(e:St)(H:Hp)(o i v:V)(d c u:ai)(Q:Hp->Prop),ZF X a e H s->ZT o d->ZT i c->ZT v u->t o i v H Q ->
  aB ↥X X.A (setItem d c u) (λ_ f=>∃ b,ZF X a e b f/\Q b) X.xe s
section
variable{pos:aJ}
def QU(i:Nat):nI:=λv a H Q=>Q (a.set i (Z' v)) H
def Ob{i:Nat}{x:Str}(c:X.N.Nodup)(e:X.N[i]?\x)(f:Nk X.env.scope x)(d:X.fn x=X'\/X.env.scope.names.lookup x\.local:=by first|show .inl rfl|show .inr rfl|assumption):PG X (.Name x pos) (QU i):=by
 intro a s j H v u Q I r h;show wpAny_assign_Name (KU I c e f r (λg b=>#[_,H,b,h]) d)
def Yf(i:Nat){x:Str}(a:X.N.Nodup)(c:X.N[i]?\x:=by rfl)(d:Nk X.env.scope x:=by show Or.inl Z)(b:X.fn x=X'\/X.env.scope.names.lookup x\.local:=by first|show .inl rfl|show .inr rfl|assumption):PG X (.Name x pos) (QU i):=Ob a c d b
def GX:Nx:=λa b H Q=>a=[]/\Q b H
inductive Q5(t:nI)(u:Nx)(c:jf)(d:Tw.St)(H:Hp)(Q:Tw.St->Hp->Prop):Prop
 |mk(v r:_)(_:c=v::r)(_:t v d H λa b=>u r a b Q)
def OC:KA X [] GX:=by
 intro a s b H d c Q I r h;let#[e,h]:=h;subst e;cases r;show assignInOrder_nil #[b,H,I,h]
def XX{e:Expr}{b:jC}{t:nI}{u:Nx}(i:PG X e t)(j:KA X b u)(k:(assignEach (e::b) X.env).map (·.2)=assign e X.env::(assignEach b X.env).map (·.2):=by rfl):KA X (e::b) (Q5 t u):=by
 intro a s o H w p Q I r h;let#[v,q,g,h]:=h;subst g
 cases r with
 |cons r m=>
  rw[k];show assignInOrder_cons (Z0 (i a s o H _ _ _ I r h) ?_);rintro _ n ⟨c,d,f,l⟩;show j a n c d _ _ Q f m l
inductive Me(K:zZ)(n:Nat)(t:Nx)(v:V)(c:Tw.St)(H:Hp)(Q:Tw.St->Hp->Prop):Prop
 |mk(a b:_)(_:v=!a)(_:Zc K H a b)(_:↑b=n)(_:t b c H Q)
def OM{d:jC}{k:Nat}{t:Nx}{n:Nat}(q:X.calm=X')(h:KA X d t)(x:↑(assignEach d X.env)=n:=by rfl)(f:(assignEach d X.env).findIdx? (·.1)=Y':=by rfl):PG X (.Tuple d k pos) (Me X.K n t):=by
 intro c s j H v u Q I r g;let#[a,C,m,y,w,g]:=g;subst m;cases r;let#[B,i,z,D]:=I.tuple y;show assign_Tuple_tuple (I.ok.hd q) z (by simp[x,<-w,i.length]) f λp A=>?_
 let l:ZF X c j H { s with heap:=p }:=I.kept (t':=s.toks) λb o e=>A b o (zJ (zU e)) e;show h c _ j H C _ Q l (by simpa using i) g
def Bl(f e:TE)(t:Ji):nI:=λv a H Q=>f a H λo b=>e a b λi c=>t o i v c λd=>Q a d
def J4{o i:Expr}{f e:TE}{t:Ji}(w:PE X o f)(q:PE X i e)(z:FE X t)(p:∀ v,assign (.Subscript o i pos) X.env v=(do
   let b<-holding [v] (aH o X.env)
   let c<-holding [v,b] (aH i X.env)
   standAt pos
   holding [v,b,c] (setItem b c v)
   release [v,b,c] []):=by intro _;rfl):PG X (.Subscript o i pos) (Bl f e t):=by
 intro a s d H v u Q I r h;rw[p];show aa (af (YH (w a s d H _ I h) λb F x g l D A=>?_));show aa (af (YH (q a F d g _ l A) λc G y j m E B=>?_));show aa (ah (aa (af (Z0 (z a G d j x y v b c u _ m D E r B) ?_))));rintro _ J ⟨k,n,C⟩;show wpAny_release #[d,k,n,C]
def HZ(c:TE)(g:nI):TS:=λD a H=>c a H λx b=>g x a b D.nx
def Ps{b e:Expr}{c:TE}{g:nI}(k:PE X e c)(l:PG X b g)(m:swapsWithSole [b] e pos.line X.env=pure false:=by rfl)(n:swappedStores [b] e X.env=pure Y':=by rfl)(j:(assignEach [b] X.env).map (·.2)=[assign b X.env]:=by rfl):PS X (.Assign [b] e pos) (HZ c g):=by
 intro a s d H D I h;show wpAny_Assign_stores (YH (k a s d H _ I h) λv r x f i p o=>?_) m n;rwa[j,Z0 (l a r d f x v _ i p o) λ_ t q=>q]
def NE{i:Nat}{x:Str}{e:Expr}{c:TE}{a:aJ}(j:X.N.Nodup)(m:X.N[i]?\x)(o:Nk X.env.scope x)(k:PE X e c)(n:swapsWith e (Z' (.Name x a)) pos.line X.env=pure false:=by rfl)(l:X.fn x=X'\/X.env.scope.names.lookup x\.local:=by first|show .inl rfl|show .inr rfl|assumption):
  PS X (.Assign [.Name x a] e pos) (HZ c (QU i)):=by
 intro b s r H D I h;show wpAny_Assign_Name (YH (k b s r H _ I h) λv t y d f q p=>?_) n;show KU f j m o q (λu g=>#[_,d,g,p]) l
def Zs(i:Nat){x:Str}{e:Expr}{b:TE}{a:aJ}(c:X.N.Nodup)(d:PE X e b)(g:X.N[i]?\x:=by rfl)(j:Nk X.env.scope x:=by show Or.inl Z)(h:swapsWith e (Z' (.Name x a)) pos.line X.env=pure false:=by rfl)(f:X.fn x=X'\/X.env.scope.names.lookup x\.local:=by first|show .inl rfl|show .inr rfl|assumption):
  PS X (.Assign [.Name x a] e pos) (HZ b (QU i)):=NE c g j d h f
inductive Oq(c:TT)(h:TS)(D:Y1)(a:Tw.St)(H:Hp):Prop
 |mk(W:Nat->St->Hp->Prop)(_:∃ m,W m a H)(_:∀ m a H,W m a H->c a H λb f=>if b=X' then ∃ N:St->Hp->Prop,(∀ d e,N d e->∃ g,g<m/\W g d e)/\h { D with nx:=N,ct:=N,bk:=D.nx } a f else D.nx a f)
def MP{c:Expr}{g:jQ}{F:TT}{E:TS}(C:PassesOwn ↥X X.A X.env X.xe)(K:PT X c F)(J:Wc X g E):PS X (.While c g [] pos) (Oq F E):=by
 intro a s S H D I h;let#[W,#[L,Q],j]:=h;show wpAny_While (codeAny_whileLoop (λn M=>∃ k u,ZF X a k u M/\W n k u) ?_ L #[S,H,I,Q]);rintro n O ⟨e,x,G,R⟩;show wpAny_passesOwn C (Z0 (K a O e x _ G (j n e x R)) ?_);rintro b P ⟨y,z,l⟩
 cases b with
 |true=>
  let#[N,B,l]:=l;rw[aP rfl];show wpAny_passesOwn C (Z0 (J a P e y _ z l) λf T m=>?_)
  cases f with
  |next=>
   let#[d,i,o,r]:=m;let#[q,p,t]:=B d i r;show#[q,p,d,i,o,t]
  |cont=>
   let#[d,i,o,r]:=m;let#[q,p,t]:=B d i r;show#[q,p,d,i,o,t]
  |brk=>show m
  |ret v=>show m
 |false=>
  rwa[aO zN,wpAny_execs_nil #[e,y,z,l]]
end
structure It where
 go:Nat->Hp->Prop
 yld:Nat->Hp->V->Hp->Prop
 stop:Nat->Hp->Prop
def VS(X:Cx)(a:jw)(H:Hp)(b:aj):Prop:=
 H b=Y'/\b≠X.env.locals/\b∉X.fs/\(b∈X.ex\/X.s₀.heap.objs.size<=b)/\(∀ x c,X.env.cells.lookup x\c->c≠b)/\∀ p∈X.pn++a,p.1≠b
def ZF.fpOk{X:Cx}{a:jw}{i:St}{H f:Hp}{s:ak}{b:aj}(I:ZF X a i H s)(d:‹s›<=b)(g:f b=Y'):VS X a f b:=by
 show#[g,wW (yV I.lt d),I.nofs d,.inr (zR I.sz d),λx c e z=>?_,λp h z=>?_]
 .let#[v,q]:=I.cell x c e;show mZ (yV q.lt #v[z,d]) (wV _)
 .show mZ (yV (zU (I.pin p h).1) #v[z,d]) (wV _)
structure Vm(P:am)(w:aw)(K:zZ)(tg:Expr)(J:It)(fp:jx)(it:aj)(tn:Nat->aD->Prop):Prop where
 mem:it∈fp
 obj:∀ i h,tn i h->∀ b∈fp,∃ o,h.get? b\o/\∀ v,o.data≠.cell v
 keep:∀ i h h',tn i h->(∀ b∈fp,∀ o,h.get? b\o->h'.get? b\o)->tn i h'
 item:∀(X:Cx),X.prog=P->X.w=w->X.K=K->X.calm=X'->∀(i:Nat)(kE:jw)(s:ak)(σ:St)(H:Hp)(E:ja),ZF X kE σ H s->(∀ b∈fp,VS X kE H b)->tn i s.heap->J.go i H ->
  aB (aA P w) X.A (pyNext !it) (λr s1=>∃ u,r=Z' u /\
   aB (aA P w) X.A (letOwnedTupleGo tg (!it) u) (λ_ s2=>∃ x H',ZF X kE σ H' s2/\ZT x u/\J.yld i H x H'/\tn (i+1) s2.heap/\∀ b∈fp,H' b=Y') E s1) E s
 done:∀(X:Cx),X.prog=P->X.w=w->X.K=K->X.calm=X'->∀(i:Nat)(kE:jw)(s:ak)(σ:St)(H:Hp)(E:ja),ZF X kE σ H s->(∀ b∈fp,VS X kE H b)->tn i s.heap->J.stop i H ->
  aB (aA P w) X.A (pyNext !it) (λr s1=>r=Y'/\ZF X kE σ H s1) E s
 self:∀(A:ax)(i:Nat)(s:ak)(Q:ja)(E:ja),tn i s.heap->Q (!it) s->aB (aA P w) A (pyIter !it) Q E s
abbrev TI:=St->Hp->(It->Hp->Prop)->Prop
def DJ(X:Cx)(a:jw)(j:St)(i:Expr)(R:It->Hp->Prop)(d:ai)(g:ak):Prop:=
 ∃(f:aj)(e:jx)(h:Nat->aD->Prop)(J:It)(c:Hp),d=.ref f/\ZF X a j c g/\Vm X.prog X.w X.K i J e f h/\h 0 g.heap/\(∀ b∈e,VS X a c b)/\R J c
def PI(X:Cx)(e b:Expr)(f:TI):Prop:=
 ∀(a:jw)(s:ak)(c:St)(H:Hp)(R:It->Hp->Prop),ZF X a c H s->f c H R ->
  aB ↥X X.A (aH b X.env) (λv d=>aB ↥X X.A (pyIter v) (DJ X a c e R) X.xe d) X.xe s
def Ka{M:Model}{A:ax}{E:ja}{s:ak}{c:Expr}{b:aj}{u:ai}{o:aI}{n:String}{d:jA}{Q:Unit->ak->Prop}(i:s.heap.get? b\o)(e:o.cls=.type n)(f:o.data=.fields d)(g:["enumerate","zip","dict_itemiterator","dict_reverseitemiterator","odict_iterator","itertools.zip_longest","itertools.pairwise"].contains n=false)(a:Q .unit s):aB M A (letOwnedTupleGo c (!b) u) Q E s:=by
 unfold letOwnedTupleGo;cases c<;>first
  |show ad a
  |(cases u<;>first
    |show ad a
    |(show aa (wpAny_load i ?_);rw[e,f];change aB M A (if (["enumerate","zip","dict_itemiterator","dict_reverseitemiterator","odict_iterator","itertools.zip_longest","itertools.pairwise"].contains n&&d[0]? == Z' (rawInt _))=X' then _ else _) Q E s;rwa[aO (by intro h;erw[g,tP] at h),ad a]))
def N2(K:zZ)(a:aj):It:=
 #[λi H=>∃ b x,ZH K H a b/\b[i]?\x,λi H x c=>c=H/\∀ b,ZH K H a b->b[i]?\x,λi H=>∃ b,ZH K H a b/\↑b<=i]
def Dx(K:zZ)(a:aj):It:=
 #[λi H=>∃ b x,Zc K H a b/\b[i]?\x,λi H x c=>c=H/\∀ b,Zc K H a b->b[i]?\x,λi H=>∃ b,Zc K H a b/\↑b<=i]
def Oe(b:Int)(n:Nat):It:=#[λi _=>i<n,λi H x a=>a=H/\x=.int (b+i),λi _=>n<=i]
theorem qb{P:am}{w:aw}{K:zZ}{tg:Expr}(a l:aj):Vm P w K tg (N2 K a) [l] l (λi h=>h.IsListIter l a i) where
 mem:=by simp
 obj:=λi h f b j=>by
  let e:b=l:=by simpa using j
  subst e;let#[o,e,c,d]:=f;show#[o,e,λv z=>by erw[d] at z]
 keep:=λi h n f k=>f.at λo e=>k l ⋯ o e
 item:=by
  intro X F J D O i g s Q H E I q f G;subst F J D;let#[xs,x,r,L]:=G;let#[M,N,p,Y]:=I.list r;let#[u,U,ru]:=N.get L;let#[t,y,T,A,B,C]:=q l ⋯
  show wpAny_pyNext_list_item f p.isList (x:=u) #v[U] λn m sb=>?_
  let R:ZF X g Q H { s with heap:=n }:=I.turned (t':=s.toks) (λb o j e=>(sb.2 b j)|||e) t y A B C;let#[o,e,c,d]:=id m;show#[u,Z,Ka (s:={ s with heap:=n }) e c d (by decide) #[x,H,R,ru,#[Z,λys V=>#v[I.list_inj V r,L]],m,λb j=>(q b j).1]]
 done:=by
  intro X F J D O i g s Q H E I q f G;subst F J D;let#[xs,r,L]:=G;let#[M,N,p,Y]:=I.list r;let#[t,y,T,A,B,C]:=q l ⋯
  let hl:=↑N;show wpAny_pyNext_list_end (I.ok.hd O) f p.isList (by simp;lia) λn S=>#[Z,I.turned (t':=s.toks) (λb o j e=>S b o j e) t y A B C]
 self:=λ_ _ _ _ _ f h=>wpAny_pyIter_listiter f h
def pu{P:am}{w:aw}{K:zZ}{tg:Expr}(a l:aj):Vm P w K tg (Dx K a) [l] l (λi h=>h.IsTupleIter l a i) where
 mem:=by simp
 obj:=λi h f b j=>by
  let e:b=l:=by simpa using j
  subst e;let#[o,e,c,d]:=f;show#[o,e,λv z=>by erw[d] at z]
 keep:=λi h q f k=>f.at λo e=>k l ⋯ o e
 item:=by
  intro X G L F O i g s Q H E I r f J;subst G L F;let#[xs,x,t,M]:=J;let#[m,N,p,Y]:=I.tuple t;let#[u,U,ru]:=N.get M;let#[y,A,T,B,C,D]:=r l ⋯
  show wpAny_pyNext_tuple_item f (show s.heap.IsTuple a ⇑m from p) (x:=u) #v[U] λq n sb=>?_
  let R:ZF X g Q H { s with heap:=q }:=I.turned (t':=s.toks) (λb o j e=>(sb.2 b j)|||e) y A B C D;let#[o,e,c,d]:=id n;show#[u,Z,Ka (s:={ s with heap:=q }) e c d (by decide) #[x,H,R,ru,#[Z,λys V=>#v[I.tuple_inj V t,M]],n,λb j=>(r b j).1]]
 done:=by
  intro X G L F O i g s Q H E I r f J;subst G L F;let#[xs,t,M]:=J;let#[m,N,p,Y]:=I.tuple t;let#[y,A,T,B,C,D]:=r l ⋯
  let hl:=↑N;show wpAny_pyNext_tuple_end (I.ok.hd O) f (show s.heap.IsTuple a ⇑m from p) (by simp;lia) λq S=>#[Z,I.turned (t':=s.toks) (λb o j e=>S b o j e) y A B C D]
 self:=λ_ _ _ _ _ f h=>wpAny_pyIter_tupleiter f h
theorem oS{P:am}{w:aw}{K:zZ}{Q:Expr}(c:aj)(m:Int)(n:Nat):Vm P w K Q (Oe m n) [c] c (λi h=>IsRangeIter h c (m+(i:Nat)*1) ((n:Int)-(i:Nat)) 1) where
 mem:=by simp
 obj:=λi h a b f=>by
  let e:b=c:=by simpa using f
  subst e;show#[_,a,λv z=>by
   let R:Data.fields _=Data.cell v:=z;cases R]
 keep:=λi h j a k=>k c ⋯ _ a
 item:=by
  intro X A D y B i d s G H E I l a C;subst A D y;let#[p,q,M,r,u,x]:=l c ⋯
  let W:=Walks.range (prog:=X.prog) (w:=X.w) (I.ok.hd B) c m 1 n;show W.item i s _ _ C a λv j F N g O=>?_;let#[t,rfl]:=N;let J:ZF X d G H { s with heap:=j,toks:=F }:=I.turned (λb o f e=>O b o #v[f] e) p q r u x
  show#[1,Ka (s:={ s with heap:=j,toks:=F }) (n:= "range_iterator") g Z Z (by decide) #[.int (m+i),H,J,#[t,?_],#[Z,Z],g,λb f=>(l b f).1]]
  rw[Int.mul_one]
 done:=by
  intro X A D y B i d s G H E I l a C;subst A D y;let#[p,q,M,r,u,x]:=l c ⋯
  show wpAny_pyNext_range_end (I.ok.hd B) a (by have:n<=i:=C;lia) λj L=>#[Z,I.turned (t':=s.toks) (λb o f e=>L b o f e) p q r u x]
 self:=λ_ _ _ _ _ a h=>wpAny_pyIter_rangeiter a h
section
variable{tg:Expr}
inductive Oh(K:zZ)(R:It->Hp->Prop)(x:V)(b:Hp):Prop
 |mk(a:_)(_:x=!a)(_:∃ c,ZH K b a c)(_:R (N2 K a) b)
def Bc(K:zZ)(b:TE):TI:=λc H R=>b c H λx a=>Oh K R x a
inductive MZ(K:zZ)(R:It->Hp->Prop)(x:V)(b:Hp):Prop
 |mk(a:_)(_:x=!a)(_:∃ c,Zc K b a c)(_:R (Dx K a) b)
def RP(K:zZ)(b:TE):TI:=λc H R=>b c H λx a=>MZ K R x a
def Wa{l:Expr}{g:TE}(k:PE X l g):PI X tg l (Bc X.K g):=by
 intro c s u H R I h;show YH (k c s u H _ I h) λv f x i d t r=>?_;let#[a,e,#[z,m],q]:=r;subst e;cases t;let#[n,y,p,w]:=d.list m;show wpAny_pyIter_list p.isList ?_;show#[‹f›,[‹f›],_,_,i,Z,d.kept (t':=f.toks) λb o e=>zS _ e,qb a _,#[_,yS _ Z,Z,Z],λb j=>?_,q];let e:b=‹f›:=by simpa using j
 subst e;show d.fpOk (zY _) (d.hok.fresh (zY _))
def K4{l:Expr}{i:TE}(m:PE X l i):PI X tg l (RP X.K i):=by
 intro c s u H R I h;show YH (m c s u H _ I h) λv d x j f t r=>?_;let#[a,e,#[z,n],q]:=r;subst e;cases t;let#[g,y,p,w]:=f.tuple n;show wpAny_pyIter_tuple (show d.heap.IsTuple a ⇑g from p) ?_;show#[‹d›,[‹d›],_,_,j,Z,f.kept (t':=d.toks) λb o e=>zS _ e,pu a _,#[_,yS _ Z,Z,Z],λb k=>?_,q];let e:b=‹d›:=by simpa using k
 subst e;show f.fpOk (zY _) (f.hok.fresh (zY _))
theorem FK{d:jw}{h:St}{H:Hp}{s:ak}{R:It->Hp->Prop}{E:ja}{a c:Int}{t u v:Tok}{g:Nat}(I:ZF X d h H s)(k : -(2^62)<=a)(l:a<2^62)(m : -(2^62)<=c)(n:c<2^62)(q:R (Oe a (c-a).toNat) H):aB ↥X X.A (pyIter (.ref ‹s›)) (DJ X d h tg R) E { s with heap:=s.heap.push { cls:=.type "range",data:=.fields ⇑[.int a t,.int c u,.int 1 v] },toks:=g }:=by
 show wpAny_pyIter_range (IsRange.new ..) (small_one k l m n) ?_;let f:ZF X d h H { s with heap:=s.heap.push { cls:=.type "range",data:=.fields ⇑[.int a t,.int c u,.int 1 v] },toks:=g }:=I.kept λb o e=>zS _ e;show#[(s.heap.push { cls:=.type "range",data:=.fields ⇑[.int a t,.int c u,.int 1 v] }).objs.size,[(s.heap.push { cls:=.type "range",data:=.fields ⇑[.int a t,.int c u,.int 1 v] }).objs.size],_,_,H,Z,
  f.kept (t':=g) λb o e=>zS _ e,oS _ a (c-a).toNat,?_,λb p=>?_,q]
 .let i:a+((0:Nat):Int)*1=a:=by simp
  let j:(((c-a).toNat:Nat):Int)-((0:Nat):Int)=Builtin.Range.rangeSize a c 1:=by rw[rangeSize_one];split<;>lia
  change IsRangeIter _ _ (a+((0:Nat):Int)*1) ((((c-a).toNat:Nat):Int)-((0:Nat):Int)) 1;rwa[i,j,yS _ Z]
 .let e:b=(s.heap.push { cls:=.type "range",data:=.fields ⇑[.int a t,.int c u,.int 1 v] }).objs.size:=#v[p]
  subst e;show f.fpOk (zY _) (f.hok.fresh (zY _))
inductive Oa(R:It->Hp->Prop)(b:jf)(a:Hp):Prop
 |mk(j:Int)(_:b=[-j])(_ : -(2^62)<=j)(_:j<2^62)(_:R (Oe 0 j.toNat) a)
def RZ(b:TA):TI:=λd H R=>b d H λc a=>Oa R c a
inductive Oc(R:It->Hp->Prop)(b:jf)(a:Hp):Prop
 |mk(i j:Int)(_:b=[-i,-j])(_ : -(2^62)<=i/\i<2^62 /\ -(2^62)<=j/\j<2^62)(_:R (Oe i (j-i).toNat) a)
def RB(b:TA):TI:=λd H R=>b d H λc a=>Oc R c a
theorem NR{a:Expr}{d:TA}{p pos:aJ}(i:Gl X "range")(k:X.mg "range"=Y')(g:PA X [a] d)(l:ar [a] X.env=[(false,aH a X.env)]:=by rfl):PI X tg (.Call (.Name "range" p) [a] [] pos) (RZ d):=by
 intro b s u H R I h;show Call_ (OD I i k boot_range (PyProof.Rows.callWith_type1 (YH (g pos b s u H _ I h) λx w y v f n c=>?_) l Z));let#[j,e,c,m,q]:=c;subst e
 cases n with
 |cons r o=>
  cases o;let#[t,rfl]:=r;show call_range_1 (FK f () () c m #v[q])
def Kx{a b:Expr}{k:TA}{p pos:aJ}(n:Gl X "range")(o:X.mg "range"=Y')(m:PA X [a,b] k)(u:ar [a,b] X.env=[(false,aH a X.env),(false,aH b X.env)]:=by rfl)(c:ar [b] X.env=[(false,aH b X.env)]:=by rfl):
  PI X tg (.Call (.Name "range" p) [a,b] [] pos) (RB k):=by
 intro d s A H R I h;show Call_ (OD I n o boot_range (PyProof.Rows.callWith_type1 (YH (m pos d s A H _ I h) λE C F B l z f=>?_) (by rw[u,c]) (by rw[c];rfl)))
 let#[i,j,e,#[f,v,w,x],q]:=f;subst e
 cases z with
 |cons r g=>
  cases g with
  |cons y g=>
   cases g;let#[t,rfl]:=r;let#[D,rfl]:=y;show call_range_2 (FK l f v w x q)
def SA(k:TI)(g:nI)(j:TS):TS:=λD a H=>k a H λJ f=>∃ W:Nat->Nat->St->Hp->Prop,(∃ m,W 0 m a f)/\∀ i m a H,W i m a H ->
 (J.stop i H/\D.nx a H)\/(J.go i H/\∃ N:St->Hp->Prop,(∀ c b,N c b->∃ e,e<m/\W (i+1) e c b)/\∀ x b,J.yld i H x b->g x a b λd h=>j { D with nx:=N,ct:=N,bk:=D.nx } d h)
def Nz(a:jx)(h:aD):jw:=a.filterMap λb=>(h.get? b).map λo=>(b,o)
def Nn{a:jx}{h:aD}{b:aj}{o:aI}(c:b∈a)(e:h.get? b\o):(b,o)∈Nz a h:=uZ.mpr #[b,c,by rw[e];rfl]
def qz{a:jx}{h:aD}{p:aj×aI}(f:p∈Nz a h):p.1∈a/\h.get? p.1\p.2:=by
 let#[b,d,e]:=uZ.mp f
 cases q:h.get? b with
 |none=>erw[q] at e
 |some o=>
  rw[q] at e;let c:(b,o)=p:=zB.inj e;subst c;show#[d,q]
def ZF.pinned{a:jw}{h:St}{H:Hp}{s:ak}{c:jx}(I:ZF X a h H s)(l:∀ b∈c,VS X a H b)(m:∀ b∈c,∃ o,s.heap.get? b\o/\∀ v,o.data≠.cell v):ZF X (a++Nz c s.heap) h H s:=
 I.pins_of λp n=>(zC.mp n).elim (λz=>I.pin p (yF _ z)) λz=>by
  let#[g,e]:=qz z;let#[i,j,k,_]:=l p.1 g;let#[o,f,d]:=m p.1 g;erw[e] at f;show#[e,i,j,k,d]
def ZF.unpinned{a d:jw}{b:St}{H:Hp}{s:ak}(I:ZF X (a++d) b H s):ZF X a b H s:=I.pins_of λp c=>I.pin p (yF _ (yG _ c))
def Vj{q:Expr}{C:jQ}{wi:TI}{g:nI}{tb:TS}{pos:aJ}(L:PassesOwn ↥X X.A X.env X.xe)(hc:X.calm=X')(hi:PI X tg q wi)(hg:PG X tg g)(p:Wc X C tb)(hs:∀ x,foldedSetIterable q X.env x=pure x:=by intro _;rfl):PS X (.For tg q C [] pos) (SA wi g tb):=by
 intro a s σ H D I h;show wpAny_For (Z0 (hi a s σ H _ I h) λv s1 h1=>Z0 h1 λa2 s2 h2=>?_) hs;let#[it,G,tn,J,H2,e,I2,T,a0,f2,W,#[m0,w0],Q]:=h2;subst e;let t:∀{B:Hp},(∀ b∈G,B b=Y')->∀ b∈G,VS X a B b:=λhn b p=>#[hn b p,(f2 b p).2];show codeAny_forLoop_any (λn s'=>∃ i y B,ZF X a y B s'/\tn i s'.heap/\(∀ b∈G,B b=Y')/\W i n y B) ?_ m0 #[(0),σ,H2,I2,a0,λb p=>(f2 b p).1,w0];rintro n s3 ⟨i,z,R,I3,O,K,w3⟩;rcases Q i n z R w3 with ⟨P,qn⟩|⟨go,N,hN,step⟩
 .show wpAny_passesOwn L (Z0 (T.done X Z Z Z hc i a s3 z R X.xe I3 (t K) O P) ?_);rintro r s4 ⟨V,I4⟩;subst V;show wpAny_execs_nil #[z,R,I4,qn]
 .show wpAny_passesOwn L (Z0 (T.item X Z Z Z hc i a s3 z R X.xe I3 (t K) O go) ?_);rintro r s4 ⟨u,V,h4⟩;subst V;show wpAny_passesOwn L (Z0 h4 ?_);rintro _ s5 ⟨x,H5,I5,r5,y5,F,U⟩;let S:=I5.pinned (t U) (T.obj _ _ F);show wpAny_passesOwn L (Z0 (hg _ s5 z H5 x u _ S r5 (step x H5 y5)) ?_);rintro _ s6 ⟨a1,H6,I6,q6⟩;show wpAny_passesOwn L (Z0 (p _ s6 a1 H6 _ I6 q6) λf Y E=>?_);let l:∀{c:St}{j:Hp},ZF X (a++Nz G s5.heap) c j Y->N c j->∃ m,m<n/\∃ i y B,ZF X a y B Y/\tn i Y.heap/\(∀ b∈G,B b=Y')/\W i m y B:=fun{c j} k M=>by
   let#[m',hm,w7]:=hN c j M;show#[m',hm,i+1,c,j,k.unpinned,T.keep _ _ _ F λb p o e=>(k.pin (b,o) (yF _ (yF _ (Nn p e)))).1,λb p=>?_,w7];let#[o,e,d]:=T.obj _ _ F b p;show(k.pin (b,o) (yF _ (yF _ (Nn p e)))).2.1
  cases f with
  |next=>let#[c,j,k,M]:=E;show l k M
  |cont=>let#[c,j,k,M]:=E;show l k M
  |brk=>let#[c,j,k,E]:=E;show#[c,j,k.unpinned,E]
  |ret v=>let#[x7,c,j,k,r7,E]:=E;show#[x7,c,j,k.unpinned,r7,E]
end
theorem PM{K:zZ}{a:aj}{xs:jf}{g:nI}{n:TS}{D:Y1}{b:St}{H:Hp}(c:Nat->St->Hp->Prop)(o:c 0 b H)(t:∀ i b H,i<=↑xs->c i b H->ZH K H a xs)(u:∀ i x b H,xs[i]?\x->c i b H->g x b H λh k=>n { D with nx:=c (i+1),ct:=c (i+1),bk:=D.nx } h k)(r:∀ b H,c ↑xs b H->D.nx b H):
  ∃ W:Nat->Nat->St->Hp->Prop,(∃ m,W 0 m b H)/\∀ i m b H,W i m b H ->
   ((N2 K a).stop i H/\D.nx b H)\/((N2 K a).go i H/\∃ N:St->Hp->Prop,(∀ f d,N f d->∃ l,l<m/\W (i+1) l f d)/\∀ x d,(N2 K a).yld i H x d->g x b d λh k=>n { D with nx:=N,ct:=N,bk:=D.nx } h k):=by
 exists λi m b H=>m=↑xs-i/\i<=↑xs/\c i b H,#[↑xs,by simp,yZ _,o]
 rintro i m b H ⟨rfl,s,p⟩;let q:=t i b H s p;by_cases j:i<↑xs
 .show .inr #[#[xs,xs[i],q,by simp[j]],c (i+1),λf d v=>#[↑xs-(i+1),by show rO ‹_› (yA _),Z,j,v],λx d y=>?_]
  let#[e,y]:=y;subst e;show u i x b _ (y xs q) p
 .let e:i=↑xs:=()
  subst e;show .inl #[#[xs,q,zY _],r b H p]
theorem Og{lo:Int}{n:Nat}{g:nI}{l:TS}{D:Y1}{a:St}{H:Hp}(c:Nat->St->Hp->Prop)(o:c 0 a H)(r:∀ i a H,i<n->c i a H->g (.int (lo+i)) a H λh j=>l { D with nx:=c (i+1),ct:=c (i+1),bk:=D.nx } h j)(q:∀ a H,c n a H->D.nx a H):
  ∃ W:Nat->Nat->St->Hp->Prop,(∃ m,W 0 m a H)/\∀ i m a H,W i m a H ->
   ((Oe lo n).stop i H/\D.nx a H)\/((Oe lo n).go i H/\∃ N:St->Hp->Prop,(∀ f b,N f b->∃ k,k<m/\W (i+1) k f b)/\∀ x b,(Oe lo n).yld i H x b->g x a b λh j=>l { D with nx:=N,ct:=N,bk:=D.nx } h j):=by
 exists λi m a H=>m=n-i/\i<=n/\c i a H,#[n,by simp,yZ _,o]
 rintro i m a H ⟨rfl,t,p⟩;by_cases d:i<n
 .show .inr #[d,c (i+1),λf b s=>#[n-(i+1),by show rO ‹_› (yA _),Z,d,s],λx b y=>?_]
  let#[e,y]:=y;subst e y;show r i a _ d p
 .let e:i=n:=()
  subst e;show .inl #[zY _,q a H p]
abbrev R2:=V->V->Hp->VK->Prop
def Yz(X:Cx)(f:ai->ai->Sem ai)(r:R2):Prop:=
 ∀(a:jw)(s:ak)(b:St)(H:Hp)(x y:V)(v u:ai)(Q:VK),ZF X a b H s->ZT x v->ZT y u->r x y H Q ->
  aB ↥X X.A (f v u) (EP X a b Q) X.xe s
def IH(X:Cx)(f:ai->Sem ai)(r:V->Hp->VK->Prop):Prop:=
 ∀(a:jw)(s:ak)(b:St)(H:Hp)(x:V)(v:ai)(Q:VK),ZF X a b H s->ZT x v->r x H Q ->
  aB ↥X X.A (f v) (EP X a b Q) X.xe s
def Vd(X:Cx)(f:ai)(r:jf->Hp->VK->Prop):Prop:=
 ∀(a:jw)(s:ak)(d:St)(H:Hp)(c:jf)(b:je)(Q:VK),ZF X a d H s->ZR c b->r c H Q ->
  aB ↥X X.A (call f b) (EP X a d Q) X.xe s
def Nq(r:R2)(d e:TE):TE:=λa H Q=>d a H λx b=>e a b λy c=>r x y c Q
def SR(r:V->Hp->VK->Prop)(b:TE):TE:=λc H Q=>b c H λx a=>r x a Q
inductive rI(C:Int->Int->Prop)(g:Int->Int->V)(x y:V)(H:Hp)(Q:VK):Prop
 |mk(i j:_)(_:x=.int i)(_:y=.int j)(_:C i j)(_:Q (g i j) H)
inductive OT(g:Int->Int->V)(x y:V)(H:Hp)(Q:VK):Prop
 |mk(i j:_)(_:x=.int i)(_:y=.int j)(_:Q (g i j) H)
inductive rU(g:Int->V)(x:V)(H:Hp)(Q:VK):Prop
 |mk(i:_)(_:x=.int i)(_:Q (g i) H)
section
variable{a b c:Expr}{ta tb tc:TE}{pos:aJ}
def JA(o:PE X a ta)(p:PE X b tb){d:jw}{s:ak}{g:St}{H:Hp}{R:V->V->Hp->Prop}(I:ZF X d g H s)(h:ta g H λx l=>tb g l λy e=>R x y e){Q:ja}{f:ai->ai->Sem ai}(q:∀ v u k x y e,ZF X d g e k->ZT x v->ZT y u->R x y e->aB ↥X X.A (f v u) Q X.xe k):
  aB ↥X X.A (aH a X.env) (λv i=>aB ↥X X.A (aH b X.env) (λu j=>aB ↥X X.A (f v u) Q X.xe j) X.xe i) X.xe s:=by
 show YH (o d s g H _ I h) λv C x l m z r=>?_;show YH (p d C g l _ m r) λu k y e n B t=>?_;show q v u k x y e n z B t
def Z5{e:Operator}{r:R2}(k:Yz X (binaryOp e) r)(i:PE X a ta)(j:PE X b tb):PE X (.BinOp a e b pos) (Nq r ta tb):=by
 intro d s o H Q I h;show wpAny_BinOp (JA i j I h λv u n x y f g l m q=>k d n o f x y v u Q g l m q)
def QL{e:UnaryOp}{r:V->Hp->VK->Prop}(k:IH X (unaryOp e) r)(j:PE X a ta):PE X (.UnaryOp e a pos) (SR r ta):=by
 intro d s f H Q I h;show UnaryOp_ (YH (j d s f H _ I h) λv n x g i m l=>k d n f g x v Q i m l)
def MT{f:ai->ai->Sem ai}{C:Int->Int->Prop}{g:Int->Int->Int}(d:∀ (i j:Int) (t u:Tok) (s:ak) (Q:ja) (E:ja),C i j->Q (.int (g i j) s.toks) { s with toks:=s.toks+1 }->aB ↥X X.A (f (.int i t) (.int j u)) Q E s):
  Yz X f (rI C λi j=>.int (g i j)):=by
 intro e s o H x y v u Q I l m h;let#[i,j,rfl,rfl,k,q]:=h;let#[t,rfl]:=l;let#[n,rfl]:=m;show d i j t n s _ _ k #[.int (g i j),H,I.tok _,#[1],q]
def Ge{f:ai->ai->Sem ai}{g:Int->Int->Int}(d:∀ (i j:Int) (t u:Tok) (s:ak) (Q:ja) (E:ja),Q (.int (g i j) s.toks) { s with toks:=s.toks+1 }->aB ↥X X.A (f (.int i t) (.int j u)) Q E s):
  Yz X f (OT λi j=>.int (g i j)):=by
 intro e s n H x y v u Q I k l h;let#[i,j,rfl,rfl,q]:=h;let#[t,rfl]:=k;let#[m,rfl]:=l;show d i j t m s _ _ #[.int (g i j),H,I.tok _,#[1],q]
def Ls{f:ai->ai->Sem ai}{g:Int->Int->Bool}(d:∀ (i j:Int) (t u:Tok) (s:ak) (Q:ja) (E:ja),Q (.bool (g i j)) s->aB ↥X X.A (f (.int i t) (.int j u)) Q E s):
  Yz X f (OT λi j=>.bl (g i j)):=by
 intro e s n H x y v u Q I k l h;let#[i,j,rfl,rfl,q]:=h;let#[t,rfl]:=k;let#[m,rfl]:=l;show d i j t m s _ _ #[.bl (g i j),H,I,Z,q]
def Sw(i j:Int):Prop:=0<j/\j<1073741824
def Sq(i j:Int):Prop:=0<=j/\j<=1000000/\i.natAbs<2^64
def PY(i j:Int):Prop:=(-(2^64)<i/\i<2^64)\/(-(2^64)<j/\j<2^64)
def PY.ok{i j:Int}(h:PY i j):IntMulOk i j:=by
 rcases h with ⟨d,e⟩|⟨d,e⟩
 .show .of_left (intBits_le_64 d e)
 .show .of_right (intBits_le_64 d e)
def Wp:Yz X (binaryOp .Add) (OT λi j=>.int (i+j)):=Ge λ_ _ _ _ _ _ _ q=>add_int q
def PL:Yz X (binaryOp .Sub) (OT λi j=>.int (i-j)):=Ge λ_ _ _ _ _ _ _ q=>sub_int q
def OY:Yz X (binaryOp .Mult) (rI PY λi j=>.int (i*j)):=MT λ_ _ _ _ _ _ _ d q=>mul_int q d.ok
theorem JF:Yz X (binaryOp .FloorDiv) (rI Sw λi j=>.int (i/j)):=MT λi j _ _ _ _ _ d q=>by
 let e:(0:Int)<j:=d.1;let f:j<1073741824:=d.2;show floordiv_int () #v[mF i (),q] (.inl (PyProof.noPylong_small ()))
def Qp:Yz X (binaryOp .Mod) (rI (λ_ j=>0<j) λi j=>.int (i%j)):=MT λi j _ _ _ _ _ d q=>by
 show mod_int' () #v[Int.fmod_eq_emod_of_nonneg i (),q]
def F0:Yz X (binaryOp .Pow) (rI Sq λi j=>.int (i^j.toNat)):=MT λ_ _ _ _ _ _ _ d q=>pow_int_small d.1 d.2.1 d.2.2 q
def SS{f:ai->Sem ai}{g:Int->Int}(d:∀ (i:Int) (t:Tok) (s:ak) (Q:ja) (E:ja),Q (.int (g i) s.toks) { s with toks:=s.toks+1 }->aB ↥X X.A (f (.int i t)) Q E s):
  IH X f (rU λi=>.int (g i)):=by
 intro e s k H x v Q I j h;let#[i,rfl,q]:=h;let#[t,rfl]:=j;show d i t s _ _ #[.int (g i),H,I.tok _,#[1],q]
def QP:IH X (unaryOp .USub) (rU λi=>.int (-(i))):=SS λ_ _ _ _ _ q=>neg_int q
end
noncomputable def Cd:V->V->Bool
 |.non,.non=>true|.non,.int _=>true|.int _,.non=>true|.non,.bl _=>true|.bl _,.non=>true|.non,.str _=>true|.str _,.non=>true
 |.int _,.int _=>true|.bl _,.bl _=>true|.str _,.str _=>true|.byt _,.byt _=>true
 |.int _,.str _=>true|.str _,.int _=>true|.bl _,.str _=>true|.str _,.bl _=>true
 |_,_=>false
def Bz:R2:=λx y H Q=>Cd x y=X'/\Q (.bl (ng (x=y))) H
def SO:R2:=λx y H Q=>Cd x y=X'/\Q (.bl (!ng (x=y))) H
def Gp{i j:Int}:ng (V.int i=V.int j)=(i==j):=by
 rw[wU];simp
def FR{i j:Bool}:ng (V.bl i=V.bl j)=(i==j):=by
 rw[wU];simp
def C2{i j:Str}:ng (V.str i=V.str j)=(i==j):=by
 rw[wU];simp
def C1{i j:Array UInt8}:ng (V.byt i=V.byt j)=(i.toList==j.toList):=by
 rw[wU];cases i;cases j;simp
section
variable{a b c:Expr}{ta tb tc:TE}{pos:aJ}
def Yw{d:jw}{g:St}{H:Hp}{s:ak}{Q:VK}{k f:Bool}(I:ZF X d g H s)(q:Q (.bl k) H)(e:k=f):EP X d g Q (.bool f) s:=by
 subst e;show#[.bl k,H,I,Z,q]
def Xi:Yz X (az .Eq) Bz:=by
 intro k s l H x y v u Q I g d h;let#[f,q]:=h
 cases x with
 |non=>
  cases g
  cases y with
  |non=>cases d;show PySem.EqNone.eq_none_none (Yw I q ⋯)
  |bl j=>cases d;show PySem.EqNone.eq_none_bool (Yw I q ⋯)
  |int j=>let#[e,rfl]:=d;show PySem.EqNone.eq_none_int (Yw I q ⋯)
  |str j=>let#[e,rfl]:=d;show PySem.EqNone.eq_none_str (Yw I q ⋯)
  |_=>show mZ (show false=X' from f) zN
 |bl i=>
  cases g
  cases y with
  |non=>cases d;show PySem.EqNone.eq_bool_none (Yw I q ⋯)
  |bl j=>cases d;show eq_bool (Yw I q FR)
  |str j=>let#[e,rfl]:=d;show PySem.EqMixed.eq_bool_str (Yw I q ⋯)
  |_=>show mZ (show false=X' from f) zN
 |int i=>
  let#[t,rfl]:=g
  cases y with
  |non=>cases d;show PySem.EqNone.eq_int_none (Yw I q ⋯)
  |int j=>let#[e,rfl]:=d;show eq_int (Yw I q Gp)
  |str j=>let#[e,rfl]:=d;show PySem.EqMixed.eq_int_str (Yw I q ⋯)
  |_=>show mZ (show false=X' from f) zN
 |str i=>
  let#[t,rfl]:=g
  cases y with
  |non=>cases d;show PySem.EqNone.eq_str_none (Yw I q ⋯)
  |bl j=>cases d;show PySem.EqMixed.eq_str_bool (Yw I q ⋯)
  |int j=>let#[e,rfl]:=d;show PySem.EqMixed.eq_str_int (Yw I q ⋯)
  |str j=>let#[e,rfl]:=d;show eq_str (Yw I q C2)
  |_=>show mZ (show false=X' from f) zN
 |byt i=>
  let#[t,rfl]:=g
  cases y with
  |byt j=>let#[e,rfl]:=d;show PySem.W.eq_bytes (Yw I q C1)
  |_=>show mZ (show false=X' from f) zN
 |_=>cases y<;>show mZ (show false=X' from f) zN
def P4:Yz X (az .NotEq) SO:=by
 intro k s l H x y v u Q I g d h;let#[f,q]:=h
 cases x with
 |non=>
  cases g
  cases y with
  |non=>cases d;show PySem.EqNone.ne_none_none (Yw I q ⋯)
  |bl j=>cases d;show PySem.EqNone.ne_none_bool (Yw I q ⋯)
  |int j=>let#[e,rfl]:=d;show PySem.EqNone.ne_none_int (Yw I q ⋯)
  |str j=>let#[e,rfl]:=d;show PySem.EqNone.ne_none_str (Yw I q ⋯)
  |_=>show mZ (show false=X' from f) zN
 |bl i=>
  cases g
  cases y with
  |non=>cases d;show PySem.EqNone.ne_bool_none (Yw I q ⋯)
  |bl j=>cases d;show ne_bool (Yw I q (congrArg not FR))
  |str j=>let#[e,rfl]:=d;show PySem.EqMixed.ne_bool_str (Yw I q ⋯)
  |_=>show mZ (show false=X' from f) zN
 |int i=>
  let#[t,rfl]:=g
  cases y with
  |non=>cases d;show PySem.EqNone.ne_int_none (Yw I q ⋯)
  |int j=>let#[e,rfl]:=d;show ne_int (Yw I q (congrArg not Gp))
  |str j=>let#[e,rfl]:=d;show PySem.EqMixed.ne_int_str (Yw I q ⋯)
  |_=>show mZ (show false=X' from f) zN
 |str i=>
  let#[t,rfl]:=g
  cases y with
  |non=>cases d;show PySem.EqNone.ne_str_none (Yw I q ⋯)
  |bl j=>cases d;show PySem.EqMixed.ne_str_bool (Yw I q ⋯)
  |int j=>let#[e,rfl]:=d;show PySem.EqMixed.ne_str_int (Yw I q ⋯)
  |str j=>let#[e,rfl]:=d;show ne_str (Yw I q (congrArg not C2))
  |_=>show mZ (show false=X' from f) zN
 |byt i=>
  let#[t,rfl]:=g
  cases y with
  |byt j=>let#[e,rfl]:=d;show PySem.W.ne_bytes (Yw I q (congrArg not C1))
  |_=>show mZ (show false=X' from f) zN
 |_=>cases y<;>show mZ (show false=X' from f) zN
def PH:Yz X (az .Lt) (OT λi j=>.bl (ng (i<j))):=Ls λ_ _ _ _ _ _ _ q=>lt_int q
def PB:Yz X (az .LtE) (OT λi j=>.bl (ng (i<=j))):=Ls λ_ _ _ _ _ _ _ q=>le_int q
def QH:Yz X (az .Gt) (OT λi j=>.bl (ng (j<i))):=Ls λ_ _ _ _ _ _ _ q=>gt_int q
def Rv:Yz X (az .GtE) (OT λi j=>.bl (ng (j<=i))):=Ls λ_ _ _ _ _ _ _ q=>ge_int q
def Zx(b:Expr){d:CmpOp}(h:d≠.In:=by decide)(g:d≠.NotIn:=by decide):behindInMarks d b=false:=by
 let e:(d==CmpOp.In)=false:=by cases d<;>first|rfl|show mZ rfl h
 let f:(d==CmpOp.NotIn)=false:=by cases d<;>first|rfl|show mZ rfl g
 cases b<;>simp[behindInMarks,e,f]
def Vi{e:CmpOp}{r:R2}(l:Yz X (az e) r)(i:PE X a ta)(j:PE X b tb)(k:behindInMarks e b=false):PE X (.Compare a [e] [b] pos) (Nq r ta tb):=by
 intro d s p H Q I h;show wpAny_Compare1 (JA i j I h λv u o x y f g m n q=>l d o p f x y v u Q g m n q) k
inductive ND(Q:Bool->Hp->Prop)(x:V)(d:Hp):Prop
 |mk(k:_)(_:x=.bl k)(_:Q k d)
def Fz(t:TE):TT:=λe H Q=>t e H λx d=>ND Q x d
def YF{f:CmpOp}{r:R2}(w:Yz X (az f) r)(p:PE X a ta)(q:PE X b tb)(t:behindInMarks f b=false):PT X (.Compare a [f] [b] pos) (Fz (Nq r ta tb)):=by
 intro d s g H Q I h;show wpAny_isTrue_Compare1 (YH (p d s g H _ I h) λv G x i m D A=>YH (q d G g i _ m A) λu J y j n E B=>
  Z0 (w d J g j x y v u _ n D E B) λc K ⟨z,l,o,F,k,e,C⟩=>?_) t
 subst e;cases F;show wpAny_truthy_bool #[l,o,C]
inductive PV(f:R2)(tc:TE)(h:Tw.St)(Q:VK)(y z:V)(d:Hp):Prop
 |mk(k:_)(_:z=.bl k)(_:if k=X' then tc h d λg e=>f y g e Q else Q (.bl false) d)
def Gx(r h:R2)(ta tb tc:TE):TE:=λd H Q=>ta d H λx e=>tb d e λy f=>r x y f λz g=>PV h tc d Q y z g
def BV{l g:CmpOp}{r p:R2}(K:Yz X (az l) r)(j:Yz X (az g) p)(E:PE X a ta)(F:PE X b tb)(G:PE X c tc)(J:lastMarks [l,g] [b,c]=false:=by with_unfolding_all rfl):PE X (.Compare a [l,g] [b,c] pos) (Gx r p ta tb tc):=by
 intro f s i H Q I h;show Compare_chain (YH (E f s i H _ I h) λv S x t B O L=>chain_link (YH (F f S i t _ B L) λu T y w C q M=>
  Z0 (K f T i w x y v u _ C O q M) λd U ⟨z,m,n,P,k,e,o⟩=>?_)) J
 subst e;cases P;show wpAny_truthy_bool ?_
 cases k with
 |false=>show ite_ff #[.bl false,m,n,Z,o]
 |true=>show ite_tt (chain_last (YH (G f U i m _ n o) λW V Y A D R N=>j f V i A y Y u W Q D q R N))
def J9{l g:CmpOp}{r p:R2}(O:Yz X (az l) r)(j:Yz X (az g) p)(K:PE X a ta)(L:PE X b tb)(M:PE X c tc)(N:lastMarks [l,g] [b,c]=false:=by with_unfolding_all rfl):PT X (.Compare a [l,g] [b,c] pos) (Fz (Gx r p ta tb tc)):=by
 intro f s i H Q I h;show isTrue_chain (YH (K f s i H _ I h) λv s1 x t C V R=>test_link (YH (L f s1 i t _ C R) λu s2 y w D q S=>
  Z0 (O f s2 i w x y v u _ D V q S) λd s3 ⟨z,m,n,W,k,e,o⟩=>?_)) N
 subst e;cases W;show wpAny_truthy_bool ?_
 cases k with
 |false=>
  let#[k',G,P]:=o;cases G;show ite_ff #[m,n,P]
 |true=>
  show ite_tt (test_last (YH (M f s3 i m _ n o) λw' s4 z' A E Y T=>Z0 (j f s4 i A y z' u w' _ E q Y T) λd' s5 ⟨z2,B,F,r5,k2,J,U⟩=>?_));subst J;cases r5;show wpAny_truthy_bool #[B,F,U]
def Nf:(aq:Nat)<2^63:=by rw[sizeLine_eq];decide
inductive Vv(x y:V)(H:Hp)(Q:VK):Prop
 |mk(i j:_)(_:x=.str i)(_:y=.str j)(_:↑i+↑j<=aq)(_:Q (.str (i++j)) H)
def K8:Yz X (binaryOp .Add) (Vv):=by
 intro d s m H x y v u Q I f g h;let#[i,j,rfl,rfl,e,q]:=h;let#[t,rfl]:=f;let#[k,rfl]:=g;show add_str (λk l=>#[.str (i++j),H,I.tok _,#[1],q]) e
def UD{x:V}{d:je}(r:ZR [x] d):∃ u,d=[u]/\ZT x u:=by
 cases r with
 |cons e f=>cases f;show#[1,e]
def Le{x y:V}{d:je}(r:ZR [x,y] d):∃ u e,d=[u,e]/\ZT x u/\ZT y e:=by
 cases r with
 |cons f g=>
  cases g with
  |cons h i=>cases i;show#[_,1,f,h]
inductive QC(d:jf)(H:Hp)(Q:VK):Prop
 |mk(i:_)(_:d=[-i])(_:Q (.int (if i<0 then -(i) else i)) H)
def IZ:Vd X (.builtin "abs") (QC):=by
 intro d s j H g f Q I r h;let#[i,rfl,q]:=h;let#[u,rfl,t,rfl]:=UD r;show call_abs_int λu e=>#[.int (if i<0 then -(i) else i),H,I.tok _,#[1],q]
inductive UR(d:jf)(H:Hp)(Q:VK):Prop
 |mk(i j:_)(_:d=[-i,-j])(_:Q (.int (if j>i then j else i)) H)
def D0(f:X.calm=X'):Vd X (.builtin "max") (UR):=by
 intro e s v H p n Q I r h;let#[i,j,rfl,q]:=h;let#[u,o,rfl,#[t,rfl],#[l,rfl]]:=Le r;show max_two_ints (I.ok.hd f) λg m k=>#[_,H,I.kept k,?_,q];by_cases d:j>i
 .rwa[aP d,aP d,#[1]]
 .rwa[aO d,aO d,#[1]]
inductive UV(d:jf)(H:Hp)(Q:VK):Prop
 |mk(i j:_)(_:d=[-i,-j])(_:Q (.int (if j<i then j else i)) H)
def qa(f:X.calm=X'):Vd X (.builtin "min") (UV):=by
 intro e s v H p n Q I r h;let#[i,j,rfl,q]:=h;let#[u,o,rfl,#[t,rfl],#[l,rfl]]:=Le r;show min_two_ints (I.ok.hd f) λg m k=>#[_,H,I.kept k,?_,q];by_cases d:j<i
 .rwa[aP d,aP d,#[1]]
 .rwa[aO d,aO d,#[1]]
def Dr:Vd X (.type "int") (λd H Q=>(∃ i,d=[-i]/\Q (-i) H)\/∃ k,d=[.bl k]/\Q (.int (if k then 1 else 0)) H):=by
 intro e s j H d g Q I r h;rcases h with ⟨i,rfl,q⟩|⟨k,rfl,q⟩
 .let#[u,rfl,t,rfl]:=UD r;show call_int_int #[-i,H,I,#[1],q]
 .let#[u,rfl,f]:=UD r;cases f;show call_int_bool #[.int (if k then 1 else 0),H,I.tok _,#[1],q]
end
structure UQ(h:aD)(x dx C:aj)(mA:jc):Prop where
 obj:h.get? x\wF C dx
 ns:h.Ns1 dx mA
 ne:dx≠x
def Fg{h:aD}{d:aj}{g:jc}(n:h.Ns1 d g):∃ i,h.get? d\i/\∀ b,uK b i\g b:=by
 let#[o,f,s,p,k,l,_,m]:=n;exists o,p;intro b;let e:=m b;unfold nsFind findBy at e;rw[<-Array.find?_toList] at e;unfold uK;rw[k];dsimp only;split
 .rename_i y q
  rw[q] at e;show congrArg Z' e
 .rename_i q
  rw[q] at e;let a:f.toList.any (·.refKey)=false:=by
   rw[List.any_eq_false];intro y r;let#[z,t,c]:=l y (Array.mem_toList_iff.mp r);simp[DictEntry.refKey,c]
  let j:¬ f.toList.any (·.refKey)=X':=#v[a,zN]
  rwa[aO j,congrArg Z' e]
def UQ.look{h:aD}{x c C:aj}{d:jc}(I:UQ h x c C d):∃ b,sF h x (wF C c) C (Z' b)/\∀ a,uK a b\d a:=
 let #[b,ho,hl]:=Fg I.ns
 #[b,#[I.obj,Z,Z,ho],hl]
section
variable{prog:am}{w:aw}{A:ax}{E:ja}{s:ak}{K:zZ}{x dx C f:aj}{mA:jc}{name:Str}{v:ai}
def vq{a:Bool}{Q:ja}(X:K.In s.heap)(I:UQ s.heap x dx C mA)(d:uR K C name=X')(e:vP K C=X')(c:zA K (!C) name\Y')(i:mA name\v)(b:PySem.W.handedIn v=X')(h:Q v { s with toks:=s.toks+1 }):
  aB ↥_ A (getAttr (!x) name a) Q E s:=by
 let#[j,J,g]:=I.look;show PySem.W.get_value X J (rF d).1 (PySem.W.findObj_own e c Z (by rw[g,i])) b h
def uz{i:Sem Bool}{Q:ai×je->ak->Prop}(X:K.In s.heap)(I:UQ s.heap x dx C mA)(a:uR K C name=X')(b:zA K (!C) name\Z' !f)(d:wH K (!f)=X')(e:mA name=Y')(h:Q (!f,[!x]) s):
  aB ↥_ A (getMethod (!x) name i) Q E s:=by
 let#[g,J,c]:=I.look;show PySem.W.method_fn X J (rF a).1 (rF a).2 b (beq_iff_eq.mp d) (by change (uK name g).map (·.isSome)\false;rw[c,e];rfl) h
theorem xt{l:jv}{Q:Unit->ak->Prop}(X:K.In s.heap)(I:UQ s.heap x dx C mA)(t:zA K (!C) "__setattr__"=Z' (Z' (.builtin "object.__setattr__")))(q:tG K C=X')(z:rT K C name\Y')(p:vP K C=X')(B:PySem.Within mA l)(u:↑l<=aq)(h:∀ e,UQ e x dx C (λy=>if y=name then Z' v else mA y)->vV dx s.heap e->Q .unit { s with heap:=e,toks:=s.toks+2 }):
  aB ↥_ A (setAttr (!x) name v) Q E s:=by
 let#[L,J,G]:=I.look;show PySem.W.set_plain X J t (PySem.W.osa_open (s:={ s with toks:=s.toks+1 }) (r:=Y') X J q z λb=>?_);let#[F,o,i]:=sL p;let D:s.heap.get? x\#[!C,Z' dx,.plain,⇑[]]:=I.obj;show aa (ad (aa (aa (wpAny_loadPart D (aa (yE.here (s:={ s with toks:=s.toks+1 }) (rG X o) ?_))))));rw[i];show ad (a:=Z' dx) (aa (ad (aa ?_)));show wpAny_nsSet1 (s:={ s with toks:=s.toks+1 }) I.ns λe c d=>?_;let#[H,n,m,k,j,g]:=c.count (PySem.Within.cons name v B);show aa (wpAny_lookBehind k #v[j,pastItsLine_dict (zR g (by rw[yX];lia))] ?_)
 show ad (h _ #[(d.2 _ (Ne.symm I.ne))|||I.obj,c,I.ne] d)
def rg{R:Result->ak->Prop}{c:je}{b:jO}(X:K.In s.heap)(j:tJ K C=X')(i:zA K (!C) "__init__"=Z' (Z' !f))(e:xX K (!f)\.type "function")(h:aG ↥_ (A.under (.builtin "type.__call__" #[.ref C::c,b])) (.call (!f) #[.ref (‹s›+1)::c,b]) (PySem.W.InitBack (‹s›+1) R)
   { s with heap:=(s.heap.push wK).push (wF C ‹s›) }):
  aG ↥_ A (.call (!C) #[c,b]) R s:=by
 let#[k,g,d,t,l]:=s;show PySem.W.make_core (PySem.W.makes_of X j) (sR X i) (λa=>PySem.W.bind_fn X a e) (.inl Z) h
end
noncomputable def Yi(f:Str)(v:V):List (Str×V)->List (Str×V)
 |[]=>[(f,v)]
 |(g,x)::r=>if g=f then (g,v)::r else (g,x)::Yi f v r
theorem Du(f g:Str)(v:V):∀ c:List (Str×V),(Yi f v c).lookup g=if g=f then Z' v else c.lookup g
 |[]=>by
  change xH g [(f,v)]=_;by_cases h:g=f
  .let a:(g==f)=X':=beq_iff_eq.mpr h;simp only[xH,a,aP h]
  .let a:(g==f)=false:=beq_eq_false_iff_ne.mpr h;simp only[xH,a,aO h]
 |(k,x)::r=>by
  let d:=Du f g v r;rw[show Yi f v ((k,x)::r)=(if k=f then (k,v)::r else (k,x)::Yi f v r) from rfl]
  by_cases b:k=f
  .rw[aP b];by_cases h:g=k
   .let a:(g==k)=X':=beq_iff_eq.mpr h;simp only[xH,a,aP (h|||b)]
   .let a:(g==k)=false:=beq_eq_false_iff_ne.mpr h;simp only[xH,a,aO (λe:g=f=>h (e|||b.symm))]
  .rw[aO b];by_cases h:g=k
   .let a:(g==k)=X':=beq_iff_eq.mpr h;simp only[xH,a,aO (λe:g=f=>b (h.symm|||e))]
   .let a:(g==k)=false:=beq_eq_false_iff_ne.mpr h;simp only[xH,a];show d
theorem Im(f:Str)(v:V):∀ a:List (Str×V),f∈(Yi f v a).map (·.1)/\∀ g,g∈a.map (·.1)->g∈(Yi f v a).map (·.1)
 |[]=>#[by simp[Yi],λg h=>by simp at h]
 |(k,x)::r=>by
  let#[c,d]:=Im f v r;rw[show Yi f v ((k,x)::r)=(if k=f then (k,v)::r else (k,x)::Yi f v r) from rfl]
  by_cases b:k=f
  .rw[aP b];subst b;show#[by simp,λg h=>#v[h]]
  .rw[aO b];show#[?_,λg h=>?_]
   .rwa[yL,zE _ c]
   .rw[yL] at h⊢;rcases zD.mp h with e|e
    .show zD.mpr (.inl e)
    .show zE _ (d g e)
theorem CJ(f:Str)(v:V):∀ a:List (Str×V),↑(Yi f v a)<=↑a+1
 |[]=>by simp[Yi]
 |(k,x)::r=>by
  let c:=CJ f v r;rw[show Yi f v ((k,x)::r)=(if k=f then (k,v)::r else (k,x)::Yi f v r) from rfl]
  by_cases b:k=f
  .rw[aP b,yX,yX];lia
  .rw[aO b,yX,yX];lia
def Yg.some_of{v:V}{o:jd}(r:Yg (Z' v) o):∃ u,o\u/\ZT v u:=by
 cases o with
 |none=>show(show False from r).elim
 |some u=>show#[u,Z,r]
def Yg.none_of{o:jd}(r:Yg Y' o):o=Y':=by
 cases o with
 |none=>rfl
 |some u=>show(show False from r).elim
def ES{v:V}{u:ai}(r:ZT v u):PySem.W.handedIn u=X':=by
 cases v with
 |non=>cases(show u=Value.none from r);rfl
 |bl b=>cases(show u=Value.bool b from r);rfl
 |int i=>let#[t,e]:=(show ∃ t,u=Value.int i t from r);cases e;rfl
 |str x=>let#[t,e]:=(show ∃ t,u=Value.str x t from r);cases e;rfl
 |byt b=>let#[t,e]:=(show ∃ t,u=Value.bytes b t from r);cases e;rfl
 |flt b=>let#[t,e]:=(show ∃ t,u=Value.float b t from r);cases e;rfl
 |ref a=>cases(show u=Value.ref a from r);rfl
 |ty n=>cases(show u=Value.type n from r);rfl
section
variable{P:am}{w:aw}{H H':Hp}{h h':aD}{a C dx:aj}{fs fs':List (Str×V)}
def Kf(c:YT P w H h)(e:H a\.ins C dx fs):∃ b,UQ h a dx C b/\(∀ f,Yg (fs.lookup f) (b f))/\PySem.Within b (fs.map (·.1))/\↑fs<=1000/\H dx\.own a:=by
 let#[d,z,g,i,b,n,r,q]:=(show Zb P w H h a (.ins C dx fs) from c a _ e);show#[b,#[i,n,g],r,q,z,d]
end
structure UB(K:zZ)(C:aj):Prop where
 pg:uR K C Str.empty=X'
 hd:vP K C=X'
 po:tG K C=X'
 sa:zA K (!C) "__setattr__"=Z' (Z' (.builtin "object.__setattr__"))
def UB.get{K:zZ}{C:aj}(c:UB K C)(f:Str):uR K C f=X':=c.pg
def YG(K:zZ)(C:aj)(f:Str):Prop:=zA K (!C) f\Y'
def YG.taker{K:zZ}{C:aj}{f:Str}(n:YG K C f):rT K C f\Y':=by
 unfold rT;rw[show zA K (!C) f\Y' from n];rfl
structure Uw(K:zZ)(C:aj)(m:Str)(f:aj):Prop where
 at_:zA K (!C) m\Z' !f
 fn:wH K (!f)=X'
 kp:yN K (!f)=X'
section
variable{kE:jw}{σ:St}{H:Hp}{s:ak}{a C dx:aj}{fs:List (Str×V)}{f:Str}{v:V}{A:ax}{E:ja}
def Gf{b:Bool}{Q:ja}(I:ZF X kE σ H s)(e:H a\.ins C dx fs)(c:UB X.K C)(n:YG X.K C f)(l:fs.lookup f\v)(h:∀ u g,ZF X kE σ H g->ZT v u->Q u g):aB ↥X A (getAttr (!a) f b) Q E s:=by
 let#[j,O,r,_,_,_]:=Kf I.hok e;let#[u,i,d]:=Yg.some_of (v:=v) (o:=j f) (by rwa[<-l,r f])
 show vq I.kIn O (c.get f) c.hd n i (ES d) (h u _ (I.tok _) d)
def HW{m:Str}{g:aj}{i:Sem Bool}{Q:ai×je->ak->Prop}(I:ZF X kE σ H s)(e:H a\.ins C dx fs)(c:UB X.K C)(k:Uw X.K C m g)(l:fs.lookup m=Y')(h:Q (!g,[!a]) s):aB ↥X A (getMethod (!a) m i) Q E s:=by
 let#[d,O,r,_,_,_]:=Kf I.hok e;let b:d m=Y':=Yg.none_of (by rwa[<-l,r m])
 show uz I.kIn O (c.get m) k.at_ k.fn b h
theorem FT{y:V}{u:ai}{Q:Unit->ak->Prop}(I:ZF X kE σ H s)(e:H a\.ins C dx fs)(c:UB X.K C)(n:YG X.K C f)(J:↑fs<1000)(F:ZT y u)(h:∀ k,ZF X kE σ (upd H a (.ins C dx (Yi f y fs))) k->Q .unit k):aB ↥X A (setAttr (!a) f u) Q E s:=by
 let#[j,O,r,l,_,i]:=Kf I.hok e;let D:↑(fs.map (·.1))<=sizeLine:=by rw[zX,sizeLine_eq];lia
 show xt I.kIn O c.sa c.po n.taker c.hd l D λm d G=>h _ ?_;let t:∃ o,m.get? dx\o:=let #[o,_,_,e',_]:=d.ns;#[o,e'];show I.write (x:=a) (e:=dx) #v[e,True.intro] (.inr i) (λb q p z=>(G.2 b p)|||z) t ?_
 show#[#v[ZM O.ne,i],?_,O.ne,d.obj,_,d.ns,λg=>?_,λg B=>?_]
 .have:=CJ f y fs;lia
 .change Yg ((Yi f y fs).lookup g) (if g=f then Z' u else j g)
  rw[Du];by_cases q:g=f
  .rwa[aP q,aP q,F]
  .rwa[aO q,aO q,r g]
 .by_cases q:g=f
  .rwa[q,(Im f y fs).1]
  .show(Im f y fs).2 g (l g λz=>B ?_);change (if g=f then Z' u else j g)=Y'
   rwa[aO q,z]
def ZF.made(I:ZF X kE σ H s):ZF X kE σ (upd (upd H ‹s› (.own (‹s›+1))) (‹s›+1) (.ins C ‹s› []))
  { s with heap:=(s.heap.push wK).push (wF C ‹s›) }:=by
 let c:(s.heap.push wK).get? ‹s›\wK:=yS s.heap Z;let h:((s.heap.push wK).push (wF C ‹s›)).get? (‹s›+1)\wF C ‹s›:=by
  have:=yS (s.heap.push wK) (o:=wF C ‹s›) Z
  rw[vE] at this;assumption
 let i:(s.heap.push wK).Ns ‹s› (λ_=>Y'):=#[wK,⇑[],_,c,Z,(λe j=>mZ j ⋯),λ_=>rfl]
 let g:=I.laid (a:=‹s›) (o:=.own (‹s›+1)) (h':=s.heap.push wK) (t':=s.toks) (λb u q=>zS _ q) (zY _) #[_,c];show g.laid (a:=‹s›+1) (o:=.ins C ‹s› []) (t':=s.toks) (λb u q=>zS _ q) (vW (vE _ _)) ?_;let d:‹s›≠‹s›+1:=zJ (yA _);show#[by rw[ZM d,ZP],yZ _,d,h,λ_=>Y',(Heap.Ns1.of_empty i).at λo q=>zS _ q,λ_=>True.intro,λy k=>mZ Z k]
def C0{c:am}{w:aw}{b:Env}{e:Expr}{f:Str}{pos:aJ}{s:ak}{Q:ja}(g:attributeBase e f b (aH e b)=aH e b)(h:aB (aA c w) A (aH e b) (λo d=>aB (aA c w) A (getAttr o f true) Q E d) E s):aB (aA c w) A (aH (.Attribute e f pos) b) Q E s:=
 Attribute_any_ h (by rw[arm_eval_Attribute,g])
end
inductive LF(K:zZ)(f:Str)(Q:VK)(x:V)(b:Hp):Prop
 |mk(a C d c v:_)(_:x=!a)(_:b a\.ins C d c)(_:UB K C)(_:YG K C f)(_:c.lookup f\v)(_:Q v b)
def SD(K:zZ)(b:TE)(f:Str):TE:=λc H Q=>b c H λx a=>LF K f Q x a
inductive MQ(K:zZ)(f:Str)(D:Y1)(e:Tw.St)(y x:V)(c:Hp):Prop
 |mk(a C d b:_)(_:x=!a)(_:c a\.ins C d b)(_:UB K C)(_:YG K C f)(_:↑b<1000)(_:D.nx e (upd c a (.ins C d (Yi f y b))))
def Ad(K:zZ)(d e:TE)(f:Str):TS:=λD a H=>e a H λy b=>d a b λx c=>MQ K f D a y x c
def Ik(X:Cx)(c:Operator)(rd:V->V->Hp->VK->Prop):Prop:=
 ∀(a:jw)(s:ak)(b:St)(H:Hp)(x y:V)(u v:ai)(Q:VK),ZF X a b H s->ZT x u->ZT y v->rd x y H Q->aB ↥X X.A (inplaceOp c u v) (EP X a b Q) X.xe s
inductive Q4(K:zZ)(k:TE)(rd:V->V->Hp->VK->Prop)(f:Str)(D:Y1)(h:Tw.St)(x:V)(d:Hp):Prop
 |mk(a C j g v:_)(_:x=!a)(_:d a\.ins C j g)(_:UB K C)(_:YG K C f)(_:g.lookup f\v)(_:k h d λy i=>rd v y i λz e=>∃ c b,e a\.ins C c b/\↑b<1000/\D.nx h (upd e a (.ins C c (Yi f z b))))
def wq(K:zZ)(c d:TE)(rd:V->V->Hp->VK->Prop)(f:Str):TS:=λD a H=>c a H λx b=>Q4 K d rd f D a x b
section
variable{o e value:Expr}{f:Str}{pos pos' tpos:aJ}{ta tv:TE}
def Xn(p:PE X e ta)(m:attributeBase e f X.env (aH e X.env)=aH e X.env):PE X (.Attribute e f pos) (SD X.K ta f):=by
 intro b s w H Q I h;show C0 m (Z0 (p b s w H _ I h) ?_);rintro u A ⟨x,d,g,t,a,C,y,z,v,k,j,c,n,l,q⟩;subst k;obtain rfl:u=Value.ref a:=t;show Gf g j c n l λD B i r=>#[v,d,i,r,q]
def QG(r:PE X o ta)(v:PE X value tv)(t:swapsWith value (Z' (.Attribute o f pos')) pos.line X.env=pure false):PS X (.Assign [.Attribute o f pos'] value pos) (Ad X.K ta tv f):=by
 intro b s d H D I h;show plainObj_wpAny_Assign_Attribute (YH (v b s d H _ I h) λu E y g i B q=>Z0 (r b E d g _ i q) λw L ⟨x,F,j,A,a,C,G,J,p,m,c,n,l,z⟩=>?_) t;subst p;obtain rfl:w=Value.ref a:=A;show FT j m c n l B λM k=>#[d,_,k,z]
def KW{j:Operator}{rd:V->V->Hp->VK->Prop}(J:PE X o ta)(L:PE X value tv)(i:Ik X j rd):PS X (.AugAssign (.Attribute o f tpos) j value pos) (wq X.K ta tv rd f):=by
 intro b s d H D I h;show wpAny_AugAssign_AttributeAny (Z0 (J b s d H _ I h) ?_);rintro N s1 ⟨x,k,p,R,a,C,dx,fs,v,F,E,c,n,l,q⟩;subst F;obtain rfl:N=Value.ref a:=R;show Gf p E c n l λu U r Q=>YH (L b U d k _ r q) λY W y m t S O=>Z0 (i b W d m v y u Y _ t Q S O) ?_;rintro w4 s4 ⟨z,H3,w,T,B,G,g,M,P⟩;show FT w g c n M T λs5 A=>#[d,_,A,P]
inductive Hj(x y:V)(H:Hp)(Q:VK):Prop
 |mk(i j:_)(_:x=.int i)(_:y=.int j)(_:Q (.int (i+j)) H)
inductive Hn(x y:V)(H:Hp)(Q:VK):Prop
 |mk(i j:_)(_:x=.int i)(_:y=.int j)(_:Q (.int (i-j)) H)
def CM:Ik X .Add Hj:=by
 rintro a s g H x y u v Q I c d ⟨i,j,rfl,rfl,q⟩;let#[t,rfl]:=(show ∃ t,u=Value.int i t from c);let#[b,rfl]:=(show ∃ b,v=Value.int j b from d);show PyProof.Rows.iadd_int #[.int (i+j),H,I.tok _,#[1],q]
def Fa:Ik X .Sub Hn:=by
 rintro a s g H x y u v Q I c d ⟨i,j,rfl,rfl,q⟩;let#[t,rfl]:=(show ∃ t,u=Value.int i t from c);let#[b,rfl]:=(show ∃ b,v=Value.int j b from d);show PyProof.Rows.isub_int #[.int (i-j),H,I.tok _,#[1],q]
end
section
variable{kE:jw}{σ:St}{H:Hp}{s:ak}{A:ax}{E Q:ja}{c:ai}{b:Bool}
inductive XE(K:zZ)(H:Hp):V->ai->Prop where
 |non:XE K H .non (.type "NoneType")
 |bl (x:Bool):XE K H (.bl x) (.type "bool")
 |int (i:Int):XE K H (.int i) (.type "int")
 |str (x:Str):XE K H (.str x) (.type "str")
 |flt (x:UInt64):XE K H (.flt x) (.type "float")
 |lst {a:aj} {xs:jf} (e:H a\.lst xs):XE K H (.ref a) (.type "list")
 |frz {a:aj} {o:aI} {xs:jf} (e:H a\.frz o (.lst xs)):XE K H (.ref a) (.type "list")
 |tup {a:aj} {xs:jf} (e:H a\.tup xs):XE K H (.ref a) (.type "tuple")
 |dK {a:aj} {kvs:ba} (e:H a\.dK kvs):XE K H (.ref a) (.type "dict")
 |dT {a:aj} {kvs:List (jI×V)} (e:H a\.dT kvs):XE K H (.ref a) (.type "dict")
 |ins {a C dx:aj} {fs:List (Str×V)} (e:H a\.ins C dx fs) (cl:UB K C) (ha:zA K (.ref C) "__class__"=Z' (Z' (.builtin "object.__class__")))
   (hn:PySem.W.specialIn K (.builtin "object.__class__") "__get__"=Z' (Z' (.builtin "getset_descriptor.__get__"))) (htk:PySem.W.takesIn K (.builtin "object.__class__")\true)
   (hm:yU K C (.type "object")\true):XE K H (!a) !C
def At{x:V}{u t:ai}(I:ZF X kE σ H s)(f:ZT x u)(N:XE X.K H x t)(e:yK X.K t c\b)(h:∀ M,Q (.bool b) { s with toks:=M }):
  aB ↥X A (call (.builtin "isinstance") [u,c]) Q E s:=by
 cases N with
 |non=>cases(show u=Value.none from f);show xK PySem.W.kitx_none I.kIn True.intro e (λz=>nomatch z) h
 |bl y=>cases(show u=Value.bool y from f);show xK PySem.W.kitx_bool I.kIn True.intro e (λz=>nomatch z) h
 |int i=>let#[t,q]:=(show ∃ t,u=Value.int i t from f);cases q;show xK PySem.W.kitx_int I.kIn True.intro e (λz=>nomatch z) h
 |str y=>let#[t,q]:=(show ∃ t,u=Value.str y t from f);cases q;show xK PySem.W.kitx_str I.kIn True.intro e (λz=>nomatch z) h
 |flt y=>let#[t,q]:=(show ∃ t,u=Value.float y t from f);cases q;show xK PySem.W.kitx_float I.kIn True.intro e (λz=>nomatch z) h
 |@lst a k d=>
  cases(show u=Value.ref a from f);let#[_,_,n,_,g]:=(show Zb X.prog X.w H s.heap a (.lst k) from I.hok a _ d);show xK PySem.W.kitx_list I.kIn #[_,g,Z] e (λz=>nomatch z) h
 |@frz a L k d=>
  cases(show u=Value.ref a from f);let#[_,_,_,n,_,g]:=(show Zb X.prog X.w H s.heap a (.frz L (.lst k)) from I.hok a _ d);show xK PySem.W.kitx_list I.kIn #[_,g,Z] e (λz=>nomatch z) h
 |@tup a k d=>
  cases(show u=Value.ref a from f);let#[_,_,_,p]:=(show Zb X.prog X.w H s.heap a (.tup k) from I.hok a _ d);let#[o,g,l,_]:=p;show xK PySem.W.kitx_tuple I.kIn #[o,g,l] e (λz=>nomatch z) h
 |@dK a j d=>
  cases(show u=Value.ref a from f);let#[_,_,U,_,p]:=(show Zb X.prog X.w H s.heap a (.dK j) from I.hok a _ d);let#[o,B,v,g,l,_]:=p;show xK PySem.W.kitx_dict I.kIn #[o,g,l.1] e (λz=>nomatch z) h
 |@dT a j d=>
  cases(show u=Value.ref a from f);let#[_,_,k,_,o,B,v,g,l,_]:=(show Zb X.prog X.w H s.heap a (.dT j) from I.hok a _ d);show xK PySem.W.kitx_dict I.kIn #[o,g,l.1] e (λz=>nomatch z) h
 |@ins a C P R d r D G m F=>
  cases(show u=Value.ref a from f);let#[S,O,_]:=Kf I.hok d;let#[T,J,_]:=O.look;show xK (PySem.W.kitx_own (r.get _) r.hd D G m F) I.kIn J e (λz=>nomatch z) h
end
structure Za(k:Nat)(A:ax):Prop where
 hd:A.handled=Y'
 dp:A.depth+3*k+5<recursionLimit
 un:A.units+16*k+200<cLine
theorem Za.mono{j k:Nat}{A:ax}(r:Za k A)(h:j<=k):Za j A:=#[r.hd,by have:=r.dp;lia,by have:=r.un;lia]
def Za.to{j:Nat}{A:ax}(r:Za j A)(k:Nat)(h:k<=j:=by decide):Za k A:=r.mono h
theorem Za.deeper{k:Nat}{A:ax}(r:Za (k+1) A)(a:Env):Za k (A.deeper a):=
 #[r.hd,by have:=r.dp;change A.depth+1+3*k+5<_;lia,by have:=r.un;change A.units+3+16*k+200<_;lia]
theorem Za.in1{k:Nat}{A:ax}(r:Za (k+1) A):Za k A.in1:=
 #[r.hd,by have:=r.dp;change A.depth+3*k+5<_;lia,by have:=r.un;change A.units+1+16*k+200<_;lia]
def pf{A:ax}{C:aj}{b:je}{a:jO}:(A.under (.builtin "type.__call__" #[.ref C::b,a])).depth=A.depth+1:=by
 first|rfl|simp[Around.under,Code.weight,Code.isCreation,Code.isGuard,Code.isCaller,Code.frames,Code.isFrame,guardIds]
def pB{A:ax}{C:aj}{b:je}{a:jO}:(A.under (.builtin "type.__call__" #[.ref C::b,a])).units=A.units+1:=by
 first|rfl|simp[Around.under,Code.cUnits,Code.frames,Code.isFrame]
theorem Za.make{k:Nat}{A:ax}(r:Za (k+1) A)(C:aj)(b:je)(a:jO):Za k (A.under (.builtin "type.__call__" #[.ref C::b,a])):=
 #[r.hd,by have:=r.dp;rw[pf];lia,by have:=r.un;rw[pB];lia]
theorem Za.depth{k:Nat}{A:ax}(r:Za k A):A.depth<recursionLimit:=by have:=r.dp;lia
theorem Za.units{k:Nat}{A:ax}(r:Za k A):A.units+64<cLine:=by have:=r.un;lia
theorem Za.units0{k:Nat}{A:ax}(r:Za k A):A.units<cLine:=by have:=r.un;lia
def UY:TA:=λ_ H Q=>Q [] H
def Xp(d:TE)(e:TA):TA:=λa H Q=>d a H λx b=>e a b λf c=>Q (x::f) c
section
variable{e:Expr}{es:jC}{te:TE}{t:TA}{pos:aJ}
def Z1:PA X [] UY:=λ_ _ _ _ H Q I h=>Calls.spliced_nil #[[],H,I,.nil,h]
def Zi(i:PE X e te)(j:PA X es t)(k:ar (e::es) X.env=(false,aH e X.env)::ar es X.env:=by rfl):PA X (e::es) (Xp te t):=by
 intro pos a s b H Q I h;rw[k];change aB _ _ (spliced ((false,aH e X.env)::aF pos (ar es X.env))) _ _ s;show Calls.spliced_cons (YH (i a s b H _ I h) λu p x c f n l=>?_);show YH (j pos a p b c _ f l) λv r q d g o m=>#[x::q,d,g,.cons n o,m]
def SC(t:TA):TE:=λc H Q=>t c H λb a=>↑b<=aq/\∀ p,a p=Y'->Q (!p) (upd a p (.tup b))
def RN(t:TA):TE:=λc H Q=>t c H λb a=>↑b<=aq/\∀ p,a p=Y'->Q (!p) (upd a p (.lst b))
def XH{k}(h:PA X es t):PE X (.Tuple es k pos) (SC t):=by
 intro a s m H Q I i;show wpAny_Tuple_spliced (Z0 (h pos a s m H _ I i) λj c ⟨l,d,f,r,z,q⟩=>#[by rwa[<-↑r,z],?_])
 let g:d ‹c›=Y':=f.hok.fresh (zY _);show#[.ref ‹c›,upd d ‹c› (.tup l),f.laid (t':=c.toks) (λb u e=>zS _ e) (zY _) ?_,Z,q _ g];show#[z,j,r,#[_,yS _ Z,Z,1]]
def XT(h:PA X es t):PE X (.List es pos) (RN t):=by
 intro a s l H Q I i;show wpAny_List_spliced (Z0 (h pos a s l H _ I i) λj c ⟨k,d,f,r,z,q⟩=>#[by rwa[<-↑r,z],?_])
 let g:d ‹c›=Y':=f.hok.fresh (zY _);show#[.ref ‹c›,upd d ‹c› (.lst k),f.laid (t':=c.toks) (λb u e=>zS _ e) (zY _) ?_,Z,q _ g];show#[z,j,(0),r,yS _ Z]
end
abbrev Sp:=jf->Hp->VK->XK->Prop
abbrev Wh:=jF->Hp->ak->XK->ja
structure Wj(P:am)(w:aw)(K:zZ)(mg:jc)(kF:aD)(A:ax)(outer:jF)(s:ak)(H:Hp):Prop where
 frames:A.frames\outer
 mod:Mod K mg kF
 bs:∀ b o,kF.get? b\o->s.heap.get? b\o/\H b=Y'
 bsz:kF.objs.size<=‹s›
 funs:s.heap.FunFrames kF outer
 frf:∀ b∈frs outer,H b=Y'
 hok:YT P w H s.heap
 bare:AllBare s.gens
def CE(a:jF)(P:am)(w:aw)(H:Hp)(s:ak)(Q:VK)(u:ai)(b:ak):Prop:=
 ∃ v c,b.os=s.os/\AllBare b.gens/\Un (frs a) [] H c s.heap b.heap/\YT P w c b.heap/\ZT v u/\Q v c
def CR(c:Wh)(a:jF)(P:am)(w:aw)(H:Hp)(s:ak)(Q:VK)(E:XK)(r:Result)(b:ak):Prop:=
 match r with
 |.ok (.ret u)=>CE a P w H s Q u b
 |.ok _=>False
 |.error e=>c a H s E e b
structure ZL(P:am)(w:aw)(K:zZ)(mg:jc)(kF:aD)(CX:Wh)(k:Nat)(f:aj)(fd:ao)(ps:jv)(sp:Sp):Prop where
 len:∀ vs H Q E,sp vs H Q E->↑vs=↑ps
 run:∀(A:ax)(outer:jF)(s:ak)(H:Hp)(args:Args)(us:je)(vs:jf)(Q:VK)(E:XK),Za k A->Wj P w K mg kF A outer s H->BindsTo s fd args (ps.zip us)->ZR vs us->sp vs H Q E ->
  aG (aA P w) A (.call (!f) args) (CR CX outer P w H s Q E) s
def ZL.imp{P:am}{w:aw}{K:zZ}{i:jc}{a:aD}{e:Wh}{k:Nat}{f:aj}{g:ao}{j:jv}{l d:Sp}(F:ZL P w K i a e k f g j l)(h:∀ c H Q E,d c H Q E->l c H Q E):ZL P w K i a e k f g j d:=
 #[λc H Q E q=>F.len c H Q E (h _ _ _ _ q),λA b s H args t c Q E o n m r p=>F.run A b s H args t c Q E o n m r (h _ _ _ _ p)]
def Wj.make{P:am}{w:aw}{K:zZ}{c:jc}{b:aD}{A:ax}{a:jF}{s:ak}{H:Hp}(e:Wj P w K c b A a s H)(C:aj)(f:je)(d:jO):
  Wj P w K c b (A.under (.builtin "type.__call__" #[.ref C::f,d])) a s H:=#[by first|show e.frames|(simpa [Around.under,Code.envs,Code.isFrame,pushEnvs] using e.frames),e.mod,e.bs,e.bsz,e.funs,e.frf,e.hok,e.bare]
section
variable{kE:jw}{σ:St}{H:Hp}{s s':ak}
def ZF.env0(I:ZF X kE σ H s):Wj X.prog X.w X.K X.mg X.base X.A X.stack s H:=
 #[I.ok.frames,I.ok.mod,I.bs,zR I.ok.bsz I.sz,I.stack,I.stkFree,I.hok,I.bare]
def ZF.after{Q:VK}{u:ai}(I:ZF X kE σ H s)(h:CE X.stack X.prog X.w H s Q u s'):EP X kE σ Q u s':=by
 let#[v,f,j,a,k,c,r,q]:=h;let#[i,g,d,t,e]:=s';obtain rfl:e=s.os:=j;show#[v,f,I.call (h':=i) (g':=g) (d':=d) (t':=t) (ch:=[]) k c a (λb z=>mZ z ⋯),r,q]
end
def JC(c:Sp)(a:jf)(E:XK)(t:TA):TE:=λe H Q=>t e H λd b=>c (d++a) b Q E
inductive Ow(C:aj)(m:Str)(g:Sp)(b:jf)(E:XK)(t:TA)(i:Tw.St)(Q:VK)(x:V)(c:Hp):Prop
 |mk(a f d:_)(_:x=!a)(_:c a\.ins C f d)(_:d.lookup m=Y')(_:t i c λh e=>g (x::(h++b)) e Q E)
def Kc(C:aj)(m:Str)(d:Sp)(a:jf)(E:XK)(e:TE)(t:TA):TE:=λb H Q=>e b H λx c=>Ow C m d a E t b Q x c
def KL(C:aj)(e:Sp)(c:jf)(E:XK)(t:TA):TE:=λg H Q=>t g H λf b=>∀ x a,b x=Y'->b a=Y'->a≠x ->
 e (.ref x::(f++c)) (upd (upd b a (.own x)) x (.ins C a [])) (λv d=>v=.non/\Q (!x) d) E
def Z9(K:zZ)(d:ao)(c:jv)(b:je):Prop:=
 ∀(s:ak)(a:je),K.In s.heap->↑(a++b)=↑c->BindsTo s d #[a,[]] (c.zip (a++b))
def Z9.all{K:zZ}{c:ao}{b:jv}(h:∀ a:je,↑a=↑b->bindArgs c #[a,[]]=pure (b.zip a)):Z9 K c b []:=λs a _ d=>by
 rw[xD] at d⊢;show .of_eq (h a d)
def VW(c:Wh)(X:Cx)(E:XK):=∀(a:jw)(d:St)(H:Hp)(s:ak)(e:ai)(b:ak),ZF X a d H s->c X.stack H s E e b->X.xe e b
section
variable{CX:Wh}{k:Nat}{f C:aj}{fd:ao}{ps:jv}{sp:Sp}{jo:jf}{ds:je}{E:XK}{x m:Str}{p pos jk:aJ}{e o:Expr}{es:jC}{ta:TE}{t:TA}
def Jn{a:jw}{c:St}{H:Hp}{s:ak}{Q:VK}{us:je}{vs:jf}(F:ZL X.prog X.w X.K X.mg X.base CX k f fd ps sp)(n:Za k X.A)(i:Z9 X.K fd ps ds)(j:ZR jo ds)(q:VW CX X E)(I:ZF X a c H s)(r:ZR vs us)(h:sp (vs++jo) H Q E):aB ↥X X.A (call (!f) us) (EP X a c Q) X.xe s:=by
 let d:ZR (vs++jo) (us++ds):=r.append j;let l:↑(us++ds)=↑ps:=by rwa[<-↑d,F.len _ _ _ _ h]
 show wpAny_call (codeAny_mono (F.run X.A X.stack s H #[us,[]] (us++ds) (vs++jo) Q E n I.env0 (i s us I.kIn l) d h) λr v b=>?_)
 cases r with
 |error e=>show q a c H s e v I b
 |ok g=>
  cases g with
  |ret u=>show I.after b
  |next=>show False.elim b
  |brk=>show False.elim b
  |cont=>show False.elim b
def EI(F:ZL X.prog X.w X.K X.mg X.base CX k f fd ps sp)(y:Za k X.A)(n:Gl X x)(v:X.mg x\!f)(u:yN X.K (!f)=X')(i:Z9 X.K fd ps ds)(j:ZR jo ds)(z:VW CX X E)(g:PA X (e::es) t)(b:(x==("__debug__":Str))=false:=by decide)(l:ar (e::es) X.env=(false,aH e X.env)::ar es X.env:=by rfl)(c:(aF pos (ar es X.env)).any (·.1)=false:=by rfl):
  PE X (.Call (.Name x p) (e::es) [] pos) (JC sp jo E t):=by
 intro a s B H Q I h;show ag (Pq I n v ?_ b);show uY (h₀:=X.base) I.ok.mod.kin u (YH (g pos a s B H _ I h) λJ G L D d r q=>#[d.kIn,?_]) l c;show Jn F y i j z d r q
def B8{v:Sem Bool}(M:PE X o ta)(c:UB X.K C)(n:Uw X.K C m f)(F:ZL X.prog X.w X.K X.mg X.base CX k f fd ps sp)(N:Za k X.A)(J:Z9 X.K fd ps ds)(L:ZR jo ds)(P:VW CX X E)(G:PA X (e::es) t)(g:ar (e::es) X.env=(false,aH e X.env)::ar es X.env:=by rfl)(d:(aF pos (ar es X.env)).any (·.1)=false:=by rfl)(O:aH (.Call (.Attribute o m jk) (e::es) [] pos) X.env=(do
   let ov<-aH o X.env
   standAt jk.atName
   let (f,first)<-holding [ov] (getMethod ov m v)
   callWith pos f first (aF pos (ar (e::es) X.env)) (backToKw pos (keywordEach [] X.env))):=by rfl):
  PE X (.Call (.Attribute o m jk) (e::es) [] pos) (Kc C m sp jo E ta t):=by
 intro b s y H Q I h;show rA (pl:=v) (Z0 (M b s y H _ I h) λu T ⟨x,z,i,S,a,dx,fs,D,B,l,q⟩=>?_) O;subst D;obtain rfl:u=Value.ref a:=S;show HW i B c n l ?_;show uY (first:=[!a]) (h₀:=X.base) I.ok.mod.kin n.kp (YH (G pos b T y z _ i q) λU s2 V Y j r R=>#[j.kIn,?_]) g d
 show Jn (us:=.ref a::U) (vs:=.ref a::V) F N J L P j (.cons Z r) R
def rm{i:Sem Bool}(y:PE X o ta)(c:UB X.K C)(g:Uw X.K C m f)(F:ZL X.prog X.w X.K X.mg X.base CX k f fd ps sp)(z:Za k X.A)(r:Z9 X.K fd ps ds)(v:ZR jo ds)(D:VW CX X E)(B:aH (.Call (.Attribute o m jk) [] [] pos) X.env=(do
   let ov<-aH o X.env
   standAt jk.atName
   let (f,first)<-holding [ov] (getMethod ov m i)
   callWith pos f first (aF pos (ar [] X.env)) (backToKw pos (keywordEach [] X.env))):=by rfl):
  PE X (.Call (.Attribute o m jk) [] [] pos) (Kc C m sp jo E ta UY):=by
 intro b s J H Q I h;show rA (pl:=i) (Z0 (y b s J H _ I h) λu O ⟨x,L,d,G,a,M,N,n,j,l,q⟩=>?_) B;subst n;obtain rfl:u=Value.ref a:=G;show HW d j c g l ?_;show rJ (first:=[!a]) d.kIn g.kp (Jn (us:=[!a]) (vs:=[!a]) F z r v D d (.cons Z .nil) q)
structure Mk(K:zZ)(C f:aj):Prop where
 makes:tJ K C=X'
 init:zA K (!C) "__init__"=Z' (Z' !f)
 fn:wH K (!f)=X'
 kp:yN K (!C)=X'
def Fb{b:jw}{i:St}{H:Hp}{s:ak}{Q:VK}{us:je}{g:jf}(M:Mk X.K C f)(F:ZL X.prog X.w X.K X.mg X.base CX k f fd ps sp)(L:Za (k+1) X.A)(D:Z9 X.K fd ps ds)(G:ZR jo ds)(N:VW CX X E)(I:ZF X b i H s)(r:ZR g us)(h:∀ x d,H x=Y'->H d=Y'->d≠x->sp (.ref x::(g++jo)) (upd (upd H d (.own x)) x (.ins C d [])) (λv q=>v=.non/\Q (!x) q) E):
  aB ↥X X.A (call (!C) us) (EP X b i Q) X.xe s:=by
 let j:=h (‹s›+1) ‹s› (I.hok.fresh (xW _)) (I.hok.fresh (zY _)) (zJ (yA _));let c:=ZF.made (C:=C) I;let l:ZR (V.ref (‹s›+1)::(g++jo)) (Value.ref (‹s›+1)::(us++ds)):=.cons Z (r.append G);let J:↑(Value.ref (‹s›+1)::us++ds)=↑ps:=by
  let e:=↑l;rw[F.len _ _ _ _ j] at e;show e.symm
 show wpAny_call (rg (f:=f) I.kIn M.makes M.init (beq_iff_eq.mp M.fn) (codeAny_mono (F.run _ X.stack _ _ #[Value.ref (‹s›+1)::us,[]] (Value.ref (‹s›+1)::(us++ds)) _ _ E (L.make C us [])
  (c.env0.make C us []) (D _ (Value.ref (‹s›+1)::us) c.kIn J) l j) λr R a=>?_))
 cases r with
 |error e=>show N b i _ _ e R c a
 |ok B=>
  cases B with
  |ret u=>
   let#[v,n,y,P,z,O]:=c.after a;subst z;show#[P,#[V.ref (‹s›+1),n,y,Z,O]]
  |next=>show False.elim a
  |brk=>show False.elim a
  |cont=>show False.elim a
def wl(M:Mk X.K C f)(F:ZL X.prog X.w X.K X.mg X.base CX k f fd ps sp)(v:Za (k+1) X.A)(n:Gl X x)(u:X.mg x\!C)(i:Z9 X.K fd ps ds)(j:ZR jo ds)(y:VW CX X E)(g:PA X (e::es) t)(b:(x==("__debug__":Str))=false:=by decide)(l:ar (e::es) X.env=(false,aH e X.env)::ar es X.env:=by rfl)(c:(aF pos (ar es X.env)).any (·.1)=false:=by rfl):
  PE X (.Call (.Name x p) (e::es) [] pos) (KL C sp jo E t):=by
 intro a s z H Q I h;show ag (Pq I n u ?_ b);show uY (h₀:=X.base) I.ok.mod.kin M.kp (YH (g pos a s z H _ I h) λG D J B d r q=>#[d.kIn,?_]) l c;show Fb M F v i j y d r q
def uk(M:Mk X.K C f)(F:ZL X.prog X.w X.K X.mg X.base CX k f fd ps sp)(j:Za (k+1) X.A)(g:Gl X x)(i:X.mg x\!C)(c:Z9 X.K fd ps ds)(d:ZR jo ds)(l:VW CX X E)(a:(x==("__debug__":Str))=false:=by decide):PE X (.Call (.Name x p) [] [] pos) (KL C sp jo E UY):=by
 intro b s n H Q I h;show ag (Pq I g i ?_ a);show rJ I.kIn M.kp (Fb (us:=[]) M F j c d l I .nil h)
end
def PK(X:Cx)(b:List Keyword)(t:TA):Prop:=
 ∀(pos:aJ)(a:jw)(s:ak)(c:St)(H:Hp)(Q:jf->Hp->Prop),ZF X a c H s->t c H Q->aB ↥X X.A (evalAll ((backToKw pos (keywordEach b X.env)).map (·.2))) (AP X a c Q) X.xe s
section
variable{CX:Wh}{k:Nat}{f C:aj}{fd:ao}{ps ks:jv}{sp:Sp}{E:XK}{x m:Str}{p pos jk kpos:aJ}{e o:Expr}{es:jC}{kws:List Keyword}{te ta:TE}{t tk:TA}{nm:Option Str}
def zf:PK X [] UY:=λ_ _ _ _ H Q I h=>wpAny_evalAll_nil #[[],H,I,.nil,h]
def xf(j:PE X e te)(l:PK X kws t):PK X (#[nm,e,kpos]::kws) (Xp te t):=by
 intro pos a s b H Q I h;change aB _ _ (evalAll ((do let v<-aH e X.env;standAt pos;pure v)::(backToKw pos (keywordEach kws X.env)).map (·.2))) _ _ s
 show wpAny_evalAll_cons (aa (YH (j a s b H _ I h) λu y x c g r n=>aa (ah (ad ?_))));show YH (l pos a y b c _ g n) λB A z d i w q=>#[x::z,d,i,.cons r w,q]
variable{g:je->je->je}{gV:jf->jf->jf}
end
structure ZA(N P:jv)(sc:aE):Prop where
 kind:sc.kind=.function
 co:sc.isCoroutine=false
 gen:sc.isGenerator=false
 nd:N.Nodup
 pre:N.take ↑P=P
 par:∀ x∈P,sc.names.lookup x\.local\/sc.names.lookup x\.cell
 nofree:∀ y∈sc.names,y.2≠.free
def Z4{N P:jv}{a:aE}(b:a.kind=.function:=by rfl)(c:a.isCoroutine=false:=by rfl)(d:a.isGenerator=false:=by rfl)(e:N.Nodup:=by decide +kernel)(f:N.take ↑P=P:=by rfl)(g:∀ x∈P,a.names.lookup x\.local\/a.names.lookup x\.cell:=by decide +kernel)(h:∀ y∈a.names,y.2≠.free:=by decide +kernel):ZA N P a:=#[b,c,d,e,f,g,h]
theorem Gj{kindOf:Str->Option NameKind}{x:Str}:∀{a:jO}{m:jc},(∀ v,(x,v)∉a)->bindL kindOf a m x=m x
 |[],_,_=>rfl
 |(n,v)::r,m,h=>by
  unfold bindL;rw[Gj λw b=>h w (zE _ b)];split
  .have:x≠n:=by rintro rfl;show h v zT
   simp[this]
  .rfl
theorem G5{kindOf:Str->Option NameKind}{x:Str}:∀{a:jO}{m:jc},(∀ v,(x,v)∉a)->bindC kindOf a m x=m x
 |[],_,_=>rfl
 |(n,v)::r,m,h=>by
  unfold bindC;rw[G5 λw b=>h w (zE _ b)];split
  .rfl
  .have:x≠n:=by rintro rfl;show h v zT
   simp[this]
theorem EU{kindOf:Str->Option NameKind}{x:Str}{v:ai}:∀{P:jv}{a:je}{i:Nat}{m:jc},P.Nodup->P[i]?\x->a[i]?\v->kindOf x=Z' .local ->
  bindL kindOf (P.zip a) m x\v
 |[],_,_,_,_,h,_,_=>by simp at h
 |_::_,[],_,_,_,_,h,_=>by simp at h
 |p::P,w::a,0,m,nd,h1,h2,hk=>by
  simp at h1 h2;subst h1;subst h2;change bindL kindOf ((p,w)::P.zip a) m p=_;unfold bindL;rw[Gj λv b=>(xR.mp nd).1 (qV b).1,aP hk];simp
 |p::P,w::a,i+1,m,nd,h1,h2,hk=>by
  change bindL kindOf ((p,w)::P.zip a) m x=_;unfold bindL;show EU (i:=i) (xR.mp nd).2 #v[h1] #v[h2] hk
theorem Ew{kindOf:Str->Option NameKind}{x:Str}{v:ai}:∀{P:jv}{a:je}{i:Nat}{m:jc},P.Nodup->P[i]?\x->a[i]?\v->kindOf x≠Z' .local ->
  bindC kindOf (P.zip a) m x\v
 |[],_,_,_,_,h,_,_=>by simp at h
 |_::_,[],_,_,_,_,h,_=>by simp at h
 |p::P,w::a,0,m,nd,h1,h2,hk=>by
  simp at h1 h2;subst h1;subst h2;change bindC kindOf ((p,w)::P.zip a) m p=_;unfold bindC;rw[G5 λv b=>(xR.mp nd).1 (qV b).1,aO hk];simp
 |p::P,w::a,i+1,m,nd,h1,h2,hk=>by
  change bindC kindOf ((p,w)::P.zip a) m x=_;unfold bindC;show Ew (i:=i) (xR.mp nd).2 #v[h1] #v[h2] hk
noncomputable def start(N:jv)(a:jf):St:=a.map Z'++vR (↑N-↑a) Y'
noncomputable def Vn(CX:Wh)(P:am)(w:aw)(K:zZ)(mg:jc)(kF:aD)(N:jv)(qual:Str)(scope:aE)(f:aj)(cd:ai)(A:ax)(outer:jF)(s:ak)(H:Hp)(E:XK):Cx where
 prog:=P
 w:=w
 K:=K
 mg:=mg
 base:=kF
 A:=A.deeper (envOfC qual scope ‹s› f cd)
 N:=N
 s₀:=s
 H₀:=H
 env:=envOfC qual scope ‹s› f cd
 outer:=outer
 stack:=envOfC qual scope ‹s› f cd::outer
 ex:=[]
 calm:=true
 fn:=λ_=>true
 pn:=[]
 xe:=λe s'=>aB (aA P w) (A.deeper (envOfC qual scope ‹s› f cd)) (leaving (envOfC qual scope ‹s› f cd) e) (λ_ s''=>CX outer H s E e s'') (λe' s''=>CX outer H s E e' s'') s'
def Fk{a:aE}{n:Nat}{x:Str}(h:a.names.lookup x\.cell):∃ c,(cellsFrom n a.names []).lookup x\c:=by
 let q:=mJ a.names n [] (.inl h);show qK.mp q
theorem pI{Q:Wh}{P:am}{w:aw}{K:zZ}{M:jc}{m:aD}{N C:jv}{j:Str}{d:aE}{f:aj}{I:ai}{A:ax}{g:jF}{s U:ak}{H:Hp}{E:XK}{O:je}{D:jf}(S:ZA N C d)(Y:A.handled=Y')(o:Wj P w K M m A g s H)(hl:↑D=↑C)(r:ZR D O)(x:InCallC s ‹s› (bindL (envOfC j d ‹s› f I).kindOf (C.zip O) λ_=>Y') (cellsFrom (‹s›+1) d.names []) (bindC (envOfC j d ‹s› f I).kindOf (C.zip O) λ_=>Y') U):
  ZF (Vn Q P w K M m N j d f I A g s H E) [] (start N D) H U:=by
 let a0:↑C<=↑N:=by have:=congrArg xY S.pre;rw[wS] at this;lia
 let#[J,tk,rfl,R]:=x.done;let B:∀ b:aj,b∉(Vn Q P w K M m N j d f I A g s H E).ex:=λb z=>mZ (show b∈([]:jx) from z) ⋯
 show#[#[o.mod,S.kind,Z,Z,zY _,λy z c J l=>?_,λy t=>?_,λy c _ h=>?_,λ_=>Y,Around.frames_deeper o.frames,.inr #[Z,Z],λb z=>mZ z (B b),o.bs,o.bsz,λb _ _=>B b,λb z=>mZ z (B b),o.funs,o.frf],
  Z,o.bare,Un.kept R,#[_,x.toInCall.ns,λi y v J l h3=>?_],λy c h=>#[_,x.cell y c h],o.hok.fresh (zY _),λy c h=>?_,λp F=>mZ (show p∈([]:jw) from F) ⋯,o.hok.kept R,?_]
 .show name_of_addr x.apart (PySem.mem_of_lookup J) (PySem.mem_of_lookup l)
 .let t:d.names.lookup y\.cell\/d.names.lookup y\.free:=t;rcases t with t|t
  .show Fk t
  .show mZ Z (S.nofree _ (PySem.mem_of_lookup t))
 .show yJ (x.above y c (PySem.mem_of_lookup h))
 .let L:i<↑D:=by
   unfold start at l;by_cases L:i<↑D
   .show L
   .rw[wY #v[L]] at l
    rw[List.getElem?_replicate] at l;split at l<;>cases l
  let X:D[i]?\v:=by
   unfold start at l;rw[wP #v[L],zO] at l
   cases e:D[i]? with
   |none=>erw[e] at l
   |some a=>erw[e] at l;rfl
  let#[u,T,rv]:=r.get X;let F:C[i]?\y:=by
   rwa[<-S.pre,qP (),J]
  let G:C.Nodup:=by rwa[<-S.pre,S.nd.sublist (List.take_sublist _ _)]
  exists u,rv;rcases S.par y (yY F) with k|k
  .show .inl #[k,EU G F T k]
  .let#[c,e]:=Fk (n:=‹s›+1) k;show .inr #[.inl k,c,e,?_];let q:=x.cell y c e;rw[Ew G F T (by change d.names.lookup y≠_;rw[k];decide)] at q
   show q
 .show o.hok.fresh (yJ (x.above y c (PySem.mem_of_lookup h)))
 .unfold start;change _=↑N;rw[zG,zX,List.length_replicate]
  lia
def GJ{R:Wh}{P:am}{w:aw}{K:zZ}{T:jc}{h:aD}{k:Nat}{f:aj}{z d:Str}{i:Arguments}{j:jQ}{a:aE}{dV kV F pm g ct oc:ai}{an od:jB}{a1:Array (jd)}{N U:jv}{sp:Sp}(lk:K.lookup f\#[oc,od,.func (xZ z d i j a dV kV F pm an g ct),a1])(X:xE K g d=X')(S:ZA N U a)(O:∀ l H Q E,sp l H Q E->↑l=↑U)(B:∀ (A:ax) (c:jF) (s:ak) (H:Hp) (l:jf) (Q:VK) (E:XK),Za k (A.deeper (envOfC d a ‹s› f g))->sp l H Q E ->
   ∃ t,Wc (Vn R P w K T h N d a f g A c s H E) j t/\t { nx:=λ_ p=>Q .non p,rt:=Q } (start N l) H):
  ZL P w K T h R (k+1) f (xZ z d i j a dV kV F pm an g ct) U sp:=by
 exists O;intro A c s H args us l Q E Y G hb r M;let hl:=O _ _ _ _ M;let KX:K.In s.heap:=G.mod.kin.keeps λb o e=>(G.bs b o e).1;let a0:s.heap.NoLimit:=G.mod.nolimit.keeps λb o e=>(G.bs b o e).1;let C:∀ y∈U.zip us,a.names.lookup y.1\.local\/(a.names.lookup y.1\.cell/\((cellsFrom (‹s›+1) a.names []).lookup y.1).isSome=X'):=λ⟨n,v⟩ hy=>by
  rcases S.par n (qV hy).1 with q|q
  .show .inl q
  .show .inr #[q,mJ _ _ _ (.inl q)]
 show codeAny_call_function Y.depth (KX _ _ lk) Z S.co S.gen Z (PySem.W.codeRec_of KX X) (hb _ _ _ _ ?_);show wpAny_newFunctionEnv_cells S.kind C λa2 he s1 x=>?_;subst he;show#[a0.keeps x.toInCall.keep,codeAny_func ?_];let#[t,ht,hq]:=B A c s H l Q E (Y.deeper _) M;let I:ZF (Vn R P w K T h N d a f g A c s H E) [] (start N l) H s1:=pI S Y.hd G hl r x;show ae (ht [] s1 (start N l) H _ I hq) (λfl s' D=>?_) λe s' D=>D;let L:∀{m:St}{p:Hp}{v:V}{u:ai},ZF (Vn R P w K T h N d a f g A c s H E) [] m p s'->ZT v u->Q v p->CE c P w H s Q u s':=
  fun{m p v u} J rv q=>#[v,p,J.os,J.bare,J.base,J.hok,rv,q]
 cases fl with
 |ret u=>
  let#[v,m,p,J,rv,q]:=D;show L J rv q
 |next=>
  let#[m,p,J,q]:=D;show L (v:=V.non) (u:=Value.none) J Z q
 |brk=>
  let#[_,_,_,q]:=D;show False.elim q
 |cont=>
  let#[_,_,_,q]:=D;show False.elim q
section
variable{x:Str}{p pos:aJ}{e:Expr}{es:jC}{t:TA}{id T:String}{r:jf->Hp->VK->Prop}
def Cy(r:jf->Hp->VK->Prop)(t:TA):TE:=λc H Q=>t c H λb a=>r b a Q
def Zv(j:Vd X (.builtin id) r)(l:Gl X x)(m:X.mg x=Y')(o:ay x\.builtin id)(i:PA X (e::es) t)(n:x≠"__name__" :=by decide)(b:(x==("__debug__":Str))=false:=by decide)(k:ar (e::es) X.env=(false,aH e X.env)::ar es X.env:=by rfl)(c:(aF pos (ar es X.env)).any (·.1)=false:=by rfl):PE X (.Call (.Name x p) (e::es) [] pos) (Cy r t):=by
 intro a s d H Q I h;show ag (OD I l m o ?_ n b);show PyProof.Rows.callWith_builtin1 (YH (i pos a s d H _ I h) λw v y f g u q=>j a v d f y w Q g u q) k c
def VB(j:Vd X (.type T) r)(l:Gl X x)(m:X.mg x=Y')(o:ay x\.type T)(i:PA X (e::es) t)(n:x≠"__name__" :=by decide)(b:(x==("__debug__":Str))=false:=by decide)(k:ar (e::es) X.env=(false,aH e X.env)::ar es X.env:=by rfl)(c:(aF pos (ar es X.env)).any (·.1)=false:=by rfl):PE X (.Call (.Name x p) (e::es) [] pos) (Cy r t):=by
 intro a s d H Q I h;show ag (OD I l m o ?_ n b);show PyProof.Rows.callWith_type1 (YH (i pos a s d H _ I h) λw v y f g u q=>j a v d f y w Q g u q) k c
end
end Tw
variable{X:Tw.Cx}{prog P:am}{w:aw}{A:ax}{E:ja}{s:ak}{K:zZ}{mg:jc}{f:aj}{fd:ao}{kF:aD}
namespace HT
open PySem PySem.Spec PyProof.Rows
def rcLt_int(A:ax)(s:ak)(a:Int)(t:Tok)(c:Int)(u:Tok)(b:am)(w:aw)(E Q:ja)(h:Q (.bool (ng (a<c))) s):
  aB (aA b w) A (richCompare .Lt (.int a t) (.int c u)) Q E s:=
 (PyProof.Rows.lt_int h:aB (aA b w) A (az .Lt (.int a t) (.int c u)) Q E s)
section
open PySem.SeqAt
open PySem.AutoSeq1 (wpAny_loadPart')
open PySem.MeetsSeq PySem.MeetsSeq2 PySem.MeetsSeq3
end
def cat_tup{t b:aj}{d a:je}{Q:ja}(C:IsTup s.heap t ⇑d)(B:IsTup s.heap b ⇑a)(u:d≠[])(y:a=[]->Q (!t) s)(z:a≠[]->Q (.ref ‹s›) { s with heap:=s.heap.push { cls:=.type "tuple",data:=.seq ⇑(d++a) } })(m:↑d+↑a<=aq):aB ↥_ A (binaryOp .Add (!t) !b) Q E s:=by
 let#[#[cls,p,data,x],j,q,n,r]:=id C;let#[#[o,f,l,i],c,g,v,h]:=id B;simp only at q r g h;subst q r g h;let e:⇑d++⇑a=⇑(d++a):=by simp
 by_cases k:a=[]
 .show concat_meets #[_,j,Z] #[_,c,Z] noFill_tuple_add seq_tuple_add mI mM (pX _ _)
   (tuple_addW1 t b ⇑d ⇑a n v p f x i #v[u] (by simp[k])) #[j,c,y k]
 .show concat_meets #[_,j,Z] #[_,c,Z] noFill_tuple_add seq_tuple_add mI mM (pX _ _)
   (tuple_addW2 t b ⇑d ⇑a n v p f x i #v[u] #v[k] #v[zM,zM,m]) #[j,c,?_]
  rwa[e,z k]
def sIx(n d:Nat):jJ->Nat
 |none=>d
 |some v=>if v<0 then (v+(n:Int)).toNat else min v.toNat n
end HT
namespace Tw
open PySem PySem.Spec PyProof.Rows
abbrev TO:=St->Hp->(jJ->Hp->Prop)->Prop
def PO(X:Cx)(e:jT)(t:TO):Prop:=
 ∀(a:jw)(s:ak)(b:St)(H:Hp)(Q:jJ->Hp->Prop),ZF X a b H s->t b H Q ->
  aB ↥X X.A (evalPart e X.env) (λu d=>∃ o c,ZF X a b c d/\IsPart u o/\Q o c) X.xe s
def vo:TO:=λ_ H Q=>Q Y' H
inductive NM(Q:jJ->Hp->Prop)(x:V)(a:Hp):Prop
 |mk(i:_)(_:x=.int i)(_:Q (Z' i) a)
def Bh(t:TE):TO:=λb H Q=>t b H λx a=>NM Q x a
def IS{a:jz}:∀{b:je},ZR (a.map V.int) b->IntsAre b a:=by
 induction a with
 |nil=>intro b r;erw[vI] at r;show .nil
 |cons n a c=>
  intro b r;rw[yL] at r
  cases r with
  |cons d f=>
   let#[t,e]:=d;subst e;show .cons n t (c f)
section
variable{e:Expr}{te:TE}{lo hi:jT}{tl th:TO}{pos p2:aJ}
def Ly:PO X Y' vo:=by
 intro a s b H Q I h;rwa[evalPart_none,ad #[Y',H,I,.none,h]]
def Lm(h:PE X e te):PO X (Z' e) (Bh te):=by
 intro a s j H Q I d;rw[evalPart_some];show YH (h a s j H _ I d) λu k x b c g f=>?_;let#[i,rfl,q]:=f;let#[t,rfl]:=g;show#[Z' i,b,c,.int i t,q]
def Fx(X:Cx)(r:V->jJ->jJ->Hp->VK->Prop):Prop:=
 ∀(a:jw)(s:ak)(f:St)(H:Hp)(x:V)(v c d:ai)(lo hi:jJ)(b:aj)(Q:VK),ZF X a f H s->ZT x v->s.heap.IsSliceOf b c d .none->IsPart c lo->IsPart d hi->r x lo hi H Q ->
  ∃ T id,typeLookup (.type T) "__getitem__"=pure (Z' (.builtin id))/\s.TypeIs v T/\aB ↥X X.A (getItem v !b) (EP X a f Q) X.xe s
def AZ(r:V->jJ->jJ->Hp->VK->Prop)(te:TE)(tl th:TO):TE:=λa H Q=>te a H λx b=>tl a b λl c=>th a c λu d=>r x l u d Q
def Lk{r:V->jJ->jJ->Hp->VK->Prop}(C:Fx X r)(y:PE X e te)(B:PO X lo tl)(E:PO X hi th):PE X (.Subscript e (.Slice lo hi Y' p2) pos) (AZ r te tl th):=by
 intro a s d H Q I h;show Subscript_ (YH (y a s d H _ I h) λv N x j m M J=>?_);show wpAny_Slice (YH (B a N d j _ m J) λf O l k n F K=>YH (E a O d k _ n K) λg c u i o G L=>?_);rw[evalPart_none];show ad ?_;let p:ZF X a d i { c with heap:=c.heap.push { cls:=.type "slice",data:=.fields ⇑[f,g,.none] } }:=o.kept (t':=c.toks) λb P q=>zS _ q;let#[T,id,t,D,z]:=C a { c with heap:=c.heap.push { cls:=.type "slice",data:=.fields ⇑[f,g,.none] } } d i x v f g l u ‹c› Q p M (Heap.IsSliceOf.new ..) F G L;change aB ↥X X.A (subscriptTail e (.Slice lo hi Y' p2) v (.ref ‹c›)) (EP X a d Q) X.xe { c with heap:=c.heap.push { cls:=.type "slice",data:=.fields ⇑[f,g,.none] } };show tail_any (ops:=[.ref ‹c›,v]) D t z (by with_unfolding_all rfl)
noncomputable def OO(a:jf)(lo hi:jJ):jf:=(a.drop (HT.sIx ↑a 0 lo)).take (HT.sIx ↑a ↑a hi-HT.sIx ↑a 0 lo)
def oI(a:jf)(lo hi:jJ):↑(OO a lo hi)<=↑a:=by
 unfold OO;rwa[wS,vA,zR (sG _ _) (vJ _ _)]
inductive MW(K:zZ)(x y:V)(H:Hp)(Q:VK):Prop
 |mk(a b d c:_)(_:x=!a)(_:y=!b)(_:Zc K H a d)(_:Zc K H b c)(_:d≠[])(_:↑d+↑c<=aq)(_:c=[]->Q (!a) H)(_:c≠[]->∀ p,H p=Y'->Q (!p) (upd H p (.tup (d++c))))
def ZR.nil_iff{b:jf}{a:je}(r:ZR b a):a=[]↔b=[]:=by
 cases r with
 |nil=>simp
 |cons _ _=>simp
def xk:Yz X (binaryOp .Add) (MW X.K):=by
 intro i s E H x y v u Q I t A h;let#[a,b,B,C,rfl,rfl,j,k,l,f,p,r]:=h;cases t;cases A;let#[m,d,n,_]:=I.tuple j;let#[g,c,p2,_]:=I.tuple k;show HT.cat_tup n p2 (λz=>l (d.nil_iff.mp z)) (λz=>#[!a,H,I,Z,p (c.nil_iff.mp z)]) (λz=>?_) (by rwa[<-↑d,<-↑c,f])
 show#[.ref ‹s›,_,I.laid (t':=s.toks) (o:=.tup (B++C)) (λb D q=>zS _ q) (zY _) ?_,Z,r (λw=>z (c.nil_iff.mpr w)) _ (I.hok.fresh (zY _))];show#[#v[zG,f],_,d.append c,IsTup.new _ _]
end
noncomputable def Q0(n:Nat)(i:Int):jL:=if 0<=i then (if i<n then Z' i.toNat else Y') else if -(n:Int)<=i then Z' (i+n).toNat else Y'
def Xs{b:Type}(a:List b)(i:Int):Option b:=(Q0 ↑a i).bind λj=>a[j]?
theorem Gv{n:Nat}{i:Int}{j:Nat}(h:Q0 n i\j):seqIndex? i n\j/\j<n /\ -(n:Int)<=i/\i<n:=by
 unfold Q0 at h;by_cases b:0<=i
 .rw[aP b] at h;by_cases a:i<n
  .rw[aP a] at h;let e:i.toNat=j:=zB.inj h;show#[by rw[seqIndex_of b a,e],(),(),a]
  .erw[aO a] at h
 .rw[aO b] at h;by_cases a : -(n:Int)<=i
  .rw[aP a] at h;let e:(i+n).toNat=j:=zB.inj h;show#[by rw[seqIndex_neg () a,e],(),a,()]
  .erw[aO a] at h
def JL{b:Type}{a:List b}{i:Int}{v:b}(h:Xs a i\v):∃ j,seqIndex? i ↑a\j/\a[j]?\v/\j<↑a /\ -(↑a:Int)<=i/\i<↑a:=by
 unfold Xs at h
 cases e:Q0 ↑a i with
 |none=>erw[e] at h
 |some j=>
  rw[e] at h;let#[c,d,f,g]:=Gv e;show#[j,c,h,d,f,g]
theorem Xu{b:Type}{a:List b}{j:Nat}{v:b}(h:a[j]?\v):Xs a (j:Int)\v:=by
 let c:j<↑a:=(yO.mp h).1;let e:Q0 ↑a (j:Int)\j:=by
  unfold Q0;rw[aP (),aP ()];simp
 unfold Xs;rwa[e,h]
theorem HF{b:Type}(a:List b)(v:b):Xs (a++[v]) (-1)\v:=by
 let c:↑(a++[v])=↑a+1:=by simp
 let e:Q0 ↑(a++[v]) (-1)\↑a:=by
  unfold Q0;rw[c,aO (by decide),aP ()]
  congr 1
  lia
 unfold Xs;rw[e];change (a++[v])[a.length]?\v;simp
def JY(b:Expr):=∀ o i,subscripted b false o i=operate [o,i] (getItem o i)
def Q1(X:Cx)(r:R2):Prop:=
 ∀(c a:Expr)(b:jw)(s:ak)(d:St)(H:Hp)(x y:V)(v u:ai)(Q:VK),ZF X b d H s->ZT x v->ZT y u->r x y H Q ->
  subscripted a false v u=operate [v,u] (getItem v u)->aB ↥X X.A (subscriptTail c a v u) (EP X b d Q) X.xe s
def Fw(X:Cx)(id:String)(r:V->jf->Hp->VK->Prop):Prop:=
 ∀(a:jw)(s:ak)(d:St)(H:Hp)(x:V)(c:jf)(v:ai)(b:je)(Q:VK),ZF X a d H s->ZT x v->ZR c b->r x c H Q ->
  aB ↥X X.A (call (.builtin id) (v::b)) (EP X a d Q) X.xe s
section
variable{a b:Expr}{ta tb:TE}{pos:aJ}
def Q1.or{r g:R2}(h:Q1 X r)(l:Q1 X g):Q1 X (λx y H Q=>r x y H Q\/g x y H Q):=by
 intro d c e s k H x y v u Q I i j q f;rcases q with q|q
 .show h d c e s k H x y v u Q I i j q f
 .show l d c e s k H x y v u Q I i j q f
def U4{r:R2}(i:Q1 X r)(f:PE X a ta)(g:PE X b tb)(j:JY b):PE X (.Subscript a b pos) (Nq r ta tb):=by
 intro c s n H Q I h;show Subscript_ (JA f g I h λv u m x y d e k l q=>i a b c m n d x y v u Q e k l q (j _ _))
inductive MV(K:zZ)(x y:V)(H:Hp)(Q:VK):Prop
 |mk(p c i v:_)(_:x=!p)(_:y=.int i)(_:ZH K H p c)(_:Xs c i\v)(_:Q v H)
inductive Pc(K:zZ)(x y:V)(H:Hp)(Q:VK):Prop
 |mk(p c i v:_)(_:x=!p)(_:y=.int i)(_:Zc K H p c)(_:Xs c i\v)(_:Q v H)
inductive MG(x y:V)(H:Hp)(Q:VK):Prop
 |mk(z i c:_)(_:x=.str z)(_:y=.int i)(_:↑z<=aq)(_:Xs z.cps.toList i\c)(_:Q (.str ⟨⇑[c]⟩) H)
theorem YC:Q1 X (MV X.K):=by
 intro n m c s C H x y v u Q I M N h B;let#[p,T,i,z,rfl,rfl,L,G,q]:=h;cases M;let#[t,rfl]:=N;let#[g,r,k,S]:=I.list L;let#[j,e,D,P,E,F]:=JL G;let#[w,o,l]:=r.get D;let J:=↑r;let R:=Nf;let d:EP X c C Q w s:=#[z,H,I,l,q];by_cases A:0<=i
 .let f:i.toNat=j:=by
   rw[seqIndex_of A F] at e;show zB.inj e
  show item_listR k.isList A () (by rw[f];simpa using o) d B
 .let f:(i+(g.toArray.size:Int)).toNat=j:=by
   rw[seqIndex_neg () E] at e
   rwa[zM,<-J,zB.inj e]
  show subscriptTail_builtinR (x:=w) k.isList.typeIs slot_list_getitem.lookup
   (wpAny_getItem_list_neg (Q:=λr O=>r=w/\EP X c C Q r O) k.isList () (by rw[zM]<;>lia) () (by rw[f];simpa using o) #[Z,d]) B
def Qj:Q1 X (Pc X.K):=by
 intro g f c s l H x y v u Q I F G h D;let#[p,R,i,z,rfl,rfl,C,A,q]:=h;cases F;let#[t,rfl]:=G;let#[E,r,k,P]:=I.tuple C;let#[j,n,o,L,M,N]:=JL A;let#[w,m,e]:=r.get o;let B:=↑r;let O:=Nf;let d:EP X c l Q w s:=#[z,H,I,e,q];show subscriptTail_builtinR (x:=w) k.typeIs slot_tuple_getitem.lookup
  (getItem_tuple (j:=j) (Q:=λr J=>r=w/\EP X c l Q r J) k () () (by rwa[zM,<-B,n]) #v[m] #[Z,d]) D
theorem zv:Q1 X MG:=by
 intro e d g s G H x y v u Q I A B h w;let#[z,i,c,rfl,rfl,E,p,q]:=h;let#[t,rfl]:=A;let#[F,rfl]:=B;let#[j,f,m,C,n,o]:=JL p;let r:↑z.cps.toList=↑z:=by simp[Str.length]
 rw[r] at f n o;let D:=Nf;show tail_any (typeIs_str s z t) slot_str_getitem.lookup (getItem_str (c:=c) (by
  let k:ng (i < -(2^63:Int))=false:=aK ()
  let l:ng (i≥2^63)=false:=aK ()
  rw[k,l,Bool.or_false]) (by rw[f];simpa using m) #[.str #[⇑[c]],H,I.tok _,#[1],q]) w
def Iy(K:zZ):R2:=λx y H Q=>MV K x y H Q\/Pc K x y H Q\/MG x y H Q
def Rb:Q1 X (Iy X.K):=YC.or (Qj.or zv)
def nP{X:Cx}{a b:Expr}{ta tb:TE}{pos:aJ}(K:zZ)(c:PE X a ta)(d:PE X b tb)(f:JY b:=by show λ_ _=>rfl)(e:Q1 X (Pc K):=by show Qj):PE X (.Subscript a b pos) (Nq (Pc K) ta tb):=U4 e c d f
def Zk{X:Cx}{a b:Expr}{ta tb:TE}{pos:aJ}(K:zZ)(c:PE X a ta)(d:PE X b tb)(f:JY b:=by show λ_ _=>rfl)(e:Q1 X (Iy K):=by show Rb):PE X (.Subscript a b pos) (Nq (Iy K) ta tb):=U4 e c d f
def Az(c:je)(n j:Nat)(u:ai):Obj.mapSeq (·.setIfInBounds j u) { cls:=.type "list",data:=.seq ⇑c n }={ cls:=.type "list",data:=.seq ⇑(c.set j u) n }:=by
 simp[Obj.mapSeq]
def ZF.lst{d:jw}{g:St}{H:Hp}{s:ak}{p:aj}{f:jf}(I:ZF X d g H s)(h:H p\.lst f):
  ∃(c:je)(n:Nat),ZR f c/\s.heap.get? p\{ cls:=.type "list",data:=.seq ⇑c n }/\↑f<=sizeLine:=by
 let#[z,c,n,r,e]:=I.hok p _ h;show#[c,n,r,e,z]
def ZF.lstUpd{d:jw}{l:St}{H:Hp}{s:ak}{p:aj}{w j:jf}{g c:je}{n i:Nat}{f:aI->aI}(I:ZF X d l H s)(h:H p\.lst w)(o:s.heap.get? p\{ cls:=.type "list",data:=.seq ⇑g n })(k:f { cls:=.type "list",data:=.seq ⇑g n }={ cls:=.type "list",data:=.seq ⇑c i })(r:ZR j c)(v:↑j<=aq)(t:Nat):
  ZF X d l (upd H p (.lst j)) { s with heap:=s.heap.update p f,toks:=t }:=by
 let e:(s.heap.update p f).get? p\{ cls:=.type "list",data:=.seq ⇑c i }:=by
  rw[wC f o (by rw[k]<;>rfl),k]
 show I.write (x:=p) (e:=p) (by rw[h];trivial) (.inl Z) (λb u m q=>(xV _ _ (Ne.symm m))|||q) #[_,e] ?_
 show#[v,c,i,r,e]
inductive MS(o i v:V)(H:Hp)(Q:Hp->Prop):Prop
 |mk(p c k j:_)(_:o=!p)(_:i=.int k)(_:H p\.lst c)(_:Q0 ↑c k\j)(_:Q (upd H p (.lst (c.set j v))))
def GM:FE X MS:=by
 intro d s G H o i v M L u Q I D C E h;let#[p,F,k,j,rfl,rfl,z,A,q]:=h;cases D;let#[t,rfl]:=C;let#[c,n,r,l,B]:=I.lst z;let#[e,J,x,y]:=Gv A;let g:=↑r;let K:=Nf;let m:ZF X d G (upd H p (.lst (F.set j v))) { s with heap:=s.heap.update p (Obj.mapSeq (·.setIfInBounds j u)) }:=
  I.lstUpd z l (Az c n j u) (r.set E j) #v[wG,B] s.toks
 by_cases w:0<=k
 .let f:k.toNat=j:=by
   rw[seqIndex_of w y] at e;show zB.inj e
  show PySem.W.ki_setAt l w () (by rwa[zM,<-g,y]) #v[f,#[_,m,q]]
 .let f:(k+(c.toArray.size:Int)).toNat=j:=by
   rw[seqIndex_neg () x] at e
   rwa[zM,<-g,zB.inj e]
  show PySem.W.ki_setBack l () (by rwa[zM,<-g,x]) () #v[f,#[_,m,q]]
theorem om(d c:jJ)(n:Nat):(sliceBounds d c Y' n).1=((HT.sIx n 0 d:Nat):Int)/\(sliceBounds d c Y' n).2.1=((HT.sIx n n c:Nat):Int)/\(sliceBounds d c Y' n).2.2=1:=by
 show#[?_,?_,Z]
 .cases d with
  |none=>simp[sliceBounds,HT.sIx]
  |some i=>
   simp only[sliceBounds,HT.sIx,Option.getD_none,show (1:Int)>0 by decide,if_true]
   by_cases h:i<0
   .simp only[h,if_true]<;>lia
   .simp only[h,if_false]<;>lia
 .cases c with
  |none=>simp[sliceBounds,HT.sIx]
  |some i=>
   simp only[sliceBounds,HT.sIx,Option.getD_none,show (1:Int)>0 by decide,if_true]
   by_cases h:i<0
   .simp only[h,if_true]<;>lia
   .simp only[h,if_false]<;>lia
def og(c:je)(d e:jJ):slicePick ⇑c d e Y'=⇑((c.drop (HT.sIx ↑c 0 d)).take (HT.sIx ↑c ↑c e-HT.sIx ↑c 0 d)):=by
 let#[f,g,h]:=om d e c.toArray.size;unfold slicePick;rw[f,g,h];simp only[sliceRange_one,pick_run,zM]<;>rfl
inductive IM(K:zZ)(x:V)(e d:jJ)(H:Hp)(Q:VK):Prop
 |mk(a c:_)(_:x=!a)(_:ZH K H a c)(_:∀ p,H p=Y'->Q (!p) (upd H p (.lst (OO c e d))))
theorem Kq:Fx X (IM X.K):=by
 intro i s A H x v y z e f w Q I t j n p h;let#[a,c,rfl,k,q]:=h;cases t;let#[m,r,g,l]:=I.list k;let d:=↑r;exists "list",_,slot_list_getitem.lookup,g.isList.typeIs;show wpAny_getItem_list_slice g.isList j n p .none ⋯ ?_ (by rw[zM]<;>lia)
 rw[og,<-d];show#[.ref ‹s›,_,I.laid (t':=s.toks) (o:=.lst (OO c e f)) (λb u q=>zS _ q) (zY _) ?_,Z,q _ (I.hok.fresh (zY _))];show#[zR (oI c e f) l,_,(0),(r.drop (HT.sIx ↑c 0 e)).take (HT.sIx ↑c ↑c f-HT.sIx ↑c 0 e),yS _ Z]
def Pb:V->Bool
 |.non=>true
 |.bl _=>true
 |.int _=>true
 |.str _=>true
 |_=>false
noncomputable def Qz:V->V->Bool
 |.non,.non=>true
 |.bl a,.bl b=>a==b
 |.bl a,.int b=>(if a then 1 else 0)==b
 |.int a,.bl b=>a==(if b then 1 else 0)
 |.int a,.int b=>a==b
 |.str a,.str b=>a==b
 |_,_=>false
def Mg{A:ax}{s:ak}{y x:V}{u v:ai}(f:ZT y u)(c:ZT x v)(g:Pb y=X')(e:Pb x=X'):SeqAt.EqAt A s u v (Qz y x):=by
 cases y with
 |non=>
  cases f
  cases x with
  |non=>cases c;show SeqAt.EqAt.same _
  |bl b=>cases c;show SeqAt.EqAt.none_bool b
  |int b=>let#[t,rfl]:=c;show SeqAt.EqAt.none_int b t
  |str b=>let#[t,rfl]:=c;show SeqAt.EqAt.none_str b t
  |_=>show mZ (show false=X' from e) zN
 |bl a=>
  cases f
  cases x with
  |non=>cases c;show SeqAt.EqAt.bool_none a
  |bl b=>cases c;show SeqAt.EqAt.bool_bool a b
  |int b=>let#[t,rfl]:=c;show SeqAt.EqAt.bool_int a b t
  |str b=>let#[t,rfl]:=c;show SeqAt.EqAt.bool_str a b t
  |_=>show mZ (show false=X' from e) zN
 |int a=>
  let#[d,rfl]:=f
  cases x with
  |non=>cases c;show SeqAt.EqAt.int_none a d
  |bl b=>cases c;show SeqAt.EqAt.int_bool a d b
  |int b=>let#[t,rfl]:=c;show SeqAt.EqAt.int_int a d b t
  |str b=>let#[t,rfl]:=c;show SeqAt.EqAt.int_str a d b t
  |_=>show mZ (show false=X' from e) zN
 |str a=>
  let#[d,rfl]:=f
  cases x with
  |non=>cases c;show SeqAt.EqAt.str_none a d
  |bl b=>cases c;show SeqAt.EqAt.str_bool a d b
  |int b=>let#[t,rfl]:=c;show SeqAt.EqAt.str_int a d b t
  |str b=>let#[t,rfl]:=c;show SeqAt.EqAt.str_str a d b t
  |_=>show mZ (show false=X' from e) zN
 |_=>show mZ (show false=X' from g) zN
def UZ(x:V)(u:ai):Bool:=match u with
 |.none=>Qz .non x
 |.bool b=>Qz (.bl b) x
 |.int i _=>Qz (-i) x
 |.str z _=>Qz (.str z) x
 |_=>false
def GR{x y:V}{u:ai}(r:ZT y u)(f:Pb y=X'):UZ x u=Qz y x:=by
 cases y with
 |non=>cases r;rfl
 |bl b=>cases r;rfl
 |int i=>let#[t,rfl]:=r;rfl
 |str z=>let#[t,rfl]:=r;rfl
 |_=>show mZ (show false=X' from f) zN
theorem Mx{x:V}:∀{c:jf}{d:je},ZR c d->c.all Pb=X'->d.any (UZ x)=c.any λy=>Qz y x
 |_,_,.nil,_=>rfl
 |y::c,u::d,.cons r t,f=>by
  rw[tQ,zQ] at f;rw[vF,vF,GR r f.1,Mx t f.2]
theorem Mh{A:ax}{s:ak}{x:V}{v:ai}(h:ZT x v)(g:Pb x=X'):∀{e:jf}{d:je},ZR e d->e.all Pb=X'->∀ u∈d,SeqAt.EqAt A s u v (UZ x u)
 |_,_,.nil,_=>λu c=>by cases c
 |y::e,u::d,.cons r t,f=>λi c=>by
  rw[tQ,zQ] at f;rcases zD.mp c with rfl|c
  .rwa[GR r f.1,Mg r h f.1 g]
  .show Mh h g t f.2 i c
def NP(x:V)(c:jf):Bool:=c.any λy=>Qz y x
inductive MH(K:zZ)(d:Bool)(x y:V)(H:Hp)(Q:VK):Prop
 |mk(p c:_)(_:y=!p)(_:ZH K H p c\/Zc K H p c)(_:Pb x=X')(_:c.all Pb=X')(_:Q (.bl (if d then !NP x c else NP x c)) H)
def B0:Yz X (az .In) (MH X.K false):=by
 intro j s o H x y v u Q I k m h;let#[p,n,rfl,d,i,e,q]:=h;cases m;rcases d with d|d
 .let#[c,r,g,l]:=I.list d;show SeqAt.in_listAt (UZ x) g.isList (λw f=>Mh k i r e w #v[f]) #[.bl _,H,I,Z,?_]
  rw[show c.toArray.any (UZ x)=c.any (UZ x) by simp,Mx r e]
  show q
 .let#[c,r,g,l]:=I.tuple d;show SeqAt.in_tupleAt (UZ x) g (λw f=>Mh k i r e w #v[f]) #[.bl _,H,I,Z,?_]
  rw[show c.toArray.any (UZ x)=c.any (UZ x) by simp,Mx r e]
  show q
def G8:Yz X (az .NotIn) (MH X.K true):=by
 intro j s o H x y v u Q I k m h;let#[p,n,rfl,d,i,e,q]:=h;cases m;rcases d with d|d
 .let#[c,r,g,l]:=I.list d;show SeqAt.notIn_listAt (UZ x) g.isList (λw f=>Mh k i r e w #v[f]) #[.bl _,H,I,Z,?_]
  rw[show c.toArray.any (UZ x)=c.any (UZ x) by simp,Mx r e]
  show q
 .let#[c,r,g,l]:=I.tuple d;show SeqAt.notIn_tupleAt (UZ x) g (λw f=>Mh k i r e w #v[f]) #[.bl _,H,I,Z,?_]
  rw[show c.toArray.any (UZ x)=c.any (UZ x) by simp,Mx r e]
  show q
inductive Wk(d:zZ)(e:jf)(H:Hp)(Q:VK):Prop
 |mk(p c:_)(_:e=[!p])(_:ZH d H p c\/Zc d H p c)(_:Q (.int ↑c) H)
theorem X1:Vd X (.builtin "len") (Wk X.K):=by
 intro i s t H o n Q I r h;let#[p,j,rfl,d,q]:=h;let#[u,rfl,l]:=UD r;cases l;let m:=Nf;rcases d with d|d
 .let#[e,g,f,k]:=I.list d;let c:=↑g;show Calls.call_len_list f.isList (by simp only[zM]<;>lia) #[.int ↑j,H,I.tok _,#[s.toks+1,by rw[zM,c]],q]
 .let#[e,g,f,k]:=I.tuple d;let c:=↑g;show len_tuple f (by simp only[zM]<;>lia) #[.int ↑j,H,I.tok _,#[s.toks+1,by rw[zM,c]],q]
inductive Wo(c:jf)(H:Hp)(Q:VK):Prop
 |mk(z:_)(_:c=[.str z])(_:↑z<=aq)(_:Q (.int ↑z) H)
theorem oj:Vd X (.builtin "len") (Wo):=by
 intro c s i H g f Q I r h;let#[z,rfl,e,q]:=h;let#[u,rfl,t,rfl]:=UD r;let d:=Nf;show len_str () #[.int ↑z,H,I.tok _,#[1],q]
inductive Ws(d:zZ)(e:jf)(H:Hp)(Q:VK):Prop
 |mk(p c:_)(_:e=[!p])(_:ZH d H p c\/Zc d H p c)(_:∀ l,H l=Y'->Q (!l) (upd H l (.lst c)))
def PF:Vd X (.type "list") (Ws X.K):=by
 intro t s D H F E Q I r h;let#[p,A,rfl,k,q]:=h;let#[u,rfl,C]:=UD r;cases C;let i:∀(c:je),ZR A c->↑A<=aq->∀(d:aD)(f:Nat),(∀ b B,s.heap.get? b\B->d.get? b\B) ->
   d.get? ‹s›\{ cls:=.type "list",dict:=Y',data:=.seq ⇑c f,slots:=⇑[] }->EP X t D Q (.ref ‹s›) { s with heap:=d }:=λc g l d f m e=>
  #[.ref ‹s›,_,I.laid (t':=s.toks) m (zY _) (show Zb X.prog X.w _ d _ (.lst A) from #[l,c,f,g,e]),Z,q _ (I.hok.fresh (zY _))]
 rcases k with k|k
 .let#[c,g,z,l]:=I.list k;let j:=↑g;let#[o,y,v,n,x]:=z.isList;show call_list_seq p (.inl Z) y v x (λd f m e=>i c g l d f m e) (by simp only[zM]<;>lia)
 .let#[c,g,z,l]:=I.tuple k;let j:=↑g;let#[o,y,v,n,x]:=z;show call_list_seq p (.inr Z) y v x (λd f m e=>i c g l d f m e) (by simp only[zM]<;>lia)
inductive WV(d:zZ)(e:jf)(H:Hp)(Q:VK):Prop
 |mk(p c:_)(_:e=[!p])(_:(ZH d H p c/\∀ l,H l=Y'->Q (!l) (upd H l (.tup c)))\/(Zc d H p c/\Q (!p) H))
def P6:Vd X (.type "tuple") (WV X.K):=by
 intro c s t H A z Q I r h;let#[p,n,rfl,h]:=h;let#[u,rfl,y]:=UD r;cases y;rcases h with ⟨g,q⟩|⟨g,q⟩
 .let#[d,j,i,m]:=I.list g;let l:=↑j;show call_tuple_list i.isList (λf x=>?_) (by simp only[zM]<;>lia)
  let k:ZF X c t H { s with heap:=f }:=I.kept (t':=s.toks) x;let v:ZF X c t (upd H f.objs.size (.tup n)) { s with heap:=f.push { cls:=.type "tuple",data:=.seq ⇑d } }:=
   k.laid (t':=s.toks) (λb o e=>zS _ e) (zY _) (show Zb X.prog X.w _ _ _ (.tup n) from #[m,d,j,IsTup.new _ _])
  show#[!f.objs.size,_,v,Z,q _ (k.hok.fresh (zY _))]
 .let#[d,j,i,m]:=I.tuple g;show call_tuple_same i #[!p,H,I,Z,q]
def GP(K:zZ)(T:String)(x:V)(H:Hp):Prop:=match x with
 |.str _=>T="str"
 |.int _=>T="int"
 |.ref p=>(T="list" /\ ∃ d,ZH K H p d)\/(T="tuple" /\ ∃ o,K.lookup p\o/\o.cls=.type "tuple"/\o.dict=Y') \/
   (T="dict"/\((∃ c,H p\.dK c)\/∃ c,H p\.dT c))\/(T="set" /\ ∃ S n,H p\.set S n)
 |_=>False
def Fj{g:jw}{A:St}{H:Hp}{s:ak}{T:String}{x:V}{v:ai}(I:ZF X g A H s)(r:ZT x v)(h:GP X.K T x H):
  s.TypeIs v T/\∀ a,v=.ref a->∃ m,s.heap.get? a\m/\m.dict=Y':=by
 cases x with
 |str z=>
  let#[t,rfl]:=r;cases(show T="str" from h);show#[typeIs_str s z t,λ_ e=>nomatch e]
 |int i=>
  let#[t,rfl]:=r;cases(show T="int" from h);show#[typeIs_int s i t,λ_ e=>nomatch e]
 |ref p=>
  cases r;rcases h with ⟨rfl,B,w⟩|⟨rfl,o,d,u,k⟩|⟨rfl,d⟩|⟨rfl,S,n,d⟩
  .let#[y,_,q,_]:=I.list w;exists q.isList.typeIs;intro a e;cases e;let#[o,n,e,c,k,_]:=q;show#[o,e,k]
  .exists #[o,I.kIn p o d,u];intro a e;cases e;show#[o,I.kIn _ o d,k]
  .let z:∃ o,s.heap.get? p\o/\o.ExactDict:=by
    rcases d with ⟨l,d⟩|⟨l,d⟩
    .let#[_,_,_,_,o,_,_,e,f,_]:=I.hok p _ d;show#[o,e,f]
    .let#[_,_,_,_,o,_,_,e,f,_]:=I.hok p _ d;show#[o,e,f]
   let#[o,e,f]:=z;exists #[o,e,f.1];intro a j;cases j;show#[o,e,f.2.1]
  .let#[o,_,_,_,e,f,_]:=I.hok p _ d;exists #[o,e,f.1];intro a j;cases j;show#[o,e,f.2.1]
 |_=>show False.elim h
def RO(K:zZ)(T:String)(r:V->jf->Hp->VK->Prop)(d:TE):TE:=λe H Q=>d e H λx c=>GP K T x c/\r x [] c Q
def La(K:zZ)(T:String)(r:V->jf->Hp->VK->Prop)(f:TE)(t:TA):TE:=λd H Q=>f d H λx c=>GP K T x c/\t d c λg e=>r x g e Q
variable{o e:Expr}{es:jC}{to:TE}{t:TA}{name:Str}{jk jj:aJ}{T id:String}{r:V->jf->Hp->VK->Prop}
def Nl(w:PlainAttrs T)(g:Slot T name id)(i:typeOf (.builtin id)=pure (.type "method_descriptor"))(q:Fw X id r)(u:PE X o to)(d:attributeBase o name X.env (aH o X.env)=aH o X.env:=by rfl)(f:(jk.endLine==jj.line)=X':=by rfl):PE X (.Call (.Attribute o name jk) [] [] jj) (RO X.K T r to):=by
 intro c s l H Q I h;show wpAny_Call_method0_late d f (Z0 (u c s l H _ I h) ?_);rintro v z ⟨x,m,j,k,A,y⟩;let#[n,p]:=Fj j k A;show#[T,id,w,g,i,n,p,Calls.callWith_builtin Z (PySem.evalArgs_none (q c z l m x [] v [] Q j k .nil y))]
def VL(E:PlainAttrs T)(j:Slot T name id)(k:typeOf (.builtin id)=pure (.type "method_descriptor"))(B:Fw X id r)(C:PE X o to)(A:PA X (e::es) t)(f:attributeBase o name X.env (aH o X.env)=aH o X.env:=by rfl)(i:((aF jj (ar (e::es) X.env)).all (λx=>not x.1)&&(backToKw jj (keywordEach [] X.env)).all (λx=>x.1.isSome)
   && ng (↑(e::es)+↑([]:List Keyword)+(if ([]:List Keyword).isEmpty then 0 else 1)<30))=X':=by rfl)(g:(jk.endLine==jj.line)=X':=by rfl)(D:ar (e::es) X.env=(false,aH e X.env)::ar es X.env:=by rfl)(d:(aF jj (ar es X.env)).any (·.1)=false:=by rfl):
  PE X (.Call (.Attribute o name jk) (e::es) [] jj) (La X.K T r to t):=by
 intro c s l H Q I h;show wpAny_Call_method_late f i g Z (Z0 (C c s l H _ I h) ?_);rintro v L ⟨x,q,m,p,N,F⟩;let#[y,z]:=Fj m p N;exists T,id,E,j,k,y,z;let n:=A jj c L l q _ m F;rw[D] at n⊢;show Calls.callWith_builtin (by change (false||(aF jj (ar es X.env)).any (·.1))=false;rw[d]<;>rfl) (Calls.evalArgs_plain ?_)
 show YH n λO M P u w J G=>B c M l u x P v O Q w p J G
end
def Op(X:Cx)(id:String)(r:V->jf->Hp->VK->Prop):Prop:=
 ∀(a:jw)(s:ak)(d:St)(H:Hp)(x:V)(c:jf)(v:ai)(b:je)(Q:VK),ZF X a d H s->ZT x v->ZR c b->r x c H Q ->
  aB ↥X X.A (call (.builtin id) (v::b)) (EP X a d Q) X.xe s
def ZR.one:∀{x:V}{a:je},ZR [x] a->∃ u,a=[u]/\ZT x u:=λh=>by cases h with|cons r n=>cases n;show#[1,r]
def ZR.zero:∀{a:je},ZR [] a->a=[]
 |_,.nil=>rfl
def ZR.dropLast{b:jf}{a:je}(h:ZR b a):ZR b.dropLast a.dropLast:=by
 induction h with
 |nil=>show .nil
 |cons r t c=>
  cases t with
  |nil=>show .nil
  |cons q d=>show .cons r c
theorem oO{d:Type}(l:List d):l.eraseIdx (↑l-1)=l.dropLast:=by
 induction l with
 |nil=>rfl
 |cons a r c=>
  cases r with
  |nil=>rfl
  |cons b r=>
   let e:↑(a::b::r)-1=(↑(b::r)-1)+1:=by
    let f:↑(a::b::r)=↑r+2:=rfl;let g:↑(b::r)=↑r+1:=rfl
    lia
   rw[e,List.eraseIdx_cons_succ,c]
   all_goals rfl
section
variable{kE:jw}{σ:St}{H:Hp}{l b:aj}{xs ys zs:jf}
def ZF.lset{a its':je}{n:Nat}{f:jA->jA}{k:Nat}(I:ZF X kE σ H s)(c:H l\.lst xs)(e:s.heap.get? l\{ cls:=.type "list",data:=.seq ⇑a n })(g:f ⇑a=⇑its')(i:ZR ys its')(j:↑ys<=aq):
  ZF X kE σ (upd H l (.lst ys)) { s with heap:=s.heap.update l (Obj.mapSeq f),toks:=k }:=by
 let q:=PySem.IsL.update e f;rw[g] at q;show I.write (x:=l) (e:=l) #v[c,trivial] (.inl Z) (λm u d h=>(xV s.heap (Obj.mapSeq f) (Ne.symm d))|||h) #[_,q] ?_
 show#[j,its',_,i,q]
def ZF.lnew{a:je}{t':Nat}(I:ZF X kE σ H s)(c:ZR ys a)(d:↑ys<=aq):
  ZF X kE σ (upd H ‹s› (.lst ys)) { s with heap:=s.heap.push { cls:=.type "list",data:=.seq ⇑a },toks:=t' }:=
 I.laid (λ_ _ q=>zS _ q) (zY _) #[d,a,(0),c,yS _ Z]
def ZF.fresh(I:ZF X kE σ H s):H ‹s›=Y':=I.hok.fresh (zY _)
def ZF.lstM(I:ZF X kE σ H s)(c:H l\.lst xs):↑xs<=aq/\∃(a:je)(n:Nat),ZR xs a/\↑xs=↑a/\s.heap.get? l\{ cls:=.type "list",data:=.seq ⇑a n }:=by
 let#[z,a,n,r,e]:=I.hok l _ c;show#[z,a,n,r,↑r,e]
end
inductive Pg(x:V)(b:jf)(H:Hp)(Q:VK):Prop
 |mk(l a y:_)(_:x=!l)(_:b=[y])(_:H l\.lst a)(_:↑a<aq)(_:Q .non (upd H l (.lst (a++[y]))))
theorem V9:Op X "list.append" Pg:=by
 intro c s p H x m v k Q I g f h;let#[l,o,y,rfl,rfl,b,j,q]:=h;cases g;let#[u,rfl,d]:=f.one;let#[z,a,n,r,i,e]:=I.lstM b;show call_meets F.slot_list_append #[_,e,Z] F.entry_list_append (F.args_list_append_2 _ _) (PySem.list_append l ⇑a n u (by rw[zM];lia)) #[e,?_]
 show#[.non,_,I.lset (its':=a++[u]) b e ⋯ (r.append (.cons d .nil)) ?_,Z,q]
 rw[zG,xS]
 lia
inductive Ip(x:V)(b:jf)(H:Hp)(Q:VK):Prop
 |mk(l a y:_)(_:x=!l)(_:b=[])(_:H l\.lst a)(_:a[↑a-1]?\y)(_:Q y (upd H l (.lst a.dropLast)))
theorem Dv:Op X "list.pop" Ip:=by
 intro f s A H x t v p Q I o m h;let#[l,w,y,rfl,rfl,d,j,q]:=h;cases o;let b:=m.zero;subst b;let#[z,a,n,r,g,e]:=I.lstM d;let#[u,i,k]:=r.get j;let c:a.toArray[a.toArray.size-1]?\u:=by
  change a.toArray[↑a-1]?\u;rwa[<-yC,<-g,i]
 show call_meets F.slot_list_pop #[_,e,Z] F.entry_list_pop (F.args_list_pop_1 _) (MeetsSeq.list_pop_last l ⇑a n u c (by rw[zM];lia)) #[e,?_]
 show#[y,_,I.lset (its':=a.dropLast) d e ?_ r.dropLast ?_,k,q]
 .change a.toArray.eraseIdxIfInBounds (a.toArray.size-1)=⇑a.dropLast;rw[zM,List.eraseIdxIfInBounds_toArray,oO]
 .rw[uT]
  lia
inductive Ov(x:V)(a:jf)(H:Hp)(Q:VK):Prop
 |mk(l b:_)(_:x=!l)(_:a=[])(_:H l\.lst b)(_:Q .non (upd H l (.lst [])))
def Ks:Op X "list.clear" Ov:=by
 intro d s o H x k v j Q I g f h;let#[l,m,rfl,rfl,c,q]:=h;cases g;let a:=f.zero;subst a;let#[z,b,n,r,i,e]:=I.lstM c;show call_meets F.slot_list_clear #[_,e,Z] F.entry_list_clear (F.args_list_clear_1 _) (AutoSeq1.list_clear_list_0 l ⇑b n (by rw[zM];lia)) #[e,?_]
 show#[.non,_,I.lset (its':=[]) (ys:=[]) c e Z .nil (yZ _),Z,q]
inductive II(x y:V)(H:Hp)(Q:VK):Prop
 |mk(l b a c:_)(_:x=!l)(_:y=!b)(_:H l\.lst a)(_:H b\.lst c)(_:↑a+↑c<=aq)(_:∀ p,H p=Y'->Q (!p) (upd H p (.lst (a++c))))
theorem Nd:Yz X (binaryOp .Add) II:=by
 intro d s E H x y v u Q I o p h;let#[l,b,B,D,rfl,rfl,j,i,w,q]:=h;cases o;cases p;let#[z,c,n,r,t,e]:=I.lstM j;let#[C,a,A,m,k,f]:=I.lstM i;show PySem.P.add_list e f ?_ (by rw[zM,zM];lia)
 let g:⇑c++⇑a=⇑(c++a):=by simp
 rwa[g,#[.ref _,_,I.lnew (t':=s.toks) (r.append m) (by rw[zG];lia),Z,q _ I.fresh]]
end Tw
namespace Att
open PySem PySem.W PySem.Calls PyProof.Rows
def nZ{P:Params}{h:aD}:∀(c:jz)(d:je),WellAll P h d (c.map WData.int)->IntsAre d c:=by
 intro c
 induction c with
 |nil=>
  intro d w;erw[vI] at w;show .nil
 |cons n c e=>
  intro d w;rw[yL] at w
  cases w with
  |cons a b=>
   cases a;show .cons _ _ (e _ b)
def qc{l:OpenLaw}{n:Nat}(v:l.most\n){P:Params}{h:aD}{args:List WData}{e:je}(c:l.row.toRowW.claim.pre args=X')(m:WellAll P h e args):
  ∃ a p b,e=[Value.ref a]/\args=[WData.list (b.map WData.int)]/\h.get? a\{ cls:=.type "list",data:=.seq ⇑p }/\IntsAre p b/\↑b<=n:=by
 let k:WShape.hasAll [] args [.list .int]=X':=(pre_splitW c).1;let o:l.pre.holds [] { args:=args }=X':=(pre_splitW c).2;let#[d,r,rfl,s,t]:=hasAllW_cons k;obtain rfl:=hasAllW_nil t;let#[A,rfl,u]:=hasW_list s;let#[b,rfl]:=items_int u;let g:↑b<=n:=by
  unfold OpenLaw.pre at o;let i:(WTm.not (.lt (.lit (.int (n:Int))) (.len (.arg 0)))).holds [] { args:=[.list (b.map .int)] }=X':=by
   let i:=(holds_andW o).1;rw[v] at i;show i
  let j:=condW_of i (w_not (w_lt w_lit (w_len_list (w_arg Z))));rw[zX] at j;show wT λq=>?_;let x:(n:Int)<((↑b:Nat):Int):=()
  first
   |(rw[aM x] at j;show mZ j (by decide))
   |(simp at j;lia)
 cases m with
 |cons y z=>
  cases z
  cases y with
  |list w f=>show#[_,_,b,Z,Z,w,nZ b _ f,g]
def oQ(l:OpenLaw)(args:List WData):l.row.toRowW.claim.post args (.bool true) args=X':=
 postW_of (r:=l.row.toRowW) (X:=(true==true))
  (show WShape.has [] (.bool true) .bool=X' by first|rfl|decide|simp[WShape.has,WShape.arms,WShape.armsAll])
  (show (WTm.eq .res (.lit (.bool true))).value [] { args:=args,res:=Z' (.bool true),after:=args }\.bool (true==true) from w_eq_bool (w_res Z) w_lit) Z
def attach_call{l:OpenLaw}{n:Nat}{q:am}{c:jv}{E:(jc)->aD->Prop}{F:aw->aD->Prop}{d:DefRec}(S:l.most\n)(z:d.params.defaults=[])(j:∀ (w:aw) (e b:ak) (u C:jc) (k:aj) (o:aI) (D t g:ai) (a:aj) (i:je) (v:jz),
   Ground q c [] E w e u C b.heap->F w b.heap ->
   b.heap.get? k\o->o.data=.func (docDef d.name d.params d.body d.scope D t g)->b.heap.CodeRec t d.name->u d.name=Z' (!k) ->
   b.heap.get? a\{ cls:=.type "list",data:=.seq ⇑i }->IntsAre i v->↑v<=n->b.gens=⇑[] ->
   aG (aA l.prog w) callerA (.call (!k) #[[!a],[]]) (λr x=>r=.ok (.ret (.bool true))/\OldK b.heap x.heap/\x.os=b.os/\AllBare x.gens) b):
  WalkO q c E F l.row.toRowW d [] (λf i=>PySem.call f i):=by
 intro w e b u C G Y k o D t g K kV T O y H A P args J W s I V B Q;obtain rfl:K=.none:=Dflts.none H z;obtain rfl:kV=.none:=Dflts.noKw H;let#[a,i,v,rfl,rfl,p,h,m]:=qc S s B;show enter_call (codeAny_mono (j w e b u C k o D t g a i v G Y T (fd_plain O) y A p h m P) λr x U=>?_);let#[rfl,L,M,N]:=U;show#[.inl #[.bool true,.bool true,[],Z,λ_=>rfl,.bool true,oQ l _,λ_=>#[List.Pairwise.nil,λ_ R=>(nomatch R)]],L,M,N]
section
variable{K:Frag}
def nO(h:aD)(L d:aj):jw:=(zP h.objs.size).filterMap λa=>if a=L\/a=d then Y' else (h.get? a).map λo=>(a,o)
end
end Att
namespace Tw
open PySem PySem.Spec PyProof.Rows
def Lp:∀{b:je}{a:jz},IntsAre b a->ZR (a.map V.int) b:=by intro _ _ h;induction h with
 |nil=>show .nil
 |cons n t _ c=>show .cons #[t,Z] c
def IV(H:Hp):=∀ b,H b=Y'\/∃ o a,H b\.frz o (.lst a)
def uv{P:am}{w:aw}{K:zZ}{M mb:jc}{CX:Wh}{k:Nat}{S a:aj}{fd:ao}{x:Str}{sp:Sp}{c:ak}{y:je}{N:jz}(KX:K.In c.heap)(G:c.heap.Ns ap M)(g:c.heap.Ns builtinsNs mb)(U:∀ x:Str,x≠"__name__"->mb x=ay x)(E:c.heap.NoLimit)(hg:c.gens=⇑[])(Q:c.heap.get? a\{ cls:=.type "list",data:=.seq ⇑y })(hi:IntsAre y N)(hl:↑N<=aq)(hr:Za k callerA)(F:∀ i:aD,K.In i->i.Ns ap M->ZL P w K M i CX k S fd [x] sp)(t:∀ (s:ak) (u:ai),BindsTo s fd #[[u],[]] [(x,u)])(Y:∀ H:Hp,IV H->ZH K H a (N.map V.int)->sp [!a] H (λv _=>v=.bl true) λ_ _ _=>False)(T:∀ H e j,CX [] H c (λ_ _ _=>False) e j->False):
  aG (aA P w) callerA (.call (!S) #[[!a],[]]) (λr j=>r=.ok (.ret (.bool true))/\OldK c.heap j.heap/\j.os=c.os/\AllBare j.gens) c:=by
 let rv:=Lp hi;let L:=↑hi;let p:∀ H:Hp,IV H->ZH K H a (N.map V.int)->YT P w H c.heap->(∀ b,H b≠Y'->b=a)->(H a≠Y'->K.lookup a=Y') ->
   aG (aA P w) callerA (.call (!S) #[[!a],[]]) (λr j=>r=.ok (.ret (.bool true))/\OldK c.heap j.heap/\j.os=c.os/\AllBare j.gens) c:=by
  intro H hO hS I hA hK;let f:∀{b:aj}{o:aI},c.heap.get? b\o->H b=Y'->(UE c.heap H).get? b\o:=λe n=>EQ e n;let a0:∀{b:aj}{o:aI}{C:Array DictEntry}{B:Nat},c.heap.get? b\o->o.data=.dict C B->H b=Y':=fun{b o C B} e d=>by
   cases q:H b with
   |none=>rfl
   |some u=>
    let R:b=a:=hA b (by rw[q];simp)
    subst R;erw[Q] at e;let d':Data.seq ⇑y _=Data.dict C B:=d;cases d'
  let l:∀{b:aj}{m:jc},c.heap.Ns b m->(UE c.heap H).Ns b m:=fun{b m} ⟨o,C,B,e,d,r⟩=>#[o,C,B,f e (a0 e d),d,r];let D:K.In (UE c.heap H):=λb o e=>f (KX b o e) (by
   cases q:H b with
   |none=>rfl
   |some u=>
    let R:b=a:=hA b (by rw[q];simp)
    subst R;erw[hK (by rw[q];simp)] at e)
  let hM:Mod K M (UE c.heap H):=#[D,l G,#[mb,l g,U],let #[mc,h1,h2]:=E;#[mc,l h1,h2]];let e0:Wj P w K M (UE c.heap H) callerA [] c H:=#[Z,hM,λb o e=>E2 e,vW (Er _ _),trivial,λb g=>mZ (show b∈([]:jx) from g) ⋯,I,.of_eq hg]
  show codeAny_mono ((F _ D (l G)).run callerA [] c H #[[!a],[]] [!a] [!a] _ _ hr e0 (t c !a) (.cons Z .nil) (Y H hO hS)) λr j h=>?_
  cases r with
  |error e=>show(T H e j h).elim
  |ok fl=>
   cases fl with
   |next=>show False.elim h
   |brk=>show False.elim h
   |cont=>show False.elim h
   |ret u=>
    let#[v,H',os,A,un,J,r',q]:=h;let q':v=.bl true:=q;subst q';obtain rfl:u=Value.bool true:=r';show#[Z,OldK.of_keep λb o e=>?_,os,A]
    cases q:H b with
    |none=>show un.keep b o e q (by intro z;show mZ (show b∈([]:jx) from z) ⋯) ⋯
    |some u=>
     rcases hO b with z|⟨ob,xs,z⟩
     .erw[q] at z
     .let z2:=un.frzs b ob _ z;let#[e1,_]:=I b _ z;let#[e2,_]:=J b _ z2;erw[e] at e1;show e2
 cases X:K.lookup a with
 |some o=>
  let e:=KX a o X;erw[Q] at e;show p (λ_=>Y') (λ_=>.inl Z) (.inr #[_,⇑y,_,X,Z,Z,Z,#v[zM,L,hl],#v[rv]]) (λb u z=>by let O:(Y':Option HO)\u:=z;cases O) (λb z=>mZ Z z) λz=>mZ Z z
 |none=>
  show p (λb=>if b=a then Z' (.frz { cls:=.type "list",data:=.seq ⇑y } (.lst (N.map V.int))) else Y') (λb=>?_) (.inl (.inr #[{ cls:=.type "list",data:=.seq ⇑y },aP Z])) (λb u z=>?_) (λb z=>?_) λ_=>X
  .by_cases g:b=a
   .show .inr #[_,_,aP g]
   .show .inl (aO g)
  .by_cases g:b=a
   .let O:=(aP g).symm|||z;cases O;subst g;show#[Q,#v[zX,hl],y,_,rv,Q]
   .let O:=(aO g).symm|||z;cases O
  .by_cases g:b=a
   .show g
   .show mZ (aO g) z
abbrev nM{K:zZ}{h:aD}(_:K.In h):zZ:=K
def nN{l:tK}{n k:Nat}{q:am}{loose:jv}{XP:(jc)->aD->Prop}{YP:aw->aD->Prop}{d:DefRec}{K:Params->zZ}{CX:aw->Wh}{sp:aw->Sp}{x:Str}(hn:l.most\n)(hn2:n<=aq)(hdf:d.params.defaults=[])(hr:Za k callerA)(hY:∀ (w:aw) (h:aD),YP w h->(K w.params).In h)(F:∀ (w:aw) (m:jc) (t:aj) (h:aD),(K w.params).In h->h.Ns ap m->m d.name=Z' (!t) ->
   ∃ z:ao,(∀ (s:ak) (u:ai),BindsTo s z #[[u],[]] [(x,u)]) /\
    ∀ c:aD,(K w.params).In c->c.Ns ap m->ZL l.prog w (K w.params) m c (CX w) k t z [x] (sp w))(hsp:∀ (w:aw) (H:Hp) (a:aj) (y:jz),↑y<=n->IV H->ZH (K w.params) H a (y.map V.int)->sp w [!a] H (λv _=>v=.bl true) λ_ _ _=>False)(hCX:∀ (w:aw) (H:Hp) (s:ak) (e:ai) (B:ak),CX w [] H s (λ_ _ _=>False) e B->False):
  qY q loose XP YP l.row.toRowW d [] (λf E=>PySem.call f E):=by
 show Att.attach_call hn hdf λw D r m U t o X Q I a E y G Y S R O A p j i P=>?_;let C:=hY w _ Y;let#[z,N,J]:=F w m t _ C G.T.g A;show uv C G.T.g G.T.b G.T.builtins G.T.nolimit P p j (zR i hn2) hr J N (λH L M=>hsp w H a y i L M) λH e B=>hCX w H r e B
noncomputable def XR(s:aC)(j:Nat):Stmt:=match s with
 |.ClassDef _ _ _ a _ _ _ _ _ _ _=>a.getD j (.Pass #[(0),(0),(0),(0)])
 |_=>.Pass #[(0),(0),(0),(0)]
def V5(s:aC):Arguments:=match s with
 |.FunctionDef _ a _ _ _ _ _ _ _ _=>a
 |_=>{ posonlyargs:=[],args:=[],vararg:=Y',kwonlyargs:=[],kw_defaults:=[],kwarg:=Y',defaults:=[] }
def WE(s:aC):List Stmt:=match s with
 |.FunctionDef _ _ b _ _ _ _ _ _ _=>b
 |_=>[]
noncomputable def Zd(s:aC):Scope:=match s with
 |.FunctionDef _ _ _ _ _ _ a _ _ _=>a
 |_=>{ kind:=.function,names:=[],isGenerator:=false,isCoroutine:=false }
abbrev ZZ:Wh:=λ_ _ _ _ _ _=>False
abbrev E0:XK:=λ_ _ _=>False
def YX{X:Cx}:VW ZZ X E0:=λ_ _ _ _ _ _ _ h=>h.elim
structure Zj(K:zZ)(x qual:Str)(st:aC)(f:aj)(fd:ao):Prop where
 ex:∃(oc:ai)(od:jB)(kV doc pm:ai)(an:jB)(cdv ct:ai)(osl:Array (jd)),
  fd=xZ x qual (V5 st) (WE st) (Zd st) .none kV doc pm an cdv ct/\K.lookup f\#[oc,od,.func fd,osl]/\xE K cdv qual=X'
 kp:yN K (!f)=X'
def Zj.ok{x b:Str}{g:aC}{f:aj}{o:ao}{N m:jv}{k:Nat}{n:Sp}(F:Zj K x b g f o)(S:ZA N m (Zd g))(l:∀ e H Q E,n e H Q E->↑e=↑m)(d:∀ (c:ai) (A:ax) (a:jF) (s:ak) (H:Hp) (e:jf) (Q:VK) (E:XK),Za k (A.deeper (envOfC b (Zd g) ‹s› f c))->n e H Q E ->
   let X:=(Vn ZZ P w K mg kF N b (Zd g) f c A a s H E).nox;∃ t,Wc X (WE g) t/\t { nx:=λ_ p=>Q .non p,rt:=Q } (start N e) H):-ZL ZZ (k+1) f o m n:=by
 let#[B,C,kV,r,D,z,c,ct,y,rfl,v,i]:=F.ex;show GJ v i S l λA a s H e Q E u j=>?_;let#[t,h,q]:=d c A a s H e Q E u j;show#[t,h.nox,q]
def Zj.ko{x a:Str}{g:aC}{f:aj}{m:ao}{N j:jv}{k:Nat}{l:Sp}(F:Zj K x a g f m)(S:ZA N j (Zd g))(b:∀ (e:ai) (A:ax) (c:jF) (s:ak) (H:Hp) (d:jf) (Q:VK) (E:XK),Za k (A.deeper (envOfC a (Zd g) ‹s› f e))->l d H Q E ->
   let X:=(Vn ZZ P w K mg kF N a (Zd g) f e A c s H E).nox;∃ t,Wc X (WE g) t/\t { nx:=λ_ n=>Q .non n,rt:=Q } (start N d) H)(i:∀ d H Q E,l d H Q E->↑d=↑j:=by intro d _ _ _ h;cases h;(try subst d);rfl):-ZL ZZ (k+1) f m j l:=F.ok S i b
def Zj.binds{x a:Str}{d:aC}{f:aj}{k:ao}{i:jv}(F:Zj K x a d f k)(h:∀ (kV c g:ai) (e:jB) (b ct:ai) (j:je),↑j=↑i->bindArgs (xZ x a (V5 d) (WE d) (Zd d) .none kV c g e b ct) #[j,[]]=pure (i.zip j)):Z9 K k i []:=by
 let#[o,p,kV,c,g,e,b,ct,m,rfl,n,l]:=F.ex;show .all (h kV c g e b ct)
def Vl{x a:Str}{st:aC}{f:aj}{i:ai}{j g:jB}{e:Array (jd)}{kV d h b ct:ai}(l:K.lookup f\#[i,j,.func (xZ x a (V5 st) (WE st) (Zd st) .none kV d h g b ct),e])(c:xE K b a=X')(k:yN K (!f)=X'):Zj K x a st f (xZ x a (V5 st) (WE st) (Zd st) .none kV d h g b ct):=#[#[i,j,kV,d,h,g,b,ct,e,Z,l,c],k]
def VN{A:ax}{k:Nat}(a:Za k A):A.units+1<cLine:=xO (tF (by decide:1<=64) _) a.units
def YM{n:Nat}(h:n<=1000):n<sizeLine:=xO h (by decide)
def pv(i:Nat){x:Str}{pos:aJ}(b:X.N[i]?\x:=by rfl)(d:K2 X.env.scope x:=by first|show Or.inl rfl|show Or.inr (Or.inl Z)|show Or.inr (Or.inr Z))(c:(x==("__debug__":Str))=false:=by decide)(a:(x==("__classdict__":Str))=false:=by decide):PE X (.Name x pos) (QA i):=Cc b d c a
def Zp{A B:Prop}(h:B):if false=X' then A else B:=by
 rwa[aO zN,h]
def YA{A B:Prop}(h:A):if true=X' then A else B:=by
 rwa[aP Z,h]
def XJ{c A B:Prop}[Decidable c](a:c->A)(b:¬ c->B):if c then A else B:=by
 by_cases h:c
 .rwa[aP h,a h]
 .rwa[aO h,b h]
def Mw{c A B:Prop}[Decidable c](a:c)(h:B):if (!ng c)=X' then A else B:=by
 rwa[aM a,Zp h]
def ZC(H a:Hp):=∀ b o,H b\o->a b\o
def ZC.refl(H:Hp):ZC H H:=λ_ _ h=>h
def ZC.trans{H d e:Hp}(a:ZC H d)(b:ZC d e):ZC H e:=λc o h=>b c o (a c o h)
def ZC.free{H a:Hp}(e:ZC H a){l:aj}(h:a l=mT):H l=mT:=by
 cases q:H l with
 |none=>rfl
 |some o=>
  erw[e l o q] at h
def ZC.seq{K:zZ}{H b:Hp}{a:aj}{c:jf}(e:ZC H b)(h:ZH K H a c):ZH K b a c:=by
 rcases h with (h|⟨o,h⟩)|h
 .show .inl (.inl (e _ _ h))
 .show .inl (.inr #[o,e _ _ h])
 .show .inr h
section
variable{R:Result->ak->Prop}
def EJ{elt target iter:Expr}{ifs:jC}{scope:aE}{pos:aJ}{it acc:ai}{env:Env}(I:Nat->ak->Prop)(turn:∀ n s,I n s->aB ↥_ A (pyNext it) (λr d=>match r with
   |none=>R (.ok .next) d
   |some v=>aB ↥_ A (letOwnedTupleGo target it v) (λ_ j=>aB ↥_ A (assign target env v) (λ_ k=>
     aB ↥_ A (forIn ifs true λc r=>if r=X' then do let y<-isTrue c env (aH c env);pure (ForInStep.yield y) else pure (ForInStep.yield r)) (λy f=>
      if y=X' then aB ↥_ A (aH elt env) (λx l=>
       aB ↥_ A (call (.builtin "list.append") [acc,x]) (λ_ o=>∃ m,m<n/\I m o) (notedBy ↥_ A env λe b=>R (.error e) b) l) (notedBy ↥_ A env λe b=>R (.error e) b) f
      else ∃ m,m<n/\I m f) (notedBy ↥_ A env λe b=>R (.error e) b) k) (notedBy ↥_ A env λe b=>R (.error e) b) j) (notedBy ↥_ A env λe b=>R (.error e) b) d) (notedBy ↥_ A env λe b=>R (.error e) b) s)(n:Nat)(h:I n s):
  aG ↥_ A (.compLoop (.ListComp elt [#[target,iter,ifs,(0)]] scope pos) 0 it acc env) R s:=by
 show codeAny_loop Z I (λn s z=>?_) n h;change aB _ A ((compTurn (.ListComp elt [#[target,iter,ifs,(0)]] scope pos) 0 it acc env).onRaise (λx=>do noteFrame x env;theTreesLotGoes x)) _ _ s
 show wpAny_noted ?_;rw[compTurn_list];show aa (ah (aa (ae (turn n s z) (λr d g=>?_) λ_ _ a=>a)))
 cases r with
 |none=>show ad g
 |some v=>
  show aa (ae g (λ_ j p=>?_) λ_ _ a=>a);show aa (ae p (λ_ k q=>aa (ae q (λy f i=>?_) λ_ _ a=>a)) λ_ _ a=>a)
  cases y with
  |false=>show ad #[Z,i]
  |true=>
   show aa (aa (ae i (λx l t=>aa (ae t (λ_ o u=>ad (ad #[Z,u])) λ_ _ a=>a)) λ_ _ a=>a))
end
noncomputable def X9(b:Env)(l:List (Str×NameKind)):jG->jG:=λa=>l.foldl (λa p=>if p.2==.free then (p.1,(b.cells.lookup p.1).getD 0)::a else a) a
def M0(a:Env)(l:List (Str×NameKind)):=∀ p∈l,p.2=.free->∃ c,a.cells.lookup p.1\c
def Hi{b:Env}{d:aE}(h:M0 b d.names):closureFor d b=pure (X9 b d.names []):=by
 let i:∀(l:List (Str×NameKind))(f:jG),M0 b l->(forIn l f λx r=>if (x.2==.free)=X' then do let a<-cellOf b x.1;pure (ForInStep.yield ((x.1,a)::r)) else pure (ForInStep.yield r):Sem (jG))=pure (X9 b l f):=by
  intro l
  induction l with
  |nil=>intro f _;rfl
  |cons p r n=>
   intro f j;let e:X9 b (p::r) f=X9 b r (if p.2==.free then (p.1,(b.cells.lookup p.1).getD 0)::f else f):=rfl
   rw[List.forIn_cons,e]
   cases o:(p.2==NameKind.free) with
   |true=>
    let#[c,m]:=j p zT (eq_of_beq o);let g:cellOf b p.1=pure c:=by unfold cellOf;rw[m]
    simp only[if_true,g,pure_bind];rw[n _ λq k=>j q (zE _ k),m];rfl
   |false=>
    simp only[vO,if_false,pure_bind];show n _ λq k=>j q (zE _ k)
 have:=i d.names [] h;simpa [closureFor] using this
theorem Ea{a:Env}:∀{l:List (Str×NameKind)}{b:jG}{x:Str}{c:aj},M0 a l->(X9 a l b).lookup x\c->b.lookup x\c\/a.cells.lookup x\c
 |[],_,_,_,_,h=>.inl h
 |p::r,b,x,c,hf,h=>by
  let i:(X9 a r (if p.2==.free then (p.1,(a.cells.lookup p.1).getD 0)::b else b)).lookup x\c:=h
  rcases Ea (λq j=>hf q (zE _ j)) i with q|q
  .cases f:(p.2==NameKind.free) with
   |true=>
    rw[f,aP rfl,xB] at q
    cases e:x==p.1 with
    |true=>
     rw[e] at q;let#[d,g]:=hf p zT (eq_of_beq f);show .inr ?_;rw[eq_of_beq e,g];rw[g] at q;show q
    |false=>
     rw[e] at q;show .inl q
   |false=>
    rw[f,aO zN] at q;show .inl q
  .show .inr q
theorem E8{a:Env}{x:Str}:∀{l:List (Str×NameKind)}{b:jG},(b.lookup x).isSome=X'->((X9 a l b).lookup x).isSome=X'
 |[],_,h=>h
 |p::r,b,h=>by
  change ((X9 a r (if p.2==.free then (p.1,(a.cells.lookup p.1).getD 0)::b else b)).lookup x).isSome=X'
  show E8 ?_
  cases c:(p.2==NameKind.free) with
  |true=>
   rw[aP rfl,xB]
   cases e:x==p.1 with
   |true=>rfl
   |false=>show h
  |false=>rwa[aO zN,h]
theorem Fd{a:Env}{x:Str}:∀{l:List (Str×NameKind)}{b:jG},(x,NameKind.free)∈l->((X9 a l b).lookup x).isSome=X'
 |[],_,h=>by cases h
 |p::r,b,h=>by
  change ((X9 a r (if p.2==.free then (p.1,(a.cells.lookup p.1).getD 0)::b else b)).lookup x).isSome=X'
  rcases zD.mp h with e|h
  .subst e;show E8 ?_;change (xH x ((x,(a.cells.lookup x).getD 0)::b)).isSome=X';rw[xB,beq_self_eq_true];rfl
  .show Fd h
def Ya(a:Env)(b:jG):=∀ x c,b.lookup x\c->a.cells.lookup x\c
def Ya.get{a:Env}{b:jG}{x:Str}{c:aj}(h:Ya a b)(e:b.lookup x\c):a.cells.lookup x\c:=h x c e
def HY{a:Env}{l:List (Str×NameKind)}(h:M0 a l):Ya a (X9 a l []):=λx c e=>by
 rcases Ea h e with q|q
 .cases q
 .show q
theorem CI{env:Env}:∀{names:List (Str×NameKind)}{x:Str},names.lookup x=Z' .free ->
  (names.map fun(n,k)=>if (k==NameKind.free&&env.scope.kind==.function&&env.kindOf n==Z' .cell) then (n,NameKind.cell) else (n,k)).lookup x=Z' .cell \/
  (names.map fun(n,k)=>if (k==NameKind.free&&env.scope.kind==.function&&env.kindOf n==Z' .cell) then (n,NameKind.cell) else (n,k)).lookup x\.free
 |[],_,h=>by simp at h
 |(n,k)::r,x,h=>by
  rw[xB] at h;simp only[yL]
  cases a:x==n with
  |true=>
   erw[a] at h;split
   .show .inl (by rw[xB,a])
   .show .inr (by rw[xB,a])
  |false=>
   rw[a] at h;let b:=CI (env:=env) h;split
   .rwa[xB,a,b]
   .rwa[xB,a,b]
theorem Ff{env:Env}:∀{names:List (Str×NameKind)}{x:Str},(∀ y∈names,y.2≠.cell) ->
  ((names.map fun(n,k)=>if (k==NameKind.free&&env.scope.kind==.function&&env.kindOf n==Z' .cell) then (n,NameKind.cell) else (n,k)).lookup x=Z' .cell \/
  (names.map fun(n,k)=>if (k==NameKind.free&&env.scope.kind==.function&&env.kindOf n==Z' .cell) then (n,NameKind.cell) else (n,k)).lookup x\.free)->(x,NameKind.free)∈names
 |[],_,_,h=>by simp at h
 |(n,k)::r,x,hc,h=>by
  let e:∀ y∈r,y.2≠.cell:=λy f=>hc y (zE _ f);simp only[yL] at h
  cases b:x==n with
  |true=>
   let c:=eq_of_beq b;subst c;by_cases a:k=.free
   .subst a;show zT
   .let d:(k==NameKind.free)=false:=#v[a]
    simp only[d,tP,vO,if_false,xB,beq_self_eq_true] at h;rcases h with h|h
    .show mZ (zB.inj h) (hc _ zT)
    .show mZ (zB.inj h) a
  |false=>
   show zE _ (Ff (env:=env) e ?_);split at h
   .simpa only [xB,b] using h
   .simpa only [xB,b] using h
def YE(X:Cx)(a:aE):jq->jv->Prop
 |[],[]=>True
 |i::is,y::ys=>X.N[i]?\y/\(X.env.kindOf y\.cell\/X.env.kindOf y\.free)/\a.names.lookup y\.free/\YE X a is ys
 |_,_=>False
theorem YE.len{X:Cx}{a:aE}:∀{b:jq}{c:jv},YE X a b c->↑b=↑c
 |[],[],_=>rfl
 |_::_,_::_,h=>congrArg (· + 1) h.2.2.2.len
theorem YE.get{X:Cx}{a:aE}:∀{b:jq}{c:jv}{j:Nat}{y:Str},YE X a b c->c[j]?=Z' y ->
  ∃ i,b[j]?\i/\X.N[i]?\y/\(X.env.kindOf y\.cell\/X.env.kindOf y\.free)/\a.names.lookup y\.free
 |[],[],_,_,_,h=>by simp at h
 |i::_,z::_,0,y,f,h=>by
  simp at h;subst h;show#[i,Z,f.1,f.2.1,f.2.2.1]
 |_::b,_::c,j+1,y,f,h=>by
  let#[i,e,r]:=YE.get (j:=j) f.2.2.2 #v[h]
  show#[i,#v[e],r]
noncomputable def Ym(X:Cx)(N:jv)(a:aE)(b:jG)(C:aj)(s:ak)(H:Hp)(c:jx)(E:ja):Cx where
 prog:=X.prog
 w:=X.w
 K:=X.K
 mg:=X.mg
 base:=X.base
 A:=X.A
 N:=N
 s₀:=s
 H₀:=H
 env:=compEnvC a b C X.env
 outer:=X.stack
 stack:=X.stack
 ex:=c
 fn:=λ_=>false
 calm:=X.calm
 pn:=[]
 xe:=E
noncomputable def Cm(b:St)(a:jq):St:=Y'::a.map λi=>(b[i]?).join
def NJ(b:St)(a:jq)(x:V):St:=Z' x::a.map λi=>(b[i]?).join
def Pk(X:Cx)(b:jC)(e:TT):Prop:=
 ∀(a:jw)(s:ak)(d:St)(H:Hp)(Q:Bool->Hp->Prop),ZF X a d H s->e d H Q ->
  aB ↥X X.A (forIn b true λc r=>if r=X' then do let ok<-isTrue c X.env (aH c X.env);pure (ForInStep.yield ok) else pure (ForInStep.yield r)) (TP X a d Q) X.xe s
def JE:TT:=λ_ H Q=>Q true H
def Ur{X:Cx}:Pk X [] JE:=λ_ _ _ H _ I h=>wpAny_tests_nil #[H,I,h]
def Nt{X:Cx}{c:Expr}{t:TT}(h:PT X c t):Pk X [c] t:=λa s d H Q I b=>wpAny_tests_one (h a s d H Q I b)
def Wu(J:It)(j:St)(h:jq)(l:TT)(k:TE)(e:Hp)(Q:VK):Prop:=
 ∀ D,e D=Y'->∃ W:Nat->Nat->Hp->Prop,(∃ m,W 0 m (upd e D (.lst [])))/\∀ i m H,W i m H ->
  (J.stop i H/\Q (!D) H)\/(J.go i H/\∀ x d,J.yld i H x d->l (NJ j h x) d λc f=>
   if c=X' then k (NJ j h x) f λy g=>∃ b a,g D\.lst b/\↑b<aq/\a<m/\W (i+1) a (upd g D (.lst (b++[y])))
   else ∃ a,a<m/\W (i+1) a f)
def K9(f:TI)(c:jq)(e:TT)(d:TE):TE:=λa H Q=>f a H λJ b=>Wu J a c e d b Q
section
variable{kE:jw}{σ:St}{H:Hp}
def BX{b:jq}{j:Nat}{v:V}(h:(b.map λi=>(σ[i]?).join)[j]?\Z' v):∃ i,b[j]?\i/\σ[i]?\Z' v:=by
 rw[zO] at h
 cases e:b[j]? with
 |none=>erw[e] at h
 |some i=>
  rw[e] at h;let a:(σ[i]?).join\v:=zB.inj h;exists i,Z
  cases q:σ[i]? with
  |none=>erw[q] at a
  |some o=>
   rw[q] at a
   cases o with
   |none=>cases a
   |some z=>cases a;rfl
noncomputable def Ny(a:Env)(l:List (Str×NameKind)):Bool:=l.all λp=>!(p.2==.free)||a.kindOf p.1==Z' .cell||a.kindOf p.1==Z' .free
def JP{X:Cx}{l:List (Str×NameKind)}(a:X.Ok)(h:Ny X.env l=X'):M0 X.env l:=λp c b=>by
 let q:=zF.mp h p c;rw[b] at q;let d:(X.env.kindOf p.1==Z' .cell||X.env.kindOf p.1==Z' .free)=X':=#v[q]
 rcases Bool.or_eq_true_iff.mp d with q|q
 .show a.has p.1 (.inl (eq_of_beq q))
 .show a.has p.1 (.inr (eq_of_beq q))
noncomputable def Ou(a:aE)(x:Str):Bool:=a.kind==.function&&a.names.lookup x==Z' .local&&a.names.all (λp=>!(p.2==.cell))&&a.names.all (λp=>!(p.2==.local)||a.names.lookup p.1==Z' .local)
structure Pe(scope:aE)(x:Str):Prop where
 kind:scope.kind=.function
 own:scope.names.lookup x\.local
 cell:∀ y∈scope.names,y.2≠.cell
 names:∀ y∈scope.names,y.2=.local->scope.names.lookup y.1\.local
def MB{a:aE}{x:Str}(h:Ou a x=X'):Pe a x:=by
 unfold Ou at h;rw[zQ,zQ,zQ] at h;let#[#[#[c,d],e],f]:=h;show#[eq_of_beq c,eq_of_beq d,λy b z=>?_,λy b z=>?_]
 .have:=zF.mp e y b;erw[z] at this
 .have:=zF.mp f y b;rw[z] at this;let q:(a.names.lookup y.1==Z' NameKind.local)=X':=#v[this]
  show eq_of_beq q
def JR{a:aE}{b:Env}(d:∀ y∈a.names,y.2≠.cell)(y:Str)(h:(relabel a b).names.lookup y\.cell\/(relabel a b).names.lookup y\.free):∃ c,(X9 b a.names []).lookup y\c:=
 qK.mp (Fd (Ff d h))
def G7(i:Nat)(t:TE):TS:=λD σ H=>t σ H λv a=>D.nx (σ.set i (Z' v)) a
end
noncomputable def KO(b:jv)(c:St)(a:jq):St:=b.map (λ_=>(Y':jg))++a.map λi=>(c[i]?).join
def Ky(J:It)(k:Nat)(g:nI)(p:St)(n:jq)(s:TT)(r:TE)(h:Hp)(Q:VK):Prop:=
 ∀ D,h D=Y'->∃ W:Nat->Nat->Hp->Prop,(∃ m,W 0 m (upd h D (.lst [])))/\∀ i m H,W i m H ->
  (J.stop i H/\Q (!D) H)\/(J.go i H/\∀ x f,J.yld i H x f->∀ o:St,↑o=k->g x (o++n.map λi=>(p[i]?).join) f λa q=>(∃ d:St,↑d=k/\a=d++n.map λi=>(p[i]?).join)/\s a q λc j=>
   if c=X' then r a j λy l=>∃ e b,l D\.lst e/\↑e<aq/\b<m/\W (i+1) b (upd l D (.lst (e++[y])))
   else ∃ b,b<m/\W (i+1) b j)
def Cu(k:Nat)(g:nI)(f:TI)(c:jq)(e:TT)(d:TE):TE:=λa H Q=>f a H λJ b=>Ky J k g a c e d b Q
section
variable{kE:jw}{σ:St}{H:Hp}
def Ey{xs J:jv}{G:jq}{a:aE}{K:jG}{fp:jx}{E:ja}{g:aD}{D C n tk:Nat}{m:jc}(I:ZF X kE σ H s)(M:∀ b∈fp,VS X kE H b/\b<‹s›)(f:Ya X.env K)(A:a.kind=.function)(t:∀ y,((relabel a X.env).names.lookup y\.cell\/(relabel a X.env).names.lookup y\.free)->∃ c,K.lookup y\c)(fo:YE X a G J)(L:‹s›<=D)(Q:‹s›<=C)(R:D≠C)(S:g.Ns C m)(k:∀ b o,s.heap.get? b\o->g.get? b\o)(hd:g.get? D\{ cls:=.type "list",data:=.seq ⇑([]:je) n }):
  ZF (Ym X (xs++J) a K C s H fp E) [] (KO xs σ G) (upd H D (.lst [])) { s with heap:=g,toks:=tk }:=by
 let d:∀ y c,K.lookup y\c->c<‹s›:=λy c e=>by
  let#[v,q]:=I.cell y c (f.get e);show q.lt
 show#[#[I.ok.mod,A,I.ok.glob,I.ok.blt,Q,λy z c h1 h2=>I.ok.inj y z c (f.get h1) (f.get h2),t,λy c h _=>mZ h (by simp[Ym]),I.ok.hd,I.ok.frames,.inl Z,λb F=>#[?_,λy c e=>?_],I.bs,zR I.ok.bsz I.sz,λb o e F=>?_,λb F z=>?_,I.stack,I.stkFree],
  Z,I.bare,Un.laid k L (I.hok.fresh L),#[m,S,λj y v e1 Y B=>?_],λy c e=>?_,?_,λy c e=>?_,λp hp=>mZ (show p∈([]:jw) from hp) ⋯,I.hok.laid k L ?_,?_]
 .show zJ (yV (M b F).2 Q)
 .show(M b F).1.2.2.2.2.1 y c (f.get e)
 .let#[_,_,_,z,_]:=(M b F).1;rcases z with z|z
  .show I.ok.noex b o e z
  .show mZ (yV (zU (I.ok.bs b o e).1) z) (wV _)
 .let#[_,z1,z2,_]:=(M b F).1;rcases zD.mp (I.stkSub b z) with q|q
  .show z1 q
  .show z2 q
 .by_cases N:j<↑xs
  .exfalso
   let B:(xs.map (λ_=>(Y':jg))++G.map λi=>(σ[i]?).join)[j]?\Z' v:=Y;rw[wP #v[zX,N],zO,zW N] at B
   cases B
  .let W:(xs++J)[j]?\y:=e1;let O:J[j-↑xs]?\y:=by rw[wY (wT N)] at W;show W
   let B:(xs.map (λ_=>(Y':jg))++G.map λi=>(σ[i]?).join)[j]?\Z' v:=Y;let P:(G.map λi=>(σ[i]?).join)[j-↑xs]?\Z' v:=by
    rw[wY #v[zX,wT N],zX] at B
    show B
   let#[i,q1,q2]:=BX P;let#[i',p1,p2,w,U]:=fo.get O;erw[q1] at p1;let p4:(relabel a X.env).names.lookup y\.cell\/(relabel a X.env).names.lookup y\.free:=CI U;let#[c,p5]:=t y p4;let#[m0,a0,hl]:=I.loc;let#[u,r,l]:=hl i y v p2 q2 (.inr w);show#[u,r,.inr #[p4,c,p5,?_]];rcases l with ⟨l1,_⟩|⟨_,c',l2,l3⟩
   .rcases w with w|w
    .erw[l1] at w
    .erw[l1] at w
   .erw[f.get p5] at l2;let#[o,T,x]:=l3;show#[o,k _ _ T,x]
 .let#[v,o,T,x]:=I.cell y c (f.get e);show#[v,o,k _ _ T,x]
 .change upd H D (.lst []) C=Y';rwa[ZM (Ne.symm R),I.hok.fresh Q]
 .change upd H D (.lst []) c=Y';rwa[ZM (zJ (yV (d y c e) L)),I.freeC y c (f.get e)]
 .show#[yZ _,[],n,.nil,hd]
 .change ↑(KO xs σ G)=↑(xs++J);unfold KO;rw[zG,zX,zX,fo.len,zG]
def E7(k:Nat)(c:jq)(σ a:St):=∃ b:St,↑b=k/\a=b++c.map λi=>(σ[i]?).join
inductive IJ(Y:Cx)(k:Nat)(f:jq)(σ:St)(g:Nat->aD->Prop)(e:jx)(W:Nat->Nat->Hp->Prop)(n:Nat)(d:ak):Prop
 |mk(i:Nat)(a:St)(c:Hp):ZF Y [] a c d->E7 k f σ a->g i d.heap->(∀ b∈e,c b=Y')->W i n c->IJ Y k f σ g e W n d
theorem C3{elt iter tg:Expr}{xs:jv}{g:nI}{ifs:jC}{scope:aE}{cl:jG}{pos:aJ}{ix:jq}{ys:jv}{tt:TT}{te:TE}{it:aj}{fp:jx}{tn:Nat->aD->Prop}{J:It}{Q:VK}{E:ja}{RR:ai->aj->Result->ak->Prop}(hc:X.calm=X')(hg:∀ C s H fp E,PG (Ym X (xs++ys) scope cl C s H fp E) tg g)(ht:∀ C s H fp E,Pk (Ym X (xs++ys) scope cl C s H fp E) ifs tt)(he:∀ C s H fp E,PE (Ym X (xs++ys) scope cl C s H fp E) elt te)(sub:Ya X.env cl)(jn:scope.kind=.function)(jp:∀ y∈scope.names,y.2≠.cell)(hhas:∀ y,((relabel scope X.env).names.lookup y\.cell\/(relabel scope X.env).names.lookup y\.free)->∃ c,cl.lookup y\c)(fo:YE X scope ix ys)(I:ZF X kE σ H s)(T:Vm X.prog X.w X.K tg J fp it tn)(st:tn 0 s.heap)(hf:∀ b∈fp,VS X kE H b)(q:Ky J ↑xs g σ ix tt te H Q)(hRR:∀ D C s' H' m,‹s›<=C->ZF X kE σ H' s'->VS X kE H' C->s'.heap.Ns C m->Q (!D) H'->RR (!D) C (.ok .next) s'):
  aB ↥X X.A (newList []) (λacc s₃=>aB ↥X X.A (newFunctionEnv scope X.env.globals cl [] X.env.qual Y' .none (Z' X.env)) (λcenv s₄=>
   aG ↥X X.A (.compStart (.ListComp elt [#[tg,iter,ifs,(0)]] scope pos) 0 (!it) acc { cenv with scope:=relabel scope X.env }) (RR acc cenv.locals) s₄) E s₃) E s:=by
 show wpAny_newObj_type (wpAny_newFunctionEnv jp (by intro y hy;simp at hy) (λh₁ hns₁ hsb₁=>?_) jn)
 dsimp only at hns₁ hsb₁⊢;generalize hH2:s.heap.push { cls:=.type "list",dict:=Y',data:=.seq ⇑([]:je) }=H2 at hns₁ hsb₁⊢;let hC:H2.objs.size=‹s›+1:=by rw[<-hH2,vE]
 let hDC:‹s›≠H2.objs.size:=#v[hC,zJ (yA _)]
 let hCle:‹s›<=H2.objs.size:=#v[hC,xW _]
 let below:∀ b,b<‹s›->b≠H2.objs.size/\b≠‹s›:=λb hb=>#[#v[hC,zJ (uQ hb)],zJ hb]
 let old:∀ b o,s.heap.get? b\o->h₁.get? b\o:=λb o e=>hsb₁.extBut b o (below b (zU e)).1 (zS _ (hH2▸zS _ e));let hacc:∃ n,h₁.get? ‹s›\{ cls:=.type "list",data:=.seq ⇑([]:je) n }:=#[_,hsb₁.extBut _ _ hDC (zS _ (hH2▸yS _ Z))];let#[nD,hacc]:=hacc;let hf':∀ b∈fp,VS X kE H b/\b<‹s›:=λb hb=>#[hf b hb,by let#[o,e,_]:=T.obj 0 _ st b hb;show zU e]
 let hDn:H ‹s›=Y':=I.hok.fresh (zY _);let#[W,#[m0,w0],turn]:=q _ hDn;generalize hE:notedBy ↥X X.A (compEnvC scope cl H2.objs.size X.env) (λe s'=>RR (.ref ‹s›) H2.objs.size (.error e) s')=EE;let I0:ZF (Ym X (xs++ys) scope cl H2.objs.size s H fp EE) [] (KO xs σ ix) (upd H ‹s› (.lst [])) { s with heap:=h₁,toks:=s.toks+↑([]:jO) }:=
  Ey I hf' sub jn hhas fo (zY _) hCle hDC hns₁ old hacc
 let st1:tn 0 h₁:=T.keep _ _ _ st λb _ o e=>old b o e;let fr1:∀ b∈fp,upd H ‹s› (.lst []) b=Y':=λb hb=>#v[ZM (below b (hf' b hb).2).2,(hf b hb).1]
 let stat:∀{H':Hp},(∀ b∈fp,H' b=Y')->∀ b∈fp,VS (Ym X (xs++ys) scope cl H2.objs.size s H fp EE) [] H' b:=λhn b hb=>
  #[hn b hb,(I0.ok.exf b hb).1,I0.ok.exfs b hb,.inl hb,(I0.ok.exf b hb).2,λp hp=>mZ (show p∈([]:jw) from hp) ⋯]
 let loop:∀ s₃:ak,s₃={ s with heap:=h₁,toks:=s.toks+↑([]:jO) } ->
   aG ↥X X.A (.compLoop (.ListComp elt [#[tg,iter,ifs,(0)]] scope pos) 0 (!it) (.ref ‹s›) (compEnvC scope cl H2.objs.size X.env)) (RR (.ref ‹s›) H2.objs.size) s₃:=by
  rintro s₃ rfl;show EJ (IJ (Ym X (xs++ys) scope cl H2.objs.size s H fp EE) ↑xs ix σ tn fp W) ?_ m0 #[(0),_,_,I0,#[_,zX _,Z],st1,fr1,w0];rintro n s3 ⟨i,σ3,H3,I3,⟨o3,ho3,hσ3⟩,st3,fr3,w3⟩;rw[hE];rcases turn i n H3 w3 with ⟨stop,qn⟩|⟨go,step⟩
  .show Z0 (T.done (Ym X (xs++ys) scope cl H2.objs.size s H fp EE) Z Z Z hc i [] s3 σ3 H3 EE I3 (stat fr3) st3 stop) ?_;rintro r s4 ⟨hr,I4⟩;subst hr;let#[m4,hn4,_]:=I4.loc;let Ix:ZF X kE σ H3 s4:=I.call' (s':=s4) (ch:=fp) I4.os I4.base I4.hok I4.bare λb hb=>by
    let#[_,z1,_,z3,z4,z5]:=hf b hb;show#[z3,z1,z4,z5]
   show hRR _ _ s4 H3 m4 hCle Ix (I.fpOk hCle I4.free) hn4 qn
  .show Z0 (T.item (Ym X (xs++ys) scope cl H2.objs.size s H fp EE) Z Z Z hc i [] s3 σ3 H3 EE I3 (stat fr3) st3 go) ?_;rintro r s4 ⟨u,hr,h4⟩;subst hr;show Z0 h4 ?_;rintro _ s5 ⟨xv,H5,I5,r5,y5,st5,fr5⟩;let I5':=I5.pinned (stat fr5) (T.obj _ _ st5);let again:∀{σ7:St}{H7:Hp}{s7:ak}{m':Nat},ZF (Ym X (xs++ys) scope cl H2.objs.size s H fp EE) ([]++Nz fp s5.heap) σ7 H7 s7->E7 ↑xs ix σ σ7->m'<n->W (i+1) m' H7 ->
     ∃ m,m<n/\IJ (Ym X (xs++ys) scope cl H2.objs.size s H fp EE) ↑xs ix σ tn fp W m s7:=fun{σ7 H7 s7 m'} I7 e7 hm w7=>by
    show#[m',hm,.mk (i+1) σ7 H7 I7.unpinned e7 (T.keep _ _ _ st5 λb hb o e=>(I7.pin (b,o) (yF _ (yF _ (Nn hb e)))).1) (λb hb=>?_) w7];let#[o,e,d]:=T.obj _ _ st5 b hb;show(I7.pin (b,o) (yF _ (yF _ (Nn hb e)))).2.1
   let stp:=step xv _ y5 o3 ho3;rw[<-hσ3] at stp;show Z0 (hg _ _ _ _ _ _ s5 σ3 H5 xv u _ I5' r5 stp) ?_;rintro _ s6 ⟨σ6,H6,I6,e6,q6⟩;show Z0 (ht _ _ _ _ _ _ s6 _ _ _ I6 q6) ?_;rintro ok s7 ⟨H7,I7,q7⟩
   cases ok with
   |false=>
    rw[aO zN] at q7⊢;let#[m',hm,w7]:=q7;show again I7 e6 hm w7
   |true=>
    rw[aP rfl] at q7⊢;show Z0 (he _ _ _ _ _ _ s7 _ _ _ I7 q7) ?_;rintro y s8 ⟨yv,H8,I8,r8,ys8,m',e8,z8,hm,w8⟩;show Z0 (V9 _ s8 _ H8 (.ref ‹s›) [yv] (.ref ‹s›) [y] (λ_ H9=>W (i+1) m' H9) I8 Z (.cons r8 .nil) #[_,ys8,yv,Z,Z,e8,z8,w8]) ?_;rintro _ s9 ⟨_,H9,I9,_,w9⟩;show again I9 e6 hm w9
 show codeAny_compStart_list (loop _ Z) (T.self _ 0 _ _ _ st1 (loop _ Z))
def rz{f c r:Expr}(j:jv)(x:Str){g:nI}{i:jC}{a:aE}{pos:aJ}{z:TI}{y:TT}{u:TE}(t:jq)(k:jv)(hc:X.calm=X')(hg:∀ C s H d E,PG (Ym X (j++k) a (X9 X.env a.names []) C s H d E) r g)(hi:PI X r c z)(ht:∀ C s H d E,Pk (Ym X (j++k) a (X9 X.env a.names []) C s H d E) i y)(he:∀ C s H d E,PE (Ym X (j++k) a (X9 X.env a.names []) C s H d E) f u)(V:YE X a t k)(hk:Ny X.env a.names=X':=by rfl)(n:Ou a x=X':=by rfl)(hs:∀ x,foldedSetIterable c X.env x=pure x:=by intro _;rfl):
  PE X (.ListComp f [#[r,c,i,(0)]] a pos) (Cu ↑j g z t y u):=by
 intro kE s σ H Q I h;let B:=MB n;let F:=JP I.ok hk;rw[eval_ListComp];show wpAny_comprehension_free (use:=Y') Z hs (Hi F) B.kind B.names (Z0 (hi kE s σ H _ I h) λv s1 W=>Z0 W λa0 s2 Y=>?_);let#[it,d,tn,J,H2,e,K,T,p,O,q2]:=Y;subst e;show C3 (RR:=λl C=>compPost ↥X X.A X.xe Y' (EP X kE σ Q) l C) hc hg ht he (HY F) B.kind B.cell (JR B.cell) V K T p O q2 ?_;intro D C s' G m hC L U hn q;show#[m,hn,λh' sb=>#[!D,G,?_,Z,q]];let#[M,N,_,P,R,S]:=U;show L.turned (t':=s'.toks) (λb o n e=>(sb.2 b n)|||e) M N P R S
def EM{f d t:Expr}(u:jv)(x:Str){g:nI}{y:Str}{n:aJ}{j:jC}{c:aE}{pos k:aJ}{wi:TI}{tt:TT}{te:TE}{i:Nat}(Y:jq)(G:jv)(hN:X.N.Nodup)(M:X.N[i]?\y)(W:X.env.scope.names.lookup y\.local)(hc:X.calm=X')(hg:∀ C s H l E,PG (Ym X (u++G) c (X9 X.env c.names []) C s H l E) t g)(hi:PI X t d wi)(ht:∀ C s H l E,Pk (Ym X (u++G) c (X9 X.env c.names []) C s H l E) j tt)(he:∀ C s H l E,PE (Ym X (u++G) c (X9 X.env c.names []) C s H l E) f te)(fo:YE X c Y G)(O:swapsWith (.ListComp f [#[t,d,j,(0)]] c pos) (Z' (.Name y n)) k.line X.env=pure true:=by rfl)(hk:Ny X.env c.names=X':=by rfl)(L:Ou c x=X':=by rfl)(hs:∀ x,foldedSetIterable d X.env x=pure x:=by intro _;rfl):
  PS X (.Assign [.Name y n] (.ListComp f [#[t,d,j,(0)]] c pos) k) (G7 i (Cu ↑u g wi Y tt te)):=by
 intro kE s σ H D I h;let B:=MB L;let F:=JP I.ok hk;rw[exec_Assign_Name_used _ _ _ _ O];show aa (ah (aa ?_));change aB _ X.A (do let _<-comprehension (.ListComp f [#[t,d,j,(0)]] c pos) c X.env _ (newList []) false (aH d X.env) (Z' (assign (.Name y n) X.env))) _ _ s
 show aa (ae (wpAny_comprehension_free (use:=Z' (assign (.Name y n) X.env)) (Q:=λ_ r=>SP X kE D .next r) Z hs (Hi F) B.kind B.names
  (Z0 (hi kE s σ H _ I h) λv s1 h1=>Z0 h1 λa0 s2 h2=>?_)) (λ_ r hq=>ad (ad hq)) λ_ _ e=>e)
 let#[it,l,tn,J,H2,e,I2,T,R,f2,q2]:=h2;subst e;show C3 (RR:=λK C=>compPost ↥X X.A X.xe (Z' (assign (.Name y n) X.env)) (λ_ r=>SP X kE D .next r) K C) hc hg ht he (HY F) B.kind B.cell (JR B.cell) fo I2 T R f2 q2 ?_;intro S C r H' m hC Ix fC hn q;let#[f0,U,_,f3,V,f5]:=fC;change aB _ X.A (assign (.Name y n) X.env !S) _ _ _;show wpAny_assign_Name (Eg Ix hN M (.inl W) (v:=!S) Z (λs3 I3 ⟨a,sb,p⟩=>?_) (.inr W));let ne:C≠a:=by
  rcases p with p|p
  .rwa[p,U]
  .show λz=>V y a p z.symm
 show#[m,hn.sameBut sb ne,λh' P=>#[_,H',?_,q]];show I3.turned (t':=s3.toks) (λb o L e=>(P.2 b L)|||e) f0 U f3 V f5
def JG(K:zZ):nI:=Me K 2 (Q5 (QU 0) (Q5 (QU 1) GX))
def wu{x y:Str}{g h pos:aJ}{k:Nat}(f:X.calm=X')(a:X.N.Nodup)(d:X.N[0]?\x)(e:X.N[1]?\y)(b:X.env.scope.names.lookup x\.local)(c:X.env.scope.names.lookup y\.local):PG X (.Tuple [.Name x g,.Name y h] k pos) (JG X.K):=
 OM f (XX (Ob a d (.inl b) (.inr b)) (XX (Ob a e (.inl c) (.inr c)) OC))
def tz{x:Str}{q:jv}{p:jq}{a:aE}{g:jG}{l:jx}{E:ja}{d:aD}{D C n z:Nat}{m:jc}(I:ZF X kE σ H s)(w:∀ b∈l,VS X kE H b/\b<‹s›)(j:Ya X.env g)(e:a.kind=.function)(f:∀ y,((relabel a X.env).names.lookup y\.cell\/(relabel a X.env).names.lookup y\.free)->∃ c,g.lookup y\c)(r:YE X a p q)(u:‹s›<=D)(t:‹s›<=C)(h:D≠C)(i:d.Ns C m)(k:∀ b o,s.heap.get? b\o->d.get? b\o)(v:d.get? D\{ cls:=.type "list",data:=.seq ⇑([]:je) n }):
  ZF (Ym X (x::q) a g C s H l E) [] (Cm σ p) (upd H D (.lst [])) { s with heap:=d,toks:=z }:=
 Ey (xs:=[x]) I w j e f r u t h i k v
def Wu.toT{J:It}{a:jq}{c:TT}{b:TE}{Q:VK}(h:Wu J σ a c b H Q):Ky J 1 (QU 0) σ a c b H Q:=λD f=>by
 let#[W,e,j]:=h D f;show#[W,e,λi m H k=>(j i m H k).imp id λq=>#[q.1,λx d y l g=>?_]];let#[_,rfl]:=List.length_eq_one_iff.mp g;show#[#[[Z' x],Z,Z],q.2 x d y]
inductive Mb(c:TI)(σ:Tw.St)(H:Hp)(K:It->Hp->Prop):Prop
 |mk(b:It->Hp->Prop)(_:c σ H b)(_:∀ J a,b J a->K J a)
def PI.more{i g:Expr}{j:TI}(h:PI X i g j):PI X i g (Mb j):=λkE s σ H R I ⟨l,n,f⟩=>
 ae (h kE s σ H l I n) (λ_ _ z=>ae z (by rintro _ _ ⟨o,m,p,J,k,a,b,c,d,e,r⟩;show#[o,m,p,J,k,a,b,c,d,e,f _ _ r]) λ_ _ z=>z) λ_ _ z=>z
def QS{c b:Expr}{x:Str}{n:aJ}{d:jC}{a:aE}{pos:aJ}{q:TI}{p:TT}{o:TE}(k:jq)(e:jv)(t:X.calm=X')(v:PI X (.Name x n) b q)(A:∀ C s H f E,Pk (Ym X (x::e) a (X9 X.env a.names []) C s H f E) d p)(u:∀ C s H f E,PE (Ym X (x::e) a (X9 X.env a.names []) C s H f E) c o)(r:YE X a k e)(w:Ny X.env a.names=X':=by rfl)(l:Ou a x=X':=by rfl)(j:(x::e).Nodup:=by decide +kernel)(y:∀ x,foldedSetIterable b X.env x=pure x:=by intro _;rfl):
  PE X (.ListComp c [#[.Name x n,b,d,(0)]] a pos) (K9 q k p o):=by
 intro kE s σ H Q I h;let m:(relabel a X.env).names.lookup x\.local:=lookup_relabel_local (MB l).own;show rz [x] x (g:=QU 0) k e t (λ_ _ _ _ _=>Ob (i:=0) j Z (Or.inl m) (Or.inr m)) (PI.more v) A u r w l y kE s σ H Q I #[_,h,λ_ _ z=>Wu.toT z]
def NQ{d b:Expr}{x y:Str}{o r:aJ}{e:jC}{a:aE}{pos c:aJ}{v:TI}{u:TT}{t:TE}{i:Nat}(n:jq)(f:jv)(A:X.N.Nodup)(k:X.N[i]?\y)(M:X.env.scope.names.lookup y\.local)(B:X.calm=X')(G:PI X (.Name x o) b v)(L:∀ C s H j E,Pk (Ym X (x::f) a (X9 X.env a.names []) C s H j E) e u)(F:∀ C s H j E,PE (Ym X (x::f) a (X9 X.env a.names []) C s H j E) d t)(w:YE X a n f)(m:swapsWith (.ListComp d [#[.Name x o,b,e,(0)]] a pos) (Z' (.Name y r)) c.line X.env=pure true:=by rfl)(J:Ny X.env a.names=X':=by rfl)(p:Ou a x=X':=by rfl)(l:(x::f).Nodup:=by decide +kernel)(K:∀ x,foldedSetIterable b X.env x=pure x:=by intro _;rfl):
  PS X (.Assign [.Name y r] (.ListComp d [#[.Name x o,b,e,(0)]] a pos) c) (G7 i (K9 v n u t)):=by
 intro kE s σ H D I h;let q:(relabel a X.env).names.lookup x\.local:=lookup_relabel_local (MB p).own;show EM [x] x (g:=QU 0) n f A k M B (λ_ _ _ _ _=>Ob (i:=0) l Z (Or.inl q) (Or.inr q)) (PI.more G) L F w m J p K kE s σ H D I #[_,h,λ_ _ z=>Wu.toT z]
end
end Tw
local macro_rules|`(tactic|lia)=>`(tactic|first|assumption|show xO ‹_› ‹_›|show yV ‹_› ‹_›|show zR ‹_› ‹_›|show zR ‹_› (yR Z)|show yV ‹_› (yR Z)|show xO ‹_› (yR Z)|show zR (zR ‹_› ‹_›) (yR Z)|show zR (vW ‹_›) (zR ‹_› (yR Z))|show zR (vW (Eq.symm ‹_›)) (zR ‹_› (yR Z))|show yJ ‹_›|show Nat.pos_of_ne_zero ‹_›|show uF ‹_›|show tN ‹_›|show yR rfl|show zY _|show wE _ _|show Nat.le_add_left _ _|show vJ _ _|show Int.natCast_nonneg _|show Nat.lt_of_not_le ‹_›|show wT ‹_›|show Int.lt_of_not_ge ‹_›|show Int.not_lt.mp ‹_›|show rO ‹_› (yA _)|show Nat.lt_of_lt_of_eq ‹_› (Eq.symm ‹_›)|show Nat.lt_of_lt_of_eq ‹_› ‹_›|show Eq.symm (Nat.succ_pred_eq_of_ne_zero ‹_›)|show Nat.add_sub_of_le ‹_›|show Nat.add_lt_of_lt_sub' ‹_›|show Int.ofNat_lt.mpr ‹_›|show xO (wE _ _) ‹_›|show zR (sG _ _) (vJ _ _)|show zR (sG _ _) (zR (vJ _ _) ‹_›)|show zR (vJ _ _) ‹_›|show Nat.le_sub_of_add_le' ‹_›|show Nat.le_sub_of_add_le ‹_›|show vX ‹_› ‹_›|show xO (vW ‹_›) ‹_›|lia (splits:=8))
namespace Tw
open PySem PySem.Spec PyProof.Rows
inductive GO(K:zZ)(a:jf)(H:Hp)(Q:VK):Prop
 |mk(x n t b:_)(_:a=[x,.ty n])(_:XE K H x t)(_:yK K t (.type n)\b)(_:Q (.bl b) H)
def Wq:Vd X (.builtin "isinstance") (GO X.K):=by
 intro a s l H k j Q I r h;let#[x,n,t,b,rfl,g,e,q]:=h;let#[u,i,rfl,d,c]:=Le r;cases(show i=Value.type n from c);show At I d g e λf=>#[.bl b,H,I.tok f,Z,q]
def Li{K:zZ}:yK K (.type "int") (.type "bool")\false:=by kernel_rfl
def zc{K:zZ}:yK K (.type "str") (.type "bool")\false:=by kernel_rfl
def zh{K:zZ}:yK K (.type "tuple") (.type "bool")\false:=by kernel_rfl
def N4{K:zZ}:yK K (.type "int") (.type "int")\true:=by kernel_rfl
def Ir{K:zZ}:yK K (.type "str") (.type "int")\false:=by kernel_rfl
def IL{K:zZ}:yK K (.type "tuple") (.type "int")\false:=by kernel_rfl
def TH{K:zZ}:yK K (.type "int") (.type "str")\false:=by kernel_rfl
def LK{K:zZ}:yK K (.type "str") (.type "str")\true:=by kernel_rfl
def Jp{K:zZ}:yK K (.type "tuple") (.type "str")\false:=by kernel_rfl
def zi{K:zZ}:yK K (.type "int") (.type "tuple")\false:=by kernel_rfl
def Rt{K:zZ}:yK K (.type "str") (.type "tuple")\false:=by kernel_rfl
def Lq{K:zZ}:yK K (.type "tuple") (.type "tuple")\true:=by kernel_rfl
theorem Xh:ay "isinstance"=Z' (.builtin "isinstance"):=by decide +kernel
theorem Kt:ay "all"=Z' (.builtin "all"):=by decide +kernel
theorem LE:ay "max"=Z' (.builtin "max"):=by decide +kernel
theorem Rm:ay "min"=Z' (.builtin "min"):=by decide +kernel
theorem HA:ay "abs"=Z' (.builtin "abs"):=by decide +kernel
theorem Xk:ay "len"=Z' (.builtin "len"):=by decide +kernel
theorem Kn:ay "bool"=Z' (.type "bool"):=by decide +kernel
theorem OS:ay "int"=Z' (.type "int"):=by decide +kernel
theorem LJ:ay "str"=Z' (.type "str"):=by decide +kernel
theorem QR:ay "tuple"=Z' (.type "tuple"):=by decide +kernel
theorem Uz:ay "list"=Z' (.type "list"):=by decide +kernel
inductive UP(x y:V)(H:Hp)(Q:VK):Prop
 |mk(i j:_)(_:x=.str i)(_:y=.str j)(_:Q (.bl (!ng (j.cps.toList<i.cps.toList))) H)
def Dz:Yz X (az .LtE) (UP):=by
 intro a s e H x y v u Q I b c h;let#[i,j,rfl,rfl,q]:=h;let#[t,rfl]:=b;let#[d,rfl]:=c;show PySem.P.le_str (Yw I q ⋯)
inductive UX(a:zZ)(x y:V)(H:Hp)(Q:VK):Prop
 |mk(p b c:_)(_:x=!p)(_:y=!b)(_:ZH a H p c)(_:ZH a H b [])(_:Q (.bl c.isEmpty) H)
def Mm(f:X.A.units<cLine):Yz X (az .Eq) (UX X.K):=by
 intro l s G H x y v u Q I B C h;let#[p,b,D,rfl,rfl,c,o,q]:=h;cases B;cases C;let#[d,w,i,E]:=I.list c;let#[a,z,k,F]:=I.list o;let g:=↑w;let t:=↑z;let n:a=[]:=wJ (by rw[<-t];rfl)
 subst n
 cases D with
 |nil=>
  let m:d=[]:=wJ (by rw[<-g];rfl)
  subst m;show PySem.SeqAt.eq_listAt (e:=λ_=>true) i.isList k.isList Z f (λj c _=>mZ c ⋯) (Yw I q ⋯)
 |cons x r=>show PySem.SeqAt.eq_list_lengthsAt i.isList k.isList (by simp;intro e;subst e;simp at g) f (Yw I q Z)
def Sf(i j:Int):Prop:=0<j/\j.natAbs.log2<9000
def BR:Yz X (binaryOp .FloorDiv) (rI Sf λi j=>.int (i/j)):=MT λi j _ _ _ _ _ a q=>by
 let b:(0:Int)<j:=a.1;show floordiv_int () #v[mF i (),q] (.inl (PyProof.noPylong_of_log2 a.2))
inductive Po(a:zZ)(b:jf)(H:Hp)(Q:VK):Prop
 |mk(p:aj)(bs:jU)(_:b=[!p])(_:ZH a H p (bs.map V.bl))(_:Q (.bl (bs.all id)) H)
def KD(B:X.calm=X'):Vd X (.builtin "all") (Po X.K):=by
 intro t s W H V U Q I r h;let#[p,bs,rfl,F,q]:=h;let#[u,rfl,J]:=UD r;cases J;let#[a,w,j,S]:=I.list F;let n:=↑w;let f:p<‹s›:=by let#[_,e,_]:=j.isList;show zU e
 let g:p≠‹s›:=zJ f;let C:=I.ok.hd B;let M:∀(i:Nat)(v:ai),a.toArray[i]?\v->v=.bool (bs.getD i true):=λi v G=>by
  let c:a[i]?\v:=#v[G]
  let R:i<↑a:=(yO.mp c).1;let m:i<↑bs:=by rw[zX] at n;lia
  let#[u,k,d]:=w.get (i:=i) (x:=.bl bs[i]) (by rw[zO,zW m];rfl)
  erw[c] at k;rw[show v=Value.bool bs[i] from d,zV,zW m];rfl
 show call_all_walk (wpAny_pyIter_list j.isList ?_);show#[_,_,_,_,_,_,(λi=>bs.getD i true),Z,Walks.list (A:=X.A.in1) C ‹s› p g ⇑a,#[#[_,yS _ Z,Z,Z],j.isList.push _],λi v T O N y z=>?_,λP L D=>?_]
 .rwa[M i v y,wpAny_truthy_bool z]
 .let e:(zP a.toArray.size).all (λi=>bs.getD i true)=bs.all id:=by
   rw[zM,<-n,zX];let d:bs.all id=((zP ↑bs).map λi=>bs.getD i true).all id:=by rw[range_getD]
   rw[d,vT];rfl
  rw[e];show#[.bl (bs.all id),H,I.kept (t':=L) λb o l=>D b o ?_ (zS _ l),Z,q];intro E;show mZ (zU l) #v[zI.mp E,wV _]
noncomputable def Qe(b:Int)(l:jz):Int:=l.foldl (λa c=>if c>a then c else a) b
def ML(d:Int):jz->Int
 |[]=>d
 |x::r=>Qe x r
section
variable{R:Result->ak->Prop}
theorem pM(hh:A.handled=Y'){I l S:aj}{f:je}{d:jz}{kw:jO}(y:S≠I)(U:S≠l)(Y:l≠I)(hi:IntsAre f d):
  ∀(k j:Nat)(s:ak)(b:Int)(n:Tok)(c:Nat),↑f-j=k->j<=↑f->s.heap.IsListIter I l j->s.heap.IsList l ⇑f->s.heap.get? S=Z' { cls:=.type "list",dict:=Y',data:=.seq ⇑[.int b n,.int b n] c,slots:=⇑[] } ->
   (∀ t H N,(∀ a o,a≠I->a≠S->s.heap.get? a\o->H.get? a\o)->R (.ok (.ret (.int (Qe b (d.drop j)) t))) { s with heap:=H,toks:=N }) ->
   aG ↥_ A (.builtin "max.loop" #[[!I,.none,!S],kw]) R s:=by
 let nm:(toString "max"++toString ".loop":String)="max.loop" :=by decide
 let W:=Walks.list (prog:=prog) (w:=w) (A:=A.in1) hh I l Y ⇑f;let p:=IntsAre.length hi;intro k
 induction k with
 |zero=>
  intro j s b n c hk hj st X J L;let E:j=f.toArray.size:=by rw[zM];lia
  show codeAny_builtin qZ ?_;rw[Around.under_plainId vL _];change aB _ A.in1 (seqItems? (!S)>>=_) _ _ s;show aa (wpAny_seqItems J Z ?_);change aB _ A.in1 (tryCatch (pyNext !I) _>>=_) _ _ s;show aa (wpAny_tryCatch (W.done s _ _ (by rwa[<-E,#[st,X]]) λH N g=>?_))
  let h:=g S _ (by simpa using y) J
  change aB _ A.in1 (updateSeq S (λ_=>⇑[])>>=_) _ _ _;show aa (wpAny_updateSeq h Z (aa (wpAny_letGo (ad ?_))));let q:=L n (H.update S (Obj.mapSeq λ_=>⇑[])) N λa o z D e=>(xV _ _ (Ne.symm D))|||g a o #v[z] e
  rw[List.drop_eq_nil_of_le (by rw[<-p];rw[zM] at E;lia)] at q
  show q
 |succ k ih=>
  intro j s b n c hk hj st X J L;let E:j<f.toArray.size:=by rw[zM];lia
  show codeAny_builtin qZ ?_;rw[Around.under_plainId vL _];change aB _ A.in1 (seqItems? (!S)>>=_) _ _ s;show aa (wpAny_seqItems J Z ?_);change aB _ A.in1 (tryCatch (pyNext !I) _>>=_) _ _ s;show aa (wpAny_tryCatch (W.item j s _ _ E #[st,X] λv H N hP m g=>?_));let h:=g S _ (by simpa using y) J
  let K:j<↑d:=by rw[<-p];rw[zM] at E;show E
  obtain⟨O,hv⟩:∃ t,v=.int d[j] t:=by
   let r:ZR (d.map V.int) f:=Lp hi;let#[u,e1,t,G]:=r.get (i:=j) (x:=.int d[j]) (by rw[zO,zW K];rfl)
   let T:f[j]?\v:=#v[hP]
   erw[T] at e1;show#[t,G]
  subst hv;let hd:d.drop j=d[j]::d.drop (j+1):=wZ K;change aB _ A.in1 (tryCatch (holding [_,_] (richCompare .Gt (.int d[j] O) (.int b n)>>=_)) _>>=_) _ _ _;show aa (wpAny_tryCatch (af (aa (CmpOf.ints_gt (P:=λi v=>(i=0/\v=.int d[j] O)\/(i=1/\v=.int b n)) (λi=>if i=0 then d[j] else b) (λi v hv=>?_) 0 1 _ _ _ _ _ (.inl #[Z,Z]) (.inr #[Z,Z]) ?_))))
  .rcases hv with ⟨rfl,rfl⟩|⟨rfl,rfl⟩
   .show#[O,Z]
   .show#[n,Z]
  show aa (af (wpAny_truthy_bool (aa (wpAny_letGo (ad ?_)))));by_cases D:d[j]>b
  .simp only[aP,D,decide_true,Nat.one_ne_zero,if_false,↓reduceIte];show aa (wpAny_updateSeq h Z (aa (wpAny_letGo ?_)));rw[nm];show ad #[plainId_quiet vL _,ih (j+1) _ d[j] O _ () () ?_ ?_ (wC _ h Z) λt Q C B=>?_]
   .let#[o,e,r]:=m.1;show#[o,(xV _ _ y)|||e,r]
   .let#[o,e,r]:=m.2;show#[o,(xV _ _ U)|||e,r]
   .let q:=L t Q C λa o z M e=>B a o z M ((xV _ _ (Ne.symm M))|||g a o #v[z] e)
    rw[hd] at q;let G:Qe b (d[j]::d.drop (j+1))=Qe d[j] (d.drop (j+1)):=by unfold Qe;rw[tO,aP D]
    rw[G] at q;show q
  .simp only[D,decide_false,Nat.one_ne_zero,if_false,vO,↓reduceIte];show aa (wpAny_letGo ?_);rw[nm];show ad #[plainId_quiet vL _,ih (j+1) _ b n c () () m.1 m.2 h λt Q C B=>?_]
   let q:=L t Q C λa o z M e=>B a o z M (g a o #v[z] e)
   rw[hd] at q;let G:Qe b (d[j]::d.drop (j+1))=Qe b (d.drop (j+1)):=by unfold Qe;rw[tO,aO D]
   rw[G] at q;show q
end
def qm(a v:ai):argsOk "max" #[[a],[(wI "default",v)]]:=by unfold argsOk;kernel_rfl
theorem oJ(hc:X.calm=X'){g:jw}{Y:St}{H:Hp}{s:ak}{Q:VK}{l:aj}{p:jz}{d:Int}{M:Tok}(I:ZF X g Y H s)(hq:ZH X.K H l (p.map V.int))(q:Q (.int (ML d p)) H):
  aB ↥X X.A (call (.builtin "max") [!l] [(wI "default",.int d M)]) (EP X g Y Q) X.xe s:=by
 let nm:(toString "max"++toString ".loop":String)="max.loop" :=by decide
 let#[b,rv,T,hz]:=I.list hq;let hi:IntsAre b p:=IS rv;let c:=IntsAre.length hi;let hh:=I.ok.hd hc;let E:l<‹s›:=by let#[_,e,_]:=T.isList;show zU e
 show PyProof.Rows.kmk_tree PySem.F.kind_max PySem.F.plain_max PySem.F.entry_max (qm _ _) ?_;change aB _ X.A.in1 (Builtin.Builtins.bindParams "max" ["key","default"] 0 #[[],[(wI "default",.int d M)]]>>=_) _ _ s;show aa (wpAny_of_eq (show Builtin.Builtins.bindParams "max" ["key","default"] 0 #[[],[(wI "default",.int d M)]]=pure [Y',Z' (.int d M)] from Z) ?_);show aa (ad (aa (wpAny_pyIter_list T.isList (aa (wpAny_newList ?_ (yZ _))))));rw[nm];let n:(s.heap.push { cls:=.type "list_iterator",data:=.fields ⇑[!l,.int 0 0] }).objs.size=‹s›+1:=vE ..;let D:l≠‹s›:=zJ E;let m:(s.heap.push { cls:=.type "list_iterator",data:=.fields ⇑[!l,.int 0 0] }).objs.size≠‹s›:=#v[n,wW (yA _)]
 let C:(s.heap.push { cls:=.type "list_iterator",data:=.fields ⇑[!l,.int 0 0] }).objs.size≠l:=#v[n,wW (uQ E)]
 generalize hS:(s.heap.push { cls:=.type "list_iterator",data:=.fields ⇑[!l,.int 0 0] }).objs.size=S at *;let R:∀ a o,s.heap.get? a\o->((s.heap.push { cls:=.type "list_iterator",data:=.fields ⇑[!l,.int 0 0] }).push { cls:=.type "list",data:=.seq ⇑([]:je) }).get? a\o:=λa o e=>zS _ (zS _ e);let gI:((s.heap.push { cls:=.type "list_iterator",data:=.fields ⇑[!l,.int 0 0] }).push { cls:=.type "list",data:=.seq ⇑([]:je) }).IsListIter ‹s› l 0:=#[_,zS _ (yS _ Z),Z,Z];let gL:((s.heap.push { cls:=.type "list_iterator",data:=.fields ⇑[!l,.int 0 0] }).push { cls:=.type "list",data:=.seq ⇑([]:je) }).IsList l ⇑b:=(T.isList.push _).push _;let gS:((s.heap.push { cls:=.type "list_iterator",data:=.fields ⇑[!l,.int 0 0] }).push { cls:=.type "list",data:=.seq ⇑([]:je) }).get? S\{ cls:=.type "list",dict:=Y',data:=.seq ⇑[] 0,slots:=⇑[] }:=by
  rwa[<-hS,yS _ Z]
 generalize ((s.heap.push { cls:=.type "list_iterator",data:=.fields ⇑[!l,.int 0 0] }).push { cls:=.type "list",data:=.seq ⇑([]:je) })=h2 at *;show ad #[plainId_quiet vL _,?_];let W:=Walks.list (prog:=X.prog) (w:=X.w) (A:=X.A.in1) hh ‹s› l D ⇑b;show codeAny_builtin qZ ?_;rw[Around.under_plainId vL _];change aB _ X.A.in1 (seqItems? (!S)>>=_) _ _ _;show aa (wpAny_seqItems gS Z ?_);change aB _ X.A.in1 (tryCatch (pyNext (.ref ‹s›)) _>>=_) _ _ _;let nS:∀ a o,s.heap.get? a\o->a≠S:=λa o e z=>by
  let h:=zU e;rw[z,n] at h;show mZ h (vZ.mpr (xW _))
 let f:∀{y:aD}{J:Nat}{v:Int}{t:Tok},(∀ a o,a≠‹s›->a≠S->h2.get? a\o->y.get? a\o)->v=ML d p->EP X g Y Q (.int v t) { s with heap:=y,toks:=J }:=fun{y J v t} k e=>by
  subst e;show#[.int (ML d p),H,I.kept (t':=J) λa o e=>k a o (zJ (zU e)) (nS a o e) (R a o e),#[t,Z],q]
 cases p with
 |nil=>
  let z:b=[]:=wJ c;subst z;show aa (wpAny_tryCatch (W.done _ _ _ #[gI,gL] λy J j=>?_));change aB _ X.A.in1 (rule _>>=_) _ _ _;show aa (wpAny_rule (ad ?_));show f (λa o L P e=>j a o #v[L] e) Z
 |cons x r=>
  let zl:0<b.toArray.size:=#v[zM,c,Nat.succ_pos _]
  show aa (wpAny_tryCatch (W.item 0 _ _ _ zl #[gI,gL] λv y J hP G j=>?_));let B:=j S _ (by simpa using m) gS
  obtain⟨U,hv⟩:∃ t,v=.int x t:=by
   let#[u,e1,t,e2]:=rv.get (i:=0) (x:=.int x) Z;let N:b[0]?\v:=#v[hP]
   erw[N] at e1;show#[t,e2]
  subst hv;change aB _ X.A.in1 (updateSeq S (λ_=>⇑[.int x U,.int x U])>>=_) _ _ _;show aa (wpAny_updateSeq B Z ?_);rw[nm];show ad #[plainId_quiet vL _,pM hh m C D hi _ 1 _ x U _ Z #v[c,tN (yZ _)] ?_ ?_ (wC _ B Z) λt h3 a0 O=>?_]
  .let#[o,e,r]:=G.1;show#[o,(xV _ _ m)|||e,r]
  .let#[o,e,r]:=G.2;show#[o,(xV _ _ C)|||e,r]
  .show f (λa o L P e=>O a o L P ((xV _ _ (Ne.symm P))|||j a o #v[L] e)) Z
def D'(t f:TA)(K:zZ):TE:=λc H Q=>t c H λg e=>f c e λh a=>∃(l:aj)(b:jz)(d:Int),g=[!l]/\h=[-d]/\ZH K a l (b.map V.int)/\Q (.int (ML d b)) a
def vu{p pos f:aJ}{e c:Expr}{t g:TA}(w:X.calm=X')(y:Gl X "max")(A:X.mg "max"=Y')(v:PA X [e] t)(z:PK X [#[Z' (wI "default"),c,f]] g)(x:aF pos (ar [e] X.env)=(false,aH e X.env)::aF pos (ar [] X.env):=by rfl)(a:(aF pos (ar [e] X.env)).any (·.1)=false:=by rfl):
  PE X (.Call (.Name "max" p) [e] [#[Z' (wI "default"),c,f]] pos) (D' t g X.K):=by
 intro b s i H Q I h;show ag (OD I y A LE (callWith_kw (YH (v pos b s i H _ I h) λO F P j k r q=>?_) x a));show Z0 (z pos b F i j _ k q) ?_;rintro R L ⟨S,G,m,E,l,J,d,n,o,B,C⟩;subst n o;let#[u,rfl,D]:=UD r;let#[N,rfl,M,rfl]:=UD E;cases D;show oJ w m B C
def DV(x:Str):It:=#[λi _=>i<x.cps.size,λi H v a=>a=H/\∃ c,x.cps[i]?\c/\v=.str #[⇑[c]],λi _=>i=x.cps.size]
def GY{P:am}{w:aw}{K:zZ}{tg:Expr}(ty:String)(hty:["enumerate","zip","dict_itemiterator","dict_reverseitemiterator","odict_iterator","itertools.zip_longest","itertools.pairwise"].contains ty=false)(x:Str)(t:Tok)(it:aj)(W:∀ A:ax,A.handled=Y'->Walks P w A it [it] [it] x.cps.size (SignAt x) (λi h=>h.IsStrIter it ty x t i))(self:∀ (A:ax) (i:Nat) (s:ak) (Q:ja) (E:ja),s.heap.IsStrIter it ty x t i->Q (!it) s->aB (aA P w) A (pyIter !it) Q E s):
  Vm P w K tg (DV x) [it] it (λi h=>h.IsStrIter it ty x t i) where
 mem:=by simp
 obj:=λi h st b hb=>by
  let e:b=it:=by simpa using hb
  subst e;let#[o,e,c,d]:=st;show#[o,e,λv z=>by erw[d] at z]
 keep:=λi h h' ⟨o,e,r⟩ k=>#[o,k it ⋯ o e,r]
 item:=by
  intro X hP hw hK hc i kE s σ H E I hf st hg;subst hP hw hK;let#[f0,f1,f2,f3,f4,f5]:=hf it ⋯
  show(W X.A (I.ok.hd hc)).item i s _ _ hg st λv h' tk hv st' kk=>?_;let#[c,u,hx,rfl]:=hv;let I1:ZF X kE σ H { s with heap:=h',toks:=tk }:=I.turned (λb o hb e=>kk b o #v[hb] e) f0 f1 f3 f4 f5
  let#[o,e,cl,d]:=id st';show#[1,Ka (s:={ s with heap:=h',toks:=tk }) e cl d hty #[.str #[⇑[c]],H,I1,#[u,Z],#[Z,c,hx,Z],st',λb hb=>(hf b hb).1]]
 done:=by
  intro X hP hw hK hc i kE s σ H E I hf st hg;subst hP hw hK;let#[f0,f1,f2,f3,f4,f5]:=hf it ⋯
  let hi:i=x.cps.size:=hg;subst hi;show(W X.A (I.ok.hd hc)).done s _ _ st λh' tk kk=>#[Z,I.turned (λb o hb e=>kk b o #v[hb] e) f0 f1 f3 f4 f5]
 self:=self
section
variable{tg:Expr}
inductive Mo(R:It->Hp->Prop)(v:V)(a:Hp):Prop
 |mk(x:_)(_:v=.str x)(_:R (DV x) a)
def SG(b:TE):TI:=λc H R=>b c H λv a=>Mo R v a
def yp{l:Expr}{n:TE}(r:PE X l n):PI X tg l (SG n):=by
 intro a s w H R I h;show Z0 (r a s w H _ I h) ?_;rintro v c ⟨z,f,d,u,x,e,q⟩;subst e;let#[t,rfl]:=u;let k:∀ b∈[‹c›],VS X a f b:=λb p=>by
  rwa[zI.mp p,d.fpOk (zY _) (d.hok.fresh (zY _))]
 cases m:x.cps.all (· < 128)
 .show wpAny_pyIter_wide m #[‹c›,[‹c›],_,_,f,Z,d.kept (t':=c.toks) λb o e=>zS _ e,
   GY "str_iterator" (by decide) x t _ (λA g=>Walks.strWide g _ x t) (λA i s Q E j h=>wpAny_pyIter_striter_wide j h),#[_,yS _ Z,Z,Z],k,q]
 .show wpAny_pyIter_ascii m #[‹c›,[‹c›],_,_,f,Z,d.kept (t':=c.toks) λb o e=>zS _ e,
   GY "str_ascii_iterator" (by decide) x t _ (λA g=>Walks.strAscii g _ x t) (λA i s Q E j h=>wpAny_pyIter_striter_ascii j h),#[_,yS _ Z,Z,Z],k,q]
end
section
variable{σ:St}{H:Hp}{ix:jq}{te:TE}{Q:VK}
theorem Uu{J:It}{n:Nat}(d:Nat->V->Prop)(c:aj->Nat->jf->Hp->Prop)(z:n<aq)(k:∀ D i a H,i<n->c D i a H->J.go i H)(t:∀ D i a H x g,i<n->c D i a H->J.yld i H x g->g=H/\d i x)(f:∀ D a H,c D n a H->J.stop n H)(q:∀ D,H D=Y'->c D 0 [] (upd H D (.lst [])))(step:∀ D i a H x,H D\.lst a->↑a<=i->i<n->d i x->c D i a H->∀ R:VK,(∀ y h,h D\.lst a->c D (i+1) (a++[y]) (upd h D (.lst (a++[y])))->R y h)->te (NJ σ ix x) H R)(j:∀ D a H,H D\.lst a->c D n a H->Q (!D) H):Wu J σ ix JE te H Q:=by
 intro D r;exists λi m H=>m=n-i/\i<=n/\∃ a,H D\.lst a/\↑a<=i/\c D i a H,#[n,Z,yZ _,[],ZP,zY _,q D r];rintro i m H ⟨rfl,w,a,e,s,p⟩;by_cases b:i<n
 .show .inr #[k D i a H b p,λx g y=>?_];let#[rfl,u]:=t D i a H x g b p y;unfold JE;dsimp only;rw[aP rfl];show step D i a _ x e s b u p _ λy h o v=>?_;show#[a,n-(i+1),o,(),(),Z,b,a++[y],ZP,by rw[zG,xS];lia,v]
 .let l:i=n:=()
  subst l;show .inl #[f D a H p,j D a H e p]
def ow{J:It}{n:Nat}{s:TT}(c:Nat->V->Prop)(d:V->Bool)(f:aj->Nat->jf->Hp->Prop)(C:n<aq)(l:∀ D i a H,i<n->f D i a H->J.go i H)(z:∀ D i a H x j,i<n->f D i a H->J.yld i H x j->j=H/\c i x)(g:∀ D a H,f D n a H->J.stop n H)(u:∀ D,H D=Y'->f D 0 [] (upd H D (.lst [])))(h:∀ D i a H x,i<n->c i x->f D i a H->∀ R:Bool->Hp->Prop,R (d x) H->s (NJ σ ix x) H R)(q:∀ D i a H x,H D\.lst a->i<n->c i x->d x=X'->f D i a H->f D (i+1) (a++[x]) (upd H D (.lst (a++[x]))))(A:∀ D i a H x,H D\.lst a->i<n->c i x->d x=false->f D i a H->f D (i+1) a H)(k:∀ D a H,H D\.lst a->f D n a H->Q (!D) H):Wu J σ ix s (QA 0) H Q:=by
 intro D v;exists λi m H=>m=n-i/\i<=n/\∃ a,H D\.lst a/\↑a<=i/\f D i a H,#[n,Z,yZ _,[],ZP,zY _,u D v];rintro i m H ⟨rfl,B,a,e,w,p⟩;by_cases b:i<n
 .show .inr #[l D i a H b p,λx j y=>?_];let#[rfl,o]:=z D i a H x j b p y;show h D i a _ x b o p _ ?_
  cases r:d x with
  |true=>
   rwa[aP Z,#[x,Z,a,n-(i+1),e,(),(),Z,b,a++[x],ZP,by rw[zG,xS];lia,q D i a _ x e b o r p]]
  |false=>
   rwa[aO zN,#[n-(i+1),(),Z,b,a,e,uF w,A D i a _ x e b o r p]]
 .let t:i=n:=()
  subst t;show .inl #[g D a H p,k D a H e p]
end
def Zb.there{P:am}{w:aw}{H:Hp}{h:aD}{a:aj}:∀{o:HO},Zb P w H h a o->∃ b,h.get? a\b:=by
 intro o x
 induction o with
 |lst l=>let#[z,j,n,r,e]:=x;show#[_,e]
 |tup l=>let#[z,j,r,b,e,c]:=x;show#[_,e]
 |dK k=>let#[z,y,G,r,b,i,g,e,c]:=x;show#[_,e]
 |dT k=>let#[z,y,l,r,b,i,g,e,c]:=x;show#[_,e]
 |set S n=>let#[b,i,g,t,e,c]:=x;show#[_,e]
 |ins C p m=>let#[d,z,D,e,_]:=x;show#[_,e]
 |own y=>show x
 |xd m=>let#[B,#[E,i,g,e,c],r]:=x;show#[_,e]
 |rng A q=>let#[t,u,v,e]:=x;show#[_,e]
 |frz b u s=>show#[_,x.1]
 |tbl F=>show#[_,x]
 |met f y=>show#[_,x]
 |ext I=>show x.2.1
def YT.there{P:am}{w:aw}{H:Hp}{h:aD}{a:aj}(x:YT P w H h)(n:H a≠Y'):∃ b,h.get? a\b:=by
 cases e:H a with
 |none=>show mZ e n
 |some o=>show Zb.there (x a o e)
def YT.keptT{P:am}{w:aw}{H:Hp}{h d:aD}(x:YT P w H h)(k:∀ b u,h.get? b\u->H b≠Y'->d.get? b\u):YT P w H d:=λa o e=>
 (x a o e).stay (λb u c q=>k b u q (by
  rcases c with rfl|c
  .rwa[e,λz=>nomatch z]
  .rwa[c,λz=>nomatch z])) (λ_ q=>q) λ_ _ q=>q
section
variable{kE:jw}{σ:St}{H H':Hp}{s':ak}{E:XK}
def ZF.noloc(I:ZF X kE σ H s):X.s₀.heap.get? X.env.locals=Y':=sX I.ok.above
def JZ(I:ZF X kE σ H s):∀ b∈frs X.stack,∀ o,s.heap.get? b\o->∀ a,o.data≠.fields a:=λb c o q a z=>by
 let#[_,f,e,d]:=I.stack.mem c;erw[q] at e;show d a z
end
end Tw
namespace Tw
open PySem PySem.Spec PySem.W PyProof.Rows
def WX(x C:aj)(h:aD):=∃ o,h.get? x\o/\o.cls=!C
def WX.ty{x C:aj}{h:aD}(I:WX x C h)(M:Model):Looks M h (typeOf !x) (!C):=by
 let#[o,e,c]:=I;rwa[<-c,Looks.andThen (Looks.ld e) Looks.now]
structure WJ(K:Frag)(C:aj):Prop where
 ga:findIn K (!C) "__getattribute__"=Z' (Z' (.builtin "BaseException.__getattribute__"))
 hk:findIn K (!C) "__getattr__"=Z' Y'
 mB:mroIn K C (.type "BaseException")\true
 mO:mroIn K C (.type "object")\true
 ca:findIn K (!C) "__class__"=Z' (Z' (.builtin "object.__class__"))
 hn:specialIn K (.builtin "object.__class__") "__get__"=Z' (Z' (.builtin "getset_descriptor.__get__"))
 tk:takesIn K (.builtin "object.__class__")\true
section
variable{K:Frag}{x C:aj}
theorem qg{f:ai}{Q:Unit->ak->Prop}(X:K.In s.heap)(I:WX x C s.heap)(a:mroIn K C (.type "BaseException")\true)(b:Q .unit s):
  aB ↥_ A (checkBuiltinCall "BaseException.__getattribute__" #[[!x,f],[]]) Q E s:=by
 let#[h,g,d,t,k]:=s;let c:builtinKind "BaseException.__getattribute__"=Z' .slot:=by decide +kernel
 let e:splitId "BaseException.__getattribute__"=Z' ("BaseException","__getattribute__"):=by decide +kernel
 let i:=I.ty ↥_;let j:=looks_mroIn (M:=aA prog w) X a;simp only[checkBuiltinCall,c,e];show aa ?_;unfold isInstance
 repeat lk
 show b
def qq{b:Str}{i:Tok}{r:Builtin.ObjectAttr.Found}{Q:Fin->ak->Prop}(X:K.In s.heap)(I:WX x C s.heap)(e:Looks ↥_ s.heap (Builtin.ObjectAttr.find (!x) (!C) b) r)(h:match r with
   |.value v=>Q (.done (.ret v)) s
   |.bind g a=>aB ↥_ A (call g [a,!x,!C]) (λv c=>Q (.done (.ret v)) c) E s
   |.missing=>False):aB ↥_ A (Builtin.«object.__getattribute__» #[[!x,.str b i],[]]) Q E s:=by
 let#[j,g,d,t,k]:=s;let f:=I.ty ↥_;unfold Builtin.«object.__getattribute__»;show aa (ad ?_);show aa (ad ?_);show aa (f.at ?_);show aa (e.at ?_)
 cases r with
 |value v=>show ad h
 |bind g a=>
  change aB _ _ (holding [a] (call g [a,!x,!C])>>=ret) _ _ _;show aa (af (ae h (λv c z=>ad z) λ_ _ z=>z))
 |missing=>show h.elim
theorem F2{c:Str}{r:Builtin.ObjectAttr.Found}{b f:Bool}{k:Tok}{Q:ja}(X:K.In s.heap)(I:WX x C s.heap)(e:WJ K C)(l:Looks ↥_ s.heap (Builtin.ObjectAttr.find (!x) (!C) c) r)(h:match r with
   |.value v=>handedIn v=X'/\Q v s
   |.bind g a=>aB ↥_ A.in1 (call g [a,!x,!C]) (λv j=>handedIn v=X'/\Q v j) (λ_ _=>False) s
   |.missing=>False):aB ↥_ A (getAttrBy (!x) (.str c k) f b) Q E s:=by
 let i:=F.excAttr_ValueError;let m:=I.ty ↥_;let n:=looks_findIn (M:=aA prog w) X e.ga;let o:=looks_findIn (M:=aA prog w) X e.hk;let p:(Value.builtin "BaseException.__getattribute__"==Value.builtin "object.__getattribute__")=false:=by decide +kernel
 let#[q,g,d,t,u]:=s;unfold getAttrBy;show af (aa (m.at (aa (n.at ?_))));change aB _ _ (if (true&&(Value.builtin "BaseException.__getattribute__"==Value.builtin "object.__getattribute__"))=X' then _ else getAttrByItsOwn (!x) (.str c k) (!C) (.builtin "BaseException.__getattribute__") f b) _ _ _
 rw[p,aO (by decide)]
 unfold getAttrByItsOwn hookBefore;show aa (o.at ?_);show aa (wpAny_attempt (af ?_));unfold callGetattribute;rw[aO (by cases b<;>decide)]
 unfold boundAndCalled;rw[i.ga.bind !x];show aa (ad ?_);show wpAny_call (codeAny_call_builtin i.ga.plain F.entry_bexc_ga (qg X I e.mB (qq X I l ?_)))
 cases r with
 |value v=>show handed_on h.1 h.2
 |bind g a=>show ae h (λv j z=>handed_on z.1 z.2) λ_ _ z=>z.elim
 |missing=>show h.elim
theorem wv{R:Result->ak->Prop}{b:ai}(X:K.In s.heap)(I:WX x C s.heap)(e:WJ K C)(h:R (.ok (.ret !C)) s):
  aG ↥_ A (.call (.builtin "getset_descriptor.__get__") #[[.builtin "object.__class__",!x,b],[]]) R s:=by
 let#[f,d,c,j,a]:=s;let g:=I.ty ↥_;let i:=looks_mroIn (M:=aA prog w) X e.mO;show codeAny_call_builtin KF.slot_gs.plain KF.entry_gs ?_;show KF.slot_gs.check _ _ _ _ _ _ _ _ KF.type_class (KF.args_gs _ _ _) ?_;unfold Builtin.«getset_descriptor.__get__»;unfold Builtin.Getset_descriptor.descrGet;rw[dga_obj];show aa (ad ?_);unfold Builtin.Getset_descriptor.descrGetter;unfold Builtin.Getset_descriptor.descrCheckInstance;unfold Builtin.Getset_descriptor.descrNameAndClass;unfold isInstance;simp only[KF.owner_class]
 repeat lk
 exists Code.quiet_builtin _ (by decide +kernel)
 show codeAny_builtin KF.entry_class ?_;unfold Builtin.«object.__class__»;unfold shownTypeOf
 repeat lk
 show h
def u9(X:K.In s.heap)(e:WJ K C)(M:Model):Looks M s.heap (Builtin.ObjectAttr.find (!x) (!C) "__class__") (.bind (.builtin "getset_descriptor.__get__") (.builtin "object.__class__")):=by
 let a:=looks_findIn (M:=M) X e.ca;let b:=looks_specialIn (M:=M) X e.hn;let c:=looks_takesIn (M:=M) X e.tk;show Looks.andThen a (Looks.andThen b ?_);show Looks.andThen (show Looks M s.heap (Builtin.ObjectAttr.dataDescriptor? (Z' (.builtin "object.__class__")) (Z' (.builtin "getset_descriptor.__get__"))) (Z' (_,_)) from Looks.andThen c Looks.now) (Looks.tag Looks.now)
end
def WJ.cls{K:Frag}{C:aj}(e:WJ K C):∃ g d c k,K.lookup C\#[g,d,.cls c,k]:=by
 let#[c,h,_]:=mG.mp e.mB;unfold clsIn at h;split at h
 .rename_i f i a b j
  show#[f,i,a,b,j]
 .cases h
def Aw{K:Frag}{x C:aj}(e:WJ K C):KitX K (!x) (!C) (WX x C) where
 ty:=λM _ _ I=>I.ty M
 it:=λ_ _ X _=>by
  let#[i,d,g,m,b]:=e.cls;intro p t r v k q;unfold isType loadHead;let z:=k _ _ (X _ _ b);show aa (wpAny_loadPart z (ad q))
 ne:=λh f u l n m X a=>by
  let#[i,d,g,o,b]:=e.cls
  cases q:(Value.ref C==Value.ref f) with
  |false=>rfl
  |true=>
   let j:C=f:=Value.ref.inj (eq_of_beq q);erw[<-j,X _ _ b] at a
 ca:=fun{c w A E Q s} X I k=>by
  unfold getAttr? getAttrBy?;show aa (wpAny_mkText (aa (wpAny_attempt ?_)));show F2 (s:={ s with toks:=s.toks+1 }) X I e (u9 (s:={ s with toks:=s.toks+1 }) X e _) ?_;show wpAny_call (wv (s:={ s with toks:=s.toks+1 }) X I e #[Z,ad k])
end Tw
namespace Tw
open PySem PySem.Spec PyProof.Rows
noncomputable def Cx.held(X:Cx)(a:aj)(E:ja):Cx:={ X with A:=X.A.mark (Z' !a),calm:=false,xe:=E }
section
variable{kE:jw}{σ:St}{H H':Hp}{s':ak}{ea:aj}
def ZF.held(I:ZF X kE σ H s)(ea:aj)(E:ja):ZF (X.held ea E) kE σ H s:=
 #[#[I.ok.mod,I.ok.kind,I.ok.glob,I.ok.blt,I.ok.above,I.ok.inj,I.ok.has,I.ok.cab,λz=>mZ z zN,I.ok.frames,I.ok.stk,I.ok.exf,I.ok.bs,I.ok.bsz,I.ok.noex,I.ok.exfs,I.ok.funs,I.ok.frf],
  I.os,I.bare,I.base,I.loc,I.cell,I.free,I.freeC,I.pin,I.hok,I.len]
def ZF.unheld(a:X.Ok)(I:ZF (X.held ea E) kE σ H s):ZF X kE σ H s:=#[a,I.os,I.bare,I.base,I.loc,I.cell,I.free,I.freeC,I.pin,I.hok,I.len]
def ZF.track{a:aj}{o:HO}(I:ZF X kE σ H s)(l:X.s₀.heap.get? a=Y')(t:a≠X.env.locals)(m:∀ x c,X.env.cells.lookup x\c->c≠a)(y:∀ p∈X.pn++kE,p.1≠a)(v:H a=Y')(h:Zb X.prog X.w (upd H a o) s.heap a o):ZF X kE σ (upd H a o) s:=by
 let g:∀{b:aj}{u:HO},H b\u->b≠a:=fun{b u} e z=>by erw[z,v] at e
 show#[I.ok,I.os,I.bare,#[I.base.keep,I.base.slot,λb i q n A=>?_,I.base.there,λb k q=>?_,λb i u q=>?_,λb B q=>?_],I.loc,I.cell,?_,λx c e=>?_,λp d=>?_,λb u e=>?_,I.len]
 .rw[ZM (λz=>by erw[z,l] at q)]
  show I.base.free b i q n A
 .let e:=I.base.tups b k q;rwa[ZM (g e),e]
 .let e:=I.base.frzs b i u q;rwa[ZM (g e),e]
 .let#[f,e]:=I.base.tbls b B q;show#[f,#v[ZM (g e),e]]
 .rwa[ZM (Ne.symm t),I.free]
 .rwa[ZM (m x c e),I.freeC x c e]
 .let#[e,n,r]:=I.pin p d;show#[e,#v[ZM (y p d),n],r]
 .by_cases j:b=a
  .subst j;erw[ZP] at e;show h
  .rw[ZM j] at e;show(I.hok b u e).stay (λ_ _ _ q=>q) (λc q=>#v[ZM (g q),q]) λc k q=>#v[ZM (g q),q]
def ZF.goes{i:Nat}{n:Str}{M:Model}{A:ax}{Q:Unit->ak->Prop}{pos:aJ}(I:ZF X kE σ H s)(L:X.N.Nodup)(D:X.N[i]?\n)(f:X.env.scope.names.lookup n\.local)(h:∀ s',ZF X kE (σ.set i Y') H s'->Q .unit s'):aB M A (do bindName X.env n .none;unbindBehindTheSuite X.env n pos) Q E s:=by
 let#[m,F,O]:=id I.loc;let r:(X.env.scope.kind==.class||(X.env.scope.kind==.module&&X.env.locals != X.env.globals))=false:=by rw[I.ok.kind];rfl
 let t:i<↑σ:=#v[I.len,(yO.mp D).1]
 show wpAny_nameGoes_keeps f F r λh' v C a=>h _ ?_;let#[oL,_,_,P,_]:=id F;let g:∀ b o,X.s₀.heap.get? b\o->b≠X.env.locals:=λb o e=>zJ (yV (zU e) I.ok.above);show#[I.ok,I.os,I.bare,#[λb o e n x f=>?_,λb o e n x f=>?_,I.base.free,λb o e f=>?_,I.base.tups,I.base.frzs,I.base.tbls],#[_,C,λj y v' l u K=>?_],λy c e=>?_,I.free,I.freeC,λp R=>?_,λb U e=>?_,#v[I.len]]
 .show(a.2 b (g b o e)).trans (I.base.keep b o e n x f)
 .let#[W,l]:=I.base.slot b o e n x f;show#[W,(a.2 b (g b o e))|||l]
 .let#[T,l]:=I.base.there b o e f;show#[T,(a.2 b (g b o e))|||l]
 .by_cases B:j=i
  .subst B;erw[tY t] at u
  .rw[uU (Ne.symm B)] at u;let#[Y,V,q]:=O j y v' l u K;exists Y,V;rcases q with ⟨k,e⟩|⟨k,c,e,z⟩
   .show .inl #[k,?_];have:y≠n:=λe=>B (Io L l (e▸D));simp[this,e]
   .show .inr #[k,c,e,z.sameBut a (I.cne y c e)]
 .let#[J,z]:=I.cell y c e;show#[J,z.sameBut a (I.cne y c e)]
 .let#[e,n,G,S,d]:=I.pin p R;show#[(a.2 p.1 G)|||e,n,G,S,d]
 .show(I.hok b U e).stay (λc J w q=>(a.2 c ?_)|||q) (λ_ q=>q) λ_ _ q=>q;rintro rfl;rcases w with rfl|w
  .erw[I.free] at e
  .erw[I.free] at w
end
section
variable{x C CB:aj}
def Fl{b:Bool}{Q:Bool->ak->Prop}(X:K.In s.heap)(I:WX x C s.heap)(o:xX K (!CB)\.type "type")(c:yU K CB (.type "BaseException")\true)(l:yU K C (!CB)\b)(h:Q b s):aB ↥_ A (excMatches (!x) !CB) Q E s:=by
 let#[m,g,d,t,H]:=s;let v:=I.ty ↥_;let y:=sV (M:=aA prog w) X c;let z:=sV (M:=aA prog w) X l;let e:=mw (M:=aA prog w) X o;let f:=tc_notTuple;let B:yE ↥_ m (isType !CB) true:=by
  let#[j,a,_]:=mG.mp c;unfold PySem.W.clsIn at a;split at a
  .rename_i F G i p n
   intro r D u J k q;unfold isType loadHead;show aa (wpAny_loadPart (k _ _ (X _ _ n)) (ad q))
  .cases a
 unfold excMatches isInstance isExcClass;show aa (aa (e.at ?_));rw[f];show ad ?_;rw[aO zN];show aa (ad ?_);simp only[List.forIn_cons,List.forIn_nil]
 cases b with
 |true=>
  repeat (first|lk|wp_step)
  all_goals first|show h|trace_state
 |false=>
  repeat (first|lk|wp_step)
  all_goals first|show h|trace_state
end
inductive KT where
 |int (i:Int)
 |str (x:Str)
 |tup (l:List KT)
abbrev jr:=List KT
mutual
noncomputable def KT.depth:KT->Nat
 |.int _=>0
 |.str _=>0
 |.tup l=>1+kB l
noncomputable def kB:jr->Nat
 |[]=>0
 |t::r=>max t.depth (kB r)
end
mutual
noncomputable def KT.size:KT->Nat
 |.int _=>1
 |.str _=>1
 |.tup l=>1+sizeL l
noncomputable def sizeL:jr->Nat
 |[]=>0
 |t::r=>t.size+sizeL r
end
noncomputable def Qs(c:Nat):Bool:=ng (32<=c)&&ng (c<=126)
def NK(x:Str):Bool:=ng (↑x<=40)&&x.cps.toList.all Qs
mutual
def KT.fits:KT->Nat->Bool
 |.int i,_=>ng (i.natAbs<10^60)
 |.str x,_=>NK x
 |.tup l,r=>ng (0<r)&&(ng (↑l<=4)&&fitsL l (r-1))
def fitsL:jr->Nat->Bool
 |[],_=>true
 |t::l,r=>t.fits r&&fitsL l r
end
theorem MO(r:Nat):∀ l:jr,fitsL l r=l.all λt=>t.fits r
 |[]=>by simp[fitsL]
 |t::l=>by rw[fitsL,tQ,MO r l]
mutual
theorem OF:∀(t:KT)(r:Nat),t.fits r=X'->t.depth<=r
 |.int _,r,_=>#v[KT.depth,yZ _]
 |.str _,r,_=>#v[KT.depth,yZ _]
 |.tup l,r,h=>by
  rw[KT.fits,zQ,zQ] at h;let#[h1,_,h3]:=h;let h1':0<r:=of_decide_eq_true h1;have:=fitsL_depth l (r-1) h3;rw[KT.depth]
  lia
theorem fitsL_depth:∀(l:jr)(r:Nat),fitsL l r=X'->kB l<=r
 |[],r,_=>#v[kB,yZ _]
 |t::l,r,h=>by
  rw[fitsL,zQ] at h;let a:=OF t r h.1;let b:=fitsL_depth l r h.2;rw[kB]
  lia
end
mutual
theorem Jv:∀(t:KT)(r q:Nat),t.fits r=X'->t.depth<=q->t.fits q=X'
 |.int _,r,q,h,_=>by rw[KT.fits] at h⊢;show h
 |.str _,r,q,h,_=>by rw[KT.fits] at h⊢;show h
 |.tup l,r,q,h,hd=>by
  rw[KT.fits,zQ,zQ] at h⊢;let#[h1,h2,h3]:=h;rw[KT.depth] at hd;show#[aM (),h2,fitsL_more l (r-1) (q-1) h3 ()]
theorem fitsL_more:∀(l:jr)(r q:Nat),fitsL l r=X'->kB l<=q->fitsL l q=X'
 |[],r,q,_,_=>by rw[fitsL]
 |t::l,r,q,h,hd=>by
  rw[fitsL,zQ] at h⊢;rw[kB] at hd;show#[Jv t r q h.1 (),fitsL_more l r q h.2 ()]
end
noncomputable def KT.things:KT->jr
 |.tup l=>l
 |_=>[]
def nE(l:jr):jr:=l.flatMap KT.things
mutual
noncomputable def KT.eqb:KT->KT->Bool
 |.int i,.int j=>i==j
 |.str x,.str y=>x==y
 |.tup l,.tup m=>kz l m
 |_,_=>false
noncomputable def kz:jr->jr->Bool
 |[],[]=>true
 |a::l,b::m=>a.eqb b&&kz l m
 |_,_=>false
end
mutual
def KT.plt:KT->KT->Bool
 |.int i,.int j=>ng (i<j)
 |.str x,.str y=>ng (x.cps.toList<y.cps.toList)
 |.tup l,.tup m=>pltL l m
 |_,_=>false
def pltL:jr->jr->Bool
 |[],[]=>false
 |[],_::_=>true
 |_::_,[]=>false
 |a::l,b::m=>if a.eqb b=X' then pltL l m else a.plt b
end
mutual
def KT.cmp:KT->KT->Bool
 |.int _,.int _=>true
 |.str _,.str _=>true
 |.tup l,.tup m=>cmpL l m
 |_,_=>false
def cmpL:jr->jr->Bool
 |[],_=>true
 |_::_,[]=>true
 |a::l,b::m=>if a.eqb b=X' then cmpL l m else a.cmp b
end
def KT.kind:KT->Nat
 |.int _=>0
 |.str _=>1
 |.tup _=>2
mutual
def KT.lt:KT->KT->Bool
 |.int i,.int j=>ng (i<j)
 |.int _,.str _=>true
 |.int _,.tup _=>true
 |.str _,.int _=>false
 |.str x,.str y=>ng (x.cps.toList<y.cps.toList)
 |.str _,.tup _=>true
 |.tup _,.int _=>false
 |.tup _,.str _=>false
 |.tup l,.tup m=>ltL l m
def ltL:jr->jr->Bool
 |[],[]=>false
 |[],_::_=>true
 |_::_,[]=>false
 |a::l,b::m=>if a.eqb b=X' then ltL l m else a.lt b
end
mutual
noncomputable def KT.st:KT->KT
 |.int i=>.tup [.int 0,-i]
 |.str x=>.tup [.int 1,.str x]
 |.tup l=>.tup [.int 2,.tup (stL l)]
noncomputable def stL:jr->jr
 |[]=>[]
 |t::l=>t.st::stL l
end
theorem CU:∀ l:jr,stL l=l.map KT.st
 |[]=>by rw[stL];rfl
 |t::l=>by rw[stL,CU l];rfl
mutual
theorem Ll:∀(a b:KT),a.eqb b=X'->a=b
 |.int i,.int j,h=>by rw[KT.eqb] at h;rw[eq_of_beq h]
 |.str x,.str y,h=>by rw[KT.eqb] at h;rw[eq_of_beq h]
 |.tup l,.tup m,h=>by rw[KT.eqb] at h;rw[eqbL_eq l m h]
 |.int _,.str _,h=>by simp[KT.eqb] at h
 |.int _,.tup _,h=>by simp[KT.eqb] at h
 |.str _,.int _,h=>by simp[KT.eqb] at h
 |.str _,.tup _,h=>by simp[KT.eqb] at h
 |.tup _,.int _,h=>by simp[KT.eqb] at h
 |.tup _,.str _,h=>by simp[KT.eqb] at h
theorem eqbL_eq:∀(l m:jr),kz l m=X'->l=m
 |[],[],_=>rfl
 |a::l,b::m,h=>by
  rw[kz,zQ] at h;rw[Ll a b h.1,eqbL_eq l m h.2]
 |[],_::_,h=>by simp[kz] at h
 |_::_,[],h=>by simp[kz] at h
end
mutual
theorem MU:∀ a:KT,a.eqb a=X'
 |.int i=>#v[KT.eqb,beq_self_eq_true i]
 |.str x=>#v[KT.eqb,beq_self_eq_true x]
 |.tup l=>#v[KT.eqb,eqbL_self l]
theorem eqbL_self:∀ l:jr,kz l l=X'
 |[]=>by rw[kz]
 |a::l=>by rw[kz,MU a,eqbL_self l];rfl
end
def Yr{a b:KT}:a.eqb b=X'↔a=b:=#[Ll a b,λe=>#v[e,MU b]]
mutual
theorem DX:∀ a b:KT,a.st.eqb b.st=a.eqb b
 |.int i,.int j=>by simp[KT.st,KT.eqb,kz]
 |.str x,.str y=>by simp[KT.st,KT.eqb,kz]
 |.tup l,.tup m=>by simp[KT.st,KT.eqb,kz,eqbL_st l m]
 |.int _,.str _=>by simp[KT.st,KT.eqb,kz]
 |.int _,.tup _=>by simp[KT.st,KT.eqb,kz]
 |.str _,.int _=>by simp[KT.st,KT.eqb,kz]
 |.str _,.tup _=>by simp[KT.st,KT.eqb,kz]
 |.tup _,.int _=>by simp[KT.st,KT.eqb,kz]
 |.tup _,.str _=>by simp[KT.st,KT.eqb,kz]
theorem eqbL_st:∀ l m:jr,kz (stL l) (stL m)=kz l m
 |[],[]=>by simp[stL,kz]
 |a::l,b::m=>by simp[stL,kz,DX a b,eqbL_st l m]
 |[],_::_=>by simp[stL,kz]
 |_::_,[]=>by simp[stL,kz]
end
theorem Gk:∀ l:jr,ltL l l=false
 |[]=>by rw[ltL]
 |a::l=>by rw[ltL,MU a,aP rfl,Gk l]
def FP{l m:jr}(h:kz l m=X'):ltL l m=false:=by
 rwa[eqbL_eq l m h,Gk m]
mutual
theorem Eh:∀ a b:KT,a.st.cmp b.st=X'
 |.int i,.int j=>by simp[KT.st,KT.eqb,KT.cmp,cmpL]
 |.str x,.str y=>by simp[KT.st,KT.eqb,KT.cmp,cmpL]
 |.tup l,.tup m=>by simp[KT.st,KT.eqb,KT.cmp,cmpL,cmpL_st l m]
 |.int _,.str _=>by simp[KT.st,KT.eqb,KT.cmp,cmpL]
 |.int _,.tup _=>by simp[KT.st,KT.eqb,KT.cmp,cmpL]
 |.str _,.int _=>by simp[KT.st,KT.eqb,KT.cmp,cmpL]
 |.str _,.tup _=>by simp[KT.st,KT.eqb,KT.cmp,cmpL]
 |.tup _,.int _=>by simp[KT.st,KT.eqb,KT.cmp,cmpL]
 |.tup _,.str _=>by simp[KT.st,KT.eqb,KT.cmp,cmpL]
theorem cmpL_st:∀ l m:jr,cmpL (stL l) (stL m)=X'
 |[],_=>by simp[stL,cmpL]
 |_::_,[]=>by simp[stL,cmpL]
 |a::l,b::m=>by
  rw[stL,stL,cmpL,cmpL_st l m,Eh a b];split<;>rfl
end
mutual
theorem Cv:∀ a b:KT,a.st.plt b.st=a.lt b
 |.int i,.int j=>by
  simp only[KT.st,KT.eqb,KT.plt,pltL,KT.lt,beq_self_eq_true,if_true];by_cases h:i=j
  .subst h;simp
  .simp[h]
 |.str x,.str y=>by
  simp only[KT.st,KT.eqb,KT.plt,pltL,KT.lt,beq_self_eq_true,if_true];by_cases h:x=y
  .subst h;simp
  .simp[h]
 |.tup l,.tup m=>by
  simp only[KT.st,KT.eqb,KT.plt,pltL,KT.lt,beq_self_eq_true,if_true,eqbL_st,pltL_st l m]
  cases h:kz l m with
  |true=>rw[aP rfl,FP h]
  |false=>rw[aO zN]
 |.int _,.str _=>by simp[KT.st,KT.eqb,KT.plt,pltL,KT.lt]
 |.int _,.tup _=>by simp[KT.st,KT.eqb,KT.plt,pltL,KT.lt]
 |.str _,.int _=>by simp[KT.st,KT.eqb,KT.plt,pltL,KT.lt]
 |.str _,.tup _=>by simp[KT.st,KT.eqb,KT.plt,pltL,KT.lt]
 |.tup _,.int _=>by simp[KT.st,KT.eqb,KT.plt,pltL,KT.lt]
 |.tup _,.str _=>by simp[KT.st,KT.eqb,KT.plt,pltL,KT.lt]
theorem pltL_st:∀ l m:jr,pltL (stL l) (stL m)=ltL l m
 |[],[]=>by simp[stL,pltL,ltL]
 |[],_::_=>by simp[stL,pltL,ltL]
 |_::_,[]=>by simp[stL,pltL,ltL]
 |a::l,b::m=>by rw[stL,stL,pltL,ltL,DX a b,pltL_st l m,Cv a b]
end
mutual
theorem F7:∀ t:KT,t.st.depth<=2*t.depth+1
 |.int i=>by simp[KT.st,KT.depth,kB]
 |.str x=>by simp[KT.st,KT.depth,kB]
 |.tup l=>by
  have:=depthL_st l;simp only[KT.st,KT.depth,kB]
  lia
theorem depthL_st:∀ l:jr,kB (stL l)<=2*kB l+1
 |[]=>by simp[stL,kB]
 |t::l=>by
  let a:=F7 t;let b:=depthL_st l;rw[stL,kB,kB]
  lia
end
def FV{l:jr}(a:↑l<=4)(b:fitsL l 2=X'):(KT.tup l).fits 3=X':=by
 rwa[KT.fits,zQ,zQ,#[Z,aM a,b]]
def xm{x:Str}(a:x.cps.size<=40)(b:x.cps.toList.all Qs=X'):NK x=X':=by
 unfold NK;rwa[zQ,#[aM a,b]]
inductive TG where
 |int (i:Int)
 |str (x:Str)
 |tup (l:List TG)
 |odd (n:String)
mutual
def TG.fits:TG->Nat->Bool
 |.int i,_=>ng (i.natAbs<10^60)
 |.str x,_=>NK x
 |.tup l,r=>ng (0<r)&&(ng (↑l<=4)&&gfitsL l (r-1))
 |.odd _,_=>false
def gfitsL:List TG->Nat->Bool
 |[],_=>true
 |t::l,r=>t.fits r&&gfitsL l r
end
structure ZD(P:am)(w:aw)(K:zZ)(mg:jc)(kF:aD)(k:Nat)(x:Str)(ps:jv)(sp:Sp):Prop where
 ex:∃ f fd,ZL P w K mg kF ZZ k f fd ps sp/\Z9 K fd ps []/\yN K (!f)=X'/\mg x\!f
def Zq{X:Cx}{k:Nat}{x:Str}{o:jv}{g:Sp}{e:Expr}{a:jC}{t:TA}{p pos:aJ}(D:ZD X.prog X.w X.K X.mg X.base k x o g)(l:Za k X.A)(h:PA X (e::a) t)(j:Gl X x:=by rfl)(c:(x==("__debug__":Str))=false:=by decide)(i:ar (e::a) X.env=(false,aH e X.env)::ar a X.env:=by rfl)(d:(aF pos (ar a X.env)).any (·.1)=false:=by rfl):
  PE X (.Call (.Name x p) (e::a) [] pos) (JC g [] E0 t):=by
 let#[f,q,F,b,n,m]:=D.ex;show EI F l j m n b .nil YX h c i d
mutual
def ZG(H:Hp):KT->V->Prop
 |.int i,v=>v=.int i
 |.str x,v=>v=.str x
 |.tup l,v=>∃ a vs,v=.ref a/\H a\.tup vs/\kr H l vs
def kr(H:Hp):jr->jf->Prop
 |[],vs=>vs=[]
 |t::l,vs=>∃ v r,vs=v::r/\ZG H t v/\kr H l r
end
def YI(H c:Hp):=∀ b a,H b\.tup a->c b\.tup a
mutual
theorem ZG.mono{H H':Hp}(m:YI H H'):∀(t:KT)(v:V),ZG H t v->ZG H' t v
 |.int _,_,h=>by rw[ZG] at h⊢;show h
 |.str _,_,h=>by rw[ZG] at h⊢;show h
 |.tup l,_,h=>by
  rw[ZG] at h⊢;let#[a,vs,e,h1,h2]:=h;show#[a,vs,e,m a vs h1,kr.mono m l vs h2]
theorem kr.mono{H H':Hp}(m:YI H H'):∀(l:jr)(vs:jf),kr H l vs->kr H' l vs
 |[],_,h=>by rw[kr] at h⊢;show h
 |t::l,_,h=>by
  rw[kr] at h⊢;let#[v,r,e,h1,h2]:=h;show#[v,r,e,ZG.mono m t v h1,kr.mono m l r h2]
end
def kr.nil{H:Hp}:kr H [] []:=by rw[kr]
def kr.cons{H:Hp}{t:KT}{l:jr}{v:V}{r:jf}(h:ZG H t v)(a:kr H l r):kr H (t::l) (v::r):=by
 rwa[kr,#[v,r,Z,h,a]]
def ZG.tup{H:Hp}{a:aj}{b:jf}{l:jr}(e:H a\.tup b)(h:kr H l b):ZG H (.tup l) (!a):=by
 rwa[ZG,#[a,b,Z,e,h]]
def ZG.int{H:Hp}(i:Int):ZG H (-i) (-i):=by rw[ZG]
def ZG.str{H:Hp}(x:Str):ZG H (.str x) (.str x):=by rw[ZG]
theorem kr.append{H:Hp}:∀{l m:jr}{a b:jf},kr H l a->kr H m b->kr H (l++m) (a++b)
 |[],m,a,b,h,g=>by rw[kr] at h;subst h;show g
 |t::l,m,a,b,h,g=>by
  rw[kr] at h;let#[v,r,rfl,c,d]:=h;show .cons c (d.append g)
theorem kr.length{H:Hp}:∀{l:jr}{a:jf},kr H l a->↑l=↑a
 |[],a,h=>by rw[kr] at h;subst h;rfl
 |t::l,a,h=>by
  rw[kr] at h;let#[v,r,rfl,_,b]:=h;rw[yX,yX,↑b]
theorem kr.get{H:Hp}:∀{l:jr}{a:jf}{i:Nat}{v:V},kr H l a->a[i]?\v->∃ t,l[i]?\t/\ZG H t v
 |[],a,i,v,h,e=>by rw[kr] at h;subst h;simp at e
 |t::l,a,0,v,h,e=>by
  rw[kr] at h;let#[j,r,rfl,d,_]:=h;simp at e;subst e;show#[t,Z,d]
 |t::l,a,i+1,v,h,e=>by
  rw[kr] at h;let#[j,r,rfl,_,f]:=h;let#[g,b,c]:=f.get (i:=i) #v[e]
  show#[g,#v[b],c]
theorem kr.take{H:Hp}:∀{l:jr}{a:jf}(n:Nat),kr H l a->kr H (l.take n) (a.take n)
 |l,a,0,_=>by simp only[vC];show .nil
 |[],a,n+1,h=>by rw[kr] at h;subst h;show .nil
 |t::l,a,n+1,h=>by
  rw[kr] at h;let#[d,r,rfl,b,c]:=h;show .cons b (c.take n)
noncomputable def KT.ty:KT->ai
 |.int _=>.type "int"
 |.str _=>.type "str"
 |.tup _=>.type "tuple"
def ZG.ty{H:Hp}{K:zZ}{t:KT}{v:V}(h:ZG H t v):XE K H v t.ty:=by
 cases t with
 |int i=>rw[ZG] at h;subst h;show .int i
 |str x=>rw[ZG] at h;subst h;show .str x
 |tup l=>rw[ZG] at h;let#[a,b,rfl,e,_]:=h;show .tup e
def ZI(p:aj)(H a:Hp):=∀ b o,H b\o->b≠p->a b\o
def ZI.refl(p:aj)(H:Hp):ZI p H H:=λ_ _ h _=>h
def ZI.trans{p:aj}{H d e:Hp}(a:ZI p H d)(b:ZI p d e):ZI p H e:=λc o h n=>b c o (a c o h n) n
def ZI.upd{p:aj}{H b:Hp}{o:HO}(a:ZI p H b):ZI p H (Tw.upd b p o):=λc u h n=>#v[ZM n,a c u h n]
def ZI.of{p:aj}{H b:Hp}(a:ZC H b):ZI p H b:=λc o h _=>a c o h
def ZI.tups{p:aj}{H c:Hp}{d:jf}(a:ZI p H c)(h:H p\.lst d):YI H c:=λb f e=>a b _ e (ZE e h)
def ZC.tups{H c:Hp}(a:ZC H c):YI H c:=λb d e=>a b _ e
def ZG.sm{H a:Hp}{t:KT}{v:V}(h:ZG H t v)(s:ZC H a):ZG a t v:=h.mono (ZC.tups s) _ _
def kr.sm{H a:Hp}{t:jr}{v:jf}(h:kr H t v)(s:ZC H a):kr a t v:=h.mono (ZC.tups s) _ _
def Zf{H:Hp}{p:aj}(h:H p=Y')(o:HO):ZC H (Tw.upd H p o):=λb u q=>#v[ZM (ZW q h),q]
structure ZJ(H:Hp)(p:aj):Prop where
 ex:∃ a b c d:Int,H p\.lst [-a,-b,-c,-d]/\0<=a/\a<2147483647/\0<=c/\0<=d
def ZJ.same{H f:Hp}{p:aj}(w:ZJ H p)(s:ZC H f):ZJ f p:=by
 let#[a,b,c,d,e,r]:=w.ex;show#[a,b,c,d,s p _ e,r]
def ZJ.some{H:Hp}{p:aj}(w:ZJ H p):∃ f,H p=zB (.lst f):=by
 let#[a,b,c,d,e,r]:=w.ex;show#[_,e]
def ZI.tupsW{p:aj}{H b:Hp}(a:ZI p H b)(w:ZJ H p):YI H b:=by
 let#[c,e]:=w.some;show a.tups e
def FI(m:Int):Prop:=0<m/\m.natAbs.log2<9000
inductive UI(K:zZ)(d:jf)(H:Hp)(Q:VK)(_:XK):Prop
 |mk(a:aj)(c:jz)(k:Int)(_:d=[!a,-k])(_:ZH K H a (c.map V.int))(_:↑c<=63)(_:0<=k)(_:k<=1000)(_:∀(p:aj)(b:Hp),H p=Y'->ZC H b->ZJ b p->Q (!p) b)
inductive Yp(b:jf)(H:Hp)(Q:VK)(_:XK):Prop
 |mk(p:aj)(m:Int)(_:b=[!p,-m])(_:ZJ H p)(_:FI m)(_:∀(r:Int)(a:Hp),0<=r->r<m->ZJ a p->ZI p H a->Q (-r) a)
inductive Xm(n:Nat)(b:jf)(H:Hp)(Q:VK)(_:XK):Prop
 |mk(v:V)(t:KT)(r q:Nat)(_:b=[v,.int (r:Int)])(_:ZG H t v)(_:t.fits q=X')(_:r<n)(_:∀ a,ZC H a->Q (.bl (t.fits r)) a)
inductive Um(a:jf)(H:Hp)(Q:VK)(_:XK):Prop
 |mk(i:Int)(_:a=[-i])(_:Q (.bl (ng (i.natAbs<10^60))) H)
inductive VJ(a:jf)(H:Hp)(Q:VK)(_:XK):Prop
 |mk(c:Nat)(_:a=[.str ⟨⇑[c]⟩])(_:Q (.bl (Qs c)) H)
inductive Vc(b:jf)(H:Hp)(Q:VK)(_:XK):Prop
 |mk(v:V)(t:KT)(q:Nat)(_:b=[v])(_:ZG H t v)(_:t.fits q=X')(_:∀ a,ZC H a->Q (.bl (t.fits 3)) a)
def nw{n:Nat}(h:n<=1000):n<=sizeLine:=yJ (YM h)
def YJ{n:Nat}(h:Nat.ble n 1000=X':=by rfl):n<=sizeLine:=nw (yR h)
theorem nG{x y:V}{i:Int}(a:0<=i)(b:i<2):∃ v,Xs [x,y] i\v/\(v=x\/v=y):=by
 rcases(show i=0\/i=1 by lia) with e|e
 .subst e;show#[x,Z,.inl Z]
 .subst e;show#[y,Z,.inr Z]
theorem K3{b:Type}{xs:List b}{i:Int}(c:0<=i)(d:i<(↑xs:Int)):∃ v,Xs xs i\v/\v∈xs:=by
 let a:i.toNat<↑xs:=()
 let e:i=((i.toNat:Nat):Int):=()
 rwa[e,#[xs[i.toNat],Xu (zW a),yH a]]
theorem UW{m:Int}(a:0<m)(b:m.natAbs<2^250):FI m:=by
 exists a;have:m.natAbs.log2<250:=(Nat.log2_lt ()).mpr b
 lia
def sf{i j:Int}(h:V.int i=V.int j):i=j:=by injection h
theorem ug(c:Nat):((!ng ([c]<[32]))&&!ng ([126]<[c]))=Qs c:=by
 unfold Qs;let a:([c]<[32])↔c<32:=by simp[tV]
 let b:([126]<[c])↔126<c:=by simp[tV]
 rw[wU];simp only[zQ,rS,decide_eq_false_iff_not,decide_eq_true_eq,a,b]
 lia
theorem zn(i:Int):ng ((if i<0 then -(i) else i)<10^(60:Int).toNat)=ng (i.natAbs<10^60):=by
 let e:((10:Int)^(60:Int).toNat)=((10^60:Nat):Int):=by decide +kernel
 rw[e];generalize (10^60:Nat)=N;apply decide_eq_decide.mpr;split<;>lia
theorem Ez:∀(l m:jq),l<m->¬ m<l
 |[],[],h,_=>mZ h (uI _)
 |[],_::_,_,h=>mZ h (uI _)
 |_::_,[],h,_=>mZ h (uI _)
 |a::l,b::m,h,c=>by
  rw[tV] at h c;rcases h with h|⟨rfl,h⟩
  .rcases c with c|⟨rfl,c⟩
   .lia
   .lia
  .rcases c with c|⟨_,c⟩
   .lia
   .show Ez l m h c
theorem Em:∀(l m:jq),¬ l<m->¬ m<l->l=m
 |[],[],_,_=>rfl
 |[],_::_,h,_=>mZ (rX _ _) h
 |_::_,[],_,h=>mZ (rX _ _) h
 |a::l,b::m,h,h'=>by
  rw[tV] at h h';let e:a=b:=by
   rcases Nat.lt_trichotomy a b with c|c|c
   .show mZ (.inl c) h
   .show c
   .show mZ (.inl c) h'
  subst e;rw[Em l m (λz=>h (.inr #[Z,z])) λz=>h' (.inr #[Z,z])]
theorem Cp:∀(l m k:jq),l<m->m<k->l<k
 |_,_,[],_,h=>mZ h (uI _)
 |[],_,_::_,_,_=>rX _ _
 |_::_,[],_,h,_=>mZ h (uI _)
 |a::l,b::m,c::k,h,d=>by
  rw[tV] at h d⊢;rcases h with h|⟨rfl,h⟩
  .rcases d with d|⟨rfl,d⟩
   .show .inl (Nat.lt_trans h d)
   .show .inl h
  .rcases d with d|⟨rfl,d⟩
   .show .inl d
   .show .inr #[Z,Cp l m k h d]
def T5(a b:KT):a.eqb b=b.eqb a:=by
 rwa[wU,Yr,Yr,eq_comm]
mutual
theorem Mj:∀(a b:KT),a.lt b=X'->b.lt a=false
 |.int i,.int j,h=>by rw[KT.lt] at h⊢;have:=of_decide_eq_true h;show aK ()
 |.int _,.str _,_=>by rw[KT.lt]
 |.int _,.tup _,_=>by rw[KT.lt]
 |.str _,.int _,h=>by erw[KT.lt] at h
 |.str x,.str y,h=>by rw[KT.lt] at h⊢;show aK (Ez _ _ (of_decide_eq_true h))
 |.str _,.tup _,_=>by rw[KT.lt]
 |.tup _,.int _,h=>by erw[KT.lt] at h
 |.tup _,.str _,h=>by erw[KT.lt] at h
 |.tup l,.tup m,h=>by rw[KT.lt] at h⊢;show ltL_asym l m h
theorem ltL_asym:∀(l m:jr),ltL l m=X'->ltL m l=false
 |[],[],h=>by erw[ltL] at h
 |[],_::_,_=>by rw[ltL]
 |_::_,[],h=>by erw[ltL] at h
 |a::l,b::m,h=>by
  rw[ltL] at h⊢;rw[T5 b a]
  cases e:a.eqb b with
  |true=>rw[e,aP rfl] at h;rwa[aP Z,ltL_asym l m h]
  |false=>rw[e,aO zN] at h;rwa[aO zN,Mj a b h]
end
mutual
theorem Dk:∀(a b:KT),a.lt b=false->b.lt a=false->a=b
 |.int i,.int j,h,h'=>by rw[KT.lt] at h h';have:=of_decide_eq_false h;have:=of_decide_eq_false h';rw[show i=j by lia]
 |.int _,.str _,h,_=>by erw[KT.lt] at h
 |.int _,.tup _,h,_=>by erw[KT.lt] at h
 |.str _,.int _,_,h=>by erw[KT.lt] at h
 |.str x,.str y,h,h'=>by
  rw[KT.lt] at h h';let e:=Em _ _ (of_decide_eq_false h) (of_decide_eq_false h');let#[#[x]]:=x;let#[#[y]]:=y;dsimp only at e;rw[e]
 |.str _,.tup _,h,_=>by erw[KT.lt] at h
 |.tup _,.int _,_,h=>by erw[KT.lt] at h
 |.tup _,.str _,_,h=>by erw[KT.lt] at h
 |.tup l,.tup m,h,h'=>by rw[KT.lt] at h h';rw[ltL_total l m h h']
theorem ltL_total:∀(l m:jr),ltL l m=false->ltL m l=false->l=m
 |[],[],_,_=>rfl
 |[],_::_,h,_=>by erw[ltL] at h
 |_::_,[],_,h=>by erw[ltL] at h
 |a::l,b::m,h,h'=>by
  rw[ltL] at h h';rw[T5 b a] at h'
  cases e:a.eqb b with
  |true=>rw[e,aP rfl] at h h';rw[Yr.mp e,ltL_total l m h h']
  |false=>
   rw[e,aO zN] at h h';have:=Dk a b h h';erw[this,MU] at e
end
def NT(a:KT):a.lt a=false:=by
 cases h:a.lt a with
 |false=>rfl
 |true=>have:=Mj a a h;erw[h] at this
mutual
theorem U':∀(a b c:KT),a.lt b=X'->b.lt c=X'->a.lt c=X'
 |.int i,.int j,.int k,h,h'=>by rw[KT.lt] at h h'⊢;have:=of_decide_eq_true h;have:=of_decide_eq_true h';show aM ()
 |.int _,_,.str _,_,_=>by rw[KT.lt]
 |.int _,_,.tup _,_,_=>by rw[KT.lt]
 |.str _,_,.tup _,_,_=>by rw[KT.lt]
 |.int _,.str _,.int _,_,h=>by erw[KT.lt] at h
 |.int _,.tup _,.int _,_,h=>by erw[KT.lt] at h
 |.str _,.int _,_,h,_=>by erw[KT.lt] at h
 |.str x,.str y,.str z,h,h'=>by rw[KT.lt] at h h'⊢;show aM (Cp _ _ _ (of_decide_eq_true h) (of_decide_eq_true h'))
 |.str _,.str _,.int _,_,h=>by erw[KT.lt] at h
 |.str _,.tup _,.str _,_,h=>by erw[KT.lt] at h
 |.str _,.tup _,.int _,_,h=>by erw[KT.lt] at h
 |.tup _,.int _,_,h,_=>by erw[KT.lt] at h
 |.tup _,.str _,_,h,_=>by erw[KT.lt] at h
 |.tup l,.tup m,.tup k,h,h'=>by rw[KT.lt] at h h'⊢;show ltL_trans l m k h h'
 |.tup _,.tup _,.int _,_,h=>by erw[KT.lt] at h
 |.tup _,.tup _,.str _,_,h=>by erw[KT.lt] at h
theorem ltL_trans:∀(l m k:jr),ltL l m=X'->ltL m k=X'->ltL l k=X'
 |_,[],[],_,h=>by erw[ltL] at h
 |_,_::_,[],_,h=>by erw[ltL] at h
 |[],_,_::_,_,_=>by rw[ltL]
 |_::_,[],_::_,h,_=>by erw[ltL] at h
 |a::l,b::m,c::k,h,h'=>by
  rw[ltL] at h h'⊢
  cases e:a.eqb b with
  |true=>
   rw[e,aP rfl] at h;let ab:=Yr.mp e;subst ab
   cases e2:a.eqb c with
   |true=>rw[e2,aP rfl] at h';rwa[aP Z,ltL_trans l m k h h']
   |false=>rw[e2,aO zN] at h';rwa[aO zN,h']
  |false=>
   rw[e,aO zN] at h
   cases e2:b.eqb c with
   |true=>
    let bc:=Yr.mp e2;subst bc;rwa[e,aO zN,h]
   |false=>
    rw[e2,aO zN] at h';let ac:=U' a b c h h'
    cases e3:a.eqb c with
    |true=>
     have:=Yr.mp e3;subst this;erw[NT] at ac
    |false=>rwa[aO zN,ac]
end
def TW{a b c:KT}(f:b.lt a=false)(d:c.lt b=false):c.lt a=false:=by
 cases h:c.lt a with
 |false=>rfl
 |true=>
  cases e:a.lt b with
  |true=>erw[U' c a b h e] at d
  |false=>erw[Dk a b e f,d] at h
mutual
def ZY(h:aD):KT->ai->Prop
 |.int i,v=>∃ t,v=.int i t
 |.str x,v=>∃ t,v=.str x t
 |.tup l,v=>∃(a:aj)(its:je),v=.ref a/\IsTup h a ⇑its/\ku h l its
def ku(h:aD):jr->je->Prop
 |[],vs=>vs=[]
 |t::l,vs=>∃ v r,vs=v::r/\ZY h t v/\ku h l r
end
section
variable{kE:jw}{σ:Tw.St}{H:Hp}
mutual
theorem Kb(I:ZF X kE σ H s):∀(t:KT)(x:V)(v:ai),ZG H t x->ZT x v->ZY s.heap t v
 |.int i,x,v,h,r=>by
  rw[ZG] at h;subst h;rwa[ZY,r]
 |.str y,x,v,h,r=>by
  rw[ZG] at h;subst h;rwa[ZY,r]
 |.tup l,x,v,h,r=>by
  rw[ZG] at h;let#[a,vs,rfl,e,hk]:=h;let#[its,rv,pl,_]:=I.tuple (Zc.of e);rwa[ZY,#[a,its,r,pl,kvals_of I l vs its hk rv]]
theorem kvals_of(I:ZF X kE σ H s):∀(l:jr)(vs:jf)(us:je),kr H l vs->ZR vs us->ku s.heap l us
 |[],vs,us,h,r=>by
  rw[kr] at h;subst h;rw[ku];cases r;rfl
 |t::l,vs,us,h,r=>by
  rw[kr] at h;let#[v,q,rfl,h1,h2]:=h
  cases r with
  |cons r1 r2=>
   rwa[ku,#[_,1,Kb I t v _ h1 r1,kvals_of I l q _ h2 r2]]
end
end
def Bp{h:aD}{a:aj}{c b:je}(x:IsTup h a ⇑c)(y:IsTup h a ⇑b):c=b:=by
 let#[o,e,_,n,d]:=x;let#[j,g,_,i,f]:=y;erw[e] at g;rw[d] at f;injection f with d1 _;simpa using congrArg mU d1
mutual
theorem ZY.inj{h:aD}:∀(a b:KT)(v:ai),ZY h a v->ZY h b v->a.eqb b=X'
 |.int i,b,v,x,y=>by
  rw[ZY] at x;let#[t,rfl]:=x
  cases b with
  |int j=>rw[ZY] at y;let#[u,e]:=y;injection e with e _;rwa[KT.eqb,e,beq_self_eq_true j]
  |str z=>rw[ZY] at y;let#[u,e]:=y;cases e
  |tup m=>rw[ZY] at y;let#[_,_,e,_]:=y;cases e
 |.str w,b,v,x,y=>by
  rw[ZY] at x;let#[t,rfl]:=x
  cases b with
  |int j=>rw[ZY] at y;let#[u,e]:=y;cases e
  |str z=>rw[ZY] at y;let#[u,e]:=y;injection e with e _;rwa[KT.eqb,e,beq_self_eq_true z]
  |tup m=>rw[ZY] at y;let#[_,_,e,_]:=y;cases e
 |.tup l,b,v,x,y=>by
  rw[ZY] at x;let#[p,its,rfl,px,kx]:=x
  cases b with
  |int j=>rw[ZY] at y;let#[u,e]:=y;cases e
  |str z=>rw[ZY] at y;let#[u,e]:=y;cases e
  |tup m=>
   rw[ZY] at y;let#[q,its',e,py,ky]:=y;cases e;cases Bp px py;rwa[KT.eqb,ku.inj l m its kx ky]
theorem ku.inj{h:aD}:∀(l m:jr)(us:je),ku h l us->ku h m us->kz l m=X'
 |[],m,us,x,y=>by
  rw[ku] at x;subst x
  cases m with
  |nil=>rw[kz]
  |cons b m=>rw[ku] at y;let#[_,_,e,_]:=y;cases e
 |a::l,m,us,x,y=>by
  rw[ku] at x;let#[v,r,rfl,x1,x2]:=x
  cases m with
  |nil=>erw[ku] at y
  |cons b m=>
   rw[ku] at y;let#[v',r',e,y1,y2]:=y;injection e with e1 e2;subst e1 e2;rw[kz,ZY.inj a b v x1 y1,ku.inj l m r x2 y2];rfl
end
theorem ku.length{h:aD}:∀{l:jr}{b:je},ku h l b->↑l=↑b
 |[],b,x=>by rw[ku] at x;subst x;rfl
 |a::l,b,x=>by
  rw[ku] at x;let#[v,r,rfl,_,c]:=x;rw[yX,yX,↑c]
theorem ku.get{h:aD}:∀{l:jr}{b:je}{j:Nat}{u:ai},ku h l b->b[j]?\u->∃ t,l[j]?\t/\ZY h t u
 |[],b,j,u,x,e=>by rw[ku] at x;subst x;simp at e
 |a::l,b,0,u,x,e=>by
  rw[ku] at x;let#[v,r,rfl,f,_]:=x;simp at e;subst e;show#[a,Z,f]
 |a::l,b,j+1,u,x,e=>by
  rw[ku] at x;let#[v,r,rfl,_,g]:=x;let#[t,c,d]:=g.get (j:=j) #v[e]
  show#[t,#v[c],d]
theorem Na:∀{l:jr}{t:KT},t∈l->t.depth<=kB l
 |[],_,h=>by cases h
 |u::l,t,h=>by
  rw[kB];rcases zD.mp h with e|h
  .subst e;lia
  .have:=Na h;lia
theorem EK:∀(l m:jr),((zP (min ↑l ↑m)).all (λj=>(l.getD j (.int 0)).eqb (m.getD j (.int 0)))&&↑l==↑m)=kz l m
 |[],[]=>by simp[kz]
 |[],_::_=>by simp[kz]
 |_::_,[]=>by simp[kz]
 |a::l,b::m=>by
  let c:=EK l m;let e:min ↑(a::l) ↑(b::m)=min ↑l ↑m+1:=by simp only[yX];lia
  rw[e,List.range_succ_eq_map,tQ,vT,kz,<-c,Bool.and_assoc];simp[Function.comp_def]
theorem Ht{s:ak}:∀(n:Nat)(a b:KT)(A:ax)(v u:ai),a.depth<=n->ZY s.heap a v->ZY s.heap b u->A.units+a.depth<cLine->SeqAt.EqAt A s v u (a.eqb b)
 |n,.int i,b,A,v,u,_,x,y,o=>by
  rw[ZY] at x;let#[t,rfl]:=x;let d:A.units<cLine:=()
  cases b with
  |int j=>rw[ZY] at y;let#[g,rfl]:=y;rwa[KT.eqb,SeqAt.EqAt.int_int i t j g]
  |str z=>rw[ZY] at y;let#[g,rfl]:=y;rwa[show (KT.int i).eqb (.str z)=false by simp[KT.eqb],SeqAt.EqAt.int_str i t z g]
  |tup m=>rw[ZY] at y;let#[p,f,rfl,k,_]:=y;rwa[show (KT.int i).eqb (.tup m)=false by simp[KT.eqb],SeqAt.EqAt.int_tuple i t k d]
 |n,.str w,b,A,v,u,_,x,y,o=>by
  rw[ZY] at x;let#[t,rfl]:=x;let d:A.units<cLine:=()
  cases b with
  |int j=>rw[ZY] at y;let#[g,rfl]:=y;rwa[show (KT.str w).eqb (-j)=false by simp[KT.eqb],SeqAt.EqAt.str_int w t j g]
  |str z=>rw[ZY] at y;let#[g,rfl]:=y;rwa[KT.eqb,SeqAt.EqAt.str_str w t z g]
  |tup m=>rw[ZY] at y;let#[p,f,rfl,k,_]:=y;rwa[show (KT.str w).eqb (.tup m)=false by simp[KT.eqb],SeqAt.EqAt.str_tuple w t k d]
 |0,.tup l,b,A,v,u,C,x,y,o=>by
  rw[KT.depth] at C
  lia
 |n+1,.tup l,b,A,v,u,C,x,y,o=>by
  let U:=x;rw[ZY] at x;let#[p,f,rfl,D,G]:=x;rw[KT.depth] at C o;let d:A.units<cLine:=()
  cases b with
  |int j=>rw[ZY] at y;let#[g,rfl]:=y;rwa[show (KT.tup l).eqb (-j)=false by simp[KT.eqb],SeqAt.EqAt.tuple_int j g D d]
  |str z=>rw[ZY] at y;let#[g,rfl]:=y;rwa[show (KT.tup l).eqb (.str z)=false by simp[KT.eqb],SeqAt.EqAt.tuple_str z g D d]
  |tup m=>
   let V:=y;rw[ZY] at y;let#[q,c,rfl,k,H]:=y;by_cases h:p=q
   .subst h;rwa[ZY.inj _ _ _ U V,SeqAt.EqAt.same _]
   .let S:=↑G;let T:=↑H;let I:=SeqAt.RcAt.tuples (A:=A) (s:=s) (e:=λj=>(l.getD j (.int 0)).eqb (m.getD j (.int 0))) D k d (λj O P=>by
     let r:j<↑f:=by simpa using O
     let B:j<↑c:=by simpa using P
     let#[E,F,Q]:=G.get (j:=j) (u:=f[j]) (by simp[r])
     let#[J,K,R]:=H.get (j:=j) (u:=c[j]) (by simp[B])
     let W:=Na (yY F);let M:l.getD j (.int 0)=E:=by rw[zV,F];rfl
     let N:m.getD j (.int 0)=J:=by rw[zV,K];rfl
     have:=Ht n E J A.in1 f[j] c[j] () Q R (by change A.units+1+E.depth<cLine;lia)
     change SeqAt.EqAt A.in1 s _ _ ((l.getD j (.int 0)).eqb (m.getD j (.int 0)));rw[M,N];simpa using this)
    let L:((zP (min f.toArray.size c.toArray.size)).all (λj=>(l.getD j (.int 0)).eqb (m.getD j (.int 0)))&&f.toArray.size==c.toArray.size)=(KT.tup l).eqb (.tup m):=by
     rwa[zM,zM,<-S,<-T,KT.eqb,EK l m]
    rw[L] at I;show .of_refs h I
def YO(o:Bool)(a b:KT):Bool:=bif o then !b.plt a else a.plt b
def PU(o:Bool)(l m:jr):Bool:=bif o then !pltL m l else pltL l m
def sk{o:Bool}{a c:KT}{l m:jr}:PU o (a::l) (c::m)=if a.eqb c=X' then PU o l m else YO o a c:=by
 unfold PU YO;rw[pltL,pltL,T5 c a];cases o<;>cases a.eqb c<;>rfl
theorem wg{o:Bool}{l m:jr}{i j:Nat}(h:l=[]\/m=[])(e:↑l+j=↑m+i):PU o l m=bif o then ng (i<=j) else ng (i<j):=by
 rcases h with rfl|rfl
 .cases m<;>cases o<;>simp[PU,pltL] at e⊢ <;> lia
 .cases l<;>cases o<;>simp[PU,pltL] at e⊢ <;> lia
def Lc(o:Bool)(A:ax)(s:ak)(v u:ai)(b:Bool):Prop:=
 ∀(a:am)(w:aw)(E:ja)(Q:ja),Q (.bool b) s->aB (aA a w) A (richCompare (bif o then .LtE else .Lt) v u) Q E s
section
open PySem.SeqAt
open PySem.AutoSeq1 (wpAny_loadPart')
open PySem.MeetsSeq PySem.MeetsSeq2 PySem.MeetsSeq3
inductive EV(c:aD)(d:jr)(n m:Nat)(G:jr->jr->Prop)(rest:List (ai×ai)):Prop
 |mk(e f:je)(a b:jr):rest=e.zip f->ku c a e->ku c b f->(∀ x∈a,x∈d)->cmpL a b=X'->↑a+m=↑b+n->G a b->EV c d n m G rest
theorem BA(o:Bool)(l b:aj)(f e:jA)(n n2:Nat)(dd K:jB)(sl O:Array (jd))(D J:jr):
  Meets ((bif o then Builtin.«tuple.__le__» else Builtin.«tuple.__lt__») #[[!l,!b],[]])
   (λA R s=>s.heap.get? l\{ cls:=.type "tuple",dict:=dd,data:=.seq f n,slots:=sl }/\s.heap.get? b=Z' { cls:=.type "tuple",dict:=K,data:=.seq e n2,slots:=O } /\
    ku s.heap D f.toList/\ku s.heap J e.toList/\cmpL D J=X' /\
    (∀ x y v u,x∈D->ZY s.heap x v->ZY s.heap y u->EqAt A.in1 s v u (x.eqb y))/\(∀ x y v u,x∈D->ZY s.heap x v->ZY s.heap y u->x.cmp y=X'->Lc o A.in1 s v u (YO o x y)) /\
    R (.ok (.ret (.bool (PU o D J)))) s):=by
 let P:=@sk o;let Q:=@wg o;generalize PU o=F at P Q⊢;cases o
 all_goals
  dsimp only[cond_true,cond_false];show .of_wp λC w A R s h=>?_;let#[L,g,d,Y,X]:=s;let#[hl,hb,S,T,hc,hE,hL,h]:=h;let f2:=AutoSeq1.sub_tuple_tuple;let z1:f.size=↑D:=by rw[↑S];simp
  let z2:e.size=↑J:=by rw[↑T];simp
  wp_walk using wpAny_loadPart' hl,wpAny_loadPart' hb,wpAny_forIn_list _ (λrest b N=>b.1=Y'/\N=#[L,g,d,Y,X]/\EV L D f.size e.size (λa b=>R (.ok (.ret (.bool (F a b)))) #[L,g,d,Y,X]) rest) _
  case turn=>
   rintro⟨y,x⟩ rest b N ⟨E,rfl,vs,ws,q,r,p,i,j,t,k,m,B⟩
   cases q with
   |nil=>rw[ku] at i;subst i;erw[List.zip_nil_left] at p
   |cons a q=>
    cases r with
    |nil=>rw[ku] at j;subst j;erw[List.zip_nil_right] at p
    |cons c r=>
     rw[ku] at i j;let#[v,vr,rfl,V,H]:=i;let#[u,ur,rfl,W,I]:=j;rw[List.zip_cons_cons] at p;injection p with hyx hrest;injection hyx with hy M;subst hy M;rw[P] at B;rw[cmpL] at k;simp only[yX] at m;let he:=hE a c y x (t a zT) V W;show aa (he C w _ _ ?_)
     cases U:a.eqb c with
     |true=>
      rw[U,aP rfl] at B k
      wp_walk
      show#[Z,Z,_,_,_,_,hrest,H,I,λz p=>t z (zE _ p),k,(),B]
     |false=>
      rw[U,aO zN] at B k;let G:=hL a c y x (t a zT) V W k C w;dsimp only[cond_true,cond_false] at G
      wp_walk using G
      show#[1,#v[B]]
  case fin=>
   rintro⟨b1,b2⟩ N ⟨E,rfl,vs,ws,q,r,p,i,j,t,k,m,B⟩;simp only at E;subst E;rw[Q (by
    cases q with
    |nil=>show .inl Z
    |cons a q=>
     cases r with
     |nil=>show .inr Z
     |cons c r=>
      rw[ku] at i j;let#[v,vr,rfl,_,_]:=i;let#[u,ur,rfl,_,_]:=j;erw[List.zip_cons_cons] at p) m] at B
   wp_walk
   show#[1,by simpa [Builtin.Tuple.tupleCompareSizes] using B]
  case h=>
   show#[Z,Z,f.toList,e.toList,D,J,Z,S,T,λ_ M=>M,hc,(),h]
end
theorem E9(o:Bool){s:ak}:∀(n:Nat)(a b:KT)(A:ax)(v u:ai),a.depth<=n->ZY s.heap a v->ZY s.heap b u->a.cmp b=X'->A.units+a.depth<cLine->Lc o A s v u (YO o a b)
 |n,.int i,b,A,v,u,_,x,y,d,H=>by
  rw[ZY] at x;let#[t,rfl]:=x
  cases b with
  |int j=>
   rw[ZY] at y;let#[D,rfl]:=y;unfold YO;rw[KT.plt,KT.plt];intro c w E Q h;cases o
   .show HT.rcLt_int A s i t j D c w E Q h
   .show(le_int #v[show ng (i<=j)=!ng (j<i) by by_cases z:j<i<;>simp[z]<;>lia,h]:aB (aA c w) A (az .LtE (.int i t) (.int j D)) Q E s)
  |str z=>simp[KT.cmp] at d
  |tup m=>simp[KT.cmp] at d
 |n,.str w,b,A,v,u,_,x,y,d,H=>by
  rw[ZY] at x;let#[t,rfl]:=x
  cases b with
  |int j=>simp[KT.cmp] at d
  |str z=>
   rw[ZY] at y;let#[D,rfl]:=y;unfold YO;rw[KT.plt,KT.plt];intro c w' E Q h;cases o
   .show(lt_str h:aB (aA c w') A (az .Lt (.str w t) (.str z D)) Q E s)
   .show(PySem.P.le_str h:aB (aA c w') A (az .LtE (.str w t) (.str z D)) Q E s)
  |tup m=>simp[KT.cmp] at d
 |0,.tup l,b,A,v,u,K,x,y,d,H=>by
  rw[KT.depth] at K
  lia
 |n+1,.tup l,b,A,v,u,K,x,y,d,H=>by
  rw[ZY] at x;let#[p,M,rfl,px,kx]:=x;rw[KT.depth] at K H;let B:A.units<cLine:=()
  cases b with
  |int j=>simp[KT.cmp] at d
  |str z=>simp[KT.cmp] at d
  |tup m=>
   rw[ZY] at y;let#[q,C,rfl,py,ky]:=y;rw[KT.cmp] at d;let e:YO o (.tup l) (.tup m)=PU o l m:=by
    unfold YO PU;rw[KT.plt,KT.plt]
   rw[e];intro c w E Q h;let#[#[nB,dd,data,sl],G,k,R,Y]:=id px;let#[#[V,J,I,U],f,g,S,r]:=id py;simp only at k Y g r;subst k Y g r;let W:∀ x y v u,x∈l->ZY s.heap x v->ZY s.heap y u->SeqAt.EqAt A.in1 s v u (x.eqb y):=λx y v u L N O=>by
    let d1:=Na L;show Ht x.depth x y A.in1 v u (zY _) N O (by change A.units+1+x.depth<cLine;lia)
   let X:∀ x y v u,x∈l->ZY s.heap x v->ZY s.heap y u->x.cmp y=X'->Lc o A.in1 s v u (YO o x y):=λx y v u L N O k3=>by
    let d1:=Na L;show E9 o n x y A.in1 v u () N O k3 (by change A.units+1+x.depth<cLine;lia)
   let T:=BA o p q ⇑M ⇑C R S dd J sl U l m;cases o
   .show richCompare_meets_room (op:=.Lt) #[_,G,Z] #[_,f,Z] PySem.F.slot_tuple_lt PySem.F.entry_tuple_lt (PySem.F.args_tuple_lt_2 _ _) T #[G,f,kx,ky,d,W,X,(λx=>nomatch x),h] B
   .show richCompare_meets_room (op:=.LtE) #[_,G,Z] #[_,f,Z] PySem.F.slot_tuple_le PySem.F.entry_tuple_le (PySem.F.args_tuple_le_2 _ _) T #[G,f,kx,ky,d,W,X,(λx=>nomatch x),h] B
def Fc{s:ak}(n:Nat)(a b:KT)(A:ax)(v u:ai):a.depth<=n->ZY s.heap a v->ZY s.heap b u->a.cmp b=X'->A.units+a.depth<cLine->Lc false A s v u (a.plt b):=E9 false n a b A v u
theorem Za.key{k:Nat}{A:ax}(r:Za k A){n:Nat}(h:n<=200):A.units+n<cLine:=by have:=r.un;lia
inductive GN(x y:V)(H:Hp)(Q:VK):Prop
 |mk(a b:_)(_:ZG H a x)(_:ZG H b y)(_:a.cmp b=X')(_:a.depth<=200)(_:Q (.bl (a.plt b)) H)
def EX{k:Nat}(i:Za k X.A):Yz X (az .Lt) GN:=by
 intro c s m H x y v u Q I j l h;let#[a,b,d,e,f,g,q]:=h;show Fc a.depth a b X.A v u (zY _) (Kb I a x v d j) (Kb I b y u e l) f (Za.key i g) X.prog X.w X.xe _ #[.bl _,H,I,Z,q]
end Tw
namespace Tw
open PySem PySem.Spec PyProof.Rows
def ZF.big{a:jw}{b:St}{H:Hp}{s:ak}(I:ZF X a b H s):sysModules<‹s›:=by
 let h:ap<‹s›:=(I.mod.glob.keeps I.bk).lt;show Nat.lt_trans (by decide) h
def Dm{P:am}{w:aw}{H:Hp}(h:aD)(a:sysModules<h.objs.size):Zb P w H (h.push { cls:=.type "dict",data:=.dict ⇑[] }) h.objs.size (.dK []):=
 #[yZ _,beq_eq_false_iff_ne.mpr (Ne.symm (zJ a)),[],.nil,Heap.DictOf.new h]
def zo:TE:=λ_ H Q=>∀ p,H p=Y'->Q (!p) (upd H p (.dK []))
def MF{pos:aJ}:PE X (.Dict [] [] pos) zo:=λb s c H Q I h=>
 wpAny_Dict_empty #[.ref ‹s›,_,I.laid (a:=‹s›) (o:=.dK []) (t':=s.toks) (λ_ _ q=>zS _ q) (zY _) (Dm s.heap I.big),Z,h _ (I.hok.fresh (zY _))]
noncomputable def cV:V->ai
 |.ty n=>.type n
 |.ref a=>!a
 |_=>.none
def CZ:V->Bool
 |.ty _=>true
 |.ref _=>true
 |_=>false
def y6{c:V}{u:ai}(r:ZT c u)(h:CZ c=X'):u=cV c:=by
 cases c with
 |ty n=>show r
 |ref a=>show r
 |_=>cases h
def KI{K:zZ}{b:aD}{v:jc}{x:Str}{C:aj}{d:je}{a:String}(c:K.In b)(E:v x\!C)(q:tZ K C d a=X'):OwnCls x C d a v b:=by
 exists E;unfold tZ at q;split at q
 .rename_i B k y G
  split at q
  .rename_i R A p r s t n u m o
   rw[zQ,zQ,zQ,zQ,zQ] at q;let#[#[#[#[#[J,L],M],N],i],O]:=q;cases eq_of_beq J;cases eq_of_beq L;let e:k.hasDel=false:=by simpa using M
   let f:=eq_of_beq O;let#[I,bs,H,w,P,F,Q,j,z,g,D]:=k;dsimp only at m e i f;subst m e;let h:y=⇑[p,r,s,t,Z' (.builtin a),u]:=by
    let#[l]:=y;simp only at o;rw[o]
   subst h;exists A,w,I,P,bs,F,Q,j,z,g,B,p,r,s,t,u,b.nsMap w,c _ _ G;show#[.of_isNs (PySem.W.isNs_of_in c i),PySem.W.nsMap_none_of_in c i f,ml c N]
  .cases q
 .cases q
def MJ{P:am}{w:aw}{K:zZ}{h:jc}{d:aD}{g:Wh}{N:jv}{c:Str}{a:aE}{f:aj}{e:ai}{A:ax}{b:jF}{s:ak}{H:Hp}{E:XK}:
  PassesOwn (aA (Vn g P w K h d N c a f e A b s H E).prog (Vn g P w K h d N c a f e A b s H E).w) (Vn g P w K h d N c a f e A b s H E).A (Vn g P w K h d N c a f e A b s H E).env (Vn g P w K h d N c a f e A b s H E).xe:=by
 change PassesOwn (aA P w) (A.deeper (envOfC c a ‹s› f e)) (envOfC c a ‹s› f e) _
 passes_own
def Pt:Expr->Bool
 |.Starred _ _=>false
 |_=>true
def Ww{e:Expr}{b:jC}{a:Env}(h:Pt e=X'):ar (e::b) a=(false,aH e a)::ar b a:=by
 cases e<;>first|rfl|cases h
def NY{X:Cx}{e:Expr}{a:jC}{b:TE}{t:TA}(c:PE X e b)(d:PA X a t)(h:Pt e=X':=by rfl):PA X (e::a) (Xp b t):=Zi c d (Ww h)
def ZV{X:Cx}{e:Expr}{a:TE}(b:PE X e a)(h:Pt e=X':=by rfl):PA X [e] (Xp a UY):=Zi b Z1 (Ww h)
def Zg{X:Cx}{e d:Expr}{b a:TE}(f:PE X e b)(g:PE X d a)(h:Pt e=X':=by rfl)(c:Pt d=X':=by rfl):PA X [e,d] (Xp b (Xp a UY)):=Zi f (ZV g c) (Ww h)
def QO{X:Cx}{a b c:Expr}{d e f:TE}(g:PE X a d)(i:PE X b e)(j:PE X c f)(h:[a,b,c].all Pt=X':=by rfl):PA X [a,b,c] (Xp d (Xp e (Xp f UY))):=
 (Zi g (Zi i (Zi j Z1 (Ww (zF.mp h c ⋯))) (Ww (zF.mp h b ⋯))) (Ww (zF.mp h a ⋯)))
def OQ{X:Cx}{a b c d:Expr}{e f g i:TE}(j:PE X a e)(k:PE X b f)(l:PE X c g)(m:PE X d i)(h:[a,b,c,d].all Pt=X':=by rfl):PA X [a,b,c,d] (Xp e (Xp f (Xp g (Xp i UY)))):=
 (Zi j (Zi k (Zi l (Zi m Z1 (Ww (zF.mp h d ⋯))) (Ww (zF.mp h c ⋯))) (Ww (zF.mp h b ⋯))) (Ww (zF.mp h a ⋯)))
def SM{X:Cx}{a b c d e:Expr}{f g i j k:TE}(l:PE X a f)(m:PE X b g)(n:PE X c i)(o:PE X d j)(p:PE X e k)(h:[a,b,c,d,e].all Pt=X':=by rfl):PA X [a,b,c,d,e] (Xp f (Xp g (Xp i (Xp j (Xp k UY))))):=
 (Zi l (Zi m (Zi n (Zi o (Zi p Z1 (Ww (zF.mp h e ⋯))) (Ww (zF.mp h d ⋯))) (Ww (zF.mp h c ⋯))) (Ww (zF.mp h b ⋯))) (Ww (zF.mp h a ⋯)))
def SN{X:Cx}{a b c d e f:Expr}{g i j k l m:TE}(n:PE X a g)(o:PE X b i)(p:PE X c j)(q:PE X d k)(r:PE X e l)(s:PE X f m)(h:[a,b,c,d,e,f].all Pt=X':=by rfl):PA X [a,b,c,d,e,f] (Xp g (Xp i (Xp j (Xp k (Xp l (Xp m UY)))))):=
 (Zi n (Zi o (Zi p (Zi q (Zi r (Zi s Z1 (Ww (zF.mp h f ⋯))) (Ww (zF.mp h e ⋯))) (Ww (zF.mp h d ⋯))) (Ww (zF.mp h c ⋯))) (Ww (zF.mp h b ⋯))) (Ww (zF.mp h a ⋯)))
def BQ(N:aj->Prop)(H:Hp)(n:String)(v:V):Prop:=
 (n="bool" /\ ∃ b,v=.bl b)\/(n="NoneType"/\v=.non)\/(n="list" /\ ∃ a d,v=.ref a/\H a\.lst d/\¬ N a)\/(n="dict" /\ ∃ a c,v=.ref a/\H a\.dK c/\¬ N a)
mutual
def Y4(N:aj->Prop)(H:Hp):TG->V->Prop
 |.int i,v=>v=.int i
 |.str x,v=>v=.str x
 |.tup l,v=>∃ a vs,v=.ref a/\H a\.tup vs/\kC N H l vs
 |.odd n,v=>BQ N H n v
def kC(N:aj->Prop)(H:Hp):List TG->jf->Prop
 |[],vs=>vs=[]
 |t::l,vs=>∃ v r,vs=v::r/\Y4 N H t v/\kC N H l r
end
structure OV(N:aj->Prop)(H H':Hp):Prop where
 tup:YI H H'
 rest:∀ b o,H b\o->¬ N b->H' b\o
mutual
theorem Y4.mono{N:aj->Prop}{H H':Hp}(m:OV N H H'):∀(t:TG)(v:V),Y4 N H t v->Y4 N H' t v
 |.int _,_,h=>by rw[Y4] at h⊢;show h
 |.str _,_,h=>by rw[Y4] at h⊢;show h
 |.tup l,_,h=>by
  rw[Y4] at h⊢;let#[a,vs,e,h1,h2]:=h;show#[a,vs,e,m.tup a vs h1,kC.mono m l vs h2]
 |.odd n,_,h=>by
  rw[Y4] at h⊢;rcases h with h|h|⟨e,a,xs,e1,e2,e3⟩|⟨e,a,xs,e1,e2,e3⟩
  .show .inl h
  .show .inr (.inl h)
  .show .inr (.inr (.inl #[e,a,xs,e1,m.rest _ _ e2 e3,e3]))
  .show .inr (.inr (.inr #[e,a,xs,e1,m.rest _ _ e2 e3,e3]))
theorem kC.mono{N:aj->Prop}{H H':Hp}(m:OV N H H'):∀(l:List TG)(vs:jf),kC N H l vs->kC N H' l vs
 |[],_,h=>by rw[kC] at h⊢;show h
 |t::l,_,h=>by
  rw[kC] at h⊢;let#[v,r,e,h1,h2]:=h;show#[v,r,e,Y4.mono m t v h1,kC.mono m l r h2]
end
mutual
theorem Y4.less{N N':aj->Prop}{H:Hp}(m:∀ b,N' b->N b):∀(t:TG)(v:V),Y4 N H t v->Y4 N' H t v
 |.int _,_,h=>by rw[Y4] at h⊢;show h
 |.str _,_,h=>by rw[Y4] at h⊢;show h
 |.tup l,_,h=>by
  rw[Y4] at h⊢;let#[a,vs,e,h1,h2]:=h;show#[a,vs,e,h1,kC.less m l vs h2]
 |.odd n,_,h=>by
  rw[Y4] at h⊢;rcases h with h|h|⟨e,a,xs,e1,e2,e3⟩|⟨e,a,xs,e1,e2,e3⟩
  .show .inl h
  .show .inr (.inl h)
  .show .inr (.inr (.inl #[e,a,xs,e1,e2,λz=>e3 (m a z)]))
  .show .inr (.inr (.inr #[e,a,xs,e1,e2,λz=>e3 (m a z)]))
theorem kC.less{N N':aj->Prop}{H:Hp}(m:∀ b,N' b->N b):∀(l:List TG)(vs:jf),kC N H l vs->kC N' H l vs
 |[],_,h=>by rw[kC] at h⊢;show h
 |t::l,_,h=>by
  rw[kC] at h⊢;let#[v,r,e,h1,h2]:=h;show#[v,r,e,Y4.less m t v h1,kC.less m l r h2]
end
abbrev XF(a:aj)(o:aI):HO:=.ext λh=>h.get? a\o
def KZ{P:am}{w:aw}{H:Hp}{h:aD}{a:aj}{o:aI}(e:h.get? a\o):Zb P w H h a (XF a o):=#[e,#[o,e],λ_ _ b k=>k o b]
def YT.obj{P:am}{w:aw}{H:Hp}{h:aD}{a:aj}{o:aI}(x:YT P w H h)(e:H a\XF a o):h.get? a\o:=(x a _ e).1
def unT(a:jx)(H:Hp):Hp:=λb=>if b∈a then Y' else H b
noncomputable def reT(c:jx)(H a:Hp):Hp:=λb=>if b∈c then H b else a b
def Qu{a:jx}{H:Hp}{b:aj}(h:b∈a):unT a H b=Y':=aP h
def V6{a:jx}{H:Hp}{b:aj}(h:b∉a):unT a H b=H b:=aO h
def MX{a:jx}{H c:Hp}{b:aj}(h:b∈a):reT a H c b=H b:=aP h
def US{c:jx}{H a:Hp}{b:aj}(h:b∉c):reT c H a b=a b:=aO h
def KP{a:jx}{H:Hp}{b:aj}{o:HO}(e:unT a H b\o):b∉a/\H b\o:=by
 by_cases h:b∈a
 .erw[Qu h] at e
 .rw[V6 h] at e;show#[h,e]
def Om{a:jx}{H:Hp}{b:aj}(e:H b=Y'):unT a H b=Y':=by
 by_cases h:b∈a
 .show Qu h
 .rwa[V6 h,e]
section
variable{H H2:Hp}{h h':aD}{cs fs ex:jx}
def YT.unT(d:YT P w H h)(f:∀ c∈cs,∃ o,H c\XF c o):YT P w (Tw.unT cs H) h:=λa o e=>by
 let#[n,e]:=KP e;show(d a o e).stay (λ_ _ _ q=>q) (λc q=>?_) λc i q=>?_
 .rw[V6 λz=>?_];show q;let#[g,b]:=f c z;erw[q] at b
 .rw[V6 λz=>?_];show q;let#[g,b]:=f c z;erw[q] at b
def YT.reT(d:YT P w H2 h)(f:∀ c∈cs,H2 c=Y')(j:∀ c∈cs,∃ o,H c\XF c o/\h.get? c\o):YT P w (Tw.reT cs H H2) h:=λa o e=>by
 by_cases b:a∈cs
 .rw[MX b] at e;let#[k,g,i]:=j a b;erw[g] at e;show KZ i
 .rw[US b] at e;show(d a o e).stay (λ_ _ _ q=>q) (λc q=>?_) λc l q=>?_
  .rw[US λz=>?_];show q;erw[f c z] at q
  .rw[US λz=>?_];show q;erw[f c z] at q
def Am{g:Hp}(u:Un fs ex H g h h')(i:YT P w H h)(e:YT P w g h')(m:∀ c∈cs,∃ o,H c\XF c o/\g c\XF c o):Un fs ex (unT cs H) (unT cs g) h h':=by
 let a:∀ b∈cs,∀ o,h.get? b\o->h'.get? b\o:=λb d o q=>by
  let#[s,k,l]:=m b d;let j:=i.obj k;erw[q] at j;show e.obj l
 show#[λb o q n d f=>?_,λb o q n d f=>?_,λb o q n f=>?_,u.there,λb r q=>?_,λb o v q=>?_,λb p q=>?_]
 .by_cases z:b∈cs
  .show a b z o q
  .rw[V6 z] at n;show u.keep b o q n d f
 .by_cases z:b∈cs
  .show#[o.slots,a b z o q]
  .rw[V6 z] at n;show u.slot b o q n d f
 .by_cases z:b∈cs
  .show Qu z
  .rw[V6 z] at n⊢;show u.free b o q n f
 .let#[z,q]:=KP q;rwa[V6 z,u.tups b r q]
 .let#[z,q]:=KP q;rwa[V6 z,u.frzs b o v q]
 .let#[z,q]:=KP q;rwa[V6 z,u.tbls b p q]
def Ck(u:Un fs ex (unT cs H) H2 h h')(d:∀ c∈cs,∃ o,H c\XF c o):Un fs ex H (reT cs H H2) h h':=by
 let g:∀{b},H b=Y'->b∉cs:=fun{b} n z=>by
  let#[o,e]:=d b z;erw[n] at e
 show#[λb o q n f a=>u.keep b o q (Om n) f a,λb o q n f a=>u.slot b o q (Om n) f a,λb o q n a=>?_,u.there,λb k q=>?_,λb o v q=>?_,λb j q=>?_]
 .rwa[US (g n),u.free b o q (Om n) a]
 .let z:b∉cs:=λz=>by
   let#[i,e]:=d b z;erw[q] at e
  rwa[US z,u.tups b k (by rw[V6 z];show q)]
 .let z:b∉cs:=λz=>by
   let#[i,e]:=d b z;erw[q] at e
  rwa[US z,u.frzs b o v (by rw[V6 z];show q)]
 .let z:b∉cs:=λz=>by
   let#[i,e]:=d b z;erw[q] at e
  rwa[US z,u.tbls b j (by rw[V6 z];show q)]
end
structure VX(H:Hp)(cl:jG)(N:jv)(ws:jf):Prop where
 len:↑ws=↑N
 val:∀(i:Nat)(x:Str)(v:V),N[i]?\x->ws[i]?\v->∃ c o u,cl.lookup x\c/\c∈cl.map (·.2)/\H c\XF c o/\o.data=.cell (Z' u)/\ZT v u
 all:∀ c∈cl.map (·.2),∃ o v,H c\XF c o/\o.data=.cell v
inductive VR(o:aI)(q:Str):Prop
 |mk(a t:_)(_:o.data=.fields a)(_:a[1]?\.str q t)
def M'(H:Hp)(q:Str)(d:jA):Prop:=TriplesOk d.toList/\∀ pos c,PySem.codeAmong pos d.toList\c->∃ a b,c=.ref a/\H a\XF a b/\VR b q
inductive ZX(H:Hp)(P:aj)(q:Str):Prop
 |mk(a:_)(_:H P\.tbl a)(_:M' H q a)
theorem Cf{a b:Int}{t u:Tok}{c:ai}:∀(l:je),TriplesOk l->TriplesOk (l++[.int a t,.int b u,c])
 |[],_=>trivial
 |.int _ _::.int _ _::_::r,h=>Cf r h
theorem CW{pos:aJ}{a b:Int}{t u:Tok}{c e:ai}:∀(l:je),TriplesOk l->PySem.codeAmong pos (l++[.int a t,.int b u,c])\e->PySem.codeAmong pos l\e\/e=c
 |[],_,h=>by
  unfold PySem.codeAmong at h;simp only[List.nil_append] at h;split at h
  .cases h;show .inr Z
  .simp[PySem.codeAmong] at h
 |.int i _::.int j _::d::r,hT,h=>by
  simp only[uH] at h;unfold PySem.codeAmong at h⊢;split at h
  .rename_i q
   rwa[aP q,.inl h]
  .rename_i q
   rwa[aO q,CW r hT h]
def Di(P:aj)(c:Arguments)(g:Expr)(d:aE)(a:Str)(k:jG):TE:=λ_ H Q=>
 ZX H P a/\∀(e:Hp)(f h:aj)(j:aI)(l i:ai),VR j a->e f\XF f (vQ "<lambda>" a c g d k l h i)->e h=Z' (XF h j) ->
  (∀ b o,b≠P->H b\o->e b\o)->ZX e P a->(∀ b,b=f\/b=h\/b=P\/e b=H b)->Q (!f) e
def Rr{X:Cx}{P c:aj}{f:Arguments}{k:Expr}{g:aE}{cl:jG}{pos:aJ}(x:X.env.code=!c)(C:wO X.base c P)(hb:X.base.BuiltinsAt X.mg P)(R:defaultsOf f X.env=([],[]))(O:closureFor g X.env=pure cl):PE X (.Lambda f k g pos) (Di P f k g (X.env.qual++"<lambda>") cl):=by
 intro a8 s σ H Q I h;let#[#[A,p,M,hA],h]:=h;let gP:s.heap.get? P\uJ A:=I.hok P _ p;let nb:∀{b o},X.base.get? b\o->b≠P:=fun{b o} e z=>by
  have:=(I.bs b o e).2;erw[z,p] at this
 let a3:ap≠P:=by
  let#[o,es,ep,e,_]:=I.mod.glob;show nb e
 let hg:s.heap.Ns ap X.mg:=I.mod.glob.keeps I.bk;let N:s.heap.BuiltinsAt X.mg P:=by
  let#[bm,o,b1,b2,b3,b4,b5,r]:=hb;show#[bm,o,b1,b2,b3,b4,I.bk _ _ b5,r]
 show PySem.W.kla_eval R ?_
 cases hf:PySem.codeAmong pos A.toList with
 |none=>
  show PySem.W.kla_makeFunction O I.ok.glob hg x (C.keeps I.bk) gP M hf a3 N λj l i tk hx E S T a6=>?_;let#[a7,B,vs,t,K,a4,hd,hv]:=T;cases K;let kp:∀ b o,b≠P->s.heap.get? b\o->(i.push (vQ "<lambda>" (X.env.qual++"<lambda>") f k g cl ((X.mg "__name__").getD .none) j l)).get? b\o:=λb o n e=>zS _ (hx b o n e);let sz:‹s›<=i.objs.size:=yJ (xO E S);let nc:H j=Y':=I.hok.fresh E;let V:H i.objs.size=Y':=I.hok.fresh sz;let cP:j≠P:=λz=>by erw[z,p] at nc
  let fP:i.objs.size≠P:=λz=>by erw[z,p] at V
  let fc:i.objs.size≠j:=wW S
  let' ps':Array Value:=A++⇑[rawInt pos.line,rawInt pos.col,!j]
  let' fo:Obj:=vQ "<lambda>" (X.env.qual++"<lambda>") f k g cl ((X.mg "__name__").getD .none) j l
  let' H1:Hp:=upd (upd (upd H P (.tbl ps')) j (XF j B)) i.objs.size (XF i.objs.size fo)
  let e1:H1 i.objs.size\XF i.objs.size fo:=ZP;let K:H1 j\XF j B:=by change upd _ _ _ _=_;rwa[ZM fc.symm,ZP]
  let e3:H1 P\.tbl ps':=by change upd _ _ _ _=_;rwa[ZM fP.symm,ZM cP.symm,ZP]
  let e4:∀ b,b≠P->b≠j->b≠i.objs.size->H1 b=H b:=λb n1 n2 n3=>by change upd _ _ _ _=_;rw[ZM n3,ZM n2,ZM n1]
  let v:∀ b o,b≠P->H b\o->H1 b\o:=λb o n e=>by
   rwa[e4 b n (ZW e nc) (ZW e V),e]
  let gc:(i.push fo).get? j\B:=zS _ a4;let gf:(i.push fo).get? i.objs.size\fo:=yS _ Z;let L:(i.push fo).get? P\uJ ps':=zS _ a6;let a5:YT X.prog X.w H1 (i.push fo):=λb u e=>by
   by_cases z1:b=i.objs.size
   .subst z1;erw[e1] at e;show KZ gf
   by_cases z2:b=j
   .subst z2;erw[K] at e;show KZ gc
   by_cases J:b=P
   .subst J;erw[e3] at e;show L
   rw[e4 b J z2 z1] at e;show(I.hok b u e).stay (λa ob y q=>kp a ob ?_ q) (λa q=>v a _ ?_ q) λa xs q=>v a _ ?_ q
   .rcases y with rfl|y
    .show J
    .intro z;erw[z,p] at y
   .intro z;erw[z,p] at q
   .intro z;erw[z,p] at q
  let un:Un X.fs [] H H1 s.heap (i.push fo):=by
   let F:∀ b,H b=Y'->b≠P:=λb n z=>by erw[z,p] at n
   show#[λb o q n _ _=>kp b o (F b n) q,λb o q n _ _=>#[o.slots,kp b o (F b n) q],λb o q n _=>?_,λb o q _=>?_,λb xs q=>v b _ ?_ q,λb o u q=>v b _ ?_ q,λb qs q=>?_]
   .rwa[e4 b (F b n) (zJ (yV (zU q) E)) (zJ (yV (zU q) sz)),n]
   .by_cases z:b=P
    .show#[_,#v[z,L]]
    .show#[o,kp b o z q]
   .intro z;erw[z,p] at q
   .intro z;erw[z,p] at q
   .by_cases z:b=P
    .subst z;erw[p] at q;show#[_,e3]
    .show#[⇑[],by rw[v b _ z q];simp]
  show#[!i.objs.size,H1,I.un (t':=tk) un a5,Z,h H1 i.objs.size j B _ l #[vs,t,hd,hv] e1 K v #[ps',e3,?_,λm G y=>?_] λb=>?_]
  .change TriplesOk (A++⇑[rawInt pos.line,rawInt pos.col,!j]).toList;rwa[xA,Cf _ M]
  .let a0:PySem.codeAmong m (A.toList++[rawInt pos.line,rawInt pos.col,!j])\G:=by
    have:ps'.toList=A.toList++[rawInt pos.line,rawInt pos.col,!j]:=by change (A++⇑[rawInt pos.line,rawInt pos.col,!j]).toList=_;rw[xA]
    rwa[<-this,y]
   rcases CW _ M a0 with z|z
   .let#[d,D,y1,Y,y3]:=hA m G z;show#[d,D,y1,v _ _ (λz=>by erw[z,p] at Y) Y,y3]
   .show#[j,B,z,K,vs,t,hd,hv]
  .by_cases z1:b=i.objs.size
   .show .inl z1
   by_cases z2:b=j
   .show .inr (.inl z2)
   by_cases J:b=P
   .show .inr (.inr (.inl J))
   show .inr (.inr (.inr (e4 b J z2 z1)))
 |some G=>
  let#[j,B,rfl,a1,a2]:=hA pos G hf;show PySem.W.kla_makeFunctionHit O I.ok.glob hg x (C.keeps I.bk) gP M hf N λl i tk hk U=>?_;let V:H i.objs.size=Y':=I.hok.fresh U;let v:∀ b o,H b\o->upd H i.objs.size (XF i.objs.size (vQ "<lambda>" (X.env.qual++"<lambda>") f k g cl ((X.mg "__name__").getD .none) j l)) b\o:=λb o e=>#v[ZM (ZW e V),e]
  show#[!i.objs.size,_,I.laid (t':=tk) (a:=i.objs.size) (o:=XF i.objs.size (vQ "<lambda>" (X.env.qual++"<lambda>") f k g cl ((X.mg "__name__").getD .none) j l)) (λb o e=>zS _ (hk b o e)) U (KZ (yS _ Z)),Z,
   h _ i.objs.size j B _ l a2 ZP (v _ _ a1) (λb o _ e=>v b o e) #[A,v _ _ p,M,λm G y=>?_] λb=>?_]
  .let#[d,D,y1,Y,y3]:=hA m G y;show#[d,D,y1,v _ _ Y,y3]
  .by_cases z:b=i.objs.size
   .show .inl z
   .show .inr (.inr (.inr (ZM z)))
inductive Ph(k:Sp)(d:jG)(N h:jv)(m:Tw.St)(Q:VK)(l:jf)(e:Hp):Prop
 |mk(f:jf)(_:↑f=↑N)(_:∀(i:Nat)(x:Str)(v:V),N[i]?\x->f[i]?\v->∃ j:Nat,h[j]?\x/\m[j]?\Z' v)(_:∀ a:Hp,unT (d.map (·.2)) a=e->(∀ b,b∉d.map (·.2)->a b=e b)->(∀ b o,e b\o->a b\o)->VX a d N f->k l a (λv g=>(∀ c∈d.map (·.2),g c=a c)/\Q v (unT (d.map (·.2)) g)) E0)
def GZ(e:Sp)(d:jG)(N c:jv)(t:TA):TE:=λa H Q=>t a H λf b=>Ph e d N c a Q f b
def rj{X:Cx}{k:Nat}{f:aj}{fd:ao}{ps:jv}{sp:Sp}{x:Str}{p pos:aJ}{e:Expr}{O:jC}{t:TA}{cl:jG}{N:jv}(F:ZL X.prog X.w X.K X.mg X.base ZZ k f fd ps sp)(hr:Za k X.A)(hg:Gl X x)(hm:X.mg x\!f)(hk:yN X.K (!f)=X')(D:Z9 X.K fd ps [])(ha:PA X (e::O) t)(P:∀ y c,cl.lookup y\c->X.env.cells.lookup y\c)(T:∀ c∈cl.map (·.2),∃ y,cl.lookup y\c)(hN:∀ y∈N,X.env.scope.names.lookup y\.cell/\∃ c,cl.lookup y\c)(a4:∀ y,X.fn y=X')(a3:(x==("__debug__":Str))=false:=by decide)(he:ar (e::O) X.env=(false,aH e X.env)::ar O X.env:=by rfl)(a7:(aF pos (ar O X.env)).any (·.1)=false:=by rfl):
  PE X (.Call (.Name x p) (e::O) [] pos) (GZ sp cl N X.N t):=by
 intro Y s σ H Q I h;show ag (Pq I hg hm ?_ a3);show uY (h₀:=X.base) I.ok.mod.kin hk (YH (ha pos Y s σ H _ I h) λus L vs E C r q=>#[C.kIn,?_]) he a7;let#[ws,hl,hw,q]:=q
 let' cs := cl.map (·.2)
 let' Hv:Hp:=λb=>(L.heap.get? b).map (XF b)
 let l:∀ c∈cs,∃ y o v,cl.lookup y\c/\X.env.cells.lookup y\c/\L.heap.get? c\o/\o.data=.cell v/\Hv c\XF c o/\E c=Y':=λc B=>by
  let#[y,e]:=T c B;let J:=P y c e;let#[v,o,g,d]:=C.cell y c J;show#[y,o,v,e,J,g,d,by change Option.map _ _=_;rw[g];rfl,C.freeC y c J]
 let U:YT X.prog X.w (reT cs Hv E) L.heap:=C.hok.reT (λc B=>by
  let#[y,o,v,_,_,g,d,a,n]:=l c B;show n) λc B=>by
  let#[y,o,v,_,_,g,d,a,n]:=l c B;show#[o,a,g]
 let hi:∀ c∈cs,X.s₀.heap.objs.size<=c:=λc B=>by
  let#[y,o,v,_,J,_]:=l c B;show C.ok.cab y c (a4 y) J
 let e0:Wj X.prog X.w X.K X.mg X.base X.A X.stack L (reT cs Hv E):=by
  let z:=C.env0;show#[z.frames,z.mod,λb o e=>#[(z.bs b o e).1,?_],z.bsz,z.funs,λb D=>?_,U,z.bare]
  .rw[US λw=>?_];show(z.bs b o e).2;show mZ (zU e) (vZ.mpr (zR C.ok.bsz (hi b w)))
  .rw[US λw=>?_];show z.frf b D;rcases zD.mp (C.stkSub b D) with y|y
   .let#[y',o,v,_,J,_]:=l b w;show C.cne y' b J y
   .let#[_,o',g,_]:=C.ok.funs.mem y;show mZ (zU g) (vZ.mpr (hi b w))
 let eU:unT cs (reT cs Hv E)=E:=by
  funext b
  by_cases D:b∈cs
  .rw[Qu D];let#[y,o,v,_,_,g,d,a,n]:=l b D;show n.symm
  .rw[V6 D,US D]
 let CA:VX (reT cs Hv E) cl N ws:=#[hl,λi y v h1 h2=>by
  let#[j,hj,a8]:=hw i y v h1 h2;let#[kc,c,ec]:=hN y (yY h1);let#[m,_,a6]:=C.loc;let#[u,ru,lk]:=a6 j y v hj a8 (.inr (.inl kc));let a2:=P y c ec;let R:c∈cs:=by
   obtain⟨p,hp,e⟩:∃ p∈cl,p.2=c:=#[(y,c),PySem.mem_of_lookup ec,Z];show zL.mpr #[p,hp,e]
  rcases lk with ⟨kl,_⟩|⟨_,c2,e2,o,g,d⟩
  .have:X.env.scope.names.lookup y\.local:=kl;erw[kc] at this
  .erw[a2] at e2;show#[c,o,u,ec,R,by rw[MX R];change Option.map _ _=_;rw[g];rfl,d,ru],λc B=>by
  let#[y,o,v,_,_,g,d,a,n]:=l c B;show#[o,v,#v[MX B,a],d]]
 let q2:=q (reT cs Hv E) eU (λb D=>US D) (λb o e=>by
  rw[US λw=>?_];show e;let#[y,o',v,_,_,g,d,a,n]:=l b w;erw[n] at e) CA
 let r2:ZR (vs++[]) (us++[]):=r.append .nil;let a5:↑(us++[])=↑ps:=by rwa[<-↑r2,xD,F.len _ _ _ _ q2]
 show wpAny_call (codeAny_mono (F.run X.A X.stack L (reT cs Hv E) #[us,[]] (us++[]) vs _ E0 hr e0 (D L us C.kIn a5) #v[xD,r] q2) λrr s' V=>?_)
 cases rr with
 |error ev=>show V.elim
 |ok fl=>
  cases fl with
  |ret u=>
   let#[v,H2,os,M,un,G,rv,a0,q3]:=V;let S:∀ c∈cs,∃ o,reT cs Hv E c\XF c o/\H2 c\XF c o:=λc B=>by
    let#[y,o,v,_,_,g,d,a,n]:=l c B;let z:reT cs Hv E c\XF c o:=#v[MX B,a]
    show#[o,z,#v[a0 c B,z]]
   let a1:=Am un U G S;rw[eU] at a1;show C.after #[v,unT cs H2,os,M,a1,G.unT (λc B=>by
    let#[o,_,z]:=S c B;show#[o,z]),rv,q3]
  |next=>show False.elim V
  |brk=>show False.elim V
  |cont=>show False.elim V
section
variable{κ:Type}[DecidableEq κ]
noncomputable def Z2(a:List (κ×V))(k:κ):jg:=(a.find? λkv=>ng (kv.1=k)).map (·.2)
noncomputable def Zo(a:List (κ×V))(k:κ)(v:V):List (κ×V):=
 if (a.any λkv=>ng (kv.1=k))=X' then a.map (λkv=>if kv.1=k then (kv.1,v) else kv) else a++[(k,v)]
noncomputable def Wd(a:List (κ×V))(k:κ):List (κ×V):=a.filter λkv=>ng (kv.1≠k)
def Ue{p:κ×V}{r:List (κ×V)}{k:κ}(e:p.1=k):Z2 (p::r) k\p.2:=by simp[Z2,wM,e]
def Uf{p:κ×V}{r:List (κ×V)}{k:κ}(e:¬ p.1=k):Z2 (p::r) k=Z2 r k:=by simp[Z2,wM,e]
theorem OB(k:κ):∀ a:List (κ×V),(a.any λkv=>ng (kv.1=k))=(Z2 a k).isSome
 |[]=>rfl
 |p::r=>by
  rw[vF];by_cases e:p.1=k
  .simp only[Ue e,aM e,Bool.true_or,Option.isSome_some]
  .rwa[Uf e,aK e,Bool.false_or,OB k r]
theorem Dy(k j:κ)(y:V):∀ a:List (κ×V),Z2 (a.map λkv=>if kv.1=k then (kv.1,y) else kv) j=(Z2 a j).map λx=>if j=k then y else x
 |[]=>rfl
 |p::r=>by
  let b:=Dy k j y r;rw[yL];by_cases h:p.1=k
  .rw[aP h];by_cases e:p.1=j
   .rw[Ue (p:=(p.1,y)) e,Ue e,tM,aP (e.symm|||h)]
   .rw[Uf (p:=(p.1,y)) e,Uf e,b]
  .rw[aO h];by_cases e:p.1=j
   .rw[Ue (p:=p) e,Ue e,tM,aO (λz=>h (e|||z))]
   .rw[Uf (p:=p) e,Uf e,b]
theorem Ee(k j:κ)(y:V):∀ a:List (κ×V),Z2 a k=Y'->Z2 (a++[(k,y)]) j=if j=k then Z' y else Z2 a j
 |[],_=>by
  by_cases e:k=j
  .rwa[aP e.symm,Ue (p:=(k,y)) e]
  .rwa[aO (λz=>e z.symm),Uf (p:=(k,y)) e]
 |p::r,hn=>by
  rw[uH];let b:¬ p.1=k:=λz=>by erw[Ue z] at hn
  rw[Uf b] at hn;let c:=Ee k j y r hn;by_cases e:p.1=j
  .rw[Ue e,Ue e,aO (λz=>b (e|||z))]
  .rw[Uf e,Uf e,c]
def PX(b:List (κ×V))(k j:κ)(y:V):Z2 (Zo b k y) j=if j=k then Z' y else Z2 b j:=by
 unfold Zo;by_cases a:(b.any λkv=>ng (kv.1=k))=X'
 .rw[aP a,Dy];rw[OB] at a;by_cases e:j=k
  .let#[x,c]:=qK.mp a;rw[aP e,e,c,tM,aP rfl]
  .rw[aO e]
   cases Z2 b j with
   |none=>rfl
   |some x=>rw[tM,aO e]
 .rw[aO a];show Ee k j y b ?_;rw[OB] at a
  cases q:Z2 b k with
  |none=>rfl
  |some x=>rw[q] at a;show(a Z).elim
def J7(a:List (κ×V))(k:κ)(v:V):↑(Zo a k v)<=↑a+1:=by
 unfold Zo;split
 .rw[zX];lia
 .rw[zG,yX,qW];lia
def Ha{a:List (κ×V)}{k:κ}(v:V)(h:Z2 a k=Y'):Zo a k v=a++[(k,v)]:=by
 unfold Zo;rwa[OB,h,aO (by decide)]
def Yg.isSome_eq{o:jg}{u:jd}(r:Yg o u):o.isSome=u.isSome:=by
 cases o with
 |none=>cases u with
  |none=>rfl
  |some _=>show(show False from r).elim
 |some _=>cases u with
  |none=>show(show False from r).elim
  |some _=>rfl
def Yg.getD{o:jg}{u:jd}{d:V}{a:ai}(r:Yg o u)(rd:ZT d a):ZT (o.getD d) (u.getD a):=by
 cases o with
 |none=>cases u with
  |none=>show rd
  |some _=>show(show False from r).elim
 |some _=>cases u with
  |none=>show(show False from r).elim
  |some _=>show r
def KV.val{a:List (κ×V)}{g:List (κ×ai)}(r:KV a g)(k:κ):Yg (Z2 a k) (valueAt g k):=by
 unfold KV at r
 induction r with
 |nil=>show True.intro
 |@cons p q l d h t j=>
  let#[f,i]:=h;by_cases e:p.1=k
  .let c:q.1=k:=f.symm|||e;let b:valueAt (q::d) k\q.2:=by simp[valueAt,wM,c]
   rwa[Ue e,b,i]
  .let c:¬ q.1=k:=λz=>e (f|||z);let b:valueAt (q::d) k=valueAt d k:=by simp[valueAt,wM,c]
   rwa[Uf e,b,j]
def KV.any{a:List (κ×V)}{b:List (κ×ai)}(r:KV a b)(k:κ):(a.any λkv=>ng (kv.1=k))=b.any λkv=>ng (kv.1=k):=by
 unfold KV at r
 induction r with
 |nil=>rfl
 |cons h t c=>rw[vF,vF,c,h.1]
def KV.repl{a:List (κ×V)}{c:List (κ×ai)}(r:KV a c)(k:κ){y:V}{u:ai}(g:ZT y u):
  KV (a.map λkv=>if kv.1=k then (kv.1,y) else kv) (c.map λkv=>if kv.1=k then (kv.1,u) else kv):=by
 unfold KV at r⊢
 induction r with
 |nil=>show .nil
 |@cons p q i j h t f=>
  rw[yL,yL];show .cons ?_ f;let#[b,d]:=h;by_cases e:p.1=k
  .rwa[aP e,aP (b.symm|||e),#[b,g]]
  .rwa[aO e,aO (λz=>e (b|||z)),#[b,d]]
def KV.put{a:List (κ×V)}{b:List (κ×ai)}(r:KV a b)(k:κ){y:V}{u:ai}(c:ZT y u):KV (Zo a k y) (stored b k u):=by
 unfold Zo stored;rw[r.any k];by_cases e:(b.any λkv=>ng (kv.1=k))=X'
 .rwa[aP e,aP e,r.repl k c]
 .rwa[aO e,aO e,Paired.snoc r #[Z,c]]
def KV.drop{c:List (κ×V)}{g:List (κ×ai)}(r:KV c g)(k:κ):KV (Wd c k) (without g k):=by
 unfold KV at r⊢;unfold Wd without
 induction r with
 |nil=>show .nil
 |@cons p q l m h t f=>
  let#[d,j]:=h;rw[wD,wD];by_cases e:p.1=k
  .let a:¬ ng (p.1≠k)=X':=by simp[e]
   let b:¬ ng (q.1≠k)=X':=by simp[d.symm|||e]
   rwa[aO a,aO b,f]
  .let i:¬ q.1=k:=λz=>e (d|||z);let a:ng (p.1≠k)=X':=by simp[e]
   let b:ng (q.1≠k)=X':=by simp[i]
   rwa[aP a,aP b,.cons #[d,j] f]
def KV.keys{a:List (κ×V)}{b:List (κ×ai)}(r:KV a b):a.map (·.1)=b.map (·.1):=by
 unfold KV at r
 induction r with
 |nil=>rfl
 |cons h t c=>rw[yL,yL,c,h.1]
def KV.length{a:List (κ×V)}{b:List (κ×ai)}(r:KV a b):↑a=↑b:=Paired.length r
def vj(a:List (κ×V))(k:κ):↑(Wd a k)<=↑a:=tS _ _
end
def Ox{P:am}{w:aw}{k:ZQ}{u:ai}(r:ZT (kV k) u):(Wg P w).is k u=X':=by
 cases k with
 |inl i=>let#[t,e]:=(show ∃ t,u=Value.int i t from r);subst e;show oy P w i t
 |inr x=>let#[t,e]:=(show ∃ t,u=Value.str x t from r);subst e;show oM P w x t
theorem CF{P:am}{w:aw}:∀{a:jI}{b:je},ZR (a.map kV) b->ItemsAre (Wg P w) a b
 |[],_,r=>by erw[vI] at r;show .nil
 |k::a,_,r=>by
  rw[yL] at r
  cases r with
  |cons h t=>show .cons (Ox h) (CF t)
abbrev nK(H:Hp):List (jI×V)->List (jI×aj×ai)->Prop:=Paired λp q=>p.1=q.1/\H q.2.1\.tup (p.1.map kV)/\ZT p.2 q.2.2
def nK.val{H:Hp}{a:List (jI×V)}{g:List (jI×aj×ai)}(r:nK H a g)(k:jI):Yg (Z2 a k) ((atKey g k).map (·.2)):=by
 induction r with
 |nil=>show True.intro
 |@cons p q l d h t j=>
  let#[f,_,i]:=h;by_cases e:p.1=k
  .let c:q.1=k:=f.symm|||e;let b:atKey (q::d) k\q.2:=by simp[atKey,wM,c]
   rwa[Ue e,b,i]
  .let c:¬ q.1=k:=λz=>e (f|||z);let b:atKey (q::d) k=atKey d k:=by simp[atKey,wM,c]
   rwa[Uf e,b,j]
def nK.repl{H:Hp}{a:List (jI×V)}{d:List (jI×aj×ai)}(r:nK H a d)(k:jI){y:V}{u:ai}(i:ZT y u):
  nK H (a.map λkv=>if kv.1=k then (kv.1,y) else kv) (d.map (putAt k u)):=by
 induction r with
 |nil=>show .nil
 |@cons p q j l h t g=>
  rw[yL,yL];show .cons ?_ g;let#[b,c,f]:=h;unfold putAt;by_cases e:p.1=k
  .rwa[aP e,aP (b.symm|||e),#[b,c,i]]
  .rwa[aO e,aO (λz=>e (b|||z)),#[b,c,f]]
def nK.put{H:Hp}{a:List (jI×V)}{c:List (jI×aj×ai)}(r:nK H a c)(k:jI){b:aj}{y:V}{u:ai}(f:H b\.tup (k.map kV))(d:ZT y u):
  nK H (Zo a k y) (storedH c k b u):=by
 let e:(a.any λkv=>ng (kv.1=k))=(atKey c k).isSome:=by
  rw[OB,(r.val k).isSome_eq,Option.isSome_map]
 unfold Zo storedH;rw[e];by_cases q:(atKey c k).isSome=X'
 .rwa[aP q,aP q,r.repl k d]
 .rwa[aO q,aO q,Paired.snoc r #[Z,f,d]]
def nK.keeps{H c:Hp}{a:List (jI×V)}{d:List (jI×aj×ai)}(r:nK H a d)(f:∀ b e,H b\.tup e->c b\.tup e):nK c a d:=
 Paired.mapP r λ_ _ z=>#[z.1,f _ _ z.2.1,z.2.2]
section
variable{H:Hp}{h:aD}{a:aj}
def ET{u:HO}(b:YT P w H h)(e:Rd H a u):Zb P w H h a u:=e.ok b
def NF{b:ba}(d:YT P w H h)(e:Rd H a (.dK b)):↑b<=aq/\(a==sysModules)=false/\∃ c,KV b c/\h.DictOf (Wg P w) a c:=
 show Zb P w H h a (.dK b) from ET d e
def Nw{b:ba}(d:YT P w H h)(e:H a\.dK b):↑b<=aq/\(a==sysModules)=false/\∃ c,KV b c/\h.DictOf (Wg P w) a c:=NF d (.inl e)
def M4{c:jI}(i:YT P w H h)(e:H a\.tup (c.map kV)):(tupleKind (Wg P w)).is h c a:=by
 let#[_,b,r,o,d,f,n,g]:=(show Zb P w H h a (.tup (c.map kV)) from i a _ e);show#[o,⇑b,n,d,f,g,#v[CF r]]
def NO{b:List (jI×V)}(i:YT P w H h)(e:Rd H a (.dT b)):↑b<=aq/\(a==sysModules)=false /\
  ∃ d,nK H b d/\h.DictOfH (tupleKind (Wg P w)) a d:=by
 let#[z,y,d,r,o,k,j,n,s,u,v,A]:=(show Zb P w H h a (.dT b) from ET i e);show#[z,y,d,r,o,k,j,n,s,u,v,λx c=>?_,A];let f:∀{l:List (jI×V)}{m:List (jI×aj×ai)},nK H l m->∀ x∈m,(tupleKind (Wg P w)).is h x.1 x.2.1:=by
  intro l m q
  induction q with
  |nil=>intro x c;show nomatch c
  |@cons p q C D g t B=>
   intro x c;rcases zD.mp c with e|c
   .subst e;show M4 i (by rwa[<-g.1,g.2.1])
   .show B x c
 show f r x c
def F'{b:List (jI×V)}(d:YT P w H h)(e:H a\.dT b):↑b<=aq/\(a==sysModules)=false /\
  ∃ c,nK H b c/\h.DictOfH (tupleKind (Wg P w)) a c:=NO d (.inl e)
end
def Zh(H:Hp)(a:aj)(y:V)(r:jg):Prop:=
 (∃ c k,Rd H a (.dK c)/\y=kV k/\r=Z2 c k)\/∃ c k b,Rd H a (.dT c)/\y=.ref b/\H b\.tup (k.map kV)/\r=Z2 c k
def Y3(H:Hp)(a:aj)(y v:V)(d:Hp):Prop:=
 (∃ c k,H a\.dK c/\y=kV k/\↑c<aq/\d=upd H a (.dK (Zo c k v))) \/
 ∃ c k b,H a\.dT c/\y=.ref b/\H b\.tup (k.map kV)/\↑c<aq/\d=upd H a (.dT (Zo c k v))
def Zh.k{H:Hp}{a:aj}{b:ba}{k:ZQ}(e:H a\.dK b):Zh H a (kV k) (Z2 b k):=.inl #[b,k,.inl e,Z,Z]
def Y3.k{H:Hp}{a:aj}{b:ba}{k:ZQ}{v:V}(e:H a\.dK b)(c:↑b<aq):Y3 H a (kV k) v (upd H a (.dK (Zo b k v))):=.inl #[b,k,e,Z,c,Z]
section
variable{kE:jw}{σ:St}{H:Hp}{a:aj}{y v:V}{u r:ai}{o:jg}
def pO{Q:ja}(F:A.units+1<cLine)(I:ZF X kE σ H s)(g:Zh H a y (Z' v))(t:ZT y u)(h:∀ f x,ZF X kE σ H x->ZT v f->Q f x):
  aB ↥X A (getItem (!a) u) Q E s:=by
 rcases g with ⟨q,k,e,j,l⟩|⟨q,k,b,e,j,B,l⟩
 .subst j;let#[z,C,G,c,i]:=NF I.hok e;let#[f,n,d]:=Yg.some_of (v:=v) (o:=valueAt G k) #v[l,c.val k]
  show wpAny_getItem_of (Ox t) i.mapOf n (h f _ (I.tok _) d)
 .subst j;cases(show u=Value.ref b from t);let#[z,C,J,c,i]:=NO I.hok e;let#[f,n,d]:=Yg.some_of (v:=v) (o:=(atKey J k).map (·.2)) #v[l,c.val k]
  let#[p,D,m]:=yB.mp n;show wpAny_getItem_heap (tupleKind_room_in1 F) (M4 I.hok B) i D ?_;rwa[m,h f _ (I.tok _) d]
def xb{Q:ja}(t:A.units+1<cLine)(I:ZF X kE σ H s)(g:Zh H a y o)(m:ZT y u)(h:∀ n,ZF X kE σ H n->Q (.bool (not o.isSome)) n):
  aB ↥X A (az .NotIn u !a) Q E s:=by
 rcases g with ⟨j,k,e,f,l⟩|⟨j,k,b,e,f,p,l⟩
 .subst f;let#[z,i,x,c,d]:=NF I.hok e;show wpAny_notIn_of (Ox m) i d.mapOf ?_;rwa[<-(c.val k).isSome_eq,<-l,h _ (I.tok _)]
 .subst f;cases(show u=Value.ref b from m);let#[z,i,B,c,d]:=NO I.hok e;show wpAny_notIn_heap (tupleKind_room_in1 t) (M4 I.hok p) i d ?_;let q:=(c.val k).isSome_eq;rw[Option.isSome_map] at q;rwa[<-q,<-l,h _ (I.tok _)]
def KH{c:aD}{k:Nat}{f:HO}(I:ZF X kE σ H s)(j:LP (H a))(i:vV a s.heap c)(h:∃ q,c.get? a\q)(d:Zb X.prog X.w (upd H a f) c a f):
  ZF X kE σ (upd H a f) { s with heap:=c,toks:=k }:=
 I.write (x:=a) (e:=a) j (.inl Z) (λb q g z=>(i.2 b g)|||z) h d
def GE{P:am}{w:aw}{f:Hp}{e:aD}{b:ba}{d:jW}(z:↑b<=aq)(h:(a==sysModules)=false)(c:KV b d)(g:e.DictOf (Wg P w) a d):
  Zb P w f e a (.dK b):=#[z,h,d,c,g]
def AY{D:Hp}{Q:Unit->ak->Prop}(V:A.units+1<cLine)(I:ZF X kE σ H s)(g:Y3 H a y v D)(L:ZT y u)(K:ZT v r)(h:∀ M,ZF X kE σ D M->Q .unit M):
  aB ↥X A (setItem (!a) u r) Q E s:=by
 rcases g with ⟨d,k,e,p,l,n⟩|⟨d,k,b,e,p,F,l,n⟩
 .subst p n;let#[z,t,W,f,m]:=Nw I.hok e;let C:↑W<=sizeLine:=by rwa[<-↑f,z]
  let x:↑(Zo d k v)<=sizeLine:=by have:=J7 d k v;lia
  show wpAny_setItem_pairs (hsz:=C) (Ox L) m λJ i B=>h _ ?_;let U:∃ q,J.get? a\q:=let #[q,_,_,j,_]:=i;#[q,j];show KH I #v[e,True.intro] B U (GE x t (f.put k K) i)
 .subst p n;cases(show u=Value.ref b from L);let#[z,t,Y,f,m]:=F' I.hok e;let C:↑Y<=sizeLine:=by rwa[<-Paired.length f,z]
  let x:↑(Zo d k v)<=sizeLine:=by have:=J7 d k v;lia
  show wpAny_setItem_heap (hsz:=C) (tupleKind_room_in1 V) (M4 I.hok F) m λJ i B=>h _ ?_;let#[q,O,N,j,P,R,S,_,T]:=i;show KH I #v[e,True.intro] B #[q,j] #[x,t,_,(f.put k F K).keeps λc ys G=>?_,q,O,N,j,P,R,S,T]
  rwa[ZM (ZE G e (λz=>nomatch z)),G]
end
section
variable{kE:jw}{σ:St}{H:Hp}{a:aj}{kvs:ba}{k:ZQ}{u:ai}
def RU{v:V}{b:je}{Q:ja}(I:ZF X kE σ H s)(e:H a\.dK kvs)(j:ZT (kV k) u)(l:Z2 kvs k\v)(n:b=[]\/∃ x,b=[x])(h:∀ f p,ZF X kE σ (upd H a (.dK (Wd kvs k))) p->ZT v f->Q f p):aB ↥X A (call (.builtin "dict.pop") (.ref a::u::b)) Q E s:=by
 let#[z,C,r,c,m]:=Nw I.hok e;let#[f,K,g]:=Yg.some_of (v:=v) (o:=valueAt r k) (by rwa[<-l,c.val k])
 let G:(keyPart u).isSome=X':=by
  cases k with
  |inl i=>let#[t,q]:=(show ∃ t,u=Value.int i t from j);subst q;rfl
  |inr x=>let#[t,q]:=(show ∃ t,u=Value.str x t from j);subst q;rfl
 let B:argsOk "dict.pop" #[.ref a::u::b,[]]:=by
  rcases n with q|⟨x,q⟩
  .subst q;show PySem.F.args_dict_pop_2 _ _
  .subst q;show PySem.F.args_dict_pop_3 _ _ _
 show call_meetsIn my m.typeIs PySem.F.entry_dict_pop B (meets_dict_pop_there (Wg X.prog X.w) a (Ox j) b n G)
  #[r,f,m,by rwa[<-↑c,z],K,λy d J=>h f _ ?_ g]
 let D:∃ q,y.get? a\q:=let #[q,_,_,hq,_]:=d;#[q,hq];show KH I #v[e,True.intro] J D (GE (zR (vj kvs k) z) C (c.drop k) d)
theorem BC{Q:ja}(I:ZF X kE σ H s)(e:Rd H a (.dK kvs))(h:∀ t c,ZF X kE σ H c->Q (.int ↑kvs t) c):aB ↥X A (call (.builtin "len") [!a]) Q E s:=by
 let#[z,f,g,b,d]:=NF I.hok e;show call_len_dict f d (by rw[<-↑b];rw[sizeLine_eq] at z;lia (splits:=8)) ?_
 rwa[<-↑b,h _ _ (I.tok _)]
end
def EH(i:Expr):=∀ b a,subscripted i false b a=operate [b,a] (getItem b a)
def Bi{a:am}{w:aw}{A:ax}{E:ja}{s:ak}{j:Env}{c b:Expr}{pos:aJ}{T id:String}{Q:ja}(p:typeLookup (.type T) "__getitem__"=pure (Z' (.builtin id)))(q:EH b)(h:aB (aA a w) A (aH c j) (λo f=>aB (aA a w) A (aH b j) (λi d=>d.TypeIs o T/\aB (aA a w) A (getItem o i) Q E d) E f) E s):
  aB (aA a w) A (aH (.Subscript c b pos) j) Q E s:=by
 show Subscript_ (ae h (λo f l=>ae l (λi d e=>?_) λ_ _ x=>x) λ_ _ x=>x);let#[n,e]:=e;unfold subscriptTail;show aa ?_;rw[getitemInPython_of_ne n.not_modules];show aa (wpAny_specialOf n p ?_);let k:aB (aA a w) A (subscripted b false o i) (λr g=>aB (aA a w) A (letTemporaryGo c o r>>=λ_=>pure r) Q E g) E d:=by
  rwa[q o i,wpAny_operating (ae e (λr g m=>aa (wpAny_letTemporaryGo (ad m))) λ_ _ x=>x)]
 first
  |show ad (aa k)
  |show aa (ad (aa k))
  |show aa k
def oH{X:Cx}{c:jw}{h:St}{H:Hp}{s:ak}{a:aj}{y:V}{o:jg}(I:ZF X c h H s)(g:Zh H a y o):s.TypeIs (!a) "dict" :=by
 rcases g with ⟨f,k,e,_,_⟩|⟨f,k,b,e,_,_,_⟩
 .let#[_,_,i,_,d]:=NF I.hok e;show d.typeIs
 .let#[_,_,j,_,d]:=NO I.hok e;show d.typeIs
inductive NC(Q:VK)(x y:V)(b:Hp):Prop
 |mk(a v:_)(_:x=!a)(_:Zh b a y (Z' v))(_:Q v b)
def RW(d e:TE):TE:=λa H Q=>d a H λx b=>e a b λy c=>NC Q x y c
inductive QX(Q:VK)(y x:V)(b:Hp):Prop
 |mk(a o:_)(_:x=!a)(_:Zh b a y o)(_:Q (.bl (not o.isSome)) b)
def yb(e d:TE):TE:=λa H Q=>e a H λy b=>d a b λx c=>QX Q y x c
inductive Ol(D:Y1)(d:Tw.St)(v x y:V)(c:Hp):Prop
 |mk(a b:_)(_:x=!a)(_:Y3 c a y v b)(_:D.nx d b)
def BW(e g f:TE):TS:=λD a H=>f a H λv b=>e a b λx c=>g a c λy d=>Ol D a v x y d
section
variable{o i e value:Expr}{pos pos' tpos:aJ}{td ty tv:TE}
def WT(t:X.A.units+1<cLine)(q:PE X o td)(p:PE X i ty)(r:EH i:=by show λ_ _=>rfl):PE X (.Subscript o i pos) (RW td ty):=by
 intro b s f H Q I h;show Bi PySem.F.slot_dict_getitem.lookup r (YH (q b s f H _ I h) λu D x j l B w=>Z0 (p b D f j _ l w) ?_);rintro E G ⟨y,k,d,C,a,v,n,g,z⟩;subst n;obtain rfl:u=Value.ref a:=B;show#[oH d g,pO t d g C λK J m c=>#[v,k,m,c,z]]
def LQ(q:X.A.units+1<cLine)(n:PE X i ty)(p:PE X o td):PC X .NotIn i o (yb ty td):=by
 intro b s c H Q I h;show YH (n b s c H _ I h) λC B y d j z t=>Z0 (p b B c d _ j t) ?_;rintro u D ⟨x,f,k,w,a,r,m,g,v⟩;subst m;obtain rfl:u=Value.ref a:=w;show xb q k g z λE l=>#[.bl (not r.isSome),f,l,Z,v]
def QK(z:X.A.units+1<cLine)(t:PE X o td)(q:PE X i ty)(B:PE X value tv)(w:swapsWith value (Z' (.Subscript o i pos')) pos.line X.env=pure false):
  PS X (.Assign [.Subscript o i pos'] value pos) (BW td ty tv):=by
 intro b s c H D I h;show wpAny_Assign_Subscript (YH (B b s c H _ I h) λr L v d k G C=>YH (t b L c d _ k C) λu M x f l J E=>Z0 (q b M c f _ l E) λO P ⟨y,N,m,K,a,j,p,g,F⟩=>?_) w;subst p;obtain rfl:u=Value.ref a:=J;show AY z m g K G λQ n=>#[c,j,n,F]
end
section
variable{pos:aJ}
end
def HR:jV->St->Hp->(List (V×V)->Hp->Prop)->Prop
 |[],_,H,Q=>Q [] H
 |(e,f)::r,σ,H,Q=>e σ H λx a=>f σ a λy b=>HR r σ b λd c=>Q ((x,y)::d) c
abbrev VV:List (V×V)->List (ai×ai)->Prop:=Paired λp q=>ZT p.1 q.1/\ZT p.2 q.2
def Lz(X:Cx)(pos:aJ)(c:List (jT))(a:jC)(d:jV):Prop:=
 ∀(b:jw)(s:ak)(e:St)(H:Hp)(Q:List (V×V)->Hp->Prop),ZF X b e H s->HR d e H Q ->
  aB ↥X X.A (evalPairs (pairTrees c a X.env pos)) (λi h=>∃ g f,ZF X b e f h/\VV g i/\Q g f) X.xe s
def BK{X:Cx}{pos:aJ}:Lz X pos [] [] []:=λa s b H Q I h=>pairTrees_nil_walk #[[],H,I,.nil,h]
def BO{X:Cx}{pos:aJ}{k v:Expr}{e:List (jT)}{i:jC}{f g:TE}{b:jV}(q:PE X k f)(t:PE X v g)(r:Lz X pos e i b):
  Lz X pos (Z' k::e) (v::i) ((f,g)::b):=λa s d H Q I h=>
 pairTrees_cons_walk (YH (q a s d H _ I h) λu E x j n C z=>YH (t a E d j _ n z) λJ F y l o D A=>
  YH (r a F d l _ o A) λK G w m p c B=>#[(x,y)::w,m,p,.cons #[C,D] c,B])
def N9(c a:ba):ba:=a.foldl (λb kv=>Zo b kv.1 kv.2) c
def KV.merge:∀{b:ba}{d:jW}{a:ba}{c:jW},KV b d->KV a c->KV (N9 a b) (merged c d):=by
 intro b d a c r;unfold KV at r
 induction r generalizing a c with
 |nil=>intro q;show q
 |@cons p q i j h t f=>
  intro g;let e:KV (Zo a p.1 p.2) (stored c q.1 q.2):=by
   have:=g.put p.1 h.2;rwa[<-h.1,this]
  show f e
theorem E3:∀(b a:ba),↑(N9 a b)<=↑a+↑b
 |[],a=>by change ↑a<=↑a+0;lia
 |p::r,a=>by
  let c:=E3 r (Zo a p.1 p.2);let d:=J7 a p.1 p.2;change ↑(N9 (Zo a p.1 p.2) r)<=_;rw[yX];lia
theorem EG{P:am}{w:aw}:∀{d:ba}{f:List (ai×ai)},VV (d.map λkv=>(kV kv.1,kv.2)) f->∃ e,Carries (Wg P w) f e/\KV d e
 |[],_,r=>by erw[vI] at r;show#[[],True.intro,.nil]
 |p::d,_,r=>by
  rw[yL] at r
  cases r with
  |@cons a b i bs h t=>
   let#[e,c,q]:=EG (P:=P) (w:=w) t;let#[j,g]:=b;show#[(p.1,g)::e,#[Ox h.1,Z,c],.cons #[Z,h.2] q]
def AT(b:jV):TE:=λe H Q=>∀ p,H p=Y'->HR b e (upd H p (.dK [])) λd c=>c p\.dK []/\∃ a:ba,d=a.map (λkv=>(kV kv.1,kv.2))/\↑a<=15/\Q (!p) (upd c p (.dK (N9 [] a)))
theorem vn{X:Cx}{pos:aJ}{b:List (jT)}{d:jC}{k:jV}(h:Lz X pos b d k)(g:b.all (·.isSome)=X')(B:↑b=↑d)(v:b≠[])(l:↑b<=15):PE X (.Dict b d pos) (AT k):=by
 intro j s L H Q I q;let C:=I.hok.fresh (zY ‹s›);let p:=I.laid (a:=‹s›) (o:=.dK []) (h':=s.heap.push { cls:=.type "dict",data:=.dict ⇑[] }) (t':=s.toks) (λ_ _ q=>zS _ q) (zY _) (Dm s.heap I.big);show wpAny_Dict_walk (knd:=Wg X.prog X.w) g B v l (Z0 (h j _ L _ _ p (q _ C)) ?_);rintro S R ⟨O,M,n,m,e,i,t,N,F⟩;subst t;let#[J,c,rk]:=EG (P:=X.prog) (w:=X.w) m;let#[z,y,K,G,r]:=Nw n.hok e;cases G;show#[J,c,r,λu f D=>#[.ref ‹s›,_,?_,Z,F]];let E:↑(N9 [] i)<=sizeLine:=by
  let x:=E3 i [];rw[qW] at x;rw[sizeLine_eq];lia
 let A:∃ q,u.get? ‹s›\q:=let #[q,_,_,hq,_]:=f;#[q,hq];show KH n #v[e,True.intro] D A (GE E y (rk.merge .nil) f)
structure M1(X:Cx)(o:Expr)(m:Str)(jk:aJ)(e:Expr)(jj:aJ):Prop where
 base:attributeBase o m X.env (aH o X.env)=aH o X.env
 few:((aF jj (ar [e] X.env)).all (λx=>not x.1)&&(backToKw jj (keywordEach [] X.env)).all (λx=>x.1.isSome)
  && ng (↑([e]:jC)+↑([]:List Keyword)+(if ([]:List Keyword).isEmpty then 0 else 1)<30))=X'
 line:(jk.endLine==jj.line)=X'
 trees:aF jj (ar [e] X.env)=[(false,aH e X.env)]
structure M2(X:Cx)(o:Expr)(m:Str)(jk:aJ)(e f:Expr)(jj:aJ):Prop where
 base:attributeBase o m X.env (aH o X.env)=aH o X.env
 few:((aF jj (ar [e,f] X.env)).all (λx=>not x.1)&&(backToKw jj (keywordEach [] X.env)).all (λx=>x.1.isSome)
  && ng (↑([e,f]:jC)+↑([]:List Keyword)+(if ([]:List Keyword).isEmpty then 0 else 1)<30))=X'
 line:(jk.endLine==jj.line)=X'
 trees:aF jj (ar [e,f] X.env)=[(false,aH e X.env),(false,aH f X.env)]
def GB(H:Hp)(a:aj):=(∃ b,Rd H a (.dK b))\/∃ b,Rd H a (.dT b)
def Fy{X:Cx}{g:jw}{l:St}{H:Hp}{s:ak}{a:aj}(I:ZF X g l H s)(d:GB H a):
  s.TypeIs (!a) "dict"/\(∀ b,Value.ref a=.ref b->∃ c,s.heap.get? b\c/\c.dict=Y')/\(a==sysModules)=false:=by
 rcases d with ⟨k,e⟩|⟨k,e⟩
 .let#[_,j,m,_,f]:=NF I.hok e;show#[f.typeIs,λb q=>?_,j];cases q;let#[c,_,_,h,i,_]:=f;show#[c,h,i.2.1]
 .let#[_,j,n,_,f]:=NO I.hok e;show#[f.typeIs,λb q=>?_,j];cases q;let#[c,_,_,h,i,_]:=f;show#[c,h,i.2.1]
section
variable{kE:jw}{σ:St}{H:Hp}{a:aj}{y d:V}{u r:ai}{o:jg}
def yt{Q:ja}(v:A.units+1<cLine)(I:ZF X kE σ H s)(g:Zh H a y o)(n:ZT y u)(rd:ZT d r)(h:∀ q p,ZF X kE σ H p->ZT (o.getD d) q->Q q p):
  aB ↥X A (call (.builtin "dict.get") [!a,u,r]) Q E s:=by
 rcases g with ⟨m,k,e,i,l⟩|⟨m,k,b,e,i,t,l⟩
 .subst i;let#[z,j,B,c,f]:=NF I.hok e;show call_meetsIn rB f.typeIs mH (mL _ _ _) (meets_dict_get_default (Wg X.prog X.w) a (Ox n) j r) #[_,f.mapOf,h _ _ (I.tok _) ?_];rwa[l,(c.val k).getD rd]
 .subst i;cases(show u=Value.ref b from n);let#[z,j,x,c,f]:=NO I.hok e;show call_meetsIn rB f.typeIs mH (mL _ _ _) (meetsH_dict_get_default (tupleKind (Wg X.prog X.w)) a b j r) #[tupleKind_room_in1 v,k,x,M4 I.hok t,f,h _ _ (I.tok _) ?_];rwa[l,(c.val k).getD rd]
end
inductive Pp(g f:TE)(d:Tw.St)(Q:VK)(x:V)(b:Hp):Prop
 |mk(a:_)(_:x=!a)(_:GB b a)(_:g d b λy e=>f d e λz c=>∃ o,Zh c a y o/\Q (o.getD z) c)
def ze(c e d:TE):TE:=λa H Q=>c a H λx b=>Pp e d a Q x b
inductive Pm(e:TE)(f:Tw.St)(Q:VK)(x:V)(c:Hp):Prop
 |mk(a:_)(_:x=!a)(_:GB c a)(_:e f c λy d=>∃ b k v,d a\.dK b/\y=kV k/\Z2 b k\v/\Q v (upd d a (.dK (Wd b k))))
def zq(c d:TE):TE:=λa H Q=>c a H λx b=>Pm d a Q x b
section
variable{o e f:Expr}{jk jj:aJ}{td ty tx:TE}
def sj(C:X.A.units+1<cLine)(B:PE X o td)(v:PE X e ty)(w:PE X f tx)(m:M2 X o "get" jk e f jj):PE X (.Call (.Attribute o "get" jk) [e,f] [] jj) (ze td ty tx):=by
 intro b s i H Q I h;show wpAny_Call_method m.base m.few m.line mQ rB PySem.F.type_dict_get (Z0 (B b s i H _ I h) ?_);rintro u M ⟨x,k,j,J,a,t,d,D⟩;subst t;obtain rfl:u=Value.ref a:=J;let#[O,P,_]:=Fy j d;exists O,P;rw[m.trees];show Calls.callWith_builtin Z (Calls.evalArgs_plain (Calls.spliced_cons (YH (v b M i k _ j D) λS N y l p K E=>
  Calls.spliced_cons (Z0 (w b N i l _ p E) λR U ⟨z,n,q,L,T,g,G⟩=>Calls.spliced_nil ?_))))
 show yt C q g K L λW V r c=>#[_,n,r,c,G]
def HS(z:PE X o td)(w:PE X e ty)(m:M1 X o "pop" jk e jj):PE X (.Call (.Attribute o "pop" jk) [e] [] jj) (zq td ty):=by
 intro b s i H Q I h;show wpAny_Call_method m.base m.few m.line mQ my PySem.F.type_dict_pop (Z0 (z b s i H _ I h) ?_);rintro u G ⟨x,j,g,D,a,r,d,B⟩;subst r;obtain rfl:u=Value.ref a:=D;let#[J,K,_]:=Fy g d;exists J,K;rw[m.trees];show Calls.callWith_builtin Z (Calls.evalArgs_plain (Calls.spliced_cons (Z0 (w b G i j _ g B) λM N ⟨y,L,n,E,A,k,v,q,t,l,C⟩=>Calls.spliced_nil ?_)));subst t;show RU n q E l (.inl Z) λP O p c=>#[v,_,p,c,C]
end
section
variable{kE:jw}{σ:St}{H:Hp}{a:aj}{kvs:ba}
end
section
variable{kE:jw}{σ:St}{H:Hp}{a:aj}{y:V}{u:ai}
end
inductive UJ(c:jf)(H:Hp)(Q:VK):Prop
 |mk(a b:_)(_:c=[V.ref a])(_:H a\.dK b)(_:Q (.int ↑b) H)
def Fu:Vd X (.builtin "len") (UJ):=by
 intro c s k H j i Q I r h;let#[a,b,rfl,e,q]:=h;let#[u,rfl,f]:=UD r;cases f;show BC I (.inl e) λt g d=>#[.int ↑b,H,d,#[t,Z],q]
section
variable{κ:Type}[DecidableEq κ]
def AK{a:List (κ×V)}{k:κ}(h:Z2 a k=Y'):¬ k∈a.map (·.1):=by
 intro m;let#[p,b,e]:=zL.mp m;let q:(a.any λkv=>ng (kv.1=k))=X':=List.any_eq_true.mpr #[p,b,aM e];rw[OB,h] at q;show mZ q ⋯
def Ng{a:List (κ×V)}{k:κ}{v:V}(h:Z2 a k\v):k∈a.map (·.1):=by
 let q:(a.any λkv=>ng (kv.1=k))=X':=by
  rw[OB,h]
  all_goals rfl
 let#[p,b,e]:=List.any_eq_true.mp q;show zL.mpr #[p,b,of_decide_eq_true e]
def ro{p:κ×V}{r:List (κ×V)}{k:κ}(e:p.1=k):Wd (p::r) k=Wd r k:=by
 unfold Wd;rw[wD,aO (by simp[e])]
def qh{p:κ×V}{r:List (κ×V)}{k:κ}(e:¬ p.1=k):Wd (p::r) k=p::Wd r k:=by
 unfold Wd;rw[wD,aP (by simp[e])]
end
variable{jh ji CS CT CH CK CP CB:aj}
noncomputable def top(i:Nat):Stmt:=PySem.Challenge.pw_twigmap_k27_labels_and_looks.main.body.getD i (.Pass #[(0),(0),(0),(0)])
abbrev Il:Stmt:=top 12
abbrev GC:Stmt:=top 13
abbrev KQ:Stmt:=top 14
abbrev HV:Stmt:=top 15
abbrev He:Stmt:=top 16
abbrev GQ:Stmt:=top 17
abbrev LY:Stmt:=top 18
abbrev Jy:Stmt:=top 28
abbrev HX:Stmt:=top 29
abbrev IY:Stmt:=top 30
abbrev Iq:Stmt:=top 31
abbrev Ig:Stmt:=top 32
abbrev IE:Stmt:=top 33
abbrev Ja:Stmt:=top 36
abbrev K7:Stmt:=top 38
abbrev HB:Stmt:=top 39
abbrev LT:Stmt:=top 40
abbrev Je:Stmt:=top 41
abbrev KG:Stmt:=top 42
abbrev JK:Stmt:=top 43
abbrev IG:Stmt:=top 44
abbrev JS:Stmt:=top 45
abbrev JI:Stmt:=top 46
abbrev Hy:Stmt:=top 47
abbrev Iw:Stmt:=top 48
abbrev Jk:Stmt:=top 49
abbrev Hb:Stmt:=top 52
abbrev GL:Stmt:=top 53
abbrev ID:Stmt:=top 54
abbrev IT:Stmt:=top 56
abbrev Jr:Stmt:=top 57
abbrev JW:Stmt:=top 58
abbrev Vf:Stmt:=top 59
abbrev JJ:Stmt:=top 60
abbrev GF:Stmt:=top 61
abbrev H0:Stmt:=top 62
abbrev HI:Stmt:=top 63
abbrev Id:Stmt:=top 64
abbrev Pv:Stmt:=top 65
structure Yd(mg:jc):Prop where
 isi:mg "isinstance"=Y'
 bool:mg "bool"=Y'
 int:mg "int"=Y'
 str:mg "str"=Y'
 tuple:mg "tuple"=Y'
 list:mg "list"=Y'
 len:mg "len"=Y'
 all:mg "all"=Y'
 abs:mg "abs"=Y'
 max:mg "max"=Y'
 min:mg "min"=Y'
 range:mg "range"=Y'
 sorted:mg "sorted"=Y'
 ValueError:mg "ValueError"=Y'
 sum:mg "sum"=Y'
 signs:∃ t,mg "MOST_SIGNS"=Z' (.int 40 t)
 things:∃ t,mg "MOST_THINGS"=Z' (.int 4 t)
 deep:∃ t,mg "MOST_DEEP"=Z' (.int 3 t)
 rows:∃ t,mg "MOST_ROWS"=Z' (.int 4 t)
 few:∃ t,mg "FEWEST_BRANCHES"=Z' (.int 2 t)
 most:∃ t,mg "MOST_BRANCHES"=Z' (.int 4 t)
 height:∃ t,mg "HEIGHT"=Z' (.int 0 t)
 least:∃ t,mg "LEAST"=Z' (.int 1 t)
 greatest:∃ t,mg "GREATEST"=Z' (.int 2 t)
 many:∃ t,mg "MANY"=Z' (.int 3 t)
theorem QV:ZA ["_law_well_here","_law_many","_law_found","_law_first","_law_second"] TQ (Zd HB):=Z4
theorem wn(F:Zj K "_law_pull" "_law_pull" HB f fd):-ZL ZZ 1 f fd TQ Yp:=by
 show F.ok QV (λz H Q E h=>?_) (λy A q s H z Q E G h=>?_)
 .let#[p,m,rfl,_]:=h;rfl
 let#[p,m,rfl,W,#[g,l],k]:=h;let#[a,b,c,d,n,i,j,r,D]:=W.ex;let o:=QV.nd;intro B;show#[_,ZO (Zz (YF Xi (U4 YC (pv 0) ZN (λ_ _=>rfl)) ZN (Zx _)) (ZU (Zl ZN)) Z3)
  (ZO (Ps (Z5 PL (U4 YC (pv 0) ZN (λ_ _=>rfl)) ZN) (J4 (pv 0) ZN GM))
  (ZO (Zz (YF QH (U4 YC (pv 0) ZN (λ_ _=>rfl)) ZN (Zx _))
   (ZO (Zs 2 o (Z5 Qp (U4 YC (pv 0) ZN (λ_ _=>rfl)) (pv 1)))
   (ZO (Ps (Z5 BR (U4 YC (pv 0) ZN (λ_ _=>rfl)) (pv 1)) (J4 (pv 0) ZN GM))
   (ZU (Zl (pv 2))))) Z3)
  (ZO (Ps (Z5 Wp (U4 YC (pv 0) ZN (λ_ _=>rfl)) ZN) (J4 (pv 0) ZN GM))
  (ZO (Zs 3 o (Z5 Qp (Z5 OY (Z5 Wp (U4 YC (pv 0) ZN (λ_ _=>rfl)) ZN) (Z5 Wp ZN (Z5 OY ZN (U4 YC (pv 0) ZN (λ_ _=>rfl))))) ZN))
  (ZO (Zs 4 o (Z5 Qp (Z5 OY (Z5 Wp (Z5 JF (pv 3) ZN) ZN) (Z5 Wp (Z5 Qp (pv 3) ZN) ZN)) ZN))
  (ZU (Zl (Z5 Qp (Z5 JF (pv 4) ZN) (pv 1))))))))),?_]
 exists 1,p,_,_,1,Z,ZH.of n,Z,Z,_,Z;show XJ (λ_=>?_) (λu=>?_)
 .show k 0 H (xN 0) g W (ZI.refl p H)
 let C:d≠0:=λe=>u (aM (by rw[e]))
 exists 1,p,_,_,1,Z,ZH.of n,Z,_,1,Z,1,p,_,_,1,Z,n,Z;exists 1,p,_,_,1,Z,ZH.of ZP,Z,_,1,Z,_,Z;show XJ (λv=>?_) (λv=>?_)
 .exists 1,p,_,_,1,Z,ZH.of ZP,Z,1,_,1,Z,g;exists 1,p,_,_,1,Z,ZH.of ZP,Z,1,_,1,Z,#[g,l],1,p,_,_,1,Z,ZP,Z;exists _,Z;show k (c%m) _ (uM _ ()) (uD _ g) #[a,b,c/m,d-1,ZP,i,j,Int.ediv_nonneg r (),()] (ZI.refl p H).upd.upd
 .exists 1,p,_,_,1,Z,ZH.of ZP,Z,_,1,Z,1,p,_,_,1,Z,ZP,Z;exists 1,p,_,_,1,Z,ZH.of ZP,Z,_,1,Z,1,p,_,_,1,Z,ZH.of ZP,Z,_,1,Z,.inl #[by decide,by decide],_,1,Z,_,1,Z,.inl #[(),()],_,1,Z,(by change (0:Int)<2147483629;decide)
  generalize t:(a+1)*(48271+7919*(b+1))%2147483629=x;let I:0<=x:=by rwa[<-t,uM _ (by decide)]
  let J:x<2147483629:=by rwa[<-t,uD _ (by decide)]
  exists 1,_,1,Z,#[by decide,by decide],_,1,Z,1,_,1,Z,(by change (0:Int)<1009;decide),_,1,Z,_,1,Z,.inl #[(),()],_,1,Z,(by change (0:Int)<1000000007;decide)
  exists 1,_,1,Z,#[by decide,by decide],1,_,1,Z,g
  show k _ _ (uM _ ()) (uD _ g) #[a,b+1,c,d-1,ZP,i,j,r,()] (ZI.refl p H).upd.upd
abbrev Sk:jv:=["_law_script","_law_k","_law_left","_law_cell","_law_digits"]
theorem Q8:ZA Sk SZ (Zd K7):=Z4
theorem vz(F:Zj K "_law_well" "_law_well" K7 f fd)(T:Yd mg):-ZL ZZ 1 f fd SZ (UI K):=by
 show F.ok Q8 (λvs H Q E h=>?_) (λX A L s H vs Q E hr h=>?_)
 .let#[a,g,k,rfl,_]:=h;rfl
 let#[a,g,k,rfl,u,hn,k0,k1,q]:=h;let J:=Q8.nd;intro Xc;show#[_,ZO (Zs 2 J (U4 YC (XT (Zi ZN (Zi ZN Z1))) (VB Dr Z T.int OS (Zi (Vi Xi (pv 1) ZN (Zx _)) Z1)) (λ_ _=>rfl)))
  (ZO (Zs 3 J (U4 YC (Z5 Nd (VB PF Z T.list Uz (Zi (pv 0) Z1)) (XT (Zi ZN Z1))) (Z5 Qp (pv 1) (Zv (D0 Z) Z T.max LE (Zi ZN (Zi (Zv X1 Z T.len Xk (Zi (pv 0) Z1)) Z1)))) (λ_ _=>rfl)))
  (ZO (Zs 4 J (Z5 OY (Zv IZ Z T.abs HA (Zi (pv 3) Z1)) (VB Dr Z T.int OS (Zi (QQ (Vi Rv (Zv IZ Z T.abs HA (Zi (pv 3) Z1)) (Z5 F0 ZN ZN) (Zx _)) (PR (Vi PH (pv 1) (Zv X1 Z T.len Xk (Zi (pv 0) Z1)) (Zx _)))) Z1))))
  (ZU (Zl (XT (Zi (Z5 Qp (pv 3) ZN) (Zi (Z5 OY ZN (pv 1)) (Zi (pv 4) (Zi (pv 2) Z1))))))))),?_]
 exists (by change 2<=aq;decide)
 intro l1 v;let O:=Zf v (.lst [V.int 240,V.int 2400]);show#[1,Z,.inr #[1,?_]];obtain⟨lv,t,D⟩:∃ z:Int,Xs [V.int 240,V.int 2400] (if ng (V.int k=V.int 0)=X' then 1 else 0)\.int z/\0<=z:=by
  split
  .show#[(2400),Z,by decide]
  .show#[(240),Z,by decide]
 exists l1,_,_,1,Z,ZH.of ZP,t;exists 1,a,1,.inl (O.seq u);intro S y;let g2:=O|||Zf y (.lst (g.map V.int));exists (by change 1<=aq;decide)
 intro U n;let g3:=g2|||Zf n (.lst [V.int 0]);let I:S≠U:=ZW ZP n;exists S,U,_,1,Z,#v[ZM I,ZP],ZP,#v[zX,nw (by change ↑g+1<=1000;lia)]
 intro l4 B;let p:=g3|||Zf B (.lst (g.map V.int++[V.int 0]));exists 2,a,1,.inl (p.seq u),_,_,Z;let C:↑(g.map V.int)=↑g:=zX _;generalize R:(if ((↑(g.map V.int):Nat):Int)>1 then ((↑(g.map V.int):Nat):Int) else 1)=M
 let M1:1<=M/\M<=(↑g:Int)+1:=by
  rw[C] at R;rw[<-R];split<;>lia
 exists _,1,Z,by lia
 let i0:0<=k%M:=uM _ ()
 let i1:k%M<M:=uD _ ()
 let#[Y,r,G]:=K3 (xs:=g.map V.int++[V.int 0]) i0 (by rw[zG,zX,xS];lia)
 obtain⟨c,rfl⟩:∃ z:Int,Y=.int z:=by
  rcases zC.mp G with m|m
  .let#[z,_,e]:=zL.mp m;show#[z,e.symm]
  .show#[(0),zI.mp m]
 exists l4,_,_,1,Z,ZH.of ZP,r;let l:∀ b:Bool,0<=(if c<0 then -(c) else c)*(if b=X' then 1 else 0):=λb=>by
  cases b
  .simp
  .simp;split<;>lia
 let N:∀(x:Int)(b:Bool),PY x (if b=X' then 1 else 0):=λx b=>.inr (by cases b<;>show#[by decide,by decide])
 let j:∀(z:Int)(o:Hp),0<=z->ZC H o->∀ i,o i=Y'->Q (!i) (upd o i (.lst [.int (c%2147483647),.int (1000*k),-z,-lv])):=λz o z0 W i d=>
  q i _ (W.free d) (W|||Zf d _) #[_,_,_,_,ZP,uM _ (by decide),uD _ (by decide),z0,D]
 exists 4,_,1,Z,#[by decide,by decide,by decide],_,1,Z,_,Z
 show XJ (λ_=>?_) (λ_=>?_)
 .show#[2,a,1,.inl (p.seq u),_,1,Z,.inr #[1,_,1,Z,N _ _,?_]];exists 1,_,1,Z,(by change (0:Int)<2147483647;decide),1,_,1,Z,.inl #[by decide,by decide],2,(by change 4<=aq;decide)
  intro i d;show j _ _ (l _) p i d
 .show .inr #[1,_,1,Z,N _ false,?_];exists 1,_,1,Z,(by change (0:Int)<2147483647;decide),1,_,1,Z,.inl #[by decide,by decide],2,(by change 4<=aq;decide)
  intro i d;show j _ _ (l false) p i d
structure Zm(K:zZ)(mg:jc)(x:Str)(st:aC)(ps:jv):Prop where
 ex:∃ f fd,Zj K x x st f fd/\Z9 K fd ps []/\mg x\!f
def Zm.of{P:am}{w:aw}{K:zZ}{d:jc}{a:aD}{x:Str}{i:aC}{e:jv}{k:Nat}{g:Sp}(L:Zm K d x i e)(h:∀ f c,Zj K x x i f c->ZL P w K d a ZZ k f c e g):ZD P w K d a k x e g:=by
 let#[f,c,F,b,m]:=L.ex;show#[f,c,h f c F,b,F.kp,m]
def LZ{K:zZ}{h:aD}{p:jc}{x:Str}{e:aC}{n:jv}{f:aj}{t g:jB}{u:Array (jd)}{s kV q m o ct:ai}(X:K.In h)(G:h.Ns ap p)(a:zK K ap x\Z' !f)(l:K.lookup f\#[s,t,.func (xZ x x (V5 e) (WE e) (Zd e) .none kV q m g o ct),u])(c:xE K o x=X')(k:yN K (!f)=X')(r:∀ (kV j m:ai) (g:jB) (i ct:ai) (b:je),↑b=↑n->bindArgs (xZ x x (V5 e) (WE e) (Zd e) .none kV j m g i ct) #[b,[]]=pure (n.zip b):=by first|show(λ_ _ _ _ _ _=>lq1 λ_=>rfl)|show(λ_ _ _ _ _ _=>lq2 λ_ _=>rfl)|show(λ_ _ _ _ _ _=>lq3 λ_ _ _=>rfl)|show(λ_ _ _ _ _ _=>lq4 λ_ _ _ _=>rfl)|show(λ_ _ _ _ _ _=>lq5 λ_ _ _ _ _=>rfl)):Zm K p x e n:=
 #[f,_,Vl (st:=e) l c k,(Vl (st:=e) l c k).binds r,yW X G a]
def Xg{H:Hp}{p:aj}(h:H p=Y')(o:HO):∃ a,Tw.upd H p o=a/\ZC H a/\a p\o:=#[1,Zf h o,ZP]
inductive UO(n:Nat)(c:jf)(H:Hp)(Q:VK)(_:XK):Prop
 |mk(v:V)(t:KT)(q:Nat)(_:c=[v])(_:ZG H t v)(_:t.fits q=X')(_:t.depth<n)(_:∀(b:V)(a:Hp),ZG a t.st b->ZC H a->Q b a)
inductive Ys(d:jf)(H:Hp)(Q:VK)(_:XK):Prop
 |mk(v u:V)(a b:KT)(_:d=[v,u])(_:ZG H a v)(_:ZG H b u)(_:a.fits 3=X')(_:b.fits 3=X')(_:∀ c,ZC H c->Q (.bl (a.lt b)) c)
theorem oU:ZA TL TL (Zd LY):=Z4
theorem AN{k:Nat}:-ZL ZZ k f fd TL (UO 0):=by
 let c:∀ a H Q E,¬ UO 0 a H Q E:=λa H Q E h=>by
  let#[v,t,q,_,_,_,d,_]:=h
  lia
 show#[λa H Q E h=>mZ h (c a H Q E),λA b s H args e a Q E _ _ _ _ h=>mZ h (c a H Q E)]
theorem Ax{n:Nat}(F:Zj K "standing" "standing" LY f fd)(T:Yd mg)(DS:-ZD (n+1) "standing" TL (UO n)):-ZL ZZ (n+2) f fd TL (UO (n+1)):=by
 show F.ok oU (λg H Q E h=>?_) (λa2 A a1 s H g Q E hr h=>?_)
 .let#[v,t,q,rfl,_]:=h;rfl
 let#[v,t,q,rfl,d,hq,hn,k]:=h;intro Xc;show#[_,ZO (Zz (Yy (Zv Wq Z T.isi Xh (Zi (pv 0) (Zi (We (v:=.ty "int") Z T.int OS Z) Z1)))) (ZU (Zl (XH (Zi ZN (Zi (pv 0) Z1))))) Z3)
  (ZO (Zz (Yy (Zv Wq Z T.isi Xh (Zi (pv 0) (Zi (We (v:=.ty "str") Z T.str LJ Z) Z1)))) (ZU (Zl (XH (Zi ZN (Zi (pv 0) Z1))))) Z3)
  (ZU (Zl (XH (Zi ZN (Zi (VB P6 Z T.tuple QR (Zi (QS [] [] Z (K4 (pv 0)) (λ_ _ _ _ _=>Ur) (λ_ _ _ _ _=>Zq DS hr (Zi (pv 0) Z1)) trivial) Z1)) Z1)))))),?_]
 cases t with
 |int i=>
  let N:v=.int i:=by rw[ZG] at d;show d
  subst N;show#[1,_,_,_,1,d.ty,N4,1,YA ?_];exists 1,(by change 2<=aq;decide)
  intro p U;show k _ _ ?_ (Zf U _);rwa[KT.st,.tup ZP (.cons (.int 0) (.cons (-i) .nil))]
 |str x=>
  let N:v=.str x:=by rw[ZG] at d;show d
  subst N;show#[1,_,_,_,1,d.ty,Ir,1,Zp ?_];show#[1,_,_,_,1,d.ty,LK,1,YA ?_];exists 1,(by change 2<=aq;decide)
  intro p U;show k _ _ ?_ (Zf U _);rwa[KT.st,.tup ZP (.cons (.int 1) (.cons (.str x) .nil))]
 |tup l=>
  let C:=d;rw[ZG] at C;let#[a,g,rfl,I,G]:=C;let hl:=↑G;rw[KT.fits,zQ,zQ] at hq;let#[a6,X,B]:=hq;let a5:↑l<=4:=of_decide_eq_true X;rw[KT.depth] at hn;show#[1,_,_,_,1,d.ty,IL,1,Zp ?_];show#[1,_,_,_,1,d.ty,Jp,1,Zp ?_];exists 1,a,Z,#[g,Zc.of I];show Uu (n:=↑g) (λi z=>g[i]?\z) (λD i m r=>ZC H r/\H D=Y'/\kr r ((l.take i).map KT.st) m) (YM ())
   (λD i m r S j=>#[g,g[i],Zc.of (j.1 _ _ I),by simp[S]]) (λD i m r z u S j hy=>#[hy.1,hy.2 g (Zc.of (j.1 _ _ I))]) (λD m r j=>#[g,Zc.of (j.1 _ _ I),zY _])
   (λD hD=>#[Zf hD _,hD,.nil]) (λD i m r z M a4 S hz j R hR=>?_) (λD m r M j=>?_)
  .let#[L,nD,c]:=j;let#[t,J,kt]:=G.get hz;let mt:=yY J;let Y:t.fits (q-1)=X':=by
    rw[MO] at B;show zF.mp B t mt
   let a3:=Na mt;exists 1,z,t,q-1,Z,kt.sm L,Y,by lia
   intro v' u k4 s4;let y:=s4 D _ M;let tD:YI u (upd u D (.lst (m++[v']))):=(ZI.refl D u).upd.tups y;show hR v' u y #[λb o e=>#v[ZM (ZW e nD),s4 b o (L b o e)],nD,?_]
   rwa[yI,J,yT,((c.sm s4).append (.cons k4 .nil)).mono tD _ _]
  .let#[L,nD,c]:=j;let J:l.take ↑g=l:=yQ ()
   rw[J] at c;let a0:=↑c;rw[zX] at a0;show#[D,m,Z,.inl #[ZH.of M,λp1 V=>?_]];let g1:=Zf V (.tup m);exists (by change 2<=aq;decide)
   intro p2 W;let O:=Zf W (.tup [.int 2,!p1]);show k _ _ ?_ ((L|||g1)|||O);rwa[KT.st,CU,.tup ZP (.cons (.int 2) (.cons (.tup (O _ _ ZP) (c.sm (g1|||O))) .nil))]
theorem EC(T:Yd mg)(L:Zm K mg "standing" LY TL):∀ n:Nat,ZD P w K mg kF (n+1) "standing" TL (UO n)
 |0=>L.of λ_ _ _=>AN
 |n+1=>L.of λ_ _ F=>Ax F T (EC T L n)
theorem BB:ZA Ty Ty (Zd GQ):=Z4
theorem ti(F:Zj K "ahead" "ahead" GQ f fd)(e:-ZD 6 "standing" TL (UO 5)):-ZL ZZ 7 f fd Ty Ys:=by
 show F.ok BB (λt H Q E h=>?_) (λn A d s H t Q E c h=>?_)
 .let#[v,u,a,b,rfl,_]:=h;rfl
 let#[v,u,a,b,rfl,o,p,g,i,k]:=h;intro y;exists _,ZU (Zl (Vi (EX c) (Zq e c (Zi (pv 0) Z1)) (Zq e c (Zi (pv 1) Z1)) (Zx _)));let z:=OF a 3 g;let B:=OF b 3 i;let C:=F7 a;exists 1,v,a,(3),Z,o,g,by lia
 intro D x q j;exists 1,u,b,(3),Z,p.sm j,i,by lia
 intro G m r l;exists a.st,b.st,q.sm l,r,Eh a b,by lia
 rwa[Cv,k m (j|||l)]
mutual
noncomputable def KT.wide:KT->Nat->Bool
 |.int _,_=>true
 |.str _,_=>true
 |.tup l,r=>ng (0<r)&&(ng (↑l<=100)&&wideL l (r-1))
noncomputable def wideL:jr->Nat->Bool
 |[],_=>true
 |t::l,r=>t.wide r&&wideL l r
end
theorem N3:∀(l:jr)(r:Nat),wideL l r=l.all (·.wide r)
 |[],r=>by rw[wideL];rfl
 |t::l,r=>by rw[wideL,N3 l r];rfl
mutual
theorem MR:∀(t:KT)(r:Nat),t.fits r=X'->t.wide r=X'
 |.int _,_,_=>by rw[KT.wide]
 |.str _,_,_=>by rw[KT.wide]
 |.tup l,r,h=>by
  rw[KT.fits,zQ,zQ] at h;rw[KT.wide,zQ,zQ];have:=of_decide_eq_true h.2.1;show#[h.1,aM (),wideL_of l (r-1) h.2.2]
theorem wideL_of:∀(l:jr)(r:Nat),fitsL l r=X'->wideL l r=X'
 |[],_,_=>by rw[wideL]
 |t::l,r,h=>by
  rw[fitsL,zQ] at h;rwa[wideL,zQ,#[MR t r h.1,wideL_of l r h.2]]
end
inductive YU(n:Nat)(b:jf)(H:Hp)(Q:VK)(_:XK):Prop
 |mk(v u:V)(t:KT)(r:Nat)(_:b=[v,u])(_:ZG H t v)(_:ZG H t u)(_:t.wide r=X')(_:r<n)(_:∀ a,ZC H a->Q (.bl true) a)
def IA{d:Sp}{k:Nat}{e:jv}(c:∀ a H Q E,¬ d a H Q E):-ZL ZZ k f fd e d:=
 #[λa H Q E h=>mZ h (c a H Q E),λA b s H args g a Q E _ _ _ _ h=>mZ h (c a H Q E)]
theorem Bx:ZA TY TY (Zd KG):=Z4
theorem Ah{n:Nat}(F:Zj K "_law_alike" "_law_alike" KG f fd)(T:Yd mg)(DA:-ZD (n+1) "_law_alike" TY (YU n)):
  ZL P w K mg kF ZZ (n+2) f fd TY (YU (n+1)):=by
 show F.ok Bx (λd H Q E h=>?_) (λa3 A a1 s H d Q E hr h=>?_)
 .let#[v,u,t,r,rfl,_]:=h;rfl
 let#[v,u,t,r,rfl,q,p,hf,hn,k]:=h;intro Xc;show#[_,ZO (Zz (Yy (Zv Wq Z T.isi Xh (Zi (pv 1) (Zi (We (v:=.ty "tuple") Z T.tuple QR Z) Z1))))
   (ZO (Zz (PW.pt (Wf (WY (Yy (Zv Wq Z T.isi Xh (Zi (pv 0) (Zi (We (v:=.ty "tuple") Z T.tuple QR Z) Z1)))))
    (Us (YF P4 (Zv X1 Z T.len Xk (Zi (pv 0) Z1)) (Zv X1 Z T.len Xk (Zi (pv 1) Z1)) (Zx _))))) (ZU (Zl Uc)) Z3)
   (ZU (Zl (Zv (KD Z) Z T.all Kt (Zi (QS [0,1] TY Z (NR Z T.range (Zi (Zv X1 Z T.len Xk (Zi (pv 1) Z1)) Z1)) (λ_ _ _ _ _=>Ur)
    (λ_ _ _ _ _=>Zq DA hr (Zi (Zk K (pv 1) (pv 0)) (Zi (Zk K (pv 2) (pv 0)) Z1))) #[Z,.inl Z,Z,Z,.inl Z,Z,trivial]) Z1))))) Z3)
  (ZO (Zz (Yy (Zv Wq Z T.isi Xh (Zi (pv 1) (Zi (We (v:=.ty "str") Z T.str LJ Z) Z1))))
   (ZU (Zl (QQ (Zv Wq Z T.isi Xh (Zi (pv 0) (Zi (We (v:=.ty "str") Z T.str LJ Z) Z1))) (PR (Vi Xi (pv 0) (pv 1) (Zx _)))))) Z3)
  (ZU (Zl (QQ (Zv Wq Z T.isi Xh (Zi (pv 0) (Zi (We (v:=.ty "int") Z T.int OS Z) Z1)))
   (QQ (y4 (Zv Wq Z T.isi Xh (Zi (pv 0) (Zi (We (v:=.ty "bool") Z T.bool Kn Z) Z1)))) (PR (Vi Xi (pv 0) (pv 1) (Zx _)))))))),?_]
 cases t with
 |int i=>
  let U:v=.int i:=by rw[ZG] at q;show q
  let S:u=.int i:=by rw[ZG] at p;show p
  subst U S;show#[1,_,_,_,1,-i,zi,1,Zp ?_];show#[1,_,_,_,1,-i,TH,1,Zp ?_];show#[1,_,_,_,1,-i,N4,1,YA ?_];show#[1,_,_,_,1,-i,Li,2,YA ?_];exists 2,Z;rwa[aM Z,k H (ZC.refl H)]
 |str x=>
  let U:v=.str x:=by rw[ZG] at q;show q
  let S:u=.str x:=by rw[ZG] at p;show p
  subst U S;show#[1,_,_,_,1,.str x,Rt,1,Zp ?_];show#[1,_,_,_,1,.str x,LK,1,YA ?_];show#[1,_,_,_,1,.str x,LK,1,YA ?_];exists 2,Z;rwa[aM Z,k H (ZC.refl H)]
 |tup l=>
  rw[ZG] at q p;let#[a,d,rfl,N,G]:=q;let#[b,c,rfl,I,C]:=p;let hl:=↑G;let a5:=↑C;rw[KT.wide,zQ,zQ] at hf;let#[f0,f1,f2]:=hf;let r0:=of_decide_eq_true f0;let l4:=of_decide_eq_true f1;let ty:XE K H (!a) (.type "tuple"):=.tup N;let a2:XE K H (!b) (.type "tuple"):=.tup I;let a0:↑c=↑d:=nofun
  show#[1,_,_,_,1,a2,Lq,1,YA ?_];show#[1,_,_,_,1,ty,Lq,1,Zp ?_];show#[1,a,d,Z,.inr (Zc.of N),1,b,c,Z,.inr (Zc.of I),Z,1,Mw (by rw[a0]) ?_]
  exists 1,b,c,Z,.inr (Zc.of I),1,nofun,nofun
  rw[Int.toNat_natCast];show Uu (n:=↑c) (λi x=>x=.int (0+(i:Int))) (λD i y j=>ZC H j/\H D=Y'/\y=(vR i true).map V.bl) (YM nofun)
   (λD i y j J _=>J) (λD i y j x H4 J _ hy=>hy) (λD y j _=>zY _) (λD hD=>#[Zf hD _,hD,Z]) (λD i y j x M a4 J hx W R hR=>?_) (λD y j M W=>?_)
  .subst hx;let#[m,nD,rfl]:=W;let X:i<↑d:=nofun
   let B:d[i]?\d[i]:=by simp[X]
   let z:c[i]?\c[i]:=by simp[J]
   let#[t,et,kt]:=G.get B;let#[L,g,Y]:=C.get z;let O:L=t:=by rw[et] at g;injection g with g;show g.symm
   subst O;let ft:L.wide (r-1)=X':=by rw[N3] at f2;show zF.mp f2 L (yY et)
   let av:Xs d (0+(i:Int))\d[i]:=#v[Int.zero_add,Xu B]
   let au:Xs c (0+(i:Int))\c[i]:=#v[Int.zero_add,Xu z]
   show#[2,.inr (.inl #[a,d,_,_,Z,Z,Zc.of (m _ _ N),av,_,Z,_,Z,.inr (.inl #[b,c,_,_,Z,Z,Zc.of (m _ _ I),au,d[i],c[i],L,r-1,Z,kt.sm m,Y.sm m,ft,nofun,λH4 s4=>?_])])]
   show hR _ H4 (s4 D _ M) #[λb o e=>#v[ZM (ZW e nD),s4 b o (m b o e)],nD,?_]
   rw[List.replicate_succ'];simp
  .let#[m,nD,rfl]:=W;exists D,1,ZH.of M;let e:(vR ↑c true).all id=X':=by simp
   rwa[e,k j m]
theorem D8(T:Yd mg)(L:Zm K mg "_law_alike" KG TY):∀ n:Nat,ZD P w K mg kF (n+1) "_law_alike" TY (YU n)
 |0=>L.of λ_ _ _=>IA λb H Q E h=>by let#[v,u,t,r,_,_,_,_,a,_]:=h;lia
 |n+1=>L.of λ_ _ F=>Ah F T (D8 T L n)
mutual
noncomputable def KT.rk:KT->KT
 |.int i=>.tup [.int 0,-i,.str "",.tup []]
 |.str x=>.tup [.int 1,.int 0,.str x,.tup []]
 |.tup l=>.tup [.int 2,.int 0,.str "",.tup (rkL l)]
noncomputable def rkL:jr->jr
 |[]=>[]
 |t::l=>t.rk::rkL l
end
theorem EY:∀ l:jr,rkL l=l.map KT.rk
 |[]=>by rw[rkL];rfl
 |t::l=>by rw[rkL,EY l];rfl
mutual
theorem Cz:∀ a b:KT,a.rk.eqb b.rk=a.eqb b
 |.int i,.int j=>by simp[KT.rk,KT.eqb,kz]
 |.str x,.str y=>by simp[KT.rk,KT.eqb,kz]
 |.tup l,.tup m=>by simp[KT.rk,KT.eqb,kz,eqbL_rk l m]
 |.int _,.str _=>by simp[KT.rk,KT.eqb,kz]
 |.int _,.tup _=>by simp[KT.rk,KT.eqb,kz]
 |.str _,.int _=>by simp[KT.rk,KT.eqb,kz]
 |.str _,.tup _=>by simp[KT.rk,KT.eqb,kz]
 |.tup _,.int _=>by simp[KT.rk,KT.eqb,kz]
 |.tup _,.str _=>by simp[KT.rk,KT.eqb,kz]
theorem eqbL_rk:∀ l m:jr,kz (rkL l) (rkL m)=kz l m
 |[],[]=>by simp[rkL,kz]
 |a::l,b::m=>by simp[rkL,kz,Cz a b,eqbL_rk l m]
 |[],_::_=>by simp[rkL,kz]
 |_::_,[]=>by simp[rkL,kz]
end
mutual
theorem EB:∀ a b:KT,a.rk.cmp b.rk=X'
 |.int i,.int j=>by simp[KT.rk,KT.eqb,KT.cmp,cmpL,kz]
 |.str x,.str y=>by simp[KT.rk,KT.eqb,KT.cmp,cmpL,kz]
 |.tup l,.tup m=>by simp[KT.rk,KT.eqb,KT.cmp,cmpL,cmpL_rk l m]
 |.int _,.str _=>by simp[KT.rk,KT.eqb,KT.cmp,cmpL]
 |.int _,.tup _=>by simp[KT.rk,KT.eqb,KT.cmp,cmpL]
 |.str _,.int _=>by simp[KT.rk,KT.eqb,KT.cmp,cmpL]
 |.str _,.tup _=>by simp[KT.rk,KT.eqb,KT.cmp,cmpL]
 |.tup _,.int _=>by simp[KT.rk,KT.eqb,KT.cmp,cmpL]
 |.tup _,.str _=>by simp[KT.rk,KT.eqb,KT.cmp,cmpL]
theorem cmpL_rk:∀ l m:jr,cmpL (rkL l) (rkL m)=X'
 |[],_=>by simp[rkL,cmpL]
 |_::_,[]=>by simp[rkL,cmpL]
 |a::l,b::m=>by
  rw[rkL,rkL,cmpL,cmpL_rk l m,EB a b];split<;>rfl
end
mutual
theorem Cq:∀ a b:KT,a.rk.plt b.rk=a.lt b
 |.int i,.int j=>by
  simp only[KT.rk,KT.eqb,KT.plt,pltL,kz,KT.lt,beq_self_eq_true,if_true];by_cases h:i=j
  .subst h;simp
  .simp[h]
 |.str x,.str y=>by
  simp only[KT.rk,KT.eqb,KT.plt,pltL,kz,KT.lt,beq_self_eq_true,if_true];by_cases h:x=y
  .subst h;simp
  .simp[h]
 |.tup l,.tup m=>by
  simp only[KT.rk,KT.eqb,KT.plt,pltL,KT.lt,beq_self_eq_true,if_true,eqbL_rk,pltL_rk l m]
  cases h:kz l m with
  |true=>rw[aP rfl,FP h]
  |false=>rw[aO zN]
 |.int _,.str _=>by simp[KT.rk,KT.eqb,KT.plt,pltL,KT.lt]
 |.int _,.tup _=>by simp[KT.rk,KT.eqb,KT.plt,pltL,KT.lt]
 |.str _,.int _=>by simp[KT.rk,KT.eqb,KT.plt,pltL,KT.lt]
 |.str _,.tup _=>by simp[KT.rk,KT.eqb,KT.plt,pltL,KT.lt]
 |.tup _,.int _=>by simp[KT.rk,KT.eqb,KT.plt,pltL,KT.lt]
 |.tup _,.str _=>by simp[KT.rk,KT.eqb,KT.plt,pltL,KT.lt]
theorem pltL_rk:∀ l m:jr,pltL (rkL l) (rkL m)=ltL l m
 |[],[]=>by simp[rkL,pltL,ltL]
 |[],_::_=>by simp[rkL,pltL,ltL]
 |_::_,[]=>by simp[rkL,pltL,ltL]
 |a::l,b::m=>by rw[rkL,rkL,pltL,ltL,Cz a b,pltL_rk l m,Cq a b]
end
mutual
theorem EN:∀ t:KT,t.rk.depth<=2*t.depth+2
 |.int i=>by simp[KT.rk,KT.depth,kB]
 |.str x=>by simp[KT.rk,KT.depth,kB]
 |.tup l=>by
  have:=depthL_rk l;simp only[KT.rk,KT.depth,kB]
  lia
theorem depthL_rk:∀ l:jr,kB (rkL l)<=2*kB l+2
 |[]=>by simp[rkL,kB]
 |t::l=>by
  let a:=EN t;let b:=depthL_rk l;rw[rkL,kB,kB]
  lia
end
inductive VO(n:Nat)(c:jf)(H:Hp)(Q:VK)(_:XK):Prop
 |mk(v:V)(t:KT)(q:Nat)(_:c=[v])(_:ZG H t v)(_:t.fits q=X')(_:t.depth<n)(_:∀(b:V)(a:Hp),ZG a t.rk b->ZC H a->Q b a)
theorem AL:ZA TF TF (Zd LT):=Z4
theorem xc{n:Nat}(F:Zj K "_law_rank" "_law_rank" LT f fd)(T:Yd mg)(DS:-ZD (n+1) "_law_rank" TF (VO n)):-ZL ZZ (n+2) f fd TF (VO (n+1)):=by
 show F.ko AL λa5 A a4 s H j Q E hr h=>?_;let#[v,t,q,rfl,d,hq,hn,k]:=h;intro Xc;show#[_,ZO (Zz (Yy (Zv Wq Z T.isi Xh (Zg (pv 0) (We (v:=.ty "int") Z T.int OS Z)))) (ZU (Zl (XH (OQ ZN (pv 0) Y8 (XH Z1))))) Z3)
  (ZO (Zz (Yy (Zv Wq Z T.isi Xh (Zg (pv 0) (We (v:=.ty "str") Z T.str LJ Z)))) (ZU (Zl (XH (OQ ZN ZN (pv 0) (XH Z1))))) Z3)
  (ZU (Zl (XH (OQ ZN ZN Y8 (VB P6 Z T.tuple QR (ZV (QS [] [] Z (K4 (pv 0)) (λ_ _ _ _ _=>Ur) (λ_ _ _ _ _=>Zq DS hr (ZV (pv 0))) trivial)))))))),?_]
 cases t with
 |int i=>
  let O:v=.int i:=by rw[ZG] at d;show d
  subst O;show#[1,_,_,_,1,d.ty,N4,1,YA ?_];show#[1,(by change 0<=aq;decide),λp0 V=>#[(by change 4<=aq;decide),λp X=>?_]]
  let S:=Zf V (.tup []);let r:=Zf X (.tup [.int 0,-i,.str "",!p0]);show k _ _ ?_ (S|||r);rwa[KT.rk,.tup ZP (.cons (.int 0) (.cons (-i) (.cons (.str _) (.cons (.tup (r _ _ ZP) .nil) .nil))))]
 |str x=>
  let O:v=.str x:=by rw[ZG] at d;show d
  subst O;show#[1,_,_,_,1,d.ty,Ir,1,Zp ?_];show#[1,_,_,_,1,d.ty,LK,1,YA ?_];show#[1,(by change 0<=aq;decide),λp0 V=>#[(by change 4<=aq;decide),λp X=>?_]]
  let S:=Zf V (.tup []);let r:=Zf X (.tup [.int 1,.int 0,.str x,!p0]);show k _ _ ?_ (S|||r);rwa[KT.rk,.tup ZP (.cons (.int 1) (.cons (.int 0) (.cons (.str x) (.cons (.tup (r _ _ ZP) .nil) .nil))))]
 |tup l=>
  let G:=d;rw[ZG] at G;let#[a,j,rfl,J,I]:=G;let hl:=↑I;rw[KT.fits,zQ,zQ] at hq;let#[a9,a1,C]:=hq;let a8:↑l<=4:=of_decide_eq_true a1;rw[KT.depth] at hn;show#[1,_,_,_,1,d.ty,IL,1,Zp ?_];show#[1,_,_,_,1,d.ty,Jp,1,Zp ?_];exists 1,a,Z,#[j,Zc.of J];show Uu (n:=↑j) (λi z=>j[i]?\z) (λD i m u=>ZC H u/\H D=Y'/\kr u ((l.take i).map KT.rk) m) (YM ())
   (λD i m u W g=>#[j,j[i],Zc.of (g.1 _ _ J),by simp[W]]) (λD i m u z y W g hy=>#[hy.1,hy.2 j (Zc.of (g.1 _ _ J))]) (λD m u g=>#[j,Zc.of (g.1 _ _ J),zY _])
   (λD hD=>#[Zf hD _,hD,.nil]) (λD i m u z N a7 W hz g R hR=>?_) (λD m u N g=>?_)
  .let#[M,nD,c]:=g;let#[t,L,kt]:=I.get hz;let mt:=yY L;let a2:t.fits (q-1)=X':=by
    rw[MO] at C;show zF.mp C t mt
   let a6:=Na mt;exists 1,z,t,q-1,Z,kt.sm M,a2,by lia
   intro v' y k4 s4;let B:=s4 D _ N;let tD:YI y (upd y D (.lst (m++[v']))):=(ZI.refl D y).upd.tups B;show hR v' y B #[λb o e=>#v[ZM (ZW e nD),s4 b o (M b o e)],nD,?_]
   rwa[yI,L,yT,((c.sm s4).append (.cons k4 .nil)).mono tD _ _]
  .let#[M,nD,c]:=g;let L:l.take ↑j=l:=yQ ()
   rw[L] at c;let a3:=↑c;rw[zX] at a3;show#[D,m,Z,.inl #[ZH.of N,λp1 Y=>?_]];let r:=Zf Y (.tup m);exists (by change 4<=aq;decide)
   intro p2 a0;let U:=Zf a0 (.tup [.int 2,.int 0,.str "",!p1]);show k _ _ ?_ ((M|||r)|||U);rwa[KT.rk,EY,.tup ZP (.cons (.int 2) (.cons (.int 0) (.cons (.str _) (.cons (.tup (U _ _ ZP) (c.sm (r|||U))) .nil))))]
theorem FY(T:Yd mg)(L:Zm K mg "_law_rank" LT TF):∀ n:Nat,ZD P w K mg kF (n+1) "_law_rank" TF (VO n)
 |0=>L.of λ_ _ _=>IA λb H Q E h=>by let#[v,t,q,_,_,_,a,_]:=h;lia
 |n+1=>L.of λ_ _ F=>xc F T (FY T L n)
theorem zj:ZA Tf Tf (Zd Je):=Z4
theorem xh(F:Zj K "_law_less" "_law_less" Je f fd)(e:-ZD 6 "_law_rank" TF (VO 5)):-ZL ZZ 7 f fd Tf Ys:=by
 show F.ko zj λn A d s H G Q E c h=>?_;let#[v,u,a,b,rfl,o,p,g,i,k]:=h;intro x;exists _,ZU (Zl (Vi (EX c) (Zq e c (ZV (pv 0))) (Zq e c (ZV (pv 1))) (Zx _)));let y:=OF a 3 g;let z:=OF b 3 i;let B:=EN a;exists 1,v,a,(3),Z,o,g,by lia
 intro C t q j;exists 1,u,b,(3),Z,p.sm j,i,by lia
 intro D m r l;exists a.rk,b.rk,q.sm l,r,EB a b,by lia
 rwa[Cq,k m (j|||l)]
inductive Py(b:zZ)(c:jf)(H:Hp)(Q:VK):Prop
 |mk(p:aj)(a:jz)(_:c=[!p])(_:ZH b H p (a.map V.int))(_:Q (-a.sum) H)
def By(g:X.calm=X'):Vd X (.builtin "sum") (Py X.K):=by
 intro d s A H z y Q I r h;let#[p,c,rfl,j,q]:=h;let#[u,rfl,m]:=UD r;cases m;let#[k,n,l,x]:=I.list j;let a:=IS n;let#[v,e]:=a.allInts.items;let b:=l.isList;rw[e] at b;let f:v.toList.map (·.1)=c:=by
  rwa[<-nums_intItems,<-e,a.numsOf]
 show sum_intListG (I.ok.hd g) b λw t o i=>#[-c.sum,H,I.kept (t':=t) i,#[o,?_],q];rw[preSum_eq,yQ ⋯,f]
variable{jh ji CS CT CH CK CP CB:aj}
theorem B9:ay "sum"=Z' (.builtin "sum"):=by decide +kernel
structure YR where
 h:Int
 lo:KT
 hi:KT
 m:Int
abbrev jM:=List YR
noncomputable def YR.d:YR:=#[(0),.int 0,.int 0,(0)]
noncomputable def YR.kt(L:YR):KT:=.tup [-L.h,L.lo,L.hi,-L.m]
inductive YB(H:Hp)(L:YR)(u:V):Prop
 |mk(a c b:_)(_:u=!a)(_:H a\.tup [-L.h,c,b,-L.m])(_:ZG H L.lo c)(_:ZG H L.hi b)
def YB.mono{H d:Hp}{L:YR}{u:V}(x:YB H L u)(m:YI H d):YB d L u:=by
 let#[a,c,b,e,f,g,h]:=x;show#[a,c,b,e,m _ _ f,g.mono m _ _,h.mono m _ _]
def YB.key{H:Hp}{L:YR}{u:V}(x:YB H L u):ZG H L.kt u:=by
 let#[a,f,e,rfl,b,c,d]:=x;show .tup b (.cons (.int _) (.cons c (.cons d (.cons (.int _) .nil))))
def Yc(H:Hp)(a:jM)(b:jf):Prop:=↑b=↑a/\∀ i u,b[i]?\u->YB H a[i]! u
def Yc.mono{H a:Hp}{b:jM}{c:jf}(x:Yc H b c)(m:YI H a):Yc a b c:=#[x.1,λi u e=>(x.2 i u e).mono m]
def YR.fit(L:YR):Prop:=L.lo.fits 3=X'/\L.hi.fits 3=X'
def Qc(a b:YR):Bool:=(a.h==b.h)&&a.hi.lt b.lo
def Mp(a:jM):Bool:=(zP (↑a-1)).all λj=>Qc a[j]! a[j+1]!
def nu(a:jM):Option YR:=if 2<=↑a/\↑a<=4/\Mp a=X' then Z' #[a[0]!.h+1,a[0]!.lo,a[↑a-1]!.hi,(a.map YR.m).sum] else Y'
def Da{a:jM}(h:¬ (2<=↑a/\↑a<=4)):nu a=Y':=aO λz=>h #[z.1,z.2.1]
def yd{a:jM}{i:Nat}(b:i+1<↑a)(h:Qc a[i]! a[i+1]! =false):nu a=Y':=aO λz=>by
 have:=zF.mp z.2.2 i (xL.mpr ())
 erw[h] at this
def uo{ls:jM}(a:2<=↑ls)(b:↑ls<=4)(h:∀ j,j<↑ls-1->Qc ls[j]! ls[j+1]! =X'):nu ls\#[ls[0]!.h+1,ls[0]!.lo,ls[↑ls-1]!.hi,(ls.map YR.m).sum]:=
 aP #[a,b,zF.mpr λj c=>h j (xL.mp c)]
inductive UT(d:jf)(H:Hp)(Q:VK)(_:XK):Prop
 |mk(v u:V)(a b:YR)(_:d=[v,u])(_:YB H a v)(_:YB H b u)(_:a.fit)(_:b.fit)(_:∀ c,ZC H c->Q (.bl (Qc a b)) c)
theorem zu:ZA Tj Tj (Zd IE):=Z4
def wd(F:Zj K "stand_side_by_side" "stand_side_by_side" IE f fd)(T:Yd mg)(r:-ZD 7 "ahead" Ty Ys):-ZL ZZ 8 f fd Tj UT:=by
 show F.ko zu λB A l s H X Q E J h=>?_;let#[v,u,a,b,rfl,G,I,C,D,k]:=h;let#[U,o]:=T.height;let#[V,N]:=T.least;let#[W,O]:=T.greatest;let#[p,x,c,rfl,m,L,i]:=G;let#[q,d,y,rfl,n,j,M]:=I;intro S;show#[_,ZU (Zl (QQ (Vi Xi (Zk K (pv 0) (WL (v:=.int 0) Z o #[_,Z])) (Zk K (pv 1) (WL (v:=.int 0) Z o #[_,Z])) (Zx _))
  (PR (Zq r J (Zg (Zk K (pv 0) (WL (v:=.int 2) Z O #[_,Z])) (Zk K (pv 1) (WL (v:=.int 1) Z N #[_,Z]))))))),?_]
 show#[1,.inr (.inl #[p,_,_,-a.h,Z,Z,Zc.of m,Z,?_])];show#[1,.inr (.inl #[q,_,_,-b.h,Z,Z,Zc.of n,Z,Z,_,Z,?_])];by_cases g:a.h=b.h
 .rw[aM (by rw[g])]
  show YA ?_;show#[1,.inr (.inl #[p,_,_,c,Z,Z,Zc.of m,Z,?_])];show#[1,.inr (.inl #[q,_,_,d,Z,Z,Zc.of n,Z,c,d,a.hi,b.lo,Z,i,j,C.2,D.1,λt R=>?_])];let e:a.hi.lt b.lo=Qc a b:=by unfold Qc;rw[g,beq_self_eq_true,tR]
  rwa[e,k t R]
 .rw[aK (λz=>g (sf z))];show Zp ?_;let e:false=Qc a b:=by unfold Qc;rw[beq_eq_false_iff_ne.mpr g,tP]
  rwa[e,k H (ZC.refl H)]
abbrev Pw:je:=[.type "ValueError",.type "Exception",.type "BaseException",.type "object"]
theorem oh:ay "ValueError"=Z' (.type "ValueError"):=by decide +kernel
inductive WG(CS:aj)(e:jf)(H:Hp)(Q:VK)(E:XK):Prop
 |mk(l:aj)(c:jf)(b:jM)(_:e=[!l])(_:H l\.lst c)(_:Yc H b c)(_:∀ i,b[i]!.fit)(_:↑c<=100)(_:∀ a,ZC H a->(nu b=Y'->E (!CS) Y' a)/\∀ L v,nu b\L->ZG a L.kt v->Q v a)
abbrev Ag:jv:=["labels","at","many"]
theorem Qb:ZA Ag Tz (Zd Ig):=Z4
theorem nY:fillsNumberSlot (.type "tuple") "mul"=pure false:=
 PySem.fillsNumberSlot_seq (id:= "tuple.__mul__") (r:=Z' (.builtin "tuple.__rmul__")) sO.lookup (by decide +kernel) qA.lookup (by decide +kernel)
theorem ot:seqRepeat? (.type "tuple")=pure (Z' (.builtin "tuple.__mul__")):=by
 unfold seqRepeat?;rw[PySem.seqSlot_of (T:= "tuple") (name:= "__mul__") (id:= "tuple.__mul__") sO.lookup (by decide +kernel),PySem.seqSlot_of (T:= "tuple") (name:= "__rmul__") (id:= "tuple.__rmul__") qA.lookup (by decide +kernel)]
 rfl
def uj(a:Int)(t:Tok)(l:aj)(b:jA)(n:Nat)(e:jB)(f:Array (jd)):
  Meets (Builtin.«int.__rmul__» #[[.int a t,!l],[]]) (λ_ R s=>s.heap.get? l\{ cls:=.type "tuple",dict:=e,data:=.seq b n,slots:=f }/\R (.ok (.ret Value.notImplemented)) s):=
 .of_wp λc w A R s h=>by let#[j,g,d,m,k]:=s;let#[i,h]:=h;wp_walk;show#[1,h]
def P'(u:Tok)(l:aj)(a:jA)(n:Nat)(c:jB)(e:Array (jd)):
  Meets (Builtin.«tuple.__mul__» #[[!l,.int 1 u],[]]) (λ_ R s=>s.heap.get? l\{ cls:=.type "tuple",dict:=c,data:=.seq a n,slots:=e }/\R (.ok (.ret !l)) s):=
 .of_wp λb w A R s h=>by
  let#[i,g,d,k,j]:=s;let#[f,h]:=h;unfold Builtin.«tuple.__mul__»
  wp_walk
  show#[1,h]
def Ry(u:Tok)(l:aj)(x:ai)(n:Nat)(b:jB)(c:Array (jd)):
  Meets (Builtin.«tuple.__mul__» #[[!l,.int 0 u],[]]) (λ_ R s=>s.heap.get? l\{ cls:=.type "tuple",dict:=b,data:=.seq ⇑[x] n,slots:=c }/\R (.ok (.ret (.ref ‹s›))) { s with heap:=s.heap.push { cls:=.type "tuple",data:=.seq ⇑[] } }):=
 .of_wp λa w A R s h=>by
  let#[f,g,d,j,i]:=s;let#[e,h]:=h;unfold Builtin.«tuple.__mul__»
  wp_walk
  show#[1,h]
inductive LI(K:zZ)(x y:V)(H:Hp)(Q:VK):Prop
 |mk(a:aj)(v:V)(n:Int)(_:x=!a)(_:y=.int n)(_:Zc K H a [v])(_:n=1/\Q (!a) H\/n=0/\∀ p,H p=Y'->Q (!p) (upd H p (.tup [])))
def xa:Yz X (binaryOp .Mult) (LI X.K):=by
 intro i s E H x y v u Q I A B h;let#[a,z,n,rfl,rfl,k,l]:=h;cases A;let#[t,rfl]:=B;let#[p,w,r,_]:=I.tuple k;let#[D,rfl,_]:=UD w;let#[#[cls,e,data,f],c,d,m,g]:=id r;simp only at d g;subst d g;show wpAny_binaryOp_repeat_ref (T:= "tuple") (U:= "int") (by decide) #[_,c,Z] (λC=>typeIs_int C n t) nY PySem.F.fills_int_mul mz ot PySem.F.slot_int_index.lookup
  (call_meets mz (typeIs_int s n t) PySem.F.entry_int_rmul (PySem.F.args_int_rmul_2 _ _) (uj n t a _ m e f) #[c,Z,#[_,c,Z],?_])
 rcases l with ⟨rfl,q⟩|⟨rfl,q⟩
 .show call_meets sO #[_,c,Z] mP (pW _ _) (P' t a _ m e f) #[c,#[!a,H,I,Z,q]]
 .show call_meets sO #[_,c,Z] mP (pW _ _) (Ry t a _ m e f) #[c,?_];let j:=I.laid (a:=‹s›) (o:=.tup []) (h':=s.heap.push { cls:=.type "tuple",data:=.seq ⇑[] }) (t':=s.toks) (λb u q=>zS _ q) (zY _)
   #[yZ _,[],.nil,_,yS _ Z,Z,(0),Z]
  show#[.ref ‹s›,_,j,Z,q _ (I.hok.fresh (zY _))]
inductive QF(x y:V)(H:Hp)(Q:VK):Prop
 |mk(i n:_)(_:x=.str i)(_:y=.int n)(_:↑i=1)(_:n=1/\Q (.str i) H\/n=0/\Q (.str "") H)
def sy:Yz X (binaryOp .Mult) (QF):=by
 intro b s g H x y v u Q I d e h;let#[i,n,rfl,rfl,a,c]:=h;let#[t,rfl]:=d;let#[f,rfl]:=e;rcases c with ⟨rfl,q⟩|⟨rfl,q⟩
 .show PySem.P.mul_str ?_ (λ_ _=>?_) (λ_ _=>?_) ?_
  .decide
  .rw[a];decide
  .rw[a];decide
  .rw[aO (by decide),aP ⋯]
   show#[.str i,H,I,#[t,Z],q]
 .show PySem.P.mul_str ?_ (λz _=>?_) (λz _=>?_) ?_
  .decide
  .first|show mZ z (by decide)|(rw[a];decide)
  .first|show mZ z (by decide)|(rw[a];decide)
  .rw[aP (by decide)]
   show#[yZ _,#[.str "",H,I.tok _,#[1],q]]
variable{jh ji CS CT CH CK CP CB:aj}
def YS:Str:= "!#$&()*+,-./0123456789:;<=>?@ABCDEFGHIJKLMNOPQRSTUVWXYZ"
theorem Iz:↑YS.cps.toList=55:=by decide +kernel
theorem yg:YS.cps.toList.all Qs=X':=by decide +kernel
def ER{i:Int}(a:0<=i)(b:i<55):∃ c,Xs YS.cps.toList i\c/\Qs c=X':=by
 let#[c,e,m]:=K3 (xs:=YS.cps.toList) a #v[Iz,b]
 show#[c,e,zF.mp yg c m]
def Zy(x:Str)(i:Nat):Prop:=x.cps.size<=i/\x.cps.toList.all Qs=X'
def Zy.ok{x:Str}{i:Nat}(h:Zy x i)(a:i<=40):NK x=X':=xm (zR h.1 a) h.2
def Zy.cat{x y:Str}{i j:Nat}(h:Zy x i)(g:Zy y j):Zy (x++y) (i+j):=by
 let e:(x++y).cps=x.cps++y.cps:=rfl;exists ?_
 .rwa[e,Array.size_append,mW h.1 g.1]
 .rw[e,xA,List.all_append,h.2,g.2];rfl
def Zy.one{c:Nat}(h:Qs c=X'):Zy #[⇑[c]] 1:=#[zY _,by simp[h]]
theorem Zy.k:Zy "k" 1:=by unfold Zy;decide +kernel
theorem Zy.a:Zy "a" 1:=by unfold Zy;decide +kernel
theorem Zy.e:Zy "" 0:=by unfold Zy;decide +kernel
def NU{n:Int}(h:n.natAbs<10^60)(r:Nat):(KT.int n).fits r=X':=#v[KT.fits,aM h]
def Kj{x:Str}{i:Nat}(h:Zy x i)(a:i<=40)(r:Nat):(KT.str x).fits r=X':=#v[KT.fits,h.ok a]
def wx{n:Int}(h:n.natAbs<10^60):(KT.tup [.str "",-n]).fits 3=X':=FV (yR Z) (by
 rw[fitsL,fitsL,fitsL,NU h 2,Kj Zy.e (by decide) 2];rfl)
def oR{n:Int}(h:n.natAbs<10^60):(KT.tup [.str "",-n,.int 0]).fits 3=X':=FV (yR Z) (by
 rw[fitsL,fitsL,fitsL,fitsL,NU h 2,Kj Zy.e (by decide) 2,NU (n:=0) (by decide) 2];rfl)
theorem GW{n:Int}(a : -10000<=n)(b:n<=10000):n.natAbs<10^60:=xO (show n.natAbs<=10000 by lia) (by decide)
theorem AE:YS.cps.toList.Pairwise (·<·):=by decide +kernel
theorem Ek{i j:Int}{c d:Nat}(l:0<=i)(h:i<j)(m:j<55)(e:Xs YS.cps.toList i\c)(f:Xs YS.cps.toList j\d):c<d:=by
 obtain⟨a,rfl⟩:∃ a:Nat,i=(a:Int):=#[i.toNat,()]
 obtain⟨b,rfl⟩:∃ b:Nat,j=(b:Int):=#[j.toNat,()]
 let g:a<↑YS.cps.toList:=by rw[Iz];lia
 let k:b<↑YS.cps.toList:=by rw[Iz];lia
 rw[Xu (zW g)] at e;rw[Xu (zW k)] at f;cases e;cases f;show uS.mp AE a b g k ()
inductive GK:KT->Nat->Int->Prop
 |int (sz:Int):GK (.int (sz-700)) 0 sz
 |str {x:Str} {sz:Int} {c1 c2:Nat} {tl:jq} (h:x.cps.toList=107::c1::c2::tl) (h1:Xs YS.cps.toList (sz/50)\c1) (h2:Xs YS.cps.toList (sz%50)\c2):GK (.str x) 1 sz
 |tup (sz:Int) (l:jr):GK (.tup (.str ""::.int sz::l)) 2 sz
theorem Rz{a b:KT}{c d:Nat}{s r:Int}(m:GK a c s)(f:GK b d r)(q:c<=d)(h:s<r)(p:0<=s)(t:r<=1280):a.lt b=X':=by
 cases m with
 |int=>
  cases f with
  |int=>rwa[KT.lt,aM ()]
  |str=>rw[KT.lt]
  |tup=>rw[KT.lt]
 |str i e j=>
  cases f with
  |int=>lia
  |str k g l=>
   rw[KT.lt,i,k];show aM ?_;show List.Lex.cons ?_;rcases(show s/50<r/50\/(s/50=r/50/\s%50<r%50) by lia) with z|⟨n,o⟩
   .show List.Lex.rel (Ek () z () e g)
   .erw[n,g] at e;show List.Lex.cons (List.Lex.rel (Ek () o () j l))
  |tup=>rw[KT.lt]
 |tup=>
  cases f with
  |int=>lia
  |str=>lia
  |tup=>
   rw[KT.lt,ltL,aP #v[KT.eqb,beq_self_eq_true _],ltL,aO (by rw[KT.eqb];simp;lia),KT.lt]
   show aM h
noncomputable def nB(o a:Int)(i:Nat):Nat:=if (i:Int)<o then 0 else if (i:Int)<o+a then 1 else 2
theorem sd(o a:Int)(i:Nat)(h:0<=a):nB o a i<=nB o a (i+1):=by
 unfold nB;split
 .split<;>(try split)<;>lia
 .split
  .rw[aO ()]
   split<;>lia
  .rw[aO (),aO ()]
   show zY _
def GI(o f:Int)(i:Nat)(e:Int)(d:jr):Prop:=d.Pairwise (λa b=>a.lt b=X')/\∀ t∈d,∃ c s,GK t c s/\c<=nB o f i/\0<=s/\s<=e
theorem Bw{o f:Int}{i:Nat}{k d:Int}{n:jr}{t:KT}(u:0<=f)(h:GI o f i k n)(y:k<d)(p:d<=1280)(w:0<=k)(m:GK t (nB o f i) d):GI o f (i+1) d (n++[t]):=by
 show#[?_,λx e=>?_]
 .rw[xI];exists h.1,mu _ _;intro a q b r;rw[zI.mp r];let#[c,s,g,l,j,v]:=h.2 a q;show Rz g m l () j p
 .have:=sd o f i u;rcases zC.mp e with e|e
  .let#[c,s,g,l,j,v]:=h.2 x e;show#[c,s,g,(),j,()]
  .rwa[zI.mp e,#[_,d,m,this,(),xN _]]
inductive UK(g:jf)(H:Hp)(Q:VK)(_:XK):Prop
 |mk(p:aj)(_:g=[!p])(_:ZJ H p)(_:∀(D:aj)(e:jf)(d:jr)(c:Hp),ZI p H c->ZJ c p->H D=Y'->c D\.lst e->kr c d e->(∀ t∈d,t.fits 3=X')->↑e=64->d.Pairwise (λa b=>a.lt b=X')->Q (!D) c)
abbrev Bj:jv:=["_law_well_here","_law_signs","_law_found","_law_size","_law_one","_law_two","_law_j"]
theorem Qd:ZA Bj Td (Zd JK):=Z4
theorem we(F:Zj K "_law_grid" "_law_grid" JK f fd)(T:Yd mg)(DP:-ZD 1 "_law_pull" TQ Yp):-ZL ZZ 2 f fd Td UK:=by
 show F.ko Qd λc9 A c0 s H vs Q E hr h=>?_;let#[p,rfl,W,k]:=h;let M:=Qd.nd;intro Xc;show#[_,ZO (Zs 1 M Y8)
  (ZO (Zs 2 M (XT Z1))
  (ZO (Zs 3 M ZN)
  (ZO (Zs 4 M (Zq DP hr (Zg (pv 0) ZN)))
  (ZO (Zs 5 M (Z5 Wp (pv 4) (Zq DP hr (Zg (pv 0) (Z5 PL ZN (pv 4))))))
  (ZO (Vj PassesOwn.never Z (NR Z T.range (ZV ZN)) (Yf 6 M)
   (ZO (Zs 3 M (Z5 Wp (Z5 Wp (pv 3) ZN) (Zq DP hr (Zg (pv 0) ZN))))
   (ZU (Zz (YF PH (pv 6) (pv 4) (Zx _))
    (ZU (Y0 (VL yP xQ xP V9 (pv 2) (ZV (Z5 PL (pv 3) ZN)))))
    (ZU (Zz (YF PH (pv 6) (pv 5) (Zx _))
     (ZU (Y0 (VL yP xQ xP V9 (pv 2) (ZV (Z5 K8 (Z5 K8 (Z5 K8 Y8 (Zk K (pv 1) (Z5 JF (pv 3) ZN))) (Zk K (pv 1) (Z5 Qp (pv 3) ZN))) (Z5 sy Y8 (Z5 Qp (pv 6) ZN)))))))
     (ZU (Y0 (VL yP xQ xP V9 (pv 2) (ZV (Z5 xk (XH (Zg Y8 (pv 3))) (Z5 xa (XH (ZV ZN)) (Z5 Qp (pv 6) ZN)))))))))))))
  (ZU (Zl (pv 2)))))))),?_]
 exists (by change 0<=aq;decide)
 intro D nD;let g0:=Zf nD (.lst []);let W0:=W.same g0;let y:D≠p:=by let#[xs,e]:=W.some;show(ZW e nD).symm
 exists 1,p,(65),Z,W0,UW (by decide) (by decide)
 intro o H1 o0 o1 W1 s1;exists 3,_,1,Z,p,1,W1,UW nofun (xO (show (65-o).natAbs<=65 from nofun) (by decide))
 intro B H2 c6 e0 W2 s2;exists _,1,Z;let a3:H2 D\.lst []:=s2 D _ (s1 D _ ZP y) y;let c5:ZI p H H2:=((ZI.of g0)|||s1)|||s2;show#[(64),Z,by decide,by decide,Og (n:=64) (λi σ C=>∃(l:Int)(x:jg)(j:jf)(N:jr),σ=[Z' !p,Z' (.str YS),Z' !D,Z' (-l),Z' (-o),Z' (.int (o+B)),x]/\0<=l/\l<=20*i/\ZI p H C/\ZJ C p/\C D\.lst j/\kr C N j/\(∀ t∈N,t.fits 3=X')/\↑j=i/\GI o B i l N)
  #[(0),Y',[],[],Z,by decide,by decide,c5,W2,a3,.nil,λt ht=>mZ ht ⋯,Z,.nil,λt ht=>mZ ht ⋯] ?_ ?_]
 .rintro i σ C hi ⟨l,x,j,N,rfl,z0,z1,s3,W3,I,kU,fU,lU,gU⟩;show#[1,_,1,Z,1,p,(20),Z,W3,UW (by decide) (by decide),λr S r0 r1 W4 s4=>#[_,1,Z,?_]]
  let c4:ZI p H S:=s3|||s4;let g:=s4 D _ I y;let a7:=kU.mono (s4.tupsW W3) _ _;obtain⟨d,a5,c7,c8⟩:∃ d:Int,l+1+r=d/\0<=d/\d<=20*(i+1:Nat):=#[1,nofun,nofun]
  let a2:l<d:=nofun
  change QU 3 (V.int (l+1+r)) _ _ _;rw[a5];let m:∀(v:V)(t:KT)(q:Hp),ZC S q->ZG q t v->t.fits 3=X'->GK t (nB o B i) d->∃(l:Int)(x:jg)(R:jf)(O:jr),[Z' (V.ref p),Z' (.str YS),Z' !D,Z' (-d),Z' (-o),Z' (.int (o+B)),Z' (.int (0+(i:Int)))]=[Z' !p,Z' (.str YS),Z' !D,Z' (-l),Z' (-o),Z' (.int (o+B)),x]/\0<=l/\l<=20*(i+1:Nat)/\ZI p H (upd q D (.lst (j++[v])))/\ZJ (upd q D (.lst (j++[v]))) p/\upd q D (.lst (j++[v])) D\.lst R/\kr (upd q D (.lst (j++[v]))) O R/\(∀ t∈O,t.fits 3=X')/\↑R=i+1/\GI o B (i+1) l O:=λv t q s5 kv fv a6=>by
   let a4:=s5 _ _ g;let tD:YI q (upd q D (.lst (j++[v]))):=(ZI.refl D q).upd.tups a4;show#[d,_,j++[v],N++[t],Z,c7,c8,λb u e n=>?_,?_,ZP,((a7.sm s5).append (.cons kv .nil)).mono tD _ _,λz hz=>?_,by simp[lU],Bw c6 gU a2 nofun z0 a6]
   .rwa[ZM (ZW e nD),s5 b u (c4 b u e n)]
   .let#[a1,b1,c1,d1,hw,rr]:=(W4.same s5).ex;show#[a1,b1,c1,d1,#v[ZM (Ne.symm y),hw],rr]
   .rcases zC.mp hz with h|h
    .show fU z h
    .rwa[zI.mp h,fv]
  let U:d.natAbs<10^60:=GW nofun nofun
  let X:(d-700).natAbs<10^60:=GW nofun nofun
  exists 2,_,1,Z,_,Z;show XJ (λc=>?_) (λc=>?_)
  .exists 1,.inl #[Z,_,ZH.of g],1,_,1,Z,D,j,1,Z,g,YM nofun
   show m _ (.int (d-700)) S (ZC.refl _) (.int _) (NU X 3) #v[show nB o B i=0 from aP (by have:=of_decide_eq_true c;lia (splits:=8)),.int _]
  exists 2,_,1,Z,_,Z;show XJ (λc2=>?_) (λc2=>?_)
  .let Y:nB o B i=1:=by unfold nB;rw[aO (by have:=of_decide_eq_false (tI.mpr c);lia (splits:=8)),aP (by have:=of_decide_eq_true c2;lia (splits:=8))]
   let#[c1,J,a8]:=ER (i:=d/50) nofun nofun
   let#[c3,L,a9]:=ER (i:=d%50) nofun nofun
   exists 1,.inl #[Z,_,ZH.of g],2,_,1,Z,#[by decide,by decide]
   show .inr (.inr #[YS,_,c1,Z,Z,(by decide +kernel),J,_,_,Z,Z,(by change 2<=aq;decide),?_])
   show#[2,_,1,Z,(show (0:Int)<50 by decide),.inr (.inr #[YS,_,c3,Z,Z,(by decide +kernel),L,_,_,Z,Z,(by change 3<=aq;decide),?_])]
   let tx:Zy (("k":Str)++#[⇑[c1]]++#[⇑[c3]]) 3:=(Zy.k.cat (.one a8)).cat (.one a9);rcases(show ((0:Int)+(i:Int))%2=1\/((0:Int)+(i:Int))%2=0 from nofun) with G|G
   .show#[1,_,1,Z,(show (0:Int)<2 by decide),_,1,Z,(by decide +kernel),.inl #[G,?_]]
    exists _,1,Z,nw (zR (mW tx.1 Zy.a.1) (by decide)),D,j,1,Z,g,YM nofun
    show m _ (.str _) S (ZC.refl _) (.str _) (Kj (tx.cat .a) (by decide) 3) #v[Y,.str (tl:=[97]) Z J L]
   .show#[1,_,1,Z,(show (0:Int)<2 by decide),_,1,Z,(by decide +kernel),.inr #[G,?_]]
    exists _,1,Z,nw (zR (mW tx.1 Zy.e.1) (by decide)),D,j,1,Z,g,YM nofun
    show m _ (.str _) S (ZC.refl _) (.str _) (Kj (tx.cat .e) (by decide) 3) #v[Y,.str (tl:=[]) Z J L]
  .let Y:nB o B i=2:=by unfold nB;rw[aO (by have:=of_decide_eq_false (tI.mpr c);lia (splits:=8)),aO (by have:=of_decide_eq_false (tI.mpr c2);lia (splits:=8))]
   exists 1,.inl #[Z,_,ZH.of g],1,YJ;intro t1 n1;let g1:=Zf n1 (.tup [.str "",-d]);exists YJ;intro t2 n2;let g2:=Zf n2 (.tup [.int 0]);let a0:=g1|||g2;rcases(show ((0:Int)+(i:Int))%2=1\/((0:Int)+(i:Int))%2=0 from nofun) with G|G
   .show#[1,_,1,Z,(show (0:Int)<2 by decide),t2,.int 0,1,Z,Zc.of ZP,.inl #[G,?_]]
    exists t1,t2,_,1,Z,Zc.of (g2 _ _ ZP),Zc.of ZP,⋯,YJ,(λz=>mZ z ⋯)
    intro _ t3 n3;let g3:=Zf n3 (.tup ([.str "",-d]++[.int 0]));let gA:=a0|||g3;exists D,j,1,Z,gA _ _ g,YM nofun
    show m _ (.tup [.str "",-d,.int 0]) _ gA (.tup ZP (.cons (.str _) (.cons (.int _) (.cons (.int _) .nil)))) (oR U) #v[Y,.tup _ _]
   .show#[1,_,1,Z,(show (0:Int)<2 by decide),t2,.int 0,1,Z,Zc.of ZP,.inr #[G,λt3 n3=>?_]]
    let g3:=Zf n3 (.tup []);let gA:=a0|||g3;show#[t1,t3,_,1,Z,Zc.of (g3 _ _ (g2 _ _ ZP)),Zc.of ZP,⋯,YJ,(λ_=>?_),λz=>mZ Z z]
    exists D,j,1,Z,gA _ _ g,YM nofun
    show m _ (.tup [.str "",-d]) _ gA (.tup (g3 _ _ (g2 _ _ ZP)) (.cons (.str _) (.cons (.int _) .nil))) (wx U) #v[Y,.tup _ _]
 .rintro σ C ⟨l,x,j,N,rfl,z0,z1,s3,W3,I,kU,fU,lU,gU⟩;show#[1,k D j N C s3 W3 nD I kU fU lU gU.1]
def No{H:Hp}{L:YR}{u:V}(h:ZG H L.kt u):YB H L u:=by
 unfold YR.kt at h;rw[ZG] at h;let#[a,q,rfl,e,b]:=h;rw[kr] at b;let#[o,k,rfl,c,b]:=b;rw[kr] at b;let#[i,l,rfl,f,b]:=b;rw[kr] at b;let#[j,m,rfl,g,b]:=b;rw[kr] at b;let#[p,n,rfl,d,b]:=b;rw[kr] at b;subst b;rw[ZG] at c d;subst c d;show#[a,i,j,Z,e,f,g]
def RT:YR.d.fit:=#[NU (n:=0) (by decide) 3,NU (n:=0) (by decide) 3]
def ED(H:Hp)(b:jr)(c:jf):Prop:=↑c=↑b/\∀ i u,c[i]?\u->∃ a d e,u=.ref a/\H a\.tup [d,e]/\ZG H (b.getD i (.int 0)) d
noncomputable def NZ(a:jr):KT:=.tup [.int 0,a.getD 0 (.int 0),a.getD (↑a-1) (.int 0),.int ↑a]
def xn{a:jf}{u:V}(h:a[↑a-1]?\u):Xs a (-1)\u:=by
 let b:a≠[]:=λz=>by rw[z] at h;simp at h
 let e:a=a.dropLast++[u]:=by
  let c:a.getLast b=u:=by
   rwa[mo,(yO.mp h).2]
  rw[<-c,qQ]
 rwa[e,HF _ _]
inductive XA(d:jf)(H:Hp)(Q:VK)(_:XK):Prop
 |mk(l:aj)(b:jf)(c:jr)(_:d=[!l])(_:H l\.lst b)(_:ED H c b)(_:0<↑b)(_:∀(a:Hp)(v:V),ZC H a->ZG a (NZ c) v->Q v a)
theorem B2:ZA TZ TZ (Zd Iq):=Z4
def AC(F:Zj K "label_of_rows" "label_of_rows" Iq f fd)(T:Yd mg):-ZL ZZ 1 f fd TZ XA:=by
 show F.ko B2 λq A i s H L Q E I h=>?_;let#[l,c,J,rfl,e,d,u,k]:=h;intro C;show#[_,ZU (Zl (XH (OQ ZN (Zk K (Zk K (pv 0) ZN) ZN)
  (Zk K (Zk K (pv 0) (QL QP ZN)) ZN) (Zv X1 Z T.len Xk (ZV (pv 0)))))),?_]
 let m:c[0]?\c[0]:=zW u;let n:c[↑c-1]?\(c[↑c-1]'()):=zW ()
 let#[a,o,D,r,z,x]:=d.2 0 _ m;let#[b,bk,G,t,B,y]:=d.2 _ _ n;rw[r] at m;rw[t] at n;show#[1,.inl #[l,c,_,!a,Z,Z,ZH.of e,Xu (j:=0) m,.inr (.inl #[a,_,_,o,Z,Z,Zc.of z,Z,?_])]];show#[1,(1),Z,.inl #[l,c,_,!b,Z,Z,ZH.of e,xn n,.inr (.inl #[b,_,_,bk,Z,Z,Zc.of B,Z,?_])]];exists 1,l,c,Z,.inl (ZH.of e),YJ;intro p v;let g:=Zf v (.tup [.int 0,o,bk,.int ↑c]);show k _ _ g ?_;unfold NZ;rwa[<-d.1,.tup ZP (.cons (.int _) (.cons (x.sm g) (.cons (y.sm g) (.cons (.int _) .nil))))]
abbrev X5:=KT×KT
abbrev jK:=List X5
noncomputable def Jt(r:X5):KT:=.tup [r.1,r.2]
def Yn(a:jK):jr:=a.map Jt
def X5.fit(r:X5):Prop:=r.1.fits 3=X'/\r.2.fits 3=X'
theorem BH{H:Hp}{b c:aj}{d:V}(e:H b\.tup [])(g:H c\.tup [.int 1,.str "a"])(a:d∈[V.int 0,.int 1,.str "v",.str "",!b,!c]):∃ t:KT,ZG H t d/\t.fits 3=X':=by
 simp only[zD,tL,or_false] at a;rcases a with rfl|rfl|rfl|rfl|rfl|rfl
 .show#[.int 0,.int _,by decide +kernel]
 .show#[.int 1,.int _,by decide +kernel]
 .show#[.str "v",.str _,by decide +kernel]
 .show#[.str "",.str _,by decide +kernel]
 .show#[.tup [],.tup e .nil,by decide +kernel]
 .show#[.tup [.int 1,.str "a"],.tup g (.cons (.int _) (.cons (.str _) .nil)),by decide +kernel]
inductive XM(i:jf)(H:Hp)(Q:VK)(_:XK):Prop
 |mk(p d:aj)(b:Int)(e:jf)(g:jr)(_:i=[!p,!d,-b])(_:ZJ H p)(_:d≠p)(_:H d\.lst e)(_:kr H g e)(_:∀ t∈g,t.fits 3=X')(_:↑e=64)(_:0<=b)(_:b<16)(_:∀(D:aj)(c:jf)(h:jK)(a:Hp),ZI p H a->ZJ a p->H D=Y'->a D\.lst c->kr a (Yn h) c->(∀ r∈h,r.fit)->(h.map (·.1)).Sublist g->0<↑c->↑c<=4->Q (!D) a)
abbrev Aj:jv:=["_law_well_here","_law_grid_here","_law_block","_law_rows","_law_j"]
theorem WH:ZA Aj S8 (Zd IG):=Z4
theorem oC(F:Zj K "_law_leaf_rows" "_law_leaf_rows" IG f fd)(T:Yd mg)(DP:-ZD 1 "_law_pull" TQ Yp):-ZL ZZ 2 f fd S8 XM:=by
 show F.ko WH λc7 A c6 s H vs Q E hr h=>?_;let#[p,N,b,X,gt,rfl,W,a0,hg,kg,fg,lg,b0,b1,k]:=h;let nd:=WH.nd;let a9:=hr.units0;intro Xc;show#[_,ZO (Zs 3 nd (XT Z1))
  (ZO (Vj PassesOwn.never Z (NR Z T.range (ZV ZN)) (Yf 4 nd)
   (ZU (Zz (YF QH (Zq DP hr (Zg (pv 0) ZN)) ZN (Zx _))
    (ZU (Y0 (VL yP xQ xP V9 (pv 3) (ZV (XH (NY (Zk K (pv 1) (Z5 Wp (Z5 OY ZN (pv 2)) (pv 4)))
     (ZV (Zk K (XT (SN ZN ZN Y8 Y8 (XH Z1) (XH (Zg ZN Y8)))) (Zq DP hr (Zg (pv 0) ZN)))))))))) Z3)))
  (ZO (Zz (YF (Mm a9) (pv 3) (XT Z1) (Zx _))
   (ZU (Y0 (VL yP xQ xP V9 (pv 3) (ZV (XH (Zg (Zk K (pv 1) (Z5 Wp (Z5 OY ZN (pv 2)) (Zq DP hr (Zg (pv 0) ZN)))) Y8)))))) Z3)
  (ZU (Zl (pv 3))))),?_]
 let B:∀{g:Hp}{D:aj}{o:HO},ZJ g p->D≠p->ZJ (upd g D o) p:=fun{g D o} W5 n=>by
  let#[a1,b1,c1,d1,hw,rr]:=W5.ex;show#[a1,b1,c1,d1,#v[ZM (Ne.symm n),hw],rr]
 exists (by change 0<=aq;decide)
 intro D Y;let g0:=Zf Y (.lst []);let m:D≠p:=by let#[xs,e]:=W.some;show(ZW e Y).symm
 let c8:N≠D:=ZW hg Y;let a6:∀(H':Hp)(j:Nat),ZI p H H'->j<64->∃(v:V)(t:KT),Xs X (j:Int)\v/\ZG H' t v/\t.fits 3=X'/\gt[j]?\t:=λH' j s' hj=>by
  let hv:X[j]?\(X[j]'()):=zW ()
  let#[t,et,kt]:=kg.get hv;show#[_,t,Xu hv,kt.mono (s'.tupsW W) _ _,fg t (yY et),et]
 show#[(4),Z,by decide,by decide,Og (n:=4) (λi σ S=>∃(x:jg)(y:jf)(G:jK),σ=[Z' !p,Z' !N,Z' (-b),Z' !D,x]/\ZI p H S/\ZJ S p/\S D\.lst y/\kr S (Yn G) y/\(∀ r∈G,r.fit)/\(G.map (·.1)).Sublist ((gt.drop (4*b.toNat)).take i)/\↑y<=i)
  #[Y',[],[],Z,ZI.of g0,W.same g0,ZP,.nil,(λt ht=>mZ ht ⋯),List.nil_sublist _,zY _] ?_ ?_]
 .rintro i σ S hi ⟨x,y,G,rfl,s3,W3,J,kU,fU,sU,lU⟩;show#[1,p,(3),Z,W3,UW (by decide) (by decide),λr H4 r0 r1 I s4=>#[_,1,Z,1,?_]]
  let O:=s3|||s4;let a:=s4 D _ J m;let a5:=kU.mono (s4.tupsW W3) _ _;show XJ (λc=>?_) (λc=>?_)
  .let ej:(4:Int)*b+(0+(i:Int))=((4*b.toNat+i:Nat):Int):=()
   let#[v,t,av,kv,fv,et]:=a6 H4 (4*b.toNat+i) O ()
   let a4:H4 N\.lst X:=O N _ hg a0;show#[1,.inl #[Z,_,ZH.of a],2,_,1,Z,.inl #[by decide,by decide],1,_,1,Z,.inl #[N,X,_,v,Z,Z,ZH.of a4,#v[ej,av],?_]]
   exists YJ;intro t1 n1;let M:=Zf n1 (.tup []);exists YJ;intro t2 n2;let g2:=Zf n2 (.tup [.int 1,.str "a"]);exists YJ;intro L nL;let g3:=Zf nL (.lst [.int 0,.int 1,.str "v",.str "",!t1,!t2]);let gA:=(M|||g2)|||g3;let c4:L≠p:=by let#[xs,e]:=(I.same (M|||g2)).some;show(ZW e nL).symm
   exists 1,p,(6),Z,I.same gA,UW (by decide) (by decide)
   intro q g q0 q1 W5 U;let#[vv,ev,mv]:=K3 (xs:=[V.int 0,.int 1,.str "v",.str "",!t1,!t2]) q0 q1;show .inl #[L,_,_,vv,Z,Z,ZH.of (U L _ ZP c4),ev,YJ,λR nR=>?_];let C:=Zf nR (.tup [v,vv]);let a3:∀ b o,H4 b\o->b≠p->upd g R (.tup [v,vv]) b\o:=λb o e n=>C b o (U b o (gA b o e) n);let a7:YI H4 (upd g R (.tup [v,vv])):=λb ys e=>ZC.tups C b ys (U.tupsW (I.same gA) b ys (ZC.tups gA b ys e));let l:=a3 D _ a m;let c2:t1≠p:=by let#[xs,e]:=I.some;show(ZW e n1).symm
   let c3:t2≠p:=by let#[xs,e]:=(I.same M).some;show(ZW e n2).symm
   let#[tv,c0,a8]:=BH (H:=upd g R (.tup [v,vv])) (C _ _ (U _ _ (g3 _ _ (g2 _ _ ZP)) c2)) (C _ _ (U _ _ (g3 _ _ ZP) c3)) mv;exists D,y,1,Z,l,YM ()
   let tD:YI (upd g R (.tup [v,vv])) (upd (upd g R (.tup [v,vv])) D (.lst (y++[!R]))):=(ZI.refl D _).upd.tups l;show#[_,y++[!R],G++[(t,tv)],Z,λb o e n=>?_,B (W5.same C) m,ZP,?_,λz hz=>?_,?_,by simp;lia]
   .rwa[ZM (ZW e Y),a3 b o (O b o e n) n]
   .let e1:Yn (G++[(t,tv)])=Yn G++[Jt (t,tv)]:=by unfold Yn;rw[yT];rfl
    rwa[e1,((a5.mono a7 _ _).mono tD _ _).append (.cons (.tup (tD _ _ ZP) (.cons ((kv.mono a7 _ _).mono tD _ _) (.cons (c0.mono tD _ _) .nil))) .nil)]
   .rcases zC.mp hz with h|h
    .show fU z h
    .rwa[zI.mp h,#[fv,a8]]
   .let e2:(gt.drop (4*b.toNat))[i]?\t:=#v[rP,et]
    rwa[yT,yI,e2,sU.append (vU.refl _)]
  .show#[_,y,G,Z,O,I,a,a5,fU,sU.trans #v[yI,List.sublist_append_left _ _],()]
 .rintro σ S ⟨x,y,G,rfl,s3,W3,J,kU,fU,sU,lU⟩;exists 1,(by change 0<=aq;decide)
  intro d c5;let M:=Zf c5 (.lst []);exists D,d,y,Z,Z,ZH.of (M _ _ J),ZH.of ZP,_,Z;let I:=W3.same M;let s4:ZI p H (upd S d (.lst [])):=s3|||ZI.of M;let a:=M _ _ J
  cases y with
  |cons u ur=>
   show Zp #[1,?_];show k D _ G _ s4 I Y a (kU.sm M) fU ((sU|||List.take_sublist _ _)|||List.drop_sublist _ _) ⋯ lU
  |nil=>
   show YA ?_;let a4:upd S d (.lst []) N\.lst X:=s4 N _ hg a0;show#[1,.inl #[Z,_,ZH.of a],2,_,1,Z,.inl #[by decide,by decide],1,p,(4),Z,I,UW (by decide) (by decide),λr g r0 r1 W5 U=>#[_,1,Z,?_]]
   let a2:=s4|||U;let ej:(4:Int)*b+r=((4*b.toNat+r.toNat:Nat):Int):=()
   let#[v,t,av,kv,fv,et]:=a6 g (4*b.toNat+r.toNat) a2 ()
   show .inl #[N,X,_,v,Z,Z,ZH.of (a2 N _ hg a0),#v[ej,av],YJ,λR nR=>?_]
   let C:=Zf nR (.tup [v,.str "w"]);let l:=C _ _ (U D _ a m);exists D,[],1,Z,l,YM (by decide)
   let tD:YI (upd g R (.tup [v,.str "w"])) (upd (upd g R (.tup [v,.str "w"])) D (.lst ([]++[!R]))):=(ZI.refl D _).upd.tups l;show#[1,k D [!R] [(t,.str "w")] _ (λb o e n=>?_) (B (W5.same C) m) Y ZP ?_ (λz hz=>?_) (List.singleton_sublist.mpr (yY et)) ⋯ ⋯]
   .rwa[ZM (ZW e Y),C b o (a2 b o e n)]
   .show .cons (.tup (tD _ _ ZP) (.cons ((kv.sm C).mono tD _ _) (.cons (.str _) .nil))) .nil
   .rwa[zI.mp hz,#[fv,show (KT.str "w").fits 3=X' by decide +kernel]]
inductive Yb(c:jf)(H:Hp)(Q:VK)(_:XK):Prop
 |mk(p l:aj)(a:jf)(_:c=[!p,!l])(_:ZJ H p)(_:l≠p)(_:H l\.lst a)(_:0<↑a)(_:↑a<=900)(_:∀(x:V)(b:Hp),ZI p H b->ZJ b p->x∈a->Q x b)
theorem se:ZA TR TR (Zd IT):=Z4
def A1(F:Zj K "_law_picked" "_law_picked" IT f fd)(T:Yd mg)(e:-ZD 1 "_law_pull" TQ Yp):-ZL ZZ 2 f fd TR Yb:=by
 show F.ko se λj A b s H B Q E n h=>?_;let#[p,l,a,rfl,W,q,c,y,z,k]:=h;intro v;exists _,ZU (Zl (Zk K (pv 1) (Zq e n (Zg (pv 0) (Zv X1 Z T.len Xk (Zi (pv 1) Z1))))));exists 3,l,a,Z,.inl (ZH.of c),p,(↑a:Int),Z,W,UW () (xO (show ((↑a:Int)).natAbs<=900 by lia) (by decide))
 intro r g t u i d;let#[x,m,o]:=K3 (xs:=a) t u;show .inl #[l,a,r,x,Z,Z,ZH.of (d l _ c q),m,k x g d i o]
inductive Xe(g:jf)(H:Hp)(Q:VK)(_:XK):Prop
 |mk(d l:aj)(b:ba)(c:jz)(e:Int->Int)(_:g=[!d,!l])(_:H d\.dK b)(_:H l\.lst (c.map V.int))(_:∀ n∈c,Z2 b (.inl n)\.int (e n))(_:∀ n,c.find? (λm=>ng (e m=0))\n->∀(t:aj)(a:Hp),ZC H a->a t\.tup [.str "held",-n]->Q (!t) a)(_:c.find? (λm=>ng (e m=0))=Y'->∀ a:Hp,ZC H a->Q .non a)
theorem Vy:ZA ["_law_holds","_law_numbers","_law_number"] Ts (Zd ID):=Z4
theorem Mq{b:Type}{p:b->Bool}{x:b}:∀{l:List b}{i:Nat},(l.take i).find? p=Y'->l[i]?\x->(p x=X'->l.find? p\x)/\(p x=false->(l.take (i+1)).find? p=Y')
 |[],i,_,e=>by simp at e
 |a::l,0,_,e=>by
  simp at e;subst e;show#[λh=>by simp[wM,h],λh=>by simp[wM,h]]
 |a::l,i+1,h,e=>by
  simp only[uV,wM] at h⊢
  cases c:p a with
  |true=>rw[c] at h;simp at h
  |false=>
   rw[c] at h;have:=Mq (l:=l) (i:=i) (p:=p) h #v[e]
   simpa using this
def pS(F:Zj K "_law_unheld" "_law_unheld" ID f fd)(T:Yd mg):-ZL ZZ 1 f fd Ts Xe:=by
 show F.ko Vy λz A r s H Y Q E L h=>?_;let#[d,l,S,q,g,rfl,I,y,N,O,R]:=h;let U:=Vy.nd;let M:=VN L;intro X;show#[_,ZO (Vj PassesOwn.never Z (Wa (pv 1)) (Yf 2 U)
   (ZU (Zz (YF Xi (WT M (pv 0) (pv 2)) ZN (Zx _)) (ZU (Zl (XH (Zg Y8 (pv 2))))) Z3)))
  (ZU (Zl Mi)),?_]
 show#[1,l,Z,#[_,ZH.of y],PM (K:=K) (a:=l) (xs:=q.map V.int) (λi p e=>∃ x:jg,p=[Z' !d,Z' !l,x]/\ZC H e/\(q.take i).find? (λm=>ng (g m=0))=Y') #[1,ZC.refl H,Z] (λi p e _ G=>by let#[_,_,b,_]:=G;show ZH.of (b _ _ y)) ?_ ?_]
 .rintro i u p e j ⟨x,rfl,b,o⟩;obtain⟨n,v,rfl⟩:∃ n,q[i]?\n/\V.int n=u:=by
   rw[zO] at j;show yB.mp j
  let J:Zh e d (-n) (Z' (.int (g n))):=N n (yY v)▸Zh.k (k:=mY n) (b _ _ I);let#[C,D]:=Mq o v;exists 2,d,.int (g n),Z,J;exists Z,_,Z;let B:ng (V.int (g n)=V.int 0)=ng (g n=0):=by simp
  rw[B]
  cases c:ng (g n=0) with
  |true=>show YA #[1,YJ,λt W=>O n (C c) t _ (b|||Zf W _) ZP]
  |false=>show Zp #[1,b,D c]
 .rintro p e ⟨x,rfl,b,o⟩;rw[yQ ⋯] at o
  show R o e b
section
variable{T:String}{r d:aj}{n:Nat}{P:Nat->ai->Prop}{OK:aD->Prop}
def um{R:Result->ak->Prop}(K:sE prog w T r d n P OK)(l:A.handled=Y')(h:OK s.heap)(S:aj)(g:S≠r)(f:S≠d)(c:Nat)(k:s.heap.get? S\{ cls:=.type "list",data:=.seq ⇑[] c })(j:∀ e p a i,(∀ b o,b≠S->s.heap.get? b\o->e.get? b\o)->e.get? S\{ cls:=.type "list",dict:=Y',data:=.seq a i,slots:=⇑[] }->ItemsOf P a n->R (.ok (.ret !S)) { s with heap:=e,toks:=p })(m:n<=aq):
  aG ↥_ A (.builtin "list.__iadd__" #[[!S,!r],[]]) R s:=by
 show codeAny_builtin PySem.F.entry_list_iadd ?_;rwa[Around.under_plainId mR _,PySem.W.kdl_extend (R:=R) K l h S g f (!S) c k j m]
theorem oz{Q:je->ak->Prop}(K:sE prog w T r d n P OK)(q:A.handled=Y')(j:OK s.heap)(u:n<=aq)(m:∀ f k a,(∀ b o,s.heap.get? b\o->f.get? b\o)->‹s›<f.objs.size->ItemsOf P a n->Q a.toList { s with heap:=f,toks:=k }):aB ↥_ A (collect !r) Q E s:=by
 let i:=K.there _ j;unfold collect;show aa (wpAny_runValue (codeAny_builtin PySem.F.entry_proto_collect ?_));rw[Around.under_plainId PySem.F.plain_proto_collect _];change aB _ A.in1 (newList []>>=λl=>again (.builtin "list.__iadd__" #[[l,!r],[]])) _ _ s;show aa (wpAny_newObj_type ?_);let p:(s.heap.push { cls:=.type "list",data:=.seq ⇑([]:je) }).get? ‹s›\{ cls:=.type "list",data:=.seq ⇑[] 0 }:=yS _ Z;show ad #[plainId_quiet mR _,um (s:={ s with heap:=s.heap.push { cls:=.type "list",data:=.seq ⇑([]:je) } }) K q (K.keep _ _ j λb _ o e=>zS _ e) ‹s› (wW i.1) (wW i.2) _ p (λf k c v t g h=>?_) u];change aB _ A (load ‹s› >>= _) _ _ _;show aa (wpAny_load g ?_);show ad (m f k c (λb o e=>t b o (zJ (zU e)) (zS _ e)) (zU g) h)
end
def AG:∀{c:ba}{g:jW}{d:jz},KV c g->c.map (·.1)=d.map mY->∀ b:je,↑b=↑g->(∀(i:Nat)(v:ai),b[i]?\v->∃(k:ZQ)(x:ai),g[i]?\(k,x)/\OA k v=X')->IntsAre b d:=by
 intro c g d h e b l p;let f:=KV.keys h;rw[e] at f;clear e h
 induction g generalizing d b with
 |nil=>
  cases b with
  |nil=>
   cases d with
   |nil=>show .nil
   |cons _ _=>simp at f
  |cons _ _=>simp at l
 |cons q r y=>
  cases b with
  |nil=>simp at l
  |cons a b=>
   cases d with
   |nil=>simp at f
   |cons n d=>
    simp only[yL,List.cons.injEq] at f;let#[k,x,o,u]:=p 0 a Z;simp only[List.getElem?_cons_zero,zB.injEq] at o;subst o;let j:mY n=k:=f.1;subst j;obtain⟨i,t,m,s⟩|⟨i,t,m,s⟩:=Q2 u
    .cases m;subst s;show .cons _ _ (y b #v[l] (λi v w=>#v[p (i+1) v (by simpa using w)]) f.2)
    .cases m
def ou:∀{b:je}{a:jz},IntsAre b a->ZR (a.map V.int) b:=λh=>Lp h
theorem nn'{n:Nat}(h:n<64):n<=sizeLine:=yJ (YM ())
theorem Pd:ay "sorted"=Z' (.builtin "sorted"):=by decide +kernel
section
variable{kE:jw}{σ:St}{H:Hp}
end
def w5:typeLookup (.type "list_reverseiterator") "__len__"=pure Y':=by rw[typeLookup_type,builtinLookup_eq_fast];kernel_rfl
def B6:typeLookup (.type "list_reverseiterator") "__length_hint__"=pure (Z' (.builtin "list_reverseiterator.__length_hint__")):=by rw[typeLookup_type,builtinLookup_eq_fast];kernel_rfl
def vx:isSubtype (.type "list_reverseiterator") (.type "list_reverseiterator")=pure true:=by rw[isSubtype_type];kernel_rfl
theorem si{r:aj}{Q:Bool->ak->Prop}(d:s.TypeIs (!r) "list_reverseiterator")(h:Q false s):aB ↥_ A (Builtin.List.listLengthHint !r) Q E s:=by
 unfold Builtin.List.listLengthHint;show aa (wpAny_specialOf d w5 ?_)
 wp_delta
 show wpAny_ite_split (λa=>mZ a (by decide +kernel)) (λ_=>?_)
 show wpAny_ite_split (λa=>mZ a (by decide)) (λ_=>?_)
 show aa (wpAny_specialOf d B6 ?_);generalize c:("list_reverseiterator.__length_hint__":String)=e
 wp_delta
 rw[show splitId e\("list_reverseiterator","__length_hint__") from by subst c;decide +kernel]
 subst c;show aa (wpAny_isInstance (T:= "list_reverseiterator") (b:=true) d vx ?_);show wpAny_ite_split (λa=>mZ a (by decide)) (λ_=>?_)
 show wpAny_ite_split (λ_=>?_) (λa=>mZ (by decide +kernel) a)
 show wpAny_ite_split (λa=>mZ a (by decide)) (λ_=>?_)
 show ad h
theorem oA{l d:aj}{items:jA}{Q:ja}(hh:A.handled=Y')(J:s.heap.IsRevIter d l ((items.size:Int)-1))(hl:s.heap.IsList l items)(L:l≠d)(hn:items.size<=aq)(Y:∀ D B a C,(∀ b o,b≠d->s.heap.get? b\o->D.get? b\o)->D.get? ‹s›\{ cls:=.type "list",dict:=Y',data:=.seq a C,slots:=⇑[] }->ItemsOf (λi v=>items[items.size-1-i]?\v) a items.size->Q (.ref ‹s›) { s with heap:=D,toks:=B }):
  aB ↥_ A (call (.type "list") [!d]) Q E s:=by
 let#[oi,n,P]:=id J;let#[ol,p,R]:=id hl;let N:=zU n;let O:=zU p;show callType_codes (Q₁:=λx m=>x=.ref ‹s›/\m={ s with heap:=s.heap.push { cls:=.type "list",data:=.seq ⇑[] } }) PySem.F.called_list (PySem.F.typeCall_list_1 _) PySem.F.entry_list_init
  (code_list_new _ #[Z,Z]) λx m u=>?_
 let#[rfl,rfl]:=u;let z:(s.heap.push { cls:=.type "list",data:=.seq ⇑[] }).get? ‹s›\{ cls:=.type "list",data:=.seq ⇑[] }:=yS _ Z;exists #[_,z,Z],PySem.F.args_list_init_2 _ _;change aB _ _ (do let old<-Builtin.List.listItems (.ref ‹s›);Builtin.List.listUpdate (.ref ‹s›) (λ_=>⇑[]);letGo old.toList.reverse;Builtin.List.listExtendWith (.ref ‹s›) (!d) .none) _ _ _
 show aa ?_;unfold Builtin.List.listItems;show aa (wpAny_seqItems z Z (ad ?_));change aB _ _ (updateSeq ‹s› (λ_=>⇑[])>>=λ_=>letGo (⇑[]:jA).toList.reverse>>=λ_=>Builtin.List.listExtendWith (.ref ‹s›) (!d) .none) _ _ _;show aa (wpAny_updateSeq z Z ?_);let g:=wC (Obj.mapSeq (λ_=>(⇑[]:jA))) z Z;let k:∀ b o,s.heap.get? b\o->((s.heap.push { cls:=.type "list",data:=.seq ⇑[] }).update ‹s› (Obj.mapSeq (λ_=>(⇑[]:jA)))).get? b\o:=
  λb o e=>(xV _ _ (Ne.symm (zJ (zU e))))|||zS _ e
 show aa (wpAny_letGo ?_);generalize (s.heap.push { cls:=.type "list",data:=.seq ⇑[] }).update ‹s› (Obj.mapSeq (λ_=>(⇑[]:jA)))=S at g k⊢;let c:S.IsRevIter d l ((items.size:Int)-1):=#[oi,k _ _ n,P];let K:S.IsList l items:=#[ol,k _ _ p,R];let q:‹s›≠d:=wW N;let H:‹s›≠l:=wW O;let M:∀(h:aD)(f B:Nat),h.IsRevIter d l ((items.size:Int)-1)->h.IsList l items->(∀ b o,s.heap.get? b\o->h.get? b\o) ->
   h.get? ‹s›\{ cls:=.type "list",data:=.seq ⇑[] f }->aG ↥_ A.in1 (.builtin "list.extend.loop" #[[.ref ‹s›,!d,.none],[]]) (wants (λr y=>r=Value.none/\Q (.ref ‹s›) y) E) { s with heap:=h,toks:=B }:=by
  intro h f B k1 k2 k3 k4;show codeAny_extend_loopS (A:=A.in1) (Walks.listRev (A:=A.in1.in1) hh d l L items).toS hn ‹s› (by simp[q,H]) .none items.size 0 _ ⇑[] f Z (yZ _) #[yZ _,#v[k1],k2] k4 (ItemsOf.nil _) λV a C U G t=>?_
  rw[Moved.eq_with U];show#[Z,Y V.heap V.toks a C (λb o hb e=>U.heap b o (λj=>?_) (k3 b o e)) G t];rcases zD.mp j with W|j
  .show mZ (zU e) #v[W,wV _]
  .show hb (zI.mp j)
 unfold Builtin.List.listExtendWith;show aa (wpAny_typeOf (T:= "list_reverseiterator") c.typeIs ?_);let X:Builtin.List.listSameRef (.ref ‹s›) (!d)=false:=by simp[Builtin.List.listSameRef,q]
 simp only[X,show (Value.type "list_reverseiterator"==Value.type "list")=false from Z,show (Value.type "list_reverseiterator"==Value.type "tuple")=false from Z,Bool.or_false,vO,if_false];show aa (wpAny_pyIter_revIter c ?_);show aa (af (si c.typeIs ?_));show wpAny_ite_split (λI=>mZ I (by decide)) (λ_=>ad #[plainId_quiet PySem.F.plain_extend_loop _,M _ _ _ c K k g])
theorem oE:ay "reversed"=Z' (.type "reversed"):=by decide +kernel
theorem Bs{b:je}:∀{a:jA},ItemsOf (λi v=>b.toArray[b.toArray.size-1-i]?\v) a b.toArray.size->a.toList=b.reverse:=by
 intro a h;show List.ext_getElem? λi=>?_;let d:a.size=↑b:=by simpa using h.1
 by_cases c:i<↑b
 .let e:a.toList[i]?\a[i]:=by simp[d,c]
  let f:=h.2 i a[i] (by simp[d,c])
  rw[e,List.getElem?_reverse c,<-f];simp
 .rw[tU (by simp;lia),tU (by simp;lia)]
inductive QE(K:zZ)(Q:VK)(x:V)(a:Hp):Prop
 |mk(l b:_)(_:x=!l)(_:ZH K a l b)(_:∀ q,a q=Y'->Q (!q) (upd a q (.lst b.reverse)))
def su(K:zZ)(b:TE):TE:=λc H Q=>b c H λx a=>QE K Q x a
def ZR.rev:∀{c:jf}{b:je},ZR c b->ZR c.reverse b.reverse:=by
 intro c b r
 induction r with
 |nil=>show .nil
 |cons a r d=>rwa[List.reverse_cons,List.reverse_cons,d.append (.cons a .nil)]
def Br{e:Expr}{B:TE}{V t p f:aJ}(E:X.calm=X')(F:PE X e B)(G:Gl X "list")(L:Gl X "reversed")(S:X.mg "list"=Y')(T:X.mg "reversed"=Y')(k:ar [.Call (.Name "reversed" t) [e] [] f] X.env=(false,aH (.Call (.Name "reversed" t) [e] [] f) X.env)::ar [] X.env:=by rfl)(m:ar [e] X.env=(false,aH e X.env)::ar [] X.env:=by rfl):
  PE X (.Call (.Name "list" V) [.Call (.Name "reversed" t) [e] [] f] [] p) (su X.K B):=by
 intro n s σ H Q I h;show ag (OD I G S Uz ?_);show PyProof.Rows.callWith_type1 ?_ k Z;rw[k];show Calls.spliced_cons (ag (OD I L T oE ?_));show PyProof.Rows.callWith_type1 ?_ m Z;rw[m];show Calls.spliced_cons (Z0 (F n s σ H _ I h) λu g ⟨x,H1,r,Y,l,xs,D,J,q⟩=>Calls.spliced_nil ?_);subst D;cases Y;let#[d,z,W,M]:=r.list J;let y:=W.isList;let ll:=↑z;let#[U,j,v]:=id y;show call_reversed_list y (Calls.spliced_nil ?_);let R:=zU j;show oA (s:={ g with heap:=g.heap.push (revObj l ((d.toArray.size:Int)-1)) }) (items:=⇑d) (r.ok.hd E) #[_,yS _ Z,Z,Z] #[U,zS _ j,v] (zJ R) (by simp;lia) λh' tk i c N O P=>?_
 let A:(g.heap.push (revObj l ((d.toArray.size:Int)-1))).objs.size=‹g›+1:=vE _ _;let C:i.toList=d.reverse:=Bs P;show#[.ref (g.heap.push (revObj l ((d.toArray.size:Int)-1))).objs.size,_,r.laid (a:=(g.heap.push (revObj l ((d.toArray.size:Int)-1))).objs.size) (o:=.lst xs.reverse) (t':=tk) (λb o w=>N b o (zJ (zU w)) (zS _ w)) #v[A,xW _] #[#v[rL,M],i.toList,c,#v[C,ZR.rev z],#v[lZ,O]],Z,q _ (r.hok.fresh #v[A,xW _])]
inductive QB(a:zZ)(x y:V)(H:Hp)(Q:VK):Prop
 |mk(p b c:_)(_:x=!p)(_:y=!b)(_:ZH a H p c)(_:ZH a H b [])(_:Q (.bl (not c.isEmpty)) H)
def Ju(f:X.A.units<cLine):Yz X (az .NotEq) (QB X.K):=by
 intro l s J H x y v u Q I C D h;let#[p,b,E,rfl,rfl,c,o,q]:=h;cases C;cases D;let#[d,z,i,F]:=I.list c;let#[a,B,k,G]:=I.list o;let g:=↑z;let t:=↑B;let n:a=[]:=wJ (by rw[<-t];rfl)
 subst n
 cases E with
 |nil=>
  let m:d=[]:=wJ (by rw[<-g];rfl)
  subst m;show PySem.SeqAt.RcNeAt.lists (e:=λ_=>true) i.isList k.isList Z f (λj c _=>mZ c ⋯) X.prog X.w X.xe _ (Yw I q ⋯)
 |cons x r=>show PySem.SeqAt.RcNeAt.lists_lengths i.isList k.isList (by simp;intro e;subst e;simp at g) f X.prog X.w X.xe _ (Yw I q Z)
variable{jh ji CS CT CH CK CP CB:aj}
structure ZK where
 h:Nat
 rows:jK
 bs:jq
abbrev js:=List ZK
noncomputable def ZK.d:ZK:=#[(0),[],[]]
def nz(a:js)(i:Nat):ZK:=a[i]!
def yx{a:js}{i:Nat}{t:ZK}(h:a[i]?\t):nz a i=t:=by
 unfold nz;rw[zV,h];rfl
def Yo{a:js}{i:Nat}(h:i<↑a):a[i]?\nz a i:=by
 unfold nz;rw[zV,zW h];rfl
structure Zw(gt:jr)(ts:js)(i:Nat)(t:ZK):Prop where
 ne:t.rows≠[]
 up:(t.rows.map (·.1)).Pairwise λa b=>a.lt b=X'
 inn:∀ r∈t.rows,r.1∈gt/\r.fit
 leaf:t.h=0->t.bs=[]/\↑t.rows<=4
 stem:t.h≠0->2<=↑t.bs/\↑t.bs<=4/\(∀ b∈t.bs,b<↑ts/\(nz ts b).h+1=t.h)/\t.rows=t.bs.flatMap λb=>(nz ts b).rows
def WF(b:jr)(a:js):=∀ i t,a[i]?\t->Zw b a i t
theorem HP:∀{f l:jr},f.Pairwise (λa b=>a.lt b=X')->l.Pairwise (λa b=>a.lt b=X')->(∀ x∈l,x∈f)->↑l<=↑f
 |[],[],_,_,_=>zY _
 |[],x::_,_,_,h=>mZ (h x zT) ⋯
 |g::f,l,hg,hl,h=>by
  let c:=vM.mp hg;by_cases k:g∈l
  .cases l with
   |nil=>simp at k
   |cons x l=>
    let d:=vM.mp hl;let o:x=g:=by
     rcases zD.mp k with e|e
     .show e.symm
     .rcases zD.mp (h x zT) with j|j
      .show j
      .let m:=d.1 g e;let n:=c.1 x j;have:=Mj _ _ m;erw[n] at this
    have:↑l<=↑f:=HP c.2 d.2 λy i=>by
     rcases zD.mp (h y (zE _ i)) with e|e
     .have:=d.1 y i;rw[o,e] at this;let z:=Mj _ _ this;erw[this] at z
     .show e
    rw[yX,yX]
    lia
  .have:↑l<=↑f:=HP c.2 hl λy i=>by
    rcases zD.mp (h y i) with e|e
    .show mZ (e▸i) k
    .show e
   rw[yX]
   lia
def Zw.len{c:jr}{g:js}{i:Nat}{t:ZK}(h:Zw c g i t)(d:c.Pairwise λa b=>a.lt b=X'):↑t.rows<=↑c:=by
 have:=HP d h.up λx f=>by
  let#[r,e,rfl]:=zL.mp f;show(h.inn r e).1
 rw[zX] at this;assumption
def ny(t:ZK):Str:=if t.h=0 then "leaf" else "stem"
inductive My(H:Hp)(t:ZK)(v:V):Prop
 |mk(d c a:_)(_:v=!d)(_:H d\.tup [.str (ny t),!c])(_:H c\.lst a)(_:t.h=0->kr H (Yn t.rows) a)(_:t.h≠0->a=t.bs.map λb=>V.int (b:Nat))
structure Lv(ts:js)(lv:jq):Prop where
 lt:∀ i∈lv,i<↑ts
 cl:∀ i∈lv,∀ b∈(nz ts i).bs,b∈lv
 up:lv.Pairwise (·<·)
def Vz(H:Hp)(c:js)(b:jq)(a:ba):Prop:=a.map (·.1)=b.map (λi:Nat=>(mY (i:Int):ZQ))/\∀ i:Nat,i∈b->∃ v,Z2 a (mY (i:Int))\v/\My H (nz c i) v
def My.same{H a:Hp}{t:ZK}{v:V}(h:My H t v)(s:ZC H a):My a t v:=by
 let#[i,g,j,b,c,d,e,f]:=h;show#[i,g,j,b,s _ _ c,s _ _ d,λz=>(e z).sm s,f]
def Vz.same{H b:Hp}{d:js}{c:jq}{a:ba}(h:Vz H d c a)(s:ZC H b):Vz b d c a:=#[h.1,λi t=>by
 let#[v,e,f]:=h.2 i t;show#[v,e,f.same s]]
def Qi(c:js)(a:jq):jK:=a.reverse.flatMap λb=>(nz c b).rows
def NH(c:js)(a:jq):Nat:=(a.map λb=>5^(nz c b).h).sum
theorem Ci{a:js}{c:jr}:∀{l:jq},(∀ b∈l,Zw c a b (nz a b))->↑l<=↑(l.flatMap λb=>(nz a b).rows)
 |[],_=>zY _
 |b::l,h=>by
  let f:=Ci (l:=l) λx e=>h x (zE _ e);let d:=h b zT;have:1<=↑(nz a b).rows:=uW.mpr d.ne;rw[xJ,zG,yX]
  lia
theorem Ru{l:jq}{c:Nat}(f:Nat->Nat):(∀ b∈l,f b=c)->(l.map f).sum=↑l*c:=by
 induction l with
 |nil=>intro _;simp
 |cons b l d=>
  intro h;rw[yL,mV,d (λx a=>h x (zE _ a)),h b zT,yX,Nat.succ_mul]
  lia
def yn{a:js}{l:jq}{b:Nat}:NH a l<NH a (l++[b]):=by
 unfold NH;rw[yT,qU];have:0<5^(nz a b).h:=Nat.pow_pos (by decide)
 simp
 try lia
theorem ya{a:js}{f:jr}{l:jq}{b:Nat}(m:Zw f a b (nz a b))(k:(nz a b).h≠0):NH a (l++(nz a b).bs.reverse)<NH a (l++[b]):=by
 let#[n,g,i,_]:=m.stem k;unfold NH;rw[yT,qU,yT,qU];let e:((nz a b).bs.reverse.map λb=>5^(nz a b).h).sum=↑(nz a b).bs*5^((nz a b).h-1):=by
  have:=Ru (l:=(nz a b).bs.reverse) (c:=5^((nz a b).h-1)) (λb=>5^(nz a b).h) λc j=>by
   have:=(i c (uG.mp j)).2;change 5^(nz a c).h=_
   congr 1
   lia
  rw[this,rL]
 rw[e];let d:5^(nz a b).h=5*5^((nz a b).h-1):=by
  have:(nz a b).h=((nz a b).h-1)+1:=()
  rw[this,Nat.pow_succ,Nat.mul_comm];simp
 let pos:0<5^((nz a b).h-1):=Nat.pow_pos (by decide)
 simp only[yL,vI,mV,List.sum_nil,Nat.add_zero];rw[d];have:↑(nz a b).bs*5^((nz a b).h-1)<=4*5^((nz a b).h-1):=Nat.mul_le_mul_right _ g
 lia
noncomputable def VT(a:js)(h:Nat):Nat:=↑(a.filter λu=>ng (h<u.h))
def Rc(a:js){h b:Nat}(d:h<=b):VT a b<=VT a h:=by
 unfold VT
 induction a with
 |nil=>show zY _
 |cons u a c=>
  rw[wD,wD];by_cases z:b<u.h
  .rw[aP (aM z),aP (aM ()),yX,yX]
   lia
  .rw[aO (λy=>z (of_decide_eq_true y))];split
   .rw[yX];lia
   .show c
theorem GV(u:ZK)(a:js)(h:Nat):VT (u::a) h=(if h<u.h then 1 else 0)+VT a h:=by
 unfold VT;rw[wD];by_cases z:h<u.h
 .rw[aP (aM z),aP z,yX];lia
 .rw[aO (λy=>z (of_decide_eq_true y)),aO z];lia
theorem Ft:∀{a:js}{t:ZK}{h:Nat},t∈a->h<t.h->VT a t.h<VT a h
 |u::a,t,h,hm,hh=>by
  rw[GV,GV];rcases zD.mp hm with z|z
  .subst z;have:=Rc a (yJ hh);rw[aO (wV _),aP hh]
   lia
  .have:=Ft z hh;by_cases y:t.h<u.h
   .rw[aP y,aP ()];lia
   .rw[aO y];lia
def Ml{a:js}{j h:Nat}(c:j<↑a)(b:h<(nz a j).h):VT a (nz a j).h<VT a h:=Ft (yY (Yo c)) b
def Jm(a:js)(h:Nat):VT a h<=↑a:=tS _ _
def UA{H c:Hp}{a:aj}{o:HO}(s:ZC H c)(n:H a=Y'):ZC H (upd c a o):=λb u e=>#v[ZM (ZW e n),s b u e]
abbrev iN(l:jq):jf:=l.map λb=>V.int (b:Nat)
def Ei(a b:jK):Yn (a++b)=Yn a++Yn b:=yT
structure X8(gt:jr)(H:Hp)(d:aj)(ts:js)(lv:jq)(kvs:ba):Prop where
 dict:H d\.dK kvs
 tws:Vz H ts lv kvs
 lv:Lv ts lv
 wf:WF gt ts
 len:↑gt=64
 up:gt.Pairwise λa b=>a.lt b=X'
def X8.same{c:jr}{H b:Hp}{d:aj}{g:js}{e:jq}{a:ba}(h:X8 c H d g e a)(s:ZC H b):X8 c b d g e a:=#[s _ _ h.dict,h.tws.same s,h.lv,h.wf,h.len,h.up]
def X8.at_{c:jr}{H:Hp}{d:aj}{b:js}{e:jq}{a:ba}(h:X8 c H d b e a){i:Nat}(g:i∈e):Zw c b i (nz b i):=h.wf i _ (Yo (h.lv.lt i g))
def X8.get{q:jr}{H:Hp}{d:aj}{a:js}{j:jq}{g:ba}(h:X8 q H d a j g){i:Nat}(r:i∈j):∃ e c b,Zh H d (.int (i:Nat)) (Z' !e)/\H e\.tup [.str (ny (nz a i)),!c]/\H c\.lst b/\((nz a i).h=0->kr H (Yn (nz a i).rows) b)/\((nz a i).h≠0->b=iN (nz a i).bs):=by
 let#[v,l,e,c,b,rfl,m,n,o,p]:=h.tws.2 i r;show#[e,c,b,l▸Zh.k (k:=mY (i:Int)) h.dict,m,n,o,p]
structure Wv(gt:jr)(H:Hp)(d:aj)(ts:js)(lv:jq)(kvs:ba):Prop where
 dict:H d\.dK kvs
 tws:∀ i:Nat,i∈lv->∃ v,Z2 kvs (mY (i:Int))\v/\My H (nz ts i) v
 cl:∀ i∈lv,∀ b∈(nz ts i).bs,b∈lv
 at_:∀ i∈lv,Zw gt ts i (nz ts i)
 len:↑gt=64
 up:gt.Pairwise λa b=>a.lt b=X'
def X8.g{b:jr}{H:Hp}{d:aj}{e:js}{c:jq}{a:ba}(h:X8 b H d e c a):Wv b H d e c a:=#[h.dict,h.tws.2,h.lv.cl,λi j=>h.at_ j,h.len,h.up]
def Wv.same{c:jr}{H b:Hp}{d:aj}{g:js}{e:jq}{a:ba}(h:Wv c H d g e a)(s:ZC H b):Wv c b d g e a:=#[s _ _ h.dict,λi l=>by
 let#[v,j,k]:=h.tws i l;show#[v,j,k.same s],h.cl,h.at_,h.len,h.up]
def Wv.get{q:jr}{H:Hp}{d:aj}{a:js}{j:jq}{g:ba}(h:Wv q H d a j g){i:Nat}(r:i∈j):∃ e c b,Zh H d (.int (i:Nat)) (Z' !e)/\H e\.tup [.str (ny (nz a i)),!c]/\H c\.lst b/\((nz a i).h=0->kr H (Yn (nz a i).rows) b)/\((nz a i).h≠0->b=iN (nz a i).bs):=by
 let#[v,l,e,c,b,rfl,m,n,o,p]:=h.tws i r;show#[e,c,b,l▸Zh.k (k:=mY (i:Int)) h.dict,m,n,o,p]
inductive WP(h:jr)(i:jf)(H:Hp)(Q:VK)(_:XK):Prop
 |mk(d:aj)(n:Nat)(e:js)(c:jq)(b:ba)(_:i=[!d,-n])(_:Wv h H d e c b)(_:n∈c)(_:∀(a:Hp)(D:aj)(g:jf),ZC H a->H D=Y'->a D\.lst g->kr a (Yn (nz e n).rows) g->Q (!D) a)
abbrev v9:jv:=["_law_twigs","_law_number","_law_todo","_law_found","_law_kind","_law_what"]
theorem Vr:ZA v9 T1 (Zd JS):=Z4
theorem qt{gt:jr}(F:Zj K "_law_rows_of" "_law_rows_of" JS f fd)(T:Yd mg)(Tr:mg "reversed"=Y'):-ZL ZZ 1 f fd T1 (WP gt):=by
 show F.ko Vr λa6 A a5 s H vs Q E hr h=>?_;let#[d,n,i,lv,a7,rfl,L,hn,k]:=h;let W:=Vr.nd;let hu:=VN hr;intro Xc;show#[_,ZO (Zs 2 W (XT (ZV (pv 1)))) (ZO (Zs 3 W (XT Z1))
  (ZO (MP PassesOwn.never (YF (Ju hr.units0) (pv 2) (XT Z1) (Zx _))
   (ZO (Ps (WT hu (pv 0) (Nl yP mD mE Dv (pv 2))) (OM Z (XX (Yf 4 W) (XX (Yf 5 W) OC))))
   (ZU (Zz (YF Xi (pv 4) Y8 (Zx _))
    (ZU (Zs 3 W (Z5 Nd (pv 3) (VB PF Z T.list Uz (ZV (pv 5))))))
    (ZU (Zs 2 W (Z5 Nd (pv 2) (Br Z (pv 5) Z Z T.list Tr))))))))
  (ZU (Zl (pv 3))))),?_]
 show#[1,YJ,λj x=>#[YJ,λq p=>?_]];let y:j≠q:=λz=>by erw[<-z,ZP] at p
 let M:H q=Y':=by rw[ZM (Ne.symm y)] at p;show p
 let a4:=(L.at_ n hn).len L.up;rw[L.len] at a4;show#[λm σ H'=>∃(j q:aj)(g:jq)(a:jK)(B:jf)(k4 k5:jg),m=NH i g/\σ=[Z' !d,Z' (-n),Z' !j,Z' !q,k4,k5]/\ZC H H'/\H j=Y'/\H q=Y'/\j≠q/\H' j\.lst (iN g)/\H' q\.lst B/\kr H' (Yn a) B/\(∀ b∈g,b∈lv)/\a++Qi i g=(nz i n).rows,
  #[_,j,q,[n],[],[],Y',Y',Z,Z,UA (Zf x _) M,x,M,y,#v[ZM y,ZP],ZP,.nil,λb S=>#v[zI.mp S,hn],by simp[Qi]],?_]
 rintro m σ H1 ⟨j,q,g,a,B,k4,k5,rfl,rfl,s1,x,p,y,a0,a3,hk,S,I⟩;exists 1,YJ;intro e0 a2;let g0:=Zf a2 (.lst []);exists j,e0,iN g,Z,Z,ZH.of (g0 _ _ a0),ZH.of ZP,_,Z;let t:=g0 _ _ a0;let v:=g0 _ _ a3;let D:=hk.sm g0;let s2:=s1|||g0;generalize upd H1 e0 (.lst [])=R at t v D s2⊢;let lf:↑a+↑(Qi i g)=↑(nz i n).rows:=by rw[<-zG,I]
 let lt:↑g<=↑(Qi i g):=by
  have:=Ci (l:=g.reverse) λb h=>L.at_ b (S b (uG.mp h))
  rw[rL] at this;assumption
 rcases sS g with z|⟨rest,b,z⟩
 .subst z;show Zp ?_;let e1:a=(nz i n).rows:=by simpa [Qi] using I
  rw[e1] at D;show#[1,k R q B s2 p v D]
 .rw[sT] at z;subst z;let a1:(!(iN (rest++[b])).isEmpty)=X':=by simp[iN]
  rw[a1];show YA #[_,λ_ _ z=>z,?_];let bl:b∈lv:=S b ⋯
  let eI:iN (rest++[b])=iN rest++[.int (b:Nat)]:=by simp[iN]
  exists 2,.inl #[Z,_,ZH.of t],j,iN (rest++[b]),.int (b:Nat),Z,Z,t,by rw[eI];simp
  let u:upd R j (.lst (iN (rest++[b])).dropLast) j\.lst (iN rest):=by rw[ZP,eI,sW]
  let r:upd R j (.lst (iN (rest++[b])).dropLast) q\.lst B:=#v[ZM (Ne.symm y),v]
  let X:ZC H (upd R j (.lst (iN (rest++[b])).dropLast)):=UA s2 x;let G:kr (upd R j (.lst (iN (rest++[b])).dropLast)) (Yn a) B:=D.mono (λc xs e=>#v[ZM (ZE e t),e]) _ _
  generalize upd R j (.lst (iN (rest++[b])).dropLast)=H3 at u r X G⊢;let#[tp,tl,Y,g1,e2,e3,e4,e5]:=(L.same X).get bl;let er:Qi i (rest++[b])=(nz i b).rows++Qi i rest:=by simp[Qi]
  let lr:↑(Qi i (rest++[b]))=↑(nz i b).rows+↑(Qi i rest):=by rw[er,zG]
  let a8:↑B=↑a:=by have:=↑G;rwa[<-this,zX _]
  exists d,!tp,Z,g1,tp,1,Zc.of e2,Z,_,1,_,1,Z;exists 1,Z,_,Z;by_cases U:(nz i b).h=0
  .let ek:ng (V.str (ny (nz i b))=V.str "leaf")=X':=aM (by unfold ny;rw[aP U])
   rw[ek];let kk:=e4 U;let lw:↑Y=↑(nz i b).rows:=by have:=↑kk;rwa[<-this,zX _]
   show YA #[2,tl,Y,Z,.inl (ZH.of e3),λq1 n1=>?_];let C:=Zf n1 (.lst Y);exists q,q1,B,Y,Z,Z,C _ _ r,ZP,yJ (YM ())
   intro q2 J;let g5:=Zf J (.lst (B++Y));let o:=C|||g5;let O:=ZC.free (X|||C) J;let tq:j≠q2:=λz=>by erw[<-z,C _ _ u] at J
   exists _,yn,j,q2,rest,a++(nz i b).rows,B++Y,_,1,Z,X|||o,x,O,tq,o _ _ u,ZP,?_,λc N=>S c (yG _ N)
   .rwa[Ei,(G.sm o).append (kk.sm o)]
   .rwa[wR,<-er,I]
  .let ek:ng (V.str (ny (nz i b))=V.str "leaf")=false:=aK (by unfold ny;rw[aO U];decide)
   rw[ek];let ew:=e5 U;subst ew;let#[h1,h2,h3,h4]:=(L.at_ b bl).stem U;show Zp #[2,tl,1,ZH.of e3,λq1 n1=>?_];let C:=Zf n1 (.lst (iN (nz i b).bs).reverse);exists j,q1,iN rest,1,Z,C _ _ u,ZP,yJ (YM (by simp[iN];simp at lt;lia))
   intro q2 J;let g5:=Zf J (.lst (iN rest++(iN (nz i b).bs).reverse));let o:=C|||g5;let O:=ZC.free (X|||C) J;let fq:q2≠q:=λz=>by erw[z,C _ _ r] at J
   exists _,ya (L.at_ b bl) U,q2,q,rest++(nz i b).bs.reverse,a,B,_,1,Z,X|||o,O,p,fq,?_,o _ _ r,G.sm o,λc N=>?_
   .rw[ZP];simp[iN]
   .rcases zC.mp N with N|N
    .show S c (yG _ N)
    .show L.cl b bl c (uG.mp N)
   .rw[<-I,er,h4];simp[Qi]
theorem HN{a:jf}{j:Nat}{v:V}(b:1<=j)(c:j<=↑a)(h:a[↑a-j]?\v):Xs a (-(j:Int))\v:=by
 unfold Xs;let e:Q0 ↑a (-(j:Int))\(↑a-j):=by
  unfold Q0;rw[aO (),aP ()]
  congr 1
  lia
 rwa[e,h]
noncomputable def rc:X5:=(.int 0,.int 0)
def Z6(t:ZK):YR:=#[t.h,(t.rows.getD 0 rc).1,(t.rows.getD (↑t.rows-1) rc).1,↑t.rows]
def LL{H:Hp}{c:jK}{j:jf}{i:Nat}{u:V}(h:kr H (Yn c) j)(e:j[i]?\u):∃ a k l,c[i]?\c.getD i rc/\u=.ref a/\H a\.tup [k,l]/\ZG H (c.getD i rc).1 k/\ZG H (c.getD i rc).2 l:=by
 let#[t,d,f]:=h.get e;unfold Yn at d;rw[zO] at d;let#[r,g,rfl]:=yB.mp d;let m:c.getD i rc=r:=by rw[zV,g];rfl
 unfold Jt at f;rw[ZG] at f;let#[a,x,rfl,n,b]:=f;rw[kr] at b;let#[q,v,rfl,o,b]:=b;rw[kr] at b;let#[s,w,rfl,p,b]:=b;rw[kr] at b;subst b;rwa[m,#[a,q,s,g,Z,n,o,p]]
inductive Y6(g:jr)(h:jf)(H:Hp)(Q:VK)(_:XK):Prop
 |mk(d:aj)(n:Nat)(e:js)(c:jq)(b:ba)(_:h=[!d,-n])(_:Wv g H d e c b)(_:n∈c)(_:∀(a:Hp)(v:V),ZC H a->YB a (Z6 (nz e n)) v->Q v a)
abbrev BP:jv:=["_law_twigs","_law_number","_law_here","_law_high","_law_rows"]
theorem Vt:ZA BP T1 (Zd JI):=Z4
theorem pQ{gt:jr}(F:Zj K "_law_label" "_law_label" JI f fd)(T:Yd mg)(DR:-ZD 1 "_law_rows_of" T1 (WP gt)):-ZL ZZ 2 f fd T1 (Y6 gt):=by
 show F.ko Vt λa2 A Y s H vs Q E hr h=>?_;let#[d,n,a,lv,W,rfl,L,M,k]:=h;let o:=Vt.nd;let hu:=VN hr;intro Xc;show#[_,ZO (Zs 2 o (pv 1)) (ZO (Zs 3 o ZN)
  (ZO (MP PassesOwn.never (YF Xi (Zk K (WT hu (pv 0) (pv 2)) ZN) Y8 (Zx _))
   (ZO (Zs 2 o (Zk K (Zk K (WT hu (pv 0) (pv 2)) ZN) ZN))
   (ZU (Zs 3 o (Z5 Wp (pv 3) ZN)))))
  (ZO (Zs 4 o (Zq DR hr (Zg (pv 0) (pv 1))))
  (ZU (Zl (XH (OQ (pv 3) (Zk K (Zk K (pv 4) ZN) ZN) (Zk K (Zk K (pv 4) (QL QP ZN)) ZN) (Zv X1 Z T.len Xk (ZV (pv 4)))))))))),?_]
 exists _,Z;show#[λm σ H'=>∃(b i:Nat),m=(nz a b).h/\σ=[Z' !d,Z' (-n),Z' (.int (b:Nat)),Z' (.int (i:Nat)),Y']/\H'=H/\b∈lv/\i+(nz a b).h=(nz a n).h,
  #[_,n,(0),Z,Z,Z,M,()],?_]
 rintro m σ H1 ⟨b,i,rfl,rfl,rfl,v,hh⟩;let#[u,tl,ws,g1,r,e3,e4,e5]:=L.get v;show#[2,d,!u,Z,g1,.inr (.inl #[u,_,(0),_,Z,Z,Zc.of r,Z,?_])];exists Z,_,Z;by_cases t:(nz a b).h=0
 .let y:ng (V.str (ny (nz a b))=V.str "stem")=false:=aK (by unfold ny;rw[aP t];decide)
  rw[y];show Zp ?_;exists 2,d,n,a,lv,W,Z,L,M;intro H2 D e s2 nD I R;let p:=L.at_ n M;let l:↑e=↑(nz a n).rows:=by have:=↑R;rwa[<-this,zX _]
  let X:=p.len L.up;rw[L.len] at X;let g:0<↑e:=#v[l,uW.mpr p.ne]
  let B:e[0]?\e[0]:=zW g;let C:e[↑e-1]?\(e[↑e-1]'()):=zW ()
  let#[a0,N,v0,r0,u0,t0,S,_]:=LL R B;let#[a1,O,v1,r1,u1,t1,U,_]:=LL R C;rw[u0] at B;rw[u1] at C;show#[2,.inl #[D,e,(0),!a0,Z,Z,ZH.of I,Xu (j:=0) B,.inr (.inl #[a0,_,(0),N,Z,Z,Zc.of t0,Z,?_])]];show#[1,(1),Z,.inl #[D,e,-1,!a1,Z,Z,ZH.of I,HN (j:=1) (zY _) g C,.inr (.inl #[a1,_,(0),O,Z,Z,Zc.of t1,Z,?_])]];exists 1,D,e,Z,.inl (ZH.of I),YJ;intro q nq;let G:=Zf nq (.tup [.int (i:Nat),N,O,.int (↑e:Nat)]);show k _ _ (s2|||G) #[q,N,O,Z,?_,S.sm G,?_]
  .rw[ZP];let e1:(Z6 (nz a n)).h=(i:Int):=by change ((nz a n).h:Int)=_;lia
   let r:(Z6 (nz a n)).m=(↑e:Int):=by change (↑(nz a n).rows:Int)=_;lia
   rw[e1,r]
  .let x:(Z6 (nz a n)).hi=((nz a n).rows.getD (↑e-1) rc).1:=by rw[l];rfl
   rwa[x,U.sm G]
 .let y:ng (V.str (ny (nz a b))=V.str "stem")=X':=aM (by unfold ny;rw[aO t])
  rw[y];let ew:=e5 t;subst ew;let#[h1,h2,h3,h4]:=(L.at_ b v).stem t;obtain⟨c,J⟩:∃ c,(nz a b).bs[0]?\c:=#[_,zW ()]
  let a3:=h3 c (yY J);show YA #[_,λ_ _ z=>z,?_];show#[2,d,!u,Z,g1,.inr (.inl #[u,_,(1),_,Z,Z,Zc.of r,Z,.inl #[tl,_,(0),.int (c:Nat),Z,Z,ZH.of e3,Xu (j:=0) (by simp[iN,J]),?_]])]
  exists 1,_,1,Z;show#[(nz a c).h,(),c,i+1,Z,by simp[List.set],Z,L.cl b v c (yY J),()]
def Si(a:ju)(b:ke):Prop:=(jZ b).Perm a/\failedOf b=Y'/\(kf b).size=1/\PyProof.Rows.SortedTo (jZ b) a.size
theorem rq{a:ju}{d:ke}{Q:jL->ke->Prop}(g:PyProof.Rows.IntKeys a)(b:SBase a d)(f:1<=a.size)(l:PyProof.Rows.SortedTo (jZ d) a.size)(h:Q (Z' a.size) d):wpS ↥_ A E s (countRun' 0 a.size) Q d:=by
 rw[countRun0_eq];show jX (wpS_ascLoop g (zY _) (zY _) f b (λi j (m:i<=j) (o:j<1)=>#v[show i=j by lia,xN _]) λn p q r k=>?_)
 let e:n=a.size:=by
  rcases k with z|z
  .show z
  .rcases xM n a.size with c|c
   .have:=l (n-1) n () c
    lia
   .lia
 subst e;change wpS _ _ _ _ (if (a.size==a.size)=X' then pure (Z' a.size) else _) _ _
 rw[aP ⋯]
 show jY h
theorem qp:∀ n:Nat,n<1000->minRun' n n 0<=n:=by decide +kernel
theorem Bb{a₀:ju}{st:ke}{Q:Unit->ke->Prop}(m:PyProof.Rows.IntKeys a₀)(b:SBase a₀ st)(l:1<=a₀.size)(f:a₀.size<1000)(h:kf st=⇑[])(j:PyProof.Rows.SortedTo (jZ st) a₀.size)(g:∀ a,(jZ a).Perm a₀->failedOf a=Y'->PyProof.Rows.SortedTo (jZ a) a₀.size->Q .unit a):wpS ↥_ A E s sortRuns' Q st:=by
 rw[sortRuns'_eq];let k:(jZ st).size=a₀.size:=b.perm.size_eq;show jX (wpS_get ?_);dsimp only;rw[k];show jX (ki (I:=λi c a=>(i=0/\c=(Y',0)/\a=st)\/(1<=i/\c=(Y',a₀.size)/\Si a₀ a)) ?_ ?_ (.inl #[Z,Z,Z]))
 .rintro i c a _ e (⟨rfl,rfl,rfl⟩|⟨n,rfl,u⟩)
  .dsimp only;rw[aO ()]
   show jX ?_;rw[Nat.sub_zero];show rq m b l j ?_;dsimp only;rw[aO (vZ.mpr (qp _ f))];show jX (wpS_get ?_);rw[h];show jX (wpS_modify ?_);show jY ?_;show .inr #[zY _,by rw[uN],b.perm,b.failed,?_,j]
   change ((kf a).push _).size=1;rw[h];rfl
  .dsimp only;rw[aP (zY _)];show jY ?_;dsimp only;show jX (ki (I:=λi c d=>c=(Y',.unit)/\d=a) (λi c d _ _ e=>?_) (λc d e=>?_) #[Z,Z])
   .let#[rfl,rfl]:=e;show jX (wpS_get ?_);rw[aP #v[u.2.2.1,zY _]]
    show jY ?_;show jY (g _ u.1 u.2.1 u.2.2.2)
   .let#[rfl,rfl]:=e;show jY (g _ u.1 u.2.1 u.2.2.2)
 .rintro c a (⟨z,_,_⟩|⟨_,rfl,u⟩)
  .lia
  .dsimp only;show jX (ki (I:=λi c d=>c=(Y',.unit)/\d=a) (λi c d _ _ e=>?_) (λc d e=>?_) #[Z,Z])
   .let#[rfl,rfl]:=e;show jX (wpS_get ?_);rw[aP #v[u.2.2.1,zY _]]
    show jY ?_;show jY (g _ u.1 u.2.1 u.2.2.2)
   .let#[rfl,rfl]:=e;show jY (g _ u.1 u.2.1 u.2.2.2)
theorem Fv:∀{b:je}{a:jz}{i:Nat}{n:Int},IntsAre b a->a[i]?\n->∃ t,b[i]?\.int n t
 |_,_,0,_,.cons m t h,e=>#[t,by simp at e;rw[<-e];rfl]
 |_,_,i+1,_,.cons m t h,e=>by
  let#[t,r]:=Fv (i:=i) h #v[e]
  show#[t,#v[r]]
theorem pL{f:je}{d:jz}(m:IntsAre f d)(z:d.Pairwise (·<=·)):PyProof.Rows.SortedTo (pairsOf f) (pairsOf f).size:=λi j v o=>by
 rw[pairsOf_size] at o;let C:=↑m;let q:∀ i,i<↑f->∃ n,d[i]?\n/\PyProof.Rows.K (pairsOf f) i=n:=λi B=>by
  let p:i<↑d:=()
  let#[t,e]:=Fv m (zW p);exists _,zW p;unfold PyProof.Rows.K;have:(pairsOf f)[i]?\(.int d[i] t,.int d[i] t):=by
   rwa[<-yC,pairsOf_toList,List.getElem?_zip_eq_some,#[e,e]]
  rw[this];rfl
 let#[a,l,x]:=q i ()
 let#[b,g,y]:=q j o;rw[x,y];rcases xM i j with c|c
 .let#[h,r]:=yO.mp l;let#[k,u]:=yO.mp g;have:=uS.mp z i j h k c;rw[r,u] at this;show this
 .have:i=j:=()
  subst this;erw[l] at g;show xN _
theorem oo{a:aj}{b:je}{p:jz}{n:Nat}{P:PySem.Fin->ak->Prop}(j:s.heap.get? a\seqObj "list" ⇑b n)(f:IntsAre b p)(I:↑b<1000)(H:p.Pairwise (·<=·))(h:∀ (i:jA) (d:jz),IntsAre i.toList d->d.Perm p->d.Pairwise (·<=·)->P (.done (.ret .none)) { s with heap:=sortedHeap s.heap a b i }):aB ↥_ A (Builtin.«list.sort» { pos:=[!a] }) P E s:=by
 rcases xM ↑b 64 with c|c
 .show list_sort_tree j f c h
 let u:↑b<=sizeLine:=yJ (YM ())
 rw[list_sort_plain];show aa (listItems_at j Z ?_);show aa (listUpdate_at j Z ?_ #v[zM,u] (yZ _))
 obtain⟨o,g⟩:∃ o,(s.heap.update a (Obj.mapSeq λ_=>(⇑[]:jA))).get? a\seqObj "list" ⇑[] o:=#[_,get?_update_seq j λ_=>⇑[]];show aa (seqEpoch_at g Z ?_);show aa (wpAny_newTuple ?_ (by change ↑b<=_;show u))
 show aa (wpAny_newList ?_ (yZ _));show af ?_;let v:(((s.heap.update a (Obj.mapSeq λ_=>(⇑[]:jA))).push (seqObj "tuple" ⇑b 0)).push (seqObj "list" ⇑[] 0)).get? a\seqObj "list" ⇑[] o:=zS _ (zS _ g);dsimp only;rw[aO (by rw[zM];lia),aO (by rw[zM];lia)]
 obtain⟨l,m,rest,x⟩:∃ l m rest,b=l::m::rest:=by
  match b,c with
  |l::m::rest,_=>show#[l,m,rest,Z]
 let D:keyKind' ⇑b=pure oneType':=by
  subst x;show keyKind_ints f
 rw[D];show aa (ad ?_);let F:(pairsOf b).size=↑b:=pairsOf_size b;show aa (Z0 (Bb (a₀:=pairsOf b) (st:=SortSt.mk' oneType' (pairsOf b) ⇑[] 7 Y') (Q:=λ_ e=>(jZ e).Perm (pairsOf b)/\failedOf e=Y'/\PyProof.Rows.SortedTo (jZ e) (pairsOf b).size) f.intKeys #[Array.Perm.refl _,Z,Z,Z] () () Z (pL f H) λe k q t=>#[k,q,t]) λr G y=>?_)
 let#[⟨⟩,e]:=r;let#[rfl,k,q,t]:=y;let#[d,z,B,C]:=sorted_out f k t;dsimp only;show aa (seqEpoch_at v Z ?_);show aa (listUpdate_at v Z ?_ (yZ _) (by rw[Array.size_map,k.size_eq,F];lia))
 rw[q];simp only[bne_self_eq_false,vO,if_false];show ad (h _ d z B C)
section
variable{T:String}{r d:aj}{n:Nat}{P:Nat->ai->Prop}{OK:aD->Prop}
def Bg{Q:ja}{ns:jz}(K:sE prog w T r d n P OK)(J:A.handled=Y')(t:OK s.heap)(L:n<=aq)(G:∀ f,ItemsOf P f n->IntsAre f.toList ns)(q:n<1000)(y:ns.Pairwise (·<=·))(H:∀ p x a g c,(∀ b o,s.heap.get? b\o->p.get? b\o)->‹s›<=a->IntsAre g ns->p.get? a\{ cls:=.type "list",data:=.seq ⇑g c }->Q (!a) { s with heap:=p,toks:=x }):
  aB ↥_ A (call (.builtin "sorted") [!r]) Q E s:=by
 show Calls.call_function_entry kind_sorted plain_sorted entry_sorted (args_sorted1 _) ?_;unfold Builtin.«sorted»;show aa (m:=checkCount "sorted" 1 1 _) (ad ?_);show aa (oz K J t L λj x f M u h=>?_);let F:=G f h;let k:↑f.toList<1000:=#v[yD,h.1,q]
 show aa (wpAny_newList ?_ (hsz:=yJ (YM ())))
 let i:(j.push (seqObj "list" ⇑f.toList 0)).get? j.objs.size\seqObj "list" ⇑f.toList 0:=yS _ Z;show aa (af (wpAny_call_entry slot_list_sort #[_,i,Z] entry_list_sort (oo i F k y λg v z B C=>#[1,?_]) (args_list_sort _)));show ad #[1,?_];let e:v=ns:=wX.eq_of_pairwise (le:=(·<=·)) (λa b _ _ j D=>Int.le_antisymm j D) C y B;subst e;let#[c,I]:=sortedHeap_at (vs:=f.toList) (out:=g) i;show H _ x j.objs.size g.toList c (λb o e=>?_) (yJ u) z #v[lZ,I]
 let l:=M b o e;rw[sortedHeap_old (zJ (zU l)) #v[size_push',uQ (zU l)]]
 show zS _ l
end
inductive Pa(d:jf)(H:Hp)(Q:VK):Prop
 |mk(a:aj)(b:ba)(c:jz)(_:d=[!a])(_:H a\.dK b)(_:b.map (·.1)=c.map mY)(_:c.Pairwise (·<=·))(_:↑c<1000)(_:∀ p,H p=Y'->Q (!p) (upd H p (.lst (c.map V.int))))
theorem P8(C:X.calm=X'):Vd X (.builtin "sorted") Pa:=by
 intro n s S H R P Q I r h;let#[a,g,j,rfl,B,l,E,f,q]:=h;let#[u,rfl,J]:=UD r;cases J;let#[z,G,L,kv,y]:=Nw I.hok B;let N:↑j=↑g:=by have:=congrArg xY l;simpa using this.symm
 let O:=KV.length kv;let#[t,x]:=y.dictAt;show Bg (ns:=j) (PySem.W.kdl_dict (knd:=Wg X.prog X.w) (kvs:=L) (ep:=t) G) (I.ok.hd C) x () (λd b=>AG kv l d.toList #v[yD,b.1] λi v e=>?_) () E λM K p k c F m A D=>?_
 .show b.2 i v (by rwa[<-yC,e])
 .show#[!p,_,I.laid (a:=p) (o:=.lst (j.map V.int)) (t':=K) F m #[#v[zX,yJ (YM (yJ f))],k,c,ou A,D],Z,q p (I.hok.fresh m)]
variable{jh ji CS CT CH CK CP CB:aj}
def abv(b:js)(a:jq)(i:Nat):jq:=a.filter λj=>ng (i∈(nz b j).bs)
theorem Gr(x:Nat)(l:jq):NP (.int (x:Nat)) (iN l)=ng (x∈l):=by
 unfold NP iN;rw[List.any_map]
 induction l with
 |nil=>rfl
 |cons n l a=>
  rw[vF,a];let e:((λy=>Qz y (V.int (x:Nat))) ∘ λb:Nat=>V.int (b:Nat)) n=ng (n=x):=by
   change Qz (.int (n:Nat)) (.int (x:Nat))=_;rw[wU];simp[Qz]
   lia
  rw[e];by_cases h:n=x
  .subst h;simp
  .have:¬ x=n:=λz=>h z.symm;simp[h,this]
def IP(l:jq):(iN l).all Pb=X':=by
 unfold iN;rwa[vT,zF.mpr λ_ _=>rfl]
def K1{J:It}{w:jq}{A:Tw.St}{H:Hp}{y:TT}{Q:VK}(e:jq)(p:Nat->Bool)(F:↑e<=900)(s:∀ i a,ZC H a->i<↑e->J.go i a)(E:∀ i a x b,ZC H a->i<↑e->J.yld i a x b->b=a/\(iN e)[i]?\x)(h:∀ a,ZC H a->J.stop ↑e a)(o:∀ a n (R:Bool->Hp->Prop),n∈e->ZC H a->R (p n) a->y (NJ A w (.int (n:Nat))) a R)(r:∀ (D:aj) (a:Hp),ZC H a->H D=Y'->a D\.lst (iN (e.filter p))->Q (!D) a):Wu J A w y (QA 0) H Q:=by
 show ow (n:=↑e) (λi z=>(iN e)[i]?\z) (λz=>match z with|.int n=>p n.toNat|_=>false) (λD i f b=>ZC H b/\H D=Y'/\f=iN ((e.take i).filter p)) (YM ())
  (λD i f b j c=>s i b c.1 j) (λD i f b z B j c u=>E i b z B c.1 j u) (λD f b c=>h b c.1)
  (λD v=>#[Zf v _,v,Z]) (λD i f b z j d c R C=>?_) (λD i f b z q j d t c=>?_) (λD i f b z q j d t c=>?_) (λD f b q c=>?_)
 .unfold iN at d;rw[zO] at d;let#[n,l,rfl]:=yB.mp d;show o b n R (yY l) c.1 C
 .let#[m,k,rfl]:=c;unfold iN at d;rw[zO] at d;let#[n,l,rfl]:=yB.mp d;exists UA m k,k;let g:p n=X':=t;rw[yI,l,uC];simp[g,iN]
 .let#[m,k,rfl]:=c;unfold iN at d;rw[zO] at d;let#[n,l,rfl]:=yB.mp d;exists m,k;let g:p n=false:=t;rw[yI,l,uC];simp[g]
 .let#[m,k,rfl]:=c;rw[yQ (zY _)] at q;show r D b m k q
theorem P0{a:jq}(h:a.Pairwise (·<·)):(a.map λi:Nat=>(i:Int)).Pairwise (·<=·):=by
 rw[List.pairwise_map];show h.imp λh=>by lia
inductive VZ(g:jr)(h:jf)(H:Hp)(Q:VK)(_:XK):Prop
 |mk(d:aj)(n:Nat)(e:js)(c:jq)(b:ba)(_:h=[!d,-n])(_:X8 g H d e c b)(_:↑c<150)(_:∀(a:Hp)(D:aj),ZC H a->H D=Y'->a D\.lst (iN (abv e c n))->Q (!D) a)
theorem Up:ZA T1 T1 (Zd Hy):=Z4
theorem ve{gt:jr}(F:Zj K "_law_above" "_law_above" Hy f fd)(T:Yd mg):-ZL ZZ 1 f fd T1 (VZ gt):=by
 show F.ko Up λN A u s H vs Q E hr h=>?_;let#[d,n,l,a,t,rfl,L,a0,k]:=h;let nd:=Up.nd;let I:=VN hr;intro Xc;show#[_,ZU (Zl (QS [0,1] T1 Z (Wa (Zv (P8 Z) Z T.sorted Pd (ZV (pv 0))))
  (λ_ _ _ _ _=>Nt (PW.pt (M8 (YF Xi (Zk K (WT I (pv 1) (pv 0)) ZN) Y8 (Zx _)) (LM (YF (r:=MH K false) B0 (pv 2) (Zk K (WT I (pv 1) (pv 0)) ZN) Z)))))
  (λ_ _ _ _ _=>pv 0) #[Z,.inl Z,Z,Z,.inl Z,Z,trivial])),?_]
 exists 1,d,t,a.map λi:Nat=>(i:Int),Z,L.dict,(by rw[L.tws.1,zH];rfl),P0 L.lv.up,by simp;lia
 intro p np;let U:(a.map λi:Nat=>(i:Int)).map V.int=iN a:=by rw[zH];rfl
 rw[U];let#[H1,W,o,e]:=Xg np (.lst (iN a));rw[W];show#[p,Z,#[_,ZH.of e],K1 a (λj=>ng (n∈(nz l j).bs)) () (λi z b G=>#[_,.int (a[i]:Nat),ZH.of (b _ _ e),by simp[iN,zW G]]) (λi z x H4 b G J=>#[J.1,J.2 _ (ZH.of (b _ _ e))]) (λz b=>#[_,ZH.of (b _ _ e),by simp[iN]]) (λy j R hj v q=>?_) (λD y v nD hD=>?_)]
 .let M:j∈a:=hj;let#[g,tl,ws,C,B,O,e4,S]:=(L.same (o|||v)).get M;show#[2,d,!g,Z,C,.inr (.inl #[g,_,(0),_,Z,Z,Zc.of B,Z,?_])];exists Z,_,Z;by_cases c:(nz l j).h=0
  .let m:ng (V.str (ny (nz l j))=V.str "stem")=false:=aK (by unfold ny;rw[aP c];decide)
   rw[m];let X:=((L.at_ M).leaf c).1;rw[X,aK ⋯] at q
   show Zp q
  .let m:ng (V.str (ny (nz l j))=V.str "stem")=X':=aM (by unfold ny;rw[aO c])
   rw[m];let Y:=S c;subst Y;show YA #[3,d,!g,Z,C,.inr (.inl #[g,_,(1),_,Z,Z,Zc.of B,Z,?_])];exists tl,1,.inl (ZH.of O),Z,IP _,_,Z;rwa[aO zN,Gr,q]
 .show k y D (o|||v) (ZC.free o nD) hD
inductive Sh(ts:js)(lv:jq)(ho:Nat->Nat):Nat->jL->Prop
 |here {i:Nat}:↑(abv ts lv i)+ho i≠1->Sh ts lv ho i (Z' i)
 |top {i:Nat}:↑(abv ts lv i)+ho i=1->abv ts lv i=[]->Sh ts lv ho i Y'
 |up {i j:Nat} {r:jq} {o:jL}:↑(abv ts lv i)+ho i=1->abv ts lv i=j::r->Sh ts lv ho j o->Sh ts lv ho i o
def Sh.uniq{j:js}{f:jq}{e:Nat->Nat}{i:Nat}{o p:jL}(h:Sh j f e i o)(g:Sh j f e i p):o=p:=by
 induction h generalizing p with
 |here a=>
  cases g with
  |here=>rfl
  |top b=>show mZ b a
  |up b=>show mZ b a
 |top a b=>
  cases g with
  |here c=>show mZ a c
  |top=>rfl
  |up _ c=>erw[b] at c
 |up a b _ k=>
  cases g with
  |here c=>show mZ a c
  |top _ c=>erw[b] at c
  |up _ c d=>
   erw[b] at c;show k d
inductive Zu(ts:js)(lv:jq)(ho:Nat->Nat):Nat->jq->Prop
 |top {i:Nat}:↑(abv ts lv i)+ho i=1->abv ts lv i=[]->Zu ts lv ho i [i]
 |up {i j:Nat} {l r:jq}:↑(abv ts lv i)+ho i=1->abv ts lv i=j::r->Zu ts lv ho j l->Zu ts lv ho i (i::l)
def Sh.road{e:js}{d:jq}{c:Nat->Nat}{i:Nat}{o:jL}(h:Sh e d c i o):o=Y'->∃ l,Zu e d c i l:=by
 induction h with
 |here _=>intro z;cases z
 |top a b=>intro _;show#[_,.top a b]
 |up a b _ f=>
  intro z;let#[l,h]:=f z;show#[_,.up a b h]
def Zu.sh{e:js}{d:jq}{c:Nat->Nat}{i:Nat}{l:jq}(h:Zu e d c i l):Sh e d c i Y':=by
 induction h with
 |top a b=>show .top a b
 |up a b _ f=>show .up a b f
def Zu.uniq{k:js}{j:jq}{f:Nat->Nat}{i:Nat}{l e:jq}(h:Zu k j f i l)(g:Zu k j f i e):l=e:=by
 induction h generalizing e with
 |top a b=>
  cases g with
  |top=>rfl
  |up _ c=>erw[b] at c
 |up a b _ m=>
  cases g with
  |top _ c=>erw[b] at c
  |up _ c d=>
   erw[b] at c;rw[m d]
def oV:jL->V
 |none=>.non
 |some j=>.int (j:Nat)
theorem OG{e:jr}{a:js}{b:jq}(g:WF e a)(f:Lv a b){i j:Nat}(h:j∈abv a b i):(nz a i).h<(nz a j).h/\j∈b:=by
 unfold abv at h;rw[yM,decide_eq_true_iff] at h;let d:=g j _ (Yo (f.lt j h.1));by_cases c:(nz a j).h=0
 .rw[(d.leaf c).1] at h;simp at h
 .show#[by have:=((d.stem c).2.2.1 i h.2).2;lia,h.1]
def Dn(b:js)(a:jq)(i:Nat):↑(abv b a i)<=↑a:=tS _ _
def Vs(a:ba)(b:jq)(c:Nat->Nat):Prop:=a.map (·.1)=b.map (λi:Nat=>(mY (i:Int):ZQ))/\∀ i:Nat,i∈b->Z2 a (mY (i:Int))\.int (c i:Nat)
inductive Xb(j:jr)(k:jf)(H:Hp)(Q:VK)(_:XK):Prop
 |mk(d g:aj)(n:Nat)(i:js)(b:jq)(c a:ba)(h:Nat->Nat)(_:k=[!d,!g,-n])(_:X8 j H d i b c)(_:↑b<150)(_:n∈b)(_:H g\.dK a)(_:Vs a b h)(_:∀(e:Hp)(o:jL),ZC H e->Sh i b h n o->Q (oV o) e)
abbrev BF:jv:=["_law_twigs","_law_holds","_law_number","_law_here","_law_stems"]
theorem Vx:ZA BF Tn (Zd Iw):=Z4
theorem qu{X:jr}(F:Zj K "_law_shared" "_law_shared" Iw f fd)(T:Yd mg)(DA:-ZD 1 "_law_above" T1 (VZ X)):-ZL ZZ 2 f fd Tn (Xb X):=by
 show F.ko Vx λa0 A S s H vs Q E J h=>?_;let#[d,y,n,a,e,N,a1,g,rfl,L,O,hn,hh,hH,k]:=h;let R:=Vx.nd;let hu:=VN J;intro Xc;show#[_,ZO (Zs 3 R (pv 2)) (ZU (MP PassesOwn.never (Yy Uc)
  (ZO (Zs 4 R (Zq DA J (Zg (pv 0) (pv 3))))
  (ZO (Zz (YF P4 (Z5 Wp (Zv X1 Z T.len Xk (ZV (pv 4))) (WT hu (pv 1) (pv 3))) ZN (Zx _)) (ZU (Zl (pv 3))) Z3)
  (ZO (Zz (YF (Mm J.units0) (pv 4) (XT Z1) (Zx _)) (ZU (Zl Mi)) Z3)
  (ZU (Zs 3 R (U4 YC (pv 4) ZN (λ_ _=>rfl))))))))),?_]
 exists _,Z;show#[λm σ H'=>∃(b:Nat)(Y:jg),m=VT a (nz a b).h/\σ=[Z' !d,Z' !y,Z' (-n),Z' (.int (b:Nat)),Y]/\ZC H H'/\b∈e/\∀ o,Sh a e g b o->Sh a e g n o,
  #[_,n,Y',Z,Z,ZC.refl H,hn,λ_ z=>z],?_]
 rintro m σ H1 ⟨b,Y,rfl,rfl,s1,bl,U⟩;show#[1,YA #[_,λ_ _ z=>z,?_]];exists 2,d,b,a,e,N,Z,L.same s1,O;intro v D s2 nD C;let p:=s1|||s2;let hg:Zh v y (.int (b:Nat)) (Z' (.int (g b:Nat))):=hH.2 b bl▸Zh.k (k:=mY (b:Int)) (p _ _ hh);let lI:↑(iN (abv a e b))=↑(abv a e b):=zX _;exists 1,D,1,.inl (ZH.of C),2,y,.int (g b:Nat),Z,hg,_,1,Z;exists Z,_,Z;show XJ (λc=>?_) (λc=>?_)
 .let u:↑(abv a e b)+g b≠1:=λz=>by
   rw[rS,decide_eq_false_iff_not] at c;show c ?_;change V.int ((↑(iN (abv a e b)):Nat)+(g b:Nat):Int)=V.int 1;rw[lI]
   congr 1
   lia
  show#[1,k v (Z' b) p (U _ (.here u))]
 .let u:↑(abv a e b)+g b=1:=by
   rw[rS,decide_eq_false_iff_not,Decidable.not_not] at c;let x:V.int ((↑(iN (abv a e b)):Nat)+(g b:Nat):Int)=V.int 1:=c;rw[lI] at x;injection x with x
   lia
  exists 1,YJ;intro W G;let B:=Zf G (.lst []);exists D,W,1,Z,ZH.of (B _ _ C),ZH.of ZP,_,Z;let l:=B _ _ C;let q:=p|||B;generalize upd v W (.lst [])=H3 at l q⊢
  cases t:abv a e b with
  |nil=>
   rwa[show (iN ([]:jq)).isEmpty=X' from Z,YA (k H3 Y' q (U _ (.top u t)))]
  |cons j r=>
   rw[show (iN (j::r)).isEmpty=false from rfl];rw[t] at l;let M:=OG L.wf L.lv (i:=b) (j:=j) #v[t,zT]
   let jt:=L.lv.lt j M.2;show Zp #[1,D,_,(0),.int (j:Nat),Z,Z,ZH.of l,Xu (j:=0) Z,?_];show#[VT a (nz a j).h,Ml jt M.1,j,1,Z,q,M.2,λo I=>U o (.up u t I)]
theorem Yc.snoc{H:Hp}{d:jM}{a:jf}{L:YR}{u:V}(h:Yc H d a)(g:YB H L u):Yc H (d++[L]) (a++[u]):=by
 exists by rw[zG,zG,h.1];rfl
 intro i w e;rcases xM i ↑a with b|b
 .rw[wP b] at e;have:=h.2 i w e;rw[zV] at this⊢;rw[wP (by rwa[<-h.1,b])]
  show this
 .rw[wY b] at e;let c:i-↑a=0:=by
   rcases Nat.eq_zero_or_pos (i-↑a) with z|z
   .show z
   .erw[tU (by simp;lia)] at e
  rw[c] at e;simp at e;subst e;let f:i=↑d:=by have:=h.1;lia
  rw[zV,f];simp;show g
noncomputable def nF(a:jq)(x:Int):Bool:=ng (0<=x/\x.toNat∈a)
def KY(a:jM):=∀ j,j+1<↑a->a[j+1]!.h=a[0]!.h/\a[j]!.hi.lt a[j+1]!.lo=X'
theorem Yl{c:jM}:KY c↔Mp c=X':=by
 unfold KY Mp Qc;rw[zF];constructor
 .intro h j e;let g:j<↑c-1:=xL.mp e;let#[a,b]:=h j ()
  rw[zQ];show#[?_,b];rw[beq_iff_eq,a]
  cases j with
  |zero=>rfl
  |succ j=>show(h j ()).1
 .intro h;let f:∀ j,j<↑c->c[j]!.h=c[0]!.h:=λj=>by
   induction j with
   |zero=>intro _;rfl
   |succ j i=>
    intro e;have:=h j (xL.mpr ())
    rw[zQ,beq_iff_eq] at this;rwa[<-this.1,i ()]
  intro j e;have:=h j (xL.mpr ())
  rw[zQ] at this;show#[f (j+1) e,this.2]
def IK{a:jr}{e:js}{i:Nat}{t:ZK}(h:Zw a e i t):(Z6 t).fit:=by
 let b:0<↑t.rows:=uW.mpr h.ne;let c:t.rows.getD 0 rc∈t.rows:=#v[zV,zW b,yH _]
 let d:t.rows.getD (↑t.rows-1) rc∈t.rows:=#v[zV,zW (show ↑t.rows-1<↑t.rows by lia),yH _]
 show#[(h.inn _ c).2.1,(h.inn _ d).2.1]
def Zt(a:js)(bs:jq):jM:=bs.map λb=>Z6 (nz a b)
def Ot:jJ->V
 |none=>.non
 |some h=>.int h
def QJ(a:jM)(b:jJ):Prop:=nu a≠Y'/\∀ h,b\h->a[0]!.h+1=h
inductive V1(m:jr)(n:jf)(H:Hp)(Q:VK)(_:XK):Prop
 |mk(d l:aj)(g:jz)(j:js)(e k:jq)(c:ba)(h:jJ)(_:n=[!d,!l,Ot h])(_:Wv m H d j k c)(_:c.map (·.1)=e.map (λi:Nat=>(mY (i:Int):ZQ)))(_:∀ i∈e,∃ v,Z2 c (mY (i:Int))\v)(_:∀ i∈e,((i:Nat):Int)∈g->i∈k)(_:H l\.lst (g.map V.int))(_:↑g<=100)(_:∀ x,g.find? (λx=>!nF e x)\x->∀(t:aj)(a:Hp),ZC H a->a t\.tup [.str "twig",-x]->Q (!t) a)(_:∀ bs:jq,g=bs.map (λb:Nat=>(b:Int))->(∀ b∈bs,b∈e)->¬ QJ (Zt j bs) h->∀(t:aj)(a:Hp),ZC H a->a t\.tup [.str "stem"]->Q (!t) a)(_:∀ bs:jq,g=bs.map (λb:Nat=>(b:Int))->(∀ b∈bs,b∈e)->QJ (Zt j bs) h->∀ a:Hp,ZC H a->Q .non a)
inductive WC(k:jr)(m:jf)(H:Hp)(Q:VK)(_:XK):Prop
 |mk(d l:aj)(g:jz)(h:js)(e j:jq)(c:ba)(_:m=[!d,!l,.non])(_:Wv k H d h j c)(_:c.map (·.1)=e.map (λi:Nat=>(mY (i:Int):ZQ)))(_:∀ i∈e,∃ v,Z2 c (mY (i:Int))\v)(_:∀ i∈e,((i:Nat):Int)∈g->i∈j)(_:H l\.lst (g.map V.int))(_:↑g<=100)(_:∀ x,g.find? (λx=>!nF e x)\x->∀(t:aj)(a:Hp),ZC H a->a t\.tup [.str "twig",-x]->Q (!t) a)(_:∀ bs:jq,g=bs.map (λb:Nat=>(b:Int))->(∀ b∈bs,b∈e)->nu (Zt h bs)=Y'->∀(t:aj)(a:Hp),ZC H a->a t\.tup [.str "stem"]->Q (!t) a)(_:∀ bs:jq,g=bs.map (λb:Nat=>(b:Int))->(∀ b∈bs,b∈e)->nu (Zt h bs)≠Y'->∀ a:Hp,ZC H a->Q .non a)
abbrev yu:jv:=["_law_twigs","_law_numbers","_law_high","_law_number","_law_labels","_law_j"]
theorem Uh:ZA yu To (Zd GL):=Z4
theorem AA{gt:jr}(F:Zj K "_law_wrong" "_law_wrong" GL f fd)(T:Yd mg)(DL:-ZD 2 "_law_label" T1 (Y6 gt))(DS:-ZD 7 "_law_less" Tf Ys):
  ZL P w K mg kF ZZ 8 f fd To (V1 gt):=by
 show F.ko Uh λi7 A e9 s H vs Q E hr h=>?_;let#[d,l,ns,ts,lv,gv,a4,hg,rfl,L,e5,e7,e2,hl,i0,q1,q2,q3]:=h;let nd:=Uh.nd;let hu:=VN hr;let e6:=hr.mono (yR Z:2<=7)
 intro Xc;show#[_,ZO (Vj PassesOwn.never Z (Wa (pv 1)) (Yf 3 nd)
   (ZU (Zz (Qm (LQ hu (pv 3) (pv 0))) (ZU (Zl (XH (Zg Y8 (pv 3))))) Z3)))
  (ZO (NQ (i:=4) [0] ["_law_twigs"] nd Z Z Z (Wa (pv 1)) (λ_ _ _ _ _=>Ur) (λ_ _ _ _ _=>Zq DL e6 (Zg (pv 1) (pv 0))) #[Z,.inl Z,Z,trivial])
  (ZO (Zz (PW.pt (Wf (WY (J9 PB PB ZN (Zv X1 Z T.len Xk (ZV (pv 4))) ZN)) (Us (PW.pt (M8 (Qm (JB (pv 2))) (LM (YF P4 (Z5 Wp (Zk K (Zk K (pv 4) ZN) ZN) ZN) (pv 2) (Zx _))))))))
   (ZU (Zl (XH (ZV Y8)))) Z3)
  (ZO (Vj PassesOwn.never Z (Kx Z T.range (Zg ZN (Zv X1 Z T.len Xk (ZV (pv 4))))) (Yf 5 nd)
   (ZU (Zz (PW.pt (Wf (YF P4 (Zk K (Zk K (pv 4) (pv 5)) ZN) (Zk K (Zk K (pv 4) ZN) ZN) (Zx _))
     (Us (WY (Yy (Zq DS hr (Zg (Zk K (Zk K (pv 4) (Z5 PL (pv 5) ZN)) ZN) (Zk K (Zk K (pv 4) (pv 5)) ZN))))))))
    (ZU (Zl (XH (ZV Y8)))) Z3)))
  (ZU (Zl Mi))))),?_]
 let c3:∀{x:Int}{W:Hp},ZC H W->∃ o,Zh W d (-x) o/\(not o.isSome)=!nF lv x:=fun{x W} S=>by
  exists Z2 a4 (mY x),Zh.k (k:=mY x) (S _ _ L.dict)
  congr 1
  unfold nF;by_cases hx:0<=x/\x.toNat∈lv
  .rw[aM hx];let#[v,e]:=e7 x.toNat hx.2;let ex:((x.toNat:Nat):Int)=x:=nofun
   rw[ex] at e;rw[e];rfl
  .rw[aK hx]
   cases z:Z2 a4 (mY x) with
   |none=>rfl
   |some v=>
    have:=Ng z;rw[e5] at this;let#[i,O,ei]:=zL.mp this;let ei:=Sum.inl.inj ei;show mZ #[nofun,?_] hx
    rwa[<-ei,O]
 show#[1,l,Z,#[_,ZH.of hl],PM (K:=K) (a:=l) (xs:=ns.map V.int) (λi σ W=>∃ x:jg,σ=[Z' !d,Z' !l,Z' (Ot hg),x,Y',Y']/\ZC H W/\(ns.take i).find? (λx=>!nF lv x)=Y') #[1,ZC.refl H,Z] (λi σ W _ N=>by let#[_,_,S,_]:=N;show ZH.of (S _ _ hl)) ?_ ?_]
 .rintro i u σ W a8 ⟨x,rfl,S,hn⟩;rw[zO] at a8;let#[n,en,rfl]:=yB.mp a8;let#[o,ho,eo]:=c3 (x:=n) S;let#[f1,f2]:=Mq hn en;exists 2,d,o,Z,ho,_,Z;rw[eo]
  cases c:!nF lv n with
  |true=>show YA #[1,YJ,λt J=>q1 n (f1 c) t _ (S|||Zf J _) ZP]
  |false=>show Zp #[1,S,f2 c]
 rintro σ W ⟨x,rfl,S,hn⟩;rw[zX,yQ (zY _),vN] at hn;obtain⟨bs,eb,hb⟩:∃ bs:jq,ns=bs.map (λb:Nat=>(b:Int))/\∀ b∈bs,b∈lv:=by
  let a7:∀ y∈ns,0<=y/\y.toNat∈lv:=λy hy=>by
   have:=hn y hy;unfold nF at this;simpa using this
  show#[ns.map wA,?_,λb hb=>?_]
  .rw[zH];have:ns=ns.map id:=(List.map_id _).symm;rw[this];simp only[zH];show sZ λy hy=>?_;have:=a7 y hy;change y=((y.toNat:Nat):Int)
   lia (splits:=8)
  .let#[y,hy,rfl]:=zL.mp hb;show(a7 y hy).2
 let e8:↑ns=↑bs:=by rw[eb,zX]
 let a5:∀ b∈bs,b∈gv:=λb h=>e2 b (hb b h) #v[eb,zL.mpr #[b,h,Z]]
 let c1:=q2 bs eb hb;let c2:=q3 bs eb hb;clear q1 q2 q3 c3;let X:=S _ _ hl;exists 1,l,Z,#[_,ZH.of X];show Uu (n:=↑bs) (λi z=>(ns.map V.int)[i]?\z) (λD i ys I=>ZC W I/\W D=Y'/\Yc I ((Zt ts bs).take i) ys) (YM nofun)
  (λD i ys I O N=>#[_,.int (bs[i]:Nat),ZH.of (N.1 _ _ X),by rw[eb];simp[O]]) (λD i ys I z r O N hy=>#[hy.1,hy.2 _ (ZH.of (N.1 _ _ X))]) (λD ys I N=>#[_,ZH.of (N.1 _ _ X),by simp[e8]])
  (λD hD=>#[Zf hD _,hD,Z,λi u e=>by simp at e]) (λD i ys I z eD i8 O hz N R hR=>?_) (λD p I eD N=>?_)
 .let#[s3,nD,hk]:=N;let ez:z=.int (bs[i]:Nat):=by
   rw[eb,zH,zO,zW O] at hz;show(zB.inj hz).symm
  subst ez;exists 2,d,bs[i],ts,gv,a4,Z,L.same (S|||s3),a5 _ (yH _);intro r v G hv;let C:=G _ _ eD;let tD:YI r (upd r D (.lst (ys++[v]))):=λb xs e=>#v[ZM (ZE e C),e]
  show hR _ r C #[UA (s3|||G) nD,nD,?_];let et:(Zt ts bs)[i]?\Z6 (nz ts bs[i]):=by unfold Zt;rw[zO,zW O];rfl
  rwa[yI,et,((hk.mono (ZC.tups G)).snoc hv).mono tD]
 let#[s3,nD,hk]:=N;let ll:↑(Zt ts bs)=↑bs:=zX _;rw[yQ nofun] at hk
 let i9:↑p=↑bs:=by rw[hk.1,ll]
 let M:=S|||s3;generalize c8:Zt ts bs=g at hk ll c1 c2;let a2:∀ i,i<↑g->g[i]!.fit:=λi O=>by
  let e3:i<↑bs:=nofun
  let e1:g[i]! =Z6 (nz ts bs[i]):=by rw[zV,<-c8];unfold Zt;rw[zO,zW e3];rfl
  rwa[e1,IK (L.at_ _ (a5 _ (yH _)))]
 let B:∀(r:Hp)(t:aj),¬ QJ g hg->ZC H r->r t=Y'->Q (!t) (upd r t (.tup [.str "stem"])):=λr t ho G J=>c1 ho t _ (G|||Zf J _) ZP;let U:¬ (2<=↑g/\↑g<=4)->¬ QJ g hg:=λz y=>y.1 (by unfold nu;rw[aO λy=>z #[y.1,y.2.1]])
 exists 1,D,p,Z,.inl (ZH.of eD),_,1,Z,_,Z;rcases xM ↑p 2 with h2|h2
 .rw[aK (show ¬ (2:Int)<=(↑p:Int) from nofun)]
  show Zp #[1,YA (YA ?_)];show#[YJ,λt J=>B I t (U nofun) M J]
 rw[aM (show (2:Int)<=(↑p:Int) from nofun)]
 show YA #[_,1,Z,1,?_];rcases xM 4 ↑p with h4|h4
 .rw[aK (show ¬ (↑p:Int)<=4 from nofun)]
  show YA (YA ?_);show#[YJ,λt J=>B I t (U nofun) M J]
 rw[aM (show (↑p:Int)<=4 from nofun)]
 let Y:∀(H':Hp)(i:Nat),ZC I H'->i<↑p->∃(a:aj)(a1 a0:V),p[i]?\.ref a/\H' a\.tup [.int g[i]!.h,a1,a0,.int g[i]!.m]/\ZG H' g[i]!.lo a1/\ZG H' g[i]!.hi a0:=λH' i s' O=>by
  let hu:p[i]?\p[i]:=zW O;let#[a,a1,a0,e,e1,k1,k2]:=(hk.2 i _ hu).mono (ZC.tups s');show#[a,a1,a0,by rw[hu,e],e1,k1,k2]
 show Zp #[1,?_];rcases hg with _|h
 case' none=>
  let a6:∀ h,(Y':jJ)\h->g[0]!.h+1=h:=λh z=>nomatch z;show#[1,Zp (Zp ?_)]
 case' some=>
  let#[c,c7,c6,uc,tc,_,_]:=Y I 0 (ZC.refl _) nofun
  show#[1,YA #[1,.inl #[D,p,(0),!c,Z,Z,ZH.of eD,Xu (j:=0) uc,.inr (.inl #[c,_,(0),_,Z,Z,Zc.of tc,Z,_,_,Z,Z,_,Z,Z,_,Z,?_])]]];by_cases z:g[0]!.h+1=h
  case neg=>
   let e:(!ng (V.int (g[0]!.h+1)=Ot (Z' h)))=X':=by rw[aK (show ¬ V.int (g[0]!.h+1)=Ot (Z' h) from λy=>z (V.int.inj y))];rfl
   rwa[e,YA #[YJ,λt J=>B I t (λy=>z (y.2 h Z)) M J]]
  let a6:∀ h',(Z' h:jJ)\h'->g[0]!.h+1=h':=λh' e'=>by cases e';show z
  let e:(!ng (V.int (g[0]!.h+1)=Ot (Z' h)))=false:=by rw[aM (show V.int (g[0]!.h+1)=Ot (Z' h) by rw[z];rfl)];rfl
  rw[e];show Zp ?_
 all_goals
  exists 1,D,p,Z,.inl (ZH.of eD),(1),(↑p:Int),Z,#[nofun,nofun,nofun,nofun]
  show Og (lo:=1) (n:=((↑p:Int)-1).toNat) (λi σ r=>∃(y:jg)(hq:jJ),σ=[Z' !d,Z' !l,Z' (Ot hq),x,Z' !D,y]/\ZC I r/\∀ j,j<i->g[j+1]!.h=g[0]!.h/\g[j]!.hi.lt g[j+1]!.lo=X') #[_,1,ZC.refl I,λj hj=>mZ hj nofun] ?_ ?_
  .rintro i σ r O ⟨y,hq,rfl,G,a3⟩;let e4:i+1<↑p:=nofun
   let e1:(1:Int)+(i:Int)=((i+1:Nat):Int):=nofun
   let e0:(1:Int)+(i:Int)-1=((i:Nat):Int):=nofun
   let#[a,i5,c4,ua,ta,i1,a9]:=Y r i G nofun
   let#[b,c5,i6,ub,tb,c0,i2]:=Y r (i+1) G e4;let#[c,c7,c6,uc,tc,i4,i3]:=Y r 0 G nofun
   let no:¬ (g[i+1]!.h=g[0]!.h/\g[i]!.hi.lt g[i+1]!.lo=X')->nu g=Y':=λz=>by
    unfold nu;rw[aO λy=>z (Yl.mpr y.2.2 i nofun)]
   let C:=G _ _ eD;show#[2,.inl #[D,p,_,!b,Z,Z,ZH.of C,#v[e1,Xu ub],.inr (.inl #[b,_,(0),_,Z,Z,Zc.of tb,Z,?_])]]
   show#[1,.inl #[D,p,(0),!c,Z,Z,ZH.of C,Xu (j:=0) uc,.inr (.inl #[c,_,(0),_,Z,Z,Zc.of tc,Z,Z,_,Z,?_])]];let c9:(!ng (V.int g[i+1]!.h=V.int g[0]!.h))=!ng (g[i+1]!.h=g[0]!.h):=by simp
   rw[c9];by_cases hh:g[i+1]!.h=g[0]!.h
   .rw[aM hh];show Zp ?_;show#[2,_,1,Z,.inl #[D,p,_,!a,Z,Z,ZH.of C,#v[e0,Xu ua],.inr (.inl #[a,_,(2),_,Z,Z,Zc.of ta,Z,?_])]]
    show#[2,.inl #[D,p,_,!b,Z,Z,ZH.of C,#v[e1,Xu ub],.inr (.inl #[b,_,(1),_,Z,Z,Zc.of tb,Z,?_])]]
    show#[c4,c5,_,1,a9,c0,(a2 i nofun).2,(a2 (i+1) nofun).1,λH5 s5=>#[1,?_]]
    cases hc:g[i]!.hi.lt g[i+1]!.lo with
    |false=>
     show YA #[YJ,λt J=>B H5 t (λq=>q.1 (no λz=>by rw[hc] at z;cases z.2)) ((M|||G)|||s5) J]
    |true=>
     show Zp #[_,hq,Z,G|||s5,λj hj=>?_];rcases xM j i with z|z
     .show a3 j z
     .have:j=i:=nofun
      subst this;show#[hh,hc]
   .rwa[aK hh,YA (YA #[YJ,λt J=>B r t (λq=>q.1 (no λz=>hh z.1)) (M|||G) J])]
  .rintro σ r ⟨y,hq,rfl,G,a3⟩;let hc:Mp g=X':=Yl.mp λj hj=>a3 j nofun
   show c2 #[?_,a6] r (M|||G);unfold nu;rw[aP #[nofun,nofun,hc]]
   show λz=>nomatch z
def Ap{j:Wh}{k:Nat}{l:jv}{n i:Sp}(h:-ZL j k f fd l n)(m:∀ g H Q E,i g H Q E->n g H Q E):-ZL j k f fd l i:=
 #[λg H Q E x=>h.len g H Q E (m _ _ _ _ x),λA e s H args o g Q E a b c d x=>h.run A e s H args o g Q E a b c d (m _ _ _ _ x)]
def pD{k:jr}(m:jf)(H:Hp)(Q:VK)(E:XK)(h:WC k m H Q E):V1 k m H Q E:=by
 let#[d,l,r,v,q,o,j,rfl,L,g,i,e,p,a,s,t,u]:=h;show#[d,l,r,v,q,o,j,Y',Z,L,g,i,e,p,a,s,λbs b c n=>t bs b c (Classical.byContradiction λy=>n #[y,λ_ z=>nomatch z]),λbs b c n=>u bs b c n.1]
def Ak{K:zZ}{x d:Str}{l:aC}{f c P:aj}{e:ao}(F:Zj K x d l f e)(i:zK K ap x\Z' !f)(a:xG K x\(c,P)):e.code=.ref c:=by
 let#[o,p,kV,g,q,m,b,ct,k,rfl,j,h]:=F.ex;unfold xG at a;rw[i] at a;simp only at a;rw[j] at a;simp only at a;change b=!c
 cases b with
 |ref n=>
  simp only at a;split at a
  .split at a
   .cases a;rfl
   .cases a
  .cases a
 |_=>cases a
def Zj.okC{P:am}{w:aw}{K:zZ}{r:jc}{d:aD}{x b:Str}{i:aC}{f c T:aj}{q:ao}{N o:jv}{k:Nat}{p:Sp}(F:Zj K x b i f q)(z:zK K ap x\Z' !f)(C:xG K x\(c,T))(S:ZA N o (Zd i))(n:∀ h H Q E,p h H Q E->↑h=↑o)(g:∀ (A:ax) (a:jF) (s:ak) (H:Hp) (h:jf) (Q:VK) (E:XK),Za k (A.deeper (envOfC b (Zd i) ‹s› f !c))->p h H Q E ->
   ∃ t,Wc (Vn ZZ P w K r d N b (Zd i) f (!c) A a s H E) (WE i) t/\t { nx:=λ_ u=>Q .non u,rt:=Q } (start N h) H):ZL P w K r d ZZ (k+1) f q o p:=by
 let e:=Ak F z C;let#[J,L,kV,v,M,I,j,ct,G,rfl,D,l]:=F.ex;let y:j=.ref c:=e;subst y;show GJ D l S n λA a s H h Q E B m=>g A a s H h Q E B m
def pP{P:am}{w:aw}{K:zZ}{G mb:jc}{k:Nat}{fa a c T:aj}{fd:ao}{x:Str}{sp:Sp}{f:ak}{L:je}{ns:jz}(KX:K.In f.heap)(O:f.heap.Ns ap G)(i:f.heap.Ns builtinsNs mb)(c1:∀ x:Str,x≠"__name__"->mb x=ay x)(a4:f.heap.NoLimit)(hg:f.gens=⇑[])(c2:∃ X J,G "__builtins__"=Z' (!X)/\X≠builtinsNs/\f.heap.get? X\J/\J.cls=.type "module"/\J.dict\builtinsNs/\J.data=.plain)(hC:wO f.heap c T)(C:f.heap.get? T\uJ ⇑[])(c6:rZ K=X')(S:f.heap.get? a\{ cls:=.type "list",data:=.seq ⇑L })(hi:IntsAre L ns)(hl:↑ns<=aq)(hr:Za k callerA)(F:∀ j:aD,K.In j->j.Ns ap G->wO j c T->j.BuiltinsAt G T->ZL P w K G j ZZ k fa fd [x] sp)(N:∀ (s:ak) (u:ai),BindsTo s fd #[[u],[]] [(x,u)])(c3:∀ H:Hp,H T\.tbl ⇑[]->ZH K H a (ns.map V.int)->sp [!a] H (λv _=>v=.bl true) λ_ _ _=>False):
  aG (aA P w) callerA (.call (!fa) #[[!a],[]]) (λr l=>r=.ok (.ret (.bool true))/\OldK f.heap l.heap/\l.os=f.os/\AllBare l.gens) f:=by
 let rv:=Lp hi;let a6:=↑hi;let aT:a≠T:=λz=>by erw[z,C] at S
 let A:∀ H:Hp,H T\.tbl ⇑[]->ZH K H a (ns.map V.int)->YT P w H f.heap->(∀ b,H b≠Y'->b=a\/b=T)->(H a≠Y'->K.lookup a=Y'/\∃ o xs,H a\.frz o (.lst xs)) ->
   aG (aA P w) callerA (.call (!fa) #[[!a],[]]) (λr l=>r=.ok (.ret (.bool true))/\OldK f.heap l.heap/\l.os=f.os/\AllBare l.gens) f:=by
  intro H hO hS a5 hA hK;let g:∀{b:aj}{o:aI},f.heap.get? b\o->H b=Y'->(UE f.heap H).get? b\o:=λe n=>EQ e n;let Q:∀{b:aj}{o:aI},f.heap.get? b\o->(∀ c5 n,o.data≠.seq c5 n)->(∀ v,o≠uJ v)->H b=Y':=fun{b o} e d1 d2=>by
   cases q:H b with
   |none=>rfl
   |some u=>
    rcases hA b (by rw[q];simp) with p|p
    .subst p;erw[S] at e;show mZ Z (d1 _ _)
    .subst p;erw[C] at e;show mZ Z (d2 _)
  let t:∀{b:aj}{m:jc},f.heap.Ns b m->(UE f.heap H).Ns b m:=fun{b m} ⟨o,es,ep,e,d,r⟩=>#[o,es,ep,g e (Q e (λ_ _ z=>by erw[d] at z) (λ_ z=>by erw[z] at d)),d,r]
  let a2:K.In (UE f.heap H):=λb o e=>g (KX b o e) (by
   cases q:H b with
   |none=>rfl
   |some u=>
    rcases hA b (by rw[q];simp) with p|p
    .subst p;erw[(hK (by rw[q];simp)).1] at e
    .subst p;let B:=KX _ _ e;erw[C] at B;let h2:=zF.mp c6 _ (PySem.W.mem_of_lookupK e);show mZ (show false=X' from h2) zN)
  let hM:Mod K G (UE f.heap H):=#[a2,t O,#[mb,t i,c1],let #[mc,h1,h2]:=a4;#[mc,t h1,h2]];let a9:wO (UE f.heap H) c T:=by
   let#[o,L,a0,tf,M,tg,c4,a7,tt,Y,B,e3,r]:=hC;show#[o,L,a0,tf,M,tg,c4,a7,tt,g Y (Q Y (λ_ _ z=>by erw[e3] at z) (λ_ z=>by erw[z] at B)),B,e3,r]
  let a8:(UE f.heap H).BuiltinsAt G T:=by
   let#[X,J,b1,b2,R,b4,b5,b6]:=c2;show#[X,J,b1,b2,λz=>?_,λz=>?_,g R (Q R (λ_ _ z=>by erw[b6] at z) (λ_ z=>by erw[z] at b4)),b4,b5,b6]
   .let#[o,es,ep,e,d,_]:=O;erw[z,e] at R;erw[d] at b6
   .erw[z,C] at R;cases b4
  let e0:Wj P w K G (UE f.heap H) callerA [] f H:=#[Z,hM,λb o e=>E2 e,vW (Er _ _),trivial,λb i=>mZ (show b∈([]:jx) from i) ⋯,a5,.of_eq hg]
  show codeAny_mono ((F _ a2 (t O) a9 a8).run callerA [] f H #[[!a],[]] [!a] [!a] _ _ hr e0 (N f !a) (.cons Z .nil) (c3 H hO hS)) λr l h=>?_
  cases r with
  |error e=>show h.elim
  |ok fl=>
   cases fl with
   |next=>show False.elim h
   |brk=>show False.elim h
   |cont=>show False.elim h
   |ret u=>
    let#[v,H',os,U,un,D,r',q]:=h;let q':v=.bl true:=q;subst q';obtain rfl:u=Value.bool true:=r';let#[I,c0]:=un.tbls T ⇑[] hO;let a1:l.heap.get? T\uJ (⇑[]++I):=D T _ c0;let E:∀ b o,b≠T->f.heap.get? b\o->l.heap.get? b\o:=λb o n e=>by
     cases q:H b with
     |none=>show un.keep b o e q (by intro z;show mZ (show b∈([]:jx) from z) ⋯) ⋯
     |some u=>
      let p:b=a:=(hA b (by rw[q];simp)).resolve_right n
      subst p;let#[_,J,xs,z]:=hK (by rw[q];simp)
      let z2:=un.frzs b J _ z;let#[Y,_]:=a5 b _ z;let#[B,_]:=D b _ z2;erw[e] at Y;show B
    show#[Z,#[λb o e=>?_,λb o e=>?_],os,U]
    .by_cases z:b=T
     .subst z;erw[C] at e;show .inr (.inl #[(hC.tab C).isCodeTable,Z,⇑[],I,Z,a1])
     .show .inl (E b o z e)
    .by_cases z:b=T
     .subst z;show#[_,a1]
     .show#[o,E b o z e]
 cases hk:K.lookup a with
 |some o=>
  let e:=KX a o hk;erw[S] at e;show A (λb=>if b=T then Z' (.tbl ⇑[]) else Y') (aP Z) (.inr #[_,⇑L,_,hk,Z,Z,Z,#v[zM,a6,hl],#v[rv]]) (λb u z=>?_) (λb z=>?_) λz=>mZ (aO aT) z
  .by_cases i:b=T
   .let y:=(aP i).symm|||z;cases y;subst i;show C
   .let y:=(aO i).symm|||z;cases y
  .by_cases i:b=T
   .show .inr i
   .show mZ (aO i) z
 |none=>
  show A (λb=>if b=T then Z' (.tbl ⇑[]) else if b=a then Z' (.frz { cls:=.type "list",data:=.seq ⇑L } (.lst (ns.map V.int))) else Y') (aP Z) (.inl (.inr #[{ cls:=.type "list",data:=.seq ⇑L },(aO aT)|||aP Z])) (λb u z=>?_) (λb z=>?_) λ_=>#[hk,_,_,(aO aT)|||aP Z]
  .by_cases i:b=T
   .let y:=(aP i).symm|||z;cases y;subst i;show C
   .let z:=(aO i).symm|||z;by_cases i:b=a
    .let y:=(aP i).symm|||z;cases y;subst i;show#[S,#v[zX,hl],L,_,rv,S]
    .let y:=(aO i).symm|||z;cases y
  .by_cases i:b=T
   .show .inr i
   .by_cases a3:b=a
    .show .inl a3
    .show mZ ((aO i)|||aO a3) z
def M5{l:tK}{n k:Nat}{q:am}{p:jv}{S:(jc)->aD->Prop}{N:aw->aD->Prop}{d U:DefRec}{K:Params->zZ}{sp:aj->zZ->Sp}{x px:Str}(hn:l.most\n)(J:n<=aq)(E:d.params.defaults=[])(hr:Za k callerA)(hY:∀ (w:aw) (h:aD),N w h->(K w.params).In h)(y:(recsOf q).find? (λe=>e.name==px)\U)(z:∀ w:aw,∃ c T,xG (K w.params) px\(c,T))(L:∀ w:aw,rZ (K w.params)=X')(F:∀ (w:aw) (r:jc) (A:aj) (h:aD) (c T:aj),(K w.params).In h->h.Ns ap r->r d.name\.ref A->xG (K w.params) px=Z' (c,T) ->
   ∃ D:ao,(∀ (s:ak) (u:ai),BindsTo s D #[[u],[]] [(x,u)]) /\
    ∀ i:aD,(K w.params).In i->i.Ns ap r->wO i c T->i.BuiltinsAt r T->ZL l.prog w (K w.params) r i ZZ k A D [x] (sp T (K w.params)))(M:∀ (w:aw) (T:aj) (H:Hp) (a:aj) (B:jz),↑B<=n->H T\.tbl ⇑[]->ZH (K w.params) H a (B.map V.int)->sp T (K w.params) [!a] H (λv _=>v=.bl true) λ_ _ _=>False):
  qY q p S N l.row.toRowW d [] (λf R=>PySem.call f R):=by
 show Att.attach_call hn E λw P Q r mb A o pm cd X a R B G Y ho hd a0 I t m j hg=>?_;let C:=hY w _ Y;let#[c,T,O]:=z w;let#[hC,hT]:=PySem.W.tab_of G.T C y O;let#[D,hb,hF]:=F w r A _ c T C G.T.g I O;show pP C G.T.g G.T.b G.T.builtins G.T.nolimit hg G.T.bmain hC hT (L w) t m (zR j J) hr hF hb (λH hO hS=>M w T H a B j hO hS)
def FN(f e:aj)(i h:aI)(a:jG)(N:jv)(d:Sp):Sp:=λj H Q E=>
 j=[]/\H f\XF f i/\H e\XF e h/\∃ g:jf,VX H a N g /\
  d g (unT (a.map (·.2)) H) (λv b=>(∀ c∈a.map (·.2),b c=Y')->Q v (reT (a.map (·.2)) H b)) (λc o b=>(∀ c∈a.map (·.2),b c=Y')->E c o (reT (a.map (·.2)) H b))
def VG(g:jA->Prop)(x C:aj)(b:jB)(h:aD):=∃ o a,h.get? x\o/\o.cls=.ref C/\o.data=.fields a/\o.dict=b/\g a
def Qq:jA->Prop:=λa=>a[1]?\.none/\a[2]?\.none
def Pj:jA->Prop:=λ_=>True
def XO(g:jA->Prop)(x C:aj)(a:jB):HO:=.ext (VG g x C a)
def VG.is{g:jA->Prop}{x C:aj}{c:jB}{h:aD}(e:VG g x C c h):WX x C h:=let #[o,_,a,b,_]:=e;#[o,a,b]
def Hz{P:am}{w:aw}{H:Hp}{h:aD}{g:jA->Prop}{x C:aj}{j:jB}(e:VG g x C j h):Zb P w H h x (XO g x C j):=by
 let#[o,s,a,b,c,d]:=id e;show#[e,#[o,a],λq r ⟨i,f,l,m,n,p⟩ k=>#[i,f,k i l,m,n,p]]
abbrev nJ:je:=[.type "ValueError",.type "Exception",.type "BaseException",.type "object"]
noncomputable def Hw:je->Bool
 |.ref _::r=>Hw r
 |l=>l==nJ
theorem F6(a:ai):∀{l:je},Hw l=X'->PySem.refuseLoop a "__setattr__" l=pure .unit
 |.ref c::r,e=>(refuseLoop_ref _ _ _ _)|||F6 a (l:=r) e
 |.type n::r,e=>#v[show (Value.type n::r)=nJ from beq_iff_eq.mp e,qI.passes a]
 |[],e=>by cases e
 |.none::r,e|.bool _::r,e|.int _ _::r,e|.str _ _::r,e|.bytes _ _::r,e|.float _ _::r,e|.builtin _::r,e=>by cases(beq_iff_eq.mp e)
def Fm(K:zZ)(C:aj):Bool:=(PySem.W.clsIn K C).any λa=>Hw a.mro
def Fo:ai->Bool
 |.type t=>t=="type"
 |_=>false
def yh{v:ai}(h:Fo v=X'):v=.type "type" :=by
 cases v with
 |type t=>show congrArg Value.type (eq_of_beq h)
 |_=>cases h
def E4:Data->Option ClassData
 |.cls c=>Z' c
 |_=>Y'
def vd{d:Data}{c:ClassData}(h:E4 d\c):d=.cls c:=by
 cases d with
 |cls c=>cases h;rfl
 |_=>cases h
noncomputable def GU:jd->Bool
 |some (.builtin m)=>m=="ValueError.__new__"
 |_=>false
def yr{v:jd}(h:GU v=X'):v\.builtin "ValueError.__new__":=by
 cases v with
 |none=>cases h
 |some v=>
  cases v with
  |builtin m=>show congrArg (Z' <| Value.builtin ·) (eq_of_beq h)
  |_=>cases h
def FG(C:aj):je->Bool
 |.ref D::_=>D==C
 |_=>false
def zw{C:aj}{l:je}(h:FG C l=X'):l=.ref C::l.tail:=by
 cases l with
 |nil=>cases h
 |cons v r=>
  cases v with
  |ref D=>show congrArg (Value.ref ·::r) (eq_of_beq h)
  |_=>cases h
def Nv{b:Type}{n:Nat}{l:List b}(h:↑l=n+1):∃ a m,l=a::m:=by
 cases l with
 |nil=>cases h
 |cons a m=>show#[a,m,Z]
def zp{l:List (jd)}(h:↑l=6):∃ a b c d e f,l=[a,b,c,d,e,f]:=by
 let#[a,l,rfl]:=Nv h;let#[b,l,rfl]:=Nv (xT.inj h);let#[c,l,rfl]:=Nv (xT.inj (xT.inj h));let#[d,l,rfl]:=Nv (xT.inj (xT.inj (xT.inj h)));let#[e,l,rfl]:=Nv (xT.inj (xT.inj (xT.inj (xT.inj h))));let#[f,l,rfl]:=Nv (xT.inj (xT.inj (xT.inj (xT.inj (xT.inj h)))))
 cases l with
 |nil=>show#[a,b,c,d,e,f,Z]
 |cons _ _=>cases h
def Ex{b:Type}{p:b->Bool}{o:Option b}(h:o.any p=X'):∃ a,o\a/\p a=X':=by
 cases o with
 |none=>cases h
 |some a=>show#[a,Z,h]
def GT(K:zZ)(C:aj)(f:ClassData->Bool):Bool:=(K.lookup C).any λo=>Fo o.cls&&(↑o.slots.toList==6&&(GU (o.slots.toList.getD 4 Y')&&(E4 o.data).any λc=>FG C c.mro&&(PySem.W.tailIn K nJ c.mro.tail&&(not c.hasDel&&f c))))
inductive OW(K:zZ)(C:aj)(f:ClassData->Bool):Prop
 |mk(g bs h i e j b d a k l m n o p:_)(c:je):K.lookup C\excClassObj g i C h bs c e j b d a k l m n o p "ValueError.__new__"->PySem.W.tailIn K nJ c=X'->f ⟨g,bs,.ref C::c,h,i,e,j,b,d,a,false⟩=X'->OW K C f
def BS{K:zZ}{C:aj}{f:ClassData->Bool}(h:GT K C f=X'):OW K C f:=by
 let#[#[G,k,H,#[I]],e,h]:=Ex h;rw[zQ,zQ,zQ] at h;let#[m,n,o,p]:=h;let#[#[A,bs,g,B,D,s,E,i,j,b,c],l,h]:=Ex p;rw[zQ,zQ,zQ] at h;let#[a,d,q,r]:=h;cases yh m;cases vd l;let#[t,u,w,x,y,z,rfl]:=zp (eq_of_beq n);cases yr (v:=y) o;let a:=zw a;dsimp only at a d;generalize g.tail=F at a d;subst a
 cases c with
 |true=>cases q
 |false=>show#[A,bs,B,D,s,E,i,j,b,k,t,u,w,x,z,F,e,d,r]
def F9(K:zZ)(C:aj):Bool:=GT K C λ_=>true
structure XG(K:zZ)(C fI:aj)(f:Str):Prop where
 exc:WJ K C
 made:F9 K C=X'
 init:zA K (!C) "__init__"=Z' (Z' !fI)
 fn:wH K (!fI)=X'
 kp:yN K (!C)=X'
 sa:zA K (!C) "__setattr__"=Z' (Z' (.builtin "object.__setattr__"))
 no:zA K (!C) f\Y'
 hd:vP K C=X'
 over:Fm K C=X'
section
variable{g:jA->Prop}{kE:jw}{σ:St}{H:Hp}{a C fI:aj}{f:Str}{v:V}
def pU{y:V}{u:ai}{Q:Unit->ak->Prop}(I:ZF X kE σ H s)(e:H a\XO g a C Y')(c:XG X.K C fI f)(ry:ZT y u)(h:∀ L s',H L=Y'->L≠a->ZF X kE σ (upd (upd H L (.xd [(f,y)])) a (XO g a C (Z' L))) s'->Q .unit s'):aB ↥X A (setAttr (!a) f u) Q E s:=by
 let#[o,vs,N,d,i,x,a0]:=(I.hok a _ e).1;let#[oc,od,a7,k]:=o;dsimp only at d i x;subst d i x;let J:sF s.heap a #[!C,Y',.fields vs,k] C Y':=#[N,Z,Z,True.intro];show PySem.W.set_plain I.kIn J c.sa ?_;let l:=qI;let#[cd,S,ho]:=sL c.over;let a3:yE ↥X s.heap (isInstance (!a) (.type "object")) true:=J.type.andThen (sV I.kIn c.exc.mO);show codeAny_call_builtin l.slot.plain l.entry (@PySem.W.check_slot ↥X _ _ { s with toks:=s.toks+1 } "object.__setattr__" "object" "__setattr__" (!a) [.str f s.toks,u] [] _ l.kind l.split a3 (l.args (!a) (.str f s.toks) u) ?_);let hm:yE ↥X s.heap (mroOf !C) cd.mro:=(rG I.kIn S).andThen .now;rw[PySem.W.osa_eq,PySem.refuse_eq];show aa (aa (yE.here (s:={ s with toks:=s.toks+1 }) J.type (aa (yE.here (s:={ s with toks:=s.toks+1 }) hm ?_))));rw[F6 _ ho];show ad (aa (yE.here (s:={ s with toks:=s.toks+1 }) J.type (aa (yE.here (s:={ s with toks:=s.toks+1 }) (sR I.kIn c.no) (aa (ad ?_))))));let#[a4,t,T]:=sL c.hd;show aa (ad (aa (aa (wpAny_loadPart N (aa (yE.here (s:={ s with toks:=s.toks+1 }) (rG I.kIn t) ?_))))));rw[T];dsimp only;let i:a≠‹s›:=zJ (zU N);let p:H ‹s›=Y':=I.hok.fresh (zY _);rw[aO ⋯,aO (by simp[typeHasDict])]
 let D:=zS { cls:=.type "dict",data:=.dict ⇑[] } N;show aa (wpAny_alloc' (aa (wpAny_update' D (ad ?_))));generalize O:((s.heap.push { cls:=.type "dict",data:=.dict ⇑[] }).update a λo=>{ cls:=o.cls,dict:=Z' ‹s›,data:=o.data,slots:=o.slots })=M;let ga:M.get? a\#[!C,Z' ‹s›,.fields vs,k]:=by
  rwa[<-O,wC _ D Z]
 let gd:M.get? ‹s›\{ cls:=.type "dict",data:=.dict ⇑[] }:=by
  rwa[<-O,(rM _ _ _ _ i.symm)|||Heap.get?_push_at Z Z]
 let go:∀ b o,b≠a->s.heap.get? b\o->M.get? b\o:=λb o n q=>by
  rwa[<-O,(rM _ _ _ _ n)|||zS _ q]
 let a1:M.Ns ‹s› (λ_=>Y'):=#[_,⇑[],_,gd,Z,λe he=>mZ he ⋯,λ_=>rfl]
 change aB _ _ (Builtin.ObjectAttr.storeInDict ‹s› (.str f s.toks) f u) _ _ _;unfold Builtin.ObjectAttr.storeInDict Builtin.ObjectAttr.newKeyGuard;show aa (ad (aa (wpAny_nsSet1 (Heap.Ns1.of_empty a1) λP B hs=>?_)));let#[oD,a6,a5,a2,U,R]:=B.count (Within.cons f u Within.nil);show aa (wpAny_lookBehind a2 #v[U,pastItsLine_dict (zR R (by rw[yX,qW,sizeLine_eq];lia))] ?_)
 let m:P.get? a\#[!C,Z' ‹s›,.fields vs,k]:=(hs.2 a i)|||ga;let j:∀ b o,b≠a->s.heap.get? b\o->P.get? b\o:=λb o n q=>(hs.2 b (zJ (zU q)))|||go b o n q;let G:∀{b:aj}{o:HO},H b\o->b≠‹s›:=fun{b o} q z=>by erw[z,p] at q
 let na:∀{b:aj},H b=Y'->b≠a:=fun{b} q z=>by erw[z,e] at q
 show ad (h ‹s› _ p i.symm (I.call' (s':={ s with heap:=P,toks:=_ }) (ch:=[]) Z #[λb o q n _ _=>j b o (na n) q,λb o q n _ _=>#[o.slots,j b o (na n) q],λb o q n _=>?_,λb o q _=>?_,λb xs q=>?_,λb o u q=>?_,λb ps q=>?_] (λb ob q=>?_) I.bare (λb hb=>mZ hb ⋯)))
 .rwa[ZM (na n),ZM (zJ (zU q)),n]
 .by_cases z:b=a
  .rwa[z,#[_,m]]
  .show#[o,j b o z q]
 .rwa[ZM (λz=>by erw[z,e] at q),ZM (G q),q]
 .rwa[ZM (λz=>by erw[z,e] at q),ZM (G q),q]
 .show#[⇑[],by rw[ZM (λz=>by erw[z,e] at q),ZM (G q),q];simp]
 .by_cases z:b=a
  .erw[z,ZP] at q;rwa[z,Hz #[_,_,m,Z,Z,Z,a0]]
  .rw[ZM z] at q;by_cases z2:b=‹s›
   .erw[z2,ZP] at q;rw[z2];exists _,B;intro g;change Yg (xH g [(f,y)]) (if g=f then Z' u else Y')
    by_cases Y:g=f
    .rw[Y,aP rfl];simp only[xH,beq_self_eq_true];show ry
    .rw[aO Y];simp only[xH,beq_eq_false_iff_ne.mpr Y];show True.intro
   .rw[ZM z2] at q;let oc:∀{c:aj},H c\.own b->c≠a:=fun{c} d z=>by erw[z,e] at d
    show(I.hok b ob q).stay (λc u d r=>j c u ?_ r) (λc d=>?_) (λc xs d=>?_)
    .rcases d with rfl|d
     .show z
     .show oc d
    .rwa[ZM (oc d),ZM (G d),d]
    .rwa[ZM (λz=>by erw[z,e] at d),ZM (G d),d]
def qy{b:Bool}{j:aj}{x:List (Str×V)}{Q:ja}(I:ZF X kE σ H s)(e:H a\XO g a C (Z' j))(d:H j\.xd x)(c:XG X.K C fI f)(l:x.lookup f\v)(h:∀ u B,ZF X kE σ H B->ZT v u->Q u B):aB ↥X A (getAttr (!a) f b) Q E s:=by
 let#[o,R,N,D,m,n,G]:=id (I.hok a _ e).1;let#[O,r,i]:=I.hok j _ d;let#[u,M,z]:=Yg.some_of (v:=v) (o:=O f) (by rwa[<-l,i f])
 let#[y,t,q]:=Fg r;let J:sF s.heap a o C (Z' y):=#[N,D,by unfold PySem.W.notCls;rw[m],#v[n,t]]
 let#[P,k,p]:=sL c.hd;let L:yE ↥X s.heap (Builtin.ObjectAttr.inOwnDict f !a) (Z' u):=PySem.W.looks_own I.kIn J k (by unfold PySem.W.ownOf;rw[p,aP rfl];change uK f y=_;rw[q,M])
 let F:yE ↥X s.heap (Builtin.ObjectAttr.find (!a) (!C) f) (.value u):=by
  show yE.andThen (sR I.kIn c.no) (yE.andThen .now (yE.andThen .now ?_));show yE.andThen L (yE.tag yE.now)
 show aa (wpAny_mkText ?_);show F2 (s:={ s with toks:=s.toks+1 }) I.kIn (I.hok a _ e).1.is c.exc F #[ES z,h u _ (I.tok _) z]
end
section
variable{C fI:aj}{f:Str}
abbrev P3(h:aD)(C:aj)(a:je):Heap:=(h.push { cls:=.type "tuple",data:=.seq ⇑a }).push { cls:=!C,data:=.fields ⇑[!h.objs.size,.none,.none,.none,.bool false,.none] }
theorem vh{e:je}{Q:ja}(X:K.In s.heap)(c:XG K C fI f)(p:↑e<=aq)(h:aB ↥_ (A.under (.builtin "type.__call__" #[.ref C::e,[]])) (call (!fI) (.ref (‹s›+1)::e)) (λr D=>r=.none/\Q (.ref (‹s›+1)) D) E { s with heap:=P3 s.heap C e }):
  aB ↥_ A (call (!C) e) Q E s:=by
 let#[a,g,d,t,B]:=s;let n:=c.made;let#[Y,bs,ns,qn,L,sn,u,G,k,H,P,R,S,U,V,v,M,O,_]:=BS n;let i:a.get? C\excClassObj Y qn C ns bs v L sn u G k H P R S U V "ValueError.__new__":=X _ _ M;let T:OwnTail a nJ v:=ml X O;let j:=qF;let f1:=tc_lookup;let f2:=tc_bind !C;let hT:(#[a,g,d,t,B]:ak).TypeIs (!C) "type" :=#[_,i,Z];show wpAny_call (codeAny_of_tree (show aB _ _ (callAny (!C) _) _ _ _ from ?_))
 repeat (any_goals (first|assumption|with_reducible show wpAny_loadPart_at i ?_|wp_step))
 show#[Z,codeAny_call_builtin_at (Code.quiet_builtin _ (by decide +kernel)) entry_typeCall (wpAny_check_type_call_sub i ?_)]
 repeat (first|with_reducible show wpAny_loadPart_at i ?_|with_reducible show wpAny_madeBy_exc i ?_|wp_step)
 show codeAny_call_builtin_code (Code.quiet_builtin _ j.quiet) (wpAny_check_new_subU j j.hasB T i (codeAny_exc_new_subU j j.hasB j T i ?_ p));change aB _ _ _ _ _ _;let I:(P3 a C e).get? (a.objs.size+1)\{ cls:=!C,data:=.fields ⇑[!a.objs.size,.none,.none,.none,.bool false,.none] }:=by heap_get
 let y:∀ b o,a.get? b\o->(P3 a C e).get? b\o:=λb o q=>zS _ (zS _ q);let l:=y _ _ i;let m:(Value.ref C::v).contains (!C)=X':=by simp
 unfold isInstance;change aB _ _ _ _ _ #[P3 a C e,g,d,t,B]
 repeat (first|with_reducible show wpAny_loadPart_at I ?_|wp_step)
 show wpAny_isSubtype_exc (C:=C) (h:=P3 a C e) l ?_;rw[m]
 repeat wp_step
 let x:K.In (P3 a C e):=λb o q=>y b o (X b o q);change aB _ _ (typeLookup (!C) _) _ _ _;show(sR x c.init).at ?_;show af (aa ((PySem.W.bind_fn x _ (beq_iff_eq.mp c.fn)).at ?_));show aa (ae h (λr D N=>?_) λ_ _ z=>z);let#[rfl,J]:=N
 wp_walk
 show J
end
def N8(H:Hp)(a C:aj):=∃ b,H a\.ext b/\∀ h,b h->WX a C h
def RY{g:jA->Prop}{H:Hp}{a C:aj}{b:jB}(e:H a\XO g a C b):N8 H a C:=#[_,e,λ_ h=>h.is]
def N8.mono{H a:Hp}{b C:aj}(x:N8 H b C)(s:ZC H a):N8 a b C:=let #[φ,e,k]:=x;#[φ,s _ _ e,k]
inductive Xx(K:zZ)(d:jf)(H:Hp)(Q:VK):Prop
 |mk(a C c b:_)(_:d=[!a,c])(_:N8 H a C)(_:WJ K C)(_:CZ c=X')(_:yK K (!C) (cV c)\b)(_:Q (.bl b) H)
inductive Oi(K:zZ)(f:Str)(D:Y1)(e:Tw.St)(y x:V)(c:Hp):Prop
 |mk(g a C d:_)(_:x=!a)(_:c a\XO g a C Y')(_:XG K C d f)(_:∀ b,c b=Y'->b≠a->D.nx e (upd (upd c b (.xd [(f,y)])) a (XO g a C (Z' b))))
def RX(K:zZ)(d e:TE)(f:Str):TS:=λD a H=>e a H λy b=>d a b λx c=>Oi K f D a y x c
inductive Oo(K:zZ)(f:Str)(Q:VK)(x:V)(b:Hp):Prop
 |mk(g a C c d v e:_)(_:x=!a)(_:b a\XO g a C (Z' c))(_:b c\.xd d)(_:XG K C e f)(_:d.lookup f\v)(_:Q v b)
def Ce(K:zZ)(b:TE)(f:Str):TE:=λc H Q=>b c H λx a=>Oo K f Q x a
def NS(K:zZ)(C c:aj)(f:Str):Sp:=λd H Q _=>XG K C c f/\∃ a y,d=[!a,y]/\H a\XO Qq a C Y'/\∀ b,H b=Y'->b≠a->Q .non (upd (upd H b (.xd [(f,y)])) a (XO Qq a C (Z' b)))
section
def NA:Vd X (.builtin "isinstance") (Xx X.K):=by
 intro f s t H p n Q I r h;let#[d,C,c,b,rfl,#[v,e,k],g,i,j,q]:=h;let#[u,o,rfl,l,a]:=Le r;cases(show u=Value.ref d from l);rwa[y6 a i,xK (Aw g) I.kIn (k _ (I.hok d _ e).1) j (λz=>nomatch z) λm=>#[.bl b,H,I.tok m,Z,q]]
variable{C fI:aj}{f:Str}{e o value:Expr}{es:jC}{ta tv:TE}{t:TA}{pos pos' p:aJ}{x:Str}
def JM(v:PE X o ta)(B:PE X value tv)(A:swapsWith value (Z' (.Attribute o f pos')) pos.line X.env=pure false):PS X (.Assign [.Attribute o f pos'] value pos) (RX X.K ta tv f):=by
 intro b s d H D I h;show plainObj_wpAny_Assign_Attribute (YH (B b s d H _ I h) λu L y i j J q=>Z0 (v b L d i _ j q) λE O ⟨x,M,k,G,g,a,C,fI,r,n,c,F⟩=>?_) A;subst r;obtain rfl:E=Value.ref a:=G;show pU k n c J λm N w z l=>#[d,_,l,F m w z]
def xr(w:PE X e ta)(r:attributeBase e f X.env (aH e X.env)=aH e X.env):PE X (.Attribute e f pos) (Ce X.K ta f):=by
 intro b s A H Q I h;show C0 r (Z0 (w b s A H _ I h) ?_);rintro u F ⟨x,d,i,z,g,a,C,B,D,v,fI,n,k,m,c,l,q⟩;subst n;obtain rfl:u=Value.ref a:=z;show qy i k m c l λu E j y=>#[v,d,j,y,q]
def ZF.newx{g:jw}{j:St}{H:Hp}{s:ak}{h':aD}{ea:aj}(I:ZF X g j H s)(d:∀ b o,s.heap.get? b\o->h'.get? b\o)(n:s.heap.get? ea=Y')(m:VG Qq ea C Y' h'):ZF X g j (upd H ea (XO Qq ea C Y')) { s with heap:=h' }:=by
 let l:H ea=Y':=by
  cases z:H ea with
  |none=>rfl
  |some o=>
   let#[A,q]:=I.hok.there (a:=ea) #v[z,λy=>nomatch y]
   erw[n] at q
 let i:∀{b:aj}{o:HO},H b\o->b≠ea:=fun{b o} q z=>by erw[z,l] at q
 show I.call' (s':={ s with heap:=h' }) (ch:=[]) Z #[λb o q _ _ _=>d b o q,λb o q _ _ _=>#[o.slots,d b o q],λb o q z _=>?_,λb o q _=>#[o,d b o q],λb w q=>?_,λb o u q=>?_,λb B q=>#[⇑[],?_]] (λb v q=>?_) I.bare (λb k=>mZ k ⋯)
 .rwa[ZM (λy=>by erw[y,n] at q),z]
 .rwa[ZM (i q),q]
 .rwa[ZM (i q),q]
 .rw[ZM (i q),q];simp
 .by_cases z:b=ea
  .erw[z,ZP] at q;rwa[z,Hz m]
  .rw[ZM z] at q;show(I.hok b v q).stay (λc u _ r=>d c u r) (λc h=>#v[ZM (i h),h]) (λc w h=>#v[ZM (i h),h])
end
def pH(f:jA->jA)(o:aI):(Obj.mapFields f o).dict=o.dict:=by
 let#[c,d,a,b]:=o;cases a<;>rfl
def Ma(B:aD)(cls:ai)(b:jA):Prop:=b[2]?\.none\/∀ C o a,cls=.ref C->B.get? C\o->o.data=.cls a->a.name≠"NoStem"
def Se(h B:aD)(e:aj)(cls:ai)(g:jB)(f:ai):Prop:=
 ∃ a b T c d,(h.get? e\a/\a.cls=cls/\a.dict=g/\a.data=.fields b/\b[1]?\!T)/\B.get? T=Y'/\T≠e/\h.get? T\c/\c.data=.fields d/\d[3]?\f/\Ma B cls b
def WA(B:aD)(l:jF)(e:aj)(cls:ai)(b:jB)(a:ai)(h:aD):Prop:=B.StaysIn h/\B.get? e=Y'/\h.FunFrames B l/\Se h B e cls b a
def WA.at{B h:aD}{l:jF}{e C:aj}{f:jB}{g:ai}(x:WA B l e (!C) f g h):VG Pj e C f h:=by
 let#[_,_,_,i,j,T,k,m,#[a,b,c,d,_],_]:=x;show#[i,j,a,b,d,c,trivial]
section
variable{M:Model}{B:aD}{env:Env}{outer l:jF}{L e:aj}{cls:ai}{od:jB}{Q:Unit->ak->Prop}
def JH{oe:aI}{vs:jA}{first:ai}{nx:Bool}(fr:A.frames\(env::outer))(ff:s.heap.FunFrames B (env::outer))(eL:env.frame\L)(ge:s.heap.get? e\oe)(sb:B.StaysIn s.heap)(eB:B.get? e=Y')(dd:oe.data=.fields vs)(two:1<vs.size)(cx:Ma B oe.cls vs)(h:∀ h',WA B (env::outer) e oe.cls oe.dict (rawInt L) h'->s.heap.UpToSlots h'->Q .unit { s with heap:=h' }):
  aB M A (frameOf env>>=λa=>entryPlaceOf L nx>>=λpl=>EntryCells.newEntry first a .none (rawInt L) .none pl>>=λb=>setField (!e) 1 b) Q E s:=by
 let en:e∉(env::outer).filterMap (·.frame):=λz=>by
  let#[_,o,g1,g2]:=ff.mem z;erw[ge] at g1;show g2 vs dd
 show aa (wpAny_frameOf_fun fr ff eL λh1 k1=>aa (wpAny_entryPlaceOf λpl kp=>?_));unfold EntryCells.newEntry newFields;show aa (wpAny_newObj_type ?_ (kp.sizeOk5 _ _ _ _ _));let t3:([first,Value.ref L,.none,rawInt L,.none]++(if pl.isEmpty then vR 6 Value.none else pl)).toArray[3]?\rawInt L:=by
  first|(simp;done)|(rcases kp with rfl|⟨_,_,_,_,_,_,_,rfl⟩ <;> simp)
 generalize ⇑([first,Value.ref L,.none,rawInt L,.none]++(if pl.isEmpty then vR 6 Value.none else pl))=ts at t3⊢;let g1:h1.get? e\oe:=(k1.2.1 e en)|||ge;let sb1:B.StaysIn h1:=λb o q=>(k1.2.1 b λz=>by erw[(ff.mem z).1] at q)|||sb b o q
 let eT:h1.objs.size≠e:=λz=>wV _ (by have:=zU g1;rw[<-z] at this;show this)
 let g2:=zS (h:=h1) ({ cls:=.type "traceback",dict:=Y',data:=.fields ts }:aI) g1;let d3:=Obj.data_mapFields dd (·.setIfInBounds 1 (Value.ref h1.objs.size));let g3:=wC (Obj.mapFields (·.setIfInBounds 1 (Value.ref h1.objs.size))) g2 (Obj.isFreed_of_fields d3);let gT:=(xV (h1.push ({ cls:=.type "traceback",dict:=Y',data:=.fields ts }:aI)) (Obj.mapFields (·.setIfInBounds 1 (Value.ref h1.objs.size))) eT.symm)|||yS h1 Z;let stay:∀ b o,b≠e->h1.get? b\o->((h1.push ({ cls:=.type "traceback",dict:=Y',data:=.fields ts }:aI)).update e (Obj.mapFields (·.setIfInBounds 1 (Value.ref h1.objs.size)))).get? b\o:=λb o n q=>
  (xV _ _ n.symm).trans (zS _ q)
 let notE:∀ b o,s.heap.get? b\o->(∀ ws,o.data≠.fields ws)->b≠e:=λb o q nf z=>by
  erw[z,ge] at q;show nf vs dd
 show wpAny_setField g2 dd two (h _ #[λb o q=>stay b o (λz=>by erw[z,eB] at q) (sb1 b o q),eB,ff.of_keeps λb o q nf=>?_,_,_,h1.objs.size,_,_,#[g3,Obj.cls_mapFields _ _,pH _ _,d3,by simp[two]],sb1.fresh,eT,gT,Z,t3,cx.imp (λz=>#v[Array.getElem?_setIfInBounds_ne (by decide),z]) id] λb o q nf=>?_)
 .let#[sl,z]:=k1.2.2 b o q;show#[_,stay b _ (notE b o q nf) z,Z]
 .let#[sl,z]:=k1.2.2 b o q;show#[sl,stay b _ (notE b o q nf) z]
def OE{F:ai}(x:WA B l e cls od F s.heap)(h:∀ j,WA B l e cls od .none j->s.heap.UpToSlots j->Q .unit { s with heap:=j }):aB M A (setFlight (!e) Y') Q E s:=by
 let#[H,C,D,G,J,T,N,t,#[p,v,w,m,u],TB,k,i,g,I,y]:=x;let r:3<t.size:=(vK.mp I).1;let a:∀ b,b≠T->(s.heap.update T (Obj.mapFields (·.setIfInBounds 3 ((Y':jB).elim Value.none λf=>rawInt f)))).get? b=s.heap.get? b:=λb n=>xV _ _ n.symm;let c:∀ b o,s.heap.get? b\o->(∀ K,o.data≠.fields K)->b≠T:=λb o q d z=>by
  erw[z,i] at q;show d t g
 unfold setFlight;show aa (wpAny_field p m u ?_);rw[aP (show (Value.ref T != Value.none)=X' by simp)]
 show wpAny_setField i g r (h _ #[λb o q=>(a b λz=>by erw[z,TB] at q)|||H b o q,C,D.of_keeps λb o q d=>#[o,(a b (c b o q d))|||q,Z],?_] λb o q d=>#[o.slots,(a b (c b o q d))|||q])
 show#[G,J,T,_,_,#[(a e k.symm)|||p,v,w,m,u],TB,k,wC _ i (Obj.isFreed_of_fields (Obj.data_mapFields g _)),Obj.data_mapFields g _,by simp[r],y]
def qk{a:aI}{c:jA}(n:A.frames\(env::outer))(m:s.heap.FunFrames B (env::outer))(f:env.frame\L)(g:s.heap.get? e\a)(o:B.StaysIn s.heap)(k:B.get? e=Y')(d:a.data=.fields c)(i:c[1]?\.none)(j:Ma B a.cls c)(h:∀ b,WA B (env::outer) e a.cls a.dict (rawInt L) b->s.heap.UpToSlots b->Q .unit { s with heap:=b }):aB M A (noteFrame (!e) env) Q E s:=by
 unfold noteFrame;simp only[f];show aa (wpAny_field g d i ?_);rw[aO (by decide)]
 show JH n m f g o k d (vK.mp i).1 j h
def Kl(G:A.frames\(env::outer))(k:env.frame\L)(x:WA B (env::outer) e cls od .none s.heap)(h:∀ f,WA B (env::outer) e cls od (rawInt L) f->s.heap.UpToSlots f->Q .unit { s with heap:=f }):
  aB M A (noteFrame (!e) env) Q E s:=by
 let#[I,C,F,O,P,T,N,r,#[m,v,w,j,t],TB,u,i,g,p,y]:=x;subst v w;let H:3<r.size:=(vK.mp p).1;let a:∀ b,b≠T->(s.heap.update T (Obj.mapFields (·.setIfInBounds 3 Value.none))).get? b=s.heap.get? b:=λb n=>xV _ _ n.symm;let c:∀ b o,s.heap.get? b\o->(∀ K,o.data≠.fields K)->b≠T:=λb o q d z=>by
  erw[z,i] at q;show d r g
 unfold noteFrame;simp only[k];show aa (wpAny_field m j t ?_);rw[aP (show (Value.ref T != Value.none)=X' by simp)]
 show aa (wpAny_field i g p ?_);rw[aO (show ¬ ((Value.none==rawInt L)=X') by simp[rawInt])]
 show aa (wpAny_setField i g H ?_);show JH (s:={ s with heap:=_ }) G (F.of_keeps λb o q d=>#[o,(a b (c b o q d))|||q,Z]) k ((a e u.symm)|||m) (λb o q=>(a b λz=>by erw[z,TB] at q)|||I b o q) C j (vK.mp t).1 y λf D J=>h f D λb o q d=>?_
 show J b o ((a b (c b o q d))|||q) d
def WA.less{f:ai}{h:aD}(x:WA B (env::outer) e cls od f h):WA B outer e cls od f h:=by
 let#[a,b,#[_,_,c],d]:=x;show#[a,b,c,d]
def oN(f:A.frames\(env::outer))(b:env.frame\L)(x:WA B (env::outer) e cls od .none s.heap)(h:∀ a,WA B outer e cls od .none a->s.heap.UpToSlots a->Q .unit { s with heap:=a }):aB M A (leaving env !e) Q E s:=by
 unfold leaving;show aa (Kl f b x λg c j=>OE (s:={ s with heap:=g }) c λi d k=>h i d.less (j|||k))
def pz{a:aI}{c:jA}(n:A.frames\(env::outer))(m:s.heap.FunFrames B (env::outer))(i:env.frame\L)(o:s.heap.get? e\a)(r:B.StaysIn s.heap)(g:B.get? e=Y')(f:a.data=.fields c)(v:c[1]?\.none)(d:Ma B a.cls c)(h:∀ b,WA B outer e a.cls a.dict .none b->s.heap.UpToSlots b->Q .unit { s with heap:=b }):aB M A (leaving env !e) Q E s:=by
 unfold leaving;show aa (qk n m i o r g f v d λp j t=>OE (s:={ s with heap:=p }) j λq k u=>h q k.less (t|||u))
end
def FS{a:am}{w:aw}{A:ax}{E:ja}{s:ak}{c:Env}{K:zZ}{C:aj}{x:Sem ai}{Q:Flow->ak->Prop}(F:A.handled=Y')(H:yU K C (.type "BaseException")\true)(G:xX K (!C)\.type "type")(h:aB (aA a w) A x (λv b=>∃ e q,v=.ref e/\K.In b.heap/\VG Qq e C q b.heap/\E (!e) b) E s):aB (aA a w) A (raiseStmt c (Z' x) Y') Q E s:=by
 unfold raiseStmt;show aa (ae h (λv b B=>?_) λ_ _ z=>z);let#[e,q,rfl,k,#[#[L,i,I,j],r,o,l,m,n,J,P],D]:=B;dsimp only at l m n;subst l m n;let#[p,g,d,O,N]:=b;let t:yE (aA a w) p (typeOf !e) (!C):=WX.ty #[_,o,Z] _;let u:=sV (M:=aA a w) k H;let y:=mw (M:=aA a w) k G;let f:p.get? e\#[!C,i,.fields r,j]:=o;unfold excFromValue isExcClass isInstance isType raisedInstance setFlight
 repeat (first|with_reducible show wpAny_loadPart_at f ?_|with_reducible show u.at ?_|with_reducible show t.at ?_|with_reducible show y.at ?_|wp_step)
 rw[show r[1]?\Value.none from J]
 repeat wp_step
 all_goals first|show wpAny_raiseNew_none F D|trace_state
structure UG(P:am)(w:aw)(outer:jF)(H:Hp)(s:ak)(ea:aj)(cls:ai)(od:jB)(H':Hp)(s':ak):Prop where
 ex:∃ B:aD,WA B outer ea cls od .none s'.heap/\(∀ b o,s'.heap.get? b\o->H' b≠Y'->B.get? b\o)/\(∀ b o,s.heap.get? b\o->H b=Y'->b∉frs outer->B.get? b\o)/\(∀ b o,s.heap.get? b\o->b∉frs outer->∃ o',B.get? b\o')
 os:s'.os=s.os
 bare:AllBare s'.gens
 un:Un (frs outer) [] H H' s.heap s'.heap
 hok:YT P w H' s'.heap
 new:s.heap.get? ea=Y'
 free:H' ea=Y'
def Z8(P:am)(w:aw):Wh:=λa H s E e f=>∃ c cls d b,e=.ref c/\UG P w a H s c cls d b f/\E cls d b
structure Vh(X:Cx)(E:XK):Prop where
 stack:X.stack=X.env::X.outer
 frame:X.env.frame\X.env.locals
 ex:X.ex=[]
 calm:X.calm=X'
 xe:∀ e s',aB ↥X X.A (leaving X.env e) (λ_ s''=>Z8 X.prog X.w X.outer X.H₀ X.s₀ E e s'') (λe' s''=>Z8 X.prog X.w X.outer X.H₀ X.s₀ E e' s'') s'->X.xe e s'
def VD{P:am}{w:aw}{K:zZ}{g:jc}{c:aD}{N:jv}{d:Str}{b:aE}{f:aj}{e:ai}{A:ax}{a:jF}{s:ak}{H:Hp}{E:XK}:
  Vh (Vn (Z8 P w) P w K g c N d b f e A a s H E) E:=#[Z,Z,Z,Z,λ_ _ h=>h]
section
variable{kE:jw}{σ:St}{H H':Hp}{s':ak}{E:XK}
def Vh.frs(F:Vh X E):frs X.stack=X.env.locals::X.fs:=by
 rw[F.stack];change List.filterMap _ (X.env::X.outer)=_;rw[tE,F.frame];rfl
def Vh.off(F:Vh X E)(I:ZF X kE σ H s){b:aj}{o:aI}(q:X.s₀.heap.get? b\o)(n:b∉Tw.frs X.outer):b∉Tw.frs X.stack:=λz=>by
 rw[F.frs] at z;rcases zD.mp z with z|z
 .erw[z,I.noloc] at q
 .show n z
def Vh.on(F:Vh X E){b:aj}(n:b∈Tw.frs X.outer):b∈Tw.frs X.stack:=by
 rwa[F.frs,zE _ n]
def y7{B h:aD}{g:aj}(F:Vh X E)(J:ZF X kE σ H s)(r:B.StaysIn h)(d:∀ b o,b≠g->s.heap.get? b\o->b∉Tw.frs X.stack->B.get? b\o)(p:s.heap.UpToSlots h)(i:X.s₀.heap.get? g=Y'):
  Un (Tw.frs X.outer) [] X.H₀ H X.s₀.heap h:=by
 let c:=J.base;rw[F.ex] at c;let l:∀{b:aj}{o:aI},X.s₀.heap.get? b\o->b≠g:=λq z=>by erw[z,i] at q
 let m:∀{b:aj}{o:aI},b∈Tw.frs X.stack->s.heap.get? b\o->∀ v,o.data≠.fields v:=λa q=>JZ J _ a _ q;show#[λb o q n a _=>r b o (d b o (l q) (c.keep b o q n a ⋯) (F.off J q a)),λb o q n a _=>?_,c.free,λb o q _=>?_,c.tups,c.frzs,c.tbls]
 .let#[u,e]:=c.slot b o q n a ⋯
  let#[k,t]:=p b _ e (m (F.on a) e);show#[k,t]
 .let#[f,j]:=c.there b o q ⋯
  by_cases a:b∈Tw.frs X.stack
  .let#[u,e]:=p b f j (m a j);show#[_,e]
  .show#[f,r b f (d b f (l q) j a)]
def ZF.untrack{a:aj}{g:aD->Prop}(I:ZF X kE σ (upd H a (.ext g)) s)(l:H a=Y'):ZF X kE σ H s:=by
 let v:∀{b:aj}{u:HO},H b\u->b≠a:=fun{b u} e z=>by erw[z,l] at e
 let h:∀{b:aj},upd H a (.ext g) b=Y'->H b=Y':=fun{b} e=>by
  by_cases z:b=a
  .rwa[z,l]
  .rw[ZM z] at e;show e
 let d:∀{b:aj}{u:HO},upd H a (.ext g) b\u->(∀ y,u≠.ext y)->H b\u:=fun{b u} e k=>by
  by_cases z:b=a
  .rw[z,ZP] at e;show mZ (zB.inj e).symm (k g)
  .rw[ZM z] at e;show e
 show#[I.ok,I.os,I.bare,#[I.base.keep,I.base.slot,λb j q n t=>h (I.base.free b j q n t),I.base.there,λb m q=>d (I.base.tups b m q) (λ_ z=>nomatch z),λb j u q=>d (I.base.frzs b j u q) (λ_ z=>nomatch z),λb w q=>?_],I.loc,I.cell,h I.free,λx c e=>h (I.freeC x c e),λp i=>?_,λb u e=>?_,I.len]
 .let#[f,e]:=I.base.tbls b w q;show#[f,d e (λ_ z=>nomatch z)]
 .let#[e,n,r]:=I.pin p i;show#[e,h n,r]
 .let o:upd H a (.ext g) b\u:=#v[ZM (v e),e]
  show(I.hok b u o).stay (λ_ _ _ q=>q) (λc q=>d q (λ_ z=>nomatch z)) λc m q=>d q (λ_ z=>nomatch z)
def uw{c C:aj}{m:jB}{g:jA->Prop}(F:Vh X E)(J:ZF X kE σ H s)(e:X.s₀.heap.get? c=Y')(u:H c=Y')(Q:VG g c C m s.heap)(K:∀ f,g f->f[1]?\.none)(L:∀ f B,g f->(∀ b o,B.get? b\o->s.heap.get? b\o)->Ma B (!C) f)(N:E (!C) m H):X.xe (!c) s:=by
 let#[U,f,I,r,w,x,t]:=Q;let T:=K f t;let G:X.A.frames\(X.env::X.outer):=by rw[J.ok.frames,F.stack]
 let D:s.heap.FunFrames (vB s.heap (c::Tw.frs X.stack)) (X.env::X.outer):=by
  have:=PySem.W.funFrames_hide (as:=c::Tw.frs X.stack) J.stack (λl P a O=>zE _ (uZ.mpr #[l,P,O]));rw[F.stack] at this⊢;show this
 let d:∀ b o,b≠c->s.heap.get? b\o->b∉Tw.frs X.stack->(vB s.heap (c::Tw.frs X.stack)).get? b\o:=λb o n q h=>rH _ q (λz=>by
  rcases zD.mp z with z|z
  .show n z
  .show h z)
 let YW:∀ b o,s.heap.get? b\o->H b≠Y'->(vB s.heap (c::Tw.frs X.stack)).get? b\o:=λb o q n=>d b o (λz=>n #v[z,u]) q λz=>n (J.stkFree b z)
 let y:(vB s.heap (c::Tw.frs X.stack)).get? c=Y':=rC _ ⋯
 show F.xe _ _ (pz G D F.frame I (λb o q=>sY _ q) y w T #v[r,L f _ t λb o q=>sY _ q] λM j S=>?_)
 rw[r,x] at j;show#[c,_,m,H,Z,#[#[_,j,λb o q n=>?_,λb o q n h=>?_,λb o q h=>?_],J.os,J.bare,y7 F J j.1 d S e,J.hok.keptT λb o q n=>j.1 b o (YW b o q n),e,u],N]
 .let#[i,k]:=J.hok.there n;let R:=j.1 b i (YW b i k n);let v:M.get? b\o:=q;rw[R] at v;rwa[<-zB.inj v,YW b i k n]
 .let p:=J.base;rw[F.ex] at p;show d b o (λz=>by erw[z,e] at q) (p.keep b o q n h ⋯) (F.off J q h)
 .let#[i,k]:=J.base.there b o q (by rw[F.ex];simp)
  show#[i,d b i (λz=>by erw[z,e] at q) k (F.off J q h)]
def Dc{a C:aj}{c:jB}(F:Vh X E)(J:ZF X kE σ H s)(b:X.s₀.heap.get? a=Y')(e:H a=Y')(f:VG Qq a C c s.heap)(d:E (!C) c H):X.xe (!a) s:=uw F J b e f (λ_ z=>z.1) (λ_ _ z _=>.inl z.2) d
def AF{i:aj}{cls:ai}{r:jB}{B j:aD}(F:Vh X E)(I:ZF X kE σ H s)(W:UG X.prog X.w X.stack H s i cls r H' s')(YW:∀ b o,s'.heap.get? b\o->H' b≠Y'->B.get? b\o)(v:∀ b o,s.heap.get? b\o->H b=Y'->b∉Tw.frs X.stack->B.get? b\o)(m:∀ b o,s.heap.get? b\o->b∉Tw.frs X.stack->∃ c,B.get? b\c)(f:WA B X.outer i cls r .none j)(O:s'.heap.UpToSlots j)(q:E cls r H'):Z8 X.prog X.w X.outer X.H₀ X.s₀ E (!i) { s' with heap:=j }:=by
 let d:=I.base;rw[F.ex] at d;let L:∀{b:aj}{o:aI},b∈Tw.frs X.stack->s.heap.get? b\o->∀ y,o.data≠.fields y:=λa q=>JZ I _ a _ q;let p:∀ b o,X.s₀.heap.get? b\o->X.H₀ b=Y'->b∉Tw.frs X.outer->B.get? b\o:=λb o q n a=>v b o (d.keep b o q n a ⋯) (d.free b o q n ⋯) (F.off I q a)
 let g:∀ b o,s.heap.get? b\o->b∈Tw.frs X.stack->∃ t,j.get? b\{ o with slots:=t }:=λb o q a=>by
  let#[t,h]:=W.un.slot b o q (I.stkFree b a) a ⋯
  let#[g,l]:=O b _ h (λy z=>L a q y z);show#[g,l]
 let u:Un (Tw.frs X.outer) [] X.H₀ H' X.s₀.heap j:=by
  show#[λb o q n a _=>f.1 b o (p b o q n a),λb o q n a _=>?_,λb o q n _=>?_,λb o q _=>?_,λb D q=>W.un.tups b D (d.tups b D q),λb o u q=>W.un.frzs b o u (d.frzs b o u q),λb M q=>?_]
  .let#[t,h]:=d.slot b o q n a ⋯
   let#[x,G]:=g b _ h (F.on a);show#[x,G]
  .let#[c,e]:=d.there b o q ⋯
   show W.un.free b c e (d.free b o q n ⋯) ⋯
  .let#[c,e]:=d.there b o q ⋯
   by_cases a:b∈Tw.frs X.stack
   .let#[t,h]:=g b c e a;show#[_,h]
   .let#[A,l]:=m b c e a;show#[A,f.1 b A l]
  .let#[J,h]:=d.tbls b M q;let#[K,l]:=W.un.tbls b _ h;show#[J++K,by rw[l,uB]]
 show#[i,cls,r,H',Z,#[#[B,f,λb o k n=>?_,p,λb o k a=>?_],W.os|||I.os,W.bare,u,W.hok.keptT λb o k n=>f.1 b o (YW b o k n),?_,W.free],q]
 .let#[c,e]:=W.hok.there n;let N:=f.1 b c (YW b c e n);let C:j.get? b\o:=k;rw[N] at C;rwa[<-zB.inj C,YW b c e n]
 .let#[c,e]:=d.there b o k ⋯
  show m b c e (F.off I k a)
 .cases z:X.s₀.heap.get? i with
  |none=>rfl
  |some o=>
   let#[c,e]:=d.there i o z ⋯
   erw[W.new] at e
def U9{E1:XK}(F:Vh X E)(g:∀ cls o H,E1 cls o H->E cls o H):VW (Z8 X.prog X.w) X E1:=by
 intro kE σ H s e s' I h;let#[j,cls,l,H',rfl,W,q]:=h;let#[B,d,YW,c,b]:=W.ex;let f:X.A.frames\(X.env::X.outer):=by rw[I.ok.frames,F.stack]
 show F.xe _ _ (oN f F.frame (by rwa[<-F.stack,d]) λk a i=>AF F I W YW c b a i (g _ _ _ q))
inductive Ql(C:aj)(f:Str)(E:XK)(c:jf)(b:Hp):Prop
 |mk(y:_)(_:c=[y])(_:∀ a,b a=Y'->E (!C) (Z' a) (upd b a (.xd [(f,y)])))
def Eu(C:aj)(f:Str)(E:XK)(t:TA):TS:=λ_ σ H=>t σ H λb a=>Ql C f E b a
def ql{k:Nat}{C N:aj}{f x:Str}{Y:ao}{Q:jv}{e:Expr}{n:jC}{t:TA}{p g pos:aJ}(F:Vh X E)(c:XG X.K C N f)(ht:xX X.K (!C)\.type "type")(T:ZL X.prog X.w X.K X.mg X.base ZZ k N Y Q (NS X.K C N f))(hr:Za (k+1) X.A)(hg:Gl X x)(hm:X.mg x\!C)(hb:Z9 X.K Y Q [])(ha:PA X (e::n) t)(O:(x==("__debug__":Str))=false:=by decide)(he:ar (e::n) X.env=(false,aH e X.env)::ar n X.env:=by rfl)(P:(aF g (ar n X.env)).any (·.1)=false:=by rfl):
  PS X (.Raise (Z' (.Call (.Name x p) (e::n) [] g)) Y' pos) (Eu C f E t):=by
 intro kE s σ H D I h;let hh:=I.ok.hd F.calm;rw[arm_exec_Raise];show aa (ah ?_);show FS hh c.exc.mB ht (aa (ae ?_ (λv s3 h3=>aa (ah (ad h3))) λ_ _ z=>z));show ag (Pq I hg hm ?_ O);show uY (h₀:=X.base) I.ok.mod.kin c.kp (Z0 (ha g kE s σ H _ I h) λus d ⟨vs,l,m,r,y,ey,q⟩=>#[m.kIn,?_]) he P;subst ey;obtain⟨u,rfl,R⟩:∃ u,us=[u]/\ZT y u:=by
  cases r with
  |cons R r0=>cases r0;show#[1,R]
 show vh m.kIn c (by change 1<=aq;rw[sizeLine_eq];lia) ?_
 let kk:∀ b o,d.heap.get? b\o->(P3 d.heap C [u]).get? b\o:=λb o q=>zS _ (zS _ q);let e1:(P3 d.heap C [u]).get? (‹d›+1)\{ cls:=!C,data:=.fields ⇑[.ref ‹d›,.none,.none,.none,.bool false,.none] }:=by heap_get
 let U:d.heap.get? (‹d›+1)=Y':=sX (xW _);let h0:l (‹d›+1)=Y':=m.hok.fresh (xW _);let L:X.s₀.heap.get? (‹d›+1)=Y':=by
  cases z:X.s₀.heap.get? (‹d›+1) with
  |none=>rfl
  |some o=>
   let#[o',q']:=m.base.there _ o z (by rw[F.ex];simp)
   erw[U] at q'
 let J:=m.newx (C:=C) (ea:=‹d›+1) (h':=P3 d.heap C [u]) kk U #[_,_,e1,Z,Z,Z,Z,Z];generalize a0:‹d›+1=a at *;let r2:ZR [V.ref a,y] [Value.ref a,u]:=.cons Z (.cons R .nil);let G:NS X.K C N f [V.ref a,y] (upd l a (XO Qq a C Y')) (λv H2=>v=.non/\∃ i,H2=upd (upd l i (.xd [(f,y)])) a (XO Qq a C (Z' i))/\l i=Y'/\i≠a) E0:=by
  show#[c,_,y,Z,ZP,λi hd B=>#[Z,i,?_,?_,B]]
  .funext b
   by_cases z:b=a
   .rw[z,ZP,ZP]
   .rw[ZM z,ZM z];by_cases S:b=i
    .rw[S,ZP,ZP]
    .rw[ZM S,ZM S,ZM z]
  .rw[ZM B] at hd;show hd
 let hl:↑([Value.ref a,u]++([]:je))=↑Q:=by
  let e:=↑r2;rw[T.len _ _ _ _ G] at e;show e.symm
 show wpAny_call (codeAny_mono (T.run _ X.stack _ _ #[[Value.ref a,u],[]] _ _ _ E0 (hr.make C [u] []) (J.env0.make C [u] []) (hb _ [Value.ref a,u] J.kIn hl) r2 G) λr s' j=>?_)
 cases r with
 |error e=>show(YX kE σ _ _ e s' J j)
 |ok fl=>
  cases fl with
  |ret u2=>
   let#[v,H',M,rv,ev,i,eH,nd,ne]:=J.after j;subst ev eH;exists rv,a,Z' i,Z,M.kIn,(M.hok a _ ZP).1;let hn:upd l i (.xd [(f,y)]) a=Y':=#v[ZM (Ne.symm ne),h0]
   show Dc F (M.untrack hn) L hn (M.hok a _ ZP).1 (q i nd)
  |next=>show False.elim j
  |brk=>show False.elim j
  |cont=>show False.elim j
end
def Dw(K:zZ)(e:aj)(i:Nat)(g:TS)(D:Y1)(h:St):XK:=λcls f d=>∃ C,cls=.ref C/\yU K C (!e)\true/\∀ c,d c=Y' ->
 g { nx:=λa b=>D.nx (a.set i Y') b,rt:=D.rt,bk:=λa b=>D.bk (a.set i Y') b,ct:=λa b=>D.ct (a.set i Y') b } (h.set i (Z' !c)) (upd d c (XO Pj c C f))
def KB{X:Cx}{d:jw}{p:St}{H i:Hp}{s g:ak}{t:aj}{u:jB}{B f:aD}{cls:ai}(I:ZF X d p H s)(W:UG X.prog X.w X.stack H s t cls u i g)(YW:∀ b o,g.heap.get? b\o->i b≠Y'->B.get? b\o)(k:∀ b o,s.heap.get? b\o->H b=Y'->b∉frs X.stack->B.get? b\o)(j:∀ b o,s.heap.get? b\o->b∉frs X.stack->∃ h,B.get? b\h)(m:B.StaysIn f)(v:g.heap.UpToSlots f):
  ZF X d p i { g with heap:=f }:=by
 let c:∀ b o,s.heap.get? b\o->b∈frs X.stack->∃ l,f.get? b\{ o with slots:=l }:=λb o q a=>by
  let#[l,e]:=W.un.slot b o q (I.stkFree b a) a ⋯
  let#[c,r]:=v b _ e (λx z=>JZ I b a o q x z);show#[c,r]
 show I.call' (s':={ g with heap:=f }) W.os #[λb o q n a _=>m b o (k b o q n a),λb o q n a _=>c b o q a,W.un.free,λb o q _=>?_,W.un.tups,W.un.frzs,W.un.tbls] (W.hok.keptT λb o q n=>m b o (YW b o q n)) W.bare (λb a=>mZ a ⋯)
 by_cases a:b∈frs X.stack
 .let#[l,e]:=c b o q a;show#[_,e]
 .let#[h,e]:=j b o q a;show#[h,m b h e]
def Zj.okD{x b:Str}{g:aC}{f:aj}{n:ao}{N l:jv}{k:Nat}{m:Sp}(F:Zj K x b g f n)(S:ZA N l (Zd g))(j:∀ e H Q E,m e H Q E->↑e=↑l)(d:∀ (c:ai) (A:ax) (a:jF) (s:ak) (H:Hp) (e:jf) (Q:VK) (E:XK),Za k (A.deeper (envOfC b (Zd g) ‹s› f c))->m e H Q E ->
   let X:=(Vn (Z8 P w) P w K mg kF N b (Zd g) f c A a s H E);∃ t,Wc X (WE g) t/\t { nx:=λ_ o=>Q .non o,rt:=Q } (start N e) H):-ZL (Z8 P w) (k+1) f n l m:=by
 let#[y,z,kV,p,B,v,c,ct,u,rfl,r,h]:=F.ex;show GJ r h S j λA a s H e Q E q i=>d c A a s H e Q E q i
def Zj.kD{x a:Str}{g:aC}{f:aj}{m:ao}{N j:jv}{k:Nat}{l:Sp}(F:Zj K x a g f m)(S:ZA N j (Zd g))(b:∀ (e:ai) (A:ax) (c:jF) (s:ak) (H:Hp) (d:jf) (Q:VK) (E:XK),Za k (A.deeper (envOfC a (Zd g) ‹s› f e))->l d H Q E ->
   let X:=(Vn (Z8 P w) P w K mg kF N a (Zd g) f e A c s H E);∃ t,Wc X (WE g) t/\t { nx:=λ_ n=>Q .non n,rt:=Q } (start N d) H)(i:∀ d H Q E,l d H Q E->↑d=↑j:=by intro d _ _ _ h;cases h;(try subst d);rfl):-ZL (Z8 P w) (k+1) f m j l:=F.okD S i b
noncomputable def Kv(P:am)(w:aw)(K:zZ)(mg:jc)(kF:aD)(N:jv)(qual:Str)(scope:aE)(f:aj)(cd:ai)(cl:jG)(A:ax)(outer:jF)(s:ak)(H:Hp)(E:XK):Cx where
 prog:=P
 w:=w
 K:=K
 mg:=mg
 base:=kF
 A:=A.deeper (vH qual scope ‹s› f cd cl)
 N:=N
 s₀:=s
 H₀:=H
 env:=vH qual scope ‹s› f cd cl
 outer:=outer
 stack:=vH qual scope ‹s› f cd cl::outer
 ex:=[]
 calm:=true
 fn:=λ_=>false
 pn:=[]
 xe:=λe s'=>aB (aA P w) (A.deeper (vH qual scope ‹s› f cd cl)) (leaving (vH qual scope ‹s› f cd cl) e) (λ_ s''=>Z8 P w outer H s E e s'') (λe' s''=>Z8 P w outer H s E e' s'') s'
def yj{N:jv}{qual:Str}{scope:aE}{f:aj}{cd:ai}{cl:jG}{A:ax}{outer:jF}{s:ak}{H:Hp}{E:XK}:Vh (Kv P w K mg kF N qual scope f cd cl A outer s H E) E:=#[Z,Z,Z,Z,λ_ _ h=>h]
def Et{d:jF}{i:jx}{H:Hp}{s v:ak}{E:XK}{e:ai}(C:Wj P w K mg kF A d s H)(t:∀ c∈i,∃ o,H c\XF c o)(h:Z8 P w d (unT i H) s (λc o y=>(∀ F∈i,y F=Y')->E c o (reT i H y)) e v):Z8 P w d H s E e v:=by
 let#[D,cls,L,x,rfl,W,q]:=h;let#[B,G,YW,m,u]:=W.ex;let p:∀ c∈i,c∉frs d:=λc a z=>by
  let#[o,e]:=t c a;erw[C.frf c z] at e
 let f:∀ c∈i,∃ o,H c\XF c o/\s.heap.get? c\o/\v.heap.get? c\o:=λc a=>by
  let#[o,e]:=t c a;let g:=C.hok.obj e;show#[o,e,g,W.un.keep c o g (Qu a) (p c a) ⋯]
 let J:∀ c∈i,x c=Y':=λc a=>by
  let#[o,l,j,k]:=f c a;show W.un.free c o j (Qu a) ⋯
 show#[D,cls,L,reT i H x,Z,#[#[B,G,λb o r n=>?_,λb o r n I=>m b o r (Om n) I,u],W.os,W.bare,Ck W.un t,W.hok.reT (λc a=>?_) (λc a=>?_),W.new,?_],q J]
 .by_cases z:b∈i
  .let#[M,l,j,k]:=f b z;erw[r] at k;show m b o j (Qu z) (p b z)
  .rw[US z] at n;show YW b o r n
 .let#[o,l,j,k]:=f c a;show W.un.free c o j (Qu a) ⋯
 .let#[o,l,j,k]:=f c a;show#[o,l,k]
 .rw[US λz=>?_];show W.free;let#[o,l,j,k]:=f D z;erw[W.new] at j
def yc{k:Nat}{f c':aj}{co:aI}{qual:Str}{params:Arguments}{body:Expr}{scope:aE}{cl:jG}{pm ctv:ai}{N:jv}{spB:Sp}(hinj:∀ x y c,cl.lookup x\c->cl.lookup y\c->x=y)(hhas:∀ x,(scope.names.lookup x\.cell\/scope.names.lookup x\.free)->∃ c,cl.lookup x\c)(hin:∀ x c,cl.lookup x\c->c∈cl.map (·.2))(hvis:∀ x∈N,scope.names.lookup x\.free)(jn:scope.kind=.function)(hco:scope.isCoroutine=false)(hgen:scope.isGenerator=false)(hnc:∀ x∈scope.names,x.2≠.cell)(hcd:VR co qual)(hbody:∀ (A:ax) (outer:jF) (s:ak) (H:Hp) (ws:jf) (Q:VK) (E:XK),Za k (A.deeper (vH qual scope ‹s› f (!c') cl))->spB ws H Q E ->
   ∃ t,PE (Kv P w K mg kF N qual scope f (!c') cl A outer s H E) body t/\t (ws.map Z') H Q):
  ZL P w K mg kF (Z8 P w) (k+1) f (PySem.W.kla_fn "<lambda>" qual params body scope cl pm (!c') ctv) []
   (FN f c' (vQ "<lambda>" qual params body scope cl pm c' ctv) co cl N spB):=by
 exists λvs H Q E h=>by rw[h.1];rfl
 intro A outer s H args us vs Q E hr e0 hb r hsp;let#[rfl,hf,hc,ws,hcl,hB]:=hsp;cases ZR.zero r;let lim:s.heap.NoLimit:=e0.mod.nolimit.keeps λb o e=>(e0.bs b o e).1;let hcs:∀ c∈cl.map (·.2),∃ o,H c\XF c o:=λc hc=>by
  let#[o,v,e,_]:=hcl.all c hc;show#[o,e]
 let hrec:s.heap.CodeRec (!c') qual:=by
  let#[vs',t,d,v1]:=hcd;show#[c',co,vs',t,Z,e0.hok.obj hc,d,v1]
 show PySem.W.kla_callFunE hr.depth (e0.hok.obj hf) Z hco hgen Z hrec (hb _ _ _ _ ?_);show wpAny_newFunctionEnv hnc (λx hx=>mZ hx ⋯) (λh₁ hns hsb=>#[lim.fresh _ hsb,?_]) jn
 let hk₁:∀ b o,s.heap.get? b\o->h₁.get? b\o:=λb o e=>hsb.extBut b o (zJ (zU e)) (zS _ e);let#[t,ht,hq]:=hbody A outer s (unT (cl.map (·.2)) H) ws _ _ (hr.deeper _) hB;let noA:∀ b:aj,b∉(Kv P w K mg kF N qual scope f (!c') cl A outer s (unT (cl.map (·.2)) H) (λc o H2=>(∀ c∈cl.map (·.2),H2 c=Y')->E c o (reT (cl.map (·.2)) H H2))).ex:=λb z=>mZ (show b∈([]:jx) from z) ⋯
 let I:ZF (Kv P w K mg kF N qual scope f (!c') cl A outer s (unT (cl.map (·.2)) H) (λc o H2=>(∀ c∈cl.map (·.2),H2 c=Y')->E c o (reT (cl.map (·.2)) H H2))) [] (ws.map Z') (unT (cl.map (·.2)) H) { s with heap:=h₁,toks:=s.toks+0 }:=by
  show#[#[e0.mod,jn,Z,Z,zY _,hinj,hhas,λ_ _ z=>mZ z zN,λ_=>hr.hd,Around.frames_deeper e0.frames,.inr #[Z,Z],λb z=>mZ z (noA b),λb o e=>#[(e0.bs b o e).1,Om (e0.bs b o e).2],e0.bsz,λb _ _=>noA b,λb z=>mZ z (noA b),e0.funs,λb hb=>Om (e0.frf b hb)],
   Z,e0.bare,Un.kept hk₁,#[_,hns,λi x v h1 h2 h3=>?_],λx c e=>?_,Om (e0.hok.fresh (zY _)),λx c e=>Qu (hin x c e),λp hp=>mZ (show p∈([]:jw) from hp) ⋯,(e0.hok.unT hcs).kept hk₁,?_]
  .let h2':ws[i]?\v:=by
    rw[zO] at h2
    cases e:ws[i]? with
    |none=>erw[e] at h2
    |some a=>erw[e] at h2;rfl
   let#[c,o,u,e1,e2,e3,e4,rv]:=hcl.val i x v h1 h2';show#[u,rv,.inr #[.inr (hvis x (yY h1)),c,e1,o,hk₁ _ _ (e0.hok.obj e3),e4]]
  .let#[o,v,e3,e4]:=hcl.all c (hin x c e);show#[v,o,hk₁ _ _ (e0.hok.obj e3),e4]
  .change ↑(ws.map Z')=↑N;rwa[zX,hcl.len]
 show PySem.W.kla_codeExpr (ae (ht [] _ _ _ _ I hq) (λu s' hs=>?_) λe s' hs=>?_)
 .let#[v,H2,J,rv,q]:=hs;let u2:Un (frs outer) [] (unT (cl.map (·.2)) H) H2 s.heap s'.heap:=J.base;let nfr:∀ c∈cl.map (·.2),c∉frs outer:=λc hc' z=>by
   let#[o,e]:=hcs c hc';erw[e0.frf c z] at e
  let n2:∀ c∈cl.map (·.2),H2 c=Y':=λc hc'=>by
   let#[o,e]:=hcs c hc';show u2.free c o (e0.hok.obj e) (Qu hc') ⋯
  show#[v,_,J.os,J.bare,Ck u2 hcs,J.hok.reT n2 (λc hc'=>by
   let#[o,e]:=hcs c hc';show#[o,e,u2.keep c o (e0.hok.obj e) (Qu hc') (nfr c hc') ⋯]),rv,q n2]
 .show ae hs (λ_ s'' z=>Et e0 hcs z) λe' s'' z=>Et e0 hcs z
def Ai(K:zZ)(b:aj)(e:Sp)(q:Nat)(f:aj)(j i:Nat)(g:TS):TS:=λD a H=>a[q]?\Z' (!f)/\(∃ d:ao,H f\XF f { cls:=.type "function",data:=.func d })/\e [] H (λv c=>D.nx (a.set j (Z' v)) c) (Dw K b i g D a)
def pA{X:Cx}{k:Nat}{f CB:aj}{fd:ao}{sp:Sp}{x y n:Str}{p P Q py ph pos:aJ}{j i q:Nat}{n0:Str}{p0:aJ}{l:aC}{b:jQ}{ts:TS}(F:ZL X.prog X.w X.K X.mg X.base (Z8 X.prog X.w) k f fd [] sp)(hr:Za k X.A)(hb:∀ s,BindsTo s fd #[[],[]] [])(Y:X.N[q]?\x)(hv:K2 X.env.scope x)(a3:X.stack=X.env::X.outer)(c3:X.env.frame\X.env.locals)(c2:X.ex=[])(hy:Gl X y)(c7:X.mg y\!CB)(hN:X.N.Nodup)(hi:X.N[i]?\n)(hn:X.env.scope.names.lookup n\.local)(ht:xX X.K (!CB)\.type "type")(hB:yU X.K CB (.type "BaseException")\true)(hs:∀ d E',Wc (X.held d E') (l::b) ts)(hj:X.N[j]?\n0)(a2:X.env.scope.names.lookup n0\.local)(c0:(x==("__debug__":Str))=false:=by decide)(a9:(x==("__classdict__":Str))=false:=by decide)(c1:(y==("__debug__":Str))=false:=by decide)(c6:swapsWith (.Call (.Name x p) [] [] P) (Z' (.Name n0 p0)) Q.line X.env=pure false:=by rfl):
  PS X (.Try [.Assign [.Name n0 p0] (.Call (.Name x p) [] [] P) Q] [.ExceptHandler (Z' (.Name y py)) (Z' n) (l::b) ph] [] [] pos) (Ai X.K CB sp q f j i ts):=by
 intro a s σ H D I h;show wpAny_Try_except ?_;let c4:X.A.frames\(X.env::X.outer):=by rw[I.ok.frames,a3]
 let a0:∀(M:Hp)(s1:ak)(E:ai)(t:ak),ZF X a σ M s1->Z8 X.prog X.w X.stack M s1 (Dw X.K CB i ts D σ) E t ->
   aB ↥X X.A (noteFrame E X.env) (λ_ G=>aB ↥X X.A (setFlight E Y') (λ_ L=>aB ↥X X.A (handleBy E X.env [.ExceptHandler (Z' (.Name y py)) (Z' n) (l::b) ph]) (SP X a D) X.xe L) X.xe G) X.xe t:=by
  intro M s1 E t g hx;let#[d,cls,od,H',rfl,W,C,rfl,mC,q]:=hx;let#[B,fl,YW,a5,a4]:=W.ex;let a8:WA B (X.env::X.outer) d (!C) od .none t.heap:=by rwa[<-a3,fl]
  show Kl c4 c3 a8 λh4 V a6=>?_;show OE (s:={ t with heap:=h4 }) V λh5 U a7=>?_;let J5:ZF X a σ H' { t with heap:=h5 }:=KB g W YW a5 a4 U.1 (a6|||a7);show wpAny_handleBy_cons (codeAny_handlers_test ?_) (by intro q;cases q)
  show Pq (J5.held d (λ_ _=>False)) hy c7 ?_ c1;show Fl (s:={ t with heap:=h5 }) J5.kIn U.at.is ht hB mC ?_;show codeAny_handlers_suite_as ?_;show OE (s:={ t with heap:=h5 }) U λh6 fl6 e0=>?_;let J6:ZF X a σ H' { t with heap:=h6 }:=KB g W YW a5 a4 fl6.1 ((a6|||a7)|||e0);let n0:X.s₀.heap.get? d=Y':=by
   cases z:X.s₀.heap.get? d with
   |none=>rfl
   |some o=>
    let#[o',q']:=g.base.there d o z (by rw[c2];simp)
    erw[W.new] at q'
  let n1:d≠X.env.locals:=λz=>by
   let#[m,#[o,_,_,O,_],_]:=g.loc;erw[<-z,W.new] at O
  let n2:∀ x c,X.env.cells.lookup x\c->c≠d:=λx c e z=>by
   let#[v,o,O,_]:=g.cell x c e;erw[z,W.new] at O
  let n3:∀ p∈X.pn++a,p.1≠d:=λp hp z=>by
   let O:=(g.pin p hp).1;erw[z,W.new] at O
  let K6:ZF X a σ (upd H' d (XO Pj d C od)) { t with heap:=h6 }:=J6.track n0 n1 n2 n3 W.free (Hz fl6.at);show KU K6 hN hi (.inl hn) (v:=!d) Z (λs7 I7=>?_) (.inr hn);show ae (hs d _ a s7 _ _ _ (I7.held d _) (q d W.free)) (λfl s8 h8=>?_) λ_ _ z=>z
  cases fl with
  |next=>
   let#[a1,R,T,q8]:=h8;show(T.unheld g.ok).goes hN hi hn λs9 S=>#[_,R,S,q8]
  |brk=>
   let#[a1,R,T,q8]:=h8;show(T.unheld g.ok).goes hN hi hn λs9 S=>#[_,R,S,q8]
  |cont=>
   let#[a1,R,T,q8]:=h8;show(T.unheld g.ok).goes hN hi hn λs9 S=>#[_,R,S,q8]
  |ret u=>
   let#[v8,a1,R,T,r8,q8]:=h8;show(T.unheld g.ok).goes hN hi hn λs9 S=>#[v8,_,R,S,r8,q8]
 let#[c8,#[e1,hf],c5]:=h;show wpAny_execs_cons (wpAny_Assign_Name ?_ c6);let I':=I.wish (λE t=>aB ↥X X.A (noteFrame E X.env) (λ_ G=>aB ↥X X.A (setFlight E Y') (λ_ L=>aB ↥X X.A (handleBy E X.env [.ExceptHandler (Z' (.Name y py)) (Z' n) (l::b) ph]) (SP X a D) X.xe L) X.xe G) X.xe t);let c9:∀ E',PE (X.wish E') (.Name x p) (QA q):=λE'=>Cc (X:=X.wish E') Y hv c0 a9;show ag (Z0 (c9 _ a s σ H (λv M=>v=.ref f/\M=H) I' #[_,c8,Z,Z]) ?_);rintro u s1 ⟨v,M,g,r,E,eH⟩;subst E;subst eH;cases r;let gf:=g.hok.obj hf;show PySem.W.callWith_F0 #[_,_,_,_,gf] ?_;show wpAny_call (codeAny_mono (F.run X.A X.stack s1 M #[[],[]] [] [] _ _ hr g.unwish.env0 (hb s1) .nil c5) λrr t Y=>?_)
 cases rr with
 |error E=>show a0 M s1 E t g.unwish Y
 |ok fl=>
  cases fl with
  |ret u=>
   let#[v,H2,J,rv,q2]:=g.unwish.after Y;show KU J hN hj (.inl a2) rv (λs2 I2=>wpAny_execs_nil (wpAny_execs_nil #[_,H2,I2,q2])) (.inr a2)
  |next=>show False.elim Y
  |brk=>show False.elim Y
  |cont=>show False.elim Y
def BM{e:ai}{env env':Env}(h:env.frame=env'.frame):noteFrame e env=noteFrame e env':=by
 unfold noteFrame PySem.frameOf;rw[h]
section
variable{M:Model}
end
theorem CQ{a h f:aD}:∀{l:jF},h.FunFrames a l->(∀ b∈frs l,f.get? b=h.get? b)->f.FunFrames a l
 |[],_,_=>trivial
 |c::l,⟨hk,⟨L,o,hf,hn,ho,hd⟩,hr⟩,k=>#[hk,#[L,o,hf,hn,(k L (uZ.mpr #[c,zT,hf]))|||ho,hd],CQ hr λb d=>k b (by
   let#[e,g,d]:=uZ.mp d;show uZ.mpr #[e,zE _ g,d])]
section
variable{kE:jw}{σ:St}{H:Hp}{E E1:XK}
end
section
variable{M:Model}{B:aD}{env:Env}{outer l:jF}{L e:aj}{cls:ai}{od:jB}{Q:Unit->ak->Prop}
def wj{G:ai}{i:jB}(x:WA B l e cls od G s.heap)(h:∀ k,WA B l e cls od (i.elim .none λf=>rawInt f) k->s.heap.UpToSlots k->Q .unit { s with heap:=k }):aB M A (setFlight (!e) i) Q E s:=by
 let#[I,D,F,H,K,T,O,u,#[r,w,y,p,v],TB,m,j,g,J,C]:=x;let t:3<u.size:=(vK.mp J).1;let a:∀ b,b≠T->(s.heap.update T (Obj.mapFields (·.setIfInBounds 3 (i.elim Value.none λf=>rawInt f)))).get? b=s.heap.get? b:=λb n=>xV _ _ n.symm;let c:∀ b o,s.heap.get? b\o->(∀ N,o.data≠.fields N)->b≠T:=λb o q d z=>by
  erw[z,j] at q;show d u g
 unfold setFlight;show aa (wpAny_field r p v ?_);rw[aP (show (Value.ref T != Value.none)=X' by simp)]
 show wpAny_setField j g t (h _ #[λb o q=>(a b λz=>by erw[z,TB] at q)|||I b o q,D,F.of_keeps λb o q d=>#[o,(a b (c b o q d))|||q,Z],?_] λb o q d=>#[o.slots,(a b (c b o q d))|||q])
 show#[H,K,T,_,_,#[(a e m.symm)|||r,w,y,p,v],TB,m,wC _ j (Obj.isFreed_of_fields (Obj.data_mapFields g _)),Obj.data_mapFields g _,by simp[t],C]
def Ao{u:ai}(R:A.frames\(env::outer))(r:env.frame\L)(x:WA B (env::outer) e cls od u s.heap)(h:∀ d,WA B outer e cls od .none d->s.heap.UpToSlots d->Q .unit { s with heap:=d }):aB M A (leaving env !e) Q E s:=by
 by_cases J:u=rawInt L
 .subst J;let x0:=x;let#[K,H,I,W,vs,T,V,w,#[k,D,F,j,p],TB,C,i,g,m,G]:=x;unfold leaving noteFrame;simp only[r];show aa (aa (wpAny_field k j p ?_));rw[aP (show (Value.ref T != Value.none)=X' by simp)]
  show aa (wpAny_field i g m ?_);rw[aP ⋯]
  show ad (OE x0 λd t y=>h d t.less y)
 .let#[K,H,I,W,vs,T,V,w,#[k,D,F,j,p],TB,C,i,g,m,G]:=x;subst D F;let U:3<w.size:=(vK.mp m).1;let a:∀ b,b≠T->(s.heap.update T (Obj.mapFields (·.setIfInBounds 3 Value.none))).get? b=s.heap.get? b:=λb n=>xV _ _ n.symm;let c:∀ b o,s.heap.get? b\o->(∀ ws,o.data≠.fields ws)->b≠T:=λb o q f z=>by
   erw[z,i] at q;show f w g
  unfold leaving noteFrame;simp only[r];show aa (aa (wpAny_field k j p ?_));rw[aP (show (Value.ref T != Value.none)=X' by simp)]
  show aa (wpAny_field i g m ?_);rw[aO (show ¬ ((u==rawInt L)=X') from λz=>J (eq_of_beq z))];show aa (wpAny_setField i g U ?_);show JH (s:={ s with heap:=_ }) R (I.of_keeps λb o q f=>#[o,(a b (c b o q f))|||q,Z]) r ((a e C.symm)|||k) (λb o q=>(a b λz=>by erw[z,TB] at q)|||K b o q) H j (vK.mp p).1 G λd P Y=>?_
  show OE (s:={ s with heap:=d }) P λS t y=>h S t.less λb o q f=>?_;let#[X,N]:=Y b o ((a b (c b o q f))|||q) f;let#[v,O]:=y b { o with slots:=X } N f;show#[v,O]
end
section
variable{kE:jw}{σ:St}{H:Hp}{E E1:XK}
def oq{N:jv}{f:aE}{cl:jG}{fp:jx}{U:ai}{Q:ja}{R:Option (ai->Sem Unit)}{C:aj}(F:Vh X E)(hE:∀ cls o H,E1 cls o H->E cls o H)(I:ZF X kE σ H s)(hf:∀ b∈fp,VS X kE H b)(hC:‹s›<=C):
  VW (Z8 X.prog X.w) (Ym X N f cl C s H fp (notedBy ↥X X.A (compEnvC f cl C X.env) (λe L=>compPost ↥X X.A X.xe R Q U C (.error e) L))) E1:=by
 intro pc l2 Hc sc e L Ic h;let#[x,cls,od,H',rfl,W,q]:=h;let#[B,fl,YW,i0,e9]:=W.ex;let e8:(Ym X N f cl C s H fp (notedBy ↥X X.A (compEnvC f cl C X.env) (λe L=>compPost ↥X X.A X.xe R Q U C (.error e) L))).stack=X.env::X.outer:=F.stack;let fl:WA B (X.env::X.outer) x cls od .none L.heap:=e8▸fl;let a9:X.A.frames\(X.env::X.outer):=by rw[I.ok.frames,F.stack]
 change aB ↥X X.A (noteFrame (!x) (compEnvC f cl C X.env)) _ _ L;rw[BM (env:=compEnvC f cl C X.env) (env':=X.env) rfl];show Kl a9 F.frame fl λh4 a0 c4=>?_;let#[m,hn,_]:=Ic.loc;let hn:sc.heap.Ns C m:=hn;let J:Hc C=Y':=Ic.free;let c3:C∉frs X.stack:=λz=>by
  let#[_,t,g,_]:=I.stack.mem z;show mZ (zU g) (vZ.mpr hC)
 let c0:h4.Ns C m:=by
  let#[o,es,ep,S,r]:=hn;show c4.ns #[o,es,ep,W.un.keep C o S J c3 ⋯,r]
 change compPost ↥X X.A X.xe R Q U C (.error !x) { L with heap:=h4 }
 suffices hh:∃ m,h4.Ns C m/\∀ h',vV C h4 h'->∀ G:Env,G.locals=C->aB ↥X X.A (PySem.passOn "comprehension.variables-let-go" (!x) G:Sem ai) (λ_ _=>False) X.xe { L with heap:=h' } by
  cases R with
  |none=>show hh
  |some u=>show hh
 exists m,c0;intro h5 sb G _;let#[k1,k2,k3,k4]:=a0
 let' B':=vB B [C]
 let hB:∀ b o,B'.get? b\o->B.get? b\o/\b≠C:=λb o e=>by
  exists sY _ e;intro z;have:B'.get? C=Y':=rC _ ⋯
  erw[z,this] at e
 let O:∀ b o,B.get? b\o->b≠C->B'.get? b\o:=λb o e n=>rH _ e #v[n]
 let i6:B'.StaysIn h5:=λb o e=>by
  let#[j,n]:=hB b o e;show(sb.2 b n).trans (k1 b o j)
 let c5:B'.get? x=Y':=by
  cases z:B'.get? x with
  |none=>rfl
  |some o=>erw[(hB _ _ z).1] at k2
 let i1:∀ b,B.get? b=Y'->B'.get? b=Y':=λb z=>by
  cases y:B'.get? b with
  |none=>rfl
  |some o=>erw[(hB _ _ y).1] at z
 let M:∀ b o,h4.get? b\o->b≠C->h5.get? b\o:=λb o e n=>(sb.2 b n)|||e;let i7:B'.StaysIn B:=λb o e=>(hB b o e).1;let nC:∀ b∈frs (X.env::X.outer),b≠C:=λb i z=>c3 (by rw[F.stack];rwa[<-z,i])
 let c6:h5.FunFrames B' (X.env::X.outer):=CQ (PySem.W.funFrames_base i7 k3) λb i=>sb.2 b (nC b i);let a4:x≠C:=λz=>by
  let#[o,es,ep,S,_]:=hn;erw[<-z,W.new] at S
 let#[oe,vs,T,oT,ts,#[he,a8,c8,hd,h1],e0,c7,hT,Y,h3,cx]:=k4;let TC:T≠C:=λz=>by
  let#[o,es,ep,S,c9,_]:=c0;erw[z,S] at hT;erw[c9] at Y
 let a6:WA B' (X.env::X.outer) x cls od (rawInt X.env.locals) h5:=#[i6,c5,c6,oe,vs,T,oT,ts,#[M _ _ he a4,a8,c8,hd,h1],i1 T e0,c7,M _ _ hT TC,Y,h3,cx.imp id λz C' t cd j k=>z C' t cd j (hB _ _ k).1];unfold PySem.passOn;show aa (wpAny_field (M _ _ he a4) hd h1 ?_);rw[aO (show ¬ ((Value.ref T==Value.none)=X') from by simp)]
 show aa (wj (s:={ L with heap:=h5 }) a6 λh6 a7 k4=>?_);show wpAny_throw (F.xe _ _ ?_);show Ao (s:={ L with heap:=h6 }) a9 F.frame a7 λh7 a5 i4=>?_;let a:=I.base;rw[F.ex] at a;let c:Un (frs X.stack) fp H Hc s.heap sc.heap:=Ic.base;let D:∀{b o},X.s₀.heap.get? b\o->b∉fp:=fun{b o} e z=>by
  let#[_,_,_,z3,_]:=hf b z;rw[F.ex] at z3;rcases z3 with z3|z3
  .simp at z3
  .show mZ (zU e) (vZ.mpr z3)
 let K:∀{b o},X.s₀.heap.get? b\o->b≠C:=fun{b o} e z=>by
  show mZ (zU e) (vZ.mpr #v[z,zR I.sz hC])
 let i5:∀ b o,L.heap.get? b\o->(∀ vs,o.data≠.fields vs)->b≠C->∃ sl,h7.get? b\{ o with slots:=sl }:=λb o e a1 n=>by
  let#[sl,e4]:=c4 b o e a1;let e5:=M b _ e4 n;let#[l1,e6]:=k4 b _ e5 a1;let#[i3,e7]:=i4 b _ e6 a1;show#[i3,e7]
 let l:∀ b o,X.s₀.heap.get? b\o->X.H₀ b=Y'->b∉frs X.outer->B.get? b\o/\H' b=Y':=λb o e n i=>by
  let nb:=F.off I e i;let j:=a.keep b o e n i ⋯
  let n1:=a.free b o e n ⋯
  let k:=c.keep b o j n1 nb (D e);let n2:=c.free b o j n1 (D e);show#[i0 b o k n2 nb,W.un.free b o k n2 ⋯]
 let v:∀ b o,X.s₀.heap.get? b\o->b∉frs X.outer->∃ t,B.get? b\t:=λb o e i=>by
  let nb:=F.off I e i;let#[o1,j]:=a.there b o e ⋯
  let#[o2,k]:=c.there b o1 j (D e);show e9 b o2 k nb
 let P:∀ b o,B.get? b\o->b≠C->h7.get? b\o:=λb o e n=>a5.1 b o (O b o e n);let p:∀ b o,X.s₀.heap.get? b\o->X.H₀ b=Y'->b∈frs X.outer->(∃ sl,h7.get? b\{ o with slots:=sl })/\H' b=Y':=λb o e n i=>by
  let#[i2,j]:=a.slot b o e n i ⋯
  let n1:=a.free b o e n ⋯
  let V:b∈frs X.stack:=#v[F.frs,zE _ i]
  let#[i9,k]:=c.slot b _ j n1 V (D e);let n2:=c.free b _ j n1 (D e);let#[l0,e3]:=W.un.slot b _ k n2 V ⋯
  let n3:=W.un.free b _ k n2 ⋯
  let#[_,t,g,d]:=I.stack.mem V;let a3:s.heap.get? b\{ o with slots:=i2 }:=j;erw[g] at a3;let#[sl,e7]:=i5 b _ e3 (λvs z=>d vs z) (K e);show#[#[sl,e7],n3]
 let i8:Un (frs X.outer) [] X.H₀ H' X.s₀.heap h7:={
  keep:=λb o e n i _=>P b o (l b o e n i).1 (K e)
  slot:=λb o e n i _=>(p b o e n i).1
  free:=λb o e n _=>by
   by_cases i:b∈frs X.outer
   .show(p b o e n i).2
   .show(l b o e n i).2
  there:=λb o e _=>by
   by_cases i:b∈frs X.outer
   .let#[#[sl,z],_]:=p b o e (I.ok.frf b i) i;show#[_,z]
   .let#[t,z]:=v b o e i;show#[t,P b t z (K e)]
  tups:=λb xs e=>W.un.tups b xs (c.tups b xs (a.tups b xs e))
  frzs:=λb o u e=>W.un.frzs b o u (c.frzs b o u (a.frzs b o u e))
  tbls:=λb ps e=>by
   let#[m1,j]:=a.tbls b ps e;let#[m2,k]:=c.tbls b _ j;let#[m3,e3]:=W.un.tbls b _ k;show#[m1++m2++m3,by rw[e3,uB,uB,uB]] }
 let a2:∀ b,H' b≠Y'->b≠C:=λb n z=>by
  let#[o,es,ep,S,_]:=hn;show n #v[z,W.un.free C o S J ⋯]
 let c2:X.s₀.heap.get? x=Y':=by
  cases z:X.s₀.heap.get? x with
  |none=>rfl
  |some o=>
   let#[o1,j]:=a.there x o z ⋯
   let#[o2,k]:=c.there x o1 j (D z);erw[W.new] at k
 let c1:∀ b o,h7.get? b\o->H' b≠Y'->B'.get? b\o:=λb o e n=>by
  let#[t,q']:=W.hok.there n;let j:=YW b t q' n;let k:=P b t j (a2 b n);erw[e] at k;show O b o j (a2 b n)
 show#[x,cls,od,H',Z,#[#[B',a5,c1,λb o e n i=>O b o (l b o e n i).1 (K e),λb o e i=>by
   let#[t,z]:=v b o e i;show#[t,O b t z (K e)]],(W.os|||Ic.os)|||I.os,W.bare,i8,W.hok.keptT (λb o e n=>P b o (YW b o e n) (a2 b n)),c2,W.free],hE _ _ _ q]
def Bt{CX:Wh}{elt iter:Expr}{x:Str}{px:aJ}{ifs:jC}{scope:aE}{cl:jG}{pos:aJ}{ix:jq}{ys:jv}{tt:TT}{te:TE}{it:aj}{a:jx}{tn:Nat->aD->Prop}{J:It}{Q:VK}{E:ja}{RR:ai->aj->Result->ak->Prop}{E1:XK}(hp:∀ D C:aj,‹s›<=C->VW CX (Ym X (x::ys) scope cl C s H a (notedBy ↥X X.A (compEnvC scope cl C X.env) (λe M=>RR (!D) C (.error e) M))) E1)(hc:X.calm=X')(ht:∀ C s H a E,Pk (Ym X (x::ys) scope cl C s H a E) ifs tt)(he:∀ C s H a E,VW CX (Ym X (x::ys) scope cl C s H a E) E1->PE (Ym X (x::ys) scope cl C s H a E) elt te)(sub:Ya X.env cl)(jn:scope.kind=.function)(hnd:(x::ys).Nodup)(hx:scope.names.lookup x\.local)(jp:∀ y∈scope.names,y.2≠.cell)(hhas:∀ y,((relabel scope X.env).names.lookup y\.cell\/(relabel scope X.env).names.lookup y\.free)->∃ c,cl.lookup y\c)(fo:YE X scope ix ys)(I:ZF X kE σ H s)(T:Vm X.prog X.w X.K (.Name x px) J a it tn)(st:tn 0 s.heap)(hf:∀ b∈a,VS X kE H b)(q:Wu J σ ix tt te H Q)(hRR:∀ D C M t m,‹s›<=C->ZF X kE σ t M->VS X kE t C->M.heap.Ns C m->Q (!D) t->RR (!D) C (.ok .next) M):
  aB ↥X X.A (newList []) (λa0 l=>aB ↥X X.A (newFunctionEnv scope X.env.globals cl [] X.env.qual Y' .none (Z' X.env)) (λO c0=>
   aG ↥X X.A (.compStart (.ListComp elt [#[.Name x px,iter,ifs,(0)]] scope pos) 0 (!it) a0 { O with scope:=relabel scope X.env }) (RR a0 O.locals) c0) E l) E s:=by
 show wpAny_newObj_type (wpAny_newFunctionEnv jp (by intro y hy;simp at hy) (λk h f=>?_) jn)
 dsimp only at h f⊢;generalize R:s.heap.push { cls:=.type "list",dict:=Y',data:=.seq ⇑([]:je) }=j at h f⊢;let hC:j.objs.size=‹s›+1:=by rw[<-R,vE]
 let a2:‹s›≠j.objs.size:=#v[hC,zJ (yA _)]
 let v:‹s›<=j.objs.size:=#v[hC,xW _]
 let below:∀ b,b<‹s›->b≠j.objs.size/\b≠‹s›:=λb g=>#[#v[hC,zJ (uQ g)],zJ g]
 let a6:∀ b o,s.heap.get? b\o->k.get? b\o:=λb o e=>f.extBut b o (below b (zU e)).1 (zS _ (R▸zS _ e));let F:∃ n,k.get? ‹s›\{ cls:=.type "list",data:=.seq ⇑([]:je) n }:=#[_,f.extBut _ _ a2 (zS _ (R▸yS _ Z))];let#[nD,F]:=F;let a3:∀ b∈a,VS X kE H b/\b<‹s›:=λb g=>#[hf b g,by let#[o,e,_]:=T.obj 0 _ st b g;show zU e]
 let c7:H ‹s›=Y':=I.hok.fresh (zY _);let#[W,#[m0,w0],c1]:=q _ c7;generalize hE:notedBy ↥X X.A (compEnvC scope cl j.objs.size X.env) (λe M=>RR (.ref ‹s›) j.objs.size (.error e) M)=z;let c8:VW CX (Ym X (x::ys) scope cl j.objs.size s H a z) E1:=hE▸hp ‹s› j.objs.size v;let a4:(relabel scope X.env).names.lookup x\.local:=lookup_relabel_local hx;let I0:ZF (Ym X (x::ys) scope cl j.objs.size s H a z) [] (Cm σ ix) (upd H ‹s› (.lst [])) { s with heap:=k,toks:=s.toks+↑([]:jO) }:=
  tz I a3 sub jn hhas fo (zY _) v a2 h a6 F
 let a7:tn 0 k:=T.keep _ _ _ st λb _ o e=>a6 b o e;let c5:∀ b∈a,upd H ‹s› (.lst []) b=Y':=λb g=>#v[ZM (below b (a3 b g).2).2,(hf b g).1]
 let G:∀{t:Hp},(∀ b∈a,t b=Y')->∀ b∈a,VS (Ym X (x::ys) scope cl j.objs.size s H a z) [] t b:=λhn b g=>
  #[hn b g,(I0.ok.exf b g).1,I0.ok.exfs b g,.inl g,(I0.ok.exf b g).2,λp hp=>mZ (show p∈([]:jw) from hp) ⋯]
 let P:∀ l:ak,l={ s with heap:=k,toks:=s.toks+↑([]:jO) } ->
   aG ↥X X.A (.compLoop (.ListComp elt [#[.Name x px,iter,ifs,(0)]] scope pos) 0 (!it) (.ref ‹s›) (compEnvC scope cl j.objs.size X.env)) (RR (.ref ‹s›) j.objs.size) l:=by
  rintro l rfl;show EJ (λn M=>∃ i L t,ZF (Ym X (x::ys) scope cl j.objs.size s H a z) [] L t M/\(∃ o,L=o::ix.map λi=>(σ[i]?).join)/\tn i M.heap/\(∀ b∈a,t b=Y')/\W i n t) ?_ m0 #[(0),_,_,I0,#[Y',Z],a7,c5,w0];rintro n s3 ⟨i,V,H3,I3,⟨o3,a5⟩,a8,a1,w3⟩;rw[hE];rcases c1 i n H3 w3 with ⟨a9,qn⟩|⟨go,step⟩
  .show Z0 (T.done (Ym X (x::ys) scope cl j.objs.size s H a z) Z Z Z hc i [] s3 V H3 z I3 (G a1) a8 a9) ?_;rintro r s4 ⟨hr,Y⟩;subst hr;let#[m4,c9,_]:=Y.loc;let Ix:ZF X kE σ H3 s4:=I.call' (s':=s4) (ch:=a) Y.os Y.base Y.hok Y.bare λb g=>by
    let#[_,z1,_,z3,z4,z5]:=hf b g;show#[z3,z1,z4,z5]
   show hRR _ _ s4 H3 m4 v Ix (I.fpOk v Y.free) c9 qn
  .show Z0 (T.item (Ym X (x::ys) scope cl j.objs.size s H a z) Z Z Z hc i [] s3 V H3 z I3 (G a1) a8 go) ?_;rintro r s4 ⟨u,hr,h4⟩;subst hr;show Z0 h4 ?_;rintro _ s5 ⟨xv,H5,I5,r5,y5,U,c6⟩;let c3:=I5.pinned (G c6) (T.obj _ _ U);let B:∀{N:St}{H7:Hp}{s7:ak}{S:Nat},ZF (Ym X (x::ys) scope cl j.objs.size s H a z) ([]++Nz a s5.heap) N H7 s7->(∃ o,N=o::ix.map λi=>(σ[i]?).join)->S<n->W (i+1) S H7 ->
     ∃ m,m<n/\∃ i L t,ZF (Ym X (x::ys) scope cl j.objs.size s H a z) [] L t s7/\(∃ o,L=o::ix.map λi=>(σ[i]?).join)/\tn i s7.heap/\(∀ b∈a,t b=Y')/\W i m t:=fun{N H7 s7 S} I7 e7 hm w7=>by
    show#[S,hm,i+1,N,H7,I7.unpinned,e7,T.keep _ _ _ U λb g o e=>(I7.pin (b,o) (yF _ (yF _ (Nn g e)))).1,λb g=>?_,w7];let#[o,e,d]:=T.obj _ _ U b g;show(I7.pin (b,o) (yF _ (yF _ (Nn g e)))).2.1
   let hg:PG (Ym X (x::ys) scope cl j.objs.size s H a z) (.Name x px) (QU 0):=Ob hnd Z (.inl a4) (.inr a4);show YH (hg _ s5 V H5 xv u (λc2 H6=>c2=NJ σ ix xv/\H6=H5) c3 r5 #[by rw[a5];rfl,Z]) λ_ s6 c2 H6 I6 e6 c4=>?_
   subst e6 c4;show Z0 (ht _ _ _ _ _ _ s6 _ _ _ I6 (step xv _ y5)) ?_;rintro ok s7 ⟨H7,I7,q7⟩
   cases ok with
   |false=>
    rw[aO zN] at q7⊢;let#[S,hm,w7]:=q7;show B I7 #[1] hm w7
   |true=>
    rw[aP rfl] at q7⊢;show Z0 (he _ _ _ _ _ c8 _ s7 _ _ _ I7 q7) ?_;rintro y s8 ⟨yv,H8,I8,r8,e0,S,e8,z8,hm,w8⟩;show YH (V9 _ s8 _ H8 (.ref ‹s›) [yv] (.ref ‹s›) [y] (λ_ H9=>W (i+1) S H9) I8 Z (.cons r8 .nil) #[_,e0,yv,Z,Z,e8,z8,w8]) λ_ s9 _ H9 I9 _ w9=>?_;show B I9 #[1] hm w9
 show codeAny_compStart_list (P _ Z) (T.self _ 0 _ _ _ a7 (P _ Z))
def Ay{d c:Expr}{x:Str}{z:aJ}{g:jC}{a:aE}{pos:aJ}{L:TI}{K:TT}{G:TE}(y:jq)(i:jv)(F:Vh X E)(hE:∀ cls o H,E1 cls o H->E cls o H)(hi:PI X (.Name x z) c L)(ht:∀ C s H f E,Pk (Ym X (x::i) a (X9 X.env a.names []) C s H f E) g K)(he:∀ C s H f E,VW (Z8 X.prog X.w) (Ym X (x::i) a (X9 X.env a.names []) C s H f E) E1->PE (Ym X (x::i) a (X9 X.env a.names []) C s H f E) d G)(W:YE X a y i)(hk:Ny X.env a.names=X':=by rfl)(k:Ou a x=X':=by rfl)(l:(x::i).Nodup:=by decide +kernel)(hs:∀ x,foldedSetIterable c X.env x=pure x:=by intro _;rfl):
  PE X (.ListComp d [#[.Name x z,c,g,(0)]] a pos) (K9 L y K G):=by
 intro kE s σ H Q I h;let B:=MB k;let p:=JP I.ok hk;rw[eval_ListComp];show wpAny_comprehension_free (use:=Y') Z hs (Hi p) B.kind B.names (Z0 (hi kE s σ H _ I h) λv s1 Y=>Z0 Y λa0 s2 h2=>?_);let#[it,f,tn,J,H2,e,r,T,n,t,q2]:=h2;subst e;show Bt (RR:=λj C=>compPost ↥X X.A X.xe Y' (EP X kE σ Q) j C) (E1:=E1) (λD C u=>oq F hE r t u) F.calm ht he (HY p) B.kind l B.own B.cell (JR B.cell) W r T n t q2 ?_;intro D C s' M m u N V hn q;show#[m,hn,λh' sb=>#[!D,M,?_,Z,q]];let#[O,P,_,R,S,U]:=V;show N.turned (t':=s'.toks) (λb o k e=>(sb.2 b k)|||e) O P R S U
end
section
variable{E:XK}
def Kz{x:Str}{C:aj}{R c pos:aJ}(F:Vh X E)(O:OwnCls x C [.type "ValueError",.type "Exception",.type "BaseException",.type "object"] "ValueError.__new__" X.mg X.base)(P:yN X.K (!C)=X')(Q:yU X.K C (.type "BaseException")\true)(M:xX X.K (!C)\.type "type")(G:Gl X x)(j:(x==("__debug__":Str))=false:=by decide):
  PS X (.Raise (Z' (.Call (.Name x R) [] [] c)) Y' pos) (λ_ _ H=>E (!C) Y' H):=by
 intro p s σ H D I h;let L:=I.ok.hd F.calm;rw[arm_exec_Raise];show aa (ah ?_);show FS L Q M (aa (ae ?_ (λv s3 w=>aa (ah (ad w))) λ_ _ z=>z));let i:=qF;let#[tl,N,nm,q,bs,m,sn,U,V,r,Y,k0,k1,k2,k3,k5,mN,A,B,k,T]:=O.obj;show ag (Pq I G O.bound ?_ j);show rJ I.kIn P ?_;let#[hp,g,d,tk,os]:=s;show wpAny_call_exc_subU (rest:=[]) i i.hasB i (T.keeps I.bk) (I.bk _ _ A) (B.keeps I.bk) k (λu b e=>?_) (yZ _);let#[tt,t,e2,e3]:=e.there;let J:=I.newx (C:=C) (ea:=b) (h':=u) e.keeps e.new #[_,_,t,Z,Z,Z,Z,Z];let n:H b=Y':=by
  cases z:H b with
  |none=>rfl
  |some o=>
   let#[S,l]:=I.hok.there (a:=b) #v[z,λy=>nomatch y]
   have:=e.new;erw[l] at this
 let f:X.s₀.heap.get? b=Y':=by
  cases z:X.s₀.heap.get? b with
  |none=>rfl
  |some o=>
   let#[S,l]:=I.base.there b o z (by rw[F.ex];simp)
   have:=e.new;erw[l] at this
 show#[b,Y',Z,J.kIn,(J.hok b _ ZP).1,Dc F (J.untrack n) f n (J.hok b _ ZP).1 h]
end
def FO(K:zZ)(a:aj)(c:TS)(D:Y1)(d:St):XK:=λcls e b=>∃ C,cls=.ref C/\yU K C (!a)\true/\c D d b
inductive OZ(K:zZ)(e C:aj)(m:Str)(i:Sp)(t:TA)(j:TS)(D:Y1)(b:Tw.St)(x:V)(c:Hp):Prop
 |mk(a h d:_)(_:x=!a)(_:c a\.ins C h d)(_:d.lookup m=Y')(_:t b c λk f=>i (x::(k++[])) f (λ_ g=>D.nx b g) (FO K e j D b))
def RF(K:zZ)(b C:aj)(m:Str)(d:Sp)(e:TE)(t:TA)(f:TS):TS:=λD a H=>e a H λx c=>OZ K b C m d t f D a x c
def oF{X:Cx}{k:Nat}{f C CB:aj}{fd:ao}{ps:jv}{sp:Sp}{m y:Str}{jk jj epos py ph pos:aJ}{o e:Expr}{es:jC}{ta:TE}{t:TA}{b₀:aC}{suite:jQ}{ts:TS}{pl:Sem Bool}(he:∀ S,PE (X.wish S) o ta)(c:UB X.K C)(hm:Uw X.K C m f)(F:ZL X.prog X.w X.K X.mg X.base (Z8 X.prog X.w) k f fd ps sp)(hr:Za k X.A)(hb:Z9 X.K fd ps [])(ha:∀ S,PA (X.wish S) (e::es) t)(hst:X.stack=X.env::X.outer)(hfm:X.env.frame\X.env.locals)(hy:Gl X y)(hyC:X.mg y\!CB)(ht:xX X.K (!CB)\.type "type")(hB:yU X.K CB (.type "BaseException")\true)(hs:∀ E S,Wc (X.held E S) (b₀::suite) ts)(hdy:(y==("__debug__":Str))=false:=by decide)(hse:ar (e::es) X.env=(false,aH e X.env)::ar es X.env:=by rfl)(hpl:(aF jj (ar es X.env)).any (·.1)=false:=by rfl)(hev:aH (.Call (.Attribute o m jk) (e::es) [] jj) X.env=(do
   let ov<-aH o X.env
   standAt jk.atName
   let (f,first)<-holding [ov] (getMethod ov m pl)
   callWith jj f first (aF jj (ar (e::es) X.env)) (backToKw jj (keywordEach [] X.env))):=by rfl)(hsw:swapsWith (.Call (.Attribute o m jk) (e::es) [] jj) Y' epos.line X.env=pure false:=by rfl):
  PS X (.Try [.Expr (.Call (.Attribute o m jk) (e::es) [] jj) epos] [.ExceptHandler (Z' (.Name y py)) Y' (b₀::suite) ph] [] [] pos) (RF X.K CB C m sp ta t ts):=by
 intro b s R H D I h;show wpAny_Try_except ?_;let a5:X.A.frames\(X.env::X.outer):=by rw[I.ok.frames,hst]
 let O:∀(T:Hp)(s1:ak)(i:ai)(g:ak),ZF X b R T s1->Z8 X.prog X.w X.stack T s1 (FO X.K CB ts D R) i g ->
   aB ↥X X.A (noteFrame i X.env) (λ_ j=>aB ↥X X.A (setFlight i Y') (λ_ n=>aB ↥X X.A (handleBy i X.env [.ExceptHandler (Z' (.Name y py)) Y' (b₀::suite) ph]) (SP X b D) X.xe n) X.xe j) X.xe g:=by
  intro T s1 i g p hx;let#[E,cls,od,H',rfl,W,C,rfl,mC,q]:=hx;let#[B,Y,YW,a1,a0]:=W.ex;let a4:WA B (X.env::X.outer) E (!C) od .none g.heap:=by rwa[<-hst,Y]
  show Kl a5 hfm a4 λh4 N a2=>?_;show OE (s:={ g with heap:=h4 }) N λh5 M a3=>?_;let J5:ZF X b R H' { g with heap:=h5 }:=KB p W YW a1 a0 M.1 (a2|||a3);show wpAny_handleBy_cons (codeAny_handlers_test ?_) (by intro q;cases q)
  show Pq (J5.held E (λ_ _=>False)) hy hyC ?_ hdy;show Fl (s:={ g with heap:=h5 }) J5.kIn M.at.is ht hB mC ?_;show codeAny_handlers_suite ?_;show OE (s:={ g with heap:=h5 }) M λh6 fl6 a6=>?_;let J6:ZF X b R H' { g with heap:=h6 }:=KB p W YW a1 a0 fl6.1 ((a2|||a3)|||a6);show ae (hs E _ b _ _ _ _ (J6.held E _) q) (λY s8 h8=>?_) λ_ _ z=>z
  cases Y with
  |next=>
   let#[d,G,L,P]:=h8;show#[d,G,L.unheld p.ok,P]
  |brk=>
   let#[d,G,L,P]:=h8;show#[d,G,L.unheld p.ok,P]
  |cont=>
   let#[d,G,L,P]:=h8;show#[d,G,L.unheld p.ok,P]
  |ret u=>
   let#[v8,d,G,L,r8,P]:=h8;show#[v8,d,G,L.unheld p.ok,r8,P]
 let I':=I.wish (λi g=>aB ↥X X.A (noteFrame i X.env) (λ_ j=>aB ↥X X.A (setFlight i Y') (λ_ n=>aB ↥X X.A (handleBy i X.env [.ExceptHandler (Z' (.Name y py)) Y' (b₀::suite) ph]) (SP X b D) X.xe n) X.xe j) X.xe g);show wpAny_execs_cons (wpAny_Expr_any ?_ I.quiet hsw);show rA (pl:=pl) (Z0 (he _ b s R H _ I' h) λu s1 ⟨x,T,p,rx,a,dx,fs,ex,E,l,q⟩=>?_) hev;subst ex;obtain rfl:u=Value.ref a:=rx;show HW p.unwish E c hm l ?_;show uY (first:=[!a]) (h₀:=X.base) I.ok.mod.kin hm.kp (YH (ha _ jj b s1 R T _ p q) λQ s2 vs H2 U r q2=>#[U.kIn,?_]) hse hpl
 let r2:ZR (V.ref a::(vs++[])) (Value.ref a::(Q++[])):=.cons Z (r.append .nil);let hl:↑(Value.ref a::Q++[])=↑ps:=by rwa[show Value.ref a::Q++[]=Value.ref a::(Q++[]) from Z,<-↑r2,F.len _ _ _ _ q2]
 show wpAny_call (codeAny_mono (F.run X.A X.stack s2 H2 #[.ref a::Q,[]] (.ref a::Q++[]) (.ref a::(vs++[])) _ _ hr U.unwish.env0 (hb s2 (.ref a::Q) U.kIn hl) r2 q2) λrr g hq=>?_)
 cases rr with
 |error i=>show O H2 s2 i g U.unwish hq
 |ok Y=>
  cases Y with
  |ret u=>
   let#[v,H3,J,rv,q3]:=U.unwish.after hq;show wpAny_execs_nil (wpAny_execs_nil #[R,H3,J,q3])
  |next=>show False.elim hq
  |brk=>show False.elim hq
  |cont=>show False.elim hq
variable{jh ji CS CT CH CK CP CB:aj}
structure ZB(P:am)(w:aw)(K:zZ)(mg:jc)(kF:aD)(CX:Wh)(k:Nat)(C:aj)(m:Str)(ps:jv)(sp:Sp):Prop where
 ex:∃ f fd,Uw K C m f/\ZL P w K mg kF CX k f fd ps sp/\Z9 K fd ps []
def YV{X:Cx}{i:Wh}{k:Nat}{C:aj}{m:Str}{v:jv}{j:Sp}{E:XK}{o e:Expr}{d:jC}{l:TE}{t:TA}{pos a:aJ}{u:Sem Bool}(p:PE X o l)(c:UB X.K C)(D:ZB X.prog X.w X.K X.mg X.base i k C m v j)(q:Za k X.A)(s:VW i X E)(n:PA X (e::d) t)(h:ar (e::d) X.env=(false,aH e X.env)::ar d X.env:=by rfl)(g:(aF pos (ar d X.env)).any (·.1)=false:=by rfl)(r:aH (.Call (.Attribute o m a) (e::d) [] pos) X.env=(do
   let ov<-aH o X.env
   standAt a.atName
   let (f,first)<-holding [ov] (getMethod ov m u)
   callWith pos f first (aF pos (ar (e::d) X.env)) (backToKw pos (keywordEach [] X.env))):=by rfl):
  PE X (.Call (.Attribute o m a) (e::d) [] pos) (Kc C m j [] E l t):=by
 let#[f,x,M,F,b]:=D.ex;show B8 p c M F q b .nil s n h g r
def PJ{X:Cx}{d:Wh}{k:Nat}{C:aj}{m:Str}{p:jv}{e:Sp}{E:XK}{o:Expr}{g:TE}{pos a:aJ}{n:Sem Bool}(h:PE X o g)(c:UB X.K C)(D:ZB X.prog X.w X.K X.mg X.base d k C m p e)(i:Za k X.A)(l:VW d X E)(j:aH (.Call (.Attribute o m a) [] [] pos) X.env=(do
   let ov<-aH o X.env
   standAt a.atName
   let (f,first)<-holding [ov] (getMethod ov m n)
   callWith pos f first (aF pos (ar [] X.env)) (backToKw pos (keywordEach [] X.env))):=by rfl):
  PE X (.Call (.Attribute o m a) [] [] pos) (Kc C m e [] E g UY):=by
 let#[f,q,M,F,b]:=D.ex;show rm h c M F i b .nil l j
abbrev GG:Stmt:=XR (top 27) 0
abbrev JX:Stmt:=XR (top 35) 0
abbrev JQ:Stmt:=XR (top 35) 1
abbrev Ib:Stmt:=XR (top 35) 3
abbrev HD:Stmt:=XR (top 35) 7
abbrev HH:Stmt:=XR (top 35) 8
abbrev Hm:Stmt:=XR (top 35) 9
abbrev Ij:Stmt:=XR (top 35) 12
abbrev Lr:Stmt:=XR (top 35) 13
abbrev HK:Stmt:=XR (top 35) 16
abbrev Hu:Stmt:=XR (top 35) 17
abbrev Kh:Stmt:=XR (top 35) 18
abbrev J1:Stmt:=XR (top 35) 23
structure Yh(K:zZ)(mg:jc)(jh ji:aj):Prop where
 shelf:mg "Shelf"=Z' !jh
 twig:mg "Twig"=Z' !ji
 cS:UB K jh
 cT:UB K ji
 nk:YG K jh "kept"
 nf:YG K jh "following"
 nl:YG K jh "looks"
 nth:YG K ji "things"
 ntg:YG K ji "tag"
 nab:YG K ji "above"
 nho:YG K ji "holds"
abbrev PD(d a:aj)(n:Nat):List (Str×V):=[("kept",!d),("following",-n),("looks",!a)]
abbrev Xy(d c:V)(a:aj)(b:Nat):List (Str×V):=[("things",d),("tag",c),("above",!a),("holds",-b)]
structure XB(jh:aj)(H:Hp)(S d lk:aj)(n:Nat)(kvs:ba)(ls:jf):Prop where
 self:∃ dx,H S\.ins jh dx (PD d lk n)
 kept:H d\.dK kvs
 looks:H lk\.lst ls
structure Wr(ji:aj)(H:Hp)(x:aj)(th tg:V)(ab:aj)(ho:Nat)(us:jf):Prop where
 self:∃ dx,H x\.ins ji dx (Xy th tg ab ho)
 above:H ab\.lst us
def XB.same{a:aj}{H c:Hp}{S d f:aj}{n:Nat}{b:ba}{g:jf}(h:XB a H S d f n b g)(s:ZC H c):XB a c S d f n b g:=by
 let#[#[i,e],j,k]:=h;show#[#[i,s _ _ e],s _ _ j,s _ _ k]
def Wr.same{a:aj}{H b:Hp}{x:aj}{g f:V}{c:aj}{d:Nat}{i:jf}(h:Wr a H x g f c d i)(s:ZC H b):Wr a b x g f c d i:=by
 let#[#[j,e],k]:=h;show#[#[j,s _ _ e],s _ _ k]
inductive Q3(ji:aj)(h:jf)(H:Hp)(Q:VK)(_:XK):Prop
 |mk(x g:aj)(e d:V)(_:h=[!x,e,d])(_:H x\.ins ji g [])(_:∀(a:Hp)(c:aj),(∀ b o,b≠x->H b\o->a b\o)->H c=Y'->Wr ji a x e d c 1 []->Q .non a)
theorem K':ZA Th Th (Zd GG):=Z4
def zk(F:Zj K "__init__" "Twig.__init__" GG f fd)(L:Yh K mg jh ji):-ZL ZZ 1 f fd Th (Q3 ji):=by
 show F.ko K' λl A j s H u Q E q h=>?_;let#[x,d,t,r,rfl,m,k]:=h;intro p;exists _,ZO (QG (pv 0) (pv 1) Z) (ZO (QG (pv 0) (pv 2) Z) (ZO (QG (pv 0) (XT Z1) Z) (ZU (QG (pv 0) ZN Z))));exists 2,x,ji,d,1,m,L.cT,L.nth,yR Z;exists 2,x,ji,d,1,ZP,L.cT,L.ntg,yR Z;exists YJ;intro i a;rw[Mv] at a⊢;let c:x≠i:=λz=>by erw[<-z,ZP] at a
 let g:H i=Y':=by rw[ZM (Ne.symm c)] at a;show a
 exists 1,x,ji,d,1,#v[ZM c,ZP],L.cT,L.nab,yR Z
 exists 1,x,ji,d,1,ZP,L.cT,L.nho,yR Z;show k _ i (λb o n e=>?_) g #[#[d,ZP],?_]
 .rwa[Mv,ZM n,ZM (ZW e g),ZM n,e]
 .rwa[Mv,ZM (Ne.symm c),ZP]
inductive Ul(jh:aj)(g:jf)(H:Hp)(Q:VK)(_:XK):Prop
 |mk(x e:aj)(_:g=[!x])(_:H x\.ins jh e [])(_:∀(a:Hp)(d c:aj),(∀ b o,b≠x->H b\o->a b\o)->H d=Y'->H c=Y'->d≠c->XB jh a x d c 0 [] []->Q .non a)
theorem Sj:ZA T' T' (Zd JX):=Z4
def Ri(F:Zj K "__init__" "Shelf.__init__" JX f fd)(L:Yh K mg jh ji):-ZL ZZ 1 f fd T' (Ul jh):=by
 show F.ko Sj λu A p s H B Q E y h=>?_;let#[x,j,rfl,t,k]:=h;intro v;exists _,ZO (QG (pv 0) MF Z) (ZO (QG (pv 0) ZN Z) (ZU (QG (pv 0) (XT Z1) Z)));intro d m;let q:x≠d:=ZW t m;exists 1,x,jh,j,1,#v[ZM q,t],L.cS,L.nk,yR Z
 exists 1,x,jh,j,1,ZP,L.cS,L.nf,yR Z;exists YJ;intro g c;rw[Mv] at c⊢;let r:x≠g:=λz=>by erw[<-z,ZP] at c
 let a:upd H d (.dK []) g=Y':=by rw[ZM (Ne.symm r)] at c;show c
 let l:d≠g:=λz=>by erw[<-z,ZP] at a
 let i:H g=Y':=by rw[ZM (Ne.symm l)] at a;show a
 exists 1,x,jh,j,1,#v[ZM r,ZP],L.cS,L.nl,yR Z
 show k _ d g (λb o n e=>?_) m i l #[#[j,ZP],?_,?_]
 .rwa[ZM n,ZM (ZW e i),ZM n,ZM (ZW e m),e]
 .rwa[ZM (Ne.symm q),ZM l,ZM (Ne.symm q),ZP]
 .rwa[ZM (Ne.symm r),ZP]
inductive Ze(jh:aj)(g:jf)(H:Hp)(Q:VK)(_:XK):Prop
 |mk(S d c:aj)(n:Nat)(a:ba)(e:jf)(i:Int)(b:V)(_:g=[!S,-i])(_:XB jh H S d c n a e)(_:Z2 a (.inl i)\b)(_:Q b H)
theorem En:ZA V' V' (Zd Kh):=Z4
def pT(F:Zj K "twig_of" "Shelf.twig_of" Kh f fd)(L:Yh K mg jh ji):-ZL ZZ 1 f fd V' (Ze jh):=by
 show F.ko En λl A a s H x Q E o h=>?_;let#[S,d,u,n,q,v,i,b,rfl,#[#[c,e],m,t],p,k]:=h;let j:=VN o;intro r;exists _,ZO (Zz (Qm (LQ j (pv 1) (Xn (pv 0) Z))) UC Z3) (ZU (Zl (WT j (Xn (pv 0) Z) (pv 1))));let g:Zh H d (-i) (Z' b):=p▸Zh.k (k:=mY i) m;show#[2,S,jh,c,_,!d,Z,e,L.cS,L.nk,Z,d,Z' b,Z,g,1,Zp ?_];show#[1,S,jh,c,_,!d,Z,e,L.cS,L.nk,Z,1,d,b,Z,g,k]
structure UN(P:am)(w:aw)(K:zZ)(mg:jc)(kF:aD)(k:Nat)(C:aj)(ps:jv)(sp:Sp):Prop where
 ex:∃ f fd,Mk K C f/\ZL P w K mg kF ZZ k f fd ps sp/\Z9 K fd ps []
structure M7(jh ji:aj)(H:Hp)(S d lk:aj)(n:Nat)(kvs:ba)(ls:jf)(i:Int)(x:aj)(th tg:V)(ab:aj)(ho:Nat)(us:jf):Prop where
 sh:XB jh H S d lk n kvs ls
 val:Z2 kvs (.inl i)\!x
 tw:Wr ji H x th tg ab ho us
inductive XW(jh ji:aj)(res:V->Nat->jf->V)(l:jf)(H:Hp)(Q:VK)(_:XK):Prop
 |mk(S d h:aj)(n:Nat)(a:ba)(j:jf)(i:Int)(x:aj)(k c:V)(g:aj)(b:Nat)(e:jf)(_:l=[!S,-i])(_:M7 jh ji H S d h n a j i x k c g b e)(_:Q (res c b e) H)
theorem qw:ZA V' V' (Zd HH):=Z4
def AX(F:Zj K "outside" "Shelf.outside" HH f fd)(L:Yh K mg jh ji)(e:-ZB ZZ 1 jh "twig_of" V' (Ze jh)):-ZL ZZ 2 f fd V' (XW jh ji λ_ a _=>.int a):=by
 show F.ko qw λg A c s H B Q E o h=>?_;let#[S,d,q,n,b,r,i,x,y,v,u,a,z,rfl,R,k]:=h;intro t;exists _,ZU (Zl (Xn (YV (E:=E0) (pv 0) L.cS e o YX (ZV (pv 1))) Z));let#[l,m]:=R.sh.self;let#[j,p]:=R.tw.self;show#[1,S,l,1,m,Z,1,S,d,q,n,b,r,i,!x,Z,R.sh,R.val,x,ji,j,_,-a,Z,p,L.cT,L.nho,Z,k]
theorem FF:ZA V' V' (Zd Lr):=Z4
def ri(F:Zj K "label" "Shelf.label" Lr f fd)(L:Yh K mg jh ji)(e:-ZB ZZ 1 jh "twig_of" V' (Ze jh)):-ZL ZZ 2 f fd V' (XW jh ji λc _ _=>c):=by
 show F.ko FF λg A b s H B Q E o h=>?_;let#[S,d,q,n,a,r,i,x,y,c,u,v,z,rfl,R,k]:=h;intro t;exists _,ZU (Zl (Xn (YV (E:=E0) (pv 0) L.cS e o YX (ZV (pv 1))) Z));let#[l,m]:=R.sh.self;let#[j,p]:=R.tw.self;show#[1,S,l,1,m,Z,1,S,d,q,n,a,r,i,!x,Z,R.sh,R.val,x,ji,j,_,c,Z,p,L.cT,L.ntg,Z,k]
theorem VA:ZA SV V' (Zd HD):=Z4
def pG(F:Zj K "holders" "Shelf.holders" HD f fd)(T:Yd mg)(L:Yh K mg jh ji)(m:-ZB ZZ 1 jh "twig_of" V' (Ze jh)):-ZL ZZ 2 f fd V' (XW jh ji λ_ a e=>.int ((↑e:Nat)+(a:Nat):Int)):=by
 show F.ko VA λo A c s H C Q E r h=>?_;let#[S,d,t,n,b,u,i,x,B,z,g,a,e,rfl,R,k]:=h;let v:=VA.nd;intro y;exists _,ZO (Zs 2 v (YV (E:=E0) (pv 0) L.cS m r YX (ZV (pv 1)))) (ZU (Zl (Z5 Wp (Zv X1 Z T.len Xk (ZV (Xn (pv 2) Z))) (Xn (pv 2) Z))));let#[p,q]:=R.sh.self;let#[j,l]:=R.tw.self;exists 1,S,p,1,q,Z,1,S,d,t,n,b,u,i,!x,Z,R.sh,R.val;show#[1,x,ji,j,_,!g,Z,l,L.cT,L.nab,Z,g,e,Z,.inl (ZH.of R.tw.above),1,x,ji,j,_,-a,Z,l,L.cT,L.nho,Z,_,1,Z,k]
inductive XQ(ji:aj)(g:jf)(H:Hp)(Q:VK)(_:XK):Prop
 |mk(x:aj)(d:V)(a b:aj)(c:Nat)(e:jf)(h:Int)(i:jf)(_:g=[!x])(_:Wr ji H x d (!a) b c e)(_:H a\.tup (.int h::i))(_:Q (.bl (ng (h>0))) H)
theorem AH:ZA TK TK (Zd Ja):=Z4
def xq(F:Zj K "is_stem" "is_stem" Ja f fd)(T:Yd mg)(L:Yh K mg jh ji):-ZL ZZ 1 f fd TK (XQ ji):=by
 show F.ko AH λc A a s H u Q E p h=>?_;let#[x,r,b,n,o,t,e,y,rfl,W,g,k]:=h;let#[q,l]:=T.height;let#[d,i]:=W.self;intro m;exists _,ZU (Zl (Vi QH (Zk K (Xn (pv 0) Z) (WL (v:=.int 0) Z l #[_,Z])) ZN (Zx _)));show#[1,x,ji,d,_,!b,Z,i,L.cT,L.ntg,Z,.inr (.inl #[b,_,_,-e,Z,Z,Zc.of g,Xu (j:=0) Z,_,_,Z,Z,k])]
inductive UU(jh ji:aj)(s:jf)(H:Hp)(Q:VK)(_:XK):Prop
 |mk(S d c:aj)(n:Nat)(e:ba)(j:jf)(i:Int)(x k m l:aj)(r:Nat)(q p u:jf)(h:Int)(_:s=[!S,-i])(_:M7 jh ji H S d c n e j i x (!k) (!m) l r q)(_:H k\.lst p)(_:H m\.tup (.int h::u))(_:c≠k)(_:c≠l)(_:↑j<=900)(_:∀(a:Hp)(g t:aj),(∀ b o,b≠c->H b\o->a b\o)->a c\.lst (j++[-i])->H g=Y'->a g\.lst p->a t\.tup [.str (if h>0 then "stem" else "leaf"),!g]->Q (!t) a)
theorem Q6:ZA SV V' (Zd Ij):=Z4
def wh(F:Zj K "look" "Shelf.look" Ij f fd)(T:Yd mg)(L:Yh K mg jh ji)(DT:-ZB ZZ 1 jh "twig_of" V' (Ze jh))(DS:-ZD 1 "is_stem" TK (XQ ji)):-ZL ZZ 2 f fd V' (UU jh ji):=by
 show F.ko Q6 λa4 A a1 s H vs Q E hr h=>?_;let#[S,d,j,n,W,p,i,x,J,tg,ab,ho,as,M,xs,U,rfl,R,V,C,Y,X,a3,k]:=h;let nd:=Q6.nd;intro Xc;show#[_,ZO (Zs 2 nd (YV (E:=E0) (pv 0) L.cS DT hr YX (ZV (pv 1))))
  (ZO (Y0 (VL yP xQ xP V9 (Xn (pv 0) Z) (ZV (pv 1))))
  (ZO (Zz (Yy (Zq DS hr (ZV (pv 2)))) (ZU (Zl (XH (Zg Y8 (VB PF Z T.list Uz (ZV (Xn (pv 2) Z))))))) Z3)
  (ZU (Zl (XH (Zg Y8 (VB PF Z T.list Uz (ZV (Xn (pv 2) Z))))))))),?_]
 let#[dx,hS]:=R.sh.self;let#[O,hx]:=R.tw.self;exists 1,S,dx,1,hS,Z,1,S,d,j,n,W,p,i,!x,Z,R.sh,R.val;let l:=R.sh.looks;exists 1,S,jh,dx,_,!j,Z,hS,L.cS,L.nl,Z,.inl #[Z,_,ZH.of l],1,j,p,-i,Z,Z,l,YM ()
 let G:∀ b o,b≠j->H b\o->upd H j (.lst (p++[-i])) b\o:=λb o n e=>#v[ZM n,e]
 let a2:x≠j:=ZE hx l;let I:tg≠j:=ZE C l;let q:=G _ _ a2 hx;let D:=G _ _ I C;let u:=G _ _ (Ne.symm X) R.tw.above;let m:=G _ _ (Ne.symm Y) V;let v:upd H j (.lst (p++[-i])) j\.lst (p++[-i]):=ZP;let r:∀(w:Str)(c t:aj),upd H j (.lst (p++[-i])) c=Y'->upd (upd H j (.lst (p++[-i]))) c (.lst M) t=Y'->w=(if U>0 then ("stem":Str) else "leaf")->Q (!t) (upd (upd (upd H j (.lst (p++[-i]))) c (.lst M)) t (.tup [.str w,!c])):=λw c t a B ew=>by
  let g1:=Zf a (.lst M);let g2:=Zf B (.tup [.str w,!c]);let g:=g1|||g2;let a0:H c=Y':=by
   cases z:H c with
   |none=>rfl
   |some o=>
    have:c≠j:=λy=>by erw[y,ZP] at a
    erw[ZM this,z] at a
  show k _ c t (λb o n e=>g _ _ (G b o n e)) (g _ _ v) a0 (g2 _ _ ZP) ?_;rw[ZP,ew]
 exists 1,x,!J,tg,ab,ho,as,U,xs,Z,#[#[O,q],u],D,_,Z;by_cases N:U>0
 .rw[aM N];show YA #[1,x,ji,O,_,!J,Z,q,L.cT,L.nth,Z,J,M,Z,.inl (ZH.of m),λc a=>#[YJ,λt B=>?_]];show r _ c t a B (by rw[aP N])
 .rw[aK N];show Zp #[1,x,ji,O,_,!J,Z,q,L.cT,L.nth,Z,J,M,Z,.inl (ZH.of m),λc a=>#[YJ,λt B=>?_]];show r _ c t a B (by rw[aO N])
inductive UM(jh:aj)(e:jf)(H:Hp)(Q:VK)(_:XK):Prop
 |mk(S d b:aj)(n:Nat)(a:ba)(c:jf)(_:e=[!S])(_:XB jh H S d b n a c)(_:Q (.int ↑a) H)
theorem Rp:ZA T' T' (Zd Hu):=Z4
def B1(F:Zj K "many" "Shelf.many" Hu f fd)(T:Yd mg)(L:Yh K mg jh ji):-ZL ZZ 1 f fd T' (UM jh):=by
 show F.ko Rp λc A b s H o Q E j h=>?_;let#[S,d,l,n,a,m,rfl,R,k]:=h;let#[e,g]:=R.self;intro i;exists _,ZU (Zl (Zv Fu Z T.len Xk (ZV (Xn (pv 0) Z))));show#[1,S,jh,e,_,!d,Z,g,L.cS,L.nk,Z,d,a,Z,R.kept,k]
inductive Xo(jh:aj)(g:jf)(H:Hp)(Q:VK)(_:XK):Prop
 |mk(S d c:aj)(n:Nat)(a:ba)(e:jf)(b:jz)(_:g=[!S])(_:XB jh H S d c n a e)(_:a.map (·.1)=b.map mY)(_:b.Pairwise (·<=·))(_:↑b<1000)(_:∀ p,H p=Y'->Q (!p) (upd H p (.lst (b.map V.int))))
theorem pV:ZA T' T' (Zd HK):=Z4
def pq(F:Zj K "numbers" "Shelf.numbers" HK f fd)(T:Yd mg)(L:Yh K mg jh ji):-ZL ZZ 1 f fd T' (Xo jh):=by
 show F.ko pV λc A b s H t Q E p h=>?_;let#[S,d,q,n,a,r,m,rfl,R,g,i,j,k]:=h;let#[e,l]:=R.self;intro o;exists _,ZU (Zl (Zv (P8 Z) Z T.sorted Pd (ZV (Xn (pv 0) Z))));show#[1,S,jh,e,_,!d,Z,l,L.cS,L.nk,Z,d,a,m,Z,R.kept,g,i,j,k]
structure XN(P:am)(w:aw)(K:zZ)(mg:jc)(kF:aD)(nm:Str)(C:aj):Prop where
 ex:∃ fI fd,XG K C fI "number"/\ZL P w K mg kF ZZ 1 fI fd V' (NS K C fI "number")/\Z9 K fd V' []
 at_:mg nm\!C
 ty:xX K (!C)\.type "type"
def Jf{X:Cx}{E:XK}{g:Str}{C:aj}{e:Expr}{d:jC}{t:TA}{p a pos:aJ}(F:Vh X E)(N:XN X.prog X.w X.K X.mg X.base g C)(m:Za 2 X.A)(j:PA X (e::d) t)(l:Gl X g)(h:(g==("__debug__":Str))=false:=by decide)(k:ar (e::d) X.env=(false,aH e X.env)::ar d X.env:=by rfl)(i:(aF a (ar d X.env)).any (·.1)=false:=by rfl):PS X (.Raise (Z' (.Call (.Name g p) (e::d) [] a)) Y' pos) (Eu C "number" E t):=by
 let#[n,fd,c,G,b]:=N.ex;show ql F c N.ty G m l N.at_ b j h k i
def UF(C:aj)(x:Int)(E:XK)(H:Hp):=∀ b a,ZC H a->a b\.xd [("number",-x)]->E (!C) (Z' b) a
def UF.go{C:aj}{x:Int}{E:XK}{H b:Hp}(r:UF C x E H)(s:ZC H b){a:aj}(h:b a=Y'):E (!C) (Z' a) (upd b a (.xd [("number",-x)])):=r a _ (s|||Zf h _) ZP
def UF.mono{C:aj}{x:Int}{E:XK}{H a:Hp}(r:UF C x E H)(s:ZC H a):UF C x E a:=λc b d e=>r c b (s|||d) e
inductive Xr(jh c:aj)(h:jf)(H:Hp)(Q:VK)(E:XK):Prop
 |mk(S d e:aj)(n:Nat)(a:ba)(g:jf)(x:Int)(_:h=[!S,-x])(_:XB jh H S d e n a g)(_:∀ b,Z2 a (.inl x)\b->Q b H)(_:Z2 a (.inl x)=Y'->UF c x E H)
def pe{m:aj}(F:Zj K "twig_of" "Shelf.twig_of" Kh f fd)(L:Yh K mg jh ji)(N:XN P w K mg kF "NoTwig" m):-ZL (Z8 P w) 3 f fd V' (Xr jh m):=by
 show F.okD En (λv H Q E h=>(by let#[_,_,_,_,_,_,_,rfl,_]:=h;rfl)) (λr A l s H v Q E p h=>?_)
 let#[S,d,C,n,j,D,x,rfl,#[#[e,g],o,B],t,u]:=h;let q:=VN p;intro y;exists _,ZO (Zz (Qm (LQ q (pv 1) (Xn (pv 0) Z))) (ZU (Jf VD N p (ZV (pv 1)) Z)) Z3) (ZU (Zl (WT q (Xn (pv 0) Z) (pv 1))))
 cases b:Z2 j (.inl x) with
 |none=>
  let a:Zh H d (-x) Y':=b▸Zh.k (k:=mY x) o;show#[2,S,jh,e,_,!d,Z,g,L.cS,L.nk,Z,d,Y',Z,a,1,YA ?_];show#[2,λz i=>(u b).go (ZC.refl H) i]
 |some c=>
  let a:Zh H d (-x) (Z' c):=b▸Zh.k (k:=mY x) o;show#[2,S,jh,e,_,!d,Z,g,L.cS,L.nk,Z,d,Z' c,Z,a,1,Zp ?_];show#[1,S,jh,e,_,!d,Z,g,L.cS,L.nk,Z,1,d,c,Z,a,t c b]
inductive WN(jh ji g:aj)(o:jf)(H:Hp)(Q:VK)(E:XK):Prop
 |mk(S d j:aj)(n:Nat)(b:ba)(k:jf)(x:Int)(_:o=[!S,-x])(_:XB jh H S d j n b k)(_:∀ e,Z2 b (.inl x)\e->∃(a:aj)(l c:V)(h:aj)(i:Nat)(m:jf),e=.ref a/\Wr ji H a l c h i m/\Q c H)(_:Z2 b (.inl x)=Y'->UF g x E H)
def qd{e:aj}(F:Zj K "label" "Shelf.label" Lr f fd)(L:Yh K mg jh ji)(g:-ZB (Z8 P w) 3 jh "twig_of" V' (Xr jh e)):-ZL (Z8 P w) 4 f fd V' (WN jh ji e):=by
 show F.okD FF (λB H Q E h=>(by let#[_,_,_,_,_,_,_,rfl,_]:=h;rfl)) (λi A c s H B Q E m h=>?_)
 let#[S,d,u,n,b,v,x,rfl,R,r,t]:=h;intro C;exists _,ZU (Zl (Xn (YV (E:=E) (pv 0) L.cS g m (U9 VD λ_ _ _ h=>h) (ZV (pv 1))) Z));let#[k,l]:=R.self;show#[1,S,k,1,l,Z,1,S,d,u,n,b,v,x,Z,R,λz o=>?_,t];let#[a,I,y,D,G,J,rfl,W,q]:=r z o;let#[j,p]:=W.self;show#[a,ji,j,_,y,Z,p,L.cT,L.ntg,Z,q]
structure XS(P:am)(w:aw)(K:zZ)(mg:jc)(kF:aD)(CS:aj):Prop where
 stem:mg "NoStem"=Z' !CS
 exk:tZ K CS Pw "ValueError.__new__"=true
 kp:yN K (!CS)=X'
 mB:yU K CS (.type "BaseException")\true
 ty:xX K (!CS)\.type "type"
def Eb{H:Hp}{L:YR}{u:V}(h:ZG H L.kt u):YB H L u:=by
 unfold YR.kt at h;rw[ZG] at h;let#[a,q,rfl,e,b]:=h;rw[kr] at b;let#[o,k,rfl,c,b]:=b;rw[kr] at b;let#[i,l,rfl,f,b]:=b;rw[kr] at b;let#[j,m,rfl,g,b]:=b;rw[kr] at b;let#[p,n,rfl,d,b]:=b;rw[kr] at b;subst b;rw[ZG] at c d;subst c d;show#[a,i,j,Z,e,f,g]
structure YD where
 x:aj
 th:aj
 tg:aj
 ab:aj
abbrev jy:=List YD
noncomputable def YD.d:YD:=#[(0),(0),(0),(0)]
structure OX(ji:aj)(H:Hp)(ts:js)(av:Nat->jq)(ho:Nat->Nat)(i:Nat)(a:YD):Prop where
 tw:Wr ji H a.x (!a.th) (!a.tg) a.ab (ho i) (iN (av i))
 things:∃ us,H a.th\.lst us/\((nz ts i).h=0->kr H (Yn (nz ts i).rows) us)/\((nz ts i).h≠0->us=iN (nz ts i).bs)
 tag:YB H (Z6 (nz ts i)) !a.tg
def OX.same{b:aj}{H c:Hp}{f:js}{d:Nat->jq}{e:Nat->Nat}{i:Nat}{a:YD}(h:OX b H f d e i a)(s:ZC H c):OX b c f d e i a:=by
 let#[l,g,j,k]:=h.things;show#[h.tw.same s,#[l,s _ _ g,λz=>(j z).sm s,k],h.tag.mono (ZC.tups s)]
structure Z7(jh ji:aj)(H:Hp)(S d lk:aj)(ts:js)(lv:jq)(av:Nat->jq)(ho:Nat->Nat)(as:jy)(kvs:ba)(ls:jf):Prop where
 sh:XB jh H S d lk ↑ts kvs ls
 keys:kvs.map (·.1)=lv.map (λi:Nat=>(mY (i:Int):ZQ))
 val:∀ i:Nat,i∈lv->Z2 kvs (mY (i:Int))\.ref as[i]!.x
 lt:∀ i:Nat,i∈lv->i<↑ts
 len:↑as=↑ts
 tw:∀ i:Nat,i∈lv->OX ji H ts av ho i as[i]!
 own:∀ i:Nat,i∈lv->as[i]!.x≠S/\as[i]!.ab≠lk/\as[i]!.th≠lk/\as[i]!.ab≠as[i]!.th
 two:∀ i j:Nat,i∈lv->j∈lv->i≠j->as[i]!.x≠as[j]!.x/\as[i]!.ab≠as[j]!.ab/\as[i]!.ab≠as[j]!.th/\as[i]!.th≠as[j]!.th
def Z7.same{a b:aj}{H e:Hp}{S d k:aj}{n:js}{m:jq}{g:Nat->jq}{j:Nat->Nat}{f:jy}{c:ba}{l:jf}(h:Z7 a b H S d k n m g j f c l)(s:ZC H e):Z7 a b e S d k n m g j f c l:=
 #[h.sh.same s,h.keys,h.val,h.lt,h.len,λi o=>(h.tw i o).same s,h.own,h.two]
def OX.frame{b:aj}{H H':Hp}{e:js}{c:Nat->jq}{d:Nat->Nat}{i:Nat}{a:YD}(h:OX b H e c d i a)(m:YI H H')(q:∀ o,H a.x\o->H' a.x\o)(p:∀ o,H a.th\o->H' a.th\o)(n:∀ o,H a.ab\o->H' a.ab\o):OX b H' e c d i a:=by
 let#[r,g,j,k]:=h.things;let#[f,l]:=h.tw.self;show#[#[#[f,q _ l],n _ h.tw.above],#[r,p _ g,λz=>(j z).mono m _ _,k],h.tag.mono m]
def Z7.none{b c:aj}{H:Hp}{S d o:aj}{q:js}{f:jq}{j:Nat->jq}{n:Nat->Nat}{g:jy}{a:ba}{p:jf}(h:Z7 b c H S d o q f j n g a p){x:Int}(e:nF f x=false):Z2 a (mY x)=mT:=by
 cases z:Z2 a (mY x) with
 |none=>rfl
 |some v=>
  have:=Ng z;rw[h.keys] at this;let#[i,m,l]:=zL.mp this;let k:=Sum.inl.inj l;unfold nF at e;show mZ #[(),?_] (of_decide_eq_false e)
  rwa[<-k,m]
theorem KK{a:jq}{x:Int}(h:nF a x=X'):∃ i:Nat,x=(i:Int)/\i∈a:=by
 unfold nF at h;have:=of_decide_eq_true h;show#[x.toNat,(),this.2]
theorem Aa(F:Zj K "label_over" "label_over" Ig f fd)(a3:K.In kF)(T:Yd mg)(L:XS P w K mg kF CS)(DS:-ZD 8 "stand_side_by_side" Tj UT):-ZL (Z8 P w) 9 f fd Tz (WG CS):=by
 show F.kD Qb λc4 A a8 s H vs Q E hr h=>?_;let#[l,q,r,rfl,hl,hk,hf,a9,k]:=h;let nd:=Qb.nd;let a2:=hk.1;let#[tf,mf]:=T.few;let#[tm,mm]:=T.most;let#[t0,m0]:=T.height;let#[t1,m1]:=T.least;let#[t2,m2]:=T.greatest;let#[t3,m3]:=T.many;intro Xc;show#[_,ZO (Zz (WY (J9 PB PB (WL (v:=.int 2) Z mf #[_,Z]) (Zv X1 Z T.len Xk (ZV (pv 0))) (WL (v:=.int 4) Z mm #[_,Z]))) (ZU (Kz VD (KI a3 L.stem L.exk) L.kp L.mB L.ty Z)) Z3)
  (ZO (Vj MJ Z (Kx Z T.range (Zg ZN (Zv X1 Z T.len Xk (ZV (pv 0))))) (Yf 1 nd)
   (ZU (Zz (WY (Yy (Zq DS hr (Zg (Zk K (pv 0) (Z5 PL (pv 1) ZN)) (Zk K (pv 0) (pv 1)))))) (ZU (Kz VD (KI a3 L.stem L.exk) L.kp L.mB L.ty Z)) Z3)))
  (ZO (Zs 2 nd (Zv (By Z) Z T.sum B9 (ZV (QS [] [] Z (Wa (pv 0)) (λ_ _ _ _ _=>Ur) (λ_ _ _ _ _=>Zk K (pv 0) (WL (v:=.int 3) Z m3 #[1])) trivial))))
  (ZU (Zl (XH (OQ (Z5 Wp (Zk K (Zk K (pv 0) ZN) (WL (v:=.int 0) Z m0 #[_,Z])) ZN)
   (Zk K (Zk K (pv 0) ZN) (WL (v:=.int 1) Z m1 #[_,Z]))
   (Zk K (Zk K (pv 0) (QL QP ZN)) (WL (v:=.int 2) Z m2 #[_,Z]))
   (pv 2))))))),?_]
 let S:∀(X:Hp)(i:Nat),ZC H X->i<↑q->∃(a:aj)(I G:V),q[i]?\.ref a/\X a\.tup [.int r[i]!.h,I,G,.int r[i]!.m]/\ZG X r[i]!.lo I/\ZG X r[i]!.hi G:=λX i s' M=>by
  let hu:q[i]?\q[i]:=zW M;let#[a,I,G,e,e1,k1,k2]:=(hk.2 i _ hu).mono (ZC.tups s');show#[a,I,G,by rw[hu,e],e1,k1,k2]
 exists 1,l,q,Z,.inl (ZH.of hl),_,1,Z,_,Z;rcases xM ↑q 2 with h2|h2
 .rw[aK (show ¬ (2:Int)<=(↑q:Int) from nofun)]
  show Zp #[1,YA ?_];show(k H (ZC.refl H)).1 (Da nofun)
 rw[aM (show (2:Int)<=(↑q:Int) from nofun)]
 show YA #[_,1,Z,1,?_];rcases xM 4 ↑q with h4|h4
 .rw[aK (show ¬ (↑q:Int)<=4 from nofun)]
  show YA ?_;show(k H (ZC.refl H)).1 (Da nofun)
 rw[aM (show (↑q:Int)<=4 from nofun)]
 show Zp ?_;exists 1,l,q,Z,.inl (ZH.of hl),(1),(↑q:Int),Z,#[nofun,nofun,nofun,nofun]
 show Og (lo:=1) (n:=((↑q:Int)-1).toNat) (λi σ Y=>∃ x:jg,σ=[Z' !l,x,Y']/\ZC H Y/\∀ j,j<i->Qc r[j]! r[j+1]! =X') #[1,ZC.refl H,λj hj=>mZ hj nofun] ?_ ?_
 .rintro i σ Y M ⟨x,rfl,B,O⟩;let a4:i+1<↑q:=nofun
  let ua:q[i]?\q[i]'nofun:=zW nofun
  let ub:q[i+1]?\q[i+1]:=zW a4;let e1:(1:Int)+(i:Int)=((i+1:Nat):Int):=nofun
  let e0:(1:Int)+(i:Int)-1=((i:Nat):Int):=nofun
  let t:=B _ _ hl;show#[2,_,1,Z,.inl #[l,q,_,1,Z,ZH.of t,#v[e0,Xu ua],?_]]
  show#[2,.inl #[l,q,_,1,Z,ZH.of t,#v[e1,Xu ub],?_]]
  show#[_,_,r[i]!,r[i+1]!,Z,(hk.2 i _ ua).mono (ZC.tups B),(hk.2 (i+1) _ ub).mono (ZC.tups B),hf i,hf (i+1),λu U=>#[1,?_]]
  cases hc:Qc r[i]! r[i+1]! with
  |true=>
   show Zp #[1,B|||U,λj hj=>?_];rcases xM j i with c1|c1
   .show O j c1
   .have:j=i:=nofun
    rwa[this,hc]
  |false=>show YA ((k u (B|||U)).1 (yd nofun hc))
 rintro σ Y ⟨x,rfl,B,O⟩;let ho:=uo (ls:=r) nofun nofun λj hj=>O j nofun
 let t:=B _ _ hl;exists 1,l,Z,#[q,ZH.of t];show Uu (n:=↑q) (λi z=>q[i]?\z) (λD i W u=>ZC Y u/\Y D=Y'/\W=((r.map YR.m).take i).map V.int) (YM nofun)
  (λD i W u M y=>#[q,q[i],ZH.of (y.1 _ _ t),by simp[M]]) (λD i W u z H4 M y hy=>#[hy.1,hy.2 q (ZH.of (y.1 _ _ t))]) (λD W u y=>#[q,ZH.of (y.1 _ _ t),zY _])
  (λD hD=>#[Zf hD _,hD,Z]) (λD i W u z eD c6 M hz y R hR=>?_) (λD W u eD y=>?_)
 .let#[U,nD,rfl]:=y;let#[a,c2,c0,ua,ea,c7,c8]:=S u i (B|||U) M;erw[ua] at hz;show#[1,.inr (.inl #[a,_,_,.int r[i]!.m,Z,Z,Zc.of ea,Z,?_])];show hR _ u eD #[λb o e=>#v[ZM (ZW e nD),U b o e],nD,?_]
  let eg:(r.map YR.m)[i]?=Z' r[i]!.m:=by
   rw[zO,zV,zW (show i<↑r from nofun)]
   rfl
  rw[yI,eg,yT];rfl
 .let#[U,nD,rfl]:=y;rw[yQ (by rw[zX];lia (splits:=8))] at eD
  exists D,r.map YR.m,Z,ZH.of eD;let C:=B|||U;let N:=C _ _ hl;let#[c,a1,c5,uc,ec,a7,e2]:=S u 0 C nofun
  let#[b,c3,a0,ub,eb,c9,a6]:=S u (↑q-1) C nofun
  let J:Xs q (-1)\.ref b:=by
   let e:q=q.dropLast++[!b]:=by
    let a5:q≠[]:=λz=>by rw[z] at h2;simp at h2
    let hg:q.getLast a5=.ref b:=by
     rw[mo];have:=(yO.mp ub).2;show this
    rw[<-hg,qQ]
   rwa[e,HF _ _]
  show#[1,.inl #[l,q,_,!c,Z,Z,ZH.of N,Xu (j:=0) uc,.inr (.inl #[c,_,_,.int r[0]!.h,Z,Z,Zc.of ec,Z,_,_,Z,Z,?_])]];show#[1,.inl #[l,q,_,!c,Z,Z,ZH.of N,Xu (j:=0) uc,.inr (.inl #[c,_,_,a1,Z,Z,Zc.of ec,Z,?_])]];show#[1,(1),Z,.inl #[l,q,_,!b,Z,Z,ZH.of N,J,.inr (.inl #[b,_,_,a0,Z,Z,Zc.of eb,Z,?_])]];exists 1,YJ;intro p hp;let g:=Zf hp (.tup [.int (r[0]!.h+1),a1,a0,.int (r.map YR.m).sum]);show(k _ (C|||g)).2 _ _ ho ?_;rwa[<-a2,.tup ZP (.cons (.int _) (.cons (a7.sm g) (.cons (a6.sm g) (.cons (.int _) .nil))))]
abbrev Jh:Stmt:=XR (top 35) 19
inductive Yt(jh ji CT:aj)(p:jf)(H:Hp)(Q:VK)(E:XK):Prop
 |mk(S d n l:aj)(h:js)(g:jq)(k:Nat->jq)(m:Nat->Nat)(j:jy)(e:ba)(o:jf)(c:jz)(_:p=[!S,!l])(_:Z7 jh ji H S d n h g k m j e o)(_:H l\.lst (c.map V.int))(_:↑c<=100)(_:∀ x,c.find? (λx=>!nF g x)\x->UF CT x E H)(_:∀ bs:jq,c=bs.map (λb:Nat=>(b:Int))->(∀ b∈bs,b∈g)->∀(D:aj)(i:jf)(a:Hp),ZC H a->H D=Y'->a D\.lst i->Yc a (Zt h bs) i->Q (!D) a)
theorem pr:ZA T2 T2 (Zd Jh):=Z4
theorem Bk(F:Zj K "labels_of" "Shelf.labels_of" Jh f fd)(L:Yh K mg jh ji)(DL:-ZB (Z8 P w) 4 jh "label" V' (WN jh ji CT)):-ZL (Z8 P w) 5 f fd T2 (Yt jh ji CT):=by
 show F.kD pr λa1 A Y s H vs Q E hr h=>?_;let#[S,d,lk,l,B,q,av,ho,as,X,ls,j,rfl,R,I,a0,k1,k2]:=h;intro Xc;exists _,ZU (Zl (Ay (E1:=E) [0] T' VD (λ_ _ _ h=>h) (Wa (pv 1)) (λ_ _ _ _ _=>Ur) (λ_ _ _ _ _ hp=>YV (E:=E) (pv 1) L.cS DL hr hp (ZV (pv 0))) #[Z,.inl Z,Z,trivial]));exists 1,l,Z,#[_,ZH.of I];show Uu (n:=↑j) (λi z=>(j.map V.int)[i]?\z) (λD i r g=>ZC H g/\H D=Y'/\(j.take i).find? (λx=>!nF q x)=Y'/\Yc g (Zt B ((j.take i).map wA)) r) (YM ())
  (λD i r g U k=>#[_,.int j[i],ZH.of (k.1 _ _ I),by simp[U]]) (λD i r g z H4 U k o=>#[o.1,o.2 _ (ZH.of (k.1 _ _ I))]) (λD r g k=>#[_,ZH.of (k.1 _ _ I),by simp])
  (λD hD=>#[Zf hD _,hD,Z,Z,λi u e=>by simp at e]) (λD i r g z C a2 U hz k RR T=>?_) (λD us g C k=>?_)
 .let#[v,N,J,G]:=k;rw[zO] at hz;let#[x,ex,rfl]:=yB.mp hz;let#[f1,f2]:=Mq J ex;let O:=R.same v;let#[dx,hS]:=O.sh.self;show#[1,S,dx,1,hS,Z,1,S,d,lk,↑B,X,ls,x,Z,O.sh,λtw p=>?_,λp=>?_]
  .let M:nF q x=X':=by
    cases c:nF q x with
    |true=>rfl
    |false=>erw[R.none c] at p
   let#[m,rfl,a]:=KK M;erw[R.val m a] at p;let W:=O.tw m a;exists _,_,_,_,_,1,W.tw;show T _ g C #[UA v N,N,f2 (by rw[M];rfl),?_]
   let tD:YI g (upd g D (.lst (r++[.ref as[m]!.tg]))):=λb xs e=>#v[ZM (ZE e C),e]
   rw[yI,ex];let e2:Zt B ((j.take i++(Z' ((m:Nat):Int)).toList).map wA)=Zt B ((j.take i).map wA)++[Z6 (nz B m)]:=by unfold Zt;simp
   rwa[e2,(G.snoc W.tag).mono tD]
  .let M:nF q x=false:=by
    cases c:nF q x with
    |false=>rfl
    |true=>
     let#[m,rfl,a]:=KK c;erw[R.val m a] at p
   show(k1 x (f1 (by rw[M];rfl))).mono v
 .let#[v,N,J,G]:=k;rw[yQ (zY _)] at J G;let t:∀ y∈j,nF q y=X':=λy o=>by
   have:=vN.mp J y o;simpa using this
  show k2 (j.map wA) ?_ (λb hb=>?_) D us g v N C G
  .rw[zH]
   conv=>lhs;rw[<-List.map_id j]
   show sZ λy o=>?_;let#[m,rfl,_]:=KK (t y o);simp
  .let#[y,o,rfl]:=zL.mp hb;let#[m,rfl,a]:=KK (t y o);simpa using a
noncomputable def Mr(a:Nat->jq)(b c:Nat):Nat->jq:=λi=>if i=b then a i++[c] else a i
def Va(a:Nat->Nat)(b:Nat):Nat->Nat:=λi=>if i=b then a i-1 else a i
def Z7.touch{n h:aj}{H p:Hp}{S d F:aj}{J:js}{B:jq}{j:Nat->jq}{l:Nat->Nat}{f:jy}{s:ba}{I:jf}(R:Z7 n h H S d F J B j l f s I){b t:Nat}(q:b∈B)(U:∃ L,p f[b]!.x\.ins h L (Xy (.ref f[b]!.th) (.ref f[b]!.tg) f[b]!.ab (l b-1)))(T:p f[b]!.ab\.lst (iN (j b++[t])))(k:∀ c o,c≠f[b]!.x->c≠f[b]!.ab->H c\o->p c\o):Z7 n h p S d F J B (Mr j b t) (Va l b) f s I:=by
 let#[#[K,D],A,E]:=R.sh;let u:=R.tw b q;let#[M,a]:=u.tw.self;let g:=u.tw.above;let#[us,C,O,P]:=u.things;let m:YI H p:=λc xs e=>k c _ (ZE e a) (ZE e g) e;show#[#[#[K,k _ _ (R.own b q).1.symm (ZE D g) D],k _ _ (ZE A a) (ZE A g) A,k _ _ (ZE E a) (R.own b q).2.1.symm E],R.keys,R.val,R.lt,R.len,λi v=>?_,R.own,R.two];by_cases z:i=b
 .subst z;let w:Mr j i t i=j i++[t]:=aP Z;let y:Va l i i=l i-1:=aP Z;show#[#[?_,?_],#[us,k _ _ (ZE C a) (R.own i v).2.2.2.symm C,λz=>(O z).mono m _ _,P],u.tag.mono m]
  .rwa[y,U]
  .rwa[w,T]
 .let w:Mr j b t i=j i:=aO z;let y:Va l b i=l i:=aO z;let Wi:=R.tw i v;let#[X,Y,t3,t4]:=R.two i b v q z;let#[s1,s2,W,s4]:=R.two b i q v (Ne.symm z);let#[N,r]:=Wi.tw.self;let#[vs,Q,_]:=Wi.things;let G:=Wi.frame m (λo e=>k _ _ X (by have:=r.symm|||e;show ZE r g) e) (λo e=>k _ _ (ZE Q a) W.symm e) (λo e=>k _ _ (ZE Wi.tw.above a) Y e)
  show#[?_,G.things,G.tag];rwa[w,y,G.tw]
abbrev J0:Stmt:=XR (top 35) 20
inductive YN(jh ji CH:aj)(n:jf)(H:Hp)(Q:VK)(E:XK):Prop
 |mk(S d j l:aj)(m:js)(g:jq)(i:Nat->jq)(a:Nat->Nat)(h:jy)(c:ba)(k:jf)(bs:jq)(_:n=[!S,!l])(_:Z7 jh ji H S d j m g i a h c k)(_:H l\.lst (iN bs))(_:∀ b∈bs,b∈g)(_:∀ b,bs.find? (λb=>ng (a b=0))\b->UF CH (b:Nat) E H)(_:bs.find? (λb=>ng (a b=0))=Y'->∀ e,ZC H e->Q .non e)
theorem Xv:ZA ["self","numbers","number"] T2 (Zd J0):=Z4
def BG(F:Zj K "check_held" "Shelf.check_held" J0 f fd)(L:Yh K mg jh ji)(N:XN P w K mg kF "NotHeld" CH)(y:-ZB ZZ 2 jh "outside" V' (XW jh ji λ_ g _=>.int g)):-ZL (Z8 P w) 3 f fd T2 (YN jh ji CH):=by
 show F.kD Xv λz A q s H vs Q E v h=>?_;let#[S,d,U,l,Y,lv,av,g,as,p,W,bs,rfl,R,t,M,O,T]:=h;let X:=Xv.nd;intro Xc;show#[_,ZU (Vj MJ Z (Wa (pv 1)) (Yf 2 X)
  (ZU (Zz (YF Xi (YV (E:=E0) (pv 0) L.cS y v YX (ZV (pv 2))) ZN (Zx _)) (ZU (Jf VD N v (ZV (pv 2)) Z)) Z3))),?_]
 show#[1,l,Z,#[_,ZH.of t],PM (K:=K) (a:=l) (xs:=iN bs) (λi n k=>∃ x:jg,n=[Z' !S,Z' !l,x]/\k=H/\(bs.take i).find? (λb=>ng (g b=0))=Y') #[1,Z,Z] (λi n k _ I=>by let#[_,_,rfl,_]:=I;show ZH.of t) ?_ ?_]
 .rintro i u n k e ⟨x,rfl,rfl,m⟩;unfold iN at e;rw[zO] at e;let#[b,r,rfl]:=yB.mp e;let j:=M b (yY r);let#[D,G]:=Mq m r;let#[B,J]:=R.sh.self;exists 1,S,B,1,J,Z,1,S,d,U,↑Y,p,W,(b:Int),_,_,_,_,_,1,#[R.sh,R.val b j,(R.tw b j).tw];exists Z,_,Z;let C:ng (V.int (g b:Nat)=V.int 0)=ng (g b=0):=by
   rw[wU];simp
  rw[C]
  cases c:ng (g b=0) with
  |true=>show YA #[2,λdd o=>(O b (D c)).go (ZC.refl _) o]
  |false=>show Zp #[1,Z,G c]
 .rintro n k ⟨x,rfl,rfl,m⟩;rw[show ↑(iN bs)=↑bs from zX _,yQ (zY _)] at m;show T m _ (ZC.refl _)
def Wx(bs:jq)(b:Nat)(a:Nat->jq):Nat->jq:=λi=>if i∈bs then a i++[b] else a i
noncomputable def X0(bs:jq)(a:Nat->Nat):Nat->Nat:=λi=>if i∈bs then a i-1 else a i
def ue{bs:jq}{b a:Nat}{c:Nat->jq}(h:b∉bs):Mr (Wx bs a c) b a=Wx (bs++[b]) a c:=by
 funext i
 unfold Mr Wx;by_cases z:i=b
 .subst z;rw[aP rfl,aO h,aP ⋯]
 .rw[aO z];by_cases y:i∈bs
  .rw[aP y,aP (by simp[y])]
  .rw[aO y,aO (by simp[y,z])]
def Fi{bs:jq}{b:Nat}{a:Nat->Nat}(h:b∉bs):Va (X0 bs a) b=X0 (bs++[b]) a:=by
 funext i
 unfold Va X0;by_cases z:i=b
 .subst z;rw[aP rfl,aO h,aP ⋯]
 .rw[aO z];by_cases y:i∈bs
  .rw[aP y,aP (by simp[y])]
  .rw[aO y,aO (by simp[y,z])]
abbrev Ia:Stmt:=XR (top 35) 21
inductive Yu(jh ji:aj)(q:jf)(H:Hp)(Q:VK)(_:XK):Prop
 |mk(S d k l:aj)(p:js)(g:jq)(i:Nat->jq)(j:Nat->Nat)(a:jy)(e:ba)(m:jf)(bs:jq)(n:Nat)(_:q=[!S,-n,!l])(_:Z7 jh ji H S d k p g i j a e m)(_:H l\.lst (iN bs))(_:bs.Nodup)(_:∀ b∈bs,b∈g/\1<=j b/\↑(i b)<=900)(_:∀ b:Nat,b∈g->l≠a[b]!.ab)(_:∀ h:Hp,(∀ c o,(∀ b:Nat,b∈g->c≠a[b]!.x/\c≠a[b]!.ab)->H c\o->h c\o)->(∀ c,h c=Y'->H c=Y')->Z7 jh ji h S d k p g (Wx bs n i) (X0 bs j) a e m->Q .non h)
abbrev C4:jv:=["self","stem","branches","branch","twig"]
theorem WO:ZA C4 TU (Zd Ia):=Z4
theorem BT(F:Zj K "take_over" "Shelf.take_over" Ia f fd)(L:Yh K mg jh ji)(DT:-ZB ZZ 1 jh "twig_of" V' (Ze jh)):-ZL ZZ 2 f fd TU (Yu jh ji):=by
 show F.ko WO λa2 A a1 s H vs Q E hr h=>?_;let#[S,d,lk,l,ts,lv,v,j,g,T,ls,bs,W,rfl,R,hl,N,Y,a0,k]:=h;let nd:=WO.nd;intro Xc;show#[_,ZU (Vj PassesOwn.never Z (Wa (pv 2)) (Yf 3 nd)
  (ZO (Zs 4 nd (YV (E:=E0) (pv 0) L.cS DT hr YX (ZV (pv 3))))
  (ZO (KW (pv 4) ZN Fa)
  (ZU (Y0 (VL yP xQ xP V9 (Xn (pv 4) Z) (ZV (pv 1)))))))),?_]
 show#[1,l,Z,#[_,ZH.of hl],PM (K:=K) (a:=l) (xs:=iN bs) (λi σ m=>∃ x y:jg,σ=[Z' !S,Z' (-W),Z' !l,x,y]/\(∀ c o,(∀ b:Nat,b∈lv->c≠g[b]!.x/\c≠g[b]!.ab)->H c\o->m c\o)/\(∀ c,m c=Y'->H c=Y')/\Z7 jh ji m S d lk ts lv (Wx (bs.take i) W v) (X0 (bs.take i) j) g T ls)
  #[_,1,λc o _ e=>e,λc e=>e,(by
   let e1:Wx [] W v=v:=funext λi=>aO ⋯
   let e2:X0 [] j=j:=funext λi=>aO ⋯
   rwa[show bs.take 0=[] from Z,e1,e2,R])] ?_ ?_ ?_]
 .rintro i σ m _ ⟨x,y,rfl,O,_,R2⟩;show ZH.of (O _ _ (λb Y=>#[?_,a0 b Y]) hl);let#[dx,I]:=(R.tw b Y).tw.self;show ZE hl I
 .rintro i u σ m C ⟨x,y,rfl,O,k3,R2⟩;unfold iN at C;rw[zO] at C;let#[b,eb,rfl]:=yB.mp C;let#[r,a3,a4]:=Y b (yY eb);let t:b∉bs.take i:=λz=>by
   let hs:bs=bs.take i++b::bs.drop (i+1):=by
    let hi:=(yO.mp eb);let#[hi,e]:=hi;rw[<-e,<-wZ hi,wQ]
   rw[hs,uO] at N;show N.2.2 b z b ⋯ Z
  let M:X0 (bs.take i) j b=j b:=aO t;let J:Wx (bs.take i) W v b=v b:=aO t;let#[dS,hS]:=R2.sh.self;let Wb:=R2.tw b r;let#[q,I]:=Wb.tw.self;let B:=Wb.tw.above;rw[M] at I;rw[J] at B;exists 1,S,dS,1,hS,Z,1,S,d,lk,↑ts,T,ls,(b:Int),.ref g[b]!.x,Z,R2.sh,R2.val b r;exists 1,g[b]!.x,ji,q,_,.int (j b:Nat),Z,I,L.cT,L.nho,Z,_,1,Z,q,_,I,yR Z;let eh:((j b:Nat):Int)-1=((j b-1:Nat):Int):=()
  let D:upd m g[b]!.x (.ins ji q (Yi "holds" (.int (((j b:Nat):Int)-1)) (Xy (.ref g[b]!.th) (.ref g[b]!.tg) g[b]!.ab (j b)))) g[b]!.x\.ins ji q (Xy (.ref g[b]!.th) (.ref g[b]!.tg) g[b]!.ab (j b-1)):=by rw[ZP,eh];rfl
  let X:g[b]!.ab≠g[b]!.x:=ZE B I;let p:upd m g[b]!.x (.ins ji q (Yi "holds" (.int (((j b:Nat):Int)-1)) (Xy (.ref g[b]!.th) (.ref g[b]!.tg) g[b]!.ab (j b)))) g[b]!.ab\.lst (iN (v b)):=#v[ZM X,B]
  let G:∀ c o,c≠g[b]!.x->m c\o->upd m g[b]!.x (.ins ji q (Yi "holds" (.int (((j b:Nat):Int)-1)) (Xy (.ref g[b]!.th) (.ref g[b]!.tg) g[b]!.ab (j b)))) c\o:=λc o n e=>#v[ZM n,e]
  let U:∀ c,upd m g[b]!.x (.ins ji q (Yi "holds" (.int (((j b:Nat):Int)-1)) (Xy (.ref g[b]!.th) (.ref g[b]!.tg) g[b]!.ab (j b)))) c=Y'->m c=Y':=λc e=>by
   by_cases z:c=g[b]!.x
   .erw[z,ZP] at e
   .rw[ZM z] at e;show e
  generalize upd m g[b]!.x (.ins ji q (Yi "holds" (.int (((j b:Nat):Int)-1)) (Xy (.ref g[b]!.th) (.ref g[b]!.tg) g[b]!.ab (j b))))=H3 at D p G U⊢;exists 1,g[b]!.x,ji,q,_,.ref g[b]!.ab,Z,D,L.cT,L.nab,Z,.inl #[Z,_,ZH.of p],1,g[b]!.ab,_,-W,Z,Z,p,YM (by rw[show ↑(iN (v b))=↑(v b) from zX _];lia)
  let et:bs.take (i+1)=bs.take i++[b]:=by rw[yI,eb];rfl
  exists _,1,λc o hc e=>?_,λc e=>?_
  .let#[n1,n2]:=hc b r;rwa[ZM n2,G _ _ n1 (O c o hc e)]
  .by_cases z:c=g[b]!.ab
   .erw[z,ZP] at e
   .rw[ZM z] at e;show k3 c (U c e)
  .rw[et,<-ue t,<-Fi t];show R2.touch r #[q,?_] ?_ λc o n1 n2 e=>?_
   .rwa[ZM (Ne.symm X),M,D]
   .rw[ZP,J];simp[iN]
   .rwa[ZM n2,G _ _ n1 e]
 .rintro σ m ⟨x,y,rfl,O,k3,R2⟩;rw[show ↑(iN bs)=↑bs from zX _,yQ (zY _)] at R2;show k m O k3 R2
def BD{X:Cx}{k:Nat}{C:aj}{x:Str}{n:jv}{g:Sp}{e:Expr}{a:jC}{t:TA}{p pos:aJ}(D:UN X.prog X.w X.K X.mg X.base k C n g)(m:Za (k+1) X.A)(j:Gl X x)(l:X.mg x\!C)(h:PA X (e::a) t)(c:(x==("__debug__":Str))=false:=by decide)(i:ar (e::a) X.env=(false,aH e X.env)::ar a X.env:=by rfl)(d:(aF pos (ar a X.env)).any (·.1)=false:=by rfl):
  PE X (.Call (.Name x p) (e::a) [] pos) (KL C g [] E0 t):=by
 let#[f,o,M,F,b]:=D.ex;show wl M F m j l b .nil YX h c i d
def Gc{X:Cx}{k:Nat}{C:aj}{x:Str}{h:jv}{c:Sp}{p pos:aJ}(D:UN X.prog X.w X.K X.mg X.base k C h c)(g:Za (k+1) X.A)(d:Gl X x)(e:X.mg x\!C)(a:(x==("__debug__":Str))=false:=by decide):PE X (.Call (.Name x p) [] [] pos) (KL C c [] E0 UY):=by
 let#[f,i,M,F,b]:=D.ex;show uk M F g d e b .nil YX a
def WR(n:Nat)(a:Nat->jq):Nat->jq:=λi=>if i=n then [] else a i
def Xl(n:Nat)(a:Nat->Nat):Nat->Nat:=λi=>if i=n then 1 else a i
def P9{a:js}{t:ZK}{i:Nat}(h:i<↑a):nz (a++[t]) i=nz a i:=by
 unfold nz;rw[zV,wP h,<-zV]
def OU{a:js}{t:ZK}:nz (a++[t]) ↑a=t:=by
 unfold nz;rw[zV,wY (zY _)];simp
def IQ{b:jy}{a:YD}{i:Nat}(h:i<↑b):(b++[a]).getD i .d=b[i]!:=by
 rw[zV,wP h,<-zV]
def Jw{b:jy}{a:YD}:(b++[a]).getD ↑b .d=a:=by
 rw[zV,wY (zY _)];simp
theorem Dj{u l:aj}{H H':Hp}{S d M:aj}{f:js}{D:jq}{B:Nat->jq}{L:Nat->Nat}{n:jy}{q:ba}{Y:jf}(R:Z7 u l H S d M f D B L n q Y){t:ZK}{x th tg ab:aj}(O:∀ b o,b≠S->b≠d->H b\o->H' b\o)(nx:H x=Y')(s:H th=Y')(r:H ab=Y')(I:ab≠th)(R':XB u H' S d M (↑f+1) (Zo q (.inl (↑f:Int)) !x) Y)(W:Wr l H' x (!th) (!tg) ab 1 [])(X:∃ k,H' th\.lst k/\(t.h=0->kr H' (Yn t.rows) k)/\(t.h≠0->k=iN t.bs))(U:YB H' (Z6 t) !tg):
  Z7 u l H' S d M (f++[t]) (D++[↑f]) (WR ↑f B) (Xl ↑f L) (n++[#[x,th,tg,ab]]) (Zo q (.inl (↑f:Int)) !x) Y:=by
 let#[#[dS,P],Q,hl]:=R.sh;let m:YI H H':=λc xs e=>O c _ (ZE e P) (ZE e Q) e;let en:↑(f++[t])=↑f+1:=by simp
 let nv:Z2 q (mY (↑f:Int))=Y':=R.none (by unfold nF;show aK λz=>by have:=R.lt _ z.2;lia)
 let a:∀ i,i∈D++[↑f]->i∈D\/i=↑f:=λi g=>#v[g]
 let el:↑n=↑f:=R.len;let A:∀ i,i∈D->(n++[(#[x,th,tg,ab]:YD)]).getD i .d=n[i]!:=λi g=>IQ (by have:=R.lt i g;lia)
 let E:(n++[(#[x,th,tg,ab]:YD)]).getD ↑f .d=#[x,th,tg,ab]:=by rwa[<-el,Jw]
 let y:∀ i,i∈D->∃ C k o,H n[i]!.x\.ins l C k/\H n[i]!.th\.lst o/\H n[i]!.ab\.lst (iN (B i)):=λi g=>by
  let#[C,v]:=(R.tw i g).tw.self;let#[k,p,_]:=(R.tw i g).things;show#[C,_,k,v,p,(R.tw i g).tw.above]
 let nS:x≠S:=(ZW P nx).symm;let F:ab≠M:=(ZW hl r).symm;let N:th≠M:=(ZW hl s).symm;show#[#v[en,R'],?_,λi g=>?_,λi g=>?_,by simp[el],λi g=>?_,λi g=>?_,λi j g hj K=>?_]
 .rw[Ha _ nv,yT,R.keys,yT];rfl
 .rw[PX];rcases a i g with c|rfl
  .let T:=R.lt i c;rw[aO (λz=>by have:=Sum.inl.inj z;lia),A i c]
   show R.val i c
  .rw[aP rfl,E]
 .rw[en];rcases a i g with c|rfl
  .show uQ (R.lt i c)
  .show yA _
 .rcases a i g with c|rfl
  .let Wi:=R.tw i c;let#[C,k,o,v,p,w]:=y i c;let T:=R.lt i c;let ni:i≠↑f:=()
   let G:=Wi.frame m (λo' e=>O _ _ (R.own i c).1 (ZE v Q) e) (λo' e=>O _ _ (ZE p P) (ZE p Q) e) (λo' e=>O _ _ (ZE w P) (ZE w Q) e);rw[A i c];exists ?_,?_
   .rwa[show WR ↑f B i=B i from aO ni,show Xl ↑f L i=L i from aO ni,G.tw]
   .rwa[P9 T,G.things]
   .rwa[P9 T,G.tag]
  .rw[E];exists ?_,?_
   .rwa[show WR ↑f B ↑f=[] from aP Z,show Xl ↑f L ↑f=1 from aP Z,W]
   .rwa[OU,X]
   .rwa[OU,U]
 .rcases a i g with c|rfl
  .rwa[A i c,R.own i c]
  .rwa[E,#[nS,F,N,I]]
 .rcases a i g with c|rfl
  .rw[A i c];rcases a j hj with J|rfl
   .rwa[A j J,R.two i j c J K]
   .rw[E];let#[C,k,o,v,p,w]:=y i c;show#[ZW v nx,ZW w r,ZW w s,ZW p s]
  .rw[E];rcases a j hj with J|rfl
   .rw[A j J];let#[C,k,o,v,p,w]:=y j J;show#[(ZW v nx).symm,(ZW w r).symm,(ZW p r).symm,(ZW p s).symm]
   .show mZ Z K
inductive Y7(jh ji:aj)(k:jf)(H:Hp)(Q:VK)(_:XK):Prop
 |mk(S d g:aj)(n:Nat)(a:ba)(h:jf)(j i:V)(_:k=[!S,j,i])(_:XB jh H S d g n a h)(_:↑a<=900)(_:∀(c:Hp)(x e:aj),H x=Y'->H e=Y'->(∀ b o,b≠S->b≠d->H b\o->c b\o)->XB jh c S d g (n+1) (Zo a (.inl (n:Int)) !x) h->Wr ji c x j i e 1 []->Q (.int (n:Int)) c)
theorem VC:ZA ["self","things","label","number"] Tg (Zd Ib):=Z4
def pE(F:Zj K "put_twig" "Shelf.put_twig" Ib f fd)(L:Yh K mg jh ji)(DM:UN P w K mg kF 1 ji Th (Q3 ji)):-ZL ZZ 3 f fd Tg (Y7 jh ji):=by
 show F.ko VC λa1 A Y s H vs Q E hr h=>?_;let#[S,d,c,n,T,ls,th,tg,rfl,R,a0,k]:=h;let nd:=VC.nd;let hu:=VN hr;intro Xc;show#[_,ZO (Zs 3 nd (Xn (pv 0) Z)) (ZO (QG (pv 0) (Z5 Wp (pv 3) ZN) Z)
  (ZO (QK hu (Xn (pv 0) Z) (pv 3) (BD DM hr Z L.twig (Zg (pv 1) (pv 2))) Z) (ZU (Zl (pv 3))))),?_]
 let#[#[a,y],J,M]:=R;let Sd:S≠d:=ZE y J;let Sl:S≠c:=ZE y M;let dl:d≠c:=ZE J M;exists 1,S,jh,a,_,-n,Z,y,L.cS,L.nf,Z;exists 1,_,1,Z,1,S,jh,a,1,y,L.cS,L.nf,yR Z;let l:upd H S (.ins jh a (Yi "following" (.int ((n:Int)+1)) (PD d c n))) S\.ins jh a (PD d c (n+1)):=ZP;let q:upd H S (.ins jh a (Yi "following" (.int ((n:Int)+1)) (PD d c n))) d\.dK T:=#v[ZM (Ne.symm Sd),J]
 let r:upd H S (.ins jh a (Yi "following" (.int ((n:Int)+1)) (PD d c n))) c\.lst ls:=#v[ZM (Ne.symm Sl),M]
 let u:∀ b o,b≠S->H b\o->upd H S (.ins jh a (Yi "following" (.int ((n:Int)+1)) (PD d c n))) b\o:=λb o n e=>#v[ZM n,e]
 let j:∀ b,upd H S (.ins jh a (Yi "following" (.int ((n:Int)+1)) (PD d c n))) b=Y'->H b=Y':=λb e=>by
  by_cases z:b=S
  .erw[z,ZP] at e
  .rw[ZM z] at e;show e
 generalize upd H S (.ins jh a (Yi "following" (.int ((n:Int)+1)) (PD d c n)))=B at l q r u j⊢;exists 1,_,Z;intro x G nx V ne;let g1:=Zf V (.own x);let X:upd B G (.own x) x=Y':=#v[ZM (Ne.symm ne),nx]
 let g2:=Zf X (.ins ji G []);let g:=g1|||g2;show#[x,G,th,tg,Z,ZP,λH2 C O U W=>#[Z,?_]];let v:∀ b o,B b\o->H2 b\o:=λb o e=>O b o (ZW e nx) (g b o e);let m:=v _ _ l;let i:=v _ _ q;let N:=v _ _ r;let p:B C=Y':=g.free U;let#[I,t]:=W.self;let xd:x≠d:=ZE t i;let D:C≠d:=ZE W.above i;exists 1,S,jh,a,_,!d,Z,m,L.cS,L.nk,Z,1,d,1,Y3.k (k:=mY (n:Int)) i (YM ())
 show#[1,k _ x C (j _ nx) (j _ p) (λb o n1 n2 e=>?_) #[#[a,?_],ZP,?_] #[#[I,?_],?_]]
 .rwa[ZM n2,v b o (u b o n1 e)]
 .rwa[ZM Sd,m]
 .rwa[ZM (Ne.symm dl),N]
 .rwa[ZM xd,t]
 .rwa[ZM D,W.above]
variable{jh ji CS CT CH CK CP CB:aj}
theorem A5:ZA TD TD (Zd HV):=Z4
def yq(F:Zj K "has_few_figures" "has_few_figures" HV f fd)(T:Yd mg):-ZL ZZ 1 f fd TD Um:=by
 show F.ok A5 (λc H Q E h=>?_) (λb A a s H c Q E g h=>?_)
 .let#[i,rfl,_]:=h;rfl
 let#[i,rfl,q]:=h;intro d;exists _,ZU (Zl (Vi PH (Zv IZ Z T.abs HA (Zi (pv 0) Z1)) (Z5 F0 ZN ZN) (Zx _)));exists 2,_,1,Z,#[by decide,by decide,by decide],_,1,Z
 let e:=zn i;rw[<-e] at q;show q
theorem C7:ZA ["sign"] ["sign"] (Zd He):=Z4
theorem Ab(F:Zj K "is_sign" "is_sign" He f fd):-ZL ZZ 1 f fd ["sign"] VJ:=by
 show F.ok C7 (λk H Q E h=>?_) (λi A d s H k Q E m h=>?_)
 .let#[c,rfl,_]:=h;rfl
 let#[c,rfl,q]:=h;intro l;exists _,ZU (Zl (BV Dz Dz Y8 (pv 0) Y8));let g:(wI " ").cps.toList=[32]:=by decide +kernel
 let j:(wI "~").cps.toList=[126]:=by decide +kernel
 let e:=ug c;exists 1,_,1,Z,_,Z;show XJ (λb=>?_) (λb=>?_)
 .exists _,1,Z;let a:(!ng ([c]<[32]))=X':=by rwa[<-g,b]
  rw[a,tR] at e;rw[<-e,<-j] at q;show q
 .let a:(!ng ([c]<[32]))=false:=by rwa[<-g,tI.mpr b]
  rw[a,tP] at e;rw[<-e] at q;show q
theorem y9:ZA TJ TJ (Zd KQ):=Z4
def qe{k:Nat}:-ZL ZZ k f fd TJ (Xm 0):=by
 let c:∀ a H Q E,¬ Xm 0 a H Q E:=λa H Q E h=>by
  let#[v,t,r,q,_,_,_,d,_]:=h
  lia
 show#[λa H Q E h=>mZ h (c a H Q E),λA b s H args e a Q E _ _ _ _ h=>mZ h (c a H Q E)]
theorem wc{n:Nat}(F:Zj K "fits" "fits" KQ f fd)(T:Yd mg)(DW:-ZD 1 "has_few_figures" TD Um)(DS:-ZD 1 "is_sign" ["sign"] VJ)(DF:-ZD (n+1) "fits" TJ (Xm n)):-ZL ZZ (n+2) f fd TJ (Xm (n+1)):=by
 show F.ok y9 (λp H Q E h=>?_) (λa3 A a2 s H p Q E hr h=>?_)
 .let#[v,t,r,q,rfl,_]:=h;rfl
 let#[v,t,r,q,rfl,g,hq,hn,k]:=h;let W:=hr.mono (show 1<=n+1 by lia)
 let#[t1,m1]:=T.signs;let#[t2,m2]:=T.things;intro Xc;show#[_,ZO (Zz (Yy (Zv Wq Z T.isi Xh (Zi (pv 0) (Zi (We (v:=.ty "bool") Z T.bool Kn Z) Z1)))) (ZU (Zl Uc)) Z3)
  (ZO (Zz (Yy (Zv Wq Z T.isi Xh (Zi (pv 0) (Zi (We (v:=.ty "int") Z T.int OS Z) Z1)))) (ZU (Zl (Zq DW W (Zi (pv 0) Z1)))) Z3)
  (ZO (Zz (Yy (Zv Wq Z T.isi Xh (Zi (pv 0) (Zi (We (v:=.ty "str") Z T.str LJ Z) Z1))))
   (ZU (Zl (QQ (Vi PB (Zv oj Z T.len Xk (Zi (pv 0) Z1)) (WL (v:=.int 40) Z m1 #[_,Z]) (Zx _))
    (PR (Zv (KD Z) Z T.all Kt (Zi (QS [] [] Z (yp (pv 0)) (λ_ _ _ _ _=>Ur) (λ_ _ _ _ _=>Zq DS W (Zi (pv 0) Z1)) trivial) Z1)))))) Z3)
  (ZO (Zz (Yy (Zv Wq Z T.isi Xh (Zi (pv 0) (Zi (We (v:=.ty "tuple") Z T.tuple QR Z) Z1))))
   (ZU (Zl (QQ (Vi QH (pv 1) ZN (Zx _)) (QQ (Vi PB (Zv X1 Z T.len Xk (Zi (pv 0) Z1)) (WL (v:=.int 4) Z m2 #[_,Z]) (Zx _))
    (PR (Zv (KD Z) Z T.all Kt (Zi (QS [1] ["room"] Z (K4 (pv 0)) (λ_ _ _ _ _=>Ur) (λ_ _ _ _ _=>Zq DF hr (Zi (pv 0) (Zi (Z5 PL (pv 1) ZN) Z1))) #[Z,.inl Z,Z,trivial]) Z1))))))) Z3)
  (ZU (Zl Uc))))),?_]
 cases t with
 |int i=>
  let ev:v=.int i:=by rw[ZG] at g;show g
  subst ev;show#[1,_,_,_,1,g.ty,Li,1,Zp ?_];show#[1,_,_,_,1,g.ty,N4,1,YA ?_];let u:=k H (ZC.refl H);rw[KT.fits] at u;show#[1,i,Z,u]
 |str x=>
  let ev:v=.str x:=by rw[ZG] at g;show g
  subst ev;let hx:NK x=X':=by rw[KT.fits] at hq;show hq
  let B:=hx;unfold NK at B;rw[zQ] at B;let O:↑x<=40:=of_decide_eq_true B.1;show#[1,_,_,_,1,g.ty,zc,1,Zp ?_];show#[1,_,_,_,1,g.ty,Ir,1,Zp ?_];show#[1,_,_,_,1,g.ty,LK,1,YA ?_];exists 1,x,Z,nw (),_,1,Z,_,Z
  rw[aP (aM (show (↑x:Int)<=40 by lia))]
  exists 1,x,Z;let a7:x.cps.size<=40:=O;show Uu (n:=x.cps.size) (λi z=>∃ c,x.cps[i]?\c/\z=.str #[⇑[c]]) (λD i m d=>ZC H d/\H D=Y'/\m=((x.cps.toList.take i).map Qs).map V.bl) (YM ())
   (λD i m d J _=>J) (λD i m d z H4 J _ hy=>hy) (λD m d _=>rfl) (λD N=>#[Zf N _,N,Z]) (λD i m d z G hl J hz j R hR=>?_) (λD m d G j=>?_)
  .let#[c,hc,rfl]:=hz;let#[C,L,rfl]:=j;exists 1,c,Z;show hR _ d G #[λb o e=>#v[ZM (ZW e L),C b o e],L,?_]
   let a0:x.cps.toList[i]?\c:=#v[hc]
   rw[yI,a0];simp
  .let#[C,L,rfl]:=j;exists D,1,ZH.of G;let u:=k d C;rw[KT.fits,hx] at u;let M:(x.cps.toList.take x.cps.size)=x.cps.toList:=yQ ⋯
   rw[M];let I:(x.cps.toList.map Qs).all id=X':=#v[vT,B.2]
   rwa[I,u]
 |tup l=>
  let X:=g;rw[ZG] at X;let#[a,p,rfl,I,Y]:=X;let hl:=↑Y;rw[KT.fits,zQ,zQ] at hq;let#[a6,S,U]:=hq;let a5:↑l<=4:=of_decide_eq_true S;show#[1,_,_,_,1,g.ty,zh,1,Zp ?_];show#[1,_,_,_,1,g.ty,IL,1,Zp ?_];show#[1,_,_,_,1,g.ty,Jp,1,Zp ?_];show#[1,_,_,_,1,g.ty,Lq,1,YA ?_];exists 1,_,1,Z,_,Z;show XJ (λc1=>?_) (λc1=>?_)
  .let r0:0<r:=by
    have:=of_decide_eq_true c1
    lia
   exists 1,a,p,Z,.inr (Zc.of I),_,1,Z,_,Z;rw[aP (aM (show ((↑p:Nat):Int)<=4 by lia))]
   exists 1,a,Z,#[p,Zc.of I];show Uu (n:=↑p) (λi z=>p[i]?\z) (λD i m d=>ZC H d/\H D=Y'/\m=((l.take i).map λt=>t.fits (r-1)).map V.bl) (YM ())
    (λD i m d J j=>#[p,p[i],Zc.of (j.1 _ _ I),by simp[J]]) (λD i m d z H4 J j hy=>#[hy.1,hy.2 p (Zc.of (j.1 _ _ I))]) (λD m d j=>#[p,Zc.of (j.1 _ _ I),zY _])
    (λD N=>#[Zf N _,N,Z]) (λD i m d z G a4 J hz j R hR=>?_) (λD m d G j=>?_)
   .let#[C,L,rfl]:=j;let#[t,M,kt]:=Y.get hz;let er:(r:Int)-1=((r-1:Nat):Int):=()
    let a1:t.fits (q-1)=X':=by
     rw[MO] at U;show zF.mp U t (yY M)
    exists 2,_,1,Z,z,t,r-1,q-1,congrArg (λy=>[z,V.int y]) er,kt.sm C,a1,by lia
    intro H4 s4;show hR _ H4 (s4 D _ G) #[λb o e=>#v[ZM (ZW e L),s4 b o (C b o e)],L,?_]
    rw[yI,M];simp
   .let#[C,L,rfl]:=j;exists D,1,ZH.of G;let u:=k d C;rw[KT.fits,aM r0,tR,S,tR,MO] at u;let M:l.take ↑p=l:=yQ ()
    rwa[M,vT,u]
  .let r0:r=0:=by
    have:¬ ((0:Int)<(r:Int)):=λz=>c1 (aM z)
    lia
   subst r0;let u:=k H (ZC.refl H);rw[KT.fits] at u;show u
theorem yo:ZA TV TV (Zd Il):=Z4
def BL(F:Zj K "is_key" "is_key" Il f fd)(T:Yd mg)(b:-ZD 5 "fits" TJ (Xm 4)):-ZL ZZ 6 f fd TV Vc:=by
 show F.ok yo (λj H Q E h=>?_) (λc A a s H j Q E e h=>?_)
 .let#[v,t,q,rfl,_]:=h;rfl
 let#[v,t,q,rfl,g,d,k]:=h;let#[m,i]:=T.deep;intro l;exists _,ZU (Zl (Zq b e (Zi (pv 0) (Zi (WL (v:=.int 3) Z i #[_,Z]) Z1))));show#[1,v,t,(3),q,Z,g,d,by decide,k]
theorem Gy(T:Yd mg)(L:Zm K mg "fits" KQ TJ)(b:-ZD 1 "has_few_figures" TD Um)(a:-ZD 1 "is_sign" ["sign"] VJ):∀ n:Nat,ZD P w K mg kF (n+1) "fits" TJ (Xm n)
 |0=>L.of λ_ _ _=>qe
 |n+1=>L.of λ_ _ F=>wc F T b a (Gy T L b a n)
variable{jh ji CS CT CH CK CP CB:aj}
def FZ{H:Hp}{b:jK}{c:jf}(h:kr H (Yn b) c):ED H (b.map (·.1)) c:=by
 let j:↑c=↑b:=by have:=↑h;rwa[<-this,zX _]
 exists #v[zX,j]
 intro i u e;let#[a,l,m,g,d,f,k,_]:=LL h e;exists a,l,m,d,f;rwa[zV,zO,g,k]
inductive Qw(b:jf)(H:Hp)(Q:VK)(_:XK):Prop
 |mk(v:V)(t:KT)(_:b=[v])(_:ZG H t v)(_:t.fits 3=X')(_:∀ a,ZC H a->Q v a)
theorem qj:ZA TV TV (Zd GC):=Z4
def oX(F:Zj K "checked" "checked" GC f fd)(c:-ZD 6 "is_key" TV Vc):-ZL ZZ 7 f fd TV Qw:=by
 show F.ko qj λe A a s H m Q E g h=>?_;let#[v,t,rfl,i,b,k]:=h;intro l;exists _,ZO (Zz (WY (Yy (Zq c g (ZV (pv 0))))) UC Z3) (ZU (Zl (pv 0)));show#[1,v,t,(3),Z,i,b,λd j=>#[1,?_]];rwa[b,Zp #[1,k d j]]
inductive Xt(g:jf)(H:Hp)(Q:VK)(_:XK):Prop
 |mk(l:aj)(e:jf)(d:jK)(_:g=[!l])(_:H l\.lst e)(_:kr H (Yn d) e)(_:∀ r∈d,r.fit)(_:↑e<=100)(_:∀(b:Hp)(c:aj)(a:jf),ZC H b->H c=Y'->b c\.lst a->kr b (Yn d) a->Q (!c) b)
theorem AM:ZA TZ TZ (Zd HX):=Z4
theorem oW(F:Zj K "own_rows" "own_rows" HX f fd)(M:-ZD 7 "checked" TV Qw):-ZL ZZ 8 f fd TZ Xt:=by
 show F.ko AM λa0 A J s H vs Q E W h=>?_;let#[l,r,rs,rfl,y,V,hf,T,k]:=h;let lk:↑r=↑rs:=by have:=V.length;rwa[<-this,zX _]
 intro Xc;show#[_,ZU (Zl (QS [] [] Z (Wa (pv 0)) (λ_ _ _ _ _=>Ur)
   (λ_ _ _ _ _=>XH (Zg (Zq M W (ZV (Zk K (pv 0) ZN))) (Zq M W (ZV (Zk K (pv 0) ZN))))) trivial)),?_]
 exists 1,l,Z,#[r,ZH.of y];show Uu (n:=↑r) (λi z=>r[i]?\z) (λD i t m=>ZC H m/\H D=Y'/\kr m (Yn (rs.take i)) t) (YM ())
  (λD i t m I d=>#[r,r[i],ZH.of (d.1 _ _ y),by simp[I]]) (λD i t m z H4 I d X=>#[X.1,X.2 r (ZH.of (d.1 _ _ y))]) (λD t m d=>#[r,ZH.of (d.1 _ _ y),zY _])
  (λD U=>#[Zf U _,U,.nil]) (λD i t m z G a1 I hz d R hR=>?_) (λD t m G d=>?_)
 .let#[p,B,j]:=d;let#[a,v,x,S,rfl,e2,Y,k2]:=LL V hz;let O:=p _ _ e2;let o:=hf _ (yY S);show#[1,.inr (.inl #[a,_,_,v,Z,Z,Zc.of O,Z,v,_,Z,Y.sm p,o.1,λH4 L=>?_])];show#[1,.inr (.inl #[a,_,_,x,Z,Z,Zc.of (L _ _ O),Z,x,_,Z,k2.sm (p|||L),o.2,λN s5=>?_])];exists YJ;intro q hq;let g:=Zf hq (.tup [v,x]);let c:=(L|||s5)|||g;let u:=c _ _ G;let C:YI (upd N q (.tup [v,x])) (upd (upd N q (.tup [v,x])) D (.lst (t++[!q]))):=λb xs e=>#v[ZM (ZE e u),e]
  show hR _ _ u #[UA (p|||c) B,B,?_];rw[yI,S,Ei];show((j.sm c).mono C _ _).append (.cons (.tup (C _ _ ZP) (.cons ?_ (.cons ?_ .nil))) .nil)
  .show(Y.sm (p|||c)).mono C _ _
  .show(k2.sm (p|||c)).mono C _ _
 .let#[p,B,j]:=d;rw[yQ ()] at j
  show k m D t p B G j
inductive VY(g:jf)(H:Hp)(Q:VK)(_:XK):Prop
 |mk(l:aj)(d:jf)(c:jr)(_:g=[!l])(_:H l\.lst d)(_:kr H c d)(_:∀ t∈c,t.fits 3=X')(_:↑d<=100)(_:c.Pairwise (λa b=>a.lt b=X'))(_:∀ e,ZC H e->Q (.bl true) e)
theorem BU:ZA ["keys"] ["keys"] (Zd IY):=Z4
theorem IN{c:Type}{R:c->c->Prop}:∀{l:List c},l.Pairwise R->∀{i j:Nat}{a b:c},i<j->l[i]?\a->l[j]?\b->R a b
 |[],_,_,_,_,_,_,h,_=>by simp at h
 |x::l,hp,0,j+1,a,b,_,ha,hb=>by
  simp at ha hb;subst ha;show(vM.mp hp).1 b (yY hb)
 |x::l,hp,i+1,j+1,a,b,hij,ha,hb=>by
  simp at ha hb;show IN (vM.mp hp).2 () ha hb
theorem vw(F:Zj K "rise" "rise" IY f fd)(T:Yd mg)(S:-ZD 7 "ahead" Ty Ys):-ZL ZZ 8 f fd ["keys"] VY:=by
 show F.ko BU λU A y s H vs Q E hr h=>?_;let#[l,c,ks,rfl,L,t,J,G,u,k]:=h;let lk:=↑t;intro Xc;show#[_,ZU (Zl (Zv (KD Z) Z T.all Kt (ZV (QS [0] ["keys"] Z (Kx Z T.range (Zg ZN (Zv X1 Z T.len Xk (ZV (pv 0))))) (λ_ _ _ _ _=>Ur)
  (λ_ _ _ _ _=>Zq S hr (Zg (Zk K (pv 1) (Z5 PL (pv 0) ZN)) (Zk K (pv 1) (pv 0)))) #[Z,.inl Z,Z,trivial])))),?_]
 exists 1,l,c,Z,.inl (ZH.of L),(1),(↑c:Int),Z,#[nofun,nofun,nofun,nofun]
 show Uu (n:=((↑c:Int)-1).toNat) (λi x=>x=.int (1+(i:Int))) (λD i j d=>ZC H d/\H D=Y'/\j=(vR i true).map V.bl) (YM nofun)
  (λD i j d q _=>q) (λD i j d x z q _ hy=>hy) (λD j d _=>zY _) (λD I=>#[Zf I _,I,Z]) (λD i j d x o a0 q hx p R Y=>?_) (λD j d o p=>?_)
 .subst hx;let#[g,v,rfl]:=p;let r:i+1<↑c:=nofun
  let N:c[i]?\c[i]'nofun:=zW nofun
  let O:c[i+1]?\c[i+1]:=zW r;let X:(1:Int)+(i:Int)=((i+1:Nat):Int):=nofun
  let W:(1:Int)+(i:Int)-1=((i:Nat):Int):=nofun
  let#[a,B,ka]:=t.get N;let#[b,C,kb]:=t.get O;let m:=g _ _ L;show#[2,_,1,Z,.inl #[l,c,_,1,Z,ZH.of m,#v[W,Xu N],?_]]
  show#[2,.inl #[l,c,_,1,Z,ZH.of m,#v[X,Xu O],?_]]
  exists _,_,a,b,Z,ka.sm g,kb.sm g,J a (yY B),J b (yY C);intro z M;rw[IN u (yA i) B C];show Y _ z (M D _ o) #[UA (g|||M) v,v,?_];rw[List.replicate_succ',yT];rfl
 .let#[g,v,rfl]:=p;exists D,1,ZH.of o;let e:(vR ((↑c:Int)-1).toNat true).all id=X':=by simp
  rwa[e,k d g]
def WZ(c:jK):=(∀ r∈c,r.fit)/\0<↑c/\↑c<=4/\(c.map (·.1)).Pairwise (λa b=>a.lt b=X')
inductive XV(g:jf)(H:Hp)(Q:VK)(_:XK):Prop
 |mk(l:aj)(e:jf)(d:jK)(_:g=[!l])(_:H l\.lst e)(_:kr H (Yn d) e)(_:WZ d)(_:∀(b:Hp)(c:aj)(a:jf),ZC H b->H c=Y'->b c\.lst a->kr b (Yn d) a->Q (!c) b)
theorem Vq:ZA ["rows","own"] TZ (Zd Jy):=Z4
theorem C9(F:Zj K "checked_rows" "checked_rows" Jy f fd)(T:Yd mg)(W:-ZD 8 "own_rows" TZ Xt)(X:-ZD 8 "rise" ["keys"] VY):-ZL ZZ 9 f fd TZ XV:=by
 show F.ko Vq λY A J s H vs Q E S h=>?_;let#[l,V,y,rfl,hl,O,#[N,h0,h4,I],k]:=h;let nd:=Vq.nd;let lk:V.length=↑y:=by have:=↑O;rwa[<-this,zX _]
 let#[t4,m4]:=T.rows;intro Xc;show#[_,ZO (Zs 1 nd (Zq W S (ZV (pv 0))))
  (ZO (Zz (PW.pt (Wf (WY (J9 PB PB ZN (Zv X1 Z T.len Xk (ZV (pv 1))) (WL (v:=.int 4) Z m4 #[_,Z])))
   (Us (WY (Yy (Zq X S (ZV (QS [] [] Z (Wa (pv 1)) (λ_ _ _ _ _=>Ur) (λ_ _ _ _ _=>Zk K (pv 0) ZN) trivial)))))))) UC Z3)
  (ZU (Zl (pv 1)))),?_]
 exists 1,l,V,y,Z,hl,O,N,by lia
 intro B D b s3 nD u m;let ly:↑b=↑y:=by have:=↑m;rwa[<-this,zX _]
 exists 1,D,b,Z,.inl (ZH.of u),_,1,Z,_,Z;rw[aM (show (1:Int)<=(↑b:Int) by lia)]
 show YA #[_,1,Z,1,?_];rw[aM (show (↑b:Int)<=4 by lia)]
 show Zp ?_;exists 1,D,Z,#[b,ZH.of u];show Uu (n:=↑b) (λi z=>b[i]?\z) (λe i q g=>ZC B g/\B e=Y'/\kr B ((y.map (·.1)).take i) q) (YM ())
  (λe i q g C d=>#[b,b[i],ZH.of (d.1 _ _ u),by simp[C]]) (λe i q g z M C d U=>#[U.1,U.2 b (ZH.of (d.1 _ _ u))]) (λe q g d=>#[b,ZH.of (d.1 _ _ u),zY _])
  (λe x=>#[Zf x _,x,.nil]) (λe i q g z j a0 C hz d R hR=>?_) (λe q g j d=>?_)
 .let#[p,o,c]:=d;let#[a,vk,vv,er,rfl,e2,k1,_]:=LL m hz;show#[1,.inr (.inl #[a,_,_,vk,Z,Z,Zc.of (p _ _ e2),Z,?_])];show hR _ g j #[UA p o,o,?_];rwa[yI,zO,er,c.append (.cons k1 .nil)]
 .let#[p,o,c]:=d;rw[yQ (by rw[zX];lia)] at c
  let lz:=↑c;rw[zX] at lz;show#[e,q,1,j,c.sm p,λt ht=>?_,(),I,λM L=>#[1,Zp #[1,k M D b ((s3|||p)|||L) nD (L _ _ (p _ _ u)) (m.sm (p|||L))]]]
  let#[r,G,rfl]:=zL.mp ht;show(N r G).1
def Y9(a:jK):ZK:=#[(0),a,[]]
inductive Xq(jh ji:aj)(r:jf)(H:Hp)(Q:VK)(_:XK):Prop
 |mk(S d n l:aj)(c:js)(h:jq)(k:Nat->jq)(m:Nat->Nat)(j:jy)(e:ba)(p q:jf)(i:jK)(_:r=[!S,!l])(_:Z7 jh ji H S d n c h k m j e p)(_:↑h<=900)(_:H l\.lst q)(_:kr H (Yn i) q)(_:WZ i)(_:∀(g:Hp)(a:YD),H a.x=Y'->H a.th=Y'->H a.ab=Y'->(∀ b o,b≠S->b≠d->H b\o->g b\o)->Z7 jh ji g S d n (c++[Y9 i]) (h++[↑c]) (WR ↑c k) (Xl ↑c m) (j++[a]) (Zo e (.inl (↑c:Int)) !a.x) p->Q (.int (↑c:Nat)) g)
theorem Wz:ZA ["self","rows","own"] Te (Zd JQ):=Z4
def Iu{jh ji:aj}{H:Hp}{S d h:aj}{j:js}{b:jq}{e:Nat->jq}{g:Nat->Nat}{c:jy}{a:ba}{i:jf}(R:Z7 jh ji H S d h j b e g c a i):↑a=↑b:=by
 have:=congrArg xY R.keys;simpa using this
def Bd(F:Zj K "put_leaf" "Shelf.put_leaf" JQ f fd)(L:Yh K mg jh ji)(DC:-ZD 9 "checked_rows" TZ XV)(DL:-ZD 1 "label_of_rows" TZ XA)(DT:-ZB ZZ 3 jh "put_twig" Tg (Y7 jh ji)):
  ZL P w K mg kF ZZ 10 f fd Te (Xq jh ji):=by
 show F.ko Wz λa1 A a0 s H vs Q E O h=>?_;let#[S,d,lk,l,ts,lv,av,ho,as,W,ls,us,a,rfl,R,y,hl,hk,G,k]:=h;let nd:=Wz.nd;let T:=O.mono (yR Z:1<=9)
 let U:=O.mono (yR Z:3<=9)
 intro Xc;show#[_,ZO (Zs 2 nd (Zq DC O (ZV (pv 1))))
  (ZU (Zl (YV (E:=E0) (pv 0) L.cS DT U YX (Zg (pv 2) (Zq DL T (ZV (pv 2))))))),?_]
 exists 1,l,us,a,Z,hl,hk,G;intro H1 p i s1 B u m;let R1:=R.same s1;let#[dx,hS]:=R1.sh.self;let lu:↑i=↑a:=by have:=↑m;rwa[<-this,zX _]
 let X:↑(a.map (·.1))=↑a:=zX _;exists 1,S,dx,1,hS,Z,2,p,i,a.map (·.1),Z,u,FZ m,#v[lu,G.2.1]
 intro H2 v s2 kv;let q:(Z6 (Y9 a)).kt=NZ (a.map (·.1)):=by
  let e0:(a.map (·.1)).getD 0 (.int 0)=(a.getD 0 rc).1:=by
   rw[zV,zV,zO];cases a[0]? <;> rfl
  let e1:(a.map (·.1)).getD (↑a-1) (.int 0)=(a.getD (↑a-1) rc).1:=by
   rw[zV,zV,zO];cases a[↑a-1]? <;> rfl
  unfold NZ Z6 Y9 YR.kt;rw[X,e0,e1];rfl
 rw[<-q] at kv;let V:=No kv;let#[C,a6,a5,rfl,a3,_,_]:=V;let V:=No kv;let c:=s1|||s2;let R2:=R.same c;exists S,d,lk,↑ts,W,ls,!p,!C,Z,R2.sh,#v[Iu R,y]
 intro D x J nx n I R3 W3;let#[a2,r]:=R2.sh.self;let j:YI H2 D:=λb ys e=>I b _ (ZE e r) (ZE e R2.sh.kept) e;let g:=s2 _ _ u;let N:D p\.lst i:=I _ _ (ZE g r) (ZE g R2.sh.kept) g;let M:J≠p:=(ZW g n).symm;let a4:C=C:=rfl;let PP:=Dj (t:=Y9 a) (x:=x) (th:=p) (tg:=C) (ab:=J) R (H':=D) (λb o Y n2 e=>I b o Y n2 (c b o e)) (c.free nx) B (c.free n) M R3 W3
  #[i,N,λ_=>m.mono (λb xs e=>j b xs (s2 _ _ e)) _ _,λz=>mZ Z z] (V.mono j)
 show k D #[x,p,C,J] (c.free nx) B (c.free n) (λb o Y n2 e=>I b o Y n2 (c b o e)) PP
def Xz(a:js)(bs:jq):jK:=bs.flatMap λb=>(nz a b).rows
def YQ(a:js)(bs:jq):ZK:=#[(nz a (bs.getD 0 0)).h+1,Xz a bs,bs]
def NN(c:js):jq->Prop
 |a::b::r=>(Z6 (nz c a)).hi.lt (Z6 (nz c b)).lo=X'/\NN c (b::r)
 |_=>True
theorem C5{c:js}:∀{bs:jq},(∀ j,j+1<↑bs->((Zt c bs).getD j .d).hi.lt ((Zt c bs).getD (j+1) .d).lo=X')->NN c bs
 |[],_=>trivial
 |[_],_=>trivial
 |a::b::r,h=>#[h 0 ⋯,C5 (bs:=b::r) λj e=>h (j+1) (by simp at e⊢;lia)]
def MD{t:ZK}(a:t.rows≠[]):∃ r b,t.rows=r::b/\(Z6 t).lo=r.1:=by
 cases e:t.rows with
 |nil=>show mZ e a
 |cons r b=>show#[r,b,Z,by unfold Z6;rw[e];rfl]
def Jx{t:ZK}(a:t.rows≠[]):∃ b r,t.rows=b++[r]/\(Z6 t).hi=r.1:=by
 rcases sS t.rows with e|⟨b,r,e⟩
 .show mZ e a
 .rw[sT] at e;exists b,r,e;unfold Z6;rw[e];simp[zV]
def RQ{f:jr}{g:js}{i:Nat}{t:ZK}(h:Zw f g i t){x:KT}(a:x∈t.rows.map (·.1)){y:KT}(b:(Z6 t).hi.lt y=X'):x.lt y=X':=by
 let#[j,r,e,d]:=Jx h.ne;let c:=h.up;rw[e,yT] at c a;rw[d] at b;rcases zC.mp a with a|a
 .have:=(xI.mp c).2.2 x a r.1 ⋯
  show U' _ _ _ this b
 .simp at a;rwa[a,b]
def J'{l:jr}(f:l.Pairwise λa b=>a.lt b=X'){z:KT}(e:l.head?\z){x:KT}(d:x.lt z=X'):∀ y∈l,x.lt y=X':=by
 cases l with
 |nil=>cases e
 |cons a l=>
  simp at e;subst e;intro y c;rcases zD.mp c with rfl|c
  .show d
  .show U' _ _ _ d ((vM.mp f).1 y c)
theorem Ec{gt:jr}{ts:js}:∀{bs:jq},(∀ b∈bs,Zw gt ts b (nz ts b))->NN ts bs->((Xz ts bs).map (·.1)).Pairwise (λa b=>a.lt b=X')/\bs.Nodup
 |[],_,_=>#[List.Pairwise.nil,List.nodup_nil]
 |[a],hb,_=>by
  show#[?_,by simp]
  have:=(hb a ⋯).up
  simpa [Xz] using this
 |a::b::r,hb,hn=>by
  let#[h1,h2]:=Ec (bs:=b::r) (λc hc=>hb c (zE _ hc)) hn.2;let oa:=hb a ⋯
  let ob:=hb b ⋯
  let#[rb,rs,eb,el]:=MD ob.ne;let hd:((Xz ts (b::r)).map (·.1)).head? = Z' (Z6 (nz ts b)).lo:=by
   rw[el];unfold Xz;rw[xJ,eb];rfl
  let cross:∀ x∈(nz ts a).rows.map (·.1),∀ y∈(Xz ts (b::r)).map (·.1),x.lt y=X':=λx hx=>J' h1 hd (RQ oa hx hn.1);show#[?_,xR.mpr #[λhm=>?_,h2]]
  .let e:Xz ts (a::b::r)=(nz ts a).rows++Xz ts (b::r):=by simp[Xz]
   rwa[e,yT,xI.mpr #[oa.up,h1,cross]]
  .let#[ra,rs',ea,_]:=MD oa.ne;let m1:ra.1∈(nz ts a).rows.map (·.1):=by rw[ea];simp
   let m2:ra.1∈(Xz ts (b::r)).map (·.1):=zL.mpr #[ra,wL.mpr #[a,hm,by rw[ea];simp],Z]
   have:=cross _ m1 _ m2;erw[NT] at this
def Of{b:js}{bs:jq}{i:Nat}(a:i<↑bs):(Zt b bs).getD i .d=Z6 (nz b (bs.getD i 0)):=by
 unfold Zt;rw[zV,zO,zW a,zV,zW a];rfl
theorem Do{N:jr}{c:js}{bs:jq}(u:∀ b∈bs,Zw N c b (nz c b)){L:YR}(h:nu (Zt c bs)\L):
  L=Z6 (YQ c bs)/\bs.Nodup/\2<=↑bs/\↑bs<=4/\(∀ b∈bs,(nz c b).h+1=(YQ c bs).h)/\((Xz c bs).map (·.1)).Pairwise (λa b=>a.lt b=X')/\Xz c bs≠[]:=by
 unfold nu at h;split at h
 case isFalse=>cases h
 case isTrue hc=>
  let#[k,D,Q]:=hc;let C:↑(Zt c bs)=↑bs:=zX _;rw[C] at k D;let n:=Yl.mpr Q;unfold KY at n;rw[C] at n;let x:NN c bs:=C5 λj P=>(n j P).2;let#[B,y]:=Ec u x;let O:∀ i,i<↑bs->((Zt c bs).getD i .d).h=((Zt c bs).getD 0 .d).h:=λi g=>by
   cases i with
   |zero=>rfl
   |succ i=>show(n i g).1
  let f:∀ i,i<↑bs->bs.getD i 0∈bs:=λi g=>#v[zV,zW g,yH _]
  let E:=u _ (f 0 ())
  let S:=u _ (f (↑bs-1) ())
  let w:∀ b∈bs,(nz c b).h+1=(YQ c bs).h:=λb v=>by
   let#[i,g,e]:=uA v;have:=O i g;rw[Of g,Of ()] at this
   let p:bs.getD i 0=b:=by rw[zV,zW g,e];rfl
   rw[p] at this;have:=Int.ofNat.inj this;change (nz c b).h+1=(nz c (bs.getD 0 0)).h+1
   lia
  let A:Xz c bs≠[]:=λz=>by
   let#[r,o,e,_]:=MD E.ne;have:r∈Xz c bs:=wL.mpr #[_,f 0 (),by rw[e];simp]
   rw[z] at this;simp at this
  show#[?_,y,k,D,w,B,A];rw[<-zB.inj h];let t:((Zt c bs).getD 0 .d).lo=(Z6 (YQ c bs)).lo:=by
   rw[Of ()]
   let#[r,o,e,s]:=MD E.ne;rw[s]
   cases bs with
   |nil=>simp at k
   |cons b bs=>
    unfold Z6 YQ Xz;let G:(nz c b).rows=r::o:=e;simp only[xJ,G];rfl
  let q:((Zt c bs).getD (↑(Zt c bs)-1) .d).hi=(Z6 (YQ c bs)).hi:=by
   rw[C,Of ()]
   let#[o,r,e,s]:=Jx S.ne;rw[s];rcases sS bs with z|⟨F,b,z⟩
   .rw[z] at k;simp at k
   .rw[sT] at z;let I:bs.getD (↑bs-1) 0=b:=by rw[z];simp[zV]
    rw[I] at e;let M:Xz c bs=Xz c F++o++[r]:=by rw[z];simp[Xz,e]
    unfold Z6 YQ;simp only[M];simp[zV]
  let K:((Zt c bs).map YR.m).sum=(Z6 (YQ c bs)).m:=by
   have:∀ l:jq,((Zt c l).map YR.m).sum=(↑(Xz c l):Int):=λl=>by
    induction l with
    |nil=>rfl
    |cons b l R=>
     let H:Zt c (b::l)=Z6 (nz c b)::Zt c l:=rfl;let p:Xz c (b::l)=(nz c b).rows++Xz c l:=by simp[Xz]
     rw[H,p,yL,mV,R,zG];change (↑(nz c b).rows:Int)+_=_
     lia
   show this bs
  let J:((Zt c bs).getD 0 .d).h+1=(Z6 (YQ c bs)).h:=by
   rw[Of ()]
   change ((nz c (bs.getD 0 0)).h:Int)+1=(((nz c (bs.getD 0 0)).h+1:Nat):Int)
   lia
  rw[t,q,K,J]
def MY{e:jr}{c:js}(g:WF e c){bs:jq}(f:∀ b∈bs,b<↑c){L:YR}(h:nu (Zt c bs)\L):
  L=Z6 (YQ c bs)/\bs.Nodup/\2<=↑bs/\↑bs<=4/\(∀ b∈bs,(nz c b).h+1=(YQ c bs).h)/\((Xz c bs).map (·.1)).Pairwise (λa b=>a.lt b=X')/\Xz c bs≠[]:=Do (λb d=>g b _ (Yo (f b d))) h
def Zw.ext{g:jr}{a:js}{t:ZK}{i:Nat}{u:ZK}(h:Zw g a i u):Zw g (a++[t]) i u:=by
 exists h.ne,h.up,h.inn,h.leaf;intro z;let#[j,k,f,m]:=h.stem z;let e:∀ b∈u.bs,nz (a++[t]) b=nz a b:=λb d=>P9 (f b d).1;exists j,k,λb d=>#[by rw[zG,xS];have:=(f b d).1;lia,#v[e b d,(f b d).2]]
 rw[m];clear j k f m;have:∀ l:jq,(∀ b∈l,nz (a++[t]) b=nz a b)->(l.flatMap λb=>(nz a b).rows)=l.flatMap λb=>(nz (a++[t]) b).rows:=λl n=>by
  induction l with
  |nil=>rfl
  |cons b l p=>rw[xJ,xJ,n b ⋯,p λc o=>n c (zE _ o)]
 show this _ e
theorem WF.push{b:jr}{a:js}{t:ZK}(f:WF b a)(h:Zw b a ↑a t):WF b (a++[t]):=λi u e=>by
 rcases xM i ↑a with c|c
 .rw[wP c] at e;show(f i u e).ext
 .rw[wY c] at e;let d:i-↑a=0:=by
   rcases Nat.eq_zero_or_pos (i-↑a) with z|z
   .show z
   .erw[tU (by simp;lia)] at e
  rw[d] at e;simp at e;subst e;have:i=↑a:=()
  rwa[this,h.ext]
theorem Df{i:jr}{c:js}(j:WF i c){bs:jq}(d:∀ b∈bs,b<↑c){L:YR}(h:nu (Zt c bs)\L):Zw i c ↑c (YQ c bs):=by
 let#[_,_,k,l,m,g,e]:=MY j d h;show#[e,g,λr n=>?_,λz=>mZ z (by change (nz c (bs.getD 0 0)).h+1≠0;lia),λ_=>#[k,l,λb a=>#[d b a,m b a],Z]]
 let#[b,a,f]:=wL.mp n;show(j b _ (Yo (d b a))).inn r f
abbrev JU:Stmt:=XR (top 35) 2
structure Qk(P:am)(w:aw)(K:zZ)(mg:jc)(kF:aD)(k:Nat)(x:Str)(ps:jv)(sp:Sp):Prop where
 ex:∃ f fd,ZL P w K mg kF (Z8 P w) k f fd ps sp/\Z9 K fd ps []/\yN K (!f)=X'/\mg x\!f
inductive YK(r:jr)(jh ji CS CT CH:aj)(s:jf)(H:Hp)(Q:VK)(E:XK):Prop
 |mk(S d p l:aj)(e:js)(g:jq)(n:Nat->jq)(k:Nat->Nat)(j:jy)(i:ba)(q:jf)(m:jz)(_:s=[!S,!l])(_:Z7 jh ji H S d p e g n k j i q)(_:WF r e)(_:↑g<=800)(_:∀ b,b∈g->↑(n b)<=800)(_:H l\.lst (m.map V.int))(_:↑m<=100)(_:∀ x,m.find? (λx=>!nF g x)\x->UF CT x E H)(_:∀ bs:jq,m=bs.map (λb:Nat=>(b:Int))->(∀ b∈bs,b∈g)->(nu (Zt e bs)=Y'->∀ h,ZC H h->E (!CS) Y' h)/\(nu (Zt e bs)≠Y'->∀ b,bs.find? (λb=>ng (k b=0))\b->UF CH (b:Nat) E H)/\(nu (Zt e bs)≠Y'->bs.find? (λb=>ng (k b=0))=Y'->∀(h:Hp)(a:YD),H a.x=Y'->H a.th=Y'->H a.ab=Y'->(∀ c o,c≠S->c≠d->(∀ b:Nat,b∈g->c≠j[b]!.x/\c≠j[b]!.ab)->H c\o->h c\o)->Z7 jh ji h S d p (e++[YQ e bs]) (g++[↑e]) (Wx bs ↑e (WR ↑e n)) (X0 bs (Xl ↑e k)) (j++[a]) (Zo i (.inl (↑e:Int)) !a.x) q->Q (.int (↑e:Nat)) h))
abbrev vg:jv:=["self","numbers","branches","label","number"]
theorem Wy:ZA vg T2 (Zd JU):=Z4
def HQ{e:jr}{c:js}{bs:jq}(g:∀ b∈bs,Zw e c b (nz c b))(i:Nat):((Zt c bs).getD i .d).fit:=by
 rcases xM i ↑bs with a|a
 .rw[Of a];show IK (g _ ?_);rwa[zV,zW a,yH _]
 .rw[zV,tU (by unfold Zt;rwa[zX,a])]
  show RT
def Hh{X:Cx}{E:XK}{k:Nat}{x:Str}{q:jv}{h:Sp}{e:Expr}{a:jC}{t:TA}{p pos:aJ}(D:Qk X.prog X.w X.K X.mg X.base k x q h)(l:Za k X.A)(n:VW (Z8 X.prog X.w) X E)(i:PA X (e::a) t)(j:Gl X x:=by rfl)(c:(x==("__debug__":Str))=false:=by decide)(g:ar (e::a) X.env=(false,aH e X.env)::ar a X.env:=by rfl)(d:(aF pos (ar a X.env)).any (·.1)=false:=by rfl):PE X (.Call (.Name x p) (e::a) [] pos) (JC h [] E t):=by
 let#[f,fd,F,b,o,m]:=D.ex;show EI F l j m o b .nil n i c g d
theorem pF{gt:jr}(F:Zj K "put_stem" "Shelf.put_stem" JU f fd)(T:Yd mg)(L:Yh K mg jh ji)(DL:-ZB (Z8 P w) 5 jh "labels_of" T2 (Yt jh ji CT))(DO:Qk P w K mg kF 9 "label_over" Tz (WG CS))(DC:-ZB (Z8 P w) 3 jh "check_held" T2 (YN jh ji CH))(DT:-ZB ZZ 3 jh "put_twig" Tg (Y7 jh ji))(DK:-ZB ZZ 2 jh "take_over" TU (Yu jh ji)):
  ZL P w K mg kF (Z8 P w) 10 f fd T2 (YK gt jh ji CS CT CH):=by
 show F.kD Wy λc8 A c5 s H vs Q E hr h=>?_;let#[S,d,lk,l,i,lv,av,W,u,q,ls,ns,rfl,R,hw,c7,C,hl,I,k1,k2]:=h;let nd:=Wy.nd;let c3:=hr.mono (yR Z:5<=9)
 let Y:=hr.mono (yR Z:3<=9)
 let c2:=hr.mono (yR Z:2<=9)
 intro Xc;show#[_,ZO (Zs 2 nd (VB PF Z T.list Uz (ZV (pv 1))))
  (ZO (Zs 3 nd (Hh (E:=E) DO hr (U9 VD λ_ _ _ h=>h) (ZV (YV (E:=E) (pv 0) L.cS DL c3 (U9 VD λ_ _ _ h=>h) (ZV (pv 2))))))
  (ZO (Y0 (YV (E:=E) (pv 0) L.cS DC Y (U9 VD λ_ _ _ h=>h) (ZV (pv 2))))
  (ZO (Zs 4 nd (YV (E:=E0) (pv 0) L.cS DT Y YX (Zg (pv 2) (pv 3))))
  (ZO (Y0 (YV (E:=E0) (pv 0) L.cS DK c2 YX (Zg (pv 4) (pv 2))))
  (ZU (Zl (pv 4))))))),?_]
 exists 1,l,ns.map V.int,Z,.inl (ZH.of hl);intro D nD;let#[H1,eU,g1,J]:=Xg nD (.lst (ns.map V.int));rw[eU];let R1:=R.same g1;let#[a2,a8]:=R1.sh.self;exists 1,S,a2,1,a8,Z,1,S,d,lk,D,i,lv,av,W,u,q,ls,ns,Z,R1,J,I,λx hx=>(k1 x hx).mono g1;intro bs eb y D2 us H2 s2 e7 a7 U;let#[q1,q2,q3]:=k2 bs eb y;let p:∀ b∈bs,b<↑i:=λb h=>R.lt b (y b h);let e5:↑ns=↑bs:=by rw[eb,zX]
 let e6:↑us=↑bs:=#v[U.1,zX _]
 let a0:=g1|||s2;show#[D2,us,Zt i bs,Z,a7,U,HQ (λb a=>hw b _ (Yo (p b a))),(),λH3 s3=>#[λm=>q1 m H3 (a0|||s3),λLb v m kv=>?_]]
 let X:nu (Zt i bs)≠Y':=#v[m,λz=>nomatch z]
 let#[eL,c1,c9,e0,e1,e4,e2]:=MY hw p m;subst eL;let r:=a0|||s3;let R3:=R.same r;let#[a3,a9]:=R3.sh.self;let eI:ns.map V.int=iN bs:=by rw[eb,zH];rfl
 let M:H3 D\.lst (iN bs):=by rwa[<-eI,s3 _ _ (s2 _ _ J)]
 exists 1,S,a3,1,a9,Z,1,S,d,lk,D,i,lv,av,W,u,q,ls,bs,Z,R3,M,y,λb hf=>(q2 X b hf).mono r;intro hf H4 s4;let g:=r|||s4;let R4:=R.same g;let#[a4,n]:=R4.sh.self;let kl:=No kv;let#[B,i0,e9,rfl,e3,_,_]:=kl;let c4:=(No kv).mono (ZC.tups s4);let j:=s4 _ _ M;exists 1,S,a4,1,n,Z,2,S,d,lk,↑i,q,ls,!D,!B,Z,R4.sh,by rw[Iu R];lia
 intro H5 x G nx k fr R5 W5;let a1:YI H4 H5:=λb ys e=>fr b _ (ZE e n) (ZE e R4.sh.kept) e;let N:H5 D\.lst (iN bs):=fr _ _ (ZE j n) (ZE j R4.sh.kept) j;let PP:=Dj (t:=YQ i bs) (x:=x) (th:=D) (tg:=B) (ab:=G) R (H':=H5) (λb o n1 n2 e=>fr b o n1 n2 (g b o e)) (g.free nx) nD (g.free k) (ZW j k).symm R5 W5
  #[iN bs,N,λz=>mZ z (by change (nz i (bs.getD 0 0)).h+1≠0;lia),λ_=>rfl] (c4.mono a1)
 let#[a5,c0]:=R5.self;let el:↑u=↑i:=R.len;let aL:∀ b,b∈lv->(u++[(#[x,D,B,G]:YD)]).getD b .d=u[b]!:=λb y=>IQ (by have:=R.lt b y;lia)
 let aN:(u++[(#[x,D,B,G]:YD)]).getD ↑i .d=#[x,D,B,G]:=by rwa[<-el,Jw]
 let en:↑(i++[YQ i bs])=↑i+1:=by simp
 show#[1,S,a5,1,c0,Z,2,S,d,lk,D,_,_,_,_,_,_,ls,bs,↑i,Z,PP,N,c1,λb a=>?_,λb a=>?_,λH6 a6 e8 R6=>#[1,?_]]
 .let O:=y b a;let c6:=p b a;let nb:b≠↑i:=()
  let h0:W b≠0:=by
   have:=vN.mp hf b a;simpa using this
  exists yG _ O,?_
  .rw[show Xl ↑i W b=W b from aO nb];lia
  .rw[show WR ↑i av b=av b from aO nb];have:=C b O;lia
 .rcases zC.mp a with c|c
  .rwa[aL b c,(ZW (R.tw b c).tw.above nD).symm]
  .rwa[zI.mp c,aN,ZW j k]
 .show q3 X hf H6 #[x,D,B,G] (g.free nx) nD (g.free k) (λc o n1 n2 n3 e=>?_) R6;show a6 c o (λb a=>?_) (fr c o n1 n2 (g c o e));rcases zC.mp a with z|z
  .rwa[aL b z,n3 b z]
  .rwa[zI.mp z,aN,#[ZW e (g.free nx),ZW e (g.free k)]]
abbrev IC:Stmt:=XR (top 35) 15
def tr{g h:aj}{H l:Hp}{S d n:aj}{w:js}{v:jq}{r:Nat->jq}{u:Nat->Nat}{q:jy}{j:ba}{A k:jf}(R:Z7 g h H S d n w v r u q j A)(f:∀ b o,b≠n->H b\o->l b\o)(y:l n\.lst k):Z7 g h l S d n w v r u q j k:=by
 let#[#[x,s],t,a]:=R.sh;let m:YI H l:=λc C e=>f c _ (ZE e a) e;show#[#[#[x,f _ _ (ZE s a) s],f _ _ (ZE t a) t,y],R.keys,R.val,R.lt,R.len,λi p=>?_,R.own,R.two];let W:=R.tw i p;let#[B,z]:=W.tw.self;show W.frame m (λo e=>f _ _ (ZE z a) e) (λo e=>f _ _ (R.own i p).2.2.1 e) (λo e=>f _ _ (R.own i p).2.1 e)
structure Wl(gt:jr)(jh ji:aj)(H:Hp)(S d lk:aj)(ts:js)(lv:jq)(av:Nat->jq)(ho:Nat->Nat)(as:jy)(kvs:ba)(ls:jf):Prop where
 sh:Z7 jh ji H S d lk ts lv av ho as kvs ls
 wf:WF gt ts
 vl:Lv ts lv
 av:∀ i,i∈lv->(av i).Perm (abv ts lv i)
 live:∀ i,i∈lv->1<=↑(abv ts lv i)+ho i
 l800:↑ts<=800
inductive WW(m:jr)(jh ji CD:aj)(p:jf)(H:Hp)(Q:VK)(E:XK):Prop
 |mk(S d n:aj)(g:js)(a:jq)(k:Nat->jq)(c:Nat->Nat)(h:jy)(e:ba)(o:jf)(i:Nat)(_:p=[!S,.int (i:Nat)])(_:Wl m jh ji H S d n g a k c h e o)(_:i∈a)(_:∀(r:aj)(l:jq) b,ZC H b->H r=Y'->b r\.lst (iN l)->Zu g a c i l->Q (!r) b)(_:∀ j,Sh g a c i (Z' j)->UF CD (j:Nat) E H)
abbrev Rw:jv:=["self","number","road","above"]
theorem QY:ZA Rw V' (Zd J1):=Z4
def Hd(l:jq)(b:Nat):Xs (iN (l++[b])) (-1)\.int (b:Nat):=by
 have:iN (l++[b])=iN l++[.int (b:Nat)]:=by simp[iN]
 rwa[this,HF _ _]
theorem wb{gt:jr}(F:Zj K "road_up" "Shelf.road_up" J1 f fd)(L:Yh K mg jh ji)(N:XN P w K mg kF "Shared" CD)(DT:-ZB ZZ 1 jh "twig_of" V' (Ze jh))(DH:-ZB ZZ 2 jh "holders" V' (XW jh ji λ_ k us=>.int ((↑us:Nat)+(k:Nat):Int))):-ZL (Z8 P w) 3 f fd V' (WW gt jh ji CD):=by
 show F.kD QY λa4 A a3 s H vs Q E O h=>?_;let#[S,d,lk,a,n,R,k,y,D,ls,i,rfl,U,hi,k1,k2]:=h;let nd:=QY.nd;let a2:=O.mono (yR Z:1<=2)
 intro Xc;show#[_,ZO (Zs 2 nd (XT (ZV (pv 1)))) (ZU (MP MJ (Yy Uc)
  (ZO (Zz (YF QH (YV (E:=E0) (pv 0) L.cS DH O YX (ZV (Zk K (pv 2) (QL QP ZN)))) ZN (Zx _)) (ZU (Jf VD N O (ZV (Zk K (pv 2) (QL QP ZN))) Z)) Z3)
  (ZO (Zs 3 nd (Xn (YV (E:=E0) (pv 0) L.cS DT a2 YX (ZV (Zk K (pv 2) (QL QP ZN)))) Z))
  (ZO (Zz (YF (Mm O.units0) (pv 3) (XT Z1) (Zx _)) (ZU (Zl (pv 2))) Z3)
  (ZU (Y0 (VL yP xQ xP V9 (pv 2) (ZV (Zk K (pv 3) ZN)))))))))),?_]
 exists 1,YJ;intro r nr;show#[λm σ H'=>∃(b:Nat)(G:jq)(k3:jg),m=VT a (nz a b).h/\σ=[Z' !S,Z' (.int (i:Nat)),Z' !r,k3]/\ZC H H'/\H' r\.lst (iN (G++[b]))/\↑G+VT a (nz a b).h<=↑a/\b∈n/\(∀ o,Sh a n k b o->Sh a n k i o)/\∀ l,Zu a n k b l->Zu a n k i (G++l),
  #[_,i,[],Y',Z,Z,Zf nr _,ZP,by have:=Jm a (nz a i).h;simp;lia,hi,λ_ z=>z,λ_ z=>z],?_]
 rintro m σ H1 ⟨b,G,k3,rfl,rfl,s1,J,rl,B,up,I⟩;show#[1,YA #[_,λ_ _ z=>z,?_]];let u:=U.sh.same s1;let#[dx,hS]:=u.sh.self;let W:=u.tw b B;let#[dt,hx]:=W.tw.self;let C:=U.av b B;let lI:↑(iN (R b))=↑(abv a n b):=(zX _)|||C.length_eq;show#[1,S,dx,1,hS,Z,1,(1),Z,.inl #[r,_,_,.int (b:Nat),Z,Z,ZH.of J,Hd _ _,S,d,lk,↑a,D,ls,(b:Int),_,_,_,_,_,1,#[u.sh,u.val b B,W.tw],?_]];exists _,1,Z,_,Z;show XJ (λc=>?_) (λc=>?_)
 .let v:↑(abv a n b)+k b≠1:=λz=>by
   have:=of_decide_eq_true c;rw[lI] at this
   lia
  show#[1,(1),Z,.inl #[r,_,_,.int (b:Nat),Z,Z,ZH.of J,Hd _ _,1,λdd Y=>(k2 b (up _ (.here v))).go s1 Y]]
 .let v:↑(abv a n b)+k b=1:=by
   have:¬ ((1:Int)<(↑(iN (R b)):Nat)+(k b:Nat)):=λz=>c (aM z);rw[lI] at this;have:=U.live b B
   lia
  show#[1,S,dx,1,hS,Z,1,(1),Z,.inl #[r,_,_,.int (b:Nat),Z,Z,ZH.of J,Hd _ _,S,d,lk,↑a,D,ls,(b:Int),.ref y[b]!.x,Z,u.sh,u.val b B,y[b]!.x,ji,dt,_,.ref y[b]!.ab,Z,hx,L.cT,L.nab,Z,?_]];exists 1,YJ;intro e0 a0;let M:=Zf a0 (.lst []);let e:=M _ _ W.tw.above;let g:=M _ _ J;let t:=s1|||M;exists y[b]!.ab,e0,1,Z,ZH.of e,ZH.of ZP,_,Z;generalize upd H1 e0 (.lst [])=H3 at M e g t⊢
  cases p:abv a n b with
  |nil=>
   rw[p] at C;rwa[C.eq_nil,show (iN ([]:jq)).isEmpty=X' from Z,YA #[1,k1 r _ H3 t nr g (I _ (.top v p))]]
  |cons j q=>
   let X:q=[]:=by
    rw[p,yX] at v;show ms.mp ()
   subst X;rw[p] at C;let T:R b=[j]:=List.perm_singleton.mp C;rw[T] at e⊢;rw[show (iN [j]).isEmpty=false from rfl];let jl:=OG U.wf U.vl (i:=b) (j:=j) #v[p,zT]
   let jt:=U.vl.lt j jl.2;let l8:=U.l800;let jm:=Ml jt jl.1;show Zp #[1,.inl #[Z,_,ZH.of g],1,.inl #[y[b]!.ab,_,(0),.int (j:Nat),Z,Z,ZH.of e,Xu (j:=0) Z,r,_,.int (j:Nat),Z,Z,g,YM (by simp[iN];lia),?_]]
   show#[VT a (nz a j).h,jm,j,G++[b],1,Z,UA t nr,?_,by simp;lia,jl.2,λo a1=>up o (.up v p a1),λl hl=>#v[wR,I _ (.up v p hl)]]
   rw[ZP];simp[iN]
structure XD(K:zZ)(mg:jc)(CD:aj):Prop where
 at_:mg "Shared"=Z' !CD
 ty:xX K (!CD)\.type "type"
 mB:yU K CD (.type "BaseException")\true
 self:yU K CD (!CD)\true
inductive VQ(k:jr)(jh ji:aj)(n:jf)(H:Hp)(Q:VK)(_:XK):Prop
 |mk(S d l:aj)(g:js)(b:jq)(j:Nat->jq)(e:Nat->Nat)(h:jy)(a:ba)(m:jf)(i:Nat)(o:jL)(_:n=[!S,.int (i:Nat)])(_:Wl k jh ji H S d l g b j e h a m)(_:i∈b)(_:Sh g b e i o)(_:∀ c,ZC H c->Q (.bl o.isNone) c)
theorem xy:ZA V' V' (Zd Hm):=Z4
def rh{l:jr}(F:Zj K "alone" "Shelf.alone" Hm f fd)(L:Yh K mg jh ji)(N:XD K mg CD)(n:-ZB (Z8 P w) 3 jh "road_up" V' (WW l jh ji CD)):-ZL ZZ 4 f fd V' (VQ l jh ji):=by
 show F.ko xy λx A c s H vs Q E J h=>?_;let#[S,d,M,T,R,t,I,r,b,O,i,o,rfl,U,D,m,k]:=h;let#[fR,z,q,p,u]:=n.ex;intro W;exists _,ZO (oF (λ_=>pv 0) L.cS q p J u (λ_=>ZV (pv 1)) Z Z Z N.at_ N.ty N.mB (λY V=>ZU (Zl Uc))) (ZU (Zl Uc));let#[y,C]:=U.sh.sh.self;show#[1,S,y,1,C,Z,1,S,d,M,T,R,t,I,r,b,O,i,Z,U,D,λv _ a g _ _ B=>?_,λj G X a g e=>?_]
 .cases m.uniq B.sh;show k a g
 .cases m.uniq G;show#[CD,Z,N.self,k a g]
inductive Xf(jh ji:aj)(n:jf)(H:Hp)(Q:VK)(_:XK):Prop
 |mk(S d l:aj)(k:js)(j:jq)(h:Nat->jq)(i:Nat->Nat)(g:jy)(a:ba)(m:jf)(_:n=[!S])(_:Z7 jh ji H S d l k j h i g a m)(_:∀(e:Hp)(c:aj),H c=Y'->(∀ b o,b≠S->H b\o->e b\o)->Z7 jh ji e S d c k j h i g a []->Q .non e)
theorem uu:ZA T' T' (Zd IC):=Z4
def pJ(F:Zj K "forget" "Shelf.forget" IC f fd)(L:Yh K mg jh ji):-ZL ZZ 1 f fd T' (Xf jh ji):=by
 show F.ko uu λG A u s H vs Q E X h=>?_;let#[S,d,y,B,lv,T,V,O,J,Y,rfl,R,k]:=h;intro N;exists _,ZU (QG (pv 0) (XT Z1) Z);exists YJ;intro p g;let v:=Zf g (.lst []);let C:=R.same v;let#[q,t]:=C.sh.self;exists 1,S,jh,q,1,t,L.cS,L.nl,yR Z;let D:S≠p:=λz=>by erw[z,ZP] at t
 let l:∀ b o,b≠S->H b\o->upd (upd H p (.lst [])) S (.ins jh q (Yi "looks" (!p) (PD d y ↑B))) b\o:=λb o n e=>#v[ZM n,v _ _ e]
 let#[#[U,a],x,I]:=R.sh;let m:YI H (upd (upd H p (.lst [])) S (.ins jh q (Yi "looks" (!p) (PD d y ↑B)))):=λc xs e=>l c _ (ZE e a) e;show k _ p g l #[#[#[q,ZP],l _ _ (ZE x a) x,#v[ZM (Ne.symm D),ZP]],R.keys,R.val,R.lt,R.len,λi j=>?_,λi j=>?_,R.two]
 .let W:=R.tw i j;let#[M,r,_]:=W.things;show W.frame m (λo e=>l _ _ (R.own i j).1 e) (λo e=>l _ _ (ZE r a) e) (λo e=>l _ _ (ZE W.tw.above a) e)
 .let#[M,r,_]:=(R.tw i j).things;show#[(R.own i j).1,ZW (R.tw i j).tw.above g,ZW r g,(R.own i j).2.2.2]
def L0:ai->Bool
 |.bool b=>b
 |_=>false
theorem Js:∀{bs:jU}{a:je},ZR (bs.map V.bl) a->a=bs.map Value.bool
 |[],_,.nil=>rfl
 |b::bs,_,.cons r t=>by
  let e:_=Value.bool b:=r;rw[e,Js t];rfl
inductive Qg(x:V)(a:jf)(H:Hp)(Q:VK):Prop
 |mk(l:aj)(bs:jU)(_:x=!l)(_:a=[.bl true])(_:H l\.lst (bs.map V.bl))(_:Q (.int (bs.countP id:Nat)) H)
def BE:Op X "list.count" Qg:=by
 intro a s A H x w v t Q I m k h;let#[l,bs,rfl,rfl,f,q]:=h;cases m;let#[u,rfl,j]:=k.one;cases(show u=Value.bool true from j);let#[z,i,n,r,p,e]:=I.lstM f;let d:=Js r;subst d;show call_meets F.slot_list_count #[_,e,Z] F.entry_list_count (F.args_list_count_2 _ _) (PySem.SeqAt.list_countAt l _ n Y' ⇑[] (.bool true) L0) #[e,λy g=>?_,?_]
 .let#[b,o,rfl]:=zL.mp (rY.mp g)
  cases b with
  |true=>show Mg (y:=.bl true) (x:=.bl true) Z Z Z Z
  |false=>show Mg (y:=.bl false) (x:=.bl true) Z Z Z Z
 .show#[.int (bs.countP id:Nat),H,I.tok _,#[s.toks,?_],q];let c:(bs.map Value.bool).toArray.toList.countP L0=bs.countP id:=by
   rw[rK,List.countP_map];rfl
  rw[c]
inductive Q7(x:V)(a:jf)(H:Hp)(Q:VK):Prop
 |mk(l:aj)(bs:jU)(j:Nat)(_:x=!l)(_:a=[.bl true])(_:H l\.lst (bs.map V.bl))(_:bs[j]?\true)(_:∀ i,i<j->bs[i]?\false)(_:j<1000)(_:Q (.int (j:Nat)) H)
theorem ux:Op X "list.index" Q7:=by
 intro t s M H x L v K Q I G E h;let#[l,bs,j,rfl,rfl,A,p,k,f,q]:=h;cases G;let#[u,rfl,D]:=E.one;cases(show u=Value.bool true from D);let#[z,C,n,r,J,e]:=I.lstM A;let w:=Js r;subst w;let g:j<↑bs:=(yO.mp p).1;let c:j<(bs.map Value.bool).toArray.size:=#v[g]
 let a:∀ m (d:m<(bs.map Value.bool).toArray.size) b,bs[m]?\b->L0 (bs.map Value.bool).toArray[m]=b:=λm d b o=>by
  have:(bs.map Value.bool).toArray[m]?\Value.bool b:=by simp[o]
  rw[sH d] at this;rw[zB.inj this];rfl
 show call_meets F.slot_list_index #[_,e,Z] F.entry_list_index (F.args_list_index_2 _ _) (PySem.SeqAt.list_indexAt l _ n Y' ⇑[] (.bool true) L0 j c nofun (a j c true p) (λm d i=>a m d false (k m i))) #[e,λy B=>?_,?_]
 .let#[b,o,rfl]:=zL.mp (rY.mp B)
  cases b with
  |true=>show Mg (y:=.bl true) (x:=.bl true) Z Z Z Z
  |false=>show Mg (y:=.bl false) (x:=.bl true) Z Z Z Z
 .show#[.int (j:Nat),H,I.tok _,#[1],q]
def BZ{K:zZ}{o:Expr}{f:TE}{b a p:aJ}{j:Nat}(h:PE X o f)(c:attributeBase o "count" X.env (aH o X.env)=aH o X.env:=by rfl)(e:((aF a (ar [.Constant (.bool true) j p] X.env)).all (λx=>not x.1)&&(backToKw a (keywordEach [] X.env)).all (λx=>x.1.isSome)
   && ng (↑([.Constant (.bool true) j p]:jC)+↑([]:List Keyword)+(if ([]:List Keyword).isEmpty then 0 else 1)<30))=X':=by rfl)(d:(b.endLine==a.line)=X':=by rfl)(g:X.K=K:=by rfl):
  PE X (.Call (.Attribute o "count" b) [.Constant (.bool true) j p] [] a) (La K "list" Qg f (Xp (tC (.bl true)) UY)):=by
 subst g;show VL yP PySem.F.slot_list_count PySem.F.type_list_count BE h (Zi Uc Z1) c e d
def vb{K:zZ}{o:Expr}{f:TE}{b a p:aJ}{j:Nat}(h:PE X o f)(c:attributeBase o "index" X.env (aH o X.env)=aH o X.env:=by rfl)(e:((aF a (ar [.Constant (.bool true) j p] X.env)).all (λx=>not x.1)&&(backToKw a (keywordEach [] X.env)).all (λx=>x.1.isSome)
   && ng (↑([.Constant (.bool true) j p]:jC)+↑([]:List Keyword)+(if ([]:List Keyword).isEmpty then 0 else 1)<30))=X':=by rfl)(d:(b.endLine==a.line)=X':=by rfl)(g:X.K=K:=by rfl):
  PE X (.Call (.Attribute o "index" b) [.Constant (.bool true) j p] [] a) (La K "list" Q7 f (Xp (tC (.bl true)) UY)):=by
 subst g;show VL yP mS pZ ux h (Zi Uc Z1) c e d
variable{jh ji CS CT CH CK CP CB:aj}
def xo{X:Cx}{K:zZ}{e:Expr}{a:TE}{f:Str}{pos:aJ}(d:PE X e a)(c:attributeBase e f X.env (aH e X.env)=aH e X.env)(b:X.K=K:=by rfl):PE X (.Attribute e f pos) (Ce K a f):=by
 subst b;show xr d c
structure Nm(K:zZ)(mg:jc)(CB:aj)(C:Nat->aj):Prop where
 base:mg "TwigError"=Z' !CB
 ty:xX K (!CB)\.type "type"
 mB:yU K CB (.type "BaseException")\true
 n0:mg "NoKey"=Z' (.ref (C 0))
 n1:mg "NoLeaf"=Z' (.ref (C 1))
 n2:mg "NoStem"=Z' (.ref (C 2))
 n3:mg "NoTwig"=Z' (.ref (C 3))
 n4:mg "NotHeld"=Z' (.ref (C 4))
 n5:mg "Shared"=Z' (.ref (C 5))
structure XC(K:zZ)(CB:aj)(C:Nat->aj)(j:Nat):Prop where
 exc:WJ K (C j)
 sub:yU K (C j) (!CB)\true
 val:yK K (.ref (C j)) (.type "ValueError")\true
 k:∀ i,i<6->yK K (.ref (C j)) (.ref (C i))\ng (i=j)
noncomputable def N1:Nat->Str
 |0=> "key"
 |1=> "leaf"
 |2=> "stem"
 |3=> "twig"
 |4=> "held"
 |_=> "shared"
def Sy(K:zZ)(d:aj)(C:Nat->aj)(Q:VK):XK:=λnB g b=>∃ j,j<6/\nB=.ref (C j)/\XC K d C j /\
 ((j<3/\∀ a t,ZC b a->a t\.tup [.str (N1 j)]->Q (!t) a) \/
  (3<=j/\∃ c x e,g\c/\b c\.xd [("number",-x)]/\XG K (C j) e "number" /\ ∀ a t,ZC b a->a t\.tup [.str (N1 j),-x]->Q (!t) a))
inductive XY(P:am)(w:aw)(K:zZ)(mg:jc)(kF:aD)(g:aj)(C:Nat->aj)(h:jf)(H:Hp)(Q:VK)(_:XK):Prop
 |mk(f:aj)(fd c:ao)(b:Sp)(_:h=[!f])(_:-ZL (Z8 P w) 70 f fd [] b)(_:∀ s,BindsTo s fd ⟨[],[]⟩ [])(_:H f\XF f { cls:=.type "function",data:=.func c })(_:∀(e:VK)(d:XK),(∀ v a,(∀ t:aj,a t=Y'->Q (!t) (upd a t (.tup [.str "told",v])))->e v a)->(∀ nB o a,Sy K g C Q nB o a->d nB o a)->b [] H e d)
abbrev y0:jv:=["_law_call","_law_found","e","_law_flags","_law_at"]
theorem Uq:ZA y0 Tu (Zd Hb):=Z4
abbrev nA(j:Nat):jU:=[ng (0=j),ng (1=j),ng (2=j),ng (3=j),ng (4=j),ng (5=j)]
def Re:∀ j,j<6->(nA j).countP id=1/\(nA j)[j]?\true/\∀ i,i<j->(nA j)[i]?\false:=by decide
def SJ:∀ j:Nat,j<3->Xs [V.str "key",V.str "leaf",V.str "stem"] (j:Nat)\.str (N1 j)
 |0,_=>rfl
 |1,_=>rfl
 |2,_=>rfl
def SK:∀ j:Nat,3<=j->j<6->Xs [V.str "twig",V.str "held",V.str "shared"] ((j:Nat)-3)\.str (N1 j)
 |3,_,_=>rfl
 |4,_,_=>rfl
 |5,_,_=>rfl
theorem ut{CB:aj}{C:Nat->aj}(F:Zj K "_law_asked" "_law_asked" Hb f fd)(T:Yd mg)(L:Nm K mg CB C):-ZL ZZ 71 f fd Tu (XY P w K mg kF CB C):=by
 show F.ko Uq λa3 A a2 s H vs Q E hr h=>?_;let#[g,nz,M,a4,rfl,FL,bL,hg,a0]:=h;let y:=Uq.nd;intro Xc;show#[_,ZO (Zs 1 y Mi)
  (ZO (pA (i:=2) (j:=1) (q:=0) FL hr bL Z (Or.inl Z) Z Z Z Z L.base y Z Z L.ty L.mB
   (λa E'=>ZO (Zs 3 y (XT (OQ (Zv (r:=Xx K) NA Z T.isi Xh (Zg (pv 2) (WL (v:=.ref (C 0)) Z L.n0 Z))) (Zv (r:=Xx K) NA Z T.isi Xh (Zg (pv 2) (WL (v:=.ref (C 1)) Z L.n1 Z)))
     (Zv (r:=Xx K) NA Z T.isi Xh (Zg (pv 2) (WL (v:=.ref (C 2)) Z L.n2 Z))) (Zv (r:=Xx K) NA Z T.isi Xh (Zg (pv 2) (WL (v:=.ref (C 3)) Z L.n3 Z))))))
    (ZO (Zs 3 y (Z5 Nd (pv 3) (XT (Zg (Zv (r:=Xx K) NA Z T.isi Xh (Zg (pv 2) (WL (v:=.ref (C 4)) Z L.n4 Z))) (Zv (r:=Xx K) NA Z T.isi Xh (Zg (pv 2) (WL (v:=.ref (C 5)) Z L.n5 Z)))))))
    (ZO (Zz (PW.pt (Wf (YF P4 (BZ (K:=K) (pv 3)) ZN (Zx _))
     (Us (WY (Yy (Zv (r:=Xx K) NA Z T.isi Xh (Zg (pv 2) (We (v:=.ty "ValueError") Z T.ValueError oh Z)))))))) UC Z3)
    (ZO (Zs 4 y (vb (K:=K) (pv 3)))
    (ZO (Zz (YF PH (pv 4) ZN (Zx _)) (ZU (Zl (XH (ZV (Zk K (XT (QO Y8 Y8 Y8)) (pv 4)))))) Z3)
    (ZU (Zl (XH (Zg (Zk K (XT (QO Y8 Y8 Y8)) (Z5 PL (pv 4) ZN)) (xo (pv 2) (by rfl))))))))))) Z Z)
  (ZU (Zl (XH (Zg Y8 (pv 1)))))),?_]
 exists Z,#[M,hg];show a0 _ _ (λv B k2=>?_) λnB z B k2=>?_
 .show#[1,YJ,λt n=>k2 t n]
 .let#[j,hj,rfl,b,u]:=k2;exists C j,Z,b.sub;intro a S;let g1:=Zf S (XO Pj a (C j) z);let d:N8 (upd B a (XO Pj a (C j) z)) a (C j):=RY ZP;let l:upd B a (XO Pj a (C j) z) a\XO Pj a (C j) z:=ZP;generalize upd B a (XO Pj a (C j) z)=H3 at g1 d l⊢;exists 1,a,C j,_,1,d,b.exc,Z,b.k 0 (),1,a,C j,_,1,d,b.exc,Z,b.k 1 (),1,a,C j,_,1,d,b.exc,Z,b.k 2 (),1,a,C j,_,1,d,b.exc,Z,b.k 3 (),YJ
  intro l1 W;let g2:=Zf W (.lst [.bl (ng (0=j)),.bl (ng (1=j)),.bl (ng (2=j)),.bl (ng (3=j))]);let o:=d.mono g2;exists 2,a,C j,_,1,o,b.exc,Z,b.k 4 (),1,a,C j,_,1,o,b.exc,Z,b.k 5 (),YJ
  intro l2 X;let g3:=Zf X (.lst [.bl (ng (4=j)),.bl (ng (5=j))]);exists l1,l2,_,1,Z,g3 _ _ ZP,ZP,YJ;intro p hp;let g4:=Zf hp (.lst ([V.bl (ng (0=j)),.bl (ng (1=j)),.bl (ng (2=j)),.bl (ng (3=j))]++[.bl (ng (4=j)),.bl (ng (5=j))]));let G:=(g2|||g3)|||g4;generalize N:upd (upd (upd H3 l1 (.lst [.bl (ng (0=j)),.bl (ng (1=j)),.bl (ng (2=j)),.bl (ng (3=j))])) l2 (.lst [.bl (ng (4=j)),.bl (ng (5=j))])) p (.lst ([V.bl (ng (0=j)),.bl (ng (1=j)),.bl (ng (2=j)),.bl (ng (3=j))]++[.bl (ng (4=j)),.bl (ng (5=j))]))=H4 at G⊢;let D:H4 p\.lst ((nA j).map V.bl):=by rwa[<-N,ZP]
  let a1:=d.mono G;let I:=G _ _ l;let e:=g1|||G;let#[m,U,Y]:=Re j hj;exists 1,.inl #[Z,_,ZH.of D],p,1,Z,D,Z,_,Z;show Mw (by rw[m];rfl) ?_
  show#[1,a,C j,_,1,a1,b.exc,Z,b.val,1,Zp ?_];exists 1,.inl #[Z,_,ZH.of D],p,_,j,Z,Z,D,U,Y,by lia
  exists 1,_,1,Z,_,Z;rcases u with ⟨j3,u⟩|⟨j3,dx,x,fI,rfl,R,O,u⟩
  .rw[aM (show (j:Int)<3 by lia)]
   show YA #[YJ,λl3 c=>#[1,.inl #[l3,_,_,.str (N1 j),Z,Z,ZH.of ZP,?_,YJ,λt n=>?_]]]
   .show SJ j j3
   .show u _ t ((e|||Zf c _)|||Zf n _) ZP
  .rw[aK (show ¬ (j:Int)<3 by lia)]
   show Zp #[YJ,λl3 c=>?_];let J:=Zf c (.lst [.str "twig",.str "held",.str "shared"]);show#[1,_,1,Z,.inl #[l3,_,_,.str (N1 j),Z,Z,ZH.of ZP,?_,?_]]
   .show SK j j3 hj
   .exists 1,Pj,a,C j,dx,_,-x,fI,Z,J _ _ I,J _ _ (e _ _ R),O,Z,YJ;intro t n;show u _ t ((e|||J)|||Zf n _) ZP
theorem Dh(G:X.calm=X'):Vd X (.builtin "max") (λC H Q=>∃(p:aj)(d:jz),C=[!p]/\ZH X.K H p (d.map V.int)/\d≠[]/\∀ m,m∈d->(∀ x∈d,x<=m)->Q (-m) H):=by
 intro B s Y H C W Q I r h;let#[p,d,rfl,L,t,q]:=h;let#[u,rfl,P]:=UD r;cases P;let#[N,R,O,U]:=I.list L;let b:=IS R;let#[a,e]:=b.allInts.items;let z:=O.isList;rw[e] at z;let y:a.toList.map (·.1)=d:=by
  rwa[<-nums_intItems,<-e,b.numsOf]
 let g:a.size=↑d:=by rw[<-y];simp
 let k:0<a.size:=by
  rwa[g,uW.mpr t]
 show max_intList (I.ok.hd G) z k λv T S A J=>?_;let#[D,w]:=argBest_gt (numAt a) (a.size-1);generalize argBest (λi j=>ng (numAt a i>numAt a j)) (a.size-1)=j at A D w;let o:j<a.size:=()
 let f:∀ i (b:i<a.size),numAt a i=a[i].1:=λi b=>by unfold numAt;simp[b]
 let F:v=.int (numAt a j) a[j].2:=by
  have:=A;unfold intItems at this;simp[o] at this;rwa[f j o,this.symm]
 let c:∀ i (b:i<a.size),d[i]?\numAt a i:=λi b=>by rw[<-y,f i b];simp[b]
 show#[.int (numAt a j),H,I.kept (t':=S) J,#[_,F],q _ (yY (c j o)) λx M=>?_];let#[i,l,E]:=uA M;let n:i<a.size:=()
 have:=c i n;rw[zW l,E] at this;rwa[zB.inj this,w i ()]
inductive Uo(x:V)(c:jf)(H:Hp)(Q:VK):Prop
 |mk(l:aj)(b:jf)(a:jr)(v:V)(t:KT)(j:Nat)(_:x=!l)(_:c=[v])(_:H l\.lst b)(_:kr H a b)(_:ZG H t v)(_:∀ k∈a,k.depth<=100)(_:a[j]?\t)(_:∀ i k,i<j->a[i]?\k->k.eqb t=false)(_:j<1000)(_:Q (.int (j:Nat)) H)
open Classical in
theorem Av{k:Nat}(U:Za (k+3) X.A):Op X "list.index" Uo:=by
 intro M s σ H x vs v us Q I rx rv h;let#[l,ws,L,v0,t,j,rfl,rfl,R,T,V,S,K,G,B,q]:=h;cases rx;let#[u,rfl,ru]:=rv.one;let#[z,b,n,r,hl,e]:=I.lstM R;let Y:=Kb I t v0 u V ru;let kv:=kvals_of I L ws b T r;let lk:=kv.length;let C:j<↑b:=by have:=(yO.mp K).1;lia (splits:=8)
 let p:j<b.toArray.size:=by simpa using C
 let f:∀ m (i:m<b.toArray.size),∃ k,L[m]?\k/\ZY s.heap k b.toArray[m]:=λm i=>by
  let E:m<↑b:=by simpa using i
  let#[a,d,g]:=kv.get (zW E);show#[a,d,#v[g]]
 let o:∀(y:ai)(a:KT),ZY s.heap a y->ng (∃ k,ZY s.heap k y/\k.eqb t=X')=a.eqb t:=λy a w=>by
  cases c:a.eqb t with
  |true=>show aM #[a,w,c]
  |false=>
   show aK ?_;rintro⟨W,O,P⟩;let d:=Ll _ _ (ZY.inj a W y w O);erw[d,P] at c
 show call_meets F.slot_list_index #[_,e,Z] F.entry_list_index (F.args_list_index_2 _ _) (PySem.SeqAt.list_indexAt l _ n Y' ⇑[] u (λy=>ng (∃ k,ZY s.heap k y/\k.eqb t=X')) j p nofun ?_ (λm i D=>?_)) #[e,λy w=>?_,?_]
 .let#[a,d,g]:=f j p;erw[K] at d;show aM #[t,g,MU t]
 .let#[a,d,g]:=f m i;rwa[o _ a g,G m a D d]
 .let#[m,i,N]:=uA (rY.mp w);let#[a,d,g]:=f m #v[i]
  let J:ZY s.heap a y:=by rw[<-N];simpa using g
  rwa[o y a J,Ht a.depth a t _ y u (zY _) J Y ((Za.key U.in1) (zR (S a (yY d)) nofun))]
 .show#[.int (j:Nat),H,I.tok _,#[1],q]
class Ko where
 k0:SortKind
 k1:km->Int
 k2:km->Prop
section
variable[κ:Ko]
abbrev QI:SortKind:=κ.k0
abbrev kv(p:km):Int:=κ.k1 p
abbrev QM(p:km):Prop:=κ.k2 p
class KoOk (prog:am) (w:aw) (A:ax) (s:ak):Prop where
 lt:∀{E:ja}{p q:km}{Q:Bool->ak->Prop},QM p->QM q->Q (ng (kv p<kv q)) s->aB ↥_ A (keyLt' QI p.1 q.1) Q E s
noncomputable def Kk(a:ju)(i:Nat):Int:=match a[i]? with
 |some p=>kv p
 |none=>0
def Pz(a:ju)(k:Nat):=∀ i j,i<=j->j<k->Kk a i<=Kk a j
def Wn(a:ju):=∀ p,p∈a.toList->QM p
def Hr{a b:ju}{i j:Nat}(h:a[i]?=b[j]?):Kk a i=Kk b j:=by unfold Kk;rw[h]
def Gq{b:ju}{a d:Nat}(g:a<b.size)(f:d<=a)(k:Nat):Kk (bubble b a d) k=if k=a-d then Kk b a else if a-d<k/\k<=a then Kk b (k-1) else Kk b k:=by
 unfold Kk;rw[getElem?_bubble g d f k];by_cases c:k=a-d
 .rw[aP c,aP c]
 rw[aO c,aO c];by_cases e:a-d<k/\k<=a
 .rw[aP e,aP e]
 .rw[aO e,aO e]
def Es{a:ju}{i j:Nat}(b:j<=a.size)(k:Nat):Kk (mirror a i j ((j-i)/2)) k=if i<=k/\k<j then Kk a (i+j-1-k) else Kk a k:=by
 unfold Kk;rw[getElem?_mirror_all b k];by_cases h:i<=k/\k<j
 .rw[aP h,aP h]
 .rw[aO h,aO h]
theorem El{a:ju}{i j:Nat}(b:j<=a.size)(h:∀ k,i<=k->k<j->Kk a k=Kk a (j-1))(k:Nat):Kk (mirror a i j ((j-i)/2)) k=Kk a k:=by
 rw[Es b];split
 .rw[h _ () (),h k () ()]
 .rfl
noncomputable def TX:Bool->km->ju->Nat->Nat->Nat->StateT ke Sem (jL):=sortPriv% PySem.Builtin.gallop
section
variable{α:Type}{x y:StateT ke Sem α}{Q:α->ke->Prop}{st:ke}
def Vg{c:Prop}{_:Decidable c}(h:c->wpS ↥_ A E s x Q st)(g:¬c->wpS ↥_ A E s y Q st):wpS ↥_ A E s (if c then x else y) Q st:=by
 by_cases z:c
 .rwa[aP z,h z]
 .rwa[aO z,g z]
def N0{c:Prop}{_:Decidable c}(h:c->wpS ↥_ A E s x Q st)(g:¬c->wpS ↥_ A E s y Q st):wpS ↥_ A E s (if ng c=X' then x else y) Q st:=Vg (λz=>h (of_decide_eq_true z)) λz=>g λe=>z (aM e)
def Wm{a b:Nat}(h:a=b->wpS ↥_ A E s x Q st)(g:¬a=b->wpS ↥_ A E s y Q st):wpS ↥_ A E s (if (a==b)=X' then x else y) Q st:=Vg (λz=>h (eq_of_beq z)) λz=>g λe=>z #v[e,beq_self_eq_true _]
end
section
variable[KoOk prog w A s]
def KM{a:ke}{p q:km}{Q:jS->ke->Prop}(b:kindOf a=QI)(c:QM p)(d:QM q)(h:Q (Z' (ng (kv p<kv q))) a):wpS ↥_ A E s (lt' p q) Q a:=by
 rw[lt'_eq];show jX (wpS_get ?_);rwa[b,jX (wpS_lift (wpAny_attempt (KoOk.lt c d #[Z,jY h])))]
def Kg{a:ke}{b:ju}{i:Nat}{p:km}{Q:km->ke->Prop}(e:b[i]?\p)(h:Q p a):wpS ↥_ A E s (elem' b i) Q a:=by
 rwa[elem'_eq,e,jY h]
def Nu{b:Type}{r:String}{f:Unit->StateT ke Sem b}{a:ke}{Q:b->ke->Prop}(h:wpS ↥_ A E s (f .unit) Q a):wpS ↥_ A E s (liftM (rule r)>>=f) Q a:=jX (wpS_lift (wpAny_rule #[Z,h]))
def Lo{a:ju}{i:Nat}(b:Wn a)(c:i<a.size):∃ p,a[i]?\p/\QM p/\Kk a i=kv p:=by
 let e:a[i]?\a[i]:=getElem?_pos a i c;exists _,e,b _ ⋯
 unfold Kk;rw[e]
section
variable{α:Type}{Q:α->ke->Prop}{st:ke}
def Pi{a:ju}{i:Nat}{p:km}{f:km->StateT ke Sem α}(e:a[i]?\p)(h:wpS ↥_ A E s (f p) Q st):wpS ↥_ A E s (elem' a i>>=f) Q st:=jX (Kg e h)
def QT{a:ju}{i:Nat}{f:km->StateT ke Sem α}(c:Wn a)(d:i<a.size)(h:∀ p,a[i]?\p->QM p->Kk a i=kv p->wpS ↥_ A E s (f p) Q st):wpS ↥_ A E s (elem' a i>>=f) Q st:=by
 let#[p,e,g,b]:=Lo c d;show Pi e (h p e g b)
def FC{p q:km}{f:jS->StateT ke Sem α}(a:kindOf st=QI)(b:QM p)(c:QM q)(h:wpS ↥_ A E s (f (Z' (ng (kv p<kv q)))) Q st):wpS ↥_ A E s (lt' p q>>=f) Q st:=jX (KM a b c h)
def ON{d:Type}{a b:Nat}{F:Nat->d->StateT ke Sem (ForInStep d)}{c:d}{g:d->StateT ke Sem α}(I:Nat->d->ke->Prop)(R:d->ke->Prop)(j:I a c st)(step:∀ i c st,a<=i->i<b->I i c st->wpS ↥_ A E s (F i c) (λr f=>match r with|.done c'=>R c' f|.yield c'=>I (i+1) c' f) st)(h:∀ c st,I (max a b) c st->R c st)(e:∀ c st,R c st->wpS ↥_ A E s (g c) Q st):wpS ↥_ A E s (forIn [a:b] c F>>=g) Q st:=jX (kj (ki I step h j) e)
end
def bK(c:Bool)(b:km)(a:ju)(i:Nat):Bool:=if c then ng (Kk a i<kv b) else !ng (kv b<Kk a i)
def MM{d:ke}{a:Bool}{c:km}{b:ju}{i:Nat}{Q:jS->ke->Prop}(f:kindOf d=QI)(l:Wn b)(m:i<b.size)(j:QM c)(h:Q (Z' (bK a c b i)) d):
  wpS ↥_ A E s (elem' b i>>=λx=>if a=X' then lt' x c else lt' c x>>=λr=>pure (r.map not)) Q d:=by
 let#[p,e,g,k]:=Lo l m;show jX (Kg e ?_);unfold bK at h;rw[k] at h;cases a
 .rw[aO ⋯]
  show jX (KM f j g (jY h))
 .rwa[aP Z,KM f g j h]
theorem Ho{t:Type}{f:Nat->Option t×Nat×Nat->StateT ke Sem (ForInStep (Option t×Nat×Nat))}{n b a:Nat}{B:Nat->Bool}{o:ke}{Q:Option t×Nat×Nat->ke->Prop}(G:b<=a)(H:a<=n)(D:∀ i,i<b->B i=X')(z:∀ i,a<=i->i<n->B i=false)(d:∀ i j,i<=j->j<n->B j=X'->B i=X')(J:∀ x b a (u:ForInStep (Option t×Nat×Nat)->ke->Prop),a<=n->(a<=b->u (.done (Y',b,a)) o)->(∀ m,b<=m->m<a->u (.yield (if B m then (Y',m+1,a) else (Y',b,m))) o)->wpS ↥_ A E s (f x (Y',b,a)) u o)(h:∀ k,k<=n->(∀ i,i<k->B i=X')->(∀ i,k<=i->i<n->B i=false)->Q (Y',k,k) o):wpS ↥_ A E s (forIn [0:n] (Y',b,a) f) Q o:=by
 show ki (I:=λx c g=>g=o/\∃ b a,c=(Y',b,a)/\b<=a/\a<=n/\a-b<=n-x/\(∀ i,i<b->B i=X')/\∀ i,a<=i->i<n->B i=false) ?_ ?_ #[Z,b,a,Z,G,H,(),D,z]
 .rintro x c g _ K ⟨rfl,b,a,rfl,F,e,v,q,r⟩;show J x b a _ e (λc=>?_) λm p l=>?_
  .have:b=a:=()
   subst this;show h _ e q r
  .cases y:B m
   .rw[aO ⋯]
    show#[Z,b,m,Z,p,zR (yJ l) e,Nat.le_sub_one_of_lt (yV (Nat.sub_lt_sub_right p l) v),q,λi p l=>by
     cases C:B i with
     |false=>rfl
     |true=>erw[d m i p l C] at y]
   .rwa[aP Z,#[Z,m+1,a,Z,l,e,zR (Nat.sub_le_sub_left (tN p) _) (Nat.sub_le_sub_right v 1),λi c=>d i m (Nat.le_of_lt_succ c) (yV l e) y,r]]
 .rintro c g ⟨rfl,b,a,rfl,F,e,v,q,r⟩;have:b=a:=()
  subst this;show h _ e q r
theorem GD{D:ke}{b:Bool}{g:km}{f:ju}{a n d:Nat}{Q:jL->ke->Prop}(J:kindOf D=QI)(K:QM g)(G:Wn f)(hn:a+n<=f.size)(X:d<n)(p:∀ i j,i<=j->j<n->bK b g f (a+j)=X'->bK b g f (a+i)=X')(h:∀ k,k<=n->(∀ i,i<k->bK b g f (a+i)=X')->(∀ i,k<=i->i<n->bK b g f (a+i)=false)->Q (Z' k) D):wpS ↥_ A E s (TX b g f a n d) Q D:=by
 let y:∀ i j,i<=j->j<n->bK b g f (a+i)=false->bK b g f (a+j)=false:=λi j L M T=>by
  cases e:bK b g f (a+j) with
  |false=>rfl
  |true=>erw[p i j L M e] at T
 show jX (MM J G () K ?_)
 dsimp only;cases U:bK b g f (a+d)
 .rw[aO ⋯]
  show jX (kj (ki (I:=λx c m=>m=D/\∃ l o,c=(Y',l,o)/\l<o/\x+1<=o/\l<d+1/\bK b g f (a+(d-l))=false)
   (Q:=λc m=>m=D/\∃ l o,c=(Y',l,o)/\l<o/\l<d+1/\bK b g f (a+(d-l))=false/\(d+1<=o\/bK b g f (a+(d-o))=X')) ?_ ?_ #[Z,(0),(1),Z,(),(),(),U]) ?_)
  .rintro x c m _ Y ⟨rfl,l,o,rfl,t,F,q,r⟩;dsimp only;show Vg (λc=>?_) λc=>?_
   .show jY #[Z,l,o,Z,t,q,r,.inl c]
   show jX (MM J G () K ?_)
   dsimp only;cases u:bK b g f (a+(d-o))
   .rw[aO ⋯]
    show jY #[Z,o,2*o+1,Z,(),(),(),u]
   .rwa[aP Z,jY #[Z,l,o,Z,t,q,r,.inr u]]
  .rintro c m ⟨rfl,l,o,rfl,t,F,q,r⟩;show#[Z,l,o,Z,t,q,r,.inl ()]
  .rintro c m ⟨rfl,l,o,rfl,t,F,q,r⟩;dsimp only;show jX (Ho (B:=λi=>bK b g f (a+i)) (zR (Nat.sub_le_sub_left (Nat.le_min.mpr #[t,F]) _) (vW (Nat.add_sub_add_right d 1 l))) (zR (vJ _ _) (yJ X)) (λi c=>?_) (λi L M=>y _ _ L M q) p (λx v H V W N O=>?_) λk P R S=>jY (h k P R S))
   .rcases r with z|z
    .rw[Nat.min_eq_right z,Nat.sub_self] at c;show mZ c (uL _)
    .show p i _ () () z
   .dsimp only;show Vg (λc=>?_) λc=>?_
    .show jY (N c)
    .show jX (MM J G () K ?_)
     let C:=O (v+(H-v)/2) () ()
     cases u:bK b g f (a+(v+(H-v)/2))<;>rw[u] at C
     .show jY C
     .show jY C
 .rw[aP rfl];show jX (kj (ki (I:=λx c m=>m=D/\∃ l o,c=(Y',l,o)/\l<o/\x+1<=o/\l<n-d/\bK b g f (a+(d+l))=X')
   (Q:=λc m=>m=D/\∃ l o,c=(Y',l,o)/\l<o/\l<n-d/\bK b g f (a+(d+l))=X'/\(n-d<=o\/bK b g f (a+(d+o))=false)) ?_ ?_ #[Z,(0),(1),Z,(),(),(),U]) ?_)
  .rintro x c m _ Y ⟨rfl,l,o,rfl,t,F,q,r⟩;dsimp only;show Vg (λc=>?_) λc=>?_
   .show jY #[Z,l,o,Z,t,q,r,.inl c]
   show jX (MM J G () K ?_)
   dsimp only;cases u:bK b g f (a+(d+o))
   .rw[aP ⋯]
    show jY #[Z,l,o,Z,t,q,r,.inr u]
   .rw[aO ⋯]
    show jY #[Z,o,2*o+1,Z,(),(),(),u]
  .rintro c m ⟨rfl,l,o,rfl,t,F,q,r⟩;show#[Z,l,o,Z,t,q,r,.inl ()]
  .rintro c m ⟨rfl,l,o,rfl,t,F,q,r⟩;dsimp only;show jX (Ho (B:=λi=>bK b g f (a+i)) () () (λi c=>p i _ () () q) (λi L M=>?_) p (λx v H V W N O=>?_) λk P R S=>jY (h k P R S))
   .rcases r with z|z
    .lia
    .show y (d+o) i () () z
   .dsimp only;show Vg (λc=>?_) λc=>?_
    .show jY (N c)
    .show jX (MM J G () K ?_)
     let C:=O (v+(H-v)/2) () ()
     cases u:bK b g f (a+(v+(H-v)/2))<;>rw[u] at C
     .show jY C
     .show jY C
end
structure MI(R:km->km->Prop)(L out ra rb:jE):Prop where
 perm:(out++(ra++rb)).Perm L
 sa:(out++ra).Pairwise R
 sb:(out++rb).Pairwise R
def MI.swap{R:km->km->Prop}{L a b c:jE}(h:MI R L a b c):MI R L a c b:=
 #[((wX.refl a).append mj)|||h.perm,h.sb,h.sa]
def MI.takeA{R:km->km->Prop}{L a b c:jE}(h:MI R L a b c)(k:Nat)(l:∀ x∈b.take k,∀ y∈c,R x y):MI R L (a++b.take k) (b.drop k) c:=by
 let e:a++b.take k++b.drop k=a++b:=by rw[wR,wQ]
 exists ?_,#v[e,h.sa]
 .rwa[<-wR,e,wR,h.perm]
 .let d:=h.sa;rw[<-e] at d;let j:=(xI.mp d).1;let#[_,g,i]:=xI.mp h.sb;show xI.mpr #[j,g,λx m y f=>?_];rcases zC.mp m with z|z
  .show i x z y f
  .show l x z y f
def MI.takeB{R:km->km->Prop}{L a c b:jE}(h:MI R L a c b)(k:Nat)(d:∀ x∈b.take k,∀ y∈c,R x y):MI R L (a++b.take k) c (b.drop k):=(h.swap.takeA k d).swap
def MC{a:ju}{i:Nat}{p:km}(e:a[i]?\p):a.toList.drop i=p::a.toList.drop (i+1):=by
 rw[<-yC] at e;let#[h,e]:=yO.mp e;rwa[<-e,wZ h]
def Np{a:ju}{i:Nat}{p:km}(e:a[i]?\p):Kk a i=kv p:=by
 unfold Kk;rw[e]
theorem NG{xs:ju}{i k:Nat}{p:km}(h:p∈(xs.toList.drop i).take k):∃ j,i<=j/\j<i+k/\j<xs.size/\kv p=Kk xs j:=by
 let#[m,a,e]:=List.mem_iff_getElem.mp h;rw[List.getElem_take,List.getElem_drop] at e;rw[wS,vA,yD] at a;exists i+m,(),(),by lia
 rwa[<-e,(Np (by rw[<-yC];show zW _)).symm]
def NB{xs:ju}{i:Nat}{p:km}(h:p∈xs.toList.drop i):∃ j,i<=j/\j<xs.size/\kv p=Kk xs j:=by
 let#[j,a,_,b,c]:=NG (xs:=xs) (i:=i) (k:=xs.size) #v[yQ (by rw[vA,yD];lia),h]
 show#[j,a,b,c]
def Nr(a:ju)(i k:Nat):(a.extract i (i+k)).toList=(a.toList.drop i).take k:=by
 rw[tW,tX,sP]
def Kp(a:ju)(i:Nat):(a.extract i a.size).toList=a.toList.drop i:=by
 rw[tW,tX,yQ (by rw[vA,yD];lia)]
def WB(p q:km):Prop:=kv p<=kv q
def nH(L:jE)(r:ju):Prop:=r.toList.Perm L/\r.toList.Pairwise WB
structure Sm(st st':ke):Prop where
 kind:kindOf st'=kindOf st
 arr:jZ st'=jZ st
 pend:kf st'=kf st
 failed:failedOf st'=failedOf st
def T6:Nat->StateT ke Sem Unit:=sortPriv% PySem.Builtin.setMinGallop
def TN:ju->ju->StateT ke Sem (ju):=sortPriv% PySem.Builtin.mergeLo
section
variable{a b out:ju}{ia ib:Nat}{L:jE}
def Ms(m:MI WB L out.toList (a.toList.drop ia) (b.toList.drop ib))(h:b.size<=ib\/a.size<=ia):nH L (out++a.extract ia a.size++b.extract ib b.size):=by
 unfold nH;rw[xA,xA,Kp,Kp];exists #v[wR,m.perm]
 rcases h with z|z
 .rw[sQ (l:=b.toList) #v[yD,z],xD]
  show m.sa
 .rw[sQ (l:=a.toList) #v[yD,z],xD]
  show m.sb
theorem Ku(m:MI WB L out.toList (a.toList.drop ia) (b.toList.drop ib))(h:ia+1=a.size)(f:∀ j,j<b.size->Kk b j<=Kk a (a.size-1)):nH L (out++b.extract ib b.size++a.extract ia a.size):=by
 unfold nH;rw[xA,xA,Kp,Kp];exists #v[wR,m.swap.perm]
 let#[_,d,e]:=xI.mp m.sa;show xI.mpr #[m.sb,d,λx g y c=>?_];rcases zC.mp g with z|z
 .show e x z y c
 .let#[j,_,l,n]:=NB z;let#[i,o,p,k]:=NB c;have:=f j l;unfold WB;rw[n,k,show i=a.size-1 by lia]
  show this
end
section
variable[KoOk prog w A s]
def FJ{d a:Type}{c:a->Prop}{_:∀ n,Decidable (c n)}{x J:a->StateT ke Sem d}{Q:d->ke->Prop}{b:ke}(f:∀ n,∃ m,x n=J m)(k:∀ n,wpS ↥_ A E s (J n) Q b)(n:a):wpS ↥_ A E s (if c n then x n else J n) Q b:=by
 show Vg (λh=>?_) λh=>?_
 .let#[m,e]:=f n;rwa[e,k m]
 .show k n
def Lx{g b d:Type}{c:Prop}{_:Decidable c}{x J:b->d->StateT ke Sem g}{Q:g->ke->Prop}{a:ke}{e:b->d->Prop}(P:b->d->Prop)(k:∀ o i,P o i->wpS ↥_ A E s (J o i) Q a)(j:¬c->∀ o i,e o i->P o i)(l:c->(∀ o i,P o i->wpS ↥_ A E s (J o i) Q a)->∀ o i,e o i->wpS ↥_ A E s (x o i) Q a)(o:b)(i:d)(f:e o i):wpS ↥_ A E s (if c then x o i else J o i) Q a:=by
 show Vg (λh=>?_) λh=>?_
 .show l h k o i f
 .show k o i (j h o i f)
def uh{a:ke}{g:Nat}{Q:Unit->ke->Prop}(h:∀ b,Sm a b->Q .unit b):wpS ↥_ A E s (T6 g) Q a:=
 wpS_modify (f:=λa=>SortSt.mk' (kindOf a) (jZ a) (kf a) g (failedOf a)) (h _ #[Z,Z,Z,Z])
def Sm.trans{c b a:ke}(h:Sm c b)(g:Sm b a):Sm c a:=#[g.kind|||h.kind,g.arr|||h.arr,g.pend|||h.pend,g.failed|||h.failed]
theorem JV{b:Bool}{d:km}{c:ju}{a n:Nat}(h:∀ i j,i<=j->j<n->Kk c (a+i)<=Kk c (a+j)):∀ i j,i<=j->j<n->bK b d c (a+j)=X'->bK b d c (a+i)=X':=λi j f g e=>by
 have:=h i j f g;unfold bK at e⊢;cases b
 .simp at e⊢
  lia
 .simp at e⊢
  lia
def U0{b:km}{a:ju}{i:Nat}:(bK false b a i=X'↔Kk a i<=kv b)/\(bK false b a i=false↔kv b<Kk a i):=by
 unfold bK;constructor<;>simp
def QD{b:km}{a:ju}{i:Nat}:(bK true b a i=X'↔Kk a i<kv b)/\(bK true b a i=false↔kv b<=Kk a i):=by
 unfold bK;constructor<;>simp
structure Nc(a b:ju)(L:jE)(X:Nat)(out:ju)(ia ib:Nat):Prop where
 m:MI WB L out.toList (a.toList.drop ia) (b.toList.drop ib)
 ha:ia+1<a.size
 hb:ib<b.size
 hx:X<=ia+ib
inductive Kr{γ:Type}(st:ke)(a b:ju)(L:jE)(x:Nat):Option (ju)×ju×Nat×Nat×γ->ke->Prop
 |mk{out:ju}{ia ib:Nat}{g:γ}{st':ke}:Sm st st'->Nc a b L x out ia ib->Kr st a b L x (Y',out,ia,ib,g) st'
inductive KN{γ:Type}(st:ke)(a b:ju)(L:jE)(x:Nat):Option (ju)×ju×Nat×Nat×γ->ke->Prop
 |more{out:ju}{ia ib:Nat}{g:γ}{st':ke}:Sm st st'->Nc a b L x out ia ib->KN st a b L x (Y',out,ia,ib,g) st'
 |done{r:ju}{c:ju×Nat×Nat×γ}{st':ke}:Sm st st'->nH L r->KN st a b L x (Z' r,c) st'
inductive Jb{γ:Type}(st:ke)(L:jE):Option (ju)×γ->ke->Prop
 |mk{r:ju}{c:γ}{st':ke}:Sm st st'->nH L r->Jb st L (Z' r,c) st'
structure nW(a b:ju)(L:jE)(X:Nat)(p:km)(k:Nat)(out:ju)(ia ib:Nat):Prop where
 I:Nc a b L X out ia ib
 k1:k<=a.size-ia
 k2:∀ i,i<k->Kk a (ia+i)<=kv p
 k3:∀ i,k<=i->i<a.size-ia->kv p<Kk a (ia+i)
structure Ar(a b:ju)(L:jE)(X:Nat)(p:km)(out:ju)(ia ib:Nat):Prop where
 I:Nc a b L X out ia ib
 hp:∀ j,ia<=j->j<a.size->kv p<=Kk a j
structure Be(a b:ju)(L:jE)(q:km)(k:Nat)(O:ju)(ia ib jb:Nat):Prop where
 m:MI WB L O.toList (a.toList.drop ia) (b.toList.drop jb)
 h1:jb<b.size
 h2:ib<jb
 k1:k<=b.size-jb
 k2:∀ i,i<k->Kk b (jb+i)<kv q
 k3:∀ i,k<=i->i<b.size-jb->kv q<=Kk b (jb+i)
structure nX(a b:ju)(L:jE)(q:km)(O:ju)(ia ib jb:Nat):Prop where
 m:MI WB L O.toList (a.toList.drop ia) (b.toList.drop jb)
 h1:jb<b.size
 h2:ib<jb
 hp:∀ j,jb<=j->j<b.size->kv q<=Kk b j
def Sm.refl(a:ke):Sm a a:=#[Z,Z,Z,Z]
def Nc.tb{a b:ju}{L:jE}{X:Nat}{c:ju}{d f:Nat}{p:km}(I:Nc a b L X c d f)(e:b[f]?\p)(h:∀ j,d<=j->j<a.size->kv p<=Kk a j):MI WB L (c.push p).toList (a.toList.drop d) (b.toList.drop (f+1)):=by
 let m:=I.m.takeB 1 (λx g y i=>by
  let#[j,k,l,n]:=NB (xs:=a) i;rw[MC e,uV,vC] at g;unfold WB;rwa[zI.mp g,n,h j k l])
 rw[vD,MC e,uV,vC,<-sJ] at m;show m
def MI.ta{a b:ju}{L:jE}{c:ju}{d f:Nat}{p:km}(I:MI WB L c.toList (a.toList.drop d) (b.toList.drop f))(e:a[d]?\p)(h:∀ j,f<=j->j<b.size->kv p<=Kk b j):MI WB L (c.push p).toList (a.toList.drop (d+1)) (b.toList.drop f):=by
 let m:=I.takeA 1 (λx g y i=>by
  let#[j,k,l,n]:=NB (xs:=b) i;rw[MC e,uV,vC] at g;unfold WB;rwa[zI.mp g,n,h j k l])
 rw[vD,MC e,uV,vC,<-sJ] at m;show m
theorem KR{l:Type}{g:ke}{c:Bool}{d:km}{a:ju}{b n e:Nat}{f:jL->StateT ke Sem l}{Q:l->ke->Prop}(p:kindOf g=QI)(r:QM d)(m:Wn a)(t:Pz a a.size)(q:b+n<=a.size)(o:e<n)(h:∀ k,k<=n->(∀ i,i<k->bK c d a (b+i)=X')->(∀ i,k<=i->i<n->bK c d a (b+i)=false)->wpS ↥_ A E s (f (Z' k)) Q g):wpS ↥_ A E s (TX c d a b n e>>=f) Q g:=
 jX (GD p r m q o (JV λi j u v=>t _ _ () ()) h)
def Kw{c:Type}{b:ke}{g:Nat}{f:Unit->StateT ke Sem c}{Q:c->ke->Prop}(h:∀ a,Sm b a->wpS ↥_ A E s (f .unit) Q a):wpS ↥_ A E s (T6 g>>=f) Q b:=jX (uh h)
def Hk{b:Type}{a:ke}{f:ke->StateT ke Sem b}{Q:b->ke->Prop}(h:wpS ↥_ A E s (f a) Q a):wpS ↥_ A E s (get>>=f) Q a:=jX (wpS_get h)
theorem ox{F:ke}{a b:ju}{Q:ju->ke->Prop}(hk:kindOf F=QI)(ka:Wn a)(kb:Wn b)(a1:1<=a.size)(b1:1<=b.size)(sa:Pz a a.size)(sb:Pz b b.size)(h0:∀ i,i<a.size->Kk b 0<=Kk a i)(hl:∀ j,j<b.size->Kk b j<=Kk a (a.size-1))(pa:a.toList.Pairwise WB)(pb:b.toList.Pairwise WB)(h:∀ r f,Sm F f->nH (a.toList++b.toList) r->Q r f):wpS ↥_ A E s (TN a b) Q F:=by
 show Nu (QT kb b1 λp0 e0 i0 k0=>?_);let m0:MI WB (a.toList++b.toList) [p0].toArray.toList (a.toList.drop 0) (b.toList.drop 1):=by
  let m:MI WB (a.toList++b.toList) [] a.toList b.toList:=#[wX.refl _,pa,pb];let l:=m.takeB 1 (λx J y W=>by
   let#[i,_,i1,_,Y]:=NG (xs:=b) (i:=0) (k:=1) J;let#[j,_,t,B]:=NB (xs:=a) (i:=0) W;have:=h0 j t;unfold WB;rw[Y,B,show i=0 by lia]
   show this)
  let e:=MC e0;rw[mX] at e;rw[e] at l⊢;show l
 show Wm (λc1=>jY (h _ _ (Sm.refl _) (Ms m0 (.inl ())))) λc1=>Wm (λc2=>jY (h _ _ (Sm.refl _) (Ku m0 c2 hl))) λc2=>Hk ?_
 generalize hL:a.toList++b.toList=L at m0 h;show ON (Kr F a b L) (Jb F L) #[Sm.refl _,m0,(),(),()] ?step ?fin ?post
 case post=>
  rintro _ f ⟨d,g⟩;show jY (h _ f d g)
 case fin=>
  rintro _ f ⟨d,i⟩;have:=i.ha;have:=i.hb;have:=i.hx
  lia
 case step=>
  rintro X _ f _ hX ⟨d,I⟩;show ON (λx=>Kr F a b L (X+x)) (KN F a b L (X+1)) #[d,I] ?istep ?ifin ?ipost
  case ifin=>
   rintro _ z ⟨d,I⟩;show .more d #[I.m,I.ha,I.hb,by have:=I.hx;lia]
  case istep=>
   clear d I;rintro x _ f _ J ⟨d,I⟩;dsimp only;let C:=I.ha;let R:=I.hb;let S:=I.hx;show QT kb I.hb λp T ip kp=>QT ka () λq U iq kq=>FC (d.kind|||hk) ip iq (N0 (λc=>Pi T ?_) λc=>Pi U ?_)
   .let l:=I.tb T λj M t=>by
     have:=sa _ j M t
     lia
    show Wm (λu=>jY (.done d (Ms l (.inl ())))) λu=>Vg (λG=>jY (.more d #[l,(),(),()])) λG=>jY #[d,l,(),(),()]
   .let l:=I.m.ta U λj M t=>by
     have:=sb _ j M t
     lia
    show Wm (λu=>jY (.done d (Ku l u hl))) λu=>Vg (λG=>jY (.more d #[l,(),(),()])) λG=>jY #[d,l,(),(),()]
  case ipost=>
   clear d I;rintro _ f (⟨d,I⟩|⟨d,gd⟩)
   rotate_left
   .show jY #[d,gd]
   show Nu (ON (λ_=>Kr F a b L (X+1)) (KN F a b L (X+1)) #[d,I] ?gstep ?gfin ?gpost)
   case gfin=>
    rintro _ f ⟨d,I⟩;show .more d I
   case gpost=>
    rintro _ f (⟨d,I⟩|⟨d,gd⟩)
    .show Kw λz D=>jY #[d|||D,I]
    .show jY #[d,gd]
   case gstep=>
    clear d I;rintro x _ _ _ J (@⟨v,n,K,⟨g,ac,bc⟩,f,d,I⟩);dsimp only
    revert g
    show FJ (λ_=>#[1]) λg=>Kw λz D=>?_;let d:=d|||D;clear D;let V:kindOf z=QI:=d.kind|||hk;let C:=I.ha;let R:=I.hb;show QT kb I.hb λp T ip kp=>KR V ip ka sa () () λk k1 k2 k3=>?_
    dsimp only;let H:nW a b L (X+1) p k v n K:=#[I,k1,λi h=>U0.1.mp (k2 i h),λi h1 D=>U0.2.mp (k3 i h1 D)];clear I k1 k2 k3 C
    revert H
    revert n
    revert v
    show no_implicit_lambda% (Lx (λa0 a2=>Ar a b L (X+1) p a0 a2 K) (λv n I=>?_) (λc v n H=>?_) (λc N v n H=>?_))
    .let hp:=I.hp;let I:=I.I;let C:=I.ha;let S:=I.hx;show Pi T ?_;let l:=I.tb T hp;show Wm (λu=>jY (.done d (Ms l (.inl ())))) λu=>QT ka () λq U iq kq=>KR V iq kb sb () () λk k1 k2 k3=>?_
     dsimp only;generalize v.push p=O at l⊢;let H:Be a b L q k O n K (K+1):=#[l,(),(),k1,λi h=>QD.1.mp (k2 i h),λi h1 D=>QD.2.mp (k3 i h1 D)]
     clear l k1 k2 k3 u
     revert H
     generalize K+1=o
     revert o
     revert O
     show Lx (λO o=>nX a b L q O n K o) (λO o I=>?_) (λc O o H=>?_) (λc N O o H=>?_)
     .show Pi U ?_;let P:=I.m.ta U I.hp;let t:=I.h1;let B:=I.h2;show Wm (λu=>jY (.done d (Ku P u hl))) λu=>?_;split
      .show jY (.more d #[P,(),(),()])
      .show jY #[d,P,(),(),()]
     .let e:=H.k1;exists H.m,H.h1,H.h2;intro j t B;have:=H.k3 (j-o) () ()
      rw[show o+(j-o)=j by lia] at this
      lia
     .let P:=H.m.takeB k (λx J y W=>by
       let#[i,i0,i1,_,Y]:=NG (xs:=b) J;let#[j,M,t,B]:=NB (xs:=a) W;have:=sa n j M t;have:=H.k2 (i-o) ()
       rw[show o+(i-o)=i by lia] at this
       unfold WB;rw[Y,B]
       lia)
      rw[vD,<-Nr,<-xA] at P;let h1:=H.h1;let D:=H.h2;show Wm (λG=>jY (.done d (Ms P (.inl ())))) λG=>N _ _ #[P,?_,(),λj t B=>?_]
      .have:=H.k1
       lia
      .have:=H.k3 (j-o) () ()
       rw[show o+(j-o)=j by lia] at this
       lia
    .exists H.I;intro j t B;have:=H.k3 (j-n) () ()
     rw[show n+(j-n)=j by lia] at this
     lia
    .let C:=H.I.ha;let S:=H.I.hx;let l:=H.I.m.takeA k (λx J y W=>by
      let#[i,i0,i1,_,Y]:=NG (xs:=a) J;let#[j,M,t,B]:=NB (xs:=b) W;have:=sb K j M t;have:=H.k2 (i-n) ()
      rw[show n+(i-n)=i by lia] at this
      unfold WB;rw[Y,B]
      lia)
     rw[vD,<-Nr,<-xA] at l;show Wm (λu=>jY (.done d (Ku l u hl))) λu=>Wm (λG=>jY (.done d (Ms l (.inr ())))) λG=>N _ _ #[#[l,?_,R,()],λj t B=>?_]
     .have:=H.k1
      lia
     .have:=H.k3 (j-n) () ()
      rw[show n+(j-n)=j by lia] at this
      lia
end
abbrev XI(a:ju)(n:Nat):jE:=(a.toList.take n).reverse
def zt{a:ju}{i:Nat}{p:km}(e:a[i]?\p):XI a (i+1)=p::XI a i:=by
 rw[<-yC] at e;change ((a.toList.take (i+1)).reverse)=_;rw[yI,e];simp
def Rk{a:ju}{i:Nat}{p:km}(e:a[i-1]?\p)(h:1<=i):XI a i=p::XI a (i-1):=by
 have:=zt e;rw[Nat.sub_add_cancel h] at this;show this
def MI.popA{R:km->km->Prop}{L c b:jE}{a:ju}{p:km}(h:MI R L a.toList (p::c) b)(d:∀ y∈b,R p y):MI R L (a.push p).toList c b:=by
 have:=h.takeA 1 (λx f y g=>by
  let e:x=p:=by simpa using f
  rwa[e,d y g])
 rw[uV,vC,<-sJ] at this;show this
theorem Fq{a:ju}{n m:Nat}(h:m<=n)(b:n<=a.size):(XI a n).drop (n-m)=XI a m:=by
 change ((a.toList.take n).reverse).drop (n-m)=_;rw[List.drop_reverse,wS,yD,show min n a.size-(n-m)=m by lia,List.take_take,show min m n=m by lia]
def HJ{a:ju}{n m:Nat}(h:m<=n)(b:n<=a.size):(XI a n).take (n-m)=(a.extract m n).reverse.toList:=by
 change ((a.toList.take n).reverse).take (n-m)=_;rw[List.take_reverse,wS,yD,show min n a.size-(n-m)=m by lia,ma,tW,tX,List.drop_take]
theorem Mt{a:ju}{n:Nat}{p:km}(h:p∈XI a n):∃ j,j<n/\j<a.size/\kv p=Kk a j:=by
 let#[j,_,d,b,c]:=NG (xs:=a) (i:=0) (k:=n) (uG.mp h);show#[j,(),b,c]
theorem CV{a:ju}{n m:Nat}{p:km}(d:m<=n)(e:n<=a.size)(h:p∈(XI a n).take (n-m)):∃ j,m<=j/\j<n/\kv p=Kk a j:=by
 rw[HJ d e,ma,tW,tX] at h;let#[j,b,f,g,c]:=NG (xs:=a) (uG.mp h);show#[j,b,(),c]
def Ua(p q:km):Prop:=kv q<=kv p
def Gu{L l:jE}{r:ju}(a:l.Perm L)(b:l.Pairwise Ua)(e:r.toList=l.reverse):nH L r:=by
 unfold nH;rwa[e,#[(rR l)|||a,rD.mpr b]]
def FB(a:ju)(n:Nat):(a.extract 0 n).toList=a.toList.take n:=by
 rw[tW,tX,mX,Nat.sub_zero]
section
variable{a b out:ju}{na nb:Nat}{L:jE}
def Mu(m:MI Ua L out.toList (XI a na) (XI b nb))(h:na=0\/nb=0):nH L (a.extract 0 na++b.extract 0 nb++out.reverse):=by
 show Gu m.swap.perm ?_ (by simp[FB,XI])
 rcases h with rfl|rfl
 .have:XI a 0=[]:=rfl;rwa[this,xD,m.sb]
 .show m.sa
theorem LU(m:MI Ua L out.toList (XI a na) (XI b nb))(h:nb=1)(f:∀ i,i<a.size->Kk b 0<=Kk a i):nH L (b.extract 0 nb++a.extract 0 na++out.reverse):=by
 show Gu m.perm ?_ (by simp[FB,XI])
 let#[_,d,e]:=xI.mp m.sb;rw[<-wR];show xI.mpr #[m.sa,d,λx g y c=>?_];rcases zC.mp g with z|z
 .show e x z y c
 .let#[j,_,l,n]:=Mt z;let#[i,o,p,k]:=Mt c;have:=f j l;unfold Ua;rw[n,k,show i=0 by lia]
  show this
end
def TM:ju->ju->StateT ke Sem (ju):=sortPriv% PySem.Builtin.mergeHi
structure Lu(a b:ju)(L:jE)(X:Nat)(out:ju)(na nb:Nat):Prop where
 m:MI Ua L out.toList (XI a na) (XI b nb)
 a0:1<=na
 a1:na<=a.size
 b0:2<=nb
 b1:nb<=b.size
 hx:na+nb+X<=a.size+b.size
inductive Lj{γ:Type}(st:ke)(a b:ju)(L:jE)(x:Nat):Option (ju)×Nat×Nat×ju×γ->ke->Prop
 |mk{na nb:Nat}{out:ju}{g:γ}{st':ke}:Sm st st'->Lu a b L x out na nb->Lj st a b L x (Y',na,nb,out,g) st'
inductive KJ{γ:Type}(st:ke)(a b:ju)(L:jE)(x:Nat):Option (ju)×Nat×Nat×ju×γ->ke->Prop
 |more{na nb:Nat}{out:ju}{g:γ}{st':ke}:Sm st st'->Lu a b L x out na nb->KJ st a b L x (Y',na,nb,out,g) st'
 |done{r:ju}{c:Nat×Nat×ju×γ}{st':ke}:Sm st st'->nH L r->KJ st a b L x (Z' r,c) st'
structure nQ(a b:ju)(L:jE)(X:Nat)(p:km)(t k:Nat)(out:ju)(na nb:Nat):Prop where
 I:Lu a b L X out na nb
 e:na-t=k
 k1:t<=na
 k3:∀ i,t<=i->i<na->kv p<Kk a i
structure nT(a b:ju)(L:jE)(X:Nat)(p:km)(out:ju)(na nb:Nat):Prop where
 I:Lu a b L X out na nb
 hp:∀ j,j<na->Kk a j<=kv p
structure nV(a b:ju)(L:jE)(q:km)(t k:Nat)(O:ju)(na nb n2:Nat):Prop where
 m:MI Ua L O.toList (XI a na) (XI b n2)
 h1:n2<nb
 h2:2<=n2
 e:n2-t=k
 k1:t<=n2
 k3:∀ i,t<=i->i<n2->kv q<=Kk b i
structure nU(a b:ju)(L:jE)(q:km)(O:ju)(na nb n2:Nat):Prop where
 m:MI Ua L O.toList (XI a na) (XI b n2)
 h1:n2<nb
 h2:2<=n2
 hp:∀ j,j<n2->Kk b j<=kv q
def MI.pa{a:ju}{L d:jE}{b:ju}{c:Nat}{p:km}(m:MI Ua L b.toList (XI a c) d)(e:a[c-1]?\p)(h:1<=c)(f:∀ y∈d,kv y<=kv p):MI Ua L (b.push p).toList (XI a (c-1)) d:=by
 rw[Rk e h] at m;show m.popA f
def MI.pb{b:ju}{L d:jE}{a:ju}{c:Nat}{p:km}(m:MI Ua L a.toList d (XI b c))(e:b[c-1]?\p)(h:1<=c)(f:∀ y∈d,kv y<=kv p):MI Ua L (a.push p).toList d (XI b (c-1)):=(m.swap.pa e h f).swap
def M6{a:ju}{n:Nat}{p:km}(h:∀ j,j<n->j<a.size->Kk a j<=kv p):∀ y∈XI a n,kv y<=kv p:=λy b=>by
 let#[j,c,d,e]:=Mt b;rwa[e,h j c d]
section
variable[KoOk prog w A s]
theorem oK{K:ke}{a b:ju}{Q:ju->ke->Prop}(hk:kindOf K=QI)(ka:Wn a)(kb:Wn b)(a1:1<=a.size)(b1:1<=b.size)(sa:Pz a a.size)(sb:Pz b b.size)(h0:∀ i,i<a.size->Kk b 0<=Kk a i)(hl:∀ j,j<b.size->Kk b j<=Kk a (a.size-1))(pa:a.toList.Pairwise WB)(pb:b.toList.Pairwise WB)(h:∀ r f,Sm K f->nH (a.toList++b.toList) r->Q r f):wpS ↥_ A E s (TM a b) Q K:=by
 show Nu (QT ka (show a.size-1<a.size by lia) λp0 e0 i0 k0=>?_)
 let m0:MI Ua (a.toList++b.toList) [p0].toArray.toList (XI a (a.size-1)) (XI b b.size):=by
  let ea:XI a a.size=a.toList.reverse:=by change (a.toList.take a.size).reverse=_;rw[yQ ⋯]
  let eb:XI b b.size=b.toList.reverse:=by change (b.toList.take b.size).reverse=_;rw[yQ ⋯]
  let m:MI Ua (a.toList++b.toList) [].toArray.toList (XI a a.size) (XI b b.size):=#[#v[ea,eb,(rR _).append (rR _)],#v[ea,rD.mpr pa],#v[eb,rD.mpr pb]]
  show m.pa e0 a1 (M6 λj _ S=>by rwa[<-k0,hl j S])
 show Wm (λc1=>jY (h _ _ (Sm.refl _) (Mu m0 (.inl ())))) λc1=>Wm (λc2=>jY (h _ _ (Sm.refl _) (LU m0 c2 h0))) λc2=>Hk ?_
 generalize hL:a.toList++b.toList=L at m0 h;show ON (Lj K a b L) (Jb K L) #[Sm.refl _,m0,(),(),(),(),()] ?step ?fin ?post
 case post=>
  rintro _ f ⟨d,g⟩;show jY (h _ f d g)
 case fin=>
  rintro _ f ⟨d,i⟩;have:=i.a0;have:=i.b0;have:=i.hx
  lia
 case step=>
  rintro X _ f _ hX ⟨d,I⟩;show ON (λx=>Lj K a b L (X+x)) (KJ K a b L (X+1)) #[d,I] ?istep ?ifin ?ipost
  case ifin=>
   rintro _ C ⟨d,I⟩;show .more d #[I.m,I.a0,I.a1,I.b0,I.b1,by have:=I.hx;lia]
  case istep=>
   clear d I;rintro x _ _ _ hx (@⟨o,N,l,g,f,d,m,U,P,b0,b9,ix⟩);dsimp only;show QT kb () λp V ip kp=>QT ka () λq W iq kq=>FC (d.kind|||hk) ip iq (N0 (λc=>Pi W ?_) λc=>Pi V ?_)
   .let n:=m.pa W U (M6 λj R S=>by
     have:=sb j (N-1) () ()
     lia)
    show Wm (λu=>jY (.done d (Mu n (.inl u)))) λu=>Vg (λG=>jY (.more d #[n,(),(),(),(),()])) λG=>jY #[d,n,(),(),(),(),()]
   .let n:=m.pb V () (M6 λj R S=>by
     have:=sa j (o-1) () ()
     lia)
    show Wm (λu=>jY (.done d (LU n u h0))) λu=>Vg (λG=>jY (.more d #[n,(),(),(),(),()])) λG=>jY #[d,n,(),(),(),(),()]
  case ipost=>
   clear d I;rintro _ f (⟨d,I⟩|⟨d,gd⟩)
   rotate_left
   .show jY #[d,gd]
   show Nu (ON (λ_=>Lj K a b L (X+1)) (KJ K a b L (X+1)) #[d,I] ?gstep ?gfin ?gpost)
   case gfin=>
    rintro _ f ⟨d,I⟩;show .more d I
   case gpost=>
    rintro _ f (⟨d,I⟩|⟨d,gd⟩)
    .show Kw λC M=>jY #[d|||M,I]
    .show jY #[d,gd]
   case gstep=>
    clear d I;rintro x _ _ _ hx (@⟨o,N,l,⟨g,ac,bc⟩,f,d,I⟩);dsimp only
    revert g
    show FJ (λ_=>#[1]) λg=>Kw λC M=>?_;let d:=d|||M;clear M;let Y:kindOf C=QI:=d.kind|||hk;let U:=I.a0;let P:=I.a1;let b0:=I.b0;let b9:=I.b1;show QT kb () λp V ip kp=>KR Y ip ka sa () () λt D v F=>?_
    dsimp only;simp only[uN] at v F;generalize B:o-t=k;let H:nQ a b L (X+1) p t k l o N:=#[I,B,D,λi h1 M=>U0.2.mp (F i h1 M)]
    replace v:∀ i,i<t->Kk a i<=kv p:=λi h=>U0.1.mp (v i h)
    clear I U P D F B
    revert H
    revert l
    revert o
    show no_implicit_lambda% (Lx (λo l=>nT a b L (X+1) p l o N) (λo l I=>?_) (λc o l H=>?_) (λc T o l H=>?_))
    .let#[#[m,U,P,b0,b9,ix],hp]:=I;show Pi V ?_;let n:=m.pb V () (M6 λj R _=>hp j R)
     show Wm (λu=>jY (.done d (LU n u h0))) λu=>QT ka () λq W iq kq=>KR Y iq kb sb () () λt2 D v F=>?_
     dsimp only;simp only[uN] at v F;generalize l.push p=O at n⊢;generalize hn:N-1=J at n D v F u⊢;generalize B:J-t2=k';let H:nV a b L q t2 k' O o N J:=#[n,(),(),B,D,λi h1 M=>QD.2.mp (F i h1 M)]
     replace v:∀ i,i<t2->Kk b i<kv q:=λi h=>QD.1.mp (v i h)
     clear n D F B u hn
     revert H
     revert O
     revert J
     show Lx (λJ O=>nU a b L q O o N J) (λJ O I=>?_) (λc J O H=>?_) (λc T J O H=>?_)
     .let#[n,S,j2,hp]:=I;show Pi W ?_;let z:=n.pa W U (M6 λj R _=>hp j R);show Wm (λu=>jY (.done d (Mu z (.inl u)))) λu=>?_;split
      .show jY (.more d #[z,(),(),(),(),()])
      .show jY #[d,z,(),(),(),(),()]
     .let e:=H.e;show#[H.m,H.h1,H.h2,λj c=>vY (v j ())]
     .let S:=H.h1;let j3:=H.k1;let z:=H.m.takeB (J-t2) λx hx y hy=>by
       let#[i,i0,i1,i3]:=CV j3 () hx
       let#[j,R,S,j2]:=Mt hy;have:=sa j (o-1) () ()
       have:=H.k3 i i0 i1;unfold Ua;rw[i3,j2]
       lia
      rw[Fq j3 (),HJ j3 (),<-xA] at z
      show Wm (λG=>jY (.done d (LU z G h0))) λG=>Wm (λc5=>jY (.done d (Mu z (.inr c5)))) λc5=>T _ _ #[z,(),(),λj c=>vY (v j c)]
    .let e:=H.e;show#[H.I,λj c=>v j ()]
    .let#[#[m,U,P,b0,b9,ix],e,D,F]:=H;let z:=m.takeA (o-t) λx hx y hy=>by
      let#[i,i0,i1,i3]:=CV D P hx;let#[j,R,S,j2]:=Mt hy;have:=sb j (N-1) () ()
      have:=F i i0 i1;unfold Ua;rw[i3,j2]
      lia
     rw[Fq D P,HJ D P,<-xA] at z;show Wm (λG=>jY (.done d (Mu z (.inl G)))) λG=>T _ _ #[#[z,(),(),(),(),()],v]
end
structure TB(a₀:ju)(p₀:jR)(st:ke):Prop where
 perm:(jZ st).Perm a₀
 kind:kindOf st=QI
 failed:failedOf st=Y'
 pend:kf st=p₀
def Xd(b:ju)(a n:Nat):=∀ i j,i<=j->j<n->Kk b (a+i)<=Kk b (a+j)
def Vo(b:ju)(a n:Nat):=∀ i j,i<=j->j<n->Kk b (a+j)<=Kk b (a+i)
def Fr(b c:ju)(a:Nat):=∀ i,i<a->Kk c i=Kk b i
section
variable{a₀:ju}{p₀:jR}{st:ke}
def TB.size(h:TB a₀ p₀ st):(jZ st).size=a₀.size:=h.perm.size_eq
def TB.setArr(h:TB a₀ p₀ st){a:ju}(b:a.Perm (jZ st)):TB a₀ p₀ (kn st a):=#[b|||h.perm,h.kind,h.failed,h.pend]
def TB.ints(h:TB a₀ p₀ st)(a:Wn a₀):Wn (jZ st):=λp b=>a p ((qR.mp h.perm).mem_iff.mp b)
end
section
variable[KoOk prog w A s]{a₀:ju}{p₀:jR}
def K5{b:Type}{c:Prop}{_:Decidable c}{x J:StateT ke Sem b}{Q:b->ke->Prop}{a:ke}(P:ke->Prop)(k:∀ a,P a->wpS ↥_ A E s J Q a)(d:¬c->P a)(e:c->(∀ a,P a->wpS ↥_ A E s J Q a)->wpS ↥_ A E s x Q a):wpS ↥_ A E s (if c then x else J) Q a:=by
 show Vg (λh=>?_) λh=>?_
 .show e h k
 .show k a (d h)
def JT{a:ke}{i j:Nat}{Q:jS->ke->Prop}(b:TB a₀ p₀ a)(c:Wn a₀)(f:i<a₀.size)(g:j<a₀.size)(h:Q (Z' (ng (Kk (jZ a) i<Kk (jZ a) j))) a):wpS ↥_ A E s (ltAt' i j) Q a:=by
 let#[p,d,k,m]:=Lo (b.ints c) (show i<(jZ a).size by rwa[b.size,f])
 let#[q,e,l,n]:=Lo (b.ints c) (show j<(jZ a).size by rwa[b.size,g])
 rw[m,n] at h;show jX (wpS_get (jX (Kg d (jX (Kg e (KM b.kind k l h))))))
def Hf{b:Type}{a:ke}{i j:Nat}{f:jS->StateT ke Sem b}{Q:b->ke->Prop}(d:TB a₀ p₀ a)(c:Wn a₀)(e:i<a₀.size)(g:j<a₀.size)(h:wpS ↥_ A E s (f (Z' (ng (Kk (jZ a) i<Kk (jZ a) j)))) Q a):wpS ↥_ A E s (ltAt' i j>>=f) Q a:=jX (JT d c e g h)
def Fn{d:Type}{a:ke}{i j:Nat}{x y:d}{f:jS->StateT ke Sem d}{Q:d->ke->Prop}(g:TB a₀ p₀ a)(e:Wn a₀)(k:i<a₀.size)(l:j<a₀.size)(q:Q (if Kk (jZ a) i<Kk (jZ a) j then x else y) a)(h:∀ b,f (Z' b)=if b=X' then pure x else pure y:=by show λ_=>rfl):wpS ↥_ A E s (ltAt' i j>>=f) Q a:=by
 show Hf g e k l ?_;rw[h];show N0 (λc=>?_) λc=>?_
 .rw[aP c] at q;show jY q
 .rw[aO c] at q;show jY q
structure Ke(a₀:ju)(p₀:jR)(st st2:ke):Prop where
 tb:TB a₀ p₀ st2
 eq:∀ k,Kk (jZ st2) k=Kk (jZ st) k
inductive IB{γ:Type}(a₀:ju)(p₀:jR)(xs:ju)(lo n:Nat):Option γ×Unit->ke->Prop
 |mk{z:ke}:TB a₀ p₀ z->Fr xs (jZ z) lo->Xd (jZ z) lo n->IB a₀ p₀ xs lo n (Y',.unit) z
theorem Bq{o:ke}{a n u:Nat}{Q:Bool->ke->Prop}(J:Wn a₀)(V:a+n<=a₀.size)(M:u<=n)(K:TB a₀ p₀ o)(N:Xd (jZ o) a u)(h:∀ d,TB a₀ p₀ d->Fr (jZ o) (jZ d) a->Xd (jZ d) a n->Q true d):wpS ↥_ A E s (binarySort' a n u) Q o:=by
 show ON (λk=>IB a₀ p₀ (jZ o) a (min k n)) (IB a₀ p₀ (jZ o) a n) #[K,λ_ _=>rfl,λi j e m=>?_] ?_ ?_ ?_
 rotate_left
 .rintro k _ z W X ⟨g,q,b⟩;let I:min k n=k:=()
  rw[I] at b;let C:a+k<(jZ z).size:=by rw[g.size];lia
  show jX (Ho (B:=λi=>!ng (Kk (jZ z) (a+k)<Kk (jZ z) (a+i))) (yZ _) (zY k) (λi c=>mZ c (uL _)) (λi e m=>by lia) (λi j e m H=>?_) (λx l r T U F G=>?_) λt Y O P=>?_)
  .have:=b i j e m;simp at H⊢
   lia
  .dsimp only;show Vg (λc=>?_) λc=>?_
   .show jY (F c)
   show jX (JT g J () () ?_)
   let y:=G ((l+r)/2) () ()
   cases L:ng (Kk (jZ z) (a+k)<Kk (jZ z) (a+(l+r)/2))<;>rw[L] at y
   .show jY y
   .show jY y
  .show jX (show wpS ↥_ A E s (moveDown' (a+k) (a+t)) _ z from ?_);rw[moveDown'_eq];show wpS_modify (jY #[g.setArr (bubble_perm _ _ _),λi c=>?_,?_])
   .change Kk (bubble (jZ z) (a+k) (a+k-(a+t))) i=_;rw[Gq C (),aO (),aO ()]
    show q i c
   rw[show min (k+1) n=k.succ by lia]
   let D:∀ i,i<=k->Kk (bubble (jZ z) (a+k) (a+k-(a+t))) (a+i)=if i<t then Kk (jZ z) (a+i) else if i=t then Kk (jZ z) (a+k) else Kk (jZ z) (a+(i-1)):=λi c=>by
    rw[Gq C ()]
    by_cases p:i<t
    .rw[aP p,aO (),aO ()]
    rw[aO p];by_cases f:i=t
    .rw[aP f,aP ()]
    .rw[aO f,aO (),aP (),show a+i-1=a+(i-1) by lia]
   let R:∀ i,i<t->Kk (jZ z) (a+i)<=Kk (jZ z) (a+k):=λi c=>by
    have:=O i c;simp at this
    lia
   let S:∀ i,t<=i->i<k->Kk (jZ z) (a+k)<=Kk (jZ z) (a+i):=λi e m=>by
    have:=P i e m;simp at this
    lia
   intro i j e m;change Kk (bubble (jZ z) (a+k) (a+k-(a+t))) (a+i)<=Kk (bubble (jZ z) (a+k) (a+k-(a+t))) (a+j);rw[D i (),D j ()]
   by_cases p:i<t
   .rw[aP p];by_cases f:j<t
    .rwa[aP f,b i j e ()]
    rw[aO f];by_cases v:j=t
    .rwa[aP v,R i p]
    .rwa[aO v,b i (j-1) () ()]
   rw[aO p,aO (by lia:¬j<t)]
   by_cases f:i=t
   .rw[aP f];by_cases v:j=t
    .rwa[aP v,xN _]
    .rwa[aO v,S (j-1) () ()]
   .rw[aO f,aO ()]
    show b (i-1) (j-1) () ()
 .rintro _ z ⟨g,q,b⟩;rw[show min (max (max u 1) n) n=n by lia] at b
  show#[g,q,b]
 .rintro _ z ⟨g,q,b⟩;show jY (h z g q b)
 .by_cases z:u=0
  .rw[show i=j by lia]
   show xN _
  .show N i j e ()
theorem Xd.snoc{b:ju}{a x:Nat}(h:Xd b a x)(c:1<=x->Kk b (a+x-1)<=Kk b (a+x)):Xd b a (x+1):=λi j d g=>by
 by_cases e:j<x
 .show h i j d e
 by_cases f:i=j
 .rwa[f,xN _]
 .have:=h i (x-1) () ()
  rw[show j=x by lia]
  rw[show a+(x-1)=a+x-1 by lia] at this
  show vX this (c ())
def Vo.snoc{b:ju}{a x:Nat}(h:Vo b a x)(c:1<=x->Kk b (a+x)<=Kk b (a+x-1)):Vo b a (x+1):=λi j d g=>by
 by_cases e:j<x
 .show h i j d e
 by_cases f:i=j
 .rwa[f,xN _]
 .have:=h i (x-1) () ()
  rw[show j=x by lia]
  rw[show a+(x-1)=a+x-1 by lia] at this
  show vX (c ()) this
theorem FX{f:Nat->Option (jL)×Nat->StateT ke Sem (ForInStep (Option (jL)×Nat))}{lo a b:Nat}{d:ke}{Q:Option (jL)×Nat->ke->Prop}(p:1<=a)(j:a<=b)(o:Xd (jZ d) lo a)(m:∀ x n (i:ForInStep (Option (jL)×Nat)->ke->Prop),1<=n->n<b->i (if Kk (jZ d) (lo+n)<Kk (jZ d) (lo+n-1) then .done (Y',n) else .yield (Y',n+1)) d->wpS ↥_ A E s (f x (Y',n)) i d)(h:∀ n,a<=n->n<=b->Xd (jZ d) lo n->(n=b\/Kk (jZ d) (lo+n)<Kk (jZ d) (lo+n-1))->Q (Y',n) d):wpS ↥_ A E s (forIn [a:b] (Y',a) f) Q d:=by
 show ki (I:=λx c e=>e=d/\c=(Y',x)/\Xd (jZ d) lo x) ?_ ?_ #[Z,Z,o]
 .rintro x c e k l ⟨rfl,rfl,g⟩;show m x x _ () l ?_
  by_cases c:Kk (jZ e) (lo+x)<Kk (jZ e) (lo+x-1)
  .rwa[aP c,h x k () g (.inr c)]
  .rwa[aO c,#[Z,Z,g.snoc λ_=>Int.not_lt.mp c]]
 .rintro c e ⟨rfl,rfl,g⟩;rw[show max a b=b by lia] at g⊢
  show h b j (zY _) g (.inl Z)
structure Ln(a₀:ju)(p₀:jR)(xs:ju)(lo x neq:Nat)(st':ke):Prop where
 tb:TB a₀ p₀ st'
 fr:Fr xs (jZ st') lo
 sg:Vo (jZ st') lo x
 le:neq+1<=x
 eq:∀ i,x-(neq+1)<=i->i<x->Kk (jZ st') (lo+i)=Kk (jZ st') (lo+x-1)
inductive De{γ:Type}(a₀:ju)(p₀:jR)(xs:ju)(lo x:Nat):Option γ×Nat×Nat->ke->Prop
 |mk{neq:Nat}{st':ke}:Ln a₀ p₀ xs lo x neq st'->De a₀ p₀ xs lo x (Y',x,neq) st'
inductive Cs{γ:Type}(a₀:ju)(p₀:jR)(xs:ju)(lo n nrem:Nat):Option γ×Nat×Nat->ke->Prop
 |mk{x neq:Nat}{st':ke}:n+1<=x->x<=nrem->Ln a₀ p₀ xs lo x neq st'->Cs a₀ p₀ xs lo n nrem (Y',x,neq) st'
theorem Ln.mq{a₀:ju}{p₀:jR}{e:ju}{a x b:Nat}{c:ke}(h:Ln a₀ p₀ e a x b c)(d:a+x<=a₀.size)(k:Nat):Kk (mirror (jZ c) (a+x-(b+1)) (a+x) ((a+x-(a+x-(b+1)))/2)) k=Kk (jZ c) k:=El #v[h.tb.size,d] (λk f g=>by
 have:=h.le;have:=h.eq (k-a) () ()
 rw[show a+(k-a)=k by lia] at this;assumption) k
theorem pC{l:ke}{a f:Nat}{Q:jL->ke->Prop}(C:Wn a₀)(hn:a+f<=a₀.size)(Y:1<=f)(v:TB a₀ p₀ l)(h:∀ m d,TB a₀ p₀ d->Fr (jZ l) (jZ d) a->1<=m->m<=f->Xd (jZ d) a m->Q (Z' m) d):wpS ↥_ A E s (countRun' a f) Q l:=by
 show jX (FX (lo:=a) (zY 1) Y (λi j _ _=>#v[show i=j by lia,xN _]) (λx n X F G q=>Fn v C () () q) λn F G I n4=>?_)
 dsimp only;show Wm (λnn=>?_) λnn=>?_
 .show jY (h n l v (λ_ _=>rfl) F G I)
 let D:Kk (jZ l) (a+n)<Kk (jZ l) (a+n-1):=n4.resolve_left nn;show K5 (λd=>TB a₀ p₀ d/\Fr (jZ l) (jZ d) a/\Vo (jZ d) a (n+1)) (λa2 H=>?_) (λc=>?_) (λc r=>?_)
 .let#[K,M,L]:=H;show Nu ?_;show ON (De a₀ p₀ (jZ l) a) (Cs a₀ p₀ (jZ l) a n f) #[K,M,L,(by lia:0+1<=n+1),λi t u=>by congr 1;lia] ?step ?fin ?post
  case fin=>
   rintro _ d ⟨b⟩;rw[show max (n+1) f=f by lia] at b⊢
   show#[(),(),b]
  case step=>
   rintro x _ d a0 a1 (@⟨R,_,b⟩);dsimp only;show Hf b.tb C () () (N0 (λp=>?_) λp=>Hf b.tb C () () (N0 (λU=>jY #[(),(),b]) λU=>jY #[b.tb,b.fr,?_,?_,λi t u=>?_]))
   .show K5 (λg=>Ke a₀ p₀ d g) (λg H=>?_) (λc=>#[b.tb,λ_=>rfl]) (λc r=>?_)
    .show jY #[H.1,λi c=>(H.2 i)|||b.fr i c,Vo.snoc (λi j t u=>?_) λ_=>?_,(by lia:0+1<=x+1),λi t u=>by congr 1;lia]
     all_goals rw[H.2,H.2]
     .show b.sg i j t u
     .show vY p
    .show jX (wpS_reverse (r _ #[b.tb.setArr (mirror_perm _ _ _ _),b.mq ()]))
   .show b.sg.snoc λ_=>Int.not_lt.mp U
   .show tN b.le
   .rw[show a+(x+1)-1=a+x by lia]
    by_cases z:i=x
    .rw[z]
    .let he:Kk (jZ d) (a+x)=Kk (jZ d) (a+x-1):=()
     rwa[he,b.eq i () ()]
  case post=>
   rintro _ d (@⟨x,R,_,x1,x2,b⟩);dsimp only;show K5 (λg=>Ke a₀ p₀ d g) (λg H=>?_) (λc=>#[b.tb,λ_=>rfl]) (λc r=>jX (wpS_reverse (r _ #[b.tb.setArr (mirror_perm _ _ _ _),b.mq ()])))
   show jX (wpS_reverse (?_));let O:a+x<=(jZ g).size:=by rw[H.1.size];lia
   generalize T:kn g (mirror (jZ g) a (a+x) ((a+x-a)/2))=B;let S:TB a₀ p₀ B:=by
    rwa[<-T,H.1.setArr (mirror_perm _ _ _ _)]
   let J:∀ k,Kk (jZ B) k=if a<=k/\k<a+x then Kk (jZ d) (a+(a+x)-1-k) else Kk (jZ d) k:=λk=>by
    rw[<-T];change Kk (mirror (jZ g) a (a+x) ((a+x-a)/2)) k=_;rw[Es O,H.2,H.2]
   show jX (FX (lo:=a) () x2 (λi j c3 c4=>?_) (λy m X F G q=>Fn S C () () q) λm m1 m2 m3 m4=>jY (h m B S (λi c=>?_) () m2 m3))
   .rw[J,J,aP (),aP ()]
    have:=b.sg (x-1-j) (x-1-i) () ()
    rw[show a+(x-1-j)=a+(a+x)-1-(a+j) by lia,show a+(x-1-i)=a+(a+x)-1-(a+i) by lia] at this;assumption
   .rw[J,aO ()]
    show b.fr i c
 .let e:n=1:=()
  subst e;show#[v,λ_ _=>rfl,Vo.snoc (λi j t u=>?_) λ_=>vY D];rw[show i=j by lia]
  show xN _
 .show jX (JT v C () () ?_)
  dsimp only;show N0 (λhr=>?_) λhr=>?_
  .show jY (h n l v (λ_ _=>rfl) F G I)
  let N:a+n<=(jZ l).size:=by rw[v.size];lia
  let o:∀ k,a<=k->k<a+n->Kk (jZ l) k=Kk (jZ l) (a+n-1):=λk t u=>by
   let V:=I 0 (k-a) () ()
   let W:=I (k-a) (n-1) () ()
   rw[show a+(k-a)=k by lia] at V W
   rw[show a+(n-1)=a+n-1 by lia] at W
   rw[Nat.add_zero] at V
   lia
  let P:∀ k,Kk (mirror (jZ l) a (a+n) ((a+n-a)/2)) k=Kk (jZ l) k:=El N o;show jX (wpS_reverse (r _ #[v.setArr (mirror_perm _ _ _ _),λi _=>P i,λi j t u=>?_]));change Kk (mirror (jZ l) a (a+n) ((a+n-a)/2)) _<=Kk (mirror (jZ l) a (a+n) ((a+n-a)/2)) _;rw[P,P];show Vo.snoc (x:=n) (λi j t u=>?_) (λ_=>vY D) i j t u;rw[o (a+j) () (),o (a+i) () ()]
  show xN _
end
theorem Fs{o:Nat}:∀(l:jE)(d:Nat)(c:ju)(P M R:jE),c.toList=P++(M++R)->↑P=o+d->↑M=↑l->((l.zipIdx d).foldl (λa x=>a.setIfInBounds (o+x.2) x.1) c).toList=P++(l++R)
 |[],d,c,P,M,R,e,g,f=>by
  rw[List.zipIdx_nil,List.foldl_nil,e,wJ f]
 |p::l,d,c,P,M,R,e,g,f=>by
  obtain⟨m,b,rfl⟩:∃ m b,M=m::b:=by
   cases M with
   |nil=>cases f
   |cons m b=>show#[m,b,Z]
  rw[List.zipIdx_cons,tO];have:=Fs (o:=o) l (d+1) (c.setIfInBounds (o+d) p) (P++[p]) b R (by
   rw[pY,e,<-g];simp) (by rw[zG];simp;lia) #v[f]
  rw[this];simp
noncomputable def wr(b:ju)(o:Nat)(l:jE):ju:=l.zipIdx.foldl (λa x=>a.setIfInBounds (o+x.2) x.1) b
theorem Sb{xs r:ju}{o n:Nat}(g:o+n<=xs.size)(b:r.toList.Perm ((xs.toList.drop o).take n)):(wr xs o r.toList).Perm xs/\(∀ i,i<o\/o+n<=i->Kk (wr xs o r.toList) i=Kk xs i)/\∀ i,i<n->Kk (wr xs o r.toList) (o+i)=Kk r i:=by
 let f:↑r.toList=n:=by
  rw[b.length_eq,wS,vA,yD]
  lia
 let d:xs.toList=xs.toList.take o++((xs.toList.drop o).take n++xs.toList.drop (o+n)):=by
  rw[<-vD,wQ,wQ]
 let c:↑(xs.toList.take o)=o:=by
  rw[wS,yD]
  lia
 let a:(wr xs o r.toList).toList=xs.toList.take o++(r.toList++xs.toList.drop (o+n)):=Fs r.toList 0 xs _ _ _ d c (by rw[<-b.length_eq])
 show#[qR.mpr ?_,λi e=>Hr ?_,λi e=>Hr ?_]
 .rw[a]
  conv=>rhs;rw[d]
  show(wX.refl _).append (b.append (wX.refl _))
 .rw[<-yC,<-yC,a];rcases e with z|z
  .rw[wP (),qP z]
  .rw[wY (),wY (),rP,c,f]
   congr 1
   lia
 .rw[<-yC,<-yC,a,wY (),wP (),c]
  congr 1
  lia
def Ni{a:ju}{o n i:Nat}(b:i<n):Kk (a.extract o (o+n)) i=Kk a (o+i):=Hr (by
 rw[<-yC,Nr,qP b,rP,yC])
def Ki{a:ju}(h:Pz a a.size):a.toList.Pairwise WB:=uS.mpr λi j c b d=>by
 have:=h i j () #v[b]
 unfold WB;rw[Np (i:=i) (p:=a.toList[i]) (by rwa[<-yC,zW c]),Np (i:=j) (p:=a.toList[j]) (by rwa[<-yC,zW b])] at this
 show this
theorem Sn{a:ju}(h:a.toList.Pairwise WB):Pz a a.size:=λi j e f=>by
 let d:j<↑a.toList:=by simpa using f
 let b:i<↑a.toList:=()
 rw[Np (i:=i) (p:=a.toList[i]) (by rwa[<-yC,zW b]),Np (i:=j) (p:=a.toList[j]) (by rwa[<-yC,zW d])]
 by_cases c:i=j
 .subst c;show xN _
 .show uS.mp h i j b d ()
def AS(a:ju)(c b:Nat):=∀ i j,c<=i->i<=j->j<b->Kk a i<=Kk a j
def Xd.abs{d:ju}{a n:Nat}(h:Xd d a n):AS d a (a+n):=λi j b c e=>by
 let#[f,rfl]:=wB b;let#[g,rfl]:=wB (zR b c);show h f g (qO c) (qN e)
def AS.seg{b:ju}{a n:Nat}(h:AS b a (a+n)):Xd b a n:=λi j c d=>h _ _ (wE _ _) (tF c _) (Nat.add_lt_add_left d _)
def AS.two{a:ju}{c m b:Nat}(h:AS a c m)(g:AS a m b)(f:∀ i j,c<=i->i<m->m<=j->j<b->Kk a i<=Kk a j):AS a c b:=λi j d e k=>by
 by_cases l:j<m
 .show h i j d e l
 by_cases n:i<m
 .show f i j d n (wT l) k
 .show g i j (wT n) e k
def AS.ext{b:ju}{e d o n:Nat}(h:AS b e d)(f:e<=o)(g:o+n<=d)(z:(b.extract o (o+n)).size=n):Pz (b.extract o (o+n)) (b.extract o (o+n)).size:=λi j c a=>by
 rw[z] at a;rwa[Ni (xO c a),Ni a,h _ _ (zR f (wE _ _)) (tF c _) (yV (Nat.add_lt_add_left a _) g)]
def AS.put{d ys:ju}{h o m e g:Nat}(t:AS d h m)(v:AS d m g)(A:h<=o)(r:m<=e)(l:o<=m)(y:e<=g)(s:∀ i j,h<=i->i<o->m<=j->j<g->Kk d i<=Kk d j)(B:∀ i j,h<=i->i<m->e<=j->j<g->Kk d i<=Kk d j)(f:∀ j,j<o\/e<=j->Kk ys j=Kk d j)(C:AS ys o e)(w:∀ j,o<=j->j<e->∃ u,o<=u/\u<e/\Kk ys j=Kk d u):AS ys h g:=by
 show AS.two (m:=o) (λi j b a c=>?_) (AS.two C (λi j b a c=>?_) λi j b a c k=>?_) λi j b a c k=>?_
 .rwa[f i (.inl (xO a c)),f j (.inl c),t i j b a (yV c l)]
 .rwa[f i (.inr b),f j (.inr (zR b a)),v i j (zR r b) a c]
 .let#[u,n,p,q]:=w i b a;rw[q,f j (.inr c)];by_cases z:u<m
  .show B u j (zR A n) z c k
  .show v u j (wT z) (yJ (yV p c)) k
 .rw[f i (.inl a)];by_cases z:j<e
  .let#[u,n,p,q]:=w j c z;rw[q];by_cases x:u<m
   .show t i u b (yJ (yV a n)) x
   .show s i u b a (wT x) (yV p y)
  .rwa[f j (.inr (wT z)),s i j b a (zR r (wT z)) k]
section
variable[KoOk prog w A s]{a₀:ju}{p₀:jR}
def Bn{b x:ke}{Q:PUnit->ke->Prop}(h:∀ a,a=x->Q ⟨⟩ a):wpS ↥_ A E s (set x:StateT ke Sem PUnit) Q b:=by
 unfold wpS;rwa[StateT.run_set,ad #[Z,h _ Z]]
theorem oB{K:ke}{i b d V m a1:Nat}{Q:Bool->ke->Prop}(h0:Wn a₀)(M:TB a₀ p₀ K)(e1:p₀[i]?\(b,d,V))(e2:p₀[i+1]?\(b+d,m,a1))(a2:1<=d)(a3:1<=m)(hn:b+d+m<=a₀.size)(W:Xd (jZ K) b d)(s2:Xd (jZ K) (b+d) m)(h:∀ g,TB a₀ ((p₀.setIfInBounds i (b,d+m,V)).eraseIdxIfInBounds (i+1)) g->(∀ j,j<b\/b+d+m<=j->Kk (jZ g) j=Kk (jZ K) j)->Xd (jZ g) b (d+m)->Q true g):wpS ↥_ A E s (mergeAt' i) Q K:=by
 let#[kd,a,pd,gl,R]:=K
 replace W:Xd a b d:=W
 replace s2:Xd a (b+d) m:=s2
 let J:a.Perm a₀:=M.perm;let ep:pd=p₀:=M.pend;let ek:kd=QI:=M.kind;let P:R=Y':=M.failed
 replace h:∀ g,TB a₀ ((p₀.setIfInBounds i (b,d+m,V)).eraseIdxIfInBounds (i+1)) g->(∀ j,j<b\/b+d+m<=j->Kk (jZ g) j=Kk a j)->Xd (jZ g) b (d+m)->Q true g:=h
 subst ep;show Hk ?_;dsimp only;rw[e1,e2];dsimp only;show jX (Bn λB G=>?_);let l:TB a₀ ((pd.setIfInBounds i (b,d+m,V)).eraseIdxIfInBounds (i+1)) B:=by
  rwa[G,#[J,ek,P,Z]]
 let ea:jZ B=a:=by rw[G]
 clear G;let hz:a.size=a₀.size:=J.size_eq;let N:Wn a:=M.ints h0;let H:=W.abs;let D:=s2.abs;show QT N () λq eq iq kq=>jX (GD l.kind iq N () () (JV W) λk k1 k2 k3=>?_)
 dsimp only
 replace k2:∀ i,b<=i->i<b+k->Kk a i<=kv q:=λi T h2=>by
  let#[i,rfl]:=wB T;show U0.1.mp (k2 i (qN h2))
 replace k3:kv q<Kk a (b+k)\/k=d:=by
  by_cases z:k<d
  .show .inl (U0.2.mp (k3 k (zY _) z))
  .show .inr ()
 let q0:∀ j,b+d<=j->j<b+d+m->kv q<=Kk a j:=λj v c=>by
  rwa[<-kq,D _ j (zY _) v c]
 let O:∀ i j,b<=i->i<b+k->b+d<=j->j<b+d+m->Kk a i<=Kk a j:=λi j v y F I=>vX (k2 i v y) (q0 j F I);let x:(∀ i j,b<=i->i<b+d->b+d<=j->j<b+d+m->Kk a i<=Kk a j)->Q true B:=λf=>h B l (λj _=>by rw[ea]) (by
  rwa[ea,AS.seg (by rw[<-vG];show H.two D f)])
 show Wm (λy=>jY (x (by rw[show k=d by lia] at O;show O))) λy=>?_
 obtain⟨n,a0⟩:∃ n,d=k+n:=wB k1;subst a0;rw[sP] at y⊢;rw[<-vG] at H D O x hn q0 kq⊢;generalize ho:b+k=o at *;show QT N () λp ep ip kp=>jX (GD l.kind ip N () () (JV (AS.seg D)) λt t1 t2 t3=>?_)
 dsimp only
 replace t2:t=0\/Kk a (o+n+(t-1))<kv p:=by
  by_cases z:t=0
  .show .inl z
  .show .inr (QD.1.mp (t2 (t-1) ()))
 replace t3:∀ i,o+n+t<=i->i<o+n+m->kv p<=Kk a i:=λi T h2=>by
  let#[i,rfl]:=wB (zR (wE _ t) T);show QD.2.mp (t3 i (qO T) (qN h2))
 let T3:∀ i j,b<=i->i<o+n->o+n+t<=j->j<o+n+m->Kk a i<=Kk a j:=λi j v y F I=>by
  show vX (H i (o+n-1) v () ()) ?_
  rwa[kp,t3 j F I]
 show Wm (λF=>jY (x λi j v y I c4=>T3 i j v y () c4)) λF=>?_
 let zx:(a.extract o (o+n)).size=n:=#v[Array.size_extract,Nat.min_eq_left (),sP ..]
 let zy:(a.extract (o+n) (o+n+t)).size=t:=#v[Array.size_extract,Nat.min_eq_left (),sP ..]
 let U:∀{o n:Nat},Wn (a.extract o (o+n)):=λp J=>N p (by rw[Nr] at J;show List.mem_of_mem_drop (List.mem_of_mem_take J))
 let X:=H.ext (o:=o) (n:=n) () (zY _) zx
 let Y:=D.ext (o:=o+n) (n:=t) (zY _) () zy
 let f0:∀ i,i<(a.extract o (o+n)).size->Kk (a.extract (o+n) (o+n+t)) 0<=Kk (a.extract o (o+n)) i:=λi c=>by
  rw[zx] at c;rw[Ni (),Ni c,Nat.add_zero,kq]
  show vX (vY (k3.resolve_right ())) (H o (o+i) () () ())
 let R:∀ j,j<(a.extract (o+n) (o+n+t)).size->Kk (a.extract (o+n) (o+n+t)) j<=Kk (a.extract o (o+n)) ((a.extract o (o+n)).size-1):=λj c=>by
  rw[zy] at c;rw[Ni c,zx,Ni (),<-Nat.add_sub_assoc (),kp]
  show vX (D (o+n+j) (o+n+(t-1)) () () ()) (vY (t2.resolve_left F))
 let L:∀ r e,Sm B e->nH ((a.extract o (o+n)).toList++(a.extract (o+n) (o+n+t)).toList) r->Q (failedOf (kn e (wr (jZ e) o r.toList))).isNone (kn e (wr (jZ e) o r.toList)):=λr e C gd=>by
  let#[S,g2]:=gd;let el:(a.extract o (o+n)).toList++(a.extract (o+n) (o+n+t)).toList=(a.toList.drop o).take (n+t):=by
   rw[Nr,Nr,List.take_add,vD]
  rw[el] at S;let#[w1,w2,w3]:=Sb (xs:=a) (o:=o) (n:=n+t) () S
  let ez:jZ e=a:=C.arr|||ea;rw[ez];let zr:r.size=n+t:=by
   rw[<-yD,S.length_eq,wS,vA,yD]
   lia
  let sr:=Sn g2;rw[zr] at sr;let P:failedOf (kn e (wr a o r.toList))=Y':=C.failed|||l.failed;rw[P];show h _ #[w1|||J,C.kind|||l.kind,P,C.pend|||l.pend] (λj hj=>w2 j ()) (AS.seg ?_)
  rw[<-vG,<-vG,ho];rw[<-vG] at w2;show AS.put (ys:=wr a o r.toList) H D () (wE _ t) (wE _ n) () O T3 w2 (λi j v y F=>?_) λj v y=>?_
  .let#[i,rfl]:=wB v;let#[j,rfl]:=wB (zR v y);rw[w3 i (),w3 j ()]
   show sr _ _ (qO y) ()
  .let#[i,rfl]:=wB v;rw[w3 i ()]
   let hm:r.toList[i]'(by rw[yD];lia)∈(a.toList.drop o).take (n+t):=S.mem_iff.mp (yH _)
   let#[u,u1,u2,_,u3]:=NG hm;exists u,u1,by lia
   rwa[<-u3,Np (by rw[<-yC];show zW _)]
 show Vg (λI=>?_) λI=>?_
 .show jX (ox l.kind U U () () X Y f0 R (Ki X) (Ki Y) λr e C gd=>jX (wpS_modify (jX (wpS_get (jY (L r e C gd))))))
 .show jX (oK l.kind U U () () X Y f0 R (Ki X) (Ki Y) λr e C gd=>jX (wpS_modify (jX (wpS_get (jY (L r e C gd))))))
end
abbrev Rs:=List (Nat×Nat×Nat)
def Rn(b:ju):Rs->Nat->Nat->Prop
 |[],a,c=>a=c
 |r::l,a,c=>r.1=a/\1<=r.2.1/\Xd b r.1 r.2.1/\Rn b l (r.1+r.2.1) c
theorem Rn.le{b:ju}:∀{l:Rs}{a c:Nat},Rn b l a c->a+↑l<=c
 |[],a,c,h=>by cases h;simp
 |r::l,a,c,⟨h1,h2,_,h4⟩=>by
  have:=h4.le;simp only[yX]
  lia
theorem Rn.app{f:ju}:∀{l m:Rs}{a c:Nat},Rn f (l++m) a c ↔ ∃ b,Rn f l a b/\Rn f m b c
 |[],m,a,c=>#[λh=>#[a,Z,h],λ⟨b,d,e⟩=>by cases d;show e]
 |r::l,m,a,c=>by
  change (r.1=a/\1<=r.2.1/\Xd f r.1 r.2.1/\Rn f (l++m) (r.1+r.2.1) c)↔_;rwa[Rn.app,#[λ⟨d,e,g,b,i,j⟩=>#[b,#[d,e,g,i],j],λ⟨b,⟨d,e,g,i⟩,j⟩=>#[d,e,g,b,i,j]]]
def Xd.frame{a b:ju}{o n:Nat}(h:Xd a o n)(e:∀ j,o<=j->j<o+n->Kk b j=Kk a j):Xd b o n:=λi j c d=>by
 rw[e _ () (),e _ () ()]
 show h i j c d
theorem Rn.frame{d f:ju}:∀{l:Rs}{a c:Nat},Rn d l a c->(∀ j,a<=j->j<c->Kk f j=Kk d j)->Rn f l a c
 |[],a,c,h,_=>h
 |r::l,a,c,⟨h1,h2,h3,h4⟩,e=>by
  have:=h4.le;show#[h1,h2,h3.frame λj g b=>e j () (),h4.frame λj g b=>e j () b]
theorem Rn.mod{d:ju}{f:Nat×Nat×Nat->Nat×Nat×Nat}(b:∀ r,(f r).1=r.1/\(f r).2.1=r.2.1):∀{l:Rs}{i a c:Nat},Rn d l a c->Rn d (l.modify i f) a c
 |[],i,a,c,h=>#v[h]
 |r::l,0,a,c,⟨h1,h2,h3,h4⟩=>by
  rwa[List.modify_zero_cons,#[(b r).1|||h1,by rw[(b r).2];show h2,by rw[(b r).1,(b r).2];show h3,by rw[(b r).1,(b r).2];show h4]]
 |r::l,i+1,a,c,⟨h1,h2,h3,h4⟩=>by
  rwa[List.modify_succ_cons,#[h1,h2,h3,h4.mod b]]
structure RS(a₀:ju)(lo:Nat)(st:ke):Prop where
 tb:TB a₀ (kf st) st
 rn:Rn (jZ st) (kf st).toList 0 lo
 le:lo<=a₀.size
section
variable[KoOk prog w A s]{a₀:ju}
theorem Ev{d:ke}{i g:Nat}{Q:Bool->ke->Prop}(K:Wn a₀)(r:RS a₀ g d)(L:i+1<(kf d).size)(h:∀ a,RS a₀ g a->(kf a).size+1=(kf d).size->(∀ j,g<=j->Kk (jZ a) j=Kk (jZ d) j)->Q true a):wpS ↥_ A E s (mergeAt' i) Q d:=by
 let M:↑(kf d).toList=(kf d).size:=yD;generalize x:kf d=p at L M h;let e:p.toList=p.toList.take i++p.toList[i]'()::p.toList[i+1]'()::p.toList.drop (i+2):=by
  rw[mn,mn,wQ]
 let H:Rn (jZ d) p.toList 0 g:=by rwa[<-x,r.rn]
 let t:p[i]?\(p.toList[i]'()):=by rwa[<-yC,zW _]
 let u:p[i+1]?\(p.toList[i+1]'()):=by rwa[<-yC,zW _]
 generalize p.toList[i]'()=U at e t
 generalize p.toList[i+1]'()=V at e u
 let y:↑(p.toList.take i)=i:=by rw[wS];lia
 generalize p.toList.take i=P at e y;generalize p.toList.drop (i+2)=R at e;rw[e] at H;let#[b,O,S]:=Rn.app.mp H;let#[q,k,o]:=U;let#[sb,l,T]:=V;let#[z,B,C,D,F,G,n]:=S;dsimp only at z B C D F G n;subst D;let l7:=n.le;let N:=r.le;let I:=r.tb;rw[x] at I;show oB K I t u B F () C G λa f m W=>?_
 let J:((p.setIfInBounds i (q,k+l,o)).eraseIdxIfInBounds (i+1)).toList=P++(q,k+l,o)::R:=by
  rw[qC,pY,e,<-y];simp[List.eraseIdx_append_of_length_le]
 let v:(kf a).toList=P++(q,k+l,o)::R:=#v[f.pend,J]
 show h a #[?_,?_,r.le] ?_ λj c=>m j (.inr ())
 .rwa[f.pend,f]
 .rw[v];show Rn.app.mpr #[b,O.frame λj _ c=>m j (.inl ()),z,(by change 1<=k+l;lia),W,?_]
  dsimp only;rwa[<-vG,n.frame λj c _=>m j (.inr c)]
 .let X:=congrArg xY v;let Y:=congrArg xY e;simp at X Y
  lia
theorem An{c:Prop}{_:Decidable c}{n:Nat}(h:2<=n):(if c then n-2-1 else n-2)+1<n:=by split<;>lia
theorem AJ{n:Nat}(h:n>1):n-2+1<n:=()
def Sz{f b:Type}{c:b->Prop}{_:∀ n,Decidable (c n)}{x J:b->StateT ke Sem f}{Q:f->ke->Prop}{a:ke}{d:b->Prop}(P:b->ke->Prop)(k:∀ n a,P n a->wpS ↥_ A E s (J n) Q a)(g:∀ n,¬c n->d n->P n a)(i:∀ n,c n->(∀ n a,P n a->wpS ↥_ A E s (J n) Q a)->d n->wpS ↥_ A E s (x n) Q a)(n:b)(e:d n):wpS ↥_ A E s (if c n then x n else J n) Q a:=by
 show Vg (λh=>?_) λh=>?_
 .show i n h k e
 .show k n a (g n h e)
def RS.push{b:ke}{a n:Nat}(r:RS a₀ a b)(h:Xd (jZ b) a n)(d:1<=n)(c:a+n<=a₀.size):RS a₀ (a+n) (setPending b ((kf b).push (a,n,0))):=by
 show#[#[r.tb.perm,r.tb.kind,r.tb.failed,Z],?_,c];change Rn (jZ b) ((kf b).push (a,n,0)).toList 0 (a+n);rwa[sJ,Rn.app.mpr #[a,r.rn,Z,d,h,Z]]
def RS.mod{a:ke}{b i:Nat}{f:Nat×Nat×Nat->Nat×Nat×Nat}(r:RS a₀ b a)(c:∀ r,(f r).1=r.1/\(f r).2.1=r.2.1):RS a₀ b (setPending a ((kf a).modify i f)):=by
 show#[#[r.tb.perm,r.tb.kind,r.tb.failed,Z],?_,r.le];change Rn (jZ a) ((kf a).modify i f).toList 0 b;rwa[Array.toList_modify,r.rn.mod c]
theorem BY{st:ke}{Q:Unit->ke->Prop}(C:Wn a₀)(v:TB a₀ ⇑[] st)(h1:1<=a₀.size)(h:∀ z,(jZ z).Perm a₀->failedOf z=Y'->Pz (jZ z) a₀.size->Q .unit z):wpS ↥_ A E s sortRuns' Q st:=by
 let#[kd,X,T,gl,Y]:=st;let hz:X.size=a₀.size:=v.perm.size_eq;let r0:RS a₀ 0 (SortSt.mk' kd X T gl Y):=#[#[v.perm,v.kind,v.failed,Z],by
  have:T=⇑[]:=v.pend;subst this;show Z,yZ _]
 show jX (wpS_get ?_);dsimp only;rw[hz];generalize hm:minRun' a₀.size a₀.size 0=mr;show jX (kj (ki (I:=λx c a=>∃ b,c=(Y',b)/\RS a₀ b a/\x<=b) (Q:=λc a=>∃ b,c=(Y',b)/\RS a₀ a₀.size a) ?step ?fin #[(0),Z,r0,zY _]) ?post)
 case fin=>
  rintro c a ⟨b,rfl,r,x⟩;have:=r.le;let e:b=a₀.size:=()
  subst e;show#[1,r]
 case post=>
  rintro c a ⟨b,rfl,r⟩;dsimp only;show jX (kj (ki (I:=λx c a=>c=(Y',.unit)/\RS a₀ a₀.size a/\((kf a).size<=1\/(kf a).size+x<=a₀.size)) (Q:=λc a=>c=(Y',.unit)/\RS a₀ a₀.size a/\(kf a).size<=1) ?_ ?_ #[Z,r,.inr ?_]) ?_)
  .rintro x c d _ hx ⟨rfl,g,z⟩;show jX (wpS_get ?_);show Vg (λc=>?_) λc=>?_
   .show jY #[Z,g,c]
   show jX (Ev C g (An (Nat.not_le.mp c)) λO D e3 _=>?_);rw[aO ⋯]
   show jY #[Z,D,.inr ()]
  .rintro c d ⟨rfl,g,z⟩;exists Z,g
   lia
  .have:=r.rn.le;rw[yD] at this
   lia
  .rintro c d ⟨rfl,g,z⟩;dsimp only;show jY (h d g.tb.perm g.tb.failed ?_);let F:=g.rn;rw[<-yD] at z;generalize (kf d).toList=l at F z
   match l,F,z with
   |[],F,_=>show mZ F (by change ¬0=a₀.size;lia)
   |[q],⟨q1,q2,q3,U⟩,_=>
    let U:q.1+q.2.1=a₀.size:=U;intro i j G c2;have:=q3 i j G ()
    rw[q1,uN,uN] at this;show this
 case step=>
  rintro x c a _ hx ⟨b,rfl,r,xl⟩;dsimp only;show Vg (λG=>?_) λG=>?_
  .have:=r.le;let e:b=a₀.size:=()
   subst e;show jY #[1,r]
  show jX (pC C () () r.tb λm d p J M N B=>?_)
  dsimp only;let g:RS a₀ b d:=#[#v[p.pend,p],#v[p.pend,r.rn.frame λj _ c=>J j c],r.le]
  let H:1<=m/\m<=a₀.size-b/\Xd (jZ d) b m:=#[M,N,B];clear M N B
  revert H
  revert m
  show Sz (λn st=>RS a₀ b st/\Xd (jZ st) b n/\1<=n/\b+n<=a₀.size) (λn O H=>?_) (λm _ H=>#[g,H.2.2,H.1,()]) (λm cm L H=>?_)
  .let#[D,W,S,R]:=H;show jX (wpS_get ?_);split
   .rename_i V P pw _
    show jX (kj (ki (I:=λ_ c st=>c=(Y',.unit)/\RS a₀ b st/\Xd (jZ st) b n) (Q:=λc st=>c=(Y',.unit)/\RS a₀ b st/\Xd (jZ st) b n) ?_ (λ_ _ h=>h) #[Z,D,W]) ?_)
    .rintro y c k _ _ ⟨rfl,u,o⟩;show jX (wpS_get ?_);by_cases c:(kf k).size>1
     .rw[aP c];split
      .split
       .show jY #[Z,u,o]
       .show jX (Ev C u (AJ c) λa0 r5 _ k5=>?_);rw[aO ⋯]
        show jY #[Z,r5,o.frame λj c _=>k5 j c]
      .show jY #[Z,u,o]
     .rwa[aO c,jY #[Z,u,o]]
    .rintro c k ⟨rfl,u,o⟩;dsimp only;show jX (wpS_modify (jX (wpS_modify (jY #[_,Z,(u.mod (i:=(kf k).size-1) (f:=λx=>(x.1,x.2.1,power' a₀.size (2*V+P) (2*V+P+P+n) a₀.size)) λ_=>#[Z,Z]).push o S R,()]))))
   .show jX (wpS_modify (jY #[_,Z,D.push W S R,()]))
  .let#[M,N,m3]:=H;show Nu ?_;show jX (Bq C () () g.tb m3 λk t K o=>?_)
   rw[aO ⋯]
   show L _ k #[#[#v[t.pend,t],#v[t.pend,g.rn.frame λj _ c=>K j c],g.le],o,(),()]
end
end
section
variable{g:KT->KT}
end
def nh(a:jr)(t:KT):Int:=((a.countP λu=>u.lt t:Nat):Int)
theorem As{c:jr}{t u:KT}(d:t∈c):ng (nh c t<nh c u)=t.lt u:=by
 unfold nh
 cases h:t.lt u with
 |true=>
  let#[a,b,rfl]:=List.append_of_mem d;let m (l:jr):=md (l:=l) (p:=λx=>x.lt t) (q:=λx=>x.lt u) λx _ z=>U' x t u z h;have:=m a;have:=m b;rw[List.countP_append,List.countP_append,List.countP_cons_of_neg (by rw[NT];decide),List.countP_cons_of_pos (p:=λx:KT=>x.lt u) h]
  show aM ()
 |false=>
  have:=md (l:=c) (p:=λx=>x.lt u) (q:=λx=>x.lt t) λx _ z=>by
   cases e:x.lt t with
   |true=>rfl
   |false=>erw[TW h e] at z
  show aK ()
open Classical in
def ui{d g:Type}{f:d->g}{l m:List g}(h:l.Perm m):∀ k:List d,m=k.map f->∃ p:List d,p.Perm k/\l=p.map f:=by
 induction h with
 |nil=>show λk e=>#[k,.refl _,e]
 |cons x _ r=>
  intro k e
  cases k with
  |nil=>cases e
  |cons a k=>
   cases e;let#[p,c,rfl]:=r k Z;show#[a::p,c.cons a,Z]
 |swap x y l=>
  intro k e
  match k,e with
  |a::b::k,e=>
   cases e;show#[b::a::k,.swap _ _ _,Z]
 |trans _ _ o q=>
  intro k e;let#[p,c,i]:=q k e;let#[s,j,n]:=o p i;show#[s,j|||c,n]
section
variable{g:KT->KT}
end
section
variable{kE:jw}{σ:Tw.St}
end
section
variable{kE:jw}{σ:Tw.St}{H:Hp}
end
section
variable{kE:jw}{σ:Tw.St}{H:Hp}
def yz{a:aj}{o:HO}(I:ZF X kE σ H s)(l:X.s₀.heap.get? a=Y')(t:a≠X.env.locals)(m:∀ x c,X.env.cells.lookup x\c->c≠a)(y:∀ p∈X.pn++kE,p.1≠a)(v:H a=Y')(h:Zb X.prog X.w (upd H a o) s.heap a o):ZF X kE σ (upd H a o) s:=by
 let g:∀{b:aj}{u:HO},H b\u->b≠a:=fun{b u} e z=>by erw[z,v] at e
 show#[I.ok,I.os,I.bare,#[I.base.keep,I.base.slot,λb i q n A=>?_,I.base.there,λb k q=>?_,λb i u q=>?_,λb B q=>?_],I.loc,I.cell,?_,λx c e=>?_,λp d=>?_,λb u e=>?_,I.len]
 .rwa[ZM (λz=>by erw[z,l] at q),I.base.free b i q n A]
 .let e:=I.base.tups b k q;rwa[ZM (g e),e]
 .let e:=I.base.frzs b i u q;rwa[ZM (g e),e]
 .let#[f,e]:=I.base.tbls b B q;show#[f,#v[ZM (g e),e]]
 .rwa[ZM (Ne.symm t),I.free]
 .rwa[ZM (m x c e),I.freeC x c e]
 .let#[e,n,r]:=I.pin p d;show#[e,#v[ZM (y p d),n],r]
 .by_cases j:b=a
  .subst j;erw[ZP] at e;show h
  .rw[ZM j] at e;show(I.hok b u e).stay (λ_ _ _ q=>q) (λc q=>#v[ZM (g q),q]) λc k q=>#v[ZM (g q),q]
def ZR.getD{b:jf}{a:je}(r:ZR b a){i:Nat}(h:i<↑b):ZT (b.getD i .non) (a.getD i Value.none):=by
 let e:=↑r;let#[u,c,d]:=r.get (i:=i) (x:=b[i]) (by simp[h])
 rwa[zV,zV,c,zW h,d]
theorem Gs{b:jf}{a:je}(r:ZR b a):∀(l:jq),(∀ i∈l,i<↑b)->ZR (l.map λi=>b.getD i .non) (l.map λi=>a.getD i Value.none)
 |[],_=>.nil
 |i::l,h=>.cons (ZR.getD r (h i zT)) (Gs r l λj c=>h j (zE _ c))
def nj{a:Type}(l:List a)(d:a):(zP ↑l).map (λi=>l.getD i d)=l:=by
 apply List.ext_getElem
 .simp
 .intro i c b;simp[b]
end
noncomputable def XU(t:Int×Int×Int):KT:=.tup [.int t.1,.int t.2.1,.int t.2.2]
def BI(t u:Int×Int×Int):(XU t).plt (XU u)=(XU t).lt (XU u):=by
 let#[a,b,c]:=t;let#[d,e,f]:=u;unfold XU;simp only[KT.plt,pltL,KT.lt,ltL,KT.eqb]
def N7(h:aD)(a:jP)(b:je):Prop:=ku h (a.map XU) b
def Jg{h:aD}{t:Int×Int×Int}{v:ai}(x:ZY h (XU t) v):∃(a:aj)(c d e:Tok),v=.ref a/\IsTup h a ⇑[.int t.1 c,.int t.2.1 d,.int t.2.2 e]:=by
 unfold XU at x;rw[ZY] at x;let#[a,n,rfl,f,b]:=x;rw[ku] at b;let#[o,k,rfl,c,b]:=b;rw[ku] at b;let#[p,l,rfl,d,b]:=b;rw[ku] at b;let#[q,m,rfl,e,b]:=b;rw[ku] at b;subst b;rw[ZY] at c d e;let#[g,rfl]:=c;let#[i,rfl]:=d;let#[j,rfl]:=e;show#[a,g,i,j,Z,f]
def Aq{t u:Int×Int×Int}{x y:ai}{Q:Bool->ak->Prop}(R:ZY s.heap (XU t) x)(S:ZY s.heap (XU u) y)(hu:A.units+2<cLine)(h:Q ((XU t).lt (XU u)) s):aB ↥_ A (keyLt' (tuples' true) x y) Q E s:=by
 let#[a,m,o,r,rfl,T]:=Jg R;let#[c,v,z,B,rfl,U]:=Jg S;let#[C,D,F]:=t;let#[G,H,I]:=u;rw[<-BI] at h;unfold XU at h;rw[KT.plt,pltL,pltL,pltL,pltL] at h;let#[#[X,Y,J,sl],O,M,n,N]:=T;let#[#[cl2,L,K,V],i,l,n2,g]:=U;show PySem.W.kat_lt O N i g ?_;change PySem.W.KatLex prog w A true _ Q [(.int C m,.int G v),(.int D o,.int H z),(.int F r,.int I B)] 0 s;let d:∀(p q:Int)(j k:Tok)(f:Bool->ak->Prop),f ((KT.int p).plt (KT.int q)) s->aB ↥_ A (oneLt' false (.int p j) (.int q k)) f (λ_ _=>False) s:=λp q j k f P=>by
  show PySem.W.kat_one _ _ (Fc 0 (-p) (-q) A _ _ (by simp[KT.depth]) #[j,Z] #[k,Z] (by simp[KT.cmp]) (by simp[KT.depth];lia) prog w _ _ ?_)
  show P
 let b:∀ p q:Int,(KT.int p).eqb (KT.int q)=(p==q):=λp q=>by rw[KT.eqb]
 show rQ (SeqAt.EqAt.int_int C m G v prog w _ _ ?_);show sC (λe=>rV ?_) (λe=>sB ?_)
 .rw[b,e,aP rfl] at h;show rQ (SeqAt.EqAt.int_int D o H z prog w _ _ ?_);show sC (λe=>rV ?_) (λe=>sB ?_)
  .rw[b,e,aP rfl] at h;show rQ (SeqAt.EqAt.int_int F r I B prog w _ _ ?_);show sC (λe=>rV (PySem.W.kat_nil ?_)) (λe=>sB ?_)
   .rw[b,e,aP rfl] at h;show h
   .rw[b,e,aO zN] at h;show d _ _ _ _ _ h
  .rw[b,e,aO zN] at h;show d _ _ _ _ _ h
 .rw[b,e,aO zN,KT.plt] at h;show oneLt_int h
theorem Ef{h:aD}:∀{ts:jP}{vs:je},N7 h ts vs->∃ b,PySem.W.KatTups h vs b/\↑b=↑vs/\∀ v∈b,∃ k t,v=Value.int k t
 |[],vs,x=>by
  unfold N7 at x;rw[vI,ku] at x;subst x;show#[[],.nil,Z,λv c=>mZ c ⋯]
 |t::ts,vs,x=>by
  unfold N7 at x;rw[yL,ku] at x;let#[v,r,rfl,kv,x]:=x;let#[b,d,e,f]:=Ef (ts:=ts) (vs:=r) x;let#[a,l,p,q,rfl,m]:=Jg kv;let#[o,j,g,n,i]:=m;exists .int t.1 l::b,.cons j g i Z d,by simp[e]
  intro v c;rcases zD.mp c with rfl|c
  .show#[_,1]
  .show f v c
def rp{f:jP}{a:je}{Q:PyProof.Rows.SortKind->ak->Prop}(j:0<↑a)(h:N7 s.heap f a)(d:Q (tuples' true) s):aB ↥_ A (keyKind' ⇑a) Q E s:=by
 let#[g,b,i,c]:=Ef h;show PySem.W.kat_kind (T:=.type "int") b () (λv e=>?_) (by decide) d
 let#[k,t,rfl]:=c v e;show yE.of_pure Z
open Classical in
noncomputable abbrev kT(a:jP)(h:aD):Ko:=#[tuples' true,λp=>if z:∃ t∈a,ZY h (XU t) p.1 then nh (a.map XU) (XU z.choose) else 0,λp=>∃ t∈a,ZY h (XU t) p.1]
def DE{a:jP}{h:aD}{t:Int×Int×Int}{p:km}(c:t∈a)(b:ZY h (XU t) p.1):(kT a h).k1 p=nh (a.map XU) (XU t):=by
 let z:∃ t∈a,ZY h (XU t) p.1:=#[t,c,b];show(dif_pos z).trans ?_;rw[Yr.mp (ZY.inj _ _ _ z.choose_spec.2 b)]
theorem ym{d:jP}{c:je}{Q:ke->ak->Prop}(I:2<=↑c)(h:N7 s.heap d c)(L:A.units+2<cLine)(x:∀ (p:jq) (f:ke),p.Perm (zP ↑c)->jZ f=p.toArray.map (sK (c.toArray.zip ⇑c))->failedOf f=Y'->Q f s):
  aB ↥_ A ((sortRuns').run (SortSt.mk' (tuples' true) (c.toArray.zip ⇑c) ⇑[] 7 Y')) (λr C=>Q r.2 C) E s:=by
 let J:↑d=↑c:=by have:=ku.length h;rw[zX] at this;assumption
 let N:@KoOk (kT d s.heap) prog w A s:=@KoOk.mk (kT d s.heap) _ _ _ _ fun{E p q Q} ⟨t,y,a⟩ ⟨u,l,b⟩ z=>by
  let z:Q (ng ((kT d s.heap).k1 p<(kT d s.heap).k1 q)) s:=z;rw[DE y a,DE l b,As (List.mem_map_of_mem y)] at z;show Aq a b L z
 let B (i:Nat):=PySem.W.kat_item (ks:=c) (vs:=c) Z i;let D:(c.toArray.zip ⇑c).size=↑c:=by simp
 generalize c.toArray.zip ⇑c=g at x B D⊢;let v:g.toList=(zP ↑c).map (sK g):=by
  apply List.ext_getElem
  .simp[D]
  .intro i H I;simp[sK,Array.getD,show i<g.size by simpa using H]
 show ae (BY (κ:=kT d s.heap) (a₀:=g) (st:=SortSt.mk' (tuples' true) g ⇑[] 7 Y') (Q:=λ_ z=>(jZ z).Perm g/\failedOf z=Y') (λp k=>?_) (@TB.mk (kT d s.heap) _ _ _ (.refl _) Z Z Z) () λz m n O=>#[m,n]) (λr C K=>?_) λ_ _ z=>z
 .rw[v] at k;let#[i,j,rfl]:=zL.mp k;let j:=xL.mp j;let#[t,o,G]:=ku.get h (zW j);rw[zO] at o;let#[M,F,rfl]:=yB.mp o;exists M,yY F;rwa[B,zV,zW j,G]
 .let#[rfl,m,n]:=K;let#[p,k,e]:=ui (qR.mp m) _ v;show x p _ k (rW.mp (by rw[e];simp)) n
theorem Ca{H:Hp}{b:jr}{a:jf}(d:kr H b a):∀(l:jq),(∀ i∈l,i<↑a)->kr H (l.map λi=>b.getD i (.int 0)) (l.map λi=>a.getD i .non)
 |[],_=>.nil
 |i::l,h=>by
  let c:=h i zT;let#[t,e,g]:=d.get (i:=i) (v:=a[i]) (by simp[c])
  show .cons (show ZG H (b.getD i (.int 0)) (a.getD i .non) from ?_) (Ca d l λj f=>h j (zE _ f));rwa[zV,zV,e,zW c,g]
section
variable{kE:jw}{σ:Tw.St}{H:Hp}
theorem AU{k:Nat}{l:aj}{L:jf}{C:jP}{Q:VK}(hr:Za (k+2) X.A)(I:ZF X kE σ H s)(hl:ZH X.K H l L)(hk:kr H (C.map XU) L)(a9:↑L<1000)(q:∀ (D:aj) (ws:jf) (rs:jP) (U:Hp),ZC H U->H D=Y'->U D\.lst ws->kr U (rs.map XU) ws->rs.Perm C->Q (!D) U):
  aB ↥X X.A (call (.builtin "sorted") [!l]) (EP X kE σ Q) X.xe s:=by
 let#[c,rv,pl,hz]:=I.list hl;let a8:=↑rv;let a4:=↑hk;rw[zX] at a4;let a7:Za k X.A.in1.in1:=(Za.in1 (k:=k+1) hr).in1;show Calls.call_function_entry kind_sorted plain_sorted entry_sorted (args_sorted1 _) ?_;unfold Builtin.«sorted»;show aa (m:=checkCount "sorted" 1 1 _) (ad ?_);show aa (collect_list pl.isList ?_ (by rw[sizeLine_eq];lia))
 show aa (wpAny_newList ?_ (by rw[sizeLine_eq];lia))
 let y:((s.heap.push (seqObj "list" ⇑[] 0)).update ‹s› (Obj.mapSeq (· ++ ⇑c))).objs.size=‹s›+1:=by rw[Heap.size_update,size_push']
 obtain⟨f,x⟩:∃ f,((s.heap.push (seqObj "list" ⇑[] 0)).update ‹s› (Obj.mapSeq (· ++ ⇑c))).push (seqObj "list" ⇑c 0)=f:=#[1];let u:f.get? (‹s›+1)\seqObj "list" ⇑c 0:=by rwa[<-x,<-y,yS _ Z]
 let P:∀ b o,s.heap.get? b\o->f.get? b\o:=λb o z=>by
  let G:b<‹s›:=zU z;rw[<-x,Heap.get?_push_ne _ _ _ #v[y,zJ (uQ G)],rM _ _ _ _ (zJ G),Heap.get?_push_ne _ _ _ (zJ G)]
  show z
 let c1:f.objs.size=‹s›+2:=by rw[<-x,size_push',y]
 obtain⟨D,eD⟩:∃ D,‹s›+1=D:=#[1];rw[eD] at u;let F:‹s›<=D:=()
 let j:H D=Y':=I.hok.fresh F;let d:VS X kE H D:=I.fpOk F j;let a1:X.s₀.heap.get? D=Y':=sX (zR I.sz F);let I1:ZF X kE σ H { s with heap:=f }:=I.kept (t':=s.toks) P;let a0:((s.heap.push (seqObj "list" ⇑[] 0)).update ‹s› (Obj.mapSeq (· ++ ⇑c))).objs.size=D:=y|||eD;change aB _ _ _ _ _ { s with heap:=((s.heap.push (seqObj "list" ⇑[] 0)).update ‹s› (Obj.mapSeq (· ++ ⇑c))).push (seqObj "list" ⇑c 0) };rw[x,a0];show aa (af (wpAny_call_entry slot_list_sort #[_,u,Z] entry_list_sort ?body (args_list_sort _)));rw[list_sort_plain];show aa (listItems_at u Z ?_);show aa (listUpdate_at u Z ?_ (by rw[zM,sizeLine_eq];lia) (yZ _))
 let T:=vV.update f D (Obj.mapSeq λ_=>(⇑[]:jA));obtain⟨e1,J⟩:∃ e1,(f.update D (Obj.mapSeq λ_=>(⇑[]:jA))).get? D\seqObj "list" ⇑[] e1:=#[_,get?_update_seq u λ_=>⇑[]];obtain⟨h,M⟩:∃ h,f.update D (Obj.mapSeq λ_=>(⇑[]:jA))=h:=#[1];rw[M] at J T;change aB _ _ _ _ _ { s with heap:=f.update D (Obj.mapSeq λ_=>(⇑[]:jA)) };rw[M];let I2:ZF X kE σ H { s with heap:=h }:=ZF.turned (s:={ s with heap:=f }) (t':=s.toks) (it:=D) I1 (λb o n z=>(T.2 b n)|||z) d.1 d.2.1 d.2.2.2.1 d.2.2.2.2.1 d.2.2.2.2.2;show aa (seqEpoch_at J Z ?_);show aa (wpAny_newTuple ?_ (by change ↑c<=_;rw[sizeLine_eq];lia))
 show aa (wpAny_newList ?_ (yZ _));show af ?_;obtain⟨e,N⟩:∃ e,(h.push (seqObj "tuple" ⇑c 0)).push (seqObj "list" ⇑[] 0)=e:=#[1];let v:∀ b o,h.get? b\o->e.get? b\o:=λb o z=>by rwa[<-N,zS _ (zS _ z)]
 let I3:ZF X kE σ H { s with heap:=e }:=I2.kept (t':=s.toks) v;let R:e.get? D\seqObj "list" ⇑[] e1:=v _ _ J;let sv:N7 e C c:=kvals_of I3 _ _ _ hk rv;change aB _ _ _ _ _ { s with heap:=(h.push (seqObj "tuple" ⇑c 0)).push (seqObj "list" ⇑[] 0) };rw[N];dsimp only;let E:∀(p:jq),p.Perm (zP ↑c)->EP X kE σ Q (!D) { s with heap:=e.update D (Obj.mapSeq λ_=>vS (p.map λi=>c.getD i Value.none)) }:=by
  intro p hp;let t:∀ i∈p,i<↑L:=λi hi=>by
   have:=xL.mp (hp.mem_iff.mp hi)
   lia
  let a5:↑p=↑c:=by rw[hp.length_eq,uE]
  let s2:=vV.update e D (Obj.mapSeq λ_=>vS (p.map λi=>c.getD i Value.none));obtain⟨c2,a2⟩:∃ c2,(e.update D (Obj.mapSeq λ_=>vS (p.map λi=>c.getD i Value.none))).get? D\seqObj "list" (vS (p.map λi=>c.getD i Value.none)) c2:=#[_,get?_update_seq R λ_=>vS (p.map λi=>c.getD i Value.none)];let J2:ZF X kE σ H { s with heap:=e.update D (Obj.mapSeq λ_=>vS (p.map λi=>c.getD i Value.none)) }:=ZF.turned (s:={ s with heap:=e }) (t':=s.toks) (it:=D) I3 (λb o n z=>(s2.2 b n)|||z) j d.2.1 d.2.2.2.1 d.2.2.2.2.1 d.2.2.2.2.2;let J3:=yz (a:=D) (o:=.lst (p.map λi=>L.getD i .non)) J2 a1 d.2.1 d.2.2.2.2.1 d.2.2.2.2.2 j #[by rw[zX,a5,sizeLine_eq];lia,_,c2,Gs rv _ t,a2]
  let g:=Zf j (.lst (p.map λi=>L.getD i .non));show#[!D,_,J3,Z,q D _ (p.map λi=>C.getD i (0,0,0)) _ g j ZP ?_ ?_]
  .have:=Ca (hk.sm g) _ t;let e2:(p.map λi=>(C.map XU).getD i (.int 0))=(p.map λi=>C.getD i (0,0,0)).map XU:=by
    rw[zH];show sZ λi hi=>?_;let c0:=t i hi;let a3:i<↑C:=()
    simp[zV,zW a3]
   rw[e2] at this;show this
  .have:=hp.map (λi=>C.getD i (0,0,0));rw[show ↑c=↑C by lia,nj] at this
   show this
 by_cases h:↑c<2
 .rw[aP #v[zM,h],aP #v[zM,h]]
  show aa (ad (aa (ad ?_)));dsimp only;let e0:((jZ (SortSt.mk' general' (c.toArray.zip ⇑c) ⇑[] 7 Y')).map (·.2))=vS ((zP ↑c).map λi=>c.getD i Value.none):=by
   change ((c.toArray.zip ⇑c).map (·.2))=_;apply rW.mp;rw[Array.toList_map,ksk_zip];simp only[rK];rw[nj,List.map_snd_zip ()]
  rw[e0];show aa (seqEpoch_at R Z ?_);show aa (listUpdate_at R Z ?_ (yZ _) (by rw[zM,zX,uE,sizeLine_eq];lia))
  simp only[bne_self_eq_false,vO,if_false];show ad #[.none,Z,ad #[1,E _ (.refl _)]]
 .rw[aO #v[zM,h],aO #v[zM,h]]
  show aa (rp () sv ?_)
  show aa (Z0 (ym (Q:=λB S=>S={ s with heap:=e }/\∃ p:jq,p.Perm (zP ↑c)/\jZ B=p.toArray.map (sK (c.toArray.zip ⇑c))/\failedOf B=Y')
   () sv (by let a:=a7.un;lia) λp B Y b3 b4=>#[Z,p,Y,b3,b4]) λr S a6=>?_)
  let#[⟨⟩,B]:=r;let#[rfl,p,Y,b3,b4]:=a6;let O:=PySem.W.kat_snds (p:=⇑p) Z b3;dsimp only;rw[O];show aa (seqEpoch_at R Z ?_);show aa (listUpdate_at R Z ?_ (yZ _) (by rw[zM,zX,rK,Y.length_eq,uE,sizeLine_eq];lia))
  rw[b4];simp only[bne_self_eq_false,vO,if_false];show ad #[.none,Z,ad #[1,E p Y]]
end
section
variable{σ:St}{H:Hp}
def C8{J:It}{K:zZ}{r:jq}{z:TT}{w:TE}{Q:VK}{n:Nat}(h:Nat->V->Prop)(g:aj->Nat->jf->Hp->Prop)(S:n<aq)(q:∀ D i b H,i<n->g D i b H->J.go i H)(I:∀ D i b H x k,i<n->g D i b H->J.yld i H x k->k=H/\h i x)(j:∀ D b H,g D n b H->J.stop n H)(B:∀ D,H D=Y'->g D 0 [] (upd H D (.lst [])))(step:∀ D i b H x,H D\.lst b->↑b<=i->i<n->h i x->g D i b H->∃ a u v,x=.ref a/\Zc K H a [u,v]/\∀ (R:VK) (N:Hp->Prop),(∀ y f,f D\.lst b->g D (i+1) (b++[y]) (upd f D (.lst (b++[y])))->R y f)->(∀ f,f D\.lst b->g D (i+1) b f->N f) ->
   z ([Z' u,Z' v]++r.map λi=>(σ[i]?).join) H λc t=>if c=X' then w ([Z' u,Z' v]++r.map λi=>(σ[i]?).join) t R else N t)(o:∀ D b H,H D\.lst b->g D n b H->Q (!D) H):Ky J 2 (JG K) σ r z w H Q:=by
 intro D C;exists λi m H=>m=n-i/\i<=n/\∃ b,H D\.lst b/\↑b<=i/\g D i b H,#[n,Z,yZ _,[],ZP,zY _,B D C];rintro i m H ⟨rfl,P,b,e,E,p⟩;by_cases d:i<n
 .show .inr #[q D i b H d p,λx k y M F=>?_];let#[rfl,L]:=I D i b H x k d p y;let#[a,u,v,rfl,G,O]:=step D i b _ x e E d L p
  match M,F with
  |[T,U],_=>
   exists a,1,G,Z,u,1,v,1,Z,#[[Z' u,Z' v],Z,Z];show O _ _ (λy f l s=>?_) (λf l s=>?_)
   .show#[b,n-(i+1),l,(),(),Z,d,b++[y],ZP,by rw[zG,xS];lia,s]
   .show#[n-(i+1),(),Z,d,b,l,(),s]
 .let A:i=n:=()
  subst A;show .inl #[j D b H p,o D b H e p]
end
variable{jh ji CS CT CH CK CP CB:aj}
def Jq{X:Cx}{K:zZ}{k:Nat}{o e:Expr}{h:TE}{t:TA}{c a:aJ}(m:Za (k+3) X.A)(l:PE X o h)(j:PA X [e] t)(d:attributeBase o "index" X.env (aH o X.env)=aH o X.env:=by rfl)(g:((aF a (ar [e] X.env)).all (λx=>not x.1)&&(backToKw a (keywordEach [] X.env)).all (λx=>x.1.isSome)
   && ng (↑([e]:jC)+↑([]:List Keyword)+(if ([]:List Keyword).isEmpty then 0 else 1)<30))=X':=by rfl)(f:(c.endLine==a.line)=X':=by rfl)(n:ar [e] X.env=(false,aH e X.env)::ar [] X.env:=by rfl)(b:(aF a (ar [] X.env)).any (·.1)=false:=by rfl)(i:X.K=K:=by rfl):
  PE X (.Call (.Attribute o "index" c) [e] [] a) (La K "list" Uo h t):=by
 subst i;show VL yP mS pZ (Av m) l j d g f n b
inductive Oj(f:jf)(H:Hp)(Q:VK):Prop
 |mk(l:aj)(b:jf)(d:jP)(_:f=[!l])(_:H l\.lst b)(_:kr H (d.map XU) b)(_:↑b<1000)(_:∀(D:aj)(e:jf)(c:jP)(a:Hp),ZC H a->H D=Y'->a D\.lst e->kr a (c.map XU) e->c.Perm d->Q (!D) a)
def B7{X:Cx}{k:Nat}(e:Za (k+2) X.A):Vd X (.builtin "sorted") Oj:=by
 intro b s n H m i Q I r h;let#[l,j,g,rfl,d,c,a,q]:=h;let#[u,rfl,f]:=UD r;cases f;show AU e I (ZH.of d) c a q
def Ro{H:Hp}{k:jP}{l:jf}{i:Nat}{u:V}(h:kr H (k.map XU) l)(e:l[i]?\u):∃ t a,t∈k/\u=.ref a/\H a\.tup [.int t.1,.int t.2.1,.int t.2.2]:=by
 let#[t,d,c]:=h.get e;rw[zO] at d;let#[r,m,rfl]:=yB.mp d;unfold XU at c;rw[ZG] at c;let#[a,x,rfl,n,b]:=c;rw[kr] at b;let#[s,o,rfl,f,b]:=b;rw[kr] at b;let#[v,p,rfl,g,b]:=b;rw[kr] at b;let#[w,q,rfl,j,b]:=b;rw[kr] at b;subst b;rw[ZG] at f g j;subst f g j;show#[r,a,yY m,Z,n]
structure Xj(H:Hp)(dT:aj)(ts:js)(lv:jq)(bs:jx)(kvs:ba):Prop where
 dict:H dT\.dK kvs
 vl:Lv ts lv
 keys:kvs.map (·.1)=lv.map (λi:Nat=>(mY (i:Int):ZQ))
 len:↑bs=↑ts
 tw:∀ i:Nat,i∈lv->∃ tp us,Z2 kvs (mY (i:Int))\.ref tp/\H tp\.tup [.str (ny (nz ts i)),.ref (bs.getD i 0)]/\H (bs.getD i 0)\.lst us/\((nz ts i).h=0->kr H (Yn (nz ts i).rows) us)/\((nz ts i).h≠0->us=iN (nz ts i).bs)
def Xj.at{H:Hp}{d:aj}{c:js}{b:jq}{bs:jx}{a:ba}(h:Xj H d c b bs a):Vz H c b a:=#[h.keys,λi l=>by
 let#[m,n,e,f,g,j,k]:=h.tw i l;show#[_,e,m,_,n,Z,f,g,j,k]]
def Xj.frame{H H':Hp}{b:aj}{e:js}{c:jq}{bs:jx}{a:ba}(h:Xj H b e c bs a)(m:YI H H')(p:H' b\.dK a)(n:∀ i:Nat,i∈c->∀ o,H (bs.getD i 0)\o->H' (bs.getD i 0)\o):Xj H' b e c bs a:=by
 exists p,h.vl,h.keys,h.len;intro i d;let#[q,r,f,g,j,k,l]:=h.tw i d;show#[q,r,f,m _ _ g,n i d _ j,λz=>(k z).mono m _ _,l]
def Xj.same{H b:Hp}{c:aj}{f:js}{d:jq}{bs:jx}{a:ba}(h:Xj H c f d bs a)(s:ZC H b):Xj b c f d bs a:=h.frame (ZC.tups s) (s _ _ h.dict) λi g o e=>s _ _ e
def Xj.sx{H c:Hp}{p d:aj}{f:js}{b:jq}{bs:jx}{a:ba}(h:Xj H d f b bs a)(W:ZJ H p)(k:∀ i:Nat,i∈b->bs.getD i 0≠p)(s:ZI p H c):Xj c d f b bs a:=by
 let#[l,e]:=W.some;show h.frame (s.tupsW W) (s _ _ h.dict (ZE h.dict e)) λi j o g=>s _ _ g (k i j)
def Xj.lawT{d:jr}{H:Hp}{f:aj}{e:js}{g:jq}{bs:jx}{c:ba}(h:Xj H f e g bs c)(j:WF d e)(i:↑d=64)(k:d.Pairwise λa b=>a.lt b=X'):X8 d H f e g c:=#[h.dict,h.at,h.vl,j,i,k]
def HM{d:jr}(o:d.Pairwise λa b=>a.lt b=X'){t:KT}(h:t∈d):∃ j,j<↑d/\d[j]?\t/\∀ i k,i<j->d[i]?\k->k.eqb t=false:=by
 let#[j,g,e]:=uA h;let f:d[j]?\t:=by rw[zW g,e]
 exists j,g,f;intro i k m n;have:=IN o m n f
 cases c:k.eqb t with
 |false=>rfl
 |true=>
  let l:=Ll _ _ c;subst l;erw[NT] at this
def IF{a:jr}{j:js}{i:Nat}{t:ZK}(h:Zw a j i t):(Z6 t).lo∈a/\(Z6 t).hi∈a:=by
 let#[r,k,e,d]:=MD h.ne;let#[g,f,b,c]:=Jx h.ne;rwa[d,c,#[(h.inn r (by rw[e];simp)).1,(h.inn f (by rw[b];simp)).1]]
structure Uy(gt:jr)(H:Hp)(gl:aj)(gs:jf):Prop where
 at_:H gl\.lst gs
 keys:kr H gt gs
 fit:∀ t∈gt,t.fits 3=X'
 len:↑gt=64
 up:gt.Pairwise λa b=>a.lt b=X'
def Uy.frame{c:jr}{H H':Hp}{a:aj}{b:jf}(g:Uy c H a b)(m:YI H H')(k:H' a\.lst b):Uy c H' a b:=#[k,g.keys.mono m _ _,g.fit,g.len,g.up]
def Uy.same{d:jr}{H a:Hp}{b:aj}{c:jf}(g:Uy d H b c)(s:ZC H a):Uy d a b c:=g.frame (ZC.tups s) (s _ _ g.at_)
def Uy.sx{d:jr}{H b:Hp}{p a:aj}{c:jf}(g:Uy d H a c)(W:ZJ H p)(n:a≠p)(s:ZI p H b):Uy d b a c:=g.frame (s.tupsW W) (s _ _ g.at_ n)
inductive Uj(l:jr)(q:jf)(H:Hp)(Q:VK)(_:XK):Prop
 |mk(p k j e:aj)(m:js)(a:jq)(bs:jx)(g c:ba)(o:Nat->Nat)(n:jf)(_:q=[!p,!k,!j,!e])(_:ZJ H p)(_:Xj H k m a bs g)(_:∀ i:Nat,i∈a->bs.getD i 0≠p)(_:WF l m)(_:H j\.dK c)(_:Vs c a o)(_:Uy l H e n)(_:e≠p)(_:0<↑a)(_:↑a<150)(_:∀(d:Hp)(D:aj)(h:jq),ZI p H d->ZJ d p->H D=Y'->d D\.lst (iN h)->(∀ b∈h,b∈a)->↑h<=4->Q (!D) d)
abbrev Ss:jv:=["_law_well_here","_law_twigs","_law_holds","_law_grid_here","_law_some","_law_run_here","_law_last","_law_at","_law_most","_law_labels","_law_low","_law_top","_law_number"]
theorem OP:ZA Ss Tl (Zd Jr):=Z4
theorem SI:(["_law_label_here","_law_number","_law_grid_here","_law_last"]:jv).Nodup:=by decide +kernel
def RJ{α β:Type}{A G:α->β->Prop}{M:Prop}(m:(∀ a b,A a b->G a b)->M)(k:∀ a b,A a b->G a b):M:=m k
theorem yw{gt:jr}(F:Zj K "_law_run" "_law_run" Jr f fd)(T:Yd mg)(DP:-ZD 1 "_law_pull" TQ Yp)(DK:-ZD 2 "_law_picked" TR Yb)(DL:-ZD 2 "_law_label" T1 (Y6 gt)):
  ZL P w K mg kF ZZ 4 f fd Tl (Uj gt):=by
 show F.ko OP λt6 A t2 s H vs Q E hr h=>?_;let#[p,dT,dH,gl,ts,B,bs,a6,hvs,ho,gs,rfl,W,X,bp,hw,r4,hH,G,m0,l0,i2,k]:=h;let nd:=OP.nd;let hu:=VN hr;let m6:=hr.mono (yR Z:1<=3)
 let c0:=hr.mono (yR Z:2<=3)
 intro Xc;show#[_,ZO (NQ (i:=4) [2] ["_law_holds"] nd Z Z Z (Wa (Zv (P8 Z) Z T.sorted Pd (ZV (pv 1)))) (λ_ _ _ _ _=>Nt (YF QH (WT hu (pv 1) (pv 0)) ZN (Zx _))) (λ_ _ _ _ _=>pv 0) #[Z,.inl Z,Z,trivial])
  (ZO (Zz (PW.pt (Wf (YF Xi (Zq DP m6 (Zg (pv 0) ZN)) ZN (Zx _)) (Us (YF (Mm hr.units0) (pv 4) (XT Z1) (Zx _))))) (ZU (Zs 4 nd (Zv (P8 Z) Z T.sorted Pd (ZV (pv 1))))) Z3)
  (ZO (Zs 5 nd (XT (ZV (Zq DK c0 (Zg (pv 0) (pv 4))))))
  (ZO (NE (i:=6) nd Z (Or.inr Z) (Zq DL c0 (Zg (pv 1) (Zk K (pv 5) ZN))))
  (ZO (Zs 7 nd (Jq (K:=K) hr (pv 3) (ZV (Zk K (pv 6) ZN))))
  (ZO (Zs 8 nd (Z5 Wp ZN (Zq DP m6 (Zg (pv 0) ZN))))
  (ZO (NQ (i:=9) [1] ["_law_twigs"] nd Z Z Z (Wa (pv 4)) (λ_ _ _ _ _=>Ur) (λ_ _ _ _ _=>XH (Zg (Zq DL c0 (Zg (pv 1) (pv 0))) (pv 0))) #[Z,.inl Z,Z,trivial])
  (ZO (EM (g:=JG K) ["_law_label_here","_law_number"] "_law_label_here" (i:=4) [3,6] ["_law_grid_here","_law_last"] nd Z Z Z (λ_ _ _ _ _=>wu Z SI Z Z Z Z) (Wa (pv 9))
   (λ_ _ _ _ _=>Nt (YF Xi (Zk K (pv 0) ZN) (Zk K (pv 3) ZN) (Zx _)))
   (λ_ _ _ _ _=>XH (QO (Jq (K:=K) hr (pv 2) (ZV (Zk K (pv 0) ZN))) (Jq (K:=K) hr (pv 2) (ZV (Zk K (pv 0) ZN))) (pv 1)))
   #[Z,.inl Z,Z,Z,.inl Z,Z,trivial])
  (ZO (Vj PassesOwn.never Z (Wa (Zv (B7 c0) Z T.sorted Pd (ZV (pv 4)))) (OM Z (XX (Yf 10 nd) (XX (Yf 11 nd) (XX (Yf 12 nd) OC))))
   (ZU (Zz (PW.pt (M8 (YF QH (pv 10) (pv 7) (Zx _)) (LM (YF PH (Zv X1 Z T.len Xk (ZV (pv 5))) (pv 8) (Zx _)))))
    (ZO (Y0 (VL yP xQ xP V9 (pv 5) (ZV (pv 12)))) (ZU (Zs 7 nd (pv 11)))) Z3)))
  (ZU (Zl (pv 5))))))))))),?_]
 let eI:(B.map λi:Nat=>(i:Int)).map V.int=iN B:=by rw[zH];rfl
 let#[xsP,r7]:=W.some;let M:∀ c,H c=Y'->c≠p:=λc e=>(ZW r7 e).symm;let e8:∀ t∈gt,t.depth<=100:=λt ht=>zR (OF t 3 (G.fit t ht)) ()
 let L:∀(H6:Hp)(q:aj),ZI p H H6->ZJ H6 p->H6 q=Y'->H q=Y':=λH6 q x6 W6 e=>by
  cases z:H q with
  |none=>rfl
  |some o=>
   by_cases y:q=p
   .subst y;let#[xs,e']:=W6.some;erw[e'] at e
   .erw[x6 _ _ z y] at e
 apply RJ (α:=aj) (β:=Hp) (A:=λD Hx=>∃ ss:jq,Hx D\.lst (iN ss)/\(∀ b∈ss,b∈B)/\↑ss<150/\0<↑ss/\ZJ Hx p/\ZI p H Hx/\H D=Y');intro i1;exists 1,dT,a6,B.map λi:Nat=>(i:Int),Z,X.dict,(by rw[X.keys,zH];rfl),P0 X.vl.up,by simp;lia
 intro q nq;rw[eI];let#[H1,eU,g1,hq]:=Xg nq (.lst (iN B));rw[eU];show#[q,Z,#[_,ZH.of hq],K1 B (λj=>ng (0<ho j)) () (λi H3 s3 hi=>#[_,.int (B[i]:Nat),ZH.of (s3 _ _ hq),by simp[iN,zW hi]]) (λi H3 x H4 s3 hi hy=>#[hy.1,hy.2 _ (ZH.of (s3 _ _ hq))]) (λH3 s3=>#[_,ZH.of (s3 _ _ hq),by simp[iN]]) (λH2 j R hj s2 hR=>?_) (λD5 H2 s2 i4 e5=>?_)]
 .let jl:j∈B:=hj;let hg:Zh H2 dH (.int (j:Nat)) (Z' (.int (ho j:Nat))):=hH.2 j jl▸Zh.k (k:=mY (j:Int)) ((g1|||s2) _ _ r4);let ed:ng (((ho j:Nat):Int)>0)=ng (0<ho j):=by rw[decide_eq_decide];lia
  exists 2,dH,.int (ho j:Nat),Z,hg,_,1,Z,_,Z;rwa[ed,hR]
 let i7:=g1|||s2;let W2:=W.same i7;let n5:H D5=Y':=ZC.free g1 i4;let b5:∀ b∈B.filter (λj=>ng (0<ho j)),b∈B:=λb hb=>(yM.mp hb).1;let l5:↑(B.filter (λj=>ng (0<ho j)))<150:=xO (tS _ _) i2;generalize B.filter (λj=>ng (0<ho j))=d at e5 b5 l5;clear hq i4;exists 1,p,(8),Z,W2,UW (by decide) (by decide)
 intro r H5 r0 r1 W5 s3;let x5:ZI p H H5:=(ZI.of i7)|||s3
 replace e5:=s3 _ _ e5 (M _ n5)
 clear s3 i7 W2 g1 s2;exists Z,_,Z;show XJ (λc=>?gT) (λc=>?gE)
 case gE=>
  exists 1,YJ;intro e0 m2;let g0:=Zf m2 (.lst []);exists D5,e0,iN d,Z,Z,ZH.of (g0 _ _ e5),ZH.of ZP,_,Z
  replace e5:=g0 _ _ e5
  replace W5:=W5.same g0
  replace x5:=x5|||ZI.of g0
  generalize upd H5 e0 (.lst [])=H6 at g0 e5 W5 x5⊢;clear g0 m2;show XJ (λc2=>?gT2) (λc2=>i1 D5 H6 #[d,e5,b5,l5,by cases d with|nil=>show mZ Z c2|cons _ _=>simp,W5,x5,n5])
  exists 1,dT,a6,B.map λi:Nat=>(i:Int),Z,(X.sx W bp x5).dict,(by rw[X.keys,zH];rfl),P0 X.vl.up,by simp;lia
  intro D nq;rw[eI];let g:=Zf nq (.lst (iN B));show i1 D _ #[B,ZP,λb h=>h,i2,l0,W5.same g,x5|||ZI.of g,L _ D x5 W5 nq]
 case gT=>
  exists 1,dT,a6,B.map λi:Nat=>(i:Int),Z,(X.sx W bp x5).dict,(by rw[X.keys,zH];rfl),P0 X.vl.up,by simp;lia
  intro D nq;rw[eI];let g:=Zf nq (.lst (iN B));show i1 D _ #[B,ZP,λb h=>h,i2,l0,W5.same g,x5|||ZI.of g,L _ D x5 W5 nq]
 .intro D5 H6 hh;let#[d,e5,b5,l5,p5,W5,x5,n5]:=hh;let a3:=M _ n5;exists 2,p,D5,iN d,Z,W5,a3,e5,by simpa [iN] using p5,by simp[iN];lia
  intro x H7 x7 W7 hx;let#[b0,p9,rfl]:=zL.mp hx;let o0:=x5|||x7;let p1:=x7 _ _ e5 a3;exists YJ;intro U n6;let g8:=Zf n6 (.lst [.int (b0:Nat)]);let h6:upd H7 U (.lst [.int (b0:Nat)]) U\.lst [.int (b0:Nat)]:=ZP;let i3:H U=Y':=L _ U o0 W7 n6;generalize upd H7 U (.lst [.int (b0:Nat)])=H8 at g8 h6⊢;let o1:=o0|||ZI.of g8;let W8:=W7.same g8;let p2:=g8 _ _ p1;let e7:=b5 b0 p9;show#[2,.inl #[U,_,(0),.int (b0:Nat),Z,Z,ZH.of h6,Z,dT,b0,ts,B,a6,Z,((X.sx W bp o1).lawT hw G.len G.up).g,e7,λH9 v s9 hv=>?_]];let#[ta,vlo,o3,rfl,c3,t4,n1]:=hv;let o2:=o1|||ZI.of s9;let W9:=W8.same s9;let t1:=hw b0 _ (Yo (X.vl.lt b0 e7));let#[j0,t7,p3,s7]:=HM G.up (IF t1).2;let G9:=G.sx W m0 o2;let t5:=G.len;show#[1,.inl #[Z,_,ZH.of G9.at_],1,.inr (.inl #[ta,_,(2),o3,Z,Z,Zc.of c3,Z,gl,gs,gt,o3,_,j0,Z,Z,G9.at_,G9.keys,n1,e8,p3,s7,(),?_])]
  show#[1,p,(3),Z,W9,UW (by decide) (by decide),λr2 l6 r20 r21 o6 c6=>#[_,1,Z,?_]]
  let e1:=o2|||c6;let S:=c6 _ _ (s9 _ _ p2) a3;let c9:=M _ i3;let c7:=c6 _ _ (s9 _ _ h6) c9;let t3:ta≠p:=λz=>by
   let#[xs,q]:=W9.some;erw[z,q] at c3
  let m7:=c6 _ _ c3 t3;exists 1,D5,Z,#[_,ZH.of S];show Uu (n:=↑d) (λi z=>(iN d)[i]?\z) (λD i ys I=>ZC l6 I/\l6 D=Y'/\kr I ((d.take i).map λb:Nat=>KT.tup [(Z6 (nz ts b)).kt,.int (b:Nat)]) ys) (YM ())
   (λD i ys I hi C=>#[_,.int (d[i]:Nat),ZH.of (C.1 _ _ S),by simp[iN,hi]]) (λD i ys I z o4 hi C hy=>#[hy.1,hy.2 _ (ZH.of (C.1 _ _ S))]) (λD ys I C=>#[_,ZH.of (C.1 _ _ S),by simp[iN]])
   (λD hD=>#[Zf hD _,hD,.nil]) (λD i ys I z eD r5 hi hz C R hR=>?_) (λD9 a0 l7 a8 C=>?_)
  .let#[s',nD,s1]:=C;let s4:z=.int (d[i]:Nat):=by
    unfold iN at hz;rw[zO,zW hi] at hz;show(zB.inj hz).symm
   subst s4;let mi:d[i]∈d:=yH _;let i6:=e1|||ZI.of s';show#[2,dT,d[i],ts,B,a6,Z,((X.sx W bp i6).lawT hw G.len G.up).g,b5 _ mi,λe3 v Y hv=>#[1,YJ,λtq i5=>?_]];let g:=Zf i5 (.tup [v,.int (d[i]:Nat)]);let sA:=Y|||g;let a2:=sA _ _ eD;let tD:YI (upd e3 tq (.tup [v,.int (d[i]:Nat)])) (upd (upd e3 tq (.tup [v,.int (d[i]:Nat)])) D (.lst (ys++[!tq]))):=λb xs e=>#v[ZM (ZE e a2),e]
   show hR _ _ a2 #[UA (s'|||sA) nD,nD,?_];rwa[yI,zW hi,yT,((s1.sm sA).mono tD _ _).append (.cons (.tup (tD _ _ ZP) (.cons (((hv.key).sm g).mono tD _ _) (.cons (.int _) .nil))) .nil)]
  let#[a7,nD9,a5]:=C;rw[yQ (zY _)] at a5;let s6:=↑a5;rw[zX] at s6;let e2:=e1|||ZI.of a7;let o7:=o6.same a7;let m8:=a7 _ _ m7;exists 1,D9,Z,#[_,ZH.of a8];show C8 (K:=K) (n:=↑d) (λi z=>a0[i]?\z) (λD i zs I=>ZC l7 I/\l7 D=Y'/\∃ O:jP,kr I (O.map XU) zs/\(∀ t∈O,∃ b:Nat,b∈B/\t.2.2=(b:Int))/\↑zs<=i) (YM ())
   (λD i ys I hi C=>#[a0,a0[i],ZH.of (C.1 _ _ a8),by simp[show i<↑a0 by lia]]) (λD i ys I z o4 hi C hy=>#[hy.1,hy.2 a0 (ZH.of (C.1 _ _ a8))]) (λD ys I C=>#[a0,ZH.of (C.1 _ _ a8),()])
   (λD hD=>#[Zf hD _,hD,[],.nil,λt ht=>mZ ht ⋯,zY _]) (λD i zs I z eD r5 hi hz C=>?_) (λD4 zs e3 p7 C=>?_)
  .let#[s',nD,O,c5,c4,r6]:=C;let#[kt,l8,m4]:=a5.get hz;rw[zO,zW hi] at l8;let l9:=(zB.inj l8).symm;subst l9;let mi:d[i]∈d:=yH _;rw[ZG] at m4;let#[pa,us2,rfl,a9,J]:=m4;rw[kr] at J;let#[v1,r1,rfl,k1,J]:=J;rw[kr] at J;let#[v2,r3,rfl,k2,J]:=J;rw[kr] at J;subst J;rw[ZG] at k2;subst k2;let lb:=(No k1).mono (ZC.tups s');let#[tb,n3,m3,rfl,i0,n2,n0]:=lb;let i6:=e2|||ZI.of s';let G':=G.sx W m0 i6;let r8:=s' _ _ m8;let n7:=hw _ _ (Yo (X.vl.lt _ (b5 _ mi)));let#[j1,t8,p4,s8]:=HM G.up (IF n7).1;let#[j2,t9,p6,t0]:=HM G.up (IF n7).2;exists pa,_,1,Zc.of (s' _ _ a9);intro R N hR hN;show#[1,.inr (.inl #[tb,_,(0),_,Z,Z,Zc.of i0,Z,_,Z,.inr (.inl #[ta,_,(0),_,Z,Z,Zc.of r8,Z,Z,_,Z,?_])])];show XJ (λc=>?_) (λc=>hN _ eD #[s',nD,O,c5,c4,()])
   show#[1,.inl #[Z,_,ZH.of G'.at_],1,.inr (.inl #[tb,_,(1),n3,Z,Z,Zc.of i0,Z,gl,gs,gt,n3,_,j1,Z,Z,G'.at_,G'.keys,n2,e8,p4,s8,(),?_])]
   show#[1,.inl #[Z,_,ZH.of G'.at_],1,.inr (.inl #[tb,_,(2),m3,Z,Z,Zc.of i0,Z,gl,gs,gt,m3,_,j2,Z,Z,G'.at_,G'.keys,n0,e8,p6,t0,(),?_])]
   exists 1,YJ;intro tq i5;let g:=Zf i5 (.tup [.int (j1:Nat),.int (j2:Nat),.int (d[i]:Nat)]);let a2:=g _ _ eD;let tD:YI (upd I tq (.tup [.int (j1:Nat),.int (j2:Nat),.int (d[i]:Nat)])) (upd (upd I tq (.tup [.int (j1:Nat),.int (j2:Nat),.int (d[i]:Nat)])) D (.lst (zs++[!tq]))):=λb xs e=>#v[ZM (ZE e a2),e]
   show hR _ _ a2 #[UA (s'|||g) nD,nD,O++[((j1:Int),(j2:Int),(d[i]:Int))],?_,λt ht=>?_,by simp;lia]
   .rwa[yT,((c5.sm g).mono tD _ _).append (.cons (.tup (tD _ _ ZP) (.cons (.int _) (.cons (.int _) (.cons (.int _) .nil)))) .nil)]
   .rcases zC.mp ht with h|h
    .show c4 t h
    .rwa[zI.mp h,#[d[i],b5 _ mi,Z]]
  let#[Y,i4,O,c5,c4,r6]:=C;let n8:=e2|||ZI.of Y;let o8:=o7.same Y;exists 1,D4,zs,O,Z,p7,c5,by lia
  intro Ds ws rs o5 i8 n4 m1 s0 e9;let n9:=n8|||ZI.of i8;let o9:=o8.same i8;let c8:=i8 _ _ (Y _ _ (a7 _ _ c7));let l3:Ds≠U:=λz=>by
   erw[z,Y _ _ (a7 _ _ c7)] at n4
  show#[Ds,Z,#[_,ZH.of m1],PM (K:=K) (a:=Ds) (xs:=ws) (λi σ I=>∃(i9 l1 l2:jg)(e6:Int)(ns:jq),σ=[Z' !p,Z' !dT,Z' !dH,Z' !gl,Z' !D4,Z' !U,Z' !ta,Z' (-e6),Z' (.int (2+r2)),Z' !D9,i9,l1,l2]/\(∀ c o,c≠U->o5 c\o->I c\o)/\I U\.lst (iN ns)/\(∀ b∈ns,b∈B)/\↑ns<=4)
   #[_,_,_,_,[b0],Z,λc o _ e=>e,c8,λb hb=>#v[zI.mp hb,e7],by simp] (λi σ I _ C=>?_) ?_ ?_]
  .let#[_,_,_,_,_,_,k',_]:=C;show ZH.of (k' _ _ l3 m1)
  .rintro i u σ e4 m9 ⟨i9,l1,l2,e6,ns,rfl,l,m,a4,l4⟩;let#[t,pa,mt,rfl,a9]:=Ro s0 m9;let#[b,hb,eb]:=c4 t (e9.subset mt);let m5:=l _ _ (ZE a9 c8) a9;exists pa,1,Zc.of m5,Z,_,1,_,1,_,1,Z;show#[2,_,1,Z,1,XJ (λc1=>?_) (λc1=>?_)]
   .show#[1,U,1,.inl (ZH.of m),1,_,1,Z,1,XJ (λc2=>?_) (λc2=>?_)]
    .let hlt:↑ns<4:=by
      have:=of_decide_eq_true c2;simp[iN] at this
      lia
     exists 1,.inl #[Z,_,ZH.of m],1,U,_,1,Z,m,YM (by simp[iN];lia)
     show#[1,_,_,_,_,ns++[b],Z,λc o n e=>#v[ZM n,l _ _ n e],?_,λb' p8=>?_,by simp;lia]
     .rw[ZP,eb];simp[iN]
     .rcases zC.mp p8 with h|h
      .show a4 b' h
      .rwa[zI.mp h,hb]
    .show#[_,_,_,_,ns,Z,l,m,a4,l4]
   .show#[_,_,_,_,ns,Z,l,m,a4,l4]
  .rintro σ e4 ⟨i9,l1,l2,e6,ns,rfl,l,m,a4,l4⟩;let p0:ZJ e4 p:=by
    let#[a1,b1,c1,d1,r9,rr]:=o9.ex;show#[a1,b1,c1,d1,l _ _ (Ne.symm c9) r9,rr]
   show#[1,k e4 U ns (λc o e n=>l _ _ (ZW e i3) (n9 _ _ e n)) p0 i3 m a4 l4]
def CY{a:js}{b:jq}(d:Lv a b)(t:ZK)(i:Nat):abv (a++[t]) (b++[↑a]) i=abv a b i++(if i∈t.bs then [↑a] else []):=by
 unfold abv;rw[uC]
 congr 1
 .show uP λj c=>?_;rw[P9 (d.lt j c)]
 .by_cases h:i∈t.bs
  .simp[OU,h]
  .simp[OU,h]
theorem Gm{f:jr}{a:js}{b:jq}(d:WF f a)(c:Lv a b){i:Nat}(h:↑a<=i):abv a b i=[]:=by
 cases e:abv a b i with
 |nil=>rfl
 |cons j r=>
  let k:=OG d c (i:=i) (j:=j) #v[e,zT]
  let m:=d j _ (Yo (c.lt j k.2));let l:i∈(nz a j).bs:=by
   have:j∈abv a b i:=#v[e,zT]
   unfold abv at this;show of_decide_eq_true (yM.mp this).2
  let g:(nz a j).h≠0:=()
  have:=((m.stem g).2.2.1 i l).1
  lia
def Lv.push{g:js}{f:jq}{t:ZK}(h:Lv g f)(d:∀ b∈t.bs,b∈f):Lv (g++[t]) (f++[↑g]):=by
 show#[λi e=>?_,λi e b c=>?_,xI.mpr #[h.up,mu _ _,λa j b d=>#v[zI.mp d,h.lt a j]]]
 .rw[zG,xS];rcases zC.mp e with z|z
  .have:=h.lt i z
   lia
  .rw[zI.mp z]
   lia
 .rcases zC.mp e with z|z
  .rw[P9 (h.lt i z)] at c;show yG _ (h.cl i z b c)
  .rw[zI.mp z,OU] at c;show yG _ (d b c)
def Cb{c:jr}{ts:js}{a:jK}(g:WZ a)(i:(a.map (·.1)).Sublist c):Zw c ts ↑ts (Y9 a):=by
 let#[h,d,f,b]:=g;show#[λz=>?_,b,λr e=>#[i.subset (zL.mpr #[r,e,Z]),h r e],λ_=>#[Z,f],λz=>mZ Z z];let j:a=[]:=z;rw[j] at d;simp at d
def Gn{d:jr}{c:jK}(i:d.Pairwise λa b=>a.lt b=X')(g:∀ r∈c,r.fit)(h:(c.map (·.1)).Sublist d)(e:0<↑c)(f:↑c<=4):WZ c:=#[g,e,f,i.sublist h]
def tj{p:jr}{f g:aj}{H s:Hp}{S d r:aj}{a:js}{e:jq}{h:Nat->jq}{j:Nat->Nat}{u l:jy}{q c:ba}{x n:jf}{k:jK}(U:Wl p f g H S d r a e h j u q x)(B:↑a<=700)(A:Zw p a ↑a (Y9 k))(R:Z7 f g s S d r (a++[Y9 k]) (e++[↑a]) (WR ↑a h) (Xl ↑a j) l c n):Wl p f g s S d r (a++[Y9 k]) (e++[↑a]) (WR ↑a h) (Xl ↑a j) l c n:=by
 let W:=U.wf.push A;let v:↑(a++[Y9 k])=↑a+1:=by simp
 let t:Lv (a++[Y9 k]) (e++[↑a]):=U.vl.push λb w=>by cases w
 let o:∀ i,abv (a++[Y9 k]) (e++[↑a]) i=abv a e i:=λi=>by
  rw[CY U.vl,aO (by change i∉([]:jq);simp),xD]
 let inl:∀ i,i∈e++[↑a]->i≠↑a->i∈e:=λi m z=>(zC.mp m).elim id λy=>mZ (zI.mp y) z;show#[R,W,t,λi m=>?_,λi m=>?_,by rw[v];lia]
 .by_cases z:i=↑a
  .subst z;rw[show WR ↑a h ↑a=[] from aP rfl];rw[o];rw[Gm U.wf U.vl (zY _)]
  .rwa[show WR ↑a h i=h i from aO z,o,U.av i (inl i m z)]
 .by_cases z:i=↑a
  .subst z;rw[show Xl ↑a j ↑a=1 from aP rfl]
   lia
  .rwa[show Xl ↑a j i=j i from aO z,o,U.live i (inl i m z)]
theorem ud{w:jr}{j k:aj}{H v:Hp}{S d u:aj}{a:js}{f:jq}{e:Nat->jq}{c:Nat->Nat}{A m:jy}{t g:ba}{D o:jf}{bs:jq}(U:Wl w j k H S d u a f e c A t D)(E:↑a<=700)(p:∀ b∈bs,b∈f){L:YR}(s:nu (Zt a bs)\L)(C:∀ b∈bs,1<=c b)(R:Z7 j k v S d u (a++[YQ a bs]) (f++[↑a]) (Wx bs ↑a (WR ↑a e)) (X0 bs (Xl ↑a c)) m g o):Wl w j k v S d u (a++[YQ a bs]) (f++[↑a]) (Wx bs ↑a (WR ↑a e)) (X0 bs (Xl ↑a c)) m g o:=by
 let W:=U.wf.push (Df U.wf (λb h=>U.vl.lt b (p b h)) s);let B:↑(a++[YQ a bs])=↑a+1:=by simp
 let x:Lv (a++[YQ a bs]) (f++[↑a]):=U.vl.push p;let r:∀ i,abv (a++[YQ a bs]) (f++[↑a]) i=abv a f i++(if i∈bs then [↑a] else []):=λi=>CY U.vl (YQ a bs) i
 let inl:∀ i,i∈f++[↑a]->i≠↑a->i∈f:=λi l z=>(zC.mp l).elim id λy=>mZ (zI.mp y) z;show#[R,W,x,λi l=>?_,λi l=>?_,by rw[B];lia]
 .by_cases z:i=↑a
  .subst z;let q:↑a∉bs:=λy=>by have:=U.vl.lt _ (p _ y);lia
   rw[show Wx bs ↑a (WR ↑a e) ↑a=WR ↑a e ↑a from aO q,show WR ↑a e ↑a=[] from aP rfl];rw[r];rw[Gm U.wf U.vl (zY _)];rwa[aO q,wX.refl _]
  .rw[r];let n:WR ↑a e i=e i:=aO z;by_cases y:i∈bs
   .rwa[show Wx bs ↑a (WR ↑a e) i=WR ↑a e i++[↑a] from aP y,n,aP y,(U.av i (inl i l z)).append_right _]
   .rwa[show Wx bs ↑a (WR ↑a e) i=WR ↑a e i from aO y,n,aO y,xD,U.av i (inl i l z)]
 .by_cases z:i=↑a
  .subst z;let q:↑a∉bs:=λy=>by have:=U.vl.lt _ (p _ y);lia
   rw[show X0 bs (Xl ↑a c) ↑a=Xl ↑a c ↑a from aO q,show Xl ↑a c ↑a=1 from aP rfl]
   lia
  .rw[r];let n:Xl ↑a c i=c i:=aO z;let f:=U.live i (inl i l z);by_cases y:i∈bs
   .rw[show X0 bs (Xl ↑a c) i=Xl ↑a c i-1 from aP y,n,aP y,zG,xS];have:=C i y
    lia
   .rwa[show X0 bs (Xl ↑a c) i=Xl ↑a c i from aO y,n,aO y,xD,f]
structure Pl where
 S:aj
 d:aj
 lk:aj
 dT:aj
 dH:aj
 gl:aj
 tl:aj
 as:jy
 bs:jx
structure Md where
 ts:js
 lv:jq
 av:Nat->jq
 ho:Nat->Nat
def Pl.ab(p:Pl)(i:Nat):Addr:=p.as[i]!.ab
def Pl.th(p:Pl)(i:Nat):Addr:=p.as[i]!.th
def Pl.x(p:Pl)(i:Nat):Addr:=p.as[i]!.x
def Pl.b(p:Pl)(i:Nat):Addr:=p.bs.getD i 0
structure LS(gt:jr)(jh ji:aj)(H:Hp)(a:Pl)(m:Md):Prop where
 sh:∃ kvs ls,Wl gt jh ji H a.S a.d a.lk m.ts m.lv m.av m.ho a.as kvs ls/\↑ls<=100
 lw:∃ kvs,Xj H a.dT m.ts m.lv a.bs kvs
 hd:∃ hvs,H a.dH\.dK hvs/\Vs hvs m.lv m.ho
 gr:∃ gs,Uy gt H a.gl gs
 told:H a.tl\.lst (iN (zP ↑m.ts))
 dd:a.dT≠a.d/\a.dH≠a.d/\a.dT≠a.dH
 tt:a.tl≠a.lk/\a.tl≠a.gl/\a.lk≠a.gl
 t2:∀ i:Nat,i∈m.lv->a.tl≠a.ab i/\a.tl≠a.th i/\a.gl≠a.ab i
 t3:∀ i:Nat,i∈m.lv->a.b i≠a.tl/\a.b i≠a.lk/\∀ j:Nat,j∈m.lv->a.b i≠a.ab j
 l64:↑m.lv<150
 l700:↑m.ts<=700
structure Yx(a:Pl)(m:Md)(p:aj):Prop where
 lk:a.lk≠p
 gl:a.gl≠p
 tl:a.tl≠p
 tw:∀ i:Nat,i∈m.lv->a.ab i≠p/\a.th i≠p/\a.b i≠p
section
variable{gt:jr}{jh ji:aj}{H H':Hp}{a:Pl}{m:Md}{p:aj}
def LS.shp(h:LS gt jh ji H a m):∃ b c,Z7 jh ji H a.S a.d a.lk m.ts m.lv m.av m.ho a.as b c:=by
 let#[b,c,U,_]:=h.sh;show#[b,c,U.sh]
def LS.wf(h:LS gt jh ji H a m):WF gt m.ts:=by
 let#[b,c,U,_]:=h.sh;show U.wf
def LS.off(h:LS gt jh ji H a m)(n:H p=Y'):Yx a m p:=by
 let#[c,g,U,_]:=h.sh;let#[YO,L]:=h.lw;let#[f,G]:=h.gr;show#[ZW U.sh.sh.looks n,ZW G.at_ n,ZW h.told n,λi b=>#[ZW (U.sh.tw i b).tw.above n,?_,?_]]
 .let#[d,e,_]:=(U.sh.tw i b).things;show ZW e n
 .let#[j,d,_,_,e,_]:=L.tw i b;show ZW e n
def LS.sx{A:jf}(h:LS gt jh ji H a m)(o:Yx a m p)(c:H p\.lst A)(s:ZI p H H'):LS gt jh ji H' a m:=by
 let#[j,z,U,f]:=h.sh;let#[YO,L]:=h.lw;let#[g,r,w]:=h.hd;let#[v,G]:=h.gr;let l:YI H H':=λb C e=>s b _ e (ZE e c);let R:=U.sh;let#[#[u,q],t,x]:=R.sh;show#[#[j,z,#[#[#[#[u,s _ _ q (ZE q c)],s _ _ t (ZE t c),s _ _ x o.lk],R.keys,R.val,R.lt,R.len,λi d=>?_,R.own,R.two],U.wf,U.vl,U.av,U.live,U.l800],f],
  #[YO,L.frame l (s _ _ L.dict (ZE L.dict c)) λi d k e=>s _ _ e (o.tw i d).2.2],#[g,s _ _ r (ZE r c),w],#[v,G.frame l (s _ _ G.at_ o.gl)],s _ _ h.told o.tl,h.dd,h.tt,h.t2,h.t3,h.l64,h.l700]
 let n:=R.tw i d;let#[B,y]:=n.tw.self;show n.frame l (λk e=>s _ _ e (ZE y c)) (λk e=>s _ _ e (o.tw i d).2.1) (λk e=>s _ _ e (o.tw i d).1)
def LS.same(h:LS gt jh ji H a m)(s:ZC H H'):LS gt jh ji H' a m:=by
 let#[d,i,U,b]:=h.sh;let#[YO,L]:=h.lw;let#[c,g,f]:=h.hd;let#[e,G]:=h.gr;show#[#[d,i,#[U.sh.same s,U.wf,U.vl,U.av,U.live,U.l800],b],#[YO,L.same s],#[c,s _ _ g,f],#[e,G.same s],s _ _ h.told,h.dd,h.tt,h.t2,h.t3,h.l64,h.l700]
end
structure LO(gt:jr)(H:Hp)(a:Pl)(m:Md):Prop where
 lw:∃ kvs,Xj H a.dT m.ts m.lv a.bs kvs
 hd:∃ hvs,H a.dH\.dK hvs/\Vs hvs m.lv m.ho
 gr:∃ gs,Uy gt H a.gl gs
 told:H a.tl\.lst (iN (zP ↑m.ts))
def LS.lo{z:jr}{s q:aj}{H H':Hp}{a:Pl}{m:Md}(h:LS z s q H a m)(t:∀ c o,c≠a.S->c≠a.d->c≠a.lk->(∀ i:Nat,i∈m.lv->c≠a.x i/\c≠a.ab i)->H c\o->H' c\o):LO z H' a m:=by
 let#[K,O,U,C]:=h.sh;let#[YO,L]:=h.lw;let#[v,I,F]:=h.hd;let#[E,G]:=h.gr;let R:=U.sh;let#[#[N,u],A,B]:=R.sh;let w:∀ i:Nat,i∈m.lv->∃ n p,H (a.x i)\.ins q n p:=λi f=>by
  let#[n,e]:=(R.tw i f).tw.self;show#[n,_,e]
 let r:∀ i:Nat,i∈m.lv->H (a.ab i)\.lst (iN (m.av i)):=λi f=>(R.tw i f).tw.above;let D:YI H H':=λb Q e=>t b _ (ZE e u) (ZE e A) (ZE e B) (λi f=>by
  let#[n,p,k]:=w i f;show#[ZE e k,ZE e (r i f)]) e
 let g:∀(c:aj)(l:jf),H c\.lst l->c≠a.lk->(∀ i:Nat,i∈m.lv->c≠a.ab i)->H' c\.lst l:=λc l e y M=>t c _ (ZE e u) (ZE e A) y (λi f=>by
  let#[n,p,k]:=w i f;show#[ZE e k,M i f]) e
 let dict:∀(c:aj)(l:ba),H c\.dK l->c≠a.d->H' c\.dK l:=λc l e y=>t c _ (ZE e u) y (ZE e B) (λi f=>by
  let#[n,p,k]:=w i f;show#[ZE e k,ZE e (r i f)]) e
 show#[#[YO,L.frame D (dict _ _ L.dict h.dd.1) λi f o e=>?_],#[v,dict _ _ I h.dd.2.1,F],#[E,G.frame D (g _ _ G.at_ h.tt.2.2.symm λi f=>(h.t2 i f).2.2)],g _ _ h.told h.tt.1 λi f=>(h.t2 i f).1];let#[P,p,_,_,k,_]:=L.tw i f;have:o=.lst p:=by have:=e.symm|||k;show zB.inj this
 subst this;show g _ _ e (h.t3 i f).2.1 λj J=>(h.t3 i f).2.2 j J
theorem Yq{i j:Nat}:((mY ((i:Nat):Int):ZQ)=mY ((j:Nat):Int))↔i=j:=#[λz=>by have:=Sum.inl.inj z;lia,λz=>by rw[z]]
def Vw{a:jq}{n i:Nat}(h:i∈a++[n])(z:i≠n):i∈a:=(zC.mp h).elim id λy=>mZ (zI.mp y) z
theorem va{a:ba}{b:jq}{n:Nat}(e:∀ i∈b,i<n)(h:a.map (·.1)=b.map (λi:Nat=>(mY (i:Int):ZQ))):Z2 a (mY (n:Int))=Y':=by
 cases z:Z2 a (mY (n:Int)) with
 |none=>rfl
 |some v=>
  have:=Ng z;rw[h] at this;let#[i,d,c]:=zL.mp this;let f:=Yq.mp c;let g:=e i d
  lia
def EF{a:ba}{b:jq}{n:Nat}{v:V}(c:∀ i∈b,i<n)(h:a.map (·.1)=b.map (λi:Nat=>(mY (i:Int):ZQ))):(Zo a (.inl (n:Int)) v).map (·.1)=(b++[n]).map (λi:Nat=>(mY (i:Int):ZQ)):=by
 rw[Ha v (va c h),yT,h,yT];rfl
def Fh{b:ba}{c:jq}{n:Nat}{a:Nat->Nat}(e:∀ i∈c,i<n)(h:Vs b c a):Vs (Zo b (.inl (n:Int)) (.int 1)) (c++[n]) (Xl n a):=by
 exists EF e h.1;intro i d;rw[PX];by_cases z:i=n
 .subst z;rw[aP rfl,show Xl i a i=1 from aP rfl];rfl
 .rwa[aO (λy=>z (Yq.mp y)),show Xl n a i=a i from aO z,h.2 i (Vw d z)]
def Jo{a:ba}{k:ZQ}{v w:V}(h:Z2 a k\w):(Zo a k v).map (·.1)=a.map (·.1):=by
 let d:=Ng h;unfold Zo;split
 .rw[zH];show sZ λp _=>?_;change (if p.1=k then (p.1,v) else p).1=p.1
  split<;>rfl
 .rename_i c
  exfalso
  apply c;let#[p,b,e]:=zL.mp d;simp
  first|show#[p.2,by rwa[<-e,b]]|show#[p.1,p.2,b,e]
def Eo{c:ba}{d:jq}{b:Nat}{a:Nat->Nat}(h:Vs c d a)(e:b∈d):Vs (Zo c (.inl (b:Int)) (.int ((a b-1:Nat):Int))) d (Va a b):=by
 exists #v[Jo (h.2 b e),h.1]
 intro i f;rw[PX];by_cases z:i=b
 .subst z;rw[aP rfl,show Va a i i=a i-1 from aP rfl]
 .rwa[aO (λy=>z (Yq.mp y)),show Va a b i=a i from aO z,h.2 i f]
def EW{bs:jx}{D:aj}{i:Nat}(h:i<↑bs):(bs++[D]).getD i 0=bs.getD i 0:=by
 rw[zV,wP h,<-zV]
def D6{bs:jx}{D:aj}:(bs++[D]).getD ↑bs 0=D:=by
 rw[zV,wY (zY _)];simp
def FH{H c:Hp}{k:aj}{a:js}{g:jq}{bs:jx}{f:ba}{t:ZK}{tp D:aj}{us:jf}(L:Xj H k a g bs f)(l:∀ b∈t.bs,b∈g)(m:YI H c)(F:∀ i:Nat,i∈g->∀ o,H (bs.getD i 0)\o->c (bs.getD i 0)\o)(B:c k\.dK (Zo f (.inl (↑a:Int)) !tp))(E:c tp\.tup [.str (ny t),!D])(A:c D\.lst us)(w:t.h=0->kr c (Yn t.rows) us)(x:t.h≠0->us=iN t.bs):Xj c k (a++[t]) (g++[↑a]) (bs++[D]) (Zo f (.inl (↑a:Int)) !tp):=by
 let G:↑(a++[t])=↑a+1:=by simp
 exists B,L.vl.push l,EF L.vl.lt L.keys,by simp[L.len]
 intro i C;by_cases z:i=↑a
 .subst z;let j:(bs++[D]).getD ↑a 0=D:=by rwa[<-L.len,D6]
  exists tp,us,by rw[PX,aP rfl],?_,?_,?_
  .rwa[OU,j,E]
  .rwa[j,A]
  .rwa[OU,w]
  .rwa[OU,x]
 .let d:i∈g:=Vw C z;let e:=L.vl.lt i d;let#[n,p,j,r,s,u,v]:=L.tw i d;let q:(bs++[D]).getD i 0=bs.getD i 0:=EW (by have:=L.len;lia)
  exists n,p,#v[PX,aO (λy=>z (Yq.mp y)),j],?_,?_,?_
  .rwa[P9 e,q,m _ _ r]
  .rwa[q,F i d _ s]
  .rwa[P9 e,λy=>(u y).mono m _ _]
  .rwa[P9 e,v]
noncomputable def Pl.push(a:Pl)(b:YD)(D:aj):Pl:={ a with as:=a.as++[b],bs:=a.bs++[D] }
section
variable{gt:jr}{jh ji:aj}{H H':Hp}{a:Pl}{m:Md}{p:aj}{new:YD}{D:aj}
def LS.asl(h:LS gt jh ji H a m):↑a.as=↑m.ts/\↑a.bs=↑m.ts:=by
 let#[b,c,R]:=h.shp;let#[YO,L]:=h.lw;show#[R.len,L.len]
def LS.lt(h:LS gt jh ji H a m){i:Nat}(b:i∈m.lv):i<↑m.ts:=by
 let#[c,d,R]:=h.shp;show R.lt i b
def OH(h:LS gt jh ji H a m){i:Nat}(c:i∈m.lv):(a.push new D).ab i=a.ab i/\(a.push new D).th i=a.th i/\(a.push new D).x i=a.x i/\(a.push new D).b i=a.b i:=by
 let#[g,j]:=h.asl;let f:=h.lt c;let e:(a.as++[new]).getD i .d=a.as[i]!:=IQ ()
 unfold Pl.ab Pl.th Pl.x Pl.b Pl.push;dsimp only;rw[e,EW ()]
 show#[Z,Z,Z,Z]
def OR(h:LS gt jh ji H a m):(a.push new D).ab ↑m.ts=new.ab/\(a.push new D).th ↑m.ts=new.th/\(a.push new D).x ↑m.ts=new.x/\(a.push new D).b ↑m.ts=D:=by
 let#[f,g]:=h.asl;let e:(a.as++[new]).getD ↑m.ts .d=new:=by rwa[<-f,Jw]
 let c:(a.bs++[D]).getD ↑m.ts 0=D:=by rwa[<-g,D6]
 unfold Pl.ab Pl.th Pl.x Pl.b Pl.push;dsimp only;rwa[e,c,#[Z,Z,Z,Z]]
def Dd(h:LS gt jh ji H a m){t:ZK}{s:Nat->jq}{k:Nat->Nat}(U:H new.th=Y')(K:H new.ab=Y')(L:H D=Y')(x:D≠new.ab)(P:∃ c I,Wl gt jh ji H' a.S a.d a.lk (m.ts++[t]) (m.lv++[↑m.ts]) s k (a.as++[new]) c I/\↑I<=100)(J:∃ c,Xj H' a.dT (m.ts++[t]) (m.lv++[↑m.ts]) (a.bs++[D]) c)(F:∃ u,H' a.dH\.dK u/\Vs u (m.lv++[↑m.ts]) k)(C:∃ N,Uy gt H' a.gl N)(n:H' a.tl\.lst (iN (zP (↑m.ts+1))))(l:↑m.lv+1<150)(T:↑m.ts+1<=700):LS gt jh ji H' (a.push new D) #[m.ts++[t],m.lv++[↑m.ts],s,k]:=by
 let M:↑(m.ts++[t])=↑m.ts+1:=by simp
 let#[N,G]:=h.gr;let#[c,I,R]:=h.shp;let E:∀ i:Nat,i∈m.lv->H (a.ab i)\.lst (iN (m.av i)):=λi f=>(R.tw i f).tw.above;let#[YO,O]:=h.lw;let Q:∀ i:Nat,i∈m.lv->∃ w,H (a.b i)\.lst w:=λi f=>by
  let#[Y,w,_,_,e,_]:=O.tw i f;show#[w,e]
 show#[P,J,F,C,#v[M,n],h.dd,h.tt,λi f=>?_,λi f=>?_,#v[l],#v[M,T]]
 .by_cases z:i=↑m.ts
  .subst z;let#[A,B,_,_]:=OR (new:=new) (D:=D) h;rwa[A,B,#[ZW h.told K,ZW h.told U,ZW G.at_ K]]
  .let#[A,B,_,_]:=OH (new:=new) (D:=D) h (i:=i) (Vw f z);rwa[A,B,h.t2 i (Vw f z)]
 .let r:∀ j:Nat,j∈m.lv++[↑m.ts]->(j∈m.lv/\(a.push new D).ab j=a.ab j)\/(j=↑m.ts/\(a.push new D).ab j=new.ab):=λj q=>by
   by_cases y:j=↑m.ts
   .subst y;show .inr #[Z,(OR h).1]
   .show .inl #[Vw q y,(OH h (Vw q y)).1]
  by_cases z:i=↑m.ts
  .subst z;rw[(OR (new:=new) (D:=D) h).2.2.2];exists (ZW h.told L).symm,(ZW R.sh.looks L).symm;intro j q;rcases r j q with ⟨v,o⟩|⟨v,o⟩
   .rwa[o,(ZW (E j v) L).symm]
   .rwa[o,x]
  .let g:i∈m.lv:=Vw f z;rw[(OH (new:=new) (D:=D) h g).2.2.2];let#[V,W,X]:=h.t3 i g;exists V,W;intro j q;rcases r j q with ⟨v,o⟩|⟨v,o⟩
   .rwa[o,X j v]
   .let#[w,e]:=Q i g;rwa[o,ZW e K]
def Yx.push(h:LS gt jh ji H a m)(o:Yx a m p){t:ZK}{b:Nat->jq}{f:Nat->Nat}(j:new.th≠p)(k:new.ab≠p)(l:D≠p):Yx (a.push new D) #[m.ts++[t],m.lv++[↑m.ts],b,f] p:=by
 exists o.lk,o.gl,o.tl;intro i g;let n:↑(m.ts++[t])=↑m.ts+1:=by simp
 by_cases z:i=↑m.ts
 .subst z;let#[c,d,_,e]:=OR (new:=new) (D:=D) h;rwa[c,d,e,#[k,j,l]]
 .let#[c,d,_,e]:=OH (new:=new) (D:=D) h (i:=i) (Vw g z);rwa[c,d,e,o.tw i (Vw g z)]
def Zr(a:Pl)(m:Md)(c:aj):Prop:=c≠a.S/\c≠a.d/\c≠a.lk/\c≠a.dT/\c≠a.dH/\c≠a.tl/\∀ i:Nat,i∈m.lv->c≠a.x i/\c≠a.ab i
def Zr.push(h:LS gt jh ji H a m){c:aj}(v:Zr a m c){t:ZK}{b:Nat->jq}{f:Nat->Nat}(j:c≠new.x)(k:c≠new.ab):Zr (a.push new D) #[m.ts++[t],m.lv++[↑m.ts],b,f] c:=by
 let#[l,n,o,q,r,s,u]:=v;exists l,n,o,q,r,s;intro i g;let w:↑(m.ts++[t])=↑m.ts+1:=by simp
 by_cases z:i=↑m.ts
 .subst z;let#[d,_,e,_]:=OR (new:=new) (D:=D) h;rwa[d,e,#[j,k]]
 .let#[d,_,e,_]:=OH (new:=new) (D:=D) h (i:=i) (Vw g z);rwa[d,e,u i (Vw g z)]
def WI(a:Pl)(d:jq)(c:aj):=∀ i:Nat,i∈d->c≠a.th i/\c≠a.b i
def WI.push(h:LS gt jh ji H a m){c:aj}(v:WI a m.lv c)(f:c≠new.th)(g:c≠D):WI (a.push new D) (m.lv++[↑m.ts]) c:=λi e=>by
 by_cases z:i=↑m.ts
 .subst z;let#[_,b,_,d]:=OR (new:=new) (D:=D) h;rwa[b,d,#[f,g]]
 .let#[_,b,_,d]:=OH (new:=new) (D:=D) h (i:=i) (Vw e z);rwa[b,d,v i (Vw e z)]
def LS.tup(h:LS gt jh ji H a m){c:aj}{o:jf}(e:H c\.tup o):Zr a m c:=by
 let#[n,s,R]:=h.shp;let#[YO,L]:=h.lw;let#[k,f,_]:=h.hd;let#[#[q,d],g,j]:=R.sh;exists ZE e d,ZE e g,ZE e j,ZE e L.dict,ZE e f,ZE e h.told;intro i b;let#[r,l]:=(R.tw i b).tw.self;show#[ZE e l,ZE e (R.tw i b).tw.above]
end
def Z7.frame{b c:aj}{H H':Hp}{S d g:aj}{p:js}{j:jq}{k:Nat->jq}{l:Nat->Nat}{a:jy}{e:ba}{n:jf}(R:Z7 b c H S d g p j k l a e n)(m:YI H H')(u:∀ o,H S\o->H' S\o)(v:∀ o,H d\o->H' d\o)(w:∀ o,H g\o->H' g\o)(h:∀ i:Nat,i∈j->(∀ o,H a[i]!.x\o->H' a[i]!.x\o)/\(∀ o,H a[i]!.th\o->H' a[i]!.th\o)/\(∀ o,H a[i]!.ab\o->H' a[i]!.ab\o)):Z7 b c H' S d g p j k l a e n:=by
 let#[#[q,r],s,t]:=R.sh;show#[#[#[q,u _ r],v _ s,w _ t],R.keys,R.val,R.lt,R.len,λi f=>(R.tw i f).frame m (h i f).1 (h i f).2.1 (h i f).2.2,R.own,R.two]
def Wl.frame{l:jr}{a b:aj}{H H':Hp}{S d h:aj}{k:js}{j:jq}{f:Nat->jq}{g:Nat->Nat}{e:jy}{c:ba}{i:jf}(U:Wl l a b H S d h k j f g e c i)(R:Z7 a b H' S d h k j f g e c i):Wl l a b H' S d h k j f g e c i:=#[R,U.wf,U.vl,U.av,U.live,U.l800]
def GH{f g:aj}{H:Hp}{S d m:aj}{u:js}{p:jq}{q:Nat->jq}{r:Nat->Nat}{j:jy}{h:ba}{s z:jf}{c:aj}{o':HO}(R:Z7 f g H S d m u p q r j h s)(e:H c\.lst z)(y:m≠c)(t:∀ i:Nat,i∈p->j[i]!.ab≠c/\j[i]!.th≠c):Z7 f g (upd H c o') S d m u p q r j h s:=by
 let#[#[A,v],w,C]:=id R.sh;let k:∀ b o,b≠c->H b\o->upd H c o' b\o:=λb o n e=>#v[ZM n,e]
 show R.frame (λb D a=>k _ _ (ZE a e) a) (λo a=>k _ _ (ZE v e) a) (λo a=>k _ _ (ZE w e) a) (λo a=>k _ _ y a) λi l=>?_;let#[B,x]:=(R.tw i l).tw.self;show#[λo a=>k _ _ (ZE x e) a,λo a=>k _ _ (t i l).2 a,λo a=>k _ _ (t i l).1 a]
def Nb{f g:aj}{H:Hp}{S d q:aj}{t:js}{s:jq}{m:Nat->jq}{p:Nat->Nat}{l:jy}{h z:ba}{r:jf}{c:aj}{o':HO}(R:Z7 f g H S d q t s m p l h r)(e:H c\.dK z)(y:d≠c):Z7 f g (upd H c o') S d q t s m p l h r:=by
 let#[#[A,u],C,v]:=id R.sh;let k:∀ b o,b≠c->H b\o->upd H c o' b\o:=λb o n e=>#v[ZM n,e]
 show R.frame (λb E a=>k _ _ (ZE a e) a) (λo a=>k _ _ (ZE u e) a) (λo a=>k _ _ y a) (λo a=>k _ _ (ZE v e) a) λi j=>?_;let#[B,x]:=(R.tw i j).tw.self;let#[D,w,_]:=(R.tw i j).things;show#[λo a=>k _ _ (ZE x e) a,λo a=>k _ _ (ZE w e) a,λo a=>k _ _ (ZE (R.tw i j).tw.above e) a]
def QZ{H a:Hp}{p:aj}(W:ZJ H p)(k:∀ o,H p\o->a p\o):ZJ a p:=by
 let#[b,c,d,e,f,g]:=W.ex;show#[b,c,d,e,k _ f,g]
noncomputable def X7(a:Pl):jf:=[!a.S,!a.dT,!a.dH,!a.gl,!a.tl]
inductive YL(h:jr)(jh ji:aj)(k:jf)(H:Hp)(Q:VK)(_:XK):Prop
 |mk(p j:aj)(b:Int)(a:Pl)(m:Md)(_:k=[!p,!j,-b])(_:ZJ H p)(_:H j\.tup (X7 a))(_:LS h jh ji H a m)(_:Yx a m p)(_:0<=b)(_:b<16)(_:↑m.lv<=140)(_:↑m.ts<=600)(_:∀(g:Hp)(d:Pl)(e:Md),(∀ c o,H c\o->Zr a m c->Zr d e c/\(c≠p->g c\o))->(∀ c o,H c\o->WI a m.lv c->WI d e.lv c)->(∀ i,H a.lk\.lst i->g d.lk\.lst i)->ZJ g p->LS h jh ji g d e->Yx d e p->X7 d=X7 a->↑e.ts=↑m.ts+1->e.lv=m.lv++[↑m.ts]->Q (.bl true) g)
abbrev pN:jv:=["_law_well_here","_law_state","_law_block","_law_shelf","_law_twigs","_law_holds","_law_grid_here","_law_told","_law_rows","_law_number"]
theorem WU:ZA pN Tv (Zd JW):=Z4
def Ga(n:Nat):iN (zP n)++[.int (n:Nat)]=iN (zP (n+1)):=by rw[List.range_succ];simp[iN]
def zd{e:jq}{n:Nat}(h:∀ b∈e,b<n):ML (-1) (e.map λb:Nat=>(b:Int))<(n:Int):=by
 let i:∀(l:jz)(x:Int),x<(n:Int)->(∀ y∈l,y<(n:Int))->Qe x l<(n:Int):=λl=>by
  induction l with
  |nil=>intro x a _;show a
  |cons c l k=>
   intro x a g;unfold Qe;rw[tO];show k _ ?_ λy d=>g y (zE _ d);split
   .show g c zT
   .show a
 cases e with
 |nil=>change (-1:Int)<_;lia
 |cons b r=>
  change Qe _ _<_;show i _ _ (show ((b:Nat):Int)<(n:Int) by have:=h b zT;lia) λy d=>?_
  let#[z,j,rfl]:=zL.mp d;have:=h z (zE _ j);change ((z:Nat):Int)<(n:Int)
  lia
theorem Fe{gt:jr}(F:Zj K "_law_put_leaf" "_law_put_leaf" JW f fd)(T:Yd mg)(L:Yh K mg jh ji)(DR:-ZD 2 "_law_leaf_rows" S8 XM)(DM:-ZB ZZ 10 jh "put_leaf" Te (Xq jh ji)):
  ZL P w K mg kF ZZ 11 f fd Tv (YL gt jh ji):=by
 show F.ko WU λi6 A i1 s H vs Q E hr h=>?_;let#[p,st,b,a,m,rfl,W,e6,q,O,b0,b1,l2,i5,k]:=h;let nd:=WU.nd;let hu:=VN hr;let e5:=hr.mono (yR Z:2<=10)
 intro Xc;show#[_,ZO (Ps (pv 1) (OM Z (XX (Yf 3 nd) (XX (Yf 4 nd) (XX (Yf 5 nd) (XX (Yf 6 nd) (XX (Yf 7 nd) OC)))))))
  (ZO (Zs 8 nd (Zq DR e5 (NY (pv 0) (Zg (pv 6) (pv 2)))))
  (ZO (Zs 9 nd (YV (E:=E0) (pv 3) L.cS DM hr YX (ZV (VB PF Z T.list Uz (ZV (pv 8))))))
  (ZO (Zz (PW.pt (Wf (WY (Yy (Zv Wq Z T.isi Xh (Zg (pv 9) (We (v:=.ty "int") Z T.int OS Z))))) (Wf (Yy (Zv Wq Z T.isi Xh (Zg (pv 9) (We (v:=.ty "bool") Z T.bool Kn Z))))
   (Us (YF PB (pv 9) (vu Z Z T.max (ZV (pv 7)) (xf (QL QP ZN) zf)) (Zx _)))))) UC Z3)
  (ZO (Y0 (VL yP xQ xP V9 (pv 7) (ZV (pv 9))))
  (ZO (QK hu (pv 4) (pv 9) (XH (Zg Y8 (pv 8))) Z)
  (ZO (QK hu (pv 5) (pv 9) ZN Z)
  (ZU (Zl Uc)))))))),?_]
 let#[l7,c1]:=W.some;let#[gs,G]:=q.gr;let e8:↑gs=64:=by rw[<-↑G.keys,G.len]
 exists 1,st,1,Zc.of e6,Z,_,1,_,1,_,1,_,1,_,1,Z;exists 3,p,a.gl,b,gs,gt,Z,W,O.gl,G.at_,G.keys,G.fit,e8,b0,b1;intro D us rs H1 s1 W1 nD a2 a3 e3 c2 i7 i8;let S1:=q.sx O c1 s1;let l6:↑us=↑rs:=by have:=↑a3;rwa[<-this,zX _]
 let Gd:=Gn G.up e3 c2 () ()
 let#[e7,ls,U1,c4]:=S1.sh;let#[dx,e0]:=U1.sh.sh.self;exists 1,a.S,dx,1,e0,Z,1,D,us,Z,.inl (ZH.of a2);intro l9 n9;let#[H2,eU,U,e9]:=Xg n9 (.lst us);rw[eU];let S2:=S1.same U;let U2:=U1.sh.same U;let l3:=q.l64;exists a.S,a.d,a.lk,l9,m.ts,m.lv,m.av,m.ho,a.as,e7,ls,us,rs,Z,U2,(),e9,a3.sm U,Gd
 intro R u nx Y M fr R3;let i0:∀ y∈(zP ↑m.ts),y<↑m.ts:=λy hy=>xL.mp hy;let U3:=tj (U1.frame U1.sh) () (Cb Gd c2) R3
 let X:=S2.lo (H':=R) λc o n1 n2 n3 n4 e=>fr c o n1 n2 e;let j:=X.told;let c0:(iN (zP ↑m.ts))=((zP ↑m.ts).map λb:Nat=>(b:Int)).map V.int:=by rw[zH];rfl
 show#[1,_,_,_,1,.int _,N4,1,Zp ?_];show#[1,_,_,_,1,.int _,Li,1,Zp ?_];exists 2,(1),Z,a.tl,(zP ↑m.ts).map (λb:Nat=>(b:Int)),-1,Z,Z,ZH.of (by rwa[<-c0,j]),_,1,Z,_,Z
 rw[aK (by have:=zd i0;lia)]
 show Zp ?_;exists 1,.inl #[Z,_,ZH.of j],1,a.tl,_,.int (↑m.ts:Nat),Z,Z,j,YM (by simp[iN];lia)
 let i9:=U2.sh.looks;let#[x,r,hH]:=X.hd;let#[YO,l]:=X.lw;let#[c8,G3]:=X.gr;let c9:R D\.lst us:=by
  let e:=U _ _ a2;let#[#[dS,hS],hk,_]:=U2.sh;show fr _ _ (ZE e hS) (ZE e hk) e
 let i3:YI H1 R:=λc ys e=>by
  let#[#[dS,hS],hk,_]:=U2.sh;let C:=U _ _ e;show fr _ _ (ZE C hS) (ZE C hk) C
 let e4:=a3.mono i3 _ _;let g:∀ c,H2 c=Y'->H c=Y':=λc e=>by
  cases z:H c with
  |none=>rfl
  |some o=>
   by_cases y:c=p
   .subst y;let#[xs,C]:=W1.some;erw[U _ _ C] at e
   .erw[U _ _ (s1 _ _ z y)] at e
 let N:a.tl≠u.ab/\a.tl≠u.th:=#[ZW S2.told M,ZW S2.told Y];let c5:∀ i:Nat,i∈m.lv++[↑m.ts]->((a.as++[u]).getD i .d).ab≠a.tl/\((a.as++[u]).getD i .d).th≠a.tl:=λi hi=>by
  by_cases z:i=↑m.ts
  .subst z;let#[e1,e2,_,_]:=OR (new:=u) (D:=D) q;show#[λy=>N.1 (by rwa[<-e1,y.symm]),λy=>N.2 (by rwa[<-e2,y.symm])]
  .let#[e1,e2,_,_]:=OH (new:=u) (D:=D) q (i:=i) (Vw hi z);let t2:=q.t2 i (Vw hi z);show#[λy=>t2.1 (by rwa[<-e1,y.symm]),λy=>t2.2.1 (by rwa[<-e2,y.symm])]
 let R4:=GH (o':=.lst (iN (zP ↑m.ts)++[.int (↑m.ts:Nat)])) R3 j q.tt.1.symm c5;let B:∀ c o,c≠a.tl->R c\o->upd R a.tl (.lst (iN (zP ↑m.ts)++[.int (↑m.ts:Nat)])) c\o:=λc o n e=>#v[ZM n,e]
 let a0:upd R a.tl (.lst (iN (zP ↑m.ts)++[.int (↑m.ts:Nat)])) a.tl\.lst (iN (zP (↑m.ts+1))):=by rw[ZP,Ga]
 generalize upd R a.tl (.lst (iN (zP ↑m.ts)++[.int (↑m.ts:Nat)]))=H4 at R4 B a0⊢;exists 1,YJ;intro t nt;let#[H5,eU,g5,t5]:=Xg nt (.tup [.str "leaf",!D]);rw[eU];let R5:=R4.same g5;let a1:H5 a.dT\.dK YO:=g5 _ _ (B _ _ (ZE l.dict j) l.dict);let l5:YO.length=↑m.lv:=by have:=congrArg xY l.keys;simpa using this
 let l4:↑x=↑m.lv:=by have:=congrArg xY hH.1;simpa using this
 exists 2,a.dT,1,Y3.k (k:=mY (↑m.ts:Int)) a1 (YM ())
 let R6:=Nb (o':=.dK (Zo YO (.inl (↑m.ts:Int)) !t)) R5 a1 q.dd.1.symm;let I:∀ c o,c≠a.dT->H5 c\o->upd H5 a.dT (.dK (Zo YO (.inl (↑m.ts:Int)) !t)) c\o:=λc o n e=>#v[ZM n,e]
 let a9:upd H5 a.dT (.dK (Zo YO (.inl (↑m.ts:Int)) !t)) a.dT\.dK (Zo YO (.inl (↑m.ts:Int)) !t):=ZP;generalize upd H5 a.dT (.dK (Zo YO (.inl (↑m.ts:Int)) !t))=H6 at R6 I a9⊢;let a7:H6 a.dH\.dK x:=I _ _ q.dd.2.2.symm (g5 _ _ (B _ _ (ZE r j) r));exists 2,a.dH,1,Y3.k (k:=mY (↑m.ts:Int)) a7 (YM ())
 let R7:=Nb (o':=.dK (Zo x (.inl (↑m.ts:Int)) (.int 1))) R6 a7 q.dd.2.1.symm;let J:∀ c o,c≠a.dH->H6 c\o->upd H6 a.dH (.dK (Zo x (.inl (↑m.ts:Int)) (.int 1))) c\o:=λc o n e=>#v[ZM n,e]
 let a8:upd H6 a.dH (.dK (Zo x (.inl (↑m.ts:Int)) (.int 1))) a.dH\.dK (Zo x (.inl (↑m.ts:Int)) (.int 1)):=ZP;generalize upd H6 a.dH (.dK (Zo x (.inl (↑m.ts:Int)) (.int 1)))=H7 at R7 J a8⊢;let a4:∀ c o,c≠a.tl->c≠a.dT->c≠a.dH->R c\o->H7 c\o:=λc o n1 n2 n3 e=>J _ _ n3 (I _ _ n2 (g5 _ _ (B _ _ n1 e)));let a6:YI R H7:=λc ys e=>a4 _ _ (ZE e j) (ZE e l.dict) (ZE e r) e;let a5:∀ c xs,c≠a.tl->R c\.lst xs->H7 c\.lst xs:=λc xs n e=>a4 _ _ n (ZE e l.dict) (ZE e r) e;let tD:a.tl≠D:=ZW q.told nD;let c6:D≠u.ab:=ZW (U _ _ a2) M;let i2:H7 t\.tup [.str "leaf",!D]:=J _ _ (ZE t5 (g5 _ _ (B _ _ (ZE r j) r))) (I _ _ (ZE t5 a1) t5);let c7:LS gt jh ji H7 (a.push u D) #[m.ts++[Y9 rs],m.lv++[↑m.ts],WR ↑m.ts m.av,Xl ↑m.ts m.ho]:=by
  show Dd q (g _ Y) (g _ M) nD c6 #[_,ls,U3.frame R7,c4] #[_,FH (tp:=t) l (λb hb=>by cases hb) a6 (λi hi o e=>?_) ?_ ?_ (a5 _ _ tD.symm c9) (λ_=>e4.mono a6 _ _) (λz=>mZ Z z)] #[_,a8,Fh (λi hi=>q.lt hi) hH] #[c8,G3.frame a6 (a5 _ _ q.tt.2.1.symm G3.at_)] ?_ () ()
  .let#[tp,i4,_,_,C,_]:=l.tw i hi;have:o=.lst i4:=by have:=e.symm|||C;show zB.inj this
   subst this;show a5 _ _ (q.t3 i hi).1 e
  .show J _ _ q.dd.2.2 a9
  .show i2
  .show J _ _ (ZE a0 (B _ _ (ZE r j) r)) (I _ _ (ZE a0 (B _ _ (ZE l.dict j) l.dict)) (g5 _ _ a0))
 let c3:∀ c o,c≠a.S->c≠a.d->c≠a.tl->c≠a.dT->c≠a.dH->H1 c\o->H7 c\o:=λc o n1 n2 n3 n4 n5 e=>a4 _ _ n3 n4 n5 (fr _ _ n1 n2 (U _ _ e));let W7:ZJ H7 p:=QZ W1 λo e=>by
  let#[xs,C]:=W1.some;let eo:o=.lst xs:=by have:=e.symm|||C;show zB.inj this
  subst eo;let#[#[dS,hS],hk,_]:=U1.sh.sh;let#[l1,LA]:=S1.lw;let#[l0,hA,_]:=S1.hd;show c3 _ _ (ZE C hS) (ZE C hk) O.tl.symm (ZE C LA.dict) (ZE C hA) C
 let pn:∀ c,H c=Y'->c≠p:=λc e=>(ZW c1 e).symm;show k H7 _ _ (λc o e v=>?_) (λc o e v=>v.push q (ZW e (g _ Y)) (ZW e nD)) (λxs e=>by
  let e2:=(U _ _ (s1 _ _ e O.lk)).symm|||U2.sh.looks;cases e2;show R7.sh.looks) W7 c7 (O.push q (pn _ (g _ Y)) (pn _ (g _ M)) (pn _ nD)) Z ⋯ Z
 let#[v1,v2,v3,v4,v5,v6,v7]:=id v;show#[v.push q (ZW e (g _ nx)) (ZW e (g _ M)),λcp=>c3 _ _ v1 v2 v6 v4 v5 (s1 _ _ e cp)]
def Ye(H a:Hp):=(∀ b d,H b\.ext d->a b\.ext d)/\∀ b c,H b\.tbl c->a b\.tbl c
def Ye.same{H a:Hp}(s:ZC H a):Ye H a:=#[λb _ e=>s b _ e,λb _ e=>s b _ e]
def Ye.trans{H d f:Hp}(a:Ye H d)(b:Ye d f):Ye H f:=#[λc h e=>b.1 c h (a.1 c h e),λc g e=>b.2 c g (a.2 c g e)]
def ZX.ext{H a:Hp}{T:aj}{q:Str}(h:ZX H T q)(e:Ye H a):ZX a T q:=by
 let#[k,f,g,i]:=h;exists k,e.2 _ _ f,g;intro pos d j;let#[b,c,l,m,n]:=i pos d j;show#[b,c,l,e.1 _ _ m,n]
section
variable{cs:jx}{HL Hc H' H3:Hp}
def Ct(d:∀ c∈cs,H' c=Y')(f:ZC (reT cs Hc H') H3){b:aj}{o:HO}(e:H' b\o):unT cs H3 b\o:=by
 let a:b∉cs:=λz=>by erw[d b z] at e
 rwa[V6 a,f _ _ (by rw[US a];show e)]
def Mz(a:∀ c∈cs,∃ o,Hc c\XF c o)(b:ZC (reT cs Hc H') H3):∀ c∈cs,H3 c=Hc c:=λc h=>by
 let#[o,e]:=a c h;rwa[e,b _ _ (by rw[MX h];show e)]
def KS(a:∀ c∈cs,∃ o,Hc c\XF c o)(f:ZC (reT cs Hc H') H3){t:aj}{b:jf}(e:H3 t\.tup b):unT cs H3 t\.tup b:=by
 rw[V6 λz=>?_]
 .show e
 .rw[Mz a f t z] at e;let#[o,d]:=a t z;erw[d] at e
end
variable{jh ji CS CT CH CK CP CB:aj}
abbrev qS:Str:=("_law_put_stem"++".<locals>.")++"<lambda>"
abbrev cl2(n:Nat):jG:=[((("_law_shelf":String):Str),n+4),((("_law_handed":String):Str),n+3)]
def PN(j:Nat):Arguments×Expr×Scope:=match (WE Vf)[j]? with
 |some (.Assign _ (.Call _ [.Lambda a b c _] _ _) _)=>(a,b,c)
 |_=>(#[[],[],Y',[],[],Y',[]],.Name "" #[(0),(0),(0),(0)],(Zd Vf))
def xp{f g:aj}{H l:Hp}{S d r T:aj}{u:js}{t:jq}{n:Nat->jq}{p:Nat->Nat}{m:jy}{h:ba}{s:jf}{q:Str}(R:Z7 f g H S d r u t n p m h s)(k:ZX H T q)(a:∀ b o,b≠T->H b\o->l b\o):Z7 f g l S d r u t n p m h s:=by
 let#[C,c,_]:=id k;let#[#[A,v],w,x]:=id R.sh;show R.frame (λb E e=>a _ _ (ZE e c) e) (λo e=>a _ _ (ZE v c) e) (λo e=>a _ _ (ZE w c) e) (λo e=>a _ _ (ZE x c) e) λi j=>?_;let#[B,z]:=(R.tw i j).tw.self;let#[D,y,_]:=(R.tw i j).things;show#[λo e=>a _ _ (ZE z c) e,λo e=>a _ _ (ZE y c) e,λo e=>a _ _ (ZE (R.tw i j).tw.above c) e]
theorem AO{r:jr}{o q m f c':aj}{co:aI}{pm ctv:ai}{n:Nat}(i:VR co qS)(L:Yh K mg jh ji)(u:-ZB (Z8 P w) 10 jh "put_stem" T2 (YK r jh ji o q m)):
  ZL P w K mg kF (Z8 P w) 70 f (PySem.W.kla_fn "<lambda>" qS (PN 6).1 (PN 6).2.1 (PN 6).2.2 (cl2 n) pm (!c') ctv) []
   (FN f c' (vQ "<lambda>" qS (PN 6).1 (PN 6).2.1 (PN 6).2.2 (cl2 n) pm c' ctv) co (cl2 n) SU (YK r jh ji o q m)):=by
 let U:(("_law_shelf":String):Str)≠(("_law_handed":String):Str):=by decide
 show yc (k:=69) (λx y c B C=>?_) (λx h=>?_) (λx c h=>?_) (by decide +kernel) Z Z Z (by decide +kernel) i λA j s H Y Q E F h=>?_
 .let a:=PySem.mem_of_lookup B;let b:=PySem.mem_of_lookup C;simp only[zD,tL,or_false,Prod.mk.injEq] at a b;rcases a with ⟨a,e⟩|⟨a,e⟩ <;> rcases b with ⟨b,g⟩|⟨b,g⟩
  .rw[a,b]
  .show mZ (e.symm|||g) (wW (yA (n+3)))
  .show mZ (g.symm|||e) (wW (yA (n+3)))
  .rw[a,b]
 .let t:∀ p∈(PN 6).2.2.names,(p.2=.cell\/p.2=.free)->p.1=(("_law_handed":String):Str)\/p.1=(("_law_shelf":String):Str):=by decide +kernel
  have:x=(("_law_handed":String):Str)\/x=(("_law_shelf":String):Str):=by
   rcases h with h|h
   .show t _ (PySem.mem_of_lookup h) (.inl Z)
   .show t _ (PySem.mem_of_lookup h) (.inr Z)
  rcases this with z|z
  .show#[n+3,by rw[z];rfl]
  .show#[n+4,by rw[z];rfl]
 .let a:=PySem.mem_of_lookup h;show zL.mpr #[_,a,Z]
 .let#[S,d,N,l,X,T,J,M,I,G,O,V,rfl,R,_]:=id h;let#[v,D]:=R.sh.self;show#[_,YV (E:=E) (pv 0) L.cS u (F.mono ()) (U9 (E1:=E) yj λ_ _ _ h=>h) (ZV (pv 1)),1,S,v,1,D,Z,1,h]
theorem Lh{gt:jr}{CB:aj}{C:Nat->aj}{n:Nat}{σ:Tw.St}{H2:Hp}{Q:VK}{T hd S d lk:aj}{ts:js}{lv:jq}{av:Nat->jq}{ho:Nat->Nat}{as:jy}{kvs:ba}{ls:jf}{ns:jz}{NX:jv}{j0 j1:Nat}{f3 f4:aj}(L:Yh K mg jh ji)(X2:XC K CB C 2)(X3:XC K CB C 3)(X4:XC K CB C 4)(F3:XG K (C 3) f3 "number")(F4:XG K (C 4) f4 "number")(DM:-ZB (Z8 P w) 10 jh "put_stem" T2 (YK gt jh ji (C 2) (C 3) (C 4)))(tab:ZX H2 T qS)(hj:NX[j0]?\(("_law_handed":String):Str))(hσ:σ[j0]?\Z' !hd)(hj1:NX[j1]?\(("_law_shelf":String):Str))(hσ1:σ[j1]?\Z' !S)(hhd:H2 hd\.lst (ns.map V.int))(R:Z7 jh ji H2 S d lk ts lv av ho as kvs ls)(hw:WF gt ts)(t800:↑lv<=800)(a800:∀ b,b∈lv->↑(av b)<=800)(h100:↑ns<=100)(k1:∀ x,ns.find? (λx=>!nF lv x)\x->∀ (h:Hp) (t:aj),(∀ b o,b≠T->H2 b\o->h b\o)->ZX h T qS->h t\.tup [.str "twig",-x]->Q (!t) h)(k2:∀ bs:jq,ns=bs.map (λb:Nat=>(b:Int))->(∀ b∈bs,b∈lv) ->
   (nu (Zt ts bs)=Y'->∀ (h:Hp) (t:aj),(∀ b o,b≠T->H2 b\o->h b\o)->ZX h T qS->h t\.tup [.str "stem"]->Q (!t) h) /\
   (nu (Zt ts bs)≠Y'->∀ b,bs.find? (λb=>ng (ho b=0))\b->∀ (h:Hp) (t:aj),(∀ b o,b≠T->H2 b\o->h b\o)->ZX h T qS->h t\.tup [.str "held",.int (b:Nat)]->Q (!t) h) /\
   (nu (Zt ts bs)≠Y'->bs.find? (λb=>ng (ho b=0))=Y'->∀ (h:Hp) (t:aj) (a:YD),H2 a.x=Y'->H2 a.th=Y'->H2 a.ab=Y' ->
    (∀ c o,c≠S->c≠d->c≠T->(∀ b:Nat,b∈lv->c≠as[b]!.x/\c≠as[b]!.ab)->H2 c\o->h c\o)->ZX h T qS ->
    Z7 jh ji h S d lk (ts++[YQ ts bs]) (lv++[↑ts]) (Wx bs ↑ts (WR ↑ts av)) (X0 bs (Xl ↑ts ho)) (as++[a]) (Zo kvs (.inl (↑ts:Int)) !a.x) ls->h t\.tup [.str "told",.int (↑ts:Nat)]->Q (!t) h)):
  GZ (XY P w K mg kF CB C) (cl2 n) SU NX (Xp (Di T (PN 6).1 (PN 6).2.1 (PN 6).2.2 qS (cl2 n)) UY) σ H2 Q:=by
 exists tab;intro I f c' co pm a1 a6 hf a5 N u c3;show#[[!S,!hd],Z,λi x v U H=>?_,λY eU c1 E CA=>?_]
 .let i2:=(yO.mp H).1
  match i,i2,U,H with
  |0,_,U,H=>cases U;cases H;show#[j1,hj1,hσ1]
  |1,_,U,H=>cases U;cases H;show#[j0,hj,hσ]
  |i+2,i2,_,_=>show mZ (show i+2<2 from i2) ()
 let k:∀ c∈(cl2 n).map (·.2),∃ o,Y c\XF c o:=λc hc=>by
  let#[o,v,e,_]:=CA.all c hc;show#[o,e]
 let#[ps,hT,_]:=id tab;let#[c4,a3,_]:=id u;let W:=N _ _ (ZE hhd hT) hhd;let RL:=xp R tab N;let l:∀ b,I b=Y'->H2 b=Y':=λb e=>by
  cases z:H2 b with
  |none=>rfl
  |some o=>
   by_cases y:b=T
   .erw[y,a3] at e
   .erw[N _ _ y z] at e
 exists f,_,_,1,AO (n:=n) (f:=f) (c':=c') (co:=co) (pm:=pm) (ctv:=a1) a6 L DM,λs=>.of_eq Z,E _ _ hf;intro Q' E' hQ hE;exists Z,E _ _ hf,E _ _ a5,[!S,!hd],CA;rw[eU];let q:∀(j h:Hp),ZC I j->(∀ c∈(cl2 n).map (·.2),j c=Y')->ZC (reT ((cl2 n).map (·.2)) Y j) h->(∀ b o,b≠T->H2 b\o->unT ((cl2 n).map (·.2)) h b\o)/\ZX (unT ((cl2 n).map (·.2)) h) T qS:=by
  intro j h B m p;let bk:ZC j (unT ((cl2 n).map (·.2)) h):=λb o e=>Ct m p e;show#[λb o nb e=>bk _ _ (B _ _ (N b o nb e)),u.ext (Ye.same (B|||bk))]
 let A:∀(j:Hp)(b:aj)(o:HO),(∀ c∈(cl2 n).map (·.2),j c=Y')->j b\o->reT ((cl2 n).map (·.2)) Y j b\o:=λj b o m e=>by
  have:b∉(cl2 n).map (·.2):=λz=>by erw[m b z] at e
  unfold reT;rwa[aO this,e]
 show#[S,d,lk,hd,ts,lv,av,ho,as,kvs,ls,ns,Z,RL,hw,t800,a800,W,h100,λx hx G j B D m=>?_,λbs eb hb=>?_]
 .show hE _ _ _ #[(3),(),Z,X3,.inr #[(),G,x,f3,Z,A _ _ _ m D,F3,λh t p F=>?_]]
  let#[J,M]:=q j h B m p;show#[Mz k p,k1 x hx _ t J M (KS k p F)]
 .let#[q1,q2,q3]:=k2 bs eb hb;show#[λr j B m=>?_,λr b a4 G j B D m=>?_,λr a8 j a nx c0 a9 O R' m=>hQ _ _ λt F=>?_]
  .show hE _ _ _ #[(2),(),Z,X2,.inl #[(),λh t p F=>?_]]
   let#[J,M]:=q j h B m p;show#[Mz k p,q1 r _ t J M (KS k p F)]
  .show hE _ _ _ #[(4),(),Z,X4,.inr #[(),G,(b:Nat),f4,Z,A _ _ _ m D,F4,λh t p F=>?_]]
   let#[J,M]:=q j h B m p;show#[Mz k p,q2 r b a4 _ t J M (KS k p F)]
  .let g:=Zf F (.tup [.str "told",.int (↑ts:Nat)]);let bk:ZC j (unT ((cl2 n).map (·.2)) (upd (reT ((cl2 n).map (·.2)) Y j) t (.tup [.str "told",.int (↑ts:Nat)]))):=λb o z=>Ct m g z;let#[#[c2,a2],a7,_]:=RL.sh;let a0:∀(b:aj)(o:HO),I b\o->(∀ i:Nat,i∈lv->b≠as[i]!.x/\b≠as[i]!.ab)->b≠S->b≠d->j b\o:=λb o e n1 n2 n3=>O b o n2 n3 n1 e;let kx:∀(b:aj)(o:HO),I b\o->(∀ C G X,o≠.ins C G X)->(∀ X,o≠.lst X)->(∀ X,o≠.dK X)->j b\o:=λb o e m1 m2 m3=>a0 b o e (λi hi=>by
    let#[G,hx]:=(RL.tw i hi).tw.self;show#[ZE e hx (m1 _ _ _),ZE e (RL.tw i hi).tw.above (m2 _)]) (ZE e a2 (m1 _ _ _)) (ZE e a7 (m3 _))
   let ex:Ye I j:=#[λb φ z=>kx _ _ z #v[] #[] #[],λb φ z=>kx _ _ z #v[] #[] #[]]
   show#[Mz k g,q3 r a8 _ t a (l _ nx) (l _ c0) (l _ a9) (λc o n1 n2 n3 n4 e=>bk _ _ (O c o n1 n2 n4 (N _ _ n3 e))) (u.ext (ex|||Ye.same bk)) (R'.same bk) (KS k g ZP)]
inductive UH(a:zZ)(x y:V)(H:Hp)(Q:VK):Prop
 |mk(p b:aj)(c:jz)(_:x=!p)(_:y=!b)(_:ZH a H p (c.map V.int))(_:ZH a H b (c.map V.int))(_:Q (.bl false) H)
theorem qx(F:X.A.units<cLine):Yz X (az .NotEq) (UH X.K):=by
 intro l s Y H x y v u Q I O P h;let#[p,b,a,rfl,rfl,C,D,q]:=h;cases O;cases P;let#[d,m,M,U]:=I.list C;let#[c,n,N,W]:=I.list D;let L:=↑m;let R:=↑n;show PySem.SeqAt.RcNeAt.lists (e:=λ_=>true) M.isList N.isList (by simp;lia) F (λj i B=>?_) X.prog X.w X.xe _ (Yw I q ⋯)
 let E:j<↑a:=by simp at i;simp at L;lia
 let k:(a.map V.int)[j]?\.int a[j]:=by simp[E]
 let#[S,t,o]:=m.get k;let#[T,z,r]:=n.get k;let#[f,rfl]:=o;let#[g,rfl]:=r;let G:d.toArray[j]=Value.int a[j] f:=by
  have:d.toArray[j]?\Value.int a[j] f:=#v[t]
  rw[sH i] at this;show zB.inj this
 let J:c.toArray[j]=Value.int a[j] g:=by
  have:c.toArray[j]?\Value.int a[j] g:=#v[z]
  rw[sH B] at this;show zB.inj this
 rw[G,J];have:=PySem.SeqAt.EqAt.int_int (A:=X.A.in1) (s:=s) a[j] f a[j] g;simpa using this
variable{jh ji CS CT CH CK CP CB:aj}
def Rh{n:Nat}{y:Str}{c:aj}(h:(cl2 n).lookup y\c):(cellsFrom (n+1) (Zd Vf).names []).lookup y\c:=by
 let e:=PySem.mem_of_lookup h;simp only[zD,tL,or_false,Prod.mk.injEq] at e;rcases e with ⟨a,b⟩|⟨a,b⟩
 .rw[a,b];rfl
 .rw[a,b];rfl
def Sr{n:Nat}:∀ c∈(cl2 n).map (·.2),∃ y,(cl2 n).lookup y\c:=λc a=>by
 let e:c=n+4\/c=n+3:=by simpa using a
 rcases e with e|e
 .show#[(("_law_shelf":String):Str),by rw[e];rfl]
 .show#[(("_law_handed":String):Str),by rw[e];rfl]
theorem wm:(Zd Vf).names.lookup (("_law_handed":String):Str)\.cell:=by decide +kernel
theorem ye:(Zd Vf).names.lookup (("_law_shelf":String):Str)\.cell:=by decide +kernel
def SL{n:Nat}:∀ y∈[(("_law_shelf":String):Str),(("_law_handed":String):Str)],(Zd Vf).names.lookup y\.cell/\∃ c,(cl2 n).lookup y\c:=λy a=>by
 let e:y=(("_law_shelf":String):Str)\/y=(("_law_handed":String):Str):=#v[a]
 rcases e with e|e
 .rwa[e,#[ye,1]]
 .rwa[e,#[wm,1]]
def Bv{s:jr}{g j:aj}{H p:Hp}{a:Pl}{m:Md}(h:LS s g j H a m)(f:∀ c o,(∀ E,o≠.tbl E)->H c\o->p c\o):LS s g j p a m:=by
 let#[l,t,U,n]:=h.sh;let#[YO,L]:=h.lw;let#[q,y,w]:=h.hd;let#[v,G]:=h.gr;let r:YI H p:=λc M e=>f _ _ #[] e
 let#[#[I,x],A,B]:=id U.sh.sh;let R:Z7 g j p a.S a.d a.lk m.ts m.lv m.av m.ho a.as l t:=by
  show U.sh.frame r (λo e=>f _ _ (by let b:=e.symm|||x;cases b;intro _ z;cases z) e) (λo e=>f _ _ (by let b:=e.symm|||A;cases b;intro _ z;cases z) e) (λo e=>f _ _ (by let b:=e.symm|||B;cases b;intro _ z;cases z) e) λi k=>?_
  let#[J,D]:=(U.sh.tw i k).tw.self;let#[F,C,_]:=(U.sh.tw i k).things;show#[λo e=>f _ _ (by let b:=e.symm|||D;cases b;intro _ z;cases z) e,λo e=>f _ _ (by let b:=e.symm|||C;cases b;intro _ z;cases z) e,λo e=>f _ _ (by let b:=e.symm.trans (U.sh.tw i k).tw.above;cases b;intro _ z;cases z) e]
 show#[#[l,t,U.frame R,n],#[YO,L.frame r (f _ _ #[] L.dict) λi k o e=>?_],#[q,f _ _ #[] y,w],#[v,G.frame r (f _ _ #[] G.at_)],f _ _ #[] h.told,h.dd,h.tt,h.t2,h.t3,h.l64,h.l700]
 let#[K,F,_,_,u,_]:=L.tw i k;show f _ _ (by let b:=e.symm|||u;cases b;intro _ z;cases z) e
def RD{A:jr}{s q:aj}{H H':Hp}{a:Pl}{m:Md}(h:LS A s q H a m)(t:∀ c o,(∀ O,o≠.tbl O)->c≠a.S->c≠a.d->c≠a.lk->(∀ i:Nat,i∈m.lv->c≠a.x i/\c≠a.ab i)->H c\o->H' c\o):LO A H' a m:=by
 let#[M,Q,U,D]:=h.sh;let#[YO,L]:=h.lw;let#[v,J,I]:=h.hd;let#[F,G]:=h.gr;let R:=U.sh;let#[#[P,u],B,C]:=R.sh;let w:∀ i:Nat,i∈m.lv->∃ n p,H (a.x i)\.ins q n p:=λi f=>by
  let#[n,e]:=(R.tw i f).tw.self;show#[n,_,e]
 let r:∀ i:Nat,i∈m.lv->H (a.ab i)\.lst (iN (m.av i)):=λi f=>(R.tw i f).tw.above;let E:YI H H':=λb W e=>t b _ #[] (ZE e u) (ZE e B) (ZE e C) (λi f=>by
  let#[n,p,k]:=w i f;show#[ZE e k,ZE e (r i f)]) e
 let g:∀(c:aj)(l:jf),H c\.lst l->c≠a.lk->(∀ i:Nat,i∈m.lv->c≠a.ab i)->H' c\.lst l:=λc l e y N=>t c _ #[] (ZE e u) (ZE e B) y (λi f=>by
  let#[n,p,k]:=w i f;show#[ZE e k,N i f]) e
 let dict:∀(c:aj)(l:ba),H c\.dK l->c≠a.d->H' c\.dK l:=λc l e y=>t c _ #[] (ZE e u) y (ZE e C) (λi f=>by
  let#[n,p,k]:=w i f;show#[ZE e k,ZE e (r i f)]) e
 show#[#[YO,L.frame E (dict _ _ L.dict h.dd.1) λi f o e=>?_],#[v,dict _ _ J h.dd.2.1,I],#[F,G.frame E (g _ _ G.at_ h.tt.2.2.symm λi f=>(h.t2 i f).2.2)],g _ _ h.told h.tt.1 λi f=>(h.t2 i f).1];let#[T,p,_,_,k,_]:=L.tw i f;have:o=.lst p:=by have:=e.symm|||k;show zB.inj this
 subst this;show g _ _ e (h.t3 i f).2.1 λj K=>(h.t3 i f).2.2 j K
def E6{bs:jq}{a:Nat->Nat}:(bs.map (λb:Nat=>(b:Int))).find? (λn=>ng (((a n.toNat:Nat):Int)=0))=(bs.find? λb=>ng (a b=0)).map λb:Nat=>(b:Int):=by
 rw[List.find?_map]
 congr 1
 show congrArg (λq=>List.find? q bs) (funext λb=>?_);change ng (((a ((b:Nat):Int).toNat:Nat):Int)=0)=ng (a b=0);rw[decide_eq_decide];simp
def AD{bs:jq}{n:Nat}{a:Nat->Nat}(h:n∉bs):Xl n (X0 bs a)=X0 bs (Xl n a):=by
 funext i
 by_cases z:i=n
 .subst z;change (if i=i then 1 else X0 bs a i)=(if i∈bs then (if i=i then 1 else a i)-1 else (if i=i then 1 else a i))
  rw[aP rfl,aO h];simp
 .change (if i=n then 1 else (if i∈bs then a i-1 else a i))=(if i∈bs then (if i=n then 1 else a i)-1 else (if i=n then 1 else a i))
  rw[aO z,aO z]
def Yx.av{f:jr}{b c:aj}{H:Hp}{a:Pl}{m:Md}{p:aj}{r:jf}(o:Yx a m p)(h:LS f b c H a m)(e:H p\.lst r):Zr a m p:=by
 let#[q,v,R]:=h.shp;let#[YO,L]:=h.lw;let#[l,j,_]:=h.hd;let#[#[s,g],k,u]:=R.sh;exists ZE e g,ZE e k,o.lk.symm,ZE e L.dict,ZE e j,o.tl.symm;intro i d;let#[t,n]:=(R.tw i d).tw.self;show#[ZE e n,(o.tw i d).1.symm]
inductive YZ(g:jr)(jh ji T:aj)(j:jf)(H:Hp)(Q:VK)(_:XK):Prop
 |mk(p i:aj)(a:Pl)(m:Md)(_:j=[!p,!i])(_:ZJ H p)(_:H i\.tup (X7 a))(_:LS g jh ji H a m)(_:Yx a m p)(_:0<↑m.lv)(_:↑m.lv<=140)(_:↑m.ts<=600)(_:ZX H T qS)(_:∀(d:Hp)(e:Pl)(b:Md),(∀ c o,H c\o->Zr a m c->Zr e b c/\(c≠p->c≠T->d c\o))->(∀ c o,H c\o->WI a m.lv c->WI e b.lv c)->(∀ h,H a.lk\.lst h->d e.lk\.lst h)->LS g jh ji d e b->ZJ d p->Yx e b p->X7 e=X7 a->↑m.ts<=↑b.ts->↑b.ts<=↑m.ts+1->↑m.lv<=↑b.lv->↑b.lv<=↑m.lv+1->ZX d T qS->Q (.bl true) d)
abbrev EO:jv:=["_law_well_here","_law_state","_law_shelf","_law_twigs","_law_holds","_law_grid_here","_law_told","_law_numbers","_law_some","_law_due","_law_handed","_law_found","_law_number"]
theorem XL:ZA EO Tq (Zd Vf):=Z4
theorem qo{A:ax}{outer:jF}{s:ak}{Hs:Hp}{E:XK}{gt:jr}{CB:aj}{C:Nat->aj}{c T f3 f4:aj}(CC:wO kF c T)(t4:kF.BuiltinsAt mg T)(X:Yd mg)(L:Yh K mg jh ji)(X2:XC K CB C 2)(X3:XC K CB C 3)(X4:XC K CB C 4)(F3:XG K (C 3) f3 "number")(F4:XG K (C 4) f4 "number")(DM:-ZB (Z8 P w) 10 jh "put_stem" T2 (YK gt jh ji (C 2) (C 3) (C 4)))(DQ:-ZD 71 "_law_asked" Tu (XY P w K mg kF CB C))(DR:-ZD 4 "_law_run" Tl (Uj gt))(DP:-ZD 1 "_law_pull" TQ Yp)(DK:-ZD 2 "_law_picked" TR Yb)(DW:-ZD 8 "_law_wrong" To (WC gt))(DU:-ZD 1 "_law_unheld" Ts Xe)(r8:-ZD 7 "_law_alike" TY (YU 6))(hr:Za 71 (A.deeper (envOfC "_law_put_stem" (Zd Vf) ‹s› f !c))):
  ∃ t,Wc (Vn ZZ P w K mg kF EO "_law_put_stem" (Zd Vf) f (!c) A outer s Hs E) ((WE Vf).drop 3) t /\
   ∀(H H3:Hp)(Q:VK)(p st LN:aj)(a:Pl)(m:Md)(x8:jg)(ns:jz),ZJ H p->LS gt jh ji H a m->Yx a m p->0<↑m.lv->↑m.lv<=140->↑m.ts<=600->ZX H T qS->ZI p H H3->ZJ H3 p->H LN=Y'->H3 LN\.lst (ns.map V.int)->↑ns<=6 ->
    (∀(H':Hp)(a':Pl)(m':Md),(∀ c o,H c\o->Zr a m c->Zr a' m' c/\(c≠p->c≠T->H' c\o))->(∀ c o,H c\o->WI a m.lv c->WI a' m'.lv c)->(∀ ls,H a.lk\.lst ls->H' a'.lk\.lst ls)->LS gt jh ji H' a' m'->ZJ H' p->Yx a' m' p->X7 a'=X7 a->↑m.ts<=↑m'.ts->↑m'.ts<=↑m.ts+1->↑m.lv<=↑m'.lv->↑m'.lv<=↑m.lv+1->ZX H' T qS->Q (.bl true) H') ->
    t { nx:=λ_ H'=>Q .non H',rt:=Q } [Z' !p,Z' !st,Z' !a.S,Z' !a.dT,Z' !a.dH,Z' !a.gl,Z' !a.tl,Z' !LN,x8,Y',Y',Y',Y'] H3:=by
 let nd:=XL.nd;let hu:=VN hr;let t9:=hr.mono (yR Z:1<=71)
 let hr2:=hr.mono (yR Z:2<=71)
 let hr4:=hr.mono (yR Z:4<=71)
 let hr7:=hr.mono (yR Z:7<=71)
 let hr8:=hr.mono (yR Z:8<=71)
 let#[fA,fdA,FA,bA,kA,mA]:=DQ.ex;show#[_,ZO (Zs 9 nd (Zq DW hr8 (NY (pv 3) (Zg (pv 7) Mi))))
  (ZO (Zz (Qm (Pu (pv 9))) (ZU (Zs 9 nd (Zq DU t9 (Zg (pv 4) (pv 7))))) Z3)
  (ZO (NE (i:=10) nd Z (Or.inr Z) (VB PF Z X.list Uz (ZV (pv 7))))
  (ZO (Zs 11 nd (rj (cl:=cl2 ‹s›) (N:=SU) FA hr Z mA kA bA (ZV (Rr (P:=T) (cl:=cl2 ‹s›) Z CC t4 Z Z)) (λy c h=>Rh h) Sr SL λ_=>rfl))
  (ZO (Zz (YF (qx hr.units0) (pv 10) (pv 7) (Zx _)) UC Z3)
  (ZO (Zz (Qm (JB (pv 9))) (ZU (Zl (Zq r8 hr7 (Zg (pv 11) (pv 9))))) Z3)
  (ZO (Y0 (Nl yP sN sM Ks (pv 10)))
  (ZO (Zz (PW.pt (Wf (YF P4 (Zk K (pv 11) ZN) Y8 (Zx _)) (Wf (WY (Yy (Zv Wq Z X.isi Xh (Zg (Zk K (pv 11) ZN) (We (v:=.ty "int") Z X.int OS Z)))))
   (Wf (Yy (Zv Wq Z X.isi Xh (Zg (Zk K (pv 11) ZN) (We (v:=.ty "bool") Z X.bool Kn Z)))) (Us (YF PB (Zk K (pv 11) ZN) (Zv (Dh Z) Z X.max LE (ZV (pv 6))) (Zx _))))))) UC Z3)
  (ZO (Y0 (VL yP xQ xP V9 (pv 6) (ZV (Zk K (pv 11) ZN))))
  (ZO (Vj MJ Z (Wa (pv 7)) (Yf 12 nd) (ZU (QK hu (pv 4) (pv 12) (Z5 PL (WT hu (pv 4) (pv 12)) ZN) Z)))
  (ZO (QK hu (pv 3) (Zk K (pv 11) ZN) (XH (Zg Y8 (pv 7))) Z)
  (ZO (QK hu (pv 4) (Zk K (pv 11) ZN) ZN Z)
  (ZU (Zl Uc))))))))))))),λH H3 Q p st LN a m x8' ns W M O l0 l60 l600 tab x3 W3 m4 I lns k=>?_]
 let#[xsP,l4]:=W.some;let#[kvs,ls,U,l100]:=M.sh;let#[gs,G]:=M.gr;let l64:=M.l64;let lt0:0<↑m.ts:=by
  let#[i,B]:=sI l0;have:=M.lt B
  lia
 let eI:((zP ↑m.ts).map λi:Nat=>(i:Int)).map V.int=iN (zP ↑m.ts):=by rw[zH];rfl
 let S3:=M.sx O l4 x3;let#[kvs3,ls3,U3,l3]:=S3.sh;let#[r6,o1]:=S3.lw;let#[n7,t5,s8]:=S3.hd;let i2:ZX H3 T qS:=ZX.ext tab #[λb φ e=>x3 _ _ e (ZE e l4),λb φ e=>x3 _ _ e (ZE e l4)];let OL:=M.off m4;let i1:∀ b,b∈m.lv->↑(m.av b)<=800:=λb hb=>by
  rw[(U.av b hb).length_eq];have:=Dn m.ts m.lv b
  lia
 let#[xs3,m2]:=W3.some;let c6:∀(H4 H6:Hp),ZC H3 H4->(∀ b o,b≠T->H4 b\o->H6 b\o)->ZX H4 T qS->ZX H6 T qS->∀ H7,ZC H6 H7->Q (.bl true) H7:=λH4 H6 s4 q r5 a1 H7 s7=>by
  let#[ps4,o4,_]:=id r5;show k H7 a m (λc o e v=>#[v,λn1 n2=>s7 _ _ (q _ _ n2 (s4 _ _ (x3 _ _ e n1)))]) (λ_ _ _ v=>v) (λxs e=>s7 _ _ (q _ _ (ZE (s4 _ _ (x3 _ _ e O.lk)) o4) (s4 _ _ (x3 _ _ e O.lk)))) (Bv (S3.same s4) λc o z e=>s7 _ _ (q _ _ (ZE e o4 (z _)) e)) (QZ W3 λo e=>s7 _ _ (q _ _ (ZE (s4 _ _ m2) o4) (s4 _ _ e))) O Z (zY _) () (zY _) () (ZX.ext a1 (Ye.same s7))
 let o7:∀ bs c4:jq,ns=bs.map (λb:Nat=>(b:Int))->ns=c4.map (λb:Nat=>(b:Int))->bs=c4:=λbs c4 e1 e2=>by
  let e3:=e1.symm|||e2;have:=congrArg (List.map wA) e3;simpa [zH,Function.comp_def] using this
 let i6:∀(bs:jq)(x:Int),ns=bs.map (λb:Nat=>(b:Int))->(∀ b∈bs,b∈m.lv)->ns.find? (λx=>!nF m.lv x)\x->False:=λbs x e1 hb hx=>by
  let h1:=qM hx;let h2:=qX hx;rw[e1] at h1;let#[b,c9,rfl]:=zL.mp h1;have:=hb b c9;unfold nF at h2;simp at h2;show h2 this
 show#[2,a.dT,LN,ns,m.ts,m.lv,m.lv,r6,Z,(o1.lawT M.wf G.len G.up).g,o1.keys,(λi B=>by let#[tp,us,e,_]:=o1.tw i B;show#[_,e]),λi B _=>B,I,(),λx hx t H4 s4 ht=>?_,λbs eb hb i4 t H4 s4 ht=>?_,λbs eb hb i4 H4 s4=>?_]
 .show#[2,Zp ?_];exists 1,LN,1,.inl (ZH.of (s4 _ _ I));intro hd J;let#[H5,eU,g5,R]:=Xg J (.lst (ns.map V.int));rw[eU];let j:=s4|||g5;let r:=ZX.ext i2 (Ye.same j);show Lh (CB:=CB) (C:=C) (f3:=f3) (f4:=f4) (j0:=10) (j1:=2) (hd:=hd) (ns:=ns) L X2 X3 X4 F3 F4 DM r Z Z Z Z R (U3.sh.same j) M.wf () i1 () (λx' i0 H6 tf q a1 e4=>?_) λbs eb hb=>#[λa0=>(i6 bs x eb hb hx).elim,λa0=>(i6 bs x eb hb hx).elim,λa0=>(i6 bs x eb hb hx).elim]
  cases hx.symm.trans i0;let#[p0,Y,_]:=id r;let l:=q _ _ (ZE R Y) R;let a5:=j _ _ I;let c5:=q _ _ (ZE a5 Y) a5;let e0:=g5 _ _ ht;let l5:=q _ _ (ZE e0 Y) e0;show#[2,hd,LN,ns,Z,Z,ZH.of l,ZH.of c5,1,Zp ?_];show#[2,YA ?_];show#[2,!tf,!t,.tup [.str "twig",-x],(5),Z,.tup e4 (.cons (.str _) (.cons (.int _) .nil)),.tup l5 (.cons (.str _) (.cons (.int _) .nil)),Z,by decide,λH7 s7=>c6 H5 H6 j q r a1 H7 s7]
 .show#[2,Zp ?_];exists 1,LN,1,.inl (ZH.of (s4 _ _ I));intro hd J;let#[H5,eU,g5,R]:=Xg J (.lst (ns.map V.int));rw[eU];let j:=s4|||g5;let r:=ZX.ext i2 (Ye.same j);show Lh (CB:=CB) (C:=C) (f3:=f3) (f4:=f4) (j0:=10) (j1:=2) (hd:=hd) (ns:=ns) L X2 X3 X4 F3 F4 DM r Z Z Z Z R (U3.sh.same j) M.wf () i1 () (λx' i0=>(i6 bs x' eb hb i0).elim) λc4 i9 c9=>?_
  cases o7 bs c4 eb i9;show#[λa0 H6 tf q a1 e4=>?_,λa0=>mZ i4 a0,λa0=>mZ i4 a0];let#[p0,Y,_]:=id r;let l:=q _ _ (ZE R Y) R;let a5:=j _ _ I;let c5:=q _ _ (ZE a5 Y) a5;let e0:=g5 _ _ ht;let l5:=q _ _ (ZE e0 Y) e0;show#[2,hd,LN,ns,Z,Z,ZH.of l,ZH.of c5,1,Zp ?_];show#[2,YA ?_];show#[2,!tf,!t,.tup [.str "stem"],(5),Z,.tup e4 (.cons (.str _) .nil),.tup l5 (.cons (.str _) .nil),Z,by decide,λH7 s7=>c6 H5 H6 j q r a1 H7 s7]
 .show#[2,YA ?_];let hv:∀ n∈ns,Z2 n7 (.inl n)\.int ((m.ho n.toNat:Nat):Int):=λn hn=>by
   rw[eb] at hn;let#[b,c9,rfl]:=zL.mp hn;simpa using s8.2 b (hb b c9)
  show#[2,a.dH,LN,n7,ns,(λn=>((m.ho n.toNat:Nat):Int)),Z,s4 _ _ t5,s4 _ _ I,hv,λn hn t s0 p1 ht=>?_,λhn s0 p1=>?_]
  .let c7:=s4|||p1;exists 1,LN,1,.inl (ZH.of (c7 _ _ I));intro hd J;let#[H5,eU,g5,R]:=Xg J (.lst (ns.map V.int));rw[eU];let j:=c7|||g5;let r:=ZX.ext i2 (Ye.same j);let l2:=hn;rw[eb,E6] at l2;let#[b0,p9,rfl]:=yB.mp l2;show Lh (CB:=CB) (C:=C) (f3:=f3) (f4:=f4) (j0:=10) (j1:=2) (hd:=hd) (ns:=ns) L X2 X3 X4 F3 F4 DM r Z Z Z Z R (U3.sh.same j) M.wf () i1 () (λx' i0=>(i6 bs x' eb hb i0).elim) λc4 i9 c9=>?_
   cases o7 bs c4 eb i9;show#[λa0=>mZ a0 i4,λa0 b m1 H6 tf q a1 e4=>?_,λa0 hf=>by erw[p9] at hf]
   cases p9.symm.trans m1;let#[p0,Y,_]:=id r;let l:=q _ _ (ZE R Y) R;let a5:=j _ _ I;let c5:=q _ _ (ZE a5 Y) a5;let e0:=g5 _ _ ht;let l5:=q _ _ (ZE e0 Y) e0;show#[2,hd,LN,ns,Z,Z,ZH.of l,ZH.of c5,1,Zp ?_];show#[2,YA ?_];show#[2,!tf,!t,.tup [.str "held",.int (b0:Nat)],(5),Z,.tup e4 (.cons (.str _) (.cons (.int _) .nil)),.tup l5 (.cons (.str _) (.cons (.int _) .nil)),Z,by decide,λH7 s7=>c6 H5 H6 j q r a1 H7 s7]
  .let c7:=s4|||p1;exists 1,LN,1,.inl (ZH.of (c7 _ _ I));intro hd J;let#[H5,eU,g5,R]:=Xg J (.lst (ns.map V.int));rw[eU];let j:=c7|||g5;let r:=ZX.ext i2 (Ye.same j);let l2:=hn;rw[eb,E6] at l2;let r0:bs.find? (λb=>ng (m.ho b=0))=Y':=Option.map_eq_none_iff.mp l2;show Lh (CB:=CB) (C:=C) (f3:=f3) (f4:=f4) (j0:=10) (j1:=2) (hd:=hd) (ns:=ns) L X2 X3 X4 F3 F4 DM r Z Z Z Z R (U3.sh.same j) M.wf () i1 () (λx' i0=>(i6 bs x' eb hb i0).elim) λc4 i9 c9=>?_
   cases o7 bs c4 eb i9;exists λa0=>mZ a0 i4,λa0 b m1=>by(erw[r0] at m1)
   intro a0 hf' H6 tf e6 nx l7 i5 q a1 R6 e4;let#[p0,Y,_]:=id r;let#[Lb,p8]:=qG.mp i4;let#[_,t8,_,_,_,_,_]:=MY M.wf (λb h=>M.lt (hb b h)) p8;let h1:∀ b∈bs,1<=m.ho b:=λb c9=>by
    have:=vN.mp r0 b c9;simp at this
    lia
   let S5:=S3.same j;let S4:=S3.same c7;let c3:=RD S5 (H':=H6) λc o z n1 n2 n3 n4 e=>q c o n1 n2 (ZE e Y (z _)) n4 e;let#[kv4,ls4,R4]:=S4.shp;let#[kv5,ls5,R5]:=S5.shp;let#[#[dS5,t0],t6,hl5]:=id R5.sh;let n9:∀(c:aj)(xs:jf),H5 c\.lst xs->(∀ i:Nat,i∈m.lv->c≠a.ab i)->H6 c\.lst xs:=λc xs e n4=>q _ _ (ZE e t0) (ZE e t6) (ZE e Y) (λi B=>by
    let#[dx,hx]:=(R5.tw i B).tw.self;show#[ZE e hx,n4 i B]) e
   let n0:∀ i:Nat,i∈m.lv->a.ab i≠hd/\a.th i≠hd:=λi B=>by
    let#[us,e,_]:=(R4.tw i B).things;show#[ZW (R4.tw i B).tw.above J,ZW e J]
   let l:=n9 _ _ R λi B=>(n0 i B).1.symm;let a5:=j _ _ I;let c5:=n9 _ _ a5 λi B=>(OL.tw i B).1.symm;let m5:LN≠hd:=ZW (c7 _ _ I) J;let r7:a.tl≠hd:=ZW S4.told J;show#[2,hd,LN,ns,Z,Z,ZH.of l,ZH.of c5,1,Zp ?_];show#[2,Zp ?_];exists 1,.inl #[Z,_,ZH.of l],hd,1,Z,l;let en:↑(m.ts++[YQ m.ts bs])=↑m.ts+1:=by simp
   let r4:∀ c,a.lk≠c->(∀ i:Nat,i∈m.lv->a.ab i≠c/\a.th i≠c)->e6.ab≠c->e6.th≠c->∀ i:Nat,i∈m.lv++[↑m.ts]->((a.as++[e6]).getD i .d).ab≠c/\((a.as++[e6]).getD i .d).th≠c:=λc _ n2 n3 n4 i B=>by
    by_cases z:i=↑m.ts
    .subst z;let#[e1,e2,_,_]:=OR (new:=e6) (D:=LN) M;show#[λy=>n3 (by rwa[<-e1,y]),λy=>n4 (by rwa[<-e2,y])]
    .let#[e1,e2,_,_]:=OH (new:=e6) (D:=LN) M (i:=i) (Vw B z);have:=n2 i (Vw B z);show#[λy=>this.1 (by rwa[<-e1,y]),λy=>this.2 (by rwa[<-e2,y])]
   let R7:=GH (o':=.lst []) R6 l (ZW R4.sh.looks J) (r4 hd (ZW R4.sh.looks J) n0 (ZW R i5).symm (ZW R l7).symm);let m3:∀ c o,c≠hd->H6 c\o->upd H6 hd (.lst []) c\o:=λc o n e=>#v[ZM n,e]
   generalize upd H6 hd (.lst [])=H7 at R7 m3⊢;let a6:=m3 _ _ (ZE e4 l) e4;let a7:=m3 _ _ r7 c3.told;show#[1,.inr (.inl #[tf,_,(0),.str "told",Z,Z,Zc.of a6,Z,Z,_,Z,Mw Z ?_])];show#[1,.inr (.inl #[tf,_,(1),.int (↑m.ts:Nat),Z,Z,Zc.of a6,Z,_,_,_,_,Z,.int _,N4,_,Z,Zp ?_])];show#[1,.inr (.inl #[tf,_,(1),.int (↑m.ts:Nat),Z,Z,Zc.of a6,Z,_,_,_,_,Z,.int _,Li,_,Z,Zp ?_])];show#[1,.inr (.inl #[tf,_,(1),.int (↑m.ts:Nat),Z,Z,Zc.of a6,Z,_,Z,a.tl,(zP ↑m.ts).map (λi:Nat=>(i:Int)),Z,ZH.of #v[eI,a7],qL #v[zX,uE,lt0],λmx t7 hmax=>#[_,_,Z,Z,_,Z,?_]])]
   let mxn:¬ ((↑m.ts:Int)<=mx):=by
    let#[i,B,rfl]:=zL.mp t7;have:=xL.mp B;change ¬ ((↑m.ts:Int)<=((i:Nat):Int))
    lia
   rw[aK mxn];show Zp ?_;show#[1,.inl #[Z,_,ZH.of a7],1,.inr (.inl #[tf,_,(1),.int (↑m.ts:Nat),Z,Z,Zc.of a6,Z,a.tl,_,.int (↑m.ts:Nat),Z,Z,a7,YM (by simp[iN];lia),?_])]
   let R8:=GH (o':=.lst (iN (zP ↑m.ts)++[.int (↑m.ts:Nat)])) R7 a7 M.tt.1.symm (r4 a.tl M.tt.1.symm (λi B=>#[(M.t2 i B).1.symm,(M.t2 i B).2.1.symm]) (ZW S5.told i5).symm (ZW S5.told l7).symm);let o9:∀ c o,c≠a.tl->H7 c\o->upd H7 a.tl (.lst (iN (zP ↑m.ts)++[.int (↑m.ts:Nat)])) c\o:=λc o n e=>#v[ZM n,e]
   let p3:upd H7 a.tl (.lst (iN (zP ↑m.ts)++[.int (↑m.ts:Nat)])) a.tl\.lst (iN (zP (↑m.ts+1))):=by rw[ZP,Ga]
   generalize upd H7 a.tl (.lst (iN (zP ↑m.ts)++[.int (↑m.ts:Nat)]))=H8 at R8 o9 p3⊢;let o8:∀ c o,c≠hd->c≠a.tl->H6 c\o->H8 c\o:=λc o n1 n2 e=>o9 _ _ n2 (m3 _ _ n1 e);let#[r3,e8,s9]:=c3.hd;let#[c2,a8]:=c3.lw;let#[s6,G6]:=c3.gr;let a9:=o8 _ _ (ZE e8 l) (ZE e8 c3.told) e8;let m6:LN≠a.tl:=OL.tl.symm;let o3:=o8 _ _ m5 m6 c5;let n6:=o9 _ _ (ZE a6 a7) a6;show#[1,LN,Z,#[_,ZH.of o3],PM (K:=K) (a:=LN) (xs:=ns.map V.int) (λi σ H'=>∃(x8 p4:jg)(a3:ba),σ=[Z' !p,Z' !st,Z' !a.S,Z' !a.dT,Z' !a.dH,Z' !a.gl,Z' !a.tl,Z' !LN,x8,Z' .non,Z' !hd,Z' !tf,p4]/\(∀ c o,c≠a.dH->H8 c\o->H' c\o)/\H' a.dH\.dK a3/\Vs a3 m.lv (X0 (bs.take i) m.ho))
    #[_,_,r3,Z,λc o _ e=>e,a9,(by
     let e2:X0 [] m.ho=m.ho:=funext λi=>aO ⋯
     rwa[show bs.take 0=[] from Z,e2,s9])] (λi σ H' _ hP=>?_) ?_ ?_]
   .let#[_,_,_,_,k',_]:=hP;show ZH.of (k' _ _ (ZE o3 a9) o3)
   .rintro i u σ H9 r2 ⟨x8,p4,a3,rfl,a2,m0,e7⟩;rw[eb,zH,zO] at r2;let#[b,o5,rfl]:=yB.mp r2;let mb:=yY o5;let bl:=hb b mb;let r1:b∉bs.take i:=λz=>by
     let hs:bs=bs.take i++b::bs.drop (i+1):=by
      let#[B,e]:=yO.mp o5;rw[<-e,<-wZ B,wQ]
     let n5:=t8;rw[hs,uO] at n5;show n5.2.2 b z b ⋯ Z
    let p7:X0 (bs.take i) m.ho b=m.ho b:=aO r1;let hg:Zh H9 a.dH (.int (b:Nat)) (Z' (.int (m.ho b:Nat))):=by
     have:=e7.2 b bl;rw[p7] at this;show this▸Zh.k (k:=mY (b:Int)) m0
    let lhv:↑a3=↑m.lv:=by have:=congrArg xY e7.1;simpa using this
    exists 2,a.dH,.int (m.ho b:Nat),Z,hg,_,1,Z,2,a.dH,1,Y3.k (k:=mY (b:Int)) m0 (YM ())
    let e1:((m.ho b:Nat):Int)-1=((X0 (bs.take i) m.ho b-1:Nat):Int):=by
     rw[p7];have:=h1 b mb
     lia
    exists _,_,1,λc o n e=>#v[ZM n,a2 _ _ n e],ZP
    let et:bs.take (i+1)=bs.take i++[b]:=by rw[yI,o5];rfl
    rw[et,<-Fi r1];change Vs (Zo a3 (.inl (b:Int)) (.int (((m.ho b:Nat):Int)-1))) _ _;rwa[e1,Eo e7 bl]
   .rintro σ H9 ⟨x8,p4,a3,rfl,a2,m0,e7⟩;rw[show ↑(ns.map V.int)=↑bs by rw[eb];simp,yQ (zY _)] at e7
    let R9:=R8.frame (H':=H9) (λc ys e=>a2 _ _ (ZE e a9) e) (λo e=>a2 _ _ (by let#[#[dS8,t1],_,_]:=R8.sh;show ZE t1 a9) e) (λo e=>a2 _ _ M.dd.2.1.symm e) (λo e=>a2 _ _ (ZE R8.sh.looks a9) e) λi B=>by
     let#[dx,hx]:=(R8.tw i B).tw.self;let#[us,ht,_]:=(R8.tw i B).things;show#[λo e=>a2 _ _ (ZE hx a9) e,λo e=>a2 _ _ (ZE ht a9) e,λo e=>a2 _ _ (ZE (R8.tw i B).tw.above a9) e]
    exists 1,YJ;intro t nt;let#[i7,eU,l1,p2]:=Xg nt (.tup [.str "stem",!LN]);rw[eU];let s1:=R9.same l1;let n8:∀ c o,c≠hd->c≠a.tl->c≠a.dH->H6 c\o->i7 c\o:=λc o n1 n2 n3 e=>l1 _ _ (a2 _ _ n3 (o8 _ _ n1 n2 e));let c8:=n8 _ _ (ZE a8.dict l) (ZE a8.dict c3.told) M.dd.2.2 a8.dict;let e9:=l1 _ _ (a2 _ _ (ZE n6 a9) n6);let i8:=l1 _ _ m0;let l8:=l1 _ _ (a2 _ _ (ZE p3 a9) p3);let ltk:↑c2=↑m.lv:=by have:=congrArg xY a8.keys;simpa using this
    let lhv:↑a3=↑m.lv:=by have:=congrArg xY e7.1;simpa using this
    show#[2,.inr (.inl #[tf,_,(1),.int (↑m.ts:Nat),Z,Z,Zc.of e9,Z,a.dT,_,Z,Y3.k (k:=mY (↑m.ts:Int)) c8 (YM ()),?_])]
    let p6:=Nb (o':=.dK (Zo c2 (.inl (↑m.ts:Int)) !t)) s1 c8 M.dd.1.symm;let c1:∀ c o,c≠a.dT->i7 c\o->upd i7 a.dT (.dK (Zo c2 (.inl (↑m.ts:Int)) !t)) c\o:=λc o n e=>#v[ZM n,e]
    let m9:upd i7 a.dT (.dK (Zo c2 (.inl (↑m.ts:Int)) !t)) a.dT\.dK (Zo c2 (.inl (↑m.ts:Int)) !t):=ZP;generalize upd i7 a.dT (.dK (Zo c2 (.inl (↑m.ts:Int)) !t))=l9 at p6 c1 m9⊢;let m7:=c1 _ _ M.dd.2.2.symm i8;let o6:=c1 _ _ (ZE e9 c8) e9;show#[2,.inr (.inl #[tf,_,(1),.int (↑m.ts:Nat),Z,Z,Zc.of o6,Z,a.dH,_,Z,Y3.k (k:=mY (↑m.ts:Int)) m7 (YM ()),?_])]
    let o2:=Nb (o':=.dK (Zo a3 (.inl (↑m.ts:Int)) (.int 1))) p6 m7 M.dd.2.1.symm;let e5:∀ c o,c≠a.dH->l9 c\o->upd l9 a.dH (.dK (Zo a3 (.inl (↑m.ts:Int)) (.int 1))) c\o:=λc o n e=>#v[ZM n,e]
    let m8:upd l9 a.dH (.dK (Zo a3 (.inl (↑m.ts:Int)) (.int 1))) a.dH\.dK (Zo a3 (.inl (↑m.ts:Int)) (.int 1)):=ZP;generalize upd l9 a.dH (.dK (Zo a3 (.inl (↑m.ts:Int)) (.int 1)))=i3 at o2 e5 m8⊢;let c0:∀ c o,c≠hd->c≠a.tl->c≠a.dH->c≠a.dT->H6 c\o->i3 c\o:=λc o n1 n2 n3 n4 e=>e5 _ _ n3 (c1 _ _ n4 (n8 _ _ n1 n2 n3 e));let o0:YI H6 i3:=λc ys e=>c0 _ _ (ZE e l) (ZE e c3.told) (ZE e e8) (ZE e a8.dict) e;let l6:∀ c xs,c≠hd->c≠a.tl->H6 c\.lst xs->i3 c\.lst xs:=λc xs n1 n2 e=>c0 _ _ n1 n2 (ZE e e8) (ZE e a8.dict) e;let a4:∀ c,H5 c=Y'->H c=Y':=λc e=>by
     cases z:H c with
     |none=>rfl
     |some o=>
      by_cases y:c=p
      .subst y;let#[xs,e']:=W3.some;erw[j _ _ e'] at e
      .erw[j _ _ (x3 _ _ z y)] at e
    let ek:ny (YQ m.ts bs)="stem" :=aO (by change (nz m.ts (bs.getD 0 0)).h+1≠0;lia)
    let r9:LN≠e6.ab:=ZW a5 i5;let s5:ns.map V.int=iN bs:=by rw[eb,zH];rfl
    let nn':↑m.ts∉bs:=λz=>by have:=M.lt (hb _ z);lia
    let s3:∀ i:Nat,i∈m.lv->a.b i≠hd:=λi B=>by
     let#[kvA,LA]:=S4.lw;let#[tp,us,_,_,e,_]:=LA.tw i B;show ZW e J
    let p5:LS gt jh ji i3 (a.push e6 LN) #[m.ts++[YQ m.ts bs],m.lv++[↑m.ts],Wx bs ↑m.ts (WR ↑m.ts m.av),X0 bs (Xl ↑m.ts m.ho)]:=by
     show Dd M (a4 _ l7) (a4 _ i5) m4 r9 #[_,ls3,ud U3 () hb p8 h1 o2,l3] #[_,FH (tp:=t) (us:=ns.map V.int) a8 hb o0 (λi B o e=>?_) ?_ ?_ ?_ (λz=>mZ z (by change (nz m.ts (bs.getD 0 0)).h+1≠0;lia)) (λ_=>s5)] #[_,m8,by rwa[<-AD nn',Fh (λi B=>M.lt B) e7]] #[s6,G6.frame o0 (l6 _ _ ?_ M.tt.2.1.symm G6.at_)] ?_ () ()
     .let#[tp,us',_,_,e',_]:=a8.tw i B;have:o=.lst us':=by have:=e.symm|||e';show zB.inj this
      subst this;show l6 _ _ (s3 i B) (M.t3 i B).1 e
     .show e5 _ _ M.dd.2.2 m9
     .rwa[ek,e5 _ _ (ZE p2 i8) (c1 _ _ (ZE p2 c8) p2)]
     .show l6 _ _ m5 m6 c5
     .let#[gsA,GA]:=S4.gr;show ZW GA.at_ J
     .show e5 _ _ (ZE l8 i8) (c1 _ _ (ZE l8 c8) l8)
    let vp:=O.av M l4;let s2:ZJ i3 p:=QZ W3 λo e=>c0 _ _ (ZW (c7 _ _ e) J) vp.2.2.2.2.2.1 vp.2.2.2.2.1 vp.2.2.2.1 (q _ _ vp.1 vp.2.1 (ZE (j _ _ m2) Y) vp.2.2.2.2.2.2 (j _ _ e));show k i3 _ _ (λc o e v=>?_) (λc o e v=>v.push M (ZW e (a4 _ l7)) (ZW e m4)) (λxs e=>by
     let e2:=(x3 _ _ e O.lk).symm|||U3.sh.sh.looks;cases e2;show o2.sh.looks) p5 s2 (O.push M (ZW (j _ _ m2) l7).symm (ZW (j _ _ m2) i5).symm (ZW l4 m4).symm) Z ⋯ ⋯ ⋯ ⋯ (ZX.ext a1 #[λb φ e=>?_,λb φ e=>?_])
    .let#[v1,v2,v3,v4,v5,v6,v7]:=id v;exists v.push M (ZW e (a4 _ nx)) (ZW e (a4 _ i5));intro cp cT;let e3:=x3 _ _ e cp;show c0 _ _ (ZW (c7 _ _ e3) J) v6 v5 v4 (q _ _ v1 v2 cT v7 (j _ _ e3))
    .show c0 _ _ (ZE e l) (ZE e c3.told) (ZE e e8) (ZE e a8.dict) e
    .show c0 _ _ (ZE e l) (ZE e c3.told) (ZE e e8) (ZE e a8.dict) e
theorem Cn{gt:jr}{CB:aj}{C:Nat->aj}{c T f3 f4:aj}(F:Zj K "_law_put_stem" "_law_put_stem" Vf f fd)(hf:zK K ap "_law_put_stem"=Z' (Z' !f))(a8:xG K "_law_put_stem"=Z' (c,T))(CC:wO kF c T)(c6:kF.BuiltinsAt mg T)(X:Yd mg)(L:Yh K mg jh ji)(X2:XC K CB C 2)(X3:XC K CB C 3)(X4:XC K CB C 4)(F3:XG K (C 3) f3 "number")(F4:XG K (C 4) f4 "number")(DM:-ZB (Z8 P w) 10 jh "put_stem" T2 (YK gt jh ji (C 2) (C 3) (C 4)))(DQ:-ZD 71 "_law_asked" Tu (XY P w K mg kF CB C))(DR:-ZD 4 "_law_run" Tl (Uj gt))(DP:-ZD 1 "_law_pull" TQ Yp)(DK:-ZD 2 "_law_picked" TR Yb)(DW:-ZD 8 "_law_wrong" To (WC gt))(DU:-ZD 1 "_law_unheld" Ts Xe)(c2:-ZD 7 "_law_alike" TY (YU 6)):
  ZL P w K mg kF ZZ 72 f fd Tq (YZ gt jh ji T):=by
 show F.okC hf a8 XL (λvs H Q E h=>(by let#[_,_,_,_,rfl,_]:=h;rfl)) (λA a1 s H vs Q E J h=>?_)
 let#[p,st,a,m,rfl,W,e1,t,O,l0,e3,a9,e7,k]:=h;let#[tT,hT,qT]:=qo (Hs:=H) (outer:=a1) (E:=E) CC c6 X L X2 X3 X4 F3 F4 DM DQ DR DP DK DW DU c2 J;let B:=XL.nd;let hu:=VN J;let M:=J.mono (yR Z:1<=71)
 let c9:=J.mono (yR Z:2<=71)
 let e0:=J.mono (yR Z:4<=71)
 let i6:=J.mono (yR Z:7<=71)
 let i7:=J.mono (yR Z:8<=71)
 let#[fA,i3,FA,bA,kA,mA]:=DQ.ex;show#[_,ZO (Ps (pv 1) (OM Z (XX (Ob (i:=2) B Z (Or.inr Z)) (XX (Yf 3 B) (XX (Yf 4 B) (XX (Yf 5 B) (XX (Yf 6 B) OC)))))))
  (ZO (Zs 7 B (Zq DR e0 (NY (pv 0) (NY (pv 3) (Zg (pv 4) (pv 5))))))
  (ZO (Zz (YF Xi (Zq DP M (Zg (pv 0) ZN)) ZN (Zx _))
   (ZO (NE (i:=8) B Z (Or.inr Z) (Z5 Nd (Zv (P8 Z) Z X.sorted Pd (ZV (pv 3))) (XT (ZV (Z5 Wp (Z5 Wp (Zv (Dh Z) Z X.max LE (ZV (pv 6))) ZN) (Zq DP M (Zg (pv 0) ZN)))))))
   (ZU (NQ (i:=7) [0,8] TR B Z Z Z (NR Z X.range (ZV (Zq DP M (Zg (pv 0) ZN)))) (λ_ _ _ _ _=>Ur) (λ_ _ _ _ _=>Zq DK c9 (Zg (pv 1) (pv 2))) #[Z,.inl Z,Z,Z,.inl Z,Z,trivial]))) Z3) hT)),?_]
 let#[l4,a5]:=W.some;let#[i8,ls,U,i0]:=t.sh;let#[c1,Lw]:=t.lw;let#[e2,c7,hH]:=t.hd;let#[gs,G]:=t.gr;let bp:∀ i:Nat,i∈m.lv->a.bs.getD i 0≠p:=λi I=>(O.tw i I).2.2;let e4:=t.l64;let d:∀ c,H c=Y'->c≠p:=λc e=>(ZW a5 e).symm;let eI:((zP ↑m.ts).map λi:Nat=>(i:Int)).map V.int=iN (zP ↑m.ts):=by rw[zH];rfl
 let eL:(m.lv.map λi:Nat=>(i:Int)).map V.int=iN m.lv:=by rw[zH];rfl
 let e5:0<↑m.ts:=by
  let#[i,I]:=sI l0;have:=t.lt I
  lia
 let g:∀(H6:Hp)(q:aj),ZI p H H6->ZJ H6 p->H6 q=Y'->H q=Y':=λH6 q x6 W6 e=>by
  cases z:H q with
  |none=>rfl
  |some o=>
   by_cases y:q=p
   .subst y;let#[xs,e']:=W6.some;erw[e'] at e
   .erw[x6 _ _ z y] at e
 exists 1,st,1,Zc.of e1,Z,_,1,_,1,_,1,_,1,_,1,Z;exists 4,p,a.dT,a.dH,a.gl,m.ts,m.lv,a.bs,c1,e2,m.ho,gs,Z,W,Lw,bp,t.wf,c7,hH,G,O.gl,l0,e4;intro H1 LN a3 s1 W1 Y c5 e8 i1;show#[1,p,(5),Z,W1,UW (by decide) (by decide),λr v r0 r1 W3 s2=>#[Z,1,?_]]
 let x3:ZI p H v:=s1|||s2;show XJ (λc=>?gT) (λc=>?gF)
 case' gF=>
  obtain⟨l,a4⟩:∃ l:jz,iN a3=l.map V.int:=#[a3.map λb:Nat=>(b:Int),by rw[zH];rfl]
  let N:↑l<=6:=by
   have:=congrArg xY a4;simp[iN] at this
   lia
  let j:=s2 _ _ c5 (d _ Y);rw[a4] at j
 case' gT=>
  exists 1,a.dT,c1,m.lv.map λi:Nat=>(i:Int),Z,(Lw.sx W bp x3).dict,(by rw[Lw.keys,zH];rfl),P0 Lw.vl.up,by simp;lia
  intro q nq;rw[eL];let g4:=Zf nq (.lst (iN m.lv));let hq:upd v q (.lst (iN m.lv)) q\.lst (iN m.lv):=ZP;let e6:=g _ q x3 W3 nq;generalize upd v q (.lst (iN m.lv))=H4 at g4 hq⊢;let x4:=x3|||ZI.of g4;let W4:=W3.same g4;let a2:=(t.sx O a5 x4).told;show#[1,a.tl,(zP ↑m.ts).map (λi:Nat=>(i:Int)),Z,ZH.of #v[eI,a2],qL #v[zX,uE,e5],λS i5 e9=>#[_,1,Z,?_]]
  show#[1,p,(3),Z,W4,UW (by decide) (by decide),λr3 H5 i9 l1 W5 s5=>#[_,1,Z,YJ,λl9 n9=>?_]]
  let c8:=s5 _ _ hq (d _ e6);let x5:=x4|||s5;let g6:=Zf n9 (.lst [.int (S+1+r3)]);exists q,l9,_,1,Z,g6 _ _ c8,ZP,yJ (YM (by simp[iN];lia))
  intro q2 n2;let g7:=Zf n2 (.lst (iN m.lv++[.int (S+1+r3)]));let a6:upd (upd H5 l9 (.lst [.int (S+1+r3)])) q2 (.lst (iN m.lv++[.int (S+1+r3)])) q2\.lst (iN m.lv++[.int (S+1+r3)]):=ZP;let x7:=x5|||ZI.of (g6.trans g7);let W7:=W5.same (g6|||g7);let a0:=g _ q2 (x5|||ZI.of g6) (W5.same g6) n2;generalize upd (upd H5 l9 (.lst [.int (S+1+r3)])) q2 (.lst (iN m.lv++[.int (S+1+r3)]))=H7 at a6 x7 W7⊢;exists 1,p,(6),Z,W7,UW (by decide) (by decide)
  intro r6 H8 l2 l3 W8 s8;let x8:=x7|||s8;let a7:=s8 _ _ a6 (d _ a0);let u:∀ c,H8 c=Y'->c≠p:=λc e z=>by
   let#[xs,e']:=W8.some;erw[z,e'] at e
  show#[r6,Z,(),(),Uu (n:=r6.toNat) (λi z=>z=.int (0+(i:Int))) (λD i ys H'=>ZI p H8 H'/\ZJ H' p/\H8 D=Y'/\∃ l:jz,ys=l.map V.int/\↑l<=i) (YM ())
   (λD i ys v I _=>I) (λD i ys v x H4 I _ hy=>hy) (λD ys v _=>zY _) (λD hD=>#[ZI.of (Zf hD _),W8.same (Zf hD _),hD,[],Z,zY _]) (λD i ys H' z eD i4 I hz hP R hR=>?gStep) (λLN ys v eD hP=>?gEnd)]
  case' gStep=>
   let#[s',W',nD,l,rfl,N]:=hP;exists 2,p,q2,1,W',d _ a0,s' _ _ a7 (d _ a0),by simp,by simp[iN];lia
   intro x c3 c0 c4 hx;obtain⟨y,rfl⟩:∃ y:Int,x=.int y:=by
    rcases zC.mp hx with h|h
    .let#[b,_,rfl]:=zL.mp h;show#[1]
    .show#[_,zI.mp h]
   let Dp:=u _ nD;show hR _ c3 (c0 _ _ eD Dp) #[λc o e n=>#v[ZM (ZW e nD),c0 _ _ (s' _ _ e n) n],QZ c4 (λo e=>#v[ZM (Ne.symm Dp),e]),nD,l++[y],by simp,by simp;lia]
  case' gEnd=>
   let#[s',W3,nD,l,rfl,i2]:=hP;let x3:=x8|||s';let Y:=g _ LN x8 W8 nD;let j:=eD;let N:↑l<=6:=()
 all_goals show qT H v Q p st LN a m _ l W t O l0 e3 a9 e7 x3 W3 Y j N k
structure Dg(ts:js)(lv:jq)(av:Nat->jq)(ho:Nat->Nat)(pd:List (Nat×Nat))(ex:Nat->Prop):Prop where
 vl:Lv ts lv
 srt:∀ b∈lv,(av b).Nodup
 mem:∀ b∈lv,∀ j,j∈av b↔j<↑ts/\b∈(nz ts j).bs/\(j∈lv\/(b,j)∈pd)
 pl:∀ x∈pd,x.1∈lv/\x.1∈(nz ts x.2).bs/\x.2∉lv/\x.2<↑ts
 live:∀ b∈lv,¬ ex b->1<=↑(av b)+ho b
def OI{l:jq}(h:l.Pairwise (·<·)):l.Nodup:=h.imp λh=>zJ h
def KC{l:jq}(h:l.Pairwise (·<·)){a b:Nat}:a∈l.erase b↔a≠b/\a∈l:=(OI h).mem_erase_iff
section
variable{ts:js}{lv:jq}{av:Nat->jq}{ho:Nat->Nat}{pd:List (Nat×Nat)}{ex:Nat->Prop}{i b:Nat}{r:jq}
def Dg.start(h:Dg ts lv av ho pd (· = i))(o:i∈lv)(e:av i=[])(s:∀ b∈(nz ts i).bs,b≠i):Dg ts (lv.erase i) av ho ((nz ts i).bs.map (λb=>(b,i))++pd) λ_=>False:=by
 let d:∀{a:Nat},a∈lv.erase i↔a≠i/\a∈lv:=KC h.vl.up;let B:∀ j∈lv,i∉(nz ts j).bs:=λj m z=>by
  have:=(h.mem i o j).mpr #[h.vl.lt j m,z,.inl m];erw[e] at this
 let q:=h.vl.lt i o;show#[#[λj m=>h.vl.lt j (d.mp m).2,λj m b f=>?_,h.vl.up.sublist tH],λb f=>h.srt b (d.mp f).2,λb f j=>?_,λx A=>?_,λb f _=>h.live b (d.mp f).2 (d.mp f).1]
 .let n:=(d.mp m).2;show d.mpr #[λz=>B j n (z▸f),h.vl.cl j n b f]
 .rw[h.mem b (d.mp f).2 j];constructor
  .rintro⟨k,g,l|l⟩
   .by_cases z:j=i
    .subst z;show#[k,g,.inr (yG _ (zL.mpr #[b,g,Z]))]
    .show#[k,g,.inl (d.mpr #[z,l])]
   .show#[k,g,.inr (yF _ l)]
  .rintro⟨k,g,l|l⟩
   .show#[k,g,.inl (d.mp l).2]
   .rcases zC.mp l with z|z
    .let#[c,_,w]:=zL.mp z;cases w;show#[k,g,.inl o]
    .show#[k,g,.inr z]
 .rcases zC.mp A with z|z
  .let#[c,p,rfl]:=zL.mp z;have:=s c p;show#[d.mpr #[this,h.vl.cl i o c p],p,λy=>(d.mp y).1 Z,q]
  .let#[t,u,C,v]:=h.pl x z;show#[d.mpr #[λy=>?_,t],u,λy=>C (d.mp y).2,v];have:=(h.mem x.1 t x.2).mpr #[v,u,.inr z];erw[y,e] at this
def NV(av:Nat->jq)(b i:Nat):Nat->jq:=λc=>if c=b then (av c).erase i else av c
def Dg.cut(h:Dg ts lv av ho ((b::r).map (λb=>(b,i))++pd) λ_=>False)(v:(b::r).Nodup)(t:∀ x∈pd,x.2≠i):b∈lv/\i∈av b/\Dg ts lv (NV av b i) ho (r.map (λb=>(b,i))++pd) (· = b):=by
 let g:(b,i)∈(b::r).map (λb=>(b,i))++pd:=yG _ (zL.mpr #[b,zT,Z]);let#[m,o,p,q]:=h.pl _ g;let NN:=(xR.mp v).1;let a:∀{c j:Nat},(c,j)≠(b,i)->((c,j)∈(b::r).map (λb=>(b,i))++pd↔(c,j)∈r.map (λb=>(b,i))++pd):=fun{c j} n=>by
  rwa[yL,uH,zD,#[λz=>z.resolve_left n,.inr]]
 let w:(b,i)∉r.map (λb=>(b,i))++pd:=λz=>by
  rcases zC.mp z with y|y
  .let#[c,d,e]:=zL.mp y;cases e;show NN d
  .show t _ y Z
 let s:i∈av b:=(h.mem b m i).mpr #[q,o,.inr g];show#[m,s,h.vl,λc d=>?_,λc d j=>?_,λx u=>?_,λc d z=>?_]
 .unfold NV;split
  .show(h.srt c d).sublist tH
  .show h.srt c d
 .unfold NV;by_cases z:c=b
  .subst z;rw[aP rfl,(h.srt c d).mem_erase_iff,h.mem c d j];constructor
   .rintro⟨n,k,l,f|f⟩
    .show#[k,l,.inl f]
    .show#[k,l,.inr ((a λy=>n (Prod.mk.inj y).2).mp f)]
   .rintro⟨k,l,f⟩;let n:j≠i:=λy=>by
     subst y;show f.elim p w
    show#[n,k,l,f.imp id λy=>(a λy=>n (Prod.mk.inj y).2).mpr y]
  .rw[aO z,h.mem c d j];let n:(c,j)≠(b,i):=λy=>z (Prod.mk.inj y).1;rw[a n]
 .show h.pl x (zC.mp u |>.elim (λy=>yG _ #v[yL,zE _ y]) λy=>yF _ y)
 .rwa[show NV av b i c=av c from aO z,h.live c d id]
def Dg.abv(h:Dg ts lv av ho [] ex)(e:b∈lv):(av b).Perm (abv ts lv b):=by
 let f:(Tw.abv ts lv b).Pairwise (·<·):=h.vl.up.sublist uX;show(mK (h.srt b e) (OI f)).mpr λj=>?_;rw[h.mem b e j];unfold Tw.abv;rw[yM,decide_eq_true_iff];constructor
 .rintro⟨_,a,c|c⟩
  .show#[c,a]
  .cases c
 .rintro⟨d,a⟩;show#[h.vl.lt j d,a,.inl d]
end
theorem Gi{d:js}:∀{l:jq},(∀ b∈l,(nz d b).rows≠[])->((l.flatMap λb=>(nz d b).rows).map (·.1)).Pairwise (λa b=>a.lt b=X')->l.Nodup
 |[],_,_=>List.nodup_nil
 |b::l,h,hp=>by
  rw[xJ,yT,xI] at hp;show xR.mpr #[λz=>?_,Gi (λc f=>h c (zE _ f)) hp.2.1];let#[r,j,e]:=List.exists_cons_of_ne_nil (h b zT);let g:r.1∈(nz d b).rows.map (·.1):=by rw[e];simp
  let i:r.1∈(l.flatMap λb=>(nz d b).rows).map (·.1):=zL.mpr #[r,wL.mpr #[b,z,by rw[e];simp],Z]
  have:=hp.2.2 _ g _ i;erw[NT] at this
def Lf{f:jr}{a:js}(c:WF f a){i:Nat}(m:i<↑a)(g:(nz a i).h≠0):(nz a i).bs.Nodup:=by
 let d:=c i _ (Yo m);let#[_,_,j,k]:=d.stem g;let e:=d.up;rw[k] at e;show Gi (λb l=>(c b _ (Yo (j b l).1)).ne) e
theorem J8{m:jr}{c:js}(e:WF m c):∀(n i:Nat),(nz c i).h<n->i<↑c->(nz c i).h<↑(nz c i).rows
 |0,i,h,_=>mZ h (uL _)
 |n+1,i,h,j=>by
  let k:=e i _ (Yo j);by_cases f:(nz c i).h=0
  .rwa[f,uW.mpr k.ne]
  let#[g,v,d,o]:=k.stem f;let s:=Lf e j f;rw[o];generalize (nz c i).bs=l at g d s
  match l,g,d with
  |a::b::r,_,d=>
   let p:=d a zT;let q:=d b (zE _ zT);let t:=J8 e n a () p.1
   let u:=J8 e n b () q.1
   rw[xJ,xJ,zG,zG]
   lia
inductive VF(ts:js)(A:Nat->Prop):Nat->Prop
 |held {i:Nat}:A i->VF ts A i
 |step {i b:Nat}:VF ts A i->b∈(nz ts i).bs->VF ts A b
def VF.sub{c:js}{A:Nat->Prop}{b:jq}(e:Lv c b)(h:∀ i,A i->i∈b){i:Nat}(r:VF c A i):i∈b:=by
 induction r with
 |held a=>show h _ a
 |step _ d f=>show e.cl _ f _ d
theorem VF.all{a:js}{d:jq}{l:Nat->Nat}(g:∀ j∈d,∀ b∈(nz a j).bs,(nz a b).h<(nz a j).h)(m:Lv a d)(c:∀ i,i∈d->1<=↑(abv a d i)+l i):∀(n i:Nat),VT a (nz a i).h<n->i∈d->VF a (λj=>j∈d/\0<l j) i
 |0,i,h,k=>mZ h (uL _)
 |n+1,i,h,k=>by
  by_cases o:0<l i
  .show .held #[k,o]
  .cases e:abv a d i with
   |nil=>
    have:=c i k;rw[e] at this;show mZ this (by simp;lia)
   |cons j r=>
    let f:j∈abv a d i:=#v[e,zT]
    unfold abv at f;rw[yM,decide_eq_true_iff] at f;have:=Ml (m.lt j f.1) (g j f.1 i f.2);show .step (VF.all g m c n j () f.1) f.2
def ww{a:jz}{b:je}(h:ZR (a.map V.int) b):PySem.W.kf_ints b=X'/\∀(i:Nat)(n:Int),a[i]?\n->∃ t,b[i]?\.int n t:=by
 show#[?_,λi n e=>?_]
 .induction a generalizing b with
  |nil=>cases h;rfl
  |cons n a d=>
   cases h with
   |cons r t=>
    let#[f,rfl]:=r;rwa[PySem.W.kf_ints,d t]
 .let#[u,c,t,rfl]:=h.get (x:=.int n) (i:=i) (by rw[zO,e];rfl)
  show#[t,c]
inductive Pn(x:V)(c:jf)(H:Hp)(Q:VK):Prop
 |mk(l:aj)(a:jz)(b:Int)(_:x=!l)(_:c=[-b])(_:H l\.lst (a.map V.int))(_:b∈a)(_:Q .non (upd H l (.lst ((a.erase b).map V.int))))
theorem Cr:Op X "list.remove" Pn:=by
 intro D s Y H x V v U Q I R P h;let#[l,d,b,rfl,rfl,C,J,q]:=h;cases R;let#[u,rfl,O]:=P.one;let#[S,rfl]:=O;let#[z,c,n,r,T,e]:=I.lstM C;let#[N,o]:=ww r;let B:=List.idxOf_lt_length_of_mem J;let g:↑c=↑d:=by have:=↑r;rw[zX] at this;show this.symm
 let IU:∀(m:Nat)(j:m<c.toArray.size)(k:Int),d[m]?\k->isInt b c.toArray[m]=ng (k=b):=λm j k K=>by
  let#[t,G]:=o m k K;have:c.toArray[m]?\Value.int k t:=#v[G]
  rw[sH j] at this;rw[zB.inj this];change (k==b)=_;rw[wU];simp
 let f:d.idxOf b<c.toArray.size:=#v[zM,g,B]
 let M:c.toArray.size<=sizeLine:=by
  rw[zM,g];have:=z;rw[zX] at this;show this
 show call_meets F.slot_list_remove #[_,e,Z] F.entry_list_remove (F.args_list_remove_2 _ _) (MeetsSeq.list_remove l ⇑c n (.int b S) (isInt b) (λy L=>PySem.W.kf_eq N y #v[L]) (d.idxOf b) f ?_ (λm j w=>?_) M) #[e,?_]
 .rw[IU _ f b (by rw[zW B,List.getElem_idxOf B])]
  show aM Z
 .let A:m<↑d:=()
  rw[IU m j d[m] (zW A)];have:=List.not_of_lt_findIdx (p:=(· == b)) (xs:=d) (i:=m) w;show aK λz=>by rw[z] at this;simp at this
 .let E:d.erase b=d.take (d.idxOf b)++d.drop (d.idxOf b+1):=by rw[List.erase_eq_eraseIdx_of_idxOf rfl,qE]
  show#[.non,_,I.lset (its':=c.take (d.idxOf b)++c.drop (d.idxOf b+1)) C e ?_ ?_ ?_,Z,q]
  .apply rW.mp;rw[qC,qE]
  .rwa[E,yT,List.map_take,List.map_drop,(r.take _).append (r.drop _)]
  .rw[zX];have:=List.length_erase_le (l:=d) (a:=b);rw[zX] at z
   lia
variable{jh ji CS CT CH CK CP CB:aj}
abbrev Ie:Stmt:=XR (top 35) 4
abbrev IR:Stmt:=XR (top 35) 5
abbrev Km:Stmt:=XR (top 35) 6
structure Zn(K:zZ)(C:aj)(m q:Str)(st:aC)(ps:jv):Prop where
 ex:∃ f fd,Uw K C m f/\Zj K m q st f fd/\Z9 K fd ps []
def Zn.of{P:am}{w:aw}{K:zZ}{g:jc}{a:aD}{e:Wh}{C:aj}{m q:Str}{j:aC}{d:jv}{k:Nat}{i:Sp}(L:Zn K C m q j d)(h:∀ f c,Zj K m q j f c->ZL P w K g a e k f c d i):ZB P w K g a e k C m d i:=by
 let#[f,c,M,F,b]:=L.ex;show#[f,c,M,h f c F,b]
theorem Jc{a:ba}{b:jq}{i:Nat}(d:b.Nodup)(h:a.map (·.1)=b.map (λi:Nat=>(mY (i:Int):ZQ))):(Wd a (.inl (i:Int))).map (·.1)=(b.erase i).map (λi:Nat=>(mY (i:Int):ZQ)):=by
 let c:(Wd a (.inl (i:Int))).map (·.1)=(a.map (·.1)).filter λk=>ng (k≠.inl (i:Int)):=by
  unfold Wd;rw[List.filter_map];rfl
 rw[c,h,List.filter_map,d.erase_eq_filter]
 congr 1
 show uP λj _=>?_;change ng ((mY (j:Int):ZQ)≠mY (i:Int))=(j != i);rw[wU];simp
 lia
theorem zb(l:jq)(i:Nat):(l.map λn:Nat=>(n:Int)).erase (i:Int)=(l.erase i).map λn:Nat=>(n:Int):=by
 induction l with
 |nil=>rfl
 |cons a l b=>
  rw[yL,List.erase_cons,List.erase_cons];by_cases z:a=i
  .rw[aP #v[z,beq_self_eq_true _],aP #v[z,beq_self_eq_true _]]
  .let c:¬ ((a:Int)==(i:Int))=X':=λy=>z (by have:=eq_of_beq y;lia)
   rw[aO c,aO (λy=>z (eq_of_beq y)),b];rfl
def Ii{a:ba}{k j:ZQ}(h:j≠k):Z2 (Wd a k) j=Z2 a j:=by
 induction a with
 |nil=>rfl
 |cons p r b=>
  by_cases z:p.1=k
  .rw[ro z,b,Uf #v[z,Ne.symm h]]
  .rw[qh z];by_cases y:p.1=j
   .rw[Ue y,Ue y]
   .rw[Uf y,Uf y,b]
section
variable{jh ji:aj}{H H':Hp}{S d lk:aj}{ts:js}{lv:jq}{av:Nat->jq}{ho:Nat->Nat}{as:jy}{kvs:ba}{ls:jf}{b i:Nat}
def Z7.gone(R:Z7 jh ji H S d lk ts lv av ho as kvs ls)(r:lv.Pairwise (·<·)):Z7 jh ji (upd H d (.dK (Wd kvs (.inl (i:Int))))) S d lk ts (lv.erase i) av ho as (Wd kvs (.inl (i:Int))) ls:=by
 let#[#[s,q],h,p]:=R.sh;let g:∀{a:Nat},a∈lv.erase i↔a≠i/\a∈lv:=KC r;let k:∀ c o,c≠d->H c\o->upd H d (.dK (Wd kvs (.inl (i:Int)))) c\o:=λc o n e=>#v[ZM n,e]
 let m:YI H (upd H d (.dK (Wd kvs (.inl (i:Int))))):=λc x e=>k c _ (ZE e h) e;show#[#[#[s,k _ _ (ZE q h) q],ZP,k _ _ (ZE p h) p],Jc (OI r) R.keys,λj f=>?_,λj f=>R.lt j (g.mp f).2,R.len,λj f=>?_,λj f=>R.own j (g.mp f).2,λj l f p=>R.two j l (g.mp f).2 (g.mp p).2]
 .rwa[Ii (λz=>(g.mp f).1 (Yq.mp z)),R.val j (g.mp f).2]
 .let W:=R.tw j (g.mp f).2;let#[v,u]:=W.tw.self;let#[w,t,_]:=W.things;show W.frame m (λo e=>k _ _ (ZE u h) e) (λo e=>k _ _ (ZE t h) e) (λo e=>k _ _ (ZE W.tw.above h) e)
def Z7.set1(R:Z7 jh ji H S d lk ts lv av ho as kvs ls)(g:b∈lv){av':Nat->jq}{ho':Nat->Nat}(A:∀ c,c≠b->av' c=av c)(B:∀ c,c≠b->ho' c=ho c)(E:∃ t,H' as[b]!.x\.ins ji t (Xy (.ref as[b]!.th) (.ref as[b]!.tg) as[b]!.ab (ho' b)))(D:H' as[b]!.ab\.lst (iN (av' b)))(k:∀ c o,c≠as[b]!.x->c≠as[b]!.ab->H c\o->H' c\o):Z7 jh ji H' S d lk ts lv av' ho' as kvs ls:=by
 let#[#[s,q],l,r]:=R.sh;let h:=R.tw b g;let#[u,a]:=h.tw.self;let f:=h.tw.above;let#[K,p,w,y]:=h.things;let m:YI H H':=λc T e=>k c _ (ZE e a) (ZE e f) e;show#[#[#[s,k _ _ (R.own b g).1.symm (ZE q f) q],k _ _ (ZE l a) (ZE l f) l,k _ _ (ZE r a) (R.own b g).2.1.symm r],R.keys,R.val,R.lt,R.len,λi j=>?_,R.own,R.two];by_cases z:i=b
 .subst z;show#[#[E,D],#[K,k _ _ (ZE p a) (R.own i j).2.2.2.symm p,λz=>(w z).mono m _ _,y],h.tag.mono m]
 .let Wi:=R.tw i j;let#[I,J,O,P]:=R.two i b j g z;let#[L,M,F,N]:=R.two b i g j (Ne.symm z);let#[v,n]:=Wi.tw.self;let#[Q,C,_]:=Wi.things;let G:=Wi.frame m (λo e=>k _ _ I (ZE n f) e) (λo e=>k _ _ (ZE C a) F.symm e) (λo e=>k _ _ (ZE Wi.tw.above a) J e);show#[?_,G.things,G.tag];rwa[A i z,B i z,G.tw]
end
def PZ(a:Nat->Nat)(b:Nat):Nat->Nat:=λi=>if i=b then a i+1 else a i
inductive UL(jh ji:aj)(n:jf)(H:Hp)(Q:VK)(_:XK):Prop
 |mk(S d k:aj)(m:js)(h:jq)(i:Nat->jq)(j:Nat->Nat)(g:jy)(a:ba)(l:jf)(b:Nat)(_:n=[!S,.int (b:Nat)])(_:Z7 jh ji H S d k m h i j g a l)(_:b∈h)(_:∀ e:Hp,(∀ c o,c≠g[b]!.x->H c\o->e c\o)->Z7 jh ji e S d k m h i (PZ j b) g a l->Q .non e)
theorem Qx:ZA SV V' (Zd Ie):=Z4
def xx(F:Zj K "hold" "Shelf.hold" Ie f fd)(L:Yh K mg jh ji)(u:-ZB ZZ 1 jh "twig_of" V' (Ze jh)):-ZL ZZ 2 f fd V' (UL jh ji):=by
 show F.ko Qx λy A q s H T Q E C h=>?_;let#[S,d,D,M,O,v,i,g,p,G,b,rfl,R,l,k]:=h;let J:=Qx.nd;intro N;show#[_,ZO (Zs 2 J (YV (E:=E0) (pv 0) L.cS u C YX (ZV (pv 1))))
  (ZU (KW (pv 2) ZN CM)),?_]
 let#[z,B]:=R.sh.self;let t:=R.tw b l;let#[j,m]:=t.tw.self;let a:=t.tw.above;exists 1,S,z,1,B,Z,1,S,d,D,↑M,p,G,(b:Int),.ref g[b]!.x,Z,R.sh,R.val b l;exists 1,g[b]!.x,ji,j,_,.int (i b:Nat),Z,m,L.cT,L.nho,Z,_,1,Z,j,_,m,yR Z;let r:g[b]!.ab≠g[b]!.x:=ZE a m;show k _ (λc o n e=>#v[ZM n,e]) (R.set1 l (av':=v) (ho':=PZ i b) (λ_ _=>rfl) (λc n=>aO n) #[j,?_] ?_ λc o I _ e=>#v[ZM I,e])
 .rw[ZP,show PZ i b b=i b+1 from aP rfl];rfl
 .rwa[ZM r,a]
inductive WQ(v:jr)(n:Nat)(jh ji:aj)(x:jf)(H:Hp)(Q:VK)(_:XK):Prop
 |mk(S d s:aj)(g:js)(e:jq)(r:Nat->jq)(k:Nat->Nat)(p:jy)(q:ba)(t:jf)(u:List (Nat×Nat))(i:Nat)(_:x=[!S,.int (i:Nat)])(_:Z7 jh ji H S d s g e r k p q t)(_:WF v g)(_:Dg g e r k u (· = i))(_:i∈e)(_:(nz g i).h<=n)(_:∀(m:Hp)(a:jq)(j:Nat->jq)(l:ba),(∀ c o,c≠d->(∀ b:Nat,b∈e->c≠p[b]!.ab)->H c\o->m c\o)->Z7 jh ji m S d s g a j k p l t->Dg g a j k u (λ_=>False)->a.Sublist e->(∀ b∈e,0<k b->b∈a)->Q .non m)
theorem Qn:ZA ["self","number","twig","branch"] V' (Zd Km):=Z4
theorem vt{gt:jr}{n:Nat}(F:Zj K "drop_unheld" "Shelf.drop_unheld" Km f fd)(L:Yh K mg jh ji)(DH:-ZB ZZ 2 jh "holders" V' (XW jh ji λ_ v us=>.int ((↑us:Nat)+(v:Nat):Int)))(DT:-ZB ZZ 1 jh "twig_of" V' (Ze jh))(DS:-ZD 1 "is_stem" TK (XQ ji))(DR:-ZB ZZ (n+3) jh "drop_unheld" V' (λvs H Q E=>∃ m,m<n/\WQ gt m jh ji vs H Q E)):-ZL ZZ (n+4) f fd V' (WQ gt n jh ji):=by
 show F.ko Qn λi1 A e5 s H vs Q E hr h=>?_;let#[S,d,lk,r,M,U,v,l,B,ls,pd,i,rfl,R,hw,G,O,hn,k]:=h;let nd:=Qn.nd;let a5:=hr.mono (show 1<=n+3 by lia)
 let e0:=hr.mono (show 2<=n+3 by lia)
 intro Xc;show#[_,ZO (Zz (YF QH (YV (E:=E0) (pv 0) L.cS DH e0 YX (ZV (pv 1))) ZN (Zx _)) (ZU xu) Z3)
  (ZO (Zs 2 nd (HS (Xn (pv 0) Z) (pv 1) #[Z,Z,Z,Z]))
  (ZU (Zz (Yy (Zq DS a5 (ZV (pv 2))))
   (ZU (Vj PassesOwn.never Z (Wa (Xn (pv 2) Z)) (Yf 3 nd)
    (ZO (Y0 (VL yP qJ qH Cr (Xn (YV (E:=E0) (pv 0) L.cS DT a5 YX (ZV (pv 3))) Z) (ZV (pv 1))))
    (ZU (Y0 (YV (E:=E0) (pv 0) L.cS DR hr YX (ZV (pv 3)))))))) Z3))),?_]
 let#[dx,hS]:=R.sh.self;let W:=R.tw i O;let#[dt,hx]:=W.tw.self;let lI:↑(iN (U i))=↑(U i):=zX _;exists 1,S,dx,1,hS,Z,1,S,d,lk,↑r,B,ls,(i:Int),_,_,_,_,_,1,#[R.sh,R.val i O,W.tw];exists _,1,Z,_,Z;show XJ (λc=>?_) (λc=>?_)
 .let hc:1<=↑(U i)+v i:=by
   have:=of_decide_eq_true c;rw[lI] at this
   lia
  show k H M U B (λc o _ _ e=>e) R #[G.vl,G.srt,G.mem,G.pl,λb D _=>?_] (vU.refl _) λb D _=>D;by_cases z:b=i
  .rwa[z,hc]
  .show G.live b D z
 .let hc:↑(U i)+v i=0:=by
   have:¬ ((0:Int)<(↑(iN (U i)):Nat)+(v i:Nat)):=λz=>c (aM z);rw[lI] at this
   lia
  let ea:U i=[]:=wJ ()
  let h0:v i=0:=()
  let hd:=R.sh.kept;let a4:=R.lt i O;let ok:=hw i _ (Yo a4);exists 1,S,jh,dx,_,!d,Z,hS,L.cS,L.nk,Z,d,Z,.inl #[B,Rd.of hd],1,B,.inl (i:Int),.ref l[i]!.x,hd,Z,R.val i O;let X:∀ b o,b≠d->H b\o->upd H d (.dK (Wd B (.inl (i:Int)))) b\o:=λb o n e=>#v[ZM n,e]
  let R1:=R.gone (i:=i) G.vl.up;let#[us,N,i3,e8]:=W.things;let#[q,k0,k1,eq,a8,_,_]:=W.tag;cases eq;let c3:∀ b∈(nz r i).bs,b≠i:=λb D=>by
   by_cases z:(nz r i).h=0
   .erw[(ok.leaf z).1] at D
   .intro y;have:=((ok.stem z).2.2.1 b D).2;rw[y] at this
    lia
  let G1:=G.start O ea c3;let pi:∀ x∈pd,x.2≠i:=λx hx z=>(G.pl x hx).2.2.1 #v[z,O]
  let T:∀ b∈M,0<v b->b∈M.erase i:=λb D hp=>(KC G.vl.up).mpr #[λz=>(by erw[z,h0] at hp),D]
  generalize upd H d (.dK (Wd B (.inl (i:Int))))=H1 at X R1⊢;let a6:=X _ _ (ZE hx hd) hx;let c0:=X _ _ (ZE W.tw.above hd) W.tw.above;let e7:=X _ _ (ZE a8 hd) a8;exists 1,l[i]!.x,.ref l[i]!.th,_,l[i]!.ab,v i,_,_,1,#[#[dt,a6],c0],e7,_,Z;by_cases hz:(nz r i).h=0
  .let eb:=(ok.leaf hz).1;rw[eb] at G1;rw[aK (show ¬ (Z6 (nz r i)).h>0 by change ¬ ((nz r i).h:Int)>0;lia)]
   show Zp (k H1 _ _ _ (λc o n _ e=>X c o n e) R1 G1 tH T)
  .rw[aM (show (Z6 (nz r i)).h>0 by change ((nz r i).h:Int)>0;lia)]
   let ew:=e8 hz;subst ew;let e3:=Lf hw a4 hz;let#[b2,b4,bh,_]:=ok.stem hz;let e9:=X _ _ (ZE N hd) N;show YA #[1,l[i]!.x,ji,dt,_,.ref l[i]!.th,Z,a6,L.cT,L.nth,Z,1,#[_,ZH.of e9],?_];let a9:∀ b:Nat,b∈M->l[i]!.th≠l[b]!.ab:=λb D=>by
    by_cases z:b=i
    .rwa[z,(R.own i O).2.2.2.symm]
    .show(R.two b i D O z).2.2.1.symm
   show PM (K:=K) (a:=l[i]!.th) (xs:=iN (nz r i).bs) (λj σ J=>∃(x3:jg)(t:jq)(g:Nat->jq)(p:ba),σ=[Z' !S,Z' (.int (i:Nat)),Z' (.ref l[i]!.x),x3]/\(∀ c o,c≠d->(∀ b:Nat,b∈M->c≠l[b]!.ab)->H c\o->J c\o)/\Z7 jh ji J S d lk r t g v l p ls/\Dg r t g v (((nz r i).bs.drop j).map (λb=>(b,i))++pd) (λ_=>False)/\t.Sublist (M.erase i)/\∀ b∈M,0<v b->b∈t)
    #[_,_,_,_,Z,λc o n _ e=>X c o n e,R1,G1,vU.refl _,T] ?_ ?_ ?_
   .rintro j σ J _ ⟨x3,t,g,p,rfl,C,_⟩;show ZH.of (C _ _ (ZE N hd) a9 N)
   .rintro j u σ J a0 ⟨x3,t,g,p,rfl,C,R2,G2,I,a2⟩;unfold iN at a0;rw[zO] at a0;let#[b,eb,rfl]:=yB.mp a0;let#[jl,ej]:=yO.mp eb;let ed:(nz r i).bs.drop j=b::(nz r i).bs.drop (j+1):=by rwa[<-ej,wZ jl]
    rw[ed] at G2;let e4:(b::(nz r i).bs.drop (j+1)).Nodup:=by rwa[<-ed,e3.sublist (List.drop_sublist _ _)]
    let#[bl,ib,G3]:=G2.cut e4 pi;let#[c4,c7]:=R2.sh.self;let Wb:=R2.tw b bl;let#[db,a1]:=Wb.tw.self;let Y:=Wb.tw.above;let eI:iN (g b)=((g b).map λn:Nat=>(n:Int)).map V.int:=by rw[zH];rfl
    let eE:((g b).map λn:Nat=>(n:Int)).erase (i:Int)=((g b).erase i).map λn:Nat=>(n:Int):=zb _ _;exists 1,S,c4,1,c7,Z,1,S,d,lk,↑r,p,ls,(b:Int),.ref l[b]!.x,Z,R2.sh,R2.val b bl,l[b]!.x,ji,db,_,.ref l[b]!.ab,Z,a1,L.cT,L.nab,Z,.inl #[Z,_,ZH.of Y],1,l[b]!.ab,(g b).map (λn:Nat=>(n:Int)),(i:Int),Z,Z,by rwa[<-eI,Y],zL.mpr #[i,ib,Z]
    rw[eE];let i0:l[b]!.x≠l[b]!.ab:=ZE a1 Y;let R3:=R2.set1 (H':=upd J l[b]!.ab (.lst ((((g b).erase i).map λn:Nat=>(n:Int)).map V.int))) bl (av':=NV g b i) (ho':=v) (λc n=>aO n) (λ_ _=>rfl) #[db,#v[ZM i0,a1]] (by rw[ZP,show NV g b i b=(g b).erase i from aP rfl,zH];rfl) λc o _ n2 e=>#v[ZM n2,e]
    let c2:b∈M:=mh (I.subset bl);let a3:∀ c o,c≠d->(∀ b:Nat,b∈M->c≠l[b]!.ab)->H c\o->upd J l[b]!.ab (.lst ((((g b).erase i).map λn:Nat=>(n:Int)).map V.int)) c\o:=λc o n1 n2 e=>#v[ZM (n2 b c2),C c o n1 n2 e]
    generalize upd J l[b]!.ab (.lst ((((g b).erase i).map λn:Nat=>(n:Int)).map V.int))=H3 at R3 a3⊢;let#[c5,c8]:=R3.sh.self;let i2:=bh b (yY eb);exists 1,S,c5,1,c8,Z,1,(nz r b).h,(),S,d,lk,r,t,_,v,l,p,ls,_,b,Z,R3,hw,G3,bl,zY _
    intro H4 e2 c1 a7 c6 R4 G4 e6 e1;show#[_,e2,c1,a7,Z,λc o n1 n2 e=>c6 c o n1 (λc' c9=>n2 c' (mh (I.subset c9))) (a3 c o n1 n2 e),R4,G4,e6|||I,λc hc hp=>e1 c (a2 c hc hp) hp]
   .rintro σ J ⟨x3,t,g,p,rfl,C,R2,G2,I,a2⟩;rw[show ↑(iN (nz r i).bs)=↑(nz r i).bs from zX _,sQ (zY _)] at G2;show k J t g p C R2 G2 (I|||tH) a2
theorem EZ{r:jr}(a:Zn K jh "drop_unheld" "Shelf.drop_unheld" Km V')(L:Yh K mg jh ji)(j:-ZB ZZ 2 jh "holders" V' (XW jh ji λ_ b B=>.int ((↑B:Nat)+(b:Nat):Int)))(o:-ZB ZZ 1 jh "twig_of" V' (Ze jh))(l:-ZD 1 "is_stem" TK (XQ ji)):∀ n:Nat,ZB P w K mg kF ZZ (n+3) jh "drop_unheld" V' (λg H Q E=>∃ m,m<n/\WQ r m jh ji g H Q E)
 |0=>a.of λ_ _ _=>IA λg H Q E h=>by let#[m,t,_]:=h;lia
 |n+1=>a.of λ_ _ F=>(vt F L j o l (EZ a L j o l n)).imp λg H Q E h=>by
  let#[m,t,S,d,v,A,y,q,b,p,c,x,z,i,e,R,u,G,s,C,k]:=h;show#[S,d,v,A,y,q,b,p,c,x,z,i,e,R,u,G,s,(),k]
def Wl.dg{n:jr}{f g:aj}{H:Hp}{S d p:aj}{l:js}{k:jq}{i:Nat->jq}{e:Nat->Nat}{m:jy}{h:ba}{q:jf}{b:Nat}(U:Wl n f g H S d p l k i e m h q):Dg l k i (Va e b) [] (· = b):=by
 show#[U.vl,λc a=>?_,λc a j=>?_,λx o=>(by cases o),λc a z=>?_]
 .show(U.av c a).nodup_iff.mpr (OI (U.vl.up.sublist uX))
 .rw[(U.av c a).mem_iff];unfold abv;rwa[yM,decide_eq_true_iff,#[λz=>#[U.vl.lt j z.1,z.2,.inl z.1],λz=>#[z.2.2.elim id (λy=>by cases y),z.2.1]]]
 .rwa[(U.av c a).length_eq,show Va e b c=e c from aO z,U.live c a]
inductive VM(l:jr)(jh ji CH:aj)(u:jf)(H:Hp)(Q:VK)(E:XK):Prop
 |mk(S d q:aj)(s:js)(i:jq)(t:Nat->jq)(g:Nat->Nat)(k:jy)(p:ba)(r:jf)(b:Nat)(_:u=[!S,.int (b:Nat)])(_:Wl l jh ji H S d q s i t g k p r)(_:↑l=64)(_:l.Pairwise (λa b=>a.lt b=X'))(_:b∈i)(_:g b=0->UF CH (b:Nat) E H)(_:0<g b->∀(m:Hp)(e:jq)(n:Nat->jq)(h:ba),(∀ c o,c≠d->c≠k[b]!.x->(∀ j:Nat,j∈i->c≠k[j]!.ab)->H c\o->m c\o)->Wl l jh ji m S d q s e n (Va g b) k h r->e.Sublist i->(∀ c∈i,0<Va g b c->c∈e)->Q .non m)
theorem Ud:ZA SV V' (Zd IR):=Z4
theorem vf{gt:jr}(F:Zj K "let_go" "Shelf.let_go" IR f fd)(L:Yh K mg jh ji)(DC:-ZB (Z8 P w) 3 jh "check_held" T2 (YN jh ji CH))(DT:-ZB ZZ 1 jh "twig_of" V' (Ze jh))(DD:-ZB ZZ 67 jh "drop_unheld" V' (λvs H Q E=>∃ m,m<64/\WQ gt m jh ji vs H Q E)):
  ZL P w K mg kF (Z8 P w) 68 f fd V' (VM gt jh ji CH):=by
 show F.kD Ud λa6 A a3 s H vs Q E V h=>?_;let#[S,d,lk,D,lv,I,j,i,p,ls,b,rfl,U,lg,up,r,k1,k2]:=h;let nd:=Ud.nd;let W:=V.mono (yR Z:1<=67)
 let X:=V.mono (yR Z:3<=67)
 intro Xc;show#[_,ZO (Y0 (YV (E:=E) (pv 0) L.cS DC X (U9 VD λ_ _ _ h=>h) (ZV (XT (ZV (pv 1))))))
  (ZO (Zs 2 nd (YV (E:=E0) (pv 0) L.cS DT W YX (ZV (pv 1))))
  (ZO (KW (pv 2) ZN Fa)
  (ZU (Y0 (YV (E:=E0) (pv 0) L.cS DD V YX (ZV (pv 1))))))),?_]
 let#[dx,hS]:=U.sh.sh.self;exists 1,S,dx,1,hS,Z,1,YJ;intro l nl;let g:=Zf nl (.lst [.int (b:Nat)]);let hl:=ZP (H:=H) (a:=l) (o:=.lst [.int (b:Nat)]);generalize upd H l (.lst [.int (b:Nat)])=H1 at g hl⊢;let R1:=U.sh.same g;show#[S,d,lk,l,D,lv,I,j,i,p,ls,[b],Z,R1,hl,λc k=>#v[zI.mp k,r],λc k=>?_,λk C s2=>?_]
 .let h1:=zI.mp (qM k);let h2:=qX k;subst h1;show(k1 (of_decide_eq_true h2)).mono g
 let hp:0<j b:=by
  have:=vN.mp k b zT;simp at this
  lia
 let z:=g|||s2;let R2:=U.sh.same z;let#[M,R]:=R2.sh.self;let Wb:=R2.tw b r;let#[q,Y]:=Wb.tw.self;let u:=Wb.tw.above;exists 1,S,M,1,R,Z,1,S,d,lk,↑D,p,ls,(b:Int),.ref i[b]!.x,Z,R2.sh,R2.val b r;exists 1,i[b]!.x,ji,q,_,.int (j b:Nat),Z,Y,L.cT,L.nho,Z,_,1,Z,q,_,Y,yR Z;let a5:i[b]!.ab≠i[b]!.x:=ZE u Y;let eh:((j b:Nat):Int)-1=((j b-1:Nat):Int):=()
 let G:=R2.set1 (H':=upd C i[b]!.x (.ins ji q (Yi "holds" (.int (((j b:Nat):Int)-1)) (Xy (.ref i[b]!.th) (.ref i[b]!.tg) i[b]!.ab (j b))))) r (av':=I) (ho':=Va j b) (λ_ _=>rfl) (λc n=>aO n) #[q,by
  rw[ZP,show Va j b b=j b-1 from aP rfl,eh];rfl] #v[ZM a5,u] λc o n1 _ e=>#v[ZM n1,e]
 let t:∀ c o,c≠i[b]!.x->C c\o->upd C i[b]!.x (.ins ji q (Yi "holds" (.int (((j b:Nat):Int)-1)) (Xy (.ref i[b]!.th) (.ref i[b]!.tg) i[b]!.ab (j b)))) c\o:=λc o n e=>#v[ZM n,e]
 generalize upd C i[b]!.x (.ins ji q (Yi "holds" (.int (((j b:Nat):Int)-1)) (Xy (.ref i[b]!.th) (.ref i[b]!.tg) i[b]!.ab (j b))))=H3 at G t⊢;let#[N,T]:=G.sh.self;let v:=U.sh.lt b r;let a7:=J8 U.wf _ b (yA _) v;let a1:=(U.wf b _ (Yo v)).len up;rw[lg] at a1;exists 1,S,N,1,T,Z,1,(nz D b).h,(),S,d,lk,D,lv,I,_,i,p,ls,[],b,Z,G,U.wf,U.dg,r,zY _
 intro H4 a2 J y O R4 B a4 a0;show k2 hp H4 a2 J y (λc o n1 n2 n3 e=>O c o n1 n3 (t c o n2 (z c o e))) #[R4,U.wf,B.vl,λc k=>B.abv k,λc k=>?_,U.l800] a4 a0;rwa[<-(B.abv k).length_eq,B.live c k id]
section
variable{kE:jw}{σ:St}{H:Hp}
def Sv:HO->Prop
 |.dK _=>True
 |.frz _ (.dK _)=>True
 |_=>False
def ZF.re{d:aj}{v u:HO}(I:ZF X kE σ H s)(e:H d\v)(h:Sv v)(B:∀ o x,X.H₀ d≠Z' (.frz o x))(g:Zb X.prog X.w H s.heap d u):ZF X kE σ (upd H d u) s:=by
 let f:∀{b:aj},H b=Y'->b≠d:=fun{b} q z=>by erw[z,e] at q
 let C:∀{b y:aj},H b\.own y->b≠d:=fun{b y} q z=>by erw[z,e] at q;show h
 let j:∀{b:aj}{a:jf},H b\.tup a->b≠d:=fun{b a} q z=>by erw[z,e] at q;show h
 let A:∀{b:aj}{a:jA},H b\.tbl a->b≠d:=fun{b a} q z=>by erw[z,e] at q;show h
 show#[I.ok,I.os,I.bare,#[I.base.keep,I.base.slot,λb o q n t=>?_,I.base.there,λb a q=>?_,λb o x q=>?_,λb D q=>?_],I.loc,I.cell,?_,λx c q=>?_,λp r=>?_,λb o q=>?_,I.len]
 .let z:=I.base.free b o q n t;rwa[ZM (f z),z]
 .let z:=I.base.tups b a q;rwa[ZM (j z),z]
 .let z:=I.base.frzs b o x q;rwa[ZM (show b≠d from λy=>B o x (y▸q)),z]
 .let#[m,z]:=I.base.tbls b D q;show#[m,#v[ZM (A z),z]]
 .rwa[ZM (f I.free),I.free]
 .rwa[ZM (f (I.freeC x c q)),I.freeC x c q]
 .let#[E,l,F]:=I.pin p r;show#[E,#v[ZM (f l),l],F]
 .let k:∀{b o},Zb X.prog X.w H s.heap b o->Zb X.prog X.w (upd H d u) s.heap b o:=λx=>x.stay (λ_ _ _ q=>q) (λc q=>#v[ZM (C q),q]) λc a q=>#v[ZM (j q),q]
  by_cases i:b=d
  .subst i;erw[ZP] at q;show k g
  .rw[ZM i] at q;show k (I.hok b o q)
def ZF.nofrz{d:aj}{a:ba}(I:ZF X kE σ H s)(e:H d\.dK a):∀ o x,X.H₀ d≠Z' (.frz o x):=λo x q=>by
 have:=I.base.frzs d o x q;erw[e] at this
inductive LH(t:TS)(D:Y1)(σ:Tw.St)(H:Hp):Prop
 |mk(d a:_)(_:H d\.dK a)(_:t ⟨λb c=>∃ o u,c d\.frz o (.dK u)/\D.nx b (upd c d (.dK u)),λ_ _=>False,λ_ _=>False,λ_ _=>False⟩ σ H)
def F1{g:aC}{t:TS}(h:PS X g t):PS X g (LH t):=by
 rintro kE s σ H D I ⟨d,i,e,q⟩;show Z0 (h kE s σ H _ I q) λf m z=>?_;let j:=I.nofrz e
 cases f with
 |next=>
  let#[a,l,b,o,u,c,k]:=z;show#[a,_,b.re c trivial j (b.hok d _ c).2,k]
 |brk=>let#[_,_,_,z]:=z;show z.elim
 |cont=>let#[_,_,_,z]:=z;show z.elim
 |ret u=>let#[_,_,_,_,_,z]:=z;show z.elim
def LC(d:aj)(o:aI)(a:ba):It:=
 #[λi H=>H d\.frz o (.dK a)/\i<↑a,λi H x b=>b=H/\∃ p,a[i]?\p/\x=kV p.1,λi H=>H d\.frz o (.dK a)/\↑a<=i]
theorem Ch{a:Type}:∀{c:List (a×V)}{d:List (a×ai)}{i:Nat}{p:a×V},KV c d->c[i]?\p->∃ u,d[i]?\(p.1,u)
 |_,_,_,_,.nil,e=>by simp at e
 |_,_,0,p,.cons (b:=b) r _,e=>by simp at e;subst e;show#[b.2,by rw[r.1];rfl]
 |_,_,i+1,p,.cons _ t,e=>by
  let#[u,h]:=Ch (i:=i) (p:=p) t #v[e]
  show#[u,#v[h]]
def RI{k:ZQ}{v:ai}(h:OA k v=X'):ZT (kV k) v:=by
 rcases Q2 h with ⟨i,t,rfl,rfl⟩|⟨x,t,rfl,rfl⟩
 .show#[t,Z]
 .show#[t,Z]
def EL{P:am}{w:aw}{h:aD}{d:aj}{o:aI}{a:ba}{j:Array DictEntry}{i:Nat}(k:o.data=.dict j i)(x:Zb P w H h d (.frz o (.dK a))):∃ b,KV a b/\h.DictAt (Wg P w) d b i:=by
 let#[e,_,_,b,r,n,m,l,g,c,f,q]:=x;erw[e] at g;erw[k] at f;show#[b,r,o,j,e,c,k,q]
def Ih{c:Type}{a:List (c×V)}{b:List (c×ai)}(h:KV a b):↑a=↑b:=Paired.length h
def Al{P:am}{w:aw}{K:zZ}{tg:Expr}{d:aj}{o:aI}{j:ba}{U:Array DictEntry}{N:Nat}(Q:o.data=.dict U N)(g:aj):Vm P w K tg (LC d o j) [g] g (λi h=>h.IsKeyIter g d i ↑j N) where
 mem:=by simp
 obj:=λi h a b f=>by
  let e:b=g:=by simpa using f
  subst e;let#[o,e,c,d]:=a;show#[o,e,λv z=>by erw[d] at z]
 keep:=λi h m a k=>a.at λo e=>k g ⋯ o e
 item:=by
  intro X F L D O i kE s σ H E I n a G;subst F L D;let#[J,q]:=G;let#[vs,r,t]:=EL Q (I.hok d _ J);obtain⟨p,R⟩:∃ p,j[i]?\p:=#[_,zW q];let#[u,hu]:=Ch r R;let#[x,y,Y,A,B,C]:=n g ⋯
  rw[Ih r] at a⊢;show wpAny_pyNext_dict_item a t hu λM m hk l sb=>?_;let S:ZF X kE σ H { s with heap:=m }:=I.turned (t':=s.toks) (λb o f e=>(sb.2 b f)|||e) x y A B C;show#[M,Z,letGo_keyiter (s':={ s with heap:=m }) l #[_,H,S,RI hk,#[Z,p,R,Z],l,λb f=>(n b f).1]]
 done:=by
  intro X F L D O i kE s σ H E I n a G;subst F L D;let#[J,q]:=G;let#[vs,r,t]:=EL Q (I.hok d _ J);let#[x,y,Y,A,B,C]:=n g ⋯
  rw[Ih r] at a q;show wpAny_pyNext_dict_end (I.ok.hd O) a t (List.getElem?_eq_none_iff.mpr q) λm T=>#[Z,I.turned (t':=s.toks) (λb o f e=>T b o f e) x y A B C]
 self:=λ_ _ _ _ _ a h=>wpAny_pyIter_keyiter a h
inductive On(R:It->Hp->Prop)(x:V)(b:Hp):Prop
 |mk(d a:_)(_:x=!d)(_:b d\.dK a)(_:∀ o,R (LC d o a) (upd b d (.frz o (.dK a))))
def Sa(b:TE):TI:=λσ H R=>b σ H λx a=>On R x a
def Go{C l:Expr}{m:TE}(z:PE X l m):PI X C l (Sa m):=by
 intro kE s σ H R I h;show YH (z kE s σ H _ I h) λv a x F f B A=>?_;let#[d,j,rfl,e,q]:=A;cases B;let#[G,E,D,r,o,t,p,g,c,k,rest]:=id (f.hok d _ e);let n:a.heap.DictAt (Wg X.prog X.w) d D p:=#[o,t,g,c,k,rest];show wpAny_pyIter_dict E n ?_;rw[<-Ih r];let i:=f.re (u:=.frz o (.dK j)) e trivial (f.nofrz e) #[g,f.hok d _ e];show#[‹a›,[‹a›],_,_,1,i.kept (t':=a.toks) λb o e=>zS _ e,Al k _,#[_,yS _ Z,Z,Z],λb y=>?_,q o];let e:b=‹a›:=by simpa using y
 subst e;show i.fpOk (zY _) (i.hok.fresh (zY _))
end
variable{jh ji CS CT CH CK CP CB:aj}
noncomputable def Ux(b a:jq):jq:=b.filter λi=>ng (i∉a)
def G0(b:jq):Ux b []=b:=List.filter_eq_self.mpr λa _=>aM (tL)
def yy{c a:jq}{b:Nat}(d:b∈c)(f:b∉a):↑(Ux c (a++[b]))<↑(Ux c a):=by
 let e:Ux c (a++[b])=(Ux c a).filter λi=>ng (i≠b):=by
  unfold Ux;rw[List.filter_filter];show uP λi _=>?_;rw[<-Bool.decide_and,decide_eq_decide];simp;show And.comm
 rwa[e,List.length_filter_lt_length_iff_exists,#[b,yM.mpr #[d,aM f],by simp]]
noncomputable def cur(a b:jq)(n:Nat):jq:=(a.take n).filter (λi=>ng (i∈b))++a.drop n
def FU(a b:jq)(n:Nat):(cur a b n).Sublist a:=by
 have:=vU.append_right (l:=a.drop n) (uX (p:=λi=>ng (i∈b)) (l:=a.take n))
 rw[wQ] at this;assumption
def zm{a c:jq}{n b:Nat}(e:a[n]?\b):b∈cur a c n:=by
 let#[h,rfl]:=yO.mp e;show yF _ #v[wZ h,zT]
def uf{c a:jq}{n b:Nat}(e:c[n]?\b)(d:b∈a):cur c a (n+1)=cur c a n:=by
 let#[h,rfl]:=yO.mp e;unfold cur;rw[qB h,uC,wZ h,wR];simp[d]
def Bo{a c:jq}{n b:Nat}(f:a.Pairwise (·<·))(e:a[n]?\b)(d:b∉c):cur a c (n+1)=(cur a c n).erase b:=by
 let#[h,rfl]:=yO.mp e;unfold cur;rw[qB h,uC,wZ h,List.erase_append_right (l₁:=(a.take n).filter λi=>ng (i∈c)) _ (λz=>d #v[(yM.mp z).2]),List.erase_cons_head]
 simp[d]
def Gz{a b:jq}(d:a.Pairwise (·<·))(e:b.Pairwise (·<·))(h:∀ i,i∈a↔i∈b):a=b:=
 wX.eq_of_pairwise (le:=(·<·)) (λa c _ _ f g=>mZ f (Nat.lt_asymm g)) d e ((mK (OI d) (OI e)).mpr h)
def xi{g:js}{e d f:jq}{l:Nat->Nat}(w:Lv g e)(k:Lv g d)(o:d.Sublist e)(v:∀ c∈e,0<l c->c∈d)(m:∀ i∈d,VF g (λj=>j∈d/\0<l j) i)(p:∀ i∈f,VF g (λj=>j∈e/\0<l j) i)(q:∀ c∈e,0<l c->c∈f)(s:∀ i∈f,∀ b∈(nz g i).bs,b∈f):cur e f ↑e=d:=by
 show Gz (w.up.sublist (FU _ _ _)) k.up λi=>?_;unfold cur;rw[List.drop_length,xD,List.take_length,yM,decide_eq_true_iff];constructor
 .rintro⟨_,h⟩;show(p i h).sub k λj n=>v j n.1 n.2
 .intro h;exists o.subset h;let r:=m i h;clear h
  induction r with
  |held a=>show q _ (o.subset a.1) a.2
  |step _ t u=>show s _ u _ t
def Ve(a:jq):ba:=a.map λb:Nat=>((mY (b:Int):ZQ),V.bl true)
def Jl{c:jq}{b:Nat}(h:b∉c):Z2 (Ve c) (mY (b:Int))=Y':=by
 cases z:Z2 (Ve c) (mY (b:Int)) with
 |none=>rfl
 |some v=>
  have:=Ng z;unfold Ve at this;rw[zH] at this;let#[i,d,a]:=zL.mp this;let a:((i:Nat):Int)=(b:Nat):=Sum.inl.inj a;show mZ (by rwa[<-Int.ofNat.inj a,d]) h
def D7{a:jq}{b:Nat}(h:b∈a):(Z2 (Ve a) (mY (b:Int))).isSome=X':=by
 cases z:Z2 (Ve a) (mY (b:Int)) with
 |some v=>rfl
 |none=>
  show mZ ?_ (AK z);unfold Ve;rwa[zH,zL.mpr #[b,h,Z]]
def AW{a:jq}{b:Nat}(h:b∉a):Zo (Ve a) (mY (b:Int)) (.bl true)=Ve (a++[b]):=by
 unfold Zo;rw[OB,Jl h];change _=Ve (a++[b]);unfold Ve;rw[yT];rfl
structure Px(ts:js)(lv:jq)(ho:Nat->Nat)(todo fs:jq):Prop where
 t:∀ i∈todo,VF ts (λj=>j∈lv/\0<ho j) i
 f:∀ i∈fs,VF ts (λj=>j∈lv/\0<ho j) i
 h:∀ c∈lv,0<ho c->c∈fs\/c∈todo
 c:∀ i∈fs,∀ b∈(nz ts i).bs,b∈fs\/b∈todo
 n:↑fs+↑(Ux lv fs)<=↑lv
 m:↑todo+5*↑(Ux lv fs)<=6*↑lv
section
variable{ts:js}{lv:jq}{ho:Nat->Nat}{todo fs r:jq}{b:Nat}
theorem Px.start:Px ts lv ho (lv.filter λj=>ng (0<ho j)) []:=by
 exists λi f=>.held ?_,λ_ h=>(by cases h),λc e z=>.inr (yM.mpr #[e,aM z]),λ_ h=>(by cases h),?_
 .let#[a,d]:=yM.mp f;show#[a,of_decide_eq_true d]
 .rw[G0];simp
 .rw[G0];have:=tS (λj=>ng (0<ho j)) lv
  lia
def Px.old(s:Px ts lv ho (r++[b]) fs)(e:b∈fs):Px ts lv ho r fs:=by
 let m:∀{i},i∈r++[b]->i∈fs\/i∈r:=fun{i} h=>by
  rcases zC.mp h with h|h
  .show .inr h
  .rwa[zI.mp h,.inl e]
 exists λi d=>s.t i (yG _ d),s.f,λc a z=>(s.h c a z).elim .inl m,λi d c a=>(s.c i d c a).elim .inl m,s.n;have:=s.m;rw[zG] at this;show zR (Nat.add_le_add_right (wE _ _) _) this
theorem Px.new(s:Px ts lv ho (r++[b]) fs)(j:b∉fs)(k:b∈lv)(l:↑(nz ts b).bs<=4):Px ts lv ho (r++(nz ts b).bs) (fs++[b])/\↑(r++(nz ts b).bs)+5*↑(Ux lv (fs++[b]))<↑(r++[b])+5*↑(Ux lv fs):=by
 let o:=yy k j;let g:=s.t b (yF _ zT);let m:∀{i},i∈r++[b]->i∈fs++[b]\/i∈r++(nz ts b).bs:=fun{i} h=>by
  rcases zC.mp h with h|h
  .show .inr (yG _ h)
  .show .inl (yF _ h)
 let e:↑(r++(nz ts b).bs)+5*↑(Ux lv (fs++[b]))<↑(r++[b])+5*↑(Ux lv fs):=by
  rw[zG,zG,xS]
  lia
 show#[#[λi d=>?_,λi d=>?_,λc a z=>(s.h c a z).elim (λy=>.inl (yG _ y)) m,λi d c a=>?_,?_,zR (yJ e) s.m],e]
 .rcases zC.mp d with h|h
  .show s.t i (yG _ h)
  .show .step g h
 .rcases zC.mp d with h|h
  .show s.f i h
  .rwa[zI.mp h,g]
 .rcases zC.mp d with h|h
  .show(s.c i h c a).elim (λy=>.inl (yG _ y)) m
  .rw[zI.mp h] at a;show .inr (yF _ a)
 .have:=s.n;rw[zG,xS]
  lia
end
abbrev kN(l:jq):jI:=l.map λi:Nat=>(mY (i:Int):ZQ)
inductive VU(q:jr)(r:jf)(H:Hp)(Q:VK)(_:XK):Prop
 |mk(e d:aj)(l:js)(k a:jq)(bs:jx)(p g:ba)(n:Nat->Nat)(_:r=[!e,!d])(_:Xj H e l k bs p)(_:WF q l)(_:H d\.dK g)(_:Vs g k n)(_:e≠d)(_:↑k<150)(_:Lv l a)(_:a.Sublist k)(_:∀ c∈k,0<n c->c∈a)(_:∀ i∈a,VF l (λj=>j∈a/\0<n j) i)(_:∀(m:Hp)(h b:ba),(∀ c o,c≠e->c≠d->H c\o->m c\o)->Xj m e l a bs h->m d\.dK b->Vs b a n->Q .non m)
abbrev Rl:jv:=["_law_twigs","_law_holds","_law_todo","_law_found","_law_here","_law_number"]
theorem Ut:ZA Rl SX (Zd Jk):=Z4
inductive EA(H:Hp)(dT dH fa:aj)(ts:js)(lv:jq)(ho:Nat->Nat):Nat->Tw.St->Hp->Prop
 |mk{ta:aj}{todo fs:jq}{k4:jg}{H':Hp}:ZC H H'->H ta=Y'->H' ta\.lst (iN todo)->H' fa\.dK (Ve fs)->Px ts lv ho todo fs->EA H dT dH fa ts lv ho (↑todo+5*↑(Ux lv fs)) [Z' !dT,Z' !dH,Z' !ta,Z' !fa,k4,Y'] H'
inductive Cg(H:Hp)(dT dH ta fa:aj)(k4:jg)(kvs hvs:ba)(lv fs:jq):Nat->Tw.St->Hp->Prop
 |mk{i:Nat}{k5:jg}{H':Hp}{kt kh:ba}:(∀ c o,c≠dT->c≠dH->H c\o->H' c\o)->H' dT\.dK kt->H' dH\.dK kh->kt.map (·.1)=kN (cur lv fs i)->kh.map (·.1)=kN (cur lv fs i)->(∀ j∈cur lv fs i,Z2 kt (mY (j:Int))=Z2 kvs (mY (j:Int)))->(∀ j∈cur lv fs i,Z2 kh (mY (j:Int))=Z2 hvs (mY (j:Int))) ->
  Cg H dT dH ta fa k4 kvs hvs lv fs i [Z' !dT,Z' !dH,Z' !ta,Z' !fa,k4,k5] H'
def wk{a:js}{e:jr}(d:WF e a){i:Nat}(c:i<↑a):↑(nz a i).bs<=4:=by
 by_cases b:(nz a i).h=0
 .rwa[((d i _ (Yo c)).leaf b).1,yZ _]
 .show((d i _ (Yo c)).stem b).2.1
theorem AB{gt:jr}(F:Zj K "_law_swept" "_law_swept" Jk f fd)(T:Yd mg):-ZL ZZ 2 f fd SX (VU gt):=by
 show F.ko Ut λi3 A i2 s H vs Q E hr h=>?_;let#[g,dH,ts,B,c9,bs,d,c8,ho,rfl,r,hw,S,hH,dd,i4,c5,sl,kp,c6,k]:=h;let nd:=Ut.nd;let hu:=VN hr;intro Xc;show#[_,ZO (F1 (NQ (i:=2) [1] ["_law_holds"] nd Z Z Z (Go (pv 0)) (λ_ _ _ _ _=>Nt (YF QH (WT hu (pv 1) (pv 0)) ZN (Zx _))) (λ_ _ _ _ _=>pv 0) #[Z,.inl Z,Z,trivial]))
  (ZO (Zs 3 nd MF)
  (ZO (MP PassesOwn.never (YF (Ju hr.units0) (pv 2) (XT Z1) (Zx _))
   (ZO (Zs 4 nd (Nl yP mD mE Dv (pv 2)))
   (ZU (Zz (Qm (LQ hu (pv 4) (pv 3)))
    (ZO (QK hu (pv 3) (pv 4) Uc Z)
    (ZU (Zz (YF Xi (Zk K (WT hu (pv 0) (pv 4)) ZN) Y8 (Zx _))
     (ZU (Zs 2 nd (Z5 Nd (pv 2) (VB PF Z T.list Uz (ZV (Zk K (WT hu (pv 0) (pv 4)) ZN)))))) Z3))) Z3))))
  (ZU (Vj PassesOwn.never Z (Wa (Zv (P8 Z) Z T.sorted Pd (ZV (pv 0)))) (Yf 5 nd)
   (ZU (Zz (Qm (LQ hu (pv 5) (pv 3))) (ZO (Y0 (HS (pv 0) (pv 5) #[Z,Z,Z,Z])) (ZU (Y0 (HS (pv 1) (pv 5) #[Z,Z,Z,Z])))) Z3)))))),?_]
 let lk:↑d=↑B:=by have:=congrArg xY r.keys;simpa using this
 exists g,d,r.dict,1,g,d,Z,r.dict;intro o;let hf:upd H g (.frz o (.dK d)) g\.frz o (.dK d):=ZP;let hn:∀ c u,c≠g->H c\u->upd H g (.frz o (.dK d)) c\u:=λc u n e=>#v[ZM n,e]
 let hb:∀ c,upd H g (.frz o (.dK d)) c=Y'->H c=Y':=λc e=>by
  by_cases z:c=g
  .erw[z,ZP] at e
  .rw[ZM z] at e;assumption
 generalize upd H g (.frz o (.dK d))=H1 at hf hn hb⊢;show K1 B (λj=>ng (0<ho j)) () (λi H3 C hi=>#[C _ _ hf,()]) (λi H3 x H4 C hi hy=>#[hy.1,?_]) (λH3 C=>#[C _ _ hf,()]) (λN j R hj s2 hR=>?_) (λD5 N s2 nD e5=>?_)
 .let#[p,ep,rfl]:=hy.2;have:=congrArg (λl=>l[i]?) r.keys;simp only[zO,ep] at this;let#[b,e1,e2]:=yB.mp this.symm;let e2:(mY (b:Int):ZQ)=p.1:=e2;rw[zO,e1,<-e2];rfl
 .let hg:Zh N dH (.int (j:Nat)) (Z' (.int (ho j:Nat))):=hH.2 j hj▸Zh.k (k:=mY (j:Int)) (s2 _ _ (hn _ _ dd.symm S));let ed:ng (((ho j:Nat):Int)>0)=ng (0<ho j):=by rw[decide_eq_decide];lia
  exists 2,dH,.int (ho j:Nat),Z,hg,_,1,Z,_,Z;rwa[ed,hR]
 let n5:=hb _ nD;let d5:D5≠g:=λz=>by erw[z,hf] at nD
 exists o,d,s2 _ _ hf;let C:ZC H (upd N g (.dK d)):=λc u e=>by
  by_cases z:c=g
  .rwa[z,ZP,<-r.dict,<-z,e]
  .rwa[ZM z,s2 _ _ (hn _ _ z e)]
 let e6:upd N g (.dK d) D5\.lst (iN (B.filter λj=>ng (0<ho j))):=#v[ZM d5,e5]
 generalize upd N g (.dK d)=H3 at C e6⊢;clear hf hn hb s2 nD e5 d5;intro G a1;let D:=ZC.free C a1;exists EA H g dH G ts B ho,#[_,.mk (C|||Zf a1 _) n5 (Zf a1 _ _ _ e6) ZP .start];clear e6 C a1 n5;rintro m σ H1 ⟨s1,a5,a4,c1,I⟩;rename_i Y a2 J k4
 exists 1,YJ;intro e0 c0;let g0:=Zf c0 (.lst []);exists Y,e0,iN a2,Z,Z,ZH.of (g0 _ _ a4),ZH.of ZP,_,Z;let M:=g0 _ _ a4;let L:=g0 _ _ c1;let s2:=s1|||g0;generalize upd H1 e0 (.lst [])=N at M L s2⊢;clear g0 c0 a4 c1 s1;rcases sS a2 with z|⟨rest,b,z⟩
 .subst z;show Zp ?_;let eI:(B.map λi:Nat=>(i:Int)).map V.int=iN B:=by rw[zH];rfl
  exists 1,g,d,B.map λi:Nat=>(i:Int),Z,s2 _ _ r.dict,(by rw[r.keys,zH];rfl),P0 r.vl.up,by simp;lia
  intro q nq;rw[eI];let g1:=Zf nq (.lst (iN B));let hq:upd N q (.lst (iN B)) q\.lst (iN B):=ZP;let C:=s2|||g1;let v:=g1 _ _ L;generalize upd N q (.lst (iN B))=H3 at g1 hq C v⊢;let a7:=C _ _ r.dict;let a6:=C _ _ S;let i1:q≠g:=ZE hq a7;let i0:q≠dH:=ZE hq a6;let e8:G≠g:=λz=>by erw[z,r.dict] at D
  let e7:G≠dH:=λz=>by erw[z,S] at D
  show#[q,Z,#[_,ZH.of hq],PM (K:=K) (a:=q) (xs:=iN B) (Cg H3 g dH Y G k4 d c8 B J) (.mk (λ_ _ _ _ e=>e) a7 a6 r.keys hH.1 (λ_ _=>rfl) λ_ _=>rfl) (λi σ H4 _ hP=>by let#[fr,_]:=hP;show ZH.of (fr _ _ i1 i0 hq)) ?_ ?_]
  .rintro i u σ H4 c3 ⟨fr,eT,eH,k1,k2,v1,v2⟩;rename_i k5 kt kh
   rw[zO] at c3;let#[n,en,rfl]:=yB.mp c3;exists 2,G,1,Zh.k (k:=mY (n:Int)) (fr _ _ e8 e7 v),_,Z;by_cases a0:n∈J
   .rw[D7 a0];let ec:=uf en a0;show Zp (.mk fr eT eH (ec▸k1) (ec▸k2) (ec▸v1) (ec▸v2))
   .rw[Jl a0];let ec:=Bo r.vl.up en a0;let c2:n∈cur B J i:=zm en;let cu:(cur B J i).Pairwise (·<·):=r.vl.up.sublist (FU _ _ _);let#[tp,us,x1,_]:=r.tw n (yY en);let x2:=hH.2 n (yY en);let me:∀{j:Nat},j∈cur B J (i+1)->j∈cur B J i/\(mY (j:Int):ZQ)≠mY (n:Int):=fun{j} h=>by
     rw[ec] at h;let#[h1,h2]:=(KC cu).mp h;show#[h2,λz=>h1 (by have:=Sum.inl.inj z;lia)]
    show YA #[1,g,Z,.inl #[kt,Rd.of eT],1,kt,mY (n:Int),_,eT,Z,(v1 n c2)|||x1,?_];let a8:upd H4 g (.dK (Wd kt (mY (n:Int)))) dH\.dK kh:=#v[ZM dd.symm,eH]
    exists 1,dH,Z,.inl #[kh,Rd.of a8],1,kh,mY (n:Int),_,a8,Z,(v2 n c2)|||x2;show .mk (λc o n1 n2 e=>#v[ZM n2,ZM n1,fr c o n1 n2 e]) (by rw[ZM dd,ZP]) ZP ?_ ?_ (λj hj=>?_) λj hj=>?_
    .rwa[ec,Jc (OI cu) k1]
    .rwa[ec,Jc (OI cu) k2]
    .rwa[Ii (me hj).2,v1 j (me hj).1]
    .rwa[Ii (me hj).2,v2 j (me hj).1]
  .rintro σ H4 ⟨fr,eT,eH,k1,k2,v1,v2⟩;rename_i k5 kt kh
   let el:↑(iN B)=↑B:=zX _;let ec:cur B J ↑(iN B)=c9:=by
    rwa[el,xi r.vl c5 sl kp c6 I.f (λc hc z=>(I.h c hc z).elim id λy=>(by cases y)) λi hi b hb=>(I.c i hi b hb).elim id λy=>(by cases y)]
   rw[ec] at k1 k2 v1 v2;let a3:∀ c o,c≠g->c≠dH->H c\o->H4 c\o:=λc o n1 n2 e=>fr c o n1 n2 (C c o e);let tu:YI H H4:=λc xs e=>a3 c _ (ZE e r.dict) (ZE e S) e;show k H4 kt kh a3 #[eT,c5,k1,r.len,λi hi=>?_] eH #[k2,λi hi=>(v2 i hi)|||hH.2 i (sl.subset hi)];let#[tp,us,e1,e2,e3,e4,e5]:=r.tw i (sl.subset hi);show#[tp,us,(v1 i hi)|||e1,tu _ _ e2,a3 _ _ (ZE e3 r.dict) (ZE e3 S) e3,λz=>(e4 z).mono tu _ _,e5]
 .rw[sT] at z;subst z;let c7:(!(iN (rest++[b])).isEmpty)=X':=by simp[iN]
  rw[c7];show YA #[_,λ_ _ z=>z,?_];let rb:=I.t b ⋯
  let bl:b∈B:=rb.sub r.vl λi h=>h.1;let eI:iN (rest++[b])=iN rest++[.int (b:Nat)]:=by simp[iN]
  exists 1,.inl #[Z,_,ZH.of M],Y,iN (rest++[b]),.int (b:Nat),Z,Z,M,by rw[eI];simp
  let c4:G≠Y:=ZE L M;let W:upd N Y (.lst (iN (rest++[b])).dropLast) Y\.lst (iN rest):=by rw[ZP,eI,sW]
  let v:upd N Y (.lst (iN (rest++[b])).dropLast) G\.dK (Ve J):=#v[ZM c4,L]
  let C:ZC H (upd N Y (.lst (iN (rest++[b])).dropLast)):=UA s2 a5;generalize upd N Y (.lst (iN (rest++[b])).dropLast)=H3 at W v C⊢;exists 2,G,1,Zh.k (k:=mY (b:Int)) v,_,Z;by_cases O:b∈J
  .rwa[D7 O,Zp #[_,by rw[zG];show Nat.add_lt_add_right (yA _) _,.mk C a5 W v (I.old O)]]
  .rw[Jl O];let lf:=I.n;let lm:=I.m;let lr:↑(rest++[b])=rest.length+1:=zG;show YA #[2,G,1,Y3.k (k:=mY (b:Int)) v (YM (by unfold Ve;rw[zX];lia)),?_]
   rw[AW O];let X:upd H3 G (.dK (Ve (J++[b]))) Y\.lst (iN rest):=#v[ZM c4.symm,W]
   let U:upd H3 G (.dK (Ve (J++[b]))) G\.dK (Ve (J++[b])):=ZP;let s4:ZC H (upd H3 G (.dK (Ve (J++[b])))):=UA C D;generalize upd H3 G (.dK (Ve (J++[b])))=H4 at X U s4⊢;let#[tp,us,e1,e2,e3,e4,e5]:=(r.same s4).tw b bl;let g1:Zh H4 g (.int (b:Nat)) (Z' !tp):=e1▸Zh.k (k:=mY (b:Int)) (s4 _ _ r.dict);let bt:=r.vl.lt b bl;let#[I2,mm]:=I.new O bl (wk hw bt);show#[2,g,!tp,Z,g1,.inr (.inl #[tp,_,(0),_,Z,Z,Zc.of e2,Z,?_])];exists Z,_,Z;by_cases h0:(nz ts b).h=0
   .let ek:ng (V.str (ny (nz ts b))=V.str "stem")=false:=aK (by unfold ny;rw[aP h0];decide)
    rw[ek];rw[((hw b _ (Yo bt)).leaf h0).1,xD] at I2 mm;show Zp #[_,mm,.mk s4 a5 X U I2]
   .let ek:ng (V.str (ny (nz ts b))=V.str "stem")=X':=aM (by unfold ny;rw[aO h0])
    rw[ek];let ew:=e5 h0;subst ew;let i5:=I2.m;show YA #[3,g,!tp,Z,g1,.inr (.inl #[tp,_,(1),_,Z,Z,Zc.of e2,Z,_,_,Z,.inl (ZH.of e3),λq1 n1=>?_])];let g4:=Zf n1 (.lst (iN (nz ts b).bs));exists Y,q1,iN rest,1,Z,g4 _ _ X,ZP,yJ (YM (by rw[zX,zX,<-zG];lia))
    intro q2 n2;let g5:=Zf n2 (.lst (iN rest++iN (nz ts b).bs));let a9:=g4|||g5;let e9:=ZC.free (s4|||g4) n2;show#[_,mm,.mk (s4|||a9) e9 (by rw[ZP,<-yT]) (a9 _ _ U) I2]
def FW{c:ba}{d:jq}{b:Nat}{a:Nat->Nat}(h:Vs c d a)(e:b∈d):Vs (Zo c (.inl (b:Int)) (.int (((a b:Nat):Int)+1))) d (PZ a b):=by
 exists #v[Jo (h.2 b e),h.1]
 intro i f;rw[PX];by_cases z:i=b
 .subst z;rw[aP rfl,show PZ a i i=a i+1 from aP rfl];rfl
 .rwa[aO (λy=>z (Yq.mp y)),show PZ a b i=a i from aO z,h.2 i f]
def Mc{f g:aj}{H j:Hp}{S d u m l:aj}{x:js}{w:jq}{r:Nat->jq}{t:Nat->Nat}{q:jy}{h I J:ba}{v:jf}(R:Z7 f g H S d u x w r t q h v)(A:H m\.dK I)(a:H l\.dK J)(F:d≠m)(G:d≠l)(s:∀ c o,c≠m->c≠l->H c\o->j c\o):Z7 f g j S d u x w r t q h v:=by
 let#[#[K,B],M,C]:=id R.sh;let k:∀ c o,(∀ y,o≠.dK y)->H c\o->j c\o:=λc o n e=>s c o (ZE e A (n _)) (ZE e a (n _)) e;show R.frame (λb N e=>k _ _ #[] e) (λo e=>k _ _ (by let a:=e.symm|||B;cases a;intro _ z;cases z) e) (λo e=>s _ _ F G e) (λo e=>k _ _ (by let a:=e.symm|||C;cases a;intro _ z;cases z) e) λi p=>?_
 let#[L,E]:=(R.tw i p).tw.self;let#[y,D,_]:=(R.tw i p).things;show#[λo e=>k _ _ (by let a:=e.symm|||E;cases a;intro _ z;cases z) e,λo e=>k _ _ (by let a:=e.symm|||D;cases a;intro _ z;cases z) e,λo e=>k _ _ (by let a:=e.symm.trans (R.tw i p).tw.above;cases a;intro _ z;cases z) e]
theorem Wl.all{p:jr}{a c:aj}{H:Hp}{S d s:aj}{k:js}{g:jq}{o:Nat->jq}{l:Nat->Nat}{n:jy}{f:ba}{t:jf}(U:Wl p a c H S d s k g o l n f t):∀ i∈g,VF k (λj=>j∈g/\0<l j) i:=λi q=>by
 show VF.all (λj r b e=>?_) U.vl U.live _ i (yA _) q;let m:=U.wf j _ (Yo (U.vl.lt j r));by_cases z:(nz k j).h=0
 .erw[(m.leaf z).1] at e
 .have:=((m.stem z).2.2.1 b e).2
  lia
structure Ug(ts:js)(lv:jq)(ho:Nat->Nat)(lv':jq):Prop where
 vl:Lv ts lv'
 sl:lv'.Sublist lv
 kp:∀ c∈lv,0<ho c->c∈lv'
 all:∀ i∈lv',VF ts (λj=>j∈lv'/\0<ho j) i
def B5{g:js}{e:jq}(n:Lv g e)(o:Nat->Nat):∃ l,Ug g e o l:=by
 classical
 let' A:Nat->Prop:=λj=>j∈e/\0<o j
 let f:∀ i,i∈e.filter (λi=>ng (VF g A i))↔VF g A i:=λi=>by
  rwa[yM,decide_eq_true_iff,#[λh=>h.2,λh=>#[h.sub n λj q=>q.1,h]]]
 let m:(e.filter λi=>ng (VF g A i)).Sublist e:=uX;exists _,#[λi d=>n.lt i (m.subset d),λi d b k=>(f b).mpr (.step ((f i).mp d) k),n.up.sublist m],m,λc p z=>(f c).mpr (.held #[p,z]);intro i d;let r:=(f i).mp d;clear d
 induction r with
 |held a=>show .held #[(f _).mpr (.held a),a.2]
 |step r k s=>show .step s k
def Ug.one{k:js}{g e f:jq}{d:Nat->Nat}(a:Ug k g d e)(b:Ug k g d f):e=f:=
 Gz a.vl.up b.vl.up λi=>#[λh=>(a.all i h).sub b.vl λj c=>b.kp j (a.sl.subset c.1) c.2,λh=>(b.all i h).sub a.vl λj c=>a.kp j (b.sl.subset c.1) c.2]
def Zr.sub{a:Pl}{m m':Md}{c:aj}(v:Zr a m c)(s:∀ i∈m'.lv,i∈m.lv):Zr a m' c:=#[v.1,v.2.1,v.2.2.1,v.2.2.2.1,v.2.2.2.2.1,v.2.2.2.2.2.1,λi b=>v.2.2.2.2.2.2 i (s i b)]
def Yx.sub{a:Pl}{m m':Md}{p:aj}(o:Yx a m p)(s:∀ i∈m'.lv,i∈m.lv):Yx a m' p:=#[o.lk,o.gl,o.tl,λi b=>o.tw i (s i b)]
def HE{X:Cx}:VW (Z8 P w) X E0:=λ_ _ _ _ _ _ _ h=>by
 let#[_,_,_,_,_,_,h]:=h;show h.elim
def V3(i:jr)(f g:aj)(H:Hp)(p:aj)(a:Pl)(m:Md)(Q:VK):Prop:=
 ∀(e:Hp)(b:Pl)(d:Md),(∀ c o,H c\o->Zr a m c->Zr b d c/\(c≠p->e c\o))->(∀ c o,H c\o->WI a m.lv c->WI b d.lv c)->(∀ h,H a.lk\.lst h->e b.lk\.lst h)->LS i f g e b d->ZJ e p->Yx b d p->X7 b=X7 a->↑d.ts<=↑m.ts+1->↑d.lv<=↑m.lv+1->Q (.bl true) e
def Qo{a:js}{s i:Nat}{t:ZK}(h:s<↑a):nz (a.set s t) i=if i=s then t else nz a i:=by
 unfold nz;rw[zV,zV];by_cases z:i=s
 .subst z;rw[aP rfl,tY h];rfl
 .rw[aO z,uU (Ne.symm z)]
def X6(a:js):jq->Option (js)
 |[]=>Z' a
 |s::r=>if nu (Zt a (nz a s).bs)=Y' then Y' else X6 (a.set s (YQ a (nz a s).bs)) r
def Zw.like{j:jr}{a ts':js}{i:Nat}{t:ZK}(h:Zw j a i t)(d:↑ts'=↑a)(e:∀ b∈t.bs,nz ts' b=nz a b):Zw j ts' i t:=by
 exists h.ne,h.up,h.inn,h.leaf;intro z;let#[k,m,f,n]:=h.stem z;exists k,m,λb g=>#[#v[d,(f b g).1],#v[e b g,(f b g).2]]
 rw[n];clear k m f n;have:∀ l:jq,(∀ b∈l,nz ts' b=nz a b)->(l.flatMap λb=>(nz a b).rows)=l.flatMap λb=>(nz ts' b).rows:=λl d=>by
  induction l with
  |nil=>rfl
  |cons b l p=>rw[xJ,xJ,d b ⋯,p λc o=>d c (zE _ o)]
 show this _ e
section
variable{gt:jr}{ts:js}{lv:jq}{ho:Nat->Nat}
def Jz{i j:Nat}(a:j∈lv)(h:i∈(nz ts j).bs):j∈abv ts lv i:=by
 unfold abv;show yM.mpr #[a,aM h]
def Zu.ne{i:Nat}{l:jq}(h:Zu ts lv ho i l):∃ r,l=i::r:=by
 cases h with
 |top=>show#[1]
 |up=>show#[1]
theorem yi{i j:Nat}{r:jq}(h:↑(abv ts lv i)+ho i=1)(e:abv ts lv i=j::r):abv ts lv i=[j]:=by
 rw[e] at h⊢;rw[yX] at h;have:r=[]:=ms.mp ()
 rw[this]
theorem Zu.facts(t:WF gt ts)(w:Lv ts lv){i:Nat}{l:jq}(h:Zu ts lv ho i l)(o:i∈lv):(∀ j∈l,j∈lv/\(nz ts i).h<=(nz ts j).h)/\(∀ j∈l.tail,(nz ts i).h<(nz ts j).h)/\l.Nodup/\∀ b∈l,∀ j∈lv,b∈(nz ts j).bs->j∈l.tail:=by
 induction h with
 |top a b=>
  exists λj g=>#v[zI.mp g,#[o,zY _]],λj g=>(by cases g),by simp
  intro c f j g k;rw[zI.mp f] at k;have:=Jz g k;erw[b] at this
 |up a b p u=>
  rename_i i j l r
  let g:=OG t w (i:=i) (j:=j) #v[b,zT]
  let#[m,x,q,s]:=u g.2;show#[λc f=>?_,λc f=>?_,xR.mpr #[λz=>?_,q],λc f d n k=>?_]
  .rcases zD.mp f with z|z
   .rwa[z,#[o,zY _]]
   .have:=m c z;show#[this.1,()]
  .have:=(m c f).2
   lia
  .have:=(m i z).2
   lia
  .rcases zD.mp f with z|z
   .rw[z] at k;have:=Jz n k;rw[yi a b] at this;rw[zI.mp this];let#[v,e]:=p.ne;rwa[e,zT]
   .let#[v,e]:=p.ne;have:=s c z d n k;rw[e] at this⊢;show zE _ this
structure Vu(gt:jr)(ts:js)(lv:jq)(n:Nat)(cur:js)(done rest:jq):Prop where
 len:cur.length=↑ts
 hh:∀ i,(nz cur i).h=(nz ts i).h
 sh:∀ i,i≠n->(nz cur i).bs=(nz ts i).bs
 nb:∀ b∈(nz cur n).bs,b∈lv/\(nz ts b).h<(nz ts n).h
 up:∀ j∈rest,j≠n/\(nz ts n).h<(nz ts j).h
 ok:∀ i∈lv,i∉rest->Zw gt cur i (nz cur i)
 old:∀ i,i∉done->nz cur i=nz ts i
theorem Nj(m:WF gt ts)(f:Lv ts lv){n:Nat}{rest:jq}(r:Zu ts lv ho n (n::rest))(l:n∈lv){t:ZK}(v:t.h=(nz ts n).h)(u:∀ b∈t.bs,b∈lv)(e:Zw gt ts n t):Vu gt ts lv n (ts.set n t) [n] rest:=by
 let d:=f.lt n l;let g:∀ i,nz (ts.set n t) i=if i=n then t else nz ts i:=λi=>Qo d
 let#[A,p,q,s]:=r.facts m f l;let o:∀ b∈t.bs,(nz ts b).h<(nz ts n).h:=λb z=>by
  by_cases y:t.h=0
  .erw[(e.leaf y).1] at z
  .have:=((e.stem y).2.2.1 b z).2
   lia
 let x:n∉t.bs:=λz=>by have:=o n z;lia
 show#[wG,λi=>?_,λi z=>by rw[g,aO z],λb a=>?_,λj k=>#[λz=>(xR.mp q).1 (z▸k),p j k],λi c w=>?_,λi c=>?_]
 .rw[g];by_cases z:i=n
  .rwa[aP z,z,v]
  .rw[aO z]
 .rw[g,aP rfl] at a;show#[u b a,o b a]
 .rw[g];by_cases z:i=n
  .rw[aP z,z];show e.like wG λb a=>by rw[g,aO (show ¬ b=n from λy=>x (y▸a))]
  .rw[aO z];show(m i _ (Yo (f.lt i c))).like wG λb a=>?_;rw[g,aO];intro y;show w (s n zT i c (y▸a))
 .rw[g,aO (λz=>c #v[z,zT])]
theorem Vu.branches(g:WF gt ts)(e:Lv ts lv){n:Nat}{cur:js}{a rest:jq}{s:Nat}(p:Vu gt ts lv n cur a (s::rest))(r:Zu ts lv ho s (s::rest))(d:s∈lv)(k:(nz ts s).h≠0):∀ b∈(nz cur s).bs,b∈lv/\b∉s::rest/\Zw gt cur b (nz cur b):=λb c=>by
 rw[p.sh s (p.up s zT).1] at c;let f:=e.cl s d b c;let#[j,_,_,_]:=r.facts g e d;let l:=((g s _ (Yo (e.lt s d))).stem k).2.2.1 b c;let i:b∉s::rest:=λz=>by
  have:=(j b z).2
  lia
 show#[f,i,p.ok b f i]
theorem Vu.over(h:WF gt ts)(j:Lv ts lv){n:Nat}{cur:js}{a rest:jq}{s:Nat}(p:Vu gt ts lv n cur a (s::rest))(r:Zu ts lv ho s (s::rest))(g:s∈lv):∀ b∈s::rest,∀ i∈lv,b∈(nz cur i).bs->i∈rest:=λb c i f d=>by
 let#[k,l,m,e]:=r.facts h j g;by_cases z:i=n
 .rw[z] at d;have:=(p.nb b d).2;have:=(p.up b c).2
  lia
 .rw[p.sh i z] at d;show e b c i f d
theorem Iv(q:WF gt ts)(f:Lv ts lv){n:Nat}{cur:js}{d rest:jq}{s:Nat}(p:Vu gt ts lv n cur d (s::rest))(r:Zu ts lv ho s (s::rest))(m:s∈lv)(t:(nz ts s).h≠0){L:YR}(M:nu (Zt cur (nz cur s).bs)\L):
  L=Z6 (YQ cur (nz cur s).bs)/\Vu gt ts lv n (cur.set s (YQ cur (nz cur s).bs)) (d++[s]) rest:=by
 let o:=p.branches q f r m t;let B:=(p.up s zT).1;let#[I,X,J,K,D,A,v]:=Do (λb a=>(o b a).2.2) M;let R:s<cur.length:=#v[p.len,f.lt s m]
 let g:∀ i,nz (cur.set s (YQ cur (nz cur s).bs)) i=if i=s then YQ cur (nz cur s).bs else nz cur i:=λi=>Qo R
 let#[T,U,V,W]:=r.facts q f m;let C:(YQ cur (nz cur s).bs).h=(nz ts s).h:=by
  obtain⟨b,a⟩:∃ b,b∈(nz cur s).bs:=sI ()
  let H:=D b a;rw[p.hh b] at H;rw[p.sh s B] at a;let S:=(((q s _ (Yo (f.lt s m))).stem t).2.2.1 b a).2
  lia
 show#[I,(wG)|||p.len,λi=>?_,λi y=>?_,λb a=>?_,λj O=>p.up j (zE _ O),λi k F=>?_,λi k=>?_]
 .rw[g];by_cases z:i=s
  .rwa[aP z,z,C]
  .rwa[aO z,p.hh i]
 .rw[g];by_cases z:i=s
  .rwa[aP z,z,p.sh s B]
  .rwa[aO z,p.sh i y]
 .rw[g,aO (Ne.symm B)] at a;show p.nb b a
 .let e:∀ b,b≠s->nz (cur.set s (YQ cur (nz cur s).bs)) b=nz cur b:=λb n=>by rw[g,aO n]
  let G:∀ b∈(nz cur s).bs,b≠s:=λb a z=>(o b a).2.1 #v[z,zT]
  rw[g];by_cases z:i=s
  .rw[aP z];show#[v,A,λQ w=>?_,λy=>mZ y #v[C,t],λ_=>#[J,K,λb a=>#[?_,?_],?_]]
   .let#[b,u,x]:=wL.mp w;show(o b u).2.2.inn Q x
   .rwa[wG,p.len,f.lt b (o b a).1]
   .rwa[e b (G b a),D b a]
   .change Xz cur (nz cur s).bs=_;unfold Xz;have:∀ l:jq,(∀ b∈l,b≠s)->(l.flatMap λb=>(nz cur b).rows)=l.flatMap λb=>(nz (cur.set s (YQ cur (nz cur s).bs)) b).rows:=λl E=>by
     induction l with
     |nil=>rfl
     |cons b l P=>rw[xJ,xJ,e b (E b ⋯),P λc N=>E c (zE _ N)]
    show this _ G
  .rw[aO z];show(p.ok i k (λy=>(zD.mp y).elim z F)).like (wG) λb a=>e b λy=>?_;rw[y] at a;show F (p.over q f r m s zT i k a)
 .rw[g,aO (λz=>k (by rw[z];simp))]
  show p.old i λz=>k (yG _ z)
def Xw(lv:jq)(t:ZK)(ts:js):js:=(zP ↑ts).map λi=>if i∈lv then nz ts i else t
def YY{t:ZK}:↑(Xw lv t ts)=↑ts:=by unfold Xw;simp
def Cl{t:ZK}{i:Nat}(h:i<↑ts):nz (Xw lv t ts) i=if i∈lv then nz ts i else t:=by
 unfold nz Xw;rw[zV,zO,List.getElem?_range h];rfl
def Ld{t:ZK}{i:Nat}(h:i<↑ts)(a:i∈lv):nz (Xw lv t ts) i=nz ts i:=by rw[Cl h,aP a]
def CN{t:ZK}(c:Lv ts lv)(j:∀ i∈lv,Zw gt ts i (nz ts i))(h:∀ a i,Zw gt a i t):WF gt (Xw lv t ts):=λi u e=>by
 let g:i<↑(Xw lv t ts):=(yO.mp e).1;let d:=yx e;rw[YY] at g;rw[Cl g] at d;rw[<-d];by_cases z:i∈lv
 .rwa[aP z,(j i z).like YY λb f=>Ld (c.lt b (c.cl i z b f)) (c.cl i z b f)]
 .rwa[aO z,h _ _]
def Kd{t:ZK}(c:Lv ts lv):Lv (Xw lv t ts) lv:=#[λi a=>#v[YY,c.lt i a],λi a b d=>by rw[Ld (c.lt i a) a] at d;show c.cl i a b d,c.up]
def Ed{a:js}(e:∀ i∈lv,(nz a i).bs=(nz ts i).bs)(i:Nat):abv a lv i=abv ts lv i:=by
 unfold abv;show uP λj b=>by rw[e j b]
def Vu.vl(d:Lv ts lv){n:Nat}{cur:js}{a rest:jq}(p:Vu gt ts lv n cur a rest):Lv cur lv:=#[λi c=>#v[p.len,d.lt i c],λi c b e=>by
 by_cases y:i=n
 .show(p.nb b (y▸e)).1
 .show d.cl i c b (by rwa[<-p.sh i y,e]),d.up]
def Dq{h:jK}(g:WZ h)(j:(h.map (·.1)).Sublist gt):∀ f i,Zw gt f i (Y9 h):=λf i=>by
 let#[a,b,c,d,e]:=Cb (ts:=f) g j;show#[a,b,c,d,e]
def Lg(l:WF gt ts)(o:Lv ts lv):∀{n:Nat}{rest f:jq}{cur d:js}{s:Nat},Zu ts lv ho s (s::rest)->s∈lv->(nz ts s).h≠0->Vu gt ts lv n cur f (s::rest)->X6 cur (s::rest)\d->Vu gt ts lv n d (f++s::rest) []:=by
  intro n rest
  induction z:rest.length using Nat.strongRecOn generalizing n rest with|_ y H=>
  intro f cur d s r w u p e;rw[X6] at e;split at e
  .cases e
  .rename_i c
   cases g:nu (Zt cur (nz cur s).bs) with
   |none=>show mZ g c
   |some L=>
    let#[_,m]:=Iv l o p r w u g
    cases r with
    |top a b=>
     erw[X6] at e;show m
    |up a b k=>
     rename_i j q
     let#[x,t]:=k.ne;subst t;let v:=OG l o (i:=s) (j:=j) #v[b,zT]
     have:=H _ (by subst z;show yA _) Z k v.2 () m e
     rw[wR] at this;show this
end
abbrev JN:Stmt:=XR (top 35) 24
abbrev Hl:Stmt:=XR (top 35) 25
abbrev kI(i:Nat):ZQ:=mY (i:Int)
theorem Ra{i j:Nat}(h:i≠j):kI i≠kI j:=λz=>h (by have:=Sum.inl.inj z;lia)
def Zu.drop{f:js}{d:jq}{c:Nat->Nat}{i:Nat}{l:jq}(h:Zu f d c i l):∀(k s:Nat),l[k]?\s->Zu f d c s (l.drop k):=by
 induction h with
 |top a b=>
  intro k s e
  cases k with
  |zero=>cases e;show .top a b
  |succ k=>simp at e
 |up a b g j=>
  intro k s e
  cases k with
  |zero=>cases e;show .up a b g
  |succ k=>show j k s (by simpa using e)
structure PQ(H:Hp)(cur:js)(done:jq)(lkv:ba):Prop where
 keys:lkv.map (·.1)=done.map kI
 at_:∀ i∈done,∃ v,Z2 lkv (kI i)\v/\YB H (Z6 (nz cur i)) v
theorem PQ.no{H:Hp}{cur:js}{a:jq}{c:ba}(h:PQ H cur a c){b:Nat}(d:b∉a):Z2 c (kI b)=Y':=by
 cases z:Z2 c (kI b) with
 |none=>rfl
 |some v=>
  have:=Ng z;rw[h.keys] at this;let#[i,f,e]:=zL.mp this;show mZ (show b∈a by
   have:i=b:=by have:=Sum.inl.inj e;lia
   rwa[<-this,f]) d
def PQ.mono{H c:Hp}{cur:js}{a:jq}{b:ba}(h:PQ H cur a b)(m:YI H c):PQ c cur a b:=#[h.keys,λi d=>by
 let#[v,e,k]:=h.at_ i d;show#[v,e,k.mono m]]
def PQ.push{H:Hp}{cur b:js}{a:jq}{d:ba}{s:Nat}{v:V}(h:PQ H cur a d)(g:s∉a)(e:∀ i∈a,nz b i=nz cur i)(j:YB H (Z6 (nz b s)) v):PQ H b (a++[s]) (Zo d (kI s) v):=by
 exists by rw[Ha v (h.no g),yT,h.keys,yT];rfl
 intro i f;rw[PX];by_cases z:i=s
 .subst z;rwa[aP Z,#[v,Z,j]]
 .rw[aO (Ra z)];let c:i∈a:=(zC.mp f).elim id λy=>mZ (zI.mp y) z;rwa[e i c,h.at_ i c]
inductive Xa(gt:jr)(jh ji CS:aj):Sp
 |mk{S d lk r:aj}{ts:js}{lv:jq}{av:Nat->jq}{ho:Nat->Nat}{as:jy}{kvs:ba}{ls:jf}{n:Nat}{rest:jq}{v:V}{t:ZK}{H:Hp}{Q:VK}{E:XK}:
  Z7 jh ji H S d lk ts lv av ho as kvs ls->WF gt ts->Lv ts lv->n∈lv->Zu ts lv ho n (n::rest)->rest.length<=800->H r\.lst (iN (n::rest))->t.h=(nz ts n).h->(∀ b∈t.bs,b∈lv)->Zw gt ts n t->YB H (Z6 t) v ->
  (X6 (ts.set n t) rest=Y'->∀ H',ZC H H'->E (!CS) Y' H') ->
  (∀ cur,X6 (ts.set n t) rest\cur->∀(H':Hp)(D:aj)(lkv:ba),ZC H H'->H D=Y'->H' D\.dK lkv->PQ H' cur (n::rest) lkv->Q (!D) H')->Xa gt jh ji CS [!S,!r,v] H Q E
abbrev Au:jv:=["self","road","label","labels","stem","branches"]
theorem Uv:ZA Au Ti (Zd JN):=Z4
inductive DZ(gt:jr)(S r D q:aj)(n:Nat)(v:V)(ts:js)(lv rest:jq)(t:ZK)(H:Hp):Nat->Tw.St->Hp->Prop
 |mk{k:Nat}{H2:Hp}{x y:jg}{cur:js}{lkv:ba}:ZC H H2->H2 q\.lst (iN rest)->H2 D\.dK lkv->Vu gt ts lv n cur (n::rest.take k) (rest.drop k)->X6 (ts.set n t) rest=X6 cur (rest.drop k)->PQ H2 cur (n::rest.take k) lkv ->
  DZ gt S r D q n v ts lv rest t H k [Z' !S,Z' !r,Z' v,Z' !D,x,y] H2
theorem uy{gt:jr}(F:Zj K "labels_up" "Shelf.labels_up" JN f fd)(L:Yh K mg jh ji)(DT:-ZB ZZ 1 jh "twig_of" V' (Ze jh))(DL:-ZB ZZ 2 jh "label" V' (XW jh ji λtg _ _=>tg))(DO:Qk P w K mg kF 9 "label_over" Tz (WG CS)):
  ZL P w K mg kF (Z8 P w) 10 f fd Ti (Xa gt jh ji CS):=by
 show F.kD Uv λi0 A e7 s H vs Q E hr h=>?_;let#[R,hw,vl,hn,rd,e9,c0,th,tb,e8,hv,k1,k2]:=h;rename_i S d lk r l lv av ho as c2 ls n rest v t
 let nd:=Uv.nd;let hu:=VN hr;let e3:=hr.mono (yR Z:1<=9)
 let e4:=hr.mono (yR Z:2<=9)
 intro Xc;show#[_,ZO (NE (i:=3) nd Z (Or.inr Z) (vn (BO (Zk K (pv 1) ZN) (pv 2) BK) Z Z (by intro z;cases z) (by decide)))
  (ZO (Vj MJ Z (Wa (Lk Kq (pv 1) (Lm ZN) Ly)) (Yf 4 nd)
   (ZO (Zs 5 nd (Xn (YV (E:=E0) (pv 0) L.cS DT e3 YX (ZV (pv 4))) Z))
   (ZU (QK hu (pv 3) (pv 4) (Hh (E:=E) DO hr (U9 VD λ_ _ _ h=>h) (ZV (QS [3,0] ["labels","self"] Z (Wa (pv 5)) (λ_ _ _ _ _=>Ur) (λ_ _ _ _ _=>sj hu (pv 1) (pv 0) (YV (E:=E0) (pv 2) L.cS DL e4 YX (ZV (pv 0))) #[Z,Z,Z,Z]) #[Z,.inl Z,Z,Z,.inl Z,Z,trivial]))) Z))))
  (ZU (Zl (pv 3)))),?_]
 intro D nD;let g1:=Zf nD (.dK []);show#[1,.inl #[r,_,(0),.int (n:Nat),Z,Z,ZH.of (g1 _ _ c0),Xu (j:=0) Z,1,?_]];exists ZP,[(kI n,v)],Z,(by change 1<=15;lia)
 let e0:N9 [] [(kI n,v)]=[(kI n,v)]:=rfl;rw[e0,Mv];let s0:ZC H (upd H D (.dK [(kI n,v)])):=Zf nD _;let a0:upd H D (.dK [(kI n,v)]) D\.dK [(kI n,v)]:=ZP;generalize upd H D (.dK [(kI n,v)])=H1 at s0 a0⊢;exists 2,r,1,ZH.of (s0 _ _ c0);intro q nq;let a3:OO (iN (n::rest)) (Z' 1) Y'=iN rest:=by
  unfold OO;let e1:HT.sIx ↑(iN (n::rest)) 0 (Z' 1)=1:=by
   unfold HT.sIx;simp[iN]
   try lia
  let e2:HT.sIx ↑(iN (n::rest)) ↑(iN (n::rest)) Y'=↑(iN (n::rest)):=rfl;rw[e1,e2];simp[iN];show yQ ⋯
 rw[a3];let g2:=Zf nq (.lst (iN rest));let hq:upd H1 q (.lst (iN rest)) q\.lst (iN rest):=ZP;let a5:=g2 _ _ a0;let s1:=s0|||g2;let qD:q≠D:=λz=>by erw[z,a0] at nq
 let c1:=hv.mono (ZC.tups s1);generalize upd H1 q (.lst (iN rest))=H2 at g2 hq a5 s1 c1⊢;let#[f1,f2,f3,f4]:=rd.facts hw vl hn;let p0:=Nj hw vl rd hn th tb e8;let gn:nz (l.set n t) n=t:=by rw[Qo (vl.lt n hn),aP rfl]
 show#[q,Z,#[_,ZH.of hq],PM (K:=K) (a:=q) (xs:=iN rest) (DZ gt S r D q n v l lv rest t H) (.mk s1 hq a5 p0 Z #[Z,λi U=>?_]) (λi σ H3 _ C=>by let#[_,V,_]:=C;show ZH.of V) ?_ ?_]
 .rwa[zI.mp U,gn,#[v,by rw[Ue rfl],c1]]
 .rintro k u σ H3 a1 ⟨s3,V,T,p,ec,hb⟩;unfold iN at a1;rw[zO] at a1;let#[g,es,rfl]:=yB.mp a1;rename_i x y cur m
  let hk:k<rest.length:=(yO.mp es).1;let eg:rest[k]=g:=(yO.mp es).2;let ed:rest.drop k=g::rest.drop (k+1):=by rw[wZ hk,eg]
  let et:rest.take (k+1)=rest.take k++[g]:=by rw[yI,es];rfl
  let c4:Zu l lv ho g (g::rest.drop (k+1)):=by
   have:=rd.drop (k+1) g #v[es]
   rw[List.drop_succ_cons,ed] at this;show this
  let sm:g∈rest:=yY es;let o:=(f1 g (zE _ sm)).1;let h0:(nz l g).h≠0:=by have:=f2 g sm;lia
  rw[ed] at p ec;let R3:=R.same s3;let#[dS,hS]:=R3.sh.self;let W:=R3.tw g o;let#[dt,hx]:=W.tw.self;let#[us,O,_,Y]:=W.things;let Y:=Y h0;subst Y;let N:(nz l g).bs=(nz cur g).bs:=(p.sh g (p.up g zT).1).symm;let br:=p.branches hw vl c4 o h0;let b4:↑(nz l g).bs<=4:=((hw g _ (Yo (vl.lt g o))).stem h0).2.1;exists 1,S,dS,1,hS,Z,1,S,d,lk,↑l,c2,ls,(g:Int),.ref as[g]!.x,Z,R3.sh,R3.val g o,as[g]!.x,ji,dt,_,.ref as[g]!.th,Z,hx,L.cT,L.nth,Z;exists 1,as[g]!.th,Z,#[_,ZH.of O];show Uu (n:=↑(nz l g).bs) (λi z=>(iN (nz l g).bs)[i]?\z) (λJ i ys B=>ZC H3 B/\H3 J=Y'/\Yc B ((Zt cur (nz l g).bs).take i) ys) (YM ())
   (λJ i ys B U C=>#[_,.int ((nz l g).bs[i]:Nat),ZH.of (C.1 _ _ O),by simp[iN,U]]) (λJ i ys B z H5 U C hy=>#[hy.1,hy.2 _ (ZH.of (C.1 _ _ O))]) (λJ ys B C=>#[_,ZH.of (C.1 _ _ O),by simp[iN]])
   (λJ a6=>#[Zf a6 _,a6,Z,λi u e=>by simp at e]) (λJ i ys B z M i1 U hz C RR c6=>?_) (λJ us B M C=>?_)
  .let#[s4,a2,G]:=C;let ez:z=.int ((nz l g).bs[i]:Nat):=by
    unfold iN at hz;rw[zO,zW U] at hz;show(zB.inj hz).symm
   subst ez;let a9:(nz l g).bs[i]∈(nz l g).bs:=yH _;let a4:(Zt cur (nz l g).bs)[i]?\Z6 (nz cur (nz l g).bs[i]):=by unfold Zt;rw[zO,zW U];rfl
   generalize (nz l g).bs[i]=b at a9 a4⊢;let#[bl,i3,_]:=br b (N▸a9);let R4:=R3.same s4;let#[c5,c7]:=R4.sh.self;let Wb:=R4.tw b bl;let a7:=s4 _ _ T;exists 1,D,Z,.inl #[_,.inl a7],2,S,c5,1,c7,Z,1,S,d,lk,↑l,c2,ls,(b:Int),_,_,_,_,_,1,#[R4.sh,R4.val b bl,Wb.tw],Z2 m (kI b),Zh.k (k:=kI b) a7;let tD:∀ vv,YI B (upd B J (.lst (ys++[vv]))):=λvv c xs e=>#v[ZM (ZE e M),e]
   let e6:YB B (Z6 (nz cur b)) ((Z2 m (kI b)).getD (.ref as[b]!.tg)):=by
    by_cases c:b∈n::rest.take k
    .let#[v',e',k']:=hb.at_ b c;rwa[e',k'.mono (ZC.tups s4)]
    .rwa[hb.no c,p.old b c,Wb.tag]
   show c6 _ B M #[UA s4 a2,a2,?_];rwa[yI,a4,(G.snoc e6).mono (tD _)]
  let#[s4,a2,G]:=C;let ll:↑(Zt cur (nz l g).bs)=↑(nz l g).bs:=zX _;rw[yQ ()] at G
  show#[J,us,1,M,G,?_,by rw[G.1,ll];lia,λH5 s5=>#[λI=>?_,λLb vv I c9=>?_]]
  .rwa[N,HQ λb c8=>(br b c8).2.2]
  .show k1 ?_ H5 ((s3|||s4)|||s5);rw[ec,X6,aP (by rwa[<-N,I])]
  .rw[N] at I;let#[eL,p2]:=Iv hw vl p c4 o h0 I;let X:=s4|||s5;let a8:=X _ _ T;let e5:g<cur.length:=#v[p.len,vl.lt g o]
   let i2:↑m<=801:=by
    have:=congrArg xY hb.keys;rw[zX,zX,yX,wS] at this
    lia
   exists 2,D,1,Y3.k (k:=kI g) a8 (YM ())
   let sD:ZC H (upd H5 D (.dK (Zo m (kI g) vv))):=UA (s3|||X) nD;let tD:YI H5 (upd H5 D (.dK (Zo m (kI g) vv))):=λc xs e=>#v[ZM (ZE e a8),e]
   let c3:g∉n::rest.take k:=λz=>by
    let nn':=f3;let e2:n::rest=(n::rest.take k)++g::rest.drop (k+1):=by
     change n::rest=n::(rest.take k++g::rest.drop (k+1));rw[<-ed,wQ]
    rw[e2,uO] at nn';show nn'.2.2 g z g zT Z
   let gs:∀ i,nz (cur.set g (YQ cur (nz cur g).bs)) i=if i=g then YQ cur (nz cur g).bs else nz cur i:=λi=>Qo e5
   show .mk sD #v[ZM qD,X _ _ V] ZP (cur:=cur.set g (YQ cur (nz cur g).bs)) ?_ ?_ ?_
   .rwa[et,<-uH,p2]
   .rw[ec,X6,aO #v[I,λz=>nomatch z]]
   .rw[et,<-uH];show((hb.mono (ZC.tups X)).mono tD).push c3 (λi U=>?_) ?_
    .rw[gs,aO (show ¬ i=g from λz=>c3 (z▸U))]
    .rwa[gs,aP Z,<-eL,(Eb c9).mono tD]
 .rintro σ H3 ⟨s3,V,T,p,ec,hb⟩;rename_i x y cur m
  rw[show ↑(iN rest)=rest.length from zX _,yQ (zY _)] at hb;rw[show ↑(iN rest)=rest.length from zX _,sQ (zY _),X6] at ec;show#[1,k2 cur ec H3 D m s3 nD T hb]
theorem uq{d:aj}{o:aI}{a:ba}{g:nI}{r:TS}{D:Y1}{b:St}{H:Hp}(c:Nat->St->Hp->Prop)(u:c 0 b H)(z:∀ i b H,i<=↑a->c i b H->H d\.frz o (.dK a))(A:∀ i p b H,a[i]?\p->c i b H->g (kV p.1) b H λj l=>r { D with nx:=c (i+1),ct:=c (i+1),bk:=D.nx } j l)(v:∀ b H,c ↑a b H->D.nx b H):
  ∃ W:Nat->Nat->St->Hp->Prop,(∃ m,W 0 m b H)/\∀ i m b H,W i m b H ->
   ((LC d o a).stop i H/\D.nx b H)\/((LC d o a).go i H/\∃ N:St->Hp->Prop,(∀ h f,N h f->∃ n,n<m/\W (i+1) n h f)/\∀ x f,(LC d o a).yld i H x f->g x b f λj l=>r { D with nx:=N,ct:=N,bk:=D.nx } j l):=by
 exists λi m b H=>m=↑a-i/\i<=↑a/\c i b H,#[↑a,by simp,yZ _,u]
 rintro i m b H ⟨rfl,w,p⟩;let q:=z i b H w p;by_cases k:i<↑a
 .show .inr #[#[q,k],c (i+1),λh f B=>#[↑a-(i+1),(),Z,k,B],λx f y=>?_]
  let#[e,C,s,t]:=y;subst e t;show A i C b _ s p
 .let e:i=↑a:=()
  subst e;show .inl #[#[q,zY _],v b H p]
variable{jh ji CS CT CH CK CP CB:aj}
inductive MA(ji:aj)(H:Hp)(x:Nat->aj)(e d:Nat->V)(a:Nat->aj)(c:Nat->Nat)(i:Nat):Prop
 |mk(b:_)(_:H (x i)\.ins ji b (Xy (e i) (d i) (a i) (c i)))
inductive WD(jh ji:aj):Sp
 |mk{S d lk D:aj}{N:Nat}{kvs lkv:ba}{ls:jf}{rd:jq}{x ab:Nat->aj}{th tg vl:Nat->V}{ho:Nat->Nat}{H:Hp}{Q:VK}{E:XK}:
  XB jh H S d lk N kvs ls->(∀ i∈rd,Z2 kvs (kI i)\.ref (x i)/\x i≠S)->(∀ i∈rd,MA ji H x th tg ab ho i)->H D\.dK lkv->D≠d->lkv.map (·.1)=rd.map kI->rd.Nodup->(∀ i∈rd,Z2 lkv (kI i)\vl i)->(∀ i∈rd,∀ j∈rd,i≠j->x i≠x j) ->
  (∀ H',(∀ c o,(∀ i∈rd,c≠x i)->H c\o->H' c\o)->(∀ i∈rd,MA ji H' x th vl ab ho i)->Q .non H')->WD jh ji [!S,!D] H Q E
abbrev RG:jv:=["self","labels","number","twig"]
theorem Qt:ZA RG Tt (Zd Hl):=Z4
inductive Co(ji S D:aj)(o:aI)(lkv:ba)(rd:jq)(x ab:Nat->aj)(th tg vl:Nat->V)(ho:Nat->Nat)(H:Hp):Nat->Tw.St->Hp->Prop
 |mk{k:Nat}{y z:jg}{H2:Hp}:(∀ c o,(∀ i∈rd,c≠x i)->c≠D->H c\o->H2 c\o)->H2 D\.frz o (.dK lkv)->(∀ i∈rd.take k,MA ji H2 x th vl ab ho i)->(∀ i∈rd.drop k,MA ji H2 x th tg ab ho i) ->
  Co ji S D o lkv rd x ab th tg vl ho H k [Z' !S,Z' !D,y,z] H2
def yl(F:Zj K "give_labels" "Shelf.give_labels" Hl f fd)(L:Yh K mg jh ji)(DT:-ZB ZZ 1 jh "twig_of" V' (Ze jh)):-ZL ZZ 2 f fd Tt (WD jh ji):=by
 show F.ko Qt λa9 A a8 s H vs Q E hr h=>?_;let#[R,hv,hl,I,a6,hk,a7,a3,hx,k]:=h;rename_i S d lk D N a5 m ls rd x ab th tg vl ho
 let nd:=Qt.nd;let hu:=VN hr;let ll:↑m=↑rd:=by have:=congrArg xY hk;simpa using this
 intro Xc;show#[_,ZU (F1 (Vj PassesOwn.never Z (Go (pv 1)) (Yf 2 nd)
  (ZO (Zs 3 nd (YV (E:=E0) (pv 0) L.cS DT hr YX (ZV (pv 2))))
  (ZU (QG (pv 3) (WT hu (pv 1) (pv 2)) Z))))),?_]
 let#[#[dS,hS],hd,u]:=R;let T:∀ i∈rd,∃ g W,H (x i)\.ins ji g W:=λi a=>by
  let#[g,e]:=hl i a;show#[g,_,e]
 let nD:∀ i∈rd,x i≠D:=λi a=>by
  let#[g,W,e]:=T i a;show ZE e I
 exists D,m,I,1,D,m,Z,I;intro o;show uq (Co ji S D o m rd x ab th tg vl ho H) (.mk (λc Y _ n e=>#v[ZM n,e]) ZP (λi a=>by simp at a) (λi a=>?_)) (λi σ H2 _ hP=>by let#[_,h2,_,_]:=hP;show h2) ?_ ?_
 .let#[g,e]:=hl i a;show#[g,#v[ZM (nD i a),e]]
 .rintro i p σ H2 hp ⟨G,r,t,B⟩;let a:i<↑rd:=by rwa[<-ll,(yO.mp hp).1]
  let ep:p.1=kI rd[i]:=by
   have:=congrArg (λl=>l[i]?) hk;simp only[zO,hp,zW a] at this;show zB.inj this
  let er:rd[i]?\rd[i]:=zW a;let X:rd.drop i=rd[i]::rd.drop (i+1):=wZ a;let et:rd.take (i+1)=rd.take i++[rd[i]]:=by rw[yI,er];rfl
  let V:rd=rd.take i++rd[i]::rd.drop (i+1):=by rw[<-X,wQ]
  let J:rd[i]∈rd:=yH _;let v:=a7;rw[V,uO,xR] at v;rw[ep];generalize rd[i]=b at X et V J v⊢;let nS:∀ j∈rd,S≠x j:=λj q=>(hv j q).2.symm;let U:∀(c:aj)(o:HO),H c\o->(∀ C g W,o≠.ins C g W)->∀ j∈rd,c≠x j:=λc o e n j q=>by
   let#[g,W,e2]:=T j q;show ZE e e2 (n _ _ _)
  let M:=G _ _ nS (ZE hS I) hS;let a0:=G _ _ (U _ _ hd #v[]) a6.symm hd
  let a2:=G _ _ (U _ _ u #v[]) (ZE u I) u
  let#[g,a4]:=B b #v[X,zT]
  let a1:Zh H2 D (.int (b:Nat)) (Z' (vl b)):=.inl #[m,kI b,.inr #[o,r],Z,(a3 b J).symm];exists 1,S,dS,1,M,Z,1,S,d,lk,N,a5,ls,(b:Int),.ref (x b),Z,#[#[dS,M],a0,a2],(hv b J).1;exists 2,D,vl b,Z,a1,1,x b,ji,g,1,a4,L.cT,L.ntg,yR Z;let ne:∀ j∈rd,j≠b->x j≠x b:=λj q n=>hx j q b J n;show .mk (λc Y n1 n2 e=>#v[ZM (n1 b J),G c Y n1 n2 e]) #v[ZM (nD b J).symm,r] (λj q=>?_) (λj q=>?_)
  .rw[et] at q;by_cases z:j=b
   .subst z;show#[g,ZP]
   .let O:j∈rd.take i:=(zC.mp q).elim id λy=>mZ (zI.mp y) z;let#[dj,ej]:=t j O;show#[dj,#v[ZM (ne j (List.mem_of_mem_take O) z),ej]]
  .let z:j≠b:=λz=>v.2.1.1 (z▸q);let#[dj,ej]:=B j #v[X,zE _ q]
   show#[dj,#v[ZM (ne j (List.mem_of_mem_drop q) z),ej]]
 .rintro σ H2 ⟨G,r,t,B⟩;rw[ll,yQ (zY _)] at t;show#[o,m,r,k _ (λc Y n e=>?_) λi a=>?_]
  .by_cases z:c=D
   .subst z;rw[ZP,<-e,I]
   .rwa[ZM z,G c Y n z e]
  .let#[g,e]:=t i a;show#[g,#v[ZM (nD i a),e]]
theorem Zu.short{g:jr}{c:js}{e:jq}{k:Nat->Nat}(m:WF g c)(f:Lv c e){i:Nat}{l:jq}(h:Zu c e k i l):↑l<=VT c (nz c i).h+1:=by
 induction h with
 |top a b=>show Nat.le_add_left _ _
 |up a b n o=>
  rename_i i j l r
  let d:=OG m f (i:=i) (j:=j) #v[b,zT]
  have:=Ml (f.lt j d.2) d.1;rw[yX]
  lia
theorem M9:∀{l:jq}{b a:js}{i:Nat},X6 b l\a->i∉l->nz a i=nz b i
 |[],b,a,i,h,_=>by erw[X6] at h;rfl
 |s::l,b,a,i,h,hi=>by
  rw[X6] at h;split at h
  .cases h
  .rw[M9 h λz=>hi (zE _ z)];unfold nz;rw[zV,uU (λz=>hi #v[z,zT]),<-zV]
def Pr(a:jy)(rd:jq)(n b:Nat)(c:Nat->aj):jy:=(zP ↑a).map λi=>if i∈rd then #[a[i]!.x,if i=n then b else a[i]!.th,c i,a[i]!.ab] else a[i]!
def LR{a:jy}{rd:jq}{n own:Nat}{tg:Nat->aj}{i:Nat}(h:i<↑a):(Pr a rd n own tg).getD i .d=if i∈rd then #[a[i]!.x,if i=n then own else a[i]!.th,tg i,a[i]!.ab] else a[i]!:=by
 unfold Pr;rw[zV,zO,List.getElem?_range h];rfl
structure Hg(H:Hp)(lv:jq)(as as':jy):Prop where
 x:∀ i∈lv,as'[i]!.x=as[i]!.x
 ab:∀ i∈lv,as'[i]!.ab=as[i]!.ab
 th:∀ i∈lv,as'[i]!.th=as[i]!.th\/H as'[i]!.th=Y'
section
variable{jh ji:aj}{H H':Hp}{S d lk:aj}{ts cur:js}{lv rd:jq}{av:Nat->jq}{ho:Nat->Nat}{as:jy}{kvs:ba}{ls us:jf}{n own:aj}{tg:Nat->aj}
def E5(R:Z7 jh ji H S d lk ts lv av ho as kvs ls)(t:cur.length=↑ts)(hn:n∈rd)(s:∀ i∈rd,i∈lv)(J:H own=Y')(L:∀ c o,(∀ i∈rd,c≠as[i]!.x)->H c\o->H' c\o)(sh:∀ i,i≠n->(nz cur i).bs=(nz ts i).bs)(hh:∀ i,(nz cur i).h=(nz ts i).h)(E:∀ i,i∉rd->nz cur i=nz ts i)(D:∀ i∈rd,i≠n->(nz ts i).h≠0)(A:∀ i∈rd,MA ji H' (λi=>as[i]!.x) (λi=>.ref (if i=n then own else as[i]!.th)) (λi=>.ref (tg i)) (λi=>as[i]!.ab) ho i)(N:∀ i∈rd,YB H' (Z6 (nz cur i)) (.ref (tg i)))(B:H' own\.lst us)(h0:(nz cur n).h=0->kr H' (Yn (nz cur n).rows) us)(h1:(nz cur n).h≠0->us=iN (nz cur n).bs):
  Z7 jh ji H' S d lk cur lv av ho (Pr as rd n own tg) kvs ls/\Hg H lv as (Pr as rd n own tg):=by
 let#[#[dS,hS],hd,X]:=R.sh;let O:∀ i∈lv,∃ g us,H as[i]!.x\.ins ji g us:=λi a=>by
  let#[g,e]:=(R.tw i a).tw.self;show#[g,_,e]
 let k:∀ c o,(∀ C g fs,o≠.ins C g fs)->H c\o->H' c\o:=λc o n e=>L c o (λi a=>by
  let#[g,us,I]:=O i (s i a);show ZE e I (n _ _ _)) e
 let m:YI H H':=λc xs e=>k c _ #v[] e
 let u:∀ i∈lv,i<↑as:=λi a=>#v[R.len,R.lt i a]
 let F:∀ i∈lv,∃ us,H as[i]!.th\.lst us:=λi a=>by
  let#[us,e,_]:=(R.tw i a).things;show#[us,e]
 let r:∀ i∈lv,H as[i]!.ab\.lst (iN (av i)):=λi a=>(R.tw i a).tw.above;let v:∀ i∈lv,((Pr as rd n own tg).getD i .d).x=as[i]!.x:=λi a=>by rw[LR (u i a)];split<;>rfl
 let b:∀ i∈lv,((Pr as rd n own tg).getD i .d).ab=as[i]!.ab:=λi a=>by rw[LR (u i a)];split<;>rfl
 let f:∀ i∈lv,((Pr as rd n own tg).getD i .d).th=if i=n then own else as[i]!.th:=λi a=>by
  rw[LR (u i a)];by_cases z:i∈rd
  .rw[aP z]
  .rw[aO z,aO (λy=>z #v[y,hn])]
 let l:∀ i∈lv,own≠as[i]!.th/\own≠as[i]!.ab:=λi a=>by
  let#[us,e]:=F i a;show#[(ZW e J).symm,(ZW (r i a) J).symm]
 let P:own≠lk:=(ZW X J).symm;show#[#[#[#[dS,#v[t,L _ _ (λi a=>(R.own i (s i a)).1.symm) hS]],k _ _ #v[] hd,k _ _ #v[] X],R.keys,λi a=>#v[v i a,R.val i a],λi a=>#v[t,R.lt i a],by unfold Pr;simp[R.len,t],λi a=>?_,λi a=>?_,λi j a p w=>?_],v,b,λi a=>?_]
 .let W:=R.tw i a;by_cases z:i∈rd
  .let e:=LR (rd:=rd) (n:=n) (own:=own) (tg:=tg) (u i a);rw[aP z] at e;let#[g,V]:=A i z;exists ?_,?_
   .rwa[e,#[#[g,V],k _ _ #v[] (r i a)]]
   .rw[e];by_cases y:i=n
    .subst y;rwa[aP Z,#[us,B,h0,h1]]
    .rw[aO y];let#[U,e1,I,e3]:=W.things;let M:=D i z y;rwa[hh i,sh i y,#[U,k _ _ #v[] e1,λq=>mZ q M,e3]]
   .rwa[e,N i z]
  .let e:=LR (rd:=rd) (n:=n) (own:=own) (tg:=tg) (u i a);rw[aO z] at e;rw[e];let#[g,V]:=W.tw.self;let G:=W.frame m (λo e=>L _ _ (λj p=>(R.two i j a (s j p) λy=>z #v[y,p]).1) e) (λo e=>k _ _ (by let#[us,I]:=F i a;have:=e.symm|||I;cases this;intro _ _ _ z;cases z) e) (λo e=>k _ _ (by have:=e.symm|||r i a;cases this;intro _ _ _ z;cases z) e)
   exists G.tw,?_
   .rwa[E i z,G.things]
   .rwa[E i z,G.tag]
 .rw[v i a,b i a,f i a];let#[Y,o2,o3,o4]:=R.own i a;by_cases y:i=n
  .rwa[aP y,#[Y,o2,P,(l i a).2.symm]]
  .rwa[aO y,#[Y,o2,o3,o4]]
 .rw[v i a,b i a,f i a,v j p,b j p,f j p];let#[Q,T,t3,t4]:=R.two i j a p w;by_cases y:i=n
  .let K:j≠n:=λz=>w (y|||z.symm);rwa[aP y,aO K,#[Q,T,t3,(l j p).1]]
  .rw[aO y];by_cases K:j=n
   .rwa[aP K,#[Q,T,(l i a).2.symm,(l i a).1.symm]]
   .rwa[aO K,#[Q,T,t3,t4]]
 .rw[f i a];by_cases y:i=n
  .rwa[aP y,.inr J]
  .rwa[aO y,.inl Z]
end
abbrev IO:Stmt:=XR (top 35) 22
def Fp(l:jq):iN l=(l.map λb:Nat=>(b:Int)).map V.int:=by rw[zH];rfl
theorem BN(l:jq)(b:Nat):(l.map λb:Nat=>(b:Int)).erase (b:Int)=(l.erase b).map λb:Nat=>(b:Int):=by
 induction l with
 |nil=>rfl
 |cons a l c=>
  by_cases z:a=b
  .subst z;simp
  .let d:¬ ((a:Int)=(b:Int)):=()
   rw[yL,List.erase_cons_tail #v[d],List.erase_cons_tail #v[z],c]
   rfl
noncomputable def Qa(bs:jq)(b:Nat)(a:Nat->jq):Nat->jq:=λi=>if i∈bs then (a i).erase b else a i
def Pf(bs:jq)(a:Nat->Nat):Nat->Nat:=λi=>if i∈bs then a i+1 else a i
inductive Yv(jh ji:aj):Sp
 |mk{S d m l:aj}{p:js}{g:jq}{i:Nat->jq}{k:Nat->Nat}{a:jy}{e:ba}{n:jf}{bs:jq}{j:Nat}{H:Hp}{Q:VK}{E:XK}:
  Z7 jh ji H S d m p g i k a e n->H l\.lst (iN bs)->bs.Nodup->(∀ b∈bs,b∈g/\j∈i b)->(∀ b:Nat,b∈g->l≠a[b]!.ab) ->
  (∀ h:Hp,(∀ c o,(∀ b:Nat,b∈g->c≠a[b]!.x/\c≠a[b]!.ab)->H c\o->h c\o)->Z7 jh ji h S d m p g (Qa bs j i) (Pf bs k) a e n->Q .non h)->Yv jh ji [!S,.int (j:Nat),!l] H Q E
theorem WK:ZA C4 TU (Zd IO):=Z4
inductive FM(jh ji S d lk l:aj)(ts:js)(lv:jq)(av:Nat->jq)(ho:Nat->Nat)(as:jy)(kvs:ba)(ls:jf)(bs:jq)(st:Nat)(H:Hp):Nat->Tw.St->Hp->Prop
 |mk{i:Nat}{x y:jg}{H2:Hp}:(∀ c o,(∀ b:Nat,b∈lv->c≠as[b]!.x/\c≠as[b]!.ab)->H c\o->H2 c\o)->Z7 jh ji H2 S d lk ts lv (Qa (bs.take i) st av) (Pf (bs.take i) ho) as kvs ls ->
  FM jh ji S d lk l ts lv av ho as kvs ls bs st H i [Z' !S,Z' (.int (st:Nat)),Z' !l,x,y] H2
def BJ(F:Zj K "give_back" "Shelf.give_back" IO f fd)(L:Yh K mg jh ji)(DT:-ZB ZZ 1 jh "twig_of" V' (Ze jh)):-ZL ZZ 2 f fd TU (Yv jh ji):=by
 show F.ko WK λa3 A a2 s H vs Q E hr h=>?_;let#[R,hl,M,V,a0,k]:=h;rename_i S d lk l ts lv p j g O ls bs G
 let nd:=WK.nd;intro Xc;show#[_,ZU (Vj PassesOwn.never Z (Wa (pv 2)) (Yf 3 nd)
  (ZO (Zs 4 nd (YV (E:=E0) (pv 0) L.cS DT hr YX (ZV (pv 3))))
  (ZO (KW (pv 4) ZN CM)
  (ZU (Y0 (VL yP qJ qH Cr (Xn (pv 4) Z) (ZV (pv 1)))))))),?_]
 show#[1,l,Z,#[_,ZH.of hl],PM (K:=K) (a:=l) (xs:=iN bs) (FM jh ji S d lk l ts lv p j g O ls bs G H)
  (.mk (λc o _ e=>e) (by
   let e1:Qa [] G p=p:=funext λi=>aO ⋯
   let e2:Pf [] j=j:=funext λi=>aO ⋯
   rwa[show bs.take 0=[] from Z,e1,e2,R])) ?_ ?_ ?_]
 .rintro i σ t _ ⟨N,R2⟩;show ZH.of (N _ _ (λb V=>#[?_,a0 b V]) hl);let#[dx,I]:=(R.tw b V).tw.self;show ZE hl I
 .rintro i u σ t B ⟨N,R2⟩;unfold iN at B;rw[zO] at B;let#[b,X,rfl]:=yB.mp B;let#[r,a1]:=V b (yY X);let J:b∉bs.take i:=λz=>by
   let hs:bs=bs.take i++b::bs.drop (i+1):=by
    let#[hi,e]:=yO.mp X;rw[<-e,<-wZ hi,wQ]
   rw[hs,uO] at M;show M.2.2 b z b ⋯ Z
  let Y:Pf (bs.take i) j b=j b:=aO J;let W:Qa (bs.take i) G p b=p b:=aO J;let#[dS,hS]:=R2.sh.self;let Wb:=R2.tw b r;let#[q,I]:=Wb.tw.self;let v:=Wb.tw.above;rw[Y] at I;rw[W] at v;exists 1,S,dS,1,hS,Z,1,S,d,lk,↑ts,O,ls,(b:Int),.ref g[b]!.x,Z,R2.sh,R2.val b r;exists 1,g[b]!.x,ji,q,_,.int (j b:Nat),Z,I,L.cT,L.nho,Z,_,1,Z,q,_,I,yR Z;let C:upd t g[b]!.x (.ins ji q (Yi "holds" (.int (((j b:Nat):Int)+1)) (Xy (.ref g[b]!.th) (.ref g[b]!.tg) g[b]!.ab (j b)))) g[b]!.x\.ins ji q (Xy (.ref g[b]!.th) (.ref g[b]!.tg) g[b]!.ab (j b+1)):=by rw[ZP];rfl
  let T:g[b]!.ab≠g[b]!.x:=ZE v I;let m:upd t g[b]!.x (.ins ji q (Yi "holds" (.int (((j b:Nat):Int)+1)) (Xy (.ref g[b]!.th) (.ref g[b]!.tg) g[b]!.ab (j b)))) g[b]!.ab\.lst (iN (p b)):=#v[ZM T,v]
  let D:∀ c o,c≠g[b]!.x->t c\o->upd t g[b]!.x (.ins ji q (Yi "holds" (.int (((j b:Nat):Int)+1)) (Xy (.ref g[b]!.th) (.ref g[b]!.tg) g[b]!.ab (j b)))) c\o:=λc o n e=>#v[ZM n,e]
  generalize upd t g[b]!.x (.ins ji q (Yi "holds" (.int (((j b:Nat):Int)+1)) (Xy (.ref g[b]!.th) (.ref g[b]!.tg) g[b]!.ab (j b))))=H3 at C m D⊢;exists 1,g[b]!.x,ji,q,_,.ref g[b]!.ab,Z,C,L.cT,L.nab,Z,.inl #[Z,_,ZH.of m],1,g[b]!.ab,(p b).map λb:Nat=>(b:Int),(G:Nat),Z,Z,by rwa[<-Fp,m],zL.mpr #[G,a1,Z]
  rw[BN,<-Fp];let U:bs.take (i+1)=bs.take i++[b]:=by rw[yI,X];rfl
  show .mk (λc o hc e=>?_) ?_
  .let#[n1,n2]:=hc b r;rwa[ZM n2,D _ _ n1 (N c o hc e)]
  .show R2.set1 r (λc n=>?_) (λc n=>?_) #[q,?_] ?_ λc o n1 n2 e=>?_
   .unfold Qa;rw[U];by_cases z:c∈bs.take i
    .rw[aP z,aP (yG _ z)]
    .rw[aO z,aO (λy=>(zC.mp y).elim z λy=>n (zI.mp y))]
   .unfold Pf;rw[U];by_cases z:c∈bs.take i
    .rw[aP z,aP (yG _ z)]
    .rw[aO z,aO (λy=>(zC.mp y).elim z λy=>n (zI.mp y))]
   .rwa[ZM (Ne.symm T),show Pf (bs.take (i+1)) j b=j b+1 from aP (by rw[U];simp),C]
   .rw[ZP,show Qa (bs.take (i+1)) G p b=(p b).erase G from aP (by rw[U];simp)]
   .rwa[ZM n2,D _ _ n1 e]
 .rintro σ t ⟨N,R2⟩;rw[show ↑(iN bs)=↑bs from zX _,yQ (zY _)] at R2;show k t N R2
def Vb(a:js)(n:Nat)(bs:jq):jq:=bs.filter λb=>ng (b∉(nz a n).bs)
def P1(a:js)(n:Nat)(bs:jq):jq:=(nz a n).bs.filter λb=>ng (b∉bs)
def Qy(a:js)(n:Nat)(bs:jq)(b:Nat->jq):Nat->jq:=Qa (P1 a n bs) n (Wx (Vb a n bs) n b)
def OJ(a:js)(n:Nat)(bs:jq)(b:Nat->Nat):Nat->Nat:=Pf (P1 a n bs) (X0 (Vb a n bs) b)
structure Q9(ts:js)(lv:jq)(ho:Nat->Nat)(n:Nat)(ns:jz)(bs rest:jq):Prop where
 h0:(nz ts n).h≠0
 rd:Zu ts lv ho n (n::rest)
 eb:ns=bs.map (λb:Nat=>(b:Int))
 hb:∀ b∈bs,b∈lv
inductive QN(ts:js)(lv:jq)(ho:Nat->Nat)(n:Nat)(ns:jz):jf->Prop
 |leaf:(nz ts n).h=0->QN ts lv ho n ns [.str "stem"]
 |shared {j:Nat}:(nz ts n).h≠0->Sh ts lv ho n (Z' j)->QN ts lv ho n ns [.str "shared",.int (j:Nat)]
 |twig {rest:jq} {x:Int}:(nz ts n).h≠0->Zu ts lv ho n (n::rest)->ns.find? (λx=>!nF lv x)\x->QN ts lv ho n ns [.str "twig",-x]
 |stem {bs rest:jq}:Q9 ts lv ho n ns bs rest->¬ QJ (Zt ts bs) (Z' ((nz ts n).h:Nat))->QN ts lv ho n ns [.str "stem"]
 |up {bs rest:jq}:Q9 ts lv ho n ns bs rest->QJ (Zt ts bs) (Z' ((nz ts n).h:Nat))->X6 (ts.set n (YQ ts bs)) rest=Y'->QN ts lv ho n ns [.str "stem"]
 |held {bs rest:jq} {cur:js} {b:Nat}:Q9 ts lv ho n ns bs rest->QJ (Zt ts bs) (Z' ((nz ts n).h:Nat))->X6 (ts.set n (YQ ts bs)) rest\cur->(Vb ts n bs).find? (λb=>ng (ho b=0))\b->QN ts lv ho n ns [.str "held",.int (b:Nat)]
inductive LB(a:js)(d:jq)(c:Nat->Nat)(n:Nat)(e:jz)(bs rest:jq)(cur:js):Prop
 |mk:Q9 a d c n e bs rest->QJ (Zt a bs) (Z' ((nz a n).h:Nat))->X6 (a.set n (YQ a bs)) rest\cur->(Vb a n bs).find? (λb=>ng (c b=0))=Y'->LB a d c n e bs rest cur
def CG{bs a:jq}{ns:jz}(c:ns=bs.map (λb:Nat=>(b:Int)))(d:ns=a.map (λb:Nat=>(b:Int))):bs=a:=by
 let e:=c.symm|||d;have:=congrArg (List.map wA) e;simpa [zH,Function.comp_def] using this
def wz{bs f:jq}{g:jz}{x:Int}(h:g=bs.map (λb:Nat=>(b:Int)))(i:∀ b∈bs,b∈f)(e:g.find? (λx=>!nF f x)\x):False:=by
 let d:=qM e;let a:=qX e;rw[h] at d;let#[b,c,rfl]:=zL.mp d;have:=i b c;unfold nF at a;simp at a;show a this
section
variable{ts:js}{lv:jq}{ho:Nat->Nat}{n:Nat}{ns:jz}
def Q9.uniq{bs b rest a:jq}(h:Q9 ts lv ho n ns bs rest)(g:Q9 ts lv ho n ns b a):bs=b/\rest=a:=#[CG h.eb g.eb,by cases h.rd.uniq g.rd;rfl]
def Q9.no{bs rest:jq}(h:Q9 ts lv ho n ns bs rest){j:Nat}(g:Sh ts lv ho n (Z' j)):False:=by cases g.uniq h.rd.sh
def QN.no{k:jf}{bs rest:jq}{cur:js}(h:QN ts lv ho n ns k)(g:LB ts lv ho n ns bs rest cur):False:=by
 let#[a,b,c,e]:=g
 cases h with
 |leaf d=>show a.h0 d
 |shared _ d=>show a.no d
 |twig _ _ d=>show wz a.eb a.hb d
 |stem d f=>
  cases(a.uniq d).1;show f b
 |up d _ f=>
  let#[i,j]:=a.uniq d;subst i j;erw[c] at f
 |held d _ _ f=>
  cases(a.uniq d).1;cases e.symm.trans f
end
section
variable{gt:jr}{ts:js}{lv:jq}{ho:Nat->Nat}{n:Nat}{bs:jq}
def Dl{L:YR}(h:nu (Zt ts bs)\L):((Zt ts bs).getD 0 .d).h=((nz ts (bs.getD 0 0)).h:Nat):=by
 let a:0<↑bs:=by
  unfold nu at h;split at h
  .rename_i c
   have:=c.1;unfold Zt at this;rw[zX] at this
   lia
  .cases h
 rw[Of a];rfl
theorem Gb(j:WF gt ts)(v:Lv ts lv)(r:∀ b∈bs,b∈lv)(h:QJ (Zt ts bs) (Z' ((nz ts n).h:Nat))):∃ L,nu (Zt ts bs)\L/\L=Z6 (YQ ts bs)/\bs.Nodup/\↑bs<=4/\(YQ ts bs).h=(nz ts n).h/\Zw gt ts n (YQ ts bs):=by
 let#[m,o]:=h;let#[L,g]:=qG.mp m;let f:∀ b∈bs,b<↑ts:=λb h=>v.lt b (r b h);let#[k,i,p,q,s,u,t]:=MY j f g;let l:=o _ Z;rw[Dl g] at l;let#[a,b,c,d,e]:=Df j f g;show#[L,g,k,i,q,?_,#[a,b,c,d,e]];change (nz ts (bs.getD 0 0)).h+1=(nz ts n).h
 lia
def LX(b:Lv ts lv)(a:n∈lv)(i:Nat):(abv ts lv i).Perm ((if i∈(nz ts n).bs then [n] else [])++(lv.erase n).filter λj=>ng (i∈(nz ts j).bs)):=by
 let p:(lv.filter λj=>ng (i∈(nz ts j).bs)).Perm ((n::lv.erase n).filter λj=>ng (i∈(nz ts j).bs)):=(List.perm_cons_erase a).filter _;unfold abv;show p.trans ?_;rw[wD];by_cases z:i∈(nz ts n).bs
 .rwa[aP z,aP (aM z),wX.refl _]
 .rw[aO z,aO #v[z]]
  show wX.refl _
def Bu{cur:js}(p:Lv ts lv)(z:Lv cur lv)(m:n∈lv)(x:∀ j∈lv,j≠n->(nz cur j).bs=(nz ts j).bs)(s:(nz cur n).bs=bs)(a:Nat->jq)(r:∀ i∈lv,(a i).Perm (abv ts lv i))(i:Nat)(t:i∈lv):(Qy ts n bs a i).Perm (abv cur lv i):=by
 let w:lv.Nodup:=p.up.imp λh=>zJ h;let c:=(r i t)|||LX p m i;let k:=LX (i:=i) z m;let q:((lv.erase n).filter λj=>ng (i∈(nz cur j).bs))=(lv.erase n).filter λj=>ng (i∈(nz ts j).bs):=uP λj u=>by
  let e:=(List.Nodup.mem_erase_iff w).mp u;rw[x j e.2 e.1]
 rw[q,s] at k;generalize ((lv.erase n).filter λj=>ng (i∈(nz ts j).bs))=F at c k;let g:i∈Vb ts n bs↔i∈bs/\i∉(nz ts n).bs:=by unfold Vb;simp
 let f:i∈P1 ts n bs↔i∈(nz ts n).bs/\i∉bs:=by unfold P1;simp
 show wX.trans ?_ k.symm;by_cases d:i∈(nz ts n).bs
 .rw[aP d] at c;let v:i∉Vb ts n bs:=λy=>(g.mp y).2 d;let l:Wx (Vb ts n bs) n a i=a i:=aO v;by_cases b:i∈bs
  .rw[aP b];have:Qy ts n bs a i=a i:=by
    unfold Qy Qa;rw[aO (λy=>(f.mp y).2 b),l]
   rwa[this,c]
  .rw[aO b];have:Qy ts n bs a i=(a i).erase n:=by
    unfold Qy Qa;rw[aP (f.mpr #[d,b]),l]
   rw[this];have:=c.erase n;simpa using this
 .rw[aO d] at c;let o:i∉P1 ts n bs:=λy=>d (f.mp y).1;by_cases b:i∈bs
  .rw[aP b];have:Qy ts n bs a i=a i++[n]:=by
    unfold Qy Qa Wx;rw[aO o,aP (g.mpr #[b,d])]
   rwa[this,(mj)|||c.append_left [n]]
  .rw[aO b];have:Qy ts n bs a i=a i:=by
    unfold Qy Qa Wx;rw[aO o,aO (λy=>b (g.mp y).1)]
   rwa[this,c]
theorem Ba{cur:js}(m:Lv ts lv)(u:Lv cur lv)(l:n∈lv)(t:∀ j∈lv,j≠n->(nz cur j).bs=(nz ts j).bs)(q:(nz cur n).bs=bs)(p:∀ b∈Vb ts n bs,1<=ho b)(i:Nat)(v:i∈lv):↑(abv cur lv i)+OJ ts n bs ho i=↑(abv ts lv i)+ho i:=by
 let s:lv.Nodup:=m.up.imp λh=>zJ h;let e:=(LX (i:=i) m l).length_eq;let d:=(LX (i:=i) u l).length_eq;let o:((lv.erase n).filter λj=>ng (i∈(nz cur j).bs))=(lv.erase n).filter λj=>ng (i∈(nz ts j).bs):=uP λj r=>by
  let f:=(List.Nodup.mem_erase_iff s).mp r;rw[t j f.2 f.1]
 rw[o,q,zG] at d;rw[zG] at e;generalize ((lv.erase n).filter λj=>ng (i∈(nz ts j).bs))=F at e d;let g:i∈Vb ts n bs↔i∈bs/\i∉(nz ts n).bs:=by unfold Vb;simp
 let k:i∈P1 ts n bs↔i∈(nz ts n).bs/\i∉bs:=by unfold P1;simp
 unfold OJ Pf X0;by_cases c:i∈(nz ts n).bs
 .rw[aP c] at e;by_cases a:i∈bs
  .rw[aP a] at d;rw[aO (λy=>(k.mp y).2 a),aO (λy=>(g.mp y).2 c)]
   lia
  .rw[aO a] at d;rw[aP (k.mpr #[c,a]),aO (λy=>(g.mp y).2 c)];simp at e d
   lia
 .rw[aO c] at e;by_cases a:i∈bs
  .rw[aP a] at d;rw[aO (λy=>c (k.mp y).1),aP (g.mpr #[a,c])];have:=p i (g.mpr #[a,c]);simp at e d
   lia
  .rw[aO a] at d;rw[aO (λy=>c (k.mp y).1),aO (λy=>a (g.mp y).1)]
   lia
end
abbrev Jd:Stmt:=XR (top 35) 11
structure XZ(K:zZ)(mg:jc)(nm:Str)(C:aj):Prop where
 at_:mg nm\!C
 exk:tZ K C Pw "ValueError.__new__"=true
 kp:yN K (!C)=X'
 mB:yU K C (.type "BaseException")\true
 ty:xX K (!C)\.type "type"
def Gh{K:zZ}{p:aj}{bs cs:jq}{n:Tw.St}{l:jq}{H:Hp}{m:TT}{Q:VK}(o:↑bs<=900)(e:H p\.lst (iN bs))(d:∀ (a:Hp) (j:Nat) (R:Bool->Hp->Prop),j∈bs->ZC H a->R (ng (j∉cs)) a->m (NJ n l (.int (j:Nat))) a R)(k:∀ (D:aj) (a:Hp),ZC H a->H D=Y'->a D\.lst (iN (bs.filter λb=>ng (b∉cs)))->Q (!D) a):Wu (N2 K p) n l m (QA 0) H Q:=
 K1 bs (λj=>ng (j∉cs)) o (λi f c g=>#[_,.int (bs[i]:Nat),ZH.of (c _ _ e),by simp[iN,zW g]]) (λi f x q c g h=>#[h.1,h.2 _ (ZH.of (c _ _ e))]) (λf c=>#[_,ZH.of (c _ _ e),by simp[iN]]) d k
def Ej(x:Nat)(l:jq):(if true=X' then !NP (.int (x:Nat)) (iN l) else NP (.int (x:Nat)) (iN l))=ng (x∉l):=by
 rw[aP rfl,Gr,decide_not]
inductive Y5(gt:jr)(jh ji CS CT CH CD:aj):Sp
 |mk{S d lk l:aj}{ts:js}{lv:jq}{av:Nat->jq}{ho:Nat->Nat}{as:jy}{kvs:ba}{ls:jf}{n:Nat}{ns:jz}{H:Hp}{Q:VK}{E:XK}:
  Wl gt jh ji H S d lk ts lv av ho as kvs ls->n∈lv->↑lv<=800->H l\.lst (ns.map V.int)->↑ns<=100 ->
  (QN ts lv ho n ns [.str "stem"]->∀ H',ZC H H'->E (!CS) Y' H') ->
  (∀ j:Nat,QN ts lv ho n ns [.str "shared",.int (j:Nat)]->UF CD (j:Nat) E H) ->
  (∀ x:Int,QN ts lv ho n ns [.str "twig",-x]->UF CT x E H) ->
  (∀ b:Nat,QN ts lv ho n ns [.str "held",.int (b:Nat)]->UF CH (b:Nat) E H) ->
  (∀ bs rest cur,LB ts lv ho n ns bs rest cur->∀(H':Hp)(as':jy),(∀ c o,(∀ i:Nat,i∈lv->c≠as[i]!.x/\c≠as[i]!.ab)->H c\o->H' c\o)->Z7 jh ji H' S d lk cur lv (Qy ts n bs av) (OJ ts n bs ho) as' kvs ls->Hg H lv as as'->Q .non H') ->
  Y5 gt jh ji CS CT CH CD [!S,.int (n:Nat),!l] H Q E
abbrev yk:jv:=["self","number","numbers","twig","road","old","branches","label","labels","new"]
theorem Vp:ZA yk SY (Zd Jd):=Z4
theorem qf{gt:jr}(F:Zj K "change_stem" "Shelf.change_stem" Jd f fd)(m2:K.In kF)(T:Yd mg)(L:Yh K mg jh ji)(ZS:XZ K mg "NoStem" CS)(DT:-ZB ZZ 1 jh "twig_of" V' (Ze jh))(DI:-ZD 1 "is_stem" TK (XQ ji))(DR:-ZB (Z8 P w) 3 jh "road_up" V' (WW gt jh ji CD))(DL:-ZB (Z8 P w) 5 jh "labels_of" T2 (Yt jh ji CT))(DO:Qk P w K mg kF 9 "label_over" Tz (WG CS))(DU:-ZB (Z8 P w) 10 jh "labels_up" Ti (Xa gt jh ji CS))(DC:-ZB (Z8 P w) 3 jh "check_held" T2 (YN jh ji CH))(DG:-ZB ZZ 2 jh "give_labels" Tt (WD jh ji))(DK:-ZB ZZ 2 jh "take_over" TU (Yu jh ji))(DB:-ZB ZZ 2 jh "give_back" TU (Yv jh ji)):
  ZL P w K mg kF (Z8 P w) 11 f fd SY (Y5 gt jh ji CS CT CH CD):=by
 show F.kD Vp λt5 A r9 s H vs Q E hr h=>?_;let#[U,u,t2,hl,i0,kS,kD,kT,kH,kY]:=h;rename_i S d lk l m J av N k a5 ls n ns
 let nd:=Vp.nd;let#[t0,m0]:=T.height;let l0:=hr.mono (yR Z:1<=10)
 let e0:=hr.mono (yR Z:2<=10)
 let l1:=hr.mono (yR Z:3<=10)
 let r0:=hr.mono (yR Z:5<=10)
 let r1:=hr.mono (yR Z:9<=10)
 intro Xc;show#[_,ZO (Zs 3 nd (YV (E:=E0) (pv 0) L.cS DT l0 YX (ZV (pv 1))))
  (ZO (Zz (WY (Yy (Zq DI l0 (ZV (pv 3))))) (ZU (Kz VD (KI m2 ZS.at_ ZS.exk) ZS.kp ZS.mB ZS.ty Z)) Z3)
  (ZO (Zs 4 nd (YV (E:=E) (pv 0) L.cS DR l1 (U9 VD λ_ _ _ h=>h) (ZV (pv 1))))
  (ZO (NE (i:=5) nd Z (Or.inr Z) (Xn (pv 3) Z))
  (ZO (NE (i:=6) nd Z (Or.inr Z) (VB PF Z T.list Uz (ZV (pv 2))))
  (ZO (Zs 7 nd (Hh (E:=E) DO r1 (U9 VD λ_ _ _ h=>h) (ZV (YV (E:=E) (pv 0) L.cS DL r0 (U9 VD λ_ _ _ h=>h) (ZV (pv 6))))))
  (ZO (Zz (YF P4 (Zk K (pv 7) (WL (v:=.int 0) Z m0 #[_,Z])) (Zk K (Xn (pv 3) Z) (WL (v:=.int 0) Z m0 #[_,Z])) (Zx _)) (ZU (Kz VD (KI m2 ZS.at_ ZS.exk) ZS.kp ZS.mB ZS.ty Z)) Z3)
  (ZO (Zs 8 nd (YV (E:=E) (pv 0) L.cS DU hr (U9 VD λ_ _ _ h=>h) (Zg (pv 4) (pv 7))))
  (ZO (NQ (i:=9) [5] ["old"] nd Z Z Z (Wa (pv 6)) (λ_ _ _ _ _=>Nt (YF (r:=MH K true) G8 (pv 0) (pv 1) Z)) (λ_ _ _ _ _=>pv 0) #[Z,.inl Z,Z,trivial])
  (ZO (Y0 (YV (E:=E) (pv 0) L.cS DC l1 (U9 VD λ_ _ _ h=>h) (ZV (pv 9))))
  (ZO (QG (pv 3) (pv 6) Z)
  (ZO (Y0 (YV (E:=E0) (pv 0) L.cS DG e0 YX (ZV (pv 8))))
  (ZO (Y0 (YV (E:=E0) (pv 0) L.cS DK e0 YX (Zg (pv 1) (pv 9))))
  (ZU (Y0 (YV (E:=E0) (pv 0) L.cS DB e0 YX (Zg (pv 1) (QS [6] ["branches"] Z (Wa (pv 5)) (λ_ _ _ _ _=>Nt (YF (r:=MH K true) G8 (pv 0) (pv 1) Z)) (λ_ _ _ _ _=>pv 0) #[Z,.inl Z,Z,trivial]))))))))))))))))),?_]
 let R:=U.sh;let#[dS,hS]:=R.sh.self;let W:=R.tw n u;let#[dt,hx]:=W.tw.self;let#[s9,vlo,vhi,c0,l2,_,_]:=id W.tag;let c0:k[n]!.tg=s9:=V.ref.inj c0;exists 1,S,dS,1,hS,Z,1,S,d,lk,↑m,a5,ls,(n:Int),.ref k[n]!.x,Z,R.sh,R.val n u;exists 1,k[n]!.x,_,k[n]!.tg,_,_,_,_,1,W.tw,#v[c0,l2],_,Z
 by_cases h0:(nz m n).h=0
 case pos=>
  rw[aK (show ¬ (Z6 (nz m n)).h>0 by change ¬ ((nz m n).h:Int)>0;lia)]
  show YA (kS (.leaf h0) H (ZC.refl H))
 rw[aM (show (Z6 (nz m n)).h>0 by change ((nz m n).h:Int)>0;lia)]
 show Zp ?_;show#[1,S,dS,1,hS,Z,1,S,d,lk,m,J,av,N,k,a5,ls,n,Z,U,u,λr l' H1 s1 nr p8 rd=>?_,λj hj=>kD j (.shared h0 hj)];let#[rest,el]:=rd.ne;subst el;let R1:=R.same s1;let#[n9,r4]:=(R1.tw n u).tw.self;exists 1,k[n]!.x,ji,n9,_,.ref k[n]!.th,Z,r4,L.cT,L.nth,Z;exists 1,l,ns.map V.int,Z,.inl (ZH.of (s1 _ _ hl));intro q c6;let#[H2,eU,g2,a1]:=Xg c6 (.lst (ns.map V.int));rw[eU];let s2:=s1|||g2;let a7:H q=Y':=s1.free c6;let R2:=R.same s2;let#[n5,o9]:=R2.sh.self;exists 1,S,n5,1,o9,Z,1,S,d,lk,q,m,J,av,N,k,a5,ls,ns,Z,R2,a1,i0,λx hx=>(kT x (.twig h0 rd hx)).mono s2;intro bs eb hb D2 us H3 s3 nD2 o5 i8;let B:Q9 m J N n ns bs rest:=#[h0,rd,eb,hb];let i7:∀ b∈bs,b<↑m:=λb h=>U.vl.lt b (hb b h);let t9:↑ns=↑bs:=by rw[eb,zX]
 let lus:↑us=↑bs:=#v[i8.1,zX _]
 let m4:=s2|||s3;show#[D2,us,Zt m bs,Z,o5,i8,HQ (λb g=>U.wf b _ (Yo (i7 b g))),(),λH4 s4=>#[λO=>kS (.stem B λy=>y.1 O) H4 (m4|||s4),λLb v O kv=>?_]]
 let X:=m4|||s4;let R4:=R.same X;let kl:=No kv;let#[tl,tlo,thi,rfl,r2,t8,t7]:=id kl;let#[o0,r5]:=(R4.tw n u).tw.self;let l3:=X _ _ l2;show#[1,.inr (.inl #[tl,_,_,-Lb.h,Z,Z,Zc.of r2,Xu (j:=0) Z,_,Z,k[n]!.x,ji,o0,_,.ref k[n]!.tg,Z,r5,L.cT,L.ntg,Z,.inr (.inl #[k[n]!.tg,_,_,.int (Z6 (nz m n)).h,Z,Z,Zc.of #v[c0,l3],Xu (j:=0) Z,Z,_,Z,?_])])]
 let#[o2,_,_,_,t6,_,_]:=MY U.wf i7 O;let e8:Lb.h=((Zt m bs).getD 0 .d).h+1:=by
  rw[o2,Dl O];rfl
 by_cases hh:Lb.h=(Z6 (nz m n)).h
 case neg=>
  let e:(!ng (V.int Lb.h=V.int (Z6 (nz m n)).h))=X':=by rw[aK (λy=>hh (V.int.inj y))];rfl
  rwa[e,YA (kS (.stem B λy=>hh (by rw[e8];show y.2 _ Z)) H4 X)]
 let e:(!ng (V.int Lb.h=V.int (Z6 (nz m n)).h))=false:=by rw[aM (congrArg V.int hh)];rfl
 rw[e];show Zp ?_;let ov:QJ (Zt m bs) (Z' ((nz m n).h:Nat)):=#[(by rw[O];intro z;cases z),λh' z=>by cases z;rwa[<-e8,hh]]
 let#[L',o7,o1,n4,b4,th,m7]:=Gb U.wf U.vl hb ov;cases O.symm.trans o7;subst o1;let l8:=U.l800;let s8:=rd.short U.wf U.vl;let ral:=Jm m (nz m n).h;let rl:rest.length<=800:=by
  rw[yX] at s8
  lia
 let#[f1,f2,f3,f4]:=rd.facts U.wf U.vl u;let#[n6,p1]:=R4.sh.self;let p9:=((g2|||s3)|||s4) _ _ p8;show#[1,S,n6,1,p1,Z,2,.mk R4 U.wf U.vl u rd rl p9 th hb m7 kl (λec H' s'=>kS (.up B ov ec) H' (X|||s')) λcur ec H5 D e1 s5 nD hD i9=>?_];let c3:=X|||s5;let R5:=R.same c3;let eI:ns.map V.int=iN bs:=by rw[eb,zH];rfl
 rw[eI] at a1;let I:=((s3|||s4)|||s5) _ _ a1;let#[ws,l4,_,c8]:=W.things;let c8:=c8 h0;subst c8;let l5:=c3 _ _ l4;let t4:↑(nz m n).bs<=4:=((U.wf n _ (Yo (U.vl.lt n u))).stem h0).2.1;show#[1,q,Z,#[_,ZH.of I],Gh (cs:=(nz m n).bs) () I (λHq j Rq hj sq hR=>#[2,k[n]!.th,1,.inl (ZH.of (sq _ _ l5)),Z,IP _,1,#v[Ej,hR]]) λLW H6 s6 r8 i2=>?_]
 let e4:=c3|||s6;let m3:H LW=Y':=c3.free r8;let R6:=R.same e4;let#[n7,p2]:=R6.sh.self;let e3:∀ b∈Vb m n bs,b∈J:=λb h=>hb b (yM.mp h).1;exists 1,S,n7,1,p2,Z,1,S,d,lk,LW,m,J,av,N,k,a5,ls,Vb m n bs,Z,R6,i2,e3,λb hf=>(kH b (.held B ov ec hf)).mono e4;intro hf H7 s7;let Y:LB m J N n ns bs rest cur:=#[B,ov,ec,hf];let c4:=e4|||s7;let R7:=R.same c4;let#[e7,p3]:=R7.sh.self;let#[M,c2]:=(R7.tw n u).tw.self;let e5:=s6|||s7;let a2:=e5 _ _ I;let i1:=e5 _ _ hD;exists 2,k[n]!.x,ji,M,1,c2,L.cT,L.nth,yR Z;let G:∀ c o,c≠k[n]!.x->H7 c\o->upd H7 k[n]!.x (.ins ji M (Yi "things" (!q) (Xy (.ref k[n]!.th) (.ref k[n]!.tg) k[n]!.ab (N n)))) c\o:=λc o n e=>#v[ZM n,e]
 let l9:upd H7 k[n]!.x (.ins ji M (Yi "things" (!q) (Xy (.ref k[n]!.th) (.ref k[n]!.tg) k[n]!.ab (N n)))) k[n]!.x\.ins ji M (Xy (!q) (.ref k[n]!.tg) k[n]!.ab (N n)):=ZP;generalize upd H7 k[n]!.x (.ins ji M (Yi "things" (!q) (Xy (.ref k[n]!.th) (.ref k[n]!.tg) k[n]!.ab (N n))))=H8 at G l9⊢;let nl:∀ i∈n::rest,i∈J:=λi p=>(f1 i p).1;let p0:=Nj U.wf U.vl rd u (t:=YQ m bs) th hb m7;let pp:Vu gt m J n cur (n::rest) []:=by
  cases rest with
  |nil=>erw[X6] at ec;show p0
  |cons s rest=>
   let s0:Zu m J N s (s::rest):=rd.drop 1 s Z;show Lg U.wf U.vl s0 (nl s ⋯) (by have:=f2 s ⋯;lia) p0 ec
 let' tgv:Nat->Addr:=λi=>match Z2 e1 (kI i) with|some (!a)=>a|_=>0
 let l7:∀ i∈n::rest,Z2 e1 (kI i)\.ref (tgv i)/\YB H5 (Z6 (nz cur i)) (.ref (tgv i)):=λi p=>by
  let#[v',e',k']:=i9.at_ i p;let#[a,b1,b2,rfl,b3]:=id k';have:tgv i=a:=by change (match Z2 e1 (kI i) with|some (!a)=>a|_=>0)=a;rw[e']
  rwa[this,#[e',k']]
 let nS:∀ i∈n::rest,k[i]!.x≠S:=λi p=>(R.own i (nl i p)).1;let i6:=G _ _ (nS n zT).symm p3;let p5:=G _ _ (ZE R7.sh.kept c2) R7.sh.kept;let p6:=G _ _ (ZE R7.sh.looks c2) R7.sh.looks;let o6:=G _ _ (ZE i1 c2) i1;show#[1,S,e7,1,i6,Z,1,.mk (rd:=n::rest) (x:=λi=>k[i]!.x) (ab:=λi=>k[i]!.ab) (th:=λi=>.ref (if i=n then q else k[i]!.th)) (tg:=λi=>.ref k[i]!.tg) (vl:=λi=>.ref (tgv i)) (ho:=N) #[#[e7,i6],p5,p6] (λi p=>#[R.val i (nl i p),nS i p]) (λi p=>?_) o6 (ZW (X _ _ R.sh.kept) nD).symm i9.keys f3 (λi p=>(l7 i p).1) (λi p j hj n'=>(R.two i j (nl i p) (nl j hj) n').1) λH9 o3 p7=>?_]
 .by_cases z:i=n
  .subst z;show#[M,by(try dsimp only);rwa[aP Z,l9]]
  .let#[dx,e]:=(R7.tw i (nl i p)).tw.self;show#[dx,by(try dsimp only);rwa[aO z,G _ _ (R.two i n (nl i p) u z).1 e]]
 let a0:∀ c o,(∀ i∈n::rest,c≠k[i]!.x)->H7 c\o->H9 c\o:=λc o n1 e=>o3 c o n1 (G c o (n1 n zT) e);let m1:∀ i∈n::rest,∃ dx us,H7 k[i]!.x\.ins ji dx us:=λi p=>by
  let#[dx,e]:=(R7.tw i (nl i p)).tw.self;show#[dx,_,e]
 let a4:∀ c o,(∀ C dx fs,o≠.ins C dx fs)->H7 c\o->H9 c\o:=λc o n1 e=>a0 c o (λi p=>by
  let#[dx,us,e2]:=m1 i p;show ZE e e2 (n1 _ _ _)) e
 let r6:YI H7 H9:=λc xs e=>a4 c _ #v[] e
 let o4:nz cur n=YQ m bs:=by
  rw[M9 ec (xR.mp f3).1,Qo (U.vl.lt n u),aP rfl]
 let#[R9,A9]:=E5 (cur:=cur) (rd:=n::rest) (n:=n) (own:=q) (tg:=tgv) (us:=iN bs) (H':=H9) R pp.len zT nl a7 (λc o n1 e=>a0 c o n1 (c4 _ _ e)) pp.sh pp.hh pp.old (λi p z=>by have:=f2 i ((zD.mp p).resolve_left z);lia) p7 (λi p=>((l7 i p).2.mono (ZC.tups e5)).mono r6) (a4 _ _ #v[] a2) (λz=>mZ z #v[pp.hh n,h0]) (λ_=>by rw[o4];rfl)
 let i3:=s7 _ _ i2;let i4:=a4 _ _ #v[] i3
 let h1:∀ b∈Vb m n bs,1<=N b:=λb g=>by
  have:=vN.mp hf b g;simp at this
  lia
 let a8:∀ b∈J,↑(av b)<=900:=λb g=>by
  rw[(U.av b g).length_eq];have:=Dn m J b
  lia
 let#[n8,p4]:=R9.sh.self;generalize Pr k (n::rest) n q tgv=a9 at R9 A9;show#[1,S,n8,1,p4,Z,2,S,d,lk,LW,cur,J,av,N,a9,a5,ls,Vb m n bs,n,Z,R9,i4,n4.sublist uX,λb g=>#[e3 b g,h1 b g,a8 b (e3 b g)],λb g=>?_,λm8 c5 t1 c7=>?_]
 .rwa[A9.ab b g,(ZW (R.tw b g).tw.above m3).symm]
 let l6:=a4 _ _ #v[] (c4 _ _ l4)
 let c9:=a4 _ _ #v[] a2
 let a6:∀(c:aj)(xs:jf),(∀ b∈J,c≠k[b]!.ab)->H9 c\.lst xs->m8 c\.lst xs:=λc xs n1 e=>c5 c _ (λb g=>by
  let#[dx,r3]:=(R9.tw b g).tw.self;show#[ZE e r3,#v[A9.ab b g,n1 b g]]) e
 let m6:∀ b∈J,k[n]!.th≠k[b]!.ab:=λb g=>by
  by_cases z:b=n
  .subst z;show(R.own b g).2.2.2.symm
  .show(R.two b n g u z).2.2.1.symm
 let a3:=a6 _ _ m6 l6;let c1:=a6 _ _ (λb g=>(ZW (R.tw b g).tw.above a7).symm) c9;let#[e6,i5]:=c7.sh.self;show#[1,S,e6,1,i5,Z,2,k[n]!.th,Z,#[_,ZH.of a3],Gh (cs:=bs) () a3 (λHq j Rq hj sq hR=>#[2,q,1,.inl (ZH.of (sq _ _ c1)),Z,IP _,1,#v[Ej,hR]]) λLG t3 m5 r7 o8=>?_]
 let n0:=c7.same m5;show .mk n0 o8 ((Lf U.wf (U.vl.lt n u) h0).sublist uX) (λb g=>?_) (λb g=>(ZW (c7.tw b g).tw.above r7).symm) λm9 e9 n3=>?_
 .let#[q1,q2]:=yM.mp g;let q2:=of_decide_eq_true q2;let bl:=U.vl.cl n u b q1;exists bl;rwa[show Wx (Vb m n bs) n av b=av b from aO (λy=>q2 (yM.mp y).1),(U.av b bl).symm.subset (Jz u q1)]
 .show kY bs rest cur Y m9 a9 (λc o n1 e=>?_) n3 A9;let n2:∀ b:Nat,b∈J->c≠a9[b]!.x/\c≠a9[b]!.ab:=λb g=>#v[A9.x b g,A9.ab b g,n1 b g]
  show e9 c o n2 (m5 _ _ (c5 c o n2 (a0 c o (λi p=>(n1 i (nl i p)).1) (c4 _ _ e))))
def Uk(a b:KT):Prop:=a=b\/a.lt b=X'
def Uk.refl(a:KT):Uk a a:=.inl Z
def Uk.trans{a b c:KT}(h:Uk a b)(g:Uk b c):Uk a c:=by
 rcases h with rfl|h
 .show g
 .rcases g with rfl|g
  .show .inr h
  .show .inr (U' _ _ _ h g)
def Uk.lt{a b c d:KT}(h:Uk a b)(g:b.lt c=X')(k:Uk c d):a.lt d=X':=by
 let e:a.lt c=X':=by
  rcases h with rfl|h
  .show g
  .show U' _ _ _ h g
 rcases k with rfl|k
 .show e
 .show U' _ _ _ e k
def Wi(t a:ZK):=∀ r∈a.rows,Uk (Z6 t).lo r.1/\Uk r.1 (Z6 t).hi
theorem P2{t:ZK}(j:(t.rows.map (·.1)).Pairwise λa b=>a.lt b=X'):Wi t t:=λr g=>by
 let#[i,c,rfl]:=uA g;let d:∀ a b:Nat,a<=b->b<↑t.rows->Uk (t.rows.getD a rc).1 (t.rows.getD b rc).1:=λa b h f=>by
  rcases Nat.eq_or_lt_of_le h with z|z
  .rwa[z,.refl _]
  .have:=uS.mp j a b (by rw[zX];lia) (by rw[zX];lia) z
   rw[List.getElem_map,List.getElem_map] at this;rw[zV,zV,zW (show a<↑t.rows by lia),zW f]
   show .inr this
 let e:t.rows[i]=t.rows.getD i rc:=by rw[zV,zW c];rfl
 rwa[e,#[d 0 i (yZ _) c,d i (↑t.rows-1) () ()]]
section
variable{gt:jr}{ts:js}{lv:jq}{ho:Nat->Nat}
def N6{t:ZK}(h:t.rows≠[]):(∃ r∈t.rows,r.1=(Z6 t).lo)/\∃ r∈t.rows,r.1=(Z6 t).hi:=by
 let a:0<↑t.rows:=uW.mpr h;show#[#[t.rows.getD 0 rc,?_,Z],#[t.rows.getD (↑t.rows-1) rc,?_,Z]]
 .rwa[zV,zW a,yH _]
 .rwa[zV,zW (show ↑t.rows-1<↑t.rows by lia),yH _]
theorem Gg{cur:js}{s:Nat}(n:Zw gt ts s (nz ts s))(x:(nz ts s).h≠0)(l:∀ b∈(nz ts s).bs,(nz ts b).rows≠[]/\(nz cur b).rows≠[]/\(nz cur b).h=(nz ts b).h/\Wi (nz ts b) (nz cur b)):nu (Zt cur (nz ts s).bs)≠Y':=by
 let#[M,N,m,r]:=n.stem x;let q:=n.up;rw[r,List.map_flatMap,List.pairwise_flatMap] at q;let I:=uS.mp q.2;generalize (nz ts s).bs=bs at *;let A:↑(Zt cur bs)=↑bs:=zX _;let e:∀ j (h:j<↑bs),(Zt cur bs).getD j .d=Z6 (nz cur bs[j]):=λj h=>by
  rw[zV];unfold Zt;rw[zO,zW h];rfl
 suffices y:KY (Zt cur bs) by
  unfold nu;rw[aP #[(),(),Yl.mp y]]
  show λz=>nomatch z
 intro j c;rw[A] at c;let a:j<↑bs:=()
 rw[e (j+1) c,e 0 (),e j a]
 let#[F,G,Q,H]:=l _ (yH a);let#[B,C,D,E]:=l _ (yH c);let#[R,S,L,T]:=l _ (yH (show 0<↑bs by lia))
 constructor
 .change (((nz cur bs[j+1]).h:Nat):Int)=(((nz cur bs[0]).h:Nat):Int);rw[D,L];let O:=(m _ (yH c)).2;let P:=(m _ (yH (show 0<↑bs by lia))).2
  lia
 let#[_,J,i,t]:=N6 G;let#[#[K,k,u],_]:=N6 C;let#[_,o,f,v]:=N6 F;let#[#[p,g,w],_]:=N6 B;rw[<-t,<-u];have:=I j (j+1) a c (yA _) o.1 (zL.mpr #[o,f,Z]) p.1 (zL.mpr #[p,g,Z]);rw[v,w] at this;show(H J i).2.lt this (E K k).1
def F8(g:WF gt ts)(e:Lv ts lv):∀{n:Nat}{rest d:jq}{cur:js}{s:Nat},Zu ts lv ho s (s::rest)->s∈lv->(nz ts s).h≠0->Vu gt ts lv n cur d (s::rest)->(∀ i∈lv,Wi (nz ts i) (nz cur i))->∃ l,X6 cur (s::rest)\l:=by
  intro n rest
  induction z:rest.length using Nat.strongRecOn generalizing n rest with|_ y H=>
  intro d cur s r u t p F;let v:=g s _ (Yo (e.lt s u));let w:=p.branches g e r u t;let A:=p.sh s (p.up s zT).1;let c:nu (Zt cur (nz cur s).bs)≠Y':=by
   rw[A];rw[A] at w;show Gg v t λb T=>?_;let#[k,P,G]:=w b T;show#[(g b _ (Yo (e.lt b k))).ne,G.ne,p.hh b,F b k]
  rw[X6,aO c]
  cases I:nu (Zt cur (nz cur s).bs) with
  |none=>show mZ I c
  |some L=>
   let#[_,X]:=Iv g e p r u t I
   cases r with
   |top a b=>show#[1]
   |up a b J=>
    rename_i j q
    let#[r',Q]:=J.ne;subst Q;let V:=OG g e (i:=s) (j:=j) #v[b,zT]
    show H _ (by subst z;show yA _) Z J V.2 () X λi U=>?_
    rw[Qo #v[p.len,e.lt s u]]
    by_cases z:i=s
    .rw[aP z,z];intro x D;let D:x∈(nz cur s).bs.flatMap λb=>(nz cur b).rows:=D;let#[f,m,E]:=wL.mp D;let#[k,P,G]:=w f m;let#[Y,w2]:=F f k x E;let#[#[K,B,R],M,C,S]:=N6 (g f _ (Yo (e.lt f k))).ne;let o:∀ y∈(nz ts f).rows,y∈(nz ts s).rows:=λy W=>by
      rwa[(v.stem t).2.2.2,wL.mpr #[f,A▸m,W]]
     let N:=(P2 v.up K (o K B)).1;let O:=(P2 v.up M (o M C)).2;rw[R] at N;rw[S] at O;show#[N|||Y,w2|||O]
    .rwa[aO z,F i U]
end
def w6{X:Cx}{a:jQ}{b:ExceptHandler}{d:List ExceptHandler}{t:TS}{pos:aJ}(h:Wc X.nox a t):PS X (.Try a (b::d) [] [] pos) t:=by
 intro c s g H D I e;show wpAny_Try_except ?_;show ae (h c s g H D (I.wish _) e) (λf i q=>by
  cases f with
  |next=>show wpAny_execs_nil q.unwish
  |brk=>show q.unwish
  |cont=>show q.unwish
  |ret u=>show q.unwish) λ_ _ z=>False.elim z
variable{jh ji CS CT CH CK CP CB:aj}
abbrev HG:Stmt:=XR (top 35) 10
def Rg{X:Cx}:VW (Z8 P w) X E0:=λ_ _ _ _ _ _ _ h=>by
 let#[_,_,_,_,_,_,h]:=h;show h.elim
inductive Y2(p:jr)(jh ji:aj):Sp
 |mk{S d s l:aj}{j:js}{a:jq}{r:Nat->jq}{q:Nat->Nat}{m:jy}{e:ba}{t u:jf}{n:Nat}{g:jK}{rest:jq}{cur:js}{H:Hp}{Q:VK}{E:XK}:
  Wl p jh ji H S d s j a r q m e t->n∈a->H l\.lst u->kr H (Yn g) u->WZ g->(g.map (·.1)).Sublist p->(nz j n).h=0->Zu j a q n (n::rest)->X6 (j.set n (Y9 g)) rest=Z' cur ->
  (∀(k:Hp)(b:jy),(∀ c o,(∀ i∈a,c≠m[i]!.x)->H c\o->k c\o)->Z7 jh ji k S d s cur a r q b e t->Hg H a m b->Q .non k) ->
  Y2 p jh ji [!S,.int (n:Nat),!l] H Q E
abbrev wt:jv:=["self","number","rows","twig","road","own","labels"]
theorem Vk:ZA wt Tc (Zd HG):=Z4
theorem Ac{gt:jr}(F:Zj K "change_leaf" "Shelf.change_leaf" HG f fd)(L:Yh K mg jh ji)(DT:-ZB ZZ 1 jh "twig_of" V' (Ze jh))(DI:-ZD 1 "is_stem" TK (XQ ji))(DR:-ZB (Z8 P w) 3 jh "road_up" V' (WW gt jh ji CD))(DC:-ZD 9 "checked_rows" TZ XV)(DU:-ZB (Z8 P w) 10 jh "labels_up" Ti (Xa gt jh ji CS))(DL:-ZD 1 "label_of_rows" TZ XA)(DG:-ZB ZZ 2 jh "give_labels" Tt (WD jh ji)):
  ZL P w K mg kF (Z8 P w) 11 f fd Tc (Y2 gt jh ji):=by
 show F.kD Vk λcdv A outer s H vs Q E hr h=>?_;let#[U,hn,hl,hk0,G,hsb,h0,rd,ec0,kyes]:=h;rename_i S d lk l ts lv av ho as kvs ls us n rr rest cur
 let nd:=Vk.nd;let hr1:=hr.mono (yR Z:1<=10)
 let hr2:=hr.mono (yR Z:2<=10)
 let hr3:=hr.mono (yR Z:3<=10)
 let hr9:=hr.mono (yR Z:9<=10)
 intro Xc;show#[_,ZO (Zs 3 nd (YV (E:=E0) (pv 0) L.cS DT hr1 YX (ZV (pv 1))))
  (ZO (Zz (Yy (Zq DI hr1 (ZV (pv 3)))) UC Z3)
  (ZO (Zs 4 nd (YV (E:=E) (pv 0) L.cS DR hr3 (U9 VD λ_ _ _ h=>h) (ZV (pv 1))))
  (ZO (Zs 5 nd (Zq DC hr9 (ZV (pv 2))))
  (ZO (w6 (ZU (Zs 6 nd (YV (E:=E0) (pv 0) L.cS DU hr Rg (Zg (pv 4) (Zq DL hr1 (ZV (pv 5))))))))
  (ZO (QG (pv 3) (pv 5) Z)
  (ZU (Y0 (YV (E:=E0) (pv 0) L.cS DG hr2 YX (ZV (pv 6)))))))))),?_]
 let R:=U.sh;let#[dS,hS]:=R.sh.self;let W:=R.tw n hn;let#[dt,hx]:=W.tw.self;let#[tga,vlo,vhi,etg,htg,_,_]:=id W.tag;let etg:as[n]!.tg=tga:=V.ref.inj etg;exists 1,S,dS,1,hS,Z,1,S,d,lk,↑ts,kvs,ls,(n:Int),.ref as[n]!.x,Z,R.sh,R.val n hn;exists 1,as[n]!.x,_,as[n]!.tg,_,_,_,_,1,W.tw,#v[etg,htg],_,Z
 rw[aK (show ¬ (Z6 (nz ts n)).h>0 by change ¬ ((nz ts n).h:Int)>0;lia (splits:=8))]
 show Zp ?_;show#[1,S,dS,1,hS,Z,1,S,d,lk,ts,lv,av,ho,as,kvs,ls,n,Z,U,hn,λr l' H1 s1 nr hr' rd'=>?_,λj hj=>by cases hj.uniq rd.sh]
 let el:=rd'.uniq rd;subst el;exists 1,l,us,rr,Z,s1 _ _ hl,hk0.sm s1,G;intro H2 own us' s2 nown hown hk;let s12:=s1|||s2;let R2:=R.same s12;let#[dS2,hS2]:=R2.sh.self;let lu:↑us'=↑rr:=by have:=↑hk;rwa[<-this,zX _]
 let lks:↑(rr.map (·.1))=↑rr:=zX _;exists 1,S,dS2,1,hS2,Z,2,own,us',rr.map (·.1),Z,hown,FZ hk,#v[lu,G.2.1]
 intro H3 v s3 kv;let eLab:(Z6 (Y9 rr)).kt=NZ (rr.map (·.1)):=by
  let e0:(rr.map (·.1)).getD 0 (.int 0)=(rr.getD 0 Tw.rc).1:=by
   rw[zV,zV,zO];cases rr[0]? <;> rfl
  let e1:(rr.map (·.1)).getD (↑rr-1) (.int 0)=(rr.getD (↑rr-1) Tw.rc).1:=by
   rw[zV,zV,zO];cases rr[↑rr-1]? <;> rfl
  unfold NZ Z6 Y9 YR.kt;rw[lks,e0,e1];rfl
 rw[<-eLab] at kv;let s13:=s12|||s3;let hb0:(nz ts n).bs=[]:=((U.wf n _ (Yo (U.vl.lt n hn))).leaf h0).1;let tok:Zw gt ts n (Y9 rr):=Dq G hsb _ _;let l8:=U.l800;let rsh:=rd.short U.wf U.vl;let ral:=Jm ts (nz ts n).h;let rl:rest.length<=800:=by
  rw[yX] at rsh
  lia (splits:=8)
 let#[f1,f2,f3,f4]:=rd.facts U.wf U.vl hn;show .mk (R.same s13) U.wf U.vl hn rd rl ((s2|||s3) _ _ hr') h0.symm (λb hb=>by cases hb) tok (Eb kv) (λec H' s'=>by erw[ec] at ec0) λcur' ec H4 D lkv s4 nD hD hb=>?_
 cases ec0.symm.trans ec;let s14:=s13|||s4;let R4:=R.same s14;let#[dS4,hS4]:=R4.sh.self;let W4:=R4.tw n hn;let#[dt4,hx4]:=W4.tw.self;let hown4:=(s3|||s4) _ _ hown;exists 2,as[n]!.x,ji,dt4,1,hx4,L.cT,L.nth,yR Z;let fr5:∀ c o,c≠as[n]!.x->H4 c\o->upd H4 as[n]!.x (.ins ji dt4 (Yi "things" (!own) (Xy (.ref as[n]!.th) (.ref as[n]!.tg) as[n]!.ab (ho n)))) c\o:=λc o n e=>#v[ZM n,e]
 let hx5:upd H4 as[n]!.x (.ins ji dt4 (Yi "things" (!own) (Xy (.ref as[n]!.th) (.ref as[n]!.tg) as[n]!.ab (ho n)))) as[n]!.x\.ins ji dt4 (Xy (!own) (.ref as[n]!.tg) as[n]!.ab (ho n)):=ZP;generalize upd H4 as[n]!.x (.ins ji dt4 (Yi "things" (!own) (Xy (.ref as[n]!.th) (.ref as[n]!.tg) as[n]!.ab (ho n))))=H5 at fr5 hx5⊢;let nl:∀ i∈n::rest,i∈lv:=λi hi=>(f1 i hi).1;let p0:=Nj U.wf U.vl rd hn (t:=Y9 rr) h0.symm (λb hb=>by cases hb) tok
 let pp:Vu gt ts lv n cur (n::rest) []:=by
  cases rest with
  |nil=>erw[X6] at ec;show p0
  |cons s rest=>
   let rd2:Zu ts lv ho s (s::rest):=rd.drop 1 s Z;have:=Lg U.wf U.vl rd2 (nl s ⋯) (by have:=f2 s ⋯;lia (splits:=8)) p0 ec
   show this
 let' tgv:Nat->Addr:=λi=>match Z2 lkv (kI i) with|some (!a)=>a|_=>0
 let htv:∀ i∈n::rest,Z2 lkv (kI i)\.ref (tgv i)/\YB H4 (Z6 (nz cur i)) (.ref (tgv i)):=λi hi=>by
  let#[v',e',k']:=hb.at_ i hi;let#[a,b1,b2,rfl,b3]:=id k';have:tgv i=a:=by change (match Z2 lkv (kI i) with|some (!a)=>a|_=>0)=a;rw[e']
  rwa[this,#[e',k']]
 let nS5:∀ i∈n::rest,as[i]!.x≠S:=λi hi=>(R.own i (nl i hi)).1;let hS5:=fr5 _ _ (nS5 n zT).symm hS4;let hd5:=fr5 _ _ (ZE R4.sh.kept hx4) R4.sh.kept;let hl5:=fr5 _ _ (ZE R4.sh.looks hx4) R4.sh.looks;let hD5:=fr5 _ _ (ZE hD hx4) hD;show#[1,S,dS4,1,hS5,Z,1,.mk (rd:=n::rest) (x:=λi=>as[i]!.x) (ab:=λi=>as[i]!.ab) (th:=λi=>.ref (if i=n then own else as[i]!.th)) (tg:=λi=>.ref as[i]!.tg) (vl:=λi=>.ref (tgv i)) (ho:=ho) #[#[dS4,hS5],hd5,hl5] (λi hi=>#[R.val i (nl i hi),nS5 i hi]) (λi hi=>?_) hD5 (ZW (s13 _ _ R.sh.kept) nD).symm hb.keys f3 (λi hi=>(htv i hi).1) (λi hi j hj n'=>(R.two i j (nl i hi) (nl j hj) n').1) λH6 fr6 hl6=>?_]
 .by_cases z:i=n
  .subst z;show#[dt4,by(try dsimp only);rwa[aP Z,hx5]]
  .let#[dx,e]:=(R4.tw i (nl i hi)).tw.self;show#[dx,by(try dsimp only);rwa[aO z,fr5 _ _ (R.two i n (nl i hi) hn z).1 e]]
 let fr46:∀ c o,(∀ i∈n::rest,c≠as[i]!.x)->H4 c\o->H6 c\o:=λc o n1 e=>fr6 c o n1 (fr5 c o (n1 n zT) e);let insx:∀ i∈n::rest,∃ dx us,H4 as[i]!.x\.ins ji dx us:=λi hi=>by
  let#[dx,e]:=(R4.tw i (nl i hi)).tw.self;show#[dx,_,e]
 let k46:∀ c o,(∀ C dx fs,o≠.ins C dx fs)->H4 c\o->H6 c\o:=λc o n1 e=>fr46 c o (λi hi=>by
  let#[dx,us,e2]:=insx i hi;show ZE e e2 (n1 _ _ _)) e
 let m46:YI H4 H6:=λc xs e=>k46 c _ #v[] e
 let gcn:nz cur n=Y9 rr:=by
  rw[M9 ec (xR.mp f3).1,Qo (U.vl.lt n hn),aP rfl]
 let#[R6,A6]:=E5 (cur:=cur) (rd:=n::rest) (n:=n) (own:=own) (tg:=tgv) (us:=us') (H':=H6) R pp.len zT nl (s1.free nown) (λc o n1 e=>fr46 c o n1 (s14 _ _ e)) pp.sh pp.hh pp.old (λi hi z=>by have:=f2 i ((zD.mp hi).resolve_left z);lia (splits:=8)) hl6 (λi hi=>(htv i hi).2.mono m46) (k46 _ _ #v[] hown4) (λ_=>#v[gcn,((hk.sm (s3|||s4)).mono m46 _ _)]) (λz=>mZ z #v[pp.hh n,h0,λy=>y Z])
 show kyes H6 _ (λc o n1 e=>fr46 c o (λi hi=>n1 i (nl i hi)) (s14 _ _ e)) R6 A6
def Z7.like{b c:aj}{H:Hp}{S d n:aj}{j ts':js}{h:jq}{l:Nat->jq}{m:Nat->Nat}{k:jy}{f:ba}{o:jf}(R:Z7 b c H S d n j h l m k f o)(g:↑ts'=↑j)(e:∀ i∈h,nz ts' i=nz j i):Z7 b c H S d n ts' h l m k f o:=
 #[#v[g,R.sh],R.keys,R.val,λi a=>#v[g,R.lt i a],#v[g,R.len],λi a=>#[(R.tw i a).tw,#v[e i a,(R.tw i a).things],#v[e i a,(R.tw i a).tag]],R.own,R.two]
def Nh{bs:jx}{n i:Nat}{D:aj}(h:n<↑bs):(bs.set n D).getD i 0=if i=n then D else bs.getD i 0:=by
 rw[zV,zV];by_cases z:i=n
 .subst z;rw[aP rfl,tY h];rfl
 .rw[aO z,uU (Ne.symm z)]
def Ep{H b:Hp}{g f D:aj}{e ts':js}{d:jq}{bs:jx}{c:ba}{us:jf}{n:Nat}(L:Xj H g e d bs c)(s:n∈d)(q:Lv ts' d)(A:↑ts'=↑e)(m:YI H b)(I:∀ i:Nat,i∈d->∀ o,H (bs.getD i 0)\o->b (bs.getD i 0)\o)(F:b g\.dK (Zo c (.inl (n:Int)) !f))(G:b f\.tup [.str (ny (nz ts' n)),!D])(E:b D\.lst us)(B:(nz ts' n).h=0->kr b (Yn (nz ts' n).rows) us)(C:(nz ts' n).h≠0->us=iN (nz ts' n).bs)(M:∀ i∈d,i≠n->(nz ts' i).h=(nz e i).h/\(nz ts' i).bs=(nz e i).bs/\((nz e i).h=0->(nz ts' i).rows=(nz e i).rows)):Xj b g ts' d (bs.set n D) (Zo c (.inl (n:Int)) !f):=by
 let a:n<↑bs:=#v[L.len,L.vl.lt n s]
 let#[N,O,t,_]:=L.tw n s;exists F,q,#v[Jo t,L.keys],by rw[wG,L.len,A]
 intro i j;by_cases z:i=n
 .subst z;show#[f,us,by rw[PX,aP rfl],?_,?_,B,C]
  .rwa[Nh a,aP Z,G]
  .rwa[Nh a,aP Z,E]
 .let#[l,p,u,r,v,w,x]:=L.tw i j;let#[k,J,K]:=M i j z;show#[l,p,#v[PX,aO (λy=>z (Yq.mp y)),u],?_,?_,λy=>?_,λy=>?_]
  .rw[Nh a,aO z];unfold ny at r⊢;rwa[k,m _ _ r]
  .rwa[Nh a,aO z,I i j _ v]
  .rw[k] at y;rwa[K y,(w y).mono m _ _]
  .rw[k] at y;rwa[J,x y]
section
variable{gt:jr}{jh ji:aj}
theorem rf{H w J:Hp}{Q:VK}{E:XK}{p u hd tp:aj}{a:Pl}{m:Md}{n:Nat}{B:jf}{r:jK}{rest:jq}{a1:ba}(W:ZJ H p)(l:LS gt jh ji H a m)(O:Yx a m p)(x3:ZI p H w)(W3:ZJ w p)(e8:H u=Y')(e1:w u\.lst B)(kk:kr w (Yn r) B)(G:WZ r)(a7:(r.map (·.1)).Sublist gt)(F:n∈m.lv)(h0:(nz m.ts n).h=0)(rd:Zu m.ts m.lv m.ho n (n::rest))(wi:Wi (nz m.ts n) (Y9 r))(g:Xj w a.dT m.ts m.lv a.bs a1)(A:∀ c o,c≠a.dT->w c\o->J c\o)(a2:J a.dT\.dK (Zo a1 (.inl (n:Int)) !tp))(e6:J tp\.tup [.str "leaf",!u])(e5:J hd\.lst B)(k:V3 gt jh ji H p a m (λ_ H'=>Q .non H')):
  Y2 gt jh ji [!a.S,.int (n:Nat),!hd] J Q E:=by
 let#[i7,Y]:=W.some;let S3:=l.sx O Y x3;let#[e7,ls,U3,a9]:=S3.sh;let#[a8,X,c9]:=S3.hd;let#[gs,G3]:=S3.gr;let i3:=l.l64;let#[f1,f2,f3,f4]:=rd.facts l.wf g.vl F;let e3:(nz m.ts n).bs=[]:=((l.wf n _ (Yo (g.vl.lt n F))).leaf h0).1;let c1:∀ e9 i,Zw gt e9 i (Y9 r):=Dq G a7;let p0:=Nj l.wf g.vl rd F (t:=Y9 r) h0.symm (λb hb=>nomatch hb) (c1 _ _);let nl:∀ i∈n::rest,i∈m.lv:=λi f=>(f1 i f).1;let i1:∀ i∈m.lv,Wi (nz m.ts i) (nz (m.ts.set n (Y9 r)) i):=λi f=>by
  rw[Qo (g.vl.lt n F)];by_cases z:i=n
  .rwa[aP z,z,wi]
  .rwa[aO z,P2 (l.wf i _ (Yo (g.vl.lt i f))).up]
 obtain⟨cur,ec,pp⟩:∃ cur,X6 (m.ts.set n (Y9 r)) rest\cur/\Vu gt m.ts m.lv n cur (n::rest) []:=by
  cases rest with
  |nil=>show#[1,p0]
  |cons s' rest=>
   let c0:Zu m.ts m.lv m.ho s' (s'::rest):=rd.drop 1 s' Z;let a6:(nz m.ts s').h≠0:=by have:=f2 s' ⋯;lia
   let#[cur,ec]:=F8 l.wf g.vl c0 (nl s' ⋯) a6 p0 i1
   show#[cur,ec,Lg l.wf g.vl c0 (nl s' ⋯) a6 p0 ec]
 let L:nz cur n=Y9 r:=by
  rw[M9 ec (xR.mp f3).1,Qo (g.vl.lt n F),aP rfl]
 let vc:=pp.vl g.vl;let gf:∀ i∈m.lv,nz (Xw m.lv (Y9 r) cur) i=nz cur i:=λi f=>Ld (vc.lt i f) f;let fl:↑(Xw m.lv (Y9 r) cur)=↑m.ts:=YY|||pp.len;let i0:WF gt (Xw m.lv (Y9 r) cur):=CN vc (λi f=>pp.ok i f ⋯) c1
 let c6:∀ j∈m.lv,(nz cur j).bs=(nz m.ts j).bs:=λj M=>by
  by_cases z:j=n
  .rw[z,L,e3];rfl
  .show pp.sh j z
 let a3:∀ i,abv (Xw m.lv (Y9 r) cur) m.lv i=abv m.ts m.lv i:=λi=>Ed (λj M=>#v[gf j M,c6 j M]) i
 let c2:YI w J:=λc xs e=>A _ _ (ZE e g.dict) e;let U6:=U3.frame (Mc U3.sh g.dict X l.dd.1.symm l.dd.2.1.symm λc o n1 _ e=>A c o n1 e);show .mk U6 F e5 (kk.mono c2 _ _) G a7 h0 rd ec λP q a4 R7 N=>?_;let R:∀ i∈m.lv,∃ K fs,J (a.x i)\.ins ji K fs:=λi f=>by
  let#[K,e]:=(U6.sh.tw i f).tw.self;show#[K,_,e]
 let a0:∀ c o,(∀ C K B,o≠.ins C K B)->J c\o->P c\o:=λc o n2 e=>a4 c o (λi f=>by
  let#[K,fs,e']:=R i f;show ZE e e' (n2 _ _ _)) e
 let I:∀ c o,(∀ C K B,o≠.ins C K B)->(∀ B,o≠.dK B)->w c\o->P c\o:=λc o n2 n3 e=>a0 c o n2 (A _ _ (ZE e g.dict (n3 _)) e);let fr:∀ c o,(∀ i∈m.lv,c≠a.x i)->c≠a.dT->w c\o->P c\o:=λc o n2 n3 e=>a4 c o n2 (A _ _ n3 e);let tu:YI w P:=λc xs e=>I c _ #v[] #[] e
 let e0:P u\.lst B:=I _ _ #v[] #[] e1
 let c5:=R7.like (ts':=Xw m.lv (Y9 r) cur) YY gf;let l7:=l.l700;let U:∀ c,J c=Y'->w c=Y':=λc e=>by
  cases z:w c with
  |none=>rfl
  |some o=>
   by_cases y:c=a.dT
   .erw[y,a2] at e
   .erw[A _ _ y z] at e
 let T:∀ i∈m.lv,q[i]!.th=a.as[i]!.th\/w q[i]!.th=Y':=λi f=>(N.th i f).imp id λz=>U _ z;let e4:∀ i∈m.lv,∃ B,w (a.b i)\.lst B:=λi f=>by
  let#[i5,c3,_,_,e,_]:=g.tw i f;show#[c3,e]
 let nb:n<↑a.bs:=#v[g.len,g.vl.lt n F]
 let D:∀ i,(a.bs.set n u).getD i 0=if i=n then u else a.b i:=λi=>Nh nb
 let c4:Xj P a.dT (Xw m.lv (Y9 r) cur) m.lv (a.bs.set n u) (Zo a1 (.inl (n:Int)) !tp):=by
  show Ep (us:=B) (ts':=Xw m.lv (Y9 r) cur) g F (Kd vc) fl tu (λi f o e=>?_) (a0 _ _ #v[] a2) ?_ e0 (λ_=>?_) (λz=>?_) λi f z=>?_
  .let#[c3,e']:=e4 i f;have:=e.symm|||e';cases this;show I _ _ #v[] #[] e
  .rwa[gf n F,L,a0 _ _ #v[] e6]
  .rwa[gf n F,L,kk.mono tu _ _]
  .rw[gf n F,L] at z;show mZ Z z
  .rw[gf i f];exists pp.hh i,pp.sh i z;intro h;rw[pp.old i λy=>by have:=f2 i ((zD.mp y).resolve_left z);lia]
 let s:∀ c o,H c\o->c≠u:=λc o e=>ZW e e8;let#[i2,i4,R0]:=l.shp;let vp:=O.av l Y;let#[i6,a5]:=W3.some;let c7:∀ c o,H c\o->WI a m.lv c->WI { a with as:=q,bs:=a.bs.set n u } m.lv c:=λc o e v i f=>by
  change c≠q[i]!.th/\c≠(a.bs.set n u).getD i 0;rw[D];exists λy=>?_
  .rcases T i f with z|z
   .show(v i f).1 (y|||z)
   .rw[<-y] at z;by_cases cp:c=p
    .erw[cp,a5] at z
    .erw[x3 _ _ e cp] at z
  .by_cases z:i=n
   .rwa[aP z,s _ _ e]
   .rwa[aO z,(v i f).2]
 let c8:=k P { a with as:=q,bs:=a.bs.set n u } #[Xw m.lv (Y9 r) cur,m.lv,m.av,m.ho] (λc o e v=>#[?_,λnp=>?_]) c7 (λxs e=>by
  let e2:=(x3 _ _ e O.lk).symm|||U3.sh.sh.looks;cases e2;show R7.sh.looks)
  #[#[e7,ls,#[c5,i0,Kd vc,λi f=>#v[a3,U3.av i f],λi f=>#v[a3,U3.live i f],by rw[fl];lia],a9],#[_,c4],#[a8,fr _ _ (λi f=>by
   let#[K,fs,e']:=R i f;show ZE (A _ _ l.dd.2.2.symm X) e') l.dd.2.2.symm X,c9],#[gs,G3.frame tu (I _ _ #v[] #[] G3.at_)],?_,l.dd,l.tt,λi f=>?_,λi f=>?_,l.l64,#v[fl,l7]] (QZ W3 λo e=>fr _ o (λi f=>(vp.2.2.2.2.2.2 i f).1) vp.2.2.2.1 e) #[O.lk,O.gl,O.tl,λi f=>?_] Z #v[fl,xW _] (xW _)
 .show c8
 .let#[v1,v2,v3,v4,v5,v6,v7]:=v;exists v1,v2,v3,v4,v5,v6;intro i f;let#[q1,q2]:=v7 i f;show#[λy=>q1 (y|||N.x i f),λy=>q2 (y|||N.ab i f)]
 .show fr c o (λi f=>(v.2.2.2.2.2.2 i f).1) v.2.2.2.1 (x3 _ _ e np)
 .change P a.tl\.lst (iN (zP ↑(Xw m.lv (Y9 r) cur)));rwa[fl,I _ _ #v[] #[] S3.told]
 .let#[q1,q2,q3]:=l.t2 i f;show#[λy=>q1 (y|||N.ab i f),λy=>?_,λy=>q3 (y|||N.ab i f)];let y:a.tl=q[i]!.th:=y;rcases T i f with z|z
  .show q2 (y|||z)
  .erw[<-y,S3.told] at z
 .show (a.bs.set n u).getD i 0≠a.tl/\(a.bs.set n u).getD i 0≠a.lk/\∀ j:Nat,j∈m.lv->(a.bs.set n u).getD i 0≠q[j]!.ab;rw[D];by_cases z:i=n
  .rwa[aP z,#[(s _ _ l.told).symm,(s _ _ R0.sh.looks).symm,λj M=>by rw[N.ab j M];show(s _ _ (R0.tw j M).tw.above).symm]]
  .rw[aO z];let#[q1,q2,q3]:=l.t3 i f;show#[q1,q2,λj M=>#v[N.ab j M,q3 j M]]
 .change q[i]!.ab≠p/\q[i]!.th≠p/\(a.bs.set n u).getD i 0≠p;let#[o1,o2,o3]:=O.tw i f;exists #v[N.ab i f,o1],λy=>?_
  .rcases T i f with z|z
   .show o2 (z.symm|||y)
   .erw[y,a5] at z
  .rw[D];by_cases z:i=n
   .rwa[aP z,(s _ _ Y).symm]
   .rwa[aO z,o3]
end
def q9{a:js}{bs:jq}:ny (YQ a bs)="stem" :=aO (by change (nz a (bs.getD 0 0)).h+1≠0;lia)
def vm{b:jr}{d:js}{i:Nat}{t:ZK}(h:Zw b d i t)(c:t.h=0):∀ a j,Zw b a j t:=λa j=>#[h.ne,h.up,h.inn,h.leaf,λz=>mZ c z]
theorem Cw{g:jr}{a:js}(d:WF g a):∀(k n:Nat),n<↑a->(nz a n).h=k->∃ t:ZK,∀ f j,Zw g f j t
 |0,n,c,e=>#[nz a n,vm (d n _ (Yo c)) e]
 |k+1,n,c,e=>by
  let#[p,_,l,_]:=(d n _ (Yo c)).stem ()
  obtain⟨b,m⟩:∃ b,b∈(nz a n).bs:=sI ()
  let#[i,o]:=l b m;show Cw d k b i ()
section
variable{gt:jr}{jh ji:aj}
theorem ul{H A D:Hp}{Q:VK}{E:XK}{p u hd tp CS CT CH CD:aj}{a:Pl}{m:Md}{n:Nat}{bs rest:jq}{a8 a6:ba}(W:ZJ H p)(l:LS gt jh ji H a m)(O:Yx a m p)(x3:ZI p H A)(W3:ZJ A p)(l4:H u=Y')(i8:A u\.lst (iN bs))(l8:↑bs<=8)(w:n∈m.lv)(h0:(nz m.ts n).h≠0)(T:Zu m.ts m.lv m.ho n (n::rest))(hb:∀ b∈bs,b∈m.lv)(c6:QJ (Zt m.ts bs) (Z' ((nz m.ts n).h:Nat)))(h1:∀ b∈bs,b∉(nz m.ts n).bs->1<=m.ho b)(wi:Wi (nz m.ts n) (YQ m.ts bs))(g:Xj A a.dT m.ts m.lv a.bs a8)(I:∀ c o,c≠a.dT->c≠a.dH->A c\o->D c\o)(c2:D a.dT\.dK (Zo a8 (.inl (n:Int)) !tp))(c1:D a.dH\.dK a6)(i6:Vs a6 m.lv (OJ m.ts n bs m.ho))(c9:D tp\.tup [.str "stem",!u])(l1:D hd\.lst (iN bs))(k:V3 gt jh ji H p a m (λ_ H'=>Q .non H')):
  Y5 gt jh ji CS CT CH CD [!a.S,.int (n:Nat),!hd] D Q E:=by
 let#[n0,a5]:=W.some;let S3:=l.sx O a5 x3;let#[l2,ls,U3,e1]:=S3.sh;let#[l9,a4,m4]:=S3.hd;let#[gs,G3]:=S3.gr;let m6:=l.l64;let#[L',m5,m3,m1,b4,th,e4]:=Gb l.wf g.vl hb c6;let#[f1,f2,f3,f4]:=T.facts l.wf g.vl w;let p0:=Nj l.wf g.vl T w (t:=YQ m.ts bs) th hb e4;let nl:∀ i∈n::rest,i∈m.lv:=λi f=>(f1 i f).1;let l6:∀ i∈m.lv,Wi (nz m.ts i) (nz (m.ts.set n (YQ m.ts bs)) i):=λi f=>by
  rw[Qo (g.vl.lt n w)];by_cases z:i=n
  .rwa[aP z,z,wi]
  .rwa[aO z,P2 (l.wf i _ (Yo (g.vl.lt i f))).up]
 obtain⟨c0,i2⟩:∃ cur,X6 (m.ts.set n (YQ m.ts bs)) rest\cur:=by
  cases rest with
  |nil=>show#[1]
  |cons K rest=>
   let a7:Zu m.ts m.lv m.ho K (K::rest):=T.drop 1 K Z;show F8 l.wf g.vl a7 (nl K ⋯) (by have:=f2 K ⋯;lia) p0 l6
 let l0:(Vb m.ts n bs).find? (λb=>ng (m.ho b=0))=Y':=vN.mpr λb G=>by
  have:=h1 b (yM.mp G).1 (of_decide_eq_true (yM.mp G).2);simp
  lia
 let N:LB m.ts m.lv m.ho n (bs.map λb:Nat=>(b:Int)) bs rest c0:=.mk #[h0,T,Z,hb] c6 i2 l0;let eI:(bs.map λb:Nat=>(b:Int)).map V.int=iN bs:=by rw[zH];rfl
 let U8:=U3.frame (Mc U3.sh g.dict a4 l.dd.1.symm l.dd.2.1.symm I);show .mk (ns:=bs.map λb:Nat=>(b:Int)) U8 w () #v[eI,l1] (by rw[zX];lia) (λhc=>(hc.no N).elim) (λj hc=>(hc.no N).elim) (λj hc=>(hc.no N).elim) (λj hc=>(hc.no N).elim) λm2 q cur hy H9 s a2 R9 Y=>?_
 let#[B,c7,ec,hf]:=hy;let#[_,J,c4,_]:=B;obtain rfl:=CG (ns:=bs.map λb:Nat=>(b:Int)) Z c4;clear c7 c4;let a0:∀ i∈m.lv,∃ dx fs,D (a.x i)\.ins ji dx fs:=λi f=>by
  let#[dx,e]:=(U8.sh.tw i f).tw.self;show#[dx,_,e]
 let e9:∀ i∈m.lv,D (a.ab i)\.lst (iN (m.av i)):=λi f=>(U8.sh.tw i f).tw.above;let P:∀ c o,(∀ C dx us,o≠.ins C dx us)->(∀ us,o≠.lst us)->D c\o->H9 c\o:=λc o n2 n3 e=>a2 _ _ (λi f=>by
  let#[dx,fs,hx]:=a0 i f;show#[ZE e hx (n2 _ _ _),ZE e (e9 i f) (n3 _)]) e
 let l3:∀ c X,(∀ i∈m.lv,c≠a.ab i)->D c\.lst X->H9 c\.lst X:=λc X n1 e=>a2 _ _ (λi f=>by
  let#[dx,fs,hx]:=a0 i f;show#[ZE e hx,n1 i f]) e
 let fr:∀ c o,(∀ i:Nat,i∈m.lv->c≠a.x i/\c≠a.ab i)->c≠a.dT->c≠a.dH->A c\o->H9 c\o:=λc o n2 n3 n4 e=>a2 c o n2 (I _ _ n3 n4 e);let tu:YI A H9:=λc X e=>P _ _ #v[] #[] (I _ _ (ZE e g.dict) (ZE e a4) e)
 let R:∀ c X,(∀ i∈m.lv,c≠a.ab i)->A c\.lst X->H9 c\.lst X:=λc X n1 e=>l3 _ _ n1 (I _ _ (ZE e g.dict) (ZE e a4) e);let r:∀ c o,H c\o->c≠u:=λc o e=>ZW e l4;let#[m0,m7,R0]:=l.shp;let a9:∀ i∈m.lv,u≠a.ab i:=λi f=>(r _ _ (R0.tw i f).tw.above).symm;let i7:=R _ _ a9 i8;let i1:=P _ _ #v[] #[] c2
 let i0:=P _ _ #v[] #[] c1
 let e0:=P _ _ #v[] #[] c9
 clear f1 f2 f3 f4 p0 nl;let#[f1,f2,f3,f4]:=J.facts l.wf g.vl w;let p0:=Nj l.wf g.vl J w (t:=YQ m.ts bs) th hb e4;let nl:∀ i∈n::q,i∈m.lv:=λi f=>(f1 i f).1;let pp:Vu gt m.ts m.lv n cur (n::q) []:=by
  cases q with
  |nil=>erw[X6] at ec;show p0
  |cons K q=>
   let a7:Zu m.ts m.lv m.ho K (K::q):=J.drop 1 K Z;show Lg l.wf g.vl a7 (nl K ⋯) (by have:=f2 K ⋯;lia) p0 ec
 let L:nz cur n=YQ m.ts bs:=by
  rw[M9 ec (xR.mp f3).1,Qo (g.vl.lt n w),aP rfl]
 let vc:=pp.vl g.vl;let#[U,e5]:=Cw l.wf _ n (g.vl.lt n w) Z;let gf:∀ i∈m.lv,nz (Xw m.lv U cur) i=nz cur i:=λi f=>Ld (vc.lt i f) f;let fl:↑(Xw m.lv U cur)=↑m.ts:=YY|||pp.len;let l5:WF gt (Xw m.lv U cur):=CN vc (λi f=>pp.ok i f ⋯) e5
 let c3:∀ i,abv (Xw m.lv U cur) m.lv i=abv cur m.lv i:=λi=>Ed (λj M=>by rw[gf j M]) i
 let e3:∀ j∈m.lv,j≠n->(nz cur j).bs=(nz m.ts j).bs:=λj _ z=>pp.sh j z;let c5:(nz cur n).bs=bs:=by rw[L];rfl
 let i5:∀ b∈Vb m.ts n bs,1<=m.ho b:=λb G=>h1 b (yM.mp G).1 (of_decide_eq_true (yM.mp G).2);let e8:=R9.like (ts':=Xw m.lv U cur) YY gf;let l7:=l.l700;let a3:∀ c,D c=Y'->A c=Y':=λc e=>by
  cases z:A c with
  |none=>rfl
  |some o=>
   by_cases y:c=a.dT
   .erw[y,c2] at e
   .by_cases y2:c=a.dH
    .erw[y2,c1] at e
    .erw[I _ _ y y2 z] at e
 let a1:∀ i∈m.lv,s[i]!.th=a.as[i]!.th\/A s[i]!.th=Y':=λi f=>(Y.th i f).imp id λz=>a3 _ z;let i9:∀ i∈m.lv,∃ us,A (a.b i)\.lst us:=λi f=>by
  let#[m8,e6,_,_,e,_]:=g.tw i f;show#[e6,e]
 let nb:n<↑a.bs:=#v[g.len,g.vl.lt n w]
 let F:∀ i,(a.bs.set n u).getD i 0=if i=n then u else a.b i:=λi=>Nh nb
 let e7:Xj H9 a.dT (Xw m.lv U cur) m.lv (a.bs.set n u) (Zo a8 (.inl (n:Int)) !tp):=by
  show Ep (us:=iN bs) (ts':=Xw m.lv U cur) g w (Kd vc) fl tu (λi f o e=>?_) i1 ?_ i7 (λz=>?_) (λz=>?_) λi f z=>?_
  .let#[e6,e']:=i9 i f;have:=e.symm|||e';cases this;show R _ _ (λj M=>(l.t3 i f).2.2 j M) e
  .rwa[gf n w,L,q9,e0]
  .rw[gf n w,L] at z;rw[th] at z;show mZ z h0
  .rw[gf n w,L];rfl
  .rw[gf i f];exists pp.hh i,pp.sh i z;intro h;rw[pp.old i λy=>by have:=f2 i ((zD.mp y).resolve_left z);lia]
 let vp:=O.av l a5;let#[m9,c8]:=W3.some;let i3:∀ c o,H c\o->WI a m.lv c->WI { a with as:=s,bs:=a.bs.set n u } m.lv c:=λc o e v i f=>by
  change c≠s[i]!.th/\c≠(a.bs.set n u).getD i 0;rw[F];exists λy=>?_
  .rcases a1 i f with z|z
   .show(v i f).1 (y|||z)
   .rw[<-y] at z;by_cases cp:c=p
    .erw[cp,c8] at z
    .erw[x3 _ _ e cp] at z
  .by_cases z:i=n
   .rwa[aP z,r _ _ e]
   .rwa[aO z,(v i f).2]
 let i4:=k H9 { a with as:=s,bs:=a.bs.set n u } #[Xw m.lv U cur,m.lv,Qy m.ts n bs m.av,OJ m.ts n bs m.ho] (λc o e v=>#[?_,λnp=>?_]) i3 (λX e=>by
  let e2:=(x3 _ _ e O.lk).symm|||U3.sh.sh.looks;cases e2;show R9.sh.looks)
  #[#[l2,ls,#[e8,l5,Kd vc,λi f=>#v[c3,Bu g.vl vc w e3 c5 m.av U3.av i f],λi f=>#v[c3,Ba g.vl vc w e3 c5 i5 i f,U3.live i f],by rw[fl];lia],e1],#[_,e7],#[a6,i0,i6],#[gs,G3.frame tu (R _ _ (λi f=>(l.t2 i f).2.2) G3.at_)],?_,l.dd,l.tt,λi f=>?_,λi f=>?_,l.l64,#v[fl,l7]] (QZ W3 λo e=>fr _ o vp.2.2.2.2.2.2 vp.2.2.2.1 vp.2.2.2.2.1 e) #[O.lk,O.gl,O.tl,λi f=>?_] Z #v[fl,xW _] (xW _)
 .show i4
 .let#[v1,v2,v3,v4,v5,v6,v7]:=v;exists v1,v2,v3,v4,v5,v6;intro i f;let#[q1,q2]:=v7 i f;show#[λy=>q1 (y|||Y.x i f),λy=>q2 (y|||Y.ab i f)]
 .show fr c o v.2.2.2.2.2.2 v.2.2.2.1 v.2.2.2.2.1 (x3 _ _ e np)
 .change H9 a.tl\.lst (iN (zP ↑(Xw m.lv U cur)));rwa[fl,R _ _ (λi f=>(l.t2 i f).1) S3.told]
 .let#[q1,q2,q3]:=l.t2 i f;show#[λy=>q1 (y|||Y.ab i f),λy=>?_,λy=>q3 (y|||Y.ab i f)];let y:a.tl=s[i]!.th:=y;rcases a1 i f with z|z
  .show q2 (y|||z)
  .erw[<-y,S3.told] at z
 .show (a.bs.set n u).getD i 0≠a.tl/\(a.bs.set n u).getD i 0≠a.lk/\∀ j:Nat,j∈m.lv->(a.bs.set n u).getD i 0≠s[j]!.ab;rw[F];by_cases z:i=n
  .rwa[aP z,#[(r _ _ l.told).symm,(r _ _ R0.sh.looks).symm,λj M=>by rw[Y.ab j M];show(r _ _ (R0.tw j M).tw.above).symm]]
  .rw[aO z];let#[q1,q2,q3]:=l.t3 i f;show#[q1,q2,λj M=>#v[Y.ab j M,q3 j M]]
 .change s[i]!.ab≠p/\s[i]!.th≠p/\(a.bs.set n u).getD i 0≠p;let#[o1,o2,o3]:=O.tw i f;exists #v[Y.ab i f,o1],λy=>?_
  .rcases a1 i f with z|z
   .show o2 (z.symm|||y)
   .erw[y,c8] at z
  .rw[F];by_cases z:i=n
   .rwa[aP z,(r _ _ a5).symm]
   .rwa[aO z,o3]
end
inductive LD(K:zZ)(x y:V)(H:Hp)(Q:VK):Prop
 |mk(a b:aj)(c:ba)(_:x=!a)(_:y=!b)(_:H a\.dK c)(_:H b\.dK [])(_:Q (.bl c.isEmpty) H)
def xw{X:Cx}(f:X.A.units<cLine):Yz X (az .Eq) (LD X.K):=by
 intro k s J H x y v u Q I E F h;let#[a,b,c,rfl,rfl,o,t,q]:=h;cases E;cases F;let#[_,i,l,C,d]:=Nw I.hok o;let#[_,j,G,D,e]:=Nw I.hok t;let g:=↑C;let w:=↑D;let n:G=[]:=wJ (by rw[<-w];rfl)
 subst n
 cases c with
 |nil=>
  let m:l=[]:=wJ (by rw[<-g];rfl)
  subst m;show PySem.W.keq_eq i j d e f (λ_=>.nil) (Yw I q Z)
 |cons p r=>
  let B:↑l≠0:=by rw[<-g];simp
  show PySem.W.keq_eq (r:=false) i j d e f (λz=>mZ z B) (Yw I q ?_);simp
theorem JD:∀{i l:jr},i.Pairwise (λa b=>a.lt b=X')->l.Pairwise (λa b=>a.lt b=X')->(∀ x∈l,x∈i)->l.Sublist i
 |[],[],_,_,_=>vU.refl _
 |[],x::_,_,_,h=>mZ (h x zT) ⋯
 |g::i,l,hg,hl,h=>by
  let c:=vM.mp hg;by_cases k:g∈l
  .cases l with
   |nil=>simp at k
   |cons x l=>
    let d:=vM.mp hl;let o:x=g:=by
     rcases zD.mp k with e|e
     .show e.symm
     .rcases zD.mp (h x zT) with j|j
      .show j
      .let m:=d.1 g e;let n:=c.1 x j;have:=Mj _ _ m;erw[n] at this
    subst o;show vU.cons₂ _ (JD c.2 d.2 λy f=>?_);rcases zD.mp (h y (zE _ f)) with e|e
    .have:=d.1 y f;erw[e,NT] at this
    .show e
  .show vU.cons _ (JD c.2 hl λy f=>(zD.mp (h y f)).resolve_left λe=>k (e▸f))
def F5(a b:YR):Prop:=Uk b.lo a.lo/\Uk a.hi b.hi
def oZ{s:jr}{a:js}{n b:Nat}(k:WF s a)(t:n<↑a)(i:(nz a n).h≠0)(j:b∈(nz a n).bs):F5 (Z6 (nz a b)) (Z6 (nz a n)):=by
 let d:=k n _ (Yo t);let g:=k b _ (Yo ((d.stem i).2.2.1 b j).1);let c:∀ y∈(nz a b).rows,y∈(nz a n).rows:=λy u=>by
  rwa[(d.stem i).2.2.2,wL.mpr #[b,j,u]]
 let#[#[l,e,q],m,f,r]:=N6 g.ne;let o:=(P2 d.up l (c l e)).1;let p:=(P2 d.up m (c m f)).2;rw[q] at o;rw[r] at p;show#[o,p]
def xg{f:jr}{a:js}{n:Nat}{bs:jq}(k:WF f a)(j:∀ b∈bs,b<↑a/\F5 (Z6 (nz a b)) (Z6 (nz a n))):Wi (nz a n) (YQ a bs):=λr d=>by
 let d:r∈bs.flatMap λb=>(nz a b).rows:=d;let#[b,c,e]:=wL.mp d;let#[g,h,i]:=j b c;let#[l,m]:=P2 (k b _ (Yo g)).up r e;show#[h|||l,m|||i]
theorem Af{a:js}{n:Nat}{bs:jq}(h:nu (Zt a bs)≠Y')(g:∀ b∈bs,(nz a b).h+1=(nz a n).h):QJ (Zt a bs) (Z' ((nz a n).h:Nat)):=by
 exists h;intro i e;cases e;let c:0<↑bs:=by
  cases bs with
  |nil=>show mZ (show nu (Zt a [])=Y' from aO λz=>mZ z.1 (show ¬ 2<=0 by decide)) h
  |cons _ _=>simp
 let f:(Zt a bs).getD 0 .d=Z6 (nz a bs[0]):=by
  rw[zV];unfold Zt;rw[zO,zW c];rfl
 rw[f];have:=g _ (yH c);change (((nz a bs[0]).h:Nat):Int)+1=(((nz a n).h:Nat):Int)
 lia
theorem LV(a:jf):OO a Y' (Z' (-1))=a.dropLast:=by
 rw[rE];unfold OO;change (a.drop 0).take (HT.sIx ↑a ↑a (Z' (-1))-0)=_;rw[mX];change a.take ((if (-1:Int)<0 then ((-1:Int)+(↑a:Int)).toNat else min (-1:Int).toNat ↑a)-0)=_
 rw[aP (by decide),Nat.sub_zero]
 congr 1
 lia
theorem pR{a:jM}(h:nu a≠Y')(l:2<=↑a.dropLast):nu a.dropLast≠Y':=by
 let g:=l;rw[uT] at g;unfold nu at h⊢;split at h
 .rename_i c
  let i:=Yl.mpr c.2.2;let b:∀ j,j<↑a-1->a.dropLast[j]! =a[j]!:=λj e=>by
   rw[zV,zV,List.getElem?_dropLast,aP e]
  let f:2<=↑a.dropLast/\↑a.dropLast<=4/\Mp a.dropLast=X':=#[l,by rw[uT];lia,Yl.mp λj e=>by
   rw[uT] at e;rw[b (j+1) (),b 0 (),b j ()]
   show i j ()]
  intro z;erw[aP f] at z
 .show mZ Z h
def vy{a:js}{n x:Nat}{r:jq}{b:Nat->Nat}(e:(nz a n).bs=r++[x])(c:(nz a n).bs.Nodup):OJ a n r b=PZ b x:=by
 let nx:x∉r:=λz=>by
  rw[e,uO] at c;show c.2.2 x z x ⋯ Z
 funext i
 let d:i∉Vb a n r:=λz=>by
  let#[g,h]:=yM.mp z;show of_decide_eq_true h #v[e,yG _ g]
 let f:i∈P1 a n r↔i=x:=by
  unfold P1;rw[yM,e,zC,zI];show#[λz=>z.1.resolve_left (of_decide_eq_true z.2),λz=>#[.inr z,aM #v[z,nx]]]
 unfold OJ Pf X0 PZ;simp only[f,aO d]
def Dt{R G:Prop}(h:R->G)(r:R):G:=h r
inductive WM(c:jr)(jh ji:aj)(e:jf)(H:Hp)(Q:VK)(_:XK):Prop
 |mk(p d:aj)(b:Nat)(g:Int)(a:Pl)(m:Md)(_:e=[-g,!p,!d,.int (b:Nat)])(_:ZJ H p)(_:H d\.tup (X7 a))(_:LS c jh ji H a m)(_:Yx a m p)(_:b∈m.lv)(_:V3 c jh ji H p a m Q)
abbrev SH:jv:=["_law_way","_law_well_here","_law_state","_law_number","_law_shelf","_law_twigs","_law_holds","_law_grid_here","_law_told","_law_kind","_law_what"]
theorem MK:ZA SH S7 (Zd HI):=Z4
theorem qi{gt:jr}{CS CT CH CD:aj}(F:Zj K "_law_no_look" "_law_no_look" HI f fd)(T:Yd mg)(L:Yh K mg jh ji)(DM:-ZB ZZ 2 jh "hold" V' (UL jh ji))(DG:-ZB (Z8 P w) 68 jh "let_go" V' (VM gt jh ji CH))(DS:-ZD 2 "_law_swept" SX (VU gt))(m7:-ZD 2 "_law_shared" Tn (Xb gt))(m6:-ZB (Z8 P w) 11 jh "change_stem" SY (Y5 gt jh ji CS CT CH CD))(m5:-ZB (Z8 P w) 11 jh "change_leaf" Tc (Y2 gt jh ji)):
  ZL P w K mg kF ZZ 69 f fd S7 (WM gt jh ji):=by
 show F.ko MK λp0 A o4 s H vs Q E hr h=>?_;let#[p,st,b,wy,a,m,rfl,W,n8,g,O,I,k]:=h;let nd:=MK.nd;let hu:=VN hr;let i5:=hr.mono (yR Z:2<=68)
 let c7:=hr.mono (yR Z:11<=68)
 intro Xc;show#[_,ZO (Ps (pv 2) (OM Z (XX (Yf 4 nd) (XX (Yf 5 nd) (XX (Yf 6 nd) (XX (Yf 7 nd) (XX (Yf 8 nd) OC)))))))
  (ZO (Ps (WT hu (pv 5) (pv 3)) (OM Z (XX (Yf 9 nd) (XX (Yf 10 nd) OC))))
  (ZO (Zz (PW.pt (Wf (YF Xi (pv 0) ZN (Zx _)) (Us (YF PH (Zv Fu Z T.len Xk (ZV (pv 5))) ZN (Zx _)))))
   (ZO (QK hu (pv 6) (pv 3) (Z5 Wp (WT hu (pv 6) (pv 3)) ZN) Z)
   (ZU (Zl (NW (Pu (YV (E:=E0) (pv 4) L.cS DM i5 YX (ZV (pv 3)))))))) Z3)
  (ZO (Zz (PW.pt (M8 (YF Xi (pv 0) ZN (Zx _)) (LM (YF QH (WT hu (pv 6) (pv 3)) ZN (Zx _)))))
   (ZO (QK hu (pv 6) (pv 3) (Z5 PL (WT hu (pv 6) (pv 3)) ZN) Z)
   (ZO (Y0 (Zq DS i5 (Zg (pv 5) (pv 6))))
   (ZU (Zl (NW (Pu (YV (E:=E0) (pv 4) L.cS DG hr HE (ZV (pv 3))))))))) Z3)
  (ZO (Zz (PW.pt (Wf (Qm (JB (Zq m7 i5 (QO (pv 5) (pv 6) (pv 3))))) (Wf (YF PH (Zv X1 Z T.len Xk (ZV (pv 10))) ZN (Zx _)) (Us (PW.pt (M8 (YF Xi (pv 9) Y8 (Zx _)) (LM (YF PH (Zv X1 Z T.len Xk (ZV (pv 10))) ZN (Zx _)))))))))
   (ZU (Zl Uc)) Z3)
  (ZO (QK hu (pv 5) (pv 3) (XH (Zg (pv 9) (Lk Kq (pv 10) Ly (Lm (QL QP ZN))))) Z)
  (ZO (Zz (YF Xi (pv 9) Y8 (Zx _)) (ZU (Zl (NW (Pu (YV (E:=E0) (pv 4) L.cS m5 c7 HE (Zg (pv 3) (Lk Kq (pv 10) Ly (Lm (QL QP ZN))))))))) Z3)
  (ZO (QK hu (pv 6) (Zk K (pv 10) (QL QP ZN)) (Z5 Wp (WT hu (pv 6) (Zk K (pv 10) (QL QP ZN))) ZN) Z)
  (ZU (Zl (NW (Pu (YV (E:=E0) (pv 4) L.cS m6 c7 HE (Zg (pv 3) (Lk Kq (pv 10) Ly (Lm (QL QP ZN)))))))))))))))),?_]
 let#[p3,n6]:=W.some;let#[i6,ls,U,c8]:=g.sh;let#[YO,Lw2]:=g.lw;let#[q,t,hH]:=g.hd;let#[gs,G]:=g.gr;let i7:=g.l64;let lh:↑q=↑m.lv:=by have:=congrArg xY hH.1;simpa using this
 let hg:Zh H a.dH (.int (b:Nat)) (Z' (.int (m.ho b:Nat))):=hH.2 b I▸Zh.k (k:=mY (b:Int)) t;let vp:=O.av g n6;let#[m4,B,q1,q2,q3,q4,q5]:=Lw2.tw b I;let q3:H (a.b b)\.lst B:=q3;exists 1,st,1,Zc.of n8,Z,_,1,_,1,_,1,_,1,_,1,Z;exists 2,a.dT,!m4,Z,q1▸Zh.k (k:=mY (b:Int)) Lw2.dict,m4,1,Zc.of q2,Z,_,1,_,1,Z;apply Dt
 case h=>
  intro c1;show#[1,Z,1,XJ (λc=>YA c1) (λc=>#[1,a.dT,YO,Z,Lw2.dict,_,1,Z,1,XJ (λc2=>c1) (λc2=>?_)])];apply Dt
  case h=>
   intro rest;show#[1,Z,1,XJ (λc3=>#[2,a.dH,.int (m.ho b:Nat),Z,hg,_,1,Z,1,XJ (λc4=>?_) (λc4=>rest)]) (λc3=>Zp rest)];let Y:¬ m.ho b=0:=λz=>by
    have:=of_decide_eq_true c4;rw[z] at this;show mZ this (by decide)
   exists 2,a.dH,.int (m.ho b:Nat),Z,hg,_,1,Z,2,a.dH,1,Y3.k (k:=mY (b:Int)) t (YM ())
   let e1:((m.ho b:Nat):Int)-1=((m.ho b-1:Nat):Int):=()
   let R6:=Nb (o':=.dK (Zo q (.inl (b:Int)) (.int (((m.ho b:Nat):Int)-1)))) U.sh t g.dd.2.1.symm;let J:∀ c o,c≠a.dH->H c\o->upd H a.dH (.dK (Zo q (.inl (b:Int)) (.int (((m.ho b:Nat):Int)-1)))) c\o:=λc o n e=>#v[ZM n,e]
   let e8:upd H a.dH (.dK (Zo q (.inl (b:Int)) (.int (((m.ho b:Nat):Int)-1)))) a.dH\.dK (Zo q (.inl (b:Int)) (.int ((m.ho b-1:Nat):Int))):=by rw[ZP,e1]
   generalize upd H a.dH (.dK (Zo q (.inl (b:Int)) (.int (((m.ho b:Nat):Int)-1))))=H6 at R6 J e8⊢;let k6:∀ c o,(∀ us,o≠.dK us)->H c\o->H6 c\o:=λc o n e=>J c o (ZE e t (n _)) e;let o8:YI H H6:=λc ys e=>k6 c _ #[] e
   let l5:Xj H6 a.dT m.ts m.lv a.bs YO:=Lw2.frame o8 (J _ _ g.dd.2.2 Lw2.dict) λi N o e=>by
    let#[tp,us,_,_,e3,_]:=Lw2.tw i N;show k6 _ _ (by let e2:=e.symm|||e3;cases e2;intro _ z;cases z) e
   let#[a6,St]:=B5 U.vl (Va m.ho b);exists 2,a.dT,a.dH,m.ts,m.lv,a6,a.bs,YO,_,Va m.ho b,Z,l5,U.wf,e8,Eo hH I,g.dd.2.2,i7,St.vl,St.sl,St.kp,St.all;intro H7 m2 l8 a8 e4 n0 m8;let k7:∀ c o,(∀ us,o≠.dK us)->H c\o->H7 c\o:=λc o n e=>a8 c o (ZE e Lw2.dict (n _)) (ZE e t (n _)) (k6 c o n e);let R7:=Mc R6 l5.dict e8 g.dd.1.symm g.dd.2.1.symm a8;let U7:=U.frame R7;let#[dS,hS]:=R7.sh.self;exists 1,a.S,dS,1,hS,Z,1,a.S,a.d,a.lk,m.ts,m.lv,m.av,m.ho,a.as,i6,ls,b,Z,U7,G.len,G.up,I,λz=>mZ z Y;intro hp H8 o2 e5 m3 i0 U8 D o0;obtain rfl:a6=o2:=St.one #[U8.vl,D,o0,U8.all];let#[p1,n9]:=(R7.tw b I).tw.self;let i4:=R7.sh.kept;let k8:∀ c o,c≠a.d->(∀ C dx fs,o≠.ins C dx fs)->(∀ j:Nat,j∈m.lv->c≠a.ab j)->H7 c\o->H8 c\o:=λc o n1 ni n2 e=>i0 _ _ n1 (ZE e n9 (ni _ _ _)) n2 e;let l6:∀(c:aj)(o:HO),(∀ us,o≠.lst us)->H7 c\o->∀ j:Nat,j∈m.lv->c≠a.ab j:=λc o n e j hj=>ZE e (R7.tw j hj).tw.above (n _);let a2:∀(c:aj)(x:ba),c≠a.d->H7 c\.dK x->H8 c\.dK x:=λc x n e=>k8 c _ n #v[] (l6 c _ #[] e) e
   let a5:∀(c:aj)(x:jf),(∀ j:Nat,j∈m.lv->c≠a.ab j)->H c\.lst x->H8 c\.lst x:=λc x n e=>by
    let e7:=k7 c _ #[] e
    show k8 c _ (ZE e7 i4) #v[] n e7
   let e0:YI H7 H8:=λc ys e=>k8 c _ (ZE e i4) #v[] (l6 c _ #[] e) e
   let o9:YI H H8:=λc ys e=>e0 _ _ (k7 c _ #[] e)
   let e9:=k H8 a #[m.ts,a6,e5,Va m.ho b] (λc o e v=>?_) (λc o e v i N=>v i (D.subset N)) (λxs e=>by
     let e2:=e.symm|||U.sh.sh.looks;cases e2;show U8.sh.sh.looks) #[#[m3,ls,U8,c8],#[m2,e4.frame e0 (a2 _ _ g.dd.1 e4.dict) λi N o e=>?_],#[l8,a2 _ _ g.dd.2.1 n0,m8],#[gs,G.frame o9 (a5 _ _ (λj hj=>(g.t2 j hj).2.2) G.at_)],a5 _ _ (λj hj=>(g.t2 j hj).1) g.told,g.dd,g.tt,λi N=>g.t2 i (D.subset N),λi N=>?_,xO D.length_le i7,g.l700] ?_ (O.sub (m':=#[m.ts,a6,e5,Va m.ho b]) λi N=>D.subset N) Z (xW _) (uF D.length_le)
   .show e9
   .let#[_,v2,_,v4,v5,_,v7]:=id v;show#[v.sub (m':=#[m.ts,a6,e5,Va m.ho b]) λi N=>D.subset N,λ_=>i0 c o v2 (v7 b I).1 (λj hj=>(v7 j hj).2) (a8 c o v4 v5 (J c o v5 e))]
   .let#[tp,us,_,_,e3,_]:=e4.tw i N;let e2:=e.symm|||e3;cases e2;show k8 _ _ (ZE e i4) #v[] (λj hj=>(g.t3 i (D.subset N)).2.2 j hj) e
   .let#[t1,o7,t3]:=g.t3 i (D.subset N);show#[t1,o7,λj hj=>t3 j (D.subset hj)]
   .show QZ W λo e=>i0 _ o vp.2.1 (vp.2.2.2.2.2.2 b I).1 (λj hj=>(vp.2.2.2.2.2.2 j hj).2) (a8 _ o vp.2.2.2.1 vp.2.2.2.2.1 (J _ o vp.2.2.2.2.1 e))
  let l1:∀ H1,ZC H H1->Q (.bl true) H1:=λH1 s1=>k H1 a m (λc o e v=>#[v,λn1=>s1 _ _ e]) (λ_ _ _ v=>v) (λxs e=>s1 _ _ e) (g.same s1) (W.same s1) O Z () ()
  exists 3,a.dT,a.dH,b,m.ts,m.lv,YO,q,m.ho,Z,Lw2.lawT g.wf G.len G.up,i7,I,t,hH;intro H1 o s1 n7
  cases o with
  |some j=>show#[1,YA (YA (l1 H1 s1))]
  |none=>
   let#[l,l4]:=n7.road Z;let#[rs,rfl]:=l4.ne;let ok:=g.wf b _ (Yo (Lw2.vl.lt b I));let p2:YO.length=↑m.lv:=by have:=congrArg xY Lw2.keys;simpa using this
   let c0:=s1 _ _ q3;show#[1,Zp #[1,a.b b,B,Z,.inl (ZH.of c0),_,1,Z,1,XJ (λc5=>YA (l1 H1 s1)) (λc5=>?_)]];let l2:2<=↑B:=by have:¬ ((↑B:Nat):Int)<2:=of_decide_eq_false #v[c5];lia
   by_cases Y:(nz m.ts b).h=0
   .let ek:ny (nz m.ts b)="leaf" :=aP Y;rw[ek];show#[1,Z,1,Zp (Zp ?_)];exists 2,(1),Z,-1,Z,a.b b,B,Z,ZH.of c0;intro D1 a7;rw[LV];let#[H2,eU,g2,i1]:=Xg a7 (.lst B.dropLast);rw[eU];let M:=s1|||g2;exists YJ;intro tp i9;let#[H3,eU,g3,R]:=Xg i9 (.tup [.str "leaf",!D1]);rw[eU];let X:=g3 _ _ (M _ _ Lw2.dict);exists 2,a.dT,1,Y3.k (k:=mY (b:Int)) X (YM ())
    let J:∀ c o,c≠a.dT->H3 c\o->upd H3 a.dT (.dK (Zo YO (.inl (b:Int)) !tp)) c\o:=λc o n e=>#v[ZM n,e]
    let a1:upd H3 a.dT (.dK (Zo YO (.inl (b:Int)) !tp)) a.dT\.dK (Zo YO (.inl (b:Int)) !tp):=ZP;generalize upd H3 a.dT (.dK (Zo YO (.inl (b:Int)) !tp))=H4 at J a1⊢;let u:∀ c o,c≠a.dT->H2 c\o->H4 c\o:=λc o n e=>J c o n (g3 _ _ e);let y:=Lw2.same M;let R4:=Mc (U.sh.same M) y.dict (M _ _ t) g.dd.1.symm g.dd.2.1.symm λc o n1 _ e=>u c o n1 e;let#[dS,hS]:=R4.sh.self;let a0:=u _ _ (ZE (M _ _ q3) y.dict) (M _ _ q3);show#[1,Z,1,YA #[1,a.S,dS,1,hS,Z,2,(1),Z,-1,Z,a.b b,B,Z,ZH.of a0,λhd i8=>?_]];rw[LV];let#[H6,eU,g6,i3]:=Xg i8 (.lst B.dropLast);rw[eU];let kw:=q4 Y;let o1:↑B=↑(nz m.ts b).rows:=by have:=↑kw;rwa[<-this,zX _]
    let i2:(nz m.ts b).rows.dropLast.Sublist (nz m.ts b).rows:=List.dropLast_sublist _;let sg:((nz m.ts b).rows.map (·.1)).Sublist gt:=JD G.up ok.up λx hx=>by
     let#[r,a3,rfl]:=zL.mp hx;show(ok.inn r a3).1
    let sr:=(i2.map (·.1))|||sg;let kk:kr H2 (Yn (nz m.ts b).rows.dropLast) B.dropLast:=by
     let e1:Yn (nz m.ts b).rows.dropLast=(Yn (nz m.ts b).rows).take (↑B-1):=by
      unfold Yn;rw[List.map_dropLast,rE,zX,o1]
     rwa[e1,rE,(kw.sm M).take _]
    show rf W g O (ZI.of M) (W.same M) (s1.free a7) i1 kk (Gn G.up (λr a3=>(ok.inn r (i2.subset a3)).2) sr (by rw[uT];lia) (by rw[uT];have:=(ok.leaf Y).2;lia)) sr I Y l4 (λr a3=>P2 ok.up r (i2.subset a3)) y (λc o n e=>g6 _ _ (u c o n e)) (g6 _ _ a1) (g6 _ _ (J _ _ (ZE R X) R)) i3 k
   .let ek:ny (nz m.ts b)="stem" :=aO Y;rw[ek];let n3:=q5 Y;subst n3;show#[1,Z,1,YA #[1,a.b b,1,.inl (ZH.of c0),_,1,Z,1,XJ (λc6=>l1 H1 s1) (λc6=>?_)]];let l3:3<=↑(nz m.ts b).bs:=by
     have:¬ ((↑(iN (nz m.ts b).bs):Nat):Int)<3:=of_decide_eq_false #v[c6]
     rw[show ↑(iN (nz m.ts b).bs)=↑(nz m.ts b).bs from zX _] at this
     lia
    let#[k2,k4,kb,_]:=ok.stem Y;let nb:(nz m.ts b).bs≠[]:=qL ()
    obtain⟨r,x,e⟩:∃ r x,(nz m.ts b).bs=r++[x]:=#[_,_,(qQ nb).symm];let lr:↑r+1=↑(nz m.ts b).bs:=by rw[e,zG,xS]
    let ei:(iN (nz m.ts b).bs).dropLast=iN r:=by
     unfold iN;rwa[e,yT,sW]
    let hx:x∈(nz m.ts b).bs:=by rw[e];simp
    let m0:=Lw2.vl.cl b I x hx;let rb:∀ c∈r,c∈(nz m.ts b).bs:=λc hc=>#v[e,yG _ hc]
    let fx:(iN (nz m.ts b).bs)[(iN (nz m.ts b).bs).length-1]?\.int (x:Nat):=by
     rw[show ↑(iN (nz m.ts b).bs)=↑r+1 by unfold iN;rw[zX];lia]
     unfold iN;rw[zO,e];simp
    let c9:1<=↑(iN (nz m.ts b).bs):=by unfold iN;rw[zX];lia
    exists 2,(1),Z,-1,Z,a.b b,1,ZH.of c0;intro D1 a7;rw[LV,ei];let#[H2,eU,g2,i1]:=Xg a7 (.lst (iN r));rw[eU];let M:=s1|||g2;exists YJ;intro tp i9;let#[H3,eU,g3,R]:=Xg i9 (.tup [.str "stem",!D1]);rw[eU];let X:=g3 _ _ (M _ _ Lw2.dict);exists 2,a.dT,1,Y3.k (k:=mY (b:Int)) X (YM ())
    let J:∀ c o,c≠a.dT->H3 c\o->upd H3 a.dT (.dK (Zo YO (.inl (b:Int)) !tp)) c\o:=λc o n e=>#v[ZM n,e]
    let a1:upd H3 a.dT (.dK (Zo YO (.inl (b:Int)) !tp)) a.dT\.dK (Zo YO (.inl (b:Int)) !tp):=ZP;generalize upd H3 a.dT (.dK (Zo YO (.inl (b:Int)) !tp))=H4 at J a1⊢;let u:∀ c o,c≠a.dT->H2 c\o->H4 c\o:=λc o n e=>J c o n (g3 _ _ e);let y:=Lw2.same M;let a9:=u _ _ g.dd.2.2.symm (M _ _ t);let a0:=u _ _ (ZE (M _ _ q3) y.dict) (M _ _ q3);let n5:Zh H4 a.dH (.int (x:Nat)) (Z' (.int (m.ho x:Nat))):=hH.2 x m0▸Zh.k (k:=mY (x:Int)) a9;show#[1,Z,1,Zp ?_];show#[2,(1),Z,.inl #[a.b b,_,-1,.int (x:Nat),Z,Z,ZH.of a0,HN (j:=1) (zY _) c9 fx,a.dH,.int (m.ho x:Nat),Z,n5,_,1,Z,2,(1),Z,.inl #[a.b b,_,-1,.int (x:Nat),Z,Z,ZH.of a0,HN (j:=1) (zY _) c9 fx,a.dH,1,Y3.k (k:=mY (x:Int)) a9 (YM ()),?_]]]
    let a4:∀ c o,c≠a.dH->H4 c\o->upd H4 a.dH (.dK (Zo q (.inl (x:Int)) (.int (((m.ho x:Nat):Int)+1)))) c\o:=λc o n e=>#v[ZM n,e]
    let l7:upd H4 a.dH (.dK (Zo q (.inl (x:Int)) (.int (((m.ho x:Nat):Int)+1)))) a.dH\.dK (Zo q (.inl (x:Int)) (.int (((m.ho x:Nat):Int)+1))):=ZP;generalize upd H4 a.dH (.dK (Zo q (.inl (x:Int)) (.int (((m.ho x:Nat):Int)+1))))=H5 at a4 l7⊢;let m1:∀ c o,c≠a.dT->c≠a.dH->H2 c\o->H5 c\o:=λc o n1 n2 e=>a4 c o n2 (u c o n1 e);let R5:=Mc (U.sh.same M) y.dict (M _ _ t) g.dd.1.symm g.dd.2.1.symm m1;let#[dS,hS]:=R5.sh.self;let o6:=a4 _ _ (ZE a0 a9) a0;exists 1,a.S,dS,1,hS,Z,2,(1),Z,-1,Z,a.b b,1,ZH.of o6;intro hd i8;rw[LV,ei];let#[H6,eU,g6,i3]:=Xg i8 (.lst (iN r));rw[eU];let o3:(nz m.ts b).bs.Nodup:=Lf g.wf (Lw2.vl.lt b I) Y;let ov:nu (Zt m.ts (nz m.ts b).bs)≠Y':=Gg ok Y λc hc=>by
     let l0:=g.wf c _ (Yo (kb c hc).1);show#[l0.ne,l0.ne,Z,P2 l0.up]
    let o5:nu (Zt m.ts r)≠Y':=by
     let e1:(Zt m.ts (nz m.ts b).bs).dropLast=Zt m.ts r:=by
      unfold Zt;rwa[e,yT,sW]
     rw[<-e1];show pR ov ?_;rw[e1];unfold Zt;rw[zX]
     lia
    let n4:Vs (Zo q (.inl (x:Int)) (.int (((m.ho x:Nat):Int)+1))) m.lv (OJ m.ts b r m.ho):=by
     rwa[vy e o3,FW hH m0]
    show ul W g O (ZI.of M) (W.same M) (s1.free a7) i1 () I Y l4 (λc hc=>Lw2.vl.cl b I c (rb c hc)) (Af o5 λc hc=>(kb c (rb c hc)).2) (λc hc z=>mZ (rb c hc) z) (xg g.wf λc hc=>#[(kb c (rb c hc)).1,oZ g.wf (Lw2.vl.lt b I) Y (rb c hc)]) y (λc o n1 n2 e=>g6 _ _ (m1 c o n1 n2 e)) (g6 _ _ (a4 _ _ g.dd.2.2 a1)) (g6 _ _ l7) n4 (g6 _ _ (a4 _ _ (ZE (J _ _ (ZE R X) R) a9) (J _ _ (ZE R X) R))) i3 k
 .exists 2,a.dH,.int (m.ho b:Nat),Z,hg,_,1,Z,2,a.dH,1,Y3.k (k:=mY (b:Int)) t (YM ())
  let R3:=Nb (o':=.dK (Zo q (.inl (b:Int)) (.int (((m.ho b:Nat):Int)+1)))) U.sh t g.dd.2.1.symm;let J:∀ c o,c≠a.dH->H c\o->upd H a.dH (.dK (Zo q (.inl (b:Int)) (.int (((m.ho b:Nat):Int)+1)))) c\o:=λc o n e=>#v[ZM n,e]
  let e6:upd H a.dH (.dK (Zo q (.inl (b:Int)) (.int (((m.ho b:Nat):Int)+1)))) a.dH\.dK (Zo q (.inl (b:Int)) (.int (((m.ho b:Nat):Int)+1))):=ZP;generalize upd H a.dH (.dK (Zo q (.inl (b:Int)) (.int (((m.ho b:Nat):Int)+1))))=H3 at R3 J e6⊢;let#[dS,hS]:=R3.sh.self;let#[dx,l9]:=(R3.tw b I).tw.self;exists 1,a.S,dS,1,hS,Z,1,a.S,a.d,a.lk,m.ts,m.lv,m.av,m.ho,a.as,i6,ls,b,Z,R3,I;intro H4 fr R4;let u:∀ c o,c≠a.dH->(∀ C dx fs,o≠.ins C dx fs)->H c\o->H4 c\o:=λc o n ni e=>fr _ _ (ZE (J c o n e) l9 (ni _ _ _)) (J c o n e);let tu:YI H H4:=λc ys e=>u c _ (ZE e t) #v[] e
  let m9:=fr _ _ (ZE e6 l9) e6;let e9:=k H4 a #[m.ts,m.lv,m.av,PZ m.ho b] (λc o e v=>#[v,λ_=>fr _ _ (v.2.2.2.2.2.2 b I).1 (J c o v.2.2.2.2.1 e)]) (λ_ _ _ v=>v) (λxs e=>by
   let e2:=e.symm|||U.sh.sh.looks;cases e2;show R4.sh.looks) #[#[i6,ls,#[R4,U.wf,U.vl,U.av,λi N=>zR (U.live i N) (tF (show m.ho i<=(if i=b then m.ho i+1 else m.ho i) by split<;>lia) _),U.l800],c8],#[YO,Lw2.frame tu (u _ _ g.dd.2.2 #v[] Lw2.dict) λi N o e=>(by
    let#[tp,us,_,_,e3,_]:=Lw2.tw i N;have:=e.symm|||e3;cases this;show u _ _ (ZE e t) #v[] e)],#[_,m9,FW hH I],#[gs,G.frame tu (u _ _ (ZE G.at_ t) #v[] G.at_)],u _ _ (ZE g.told t) #v[] g.told,g.dd,g.tt,g.t2,g.t3,g.l64,g.l700] (QZ W λo e=>fr _ _ (vp.2.2.2.2.2.2 b I).1 (J _ o vp.2.2.2.2.1 e)) #[O.lk,O.gl,O.tl,O.tw] Z (xW _) (xW _)
  show e9
def Cj{K:zZ}:yK K (.type "list") (.type "list")\true:=by kernel_rfl
theorem GS{l:jr}{a:js}{b:jq}{ho:Nat->Nat}(k:WF l a)(f:Lv a b):∀(n j:Nat),j∈b->VT a (nz a j).h<n->∃ o,Sh a b ho j o
 |0,j,m,h=>mZ h (uL _)
 |n+1,j,m,h=>by
  by_cases c:↑(abv a b j)+ho j=1
  .cases e:abv a b j with
   |nil=>show#[Y',.top c e]
   |cons i r=>
    let d:=OG k f (i:=j) (j:=i) #v[e,zT]
    let p:=f.lt i d.2;let#[o,g]:=GS k f n i d.2 (by have:=Ml p d.1;lia)
    show#[o,.up c e g]
  .show#[Z' j,.here c]
def NI(t:ZK):jr:=if t.h=0 then Yn t.rows else t.bs.map λb:Nat=>KT.int (b:Nat)
theorem N5{H:Hp}:∀(l:jq),kr H (l.map λb:Nat=>KT.int (b:Nat)) (iN l)
 |[]=>.nil
 |b::l=>.cons (.int _) (N5 l)
def D3{H:Hp}{t:ZK}{a:jf}(b:t.h=0->kr H (Yn t.rows) a)(d:t.h≠0->a=iN t.bs):kr H (NI t) a:=by
 unfold NI;by_cases c:t.h=0
 .rwa[aP c,b c]
 .rwa[aO c,d c,N5 _]
def Gw(l:jq)(h:↑l<=100):(KT.tup (l.map λb:Nat=>KT.int (b:Nat))).wide 5=X':=by
 rw[KT.wide,N3];have:(l.map λb:Nat=>KT.int (b:Nat)).all (·.wide (5-1))=X':=by
  rw[vT];show zF.mpr λ_ _=>by simp[KT.wide]
 rw[this,zX,aM h];rfl
def wa{e:jr}{g:js}{i:Nat}{t:ZK}(a:Zw e g i t):(KT.tup (NI t)).wide 5=X':=by
 unfold NI;by_cases c:t.h=0
 .rw[aP c];let j:=(a.leaf c).2;rw[KT.wide,N3];have:(Yn t.rows).all (·.wide (5-1))=X':=by
   unfold Yn;rw[vT];show zF.mpr λr f=>?_;let#[b,d]:=(a.inn r f).2;change (KT.tup [r.1,r.2]).wide 4=X';rw[KT.wide,N3];simp[MR _ 3 b,MR _ 3 d]
  rw[this,show ↑(Yn t.rows)=↑t.rows from zX _,aM (show ↑t.rows<=100 by lia)]
  rfl
 .rw[aO c];have:=(a.stem c).2.1;show Gw _ ()
def xz{L:YR}(h:L.fit):L.kt.wide 5=X':=by
 unfold YR.kt;let a:=MR _ 4 (Jv _ 3 4 h.1 (uF (OF _ 3 h.1)));let b:=MR _ 4 (Jv _ 3 4 h.2 (uF (OF _ 3 h.2)));rw[KT.wide,N3];simp[KT.wide,a,b]
def LS.look{k:jr}{b d:aj}{H f:Hp}{a:Pl}{m:Md}{i:jf}(h:LS k b d H a m)(j:∀ c o,c≠a.lk->H c\o->f c\o)(n:f a.lk\.lst i)(l:↑i<=100):LS k b d f a m:=by
 let#[g,p,U,_]:=h.sh;let LO:=h.lo (H':=f) λc o _ _ q _ e=>j c o q e;show#[#[g,i,#[tr U.sh j n,U.wf,U.vl,U.av,U.live,U.l800],l],LO.lw,LO.hd,LO.gr,LO.told,h.dd,h.tt,h.t2,h.t3,h.l64,h.l700]
abbrev IW:Stmt:=XR (top 35) 14
inductive Yk(jh:aj):Sp
 |mk{S d c:aj}{n:Nat}{a:ba}{b:jf}{H:Hp}{Q:VK}{E:XK}:XB jh H S d c n a b->(∀ p,H p=Y'->Q (!p) (upd H p (.lst b)))->Yk jh [!S] H Q E
theorem vi:ZA T' T' (Zd IW):=Z4
def B3(F:Zj K "looked" "Shelf.looked" IW f fd)(T:Yd mg)(L:Yh K mg jh ji):-ZL ZZ 1 f fd T' (Yk jh):=by
 show F.ko vi λb A a s H g Q E e h=>?_;let#[R,k]:=h;let#[c,d]:=R.self;show#[_,ZU (Zl (VB PF Z T.list Uz (ZV (Xn (pv 0) Z)))),1,_,jh,c,_,.ref _,Z,d,L.cS,L.nl,Z,_,1,.inl (ZH.of R.looks),k]
inductive WS(h:jr)(jh ji:aj)(i:jf)(H:Hp)(Q:VK)(_:XK):Prop
 |mk(g:aj)(j:Nat)(a:Pl)(m:Md)(_:i=[!a.S,.int (j:Nat),!g])(_:LS h jh ji H a m)(_:j∈m.lv)(_:H g\.tup [.str (ny (nz m.ts j)),.ref (a.b j)])(_:∀(d:Hp),(∀ c o,c≠a.lk->H c\o->d c\o)->(∀ e,H a.lk\.lst e->d a.lk\.lst (e++[.int (j:Nat)]))->Q (.bl true) d)
abbrev Rx:jv:=["_law_shelf","_law_number","_law_twig","_law_found"]
theorem Qr:ZA Rx Tx (Zd GF):=Z4
theorem FD{gt:jr}(F:Zj K "_law_seen" "_law_seen" GF f fd)(T:Yd mg)(L:Yh K mg jh ji)(U:-ZB ZZ 2 jh "look" V' (UU jh ji))(R:-ZD 7 "_law_alike" TY (YU 6)):
  ZL P w K mg kF ZZ 8 f fd Tx (WS gt jh ji):=by
 show F.ok Qr (λy H Q E h=>(by let#[_,_,_,_,rfl,_]:=h;rfl)) (λc2 A a9 s N y Q E hr h=>?_)
 let#[tp,j,a,m,rfl,W,z,e2,k]:=h;let nd:=Qr.nd;let a2:=hr.mono (yR Z:2<=7)
 intro Xc;show#[_,ZO (Zs 3 nd (YV (E:=E0) (pv 0) L.cS U a2 YX (ZV (pv 1))))
  (ZO (Zz (PW.pt (Wf (WY (Yy (Zv Wq Z T.isi Xh (Zg (pv 3) (We (v:=.ty "tuple") Z T.tuple QR Z))))) (Wf (YF P4 (Zv X1 Z T.len Xk (ZV (pv 3))) ZN (Zx _)) (Wf (YF P4 (Zk K (pv 3) ZN) (Zk K (pv 2) ZN) (Zx _))
   (Us (WY (Yy (Zv Wq Z T.isi Xh (Zg (Zk K (pv 3) ZN) (We (v:=.ty "list") Z T.list Uz Z)))))))))) UC Z3)
  (ZO (Zz (WY (Yy (Zq R hr (Zg (VB P6 Z T.tuple QR (ZV (Zk K (pv 3) ZN))) (VB P6 Z T.tuple QR (ZV (Zk K (pv 2) ZN))))))) UC Z3)
  (ZO (Y0 (Nl yP sN sM Ks (Zk K (pv 3) ZN)))
  (ZU (Zl Uc))))),?_]
 let#[a5,a7,l,l4]:=W.sh;let#[c5,V]:=W.lw;let G:=l.sh.sh.looks;let#[c6,O,_,_,Y,e4,e5]:=V.tw j z;let Y:N (a.b j)\.lst O:=Y;let a8:=l.wf j _ (Yo (l.vl.lt j z));let X:=l.sh.tw j z;let#[y,w1,w2,w3]:=X.things;let#[ta,c8,c7,a1,a4,c4,c3]:=X.tag;cases a1;let#[o1,o2,o3,o4]:=l.sh.own j z;exists 1,a.S,_,1,l.sh.sh.self.choose_spec,Z,1,a.S,a.d,a.lk,↑m.ts,a5,a7,(j:Int),_,_,_,_,_,_,y,_,1,#[l.sh.sh,l.sh.val j z,X.tw],w1,a4,Ne.symm o3,Ne.symm o2,by lia
 intro H5 l' t p a6 I u g;let eK:(if (Z6 (nz m.ts j)).h>0 then ("stem":Str) else "leaf")=ny (nz m.ts j):=by
  unfold ny;change (if (((nz m.ts j).h:Nat):Int)>0 then ("stem":Str) else "leaf")=_
  by_cases c:(nz m.ts j).h=0
  .rw[aP c,aO ()]
  .rw[aO c,aP ()]
 rw[eK] at g;let x:YI N H5:=λb ys e=>p b _ (ZE e G) e;let B:=x _ _ e2;show#[1,_,_,_,1,.tup g,Lq,1,Zp ?_];show#[1,t,1,.inr (Zc.of g),Z,1,Mw Z ?_];show#[1,.inr (.inl #[t,_,(0),_,Z,Z,Zc.of g,Z,_,Z,.inr (.inl #[tp,_,(0),_,Z,Z,Zc.of B,Z,Z,_,Z,Mw Z ?_])])];show#[1,.inr (.inl #[t,_,(1),_,Z,Z,Zc.of g,Z,_,_,_,_,Z,.lst u,Cj,_,Z,Zp ?_])];show#[1,.inr (.inl #[t,_,(1),_,Z,Z,Zc.of g,Z,l',y,Z,.inl #[ZH.of u,λc0 J=>?_]])];let q:=Zf J (.tup y);let a0:=p _ _ (W.t3 j z).2.1 Y;show#[1,.inr (.inl #[tp,_,(1),_,Z,Z,Zc.of (q _ _ B),Z,a.b j,O,Z,.inl #[ZH.of (q _ _ a0),λc1 M=>?_]])];let C:=Zf M (.tup O);let r:=q|||C;let kV:kr N (NI (nz m.ts j)) y:=D3 w2 w3;let kU:kr N (NI (nz m.ts j)) O:=D3 e4 e5;show#[!c0,!c1,.tup (NI (nz m.ts j)),(5),Z,.tup (C _ _ ZP) ((kV.mono x _ _).sm r),.tup ZP ((kU.mono x _ _).sm r),wa a8,by decide,λH8 s6=>#[1,Zp ?_]]
 let i:=r|||s6;let a3:=i _ _ g;let D:=i _ _ u;show#[1,.inr (.inl #[t,_,(1),_,Z,Z,Zc.of a3,Z,.inl #[Z,_,ZH.of D],l',y,Z,Z,D,?_])];show k _ (λc o n e=>?_) λxs e=>?_
 .rwa[ZM (ZW e I),i _ _ (p _ _ n e)]
 .rw[ZM (ZW e I)];let e6:=e.symm|||G;cases e6;show i _ _ a6
inductive Qf(d:jr)(jh ji:aj)(e:jf)(H:Hp)(Q:VK)(_:XK):Prop
 |mk(c:aj)(l:jq)(a:Pl)(m:Md)(_:e=[!a.S,!c])(_:LS d jh ji H a m)(_:H a.lk\.lst (iN l))(_:H c\.lst (iN l))(_:↑l<=100)(_:∀ b,ZC H b->Q (.bl true) b)
abbrev SE:jv:=["_law_shelf","_law_seen_here","_law_found"]
theorem P7:ZA SE Tb (Zd H0):=Z4
def zg{gt:jr}(F:Zj K "_law_looked" "_law_looked" H0 f fd)(T:Yd mg)(L:Yh K mg jh ji)(I:-ZB ZZ 1 jh "looked" T' (Yk jh))(d:-ZD 7 "_law_alike" TY (YU 6)):
  ZL P w K mg kF ZZ 8 f fd Tb (Qf gt jh ji):=by
 show F.ko P7 λa0 A G s H vs Q E x h=>?_;let#[Y,l,a,m,rfl,S0,r,j,n,k]:=h;let nd:=P7.nd;let i:=x.mono (yR Z:1<=7)
 intro Xc;show#[_,ZO (Zs 2 nd (PJ (E:=E0) (pv 0) L.cS I i YX))
  (ZO (Zz (PW.pt (Wf (WY (Yy (Zv Wq Z T.isi Xh (Zg (pv 2) (We (v:=.ty "list") Z T.list Uz Z))))) (Us (WY (Yy (Zq d x (Zg (VB P6 Z T.tuple QR (ZV (pv 2))) (VB P6 Z T.tuple QR (ZV (pv 1)))))))))) UC Z3)
  (ZO (Y0 (VL yP xQ xP V9 (pv 2) (ZV ZN)))
  (ZU (Zl (Zq d x (Zg (VB P6 Z T.tuple QR (ZV (PJ (E:=E0) (pv 0) L.cS I i YX))) (VB P6 Z T.tuple QR (ZV (pv 1))))))))),?_]
 let#[a1,ls,R]:=S0.shp;let el:=R.sh.looks.symm|||r;cases el;let wN:=Gw l n;show#[1,a.S,_,1,R.sh.self.choose_spec,Z,.mk R.sh λq X=>?_];let#[H1,p,N,t]:=Xg X (.lst (iN l));rw[p];show#[1,_,_,_,1,.lst t,Cj,1,Zp ?_];show#[1,q,1,.inl #[ZH.of t,λt1 z=>?_]];let U:=Zf z (.tup (iN l));show#[1,Y,1,.inl #[ZH.of (U _ _ (N _ _ j)),λt2 B=>?_]];let V:=Zf B (.tup (iN l));show#[!t1,!t2,.tup (l.map λb:Nat=>KT.int (b:Nat)),(5),Z,.tup (V _ _ ZP) (N5 _),.tup ZP (N5 _),wN,by decide,λJ s2=>#[1,Zp ?_]]
 let o:=(U|||V)|||s2;let g:=o _ _ t;exists 1,.inl #[Z,_,ZH.of g],q,_,.int 0,Z,Z,g,YM (by unfold iN;rw[zX];lia)
 let c:ZC H (upd J q (.lst (iN l++[.int 0]))):=UA (N|||o) X;generalize upd J q (.lst (iN l++[.int 0]))=H3 at c⊢;let M:=R.same c;show#[1,a.S,_,1,M.sh.self.choose_spec,Z,.mk M.sh λq' y=>?_];let#[H4,p,O,u]:=Xg y (.lst (iN l));rw[p];show#[q',1,.inl #[ZH.of u,λt3 C=>?_]];let e:=Zf C (.tup (iN l));show#[1,Y,1,.inl #[ZH.of (e _ _ (O _ _ (c _ _ j))),λt4 D=>?_]];let W:=Zf D (.tup (iN l));show#[!t3,!t4,.tup (l.map λb:Nat=>KT.int (b:Nat)),(5),Z,.tup (W _ _ ZP) (N5 _),.tup ZP (N5 _),wN,by decide,λH5 s5=>k H5 ((((c|||O)|||e)|||W)|||s5)]
section
variable{gt:jr}{jh ji:aj}{H H':Hp}{a:Pl}{m m':Md}
def LS.kd(h:LS gt jh ji H a m){c:aj}{o:HO}(e:H c\o)(k:∀ C g l,o≠.ins C g l)(b:∀ f,o≠.dK f)(d:∀ f,o≠.lst f):Zr a m c:=by
 let#[u,w,R]:=h.shp;let#[YO,L]:=h.lw;let#[s,p,_]:=h.hd;let#[#[v,n],q,r]:=R.sh;exists ZE e n (k _ _ _),ZE e q (b _),ZE e r (d _),ZE e L.dict (b _),ZE e p (b _),ZE e h.told (d _);intro i j;let#[g,t]:=(R.tw i j).tw.self;show#[ZE e t (k _ _ _),ZE e (R.tw i j).tw.above (d _)]
def LS.tabs(h:LS gt jh ji H a m){T:aj}{q:Str}(d:ZX H T q)(f:∀ c o,H c\o->Zr a m c->(∀ g,o≠.lst g)->H' c\o):ZX H' T q:=
 ZX.ext d #[λb i e=>f _ _ e (h.kd e #v[] #[] #[]) #[],λb i e=>f _ _ e (h.kd e #v[] #[] #[]) #[]]
def LS.forgot{f:ba}{p:jf}{g:aj}(h:LS gt jh ji H a m)(U:Wl gt jh ji H a.S a.d a.lk m.ts m.lv m.av m.ho a.as f p)(n:H g=Y')(l:∀ b o,b≠a.S->H b\o->H' b\o)(R:Z7 jh ji H' a.S a.d g m.ts m.lv m.av m.ho a.as f []):LS gt jh ji H' { a with lk:=g } m:=by
 let LO:=h.lo (H':=H') λc o q _ _ _ e=>l c o q e;let#[t,k]:=h.lw;let#[u,G]:=h.gr;show#[#[f,[],#[R,U.wf,U.vl,U.av,U.live,U.l800],by simp],LO.lw,LO.hd,LO.gr,LO.told,h.dd,#[ZW h.told n,h.tt.2.1,(ZW G.at_ n).symm],h.t2,λi j=>?_,h.l64,h.l700]
 let#[r,v,s]:=h.t3 i j;let#[w,x,_,_,e,_]:=k.tw i j;show#[r,ZW e n,s]
def Yx.of{p:aj}(v:Zr a m p)(w:WI a m.lv p)(g:a.gl≠p):Yx a m p:=#[v.2.2.1.symm,g,v.2.2.2.2.2.1.symm,λi b=>#[(v.2.2.2.2.2.2 i b).2.symm,(w i b).1.symm,(w i b).2.symm]]
def Jj{b:Pl}(c:X7 b=X7 a):b.gl=a.gl/\b.tl=a.tl/\b.S=a.S:=by
 unfold X7 at c;injection c with e0 e;injection e with _ e;injection e with _ e;injection e with e1 e;injection e with e2 _;show#[V.ref.inj e1,V.ref.inj e2,V.ref.inj e0]
def V3.pre{p:aj}{d:Hp}{Q:VK}(k:V3 gt jh ji H p a m Q)(O:Yx a m p)(x:ZI p H d)(g:ZJ d p):V3 gt jh ji d p a m Q:=λH' i m' h b j=>k H' i m' (λc o e v=>by
 by_cases y:c=p
 .let#[n,f]:=g.some;rw[y] at v⊢;show#[(h _ _ f v).1,λz=>mZ Z z]
 .show h c o (x _ _ e y) v) (λc o e v=>by
 by_cases y:c=p
 .let#[n,f]:=g.some;rw[y] at v⊢;show b _ _ f v
 .show b c o (x _ _ e y) v) λl e=>j l (x _ _ e O.lk)
end
inductive VP(h:jr)(jh ji T:aj):Sp
 |mk{p j g:aj}{a:Pl}{m:Md}{l:jq}{H:Hp}{Q:VK}{E:XK}:ZJ H p->H j\.tup (X7 a)->LS h jh ji H a m->Yx a m p->Yx a m g->g≠p->H a.lk\.lst (iN l)->H g\.lst (iN l)->↑l<=90->↑m.lv<=130->↑m.ts<=500->ZX H T qS ->
  (∀(b:Hp)(d:Pl)(e:Md)(i:jq),(∀ c o,H c\o->Zr a m c->Zr d e c/\(c≠p->c≠g->c≠T->b c\o))->(∀ c o,H c\o->WI a m.lv c->WI d e.lv c)->LS h jh ji b d e->ZJ b p->Yx d e p->X7 d=X7 a->↑e.ts<=↑m.ts+1->↑e.lv<=↑m.lv+1->b d.lk\.lst (iN i)->b g\.lst (iN i)->↑i<=↑l+1->ZX b T qS->Q (.bl true) b) ->
  VP h jh ji T [!p,!j,!g] H Q E
abbrev RV:jv:=["_law_well_here","_law_state","_law_seen_here","_law_shelf","_law_twigs","_law_holds","_law_grid_here","_law_told","_law_way","_law_number","_law_many","_law_good"]
theorem QW:ZA RV S9 (Zd Id):=Z4
theorem AQ{gt:jr}{T0:aj}(F:Zj K "_law_deed" "_law_deed" Id f fd)(T:Yd mg)(L:Yh K mg jh ji)(DP:-ZD 1 "_law_pull" TQ Yp)(DK:-ZD 2 "_law_picked" TR Yb)(o5:-ZD 2 "_law_shared" Tn (Xb gt))(l4:-ZD 11 "_law_put_leaf" Tv (YL gt jh ji))(o3:-ZD 72 "_law_put_stem" Tq (YZ gt jh ji T0))(o1:-ZD 69 "_law_no_look" S7 (WM gt jh ji))(o4:-ZD 8 "_law_seen" Tx (WS gt jh ji))(n4:-ZD 7 "_law_alike" TY (YU 6))(n9:-ZD 2 "_law_label" T1 (Y6 gt))(DN:-ZB ZZ 1 jh "numbers" T' (Xo jh))(DY:-ZB ZZ 1 jh "many" T' (UM jh))(o0:-ZB ZZ 2 jh "label" V' (XW jh ji λtg _ _=>tg))(o2:-ZB ZZ 2 jh "outside" V' (XW jh ji λ_ ho _=>.int ho))(n8:-ZB ZZ 2 jh "holders" V' (XW jh ji λ_ ho us=>.int ((↑us:Nat)+(ho:Nat):Int)))(n5:-ZB ZZ 4 jh "alone" V' (VQ gt jh ji))(l3:-ZB ZZ 1 jh "forget" T' (Xf jh ji))(DO:-ZB ZZ 1 jh "looked" T' (Yk jh)):
  ZL P w K mg kF ZZ 73 f fd S9 (VP gt jh ji T0):=by
 show F.ok QW (λvs H Q E h=>(by cases h;rfl)) (λs9 A r9 s H vs Q E hr h=>?_)
 let#[W,c7,N,O,Os,a0,i6,u,t2,r6,s1,a4,k]:=h;rename_i p st j a m l
 let nd:=QW.nd;let hu:=VN hr;let X:=hr.mono (yR Z:1<=72)
 let a2:=hr.mono (yR Z:2<=72)
 let p4:=hr.mono (yR Z:4<=72)
 let p5:=hr.mono (yR Z:7<=72)
 let p6:=hr.mono (yR Z:8<=72)
 let e7:=hr.mono (yR Z:11<=72)
 let m3:=hr.mono (yR Z:69<=72)
 intro Xc;show#[_,ZO (Ps (pv 1) (OM Z (XX (Yf 3 nd) (XX (Yf 4 nd) (XX (Yf 5 nd) (XX (Yf 6 nd) (XX (Yf 7 nd) OC)))))))
  (ZO (Zs 8 nd (Zq DP X (Zg (pv 0) ZN)))
  (ZO (Zz (YF (xw hr.units0) (pv 4) MF (Zx _)) (ZU (Zl (Zq l4 e7 (QO (pv 0) (pv 1) (Zq DP X (Zg (pv 0) ZN)))))) Z3)
  (ZO (Zs 9 nd (Zq DK a2 (Zg (pv 0) (Zv (P8 Z) Z T.sorted Pd (ZV (pv 4))))))
  (ZO (Zz (YF QH (pv 8) ZN (Zx _)) (ZU (Zl (Zq o1 m3 (OQ (pv 8) (pv 0) (pv 1) (pv 9))))) Z3)
  (ZO (Zz (YF PH (pv 8) ZN (Zx _)) (ZO (Y0 (VL yP xQ xP V9 (pv 2) (ZV (pv 9)))) (ZU (Zl (Zq o4 p6 (QO (pv 3) (pv 9) (WT hu (pv 4) (pv 9))))))) Z3)
  (ZO (Zz (YF Xi (pv 8) ZN (Zx _)) (ZU (Zl (QQ (Zq n4 p5 (Zg (YV (E:=E0) (pv 3) L.cS o0 a2 YX (ZV (pv 9))) (Zq n9 a2 (Zg (pv 4) (pv 9))))) (PR (Vi QH (YV (E:=E0) (pv 3) L.cS n8 a2 YX (ZV (pv 9))) ZN (Zx _)))))) Z3)
  (ZO (Zz (YF Xi (pv 8) ZN (Zx _)) (ZU (Zl (Vi Xi (YV (E:=E0) (pv 3) L.cS n5 p4 YX (ZV (pv 9))) (NW (Pu (Zq o5 a2 (QO (pv 4) (pv 5) (pv 9))))) (Zx _)))) Z3)
  (ZO (Zz (YF Xi (pv 8) ZN (Zx _)) (ZU (Zl (QQ (Vi Xi (PJ (E:=E0) (pv 3) L.cS DY X YX) (Zv X1 Z T.len Xk (ZV (PJ (E:=E0) (pv 3) L.cS DN X YX))) (Zx _)) (PR (Vi Xi (YV (E:=E0) (pv 3) L.cS o2 a2 YX (ZV (pv 9))) (WT hu (pv 5) (pv 9)) (Zx _)))))) Z3)
  (ZO (Zz (YF Xi (pv 8) ZN (Zx _)) (ZU (Zl (Zq l4 e7 (QO (pv 0) (pv 1) (Zq DP X (Zg (pv 0) ZN)))))) Z3)
  (ZO (Zz (YF Xi (pv 8) ZN (Zx _)) (ZO (Zs 10 nd (Zv X1 Z T.len Xk (ZV (pv 7))))
   (ZO (Zs 11 nd (Zq o3 hr (Zg (pv 0) (pv 1))))
   (ZO (Zz (YF Xi (Zv X1 Z T.len Xk (ZV (pv 7))) (pv 10) (Zx _)) (ZO (Y0 (PJ (E:=E0) (pv 3) L.cS l3 X YX)) (ZU (Y0 (Nl yP sN sM Ks (pv 2))))) Z3)
   (ZU (Zl (pv 11)))))) Z3)
  (ZO (Y0 (Nl yP sN sM Ks (pv 2)))
  (ZU (Zl (QQ (NW (Pu (PJ (E:=E0) (pv 3) L.cS l3 X YX))) (PR (Vi (Mm hr.units0) (PJ (E:=E0) (pv 3) L.cS DO X YX) (XT Z1) (Zx _))))))))))))))))),?_]
 let#[t7,r]:=W.some;let r0:=N.l64;let m9:st≠p:=ZE c7 r;let c5:=Os.av N u;let B:∀{c q:aj}{o:HO}{xs:jf},H c\o->H q\.lst xs->(∀ xs,o≠.lst xs)->c≠q:=λe e' n=>ZE e e' (n _);let k0:V3 gt jh ji H p a m Q:=λH' a' m' kp a8 lk o7 W' O' eS e1 e2=>k H' a' m' l (λc o e v=>#[(kp c o e v).1,λJ _ _=>(kp c o e v).2 J]) a8 o7 W' O' eS e1 e2 (lk _ i6) ((kp j _ u c5).2 a0) (xW _) (N.tabs a4 λc o e v nl=>(kp c o e v).2 (B e r nl));let c8:∀ H3,ZI p H H3->ZJ H3 p->V3 gt jh ji H3 p a m Q:=λH3 x3 W3=>k0.pre O x3 W3;let a7:∀ H',ZI p H H'->ZJ H' p->Q (.bl true) H':=λH' x W'=>k H' a m l (λc o e v=>#[v,λJ _ _=>x _ _ e J]) (λ_ _ _ v=>v) (N.sx O r x) W' O Z () () (x _ _ i6 O.lk) (x _ _ u a0) () (N.tabs a4 λc o e v nl=>x _ _ e (B e r nl))
 let i0:∀(H3:Hp),ZI p H H3->ZJ H3 p->∀ b:Int,0<=b->b<16->(YL gt jh ji) [!p,!st,-b] H3 Q E0:=λH3 x3 W3 b b0 b1=>#[p,st,b,a,m,Z,W3,x3 _ _ c7 m9,N.sx O r x3,O,b0,b1,(),(),λH' a' m' fr a8 lk W' S' O' eS et el=>c8 H3 x3 W3 H' a' m' fr a8 lk S' W' O' eS () (by rw[el];simp)]
 exists 1,st,1,Zc.of c7,Z,_,1,_,1,_,1,_,1,_,1,Z;exists 1,p,(16),Z,W,UW (by decide) (by decide)
 intro s2 H1 w0 w1 W1 x1;let#[c4,a5]:=(N.sx O r x1).lw;let r5:↑c4=↑m.lv:=by have:=congrArg xY a5.keys;simpa using this
 exists _,Z;intro e0 i8;let g0:=Zf i8 (.dK []);exists a.dT,e0,c4,Z,Z,g0 _ _ a5.dict,ZP,_,Z;let x2:=x1|||ZI.of g0;let W2:=W1.same g0;let i4:=g0 _ _ a5.dict;generalize upd H1 e0 (.dK [])=H2 at x2 W2 i4⊢
 cases hv:c4.isEmpty with
 |true=>show YA #[3,p,(16),Z,W2,UW (by decide) (by decide),λb H3 b0 b1 W3 x3=>i0 H3 (x2|||x3) W3 b b0 b1]
 |false=>
  show Zp ?_;let l0:0<↑m.lv:=by
   rw[<-r5]
   cases c4 with
   |nil=>cases hv
   |cons _ _=>simp
  let eL:(m.lv.map λi:Nat=>(i:Int)).map V.int=iN m.lv:=by rw[zH];rfl
  exists 2,a.dT,c4,m.lv.map λi:Nat=>(i:Int),Z,i4,(by rw[a5.keys,zH];rfl),P0 a5.vl.up,by simp;lia
  intro q nq;rw[eL];let#[H3,eU,g3,hq]:=Xg nq (.lst (iN m.lv));rw[eU];let r7:q≠p:=by let#[xs,e]:=W2.some;show(ZW e nq).symm
  exists p,q,iN m.lv,Z,W2.same g3,r7,hq,by simpa [iN] using l0,by simp[iN];lia
  intro x H4 n0 W4 hx;let#[b,R,rfl]:=zL.mp hx;let x4:ZI p H H4:=(x2|||ZI.of g3)|||n0;clear x2 W2 i4 g3 hq nq n0 hv;let S4:=N.sx O r x4;let e9:=x4 _ _ c7 m9;let#[Y,ls,D,s3]:=S4.sh;let#[i2,l5]:=S4.lw;let#[p7,m0,hH]:=S4.hd;let#[gs,G]:=S4.gr;let Wt:=D.sh.tw b R;let r8:=N.wf b _ (Yo (N.lt R));let I:=x4 _ _ u a0;let e5:=x4 _ _ i6 O.lk;let p3:∀ H',ZC H4 H'->Zh H' a.dH (.int (b:Nat)) (Z' (.int (m.ho b:Nat))):=λH' s'=>hH.2 b R▸Zh.k (k:=mY (b:Int)) (s' _ _ m0);show#[1,_,1,Z,1,XJ (λc=>?_) (λc=>?_)]
  .show#[4,p,st,b,s2,a,m,Z,W4,e9,S4,O,R,c8 H4 x4 W4]
  clear c;show#[1,_,1,Z,1,XJ (λc=>?_) (λc=>?_)]
  .exists 1,.inl #[Z,_,ZH.of I],1,j,iN l,.int (b:Nat),Z,Z,I,YM (by unfold iN;rw[zX];lia)
   let x6:ZI j H4 (upd H4 j (.lst (iN l++[.int (b:Nat)]))):=λc o e n=>#v[ZM n,e]
   let t:upd H4 j (.lst (iN l++[.int (b:Nat)])) j\.lst (iN l++[.int (b:Nat)]):=ZP;generalize upd H4 j (.lst (iN l++[.int (b:Nat)]))=H6 at x6 t⊢;let S6:=S4.sx Os I x6;let#[s4,l6]:=S6.lw;let#[tp,us,q1,q2,_]:=l6.tw b R;let c9:iN l++[.int (b:Nat)]=iN (l++[b]):=by unfold iN;rw[yT];rfl
   rw[c9] at t;exists 4,a.dT,!tp,Z,q1▸Zh.k (k:=mY (b:Int)) l6.dict,tp,b,a,m,Z,S6,R,q2;intro H7 C r1;let U:=r1 _ (x6 _ _ e5 Os.lk);rw[c9] at U;let f7:∀ c o,H c\o->c≠a.lk->c≠p->c≠j->H7 c\o:=λc o e J n2 n3=>C c o J (x6 _ _ (x4 _ _ e n2) n3);show k H7 a m (l++[b]) (λc o e v=>#[v,λJ n2 _=>f7 c o e v.2.2.1 J n2]) (λ_ _ _ v=>v) (S6.look C U (by unfold iN;rw[zX,zG,xS];lia)) (QZ W4 λo e=>C _ _ O.lk.symm (x6 _ _ e a0.symm)) O Z () () U (C _ _ Os.lk.symm t) (by rw[zG,xS];lia) (N.tabs a4 λc o e v nl=>f7 c o e v.2.2.1 (B e r nl) (B e u nl))
  clear c;show#[1,Z,1,XJ (λc=>?_) (λc=>?_)]
  .exists 1,a.S,_,1,D.sh.sh.self.choose_spec,Z,1,a.S,a.d,a.lk,↑m.ts,Y,_,(b:Int),_,_,_,_,_,1,#[D.sh.sh,D.sh.val b R,Wt.tw];exists 2,a.dT,b,m.ts,m.lv,i2,Z,(l5.lawT N.wf G.len G.up).g,R;intro H7 v7 s7 m7;show#[_,v7,(Z6 (nz m.ts b)).kt,(5),Z,(Wt.tag.mono (ZC.tups s7)).key,m7.key,xz (IK r8),by decide,λH8 s8=>#[1,YA ?_]]
   let i9:=s7|||s8;let U8:=D.frame (D.sh.same i9);exists 1,a.S,_,1,U8.sh.sh.self.choose_spec,Z,1,a.S,a.d,a.lk,↑m.ts,Y,_,(b:Int),_,_,_,_,_,1,#[U8.sh.sh,U8.sh.val b R,(U8.sh.tw b R).tw],_,1,Z;let t3:=D.live b R;let el:↑(iN (m.av b))=↑(abv m.ts m.lv b):=#v[zX,(D.av b R).length_eq]
   let e:∀ x:Bool,x=X'->Q (.bl x) H8:=λx h=>h▸a7 H8 (x4|||ZI.of i9) (W4.same i9);show e _ (aM (show ((↑(iN (m.av b)):Nat):Int)+((m.ho b:Nat):Int)>0 by lia))
  clear c;show#[1,Z,1,XJ (λc=>?_) (λc=>?_)]
  .let#[o,m4]:=GS (ho:=m.ho) N.wf D.vl _ b R (yA _);exists 1,a.S,_,1,D.sh.sh.self.choose_spec,Z,1,a.S,a.d,a.lk,m.ts,m.lv,m.av,m.ho,a.as,Y,_,b,o,Z,D,R,m4;intro H5 s5;exists 3,a.dT,a.dH,b,m.ts,m.lv,i2,p7,m.ho,Z,(l5.same s5).lawT N.wf G.len G.up,r0,R,s5 _ _ m0,hH;intro H6 o' s6 m5;cases m4.uniq m5;let eo:V.bl o.isNone=V.bl (ng (oV o=V.non)):=by
    cases o with
    |none=>rfl
    |some k=>rfl
   exists Z;rwa[aM eo,a7 H6 (x4|||ZI.of (s5.trans s6)) (W4.same (s5|||s6))]
  clear c;show#[1,Z,1,XJ (λc=>?_) (λc=>?_)]
  .let r2:↑Y=↑m.lv:=Iu D.sh;exists 1,a.S,_,1,D.sh.sh.self.choose_spec,Z,a.S,a.d,a.lk,↑m.ts,Y,ls,Z,D.sh.sh;exists 1,a.S,_,1,D.sh.sh.self.choose_spec,Z,a.S,a.d,a.lk,↑m.ts,Y,ls,m.lv.map (λi:Nat=>(i:Int)),Z,D.sh.sh,(by rw[D.sh.keys,zH];rfl),P0 D.vl.up,by simp;lia
   intro q nq;rw[eL];let#[H5,eU,g5,hq]:=Xg nq (.lst (iN m.lv));rw[eU];exists q,1,.inl (ZH.of hq),Z;rw[aM (show V.int ((↑Y:Nat):Int)=V.int ((↑(iN m.lv):Nat):Int) by rw[r2,zX])]
   show#[1,YA ?_];let U5:=D.frame (D.sh.same g5);exists 1,a.S,_,1,U5.sh.sh.self.choose_spec,Z,1,a.S,a.d,a.lk,↑m.ts,Y,_,(b:Int),_,_,_,_,_,1,#[U5.sh.sh,U5.sh.val b R,(U5.sh.tw b R).tw];exists 2,a.dH,.int (m.ho b:Nat),Z,p3 _ g5,Z;rwa[aM Z,a7 H5 (x4|||ZI.of g5) (W4.same g5)]
  clear c;show#[1,Z,1,XJ (λc=>?_) (λc=>?_)]
  .show#[3,p,(16),Z,W4,UW (by decide) (by decide),λb H5 b0 b1 W5 x5=>i0 H5 (x4|||x5) W5 b b0 b1]
  clear c;show#[1,Z,1,XJ (λc=>?_) (λc=>?_)]
  .let l1:=S4.told;exists 1,a.tl,1,.inl (ZH.of l1);exists 2,p,st,a,m,Z,W4,e9,S4,O,l0,(),(),N.tabs a4 λc o e v nl=>x4 _ _ e (B e r nl)
   intro H6 a6 m6 kp a8 lk M W6 O6 eS e1 e2 e3 e4 c3;let#[eg,et,l8]:=Jj eS;let#[t4,i5,_]:=id a4;let t1:=x4 _ _ i5 (ZE i5 r);let al:∀ c o,H c\o->∃ o',H4 c\o':=λc o e=>by
    by_cases y:c=p
    .let#[xs,e']:=W4.some;show#[_,#v[y,e']]
    .show#[_,x4 _ _ e y]
   let a3:∀ c o,H c\o->Zr a m c->Zr a6 m6 c/\(c≠p->c≠T0->H6 c\o):=λc o e v=>by
    let#[o',e']:=al c o e;show#[(kp c o' e' v).1,λJ n2=>(kp c o (x4 _ _ e J) v).2 J n2]
   let a9:∀ c o,H c\o->WI a m.lv c->WI a6 m6.lv c:=λc o e v=>by
    let#[o',e']:=al c o e;show a8 c o' e' v
   let s0:j≠T0:=ZE u i5;let t:=(a3 j _ u c5).2 a0 s0;let l2:H6 a.tl\.lst (iN (zP ↑m6.ts)):=by rwa[<-et,M.told]
   show#[1,a.tl,1,.inl (ZH.of l2),1,Z,1,XJ (λc=>?_) (λc=>?_)]
   .let#[p9,r4,U6,_]:=M.sh;let#[t0,l9]:=U6.sh.sh.self;rw[l8] at l9;exists 1,a.S,_,1,l9,Z,a6.S,a6.d,a6.lk,m6.ts,m6.lv,m6.av,m6.ho,a6.as,p9,r4,congrArg (λz=>[V.ref z]) l8.symm,U6.sh;intro H7 a1 n7 C R7;let o8:=M.forgot U6 n7 C R7;let U:=R7.sh.looks;let i3:Yx a6 m6 j:=.of (a3 j _ u c5).1 (a9 j _ u λi hi=>#[(Os.tw i hi).2.1.symm,(Os.tw i hi).2.2.symm]) #v[eg,Os.gl]
    let v6:=O6.av M W6.some.choose_spec;let i7:∀ c,Zr a6 m6 c->c≠a6.S:=λc v=>v.1;let c1:=C _ _ (i7 _ (a3 j _ u c5).1) t;exists 1,.inl #[Z,_,ZH.of c1],j,1,Z,c1;let x8:ZI j H7 (upd H7 j (.lst [])):=λc o e n=>#v[ZM n,e]
    let e8:upd H7 j (.lst []) j\.lst (iN []):=ZP;generalize upd H7 j (.lst [])=H8 at x8 e8⊢;let m8:a1≠j:=(ZW t n7).symm;let o9:Yx { a6 with lk:=a1 } m6 j:=#[m8,i3.gl,i3.tl,i3.tw];let i1:∀ c o,H6 c\o->c≠a1:=λc o e=>ZW e n7;let#[t6,m2]:=W6.some;show#[1,k H8 { a6 with lk:=a1 } m6 [] (λc o e v=>?_) a9 (o8.sx o9 c1 x8) (QZ W6 λo e=>x8 _ _ (C _ _ (i7 _ v6) e) a0.symm) #[(i1 _ _ m2).symm,O6.gl,O6.tl,O6.tw] eS e2 e4 (x8 _ _ U m8) e8 ⋯ (M.tabs c3 λc o e v nl=>x8 _ _ (C _ _ (i7 _ v) e) (ZE e t (nl _)))]
    let#[v1,v2]:=a3 c o e v;let#[u1,u2,u3,u4,u5,u6,u7]:=v1;let p0:∃ o',H6 c\o':=by
     by_cases y:c=p
     .show#[_,#v[y,m2]]
     .by_cases y2:c=T0
      .let#[t5,p1,_]:=id c3;show#[_,#v[y2,p1]]
      .show#[_,v2 y y2]
    let#[o6,e6]:=p0;show#[#[u1,u2,i1 _ _ e6,u4,u5,u6,u7],λJ n2 n3=>x8 _ _ (C _ _ u1 (v2 J n3)) n2]
   .show#[1,k H6 a6 m6 l (λc o e v=>#[(a3 c o e v).1,λJ _ n3=>(a3 c o e v).2 J n3]) a9 M W6 O6 eS e2 e4 (lk _ e5) t () c3]
  clear c;exists 1,.inl #[Z,_,ZH.of I],j,1,Z,I;let x5:ZI j H4 (upd H4 j (.lst [])):=λc o e n=>#v[ZM n,e]
  let c0:upd H4 j (.lst []) j\.lst (iN []):=ZP;generalize upd H4 j (.lst [])=H5 at x5 c0⊢;let S5:=S4.sx Os I x5;let#[p8,r3,U5,_]:=S5.sh;show#[1,a.S,_,1,U5.sh.sh.self.choose_spec,Z,a.S,a.d,a.lk,m.ts,m.lv,m.av,m.ho,a.as,p8,r3,Z,U5.sh,λH6 a1 n6 c6 R6=>#[1,YA ?_]];let M:=S5.forgot U5 n6 c6 R6;let m1:=R6.sh.looks;show#[1,a.S,_,1,R6.sh.self.choose_spec,Z,.mk R6.sh λq nq=>?_];let#[H7,eU,g7,hq]:=Xg nq (.lst []);rw[eU];exists YJ;intro e0 i8;let#[H8,eU,g8,p2]:=Xg i8 (.lst []);rw[eU];exists q,e0,[],Z,Z,ZH.of (g8 _ _ hq),ZH.of p2;let c2:=g7|||g8;let f8:∀ c o,H c\o->c≠a.S->c≠p->c≠j->H8 c\o:=λc o e J n2 n3=>c2 _ _ (c6 _ _ J (x5 _ _ (x4 _ _ e n2) n3));let l7:∀ c o,H c\o->c≠a1:=λc o e y=>by
   by_cases y1:c=j
   .erw[<-y,y1,c0] at n6
   .by_cases y2:c=p
    .let#[xs,e']:=W4.some;erw[<-y,y2,x5 _ _ e' a0.symm] at n6
    .erw[<-y,x5 _ _ (x4 _ _ e y2) y1] at n6
  let vp:=O.av N r;show k H8 { a with lk:=a1 } m [] (λc o e v=>#[#[v.1,v.2.1,l7 _ _ e,v.2.2.2],λJ n2 _=>f8 c o e v.1 J n2]) (λ_ _ _ v=>v) (M.same c2) (QZ W4 λo e=>c2 _ _ (c6 _ _ vp.1 (x5 _ _ e a0.symm))) #[(l7 _ _ r).symm,O.gl,O.tl,O.tw] Z () () (c2 _ _ m1) (c2 _ _ (c6 _ _ c5.1 c0)) ⋯ (N.tabs a4 λc o e v nl=>f8 c o e v.1 (B e r nl) (B e u nl))
def Yj(a:Pl)(m:Md)(c:aj):Prop:=Zr a m c/\WI a m.lv c/\c≠a.gl
def Yj.off{a:Pl}{m:Md}{c:aj}(h:Yj a m c):Yx a m c:=.of h.1 h.2.1 h.2.2.symm
section
variable{gt gb:jr}{jh ji:aj}{H H':Hp}{a b a':Pl}{m mb m':Md}{p:aj}
def LS.free(h:LS gt jh ji H a m){c:aj}(n:H c=Y'):Yj a m c:=by
 let#[s,y,R]:=h.shp;let#[YO,L]:=h.lw;let#[q,j,_]:=h.hd;let#[#[u,g],k,l]:=R.sh;let d:∀{x:aj}{o:HO},H x\o->c≠x:=λe=>(ZW e n).symm;let#[w,G]:=h.gr;show#[#[d g,d k,d l,d L.dict,d j,d h.told,λi f=>?_],λi f=>#[?_,?_],d G.at_]
 .let#[v,r]:=(R.tw i f).tw.self;show#[d r,d (R.tw i f).tw.above]
 .let#[t,e,_]:=(R.tw i f).things;show d e
 .let#[z,t,_,_,e,_]:=L.tw i f;show d e
def LS.frame(h:LS gt jh ji H a m)(k:YI H H')(d:∀ c o,¬ Yj a m c->H c\o->H' c\o):LS gt jh ji H' a m:=by
 let#[j,r,U,f]:=h.sh;let#[YO,L]:=h.lw;let#[g,q,n]:=h.hd;let#[l,G]:=h.gr;show#[#[j,r,U.frame (U.sh.frame k (λo=>d _ o λz=>z.1.1 Z) (λo=>d _ o λz=>z.1.2.1 Z) (λo=>d _ o λz=>z.1.2.2.1 Z) λi e=>#[λo=>d _ o λz=>(z.1.2.2.2.2.2.2 i e).1 Z,λo=>d _ o λz=>(z.2.1 i e).1 Z,λo=>d _ o λz=>(z.1.2.2.2.2.2.2 i e).2 Z]),f],
  #[YO,L.frame k (d _ _ (λz=>z.1.2.2.2.1 Z) L.dict) λi e o=>d _ o λz=>(z.2.1 i e).2 Z],#[g,d _ _ (λz=>z.1.2.2.2.2.1 Z) q,n],#[l,G.frame k (d _ _ (λz=>z.2.2 Z) G.at_)],d _ _ (λz=>z.1.2.2.2.2.2.1 Z) h.told,h.dd,h.tt,h.t2,h.t3,h.l64,h.l700]
def LS.outk(h:LS gt jh ji H a m){c:aj}{o:HO}(e:H c\o)(q:∀ C k l,o≠.ins C k l)(r:∀ g,o≠.dK g)(d:∀ g,o≠.lst g):Yj a m c:=by
 let#[n,u,R]:=h.shp;let#[YO,L]:=h.lw;let#[t,G]:=h.gr;show#[h.kd e q r d,λi j=>#[?_,?_],ZE e G.at_ (d _)]
 .let#[s,f,_]:=(R.tw i j).things;show ZE e f (d _)
 .let#[v,s,_,_,f,_]:=L.tw i j;show ZE e f (d _)
def Yx.out{d:jf}(o:Yx a m p)(h:LS gt jh ji H a m)(e:H p\.lst d):Yj a m p:=#[o.av h e,λi c=>#[(o.tw i c).2.1.symm,(o.tw i c).2.2.symm],o.gl.symm]
structure VH(gt gb:jr)(jh ji:aj)(H:Hp)(a:Pl)(m:Md)(b:Pl)(mb:Md):Prop where
 la:LS gt jh ji H a m
 lb:LS gb jh ji H b mb
 sep:∀ c,Yj a m c\/Yj b mb c
def VH.swap(t:VH gt gb jh ji H a m b mb):VH gb gt jh ji H b mb a m:=#[t.lb,t.la,λc=>(t.sep c).symm]
def VH.same(t:VH gt gb jh ji H a m b mb)(s:ZC H H'):VH gt gb jh ji H' a m b mb:=#[t.la.same s,t.lb.same s,t.sep]
def VH.step(N:aj->Prop)(t:VH gt gb jh ji H a m b mb)(g:∀ c,N c->Yj b mb c/\∀ h,H c≠Z' (.tup h))(d:∀ c o,H c\o->Yj a m c->Yj a' m' c/\(¬ N c->H' c\o))(f:LS gt jh ji H' a' m'):VH gt gb jh ji H' a' m' b mb:=by
 let i:YI H H':=λc h e=>(d c _ e (t.la.outk e #v[] #[] #[])).2 λz=>(g c z).2 _ e
 show#[f,t.lb.frame i λc o z e=>?_,λc=>?_]
 .show(d _ _ e ((t.sep c).resolve_right z)).2 λy=>z (g c y).1
 .by_cases z:Yj b mb c
  .show .inr z
  .cases e:H c with
   |none=>show .inr (t.lb.free e)
   |some o=>show .inl (d _ _ e ((t.sep c).resolve_right z)).1
end
def Qv(a:jr->Sp):Sp:=λb H Q E=>∃ g,a g b H Q E
def MN{P:am}{w:aw}{K:zZ}{n:jc}{e:aD}{l:Wh}{k:Nat}{f:aj}{m:ao}{o:jv}{p:jr->Sp}(h:∀ g,ZL P w K n e l k f m o (p g)):ZL P w K n e l k f m o (Qv p):=
 #[λj H Q E ⟨g,x⟩=>(h g).len j H Q E x,λA i s H args q j Q E a b c d ⟨g,x⟩=>(h g).run A i s H args q j Q E a b c d x]
inductive VE(jh ji T:aj)(i:jf)(H:Hp)(Q:VK)(_:XK):Prop
 |mk(p:aj)(d e:Nat)(_:i=[!p,.int (d:Nat),.int (e:Nat)])(_:0<d)(_:d<=12)(_:e<=8)(_:ZJ H p)(_:ZX H T qS)(_:∀(b:Hp)(g:aj)(h:jr)(a:Pl)(m:Md),(∀ c o,H c\o->Yj a m c/\(c≠p->c≠T->b c\o))->b g\.tup (X7 a)->LS h jh ji b a m->↑m.ts<=22->ZJ b p->Yx a m p->d<=↑m.lv->↑m.lv<=d+e->ZX b T qS->Q (!g) b)
abbrev Rj:jv:=["_law_well_here","_law_leaves","_law_stems","_law_state","_law_j"]
theorem Ui:ZA Rj Ta (Zd JJ):=Z4
theorem Ae{T:aj}(F:Zj K "_law_begun" "_law_begun" JJ f fd)(X:Yd mg)(L:Yh K mg jh ji)(DI:UN P w K mg kF 1 jh T' (Ul jh))(DG:-ZD 2 "_law_grid" Td UK)(e8:-ZD 11 "_law_put_leaf" Tv (Qv λgt=>YL gt jh ji))(e9:-ZD 72 "_law_put_stem" Tq (Qv λgt=>YZ gt jh ji T)):
  ZL P w K mg kF ZZ 73 f fd Ta (VE jh ji T):=by
 show F.ko Ui λm1 A l6 s H vs Q E hr h=>?_;let#[p,nl,ns,rfl,m4,m0,m5,W,e3,k]:=h;let nd:=Ui.nd;let e0:=hr.mono (yR Z:2<=72)
 let c9:=hr.mono (yR Z:11<=72)
 intro Xc;show#[_,ZO (Zs 3 nd (XH (SM (Gc DI e0 Z L.shelf) MF MF (Zq DG e0 (ZV (pv 0))) (XT Z1))))
  (ZO (Vj PassesOwn.never Z (NR Z X.range (ZV (pv 1))) (Yf 4 nd) (ZU (Zz (WY (Yy (Zq e8 c9 (NY (pv 0) (Zg (pv 3) (pv 4)))))) UC Z3)))
  (ZO (Vj PassesOwn.never Z (NR Z X.range (ZV (pv 2))) (Yf 4 nd) (ZU (Zz (WY (Yy (Zq e9 hr (Zg (pv 0) (pv 3))))) UC Z3)))
  (ZU (Zl (pv 3))))),?_]
 let#[n0,Y]:=W.some;intro S e nS ne z1;let i1:∀ b o,H b\o->upd (upd H e (.own S)) S (.ins jh e []) b\o:=λb o q=>by
  rwa[ZM (ZW q nS),ZM (ZW q ne),q]
 let f1:∀ b,upd (upd H e (.own S)) S (.ins jh e []) b=Y'->H b=Y':=λb q=>by
  cases z:H b with
  |none=>rfl
  |some o=>erw[i1 b o z] at q
 show#[S,e,Z,ZP,λH1 d lk i2 l0 a4 m2 R1=>#[Z,?_]];let e1:ZC H H1:=λb o q=>i2 b o (ZW q nS) (i1 b o q);intro G a9;let g2:=Zf a9 (.dK []);intro B a8;let g3:=Zf a8 (.dK []);let a6:upd (upd H1 G (.dK [])) B (.dK []) G\.dK []:=g3 _ _ ZP;let a5:upd (upd H1 G (.dK [])) B (.dK []) B\.dK []:=ZP;let c1:=g2|||g3;let i0:G≠B:=ZW ZP a8;let a3:H1 B=Y':=g2.free a8;generalize upd (upd H1 G (.dK [])) B (.dK [])=H3 at a6 a5 c1⊢;let c0:=e1|||c1;let R3:=R1.same c1;exists 1,p,Z,W.same c0;intro gl gs gt H4 s4 W4 a2 c7 c8 i6 i7 i9;exists YJ;intro D J;let g5:=Zf J (.lst []);exists YJ;intro N l5;let g6:=Zf l5 (.tup [!S,!G,!B,!gl,!D]);let c2:upd (upd H4 D (.lst [])) N (.tup [!S,!G,!B,!gl,!D]) D\.lst []:=g6 _ _ ZP;let a1:upd (upd H4 D (.lst [])) N (.tup [!S,!G,!B,!gl,!D]) N\.tup [!S,!G,!B,!gl,!D]:=ZP;let a0:=g5|||g6;generalize upd (upd H4 D (.lst [])) N (.tup [!S,!G,!B,!gl,!D])=H6 at c2 a1 a0⊢;let U:=c0 _ _ Y;let I:∀ c o,c≠p->H3 c\o->H6 c\o:=λc o n q=>a0 _ _ (s4 _ _ q n);let#[#[dS,c3],c6,R]:=R3;let m3:H S=Y':=nS;let a7:lk≠p:=(ZW Y (f1 _ a4)).symm;let i3:gl≠p:=λz=>by erw[z,U] at a2
 let e6:D≠p:=λz=>by
  let#[xs,q]:=W4.some;erw[z,q] at J
 let n4:∀ c o,c≠p->H3 c\o->H4 c\o:=λc o n q=>s4 _ _ q n;let A0:LS gt jh ji H6 #[S,d,lk,G,B,gl,D,[],[]] #[[],[],λ_=>[],λ_=>0]:=by
  let e7:Lv [] []:=#[λi h=>(by cases h),λi h=>(by cases h),.nil]
  show#[#[[],[],#[#[#[#[dS,I _ _ (ZE c3 U) c3],I _ _ (ZE c6 U) c6,I _ _ a7 R],Z,λi g=>mZ g ⋯,λi g=>mZ g ⋯,Z,λi g=>mZ g ⋯,λi g=>mZ g ⋯,λi j g=>mZ g ⋯],λi t q=>by simp at q,e7,λi g=>mZ g ⋯,λi g=>mZ g ⋯,by simp],by simp],
   #[[],I _ _ (ZE a6 U) a6,e7,Z,Z,λi g=>mZ g ⋯],#[[],I _ _ (ZE a5 U) a5,Z,λi g=>mZ g ⋯],#[gs,a0 _ _ c7,c8.sm a0,i6,by rw[↑c8,i7],i9],c2,?_,?_,λi g=>mZ g ⋯,λi g=>mZ g ⋯,by simp,by simp]
  .let#[_,c5,_]:=id R1;show#[(ZW c5 a9).symm,(ZW c5 a3).symm,i0]
  .show#[(ZW (n4 _ _ a7 R) J).symm,(ZW c7 J).symm,ZW R a2]
 let O0:Yx #[S,d,lk,G,B,gl,D,[],[]] #[[],[],λ_=>[],λ_=>0] p:=#[a7,i3,e6,λi g=>mZ g ⋯]
 let V0:∀ c o,H c\o->Yj #[S,d,lk,G,B,gl,D,[],[]] #[[],[],λ_=>[],λ_=>0] c/\(c≠p->H6 c\o):=λc o q=>by
  let q1:=e1 _ _ q;let q3:=c0 _ _ q;let l9:c≠D:=by
   by_cases y:c=p
   .rwa[y,e6.symm]
   .show ZW (n4 _ _ y q3) J
  show#[#[#[ZW q nS,ZW q (f1 _ l0),ZW q (f1 _ a4),ZW q1 a9,ZW q1 a3,l9,λi g=>mZ g ⋯],λi g=>mZ g ⋯,ZW q3 a2],λy=>I _ _ y q3]
 let W6:ZJ H6 p:=W4.same a0;let e2:N≠p:=λz=>by
  let#[xs,q]:=W6.some;erw[z,q] at a1
 let#[m6,i4,_]:=id e3;let Tp:T≠p:=ZE i4 Y;let e4:ZX H6 T qS:=ZX.ext e3 #[λb φ e=>(V0 _ _ e).2 (ZE e Y),λb φ e=>(V0 _ _ e).2 (ZE e Y)];let go:∀{H7 H8:Hp}{a a':Pl}{m m':Md},ZJ H7 p->ZX H7 T qS->(∀ c o,H c\o->Yj a m c/\(c≠p->c≠T->H7 c\o))->(∀ c o,H7 c\o->Zr a m c->Zr a' m' c/\(c≠p->c≠T->H8 c\o))->(∀ c o,H7 c\o->WI a m.lv c->WI a' m'.lv c)->X7 a'=X7 a->∀ c o,H c\o->Yj a' m' c/\(c≠p->c≠T->H8 c\o):=λW7 r V M C eS c o q=>by
  let#[#[v1,v2,v3],v4]:=V c o q;let eg:=(Jj eS).1;by_cases y:c=p
  .subst y;let#[xs,q']:=W7.some;show#[#[(M _ _ q' v1).1,C _ _ q' v2,#v[eg,v3]],λz=>mZ Z z]
  .by_cases y2:c=T
   .subst y2;let#[m7,c4,_]:=id r;show#[#[(M _ _ c4 v1).1,C _ _ c4 v2,#v[eg,v3]],λ_ z=>mZ Z z]
   .let q':=v4 y y2;show#[#[(M _ _ q' v1).1,C _ _ q' v2,#v[eg,v3]],(M _ _ q' v1).2]
 show#[1,(nl:Nat),Z,nofun,nofun,Og (n:=((nl:Nat):Int).toNat) (λi σ O=>∃(x:jg)(a:Pl)(m:Md),σ=[Z' !p,Z' (.int (nl:Nat)),Z' (.int (ns:Nat)),Z' !N,x]/\O N\.tup (X7 a)/\ZJ O p/\LS gt jh ji O a m/\Yx a m p/\↑m.ts=i/\↑m.lv=i/\ZX O T qS/\∀ c o,H c\o->Yj a m c/\(c≠p->c≠T->O c\o))
  #[Y',#[S,d,lk,G,B,gl,D,[],[]],#[[],[],λ_=>[],λ_=>0],Z,a1,W6,A0,O0,Z,Z,e4,λc o e=>#[(V0 c o e).1,λn _=>(V0 c o e).2 n]] ?_ ?_]
 .rintro i σ H7 g ⟨x,a,m,rfl,l,W7,A7,O7,l7,v7,r,V7⟩;show#[3,gt,p,N,_,a,m,Z,W7,l,A7,O7,(),(),(),(),λH8 a' m' M C _ W8 A8 O8 eS el ev=>#[1,Zp #[_,a',m',Z,?_,W8,A8,O8,(),by rw[ev,zG,xS];lia,?_,go W7 r V7 (λc o e v=>#[(M c o e v).1,λn1 _=>(M c o e v).2 n1]) C eS]]]
  .rwa[eS,(M _ _ l (A7.tup l)).2 e2]
  .let#[m9,i8]:=W7.some;show A7.tabs r λc o e v nl=>(M c o e v).2 (ZE e i8 (nl _))
 .rintro σ H7 ⟨x,a,m,rfl,l,W7,A7,O7,l7,v7,r,V7⟩;show#[1,(ns:Nat),Z,nofun,nofun,Og (n:=((ns:Nat):Int).toNat) (λi σ O=>∃(x:jg)(a:Pl)(m:Md),σ=[Z' !p,Z' (.int (nl:Nat)),Z' (.int (ns:Nat)),Z' !N,x]/\O N\.tup (X7 a)/\ZJ O p/\LS gt jh ji O a m/\Yx a m p/\↑m.ts<=nl+i/\nl<=↑m.lv/\↑m.lv<=nl+i/\ZX O T qS/\∀ c o,H c\o->Yj a m c/\(c≠p->c≠T->O c\o))
   #[x,a,m,Z,l,W7,A7,O7,(),(),(),r,V7] ?_ ?_]
  .rintro i σ H8 g ⟨x,a,m,rfl,l,W8,A8,O8,l8,v8,u8,u,V8⟩;let#[m8,i5,_]:=id u;show#[2,gt,p,N,a,m,Z,W8,l,A8,O8,(),(),(),u,λH9 a' m' M C _ A9 W9 O9 eS l1 l2 l3 l4 e5=>#[1,Zp #[_,a',m',Z,?_,W9,A9,O9,(),(),(),e5,go W8 u V8 M C eS]]]
   rwa[eS,(M _ _ l (A8.tup l)).2 e2 (ZE l i5)]
  .rintro σ H8 ⟨x,a,m,rfl,l,W8,A8,O8,l8,v8,u8,u,V8⟩;show#[1,k _ N gt a m V8 l A8 () W8 O8 v8 () u]
def yf{K:zZ}{H c:Hp}{a:aj}{d:jf}(m:∀ b o,H b\o->(∀ e,o≠.tbl e)->c b\o)(h:ZH K H a d):ZH K c a d:=by
 rcases h with (h|⟨o,h⟩)|h
 .show .inl (.inl (m _ _ h #[]))
 .show .inl (.inr #[o,m _ _ h #[]])
 .show .inr h
inductive VI(T:aj)(K:zZ)(d:jf)(H:Hp)(Q:VK)(_:XK):Prop
 |mk(a:aj)(b:jz)(_:d=[!a])(_:ZH K H a (b.map V.int))(_:↑b<=63)(_:H T\.tbl ⇑[])(_:∀ c,Q (.bl true) c)
def VH.forget{k p:jr}{f g h:aj}{H j:Hp}{a b:Pl}{m q:Md}{i:ba}{s:jf}(t:VH k p f g H a m b q)(U:Wl k f g H a.S a.d a.lk m.ts m.lv m.av m.ho a.as i s)(n:H h=Y')(l:∀ b o,b≠a.S->H b\o->j b\o)(R:Z7 f g j a.S a.d h m.ts m.lv m.av m.ho a.as i []):VH k p f g j { a with lk:=h } m b q:=by
 let#[u,r]:=U.sh.sh.self;show t.step (λc=>c=a.S) (λc z=>#[(t.sep c).resolve_left λy=>y.1.1 z,λw e=>by erw[z,r] at e]) (λc o e v=>#[#[#[v.1.1,v.1.2.1,ZW e n,v.1.2.2.2],v.2],λy=>l _ _ y e]) (t.la.forgot U n l R)
def VH.sx{h g:jr}{c d p:aj}{H f:Hp}{a b:Pl}{m e:Md}{l:jf}(t:VH h g c d H a m b e)(j:Yx a m p)(k:Yx b e p)(i:H p\.lst l)(x:ZI p H f):VH h g c d f a m b e:=#[t.la.sx j i x,t.lb.sx k i x,t.sep]
abbrev Sx:jv:=["_law_script","_law_state","_law_beside","_law_seen_here","_law_other","_law_k","_law_well_here","_law_number"]
theorem P5:ZA Sx SW (Zd Pv):=Z4
structure Lw2(gA gB:jr)(jh ji T:aj)(H H':Hp)(st sb sn so:aj)(i:Nat)(a:Pl)(m:Md)(b:Pl)(mb:Md)(l1 l2:jq):Prop where
 tw:VH gA gB jh ji H' a m b mb
 ht:H' st\.tup (X7 a)
 hb:H' sb\.tup (X7 b)
 k1:H' a.lk\.lst (iN l1)
 k2:H' b.lk\.lst (iN l2)
 s1:H' sn\.lst (iN l1)
 s2:H' so\.lst (iN l2)
 o1:Yj a m sn/\Yj b mb sn
 o2:Yj a m so/\Yj b mb so
 ne:sn≠so
 ll:↑l1<=i/\↑l2<=i
 lv:↑m.lv<=20+i/\↑m.ts<=22+i
 lb:0<↑mb.lv
 tab:ZX H' T qS
 old:∀ c o,H c\o->(∀ ps,o≠.tbl ps)->Yj a m c/\Yj b mb c/\c≠sn/\c≠so/\H' c\o
inductive Db(gA gB:jr)(jh ji T:aj)(H:Hp)(z st sb sn so:aj):Nat->Tw.St->Hp->Prop
 |mk{i:Nat}{x5 x6 x7:jg}{a b:Pl}{m mb:Md}{l1 l2:jq}{H':Hp}:Lw2 gA gB jh ji T H H' st sb sn so i a m b mb l1 l2->Db gA gB jh ji T H z st sb sn so i [Z' (.ref z),Z' (.ref st),Z' (.ref sb),Z' (.ref sn),Z' (.ref so),x5,x6,x7] H'
theorem A'{T:aj}(F:Zj K "law" "law" Pv f fd)(X:Yd mg)(L:Yh K mg jh ji)(DI:UN P w K mg kF 1 jh T' (Ul jh))(DO:-ZB ZZ 1 jh "looked" T' (Yk jh))(m7:-ZB ZZ 1 jh "forget" T' (Xf jh ji))(DW:-ZD 1 "_law_well" SZ (UI K))(DK:-ZD 2 "_law_picked" TR Yb)(DB:-ZD 73 "_law_begun" Ta (VE jh ji T))(DD:-ZD 73 "_law_deed" S9 (Qv λgt=>VP gt jh ji T))(i7:-ZD 8 "_law_looked" Tb (Qv λgt=>Qf gt jh ji))(p8:-ZD 8 "_law_seen" Tx (Qv λgt=>WS gt jh ji)):
  ZL P w K mg kF ZZ 80 f fd SW (VI T K):=by
 show F.ko P5 λcdv A t3 s H vs Q E hr h=>?_;let#[z,ns,rfl,n4,hn,hT,k]:=h;let nd:=P5.nd;let hu:=VN hr;let W:=hr.to 1;let o3:=hr.to 2;let c1:=hr.to 8;let a2:=hr.to 73;intro Xc;show#[_,ZO (Zs 1 nd (Zq DB a2 (QO (Zq DW W (Zg (pv 0) ZN)) ZN ZN)))
  (ZO (Zs 2 nd (Zq DB a2 (QO (Zq DW W (Zg (pv 0) ZN)) ZN ZN)))
  (ZO (Zz (PW.pt (Wf (Qm (Pu (pv 1))) (Wf (Qm (Pu (pv 2))) (Us (YF (Ju hr.units0) (PJ (E:=E0) (Gc DI o3 Z L.shelf) L.cS DO W YX) (XT Z1) (Zx _)))))) UC Z3)
  (ZO (Y0 (PJ (E:=E0) (Zk K (pv 1) ZN) L.cS m7 W YX))
  (ZO (Y0 (PJ (E:=E0) (Zk K (pv 2) ZN) L.cS m7 W YX))
  (ZO (Zs 3 nd (XT Z1))
  (ZO (Zs 4 nd (XT Z1))
  (ZO (Vj PassesOwn.never Z (Kx Z X.range (Zg ZN (Zv (D0 Z) Z X.max LE (Zg ZN (Zv (qa Z) Z X.min Rm (Zg (Zv X1 Z X.len Xk (ZV (pv 0))) ZN)))))) (Yf 5 nd)
   (ZO (Zs 6 nd (Zq DW W (Zg (pv 0) (pv 5))))
   (ZO (Zz (PW.pt (Wf (WY (Yy (Zq DD a2 (QO (pv 6) (pv 1) (pv 3))))) (Us (WY (Yy (Zq i7 c1 (Zg (Zk K (pv 1) ZN) (pv 3)))))))) UC Z3)
   (ZU (Zz (YF Xi (Z5 Qp (pv 5) ZN) ZN (Zx _))
    (ZO (Zs 7 nd (Zq DK o3 (Zg (pv 6) (Zv (P8 Z) Z X.sorted Pd (ZV (Zk K (pv 2) ZN))))))
    (ZO (Y0 (VL yP xQ xP V9 (pv 4) (ZV (pv 7))))
    (ZU (Zz (WY (Yy (Zq p8 c1 (QO (Zk K (pv 2) ZN) (pv 7) (WT hu (Zk K (pv 2) ZN) (pv 7)))))) UC Z3)))) Z3)))))
  (ZU (Zl (QQ (Zq i7 c1 (Zg (Zk K (pv 1) ZN) (pv 3))) (PR (Zq i7 c1 (Zg (Zk K (pv 2) ZN) (pv 4)))))))))))))),?_]
 let p7:ZX H T qS:=#[⇑[],hT,trivial,λpos cv h=>by simp[PySem.codeAmong] at h]
 obtain⟨M,eM,M3,M61⟩:∃ M:Int,(if (if (61:Int)<(↑(ns.map V.int):Int) then (61:Int) else (↑(ns.map V.int):Int))>13 then (if (61:Int)<(↑(ns.map V.int):Int) then (61:Int) else (↑(ns.map V.int):Int)) else 13)=M/\13<=M/\M<=61:=by
  exists 1,?_
  ·(repeat' split)<;>lia
  ·(repeat' split)<;>lia
 let sq:∀(H3:Hp),(∀ c o,H c\o->(∀ ps,o≠.tbl ps)->H3 c\o)->ZH K H3 z (ns.map V.int):=λH3 t1=>yf t1 n4;exists 1,z,ns,(0),Z,n4,hn,(),by lia
 intro p1 H1 s9 s1 W1;exists p1,(12),(8),Z,by decide,by decide,by decide,W1,ZX.ext p7 (Ye.same s1)
 intro H2 st gA a m V2 r4 A2 t22 W2 O2 v12 u12 i2;let a8:∀ c o,H c\o->(∀ ps,o≠.tbl ps)->Yj a m c/\H2 c\o:=λc o e q=>#[(V2 _ _ (s1 _ _ e)).1,(V2 _ _ (s1 _ _ e)).2 (ZW e s9) (ZE e hT (q _))];exists 1,z,ns,(0),Z,sq _ λc o e q=>(a8 c o e q).2,hn,(),by lia
 intro p2 H3 p3 s3 W3;exists p2,(4),(0),Z,by decide,by decide,by decide,W3,ZX.ext i2 (Ye.same s3)
 intro H4 sb gB b g V4 o4 B4 t22b W4 O4 v4 u4 i3;let#[ps2,l4,_]:=id i2;let t:=s3 _ _ l4;let A3:=A2.same s3;let oT:Yj a m T:=A2.outk l4 #v[] #[] #[]
 let oP:Yj a m p2:=A2.free p3;let#[xs3,l7]:=W3.some;let A4:LS gA jh ji H4 a m:=A3.frame (λc ys e=>(V4 _ _ e).2 (ZE e l7) (ZE e t)) λc o y e=>(V4 _ _ e).2 (λz=>y (z▸oP)) (λz=>y (z▸oT));let T4:VH gA gB jh ji H4 a m b g:=#[A4,B4,λc=>by
  cases e:H3 c with
  |none=>show .inl (A3.free e)
  |some o=>show .inr (V4 _ _ e).1]
 let I:=s3 _ _ r4;let e4:=(V4 _ _ I).2 (ZE I l7) (ZE I t);let N:∀ c o,H c\o->(∀ ps,o≠.tbl ps)->Yj a m c/\Yj b g c/\H4 c\o:=λc o e q=>by
  let#[v1,v2]:=a8 c o e q;let e3:=s3 _ _ v2;show#[v1,(V4 _ _ e3).1,(V4 _ _ e3).2 (ZW v2 p3) (ZE v2 l4 (q _))]
 clear V2 V4 a8 A3 W3 l7 t oT oP I;show#[2,Zp #[2,Zp ?_]];intro S e nS ne z1;let i1:∀ b o,H4 b\o->upd (upd H4 e (.own S)) S (.ins jh e []) b\o:=λb o q=>by
  rwa[ZM (ZW q nS),ZM (ZW q ne),q]
 show#[S,e,Z,ZP,λC d lk fr s0 s8 dl R=>#[Z,?_]];let s5:ZC H4 C:=λb o q=>fr b o (ZW q nS) (i1 b o q);show#[S,_,1,R.self.choose_spec,Z,.mk R λq nq=>?_];let#[H6,eU,g6,hq]:=Xg nq (.lst []);rw[eU];exists YJ;intro e0 s7;let#[H7,eU,g7,r2]:=Xg s7 (.lst []);rw[eU];show#[q,e0,[],Z,Z,ZH.of (g7 _ _ hq),ZH.of r2,1,Zp ?_];let a9:=(s5|||g6)|||g7;clear R fr s0 s8 dl i1;let T7:=T4.same a9;let J:=a9 _ _ e4;let a3:=a9 _ _ o4;let i5:=ZX.ext i3 (Ye.same a9);let e9:∀ c o,H c\o->(∀ ps,o≠.tbl ps)->Yj a m c/\Yj b g c/\H7 c\o:=λc o e q=>#[(N c o e q).1,(N c o e q).2.1,a9 _ _ (N c o e q).2.2];clear T4 A4 B4 e4 o4 N i3;let#[r7,ls,U,_]:=T7.la.sh;show#[1,.inr (.inl #[st,_,(0),!a.S,Z,Z,Zc.of J,Z,a.S,_,_,Z,U.sh.sh.self.choose_spec,Z,a.S,a.d,a.lk,m.ts,m.lv,m.av,m.ho,a.as,r7,ls,Z,U.sh,λH8 o8 n8 a0 R8=>?_])];let T8:=T7.forget U n8 a0 R8;let#[dS,hS]:=U.sh.sh.self;let a4:=a0 _ _ (ZE J hS) J;let G:=a0 _ _ (ZE a3 hS) a3;let c8:=R8.sh.looks;let#[r6,r9,Ub,_]:=T8.lb.sh;show#[1,.inr (.inl #[sb,_,(0),!b.S,Z,Z,Zc.of G,Z,b.S,_,_,Z,Ub.sh.sh.self.choose_spec,Z,b.S,b.d,b.lk,g.ts,g.lv,g.av,g.ho,b.as,r6,r9,Z,Ub.sh,λH9 p0 n9 O R9=>?_])];let T9:=(T8.swap.forget Ub n9 O R9).swap;let#[dSb,l3]:=Ub.sh.sh.self;let e5:=O _ _ (ZE a4 l3) a4;let c9:=O _ _ (ZE G l3) G;let n6:=O _ _ (ZE c8 l3) c8;let n5:=R9.sh.looks;let i0:∀ c o,H c\o->(∀ ps,o≠.tbl ps)->Yj { a with lk:=o8 } m c/\Yj { b with lk:=p0 } g c/\H9 c\o:=λc o e q=>by
  let#[v1,v2,v3]:=e9 c o e q;let e8:=a0 _ _ v1.1.1 v3;show#[#[#[v1.1.1,v1.1.2.1,ZW v3 n8,v1.1.2.2.2],v1.2],#[#[v2.1.1,v2.1.2.1,ZW e8 n9,v2.1.2.2.2],v2.2],O _ _ v2.1.1 e8]
 let i6:ZX H9 T qS:=T8.lb.tabs (T7.la.tabs i5 λc o e v _=>a0 _ _ v.1 e) λc o e v _=>O _ _ v.1 e;exists YJ;intro sn c3;let#[i8,eU,c0,o5]:=Xg c3 (.lst []);rw[eU];exists YJ;intro D a7;let#[p9,eU,n0,r3]:=Xg a7 (.lst []);rw[eU];let j:=c0|||n0;let w0:Lw2 gA gB jh ji T H p9 st sb sn D 0 { a with lk:=o8 } m { b with lk:=p0 } g [] []:=
  #[T9.same j,j _ _ e5,j _ _ c9,j _ _ n6,j _ _ n5,n0 _ _ o5,r3,#[T9.la.free c3,T9.lb.free c3],#[T9.la.free (c0.free a7),T9.lb.free (c0.free a7)],ZW o5 a7,#[zY _,zY _],#[(),()],(),ZX.ext i6 (Ye.same j),λc o e q=>by
   let#[v1,v2,v3]:=i0 c o e q;show#[v1,v2,ZW v3 c3,ZW (c0 _ _ v3) a7,j _ _ v3]]
 clear T7 T8 T9 U Ub R8 R9 e9 i0 i5 i6 J a3 a4 G e5 c9;exists 1,z,ns.map V.int,Z,.inl (sq _ λc o e q=>(w0.old c o e q).2.2.2.2),_,1,_,1,(1),M,congrArg (λz=>[V.int 1,V.int z]) eM,#[(),(),(),()]
 clear eM;show Og (lo:=1) (n:=(M-1).toNat) (Db gA gB jh ji T H z st sb sn D) (.mk w0) ?_ ?_
 .intro i σ H3 hi hP;let#[v]:=hP;rename_i x5 x6 x7 a b m g l1 l2
  let#[ll1,ll2]:=v.ll;let#[lv1,lv2]:=v.lv;exists 2,z,ns,1,sq _ λc o e q=>(v.old c o e q).2.2.2.2,hn,(),by lia
  intro p H4 np r W4;let t4:=v.tw.same r;let#[xs4,o0]:=W4.some;let Y:∀ c o,H3 c\o->c≠p:=λc o e=>ZW e np;let#[ps3,t,_]:=id v.tab;let l6:=r _ _ t;let snT:sn≠T:=ZE v.s1 t;let t7:D≠T:=ZE v.s2 t;let p5:Yj b g T:=t4.lb.outk l6 #v[] #[] #[]
  let c5:Yj b g p:=v.tw.lb.free np;show#[3,gA,.mk W4 (r _ _ v.ht) t4.la (v.tw.la.free np).off v.o1.1.off (Y _ _ v.s1) (r _ _ v.k1) (r _ _ v.s1) () () () (ZX.ext v.tab (Ye.same r)) λC a5 m5 l5 kp r1 m1 W5 O5 eS e1 e2 k5 s5 ll5 i4=>#[1,Zp ?_]]
  let eg:=(Jj eS).1;let ko:∀ c o,H4 c\o->Yj a m c->Yj a5 m5 c/\(c≠p->c≠sn->c≠T->C c\o):=λc o e u=>#[#[(kp c o e u.1).1,r1 c o e u.2.1,#v[eg,u.2.2]],(kp c o e u.1).2]
  let t5:VH gA gB jh ji C a5 m5 b g:=t4.step (λc=>c=p\/c=sn\/c=T) (λc y=>by
   rcases y with y|y|y
   .rwa[y,#[c5,λys e=>by erw[o0] at e]]
   .rwa[y,#[v.o1.2,λys e=>by erw[r _ _ v.s1] at e]]
   .rwa[y,#[p5,λys e=>by erw[l6] at e]]) (λc o e u=>#[(ko c o e u).1,λy=>(ko c o e u).2 (λz=>y (.inl z)) (λz=>y (.inr (.inl z))) (λz=>y (.inr (.inr z)))]) m1
  let kt:∀ c xs,H4 c\.tup xs->C c\.tup xs:=λc xs e=>(ko c _ e (t4.la.outk e #v[] #[] #[])).2 (ZE e o0) (ZE e (r _ _ v.s1)) (ZE e l6)
  let l9:C st\.tup (X7 a5):=#v[eS,kt _ _ (r _ _ v.ht)]
  let a1:=kt _ _ (r _ _ v.hb);let B:¬ Yj b g b.lk:=λy=>y.1.2.2.1 Z;let o6:C b.lk\.lst (iN l2):=(ko _ _ (r _ _ v.k2) ((t4.sep _).resolve_right B)).2 (λy=>B #v[y,c5]) (λy=>B #v[y,v.o1.2]) (λy=>B #v[y,p5])
  let m3:C D\.lst (iN l2):=(ko _ _ (r _ _ v.s2) v.o2.1).2 (Y _ _ v.s2) v.ne.symm t7;let p4:=(ko _ _ (r _ _ v.s1) v.o1.1).1;let c4:=(ko _ _ (r _ _ v.s2) v.o2.1).1;let e7:∀ c o,H c\o->(∀ ps,o≠.tbl ps)->Yj a5 m5 c/\Yj b g c/\c≠sn/\c≠D/\C c\o:=λc o e q=>by
   let#[u1,u2,u3,u4,u5]:=v.old c o e q;let#[w1,w2]:=ko _ _ (r _ _ u5) u1;show#[w1,u2,u3,u4,w2 (Y _ _ u5) u3 (ZE u5 t (q _))]
  show#[1,.inr (.inl #[st,_,(0),!a5.S,Z,Z,Zc.of l9,Z,_,Z,gA,sn,l5,a5,m5,Z,m1,k5,s5,(),λH6 s6=>#[_,Z,Zp ?_]])]
  let t6:=t5.same s6;let W6:=W5.same s6;show#[1,_,1,Z,(by change (0:Int)<4;decide),Z,1,XJ (λc=>?_) (λc=>?_)]
  .let#[r5,i9]:=t6.lb.lw;let lB:=t6.lb.l64;let eL:(g.lv.map λi:Nat=>(i:Int)).map V.int=iN g.lv:=by rw[zH];rfl
   show#[2,.inr (.inl #[sb,_,(1),!b.dT,Z,Z,Zc.of (s6 _ _ a1),Z,b.dT,r5,g.lv.map λi:Nat=>(i:Int),Z,i9.dict,(by rw[i9.keys,zH];rfl),P0 i9.vl.up,by simp;lia,λq nq=>?_])]
   rw[eL];let#[H7,eU,g7,hq]:=Xg nq (.lst (iN g.lv));rw[eU];let W7:=W6.same g7;let t0:q≠p:=by let#[xs,e]:=W6.some;show(ZW e nq).symm
   exists p,q,iN g.lv,Z,W7,t0,hq,by have:=v.lb;simpa [iN] using this,by simp[iN];lia
   intro x H8 x8 W8 hx;let#[n,n7,rfl]:=zL.mp hx;let#[xs7,l8]:=W7.some;let m4:=s6|||g7;let t8:VH gA gB jh ji H8 a5 m5 b g:=(t6.same g7).sx O5 c5.off l8 x8;let f8:∀ c o,c≠p->C c\o->H8 c\o:=λc o n e=>x8 _ _ (m4 _ _ e) n;let c6:=f8 _ _ (Y _ _ v.s2) m3;exists 1,.inl #[Z,_,ZH.of c6],1,D,iN l2,.int (n:Nat),Z,Z,c6,YM (by unfold iN;rw[zX];lia)
   let x9:ZI D H8 (upd H8 D (.lst (iN l2++[.int (n:Nat)]))):=λc o e n=>#v[ZM n,e]
   let m6:upd H8 D (.lst (iN l2++[.int (n:Nat)])) D\.lst (iN l2++[.int (n:Nat)]):=ZP;generalize upd H8 D (.lst (iN l2++[.int (n:Nat)]))=H9 at x9 m6⊢;let c7:iN l2++[.int (n:Nat)]=iN (l2++[n]):=by unfold iN;rw[yT];rfl
   rw[c7] at m6;let t9:=t8.sx c4.off v.o2.2.off c6 x9;let f9:∀ c o,c≠p->c≠D->C c\o->H9 c\o:=λc o n1 n2 e=>x9 _ _ (f8 c o n1 e) n2;let c2:∀ c xs,C c\.tup xs->H9 c\.tup xs:=λc xs e=>f9 _ _ (ZE (m4 _ _ e) l8) (ZE e m3) e;let#[kv9,m8]:=t9.lb.lw;let#[tp,us,q1,q2,_]:=m8.tw n n7;show#[1,.inr (.inl #[sb,_,(0),!b.S,Z,Z,Zc.of (c2 _ _ a1),Z,_,Z,_,Z,.inr (.inl #[sb,_,(1),!b.dT,Z,Z,Zc.of (c2 _ _ a1),Z,_,Z,b.dT,!tp,Z,q1▸Zh.k (k:=mY (n:Int)) m8.dict,gB,tp,n,b,g,Z,t9.lb,n7,q2,λi8 l o9=>#[_,Z,Zp ?_]])])];let r0:b.lk≠p:=λy=>B #v[y,c5]
   let m9:b.lk≠D:=λy=>B #v[y,v.o2.2]
   let m0:=f9 _ _ r0 m9 o6;let a6:=o9 _ m0;rw[c7] at a6;let r8:↑(l2++[n])<=i+1:=by rw[zG,xS];lia
   let o7:=t9.lb.look l a6 (by unfold iN;rw[zX];lia)
   let p6:Yj a5 m5 b.lk:=(t9.sep _).resolve_right B;let t10:=(t9.swap.step (a':=b) (m':=g) (λc=>c=b.lk) (λc y=>#v[y,#[p6,λys e=>by erw[m0] at e]]) (λc o e u=>#[u,λy=>l _ _ y e]) o7).swap
   let l0:∀ c o,c≠p->c≠D->c≠b.lk->C c\o->i8 c\o:=λc o n1 n2 n3 e=>l _ _ n3 (f9 c o n1 n2 e);let e6:∀ c xs,C c\.tup xs->i8 c\.tup xs:=λc xs e=>l _ _ (ZE (c2 _ _ e) m0) (c2 _ _ e);let m2:¬ Yj a5 m5 a5.lk:=λy=>y.1.2.2.1 Z;let t2:Yj a5 m5 p:=O5.out m1 W5.some.choose_spec;show .mk #[t10,e6 _ _ l9,e6 _ _ a1,l0 _ _ (λy=>m2 #v[y,t2]) (λy=>m2 #v[y,c4]) (λy=>m2 #v[y,p6]) k5,a6,l0 _ _ (Y _ _ v.s1) v.ne (λy=>B (by rwa[<-y,v.o1.2])) s5,l _ _ m9.symm m6,#[p4,v.o1.2],#[c4,v.o2.2],v.ne,#[(),r8],#[(),()],v.lb,?_,λc o e q=>?_]
   .show t9.lb.tabs (t8.lb.tabs ((t6.same g7).lb.tabs (ZX.ext i4 (Ye.same m4)) λc o e _ nl=>x8 _ _ e (ZE e l8 (nl _))) λc o e _ nl=>x9 _ _ e (ZE e c6 (nl _))) λc o e u _=>l _ _ u.2.2.1 e
   .let#[u1,u2,u3,u4,u5]:=e7 c o e q;show#[u1,u2,u3,u4,l0 _ _ (Y _ _ (v.old c o e q).2.2.2.2) u4 u2.1.2.2.1 u5]
  .show .mk #[t6,s6 _ _ l9,s6 _ _ a1,s6 _ _ k5,s6 _ _ o6,s6 _ _ s5,s6 _ _ m3,#[p4,v.o1.2],#[c4,v.o2.2],v.ne,#[(),()],#[(),()],v.lb,ZX.ext i4 (Ye.same s6),λc o e q=>by
    let#[u1,u2,u3,u4,u5]:=e7 c o e q;show#[u1,u2,u3,u4,s6 _ _ u5]]
 .intro σ H3 hP;let#[v]:=hP;rename_i x5 x6 x7 a b m g l1 l2
  have:=v.ll;show#[1,.inr (.inl #[st,_,(0),!a.S,Z,Z,Zc.of v.ht,Z,_,Z,gA,sn,l1,a,m,Z,v.tw.la,v.k1,v.s1,(),λH4 r=>#[_,Z,YA ?_]])]
  let t4:=v.tw.same r;show#[1,.inr (.inl #[sb,_,(0),!b.S,Z,Z,Zc.of (r _ _ v.hb),Z,_,Z,gB,D,l2,b,g,Z,t4.lb,r _ _ v.k2,r _ _ v.s2,(),λC s5=>k C])]
noncomputable def xC(K:zZ)(C:aj):Bool:=
 (zA K (!C) "__getattribute__"==Z' (Z' (.builtin "BaseException.__getattribute__")))&&((zA K (!C) "__getattr__"==Z' Y')&&((yU K C (.type "BaseException")==Z' true)&&((yU K C (.type "object")==Z' true) &&
 ((zA K (!C) "__class__"==Z' (Z' (.builtin "object.__class__")))&&((PySem.W.specialIn K (.builtin "object.__class__") "__get__"==Z' (Z' (.builtin "getset_descriptor.__get__")))&&(PySem.W.takesIn K (.builtin "object.__class__")==Z' true))))))
def CO{K:zZ}{C:aj}(h:xC K C=X'):WJ K C:=by
 unfold xC at h;simp only[zQ,beq_iff_eq] at h;let#[a,b,c,d,e,f,g]:=h;show#[a,b,c,d,e,f,g]
def xF(K:zZ)(C a:aj)(f:Str):Bool:=
 xC K C&&(F9 K C&&((zA K (!C) "__init__"==Z' (Z' !a))&&(wH K (!a)&&(yN K (!C)&&((zA K (!C) "__setattr__"==Z' (Z' (.builtin "object.__setattr__"))) &&
 ((zA K (!C) f==Z' Y')&&(vP K C&&Fm K C)))))))
def O3{K:zZ}{C k:aj}{f:Str}(h:xF K C k f=X'):XG K C k f:=by
 unfold xF at h;simp only[zQ,beq_iff_eq] at h;let#[a,b,c,d,e,f,g,i,j]:=h;show#[CO a,b,c,d,e,f,g,i,j]
def JO(K:zZ)(a:jx)(b:je):Bool:=
 (zP ↑a).all λk=>xC K (a.getD k 0)&&((zP ↑a).all (λj=>yK K (.ref (a.getD k 0)) (.ref (a.getD j 0))==Z' (k==j))&&b.all λv=>yK K (.ref (a.getD k 0)) v==Z' true)
def xj{K:zZ}{a:jx}{c:je}(h:JO K a c=X'){k:Nat}(e:k<↑a):WJ K (a.getD k 0)/\(∀ j,j<↑a->yK K (.ref (a.getD k 0)) (.ref (a.getD j 0))\(k==j))/\∀ v∈c,yK K (.ref (a.getD k 0)) v\true:=by
 let b:=zF.mp h k (xL.mpr e);simp only[zQ] at b;show#[CO b.1,λj d=>beq_iff_eq.mp (zF.mp b.2.1 j (xL.mpr d)),λv f=>beq_iff_eq.mp (zF.mp b.2.2 v f)]
variable{jh ji CS CT CH CK CP CB:aj}
def IX{K:zZ}{c:aj}{a:jx}(h:JO K a [.type "ValueError"]=X')(j:↑a=6){k:Nat}(m:k<6)(b:yU K (a.getD k 0) (!c)\true):XC K c (λi=>a.getD i 0) k:=by
 let#[d,e,f]:=xj h (k:=k) ()
 exists d,b,f _ ⋯
 intro i l;have:=e i ()
 rw[this]
 congr 1
 by_cases z:k=i
 .subst z;simp
 .let g:¬ i=k:=λy=>z y.symm;simp[z,g]
abbrev NL:Stmt:=XR (top 5) 0
theorem pK:ZA V' V' (Zd NL):=Z4
def pk{C:aj}(F:Zj K "__init__" "NoTwig.__init__" NL f fd):-ZL ZZ 1 f fd V' (NS K C f "number"):=by
 show F.ok pK (λg H Q E h=>(by let#[_,_,_,rfl,_]:=h;rfl)) (λb A a s H g Q E i h=>?_)
 let#[c,d,y,rfl,e,k]:=h;show#[_,ZU (JM (pv 0) (pv 1) Z),#[2,Qq,d,_,1,e,c,k]]
abbrev Oz:Stmt:=XR (top 6) 0
theorem oY:ZA V' V' (Zd Oz):=Z4
def oG{C:aj}(F:Zj K "__init__" "NotHeld.__init__" Oz f fd):-ZL ZZ 1 f fd V' (NS K C f "number"):=by
 show F.ok oY (λg H Q E h=>(by let#[_,_,_,rfl,_]:=h;rfl)) (λb A a s H g Q E i h=>?_)
 let#[c,d,y,rfl,e,k]:=h;show#[_,ZU (JM (pv 0) (pv 1) Z),#[2,Qq,d,_,1,e,c,k]]
abbrev Od:Stmt:=XR (top 7) 0
theorem p':ZA V' V' (Zd Od):=Z4
def pj{C:aj}(F:Zj K "__init__" "Shared.__init__" Od f fd):-ZL ZZ 1 f fd V' (NS K C f "number"):=by
 show F.ok p' (λg H Q E h=>(by let#[_,_,_,rfl,_]:=h;rfl)) (λb A a s H g Q E i h=>?_)
 let#[c,d,y,rfl,e,k]:=h;show#[_,ZU (JM (pv 0) (pv 1) Z),#[2,Qq,d,_,1,e,c,k]]
def ME{K:zZ}{C f:aj}{m q:Str}{d:aC}{j:jv}{t e:jB}{u:Array (jd)}{s kV o i n ct:ai}(v:zA K (!C) m\Z' !f)(l:K.lookup f\#[s,t,.func (xZ m q (V5 d) (WE d) (Zd d) .none kV o i e n ct),u])(p:wH K (!f)=X')(c:xE K n q=X')(k:yN K (!f)=X')(r:∀ (kV h i:ai) (e:jB) (g ct:ai) (a:je),↑a=↑j->bindArgs (xZ m q (V5 d) (WE d) (Zd d) .none kV h i e g ct) #[a,[]]=pure (j.zip a):=by first|show(λ_ _ _ _ _ _=>lq1 λ_=>rfl)|show(λ_ _ _ _ _ _=>lq2 λ_ _=>rfl)|show(λ_ _ _ _ _ _=>lq3 λ_ _ _=>rfl)|show(λ_ _ _ _ _ _=>lq4 λ_ _ _ _=>rfl)|show(λ_ _ _ _ _ _=>lq5 λ_ _ _ _ _=>rfl)):Zn K C m q d j:=
 #[f,_,#[v,p,k],Vl (st:=d) l c k,(Vl (st:=d) l c k).binds r]
structure Qh(K:zZ)(C:aj)(q:Str)(st:aC)(ps:jv):Prop where
 ex:∃ f fd,zA K (!C) "__init__"=Z' (Z' !f)/\wH K (!f)=X'/\Zj K "__init__" q st f fd/\Z9 K fd ps []
def Mn{K:zZ}{C f:aj}{q:Str}{d:aC}{j:jv}{s e:jB}{t:Array (jd)}{r kV n i m ct:ai}(v:zA K (!C) "__init__"=Z' (Z' !f))(l:K.lookup f\#[r,s,.func (xZ "__init__" q (V5 d) (WE d) (Zd d) .none kV n i e m ct),t])(o:wH K (!f)=X')(c:xE K m q=X')(k:yN K (!f)=X')(p:∀ (kV h i:ai) (e:jB) (g ct:ai) (a:je),↑a=↑j->bindArgs (xZ "__init__" q (V5 d) (WE d) (Zd d) .none kV h i e g ct) #[a,[]]=pure (j.zip a):=by first|show(λ_ _ _ _ _ _=>lq1 λ_=>rfl)|show(λ_ _ _ _ _ _=>lq2 λ_ _=>rfl)|show(λ_ _ _ _ _ _=>lq3 λ_ _ _=>rfl)|show(λ_ _ _ _ _ _=>lq4 λ_ _ _ _=>rfl)|show(λ_ _ _ _ _ _=>lq5 λ_ _ _ _ _=>rfl)):Qh K C q d j:=
 #[f,_,v,o,Vl (st:=d) l c k,(Vl (st:=d) l c k).binds p]
def HC{K:zZ}{x:Str}{f c P:aj}{k:ai}{m:jB}{h:ao}{n:Array (jd)}{b:ai}{d:jB}{i:jA}{g:Array (jd)}(a:zK K ap x\Z' !f)(l:K.lookup f\#[k,m,.func h,n])(e:h.code=!c)(j:K.lookup c\#[b,d,.fields i,g])(v:i[11]?\!P):xG K x\(c,P):=by
 unfold xG;rw[a];simp only;rw[l];simp only;rw[e];simp only;rw[j];simp only;rw[v]
def HU{l:tK}{w:aw}{K:zZ}{h:aD}{mg:jc}{fa cb0 tb0 f33 f39 CB CK CL CS CT CH CD jh ji jN jH jD:aj}(X:K.In h)(G:h.Ns ap mg)(hfa:mg "law"=Z' !fa)(hta:xG K "_law_put_stem"=Z' (cb0,tb0)){od33 an33 od39 an39:jB}{sl33 sl39:Array (jd)}{oc33 kV33 dc33 pm33 cd33 ct33 oc39 kV39 dc39 pm39 cd39 ct39:ai}{t1 t2 t3 t4 t5 t6 t7 t8 t9 t10:Tok}(L1:Zm K mg "is_key" Il TV)(L2:Zm K mg "checked" GC TV)(L3:Zm K mg "fits" KQ TJ)(L4:Zm K mg "has_few_figures" HV TD)(L5:Zm K mg "is_sign" He ["sign"])(L6:Zm K mg "ahead" GQ Ty)(L7:Zm K mg "standing" LY TL)(L8:Zm K mg "checked_rows" Jy TZ)(L9:Zm K mg "own_rows" HX TZ)(L10:Zm K mg "rise" IY ["keys"])(L11:Zm K mg "label_of_rows" Iq TZ)(L12:Zm K mg "label_over" Ig Tz)(L13:Zm K mg "stand_side_by_side" IE Tj)(L14:Zm K mg "is_stem" Ja TK)(L15:Zm K mg "_law_well" K7 SZ)(L16:Zm K mg "_law_pull" HB TQ)(L17:Zm K mg "_law_rank" LT TF)(L18:Zm K mg "_law_less" Je Tf)(L19:Zm K mg "_law_alike" KG TY)(L20:Zm K mg "_law_grid" JK Td)(L21:Zm K mg "_law_leaf_rows" IG S8)(L22:Zm K mg "_law_rows_of" JS T1)(L23:Zm K mg "_law_label" JI T1)(L24:Zm K mg "_law_above" Hy T1)(L25:Zm K mg "_law_shared" Iw Tn)(L26:Zm K mg "_law_swept" Jk SX)(L27:Zm K mg "_law_asked" Hb Tu)(L28:Zm K mg "_law_wrong" GL To)(L29:Zm K mg "_law_unheld" ID Ts)(L30:Zm K mg "_law_picked" IT TR)(L31:Zm K mg "_law_run" Jr Tl)(L32:Zm K mg "_law_put_leaf" JW Tv)(a33:zK K ap "_law_put_stem"=Z' (Z' !f33))(l33:K.lookup f33\#[oc33,od33,.func (xZ "_law_put_stem" "_law_put_stem" (V5 Vf) (WE Vf) (Zd Vf) .none kV33 dc33 pm33 an33 cd33 ct33),sl33])(c33:xE K cd33 "_law_put_stem"=true)(k33:yN K (!f33)=X')(L34:Zm K mg "_law_begun" JJ Ta)(L35:Zm K mg "_law_seen" GF Tx)(L36:Zm K mg "_law_looked" H0 Tb)(L37:Zm K mg "_law_no_look" HI S7)(L38:Zm K mg "_law_deed" Id S9)(a39:zK K ap "law"=Z' (Z' !f39))(l39:K.lookup f39\#[oc39,od39,.func (xZ "law" "law" (V5 Pv) (WE Pv) (Zd Pv) .none kV39 dc39 pm39 an39 cd39 ct39),sl39])(c39:xE K cd39 "law"=true)(k39:yN K (!f39)=X')(z1:zK K ap "isinstance"=Z' Y')(z2:zK K ap "bool"=Z' Y')(z3:zK K ap "int"=Z' Y')(z4:zK K ap "str"=Z' Y')(z5:zK K ap "tuple"=Z' Y')(z6:zK K ap "list"=Z' Y')(z7:zK K ap "len"=Z' Y')(z8:zK K ap "all"=Z' Y')(z9:zK K ap "abs"=Z' Y')(z10:zK K ap "max"=Z' Y')(z11:zK K ap "min"=Z' Y')(z12:zK K ap "range"=Z' Y')(z13:zK K ap "sorted"=Z' Y')(z14:zK K ap "ValueError"=Z' Y')(z15:zK K ap "sum"=Z' Y')(z16:zK K ap "reversed"=Z' Y')(m1_:zK K ap "MOST_SIGNS"=Z' (Z' (.int 40 t1)))(m2_:zK K ap "MOST_THINGS"=Z' (Z' (.int 4 t2)))(m3_:zK K ap "MOST_DEEP"=Z' (Z' (.int 3 t3)))(m4_:zK K ap "MOST_ROWS"=Z' (Z' (.int 4 t4)))(m5_:zK K ap "FEWEST_BRANCHES"=Z' (Z' (.int 2 t5)))(m6_:zK K ap "MOST_BRANCHES"=Z' (Z' (.int 4 t6)))(m7_:zK K ap "HEIGHT"=Z' (Z' (.int 0 t7)))(m8_:zK K ap "LEAST"=Z' (Z' (.int 1 t8)))(m9_:zK K ap "GREATEST"=Z' (Z' (.int 2 t9)))(m10_:zK K ap "MANY"=Z' (Z' (.int 3 t10)))(IjS:Qh K jh "Shelf.__init__" JX T')(IjT:Qh K ji "Twig.__init__" GG Th){ocjN kVjN dcjN pmjN cdjN ctjN:ai}{odjN anjN:jB}{sljN:Array (jd)}(iljN:K.lookup jN\#[ocjN,odjN,.func (xZ "__init__" "NoTwig.__init__" (V5 NL) (WE NL) (Zd NL) .none kVjN dcjN pmjN anjN cdjN ctjN),sljN])(icjN:xE K cdjN "NoTwig.__init__"=true)(ikjN:yN K (!jN)=X'){ocjH kVjH dcjH pmjH cdjH ctjH:ai}{odjH anjH:jB}{sljH:Array (jd)}(iljH:K.lookup jH\#[ocjH,odjH,.func (xZ "__init__" "NotHeld.__init__" (V5 Oz) (WE Oz) (Zd Oz) .none kVjH dcjH pmjH anjH cdjH ctjH),sljH])(icjH:xE K cdjH "NotHeld.__init__"=true)(ikjH:yN K (!jH)=X'){ocjD kVjD dcjD pmjD cdjD ctjD:ai}{odjD anjD:jB}{sljD:Array (jd)}(iljD:K.lookup jD\#[ocjD,odjD,.func (xZ "__init__" "Shared.__init__" (V5 Od) (WE Od) (Zd Od) .none kVjD dcjD pmjD anjD cdjD ctjD),sljD])(icjD:xE K cdjD "Shared.__init__"=true)(ikjD:yN K (!jD)=X')(Mm1:Zn K jh "put_leaf" "Shelf.put_leaf" JQ Te)(Mm2:Zn K jh "put_stem" "Shelf.put_stem" JU T2)(Mm3:Zn K jh "put_twig" "Shelf.put_twig" Ib Tg)(Mm4:Zn K jh "holders" "Shelf.holders" HD V')(Mm5:Zn K jh "outside" "Shelf.outside" HH V')(Mm6:Zn K jh "alone" "Shelf.alone" Hm V')(Mm7:Zn K jh "look" "Shelf.look" Ij V')(Mm8:Zn K jh "label" "Shelf.label" Lr V')(Mm9:Zn K jh "forget" "Shelf.forget" IC T')(Mm10:Zn K jh "numbers" "Shelf.numbers" HK T')(Mm11:Zn K jh "many" "Shelf.many" Hu T')(Mm12:Zn K jh "twig_of" "Shelf.twig_of" Kh V')(Mm13:Zn K jh "labels_of" "Shelf.labels_of" Jh T2)(Mm14:Zn K jh "check_held" "Shelf.check_held" J0 T2)(Mm15:Zn K jh "take_over" "Shelf.take_over" Ia TU)(Mm16:Zn K jh "road_up" "Shelf.road_up" J1 V')(Mm17:Zn K jh "hold" "Shelf.hold" Ie V')(Mm18:Zn K jh "change_stem" "Shelf.change_stem" Jd SY)(Mm19:Zn K jh "labels_up" "Shelf.labels_up" JN Ti)(Mm20:Zn K jh "give_labels" "Shelf.give_labels" Hl Tt)(Mm21:Zn K jh "give_back" "Shelf.give_back" IO TU)(Mm22:Zn K jh "let_go" "Shelf.let_go" IR V')(Mm23:Zn K jh "drop_unheld" "Shelf.drop_unheld" Km V')(Mm24:Zn K jh "change_leaf" "Shelf.change_leaf" HG Tc)(Mm25:Zn K jh "looked" "Shelf.looked" IW T')(xCB:zK K ap "TwigError"=Z' (Z' !CB))(xCK:zK K ap "NoKey"=Z' (Z' !CK))(xCL:zK K ap "NoLeaf"=Z' (Z' !CL))(xCS:zK K ap "NoStem"=Z' (Z' !CS))(xCT:zK K ap "NoTwig"=Z' (Z' !CT))(xCH:zK K ap "NotHeld"=Z' (Z' !CH))(xCD:zK K ap "Shared"=Z' (Z' !CD))(xCSh:zK K ap "Shelf"=Z' (Z' !jh))(xCTw:zK K ap "Twig"=Z' (Z' !ji))(vjN:zA K (!CT) "__init__"=Z' (Z' !jN))(vjH:zA K (!CH) "__init__"=Z' (Z' !jH))(vjD:zA K (!CD) "__init__"=Z' (Z' !jD))(mkCSh:tJ K jh=X')(kpCSh:yN K (!jh)=X')(pgCSh:uR K jh Str.empty=X')(hdCSh:vP K jh=X')(poCSh:tG K jh=X')(saCSh:zA K (!jh) "__setattr__"=Z' (Z' (.builtin "object.__setattr__")))(mkCTw:tJ K ji=X')(kpCTw:yN K (!ji)=X')(pgCTw:uR K ji Str.empty=X')(hdCTw:vP K ji=X')(poCTw:tG K ji=X')(saCTw:zA K (!ji) "__setattr__"=Z' (Z' (.builtin "object.__setattr__")))(na_kept:zA K (!jh) "kept"=Z' Y')(na_following:zA K (!jh) "following"=Z' Y')(na_looks:zA K (!jh) "looks"=Z' Y')(na_things:zA K (!ji) "things"=Z' Y')(na_tag:zA K (!ji) "tag"=Z' Y')(na_above:zA K (!ji) "above"=Z' Y')(na_holds:zA K (!ji) "holds"=Z' Y')(tyB:xX K (!CB)\.type "type")(mB:yU K CB (.type "BaseException")\true)(kitx:JO K [CK,CL,CS,CT,CH,CD] [.type "ValueError"]=X')(wCT:xF K CT jN "number"=true)(tyCT:xX K (!CT)\.type "type")(wCH:xF K CH jH "number"=true)(tyCH:xX K (!CH)\.type "type")(wCD:xF K CD jD "number"=true)(tyCD:xX K (!CD)\.type "type")(sbCS:yU K CS (!CB)\true)(sbCT:yU K CT (!CB)\true)(sbCH:yU K CH (!CB)\true)(sbCK:yU K CK (!CB)\true)(sbCL:yU K CL (!CB)\true)(sbCD:yU K CD (!CB)\true)(exCS:tZ K CS Pw "ValueError.__new__"=true)(kpCS:yN K (!CS)=X')(mBCS:yU K CS (.type "BaseException")\true)(tyCS:xX K (!CS)\.type "type")(mBCD:yU K CD (.type "BaseException")\true)(slCD:yU K CD (!CD)\true):
  ∃ q:ao,(∀(s:ak)(v:ai),BindsTo s q #[[v],[]] [("_law_script",v)])/\∀ a:aD,K.In a->a.Ns ap mg->wO a cb0 tb0->a.BuiltinsAt mg tb0->ZL l.prog w K mg a ZZ 80 fa q SW (VI tb0 K):=by
 let e:=hfa.symm|||yW X G a39;cases e;let T:Yd mg:=#[xU X G z1,xU X G z2,xU X G z3,xU X G z4,xU X G z5,xU X G z6,xU X G z7,xU X G z8,xU X G z9,xU X G z10,xU X G z11,xU X G z12,xU X G z13,xU X G z14,xU X G z15,#[_,yW X G m1_],#[_,yW X G m2_],#[_,yW X G m3_],#[_,yW X G m4_],#[_,yW X G m5_],#[_,yW X G m6_],#[_,yW X G m7_],#[_,yW X G m8_],#[_,yW X G m9_],#[_,yW X G m10_]];exists xZ "law" "law" (V5 Pv) (WE Pv) (Zd Pv) .none kV39 dc39 pm39 an39 cd39 ct39,λs v=>.of_eq Z;intro a kb _ hC hB;let Tr:mg "reversed"=Y':=xU X G z16;let l0:Nm K mg CB (λi=>[CK,CL,CS,CT,CH,CD].getD i 0):=#[yW X G xCB,tyB,mB,yW X G xCK,yW X G xCL,yW X G xCS,yW X G xCT,yW X G xCH,yW X G xCD];let X2:XC K CB (λi=>[CK,CL,CS,CT,CH,CD].getD i 0) 2:=IX kitx Z (by decide) sbCS
 let X3:XC K CB (λi=>[CK,CL,CS,CT,CH,CD].getD i 0) 3:=IX kitx Z (by decide) sbCT
 let X4:XC K CB (λi=>[CK,CL,CS,CT,CH,CD].getD i 0) 4:=IX kitx Z (by decide) sbCH
 let d:Yh K mg jh ji:=#[yW X G xCSh,yW X G xCTw,#[pgCSh,hdCSh,poCSh,saCSh],#[pgCTw,hdCTw,poCTw,saCTw],na_kept,na_following,na_looks,na_things,na_tag,na_above,na_holds];let l2:XN l.prog w K mg a "NoTwig" CT:=#[#[jN,_,O3 wCT,pk (Vl (st:=NL) iljN icjN ikjN),(Vl (st:=NL) iljN icjN ikjN).binds λ_ _ _ _ _ _=>lq2 λ_ _=>rfl],yW X G xCT,tyCT]
 let i9:XN l.prog w K mg a "NotHeld" CH:=#[#[jH,_,O3 wCH,oG (Vl (st:=Oz) iljH icjH ikjH),(Vl (st:=Oz) iljH icjH ikjH).binds λ_ _ _ _ _ _=>lq2 λ_ _=>rfl],yW X G xCH,tyCH]
 let l1:XN l.prog w K mg a "Shared" CD:=#[#[jD,_,O3 wCD,pj (Vl (st:=Od) iljD icjD ikjD),(Vl (st:=Od) iljD icjD ikjD).binds λ_ _ _ _ _ _=>lq2 λ_ _=>rfl],yW X G xCD,tyCD]
 let l4:XS l.prog w K mg a CS:=#[yW X G xCS,exCS,kpCS,mBCS,tyCS];let l3:XD K mg CD:=#[yW X G xCD,tyCD,mBCD,slCD];let L:UN l.prog w K mg a 1 jh T' (Ul jh):=by let#[f,q,v,fn,F,b]:=IjS.ex;show#[f,q,#[mkCSh,v,fn,kpCSh],Ri F d,b]
 let c6:UN l.prog w K mg a 1 ji Th (Q3 ji):=by let#[f,q,v,fn,F,b]:=IjT.ex;show#[f,q,#[mkCTw,v,fn,kpCTw],zk F d,b]
 let g:!ZB ZZ 1 jh "twig_of" V' (Ze jh):=Mm12.of λ_ _ F=>pT F d;let a4:!ZB ZZ 2 jh "outside" V' (XW jh ji λ_ ho _=>.int ho):=Mm5.of λ_ _ F=>AX F d g;let a0:!ZB ZZ 2 jh "label" V' (XW jh ji λtg _ _=>tg):=Mm8.of λ_ _ F=>ri F d g;let y:!ZB ZZ 2 jh "holders" V' (XW jh ji λ_ ho n=>.int ((↑n:Nat)+(ho:Nat):Int)):=Mm4.of λ_ _ F=>pG F T d g;let A:∀ c,ZB l.prog w K mg a (Z8 l.prog w) 3 jh "road_up" V' (WW c jh ji CD):=λc=>Mm16.of λ_ _ F=>wb F d l1 g y;let e8:∀ c,ZB l.prog w K mg a ZZ 4 jh "alone" V' (VQ c jh ji):=λc=>Mm6.of λ_ _ F=>rh F d l3 (A c);let V:!ZB ZZ 1 jh "forget" T' (Xf jh ji):=Mm9.of λ_ _ F=>pJ F d;let o:!ZD 1 "is_stem" TK (XQ ji):=L14.of λ_ _ F=>xq F T d;let a1:!ZB ZZ 2 jh "look" V' (UU jh ji):=Mm7.of λ_ _ F=>wh F T d g o;let i6:!ZB ZZ 1 jh "many" T' (UM jh):=Mm11.of λ_ _ F=>B1 F T d;let i7:!ZB ZZ 1 jh "numbers" T' (Xo jh):=Mm10.of λ_ _ F=>pq F T d;let a7:!ZB ZZ 3 jh "put_twig" Tg (Y7 jh ji):=Mm3.of λ_ _ F=>pE F d c6;let a8:!ZB ZZ 2 jh "take_over" TU (Yu jh ji):=Mm15.of λ_ _ F=>BT F d g;let i8:!ZB (Z8 l.prog w) 3 jh "twig_of" V' (Xr jh CT):=Mm12.of λ_ _ F=>pe F d l2;let i4:!ZB (Z8 l.prog w) 4 jh "label" V' (WN jh ji CT):=Mm8.of λ_ _ F=>qd F d i8;let a2:!ZB (Z8 l.prog w) 5 jh "labels_of" T2 (Yt jh ji CT):=Mm13.of λ_ _ F=>Bk F d i4;let x:!ZB (Z8 l.prog w) 3 jh "check_held" T2 (YN jh ji CH):=Mm14.of λ_ _ F=>BG F d i9 a4;let u:!ZD 1 "_law_pull" TQ (Yp):=L16.of λ_ _ F=>wn F;let DW:!ZD 1 "_law_well" SZ (UI K):=L15.of λ_ _ F=>vz F T;let DN:!ZD 1 "has_few_figures" TD (Um):=L4.of λ_ _ F=>yq F T;let e4:!ZD 1 "is_sign" ["sign"] (VJ):=L5.of λ_ _ F=>Ab F;let c3:!ZD 6 "is_key" TV (Vc):=L1.of λ_ _ F=>BL F T (Gy T L3 DN e4 4);let DC:!ZD 7 "checked" TV (Qw):=L2.of λ_ _ F=>oX F c3;let e6:!ZD 6 "standing" TL (UO 5):=EC T L7 5;let B:!ZD 7 "ahead" Ty (Ys):=L6.of λ_ _ F=>ti F e6;let e1:!ZD 8 "rise" ["keys"] (VY):=L10.of λ_ _ F=>vw F T B;let c8:!ZD 8 "own_rows" TZ (Xt):=L9.of λ_ _ F=>oW F DC;let D:!ZD 9 "checked_rows" TZ (XV):=L8.of λ_ _ F=>C9 F T c8 e1;let I:!ZD 1 "label_of_rows" TZ (XA):=L11.of λ_ _ F=>AC F T;let a5:!ZB ZZ 10 jh "put_leaf" Te (Xq jh ji):=Mm1.of λ_ _ F=>Bd F d D I a7;let e5:!ZD 8 "stand_side_by_side" Tj (UT):=L13.of λ_ _ F=>wd F T B;let t:Qk l.prog w K mg a 9 "label_over" Tz (WG CS):=by let#[f,q,F,b,m]:=(L12).ex;show#[f,q,Aa F kb T l4 e5,b,F.kp,m]
 let a6:∀ c,ZB l.prog w K mg a (Z8 l.prog w) 10 jh "put_stem" T2 (YK c jh ji CS CT CH):=λc=>Mm2.of λ_ _ F=>pF F T d a2 t x a7 a8;let c4:!ZD 7 "_law_less" Tf (Ys):=L18.of λ_ _ F=>xh F (FY T L17 5);let j:!ZD 7 "_law_alike" TY (YU 6):=D8 T L19 6;let c2:!ZD 2 "_law_grid" Td (UK):=L20.of λ_ _ F=>we F T u;let J:!ZD 2 "_law_leaf_rows" S8 (XM):=L21.of λ_ _ F=>oC F T u;let e2:∀ c,ZD l.prog w K mg a 1 "_law_rows_of" T1 (WP c):=λc=>L22.of λ_ _ F=>qt F T Tr;let r:∀ c,ZD l.prog w K mg a 2 "_law_label" T1 (Y6 c):=λc=>L23.of λ_ _ F=>pQ F T (e2 c);let a9:∀ c,ZD l.prog w K mg a 1 "_law_above" T1 (VZ c):=λc=>L24.of λ_ _ F=>ve F T;let R:∀ c,ZD l.prog w K mg a 2 "_law_shared" Tn (Xb c):=λc=>L25.of λ_ _ F=>qu F T (a9 c);let k:!ZD 2 "_law_picked" TR (Yb):=L30.of λ_ _ F=>A1 F T u;let S:!ZD 1 "_law_unheld" Ts (Xe):=L29.of λ_ _ F=>pS F T;let U:∀ c,ZD l.prog w K mg a 8 "_law_wrong" To (WC c):=λc=>L28.of λ_ _ F=>Ap (AA F T (r c) c4) pD;let O:∀ c,ZD l.prog w K mg a 4 "_law_run" Tl (Uj c):=λc=>L31.of λ_ _ F=>yw F T u k (r c);let DQ:!ZD 71 "_law_asked" Tu (XY l.prog w K mg a CB (λi=>[CK,CL,CS,CT,CH,CD].getD i 0)):=L27.of λ_ _ F=>ut F T l0;let M:∀ c,ZD l.prog w K mg a 11 "_law_put_leaf" Tv (YL c jh ji):=λc=>L32.of λ_ _ F=>Fe F T d J a5;let c9:!ZD 11 "_law_put_leaf" Tv (Qv λc=>YL c jh ji):=L32.of λ_ _ F=>MN λc=>Fe F T d J a5;let N:∀ c,ZD l.prog w K mg a 72 "_law_put_stem" Tq (YZ c jh ji tb0):=λc=>#[f33,_,Cn (C:=λi=>[CK,CL,CS,CT,CH,CD].getD i 0) (Vl (st:=Vf) l33 c33 k33) a33 hta hC hB T d X2 X3 X4 (O3 wCT) (O3 wCH) (a6 c) DQ (O c) u k (U c) S j,(Vl (st:=Vf) l33 c33 k33).binds λ_ _ _ _ _ _=>lq2 λ_ _=>rfl,k33,yW X G a33]
 let e0:!ZD 72 "_law_put_stem" Tq (Qv λc=>YZ c jh ji tb0):=#[f33,_,MN (λc=>Cn (C:=λi=>[CK,CL,CS,CT,CH,CD].getD i 0) (Vl (st:=Vf) l33 c33 k33) a33 hta hC hB T d X2 X3 X4 (O3 wCT) (O3 wCH) (a6 c) DQ (O c) u k (U c) S j),(Vl (st:=Vf) l33 c33 k33).binds λ_ _ _ _ _ _=>lq2 λ_ _=>rfl,k33,yW X G a33]
 let c0:!ZD 73 "_law_begun" Ta (VE jh ji tb0):=L34.of λ_ _ F=>Ae F T d L c2 c9 e0;let i3:!ZB ZZ 2 jh "hold" V' (UL jh ji):=Mm17.of λ_ _ F=>xx F d g;let ZS:XZ K mg "NoStem" CS:=#[yW X G xCS,exCS,kpCS,mBCS,tyCS];let i1:∀ c,ZB l.prog w K mg a ZZ 67 jh "drop_unheld" V' (λvs H Q E=>∃ m,m<64/\WQ c m jh ji vs H Q E):=λc=>EZ Mm23 d y g o 64;let i5:∀ c,ZB l.prog w K mg a (Z8 l.prog w) 68 jh "let_go" V' (VM c jh ji CH):=λc=>Mm22.of λ_ _ F=>vf F d x g (i1 c);let e7:∀ c,ZD l.prog w K mg a 2 "_law_swept" SX (VU c):=λc=>L26.of λ_ _ F=>AB F T;let i2:!ZB ZZ 2 jh "give_back" TU (Yv jh ji):=Mm21.of λ_ _ F=>BJ F d g;let a3:∀ c,ZB l.prog w K mg a (Z8 l.prog w) 10 jh "labels_up" Ti (Xa c jh ji CS):=λc=>Mm19.of λ_ _ F=>uy F d g a0 t;let Y:!ZB ZZ 2 jh "give_labels" Tt (WD jh ji):=Mm20.of λ_ _ F=>yl F d g;let i0:∀ c,ZB l.prog w K mg a (Z8 l.prog w) 11 jh "change_stem" SY (Y5 c jh ji CS CT CH CD):=λc=>Mm18.of λ_ _ F=>qf F kb T d ZS g o (A c) a2 t (a3 c) x Y a8 i2;let e9:∀ c,ZB l.prog w K mg a (Z8 l.prog w) 11 jh "change_leaf" Tc (Y2 c jh ji):=λc=>Mm24.of λ_ _ F=>Ac F d g o (A c) D (a3 c) I Y;let z:!ZB ZZ 1 jh "looked" T' (Yk jh):=Mm25.of λ_ _ F=>B3 F T d;let c7:∀ c,ZD l.prog w K mg a 69 "_law_no_look" S7 (WM c jh ji):=λc=>L37.of λ_ _ F=>qi F T d i3 (i5 c) (e7 c) (R c) (i0 c) (e9 c);let P:∀ c,ZD l.prog w K mg a 8 "_law_seen" Tx (WS c jh ji):=λc=>L35.of λ_ _ F=>FD F T d a1 j;let e3:!ZD 8 "_law_seen" Tx (Qv λc=>WS c jh ji):=L35.of λ_ _ F=>MN λc=>FD F T d a1 j;let c5:!ZD 8 "_law_looked" Tb (Qv λc=>Qf c jh ji):=L36.of λ_ _ F=>MN λc=>zg F T d z j;let c1:!ZD 73 "_law_deed" S9 (Qv λc=>VP c jh ji tb0):=L38.of λ_ _ F=>MN λc=>AQ F T d u k (R c) (M c) (N c) (c7 c) (P c) j (r c) i7 i6 a0 a4 y (e8 c) V z;show A' (Vl (st:=Pv) l39 c39 k39) T d L z V DW k c0 c1 c5 e3
def Mf{o:Option (aj×aj)}{x:aj×aj}(h:o\x):o.isSome=X':=by rw[h];rfl
def walk{l:tK}{q:am}{g:jv}{y:(jc)->aD->Prop}{r:aw->aD->Prop}{d:DefRec}{K:Params->zZ}(D:l.most\63)(o:d.params.defaults=[])(B:∀ (w:aw) (h:aD),r w h->(K w.params).In h)(i:((recsOf q).find? (λe=>e.name==(("_law_put_stem":String):Str))).isSome=X')(j:∀ w:aw,(xG (K w.params) "_law_put_stem").isSome=X')(p:∀ w:aw,rZ (K w.params)=X')(F:∀ (w:aw) (m:jc) (t:aj) (h:aD) (c T:aj),(K w.params).In h->h.Ns ap m->m d.name\.ref t->xG (K w.params) "_law_put_stem"=Z' (c,T) ->
   ∃ v:ao,(∀ (s:ak) (u:ai),BindsTo s v #[[u],[]] [("_law_script",u)])/\∀ b:aD,(K w.params).In b->b.Ns ap m->wO b c T->b.BuiltinsAt m T->ZL l.prog w (K w.params) m b ZZ 80 t v SW (VI T (K w.params))):
  qY q g y r l.row.toRowW d [] (λf G=>PySem.call f G):=
 Tw.M5 (n:=63) (k:=80) (x:= "_law_script") (px:= "_law_put_stem") (sp:=λT K=>VI T K) D (by decide) o #[Z,by decide,by decide] B (Option.some_get i).symm (λw=>#[_,_,((Option.some_get (j w)).symm|||(by rfl))]) p F (λ_ _ _ a E C A z=>#[a,E,Z,z,C,A,λ_=>rfl])
end Tw
open PySem PySem.W PyProof.Rows
namespace PySem.W.Fast
local macro_rules|`(universe $x*)=>return .node .none `null (←(x++(Array.range 841).map λi=>Lean.mkIdent (.mkSimple s!"tw{((`PySem.Challenge).str "cw_twigmap_k27_labels_and_looks_holds"|>.str s!"o_{i}").hash}")).mapM λi=>`(def $i:ident:=0))
universe tw10028891608336465767 tw11624481019751675522 tw12324502444205484370 tw12832839325644694157 tw1305697698003710981 tw13574547397025400924 tw15494830525534456570 tw15619120077342043915 tw15850084141516207132 tw15894700245951721793 tw15906009877167132712 tw16126835792126963068 tw16377537842464670834 tw16554088130845330157 tw16581154481243182773 tw209921548744516206 tw2706068677947116189 tw3335451234817651397 tw3502724049741914224 tw3960771242315441848 tw4330098390958705875 tw4332056540021901741 tw5424535902779715102 tw5531739408762340022 tw5725462197672253195 tw6074912751556723581 tw642899048003560993 tw7039307249823816825 tw7464357550470357828 tw7626553568016122331 tw7853495995412203726 tw8724806389042265920 tw9376715422209487151 tw9868677846079332893
end PySem.W.Fast
set_option maxRecDepth 100000 in
set_option maxHeartbeats 0 in
theorem PySem.Challenge.cw_twigmap_k27_labels_and_looks_holds : PySem.Challenge.rw_twigmap_k27_labels_and_looks.Holds := by
 w_on;o_law;k_head;(case hw=>w_witness2)
 k_fill
 show Tw.walk (l:=PySem.Challenge.rw_twigmap_k27_labels_and_looks) Z Z (λw h Y=>PySem.W.km_in_of Y) ?qRec ?qTab ?qNot ?qFun
 case qRec=>first | kernel_rfl | show rfl
 case qTab=>
  intro w
  first | kernel_rfl | show Tw.Mf (Tw.HC (by k_is) (by k_is) Z (by k_is) Z)
 case qNot=>intro w;kernel_rfl
 case qFun=>
  intro w mg fa h cb tb KX G hmg hta;refine' Tw.HU KX G hmg hta (Tw.LZ KX G ?a1 ?l1 ?c1 ?k1) (Tw.LZ KX G ?a2 ?l2 ?c2 ?k2) (Tw.LZ KX G ?a3 ?l3 ?c3 ?k3) (Tw.LZ KX G ?a4 ?l4 ?c4 ?k4) (Tw.LZ KX G ?a5 ?l5 ?c5 ?k5) (Tw.LZ KX G ?a6 ?l6 ?c6 ?k6) (Tw.LZ KX G ?a7 ?l7 ?c7 ?k7) (Tw.LZ KX G ?a8 ?l8 ?c8 ?k8) (Tw.LZ KX G ?a9 ?l9 ?c9 ?k9) (Tw.LZ KX G ?A0 ?A1 ?A2 ?A3) (Tw.LZ KX G ?A4 ?A5 ?A6 ?A7) (Tw.LZ KX G ?A8 ?A9 ?Aa ?Ab) (Tw.LZ KX G ?Ac ?Ad ?Ae ?Af) (Tw.LZ KX G ?Ag ?Ah ?Ai ?Aj) (Tw.LZ KX G ?Ak ?Al ?Am ?An) (Tw.LZ KX G ?Ao ?Ap ?Aq ?Ar) (Tw.LZ KX G ?As ?At ?Au ?Av) (Tw.LZ KX G ?Aw ?Ax ?Ay ?Az) (Tw.LZ KX G ?B0 ?B1 ?B2 ?B3) (Tw.LZ KX G ?B4 ?B5 ?B6 ?B7) (Tw.LZ KX G ?B8 ?B9 ?Ba ?Bb) (Tw.LZ KX G ?Bc ?Bd ?Be ?Bf) (Tw.LZ KX G ?Bg ?Bh ?Bi ?Bj) (Tw.LZ KX G ?Bk ?Bl ?Bm ?Bn) (Tw.LZ KX G ?Bo ?Bp ?Bq ?Br) (Tw.LZ KX G ?Bs ?Bt ?Bu ?Bv) (Tw.LZ KX G ?Bw ?Bx ?By ?Bz) (Tw.LZ KX G ?C0 ?C1 ?C2 ?C3) (Tw.LZ KX G ?C4 ?C5 ?C6 ?C7) (Tw.LZ KX G ?C8 ?C9 ?Ca ?Cb) (Tw.LZ KX G ?Cc ?Cd ?Ce ?Cf) (Tw.LZ KX G ?Cg ?Ch ?Ci ?Cj) ?Ck ?Cl ?Cm ?Cn (Tw.LZ KX G ?Co ?Cp ?Cq ?Cr) (Tw.LZ KX G ?Cs ?Ct ?Cu ?Cv) (Tw.LZ KX G ?Cw ?Cx ?Cy ?Cz) (Tw.LZ KX G ?D0 ?D1 ?D2 ?D3) (Tw.LZ KX G ?D4 ?D5 ?D6 ?D7) ?D8 ?D9 ?Da ?Db ?z1 ?z2 ?z3 ?z4 ?z5 ?z6 ?z7 ?z8 ?z9 ?Dc ?Dd ?De ?Df ?Dg ?Dh ?Di ?Dj ?Dk ?Dl ?Dm ?Dn ?Do ?Dp ?Dq ?Dr ?Ds (Tw.Mn ?Dt ?Du ?Dv ?Dw ?Dx) (Tw.Mn ?Dy ?Dz ?E0 ?E1 ?E2) ?E3 ?E4 ?E5 ?E6 ?E7 ?E8 ?E9 ?Ea ?Eb (Tw.ME ?Ec ?Ed ?Ee ?Ef ?Eg) (Tw.ME ?Eh ?Ei ?Ej ?Ek ?El) (Tw.ME ?Em ?En ?Eo ?Ep ?Eq) (Tw.ME ?Er ?Es ?Et ?Eu ?Ev) (Tw.ME ?Ew ?Ex ?Ey ?Ez ?F0) (Tw.ME ?F1 ?F2 ?F3 ?F4 ?F5) (Tw.ME ?F6 ?F7 ?F8 ?F9 ?Fa) (Tw.ME ?Fb ?Fc ?Fd ?Fe ?Ff) (Tw.ME ?Fg ?Fh ?Fi ?Fj ?Fk) (Tw.ME ?Fl ?Fm ?Fn ?Fo ?Fp) (Tw.ME ?Fq ?Fr ?Fs ?Ft ?Fu) (Tw.ME ?Fv ?Fw ?Fx ?Fy ?Fz) (Tw.ME ?G0 ?G1 ?G2 ?G3 ?G4) (Tw.ME ?G5 ?G6 ?G7 ?G8 ?G9) (Tw.ME ?Ga ?Gb ?Gc ?Gd ?Ge) (Tw.ME ?Gf ?Gg ?Gh ?Gi ?Gj) (Tw.ME ?Gk ?Gl ?Gm ?Gn ?Go) (Tw.ME ?Gp ?Gq ?Gr ?Gs ?Gt) (Tw.ME ?Gu ?Gv ?Gw ?Gx ?Gy) (Tw.ME ?Gz ?H0 ?H1 ?H2 ?H3) (Tw.ME ?H4 ?H5 ?H6 ?H7 ?H8) (Tw.ME ?H9 ?Ha ?Hb ?Hc ?Hd) (Tw.ME ?He ?Hf ?Hg ?Hh ?Hi) (Tw.ME ?Hj ?Hk ?Hl ?Hm ?Hn) (Tw.ME ?Ho ?Hp ?Hq ?Hr ?Hs) ?Ht ?Hu ?Hv ?Hw ?Hx ?Hy ?Hz ?I0 ?I1 ?I2 ?I3 ?I4 ?I5 ?I6 ?I7 ?I8 ?I9 ?Ia ?Ib ?Ic ?Id ?Ie ?If ?Ig ?Ih ?Ii ?Ij ?Ik ?Il ?Im ?In ?Io ?mB ?Ip ?Iq ?Ir ?Is ?It ?Iu ?Iv ?Iw ?Ix ?Iy ?Iz ?J0 ?J1 ?J2 ?J3 ?J4 ?J5 ?J6 ?J7
  (case Ht|Hu|Hv|Hw|Hx|Hy|Hz|I0|I1|Dt|Dy|I2|I3|I4|Ec|Eh|Em|Er|Ew|F1|F6|Fb|Fg|Fl|Fq|Fv|G0|G5|Ga|Gf|Gk|Gp|Gu|Gz|H4|H9|He|Hj|Ho|a1|l1|c1|k1|a2|l2|c2|k2|a3|l3|c3|k3|a4|l4|c4|k4|a5|l5|c5|k5|a6|l6|c6|k6|a7|l7|c7|k7|a8|l8|c8|k8|a9|l9|c9|k9|A0|A1|A2|A3|A4|A5|A6|A7|A8|A9|Aa|Ab|Ac|Ad|Ae|Af|Ag|Ah|Ai|Aj|Ak|Al|Am|An|Ao|Ap|Aq|Ar|As|At|Au|Av|Aw|Ax|Ay|Az|B0|B1|B2|B3|B4|B5|B6|B7|B8|B9|Ba|Bb|Bc|Bd|Be|Bf|Bg|Bh|Bi|Bj|Bk|Bl|Bm|Bn|Bo|Bp|Bq|Br|Bs|Bt|Bu|Bv|Bw|Bx|By|Bz|C0|C1|C2|C3|C4|C5|C6|C7|C8|C9|Ca|Cb|Cc|Cd|Ce|Cf|Cg|Ch|Ci|Cj|Ck|Cl|Cm|Cn|Co|Cp|Cq|Cr|Cs|Ct|Cu|Cv|Cw|Cx|Cy|Cz|D0|D1|D2|D3|D4|D5|D6|D7|D8|D9|Da|Db|z1|z2|z3|z4|z5|z6|z7|z8|z9|Dc|Dd|De|Df|Dg|Dh|Di|Dj|Dk|Dl|Dm|Dn|Do|Dp|Dq|Dr|Ds|Du|Dw|Dx|Dz|E1|E2|E3|E4|E5|E6|E7|E8|E9|Ea|Eb|Ed|Ef|Eg|Ei|Ek|El|En|Ep|Eq|Es|Eu|Ev|Ex|Ez|F0|F2|F4|F5|F7|F9|Fa|Fc|Fe|Ff|Fh|Fj|Fk|Fm|Fo|Fp|Fr|Ft|Fu|Fw|Fy|Fz|G1|G3|G4|G6|G8|G9|Gb|Gd|Ge|Gg|Gi|Gj|Gl|Gn|Go|Gq|Gs|Gt|Gv|Gx|Gy|H0|H2|H3|H5|H7|H8|Ha|Hc|Hd|Hf|Hh|Hi|Hk|Hm|Hn|Hp|Hr|Hs|Dv|E0|Ee|Ej|Eo|Et|Ey|F3|F8|Fd|Fi|Fn|Fs|Fx|G2|G7|Gc|Gh|Gm|Gr|Gw|H1|H6|Hb|Hg|Hl|Hq|I5|I6|I7|I8|I9|Ia|Ib|Ic|Id|Ie|If|Ig|Ih|Ii|Ij|Ik|Il|Im|In|Io|mB=>k_is)
  (case Ip|Iq=>kernel_rfl)
  (case Ir=>k_is)
  (case Is=>kernel_rfl)
  (case It=>k_is)
  (case Iu=>kernel_rfl)
  (case Iv|Iw|Ix|Iy|Iz|J0|J1=>k_is)
  (case J2=>k_exc)
  (case J3|J4|J5|J6|J7=>k_is)
