import PyProof.Rows.All
import Wide.All
import OpenK.AllK
import Wide.FinOn
import Lean
import PyProof.EqAt
import PyProof.EqKinds
import PyProof.TupleCall
import PyProof.NeKinds
import PyProof.TupleKey
import PyProof.DictFindH
import PyProof.NsDelKeeps
import PyProof.ExcBaseAll.ValueError
import KE.KIsAll
import PyProof.ExcArgsOwn
import PyProof.ExcAttrAll.ValueError
import KE.KDictList
import PyProof.Rows.SortWalk
import KE.KSortTup
import KE.KEqDict
import KE.KLam
import KE.KRevIter
import PyProof.InstStoreFacts
import PyProof.ExcClass3
import PyProof.Rows.SumAny
import KE.KFind
import PyProof.Rows.Range3
import PyProof.SetKind
import PyProof.Rows.SetFrom
import PyProof.InstEq
import PySem.Challenge.RW_twigmap_k51_filled
open PySem renaming wpAny_bind→aa,wpAny_pure→ad,wpAny_mono→ae,wpAny_holding→af,wpAny_Call_Name_kw→ah,wpAny_rule→ai,Value→aj,Addr→ak,Shared→am,Program→ao,FuncData→ap,mainGlobals→aq,sizeLine→ar,starEach→au,World→aw,Around→ax,bootBuiltins→ay,compareOp→az,model→aA,wpAny→aB,Stmt→aC,Heap→aD,Scope→aE,backTo→aF,eval→aG,Obj→aH
universe u
set_option compiler.extract_closed false
theorem aI{p:Prop}[Decidable p](h:¬p):decide p=false:=decide_eq_false h
theorem aJ{p:Prop}[Decidable p](h:p):decide p=true:=decide_eq_true h
theorem aK{c:Prop}{h:Decidable c}(n:¬c){α:Sort u}{t e:α}:(ite c t e)=e:=if_neg n
theorem aM{c:Prop}{h:Decidable c}(n:c){α:Sort u}{t e:α}:(ite c t e)=t:=if_pos n
set_option Elab.async false
set_option linter.all false
set_option maxRecDepth 100000
set_option maxHeartbeats 8000000
open List renaming getElem?_eq_getElem->zV,getD_eq_getElem?_getD->zU,length_map->zX,length_append->zW,mem_cons_self->zS,mem_cons_of_mem->zQ,getElem?_eq_some_iff->yZ,mem_of_getElem?->zJ,take_of_length_le->zE,size_toArray->zP,mem_singleton->zH,length_cons->zI,append_nil->zK,getElem?_map->zC,mem_map->zR,flatMap_cons->zB,mem_cons->zL,map_append->zD,flatMap_append->yR,mem_append_right->yM,mem_append->yW,take_add_one->yS,mem_append_left->yL,append_assoc->yQ,take_append_drop->yD,map_cons->yV,mem_flatMap->yI,length_take->yJ,filter_cons->yE,getElem?_append_right->wZ,nodup_append->yA,drop_eq_getElem_cons->xB,all_eq_true->xY,pairwise_append->xJ,getElem?_append_left->wM,length_drop->xQ,pairwise_cons->xK,nodup_cons->xU,getElem_mem->xN,flatMap_nil->xM,eq_nil_of_length_eq_zero->vQ,mem_range->xO,filter_append->wP,mem_filter->xF,lookup_cons->xC,range->yF,length_singleton->vY,drop_of_length_le->uZ,length_filter_le->vB,extract_eq_take_drop->uA,getElem?_of_mem->vD,length_set->wB,toArray->wX,take_succ_cons->vE,filter_eq_self->vF,Pairwise->wL,cons_append->vU,take_zero->wC,drop_drop->wD,filter_eq_nil_iff->uC,perm_append_comm->tW,pairwise_flatMap->tX,length->wN,find?_cons->vP,cons_lt_cons_iff->tY,pairwise_map->uY,mem_of_mem_drop->uG,Perm->xI,length_pos_iff->uH,pairwise_singleton->sV,nil_append->vJ,length_pos_of_mem->sW,take_sublist->uJ,lookup->wH,drop_zero->vL,mem_iff_getElem?->sY,eq_nil_or_concat->sZ,concat_eq_append->tF,any_eq_true->uL,not_lt_nil->uO,filterMap_cons->tH,mem_filterMap->tJ,map_map->vN,sublist_append_right->rA,replicate->uR,pairwise_iff_getElem->rB,nodup_nil->uS,getElem?_take_of_lt->rF,filter_congr->tK,any_cons->uT,all_cons->uU,take_length->sP,perm_middle->sQ,getElem?_set_self->qT,pairwise_reverse->qU,map_nil->uD,getElem?_eq_none->qV,all_map->uE,mem_of_mem_take->rL,getElem?_set_ne->rM,toList_toArray->rQ,take_add->tO,map_take->tP,map_drop->tQ,getElem?_drop->rW,reverse_perm->rX,length_range->rY,eraseIdx_eq_take_drop_succ->qG,drop_sublist->rZ,nil_lt_cons->sH,map_flatMap->sI,countP_cons->sJ,dropLast_concat_getLast->qI,of_mem_zip->sM,filter_map->sN,perm_append_singleton->qP,sublist_append_left->qA,getLast_eq_getElem->qE,pairwise_lt_range->zEC,getElem_cons_drop->zED,countP_mono_left->zEF,Sublist->zEG
open PySem.W renaming Frag->zZ,findIn->yX,nsIn->yY,mg_none_of->xV,keepIn->yG,kitOne->yC,mg_of->yB,fnOf->xW,kia_one->xD,emptyDict->wJ,mroIn->wV,Looks->wW,codeIn->wK,instObj->vZ,plainGet->vT,hasDictIn->vH,isFn->wE,plainOver->uI,kas_item->uK,makesIn->uM,hideAll->uN,typeIn->uP,lookIn->sR,KdlSrc->sS,plainGet_of->qW,callWith_K0->rK,of_hideAll->rO,callWith_K->rP,specialIn->rR,methodObj->rS,takesIn->sC,takerIn->sE,OpenLaw->sF,cellsFrom_some->qQ,methodCall_KW->pY,looks_findIn->qB,hideAll_none->qC,looks_mroIn->zEA,hideAll_get->zEB
open Nat renaming le_refl->zY,le_trans->zO,lt_of_lt_of_le->yU,le_of_ble_eq_true->yN,zero_le->zM,ne_of_lt->yK,exists_eq_add_of_le->vX,lt_of_le_of_lt->wQ,le_of_lt->xX,lt_succ_self->wR,le_of_not_lt->wS,le_add_right->wT,lt_or_ge->xG,le_of_eq->xH,add_sub_cancel_left->uB,succ->xR,lt_irrefl->vW,succ_le_succ->vI,exists_eq_succ_of_ne_zero->qY,add_assoc->vM,sub_lt_sub_left->tI,min_eq_left->uQ,lt_of_mul_lt_mul_left->rC,lt_of_add_lt_add_left->rD,le_of_add_le_add_left->rE,sub_le->vO,add_le_add_left->rT,zero_add->tS,sub_self->tT,ne_of_gt->tU,min_le_right->sK,min_eq_right->sL,not_lt_zero->sO,le_succ->tV
open Bool renaming false_ne_true->zT,and_eq_true->zF,false_eq_true->xE,eq_iff_iff->wU,false_and->vV,true_and->uV,and_false->tN,not_true->tR,and_true->rJ
open PySem.Heap renaming get?_push_of_some->zA,get?_push_size->yO,lt_size->zG,SameBut->xP,get?_update_other->vA,get?_update_self->vC,get?_none_of_le->rN,size_push->rH
open Array renaming getElem?_toList->yP,length_toList->yH,getElem?_eq_getElem->xA,toList_append->wI,getElem?_eq_some_iff->tZ,toList_push->uX,toList_extract->uF,perm_iff_toList_perm->qZ,forIn_toList->rV,toList_eraseIdxIfInBounds->qF,toList_inj->sG,toList_setIfInBounds->qL,toList->zEE,toList_reverse->zEH
open Option renaming map_eq_some_iff->xZ,some->yT,map_some->wA,isSome_iff_exists->sT,none->uW
open PySem.F renaming plainAttrs_list->xL,type_list_append->vR,slot_list_append->vS,slot_dict_keyiterator_next->qX,slot_tuple_hash->sU,cmp_object->tG,slot_dict_get->rG,slot_dict_getitem->qH,type_list_extend->qJ,slot_list_extend->qK,plain_list_iadd->qM,plainAttrs_dict->qN,args_dict_get_3->qO,slot_dict_iter->qR,entry_dict_get->qS,slot_dict_pop->pZ
open PySem.Str renaming ofString->wY
open Int renaming emod_lt_of_pos->vG,le_refl->wO,le_trans->wF,le_of_lt->wG,emod_nonneg->vK,toNat_natCast->tL,fdiv_eq_ediv_of_nonneg->pW,not_lt->tM
open PyProof.Rows renaming wpS_bind->jO,wpS_pure->jP,arrOf->jQ,SortSt->jR,pendingOf->jS,wpS_forRange->jT,wpS_mono->jU,Keyed->jV,setArr->jW
local macro_rules|`(tactic|exists $e,*)=>`(tactic|refine ⟨$e,*, ?_⟩)
def Z{α:Sort u}{a:α}:a=a:=rfl
local macro_rules|`(∅)=>`(by lia)
local macro_rules|`(nofun)=>`(by lia (splits:=8))
local macro_rules|`(tactic|let $d:letDecl)=>let n:=d.raw[0];let l(s:Lean.Syntax)k:Lean.Syntax:=.node .none `Lean.Parser.Tactic.rcasesPatLo #[.node .none `Lean.Parser.Tactic.rcasesPatMed #[Lean.mkNullNode #[.node .none k s.getArgs]],Lean.mkNullNode];if n.getKind== ``Lean.Parser.Term.letPatDecl then let m:Lean.TSyntax `Lean.Parser.Tactic.rcasesPatMed:=⟨(n[0].rewriteBottomUp λs=>match s.getKind with|`ident=>l (Lean.mkNullNode #[s]) `Lean.Parser.Tactic.rcasesPat.one|`Lean.Parser.Term.hole=>l s `Lean.Parser.Tactic.rcasesPat.ignore|`Lean.Parser.Term.anonymousCtor=>l s `Lean.Parser.Tactic.rcasesPat.tuple|_=>s)[0]⟩;`(tactic|obtain $m:rcasesPatMed:=$(⟨n[4]⟩)) else `(tactic|have $d:letDecl)
abbrev ja:=PySem.Value->PySem.Shared->Prop
abbrev jc:=PySem.Str->Option PySem.Value
abbrev jd:=Option PySem.Value
abbrev je:=List PySem.Value
abbrev zEa:List PySem.Str:=["self","number"]
abbrev zEb:List PySem.Str:=["_law_well_here","_law_shelf","_law_rows_here"]
abbrev zEc:List PySem.Str:=["shelf","root"]
abbrev zEd:List PySem.Str:=["shelf","root","key"]
abbrev zEe:List PySem.Str:=["_law_well_here","_law_many"]
abbrev zEf:List PySem.Str:=["self","numbers"]
abbrev zEg:List PySem.Str:=["_law_well_here","_law_room"]
abbrev zEh:List PySem.Str:=["self"]
abbrev zEi:List PySem.Str:=["_law_table_here","_law_rows_here"]
abbrev zEj:List PySem.Str:=["_law_shelf","_law_root"]
abbrev zEk:List PySem.Str:=["_law_script","_law_first","_law_many"]
abbrev zEl:List PySem.Str:=["_law_shelf","_law_root","_law_found"]
abbrev zEm:List PySem.Str:=["_law_well_here","_law_bound"]
abbrev zEn:List PySem.Str:=["self","shelf","root"]
abbrev zEo:List PySem.Str:=["thing"]
abbrev zEp:List PySem.Str:=["shelf","stems","places","added"]
abbrev zEq:List PySem.Str:=["_law_shelf","_law_tables"]
abbrev zEr:List PySem.Str:=["rows"]
abbrev zEs:List PySem.Str:=["one","other"]
abbrev zEt:List PySem.Str:=["self","things","label"]
abbrev zEu:List PySem.Str:=["shelf","root","key","value"]
abbrev zEv:List PySem.Str:=["_law_script","_law_k"]
abbrev zEw:List PySem.Str:=["shelf","root","added"]
abbrev zEx:List PySem.Str:=["self","things","tag"]
abbrev zEy:List PySem.Str:=["shelf","leaf","rows"]
abbrev zEz:List PySem.Str:=["self","rows"]
abbrev zE0:List PySem.Str:=["_law_script","_law_most"]
abbrev zE1:List PySem.Str:=["_law_spot"]
abbrev zE2:List PySem.Str:=["self","stem","branches"]
abbrev zE3:List PySem.Str:=["thing","room"]
abbrev zE4:List PySem.Str:=["label","following"]
abbrev zE5:List PySem.Str:=["shelf","stem","number"]
abbrev zE6:List PySem.Str:=["self","number","rows"]
abbrev zE7:List PySem.Str:=["shelf","found","key"]
abbrev zE8:List PySem.Str:=["self","road","label"]
abbrev zE9:List PySem.Str:=["rows","row","at"]
abbrev zFa:List PySem.Str:=["shelf","rows"]
abbrev zFb:List PySem.Str:=["self","key","value"]
abbrev zFc:List PySem.Str:=["_law_well_here"]
abbrev zFd:List PySem.Str:=["_law_model"]
abbrev zFe:List PySem.Str:=["keys"]
abbrev zFf:List PySem.Str:=["found"]
abbrev zFg:List PySem.Str:=["self","labels"]
abbrev zFh:List PySem.Str:=["shelf","steps"]
abbrev zFi:List PySem.Str:=["things","most"]
abbrev zFj:List PySem.Str:=["found","at"]
abbrev zFk:List PySem.Str:=["self","key"]
abbrev zFl:List PySem.Str:=["key"]
abbrev zFm:List PySem.Str:=["self","number","twig"]
abbrev zFn:List PySem.Str:=["twig"]
abbrev zFo:List PySem.Str:=["number"]
abbrev zFp:List PySem.Str:=["keys","key"]
abbrev zFq:List PySem.Str:=["_law_script"]
abbrev jk:=List Nat
abbrev jl:=Array PyProof.Rows.Keyed
abbrev jp:=List PySem.Str
abbrev jq:=List (ak×aH)
abbrev js:=Option Nat
abbrev jt:=Array aj
abbrev ju:=List PyProof.Rows.Keyed
abbrev jw:=List PySem.Expr
abbrev jx:=Option ak
abbrev jy:=List Int
abbrev jz:=List PySem.Env
abbrev jB:=List ak
abbrev jC:=Option Int
abbrev jD:=List (PySem.Str×ak)
abbrev jE:=List aC
abbrev jG:=Array (Nat×Nat×Nat)
abbrev jH:=List (PySem.Str×aj)
abbrev jJ:=Option Bool
abbrev jK:=Option PySem.Expr
abbrev jM:=List (Nat×Nat)
namespace L2
open PySem PySem.Spec PyProof.Rows
abbrev ZT:=Sum Int Str
abbrev jA:=List ZT
abbrev jN:=List (ZT×aj)
def P1:ZT->aj->Bool
 | .inl k,v=>Value.isInt k v
 | .inr x,v=>Value.isStrOf x v
def Eg(w:aw):ZT->Int
 | .inl k=>hashInt k
 | .inr x=>hashStr w x
theorem Qt:∀{k:ZT}{v:aj},P1 k v=true->(∃ i t,k=Sum.inl i/\v=Value.int i t)\/(∃ x t,k=Sum.inr x/\v=Value.str x t)
 | .inl i,v,h=>by
  let⟨t,e⟩:=Value.isInt_shape (k:=i) (v:=v) h;exact .inl ⟨i,t,Z,e⟩
 | .inr x,v,h=>by
  let⟨t,e⟩:=Value.isStrOf_shape (x:=x) (v:=v) h;exact .inr ⟨x,t,Z,e⟩
theorem ZJd(i:Int)(t:Tok):P1 (.inl i) (.int i t)=true:=by simp[P1,Value.isInt]
theorem ZJo(x:Str)(t:Tok):P1 (.inr x) (.str x t)=true:=by simp[P1,Value.isStrOf]
theorem Bj(a b:Int):decide ((Sum.inl a:ZT)=Sum.inl b)=(a==b):=by
 by_cases e:a=b
 ·subst e;simp
 ·let h:¬ (Sum.inl a:ZT)=Sum.inl b:=λq=>e (Sum.inl.inj q);rw[aI h];exact(beq_eq_false_iff_ne.mpr e).symm
theorem ZOu(a b:Str):decide ((Sum.inr a:ZT)=Sum.inr b)=decide (a=b):=by
 by_cases e:a=b
 ·subst e;simp
 ·let h:¬ (Sum.inr a:ZT)=Sum.inr b:=λq=>e (Sum.inr.inj q);rw[aI h,aI e]
theorem ZPi(a:Int)(b:Str):decide ((Sum.inl a:ZT)=Sum.inr b)=false:=aI (λq=>nomatch q)
theorem ZOU(a:Str)(b:Int):decide ((Sum.inr a:ZT)=Sum.inl b)=false:=aI (λq=>nomatch q)
def Wv(c:ao)(w:aw):PySem.KeyKind c w ZT where
 is:=P1
 hash:=Eg w
 inj:=λv a b g f=>by
  rcases Qt g with ⟨i,t,rfl,rfl⟩ | ⟨x,t,rfl,rfl⟩
  ·rcases Qt f with ⟨j,u,rfl,e⟩ | ⟨y,u,rfl,e⟩
   ·injection e with e1 _;rw[e1]
   ·exact nomatch e
  ·rcases Qt f with ⟨j,u,rfl,e⟩ | ⟨y,u,rfl,e⟩
   ·exact nomatch e
   ·injection e with e1 _;rw[e1]
 byValue:=λk v h=>by
  rcases Qt h with ⟨i,t,rfl,rfl⟩ | ⟨x,t,rfl,rfl⟩ <;> rfl
 pyHash:=λd h=>by
  rcases Qt d with ⟨i,t,rfl,rfl⟩ | ⟨x,t,rfl,rfl⟩
  ·exact wpAny_pyHash_int h
  ·exact wpAny_pyHash_str h
 eqBool:=λl d h=>by
  rcases Qt l with ⟨i,t,rfl,rfl⟩ | ⟨x,t,rfl,rfl⟩
  ·rcases Qt d with ⟨j,u,rfl,rfl⟩ | ⟨y,u,rfl,rfl⟩
   ·rw[Bj] at h;exact wpAny_eqBool_int h
   ·rw[ZPi] at h;exact SeqAt.EqAt.int_str i t y u _ _ _ _ h
  ·rcases Qt d with ⟨j,u,rfl,rfl⟩ | ⟨y,u,rfl,rfl⟩
   ·rw[ZOU] at h;exact SeqAt.EqAt.str_int x t j u _ _ _ _ h
   ·rw[ZOu] at h;exact wpAny_eqBool_str h
 «strs» :=λk x t v h=>by
  rcases Qt h with ⟨i,u,rfl,e⟩ | ⟨y,u,rfl,e⟩
  ·exact nomatch e
  ·injection e with e1 _;subst e1;cases v <;> rfl
theorem B7(a:ao)(w:aw)(i:Int)(t:Tok):(Wv a w).is (.inl i) (.int i t)=true:=ZJd i t
theorem ZGn(a:ao)(w:aw)(x:Str)(t:Tok):(Wv a w).is (.inr x) (.str x t)=true:=ZJo x t
inductive V where
 | non | bl (b:Bool) | int (i:Int) | str (x:Str) | byt (b:Array UInt8) | flt (b:UInt64) | ref (a:ak) | ty (n:String)
 deriving DecidableEq
abbrev jf:=List V
abbrev jg:=Option V
def ZP:V->aj->Prop
 | .non,u=>u=Value.none
 | .bl b,u=>u=Value.bool b
 | .int i,u=>∃ t,u=Value.int i t
 | .str x,u=>∃ t,u=Value.str x t
 | .byt b,u=>∃ t,u=Value.bytes b t
 | .flt b,u=>∃ t,u=Value.float b t
 | .ref a,u=>u=Value.ref a
 | .ty n,u=>u=Value.type n
abbrev ZO:jf->je->Prop:=Paired ZP
theorem ZO.length{b:jf}{a:je}(r:ZO b a):b.length=a.length:=Paired.length r
theorem ZO.get:∀{b:jf}{a:je}{i:Nat}{x:V},ZO b a->b[i]? = some x->∃ u,a[i]? = some u/\ZP x u
 | _,_,_,_,.nil,e=>by simp at e
 | _,_,0,_,.cons r _,e=>by simp at e;subst e;exact⟨_,Z,r⟩
 | _,_,i+1,x,.cons _ t,e=>by
  let⟨u,c,d⟩:=ZO.get (i:=i) (x:=x) t (by simpa using e)
  exact⟨u,by simpa using c,d⟩
theorem ZO.set{x:V}{u:aj}(r:ZP x u):∀{b:jf}{a:je}(i:Nat),ZO b a->ZO (b.set i x) (a.set i u)
 | _,_,_,.nil=>.nil
 | _,_,0,.cons _ t=>.cons r t
 | _,_,i+1,.cons q t=>.cons q (ZO.set r i t)
theorem ZO.append:∀{c d:jf}{a b:je},ZO c a->ZO d b->ZO (c++d) (a++b):=by intro _ _ _ _ h g;induction h with
 | nil=>exact g
 | cons r _ e=>exact .cons r e
theorem ZO.take:∀{b:jf}{a:je}(n:Nat),ZO b a->ZO (b.take n) (a.take n)
 | _,_,0,_=>.nil
 | _,_,_+1,.nil=>.nil
 | _,_,n+1,.cons r t=>.cons r (ZO.take n t)
theorem ZO.drop:∀{b:jf}{a:je}(n:Nat),ZO b a->ZO (b.drop n) (a.drop n)
 | _,_,0,r=>r
 | _,_,_+1,.nil=>.nil
 | _,_,n+1,.cons _ t=>ZO.drop n t
def Yn:jg->jd->Prop
 | some v,some u=>ZP v u
 | none,none=>True
 | _,_=>False
def KV{a:Type}:List (a×V)->List (a×aj)->Prop:=Paired fun(p:a×V)(q:a×aj)=>p.1=q.1/\ZP p.2 q.2
def kV:ZT->V
 | .inl i=>.int i
 | .inr x=>.str x
inductive HO where
 | lst (xs:jf)
 | tup (xs:jf)
 | dK (kvs:List (ZT×V)) | dT (kvs:List (jA×V))
 | set (S:Int->Bool) (n:Nat)
 | ins (C dx:ak) (fs:List (Str×V))
 | own (x:ak)
 | xd (fs:List (Str×V))
 | met (f x:ak)
 | rng (lo hi:Int)
 | frz (o:aH) (u:HO)
 | tbl (ps:jt)
 | ext (φ:aD->Prop)
abbrev Hp:=ak->Option HO
def upd(H:Hp)(a:ak)(o:HO):Hp:=λb=>if b=a then some o else H b
theorem ZX{H:Hp}{a:ak}{o:HO}:upd H a o a=some o:=by unfold upd;rw[aM rfl]
theorem ZQ{H:Hp}{a b:ak}{o:HO}(h:b≠a):upd H a o b=H b:=by unfold upd;rw[aK h]
theorem Nk{H:Hp}{a:ak}{o u:HO}:upd (upd H a o) a u=upd H a u:=by
 funext b;unfold upd;split <;> rfl
theorem ZV{H:Hp}{a b:ak}{o u:HO}(h:H a=some o)(c:H b=some u)(d:o≠u:=by intro z;cases z):a≠b:=by
 intro e;subst e;rw[h] at c;exact d (yT.inj c)
theorem ZZ{H:Hp}{a b:ak}{o:HO}(h:H a=some o)(c:H b=none):a≠b:=by
 intro e;subst e;rw[h] at c;cases c
section
variable(P:ao)(w:aw)
def Zb(H:Hp)(h:aD)(a:ak):HO->Prop
 | .lst c=>c.length<=ar/\∃(b:je)(n:Nat),ZO c b/\h.get? a=some { cls:=.type "list",data:=.seq b.toArray n }
 | .tup c=>c.length<=ar/\∃ b:je,ZO c b/\IsTup h a b.toArray
 | .dK kvs=>kvs.length<=ar/\(a==sysModules)=false/\∃ l,KV kvs l/\h.DictOf (Wv P w) a l
 | .dT kvs=>kvs.length<=ar/\(a==sysModules)=false/\∃ c:List (jA×ak×aj),
   Paired (fun(p:jA×V)(q:jA×ak×aj)=>p.1=q.1/\H q.2.1=some (.tup (p.1.map kV))/\ZP p.2 q.2.2) kvs c /\
   ∃ o i m,h.get? a=some o/\o.ExactDict/\o.data=.dict i m/\i.toList=c.map (entryOfKey (tupleKind (Wv P w)))/\(c.map (·.1)).Nodup
 | .set S n=>h.SetOf (intKind P w) a S n
 | .ins C g e=>H g=some (.own a)/\e.length<=1000/\g≠a/\h.get? a=some (vZ C g) /\
   ∃ d,h.Ns1 g d/\(∀ f,Yn (e.lookup f) (d f))/\PySem.Within d (e.map (·.1))
 | .own _=>∃ o,h.get? a=some o
 | .xd e=>∃ d,h.Ns1 a d/\∀ f,Yn (e.lookup f) (d f)
 | .rng lo r=>∃ t u v,h.get? a=some { cls:=.type "range",data:=.fields #[.int lo t,.int r u,.int 1 v] }
 | .frz o u=>h.get? a=some o/\Zb H h a u
 | .tbl ps=>h.get? a=some { cls:=.none,data:=.fields ps }
 | .met f x=>h.get? a=some (rS (.ref f) (.ref x))
 | .ext φ=>φ h/\(∃ o,h.get? a=some o)/\∀ j k:aD,φ j->(∀ o,j.get? a=some o->k.get? a=some o)->φ k
def Y5(H:Hp)(h:aD):Prop:=∀ a o,H a=some o->Zb P w H h a o
end
section
variable{P:ao}{w:aw}{H H':Hp}{h h':aD}{a:ak}{o:HO}
theorem Zb.lt(x:Zb P w H h a o):a<h.objs.size:=by
 cases o with
 | lst d=>let⟨_,_,_,_,e⟩:=x;exact zG e
 | tup d=>let⟨_,_,_,p⟩:=x;exact p.lt
 | dK b=>let⟨_,_,_,_,o,_,_,e,_⟩:=x;exact zG e
 | dT b=>let⟨_,_,_,_,o,_,_,e,_⟩:=x;exact zG e
 | set S n=>let⟨o,_,_,_,e,_⟩:=x;exact zG e
 | ins C g c=>let⟨_,_,_,e,_⟩:=x;exact zG e
 | own y=>let⟨_,e⟩:=x;exact zG e
 | xd c=>let⟨_,⟨_,_,_,e,_⟩,_⟩:=x;exact zG e
 | rng j i=>let⟨_,_,_,e⟩:=x;exact zG e
 | frz k u=>let⟨e,_⟩:=x;exact zG e
 | tbl l=>exact zG (show h.get? a=some _ from x)
 | met f y=>exact zG (show h.get? a=some _ from x)
 | ext m=>let⟨_,⟨_,e⟩,_⟩:=x;exact zG e
theorem Paired.mapP{e g:Type}{F G:e->g->Prop}:∀{c:List e}{d:List g},Paired F c d->(∀ a b,F a b->G a b)->Paired G c d:=by intro _ _ h f;induction h with
 | nil=>exact .nil
 | cons r _ i=>exact .cons (f _ _ r) i
theorem Zb.stay(x:Zb P w H h a o)(k:∀ b u,(b=a\/H b=some (.own a))->h.get? b=some u->h'.get? b=some u)(I:∀ b,H b=some (.own a)->H' b=some (.own a))(J:∀ b m,H b=some (.tup m)->H' b=some (.tup m)):Zb P w H' h' a o:=by
 induction o with
 | lst m=>let⟨z,l,n,r,e⟩:=x;exact⟨z,l,n,r,k _ _ (.inl rfl) e⟩
 | tup m=>let⟨z,l,r,g,e,c⟩:=x;exact⟨z,l,r,g,k _ _ (.inl rfl) e,c⟩
 | dK s=>let⟨z,y,M,r,g,j,i,e,c⟩:=x;exact⟨z,y,M,r,g,j,i,k _ _ (.inl rfl) e,c⟩
 | dT s=>
  let⟨z,y,m,r,g,j,i,e,c⟩:=x;exact⟨z,y,m,Paired.mapP r λp q z=>⟨z.1,J _ _ z.2.1,z.2.2⟩,g,j,i,k _ _ (.inl rfl) e,c⟩
 | set S n=>let⟨g,j,i,t,e,c⟩:=x;exact⟨g,j,i,t,k _ _ (.inl rfl) e,c⟩
 | ins C N G=>
  let⟨d,z,L,e,A,⟨B,j,i,F,c⟩,r⟩:=x;exact⟨I _ d,z,L,k _ _ (.inl rfl) e,A,⟨B,j,i,k _ _ (.inr d) F,c⟩,r⟩
 | own y=>let⟨g,e⟩:=x;exact⟨g,k _ _ (.inl rfl) e⟩
 | xd G=>let⟨A,⟨B,j,i,e,c⟩,r⟩:=x;exact⟨A,⟨B,j,i,k _ _ (.inl rfl) e,c⟩,r⟩
 | rng Q O=>let⟨t,u,v,e⟩:=x;exact⟨t,u,v,k _ _ (.inl rfl) e⟩
 | frz g u K=>let⟨e,q⟩:=x;exact⟨k _ _ (.inl rfl) e,K q⟩
 | tbl D=>
  let e:h.get? a=some { cls:=.none,data:=.fields D }:=x;show h'.get? a=some { cls:=.none,data:=.fields D };exact k a _ (.inl rfl) e
 | met f y=>
  let e:h.get? a=some (rS (.ref f) (.ref y)):=x;show h'.get? a=some (rS (.ref f) (.ref y));exact k a _ (.inl rfl) e
 | ext R=>let⟨p,⟨o,e⟩,E⟩:=x;exact⟨E _ _ p λo q=>k _ _ (.inl rfl) q,⟨o,k _ _ (.inl rfl) e⟩,E⟩
theorem Y5.lt(x:Y5 P w H h)(e:H a=some o):a<h.objs.size:=(x a o e).lt
theorem Y5.fresh(x:Y5 P w H h)(e:h.objs.size<=a):H a=none:=by
 cases q:H a with
 | none=>rfl
 | some u=>exact absurd (yU (x.lt q) e) (vW _)
theorem Y5.kept(x:Y5 P w H h)(k:∀ b u,h.get? b=some u->h'.get? b=some u):Y5 P w H h':=λa o e=>
 (x a o e).stay (λb u _ q=>k b u q) (λ_ q=>q) λ_ _ q=>q
theorem Y5.laid(x:Y5 P w H h)(k:∀ b u,h.get? b=some u->h'.get? b=some u)(i:h.objs.size<=a)(d:Zb P w (upd H a o) h' a o):Y5 P w (upd H a o) h':=λb u e=>by
 let g:=x.fresh i;by_cases f:b=a
 ·subst f;rw[ZX] at e;cases e;exact d
 ·rw[ZQ f] at e;exact(x b u e).stay (λc v _ q=>k c v q) (λc q=>by rw[ZQ (ZZ q g)];exact q) λc j q=>by rw[ZQ (ZZ q g)];exact q
end
def Rd(H:Hp)(a:ak)(u:HO):Prop:=H a=some u\/∃ o,H a=some (.frz o u)
theorem Rd.of{H:Hp}{a:ak}{u:HO}(h:H a=some u):Rd H a u:=.inl h
theorem Rd.ok{P:ao}{w:aw}{H:Hp}{h:aD}{a:ak}{u:HO}(r:Rd H a u)(x:Y5 P w H h):Zb P w H h a u:=by
 rcases r with r | ⟨o,r⟩
 ·exact x a u r
 ·let⟨_,q⟩:=x a _ r;exact q
def NK:Option HO->Prop
 | some (.lst _)=>True
 | some (.dK _)=>True
 | some (.dT _)=>True
 | some (.set _ _)=>True
 | some (.ins _ _ _)=>True
 | some (.ext _)=>True
 | _=>False
section
variable{P:ao}{w:aw}{H:Hp}{h h':aD}{x e:ak}{o':HO}
theorem Y5.write(t:Y5 P w H h)(j:NK (H x))(o:e=x\/H e=some (.own x))(k:∀ b u,b≠e->h.get? b=some u->h'.get? b=some u)(m:∃ u,h'.get? e=some u)(n:Zb P w (upd H x o') h' x o'):Y5 P w (upd H x o') h':=λb u q=>by
 let d:∀ c y,H c=some (.own y)->c≠x:=λc y r z=>by subst z;rw[r] at j;exact j
 let f:∀ c l,H c=some (.tup l)->c≠x:=λc l r z=>by subst z;rw[r] at j;exact j
 by_cases g:b=x
 ·subst g;rw[ZX] at q;cases q;exact n
 ·rw[ZQ g] at q;by_cases a:b=e
  ·let p:H b=some (.own x):=by
    rcases o with z | z
    ·exact absurd (a.trans z) g
    ·rw[a];exact z
   rw[q] at p;cases p;let⟨v,s⟩:=m;exact⟨v,by rw[a];exact s⟩
  ·refine(t b u q).stay (λc v i r=>k c v ?_ r) (λc r=>by rw[ZQ (d c b r)];exact r) λc l r=>by rw[ZQ (f c l r)];exact r
   rcases i with rfl | i
   ·exact a
   ·rintro rfl;rcases o with z | z
    ·exact d c b i z
    ·rw[i] at z;cases z;exact g Z
end
structure Un(fs ex:jB)(H H':Hp)(h h':aD):Prop where
 keep:∀ b o,h.get? b=some o->H b=none->b∉fs->b∉ex->h'.get? b=some o
 slot:∀ b o,h.get? b=some o->H b=none->b∈fs->b∉ex->∃ sl,h'.get? b=some { o with slots:=sl }
 free:∀ b o,h.get? b=some o->H b=none->b∉ex->H' b=none
 there:∀ b o,h.get? b=some o->b∉ex->∃ o',h'.get? b=some o'
 tups:∀ b xs,H b=some (.tup xs)->H' b=some (.tup xs)
 frzs:∀ b o u,H b=some (.frz o u)->H' b=some (.frz o u)
 tbls:∀ b ps,H b=some (.tbl ps)->∃ more,H' b=some (.tbl (ps++more))
section
variable{fs fs' ex ex':jB}{H H1 H2:Hp}{h h1 h2 h':aD}{a x e:ak}{o:HO}
theorem Un.any(u:Un fs ex H H1 h h1){b:ak}{c:aH}(q:h.get? b=some c)(n:H b=none)(f:b∉ex):∃ g,h1.get? b=some { c with slots:=g }:=by
 by_cases d:b∈fs
 ·exact u.slot b c q n d f
 ·exact⟨c.slots,u.keep b c q n d f⟩
theorem Un.kept(k:∀ b u,h.get? b=some u->h'.get? b=some u):Un fs ex H H h h':=
 ⟨λb c q _ _ _=>k b c q,λb c q _ _ _=>⟨c.slots,k b c q⟩,λ_ _ _ n _=>n,λb c q _=>⟨c,k b c q⟩,λ_ _ q=>q,λ_ _ _ q=>q,λ_ d q=>⟨#[],by rw[q];simp⟩⟩
theorem Un.refl:Un fs ex H H h h:=Un.kept λ_ _ q=>q
theorem Un.laid(k:∀ b u,h.get? b=some u->h'.get? b=some u)(d:h.objs.size<=a)(c:H a=none):Un fs ex H (upd H a o) h h' where
 keep:=λb u q _ _ _=>k b u q
 slot:=λb u q _ _ _=>⟨u.slots,k b u q⟩
 free:=λb u q n _=>by rw[ZQ (yK (yU (zG q) d))];exact n
 there:=λb u q _=>⟨u,k b u q⟩
 tups:=λb f q=>by rw[ZQ (ZZ q c)];exact q
 frzs:=λb u f q=>by rw[ZQ (ZZ q c)];exact q
 tbls:=λb g q=>⟨#[],by rw[ZQ (ZZ q c),q];simp⟩
theorem Un.write(d:NK (H x))(l:e=x\/H e=some (.own x))(k:∀ b u,b≠e->h.get? b=some u->h'.get? b=some u)(f:∃ u,h'.get? e=some u):Un fs ex H (upd H x o) h h':=by
 let j:∀ b,H b=none->b≠x:=λb n z=>by subst z;rw[n] at d;exact d
 let i:∀ b,H b=none->b≠e:=λb n z=>by
  subst z;rcases l with r | r
  ·exact j b n r
  ·rw[n] at r;cases r
 let g:∀ b u,H b=some u->¬ NK (some u)->b≠x:=λb u q m z=>by subst z;rw[q] at d;exact m d
 refine⟨λb u q n _ _=>k b u (i b n) q,λb u q n _ _=>⟨u.slots,k b u (i b n) q⟩,λb u q n _=>by rw[ZQ (j b n)];exact n,λb u q _=>?_,
  λb p q=>by rw[ZQ (g b _ q λz=>z)];exact q,λb u p q=>by rw[ZQ (g b _ q λz=>z)];exact q,λb s q=>⟨#[],by rw[ZQ (g b _ q λz=>z),q];simp⟩⟩
 by_cases c:b=e
 ·subst c;exact f
 ·exact⟨u,k b u c q⟩
end
def L0(h:aD)(H:Hp):List Addr:=(yF h.objs.size).filter λa=>(H a).isSome
def Pl(h:aD)(H:Hp):Heap:=uN h (L0 h H)
theorem ZJq(h:aD)(H:Hp):(Pl h H).objs.size=h.objs.size:=PySem.W.hideAll_size _ _
theorem ZLF{h:aD}{H:Hp}{b:ak}{o:aH}(e:h.get? b=some o)(n:H b=none):(Pl h H).get? b=some o:=
 zEB _ e λa=>by
  let q:(H b).isSome=true:=(xF.mp a).2;rw[n] at q;simp at q
theorem ZN3{h:aD}{H:Hp}{b:ak}{o:aH}(e:(Pl h H).get? b=some o):h.get? b=some o/\H b=none:=by
 let a:h.get? b=some o:=rO (L0 h H) e;exists a
 cases q:H b with
 | none=>rfl
 | some x=>
  let c:b∈L0 h H:=xF.mpr ⟨xO.mpr (zG a),by simp[q]⟩
  let z:(Pl h H).get? b=none:=qC (L0 h H) c;rw[z] at e;cases e
def ZOJ(g h:aD)(L:ak):jq:=(yF h.objs.size).filterMap λa=>if a=L\/(g.get? a).isSome=true then none else (h.get? a).map λo=>(a,o)
def rest(g h:aD)(L d:ak):jq:=(ZOJ g h L).filter λp=>decide (p.1≠d)
structure Mod(K:zZ)(mg:jc)(kj:aD):Prop where
 kin:K.In kj
 glob:kj.Ns aq mg
 blt:∃ mb,kj.Ns builtinsNs mb/\∀ x:Str,x ≠ "__name__"->mb x=ay x
 nolimit:kj.NoLimit
structure Cx where
 prog:ao
 w:aw
 K:zZ
 mg:jc
 base:aD
 A:ax
 N:jp
 s₀:am
 H₀:Hp
 env:Env
 outer:jz
 stack:jz
 ex:jB
 fn:Str->Bool
 calm:Bool
 pn:jq
 xe:ja
def frs(l:jz):List Addr:=l.filterMap (·.frame)
abbrev Cx.fs(X:Cx):List Addr:=frs X.outer
def HZ(a:aE)(x:Str):Prop:=a.names.lookup x=some .local\/a.names.lookup x=some .cell\/a.names.lookup x=some .free
def No(a:aE)(x:Str):Prop:=a.names.lookup x=some .local\/a.names.lookup x=some .cell
def ZRF(a:Env)(h:aD)(m:jc)(x:Str)(u:aj):Prop:=
 (a.kindOf x=some .local/\m x=some u)\/((a.kindOf x=some .cell\/a.kindOf x=some .free)/\∃ c,a.cells.lookup x=some c/\h.IsCell c (some u))
structure Cx.Ok(X:Cx):Prop where
 mod:Mod X.K X.mg X.base
 kind:X.env.scope.kind=.function
 glob:X.env.globals=aq
 blt:X.env.builtins=builtinsNs
 above:X.s₀.heap.objs.size<=X.env.locals
 inj:∀ x y c,X.env.cells.lookup x=some c->X.env.cells.lookup y=some c->x=y
 has:∀ x,(X.env.kindOf x=some .cell\/X.env.kindOf x=some .free)->∃ c,X.env.cells.lookup x=some c
 cab:∀ x c,X.fn x=true->X.env.cells.lookup x=some c->X.s₀.heap.objs.size<=c
 hd:X.calm=true->X.A.handled=none
 frames:X.A.frames=some X.stack
 stk:X.stack=X.outer\/(X.stack=X.env::X.outer/\X.env.frame=some X.env.locals)
 exf:∀ b∈X.ex,b≠X.env.locals/\∀ x c,X.env.cells.lookup x=some c->c≠b
 bs:∀ b o,X.base.get? b=some o->X.s₀.heap.get? b=some o/\X.H₀ b=none
 bsz:X.base.objs.size<=X.s₀.heap.objs.size
 noex:∀ b o,X.base.get? b=some o->b∉X.ex
 exfs:∀ b∈X.ex,b∉X.fs
 funs:X.s₀.heap.FunFrames X.base X.outer
 frf:∀ b∈X.fs,X.H₀ b=none
structure ZG(X:Cx)(ki:jq)(σ:List (jg))(H:Hp)(s:am):Prop where
 ok:X.Ok
 os:s.os=X.s₀.os
 bare:AllBare s.gens
 base:Un X.fs X.ex X.H₀ H X.s₀.heap s.heap
 loc:∃ m,s.heap.Ns X.env.locals m/\∀(i:Nat)(x:Str)(v:V),X.N[i]? = some x->σ[i]? = some (some v)->HZ X.env.scope x->∃ u,ZP v u/\ZRF X.env s.heap m x u
 cell:∀ x c,X.env.cells.lookup x=some c->∃ v,s.heap.IsCell c v
 free:H X.env.locals=none
 freeC:∀ x c,X.env.cells.lookup x=some c->H c=none
 pin:∀ p∈X.pn++ki,s.heap.get? p.1=some p.2/\H p.1=none/\p.1≠X.env.locals/\p.1∉X.fs/\∀ v,p.2.data≠.cell v
 hok:Y5 X.prog X.w H s.heap
 len:σ.length=X.N.length
section
variable{X:Cx}{ki:jq}{σ:List (jg)}{H H':Hp}{s:am}{h':aD}
theorem Cx.Ok.nofr(c:X.Ok){b:ak}{o:aH}(e:X.base.get? b=some o):b∉X.fs:=λa=>by
 have:=(c.funs.mem a).1;rw[e] at this;cases this
theorem ZG.bs(I:ZG X ki σ H s):∀ b o,X.base.get? b=some o->s.heap.get? b=some o/\H b=none:=λb o e=>
 ⟨I.base.keep b o (I.ok.bs b o e).1 (I.ok.bs b o e).2 (I.ok.nofr e) (I.ok.noex b o e),I.base.free b o (I.ok.bs b o e).1 (I.ok.bs b o e).2 (I.ok.noex b o e)⟩
theorem ZG.bk(I:ZG X ki σ H s):∀ b o,X.base.get? b=some o->s.heap.get? b=some o:=λb o e=>(I.bs b o e).1
theorem ZG.mod(I:ZG X ki σ H s):Mod X.K X.mg X.base:=I.ok.mod
theorem ZG.kIn(I:ZG X ki σ H s):X.K.In s.heap:=I.ok.mod.kin.keeps I.bk
theorem ZG.lt(I:ZG X ki σ H s):X.env.locals<s.heap.objs.size:=let ⟨_,hn,_⟩:=I.loc;hn.lt
theorem ZG.sz(I:ZG X ki σ H s):X.s₀.heap.objs.size<=s.heap.objs.size:=zO I.ok.above (xX I.lt)
theorem ZG.nofs(I:ZG X ki σ H s){a:ak}(h:s.heap.objs.size<=a):a∉X.fs:=λb=>by
 let⟨_,o,c,_⟩:=I.ok.funs.mem b;exact absurd (yU (zG c) (zO I.sz h)) (vW _)
theorem ZG.cne(I:ZG X ki σ H s):∀ x c,X.env.cells.lookup x=some c->c≠X.env.locals:=λx c e z=>by
 let⟨v,o,f,d⟩:=I.cell x c e;let⟨m,⟨i,h,g,b,a,_⟩,_⟩:=I.loc;rw[z,b] at f;cases f;rw[a] at d;cases d
theorem ZG.funs(I:ZG X ki σ H s):s.heap.FunFrames X.base X.outer:=by
 let a:∀(l:jz),(∀ b∈frs l,b∈X.fs)->X.s₀.heap.FunFrames X.base l->s.heap.FunFrames X.base l:=by
  intro l
  induction l with
  | nil=>intro _ _;trivial
  | cons h r q=>
   intro g k;let⟨j,⟨L,o,f,m,n,i⟩,p⟩:=k;let c:L∈X.fs:=g L (by unfold frs;rw[tH,f];exact zS)
   let⟨t,e⟩:=I.base.slot L o n (I.ok.frf L c) c λz=>I.ok.exfs L z c;exact⟨j,⟨L,_,f,m,e,i⟩,q (λb d=>g b (by unfold frs;rw[tH,f];exact zQ _ d)) p⟩
 exact a X.outer (λ_ d=>d) I.ok.funs
theorem ZG.stack(I:ZG X ki σ H s):s.heap.FunFrames X.base X.stack:=by
 rcases I.ok.stk with e | ⟨e,a⟩
 ·rw[e];exact I.funs
 ·rw[e];let⟨m,b,_⟩:=I.loc;refine .cons (by rw[I.ok.kind];decide) a b ?_ I.funs
  exact rN (zO I.ok.bsz I.ok.above)
theorem ZG.stkSub(I:ZG X ki σ H s):∀ b∈frs X.stack,b∈X.env.locals::X.fs:=λb a=>by
 rcases I.ok.stk with e | ⟨e,c⟩
 ·rw[e] at a;exact zQ _ a
 ·rw[e] at a;unfold frs at a;rw[tH,c] at a;exact a
theorem ZG.stkFree(I:ZG X ki σ H s):∀ b∈frs X.stack,H b=none:=λb a=>by
 rcases zL.mp (I.stkSub b a) with e | a
 ·rw[e];exact I.free
 ·let⟨_,o,c,_⟩:=I.ok.funs.mem a;exact I.base.free b o c (I.ok.frf b a) λz=>I.ok.exfs b z a
theorem ZG.step{g':Array GenState}{t':Nat}{d':Drawn}{ch:jB}(I:ZG X ki σ H s)(h:∀ b∈ch,(b∈X.ex\/X.s₀.heap.objs.size<=b)/\b≠X.env.locals/\(∀ x c,X.env.cells.lookup x=some c->c≠b)/\∀ p∈X.pn++ki,p.1≠b)(j:∀ b o,b≠X.env.locals->b∉X.fs->b∉ch->s.heap.get? b=some o->H b=none->h'.get? b=some o)(B:∀ b o,b≠X.env.locals->b∈X.fs->b∉ch->s.heap.get? b=some o->H b=none->∃ S,h'.get? b=some { o with slots:=S })(f:∀ b o,b∉ch->s.heap.get? b=some o->H b=none->H' b=none)(E:∀ b o,b∉ch->s.heap.get? b=some o->∃ M,h'.get? b=some M)(O:∀ b C,H b=some (.tup C)->H' b=some (.tup C))(J:∀ b o u,H b=some (.frz o u)->H' b=some (.frz o u))(N:∀ b P,H b=some (.tbl P)->∃ K,H' b=some (.tbl (P++K)))(ns:∀ m,s.heap.Ns X.env.locals m->h'.Ns X.env.locals m)(R:Y5 X.prog X.w H' h')(hg:AllBare g'):
  ZG X ki σ H' { s with heap:=h',gens:=g',drawn:=d',toks:=t' }:=by
 let L:∀ b o,X.s₀.heap.get? b=some o->b≠X.env.locals:=λb o e=>yK (yU (zG e) I.ok.above);let A:∀ b o,X.s₀.heap.get? b=some o->b∉X.ex->b∉ch:=λb o e a D=>by
  rcases(h b D).1 with z | z
  ·exact a z
  ·exact absurd (yU (zG e) z) (vW _)
 let g:∀ x c,X.env.cells.lookup x=some c->∀ v,s.heap.IsCell c v->h'.IsCell c v:=λx c e v ⟨o,F,Q⟩=>by
  let t:c∉ch:=λz=>(h c z).2.2.1 x c e Z;by_cases U:c∈X.fs
  ·let⟨S,q⟩:=B c o (I.cne x c e) U t F (I.freeC x c e);exact⟨_,q,Q⟩
  ·exact⟨o,j c o (I.cne x c e) U t F (I.freeC x c e),Q⟩
 refine⟨I.ok,I.os,hg,⟨λb o e n D a=>?_,λb o e n D a=>?_,λb o e n a=>?_,λb o e a=>?_,λb C e=>O b C (I.base.tups b C e),λb o C e=>J b o C (I.base.frzs b o C e),λb P e=>?_⟩,?_,λx c e=>?_,?_,λx c e=>?_,λp V=>?_,R,I.len⟩
 ·exact j b o (L b o e) D (A b o e a) (I.base.keep b o e n D a) (I.base.free b o e n a)
 ·let⟨S,y⟩:=I.base.slot b o e n D a;let⟨T,G⟩:=B b _ (L b o e) D (A b o e a) y (I.base.free b o e n a);exact⟨T,G⟩
 ·let⟨M,y⟩:=I.base.there b o e a;exact f b M (A b o e a) y (I.base.free b o e n a)
 ·let⟨M,y⟩:=I.base.there b o e a;exact E b M (A b o e a) y
 ·let⟨m1,y⟩:=I.base.tbls b P e;let⟨m2,G⟩:=N b _ y;exact⟨m1++m2,by rw[G,Array.append_assoc]⟩
 ·let⟨m,hn,hl⟩:=I.loc;exists m,ns m hn;intro i x v y G e3;let⟨u,r,l⟩:=hl i x v y G e3;exists u,r;rcases l with l | ⟨k,c,e,z⟩
  ·exact .inl l
  ·exact .inr ⟨k,c,e,g x c e _ z⟩
 ·let⟨v,z⟩:=I.cell x c e;exact⟨v,g x c e v z⟩
 ·let⟨m,⟨o,_,_,F,_⟩,_⟩:=I.loc;exact f _ o (λz=>(h _ z).2.1 Z) F I.free
 ·let⟨v,o,F,Q⟩:=I.cell x c e;exact f c o (λz=>(h c z).2.2.1 x c e Z) F (I.freeC x c e)
 ·let⟨e,n,W,Y,d⟩:=I.pin p V;let t:p.1∉ch:=λz=>(h p.1 z).2.2.2 p V Z;exact⟨j p.1 p.2 W Y t e n,f p.1 p.2 t e n,W,Y,d⟩
theorem ZG.un{t':Nat}(I:ZG X ki σ H s)(u:Un X.fs [] H H' s.heap h')(g:Y5 X.prog X.w H' h'):ZG X ki σ H' { s with heap:=h',toks:=t' }:=by
 let⟨m,⟨o,p,l,h,r⟩,_⟩:=id I.loc;let⟨v,i⟩:=u.any h I.free (by simp)
 exact I.step (g':=s.gens) (d':=s.drawn) (ch:=[]) (λ_ z=>nomatch z) (λb o _ f _ e n=>u.keep b o e n f (by simp)) (λb o _ f _ e n=>u.slot b o e n f (by simp)) (λb o _ e n=>u.free b o e n (by simp)) (λb o _ e=>u.there b o e (by simp)) u.tups u.frzs u.tbls (λq j=>by
  let⟨t,d,c,a,k⟩:=j;rw[h] at a;cases a;exact⟨_,d,c,i,k⟩) g I.bare
theorem ZG.call{g':Array GenState}{t':Nat}{d':Drawn}{ch:jB}(I:ZG X ki σ H s)(u:Un (frs X.stack) ch H H' s.heap h')(j:Y5 X.prog X.w H' h')(q:AllBare g')(d:∀ b∈ch,(b∈X.ex\/X.s₀.heap.objs.size<=b)/\b≠X.env.locals/\(∀ x c,X.env.cells.lookup x=some c->c≠b)/\∀ p∈X.pn++ki,p.1≠b):
  ZG X ki σ H' { s with heap:=h',gens:=g',drawn:=d',toks:=t' }:=by
 let⟨m,⟨o,A,y,k,r⟩,_⟩:=id I.loc;let⟨D,i⟩:=u.any k I.free λz=>(d _ z).2.1 Z;exact I.step (ch:=ch) d (λb o i l a e n=>u.keep b o e n (λz=>(zL.mp (I.stkSub b z)).elim i l) a) (λb o _ _ a e n=>u.any e n a) (λb o a e n=>u.free b o e n a) (λb o a e=>u.there b o e a) u.tups u.frzs u.tbls (λB t=>by
  let⟨C,h,g,f,v⟩:=t;rw[k] at f;cases f;exact⟨_,h,g,i,v⟩) j q
theorem ZG.turned{t':Nat}{it:ak}(I:ZG X ki σ H s)(k:∀ b o,b≠it->s.heap.get? b=some o->h'.get? b=some o)(y:H it=none)(f:it≠X.env.locals)(i:it∈X.ex\/X.s₀.heap.objs.size<=it)(j:∀ x c,X.env.cells.lookup x=some c->c≠it)(l:∀ p∈X.pn++ki,p.1≠it):ZG X ki σ H { s with heap:=h',toks:=t' }:=by
 let d:∀ b u,H b=some u->b≠it:=λb u e z=>by rw[z,y] at e;cases e
 refine I.step (g':=s.gens) (d':=s.drawn) (ch:=[it]) (λb t=>?_) (λb o _ _ a e _=>k b o (λz=>a (by simp[z])) e) (λb o _ _ a e _=>⟨o.slots,k b o (λz=>a (by simp[z])) e⟩) (λ_ _ _ _ n=>n)
  (λb o a e=>⟨o,k b o (λz=>a (by simp[z])) e⟩) (λ_ _ e=>e) (λ_ _ _ e=>e) (λb B e=>⟨#[],by rw[e];simp⟩) (λm w=>?_) (λb u e=>?_) I.bare
 ·let e:b=it:=by simpa using t
  subst e;exact⟨i,f,j,l⟩
 ·let⟨o,h,g,A,r⟩:=w;exact⟨o,h,g,k _ o (Ne.symm f) A,r⟩
 ·refine(I.hok b u e).stay (λc v a q=>k c v ?_ q) (λ_ q=>q) λ_ _ q=>q;rcases a with z | z
  ·rw[z];exact d b u e
  ·exact d c _ z
theorem ZG.tok(I:ZG X ki σ H s)(t:Nat):ZG X ki σ H { s with toks:=t }:=I.un (h':=s.heap) (t':=t) Un.refl I.hok
theorem ZG.kept{t':Nat}(I:ZG X ki σ H s)(k:∀ b u,s.heap.get? b=some u->h'.get? b=some u):ZG X ki σ H { s with heap:=h',toks:=t' }:=I.un (Un.kept k) (I.hok.kept k)
theorem ZG.laid{a:ak}{o:HO}{t':Nat}(I:ZG X ki σ H s)(k:∀ b u,s.heap.get? b=some u->h'.get? b=some u)(c:s.heap.objs.size<=a)(d:Zb X.prog X.w (upd H a o) h' a o):
  ZG X ki σ (upd H a o) { s with heap:=h',toks:=t' }:=I.un (Un.laid k c (I.hok.fresh c)) (I.hok.laid k c d)
theorem ZG.write{x e:ak}{o:HO}{g:Nat}(I:ZG X ki σ H s)(f:NK (H x))(d:e=x\/H e=some (.own x))(k:∀ b u,b≠e->s.heap.get? b=some u->h'.get? b=some u)(a:∃ u,h'.get? e=some u)(c:Zb X.prog X.w (upd H x o) h' x o):ZG X ki σ (upd H x o) { s with heap:=h',toks:=g }:=I.un (Un.write f d k a) (I.hok.write f d k a c)
theorem ZG.pins_of{a:jq}(I:ZG X ki σ H s)(h:∀ p∈a,s.heap.get? p.1=some p.2/\H p.1=none/\p.1≠X.env.locals/\p.1∉X.fs/\∀ v,p.2.data≠.cell v):ZG X a σ H s:=
 ⟨I.ok,I.os,I.bare,I.base,I.loc,I.cell,I.free,I.freeC,λp b=>(yW.mp b).elim (λz=>I.pin p (yL _ z)) (h p),I.hok,I.len⟩
theorem EL{N:jp}(e:N.Nodup){i j:Nat}{x:Str}(a:N[i]? = some x)(b:N[j]? = some x):i=j:=by
 let⟨f,c⟩:=yZ.mp a;let⟨g,d⟩:=yZ.mp b;exact(List.getElem_inj e).mp (c.trans d.symm)
theorem Ea{M:Model}{A:ax}{E:ja}{i:Nat}{x:Str}{v:V}{u:aj}{Q:Unit->am->Prop}(I:ZG X ki σ H s)(hN:X.N.Nodup)(T:X.N[i]? = some x)(B:No X.env.scope x)(r:ZP v u)(h:∀ s',ZG X ki (σ.set i (some v)) H s'->(∃ a,xP a s.heap s'.heap/\(a=X.env.locals\/X.env.cells.lookup x=some a))->Q () s')(hf:X.fn x=true\/X.env.scope.names.lookup x=some .local:=by first | exact .inl rfl | exact .inr rfl | assumption):aB M A (storeName X.env x u) Q E s:=by
 let⟨m,hn,hl⟩:=id I.loc;let S:(X.env.scope.kind==.class || (X.env.scope.kind==.module&&X.env.locals != X.env.globals))=false:=by rw[I.ok.kind];rfl
 let F:i<σ.length:=by rw[I.len];exact(yZ.mp T).1
 let J:=I.cne;let l:∀{a:ak}{h':aD},(∃ o,s.heap.get? a=some o/\H a=none)->xP a s.heap h'->Y5 X.prog X.w H h':=fun{a h'} ha f b ob e=>by
  let⟨_,_,C⟩:=ha;refine(I.hok b ob e).stay (λc w' t q=>(f.2 c ?_).trans q) (λ_ q=>q) λ_ _ q=>q;rintro rfl;rcases t with rfl | t
  ·rw[C] at e;cases e
  ·rw[C] at t;cases t
 rcases B with G | G
 ·refine wpAny_storeName_local G hn (λh' a0 f=>?_) S;let⟨oL,_,_,a1,_⟩:=id hn;refine h _ ⟨I.ok,I.os,I.bare,⟨λb o e n K B=>?_,λb o e n K B=>?_,I.base.free,λb o e B=>?_,I.base.tups,I.base.frzs,I.base.tbls⟩,⟨_,a0,λj y v' g D e3=>?_⟩,λy c e=>?_,I.free,I.freeC,λp hp=>?_,l ⟨oL,a1,I.free⟩ f,by simpa using I.len⟩ ⟨_,f,.inl Z⟩
  ·exact(f.2 b (yK (yU (zG e) I.ok.above))).trans (I.base.keep b o e n K B)
  ·let⟨sl,g⟩:=I.base.slot b o e n K B;exact⟨sl,(f.2 b (yK (yU (zG e) I.ok.above))).trans g⟩
  ·let⟨o',g⟩:=I.base.there b o e B;exact⟨o',(f.2 b (yK (yU (zG e) I.ok.above))).trans g⟩
  ·by_cases O:j=i
   ·subst O;rw[T] at g;cases g;rw[qT F] at D;cases D;exact⟨u,r,.inl ⟨G,by simp⟩⟩
   ·rw[rM (Ne.symm O)] at D;let⟨u',r',q⟩:=hl j y v' g D e3;exists u',r';rcases q with ⟨k,e⟩ | ⟨k,c,e,z⟩
    ·refine .inl ⟨k,?_⟩;have:y≠x:=λe=>O (EL hN g (e ▸ T));simp[this,e]
    ·exact .inr ⟨k,c,e,z.sameBut f (J y c e)⟩
  ·let⟨w',z⟩:=I.cell y c e;exact⟨w',z.sameBut f (J y c e)⟩
  ·let⟨e,n,ne,nf,d⟩:=I.pin p hp;exact⟨(f.2 p.1 ne).trans e,n,ne,nf,d⟩
 ·let L:X.fn x=true:=by
   rcases hf with z | z
   ·exact z
   ·rw[z] at G;cases G
  let⟨c,t⟩:=I.ok.has x (.inl G);let⟨w',z⟩:=I.cell x c t;refine wpAny_storeName_cell I.ok.kind G t z (λh' P f=>?_);let⟨oc,U,W⟩:=id z;refine h { s with heap:=h' } ⟨I.ok,I.os,I.bare,⟨λb o e n K B=>?_,λb o e n K B=>?_,I.base.free,λb o e B=>?_,I.base.tups,I.base.frzs,I.base.tbls⟩,⟨m,hn.sameBut f (Ne.symm (J x c t)),λj y v' g D e3=>?_⟩,λy Y e=>?_,I.free,I.freeC,λp hp=>?_,l ⟨oc,U,I.freeC x c t⟩ f,by simpa using I.len⟩ ⟨c,f,.inr t⟩
  ·exact(f.2 b (yK (yU (zG e) (I.ok.cab x c L t)))).trans (I.base.keep b o e n K B)
  ·let⟨sl,g⟩:=I.base.slot b o e n K B;exact⟨sl,(f.2 b (yK (yU (zG e) (I.ok.cab x c L t)))).trans g⟩
  ·let⟨o',g⟩:=I.base.there b o e B;exact⟨o',(f.2 b (yK (yU (zG e) (I.ok.cab x c L t)))).trans g⟩
  ·by_cases O:j=i
   ·subst O;rw[T] at g;cases g;rw[qT F] at D;cases D;exact⟨u,r,.inr ⟨.inl G,c,t,P⟩⟩
   ·rw[rM (Ne.symm O)] at D;let⟨u',r',q⟩:=hl j y v' g D e3;exists u',r';rcases q with q | ⟨k,Y,e,z'⟩
    ·exact .inl q
    ·refine .inr ⟨k,Y,e,z'.sameBut f ?_⟩;rintro rfl;exact O (EL hN g (I.ok.inj _ _ _ e t ▸ T))
  ·by_cases R:Y=c
   ·subst R;exact⟨_,P⟩
   ·let⟨w2,z2⟩:=I.cell y Y e;exact⟨w2,z2.sameBut f R⟩
  ·let⟨e,n,ne,nf,d⟩:=I.pin p hp;refine⟨(f.2 p.1 ?_).trans e,n,ne,nf,d⟩;intro q;rw[q,U] at e;let q':oc=p.2:=yT.inj e;exact d w' (by rw[<-q'];exact W)
theorem Fj{M:Model}{A:ax}{E:ja}{i:Nat}{x:Str}{v:V}{u:aj}{Q:Unit->am->Prop}(I:ZG X ki σ H s)(c:X.N.Nodup)(e:X.N[i]? = some x)(f:No X.env.scope x)(r:ZP v u)(h:∀ a,ZG X ki (σ.set i (some v)) H a->Q () a)(d:X.fn x=true\/X.env.scope.names.lookup x=some .local:=by first | exact .inl rfl | exact .inr rfl | assumption):aB M A (storeName X.env x u) Q E s:=
 Ea I c e f r (λa b _=>h a b) d
theorem ZG.call'{s':am}{ch:jB}(I:ZG X ki σ H s)(i:s'.os=s.os)(u:Un (frs X.stack) ch H H' s.heap s'.heap)(d:Y5 X.prog X.w H' s'.heap)(h:AllBare s'.gens)(a:∀ b∈ch,(b∈X.ex\/X.s₀.heap.objs.size<=b)/\b≠X.env.locals/\(∀ x c,X.env.cells.lookup x=some c->c≠b)/\∀ p∈X.pn++ki,p.1≠b):ZG X ki σ H' s':=by
 let⟨h',g,f,k,j⟩:=s';let e:j=s.os:=i;subst e;exact I.call (g':=g) (t':=k) (d':=f) u d h a
end
abbrev XK:=aj->jx->Hp->Prop
abbrev St:=List (jg)
abbrev VK:=V->Hp->Prop
abbrev TE:=St->Hp->VK->Prop
abbrev jL:=List (TE×TE)
abbrev TT:=St->Hp->(Bool->Hp->Prop)->Prop
abbrev TA:=St->Hp->(jf->Hp->Prop)->Prop
structure Y0 where
 nx:St->Hp->Prop
 rt:VK
 bk:St->Hp->Prop:=λ_ _=>False
 ct:St->Hp->Prop:=λ_ _=>False
abbrev TS:=Y0->St->Hp->Prop
def EP(X:Cx)(a:jq)(d:St)(Q:VK)(u:aj)(c:am):Prop:=∃ v b,ZG X a d b c/\ZP v u/\Q v b
def TP(X:Cx)(a:jq)(e:St)(Q:Bool->Hp->Prop)(b:Bool)(d:am):Prop:=∃ c,ZG X a e c d/\Q b c
def AP(X:Cx)(a:jq)(f:St)(Q:jf->Hp->Prop)(e:je)(d:am):Prop:=∃ c b,ZG X a f b d/\ZO c e/\Q c b
def SP(X:Cx)(b:jq)(D:Y0)(f:Flow)(d:am):Prop:=
 match f with
 | .next=>∃ a c,ZG X b a c d/\D.nx a c
 | .brk=>∃ a c,ZG X b a c d/\D.bk a c
 | .cont=>∃ a c,ZG X b a c d/\D.ct a c
 | .ret u=>∃ v a c,ZG X b a c d/\ZP v u/\D.rt v c
def PE(X:Cx)(e:Expr)(t:TE):Prop:=
 ∀(a:jq)(s:am)(b:St)(H:Hp)(Q:VK),ZG X a b H s->t b H Q->aB (aA X.prog X.w) X.A (aG e X.env) (EP X a b Q) X.xe s
def PT(X:Cx)(e:Expr)(t:TT):Prop:=
 ∀(a:jq)(s:am)(b:St)(H:Hp)(Q:Bool->Hp->Prop),ZG X a b H s->t b H Q->aB (aA X.prog X.w) X.A (isTrue e X.env (aG e X.env)) (TP X a b Q) X.xe s
def PW(X:Cx)(e:Expr)(t:TT):Prop:=
 ∀(b:Sem aj)(a:jq)(s:am)(c:St)(H:Hp)(Q:Bool->Hp->Prop),ZG X a c H s->t c H Q->aB (aA X.prog X.w) X.A (isTrue e X.env b) (TP X a c Q) X.xe s
theorem PW.pt{X:Cx}{e:Expr}{t:TT}(h:PW X e t):PT X e t:=h _
def PA(X:Cx)(c:jw)(t:TA):Prop:=
 ∀(pos:Pos)(a:jq)(s:am)(b:St)(H:Hp)(Q:jf->Hp->Prop),ZG X a b H s->t b H Q->aB (aA X.prog X.w) X.A (spliced (aF pos (au c X.env))) (AP X a b Q) X.xe s
def PS(X:Cx)(c:aC)(t:TS):Prop:=
 ∀(a:jq)(s:am)(b:St)(H:Hp)(D:Y0),ZG X a b H s->t D b H->aB (aA X.prog X.w) X.A (exec c X.env) (SP X a D) X.xe s
def Wj(X:Cx)(c:jE)(t:TS):Prop:=
 ∀(a:jq)(s:am)(b:St)(H:Hp)(D:Y0),ZG X a b H s->t D b H->aB (aA X.prog X.w) X.A (execs c X.env) (SP X a D) X.xe s
theorem Z3{c:Type}{t:Sem c}{Q b:c->am->Prop}{M:Model}{A:ax}{E:ja}{s:am}(h:aB M A t Q E s)(d:∀ a s,Q a s->b a s):aB M A t b E s:=ae h d λ_ _ x=>x
theorem YF{d g i:Type}{t:Sem d}{a b c:d->am->g->i->Prop}{e:d->am->Prop}{M:Model}{A:ax}{E:ja}{s:am}(h:aB M A t (λv s=>∃ x H,a v s x H/\b v s x H/\c v s x H) E s)(f:∀ v s x H,a v s x H->b v s x H->c v s x H->e v s):aB M A t e E s:=Z3 h (by rintro v s ⟨x,H,p,q,r⟩;exact f v s x H p q r)
variable{X:Cx}
section
inductive Nv(i:Nat)(a:L2.St)(H:Hp)(Q:VK):Prop
 |mk(v:_)(_:a[i]? = some (some v))(_:Q v H)
def tC(v:V):TE:=λ_ H Q=>Q v H
theorem ZPq{i:Nat}{x:Str}{pos:Pos}(n:X.N[i]? = some x)(t:HZ X.env.scope x)(j:(x==("__debug__" : Str))=false:=by decide)(g:(x==("__classdict__" : Str))=false:=by decide):PE X (.Name x pos) (Nv i):=by
 intro f s w H Q I h;let⟨v,e,h⟩:=h;let⟨m,q,o⟩:=I.loc;let⟨u,r,l⟩:=o i x v n e t;let b:EP X f w Q u s:=⟨v,H,I,r,h⟩;rcases l with ⟨d,p⟩ | ⟨d,c,k,a⟩
 ·exact wpAny_Name (wpAny_loadName_local I.ok.kind d q p b) j
 ·rcases d with d | d
  ·exact wpAny_Name (wpAny_loadName_cell I.ok.kind d k a b) j
  ·exact wpAny_Name (wpAny_loadName_free I.ok.kind d k a b g) j
theorem ZJ{i j pos}:PE X (.Constant (.int i) j pos) (tC (.int i)):=λ_ _ _ H _ I h=>wpAny_Constant_int ⟨.int i,H,I.tok _,⟨_,Z⟩,h⟩
theorem ME{b j pos}:PE X (.Constant (.bool b) j pos) (tC (.bl b)):=λ_ _ _ H _ I h=>Constant_bool ⟨.bl b,H,I,Z,h⟩
theorem Nq{j pos}:PE X (.Constant .none j pos) (tC .non):=λ_ _ _ H _ I h=>Constant_none ⟨.non,H,I,Z,h⟩
theorem U0{x j pos}:PE X (.Constant (.str x) j pos) (tC (.str x)):=λ_ _ _ H _ I h=>Calls.Constant_str ⟨.str x,H,I.tok _,⟨_,Z⟩,h⟩
def Gl(X:Cx)(x:Str):Prop:=X.env.kindOf x=some .globalImplicit
theorem Mm{E:ja}{a:jq}{s:am}{e:St}{H:Hp}{x:Str}{u:aj}{pos:Pos}{Q:ja}(I:ZG X a e H s)(c:Gl X x)(d:X.mg x=some u)(h:Q u s)(b:(x==("__debug__" : Str))=false:=by decide):aB (aA X.prog X.w) X.A (aG (.Name x pos) X.env) Q E s:=
 Calls.Name_function_global I.ok.kind c (Calls.loadGlobal_global (by rw[I.ok.glob];exact I.mod.glob.keeps I.bk) d h) b
theorem Og{E:ja}{a:jq}{s:am}{j:St}{H:Hp}{x:Str}{u:aj}{pos:Pos}{Q:ja}(I:ZG X a j H s)(e:Gl X x)(f:X.mg x=none)(i:ay x=some u)(h:Q u s)(g:x ≠ "__name__" :=by decide)(d:(x==("__debug__" : Str))=false:=by decide):aB (aA X.prog X.w) X.A (aG (.Name x pos) X.env) Q E s:=by
 let⟨k,b,c⟩:=I.mod.blt;exact Calls.Name_function_global I.ok.kind e (Calls.loadGlobal_builtin (by rw[I.ok.glob];exact I.mod.glob.keeps I.bk) f (by rw[I.ok.blt];exact b.keeps I.bk) ((c x g).trans i) h) d
theorem Wt{x:Str}{v:V}{u:aj}{pos:Pos}(b:Gl X x)(c:X.mg x=some u)(r:ZP v u)(a:(x==("__debug__" : Str))=false:=by decide):PE X (.Name x pos) (tC v):=
 λ_ _ _ H _ I h=>Mm I b c ⟨v,H,I,r,h⟩ a
theorem OE{x:Str}{v:V}{u:aj}{pos:Pos}(b:Gl X x)(c:X.mg x=none)(e:ay x=some u)(r:ZP v u)(d:x ≠ "__name__" :=by decide)(a:(x==("__debug__" : Str))=false:=by decide):PE X (.Name x pos) (tC v):=
 λ_ _ _ H _ I h=>Og I b c e ⟨v,H,I,r,h⟩ d a
variable{a b:Expr}{ta tb:TE}{pos:Pos}
def PC(X:Cx)(g:CmpOp)(a b:Expr)(t:TE):Prop:=
 ∀(c:jq)(s:am)(f:St)(H:Hp)(Q:VK),ZG X c f H s->t f H Q ->
  aB (aA X.prog X.w) X.A (aG a X.env) (λv d=>aB (aA X.prog X.w) X.A (aG b X.env) (λu e=>aB (aA X.prog X.w) X.A (az g v u) (EP X c f Q) X.xe e) X.xe d) X.xe s
theorem ZKn(b:Expr){c:CmpOp}(h:c≠.In)(f:c≠.NotIn):behindInMarks c b=false:=by
 let d:(c==CmpOp.In)=false:=by cases c <;> first | rfl | exact absurd rfl h
 let e:(c==CmpOp.NotIn)=false:=by cases c <;> first | rfl | exact absurd rfl f
 cases b <;> simp[behindInMarks,d,e]
def ZRe(ta:TE):TE:=λd H Q=>ta d H λx c=>Q (.bl (decide (x=.non))) c
def ZQQ(ta:TE):TE:=λd H Q=>ta d H λx c=>Q (.bl (!decide (x=.non))) c
theorem ZP.none_iff{x:V}{v:aj}(r:ZP x v):(v==Value.none)=decide (x=.non):=by
 cases x with
 | non=>cases r;rfl
 | bl _=>cases r;rfl
 | int _=>let⟨t,rfl⟩:=r;rfl
 | str _=>let⟨t,rfl⟩:=r;rfl
 | byt _=>let⟨t,rfl⟩:=r;rfl
 | flt _=>let⟨t,rfl⟩:=r;rfl
 | ref _=>cases r;rfl
 | ty _=>cases r;rfl
theorem Oo{j d}(g:PE X a ta):PC X .Is a (.Constant .none j d) (ZRe ta):=by
 intro c s l H Q I h;refine YF (g c s l H _ I h) λv m x e f k i=>?_;exact Constant_none (is_none_gen ⟨.bl _,e,f,by rw[k.none_iff];rfl,i⟩)
theorem MU{j d}(g:PE X a ta):PC X .IsNot a (.Constant .none j d) (ZQQ ta):=by
 intro c s l H Q I h;refine YF (g c s l H _ I h) λv m x e f k i=>?_;exact Constant_none (isnot_none_gen ⟨.bl _,e,f,by rw[k.none_iff];rfl,i⟩)
def tB(t:TE):TT:=λe H Q=>t e H λx d=>∃ c,x=.bl c/\Q c d
theorem Uv{g:CmpOp}{t:TE}(h:PC X g a b t)(f:behindInMarks g b=false:=by first | exact ZKn _ (by decide) (by decide) | rfl):PT X (.Compare a [g] [b] pos) (tB t):=by
 intro e s o H Q I l;refine wpAny_isTrue_Compare1 (Z3 (h e s o H _ I l) λv p f=>Z3 f λu r k=>YF k λc w x i j n m=>?_) f;let⟨d,rfl,q⟩:=m;cases n;exact wpAny_truthy_bool ⟨i,j,q⟩
theorem Xw{e:Expr}{t:TE}(h:PE X e t)(j:∀ c,isTrue e X.env c=(do let v<-c;standAt e.pos;holding [v] (truthy v)):=by intro _;rfl):PT X e (tB t):=by
 intro f s n H Q I k;refine isTrue_plain (YF (h f s n H _ I k) λv o x g i m l=>?_) (j _);let⟨d,rfl,q⟩:=l;cases m;exact wpAny_truthy_bool ⟨g,i,q⟩
variable{tA tB':TT}{rest:jw}
def Bs(t u:TT):TT:=λe H Q=>t e H λc d=>if c=true then u e d Q else Q false d
def C5(t u:TT):TT:=λe H Q=>t e H λc d=>if c=true then Q true d else u e d Q
def ZRX(t:TT):TT:=λe H Q=>t e H λc d=>Q (!c) d
theorem C9(f:PT X a tA):PW X (.BoolOp .And [a] pos) tA:=by
 intro j d s g H Q I h;refine isTrue_and (Z3 (f d s g H Q I h) λc i e=>?_)
 cases c with
 | true=>exact isTrue_and_nil e
 | false=>exact e
theorem QP(f:PT X a tA):PW X (.BoolOp .Or [a] pos) tA:=by
 intro j d s g H Q I h;refine isTrue_or (Z3 (f d s g H Q I h) λc i e=>?_)
 cases c with
 | false=>exact isTrue_or_nil e
 | true=>exact e
theorem Ao(j:PT X a tA)(k:PW X (.BoolOp .And (b::rest) pos) tB'):PW X (.BoolOp .And (a::b::rest) pos) (Bs tA tB'):=by
 intro m d s i H Q I h;refine isTrue_and (Z3 (j d s i H _ I h) ?_);rintro c l ⟨e,f,g⟩
 cases c with
 | true=>exact k m d l i e Q f g
 | false=>exact⟨e,f,g⟩
theorem UQ(j:PT X a tA)(k:PW X (.BoolOp .Or (b::rest) pos) tB'):PW X (.BoolOp .Or (a::b::rest) pos) (C5 tA tB'):=by
 intro m d s i H Q I h;refine isTrue_or (Z3 (j d s i H _ I h) ?_);rintro c l ⟨e,f,g⟩
 cases c with
 | true=>exact⟨e,f,g⟩
 | false=>exact k m d l i e Q f g
theorem UO(f:PT X a tA):PT X (.UnaryOp .Not a pos) (ZRX tA):=by
 intro d s g H Q I h;exact isTrue_not (f d s g H (λc e=>Q (!c) e) I h)
inductive O0(tb:TE)(e:L2.St)(Q:VK)(x:V)(d:Hp):Prop
 |mk(c:_)(_:x=.bl c)(_:if c=true then tb e d Q else Q (.bl false) d)
def Ax(ta tb:TE):TE:=λc H Q=>ta c H λx d=>O0 tb c Q x d
theorem Lr{e}{t:TE}(h:PE X a t):PE X (.BoolOp e [a] pos) t:=λc s f H Q I d=>BoolOp_one (h c s f H Q I d)
theorem MV(j:PE X a ta)(k:PE X (.BoolOp .And (b::rest) pos) tb):PE X (.BoolOp .And (a::b::rest) pos) (Ax ta tb):=by
 intro d s i H Q I h;refine BoolOp_and (YF (j d s i H _ I h) λv m x f g l e=>?_);let⟨c,rfl,e⟩:=e;cases l;refine wpAny_truthy_bool ?_
 cases c with
 | true=>exact k d m i f Q g e
 | false=>exact⟨.bl false,f,g,Z,e⟩
end
def ZF(K:zZ)(H:Hp)(a:ak)(c:jf):Prop:=
 Rd H a (.lst c) \/
  ∃(o:aH)(b:jt)(n:Nat),K.lookup a=some o/\o.cls=.type "list" /\ o.dict=none/\o.data=.seq b n/\b.size<=ar/\ZO c b.toList
def Zm(K:zZ)(H:Hp)(a:ak)(c:jf):Prop:=
 Rd H a (.tup c) \/
  ∃(o:aH)(b:jt)(n:Nat),K.lookup a=some o/\o.cls=.type "tuple" /\ o.data=.seq b n/\b.size<=ar/\ZO c b.toList
def ZRa:aj->jg
 | .none=>some .non
 | .bool b=>some (.bl b)
 | .int i _=>some (.int i)
 | .str x _=>some (.str x)
 | .bytes b _=>some (.byt b)
 | .float b _=>some (.flt b)
 | .ref a=>some (.ref a)
 | .type n=>some (.ty n)
 | _=>none
theorem ZP.abs{x:V}{u:aj}(r:ZP x u):ZRa u=some x:=by
 cases x with
 | non=>cases r;rfl
 | bl _=>cases r;rfl
 | int _=>let⟨t,rfl⟩:=r;rfl
 | str _=>let⟨t,rfl⟩:=r;rfl
 | byt _=>let⟨t,rfl⟩:=r;rfl
 | flt _=>let⟨t,rfl⟩:=r;rfl
 | ref _=>cases r;rfl
 | ty _=>cases r;rfl
theorem ZP.inj{x y:V}{u:aj}(r:ZP x u)(q:ZP y u):x=y:=yT.inj (r.abs.symm.trans q.abs)
theorem ZO.inj:∀{c a:jf}{b:je},ZO c b->ZO a b->c=a:=by intro _ a _ h g;induction h generalizing a with
 | nil=>cases g;rfl
 | cons r _ d=>cases g with
  | cons e f=>rw[r.inj e,d f]
section
variable{ki:jq}{σ:St}{H:Hp}{s:am}{a:ak}{xs ys:jf}
theorem ZF.of{K:zZ}(h:H a=some (.lst xs)):ZF K H a xs:=.inl (.inl h)
theorem Zm.of{K:zZ}(h:H a=some (.tup xs)):Zm K H a xs:=.inl (.inl h)
theorem ZG.list(I:ZG X ki σ H s)(h:ZF X.K H a xs):∃ b:je,ZO xs b/\PlainL s.heap a b.toArray/\xs.length<=sizeLine:=by
 rcases h with h | ⟨o,b,n,f,c,d,g,i,r⟩
 ·let⟨z,b,n,r,e⟩:=h.ok I.hok;exact⟨b,r,⟨_,n,e,Z,Z,Z⟩,z⟩
 ·exists b.toList,r,⟨o,n,I.kIn a o f,c,d,by simpa using g⟩
  let e:=r.length;simp only[yH] at e
  lia
theorem ZG.tuple(I:ZG X ki σ H s)(h:Zm X.K H a xs):∃ b:je,ZO xs b/\IsTup s.heap a b.toArray/\xs.length<=sizeLine:=by
 rcases h with h | ⟨o,b,n,d,c,f,g,r⟩
 ·let⟨z,b,r,p⟩:=h.ok I.hok;exact⟨b,r,p,z⟩
 ·exists b.toList,r,⟨o,I.kIn a o d,c,n,by simpa using f⟩
  let e:=r.length;simp only[yH] at e
  lia
theorem ZG.list_inj(I:ZG X ki σ H s)(h:ZF X.K H a xs)(i:ZF X.K H a ys):xs=ys:=by
 let⟨c,r,⟨o,n,e,_,_,d⟩,_⟩:=I.list h;let⟨b,j,⟨l,k,g,_,_,f⟩,_⟩:=I.list i;rw[e] at g;cases g;rw[d] at f;injection f with d1 _;have:c=b:=by simpa using congrArg zEE d1
 subst this;exact r.inj j
theorem ZG.tuple_inj(I:ZG X ki σ H s)(h:Zm X.K H a xs)(i:Zm X.K H a ys):xs=ys:=by
 let⟨c,r,⟨o,e,_,n,d⟩,_⟩:=I.tuple h;let⟨b,j,⟨l,g,_,k,f⟩,_⟩:=I.tuple i;rw[e] at g;cases g;rw[d] at f;injection f with d1 _;have:c=b:=by simpa using congrArg zEE d1
 subst this;exact r.inj j
end
abbrev Cx.wish(X:Cx)(E:ja):Cx:={ X with xe:=E }
abbrev Cx.nox(X:Cx):Cx:=X.wish λ_ _=>False
theorem Cx.Ok.wish{X:Cx}(a:X.Ok)(E:ja):(X.wish E).Ok:=
 ⟨a.mod,a.kind,a.glob,a.blt,a.above,a.inj,a.has,a.cab,a.hd,a.frames,a.stk,a.exf,a.bs,a.bsz,a.noex,a.exfs,a.funs,a.frf⟩
theorem Cx.Ok.unwish{X:Cx}{E:ja}(a:(X.wish E).Ok):X.Ok:=
 ⟨a.mod,a.kind,a.glob,a.blt,a.above,a.inj,a.has,a.cab,a.hd,a.frames,a.stk,a.exf,a.bs,a.bsz,a.noex,a.exfs,a.funs,a.frf⟩
section
variable{ki:jq}{σ:St}{H:Hp}{s:am}{E:ja}
theorem ZG.wish(I:ZG X ki σ H s)(E:ja):ZG (X.wish E) ki σ H s:=⟨I.ok.wish E,I.os,I.bare,I.base,I.loc,I.cell,I.free,I.freeC,I.pin,I.hok,I.len⟩
theorem ZG.unwish(I:ZG (X.wish E) ki σ H s):ZG X ki σ H s:=⟨I.ok.unwish,I.os,I.bare,I.base,I.loc,I.cell,I.free,I.freeC,I.pin,I.hok,I.len⟩
theorem SP.unwish{D:Y0}{f:Flow}{c:am}(h:SP (X.wish E) ki D f c):SP X ki D f c:=by
 cases f with
 | next=>let⟨a,b,I,q⟩:=h;exact⟨a,b,I.unwish,q⟩
 | brk=>let⟨a,b,I,q⟩:=h;exact⟨a,b,I.unwish,q⟩
 | cont=>let⟨a,b,I,q⟩:=h;exact⟨a,b,I.unwish,q⟩
 | ret u=>let⟨v,a,b,I,r,q⟩:=h;exact⟨v,a,b,I.unwish,r,q⟩
theorem Wj.nox{a:jE}{t:TS}(h:Wj X.nox a t):Wj X a t:=λki s σ H D I b=>
 ae (h ki s σ H D (I.wish _) b) (λ_ _ q=>q.unwish) λ_ _ z=>False.elim z
end
section
variable{st:aC}{rest:jE}{t u:TS}{e:Expr}{te:TE}{pos:Pos}
def C1:TS:=λD a H=>D.nx a H
def ZRK(t u:TS):TS:=λD a H=>t { D with nx:=u D } a H
theorem Z2:Wj X [] C1:=λ_ _ a H _ I h=>wpAny_execs_nil ⟨a,H,I,h⟩
theorem ZL(g:PS X st t)(i:Wj X rest u):Wj X (st::rest) (ZRK t u):=by
 intro a s k H D I h;refine wpAny_execs_cons (Z3 (g a s k H { D with nx:=u D } I h) λf j q=>?_)
 cases f with
 | next=>
  let⟨b,c,d,q⟩:=q;exact i a j b c D d q
 | ret v=>exact q
 | brk=>exact q
 | cont=>exact q
theorem ZR(b:PS X st t):Wj X [st] t:=by
 intro a s c H D I h;refine wpAny_execs_cons (Z3 (b a s c H D I h) λf d q=>?_)
 cases f with
 | next=>exact wpAny_execs_nil q
 | ret v=>exact q
 | brk=>exact q
 | cont=>exact q
theorem ZG.quiet{a:jq}{b:St}{H:Hp}{s:am}(I:ZG X a b H s):interactive X.env=false:=by simp[interactive,I.ok.kind]
def ZQe(te:TE):TS:=λD a H=>te a H λ_ b=>D.nx a b
theorem XT(f:PE X e te)(g:swapsWith e none pos.line X.env=pure false:=by rfl):PS X (.Expr e pos) (ZQe te):=by
 intro a s b H D I h;exact wpAny_Expr_any (YF (f a s b H _ I h) λv k x c d j i=>⟨b,c,d,i⟩) I.quiet g
def ZRH(te:TE):TS:=λD a H=>te a H D.rt
theorem Zh(f:PE X e te):PS X (.Return (some e) pos) (ZRH te):=by
 intro a s b H D I h;exact wpAny_Return_some (YF (f a s b H _ I h) λv j x c d i g=>⟨x,b,c,d,i,g⟩)
def ZRY(c:TT)(t u:TS):TS:=λD a H=>c a H λb d=>if b=true then t D a d else u D a d
theorem Z1{c:Expr}{a b:jE}{m:TT}(p:PT X c m)(n:Wj X a t)(o:Wj X b u):PS X (.If c a b pos) (ZRY m t u):=by
 intro f s g H D I h;refine wpAny_If (Z3 (p f s g H _ I h) ?_);rintro d l ⟨i,j,k⟩
 cases d with
 | true=>exact n f l g i D j k
 | false=>exact o f l g i D j k
def ZO4:TS:=λ_ _ _=>False
theorem WY{a:jE}:Wj X a ZO4:=λ_ _ _ _ _ _ h=>h.elim
end
abbrev TG:=V->St->Hp->(St->Hp->Prop)->Prop
abbrev NB:=jf->St->Hp->(St->Hp->Prop)->Prop
def PG(X:Cx)(a:Expr)(t:TG):Prop:=
 ∀(b:jq)(s:am)(e:St)(H:Hp)(v:V)(u:aj)(Q:St->Hp->Prop),ZG X b e H s->ZP v u->t v e H Q ->
  aB (aA X.prog X.w) X.A (assign a X.env u) (λ_ f=>∃ c d,ZG X b c d f/\Q c d) X.xe s
def KI(X:Cx)(h:jw)(t:NB):Prop:=
 ∀(a:jq)(s:am)(f:St)(H:Hp)(e:jf)(d:je)(Q:St->Hp->Prop),ZG X a f H s->ZO e d->t e f H Q ->
  aB (aA X.prog X.w) X.A (assignInOrder ((assignEach h X.env).map (·.2)) d) (λ_ g=>∃ b c,ZG X a b c g/\Q b c) X.xe s
abbrev Jv:=V->V->V->Hp->(Hp->Prop)->Prop
def CI(X:Cx)(t:Jv):Prop:=
 ∀(a:jq)(s:am)(e:St)(H:Hp)(o i v:V)(d c u:aj)(Q:Hp->Prop),ZG X a e H s->ZP o d->ZP i c->ZP v u->t o i v H Q ->
  aB (aA X.prog X.w) X.A (setItem d c u) (λ_ f=>∃ b,ZG X a e b f/\Q b) X.xe s
section
variable{pos:Pos}
def OC(i:Nat):TG:=λv a H Q=>Q (a.set i (some v)) H
theorem IU{i:Nat}{x:Str}(c:X.N.Nodup)(e:X.N[i]? = some x)(f:No X.env.scope x)(d:X.fn x=true\/X.env.scope.names.lookup x=some .local:=by first | exact .inl rfl | exact .inr rfl | assumption):PG X (.Name x pos) (OC i):=by
 intro a s j H v u Q I r h;exact wpAny_assign_Name (Fj I c e f r (λg b=>⟨_,H,b,h⟩) d)
theorem WG(i:Nat){x:Str}(a:X.N.Nodup)(c:X.N[i]? = some x:=by rfl)(d:No X.env.scope x:=by exact Or.inl Z)(b:X.fn x=true\/X.env.scope.names.lookup x=some .local:=by first | exact .inl rfl | exact .inr rfl | assumption):PG X (.Name x pos) (OC i):=IU a c d b
def ZRW:NB:=λa b H Q=>a=[]/\Q b H
inductive Ml(t:TG)(u:NB)(c:jf)(d:L2.St)(H:Hp)(Q:L2.St->Hp->Prop):Prop
 |mk(v r:_)(_:c=v::r)(_:t v d H λa b=>u r a b Q)
theorem Kl:KI X [] ZRW:=by
 intro a s b H d c Q I r h;let⟨e,h⟩:=h;subst e;cases r;exact assignInOrder_nil ⟨b,H,I,h⟩
theorem NW{e:Expr}{b:jw}{t:TG}{u:NB}(i:PG X e t)(j:KI X b u)(k:(assignEach (e::b) X.env).map (·.2)=assign e X.env::(assignEach b X.env).map (·.2):=by rfl):KI X (e::b) (Ml t u):=by
 intro a s o H w p Q I r h;let⟨v,q,g,h⟩:=h;subst g
 cases r with
 | cons r m=>
  rw[k];refine assignInOrder_cons (Z3 (i a s o H _ _ _ I r h) ?_);rintro _ n ⟨c,d,f,l⟩;exact j a n c d _ _ Q f m l
inductive IB(K:zZ)(n:Nat)(t:NB)(v:V)(c:L2.St)(H:Hp)(Q:L2.St->Hp->Prop):Prop
 |mk(a b:_)(_:v=.ref a)(_:Zm K H a b)(_:b.length=n)(_:t b c H Q)
theorem K0{d:jw}{k:Nat}{t:NB}{n:Nat}(q:X.calm=true)(h:KI X d t)(x:(assignEach d X.env).length=n:=by rfl)(f:(assignEach d X.env).findIdx? (·.1)=none:=by rfl):PG X (.Tuple d k pos) (IB X.K n t):=by
 intro c s j H v u Q I r g;let⟨a,C,m,y,w,g⟩:=g;subst m;cases r;let⟨B,i,z,D⟩:=I.tuple y;refine assign_Tuple_tuple (I.ok.hd q) z (by simp[x,<-w,i.length]) f λp A=>?_
 let l:ZG X c j H { s with heap:=p }:=I.kept (t':=s.toks) λb o e=>A b o (yK (zG e)) e;exact h c _ j H C _ Q l (by simpa using i) g
def ZRI(f e:TE)(t:Jv):TG:=λv a H Q=>f a H λo b=>e a b λi c=>t o i v c λd=>Q a d
theorem KQ{o i:Expr}{f e:TE}{t:Jv}(w:PE X o f)(q:PE X i e)(z:CI X t)(p:∀ v,assign (.Subscript o i pos) X.env v=(do
   let b<-holding [v] (aG o X.env)
   let c<-holding [v,b] (aG i X.env)
   standAt pos
   holding [v,b,c] (setItem b c v)
   release [v,b,c] []):=by intro _;rfl):PG X (.Subscript o i pos) (ZRI f e t):=by
 intro a s d H v u Q I r h;rw[p];refine aa (af (YF (w a s d H _ I h) λb F x g l D A=>?_));refine aa (af (YF (q a F d g _ l A) λc G y j m E B=>?_));refine aa (wpAny_standAt (aa (af (Z3 (z a G d j x y v b c u _ m D E r B) ?_))));rintro _ J ⟨k,n,C⟩;exact wpAny_release ⟨d,k,n,C⟩
def JS(c:TE)(g:TG):TS:=λD a H=>c a H λx b=>g x a b D.nx
theorem NQ{b e:Expr}{c:TE}{g:TG}(k:PE X e c)(l:PG X b g)(m:swapsWithSole [b] e pos.line X.env=pure false:=by rfl)(n:swappedStores [b] e X.env=pure none:=by rfl)(j:(assignEach [b] X.env).map (·.2)=[assign b X.env]:=by rfl):PS X (.Assign [b] e pos) (JS c g):=by
 intro a s d H D I h;refine wpAny_Assign_stores (YF (k a s d H _ I h) λv r x f i p o=>?_) m n;rw[j];exact Z3 (l a r d f x v _ i p o) λ_ t q=>q
theorem N3{i:Nat}{x:Str}{e:Expr}{c:TE}{a:Pos}(j:X.N.Nodup)(m:X.N[i]? = some x)(o:No X.env.scope x)(k:PE X e c)(n:swapsWith e (some (.Name x a)) pos.line X.env=pure false:=by rfl)(l:X.fn x=true\/X.env.scope.names.lookup x=some .local:=by first | exact .inl rfl | exact .inr rfl | assumption):
  PS X (.Assign [.Name x a] e pos) (JS c (OC i)):=by
 intro b s r H D I h;refine wpAny_Assign_Name (YF (k b s r H _ I h) λv t y d f q p=>?_) n;exact Fj f j m o q (λu g=>⟨_,d,g,p⟩) l
theorem Ze(i:Nat){x:Str}{e:Expr}{b:TE}{a:Pos}(c:X.N.Nodup)(d:PE X e b)(g:X.N[i]? = some x:=by rfl)(j:No X.env.scope x:=by exact Or.inl Z)(h:swapsWith e (some (.Name x a)) pos.line X.env=pure false:=by rfl)(f:X.fn x=true\/X.env.scope.names.lookup x=some .local:=by first | exact .inl rfl | exact .inr rfl | assumption):
  PS X (.Assign [.Name x a] e pos) (JS b (OC i)):=N3 c g j d h f
inductive Of(c:TT)(h:TS)(D:Y0)(a:L2.St)(H:Hp):Prop
 |mk(W:Nat->St->Hp->Prop)(_:∃ m,W m a H)(_:∀ m a H,W m a H->c a H λb f=>if b=true then ∃ N:St->Hp->Prop,(∀ d e,N d e->∃ g,g<m/\W g d e)/\h { D with nx:=N,ct:=N,bk:=D.nx } a f else D.nx a f)
theorem P5{c:Expr}{g:jE}{F:TT}{E:TS}(C:PassesOwn (aA X.prog X.w) X.A X.env X.xe)(K:PT X c F)(J:Wj X g E):PS X (.While c g [] pos) (Of F E):=by
 intro a s S H D I h;let⟨W,⟨L,Q⟩,j⟩:=h;refine wpAny_While (codeAny_whileLoop (λn M=>∃ k u,ZG X a k u M/\W n k u) ?_ L ⟨S,H,I,Q⟩);rintro n O ⟨e,x,G,R⟩;refine wpAny_passesOwn C (Z3 (K a O e x _ G (j n e x R)) ?_);rintro b P ⟨y,z,l⟩
 cases b with
 | true=>
  let⟨N,B,l⟩:=l;rw[aM rfl];refine wpAny_passesOwn C (Z3 (J a P e y _ z l) λf T m=>?_)
  cases f with
  | next=>
   let⟨d,i,o,r⟩:=m;let⟨q,p,t⟩:=B d i r;exact⟨q,p,d,i,o,t⟩
  | cont=>
   let⟨d,i,o,r⟩:=m;let⟨q,p,t⟩:=B d i r;exact⟨q,p,d,i,o,t⟩
  | brk=>exact m
  | ret v=>exact m
 | false=>
  rw[aK zT];exact wpAny_execs_nil ⟨e,y,z,l⟩
end
structure It where
 go:Nat->Hp->Prop
 yld:Nat->Hp->V->Hp->Prop
 stop:Nat->Hp->Prop
def VL(X:Cx)(a:jq)(H:Hp)(b:ak):Prop:=
 H b=none/\b≠X.env.locals/\b∉X.fs/\(b∈X.ex\/X.s₀.heap.objs.size<=b)/\(∀ x c,X.env.cells.lookup x=some c->c≠b)/\∀ p∈X.pn++a,p.1≠b
theorem ZG.fpOk{X:Cx}{a:jq}{i:St}{H f:Hp}{s:am}{b:ak}(I:ZG X a i H s)(d:s.heap.objs.size<=b)(g:f b=none):VL X a f b:=by
 refine⟨g,tU (yU I.lt d),I.nofs d,.inr (zO I.sz d),λx c e z=>?_,λp h z=>?_⟩
 ·let⟨v,q⟩:=I.cell x c e;exact absurd (yU q.lt (by rw[z];exact d)) (vW _)
 ·exact absurd (yU (zG (I.pin p h).1) (by rw[z];exact d)) (vW _)
structure Vu(P:ao)(w:aw)(K:zZ)(tg:Expr)(J:It)(fp:jB)(it:ak)(tn:Nat->aD->Prop):Prop where
 mem:it∈fp
 obj:∀ i h,tn i h->∀ b∈fp,∃ o,h.get? b=some o/\∀ v,o.data≠.cell v
 keep:∀ i h h',tn i h->(∀ b∈fp,∀ o,h.get? b=some o->h'.get? b=some o)->tn i h'
 item:∀(X:Cx),X.prog=P->X.w=w->X.K=K->X.calm=true->∀(i:Nat)(ki:jq)(s:am)(σ:St)(H:Hp)(E:ja),ZG X ki σ H s->(∀ b∈fp,VL X ki H b)->tn i s.heap->J.go i H ->
  aB (aA P w) X.A (pyNext (.ref it)) (λr s1=>∃ u,r=some u /\
   aB (aA P w) X.A (letOwnedTupleGo tg (.ref it) u) (λ_ s2=>∃ x H',ZG X ki σ H' s2/\ZP x u/\J.yld i H x H'/\tn (i+1) s2.heap/\∀ b∈fp,H' b=none) E s1) E s
 done:∀(X:Cx),X.prog=P->X.w=w->X.K=K->X.calm=true->∀(i:Nat)(ki:jq)(s:am)(σ:St)(H:Hp)(E:ja),ZG X ki σ H s->(∀ b∈fp,VL X ki H b)->tn i s.heap->J.stop i H ->
  aB (aA P w) X.A (pyNext (.ref it)) (λr s1=>r=none/\ZG X ki σ H s1) E s
 self:∀(A:ax)(i:Nat)(s:am)(Q:ja)(E:ja),tn i s.heap->Q (.ref it) s->aB (aA P w) A (pyIter (.ref it)) Q E s
abbrev TI:=St->Hp->(It->Hp->Prop)->Prop
def D7(X:Cx)(a:jq)(j:St)(i:Expr)(R:It->Hp->Prop)(d:aj)(g:am):Prop:=
 ∃(f:ak)(e:jB)(h:Nat->aD->Prop)(J:It)(c:Hp),d=.ref f/\ZG X a j c g/\Vu X.prog X.w X.K i J e f h/\h 0 g.heap/\(∀ b∈e,VL X a c b)/\R J c
def PI(X:Cx)(e b:Expr)(f:TI):Prop:=
 ∀(a:jq)(s:am)(c:St)(H:Hp)(R:It->Hp->Prop),ZG X a c H s->f c H R ->
  aB (aA X.prog X.w) X.A (aG b X.env) (λv d=>aB (aA X.prog X.w) X.A (pyIter v) (D7 X a c e R) X.xe d) X.xe s
theorem Mj{M:Model}{A:ax}{E:ja}{s:am}{c:Expr}{b:ak}{u:aj}{o:aH}{n:String}{d:jt}{Q:Unit->am->Prop}(i:s.heap.get? b=some o)(e:o.cls=.type n)(f:o.data=.fields d)(g:["enumerate","zip","dict_itemiterator","dict_reverseitemiterator","odict_iterator","itertools.zip_longest","itertools.pairwise"].contains n=false)(a:Q () s):aB M A (letOwnedTupleGo c (.ref b) u) Q E s:=by
 unfold letOwnedTupleGo;cases c <;> first
  | exact ad a
  | (cases u <;> first
    | exact ad a
    | (refine aa (wpAny_load i ?_);rw[e,f];show aB M A (if (["enumerate","zip","dict_itemiterator","dict_reverseitemiterator","odict_iterator","itertools.zip_longest","itertools.pairwise"].contains n&&d[0]? == some (rawInt _))=true then _ else _) Q E s;rw[aK (by intro h;rw[g,vV] at h;cases h)];exact ad a))
def Nc(K:zZ)(a:ak):It:=
 ⟨λi H=>∃ b x,ZF K H a b/\b[i]? = some x,λi H x c=>c=H/\∀ b,ZF K H a b->b[i]? = some x,λi H=>∃ b,ZF K H a b/\b.length<=i⟩
def MS(K:zZ)(a:ak):It:=
 ⟨λi H=>∃ b x,Zm K H a b/\b[i]? = some x,λi H x c=>c=H/\∀ b,Zm K H a b->b[i]? = some x,λi H=>∃ b,Zm K H a b/\b.length<=i⟩
def OZ(b:Int)(n:Nat):It:=⟨λi _=>i<n,λi H x a=>a=H/\x=.int (b+i),λi _=>n<=i⟩
theorem ZJb{P:ao}{w:aw}{K:zZ}{tg:Expr}(a l:ak):Vu P w K tg (Nc K a) [l] l (λi h=>h.IsListIter l a i) where
 mem:=by simp
 obj:=λi h f b j=>by
  let e:b=l:=by simpa using j
  subst e;let⟨o,e,c,d⟩:=f;exact⟨o,e,λv z=>by rw[d] at z;cases z⟩
 keep:=λi h n f k=>f.at λo e=>k l (by simp) o e
 item:=by
  intro X F J D O i g s Q H E I q f G;subst F J D;let⟨xs,x,r,L⟩:=G;let⟨M,N,p,Y⟩:=I.list r;let⟨u,U,ru⟩:=N.get L;let⟨t,y,T,A,B,C⟩:=q l (by simp)
  refine wpAny_pyNext_list_item f p.isList (x:=u) (by simpa using U) λn m sb=>?_
  let R:ZG X g Q H { s with heap:=n }:=I.turned (t':=s.toks) (λb o j e=>(sb.2 b j).trans e) t y A B C;let⟨o,e,c,d⟩:=id m;exact⟨u,Z,Mj (s:={ s with heap:=n }) e c d (by decide) ⟨x,H,R,ru,⟨Z,λys V=>by rw[I.list_inj V r];exact L⟩,m,λb j=>(q b j).1⟩⟩
 done:=by
  intro X F J D O i g s Q H E I q f G;subst F J D;let⟨xs,r,L⟩:=G;let⟨M,N,p,Y⟩:=I.list r;let⟨t,y,T,A,B,C⟩:=q l (by simp)
  let hl:=N.length;exact wpAny_pyNext_list_end (I.ok.hd O) f p.isList (by simp;lia) λn S=>⟨Z,I.turned (t':=s.toks) (λb o j e=>S b o j e) t y A B C⟩
 self:=λ_ _ _ _ _ f h=>wpAny_pyIter_listiter f h
theorem ZHs{P:ao}{w:aw}{K:zZ}{tg:Expr}(a l:ak):Vu P w K tg (MS K a) [l] l (λi h=>h.IsTupleIter l a i) where
 mem:=by simp
 obj:=λi h f b j=>by
  let e:b=l:=by simpa using j
  subst e;let⟨o,e,c,d⟩:=f;exact⟨o,e,λv z=>by rw[d] at z;cases z⟩
 keep:=λi h q f k=>f.at λo e=>k l (by simp) o e
 item:=by
  intro X G L F O i g s Q H E I r f J;subst G L F;let⟨xs,x,t,M⟩:=J;let⟨m,N,p,Y⟩:=I.tuple t;let⟨u,U,ru⟩:=N.get M;let⟨y,A,T,B,C,D⟩:=r l (by simp)
  refine wpAny_pyNext_tuple_item f (show s.heap.IsTuple a m.toArray from p) (x:=u) (by simpa using U) λq n sb=>?_
  let R:ZG X g Q H { s with heap:=q }:=I.turned (t':=s.toks) (λb o j e=>(sb.2 b j).trans e) y A B C D;let⟨o,e,c,d⟩:=id n;exact⟨u,Z,Mj (s:={ s with heap:=q }) e c d (by decide) ⟨x,H,R,ru,⟨Z,λys V=>by rw[I.tuple_inj V t];exact M⟩,n,λb j=>(r b j).1⟩⟩
 done:=by
  intro X G L F O i g s Q H E I r f J;subst G L F;let⟨xs,t,M⟩:=J;let⟨m,N,p,Y⟩:=I.tuple t;let⟨y,A,T,B,C,D⟩:=r l (by simp)
  let hl:=N.length;exact wpAny_pyNext_tuple_end (I.ok.hd O) f (show s.heap.IsTuple a m.toArray from p) (by simp;lia) λq S=>⟨Z,I.turned (t':=s.toks) (λb o j e=>S b o j e) y A B C D⟩
 self:=λ_ _ _ _ _ f h=>wpAny_pyIter_tupleiter f h
theorem ZIE{P:ao}{w:aw}{K:zZ}{Q:Expr}(c:ak)(m:Int)(n:Nat):Vu P w K Q (OZ m n) [c] c (λi h=>IsRangeIter h c (m+(i:Nat) * 1) ((n:Int)-(i:Nat)) 1) where
 mem:=by simp
 obj:=λi h a b f=>by
  let e:b=c:=by simpa using f
  subst e;exact⟨_,a,λv z=>by
   let R:Data.fields _=Data.cell v:=z;cases R⟩
 keep:=λi h j a k=>k c (by simp) _ a
 item:=by
  intro X A D y B i d s G H E I l a C;subst A D y;let⟨p,q,M,r,u,x⟩:=l c (by simp)
  let W:=Walks.range (prog:=X.prog) (w:=X.w) (I.ok.hd B) c m 1 n;refine W.item i s _ _ C a λv j F N g O=>?_;let⟨t,rfl⟩:=N;let J:ZG X d G H { s with heap:=j,toks:=F }:=I.turned (λb o f e=>O b o (by simpa using f) e) p q r u x
  refine⟨_,Z,Mj (s:={ s with heap:=j,toks:=F }) (n:= "range_iterator") g Z Z (by decide) ⟨.int (m+i),H,J,⟨t,?_⟩,⟨Z,Z⟩,g,λb f=>(l b f).1⟩⟩
  rw[Int.mul_one]
 done:=by
  intro X A D y B i d s G H E I l a C;subst A D y;let⟨p,q,M,r,u,x⟩:=l c (by simp)
  exact wpAny_pyNext_range_end (I.ok.hd B) a (by have:n<=i:=C;lia) λj L=>⟨Z,I.turned (t':=s.toks) (λb o f e=>L b o f e) p q r u x⟩
 self:=λ_ _ _ _ _ a h=>wpAny_pyIter_rangeiter a h
section
variable{tg:Expr}
inductive OS(K:zZ)(R:It->Hp->Prop)(x:V)(b:Hp):Prop
 |mk(a:_)(_:x=.ref a)(_:∃ c,ZF K b a c)(_:R (Nc K a) b)
def BW(K:zZ)(b:TE):TI:=λc H R=>b c H λx a=>OS K R x a
inductive Mf(K:zZ)(R:It->Hp->Prop)(x:V)(b:Hp):Prop
 |mk(a:_)(_:x=.ref a)(_:∃ c,Zm K b a c)(_:R (MS K a) b)
def ZRU(K:zZ)(b:TE):TI:=λc H R=>b c H λx a=>Mf K R x a
theorem X9{l:Expr}{g:TE}(k:PE X l g):PI X tg l (BW X.K g):=by
 intro c s u H R I h;refine YF (k c s u H _ I h) λv f x i d t r=>?_;let⟨a,e,⟨z,m⟩,q⟩:=r;subst e;cases t;let⟨n,y,p,w⟩:=d.list m;refine wpAny_pyIter_list p.isList ?_;refine⟨f.heap.objs.size,[f.heap.objs.size],_,_,i,Z,d.kept (t':=f.toks) λb o e=>zA _ e,ZJb a _,⟨_,yO _ Z,Z,Z⟩,λb j=>?_,q⟩;let e:b=f.heap.objs.size:=by simpa using j
 subst e;exact d.fpOk (zY _) (d.hok.fresh (zY _))
theorem KG{l:Expr}{i:TE}(m:PE X l i):PI X tg l (ZRU X.K i):=by
 intro c s u H R I h;refine YF (m c s u H _ I h) λv d x j f t r=>?_;let⟨a,e,⟨z,n⟩,q⟩:=r;subst e;cases t;let⟨g,y,p,w⟩:=f.tuple n;refine wpAny_pyIter_tuple (show d.heap.IsTuple a g.toArray from p) ?_;refine⟨d.heap.objs.size,[d.heap.objs.size],_,_,j,Z,f.kept (t':=d.toks) λb o e=>zA _ e,ZHs a _,⟨_,yO _ Z,Z,Z⟩,λb k=>?_,q⟩;let e:b=d.heap.objs.size:=by simpa using k
 subst e;exact f.fpOk (zY _) (f.hok.fresh (zY _))
theorem Gc{d:jq}{h:St}{H:Hp}{s:am}{R:It->Hp->Prop}{E:ja}{a c:Int}{t u v:Tok}{g:Nat}(I:ZG X d h H s)(k : -(2 ^ 62)<=a)(l:a<2 ^ 62)(m : -(2 ^ 62)<=c)(n:c<2 ^ 62)(q:R (OZ a (c-a).toNat) H):aB (aA X.prog X.w) X.A (pyIter (.ref s.heap.objs.size)) (D7 X d h tg R) E { s with heap:=s.heap.push { cls:=.type "range",data:=.fields #[.int a t,.int c u,.int 1 v] },toks:=g }:=by
 refine wpAny_pyIter_range (IsRange.new ..) (small_one k l m n) ?_;let f:ZG X d h H { s with heap:=s.heap.push { cls:=.type "range",data:=.fields #[.int a t,.int c u,.int 1 v] },toks:=g }:=I.kept λb o e=>zA _ e;refine⟨(s.heap.push { cls:=.type "range",data:=.fields #[.int a t,.int c u,.int 1 v] }).objs.size,[(s.heap.push { cls:=.type "range",data:=.fields #[.int a t,.int c u,.int 1 v] }).objs.size],_,_,H,Z,
  f.kept (t':=g) λb o e=>zA _ e,ZIE _ a (c-a).toNat,?_,λb p=>?_,q⟩
 ·let i:a+((0:Nat):Int) * 1=a:=by simp
  let j:(((c-a).toNat:Nat):Int)-((0:Nat):Int)=Builtin.Range.rangeSize a c 1:=by rw[rangeSize_one];split <;> lia
  show IsRangeIter _ _ (a+((0:Nat):Int) * 1) ((((c-a).toNat:Nat):Int)-((0:Nat):Int)) 1;rw[i,j];exact yO _ Z
 ·let e:b=(s.heap.push { cls:=.type "range",data:=.fields #[.int a t,.int c u,.int 1 v] }).objs.size:=by simpa using p
  subst e;exact f.fpOk (zY _) (f.hok.fresh (zY _))
inductive O1(R:It->Hp->Prop)(b:jf)(a:Hp):Prop
 |mk(j:Int)(_:b=[.int j])(_ : -(2 ^ 62)<=j)(_:j<2 ^ 62)(_:R (OZ 0 j.toNat) a)
def Bk(b:TA):TI:=λd H R=>b d H λc a=>O1 R c a
inductive O4(R:It->Hp->Prop)(b:jf)(a:Hp):Prop
 |mk(i j:Int)(_:b=[.int i,.int j])(_ : -(2 ^ 62)<=i/\i<2 ^ 62 /\ -(2 ^ 62)<=j/\j<2 ^ 62)(_:R (OZ i (j-i).toNat) a)
def ZQV(b:TA):TI:=λd H R=>b d H λc a=>O4 R c a
theorem Oh{a:Expr}{d:TA}{p pos:Pos}(i:Gl X "range")(k:X.mg "range" = none)(g:PA X [a] d)(l:au [a] X.env=[(false,aG a X.env)]:=by rfl):PI X tg (.Call (.Name "range" p) [a] [] pos) (Bk d):=by
 intro b s u H R I h;refine Call_ (Og I i k boot_range (PyProof.Rows.callWith_type1 (YF (g pos b s u H _ I h) λx w y v f n c=>?_) l rfl));let⟨j,e,c,m,q⟩:=c;subst e
 cases n with
 | cons r o=>
  cases o;let⟨t,rfl⟩:=r;exact call_range_1 (Gc f ∅ ∅ c m (by simpa using q))
theorem Jr{a b:Expr}{k:TA}{p pos:Pos}(n:Gl X "range")(o:X.mg "range" = none)(m:PA X [a,b] k)(u:au [a,b] X.env=[(false,aG a X.env),(false,aG b X.env)]:=by rfl)(c:au [b] X.env=[(false,aG b X.env)]:=by rfl):
  PI X tg (.Call (.Name "range" p) [a,b] [] pos) (ZQV k):=by
 intro d s A H R I h;refine Call_ (Og I n o boot_range (PyProof.Rows.callWith_type1 (YF (m pos d s A H _ I h) λE C F B l z f=>?_) (by rw[u,c]) (by rw[c];rfl)))
 let⟨i,j,e,⟨f,v,w,x⟩,q⟩:=f;subst e
 cases z with
 | cons r g=>
  cases g with
  | cons y g=>
   cases g;let⟨t,rfl⟩:=r;let⟨D,rfl⟩:=y;exact call_range_2 (Gc l f v w x q)
def ZRP(k:TI)(g:TG)(j:TS):TS:=λD a H=>k a H λJ f=>∃ W:Nat->Nat->St->Hp->Prop,(∃ m,W 0 m a f)/\∀ i m a H,W i m a H ->
 (J.stop i H/\D.nx a H)\/(J.go i H/\∃ N:St->Hp->Prop,(∀ c b,N c b->∃ e,e<m/\W (i+1) e c b)/\∀ x b,J.yld i H x b->g x a b λd h=>j { D with nx:=N,ct:=N,bk:=D.nx } d h)
def Mh(a:jB)(h:aD):jq:=a.filterMap λb=>(h.get? b).map λo=>(b,o)
theorem KD{a:jB}{h:aD}{b:ak}{o:aH}(c:b∈a)(e:h.get? b=some o):(b,o)∈Mh a h:=tJ.mpr ⟨b,c,by rw[e];rfl⟩
theorem ZKL{a:jB}{h:aD}{p:ak×aH}(f:p∈Mh a h):p.1∈a/\h.get? p.1=some p.2:=by
 let⟨b,d,e⟩:=tJ.mp f
 cases q:h.get? b with
 | none=>rw[q] at e;cases e
 | some o=>
  rw[q] at e;let c:(b,o)=p:=yT.inj e;subst c;exact⟨d,q⟩
theorem ZG.pinned{a:jq}{h:St}{H:Hp}{s:am}{c:jB}(I:ZG X a h H s)(l:∀ b∈c,VL X a H b)(m:∀ b∈c,∃ o,s.heap.get? b=some o/\∀ v,o.data≠.cell v):ZG X (a++Mh c s.heap) h H s:=
 I.pins_of λp n=>(yW.mp n).elim (λz=>I.pin p (yM _ z)) λz=>by
  let⟨g,e⟩:=ZKL z;let⟨i,j,k,_⟩:=l p.1 g;let⟨o,f,d⟩:=m p.1 g;rw[e] at f;cases f;exact⟨e,i,j,k,d⟩
theorem ZG.unpinned{a d:jq}{b:St}{H:Hp}{s:am}(I:ZG X (a++d) b H s):ZG X a b H s:=I.pins_of λp c=>I.pin p (yM _ (yL _ c))
theorem VD{q:Expr}{C:jE}{wi:TI}{g:TG}{tb:TS}{pos:Pos}(L:PassesOwn (aA X.prog X.w) X.A X.env X.xe)(hc:X.calm=true)(hi:PI X tg q wi)(hg:PG X tg g)(p:Wj X C tb)(hs:∀ x,foldedSetIterable q X.env x=pure x:=by intro _;rfl):PS X (.For tg q C [] pos) (ZRP wi g tb):=by
 intro a s σ H D I h;refine wpAny_For (Z3 (hi a s σ H _ I h) λv s1 h1=>Z3 h1 λa2 s2 h2=>?_) hs;let⟨it,G,tn,J,H2,e,I2,T,a0,f2,W,⟨m0,w0⟩,Q⟩:=h2;subst e;let t:∀{B:Hp},(∀ b∈G,B b=none)->∀ b∈G,VL X a B b:=λhn b p=>⟨hn b p,(f2 b p).2⟩;refine codeAny_forLoop_any (λn s'=>∃ i y B,ZG X a y B s'/\tn i s'.heap/\(∀ b∈G,B b=none)/\W i n y B) ?_ m0 ⟨0,σ,H2,I2,a0,λb p=>(f2 b p).1,w0⟩;rintro n s3 ⟨i,z,R,I3,O,K,w3⟩;rcases Q i n z R w3 with ⟨P,qn⟩ | ⟨go,N,hN,step⟩
 ·refine wpAny_passesOwn L (Z3 (T.done X rfl rfl rfl hc i a s3 z R X.xe I3 (t K) O P) ?_);rintro r s4 ⟨V,I4⟩;subst V;exact wpAny_execs_nil ⟨z,R,I4,qn⟩
 ·refine wpAny_passesOwn L (Z3 (T.item X rfl rfl rfl hc i a s3 z R X.xe I3 (t K) O go) ?_);rintro r s4 ⟨u,V,h4⟩;subst V;refine wpAny_passesOwn L (Z3 h4 ?_);rintro _ s5 ⟨x,H5,I5,r5,y5,F,U⟩;let S:=I5.pinned (t U) (T.obj _ _ F);refine wpAny_passesOwn L (Z3 (hg _ s5 z H5 x u _ S r5 (step x H5 y5)) ?_);rintro _ s6 ⟨a1,H6,I6,q6⟩;refine wpAny_passesOwn L (Z3 (p _ s6 a1 H6 _ I6 q6) λf Y E=>?_);let l:∀{c:St}{j:Hp},ZG X (a++Mh G s5.heap) c j Y->N c j->∃ m,m<n/\∃ i y B,ZG X a y B Y/\tn i Y.heap/\(∀ b∈G,B b=none)/\W i m y B:=fun{c j} k M=>by
   let⟨m',hm,w7⟩:=hN c j M;refine⟨m',hm,i+1,c,j,k.unpinned,T.keep _ _ _ F λb p o e=>(k.pin (b,o) (yM _ (yM _ (KD p e)))).1,λb p=>?_,w7⟩;let⟨o,e,d⟩:=T.obj _ _ F b p;exact(k.pin (b,o) (yM _ (yM _ (KD p e)))).2.1
  cases f with
  | next=>let⟨c,j,k,M⟩:=E;exact l k M
  | cont=>let⟨c,j,k,M⟩:=E;exact l k M
  | brk=>let⟨c,j,k,E⟩:=E;exact⟨c,j,k.unpinned,E⟩
  | ret v=>let⟨x7,c,j,k,r7,E⟩:=E;exact⟨x7,c,j,k.unpinned,r7,E⟩
end
theorem PR{K:zZ}{a:ak}{xs:jf}{g:TG}{n:TS}{D:Y0}{b:St}{H:Hp}(c:Nat->St->Hp->Prop)(o:c 0 b H)(t:∀ i b H,i<=xs.length->c i b H->ZF K H a xs)(u:∀ i x b H,xs[i]? = some x->c i b H->g x b H λh k=>n { D with nx:=c (i+1),ct:=c (i+1),bk:=D.nx } h k)(r:∀ b H,c xs.length b H->D.nx b H):
  ∃ W:Nat->Nat->St->Hp->Prop,(∃ m,W 0 m b H)/\∀ i m b H,W i m b H ->
   ((Nc K a).stop i H/\D.nx b H)\/((Nc K a).go i H/\∃ N:St->Hp->Prop,(∀ f d,N f d->∃ l,l<m/\W (i+1) l f d)/\∀ x d,(Nc K a).yld i H x d->g x b d λh k=>n { D with nx:=N,ct:=N,bk:=D.nx } h k):=by
 exists λi m b H=>m=xs.length-i/\i<=xs.length/\c i b H,⟨xs.length,by simp,zM _,o⟩
 rintro i m b H ⟨rfl,s,p⟩;let q:=t i b H s p;by_cases j:i<xs.length
 ·refine .inr ⟨⟨xs,xs[i],q,by simp[j]⟩,c (i+1),λf d v=>⟨xs.length-(i+1),by exact tI ‹_› (wR _),Z,j,v⟩,λx d y=>?_⟩
  let⟨e,y⟩:=y;subst e;exact u i x b _ (y xs q) p
 ·let e:i=xs.length:=∅
  subst e;exact .inl ⟨⟨xs,q,zY _⟩,r b H p⟩
theorem ZOK{K:zZ}{a:ak}{xs:jf}{g:TG}{n:TS}{D:Y0}{b:St}{H:Hp}(c:Nat->St->Hp->Prop)(o:c 0 b H)(t:∀ i b H,i<=xs.length->c i b H->Zm K H a xs)(u:∀ i x b H,xs[i]? = some x->c i b H->g x b H λh k=>n { D with nx:=c (i+1),ct:=c (i+1),bk:=D.nx } h k)(r:∀ b H,c xs.length b H->D.nx b H):
  ∃ W:Nat->Nat->St->Hp->Prop,(∃ m,W 0 m b H)/\∀ i m b H,W i m b H ->
   ((MS K a).stop i H/\D.nx b H)\/((MS K a).go i H/\∃ N:St->Hp->Prop,(∀ f d,N f d->∃ l,l<m/\W (i+1) l f d)/\∀ x d,(MS K a).yld i H x d->g x b d λh k=>n { D with nx:=N,ct:=N,bk:=D.nx } h k):=by
 exists λi m b H=>m=xs.length-i/\i<=xs.length/\c i b H,⟨xs.length,by simp,zM _,o⟩
 rintro i m b H ⟨rfl,s,p⟩;let q:=t i b H s p;by_cases j:i<xs.length
 ·refine .inr ⟨⟨xs,xs[i],q,by simp[j]⟩,c (i+1),λf d v=>⟨xs.length-(i+1),∅,Z,j,v⟩,λx d y=>?_⟩
  let⟨e,y⟩:=y;subst e;exact u i x b _ (y xs q) p
 ·let e:i=xs.length:=∅
  subst e;exact .inl ⟨⟨xs,q,zY _⟩,r b H p⟩
theorem Nz{lo:Int}{n:Nat}{g:TG}{l:TS}{D:Y0}{a:St}{H:Hp}(c:Nat->St->Hp->Prop)(o:c 0 a H)(r:∀ i a H,i<n->c i a H->g (.int (lo+i)) a H λh j=>l { D with nx:=c (i+1),ct:=c (i+1),bk:=D.nx } h j)(q:∀ a H,c n a H->D.nx a H):
  ∃ W:Nat->Nat->St->Hp->Prop,(∃ m,W 0 m a H)/\∀ i m a H,W i m a H ->
   ((OZ lo n).stop i H/\D.nx a H)\/((OZ lo n).go i H/\∃ N:St->Hp->Prop,(∀ f b,N f b->∃ k,k<m/\W (i+1) k f b)/\∀ x b,(OZ lo n).yld i H x b->g x a b λh j=>l { D with nx:=N,ct:=N,bk:=D.nx } h j):=by
 exists λi m a H=>m=n-i/\i<=n/\c i a H,⟨n,by simp,zM _,o⟩
 rintro i m a H ⟨rfl,t,p⟩;by_cases d:i<n
 ·refine .inr ⟨d,c (i+1),λf b s=>⟨n-(i+1),by exact tI ‹_› (wR _),Z,d,s⟩,λx b y=>?_⟩
  let⟨e,y⟩:=y;subst e y;exact r i a _ d p
 ·let e:i=n:=∅
  subst e;exact .inl ⟨zY _,q a H p⟩
abbrev R2:=V->V->Hp->VK->Prop
def Y4(X:Cx)(f:aj->aj->Sem aj)(r:R2):Prop:=
 ∀(a:jq)(s:am)(b:St)(H:Hp)(x y:V)(v u:aj)(Q:VK),ZG X a b H s->ZP x v->ZP y u->r x y H Q ->
  aB (aA X.prog X.w) X.A (f v u) (EP X a b Q) X.xe s
def Kd(X:Cx)(f:aj->Sem aj)(r:V->Hp->VK->Prop):Prop:=
 ∀(a:jq)(s:am)(b:St)(H:Hp)(x:V)(v:aj)(Q:VK),ZG X a b H s->ZP x v->r x H Q ->
  aB (aA X.prog X.w) X.A (f v) (EP X a b Q) X.xe s
def Va(X:Cx)(f:aj)(r:jf->Hp->VK->Prop):Prop:=
 ∀(a:jq)(s:am)(d:St)(H:Hp)(c:jf)(b:je)(Q:VK),ZG X a d H s->ZO c b->r c H Q ->
  aB (aA X.prog X.w) X.A (call f b) (EP X a d Q) X.xe s
def Nr(r:R2)(d e:TE):TE:=λa H Q=>d a H λx b=>e a b λy c=>r x y c Q
def tUn(r:V->Hp->VK->Prop)(b:TE):TE:=λc H Q=>b c H λx a=>r x a Q
inductive rI(C:Int->Int->Prop)(g:Int->Int->V)(x y:V)(H:Hp)(Q:VK):Prop
 |mk(i j:_)(_:x=.int i)(_:y=.int j)(_:C i j)(_:Q (g i j) H)
inductive OP(g:Int->Int->V)(x y:V)(H:Hp)(Q:VK):Prop
 |mk(i j:_)(_:x=.int i)(_:y=.int j)(_:Q (g i j) H)
inductive rU(g:Int->V)(x:V)(H:Hp)(Q:VK):Prop
 |mk(i:_)(_:x=.int i)(_:Q (g i) H)
section
variable{a b c:Expr}{ta tb tc:TE}{pos:Pos}
theorem HU(o:PE X a ta)(p:PE X b tb){d:jq}{s:am}{g:St}{H:Hp}{R:V->V->Hp->Prop}(I:ZG X d g H s)(h:ta g H λx l=>tb g l λy e=>R x y e){Q:ja}{f:aj->aj->Sem aj}(q:∀ v u k x y e,ZG X d g e k->ZP x v->ZP y u->R x y e->aB (aA X.prog X.w) X.A (f v u) Q X.xe k):
  aB (aA X.prog X.w) X.A (aG a X.env) (λv i=>aB (aA X.prog X.w) X.A (aG b X.env) (λu j=>aB (aA X.prog X.w) X.A (f v u) Q X.xe j) X.xe i) X.xe s:=by
 refine YF (o d s g H _ I h) λv C x l m z r=>?_;refine YF (p d C g l _ m r) λu k y e n B t=>?_;exact q v u k x y e n z B t
theorem Zj{e:Operator}{r:R2}(k:Y4 X (binaryOp e) r)(i:PE X a ta)(j:PE X b tb):PE X (.BinOp a e b pos) (Nr r ta tb):=by
 intro d s o H Q I h;exact wpAny_BinOp (HU i j I h λv u n x y f g l m q=>k d n o f x y v u Q g l m q)
theorem Uc{e:UnaryOp}{r:V->Hp->VK->Prop}(k:Kd X (unaryOp e) r)(j:PE X a ta):PE X (.UnaryOp e a pos) (tUn r ta):=by
 intro d s f H Q I h;exact UnaryOp_ (YF (j d s f H _ I h) λv n x g i m l=>k d n f g x v Q i m l)
theorem N9{f:aj->aj->Sem aj}{C:Int->Int->Prop}{g:Int->Int->Int}(d:∀ (i j:Int) (t u:Tok) (s:am) (Q:ja) (E:ja),C i j->Q (.int (g i j) s.toks) { s with toks:=s.toks+1 }->aB (aA X.prog X.w) X.A (f (.int i t) (.int j u)) Q E s):
  Y4 X f (rI C λi j=>.int (g i j)):=by
 intro e s o H x y v u Q I l m h;let⟨i,j,rfl,rfl,k,q⟩:=h;let⟨t,rfl⟩:=l;let⟨n,rfl⟩:=m;exact d i j t n s _ _ k ⟨.int (g i j),H,I.tok _,⟨_,Z⟩,q⟩
theorem Do{f:aj->aj->Sem aj}{g:Int->Int->Int}(d:∀ (i j:Int) (t u:Tok) (s:am) (Q:ja) (E:ja),Q (.int (g i j) s.toks) { s with toks:=s.toks+1 }->aB (aA X.prog X.w) X.A (f (.int i t) (.int j u)) Q E s):
  Y4 X f (OP λi j=>.int (g i j)):=by
 intro e s n H x y v u Q I k l h;let⟨i,j,rfl,rfl,q⟩:=h;let⟨t,rfl⟩:=k;let⟨m,rfl⟩:=l;exact d i j t m s _ _ ⟨.int (g i j),H,I.tok _,⟨_,Z⟩,q⟩
theorem LU{f:aj->aj->Sem aj}{g:Int->Int->Bool}(d:∀ (i j:Int) (t u:Tok) (s:am) (Q:ja) (E:ja),Q (.bool (g i j)) s->aB (aA X.prog X.w) X.A (f (.int i t) (.int j u)) Q E s):
  Y4 X f (OP λi j=>.bl (g i j)):=by
 intro e s n H x y v u Q I k l h;let⟨i,j,rfl,rfl,q⟩:=h;let⟨t,rfl⟩:=k;let⟨m,rfl⟩:=l;exact d i j t m s _ _ ⟨.bl (g i j),H,I,Z,q⟩
def Gj(i j:Int):Prop:=0<j/\j<1073741824
def AZ(i j:Int):Prop:=0<=j/\j<=1000000/\i.natAbs<2 ^ 64
def QE(i j:Int):Prop:=(-(2 ^ 64)<i/\i<2 ^ 64)\/(-(2 ^ 64)<j/\j<2 ^ 64)
theorem QE.ok{i j:Int}(h:QE i j):IntMulOk i j:=by
 rcases h with ⟨d,e⟩ | ⟨d,e⟩
 ·exact .of_left (intBits_le_64 d e)
 ·exact .of_right (intBits_le_64 d e)
theorem Xg:Y4 X (binaryOp .Add) (OP λi j=>.int (i+j)):=Do λ_ _ _ _ _ _ _ q=>add_int q
theorem Vg:Y4 X (binaryOp .Sub) (OP λi j=>.int (i-j)):=Do λ_ _ _ _ _ _ _ q=>sub_int q
theorem Q0:Y4 X (binaryOp .Mult) (rI QE λi j=>.int (i * j)):=N9 λ_ _ _ _ _ _ _ d q=>mul_int q d.ok
theorem P3:Y4 X (binaryOp .FloorDiv) (rI Gj λi j=>.int (i / j)):=N9 λi j _ _ _ _ _ d q=>by
 let e:(0:Int)<j:=d.1;let f:j<1073741824:=d.2;exact floordiv_int ∅ (by rw[pW i ∅];exact q) (.inl (PyProof.noPylong_small ∅))
theorem Po:Y4 X (binaryOp .Mod) (rI (λ_ j=>0<j) λi j=>.int (i % j)):=N9 λi j _ _ _ _ _ d q=>by
 exact mod_int' ∅ (by rw[Int.fmod_eq_emod_of_nonneg i ∅];exact q)
theorem Lk:Y4 X (binaryOp .Pow) (rI AZ λi j=>.int (i ^ j.toNat)):=N9 λ_ _ _ _ _ _ _ d q=>pow_int_small d.1 d.2.1 d.2.2 q
theorem unI{f:aj->Sem aj}{g:Int->Int}(d:∀ (i:Int) (t:Tok) (s:am) (Q:ja) (E:ja),Q (.int (g i) s.toks) { s with toks:=s.toks+1 }->aB (aA X.prog X.w) X.A (f (.int i t)) Q E s):
  Kd X f (rU λi=>.int (g i)):=by
 intro e s k H x v Q I j h;let⟨i,rfl,q⟩:=h;let⟨t,rfl⟩:=j;exact d i t s _ _ ⟨.int (g i),H,I.tok _,⟨_,Z⟩,q⟩
theorem UZ:Kd X (unaryOp .USub) (rU λi=>.int (-i)):=unI λ_ _ _ _ _ q=>neg_int q
end
def FO:V->V->Bool
 | .non,.non=>true | .non,.int _=>true | .int _,.non=>true | .non,.bl _=>true | .bl _,.non=>true | .non,.str _=>true | .str _,.non=>true
 | .int _,.int _=>true | .bl _,.bl _=>true | .str _,.str _=>true | .byt _,.byt _=>true
 | .int _,.str _=>true | .str _,.int _=>true | .bl _,.str _=>true | .str _,.bl _=>true
 | _,_=>false
def rEq:R2:=λx y H Q=>FO x y=true/\Q (.bl (decide (x=y))) H
def rNe:R2:=λx y H Q=>FO x y=true/\Q (.bl (!decide (x=y))) H
theorem Fu{i j:Int}:decide (V.int i=V.int j)=(i==j):=by
 rw[wU];simp
theorem DV{i j:Bool}:decide (V.bl i=V.bl j)=(i==j):=by
 rw[wU];simp
theorem Db{i j:Str}:decide (V.str i=V.str j)=(i==j):=by
 rw[wU];simp
theorem GR{i j:Array UInt8}:decide (V.byt i=V.byt j)=(i.toList==j.toList):=by
 rw[wU];cases i;cases j;simp
section
variable{a b c:Expr}{ta tb tc:TE}{pos:Pos}
theorem Y7{d:jq}{g:St}{H:Hp}{s:am}{Q:VK}{k f:Bool}(I:ZG X d g H s)(q:Q (.bl k) H)(e:k=f):EP X d g Q (.bool f) s:=by
 subst e;exact⟨.bl k,H,I,Z,q⟩
theorem UD:Y4 X (az .Eq) rEq:=by
 intro k s l H x y v u Q I g d h;let⟨f,q⟩:=h
 cases x with
 | non=>
  cases g
  cases y with
  | non=>cases d;exact PySem.EqNone.eq_none_none (Y7 I q (by simp))
  | bl j=>cases d;exact PySem.EqNone.eq_none_bool (Y7 I q (by simp))
  | int j=>let⟨e,rfl⟩:=d;exact PySem.EqNone.eq_none_int (Y7 I q (by simp))
  | str j=>let⟨e,rfl⟩:=d;exact PySem.EqNone.eq_none_str (Y7 I q (by simp))
  | _=>exact absurd (show false=true from f) zT
 | bl i=>
  cases g
  cases y with
  | non=>cases d;exact PySem.EqNone.eq_bool_none (Y7 I q (by simp))
  | bl j=>cases d;exact eq_bool (Y7 I q DV)
  | str j=>let⟨e,rfl⟩:=d;exact PySem.EqMixed.eq_bool_str (Y7 I q (by simp))
  | _=>exact absurd (show false=true from f) zT
 | int i=>
  let⟨t,rfl⟩:=g
  cases y with
  | non=>cases d;exact PySem.EqNone.eq_int_none (Y7 I q (by simp))
  | int j=>let⟨e,rfl⟩:=d;exact eq_int (Y7 I q Fu)
  | str j=>let⟨e,rfl⟩:=d;exact PySem.EqMixed.eq_int_str (Y7 I q (by simp))
  | _=>exact absurd (show false=true from f) zT
 | str i=>
  let⟨t,rfl⟩:=g
  cases y with
  | non=>cases d;exact PySem.EqNone.eq_str_none (Y7 I q (by simp))
  | bl j=>cases d;exact PySem.EqMixed.eq_str_bool (Y7 I q (by simp))
  | int j=>let⟨e,rfl⟩:=d;exact PySem.EqMixed.eq_str_int (Y7 I q (by simp))
  | str j=>let⟨e,rfl⟩:=d;exact eq_str (Y7 I q Db)
  | _=>exact absurd (show false=true from f) zT
 | byt i=>
  let⟨t,rfl⟩:=g
  cases y with
  | byt j=>let⟨e,rfl⟩:=d;exact PySem.W.eq_bytes (Y7 I q GR)
  | _=>exact absurd (show false=true from f) zT
 | _=>cases y <;> exact absurd (show false=true from f) zT
theorem NG:Y4 X (az .NotEq) rNe:=by
 intro k s l H x y v u Q I g d h;let⟨f,q⟩:=h
 cases x with
 | non=>
  cases g
  cases y with
  | non=>cases d;exact PySem.EqNone.ne_none_none (Y7 I q (by simp))
  | bl j=>cases d;exact PySem.EqNone.ne_none_bool (Y7 I q (by simp))
  | int j=>let⟨e,rfl⟩:=d;exact PySem.EqNone.ne_none_int (Y7 I q (by simp))
  | str j=>let⟨e,rfl⟩:=d;exact PySem.EqNone.ne_none_str (Y7 I q (by simp))
  | _=>exact absurd (show false=true from f) zT
 | bl i=>
  cases g
  cases y with
  | non=>cases d;exact PySem.EqNone.ne_bool_none (Y7 I q (by simp))
  | bl j=>cases d;exact ne_bool (Y7 I q (congrArg not DV))
  | str j=>let⟨e,rfl⟩:=d;exact PySem.EqMixed.ne_bool_str (Y7 I q (by simp))
  | _=>exact absurd (show false=true from f) zT
 | int i=>
  let⟨t,rfl⟩:=g
  cases y with
  | non=>cases d;exact PySem.EqNone.ne_int_none (Y7 I q (by simp))
  | int j=>let⟨e,rfl⟩:=d;exact ne_int (Y7 I q (congrArg not Fu))
  | str j=>let⟨e,rfl⟩:=d;exact PySem.EqMixed.ne_int_str (Y7 I q (by simp))
  | _=>exact absurd (show false=true from f) zT
 | str i=>
  let⟨t,rfl⟩:=g
  cases y with
  | non=>cases d;exact PySem.EqNone.ne_str_none (Y7 I q (by simp))
  | bl j=>cases d;exact PySem.EqMixed.ne_str_bool (Y7 I q (by simp))
  | int j=>let⟨e,rfl⟩:=d;exact PySem.EqMixed.ne_str_int (Y7 I q (by simp))
  | str j=>let⟨e,rfl⟩:=d;exact ne_str (Y7 I q (congrArg not Db))
  | _=>exact absurd (show false=true from f) zT
 | byt i=>
  let⟨t,rfl⟩:=g
  cases y with
  | byt j=>let⟨e,rfl⟩:=d;exact PySem.W.ne_bytes (Y7 I q (congrArg not GR))
  | _=>exact absurd (show false=true from f) zT
 | _=>cases y <;> exact absurd (show false=true from f) zT
theorem Ol:Y4 X (az .Lt) (OP λi j=>.bl (decide (i<j))):=LU λ_ _ _ _ _ _ _ q=>lt_int q
theorem Qc:Y4 X (az .LtE) (OP λi j=>.bl (decide (i<=j))):=LU λ_ _ _ _ _ _ _ q=>le_int q
theorem Pp:Y4 X (az .Gt) (OP λi j=>.bl (decide (j<i))):=LU λ_ _ _ _ _ _ _ q=>gt_int q
theorem ZQb:Y4 X (az .GtE) (OP λi j=>.bl (decide (j<=i))):=LU λ_ _ _ _ _ _ _ q=>ge_int q
theorem Z8(b:Expr){d:CmpOp}(h:d≠.In:=by decide)(g:d≠.NotIn:=by decide):behindInMarks d b=false:=by
 let e:(d==CmpOp.In)=false:=by cases d <;> first | rfl | exact absurd rfl h
 let f:(d==CmpOp.NotIn)=false:=by cases d <;> first | rfl | exact absurd rfl g
 cases b <;> simp[behindInMarks,e,f]
theorem Ud{e:CmpOp}{r:R2}(l:Y4 X (az e) r)(i:PE X a ta)(j:PE X b tb)(k:behindInMarks e b=false):PE X (.Compare a [e] [b] pos) (Nr r ta tb):=by
 intro d s p H Q I h;exact wpAny_Compare1 (HU i j I h λv u o x y f g m n q=>l d o p f x y v u Q g m n q) k
inductive NA(Q:Bool->Hp->Prop)(x:V)(d:Hp):Prop
 |mk(k:_)(_:x=.bl k)(_:Q k d)
def Hv(t:TE):TT:=λe H Q=>t e H λx d=>NA Q x d
theorem Yb{f:CmpOp}{r:R2}(w:Y4 X (az f) r)(p:PE X a ta)(q:PE X b tb)(t:behindInMarks f b=false):PT X (.Compare a [f] [b] pos) (Hv (Nr r ta tb)):=by
 intro d s g H Q I h;refine wpAny_isTrue_Compare1 (YF (p d s g H _ I h) λv G x i m D A=>YF (q d G g i _ m A) λu J y j n E B=>
  Z3 (w d J g j x y v u _ n D E B) λc K ⟨z,l,o,F,k,e,C⟩=>?_) t
 subst e;cases F;exact wpAny_truthy_bool ⟨l,o,C⟩
inductive Pg(f:R2)(tc:TE)(h:L2.St)(Q:VK)(y z:V)(d:Hp):Prop
 |mk(k:_)(_:z=.bl k)(_:if k=true then tc h d λg e=>f y g e Q else Q (.bl false) d)
def Ci(r h:R2)(ta tb tc:TE):TE:=λd H Q=>ta d H λx e=>tb d e λy f=>r x y f λz g=>Pg h tc d Q y z g
theorem Am{l g:CmpOp}{r p:R2}(K:Y4 X (az l) r)(j:Y4 X (az g) p)(E:PE X a ta)(F:PE X b tb)(G:PE X c tc)(J:lastMarks [l,g] [b,c]=false:=by with_unfolding_all rfl):PE X (.Compare a [l,g] [b,c] pos) (Ci r p ta tb tc):=by
 intro f s i H Q I h;refine Compare_chain (YF (E f s i H _ I h) λv S x t B O L=>chain_link (YF (F f S i t _ B L) λu T y w C q M=>
  Z3 (K f T i w x y v u _ C O q M) λd U ⟨z,m,n,P,k,e,o⟩=>?_)) J
 subst e;cases P;refine wpAny_truthy_bool ?_
 cases k with
 | false=>exact ite_ff ⟨.bl false,m,n,Z,o⟩
 | true=>exact ite_tt (chain_last (YF (G f U i m _ n o) λW V Y A D R N=>j f V i A y Y u W Q D q R N))
theorem LE{l g:CmpOp}{r p:R2}(O:Y4 X (az l) r)(j:Y4 X (az g) p)(K:PE X a ta)(L:PE X b tb)(M:PE X c tc)(N:lastMarks [l,g] [b,c]=false:=by with_unfolding_all rfl):PT X (.Compare a [l,g] [b,c] pos) (Hv (Ci r p ta tb tc)):=by
 intro f s i H Q I h;refine isTrue_chain (YF (K f s i H _ I h) λv s1 x t C V R=>test_link (YF (L f s1 i t _ C R) λu s2 y w D q S=>
  Z3 (O f s2 i w x y v u _ D V q S) λd s3 ⟨z,m,n,W,k,e,o⟩=>?_)) N
 subst e;cases W;refine wpAny_truthy_bool ?_
 cases k with
 | false=>
  let⟨k',G,P⟩:=o;cases G;exact ite_ff ⟨m,n,P⟩
 | true=>
  refine ite_tt (test_last (YF (M f s3 i m _ n o) λw' s4 z' A E Y T=>Z3 (j f s4 i A y z' u w' _ E q Y T) λd' s5 ⟨z2,B,F,r5,k2,J,U⟩=>?_));subst J;cases r5;exact wpAny_truthy_bool ⟨B,F,U⟩
theorem Nf:(ar:Nat)<2 ^ 63:=by rw[sizeLine_eq];decide
inductive Vk(x y:V)(H:Hp)(Q:VK):Prop
 |mk(i j:_)(_:x=.str i)(_:y=.str j)(_:i.length+j.length<=ar)(_:Q (.str (i++j)) H)
theorem ZHy:Y4 X (binaryOp .Add) (Vk):=by
 intro d s m H x y v u Q I f g h;let⟨i,j,rfl,rfl,e,q⟩:=h;let⟨t,rfl⟩:=f;let⟨k,rfl⟩:=g;exact add_str (λk l=>⟨.str (i++j),H,I.tok _,⟨_,Z⟩,q⟩) e
theorem UV{x:V}{d:je}(r:ZO [x] d):∃ u,d=[u]/\ZP x u:=by
 cases r with
 | cons e f=>cases f;exact⟨_,Z,e⟩
theorem LZ{x y:V}{d:je}(r:ZO [x,y] d):∃ u e,d=[u,e]/\ZP x u/\ZP y e:=by
 cases r with
 | cons f g=>
  cases g with
  | cons h i=>cases i;exact⟨_,_,Z,f,h⟩
inductive QF(d:jf)(H:Hp)(Q:VK):Prop
 |mk(i:_)(_:d=[.int i])(_:Q (.int (if i<0 then -i else i)) H)
theorem IH:Va X (.builtin "abs") (QF):=by
 intro d s j H g f Q I r h;let⟨i,rfl,q⟩:=h;let⟨u,rfl,t,rfl⟩:=UV r;exact call_abs_int λu e=>⟨.int (if i<0 then -i else i),H,I.tok _,⟨_,Z⟩,q⟩
inductive UM(d:jf)(H:Hp)(Q:VK):Prop
 |mk(i j:_)(_:d=[.int i,.int j])(_:Q (.int (if j > i then j else i)) H)
theorem Gg(f:X.calm=true):Va X (.builtin "max") (UM):=by
 intro e s v H p n Q I r h;let⟨i,j,rfl,q⟩:=h;let⟨u,o,rfl,⟨t,rfl⟩,⟨l,rfl⟩⟩:=LZ r;refine max_two_ints (I.ok.hd f) λg m k=>⟨_,H,I.kept k,?_,q⟩;by_cases d:j > i
 ·rw[aM d,aM d];exact⟨_,Z⟩
 ·rw[aK d,aK d];exact⟨_,Z⟩
inductive UG(d:jf)(H:Hp)(Q:VK):Prop
 |mk(i j:_)(_:d=[.int i,.int j])(_:Q (.int (if j<i then j else i)) H)
theorem Al(f:X.calm=true):Va X (.builtin "min") (UG):=by
 intro e s v H p n Q I r h;let⟨i,j,rfl,q⟩:=h;let⟨u,o,rfl,⟨t,rfl⟩,⟨l,rfl⟩⟩:=LZ r;refine min_two_ints (I.ok.hd f) λg m k=>⟨_,H,I.kept k,?_,q⟩;by_cases d:j<i
 ·rw[aM d,aM d];exact⟨_,Z⟩
 ·rw[aK d,aK d];exact⟨_,Z⟩
theorem J9:Va X (.type "int") (λd H Q=>(∃ i,d=[.int i]/\Q (.int i) H)\/∃ k,d=[.bl k]/\Q (.int (if k then 1 else 0)) H):=by
 intro e s j H d g Q I r h;rcases h with ⟨i,rfl,q⟩ | ⟨k,rfl,q⟩
 ·let⟨u,rfl,t,rfl⟩:=UV r;exact call_int_int ⟨.int i,H,I,⟨_,Z⟩,q⟩
 ·let⟨u,rfl,f⟩:=UV r;cases f;exact call_int_bool ⟨.int (if k then 1 else 0),H,I.tok _,⟨_,Z⟩,q⟩
end
structure UK(h:aD)(x dx C:ak)(mA:jc):Prop where
 obj:h.get? x=some (vZ C dx)
 ns:h.Ns1 dx mA
 ne:dx≠x
theorem ZJl{h:aD}{d:ak}{g:jc}(n:h.Ns1 d g):∃ i,h.get? d=some i/\∀ b,sR b i=some (g b):=by
 let⟨o,f,s,p,k,l,_,m⟩:=n;exists o,p;intro b;let e:=m b;unfold nsFind findBy at e;rw[<-Array.find?_toList] at e;unfold sR;rw[k];dsimp only;split
 ·rename_i y q
  rw[q] at e;exact congrArg some e
 ·rename_i q
  rw[q] at e;let a:f.toList.any (·.refKey)=false:=by
   rw[List.any_eq_false];intro y r;let⟨z,t,c⟩:=l y (Array.mem_toList_iff.mp r);simp[DictEntry.refKey,c]
  let j:¬ f.toList.any (·.refKey)=true:=by rw[a];exact zT
  rw[aK j];exact congrArg some e
theorem UK.look{h:aD}{x c C:ak}{d:jc}(I:UK h x c C d):∃ b,PySem.W.InstAt h x (vZ C c) C (some b)/\∀ a,sR a b=some (d a):=
 let ⟨b,ho,hl⟩:=ZJl I.ns
 ⟨b,⟨I.obj,rfl,rfl,ho⟩,hl⟩
section
variable{prog:ao}{w:aw}{A:ax}{E:ja}{s:am}{K:zZ}{x dx C f:ak}{mA:jc}{name:Str}{v:aj}
theorem ZNU{a:Bool}{Q:ja}(X:K.In s.heap)(I:UK s.heap x dx C mA)(d:vT K C name=true)(e:vH K C=true)(c:yX K (.ref C) name=some none)(i:mA name=some v)(b:PySem.W.handedIn v=true)(h:Q v { s with toks:=s.toks+1 }):
  aB (aA prog w) A (getAttr (.ref x) name a) Q E s:=by
 let⟨j,J,g⟩:=I.look;exact PySem.W.get_value X J (qW d).1 (PySem.W.findObj_own e c Z (by rw[g,i])) b h
theorem ZLO{i:Sem Bool}{Q:aj×je->am->Prop}(X:K.In s.heap)(I:UK s.heap x dx C mA)(a:vT K C name=true)(b:yX K (.ref C) name=some (some (.ref f)))(d:wE K (.ref f)=true)(e:mA name=none)(h:Q (.ref f,[.ref x]) s):
  aB (aA prog w) A (getMethod (.ref x) name i) Q E s:=by
 let⟨g,J,c⟩:=I.look;exact PySem.W.method_fn X J (qW a).1 (qW a).2 b (beq_iff_eq.mp d) (by show (sR name g).map (·.isSome)=some false;rw[c,e];rfl) h
theorem ZNy{l:jp}{Q:Unit->am->Prop}(X:K.In s.heap)(I:UK s.heap x dx C mA)(t:yX K (.ref C) "__setattr__" = some (some (.builtin "object.__setattr__")))(q:uI K C=true)(z:sE K C name=some none)(p:vH K C=true)(B:PySem.Within mA l)(u:l.length<=ar)(h:∀ e,UK e x dx C (λy=>if y=name then some v else mA y)->xP dx s.heap e->Q () { s with heap:=e,toks:=s.toks+2 }):
  aB (aA prog w) A (setAttr (.ref x) name v) Q E s:=by
 let⟨L,J,G⟩:=I.look;refine PySem.W.set_plain X J t (PySem.W.osa_open (s:={ s with toks:=s.toks+1 }) (r:=none) X J q z λb=>?_);let⟨F,o,i⟩:=PySem.W.any_some p;let D:s.heap.get? x=some ⟨.ref C,some dx,.plain,#[]⟩:=I.obj;refine aa (ad (aa (aa (wpAny_loadPart D (aa (wW.here (s:={ s with toks:=s.toks+1 }) (PySem.W.looks_clsIn X o) ?_))))));rw[i];refine ad (a:=some dx) (aa (ad (aa ?_)));refine wpAny_nsSet1 (s:={ s with toks:=s.toks+1 }) I.ns λe c d=>?_;let⟨H,n,m,k,j,g⟩:=c.count (PySem.Within.cons name v B);refine aa (wpAny_lookBehind k (by rw[j];exact pastItsLine_dict (zO g (by rw[zI];lia))) ?_)
 exact ad (h _ ⟨(d.2 _ (Ne.symm I.ne)).trans I.obj,c,I.ne⟩ d)
theorem BA{R:Result->am->Prop}{c:je}{b:jH}(X:K.In s.heap)(j:uM K C=true)(i:yX K (.ref C) "__init__" = some (some (.ref f)))(e:uP K (.ref f)=some (.type "function"))(h:codeAny (aA prog w) (A.under (.builtin "type.__call__" ⟨.ref C::c,b⟩)) (.call (.ref f) ⟨.ref (s.heap.objs.size+1)::c,b⟩) (PySem.W.InitBack (s.heap.objs.size+1) R)
   { s with heap:=(s.heap.push wJ).push (vZ C s.heap.objs.size) }):
  codeAny (aA prog w) A (.call (.ref C) ⟨c,b⟩) R s:=by
 let⟨k,g,d,t,l⟩:=s;exact PySem.W.make_core (PySem.W.makes_of X j) (qB X i) (λa=>PySem.W.bind_fn X a e) (.inl rfl) h
end
def Yu(f:Str)(v:V):List (Str×V)->List (Str×V)
 | []=>[(f,v)]
 | (g,x)::r=>if g=f then (g,v)::r else (g,x)::Yu f v r
theorem Ep(f g:Str)(v:V):∀ c:List (Str×V),(Yu f v c).lookup g=if g=f then some v else c.lookup g
 | []=>by
  show wH g [(f,v)]=_;by_cases h:g=f
  ·let a:(g==f)=true:=beq_iff_eq.mpr h;simp only[wH,a,aM h]
  ·let a:(g==f)=false:=beq_eq_false_iff_ne.mpr h;simp only[wH,a,aK h]
 | (k,x)::r=>by
  let d:=Ep f g v r;rw[show Yu f v ((k,x)::r)=(if k=f then (k,v)::r else (k,x)::Yu f v r) from rfl]
  by_cases b:k=f
  ·rw[aM b];by_cases h:g=k
   ·let a:(g==k)=true:=beq_iff_eq.mpr h;simp only[wH,a,aM (h.trans b)]
   ·let a:(g==k)=false:=beq_eq_false_iff_ne.mpr h;simp only[wH,a,aK (λe:g=f=>h (e.trans b.symm))]
  ·rw[aK b];by_cases h:g=k
   ·let a:(g==k)=true:=beq_iff_eq.mpr h;simp only[wH,a,aK (λe:g=f=>b (h.symm.trans e))]
   ·let a:(g==k)=false:=beq_eq_false_iff_ne.mpr h;simp only[wH,a];exact d
theorem Kp(f:Str)(v:V):∀ a:List (Str×V),f∈(Yu f v a).map (·.1)/\∀ g,g∈a.map (·.1)->g∈(Yu f v a).map (·.1)
 | []=>⟨by simp[Yu],λg h=>by simp at h⟩
 | (k,x)::r=>by
  let⟨c,d⟩:=Kp f v r;rw[show Yu f v ((k,x)::r)=(if k=f then (k,v)::r else (k,x)::Yu f v r) from rfl]
  by_cases b:k=f
  ·rw[aM b];subst b;exact⟨by simp,λg h=>by simpa using h⟩
  ·rw[aK b];refine⟨?_,λg h=>?_⟩
   ·rw[yV];exact zQ _ c
   ·rw[yV] at h⊢;rcases zL.mp h with e | e
    ·exact zL.mpr (.inl e)
    ·exact zQ _ (d g e)
theorem CN(f:Str)(v:V):∀ a:List (Str×V),(Yu f v a).length<=a.length+1
 | []=>by simp[Yu]
 | (k,x)::r=>by
  let c:=CN f v r;rw[show Yu f v ((k,x)::r)=(if k=f then (k,v)::r else (k,x)::Yu f v r) from rfl]
  by_cases b:k=f
  ·rw[aM b,zI,zI];lia
  ·rw[aK b,zI,zI];lia
theorem Yn.some_of{v:V}{o:jd}(r:Yn (some v) o):∃ u,o=some u/\ZP v u:=by
 cases o with
 | none=>exact(show False from r).elim
 | some u=>exact⟨u,Z,r⟩
theorem Yn.none_of{o:jd}(r:Yn none o):o=none:=by
 cases o with
 | none=>rfl
 | some u=>exact(show False from r).elim
theorem BG{v:V}{u:aj}(r:ZP v u):PySem.W.handedIn u=true:=by
 cases v with
 | non=>cases(show u=Value.none from r);rfl
 | bl b=>cases(show u=Value.bool b from r);rfl
 | int i=>let⟨t,e⟩:=(show ∃ t,u=Value.int i t from r);cases e;rfl
 | str x=>let⟨t,e⟩:=(show ∃ t,u=Value.str x t from r);cases e;rfl
 | byt b=>let⟨t,e⟩:=(show ∃ t,u=Value.bytes b t from r);cases e;rfl
 | flt b=>let⟨t,e⟩:=(show ∃ t,u=Value.float b t from r);cases e;rfl
 | ref a=>cases(show u=Value.ref a from r);rfl
 | ty n=>cases(show u=Value.type n from r);rfl
section
variable{P:ao}{w:aw}{H H':Hp}{h h':aD}{a C dx:ak}{fs fs':List (Str×V)}
theorem N4(c:Y5 P w H h)(e:H a=some (.ins C dx fs)):∃ b,UK h a dx C b/\(∀ f,Yn (fs.lookup f) (b f))/\PySem.Within b (fs.map (·.1))/\fs.length<=1000/\H dx=some (.own a):=by
 let⟨d,z,g,i,b,n,r,q⟩:=(show Zb P w H h a (.ins C dx fs) from c a _ e);exact⟨b,⟨i,n,g⟩,r,q,z,d⟩
end
structure Vm(K:zZ)(C:ak):Prop where
 pg:vT K C Str.empty=true
 hd:vH K C=true
 po:uI K C=true
 sa:yX K (.ref C) "__setattr__" = some (some (.builtin "object.__setattr__"))
theorem Vm.get{K:zZ}{C:ak}(c:Vm K C)(f:Str):vT K C f=true:=c.pg
def Z0(K:zZ)(C:ak)(f:Str):Prop:=yX K (.ref C) f=some none
theorem Z0.taker{K:zZ}{C:ak}{f:Str}(n:Z0 K C f):sE K C f=some none:=by
 unfold sE;rw[show yX K (.ref C) f=some none from n];rfl
structure Qm(K:zZ)(C:ak)(m:Str)(f:ak):Prop where
 at_:yX K (.ref C) m=some (some (.ref f))
 fn:wE K (.ref f)=true
 kp:yG K (.ref f)=true
section
variable{ki:jq}{σ:St}{H:Hp}{s:am}{a C dx:ak}{fs:List (Str×V)}{f:Str}{v:V}{A:ax}{E:ja}
theorem GC{b:Bool}{Q:ja}(I:ZG X ki σ H s)(e:H a=some (.ins C dx fs))(c:Vm X.K C)(n:Z0 X.K C f)(l:fs.lookup f=some v)(h:∀ u g,ZG X ki σ H g->ZP v u->Q u g):aB (aA X.prog X.w) A (getAttr (.ref a) f b) Q E s:=by
 let⟨j,O,r,_,_,_⟩:=N4 I.hok e;let⟨u,i,d⟩:=Yn.some_of (v:=v) (o:=j f) (by rw[<-l];exact r f)
 exact ZNU I.kIn O (c.get f) c.hd n i (BG d) (h u _ (I.tok _) d)
theorem EF{m:Str}{g:ak}{i:Sem Bool}{Q:aj×je->am->Prop}(I:ZG X ki σ H s)(e:H a=some (.ins C dx fs))(c:Vm X.K C)(k:Qm X.K C m g)(l:fs.lookup m=none)(h:Q (.ref g,[.ref a]) s):aB (aA X.prog X.w) A (getMethod (.ref a) m i) Q E s:=by
 let⟨d,O,r,_,_,_⟩:=N4 I.hok e;let b:d m=none:=Yn.none_of (by rw[<-l];exact r m)
 exact ZLO I.kIn O (c.get m) k.at_ k.fn b h
theorem E5{y:V}{u:aj}{Q:Unit->am->Prop}(I:ZG X ki σ H s)(e:H a=some (.ins C dx fs))(c:Vm X.K C)(n:Z0 X.K C f)(J:fs.length<1000)(F:ZP y u)(h:∀ k,ZG X ki σ (upd H a (.ins C dx (Yu f y fs))) k->Q () k):aB (aA X.prog X.w) A (setAttr (.ref a) f u) Q E s:=by
 let⟨j,O,r,l,_,i⟩:=N4 I.hok e;let D:(fs.map (·.1)).length<=sizeLine:=by rw[zX,sizeLine_eq];lia
 refine ZNy I.kIn O c.sa c.po n.taker c.hd l D λm d G=>h _ ?_;let t:∃ o,m.get? dx=some o:=let ⟨o,_,_,e',_⟩:=d.ns;⟨o,e'⟩;refine I.write (x:=a) (e:=dx) (by rw[e];exact True.intro) (.inr i) (λb q p z=>(G.2 b p).trans z) t ?_
 refine⟨by rw[ZQ O.ne];exact i,?_,O.ne,d.obj,_,d.ns,λg=>?_,λg B=>?_⟩
 ·have:=CN f y fs;lia
 ·show Yn ((Yu f y fs).lookup g) (if g=f then some u else j g)
  rw[Ep];by_cases q:g=f
  ·rw[aM q,aM q];exact F
  ·rw[aK q,aK q];exact r g
 ·by_cases q:g=f
  ·rw[q];exact(Kp f y fs).1
  ·refine(Kp f y fs).2 g (l g λz=>B ?_);show (if g=f then some u else j g)=none
   rw[aK q];exact z
theorem ZG.made(I:ZG X ki σ H s):ZG X ki σ (upd (upd H s.heap.objs.size (.own (s.heap.objs.size+1))) (s.heap.objs.size+1) (.ins C s.heap.objs.size []))
  { s with heap:=(s.heap.push wJ).push (vZ C s.heap.objs.size) }:=by
 let c:(s.heap.push wJ).get? s.heap.objs.size=some wJ:=yO s.heap Z;let h:((s.heap.push wJ).push (vZ C s.heap.objs.size)).get? (s.heap.objs.size+1)=some (vZ C s.heap.objs.size):=by
  have:=yO (s.heap.push wJ) (o:=vZ C s.heap.objs.size) Z
  rwa [rH] at this
 let i:(s.heap.push wJ).Ns s.heap.objs.size (λ_=>none):=⟨wJ,#[],_,c,Z,(λe j=>absurd j (by simp)),λ_=>rfl⟩
 let g:=I.laid (a:=s.heap.objs.size) (o:=.own (s.heap.objs.size+1)) (h':=s.heap.push wJ) (t':=s.toks) (λb u q=>zA _ q) (zY _) ⟨_,c⟩;refine g.laid (a:=s.heap.objs.size+1) (o:=.ins C s.heap.objs.size []) (t':=s.toks) (λb u q=>zA _ q) (xH (rH _ _)) ?_;let d:s.heap.objs.size≠s.heap.objs.size+1:=yK (wR _);refine⟨by rw[ZQ d,ZX],zM _,d,h,λ_=>none,(Heap.Ns1.of_empty i).at λo q=>zA _ q,λ_=>True.intro,λy k=>absurd Z k⟩
theorem ZMs{c:ao}{w:aw}{b:Env}{e:Expr}{f:Str}{pos:Pos}{s:am}{Q:ja}(g:attributeBase e f b (aG e b)=aG e b)(h:aB (aA c w) A (aG e b) (λo d=>aB (aA c w) A (getAttr o f true) Q E d) E s):aB (aA c w) A (aG (.Attribute e f pos) b) Q E s:=
 Attribute_any_ h (by rw[arm_eval_Attribute,g])
end
inductive Mb(K:zZ)(f:Str)(Q:VK)(x:V)(b:Hp):Prop
 |mk(a C d c v:_)(_:x=.ref a)(_:b a=some (.ins C d c))(_:Vm K C)(_:Z0 K C f)(_:c.lookup f=some v)(_:Q v b)
def FT(K:zZ)(b:TE)(f:Str):TE:=λc H Q=>b c H λx a=>Mb K f Q x a
inductive N5(K:zZ)(f:Str)(D:Y0)(e:L2.St)(y x:V)(c:Hp):Prop
 |mk(a C d b:_)(_:x=.ref a)(_:c a=some (.ins C d b))(_:Vm K C)(_:Z0 K C f)(_:b.length<1000)(_:D.nx e (upd c a (.ins C d (Yu f y b))))
def ZRO(K:zZ)(d e:TE)(f:Str):TS:=λD a H=>e a H λy b=>d a b λx c=>N5 K f D a y x c
def Cq(X:Cx)(c:Operator)(rd:V->V->Hp->VK->Prop):Prop:=
 ∀(a:jq)(s:am)(b:St)(H:Hp)(x y:V)(u v:aj)(Q:VK),ZG X a b H s->ZP x u->ZP y v->rd x y H Q->aB (aA X.prog X.w) X.A (inplaceOp c u v) (EP X a b Q) X.xe s
inductive Qb(K:zZ)(k:TE)(rd:V->V->Hp->VK->Prop)(f:Str)(D:Y0)(h:L2.St)(x:V)(d:Hp):Prop
 |mk(a C j g v:_)(_:x=.ref a)(_:d a=some (.ins C j g))(_:Vm K C)(_:Z0 K C f)(_:g.lookup f=some v)(_:k h d λy i=>rd v y i λz e=>∃ c b,e a=some (.ins C c b)/\b.length<1000/\D.nx h (upd e a (.ins C c (Yu f z b))))
def ZN1(K:zZ)(c d:TE)(rd:V->V->Hp->VK->Prop)(f:Str):TS:=λD a H=>c a H λx b=>Qb K d rd f D a x b
section
variable{o e value:Expr}{f:Str}{pos pos' tpos:Pos}{ta tv:TE}
theorem XS(p:PE X e ta)(m:attributeBase e f X.env (aG e X.env)=aG e X.env):PE X (.Attribute e f pos) (FT X.K ta f):=by
 intro b s w H Q I h;refine ZMs m (Z3 (p b s w H _ I h) ?_);rintro u A ⟨x,d,g,t,a,C,y,z,v,k,j,c,n,l,q⟩;subst k;obtain rfl:u=Value.ref a:=t;exact GC g j c n l λD B i r=>⟨v,d,i,r,q⟩
theorem U3(r:PE X o ta)(v:PE X value tv)(t:swapsWith value (some (.Attribute o f pos')) pos.line X.env=pure false):PS X (.Assign [.Attribute o f pos'] value pos) (ZRO X.K ta tv f):=by
 intro b s d H D I h;refine plainObj_wpAny_Assign_Attribute (YF (v b s d H _ I h) λu E y g i B q=>Z3 (r b E d g _ i q) λw L ⟨x,F,j,A,a,C,G,J,p,m,c,n,l,z⟩=>?_) t;subst p;obtain rfl:w=Value.ref a:=A;exact E5 j m c n l B λM k=>⟨d,_,k,z⟩
theorem Dx{j:Operator}{rd:V->V->Hp->VK->Prop}(J:PE X o ta)(L:PE X value tv)(i:Cq X j rd):PS X (.AugAssign (.Attribute o f tpos) j value pos) (ZN1 X.K ta tv rd f):=by
 intro b s d H D I h;refine wpAny_AugAssign_AttributeAny (Z3 (J b s d H _ I h) ?_);rintro N s1 ⟨x,k,p,R,a,C,dx,fs,v,F,E,c,n,l,q⟩;subst F;obtain rfl:N=Value.ref a:=R;refine GC p E c n l λu U r Q=>YF (L b U d k _ r q) λY W y m t S O=>Z3 (i b W d m v y u Y _ t Q S O) ?_;rintro w4 s4 ⟨z,H3,w,T,B,G,g,M,P⟩;exact E5 w g c n M T λs5 A=>⟨d,_,A,P⟩
inductive IE(x y:V)(H:Hp)(Q:VK):Prop
 |mk(i j:_)(_:x=.int i)(_:y=.int j)(_:Q (.int (i-j)) H)
theorem FY:Cq X .Sub IE:=by
 rintro a s g H x y u v Q I c d ⟨i,j,rfl,rfl,q⟩;let⟨t,rfl⟩:=(show ∃ t,u=Value.int i t from c);let⟨b,rfl⟩:=(show ∃ b,v=Value.int j b from d);exact PyProof.Rows.isub_int ⟨.int (i-j),H,I.tok _,⟨_,Z⟩,q⟩
end
section
variable{ki:jq}{σ:St}{H:Hp}{s:am}{A:ax}{E Q:ja}{c:aj}{b:Bool}
inductive XC(K:zZ)(H:Hp):V->aj->Prop where
 | non:XC K H .non (.type "NoneType")
 | bl (x:Bool):XC K H (.bl x) (.type "bool")
 | int (i:Int):XC K H (.int i) (.type "int")
 | str (x:Str):XC K H (.str x) (.type "str")
 | flt (x:UInt64):XC K H (.flt x) (.type "float")
 | lst {a:ak} {xs:jf} (e:H a=some (.lst xs)):XC K H (.ref a) (.type "list")
 | frz {a:ak} {o:aH} {xs:jf} (e:H a=some (.frz o (.lst xs))):XC K H (.ref a) (.type "list")
 | tup {a:ak} {xs:jf} (e:H a=some (.tup xs)):XC K H (.ref a) (.type "tuple")
 | dK {a:ak} {kvs:List (ZT×V)} (e:H a=some (.dK kvs)):XC K H (.ref a) (.type "dict")
 | dT {a:ak} {kvs:List (jA×V)} (e:H a=some (.dT kvs)):XC K H (.ref a) (.type "dict")
 | ins {a C dx:ak} {fs:List (Str×V)} (e:H a=some (.ins C dx fs)) (cl:Vm K C) (ha:yX K (.ref C) "__class__" = some (some (.builtin "object.__class__")))
   (hn:rR K (.builtin "object.__class__") "__get__" = some (some (.builtin "getset_descriptor.__get__"))) (htk:sC K (.builtin "object.__class__")=some true)
   (hm:wV K C (.type "object")=some true):XC K H (.ref a) (.ref C)
theorem Ej{x:V}{u t:aj}(I:ZG X ki σ H s)(f:ZP x u)(N:XC X.K H x t)(e:yC X.K t c=some b)(h:∀ M,Q (.bool b) { s with toks:=M }):
  aB (aA X.prog X.w) A (call (.builtin "isinstance") [u,c]) Q E s:=by
 cases N with
 | non=>cases(show u=Value.none from f);exact xD PySem.W.kitx_none I.kIn True.intro e (λz=>nomatch z) h
 | bl y=>cases(show u=Value.bool y from f);exact xD PySem.W.kitx_bool I.kIn True.intro e (λz=>nomatch z) h
 | int i=>let⟨t,q⟩:=(show ∃ t,u=Value.int i t from f);cases q;exact xD PySem.W.kitx_int I.kIn True.intro e (λz=>nomatch z) h
 | str y=>let⟨t,q⟩:=(show ∃ t,u=Value.str y t from f);cases q;exact xD PySem.W.kitx_str I.kIn True.intro e (λz=>nomatch z) h
 | flt y=>let⟨t,q⟩:=(show ∃ t,u=Value.float y t from f);cases q;exact xD PySem.W.kitx_float I.kIn True.intro e (λz=>nomatch z) h
 | @lst a k d=>
  cases(show u=Value.ref a from f);let⟨_,_,n,_,g⟩:=(show Zb X.prog X.w H s.heap a (.lst k) from I.hok a _ d);exact xD PySem.W.kitx_list I.kIn ⟨_,g,Z⟩ e (λz=>nomatch z) h
 | @frz a L k d=>
  cases(show u=Value.ref a from f);let⟨_,_,_,n,_,g⟩:=(show Zb X.prog X.w H s.heap a (.frz L (.lst k)) from I.hok a _ d);exact xD PySem.W.kitx_list I.kIn ⟨_,g,Z⟩ e (λz=>nomatch z) h
 | @tup a k d=>
  cases(show u=Value.ref a from f);let⟨_,_,_,p⟩:=(show Zb X.prog X.w H s.heap a (.tup k) from I.hok a _ d);let⟨o,g,l,_⟩:=p;exact xD PySem.W.kitx_tuple I.kIn ⟨o,g,l⟩ e (λz=>nomatch z) h
 | @dK a j d=>
  cases(show u=Value.ref a from f);let⟨_,_,U,_,p⟩:=(show Zb X.prog X.w H s.heap a (.dK j) from I.hok a _ d);let⟨o,B,v,g,l,_⟩:=p;exact xD PySem.W.kitx_dict I.kIn ⟨o,g,l.1⟩ e (λz=>nomatch z) h
 | @dT a j d=>
  cases(show u=Value.ref a from f);let⟨_,_,k,_,o,B,v,g,l,_⟩:=(show Zb X.prog X.w H s.heap a (.dT j) from I.hok a _ d);exact xD PySem.W.kitx_dict I.kIn ⟨o,g,l.1⟩ e (λz=>nomatch z) h
 | @ins a C P R d r D G m F=>
  cases(show u=Value.ref a from f);let⟨S,O,_⟩:=N4 I.hok d;let⟨T,J,_⟩:=O.look;exact xD (PySem.W.kitx_own (r.get _) r.hd D G m F) I.kIn J e (λz=>nomatch z) h
end
structure ZU(k:Nat)(A:ax):Prop where
 hd:A.handled=none
 dp:A.depth+3 * k+5<recursionLimit
 un:A.units+16 * k+200<cLine
theorem ZU.mono{j k:Nat}{A:ax}(r:ZU k A)(h:j<=k):ZU j A:=⟨r.hd,by have:=r.dp;lia,by have:=r.un;lia⟩
theorem ZU.to{j:Nat}{A:ax}(r:ZU j A)(k:Nat)(h:k<=j:=by decide):ZU k A:=r.mono h
theorem ZU.deeper{k:Nat}{A:ax}(r:ZU (k+1) A)(a:Env):ZU k (A.deeper a):=
 ⟨r.hd,by have:=r.dp;show A.depth+1+3 * k+5<_;lia,by have:=r.un;show A.units+3+16 * k+200<_;lia⟩
theorem ZU.in1{k:Nat}{A:ax}(r:ZU (k+1) A):ZU k A.in1:=
 ⟨r.hd,by have:=r.dp;show A.depth+3 * k+5<_;lia,by have:=r.un;show A.units+1+16 * k+200<_;lia⟩
theorem ZH5{A:ax}{C:ak}{b:je}{a:jH}:(A.under (.builtin "type.__call__" ⟨.ref C::b,a⟩)).depth=A.depth+1:=by
 first | rfl | simp[Around.under,Code.weight,Code.isCreation,Code.isGuard,Code.isCaller,Code.frames,Code.isFrame,guardIds]
theorem ZIK{A:ax}{C:ak}{b:je}{a:jH}:(A.under (.builtin "type.__call__" ⟨.ref C::b,a⟩)).units=A.units+1:=by
 first | rfl | simp[Around.under,Code.cUnits,Code.frames,Code.isFrame]
theorem ZU.make{k:Nat}{A:ax}(r:ZU (k+1) A)(C:ak)(b:je)(a:jH):ZU k (A.under (.builtin "type.__call__" ⟨.ref C::b,a⟩)):=
 ⟨r.hd,by have:=r.dp;rw[ZH5];lia,by have:=r.un;rw[ZIK];lia⟩
theorem ZU.depth{k:Nat}{A:ax}(r:ZU k A):A.depth<recursionLimit:=by have:=r.dp;lia
theorem ZU.units{k:Nat}{A:ax}(r:ZU k A):A.units+64<cLine:=by have:=r.un;lia
theorem ZU.units0{k:Nat}{A:ax}(r:ZU k A):A.units<cLine:=by have:=r.un;lia
def Qa:TA:=λ_ H Q=>Q [] H
def Um(d:TE)(e:TA):TA:=λa H Q=>d a H λx b=>e a b λf c=>Q (x::f) c
section
variable{e:Expr}{es:jw}{te:TE}{t:TA}{pos:Pos}
theorem Zu:PA X [] Qa:=λ_ _ _ _ H Q I h=>Calls.spliced_nil ⟨[],H,I,.nil,h⟩
theorem Zi(i:PE X e te)(j:PA X es t)(k:au (e::es) X.env=(false,aG e X.env)::au es X.env:=by rfl):PA X (e::es) (Um te t):=by
 intro pos a s b H Q I h;rw[k];show aB _ _ (spliced ((false,aG e X.env)::aF pos (au es X.env))) _ _ s;refine Calls.spliced_cons (YF (i a s b H _ I h) λu p x c f n l=>?_);exact YF (j pos a p b c _ f l) λv r q d g o m=>⟨x::q,d,g,.cons n o,m⟩
def ZRN(t:TA):TE:=λc H Q=>t c H λb a=>b.length<=ar/\∀ p,a p=none->Q (.ref p) (upd a p (.tup b))
def B9(t:TA):TE:=λc H Q=>t c H λb a=>b.length<=ar/\∀ p,a p=none->Q (.ref p) (upd a p (.lst b))
theorem WC{k}(h:PA X es t):PE X (.Tuple es k pos) (ZRN t):=by
 intro a s m H Q I i;refine wpAny_Tuple_spliced (Z3 (h pos a s m H _ I i) λj c ⟨l,d,f,r,z,q⟩=>⟨by rw[<-r.length];exact z,?_⟩)
 let g:d c.heap.objs.size=none:=f.hok.fresh (zY _);refine⟨.ref c.heap.objs.size,upd d c.heap.objs.size (.tup l),f.laid (t':=c.toks) (λb u e=>zA _ e) (zY _) ?_,Z,q _ g⟩;exact⟨z,j,r,⟨_,yO _ Z,Z,_,Z⟩⟩
theorem Yk(h:PA X es t):PE X (.List es pos) (B9 t):=by
 intro a s l H Q I i;refine wpAny_List_spliced (Z3 (h pos a s l H _ I i) λj c ⟨k,d,f,r,z,q⟩=>⟨by rw[<-r.length];exact z,?_⟩)
 let g:d c.heap.objs.size=none:=f.hok.fresh (zY _);refine⟨.ref c.heap.objs.size,upd d c.heap.objs.size (.lst k),f.laid (t':=c.toks) (λb u e=>zA _ e) (zY _) ?_,Z,q _ g⟩;exact⟨z,j,0,r,yO _ Z⟩
end
abbrev Sp:=jf->Hp->VK->XK->Prop
abbrev VI:=jz->Hp->am->XK->ja
structure Vo(P:ao)(w:aw)(K:zZ)(mg:jc)(kj:aD)(A:ax)(outer:jz)(s:am)(H:Hp):Prop where
 frames:A.frames=some outer
 mod:Mod K mg kj
 bs:∀ b o,kj.get? b=some o->s.heap.get? b=some o/\H b=none
 bsz:kj.objs.size<=s.heap.objs.size
 funs:s.heap.FunFrames kj outer
 frf:∀ b∈frs outer,H b=none
 hok:Y5 P w H s.heap
 bare:AllBare s.gens
def CE(a:jz)(P:ao)(w:aw)(H:Hp)(s:am)(Q:VK)(u:aj)(b:am):Prop:=
 ∃ v c,b.os=s.os/\AllBare b.gens/\Un (frs a) [] H c s.heap b.heap/\Y5 P w c b.heap/\ZP v u/\Q v c
def CR(c:VI)(a:jz)(P:ao)(w:aw)(H:Hp)(s:am)(Q:VK)(E:XK)(r:Result)(b:am):Prop:=
 match r with
 | .ok (.ret u)=>CE a P w H s Q u b
 | .ok _=>False
 | .error e=>c a H s E e b
structure ZI(P:ao)(w:aw)(K:zZ)(mg:jc)(kj:aD)(CX:VI)(k:Nat)(f:ak)(fd:ap)(ps:jp)(sp:Sp):Prop where
 len:∀ vs H Q E,sp vs H Q E->vs.length=ps.length
 run:∀(A:ax)(outer:jz)(s:am)(H:Hp)(args:Args)(us:je)(vs:jf)(Q:VK)(E:XK),ZU k A->Vo P w K mg kj A outer s H->BindsTo s fd args (ps.zip us)->ZO vs us->sp vs H Q E ->
  codeAny (aA P w) A (.call (.ref f) args) (CR CX outer P w H s Q E) s
theorem ZI.mono{P:ao}{w:aw}{K:zZ}{e:jc}{a:aD}{c:VI}{j k:Nat}{f:ak}{d:ap}{g:jp}{i:Sp}(F:ZI P w K e a c j f d g i)(h:j<=k):
  ZI P w K e a c k f d g i:=⟨F.len,λA b s H args m n Q E l=>F.run A b s H args m n Q E (l.mono h)⟩
theorem ZI.imp{P:ao}{w:aw}{K:zZ}{i:jc}{a:aD}{e:VI}{k:Nat}{f:ak}{g:ap}{j:jp}{l d:Sp}(F:ZI P w K i a e k f g j l)(h:∀ c H Q E,d c H Q E->l c H Q E):ZI P w K i a e k f g j d:=
 ⟨λc H Q E q=>F.len c H Q E (h _ _ _ _ q),λA b s H args t c Q E o n m r p=>F.run A b s H args t c Q E o n m r (h _ _ _ _ p)⟩
theorem Vo.make{P:ao}{w:aw}{K:zZ}{c:jc}{b:aD}{A:ax}{a:jz}{s:am}{H:Hp}(e:Vo P w K c b A a s H)(C:ak)(f:je)(d:jH):
  Vo P w K c b (A.under (.builtin "type.__call__" ⟨.ref C::f,d⟩)) a s H:=⟨by first | exact e.frames | (simpa [Around.under,Code.envs,Code.isFrame,pushEnvs] using e.frames),e.mod,e.bs,e.bsz,e.funs,e.frf,e.hok,e.bare⟩
section
variable{ki:jq}{σ:St}{H:Hp}{s s':am}
theorem ZG.env0(I:ZG X ki σ H s):Vo X.prog X.w X.K X.mg X.base X.A X.stack s H:=
 ⟨I.ok.frames,I.ok.mod,I.bs,zO I.ok.bsz I.sz,I.stack,I.stkFree,I.hok,I.bare⟩
theorem ZG.after{Q:VK}{u:aj}(I:ZG X ki σ H s)(h:CE X.stack X.prog X.w H s Q u s'):EP X ki σ Q u s':=by
 let⟨v,f,j,a,k,c,r,q⟩:=h;let⟨i,g,d,t,e⟩:=s';obtain rfl:e=s.os:=j;exact⟨v,f,I.call (h':=i) (g':=g) (d':=d) (t':=t) (ch:=[]) k c a (λb z=>absurd z (by simp)),r,q⟩
end
def Ki(c:Sp)(a:jf)(E:XK)(t:TA):TE:=λe H Q=>t e H λd b=>c (d++a) b Q E
inductive OX(C:ak)(m:Str)(g:Sp)(b:jf)(E:XK)(t:TA)(i:L2.St)(Q:VK)(x:V)(c:Hp):Prop
 |mk(a f d:_)(_:x=.ref a)(_:c a=some (.ins C f d))(_:d.lookup m=none)(_:t i c λh e=>g (x::(h++b)) e Q E)
def LN(C:ak)(m:Str)(d:Sp)(a:jf)(E:XK)(e:TE)(t:TA):TE:=λb H Q=>e b H λx c=>OX C m d a E t b Q x c
def Nj(C:ak)(e:Sp)(c:jf)(E:XK)(t:TA):TE:=λg H Q=>t g H λf b=>∀ x a,b x=none->b a=none->a≠x ->
 e (.ref x::(f++c)) (upd (upd b a (.own x)) x (.ins C a [])) (λv d=>v=.non/\Q (.ref x) d) E
def Zv(K:zZ)(d:ap)(c:jp)(b:je):Prop:=
 ∀(s:am)(a:je),K.In s.heap->(a++b).length=c.length->BindsTo s d ⟨a,[]⟩ (c.zip (a++b))
theorem Zv.all{K:zZ}{c:ap}{b:jp}(h:∀ a:je,a.length=b.length->bindArgs c ⟨a,[]⟩=pure (b.zip a)):Zv K c b []:=λs a _ d=>by
 rw[zK] at d⊢;exact .of_eq (h a d)
def QR(c:VI)(X:Cx)(E:XK):Prop:=∀(a:jq)(d:St)(H:Hp)(s:am)(e:aj)(b:am),ZG X a d H s->c X.stack H s E e b->X.xe e b
section
variable{CX:VI}{k:Nat}{f C:ak}{fd:ap}{ps:jp}{sp:Sp}{jj:jf}{ds:je}{E:XK}{x m:Str}{p pos ji:Pos}{e o:Expr}{es:jw}{ta:TE}{t:TA}
theorem J7{a:jq}{c:St}{H:Hp}{s:am}{Q:VK}{us:je}{vs:jf}(F:ZI X.prog X.w X.K X.mg X.base CX k f fd ps sp)(n:ZU k X.A)(i:Zv X.K fd ps ds)(j:ZO jj ds)(q:QR CX X E)(I:ZG X a c H s)(r:ZO vs us)(h:sp (vs++jj) H Q E):aB (aA X.prog X.w) X.A (call (.ref f) us) (EP X a c Q) X.xe s:=by
 let d:ZO (vs++jj) (us++ds):=r.append j;let l:(us++ds).length=ps.length:=by rw[<-d.length];exact F.len _ _ _ _ h
 refine wpAny_call (codeAny_mono (F.run X.A X.stack s H ⟨us,[]⟩ (us++ds) (vs++jj) Q E n I.env0 (i s us I.kIn l) d h) λr v b=>?_)
 cases r with
 | error e=>exact q a c H s e v I b
 | ok g=>
  cases g with
  | ret u=>exact I.after b
  | next=>exact False.elim b
  | brk=>exact False.elim b
  | cont=>exact False.elim b
theorem Fi(F:ZI X.prog X.w X.K X.mg X.base CX k f fd ps sp)(y:ZU k X.A)(n:Gl X x)(v:X.mg x=some (.ref f))(u:yG X.K (.ref f)=true)(i:Zv X.K fd ps ds)(j:ZO jj ds)(z:QR CX X E)(g:PA X (e::es) t)(b:(x==("__debug__" : Str))=false:=by decide)(l:au (e::es) X.env=(false,aG e X.env)::au es X.env:=by rfl)(c:(aF pos (au es X.env)).any (·.1)=false:=by rfl):
  PE X (.Call (.Name x p) (e::es) [] pos) (Ki sp jj E t):=by
 intro a s B H Q I h;refine ah (Mm I n v ?_ b);refine rP (h₀:=X.base) I.ok.mod.kin u (YF (g pos a s B H _ I h) λJ G L D d r q=>⟨d.kIn,?_⟩) l c;exact J7 F y i j z d r q
theorem ZNc{v:Sem Bool}(M:PE X o ta)(c:Vm X.K C)(n:Qm X.K C m f)(F:ZI X.prog X.w X.K X.mg X.base CX k f fd ps sp)(N:ZU k X.A)(J:Zv X.K fd ps ds)(L:ZO jj ds)(P:QR CX X E)(G:PA X (e::es) t)(g:au (e::es) X.env=(false,aG e X.env)::au es X.env:=by rfl)(d:(aF pos (au es X.env)).any (·.1)=false:=by rfl)(O:aG (.Call (.Attribute o m ji) (e::es) [] pos) X.env=(do
   let ov<-aG o X.env
   standAt ji.atName
   let (f,first)<-holding [ov] (getMethod ov m v)
   callWith pos f first (aF pos (au (e::es) X.env)) (backToKw pos (keywordEach [] X.env))):=by rfl):
  PE X (.Call (.Attribute o m ji) (e::es) [] pos) (LN C m sp jj E ta t):=by
 intro b s y H Q I h;refine pY (pl:=v) (Z3 (M b s y H _ I h) λu T ⟨x,z,i,S,a,dx,fs,D,B,l,q⟩=>?_) O;subst D;obtain rfl:u=Value.ref a:=S;refine EF i B c n l ?_;refine rP (first:=[.ref a]) (h₀:=X.base) I.ok.mod.kin n.kp (YF (G pos b T y z _ i q) λU s2 V Y j r R=>⟨j.kIn,?_⟩) g d
 exact J7 (us:=.ref a::U) (vs:=.ref a::V) F N J L P j (.cons rfl r) R
theorem ZKs{i:Sem Bool}(y:PE X o ta)(c:Vm X.K C)(g:Qm X.K C m f)(F:ZI X.prog X.w X.K X.mg X.base CX k f fd ps sp)(z:ZU k X.A)(r:Zv X.K fd ps ds)(v:ZO jj ds)(D:QR CX X E)(B:aG (.Call (.Attribute o m ji) [] [] pos) X.env=(do
   let ov<-aG o X.env
   standAt ji.atName
   let (f,first)<-holding [ov] (getMethod ov m i)
   callWith pos f first (aF pos (au [] X.env)) (backToKw pos (keywordEach [] X.env))):=by rfl):
  PE X (.Call (.Attribute o m ji) [] [] pos) (LN C m sp jj E ta Qa):=by
 intro b s J H Q I h;refine pY (pl:=i) (Z3 (y b s J H _ I h) λu O ⟨x,L,d,G,a,M,N,n,j,l,q⟩=>?_) B;subst n;obtain rfl:u=Value.ref a:=G;refine EF d j c g l ?_;exact rK (first:=[.ref a]) d.kIn g.kp (J7 (us:=[.ref a]) (vs:=[.ref a]) F z r v D d (.cons rfl .nil) q)
structure Mk(K:zZ)(C f:ak):Prop where
 makes:uM K C=true
 init:yX K (.ref C) "__init__" = some (some (.ref f))
 fn:wE K (.ref f)=true
 kp:yG K (.ref C)=true
theorem Cs{b:jq}{i:St}{H:Hp}{s:am}{Q:VK}{us:je}{g:jf}(M:Mk X.K C f)(F:ZI X.prog X.w X.K X.mg X.base CX k f fd ps sp)(L:ZU (k+1) X.A)(D:Zv X.K fd ps ds)(G:ZO jj ds)(N:QR CX X E)(I:ZG X b i H s)(r:ZO g us)(h:∀ x d,H x=none->H d=none->d≠x->sp (.ref x::(g++jj)) (upd (upd H d (.own x)) x (.ins C d [])) (λv q=>v=.non/\Q (.ref x) q) E):
  aB (aA X.prog X.w) X.A (call (.ref C) us) (EP X b i Q) X.xe s:=by
 let j:=h (s.heap.objs.size+1) s.heap.objs.size (I.hok.fresh (tV _)) (I.hok.fresh (zY _)) (yK (wR _));let c:=ZG.made (C:=C) I;let l:ZO (V.ref (s.heap.objs.size+1)::(g++jj)) (Value.ref (s.heap.objs.size+1)::(us++ds)):=.cons Z (r.append G);let J:(Value.ref (s.heap.objs.size+1)::us++ds).length=ps.length:=by
  let e:=l.length;rw[F.len _ _ _ _ j] at e;exact e.symm
 refine wpAny_call (BA (f:=f) I.kIn M.makes M.init (beq_iff_eq.mp M.fn) (codeAny_mono (F.run _ X.stack _ _ ⟨Value.ref (s.heap.objs.size+1)::us,[]⟩ (Value.ref (s.heap.objs.size+1)::(us++ds)) _ _ E (L.make C us [])
  (c.env0.make C us []) (D _ (Value.ref (s.heap.objs.size+1)::us) c.kIn J) l j) λr R a=>?_))
 cases r with
 | error e=>exact N b i _ _ e R c a
 | ok B=>
  cases B with
  | ret u=>
   let⟨v,n,y,P,z,O⟩:=c.after a;subst z;exact⟨P,⟨V.ref (s.heap.objs.size+1),n,y,Z,O⟩⟩
  | next=>exact False.elim a
  | brk=>exact False.elim a
  | cont=>exact False.elim a
theorem IP(M:Mk X.K C f)(F:ZI X.prog X.w X.K X.mg X.base CX k f fd ps sp)(v:ZU (k+1) X.A)(n:Gl X x)(u:X.mg x=some (.ref C))(i:Zv X.K fd ps ds)(j:ZO jj ds)(y:QR CX X E)(g:PA X (e::es) t)(b:(x==("__debug__" : Str))=false:=by decide)(l:au (e::es) X.env=(false,aG e X.env)::au es X.env:=by rfl)(c:(aF pos (au es X.env)).any (·.1)=false:=by rfl):
  PE X (.Call (.Name x p) (e::es) [] pos) (Nj C sp jj E t):=by
 intro a s z H Q I h;refine ah (Mm I n u ?_ b);refine rP (h₀:=X.base) I.ok.mod.kin M.kp (YF (g pos a s z H _ I h) λG D J B d r q=>⟨d.kIn,?_⟩) l c;exact Cs M F v i j y d r q
theorem AK(M:Mk X.K C f)(F:ZI X.prog X.w X.K X.mg X.base CX k f fd ps sp)(j:ZU (k+1) X.A)(g:Gl X x)(i:X.mg x=some (.ref C))(c:Zv X.K fd ps ds)(d:ZO jj ds)(l:QR CX X E)(a:(x==("__debug__" : Str))=false:=by decide):PE X (.Call (.Name x p) [] [] pos) (Nj C sp jj E Qa):=by
 intro b s n H Q I h;refine ah (Mm I g i ?_ a);exact rK I.kIn M.kp (Cs (us:=[]) M F j c d l I .nil h)
end
def PK(X:Cx)(b:List Keyword)(t:TA):Prop:=
 ∀(pos:Pos)(a:jq)(s:am)(c:St)(H:Hp)(Q:jf->Hp->Prop),ZG X a c H s->t c H Q->aB (aA X.prog X.w) X.A (evalAll ((backToKw pos (keywordEach b X.env)).map (·.2))) (AP X a c Q) X.xe s
section
variable{CX:VI}{k:Nat}{f C:ak}{fd:ap}{ps ks:jp}{sp:Sp}{E:XK}{x m:Str}{p pos ji kpos:Pos}{e o:Expr}{es:jw}{kws:List Keyword}{te ta:TE}{t tk:TA}{nm:Option Str}
theorem Bb:PK X [] Qa:=λ_ _ _ _ H Q I h=>wpAny_evalAll_nil ⟨[],H,I,.nil,h⟩
theorem AH(j:PE X e te)(l:PK X kws t):PK X (⟨nm,e,kpos⟩::kws) (Um te t):=by
 intro pos a s b H Q I h;show aB _ _ (evalAll ((do let v<-aG e X.env;standAt pos;pure v)::(backToKw pos (keywordEach kws X.env)).map (·.2))) _ _ s
 refine wpAny_evalAll_cons (aa (YF (j a s b H _ I h) λu y x c g r n=>aa (wpAny_standAt (ad ?_))));exact YF (l pos a y b c _ g n) λB A z d i w q=>⟨x::z,d,i,.cons r w,q⟩
variable{g:je->je->je}{gV:jf->jf->jf}
end
structure ZB(N P:jp)(sc:aE):Prop where
 kind:sc.kind=.function
 co:sc.isCoroutine=false
 gen:sc.isGenerator=false
 nd:N.Nodup
 pre:N.take P.length=P
 par:∀ x∈P,sc.names.lookup x=some .local\/sc.names.lookup x=some .cell
 nofree:∀ y∈sc.names,y.2≠.free
theorem Zs{N P:jp}{a:aE}(b:a.kind=.function:=by rfl)(c:a.isCoroutine=false:=by rfl)(d:a.isGenerator=false:=by rfl)(e:N.Nodup:=by decide +kernel)(f:N.take P.length=P:=by rfl)(g:∀ x∈P,a.names.lookup x=some .local\/a.names.lookup x=some .cell:=by decide +kernel)(h:∀ y∈a.names,y.2≠.free:=by decide +kernel):ZB N P a:=⟨b,c,d,e,f,g,h⟩
theorem Fy{kindOf:Str->Option NameKind}{x:Str}:∀{a:jH}{m:jc},(∀ v,(x,v)∉a)->bindL kindOf a m x=m x
 | [],_,_=>rfl
 | (n,v)::r,m,h=>by
  unfold bindL;rw[Fy λw b=>h w (zQ _ b)];split
  ·have:x≠n:=by rintro rfl;exact h v zS
   simp[this]
  ·rfl
theorem GE{kindOf:Str->Option NameKind}{x:Str}:∀{a:jH}{m:jc},(∀ v,(x,v)∉a)->bindC kindOf a m x=m x
 | [],_,_=>rfl
 | (n,v)::r,m,h=>by
  unfold bindC;rw[GE λw b=>h w (zQ _ b)];split
  ·rfl
  ·have:x≠n:=by rintro rfl;exact h v zS
   simp[this]
theorem Cf{kindOf:Str->Option NameKind}{x:Str}{v:aj}:∀{P:jp}{a:je}{i:Nat}{m:jc},P.Nodup->P[i]? = some x->a[i]? = some v->kindOf x=some .local ->
  bindL kindOf (P.zip a) m x=some v
 | [],_,_,_,_,h,_,_=>by simp at h
 | _::_,[],_,_,_,_,h,_=>by simp at h
 | p::P,w::a,0,m,nd,h1,h2,hk=>by
  simp at h1 h2;subst h1;subst h2;show bindL kindOf ((p,w)::P.zip a) m p=_;unfold bindL;rw[Fy λv b=>(xU.mp nd).1 (sM b).1,aM hk];simp
 | p::P,w::a,i+1,m,nd,h1,h2,hk=>by
  show bindL kindOf ((p,w)::P.zip a) m x=_;unfold bindL;exact Cf (i:=i) (xU.mp nd).2 (by simpa using h1) (by simpa using h2) hk
theorem Fq{kindOf:Str->Option NameKind}{x:Str}{v:aj}:∀{P:jp}{a:je}{i:Nat}{m:jc},P.Nodup->P[i]? = some x->a[i]? = some v->kindOf x≠some .local ->
  bindC kindOf (P.zip a) m x=some v
 | [],_,_,_,_,h,_,_=>by simp at h
 | _::_,[],_,_,_,_,h,_=>by simp at h
 | p::P,w::a,0,m,nd,h1,h2,hk=>by
  simp at h1 h2;subst h1;subst h2;show bindC kindOf ((p,w)::P.zip a) m p=_;unfold bindC;rw[GE λv b=>(xU.mp nd).1 (sM b).1,aK hk];simp
 | p::P,w::a,i+1,m,nd,h1,h2,hk=>by
  show bindC kindOf ((p,w)::P.zip a) m x=_;unfold bindC;exact Fq (i:=i) (xU.mp nd).2 (by simpa using h1) (by simpa using h2) hk
def QW(N:jp)(a:jf):St:=a.map some++uR (N.length-a.length) none
def Vc(CX:VI)(P:ao)(w:aw)(K:zZ)(mg:jc)(kj:aD)(N:jp)(qual:Str)(scope:aE)(f:ak)(cd:aj)(A:ax)(outer:jz)(s:am)(H:Hp)(E:XK):Cx where
 prog:=P
 w:=w
 K:=K
 mg:=mg
 base:=kj
 A:=A.deeper (envOfC qual scope s.heap.objs.size f cd)
 N:=N
 s₀:=s
 H₀:=H
 env:=envOfC qual scope s.heap.objs.size f cd
 outer:=outer
 stack:=envOfC qual scope s.heap.objs.size f cd::outer
 ex:=[]
 calm:=true
 fn:=λ_=>true
 pn:=[]
 xe:=λe s'=>aB (aA P w) (A.deeper (envOfC qual scope s.heap.objs.size f cd)) (leaving (envOfC qual scope s.heap.objs.size f cd) e) (λ_ s''=>CX outer H s E e s'') (λe' s''=>CX outer H s E e' s'') s'
theorem Cc{a:aE}{n:Nat}{x:Str}(h:a.names.lookup x=some .cell):∃ c,(cellsFrom n a.names []).lookup x=some c:=by
 let q:=qQ a.names n [] (.inl h);exact sT.mp q
theorem A0{Q:VI}{P:ao}{w:aw}{K:zZ}{M:jc}{m:aD}{N C:jp}{j:Str}{d:aE}{f:ak}{I:aj}{A:ax}{g:jz}{s U:am}{H:Hp}{E:XK}{O:je}{D:jf}(S:ZB N C d)(Y:A.handled=none)(o:Vo P w K M m A g s H)(hl:D.length=C.length)(r:ZO D O)(x:InCallC s s.heap.objs.size (bindL (envOfC j d s.heap.objs.size f I).kindOf (C.zip O) λ_=>none) (cellsFrom (s.heap.objs.size+1) d.names []) (bindC (envOfC j d s.heap.objs.size f I).kindOf (C.zip O) λ_=>none) U):
  ZG (Vc Q P w K M m N j d f I A g s H E) [] (QW N D) H U:=by
 let a0:C.length<=N.length:=by have:=congrArg wN S.pre;rw[yJ] at this;lia
 let⟨J,tk,rfl,R⟩:=x.done;let B:∀ b:ak,b∉(Vc Q P w K M m N j d f I A g s H E).ex:=λb z=>absurd (show b∈([]:jB) from z) (by simp)
 refine⟨⟨o.mod,S.kind,Z,Z,zY _,λy z c J l=>?_,λy t=>?_,λy c _ h=>?_,λ_=>Y,Around.frames_deeper o.frames,.inr ⟨Z,Z⟩,λb z=>absurd z (B b),o.bs,o.bsz,λb _ _=>B b,λb z=>absurd z (B b),o.funs,o.frf⟩,
  Z,o.bare,Un.kept R,⟨_,x.toInCall.ns,λi y v J l h3=>?_⟩,λy c h=>⟨_,x.cell y c h⟩,o.hok.fresh (zY _),λy c h=>?_,λp F=>absurd (show p∈([]:jq) from F) (by simp),o.hok.kept R,?_⟩
 ·exact name_of_addr x.apart (PySem.mem_of_lookup J) (PySem.mem_of_lookup l)
 ·let t:d.names.lookup y=some .cell\/d.names.lookup y=some .free:=t;rcases t with t | t
  ·exact Cc t
  ·exact absurd Z (S.nofree _ (PySem.mem_of_lookup t))
 ·exact xX (x.above y c (PySem.mem_of_lookup h))
 ·let L:i<D.length:=by
   unfold QW at l;by_cases L:i<D.length
   ·exact L
   ·rw[wZ (by simpa using L)] at l
    rw[List.getElem?_replicate] at l;split at l <;> cases l
  let X:D[i]? = some v:=by
   unfold QW at l;rw[wM (by simpa using L),zC] at l
   cases e:D[i]? with
   | none=>rw[e] at l;cases l
   | some a=>rw[e] at l;cases l;rfl
  let⟨u,T,rv⟩:=r.get X;let F:C[i]? = some y:=by
   rw[<-S.pre,rF ∅];exact J
  let G:C.Nodup:=by rw[<-S.pre];exact S.nd.sublist (uJ _ _)
  exists u,rv;rcases S.par y (zJ F) with k | k
  ·exact .inl ⟨k,Cf G F T k⟩
  ·let⟨c,e⟩:=Cc (n:=s.heap.objs.size+1) k;refine .inr ⟨.inl k,c,e,?_⟩;let q:=x.cell y c e;rw[Fq G F T (by show d.names.lookup y≠_;rw[k];decide)] at q
   exact q
 ·exact o.hok.fresh (xX (x.above y c (PySem.mem_of_lookup h)))
 ·unfold QW;show _=N.length;rw[zW,zX,List.length_replicate]
  lia
theorem KL{R:VI}{P:ao}{w:aw}{K:zZ}{T:jc}{h:aD}{k:Nat}{f:ak}{z d:Str}{i:Arguments}{j:jE}{a:aE}{dV kV F pm g ct oc:aj}{an od:jx}{a1:Array (jd)}{N U:jp}{sp:Sp}(lk:K.lookup f=some ⟨oc,od,.func (xW z d i j a dV kV F pm an g ct),a1⟩)(X:wK K g d=true)(S:ZB N U a)(O:∀ l H Q E,sp l H Q E->l.length=U.length)(B:∀ (A:ax) (c:jz) (s:am) (H:Hp) (l:jf) (Q:VK) (E:XK),ZU k (A.deeper (envOfC d a s.heap.objs.size f g))->sp l H Q E ->
   ∃ t,Wj (Vc R P w K T h N d a f g A c s H E) j t/\t { nx:=λ_ p=>Q .non p,rt:=Q } (QW N l) H):
  ZI P w K T h R (k+1) f (xW z d i j a dV kV F pm an g ct) U sp:=by
 exists O;intro A c s H args us l Q E Y G hb r M;let hl:=O _ _ _ _ M;let KX:K.In s.heap:=G.mod.kin.keeps λb o e=>(G.bs b o e).1;let a0:s.heap.NoLimit:=G.mod.nolimit.keeps λb o e=>(G.bs b o e).1;let C:∀ y∈U.zip us,a.names.lookup y.1=some .local\/(a.names.lookup y.1=some .cell/\((cellsFrom (s.heap.objs.size+1) a.names []).lookup y.1).isSome=true):=λ⟨n,v⟩ hy=>by
  rcases S.par n (sM hy).1 with q | q
  ·exact .inl q
  ·exact .inr ⟨q,qQ _ _ _ (.inl q)⟩
 refine codeAny_call_function Y.depth (KX _ _ lk) Z S.co S.gen Z (PySem.W.codeRec_of KX X) (hb _ _ _ _ ?_);refine wpAny_newFunctionEnv_cells S.kind C λa2 he s1 x=>?_;subst he;refine⟨a0.keeps x.toInCall.keep,codeAny_func ?_⟩;let⟨t,ht,hq⟩:=B A c s H l Q E (Y.deeper _) M;let I:ZG (Vc R P w K T h N d a f g A c s H E) [] (QW N l) H s1:=A0 S Y.hd G hl r x;refine ae (ht [] s1 (QW N l) H _ I hq) (λfl s' D=>?_) λe s' D=>D;let L:∀{m:St}{p:Hp}{v:V}{u:aj},ZG (Vc R P w K T h N d a f g A c s H E) [] m p s'->ZP v u->Q v p->CE c P w H s Q u s':=
  fun{m p v u} J rv q=>⟨v,p,J.os,J.bare,J.base,J.hok,rv,q⟩
 cases fl with
 | ret u=>
  let⟨v,m,p,J,rv,q⟩:=D;exact L J rv q
 | next=>
  let⟨m,p,J,q⟩:=D;exact L (v:=V.non) (u:=Value.none) J Z q
 | brk=>
  let⟨_,_,_,q⟩:=D;exact False.elim q
 | cont=>
  let⟨_,_,_,q⟩:=D;exact False.elim q
section
variable{x:Str}{p pos:Pos}{e:Expr}{es:jw}{t:TA}{id T:String}{r:jf->Hp->VK->Prop}
def FD(r:jf->Hp->VK->Prop)(t:TA):TE:=λc H Q=>t c H λb a=>r b a Q
theorem YG(j:Va X (.builtin id) r)(l:Gl X x)(m:X.mg x=none)(o:ay x=some (.builtin id))(i:PA X (e::es) t)(n:x ≠ "__name__" :=by decide)(b:(x==("__debug__" : Str))=false:=by decide)(k:au (e::es) X.env=(false,aG e X.env)::au es X.env:=by rfl)(c:(aF pos (au es X.env)).any (·.1)=false:=by rfl):PE X (.Call (.Name x p) (e::es) [] pos) (FD r t):=by
 intro a s d H Q I h;refine ah (Og I l m o ?_ n b);exact PyProof.Rows.callWith_builtin1 (YF (i pos a s d H _ I h) λw v y f g u q=>j a v d f y w Q g u q) k c
theorem Vf(j:Va X (.type T) r)(l:Gl X x)(m:X.mg x=none)(o:ay x=some (.type T))(i:PA X (e::es) t)(n:x ≠ "__name__" :=by decide)(b:(x==("__debug__" : Str))=false:=by decide)(k:au (e::es) X.env=(false,aG e X.env)::au es X.env:=by rfl)(c:(aF pos (au es X.env)).any (·.1)=false:=by rfl):PE X (.Call (.Name x p) (e::es) [] pos) (FD r t):=by
 intro a s d H Q I h;refine ah (Og I l m o ?_ n b);exact PyProof.Rows.callWith_type1 (YF (i pos a s d H _ I h) λw v y f g u q=>j a v d f y w Q g u q) k c
end
end L2
variable{X:L2.Cx}{prog P:ao}{w:aw}{A:ax}{E:ja}{s:am}{K:zZ}{mg:jc}{f:ak}{fd:ap}{kj:aD}
namespace HT
open PySem PyProof.Rows
theorem rcLt_int(A:ax)(s:am)(a:Int)(t:Tok)(c:Int)(u:Tok)(b:ao)(w:aw)(E Q:ja)(h:Q (.bool (decide (a<c))) s):
  aB (aA b w) A (richCompare .Lt (.int a t) (.int c u)) Q E s:=
 (PyProof.Rows.lt_int h:aB (aA b w) A (az .Lt (.int a t) (.int c u)) Q E s)
section
open PySem.SeqAt
open PySem.AutoSeq1 (wpAny_loadPart')
open PySem.MeetsSeq PySem.MeetsSeq2 PySem.MeetsSeq3
end
def sIx(n d:Nat):jC->Nat
 | none=>d
 | some v=>if v<0 then (v+(n:Int)).toNat else min v.toNat n
theorem sIx_none(n d:Nat):sIx n d none=d:=rfl
theorem sIx_nat(n d k:Nat):sIx n d (some (k:Int))=min k n:=by
 show (if (k:Int)<0 then ((k:Int)+(n:Int)).toNat else min (k:Int).toNat n)=min k n
 rw[aK ∅,tL]
end HT
namespace L2
open PySem PySem.Spec PyProof.Rows
abbrev TO:=St->Hp->(jC->Hp->Prop)->Prop
def PO(X:Cx)(e:jK)(t:TO):Prop:=
 ∀(a:jq)(s:am)(b:St)(H:Hp)(Q:jC->Hp->Prop),ZG X a b H s->t b H Q ->
  aB (aA X.prog X.w) X.A (evalPart e X.env) (λu d=>∃ o c,ZG X a b c d/\IsPart u o/\Q o c) X.xe s
def ZNr:TO:=λ_ H Q=>Q none H
inductive Oc(Q:jC->Hp->Prop)(x:V)(a:Hp):Prop
 |mk(i:_)(_:x=.int i)(_:Q (some i) a)
def ZQO(t:TE):TO:=λb H Q=>t b H λx a=>Oc Q x a
theorem ZHo{a:jy}:∀{b:je},ZO (a.map V.int) b->IntsAre b a:=by
 induction a with
 | nil=>intro b r;rw[uD] at r;cases r;exact .nil
 | cons n a c=>
  intro b r;rw[yV] at r
  cases r with
  | cons d f=>
   let⟨t,e⟩:=d;subst e;exact .cons n t (c f)
section
variable{e:Expr}{te:TE}{lo hi:jK}{tl th:TO}{pos p2:Pos}
theorem OT:PO X none ZNr:=by
 intro a s b H Q I h;rw[evalPart_none];exact ad ⟨none,H,I,.none,h⟩
theorem QD(h:PE X e te):PO X (some e) (ZQO te):=by
 intro a s j H Q I d;rw[evalPart_some];refine YF (h a s j H _ I d) λu k x b c g f=>?_;let⟨i,rfl,q⟩:=f;let⟨t,rfl⟩:=g;exact⟨some i,b,c,.int i t,q⟩
def Fl(X:Cx)(r:V->jC->jC->Hp->VK->Prop):Prop:=
 ∀(a:jq)(s:am)(f:St)(H:Hp)(x:V)(v c d:aj)(lo hi:jC)(b:ak)(Q:VK),ZG X a f H s->ZP x v->s.heap.IsSliceOf b c d .none->IsPart c lo->IsPart d hi->r x lo hi H Q ->
  ∃ T id,typeLookup (.type T) "__getitem__" = pure (some (.builtin id))/\s.TypeIs v T/\aB (aA X.prog X.w) X.A (getItem v (.ref b)) (EP X a f Q) X.xe s
def tSl(r:V->jC->jC->Hp->VK->Prop)(te:TE)(tl th:TO):TE:=λa H Q=>te a H λx b=>tl a b λl c=>th a c λu d=>r x l u d Q
theorem PJ{r:V->jC->jC->Hp->VK->Prop}(C:Fl X r)(y:PE X e te)(B:PO X lo tl)(E:PO X hi th):PE X (.Subscript e (.Slice lo hi none p2) pos) (tSl r te tl th):=by
 intro a s d H Q I h;refine Subscript_ (YF (y a s d H _ I h) λv N x j m M J=>?_);refine wpAny_Slice (YF (B a N d j _ m J) λf O l k n F K=>YF (E a O d k _ n K) λg c u i o G L=>?_);rw[evalPart_none];refine ad ?_;let p:ZG X a d i { c with heap:=c.heap.push { cls:=.type "slice",data:=.fields #[f,g,.none] } }:=o.kept (t':=c.toks) λb P q=>zA _ q;let⟨T,id,t,D,z⟩:=C a { c with heap:=c.heap.push { cls:=.type "slice",data:=.fields #[f,g,.none] } } d i x v f g l u c.heap.objs.size Q p M (Heap.IsSliceOf.new ..) F G L;show aB (aA X.prog X.w) X.A (subscriptTail e (.Slice lo hi none p2) v (.ref c.heap.objs.size)) (EP X a d Q) X.xe { c with heap:=c.heap.push { cls:=.type "slice",data:=.fields #[f,g,.none] } };exact tail_any (ops:=[.ref c.heap.objs.size,v]) D t z (by with_unfolding_all rfl)
def UC(a:jf)(lo hi:jC):jf:=(a.drop (HT.sIx a.length 0 lo)).take (HT.sIx a.length a.length hi-HT.sIx a.length 0 lo)
theorem Bv(a:jf)(lo hi:jC):(UC a lo hi).length<=a.length:=by
 unfold UC;rw[yJ,xQ];exact zO (sK _ _) (vO _ _)
end
def Qi(n:Nat)(i:Int):js:=if 0<=i then (if i<n then some i.toNat else none) else if -(n:Int)<=i then some (i+n).toNat else none
def We{b:Type}(a:List b)(i:Int):Option b:=(Qi a.length i).bind λj=>a[j]?
theorem CG{n:Nat}{i:Int}{j:Nat}(h:Qi n i=some j):seqIndex? i n=some j/\j<n /\ -(n:Int)<=i/\i<n:=by
 unfold Qi at h;by_cases b:0<=i
 ·rw[aM b] at h;by_cases a:i<n
  ·rw[aM a] at h;let e:i.toNat=j:=yT.inj h;exact⟨by rw[seqIndex_of b a,e],∅,∅,a⟩
  ·rw[aK a] at h;cases h
 ·rw[aK b] at h;by_cases a : -(n:Int)<=i
  ·rw[aM a] at h;let e:(i+n).toNat=j:=yT.inj h;exact⟨by rw[seqIndex_neg ∅ a,e],∅,a,∅⟩
  ·rw[aK a] at h;cases h
theorem Il{b:Type}{a:List b}{i:Int}{v:b}(h:We a i=some v):∃ j,seqIndex? i a.length=some j/\a[j]? = some v/\j<a.length /\ -(a.length:Int)<=i/\i<a.length:=by
 unfold We at h
 cases e:Qi a.length i with
 | none=>rw[e] at h;cases h
 | some j=>
  rw[e] at h;let⟨c,d,f,g⟩:=CG e;exact⟨j,c,h,d,f,g⟩
theorem Vd{b:Type}{a:List b}{j:Nat}{v:b}(h:a[j]? = some v):We a (j:Int)=some v:=by
 let c:j<a.length:=(yZ.mp h).1;let e:Qi a.length (j:Int)=some j:=by
  unfold Qi;rw[aM ∅,aM ∅];simp
 unfold We;rw[e];exact h
theorem FJ{b:Type}(a:List b)(v:b):We (a++[v]) (-1)=some v:=by
 let c:(a++[v]).length=a.length+1:=by simp
 let e:Qi (a++[v]).length (-1)=some a.length:=by
  unfold Qi;rw[c,aK (by decide),aM ∅]
  congr 1
  lia
 unfold We;rw[e];show (a++[v])[a.length]? = some v;simp
def Iy(b:Expr):Prop:=∀ o i,subscripted b false o i=operate [o,i] (getItem o i)
def Qe(X:Cx)(r:R2):Prop:=
 ∀(c a:Expr)(b:jq)(s:am)(d:St)(H:Hp)(x y:V)(v u:aj)(Q:VK),ZG X b d H s->ZP x v->ZP y u->r x y H Q ->
  subscripted a false v u=operate [v,u] (getItem v u)->aB (aA X.prog X.w) X.A (subscriptTail c a v u) (EP X b d Q) X.xe s
def Cd(X:Cx)(id:String)(r:V->jf->Hp->VK->Prop):Prop:=
 ∀(a:jq)(s:am)(d:St)(H:Hp)(x:V)(c:jf)(v:aj)(b:je)(Q:VK),ZG X a d H s->ZP x v->ZO c b->r x c H Q ->
  aB (aA X.prog X.w) X.A (call (.builtin id) (v::b)) (EP X a d Q) X.xe s
section
variable{a b:Expr}{ta tb:TE}{pos:Pos}
theorem Qe.or{r g:R2}(h:Qe X r)(l:Qe X g):Qe X (λx y H Q=>r x y H Q\/g x y H Q):=by
 intro d c e s k H x y v u Q I i j q f;rcases q with q | q
 ·exact h d c e s k H x y v u Q I i j q f
 ·exact l d c e s k H x y v u Q I i j q f
theorem V6{r:R2}(i:Qe X r)(f:PE X a ta)(g:PE X b tb)(j:Iy b):PE X (.Subscript a b pos) (Nr r ta tb):=by
 intro c s n H Q I h;exact Subscript_ (HU f g I h λv u m x y d e k l q=>i a b c m n d x y v u Q e k l q (j _ _))
inductive MK(K:zZ)(x y:V)(H:Hp)(Q:VK):Prop
 |mk(p c i v:_)(_:x=.ref p)(_:y=.int i)(_:ZF K H p c)(_:We c i=some v)(_:Q v H)
inductive Pn(K:zZ)(x y:V)(H:Hp)(Q:VK):Prop
 |mk(p c i v:_)(_:x=.ref p)(_:y=.int i)(_:Zm K H p c)(_:We c i=some v)(_:Q v H)
inductive MT(x y:V)(H:Hp)(Q:VK):Prop
 |mk(z i c:_)(_:x=.str z)(_:y=.int i)(_:z.length<=ar)(_:We z.cps.toList i=some c)(_:Q (.str ⟨#[c]⟩) H)
theorem Zw:Qe X (MK X.K):=by
 intro n m c s C H x y v u Q I M N h B;let⟨p,T,i,z,rfl,rfl,L,G,q⟩:=h;cases M;let⟨t,rfl⟩:=N;let⟨g,r,k,S⟩:=I.list L;let⟨j,e,D,P,E,F⟩:=Il G;let⟨w,o,l⟩:=r.get D;let J:=r.length;let R:=Nf;let d:EP X c C Q w s:=⟨z,H,I,l,q⟩;by_cases A:0<=i
 ·let f:i.toNat=j:=by
   rw[seqIndex_of A F] at e;exact yT.inj e
  exact item_listR k.isList A ∅ (by rw[f];simpa using o) d B
 ·let f:(i+(g.toArray.size:Int)).toNat=j:=by
   rw[seqIndex_neg ∅ E] at e
   rw[zP,<-J];exact yT.inj e
  exact subscriptTail_builtinR (x:=w) k.isList.typeIs slot_list_getitem.lookup
   (wpAny_getItem_list_neg (Q:=λr O=>r=w/\EP X c C Q r O) k.isList ∅ (by rw[zP] <;> lia) ∅ (by rw[f];simpa using o) ⟨rfl,d⟩) B
theorem Qv:Qe X (Pn X.K):=by
 intro g f c s l H x y v u Q I F G h D;let⟨p,R,i,z,rfl,rfl,C,A,q⟩:=h;cases F;let⟨t,rfl⟩:=G;let⟨E,r,k,P⟩:=I.tuple C;let⟨j,n,o,L,M,N⟩:=Il A;let⟨w,m,e⟩:=r.get o;let B:=r.length;let O:=Nf;let d:EP X c l Q w s:=⟨z,H,I,e,q⟩;exact subscriptTail_builtinR (x:=w) k.typeIs slot_tuple_getitem.lookup
  (getItem_tuple (j:=j) (Q:=λr J=>r=w/\EP X c l Q r J) k ∅ ∅ (by rw[zP,<-B];exact n) (by simpa using m) ⟨rfl,d⟩) D
theorem GN:Qe X MT:=by
 intro e d g s G H x y v u Q I A B h w;let⟨z,i,c,rfl,rfl,E,p,q⟩:=h;let⟨t,rfl⟩:=A;let⟨F,rfl⟩:=B;let⟨j,f,m,C,n,o⟩:=Il p;let r:z.cps.toList.length=z.length:=by simp[Str.length]
 rw[r] at f n o;let D:=Nf;exact tail_any (typeIs_str s z t) slot_str_getitem.lookup (getItem_str (c:=c) (by
  let k:decide (i < -(2 ^ 63:Int))=false:=aI ∅
  let l:decide (i ≥ 2 ^ 63)=false:=aI ∅
  rw[k,l,Bool.or_false]) (by rw[f];simpa using m) ⟨.str ⟨#[c]⟩,H,I.tok _,⟨_,Z⟩,q⟩) w
def JI(K:zZ):R2:=λx y H Q=>MK K x y H Q\/Pn K x y H Q\/MT x y H Q
theorem ZPO:Qe X (JI X.K):=Zw.or (Qv.or GN)
theorem Yx{X:Cx}{a b:Expr}{ta tb:TE}{pos:Pos}(K:zZ)(c:PE X a ta)(d:PE X b tb)(f:Iy b:=by exact λ_ _=>rfl)(e:Qe X (Pn K):=by exact Qv):PE X (.Subscript a b pos) (Nr (Pn K) ta tb):=V6 e c d f
theorem YX{X:Cx}{a b:Expr}{ta tb:TE}{pos:Pos}(K:zZ)(c:PE X a ta)(d:PE X b tb)(f:Iy b:=by exact λ_ _=>rfl)(e:Qe X (JI K):=by exact ZPO):PE X (.Subscript a b pos) (Nr (JI K) ta tb):=V6 e c d f
theorem ZIP(c:je)(n j:Nat)(u:aj):Obj.mapSeq (·.setIfInBounds j u) { cls:=.type "list",data:=.seq c.toArray n }={ cls:=.type "list",data:=.seq (c.set j u).toArray n }:=by
 simp[Obj.mapSeq]
theorem ZG.lst{d:jq}{g:St}{H:Hp}{s:am}{p:ak}{f:jf}(I:ZG X d g H s)(h:H p=some (.lst f)):
  ∃(c:je)(n:Nat),ZO f c/\s.heap.get? p=some { cls:=.type "list",data:=.seq c.toArray n }/\f.length<=sizeLine:=by
 let⟨z,c,n,r,e⟩:=I.hok p _ h;exact⟨c,n,r,e,z⟩
theorem ZG.lstUpd{d:jq}{l:St}{H:Hp}{s:am}{p:ak}{w j:jf}{g c:je}{n i:Nat}{f:aH->aH}(I:ZG X d l H s)(h:H p=some (.lst w))(o:s.heap.get? p=some { cls:=.type "list",data:=.seq g.toArray n })(k:f { cls:=.type "list",data:=.seq g.toArray n }={ cls:=.type "list",data:=.seq c.toArray i })(r:ZO j c)(v:j.length<=ar)(t:Nat):
  ZG X d l (upd H p (.lst j)) { s with heap:=s.heap.update p f,toks:=t }:=by
 let e:(s.heap.update p f).get? p=some { cls:=.type "list",data:=.seq c.toArray i }:=by
  rw[vC f o (by rw[k] <;> rfl),k]
 refine I.write (x:=p) (e:=p) (by rw[h];trivial) (.inl rfl) (λb u m q=>(vA _ _ (Ne.symm m)).trans q) ⟨_,e⟩ ?_
 exact⟨v,c,i,r,e⟩
inductive N2(o i v:V)(H:Hp)(Q:Hp->Prop):Prop
 |mk(p c k j:_)(_:o=.ref p)(_:i=.int k)(_:H p=some (.lst c))(_:Qi c.length k=some j)(_:Q (upd H p (.lst (c.set j v))))
theorem Jh:CI X N2:=by
 intro d s G H o i v M L u Q I D C E h;let⟨p,F,k,j,rfl,rfl,z,A,q⟩:=h;cases D;let⟨t,rfl⟩:=C;let⟨c,n,r,l,B⟩:=I.lst z;let⟨e,J,x,y⟩:=CG A;let g:=r.length;let K:=Nf;let m:ZG X d G (upd H p (.lst (F.set j v))) { s with heap:=s.heap.update p (Obj.mapSeq (·.setIfInBounds j u)) }:=
  I.lstUpd z l (ZIP c n j u) (r.set E j) (by rw[wB];exact B) s.toks
 by_cases w:0<=k
 ·let f:k.toNat=j:=by
   rw[seqIndex_of w y] at e;exact yT.inj e
  exact PySem.W.ki_setAt l w ∅ (by rw[zP,<-g];exact y) (by rw[f];exact⟨_,m,q⟩)
 ·let f:(k+(c.toArray.size:Int)).toNat=j:=by
   rw[seqIndex_neg ∅ x] at e
   rw[zP,<-g];exact yT.inj e
  exact PySem.W.ki_setBack l ∅ (by rw[zP,<-g];exact x) ∅ (by rw[f];exact⟨_,m,q⟩)
theorem B8(d c:jC)(n:Nat):(sliceBounds d c none n).1=((HT.sIx n 0 d:Nat):Int)/\(sliceBounds d c none n).2.1=((HT.sIx n n c:Nat):Int)/\(sliceBounds d c none n).2.2=1:=by
 refine⟨?_,?_,Z⟩
 ·cases d with
  | none=>simp[sliceBounds,HT.sIx]
  | some i=>
   simp only[sliceBounds,HT.sIx,Option.getD_none,show (1:Int) > 0 by decide,if_true]
   by_cases h:i<0
   ·simp only[h,if_true] <;> lia
   ·simp only[h,if_false] <;> lia
 ·cases c with
  | none=>simp[sliceBounds,HT.sIx]
  | some i=>
   simp only[sliceBounds,HT.sIx,Option.getD_none,show (1:Int) > 0 by decide,if_true]
   by_cases h:i<0
   ·simp only[h,if_true] <;> lia
   ·simp only[h,if_false] <;> lia
theorem ZEk(c:je)(d e:jC):slicePick c.toArray d e none=((c.drop (HT.sIx c.length 0 d)).take (HT.sIx c.length c.length e-HT.sIx c.length 0 d)).toArray:=by
 let⟨f,g,h⟩:=B8 d e c.toArray.size;unfold slicePick;rw[f,g,h];simp only[sliceRange_one,pick_run,zP] <;> rfl
inductive Me(K:zZ)(x:V)(e d:jC)(H:Hp)(Q:VK):Prop
 |mk(a c:_)(_:x=.ref a)(_:ZF K H a c)(_:∀ p,H p=none->Q (.ref p) (upd H p (.lst (UC c e d))))
theorem PU:Fl X (Me X.K):=by
 intro i s A H x v y z e f w Q I t j n p h;let⟨a,c,rfl,k,q⟩:=h;cases t;let⟨m,r,g,l⟩:=I.list k;let d:=r.length;exists "list",_,slot_list_getitem.lookup,g.isList.typeIs;refine wpAny_getItem_list_slice g.isList j n p .none (by simp) ?_ (by rw[zP] <;> lia)
 rw[ZEk,<-d];refine⟨.ref s.heap.objs.size,_,I.laid (t':=s.toks) (o:=.lst (UC c e f)) (λb u q=>zA _ q) (zY _) ?_,Z,q _ (I.hok.fresh (zY _))⟩;exact⟨zO (Bv c e f) l,_,0,(r.drop (HT.sIx c.length 0 e)).take (HT.sIx c.length c.length f-HT.sIx c.length 0 e),yO _ Z⟩
def P0:V->Bool
 | .non=>true
 | .bl _=>true
 | .int _=>true
 | .str _=>true
 | _=>false
def PQ:V->V->Bool
 | .non,.non=>true
 | .bl a,.bl b=>a==b
 | .bl a,.int b=>(if a then 1 else 0)==b
 | .int a,.bl b=>a==(if b then 1 else 0)
 | .int a,.int b=>a==b
 | .str a,.str b=>a==b
 | _,_=>false
theorem ZPu{A:ax}{s:am}{y x:V}{u v:aj}(f:ZP y u)(c:ZP x v)(g:P0 y=true)(e:P0 x=true):SeqAt.EqAt A s u v (PQ y x):=by
 cases y with
 | non=>
  cases f
  cases x with
  | non=>cases c;exact SeqAt.EqAt.same _
  | bl b=>cases c;exact SeqAt.EqAt.none_bool b
  | int b=>let⟨t,rfl⟩:=c;exact SeqAt.EqAt.none_int b t
  | str b=>let⟨t,rfl⟩:=c;exact SeqAt.EqAt.none_str b t
  | _=>exact absurd (show false=true from e) zT
 | bl a=>
  cases f
  cases x with
  | non=>cases c;exact SeqAt.EqAt.bool_none a
  | bl b=>cases c;exact SeqAt.EqAt.bool_bool a b
  | int b=>let⟨t,rfl⟩:=c;exact SeqAt.EqAt.bool_int a b t
  | str b=>let⟨t,rfl⟩:=c;exact SeqAt.EqAt.bool_str a b t
  | _=>exact absurd (show false=true from e) zT
 | int a=>
  let⟨d,rfl⟩:=f
  cases x with
  | non=>cases c;exact SeqAt.EqAt.int_none a d
  | bl b=>cases c;exact SeqAt.EqAt.int_bool a d b
  | int b=>let⟨t,rfl⟩:=c;exact SeqAt.EqAt.int_int a d b t
  | str b=>let⟨t,rfl⟩:=c;exact SeqAt.EqAt.int_str a d b t
  | _=>exact absurd (show false=true from e) zT
 | str a=>
  let⟨d,rfl⟩:=f
  cases x with
  | non=>cases c;exact SeqAt.EqAt.str_none a d
  | bl b=>cases c;exact SeqAt.EqAt.str_bool a d b
  | int b=>let⟨t,rfl⟩:=c;exact SeqAt.EqAt.str_int a d b t
  | str b=>let⟨t,rfl⟩:=c;exact SeqAt.EqAt.str_str a d b t
  | _=>exact absurd (show false=true from e) zT
 | _=>exact absurd (show false=true from g) zT
def Iz(x:V)(u:aj):Bool:=match u with
 | .none=>PQ .non x
 | .bool b=>PQ (.bl b) x
 | .int i _=>PQ (.int i) x
 | .str z _=>PQ (.str z) x
 | _=>false
theorem ET{x y:V}{u:aj}(r:ZP y u)(f:P0 y=true):Iz x u=PQ y x:=by
 cases y with
 | non=>cases r;rfl
 | bl b=>cases r;rfl
 | int i=>let⟨t,rfl⟩:=r;rfl
 | str z=>let⟨t,rfl⟩:=r;rfl
 | _=>exact absurd (show false=true from f) zT
inductive Wr(d:zZ)(e:jf)(H:Hp)(Q:VK):Prop
 |mk(p c:_)(_:e=[.ref p])(_:ZF d H p c\/Zm d H p c)(_:Q (.int c.length) H)
theorem Xd:Va X (.builtin "len") (Wr X.K):=by
 intro i s t H o n Q I r h;let⟨p,j,rfl,d,q⟩:=h;let⟨u,rfl,l⟩:=UV r;cases l;let m:=Nf;rcases d with d | d
 ·let⟨e,g,f,k⟩:=I.list d;let c:=g.length;exact Calls.call_len_list f.isList (by simp only[zP] <;> lia) ⟨.int j.length,H,I.tok _,⟨s.toks+1,by rw[zP,c]⟩,q⟩
 ·let⟨e,g,f,k⟩:=I.tuple d;let c:=g.length;exact len_tuple f (by simp only[zP] <;> lia) ⟨.int j.length,H,I.tok _,⟨s.toks+1,by rw[zP,c]⟩,q⟩
inductive Wp(c:jf)(H:Hp)(Q:VK):Prop
 |mk(z:_)(_:c=[.str z])(_:z.length<=ar)(_:Q (.int z.length) H)
theorem ZFi:Va X (.builtin "len") (Wp):=by
 intro c s i H g f Q I r h;let⟨z,rfl,e,q⟩:=h;let⟨u,rfl,t,rfl⟩:=UV r;let d:=Nf;exact len_str ∅ ⟨.int z.length,H,I.tok _,⟨_,Z⟩,q⟩
inductive Ww(d:zZ)(e:jf)(H:Hp)(Q:VK):Prop
 |mk(p c:_)(_:e=[.ref p])(_:ZF d H p c\/Zm d H p c)(_:∀ l,H l=none->Q (.ref l) (upd H l (.lst c)))
theorem Pb:Va X (.type "list") (Ww X.K):=by
 intro t s D H F E Q I r h;let⟨p,A,rfl,k,q⟩:=h;let⟨u,rfl,C⟩:=UV r;cases C;let i:∀(c:je),ZO A c->A.length<=ar->∀(d:aD)(f:Nat),(∀ b B,s.heap.get? b=some B->d.get? b=some B) ->
   d.get? s.heap.objs.size=some { cls:=.type "list",dict:=none,data:=.seq c.toArray f,slots:=#[] }->EP X t D Q (.ref s.heap.objs.size) { s with heap:=d }:=λc g l d f m e=>
  ⟨.ref s.heap.objs.size,_,I.laid (t':=s.toks) m (zY _) (show Zb X.prog X.w _ d _ (.lst A) from ⟨l,c,f,g,e⟩),rfl,q _ (I.hok.fresh (zY _))⟩
 rcases k with k | k
 ·let⟨c,g,z,l⟩:=I.list k;let j:=g.length;let⟨o,y,v,n,x⟩:=z.isList;exact call_list_seq p (.inl rfl) y v x (λd f m e=>i c g l d f m e) (by simp only[zP] <;> lia)
 ·let⟨c,g,z,l⟩:=I.tuple k;let j:=g.length;let⟨o,y,v,n,x⟩:=z;exact call_list_seq p (.inr rfl) y v x (λd f m e=>i c g l d f m e) (by simp only[zP] <;> lia)
inductive WV(d:zZ)(e:jf)(H:Hp)(Q:VK):Prop
 |mk(p c:_)(_:e=[.ref p])(_:(ZF d H p c/\∀ l,H l=none->Q (.ref l) (upd H l (.tup c)))\/(Zm d H p c/\Q (.ref p) H))
theorem LX:Va X (.type "tuple") (WV X.K):=by
 intro c s t H A z Q I r h;let⟨p,n,rfl,h⟩:=h;let⟨u,rfl,y⟩:=UV r;cases y;rcases h with ⟨g,q⟩ | ⟨g,q⟩
 ·let⟨d,j,i,m⟩:=I.list g;let l:=j.length;refine call_tuple_list i.isList (λf x=>?_) (by simp only[zP] <;> lia)
  let k:ZG X c t H { s with heap:=f }:=I.kept (t':=s.toks) x;let v:ZG X c t (upd H f.objs.size (.tup n)) { s with heap:=f.push { cls:=.type "tuple",data:=.seq d.toArray } }:=
   k.laid (t':=s.toks) (λb o e=>zA _ e) (zY _) (show Zb X.prog X.w _ _ _ (.tup n) from ⟨m,d,j,IsTup.new _ _⟩)
  exact⟨.ref f.objs.size,_,v,Z,q _ (k.hok.fresh (zY _))⟩
 ·let⟨d,j,i,m⟩:=I.tuple g;exact call_tuple_same i ⟨.ref p,H,I,Z,q⟩
def Ju(K:zZ)(T:String)(x:V)(H:Hp):Prop:=match x with
 | .str _=>T = "str"
 | .int _=>T = "int"
 | .ref p=>(T = "list" /\ ∃ d,ZF K H p d)\/(T = "tuple" /\ ∃ o,K.lookup p=some o/\o.cls=.type "tuple" /\ o.dict=none) \/
   (T = "dict" /\ ((∃ c,H p=some (.dK c))\/∃ c,H p=some (.dT c)))\/(T = "set" /\ ∃ S n,H p=some (.set S n))
 | _=>False
theorem Ge{g:jq}{A:St}{H:Hp}{s:am}{T:String}{x:V}{v:aj}(I:ZG X g A H s)(r:ZP x v)(h:Ju X.K T x H):
  s.TypeIs v T/\∀ a,v=.ref a->∃ m,s.heap.get? a=some m/\m.dict=none:=by
 cases x with
 | str z=>
  let⟨t,rfl⟩:=r;cases(show T = "str" from h);exact⟨typeIs_str s z t,λ_ e=>nomatch e⟩
 | int i=>
  let⟨t,rfl⟩:=r;cases(show T = "int" from h);exact⟨typeIs_int s i t,λ_ e=>nomatch e⟩
 | ref p=>
  cases r;rcases h with ⟨rfl,B,w⟩ | ⟨rfl,o,d,u,k⟩ | ⟨rfl,d⟩ | ⟨rfl,S,n,d⟩
  ·let⟨y,_,q,_⟩:=I.list w;exists q.isList.typeIs;intro a e;cases e;let⟨o,n,e,c,k,_⟩:=q;exact⟨o,e,k⟩
  ·exists ⟨o,I.kIn p o d,u⟩;intro a e;cases e;exact⟨o,I.kIn _ o d,k⟩
  ·let z:∃ o,s.heap.get? p=some o/\o.ExactDict:=by
    rcases d with ⟨l,d⟩ | ⟨l,d⟩
    ·let⟨_,_,_,_,o,_,_,e,f,_⟩:=I.hok p _ d;exact⟨o,e,f⟩
    ·let⟨_,_,_,_,o,_,_,e,f,_⟩:=I.hok p _ d;exact⟨o,e,f⟩
   let⟨o,e,f⟩:=z;exists ⟨o,e,f.1⟩;intro a j;cases j;exact⟨o,e,f.2.1⟩
  ·let⟨o,_,_,_,e,f,_⟩:=I.hok p _ d;exists ⟨o,e,f.1⟩;intro a j;cases j;exact⟨o,e,f.2.1⟩
 | _=>exact False.elim h
def ZRR(K:zZ)(T:String)(r:V->jf->Hp->VK->Prop)(d:TE):TE:=λe H Q=>d e H λx c=>Ju K T x c/\r x [] c Q
def tBM(K:zZ)(T:String)(r:V->jf->Hp->VK->Prop)(f:TE)(t:TA):TE:=λd H Q=>f d H λx c=>Ju K T x c/\t d c λg e=>r x g e Q
variable{o e:Expr}{es:jw}{to:TE}{t:TA}{name:Str}{ji jh:Pos}{T id:String}{r:V->jf->Hp->VK->Prop}
theorem Fa(w:PlainAttrs T)(g:Slot T name id)(i:typeOf (.builtin id)=pure (.type "method_descriptor"))(q:Cd X id r)(u:PE X o to)(d:attributeBase o name X.env (aG o X.env)=aG o X.env:=by rfl)(f:(ji.endLine==jh.line)=true:=by rfl):PE X (.Call (.Attribute o name ji) [] [] jh) (ZRR X.K T r to):=by
 intro c s l H Q I h;refine wpAny_Call_method0_late d f (Z3 (u c s l H _ I h) ?_);rintro v z ⟨x,m,j,k,A,y⟩;let⟨n,p⟩:=Ge j k A;exact⟨T,id,w,g,i,n,p,Calls.callWith_builtin Z (PySem.evalArgs_none (q c z l m x [] v [] Q j k .nil y))⟩
theorem Qo(E:PlainAttrs T)(j:Slot T name id)(k:typeOf (.builtin id)=pure (.type "method_descriptor"))(B:Cd X id r)(C:PE X o to)(A:PA X (e::es) t)(f:attributeBase o name X.env (aG o X.env)=aG o X.env:=by rfl)(i:((aF jh (au (e::es) X.env)).all (λx=>!x.1)&&(backToKw jh (keywordEach [] X.env)).all (λx=>x.1.isSome)
   && decide ((e::es).length+([]:List Keyword).length+(if ([]:List Keyword).isEmpty then 0 else 1)<30))=true:=by rfl)(g:(ji.endLine==jh.line)=true:=by rfl)(D:au (e::es) X.env=(false,aG e X.env)::au es X.env:=by rfl)(d:(aF jh (au es X.env)).any (·.1)=false:=by rfl):
  PE X (.Call (.Attribute o name ji) (e::es) [] jh) (tBM X.K T r to t):=by
 intro c s l H Q I h;refine wpAny_Call_method_late f i g Z (Z3 (C c s l H _ I h) ?_);rintro v L ⟨x,q,m,p,N,F⟩;let⟨y,z⟩:=Ge m p N;exists T,id,E,j,k,y,z;let n:=A jh c L l q _ m F;rw[D] at n⊢;refine Calls.callWith_builtin (by show (false || (aF jh (au es X.env)).any (·.1))=false;rw[d] <;> rfl) (Calls.evalArgs_plain ?_)
 exact YF n λO M P u w J G=>B c M l u x P v O Q w p J G
end
def Nh(X:Cx)(id:String)(r:V->jf->Hp->VK->Prop):Prop:=
 ∀(a:jq)(s:am)(d:St)(H:Hp)(x:V)(c:jf)(v:aj)(b:je)(Q:VK),ZG X a d H s->ZP x v->ZO c b->r x c H Q ->
  aB (aA X.prog X.w) X.A (call (.builtin id) (v::b)) (EP X a d Q) X.xe s
theorem ZO.one:∀{x:V}{a:je},ZO [x] a->∃ u,a=[u]/\ZP x u:=λh=>by cases h with | cons r n=>cases n;exact⟨_,Z,r⟩
theorem ZO.zero:∀{a:je},ZO [] a->a=[]
 | _,.nil=>rfl
theorem ZO.dropLast{b:jf}{a:je}(h:ZO b a):ZO b.dropLast a.dropLast:=by
 induction h with
 | nil=>exact .nil
 | cons r t c=>
  cases t with
  | nil=>exact .nil
  | cons q d=>exact .cons r c
theorem ZH3{d:Type}(l:List d):l.eraseIdx (l.length-1)=l.dropLast:=by
 induction l with
 | nil=>rfl
 | cons a r c=>
  cases r with
  | nil=>rfl
  | cons b r=>
   let e:(a::b::r).length-1=((b::r).length-1)+1:=by
    let f:(a::b::r).length=r.length+2:=rfl;let g:(b::r).length=r.length+1:=rfl
    lia
   rw[e,List.eraseIdx_cons_succ,c]
   all_goals rfl
section
variable{ki:jq}{σ:St}{H:Hp}{l b:ak}{xs ys zs:jf}
theorem ZG.lset{a its':je}{n:Nat}{f:jt->jt}{k:Nat}(I:ZG X ki σ H s)(c:H l=some (.lst xs))(e:s.heap.get? l=some { cls:=.type "list",data:=.seq a.toArray n })(g:f a.toArray=its'.toArray)(i:ZO ys its')(j:ys.length<=ar):
  ZG X ki σ (upd H l (.lst ys)) { s with heap:=s.heap.update l (Obj.mapSeq f),toks:=k }:=by
 let q:=PySem.IsL.update e f;rw[g] at q;refine I.write (x:=l) (e:=l) (by rw[c];exact trivial) (.inl rfl) (λm u d h=>(vA s.heap (Obj.mapSeq f) (Ne.symm d)).trans h) ⟨_,q⟩ ?_
 exact⟨j,its',_,i,q⟩
theorem ZG.lnew{a:je}{t':Nat}(I:ZG X ki σ H s)(c:ZO ys a)(d:ys.length<=ar):
  ZG X ki σ (upd H s.heap.objs.size (.lst ys)) { s with heap:=s.heap.push { cls:=.type "list",data:=.seq a.toArray },toks:=t' }:=
 I.laid (λ_ _ q=>zA _ q) (zY _) ⟨d,a,0,c,yO _ rfl⟩
theorem ZG.fresh(I:ZG X ki σ H s):H s.heap.objs.size=none:=I.hok.fresh (zY _)
theorem ZG.lstM(I:ZG X ki σ H s)(c:H l=some (.lst xs)):xs.length<=ar/\∃(a:je)(n:Nat),ZO xs a/\xs.length=a.length/\s.heap.get? l=some { cls:=.type "list",data:=.seq a.toArray n }:=by
 let⟨z,a,n,r,e⟩:=I.hok l _ c;exact⟨z,a,n,r,r.length,e⟩
theorem ZKt{n:Nat}(h:n<=ar):Builtin.List.listTooLong n=false:=by
 unfold Builtin.List.listTooLong;exact aI ∅
end
inductive PV(x:V)(b:jf)(H:Hp)(Q:VK):Prop
 |mk(l a y:_)(_:x=.ref l)(_:b=[y])(_:H l=some (.lst a))(_:a.length<ar)(_:Q .non (upd H l (.lst (a++[y]))))
theorem OB:Nh X "list.append" PV:=by
 intro c s p H x m v k Q I g f h;let⟨l,o,y,rfl,rfl,b,j,q⟩:=h;cases g;let⟨u,rfl,d⟩:=f.one;let⟨z,a,n,r,i,e⟩:=I.lstM b;refine call_meets F.slot_list_append ⟨_,e,Z⟩ F.entry_list_append (F.args_list_append_2 _ _) (PySem.list_append l a.toArray n u (by rw[zP];lia)) ⟨e,?_⟩
 refine⟨.non,_,I.lset (its':=a++[u]) b e (by simp) (r.append (.cons d .nil)) ?_,Z,q⟩
 rw[zW,vY]
 lia
inductive Pq(x:V)(d:jf)(H:Hp)(Q:VK):Prop
 |mk(l b a c:_)(_:x=.ref l)(_:d=[.ref b])(_:H l=some (.lst a))(_:H b=some (.lst c))(_:a.length+c.length<=ar)(_:Q .non (upd H l (.lst (a++c))))
theorem CF:Nh X "list.extend" Pq:=by
 intro i s K H x D v C Q I y w h;let⟨l,b,E,J,rfl,rfl,g,k,B,q⟩:=h;cases y;let⟨u,rfl,t⟩:=w.one;cases t;let⟨z,c,n,r,A,e⟩:=I.lstM g;let⟨G,a,o,p,m,j⟩:=I.lstM k;let f:c.toArray.size+a.toArray.size<=sizeLine:=by rw[zP,zP];lia
 let d:¬ (!c.toArray.isEmpty&&Builtin.List.listTooLong (c.toArray.size+a.toArray.size))=true:=by
  rw[ZKt f,tN];exact zT
 refine call_meets F.slot_list_extend ⟨_,e,Z⟩ F.entry_list_extend (F.args_list_extend_2 _ _)
  (AutoSeq1.list_extend_list_list_0 l c.toArray n b a.toArray o d (by rw[zP];lia) ∅) ⟨e,j,?_⟩
 refine⟨.non,_,I.lset (its':=c++a) g e (by simp) (r.append p) ?_,Z,q⟩
 rw[zW]
 lia
inductive JL(x:V)(b:jf)(H:Hp)(Q:VK):Prop
 |mk(l a y:_)(_:x=.ref l)(_:b=[])(_:H l=some (.lst a))(_:a[a.length-1]? = some y)(_:Q y (upd H l (.lst a.dropLast)))
theorem Cv:Nh X "list.pop" JL:=by
 intro f s A H x t v p Q I o m h;let⟨l,w,y,rfl,rfl,d,j,q⟩:=h;cases o;let b:=m.zero;subst b;let⟨z,a,n,r,g,e⟩:=I.lstM d;let⟨u,i,k⟩:=r.get j;let c:a.toArray[a.toArray.size-1]? = some u:=by
  show a.toArray[a.length-1]? = some u;rw[<-yP,<-g];exact i
 refine call_meets F.slot_list_pop ⟨_,e,Z⟩ F.entry_list_pop (F.args_list_pop_1 _) (MeetsSeq.list_pop_last l a.toArray n u c (by rw[zP];lia)) ⟨e,?_⟩
 refine⟨y,_,I.lset (its':=a.dropLast) d e ?_ r.dropLast ?_,k,q⟩
 ·show a.toArray.eraseIdxIfInBounds (a.toArray.size-1)=a.dropLast.toArray;rw[zP,List.eraseIdxIfInBounds_toArray,ZH3]
 ·rw[List.length_dropLast]
  lia
inductive OQ(x:V)(a:jf)(H:Hp)(Q:VK):Prop
 |mk(l b:_)(_:x=.ref l)(_:a=[])(_:H l=some (.lst b))(_:Q .non (upd H l (.lst [])))
theorem ZLI:Nh X "list.clear" OQ:=by
 intro d s o H x k v j Q I g f h;let⟨l,m,rfl,rfl,c,q⟩:=h;cases g;let a:=f.zero;subst a;let⟨z,b,n,r,i,e⟩:=I.lstM c;refine call_meets F.slot_list_clear ⟨_,e,Z⟩ F.entry_list_clear (F.args_list_clear_1 _) (AutoSeq1.list_clear_list_0 l b.toArray n (by rw[zP];lia)) ⟨e,?_⟩
 exact⟨.non,_,I.lset (its':=[]) (ys:=[]) c e Z .nil (zM _),Z,q⟩
inductive Hk(x y:V)(H:Hp)(Q:VK):Prop
 |mk(l b a c:_)(_:x=.ref l)(_:y=.ref b)(_:H l=some (.lst a))(_:H b=some (.lst c))(_:a.length+c.length<=ar)(_:∀ p,H p=none->Q (.ref p) (upd H p (.lst (a++c))))
theorem Ph:Y4 X (binaryOp .Add) Hk:=by
 intro d s E H x y v u Q I o p h;let⟨l,b,B,D,rfl,rfl,j,i,w,q⟩:=h;cases o;cases p;let⟨z,c,n,r,t,e⟩:=I.lstM j;let⟨C,a,A,m,k,f⟩:=I.lstM i;refine PySem.P.add_list e f ?_ (by rw[zP,zP];lia)
 let g:c.toArray++a.toArray=(c++a).toArray:=by simp
 rw[g];exact⟨.ref _,_,I.lnew (t':=s.toks) (r.append m) (by rw[zW];lia),Z,q _ I.fresh⟩
end L2
namespace Att
open PySem PySem.W PySem.Calls PyProof.Rows
theorem ZDd{P:Params}{h:aD}:∀(c:jy)(d:je),WellAll P h d (c.map WData.int)->IntsAre d c:=by
 intro c
 induction c with
 | nil=>
  intro d w;rw[uD] at w;cases w;exact .nil
 | cons n c e=>
  intro d w;rw[yV] at w
  cases w with
  | cons a b=>
   cases a;exact .cons _ _ (e _ b)
theorem ZJs{l:OpenLaw}{n:Nat}(v:l.most=some n){P:Params}{h:aD}{args:List WData}{e:je}(c:l.row.toRowW.claim.pre args=true)(m:WellAll P h e args):
  ∃ a p b,e=[Value.ref a]/\args=[WData.list (b.map WData.int)]/\h.get? a=some { cls:=.type "list",data:=.seq p.toArray }/\IntsAre p b/\b.length<=n:=by
 let k:WShape.hasAll [] args [.list .int]=true:=(pre_splitW c).1;let o:l.pre.holds [] { args:=args }=true:=(pre_splitW c).2;let⟨d,r,rfl,s,t⟩:=hasAllW_cons k;obtain rfl:=hasAllW_nil t;let⟨A,rfl,u⟩:=hasW_list s;let⟨b,rfl⟩:=items_int u;let g:b.length<=n:=by
  unfold OpenLaw.pre at o;let i:(WTm.not (.lt (.lit (.int (n:Int))) (.len (.arg 0)))).holds [] { args:=[.list (b.map .int)] }=true:=by
   let i:=(holds_andW o).1;rw[v] at i;exact i
  let j:=condW_of i (w_not (w_lt w_lit (w_len_list (w_arg rfl))));rw[zX] at j;refine wS λq=>?_;let x:(n:Int)<((b.length:Nat):Int):=∅
  first
   | (rw[aJ x] at j;exact absurd j (by decide))
   | (simp at j;lia)
 cases m with
 | cons y z=>
  cases z
  cases y with
  | list w f=>exact⟨_,_,b,Z,Z,w,ZDd b _ f,g⟩
theorem ZJL(l:OpenLaw)(args:List WData):l.row.toRowW.claim.post args (.bool true) args=true:=
 postW_of (r:=l.row.toRowW) (X:=(true==true))
  (show WShape.has [] (.bool true) .bool=true by first | rfl | decide | simp[WShape.has,WShape.arms,WShape.armsAll])
  (show (WTm.eq .res (.lit (.bool true))).value [] { args:=args,res:=some (.bool true),after:=args }=some (.bool (true==true)) from w_eq_bool (w_res rfl) w_lit) rfl
theorem attach_call{l:OpenLaw}{n:Nat}{q:ao}{c:jp}{E:(jc)->aD->Prop}{F:aw->aD->Prop}{d:DefRec}(S:l.most=some n)(z:d.params.defaults=[])(j:∀ (w:aw) (e b:am) (u C:jc) (k:ak) (o:aH) (D t g:aj) (a:ak) (i:je) (v:jy),
   Ground q c [] E w e u C b.heap->F w b.heap ->
   b.heap.get? k=some o->o.data=.func (docDef d.name d.params d.body d.scope D t g)->b.heap.CodeRec t d.name->u d.name=some (.ref k) ->
   b.heap.get? a=some { cls:=.type "list",data:=.seq i.toArray }->IntsAre i v->v.length<=n->b.gens=#[] ->
   codeAny (aA l.prog w) callerA (.call (.ref k) ⟨[.ref a],[]⟩) (λr x=>r=.ok (.ret (.bool true))/\OldK b.heap x.heap/\x.os=b.os/\AllBare x.gens) b):
  WalkO q c E F l.row.toRowW d [] (λf i=>PySem.call f i):=by
 intro w e b u C G Y k o D t g K kV T O y H A P args J W s I V B Q;obtain rfl:K=.none:=Dflts.none H z;obtain rfl:kV=.none:=Dflts.noKw H;let⟨a,i,v,rfl,rfl,p,h,m⟩:=ZJs S s B;refine enter_call (codeAny_mono (j w e b u C k o D t g a i v G Y T (fd_plain O) y A p h m P) λr x U=>?_);let⟨rfl,L,M,N⟩:=U;exact⟨.inl ⟨.bool true,.bool true,[],Z,λ_=>rfl,.bool true,ZJL l _,λ_=>⟨wL.nil,λ_ R=>(nomatch R)⟩⟩,L,M,N⟩
section
variable{K:Frag}
def ZRA(h:aD)(L d:ak):jq:=(yF h.objs.size).filterMap λa=>if a=L\/a=d then none else (h.get? a).map λo=>(a,o)
end
end Att
namespace L2
open PySem PySem.Spec PyProof.Rows
theorem Cj:∀{b:je}{a:jy},IntsAre b a->ZO (a.map V.int) b:=by intro _ _ h;induction h with
 | nil=>exact .nil
 | cons n t _ c=>exact .cons ⟨t,Z⟩ c
def IL(H:Hp):Prop:=∀ b,H b=none\/∃ o a,H b=some (.frz o (.lst a))
theorem ZK8{P:ao}{w:aw}{K:zZ}{M mb:jc}{CX:VI}{k:Nat}{S a:ak}{fd:ap}{x:Str}{sp:Sp}{c:am}{y:je}{N:jy}(KX:K.In c.heap)(G:c.heap.Ns aq M)(g:c.heap.Ns builtinsNs mb)(U:∀ x:Str,x ≠ "__name__"->mb x=ay x)(E:c.heap.NoLimit)(hg:c.gens=#[])(Q:c.heap.get? a=some { cls:=.type "list",data:=.seq y.toArray })(hi:IntsAre y N)(hl:N.length<=ar)(hr:ZU k callerA)(F:∀ i:aD,K.In i->i.Ns aq M->ZI P w K M i CX k S fd [x] sp)(t:∀ (s:am) (u:aj),BindsTo s fd ⟨[u],[]⟩ [(x,u)])(Y:∀ H:Hp,IL H->ZF K H a (N.map V.int)->sp [.ref a] H (λv _=>v=.bl true) λ_ _ _=>False)(T:∀ H e j,CX [] H c (λ_ _ _=>False) e j->False):
  codeAny (aA P w) callerA (.call (.ref S) ⟨[.ref a],[]⟩) (λr j=>r=.ok (.ret (.bool true))/\OldK c.heap j.heap/\j.os=c.os/\AllBare j.gens) c:=by
 let rv:=Cj hi;let L:=hi.length;let p:∀ H:Hp,IL H->ZF K H a (N.map V.int)->Y5 P w H c.heap->(∀ b,H b≠none->b=a)->(H a≠none->K.lookup a=none) ->
   codeAny (aA P w) callerA (.call (.ref S) ⟨[.ref a],[]⟩) (λr j=>r=.ok (.ret (.bool true))/\OldK c.heap j.heap/\j.os=c.os/\AllBare j.gens) c:=by
  intro H hO hS I hA hK;let f:∀{b:ak}{o:aH},c.heap.get? b=some o->H b=none->(Pl c.heap H).get? b=some o:=λe n=>ZLF e n;let a0:∀{b:ak}{o:aH}{C:Array DictEntry}{B:Nat},c.heap.get? b=some o->o.data=.dict C B->H b=none:=fun{b o C B} e d=>by
   cases q:H b with
   | none=>rfl
   | some u=>
    let R:b=a:=hA b (by rw[q];simp)
    subst R;rw[Q] at e;cases e;let d':Data.seq y.toArray _=Data.dict C B:=d;cases d'
  let l:∀{b:ak}{m:jc},c.heap.Ns b m->(Pl c.heap H).Ns b m:=fun{b m} ⟨o,C,B,e,d,r⟩=>⟨o,C,B,f e (a0 e d),d,r⟩;let D:K.In (Pl c.heap H):=λb o e=>f (KX b o e) (by
   cases q:H b with
   | none=>rfl
   | some u=>
    let R:b=a:=hA b (by rw[q];simp)
    subst R;rw[hK (by rw[q];simp)] at e;cases e)
  let hM:Mod K M (Pl c.heap H):=⟨D,l G,⟨mb,l g,U⟩,let ⟨mc,h1,h2⟩:=E;⟨mc,l h1,h2⟩⟩;let e0:Vo P w K M (Pl c.heap H) callerA [] c H:=⟨Z,hM,λb o e=>ZN3 e,xH (ZJq _ _),trivial,λb g=>absurd (show b∈([]:jB) from g) (by simp),I,.of_eq hg⟩
  refine codeAny_mono ((F _ D (l G)).run callerA [] c H ⟨[.ref a],[]⟩ [.ref a] [.ref a] _ _ hr e0 (t c (.ref a)) (.cons rfl .nil) (Y H hO hS)) λr j h=>?_
  cases r with
  | error e=>exact(T H e j h).elim
  | ok fl=>
   cases fl with
   | next=>exact False.elim h
   | brk=>exact False.elim h
   | cont=>exact False.elim h
   | ret u=>
    let⟨v,H',os,A,un,J,r',q⟩:=h;let q':v=.bl true:=q;subst q';obtain rfl:u=Value.bool true:=r';refine⟨Z,OldK.of_keep λb o e=>?_,os,A⟩
    cases q:H b with
    | none=>exact un.keep b o e q (by intro z;exact absurd (show b∈([]:jB) from z) (by simp)) (by simp)
    | some u=>
     rcases hO b with z | ⟨ob,xs,z⟩
     ·rw[q] at z;cases z
     ·let z2:=un.frzs b ob _ z;let⟨e1,_⟩:=I b _ z;let⟨e2,_⟩:=J b _ z2;rw[e] at e1;cases e1;exact e2
 cases X:K.lookup a with
 | some o=>
  let e:=KX a o X;rw[Q] at e;cases e;refine p (λ_=>none) (λ_=>.inl Z) (.inr ⟨_,y.toArray,_,X,rfl,rfl,rfl,by rw[zP,L];exact hl,by simpa using rv⟩) (λb u z=>by let O:(none:Option HO)=some u:=z;cases O) (λb z=>absurd Z z) λz=>absurd Z z
 | none=>
  refine p (λb=>if b=a then some (.frz { cls:=.type "list",data:=.seq y.toArray } (.lst (N.map V.int))) else none) (λb=>?_) (.inl (.inr ⟨{ cls:=.type "list",data:=.seq y.toArray },aM rfl⟩)) (λb u z=>?_) (λb z=>?_) λ_=>X
  ·by_cases g:b=a
   ·exact .inr ⟨_,_,aM g⟩
   ·exact .inl (aK g)
  ·by_cases g:b=a
   ·let O:=(aM g).symm.trans z;cases O;subst g;exact⟨Q,by rw[zX];exact hl,y,_,rv,Q⟩
   ·let O:=(aK g).symm.trans z;cases O
  ·by_cases g:b=a
   ·exact g
   ·exact absurd (aK g) z
abbrev KOf{K:zZ}{h:aD}(_:K.In h):zZ:=K
theorem LG{l:sF}{n k:Nat}{q:ao}{loose:jp}{XP:(jc)->aD->Prop}{YP:aw->aD->Prop}{d:DefRec}{K:Params->zZ}{CX:aw->VI}{sp:aw->Sp}{x:Str}(hn:l.most=some n)(hn2:n<=ar)(hdf:d.params.defaults=[])(hr:ZU k callerA)(hY:∀ (w:aw) (h:aD),YP w h->(K w.params).In h)(F:∀ (w:aw) (m:jc) (t:ak) (h:aD),(K w.params).In h->h.Ns aq m->m d.name=some (.ref t) ->
   ∃ z:ap,(∀ (s:am) (u:aj),BindsTo s z ⟨[u],[]⟩ [(x,u)]) /\
    ∀ c:aD,(K w.params).In c->c.Ns aq m->ZI l.prog w (K w.params) m c (CX w) k t z [x] (sp w))(hsp:∀ (w:aw) (H:Hp) (a:ak) (y:jy),y.length<=n->IL H->ZF (K w.params) H a (y.map V.int)->sp w [.ref a] H (λv _=>v=.bl true) λ_ _ _=>False)(hCX:∀ (w:aw) (H:Hp) (s:am) (e:aj) (B:am),CX w [] H s (λ_ _ _=>False) e B->False):
  PySem.W.WalkO q loose XP YP l.row.toRowW d [] (λf E=>PySem.call f E):=by
 refine Att.attach_call hn hdf λw D r m U t o X Q I a E y G Y S R O A p j i P=>?_;let C:=hY w _ Y;let⟨z,N,J⟩:=F w m t _ C G.T.g A;exact ZK8 C G.T.g G.T.b G.T.builtins G.T.nolimit P p j (zO i hn2) hr J N (λH L M=>hsp w H a y i L M) λH e B=>hCX w H r e B
def WB(s:aC)(j:Nat):Stmt:=match s with
 | .ClassDef _ _ _ a _ _ _ _ _ _ _=>a.getD j (.Pass ⟨0,0,0,0⟩)
 | _=>.Pass ⟨0,0,0,0⟩
def U5(s:aC):Arguments:=match s with
 | .FunctionDef _ a _ _ _ _ _ _ _ _=>a
 | _=>{ posonlyargs:=[],args:=[],vararg:=none,kwonlyargs:=[],kw_defaults:=[],kwarg:=none,defaults:=[] }
def Ws(s:aC):List Stmt:=match s with
 | .FunctionDef _ _ b _ _ _ _ _ _ _=>b
 | _=>[]
def Zc(s:aC):Scope:=match s with
 | .FunctionDef _ _ _ _ _ _ a _ _ _=>a
 | _=>{ kind:=.function,names:=[],isGenerator:=false,isCoroutine:=false }
abbrev ZM:VI:=λ_ _ _ _ _ _=>False
abbrev E0:XK:=λ_ _ _=>False
theorem YC{X:Cx}:QR ZM X E0:=λ_ _ _ _ _ _ _ h=>h.elim
structure Zg(K:zZ)(x qual:Str)(st:aC)(f:ak)(fd:ap):Prop where
 ex:∃(oc:aj)(od:jx)(kV doc pm:aj)(an:jx)(cdv ct:aj)(osl:Array (jd)),
  fd=xW x qual (U5 st) (Ws st) (Zc st) .none kV doc pm an cdv ct/\K.lookup f=some ⟨oc,od,.func fd,osl⟩/\wK K cdv qual=true
 kp:yG K (.ref f)=true
theorem Zg.ok{x b:Str}{g:aC}{f:ak}{o:ap}{N m:jp}{k:Nat}{n:Sp}(F:Zg K x b g f o)(S:ZB N m (Zc g))(l:∀ e H Q E,n e H Q E->e.length=m.length)(d:∀ (c:aj) (A:ax) (a:jz) (s:am) (H:Hp) (e:jf) (Q:VK) (E:XK),ZU k (A.deeper (envOfC b (Zc g) s.heap.objs.size f c))->n e H Q E ->
   let X:=(Vc ZM P w K mg kj N b (Zc g) f c A a s H E).nox;∃ t,Wj X (Ws g) t/\t { nx:=λ_ p=>Q .non p,rt:=Q } (QW N e) H):ZI P w K mg kj ZM (k+1) f o m n:=by
 let⟨B,C,kV,r,D,z,c,ct,y,rfl,v,i⟩:=F.ex;refine KL v i S l λA a s H e Q E u j=>?_;let⟨t,h,q⟩:=d c A a s H e Q E u j;exact⟨t,h.nox,q⟩
theorem Zg.ko{x a:Str}{g:aC}{f:ak}{m:ap}{N j:jp}{k:Nat}{l:Sp}(F:Zg K x a g f m)(S:ZB N j (Zc g))(b:∀ (e:aj) (A:ax) (c:jz) (s:am) (H:Hp) (d:jf) (Q:VK) (E:XK),ZU k (A.deeper (envOfC a (Zc g) s.heap.objs.size f e))->l d H Q E ->
   let X:=(Vc ZM P w K mg kj N a (Zc g) f e A c s H E).nox;∃ t,Wj X (Ws g) t/\t { nx:=λ_ n=>Q .non n,rt:=Q } (QW N d) H)(i:∀ d H Q E,l d H Q E->d.length=j.length:=by intro d _ _ _ h;cases h;(try subst d);rfl):ZI P w K mg kj ZM (k+1) f m j l:=F.ok S i b
theorem Zg.binds{x a:Str}{d:aC}{f:ak}{k:ap}{i:jp}(F:Zg K x a d f k)(h:∀ (kV c g:aj) (e:jx) (b ct:aj) (j:je),j.length=i.length->bindArgs (xW x a (U5 d) (Ws d) (Zc d) .none kV c g e b ct) ⟨j,[]⟩=pure (i.zip j)):Zv K k i []:=by
 let⟨o,p,kV,c,g,e,b,ct,m,rfl,n,l⟩:=F.ex;exact .all (h kV c g e b ct)
theorem Oz{x a:Str}{st:aC}{f:ak}{i:aj}{j g:jx}{e:Array (jd)}{kV d h b ct:aj}(l:K.lookup f=some ⟨i,j,.func (xW x a (U5 st) (Ws st) (Zc st) .none kV d h g b ct),e⟩)(c:wK K b a=true)(k:yG K (.ref f)=true):Zg K x a st f (xW x a (U5 st) (Ws st) (Zc st) .none kV d h g b ct):=⟨⟨i,j,kV,d,h,g,b,ct,e,Z,l,c⟩,k⟩
theorem OV{A:ax}{k:Nat}(a:ZU k A):A.units+1<cLine:=wQ (rT (by decide:1<=64) _) a.units
theorem Ym{n:Nat}(h:n<=1000):n<sizeLine:=wQ h (by decide)
theorem pv(i:Nat){x:Str}{pos:Pos}(b:X.N[i]? = some x:=by rfl)(d:HZ X.env.scope x:=by first | exact Or.inl rfl | exact Or.inr (Or.inl rfl) | exact Or.inr (Or.inr rfl))(c:(x==("__debug__" : Str))=false:=by decide)(a:(x==("__classdict__" : Str))=false:=by decide):PE X (.Name x pos) (Nv i):=ZPq b d c a
theorem Zo{A B:Prop}(h:B):if false=true then A else B:=by
 rw[aK zT];exact h
theorem YM{A B:Prop}(h:A):if true=true then A else B:=by
 rw[aM rfl];exact h
theorem UI{c A B:Prop}[Decidable c](a:c->A)(b:¬ c->B):if c then A else B:=by
 by_cases h:c
 ·rw[aM h];exact a h
 ·rw[aK h];exact b h
def ZD(H a:Hp):Prop:=∀ b o,H b=some o->a b=some o
theorem ZD.refl(H:Hp):ZD H H:=λ_ _ h=>h
theorem ZD.trans{H d e:Hp}(a:ZD H d)(b:ZD d e):ZD H e:=λc o h=>b c o (a c o h)
theorem ZD.free{H a:Hp}(e:ZD H a){l:ak}(h:a l=uW):H l=uW:=by
 cases q:H l with
 | none=>rfl
 | some o=>
  rw[e l o q] at h;cases h
theorem ZD.seq{K:zZ}{H b:Hp}{a:ak}{c:jf}(e:ZD H b)(h:ZF K H a c):ZF K b a c:=by
 rcases h with (h | ⟨o,h⟩) | h
 ·exact .inl (.inl (e _ _ h))
 ·exact .inl (.inr ⟨o,e _ _ h⟩)
 ·exact .inr h
section
variable{R:Result->am->Prop}
theorem ZGV{elt target iter:Expr}{ifs:jw}{scope:aE}{pos:Pos}{it acc:aj}{env:Env}(I:Nat->am->Prop)(turn:∀ n s,I n s->aB (aA prog w) A (pyNext it) (λr d=>match r with
   | none=>R (.ok .next) d
   | some v=>aB (aA prog w) A (letOwnedTupleGo target it v) (λ_ j=>aB (aA prog w) A (assign target env v) (λ_ k=>
     aB (aA prog w) A (forIn ifs true λc r=>if r=true then do let y<-isTrue c env (aG c env);pure (ForInStep.yield y) else pure (ForInStep.yield r)) (λy f=>
      if y=true then aB (aA prog w) A (aG elt env) (λx l=>
       aB (aA prog w) A (call (.builtin "list.append") [acc,x]) (λ_ o=>∃ m,m<n/\I m o) (notedBy (aA prog w) A env λe b=>R (.error e) b) l) (notedBy (aA prog w) A env λe b=>R (.error e) b) f
      else ∃ m,m<n/\I m f) (notedBy (aA prog w) A env λe b=>R (.error e) b) k) (notedBy (aA prog w) A env λe b=>R (.error e) b) j) (notedBy (aA prog w) A env λe b=>R (.error e) b) d) (notedBy (aA prog w) A env λe b=>R (.error e) b) s)(n:Nat)(h:I n s):
  codeAny (aA prog w) A (.compLoop (.ListComp elt [⟨target,iter,ifs,0⟩] scope pos) 0 it acc env) R s:=by
 refine codeAny_loop Z I (λn s z=>?_) n h;show aB _ A ((compTurn (.ListComp elt [⟨target,iter,ifs,0⟩] scope pos) 0 it acc env).onRaise (λx=>do noteFrame x env;theTreesLotGoes x)) _ _ s
 refine wpAny_noted ?_;rw[compTurn_list];refine aa (wpAny_standAt (aa (ae (turn n s z) (λr d g=>?_) λ_ _ a=>a)))
 cases r with
 | none=>exact ad g
 | some v=>
  refine aa (ae g (λ_ j p=>?_) λ_ _ a=>a);refine aa (ae p (λ_ k q=>aa (ae q (λy f i=>?_) λ_ _ a=>a)) λ_ _ a=>a)
  cases y with
  | false=>exact ad ⟨Z,i⟩
  | true=>
   exact aa (aa (ae i (λx l t=>aa (ae t (λ_ o u=>ad (ad ⟨Z,u⟩)) λ_ _ a=>a)) λ_ _ a=>a))
end
def Wm(b:Env)(l:List (Str×NameKind)):jD->jD:=λa=>l.foldl (λa p=>if p.2==.free then (p.1,(b.cells.lookup p.1).getD 0)::a else a) a
def MX(a:Env)(l:List (Str×NameKind)):Prop:=∀ p∈l,p.2=.free->∃ c,a.cells.lookup p.1=some c
theorem Dl{b:Env}{d:aE}(h:MX b d.names):closureFor d b=pure (Wm b d.names []):=by
 let i:∀(l:List (Str×NameKind))(f:jD),MX b l->(forIn l f λx r=>if (x.2==.free)=true then do let a<-cellOf b x.1;pure (ForInStep.yield ((x.1,a)::r)) else pure (ForInStep.yield r):Sem (jD))=pure (Wm b l f):=by
  intro l
  induction l with
  | nil=>intro f _;rfl
  | cons p r n=>
   intro f j;let e:Wm b (p::r) f=Wm b r (if p.2==.free then (p.1,(b.cells.lookup p.1).getD 0)::f else f):=rfl
   rw[List.forIn_cons,e]
   cases o:(p.2==NameKind.free) with
   | true=>
    let⟨c,m⟩:=j p zS (eq_of_beq o);let g:cellOf b p.1=pure c:=by unfold cellOf;rw[m]
    simp only[if_true,g,pure_bind];rw[n _ λq k=>j q (zQ _ k),m];rfl
   | false=>
    simp only[xE,if_false,pure_bind];exact n _ λq k=>j q (zQ _ k)
 have:=i d.names [] h;simpa [closureFor] using this
theorem Ht{a:Env}:∀{l:List (Str×NameKind)}{b:jD}{x:Str}{c:ak},MX a l->(Wm a l b).lookup x=some c->b.lookup x=some c\/a.cells.lookup x=some c
 | [],_,_,_,_,h=>.inl h
 | p::r,b,x,c,hf,h=>by
  let i:(Wm a r (if p.2==.free then (p.1,(a.cells.lookup p.1).getD 0)::b else b)).lookup x=some c:=h
  rcases Ht (λq j=>hf q (zQ _ j)) i with q | q
  ·cases f:(p.2==NameKind.free) with
   | true=>
    rw[f,aM rfl,xC] at q
    cases e:x==p.1 with
    | true=>
     rw[e] at q;let⟨d,g⟩:=hf p zS (eq_of_beq f);refine .inr ?_;rw[eq_of_beq e,g];rw[g] at q;exact q
    | false=>
     rw[e] at q;exact .inl q
   | false=>
    rw[f,aK zT] at q;exact .inl q
  ·exact .inr q
theorem Fw{a:Env}{x:Str}:∀{l:List (Str×NameKind)}{b:jD},(b.lookup x).isSome=true->((Wm a l b).lookup x).isSome=true
 | [],_,h=>h
 | p::r,b,h=>by
  show ((Wm a r (if p.2==.free then (p.1,(a.cells.lookup p.1).getD 0)::b else b)).lookup x).isSome=true
  refine Fw ?_
  cases c:(p.2==NameKind.free) with
  | true=>
   rw[aM rfl,xC]
   cases e:x==p.1 with
   | true=>rfl
   | false=>exact h
  | false=>rw[aK zT];exact h
theorem D4{a:Env}{x:Str}:∀{l:List (Str×NameKind)}{b:jD},(x,NameKind.free)∈l->((Wm a l b).lookup x).isSome=true
 | [],_,h=>by cases h
 | p::r,b,h=>by
  show ((Wm a r (if p.2==.free then (p.1,(a.cells.lookup p.1).getD 0)::b else b)).lookup x).isSome=true
  rcases zL.mp h with e | h
  ·subst e;refine Fw ?_;show (wH x ((x,(a.cells.lookup x).getD 0)::b)).isSome=true;rw[xC,beq_self_eq_true];rfl
  ·exact D4 h
def XB(a:Env)(b:jD):Prop:=∀ x c,b.lookup x=some c->a.cells.lookup x=some c
theorem XB.get{a:Env}{b:jD}{x:Str}{c:ak}(h:XB a b)(e:b.lookup x=some c):a.cells.lookup x=some c:=h x c e
theorem FK{a:Env}{l:List (Str×NameKind)}(h:MX a l):XB a (Wm a l []):=λx c e=>by
 rcases Ht h e with q | q
 ·cases q
 ·exact q
theorem Hr{env:Env}:∀{names:List (Str×NameKind)}{x:Str},names.lookup x=some .free ->
  (names.map fun(n,k)=>if (k==NameKind.free&&env.scope.kind==.function&&env.kindOf n==some .cell) then (n,NameKind.cell) else (n,k)).lookup x=some .cell \/
  (names.map fun(n,k)=>if (k==NameKind.free&&env.scope.kind==.function&&env.kindOf n==some .cell) then (n,NameKind.cell) else (n,k)).lookup x=some .free
 | [],_,h=>by simp at h
 | (n,k)::r,x,h=>by
  rw[xC] at h;simp only[yV]
  cases a:x==n with
  | true=>
   rw[a] at h;cases h;split
   ·exact .inl (by rw[xC,a])
   ·exact .inr (by rw[xC,a])
  | false=>
   rw[a] at h;let b:=Hr (env:=env) h;split
   ·rw[xC,a];exact b
   ·rw[xC,a];exact b
theorem EA{env:Env}:∀{names:List (Str×NameKind)}{x:Str},(∀ y∈names,y.2≠.cell) ->
  ((names.map fun(n,k)=>if (k==NameKind.free&&env.scope.kind==.function&&env.kindOf n==some .cell) then (n,NameKind.cell) else (n,k)).lookup x=some .cell \/
  (names.map fun(n,k)=>if (k==NameKind.free&&env.scope.kind==.function&&env.kindOf n==some .cell) then (n,NameKind.cell) else (n,k)).lookup x=some .free)->(x,NameKind.free)∈names
 | [],_,_,h=>by simp at h
 | (n,k)::r,x,hc,h=>by
  let e:∀ y∈r,y.2≠.cell:=λy f=>hc y (zQ _ f);simp only[yV] at h
  cases b:x==n with
  | true=>
   let c:=eq_of_beq b;subst c;by_cases a:k=.free
   ·subst a;exact zS
   ·let d:(k==NameKind.free)=false:=by simpa using a
    simp only[d,vV,xE,if_false,xC,beq_self_eq_true] at h;rcases h with h | h
    ·exact absurd (yT.inj h) (hc _ zS)
    ·exact absurd (yT.inj h) a
  | false=>
   refine zQ _ (EA (env:=env) e ?_);split at h
   ·simpa only [xC,b] using h
   ·simpa only [xC,b] using h
def YN(X:Cx)(a:aE):jk->jp->Prop
 | [],[]=>True
 | i::is,y::ys=>X.N[i]? = some y/\(X.env.kindOf y=some .cell\/X.env.kindOf y=some .free)/\a.names.lookup y=some .free/\YN X a is ys
 | _,_=>False
theorem YN.len{X:Cx}{a:aE}:∀{b:jk}{c:jp},YN X a b c->b.length=c.length
 | [],[],_=>rfl
 | _::_,_::_,h=>congrArg (· + 1) h.2.2.2.len
theorem YN.get{X:Cx}{a:aE}:∀{b:jk}{c:jp}{j:Nat}{y:Str},YN X a b c->c[j]? = some y ->
  ∃ i,b[j]? = some i/\X.N[i]? = some y/\(X.env.kindOf y=some .cell\/X.env.kindOf y=some .free)/\a.names.lookup y=some .free
 | [],[],_,_,_,h=>by simp at h
 | i::_,z::_,0,y,f,h=>by
  simp at h;subst h;exact⟨i,Z,f.1,f.2.1,f.2.2.1⟩
 | _::b,_::c,j+1,y,f,h=>by
  let⟨i,e,r⟩:=YN.get (j:=j) f.2.2.2 (by simpa using h)
  exact⟨i,by simpa using e,r⟩
def Wl(X:Cx)(N:jp)(a:aE)(b:jD)(C:ak)(s:am)(H:Hp)(c:jB)(E:ja):Cx where
 prog:=X.prog
 w:=X.w
 K:=X.K
 mg:=X.mg
 base:=X.base
 A:=X.A
 N:=N
 s₀:=s
 H₀:=H
 env:=compEnvC a b C X.env
 outer:=X.stack
 stack:=X.stack
 ex:=c
 fn:=λ_=>false
 calm:=X.calm
 pn:=[]
 xe:=E
def Nl(b:St)(a:jk)(x:V):St:=some x::a.map λi=>(b[i]?).join
def O9(X:Cx)(b:jw)(e:TT):Prop:=
 ∀(a:jq)(s:am)(d:St)(H:Hp)(Q:Bool->Hp->Prop),ZG X a d H s->e d H Q ->
  aB (aA X.prog X.w) X.A (forIn b true λc r=>if r=true then do let ok<-isTrue c X.env (aG c X.env);pure (ForInStep.yield ok) else pure (ForInStep.yield r)) (TP X a d Q) X.xe s
def LR:TT:=λ_ H Q=>Q true H
theorem Wc{X:Cx}:O9 X [] LR:=λ_ _ _ H _ I h=>wpAny_tests_nil ⟨H,I,h⟩
theorem HV{X:Cx}{c:Expr}{t:TT}(h:PT X c t):O9 X [c] t:=λa s d H Q I b=>wpAny_tests_one (h a s d H Q I b)
def Vn(J:It)(j:St)(h:jk)(l:TT)(k:TE)(e:Hp)(Q:VK):Prop:=
 ∀ D,e D=none->∃ W:Nat->Nat->Hp->Prop,(∃ m,W 0 m (upd e D (.lst [])))/\∀ i m H,W i m H ->
  (J.stop i H/\Q (.ref D) H)\/(J.go i H/\∀ x d,J.yld i H x d->l (Nl j h x) d λc f=>
   if c=true then k (Nl j h x) f λy g=>∃ b a,g D=some (.lst b)/\b.length<ar/\a<m/\W (i+1) a (upd g D (.lst (b++[y])))
   else ∃ a,a<m/\W (i+1) a f)
def Fb(f:TI)(c:jk)(e:TT)(d:TE):TE:=λa H Q=>f a H λJ b=>Vn J a c e d b Q
section
variable{ki:jq}{σ:St}{H:Hp}
theorem Ag{b:jk}{j:Nat}{v:V}(h:(b.map λi=>(σ[i]?).join)[j]? = some (some v)):∃ i,b[j]? = some i/\σ[i]? = some (some v):=by
 rw[zC] at h
 cases e:b[j]? with
 | none=>rw[e] at h;cases h
 | some i=>
  rw[e] at h;let a:(σ[i]?).join=some v:=yT.inj h;exists i,Z
  cases q:σ[i]? with
  | none=>rw[q] at a;cases a
  | some o=>
   rw[q] at a
   cases o with
   | none=>cases a
   | some z=>cases a;rfl
def Nu(a:Env)(l:List (Str×NameKind)):Bool:=l.all λp=>!(p.2==.free) || a.kindOf p.1==some .cell || a.kindOf p.1==some .free
theorem CW{X:Cx}{l:List (Str×NameKind)}(a:X.Ok)(h:Nu X.env l=true):MX X.env l:=λp c b=>by
 let q:=xY.mp h p c;rw[b] at q;let d:(X.env.kindOf p.1==some .cell || X.env.kindOf p.1==some .free)=true:=by simpa using q
 rcases Bool.or_eq_true_iff.mp d with q | q
 ·exact a.has p.1 (.inl (eq_of_beq q))
 ·exact a.has p.1 (.inr (eq_of_beq q))
def Nm(a:aE)(x:Str):Bool:=a.kind==.function&&a.names.lookup x==some .local&&a.names.all (λp=>!(p.2==.cell))&&a.names.all (λp=>!(p.2==.local) || a.names.lookup p.1==some .local)
structure Pr(scope:aE)(x:Str):Prop where
 kind:scope.kind=.function
 own:scope.names.lookup x=some .local
 cell:∀ y∈scope.names,y.2≠.cell
 names:∀ y∈scope.names,y.2=.local->scope.names.lookup y.1=some .local
theorem KJ{a:aE}{x:Str}(h:Nm a x=true):Pr a x:=by
 unfold Nm at h;rw[zF,zF,zF] at h;let⟨⟨⟨c,d⟩,e⟩,f⟩:=h;refine⟨eq_of_beq c,eq_of_beq d,λy b z=>?_,λy b z=>?_⟩
 ·have:=xY.mp e y b;rw[z] at this;cases this
 ·have:=xY.mp f y b;rw[z] at this;let q:(a.names.lookup y.1==some NameKind.local)=true:=by simpa using this
  exact eq_of_beq q
theorem Ds{a:aE}{b:Env}(d:∀ y∈a.names,y.2≠.cell)(y:Str)(h:(relabel a b).names.lookup y=some .cell\/(relabel a b).names.lookup y=some .free):∃ c,(Wm b a.names []).lookup y=some c:=
 sT.mp (D4 (EA d h))
def Hw(i:Nat)(t:TE):TS:=λD σ H=>t σ H λv a=>D.nx (σ.set i (some v)) a
end
def M5(b:jp)(c:St)(a:jk):St:=b.map (λ_=>(none:jg))++a.map λi=>(c[i]?).join
def J0(J:It)(k:Nat)(g:TG)(p:St)(n:jk)(s:TT)(r:TE)(h:Hp)(Q:VK):Prop:=
 ∀ D,h D=none->∃ W:Nat->Nat->Hp->Prop,(∃ m,W 0 m (upd h D (.lst [])))/\∀ i m H,W i m H ->
  (J.stop i H/\Q (.ref D) H)\/(J.go i H/\∀ x f,J.yld i H x f->∀ o:St,o.length=k->g x (o++n.map λi=>(p[i]?).join) f λa q=>(∃ d:St,d.length=k/\a=d++n.map λi=>(p[i]?).join)/\s a q λc j=>
   if c=true then r a j λy l=>∃ e b,l D=some (.lst e)/\e.length<ar/\b<m/\W (i+1) b (upd l D (.lst (e++[y])))
   else ∃ b,b<m/\W (i+1) b j)
def Er(k:Nat)(g:TG)(f:TI)(c:jk)(e:TT)(d:TE):TE:=λa H Q=>f a H λJ b=>J0 J k g a c e d b Q
section
variable{ki:jq}{σ:St}{H:Hp}
theorem ZKh{t K:jp}{J:jk}{a:aE}{L:jD}{fp:jB}{E:ja}{g:aD}{D C n tk:Nat}{m:jc}(I:ZG X ki σ H s)(N:∀ b∈fp,VL X ki H b/\b<s.heap.objs.size)(f:XB X.env L)(B:a.kind=.function)(w:∀ y,((relabel a X.env).names.lookup y=some .cell\/(relabel a X.env).names.lookup y=some .free)->∃ c,L.lookup y=some c)(fo:YN X a J K)(M:s.heap.objs.size<=D)(R:s.heap.objs.size<=C)(S:D≠C)(T:g.Ns C m)(k:∀ b o,s.heap.get? b=some o->g.get? b=some o)(hd:g.get? D=some { cls:=.type "list",data:=.seq ([]:je).toArray n }):
  ZG (Wl X (t++K) a L C s H fp E) [] (M5 t σ J) (upd H D (.lst [])) { s with heap:=g,toks:=tk }:=by
 let d:∀ y c,L.lookup y=some c->c<s.heap.objs.size:=λy c e=>by
  let⟨v,q⟩:=I.cell y c (f.get e);exact q.lt
 refine⟨⟨I.ok.mod,B,I.ok.glob,I.ok.blt,R,λy z c h1 h2=>I.ok.inj y z c (f.get h1) (f.get h2),w,λy c h _=>absurd h (by simp[Wl]),I.ok.hd,I.ok.frames,.inl Z,λb G=>⟨?_,λy c e=>?_⟩,I.bs,zO I.ok.bsz I.sz,λb o e G=>?_,λb G z=>?_,I.stack,I.stkFree⟩,
  Z,I.bare,Un.laid k M (I.hok.fresh M),⟨m,T,λj y v e1 e2 F=>?_⟩,λy c e=>?_,?_,λy c e=>?_,λp hp=>absurd (show p∈([]:jq) from hp) (by simp),I.hok.laid k M ?_,?_⟩
 ·exact yK (yU (N b G).2 R)
 ·exact(N b G).1.2.2.2.2.1 y c (f.get e)
 ·let⟨_,_,_,z,_⟩:=(N b G).1;rcases z with z | z
  ·exact I.ok.noex b o e z
  ·exact absurd (yU (zG (I.ok.bs b o e).1) z) (vW _)
 ·let⟨_,z1,z2,_⟩:=(N b G).1;rcases zL.mp (I.stkSub b z) with q | q
  ·exact z1 q
  ·exact z2 q
 ·by_cases O:j<t.length
  ·exfalso
   let F:(t.map (λ_=>(none:jg))++J.map λi=>(σ[i]?).join)[j]? = some (some v):=e2;rw[wM (by rw[zX];exact O),zC,zV O] at F
   cases F
  ·let Y:(t++K)[j]? = some y:=e1;let P:K[j-t.length]? = some y:=by rw[wZ (wS O)] at Y;exact Y
   let F:(t.map (λ_=>(none:jg))++J.map λi=>(σ[i]?).join)[j]? = some (some v):=e2;let Q:(J.map λi=>(σ[i]?).join)[j-t.length]? = some (some v):=by
    rw[wZ (by rw[zX];exact wS O),zX] at F
    exact F
   let⟨i,q1,q2⟩:=Ag Q;let⟨i',p1,p2,x,W⟩:=fo.get P;rw[q1] at p1;cases p1;let p4:(relabel a X.env).names.lookup y=some .cell\/(relabel a X.env).names.lookup y=some .free:=Hr W;let⟨c,p5⟩:=w y p4;let⟨m0,a0,hl⟩:=I.loc;let⟨u,r,l⟩:=hl i y v p2 q2 (.inr x);refine⟨u,r,.inr ⟨p4,c,p5,?_⟩⟩;rcases l with ⟨l1,_⟩ | ⟨_,c',l2,l3⟩
   ·rcases x with x | x
    ·rw[l1] at x;cases x
    ·rw[l1] at x;cases x
   ·rw[f.get p5] at l2;cases l2;let⟨o,U,A⟩:=l3;exact⟨o,k _ _ U,A⟩
 ·let⟨v,o,U,A⟩:=I.cell y c (f.get e);exact⟨v,o,k _ _ U,A⟩
 ·show upd H D (.lst []) C=none;rw[ZQ (Ne.symm S)];exact I.hok.fresh R
 ·show upd H D (.lst []) c=none;rw[ZQ (yK (yU (d y c e) M))];exact I.freeC y c (f.get e)
 ·exact⟨zM _,[],n,.nil,hd⟩
 ·show (M5 t σ J).length=(t++K).length;unfold M5;rw[zW,zX,zX,fo.len,zW]
def CO(k:Nat)(c:jk)(σ a:St):Prop:=∃ b:St,b.length=k/\a=b++c.map λi=>(σ[i]?).join
inductive Iv(Y:Cx)(k:Nat)(f:jk)(σ:St)(g:Nat->aD->Prop)(e:jB)(W:Nat->Nat->Hp->Prop)(n:Nat)(d:am):Prop
 |mk(i:Nat)(a:St)(c:Hp):ZG Y [] a c d->CO k f σ a->g i d.heap->(∀ b∈e,c b=none)->W i n c->Iv Y k f σ g e W n d
theorem CD{elt iter tg:Expr}{xs:jp}{g:TG}{ifs:jw}{scope:aE}{cl:jD}{pos:Pos}{ix:jk}{ys:jp}{tt:TT}{te:TE}{it:ak}{fp:jB}{tn:Nat->aD->Prop}{J:It}{Q:VK}{E:ja}{RR:aj->ak->Result->am->Prop}(hc:X.calm=true)(hg:∀ C s H fp E,PG (Wl X (xs++ys) scope cl C s H fp E) tg g)(ht:∀ C s H fp E,O9 (Wl X (xs++ys) scope cl C s H fp E) ifs tt)(he:∀ C s H fp E,PE (Wl X (xs++ys) scope cl C s H fp E) elt te)(sub:XB X.env cl)(hkind:scope.kind=.function)(hcell:∀ y∈scope.names,y.2≠.cell)(hhas:∀ y,((relabel scope X.env).names.lookup y=some .cell\/(relabel scope X.env).names.lookup y=some .free)->∃ c,cl.lookup y=some c)(fo:YN X scope ix ys)(I:ZG X ki σ H s)(T:Vu X.prog X.w X.K tg J fp it tn)(st:tn 0 s.heap)(hf:∀ b∈fp,VL X ki H b)(q:J0 J xs.length g σ ix tt te H Q)(hRR:∀ D C s' H' m,s.heap.objs.size<=C->ZG X ki σ H' s'->VL X ki H' C->s'.heap.Ns C m->Q (.ref D) H'->RR (.ref D) C (.ok .next) s'):
  aB (aA X.prog X.w) X.A (newList []) (λacc s₃=>aB (aA X.prog X.w) X.A (newFunctionEnv scope X.env.globals cl [] X.env.qual none .none (some X.env)) (λcenv s₄=>
   codeAny (aA X.prog X.w) X.A (.compStart (.ListComp elt [⟨tg,iter,ifs,0⟩] scope pos) 0 (.ref it) acc { cenv with scope:=relabel scope X.env }) (RR acc cenv.locals) s₄) E s₃) E s:=by
 refine wpAny_newObj_type (wpAny_newFunctionEnv hcell (by intro y hy;simp at hy) (λh₁ hns₁ hsb₁=>?_) hkind)
 dsimp only at hns₁ hsb₁⊢;generalize hH2:s.heap.push { cls:=.type "list",dict:=none,data:=.seq ([]:je).toArray }=H2 at hns₁ hsb₁⊢;let hC:H2.objs.size=s.heap.objs.size+1:=by rw[<-hH2,rH]
 let hDC:s.heap.objs.size≠H2.objs.size:=by rw[hC];exact yK (wR _)
 let hCle:s.heap.objs.size<=H2.objs.size:=by rw[hC];exact tV _
 let below:∀ b,b<s.heap.objs.size->b≠H2.objs.size/\b≠s.heap.objs.size:=λb hb=>⟨by rw[hC];exact yK (Nat.lt_succ_of_lt hb),yK hb⟩
 let old:∀ b o,s.heap.get? b=some o->h₁.get? b=some o:=λb o e=>hsb₁.extBut b o (below b (zG e)).1 (zA _ (hH2 ▸ zA _ e));let hacc:∃ n,h₁.get? s.heap.objs.size=some { cls:=.type "list",data:=.seq ([]:je).toArray n }:=⟨_,hsb₁.extBut _ _ hDC (zA _ (hH2 ▸ yO _ rfl))⟩;let⟨nD,hacc⟩:=hacc;let hf':∀ b∈fp,VL X ki H b/\b<s.heap.objs.size:=λb hb=>⟨hf b hb,by let⟨o,e,_⟩:=T.obj 0 _ st b hb;exact zG e⟩
 let hDn:H s.heap.objs.size=none:=I.hok.fresh (zY _);let⟨W,⟨m0,w0⟩,turn⟩:=q _ hDn;generalize hE:notedBy (aA X.prog X.w) X.A (compEnvC scope cl H2.objs.size X.env) (λe s'=>RR (.ref s.heap.objs.size) H2.objs.size (.error e) s')=EE;let I0:ZG (Wl X (xs++ys) scope cl H2.objs.size s H fp EE) [] (M5 xs σ ix) (upd H s.heap.objs.size (.lst [])) { s with heap:=h₁,toks:=s.toks+([]:jH).length }:=
  ZKh I hf' sub hkind hhas fo (zY _) hCle hDC hns₁ old hacc
 let st1:tn 0 h₁:=T.keep _ _ _ st λb _ o e=>old b o e;let fr1:∀ b∈fp,upd H s.heap.objs.size (.lst []) b=none:=λb hb=>by rw[ZQ (below b (hf' b hb).2).2];exact(hf b hb).1
 let stat:∀{H':Hp},(∀ b∈fp,H' b=none)->∀ b∈fp,VL (Wl X (xs++ys) scope cl H2.objs.size s H fp EE) [] H' b:=λhn b hb=>
  ⟨hn b hb,(I0.ok.exf b hb).1,I0.ok.exfs b hb,.inl hb,(I0.ok.exf b hb).2,λp hp=>absurd (show p∈([]:jq) from hp) (by simp)⟩
 let loop:∀ s₃:am,s₃={ s with heap:=h₁,toks:=s.toks+([]:jH).length } ->
   codeAny (aA X.prog X.w) X.A (.compLoop (.ListComp elt [⟨tg,iter,ifs,0⟩] scope pos) 0 (.ref it) (.ref s.heap.objs.size) (compEnvC scope cl H2.objs.size X.env)) (RR (.ref s.heap.objs.size) H2.objs.size) s₃:=by
  rintro s₃ rfl;refine ZGV (Iv (Wl X (xs++ys) scope cl H2.objs.size s H fp EE) xs.length ix σ tn fp W) ?_ m0 ⟨0,_,_,I0,⟨_,zX _,Z⟩,st1,fr1,w0⟩;rintro n s3 ⟨i,σ3,H3,I3,⟨o3,ho3,hσ3⟩,st3,fr3,w3⟩;rw[hE];rcases turn i n H3 w3 with ⟨stop,qn⟩ | ⟨go,step⟩
  ·refine Z3 (T.done (Wl X (xs++ys) scope cl H2.objs.size s H fp EE) Z Z Z hc i [] s3 σ3 H3 EE I3 (stat fr3) st3 stop) ?_;rintro r s4 ⟨hr,I4⟩;subst hr;let⟨m4,hn4,_⟩:=I4.loc;let Ix:ZG X ki σ H3 s4:=I.call' (s':=s4) (ch:=fp) I4.os I4.base I4.hok I4.bare λb hb=>by
    let⟨_,z1,_,z3,z4,z5⟩:=hf b hb;exact⟨z3,z1,z4,z5⟩
   exact hRR _ _ s4 H3 m4 hCle Ix (I.fpOk hCle I4.free) hn4 qn
  ·refine Z3 (T.item (Wl X (xs++ys) scope cl H2.objs.size s H fp EE) Z Z Z hc i [] s3 σ3 H3 EE I3 (stat fr3) st3 go) ?_;rintro r s4 ⟨u,hr,h4⟩;subst hr;refine Z3 h4 ?_;rintro _ s5 ⟨xv,H5,I5,r5,y5,st5,fr5⟩;let I5':=I5.pinned (stat fr5) (T.obj _ _ st5);let again:∀{σ7:St}{H7:Hp}{s7:am}{m':Nat},ZG (Wl X (xs++ys) scope cl H2.objs.size s H fp EE) ([]++Mh fp s5.heap) σ7 H7 s7->CO xs.length ix σ σ7->m'<n->W (i+1) m' H7 ->
     ∃ m,m<n/\Iv (Wl X (xs++ys) scope cl H2.objs.size s H fp EE) xs.length ix σ tn fp W m s7:=fun{σ7 H7 s7 m'} I7 e7 hm w7=>by
    refine⟨m',hm,.mk (i+1) σ7 H7 I7.unpinned e7 (T.keep _ _ _ st5 λb hb o e=>(I7.pin (b,o) (yM _ (yM _ (KD hb e)))).1) (λb hb=>?_) w7⟩;let⟨o,e,d⟩:=T.obj _ _ st5 b hb;exact(I7.pin (b,o) (yM _ (yM _ (KD hb e)))).2.1
   let stp:=step xv _ y5 o3 ho3;rw[<-hσ3] at stp;refine Z3 (hg _ _ _ _ _ _ s5 σ3 H5 xv u _ I5' r5 stp) ?_;rintro _ s6 ⟨σ6,H6,I6,e6,q6⟩;refine Z3 (ht _ _ _ _ _ _ s6 _ _ _ I6 q6) ?_;rintro ok s7 ⟨H7,I7,q7⟩
   cases ok with
   | false=>
    rw[aK zT] at q7⊢;let⟨m',hm,w7⟩:=q7;exact again I7 e6 hm w7
   | true=>
    rw[aM rfl] at q7⊢;refine Z3 (he _ _ _ _ _ _ s7 _ _ _ I7 q7) ?_;rintro y s8 ⟨yv,H8,I8,r8,ys8,m',e8,z8,hm,w8⟩;refine Z3 (OB _ s8 _ H8 (.ref s.heap.objs.size) [yv] (.ref s.heap.objs.size) [y] (λ_ H9=>W (i+1) m' H9) I8 Z (.cons r8 .nil) ⟨_,ys8,yv,Z,Z,e8,z8,w8⟩) ?_;rintro _ s9 ⟨_,H9,I9,_,w9⟩;exact again I9 e6 hm w9
 exact codeAny_compStart_list (loop _ Z) (T.self _ 0 _ _ _ st1 (loop _ rfl))
theorem B2{f c r:Expr}(j:jp)(x:Str){g:TG}{i:jw}{a:aE}{pos:Pos}{z:TI}{y:TT}{u:TE}(t:jk)(k:jp)(hc:X.calm=true)(hg:∀ C s H d E,PG (Wl X (j++k) a (Wm X.env a.names []) C s H d E) r g)(hi:PI X r c z)(ht:∀ C s H d E,O9 (Wl X (j++k) a (Wm X.env a.names []) C s H d E) i y)(he:∀ C s H d E,PE (Wl X (j++k) a (Wm X.env a.names []) C s H d E) f u)(V:YN X a t k)(hk:Nu X.env a.names=true:=by rfl)(n:Nm a x=true:=by rfl)(hs:∀ x,foldedSetIterable c X.env x=pure x:=by intro _;rfl):
  PE X (.ListComp f [⟨r,c,i,0⟩] a pos) (Er j.length g z t y u):=by
 intro ki s σ H Q I h;let B:=KJ n;let F:=CW I.ok hk;rw[eval_ListComp];refine wpAny_comprehension_free (use:=none) Z hs (Dl F) B.kind B.names (Z3 (hi ki s σ H _ I h) λv s1 W=>Z3 W λa0 s2 Y=>?_);let⟨it,d,tn,J,H2,e,K,T,p,O,q2⟩:=Y;subst e;refine CD (RR:=λl C=>compPost (aA X.prog X.w) X.A X.xe none (EP X ki σ Q) l C) hc hg ht he (FK F) B.kind B.cell (Ds B.cell) V K T p O q2 ?_;intro D C s' G m hC L U hn q;refine⟨m,hn,λh' sb=>⟨.ref D,G,?_,Z,q⟩⟩;let⟨M,N,_,P,R,S⟩:=U;exact L.turned (t':=s'.toks) (λb o n e=>(sb.2 b n).trans e) M N P R S
theorem ZGX{f d t:Expr}(u:jp)(x:Str){g:TG}{y:Str}{n:Pos}{j:jw}{c:aE}{pos k:Pos}{wi:TI}{tt:TT}{te:TE}{i:Nat}(Y:jk)(G:jp)(hN:X.N.Nodup)(M:X.N[i]? = some y)(W:X.env.scope.names.lookup y=some .local)(hc:X.calm=true)(hg:∀ C s H l E,PG (Wl X (u++G) c (Wm X.env c.names []) C s H l E) t g)(hi:PI X t d wi)(ht:∀ C s H l E,O9 (Wl X (u++G) c (Wm X.env c.names []) C s H l E) j tt)(he:∀ C s H l E,PE (Wl X (u++G) c (Wm X.env c.names []) C s H l E) f te)(fo:YN X c Y G)(O:swapsWith (.ListComp f [⟨t,d,j,0⟩] c pos) (some (.Name y n)) k.line X.env=pure true:=by rfl)(hk:Nu X.env c.names=true:=by rfl)(L:Nm c x=true:=by rfl)(hs:∀ x,foldedSetIterable d X.env x=pure x:=by intro _;rfl):
  PS X (.Assign [.Name y n] (.ListComp f [⟨t,d,j,0⟩] c pos) k) (Hw i (Er u.length g wi Y tt te)):=by
 intro ki s σ H D I h;let B:=KJ L;let F:=CW I.ok hk;rw[exec_Assign_Name_used _ _ _ _ O];refine aa (wpAny_standAt (aa ?_));show aB _ X.A (do let _<-comprehension (.ListComp f [⟨t,d,j,0⟩] c pos) c X.env _ (newList []) false (aG d X.env) (some (assign (.Name y n) X.env))) _ _ s
 refine aa (ae (wpAny_comprehension_free (use:=some (assign (.Name y n) X.env)) (Q:=λ_ r=>SP X ki D .next r) rfl hs (Dl F) B.kind B.names
  (Z3 (hi ki s σ H _ I h) λv s1 h1=>Z3 h1 λa0 s2 h2=>?_)) (λ_ r hq=>ad (ad hq)) λ_ _ e=>e)
 let⟨it,l,tn,J,H2,e,I2,T,R,f2,q2⟩:=h2;subst e;refine CD (RR:=λK C=>compPost (aA X.prog X.w) X.A X.xe (some (assign (.Name y n) X.env)) (λ_ r=>SP X ki D .next r) K C) hc hg ht he (FK F) B.kind B.cell (Ds B.cell) fo I2 T R f2 q2 ?_;intro S C r H' m hC Ix fC hn q;let⟨f0,U,_,f3,V,f5⟩:=fC;show aB _ X.A (assign (.Name y n) X.env (.ref S)) _ _ _;refine wpAny_assign_Name (Ea Ix hN M (.inl W) (v:=.ref S) Z (λs3 I3 ⟨a,sb,p⟩=>?_) (.inr W));let ne:C≠a:=by
  rcases p with p | p
  ·rw[p];exact U
  ·exact λz=>V y a p z.symm
 refine⟨m,hn.sameBut sb ne,λh' P=>⟨_,H',?_,q⟩⟩;exact I3.turned (t':=s3.toks) (λb o L e=>(P.2 b L).trans e) f0 U f3 V f5
theorem Vn.toT{J:It}{a:jk}{c:TT}{b:TE}{Q:VK}(h:Vn J σ a c b H Q):J0 J 1 (OC 0) σ a c b H Q:=λD f=>by
 let⟨W,e,j⟩:=h D f;refine⟨W,e,λi m H k=>(j i m H k).imp id λq=>⟨q.1,λx d y l g=>?_⟩⟩;let⟨_,rfl⟩:=List.length_eq_one_iff.mp g;exact⟨⟨[some x],Z,Z⟩,q.2 x d y⟩
inductive Mq(c:TI)(σ:L2.St)(H:Hp)(K:It->Hp->Prop):Prop
 |mk(b:It->Hp->Prop)(_:c σ H b)(_:∀ J a,b J a->K J a)
theorem PI.more{i g:Expr}{j:TI}(h:PI X i g j):PI X i g (Mq j):=λki s σ H R I ⟨l,n,f⟩=>
 ae (h ki s σ H l I n) (λ_ _ z=>ae z (by rintro _ _ ⟨o,m,p,J,k,a,b,c,d,e,r⟩;exact⟨o,m,p,J,k,a,b,c,d,e,f _ _ r⟩) λ_ _ z=>z) λ_ _ z=>z
theorem VJ{c b:Expr}{x:Str}{n:Pos}{d:jw}{a:aE}{pos:Pos}{q:TI}{p:TT}{o:TE}(k:jk)(e:jp)(t:X.calm=true)(v:PI X (.Name x n) b q)(A:∀ C s H f E,O9 (Wl X (x::e) a (Wm X.env a.names []) C s H f E) d p)(u:∀ C s H f E,PE (Wl X (x::e) a (Wm X.env a.names []) C s H f E) c o)(r:YN X a k e)(w:Nu X.env a.names=true:=by rfl)(l:Nm a x=true:=by rfl)(j:(x::e).Nodup:=by decide +kernel)(y:∀ x,foldedSetIterable b X.env x=pure x:=by intro _;rfl):
  PE X (.ListComp c [⟨.Name x n,b,d,0⟩] a pos) (Fb q k p o):=by
 intro ki s σ H Q I h;let m:(relabel a X.env).names.lookup x=some .local:=lookup_relabel_local (KJ l).own;exact B2 [x] x (g:=OC 0) k e t (λ_ _ _ _ _=>IU (i:=0) j Z (Or.inl m) (Or.inr m)) (PI.more v) A u r w l y ki s σ H Q I ⟨_,h,λ_ _ z=>Vn.toT z⟩
theorem O8{d b:Expr}{x y:Str}{o r:Pos}{e:jw}{a:aE}{pos c:Pos}{v:TI}{u:TT}{t:TE}{i:Nat}(n:jk)(f:jp)(A:X.N.Nodup)(k:X.N[i]? = some y)(M:X.env.scope.names.lookup y=some .local)(B:X.calm=true)(G:PI X (.Name x o) b v)(L:∀ C s H j E,O9 (Wl X (x::f) a (Wm X.env a.names []) C s H j E) e u)(F:∀ C s H j E,PE (Wl X (x::f) a (Wm X.env a.names []) C s H j E) d t)(w:YN X a n f)(m:swapsWith (.ListComp d [⟨.Name x o,b,e,0⟩] a pos) (some (.Name y r)) c.line X.env=pure true:=by rfl)(J:Nu X.env a.names=true:=by rfl)(p:Nm a x=true:=by rfl)(l:(x::f).Nodup:=by decide +kernel)(K:∀ x,foldedSetIterable b X.env x=pure x:=by intro _;rfl):
  PS X (.Assign [.Name y r] (.ListComp d [⟨.Name x o,b,e,0⟩] a pos) c) (Hw i (Fb v n u t)):=by
 intro ki s σ H D I h;let q:(relabel a X.env).names.lookup x=some .local:=lookup_relabel_local (KJ p).own;exact ZGX [x] x (g:=OC 0) n f A k M B (λ_ _ _ _ _=>IU (i:=0) l Z (Or.inl q) (Or.inr q)) (PI.more G) L F w m J p K ki s σ H D I ⟨_,h,λ_ _ z=>Vn.toT z⟩
end
end L2
local macro_rules|`(tactic|lia)=>`(tactic|first|assumption|exact wQ ‹_› ‹_›|exact yU ‹_› ‹_›|exact zO ‹_› ‹_›|exact zO ‹_› (yN rfl)|exact yU ‹_› (yN rfl)|exact wQ ‹_› (yN rfl)|exact zO (zO ‹_› ‹_›) (yN rfl)|exact zO (xH ‹_›) (zO ‹_› (yN rfl))|exact zO (xH (Eq.symm ‹_›)) (zO ‹_› (yN rfl))|exact xX ‹_›|exact Nat.pos_of_ne_zero ‹_›|exact Nat.le_succ_of_le ‹_›|exact vI ‹_›|exact yN rfl|exact zY _|exact wT _ _|exact Nat.le_add_left _ _|exact vO _ _|exact Int.natCast_nonneg _|exact Nat.lt_of_not_le ‹_›|exact wS ‹_›|exact Int.lt_of_not_ge ‹_›|exact tM.mp ‹_›|exact tI ‹_› (wR _)|exact Nat.lt_of_lt_of_eq ‹_› (Eq.symm ‹_›)|exact Nat.lt_of_lt_of_eq ‹_› ‹_›|exact Eq.symm (Nat.succ_pred_eq_of_ne_zero ‹_›)|exact Nat.add_sub_of_le ‹_›|exact Nat.add_lt_of_lt_sub' ‹_›|exact Int.ofNat_lt.mpr ‹_›|exact wQ (wT _ _) ‹_›|exact zO (sK _ _) (vO _ _)|exact zO (sK _ _) (zO (vO _ _) ‹_›)|exact zO (vO _ _) ‹_›|exact Nat.le_sub_of_add_le' ‹_›|exact Nat.le_sub_of_add_le ‹_›|exact wF ‹_› ‹_›|exact wQ (xH ‹_›) ‹_›|lia (splits:=8))
namespace L2
open PySem PySem.Spec PyProof.Rows
inductive Ih(K:zZ)(a:jf)(H:Hp)(Q:VK):Prop
 |mk(x n t b:_)(_:a=[x,.ty n])(_:XC K H x t)(_:yC K t (.type n)=some b)(_:Q (.bl b) H)
theorem OH:Va X (.builtin "isinstance") (Ih X.K):=by
 intro a s l H k j Q I r h;let⟨x,n,t,b,rfl,g,e,q⟩:=h;let⟨u,i,rfl,d,c⟩:=LZ r;cases(show i=Value.type n from c);exact Ej I d g e λf=>⟨.bl b,H,I.tok f,Z,q⟩
theorem ZOo{K:zZ}:yC K (.type "bool") (.type "bool")=some true:=by kernel_rfl
theorem ZO6{K:zZ}:yC K (.type "int") (.type "bool")=some false:=by kernel_rfl
theorem ZPE{K:zZ}:yC K (.type "str") (.type "bool")=some false:=by kernel_rfl
theorem BT{K:zZ}:yC K (.type "tuple") (.type "bool")=some false:=by kernel_rfl
theorem Hh{K:zZ}:yC K (.type "int") (.type "int")=some true:=by kernel_rfl
theorem Iw{K:zZ}:yC K (.type "str") (.type "int")=some false:=by kernel_rfl
theorem JZ{K:zZ}:yC K (.type "tuple") (.type "int")=some false:=by kernel_rfl
theorem Ic{K:zZ}:yC K (.type "str") (.type "str")=some true:=by kernel_rfl
theorem HR{K:zZ}:yC K (.type "tuple") (.type "str")=some false:=by kernel_rfl
theorem ZOW{K:zZ}:yC K (.type "tuple") (.type "tuple")=some true:=by kernel_rfl
theorem Py:ay "isinstance" = some (.builtin "isinstance"):=by decide +kernel
theorem Jd:ay "all" = some (.builtin "all"):=by decide +kernel
theorem CC:ay "max" = some (.builtin "max"):=by decide +kernel
theorem ZOV:ay "min" = some (.builtin "min"):=by decide +kernel
theorem JM:ay "abs" = some (.builtin "abs"):=by decide +kernel
theorem XG:ay "len" = some (.builtin "len"):=by decide +kernel
theorem ZM5:ay "bool" = some (.type "bool"):=by decide +kernel
theorem NP:ay "int" = some (.type "int"):=by decide +kernel
theorem JX:ay "str" = some (.type "str"):=by decide +kernel
theorem MZ:ay "tuple" = some (.type "tuple"):=by decide +kernel
theorem Pe:ay "list" = some (.type "list"):=by decide +kernel
inductive UN(x y:V)(H:Hp)(Q:VK):Prop
 |mk(i j:_)(_:x=.str i)(_:y=.str j)(_:Q (.bl (!decide (j.cps.toList<i.cps.toList))) H)
theorem Dz:Y4 X (az .LtE) (UN):=by
 intro a s e H x y v u Q I b c h;let⟨i,j,rfl,rfl,q⟩:=h;let⟨t,rfl⟩:=b;let⟨d,rfl⟩:=c;exact PySem.P.le_str (Y7 I q (by simp))
inductive UL(a:zZ)(x y:V)(H:Hp)(Q:VK):Prop
 |mk(p b c:_)(_:x=.ref p)(_:y=.ref b)(_:ZF a H p c)(_:ZF a H b [])(_:Q (.bl c.isEmpty) H)
theorem Lw(f:X.A.units<cLine):Y4 X (az .Eq) (UL X.K):=by
 intro l s G H x y v u Q I B C h;let⟨p,b,D,rfl,rfl,c,o,q⟩:=h;cases B;cases C;let⟨d,w,i,E⟩:=I.list c;let⟨a,z,k,F⟩:=I.list o;let g:=w.length;let t:=z.length;let n:a=[]:=vQ (by rw[<-t];rfl)
 subst n
 cases D with
 | nil=>
  let m:d=[]:=vQ (by rw[<-g];rfl)
  subst m;exact PySem.SeqAt.eq_listAt (e:=λ_=>true) i.isList k.isList Z f (λj c _=>absurd c (by simp)) (Y7 I q (by simp))
 | cons x r=>exact PySem.SeqAt.eq_list_lengthsAt i.isList k.isList (by simp;intro e;subst e;simp at g) f (Y7 I q Z)
def ZP4(i j:Int):Prop:=0<j/\j.natAbs.log2<9000
theorem AD:Y4 X (binaryOp .FloorDiv) (rI ZP4 λi j=>.int (i / j)):=N9 λi j _ _ _ _ _ a q=>by
 let b:(0:Int)<j:=a.1;exact floordiv_int ∅ (by rw[pW i ∅];exact q) (.inl (PyProof.noPylong_of_log2 a.2))
inductive Pi(b:zZ)(c:jf)(H:Hp)(Q:VK):Prop
 |mk(p:ak)(a:List Bool)(_:c=[.ref p])(_:ZF b H p (a.map V.bl))(_:Q (.bl (a.all id)) H)
theorem HN(C:X.calm=true):Va X (.builtin "all") (Pi X.K):=by
 intro w s Y H W V Q I r h;let⟨p,a,rfl,G,q⟩:=h;let⟨u,rfl,L⟩:=UV r;cases L;let⟨c,y,k,T⟩:=I.list G;let t:=y.length;let g:p<s.heap.objs.size:=by let⟨_,e,_⟩:=k.isList;exact zG e
 let j:p≠s.heap.objs.size:=yK g;let D:=I.ok.hd C;let N:∀(i:Nat)(v:aj),c.toArray[i]? = some v->v=.bool (a.getD i true):=λi v J=>by
  let d:c[i]? = some v:=by simpa using J
  let S:i<c.length:=(yZ.mp d).1;let n:i<a.length:=by rw[zX] at t;lia
  let⟨u,l,f⟩:=y.get (i:=i) (x:=.bl a[i]) (by rw[zC,zV n];rfl)
  rw[d] at l;cases l;rw[show v=Value.bool a[i] from f,zU,zV n];rfl
 refine call_all_walk (wpAny_pyIter_list k.isList ?_);refine⟨_,_,_,_,_,_,(λi=>a.getD i true),Z,Walks.list (A:=X.A.in1) D s.heap.objs.size p j c.toArray,⟨⟨_,yO _ Z,Z,Z⟩,k.isList.push _⟩,λi v U P O z B=>?_,λR M E=>?_⟩
 ·rw[N i v z];exact wpAny_truthy_bool B
 ·let e:(yF c.toArray.size).all (λi=>a.getD i true)=a.all id:=by
   rw[zP,<-t,zX];let f:a.all id=((yF a.length).map λi=>a.getD i true).all id:=by rw[range_getD]
   rw[f,uE];rfl
  rw[e];refine⟨.bl (a.all id),H,I.kept (t':=M) λb o m=>E b o ?_ (zA _ m),Z,q⟩;intro F;exact absurd (zG m) (by rw[zH.mp F];exact vW _)
section
variable{R:Result->am->Prop}
end
def EI(x:Str):It:=⟨λi _=>i<x.cps.size,λi H v a=>a=H/\∃ c,x.cps[i]? = some c/\v=.str ⟨#[c]⟩,λi _=>i=x.cps.size⟩
theorem Ex{P:ao}{w:aw}{K:zZ}{tg:Expr}(ty:String)(hty:["enumerate","zip","dict_itemiterator","dict_reverseitemiterator","odict_iterator","itertools.zip_longest","itertools.pairwise"].contains ty=false)(x:Str)(t:Tok)(it:ak)(W:∀ A:ax,A.handled=none->Walks P w A it [it] [it] x.cps.size (SignAt x) (λi h=>h.IsStrIter it ty x t i))(self:∀ (A:ax) (i:Nat) (s:am) (Q:ja) (E:ja),s.heap.IsStrIter it ty x t i->Q (.ref it) s->aB (aA P w) A (pyIter (.ref it)) Q E s):
  Vu P w K tg (EI x) [it] it (λi h=>h.IsStrIter it ty x t i) where
 mem:=by simp
 obj:=λi h st b hb=>by
  let e:b=it:=by simpa using hb
  subst e;let⟨o,e,c,d⟩:=st;exact⟨o,e,λv z=>by rw[d] at z;cases z⟩
 keep:=λi h h' ⟨o,e,r⟩ k=>⟨o,k it (by simp) o e,r⟩
 item:=by
  intro X hP hw hK hc i ki s σ H E I hf st hg;subst hP hw hK;let⟨f0,f1,f2,f3,f4,f5⟩:=hf it (by simp)
  refine(W X.A (I.ok.hd hc)).item i s _ _ hg st λv h' tk hv st' kk=>?_;let⟨c,u,hx,rfl⟩:=hv;let I1:ZG X ki σ H { s with heap:=h',toks:=tk }:=I.turned (λb o hb e=>kk b o (by simpa using hb) e) f0 f1 f3 f4 f5
  let⟨o,e,cl,d⟩:=id st';exact⟨_,Z,Mj (s:={ s with heap:=h',toks:=tk }) e cl d hty ⟨.str ⟨#[c]⟩,H,I1,⟨u,Z⟩,⟨Z,c,hx,Z⟩,st',λb hb=>(hf b hb).1⟩⟩
 done:=by
  intro X hP hw hK hc i ki s σ H E I hf st hg;subst hP hw hK;let⟨f0,f1,f2,f3,f4,f5⟩:=hf it (by simp)
  let hi:i=x.cps.size:=hg;subst hi;exact(W X.A (I.ok.hd hc)).done s _ _ st λh' tk kk=>⟨Z,I.turned (λb o hb e=>kk b o (by simpa using hb) e) f0 f1 f3 f4 f5⟩
 self:=self
section
variable{tg:Expr}
inductive MD(R:It->Hp->Prop)(v:V)(a:Hp):Prop
 |mk(x:_)(_:v=.str x)(_:R (EI x) a)
def ZRb(b:TE):TI:=λc H R=>b c H λv a=>MD R v a
theorem An{l:Expr}{n:TE}(r:PE X l n):PI X tg l (ZRb n):=by
 intro a s w H R I h;refine Z3 (r a s w H _ I h) ?_;rintro v c ⟨z,f,d,u,x,e,q⟩;subst e;let⟨t,rfl⟩:=u;let k:∀ b∈[c.heap.objs.size],VL X a f b:=λb p=>by
  rw[zH.mp p];exact d.fpOk (zY _) (d.hok.fresh (zY _))
 cases m:x.cps.all (· < 128)
 ·exact wpAny_pyIter_wide m ⟨c.heap.objs.size,[c.heap.objs.size],_,_,f,Z,d.kept (t':=c.toks) λb o e=>zA _ e,
   Ex "str_iterator" (by decide) x t _ (λA g=>Walks.strWide g _ x t) (λA i s Q E j h=>wpAny_pyIter_striter_wide j h),⟨_,yO _ Z,Z,Z⟩,k,q⟩
 ·exact wpAny_pyIter_ascii m ⟨c.heap.objs.size,[c.heap.objs.size],_,_,f,Z,d.kept (t':=c.toks) λb o e=>zA _ e,
   Ex "str_ascii_iterator" (by decide) x t _ (λA g=>Walks.strAscii g _ x t) (λA i s Q E j h=>wpAny_pyIter_striter_ascii j h),⟨_,yO _ Z,Z,Z⟩,k,q⟩
end
section
variable{σ:St}{H:Hp}{ix:jk}{te:TE}{Q:VK}
theorem WT{J:It}{n:Nat}(d:Nat->V->Prop)(c:ak->Nat->jf->Hp->Prop)(z:n<ar)(k:∀ D i a H,i<n->c D i a H->J.go i H)(t:∀ D i a H x g,i<n->c D i a H->J.yld i H x g->g=H/\d i x)(f:∀ D a H,c D n a H->J.stop n H)(q:∀ D,H D=none->c D 0 [] (upd H D (.lst [])))(step:∀ D i a H x,H D=some (.lst a)->a.length<=i->i<n->d i x->c D i a H->∀ R:VK,(∀ y h,h D=some (.lst a)->c D (i+1) (a++[y]) (upd h D (.lst (a++[y])))->R y h)->te (Nl σ ix x) H R)(j:∀ D a H,H D=some (.lst a)->c D n a H->Q (.ref D) H):Vn J σ ix LR te H Q:=by
 intro D r;exists λi m H=>m=n-i/\i<=n/\∃ a,H D=some (.lst a)/\a.length<=i/\c D i a H,⟨n,rfl,zM _,[],ZX,zY _,q D r⟩;rintro i m H ⟨rfl,w,a,e,s,p⟩;by_cases b:i<n
 ·refine .inr ⟨k D i a H b p,λx g y=>?_⟩;let⟨rfl,u⟩:=t D i a H x g b p y;unfold LR;dsimp only;rw[aM rfl];refine step D i a _ x e s b u p _ λy h o v=>?_;exact⟨a,n-(i+1),o,∅,∅,Z,b,a++[y],ZX,by rw[zW,vY];lia,v⟩
 ·let l:i=n:=∅
  subst l;exact .inl ⟨f D a H p,j D a H e p⟩
end
end L2
namespace Tw
open PySem
inductive KT where
 | int (i:Int)
 | str (x:Str)
 | tup (l:List KT)
abbrev jo:=List KT
abbrev jI:=Option KT
mutual
def KT.depth:KT->Nat
 | .int _=>0
 | .str _=>0
 | .tup l=>1+kc l
def kc:jo->Nat
 | []=>0
 | t::r=>max t.depth (kc r)
end
mutual
def KT.size:KT->Nat
 | .int _=>1
 | .str _=>1
 | .tup l=>1+sizeL l
def sizeL:jo->Nat
 | []=>0
 | t::r=>t.size+sizeL r
end
def QQ(c:Nat):Bool:=decide (32<=c)&&decide (c<=126)
def Pm(x:Str):Bool:=decide (x.length<=40)&&x.cps.toList.all QQ
mutual
def KT.fits:KT->Nat->Bool
 | .int i,_=>decide (i.natAbs<10 ^ 60)
 | .str x,_=>Pm x
 | .tup l,r=>decide (0<r)&&(decide (l.length<=4)&&fitsL l (r-1))
def fitsL:jo->Nat->Bool
 | [],_=>true
 | t::l,r=>t.fits r&&fitsL l r
end
theorem LS(r:Nat):∀ l:jo,fitsL l r=l.all λt=>t.fits r
 | []=>by simp[fitsL]
 | t::l=>by rw[fitsL,uU,LS r l]
mutual
theorem Vv:∀(t:KT)(r:Nat),t.fits r=true->t.depth<=r
 | .int _,r,_=>by rw[KT.depth];exact zM _
 | .str _,r,_=>by rw[KT.depth];exact zM _
 | .tup l,r,h=>by
  rw[KT.fits,zF,zF] at h;let⟨h1,_,h3⟩:=h;let h1':0<r:=of_decide_eq_true h1;have:=fitsL_depth l (r-1) h3;rw[KT.depth]
  lia
theorem fitsL_depth:∀(l:jo)(r:Nat),fitsL l r=true->kc l<=r
 | [],r,_=>by rw[kc];exact zM _
 | t::l,r,h=>by
  rw[fitsL,zF] at h;let a:=Vv t r h.1;let b:=fitsL_depth l r h.2;rw[kc]
  lia
end
mutual
theorem Et:∀(t:KT)(r q:Nat),t.fits r=true->t.depth<=q->t.fits q=true
 | .int _,r,q,h,_=>by rw[KT.fits] at h⊢;exact h
 | .str _,r,q,h,_=>by rw[KT.fits] at h⊢;exact h
 | .tup l,r,q,h,hd=>by
  rw[KT.fits,zF,zF] at h⊢;let⟨h1,h2,h3⟩:=h;rw[KT.depth] at hd;exact⟨aJ ∅,h2,fitsL_more l (r-1) (q-1) h3 ∅⟩
theorem fitsL_more:∀(l:jo)(r q:Nat),fitsL l r=true->kc l<=q->fitsL l q=true
 | [],r,q,_,_=>by rw[fitsL]
 | t::l,r,q,h,hd=>by
  rw[fitsL,zF] at h⊢;rw[kc] at hd;exact⟨Et t r q h.1 ∅,fitsL_more l r q h.2 ∅⟩
end
def KT.things:KT->jo
 | .tup l=>l
 | _=>[]
def below(l:jo):jo:=l.flatMap KT.things
end Tw
namespace Tw
open PySem PySem.Spec L2
structure ZA(P:ao)(w:aw)(K:zZ)(mg:jc)(kj:aD)(k:Nat)(x:Str)(ps:jp)(sp:Sp):Prop where
 ex:∃ f fd,ZI P w K mg kj ZM k f fd ps sp/\Zv K fd ps []/\yG K (.ref f)=true/\mg x=some (.ref f)
theorem Zf{X:Cx}{k:Nat}{x:Str}{o:jp}{g:Sp}{e:Expr}{a:jw}{t:TA}{p pos:Pos}(D:ZA X.prog X.w X.K X.mg X.base k x o g)(l:ZU k X.A)(h:PA X (e::a) t)(j:Gl X x:=by rfl)(c:(x==("__debug__" : Str))=false:=by decide)(i:au (e::a) X.env=(false,aG e X.env)::au a X.env:=by rfl)(d:(aF pos (au a X.env)).any (·.1)=false:=by rfl):
  PE X (.Call (.Name x p) (e::a) [] pos) (Ki g [] E0 t):=by
 let⟨f,q,F,b,n,m⟩:=D.ex;exact Fi F l j m n b .nil YC h c i d
mutual
def ZE(H:Hp):KT->V->Prop
 | .int i,v=>v=.int i
 | .str x,v=>v=.str x
 | .tup l,v=>∃ a vs,v=.ref a/\H a=some (.tup vs)/\jX H l vs
def jX(H:Hp):jo->jf->Prop
 | [],vs=>vs=[]
 | t::l,vs=>∃ v r,vs=v::r/\ZE H t v/\jX H l r
end
def Zt(H c:Hp):Prop:=∀ b a,H b=some (.tup a)->c b=some (.tup a)
mutual
theorem ZE.mono{H H':Hp}(m:Zt H H'):∀(t:KT)(v:V),ZE H t v->ZE H' t v
 | .int _,_,h=>by rw[ZE] at h⊢;exact h
 | .str _,_,h=>by rw[ZE] at h⊢;exact h
 | .tup l,_,h=>by
  rw[ZE] at h⊢;let⟨a,vs,e,h1,h2⟩:=h;exact⟨a,vs,e,m a vs h1,jX.mono m l vs h2⟩
theorem jX.mono{H H':Hp}(m:Zt H H'):∀(l:jo)(vs:jf),jX H l vs->jX H' l vs
 | [],_,h=>by rw[jX] at h⊢;exact h
 | t::l,_,h=>by
  rw[jX] at h⊢;let⟨v,r,e,h1,h2⟩:=h;exact⟨v,r,e,ZE.mono m t v h1,jX.mono m l r h2⟩
end
def jX.nil{H:Hp}:jX H [] []:=by rw[jX]
def jX.cons{H:Hp}{t:KT}{l:jo}{v:V}{r:jf}(h:ZE H t v)(a:jX H l r):jX H (t::l) (v::r):=by
 rw[jX];exact⟨v,r,Z,h,a⟩
theorem ZE.tup{H:Hp}{a:ak}{b:jf}{l:jo}(e:H a=some (.tup b))(h:jX H l b):ZE H (.tup l) (.ref a):=by
 rw[ZE];exact⟨a,b,Z,e,h⟩
theorem ZE.int{H:Hp}(i:Int):ZE H (.int i) (.int i):=by rw[ZE]
theorem ZE.str{H:Hp}(x:Str):ZE H (.str x) (.str x):=by rw[ZE]
def jX.append{H:Hp}:∀{l m:jo}{a b:jf},jX H l a->jX H m b->jX H (l++m) (a++b)
 | [],m,a,b,h,g=>by rw[jX] at h;subst h;exact g
 | t::l,m,a,b,h,g=>by
  rw[jX] at h;let⟨v,r,rfl,c,d⟩:=h;exact .cons c (d.append g)
def jX.length{H:Hp}:∀{l:jo}{a:jf},jX H l a->l.length=a.length
 | [],a,h=>by rw[jX] at h;subst h;rfl
 | t::l,a,h=>by
  rw[jX] at h;let⟨v,r,rfl,_,b⟩:=h;rw[zI,zI,b.length]
def jX.get{H:Hp}:∀{l:jo}{a:jf}{i:Nat}{v:V},jX H l a->a[i]? = some v->∃ t,l[i]? = some t/\ZE H t v
 | [],a,i,v,h,e=>by rw[jX] at h;subst h;simp at e
 | t::l,a,0,v,h,e=>by
  rw[jX] at h;let⟨j,r,rfl,d,_⟩:=h;simp at e;subst e;exact⟨t,Z,d⟩
 | t::l,a,i+1,v,h,e=>by
  rw[jX] at h;let⟨j,r,rfl,_,f⟩:=h;let⟨g,b,c⟩:=f.get (i:=i) (by simpa using e)
  exact⟨g,by simpa using b,c⟩
def jX.take{H:Hp}:∀{l:jo}{a:jf}(n:Nat),jX H l a->jX H (l.take n) (a.take n)
 | l,a,0,_=>by simp only[wC];exact .nil
 | [],a,n+1,h=>by rw[jX] at h;subst h;exact .nil
 | t::l,a,n+1,h=>by
  rw[jX] at h;let⟨d,r,rfl,b,c⟩:=h;exact .cons b (c.take n)
def jX.drop{H:Hp}:∀{l:jo}{a:jf}(n:Nat),jX H l a->jX H (l.drop n) (a.drop n)
 | l,a,0,h=>h
 | [],a,n+1,h=>by rw[jX] at h;subst h;exact .nil
 | t::l,a,n+1,h=>by
  rw[jX] at h;let⟨d,r,rfl,c,b⟩:=h;exact b.drop n
def KT.ty:KT->aj
 | .int _=>.type "int"
 | .str _=>.type "str"
 | .tup _=>.type "tuple"
theorem ZE.ty{H:Hp}{K:zZ}{t:KT}{v:V}(h:ZE H t v):XC K H v t.ty:=by
 cases t with
 | int i=>rw[ZE] at h;subst h;exact .int i
 | str x=>rw[ZE] at h;subst h;exact .str x
 | tup l=>rw[ZE] at h;let⟨a,b,rfl,e,_⟩:=h;exact .tup e
def ZK(p:ak)(H a:Hp):Prop:=∀ b o,H b=some o->b≠p->a b=some o
theorem ZK.refl(p:ak)(H:Hp):ZK p H H:=λ_ _ h _=>h
theorem ZK.trans{p:ak}{H d e:Hp}(a:ZK p H d)(b:ZK p d e):ZK p H e:=λc o h n=>b c o (a c o h n) n
theorem ZK.upd{p:ak}{H b:Hp}{o:HO}(a:ZK p H b):ZK p H (L2.upd b p o):=λc u h n=>by rw[ZQ n];exact a c u h n
theorem ZK.of{p:ak}{H b:Hp}(a:ZD H b):ZK p H b:=λc o h _=>a c o h
theorem ZK.tups{p:ak}{H c:Hp}{d:jf}(a:ZK p H c)(h:H p=some (.lst d)):Zt H c:=λb f e=>a b _ e (ZV e h)
theorem ZD.tups{H c:Hp}(a:ZD H c):Zt H c:=λb d e=>a b _ e
theorem ZE.sm{H a:Hp}{t:KT}{v:V}(h:ZE H t v)(s:ZD H a):ZE a t v:=h.mono (ZD.tups s) _ _
def jX.sm{H a:Hp}{t:jo}{v:jf}(h:jX H t v)(s:ZD H a):jX a t v:=h.mono (ZD.tups s) _ _
theorem Zl{H:Hp}{p:ak}(h:H p=none)(o:HO):ZD H (L2.upd H p o):=λb u q=>by rw[ZQ (ZZ q h)];exact q
structure ZW(H:Hp)(p:ak):Prop where
 ex:∃ a b c d:Int,H p=some (.lst [.int a,.int b,.int c,.int d])/\0<=a/\a<2147483647/\0<=c/\0<=d
theorem ZW.stay{H f:Hp}{p q:ak}(w:ZW H p)(s:ZK q H f)(n:p≠q):ZW f p:=by
 let⟨a,b,c,d,e,r⟩:=w.ex;exact⟨a,b,c,d,s p _ e n,r⟩
theorem ZW.same{H f:Hp}{p:ak}(w:ZW H p)(s:ZD H f):ZW f p:=by
 let⟨a,b,c,d,e,r⟩:=w.ex;exact⟨a,b,c,d,s p _ e,r⟩
theorem ZW.some{H:Hp}{p:ak}(w:ZW H p):∃ f,H p=yT (.lst f):=by
 let⟨a,b,c,d,e,r⟩:=w.ex;exact⟨_,e⟩
theorem ZK.tupsW{p:ak}{H b:Hp}(a:ZK p H b)(w:ZW H p):Zt H b:=by
 let⟨c,e⟩:=w.some;exact a.tups e
def small(m:Int):Prop:=0<m/\m.natAbs.log2<9000
inductive VU(K:zZ)(d:jf)(H:Hp)(Q:VK)(_:XK):Prop
 |mk(a:ak)(c:jy)(k:Int)(_:d=[.ref a,.int k])(_:ZF K H a (c.map V.int))(_:c.length<=63)(_:0<=k)(_:k<=1000)(_:∀(p:ak)(b:Hp),H p=none->ZD H b->ZW b p->Q (.ref p) b)
inductive YA(b:jf)(H:Hp)(Q:VK)(_:XK):Prop
 |mk(p:ak)(m:Int)(_:b=[.ref p,.int m])(_:ZW H p)(_:small m)(_:∀(r:Int)(a:Hp),0<=r->r<m->ZW a p->ZK p H a->Q (.int r) a)
inductive WU(b:jf)(H:Hp)(Q:VK)(_:XK):Prop
 |mk(p:ak)(_:b=[.ref p])(_:ZW H p)(_:∀(x:Str)(a:Hp),Pm x=true->ZW a p->ZK p H a->Q (.str x) a)
inductive Wh(n:Nat)(b:jf)(H:Hp)(Q:VK)(_:XK):Prop
 |mk(p:ak)(r:Nat)(_:b=[.ref p,.int (r:Int)])(_:ZW H p)(_:r<n)(_:∀(v:V)(t:KT)(a:Hp),ZE a t v->t.fits r=true->ZW a p->ZK p H a->Q v a)
inductive U4(a:jf)(H:Hp)(Q:VK)(_:XK):Prop
 |mk(i:Int)(_:a=[.int i])(_:Q (.bl (decide (i.natAbs<10 ^ 60))) H)
inductive VM(a:jf)(H:Hp)(Q:VK)(_:XK):Prop
 |mk(c:Nat)(_:a=[.str ⟨#[c]⟩])(_:Q (.bl (QQ c)) H)
inductive U6(b:jf)(H:Hp)(Q:VK)(_:XK):Prop
 |mk(v:V)(t:KT)(q:Nat)(_:b=[v])(_:ZE H t v)(_:t.fits q=true)(_:∀ a,ZD H a->Q (.bl (t.fits 3)) a)
inductive Uh(K:zZ)(d:jf)(H:Hp)(Q:VK)(_:XK):Prop
 |mk(a:ak)(b:jy)(_:d=[.ref a])(_:ZF K H a (b.map V.int))(_:b.length<=63)(_:∀ c,Q (.bl true) c)
theorem nn{n:Nat}(h:n<=1000):n<=sizeLine:=xX (Ym h)
theorem YE{n:Nat}(h:Nat.ble n 1000=true:=by rfl):n<=sizeLine:=nn (yN h)
theorem Mc{x y:V}{i:Int}(a:0<=i)(b:i<2):∃ v,We [x,y] i=some v/\(v=x\/v=y):=by
 rcases(show i=0\/i=1 by lia) with e | e
 ·subst e;exact⟨x,Z,.inl Z⟩
 ·subst e;exact⟨y,Z,.inr Z⟩
theorem IK{b:Type}{xs:List b}{i:Int}(c:0<=i)(d:i<(xs.length:Int)):∃ v,We xs i=some v/\v∈xs:=by
 let a:i.toNat<xs.length:=∅
 let e:i=((i.toNat:Nat):Int):=∅
 rw[e];exact⟨xs[i.toNat],Vd (zV a),xN a⟩
theorem Wn{m:Int}(a:0<m)(b:m.natAbs<2 ^ 250):small m:=by
 exists a;have:m.natAbs.log2<250:=(Nat.log2_lt ∅).mpr b
 lia
theorem O6{i j:Int}(h:V.int i=V.int j):i=j:=by injection h
theorem ZL8(c:Nat):((!decide ([c]<[32])) && !decide ([126]<[c]))=QQ c:=by
 unfold QQ;let a:([c]<[32]) ↔ c<32:=by simp[tY]
 let b:([126]<[c]) ↔ 126<c:=by simp[tY]
 rw[wU];simp only[zF,Bool.not_eq_true',decide_eq_false_iff_not,decide_eq_true_eq,a,b]
 lia
theorem ZPm(i:Int):decide ((if i<0 then -i else i)<10 ^ (60:Int).toNat)=decide (i.natAbs<10 ^ 60):=by
 let e:((10:Int) ^ (60:Int).toNat)=((10 ^ 60:Nat):Int):=by decide +kernel
 rw[e];generalize (10 ^ 60:Nat)=N;apply decide_eq_decide.mpr;split <;> lia
end Tw
namespace Tw
open PySem
mutual
def KT.eqb:KT->KT->Bool
 | .int i,.int j=>i==j
 | .str x,.str y=>x==y
 | .tup l,.tup m=>jZ l m
 | _,_=>false
def jZ:jo->jo->Bool
 | [],[]=>true
 | a::l,b::m=>a.eqb b&&jZ l m
 | _,_=>false
end
mutual
def KT.plt:KT->KT->Bool
 | .int i,.int j=>decide (i<j)
 | .str x,.str y=>decide (x.cps.toList<y.cps.toList)
 | .tup l,.tup m=>pltL l m
 | _,_=>false
def pltL:jo->jo->Bool
 | [],[]=>false
 | [],_::_=>true
 | _::_,[]=>false
 | a::l,b::m=>if a.eqb b=true then pltL l m else a.plt b
end
mutual
def KT.cmp:KT->KT->Bool
 | .int _,.int _=>true
 | .str _,.str _=>true
 | .tup l,.tup m=>cmpL l m
 | _,_=>false
def cmpL:jo->jo->Bool
 | [],_=>true
 | _::_,[]=>true
 | a::l,b::m=>if a.eqb b=true then cmpL l m else a.cmp b
end
def KT.kind:KT->Nat
 | .int _=>0
 | .str _=>1
 | .tup _=>2
mutual
def KT.lt:KT->KT->Bool
 | .int i,.int j=>decide (i<j)
 | .int _,.str _=>true
 | .int _,.tup _=>true
 | .str _,.int _=>false
 | .str x,.str y=>decide (x.cps.toList<y.cps.toList)
 | .str _,.tup _=>true
 | .tup _,.int _=>false
 | .tup _,.str _=>false
 | .tup l,.tup m=>ltL l m
def ltL:jo->jo->Bool
 | [],[]=>false
 | [],_::_=>true
 | _::_,[]=>false
 | a::l,b::m=>if a.eqb b=true then ltL l m else a.lt b
end
mutual
def KT.st:KT->KT
 | .int i=>.tup [.int 0,.int i]
 | .str x=>.tup [.int 1,.str x]
 | .tup l=>.tup [.int 2,.tup (stL l)]
def stL:jo->jo
 | []=>[]
 | t::l=>t.st::stL l
end
theorem FP:∀ l:jo,stL l=l.map KT.st
 | []=>by rw[stL];rfl
 | t::l=>by rw[stL,FP l];rfl
mutual
theorem V1:∀(a b:KT),a.eqb b=true->a=b
 | .int i,.int j,h=>by rw[KT.eqb] at h;rw[eq_of_beq h]
 | .str x,.str y,h=>by rw[KT.eqb] at h;rw[eq_of_beq h]
 | .tup l,.tup m,h=>by rw[KT.eqb] at h;rw[eqbL_eq l m h]
 | .int _,.str _,h=>by simp[KT.eqb] at h
 | .int _,.tup _,h=>by simp[KT.eqb] at h
 | .str _,.int _,h=>by simp[KT.eqb] at h
 | .str _,.tup _,h=>by simp[KT.eqb] at h
 | .tup _,.int _,h=>by simp[KT.eqb] at h
 | .tup _,.str _,h=>by simp[KT.eqb] at h
theorem eqbL_eq:∀(l m:jo),jZ l m=true->l=m
 | [],[],_=>rfl
 | a::l,b::m,h=>by
  rw[jZ,zF] at h;rw[V1 a b h.1,eqbL_eq l m h.2]
 | [],_::_,h=>by simp[jZ] at h
 | _::_,[],h=>by simp[jZ] at h
end
mutual
theorem UB:∀ a:KT,a.eqb a=true
 | .int i=>by rw[KT.eqb];exact beq_self_eq_true i
 | .str x=>by rw[KT.eqb];exact beq_self_eq_true x
 | .tup l=>by rw[KT.eqb];exact eqbL_self l
theorem eqbL_self:∀ l:jo,jZ l l=true
 | []=>by rw[jZ]
 | a::l=>by rw[jZ,UB a,eqbL_self l];rfl
end
theorem Ys{a b:KT}:a.eqb b=true ↔ a=b:=⟨V1 a b,λe=>by rw[e];exact UB b⟩
mutual
theorem FQ:∀ a b:KT,a.st.eqb b.st=a.eqb b
 | .int i,.int j=>by simp[KT.st,KT.eqb,jZ]
 | .str x,.str y=>by simp[KT.st,KT.eqb,jZ]
 | .tup l,.tup m=>by simp[KT.st,KT.eqb,jZ,eqbL_st l m]
 | .int _,.str _=>by simp[KT.st,KT.eqb,jZ]
 | .int _,.tup _=>by simp[KT.st,KT.eqb,jZ]
 | .str _,.int _=>by simp[KT.st,KT.eqb,jZ]
 | .str _,.tup _=>by simp[KT.st,KT.eqb,jZ]
 | .tup _,.int _=>by simp[KT.st,KT.eqb,jZ]
 | .tup _,.str _=>by simp[KT.st,KT.eqb,jZ]
theorem eqbL_st:∀ l m:jo,jZ (stL l) (stL m)=jZ l m
 | [],[]=>by simp[stL,jZ]
 | a::l,b::m=>by simp[stL,jZ,FQ a b,eqbL_st l m]
 | [],_::_=>by simp[stL,jZ]
 | _::_,[]=>by simp[stL,jZ]
end
theorem Dh:∀ l:jo,ltL l l=false
 | []=>by rw[ltL]
 | a::l=>by rw[ltL,UB a,aM rfl,Dh l]
theorem Em{l m:jo}(h:jZ l m=true):ltL l m=false:=by
 rw[eqbL_eq l m h];exact Dh m
mutual
theorem D9:∀ a b:KT,a.st.cmp b.st=true
 | .int i,.int j=>by simp[KT.st,KT.eqb,KT.cmp,cmpL]
 | .str x,.str y=>by simp[KT.st,KT.eqb,KT.cmp,cmpL]
 | .tup l,.tup m=>by simp[KT.st,KT.eqb,KT.cmp,cmpL,cmpL_st l m]
 | .int _,.str _=>by simp[KT.st,KT.eqb,KT.cmp,cmpL]
 | .int _,.tup _=>by simp[KT.st,KT.eqb,KT.cmp,cmpL]
 | .str _,.int _=>by simp[KT.st,KT.eqb,KT.cmp,cmpL]
 | .str _,.tup _=>by simp[KT.st,KT.eqb,KT.cmp,cmpL]
 | .tup _,.int _=>by simp[KT.st,KT.eqb,KT.cmp,cmpL]
 | .tup _,.str _=>by simp[KT.st,KT.eqb,KT.cmp,cmpL]
theorem cmpL_st:∀ l m:jo,cmpL (stL l) (stL m)=true
 | [],_=>by simp[stL,cmpL]
 | _::_,[]=>by simp[stL,cmpL]
 | a::l,b::m=>by
  rw[stL,stL,cmpL,cmpL_st l m,D9 a b];split <;> rfl
end
mutual
theorem Dj:∀ a b:KT,a.st.plt b.st=a.lt b
 | .int i,.int j=>by
  simp only[KT.st,KT.eqb,KT.plt,pltL,KT.lt,beq_self_eq_true,if_true];by_cases h:i=j
  ·subst h;simp
  ·simp[h]
 | .str x,.str y=>by
  simp only[KT.st,KT.eqb,KT.plt,pltL,KT.lt,beq_self_eq_true,if_true];by_cases h:x=y
  ·subst h;simp
  ·simp[h]
 | .tup l,.tup m=>by
  simp only[KT.st,KT.eqb,KT.plt,pltL,KT.lt,beq_self_eq_true,if_true,eqbL_st,pltL_st l m]
  cases h:jZ l m with
  | true=>rw[aM rfl,Em h]
  | false=>rw[aK zT]
 | .int _,.str _=>by simp[KT.st,KT.eqb,KT.plt,pltL,KT.lt]
 | .int _,.tup _=>by simp[KT.st,KT.eqb,KT.plt,pltL,KT.lt]
 | .str _,.int _=>by simp[KT.st,KT.eqb,KT.plt,pltL,KT.lt]
 | .str _,.tup _=>by simp[KT.st,KT.eqb,KT.plt,pltL,KT.lt]
 | .tup _,.int _=>by simp[KT.st,KT.eqb,KT.plt,pltL,KT.lt]
 | .tup _,.str _=>by simp[KT.st,KT.eqb,KT.plt,pltL,KT.lt]
theorem pltL_st:∀ l m:jo,pltL (stL l) (stL m)=ltL l m
 | [],[]=>by simp[stL,pltL,ltL]
 | [],_::_=>by simp[stL,pltL,ltL]
 | _::_,[]=>by simp[stL,pltL,ltL]
 | a::l,b::m=>by rw[stL,stL,pltL,ltL,FQ a b,pltL_st l m,Dj a b]
end
mutual
theorem Cr:∀ t:KT,t.st.depth<=2 * t.depth+1
 | .int i=>by simp[KT.st,KT.depth,kc]
 | .str x=>by simp[KT.st,KT.depth,kc]
 | .tup l=>by
  have:=depthL_st l;simp only[KT.st,KT.depth,kc]
  lia
theorem depthL_st:∀ l:jo,kc (stL l)<=2 * kc l+1
 | []=>by simp[stL,kc]
 | t::l=>by
  let a:=Cr t;let b:=depthL_st l;rw[stL,kc,kc]
  lia
end
theorem ZNm{x:Str}(h:Pm x=true):x.cps.size<=40/\x.cps.toList.all QQ=true:=by
 unfold Pm at h;rw[zF] at h;exact⟨of_decide_eq_true h.1,h.2⟩
theorem FF:∀(l m:jk),l<m->¬ m<l
 | [],[],h,_=>absurd h (uO _)
 | [],_::_,_,h=>absurd h (uO _)
 | _::_,[],h,_=>absurd h (uO _)
 | a::l,b::m,h,c=>by
  rw[tY] at h c;rcases h with h | ⟨rfl,h⟩
  ·rcases c with c | ⟨rfl,c⟩
   ·lia
   ·lia
  ·rcases c with c | ⟨_,c⟩
   ·lia
   ·exact FF l m h c
theorem EN:∀(l m:jk),¬ l<m->¬ m<l->l=m
 | [],[],_,_=>rfl
 | [],_::_,h,_=>absurd (sH _ _) h
 | _::_,[],_,h=>absurd (sH _ _) h
 | a::l,b::m,h,h'=>by
  rw[tY] at h h';let e:a=b:=by
   rcases Nat.lt_trichotomy a b with c | c | c
   ·exact absurd (.inl c) h
   ·exact c
   ·exact absurd (.inl c) h'
  subst e;rw[EN l m (λz=>h (.inr ⟨rfl,z⟩)) λz=>h' (.inr ⟨rfl,z⟩)]
theorem Eo:∀(l m k:jk),l<m->m<k->l<k
 | _,_,[],_,h=>absurd h (uO _)
 | [],_,_::_,_,_=>sH _ _
 | _::_,[],_,h,_=>absurd h (uO _)
 | a::l,b::m,c::k,h,d=>by
  rw[tY] at h d⊢;rcases h with h | ⟨rfl,h⟩
  ·rcases d with d | ⟨rfl,d⟩
   ·exact .inl (Nat.lt_trans h d)
   ·exact .inl h
  ·rcases d with d | ⟨rfl,d⟩
   ·exact .inl d
   ·exact .inr ⟨Z,Eo l m k h d⟩
theorem eqb_comm'(a b:KT):a.eqb b=b.eqb a:=by
 rw[wU,Ys,Ys];exact eq_comm
mutual
theorem Oq:∀(a b:KT),a.lt b=true->b.lt a=false
 | .int i,.int j,h=>by rw[KT.lt] at h⊢;have:=of_decide_eq_true h;exact aI ∅
 | .int _,.str _,_=>by rw[KT.lt]
 | .int _,.tup _,_=>by rw[KT.lt]
 | .str _,.int _,h=>by rw[KT.lt] at h;cases h
 | .str x,.str y,h=>by rw[KT.lt] at h⊢;exact aI (FF _ _ (of_decide_eq_true h))
 | .str _,.tup _,_=>by rw[KT.lt]
 | .tup _,.int _,h=>by rw[KT.lt] at h;cases h
 | .tup _,.str _,h=>by rw[KT.lt] at h;cases h
 | .tup l,.tup m,h=>by rw[KT.lt] at h⊢;exact ltL_asym l m h
theorem ltL_asym:∀(l m:jo),ltL l m=true->ltL m l=false
 | [],[],h=>by rw[ltL] at h;cases h
 | [],_::_,_=>by rw[ltL]
 | _::_,[],h=>by rw[ltL] at h;cases h
 | a::l,b::m,h=>by
  rw[ltL] at h⊢;rw[eqb_comm' b a]
  cases e:a.eqb b with
  | true=>rw[e,aM rfl] at h;rw[aM rfl];exact ltL_asym l m h
  | false=>rw[e,aK zT] at h;rw[aK zT];exact Oq a b h
end
mutual
theorem N1:∀(a b:KT),a.lt b=false->b.lt a=false->a=b
 | .int i,.int j,h,h'=>by rw[KT.lt] at h h';have:=of_decide_eq_false h;have:=of_decide_eq_false h';rw[show i=j by lia]
 | .int _,.str _,h,_=>by rw[KT.lt] at h;cases h
 | .int _,.tup _,h,_=>by rw[KT.lt] at h;cases h
 | .str _,.int _,_,h=>by rw[KT.lt] at h;cases h
 | .str x,.str y,h,h'=>by
  rw[KT.lt] at h h';let e:=EN _ _ (of_decide_eq_false h) (of_decide_eq_false h');let⟨⟨x⟩⟩:=x;let⟨⟨y⟩⟩:=y;dsimp only at e;rw[e]
 | .str _,.tup _,h,_=>by rw[KT.lt] at h;cases h
 | .tup _,.int _,_,h=>by rw[KT.lt] at h;cases h
 | .tup _,.str _,_,h=>by rw[KT.lt] at h;cases h
 | .tup l,.tup m,h,h'=>by rw[KT.lt] at h h';rw[ltL_total l m h h']
theorem ltL_total:∀(l m:jo),ltL l m=false->ltL m l=false->l=m
 | [],[],_,_=>rfl
 | [],_::_,h,_=>by rw[ltL] at h;cases h
 | _::_,[],_,h=>by rw[ltL] at h;cases h
 | a::l,b::m,h,h'=>by
  rw[ltL] at h h';rw[eqb_comm' b a] at h'
  cases e:a.eqb b with
  | true=>rw[e,aM rfl] at h h';rw[Ys.mp e,ltL_total l m h h']
  | false=>
   rw[e,aK zT] at h h';have:=N1 a b h h';rw[this,UB] at e;cases e
end
theorem UW(a:KT):a.lt a=false:=by
 cases h:a.lt a with
 | false=>rfl
 | true=>have:=Oq a a h;rw[h] at this;cases this
mutual
theorem lt_trans':∀(a b c:KT),a.lt b=true->b.lt c=true->a.lt c=true
 | .int i,.int j,.int k,h,h'=>by rw[KT.lt] at h h'⊢;have:=of_decide_eq_true h;have:=of_decide_eq_true h';exact aJ ∅
 | .int _,_,.str _,_,_=>by rw[KT.lt]
 | .int _,_,.tup _,_,_=>by rw[KT.lt]
 | .str _,_,.tup _,_,_=>by rw[KT.lt]
 | .int _,.str _,.int _,_,h=>by rw[KT.lt] at h;cases h
 | .int _,.tup _,.int _,_,h=>by rw[KT.lt] at h;cases h
 | .str _,.int _,_,h,_=>by rw[KT.lt] at h;cases h
 | .str x,.str y,.str z,h,h'=>by rw[KT.lt] at h h'⊢;exact aJ (Eo _ _ _ (of_decide_eq_true h) (of_decide_eq_true h'))
 | .str _,.str _,.int _,_,h=>by rw[KT.lt] at h;cases h
 | .str _,.tup _,.str _,_,h=>by rw[KT.lt] at h;cases h
 | .str _,.tup _,.int _,_,h=>by rw[KT.lt] at h;cases h
 | .tup _,.int _,_,h,_=>by rw[KT.lt] at h;cases h
 | .tup _,.str _,_,h,_=>by rw[KT.lt] at h;cases h
 | .tup l,.tup m,.tup k,h,h'=>by rw[KT.lt] at h h'⊢;exact ltL_trans l m k h h'
 | .tup _,.tup _,.int _,_,h=>by rw[KT.lt] at h;cases h
 | .tup _,.tup _,.str _,_,h=>by rw[KT.lt] at h;cases h
theorem ltL_trans:∀(l m k:jo),ltL l m=true->ltL m k=true->ltL l k=true
 | _,[],[],_,h=>by rw[ltL] at h;cases h
 | _,_::_,[],_,h=>by rw[ltL] at h;cases h
 | [],_,_::_,_,_=>by rw[ltL]
 | _::_,[],_::_,h,_=>by rw[ltL] at h;cases h
 | a::l,b::m,c::k,h,h'=>by
  rw[ltL] at h h'⊢
  cases e:a.eqb b with
  | true=>
   rw[e,aM rfl] at h;let ab:=Ys.mp e;subst ab
   cases e2:a.eqb c with
   | true=>rw[e2,aM rfl] at h';rw[aM rfl];exact ltL_trans l m k h h'
   | false=>rw[e2,aK zT] at h';rw[aK zT];exact h'
  | false=>
   rw[e,aK zT] at h
   cases e2:b.eqb c with
   | true=>
    let bc:=Ys.mp e2;subst bc;rw[e,aK zT];exact h
   | false=>
    rw[e2,aK zT] at h';let ac:=lt_trans' a b c h h'
    cases e3:a.eqb c with
    | true=>
     have:=Ys.mp e3;subst this;rw[UW] at ac;cases ac
    | false=>rw[aK zT];exact ac
end
theorem le_trans'{a b c:KT}(f:b.lt a=false)(d:c.lt b=false):c.lt a=false:=by
 cases h:c.lt a with
 | false=>rfl
 | true=>
  cases e:a.lt b with
  | true=>rw[lt_trans' c a b h e] at d;cases d
  | false=>rw[N1 a b e f,d] at h;cases h
theorem EQ{a b c:KT}(e:b.lt a=false)(d:b.lt c=true):a.lt c=true:=by
 cases h:a.lt c with
 | true=>rfl
 | false=>rw[le_trans' h e] at d;cases d
end Tw
namespace Tw
open PySem PySem.Spec L2 PyProof.Rows
mutual
def ZH(h:aD):KT->aj->Prop
 | .int i,v=>∃ t,v=.int i t
 | .str x,v=>∃ t,v=.str x t
 | .tup l,v=>∃(a:ak)(its:je),v=.ref a/\IsTup h a its.toArray/\jY h l its
def jY(h:aD):jo->je->Prop
 | [],vs=>vs=[]
 | t::l,vs=>∃ v r,vs=v::r/\ZH h t v/\jY h l r
end
section
variable{ki:jq}{σ:L2.St}{H:Hp}
mutual
theorem VZ(I:ZG X ki σ H s):∀(t:KT)(x:V)(v:aj),ZE H t x->ZP x v->ZH s.heap t v
 | .int i,x,v,h,r=>by
  rw[ZE] at h;subst h;rw[ZH];exact r
 | .str y,x,v,h,r=>by
  rw[ZE] at h;subst h;rw[ZH];exact r
 | .tup l,x,v,h,r=>by
  rw[ZE] at h;let⟨a,vs,rfl,e,hk⟩:=h;let⟨its,rv,pl,_⟩:=I.tuple (Zm.of e);rw[ZH];exact⟨a,its,r,pl,kvals_of I l vs its hk rv⟩
theorem kvals_of(I:ZG X ki σ H s):∀(l:jo)(vs:jf)(us:je),jX H l vs->ZO vs us->jY s.heap l us
 | [],vs,us,h,r=>by
  rw[jX] at h;subst h;rw[jY];cases r;rfl
 | t::l,vs,us,h,r=>by
  rw[jX] at h;let⟨v,q,rfl,h1,h2⟩:=h
  cases r with
  | cons r1 r2=>
   rw[jY];exact⟨_,_,Z,VZ I t v _ h1 r1,kvals_of I l q _ h2 r2⟩
end
end
theorem ZJC{h:aD}{a:ak}{c b:je}(x:IsTup h a c.toArray)(y:IsTup h a b.toArray):c=b:=by
 let⟨o,e,_,n,d⟩:=x;let⟨j,g,_,i,f⟩:=y;rw[e] at g;cases g;rw[d] at f;injection f with d1 _;simpa using congrArg zEE d1
mutual
theorem ZH.inj{h:aD}:∀(a b:KT)(v:aj),ZH h a v->ZH h b v->a.eqb b=true
 | .int i,b,v,x,y=>by
  rw[ZH] at x;let⟨t,rfl⟩:=x
  cases b with
  | int j=>rw[ZH] at y;let⟨u,e⟩:=y;injection e with e _;rw[KT.eqb,e];exact beq_self_eq_true j
  | str z=>rw[ZH] at y;let⟨u,e⟩:=y;cases e
  | tup m=>rw[ZH] at y;let⟨_,_,e,_⟩:=y;cases e
 | .str w,b,v,x,y=>by
  rw[ZH] at x;let⟨t,rfl⟩:=x
  cases b with
  | int j=>rw[ZH] at y;let⟨u,e⟩:=y;cases e
  | str z=>rw[ZH] at y;let⟨u,e⟩:=y;injection e with e _;rw[KT.eqb,e];exact beq_self_eq_true z
  | tup m=>rw[ZH] at y;let⟨_,_,e,_⟩:=y;cases e
 | .tup l,b,v,x,y=>by
  rw[ZH] at x;let⟨p,its,rfl,px,kx⟩:=x
  cases b with
  | int j=>rw[ZH] at y;let⟨u,e⟩:=y;cases e
  | str z=>rw[ZH] at y;let⟨u,e⟩:=y;cases e
  | tup m=>
   rw[ZH] at y;let⟨q,its',e,py,ky⟩:=y;cases e;cases ZJC px py;rw[KT.eqb];exact jY.inj l m its kx ky
theorem jY.inj{h:aD}:∀(l m:jo)(us:je),jY h l us->jY h m us->jZ l m=true
 | [],m,us,x,y=>by
  rw[jY] at x;subst x
  cases m with
  | nil=>rw[jZ]
  | cons b m=>rw[jY] at y;let⟨_,_,e,_⟩:=y;cases e
 | a::l,m,us,x,y=>by
  rw[jY] at x;let⟨v,r,rfl,x1,x2⟩:=x
  cases m with
  | nil=>rw[jY] at y;cases y
  | cons b m=>
   rw[jY] at y;let⟨v',r',e,y1,y2⟩:=y;injection e with e1 e2;subst e1 e2;rw[jZ,ZH.inj a b v x1 y1,jY.inj l m r x2 y2];rfl
end
def jY.length{h:aD}:∀{l:jo}{b:je},jY h l b->l.length=b.length
 | [],b,x=>by rw[jY] at x;subst x;rfl
 | a::l,b,x=>by
  rw[jY] at x;let⟨v,r,rfl,_,c⟩:=x;rw[zI,zI,c.length]
def jY.get{h:aD}:∀{l:jo}{b:je}{j:Nat}{u:aj},jY h l b->b[j]? = some u->∃ t,l[j]? = some t/\ZH h t u
 | [],b,j,u,x,e=>by rw[jY] at x;subst x;simp at e
 | a::l,b,0,u,x,e=>by
  rw[jY] at x;let⟨v,r,rfl,f,_⟩:=x;simp at e;subst e;exact⟨a,Z,f⟩
 | a::l,b,j+1,u,x,e=>by
  rw[jY] at x;let⟨v,r,rfl,_,g⟩:=x;let⟨t,c,d⟩:=g.get (j:=j) (by simpa using e)
  exact⟨t,by simpa using c,d⟩
theorem PY:∀{l:jo}{t:KT},t∈l->t.depth<=kc l
 | [],_,h=>by cases h
 | u::l,t,h=>by
  rw[kc];rcases zL.mp h with e | h
  ·subst e;lia
  ·have:=PY h;lia
theorem OO:∀(l m:jo),((yF (min l.length m.length)).all (λj=>(l.getD j (.int 0)).eqb (m.getD j (.int 0)))&&l.length==m.length)=jZ l m
 | [],[]=>by simp[jZ]
 | [],_::_=>by simp[jZ]
 | _::_,[]=>by simp[jZ]
 | a::l,b::m=>by
  let c:=OO l m;let e:min (a::l).length (b::m).length=min l.length m.length+1:=by simp only[zI];lia
  rw[e,List.range_succ_eq_map,uU,uE,jZ,<-c,Bool.and_assoc];simp[Function.comp_def]
theorem Pv{s:am}:∀(n:Nat)(a b:KT)(A:ax)(v u:aj),a.depth<=n->ZH s.heap a v->ZH s.heap b u->A.units+a.depth<cLine->SeqAt.EqAt A s v u (a.eqb b)
 | n,.int i,b,A,v,u,_,x,y,o=>by
  rw[ZH] at x;let⟨t,rfl⟩:=x;let d:A.units<cLine:=∅
  cases b with
  | int j=>rw[ZH] at y;let⟨g,rfl⟩:=y;rw[KT.eqb];exact SeqAt.EqAt.int_int i t j g
  | str z=>rw[ZH] at y;let⟨g,rfl⟩:=y;rw[show (KT.int i).eqb (.str z)=false by simp[KT.eqb]];exact SeqAt.EqAt.int_str i t z g
  | tup m=>rw[ZH] at y;let⟨p,f,rfl,k,_⟩:=y;rw[show (KT.int i).eqb (.tup m)=false by simp[KT.eqb]];exact SeqAt.EqAt.int_tuple i t k d
 | n,.str w,b,A,v,u,_,x,y,o=>by
  rw[ZH] at x;let⟨t,rfl⟩:=x;let d:A.units<cLine:=∅
  cases b with
  | int j=>rw[ZH] at y;let⟨g,rfl⟩:=y;rw[show (KT.str w).eqb (.int j)=false by simp[KT.eqb]];exact SeqAt.EqAt.str_int w t j g
  | str z=>rw[ZH] at y;let⟨g,rfl⟩:=y;rw[KT.eqb];exact SeqAt.EqAt.str_str w t z g
  | tup m=>rw[ZH] at y;let⟨p,f,rfl,k,_⟩:=y;rw[show (KT.str w).eqb (.tup m)=false by simp[KT.eqb]];exact SeqAt.EqAt.str_tuple w t k d
 | 0,.tup l,b,A,v,u,C,x,y,o=>by
  rw[KT.depth] at C
  lia
 | n+1,.tup l,b,A,v,u,C,x,y,o=>by
  let U:=x;rw[ZH] at x;let⟨p,f,rfl,D,G⟩:=x;rw[KT.depth] at C o;let d:A.units<cLine:=∅
  cases b with
  | int j=>rw[ZH] at y;let⟨g,rfl⟩:=y;rw[show (KT.tup l).eqb (.int j)=false by simp[KT.eqb]];exact SeqAt.EqAt.tuple_int j g D d
  | str z=>rw[ZH] at y;let⟨g,rfl⟩:=y;rw[show (KT.tup l).eqb (.str z)=false by simp[KT.eqb]];exact SeqAt.EqAt.tuple_str z g D d
  | tup m=>
   let V:=y;rw[ZH] at y;let⟨q,c,rfl,k,H⟩:=y;by_cases h:p=q
   ·subst h;rw[ZH.inj _ _ _ U V];exact SeqAt.EqAt.same _
   ·let S:=G.length;let T:=H.length;let I:=SeqAt.RcAt.tuples (A:=A) (s:=s) (e:=λj=>(l.getD j (.int 0)).eqb (m.getD j (.int 0))) D k d (λj O P=>by
     let r:j<f.length:=by simpa using O
     let B:j<c.length:=by simpa using P
     let⟨E,F,Q⟩:=G.get (j:=j) (u:=f[j]) (by simp[r])
     let⟨J,K,R⟩:=H.get (j:=j) (u:=c[j]) (by simp[B])
     let W:=PY (zJ F);let M:l.getD j (.int 0)=E:=by rw[zU,F];rfl
     let N:m.getD j (.int 0)=J:=by rw[zU,K];rfl
     have:=Pv n E J A.in1 f[j] c[j] ∅ Q R (by show A.units+1+E.depth<cLine;lia)
     show SeqAt.EqAt A.in1 s _ _ ((l.getD j (.int 0)).eqb (m.getD j (.int 0)));rw[M,N];simpa using this)
    let L:((yF (min f.toArray.size c.toArray.size)).all (λj=>(l.getD j (.int 0)).eqb (m.getD j (.int 0)))&&f.toArray.size==c.toArray.size)=(KT.tup l).eqb (.tup m):=by
     rw[zP,zP,<-S,<-T,KT.eqb];exact OO l m
    rw[L] at I;exact .of_refs h I
theorem BY{s:am}(a b:KT)(A:ax)(v u:aj)(x:ZH s.heap a v)(y:ZH s.heap b u)(M:A.units+a.depth<cLine):SeqAt.RcNeAt A s v u (!a.eqb b):=by
 let f:A.units<cLine:=∅
 cases a with
 | int i=>
  rw[ZH] at x;let⟨t,rfl⟩:=x
  cases b with
  | int j=>rw[ZH] at y;let⟨g,rfl⟩:=y;rw[KT.eqb];exact SeqAt.RcNeAt.int_int i t j g
  | str z=>rw[ZH] at y;let⟨g,rfl⟩:=y;rw[show (KT.int i).eqb (.str z)=false by simp[KT.eqb]];exact SeqAt.RcNeAt.int_str i t z g
  | tup m=>rw[ZH] at y;let⟨p,d,rfl,h,_⟩:=y;rw[show (KT.int i).eqb (.tup m)=false by simp[KT.eqb]];exact SeqAt.RcNeAt.int_tuple i t h f
 | str w=>
  rw[ZH] at x;let⟨t,rfl⟩:=x
  cases b with
  | int j=>rw[ZH] at y;let⟨g,rfl⟩:=y;rw[show (KT.str w).eqb (.int j)=false by simp[KT.eqb]];exact SeqAt.RcNeAt.str_int w t j g
  | str z=>rw[ZH] at y;let⟨g,rfl⟩:=y;rw[KT.eqb];exact SeqAt.RcNeAt.str_str w t z g
  | tup m=>rw[ZH] at y;let⟨p,d,rfl,h,_⟩:=y;rw[show (KT.str w).eqb (.tup m)=false by simp[KT.eqb]];exact SeqAt.RcNeAt.str_tuple w t h f
 | tup l=>
  rw[ZH] at x;let⟨p,d,rfl,r,C⟩:=x;rw[KT.depth] at M
  cases b with
  | int j=>rw[ZH] at y;let⟨g,rfl⟩:=y;rw[show (KT.tup l).eqb (.int j)=false by simp[KT.eqb]];exact SeqAt.RcNeAt.tuple_int j g r f
  | str z=>rw[ZH] at y;let⟨g,rfl⟩:=y;rw[show (KT.tup l).eqb (.str z)=false by simp[KT.eqb]];exact SeqAt.RcNeAt.tuple_str z g r f
  | tup m=>
   rw[ZH] at y;let⟨q,c,rfl,h,D⟩:=y;let P:=C.length;let Q:=D.length;let E:=SeqAt.RcNeAt.tuples (A:=A) (s:=s) (e:=λj=>(l.getD j (.int 0)).eqb (m.getD j (.int 0))) r h f (λj K L=>by
    let n:j<d.length:=by simpa using K
    let o:j<c.length:=by simpa using L
    let⟨k,B,N⟩:=C.get (j:=j) (u:=d[j]) (by simp[n])
    let⟨F,G,O⟩:=D.get (j:=j) (u:=c[j]) (by simp[o])
    let R:=PY (zJ B);let I:l.getD j (.int 0)=k:=by rw[zU,B];rfl
    let J:m.getD j (.int 0)=F:=by rw[zU,G];rfl
    have:=Pv k.depth k F A.in1 d[j] c[j] (zY _) N O (by show A.units+1+k.depth<cLine;lia)
    show SeqAt.EqAt A.in1 s _ _ ((l.getD j (.int 0)).eqb (m.getD j (.int 0)));rw[I,J];simpa using this)
   let H:((yF (min d.toArray.size c.toArray.size)).all (λj=>(l.getD j (.int 0)).eqb (m.getD j (.int 0)))&&d.toArray.size==c.toArray.size)=(KT.tup l).eqb (.tup m):=by
    rw[zP,zP,<-P,<-Q,KT.eqb];exact OO l m
   rw[H] at E;exact E
def QC(o:Bool)(a b:KT):Bool:=bif o then !b.plt a else a.plt b
def PH(o:Bool)(l m:jo):Bool:=bif o then !pltL m l else pltL l m
theorem ZLu{o:Bool}{a c:KT}{l m:jo}:PH o (a::l) (c::m)=if a.eqb c=true then PH o l m else QC o a c:=by
 unfold PH QC;rw[pltL,pltL,eqb_comm' c a];cases o <;> cases a.eqb c <;> rfl
theorem ZNL{o:Bool}{l m:jo}{i j:Nat}(h:l=[]\/m=[])(e:l.length+j=m.length+i):PH o l m=bif o then decide (i<=j) else decide (i<j):=by
 rcases h with rfl | rfl
 ·cases m <;> cases o <;> simp[PH,pltL] at e⊢ <;> lia
 ·cases l <;> cases o <;> simp[PH,pltL] at e⊢ <;> lia
def LQ(o:Bool)(A:ax)(s:am)(v u:aj)(b:Bool):Prop:=
 ∀(a:ao)(w:aw)(E:ja)(Q:ja),Q (.bool b) s->aB (aA a w) A (richCompare (bif o then .LtE else .Lt) v u) Q E s
section
open PySem.SeqAt
open PySem.AutoSeq1 (wpAny_loadPart')
open PySem.MeetsSeq PySem.MeetsSeq2 PySem.MeetsSeq3
inductive GT(c:aD)(d:jo)(n m:Nat)(G:jo->jo->Prop)(rest:List (aj×aj)):Prop
 |mk(e f:je)(a b:jo):rest=e.zip f->jY c a e->jY c b f->(∀ x∈a,x∈d)->cmpL a b=true->a.length+m=b.length+n->G a b->GT c d n m G rest
theorem ZDt(o:Bool)(l b:ak)(f e:jt)(n n2:Nat)(dd K:jx)(sl O:Array (jd))(D J:jo):
  Meets ((bif o then Builtin.«tuple.__le__» else Builtin.«tuple.__lt__») ⟨[.ref l,.ref b],[]⟩)
   (λA R s=>s.heap.get? l=some { cls:=.type "tuple",dict:=dd,data:=.seq f n,slots:=sl }/\s.heap.get? b=some { cls:=.type "tuple",dict:=K,data:=.seq e n2,slots:=O } /\
    jY s.heap D f.toList/\jY s.heap J e.toList/\cmpL D J=true /\
    (∀ x y v u,x∈D->ZH s.heap x v->ZH s.heap y u->EqAt A.in1 s v u (x.eqb y))/\(∀ x y v u,x∈D->ZH s.heap x v->ZH s.heap y u->x.cmp y=true->LQ o A.in1 s v u (QC o x y)) /\
    R (.ok (.ret (.bool (PH o D J)))) s):=by
 let P:=@ZLu o;let Q:=@ZNL o;generalize PH o=F at P Q⊢;cases o
 all_goals
  dsimp only[cond_true,cond_false];refine .of_wp λC w A R s h=>?_;let⟨L,g,d,Y,X⟩:=s;let⟨hl,hb,S,T,hc,hE,hL,h⟩:=h;let f2:=AutoSeq1.sub_tuple_tuple;let z1:f.size=D.length:=by rw[S.length];simp
  let z2:e.size=J.length:=by rw[T.length];simp
  wp_walk using wpAny_loadPart' hl,wpAny_loadPart' hb,wpAny_forIn_list _ (λrest b N=>b.1=none/\N=⟨L,g,d,Y,X⟩/\GT L D f.size e.size (λa b=>R (.ok (.ret (.bool (F a b)))) ⟨L,g,d,Y,X⟩) rest) _
  case turn=>
   rintro⟨y,x⟩ rest b N ⟨E,rfl,vs,ws,q,r,p,i,j,t,k,m,B⟩
   cases q with
   | nil=>rw[jY] at i;subst i;rw[List.zip_nil_left] at p;cases p
   | cons a q=>
    cases r with
    | nil=>rw[jY] at j;subst j;rw[List.zip_nil_right] at p;cases p
    | cons c r=>
     rw[jY] at i j;let⟨v,vr,rfl,V,H⟩:=i;let⟨u,ur,rfl,W,I⟩:=j;rw[List.zip_cons_cons] at p;injection p with hyx hrest;injection hyx with hy M;subst hy M;rw[P] at B;rw[cmpL] at k;simp only[zI] at m;let he:=hE a c y x (t a zS) V W;refine aa (he C w _ _ ?_)
     cases U:a.eqb c with
     | true=>
      rw[U,aM rfl] at B k
      wp_walk
      exact⟨Z,Z,_,_,_,_,hrest,H,I,λz p=>t z (zQ _ p),k,∅,B⟩
     | false=>
      rw[U,aK zT] at B k;let G:=hL a c y x (t a zS) V W k C w;dsimp only[cond_true,cond_false] at G
      wp_walk using G
      exact⟨_,Z,by simpa using B⟩
  case fin=>
   rintro⟨b1,b2⟩ N ⟨E,rfl,vs,ws,q,r,p,i,j,t,k,m,B⟩;simp only at E;subst E;rw[Q (by
    cases q with
    | nil=>exact .inl Z
    | cons a q=>
     cases r with
     | nil=>exact .inr Z
     | cons c r=>
      rw[jY] at i j;let⟨v,vr,rfl,_,_⟩:=i;let⟨u,ur,rfl,_,_⟩:=j;rw[List.zip_cons_cons] at p;cases p) m] at B
   wp_walk
   exact⟨_,Z,by simpa [Builtin.Tuple.tupleCompareSizes] using B⟩
  case h=>
   exact⟨Z,Z,f.toList,e.toList,D,J,Z,S,T,λ_ M=>M,hc,∅,h⟩
end
theorem FE(o:Bool){s:am}:∀(n:Nat)(a b:KT)(A:ax)(v u:aj),a.depth<=n->ZH s.heap a v->ZH s.heap b u->a.cmp b=true->A.units+a.depth<cLine->LQ o A s v u (QC o a b)
 | n,.int i,b,A,v,u,_,x,y,d,H=>by
  rw[ZH] at x;let⟨t,rfl⟩:=x
  cases b with
  | int j=>
   rw[ZH] at y;let⟨D,rfl⟩:=y;unfold QC;rw[KT.plt,KT.plt];intro c w E Q h;cases o
   ·exact HT.rcLt_int A s i t j D c w E Q h
   ·exact(le_int (by rw[show decide (i<=j) = !decide (j<i) by by_cases z:j<i <;> simp[z] <;> lia];exact h):aB (aA c w) A (az .LtE (.int i t) (.int j D)) Q E s)
  | str z=>simp[KT.cmp] at d
  | tup m=>simp[KT.cmp] at d
 | n,.str w,b,A,v,u,_,x,y,d,H=>by
  rw[ZH] at x;let⟨t,rfl⟩:=x
  cases b with
  | int j=>simp[KT.cmp] at d
  | str z=>
   rw[ZH] at y;let⟨D,rfl⟩:=y;unfold QC;rw[KT.plt,KT.plt];intro c w' E Q h;cases o
   ·exact(lt_str h:aB (aA c w') A (az .Lt (.str w t) (.str z D)) Q E s)
   ·exact(PySem.P.le_str h:aB (aA c w') A (az .LtE (.str w t) (.str z D)) Q E s)
  | tup m=>simp[KT.cmp] at d
 | 0,.tup l,b,A,v,u,K,x,y,d,H=>by
  rw[KT.depth] at K
  lia
 | n+1,.tup l,b,A,v,u,K,x,y,d,H=>by
  rw[ZH] at x;let⟨p,M,rfl,px,kx⟩:=x;rw[KT.depth] at K H;let B:A.units<cLine:=∅
  cases b with
  | int j=>simp[KT.cmp] at d
  | str z=>simp[KT.cmp] at d
  | tup m=>
   rw[ZH] at y;let⟨q,C,rfl,py,ky⟩:=y;rw[KT.cmp] at d;let e:QC o (.tup l) (.tup m)=PH o l m:=by
    unfold QC PH;rw[KT.plt,KT.plt]
   rw[e];intro c w E Q h;let⟨⟨cls,dd,data,sl⟩,G,k,R,Y⟩:=id px;let⟨⟨V,J,I,U⟩,f,g,S,r⟩:=id py;simp only at k Y g r;subst k Y g r;let W:∀ x y v u,x∈l->ZH s.heap x v->ZH s.heap y u->SeqAt.EqAt A.in1 s v u (x.eqb y):=λx y v u L N O=>by
    let d1:=PY L;exact Pv x.depth x y A.in1 v u (zY _) N O (by show A.units+1+x.depth<cLine;lia)
   let X:∀ x y v u,x∈l->ZH s.heap x v->ZH s.heap y u->x.cmp y=true->LQ o A.in1 s v u (QC o x y):=λx y v u L N O k3=>by
    let d1:=PY L;exact FE o n x y A.in1 v u ∅ N O k3 (by show A.units+1+x.depth<cLine;lia)
   let T:=ZDt o p q M.toArray C.toArray R S dd J sl U l m;cases o
   ·exact richCompare_meets_room (op:=.Lt) ⟨_,G,Z⟩ ⟨_,f,Z⟩ PySem.F.slot_tuple_lt PySem.F.entry_tuple_lt (PySem.F.args_tuple_lt_2 _ _) T ⟨G,f,kx,ky,d,W,X,(λx=>nomatch x),h⟩ B
   ·exact richCompare_meets_room (op:=.LtE) ⟨_,G,Z⟩ ⟨_,f,Z⟩ PySem.F.slot_tuple_le PySem.F.entry_tuple_le (PySem.F.args_tuple_le_2 _ _) T ⟨G,f,kx,ky,d,W,X,(λx=>nomatch x),h⟩ B
theorem De{s:am}(n:Nat)(a b:KT)(A:ax)(v u:aj):a.depth<=n->ZH s.heap a v->ZH s.heap b u->a.cmp b=true->A.units+a.depth<cLine->LQ false A s v u (a.plt b):=FE false n a b A v u
theorem ZU.key{k:Nat}{A:ax}(r:ZU k A){n:Nat}(h:n<=200):A.units+n<cLine:=by have:=r.un;lia
inductive Jj(x y:V)(H:Hp)(Q:VK):Prop
 |mk(a b:_)(_:ZE H a x)(_:ZE H b y)(_:a.depth<=200)(_:Q (.bl (!a.eqb b)) H)
inductive HW(x y:V)(H:Hp)(Q:VK):Prop
 |mk(a b:_)(_:ZE H a x)(_:ZE H b y)(_:a.cmp b=true)(_:a.depth<=200)(_:Q (.bl (a.plt b)) H)
theorem Ia{k:Nat}(g:ZU k X.A):Y4 X (az .NotEq) Jj:=by
 intro c s l H x y v u Q I i j h;let⟨a,b,d,e,f,q⟩:=h;exact BY a b X.A v u (VZ I a x v d i) (VZ I b y u e j) (ZU.key g f) X.prog X.w X.xe _ ⟨.bl _,H,I,Z,q⟩
theorem ZO9{k:Nat}(i:ZU k X.A):Y4 X (az .Lt) HW:=by
 intro c s m H x y v u Q I j l h;let⟨a,b,d,e,f,g,q⟩:=h;exact De a.depth a b X.A v u (zY _) (VZ I a x v d j) (VZ I b y u e l) f (ZU.key i g) X.prog X.w X.xe _ ⟨.bl _,H,I,Z,q⟩
mutual
def Wa(w:aw):KT->Int
 | .int i=>hashInt i
 | .str x=>Eg w (.inr x)
 | .tup l=>reduceHash (Builtin.Tuple.tupleHashOf (hashL w l))
def hashL(w:aw):jo->jy
 | []=>[]
 | t::l=>Wa w t::hashL w l
end
theorem Ez(w:aw):∀(l m:jo),hashL w (l++m)=hashL w l++hashL w m
 | [],m=>by rw[hashL];rfl
 | t::l,m=>by rw[vU,hashL,hashL,Ez w l m];rfl
theorem K6:∀(n:Nat)(t:KT){A:ax}{E:ja}{s:am}{v:aj}{Q:Int->am->Prop},t.depth<=n->ZH s.heap t v->A.units+t.depth<cLine->(∀ d,s.toks<=d->Q (Wa w t) { s with toks:=d })->aB (aA prog w) A (pyHash v) Q E s
 | n,.int i,A,E,s,v,Q,_,x,B,q=>by
  rw[ZH] at x;let⟨t,rfl⟩:=x;rw[Wa] at q;exact wpAny_pyHash_int (q _ (tV _))
 | n,.str i,A,E,s,v,Q,_,x,B,q=>by
  rw[ZH] at x;let⟨t,rfl⟩:=x;rw[Wa] at q;exact wpAny_pyHash_str (q _ (tV _))
 | 0,.tup l,A,E,s,v,Q,D,x,B,q=>by rw[KT.depth] at D;lia
 | n+1,.tup l,A,E,s,v,Q,D,x,B,q=>by
  rw[KT.depth] at D B;rw[ZH] at x;let⟨a,N,rfl,I,R⟩:=x;let z:=I.typeIs;let⟨o,M,S,nn,K⟩:=I;unfold pyHash
  first | unfold pyHashByItsType | skip
  first | refine aa (wpAny_cRoomFor_or (.inr ∅) ?_) | skip
  refine aa (wpAny_specialOf z sU.lookup ?_);show aB _ _ (if (some (Value.builtin "tuple.__hash__")==some Value.none)=true then _ else _) Q E s
  rw[aK (by rw[beq_builtin_none];exact zT)]
  refine aa (wpAny_specialOf z sU.lookup ?_);show aB _ _ (callSpecialIfBoundUnlessNone? (.ref a) "__hash__" _ >>= _) Q E s;refine aa (wpAny_callSpecialIfBoundUnlessNone?_slot z sU (wpAny_call_entry sU z PySem.F.entry_tuple_hash ?_ (PySem.F.args_tuple_hash_1 _)));show aB _ _ (Builtin.Tuple.tupleItemsOf (.ref a) >>= _) _ _ s;refine aa (wpAny_tupleItemsOf M K (aa ?_));rw[<-rV];refine wpAny_forIn_list _ (λrest (b:Array Int) H=>∃ h c d,l=h++c/\jY s.heap c rest/\b.toList=hashL w h/\H={ s with toks:=d }/\s.toks<=d) _ ?_ ?_ _ _ ⟨[],l,s.toks,Z,R,by rw[hashL],Z,zY _⟩
  ·rintro x rest b H ⟨h,c,d,k,f,C,rfl,p⟩
   cases c with
   | nil=>rw[jY] at f;cases f
   | cons t c=>
    rw[jY] at f;let⟨U,T,e,O,P⟩:=f;injection e with e1 e2;subst e1 e2;let L:t.depth<=kc l:=by rw[k];exact PY (by simp)
    refine aa (K6 n t (s:={ s with toks:=d }) ∅ O (by show A.units+1+_<_;lia) λy J=>?_)
    let m:∃ j r u,l=j++r/\jY s.heap r rest/\(b.push (Wa w t)).toList=hashL w j/\({ s with toks:=y }:am)={ s with toks:=u }/\s.toks<=u:=
     ⟨h++[t],c,y,by rw[k];simp,P,by rw[uX,C,Ez,hashL,hashL],rfl,zO p J⟩
    first | exact ad m | exact aa (ad (ad m))
  ·rintro b H ⟨h,c,d,k,f,C,rfl,p⟩
   cases c with
   | cons t c=>rw[jY] at f;let⟨_,_,e,_⟩:=f;cases e
   | nil=>
    rw[zK] at k;subst k;show aB _ _ (retInt (Builtin.Tuple.tupleHashOf b.toList)) _ _ _;rw[C];refine wpAny_ret_mkInt ?_;show aB _ _ (if (decide (-(2:Int) ^ 63<=Builtin.Tuple.tupleHashOf (hashL w l))&&decide (Builtin.Tuple.tupleHashOf (hashL w l)<2 ^ 63))=true then _ else _) Q E _
    let g:=q (d+1) ∅
    rw[Wa] at g;unfold reduceHash at g;split
    ·rename_i G
     rw[aM G] at g;exact ad g
    ·rename_i G
     rw[aK G] at g;exact aa (ai (ad g))
theorem J4:∀(n:Nat)(t:KT){A:ax}{E:ja}{s:am}{v:aj}{Q:Bool->am->Prop},t.depth<=n->ZH s.heap t v->Q true s->aB (aA prog w) A (eqIsQuiet n v) Q E s
 | n,.int i,A,E,s,v,Q,_,x,q=>by
  rw[ZH] at x;let⟨t,rfl⟩:=x;rw[eqIsQuiet_byValue n rfl];exact ad q
 | n,.str i,A,E,s,v,Q,_,x,q=>by
  rw[ZH] at x;let⟨t,rfl⟩:=x;rw[eqIsQuiet_byValue n rfl];exact ad q
 | 0,.tup l,A,E,s,v,Q,f,x,q=>by rw[KT.depth] at f;lia
 | n+1,.tup l,A,E,s,v,Q,f,x,q=>by
  rw[KT.depth] at f;rw[ZH] at x;let⟨a,h,rfl,m,B⟩:=x;let k:=m.typeIs;let⟨o,u,C,nn,p⟩:=m;unfold eqIsQuiet;refine aa (wpAny_specialOf k PySem.F.slot_tuple_eq.lookup ?_);show aB _ _ (isInstance (.ref a) (.type "tuple") >>= _) _ _ s;refine aa (wpAny_isInstance k isSubtype_tuple_tuple ?_);simp only[tR,xE,if_false];refine aa (wpAny_seqItems u p (aa ?_));show aB _ _ (forIn h.toArray _ _) _ _ s;rw[<-rV];refine wpAny_forIn_list _ (λrest r j=>r.1=none/\j=s/\∃ b,jY s.heap b rest/\kc b<=n) _ ?_ ?_ _ _ ⟨Z,Z,l,B,∅⟩
  ·rintro x rest r j ⟨g,rfl,b,c,d⟩
   cases b with
   | nil=>rw[jY] at c;cases c
   | cons t b=>
    rw[jY] at c;let⟨I,D,e,y,z⟩:=c;injection e with e1 e2;subst e1 e2;rw[kc] at d;refine aa (J4 n t ∅ y ?_)
    simp only[tR,xE,if_false];exact ad ⟨Z,Z,b,z,∅⟩
  ·rintro⟨G,H⟩ j ⟨g,rfl,_⟩;dsimp only at g;subst g;exact ad q
structure NT(w:aw)(h:aD)(ks:jo)(es:Array DictEntry):Prop where
 len:es.size=ks.length
 ent:∀(i:Nat)(e:DictEntry),es[i]? = some e->∃ t,ks[i]? = some t/\e.hash=Wa w t/\ZH h t e.key/\t.depth<=3
 nd:ks.Nodup
theorem NT.uniq{h:aD}{b:jo}{d:Array DictEntry}(x:NT w h b d){i j:Nat}{t:KT}(c:b[i]? = some t)(e:b[j]? = some t):i=j:=by
 let⟨a,f⟩:=yZ.mp c;exact(List.getElem?_inj a x.nd).mp (c.trans e.symm)
theorem NT.get{h:aD}{f:jo}{b:Array DictEntry}(x:NT w h f b){j:Nat}{t:KT}(d:f[j]? = some t):∃ e,b[j]? = some e/\e.hash=Wa w t/\ZH h t e.key/\t.depth<=3:=by
 let⟨a,_⟩:=yZ.mp d;let l:j<b.size:=by have:=x.len;lia
 let e:b[j]? = some b[j]:=xA l;let⟨m,c,g,i,k⟩:=x.ent j _ e;rw[d] at c;cases c;exact⟨_,e,g,i,k⟩
theorem HD{v:aj}{a:je}{Q:Bool->am->Prop}(i:∃ t,ZH s.heap t v/\t.depth<=8)(f:∀ u∈a,∃ t,ZH s.heap t u/\t.depth<=8)(h:Q false s):aB (aA prog w) A (tableMayTell v a) Q E s:=by
 unfold tableMayTell;refine wpAny_ite_split (λ_=>ad h) (λ_=>?_);let⟨t,kv,e⟩:=i;refine aa (J4 8 t e kv ?_);simp only[tR,xE,if_false];refine aa ?_;refine wpAny_forIn_list _ (λrest r c=>c=s/\r=(none,())/\∀ u∈rest,u∈a) _ ?_ ?_ _ _ ⟨Z,Z,λ_ z=>z⟩
 ·rintro u rest r c ⟨rfl,rfl,d⟩;let⟨j,QC,b⟩:=f u (d u (zS ..));refine aa (J4 8 j b QC ?_);simp only[tR,xE,if_false];exact ad ⟨Z,Z,λu g=>d u (zQ _ g)⟩
 ·rintro r c ⟨rfl,rfl,_⟩;exact ad h
theorem ZM8{d:ak}{o:aH}{c:Array DictEntry}{ep:Nat}{X:jo}{t:KT}{v:aj}{Q:js->am->Prop}(M:ZH s.heap t v)(dt:t.depth<=3)(hu:A.units+3<cLine)(U:s.heap.get? d=some o)(T:o.data=.dict c ep)(x:NT w s.heap X c)(a2:t∉X->Q none s)(F:∀ j,X[j]? = some t->Q (some j) s):aB (aA prog w) A (dictFind d v (Wa w t)) Q E s:=by
 let N:∀ j,X[j]? = some t->j∈placesWithHash c.size (λi=>c[i]?.map (·.hash)) (Wa w t):=λj k=>by
  let⟨e,n,B,_⟩:=x.get k;let⟨lt,_⟩:=tZ.mp n;unfold placesWithHash;rw[xF,xO];exact⟨lt,by show (Option.map _ c[j]? == _)=true;rw[n,wA,B];simp⟩
 let G:∀ i,i∈placesWithHash c.size (λi=>c[i]?.map (·.hash)) (Wa w t)->∃ e u,c[i]? = some e/\e.hash=Wa w t/\X[i]? = some u/\ZH s.heap u e.key/\u.depth<=3:=λi K=>by
  unfold placesWithHash at K;rw[xF,xO] at K;let n:c[i]? = some c[i]:=xA K.1;let⟨u,B,_,C,D⟩:=x.ent i _ n;have:(Option.map (·.hash) c[i]? == some (Wa w t))=true:=K.2;rw[n,wA] at this;exact⟨_,u,n,by simpa using this,B,C,D⟩
 let a5:(placesWithHash c.size (λi=>c[i]?.map (·.hash)) (Wa w t)).Nodup:=by
  unfold placesWithHash;exact List.nodup_range.filter _
 let p:∀(u:KT)(e:DictEntry),ZH s.heap u e.key->u.depth<=3->SeqAt.EqAt A s e.key v (u.eqb t):=λu e k1 d1=>Pv u.depth u t A e.key v (zY _) k1 M ∅
 let m:∀ u∈(placesWithHash c.size (λi=>c[i]?.map (·.hash)) (Wa w t)).filterMap (λi=>c[i]?.map (·.key)),∃ t,ZH s.heap t u/\t.depth<=8:=λu hu=>by
  let⟨i,K,e⟩:=tJ.mp hu;let⟨en,z,n,_,_,C,D⟩:=G i K;rw[n,wA] at e;cases e;exact⟨z,C,∅⟩
 unfold dictFind
 try with_reducible refine af ?_
 refine aa (wpAny_dictEntries U T ?_);generalize hP:placesWithHash c.size (λi=>c[i]?.map (·.hash)) (Wa w t)=pl at N G a5 m;let O:aB (aA prog w) A (dictWalkPlain d v (Wa w t) c pl) Q E s:=by
  unfold dictWalkPlain;refine aa ?_;refine wpAny_forIn_list _ (λrest b s'=>s'=s/\b=(none,())/\(∀ i∈rest,i∈pl)/\∀ i∈pl,i∈rest\/X[i]? ≠ some t) _ ?_ ?_ _ _ ⟨Z,Z,λ_ z=>z,λ_ z=>.inl z⟩
  ·rintro i rest b s' ⟨rfl,rfl,h1,H⟩;let⟨e,u,n,B,J,C,D⟩:=G i (h1 i (zS ..));rw[n];dsimp only;rw[B,aM (by simp)]
   refine aa (wpAny_dictEpoch U T (aa (p u e C D prog w _ _ (aa (wpAny_dictEpoch U T ?_)))));rw[aK (by simp)]
   cases I:u.eqb t with
   | true=>
    have:u=t:=V1 u t I;subst this;rw[aM rfl];exact aa (ai (ad (ad (F i J))))
   | false=>
    rw[aK zT];refine aa (ai (ad ⟨rfl,rfl,λj k=>h1 j (zQ _ k),λj k=>?_⟩));rcases H j k with z | z
    ·rcases zL.mp z with z | z
     ·subst z;refine .inr λz=>?_;rw[J] at z;cases z;rw[UB] at I;cases I
     ·exact .inl z
    ·exact .inr z
  ·rintro b s' ⟨rfl,rfl,_,H⟩;refine ad (a2 λz=>?_);let⟨j,k⟩:=sY.mp z;rcases H j (N j k) with q | q
   ·cases q
   ·exact q k
 let L:∀(f:Nat->Option (js)×js->Sem (ForInStep (Option (js)×js)))(g:Option (js)×js->Sem (js)),(∀ r,g (some r,none)=pure r)->(∀ h,g (none,h)=pure h) ->
   (∀ i u e (R:ForInStep (Option (js)×js)->am->Prop),c[i]? = some e->e.hash=Wa w t->ZH s.heap u e.key->u.depth<=3->u=t->R (.done (some (some i),none)) s->R (.yield (none,some i)) s->aB (aA prog w) A (f i (none,none)) R E s) ->
   (∀ i u e a1 (R:ForInStep (Option (js)×js)->am->Prop),c[i]? = some e->e.hash=Wa w t->ZH s.heap u e.key->u.depth<=3->u≠t->R (.yield (none,a1)) s->aB (aA prog w) A (f i (none,a1)) R E s) ->
   aB (aA prog w) A (forIn pl (none,none) f >>= g) Q E s:=λf g g1 g2 f1 f2=>by
  refine aa ?_;refine wpAny_forIn_list _ (λrest b s'=>s'=s/\rest.Nodup/\(∀ i∈rest,i∈pl)/\((b=(none,none)/\∀ i∈pl,i∈rest\/X[i]? ≠ some t)\/∃ j,b=(none,some j)/\X[j]? = some t/\j∉rest)) _ ?_ ?_ _ _ ⟨Z,a5,λ_ z=>z,.inl ⟨Z,λ_ z=>.inl z⟩⟩
  ·rintro i rest b s' ⟨rfl,nd,h1,H⟩;let⟨e,u,n,B,J,C,D⟩:=G i (h1 i (zS ..));let V:=xU.mp nd;let a0:∀ j∈rest,j∈pl:=λj k=>h1 j (zQ _ k);by_cases I:u=t
   ·let S:=J;rw[I] at S;rcases H with ⟨rfl,H⟩ | ⟨j,rfl,k,hn⟩
    ·refine f1 i u e _ n B C D I ?_ ?_
     ·show aB _ _ (g (some (some i),none)) _ _ _;rw[g1];exact ad (F i S)
     ·exact⟨Z,V.2,a0,.inr ⟨i,Z,S,V.1⟩⟩
    ·have:i=j:=x.uniq S k;exact absurd (this ▸ zS ..) hn
   ·rcases H with ⟨rfl,H⟩ | ⟨j,rfl,k,hn⟩
    ·refine f2 i u e none _ n B C D I ⟨Z,V.2,a0,.inl ⟨Z,λj k=>?_⟩⟩;rcases H j k with z | z
     ·rcases zL.mp z with z | z
      ·subst z;exact .inr λz=>I (by rw[J] at z;exact yT.inj z)
      ·exact .inl z
     ·exact .inr z
    ·exact f2 i u e (some j) _ n B C D I ⟨Z,V.2,a0,.inr ⟨j,Z,k,λz=>hn (zQ _ z)⟩⟩
  ·rintro b s' ⟨rfl,_,_,H⟩;rcases H with ⟨rfl,H⟩ | ⟨j,rfl,k,hn⟩
   ·rw[g2];refine ad (a2 λz=>?_);let⟨j,k⟩:=sY.mp z;rcases H j (N j k) with q | q
    ·cases q
    ·exact q k
   ·rw[g2];exact ad (F j k)
 let vs:(∃ a,v=.ref a)\/(∃ i P,v=.int i P)\/∃ y P,v=.str y P/\t=.str y:=by
  cases t with
  | int i=>rw[ZH] at M;let⟨P,e⟩:=M;exact .inr (.inl ⟨i,P,e⟩)
  | str y=>rw[ZH] at M;let⟨P,e⟩:=M;exact .inr (.inr ⟨y,P,e,rfl⟩)
  | tup l=>rw[ZH] at M;let⟨a,_,e,_⟩:=M;exact .inl ⟨a,e⟩
 rcases vs with ⟨a,rfl⟩ | ⟨i,P,rfl⟩ | ⟨y,P,rfl,ht⟩
 case' inl=>
  dsimp only;rw[aK (by simp[carriedByValue])]
  let a3:¬ (c.any λe=>e.key==Value.ref a&&e.hash != Wa w t)=true:=by
   rw[<-Array.any_toList,uL];rintro⟨e,a6,hc⟩;let⟨j,k⟩:=sY.mp a6;rw[yP] at k;let⟨u,_,B,J,_⟩:=x.ent j e k;rw[zF] at hc;rw[eq_of_beq hc.1] at J;have:u=t:=V1 _ _ (ZH.inj _ _ _ J M);rw[B,this] at hc;simp at hc
  rw[aK a3];refine wpAny_ite_split (λ_=>aa (ad ?_)) (λ_=>aa (HD ⟨t,M,∅⟩ m ?_))
 case' inr.inl=>
  dsimp only;refine wpAny_ite_split (λ_=>O) (λ_=>?_);refine wpAny_ite_split (λ_=>aa (ad ?_)) (λ_=>aa (HD ⟨t,M,∅⟩ m ?_))
 case' inr.inr=>
  let Y:aB (aA prog w) A (foundByValue d (.str y P) c y) Q E s:=by
   unfold foundByValue
   cases hf:c.findIdx? (λe=>e.key.isStr y) with
   | none=>
    refine ad (a2 λz=>?_);let⟨j,k⟩:=sY.mp z;let⟨e,n,B,J,_⟩:=x.get k;have:=Array.findIdx?_eq_none_iff.mp hf e (Array.mem_of_getElem? n);rw[ht,ZH] at J;let⟨W,ek⟩:=J;rw[ek] at this;simp[Value.isStr] at this
   | some i=>
    let⟨a7,K,_⟩:=Array.findIdx?_eq_some_iff_getElem.mp hf;let n:c[i]? = some c[i]:=xA a7;let⟨u,B,J,C,D⟩:=x.ent i _ n;let a4:u=t:=by
     let hs:∃ W,c[i].key=.str y W:=by
      cases q:c[i].key with
      | str z tz=>rw[q] at K;simp[Value.isStr] at K;exact⟨tz,by rw[K]⟩
      | _=>rw[q] at K;simp[Value.isStr] at K
     let⟨W,ek⟩:=hs;let hk:ZH s.heap (.str y) c[i].key:=by rw[ZH];exact⟨W,ek⟩
     rw[ht];exact V1 _ _ (ZH.inj _ _ _ C hk)
    dsimp only;rw[n];dsimp only;refine aa (wpAny_dictEpoch U T (aa (p u _ C D prog w _ _ (aa (wpAny_dictEpoch U T ?_)))));rw[aK (by simp),a4,UB,aM rfl]
    exact aa (ai (ad (F i (by rw[B,a4]))))
  dsimp only;refine wpAny_ite_split (λ_=>Y) (λ_=>?_);refine wpAny_ite_split (λ_=>O) (λ_=>?_);refine wpAny_ite_split (λ_=>aa (ad ?_)) (λ_=>aa (HD ⟨t,M,∅⟩ m ?_))
 all_goals
  rw[aK (by simp)]
  refine L _ _ (λr=>rfl) (λh=>rfl) (λi u e R n B C D I r1 r2=>?_) (λi u e a1 R n B C D I r1=>?_)
  ·rw[n];dsimp only;rw[B,aM (by simp)]
   refine aa (wpAny_dictEpoch U T (aa (p u e C D prog w _ _ (aa (wpAny_dictEpoch U T ?_)))));rw[aK (by simp),I,UB,aM rfl]
   simp only[Option.isSome_none,xE,if_false];refine aa (ai (wpAny_ite_split (λ_=>ad r1) (λ_=>ad r2)))
  ·rw[n];dsimp only;rw[B,aM (by simp)]
   refine aa (wpAny_dictEpoch U T (aa (p u e C D prog w _ _ (aa (wpAny_dictEpoch U T ?_)))));let hf:u.eqb t=false:=by
    cases q:u.eqb t with
    | false=>rfl
    | true=>exact absurd (V1 _ _ q) I
   rw[aK (by simp),hf,aK zT]
   refine aa (ai ?_);rw[aK (by simp)]
   exact ad r1
end Tw
namespace L2
open PySem PySem.Spec PyProof.Rows
theorem Zb.there{P:ao}{w:aw}{H:Hp}{h:aD}{a:ak}:∀{o:HO},Zb P w H h a o->∃ b,h.get? a=some b:=by
 intro o x
 induction o with
 | lst l=>let⟨z,j,n,r,e⟩:=x;exact⟨_,e⟩
 | tup l=>let⟨z,j,r,b,e,c⟩:=x;exact⟨_,e⟩
 | dK k=>let⟨z,y,G,r,b,i,g,e,c⟩:=x;exact⟨_,e⟩
 | dT k=>let⟨z,y,l,r,b,i,g,e,c⟩:=x;exact⟨_,e⟩
 | set S n=>let⟨b,i,g,t,e,c⟩:=x;exact⟨_,e⟩
 | ins C p m=>let⟨d,z,D,e,_⟩:=x;exact⟨_,e⟩
 | own y=>exact x
 | xd m=>let⟨B,⟨E,i,g,e,c⟩,r⟩:=x;exact⟨_,e⟩
 | rng A q=>let⟨t,u,v,e⟩:=x;exact⟨_,e⟩
 | frz b u s=>exact⟨_,x.1⟩
 | tbl F=>exact⟨_,x⟩
 | met f y=>exact⟨_,x⟩
 | ext I=>exact x.2.1
theorem Y5.there{P:ao}{w:aw}{H:Hp}{h:aD}{a:ak}(x:Y5 P w H h)(n:H a≠none):∃ b,h.get? a=some b:=by
 cases e:H a with
 | none=>exact absurd e n
 | some o=>exact Zb.there (x a o e)
theorem Y5.keptT{P:ao}{w:aw}{H:Hp}{h d:aD}(x:Y5 P w H h)(k:∀ b u,h.get? b=some u->H b≠none->d.get? b=some u):Y5 P w H d:=λa o e=>
 (x a o e).stay (λb u c q=>k b u q (by
  rcases c with rfl | c
  ·rw[e];exact λz=>nomatch z
  ·rw[c];exact λz=>nomatch z)) (λ_ q=>q) λ_ _ q=>q
section
variable{ki:jq}{σ:St}{H H':Hp}{s':am}{E:XK}
theorem ZG.noloc(I:ZG X ki σ H s):X.s₀.heap.get? X.env.locals=none:=rN I.ok.above
theorem GW(I:ZG X ki σ H s):∀ b∈frs X.stack,∀ o,s.heap.get? b=some o->∀ a,o.data≠.fields a:=λb c o q a z=>by
 let⟨_,f,e,d⟩:=I.stack.mem c;rw[q] at e;cases e;exact d a z
end
end L2
namespace L2
open PySem PySem.Spec PySem.W PyProof.Rows
def Oy(x C:ak)(h:aD):Prop:=∃ o,h.get? x=some o/\o.cls=.ref C
theorem Oy.ty{x C:ak}{h:aD}(I:Oy x C h)(M:Model):Looks M h (typeOf (.ref x)) (.ref C):=by
 let⟨o,e,c⟩:=I;rw[<-c];exact Looks.andThen (Looks.ld e) Looks.now
section
variable{K:Frag}{x C:ak}
end
end L2
namespace L2
open PySem PySem.Spec PyProof.Rows
def Cx.held(X:Cx)(a:ak)(E:ja):Cx:={ X with A:=X.A.mark (some (.ref a)),calm:=false,xe:=E }
section
variable{ki:jq}{σ:St}{H H':Hp}{s':am}{ea:ak}
end
section
variable{x C CB:ak}
end
end L2
namespace Tw
open PySem
inductive TG where
 | int (i:Int)
 | str (x:Str)
 | tup (l:List TG)
 | odd (n:String)
mutual
def TG.fits:TG->Nat->Bool
 | .int i,_=>decide (i.natAbs<10 ^ 60)
 | .str x,_=>Pm x
 | .tup l,r=>decide (0<r)&&(decide (l.length<=4)&&gfitsL l (r-1))
 | .odd _,_=>false
def gfitsL:List TG->Nat->Bool
 | [],_=>true
 | t::l,r=>t.fits r&&gfitsL l r
end
theorem CZ(r:Nat):∀ l:List TG,gfitsL l r=l.all λt=>t.fits r
 | []=>by simp[gfitsL]
 | t::l=>by rw[gfitsL,uU,CZ r l]
mutual
def KT.emb:KT->TG
 | .int i=>.int i
 | .str x=>.str x
 | .tup l=>.tup (embL l)
def embL:jo->List TG
 | []=>[]
 | t::l=>t.emb::embL l
end
theorem M4:∀ l:jo,embL l=l.map KT.emb
 | []=>by rw[embL];rfl
 | t::l=>by rw[embL,M4 l];rfl
mutual
theorem JY:∀(t:KT)(r:Nat),t.emb.fits r=t.fits r
 | .int i,r=>by rw[KT.emb,TG.fits,KT.fits]
 | .str x,r=>by rw[KT.emb,TG.fits,KT.fits]
 | .tup l,r=>by rw[KT.emb,TG.fits,KT.fits,embL_fits l (r-1),M4,zX]
theorem embL_fits:∀(l:jo)(r:Nat),gfitsL (embL l) r=fitsL l r
 | [],r=>by rw[embL,gfitsL,fitsL]
 | t::l,r=>by rw[embL,gfitsL,fitsL,JY t r,embL_fits l r]
end
mutual
def TG.neat:TG->Prop
 | .int _=>True
 | .str x=>x.length<=1000
 | .tup l=>l.length<=5/\neatL l
 | .odd _=>True
def neatL:List TG->Prop
 | []=>True
 | t::l=>t.neat/\neatL l
end
theorem Hx:∀{l:List TG}{t:TG},neatL l->t∈l->t.neat
 | [],_,_,h=>by cases h
 | u::l,t,h,hm=>by
  rw[neatL] at h;rcases zL.mp hm with e | e
  ·subst e;exact h.1
  ·exact Hx h.2 e
mutual
theorem HA:∀(t:KT)(r:Nat),t.fits r=true->t.emb.neat
 | .int i,r,h=>by rw[KT.emb,TG.neat];trivial
 | .str x,r,h=>by
  rw[KT.fits] at h;rw[KT.emb,TG.neat];have:=(ZNm h).1;exact zO this (by decide)
 | .tup l,r,h=>by
  rw[KT.fits,zF,zF] at h;rw[KT.emb,TG.neat,M4,zX,<-M4];have:=of_decide_eq_true h.2.1;exact⟨∅,embL_neat l (r-1) h.2.2⟩
theorem embL_neat:∀(l:jo)(r:Nat),fitsL l r=true->neatL (embL l)
 | [],r,h=>by rw[embL,neatL];trivial
 | t::l,r,h=>by
  rw[fitsL,zF] at h;rw[embL,neatL];exact⟨HA t r h.1,embL_neat l r h.2⟩
end
end Tw
namespace L2
open PySem PySem.Spec PyProof.Rows
theorem ZG.big{a:jq}{b:St}{H:Hp}{s:am}(I:ZG X a b H s):sysModules<s.heap.objs.size:=by
 let h:aq<s.heap.objs.size:=(I.mod.glob.keeps I.bk).lt;exact Nat.lt_trans (by decide) h
theorem D8{P:ao}{w:aw}{H:Hp}(h:aD)(a:sysModules<h.objs.size):Zb P w H (h.push { cls:=.type "dict",data:=.dict #[] }) h.objs.size (.dK []):=
 ⟨zM _,beq_eq_false_iff_ne.mpr (Ne.symm (yK a)),[],.nil,Heap.DictOf.new h⟩
def BS:TE:=λ_ H Q=>∀ p,H p=none->Q (.ref p) (upd H p (.dK []))
theorem IM{pos:Pos}:PE X (.Dict [] [] pos) BS:=λb s c H Q I h=>
 wpAny_Dict_empty ⟨.ref s.heap.objs.size,_,I.laid (a:=s.heap.objs.size) (o:=.dK []) (t':=s.toks) (λ_ _ q=>zA _ q) (zY _) (D8 s.heap I.big),rfl,h _ (I.hok.fresh (zY _))⟩
section
variable{κ:Type}[DecidableEq κ]
def YU(a:List (κ×V))(k:κ):jg:=(a.find? λkv=>decide (kv.1=k)).map (·.2)
def Yj(a:List (κ×V))(k:κ)(v:V):List (κ×V):=
 if (a.any λkv=>decide (kv.1=k))=true then a.map (λkv=>if kv.1=k then (kv.1,v) else kv) else a++[(k,v)]
def Wk(a:List (κ×V))(k:κ):List (κ×V):=a.filter λkv=>decide (kv.1≠k)
theorem UP{p:κ×V}{r:List (κ×V)}{k:κ}(e:p.1=k):YU (p::r) k=some p.2:=by simp[YU,vP,e]
theorem UU{p:κ×V}{r:List (κ×V)}{k:κ}(e:¬ p.1=k):YU (p::r) k=YU r k:=by simp[YU,vP,e]
theorem NL(k:κ):∀ a:List (κ×V),(a.any λkv=>decide (kv.1=k))=(YU a k).isSome
 | []=>rfl
 | p::r=>by
  rw[uT];by_cases e:p.1=k
  ·simp only[UP e,aJ e,Bool.true_or,Option.isSome_some]
  ·rw[UU e,aI e,Bool.false_or];exact NL k r
theorem FU(k j:κ)(y:V):∀ a:List (κ×V),YU (a.map λkv=>if kv.1=k then (kv.1,y) else kv) j=(YU a j).map λx=>if j=k then y else x
 | []=>rfl
 | p::r=>by
  let b:=FU k j y r;rw[yV];by_cases h:p.1=k
  ·rw[aM h];by_cases e:p.1=j
   ·rw[UP (p:=(p.1,y)) e,UP e,wA,aM (e.symm.trans h)]
   ·rw[UU (p:=(p.1,y)) e,UU e,b]
  ·rw[aK h];by_cases e:p.1=j
   ·rw[UP (p:=p) e,UP e,wA,aK (λz=>h (e.trans z))]
   ·rw[UU (p:=p) e,UU e,b]
theorem Ei(k j:κ)(y:V):∀ a:List (κ×V),YU a k=none->YU (a++[(k,y)]) j=if j=k then some y else YU a j
 | [],_=>by
  by_cases e:k=j
  ·rw[aM e.symm];exact UP (p:=(k,y)) e
  ·rw[aK (λz=>e z.symm)];exact UU (p:=(k,y)) e
 | p::r,hn=>by
  rw[vU];let b:¬ p.1=k:=λz=>by rw[UP z] at hn;cases hn
  rw[UU b] at hn;let c:=Ei k j y r hn;by_cases e:p.1=j
  ·rw[UP e,UP e,aK (λz=>b (e.trans z))]
  ·rw[UU e,UU e,c]
theorem Ks(b:List (κ×V))(k j:κ)(y:V):YU (Yj b k y) j=if j=k then some y else YU b j:=by
 unfold Yj;by_cases a:(b.any λkv=>decide (kv.1=k))=true
 ·rw[aM a,FU];rw[NL] at a;by_cases e:j=k
  ·let⟨x,c⟩:=sT.mp a;rw[aM e,e,c,wA,aM rfl]
  ·rw[aK e]
   cases YU b j with
   | none=>rfl
   | some x=>rw[wA,aK e]
 ·rw[aK a];refine Ei k j y b ?_;rw[NL] at a
  cases q:YU b k with
  | none=>rfl
  | some x=>rw[q] at a;exact(a Z).elim
theorem Hj(a:List (κ×V))(k:κ)(v:V):(Yj a k v).length<=a.length+1:=by
 unfold Yj;split
 ·rw[zX];lia
 ·rw[zW,zI,List.length_nil];lia
theorem LV{a:List (κ×V)}{k:κ}(v:V)(h:YU a k=none):Yj a k v=a++[(k,v)]:=by
 unfold Yj;rw[NL,h];exact aK (by decide)
theorem Yn.isSome_eq{o:jg}{u:jd}(r:Yn o u):o.isSome=u.isSome:=by
 cases o with
 | none=>cases u with
  | none=>rfl
  | some _=>exact(show False from r).elim
 | some _=>cases u with
  | none=>exact(show False from r).elim
  | some _=>rfl
theorem Yn.getD{o:jg}{u:jd}{d:V}{a:aj}(r:Yn o u)(rd:ZP d a):ZP (o.getD d) (u.getD a):=by
 cases o with
 | none=>cases u with
  | none=>exact rd
  | some _=>exact(show False from r).elim
 | some _=>cases u with
  | none=>exact(show False from r).elim
  | some _=>exact r
theorem KV.val{a:List (κ×V)}{g:List (κ×aj)}(r:KV a g)(k:κ):Yn (YU a k) (valueAt g k):=by
 unfold KV at r
 induction r with
 | nil=>exact True.intro
 | @cons p q l d h t j=>
  let⟨f,i⟩:=h;by_cases e:p.1=k
  ·let c:q.1=k:=f.symm.trans e;let b:valueAt (q::d) k=some q.2:=by simp[valueAt,vP,c]
   rw[UP e,b];exact i
  ·let c:¬ q.1=k:=λz=>e (f.trans z);let b:valueAt (q::d) k=valueAt d k:=by simp[valueAt,vP,c]
   rw[UU e,b];exact j
theorem KV.any{a:List (κ×V)}{b:List (κ×aj)}(r:KV a b)(k:κ):(a.any λkv=>decide (kv.1=k))=b.any λkv=>decide (kv.1=k):=by
 unfold KV at r
 induction r with
 | nil=>rfl
 | cons h t c=>rw[uT,uT,c,h.1]
theorem KV.repl{a:List (κ×V)}{c:List (κ×aj)}(r:KV a c)(k:κ){y:V}{u:aj}(g:ZP y u):
  KV (a.map λkv=>if kv.1=k then (kv.1,y) else kv) (c.map λkv=>if kv.1=k then (kv.1,u) else kv):=by
 unfold KV at r⊢
 induction r with
 | nil=>exact .nil
 | @cons p q i j h t f=>
  rw[yV,yV];refine .cons ?_ f;let⟨b,d⟩:=h;by_cases e:p.1=k
  ·rw[aM e,aM (b.symm.trans e)];exact⟨b,g⟩
  ·rw[aK e,aK (λz=>e (b.trans z))];exact⟨b,d⟩
theorem KV.put{a:List (κ×V)}{b:List (κ×aj)}(r:KV a b)(k:κ){y:V}{u:aj}(c:ZP y u):KV (Yj a k y) (stored b k u):=by
 unfold Yj stored;rw[r.any k];by_cases e:(b.any λkv=>decide (kv.1=k))=true
 ·rw[aM e,aM e];exact r.repl k c
 ·rw[aK e,aK e];exact Paired.snoc r ⟨Z,c⟩
theorem KV.drop{c:List (κ×V)}{g:List (κ×aj)}(r:KV c g)(k:κ):KV (Wk c k) (without g k):=by
 unfold KV at r⊢;unfold Wk without
 induction r with
 | nil=>exact .nil
 | @cons p q l m h t f=>
  let⟨d,j⟩:=h;rw[yE,yE];by_cases e:p.1=k
  ·let a:¬ decide (p.1≠k)=true:=by simp[e]
   let b:¬ decide (q.1≠k)=true:=by simp[d.symm.trans e]
   rw[aK a,aK b];exact f
  ·let i:¬ q.1=k:=λz=>e (d.trans z);let a:decide (p.1≠k)=true:=by simp[e]
   let b:decide (q.1≠k)=true:=by simp[i]
   rw[aM a,aM b];exact .cons ⟨d,j⟩ f
theorem KV.keys{a:List (κ×V)}{b:List (κ×aj)}(r:KV a b):a.map (·.1)=b.map (·.1):=by
 unfold KV at r
 induction r with
 | nil=>rfl
 | cons h t c=>rw[yV,yV,c,h.1]
theorem KV.length{a:List (κ×V)}{b:List (κ×aj)}(r:KV a b):a.length=b.length:=Paired.length r
theorem Cy(a:List (κ×V))(k:κ):(Wk a k).length<=a.length:=vB _ _
end
theorem Ow{P:ao}{w:aw}{k:ZT}{u:aj}(r:ZP (kV k) u):(Wv P w).is k u=true:=by
 cases k with
 | inl i=>let⟨t,e⟩:=(show ∃ t,u=Value.int i t from r);subst e;exact B7 P w i t
 | inr x=>let⟨t,e⟩:=(show ∃ t,u=Value.str x t from r);subst e;exact ZGn P w x t
theorem CA{P:ao}{w:aw}:∀{a:jA}{b:je},ZO (a.map kV) b->ItemsAre (Wv P w) a b
 | [],_,r=>by rw[uD] at r;cases r;exact .nil
 | k::a,_,r=>by
  rw[yV] at r
  cases r with
  | cons h t=>exact .cons (Ow h) (CA t)
abbrev KT(H:Hp):List (jA×V)->List (jA×ak×aj)->Prop:=Paired λp q=>p.1=q.1/\H q.2.1=some (.tup (p.1.map kV))/\ZP p.2 q.2.2
theorem KT.val{H:Hp}{a:List (jA×V)}{g:List (jA×ak×aj)}(r:KT H a g)(k:jA):Yn (YU a k) ((atKey g k).map (·.2)):=by
 induction r with
 | nil=>exact True.intro
 | @cons p q l d h t j=>
  let⟨f,_,i⟩:=h;by_cases e:p.1=k
  ·let c:q.1=k:=f.symm.trans e;let b:atKey (q::d) k=some q.2:=by simp[atKey,vP,c]
   rw[UP e,b];exact i
  ·let c:¬ q.1=k:=λz=>e (f.trans z);let b:atKey (q::d) k=atKey d k:=by simp[atKey,vP,c]
   rw[UU e,b];exact j
theorem KT.repl{H:Hp}{a:List (jA×V)}{d:List (jA×ak×aj)}(r:KT H a d)(k:jA){y:V}{u:aj}(i:ZP y u):
  KT H (a.map λkv=>if kv.1=k then (kv.1,y) else kv) (d.map (putAt k u)):=by
 induction r with
 | nil=>exact .nil
 | @cons p q j l h t g=>
  rw[yV,yV];refine .cons ?_ g;let⟨b,c,f⟩:=h;unfold putAt;by_cases e:p.1=k
  ·rw[aM e,aM (b.symm.trans e)];exact⟨b,c,i⟩
  ·rw[aK e,aK (λz=>e (b.trans z))];exact⟨b,c,f⟩
theorem KT.put{H:Hp}{a:List (jA×V)}{c:List (jA×ak×aj)}(r:KT H a c)(k:jA){b:ak}{y:V}{u:aj}(f:H b=some (.tup (k.map kV)))(d:ZP y u):
  KT H (Yj a k y) (storedH c k b u):=by
 let e:(a.any λkv=>decide (kv.1=k))=(atKey c k).isSome:=by
  rw[NL,(r.val k).isSome_eq,Option.isSome_map]
 unfold Yj storedH;rw[e];by_cases q:(atKey c k).isSome=true
 ·rw[aM q,aM q];exact r.repl k d
 ·rw[aK q,aK q];exact Paired.snoc r ⟨Z,f,d⟩
theorem KT.keeps{H c:Hp}{a:List (jA×V)}{d:List (jA×ak×aj)}(r:KT H a d)(f:∀ b e,H b=some (.tup e)->c b=some (.tup e)):KT c a d:=
 Paired.mapP r λ_ _ z=>⟨z.1,f _ _ z.2.1,z.2.2⟩
section
variable{H:Hp}{h:aD}{a:ak}
theorem Hz{u:HO}(b:Y5 P w H h)(e:Rd H a u):Zb P w H h a u:=e.ok b
theorem OU{b:List (ZT×V)}(d:Y5 P w H h)(e:Rd H a (.dK b)):b.length<=ar/\(a==sysModules)=false/\∃ c,KV b c/\h.DictOf (Wv P w) a c:=
 show Zb P w H h a (.dK b) from Hz d e
theorem KB{b:List (ZT×V)}(d:Y5 P w H h)(e:H a=some (.dK b)):b.length<=ar/\(a==sysModules)=false/\∃ c,KV b c/\h.DictOf (Wv P w) a c:=OU d (.inl e)
theorem N6{c:jA}(i:Y5 P w H h)(e:H a=some (.tup (c.map kV))):(tupleKind (Wv P w)).is h c a:=by
 let⟨_,b,r,o,d,f,n,g⟩:=(show Zb P w H h a (.tup (c.map kV)) from i a _ e);exact⟨o,b.toArray,n,d,f,g,by simpa using CA r⟩
theorem NI{b:List (jA×V)}(i:Y5 P w H h)(e:Rd H a (.dT b)):b.length<=ar/\(a==sysModules)=false /\
  ∃ d,KT H b d/\h.DictOfH (tupleKind (Wv P w)) a d:=by
 let⟨z,y,d,r,o,k,j,n,s,u,v,A⟩:=(show Zb P w H h a (.dT b) from Hz i e);refine⟨z,y,d,r,o,k,j,n,s,u,v,λx c=>?_,A⟩;let f:∀{l:List (jA×V)}{m:List (jA×ak×aj)},KT H l m->∀ x∈m,(tupleKind (Wv P w)).is h x.1 x.2.1:=by
  intro l m q
  induction q with
  | nil=>intro x c;exact nomatch c
  | @cons p q C D g t B=>
   intro x c;rcases zL.mp c with e | c
   ·subst e;exact N6 i (by rw[<-g.1];exact g.2.1)
   ·exact B x c
 exact f r x c
theorem B0{b:List (jA×V)}(d:Y5 P w H h)(e:H a=some (.dT b)):b.length<=ar/\(a==sysModules)=false /\
  ∃ c,KT H b c/\h.DictOfH (tupleKind (Wv P w)) a c:=NI d (.inl e)
end
def Yq(H:Hp)(a:ak)(y:V)(r:jg):Prop:=
 (∃ c k,Rd H a (.dK c)/\y=kV k/\r=YU c k)\/∃ c k b,Rd H a (.dT c)/\y=.ref b/\H b=some (.tup (k.map kV))/\r=YU c k
def Vw(H:Hp)(a:ak)(y v:V)(d:Hp):Prop:=
 (∃ c k,H a=some (.dK c)/\y=kV k/\c.length<ar/\d=upd H a (.dK (Yj c k v))) \/
 ∃ c k b,H a=some (.dT c)/\y=.ref b/\H b=some (.tup (k.map kV))/\c.length<ar/\d=upd H a (.dT (Yj c k v))
theorem Yq.k{H:Hp}{a:ak}{b:List (ZT×V)}{k:ZT}(e:H a=some (.dK b)):Yq H a (kV k) (YU b k):=.inl ⟨b,k,.inl e,Z,Z⟩
theorem Vw.k{H:Hp}{a:ak}{b:List (ZT×V)}{k:ZT}{v:V}(e:H a=some (.dK b))(c:b.length<ar):Vw H a (kV k) v (upd H a (.dK (Yj b k v))):=.inl ⟨b,k,e,Z,c,Z⟩
section
variable{ki:jq}{σ:St}{H:Hp}{a:ak}{y v:V}{u r:aj}{o:jg}
theorem ZIZ{Q:ja}(F:A.units+1<cLine)(I:ZG X ki σ H s)(g:Yq H a y (some v))(t:ZP y u)(h:∀ f x,ZG X ki σ H x->ZP v f->Q f x):
  aB (aA X.prog X.w) A (getItem (.ref a) u) Q E s:=by
 rcases g with ⟨q,k,e,j,l⟩ | ⟨q,k,b,e,j,B,l⟩
 ·subst j;let⟨z,C,G,c,i⟩:=OU I.hok e;let⟨f,n,d⟩:=Yn.some_of (v:=v) (o:=valueAt G k) (by rw[l];exact c.val k)
  exact wpAny_getItem_of (Ow t) i.mapOf n (h f _ (I.tok _) d)
 ·subst j;cases(show u=Value.ref b from t);let⟨z,C,J,c,i⟩:=NI I.hok e;let⟨f,n,d⟩:=Yn.some_of (v:=v) (o:=(atKey J k).map (·.2)) (by rw[l];exact c.val k)
  let⟨p,D,m⟩:=xZ.mp n;refine wpAny_getItem_heap (tupleKind_room_in1 F) (N6 I.hok B) i D ?_;rw[m];exact h f _ (I.tok _) d
theorem ZMx{Q:ja}(t:A.units+1<cLine)(I:ZG X ki σ H s)(g:Yq H a y o)(m:ZP y u)(h:∀ n,ZG X ki σ H n->Q (.bool (!o.isSome)) n):
  aB (aA X.prog X.w) A (az .NotIn u (.ref a)) Q E s:=by
 rcases g with ⟨j,k,e,f,l⟩ | ⟨j,k,b,e,f,p,l⟩
 ·subst f;let⟨z,i,x,c,d⟩:=OU I.hok e;refine wpAny_notIn_of (Ow m) i d.mapOf ?_;rw[<-(c.val k).isSome_eq,<-l];exact h _ (I.tok _)
 ·subst f;cases(show u=Value.ref b from m);let⟨z,i,B,c,d⟩:=NI I.hok e;refine wpAny_notIn_heap (tupleKind_room_in1 t) (N6 I.hok p) i d ?_;let q:=(c.val k).isSome_eq;rw[Option.isSome_map] at q;rw[<-q,<-l];exact h _ (I.tok _)
theorem Mp{c:aD}{k:Nat}{f:HO}(I:ZG X ki σ H s)(j:NK (H a))(i:xP a s.heap c)(h:∃ q,c.get? a=some q)(d:Zb X.prog X.w (upd H a f) c a f):
  ZG X ki σ (upd H a f) { s with heap:=c,toks:=k }:=
 I.write (x:=a) (e:=a) j (.inl rfl) (λb q g z=>(i.2 b g).trans z) h d
theorem HY{P:ao}{w:aw}{f:Hp}{e:aD}{b:List (ZT×V)}{d:jN}(z:b.length<=ar)(h:(a==sysModules)=false)(c:KV b d)(g:e.DictOf (Wv P w) a d):
  Zb P w f e a (.dK b):=⟨z,h,d,c,g⟩
theorem AA{D:Hp}{Q:Unit->am->Prop}(V:A.units+1<cLine)(I:ZG X ki σ H s)(g:Vw H a y v D)(L:ZP y u)(K:ZP v r)(h:∀ M,ZG X ki σ D M->Q () M):
  aB (aA X.prog X.w) A (setItem (.ref a) u r) Q E s:=by
 rcases g with ⟨d,k,e,p,l,n⟩ | ⟨d,k,b,e,p,F,l,n⟩
 ·subst p n;let⟨z,t,W,f,m⟩:=KB I.hok e;let C:W.length<=sizeLine:=by rw[<-f.length];exact z
  let x:(Yj d k v).length<=sizeLine:=by have:=Hj d k v;lia
  refine wpAny_setItem_pairs (hsz:=C) (Ow L) m λJ i B=>h _ ?_;let U:∃ q,J.get? a=some q:=let ⟨q,_,_,j,_⟩:=i;⟨q,j⟩;exact Mp I (by rw[e];exact True.intro) B U (HY x t (f.put k K) i)
 ·subst p n;cases(show u=Value.ref b from L);let⟨z,t,Y,f,m⟩:=B0 I.hok e;let C:Y.length<=sizeLine:=by rw[<-Paired.length f];exact z
  let x:(Yj d k v).length<=sizeLine:=by have:=Hj d k v;lia
  refine wpAny_setItem_heap (hsz:=C) (tupleKind_room_in1 V) (N6 I.hok F) m λJ i B=>h _ ?_;let⟨q,O,N,j,P,R,S,_,T⟩:=i;refine Mp I (by rw[e];exact True.intro) B ⟨q,j⟩ ⟨x,t,_,(f.put k F K).keeps λc ys G=>?_,q,O,N,j,P,R,S,T⟩
  rw[ZQ (ZV G e (λz=>nomatch z))];exact G
end
section
variable{ki:jq}{σ:St}{H:Hp}{a:ak}{kvs:List (ZT×V)}{k:ZT}{u:aj}
theorem ZQL{v:V}{b:je}{Q:ja}(I:ZG X ki σ H s)(e:H a=some (.dK kvs))(j:ZP (kV k) u)(l:YU kvs k=some v)(n:b=[]\/∃ x,b=[x])(h:∀ f p,ZG X ki σ (upd H a (.dK (Wk kvs k))) p->ZP v f->Q f p):aB (aA X.prog X.w) A (call (.builtin "dict.pop") (.ref a::u::b)) Q E s:=by
 let⟨z,C,r,c,m⟩:=KB I.hok e;let⟨f,K,g⟩:=Yn.some_of (v:=v) (o:=valueAt r k) (by rw[<-l];exact c.val k)
 let G:(keyPart u).isSome=true:=by
  cases k with
  | inl i=>let⟨t,q⟩:=(show ∃ t,u=Value.int i t from j);subst q;rfl
  | inr x=>let⟨t,q⟩:=(show ∃ t,u=Value.str x t from j);subst q;rfl
 let B:argsOk "dict.pop" ⟨.ref a::u::b,[]⟩:=by
  rcases n with q | ⟨x,q⟩
  ·subst q;exact PySem.F.args_dict_pop_2 _ _
  ·subst q;exact PySem.F.args_dict_pop_3 _ _ _
 refine call_meetsIn pZ m.typeIs PySem.F.entry_dict_pop B (meets_dict_pop_there (Wv X.prog X.w) a (Ow j) b n G)
  ⟨r,f,m,by rw[<-c.length];exact z,K,λy d J=>h f _ ?_ g⟩
 let D:∃ q,y.get? a=some q:=let ⟨q,_,_,hq,_⟩:=d;⟨q,hq⟩;exact Mp I (by rw[e];exact True.intro) J D (HY (zO (Cy kvs k) z) C (c.drop k) d)
theorem BU{Q:ja}(I:ZG X ki σ H s)(e:Rd H a (.dK kvs))(h:∀ t c,ZG X ki σ H c->Q (.int kvs.length t) c):aB (aA X.prog X.w) A (call (.builtin "len") [.ref a]) Q E s:=by
 let⟨z,f,g,b,d⟩:=OU I.hok e;refine call_len_dict f d (by rw[<-b.length];rw[sizeLine_eq] at z;lia (splits:=8)) ?_
 rw[<-b.length];exact h _ _ (I.tok _)
end
def LF(i:Expr):Prop:=∀ b a,subscripted i false b a=operate [b,a] (getItem b a)
theorem Ck{a:ao}{w:aw}{A:ax}{E:ja}{s:am}{j:Env}{c b:Expr}{pos:Pos}{T id:String}{Q:ja}(p:typeLookup (.type T) "__getitem__" = pure (some (.builtin id)))(q:LF b)(h:aB (aA a w) A (aG c j) (λo f=>aB (aA a w) A (aG b j) (λi d=>d.TypeIs o T/\aB (aA a w) A (getItem o i) Q E d) E f) E s):
  aB (aA a w) A (aG (.Subscript c b pos) j) Q E s:=by
 refine Subscript_ (ae h (λo f l=>ae l (λi d e=>?_) λ_ _ x=>x) λ_ _ x=>x);let⟨n,e⟩:=e;unfold subscriptTail;refine aa ?_;rw[getitemInPython_of_ne n.not_modules];refine aa (wpAny_specialOf n p ?_);let k:aB (aA a w) A (subscripted b false o i) (λr g=>aB (aA a w) A (letTemporaryGo c o r >>= λ_=>pure r) Q E g) E d:=by
  rw[q o i];exact wpAny_operating (ae e (λr g m=>aa (wpAny_letTemporaryGo (ad m))) λ_ _ x=>x)
 first
  | exact ad (aa k)
  | exact aa (ad (aa k))
  | exact aa k
theorem ZGd{X:Cx}{c:jq}{h:St}{H:Hp}{s:am}{a:ak}{y:V}{o:jg}(I:ZG X c h H s)(g:Yq H a y o):s.TypeIs (.ref a) "dict" :=by
 rcases g with ⟨f,k,e,_,_⟩ | ⟨f,k,b,e,_,_,_⟩
 ·let⟨_,_,i,_,d⟩:=OU I.hok e;exact d.typeIs
 ·let⟨_,_,j,_,d⟩:=NI I.hok e;exact d.typeIs
inductive O7(Q:VK)(x y:V)(b:Hp):Prop
 |mk(a v:_)(_:x=.ref a)(_:Yq b a y (some v))(_:Q v b)
def Aq(d e:TE):TE:=λa H Q=>d a H λx b=>e a b λy c=>O7 Q x y c
inductive Qk(Q:VK)(y x:V)(b:Hp):Prop
 |mk(a o:_)(_:x=.ref a)(_:Yq b a y o)(_:Q (.bl (!o.isSome)) b)
def ZOC(e d:TE):TE:=λa H Q=>e a H λy b=>d a b λx c=>Qk Q y x c
inductive Oi(D:Y0)(d:L2.St)(v x y:V)(c:Hp):Prop
 |mk(a b:_)(_:x=.ref a)(_:Vw c a y v b)(_:D.nx d b)
def ZQD(e g f:TE):TS:=λD a H=>f a H λv b=>e a b λx c=>g a c λy d=>Oi D a v x y d
section
variable{o i e value:Expr}{pos pos' tpos:Pos}{td ty tv:TE}
theorem M0(t:X.A.units+1<cLine)(q:PE X o td)(p:PE X i ty)(r:LF i:=by exact λ_ _=>rfl):PE X (.Subscript o i pos) (Aq td ty):=by
 intro b s f H Q I h;refine Ck qH.lookup r (YF (q b s f H _ I h) λu D x j l B w=>Z3 (p b D f j _ l w) ?_);rintro E G ⟨y,k,d,C,a,v,n,g,z⟩;subst n;obtain rfl:u=Value.ref a:=B;exact⟨ZGd d g,ZIZ t d g C λK J m c=>⟨v,k,m,c,z⟩⟩
theorem Fh(q:X.A.units+1<cLine)(n:PE X i ty)(p:PE X o td):PC X .NotIn i o (ZOC ty td):=by
 intro b s c H Q I h;refine YF (n b s c H _ I h) λC B y d j z t=>Z3 (p b B c d _ j t) ?_;rintro u D ⟨x,f,k,w,a,r,m,g,v⟩;subst m;obtain rfl:u=Value.ref a:=w;exact ZMx q k g z λE l=>⟨.bl (!r.isSome),f,l,Z,v⟩
theorem Lj(z:X.A.units+1<cLine)(t:PE X o td)(q:PE X i ty)(B:PE X value tv)(w:swapsWith value (some (.Subscript o i pos')) pos.line X.env=pure false):
  PS X (.Assign [.Subscript o i pos'] value pos) (ZQD td ty tv):=by
 intro b s c H D I h;refine wpAny_Assign_Subscript (YF (B b s c H _ I h) λr L v d k G C=>YF (t b L c d _ k C) λu M x f l J E=>Z3 (q b M c f _ l E) λO P ⟨y,N,m,K,a,j,p,g,F⟩=>?_) w;subst p;obtain rfl:u=Value.ref a:=J;exact AA z m g K G λQ n=>⟨c,j,n,F⟩
end
section
variable{pos:Pos}
end
def Ie:jL->St->Hp->(List (V×V)->Hp->Prop)->Prop
 | [],_,H,Q=>Q [] H
 | (e,f)::r,σ,H,Q=>e σ H λx a=>f σ a λy b=>Ie r σ b λd c=>Q ((x,y)::d) c
abbrev VV:List (V×V)->List (aj×aj)->Prop:=Paired λp q=>ZP p.1 q.1/\ZP p.2 q.2
def LO(X:Cx)(pos:Pos)(c:List (jK))(a:jw)(d:jL):Prop:=
 ∀(b:jq)(s:am)(e:St)(H:Hp)(Q:List (V×V)->Hp->Prop),ZG X b e H s->Ie d e H Q ->
  aB (aA X.prog X.w) X.A (evalPairs (pairTrees c a X.env pos)) (λi h=>∃ g f,ZG X b e f h/\VV g i/\Q g f) X.xe s
theorem ZNW{X:Cx}{pos:Pos}:LO X pos [] [] []:=λa s b H Q I h=>pairTrees_nil_walk ⟨[],H,I,.nil,h⟩
theorem AW{X:Cx}{pos:Pos}{k v:Expr}{e:List (jK)}{i:jw}{f g:TE}{b:jL}(q:PE X k f)(t:PE X v g)(r:LO X pos e i b):
  LO X pos (some k::e) (v::i) ((f,g)::b):=λa s d H Q I h=>
 pairTrees_cons_walk (YF (q a s d H _ I h) λu E x j n C z=>YF (t a E d j _ n z) λJ F y l o D A=>
  YF (r a F d l _ o A) λK G w m p c B=>⟨(x,y)::w,m,p,.cons ⟨C,D⟩ c,B⟩)
def NV(c a:List (ZT×V)):List (ZT×V):=a.foldl (λb kv=>Yj b kv.1 kv.2) c
theorem KV.merge:∀{b:List (ZT×V)}{d:jN}{a:List (ZT×V)}{c:jN},KV b d->KV a c->KV (NV a b) (merged c d):=by
 intro b d a c r;unfold KV at r
 induction r generalizing a c with
 | nil=>intro q;exact q
 | @cons p q i j h t f=>
  intro g;let e:KV (Yj a p.1 p.2) (stored c q.1 q.2):=by
   have:=g.put p.1 h.2;rw[<-h.1];exact this
  exact f e
theorem GI:∀(b a:List (ZT×V)),(NV a b).length<=a.length+b.length
 | [],a=>by show a.length<=a.length+0;lia
 | p::r,a=>by
  let c:=GI r (Yj a p.1 p.2);let d:=Hj a p.1 p.2;show (NV (Yj a p.1 p.2) r).length<=_;rw[zI];lia
theorem EY{P:ao}{w:aw}:∀{d:List (ZT×V)}{f:List (aj×aj)},VV (d.map λkv=>(kV kv.1,kv.2)) f->∃ e,Carries (Wv P w) f e/\KV d e
 | [],_,r=>by rw[uD] at r;cases r;exact⟨[],True.intro,.nil⟩
 | p::d,_,r=>by
  rw[yV] at r
  cases r with
  | @cons a b i k h t=>
   let⟨e,c,q⟩:=EY (P:=P) (w:=w) t;let⟨j,g⟩:=b;exact⟨(p.1,g)::e,⟨Ow h.1,Z,c⟩,.cons ⟨Z,h.2⟩ q⟩
def ZQx(b:jL):TE:=λe H Q=>∀ p,H p=none->Ie b e (upd H p (.dK [])) λd c=>c p=some (.dK [])/\∃ a:List (ZT×V),d=a.map (λkv=>(kV kv.1,kv.2))/\a.length<=15/\Q (.ref p) (upd c p (.dK (NV [] a)))
theorem ZNA{X:Cx}{pos:Pos}{b:List (jK)}{d:jw}{k:jL}(h:LO X pos b d k)(g:b.all (·.isSome)=true)(B:b.length=d.length)(v:b≠[])(l:b.length<=15):PE X (.Dict b d pos) (ZQx k):=by
 intro j s L H Q I q;let C:=I.hok.fresh (zY s.heap.objs.size);let p:=I.laid (a:=s.heap.objs.size) (o:=.dK []) (h':=s.heap.push { cls:=.type "dict",data:=.dict #[] }) (t':=s.toks) (λ_ _ q=>zA _ q) (zY _) (D8 s.heap I.big);refine wpAny_Dict_walk (knd:=Wv X.prog X.w) g B v l (Z3 (h j _ L _ _ p (q _ C)) ?_);rintro S R ⟨O,M,n,m,e,i,t,N,F⟩;subst t;let⟨J,c,rk⟩:=EY (P:=X.prog) (w:=X.w) m;let⟨z,y,K,G,r⟩:=KB n.hok e;cases G;refine⟨J,c,r,λu f D=>⟨.ref s.heap.objs.size,_,?_,Z,F⟩⟩;let E:(NV [] i).length<=sizeLine:=by
  let x:=GI i [];rw[List.length_nil] at x;rw[sizeLine_eq];lia
 let A:∃ q,u.get? s.heap.objs.size=some q:=let ⟨q,_,_,hq,_⟩:=f;⟨q,hq⟩;exact Mp n (by rw[e];exact True.intro) D A (HY E y (rk.merge .nil) f)
structure M1(X:Cx)(o:Expr)(m:Str)(ji:Pos)(e:Expr)(jh:Pos):Prop where
 base:attributeBase o m X.env (aG o X.env)=aG o X.env
 few:((aF jh (au [e] X.env)).all (λx=>!x.1)&&(backToKw jh (keywordEach [] X.env)).all (λx=>x.1.isSome)
  && decide (([e]:jw).length+([]:List Keyword).length+(if ([]:List Keyword).isEmpty then 0 else 1)<30))=true
 line:(ji.endLine==jh.line)=true
 trees:aF jh (au [e] X.env)=[(false,aG e X.env)]
structure M2(X:Cx)(o:Expr)(m:Str)(ji:Pos)(e f:Expr)(jh:Pos):Prop where
 base:attributeBase o m X.env (aG o X.env)=aG o X.env
 few:((aF jh (au [e,f] X.env)).all (λx=>!x.1)&&(backToKw jh (keywordEach [] X.env)).all (λx=>x.1.isSome)
  && decide (([e,f]:jw).length+([]:List Keyword).length+(if ([]:List Keyword).isEmpty then 0 else 1)<30))=true
 line:(ji.endLine==jh.line)=true
 trees:aF jh (au [e,f] X.env)=[(false,aG e X.env),(false,aG f X.env)]
def KY(H:Hp)(a:ak):Prop:=(∃ b,Rd H a (.dK b))\/∃ b,Rd H a (.dT b)
theorem Ee{X:Cx}{g:jq}{l:St}{H:Hp}{s:am}{a:ak}(I:ZG X g l H s)(d:KY H a):
  s.TypeIs (.ref a) "dict" /\ (∀ b,Value.ref a=.ref b->∃ c,s.heap.get? b=some c/\c.dict=none)/\(a==sysModules)=false:=by
 rcases d with ⟨k,e⟩ | ⟨k,e⟩
 ·let⟨_,j,m,_,f⟩:=OU I.hok e;refine⟨f.typeIs,λb q=>?_,j⟩;cases q;let⟨c,_,_,h,i,_⟩:=f;exact⟨c,h,i.2.1⟩
 ·let⟨_,j,n,_,f⟩:=NI I.hok e;refine⟨f.typeIs,λb q=>?_,j⟩;cases q;let⟨c,_,_,h,i,_⟩:=f;exact⟨c,h,i.2.1⟩
section
variable{ki:jq}{σ:St}{H:Hp}{a:ak}{y d:V}{u r:aj}{o:jg}
theorem ZPe{Q:ja}(v:A.units+1<cLine)(I:ZG X ki σ H s)(g:Yq H a y o)(n:ZP y u)(rd:ZP d r)(h:∀ q p,ZG X ki σ H p->ZP (o.getD d) q->Q q p):
  aB (aA X.prog X.w) A (call (.builtin "dict.get") [.ref a,u,r]) Q E s:=by
 rcases g with ⟨m,k,e,i,l⟩ | ⟨m,k,b,e,i,t,l⟩
 ·subst i;let⟨z,j,B,c,f⟩:=OU I.hok e;refine call_meetsIn rG f.typeIs qS (qO _ _ _) (meets_dict_get_default (Wv X.prog X.w) a (Ow n) j r) ⟨_,f.mapOf,h _ _ (I.tok _) ?_⟩;rw[l];exact(c.val k).getD rd
 ·subst i;cases(show u=Value.ref b from n);let⟨z,j,x,c,f⟩:=NI I.hok e;refine call_meetsIn rG f.typeIs qS (qO _ _ _) (meetsH_dict_get_default (tupleKind (Wv X.prog X.w)) a b j r) ⟨tupleKind_room_in1 v,k,x,N6 I.hok t,f,h _ _ (I.tok _) ?_⟩;rw[l];exact(c.val k).getD rd
end
inductive Pf(g f:TE)(d:L2.St)(Q:VK)(x:V)(b:Hp):Prop
 |mk(a:_)(_:x=.ref a)(_:KY b a)(_:g d b λy e=>f d e λz c=>∃ o,Yq c a y o/\Q (o.getD z) c)
def AU(c e d:TE):TE:=λa H Q=>c a H λx b=>Pf e d a Q x b
inductive Pc(e:TE)(f:L2.St)(Q:VK)(x:V)(c:Hp):Prop
 |mk(a:_)(_:x=.ref a)(_:KY c a)(_:e f c λy d=>∃ b k v,d a=some (.dK b)/\y=kV k/\YU b k=some v/\Q v (upd d a (.dK (Wk b k))))
def BF(c d:TE):TE:=λa H Q=>c a H λx b=>Pc d a Q x b
section
variable{o e f:Expr}{ji jh:Pos}{td ty tx:TE}
theorem Jx(C:X.A.units+1<cLine)(B:PE X o td)(v:PE X e ty)(w:PE X f tx)(m:M2 X o "get" ji e f jh):PE X (.Call (.Attribute o "get" ji) [e,f] [] jh) (AU td ty tx):=by
 intro b s i H Q I h;refine wpAny_Call_method m.base m.few m.line qN rG PySem.F.type_dict_get (Z3 (B b s i H _ I h) ?_);rintro u M ⟨x,k,j,J,a,t,d,D⟩;subst t;obtain rfl:u=Value.ref a:=J;let⟨O,P,_⟩:=Ee j d;exists O,P;rw[m.trees];refine Calls.callWith_builtin Z (Calls.evalArgs_plain (Calls.spliced_cons (YF (v b M i k _ j D) λS N y l p K E=>
  Calls.spliced_cons (Z3 (w b N i l _ p E) λR U ⟨z,n,q,L,T,g,G⟩=>Calls.spliced_nil ?_))))
 exact ZPe C q g K L λW V r c=>⟨_,n,r,c,G⟩
theorem ZKm(z:PE X o td)(w:PE X e ty)(m:M1 X o "pop" ji e jh):PE X (.Call (.Attribute o "pop" ji) [e] [] jh) (BF td ty):=by
 intro b s i H Q I h;refine wpAny_Call_method m.base m.few m.line qN pZ PySem.F.type_dict_pop (Z3 (z b s i H _ I h) ?_);rintro u G ⟨x,j,g,D,a,r,d,B⟩;subst r;obtain rfl:u=Value.ref a:=D;let⟨J,K,_⟩:=Ee g d;exists J,K;rw[m.trees];refine Calls.callWith_builtin Z (Calls.evalArgs_plain (Calls.spliced_cons (Z3 (w b G i j _ g B) λM N ⟨y,L,n,E,A,k,v,q,t,l,C⟩=>Calls.spliced_nil ?_)));subst t;exact ZQL n q E l (.inl rfl) λP O p c=>⟨v,_,p,c,C⟩
end
section
variable{ki:jq}{σ:St}{H:Hp}{a:ak}{kvs:List (ZT×V)}
end
section
variable{ki:jq}{σ:St}{H:Hp}{a:ak}{y:V}{u:aj}
end
inductive US(c:jf)(H:Hp)(Q:VK):Prop
 |mk(a b:_)(_:c=[V.ref a])(_:H a=some (.dK b))(_:Q (.int b.length) H)
theorem E7:Va X (.builtin "len") (US):=by
 intro c s k H j i Q I r h;let⟨a,b,rfl,e,q⟩:=h;let⟨u,rfl,f⟩:=UV r;cases f;exact BU I (.inl e) λt g d=>⟨.int b.length,H,d,⟨t,Z⟩,q⟩
section
variable{κ:Type}[DecidableEq κ]
theorem Ij{a:List (κ×V)}{k:κ}{v:V}(h:YU a k=some v):k∈a.map (·.1):=by
 let q:(a.any λkv=>decide (kv.1=k))=true:=by
  rw[NL,h]
  all_goals rfl
 let⟨p,b,e⟩:=uL.mp q;exact zR.mpr ⟨p,b,of_decide_eq_true e⟩
theorem ZJ9{p:κ×V}{r:List (κ×V)}{k:κ}(e:p.1=k):Wk (p::r) k=Wk r k:=by
 unfold Wk;rw[yE,aK (by simp[e])]
theorem ZIa{p:κ×V}{r:List (κ×V)}{k:κ}(e:¬ p.1=k):Wk (p::r) k=p::Wk r k:=by
 unfold Wk;rw[yE,aM (by simp[e])]
end
end L2
namespace Tw
open PySem PySem.Spec L2 PyProof.Rows
def NO(d:ak)(a:Array DictEntry):HO:=.ext λh=>(d==sysModules)=false/\a.size<=ar/\∃ o b,h.get? d=some o/\o.ExactDict/\o.data=.dict a b
abbrev NY(w:aw)(x:KT×V×V)(e:DictEntry):Prop:=e.hash=Wa w x.1/\ZP x.2.1 e.key/\ZP x.2.2 e.val
structure YZ(w:aw)(H:Hp)(d:ak)(xs:List (KT×V×V)):Prop where
 ex:∃ es,H d=some (NO d es)/\Paired (NY w) xs es.toList
 key:∀ x∈xs,ZE H x.1 x.2.1/\x.1.depth<=3
 nd:(xs.map (·.1)).Nodup
theorem Gq{P:ao}{w:aw}{H:Hp}{h:aD}{d:ak}{e:Array DictEntry}(i:(d==sysModules)=false)(j:e.size<=ar)(f:∃ o c,h.get? d=some o/\o.ExactDict/\o.data=.dict e c):Zb P w H h d (NO d e):=by
 exists ⟨i,j,f⟩,?_
 ·let⟨o,c,g,_⟩:=f;exact⟨o,g⟩
 ·rintro a b ⟨l,m,o,c,g,r⟩ k;exact⟨l,m,o,c,k o g,r⟩
theorem Ot{d c:Type}{F:d->c->Prop}:∀{l:List d}{m:List c}{i:Nat}{b:c},Paired F l m->m[i]? = some b->∃ a,l[i]? = some a/\F a b
 | _,_,_,_,.nil,e=>by simp at e
 | _,_,0,_,.cons r _,e=>by simp at e;subst e;exact⟨_,Z,r⟩
 | _,_,i+1,b,.cons _ t,e=>by
  let⟨a,f,g⟩:=Ot (i:=i) (b:=b) t (by simpa using e)
  exact⟨a,by simpa using f,g⟩
theorem Kn{c d:Type}{F:c->d->Prop}:∀{l:List c}{m:List d},l.length=m.length->(∀(i:Nat) a b,l[i]? = some a->m[i]? = some b->F a b)->Paired F l m
 | [],[],_,_=>.nil
 | [],_::_,h,_=>by simp at h
 | _::_,[],h,_=>by simp at h
 | a::l,b::m,h,f=>.cons (f 0 a b Z Z) (Kn (by simpa using h) λi x y e g=>f (i+1) x y (by simpa using e) (by simpa using g))
theorem Ib{c d:Type}{F:c->d->Prop}{a:c}{b:d}(h:F a b){l:List c}{m:List d}(g:Paired F l m):Paired F (l++[a]) (m++[b]):=by
 induction g with
 | nil=>exact .cons h .nil
 | cons r _ e=>exact .cons r e
def Pt(a:List (KT×V×V))(t:KT):jg:=(a.find? λx=>x.1.eqb t).map (·.2.2)
def P9(t:KT)(v:V)(x:KT×V×V):KT×V×V:=if x.1.eqb t=true then (x.1,x.2.1,v) else x
def QT(a:List (KT×V×V))(t:KT)(y v:V):List (KT×V×V):=if (a.any λx=>x.1.eqb t)=true then a.map (P9 t v) else a++[(t,y,v)]
theorem Xm{b:List (KT×V×V)}{t:KT}:(b.any λx=>x.1.eqb t)=true ↔ t∈b.map (·.1):=by
 rw[uL,zR];constructor
 ·rintro⟨x,a,e⟩;exact⟨x,a,V1 _ _ e⟩
 ·rintro⟨x,a,e⟩;exact⟨x,a,by rw[e];exact UB _⟩
theorem Kf(t:KT)(v:V)(x:KT×V×V):(P9 t v x).1=x.1/\(P9 t v x).2.1=x.2.1:=by
 unfold P9;split <;> exact⟨Z,Z⟩
theorem ZJW(a:List (KT×V×V))(t:KT)(y v:V):(QT a t y v).map (·.1)=if (a.any λx=>x.1.eqb t)=true then a.map (·.1) else a.map (·.1)++[t]:=by
 unfold QT;split
 ·rw[vN];exact List.map_congr_left λx _=>(Kf t v x).1
 ·rw[zD];rfl
theorem DQ{a:List (KT×V×V)}(c:(a.map (·.1)).Nodup){j:Nat}{x:KT×V×V}(e:a[j]? = some x):Pt a x.1=some x.2.2:=by
 induction a generalizing j with
 | nil=>simp at e
 | cons z a f=>
  rw[yV,xU] at c
  cases j with
  | zero=>
   simp at e;subst e;simp[Pt,UB]
  | succ j=>
   let d:a[j]? = some x:=by simpa using e
   let b:z.1.eqb x.1=false:=by
    cases q:z.1.eqb x.1 with
    | false=>rfl
    | true=>exact absurd (zR.mpr ⟨x,zJ d,(V1 _ _ q).symm⟩) c.1
   have:=f c.2 d;simpa [Pt,vP,b] using this
theorem B6{a:List (KT×V×V)}{t:KT}(h:t∉a.map (·.1)):Pt a t=none:=by
 unfold Pt;rw[Option.map_eq_none_iff,List.find?_eq_none];intro x b z;exact h (zR.mpr ⟨x,b,V1 _ _ z⟩)
theorem YZ.same{w:aw}{H a:Hp}{d:ak}{c:List (KT×V×V)}(x:YZ w H d c)(s:ZD H a):YZ w a d c:=by
 let⟨e,f,g⟩:=x.ex;exact⟨⟨e,s _ _ f,g⟩,λz b=>⟨(x.key z b).1.mono (ZD.tups s),(x.key z b).2⟩,x.nd⟩
theorem YZ.but{w:aw}{H H':Hp}{d p:ak}{b:List (KT×V×V)}(x:YZ w H d b)(s:ZK p H H')(t:Zt H H')(n:d≠p):YZ w H' d b:=by
 let⟨c,e,f⟩:=x.ex;exact⟨⟨c,s _ _ e n,f⟩,λz a=>⟨(x.key z a).1.mono t,(x.key z a).2⟩,x.nd⟩
section
variable{ki:jq}{σ:L2.St}{H:Hp}
theorem YZ.es{d:ak}{a:List (KT×V×V)}{c:Array DictEntry}(I:ZG X ki σ H s)(x:YZ X.w H d a)(r:Paired (NY X.w) a c.toList):NT X.w s.heap (a.map (·.1)) c:=by
 refine⟨by have:=Paired.length r;simpa using this.symm,λi e f=>?_,x.nd⟩
 rw[<-yP] at f;let⟨z,b,h,j,k⟩:=Ot r f;let g:=x.key z (zJ b);exact⟨z.1,by rw[zC,b];rfl,h,VZ I _ _ _ g.1 j,g.2⟩
theorem Ed{d:ak}{f:List (KT×V×V)}{b:Array DictEntry}{o:aH}{q:Nat}{t:KT}{y:V}{u:aj}{Q:js->am->Prop}(I:ZG X ki σ H s)(x:YZ X.w H d f)(r:Paired (NY X.w) f b.toList)(B:s.heap.get? d=some o)(v:o.data=.dict b q)(D:ZE H t y)(m:t.depth<=3)(G:ZP y u)(C:A.units+3<cLine)(h:t∉f.map (·.1)->Q none s)(c:∀ j z e,f[j]? = some z->z.1=t->b[j]? = some e->NY X.w z e->Q (some j) s):aB (aA X.prog X.w) A (dictFind d u (Wa X.w t)) Q E s:=by
 refine ZM8 (VZ I t y u D G) m C B v (x.es I r) h λj l=>?_;rw[zC] at l;let⟨z,g,n⟩:=xZ.mp l;let F:j<b.size:=by
  have:=Paired.length r;let⟨a,_⟩:=yZ.mp g;simp at this
  lia
 let i:b[j]? = some b[j]:=xA F;let⟨J,k,p⟩:=Ot r (by rw[yP];exact i)
 rw[g] at k;cases k;exact c j z _ g n i p
theorem AM{d:ak}{l:List (KT×V×V)}{t:KT}{y v:V}{u r:aj}{Q:Unit->am->Prop}(hu:A.units+4<cLine)(I:ZG X ki σ H s)(x:YZ X.w H d l)(hl:l.length<1000)(hy:ZE H t y)(dt:t.depth<=3)(ry:ZP y u)(rv:ZP v r)(h:∀ s' H',ZG X ki σ H' s'->ZK d H H'->YZ X.w H' d (QT l t y v)->Q () s'):aB (aA X.prog X.w) A (setItem (.ref d) u r) Q E s:=by
 let⟨p,hH,k⟩:=x.ex;let⟨⟨O,P,o,W,F,hx,B⟩,_⟩:=I.hok d _ hH;let S:p.size=l.length:=by have:=Paired.length k;simpa using this.symm
 let hT:s.TypeIs (.ref d) "dict" :=⟨o,F,hx.1⟩;unfold setItem
 try with_reducible refine af ?_
 refine aa (wpAny_sequenceKey hT (by decide) ?_)
 refine aa (wpAny_callSpecial?_slot (name:=wY "__setitem__") hT slot_dict_setitem (wpAny_call_entry slot_dict_setitem hT entry_dict_setitem ?_ (args_dict_setitem _ _ _)));show aB _ _ (Builtin.Dict.notOrdered "__setitem__" ⟨[.ref d,u,r],[]⟩ >>= _) _ _ s;refine aa (wpAny_notOrdered_dict hT ?_);show aB _ _ (dictSet d u r >>= _) _ _ s;refine aa ?_;unfold dictSet
 try with_reducible refine af ?_
 refine aa (K6 t.depth t (zY _) (VZ I t y u hy ry) (by show A.units+1+_<_;lia) λT a1=>?_)
 unfold dictSetHashed
 try with_reducible refine af ?_
 let I1:ZG X ki σ H { s with toks:=T }:=I.tok T;let mu:NK (H d):=by rw[hH];exact True.intro
 let f:∀ c,Zt H (upd H d (NO d c)):=λc b ws e=>by rw[ZQ (ZV e hH)];exact e
 let L:∀(c:Array DictEntry)(Y:aD),c.size<=ar->xP d s.heap Y->(∃ o W,Y.get? d=some o/\o.ExactDict/\o.data=.dict c W)->Paired (NY X.w) (QT l t y v) c.toList->Q () { s with heap:=Y,toks:=T }:=λc Y G hs N hp=>by
  refine h _ (upd H d (NO d c)) (Mp I mu hs (by let⟨o,_,g,_⟩:=N;exact⟨o,g⟩) (Gq O G N)) (λb o e n=>by rw[ZQ n];exact e) ⟨⟨c,ZX,hp⟩,λz G=>?_,?_⟩
  ·unfold QT at G;split at G
   ·let⟨z',R,rfl⟩:=zR.mp G;rw[(Kf t v z').1,(Kf t v z').2];exact⟨(x.key z' R).1.mono (f c),(x.key z' R).2⟩
   ·rcases yW.mp G with q | q
    ·exact⟨(x.key z q).1.mono (f c),(x.key z q).2⟩
    ·rw[zH.mp q];exact⟨hy.mono (f c),dt⟩
  ·rw[ZJW];split
   ·exact x.nd
   ·rename_i hn
    rw[yA];exact⟨x.nd,by simp,λa ha b m=>by rw[zH.mp m];exact λz=>hn (Xm.mpr (z ▸ ha))⟩
 refine aa (Ed (A:=A.in1) I1 x k F B hy dt ry (by show A.units+1+3<_;lia) (λhn=>?_) λj z e e1 U e3 e4=>?_)
 ·let D:¬ (l.any λx=>x.1.eqb t)=true:=λq=>hn (Xm.mp q);refine aa (ai (wpAny_updateDictKeys (s:={ s with toks:=T }) (hz:=P) F B ?_));refine ad ⟨.none,Z,ad (L (p.push ⟨Wa X.w t,u,r⟩) _ (by rw[Array.size_push,S];exact xX (Ym ∅)) (xP.update ..) ⟨_,W+1,vC _ F (Obj.isFreed_of_dict (Obj.data_mapDictKeys B _)),hx.mapDictKeys _,Obj.data_mapDictKeys B _⟩ ?_)⟩
  unfold QT;rw[aK D,uX];exact Ib ⟨Z,ry,rv⟩ k
 ·let D:(l.any λx=>x.1.eqb t)=true:=Xm.mpr (zR.mpr ⟨z,zJ e1,U⟩);refine aa (ai (aa (wpAny_updateDict (s:={ s with toks:=T }) F B (wpAny_point ?_))));refine ad ⟨.none,Z,ad (L (p.modify j λe=>{ e with val:=r }) _ (by rw[Array.size_modify];exact P) (xP.update ..) ⟨_,W,vC _ F (Obj.isFreed_of_dict (Obj.data_mapDict B _)),hx.mapDict _,Obj.data_mapDict B _⟩ ?_)⟩
  unfold QT;rw[aM D];let lm:(p.modify j λe=>{ e with val:=r }).toList.length=p.size:=by rw[yH];exact Array.size_modify
  refine Kn (by rw[lm,zX,S]) λi a b ha m=>?_
  rw[zC] at ha;let⟨a',J,rfl⟩:=xZ.mp ha;rw[yP,Array.getElem?_modify] at m;let M:p[i]? = some (p[i]'(by let⟨l1,_⟩:=yZ.mp J;lia)):=xA _
  let⟨a2,K,r1,r2,r3⟩:=Ot k (by rw[yP];exact M)
  rw[J] at K;cases K;rw[M] at m;by_cases C:j=i
  ·subst C;rw[aM rfl,wA] at m;cases m;rw[e1] at J;cases J;unfold P9;rw[U,UB,aM rfl];rw[U] at r1;exact⟨r1,r2,rv⟩
  ·rw[aK C] at m;cases m;let a0:a'.1.eqb t=false:=by
    cases q:a'.1.eqb t with
    | false=>rfl
    | true=>
     let q1:(l.map (·.1))[i]? = some t:=by rw[zC,J];exact congrArg some (V1 _ _ q)
     let q2:(l.map (·.1))[j]? = some t:=by rw[zC,e1];exact congrArg some U
     let⟨l1,_⟩:=yZ.mp q2;exact absurd ((List.getElem?_inj l1 x.nd).mp (q2.trans q1.symm)) C
   unfold P9;rw[a0,aK zT];exact⟨r1,r2,r3⟩
end
end Tw
namespace L2
open PySem PySem.Spec PyProof.Rows
section
variable{T:String}{r d:ak}{n:Nat}{P:Nat->aj->Prop}{OK:aD->Prop}
theorem ZLj{R:Result->am->Prop}(K:sS prog w T r d n P OK)(l:A.handled=none)(h:OK s.heap)(S:ak)(g:S≠r)(f:S≠d)(c:Nat)(k:s.heap.get? S=some { cls:=.type "list",data:=.seq #[] c })(j:∀ e p a i,(∀ b o,b≠S->s.heap.get? b=some o->e.get? b=some o)->e.get? S=some { cls:=.type "list",dict:=none,data:=.seq a i,slots:=#[] }->ItemsOf P a n->R (.ok (.ret (.ref S))) { s with heap:=e,toks:=p })(m:n<=ar):
  codeAny (aA prog w) A (.builtin "list.__iadd__" ⟨[.ref S,.ref r],[]⟩) R s:=by
 refine codeAny_builtin PySem.F.entry_list_iadd ?_;rw[Around.under_plainId qM _];exact PySem.W.kdl_extend (R:=R) K l h S g f (.ref S) c k j m
theorem FZ{Q:je->am->Prop}(K:sS prog w T r d n P OK)(q:A.handled=none)(j:OK s.heap)(u:n<=ar)(m:∀ f k a,(∀ b o,s.heap.get? b=some o->f.get? b=some o)->s.heap.objs.size<f.objs.size->ItemsOf P a n->Q a.toList { s with heap:=f,toks:=k }):aB (aA prog w) A (collect (.ref r)) Q E s:=by
 let i:=K.there _ j;unfold collect;refine aa (wpAny_runValue (codeAny_builtin PySem.F.entry_proto_collect ?_));rw[Around.under_plainId PySem.F.plain_proto_collect _];show aB _ A.in1 (newList [] >>= λl=>again (.builtin "list.__iadd__" ⟨[l,.ref r],[]⟩)) _ _ s;refine aa (wpAny_newObj_type ?_);let p:(s.heap.push { cls:=.type "list",data:=.seq ([]:je).toArray }).get? s.heap.objs.size=some { cls:=.type "list",data:=.seq #[] 0 }:=yO _ Z;refine ad ⟨plainId_quiet qM _,ZLj (s:={ s with heap:=s.heap.push { cls:=.type "list",data:=.seq ([]:je).toArray } }) K q (K.keep _ _ j λb _ o e=>zA _ e) s.heap.objs.size (tU i.1) (tU i.2) _ p (λf k c v t g h=>?_) u⟩;show aB _ A (load s.heap.objs.size >>= _) _ _ _;refine aa (wpAny_load g ?_);exact ad (m f k c (λb o e=>t b o (yK (zG e)) (zA _ e)) (zG g) h)
end
theorem ZIx:∀{c:List (ZT×V)}{g:jN}{d:jy},KV c g->c.map (·.1)=d.map Sum.inl->∀ b:je,b.length=g.length->(∀(i:Nat)(v:aj),b[i]? = some v->∃(k:ZT)(x:aj),g[i]? = some (k,x)/\P1 k v=true)->IntsAre b d:=by
 intro c g d h e b l p;let f:=KV.keys h;rw[e] at f;clear e h
 induction g generalizing d b with
 | nil=>
  cases b with
  | nil=>
   cases d with
   | nil=>exact .nil
   | cons _ _=>simp at f
  | cons _ _=>simp at l
 | cons q r y=>
  cases b with
  | nil=>simp at l
  | cons a b=>
   cases d with
   | nil=>simp at f
   | cons n d=>
    simp only[yV,List.cons.injEq] at f;let⟨k,x,o,u⟩:=p 0 a Z;simp only[List.getElem?_cons_zero,yT.injEq] at o;subst o;let j:Sum.inl n=k:=f.1;subst j;obtain⟨i,t,m,s⟩ | ⟨i,t,m,s⟩:=Qt u
    ·cases m;subst s;exact .cons _ _ (y b (by simpa using l) (λi v w=>by simpa using p (i+1) v (by simpa using w)) f.2)
    ·cases m
theorem ZFS:∀{b:je}{a:jy},IntsAre b a->ZO (a.map V.int) b:=λh=>Cj h
theorem nn'{n:Nat}(h:n<64):n<=sizeLine:=xX (Ym ∅)
theorem Cg:ay "sorted" = some (.builtin "sorted"):=by decide +kernel
section
variable{T:String}{r d:ak}{n:Nat}{P:Nat->aj->Prop}{OK:aD->Prop}
end
class Ko where
 k0:SortKind
 k1:jV->Int
 k2:jV->Prop
section
variable[κ:Ko]
abbrev QM:SortKind:=κ.k0
abbrev kv(p:jV):Int:=κ.k1 p
abbrev QY(p:jV):Prop:=κ.k2 p
class KoOk (prog:ao) (w:aw) (A:ax) (s:am):Prop where
 lt:∀{E:ja}{p q:jV}{Q:Bool->am->Prop},QY p->QY q->Q (decide (kv p<kv q)) s->aB (aA prog w) A (keyLt' QM p.1 q.1) Q E s
def Kk(a:jl)(i:Nat):Int:=match a[i]? with
 | some p=>kv p
 | none=>0
def PN(a:jl)(k:Nat):Prop:=∀ i j,i<=j->j<k->Kk a i<=Kk a j
def Wu(a:jl):Prop:=∀ p,p∈a.toList->QY p
theorem HX{a b:jl}{i j:Nat}(h:a[i]? = b[j]?):Kk a i=Kk b j:=by unfold Kk;rw[h]
theorem Gk{b:jl}{a d:Nat}(g:a<b.size)(f:d<=a)(k:Nat):Kk (bubble b a d) k=if k=a-d then Kk b a else if a-d<k/\k<=a then Kk b (k-1) else Kk b k:=by
 unfold Kk;rw[getElem?_bubble g d f k];by_cases c:k=a-d
 ·rw[aM c,aM c]
 rw[aK c,aK c];by_cases e:a-d<k/\k<=a
 ·rw[aM e,aM e]
 ·rw[aK e,aK e]
theorem Gx{a:jl}{i j:Nat}(b:j<=a.size)(k:Nat):Kk (mirror a i j ((j-i) / 2)) k=if i<=k/\k<j then Kk a (i+j-1-k) else Kk a k:=by
 unfold Kk;rw[getElem?_mirror_all b k];by_cases h:i<=k/\k<j
 ·rw[aM h,aM h]
 ·rw[aK h,aK h]
theorem CY{a:jl}{i j:Nat}(b:j<=a.size)(h:∀ k,i<=k->k<j->Kk a k=Kk a (j-1))(k:Nat):Kk (mirror a i j ((j-i) / 2)) k=Kk a k:=by
 rw[Gx b];split
 ·rw[h _ ∅ ∅,h k ∅ ∅]
 ·rfl
def gallop':Bool->jV->jl->Nat->Nat->Nat->StateT jR Sem (js):=sortPriv% PySem.Builtin.gallop
section
variable{α:Type}{x y:StateT jR Sem α}{Q:α->jR->Prop}{st:jR}
theorem Vb{c:Prop}{_:Decidable c}(h:c->wpS (aA prog w) A E s x Q st)(g:¬c->wpS (aA prog w) A E s y Q st):wpS (aA prog w) A E s (if c then x else y) Q st:=by
 by_cases z:c
 ·rw[aM z];exact h z
 ·rw[aK z];exact g z
theorem Np{c:Prop}{_:Decidable c}(h:c->wpS (aA prog w) A E s x Q st)(g:¬c->wpS (aA prog w) A E s y Q st):wpS (aA prog w) A E s (if decide c=true then x else y) Q st:=Vb (λz=>h (of_decide_eq_true z)) λz=>g λe=>z (aJ e)
theorem Wx{a b:Nat}(h:a=b->wpS (aA prog w) A E s x Q st)(g:¬a=b->wpS (aA prog w) A E s y Q st):wpS (aA prog w) A E s (if (a==b)=true then x else y) Q st:=Vb (λz=>h (eq_of_beq z)) λz=>g λe=>z (by rw[e];exact beq_self_eq_true _)
end
section
variable[KoOk prog w A s]
theorem LP{a:jR}{p q:jV}{Q:jJ->jR->Prop}(b:kindOf a=QM)(c:QY p)(d:QY q)(h:Q (some (decide (kv p<kv q))) a):wpS (aA prog w) A E s (lt' p q) Q a:=by
 rw[lt'_eq];refine jO (wpS_get ?_);rw[b];exact jO (wpS_lift (wpAny_attempt (KoOk.lt c d ⟨rfl,jP h⟩)))
theorem Ly{a:jR}{b:jl}{i:Nat}{p:jV}{Q:jV->jR->Prop}(e:b[i]? = some p)(h:Q p a):wpS (aA prog w) A E s (elem' b i) Q a:=by
 rw[elem'_eq,e];exact jP h
theorem NZ{b:Type}{r:String}{f:Unit->StateT jR Sem b}{a:jR}{Q:b->jR->Prop}(h:wpS (aA prog w) A E s (f ()) Q a):wpS (aA prog w) A E s (liftM (rule r) >>= f) Q a:=jO (wpS_lift (ai ⟨rfl,h⟩))
theorem Mz{a:jl}{i:Nat}(b:Wu a)(c:i<a.size):∃ p,a[i]? = some p/\QY p/\Kk a i=kv p:=by
 let e:a[i]? = some a[i]:=getElem?_pos a i c;exists _,e,b _ (by simp)
 unfold Kk;rw[e]
section
variable{α:Type}{Q:α->jR->Prop}{st:jR}
theorem Px{a:jl}{i:Nat}{p:jV}{f:jV->StateT jR Sem α}(e:a[i]? = some p)(h:wpS (aA prog w) A E s (f p) Q st):wpS (aA prog w) A E s (elem' a i >>= f) Q st:=jO (Ly e h)
theorem QX{a:jl}{i:Nat}{f:jV->StateT jR Sem α}(c:Wu a)(d:i<a.size)(h:∀ p,a[i]? = some p->QY p->Kk a i=kv p->wpS (aA prog w) A E s (f p) Q st):wpS (aA prog w) A E s (elem' a i >>= f) Q st:=by
 let⟨p,e,g,b⟩:=Mz c d;exact Px e (h p e g b)
theorem G0{p q:jV}{f:jJ->StateT jR Sem α}(a:kindOf st=QM)(b:QY p)(c:QY q)(h:wpS (aA prog w) A E s (f (some (decide (kv p<kv q)))) Q st):wpS (aA prog w) A E s (lt' p q >>= f) Q st:=jO (LP a b c h)
theorem P7{d:Type}{a b:Nat}{F:Nat->d->StateT jR Sem (ForInStep d)}{c:d}{g:d->StateT jR Sem α}(I:Nat->d->jR->Prop)(R:d->jR->Prop)(j:I a c st)(step:∀ i c st,a<=i->i<b->I i c st->wpS (aA prog w) A E s (F i c) (λr f=>match r with | .done c'=>R c' f | .yield c'=>I (i+1) c' f) st)(h:∀ c st,I (max a b) c st->R c st)(e:∀ c st,R c st->wpS (aA prog w) A E s (g c) Q st):wpS (aA prog w) A E s (forIn [a:b] c F >>= g) Q st:=jO (jU (jT I step h j) e)
end
def bK(c:Bool)(b:jV)(a:jl)(i:Nat):Bool:=if c then decide (Kk a i<kv b) else !decide (kv b<Kk a i)
theorem MF{d:jR}{a:Bool}{c:jV}{b:jl}{i:Nat}{Q:jJ->jR->Prop}(f:kindOf d=QM)(l:Wu b)(m:i<b.size)(j:QY c)(h:Q (some (bK a c b i)) d):
  wpS (aA prog w) A E s (elem' b i >>= λx=>if a=true then lt' x c else lt' c x >>= λr=>pure (r.map (!·))) Q d:=by
 let⟨p,e,g,k⟩:=Mz l m;refine jO (Ly e ?_);unfold bK at h;rw[k] at h;cases a
 ·rw[aK (by simp)]
  exact jO (LP f j g (jP h))
 ·rw[aM rfl];exact LP f g j h
theorem JD{t:Type}{f:Nat->Option t×Nat×Nat->StateT jR Sem (ForInStep (Option t×Nat×Nat))}{n b a:Nat}{B:Nat->Bool}{o:jR}{Q:Option t×Nat×Nat->jR->Prop}(G:b<=a)(H:a<=n)(D:∀ i,i<b->B i=true)(z:∀ i,a<=i->i<n->B i=false)(d:∀ i j,i<=j->j<n->B j=true->B i=true)(J:∀ x b a (u:ForInStep (Option t×Nat×Nat)->jR->Prop),a<=n->(a<=b->u (.done (none,b,a)) o)->(∀ m,b<=m->m<a->u (.yield (if B m then (none,m+1,a) else (none,b,m))) o)->wpS (aA prog w) A E s (f x (none,b,a)) u o)(h:∀ k,k<=n->(∀ i,i<k->B i=true)->(∀ i,k<=i->i<n->B i=false)->Q (none,k,k) o):wpS (aA prog w) A E s (forIn [0:n] (none,b,a) f) Q o:=by
 refine jT (I:=λx c g=>g=o/\∃ b a,c=(none,b,a)/\b<=a/\a<=n/\a-b<=n-x/\(∀ i,i<b->B i=true)/\∀ i,a<=i->i<n->B i=false) ?_ ?_ ⟨Z,b,a,Z,G,H,∅,D,z⟩
 ·rintro x c g _ K ⟨rfl,b,a,rfl,F,e,v,q,r⟩;refine J x b a _ e (λc=>?_) λm p l=>?_
  ·have:b=a:=∅
   subst this;exact h _ e q r
  ·cases y:B m
   ·rw[aK (by simp)]
    exact⟨Z,b,m,Z,p,zO (xX l) e,Nat.le_sub_one_of_lt (yU (Nat.sub_lt_sub_right p l) v),q,λi p l=>by
     cases C:B i with
     | false=>rfl
     | true=>rw[d m i p l C] at y;cases y⟩
   ·rw[aM rfl];exact⟨Z,m+1,a,Z,l,e,zO (Nat.sub_le_sub_left (vI p) _) (Nat.sub_le_sub_right v 1),λi c=>d i m (Nat.le_of_lt_succ c) (yU l e) y,r⟩
 ·rintro c g ⟨rfl,b,a,rfl,F,e,v,q,r⟩;have:b=a:=∅
  subst this;exact h _ e q r
theorem Kc{D:jR}{b:Bool}{g:jV}{f:jl}{a n d:Nat}{Q:js->jR->Prop}(J:kindOf D=QM)(K:QY g)(G:Wu f)(hn:a+n<=f.size)(X:d<n)(p:∀ i j,i<=j->j<n->bK b g f (a+j)=true->bK b g f (a+i)=true)(h:∀ k,k<=n->(∀ i,i<k->bK b g f (a+i)=true)->(∀ i,k<=i->i<n->bK b g f (a+i)=false)->Q (some k) D):wpS (aA prog w) A E s (gallop' b g f a n d) Q D:=by
 let y:∀ i j,i<=j->j<n->bK b g f (a+i)=false->bK b g f (a+j)=false:=λi j L M T=>by
  cases e:bK b g f (a+j) with
  | false=>rfl
  | true=>rw[p i j L M e] at T;cases T
 refine jO (MF J G ∅ K ?_)
 dsimp only;cases U:bK b g f (a+d)
 ·rw[aK (by simp)]
  refine jO (jU (jT (I:=λx c m=>m=D/\∃ l o,c=(none,l,o)/\l<o/\x+1<=o/\l<d+1/\bK b g f (a+(d-l))=false)
   (Q:=λc m=>m=D/\∃ l o,c=(none,l,o)/\l<o/\l<d+1/\bK b g f (a+(d-l))=false/\(d+1<=o\/bK b g f (a+(d-o))=true)) ?_ ?_ ⟨rfl,0,1,rfl,∅,∅,∅,U⟩) ?_)
  ·rintro x c m _ Y ⟨rfl,l,o,rfl,t,F,q,r⟩;dsimp only;refine Vb (λc=>?_) λc=>?_
   ·exact jP ⟨Z,l,o,Z,t,q,r,.inl c⟩
   refine jO (MF J G ∅ K ?_)
   dsimp only;cases u:bK b g f (a+(d-o))
   ·rw[aK (by simp)]
    exact jP ⟨Z,o,2 * o+1,Z,∅,∅,∅,u⟩
   ·rw[aM rfl];exact jP ⟨Z,l,o,Z,t,q,r,.inr u⟩
  ·rintro c m ⟨rfl,l,o,rfl,t,F,q,r⟩;exact⟨Z,l,o,Z,t,q,r,.inl ∅⟩
  ·rintro c m ⟨rfl,l,o,rfl,t,F,q,r⟩;dsimp only;refine jO (JD (B:=λi=>bK b g f (a+i)) (zO (Nat.sub_le_sub_left (Nat.le_min.mpr ⟨t,F⟩) _) (xH (Nat.add_sub_add_right d 1 l))) (zO (vO _ _) (xX X)) (λi c=>?_) (λi L M=>y _ _ L M q) p (λx v H V W N O=>?_) λk P R S=>jP (h k P R S))
   ·rcases r with z | z
    ·rw[sL z,tT] at c;exact absurd c (sO _)
    ·exact p i _ ∅ ∅ z
   ·dsimp only;refine Vb (λc=>?_) λc=>?_
    ·exact jP (N c)
    ·refine jO (MF J G ∅ K ?_)
     let C:=O (v+(H-v) / 2) ∅ ∅
     cases u:bK b g f (a+(v+(H-v) / 2)) <;> rw[u] at C
     ·exact jP C
     ·exact jP C
 ·rw[aM rfl];refine jO (jU (jT (I:=λx c m=>m=D/\∃ l o,c=(none,l,o)/\l<o/\x+1<=o/\l<n-d/\bK b g f (a+(d+l))=true)
   (Q:=λc m=>m=D/\∃ l o,c=(none,l,o)/\l<o/\l<n-d/\bK b g f (a+(d+l))=true/\(n-d<=o\/bK b g f (a+(d+o))=false)) ?_ ?_ ⟨rfl,0,1,rfl,∅,∅,∅,U⟩) ?_)
  ·rintro x c m _ Y ⟨rfl,l,o,rfl,t,F,q,r⟩;dsimp only;refine Vb (λc=>?_) λc=>?_
   ·exact jP ⟨Z,l,o,Z,t,q,r,.inl c⟩
   refine jO (MF J G ∅ K ?_)
   dsimp only;cases u:bK b g f (a+(d+o))
   ·rw[aM (by simp)]
    exact jP ⟨Z,l,o,Z,t,q,r,.inr u⟩
   ·rw[aK (by simp)]
    exact jP ⟨Z,o,2 * o+1,Z,∅,∅,∅,u⟩
  ·rintro c m ⟨rfl,l,o,rfl,t,F,q,r⟩;exact⟨Z,l,o,Z,t,q,r,.inl ∅⟩
  ·rintro c m ⟨rfl,l,o,rfl,t,F,q,r⟩;dsimp only;refine jO (JD (B:=λi=>bK b g f (a+i)) ∅ ∅ (λi c=>p i _ ∅ ∅ q) (λi L M=>?_) p (λx v H V W N O=>?_) λk P R S=>jP (h k P R S))
   ·rcases r with z | z
    ·lia
    ·exact y (d+o) i ∅ ∅ z
   ·dsimp only;refine Vb (λc=>?_) λc=>?_
    ·exact jP (N c)
    ·refine jO (MF J G ∅ K ?_)
     let C:=O (v+(H-v) / 2) ∅ ∅
     cases u:bK b g f (a+(v+(H-v) / 2)) <;> rw[u] at C
     ·exact jP C
     ·exact jP C
end
structure MI(R:jV->jV->Prop)(L out ra rb:ju):Prop where
 perm:(out++(ra++rb)).Perm L
 sa:(out++ra).Pairwise R
 sb:(out++rb).Pairwise R
theorem MI.swap{R:jV->jV->Prop}{L a b c:ju}(h:MI R L a b c):MI R L a c b:=
 ⟨((xI.refl a).append tW).trans h.perm,h.sb,h.sa⟩
theorem MI.takeA{R:jV->jV->Prop}{L a b c:ju}(h:MI R L a b c)(k:Nat)(l:∀ x∈b.take k,∀ y∈c,R x y):MI R L (a++b.take k) (b.drop k) c:=by
 let e:a++b.take k++b.drop k=a++b:=by rw[yQ,yD]
 exists ?_,by rw[e];exact h.sa
 ·rw[<-yQ,e,yQ];exact h.perm
 ·let d:=h.sa;rw[<-e] at d;let j:=(xJ.mp d).1;let⟨_,g,i⟩:=xJ.mp h.sb;refine xJ.mpr ⟨j,g,λx m y f=>?_⟩;rcases yW.mp m with z | z
  ·exact i x z y f
  ·exact l x z y f
theorem MI.takeB{R:jV->jV->Prop}{L a c b:ju}(h:MI R L a c b)(k:Nat)(d:∀ x∈b.take k,∀ y∈c,R x y):MI R L (a++b.take k) c (b.drop k):=(h.swap.takeA k d).swap
theorem MQ{a:jl}{i:Nat}{p:jV}(e:a[i]? = some p):a.toList.drop i=p::a.toList.drop (i+1):=by
 rw[<-yP] at e;let⟨h,e⟩:=yZ.mp e;rw[<-e];exact xB h
theorem Nb{a:jl}{i:Nat}{p:jV}(e:a[i]? = some p):Kk a i=kv p:=by
 unfold Kk;rw[e]
theorem O5{xs:jl}{i k:Nat}{p:jV}(h:p∈(xs.toList.drop i).take k):∃ j,i<=j/\j<i+k/\j<xs.size/\kv p=Kk xs j:=by
 let⟨m,a,e⟩:=List.mem_iff_getElem.mp h;rw[List.getElem_take,List.getElem_drop] at e;rw[yJ,xQ,yH] at a;exists i+m,∅,∅,by lia
 rw[<-e];exact(Nb (by rw[<-yP];exact zV _)).symm
theorem Om{xs:jl}{i:Nat}{p:jV}(h:p∈xs.toList.drop i):∃ j,i<=j/\j<xs.size/\kv p=Kk xs j:=by
 let⟨j,a,_,b,c⟩:=O5 (xs:=xs) (i:=i) (k:=xs.size) (by rw[zE (by rw[xQ,yH];lia)];exact h)
 exact⟨j,a,b,c⟩
theorem NN(a:jl)(i k:Nat):(a.extract i (i+k)).toList=(a.toList.drop i).take k:=by
 rw[uF,uA,uB]
theorem M3(a:jl)(i:Nat):(a.extract i a.size).toList=a.toList.drop i:=by
 rw[uF,uA,zE (by rw[xQ,yH];lia)]
def WP(p q:jV):Prop:=kv p<=kv q
def WD(L:ju)(r:jl):Prop:=r.toList.Perm L/\r.toList.Pairwise WP
structure Sm(st st':jR):Prop where
 kind:kindOf st'=kindOf st
 arr:jQ st'=jQ st
 pend:jS st'=jS st
 failed:failedOf st'=failedOf st
def setMinGallop':Nat->StateT jR Sem Unit:=sortPriv% PySem.Builtin.setMinGallop
def mergeLo':jl->jl->StateT jR Sem (jl):=sortPriv% PySem.Builtin.mergeLo
section
variable{a b out:jl}{ia ib:Nat}{L:ju}
theorem MH(m:MI WP L out.toList (a.toList.drop ia) (b.toList.drop ib))(h:b.size<=ib\/a.size<=ia):WD L (out++a.extract ia a.size++b.extract ib b.size):=by
 unfold WD;rw[wI,wI,M3,M3];exists by rw[yQ];exact m.perm
 rcases h with z | z
 ·rw[uZ (l:=b.toList) (by rw[yH];exact z),zK]
  exact m.sa
 ·rw[uZ (l:=a.toList) (by rw[yH];exact z),zK]
  exact m.sb
theorem Mu(m:MI WP L out.toList (a.toList.drop ia) (b.toList.drop ib))(h:ia+1=a.size)(f:∀ j,j<b.size->Kk b j<=Kk a (a.size-1)):WD L (out++b.extract ib b.size++a.extract ia a.size):=by
 unfold WD;rw[wI,wI,M3,M3];exists by rw[yQ];exact m.swap.perm
 let⟨_,d,e⟩:=xJ.mp m.sa;refine xJ.mpr ⟨m.sb,d,λx g y c=>?_⟩;rcases yW.mp g with z | z
 ·exact e x z y c
 ·let⟨j,_,l,n⟩:=Om z;let⟨i,o,p,k⟩:=Om c;have:=f j l;unfold WP;rw[n,k,show i=a.size-1 by lia]
  exact this
end
section
variable[KoOk prog w A s]
theorem ED{d a:Type}{c:a->Prop}{_:∀ n,Decidable (c n)}{x J:a->StateT jR Sem d}{Q:d->jR->Prop}{b:jR}(f:∀ n,∃ m,x n=J m)(k:∀ n,wpS (aA prog w) A E s (J n) Q b)(n:a):wpS (aA prog w) A E s (if c n then x n else J n) Q b:=by
 refine Vb (λh=>?_) λh=>?_
 ·let⟨m,e⟩:=f n;rw[e];exact k m
 ·exact k n
theorem Ls{g b d:Type}{c:Prop}{_:Decidable c}{x J:b->d->StateT jR Sem g}{Q:g->jR->Prop}{a:jR}{e:b->d->Prop}(P:b->d->Prop)(k:∀ o i,P o i->wpS (aA prog w) A E s (J o i) Q a)(j:¬c->∀ o i,e o i->P o i)(l:c->(∀ o i,P o i->wpS (aA prog w) A E s (J o i) Q a)->∀ o i,e o i->wpS (aA prog w) A E s (x o i) Q a)(o:b)(i:d)(f:e o i):wpS (aA prog w) A E s (if c then x o i else J o i) Q a:=by
 refine Vb (λh=>?_) λh=>?_
 ·exact l h k o i f
 ·exact k o i (j h o i f)
theorem ZLD{a:jR}{g:Nat}{Q:Unit->jR->Prop}(h:∀ b,Sm a b->Q () b):wpS (aA prog w) A E s (setMinGallop' g) Q a:=
 wpS_modify (f:=λa=>SortSt.mk' (kindOf a) (jQ a) (jS a) g (failedOf a)) (h _ ⟨rfl,rfl,rfl,rfl⟩)
theorem Sm.trans{c b a:jR}(h:Sm c b)(g:Sm b a):Sm c a:=⟨g.kind.trans h.kind,g.arr.trans h.arr,g.pend.trans h.pend,g.failed.trans h.failed⟩
theorem HH{b:Bool}{d:jV}{c:jl}{a n:Nat}(h:∀ i j,i<=j->j<n->Kk c (a+i)<=Kk c (a+j)):∀ i j,i<=j->j<n->bK b d c (a+j)=true->bK b d c (a+i)=true:=λi j f g e=>by
 have:=h i j f g;unfold bK at e⊢;cases b
 ·simp at e⊢
  lia
 ·simp at e⊢
  lia
theorem QH{b:jV}{a:jl}{i:Nat}:(bK false b a i=true ↔ Kk a i<=kv b)/\(bK false b a i=false ↔ kv b<Kk a i):=by
 unfold bK;constructor <;> simp
theorem QJ{b:jV}{a:jl}{i:Nat}:(bK true b a i=true ↔ Kk a i<kv b)/\(bK true b a i=false ↔ kv b<=Kk a i):=by
 unfold bK;constructor <;> simp
structure Ng(a b:jl)(L:ju)(X:Nat)(out:jl)(ia ib:Nat):Prop where
 m:MI WP L out.toList (a.toList.drop ia) (b.toList.drop ib)
 ha:ia+1<a.size
 hb:ib<b.size
 hx:X<=ia+ib
inductive Mt{γ:Type}(st:jR)(a b:jl)(L:ju)(x:Nat):Option (jl)×jl×Nat×Nat×γ->jR->Prop
 |mk{out:jl}{ia ib:Nat}{g:γ}{st':jR}:Sm st st'->Ng a b L x out ia ib->Mt st a b L x (none,out,ia,ib,g) st'
inductive Ln{γ:Type}(st:jR)(a b:jl)(L:ju)(x:Nat):Option (jl)×jl×Nat×Nat×γ->jR->Prop
 |more{out:jl}{ia ib:Nat}{g:γ}{st':jR}:Sm st st'->Ng a b L x out ia ib->Ln st a b L x (none,out,ia,ib,g) st'
 |done{r:jl}{c:jl×Nat×Nat×γ}{st':jR}:Sm st st'->WD L r->Ln st a b L x (some r,c) st'
inductive Hi{γ:Type}(st:jR)(L:ju):Option (jl)×γ->jR->Prop
 |mk{r:jl}{c:γ}{st':jR}:Sm st st'->WD L r->Hi st L (some r,c) st'
structure BJ(a b:jl)(L:ju)(X:Nat)(p:jV)(k:Nat)(out:jl)(ia ib:Nat):Prop where
 I:Ng a b L X out ia ib
 k1:k<=a.size-ia
 k2:∀ i,i<k->Kk a (ia+i)<=kv p
 k3:∀ i,k<=i->i<a.size-ia->kv p<Kk a (ia+i)
structure C7(a b:jl)(L:ju)(X:Nat)(p:jV)(out:jl)(ia ib:Nat):Prop where
 I:Ng a b L X out ia ib
 hp:∀ j,ia<=j->j<a.size->kv p<=Kk a j
structure LoK(a b:jl)(L:ju)(q:jV)(k:Nat)(O:jl)(ia ib jb:Nat):Prop where
 m:MI WP L O.toList (a.toList.drop ia) (b.toList.drop jb)
 h1:jb<b.size
 h2:ib<jb
 k1:k<=b.size-jb
 k2:∀ i,i<k->Kk b (jb+i)<kv q
 k3:∀ i,k<=i->i<b.size-jb->kv q<=Kk b (jb+i)
structure LoJ(a b:jl)(L:ju)(q:jV)(O:jl)(ia ib jb:Nat):Prop where
 m:MI WP L O.toList (a.toList.drop ia) (b.toList.drop jb)
 h1:jb<b.size
 h2:ib<jb
 hp:∀ j,jb<=j->j<b.size->kv q<=Kk b j
theorem Sm.refl(a:jR):Sm a a:=⟨Z,Z,Z,Z⟩
theorem Ng.tb{a b:jl}{L:ju}{X:Nat}{c:jl}{d f:Nat}{p:jV}(I:Ng a b L X c d f)(e:b[f]? = some p)(h:∀ j,d<=j->j<a.size->kv p<=Kk a j):MI WP L (c.push p).toList (a.toList.drop d) (b.toList.drop (f+1)):=by
 let m:=I.m.takeB 1 (λx g y i=>by
  let⟨j,k,l,n⟩:=Om (xs:=a) i;rw[MQ e,vE,wC] at g;unfold WP;rw[zH.mp g,n];exact h j k l)
 rw[wD,MQ e,vE,wC,<-uX] at m;exact m
theorem MI.ta{a b:jl}{L:ju}{c:jl}{d f:Nat}{p:jV}(I:MI WP L c.toList (a.toList.drop d) (b.toList.drop f))(e:a[d]? = some p)(h:∀ j,f<=j->j<b.size->kv p<=Kk b j):MI WP L (c.push p).toList (a.toList.drop (d+1)) (b.toList.drop f):=by
 let m:=I.takeA 1 (λx g y i=>by
  let⟨j,k,l,n⟩:=Om (xs:=b) i;rw[MQ e,vE,wC] at g;unfold WP;rw[zH.mp g,n];exact h j k l)
 rw[wD,MQ e,vE,wC,<-uX] at m;exact m
theorem LJ{l:Type}{g:jR}{c:Bool}{d:jV}{a:jl}{b n e:Nat}{f:js->StateT jR Sem l}{Q:l->jR->Prop}(p:kindOf g=QM)(r:QY d)(m:Wu a)(t:PN a a.size)(q:b+n<=a.size)(o:e<n)(h:∀ k,k<=n->(∀ i,i<k->bK c d a (b+i)=true)->(∀ i,k<=i->i<n->bK c d a (b+i)=false)->wpS (aA prog w) A E s (f (some k)) Q g):wpS (aA prog w) A E s (gallop' c d a b n e >>= f) Q g:=
 jO (Kc p r m q o (HH λi j u v=>t _ _ ∅ ∅) h)
theorem Lh{c:Type}{b:jR}{g:Nat}{f:Unit->StateT jR Sem c}{Q:c->jR->Prop}(h:∀ a,Sm b a->wpS (aA prog w) A E s (f ()) Q a):wpS (aA prog w) A E s (setMinGallop' g >>= f) Q b:=jO (ZLD h)
theorem Kw{b:Type}{a:jR}{f:jR->StateT jR Sem b}{Q:b->jR->Prop}(h:wpS (aA prog w) A E s (f a) Q a):wpS (aA prog w) A E s (get >>= f) Q a:=jO (wpS_get h)
theorem ZGB{F:jR}{a b:jl}{Q:jl->jR->Prop}(hk:kindOf F=QM)(ka:Wu a)(kb:Wu b)(a1:1<=a.size)(b1:1<=b.size)(sa:PN a a.size)(sb:PN b b.size)(h0:∀ i,i<a.size->Kk b 0<=Kk a i)(hl:∀ j,j<b.size->Kk b j<=Kk a (a.size-1))(pa:a.toList.Pairwise WP)(pb:b.toList.Pairwise WP)(h:∀ r f,Sm F f->WD (a.toList++b.toList) r->Q r f):wpS (aA prog w) A E s (mergeLo' a b) Q F:=by
 refine NZ (QX kb b1 λp0 e0 i0 k0=>?_);let m0:MI WP (a.toList++b.toList) #[p0].toList (a.toList.drop 0) (b.toList.drop 1):=by
  let m:MI WP (a.toList++b.toList) [] a.toList b.toList:=⟨xI.refl _,pa,pb⟩;let l:=m.takeB 1 (λx J y W=>by
   let⟨i,_,i1,_,Y⟩:=O5 (xs:=b) (i:=0) (k:=1) J;let⟨j,_,t,B⟩:=Om (xs:=a) (i:=0) W;have:=h0 j t;unfold WP;rw[Y,B,show i=0 by lia]
   exact this)
  let e:=MQ e0;rw[vL] at e;rw[e] at l⊢;exact l
 refine Wx (λc1=>jP (h _ _ (Sm.refl _) (MH m0 (.inl ∅)))) λc1=>Wx (λc2=>jP (h _ _ (Sm.refl _) (Mu m0 c2 hl))) λc2=>Kw ?_
 generalize hL:a.toList++b.toList=L at m0 h;refine P7 (Mt F a b L) (Hi F L) ⟨Sm.refl _,m0,∅,∅,∅⟩ ?step ?fin ?post
 case post=>
  rintro _ f ⟨d,g⟩;exact jP (h _ f d g)
 case fin=>
  rintro _ f ⟨d,i⟩;have:=i.ha;have:=i.hb;have:=i.hx
  lia
 case step=>
  rintro X _ f _ hX ⟨d,I⟩;refine P7 (λx=>Mt F a b L (X+x)) (Ln F a b L (X+1)) ⟨d,I⟩ ?istep ?ifin ?ipost
  case ifin=>
   rintro _ z ⟨d,I⟩;exact .more d ⟨I.m,I.ha,I.hb,by have:=I.hx;lia⟩
  case istep=>
   clear d I;rintro x _ f _ J ⟨d,I⟩;dsimp only;let C:=I.ha;let R:=I.hb;let S:=I.hx;refine QX kb I.hb λp T ip kp=>QX ka ∅ λq U iq kq=>G0 (d.kind.trans hk) ip iq (Np (λc=>Px T ?_) λc=>Px U ?_)
   ·let l:=I.tb T λj M t=>by
     have:=sa _ j M t
     lia
    exact Wx (λu=>jP (.done d (MH l (.inl ∅)))) λu=>Vb (λG=>jP (.more d ⟨l,∅,∅,∅⟩)) λG=>jP ⟨d,l,∅,∅,∅⟩
   ·let l:=I.m.ta U λj M t=>by
     have:=sb _ j M t
     lia
    exact Wx (λu=>jP (.done d (Mu l u hl))) λu=>Vb (λG=>jP (.more d ⟨l,∅,∅,∅⟩)) λG=>jP ⟨d,l,∅,∅,∅⟩
  case ipost=>
   clear d I;rintro _ f (⟨d,I⟩ | ⟨d,gd⟩)
   rotate_left
   ·exact jP ⟨d,gd⟩
   refine NZ (P7 (λ_=>Mt F a b L (X+1)) (Ln F a b L (X+1)) ⟨d,I⟩ ?gstep ?gfin ?gpost)
   case gfin=>
    rintro _ f ⟨d,I⟩;exact .more d I
   case gpost=>
    rintro _ f (⟨d,I⟩ | ⟨d,gd⟩)
    ·exact Lh λz D=>jP ⟨d.trans D,I⟩
    ·exact jP ⟨d,gd⟩
   case gstep=>
    clear d I;rintro x _ _ _ J (@⟨v,n,K,⟨g,ac,bc⟩,f,d,I⟩);dsimp only
    revert g
    refine ED (λ_=>⟨_,Z⟩) λg=>Lh λz D=>?_;let d:=d.trans D;clear D;let V:kindOf z=QM:=d.kind.trans hk;let C:=I.ha;let R:=I.hb;refine QX kb I.hb λp T ip kp=>LJ V ip ka sa ∅ ∅ λk k1 k2 k3=>?_
    dsimp only;let H:BJ a b L (X+1) p k v n K:=⟨I,k1,λi h=>QH.1.mp (k2 i h),λi h1 D=>QH.2.mp (k3 i h1 D)⟩;clear I k1 k2 k3 C
    revert H
    revert n
    revert v
    refine no_implicit_lambda% (Ls (λa0 a2=>C7 a b L (X+1) p a0 a2 K) (λv n I=>?_) (λc v n H=>?_) (λc N v n H=>?_))
    ·let hp:=I.hp;let I:=I.I;let C:=I.ha;let S:=I.hx;refine Px T ?_;let l:=I.tb T hp;refine Wx (λu=>jP (.done d (MH l (.inl ∅)))) λu=>QX ka ∅ λq U iq kq=>LJ V iq kb sb ∅ ∅ λk k1 k2 k3=>?_
     dsimp only;generalize v.push p=O at l⊢;let H:LoK a b L q k O n K (K+1):=⟨l,∅,∅,k1,λi h=>QJ.1.mp (k2 i h),λi h1 D=>QJ.2.mp (k3 i h1 D)⟩
     clear l k1 k2 k3 u
     revert H
     generalize K+1=o
     revert o
     revert O
     refine Ls (λO o=>LoJ a b L q O n K o) (λO o I=>?_) (λc O o H=>?_) (λc N O o H=>?_)
     ·refine Px U ?_;let P:=I.m.ta U I.hp;let t:=I.h1;let B:=I.h2;refine Wx (λu=>jP (.done d (Mu P u hl))) λu=>?_;split
      ·exact jP (.more d ⟨P,∅,∅,∅⟩)
      ·exact jP ⟨d,P,∅,∅,∅⟩
     ·let e:=H.k1;exists H.m,H.h1,H.h2;intro j t B;have:=H.k3 (j-o) ∅ ∅
      rw[show o+(j-o)=j by lia] at this
      lia
     ·let P:=H.m.takeB k (λx J y W=>by
       let⟨i,i0,i1,_,Y⟩:=O5 (xs:=b) J;let⟨j,M,t,B⟩:=Om (xs:=a) W;have:=sa n j M t;have:=H.k2 (i-o) ∅
       rw[show o+(i-o)=i by lia] at this
       unfold WP;rw[Y,B]
       lia)
      rw[wD,<-NN,<-wI] at P;let h1:=H.h1;let D:=H.h2;refine Wx (λG=>jP (.done d (MH P (.inl ∅)))) λG=>N _ _ ⟨P,?_,∅,λj t B=>?_⟩
      ·have:=H.k1
       lia
      ·have:=H.k3 (j-o) ∅ ∅
       rw[show o+(j-o)=j by lia] at this
       lia
    ·exists H.I;intro j t B;have:=H.k3 (j-n) ∅ ∅
     rw[show n+(j-n)=j by lia] at this
     lia
    ·let C:=H.I.ha;let S:=H.I.hx;let l:=H.I.m.takeA k (λx J y W=>by
      let⟨i,i0,i1,_,Y⟩:=O5 (xs:=a) J;let⟨j,M,t,B⟩:=Om (xs:=b) W;have:=sb K j M t;have:=H.k2 (i-n) ∅
      rw[show n+(i-n)=i by lia] at this
      unfold WP;rw[Y,B]
      lia)
     rw[wD,<-NN,<-wI] at l;refine Wx (λu=>jP (.done d (Mu l u hl))) λu=>Wx (λG=>jP (.done d (MH l (.inr ∅)))) λG=>N _ _ ⟨⟨l,?_,R,∅⟩,λj t B=>?_⟩
     ·have:=H.k1
      lia
     ·have:=H.k3 (j-n) ∅ ∅
      rw[show n+(j-n)=j by lia] at this
      lia
end
abbrev XR(a:jl)(n:Nat):ju:=(a.toList.take n).reverse
theorem ZPQ{a:jl}{i:Nat}{p:jV}(e:a[i]? = some p):XR a (i+1)=p::XR a i:=by
 rw[<-yP] at e;show ((a.toList.take (i+1)).reverse)=_;rw[yS,e];simp
theorem BL{a:jl}{i:Nat}{p:jV}(e:a[i-1]? = some p)(h:1<=i):XR a i=p::XR a (i-1):=by
 have:=ZPQ e;rw[Nat.sub_add_cancel h] at this;exact this
theorem MI.popA{R:jV->jV->Prop}{L c b:ju}{a:jl}{p:jV}(h:MI R L a.toList (p::c) b)(d:∀ y∈b,R p y):MI R L (a.push p).toList c b:=by
 have:=h.takeA 1 (λx f y g=>by
  let e:x=p:=by simpa using f
  rw[e];exact d y g)
 rw[vE,wC,<-uX] at this;exact this
theorem FC{a:jl}{n m:Nat}(h:m<=n)(b:n<=a.size):(XR a n).drop (n-m)=XR a m:=by
 show ((a.toList.take n).reverse).drop (n-m)=_;rw[List.drop_reverse,yJ,yH,show min n a.size-(n-m)=m by lia,List.take_take,show min m n=m by lia]
theorem JB{a:jl}{n m:Nat}(h:m<=n)(b:n<=a.size):(XR a n).take (n-m)=(a.extract m n).reverse.toList:=by
 show ((a.toList.take n).reverse).take (n-m)=_;rw[List.take_reverse,yJ,yH,show min n a.size-(n-m)=m by lia,zEH,uF,uA,List.drop_take]
theorem MY{a:jl}{n:Nat}{p:jV}(h:p∈XR a n):∃ j,j<n/\j<a.size/\kv p=Kk a j:=by
 let⟨j,_,d,b,c⟩:=O5 (xs:=a) (i:=0) (k:=n) (List.mem_reverse.mp h);exact⟨j,∅,b,c⟩
theorem Cl{a:jl}{n m:Nat}{p:jV}(d:m<=n)(e:n<=a.size)(h:p∈(XR a n).take (n-m)):∃ j,m<=j/\j<n/\kv p=Kk a j:=by
 rw[JB d e,zEH,uF,uA] at h;let⟨j,b,f,g,c⟩:=O5 (xs:=a) (List.mem_reverse.mp h);exact⟨j,b,∅,c⟩
def UJ(p q:jV):Prop:=kv q<=kv p
theorem E4{L l:ju}{r:jl}(a:l.Perm L)(b:l.Pairwise UJ)(e:r.toList=l.reverse):WD L r:=by
 unfold WD;rw[e];exact⟨(rX l).trans a,qU.mpr b⟩
theorem Hu(a:jl)(n:Nat):(a.extract 0 n).toList=a.toList.take n:=by
 rw[uF,uA,vL,Nat.sub_zero]
section
variable{a b out:jl}{na nb:Nat}{L:ju}
theorem MW(m:MI UJ L out.toList (XR a na) (XR b nb))(h:na=0\/nb=0):WD L (a.extract 0 na++b.extract 0 nb++out.reverse):=by
 refine E4 m.swap.perm ?_ (by simp[Hu,XR])
 rcases h with rfl | rfl
 ·have:XR a 0=[]:=rfl;rw[this,zK];exact m.sb
 ·exact m.sa
theorem La(m:MI UJ L out.toList (XR a na) (XR b nb))(h:nb=1)(f:∀ i,i<a.size->Kk b 0<=Kk a i):WD L (b.extract 0 nb++a.extract 0 na++out.reverse):=by
 refine E4 m.perm ?_ (by simp[Hu,XR])
 let⟨_,d,e⟩:=xJ.mp m.sb;rw[<-yQ];refine xJ.mpr ⟨m.sa,d,λx g y c=>?_⟩;rcases yW.mp g with z | z
 ·exact e x z y c
 ·let⟨j,_,l,n⟩:=MY z;let⟨i,o,p,k⟩:=MY c;have:=f j l;unfold UJ;rw[n,k,show i=0 by lia]
  exact this
end
def mergeHi':jl->jl->StateT jR Sem (jl):=sortPriv% PySem.Builtin.mergeHi
structure Lg(a b:jl)(L:ju)(X:Nat)(out:jl)(na nb:Nat):Prop where
 m:MI UJ L out.toList (XR a na) (XR b nb)
 a0:1<=na
 a1:na<=a.size
 b0:2<=nb
 b1:nb<=b.size
 hx:na+nb+X<=a.size+b.size
inductive KA{γ:Type}(st:jR)(a b:jl)(L:ju)(x:Nat):Option (jl)×Nat×Nat×jl×γ->jR->Prop
 |mk{na nb:Nat}{out:jl}{g:γ}{st':jR}:Sm st st'->Lg a b L x out na nb->KA st a b L x (none,na,nb,out,g) st'
inductive LL{γ:Type}(st:jR)(a b:jl)(L:ju)(x:Nat):Option (jl)×Nat×Nat×jl×γ->jR->Prop
 |more{na nb:Nat}{out:jl}{g:γ}{st':jR}:Sm st st'->Lg a b L x out na nb->LL st a b L x (none,na,nb,out,g) st'
 |done{r:jl}{c:Nat×Nat×jl×γ}{st':jR}:Sm st st'->WD L r->LL st a b L x (some r,c) st'
structure HiG(a b:jl)(L:ju)(X:Nat)(p:jV)(t k:Nat)(out:jl)(na nb:Nat):Prop where
 I:Lg a b L X out na nb
 e:na-t=k
 k1:t<=na
 k3:∀ i,t<=i->i<na->kv p<Kk a i
structure BN(a b:jl)(L:ju)(X:Nat)(p:jV)(out:jl)(na nb:Nat):Prop where
 I:Lg a b L X out na nb
 hp:∀ j,j<na->Kk a j<=kv p
structure BD(a b:jl)(L:ju)(q:jV)(t k:Nat)(O:jl)(na nb n2:Nat):Prop where
 m:MI UJ L O.toList (XR a na) (XR b n2)
 h1:n2<nb
 h2:2<=n2
 e:n2-t=k
 k1:t<=n2
 k3:∀ i,t<=i->i<n2->kv q<=Kk b i
structure HiJ(a b:jl)(L:ju)(q:jV)(O:jl)(na nb n2:Nat):Prop where
 m:MI UJ L O.toList (XR a na) (XR b n2)
 h1:n2<nb
 h2:2<=n2
 hp:∀ j,j<n2->Kk b j<=kv q
theorem MI.pa{a:jl}{L d:ju}{b:jl}{c:Nat}{p:jV}(m:MI UJ L b.toList (XR a c) d)(e:a[c-1]? = some p)(h:1<=c)(f:∀ y∈d,kv y<=kv p):MI UJ L (b.push p).toList (XR a (c-1)) d:=by
 rw[BL e h] at m;exact m.popA f
theorem MI.pb{b:jl}{L d:ju}{a:jl}{c:Nat}{p:jV}(m:MI UJ L a.toList d (XR b c))(e:b[c-1]? = some p)(h:1<=c)(f:∀ y∈d,kv y<=kv p):MI UJ L (a.push p).toList d (XR b (c-1)):=(m.swap.pa e h f).swap
theorem MP{a:jl}{n:Nat}{p:jV}(h:∀ j,j<n->j<a.size->Kk a j<=kv p):∀ y∈XR a n,kv y<=kv p:=λy b=>by
 let⟨j,c,d,e⟩:=MY b;rw[e];exact h j c d
section
variable[KoOk prog w A s]
theorem ZGo{K:jR}{a b:jl}{Q:jl->jR->Prop}(hk:kindOf K=QM)(ka:Wu a)(kb:Wu b)(a1:1<=a.size)(b1:1<=b.size)(sa:PN a a.size)(sb:PN b b.size)(h0:∀ i,i<a.size->Kk b 0<=Kk a i)(hl:∀ j,j<b.size->Kk b j<=Kk a (a.size-1))(pa:a.toList.Pairwise WP)(pb:b.toList.Pairwise WP)(h:∀ r f,Sm K f->WD (a.toList++b.toList) r->Q r f):wpS (aA prog w) A E s (mergeHi' a b) Q K:=by
 refine NZ (QX ka (show a.size-1<a.size by lia) λp0 e0 i0 k0=>?_)
 let m0:MI UJ (a.toList++b.toList) #[p0].toList (XR a (a.size-1)) (XR b b.size):=by
  let ea:XR a a.size=a.toList.reverse:=by show (a.toList.take a.size).reverse=_;rw[zE (by simp)]
  let eb:XR b b.size=b.toList.reverse:=by show (b.toList.take b.size).reverse=_;rw[zE (by simp)]
  let m:MI UJ (a.toList++b.toList) #[].toList (XR a a.size) (XR b b.size):=⟨by rw[ea,eb];exact(rX _).append (rX _),by rw[ea];exact qU.mpr pa,by rw[eb];exact qU.mpr pb⟩
  exact m.pa e0 a1 (MP λj _ S=>by rw[<-k0];exact hl j S)
 refine Wx (λc1=>jP (h _ _ (Sm.refl _) (MW m0 (.inl ∅)))) λc1=>Wx (λc2=>jP (h _ _ (Sm.refl _) (La m0 c2 h0))) λc2=>Kw ?_
 generalize hL:a.toList++b.toList=L at m0 h;refine P7 (KA K a b L) (Hi K L) ⟨Sm.refl _,m0,∅,∅,∅,∅,∅⟩ ?step ?fin ?post
 case post=>
  rintro _ f ⟨d,g⟩;exact jP (h _ f d g)
 case fin=>
  rintro _ f ⟨d,i⟩;have:=i.a0;have:=i.b0;have:=i.hx
  lia
 case step=>
  rintro X _ f _ hX ⟨d,I⟩;refine P7 (λx=>KA K a b L (X+x)) (LL K a b L (X+1)) ⟨d,I⟩ ?istep ?ifin ?ipost
  case ifin=>
   rintro _ C ⟨d,I⟩;exact .more d ⟨I.m,I.a0,I.a1,I.b0,I.b1,by have:=I.hx;lia⟩
  case istep=>
   clear d I;rintro x _ _ _ hx (@⟨o,N,l,g,f,d,m,U,P,b0,b9,ix⟩);dsimp only;refine QX kb ∅ λp V ip kp=>QX ka ∅ λq W iq kq=>G0 (d.kind.trans hk) ip iq (Np (λc=>Px W ?_) λc=>Px V ?_)
   ·let n:=m.pa W U (MP λj R S=>by
     have:=sb j (N-1) ∅ ∅
     lia)
    exact Wx (λu=>jP (.done d (MW n (.inl u)))) λu=>Vb (λG=>jP (.more d ⟨n,∅,∅,∅,∅,∅⟩)) λG=>jP ⟨d,n,∅,∅,∅,∅,∅⟩
   ·let n:=m.pb V ∅ (MP λj R S=>by
     have:=sa j (o-1) ∅ ∅
     lia)
    exact Wx (λu=>jP (.done d (La n u h0))) λu=>Vb (λG=>jP (.more d ⟨n,∅,∅,∅,∅,∅⟩)) λG=>jP ⟨d,n,∅,∅,∅,∅,∅⟩
  case ipost=>
   clear d I;rintro _ f (⟨d,I⟩ | ⟨d,gd⟩)
   rotate_left
   ·exact jP ⟨d,gd⟩
   refine NZ (P7 (λ_=>KA K a b L (X+1)) (LL K a b L (X+1)) ⟨d,I⟩ ?gstep ?gfin ?gpost)
   case gfin=>
    rintro _ f ⟨d,I⟩;exact .more d I
   case gpost=>
    rintro _ f (⟨d,I⟩ | ⟨d,gd⟩)
    ·exact Lh λC M=>jP ⟨d.trans M,I⟩
    ·exact jP ⟨d,gd⟩
   case gstep=>
    clear d I;rintro x _ _ _ hx (@⟨o,N,l,⟨g,ac,bc⟩,f,d,I⟩);dsimp only
    revert g
    refine ED (λ_=>⟨_,Z⟩) λg=>Lh λC M=>?_;let d:=d.trans M;clear M;let Y:kindOf C=QM:=d.kind.trans hk;let U:=I.a0;let P:=I.a1;let b0:=I.b0;let b9:=I.b1;refine QX kb ∅ λp V ip kp=>LJ Y ip ka sa ∅ ∅ λt D v F=>?_
    dsimp only;simp only[tS] at v F;generalize B:o-t=k;let H:HiG a b L (X+1) p t k l o N:=⟨I,B,D,λi h1 M=>QH.2.mp (F i h1 M)⟩
    replace v:∀ i,i<t->Kk a i<=kv p:=λi h=>QH.1.mp (v i h)
    clear I U P D F B
    revert H
    revert l
    revert o
    refine no_implicit_lambda% (Ls (λo l=>BN a b L (X+1) p l o N) (λo l I=>?_) (λc o l H=>?_) (λc T o l H=>?_))
    ·let⟨⟨m,U,P,b0,b9,ix⟩,hp⟩:=I;refine Px V ?_;let n:=m.pb V ∅ (MP λj R _=>hp j R)
     refine Wx (λu=>jP (.done d (La n u h0))) λu=>QX ka ∅ λq W iq kq=>LJ Y iq kb sb ∅ ∅ λt2 D v F=>?_
     dsimp only;simp only[tS] at v F;generalize l.push p=O at n⊢;generalize hn:N-1=J at n D v F u⊢;generalize B:J-t2=k';let H:BD a b L q t2 k' O o N J:=⟨n,∅,∅,B,D,λi h1 M=>QJ.2.mp (F i h1 M)⟩
     replace v:∀ i,i<t2->Kk b i<kv q:=λi h=>QJ.1.mp (v i h)
     clear n D F B u hn
     revert H
     revert O
     revert J
     refine Ls (λJ O=>HiJ a b L q O o N J) (λJ O I=>?_) (λc J O H=>?_) (λc T J O H=>?_)
     ·let⟨n,S,j2,hp⟩:=I;refine Px W ?_;let z:=n.pa W U (MP λj R _=>hp j R);refine Wx (λu=>jP (.done d (MW z (.inl u)))) λu=>?_;split
      ·exact jP (.more d ⟨z,∅,∅,∅,∅,∅⟩)
      ·exact jP ⟨d,z,∅,∅,∅,∅,∅⟩
     ·let e:=H.e;exact⟨H.m,H.h1,H.h2,λj c=>wG (v j ∅)⟩
     ·let S:=H.h1;let j3:=H.k1;let z:=H.m.takeB (J-t2) λx hx y hy=>by
       let⟨i,i0,i1,i3⟩:=Cl j3 ∅ hx
       let⟨j,R,S,j2⟩:=MY hy;have:=sa j (o-1) ∅ ∅
       have:=H.k3 i i0 i1;unfold UJ;rw[i3,j2]
       lia
      rw[FC j3 ∅,JB j3 ∅,<-wI] at z
      exact Wx (λG=>jP (.done d (La z G h0))) λG=>Wx (λc5=>jP (.done d (MW z (.inr c5)))) λc5=>T _ _ ⟨z,∅,∅,λj c=>wG (v j c)⟩
    ·let e:=H.e;exact⟨H.I,λj c=>v j ∅⟩
    ·let⟨⟨m,U,P,b0,b9,ix⟩,e,D,F⟩:=H;let z:=m.takeA (o-t) λx hx y hy=>by
      let⟨i,i0,i1,i3⟩:=Cl D P hx;let⟨j,R,S,j2⟩:=MY hy;have:=sb j (N-1) ∅ ∅
      have:=F i i0 i1;unfold UJ;rw[i3,j2]
      lia
     rw[FC D P,JB D P,<-wI] at z;exact Wx (λG=>jP (.done d (MW z (.inl G)))) λG=>T _ _ ⟨⟨z,∅,∅,∅,∅,∅⟩,v⟩
end
structure TB(a₀:jl)(p₀:jG)(st:jR):Prop where
 perm:(jQ st).Perm a₀
 kind:kindOf st=QM
 failed:failedOf st=none
 pend:jS st=p₀
def Xs(b:jl)(a n:Nat):Prop:=∀ i j,i<=j->j<n->Kk b (a+i)<=Kk b (a+j)
def Vl(b:jl)(a n:Nat):Prop:=∀ i j,i<=j->j<n->Kk b (a+j)<=Kk b (a+i)
def Fr(b c:jl)(a:Nat):Prop:=∀ i,i<a->Kk c i=Kk b i
section
variable{a₀:jl}{p₀:jG}{st:jR}
theorem TB.size(h:TB a₀ p₀ st):(jQ st).size=a₀.size:=h.perm.size_eq
theorem TB.setArr(h:TB a₀ p₀ st){a:jl}(b:a.Perm (jQ st)):TB a₀ p₀ (jW st a):=⟨b.trans h.perm,h.kind,h.failed,h.pend⟩
theorem TB.ints(h:TB a₀ p₀ st)(a:Wu a₀):Wu (jQ st):=λp b=>a p ((qZ.mp h.perm).mem_iff.mp b)
end
section
variable[KoOk prog w A s]{a₀:jl}{p₀:jG}
theorem IG{b:Type}{c:Prop}{_:Decidable c}{x J:StateT jR Sem b}{Q:b->jR->Prop}{a:jR}(P:jR->Prop)(k:∀ a,P a->wpS (aA prog w) A E s J Q a)(d:¬c->P a)(e:c->(∀ a,P a->wpS (aA prog w) A E s J Q a)->wpS (aA prog w) A E s x Q a):wpS (aA prog w) A E s (if c then x else J) Q a:=by
 refine Vb (λh=>?_) λh=>?_
 ·exact e h k
 ·exact k a (d h)
theorem HK{a:jR}{i j:Nat}{Q:jJ->jR->Prop}(b:TB a₀ p₀ a)(c:Wu a₀)(f:i<a₀.size)(g:j<a₀.size)(h:Q (some (decide (Kk (jQ a) i<Kk (jQ a) j))) a):wpS (aA prog w) A E s (ltAt' i j) Q a:=by
 let⟨p,d,k,m⟩:=Mz (b.ints c) (show i<(jQ a).size by rw[b.size];exact f)
 let⟨q,e,l,n⟩:=Mz (b.ints c) (show j<(jQ a).size by rw[b.size];exact g)
 rw[m,n] at h;exact jO (wpS_get (jO (Ly d (jO (Ly e (LP b.kind k l h))))))
theorem JN{b:Type}{a:jR}{i j:Nat}{f:jJ->StateT jR Sem b}{Q:b->jR->Prop}(d:TB a₀ p₀ a)(c:Wu a₀)(e:i<a₀.size)(g:j<a₀.size)(h:wpS (aA prog w) A E s (f (some (decide (Kk (jQ a) i<Kk (jQ a) j)))) Q a):wpS (aA prog w) A E s (ltAt' i j >>= f) Q a:=jO (HK d c e g h)
theorem Fv{d:Type}{a:jR}{i j:Nat}{x y:d}{f:jJ->StateT jR Sem d}{Q:d->jR->Prop}(g:TB a₀ p₀ a)(e:Wu a₀)(k:i<a₀.size)(l:j<a₀.size)(q:Q (if Kk (jQ a) i<Kk (jQ a) j then x else y) a)(h:∀ b,f (some b)=if b=true then pure x else pure y:=by exact λ_=>rfl):wpS (aA prog w) A E s (ltAt' i j >>= f) Q a:=by
 refine JN g e k l ?_;rw[h];refine Np (λc=>?_) λc=>?_
 ·rw[aM c] at q;exact jP q
 ·rw[aK c] at q;exact jP q
structure Ke(a₀:jl)(p₀:jG)(st st2:jR):Prop where
 tb:TB a₀ p₀ st2
 eq:∀ k,Kk (jQ st2) k=Kk (jQ st) k
inductive JQ{γ:Type}(a₀:jl)(p₀:jG)(xs:jl)(lo n:Nat):Option γ×Unit->jR->Prop
 |mk{z:jR}:TB a₀ p₀ z->Fr xs (jQ z) lo->Xs (jQ z) lo n->JQ a₀ p₀ xs lo n (none,()) z
theorem AJ{o:jR}{a n u:Nat}{Q:Bool->jR->Prop}(J:Wu a₀)(V:a+n<=a₀.size)(M:u<=n)(K:TB a₀ p₀ o)(N:Xs (jQ o) a u)(h:∀ d,TB a₀ p₀ d->Fr (jQ o) (jQ d) a->Xs (jQ d) a n->Q true d):wpS (aA prog w) A E s (binarySort' a n u) Q o:=by
 refine P7 (λk=>JQ a₀ p₀ (jQ o) a (min k n)) (JQ a₀ p₀ (jQ o) a n) ⟨K,λ_ _=>rfl,λi j e m=>?_⟩ ?_ ?_ ?_
 rotate_left
 ·rintro k _ z W X ⟨g,q,b⟩;let I:min k n=k:=∅
  rw[I] at b;let C:a+k<(jQ z).size:=by rw[g.size];lia
  refine jO (JD (B:=λi=>!decide (Kk (jQ z) (a+k)<Kk (jQ z) (a+i))) (zM _) (zY k) (λi c=>absurd c (sO _)) (λi e m=>by lia) (λi j e m H=>?_) (λx l r T U F G=>?_) λt Y O P=>?_)
  ·have:=b i j e m;simp at H⊢
   lia
  ·dsimp only;refine Vb (λc=>?_) λc=>?_
   ·exact jP (F c)
   refine jO (HK g J ∅ ∅ ?_)
   let y:=G ((l+r) / 2) ∅ ∅
   cases L:decide (Kk (jQ z) (a+k)<Kk (jQ z) (a+(l+r) / 2)) <;> rw[L] at y
   ·exact jP y
   ·exact jP y
  ·refine jO (show wpS (aA prog w) A E s (moveDown' (a+k) (a+t)) _ z from ?_);rw[moveDown'_eq];refine wpS_modify (jP ⟨g.setArr (bubble_perm _ _ _),λi c=>?_,?_⟩)
   ·show Kk (bubble (jQ z) (a+k) (a+k-(a+t))) i=_;rw[Gk C ∅,aK ∅,aK ∅]
    exact q i c
   rw[show min (k+1) n=k.succ by lia]
   let D:∀ i,i<=k->Kk (bubble (jQ z) (a+k) (a+k-(a+t))) (a+i)=if i<t then Kk (jQ z) (a+i) else if i=t then Kk (jQ z) (a+k) else Kk (jQ z) (a+(i-1)):=λi c=>by
    rw[Gk C ∅]
    by_cases p:i<t
    ·rw[aM p,aK ∅,aK ∅]
    rw[aK p];by_cases f:i=t
    ·rw[aM f,aM ∅]
    ·rw[aK f,aK ∅,aM ∅,show a+i-1=a+(i-1) by lia]
   let R:∀ i,i<t->Kk (jQ z) (a+i)<=Kk (jQ z) (a+k):=λi c=>by
    have:=O i c;simp at this
    lia
   let S:∀ i,t<=i->i<k->Kk (jQ z) (a+k)<=Kk (jQ z) (a+i):=λi e m=>by
    have:=P i e m;simp at this
    lia
   intro i j e m;show Kk (bubble (jQ z) (a+k) (a+k-(a+t))) (a+i)<=Kk (bubble (jQ z) (a+k) (a+k-(a+t))) (a+j);rw[D i ∅,D j ∅]
   by_cases p:i<t
   ·rw[aM p];by_cases f:j<t
    ·rw[aM f];exact b i j e ∅
    rw[aK f];by_cases v:j=t
    ·rw[aM v];exact R i p
    ·rw[aK v];exact b i (j-1) ∅ ∅
   rw[aK p,aK (by lia:¬j<t)]
   by_cases f:i=t
   ·rw[aM f];by_cases v:j=t
    ·rw[aM v];exact wO _
    ·rw[aK v];exact S (j-1) ∅ ∅
   ·rw[aK f,aK ∅]
    exact b (i-1) (j-1) ∅ ∅
 ·rintro _ z ⟨g,q,b⟩;rw[show min (max (max u 1) n) n=n by lia] at b
  exact⟨g,q,b⟩
 ·rintro _ z ⟨g,q,b⟩;exact jP (h z g q b)
 ·by_cases z:u=0
  ·rw[show i=j by lia]
   exact wO _
  ·exact N i j e ∅
theorem Xs.snoc{b:jl}{a x:Nat}(h:Xs b a x)(c:1<=x->Kk b (a+x-1)<=Kk b (a+x)):Xs b a (x+1):=λi j d g=>by
 by_cases e:j<x
 ·exact h i j d e
 by_cases f:i=j
 ·rw[f];exact wO _
 ·have:=h i (x-1) ∅ ∅
  rw[show j=x by lia]
  rw[show a+(x-1)=a+x-1 by lia] at this
  exact wF this (c ∅)
theorem Vl.snoc{b:jl}{a x:Nat}(h:Vl b a x)(c:1<=x->Kk b (a+x)<=Kk b (a+x-1)):Vl b a (x+1):=λi j d g=>by
 by_cases e:j<x
 ·exact h i j d e
 by_cases f:i=j
 ·rw[f];exact wO _
 ·have:=h i (x-1) ∅ ∅
  rw[show j=x by lia]
  rw[show a+(x-1)=a+x-1 by lia] at this
  exact wF (c ∅) this
theorem Gn{f:Nat->Option (js)×Nat->StateT jR Sem (ForInStep (Option (js)×Nat))}{lo a b:Nat}{d:jR}{Q:Option (js)×Nat->jR->Prop}(p:1<=a)(j:a<=b)(o:Xs (jQ d) lo a)(m:∀ x n (i:ForInStep (Option (js)×Nat)->jR->Prop),1<=n->n<b->i (if Kk (jQ d) (lo+n)<Kk (jQ d) (lo+n-1) then .done (none,n) else .yield (none,n+1)) d->wpS (aA prog w) A E s (f x (none,n)) i d)(h:∀ n,a<=n->n<=b->Xs (jQ d) lo n->(n=b\/Kk (jQ d) (lo+n)<Kk (jQ d) (lo+n-1))->Q (none,n) d):wpS (aA prog w) A E s (forIn [a:b] (none,a) f) Q d:=by
 refine jT (I:=λx c e=>e=d/\c=(none,x)/\Xs (jQ d) lo x) ?_ ?_ ⟨Z,Z,o⟩
 ·rintro x c e k l ⟨rfl,rfl,g⟩;refine m x x _ ∅ l ?_
  by_cases c:Kk (jQ e) (lo+x)<Kk (jQ e) (lo+x-1)
  ·rw[aM c];exact h x k ∅ g (.inr c)
  ·rw[aK c];exact⟨Z,Z,g.snoc λ_=>tM.mp c⟩
 ·rintro c e ⟨rfl,rfl,g⟩;rw[show max a b=b by lia] at g⊢
  exact h b j (zY _) g (.inl rfl)
structure Ld(a₀:jl)(p₀:jG)(xs:jl)(lo x neq:Nat)(st':jR):Prop where
 tb:TB a₀ p₀ st'
 fr:Fr xs (jQ st') lo
 sg:Vl (jQ st') lo x
 le:neq+1<=x
 eq:∀ i,x-(neq+1)<=i->i<x->Kk (jQ st') (lo+i)=Kk (jQ st') (lo+x-1)
inductive Eu{γ:Type}(a₀:jl)(p₀:jG)(xs:jl)(lo x:Nat):Option γ×Nat×Nat->jR->Prop
 |mk{neq:Nat}{st':jR}:Ld a₀ p₀ xs lo x neq st'->Eu a₀ p₀ xs lo x (none,x,neq) st'
inductive G1{γ:Type}(a₀:jl)(p₀:jG)(xs:jl)(lo n nrem:Nat):Option γ×Nat×Nat->jR->Prop
 |mk{x neq:Nat}{st':jR}:n+1<=x->x<=nrem->Ld a₀ p₀ xs lo x neq st'->G1 a₀ p₀ xs lo n nrem (none,x,neq) st'
theorem Ld.mq{a₀:jl}{p₀:jG}{e:jl}{a x b:Nat}{c:jR}(h:Ld a₀ p₀ e a x b c)(d:a+x<=a₀.size)(k:Nat):Kk (mirror (jQ c) (a+x-(b+1)) (a+x) ((a+x-(a+x-(b+1))) / 2)) k=Kk (jQ c) k:=CY (by rw[h.tb.size];exact d) (λk f g=>by
 have:=h.le;have:=h.eq (k-a) ∅ ∅
 rwa [show a+(k-a)=k by lia] at this) k
theorem Bu{l:jR}{a f:Nat}{Q:js->jR->Prop}(C:Wu a₀)(hn:a+f<=a₀.size)(Y:1<=f)(v:TB a₀ p₀ l)(h:∀ m d,TB a₀ p₀ d->Fr (jQ l) (jQ d) a->1<=m->m<=f->Xs (jQ d) a m->Q (some m) d):wpS (aA prog w) A E s (countRun' a f) Q l:=by
 refine jO (Gn (lo:=a) (zY 1) Y (λi j _ _=>by rw[show i=j by lia];exact wO _) (λx n X F G q=>Fv v C ∅ ∅ q) λn F G I n4=>?_)
 dsimp only;refine Wx (λnn=>?_) λnn=>?_
 ·exact jP (h n l v (λ_ _=>rfl) F G I)
 let D:Kk (jQ l) (a+n)<Kk (jQ l) (a+n-1):=n4.resolve_left nn;refine IG (λd=>TB a₀ p₀ d/\Fr (jQ l) (jQ d) a/\Vl (jQ d) a (n+1)) (λa2 H=>?_) (λc=>?_) (λc r=>?_)
 ·let⟨K,M,L⟩:=H;refine NZ ?_;refine P7 (Eu a₀ p₀ (jQ l) a) (G1 a₀ p₀ (jQ l) a n f) ⟨K,M,L,(by lia:0+1<=n+1),λi t u=>by congr 1;lia⟩ ?step ?fin ?post
  case fin=>
   rintro _ d ⟨b⟩;rw[show max (n+1) f=f by lia] at b⊢
   exact⟨∅,∅,b⟩
  case step=>
   rintro x _ d a0 a1 (@⟨R,_,b⟩);dsimp only;refine JN b.tb C ∅ ∅ (Np (λp=>?_) λp=>JN b.tb C ∅ ∅ (Np (λU=>jP ⟨∅,∅,b⟩) λU=>jP ⟨b.tb,b.fr,?_,?_,λi t u=>?_⟩))
   ·refine IG (λg=>Ke a₀ p₀ d g) (λg H=>?_) (λc=>⟨b.tb,λ_=>rfl⟩) (λc r=>?_)
    ·refine jP ⟨H.1,λi c=>(H.2 i).trans (b.fr i c),Vl.snoc (λi j t u=>?_) λ_=>?_,(by lia:0+1<=x+1),λi t u=>by congr 1;lia⟩
     all_goals rw[H.2,H.2]
     ·exact b.sg i j t u
     ·exact wG p
    ·exact jO (wpS_reverse (r _ ⟨b.tb.setArr (mirror_perm _ _ _ _),b.mq ∅⟩))
   ·exact b.sg.snoc λ_=>tM.mp U
   ·exact vI b.le
   ·rw[show a+(x+1)-1=a+x by lia]
    by_cases z:i=x
    ·rw[z]
    ·let he:Kk (jQ d) (a+x)=Kk (jQ d) (a+x-1):=∅
     rw[he];exact b.eq i ∅ ∅
  case post=>
   rintro _ d (@⟨x,R,_,x1,x2,b⟩);dsimp only;refine IG (λg=>Ke a₀ p₀ d g) (λg H=>?_) (λc=>⟨b.tb,λ_=>rfl⟩) (λc r=>jO (wpS_reverse (r _ ⟨b.tb.setArr (mirror_perm _ _ _ _),b.mq ∅⟩)))
   refine jO (wpS_reverse (?_));let O:a+x<=(jQ g).size:=by rw[H.1.size];lia
   generalize T:jW g (mirror (jQ g) a (a+x) ((a+x-a) / 2))=B;let S:TB a₀ p₀ B:=by
    rw[<-T];exact H.1.setArr (mirror_perm _ _ _ _)
   let J:∀ k,Kk (jQ B) k=if a<=k/\k<a+x then Kk (jQ d) (a+(a+x)-1-k) else Kk (jQ d) k:=λk=>by
    rw[<-T];show Kk (mirror (jQ g) a (a+x) ((a+x-a) / 2)) k=_;rw[Gx O,H.2,H.2]
   refine jO (Gn (lo:=a) ∅ x2 (λi j c3 c4=>?_) (λy m X F G q=>Fv S C ∅ ∅ q) λm m1 m2 m3 m4=>jP (h m B S (λi c=>?_) ∅ m2 m3))
   ·rw[J,J,aM ∅,aM ∅]
    have:=b.sg (x-1-j) (x-1-i) ∅ ∅
    rwa [show a+(x-1-j)=a+(a+x)-1-(a+j) by lia,show a+(x-1-i)=a+(a+x)-1-(a+i) by lia] at this
   ·rw[J,aK ∅]
    exact b.fr i c
 ·let e:n=1:=∅
  subst e;refine⟨v,λ_ _=>rfl,Vl.snoc (λi j t u=>?_) λ_=>wG D⟩;rw[show i=j by lia]
  exact wO _
 ·refine jO (HK v C ∅ ∅ ?_)
  dsimp only;refine Np (λhr=>?_) λhr=>?_
  ·exact jP (h n l v (λ_ _=>rfl) F G I)
  let N:a+n<=(jQ l).size:=by rw[v.size];lia
  let o:∀ k,a<=k->k<a+n->Kk (jQ l) k=Kk (jQ l) (a+n-1):=λk t u=>by
   let V:=I 0 (k-a) ∅ ∅
   let W:=I (k-a) (n-1) ∅ ∅
   rw[show a+(k-a)=k by lia] at V W
   rw[show a+(n-1)=a+n-1 by lia] at W
   rw[Nat.add_zero] at V
   lia
  let P:∀ k,Kk (mirror (jQ l) a (a+n) ((a+n-a) / 2)) k=Kk (jQ l) k:=CY N o;refine jO (wpS_reverse (r _ ⟨v.setArr (mirror_perm _ _ _ _),λi _=>P i,λi j t u=>?_⟩));show Kk (mirror (jQ l) a (a+n) ((a+n-a) / 2)) _<=Kk (mirror (jQ l) a (a+n) ((a+n-a) / 2)) _;rw[P,P];refine Vl.snoc (x:=n) (λi j t u=>?_) (λ_=>wG D) i j t u;rw[o (a+j) ∅ ∅,o (a+i) ∅ ∅]
  exact wO _
end
theorem Gy{o:Nat}:∀(l:ju)(d:Nat)(c:jl)(P M R:ju),c.toList=P++(M++R)->P.length=o+d->M.length=l.length->((l.zipIdx d).foldl (λa x=>a.setIfInBounds (o+x.2) x.1) c).toList=P++(l++R)
 | [],d,c,P,M,R,e,g,f=>by
  rw[List.zipIdx_nil,List.foldl_nil,e,vQ f]
 | p::l,d,c,P,M,R,e,g,f=>by
  obtain⟨m,b,rfl⟩:∃ m b,M=m::b:=by
   cases M with
   | nil=>cases f
   | cons m b=>exact⟨m,b,Z⟩
  rw[List.zipIdx_cons,List.foldl_cons];have:=Gy (o:=o) l (d+1) (c.setIfInBounds (o+d) p) (P++[p]) b R (by
   rw[qL,e,<-g];simp) (by rw[zW];simp;lia) (by simpa using f)
  rw[this];simp
def wr(b:jl)(o:Nat)(l:ju):jl:=l.zipIdx.foldl (λa x=>a.setIfInBounds (o+x.2) x.1) b
theorem ZQX{xs r:jl}{o n:Nat}(g:o+n<=xs.size)(b:r.toList.Perm ((xs.toList.drop o).take n)):(wr xs o r.toList).Perm xs/\(∀ i,i<o\/o+n<=i->Kk (wr xs o r.toList) i=Kk xs i)/\∀ i,i<n->Kk (wr xs o r.toList) (o+i)=Kk r i:=by
 let f:r.toList.length=n:=by
  rw[b.length_eq,yJ,xQ,yH]
  lia
 let d:xs.toList=xs.toList.take o++((xs.toList.drop o).take n++xs.toList.drop (o+n)):=by
  rw[<-wD,yD,yD]
 let c:(xs.toList.take o).length=o:=by
  rw[yJ,yH]
  lia
 let a:(wr xs o r.toList).toList=xs.toList.take o++(r.toList++xs.toList.drop (o+n)):=Gy r.toList 0 xs _ _ _ d c (by rw[<-b.length_eq])
 refine⟨qZ.mpr ?_,λi e=>HX ?_,λi e=>HX ?_⟩
 ·rw[a]
  conv=>rhs;rw[d]
  exact(xI.refl _).append (b.append (xI.refl _))
 ·rw[<-yP,<-yP,a];rcases e with z | z
  ·rw[wM ∅,rF z]
  ·rw[wZ ∅,wZ ∅,rW,c,f]
   congr 1
   lia
 ·rw[<-yP,<-yP,a,wZ ∅,wM ∅,c]
  congr 1
  lia
theorem NH{a:jl}{o n i:Nat}(b:i<n):Kk (a.extract o (o+n)) i=Kk a (o+i):=HX (by
 rw[<-yP,NN,rF b,rW,yP])
theorem MM{a:jl}(h:PN a a.size):a.toList.Pairwise WP:=rB.mpr λi j c b d=>by
 have:=h i j ∅ (by simpa using b)
 unfold WP;rw[Nb (i:=i) (p:=a.toList[i]) (by rw[<-yP];exact zV c),Nb (i:=j) (p:=a.toList[j]) (by rw[<-yP];exact zV b)] at this
 exact this
theorem ZQo{a:jl}(h:a.toList.Pairwise WP):PN a a.size:=λi j e f=>by
 let d:j<a.toList.length:=by simpa using f
 let b:i<a.toList.length:=∅
 rw[Nb (i:=i) (p:=a.toList[i]) (by rw[<-yP];exact zV b),Nb (i:=j) (p:=a.toList[j]) (by rw[<-yP];exact zV d)]
 by_cases c:i=j
 ·subst c;exact wO _
 ·exact rB.mp h i j b d ∅
def AS(a:jl)(c b:Nat):Prop:=∀ i j,c<=i->i<=j->j<b->Kk a i<=Kk a j
theorem Xs.abs{d:jl}{a n:Nat}(h:Xs d a n):AS d a (a+n):=λi j b c e=>by
 let⟨f,rfl⟩:=vX b;let⟨g,rfl⟩:=vX (zO b c);exact h f g (rE c) (rD e)
theorem AS.seg{b:jl}{a n:Nat}(h:AS b a (a+n)):Xs b a n:=λi j c d=>h _ _ (wT _ _) (rT c _) (Nat.add_lt_add_left d _)
theorem AS.two{a:jl}{c m b:Nat}(h:AS a c m)(g:AS a m b)(f:∀ i j,c<=i->i<m->m<=j->j<b->Kk a i<=Kk a j):AS a c b:=λi j d e k=>by
 by_cases l:j<m
 ·exact h i j d e l
 by_cases n:i<m
 ·exact f i j d n (wS l) k
 ·exact g i j (wS n) e k
theorem AS.ext{b:jl}{e d o n:Nat}(h:AS b e d)(f:e<=o)(g:o+n<=d)(z:(b.extract o (o+n)).size=n):PN (b.extract o (o+n)) (b.extract o (o+n)).size:=λi j c a=>by
 rw[z] at a;rw[NH (wQ c a),NH a];exact h _ _ (zO f (wT _ _)) (rT c _) (yU (Nat.add_lt_add_left a _) g)
theorem AS.put{d ys:jl}{h o m e g:Nat}(t:AS d h m)(v:AS d m g)(A:h<=o)(r:m<=e)(l:o<=m)(y:e<=g)(s:∀ i j,h<=i->i<o->m<=j->j<g->Kk d i<=Kk d j)(B:∀ i j,h<=i->i<m->e<=j->j<g->Kk d i<=Kk d j)(f:∀ j,j<o\/e<=j->Kk ys j=Kk d j)(C:AS ys o e)(w:∀ j,o<=j->j<e->∃ u,o<=u/\u<e/\Kk ys j=Kk d u):AS ys h g:=by
 refine AS.two (m:=o) (λi j b a c=>?_) (AS.two C (λi j b a c=>?_) λi j b a c k=>?_) λi j b a c k=>?_
 ·rw[f i (.inl (wQ a c)),f j (.inl c)];exact t i j b a (yU c l)
 ·rw[f i (.inr b),f j (.inr (zO b a))];exact v i j (zO r b) a c
 ·let⟨u,n,p,q⟩:=w i b a;rw[q,f j (.inr c)];by_cases z:u<m
  ·exact B u j (zO A n) z c k
  ·exact v u j (wS z) (xX (yU p c)) k
 ·rw[f i (.inl a)];by_cases z:j<e
  ·let⟨u,n,p,q⟩:=w j c z;rw[q];by_cases x:u<m
   ·exact t i u b (xX (yU a n)) x
   ·exact s i u b a (wS x) (yU p y)
  ·rw[f j (.inr (wS z))];exact s i j b a (zO r (wS z)) k
section
variable[KoOk prog w A s]{a₀:jl}{p₀:jG}
theorem A4{b x:jR}{Q:PUnit->jR->Prop}(h:∀ a,a=x->Q ⟨⟩ a):wpS (aA prog w) A E s (set x:StateT jR Sem PUnit) Q b:=by
 unfold wpS;rw[StateT.run_set];exact ad ⟨Z,h _ Z⟩
theorem ZGS{K:jR}{i b d V m a1:Nat}{Q:Bool->jR->Prop}(h0:Wu a₀)(M:TB a₀ p₀ K)(e1:p₀[i]? = some (b,d,V))(e2:p₀[i+1]? = some (b+d,m,a1))(a2:1<=d)(a3:1<=m)(hn:b+d+m<=a₀.size)(W:Xs (jQ K) b d)(s2:Xs (jQ K) (b+d) m)(h:∀ g,TB a₀ ((p₀.setIfInBounds i (b,d+m,V)).eraseIdxIfInBounds (i+1)) g->(∀ j,j<b\/b+d+m<=j->Kk (jQ g) j=Kk (jQ K) j)->Xs (jQ g) b (d+m)->Q true g):wpS (aA prog w) A E s (mergeAt' i) Q K:=by
 let⟨kd,a,pd,gl,R⟩:=K
 replace W:Xs a b d:=W
 replace s2:Xs a (b+d) m:=s2
 let J:a.Perm a₀:=M.perm;let ep:pd=p₀:=M.pend;let ek:kd=QM:=M.kind;let P:R=none:=M.failed
 replace h:∀ g,TB a₀ ((p₀.setIfInBounds i (b,d+m,V)).eraseIdxIfInBounds (i+1)) g->(∀ j,j<b\/b+d+m<=j->Kk (jQ g) j=Kk a j)->Xs (jQ g) b (d+m)->Q true g:=h
 subst ep;refine Kw ?_;dsimp only;rw[e1,e2];dsimp only;refine jO (A4 λB G=>?_);let l:TB a₀ ((pd.setIfInBounds i (b,d+m,V)).eraseIdxIfInBounds (i+1)) B:=by
  rw[G];exact⟨J,ek,P,Z⟩
 let ea:jQ B=a:=by rw[G]
 clear G;let hz:a.size=a₀.size:=J.size_eq;let N:Wu a:=M.ints h0;let H:=W.abs;let D:=s2.abs;refine QX N ∅ λq eq iq kq=>jO (Kc l.kind iq N ∅ ∅ (HH W) λk k1 k2 k3=>?_)
 dsimp only
 replace k2:∀ i,b<=i->i<b+k->Kk a i<=kv q:=λi T h2=>by
  let⟨i,rfl⟩:=vX T;exact QH.1.mp (k2 i (rD h2))
 replace k3:kv q<Kk a (b+k)\/k=d:=by
  by_cases z:k<d
  ·exact .inl (QH.2.mp (k3 k (zY _) z))
  ·exact .inr ∅
 let q0:∀ j,b+d<=j->j<b+d+m->kv q<=Kk a j:=λj v c=>by
  rw[<-kq];exact D _ j (zY _) v c
 let O:∀ i j,b<=i->i<b+k->b+d<=j->j<b+d+m->Kk a i<=Kk a j:=λi j v y F I=>wF (k2 i v y) (q0 j F I);let x:(∀ i j,b<=i->i<b+d->b+d<=j->j<b+d+m->Kk a i<=Kk a j)->Q true B:=λf=>h B l (λj _=>by rw[ea]) (by
  rw[ea];exact AS.seg (by rw[<-vM];exact H.two D f))
 refine Wx (λy=>jP (x (by rw[show k=d by lia] at O;exact O))) λy=>?_
 obtain⟨n,a0⟩:∃ n,d=k+n:=vX k1;subst a0;rw[uB] at y⊢;rw[<-vM] at H D O x hn q0 kq⊢;generalize ho:b+k=o at *;refine QX N ∅ λp ep ip kp=>jO (Kc l.kind ip N ∅ ∅ (HH (AS.seg D)) λt t1 t2 t3=>?_)
 dsimp only
 replace t2:t=0\/Kk a (o+n+(t-1))<kv p:=by
  by_cases z:t=0
  ·exact .inl z
  ·exact .inr (QJ.1.mp (t2 (t-1) ∅))
 replace t3:∀ i,o+n+t<=i->i<o+n+m->kv p<=Kk a i:=λi T h2=>by
  let⟨i,rfl⟩:=vX (zO (wT _ t) T);exact QJ.2.mp (t3 i (rE T) (rD h2))
 let T3:∀ i j,b<=i->i<o+n->o+n+t<=j->j<o+n+m->Kk a i<=Kk a j:=λi j v y F I=>by
  refine wF (H i (o+n-1) v ∅ ∅) ?_
  rw[kp];exact t3 j F I
 refine Wx (λF=>jP (x λi j v y I c4=>T3 i j v y ∅ c4)) λF=>?_
 let zx:(a.extract o (o+n)).size=n:=by rw[Array.size_extract,uQ ∅];exact uB ..
 let zy:(a.extract (o+n) (o+n+t)).size=t:=by rw[Array.size_extract,uQ ∅];exact uB ..
 let U:∀{o n:Nat},Wu (a.extract o (o+n)):=λp J=>N p (by rw[NN] at J;exact uG (rL J))
 let X:=H.ext (o:=o) (n:=n) ∅ (zY _) zx
 let Y:=D.ext (o:=o+n) (n:=t) (zY _) ∅ zy
 let f0:∀ i,i<(a.extract o (o+n)).size->Kk (a.extract (o+n) (o+n+t)) 0<=Kk (a.extract o (o+n)) i:=λi c=>by
  rw[zx] at c;rw[NH ∅,NH c,Nat.add_zero,kq]
  refine wF (wG (k3.resolve_right ∅)) (H o (o+i) ∅ ∅ ∅)
 let R:∀ j,j<(a.extract (o+n) (o+n+t)).size->Kk (a.extract (o+n) (o+n+t)) j<=Kk (a.extract o (o+n)) ((a.extract o (o+n)).size-1):=λj c=>by
  rw[zy] at c;rw[NH c,zx,NH ∅,<-Nat.add_sub_assoc ∅,kp]
  exact wF (D (o+n+j) (o+n+(t-1)) ∅ ∅ ∅) (wG (t2.resolve_left F))
 let L:∀ r e,Sm B e->WD ((a.extract o (o+n)).toList++(a.extract (o+n) (o+n+t)).toList) r->Q (failedOf (jW e (wr (jQ e) o r.toList))).isNone (jW e (wr (jQ e) o r.toList)):=λr e C gd=>by
  let⟨S,g2⟩:=gd;let el:(a.extract o (o+n)).toList++(a.extract (o+n) (o+n+t)).toList=(a.toList.drop o).take (n+t):=by
   rw[NN,NN,tO,wD]
  rw[el] at S;let⟨w1,w2,w3⟩:=ZQX (xs:=a) (o:=o) (n:=n+t) ∅ S
  let ez:jQ e=a:=C.arr.trans ea;rw[ez];let zr:r.size=n+t:=by
   rw[<-yH,S.length_eq,yJ,xQ,yH]
   lia
  let sr:=ZQo g2;rw[zr] at sr;let P:failedOf (jW e (wr a o r.toList))=none:=C.failed.trans l.failed;rw[P];refine h _ ⟨w1.trans J,C.kind.trans l.kind,P,C.pend.trans l.pend⟩ (λj hj=>w2 j ∅) (AS.seg ?_)
  rw[<-vM,<-vM,ho];rw[<-vM] at w2;refine AS.put (ys:=wr a o r.toList) H D ∅ (wT _ t) (wT _ n) ∅ O T3 w2 (λi j v y F=>?_) λj v y=>?_
  ·let⟨i,rfl⟩:=vX v;let⟨j,rfl⟩:=vX (zO v y);rw[w3 i ∅,w3 j ∅]
   exact sr _ _ (rE y) ∅
  ·let⟨i,rfl⟩:=vX v;rw[w3 i ∅]
   let hm:r.toList[i]'(by rw[yH];lia)∈(a.toList.drop o).take (n+t):=S.mem_iff.mp (xN _)
   let⟨u,u1,u2,_,u3⟩:=O5 hm;exists u,u1,by lia
   rw[<-u3];exact Nb (by rw[<-yP];exact zV _)
 refine Vb (λI=>?_) λI=>?_
 ·exact jO (ZGB l.kind U U ∅ ∅ X Y f0 R (MM X) (MM Y) λr e C gd=>jO (wpS_modify (jO (wpS_get (jP (L r e C gd))))))
 ·exact jO (ZGo l.kind U U ∅ ∅ X Y f0 R (MM X) (MM Y) λr e C gd=>jO (wpS_modify (jO (wpS_get (jP (L r e C gd))))))
end
abbrev Rs:=List (Nat×Nat×Nat)
def Rn(b:jl):Rs->Nat->Nat->Prop
 | [],a,c=>a=c
 | r::l,a,c=>r.1=a/\1<=r.2.1/\Xs b r.1 r.2.1/\Rn b l (r.1+r.2.1) c
theorem Rn.le{b:jl}:∀{l:Rs}{a c:Nat},Rn b l a c->a+l.length<=c
 | [],a,c,h=>by cases h;simp
 | r::l,a,c,⟨h1,h2,_,h4⟩=>by
  have:=h4.le;simp only[zI]
  lia
theorem Rn.app{f:jl}:∀{l m:Rs}{a c:Nat},Rn f (l++m) a c ↔ ∃ b,Rn f l a b/\Rn f m b c
 | [],m,a,c=>⟨λh=>⟨a,Z,h⟩,λ⟨b,d,e⟩=>by cases d;exact e⟩
 | r::l,m,a,c=>by
  show (r.1=a/\1<=r.2.1/\Xs f r.1 r.2.1/\Rn f (l++m) (r.1+r.2.1) c) ↔ _;rw[Rn.app];exact⟨λ⟨d,e,g,b,i,j⟩=>⟨b,⟨d,e,g,i⟩,j⟩,λ⟨b,⟨d,e,g,i⟩,j⟩=>⟨d,e,g,b,i,j⟩⟩
theorem Xs.frame{a b:jl}{o n:Nat}(h:Xs a o n)(e:∀ j,o<=j->j<o+n->Kk b j=Kk a j):Xs b o n:=λi j c d=>by
 rw[e _ ∅ ∅,e _ ∅ ∅]
 exact h i j c d
theorem Rn.frame{d f:jl}:∀{l:Rs}{a c:Nat},Rn d l a c->(∀ j,a<=j->j<c->Kk f j=Kk d j)->Rn f l a c
 | [],a,c,h,_=>h
 | r::l,a,c,⟨h1,h2,h3,h4⟩,e=>by
  have:=h4.le;exact⟨h1,h2,h3.frame λj g b=>e j ∅ ∅,h4.frame λj g b=>e j ∅ b⟩
theorem Rn.mod{d:jl}{f:Nat×Nat×Nat->Nat×Nat×Nat}(b:∀ r,(f r).1=r.1/\(f r).2.1=r.2.1):∀{l:Rs}{i a c:Nat},Rn d l a c->Rn d (l.modify i f) a c
 | [],i,a,c,h=>by simpa using h
 | r::l,0,a,c,⟨h1,h2,h3,h4⟩=>by
  rw[List.modify_zero_cons];exact⟨(b r).1.trans h1,by rw[(b r).2];exact h2,by rw[(b r).1,(b r).2];exact h3,by rw[(b r).1,(b r).2];exact h4⟩
 | r::l,i+1,a,c,⟨h1,h2,h3,h4⟩=>by
  rw[List.modify_succ_cons];exact⟨h1,h2,h3,h4.mod b⟩
structure RS(a₀:jl)(lo:Nat)(st:jR):Prop where
 tb:TB a₀ (jS st) st
 rn:Rn (jQ st) (jS st).toList 0 lo
 le:lo<=a₀.size
section
variable[KoOk prog w A s]{a₀:jl}
theorem D6{d:jR}{i g:Nat}{Q:Bool->jR->Prop}(K:Wu a₀)(r:RS a₀ g d)(L:i+1<(jS d).size)(h:∀ a,RS a₀ g a->(jS a).size+1=(jS d).size->(∀ j,g<=j->Kk (jQ a) j=Kk (jQ d) j)->Q true a):wpS (aA prog w) A E s (mergeAt' i) Q d:=by
 let M:(jS d).toList.length=(jS d).size:=yH;generalize x:jS d=p at L M h;let e:p.toList=p.toList.take i++p.toList[i]'∅::p.toList[i+1]'∅::p.toList.drop (i+2):=by
  rw[zED,zED,yD]
 let H:Rn (jQ d) p.toList 0 g:=by rw[<-x];exact r.rn
 let t:p[i]? = some (p.toList[i]'∅):=by rw[<-yP];exact zV _
 let u:p[i+1]? = some (p.toList[i+1]'∅):=by rw[<-yP];exact zV _
 generalize p.toList[i]'∅=U at e t
 generalize p.toList[i+1]'∅=V at e u
 let y:(p.toList.take i).length=i:=by rw[yJ];lia
 generalize p.toList.take i=P at e y;generalize p.toList.drop (i+2)=R at e;rw[e] at H;let⟨b,O,S⟩:=Rn.app.mp H;let⟨q,k,o⟩:=U;let⟨sb,l,T⟩:=V;let⟨z,B,C,D,F,G,n⟩:=S;dsimp only at z B C D F G n;subst D;let l7:=n.le;let N:=r.le;let I:=r.tb;rw[x] at I;refine ZGS K I t u B F ∅ C G λa f m W=>?_
 let J:((p.setIfInBounds i (q,k+l,o)).eraseIdxIfInBounds (i+1)).toList=P++(q,k+l,o)::R:=by
  rw[qF,qL,e,<-y];simp[List.eraseIdx_append_of_length_le]
 let v:(jS a).toList=P++(q,k+l,o)::R:=by rw[f.pend];exact J
 refine h a ⟨?_,?_,r.le⟩ ?_ λj c=>m j (.inr ∅)
 ·rw[f.pend];exact f
 ·rw[v];refine Rn.app.mpr ⟨b,O.frame λj _ c=>m j (.inl ∅),z,(by show 1<=k+l;lia),W,?_⟩
  dsimp only;rw[<-vM];exact n.frame λj c _=>m j (.inr c)
 ·let X:=congrArg wN v;let Y:=congrArg wN e;simp at X Y
  lia
theorem ZOT{c:Prop}{_:Decidable c}{n:Nat}(h:2<=n):(if c then n-2-1 else n-2)+1<n:=by split <;> lia
theorem ZOf{n:Nat}(h:n > 1):n-2+1<n:=∅
theorem BV{f b:Type}{c:b->Prop}{_:∀ n,Decidable (c n)}{x J:b->StateT jR Sem f}{Q:f->jR->Prop}{a:jR}{d:b->Prop}(P:b->jR->Prop)(k:∀ n a,P n a->wpS (aA prog w) A E s (J n) Q a)(g:∀ n,¬c n->d n->P n a)(i:∀ n,c n->(∀ n a,P n a->wpS (aA prog w) A E s (J n) Q a)->d n->wpS (aA prog w) A E s (x n) Q a)(n:b)(e:d n):wpS (aA prog w) A E s (if c n then x n else J n) Q a:=by
 refine Vb (λh=>?_) λh=>?_
 ·exact i n h k e
 ·exact k n a (g n h e)
theorem RS.push{b:jR}{a n:Nat}(r:RS a₀ a b)(h:Xs (jQ b) a n)(d:1<=n)(c:a+n<=a₀.size):RS a₀ (a+n) (setPending b ((jS b).push (a,n,0))):=by
 refine⟨⟨r.tb.perm,r.tb.kind,r.tb.failed,Z⟩,?_,c⟩;show Rn (jQ b) ((jS b).push (a,n,0)).toList 0 (a+n);rw[uX];exact Rn.app.mpr ⟨a,r.rn,Z,d,h,Z⟩
theorem RS.mod{a:jR}{b i:Nat}{f:Nat×Nat×Nat->Nat×Nat×Nat}(r:RS a₀ b a)(c:∀ r,(f r).1=r.1/\(f r).2.1=r.2.1):RS a₀ b (setPending a ((jS a).modify i f)):=by
 refine⟨⟨r.tb.perm,r.tb.kind,r.tb.failed,Z⟩,?_,r.le⟩;show Rn (jQ a) ((jS a).modify i f).toList 0 b;rw[Array.toList_modify];exact r.rn.mod c
theorem Gr{st:jR}{Q:Unit->jR->Prop}(C:Wu a₀)(v:TB a₀ #[] st)(h1:1<=a₀.size)(h:∀ z,(jQ z).Perm a₀->failedOf z=none->PN (jQ z) a₀.size->Q () z):wpS (aA prog w) A E s sortRuns' Q st:=by
 let⟨kd,X,T,gl,Y⟩:=st;let hz:X.size=a₀.size:=v.perm.size_eq;let r0:RS a₀ 0 (SortSt.mk' kd X T gl Y):=⟨⟨v.perm,v.kind,v.failed,Z⟩,by
  have:T=#[]:=v.pend;subst this;exact Z,zM _⟩
 refine jO (wpS_get ?_);dsimp only;rw[hz];generalize hm:minRun' a₀.size a₀.size 0=mr;refine jO (jU (jT (I:=λx c a=>∃ b,c=(none,b)/\RS a₀ b a/\x<=b) (Q:=λc a=>∃ b,c=(none,b)/\RS a₀ a₀.size a) ?step ?fin ⟨0,rfl,r0,zY _⟩) ?post)
 case fin=>
  rintro c a ⟨b,rfl,r,x⟩;have:=r.le;let e:b=a₀.size:=∅
  subst e;exact⟨_,Z,r⟩
 case post=>
  rintro c a ⟨b,rfl,r⟩;dsimp only;refine jO (jU (jT (I:=λx c a=>c=(none,())/\RS a₀ a₀.size a/\((jS a).size<=1\/(jS a).size+x<=a₀.size)) (Q:=λc a=>c=(none,())/\RS a₀ a₀.size a/\(jS a).size<=1) ?_ ?_ ⟨rfl,r,.inr ?_⟩) ?_)
  ·rintro x c d _ hx ⟨rfl,g,z⟩;refine jO (wpS_get ?_);refine Vb (λc=>?_) λc=>?_
   ·exact jP ⟨Z,g,c⟩
   refine jO (D6 C g (ZOT (Nat.not_le.mp c)) λO D e3 _=>?_);rw[aK (by simp)]
   exact jP ⟨Z,D,.inr ∅⟩
  ·rintro c d ⟨rfl,g,z⟩;exists Z,g
   lia
  ·have:=r.rn.le;rw[yH] at this
   lia
  ·rintro c d ⟨rfl,g,z⟩;dsimp only;refine jP (h d g.tb.perm g.tb.failed ?_);let F:=g.rn;rw[<-yH] at z;generalize (jS d).toList=l at F z
   match l,F,z with
   | [],F,_=>exact absurd F (by show ¬0=a₀.size;lia)
   | [q],⟨q1,q2,q3,U⟩,_=>
    let U:q.1+q.2.1=a₀.size:=U;intro i j G c2;have:=q3 i j G ∅
    rw[q1,tS,tS] at this;exact this
 case step=>
  rintro x c a _ hx ⟨b,rfl,r,xl⟩;dsimp only;refine Vb (λG=>?_) λG=>?_
  ·have:=r.le;let e:b=a₀.size:=∅
   subst e;exact jP ⟨_,Z,r⟩
  refine jO (Bu C ∅ ∅ r.tb λm d p J M N B=>?_)
  dsimp only;let g:RS a₀ b d:=⟨by rw[p.pend];exact p,by rw[p.pend];exact r.rn.frame λj _ c=>J j c,r.le⟩
  let H:1<=m/\m<=a₀.size-b/\Xs (jQ d) b m:=⟨M,N,B⟩;clear M N B
  revert H
  revert m
  refine BV (λn st=>RS a₀ b st/\Xs (jQ st) b n/\1<=n/\b+n<=a₀.size) (λn O H=>?_) (λm _ H=>⟨g,H.2.2,H.1,∅⟩) (λm cm L H=>?_)
  ·let⟨D,W,S,R⟩:=H;refine jO (wpS_get ?_);split
   ·rename_i V P pw _
    refine jO (jU (jT (I:=λ_ c st=>c=(none,())/\RS a₀ b st/\Xs (jQ st) b n) (Q:=λc st=>c=(none,())/\RS a₀ b st/\Xs (jQ st) b n) ?_ (λ_ _ h=>h) ⟨rfl,D,W⟩) ?_)
    ·rintro y c k _ _ ⟨rfl,u,o⟩;refine jO (wpS_get ?_);by_cases c:(jS k).size > 1
     ·rw[aM c];split
      ·split
       ·exact jP ⟨Z,u,o⟩
       ·refine jO (D6 C u (ZOf c) λa0 r5 _ k5=>?_);rw[aK (by simp)]
        exact jP ⟨Z,r5,o.frame λj c _=>k5 j c⟩
      ·exact jP ⟨Z,u,o⟩
     ·rw[aK c];exact jP ⟨Z,u,o⟩
    ·rintro c k ⟨rfl,u,o⟩;dsimp only;exact jO (wpS_modify (jO (wpS_modify (jP ⟨_,rfl,(u.mod (i:=(jS k).size-1) (f:=λx=>(x.1,x.2.1,power' a₀.size (2 * V+P) (2 * V+P+P+n) a₀.size)) λ_=>⟨Z,Z⟩).push o S R,∅⟩))))
   ·exact jO (wpS_modify (jP ⟨_,rfl,D.push W S R,∅⟩))
  ·let⟨M,N,m3⟩:=H;refine NZ ?_;refine jO (AJ C ∅ ∅ g.tb m3 λk t K o=>?_)
   rw[aK (by simp)]
   exact L _ k ⟨⟨by rw[t.pend];exact t,by rw[t.pend];exact g.rn.frame λj _ c=>K j c,g.le⟩,o,∅,∅⟩
end
end
end L2
namespace Tw
open PySem PySem.Spec L2 PyProof.Rows
structure Kg(g:KT->KT):Prop where
 plt:∀ t u,(g t).plt (g u)=t.lt u
 cmp:∀ t u,(g t).cmp (g u)=true
 shape:∃ n:Nat,∀ t,∃(k:Int)(r:jo),g t=.tup (.int k::r)/\r.length=n
def Ql(g:KT->KT)(h:aD)(t:KT)(v:aj):Prop:=ZH h (g t) v
section
variable{g:KT->KT}
theorem E9:∀{l m:jo}{f d:je}{i:Nat}{Q:Bool->am->Prop},l.length=m.length->jY s.heap l f->jY s.heap m d->cmpL l m=true->A.units+kc l<cLine->Q (pltL l m) s->PySem.W.KatLex prog w A true false Q (f.zip d) (i+1) s
 | [],m,f,d,i,Q,c,x,y,_,_,h=>by
  rw[jY] at x;subst x
  cases m with
  | nil=>rw[pltL] at h;exact PySem.W.kat_nil h
  | cons _ _=>simp at c
 | a::l,m,f,d,i,Q,c,x,y,hc,hu,h=>by
  cases m with
  | nil=>simp at c
  | cons b m=>
   rw[jY] at x y;let⟨v,r,rfl,k,o⟩:=x;let⟨j,q,rfl,n,p⟩:=y;rw[kc] at hu;rw[pltL] at h;rw[cmpL] at hc;refine PySem.W.kat_cons (Pv a.depth a b A v j (zY _) k n ∅ prog w _ _ ?_)
   refine PySem.W.kat_go (λe=>PySem.W.kat_yes ?_) (λe=>PySem.W.kat_no ?_)
   ·rw[e,aM rfl] at h hc;exact E9 (by simpa using c) o p hc ∅ h
   ·rw[e,aK zT] at h hc;exact PySem.W.kat_one v j (De a.depth a b A v j (zY _) k n hc ∅ prog w _ _ h)
theorem ZRL(z:Kg g){t u:KT}{x y:aj}{Q:Bool->am->Prop}(l:Ql g s.heap t x)(o:Ql g s.heap u y)(G:A.units+(g t).depth<cLine)(h:Q (t.lt u) s):aB (aA prog w) A (keyLt' (tuples' true) x y) Q E s:=by
 let⟨n,M⟩:=z.shape;let⟨k,r,S,la⟩:=M t;let⟨m,q,T,lc⟩:=M u;let b:=z.plt t u;let d:=z.cmp t u;unfold Ql at l o;rw[S] at b d l G;rw[T] at b d o;rw[ZH] at l o;let⟨a,Y,rfl,⟨⟨cl,dd,O,sl⟩,X,U,n1,V⟩,i⟩:=l;let⟨c,H,rfl,⟨⟨N,R,P,a0⟩,B,F,n2,v⟩,j⟩:=o;let l1:=i.length;let l2:=j.length;rw[jY] at i j;let⟨v1,K,rfl,I,i⟩:=i;let⟨v2,L,rfl,J,j⟩:=j;rw[ZH] at I J;let⟨C,rfl⟩:=I;let⟨D,rfl⟩:=J;rw[KT.plt,pltL] at b;rw[KT.cmp,cmpL] at d;rw[KT.depth,kc] at G;refine PySem.W.kat_lt X V B v ?_;let f:decide ((Value.int k C::K).toArray.size<(Value.int m D::L).toArray.size)=false:=by
  simp only[zI] at l1 l2;simp only[zP,zI,decide_eq_false_iff_not]
  lia
 rw[f];show PySem.W.KatLex prog w A true false Q ((.int k C,.int m D)::K.zip L) 0 s;refine PySem.W.kat_cons (SeqAt.EqAt.int_int k C m D prog w _ _ ?_);refine PySem.W.kat_go (λe=>PySem.W.kat_yes ?_) (λe=>PySem.W.kat_no ?_)
 ·let p:(KT.int k).eqb (KT.int m)=true:=by rw[KT.eqb];exact e
  rw[p,aM rfl] at b d;refine E9 (by rw[la,lc]) i j d ∅ ?_
  rw[b];exact h
 ·let p:(KT.int k).eqb (KT.int m)=false:=by rw[KT.eqb];exact e
  rw[p,aK zT,KT.plt] at b;refine oneLt_int ?_;rw[b];exact h
end
def Y2(g:KT->KT)(h:aD):jo->je->Prop
 | [],[]=>True
 | t::ts,v::vs=>Ql g h t v/\Y2 g h ts vs
 | _,_=>False
theorem Y2.len{g:KT->KT}{h:aD}:∀{a:jo}{b:je},Y2 g h a b->a.length=b.length
 | [],[],_=>rfl
 | _::_,_::_,x=>congrArg (· + 1) x.2.len
 | [],_::_,x=>x.elim
 | _::_,[],x=>x.elim
theorem Y2.get{g:KT->KT}{h:aD}:∀{c:jo}{b:je},Y2 g h c b->∀ i,i<b.length->Ql g h (c.getD i (.int 0)) (b.getD i Value.none)
 | _::_,_::_,x,0,_=>x.1
 | _::_,_::_,x,i+1,a=>x.2.get i (by simpa using a)
 | [],[],_,_,a=>absurd a (by simp)
 | [],_::_,x,_,_=>x.elim
 | _::_,[],x,_,_=>x.elim
theorem Y2.firsts{g:KT->KT}(i:Kg g){h:aD}:∀{m:jo}{d:je},Y2 g h m d->∃ b,PySem.W.KatTups h d b/\b.length=d.length/\∀ v∈b,∃ k t,v=Value.int k t
 | [],[],_=>⟨[],.nil,Z,λv c=>absurd c (by simp)⟩
 | t::m,v::d,x=>by
  let⟨b,q,s,u⟩:=Y2.firsts i x.2;let⟨_,B⟩:=i.shape;let⟨k,r,p,_⟩:=B t;let f:=x.1;unfold Ql at f;rw[p,ZH] at f;let⟨a,A,rfl,⟨o,z,w,n,y⟩,e⟩:=f;rw[jY] at e;let⟨D,C,rfl,j,e⟩:=e;rw[ZH] at j;let⟨l,rfl⟩:=j;exists .int k l::b,.cons z w y Z q,by simp[s]
  intro v c;rcases zL.mp c with rfl | c
  ·exact⟨k,l,Z⟩
  ·exact u v c
 | [],_::_,x=>x.elim
 | _::_,[],x=>x.elim
section
variable{g:KT->KT}
theorem A6(d:Kg g){i:jo}{a:je}{Q:PyProof.Rows.SortKind->am->Prop}(m:0<a.length)(h:Y2 g s.heap i a)(e:Q (tuples' true) s):aB (aA prog w) A (keyKind' a.toArray) Q E s:=by
 let⟨j,b,l,c⟩:=h.firsts d;refine PySem.W.kat_kind (T:=.type "int") b ∅ (λv f=>?_) (by decide) e
 let⟨k,t,rfl⟩:=c v f;exact wW.of_pure Z
end
def rk(a:jo)(t:KT):Int:=((a.countP λu=>u.lt t:Nat):Int)
theorem GL{c:jo}{t u:KT}(d:t∈c):decide (rk c t<rk c u)=t.lt u:=by
 unfold rk
 cases h:t.lt u with
 | true=>
  let⟨a,b,rfl⟩:=List.append_of_mem d;let m (l:jo):=zEF (l:=l) (p:=λx=>x.lt t) (q:=λx=>x.lt u) λx _ z=>lt_trans' x t u z h;have:=m a;have:=m b;rw[List.countP_append,List.countP_append,List.countP_cons_of_neg (by rw[UW];decide),List.countP_cons_of_pos (p:=λx:KT=>x.lt u) h]
  exact aJ ∅
 | false=>
  have:=zEF (l:=c) (p:=λx=>x.lt u) (q:=λx=>x.lt t) λx _ z=>by
   cases e:x.lt t with
   | true=>rfl
   | false=>rw[le_trans' h e] at z;cases z
  exact aI ∅
open Classical in
noncomputable abbrev kG(g:KT->KT)(a:jo)(h:aD):Ko:=⟨tuples' true,λp=>if z:∃ t∈a,Ql g h t p.1 then rk a z.choose else 0,λp=>∃ t∈a,Ql g h t p.1⟩
theorem KC{g:KT->KT}(b:Kg g){a:jo}{h:aD}{t:KT}{p:jV}(d:t∈a)(c:Ql g h t p.1):(kG g a h).k1 p=rk a t:=by
 let z:∃ t∈a,Ql g h t p.1:=⟨t,d,c⟩;refine(dif_pos z).trans ?_;let e:g z.choose=g t:=Ys.mp (ZH.inj _ _ _ z.choose_spec.2 c);let f:(λu:KT=>u.lt z.choose)=λu=>u.lt t:=by
  funext u
  rw[<-b.plt,<-b.plt,e]
 unfold rk;rw[f]
theorem ZLH{d g:Type}{f:d->g}{l m:List g}(h:l.Perm m):∀ k:List d,m=k.map f->∃ p:List d,p.Perm k/\l=p.map f:=by
 induction h with
 | nil=>exact λk e=>⟨k,.refl _,e⟩
 | cons x _ r=>
  intro k e
  cases k with
  | nil=>cases e
  | cons a k=>
   cases e;let⟨p,c,rfl⟩:=r k Z;exact⟨a::p,c.cons a,Z⟩
 | swap x y l=>
  intro k e
  match k,e with
  | a::b::k,e=>
   cases e;exact⟨b::a::k,.swap _ _ _,Z⟩
 | trans _ _ o q=>
  intro k e;let⟨p,c,i⟩:=q k e;let⟨s,j,n⟩:=o p i;exact⟨s,j.trans c,n⟩
section
variable{g:KT->KT}
theorem ZQW(x:Kg g){d:jo}{o f:je}{Q:jR->am->Prop}(K:o.length=f.length)(R:2<=f.length)(h:Y2 g s.heap d o)(U:∀ t∈d,A.units+(g t).depth<cLine)(L:∀ (p:jk) (l:jR),p.Perm (yF f.length)->(p.map λi=>d.getD i (.int 0)).Pairwise (λa b=>b.lt a=false)->jQ l=p.toArray.map (uK (o.toArray.zip f.toArray))->failedOf l=none->Q l s):
  aB (aA prog w) A ((sortRuns').run (SortSt.mk' (tuples' true) (o.toArray.zip f.toArray) #[] 7 none)) (λr y=>Q r.2 y) E s:=by
 let S:=h.len;let V:@KoOk (kG g d s.heap) prog w A s:=@KoOk.mk (kG g d s.heap) _ _ _ _ fun{E p q Q} ⟨t,G,a⟩ ⟨u,H,b⟩ z=>by
  let z:Q (decide ((kG g d s.heap).k1 p<(kG g d s.heap).k1 q)) s:=z;rw[KC x G a,KC x H b,GL G] at z;exact ZRL x a b (U t G) z
 let j (i:Nat) (m:i<f.length):d.getD i (.int 0)∈d:=by
  rw[zU,zV ∅]
  exact xN _
 let M (i:Nat):=PySem.W.kat_item K i;let O:(o.toArray.zip f.toArray).size=f.length:=by simp[K]
 generalize o.toArray.zip f.toArray=k at L M O⊢;let J:k.toList=(yF f.length).map (uK k):=by
  apply List.ext_getElem
  ·simp[O]
  ·intro i P R;simp[uK,Array.getD,show i<k.size by simpa using P]
 let F (i:Nat) (m:i<f.length):Ql g s.heap (d.getD i (.int 0)) (uK k i).1:=by
  rw[M];exact h.get i ∅
 refine ae (Gr (κ:=kG g d s.heap) (a₀:=k) (st:=SortSt.mk' (tuples' true) k #[] 7 none) (Q:=λ_ z=>(jQ z).Perm k/\failedOf z=none /\ @PN (kG g d s.heap) (jQ z) k.size) (λp n=>?_) (@TB.mk (kG g d s.heap) _ _ _ (.refl _) rfl rfl rfl) ∅ λz C I D=>⟨C,I,D⟩) (λr y T=>?_) λ_ _ z=>z
 ·rw[J] at n;let⟨i,m,rfl⟩:=zR.mp n;let m:=xO.mp m;exact⟨_,j i m,F i m⟩
 ·let⟨rfl,C,I,D⟩:=T;let⟨p,n,e⟩:=ZLH (qZ.mp C) _ J;rw[<-C.size_eq] at D;let N:=MM (κ:=kG g d y.heap) D;rw[e,uY] at N;refine L p _ n (uY.mpr (N.imp_of_mem fun{a b} B v c=>?_)) (sG.mp (by rw[e];simp)) I
  let B:=xO.mp (n.mem_iff.mp B);let v:=xO.mp (n.mem_iff.mp v);let c:(kG g d y.heap).k1 _<=(kG g d y.heap).k1 _:=c;rw[KC x (j a B) (F a B),KC x (j b v) (F b v)] at c;rw[<-GL (j b v)];exact aI ∅
end
inductive Oe(g:KT->KT)(c:jf)(H:Hp)(Q:VK)(_:XK):Prop
 |mk(v:V)(t:KT)(_:c=[v])(_:ZE H t v)(_:t.fits 3=true)(_:∀(b:V)(a:Hp),ZE a (g t) b->ZD H a->Q b a)
theorem El{g:KT->KT}{X:Cx}{b:jq}{k:L2.St}{H:Hp}{s:am}(I:ZG X b k H s):∀{d:jo}{a:jf}{c:je},jX H (d.map g) a->ZO a c->Y2 g s.heap d c
 | [],a,c,h,r=>by
  rw[uD,jX] at h;subst h;cases r;trivial
 | t::d,a,c,h,r=>by
  rw[yV,jX] at h;let⟨v,l,rfl,e,f⟩:=h
  cases r with
  | cons i j=>exact⟨VZ I _ _ _ e i,El I f j⟩
section
variable{ki:jq}{σ:L2.St}
theorem Ce{H:Hp}{s:am}{b:ak}(I:ZG X ki σ H s)(h:s.heap.objs.size<=b):b∉frs X.stack:=λz=>by
 let⟨_,o,e,_⟩:=I.stack.mem z;exact absurd (zG e) (Nat.not_lt.mpr h)
theorem D3{g:KT->KT}{S:Hp->KT->V->Prop}{sp:Sp}{x0:Str}{k:Nat}{f D kS:ak}{fd:ap}{oD:aH}{H0:Hp}{A:ax}{E:ja}{p:aj->PUnit->Sem (ForInStep PUnit)}{all:jo}(hI:∀ (H c:Hp) (t:KT) (u:V),ZD H c->S H t u->S c t u)(hS:∀ (H:Hp) (u:V) (t:KT) (Q:VK),ZD H0 H->S H t u->(∀ (P:V) (c:Hp),ZE c (g t) P->ZD H c->Q P c)->sp [u] H Q E0)(F:ZI X.prog X.w X.K X.mg X.base ZM k f fd [x0] sp)(hb:Zv X.K fd [x0] [])(hr:ZU k A)(hA:A.frames=X.A.frames)(nD:D∉frs X.stack)(nS:kS∉frs X.stack)(Y:D≠kS)(a3:H0 D=none)(v:∀ x (s:am) (R:am->Prop),aB (aA X.prog X.w) A (call (.ref f) [x]) (λkv h=>∃ (l:je) (e:Nat),l.length<1000/\h.heap.get? kS=some (seqObj "list" l.toArray e)/\R { h with heap:=h.heap.update kS (Obj.mapSeq (·.push kv)) }) (λ_ _=>False) s ->
   aB (aA X.prog X.w) A (p x ⟨⟩) (λr h=>r=.yield ⟨⟩/\R h) E s):
  ∀(r:je)(rU:jf)(O B:jo)(H:Hp)(s:am)(l:je)(m:jf)(e:Nat),all=B++O->all.length<1000->ZG X ki σ H s->ZD H0 H->VL X ki H kS->H D=none->ZO rU r->Paired (S H) O rU ->
   s.heap.get? D=some oD->s.heap.get? kS=some (seqObj "list" l.toArray e)->jX H (B.map g) m->ZO m l ->
   aB (aA X.prog X.w) A (forIn r PUnit.unit p) (λ_ h=>∃(c:Hp)(j:je)(d:jf)(U:Nat),ZG X ki σ c h/\ZD H0 c/\VL X ki c kS/\c D=none/\h.heap.get? D=some oD/\h.heap.get? kS=some (seqObj "list" j.toArray U)/\jX c (all.map g) d/\ZO d j) E s
 | [],rU,O,B,H,s,l,m,e,ha,hl,I,s0,W,hD,r,hk,oo,os,y,rk=>by
  cases r;cases hk;rw[zK] at ha;subst ha;rw[List.forIn_nil];exact ad ⟨H,l,m,e,I,s0,W,hD,oo,os,y,rk⟩
 | x::r,rU,O,B,H,s,l,m,e,ha,hl,I,s0,W,hD,rr,hk,oo,os,y,rk=>by
  cases rr with
  | cons ra rb=>
  rename_i u ur
  cases hk with
  | cons a6 a7=>
  rename_i t O
  rw[List.forIn_cons];let c4:l.length=B.length:=by
   let a:=y.length;let b:=rk.length;rw[zX] at a
   lia
  let a8:B.length+(O.length+1)<1000:=by rw[ha,zW,zI] at hl;lia
  refine aa (Z3 (v x s (λh=>∃(c:Hp)(j:je)(d:jf)(U:Nat),ZG X ki σ c h/\ZD H0 c/\ZD H c/\VL X ki c kS/\c D=none/\h.heap.get? D=some oD/\h.heap.get? kS=some (seqObj "list" j.toArray U)/\jX c ((B++[t]).map g) d/\ZO d j) ?_) λq h L=>?_)
  ·let a2:Vo X.prog X.w X.K X.mg X.base A X.stack s H:=⟨by rw[hA];exact I.ok.frames,I.env0.mod,I.env0.bs,I.env0.bsz,I.env0.funs,I.env0.frf,I.env0.hok,I.env0.bare⟩
   let c0:sp [u] H (λP c=>ZE c (g t) P/\ZD H c) E0:=hS H u t _ s0 a6 λP c a b=>⟨a,b⟩;let r2:ZO [u] [x]:=.cons ra .nil;refine wpAny_call (codeAny_mono (F.run A X.stack s H ⟨[x],[]⟩ [x] [u] _ E0 hr a2 (hb s [x] I.kIn rfl) r2 c0) λrr h L=>?_)
   cases rr with
   | error ev=>exact L.elim
   | ok fl=>
    cases fl with
    | next=>exact False.elim L
    | brk=>exact False.elim L
    | cont=>exact False.elim L
    | ret kv=>
     let⟨P,c,N,T,un,a9,rv,kt,sm⟩:=L;let J:ZG X ki σ c h:=I.call' N un a9 T (λb hb=>absurd hb (by simp))
     let M:=un.keep D oD oo hD nD (by simp)
     let a1:=un.keep kS _ os W.1 nS (by simp)
     let a4:c kS=none:=un.free kS _ os W.1 (by simp)
     let C:c D=none:=un.free D _ oo hD (by simp)
     exists l,e,∅,a1
     let i:VL X ki c kS:=⟨a4,W.2⟩;let ea:(wX l).push kv=wX (l++[kv]):=by simp
     obtain⟨c2,a5⟩:∃ c2,(h.heap.update kS (Obj.mapSeq (·.push kv))).get? kS=some (seqObj "list" (wX (l++[kv])) c2):=⟨_,by rw[<-ea];exact get?_update_seq a1 (·.push kv)⟩
     let sb:=xP.update h.heap kS (Obj.mapSeq (·.push kv));let J2:ZG X ki σ c { h with heap:=h.heap.update kS (Obj.mapSeq (·.push kv)) }:=J.turned (t':=h.toks) (it:=kS) (λb o n q=>(sb.2 b n).trans q) i.1 i.2.1 i.2.2.2.1 i.2.2.2.2.1 i.2.2.2.2.2;refine⟨c,l++[kv],m++[P],c2,J2,s0.trans sm,sm,i,C,(sb.2 D Y).trans M,a5,?_,rk.append (.cons rv .nil)⟩;rw[zD];exact(y.sm sm).append (.cons kt .nil)
  ·let⟨rfl,c,j,d,U,J,c3,sm,i,C,M,N,a0,c1⟩:=L;show aB (aA X.prog X.w) A (forIn r PUnit.unit p) _ E h;exact D3 hI hS F hb hr hA nD nS Y a3 v r _ O (B++[t]) c h j d U (by rw[ha];simp) hl J c3 i C rb (Paired.mapP (G:=S c) a7 λ_ _ z=>hI _ _ _ _ sm z) M N a0 c1
end
section
variable{ki:jq}{σ:L2.St}{H:Hp}
theorem ZOZ{a:ak}{o:HO}(I:ZG X ki σ H s)(l:X.s₀.heap.get? a=none)(t:a≠X.env.locals)(m:∀ x c,X.env.cells.lookup x=some c->c≠a)(y:∀ p∈X.pn++ki,p.1≠a)(v:H a=none)(h:Zb X.prog X.w (upd H a o) s.heap a o):ZG X ki σ (upd H a o) s:=by
 let g:∀{b:ak}{u:HO},H b=some u->b≠a:=fun{b u} e z=>by rw[z,v] at e;cases e
 refine⟨I.ok,I.os,I.bare,⟨I.base.keep,I.base.slot,λb i q n A=>?_,I.base.there,λb k q=>?_,λb i u q=>?_,λb B q=>?_⟩,I.loc,I.cell,?_,λx c e=>?_,λp d=>?_,λb u e=>?_,I.len⟩
 ·rw[ZQ (λz=>by rw[z,l] at q;cases q)];exact I.base.free b i q n A
 ·let e:=I.base.tups b k q;rw[ZQ (g e)];exact e
 ·let e:=I.base.frzs b i u q;rw[ZQ (g e)];exact e
 ·let⟨f,e⟩:=I.base.tbls b B q;exact⟨f,by rw[ZQ (g e)];exact e⟩
 ·rw[ZQ (Ne.symm t)];exact I.free
 ·rw[ZQ (m x c e)];exact I.freeC x c e
 ·let⟨e,n,r⟩:=I.pin p d;exact⟨e,by rw[ZQ (y p d)];exact n,r⟩
 ·by_cases j:b=a
  ·subst j;rw[ZX] at e;cases e;exact h
  ·rw[ZQ j] at e;exact(I.hok b u e).stay (λ_ _ _ q=>q) (λc q=>by rw[ZQ (g q)];exact q) λc k q=>by rw[ZQ (g q)];exact q
theorem ZO.getD{b:jf}{a:je}(r:ZO b a){i:Nat}(h:i<b.length):ZP (b.getD i .non) (a.getD i Value.none):=by
 let e:=r.length;let⟨u,c,d⟩:=r.get (i:=i) (x:=b[i]) (by simp[h])
 rw[zU,zU,c,zV h];exact d
theorem FB{b:jf}{a:je}(r:ZO b a):∀(l:jk),(∀ i∈l,i<b.length)->ZO (l.map λi=>b.getD i .non) (l.map λi=>a.getD i Value.none)
 | [],_=>.nil
 | i::l,h=>.cons (ZO.getD r (h i zS)) (FB r l λj c=>h j (zQ _ c))
theorem FW{F:KT->V->Prop}{c:jo}{a:jf}(e:Paired F c a):∀(l:jk),(∀ i∈l,i<a.length)->Paired F (l.map λi=>c.getD i (.int 0)) (l.map λi=>a.getD i .non)
 | [],_=>.nil
 | i::l,h=>by
  let d:=h i zS;let⟨t,f,k⟩:=Ot e (i:=i) (b:=a[i]) (by simp[d])
  refine .cons (show F (c.getD i (.int 0)) (a.getD i .non) from ?_) (FW e l λj g=>h j (zQ _ g));rw[zU,zU,f,zV d];exact k
theorem range_getD{a:Type}(l:List a)(d:a):(yF l.length).map (λi=>l.getD i d)=l:=by
 apply List.ext_getElem
 ·simp
 ·intro i c b;simp[b]
theorem ZGj{g:KT->KT}{IT:Hp->KT->V->Prop}{sp:Sp}(hg:Kg g)(dg:∀ t,(g t).depth<=2 * t.depth+2){x0:Str}{k:Nat}{f:ak}{lv:aj}{fd:ap}{us:jf}{y:jo}{Q:VK}(hr:ZU (k+2) X.A)(F:ZI X.prog X.w X.K X.mg X.base ZM k f fd [x0] sp)(hb:Zv X.K fd [x0] [])(I0:ZG X ki σ H s)(hI:∀ (H h:Hp) (t:KT) (u:V),ZD H h->IT H t u->IT h t u)(hS:∀ (h:Hp) (u:V) (t:KT) (Q:VK),ZD H h->IT h t u->(∀ (v':V) (H2:Hp),ZE H2 (g t) v'->ZD h H2->Q v' H2)->sp [u] h Q E0)(hk:Paired (IT H) y us)(hf:∀ t∈y,t.fits 3=true)(i1:us.length<1000)(c4:∀ (Q':je->am->Prop),(∀ (s1:am) (c:je),ZG X ki σ H s1->ZO us c->Q' c s1)->aB (aA X.prog X.w) X.A.in1 (collect lv) Q' X.xe s)(q:∀ (D:ak) (ws:jf) (rs:jo) (h:Hp),ZD H h->H D=none->h D=some (.lst ws)->Paired (IT h) rs ws->rs.Perm y->rs.Pairwise (λa b=>b.lt a=false)->Q (.ref D) h):
  aB (aA X.prog X.w) X.A (call (.builtin "sorted") [lv] [(wY "key",.ref f)]) (EP X ki σ Q) X.xe s:=by
 let i2:=Paired.length hk;let c8:ZU k X.A.in1.in1:=(ZU.in1 (k:=k+1) hr).in1;refine call_function_entry_kw kind_sorted plain_sorted entry_sorted (ksk_s1 _ _) ?_;unfold Builtin.«sorted»;refine aa (m:=checkCount "sorted" 1 1 _) (ad ?_);refine aa (c4 _ λs c I rv=>?_);let i0:=rv.length;refine aa (wpAny_newList ?_ (by rw[sizeLine_eq];lia))
 obtain⟨E,T⟩:∃ E,s.heap.push (seqObj "list" c.toArray 0)=E:=⟨_,Z⟩;let M:E.get? s.heap.objs.size=some (seqObj "list" c.toArray 0):=by rw[<-T];exact yO _ Z
 let c9:∀ b o,s.heap.get? b=some o->E.get? b=some o:=λb o z=>by rw[<-T];exact zA _ z
 let e8:E.objs.size=s.heap.objs.size+1:=by rw[<-T,size_push']
 obtain⟨D,eD⟩:∃ D,s.heap.objs.size=D:=⟨_,Z⟩;rw[eD] at M;let U:s.heap.objs.size<=D:=∅
 let Y:H D=none:=I.hok.fresh U;let C:VL X ki H D:=I.fpOk U Y;let nD:D∉frs X.stack:=Ce I U;let e3:X.s₀.heap.get? D=none:=rN (zO I.sz U);let I1:ZG X ki σ H { s with heap:=E }:=I.kept (t':=s.toks) c9;show aB _ _ _ _ _ { s with heap:=s.heap.push (seqObj "list" c.toArray 0) };rw[T,eD];refine aa (af (wpAny_call_entry_kw slot_list_sort ⟨_,M,rfl⟩ entry_list_sort ?body (ksk_l1 _ _)));rw[ksk_t1];unfold ksk_tree;refine aa (listItems_at M Z ?_);refine aa (listUpdate_at M Z ?_ (by rw[zP,sizeLine_eq];lia) (zM _))
 let e2:=xP.update E D (Obj.mapSeq λ_=>(#[]:jt));obtain⟨e1,a9⟩:∃ e1,(E.update D (Obj.mapSeq λ_=>(#[]:jt))).get? D=some (seqObj "list" #[] e1):=⟨_,get?_update_seq M λ_=>#[]⟩;obtain⟨B,a4⟩:∃ B,E.update D (Obj.mapSeq λ_=>(#[]:jt))=B:=⟨_,Z⟩;rw[a4] at a9 e2;show aB _ _ _ _ _ { s with heap:=E.update D (Obj.mapSeq λ_=>(#[]:jt)) };rw[a4];let I2:ZG X ki σ H { s with heap:=B }:=ZG.turned (s:={ s with heap:=E }) (t':=s.toks) (it:=D) I1 (λb o n z=>(e2.2 b n).trans z) C.1 C.2.1 C.2.2.2.1 C.2.2.2.2.1 C.2.2.2.2.2;refine aa (seqEpoch_at a9 Z ?_);refine aa (wpAny_newTuple ?_ (by show c.length<=_;rw[sizeLine_eq];lia))
 refine aa (wpAny_newList ?_ (zM _));refine af ?_;let e9:B.objs.size=s.heap.objs.size+1:=by rw[<-a4,Heap.size_update,e8]
 obtain⟨h3,a5⟩:∃ h3,(B.push (seqObj "tuple" c.toArray 0)).push (seqObj "list" #[] 0)=h3:=⟨_,Z⟩;let a6:(B.push (seqObj "tuple" c.toArray 0)).objs.size=s.heap.objs.size+2:=by rw[size_push',e9]
 let N:∀ b o,B.get? b=some o->h3.get? b=some o:=λb o z=>by rw[<-a5];exact zA _ (zA _ z)
 let c5:h3.get? (s.heap.objs.size+2)=some (seqObj "list" (wX []) 0):=by rw[<-a5,<-a6];exact yO _ Z
 obtain⟨j,c1⟩:∃ j,s.heap.objs.size+2=j:=⟨_,Z⟩;rw[c1] at c5 a6;let a7:s.heap.objs.size<=j:=∅
 let c3:D≠j:=∅
 let e5:H j=none:=I.hok.fresh a7;let fS:VL X ki H j:=I.fpOk a7 e5;let nS:j∉frs X.stack:=Ce I a7;let I3:ZG X ki σ H { s with heap:=h3 }:=I2.kept (t':=s.toks) N;show aB _ _ (ksk_rest D (.ref f) false c.toArray e1 (.ref (B.push (seqObj "tuple" c.toArray 0)).objs.size)) _ _ { s with heap:=(B.push (seqObj "tuple" c.toArray 0)).push (seqObj "list" #[] 0) };rw[a5,a6];let l:∀(h:Hp)(d:am)(O:je)(P:jf)(e:Nat),ZG X ki σ h d->ZD H h->VL X ki h j->h D=none->d.heap.get? D=some (seqObj "list" #[] e1)->d.heap.get? j=some (seqObj "list" O.toArray e)->jX h (y.map g) P->ZO P O ->
   aB (aA X.prog X.w) X.A.in1.in1 (ksk_end D false c.toArray e1 (.ref j) O.toArray) (λl d=>∃ v,l=.done (.ret v)/\aB (aA X.prog X.w) X.A.in1 (ret (.ref D)) (λl d=>∃ v,l=.done (.ret v)/\EP X ki σ Q v d) X.xe d) X.xe d:=by
  intro h d O P e J sm fp L oo os a0 rk;let a1:O.length=c.length:=by
   let a:=a0.length;let b:=rk.length;rw[zX] at a
   lia
  let sv:Y2 g d.heap y O:=El J a0 rk;let a3:∀(st:jR)(p:jk),p.Perm (yF c.length)->(p.map λi=>y.getD i (.int 0)).Pairwise (λa b=>b.lt a=false)->(jQ st).map (·.2)=wX (p.map λi=>c.getD i Value.none)->failedOf st=none ->
    aB (aA X.prog X.w) X.A.in1.in1 (ksk_tail D false e1 (.ref j) st) (λl d=>∃ v,l=.done (.ret v)/\aB (aA X.prog X.w) X.A.in1 (ret (.ref D)) (λl d=>∃ v,l=.done (.ret v)/\EP X ki σ Q v d) X.xe d) X.xe d:=by
   intro st p hp hs c6 a8;let a2:∀ i∈p,i<us.length:=λi hi=>by
    have:=xO.mp (hp.mem_iff.mp hi)
    lia
   let c7:p.length=c.length:=hp.length_eq.trans rY;let s1:=xP.update d.heap j (Obj.mapSeq λ_=>(#[]:jt));let e4:D≠j:=∅
   let c0:=(s1.2 D e4).trans oo;let s2:=xP.update (d.heap.update j (Obj.mapSeq λ_=>(#[]:jt))) D (Obj.mapSeq λ_=>wX (p.map λi=>c.getD i Value.none));obtain⟨c2,e6⟩:∃ c2,((d.heap.update j (Obj.mapSeq λ_=>(#[]:jt))).update D (Obj.mapSeq λ_=>wX (p.map λi=>c.getD i Value.none))).get? D=some (seqObj "list" (wX (p.map λi=>c.getD i Value.none)) c2):=⟨_,get?_update_seq c0 λ_=>wX (p.map λi=>c.getD i Value.none)⟩;unfold ksk_tail;dsimp only;rw[c6,aK zT];refine aa (listUpdate_at os Z ?_ (by rw[zP,sizeLine_eq];lia) (zM _))
   refine aa (wpAny_letGo ?_);refine aa (seqEpoch_at c0 Z ?_);refine aa (listUpdate_at c0 Z ?_ (zM _) (by rw[zP,zX,c7,sizeLine_eq];lia))
   rw[a8];simp only[bne_self_eq_false,xE,if_false];let J1:ZG X ki σ h { d with heap:=d.heap.update j (Obj.mapSeq λ_=>(#[]:jt)) }:=J.turned (t':=d.toks) (it:=j) (λb o n z=>(s1.2 b n).trans z) fp.1 fp.2.1 fp.2.2.2.1 fp.2.2.2.2.1 fp.2.2.2.2.2;let J2:ZG X ki σ h { d with heap:=(d.heap.update j (Obj.mapSeq λ_=>(#[]:jt))).update D (Obj.mapSeq λ_=>wX (p.map λi=>c.getD i Value.none)) }:=ZG.turned (s:={ d with heap:=d.heap.update j (Obj.mapSeq λ_=>(#[]:jt)) }) (t':=d.toks) (it:=D) J1 (λb o n z=>(s2.2 b n).trans z) L C.2.1 C.2.2.2.1 C.2.2.2.2.1 C.2.2.2.2.2;let J3:=ZOZ (a:=D) (o:=.lst (p.map λi=>us.getD i .non)) J2 e3 C.2.1 C.2.2.2.2.1 C.2.2.2.2.2 L ⟨by rw[zX,c7,sizeLine_eq];lia,_,c2,FB rv _ a2,e6⟩
   let g:=Zl L (.lst (p.map λi=>us.getD i .non));refine ad ⟨.none,Z,ad ⟨_,Z,.ref D,_,J3,Z,q D _ (p.map λi=>y.getD i (.int 0)) _ (sm.trans g) Y ZX (FW (Paired.mapP (G:=IT _) hk λ_ _ z=>hI _ _ _ _ (sm.trans g) z) _ a2) ?_ hs⟩⟩;have:=hp.map (λi=>y.getD i (KT.int 0));rw[show c.length=y.length by lia,range_getD] at this
   exact this
  unfold ksk_end;dsimp only;rw[aK zT,aK zT];by_cases B:c.length<2
  ·rw[aM (by rw[zP];exact B),aM (by rw[zP];exact B)]
   refine aa (ad (aa (ad ?_)));refine a3 _ (yF c.length) (.refl _) ?_ ?_ Z
   ·rw[show c.length=y.length by lia,range_getD]
    match y,(show y.length<2 by lia) with
    | [],_=>exact .nil
    | [t],_=>exact sV _ _
   ·show ((O.toArray.zip c.toArray).map (·.2))=_;apply sG.mp;rw[Array.toList_map,ksk_zip];simp only[rQ];rw[range_getD,List.map_snd_zip ∅]
  ·rw[aK (by rw[zP];exact B),aK (by rw[zP];exact B)]
   refine aa (A6 hg ∅ sv ?_)
   refine aa (Z3 (ZQW hg (Q:=λS e0=>e0=d/\∃ p:jk,p.Perm (yF c.length)/\(p.map λi=>y.getD i (.int 0)).Pairwise (λa b=>b.lt a=false)/\jQ S=p.toArray.map (uK (O.toArray.zip c.toArray))/\failedOf S=none)
    a1 ∅ sv (λt ht=>?_) λp S b1 b2 b3 b4=>⟨Z,p,b1,b2,b3,b4⟩) λr e0 e7=>?_)
   ·let a:=c8.un;let d1:=dg t;let d2:=Vv t 3 (hf t ht)
    lia
   ·let⟨⟨⟩,S⟩:=r;let⟨rfl,p,b1,b2,b3,b4⟩:=e7;exact a3 S p b1 b2 (PySem.W.kat_snds a1 b3) b4
 unfold ksk_rest;refine aa (ai ?_)
 first
  | rw[List.forIn_toArray]
  | (rw[<-rV];simp only[rQ])
 refine aa (Z3 (D3 (all:=y) (H0:=H) (D:=D) (kS:=j) hI hS F hb c8 rfl nD nS c3 Y (λx s4 R hx=>?_) c us y [] H { s with heap:=h3 } [] [] 0 rfl ∅ I3 (ZD.refl H) fS Y rv hk (N _ _ a9) c5 .nil .nil) λ_ s4 h4=>?_)
 ·refine aa (wpAny_attempt (ae hx (λkv s5 h5=>?_) λ_ _ z=>z.elim));let⟨O,e,i3,o5,R5⟩:=h5
  try dsimp only
  refine aa (listUpdate_at o5 Z ?_ (by rw[zP,sizeLine_eq];lia) (zO (xH (Array.size_push ..)) (by rw[zP,sizeLine_eq];lia)))
  exact ad ⟨Z,R5⟩
 ·let⟨h,O,P,e,J,sm,fp,L,oo,os,a0,rk⟩:=h4
  try dsimp only
  exact aa (listItems_at os Z (l h s4 O P e J sm fp L oo os a0 rk))
theorem DZ{H:Hp}:∀{a:jo}{b:jf},jX H a b->(∀ t∈a,t.fits 3=true)->Paired (λt u=>ZE H t u/\t.fits 3=true) a b
 | [],b,h,_=>by rw[jX] at h;subst h;exact .nil
 | t::a,b,h,hf=>by
  rw[jX] at h;let⟨v,r,rfl,c,d⟩:=h;exact .cons ⟨c,hf t zS⟩ (DZ d λt e=>hf t (zQ _ e))
theorem ZQ0{H:Hp}{G:KT->Prop}{a:jo}{b:jf}(h:Paired (λt u=>ZE H t u/\G t) a b):jX H a b:=by
 induction h with
 | nil=>exact .nil
 | cons h _ c=>exact .cons h.1 c
theorem ZGN{g:KT->KT}(G:Kg g)(B:∀ t,(g t).depth<=2 * t.depth+2){y:Str}{k:Nat}{f:ak}{v:aj}{p:ap}{n:jf}{m:jo}{Q:VK}(L:ZU (k+2) X.A)(F:ZI X.prog X.w X.K X.mg X.base ZM k f p [y] (Oe g))(E:Zv X.K p [y] [])(z:ZG X ki σ H s)(I:jX H m n)(r:∀ t∈m,t.fits 3=true)(l:n.length<1000)(d:∀ (o:je->am->Prop),(∀ (x:am) (e:je),ZG X ki σ H x->ZO n e->o e x)->aB (aA X.prog X.w) X.A.in1 (collect v) o X.xe s)(q:∀ (D:ak) (j:jf) (i:jo) (c:Hp),ZD H c->H D=none->c D=some (.lst j)->jX c i j->i.Perm m->i.Pairwise (λa b=>b.lt a=false)->Q (.ref D) c):
  aB (aA X.prog X.w) X.A (call (.builtin "sorted") [v] [(wY "key",.ref f)]) (EP X ki σ Q) X.xe s:=
 ZGj (IT:=λH t u=>ZE H t u/\t.fits 3=true) G B L F E z (λ_ _ _ _ P h=>⟨h.1.sm P,h.2⟩) (λc u t Q _ h k=>⟨u,t,Z,h.1,h.2,k⟩) (DZ I r) r l d λD j i c O M C J N R=>q D j i c O M C (ZQ0 J) N R
end
def VX(d:ak)(b:Array DictEntry)(a:Nat)(h:aD):Prop:=∃ o,h.get? d=some o/\o.ExactDict/\o.data=.dict b a
section
variable{d:ak}{es:Array DictEntry}{ep:Nat}
theorem VX.type(x:VX d es ep s.heap):s.TypeIs (.ref d) "dict" :=let ⟨o,g,hx,_⟩:=x;⟨o,g,hx.1⟩
theorem VX.at{h a:aD}(x:VX d es ep h)(k:∀ o,h.get? d=some o->a.get? d=some o):VX d es ep a:=let ⟨o,g,r⟩:=x;⟨o,k o g,r⟩
theorem ZK4{Q:ja}(f:(d==sysModules)=false)(x:VX d es ep s.heap)(e:Q (.ref s.heap.objs.size) { s with heap:=s.heap.push { cls:=.type "dict_keyiterator",data:=.fields #[.ref d,.int 0 0,.int es.size 0,.int ep 0] } }):
  aB (aA prog w) A (pyIter (.ref d)) Q E s:=by
 let b:=x.type;let⟨o,c,g,a⟩:=x;refine wpAny_pyIter_slot b qR (wpAny_call_entry qR b PySem.F.entry_dict_iter ?_ (PySem.F.args_dict_iter_1 _));unfold Builtin.«dict.__iter__»;refine aa ?_;unfold Builtin.Dict.dictSlotNone;refine aa (wpAny_notOrdered_dict b (ad ?_));show aB _ _ (Builtin.Dict.showsAll d >>= _) _ _ s;unfold Builtin.Dict.showsAll;rw[aK (by rw[f];exact zT)]
 refine aa (ad (aa (wpAny_dictEntries c a (aa (wpAny_dictEpoch c a ?_)))));exact aa (wpAny_newObj_type (ad ⟨_,rfl,"dict_keyiterator",_,⟨_,yO _ rfl,rfl⟩,qX.lookup,e⟩))
theorem GH{f:ak}{i:Nat}{Q:jd->am->Prop}(v:A.handled=none)(c:s.heap.IsKeyIter f d i es.size ep)(x:VX d es ep s.heap)(t:∀ e h,es[i]? = some e->h.IsKeyIter f d (i+1) es.size ep->xP f s.heap h->Q (some e.key) { s with heap:=h })(r:∀ h,es[i]? = none->Heap.ExtBut f s.heap h->Q none { s with heap:=h }):aB (aA prog w) A (pyNext (.ref f)) Q E s:=by
 let⟨o,p,u,j⟩:=id c;let⟨z,l,y,k⟩:=x;unfold pyNext;refine aa (wpAny_attempt (wpAny_callSpecial?_slot (name:=wY "__next__") c.typeIs qX (wpAny_call_entry qX c.typeIs PySem.F.entry_dict_keyiterator_next ?_ (PySem.F.args_dict_keyiterator_next_1 _))));refine aa (ad (aa (aa ?_)))
 first | refine aa (wpAny_typeNameOfWhole_keyiter c.typeIs (ad ?_)) | refine aa (wpAny_typeNameOf_keyiter c.typeIs (ad ?_))
 refine aa (wpAny_fieldsOf p j ?_);let n:Builtin.Dict_items.ownsTuple "dict_keyiterator" = false:=by decide
 simp only[n,xE,if_false];show aB _ _ (if (Value.ref d==Value.none)=true then _ else _) _ _ s
 rw[aK (show ¬ ((Value.ref d==Value.none)=true) from zT)];refine aa (ad (aa (wpAny_dictEntries l k ?_)));rw[aK (by simp)]
 refine aa (ad (aa (wpAny_dictEpoch l k ?_)));rw[aK (by simp)]
 refine ad ?_;simp only[show ¬ ((i:Int)<0) from by lia,if_false,tL]
 cases q:es[i]? with
 | some e=>
  refine aa ?_
  first | refine aa (wpAny_typeNameOfWhole_keyiter c.typeIs (ad ?_)) | refine aa (wpAny_typeNameOf_keyiter c.typeIs (ad ?_))
  refine aa (wpAny_isOneOf_keyiter c.typeIs ?_);show aB _ _ (setField (.ref f) 1 (rawInt ((i:Int)+1)) >>= _) _ _ s;refine aa (wpAny_setField p j (by simp) ?_)
  let g:(s.heap.update f (Obj.mapFields (·.setIfInBounds 1 (rawInt ((i:Int)+1))))).IsKeyIter f d (i+1) es.size ep:=
   ⟨_,vC _ p (Obj.isFreed_of_fields (Obj.data_mapFields j _)),(Obj.cls_mapFields ..).trans u,by rw[Obj.data_mapFields j];simp[rawInt]⟩
  refine aa (af (aa (wpAny_isOneOf_keyiter (s:={ s with heap:=s.heap.update f (Obj.mapFields (·.setIfInBounds 1 (rawInt ((i:Int)+1)))) }) g.typeIs ?_)));show aB _ _ (pure e.key) _ _ _;exact ad (ad ⟨_,Z,ad (t e _ q g (xP.update ..))⟩)
 | none=>
  refine aa ?_
  first | refine aa (wpAny_typeNameOfWhole_keyiter c.typeIs (ad ?_)) | refine aa (wpAny_typeNameOf_keyiter c.typeIs (ad ?_))
  show aB _ _ (setField (.ref f) 0 .none >>= _) _ _ s;refine aa (wpAny_setField p j (by simp) ?_)
  show aB _ _ (newExc (.type "StopIteration") [] >>= _) _ _ _;refine aa ?_;simp only[newExc,newTuple];refine aa (wpAny_newObj_type ?_ (by size_fits))
  refine aa (m:=firstArgMember _ _) (wpAny_of_eq (a:=Value.none) (by first | rfl | (simp only[firstArgMember];rfl)) (wpAny_newObj_type ?_ (by size_fits)))
  simp only[raiseNew];refine aa (wpAny_handled ?_);rw[show A.in1.handled=none from v];refine aa (ad (wpAny_throw ?_));refine aa (wpAny_isInstance (T:= "StopIteration") (b:=true) ⟨_,yO _ Z,Z⟩ isSubtype_stop ?_);exact ad (r _ q (((xP.update ..).extBut.push _).push _))
theorem ZKJ(m:A.handled=none)(I:ak)(l:d≠I):Walks prog w A I [I,d] [I] es.size (λi v=>(es[i]?).map (·.key)=some v) (λi h=>h.IsKeyIter I d i es.size ep/\VX d es ep h) where
 sub:=λb f=>by simp at f;simp[f]
 frame:=λ_ _ _ a n=>⟨a.1.at λo e=>n I (by simp) o e,a.2.at λo e=>n d (by simp) o e⟩
 item:=λi s Q E r a j=>by
  refine GH m a.1 a.2 (λe g c k p=>?_) (λg c=>by rw[xA r] at c;cases c)
  exact j e.key g s.toks (by rw[c];rfl) ⟨k,a.2.at λo z=>(p.2 d l).trans z⟩ λb o f e=>(p.2 b (λh=>f (by simp[h]))).trans e
 done:=λs Q E a j=>by
  refine GH m a.1 a.2 (λe g c=>by rw[Array.getElem?_eq_none (zY _)] at c;cases c) (λg _ q=>?_)
  exact j g s.toks λb o f e=>q b o (λh=>f (by simp[h])) e
 self:=λ_ _ _ _ a j=>wpAny_pyIter_keyiter a.1 j
theorem ZN8(f:(d==sysModules)=false):sS prog w "dict" d d es.size (λi v=>(es[i]?).map (·.key)=some v) (VX d es ep) where
 type:=λ_ x=>x.type
 there:=λ_ x=>by let⟨o,g,_⟩:=x;exact⟨zG g,zG g⟩
 keep:=λ_ _ x c=>x.at λo e=>c d (.inl rfl) o e
 notList:=by decide
 notTuple:=by decide
 hint:=λ_ _ _ _ x a=>PySem.W.kdl_hint_dict x.type a
 iter:=λ_ s b x=>⟨_,_,(λ_ _ a=>ZK4 f x a),ZKJ b _ (by let⟨o,g,_⟩:=x;exact yK (zG g)),⟨⟨_,yO _ Z,Z,Z⟩,x.at λo e=>zA _ e⟩⟩
end
section
variable{ki:jq}{σ:L2.St}{H:Hp}
theorem ZIA{w:aw}{k:List (KT×V×V)}{d:Array DictEntry}{c:jt}(r:Paired (NY w) k d.toList)(h:ItemsOf (λi v=>(d[i]?).map (·.key)=some v) c d.size):ZO (k.map (·.2.1)) c.toList:=by
 let p:=Paired.length r;let o:c.toList.length=d.size:=by have:=h.1;simpa using this
 refine Kn (by rw[zX,o,p];simp) λi a b g j=>?_
 rw[zC] at g;let⟨z,n,rfl⟩:=xZ.mp g;rw[yP] at j;have:=h.2 i b j;let⟨e,m,rfl⟩:=xZ.mp this;let⟨q,f,l⟩:=Ot r (by rw[yP];exact m)
 rw[n] at f;cases f;exact l.2.1
theorem C0{d:ak}{i:List (KT×V×V)}{Q:je->am->Prop}(n:A.handled=none)(I:ZG X ki σ H s)(x:YZ X.w H d i)(l:∀ (h:am) (c:je),ZG X ki σ H h->ZO (i.map (·.2.1)) c->Q c h):aB (aA X.prog X.w) A (collect (.ref d)) Q E s:=by
 let⟨u,k,g⟩:=x.ex;let⟨⟨b,f,o,j,p,q,m⟩,_⟩:=I.hok d _ k;refine FZ (ZN8 (ep:=j) b) n ⟨o,p,q,m⟩ f λv t e r _ a=>?_;exact l _ e.toList (I.kept (t':=t) r) (ZIA g a)
end
theorem ZIO:ay "sorted" = some (.builtin "sorted"):=by decide +kernel
def ZP6:TE:=λ_ H Q=>∀(p:ak)(a:Hp),H p=none->ZK p H a->ZD H a->YZ X.w a p []->Q (.ref p) a
theorem ZNk{pos:Pos}:PE X (.Dict [] [] pos) (ZP6 (X:=X)):=λd s g H Q I h=>by
 let c:=I.hok.fresh (zY s.heap.objs.size);refine wpAny_Dict_empty ⟨.ref s.heap.objs.size,_,I.laid (a:=s.heap.objs.size) (o:=NO s.heap.objs.size #[]) (t':=s.toks) (λ_ _ q=>zA _ q) (zY _) (Gq (beq_eq_false_iff_ne.mpr (Ne.symm (yK I.big))) (zM _) ⟨_,0,yO _ rfl,⟨rfl,rfl,rfl⟩,rfl⟩),Z,?_⟩;exact h _ _ c (λb o e n=>by rw[ZQ n];exact e) (Zl c _) ⟨⟨#[],ZX,.nil⟩,λz f=>by simp at f,.nil⟩
inductive Ob(w:aw)(D:Y0)(e:L2.St)(v x y:V)(b:Hp):Prop
 |mk(a:ak)(d:List (KT×V×V))(t:KT)(_:x=.ref a)(_:YZ w b a d)(_:d.length<1000)(_:ZE b t y)(_:t.depth<=3)(_:∀ c,ZK a b c->YZ w c a (QT d t y v)->D.nx e c)
def ZQH(w:aw)(e g f:TE):TS:=λD a H=>f a H λv b=>e a b λx c=>g a c λy d=>Ob w D a v x y d
theorem ZON{o i b:Expr}{pos d:Pos}{j l k:TE}(L:X.A.units+4<cLine)(J:PE X o j)(G:PE X i l)(M:PE X b k)(K:swapsWith b (some (.Subscript o i d)) pos.line X.env=pure false):
  PS X (.Assign [.Subscript o i d] b pos) (ZQH X.w j l k):=by
 intro c s e H D I h;refine wpAny_Assign_Subscript (YF (M c s e H _ I h) λr V v m p S P=>YF (J c V e m _ p P) λu W x n q T Q=>Z3 (G c W e n _ q Q) λiv s3 ⟨y,H3,z,U,a,xs,t,F,C,O,N,E,R⟩=>?_) K;subst F;obtain rfl:u=Value.ref a:=T;exact AM L z C O N E U S λs4 g B Y f=>⟨e,g,B,R g Y f⟩
def ZP9(g:jo)(e:Hp)(Q:VK):Prop:=∀(D:ak)(f:jf)(d:jo)(c:Hp),ZD e c->e D=none->c D=some (.lst f)->jX c d f->d.Perm g->d.Pairwise (λa b=>b.lt a=false)->Q (.ref D) c
inductive Pk(w:aw)(Q:VK)(c:jf)(b:Hp):Prop
 |mk(d:ak)(a:List (KT×V×V))(_:c=[.ref d])(_:YZ w b d a)(_:∀ x∈a,x.1.fits 3=true)(_:a.length<1000)(_:ZP9 (a.map (·.1)) b Q)
def ZPf(w:aw)(t:TA):TE:=λc H Q=>t c H λb a=>Pk w Q b a
theorem ZLm{g:KT->KT}(hg:Kg g)(T:∀ t,(g t).depth<=2 * t.depth+2){k:Nat}{p pos N D:Pos}{e:Expr}{x x0:Str}{t:TA}(R:ZA X.prog X.w X.K X.mg X.base k x [x0] (Oe g))(M:ZU (k+2) X.A)(y:Gl X "sorted")(hm:X.mg "sorted" = none)(B:Gl X x)(Y:PA X [e] t)(o:(x==("__debug__" : Str))=false:=by decide)(he:aF pos (au [e] X.env)=(false,aG e X.env)::aF pos (au [] X.env):=by rfl)(a:(aF pos (au [e] X.env)).any (·.1)=false:=by rfl):
  PE X (.Call (.Name "sorted" p) [e] [⟨some (wY "key"),.Name x D,N⟩] pos) (ZPf X.w t):=by
 intro c s P H Q I h;let⟨f,fd,F,b,a0,m⟩:=R.ex;refine ah (Og I y hm ZIO (callWith_kw (Z3 (Y pos c s P H _ I h) λus s1 ⟨vs,G,S,r,d,j,U,n,L,i,q⟩=>?_) he a));let pk:PK X [⟨some (wY "key"),.Name x D,N⟩] (Um (tC (.ref f)) Qa):=AH (Wt (v:=.ref f) (pos:=D) B m Z o) Bb;refine Z3 (pk pos c s1 P G (λO l=>O=[.ref f]/\l=G) S ⟨Z,Z⟩) ?_;rintro O s2 ⟨zv,l,J,rz,W,V⟩;subst U W V;let⟨u,rfl,ru⟩:=UV r;let⟨u2,rfl,E⟩:=UV rz;cases ru;cases E;let ka:jX l (j.map (·.1)) (j.map (·.2.1)):=by
  have:=n.key;clear q i L n
  induction j with
  | nil=>exact .nil
  | cons z j ih=>exact .cons (this z (zS ..)).1 (ih λz C=>this z (zQ _ C))
 exact ZGN hg T M F b J ka (λt ht=>by let⟨z,C,rfl⟩:=zR.mp ht;exact L z C) (by rw[zX];exact i) (λQ' hq=>C0 M.hd J n hq) q
end Tw
namespace L2
open PySem PySem.Spec PyProof.Rows
theorem Fz:∀{a:jy}{b:je},ZO (a.map V.int) b->IntsAre b a
 | [],_,h=>by cases h;exact .nil
 | n::a,_,h=>by
  cases h with
  | cons r c=>
   let⟨t,rfl⟩:=r;exact .cons _ _ (Fz c)
section
variable{ki:jq}{σ:St}{H:Hp}
end
end L2
namespace Tw
open PySem PySem.Spec L2 PyProof.Rows
def QO:jg->jd->Prop
 | some v,some r=>ZP v r
 | none,none=>True
 | _,_=>False
mutual
theorem ZH.keep{h h':aD}(k:∀ b o,h.get? b=some o->h'.get? b=some o):∀(t:KT)(v:aj),ZH h t v->ZH h' t v
 | .int i,v,x=>by rw[ZH] at x⊢;exact x
 | .str i,v,x=>by rw[ZH] at x⊢;exact x
 | .tup l,v,x=>by
  rw[ZH] at x⊢;let⟨a,its,e,⟨o,g,r⟩,e2⟩:=x;exact⟨a,its,e,⟨o,k _ _ g,r⟩,jY.keep k l its e2⟩
theorem jY.keep{h h':aD}(k:∀ b o,h.get? b=some o->h'.get? b=some o):∀(l:jo)(vs:je),jY h l vs->jY h' l vs
 | [],vs,x=>by rw[jY] at x⊢;exact x
 | t::l,vs,x=>by
  rw[jY] at x⊢;let⟨v,r,e,e1,e2⟩:=x;exact⟨v,r,e,ZH.keep k t v e1,jY.keep k l r e2⟩
end
section
variable{ki:jq}{σ:L2.St}{H:Hp}
theorem Fp{d:ak}{j:List (KT×V×V)}(I:ZG X ki σ H s)(x:YZ X.w H d j):(d==sysModules)=false/\s.TypeIs (.ref d) "dict" /\ ∀ b,Value.ref d=.ref b->∃ f,s.heap.get? b=some f/\f.dict=none:=by
 let⟨l,g,i⟩:=x.ex;let⟨⟨a,h,o,k,c,e,m⟩,_⟩:=I.hok d _ g;exists a,⟨o,c,e.1⟩;intro b q;cases q;exact⟨o,c,e.2.1⟩
theorem ZKK{d:ak}{q:List (KT×V×V)}{t:KT}{y:V}{u:aj}{Q:jd->am->Prop}(O:A.units+4<cLine)(I:ZG X ki σ H s)(x:YZ X.w H d q)(m:ZE H t y)(v:t.depth<=3)(p:ZP y u)(h:∀ f r,ZG X ki σ H f->(∀ b n,s.heap.get? b=some n->f.heap.get? b=some n)->QO (Pt q t) r->Q r f):aB (aA X.prog X.w) A (dictGet d u) Q E s:=by
 let⟨N,G,c⟩:=x.ex;let⟨⟨l,K,o,M,k,P,i⟩,_⟩:=I.hok d _ G;unfold dictGet
 try with_reducible refine af ?_
 refine aa (K6 t.depth t (zY _) (VZ I t y u m p) ∅ λg L=>?_)
 let a:ZG X ki σ H { s with toks:=g }:=I.tok g;refine aa (Ed (A:=A) a x c k i m v p ∅ (λJ=>?_) λj z e B C D F=>?_)
 ·refine ad (h _ none a (λ_ _ e=>e) ?_);rw[B6 J];trivial
 ·refine aa (wpAny_dictEntries (s:={ s with toks:=g }) k i ?_);rw[D];refine ad (h _ (some e.val) a (λ_ _ e=>e) ?_);rw[<-C,DQ x.nd B];exact F.2.2
theorem Bt{d:ak}{g:List (KT×V×V)}{t:KT}{y v:V}{u:aj}{Q:ja}(n:A.units+5<cLine)(I:ZG X ki σ H s)(x:YZ X.w H d g)(l:ZE H t y)(j:t.depth<=3)(m:ZP y u)(k:Pt g t=some v)(h:∀ f a,ZG X ki σ H a->ZP v f->Q f a):aB (aA X.prog X.w) A (getItem (.ref d) u) Q E s:=by
 let⟨e,b,_⟩:=Fp I x;unfold getItem
 try with_reducible refine af ?_
 refine aa (wpAny_sequenceKey b (by decide) ?_)
 refine aa (wpAny_callSpecial?_slot (name:=wY "__getitem__") b slot_dict_getitem (wpAny_call_entry slot_dict_getitem b entry_dict_getitem ?_ (args_dict_getitem _ _)));show aB _ _ (dictGet d u >>= _) _ _ s;refine aa (ZKK (by show A.units+1+4<_;lia) I x l j m λa r i _ c=>?_)
 rw[k] at c
 cases r with
 | none=>exact c.elim
 | some r=>exact ad ⟨r,Z,ad (h r a i c)⟩
end
section
variable{o i e f:Expr}{pos ji jh:Pos}{td ty tx:TE}
inductive OY(w:aw)(Q:VK)(x y:V)(b:Hp):Prop
 |mk(a:ak)(c:List (KT×V×V))(t:KT)(v:V)(_:x=.ref a)(_:YZ w b a c)(_:ZE b t y)(_:t.depth<=3)(_:Pt c t=some v)(_:Q v b)
def GK(w:aw)(td ty:TE):TE:=λa H Q=>td a H λx b=>ty a b λy c=>OY w Q x y c
theorem ZN4(C:X.A.units+5<cLine)(z:PE X o td)(r:PE X i ty)(B:LF i):PE X (.Subscript o i pos) (GK X.w td ty):=by
 intro b s j H Q I h;refine Ck qH.lookup B (YF (z b s j H _ I h) λu M x k m K G=>Z3 (r b M j k _ m G) ?_);rintro N O ⟨y,l,d,L,a,S,t,v,q,g,E,p,D,J⟩;subst q;obtain rfl:u=Value.ref a:=K;exact⟨(Fp d g).2.1,Bt C d g E p L D λR P n c=>⟨v,l,n,c,J⟩⟩
end
theorem Paired.ixR{b a:Type}{F:b->a->Prop}{l:List b}{m:List a}{i:Nat}{u:a}(h:Paired F l m)(e:m[i]? = some u):∃ r,l[i]? = some r/\F r u:=Ot h e
section
variable{ki:jq}{σ:L2.St}{H:Hp}{s0:am}
end
end Tw
namespace Tw
open PySem PySem.Spec L2
def Ut(N:ak->Prop)(H:Hp)(n:String)(v:V):Prop:=
 (n = "bool" /\ ∃ b,v=.bl b)\/(n = "NoneType" /\ v=.non)\/(n = "list" /\ ∃ a d,v=.ref a/\H a=some (.lst d)/\¬ N a)\/(n = "dict" /\ ∃ a c,v=.ref a/\H a=some (.dK c)/\¬ N a)
mutual
def Z5(N:ak->Prop)(H:Hp):TG->V->Prop
 | .int i,v=>v=.int i
 | .str x,v=>v=.str x
 | .tup l,v=>∃ a vs,v=.ref a/\H a=some (.tup vs)/\ke N H l vs
 | .odd n,v=>Ut N H n v
def ke(N:ak->Prop)(H:Hp):List TG->jf->Prop
 | [],vs=>vs=[]
 | t::l,vs=>∃ v r,vs=v::r/\Z5 N H t v/\ke N H l r
end
structure Vp(N:ak->Prop)(H H':Hp):Prop where
 tup:Zt H H'
 rest:∀ b o,H b=some o->¬ N b->H' b=some o
theorem Vp.same{N:ak->Prop}{H a:Hp}(s:ZD H a):Vp N H a:=⟨ZD.tups s,λb o e _=>s b o e⟩
mutual
theorem Z5.mono{N:ak->Prop}{H H':Hp}(m:Vp N H H'):∀(t:TG)(v:V),Z5 N H t v->Z5 N H' t v
 | .int _,_,h=>by rw[Z5] at h⊢;exact h
 | .str _,_,h=>by rw[Z5] at h⊢;exact h
 | .tup l,_,h=>by
  rw[Z5] at h⊢;let⟨a,vs,e,h1,h2⟩:=h;exact⟨a,vs,e,m.tup a vs h1,ke.mono m l vs h2⟩
 | .odd n,_,h=>by
  rw[Z5] at h⊢;rcases h with h | h | ⟨e,a,xs,e1,e2,e3⟩ | ⟨e,a,xs,e1,e2,e3⟩
  ·exact .inl h
  ·exact .inr (.inl h)
  ·exact .inr (.inr (.inl ⟨e,a,xs,e1,m.rest _ _ e2 e3,e3⟩))
  ·exact .inr (.inr (.inr ⟨e,a,xs,e1,m.rest _ _ e2 e3,e3⟩))
theorem ke.mono{N:ak->Prop}{H H':Hp}(m:Vp N H H'):∀(l:List TG)(vs:jf),ke N H l vs->ke N H' l vs
 | [],_,h=>by rw[ke] at h⊢;exact h
 | t::l,_,h=>by
  rw[ke] at h⊢;let⟨v,r,e,h1,h2⟩:=h;exact⟨v,r,e,Z5.mono m t v h1,ke.mono m l r h2⟩
end
mutual
theorem Z5.less{N N':ak->Prop}{H:Hp}(m:∀ b,N' b->N b):∀(t:TG)(v:V),Z5 N H t v->Z5 N' H t v
 | .int _,_,h=>by rw[Z5] at h⊢;exact h
 | .str _,_,h=>by rw[Z5] at h⊢;exact h
 | .tup l,_,h=>by
  rw[Z5] at h⊢;let⟨a,vs,e,h1,h2⟩:=h;exact⟨a,vs,e,h1,ke.less m l vs h2⟩
 | .odd n,_,h=>by
  rw[Z5] at h⊢;rcases h with h | h | ⟨e,a,xs,e1,e2,e3⟩ | ⟨e,a,xs,e1,e2,e3⟩
  ·exact .inl h
  ·exact .inr (.inl h)
  ·exact .inr (.inr (.inl ⟨e,a,xs,e1,e2,λz=>e3 (m a z)⟩))
  ·exact .inr (.inr (.inr ⟨e,a,xs,e1,e2,λz=>e3 (m a z)⟩))
theorem ke.less{N N':ak->Prop}{H:Hp}(m:∀ b,N' b->N b):∀(l:List TG)(vs:jf),ke N H l vs->ke N' H l vs
 | [],_,h=>by rw[ke] at h⊢;exact h
 | t::l,_,h=>by
  rw[ke] at h⊢;let⟨v,r,e,h1,h2⟩:=h;exact⟨v,r,e,Z5.less m t v h1,ke.less m l r h2⟩
end
def ke.length{N:ak->Prop}{H:Hp}:∀{l:List TG}{a:jf},ke N H l a->l.length=a.length
 | [],a,h=>by rw[ke] at h;subst h;rfl
 | t::l,a,h=>by
  rw[ke] at h;let⟨v,r,rfl,_,b⟩:=h;rw[zI,zI,b.length]
def ke.get{N:ak->Prop}{H:Hp}:∀{l:List TG}{a:jf}{i:Nat}{v:V},ke N H l a->a[i]? = some v->∃ t,l[i]? = some t/\Z5 N H t v
 | [],a,i,v,h,e=>by rw[ke] at h;subst h;simp at e
 | t::l,a,0,v,h,e=>by
  rw[ke] at h;let⟨j,r,rfl,d,_⟩:=h;simp at e;subst e;exact⟨t,Z,d⟩
 | t::l,a,i+1,v,h,e=>by
  rw[ke] at h;let⟨j,r,rfl,_,f⟩:=h;let⟨g,b,c⟩:=f.get (i:=i) (by simpa using e)
  exact⟨g,by simpa using b,c⟩
mutual
theorem JK{N:ak->Prop}{H:Hp}:∀(t:KT)(v:V),ZE H t v->Z5 N H t.emb v
 | .int i,v,h=>by rw[ZE] at h;rw[KT.emb,Z5];exact h
 | .str x,v,h=>by rw[ZE] at h;rw[KT.emb,Z5];exact h
 | .tup l,v,h=>by
  rw[ZE] at h;let⟨a,vs,e,h1,h2⟩:=h;rw[KT.emb,Z5];exact⟨a,vs,e,h1,ths_keys l vs h2⟩
theorem ths_keys{N:ak->Prop}{H:Hp}:∀(l:jo)(vs:jf),jX H l vs->ke N H (embL l) vs
 | [],vs,h=>by rw[jX] at h;rw[embL,ke];exact h
 | t::l,vs,h=>by
  rw[jX] at h;let⟨v,r,e,h1,h2⟩:=h;rw[embL,ke];exact⟨v,r,e,JK t v h1,ths_keys l r h2⟩
end
theorem Ut.ty{K:zZ}{N:ak->Prop}{H:Hp}{n:String}{v:V}(h:Ut N H n v):XC K H v (.type n):=by
 rcases h with ⟨rfl,b,rfl⟩ | ⟨rfl,rfl⟩ | ⟨rfl,a,c,rfl,e,_⟩ | ⟨rfl,a,c,rfl,e,_⟩
 ·exact .bl b
 ·exact .non
 ·exact .lst e
 ·exact .dK e
theorem ZMw{K:zZ}{N:ak->Prop}{H:Hp}{n:String}{v:V}(h:Ut N H n v):
  ∃ b,yC K (.type n) (.type "bool")=some b/\(b=false->yC K (.type n) (.type "int")=some false/\yC K (.type n) (.type "str")=some false/\yC K (.type n) (.type "tuple")=some false):=by
 rcases h with ⟨rfl,_⟩ | ⟨rfl,_⟩ | ⟨rfl,_⟩ | ⟨rfl,_⟩
 ·exact⟨true,ZOo,λz=>absurd z (by decide)⟩
 ·exact⟨false,by kernel_rfl,λ_=>⟨by kernel_rfl,by kernel_rfl,by kernel_rfl⟩⟩
 ·exact⟨false,by kernel_rfl,λ_=>⟨by kernel_rfl,by kernel_rfl,by kernel_rfl⟩⟩
 ·exact⟨false,by kernel_rfl,λ_=>⟨by kernel_rfl,by kernel_rfl,by kernel_rfl⟩⟩
end Tw
namespace L2
open PySem PySem.Spec PyProof.Rows
abbrev AN(a:ak)(o:aH):HO:=.ext λh=>h.get? a=some o
section
variable{H H2:Hp}{h h':aD}{cs fs ex:jB}
end
inductive Ox(o:aH)(q:Str):Prop
 |mk(a t:_)(_:o.data=.fields a)(_:a[1]? = some (.str q t))
def A1(H:Hp)(q:Str)(d:jt):Prop:=TriplesOk d.toList/\∀ pos c,PySem.codeAmong pos d.toList=some c->∃ a b,c=.ref a/\H a=some (AN a b)/\Ox b q
inductive YL(H:Hp)(P:ak)(q:Str):Prop
 |mk(a:_)(_:H P=some (.tbl a))(_:A1 H q a)
section
variable{cs:jB}{HL Hc H' H3:Hp}
end
theorem Gb{P:ao}{w:aw}{K:zZ}{h:jc}{d:aD}{g:VI}{N:jp}{c:Str}{a:aE}{f:ak}{e:aj}{A:ax}{b:jz}{s:am}{H:Hp}{E:XK}:
  PassesOwn (aA (Vc g P w K h d N c a f e A b s H E).prog (Vc g P w K h d N c a f e A b s H E).w) (Vc g P w K h d N c a f e A b s H E).A (Vc g P w K h d N c a f e A b s H E).env (Vc g P w K h d N c a f e A b s H E).xe:=by
 show PassesOwn (aA P w) (A.deeper (envOfC c a s.heap.objs.size f e)) (envOfC c a s.heap.objs.size f e) _
 passes_own
def O2:Expr->Bool
 | .Starred _ _=>false
 | _=>true
theorem PM{e:Expr}{b:jw}{a:Env}(h:O2 e=true):au (e::b) a=(false,aG e a)::au b a:=by
 cases e <;> first | rfl | cases h
theorem ZRf{X:Cx}{e:Expr}{a:jw}{b:TE}{t:TA}(c:PE X e b)(d:PA X a t)(h:O2 e=true:=by rfl):PA X (e::a) (Um b t):=Zi c d (PM h)
theorem ZS{X:Cx}{e:Expr}{a:TE}(b:PE X e a)(h:O2 e=true:=by rfl):PA X [e] (Um a Qa):=Zi b Zu (PM h)
theorem Zx{X:Cx}{e d:Expr}{b a:TE}(f:PE X e b)(g:PE X d a)(h:O2 e=true:=by rfl)(c:O2 d=true:=by rfl):PA X [e,d] (Um b (Um a Qa)):=Zi f (ZS g c) (PM h)
theorem UA{X:Cx}{a b c:Expr}{d e f:TE}(g:PE X a d)(i:PE X b e)(j:PE X c f)(h:[a,b,c].all O2=true:=by rfl):PA X [a,b,c] (Um d (Um e (Um f Qa))):=
 (Zi g (Zi i (Zi j Zu (PM (xY.mp h c (by simp)))) (PM (xY.mp h b (by simp)))) (PM (xY.mp h a (by simp))))
theorem Uu{X:Cx}{a b c d:Expr}{e f g i:TE}(j:PE X a e)(k:PE X b f)(l:PE X c g)(m:PE X d i)(h:[a,b,c,d].all O2=true:=by rfl):PA X [a,b,c,d] (Um e (Um f (Um g (Um i Qa)))):=
 (Zi j (Zi k (Zi l (Zi m Zu (PM (xY.mp h d (by simp)))) (PM (xY.mp h c (by simp)))) (PM (xY.mp h b (by simp)))) (PM (xY.mp h a (by simp))))
def Nd(g:jt->Prop)(x C:ak)(b:jx)(h:aD):Prop:=∃ o a,h.get? x=some o/\o.cls=.ref C/\o.data=.fields a/\o.dict=b/\g a
def My:jt->Prop:=λa=>a[1]? = some .none/\a[2]? = some .none
def XO(g:jt->Prop)(x C:ak)(a:jx):HO:=.ext (Nd g x C a)
theorem ZQG{P:ao}{w:aw}{H:Hp}{h:aD}{g:jt->Prop}{x C:ak}{j:jx}(e:Nd g x C j h):Zb P w H h x (XO g x C j):=by
 let⟨o,s,a,b,c,d⟩:=id e;exact⟨e,⟨o,a⟩,λq r ⟨i,f,l,m,n,p⟩ k=>⟨i,f,k i l,m,n,p⟩⟩
abbrev Js:je:=[.type "ValueError",.type "Exception",.type "BaseException",.type "object"]
def EU:aj->Bool
 | .type t=>t == "type"
 | _=>false
theorem ZN0{v:aj}(h:EU v=true):v=.type "type" :=by
 cases v with
 | type t=>exact congrArg Value.type (eq_of_beq h)
 | _=>cases h
def GU:Data->Option ClassData
 | .cls c=>some c
 | _=>none
theorem ZL7{d:Data}{c:ClassData}(h:GU d=some c):d=.cls c:=by
 cases d with
 | cls c=>cases h;rfl
 | _=>cases h
def Eh:jd->Bool
 | some (.builtin m)=>m == "ValueError.__new__"
 | _=>false
theorem ZO1{v:jd}(h:Eh v=true):v=some (.builtin "ValueError.__new__"):=by
 cases v with
 | none=>cases h
 | some v=>
  cases v with
  | builtin m=>exact congrArg (some <| Value.builtin ·) (eq_of_beq h)
  | _=>cases h
def Gm(C:ak):je->Bool
 | .ref D::_=>D==C
 | _=>false
theorem ZO3{C:ak}{l:je}(h:Gm C l=true):l=.ref C::l.tail:=by
 cases l with
 | nil=>cases h
 | cons v r=>
  cases v with
  | ref D=>exact congrArg (Value.ref ·::r) (eq_of_beq h)
  | _=>cases h
theorem NU{b:Type}{n:Nat}{l:List b}(h:l.length=n+1):∃ a m,l=a::m:=by
 cases l with
 | nil=>cases h
 | cons a m=>exact⟨a,m,Z⟩
theorem ZOk{l:List (jd)}(h:l.length=6):∃ a b c d e f,l=[a,b,c,d,e,f]:=by
 let⟨a,l,rfl⟩:=NU h;let⟨b,l,rfl⟩:=NU (xR.inj h);let⟨c,l,rfl⟩:=NU (xR.inj (xR.inj h));let⟨d,l,rfl⟩:=NU (xR.inj (xR.inj (xR.inj h)));let⟨e,l,rfl⟩:=NU (xR.inj (xR.inj (xR.inj (xR.inj h))));let⟨f,l,rfl⟩:=NU (xR.inj (xR.inj (xR.inj (xR.inj (xR.inj h)))))
 cases l with
 | nil=>exact⟨a,b,c,d,e,f,Z⟩
 | cons _ _=>cases h
theorem Fd{b:Type}{p:b->Bool}{o:Option b}(h:o.any p=true):∃ a,o=some a/\p a=true:=by
 cases o with
 | none=>cases h
 | some a=>exact⟨a,Z,h⟩
def E6(K:zZ)(C:ak)(f:ClassData->Bool):Bool:=(K.lookup C).any λo=>EU o.cls&&(o.slots.toList.length==6&&(Eh (o.slots.toList.getD 4 none)&&(GU o.data).any λc=>Gm C c.mro&&(PySem.W.tailIn K Js c.mro.tail&&(!c.hasDel&&f c))))
inductive OM(K:zZ)(C:ak)(f:ClassData->Bool):Prop
 |mk(h e i j g k b d a l m n o p q:_)(c:je):K.lookup C=some (excClassObj h j C i e c g k b d a l m n o p q "ValueError.__new__")->PySem.W.tailIn K Js c=true->f ⟨h,e,.ref C::c,i,j,g,k,b,d,a,false⟩=true->OM K C f
theorem AC{K:zZ}{C:ak}{f:ClassData->Bool}(h:E6 K C f=true):OM K C f:=by
 let⟨⟨H,l,I,⟨J⟩⟩,e,h⟩:=Fd h;rw[zF,zF,zF] at h;let⟨n,o,p,q⟩:=h;let⟨⟨B,k,g,D,E,t,F,i,j,b,c⟩,m,h⟩:=Fd q;rw[zF,zF,zF] at h;let⟨a,d,r,s⟩:=h;cases ZN0 n;cases ZL7 m;let⟨u,w,x,y,z,A,rfl⟩:=ZOk (eq_of_beq o);cases ZO1 (v:=z) p;let a:=ZO3 a;dsimp only at a d;generalize g.tail=G at a d;subst a
 cases c with
 | true=>cases r
 | false=>exact⟨B,k,D,E,t,F,i,j,b,l,u,w,x,y,A,G,e,d,s⟩
def KS(K:zZ)(C:ak):Bool:=E6 K C λc=>PySem.W.nsOkIn K c.ns&&yY K c.ns "__init__" == some none
theorem AL{K:zZ}{a:aD}{g:jc}{x:Str}{C:ak}(b:K.In a)(l:g x=some (.ref C))(q:KS K C=true):OwnCls x C Js "ValueError.__new__" g a:=by
 exists l;let⟨u,j,h,v,m,w,d,i,c,k,o,p,r,s,t,y,e,n,f⟩:=AC q;rw[zF] at f;exact⟨y,h,u,v,j,m,w,d,i,c,k,o,p,r,s,t,a.nsMap h,b _ _ e,.of_isNs (PySem.W.isNs_of_in b f.1),PySem.W.nsMap_none_of_in b f.1 (eq_of_beq f.2),PySem.W.tail_of_in b n⟩
section
variable{g:jt->Prop}{ki:jq}{σ:St}{H:Hp}{a C fI:ak}{f:Str}{v:V}
end
section
variable{C fI:ak}{f:Str}
end
section
variable{C fI:ak}{f:Str}{e o value:Expr}{es:jw}{ta tv:TE}{t:TA}{pos pos' p:Pos}{x:Str}
theorem ZG.newx{g:jq}{j:St}{H:Hp}{s:am}{h':aD}{ea:ak}(I:ZG X g j H s)(d:∀ b o,s.heap.get? b=some o->h'.get? b=some o)(n:s.heap.get? ea=none)(m:Nd My ea C none h'):ZG X g j (upd H ea (XO My ea C none)) { s with heap:=h' }:=by
 let l:H ea=none:=by
  cases z:H ea with
  | none=>rfl
  | some o=>
   let⟨A,q⟩:=I.hok.there (a:=ea) (by rw[z];exact λy=>nomatch y)
   rw[n] at q;cases q
 let i:∀{b:ak}{o:HO},H b=some o->b≠ea:=fun{b o} q z=>by rw[z,l] at q;cases q
 refine I.call' (s':={ s with heap:=h' }) (ch:=[]) Z ⟨λb o q _ _ _=>d b o q,λb o q _ _ _=>⟨o.slots,d b o q⟩,λb o q z _=>?_,λb o q _=>⟨o,d b o q⟩,λb w q=>?_,λb o u q=>?_,λb B q=>⟨#[],?_⟩⟩ (λb v q=>?_) I.bare (λb k=>absurd k (by simp))
 ·rw[ZQ (λy=>by rw[y,n] at q;cases q)];exact z
 ·rw[ZQ (i q)];exact q
 ·rw[ZQ (i q)];exact q
 ·rw[ZQ (i q),q];simp
 ·by_cases z:b=ea
  ·rw[z,ZX] at q;cases q;rw[z];exact ZQG m
  ·rw[ZQ z] at q;exact(I.hok b v q).stay (λc u _ r=>d c u r) (λc h=>by rw[ZQ (i h)];exact h) (λc w h=>by rw[ZQ (i h)];exact h)
end
theorem A8(f:jt->jt)(o:aH):(Obj.mapFields f o).dict=o.dict:=by
 let⟨c,d,a,b⟩:=o;cases a <;> rfl
def Nx(B:aD)(cls:aj)(b:jt):Prop:=b[2]? = some .none\/∀ C o a,cls=.ref C->B.get? C=some o->o.data=.cls a->a.name ≠ "NoStem"
def By(h B:aD)(e:ak)(cls:aj)(g:jx)(f:aj):Prop:=
 ∃ a b T c d,(h.get? e=some a/\a.cls=cls/\a.dict=g/\a.data=.fields b/\b[1]? = some (.ref T))/\B.get? T=none/\T≠e/\h.get? T=some c/\c.data=.fields d/\d[3]? = some f/\Nx B cls b
def Ue(B:aD)(l:jz)(e:ak)(cls:aj)(b:jx)(a:aj)(h:aD):Prop:=B.StaysIn h/\B.get? e=none/\h.FunFrames B l/\By h B e cls b a
section
variable{M:Model}{B:aD}{env:Env}{outer l:jz}{L e:ak}{cls:aj}{od:jx}{Q:Unit->am->Prop}
theorem G4{oe:aH}{vs:jt}{first:aj}{nx:Bool}(fr:A.frames=some (env::outer))(ff:s.heap.FunFrames B (env::outer))(eL:env.frame=some L)(ge:s.heap.get? e=some oe)(sb:B.StaysIn s.heap)(eB:B.get? e=none)(dd:oe.data=.fields vs)(two:1<vs.size)(cx:Nx B oe.cls vs)(h:∀ h',Ue B (env::outer) e oe.cls oe.dict (rawInt L) h'->s.heap.UpToSlots h'->Q () { s with heap:=h' }):
  aB M A (frameOf env >>= λa=>entryPlaceOf L nx >>= λpl=>EntryCells.newEntry first a .none (rawInt L) .none pl >>= λb=>setField (.ref e) 1 b) Q E s:=by
 let en:e∉(env::outer).filterMap (·.frame):=λz=>by
  let⟨_,o,g1,g2⟩:=ff.mem z;rw[ge] at g1;cases g1;exact g2 vs dd
 refine aa (wpAny_frameOf_fun fr ff eL λh1 k1=>aa (wpAny_entryPlaceOf λpl kp=>?_));unfold EntryCells.newEntry newFields;refine aa (wpAny_newObj_type ?_ (kp.sizeOk5 _ _ _ _ _));let t3:([first,Value.ref L,.none,rawInt L,.none]++(if pl.isEmpty then uR 6 Value.none else pl)).toArray[3]? = some (rawInt L):=by
  first | (simp;done) | (rcases kp with rfl | ⟨_,_,_,_,_,_,_,rfl⟩ <;> simp)
 generalize ([first,Value.ref L,.none,rawInt L,.none]++(if pl.isEmpty then uR 6 Value.none else pl)).toArray=ts at t3⊢;let g1:h1.get? e=some oe:=(k1.2.1 e en).trans ge;let sb1:B.StaysIn h1:=λb o q=>(k1.2.1 b λz=>by rw[(ff.mem z).1] at q;cases q).trans (sb b o q)
 let eT:h1.objs.size≠e:=λz=>vW _ (by have:=zG g1;rw[<-z] at this;exact this)
 let g2:=zA (h:=h1) ({ cls:=.type "traceback",dict:=none,data:=.fields ts }:aH) g1;let d3:=Obj.data_mapFields dd (·.setIfInBounds 1 (Value.ref h1.objs.size));let g3:=vC (Obj.mapFields (·.setIfInBounds 1 (Value.ref h1.objs.size))) g2 (Obj.isFreed_of_fields d3);let gT:=(vA (h1.push ({ cls:=.type "traceback",dict:=none,data:=.fields ts }:aH)) (Obj.mapFields (·.setIfInBounds 1 (Value.ref h1.objs.size))) eT.symm).trans (yO h1 Z);let stay:∀ b o,b≠e->h1.get? b=some o->((h1.push ({ cls:=.type "traceback",dict:=none,data:=.fields ts }:aH)).update e (Obj.mapFields (·.setIfInBounds 1 (Value.ref h1.objs.size)))).get? b=some o:=λb o n q=>
  (vA _ _ n.symm).trans (zA _ q)
 let notE:∀ b o,s.heap.get? b=some o->(∀ ws,o.data≠.fields ws)->b≠e:=λb o q nf z=>by
  rw[z,ge] at q;cases q;exact nf vs dd
 refine wpAny_setField g2 dd two (h _ ⟨λb o q=>stay b o (λz=>by rw[z,eB] at q;cases q) (sb1 b o q),eB,ff.of_keeps λb o q nf=>?_,_,_,h1.objs.size,_,_,⟨g3,Obj.cls_mapFields _ _,A8 _ _,d3,by simp[two]⟩,sb1.fresh,eT,gT,Z,t3,cx.imp (λz=>by rw[Array.getElem?_setIfInBounds_ne (by decide)];exact z) id⟩ λb o q nf=>?_)
 ·let⟨sl,z⟩:=k1.2.2 b o q;exact⟨_,stay b _ (notE b o q nf) z,Z⟩
 ·let⟨sl,z⟩:=k1.2.2 b o q;exact⟨sl,stay b _ (notE b o q nf) z⟩
theorem Ef{F:aj}(x:Ue B l e cls od F s.heap)(h:∀ j,Ue B l e cls od .none j->s.heap.UpToSlots j->Q () { s with heap:=j }):aB M A (setFlight (.ref e) none) Q E s:=by
 let⟨H,C,D,G,J,T,N,t,⟨p,v,w,m,u⟩,TB,k,i,g,I,y⟩:=x;let r:3<t.size:=(tZ.mp I).1;let a:∀ b,b≠T->(s.heap.update T (Obj.mapFields (·.setIfInBounds 3 ((none:jx).elim Value.none λf=>rawInt f)))).get? b=s.heap.get? b:=λb n=>vA _ _ n.symm;let c:∀ b o,s.heap.get? b=some o->(∀ K,o.data≠.fields K)->b≠T:=λb o q d z=>by
  rw[z,i] at q;cases q;exact d t g
 unfold setFlight;refine aa (wpAny_field p m u ?_);rw[aM (show (Value.ref T != Value.none)=true by simp)]
 refine wpAny_setField i g r (h _ ⟨λb o q=>(a b λz=>by rw[z,TB] at q;cases q).trans (H b o q),C,D.of_keeps λb o q d=>⟨o,(a b (c b o q d)).trans q,Z⟩,?_⟩ λb o q d=>⟨o.slots,(a b (c b o q d)).trans q⟩)
 exact⟨G,J,T,_,_,⟨(a e k.symm).trans p,v,w,m,u⟩,TB,k,vC _ i (Obj.isFreed_of_fields (Obj.data_mapFields g _)),Obj.data_mapFields g _,by simp[r],y⟩
theorem ZIV{a:aH}{c:jt}(n:A.frames=some (env::outer))(m:s.heap.FunFrames B (env::outer))(f:env.frame=some L)(g:s.heap.get? e=some a)(o:B.StaysIn s.heap)(k:B.get? e=none)(d:a.data=.fields c)(i:c[1]? = some .none)(j:Nx B a.cls c)(h:∀ b,Ue B (env::outer) e a.cls a.dict (rawInt L) b->s.heap.UpToSlots b->Q () { s with heap:=b }):aB M A (noteFrame (.ref e) env) Q E s:=by
 unfold noteFrame;simp only[f];refine aa (wpAny_field g d i ?_);rw[aK (by decide)]
 exact G4 n m f g o k d (tZ.mp i).1 j h
theorem ZLL(G:A.frames=some (env::outer))(k:env.frame=some L)(x:Ue B (env::outer) e cls od .none s.heap)(h:∀ f,Ue B (env::outer) e cls od (rawInt L) f->s.heap.UpToSlots f->Q () { s with heap:=f }):
  aB M A (noteFrame (.ref e) env) Q E s:=by
 let⟨I,C,F,O,P,T,N,r,⟨m,v,w,j,t⟩,TB,u,i,g,p,y⟩:=x;subst v w;let H:3<r.size:=(tZ.mp p).1;let a:∀ b,b≠T->(s.heap.update T (Obj.mapFields (·.setIfInBounds 3 Value.none))).get? b=s.heap.get? b:=λb n=>vA _ _ n.symm;let c:∀ b o,s.heap.get? b=some o->(∀ K,o.data≠.fields K)->b≠T:=λb o q d z=>by
  rw[z,i] at q;cases q;exact d r g
 unfold noteFrame;simp only[k];refine aa (wpAny_field m j t ?_);rw[aM (show (Value.ref T != Value.none)=true by simp)]
 refine aa (wpAny_field i g p ?_);rw[aK (show ¬ ((Value.none==rawInt L)=true) by simp[rawInt])]
 refine aa (wpAny_setField i g H ?_);refine G4 (s:={ s with heap:=_ }) G (F.of_keeps λb o q d=>⟨o,(a b (c b o q d)).trans q,Z⟩) k ((a e u.symm).trans m) (λb o q=>(a b λz=>by rw[z,TB] at q;cases q).trans (I b o q)) C j (tZ.mp t).1 y λf D J=>h f D λb o q d=>?_
 exact J b o ((a b (c b o q d)).trans q) d
theorem Ue.less{f:aj}{h:aD}(x:Ue B (env::outer) e cls od f h):Ue B outer e cls od f h:=by
 let⟨a,b,⟨_,_,c⟩,d⟩:=x;exact⟨a,b,c,d⟩
theorem ZH4(f:A.frames=some (env::outer))(b:env.frame=some L)(x:Ue B (env::outer) e cls od .none s.heap)(h:∀ a,Ue B outer e cls od .none a->s.heap.UpToSlots a->Q () { s with heap:=a }):aB M A (leaving env (.ref e)) Q E s:=by
 unfold leaving;exact aa (ZLL f b x λg c j=>Ef (s:={ s with heap:=g }) c λi d k=>h i d.less (j.trans k))
theorem Aa{a:aH}{c:jt}(n:A.frames=some (env::outer))(m:s.heap.FunFrames B (env::outer))(i:env.frame=some L)(o:s.heap.get? e=some a)(r:B.StaysIn s.heap)(g:B.get? e=none)(f:a.data=.fields c)(v:c[1]? = some .none)(d:Nx B a.cls c)(h:∀ b,Ue B outer e a.cls a.dict .none b->s.heap.UpToSlots b->Q () { s with heap:=b }):aB M A (leaving env (.ref e)) Q E s:=by
 unfold leaving;exact aa (ZIV n m i o r g f v d λp j t=>Ef (s:={ s with heap:=p }) j λq k u=>h q k.less (t.trans u))
end
theorem ZIC{a:ao}{w:aw}{A:ax}{E:ja}{s:am}{c:Env}{K:zZ}{C:ak}{x:Sem aj}{Q:Flow->am->Prop}(F:A.handled=none)(H:wV K C (.type "BaseException")=some true)(G:uP K (.ref C)=some (.type "type"))(h:aB (aA a w) A x (λv b=>∃ e q,v=.ref e/\K.In b.heap/\Nd My e C q b.heap/\E (.ref e) b) E s):aB (aA a w) A (raiseStmt c (some x) none) Q E s:=by
 unfold raiseStmt;refine aa (ae h (λv b B=>?_) λ_ _ z=>z);let⟨e,q,rfl,k,⟨⟨L,i,I,j⟩,r,o,l,m,n,J,P⟩,D⟩:=B;dsimp only at l m n;subst l m n;let⟨p,g,d,O,N⟩:=b;let t:wW (aA a w) p (typeOf (.ref e)) (.ref C):=Oy.ty ⟨_,o,Z⟩ _;let u:=zEA (M:=aA a w) k H;let y:=PySem.W.looks_typeIn (M:=aA a w) k G;let f:p.get? e=some ⟨.ref C,i,.fields r,j⟩:=o;unfold excFromValue isExcClass isInstance isType raisedInstance setFlight
 repeat (first | with_reducible refine wpAny_loadPart_at f ?_ | with_reducible refine u.at ?_ | with_reducible refine t.at ?_ | with_reducible refine y.at ?_ | wp_step)
 rw[show r[1]? = some Value.none from J]
 repeat wp_step
 all_goals first | exact wpAny_raiseNew_none F D | trace_state
structure Q8(P:ao)(w:aw)(outer:jz)(H:Hp)(s:am)(ea:ak)(cls:aj)(od:jx)(H':Hp)(s':am):Prop where
 ex:∃ B:aD,Ue B outer ea cls od .none s'.heap/\(∀ b o,s'.heap.get? b=some o->H' b≠none->B.get? b=some o)/\(∀ b o,s.heap.get? b=some o->H b=none->b∉frs outer->B.get? b=some o)/\(∀ b o,s.heap.get? b=some o->b∉frs outer->∃ o',B.get? b=some o')
 os:s'.os=s.os
 bare:AllBare s'.gens
 un:Un (frs outer) [] H H' s.heap s'.heap
 hok:Y5 P w H' s'.heap
 new:s.heap.get? ea=none
 free:H' ea=none
def WA(P:ao)(w:aw):VI:=λa H s E e f=>∃ c cls d b,e=.ref c/\Q8 P w a H s c cls d b f/\E cls d b
structure U2(X:Cx)(E:XK):Prop where
 stack:X.stack=X.env::X.outer
 frame:X.env.frame=some X.env.locals
 ex:X.ex=[]
 calm:X.calm=true
 xe:∀ e s',aB (aA X.prog X.w) X.A (leaving X.env e) (λ_ s''=>WA X.prog X.w X.outer X.H₀ X.s₀ E e s'') (λe' s''=>WA X.prog X.w X.outer X.H₀ X.s₀ E e' s'') s'->X.xe e s'
theorem NE{P:ao}{w:aw}{K:zZ}{g:jc}{c:aD}{N:jp}{d:Str}{b:aE}{f:ak}{e:aj}{A:ax}{a:jz}{s:am}{H:Hp}{E:XK}:
  U2 (Vc (WA P w) P w K g c N d b f e A a s H E) E:=⟨Z,Z,Z,Z,λ_ _ h=>h⟩
section
variable{ki:jq}{σ:St}{H H':Hp}{s':am}{E:XK}
theorem U2.frs(F:U2 X E):frs X.stack=X.env.locals::X.fs:=by
 rw[F.stack];show List.filterMap _ (X.env::X.outer)=_;rw[tH,F.frame];rfl
theorem U2.off(F:U2 X E)(I:ZG X ki σ H s){b:ak}{o:aH}(q:X.s₀.heap.get? b=some o)(n:b∉L2.frs X.outer):b∉L2.frs X.stack:=λz=>by
 rw[F.frs] at z;rcases zL.mp z with z | z
 ·rw[z,I.noloc] at q;cases q
 ·exact n z
theorem U2.on(F:U2 X E){b:ak}(n:b∈L2.frs X.outer):b∈L2.frs X.stack:=by
 rw[F.frs];exact zQ _ n
theorem ZOr{B h:aD}{g:ak}(F:U2 X E)(J:ZG X ki σ H s)(r:B.StaysIn h)(d:∀ b o,b≠g->s.heap.get? b=some o->b∉L2.frs X.stack->B.get? b=some o)(p:s.heap.UpToSlots h)(i:X.s₀.heap.get? g=none):
  Un (L2.frs X.outer) [] X.H₀ H X.s₀.heap h:=by
 let c:=J.base;rw[F.ex] at c;let l:∀{b:ak}{o:aH},X.s₀.heap.get? b=some o->b≠g:=λq z=>by rw[z,i] at q;cases q
 let m:∀{b:ak}{o:aH},b∈L2.frs X.stack->s.heap.get? b=some o->∀ v,o.data≠.fields v:=λa q=>GW J _ a _ q;refine⟨λb o q n a _=>r b o (d b o (l q) (c.keep b o q n a (by simp)) (F.off J q a)),λb o q n a _=>?_,c.free,λb o q _=>?_,c.tups,c.frzs,c.tbls⟩
 ·let⟨u,e⟩:=c.slot b o q n a (by simp)
  let⟨k,t⟩:=p b _ e (m (F.on a) e);exact⟨k,t⟩
 ·let⟨f,j⟩:=c.there b o q (by simp)
  by_cases a:b∈L2.frs X.stack
  ·let⟨u,e⟩:=p b f j (m a j);exact⟨_,e⟩
  ·exact⟨f,r b f (d b f (l q) j a)⟩
theorem ZG.untrack{a:ak}{g:aD->Prop}(I:ZG X ki σ (upd H a (.ext g)) s)(l:H a=none):ZG X ki σ H s:=by
 let v:∀{b:ak}{u:HO},H b=some u->b≠a:=fun{b u} e z=>by rw[z,l] at e;cases e
 let h:∀{b:ak},upd H a (.ext g) b=none->H b=none:=fun{b} e=>by
  by_cases z:b=a
  ·rw[z];exact l
  ·rw[ZQ z] at e;exact e
 let d:∀{b:ak}{u:HO},upd H a (.ext g) b=some u->(∀ y,u≠.ext y)->H b=some u:=fun{b u} e k=>by
  by_cases z:b=a
  ·rw[z,ZX] at e;exact absurd (yT.inj e).symm (k g)
  ·rw[ZQ z] at e;exact e
 refine⟨I.ok,I.os,I.bare,⟨I.base.keep,I.base.slot,λb j q n t=>h (I.base.free b j q n t),I.base.there,λb m q=>d (I.base.tups b m q) (λ_ z=>nomatch z),λb j u q=>d (I.base.frzs b j u q) (λ_ z=>nomatch z),λb w q=>?_⟩,I.loc,I.cell,h I.free,λx c e=>h (I.freeC x c e),λp i=>?_,λb u e=>?_,I.len⟩
 ·let⟨f,e⟩:=I.base.tbls b w q;exact⟨f,d e (λ_ z=>nomatch z)⟩
 ·let⟨e,n,r⟩:=I.pin p i;exact⟨e,h n,r⟩
 ·let o:upd H a (.ext g) b=some u:=by rw[ZQ (v e)];exact e
  exact(I.hok b u o).stay (λ_ _ _ q=>q) (λc q=>d q (λ_ z=>nomatch z)) λc m q=>d q (λ_ z=>nomatch z)
theorem ZLJ{c C:ak}{m:jx}{g:jt->Prop}(F:U2 X E)(J:ZG X ki σ H s)(e:X.s₀.heap.get? c=none)(u:H c=none)(Q:Nd g c C m s.heap)(K:∀ f,g f->f[1]? = some .none)(L:∀ f B,g f->(∀ b o,B.get? b=some o->s.heap.get? b=some o)->Nx B (.ref C) f)(N:E (.ref C) m H):X.xe (.ref c) s:=by
 let⟨U,f,I,r,w,x,t⟩:=Q;let T:=K f t;let G:X.A.frames=some (X.env::X.outer):=by rw[J.ok.frames,F.stack]
 let D:s.heap.FunFrames (uN s.heap (c::L2.frs X.stack)) (X.env::X.outer):=by
  have:=PySem.W.funFrames_hide (as:=c::L2.frs X.stack) J.stack (λl P a O=>zQ _ (tJ.mpr ⟨l,P,O⟩));rw[F.stack] at this⊢;exact this
 let d:∀ b o,b≠c->s.heap.get? b=some o->b∉L2.frs X.stack->(uN s.heap (c::L2.frs X.stack)).get? b=some o:=λb o n q h=>zEB _ q (λz=>by
  rcases zL.mp z with z | z
  ·exact n z
  ·exact h z)
 let inT:∀ b o,s.heap.get? b=some o->H b≠none->(uN s.heap (c::L2.frs X.stack)).get? b=some o:=λb o q n=>d b o (λz=>n (by rw[z];exact u)) q λz=>n (J.stkFree b z)
 let y:(uN s.heap (c::L2.frs X.stack)).get? c=none:=qC _ (by simp)
 refine F.xe _ _ (Aa G D F.frame I (λb o q=>rO _ q) y w T (by rw[r];exact L f _ t λb o q=>rO _ q) λM j S=>?_)
 rw[r,x] at j;refine⟨c,_,m,H,Z,⟨⟨_,j,λb o q n=>?_,λb o q n h=>?_,λb o q h=>?_⟩,J.os,J.bare,ZOr F J j.1 d S e,J.hok.keptT λb o q n=>j.1 b o (inT b o q n),e,u⟩,N⟩
 ·let⟨i,k⟩:=J.hok.there n;let R:=j.1 b i (inT b i k n);let v:M.get? b=some o:=q;rw[R] at v;rw[<-yT.inj v];exact inT b i k n
 ·let p:=J.base;rw[F.ex] at p;exact d b o (λz=>by rw[z,e] at q;cases q) (p.keep b o q n h (by simp)) (F.off J q h)
 ·let⟨i,k⟩:=J.base.there b o q (by rw[F.ex];simp)
  exact⟨i,d b i (λz=>by rw[z,e] at q;cases q) k (F.off J q h)⟩
theorem AI{a C:ak}{c:jx}(F:U2 X E)(J:ZG X ki σ H s)(b:X.s₀.heap.get? a=none)(e:H a=none)(f:Nd My a C c s.heap)(d:E (.ref C) c H):X.xe (.ref a) s:=ZLJ F J b e f (λ_ z=>z.1) (λ_ _ z _=>.inl z.2) d
theorem ZL1{i:ak}{cls:aj}{r:jx}{B j:aD}(F:U2 X E)(I:ZG X ki σ H s)(W:Q8 X.prog X.w X.stack H s i cls r H' s')(inT:∀ b o,s'.heap.get? b=some o->H' b≠none->B.get? b=some o)(v:∀ b o,s.heap.get? b=some o->H b=none->b∉L2.frs X.stack->B.get? b=some o)(m:∀ b o,s.heap.get? b=some o->b∉L2.frs X.stack->∃ c,B.get? b=some c)(f:Ue B X.outer i cls r .none j)(O:s'.heap.UpToSlots j)(q:E cls r H'):WA X.prog X.w X.outer X.H₀ X.s₀ E (.ref i) { s' with heap:=j }:=by
 let d:=I.base;rw[F.ex] at d;let L:∀{b:ak}{o:aH},b∈L2.frs X.stack->s.heap.get? b=some o->∀ y,o.data≠.fields y:=λa q=>GW I _ a _ q;let p:∀ b o,X.s₀.heap.get? b=some o->X.H₀ b=none->b∉L2.frs X.outer->B.get? b=some o:=λb o q n a=>v b o (d.keep b o q n a (by simp)) (d.free b o q n (by simp)) (F.off I q a)
 let g:∀ b o,s.heap.get? b=some o->b∈L2.frs X.stack->∃ t,j.get? b=some { o with slots:=t }:=λb o q a=>by
  let⟨t,h⟩:=W.un.slot b o q (I.stkFree b a) a (by simp)
  let⟨g,l⟩:=O b _ h (λy z=>L a q y z);exact⟨g,l⟩
 let u:Un (L2.frs X.outer) [] X.H₀ H' X.s₀.heap j:=by
  refine⟨λb o q n a _=>f.1 b o (p b o q n a),λb o q n a _=>?_,λb o q n _=>?_,λb o q _=>?_,λb D q=>W.un.tups b D (d.tups b D q),λb o u q=>W.un.frzs b o u (d.frzs b o u q),λb M q=>?_⟩
  ·let⟨t,h⟩:=d.slot b o q n a (by simp)
   let⟨x,G⟩:=g b _ h (F.on a);exact⟨x,G⟩
  ·let⟨c,e⟩:=d.there b o q (by simp)
   exact W.un.free b c e (d.free b o q n (by simp)) (by simp)
  ·let⟨c,e⟩:=d.there b o q (by simp)
   by_cases a:b∈L2.frs X.stack
   ·let⟨t,h⟩:=g b c e a;exact⟨_,h⟩
   ·let⟨A,l⟩:=m b c e a;exact⟨A,f.1 b A l⟩
  ·let⟨J,h⟩:=d.tbls b M q;let⟨K,l⟩:=W.un.tbls b _ h;exact⟨J++K,by rw[l,Array.append_assoc]⟩
 refine⟨i,cls,r,H',Z,⟨⟨B,f,λb o k n=>?_,p,λb o k a=>?_⟩,W.os.trans I.os,W.bare,u,W.hok.keptT λb o k n=>f.1 b o (inT b o k n),?_,W.free⟩,q⟩
 ·let⟨c,e⟩:=W.hok.there n;let N:=f.1 b c (inT b c e n);let C:j.get? b=some o:=k;rw[N] at C;rw[<-yT.inj C];exact inT b c e n
 ·let⟨c,e⟩:=d.there b o k (by simp)
  exact m b c e (F.off I k a)
 ·cases z:X.s₀.heap.get? i with
  | none=>rfl
  | some o=>
   let⟨c,e⟩:=d.there i o z (by simp)
   rw[W.new] at e;cases e
theorem Gh{d:XK}(F:U2 X E)(i:∀ cls o H,d cls o H->E cls o H):QR (WA X.prog X.w) X d:=by
 intro ki σ H s e s' I h;let⟨k,cls,m,H',rfl,W,q⟩:=h;let⟨B,f,inT,c,b⟩:=W.ex;let g:X.A.frames=some (X.env::X.outer):=by rw[I.ok.frames,F.stack]
 exact F.xe _ _ (ZH4 g F.frame (by rw[<-F.stack];exact f) λl a j=>ZL1 F I W inT c b a j (i _ _ _ q))
end
theorem Zg.okD{x b:Str}{g:aC}{f:ak}{n:ap}{N l:jp}{k:Nat}{m:Sp}(F:Zg K x b g f n)(S:ZB N l (Zc g))(j:∀ e H Q E,m e H Q E->e.length=l.length)(d:∀ (c:aj) (A:ax) (a:jz) (s:am) (H:Hp) (e:jf) (Q:VK) (E:XK),ZU k (A.deeper (envOfC b (Zc g) s.heap.objs.size f c))->m e H Q E ->
   let X:=(Vc (WA P w) P w K mg kj N b (Zc g) f c A a s H E);∃ t,Wj X (Ws g) t/\t { nx:=λ_ o=>Q .non o,rt:=Q } (QW N e) H):ZI P w K mg kj (WA P w) (k+1) f n l m:=by
 let⟨y,z,kV,p,B,v,c,ct,u,rfl,r,h⟩:=F.ex;exact KL r h S j λA a s H e Q E q i=>d c A a s H e Q E q i
theorem Zg.kD{x a:Str}{g:aC}{f:ak}{m:ap}{N j:jp}{k:Nat}{l:Sp}(F:Zg K x a g f m)(S:ZB N j (Zc g))(b:∀ (e:aj) (A:ax) (c:jz) (s:am) (H:Hp) (d:jf) (Q:VK) (E:XK),ZU k (A.deeper (envOfC a (Zc g) s.heap.objs.size f e))->l d H Q E ->
   let X:=(Vc (WA P w) P w K mg kj N a (Zc g) f e A c s H E);∃ t,Wj X (Ws g) t/\t { nx:=λ_ n=>Q .non n,rt:=Q } (QW N d) H)(i:∀ d H Q E,l d H Q E->d.length=j.length:=by intro d _ _ _ h;cases h;(try subst d);rfl):ZI P w K mg kj (WA P w) (k+1) f m j l:=F.okD S i b
inductive QK(a:zZ)(x y:V)(H:Hp)(Q:VK):Prop
 |mk(p b c:_)(_:x=.ref p)(_:y=.ref b)(_:ZF a H p c)(_:ZF a H b [])(_:Q (.bl (!c.isEmpty)) H)
theorem ZKp(f:X.A.units<cLine):Y4 X (az .NotEq) (QK X.K):=by
 intro l s J H x y v u Q I C D h;let⟨p,b,E,rfl,rfl,c,o,q⟩:=h;cases C;cases D;let⟨d,z,i,F⟩:=I.list c;let⟨a,B,k,G⟩:=I.list o;let g:=z.length;let t:=B.length;let n:a=[]:=vQ (by rw[<-t];rfl)
 subst n
 cases E with
 | nil=>
  let m:d=[]:=vQ (by rw[<-g];rfl)
  subst m;exact PySem.SeqAt.RcNeAt.lists (e:=λ_=>true) i.isList k.isList Z f (λj c _=>absurd c (by simp)) X.prog X.w X.xe _ (Y7 I q (by simp))
 | cons x r=>exact PySem.SeqAt.RcNeAt.lists_lengths i.isList k.isList (by simp;intro e;subst e;simp at g) f X.prog X.w X.xe _ (Y7 I q Z)
end L2
namespace Tw
open PySem PySem.Spec L2
variable{kg kh CS CT CH CK CP CB:ak}
def top(i:Nat):Stmt:=PySem.Challenge.pw_twigmap_k51_filled.main.body.getD i (.Pass ⟨0,0,0,0⟩)
abbrev Ip:Stmt:=top 14
abbrev Lq:Stmt:=top 15
abbrev M6:Stmt:=top 16
abbrev JJ:Stmt:=top 17
abbrev Ji:Stmt:=top 18
abbrev Kx:Stmt:=top 19
abbrev IX:Stmt:=top 20
abbrev Lc:Stmt:=top 21
abbrev Kj:Stmt:=top 31
abbrev K7:Stmt:=top 32
abbrev IN:Stmt:=top 33
abbrev IA:Stmt:=top 34
abbrev Ka:Stmt:=top 35
abbrev Ik:Stmt:=top 36
abbrev Jk:Stmt:=top 38
abbrev K5:Stmt:=top 39
abbrev KP:Stmt:=top 41
abbrev IC:Stmt:=top 42
abbrev IS:Stmt:=top 43
abbrev Jq:Stmt:=top 44
abbrev Kv:Stmt:=top 45
abbrev Mv:Stmt:=top 46
abbrev Ja:Stmt:=top 48
abbrev IV:Stmt:=top 49
abbrev KN:Stmt:=top 50
abbrev HF:Stmt:=top 51
abbrev JE:Stmt:=top 57
abbrev Jn:Stmt:=top 58
abbrev Iu:Stmt:=top 59
abbrev IZ:Stmt:=top 61
abbrev Jo:Stmt:=top 62
abbrev KM:Stmt:=top 66
abbrev IO:Stmt:=top 67
abbrev Jy:Stmt:=top 68
abbrev Kr:Stmt:=top 71
abbrev K3:Stmt:=top 73
abbrev JH:Stmt:=top 74
abbrev HP:Stmt:=top 75
abbrev II:Stmt:=top 76
abbrev Mw:Stmt:=top 77
abbrev Lf:Stmt:=top 78
abbrev Ii:Stmt:=top 79
abbrev NR:Stmt:=top 80
abbrev Ig:Stmt:=top 81
abbrev Ku:Stmt:=top 82
abbrev JT:Stmt:=top 83
abbrev Jc:Stmt:=top 84
abbrev M8:Stmt:=top 85
abbrev Iq:Stmt:=top 86
abbrev Km:Stmt:=top 87
abbrev QV:Stmt:=top 88
structure Yd(mg:jc):Prop where
 isi:mg "isinstance" = none
 bool:mg "bool" = none
 int:mg "int" = none
 str:mg "str" = none
 tuple:mg "tuple" = none
 list:mg "list" = none
 len:mg "len" = none
 all:mg "all" = none
 abs:mg "abs" = none
 max:mg "max" = none
 min:mg "min" = none
 range:mg "range" = none
 set:mg "set" = none
 sorted:mg "sorted" = none
 ValueError:mg "ValueError" = none
 sum:mg "sum" = none
 signs:∃ t,mg "MOST_SIGNS" = some (.int 40 t)
 things:∃ t,mg "MOST_THINGS" = some (.int 4 t)
 deep:∃ t,mg "MOST_DEEP" = some (.int 3 t)
 rows:∃ t,mg "MOST_ROWS" = some (.int 4 t)
 few:∃ t,mg "FEWEST_BRANCHES" = some (.int 2 t)
 most:∃ t,mg "MOST_BRANCHES" = some (.int 4 t)
 height:∃ t,mg "HEIGHT" = some (.int 0 t)
 least:∃ t,mg "LEAST" = some (.int 1 t)
 greatest:∃ t,mg "GREATEST" = some (.int 2 t)
 many:∃ t,mg "MANY" = some (.int 3 t)
 kept:∃ t,mg "KEPT" = some (.int 3 t)
theorem Qy:ZB ["_law_well_here","_law_many","_law_found","_law_first","_law_second"] zEe (Zc JH):=Zs
theorem AG(F:Zg K "_law_pull" "_law_pull" JH f fd):ZI P w K mg kj ZM 1 f fd zEe YA:=by
 refine F.ok Qy (λz H Q E h=>?_) (λy A q s H z Q E G h=>?_)
 ·let⟨p,m,rfl,_⟩:=h;rfl
 let⟨p,m,rfl,W,⟨g,l⟩,k⟩:=h;let⟨a,b,c,d,n,i,j,r,D⟩:=W.ex;let o:=Qy.nd;intro B;refine⟨_,ZL (Z1 (Yb UD (V6 Zw (pv 0) ZJ (λ_ _=>rfl)) ZJ (Z8 _)) (ZR (Zh ZJ)) Z2)
  (ZL (NQ (Zj Vg (V6 Zw (pv 0) ZJ (λ_ _=>rfl)) ZJ) (KQ (pv 0) ZJ Jh))
  (ZL (Z1 (Yb Pp (V6 Zw (pv 0) ZJ (λ_ _=>rfl)) ZJ (Z8 _))
   (ZL (Ze 2 o (Zj Po (V6 Zw (pv 0) ZJ (λ_ _=>rfl)) (pv 1)))
   (ZL (NQ (Zj AD (V6 Zw (pv 0) ZJ (λ_ _=>rfl)) (pv 1)) (KQ (pv 0) ZJ Jh))
   (ZR (Zh (pv 2))))) Z2)
  (ZL (NQ (Zj Xg (V6 Zw (pv 0) ZJ (λ_ _=>rfl)) ZJ) (KQ (pv 0) ZJ Jh))
  (ZL (Ze 3 o (Zj Po (Zj Q0 (Zj Xg (V6 Zw (pv 0) ZJ (λ_ _=>rfl)) ZJ) (Zj Xg ZJ (Zj Q0 ZJ (V6 Zw (pv 0) ZJ (λ_ _=>rfl))))) ZJ))
  (ZL (Ze 4 o (Zj Po (Zj Q0 (Zj Xg (Zj P3 (pv 3) ZJ) ZJ) (Zj Xg (Zj Po (pv 3) ZJ) ZJ)) ZJ))
  (ZR (Zh (Zj Po (Zj P3 (pv 4) ZJ) (pv 1))))))))),?_⟩
 exists _,Z,p,_,_,_,Z,Z,ZF.of n,Z,Z,_,Z;refine UI (λ_=>?_) (λu=>?_)
 ·exact k 0 H (wO 0) g W (ZK.refl p H)
 let C:d≠0:=λe=>u (aJ (by rw[e]))
 exists _,Z,p,_,_,_,Z,Z,ZF.of n,Z,_,_,Z,Z,_,Z,p,_,_,_,Z,Z,n,Z;exists _,Z,p,_,_,_,Z,Z,ZF.of ZX,Z,_,_,Z,Z,_,Z;refine UI (λv=>?_) (λv=>?_)
 ·exists _,Z,p,_,_,_,Z,Z,ZF.of ZX,Z,_,Z,_,_,Z,Z,g;exists _,Z,p,_,_,_,Z,Z,ZF.of ZX,Z,_,Z,_,_,Z,Z,⟨g,l⟩,_,Z,p,_,_,_,Z,Z,ZX,Z;exists _,Z;refine k (c % m) _ (vK _ ∅) (vG _ g) ⟨a,b,c / m,d-1,ZX,i,j,Int.ediv_nonneg r ∅,∅⟩ (ZK.refl p H).upd.upd
 ·exists _,Z,p,_,_,_,Z,Z,ZF.of ZX,Z,_,_,Z,Z,_,Z,p,_,_,_,Z,Z,ZX,Z;exists _,Z,p,_,_,_,Z,Z,ZF.of ZX,Z,_,_,Z,Z,_,Z,p,_,_,_,Z,Z,ZF.of ZX,Z,_,_,Z,Z,.inl ⟨by decide,by decide⟩,_,_,Z,Z,_,_,Z,Z,.inl ⟨∅,∅⟩,_,_,Z,Z,(by show (0:Int)<2147483629;decide)
  generalize t:(a+1) * (48271+7919 * (b+1)) % 2147483629=x;let I:0<=x:=by rw[<-t];exact vK _ (by decide)
  let J:x<2147483629:=by rw[<-t];exact vG _ (by decide)
  exists _,Z,_,_,Z,Z,⟨by decide,by decide⟩,_,_,Z,Z,_,Z,_,_,Z,Z,(by show (0:Int)<1009;decide),_,_,Z,Z,_,_,Z,Z,.inl ⟨∅,∅⟩,_,_,Z,Z,(by show (0:Int)<1000000007;decide)
  exists _,Z,_,_,Z,Z,⟨by decide,by decide⟩,_,Z,_,_,Z,Z,g
  exact k _ _ (vK _ ∅) (vG _ g) ⟨a,b+1,c,d-1,ZX,i,j,r,∅⟩ (ZK.refl p H).upd.upd
theorem QA:ZB ["_law_well_here","_law_bound","_law_found","_law_j"] zEm (Zc HP):=Zs
theorem BZ(F:Zg K "_law_great" "_law_great" HP f fd)(T:Yd mg)(v:ZA P w K mg kj 1 "_law_pull" zEe YA):ZI P w K mg kj ZM 2 f fd zEm YA:=by
 refine F.ok QA (λG H Q E h=>?_) (λB A q s H G Q E x h=>?_)
 ·let⟨p,m,rfl,_⟩:=h;rfl
 let⟨p,m,rfl,W,g,k⟩:=h;let⟨a,b,c,d,C,_⟩:=W.ex;let o:=QA.nd;intro J;refine⟨_,ZL (Z1 (Yb Pp (V6 Zw (pv 0) ZJ (λ_ _=>rfl)) ZJ (Z8 _)) (ZR (Zh (Zf v x (Zi (pv 0) (Zi (pv 1) Zu))))) Z2)
  (ZL (Ze 2 o ZJ)
  (ZL (VD PassesOwn.never rfl (Oh rfl T.range (Zi ZJ Zu)) (WG 3 o)
   (ZR (Ze 2 o (Zj Xg (Zj Q0 (pv 2) ZJ) (Zf v x (Zi (pv 0) (Zi ZJ Zu)))))))
  (ZR (Zh (Zj Po (pv 2) (pv 1)))))),?_⟩
 exists _,Z,p,_,_,_,Z,Z,ZF.of C,Z,_,_,Z,Z,_,Z;refine UI (λ_=>?_) (λ_=>?_)
 ·exact⟨_,Z,_,Z,p,m,Z,W,g,k⟩
 refine⟨8,Z,by decide,by decide,Nz (n:=8) (λi u e=>∃(z:Int)(j:jg),u=[some (.ref p),some (.int m),some (.int z),j]/\ZW e p/\ZK p H e) ⟨0,none,Z,W,ZK.refl p H⟩ ?_ ?_⟩
 ·rintro i u e L ⟨z,j,rfl,l,t⟩;exists _,Z,_,_,Z,Z,.inr ⟨by decide,by decide⟩,_,Z,p,62500000,Z,l,Wn (by decide) (by decide)
  intro r I _ _ y D;exact⟨_,_,Z,Z,_,_,Z,y,t.trans D⟩
 ·rintro u e ⟨z,j,rfl,l,t⟩;exists _,Z,_,Z,_,_,Z,Z,g.1;exact k _ _ (vK _ (by have:=g.1;lia)) (vG _ g.1) l t
def Yh:Str:= " \"\\~!#$&'()*+,-./0123456789:;<=>?@ABCDEFGHIJKLMNOPQRSTUVWXYZ[]^_`abcdefghijklmnopqrstuvwxyz{|}"
theorem ZKO:Yh.cps.toList.length=94:=by decide +kernel
theorem GP:Yh.length=94:=by decide +kernel
theorem Bq:Yh.cps.toList.all QQ=true:=by decide +kernel
theorem GQ{i:Int}(a:0<=i)(b:i<94):∃ c,We Yh.cps.toList i=some c/\QQ c=true:=by
 let⟨c,e,m⟩:=IK (xs:=Yh.cps.toList) a (by rw[ZKO];exact b)
 exact⟨c,e,xY.mp Bq c m⟩
def WS(x:Str)(i:Nat):Prop:=x.cps.size<=i/\x.cps.toList.all QQ=true
theorem WS.ok{x:Str}{i:Nat}(h:WS x i)(a:i<=40):Pm x=true:=by
 unfold Pm;rw[zF];exact⟨aJ (zO h.1 a),h.2⟩
theorem WS.more{x:Str}{i c:Nat}(h:WS x i)(a:QQ c=true):WS (x++(⟨#[c]⟩:Str)) (i+1):=by
 let e:(x++(⟨#[c]⟩:Str)).cps=x.cps++#[c]:=rfl;exists ?_
 ·rw[e,Array.size_append];exact vI h.1
 ·rw[e,wI,List.all_append,h.2];simp[a]
abbrev ZQa:jp:=["_law_well_here","_law_signs","_law_text_here","_law_few","_law_j","_law_sign"]
theorem Q7:ZB ZQa zFc (Zc II):=Zs
theorem ZNg(F:Zg K "_law_text" "_law_text" II f fd)(T:Yd mg)(B:ZA P w K mg kj 1 "_law_pull" zEe YA):ZI P w K mg kj ZM 2 f fd zFc WU:=by
 refine F.ok Q7 (λvs H Q E h=>?_) (λa2 A a1 s H vs Q E I h=>?_)
 ·let⟨p,rfl,_⟩:=h;rfl
 let⟨p,rfl,W,k⟩:=h;let o:=Q7.nd;intro Xc;refine⟨_,ZL (Ze 1 o U0) (ZL (Ze 2 o U0)
  (ZL (Ze 3 o (Zf B I (Zi (pv 0) (Zi ZJ Zu))))
  (ZL (VD PassesOwn.never rfl (Oh rfl T.range (Zi (Zf B I (Zi (pv 0) (Zi (V6 Zw (Yk (Zi ZJ (Zi ZJ Zu))) (Zf B I (Zi (pv 0) (Zi ZJ Zu))) (λ_ _=>rfl)) Zu))) Zu)) (WG 4 o)
   (ZL (Ze 5 o U0)
   (ZL (Z1 (UQ (Yb Pp (pv 3) ZJ (Z8 _)) (QP (Yb UD (Zf B I (Zi (pv 0) (Zi ZJ Zu))) ZJ (Z8 _)))).pt
    (ZR (Ze 5 o (V6 GN (pv 1) (Zf B I (Zi (pv 0) (Zi (V6 Zw (Yk (Zi ZJ (Zi ZJ Zu))) (Zj P3 (pv 3) ZJ) (λ_ _=>rfl)) Zu))) (λ_ _=>rfl)))) Z2)
   (ZR (Ze 2 o (Zj ZHy (pv 2) (pv 5)))))))
  (ZR (Zh (pv 2)))))),?_⟩
 exists _,Z,p,3,Z,W,Wn (by decide) (by decide)
 intro J H1 a3 a4 W1 s1;exists _,Z,(by show 2<=ar;decide)
 intro l X;let O:ZW (upd H1 l (.lst [.int 4,.int 41])) p:=W1.same (Zl X _);exists _,Z,p,2,Z,O,Wn (by decide) (by decide)
 intro r H2 r0 r1 W2 s2;let a0:l≠p:=by
  let⟨xs,e⟩:=W1.some;exact(ZZ e X).symm
 let a:H2 l=some (.lst [.int 4,.int 41]):=s2 l _ ZX a0;let⟨v,hv,Y⟩:=Mc (x:=V.int 4) (y:=V.int 41) r0 r1;let hb:∃ z:Int,v=.int z/\0<z/\z<=41:=by
  rcases Y with e | e
  ·exact⟨4,e,by decide,by decide⟩
  ·exact⟨41,e,by decide,by decide⟩
 let⟨z,rfl,z0,z1⟩:=hb;exists l,_,_,_,Z,Z,ZF.of a,hv,p,z,Z,W2,Wn z0 ∅
 intro n H3 n0 n1 W3 s3;let sA:ZK p H H3:=(s1.trans (ZK.of (Zl X _))).trans (s2.trans s3);refine⟨n,Z,∅,∅,Nz (n:=n.toNat) (λi σ t=>∃(x:Str)(j g:jg),σ=[some (.ref p),some (.str Yh),some (.str x),some (.int J),j,g]/\WS x i/\ZW t p/\ZK p H t)
  ⟨"",none,none,Z,⟨by decide,by decide⟩,W3,sA⟩ ?_ ?_⟩
 ·rintro i σ t hi ⟨x,j,g,rfl,N,C,q⟩;let m:∀(c:Nat)(b:Hp),QQ c=true->ZW b p->ZK p H b->∃(y:Str)(j g:jg),[some (V.ref p),some (.str Yh),some (.str (x++(⟨#[c]⟩:Str))),some (.int J),some (.int (0+(i:Int))),some (.str ⟨#[c]⟩)]=[some (.ref p),some (.str Yh),some (.str y),some (.int J),j,g]/\WS y (i+1)/\ZW b p/\ZK p H b:=
   λc b G D L=>⟨_,_,_,Z,N.more G,D,L⟩
  let d:∀ c:Nat,x.length+(⟨#[c]⟩:Str).length<=sizeLine:=λc=>by
   let h1:x.length<=i:=N.1;let h2:(⟨#[c]⟩:Str).length=1:=rfl;rw[h2];exact nn ∅
  let M:∀ b,ZW b p->ZK p H b->∃(v:Int),0<v/\v<=94/\We [V.int 94,V.int 5] (J / 2)=some (.int v):=λb _ _=>by
   let⟨v,e,h⟩:=Mc (x:=V.int 94) (y:=V.int 5) (i:=J / 2) ∅ ∅
   rcases h with rfl | rfl
   ·exact⟨94,by decide,by decide,e⟩
   ·exact⟨5,by decide,by decide,e⟩
  exists _,Z,_,_,Z,Z,_,Z;refine UI (λ_=>?_) (λ_=>?_)
  ·refine YM ?_;exists _,Z,_,Z,(by show 2<=ar;decide)
   intro l2 a;let⟨v,v0,v1,U⟩:=M t C q;exists _,Z,_,_,Z,Z,⟨by decide,by decide⟩,l2,_,_,_,Z,Z,ZF.of ZX,U,p,v,Z,C.same (Zl a _),Wn v0 ∅
   intro u b u0 u1 D L;let⟨c,S,G⟩:=GQ u0 ∅
   exists Yh,_,c,Z,Z,(by rw[GP];exact nn (by decide)),S
   exact⟨_,Z,_,Z,_,_,Z,Z,d c,m c b G D ((q.trans (ZK.of (Zl a _))).trans L)⟩
  ·refine⟨_,Z,p,8,Z,C,Wn (by decide) (by decide),λy H6 _ _ R s6=>⟨Z,_,Z,?_⟩⟩
   refine UI (λ_=>?_) (λ_=>?_)
   ·exists _,Z,_,Z,(by show 2<=ar;decide)
    intro l2 a;let⟨v,v0,v1,U⟩:=M H6 R (q.trans s6);exists _,Z,_,_,Z,Z,⟨by decide,by decide⟩,l2,_,_,_,Z,Z,ZF.of ZX,U,p,v,Z,R.same (Zl a _),Wn v0 ∅
    intro u b u0 u1 D L;let⟨c,S,G⟩:=GQ u0 ∅
    exists Yh,_,c,Z,Z,(by rw[GP];exact nn (by decide)),S
    exact⟨_,Z,_,Z,_,_,Z,Z,d c,m c b G D (((q.trans s6).trans (ZK.of (Zl a _))).trans L)⟩
   ·exact⟨_,Z,_,Z,_,_,Z,Z,d 97,m 97 H6 (by decide) R (q.trans s6)⟩
 ·rintro σ t ⟨x,j,g,rfl,N,C,q⟩;exact⟨_,Z,k x t (N.ok ∅) C q⟩
theorem P8:ZB ["_law_well_here","_law_room","_law_way"] zEg (Zc Mw):=Zs
theorem ZKu{k:Nat}:ZI P w K mg kj ZM k f fd zEg (Wh 0):=by
 let c:∀ a H Q E,¬ Wh 0 a H Q E:=λa H Q E h=>by
  let⟨p,r,_,_,d,_⟩:=h
  lia
 exact⟨λa H Q E h=>absurd h (c a H Q E),λA b s H args e a Q E _ _ _ _ h=>absurd h (c a H Q E)⟩
theorem AT{n:Nat}(F:Zg K "_law_key" "_law_key" Mw f fd)(T:Yd mg)(DP:ZA P w K mg kj 1 "_law_pull" zEe YA)(DG:ZA P w K mg kj 2 "_law_great" zEm YA)(DT:ZA P w K mg kj 2 "_law_text" zFc WU)(DK:ZA P w K mg kj (n+2) "_law_key" zEg (Wh n)):ZI P w K mg kj ZM (n+3) f fd zEg (Wh (n+1)):=by
 refine F.ok P8 (λvs H Q E h=>?_) (λa1 A a0 s H vs Q E hr h=>?_)
 ·let⟨p,r,rfl,_⟩:=h;rfl
 let⟨p,r,rfl,W,hn,k⟩:=h;let nd:=P8.nd;let q:=hr.mono (show 1<=n+2 by lia)
 let L:=hr.mono (show 2<=n+2 by lia)
 intro Xc;refine⟨_,ZL (Ze 2 nd (Zf DP q (Zi (pv 0) (Zi ZJ Zu))))
  (ZL (Z1 (Yb Ol (pv 2) ZJ (Z8 _)) (ZR (Zh (Zj Vg (Zf DP q (Zi (pv 0) (Zi ZJ Zu))) ZJ))) Z2)
  (ZL (Z1 (Yb UD (pv 2) ZJ (Z8 _)) (ZR (Zh (Zj Xg (Zj Vg (Zf DG L (Zi (pv 0) (Zi (Zj Vg (Zj Q0 ZJ (Zj Lk ZJ ZJ)) ZJ) Zu))) (Zj Lk ZJ ZJ)) ZJ))) Z2)
  (ZL (Z1 (UQ (Yb Ol (pv 2) ZJ (Z8 _)) (QP (Yb UD (pv 1) ZJ (Z8 _)))).pt (ZR (Zh (Zf DT L (Zi (pv 0) Zu)))) Z2)
  (ZR (Zh (Vf LX rfl T.tuple MZ (Zi (VJ [0,1] zEg rfl (Oh rfl T.range (Zi (Zf DP q (Zi (pv 0) (Zi ZJ Zu))) Zu)) (λ_ _ _ _ _=>Wc)
   (λ_ _ _ _ _=>Zf DK hr (Zi (pv 1) (Zi (Zj Vg (pv 2) ZJ) Zu))) ⟨rfl,.inl rfl,rfl,rfl,.inl rfl,rfl,trivial⟩) Zu))))))),?_⟩
 exists _,Z,p,8,Z,W,Wn (by decide) (by decide)
 intro y H1 y0 y1 S Y;exists _,Z,_,_,Z,Z,_,Z;refine UI (λ_=>?_) (λc1=>?_)
 ·refine⟨_,Z,p,41,Z,S,Wn (by decide) (by decide),λu j u0 u1 d C=>⟨_,_,Z,Z,?_⟩⟩
  refine k (.int (u-20)) (.int (u-20)) j (ZE.int _) ?_ d (Y.trans C);rw[KT.fits];let e:(10:Nat) ^ 60 > 1000:=by decide
  exact aJ ∅
 exists _,Z,Z,_,Z;refine UI (λ_=>?_) (λc2=>?_)
 ·exists _,Z,_,_,Z,Z,⟨by decide,by decide,by decide⟩,_,_,Z,Z,.inl ⟨by decide,by decide⟩,_,_,Z,Z,p,_,Z,S,Wn (by decide +kernel) (by decide +kernel)
  intro u j u0 u1 d C;exists _,_,Z,Z,⟨by decide,by decide,by decide⟩,_,_,Z,Z,_,_,Z,Z
  refine k _ (.int _) j (ZE.int _) ?_ d (Y.trans C);let e:((10:Int) ^ (60:Int).toNat)=((10 ^ 60:Nat):Int):=by decide +kernel
  rw[e] at u1;rw[KT.fits,e];generalize (10 ^ 60:Nat)=N at *;exact aJ ∅
 let O:WU ([.ref p]++[]) H1 Q E0:=⟨p,Z,S,λx j hx d C=>k (.str x) (.str x) j (ZE.str x) (by rw[KT.fits];exact hx) d (Y.trans C)⟩
 exists _,Z,_,_,Z,Z,_,Z;refine UI (λ_=>?_) (λ_=>?_)
 ·exact YM ⟨_,Z,O⟩
 exists _,Z,Z,_,Z;refine UI (λ_=>?_) (λc3=>?_)
 ·exact⟨_,Z,O⟩
 let r0:r≠0:=λe=>c3 (aJ (by rw[e];rfl))
 refine⟨_,Z,p,5,Z,S,Wn (by decide) (by decide),λu j u0 u1 d C=>⟨u,Z,∅,∅,?_⟩⟩
 let sB:ZK p H j:=Y.trans C;refine WT (n:=u.toNat) (λi x=>x=.int (0+(i:Int))) (λD i a c=>ZW c p/\ZK p H c/\D≠p/\H D=none/\∃ G,jX c G a/\G.length=i/\fitsL G (r-1)=true) (Ym ∅)
  (λD i a c hi _=>hi) (λD i a c x m hi _ hy=>hy) (λD a c _=>zY _) (λD J=>?_) (λD i a c x eD hl hi hx hP R hR=>?_) (λD a c eD hP=>?_)
 ·let B:D≠p:=by
   let⟨xs,e⟩:=d.some;exact(ZZ e J).symm
  let M:H D=none:=by
   cases e:H D with
   | none=>rfl
   | some o=>rw[sB D o e B] at J;cases J
  exact⟨d.same (Zl J _),sB.trans (ZK.of (Zl J _)),B,M,[],.nil,Z,by rw[fitsL]⟩
 ·let⟨U,s3,B,M,G,hk,g,X⟩:=hP;let er:(r:Int)-1=((r-1:Nat):Int):=∅
  exists _,Z,_,Z,_,_,Z,Z,p,r-1,congrArg (λz=>[V.ref p,V.int z]) er,U,by lia
  intro v t m hv ht W4 s4;let I:=s4 D _ eD B;let sD:ZK D m (upd m D (.lst (a++[v]))):=(ZK.refl D m).upd;let tD:Zt m (upd m D (.lst (a++[v]))):=sD.tups I;refine hR v m I ⟨W4.stay sD B.symm,λb o e n=>?_,B,M,G++[t],((jX.mono (s4.tupsW U) _ _ hk).append (.cons hv .nil)).mono tD _ _,by simp[g],?_⟩
  ·rw[ZQ (ZZ e M)];exact(s3.trans s4) b o e n
  ·rw[LS] at X⊢;rw[List.all_append,X];simp[ht]
 ·let⟨U,s3,B,M,G,hk,g,X⟩:=hP;refine⟨D,a,Z,.inl ⟨ZF.of eD,λl hl=>?_⟩⟩;let sl:=Zl hl (.tup a);refine k (.ref l) (.tup G) _ (.tup ZX (hk.sm sl)) ?_ (U.same sl) (s3.trans (ZK.of sl));rw[KT.fits,X,rJ,zF];exact⟨aJ ∅,aJ ∅⟩
abbrev ZQy:jp:=["_law_script","_law_k","_law_left","_law_cell","_law_digits"]
theorem Qr:ZB ZQy zEv (Zc K3):=Zs
theorem Ar(F:Zg K "_law_well" "_law_well" K3 f fd)(T:Yd mg):ZI P w K mg kj ZM 1 f fd zEv (VU K):=by
 refine F.ok Qr (λvs H Q E h=>?_) (λX A L s H vs Q E hr h=>?_)
 ·let⟨a,g,k,rfl,_⟩:=h;rfl
 let⟨a,g,k,rfl,u,hn,k0,k1,q⟩:=h;let J:=Qr.nd;intro Xc;refine⟨_,ZL (Ze 2 J (V6 Zw (Yk (Zi ZJ (Zi ZJ Zu))) (Vf J9 rfl T.int NP (Zi (Ud UD (pv 1) ZJ (Z8 _)) Zu)) (λ_ _=>rfl)))
  (ZL (Ze 3 J (V6 Zw (Zj Ph (Vf Pb rfl T.list Pe (Zi (pv 0) Zu)) (Yk (Zi ZJ Zu))) (Zj Po (pv 1) (YG (Gg rfl) rfl T.max CC (Zi ZJ (Zi (YG Xd rfl T.len XG (Zi (pv 0) Zu)) Zu)))) (λ_ _=>rfl)))
  (ZL (Ze 4 J (Zj Q0 (YG IH rfl T.abs JM (Zi (pv 3) Zu)) (Vf J9 rfl T.int NP (Zi (MV (Ud ZQb (YG IH rfl T.abs JM (Zi (pv 3) Zu)) (Zj Lk ZJ ZJ) (Z8 _)) (Lr (Ud Ol (pv 1) (YG Xd rfl T.len XG (Zi (pv 0) Zu)) (Z8 _)))) Zu))))
  (ZR (Zh (Yk (Zi (Zj Po (pv 3) ZJ) (Zi (Zj Q0 ZJ (pv 1)) (Zi (pv 4) (Zi (pv 2) Zu))))))))),?_⟩
 exists (by show 2<=ar;decide)
 intro l1 v;let O:=Zl v (.lst [V.int 240,V.int 2400]);refine⟨_,Z,Z,.inr ⟨_,Z,?_⟩⟩;obtain⟨lv,t,D⟩:∃ z:Int,We [V.int 240,V.int 2400] (if decide (V.int k=V.int 0)=true then 1 else 0)=some (.int z)/\0<=z:=by
  split
  ·exact⟨2400,Z,by decide⟩
  ·exact⟨240,Z,by decide⟩
 exists l1,_,_,_,Z,Z,ZF.of ZX,t;exists _,Z,a,_,Z,.inl (O.seq u);intro S y;let g2:=O.trans (Zl y (.lst (g.map V.int)));exists (by show 1<=ar;decide)
 intro U n;let g3:=g2.trans (Zl n (.lst [V.int 0]));let I:S≠U:=ZZ ZX n;exists S,U,_,_,Z,Z,(by rw[ZQ I];exact ZX),ZX,(by rw[zX];exact nn (by show g.length+1<=1000;lia))
 intro l4 B;let p:=g3.trans (Zl B (.lst (g.map V.int++[V.int 0])));exists _,Z,_,Z,a,_,Z,.inl (p.seq u),_,_,Z;let C:(g.map V.int).length=g.length:=zX _;generalize R:(if (((g.map V.int).length:Nat):Int) > 1 then (((g.map V.int).length:Nat):Int) else 1)=M
 let M1:1<=M/\M<=(g.length:Int)+1:=by
  rw[C] at R;rw[<-R];split <;> lia
 exists _,_,Z,Z,by lia
 let i0:0<=k % M:=vK _ ∅
 let i1:k % M<M:=vG _ ∅
 let⟨Y,r,G⟩:=IK (xs:=g.map V.int++[V.int 0]) i0 (by rw[zW,zX,vY];lia)
 obtain⟨c,rfl⟩:∃ z:Int,Y=.int z:=by
  rcases yW.mp G with m | m
  ·let⟨z,_,e⟩:=zR.mp m;exact⟨z,e.symm⟩
  ·exact⟨0,zH.mp m⟩
 exists l4,_,_,_,Z,Z,ZF.of ZX,r;let l:∀ b:Bool,0<=(if c<0 then -c else c) * (if b=true then 1 else 0):=λb=>by
  cases b
  ·simp
  ·simp;split <;> lia
 let N:∀(x:Int)(b:Bool),QE x (if b=true then 1 else 0):=λx b=>.inr (by cases b <;> exact⟨by decide,by decide⟩)
 let j:∀(z:Int)(o:Hp),0<=z->ZD H o->∀ i,o i=none->Q (.ref i) (upd o i (.lst [.int (c % 2147483647),.int (1000 * k),.int z,.int lv])):=λz o z0 W i d=>
  q i _ (W.free d) (W.trans (Zl d _)) ⟨_,_,_,_,ZX,vK _ (by decide),vG _ (by decide),z0,D⟩
 exists _,Z,_,Z,_,Z,_,Z,_,_,Z,Z,⟨by decide,by decide,by decide⟩,_,_,Z,Z,_,Z
 refine UI (λ_=>?_) (λ_=>?_)
 ·refine⟨_,Z,_,Z,a,_,Z,.inl (p.seq u),_,_,Z,Z,.inr ⟨_,Z,_,_,Z,Z,N _ _,?_⟩⟩;exists _,Z,_,_,Z,Z,(by show (0:Int)<2147483647;decide),_,Z,_,_,Z,Z,.inl ⟨by decide,by decide⟩,_,Z,_,Z,(by show 4<=ar;decide)
  intro i d;exact j _ _ (l _) p i d
 ·refine .inr ⟨_,Z,_,_,Z,Z,N _ false,?_⟩;exists _,Z,_,_,Z,Z,(by show (0:Int)<2147483647;decide),_,Z,_,_,Z,Z,.inl ⟨by decide,by decide⟩,_,Z,_,Z,(by show 4<=ar;decide)
  intro i d;exact j _ _ (l false) p i d
theorem Ah:ZB zFo zFo (Zc JJ):=Zs
theorem ZPp(F:Zg K "has_few_figures" "has_few_figures" JJ f fd)(T:Yd mg):ZI P w K mg kj ZM 1 f fd zFo U4:=by
 refine F.ok Ah (λc H Q E h=>?_) (λb A a s H c Q E g h=>?_)
 ·let⟨i,rfl,_⟩:=h;rfl
 let⟨i,rfl,q⟩:=h;intro d;exists _,ZR (Zh (Ud Ol (YG IH rfl T.abs JM (Zi (pv 0) Zu)) (Zj Lk ZJ ZJ) (Z8 _)));exists _,Z,_,Z,_,_,Z,Z,⟨by decide,by decide,by decide⟩,_,_,Z,Z
 let e:=ZPm i;rw[<-e] at q;exact q
theorem ZOY:ZB ["sign"] ["sign"] (Zc Ji):=Zs
theorem ZN5(F:Zg K "is_sign" "is_sign" Ji f fd):ZI P w K mg kj ZM 1 f fd ["sign"] VM:=by
 refine F.ok ZOY (λk H Q E h=>?_) (λi A d s H k Q E m h=>?_)
 ·let⟨c,rfl,_⟩:=h;rfl
 let⟨c,rfl,q⟩:=h;intro l;exists _,ZR (Zh (Am Dz Dz U0 (pv 0) U0));let g:(wY " ").cps.toList=[32]:=by decide +kernel
 let j:(wY "~").cps.toList=[126]:=by decide +kernel
 let e:=ZL8 c;exists _,Z,_,_,Z,Z,_,Z;refine UI (λb=>?_) (λb=>?_)
 ·exists _,_,Z,Z;let a:(!decide ([c]<[32]))=true:=by rw[<-g];exact b
  rw[a,uV] at e;rw[<-e,<-j] at q;exact q
 ·let a:(!decide ([c]<[32]))=false:=by rw[<-g];exact Bool.eq_false_iff.mpr b
  rw[a,vV] at e;rw[<-e] at q;exact q
structure ZY(K:zZ)(mg:jc)(x:Str)(st:aC)(ps:jp):Prop where
 ex:∃ f fd,Zg K x x st f fd/\Zv K fd ps []/\mg x=some (.ref f)
theorem ZY.of{P:ao}{w:aw}{K:zZ}{d:jc}{a:aD}{x:Str}{i:aC}{e:jp}{k:Nat}{g:Sp}(L:ZY K d x i e)(h:∀ f c,Zg K x x i f c->ZI P w K d a ZM k f c e g):ZA P w K d a k x e g:=by
 let⟨f,c,F,b,m⟩:=L.ex;exact⟨f,c,h f c F,b,F.kp,m⟩
theorem LW{K:zZ}{h:aD}{p:jc}{x:Str}{e:aC}{n:jp}{f:ak}{t g:jx}{u:Array (jd)}{s kV q m o ct:aj}(X:K.In h)(G:h.Ns aq p)(a:yY K aq x=some (some (.ref f)))(l:K.lookup f=some ⟨s,t,.func (xW x x (U5 e) (Ws e) (Zc e) .none kV q m g o ct),u⟩)(c:wK K o x=true)(k:yG K (.ref f)=true)(r:∀ (kV j m:aj) (g:jx) (i ct:aj) (b:je),b.length=n.length->bindArgs (xW x x (U5 e) (Ws e) (Zc e) .none kV j m g i ct) ⟨b,[]⟩=pure (n.zip b):=by first | exact(λ_ _ _ _ _ _ b d=>match b,d with | [_],_=>rfl) | exact(λ_ _ _ _ _ _ b d=>match b,d with | [_,_],_=>rfl) | exact(λ_ _ _ _ _ _ b d=>match b,d with | [_,_,_],_=>rfl) | exact(λ_ _ _ _ _ _ b d=>match b,d with | [_,_,_,_],_=>rfl) | exact(λ_ _ _ _ _ _ b d=>match b,d with | [_,_,_,_,_],_=>rfl)):ZY K p x e n:=
 ⟨f,_,Oz (st:=e) l c k,(Oz (st:=e) l c k).binds r,yB X G a⟩
theorem Fs(T:Yd mg)(L:ZY K mg "_law_key" Mw zEg)(b:ZA P w K mg kj 1 "_law_pull" zEe YA)(a:ZA P w K mg kj 2 "_law_great" zEm YA)(c:ZA P w K mg kj 2 "_law_text" zFc WU):∀ n:Nat,ZA P w K mg kj (n+2) "_law_key" zEg (Wh n)
 | 0=>L.of λ_ _ _=>ZKu
 | n+1=>L.of λ_ _ F=>AT F T b a c (Fs T L b a c n)
inductive WI(n:Nat)(b:jf)(H:Hp)(Q:VK)(_:XK):Prop
 |mk(v:V)(t:TG)(N:ak->Prop)(r:Nat)(_:b=[v,.int (r:Int)])(_:Z5 N H t v)(_:t.neat)(_:r<n)(_:∀ a,ZD H a->Q (.bl (t.fits r)) a)
inductive Xo(b:jf)(H:Hp)(Q:VK)(_:XK):Prop
 |mk(v:V)(t:TG)(N:ak->Prop)(_:b=[v])(_:Z5 N H t v)(_:t.neat)(_:∀ a,ZD H a->Q (.bl (t.fits 3)) a)
theorem ML{d:Sp}{k:Nat}{e:jp}(c:∀ a H Q E,¬ d a H Q E):ZI P w K mg kj ZM k f fd e d:=
 ⟨λa H Q E h=>absurd h (c a H Q E),λA b s H args g a Q E _ _ _ _ h=>absurd h (c a H Q E)⟩
theorem ZPH:ZB zE3 zE3 (Zc M6):=Zs
theorem AF{n:Nat}(F:Zg K "fits" "fits" M6 f fd)(T:Yd mg)(DW:ZA P w K mg kj 1 "has_few_figures" zFo U4)(DS:ZA P w K mg kj 1 "is_sign" ["sign"] VM)(DF:ZA P w K mg kj (n+1) "fits" zE3 (WI n)):ZI P w K mg kj ZM (n+2) f fd zE3 (WI (n+1)):=by
 refine F.ok ZPH (λp H Q E h=>?_) (λa3 A a2 s H p Q E hr h=>?_)
 ·let⟨v,t,N,r,rfl,_⟩:=h;rfl
 let⟨v,t,N,r,rfl,B,X,hn,k⟩:=h;let U:=hr.mono (show 1<=n+1 by lia)
 let⟨t1,m1⟩:=T.signs;let⟨t2,m2⟩:=T.things;intro Xc;refine⟨_,ZL (Z1 (Xw (YG OH rfl T.isi Py (Zi (pv 0) (Zi (OE (v:=.ty "bool") rfl T.bool ZM5 rfl) Zu)))) (ZR (Zh ME)) Z2)
  (ZL (Z1 (Xw (YG OH rfl T.isi Py (Zi (pv 0) (Zi (OE (v:=.ty "int") rfl T.int NP rfl) Zu)))) (ZR (Zh (Zf DW U (Zi (pv 0) Zu)))) Z2)
  (ZL (Z1 (Xw (YG OH rfl T.isi Py (Zi (pv 0) (Zi (OE (v:=.ty "str") rfl T.str JX rfl) Zu))))
   (ZR (Zh (MV (Ud Qc (YG ZFi rfl T.len XG (Zi (pv 0) Zu)) (Wt (v:=.int 40) rfl m1 ⟨_,rfl⟩) (Z8 _))
    (Lr (YG (HN rfl) rfl T.all Jd (Zi (VJ [] [] rfl (An (pv 0)) (λ_ _ _ _ _=>Wc) (λ_ _ _ _ _=>Zf DS U (Zi (pv 0) Zu)) trivial) Zu)))))) Z2)
  (ZL (Z1 (Xw (YG OH rfl T.isi Py (Zi (pv 0) (Zi (OE (v:=.ty "tuple") rfl T.tuple MZ rfl) Zu))))
   (ZR (Zh (MV (Ud Pp (pv 1) ZJ (Z8 _)) (MV (Ud Qc (YG Xd rfl T.len XG (Zi (pv 0) Zu)) (Wt (v:=.int 4) rfl m2 ⟨_,rfl⟩) (Z8 _))
    (Lr (YG (HN rfl) rfl T.all Jd (Zi (VJ [1] ["room"] rfl (KG (pv 0)) (λ_ _ _ _ _=>Wc) (λ_ _ _ _ _=>Zf DF hr (Zi (pv 0) (Zi (Zj Vg (pv 1) ZJ) Zu))) ⟨rfl,.inl rfl,rfl,trivial⟩) Zu))))))) Z2)
  (ZR (Zh ME))))),?_⟩
 cases t with
 | int i=>
  let ev:v=.int i:=by rw[Z5] at B;exact B
  subst ev;refine⟨_,Z,_,_,_,_,Z,.int i,ZO6,_,Z,Zo ?_⟩;refine⟨_,Z,_,_,_,_,Z,.int i,Hh,_,Z,YM ?_⟩;let d:=k H (ZD.refl H);rw[TG.fits] at d;exact⟨_,Z,i,Z,d⟩
 | str x=>
  let ev:v=.str x:=by rw[Z5] at B;exact B
  subst ev;let S:x.length<=1000:=by rw[TG.neat] at X;exact X
  refine⟨_,Z,_,_,_,_,Z,.str x,ZPE,_,Z,Zo ?_⟩;refine⟨_,Z,_,_,_,_,Z,.str x,Iw,_,Z,Zo ?_⟩;refine⟨_,Z,_,_,_,_,Z,.str x,Ic,_,Z,YM ?_⟩;exists _,Z,x,Z,nn S,_,_,Z,Z,_,Z;refine UI (λc=>?_) (λc=>?_)
  ·let u:x.length<=40:=by have:=of_decide_eq_true c;lia
   exists _,Z,x,Z;let a6:x.cps.size<=40:=u;refine WT (n:=x.cps.size) (λi z=>∃ c,x.cps[i]? = some c/\z=.str ⟨#[c]⟩) (λD i m g=>ZD H g/\H D=none/\m=((x.cps.toList.take i).map QQ).map V.bl) (Ym ∅)
    (λD i m g J _=>J) (λD i m g z H4 J _ Y=>Y) (λD m g _=>rfl) (λD O=>⟨Zl O _,O,Z⟩) (λD i m g z I hl J hz j R hR=>?_) (λD m g I j=>?_)
   ·let⟨c,hc,rfl⟩:=hz;let⟨G,L,rfl⟩:=j;exists _,Z,c,Z;refine hR _ g I ⟨λb o e=>by rw[ZQ (ZZ e L)];exact G b o e,L,?_⟩
    let a0:x.cps.toList[i]? = some c:=by simpa using hc
    rw[yS,a0];simp
   ·let⟨G,L,rfl⟩:=j;exists D,_,Z,ZF.of I;let d:=k g G;let M:(x.cps.toList.take x.cps.size)=x.cps.toList:=zE (by simp)
    let C:(x.cps.toList.map QQ).all id=(TG.str x).fits r:=by
     rw[TG.fits,uE];unfold Pm;rw[aJ u,uV];rfl
    rw[M,C];exact d
  ·let u:¬ x.length<=40:=λz=>c (aJ ∅)
   let d:=k H (ZD.refl H);rw[TG.fits] at d;unfold Pm at d;rw[aI u,vV] at d;exact d
 | tup l=>
  rw[Z5] at B;let⟨a,p,rfl,C,W⟩:=B;let hl:=W.length;rw[TG.neat] at X;let⟨a5,a1⟩:=X;let q:XC K H (.ref a) (.type "tuple"):=.tup C;refine⟨_,Z,_,_,_,_,Z,q,BT,_,Z,Zo ?_⟩;refine⟨_,Z,_,_,_,_,Z,q,JZ,_,Z,Zo ?_⟩;refine⟨_,Z,_,_,_,_,Z,q,HR,_,Z,Zo ?_⟩;refine⟨_,Z,_,_,_,_,Z,q,ZOW,_,Z,YM ?_⟩;exists _,Z,_,_,Z,Z,_,Z;refine UI (λc1=>?_) (λc1=>?_)
  ·let r0:0<r:=by
    have:=of_decide_eq_true c1
    lia
   exists _,Z,a,p,Z,.inr (Zm.of C),_,_,Z,Z,_,Z;refine UI (λc2=>?_) (λc2=>?_)
   ·let l4:l.length<=4:=by
     have:=of_decide_eq_true c2
     lia
    exists _,Z,a,Z,⟨p,Zm.of C⟩;refine WT (n:=p.length) (λi z=>p[i]? = some z) (λD i m g=>ZD H g/\H D=none/\m=((l.take i).map λt=>t.fits (r-1)).map V.bl) (Ym ∅)
     (λD i m g J j=>⟨p,p[i],Zm.of (j.1 _ _ C),by simp[J]⟩) (λD i m g z H4 J j Y=>⟨Y.1,Y.2 p (Zm.of (j.1 _ _ C))⟩) (λD m g j=>⟨p,Zm.of (j.1 _ _ C),zY _⟩)
     (λD O=>⟨Zl O _,O,Z⟩) (λD i m g z I a4 J hz j R hR=>?_) (λD m g I j=>?_)
    ·let⟨G,L,rfl⟩:=j;let⟨t,M,kt⟩:=W.get hz;let er:(r:Int)-1=((r-1:Nat):Int):=∅
     exists _,Z,_,Z,_,_,Z,Z,z,t,N,r-1,congrArg (λy=>[z,V.int y]) er,kt.mono (Vp.same G) _ _,Hx a1 (zJ M),by lia
     intro H4 s4;refine hR _ H4 (s4 D _ I) ⟨λb o e=>by rw[ZQ (ZZ e L)];exact s4 b o (G b o e),L,?_⟩
     rw[yS,M];simp
    ·let⟨G,L,rfl⟩:=j;exists D,_,Z,ZF.of I;let d:=k g G;rw[TG.fits,aJ r0,uV,aJ l4,uV,CZ] at d;let M:l.take p.length=l:=zE ∅
     rw[M,uE];exact d
   ·let l4:¬ l.length<=4:=λz=>c2 (aJ ∅)
    let d:=k H (ZD.refl H);rw[TG.fits,aI l4,vV,tN] at d;exact d
  ·let r0:¬ 0<r:=λz=>c1 (aJ ∅)
   let d:=k H (ZD.refl H);rw[TG.fits,aI r0,vV] at d;exact d
 | odd n'=>
  rw[Z5] at B;let q:XC K H v (.type n'):=B.ty;let⟨b,kb,kr⟩:=ZMw (K:=K) B;let d:=k H (ZD.refl H);rw[TG.fits] at d
  cases b with
  | true=>exact⟨_,Z,_,_,_,_,Z,q,kb,_,Z,YM d⟩
  | false=>
   let⟨k1,k2,k3⟩:=kr Z;refine⟨_,Z,_,_,_,_,Z,q,kb,_,Z,Zo ?_⟩;refine⟨_,Z,_,_,_,_,Z,q,k1,_,Z,Zo ?_⟩;refine⟨_,Z,_,_,_,_,Z,q,k2,_,Z,Zo ?_⟩;refine⟨_,Z,_,_,_,_,Z,q,k3,_,Z,Zo ?_⟩;exact d
theorem Ey(T:Yd mg)(L:ZY K mg "fits" M6 zE3)(b:ZA P w K mg kj 1 "has_few_figures" zFo U4)(a:ZA P w K mg kj 1 "is_sign" ["sign"] VM):∀ n:Nat,ZA P w K mg kj (n+1) "fits" zE3 (WI n)
 | 0=>L.of λ_ _ _=>ML λd H Q E h=>by let⟨v,t,N,r,_,_,_,c,_⟩:=h;lia
 | n+1=>L.of λ_ _ F=>AF F T b a (Ey T L b a n)
theorem C4:ZB zEo zEo (Zc Ip):=Zs
theorem Bn(F:Zg K "is_key" "is_key" Ip f fd)(T:Yd mg)(b:ZA P w K mg kj 5 "fits" zE3 (WI 4)):ZI P w K mg kj ZM 6 f fd zEo Xo:=by
 refine F.ok C4 (λj H Q E h=>?_) (λc A a s H j Q E e h=>?_)
 ·let⟨v,t,N,rfl,_⟩:=h;rfl
 let⟨v,t,N,rfl,g,d,k⟩:=h;let⟨m,i⟩:=T.deep;intro l;exists _,ZR (Zh (Zf b e (Zi (pv 0) (Zi (Wt (v:=.int 3) rfl i ⟨_,rfl⟩) Zu))));exact⟨_,Z,v,t,N,3,Z,g,d,by decide,k⟩
inductive UF(n:Nat)(c:jf)(H:Hp)(Q:VK)(_:XK):Prop
 |mk(v:V)(t:KT)(q:Nat)(_:c=[v])(_:ZE H t v)(_:t.fits q=true)(_:t.depth<n)(_:∀(b:V)(a:Hp),ZE a t.st b->ZD H a->Q b a)
inductive Yy(d:jf)(H:Hp)(Q:VK)(_:XK):Prop
 |mk(v u:V)(a b:KT)(_:d=[v,u])(_:ZE H a v)(_:ZE H b u)(_:a.fits 3=true)(_:b.fits 3=true)(_:∀ c,ZD H c->Q (.bl (a.lt b)) c)
theorem ZHr:ZB zFl zFl (Zc Lc):=Zs
theorem ZOB{k:Nat}:ZI P w K mg kj ZM k f fd zFl (UF 0):=by
 let c:∀ a H Q E,¬ UF 0 a H Q E:=λa H Q E h=>by
  let⟨v,t,q,_,_,_,d,_⟩:=h
  lia
 exact⟨λa H Q E h=>absurd h (c a H Q E),λA b s H args e a Q E _ _ _ _ h=>absurd h (c a H Q E)⟩
theorem ZGF{n:Nat}(F:Zg K "standing" "standing" Lc f fd)(T:Yd mg)(DS:ZA P w K mg kj (n+1) "standing" zFl (UF n)):ZI P w K mg kj ZM (n+2) f fd zFl (UF (n+1)):=by
 refine F.ok ZHr (λg H Q E h=>?_) (λa2 A a1 s H g Q E hr h=>?_)
 ·let⟨v,t,q,rfl,_⟩:=h;rfl
 let⟨v,t,q,rfl,d,hq,hn,k⟩:=h;intro Xc;refine⟨_,ZL (Z1 (Xw (YG OH rfl T.isi Py (Zi (pv 0) (Zi (OE (v:=.ty "int") rfl T.int NP rfl) Zu)))) (ZR (Zh (WC (Zi ZJ (Zi (pv 0) Zu))))) Z2)
  (ZL (Z1 (Xw (YG OH rfl T.isi Py (Zi (pv 0) (Zi (OE (v:=.ty "str") rfl T.str JX rfl) Zu)))) (ZR (Zh (WC (Zi ZJ (Zi (pv 0) Zu))))) Z2)
  (ZR (Zh (WC (Zi ZJ (Zi (Vf LX rfl T.tuple MZ (Zi (VJ [] [] rfl (KG (pv 0)) (λ_ _ _ _ _=>Wc) (λ_ _ _ _ _=>Zf DS hr (Zi (pv 0) Zu)) trivial) Zu)) Zu)))))),?_⟩
 cases t with
 | int i=>
  let N:v=.int i:=by rw[ZE] at d;exact d
  subst N;refine⟨_,Z,_,_,_,_,Z,d.ty,Hh,_,Z,YM ?_⟩;exists _,Z,(by show 2<=ar;decide)
  intro p U;refine k _ _ ?_ (Zl U _);rw[KT.st];exact .tup ZX (.cons (.int 0) (.cons (.int i) .nil))
 | str x=>
  let N:v=.str x:=by rw[ZE] at d;exact d
  subst N;refine⟨_,Z,_,_,_,_,Z,d.ty,Iw,_,Z,Zo ?_⟩;refine⟨_,Z,_,_,_,_,Z,d.ty,Ic,_,Z,YM ?_⟩;exists _,Z,(by show 2<=ar;decide)
  intro p U;refine k _ _ ?_ (Zl U _);rw[KT.st];exact .tup ZX (.cons (.int 1) (.cons (.str x) .nil))
 | tup l=>
  let C:=d;rw[ZE] at C;let⟨a,g,rfl,I,G⟩:=C;let hl:=G.length;rw[KT.fits,zF,zF] at hq;let⟨a6,X,B⟩:=hq;let a5:l.length<=4:=of_decide_eq_true X;rw[KT.depth] at hn;refine⟨_,Z,_,_,_,_,Z,d.ty,JZ,_,Z,Zo ?_⟩;refine⟨_,Z,_,_,_,_,Z,d.ty,HR,_,Z,Zo ?_⟩;exists _,Z,a,Z,⟨g,Zm.of I⟩;refine WT (n:=g.length) (λi z=>g[i]? = some z) (λD i m r=>ZD H r/\H D=none/\jX r ((l.take i).map KT.st) m) (Ym ∅)
   (λD i m r S j=>⟨g,g[i],Zm.of (j.1 _ _ I),by simp[S]⟩) (λD i m r z u S j hy=>⟨hy.1,hy.2 g (Zm.of (j.1 _ _ I))⟩) (λD m r j=>⟨g,Zm.of (j.1 _ _ I),zY _⟩)
   (λD hD=>⟨Zl hD _,hD,.nil⟩) (λD i m r z M a4 S hz j R hR=>?_) (λD m r M j=>?_)
  ·let⟨L,nD,c⟩:=j;let⟨t,J,kt⟩:=G.get hz;let mt:=zJ J;let Y:t.fits (q-1)=true:=by
    rw[LS] at B;exact xY.mp B t mt
   let a3:=PY mt;exists _,Z,z,t,q-1,Z,kt.sm L,Y,by lia
   intro v' u k4 s4;let y:=s4 D _ M;let tD:Zt u (upd u D (.lst (m++[v']))):=(ZK.refl D u).upd.tups y;refine hR v' u y ⟨λb o e=>by rw[ZQ (ZZ e nD)];exact s4 b o (L b o e),nD,?_⟩
   rw[yS,J,zD];exact((c.sm s4).append (.cons k4 .nil)).mono tD _ _
  ·let⟨L,nD,c⟩:=j;let J:l.take g.length=l:=zE ∅
   rw[J] at c;let a0:=c.length;rw[zX] at a0;refine⟨D,m,Z,.inl ⟨ZF.of M,λp1 V=>?_⟩⟩;let g1:=Zl V (.tup m);exists (by show 2<=ar;decide)
   intro p2 W;let O:=Zl W (.tup [.int 2,.ref p1]);refine k _ _ ?_ ((L.trans g1).trans O);rw[KT.st,FP];exact .tup ZX (.cons (.int 2) (.cons (.tup (O _ _ ZX) (c.sm (g1.trans O))) .nil))
theorem Hy(T:Yd mg)(L:ZY K mg "standing" Lc zFl):∀ n:Nat,ZA P w K mg kj (n+1) "standing" zFl (UF n)
 | 0=>L.of λ_ _ _=>ZOB
 | n+1=>L.of λ_ _ F=>ZGF F T (Hy T L n)
theorem ZNu:ZB zEs zEs (Zc Kx):=Zs
theorem ZLC(F:Zg K "ahead" "ahead" Kx f fd)(e:ZA P w K mg kj 6 "standing" zFl (UF 5)):ZI P w K mg kj ZM 7 f fd zEs Yy:=by
 refine F.ok ZNu (λt H Q E h=>?_) (λn A d s H t Q E c h=>?_)
 ·let⟨v,u,a,b,rfl,_⟩:=h;rfl
 let⟨v,u,a,b,rfl,o,p,g,i,k⟩:=h;intro y;exists _,ZR (Zh (Ud (ZO9 c) (Zf e c (Zi (pv 0) Zu)) (Zf e c (Zi (pv 1) Zu)) (Z8 _)));let z:=Vv a 3 g;let B:=Vv b 3 i;let C:=Cr a;exists _,Z,v,a,3,Z,o,g,by lia
 intro D x q j;exists _,Z,u,b,3,Z,p.sm j,i,by lia
 intro G m r l;exists a.st,b.st,q.sm l,r,D9 a b,by lia
 rw[Dj];exact k m (j.trans l)
mutual
def KT.rk:KT->KT
 | .int i=>.tup [.int 0,.int i,.str "",.tup []]
 | .str x=>.tup [.int 1,.int 0,.str x,.tup []]
 | .tup l=>.tup [.int 2,.int 0,.str "",.tup (rkL l)]
def rkL:jo->jo
 | []=>[]
 | t::l=>t.rk::rkL l
end
theorem Eb:∀ l:jo,rkL l=l.map KT.rk
 | []=>by rw[rkL];rfl
 | t::l=>by rw[rkL,Eb l];rfl
mutual
theorem EC:∀ a b:KT,a.rk.eqb b.rk=a.eqb b
 | .int i,.int j=>by simp[KT.rk,KT.eqb,jZ]
 | .str x,.str y=>by simp[KT.rk,KT.eqb,jZ]
 | .tup l,.tup m=>by simp[KT.rk,KT.eqb,jZ,eqbL_rk l m]
 | .int _,.str _=>by simp[KT.rk,KT.eqb,jZ]
 | .int _,.tup _=>by simp[KT.rk,KT.eqb,jZ]
 | .str _,.int _=>by simp[KT.rk,KT.eqb,jZ]
 | .str _,.tup _=>by simp[KT.rk,KT.eqb,jZ]
 | .tup _,.int _=>by simp[KT.rk,KT.eqb,jZ]
 | .tup _,.str _=>by simp[KT.rk,KT.eqb,jZ]
theorem eqbL_rk:∀ l m:jo,jZ (rkL l) (rkL m)=jZ l m
 | [],[]=>by simp[rkL,jZ]
 | a::l,b::m=>by simp[rkL,jZ,EC a b,eqbL_rk l m]
 | [],_::_=>by simp[rkL,jZ]
 | _::_,[]=>by simp[rkL,jZ]
end
mutual
theorem Cm:∀ a b:KT,a.rk.cmp b.rk=true
 | .int i,.int j=>by simp[KT.rk,KT.eqb,KT.cmp,cmpL,jZ]
 | .str x,.str y=>by simp[KT.rk,KT.eqb,KT.cmp,cmpL,jZ]
 | .tup l,.tup m=>by simp[KT.rk,KT.eqb,KT.cmp,cmpL,cmpL_rk l m]
 | .int _,.str _=>by simp[KT.rk,KT.eqb,KT.cmp,cmpL]
 | .int _,.tup _=>by simp[KT.rk,KT.eqb,KT.cmp,cmpL]
 | .str _,.int _=>by simp[KT.rk,KT.eqb,KT.cmp,cmpL]
 | .str _,.tup _=>by simp[KT.rk,KT.eqb,KT.cmp,cmpL]
 | .tup _,.int _=>by simp[KT.rk,KT.eqb,KT.cmp,cmpL]
 | .tup _,.str _=>by simp[KT.rk,KT.eqb,KT.cmp,cmpL]
theorem cmpL_rk:∀ l m:jo,cmpL (rkL l) (rkL m)=true
 | [],_=>by simp[rkL,cmpL]
 | _::_,[]=>by simp[rkL,cmpL]
 | a::l,b::m=>by
  rw[rkL,rkL,cmpL,cmpL_rk l m,Cm a b];split <;> rfl
end
mutual
theorem GY:∀ a b:KT,a.rk.plt b.rk=a.lt b
 | .int i,.int j=>by
  simp only[KT.rk,KT.eqb,KT.plt,pltL,jZ,KT.lt,beq_self_eq_true,if_true];by_cases h:i=j
  ·subst h;simp
  ·simp[h]
 | .str x,.str y=>by
  simp only[KT.rk,KT.eqb,KT.plt,pltL,jZ,KT.lt,beq_self_eq_true,if_true];by_cases h:x=y
  ·subst h;simp
  ·simp[h]
 | .tup l,.tup m=>by
  simp only[KT.rk,KT.eqb,KT.plt,pltL,KT.lt,beq_self_eq_true,if_true,eqbL_rk,pltL_rk l m]
  cases h:jZ l m with
  | true=>rw[aM rfl,Em h]
  | false=>rw[aK zT]
 | .int _,.str _=>by simp[KT.rk,KT.eqb,KT.plt,pltL,KT.lt]
 | .int _,.tup _=>by simp[KT.rk,KT.eqb,KT.plt,pltL,KT.lt]
 | .str _,.int _=>by simp[KT.rk,KT.eqb,KT.plt,pltL,KT.lt]
 | .str _,.tup _=>by simp[KT.rk,KT.eqb,KT.plt,pltL,KT.lt]
 | .tup _,.int _=>by simp[KT.rk,KT.eqb,KT.plt,pltL,KT.lt]
 | .tup _,.str _=>by simp[KT.rk,KT.eqb,KT.plt,pltL,KT.lt]
theorem pltL_rk:∀ l m:jo,pltL (rkL l) (rkL m)=ltL l m
 | [],[]=>by simp[rkL,pltL,ltL]
 | [],_::_=>by simp[rkL,pltL,ltL]
 | _::_,[]=>by simp[rkL,pltL,ltL]
 | a::l,b::m=>by rw[rkL,rkL,pltL,ltL,EC a b,pltL_rk l m,GY a b]
end
mutual
theorem FV:∀ t:KT,t.rk.depth<=2 * t.depth+2
 | .int i=>by simp[KT.rk,KT.depth,kc]
 | .str x=>by simp[KT.rk,KT.depth,kc]
 | .tup l=>by
  have:=depthL_rk l;simp only[KT.rk,KT.depth,kc]
  lia
theorem depthL_rk:∀ l:jo,kc (rkL l)<=2 * kc l+2
 | []=>by simp[rkL,kc]
 | t::l=>by
  let a:=FV t;let b:=depthL_rk l;rw[rkL,kc,kc]
  lia
end
inductive WX(n:Nat)(c:jf)(H:Hp)(Q:VK)(_:XK):Prop
 |mk(v:V)(t:KT)(q:Nat)(_:c=[v])(_:ZE H t v)(_:t.fits q=true)(_:t.depth<n)(_:∀(b:V)(a:Hp),ZE a t.rk b->ZD H a->Q b a)
theorem Ak:ZB zE1 zE1 (Zc Lf):=Zs
theorem ZNB{n:Nat}(F:Zg K "_law_rank" "_law_rank" Lf f fd)(T:Yd mg)(DS:ZA P w K mg kj (n+1) "_law_rank" zE1 (WX n)):ZI P w K mg kj ZM (n+2) f fd zE1 (WX (n+1)):=by
 refine F.ko Ak λa5 A a4 s H j Q E hr h=>?_;let⟨v,t,q,rfl,d,hq,hn,k⟩:=h;intro Xc;refine⟨_,ZL (Z1 (Xw (YG OH rfl T.isi Py (Zx (pv 0) (OE (v:=.ty "int") rfl T.int NP rfl)))) (ZR (Zh (WC (Uu ZJ (pv 0) U0 (WC Zu))))) Z2)
  (ZL (Z1 (Xw (YG OH rfl T.isi Py (Zx (pv 0) (OE (v:=.ty "str") rfl T.str JX rfl)))) (ZR (Zh (WC (Uu ZJ ZJ (pv 0) (WC Zu))))) Z2)
  (ZR (Zh (WC (Uu ZJ ZJ U0 (Vf LX rfl T.tuple MZ (ZS (VJ [] [] rfl (KG (pv 0)) (λ_ _ _ _ _=>Wc) (λ_ _ _ _ _=>Zf DS hr (ZS (pv 0))) trivial)))))))),?_⟩
 cases t with
 | int i=>
  let O:v=.int i:=by rw[ZE] at d;exact d
  subst O;refine⟨_,Z,_,_,_,_,Z,d.ty,Hh,_,Z,YM ?_⟩;refine⟨_,Z,(by show 0<=ar;decide),λp0 V=>⟨(by show 4<=ar;decide),λp X=>?_⟩⟩
  let S:=Zl V (.tup []);let r:=Zl X (.tup [.int 0,.int i,.str "",.ref p0]);refine k _ _ ?_ (S.trans r);rw[KT.rk];exact .tup ZX (.cons (.int 0) (.cons (.int i) (.cons (.str _) (.cons (.tup (r _ _ ZX) .nil) .nil))))
 | str x=>
  let O:v=.str x:=by rw[ZE] at d;exact d
  subst O;refine⟨_,Z,_,_,_,_,Z,d.ty,Iw,_,Z,Zo ?_⟩;refine⟨_,Z,_,_,_,_,Z,d.ty,Ic,_,Z,YM ?_⟩;refine⟨_,Z,(by show 0<=ar;decide),λp0 V=>⟨(by show 4<=ar;decide),λp X=>?_⟩⟩
  let S:=Zl V (.tup []);let r:=Zl X (.tup [.int 1,.int 0,.str x,.ref p0]);refine k _ _ ?_ (S.trans r);rw[KT.rk];exact .tup ZX (.cons (.int 1) (.cons (.int 0) (.cons (.str x) (.cons (.tup (r _ _ ZX) .nil) .nil))))
 | tup l=>
  let G:=d;rw[ZE] at G;let⟨a,j,rfl,J,I⟩:=G;let hl:=I.length;rw[KT.fits,zF,zF] at hq;let⟨a9,a1,C⟩:=hq;let a8:l.length<=4:=of_decide_eq_true a1;rw[KT.depth] at hn;refine⟨_,Z,_,_,_,_,Z,d.ty,JZ,_,Z,Zo ?_⟩;refine⟨_,Z,_,_,_,_,Z,d.ty,HR,_,Z,Zo ?_⟩;exists _,Z,a,Z,⟨j,Zm.of J⟩;refine WT (n:=j.length) (λi z=>j[i]? = some z) (λD i m u=>ZD H u/\H D=none/\jX u ((l.take i).map KT.rk) m) (Ym ∅)
   (λD i m u W g=>⟨j,j[i],Zm.of (g.1 _ _ J),by simp[W]⟩) (λD i m u z y W g hy=>⟨hy.1,hy.2 j (Zm.of (g.1 _ _ J))⟩) (λD m u g=>⟨j,Zm.of (g.1 _ _ J),zY _⟩)
   (λD hD=>⟨Zl hD _,hD,.nil⟩) (λD i m u z N a7 W hz g R hR=>?_) (λD m u N g=>?_)
  ·let⟨M,nD,c⟩:=g;let⟨t,L,kt⟩:=I.get hz;let mt:=zJ L;let a2:t.fits (q-1)=true:=by
    rw[LS] at C;exact xY.mp C t mt
   let a6:=PY mt;exists _,Z,z,t,q-1,Z,kt.sm M,a2,by lia
   intro v' y k4 s4;let B:=s4 D _ N;let tD:Zt y (upd y D (.lst (m++[v']))):=(ZK.refl D y).upd.tups B;refine hR v' y B ⟨λb o e=>by rw[ZQ (ZZ e nD)];exact s4 b o (M b o e),nD,?_⟩
   rw[yS,L,zD];exact((c.sm s4).append (.cons k4 .nil)).mono tD _ _
  ·let⟨M,nD,c⟩:=g;let L:l.take j.length=l:=zE ∅
   rw[L] at c;let a3:=c.length;rw[zX] at a3;refine⟨D,m,Z,.inl ⟨ZF.of N,λp1 Y=>?_⟩⟩;let r:=Zl Y (.tup m);exists (by show 4<=ar;decide)
   intro p2 a0;let U:=Zl a0 (.tup [.int 2,.int 0,.str "",.ref p1]);refine k _ _ ?_ ((M.trans r).trans U);rw[KT.rk,Eb];exact .tup ZX (.cons (.int 2) (.cons (.int 0) (.cons (.str _) (.cons (.tup (U _ _ ZX) (c.sm (r.trans U))) .nil))))
theorem Gi(T:Yd mg)(L:ZY K mg "_law_rank" Lf zE1):∀ n:Nat,ZA P w K mg kj (n+1) "_law_rank" zE1 (WX n)
 | 0=>L.of λ_ _ _=>ML λb H Q E h=>by let⟨v,t,q,_,_,_,a,_⟩:=h;lia
 | n+1=>L.of λ_ _ F=>ZNB F T (Gi T L n)
end Tw
namespace Tw
open PySem PySem.Spec L2 PyProof.Rows
theorem ZQR:Kg KT.rk:=⟨GY,Cm,3,λt=>by cases t <;> (rw[KT.rk];exact⟨_,_,Z,Z⟩)⟩
def OI(c:jo):Prop:=c.Pairwise λa b=>a.lt b=true
theorem ZPI{c:jo}(d:c.Nodup)(h:c.Pairwise λa b=>b.lt a=false):OI c:=by
 induction c with
 | nil=>exact .nil
 | cons a c g=>
  rw[xU] at d;rw[xK] at h;refine xK.mpr ⟨λb f=>?_,g d.2 h.2⟩
  cases q:a.lt b with
  | true=>rfl
  | false=>
   let e:=N1 a b q (h.1 b f);exact absurd (e ▸ f) d.1
theorem Dc{k:Nat}{A:ax}(r:ZU k A):A.units+4<cLine:=by have:=r.un;lia
section
open PySem.SeqAt
open PySem.AutoSeq1 (wpAny_loadPart')
open PySem.MeetsSeq PySem.MeetsSeq2 PySem.MeetsSeq3
end
theorem M9{H:Hp}{p q:ak}(W:ZW H p)(h:H q=none):q≠p:=λz=>by
 let⟨a,e⟩:=W.some;rw[z,e] at h;cases h
end Tw
namespace L2
open PySem PySem.Spec PyProof.Rows
inductive Pd(b:zZ)(c:jf)(H:Hp)(Q:VK):Prop
 |mk(p:ak)(a:jy)(_:c=[.ref p])(_:ZF b H p (a.map V.int))(_:Q (.int a.sum) H)
theorem ZPh(g:X.calm=true):Va X (.builtin "sum") (Pd X.K):=by
 intro d s A H z y Q I r h;let⟨p,c,rfl,j,q⟩:=h;let⟨u,rfl,m⟩:=UV r;cases m;let⟨k,n,l,x⟩:=I.list j;let a:=ZHo n;let⟨v,e⟩:=a.allInts.items;let b:=l.isList;rw[e] at b;let f:v.toList.map (·.1)=c:=by
  rw[<-nums_intItems,<-e];exact a.numsOf
 refine sum_intListG (I.ok.hd g) b λw t o i=>⟨.int c.sum,H,I.kept (t':=t) i,⟨o,?_⟩,q⟩;rw[preSum_eq,zE (by simp),f]
end L2
namespace Tw
open PySem PySem.Spec L2 PyProof.Rows
variable{kg kh CS CT CH CK CP CB:ak}
theorem B3:ay "sum" = some (.builtin "sum"):=by decide +kernel
structure YT where
 h:Int
 lo:KT
 hi:KT
 m:Int
abbrev jF:=List YT
def YT.d:YT:=⟨0,.int 0,.int 0,0⟩
def YT.kt(L:YT):KT:=.tup [.int L.h,L.lo,L.hi,.int L.m]
inductive Z4(H:Hp)(L:YT)(u:V):Prop
 |mk(a c b:_)(_:u=.ref a)(_:H a=some (.tup [.int L.h,c,b,.int L.m]))(_:ZE H L.lo c)(_:ZE H L.hi b)
theorem Z4.mono{H d:Hp}{L:YT}{u:V}(x:Z4 H L u)(m:Zt H d):Z4 d L u:=by
 let⟨a,c,b,e,f,g,h⟩:=x;exact⟨a,c,b,e,m _ _ f,g.mono m _ _,h.mono m _ _⟩
theorem Z4.key{H:Hp}{L:YT}{u:V}(x:Z4 H L u):ZE H L.kt u:=by
 let⟨a,f,e,rfl,b,c,d⟩:=x;exact .tup b (.cons (.int _) (.cons c (.cons d (.cons (.int _) .nil))))
def Yi(H:Hp)(a:jF)(b:jf):Prop:=b.length=a.length/\∀ i u,b[i]? = some u->Z4 H (a.getD i .d) u
theorem Yi.mono{H a:Hp}{b:jF}{c:jf}(x:Yi H b c)(m:Zt H a):Yi a b c:=⟨x.1,λi u e=>(x.2 i u e).mono m⟩
def YT.fit(L:YT):Prop:=L.lo.fits 3=true/\L.hi.fits 3=true
def Qq(a b:YT):Bool:=(a.h==b.h)&&a.hi.lt b.lo
def LH(a:jF):Bool:=(yF (a.length-1)).all λj=>Qq (a.getD j .d) (a.getD (j+1) .d)
def over(a:jF):Option YT:=if 2<=a.length/\a.length<=4/\LH a=true then some ⟨(a.getD 0 .d).h+1,(a.getD 0 .d).lo,(a.getD (a.length-1) .d).hi,(a.map YT.m).sum⟩ else none
theorem ZK0{a:jF}(b:2<=a.length)(c:a.length<=4)(h:∀ j,j<a.length-1->Qq (a.getD j .d) (a.getD (j+1) .d)=true):over a=some ⟨(a.getD 0 .d).h+1,(a.getD 0 .d).lo,(a.getD (a.length-1) .d).hi,(a.map YT.m).sum⟩:=
 aM ⟨b,c,xY.mpr λj e=>h j (xO.mp e)⟩
inductive UE(d:jf)(H:Hp)(Q:VK)(_:XK):Prop
 |mk(v u:V)(a b:YT)(_:d=[v,u])(_:Z4 H a v)(_:Z4 H b u)(_:a.fit)(_:b.fit)(_:∀ c,ZD H c->Q (.bl (Qq a b)) c)
theorem BM:ZB zE4 zE4 (Zc Ik):=Zs
theorem ZMz(F:Zg K "stand_side_by_side" "stand_side_by_side" Ik f fd)(T:Yd mg)(r:ZA P w K mg kj 7 "ahead" zEs Yy):ZI P w K mg kj ZM 8 f fd zE4 UE:=by
 refine F.ko BM λB A l s H X Q E J h=>?_;let⟨v,u,a,b,rfl,G,I,C,D,k⟩:=h;let⟨U,o⟩:=T.height;let⟨V,N⟩:=T.least;let⟨W,O⟩:=T.greatest;let⟨p,x,c,rfl,m,L,i⟩:=G;let⟨q,d,y,rfl,n,j,M⟩:=I;intro S;refine⟨_,ZR (Zh (MV (Ud UD (YX K (pv 0) (Wt (v:=.int 0) rfl o ⟨_,rfl⟩)) (YX K (pv 1) (Wt (v:=.int 0) rfl o ⟨_,rfl⟩)) (Z8 _))
  (Lr (Zf r J (Zx (YX K (pv 0) (Wt (v:=.int 2) rfl O ⟨_,rfl⟩)) (YX K (pv 1) (Wt (v:=.int 1) rfl N ⟨_,rfl⟩))))))),?_⟩
 refine⟨_,Z,.inr (.inl ⟨p,_,_,.int a.h,rfl,rfl,Zm.of m,rfl,?_⟩)⟩;refine⟨_,Z,.inr (.inl ⟨q,_,_,.int b.h,rfl,rfl,Zm.of n,rfl,rfl,_,rfl,?_⟩)⟩;by_cases g:a.h=b.h
 ·rw[aJ (by rw[g])]
  refine YM ?_;refine⟨_,Z,.inr (.inl ⟨p,_,_,c,rfl,rfl,Zm.of m,rfl,?_⟩)⟩;refine⟨_,Z,.inr (.inl ⟨q,_,_,d,rfl,rfl,Zm.of n,rfl,c,d,a.hi,b.lo,rfl,i,j,C.2,D.1,λt R=>?_⟩)⟩;let e:a.hi.lt b.lo=Qq a b:=by unfold Qq;rw[g,beq_self_eq_true,uV]
  rw[e];exact k t R
 ·rw[aI (λz=>g (O6 z))];refine Zo ?_;let e:false=Qq a b:=by unfold Qq;rw[beq_eq_false_iff_ne.mpr g,vV]
  rw[e];exact k H (ZD.refl H)
theorem Cu{n:Int}(h:n.natAbs<10 ^ 60)(r:Nat):(KT.int n).fits r=true:=by rw[KT.fits];exact aJ h
theorem Lu{H:Hp}{L:YT}{u:V}(h:ZE H L.kt u):Z4 H L u:=by
 unfold YT.kt at h;rw[ZE] at h;let⟨a,r,rfl,e,b⟩:=h;rw[jX] at b;let⟨p,l,rfl,c,b⟩:=b;rw[jX] at b;let⟨j,m,rfl,g,b⟩:=b;rw[jX] at b;let⟨k,n,rfl,i,b⟩:=b;rw[jX] at b;let⟨q,o,rfl,d,b⟩:=b;rw[jX] at b;subst b;rw[ZE] at c d;subst c d;exact⟨a,j,k,Z,e,g,i⟩
theorem Dk:YT.d.fit:=⟨Cu (n:=0) (by decide) 3,Cu (n:=0) (by decide) 3⟩
def EJ(H:Hp)(b:jo)(c:jf):Prop:=c.length=b.length/\∀ i u,c[i]? = some u->∃ a d e,u=.ref a/\H a=some (.tup [d,e])/\ZE H (b.getD i (.int 0)) d
def LY(a:jo):KT:=.tup [.int 0,a.getD 0 (.int 0),a.getD (a.length-1) (.int 0),.int a.length]
theorem ZNz{a:jf}{u:V}(h:a[a.length-1]? = some u):We a (-1)=some u:=by
 let b:a≠[]:=λz=>by rw[z] at h;simp at h
 let e:a=a.dropLast++[u]:=by
  let c:a.getLast b=u:=by
   rw[qE];exact(yZ.mp h).2
  rw[<-c,qI]
 rw[e];exact FJ _ _
inductive XJ(d:jf)(H:Hp)(Q:VK)(_:XK):Prop
 |mk(l:ak)(b:jf)(c:jo)(_:d=[.ref l])(_:H l=some (.lst b))(_:EJ H c b)(_:0<b.length)(_:∀(a:Hp)(v:V),ZD H a->ZE a (LY c) v->Q v a)
theorem Ba:ZB zEr zEr (Zc IA):=Zs
theorem ZHx(F:Zg K "label_of_rows" "label_of_rows" IA f fd)(T:Yd mg):ZI P w K mg kj ZM 1 f fd zEr XJ:=by
 refine F.ko Ba λq A i s H L Q E I h=>?_;let⟨l,c,J,rfl,e,d,u,k⟩:=h;intro C;refine⟨_,ZR (Zh (WC (Uu ZJ (YX K (YX K (pv 0) ZJ) ZJ)
  (YX K (YX K (pv 0) (Uc UZ ZJ)) ZJ) (YG Xd rfl T.len XG (ZS (pv 0)))))),?_⟩
 let m:c[0]? = some c[0]:=zV u;let n:c[c.length-1]? = some (c[c.length-1]'∅):=zV ∅
 let⟨a,o,D,r,z,x⟩:=d.2 0 _ m;let⟨b,bk,G,t,B,y⟩:=d.2 _ _ n;rw[r] at m;rw[t] at n;refine⟨_,Z,.inl ⟨l,c,_,.ref a,Z,Z,ZF.of e,Vd (j:=0) m,.inr (.inl ⟨a,_,_,o,rfl,rfl,Zm.of z,rfl,?_⟩)⟩⟩;refine⟨_,Z,1,Z,.inl ⟨l,c,_,.ref b,Z,Z,ZF.of e,ZNz n,.inr (.inl ⟨b,_,_,bk,rfl,rfl,Zm.of B,rfl,?_⟩)⟩⟩;exists _,Z,l,c,Z,.inl (ZF.of e),YE;intro p v;let g:=Zl v (.tup [.int 0,o,bk,.int c.length]);refine k _ _ g ?_;unfold LY;rw[<-d.1];exact .tup ZX (.cons (.int _) (.cons (x.sm g) (.cons (y.sm g) (.cons (.int _) .nil))))
abbrev Zd:=KT×KT
abbrev jr:=List Zd
def OA(r:Zd):KT:=.tup [r.1,r.2]
def Z6(a:jr):jo:=a.map OA
def Zd.fit(r:Zd):Prop:=r.1.fits 3=true/\r.2.fits 3=true
structure ZN where
 h:Nat
 rows:jr
 bs:jk
abbrev jn:=List ZN
def ZN.d:ZN:=⟨0,[],[]⟩
def gd(a:jn)(i:Nat):ZN:=a.getD i .d
structure Ye(gt:jk)(ts:jn)(i:Nat)(t:ZN):Prop where
 ne:t.rows≠[]
 up:(t.rows.map (·.1)).Pairwise λa b=>a.lt b=true
 inn:∀ r∈t.rows,r.fit
 leaf:t.h=0->t.bs=[]/\t.rows.length<=4
 stem:t.h≠0->2<=t.bs.length/\t.bs.length<=4/\(∀ b∈t.bs,b∈gt/\(gd ts b).h+1=t.h)/\t.rows=t.bs.flatMap λb=>(gd ts b).rows
def WF(a:jk)(b:jn):Prop:=∀ i∈a,Ye a b i (gd b i)
def kindOf(t:ZN):Str:=if t.h=0 then "leaf" else "stem"
theorem VQ{H c:Hp}{a:ak}{o:HO}(s:ZD H c)(n:H a=none):ZD H (upd c a o):=λb u e=>by rw[ZQ (ZZ e n)];exact s b u e
abbrev iN(l:jk):jf:=l.map λb=>V.int (b:Nat)
theorem Pw(a b:jr):Z6 (a++b)=Z6 a++Z6 b:=zD
theorem KW{a:jf}{j:Nat}{v:V}(b:1<=j)(c:j<=a.length)(h:a[a.length-j]? = some v):We a (-(j:Int))=some v:=by
 unfold We;let e:Qi a.length (-(j:Int))=some (a.length-j):=by
  unfold Qi;rw[aK ∅,aM ∅]
  congr 1
  lia
 rw[e];exact h
def rd:Zd:=(.int 0,.int 0)
def Zy(t:ZN):YT:=⟨t.h,(t.rows.getD 0 rd).1,(t.rows.getD (t.rows.length-1) rd).1,t.rows.length⟩
theorem QS{H:Hp}{c:jr}{k:jf}{i:Nat}{u:V}(h:jX H (Z6 c) k)(e:k[i]? = some u):∃ a l m,c[i]? = some (c.getD i rd)/\u=.ref a/\H a=some (.tup [l,m])/\ZE H (c.getD i rd).1 l/\ZE H (c.getD i rd).2 m:=by
 let⟨t,d,g⟩:=h.get e;unfold Z6 at d;rw[zC] at d;let⟨r,j,rfl⟩:=xZ.mp d;let n:c.getD i rd=r:=by rw[zU,j];rfl
 unfold OA at g;rw[ZE] at g;let⟨a,z,rfl,o,b⟩:=g;rw[jX] at b;let⟨s,x,rfl,p,b⟩:=b;rw[jX] at b;let⟨v,y,rfl,q,b⟩:=b;rw[jX] at b;subst b;rw[n];exact⟨a,s,v,j,Z,o,p,q⟩
theorem Yi.snoc{H:Hp}{d:jF}{a:jf}{L:YT}{u:V}(h:Yi H d a)(j:Z4 H L u):Yi H (d++[L]) (a++[u]):=by
 exists by rw[zW,zW,h.1];rfl
 intro i w e;rcases xG i a.length with b | b
 ·rw[wM b] at e;have:=h.2 i w e;rw[zU] at this⊢;rw[wM (by rw[<-h.1];exact b)]
  exact this
 ·rw[wZ b] at e;let c:i-a.length=0:=by
   rcases Nat.eq_zero_or_pos (i-a.length) with z | z
   ·exact z
   ·rw[qV (by simp;lia)] at e;cases e
  rw[c] at e;simp at e;subst e;let g:i=d.length:=by have:=h.1;lia
  rw[zU,g];simp;exact j
def inT(a:jk)(x:Int):Bool:=decide (0<=x/\x.toNat∈a)
def K4(a:jF):Prop:=∀ j,j+1<a.length->(a.getD (j+1) .d).h=(a.getD 0 .d).h/\(a.getD j .d).hi.lt (a.getD (j+1) .d).lo=true
theorem PB{c:jF}:K4 c ↔ LH c=true:=by
 unfold K4 LH Qq;rw[xY];constructor
 ·intro h j e;let i:j<c.length-1:=xO.mp e;let⟨a,b⟩:=h j ∅
  rw[zF];refine⟨?_,b⟩;rw[beq_iff_eq,a]
  cases j with
  | zero=>rfl
  | succ j=>exact(h j ∅).1
 ·intro h;let g:∀ j,j<c.length->(c.getD j .d).h=(c.getD 0 .d).h:=λj=>by
   induction j with
   | zero=>intro _;rfl
   | succ j k=>
    intro e;have:=h j (xO.mpr ∅)
    rw[zF,beq_iff_eq] at this;rw[<-this.1];exact k ∅
  intro j e;have:=h j (xO.mpr ∅)
  rw[zF] at this;exact⟨g (j+1) e,this.2⟩
theorem LK{a:jk}{e:jn}{i:Nat}{t:ZN}(h:Ye a e i t):(Zy t).fit:=by
 let b:0<t.rows.length:=uH.mpr h.ne;let c:t.rows.getD 0 rd∈t.rows:=by rw[zU,zV b];exact xN _
 let d:t.rows.getD (t.rows.length-1) rd∈t.rows:=by rw[zU,zV (show t.rows.length-1<t.rows.length by lia)];exact xN _
 exact⟨(h.inn _ c).1,(h.inn _ d).1⟩
def YJ(c:jn)(a:jk):jF:=a.map λb=>Zy (gd c b)
structure ZC(P:ao)(w:aw)(K:zZ)(mg:jc)(kj:aD)(CX:VI)(k:Nat)(C:ak)(m:Str)(ps:jp)(sp:Sp):Prop where
 ex:∃ f fd,Qm K C m f/\ZI P w K mg kj CX k f fd ps sp/\Zv K fd ps []
theorem YV{X:Cx}{i:VI}{k:Nat}{C:ak}{m:Str}{v:jp}{j:Sp}{E:XK}{o e:Expr}{d:jw}{l:TE}{t:TA}{pos a:Pos}{u:Sem Bool}(p:PE X o l)(c:Vm X.K C)(D:ZC X.prog X.w X.K X.mg X.base i k C m v j)(q:ZU k X.A)(s:QR i X E)(n:PA X (e::d) t)(h:au (e::d) X.env=(false,aG e X.env)::au d X.env:=by rfl)(g:(aF pos (au d X.env)).any (·.1)=false:=by rfl)(r:aG (.Call (.Attribute o m a) (e::d) [] pos) X.env=(do
   let ov<-aG o X.env
   standAt a.atName
   let (f,first)<-holding [ov] (getMethod ov m u)
   callWith pos f first (aF pos (au (e::d) X.env)) (backToKw pos (keywordEach [] X.env))):=by rfl):
  PE X (.Call (.Attribute o m a) (e::d) [] pos) (LN C m j [] E l t):=by
 let⟨f,fd,M,F,b⟩:=D.ex;exact ZNc p c M F q b .nil s n h g r
theorem P6{X:Cx}{d:VI}{k:Nat}{C:ak}{m:Str}{p:jp}{e:Sp}{E:XK}{o:Expr}{g:TE}{pos a:Pos}{n:Sem Bool}(h:PE X o g)(c:Vm X.K C)(D:ZC X.prog X.w X.K X.mg X.base d k C m p e)(i:ZU k X.A)(l:QR d X E)(j:aG (.Call (.Attribute o m a) [] [] pos) X.env=(do
   let ov<-aG o X.env
   standAt a.atName
   let (f,first)<-holding [ov] (getMethod ov m n)
   callWith pos f first (aF pos (au [] X.env)) (backToKw pos (keywordEach [] X.env))):=by rfl):
  PE X (.Call (.Attribute o m a) [] [] pos) (LN C m e [] E g Qa):=by
 let⟨f,fd,M,F,b⟩:=D.ex;exact ZKs h c M F i b .nil l j
abbrev J5:Stmt:=WB (top 30) 0
abbrev J8:Stmt:=WB (top 70) 0
abbrev Kq:Stmt:=WB (top 70) 1
abbrev Kt:Stmt:=WB (top 70) 3
abbrev Jz:Stmt:=WB (top 70) 7
abbrev Ir:Stmt:=WB (top 70) 8
abbrev Hn:Stmt:=WB (top 70) 12
abbrev IJ:Stmt:=WB (top 70) 13
abbrev Jg:Stmt:=WB (top 70) 18
structure Yg(K:zZ)(mg:jc)(kg kh:ak):Prop where
 shelf:mg "Shelf" = some (.ref kg)
 twig:mg "Twig" = some (.ref kh)
 cS:Vm K kg
 cT:Vm K kh
 nk:Z0 K kg "kept"
 nf:Z0 K kg "following"
 nl:Z0 K kg "looks"
 nth:Z0 K kh "things"
 ntg:Z0 K kh "tag"
 nab:Z0 K kh "above"
 nho:Z0 K kh "holds"
abbrev OF(d a:ak)(n:Nat):List (Str×V):=[("kept",.ref d),("following",.int n),("looks",.ref a)]
abbrev VN(d c:V)(a:ak)(b:Nat):List (Str×V):=[("things",d),("tag",c),("above",.ref a),("holds",.int b)]
structure XZ(kg:ak)(H:Hp)(S d lk:ak)(n:Nat)(kvs:List (ZT×V))(ls:jf):Prop where
 self:∃ dx,H S=some (.ins kg dx (OF d lk n))
 kept:H d=some (.dK kvs)
 looks:H lk=some (.lst ls)
structure Wq(kh:ak)(H:Hp)(x:ak)(th tg:V)(ab:ak)(ho:Nat)(us:jf):Prop where
 self:∃ dx,H x=some (.ins kh dx (VN th tg ab ho))
 above:H ab=some (.lst us)
theorem XZ.same{kg:ak}{H b:Hp}{S d c:ak}{n:Nat}{a:List (ZT×V)}{g:jf}(h:XZ kg H S d c n a g)(s:ZD H b):XZ kg b S d c n a g:=by
 let⟨⟨i,e⟩,j,k⟩:=h;exact⟨⟨i,s _ _ e⟩,s _ _ j,s _ _ k⟩
theorem Wq.same{kh:ak}{H a:Hp}{x:ak}{g d:V}{b:ak}{c:Nat}{i:jf}(h:Wq kh H x g d b c i)(s:ZD H a):Wq kh a x g d b c i:=by
 let⟨⟨j,e⟩,k⟩:=h;exact⟨⟨j,s _ _ e⟩,s _ _ k⟩
inductive Qs(kh:ak)(h:jf)(H:Hp)(Q:VK)(_:XK):Prop
 |mk(x g:ak)(e d:V)(_:h=[.ref x,e,d])(_:H x=some (.ins kh g []))(_:∀(a:Hp)(c:ak),(∀ b o,b≠x->H b=some o->a b=some o)->H c=none->Wq kh a x e d c 1 []->Q .non a)
theorem ZQq:ZB zEx zEx (Zc J5):=Zs
theorem BO(F:Zg K "__init__" "Twig.__init__" J5 f fd)(L:Yg K mg kg kh):ZI P w K mg kj ZM 1 f fd zEx (Qs kh):=by
 refine F.ko ZQq λl A j s H u Q E q h=>?_;let⟨x,d,t,r,rfl,m,k⟩:=h;intro p;exists _,ZL (U3 (pv 0) (pv 1) Z) (ZL (U3 (pv 0) (pv 2) rfl) (ZL (U3 (pv 0) (Yk Zu) rfl) (ZR (U3 (pv 0) ZJ rfl))));exists _,Z,_,Z,x,kh,d,_,Z,m,L.cT,L.nth,yN Z;exists _,Z,_,Z,x,kh,d,_,Z,ZX,L.cT,L.ntg,yN Z;exists YE;intro i a;rw[Nk] at a⊢;let c:x≠i:=λz=>by rw[<-z,ZX] at a;cases a
 let g:H i=none:=by rw[ZQ (Ne.symm c)] at a;exact a
 exists _,Z,x,kh,d,_,Z,(by rw[ZQ c];exact ZX),L.cT,L.nab,yN Z
 exists _,Z,x,kh,d,_,Z,ZX,L.cT,L.nho,yN Z;refine k _ i (λb o n e=>?_) g ⟨⟨d,ZX⟩,?_⟩
 ·rw[Nk,ZQ n,ZQ (ZZ e g),ZQ n];exact e
 ·rw[Nk,ZQ (Ne.symm c)];exact ZX
inductive PD(kg:ak)(g:jf)(H:Hp)(Q:VK)(_:XK):Prop
 |mk(x e:ak)(_:g=[.ref x])(_:H x=some (.ins kg e []))(_:∀(a:Hp)(d c:ak),(∀ b o,b≠x->H b=some o->a b=some o)->H d=none->H c=none->d≠c->XZ kg a x d c 0 [] []->Q .non a)
theorem ZQJ:ZB zEh zEh (Zc J8):=Zs
theorem ZPX(F:Zg K "__init__" "Shelf.__init__" J8 f fd)(L:Yg K mg kg kh):ZI P w K mg kj ZM 1 f fd zEh (PD kg):=by
 refine F.ko ZQJ λu A p s H B Q E y h=>?_;let⟨x,j,rfl,t,k⟩:=h;intro v;exists _,ZL (U3 (pv 0) IM Z) (ZL (U3 (pv 0) ZJ rfl) (ZR (U3 (pv 0) (Yk Zu) rfl)));intro d m;let q:x≠d:=ZZ t m;exists _,Z,x,kg,j,_,Z,(by rw[ZQ q];exact t),L.cS,L.nk,yN Z
 exists _,Z,x,kg,j,_,Z,ZX,L.cS,L.nf,yN Z;exists YE;intro g c;rw[Nk] at c⊢;let r:x≠g:=λz=>by rw[<-z,ZX] at c;cases c
 let a:upd H d (.dK []) g=none:=by rw[ZQ (Ne.symm r)] at c;exact c
 let l:d≠g:=λz=>by rw[<-z,ZX] at a;cases a
 let i:H g=none:=by rw[ZQ (Ne.symm l)] at a;exact a
 exists _,Z,x,kg,j,_,Z,(by rw[ZQ r];exact ZX),L.cS,L.nl,yN Z
 refine k _ d g (λb o n e=>?_) m i l ⟨⟨j,ZX⟩,?_,?_⟩
 ·rw[ZQ n,ZQ (ZZ e i),ZQ n,ZQ (ZZ e m)];exact e
 ·rw[ZQ (Ne.symm q),ZQ l,ZQ (Ne.symm q)];exact ZX
 ·rw[ZQ (Ne.symm r)];exact ZX
inductive Zk(kg:ak)(g:jf)(H:Hp)(Q:VK)(_:XK):Prop
 |mk(S d c:ak)(n:Nat)(a:List (ZT×V))(e:jf)(i:Int)(b:V)(_:g=[.ref S,.int i])(_:XZ kg H S d c n a e)(_:YU a (.inl i)=some b)(_:Q b H)
theorem AE:ZB zEa zEa (Zc Jg):=Zs
theorem ZJ3(F:Zg K "twig_of" "Shelf.twig_of" Jg f fd)(L:Yg K mg kg kh):ZI P w K mg kj ZM 1 f fd zEa (Zk kg):=by
 refine F.ko AE λl A a s H x Q E o h=>?_;let⟨S,d,u,n,q,v,i,b,rfl,⟨⟨c,e⟩,m,t⟩,p,k⟩:=h;let j:=OV o;intro r;exists _,ZL (Z1 (Uv (Fh j (pv 1) (XS (pv 0) rfl))) WY Z2) (ZR (Zh (M0 j (XS (pv 0) rfl) (pv 1))));let g:Yq H d (.int i) (some b):=p ▸ Yq.k (k:=Sum.inl i) m;refine⟨_,Z,_,Z,S,kg,c,_,.ref d,Z,e,L.cS,L.nk,Z,d,some b,Z,g,_,Z,Zo ?_⟩;exact⟨_,Z,S,kg,c,_,.ref d,Z,e,L.cS,L.nk,Z,_,Z,d,b,Z,g,k⟩
structure QG(P:ao)(w:aw)(K:zZ)(mg:jc)(kj:aD)(k:Nat)(C:ak)(ps:jp)(sp:Sp):Prop where
 ex:∃ f fd,Mk K C f/\ZI P w K mg kj ZM k f fd ps sp/\Zv K fd ps []
structure Q2(kg kh:ak)(H:Hp)(S d lk:ak)(n:Nat)(kvs:List (ZT×V))(ls:jf)(i:Int)(x:ak)(th tg:V)(ab:ak)(ho:Nat)(us:jf):Prop where
 sh:XZ kg H S d lk n kvs ls
 val:YU kvs (.inl i)=some (.ref x)
 tw:Wq kh H x th tg ab ho us
inductive Xb(kg kh:ak)(res:V->Nat->jf->V)(l:jf)(H:Hp)(Q:VK)(_:XK):Prop
 |mk(S d h:ak)(n:Nat)(a:List (ZT×V))(j:jf)(i:Int)(x:ak)(k c:V)(g:ak)(b:Nat)(e:jf)(_:l=[.ref S,.int i])(_:Q2 kg kh H S d h n a j i x k c g b e)(_:Q (res c b e) H)
theorem ZJ4:ZB zEa zEa (Zc Ir):=Zs
theorem ZIQ(F:Zg K "outside" "Shelf.outside" Ir f fd)(L:Yg K mg kg kh)(e:ZC P w K mg kj ZM 1 kg "twig_of" zEa (Zk kg)):ZI P w K mg kj ZM 2 f fd zEa (Xb kg kh λ_ a _=>.int a):=by
 refine F.ko ZJ4 λg A c s H B Q E o h=>?_;let⟨S,d,q,n,b,r,i,x,y,v,u,a,z,rfl,R,k⟩:=h;intro t;exists _,ZR (Zh (XS (YV (E:=E0) (pv 0) L.cS e o YC (ZS (pv 1))) rfl));let⟨l,m⟩:=R.sh.self;let⟨j,p⟩:=R.tw.self;exact⟨_,Z,S,l,_,Z,m,Z,_,Z,S,d,q,n,b,r,i,.ref x,Z,R.sh,R.val,x,kh,j,_,.int a,Z,p,L.cT,L.nho,Z,k⟩
theorem ZNV:ZB zEa zEa (Zc IJ):=Zs
theorem AV(F:Zg K "label" "Shelf.label" IJ f fd)(L:Yg K mg kg kh)(e:ZC P w K mg kj ZM 1 kg "twig_of" zEa (Zk kg)):ZI P w K mg kj ZM 2 f fd zEa (Xb kg kh λc _ _=>c):=by
 refine F.ko ZNV λg A b s H B Q E o h=>?_;let⟨S,d,q,n,a,r,i,x,y,c,u,v,z,rfl,R,k⟩:=h;intro t;exists _,ZR (Zh (XS (YV (E:=E0) (pv 0) L.cS e o YC (ZS (pv 1))) rfl));let⟨l,m⟩:=R.sh.self;let⟨j,p⟩:=R.tw.self;exact⟨_,Z,S,l,_,Z,m,Z,_,Z,S,d,q,n,a,r,i,.ref x,Z,R.sh,R.val,x,kh,j,_,c,Z,p,L.cT,L.ntg,Z,k⟩
theorem W0:ZB zFm zEa (Zc Jz):=Zs
theorem ZIB(F:Zg K "holders" "Shelf.holders" Jz f fd)(T:Yd mg)(L:Yg K mg kg kh)(m:ZC P w K mg kj ZM 1 kg "twig_of" zEa (Zk kg)):ZI P w K mg kj ZM 2 f fd zEa (Xb kg kh λ_ a e=>.int ((e.length:Nat)+(a:Nat):Int)):=by
 refine F.ko W0 λo A c s H C Q E r h=>?_;let⟨S,d,t,n,b,u,i,x,B,z,g,a,e,rfl,R,k⟩:=h;let v:=W0.nd;intro y;exists _,ZL (Ze 2 v (YV (E:=E0) (pv 0) L.cS m r YC (ZS (pv 1)))) (ZR (Zh (Zj Xg (YG Xd rfl T.len XG (ZS (XS (pv 2) rfl))) (XS (pv 2) rfl))));let⟨p,q⟩:=R.sh.self;let⟨j,l⟩:=R.tw.self;exists _,Z,S,p,_,Z,q,Z,_,Z,S,d,t,n,b,u,i,.ref x,Z,R.sh,R.val;exact⟨_,Z,x,kh,j,_,.ref g,Z,l,L.cT,L.nab,Z,g,e,Z,.inl (ZF.of R.tw.above),_,Z,x,kh,j,_,.int a,Z,l,L.cT,L.nho,Z,_,_,Z,Z,k⟩
inductive X5(kh:ak)(g:jf)(H:Hp)(Q:VK)(_:XK):Prop
 |mk(x:ak)(d:V)(a b:ak)(c:Nat)(e:jf)(h:Int)(i:jf)(_:g=[.ref x])(_:Wq kh H x d (.ref a) b c e)(_:H a=some (.tup (.int h::i)))(_:Q (.bl (decide (h > 0))) H)
theorem ZPl:ZB zFn zFn (Zc Kr):=Zs
theorem Bm(F:Zg K "is_stem" "is_stem" Kr f fd)(T:Yd mg)(L:Yg K mg kg kh):ZI P w K mg kj ZM 1 f fd zFn (X5 kh):=by
 refine F.ko ZPl λc A a s H u Q E p h=>?_;let⟨x,r,b,n,o,t,e,y,rfl,W,g,k⟩:=h;let⟨q,l⟩:=T.height;let⟨d,i⟩:=W.self;intro m;exists _,ZR (Zh (Ud Pp (YX K (XS (pv 0) rfl) (Wt (v:=.int 0) rfl l ⟨_,rfl⟩)) ZJ (Z8 _)));exact⟨_,Z,x,kh,d,_,.ref b,Z,i,L.cT,L.ntg,Z,.inr (.inl ⟨b,_,_,.int e,rfl,rfl,Zm.of g,Vd (j:=0) rfl,_,_,rfl,rfl,k⟩)⟩
theorem ZQB{n:Nat}(h:n<=400000):n<sizeLine:=wQ h (by decide)
inductive UH(kg kh:ak)(s:jf)(H:Hp)(Q:VK)(_:XK):Prop
 |mk(S d c:ak)(n:Nat)(e:List (ZT×V))(j:jf)(i:Int)(x k m l:ak)(r:Nat)(q p u:jf)(h:Int)(_:s=[.ref S,.int i])(_:Q2 kg kh H S d c n e j i x (.ref k) (.ref m) l r q)(_:H k=some (.lst p))(_:H m=some (.tup (.int h::u)))(_:c≠k)(_:c≠l)(_:j.length<=390000)(_:∀(a:Hp)(g t:ak),(∀ b o,b≠c->H b=some o->a b=some o)->a c=some (.lst (j++[.int i]))->H g=none->a g=some (.lst p)->a t=some (.tup [.str (if h > 0 then "stem" else "leaf"),.ref g])->Q (.ref t) a)
theorem Qu:ZB zFm zEa (Zc Hn):=Zs
theorem ZNe(F:Zg K "look" "Shelf.look" Hn f fd)(T:Yd mg)(L:Yg K mg kg kh)(DT:ZC P w K mg kj ZM 1 kg "twig_of" zEa (Zk kg))(DS:ZA P w K mg kj 1 "is_stem" zFn (X5 kh)):ZI P w K mg kj ZM 2 f fd zEa (UH kg kh):=by
 refine F.ko Qu λa4 A a1 s H vs Q E hr h=>?_;let⟨S,d,j,n,W,p,i,x,J,tg,ab,ho,as,M,xs,U,rfl,R,V,C,Y,X,a3,k⟩:=h;let nd:=Qu.nd;intro Xc;refine⟨_,ZL (Ze 2 nd (YV (E:=E0) (pv 0) L.cS DT hr YC (ZS (pv 1))))
  (ZL (XT (Qo xL vS vR OB (XS (pv 0) rfl) (ZS (pv 1))))
  (ZL (Z1 (Xw (Zf DS hr (ZS (pv 2)))) (ZR (Zh (WC (Zx U0 (Vf Pb rfl T.list Pe (ZS (XS (pv 2) rfl))))))) Z2)
  (ZR (Zh (WC (Zx U0 (Vf Pb rfl T.list Pe (ZS (XS (pv 2) rfl))))))))),?_⟩
 let⟨dx,hS⟩:=R.sh.self;let⟨O,hx⟩:=R.tw.self;exists _,Z,S,dx,_,Z,hS,Z,_,Z,S,d,j,n,W,p,i,.ref x,Z,R.sh,R.val;let l:=R.sh.looks;exists _,Z,S,kg,dx,_,.ref j,Z,hS,L.cS,L.nl,Z,.inl ⟨Z,_,ZF.of l⟩,_,Z,j,p,.int i,Z,Z,l,ZQB ∅
 let G:∀ b o,b≠j->H b=some o->upd H j (.lst (p++[.int i])) b=some o:=λb o n e=>by rw[ZQ n];exact e
 let a2:x≠j:=ZV hx l;let I:tg≠j:=ZV C l;let q:=G _ _ a2 hx;let D:=G _ _ I C;let u:=G _ _ (Ne.symm X) R.tw.above;let m:=G _ _ (Ne.symm Y) V;let v:upd H j (.lst (p++[.int i])) j=some (.lst (p++[.int i])):=ZX;let r:∀(w:Str)(c t:ak),upd H j (.lst (p++[.int i])) c=none->upd (upd H j (.lst (p++[.int i]))) c (.lst M) t=none->w=(if U > 0 then ("stem" : Str) else "leaf")->Q (.ref t) (upd (upd (upd H j (.lst (p++[.int i]))) c (.lst M)) t (.tup [.str w,.ref c])):=λw c t a B ew=>by
  let g1:=Zl a (.lst M);let g2:=Zl B (.tup [.str w,.ref c]);let g:=g1.trans g2;let a0:H c=none:=by
   cases z:H c with
   | none=>rfl
   | some o=>
    have:c≠j:=λy=>by rw[y,ZX] at a;cases a
    rw[ZQ this,z] at a;cases a
  refine k _ c t (λb o n e=>g _ _ (G b o n e)) (g _ _ v) a0 (g2 _ _ ZX) ?_;rw[ZX,ew]
 exists _,Z,x,.ref J,tg,ab,ho,as,U,xs,Z,⟨⟨O,q⟩,u⟩,D,_,Z;by_cases N:U > 0
 ·rw[aJ N];refine YM ⟨_,Z,x,kh,O,_,.ref J,Z,q,L.cT,L.nth,Z,J,M,Z,.inl (ZF.of m),λc a=>⟨YE,λt B=>?_⟩⟩;exact r _ c t a B (by rw[aM N])
 ·rw[aI N];refine Zo ⟨_,Z,x,kh,O,_,.ref J,Z,q,L.cT,L.nth,Z,J,M,Z,.inl (ZF.of m),λc a=>⟨YE,λt B=>?_⟩⟩;exact r _ c t a B (by rw[aK N])
theorem En{H:Hp}{L:YT}{u:V}(h:ZE H L.kt u):Z4 H L u:=by
 unfold YT.kt at h;rw[ZE] at h;let⟨a,r,rfl,e,b⟩:=h;rw[jX] at b;let⟨p,l,rfl,c,b⟩:=b;rw[jX] at b;let⟨j,m,rfl,g,b⟩:=b;rw[jX] at b;let⟨k,n,rfl,i,b⟩:=b;rw[jX] at b;let⟨q,o,rfl,d,b⟩:=b;rw[jX] at b;subst b;rw[ZE] at c d;subst c d;exact⟨a,j,k,Z,e,g,i⟩
structure YQ where
 x:ak
 th:ak
 tg:ak
 ab:ak
abbrev jv:=List YQ
def YQ.d:YQ:=⟨0,0,0,0⟩
structure ON(kh:ak)(H:Hp)(ts:jn)(av:Nat->jk)(ho:Nat->Nat)(i:Nat)(a:YQ):Prop where
 tw:Wq kh H a.x (.ref a.th) (.ref a.tg) a.ab (ho i) (iN (av i))
 things:∃ us,H a.th=some (.lst us)/\((gd ts i).h=0->jX H (Z6 (gd ts i).rows) us)/\((gd ts i).h≠0->us=iN (gd ts i).bs)
 tag:Z4 H (Zy (gd ts i)) (.ref a.tg)
theorem ON.same{kh:ak}{H b:Hp}{e:jn}{c:Nat->jk}{d:Nat->Nat}{i:Nat}{a:YQ}(h:ON kh H e c d i a)(s:ZD H b):ON kh b e c d i a:=by
 let⟨l,g,j,k⟩:=h.things;exact⟨h.tw.same s,⟨l,s _ _ g,λz=>(j z).sm s,k⟩,h.tag.mono (ZD.tups s)⟩
structure Zq(kg kh:ak)(H:Hp)(S d lk:ak)(lv:jk)(ts:jn)(av:Nat->jk)(ho:Nat->Nat)(as:jv)(kvs:List (ZT×V))(ls:jf):Prop where
 sh:XZ kg H S d lk ts.length kvs ls
 lt:∀ i∈lv,i<ts.length
 keys:kvs.map (·.1)=lv.map (λi:Nat=>(Sum.inl (i:Int):ZT))
 val:∀ i:Nat,i∈lv->YU kvs (Sum.inl (i:Int))=some (.ref (as.getD i .d).x)
 len:as.length=ts.length
 tw:∀ i:Nat,i∈lv->ON kh H ts av ho i (as.getD i .d)
 own:∀ i:Nat,i∈lv->(as.getD i .d).x≠S/\(as.getD i .d).ab≠lk/\(as.getD i .d).th≠lk/\(as.getD i .d).ab≠(as.getD i .d).th
 two:∀ i j:Nat,i∈lv->j∈lv->i≠j->(as.getD i .d).x≠(as.getD j .d).x/\(as.getD i .d).ab≠(as.getD j .d).ab/\(as.getD i .d).ab≠(as.getD j .d).th/\(as.getD i .d).th≠(as.getD j .d).th
theorem Zq.same{kg kh:ak}{H b:Hp}{S d j:ak}{l:jk}{m:jn}{e:Nat->jk}{g:Nat->Nat}{c:jv}{a:List (ZT×V)}{k:jf}(h:Zq kg kh H S d j l m e g c a k)(s:ZD H b):Zq kg kh b S d j l m e g c a k:=
 ⟨h.sh.same s,h.lt,h.keys,h.val,h.len,λi n=>(h.tw i n).same s,h.own,h.two⟩
theorem ON.frame{kh:ak}{H b:Hp}{e:jn}{c:Nat->jk}{d:Nat->Nat}{i:Nat}{a:YQ}(h:ON kh H e c d i a)(m:Zt H b)(r:∀ o,H a.x=some o->b a.x=some o)(q:∀ o,H a.th=some o->b a.th=some o)(p:∀ o,H a.ab=some o->b a.ab=some o):ON kh b e c d i a:=by
 let⟨s,j,k,l⟩:=h.things;let⟨g,n⟩:=h.tw.self;exact⟨⟨⟨g,r _ n⟩,p _ h.tw.above⟩,⟨s,q _ j,λz=>(k z).mono m _ _,l⟩,h.tag.mono m⟩
theorem Zq.none{kg kh:ak}{H:Hp}{S d n:ak}{c:jk}{p:jn}{g:Nat->jk}{m:Nat->Nat}{e:jv}{a:List (ZT×V)}{o:jf}(h:Zq kg kh H S d n c p g m e a o){x:Int}(b:inT c x=false):YU a (Sum.inl x)=uW:=by
 cases z:YU a (Sum.inl x) with
 | none=>rfl
 | some v=>
  have:=Ij z;rw[h.keys] at this;let⟨i,l,k⟩:=zR.mp this;let j:=Sum.inl.inj k;unfold inT at b;exact absurd ⟨∅,by rw[<-j];exact l⟩ (of_decide_eq_false b)
def MR(a:Nat->jk)(b c:Nat):Nat->jk:=λi=>if i=b then a i++[c] else a i
def PZ(a:Nat->Nat)(b:Nat):Nat->Nat:=λi=>if i=b then a i-1 else a i
theorem Zq.touch{kg kh:ak}{H n:Hp}{S d I:ak}{C:jk}{L:jn}{j:Nat->jk}{l:Nat->Nat}{g:jv}{r:List (ZT×V)}{J:jf}(R:Zq kg kh H S d I C L j l g r J){b s:Nat}(p:b∈C)(Y:∃ N,n (g.getD b .d).x=some (.ins kh N (VN (.ref (g.getD b .d).th) (.ref (g.getD b .d).tg) (g.getD b .d).ab (l b-1))))(X:n (g.getD b .d).ab=some (.lst (iN (j b++[s]))))(k:∀ c o,c≠(g.getD b .d).x->c≠(g.getD b .d).ab->H c=some o->n c=some o):Zq kg kh n S d I C L (MR j b s) (PZ l b) g r J:=by
 let⟨⟨M,E⟩,B,F⟩:=R.sh;let t:=R.tw b p;let⟨O,a⟩:=t.tw.self;let h:=t.tw.above;let⟨us,D,T,U⟩:=t.things;let m:Zt H n:=λc xs e=>k c _ (ZV e a) (ZV e h) e;refine⟨⟨⟨M,k _ _ (R.own b p).1.symm (ZV E h) E⟩,k _ _ (ZV B a) (ZV B h) B,k _ _ (ZV F a) (R.own b p).2.1.symm F⟩,R.lt,R.keys,R.val,R.len,λi v=>?_,R.own,R.two⟩;by_cases z:i=b
 ·subst z;let y:MR j i s i=j i++[s]:=aM Z;let A:PZ l i i=l i-1:=aM Z;refine⟨⟨?_,?_⟩,⟨us,k _ _ (ZV D a) (R.own i v).2.2.2.symm D,λz=>(T z).mono m _ _,U⟩,t.tag.mono m⟩
  ·rw[A];exact Y
  ·rw[y];exact X
 ·let y:MR j b s i=j i:=aK z;let A:PZ l b i=l i:=aK z;let u:=R.tw i v;let⟨t1,t2,t3,t4⟩:=R.two i b v p z;let⟨s1,s2,s3,s4⟩:=R.two b i p v (Ne.symm z);let⟨Q,q⟩:=u.tw.self;let⟨vs,W,_⟩:=u.things;let G:=u.frame m (λo e=>k _ _ t1 (by have:=q.symm.trans e;exact ZV q h) e) (λo e=>k _ _ (ZV W a) s3.symm e) (λo e=>k _ _ (ZV u.tw.above a) t2 e)
  refine⟨?_,G.things,G.tag⟩;rw[y,A];exact G.tw
def VH(b:jk)(c:Nat)(a:Nat->jk):Nat->jk:=λi=>if i∈b then a i++[c] else a i
def W7(b:jk)(a:Nat->Nat):Nat->Nat:=λi=>if i∈b then a i-1 else a i
theorem BE{a:jk}{b c:Nat}{d:Nat->jk}(h:b∉a):MR (VH a c d) b c=VH (a++[b]) c d:=by
 funext i
 unfold MR VH;by_cases z:i=b
 ·subst z;rw[aM rfl,aK h,aM (by simp)]
 ·rw[aK z];by_cases y:i∈a
  ·rw[aM y,aM (by simp[y])]
  ·rw[aK y,aK (by simp[y,z])]
theorem ZMC{a:jk}{b:Nat}{c:Nat->Nat}(h:b∉a):PZ (W7 a c) b=W7 (a++[b]) c:=by
 funext i
 unfold PZ W7;by_cases z:i=b
 ·subst z;rw[aM rfl,aK h,aM (by simp)]
 ·rw[aK z];by_cases y:i∈a
  ·rw[aM y,aM (by simp[y])]
  ·rw[aK y,aK (by simp[y,z])]
abbrev Kb:Stmt:=WB (top 70) 21
inductive XX(kg kh:ak)(r:jf)(H:Hp)(Q:VK)(_:XK):Prop
 |mk(S d m l:ak)(h:jk)(q:jn)(j:Nat->jk)(k:Nat->Nat)(a:jv)(g:List (ZT×V))(n:jf)(e:jk)(p:Nat)(_:r=[.ref S,.int p,.ref l])(_:Zq kg kh H S d m h q j k a g n)(_:H l=some (.lst (iN e)))(_:e.Nodup)(_:∀ b∈e,b∈h/\1<=k b/\(j b).length<=900)(_:∀ b:Nat,b∈h->l≠(a.getD b .d).ab)(_:∀ i:Hp,(∀ c o,(∀ b:Nat,b∈h->c≠(a.getD b .d).x/\c≠(a.getD b .d).ab)->H c=some o->i c=some o)->(∀ c,i c=none->H c=none)->Zq kg kh i S d m h q (VH e p j) (W7 e k) a g n->Q .non i)
abbrev ZJa:jp:=["self","stem","branches","branch","twig"]
theorem Wg:ZB ZJa zE2 (Zc Kb):=Zs
theorem ZFv(F:Zg K "take_over" "Shelf.take_over" Kb f fd)(L:Yg K mg kg kh)(DT:ZC P w K mg kj ZM 1 kg "twig_of" zEa (Zk kg)):ZI P w K mg kj ZM 2 f fd zE2 (XX kg kh):=by
 refine F.ko Wg λa2 A a1 s H vs Q E hr h=>?_;let⟨S,d,lk,l,lv,ts,B,j,g,U,ls,p,X,rfl,R,hl,O,hb,a0,k⟩:=h;let nd:=Wg.nd;intro Xc;refine⟨_,ZR (VD PassesOwn.never rfl (X9 (pv 2)) (WG 3 nd)
  (ZL (Ze 4 nd (YV (E:=E0) (pv 0) L.cS DT hr YC (ZS (pv 3))))
  (ZL (Dx (pv 4) ZJ FY)
  (ZR (XT (Qo xL vS vR OB (XS (pv 4) rfl) (ZS (pv 1)))))))),?_⟩
 refine⟨_,Z,l,Z,⟨_,ZF.of hl⟩,PR (K:=K) (a:=l) (xs:=iN p) (λi σ m=>∃ x y:jg,σ=[some (.ref S),some (.int X),some (.ref l),x,y]/\(∀ c o,(∀ b:Nat,b∈lv->c≠(g.getD b .d).x/\c≠(g.getD b .d).ab)->H c=some o->m c=some o)/\(∀ c,m c=none->H c=none)/\Zq kg kh m S d lk lv ts (VH (p.take i) X B) (W7 (p.take i) j) g U ls)
  ⟨_,_,Z,λc o _ e=>e,λc e=>e,(by
   let e1:VH [] X B=B:=funext λi=>aK (by simp)
   let e2:W7 [] j=j:=funext λi=>aK (by simp)
   rw[show p.take 0=[] from rfl,e1,e2];exact R)⟩ ?_ ?_ ?_⟩
 ·rintro i σ m _ ⟨x,y,rfl,T,_,R2⟩;refine ZF.of (T _ _ (λb hb=>⟨?_,a0 b hb⟩) hl);let⟨dx,J⟩:=(R.tw b hb).tw.self;exact ZV hl J
 ·rintro i u σ m D ⟨x,y,rfl,T,k3,R2⟩;unfold iN at D;rw[zC] at D;let⟨b,eb,rfl⟩:=xZ.mp D;let⟨t,a3,a4⟩:=hb b (zJ eb);let v:b∉p.take i:=λz=>by
   let hs:p=p.take i++b::p.drop (i+1):=by
    let hi:=(yZ.mp eb);let⟨hi,e⟩:=hi;rw[<-e,<-xB hi,yD]
   rw[hs,yA] at O;exact O.2.2 b z b (by simp) Z
  let N:W7 (p.take i) j b=j b:=aK v;let M:VH (p.take i) X B b=B b:=aK v;let⟨dS,hS⟩:=R2.sh.self;let Wb:=R2.tw b t;let⟨r,J⟩:=Wb.tw.self;let C:=Wb.tw.above;rw[N] at J;rw[M] at C;exists _,Z,S,dS,_,Z,hS,Z,_,Z,S,d,lk,ts.length,U,ls,(b:Int),.ref (g.getD b .d).x,Z,R2.sh,R2.val b t;exists _,Z,(g.getD b .d).x,kh,r,_,.int (j b:Nat),Z,J,L.cT,L.nho,Z,_,_,Z,Z,r,_,J,yN Z;let eh:((j b:Nat):Int)-1=((j b-1:Nat):Int):=∅
  let G:upd m (g.getD b .d).x (.ins kh r (Yu "holds" (.int (((j b:Nat):Int)-1)) (VN (.ref (g.getD b .d).th) (.ref (g.getD b .d).tg) (g.getD b .d).ab (j b)))) (g.getD b .d).x=some (.ins kh r (VN (.ref (g.getD b .d).th) (.ref (g.getD b .d).tg) (g.getD b .d).ab (j b-1))):=by rw[ZX,eh];rfl
  let Y:(g.getD b .d).ab≠(g.getD b .d).x:=ZV C J;let q:upd m (g.getD b .d).x (.ins kh r (Yu "holds" (.int (((j b:Nat):Int)-1)) (VN (.ref (g.getD b .d).th) (.ref (g.getD b .d).tg) (g.getD b .d).ab (j b)))) (g.getD b .d).ab=some (.lst (iN (B b))):=by rw[ZQ Y];exact C
  let I:∀ c o,c≠(g.getD b .d).x->m c=some o->upd m (g.getD b .d).x (.ins kh r (Yu "holds" (.int (((j b:Nat):Int)-1)) (VN (.ref (g.getD b .d).th) (.ref (g.getD b .d).tg) (g.getD b .d).ab (j b)))) c=some o:=λc o n e=>by rw[ZQ n];exact e
  let W:∀ c,upd m (g.getD b .d).x (.ins kh r (Yu "holds" (.int (((j b:Nat):Int)-1)) (VN (.ref (g.getD b .d).th) (.ref (g.getD b .d).tg) (g.getD b .d).ab (j b)))) c=none->m c=none:=λc e=>by
   by_cases z:c=(g.getD b .d).x
   ·rw[z,ZX] at e;cases e
   ·rw[ZQ z] at e;exact e
  generalize upd m (g.getD b .d).x (.ins kh r (Yu "holds" (.int (((j b:Nat):Int)-1)) (VN (.ref (g.getD b .d).th) (.ref (g.getD b .d).tg) (g.getD b .d).ab (j b))))=H3 at G q I W⊢;exists _,Z,(g.getD b .d).x,kh,r,_,.ref (g.getD b .d).ab,Z,G,L.cT,L.nab,Z,.inl ⟨Z,_,ZF.of q⟩,_,Z,(g.getD b .d).ab,_,.int X,Z,Z,q,Ym (by rw[show (iN (B b)).length=(B b).length from zX _];lia)
  let et:p.take (i+1)=p.take i++[b]:=by rw[yS,eb];rfl
  exists _,_,Z,λc o hc e=>?_,λc e=>?_
  ·let⟨n1,n2⟩:=hc b t;rw[ZQ n2];exact I _ _ n1 (T c o hc e)
  ·by_cases z:c=(g.getD b .d).ab
   ·rw[z,ZX] at e;cases e
   ·rw[ZQ z] at e;exact k3 c (W c e)
  ·rw[et,<-BE v,<-ZMC v];refine R2.touch t ⟨r,?_⟩ ?_ λc o n1 n2 e=>?_
   ·rw[ZQ (Ne.symm Y),N];exact G
   ·rw[ZX,M];simp[iN]
   ·rw[ZQ n2];exact I _ _ n1 e
 ·rintro σ m ⟨x,y,rfl,T,k3,R2⟩;rw[show (iN p).length=p.length from zX _,zE (zY _)] at R2;exact k m T k3 R2
theorem ZQw{X:Cx}{k:Nat}{C:ak}{x:Str}{n:jp}{g:Sp}{e:Expr}{a:jw}{t:TA}{p pos:Pos}(D:QG X.prog X.w X.K X.mg X.base k C n g)(m:ZU (k+1) X.A)(j:Gl X x)(l:X.mg x=some (.ref C))(h:PA X (e::a) t)(c:(x==("__debug__" : Str))=false:=by decide)(i:au (e::a) X.env=(false,aG e X.env)::au a X.env:=by rfl)(d:(aF pos (au a X.env)).any (·.1)=false:=by rfl):
  PE X (.Call (.Name x p) (e::a) [] pos) (Nj C g [] E0 t):=by
 let⟨f,fd,M,F,b⟩:=D.ex;exact IP M F m j l b .nil YC h c i d
theorem ZPR{X:Cx}{k:Nat}{C:ak}{x:Str}{h:jp}{c:Sp}{p pos:Pos}(D:QG X.prog X.w X.K X.mg X.base k C h c)(g:ZU (k+1) X.A)(d:Gl X x)(e:X.mg x=some (.ref C))(a:(x==("__debug__" : Str))=false:=by decide):PE X (.Call (.Name x p) [] [] pos) (Nj C c [] E0 Qa):=by
 let⟨f,fd,M,F,b⟩:=D.ex;exact AK M F g d e b .nil YC a
def W9(n:Nat)(a:Nat->jk):Nat->jk:=λi=>if i=n then [] else a i
def Wy(n:Nat)(a:Nat->Nat):Nat->Nat:=λi=>if i=n then 1 else a i
theorem QU{a:jn}{t:ZN}{i:Nat}(h:i<a.length):gd (a++[t]) i=gd a i:=by
 unfold gd;rw[zU,wM h,<-zU]
theorem UR{a:jn}{t:ZN}:gd (a++[t]) a.length=t:=by
 unfold gd;rw[zU,wZ (zY _)];simp
theorem IQ{b:jv}{a:YQ}{i:Nat}(h:i<b.length):(b++[a]).getD i .d=b.getD i .d:=by
 rw[zU,wM h,<-zU]
theorem IY{b:jv}{a:YQ}:(b++[a]).getD b.length .d=a:=by
 rw[zU,wZ (zY _)];simp
theorem CQ{kg kh:ak}{H H':Hp}{S d N:ak}{D:jk}{g:jn}{B:Nat->jk}{M:Nat->Nat}{n:jv}{q:List (ZT×V)}{ls:jf}(R:Zq kg kh H S d N D g B M n q ls){t:ZN}{x th tg ab:ak}(Q:∀ b o,b≠S->b≠d->H b=some o->H' b=some o)(nx:H x=none)(s:H th=none)(r:H ab=none)(I:ab≠th)(R':XZ kg H' S d N (g.length+1) (Yj q (.inl (g.length:Int)) (.ref x)) ls)(W:Wq kh H' x (.ref th) (.ref tg) ab 1 [])(Y:∃ l,H' th=some (.lst l)/\(t.h=0->jX H' (Z6 t.rows) l)/\(t.h≠0->l=iN t.bs))(X:Z4 H' (Zy t) (.ref tg)):
  Zq kg kh H' S d N (D++[g.length]) (g++[t]) (W9 g.length B) (Wy g.length M) (n++[⟨x,th,tg,ab⟩]) (Yj q (.inl (g.length:Int)) (.ref x)) ls:=by
 let⟨⟨dS,T⟩,U,hl⟩:=R.sh;let m:Zt H H':=λc xs e=>Q c _ (ZV e T) (ZV e U) e;let en:(g++[t]).length=g.length+1:=by simp
 let nv:YU q (Sum.inl (g.length:Int))=none:=R.none (by unfold inT;exact aI (λz=>by have:=R.lt _ z.2;lia))
 let a:∀ i,i∈D++[g.length]->i∈D\/i=g.length:=λi k=>(yW.mp k).imp_right zH.mp;let el:n.length=g.length:=R.len;let A:∀ i,i∈D->(n++[(⟨x,th,tg,ab⟩:YQ)]).getD i .d=n.getD i .d:=λi k=>IQ (by have:=R.lt i k;lia)
 let E:(n++[(⟨x,th,tg,ab⟩:YQ)]).getD g.length .d=⟨x,th,tg,ab⟩:=by rw[<-el];exact IY
 let y:∀ i,i∈D->∃ C l o,H (n.getD i .d).x=some (.ins kh C l)/\H (n.getD i .d).th=some (.lst o)/\H (n.getD i .d).ab=some (.lst (iN (B i))):=λi k=>by
  let⟨C,u⟩:=(R.tw i k).tw.self;let⟨l,p,_⟩:=(R.tw i k).things;exact⟨C,_,l,u,p,(R.tw i k).tw.above⟩
 let nS:x≠S:=(ZZ T nx).symm;let F:ab≠N:=(ZZ hl r).symm;let O:th≠N:=(ZZ hl s).symm;refine⟨by rw[en];exact R',λi k=>by rw[en];exact(a i k).elim (λc=>by have:=R.lt i c;lia) (λc=>by lia),?_,λi k=>?_,by simp[el],λi k=>?_,λi k=>?_,λi j k hj L=>?_⟩
 ·rw[LV _ nv,zD,R.keys,zD];rfl
 ·rw[Ks];rcases a i k with c | rfl
  ·rw[aK (λz=>by have:=Sum.inl.inj z;have:=R.lt i c;lia),A i c]
   exact R.val i c
  ·rw[aM rfl,E]
 ·rcases a i k with c | rfl
  ·let Wi:=R.tw i c;let⟨C,l,o,u,p,v⟩:=y i c;let il:=R.lt i c;let ni:i≠g.length:=∅
   let G:=Wi.frame m (λo' e=>Q _ _ (R.own i c).1 (ZV u U) e) (λo' e=>Q _ _ (ZV p T) (ZV p U) e) (λo' e=>Q _ _ (ZV v T) (ZV v U) e);rw[A i c];exists ?_,?_
   ·rw[show W9 g.length B i=B i from aK ni,show Wy g.length M i=M i from aK ni];exact G.tw
   ·rw[QU il];exact G.things
   ·rw[QU il];exact G.tag
  ·rw[E];exists ?_,?_
   ·rw[show W9 g.length B g.length=[] from aM rfl,show Wy g.length M g.length=1 from aM rfl];exact W
   ·rw[UR];exact Y
   ·rw[UR];exact X
 ·rcases a i k with c | rfl
  ·rw[A i c];exact R.own i c
  ·rw[E];exact⟨nS,F,O,I⟩
 ·rcases a i k with c | rfl
  ·rw[A i c];rcases a j hj with J | rfl
   ·rw[A j J];exact R.two i j c J L
   ·rw[E];let⟨C,l,o,u,p,v⟩:=y i c;exact⟨ZZ u nx,ZZ v r,ZZ v s,ZZ p s⟩
  ·rw[E];rcases a j hj with J | rfl
   ·rw[A j J];let⟨C,l,o,u,p,v⟩:=y j J;exact⟨(ZZ u nx).symm,(ZZ v r).symm,(ZZ p r).symm,(ZZ p s).symm⟩
   ·exact absurd Z L
inductive XE(kg kh:ak)(k:jf)(H:Hp)(Q:VK)(_:XK):Prop
 |mk(S d g:ak)(n:Nat)(a:List (ZT×V))(h:jf)(j i:V)(_:k=[.ref S,j,i])(_:XZ kg H S d g n a h)(_:a.length<=900)(_:∀(c:Hp)(x e:ak),H x=none->H e=none->(∀ b o,b≠S->b≠d->H b=some o->c b=some o)->XZ kg c S d g (n+1) (Yj a (.inl (n:Int)) (.ref x)) h->Wq kh c x j i e 1 []->Q (.int (n:Int)) c)
theorem VC:ZB ["self","things","label","number"] zEt (Zc Kt):=Zs
theorem Af(F:Zg K "put_twig" "Shelf.put_twig" Kt f fd)(L:Yg K mg kg kh)(DM:QG P w K mg kj 1 kh zEx (Qs kh)):ZI P w K mg kj ZM 3 f fd zEt (XE kg kh):=by
 refine F.ko VC λa1 A Y s H vs Q E hr h=>?_;let⟨S,d,c,n,T,ls,th,tg,rfl,R,a0,k⟩:=h;let nd:=VC.nd;let hu:=OV hr;intro Xc;refine⟨_,ZL (Ze 3 nd (XS (pv 0) rfl)) (ZL (U3 (pv 0) (Zj Xg (pv 3) ZJ) rfl)
  (ZL (Lj hu (XS (pv 0) rfl) (pv 3) (ZQw DM hr rfl L.twig (Zx (pv 1) (pv 2))) rfl) (ZR (Zh (pv 3))))),?_⟩
 let⟨⟨a,y⟩,J,M⟩:=R;let Sd:S≠d:=ZV y J;let Sl:S≠c:=ZV y M;let dl:d≠c:=ZV J M;exists _,Z,S,kg,a,_,.int n,Z,y,L.cS,L.nf,Z;exists _,Z,_,_,Z,Z,_,Z,S,kg,a,_,Z,y,L.cS,L.nf,yN Z;let l:upd H S (.ins kg a (Yu "following" (.int ((n:Int)+1)) (OF d c n))) S=some (.ins kg a (OF d c (n+1))):=ZX;let q:upd H S (.ins kg a (Yu "following" (.int ((n:Int)+1)) (OF d c n))) d=some (.dK T):=by rw[ZQ (Ne.symm Sd)];exact J
 let r:upd H S (.ins kg a (Yu "following" (.int ((n:Int)+1)) (OF d c n))) c=some (.lst ls):=by rw[ZQ (Ne.symm Sl)];exact M
 let u:∀ b o,b≠S->H b=some o->upd H S (.ins kg a (Yu "following" (.int ((n:Int)+1)) (OF d c n))) b=some o:=λb o n e=>by rw[ZQ n];exact e
 let j:∀ b,upd H S (.ins kg a (Yu "following" (.int ((n:Int)+1)) (OF d c n))) b=none->H b=none:=λb e=>by
  by_cases z:b=S
  ·rw[z,ZX] at e;cases e
  ·rw[ZQ z] at e;exact e
 generalize upd H S (.ins kg a (Yu "following" (.int ((n:Int)+1)) (OF d c n)))=B at l q r u j⊢;exists _,Z,_,Z;intro x G nx V ne;let g1:=Zl V (.own x);let X:upd B G (.own x) x=none:=by rw[ZQ (Ne.symm ne)];exact nx
 let g2:=Zl X (.ins kh G []);let g:=g1.trans g2;refine⟨x,G,th,tg,Z,ZX,λH2 C O U W=>⟨Z,?_⟩⟩;let v:∀ b o,B b=some o->H2 b=some o:=λb o e=>O b o (ZZ e nx) (g b o e);let m:=v _ _ l;let i:=v _ _ q;let N:=v _ _ r;let p:B C=none:=g.free U;let⟨I,t⟩:=W.self;let xd:x≠d:=ZV t i;let D:C≠d:=ZV W.above i;exists _,Z,S,kg,a,_,.ref d,Z,m,L.cS,L.nk,Z,_,Z,d,_,Z,Vw.k (k:=Sum.inl (n:Int)) i (Ym ∅)
 refine⟨_,Z,k _ x C (j _ nx) (j _ p) (λb o n1 n2 e=>?_) ⟨⟨a,?_⟩,ZX,?_⟩ ⟨⟨I,?_⟩,?_⟩⟩
 ·rw[ZQ n2];exact v b o (u b o n1 e)
 ·rw[ZQ Sd];exact m
 ·rw[ZQ (Ne.symm dl)];exact N
 ·rw[ZQ xd];exact t
 ·rw[ZQ D];exact W.above
theorem EG{H:Hp}{b:jr}{c:jf}(h:jX H (Z6 b) c):EJ H (b.map (·.1)) c:=by
 let k:c.length=b.length:=by have:=h.length;rw[<-this];exact zX _
 exists by rw[zX];exact k
 intro i u e;let⟨a,m,n,j,d,g,l,_⟩:=QS h e;exists a,m,n,d,g;rw[zU,zC,j];exact l
inductive Vr(b:jf)(H:Hp)(Q:VK)(_:XK):Prop
 |mk(v:V)(t:KT)(_:b=[v])(_:ZE H t v)(_:t.fits 3=true)(_:∀ a,ZD H a->Q v a)
theorem GJ:ZB zEo zEo (Zc Lq):=Zs
theorem ZH2(F:Zg K "checked" "checked" Lq f fd)(c:ZA P w K mg kj 6 "is_key" zEo U6):ZI P w K mg kj ZM 7 f fd zEo Vr:=by
 refine F.ko GJ λe A a s H m Q E g h=>?_;let⟨v,t,rfl,i,b,k⟩:=h;intro l;exists _,ZL (Z1 (UO (Xw (Zf c g (ZS (pv 0))))) WY Z2) (ZR (Zh (pv 0)));refine⟨_,Z,v,t,3,Z,i,b,λd j=>⟨_,Z,?_⟩⟩;rw[b];exact Zo ⟨_,Z,k d j⟩
inductive XQ(g:jf)(H:Hp)(Q:VK)(_:XK):Prop
 |mk(l:ak)(e:jf)(d:jr)(_:g=[.ref l])(_:H l=some (.lst e))(_:jX H (Z6 d) e)(_:∀ r∈d,r.fit)(_:e.length<=400)(_:∀(b:Hp)(c:ak)(a:jf),ZD H b->H c=none->b c=some (.lst a)->jX b (Z6 d) a->Q (.ref c) b)
theorem BP:ZB zEr zEr (Zc K7):=Zs
theorem ZH9(F:Zg K "own_rows" "own_rows" K7 f fd)(M:ZA P w K mg kj 7 "checked" zEo Vr):ZI P w K mg kj ZM 8 f fd zEr XQ:=by
 refine F.ko BP λa0 A J s H vs Q E W h=>?_;let⟨l,r,rs,rfl,y,V,hf,T,k⟩:=h;let lk:r.length=rs.length:=by have:=V.length;rw[<-this];exact zX _
 intro Xc;refine⟨_,ZR (Zh (VJ [] [] rfl (X9 (pv 0)) (λ_ _ _ _ _=>Wc)
   (λ_ _ _ _ _=>WC (Zx (Zf M W (ZS (YX K (pv 0) ZJ))) (Zf M W (ZS (YX K (pv 0) ZJ))))) trivial)),?_⟩
 exists _,Z,l,Z,⟨r,ZF.of y⟩;refine WT (n:=r.length) (λi z=>r[i]? = some z) (λD i t m=>ZD H m/\H D=none/\jX m (Z6 (rs.take i)) t) (Ym ∅)
  (λD i t m I d=>⟨r,r[i],ZF.of (d.1 _ _ y),by simp[I]⟩) (λD i t m z H4 I d X=>⟨X.1,X.2 r (ZF.of (d.1 _ _ y))⟩) (λD t m d=>⟨r,ZF.of (d.1 _ _ y),zY _⟩)
  (λD U=>⟨Zl U _,U,.nil⟩) (λD i t m z G a1 I hz d R hR=>?_) (λD t m G d=>?_)
 ·let⟨p,B,j⟩:=d;let⟨a,v,x,S,rfl,e2,Y,k2⟩:=QS V hz;let O:=p _ _ e2;let o:=hf _ (zJ S);refine⟨_,Z,.inr (.inl ⟨a,_,_,v,rfl,rfl,Zm.of O,rfl,v,_,rfl,Y.sm p,o.1,λH4 L=>?_⟩)⟩;refine⟨_,Z,.inr (.inl ⟨a,_,_,x,rfl,rfl,Zm.of (L _ _ O),rfl,x,_,rfl,k2.sm (p.trans L),o.2,λN s5=>?_⟩)⟩;exists YE;intro q hq;let g:=Zl hq (.tup [v,x]);let c:=(L.trans s5).trans g;let u:=c _ _ G;let C:Zt (upd N q (.tup [v,x])) (upd (upd N q (.tup [v,x])) D (.lst (t++[.ref q]))):=λb xs e=>by rw[ZQ (ZV e u)];exact e
  refine hR _ _ u ⟨VQ (p.trans c) B,B,?_⟩;rw[yS,S,Pw];refine((j.sm c).mono C _ _).append (.cons (.tup (C _ _ ZX) (.cons ?_ (.cons ?_ .nil))) .nil)
  ·exact(Y.sm (p.trans c)).mono C _ _
  ·exact(k2.sm (p.trans c)).mono C _ _
 ·let⟨p,B,j⟩:=d;rw[zE ∅] at j
  exact k m D t p B G j
inductive VW(g:jf)(H:Hp)(Q:VK)(_:XK):Prop
 |mk(l:ak)(d:jf)(c:jo)(_:g=[.ref l])(_:H l=some (.lst d))(_:jX H c d)(_:∀ t∈c,t.fits 3=true)(_:d.length<=400)(_:c.Pairwise (λa b=>a.lt b=true))(_:∀ e,ZD H e->Q (.bl true) e)
theorem ZPo:ZB zFe zFe (Zc IN):=Zs
theorem Lm{c:Type}{R:c->c->Prop}:∀{l:List c},l.Pairwise R->∀{i j:Nat}{a b:c},i<j->l[i]? = some a->l[j]? = some b->R a b
 | [],_,_,_,_,_,_,h,_=>by simp at h
 | x::l,hp,0,j+1,a,b,_,ha,hb=>by
  simp at ha hb;subst ha;exact(xK.mp hp).1 b (zJ hb)
 | x::l,hp,i+1,j+1,a,b,hij,ha,hb=>by
  simp at ha hb;exact Lm (xK.mp hp).2 ∅ ha hb
theorem ZNl(F:Zg K "rise" "rise" IN f fd)(T:Yd mg)(S:ZA P w K mg kj 7 "ahead" zEs Yy):ZI P w K mg kj ZM 8 f fd zFe VW:=by
 refine F.ko ZPo λU A y s H vs Q E hr h=>?_;let⟨l,c,ks,rfl,L,t,J,G,u,k⟩:=h;let lk:=t.length;intro Xc;refine⟨_,ZR (Zh (YG (HN rfl) rfl T.all Jd (ZS (VJ [0] zFe rfl (Jr rfl T.range (Zx ZJ (YG Xd rfl T.len XG (ZS (pv 0))))) (λ_ _ _ _ _=>Wc)
  (λ_ _ _ _ _=>Zf S hr (Zx (YX K (pv 1) (Zj Vg (pv 0) ZJ)) (YX K (pv 1) (pv 0)))) ⟨rfl,.inl rfl,rfl,trivial⟩)))),?_⟩
 exists _,Z,l,c,Z,.inl (ZF.of L),1,(c.length:Int),Z,⟨nofun,nofun,nofun,nofun⟩
 refine WT (n:=((c.length:Int)-1).toNat) (λi x=>x=.int (1+(i:Int))) (λD i j d=>ZD H d/\H D=none/\j=(uR i true).map V.bl) (Ym nofun)
  (λD i j d q _=>q) (λD i j d x z q _ hy=>hy) (λD j d _=>zY _) (λD I=>⟨Zl I _,I,Z⟩) (λD i j d x o a0 q hx p R Y=>?_) (λD j d o p=>?_)
 ·subst hx;let⟨g,v,rfl⟩:=p;let r:i+1<c.length:=nofun
  let N:c[i]? = some (c[i]'nofun):=zV nofun
  let O:c[i+1]? = some c[i+1]:=zV r;let X:(1:Int)+(i:Int)=((i+1:Nat):Int):=nofun
  let W:(1:Int)+(i:Int)-1=((i:Nat):Int):=nofun
  let⟨a,B,ka⟩:=t.get N;let⟨b,C,kb⟩:=t.get O;let m:=g _ _ L;refine⟨_,Z,_,Z,_,_,Z,Z,.inl ⟨l,c,_,_,Z,Z,ZF.of m,(by rw[W];exact Vd N),?_⟩⟩
  refine⟨_,Z,_,Z,.inl ⟨l,c,_,_,Z,Z,ZF.of m,(by rw[X];exact Vd O),?_⟩⟩
  exists _,_,a,b,Z,ka.sm g,kb.sm g,J a (zJ B),J b (zJ C);intro z M;rw[Lm u (wR i) B C];refine Y _ z (M D _ o) ⟨VQ (g.trans M) v,v,?_⟩;rw[List.replicate_succ',zD];rfl
 ·let⟨g,v,rfl⟩:=p;exists D,_,Z,ZF.of o;let e:(uR ((c.length:Int)-1).toNat true).all id=true:=by simp
  rw[e];exact k d g
def WD(c:jr):Prop:=(∀ r∈c,r.fit)/\0<c.length/\c.length<=4/\(c.map (·.1)).Pairwise (λa b=>a.lt b=true)
inductive Xn(g:jf)(H:Hp)(Q:VK)(_:XK):Prop
 |mk(l:ak)(e:jf)(d:jr)(_:g=[.ref l])(_:H l=some (.lst e))(_:jX H (Z6 d) e)(_:WD d)(_:∀(b:Hp)(c:ak)(a:jf),ZD H b->H c=none->b c=some (.lst a)->jX b (Z6 d) a->Q (.ref c) b)
theorem Vt:ZB ["rows","own"] zEr (Zc Kj):=Zs
theorem ZJO(F:Zg K "checked_rows" "checked_rows" Kj f fd)(T:Yd mg)(W:ZA P w K mg kj 8 "own_rows" zEr XQ)(X:ZA P w K mg kj 8 "rise" zFe VW):ZI P w K mg kj ZM 9 f fd zEr Xn:=by
 refine F.ko Vt λY A J s H vs Q E S h=>?_;let⟨l,V,y,rfl,hl,O,⟨N,h0,h4,I⟩,k⟩:=h;let nd:=Vt.nd;let lk:V.length=y.length:=by have:=O.length;rw[<-this];exact zX _
 let⟨t4,m4⟩:=T.rows;intro Xc;refine⟨_,ZL (Ze 1 nd (Zf W S (ZS (pv 0))))
  (ZL (Z1 (PW.pt (UQ (UO (LE Qc Qc ZJ (YG Xd rfl T.len XG (ZS (pv 1))) (Wt (v:=.int 4) rfl m4 ⟨_,rfl⟩)))
   (QP (UO (Xw (Zf X S (ZS (VJ [] [] rfl (X9 (pv 1)) (λ_ _ _ _ _=>Wc) (λ_ _ _ _ _=>YX K (pv 0) ZJ) trivial)))))))) WY Z2)
  (ZR (Zh (pv 1)))),?_⟩
 exists _,Z,l,V,y,Z,hl,O,N,by lia
 intro B D b s3 nD u m;let ly:b.length=y.length:=by have:=m.length;rw[<-this];exact zX _
 exists _,Z,D,b,Z,.inl (ZF.of u),_,_,Z,Z,_,Z;rw[aJ (show (1:Int)<=(b.length:Int) by lia)]
 refine YM ⟨_,_,Z,Z,_,Z,?_⟩;rw[aJ (show (b.length:Int)<=4 by lia)]
 refine Zo ?_;exists _,Z,D,Z,⟨b,ZF.of u⟩;refine WT (n:=b.length) (λi z=>b[i]? = some z) (λe i q g=>ZD B g/\B e=none/\jX B ((y.map (·.1)).take i) q) (Ym ∅)
  (λe i q g C d=>⟨b,b[i],ZF.of (d.1 _ _ u),by simp[C]⟩) (λe i q g z M C d U=>⟨U.1,U.2 b (ZF.of (d.1 _ _ u))⟩) (λe q g d=>⟨b,ZF.of (d.1 _ _ u),zY _⟩)
  (λe x=>⟨Zl x _,x,.nil⟩) (λe i q g z j a0 C hz d R hR=>?_) (λe q g j d=>?_)
 ·let⟨p,o,c⟩:=d;let⟨a,vk,vv,er,rfl,e2,k1,_⟩:=QS m hz;refine⟨_,Z,.inr (.inl ⟨a,_,_,vk,rfl,rfl,Zm.of (p _ _ e2),rfl,?_⟩)⟩;refine hR _ g j ⟨VQ p o,o,?_⟩;rw[yS,zC,er];exact c.append (.cons k1 .nil)
 ·let⟨p,o,c⟩:=d;rw[zE (by rw[zX];lia)] at c
  let lz:=c.length;rw[zX] at lz;refine⟨e,q,_,Z,j,c.sm p,λt ht=>?_,∅,I,λM L=>⟨_,Z,Zo ⟨_,Z,k M D b ((s3.trans p).trans L) nD (L _ _ (p _ _ u)) (m.sm (p.trans L))⟩⟩⟩
  let⟨r,G,rfl⟩:=zR.mp ht;exact(N r G).1
def VE(a:jr):ZN:=⟨0,a,[]⟩
inductive XI(kg kh:ak)(r:jf)(H:Hp)(Q:VK)(_:XK):Prop
 |mk(S d n l:ak)(h:jk)(c:jn)(k:Nat->jk)(m:Nat->Nat)(j:jv)(e:List (ZT×V))(p q:jf)(i:jr)(_:r=[.ref S,.ref l])(_:Zq kg kh H S d n h c k m j e p)(_:h.length<=900)(_:H l=some (.lst q))(_:jX H (Z6 i) q)(_:WD i)(_:∀(g:Hp)(a:YQ),H a.x=none->H a.th=none->H a.ab=none->(∀ b o,b≠S->b≠d->H b=some o->g b=some o)->Zq kg kh g S d n (h++[c.length]) (c++[VE i]) (W9 c.length k) (Wy c.length m) (j++[a]) (Yj e (.inl (c.length:Int)) (.ref a.x)) p->Q (.int (c.length:Nat)) g)
theorem VF:ZB ["self","rows","own"] zEz (Zc Kq):=Zs
theorem Jp{kg kh:ak}{H:Hp}{S d h:ak}{b:jk}{j:jn}{e:Nat->jk}{g:Nat->Nat}{c:jv}{a:List (ZT×V)}{i:jf}(R:Zq kg kh H S d h b j e g c a i):a.length=b.length:=by
 have:=congrArg wN R.keys;simpa using this
def Zp(c:jn)(a:jk):jr:=a.flatMap λb=>(gd c b).rows
def Y3(b:jn)(a:jk):ZN:=⟨(gd b (a.getD 0 0)).h+1,Zp b a,a⟩
def KF(c:jn):jk->Prop
 | a::b::r=>(Zy (gd c a)).hi.lt (Zy (gd c b)).lo=true/\KF c (b::r)
 | _=>True
theorem Fc{c:jn}:∀{bs:jk},(∀ j,j+1<bs.length->((YJ c bs).getD j .d).hi.lt ((YJ c bs).getD (j+1) .d).lo=true)->KF c bs
 | [],_=>trivial
 | [_],_=>trivial
 | a::b::r,h=>⟨h 0 (by simp),Fc (bs:=b::r) λj e=>h (j+1) (by simp at e⊢;lia)⟩
theorem Pz{t:ZN}(a:t.rows≠[]):∃ r b,t.rows=r::b/\(Zy t).lo=r.1:=by
 cases e:t.rows with
 | nil=>exact absurd e a
 | cons r b=>exact⟨r,b,Z,by unfold Zy;rw[e];rfl⟩
theorem Lp{t:ZN}(a:t.rows≠[]):∃ b r,t.rows=b++[r]/\(Zy t).hi=r.1:=by
 rcases sZ t.rows with e | ⟨b,r,e⟩
 ·exact absurd e a
 ·rw[tF] at e;exists b,r,e;unfold Zy;rw[e];simp[zU]
theorem Ae{g:jk}{j:jn}{i:Nat}{t:ZN}(h:Ye g j i t){x:KT}(a:x∈t.rows.map (·.1)){y:KT}(b:(Zy t).hi.lt y=true):x.lt y=true:=by
 let⟨k,r,e,d⟩:=Lp h.ne;let c:=h.up;rw[e,zD] at c a;rw[d] at b;rcases yW.mp a with a | a
 ·have:=(xJ.mp c).2.2 x a r.1 (by simp)
  exact lt_trans' _ _ _ this b
 ·simp at a;rw[a];exact b
theorem ZQT{l:jo}(g:l.Pairwise λa b=>a.lt b=true){z:KT}(e:l.head? = some z){x:KT}(d:x.lt z=true):∀ y∈l,x.lt y=true:=by
 cases l with
 | nil=>cases e
 | cons a l=>
  simp at e;subst e;intro y c;rcases zL.mp c with rfl | c
  ·exact d
  ·exact lt_trans' _ _ _ d ((xK.mp g).1 y c)
theorem GM{gt:jk}{ts:jn}(hw:WF gt ts):∀{bs:jk},(∀ b∈bs,b∈gt)->KF ts bs->((Zp ts bs).map (·.1)).Pairwise (λa b=>a.lt b=true)/\bs.Nodup
 | [],_,_=>⟨wL.nil,uS⟩
 | [a],hb,_=>by
  refine⟨?_,by simp⟩
  have:=(hw a (hb a (by simp))).up
  simpa [Zp] using this
 | a::b::r,hb,hn=>by
  let⟨h1,h2⟩:=GM hw (bs:=b::r) (λc hc=>hb c (zQ _ hc)) hn.2;let oa:=hw a (hb a (by simp))
  let ob:=hw b (hb b (by simp))
  let⟨rb,rs,eb,el⟩:=Pz ob.ne;let hd:((Zp ts (b::r)).map (·.1)).head? = some (Zy (gd ts b)).lo:=by
   rw[el];unfold Zp;rw[zB,eb];rfl
  let cross:∀ x∈(gd ts a).rows.map (·.1),∀ y∈(Zp ts (b::r)).map (·.1),x.lt y=true:=λx hx=>ZQT h1 hd (Ae oa hx hn.1);refine⟨?_,xU.mpr ⟨λhm=>?_,h2⟩⟩
  ·let e:Zp ts (a::b::r)=(gd ts a).rows++Zp ts (b::r):=by simp[Zp]
   rw[e,zD];exact xJ.mpr ⟨oa.up,h1,cross⟩
  ·let⟨ra,rs',ea,_⟩:=Pz oa.ne;let m1:ra.1∈(gd ts a).rows.map (·.1):=by rw[ea];simp
   let m2:ra.1∈(Zp ts (b::r)).map (·.1):=zR.mpr ⟨ra,yI.mpr ⟨a,hm,by rw[ea];simp⟩,Z⟩
   have:=cross _ m1 _ m2;rw[UW] at this;cases this
theorem QL{c:jn}{a:jk}{i:Nat}(b:i<a.length):(YJ c a).getD i .d=Zy (gd c (a.getD i 0)):=by
 unfold YJ;rw[zU,zC,zV b,zU,zV b];rfl
theorem K2{H:jk}{g:jn}(F:WF H g){c:jk}(x:∀ b∈c,b∈H){L:YT}(h:over (YJ g c)=some L):
  L=Zy (Y3 g c)/\c.Nodup/\2<=c.length/\c.length<=4/\(∀ b∈c,(gd g b).h+1=(Y3 g c).h)/\((Zp g c).map (·.1)).Pairwise (λa b=>a.lt b=true)/\Zp g c≠[]:=by
 unfold over at h;split at h
 case isFalse=>cases h
 case isTrue hc=>
  let⟨o,I,W⟩:=hc;let G:(YJ g c).length=c.length:=zX _;rw[G] at o I;let p:=PB.mpr W;unfold K4 at p;rw[G] at p;let B:KF g c:=Fc λj V=>(p j V).2;let⟨E,C⟩:=GM F x B;let U:∀ i,i<c.length->((YJ g c).getD i .d).h=((YJ g c).getD 0 .d).h:=λi n=>by
   cases i with
   | zero=>rfl
   | succ i=>exact(p i n).1
  let k:∀ i,i<c.length->c.getD i 0∈c:=λi n=>by rw[zU,zV n];exact xN _
  let J:=F _ (x _ (k 0 ∅))
  let Y:=F _ (x _ (k (c.length-1) ∅))
  let A:∀ b∈c,(gd g b).h+1=(Y3 g c).h:=λb y=>by
   let⟨i,n,e⟩:=List.getElem_of_mem y;have:=U i n;rw[QL n,QL ∅] at this
   let s:c.getD i 0=b:=by rw[zU,zV n,e];rfl
   rw[s] at this;have:=Int.ofNat.inj this;show (gd g b).h+1=(gd g (c.getD 0 0)).h+1
   lia
  let D:Zp g c≠[]:=λz=>by
   let⟨r,q,e,_⟩:=Pz J.ne;have:r∈Zp g c:=yI.mpr ⟨_,k 0 ∅,by rw[e];simp⟩
   rw[z] at this;simp at this
  refine⟨?_,C,o,I,A,E,D⟩;rw[<-yT.inj h];let v:((YJ g c).getD 0 .d).lo=(Zy (Y3 g c)).lo:=by
   rw[QL ∅]
   let⟨r,q,e,u⟩:=Pz J.ne;rw[u]
   cases c with
   | nil=>simp at o
   | cons b c=>
    unfold Zy Y3 Zp;let N:(gd g b).rows=r::q:=e;simp only[zB,N];rfl
  let t:((YJ g c).getD ((YJ g c).length-1) .d).hi=(Zy (Y3 g c)).hi:=by
   rw[G,QL ∅]
   let⟨q,r,e,u⟩:=Lp Y.ne;rw[u];rcases sZ c with z | ⟨M,b,z⟩
   ·rw[z] at o;simp at o
   ·rw[tF] at z;let Q:c.getD (c.length-1) 0=b:=by rw[z];simp[zU]
    rw[Q] at e;let T:Zp g c=Zp g M++q++[r]:=by rw[z];simp[Zp,e]
    unfold Zy Y3;simp only[T];simp[zU]
  let S:((YJ g c).map YT.m).sum=(Zy (Y3 g c)).m:=by
   have:∀ l:jk,((YJ g l).map YT.m).sum=((Zp g l).length:Int):=λl=>by
    induction l with
    | nil=>rfl
    | cons b l X=>
     let O:YJ g (b::l)=Zy (gd g b)::YJ g l:=rfl;let s:Zp g (b::l)=(gd g b).rows++Zp g l:=by simp[Zp]
     rw[O,s,yV,List.sum_cons,X,zW];show ((gd g b).rows.length:Int)+_=_
     lia
   exact this c
  let R:((YJ g c).getD 0 .d).h+1=(Zy (Y3 g c)).h:=by
   rw[QL ∅]
   show ((gd g (c.getD 0 0)).h:Int)+1=(((gd g (c.getD 0 0)).h+1:Nat):Int)
   lia
  rw[v,t,S,R]
theorem Ye.ext{j:jk}{a:jn}{t:ZN}{i:Nat}{u:ZN}(r:∀ b∈j,b<a.length)(h:Ye j a i u):Ye (j++[a.length]) (a++[t]) i u:=by
 exists h.ne,h.up,h.inn,h.leaf;intro z;let⟨k,m,g,n⟩:=h.stem z;let e:∀ b∈u.bs,gd (a++[t]) b=gd a b:=λb d=>QU (r b (g b d).1);exists k,m,λb d=>⟨yL _ (g b d).1,by rw[e b d];exact(g b d).2⟩
 rw[n];clear k m g n;have:∀ l:jk,(∀ b∈l,gd (a++[t]) b=gd a b)->(l.flatMap λb=>(gd a b).rows)=l.flatMap λb=>(gd (a++[t]) b).rows:=λl o=>by
  induction l with
  | nil=>rfl
  | cons b l q=>rw[zB,zB,o b (by simp),q λc p=>o c (zQ _ p)]
 exact this _ e
theorem WF.push{d:jk}{a:jn}{t:ZN}(e:∀ b∈d,b<a.length)(j:WF d a)(h:Ye d a a.length t):WF (d++[a.length]) (a++[t]):=λi g=>by
 rcases yW.mp g with c | c
 ·rw[QU (e i c)];exact(j i c).ext e
 ·rw[zH.mp c,UR];exact h.ext e
theorem EK{e:jk}{c:jn}(l:WF e c){d:jk}(g:∀ b∈d,b∈e){L:YT}(h:over (YJ c d)=some L):Ye e c c.length (Y3 c d):=by
 let⟨_,_,m,n,o,k,i⟩:=K2 l g h;refine⟨i,k,λr p=>?_,λz=>absurd z (by show (gd c (d.getD 0 0)).h+1≠0;lia),λ_=>⟨m,n,λb a=>⟨g b a,o b a⟩,Z⟩⟩
 let⟨b,a,j⟩:=yI.mp p;exact(l b (g b a)).inn r j
theorem A7{e:jk}{g:jn}(j:WF e g){c:jk}(h:∀ b∈c,b∈e)(i:Nat):((YJ g c).getD i .d).fit:=by
 rcases xG i c.length with a | a
 ·rw[QL a];refine LK (j _ (h _ ?_));rw[zU,zV a];exact xN _
 ·rw[zU,qV (by unfold YJ;rw[zX];exact a)]
  exact Dk
abbrev ZQi:jp:=["labels","at","many"]
theorem PF:ZB ZQi ["labels"] (Zc Ka):=Zs
theorem ZL6(D:ZA P w K mg kj 6 "is_key" zEo Xo):ZA P w K mg kj 6 "is_key" zEo U6:=by
 let⟨g,gd,a,b,j,m⟩:=D.ex;refine⟨g,gd,a.imp λn H Q E h=>?_,b,j,m⟩;let⟨v,t,q,e,i,d,k⟩:=h;exact⟨v,t.emb,λ_=>False,e,JK t v i,HA t q d,λc l=>by rw[JY];exact k c l⟩
theorem Bl{a:jF}{L:YT}(h:over a=some L):2<=a.length/\a.length<=4/\LH a=true/\L=⟨(a.getD 0 .d).h+1,(a.getD 0 .d).lo,(a.getD (a.length-1) .d).hi,(a.map YT.m).sum⟩:=by
 unfold over at h;split at h
 ·rename_i z
  cases h;exact⟨z.1,z.2.1,z.2.2,Z⟩
 ·cases h
inductive WK(e:jf)(H:Hp)(Q:VK)(_:XK):Prop
 |mk(l:ak)(c:jf)(b:jF)(L:YT)(_:e=[.ref l])(_:H l=some (.lst c))(_:Yi H b c)(_:∀ i,(b.getD i .d).fit)(_:over b=some L)(_:∀ a v,ZD H a->ZE a L.kt v->Q v a)
theorem AQ(F:Zg K "label_over" "label_over" Ka f fd)(T:Yd mg)(DS:ZA P w K mg kj 8 "stand_side_by_side" zE4 UE):ZI P w K mg kj ZM 9 f fd ["labels"] WK:=by
 refine F.ko PF λc3 A a8 s H vs Q E hr h=>?_;let⟨l,q,r,L,rfl,hl,hk,hf,a5,k⟩:=h;let⟨v2,v4,vc,rfl⟩:=Bl a5;let nd:=PF.nd;let a1:=hk.1;let⟨tf,mf⟩:=T.few;let⟨tm,mm⟩:=T.most;let⟨t0,m0⟩:=T.height;let⟨t1,m1⟩:=T.least;let⟨t2,m2⟩:=T.greatest;let⟨t3,m3⟩:=T.many;intro Xc;refine⟨_,ZL (Z1 (UO (LE Qc Qc (Wt (v:=.int 2) rfl mf ⟨_,rfl⟩) (YG Xd rfl T.len XG (ZS (pv 0))) (Wt (v:=.int 4) rfl mm ⟨_,rfl⟩))) WY Z2)
  (ZL (VD PassesOwn.never rfl (Jr rfl T.range (Zx ZJ (YG Xd rfl T.len XG (ZS (pv 0))))) (WG 1 nd)
   (ZR (Z1 (UO (Xw (Zf DS hr (Zx (YX K (pv 0) (Zj Vg (pv 1) ZJ)) (YX K (pv 0) (pv 1)))))) WY Z2)))
  (ZL (Ze 2 nd (YG (ZPh rfl) rfl T.sum B3 (ZS (VJ [] [] rfl (X9 (pv 0)) (λ_ _ _ _ _=>Wc) (λ_ _ _ _ _=>YX K (pv 0) (Wt (v:=.int 3) Z m3 ⟨_,Z⟩)) trivial))))
  (ZR (Zh (WC (Uu (Zj Xg (YX K (YX K (pv 0) ZJ) (Wt (v:=.int 0) rfl m0 ⟨_,rfl⟩)) ZJ)
   (YX K (YX K (pv 0) ZJ) (Wt (v:=.int 1) rfl m1 ⟨_,rfl⟩))
   (YX K (YX K (pv 0) (Uc UZ ZJ)) (Wt (v:=.int 2) rfl m2 ⟨_,rfl⟩))
   (pv 2))))))),?_⟩
 let O:∀(W:Hp)(i:Nat),ZD H W->i<q.length->∃(a:ak)(G C:V),q[i]? = some (.ref a)/\W a=some (.tup [.int (r.getD i .d).h,G,C,.int (r.getD i .d).m])/\ZE W (r.getD i .d).lo G/\ZE W (r.getD i .d).hi C:=λW i s' M=>by
  let hu:q[i]? = some q[i]:=zV M;let⟨a,G,C,e,e1,k1,k2⟩:=(hk.2 i _ hu).mono (ZD.tups s');exact⟨a,G,C,by rw[hu,e],e1,k1,k2⟩
 exists _,Z,l,q,Z,.inl (ZF.of hl),_,_,Z,Z,_,Z;let h2:2<=q.length:=nofun
 let h4:q.length<=4:=nofun
 rw[aJ (show (2:Int)<=(q.length:Int) from nofun)]
 refine YM ⟨_,_,Z,Z,_,Z,?_⟩;rw[aJ (show (q.length:Int)<=4 from nofun)]
 refine Zo ?_;exists _,Z,l,q,Z,.inl (ZF.of hl),1,(q.length:Int),Z,⟨nofun,nofun,nofun,nofun⟩
 refine Nz (lo:=1) (n:=((q.length:Int)-1).toNat) (λi σ X=>∃ x:jg,σ=[some (.ref l),x,none]/\ZD H X/\∀ j,j<i->Qq (r.getD j .d) (r.getD (j+1) .d)=true) ⟨_,Z,ZD.refl H,λj hj=>absurd hj nofun⟩ ?_ ?_
 ·rintro i σ X M ⟨x,rfl,I,a2⟩;let a3:i+1<q.length:=nofun
  let ua:q[i]? = some (q[i]'nofun):=zV nofun
  let ub:q[i+1]? = some q[i+1]:=zV a3;let e1:(1:Int)+(i:Int)=((i+1:Nat):Int):=nofun
  let e0:(1:Int)+(i:Int)-1=((i:Nat):Int):=nofun
  let t:=I _ _ hl;refine⟨_,Z,_,Z,_,_,Z,Z,.inl ⟨l,q,_,_,Z,Z,ZF.of t,(by rw[e0];exact Vd ua),?_⟩⟩
  refine⟨_,Z,_,Z,.inl ⟨l,q,_,_,Z,Z,ZF.of t,(by rw[e1];exact Vd ub),?_⟩⟩
  refine⟨_,_,r.getD i .d,r.getD (i+1) .d,Z,(hk.2 i _ ua).mono (ZD.tups I),(hk.2 (i+1) _ ub).mono (ZD.tups I),hf i,hf (i+1),λu S=>⟨_,Z,?_⟩⟩;let hc:Qq (r.getD i .d) (r.getD (i+1) .d)=true:=xY.mp vc i (xO.mpr nofun)
  rw[hc];refine Zo ⟨_,Z,I.trans S,λj hj=>?_⟩;rcases xG j i with c1 | c1
  ·exact a2 j c1
  ·have:j=i:=nofun
   rw[this];exact hc
 rintro σ X ⟨x,rfl,I,a2⟩;let t:=I _ _ hl;exists _,Z,l,Z,⟨q,ZF.of t⟩;refine WT (n:=q.length) (λi z=>q[i]? = some z) (λD i U u=>ZD X u/\X D=none/\U=((r.map YT.m).take i).map V.int) (Ym nofun)
  (λD i U u M y=>⟨q,q[i],ZF.of (y.1 _ _ t),by simp[M]⟩) (λD i U u z H4 M y hy=>⟨hy.1,hy.2 q (ZF.of (y.1 _ _ t))⟩) (λD U u y=>⟨q,ZF.of (y.1 _ _ t),zY _⟩)
  (λD hD=>⟨Zl hD _,hD,Z⟩) (λD i U u z eD c5 M hz y R hR=>?_) (λD U u eD y=>?_)
 ·let⟨S,nD,rfl⟩:=y;let⟨a,c0,a9,ua,ea,c6,c7⟩:=O u i (I.trans S) M;rw[ua] at hz;cases hz;refine⟨_,Z,.inr (.inl ⟨a,_,_,.int (r.getD i .d).m,rfl,rfl,Zm.of ea,rfl,?_⟩)⟩;refine hR _ u eD ⟨λb o e=>by rw[ZQ (ZZ e nD)];exact S b o e,nD,?_⟩
  let eg:(r.map YT.m)[i]? = some (r.getD i .d).m:=by
   rw[zC,zU,zV (show i<r.length from nofun)]
   rfl
  rw[yS,eg,zD];rfl
 ·let⟨S,nD,rfl⟩:=y;rw[zE (by rw[zX];lia (splits:=8))] at eD
  exists D,r.map YT.m,Z,ZF.of eD;let B:=I.trans S;let N:=B _ _ hl;let⟨c,a0,c4,uc,ec,a7,c9⟩:=O u 0 B nofun
  let⟨b,c2,Y,ub,eb,c8,a6⟩:=O u (q.length-1) B nofun
  let J:We q (-1)=some (.ref b):=by
   let e:q=q.dropLast++[.ref b]:=by
    let a4:q≠[]:=λz=>by rw[z] at h2;simp at h2
    let hg:q.getLast a4=.ref b:=by
     rw[qE];have:=(yZ.mp ub).2;exact this
    rw[<-hg,qI]
   rw[e];exact FJ _ _
  refine⟨_,Z,.inl ⟨l,q,_,.ref c,Z,Z,ZF.of N,Vd (j:=0) uc,.inr (.inl ⟨c,_,_,.int (r.getD 0 .d).h,rfl,rfl,Zm.of ec,rfl,_,_,rfl,rfl,?_⟩)⟩⟩;refine⟨_,Z,.inl ⟨l,q,_,.ref c,Z,Z,ZF.of N,Vd (j:=0) uc,.inr (.inl ⟨c,_,_,a0,rfl,rfl,Zm.of ec,rfl,?_⟩)⟩⟩;refine⟨_,Z,1,Z,.inl ⟨l,q,_,.ref b,Z,Z,ZF.of N,J,.inr (.inl ⟨b,_,_,Y,rfl,rfl,Zm.of eb,rfl,?_⟩)⟩⟩;exists _,Z,YE;intro p hp;let g:=Zl hp (.tup [.int ((r.getD 0 .d).h+1),a0,Y,.int (r.map YT.m).sum]);refine k _ _ (B.trans g) ?_;rw[<-a1];exact .tup ZX (.cons (.int _) (.cons (a7.sm g) (.cons (a6.sm g) (.cons (.int _) .nil))))
abbrev JW:Stmt:=WB (top 70) 19
abbrev K9:Stmt:=WB (top 70) 20
abbrev JO:Stmt:=WB (top 70) 2
inductive XD(kg kh:ak)(p:jf)(H:Hp)(Q:VK)(_:XK):Prop
 |mk(S d n l:ak)(g:jk)(h:jn)(k:Nat->jk)(m:Nat->Nat)(j:jv)(e:List (ZT×V))(o:jf)(c:jk)(_:p=[.ref S,.ref l])(_:Zq kg kh H S d n g h k m j e o)(_:H l=some (.lst (iN c)))(_:∀ b∈c,b∈g)(_:c.length<=100)(_:∀(D:ak)(i:jf)(a:Hp),ZD H a->H D=none->a D=some (.lst i)->Yi a (YJ h c) i->Q (.ref D) a)
theorem ZIJ:ZB zEf zEf (Zc JW):=Zs
theorem Ni{a:jk}{i:Nat}{z:V}(h:(iN a)[i]? = some z):∃ b,a[i]? = some b/\z=.int (b:Nat):=by
 unfold iN at h;rw[zC] at h;let⟨b,e,rfl⟩:=xZ.mp h;exact⟨b,e,Z⟩
theorem ZFB(F:Zg K "labels_of" "Shelf.labels_of" JW f fd)(L:Yg K mg kg kh)(T:ZC P w K mg kj ZM 2 kg "label" zEa (Xb kg kh λtg _ _=>tg)):ZI P w K mg kj ZM 3 f fd zEf (XD kg kh):=by
 refine F.ko ZIJ λV A I s H vs Q E hr h=>?_;let⟨S,d,lk,l,lv,q,av,ho,U,G,ls,j,rfl,R,v,hb,M,k⟩:=h;let li:(iN j).length=j.length:=zX _;intro Xc;exists _,ZR (Zh (VJ [0] zEh rfl (X9 (pv 1)) (λ_ _ _ _ _=>Wc) (λ_ _ _ _ _=>YV (E:=E0) (pv 1) L.cS T hr YC (ZS (pv 0))) ⟨rfl,.inl rfl,rfl,trivial⟩));exists _,Z,l,Z,⟨_,ZF.of v⟩;refine WT (n:=(iN j).length) (λi z=>(iN j)[i]? = some z) (λD i o a=>ZD H a/\H D=none/\Yi a (YJ q (j.take i)) o) (Ym ∅)
  (λD i o a C g=>⟨_,(iN j)[i],ZF.of (g.1 _ _ v),zV C⟩) (λD i o a z H4 C g O=>⟨O.1,O.2 _ (ZF.of (g.1 _ _ v))⟩) (λD o a g=>⟨_,ZF.of (g.1 _ _ v),zY _⟩)
  (λD N=>⟨Zl N _,N,Z,λi u e=>by simp at e⟩) (λD i o a z r a0 C hz g RR B=>?_) (λD us a r g=>?_)
 ·let⟨y,x,t⟩:=g;let⟨b,J,rfl⟩:=Ni hz;let m:=hb b (zJ J);let p:=R.same y;let⟨W,Y⟩:=p.sh.self;exists _,Z,S,W,_,Z,Y,Z,_,Z,S,d,lk,q.length,G,ls,(b:Int),_,_,_,_,_,_,Z,⟨p.sh,p.val b m,(p.tw b m).tw⟩;refine B _ a r ⟨VQ y x,x,?_⟩;let tD:Zt a (upd a D (.lst (o++[.ref (U.getD b .d).tg]))):=λc xs e=>by rw[ZQ (ZV e r)];exact e
  rw[yS,J];let X:YJ q (j.take i++(some b).toList)=YJ q (j.take i)++[Zy (gd q b)]:=by unfold YJ;simp
  rw[X];exact(t.snoc (p.tw b m).tag).mono tD
 ·let⟨y,x,t⟩:=g;rw[zE ∅] at t
  exact k D us a y x r t
inductive Z7(kg kh:ak)(q:jf)(H:Hp)(Q:VK)(_:XK):Prop
 |mk(S l:ak)(e:jy)(_:q=[.ref S,.ref l])(_:H l=some (.lst (e.map V.int)))(_:∃ h b,H S=some (.ins kg h b)/\b.lookup (wY "outside")=none)(_:∀ n∈e,∃(d i:ak)(m:Nat)(a:List (ZT×V))(j:jf)(x:ak)(o k:V)(g:ak)(c:Nat)(p:jf),Q2 kg kh H S d i m a j n x o k g c p/\1<=c)(_:Q .non H)
theorem WE:ZB ["self","numbers","number"] zEf (Zc K9):=Zs
theorem ZEO(F:Zg K "check_held" "Shelf.check_held" K9 f fd)(L:Yg K mg kg kh)(r:ZC P w K mg kj ZM 2 kg "outside" zEa (Xb kg kh λ_ j _=>.int j)):ZI P w K mg kj ZM 3 f fd zEf (Z7 kg kh):=by
 refine F.ko WE λv A p s H vs Q E I h=>?_;let⟨S,l,O,rfl,q,⟨y,fs,D,g⟩,G,k⟩:=h;let N:=WE.nd;intro Y;refine⟨_,ZR (VD PassesOwn.never rfl (X9 (pv 1)) (WG 2 N)
  (ZR (Z1 (Yb UD (YV (E:=E0) (pv 0) L.cS r I YC (ZS (pv 2))) ZJ (Z8 _)) WY Z2))),?_⟩
 refine⟨_,Z,l,Z,⟨_,ZF.of q⟩,PR (K:=K) (a:=l) (xs:=O.map V.int) (λi e c=>∃ x:jg,e=[some (.ref S),some (.ref l),x]/\c=H) ⟨_,Z,Z⟩ (λi e c _ C=>by let⟨_,_,rfl⟩:=C;exact ZF.of q) ?_ ?_⟩
 ·rintro i u e c b ⟨x,rfl,rfl⟩;rw[zC] at b;let⟨n,B,rfl⟩:=xZ.mp b;let⟨d,J,m,o,M,X,U,T,t,j,W,R,h1⟩:=G n (zJ B);exists _,Z,S,y,_,Z,D,g,_,Z,S,d,J,m,o,M,n,X,U,T,t,j,W,Z,R,Z,_,Z;rw[aI (λz=>by have:=O6 z;lia)]
  exact Zo ⟨_,Z,Z⟩
 ·rintro e c ⟨x,rfl,rfl⟩;exact k
inductive Yc(kg kh:ak)(s:jf)(H:Hp)(Q:VK)(_:XK):Prop
 |mk(S d p l:ak)(h:jk)(e:jn)(m:Nat->jk)(n:Nat->Nat)(j:jv)(i:List (ZT×V))(q:jf)(g:jk)(r:YT)(_:s=[.ref S,.ref l])(_:Zq kg kh H S d p h e m n j i q)(_:WF h e)(_:h.length<=800)(_:∀ b∈g,b∈h/\1<=n b/\(m b).length<=800)(_:H l=some (.lst (iN g)))(_:over (YJ e g)=some r)(_:∀(k:Hp)(a:YQ),H a.x=none->H a.th=none->H a.ab=none->(∀ c o,c≠S->c≠d->(∀ b:Nat,b∈h->c≠(j.getD b .d).x/\c≠(j.getD b .d).ab)->H c=some o->k c=some o)->Zq kg kh k S d p (h++[e.length]) (e++[Y3 e g]) (VH g e.length (W9 e.length m)) (W7 g (Wy e.length n)) (j++[a]) (Yj i (.inl (e.length:Int)) (.ref a.x)) q->Q (.int (e.length:Nat)) k)
abbrev ZL4:jp:=["self","numbers","branches","label","number"]
theorem VG:ZB ZL4 zEf (Zc JO):=Zs
theorem ZPV(a:jk):iN a=(a.map λb:Nat=>(b:Int)).map V.int:=by unfold iN;rw[vN];rfl
theorem Bx(F:Zg K "put_stem" "Shelf.put_stem" JO f fd)(T:Yd mg)(L:Yg K mg kg kh)(DL:ZC P w K mg kj ZM 3 kg "labels_of" zEf (XD kg kh))(DO:ZA P w K mg kj 9 "label_over" ["labels"] WK)(DC:ZC P w K mg kj ZM 3 kg "check_held" zEf (Z7 kg kh))(DT:ZC P w K mg kj ZM 3 kg "put_twig" zEt (XE kg kh))(DK:ZC P w K mg kj ZM 2 kg "take_over" zE2 (XX kg kh)):
  ZI P w K mg kj ZM 10 f fd zEf (Yc kg kh):=by
 refine F.ko VG λc3 A c0 s H vs Q E hr h=>?_;let⟨S,d,X,l,lv,k,av,ho,M,G,Y,g,Lb,rfl,R,hw,c2,B,hl,U,q3⟩:=h;let O:∀ b∈g,b∈lv:=λb h=>(B b h).1;let nd:=VG.nd;let C:=hr.mono (show 3<=9 by lia)
 let a8:=hr.mono (show 2<=9 by lia)
 let⟨eL,a7,c4,c5,c6,c9,c7⟩:=K2 hw O U;intro Xc;refine⟨_,ZL (Ze 2 nd (Vf Pb rfl T.list Pe (ZS (pv 1))))
  (ZL (Ze 3 nd (Zf DO hr (ZS (YV (E:=E0) (pv 0) L.cS DL C YC (ZS (pv 2))))))
  (ZL (XT (YV (E:=E0) (pv 0) L.cS DC C YC (ZS (pv 2))))
  (ZL (Ze 4 nd (YV (E:=E0) (pv 0) L.cS DT C YC (Zx (pv 2) (pv 3))))
  (ZL (XT (YV (E:=E0) (pv 0) L.cS DK a8 YC (Zx (pv 4) (pv 2))))
  (ZR (Zh (pv 4))))))),?_⟩
 exists _,Z,l,iN g,Z,.inl (ZF.of hl);intro D nD;let g1:=Zl nD (.lst (iN g));let y:upd H D (.lst (iN g)) D=some (.lst (iN g)):=ZX;generalize upd H D (.lst (iN g))=H1 at g1 y⊢;let R1:=R.same g1;let⟨a0,a4⟩:=R1.sh.self;exists _,Z,S,a0,_,Z,a4,Z,_,Z,S,d,X,D,lv,k,av,ho,M,G,Y,g,Z,R1,y,O,by lia
 intro D2 us H2 s2 e0 a3 a6;let c1:=g1.trans s2;exists D2,us,YJ k g,Lb,Z,a3,a6,A7 hw O,U;intro H3 v s3 kv;subst eL;let a:=c1.trans s3;let r:=R.same a;let⟨u,p⟩:=r.sh.self;let m:H3 D=some (.lst (iN g)):=s3 _ _ (s2 _ _ y);exists _,Z,S,u,_,Z,p,Z,_,Z,S,D,g.map (λb:Nat=>(b:Int)),Z,by rw[<-ZPV];exact m,⟨u,_,p,Z⟩,λn hn=>?_
 ·let⟨b,i,rfl⟩:=zR.mp hn;let j:=B b i;exact⟨d,X,k.length,G,Y,_,_,_,_,_,_,⟨r.sh,r.val b j.1,(r.tw b j.1).tw⟩,j.2.1⟩
 let kl:=Lu kv;let⟨I,e3,e2,rfl,c8,_,_⟩:=kl;let a9:=Lu kv;exists _,Z,S,u,_,Z,p,Z,_,Z,_,Z,S,d,X,k.length,G,Y,.ref D,.ref I,Z,r.sh,by rw[Jp R];lia
 intro H5 x J nx q W R5 W5;let V:Zt H3 H5:=λb ys e=>W b _ (ZV e p) (ZV e r.sh.kept) e;let N:H5 D=some (.lst (iN g)):=W _ _ (ZV m p) (ZV m r.sh.kept) m;let PP:=CQ (t:=Y3 k g) (x:=x) (th:=D) (tg:=I) (ab:=J) R (H':=H5) (λb o n1 n2 e=>W b o n1 n2 (a b o e)) (a.free nx) nD (a.free q) (ZZ m q).symm R5 W5
  ⟨iN g,N,λz=>absurd z (by show (gd k (g.getD 0 0)).h+1≠0;lia),λ_=>rfl⟩ (a9.mono V)
 let⟨a1,a5⟩:=R5.self;let el:M.length=k.length:=R.len;let aL:∀ b,b∈lv->(M++[(⟨x,D,I,J⟩:YQ)]).getD b .d=M.getD b .d:=λb O=>IQ (by have:=R.lt b O;lia)
 let aN:(M++[(⟨x,D,I,J⟩:YQ)]).getD k.length .d=⟨x,D,I,J⟩:=by rw[<-el];exact IY
 let en:(k++[Y3 k g]).length=k.length+1:=by simp
 refine⟨_,Z,S,a1,_,Z,a5,Z,_,Z,_,Z,S,d,X,D,_,_,_,_,_,_,Y,g,k.length,Z,PP,N,a7,λb i=>?_,λb i=>?_,λH6 a2 e1 R6=>⟨_,Z,?_⟩⟩
 ·let j:=B b i;let nb:b≠k.length:=by have:=R.lt b j.1;lia
  exists yL _ j.1,?_
  ·rw[show Wy k.length ho b=ho b from aK nb];exact j.2.1
  ·rw[show W9 k.length av b=av b from aK nb];lia
 ·rcases yW.mp i with c | c
  ·rw[aL b c];exact(ZZ (R.tw b c).tw.above nD).symm
  ·rw[zH.mp c,aN];exact ZZ m q
 ·refine q3 H6 ⟨x,D,I,J⟩ (a.free nx) nD (a.free q) (λc o n1 n2 n3 e=>?_) R6;refine a2 c o (λb i=>?_) (W c o n1 n2 (a c o e));rcases yW.mp i with z | z
  ·rw[aL b z];exact n3 b z
  ·rw[zH.mp z,aN];exact⟨ZZ e (a.free nx),ZZ e (a.free q)⟩
theorem EM(a:jr):(Zy (VE a)).kt=LY (a.map (·.1)):=by
 let b:(a.map (·.1)).length=a.length:=zX _;let c:(a.map (·.1)).getD 0 (.int 0)=(a.getD 0 rd).1:=by
  rw[zU,zU,zC];cases a[0]? <;> rfl
 let d:(a.map (·.1)).getD (a.length-1) (.int 0)=(a.getD (a.length-1) rd).1:=by
  rw[zU,zU,zC];cases a[a.length-1]? <;> rfl
 unfold LY Zy VE YT.kt;rw[b,c,d];rfl
inductive XY(kg kh:ak)(q:jf)(H:Hp)(Q:VK)(_:XK):Prop
 |mk(S d j l:ak)(n:Nat)(c:List (ZT×V))(k p:jf)(g:jr)(_:q=[.ref S,.ref l])(_:XZ kg H S d j n c k)(_:c.length<=900)(_:H l=some (.lst p))(_:jX H (Z6 g) p)(_:WD g)(_:∀(a:Hp)(x h m i:ak),H x=none->H h=none->H i=none->i≠h->(∀ b o,b≠S->b≠d->H b=some o->a b=some o)->XZ kg a S d j (n+1) (Yj c (.inl (n:Int)) (.ref x)) k->Wq kh a x (.ref h) (.ref m) i 1 []->(∃ e,a h=some (.lst e)/\jX a (Z6 g) e)->Z4 a (Zy (VE g)) (.ref m)->Q (.int (n:Nat)) a)
theorem ZGM(F:Zg K "put_leaf" "Shelf.put_leaf" Kq f fd)(L:Yg K mg kg kh)(W:ZA P w K mg kj 9 "checked_rows" zEr Xn)(X:ZA P w K mg kj 1 "label_of_rows" zEr XJ)(Y:ZC P w K mg kj ZM 3 kg "put_twig" zEt (XE kg kh)):
  ZI P w K mg kj ZM 10 f fd zEz (XY kg kh):=by
 refine F.ko VF λa0 A N s H vs Q E B h=>?_;let⟨S,d,lk,l,n,J,ls,us,O,rfl,R,q,hl,hk,G,k⟩:=h;let nd:=VF.nd;let C:=B.mono (show 1<=9 by lia)
 let D:=B.mono (show 3<=9 by lia)
 intro Xc;refine⟨_,ZL (Ze 2 nd (Zf W B (ZS (pv 1))))
  (ZR (Zh (YV (E:=E0) (pv 0) L.cS Y D YC (Zx (pv 2) (Zf X C (ZS (pv 2))))))),?_⟩
 exists _,Z,l,us,O,Z,hl,hk,G;intro H1 t g U M p j;let R1:=R.same U;let⟨dx,hS⟩:=R1.self;let lu:g.length=O.length:=by have:=j.length;rw[<-this];exact zX _
 exists _,Z,S,dx,_,Z,hS,Z,_,Z,_,Z,t,g,O.map (·.1),Z,p,EG j,by rw[lu];exact G.2.1
 intro H2 v T kv;rw[<-EM] at kv;let I:=Lu kv;let⟨V,a4,a3,rfl,a2,_,_⟩:=I;let I:=Lu kv;let c:=U.trans T;let R2:=R.same c;exists S,d,lk,n,J,ls,.ref t,.ref V,Z,R2,q;intro u x ab nx r y R3 W3;let⟨a1,m⟩:=R2.self;let i:Zt H2 u:=λb ys e=>y b _ (ZV e m) (ZV e R2.kept) e;let a:=T _ _ p;let z:u t=some (.lst g):=y _ _ (ZV a m) (ZV a R2.kept) a;exact k u x t V ab (c.free nx) M (c.free r) (ZZ a r).symm (λb o n1 n2 e=>y b o n1 n2 (c b o e)) R3 W3 ⟨g,z,j.mono (λb xs e=>i b xs (T _ _ e)) _ _⟩ (I.mono i)
theorem ZHz(D:ZC P w K mg kj ZM 10 kg "put_leaf" zEz (XY kg kh)):ZC P w K mg kj ZM 10 kg "put_leaf" zEz (XI kg kh):=by
 let⟨g,gd,M,s,b⟩:=D.ex;refine⟨g,gd,M,s.imp λvs H Q E h=>?_,b⟩;let⟨S,d,I,l,Y,O,V,X,U,o,J,T,r,e,R,c,F,C,G,k⟩:=h;exists S,d,I,l,O.length,o,J,T,r,e,R.sh,by rw[Jp R];exact c,F,C,G
 intro u x N L y nx j i a q v W n m;let⟨p,A,B⟩:=n;exact k u ⟨x,N,L,y⟩ nx j i q (CQ (t:=VE r) R q nx j i a v W ⟨p,A,λ_=>B,λz=>absurd Z z⟩ m)
structure Za where
 S:ak
 d:ak
 lv:jk
 ts:jn
 av:Nat->jk
 ho:Nat->Nat
 as:jv
 kvs:List (ZT×V)
structure Xj(kg kh:ak)(H:Hp)(X:Za)(lk:ak)(c:Nat)(ls:jf):Prop where
 sh:XZ kg H X.S X.d lk c X.kvs ls
 keys:X.kvs.map (·.1)=X.lv.map (λi:Nat=>(Sum.inl (i:Int):ZT))
 val:∀ i:Nat,i∈X.lv->YU X.kvs (Sum.inl (i:Int))=some (.ref (X.as.getD i .d).x)
 tw:∀ i:Nat,i∈X.lv->ON kh H X.ts X.av X.ho i (X.as.getD i .d)
 own:∀ i:Nat,i∈X.lv->(X.as.getD i .d).x≠X.S/\(X.as.getD i .d).ab≠lk/\(X.as.getD i .d).th≠lk
 le:X.ts.length<=c
section
variable{kg kh:ak}{H H':Hp}{X:Za}{lk lk':ak}{c c':Nat}{ls ls':jf}
theorem Zq.q{S d:ak}{j:jk}{e:jn}{g:Nat->jk}{h:Nat->Nat}{f:jv}{a:List (ZT×V)}(R:Zq kg kh H S d lk j e g h f a ls):Xj kg kh H ⟨S,d,j,e,g,h,f,a⟩ lk e.length ls:=
 ⟨R.sh,R.keys,R.val,R.tw,λi b=>⟨(R.own i b).1,(R.own i b).2.1,(R.own i b).2.2.1⟩,zY _⟩
theorem Xj.frame(R:Xj kg kh H X lk c ls)(r:XZ kg H' X.S X.d lk' c' X.kvs ls')(f:∀ b o,b≠X.S->b≠X.d->b≠lk->H b=some o->H' b=some o)(j:∀ i:Nat,i∈X.lv->(X.as.getD i .d).ab≠lk'/\(X.as.getD i .d).th≠lk')(q:X.ts.length<=c'):Xj kg kh H' X lk' c' ls':=by
 let⟨⟨s,h⟩,g,m⟩:=R.sh;refine⟨r,R.keys,R.val,λi a=>?_,λi a=>⟨(R.own i a).1,j i a⟩,q⟩;let W:=R.tw i a;let⟨t,n⟩:=W.tw.self;let⟨u,k,_⟩:=W.things;let l:=W.tw.above;let o:=R.own i a;exact W.frame (λb v e=>f b _ (ZV e h) (ZV e g) (ZV e m) e)
  (λp e=>f _ _ o.1 (ZV n g) (ZV n m) e)
  (λp e=>f _ _ (ZV k h) (ZV k g) o.2.2 e)
  (λp e=>f _ _ (ZV l h) (ZV l g) o.2.1 e)
theorem Xj.same(R:Xj kg kh H X lk c ls)(s:ZD H H'):Xj kg kh H' X lk c ls:=R.frame (R.sh.same s) (λb o _ _ _ e=>s b o e) (λi a=>(R.own i a).2) R.le
def GA(X:Za)(lk b:ak):Prop:=b=X.S\/b=X.d\/b=lk
theorem Xj.but(R:Xj kg kh H X lk c ls){p:ak}(s:ZK p H H')(f:¬ GA X lk p)(a:∀ i:Nat,i∈X.lv->(X.as.getD i .d).x≠p/\(X.as.getD i .d).ab≠p/\(X.as.getD i .d).th≠p)(t:Zt H H'):Xj kg kh H' X lk c ls:=by
 let⟨⟨g,h⟩,j,k⟩:=R.sh;refine⟨⟨⟨g,s _ _ h λz=>f (.inl z.symm)⟩,s _ _ j λz=>f (.inr (.inl z.symm)),s _ _ k λz=>f (.inr (.inr z.symm))⟩,R.keys,R.val,λi b=>?_,R.own,R.le⟩;exact(R.tw i b).frame t (λo e=>s _ _ e (a i b).1) (λo e=>s _ _ e (a i b).2.2) (λo e=>s _ _ e (a i b).2.1)
theorem Xj.rd(R:Xj kg kh H X lk c ls){i:Nat}(a:i∈X.lv):Q2 kg kh H X.S X.d lk c X.kvs ls (i:Int) (X.as.getD i .d).x (.ref (X.as.getD i .d).th) (.ref (X.as.getD i .d).tg) (X.as.getD i .d).ab (X.ho i) (iN (X.av i)):=⟨R.sh,R.val i a,(R.tw i a).tw⟩
end
theorem ZL3(t:ZN):(if ((t.h:Nat):Int) > 0 then ("stem" : Str) else "leaf")=kindOf t:=by
 unfold kindOf;by_cases h:t.h=0
 ·rw[aM h,aK ∅]
 ·rw[aK h,aM ∅]
inductive Yt(kg kh:ak)(k:jf)(H:Hp)(Q:VK)(_:XK):Prop
 |mk(X:Za)(d:ak)(c:Nat)(e:jf)(i:Nat)(_:k=[.ref X.S,.int (i:Int)])(_:Xj kg kh H X d c e)(_:i∈X.lv)(_:e.length<=390000)(_:∀(a:Hp)(j l:ak)(g:jf),(∀ b o,b≠d->H b=some o->a b=some o)->Xj kg kh a X d c (e++[.int (i:Int)])->a j=some (.tup [.str (kindOf (gd X.ts i)),.ref l])->H l=none->a l=some (.lst g)->((gd X.ts i).h=0->jX a (Z6 (gd X.ts i).rows) g)->((gd X.ts i).h≠0->g=iN (gd X.ts i).bs)->Q (.ref j) a)
theorem ZNG(D:ZC P w K mg kj ZM 2 kg "look" zEa (UH kg kh)):ZC P w K mg kj ZM 2 kg "look" zEa (Yt kg kh):=by
 let⟨g,r,M,F,b⟩:=D.ex;refine⟨g,r,M,F.imp λvs H Q E h=>?_,b⟩;let⟨X,V,c,Y,i,e,R,s,U,k⟩:=h;let W:=R.tw i s;let⟨C,O,u1,u2⟩:=W.things;let⟨a,a1,a0,I,N,k1,k2⟩:=W.tag;cases I;let o:=R.own i s;exists X.S,X.d,V,c,X.kvs,Y,i,_,_,_,_,_,_,C,_,_,e,R.rd s,O,N,Ne.symm o.2.2,Ne.symm o.2.1,U;intro y T t p v x u q;let l:=R.sh.looks;let m:Zt H y:=λb xs e=>p b _ (ZV e l) e;let⟨⟨G,A⟩,B,_⟩:=R.sh;let J:(if (Zy (gd X.ts i)).h > 0 then ("stem" : Str) else "leaf")=kindOf (gd X.ts i):=ZL3 _
 rw[J] at q;exact k y t T C p (R.frame ⟨⟨G,p _ _ (ZV A l) A⟩,p _ _ (ZV B l) B,v⟩ (λb o _ _ n e=>p b o n e) (λj L=>(R.own j L).2) R.le) q x u (λz=>(u1 z).mono m _ _) u2
inductive Y6(kg kh:ak)(e:jf)(H:Hp)(Q:VK)(_:XK):Prop
 |mk(X:Za)(a:ak)(c:Nat)(b:jf)(i:Nat)(_:e=[.ref X.S,.int (i:Int)])(_:Xj kg kh H X a c b)(_:i∈X.lv)(_:Q (.ref (X.as.getD i .d).tg) H)
theorem C6(D:ZC P w K mg kj ZM 2 kg "label" zEa (Xb kg kh λo _ _=>o)):ZC P w K mg kj ZM 2 kg "label" zEa (Y6 kg kh):=by
 let⟨g,a,M,j,b⟩:=D.ex;refine⟨g,a,M,j.imp λp H Q E h=>?_,b⟩;let⟨X,m,c,n,i,e,R,l,k⟩:=h;exact⟨X.S,X.d,m,c,X.kvs,n,i,_,_,_,_,_,_,e,R.rd l,k⟩
end Tw
namespace L2
open PySem PySem.Spec PyProof.Rows
section
variable{σ:St}{H:Hp}{ix:jk}{te:TE}{Q:VK}
theorem Im{J:It}{n:Nat}{w:TT}(f:Nat->V->Prop)(c:Nat->Bool)(d:ak->Nat->jf->Hp->Prop)(M:n<ar)(s:∀ D i a H,i<n->d D i a H->J.go i H)(F:∀ D i a H x k,i<n->d D i a H->J.yld i H x k->k=H/\f i x)(g:∀ D a H,d D n a H->J.stop n H)(B:∀ D,H D=none->d D 0 [] (upd H D (.lst [])))(j:∀ D i a H x,H D=some (.lst a)->i<n->f i x->d D i a H->∀ R:Bool->Hp->Prop,(∀ h,h D=some (.lst a)->d D i a h->R (c i) h)->w (Nl σ ix x) H R)(q:∀ D i a H x,H D=some (.lst a)->i<n->f i x->c i=true->d D i a H->∀ R:VK,(∀ y l,l D=some (.lst a)->d D (i+1) (a++[y]) (upd l D (.lst (a++[y])))->R y l)->te (Nl σ ix x) H R)(G:∀ D i a H,H D=some (.lst a)->i<n->c i=false->d D i a H->d D (i+1) a H)(r:∀ D a H,H D=some (.lst a)->d D n a H->Q (.ref D) H):Vn J σ ix w te H Q:=by
 intro D C;exists λi m H=>m=n-i/\i<=n/\∃ a,H D=some (.lst a)/\a.length<=i/\d D i a H,⟨n,rfl,zM _,[],ZX,zY _,B D C⟩;rintro i m H ⟨rfl,L,a,e,E,p⟩;by_cases b:i<n
 ·refine .inr ⟨s D i a H b p,λx k y=>?_⟩;let⟨rfl,u⟩:=F D i a H x k b p y;refine j D i a _ x e b u p _ λh o v=>?_
  cases t:c i with
  | true=>
   rw[aM rfl];refine q D i a h x o b u t v _ λy l A I=>?_;exact⟨a,n-(i+1),A,∅,∅,Z,b,a++[y],ZX,by rw[zW,vY];lia,I⟩
  | false=>
   rw[aK zT];exact⟨n-(i+1),∅,Z,b,a,o,Nat.le_succ_of_le E,G D i a h o b t v⟩
 ·let z:i=n:=∅
  subst z;exact .inl ⟨g D a H p,r D a H e p⟩
end
end L2
namespace Tw
open PySem PySem.Spec L2 PyProof.Rows
variable{kg kh CS CT CH CK CP CB:ak}
def JG(c:jo):Prop:=c.Pairwise λa b=>b.lt a=false
theorem FR{d:jo}(h:JG d){i j:Nat}{a b:KT}(l:i<=j)(e:d[i]? = some a)(g:d[j]? = some b):b.lt a=false:=by
 let⟨k,rfl⟩:=yZ.mp e;let⟨m,rfl⟩:=yZ.mp g;rcases xG i j with c | c
 ·exact rB.mp h i j k m c
 ·have:i=j:=∅
  subst this;exact UW _
def cnt(a:jo)(t:KT):Nat:=(a.filter λx=>x.lt t).length
theorem ZOX{ts:jo}{t:KT}{m:Nat}(o:m<=ts.length)(l:∀ i a,i<m->ts[i]? = some a->a.lt t=true)(n:∀ i a,m<=i->ts[i]? = some a->a.lt t=false):cnt ts t=m:=by
 unfold cnt;let e:ts=ts.take m++ts.drop m:=(yD m ts).symm;rw[e,wP,zW];let h:(ts.take m).filter (λx=>x.lt t)=ts.take m:=vF.mpr λa c=>by
  let⟨i,d⟩:=vD c;let b:i<m:=by
   have:=(yZ.mp d).1;rw[yJ] at this
   lia
  rw[List.getElem?_take,aM b] at d;exact l i a b d
 let k:(ts.drop m).filter (λx=>x.lt t)=[]:=uC.mpr λa c=>by
  let⟨j,g⟩:=vD c;rw[rW] at g;rw[n (m+j) a (wT _ _) g];exact zT
 rw[h,k,yJ];simp
 lia
inductive VR(K:zZ)(d:jf)(H:Hp)(Q:VK)(_:XK):Prop
 |mk(l:ak)(b:jf)(a:jo)(v:V)(t:KT)(_:d=[.ref l,v])(_:ZF K H l b)(_:jX H a b)(_:∀ t∈a,t.fits 3=true)(_:b.length<=100)(_:JG a)(_:ZE H t v)(_:t.fits 3=true)(_:∀ c,ZD H c->Q (.int (cnt a t:Nat)) c)
abbrev ZPB:jp:=["keys","key","low","high","middle"]
theorem Uz:ZB ZPB zFp (Zc IX):=Zs
theorem ZLr(F:Zg K "place_in" "place_in" IX f fd)(T:Yd mg)(DA:ZA P w K mg kj 7 "ahead" zEs Yy):ZI P w K mg kj ZM 8 f fd zFp (VR K):=by
 refine F.ko Uz λa0 A J s H vs Q E hr h=>?_;let⟨l,n,p,v,t,rfl,X,W,hf,R,S,hv,ht,q⟩:=h;let C:=Uz.nd;let Y:=W.length;intro Xc;refine⟨_,ZL (Ze 2 C ZJ)
  (ZL (Ze 3 C (YG Xd rfl T.len XG (ZS (pv 0))))
  (ZL (P5 PassesOwn.never (Yb Ol (pv 2) (pv 3) (Z8 _))
   (ZL (Ze 4 C (Zj P3 (Zj Xg (pv 2) (pv 3)) ZJ))
   (ZR (Z1 (Xw (Zf DA hr (Zx (YX K (pv 0) (pv 4)) (pv 1))))
    (ZR (Ze 2 C (Zj Xg (pv 4) ZJ))) (ZR (Ze 3 C (pv 4)))))))
  (ZR (Zh (pv 2))))),?_⟩
 exists _,Z,l,n,Z,.inl X;refine⟨λm σ D=>∃(g e:Nat)(x:jg),σ=[some (.ref l),some v,some (.int (g:Int)),some (.int (e:Int)),x]/\ZD H D/\g<=e/\e<=p.length/\m=e-g/\(∀ i a,i<g->p[i]? = some a->a.lt t=true)/\(∀ i a,e<=i->p[i]? = some a->a.lt t=false),
  ⟨_,0,n.length,none,Z,ZD.refl H,zM _,∅,Z,λi a e=>absurd e ∅,λi a e u=>?_⟩,?_⟩
 ·have:=(yZ.mp u).1
  lia
 rintro m σ H1 ⟨g,e,x,rfl,r,h1,h2,rfl,N,O⟩;exists _,Z,_,Z,_,_,Z,Z,_,Z;refine UI (λc=>?_) (λc=>?_)
 ·let a2:(g:Int)<(e:Int):=of_decide_eq_true c;exists λM D=>∃ m',m'<e-g/\∃(k d:Nat)(x:jg),M=[some (.ref l),some v,some (.int (k:Int)),some (.int (d:Int)),x]/\ZD H D/\k<=d/\d<=p.length/\m'=d-k/\(∀ i a,i<k->p[i]? = some a->a.lt t=true)/\(∀ i a,d<=i->p[i]? = some a->a.lt t=false),λ_ _ h=>h;exists _,Z,_,Z,_,_,Z,Z,_,_,Z,Z,⟨∅,by decide⟩
  obtain⟨b,em,j,y⟩:∃ b:Nat,((g:Int)+(e:Int)) / 2=(b:Int)/\g<=b/\b<e:=⟨((g+e) / 2:Nat),∅,∅,∅⟩
  show OC 4 (V.int (((g:Int)+(e:Int)) / 2)) _ _ _;rw[em];let G:b<n.length:=∅
  let B:n[b]? = some n[b]:=by simp[G]
  let⟨L,o,I⟩:=W.get B;refine⟨_,Z,_,Z,.inl ⟨l,n,_,n[b],Z,Z,r.seq X,Vd B,_,Z,n[b],v,L,t,Z,I.sm r,hv.sm r,hf L (zJ o),ht,λH2 s2=>⟨_,Z,?_⟩⟩⟩
  cases U:L.lt t with
  | true=>
   refine YM ⟨_,Z,_,_,Z,Z,e-(b+1),tI (wQ j y) (Nat.lt_succ_of_le j),b+1,e,_,Z,r.trans s2,∅,h2,Z,λi a d u=>?_,O⟩
   exact EQ (FR S (show i<=b by lia) u o) U
  | false=>
   refine Zo ⟨_,Z,b-g,Nat.sub_lt_sub_right j y,g,b,_,Z,r.trans s2,j,∅,Z,N,λi a d u=>?_⟩
   exact le_trans' U (FR S d o u)
 ·let a1:¬ (g:Int)<(e:Int):=λz=>c (aJ z);exists _,Z;rw[<-ZOX (ts:=p) (t:=t) (m:=g) ∅ N λi a d=>O i a ∅]
  exact q H1 r
def XU(a:jn)(k:KT)(i:Nat):Nat:=if (gd a i).h=0 then cnt ((gd a i).rows.map (·.1)) k else ((gd a i).bs.filter λb=>!k.lt (Zy (gd a b)).lo).length-1
def Uq(a:jn)(k:KT)(i:Nat):Nat:=(gd a i).bs.getD (XU a k i) 0
def Pj(a:jn)(k:KT):Nat->Nat->jM
 | 0,i=>[(i,XU a k i)]
 | n+1,i=>(i,XU a k i)::Pj a k n (Uq a k i)
theorem LB(a:jn)(k:KT):∀ n i,(Pj a k n i).length=n+1
 | 0,_=>rfl
 | n+1,i=>by rw[Pj,zI,LB]
theorem FM{c:jk}{a:jn}(f:WF c a){i:Nat}(e:i∈c)(d:(gd a i).h≠0)(k:KT):XU a k i<(gd a i).bs.length:=by
 have:=(f i e).stem d;unfold XU;rw[aK d];let l:=vB (λb=>!k.lt (Zy (gd a b)).lo) (gd a i).bs
 lia
theorem LD{b:jk}{a:jn}(f:WF b a){i:Nat}(d:i∈b)(c:(gd a i).h≠0)(k:KT):Uq a k i∈b/\(gd a (Uq a k i)).h+1=(gd a i).h/\(gd a i).bs[XU a k i]? = some (Uq a k i):=by
 let g:=FM f d c k;let j:=(f i d).stem c;let e:(gd a i).bs[XU a k i]? = some (Uq a k i):=by
  unfold Uq;rw[zU,zV g];rfl
 have:=j.2.2.1 _ (zJ e);exact⟨this.1,this.2,e⟩
inductive Ya(N:ak->Prop)(H:Hp)(t:ZN)(u:V):Prop
 |mk(b l a:_)(_:u=.ref b)(_:H b=some (.tup [.str (kindOf t),.ref l]))(_:H l=some (.lst a))(_:¬ N l)(_:t.h=0->jX H (Z6 t.rows) a)(_:t.h≠0->a=iN t.bs)
theorem Ya.off{N:ak->Prop}{H a:Hp}{t:ZN}{u:V}(h:Ya N H t u)(c:∀ b o,¬ N b->H b=some o->a b=some o)(m:Zt H a):Ya N a t u:=by
 let⟨j,l,k,e,d,f,n,g,i⟩:=h;exact⟨j,l,k,e,m _ _ d,c _ _ n f,n,λz=>(g z).mono m _ _,i⟩
theorem Ya.same{N:ak->Prop}{H a:Hp}{t:ZN}{u:V}(h:Ya N H t u)(s:ZD H a):Ya N a t u:=h.off (λb o _ e=>s b o e) (ZD.tups s)
theorem Kz{t:ZN}(h:t.h=0):kindOf t = "leaf" :=aM h
theorem Jw{t:ZN}(h:t.h≠0):kindOf t = "stem" :=aK h
theorem ZOD(t:ZN):decide (V.str (kindOf t)=V.str "leaf")=decide (t.h=0):=by
 by_cases h:t.h=0
 ·rw[Kz h,aJ rfl,aJ h]
 ·rw[Jw h,aI h];decide +kernel
theorem At{c:jk}{d:jn}(f:WF c d){i:Nat}(e:i∈c):JG ((gd d i).rows.map (·.1)):=(f i e).up.imp fun{a b} q=>Oq _ _ q
inductive YY(a:jf)(H:Hp)(Q:VK)(_:XK):Prop
 |mk(N:ak->Prop)(t:ZN)(u:V)(_:a=[u])(_:Ya N H t u)(_:Q (.bl (decide (t.h=0))) H)
theorem ZK5:ZB zFf zFf (Zc Kv):=Zs
theorem ZJh(F:Zg K "is_leaf" "is_leaf" Kv f fd):ZI P w K mg kj ZM 1 f fd zFf YY:=by
 refine F.ko ZK5 λb A a s H m Q E g h=>?_;let⟨i,t,u,rfl,⟨d,l,j,rfl,c,_⟩,k⟩:=h;intro e;exists _,ZR (Zh (Ud UD (Yx K (pv 0) ZJ) U0 (Z8 _)));exists _,Z,d,_,_,.str (kindOf t),Z,Z,Zm.of c,Z,Z;rw[ZOD];exact k
inductive XV(a:jf)(H:Hp)(Q:VK)(_:XK):Prop
 |mk(N:ak->Prop)(t:ZN)(u:V)(n:Nat)(_:a=[u,.int (n:Int)])(_:Ya N H t u)(_:t.h=0->Q .non H)(_:t.h≠0->∃ b,t.bs[n]? = some b/\Q (.int (b:Nat)) H)
theorem ZHp:ZB zFj zFj (Zc Jq):=Zs
theorem ZF9(F:Zg K "branch_at" "branch_at" Jq f fd)(d:ZA P w K mg kj 1 "is_leaf" zFf YY):ZI P w K mg kj ZM 2 f fd zFj XV:=by
 refine F.ko ZHp λe A a s H D Q E o h=>?_;let⟨v,t,u,n,rfl,c,p,r⟩:=h;intro y;exists _,ZL (Z1 (Xw (Zf d o (ZS (pv 0)))) (ZR (Zh Nq)) Z2) (ZR (Zh (YX K (Yx K (pv 0) ZJ) (pv 1))));exists _,Z,v,t,u,Z,c,_,Z;let⟨x,l,C,rfl,j,k,B,z,m⟩:=c;by_cases h:t.h=0
 ·rw[aJ h];exact YM (p h)
 ·rw[aI h];let⟨b,g,q⟩:=r h;let i:=m h;subst i;refine Zo ⟨_,Z,x,_,_,.ref l,Z,Z,Zm.of j,Z,_,Z,.inl ⟨l,_,_,.int (b:Nat),Z,Z,ZF.of k,Vd (by unfold iN;rw[zC,g];rfl),q⟩⟩
inductive Wf(kg kh:ak)(e:jf)(H:Hp)(Q:VK)(_:XK):Prop
 |mk(X:Za)(b:ak)(c:Nat)(d:jf)(i:Nat)(u v:V)(k:KT)(N:ak->Prop)(_:e=[.ref X.S,u,v])(_:Xj kg kh H X b c d)(_:WF X.lv X.ts)(_:i∈X.lv)(_:Ya N H (gd X.ts i) u)(_:ZE H k v)(_:k.fits 3=true)(_:∀ a,ZD H a->Q (.int (XU X.ts k i:Nat)) a)
theorem Vx:ZB ["shelf","found","key","begun"] zE7 (Zc IS):=Zs
theorem Nn{a:Type}(p:a->Bool){l:List a}{i:Nat}{b:a}(e:l[i]? = some b):(l.take (i+1)).filter p=(l.take i).filter p++(if p b=true then [b] else []):=by
 rw[yS,e,Option.toList_some,wP]
 congr 1
 rw[yE];cases p b <;> rfl
theorem ZIm(F:Zg K "place_within" "place_within" IS f fd)(T:Yd mg)(L:Yg K mg kg kh)(DL:ZA P w K mg kj 1 "is_leaf" zFf YY)(DP:ZA P w K mg kj 8 "place_in" zFp (VR K))(DA:ZA P w K mg kj 7 "ahead" zEs Yy)(DB:ZC P w K mg kj ZM 2 kg "label" zEa (Y6 kg kh)):
  ZI P w K mg kj ZM 9 f fd zE7 (Wf kg kh):=by
 refine F.ko Vx λc0 A a9 s H vs Q E hr h=>?_;let⟨X,lk,c,ls,i,u,v,k,N,rfl,R,hw,hi,hf,hv,fk,q⟩:=h;let nd:=Vx.nd;let a4:=hr.to 1;let a5:=hr.to 2;let a6:=hr.to 7;let⟨t1,m1⟩:=T.least;intro Xc;refine⟨_,ZL (Z1 (Xw (Zf DL a4 (ZS (pv 1)))) (ZR (Zh (Zf DP hr (Zx (VJ [] [] rfl (X9 (Yx K (pv 1) ZJ)) (λ_ _ _ _ _=>Wc) (λ_ _ _ _ _=>Yx K (pv 0) ZJ) trivial) (pv 2))))) Z2)
  (ZL (O8 (i:=3) [2,0] ["key","shelf"] nd rfl rfl rfl (X9 (Yx K (pv 1) ZJ)) (λ_ _ _ _ _=>HV (UO (Xw (Zf DA a6 (Zx (pv 1) (Yx K (YV (E:=E0) (pv 2) L.cS DB a5 YC (ZS (pv 0))) (Wt (v:=.int 1) rfl m1 ⟨_,rfl⟩))))))) (λ_ _ _ _ _=>pv 0) ⟨rfl,.inl rfl,rfl,rfl,.inl rfl,rfl,trivial⟩)
  (ZR (Zh (YG (Gg rfl) rfl T.max CC (Zx (Zj Vg (YG Xd rfl T.len XG (ZS (pv 3))) ZJ) ZJ))))),?_⟩
 exists _,Z,N,gd X.ts i,u,Z,hf,_,Z;let⟨tp,l,p,rfl,h1,I,n1,h3,h4⟩:=hf;let ok:=hw i hi;by_cases h:(gd X.ts i).h=0
 ·rw[aJ h];let kr:=h3 h;let lr:p.length=(gd X.ts i).rows.length:=by have:=kr.length;rw[<-this];exact zX _
  let l4:=(ok.leaf h).2;refine YM ⟨_,Z,tp,_,_,.ref l,Z,Z,Zm.of h1,Z,l,Z,⟨p,ZF.of I⟩,WT (n:=p.length) (λi z=>p[i]? = some z) (λD j g m=>ZD H m/\H D=none/\jX H (((gd X.ts i).rows.map (·.1)).take j) g) (Ym ∅)
   (λD j g m G d=>⟨p,p[j],ZF.of (d.1 _ _ I),by simp[G]⟩) (λD j g m z W G d hy=>⟨hy.1,hy.2 p (ZF.of (d.1 _ _ I))⟩) (λD g m d=>⟨p,ZF.of (d.1 _ _ I),zY _⟩)
   (λD Y=>⟨Zl Y _,Y,.nil⟩) (λD j g m z C c1 G V d RR a1=>?_) (λD g m C d=>?_)⟩
  ·let⟨o,y,x⟩:=d;let⟨a,vk,vv,er,rfl,ea,k1,k2⟩:=QS kr V;refine⟨_,Z,a,_,_,vk,Z,Z,Zm.of (o _ _ ea),Z,a1 _ m C ⟨VQ o y,y,?_⟩⟩;rw[yS,zC,er];exact x.append (.cons k1 .nil)
  ·let⟨o,y,x⟩:=d;rw[zE (by rw[zX];lia)] at x
   let a7:=x.length;rw[zX] at a7;refine⟨_,Z,D,g,_,v,k,Z,ZF.of C,x.sm o,λt ht=>?_,∅,At hw hi,hv.sm o,fk,λW s4=>?_⟩
   ·let⟨r,a3,rfl⟩:=zR.mp ht;exact(ok.inn r a3).1
   ·let e:XU X.ts k i=cnt ((gd X.ts i).rows.map (·.1)) k:=aM h;rw[<-e];exact q W (o.trans s4)
 ·rw[aI h];let eu:=h4 h;let ob:=ok.stem h;let lu:p.length=(gd X.ts i).bs.length:=by rw[eu];exact zX _
  refine Zo ⟨_,Z,tp,_,_,.ref l,Z,Z,Zm.of h1,Z,l,Z,⟨p,ZF.of I⟩,Im (n:=p.length) (λi z=>p[i]? = some z) (λj=>!k.lt (Zy (gd X.ts ((gd X.ts i).bs.getD j 0))).lo) (λD j g m=>ZD H m/\H D=none/\g.length=(((gd X.ts i).bs.take j).filter λb=>!k.lt (Zy (gd X.ts b)).lo).length) (Ym ∅)
   (λD j g m G d=>⟨p,p[j],ZF.of (d.1 _ _ I),by simp[G]⟩) (λD j g m z W G d hy=>⟨hy.1,hy.2 p (ZF.of (d.1 _ _ I))⟩) (λD g m d=>⟨p,ZF.of (d.1 _ _ I),zY _⟩)
   (λD Y=>⟨Zl Y _,Y,Z⟩) (λD j g m z C G V d B hB=>?_) (λD j g m z C G V hk d B hB=>?_) (λD j g m C G hk d=>?_) (λD g m C d=>?_)⟩
  ·let⟨o,y,J⟩:=d;rw[eu] at V;let⟨b,M,rfl⟩:=Ni V;let O:(gd X.ts i).bs.getD j 0=b:=by rw[zU,M];rfl
   let hb:=ob.2.2.1 b (zJ M);let U:b∈X.lv:=hb.1;let R3:=R.same o;let⟨dx,hS⟩:=R3.sh.self;let⟨a,a0,c2,ea,ht,k1,k2⟩:=(R3.tw b U).tag;cases ea;let a8:=hw b U;refine⟨_,Z,_,Z,X.S,dx,_,Z,hS,Z,_,Z,X,lk,c,ls,b,Z,R3,U,_,_,_,a0,Z,Z,Zm.of ht,Z,v,a0,k,(Zy (gd X.ts b)).lo,Z,hv.sm o,k1,fk,(LK a8).1,λW s4=>⟨_,Z,?_⟩⟩;have:=hB W (s4 _ _ C) ⟨o.trans s4,y,J⟩;rw[O] at this;exact this
  ·let⟨o,y,J⟩:=d;rw[eu] at V;let⟨b,M,rfl⟩:=Ni V;let O:(gd X.ts i).bs.getD j 0=b:=by rw[zU,M];rfl
   rw[O] at hk;refine⟨_,Z,hB _ m C ⟨VQ o y,y,?_⟩⟩;rw[Nn _ M,aM hk,zW,zW,J];rfl
  ·let⟨o,y,J⟩:=d;let a2:j<(gd X.ts i).bs.length:=∅
   let M:(gd X.ts i).bs[j]? = some ((gd X.ts i).bs.getD j 0):=by rw[zU,zV a2];rfl
   exists o,y;rw[Nn _ M,aK (by rw[hk];exact zT),zK]
   exact J
  ·let⟨o,y,J⟩:=d;rw[zE ∅] at J
   exists _,Z,D,g,Z,.inl (ZF.of C),_,_,Z,Z,_,_,Z;let e:XU X.ts k i=g.length-1:=by rw[J];exact aK h
   let e2:(if (0:Int) > ((g.length:Nat):Int)-1 then (0:Int) else ((g.length:Nat):Int)-1)=((XU X.ts k i:Nat):Int):=by
    rw[e];split <;> lia
   have:=q m o;rw[<-e2] at this;exact this
end Tw
namespace L2
open PySem PySem.Spec PyProof.Rows
section
variable{M:Model}
end
section
variable{ki:jq}{σ:St}{H:Hp}{E E1:XK}
end
section
variable{M:Model}{B:aD}{env:Env}{outer l:jz}{L e:ak}{cls:aj}{od:jx}{Q:Unit->am->Prop}
end
section
variable{ki:jq}{σ:St}{H:Hp}{E E1:XK}
end
section
variable{E:XK}
theorem ZH1{x:Str}{C:ak}{R c pos:Pos}(F:U2 X E)(O:OwnCls x C [.type "ValueError",.type "Exception",.type "BaseException",.type "object"] "ValueError.__new__" X.mg X.base)(P:yG X.K (.ref C)=true)(Q:wV X.K C (.type "BaseException")=some true)(M:uP X.K (.ref C)=some (.type "type"))(G:Gl X x)(j:(x==("__debug__" : Str))=false:=by decide):
  PS X (.Raise (some (.Call (.Name x R) [] [] c)) none pos) (λ_ _ H=>E (.ref C) none H):=by
 intro p s σ H D I h;let L:=I.ok.hd F.calm;rw[arm_exec_Raise];refine aa (wpAny_standAt ?_);refine ZIC L Q M (aa (ae ?_ (λv s3 w=>aa (wpAny_standAt (ad w))) λ_ _ z=>z));let i:=PySem.F.excBase_ValueError;let⟨tl,N,nm,q,Y,m,sn,U,V,r,dd,k0,k1,k2,k3,k5,mN,A,B,k,T⟩:=O.obj;refine ah (Mm I G O.bound ?_ j);refine rK I.kIn P ?_;let⟨hp,g,d,tk,os⟩:=s;refine wpAny_call_exc_subU (rest:=[]) i i.hasB i (T.keeps I.bk) (I.bk _ _ A) (B.keeps I.bk) k (λu b e=>?_) (zM _);let⟨tt,t,e2,e3⟩:=e.there;let J:=I.newx (C:=C) (ea:=b) (h':=u) e.keeps e.new ⟨_,_,t,Z,Z,Z,Z,Z⟩;let n:H b=none:=by
  cases z:H b with
  | none=>rfl
  | some o=>
   let⟨S,l⟩:=I.hok.there (a:=b) (by rw[z];exact λy=>nomatch y)
   have:=e.new;rw[l] at this;cases this
 let f:X.s₀.heap.get? b=none:=by
  cases z:X.s₀.heap.get? b with
  | none=>rfl
  | some o=>
   let⟨S,l⟩:=I.base.there b o z (by rw[F.ex];simp)
   have:=e.new;rw[l] at this;cases this
 exact⟨b,none,Z,J.kIn,(J.hok b _ ZX).1,AI F (J.untrack n) f n (J.hok b _ ZX).1 h⟩
end
end L2
namespace Tw
open PySem PySem.Spec L2 PyProof.Rows
variable{kg kh CS CT CH CK CP CB:ak}
def Od(N:ak->Prop)(H:Hp)(o:jI)(v:V):Prop:=match o with
 | some t=>ZE H t v/\t.fits 3=true
 | none=>∃ g:TG,Z5 N H g v/\g.neat/\g.fits 3=false
theorem Od.tg{N:ak->Prop}{H:Hp}{v:V}{o:jI}(h:Od N H o v):∃ g:TG,Z5 N H g v/\g.neat/\g.fits 3=o.isSome:=by
 cases o with
 | some t=>exact⟨t.emb,JK t v h.1,HA t 3 h.2,by rw[JY];exact h.2⟩
 | none=>exact h
structure Wo(P:ao)(w:aw)(K:zZ)(mg:jc)(kj:aD)(k:Nat)(x:Str)(ps:jp)(sp:Sp):Prop where
 ex:∃ f fd,ZI P w K mg kj (WA P w) k f fd ps sp/\Zv K fd ps []/\yG K (.ref f)=true/\mg x=some (.ref f)
theorem ZY.ofD{P:ao}{w:aw}{K:zZ}{d:jc}{a:aD}{x:Str}{i:aC}{e:jp}{k:Nat}{g:Sp}(L:ZY K d x i e)(h:∀ f c,Zg K x x i f c->ZI P w K d a (WA P w) k f c e g):Wo P w K d a k x e g:=by
 let⟨f,c,F,b,m⟩:=L.ex;exact⟨f,c,h f c F,b,F.kp,m⟩
theorem M7{X:Cx}{E:XK}{k:Nat}{x:Str}{r:jp}{g:Sp}{e:Expr}{a:jw}{t:TA}{p pos:Pos}(F:U2 X E)(D:Wo X.prog X.w X.K X.mg X.base k x r g)(o:ZU k X.A)(j:PA X (e::a) t)(n:Gl X x:=by rfl)(c:(x==("__debug__" : Str))=false:=by decide)(l:au (e::a) X.env=(false,aG e X.env)::au a X.env:=by rfl)(d:(aF pos (au a X.env)).any (·.1)=false:=by rfl):
  PE X (.Call (.Name x p) (e::a) [] pos) (Ki g [] E t):=by
 let⟨f,s,i,b,q,m⟩:=D.ex;exact Fi i o n m q b .nil (Gh F λ_ _ _ h=>h) j c l d
structure Dt(K:zZ)(mg:jc)(CK:ak):Prop where
 at_:mg "NoKey" = some (.ref CK)
 exk:KS K CK=true
 kp:yG K (.ref CK)=true
 mB:wV K CK (.type "BaseException")=some true
 ty:uP K (.ref CK)=some (.type "type")
def YR:js->V
 | none=>.non
 | some i=>.int (i:Int)
def UT(a:jn)(k:KT):js->jM
 | none=>[]
 | some i=>Pj a k (gd a i).h i
inductive XW(N:ak->Prop)(H:Hp)(b:jn)(p:Nat×Nat)(u:V):Prop
 |mk(t a:_)(_:u=.ref t)(_:H t=some (.tup [.int (p.1:Int),.int (p.2:Int),a]))(_:Ya N H (gd b p.1) a)
theorem XW.off{N:ak->Prop}{H a:Hp}{c:jn}{p:Nat×Nat}{u:V}(h:XW N H c p u)(d:∀ b o,¬ N b->H b=some o->a b=some o)(m:Zt H a):XW N a c p u:=by
 let⟨t,f,e,g,i⟩:=h;exact⟨t,f,e,m _ _ g,Ya.off i d m⟩
inductive Yz(CK:ak)(b:jf)(H:Hp)(Q:VK)(E:XK):Prop
 |mk(v:V)(N:ak->Prop)(o:jI)(_:b=[v])(_:Od N H o v)(_:o.isSome=true->∀ a,ZD H a->Q v a)(_:o=none->∀ a,ZD H a->E (.ref CK) none a)
theorem ZGU(F:Zg K "checked" "checked" Lq f fd)(a:K.In kj)(L:Dt K mg CK)(e:ZA P w K mg kj 6 "is_key" zEo Xo):ZI P w K mg kj (WA P w) 7 f fd zEo (Yz CK):=by
 refine F.kD GJ λi A b s H u Q E k h=>?_;let⟨v,N,o,rfl,l,m,n⟩:=h;intro r;exists _,ZL (Z1 (UO (Xw (Zf e k (ZS (pv 0))))) (ZR (ZH1 NE (AL a L.at_ L.exk) L.kp L.mB L.ty rfl)) Z2) (ZR (Zh (pv 0)));let⟨g,q,p,j⟩:=l.tg;refine⟨_,Z,v,g,N,Z,q,p,λc d=>⟨_,Z,?_⟩⟩;rw[j]
 cases o with
 | some t=>exact Zo ⟨_,Z,m Z c d⟩
 | none=>exact YM (n Z c d)
inductive YS(kg kh CK:ak):Sp
 |mk{X:Za}{b:ak}{c:Nat}{d:jf}{r:js}{v:V}{N:ak->Prop}{o:jI}{H:Hp}{Q:VK}{E:XK}:Xj kg kh H X b c d->(∀ i,r=some i->i∈X.lv)->Od N H o v ->
  (o=none->∀ a,ZD H a->E (.ref CK) none a)->(o.isSome=true->∀ a,ZD H a->Q .non a)->YS kg kh CK [.ref X.S,YR r,v] H Q E
theorem Bp:ZB zEd zEd (Zc IC):=Zs
theorem ZEI(F:Zg K "check_asked" "check_asked" IC f fd)(L:Yg K mg kg kh)(m:ZC P w K mg kj ZM 2 kg "label" zEa (Y6 kg kh))(l:Wo P w K mg kj 7 "checked" zEo (Yz CK)):ZI P w K mg kj (WA P w) 8 f fd zEd (YS kg kh CK):=by
 refine F.kD Bp λp A g s H G Q E k h=>?_;let⟨R,d,u,x,y⟩:=h;rename_i X B c C r v N o
 let e:=k.to 2;intro D;refine⟨_,ZL (Z1 (Uv (MU (pv 1))) (ZR (XT (YV (E:=E0) (pv 0) L.cS m e YC (ZS (pv 1))))) Z2)
  (ZR (XT (M7 NE l k (ZS (pv 2))))),?_⟩
 let a:Yz CK ([v]++[]) H (λ_ n=>Q .non n) E:=⟨v,N,o,Z,u,λz b j=>y z b j,λz b j=>x z b j⟩
 cases r with
 | none=>exact⟨_,Z,_,Z,Zo ⟨_,Z,a⟩⟩
 | some i=>
  refine⟨_,Z,_,Z,YM ?_⟩;let⟨q,t⟩:=R.sh.self;exact⟨_,Z,X.S,q,_,Z,t,Z,_,Z,X,B,c,C,i,Z,R,d i Z,_,Z,a⟩
def Zz(X:Za)(a c:ak):Prop:=c≠X.S/\c≠X.d/\c≠a/\∀ i,i∈X.lv->c≠(X.as.getD i .d).x/\c≠(X.as.getD i .d).ab/\c≠(X.as.getD i .d).th
def NM(X:Za)(a D b:ak):Prop:=b=D\/¬ Zz X a b
theorem Xj.newQ{kg kh:ak}{H:Hp}{X:Za}{d:ak}{c:Nat}{m:jf}(R:Xj kg kh H X d c m){b:ak}(n:H b=uW):Zz X d b:=by
 let⟨⟨e,h⟩,j,k⟩:=R.sh;exists (ZZ h n).symm,(ZZ j n).symm,(ZZ k n).symm;intro i a;let⟨e,l⟩:=(R.tw i a).tw.self;let⟨o,g,_⟩:=(R.tw i a).things;exact⟨(ZZ l n).symm,(ZZ (R.tw i a).tw.above n).symm,(ZZ g n).symm⟩
structure OR(kg kh:ak)(H:Hp)(X:Za)(lk:ak)(c:Nat)(ls:jf)(r:js):Prop where
 sh:Xj kg kh H X lk c ls
 wf:WF X.lv X.ts
 low:∀ i,r=some i->(gd X.ts i).h<=300
 few:ls.length<=380000
 hi:∀ i,r=some i->i∈X.lv
def QI(p:jM):jf:=p.map λs=>V.int (s.1:Int)
inductive XN(kg kh CK:ak):Sp
 |mk{X:Za}{d:ak}{c:Nat}{e:jf}{r:js}{v:V}{N:ak->Prop}{o:jI}{H:Hp}{Q:VK}{E:XK}:OR kg kh H X d c e r->Od N H o v->(o=none->∀ a,ZD H a->E (.ref CK) none a) ->
  (∀ k,o=some k->∀(a:Hp)(D:ak)(g:jf),(∀ b o,b≠d->H b=some o->a b=some o)->Xj kg kh a X d c (e++QI (UT X.ts k r))->H D=none->D≠d->a D=some (.lst g)->Paired (XW (NM X d D) a X.ts) (UT X.ts k r) g->Q (.ref D) a) ->
  XN kg kh CK [.ref X.S,YR r,v] H Q E
abbrev ZO7:jp:=["shelf","root","key","steps","number","found","at"]
theorem Uw:ZB ZO7 zEd (Zc KP):=Zs
def ZRJ(b:jn)(a:js):Nat:=match a with | none=>0 | some j=>(gd b j).h+1
inductive Ch(kg kh:ak)(H:Hp)(X:Za)(lk:ak)(c:Nat)(ls:jf)(rn:js)(v:V)(k:KT)(D:ak):Nat->L2.St->Hp->Prop
 |mk{cur:js}{pre:jM}{us:jf}{x5 x6:jg}{H':Hp}:(∀ j,cur=some j->j∈X.lv)->UT X.ts k rn=pre++UT X.ts k cur->(∀ b o,b≠lk->H b=some o->H' b=some o)->Xj kg kh H' X lk c (ls++QI pre)->H' D=some (.lst us)->Paired (XW (NM X lk D) H' X.ts) pre us ->
  Ch kg kh H X lk c ls rn v k D (ZRJ X.ts cur) [some (.ref X.S),some (YR rn),some v,some (.ref D),some (YR cur),x5,x6] H'
theorem Fk(F:Zg K "steps_to" "steps_to" KP f fd)(L:Yg K mg kg kh)(DC:Wo P w K mg kj 8 "check_asked" zEd (YS kg kh CK))(DL:ZC P w K mg kj ZM 2 kg "look" zEa (Yt kg kh))(DP:ZA P w K mg kj 9 "place_within" zE7 (Wf kg kh))(DB:ZA P w K mg kj 2 "branch_at" zFj XV):
  ZI P w K mg kj (WA P w) 10 f fd zEd (XN kg kh CK):=by
 refine F.kD Uw λe0 A c8 s H vs Q E hr h=>?_;let⟨I,hv,no,q⟩:=h;rename_i X r c ls rn v N o
 let nd:=Uw.nd;let a4:=hr.to 2;let c3:=hr.to 8;intro Xc;refine⟨_,ZL (XT (M7 NE DC c3 (UA (pv 0) (pv 1) (pv 2))))
  (ZL (Ze 3 nd (Yk Zu))
  (ZL (Ze 4 nd (pv 1))
  (ZL (P5 Gb (Uv (MU (pv 4)))
   (ZL (Ze 5 nd (YV (E:=E0) (pv 0) L.cS DL a4 YC (ZS (pv 4))))
   (ZL (Ze 6 nd (Zf DP hr (UA (pv 0) (pv 5) (pv 2))))
   (ZL (XT (Qo xL vS vR OB (pv 3) (ZS (WC (UA (pv 4) (pv 6) (pv 5))))))
   (ZR (Ze 4 nd (Zf DB a4 (Zx (pv 5) (pv 6)))))))))
  (ZR (Zh (pv 3)))))),?_⟩
 refine⟨_,Z,_,Z,_,Z,.mk (N:=N) (o:=o) I.sh I.hi hv no λgo H1 s1=>?_⟩;let c4:=I.hi;let⟨k,rfl⟩:=sT.mp go;let⟨kv,fk⟩:=hv;let R1:=I.sh.same s1;exists YE;intro D Y;let gD:=Zl Y (.lst []);let eD:=ZX (H:=H1) (a:=D) (o:=.lst []);let a7:H D=none:=s1.free Y;let R:D≠r:=(ZZ R1.sh.looks Y).symm;let R2:=R1.same gD;let s2:=s1.trans gD;generalize upd H1 D (.lst [])=H2 at gD eD R2 s2⊢;exists _,Z;let hw:=I.wf;exists Ch kg kh H X r c ls rn v k D,⟨_,.mk (cur:=rn) c4 Z (λb o _ e=>s2 b o e) (by rw[show QI []=[] from rfl,zK];exact R2) eD .nil⟩
 rintro _ _ H3 (@⟨a8,g,G,x5,x6,_,a2,p,fr,R3,T,U⟩)
 cases a8 with
 | none=>
  refine⟨_,Z,_,Z,Zo ?_⟩;let e':UT X.ts k rn=g:=by rw[p];exact zK _
  exact⟨_,Z,q k Z H3 D G fr (by rw[e'];exact R3) a7 R T (by rw[e'];exact U)⟩
 | some j=>
  let hj:=a2 j Z;let c9:g.length+((gd X.ts j).h+1)<=301:=by
   let e:=congrArg wN p;rw[zW] at e;let e1:(UT X.ts k (some j)).length=(gd X.ts j).h+1:=LB _ _ _ _;let e2:(UT X.ts k rn).length<=301:=by
    cases rn with
    | none=>exact zM _
    | some i=>
     have:(UT X.ts k (some i)).length=(gd X.ts i).h+1:=LB _ _ _ _;have:=I.low i Z
     lia
   lia
  let e3:=I.few;let lw:(QI g).length=g.length:=zX _;let e5:=Paired.length U;refine⟨_,Z,_,Z,YM ⟨_,λ_ _ z=>z,?_⟩⟩;let⟨dx,hS⟩:=R3.sh.self;exists _,Z,X.S,dx,_,Z,hS,Z,_,Z,X,r,c,_,j,Z,R3,hj,by rw[zW];lia
  intro H4 u l ws C R4 a5 nl hl w1 w2;let M:=R3.sh.looks;let a6:Zt H3 H4:=λb xs e=>C b _ (ZV e M) e;let e4:l≠r:=(ZZ M nl).symm;let lD:l≠D:=λz=>by rw[z,T] at nl;cases nl
  let lN:¬ NM X r D l:=λz=>z.elim lD λy=>y (R3.newQ nl);let c2:Ya (NM X r D) H4 (gd X.ts j) (.ref u):=⟨u,l,ws,Z,a5,hl,lN,w1,w2⟩;let c6:Zt H H3:=λb xs e=>fr b _ (ZV e I.sh.sh.looks) e;let c5:=(kv.mono c6 _ _).mono a6 _ _;exists _,Z,_,Z,_,Z,X,r,c,_,j,.ref u,v,k,_,Z,R4,hw,hj,c2,c5,fk;intro H5 s5;let a0:=s5 _ _ (C _ _ R T);exists _,Z,.inl ⟨Z,_,ZF.of a0⟩,_,Z,_,Z,_,Z,YE;intro t nt;let g6:=Zl nt (.tup [YR (some j),.int ((XU X.ts k j:Nat):Int),.ref u]);let et:=ZX (H:=H5) (a:=t) (o:=.tup [YR (some j),.int ((XU X.ts k j:Nat):Int),.ref u]);let m:=s5.trans g6;generalize upd H5 t (.tup [YR (some j),.int ((XU X.ts k j:Nat):Int),.ref u])=J at g6 et m⊢;let B:=g6 _ _ a0;exists D,G,.ref t,Z,Z,B,nn ∅
  let sD:ZK D J (upd J D (.lst (G++[.ref t]))):=(ZK.refl D J).upd;let tD:=sD.tups B;let R6:=R4.same m;let ND:¬ GA X r D:=by
   let⟨⟨dS,c0⟩,c1,_⟩:=R6.sh;rintro(z | z | z)
   ·exact ZV B c0 (by intro z;cases z) z
   ·exact ZV B c1 (by intro z;cases z) z
   ·exact R z
  let oD:∀ i:Nat,i∈X.lv->(X.as.getD i .d).x≠D/\(X.as.getD i .d).ab≠D/\(X.as.getD i .d).th≠D:=λi hi=>by
   let W:=R1.tw i hi;let⟨dy,hy⟩:=W.tw.self;let⟨e6,e1,_⟩:=W.things;exact⟨ZZ hy Y,ZZ W.tw.above Y,ZZ e1 Y⟩
  let R7:=R6.but sD ND oD tD;let a9:∀ b o,b≠r->H3 b=some o->b≠D->upd J D (.lst (G++[.ref t])) b=some o:=λb o n e nb=>by rw[ZQ nb];exact m _ _ (C b o n e)
  let c7:Zt H3 (upd J D (.lst (G++[.ref t]))):=λb xs e=>tD b xs (m _ _ (a6 b xs e));let a3:Ya (NM X r D) (upd J D (.lst (G++[.ref t]))) (gd X.ts j) (.ref u):=by
   exact⟨u,l,ws,Z,tD _ _ (m _ _ a5),by rw[ZQ lD];exact m _ _ hl,lN,λz=>((w1 z).sm m).mono tD _ _,w2⟩
  let O:Paired (XW (NM X r D) (upd J D (.lst (G++[.ref t]))) X.ts) (g++[(j,XU X.ts k j)]) (G++[.ref t]):=by
   refine Ib (a:=(j,XU X.ts k j)) ⟨t,.ref u,Z,tD _ _ et,a3⟩ (Paired.mapP U λ_ _ z=>XW.off z (λb o n e=>a9 b o (λz=>n (.inr λy=>y.2.2.1 z)) e λz=>n (.inl z)) c7)
  let ew:ls++QI g++[V.int (j:Int)]=ls++QI (g++[(j,XU X.ts k j)]):=by unfold QI;simp
  rw[ew] at R7;let a1:∀ b o,b≠r->H b=some o->upd J D (.lst (G++[.ref t])) b=some o:=λb o n e=>by rw[ZQ (ZZ e a7)];exact m _ _ (C b o n (fr b o n e))
  refine⟨_,Z,_,Z,_,gd X.ts j,.ref u,XU X.ts k j,Z,a3,λh0=>?_,λh0=>?_⟩
  ·refine⟨_,Nat.succ_pos _,.mk (cur:=none) (λi z=>by cases z) ?_ a1 R7 ZX O⟩
   rw[p];show g++Pj X.ts k (gd X.ts j).h j=_;rw[h0];exact(zK _).symm
  ·let⟨n1,n2,n3⟩:=LD hw hj h0 k;refine⟨Uq X.ts k j,n3,_,Nat.succ_lt_succ ∅,.mk (cur:=some (Uq X.ts k j)) (λi z=>by cases z;lia) ?_ a1 R7 ZX O⟩
   rw[p];show g++Pj X.ts k (gd X.ts j).h j=_;rw[<-n2,yQ];rfl
def YH(a:jn):Nat->Nat->jk
 | 0,i=>[i]
 | n+1,i=>i::(gd a i).bs.flatMap (YH a n)
def YB(a:jn):js->jk
 | none=>[]
 | some i=>YH a (gd a i).h i
inductive RcAt(N:ak->Prop)(H:Hp)(b:jn)(i:Nat)(u:V):Prop
 |mk(t a:_)(_:u=.ref t)(_:H t=some (.tup [.int (i:Int),a]))(_:Ya N H (gd b i) a)
theorem RcAt.off{N:ak->Prop}{H a:Hp}{c:jn}{i:Nat}{u:V}(h:RcAt N H c i u)(d:∀ b o,¬ N b->H b=some o->a b=some o)(m:Zt H a):RcAt N a c i u:=by
 let⟨t,f,e,g,j⟩:=h;exact⟨t,f,e,m _ _ g,j.off d m⟩
theorem FH{c d:Type}{F:c->d->Prop}{l a:List c}{m b:List d}(h:Paired F l m)(g:Paired F a b):Paired F (l++a) (m++b):=by
 induction h with
 | nil=>exact g
 | cons r _ e=>exact .cons r e
def Oj(H:Hp)(a D b:ak):Prop:=b=a\/H b≠none\/b=D
inductive YI(n:Nat)(kg kh:ak):Sp
 |mk{H:Hp}{Q:VK}{E:XK}(X:Za)(d:ak)(c:Nat)(e:jf)(r:js):Xj kg kh H X d c e->WF X.lv X.ts->(∀ i,r=some i->i∈X.lv/\(gd X.ts i).h<=n)->(e.length+(YB X.ts r).length<=380000/\(YB X.ts r).length<=900) ->
  (∀(a:Hp)(D:ak)(g:jf),(∀ b o,b≠d->H b=some o->a b=some o)->Xj kg kh a X d c (e++iN (YB X.ts r))->H D=none->D≠d->a D=some (.lst g)->Paired (RcAt (Oj H d D) a X.ts) (YB X.ts r) g->Q (.ref D) a)->YI n kg kh [.ref X.S,YR r] H Q E
inductive Dd(kg kh:ak)(X:Za)(d:ak)(c:Nat)(e:jf)(i m:Nat)(g D l:ak)(H:Hp)(j:Nat)(k:L2.St)(a:Hp):Prop
 |mk(h:jf)(n:jg):k=[some (.ref X.S),some (YR (some i)),some (.ref g),some (.ref D),n]->(∀ b o,b≠d->H b=some o->a b=some o)->Xj kg kh a X d c (e++iN (i::((gd X.ts i).bs.take j).flatMap (YH X.ts m)))->a D=some (.lst h)->Paired (RcAt (Oj H d D) a X.ts) (i::((gd X.ts i).bs.take j).flatMap (YH X.ts m)) h->a l=some (.lst (iN (gd X.ts i).bs))->Dd kg kh X d c e i m g D l H j k a
abbrev ZPN:jp:=["shelf","root","found","twigs","branch"]
theorem QB:ZB ZPN zEc (Zc Mv):=Zs
theorem GS{n:Nat}(F:Zg K "reached" "reached" Mv f fd)(L:Yg K mg kg kh)(DL:ZC P w K mg kj ZM 2 kg "look" zEa (Yt kg kh))(DI:ZA P w K mg kj 1 "is_leaf" zFf YY)(DR:ZA P w K mg kj (n+3) "reached" zEc (λvs H Q E=>∃ m,m<n/\YI m kg kh vs H Q E)):ZI P w K mg kj ZM (n+4) f fd zEc (YI n kg kh):=by
 refine F.ok QB (λvs H Q E h=>(by cases h;rfl)) (λe9 A c8 s H vs Q E hr h=>?_)
 let⟨X,C,c,ls,r,R,hw,c5,a1,q⟩:=h;let nd:=QB.nd;let c6:=hr.mono (show 1<=n+3 by lia)
 let c7:=hr.mono (show 2<=n+3 by lia)
 intro Xc;refine⟨_,ZL (Z1 (Uv (Oo (pv 1))) (ZR (Zh (Yk Zu))) Z2)
  (ZL (Ze 2 nd (YV (E:=E0) (pv 0) L.cS DL c7 YC (ZS (pv 1))))
  (ZL (Ze 3 nd (Yk (ZS (WC (Zx (pv 1) (pv 2))))))
  (ZL (Z1 (UO (Xw (Zf DI c6 (ZS (pv 2))))) (ZR (VD PassesOwn.never rfl (X9 (Yx K (pv 2) ZJ)) (WG 4 nd)
   (ZR (XT (Qo xL qK qJ CF (pv 3) (ZS (Zf DR hr (Zx (pv 0) (pv 4))))))))) Z2)
  (ZR (Zh (pv 3)))))),?_⟩
 cases r with
 | none=>
  refine⟨_,Z,_,Z,YM ?_⟩;exists YE;intro D W;let gD:=Zl W (.lst []);exact q _ D [] (λb o _ e=>gD b o e) (by rw[show YB X.ts none=[] from rfl,show iN []=[] from rfl,zK];exact R.same gD) W (ZZ R.sh.looks W).symm ZX .nil
 | some i=>
  refine⟨_,Z,_,Z,Zo ?_⟩;let⟨hi,hn⟩:=c5 i Z;let⟨⟨dS,hS⟩,c2,_⟩:=id R.sh;let l1:1<=(YB X.ts (some i)).length:=by
   show 1<=(YH X.ts (gd X.ts i).h i).length
   cases(gd X.ts i).h with
   | zero=>exact zY _
   | succ n=>exact vI (zM _)
  exists _,Z,X.S,dS,_,Z,hS,Z,_,Z,X,C,c,ls,i,Z,R,hi,by lia
  intro H1 J l c9 a3 R1 a6 nl hl k1 k2;exists _,Z,_,Z,YE;intro t nt;let g1:=Zl nt (.tup [YR (some i),.ref J]);let et:upd H1 t (.tup [YR (some i),.ref J]) t=some (.tup [.int (i:Int),.ref J]):=ZX;generalize upd H1 t (.tup [YR (some i),.ref J])=H2 at g1 et⊢;exists YE;intro D W;let g2:=Zl W (.lst [.ref t]);let eD:=ZX (H:=H2) (a:=D) (o:=.lst [.ref t]);generalize upd H2 D (.lst [.ref t])=H3 at g2 eD⊢;let g:=g1.trans g2;let c4:=R.sh.looks;let a9:l≠C:=λz=>by rw[z,c4] at nl;cases nl
  let V:H1 D=none:=g1.free W;let v:D≠C:=λz=>by rw[z,R1.sh.looks] at V;cases V
  let U:H D=none:=by
   cases z:H D with
   | none=>rfl
   | some o=>rw[a3 D o v z] at V;cases V
  let a8:l≠D:=λz=>by rw[<-z,hl] at V;cases V
  let nO:¬ Oj H C D l:=λz=>by
   rcases z with z | z | z
   ·exact a9 z
   ·exact z nl
   ·exact a8 z
  let FA:Ya (Oj H C D) H3 (gd X.ts i) (.ref J):=⟨J,l,c9,Z,g _ _ a6,g _ _ hl,nO,λz=>(k1 z).sm g,k2⟩;let RA:RcAt (Oj H C D) H3 X.ts i (.ref t):=⟨t,.ref J,Z,g2 _ _ et,FA⟩;let a4:∀ b o,b≠C->H b=some o->H3 b=some o:=λb o z e=>g _ _ (a3 b o z e);let R3:=R1.same g;exists _,Z,_,gd X.ts i,_,Z,FA,_,Z;by_cases h0:(gd X.ts i).h=0
  ·rw[aJ h0];let ep:YB X.ts (some i)=[i]:=by
    show YH X.ts (gd X.ts i).h i=_;rw[h0];rfl
   rw[ep] at q;exact Zo ⟨_,Z,q H3 D _ a4 R3 U v eD (.cons RA .nil)⟩
  rw[aI h0];obtain⟨m,em⟩:∃ m,(gd X.ts i).h=m+1:=⟨(gd X.ts i).h-1,∅⟩
  let ep:YB X.ts (some i)=i::(gd X.ts i).bs.flatMap (YH X.ts m):=by
   show YH X.ts (gd X.ts i).h i=_;rw[em];rfl
  rw[ep] at q a1;let eu:=k2 h0;subst eu;let hs:=(hw i hi).stem h0;refine YM ⟨_,Z,J,_,_,.ref l,Z,Z,Zm.of (g _ _ a6),Z,l,Z,⟨_,ZF.of (g _ _ hl)⟩,PR (K:=K) (a:=l) (xs:=iN (gd X.ts i).bs) (Dd kg kh X C c ls i m J D l H) ⟨_,_,Z,a4,R3,eD,.cons RA .nil,g _ _ hl⟩ (λj σ H' _ hP=>by let⟨_,_,_,_,_,_,_,h⟩:=hP;exact ZF.of h) ?_ ?_⟩
  ·rintro j u σ H4 hu ⟨M,x4,rfl,G,R4,d,B,a5⟩;unfold iN at hu;rw[zC] at hu;let⟨b,hb,rfl⟩:=xZ.mp hu;let⟨i1,i0⟩:=hs.2.2.1 b (zJ hb);let eb:YB X.ts (some b)=YH X.ts m b:=by
    show YH X.ts (gd X.ts b).h b=_;rw[show (gd X.ts b).h=m by lia]
   let c1:(gd X.ts i).bs.take (j+1)=(gd X.ts i).bs.take j++[b]:=by rw[yS,hb];rfl
   let ef:((gd X.ts i).bs.take (j+1)).flatMap (YH X.ts m)=((gd X.ts i).bs.take j).flatMap (YH X.ts m)++YH X.ts m b:=by rw[c1,yR];simp
   let lf:(((gd X.ts i).bs.take (j+1)).flatMap (YH X.ts m)).length<=((gd X.ts i).bs.flatMap (YH X.ts m)).length:=by
    conv=>rhs;rw[<-yD (j+1) (gd X.ts i).bs,yR,zW]
    exact wT _ _
   let a2:=a1;rw[ef,zW] at lf;simp only[zI] at a2;let l4:=Paired.length B;simp only[zI] at l4;refine⟨_,Z,.inl ⟨Z,_,ZF.of d⟩,_,Z,_,Z,m,∅,.mk X C c _ (some b) R4 hw (λy hy=>by cases hy;exact⟨∅,∅⟩) ?_ λH5 D2 k N R5 a7 e0 c0 T=>?_⟩
   ·rw[eb,zW];unfold iN;simp only[zX,zI]
    lia
   rw[eb] at R5 T;let l5:=Paired.length T;let a0:=N _ _ v d;let c3:=N _ _ a9 a5;let e8:D2≠D:=λz=>by rw[z,d] at a7;cases a7
   exists D,D2,M,k,Z,Z,a0,c0,nn ∅
   let O:∀ b o,b≠C->b≠D->H4 b=some o->upd H5 D (.lst (M++k)) b=some o:=λb o z1 z2 e=>by rw[ZQ z2];exact N b o z1 e
   let t4:Zt H4 (upd H5 D (.lst (M++k))):=λb xs e=>O b _ (ZV e R4.sh.looks) (ZV e d) e;let t5:Zt H5 (upd H5 D (.lst (M++k))):=λb xs e=>by rw[ZQ (ZV e a0)];exact e
   let Y:∀ b o,H b=some o->b≠D:=λb o e=>ZZ e U;let R6:=R5.but (p:=D) (H':=upd H5 D (.lst (M++k))) (λb o e z=>by rw[ZQ z];exact e) (λz=>by
    rcases z with z | z | z
    ·exact Y _ _ hS z.symm
    ·exact Y _ _ c2 z.symm
    ·exact v z) (λy hy=>by
     let⟨dx,hx⟩:=(R.tw y hy).tw.self;let⟨vs,e1,_⟩:=(R.tw y hy).things;exact⟨Y _ _ hx,Y _ _ (R.tw y hy).tw.above,Y _ _ e1⟩) t5
   refine⟨M++k,_,Z,λb o z e=>O b o z (Y _ _ e) (G b o z e),?_,ZX,?_,by rw[ZQ a8];exact c3⟩
   ·rw[ef,<-vU];unfold iN at R6⊢;rw[zD,<-yQ];exact R6
   ·rw[ef,<-vU];refine FH (Paired.mapP B λy u h=>h.off (λb o z e=>O b o (λy=>z (.inl y)) (λy=>z (.inr (.inr y))) e) t4) (Paired.mapP T λy u h=>?_);let⟨t',fv,e1,e2,tq,lq,vq,e3,e4,e5,I,e6,e7⟩:=h;let lD:lq≠D:=λz=>I (.inr (.inl (by rw[z,d];intro y;cases y)))
    refine⟨t',fv,e1,t5 _ _ e2,tq,lq,vq,e3,t5 _ _ e4,by rw[ZQ lD];exact e5,λz=>?_,λz=>(e6 z).mono t5 _ _,e7⟩
    rcases z with z | z | z
    ·exact I (.inl z)
    ·refine I (.inr (.inl λy=>?_))
     cases x:H lq with
     | none=>exact z x
     | some o=>rw[G lq o (λy=>I (.inl y)) x] at y;cases y
    ·exact lD z
  ·rintro σ H4 ⟨M,x4,rfl,G,R4,d,B,a5⟩;let el:(gd X.ts i).bs.take (iN (gd X.ts i).bs).length=(gd X.ts i).bs:=by unfold iN;rw[zX,sP]
   rw[el] at R4 B;exact⟨_,Z,q H4 D M G R4 U v d B⟩
theorem YI.mono{m n:Nat}{d:jf}{H:Hp}{Q:VK}{E:XK}(h:YI m kg kh d H Q E)(g:m<=n):YI n kg kh d H Q E:=by
 let⟨X,k,c,l,r,R,j,a,b,q⟩:=h;exact⟨X,k,c,l,r,R,j,λi e=>⟨(a i e).1,zO (a i e).2 g⟩,b,q⟩
theorem Dr(a:ZY K mg "reached" Mv zEc)(L:Yg K mg kg kh)(d:ZC P w K mg kj ZM 2 kg "look" zEa (Yt kg kh))(c:ZA P w K mg kj 1 "is_leaf" zFf YY):∀ n:Nat,ZA P w K mg kj (n+3) "reached" zEc (λb H Q E=>∃ m,m<n/\YI m kg kh b H Q E)
 | 0=>a.of λ_ _ _=>ML λb H Q E h=>by let⟨m,e,_⟩:=h;lia
 | n+1=>a.of λ_ _ F=>(GS F L d c (Dr a L d c n)).imp λb H Q E h=>by
  let⟨m,e,h⟩:=h;exact h.mono ∅
structure Ms(kg kh:ak)(H:Hp)(X:Za)(lk:ak)(c:Nat)(ls:jf)(r:js):Prop where
 sh:Xj kg kh H X lk c ls
 wf:WF X.lv X.ts
 low:∀ i,r=some i->i∈X.lv/\(gd X.ts i).h<=20
 few:ls.length+(YB X.ts r).length<=380000/\(YB X.ts r).length<=900
structure Gv(kg kh:ak)(H H':Hp)(X:Za)(lk:ak)(c:Nat)(ls:jf)(r:js)(D:ak):Prop where
 fr:∀ b o,b≠lk->H b=some o->H' b=some o
 sh:Xj kg kh H' X lk c (ls++iN (YB X.ts r))
 free:H D=none
 ne:D≠lk
theorem Ms.reach{H:Hp}{X:Za}{b:ak}{c:Nat}{e:jf}{r:js}(h:Ms kg kh H X b c e r){Q:VK}{E:XK}(q:∀ (a:Hp) (D:ak) (d:jf),Gv kg kh H a X b c e r D->a D=some (.lst d)->Paired (RcAt (Oj H b D) a X.ts) (YB X.ts r) d->Q (.ref D) a):YI 20 kg kh [.ref X.S,YR r] H Q E:=
 .mk X b c e r h.sh h.wf h.low h.few λa D d g i j k l m=>q a D d ⟨g,i,j,k⟩ l m
def Xx(a:jn)(j:Nat):Bool:=decide ((gd a j).h=0)
def Uj(a:jn)(l:jk):jr:=(l.filter (Xx a)).flatMap λj=>(gd a j).rows
theorem EB(a:jn)(l:jk)(y:Nat):Uj a (l++[y])=Uj a l++if Xx a y then (gd a y).rows else []:=by
 unfold Uj;rw[wP,yR]
 congr 1
 cases h:Xx a y <;> simp[h]
theorem AR{n:Nat}(h:n<=4000):n<=sizeLine:=zO h (by decide)
inductive Xl(kg kh:ak):Sp
 |mk{H:Hp}{Q:VK}{E:XK}(X:Za)(b:ak)(c:Nat)(d:jf)(r:js):Ms kg kh H X b c d r->(∀ j∈YB X.ts r,j∈X.lv)->(∀(a:Hp)(D:ak)(e:jf),Gv kg kh H a X b c d r D->a D=some (.lst e)->jX a (Z6 (Uj X.ts (YB X.ts r))) e->Q (.ref D) a)->Xl kg kh [.ref X.S,YR r] H Q E
abbrev ZM2:jp:=["shelf","root","rows","twig"]
theorem V4:ZB ZM2 zEc (Zc K5):=Zs
inductive ER(X:Za)(r:js)(D:ak)(c:Hp)(j:Nat)(d:L2.St)(a:Hp):Prop
 |mk(b:jf)(e:jg):d=[some (.ref X.S),some (YR r),some (.ref D),e]->a D=some (.lst b)->jX a (Z6 (Uj X.ts ((YB X.ts r).take j))) b->b.length<=4 * j->ZK D c a->ER X r D c j d a
theorem Bz(F:Zg K "rows_of" "rows_of" K5 f fd)(DI:ZA P w K mg kj 1 "is_leaf" zFf YY)(DR:ZA P w K mg kj 25 "reached" zEc (YI 20 kg kh)):ZI P w K mg kj ZM 26 f fd zEc (Xl kg kh):=by
 refine F.ok V4 (λvs H Q E h=>(by cases h;rfl)) (λa2 A a1 s H vs Q E hr h=>?_)
 let nd:=V4.nd;let Y:=hr.to 1;intro Xc;refine⟨_,ZL (Ze 2 nd (Yk Zu))
  (ZL (VD PassesOwn.never rfl (X9 (Zf DR hr (Zx (pv 0) (pv 1)))) (WG 3 nd)
   (ZR (Z1 (Xw (Zf DI Y (ZS (Yx K (pv 3) ZJ))))
    (ZR (XT (Qo xL qK qJ CF (pv 2) (ZS (Yx K (Yx K (pv 3) ZJ) ZJ))))) Z2)))
  (ZR (Zh (pv 2)))),?_⟩
 exists YE;intro D i;let V:=Zl i (.lst []);let⟨X,lk,c,ls,r,R,a0,q⟩:=h;let O:=ZX (H:=H) (a:=D) (o:=.lst []);generalize upd H D (.lst [])=H1 at V O⊢;let R1:Ms kg kh H1 X lk c ls r:=⟨R.sh.same V,R.wf,R.low,R.few⟩;refine⟨_,Z,_,Z,R1.reach λN M us L G S=>?_⟩;let lp:=Paired.length S;let a3:=R.few;let l:D≠lk:=(ZZ R.sh.sh.looks i).symm;let n:=L.fr D _ l O;let U:M≠D:=λz=>by have:=L.free;rw[z,O] at this;cases this
 refine⟨M,Z,⟨us,ZF.of G⟩,PR (K:=K) (a:=M) (xs:=us) (ER X r D N) ⟨[],_,Z,n,.nil,zM _,λb o e _=>e⟩ (λj σ H' _ S=>by let⟨_,_,_,_,_,_,h⟩:=S;exact ZF.of (h _ _ G U)) ?_ ?_⟩
 ·rintro j u σ m hu ⟨B,x3,rfl,d,g,l4,k⟩;let⟨y,ey,t,fv,rfl,et,FA⟩:=Paired.ixR S hu;let hj:j<us.length:=(yZ.mp hu).1;let J:Zt N m:=λb xs e=>k _ _ e (ZV e n);let I:=a0 y (zJ ey);let ok:=R.wf y I;let fD:∀ b o,¬ (Oj H1 lk M) b->N b=some o->m b=some o:=λb o z e=>k b o e λx=>z (.inr (.inl (by rw[x,O];intro x;cases x)))
  let F4:=FA.off fD J;let C:(YB X.ts r).take (j+1)=(YB X.ts r).take j++[y]:=by rw[yS,ey];rfl
  exists _,Z,t,_,_,fv,Z,Z,Zm.of (J _ _ et),Z,_,gd X.ts y,fv,Z,F4,_,Z;let⟨tq,lq,T,rfl,e4,e5,a5,e6,e7⟩:=F4;by_cases v:(gd X.ts y).h=0
  ·rw[aJ v];let kq:=e6 v;let lv:T.length=(gd X.ts y).rows.length:=by have:=kq.length;rw[<-this];exact zX _
   let a4:=(ok.leaf v).2;refine YM ⟨_,Z,.inl ⟨Z,_,ZF.of d⟩,_,Z,t,_,_,.ref tq,Z,Z,Zm.of (J _ _ et),Z,tq,_,_,.ref lq,Z,Z,Zm.of e4,Z,D,lq,B,T,Z,Z,d,e5,AR ∅,?_⟩
   let t5:Zt m (upd m D (.lst (B++T))):=λb xs e=>by rw[ZQ (ZV e d)];exact e
   refine⟨B++T,_,Z,ZX,?_,by rw[zW];lia,λb o e z=>by rw[ZQ z];exact k b o e z⟩
   rw[C,EB,aM (show Xx X.ts y=true from aJ v),Pw];exact(g.mono t5 _ _).append (kq.mono t5 _ _)
  ·rw[aI v];refine Zo ⟨B,_,Z,d,?_,∅,k⟩
   rw[C,EB,aK (by unfold Xx;rw[aI v];exact zT),zK]
   exact g
 ·rintro σ m ⟨B,x3,rfl,d,g,l4,k⟩;rw[zE ∅] at g
  refine⟨_,Z,q m D B ⟨λb o z e=>k _ _ (L.fr b o z (V _ _ e)) (ZZ e i),?_,i,l⟩ d g⟩;let J:Zt N m:=λb xs e=>k _ _ e (ZV e n);let⟨⟨dS,hS⟩,W,_⟩:=id R.sh.sh;refine L.sh.but (p:=D) k (λz=>?_) (λy I=>?_) J
  ·rcases z with z | z | z
   ·exact ZZ hS i z.symm
   ·exact ZZ W i z.symm
   ·exact l z
  ·let⟨dx,hx⟩:=(R.sh.tw y I).tw.self;let⟨vs,e1,_⟩:=(R.sh.tw y I).things;exact⟨ZZ hx i,ZZ (R.sh.tw y I).tw.above i,ZZ e1 i⟩
section
variable{gt:jk}{ts:jn}
theorem NC(e:WF gt ts):∀(n i:Nat),i∈gt->(gd ts i).h=n->∀ j∈YH ts n i,j∈gt
 | 0,i,a,_,j,c=>by
  have:j=i:=by simpa [YH] using c
  subst this;exact a
 | n+1,i,a,m,j,c=>by
  let k:=(e i a).stem ∅
  rw[YH] at c;rcases zL.mp c with z | z
  ·subst z;exact a
  ·let⟨b,g,d⟩:=yI.mp z;let⟨f,l⟩:=k.2.2.1 b g;exact NC e n b f ∅ j d
theorem BC(l:jk)(g:Nat->jk):Uj ts (l.flatMap g)=l.flatMap λb=>Uj ts (g b):=by
 induction l with
 | nil=>rfl
 | cons a l c=>
  rw[zB,zB,<-c];unfold Uj;rw[wP,yR]
theorem Fx(f:WF gt ts):∀(n i:Nat),i∈gt->(gd ts i).h=n->Uj ts (YH ts n i)=(gd ts i).rows
 | 0,i,a,c=>by
  unfold Uj;rw[YH,yE,aM (show Xx ts i=true from aJ c)];simp
 | n+1,i,a,c=>by
  let d:=(f i a).stem ∅
  let e:Uj ts (YH ts (n+1) i)=Uj ts ((gd ts i).bs.flatMap (YH ts n)):=by
   unfold Uj;rw[YH,yE,aK (by unfold Xx;rw[aI ∅];exact zT)]
  rw[e,BC,d.2.2.2,List.flatMap_def,List.flatMap_def]
  congr 1
  refine List.map_congr_left λb g=>?_;let⟨j,k⟩:=d.2.2.1 b g;exact Fx f n b ∅ ∅
theorem KH(d:WF gt ts):∀(n i:Nat),i∈gt->(gd ts i).h=n->(YH ts n i).length+1<=2 * (gd ts i).rows.length
 | 0,i,a,_=>by
  have:=uH.mpr (d i a).ne;show 1+1<=_
  lia
 | n+1,i,a,u=>by
  let o:=(d i a).stem ∅
  let⟨q,_,f,j⟩:=o;let k:∀ l:jk,(∀ b∈l,b∈(gd ts i).bs)->(l.flatMap (YH ts n)).length+l.length<=2 * (l.flatMap λb=>(gd ts b).rows).length:=λl e=>by
   induction l with
   | nil=>exact zY _
   | cons b l p=>
    let s:=p λc m=>e c (zQ _ m);let⟨g,r⟩:=f b (e b zS);let t:=KH d n b g ∅
    rw[zB,zB,zW,zW,zI]
    lia
  have:=k _ λb h=>h;rw[j,YH,zI]
  lia
end
theorem ZLX{s:am}(a b:KT)(A:ax)(v u:aj)(x:ZH s.heap a v)(y:ZH s.heap b u)(M:A.units+a.depth<cLine):SeqAt.RcAt A s v u (a.eqb b):=by
 let f:A.units<cLine:=∅
 cases a with
 | int i=>
  rw[ZH] at x;let⟨t,rfl⟩:=x
  cases b with
  | int j=>rw[ZH] at y;let⟨g,rfl⟩:=y;rw[KT.eqb];exact SeqAt.RcAt.int_int i t j g
  | str z=>rw[ZH] at y;let⟨g,rfl⟩:=y;rw[show (KT.int i).eqb (.str z)=false by simp[KT.eqb]];exact SeqAt.RcAt.int_str i t z g
  | tup m=>rw[ZH] at y;let⟨p,d,rfl,h,_⟩:=y;rw[show (KT.int i).eqb (.tup m)=false by simp[KT.eqb]];exact SeqAt.RcAt.int_tuple i t h f
 | str w=>
  rw[ZH] at x;let⟨t,rfl⟩:=x
  cases b with
  | int j=>rw[ZH] at y;let⟨g,rfl⟩:=y;rw[show (KT.str w).eqb (.int j)=false by simp[KT.eqb]];exact SeqAt.RcAt.str_int w t j g
  | str z=>rw[ZH] at y;let⟨g,rfl⟩:=y;rw[KT.eqb];exact SeqAt.RcAt.str_str w t z g
  | tup m=>rw[ZH] at y;let⟨p,d,rfl,h,_⟩:=y;rw[show (KT.str w).eqb (.tup m)=false by simp[KT.eqb]];exact SeqAt.RcAt.str_tuple w t h f
 | tup l=>
  rw[ZH] at x;let⟨p,d,rfl,r,C⟩:=x;rw[KT.depth] at M
  cases b with
  | int j=>rw[ZH] at y;let⟨g,rfl⟩:=y;rw[show (KT.tup l).eqb (.int j)=false by simp[KT.eqb]];exact SeqAt.RcAt.tuple_int j g r f
  | str z=>rw[ZH] at y;let⟨g,rfl⟩:=y;rw[show (KT.tup l).eqb (.str z)=false by simp[KT.eqb]];exact SeqAt.RcAt.tuple_str z g r f
  | tup m=>
   rw[ZH] at y;let⟨q,c,rfl,h,D⟩:=y;let P:=C.length;let Q:=D.length;let E:=SeqAt.RcAt.tuples (A:=A) (s:=s) (e:=λj=>(l.getD j (.int 0)).eqb (m.getD j (.int 0))) r h f (λj K L=>by
    let n:j<d.length:=by simpa using K
    let o:j<c.length:=by simpa using L
    let⟨k,B,N⟩:=C.get (j:=j) (u:=d[j]) (by simp[n])
    let⟨F,G,O⟩:=D.get (j:=j) (u:=c[j]) (by simp[o])
    let R:=PY (zJ B);let I:l.getD j (.int 0)=k:=by rw[zU,B];rfl
    let J:m.getD j (.int 0)=F:=by rw[zU,G];rfl
    have:=Pv k.depth k F A.in1 d[j] c[j] (zY _) N O (by show A.units+1+k.depth<cLine;lia)
    show SeqAt.EqAt A.in1 s _ _ ((l.getD j (.int 0)).eqb (m.getD j (.int 0)));rw[I,J];simpa using this)
   let H:((yF (min d.toArray.size c.toArray.size)).all (λj=>(l.getD j (.int 0)).eqb (m.getD j (.int 0)))&&d.toArray.size==c.toArray.size)=(KT.tup l).eqb (.tup m):=by
    rw[zP,zP,<-P,<-Q,KT.eqb];exact OO l m
   rw[H] at E;exact E
inductive N7:V->V->Hp->VK->Prop
 |mk{x y:V}{H:Hp}{Q:VK}(a b:KT):ZE H a x->ZE H b y->a.depth<=200->Q (.bl (a.eqb b)) H->N7 x y H Q
theorem Av{k:Nat}(g:ZU k X.A):Y4 X (az .Eq) N7:=by
 intro c s l H x y v u Q I i j h;let⟨a,b,d,e,f,q⟩:=h;exact ZLX a b X.A v u (VZ I a x v d i) (VZ I b y u e j) (ZU.key g f) X.prog X.w X.xe _ ⟨.bl _,H,I,Z,q⟩
def Vi(a:jr)(k:KT):jo:=(a.filter λr=>r.1.eqb k).map (·.2)
def Yp(a:jn):js->jr
 | none=>[]
 | some i=>(gd a i).rows
theorem GG{d:jk}{c:jn}(g:WF d c){j:Nat}(t:j∈d)(q:(gd c j).h≠0):(gd c j).bs.Pairwise λa b=>(Zy (gd c a)).lo.lt (Zy (gd c b)).lo=true:=by
 let k:=g j t;let⟨u,v,m,p⟩:=k.stem q;let l:=k.up;rw[p,sI,tX] at l;let i:∀ b∈(gd c j).bs,(Zy (gd c b)).lo∈(gd c b).rows.map (·.1):=λb e=>by
  let f:b∈d:=(m b e).1;let⟨r,w,n,o⟩:=Pz (g b f).ne;rw[n,o];exact zS ..
 have:=l.2;exact this.imp_of_mem fun{a b} s e h=>h _ (i a s) _ (i b e)
theorem ZIH{g:Type}{p:g->Bool}{A C:List g}{b:g}(h:((A++b::C).filter p).length-1=A.length)(k:∀ c∈C,p c=true->p b=true/\∀ a∈A,p a=true):(A≠[]->p b=true)/\∀ c∈C,p c=false:=by
 let i:∀ c∈C,p c=false:=λc d=>by
  cases e:p c with
  | false=>rfl
  | true=>
   let⟨l,f⟩:=k c d e;rw[wP,List.filter_cons_of_pos l,zW,zI,vF.mpr f] at h;have:0<(C.filter p).length:=sW (xF.mpr ⟨d,e⟩)
   lia
 refine⟨λf=>?_,i⟩
 cases e:p b with
 | true=>rfl
 | false=>
  let j:C.filter p=[]:=uC.mpr λc d=>by rw[i c d];exact zT
  rw[wP,List.filter_cons_of_neg (by rw[e];exact zT),j,zK] at h
  have:=vB p A;have:0<A.length:=uH.mpr f
  lia
theorem ZLb{f:jk}{g:jn}{i j:Nat}{t:ZN}(b:Ye f g i t){y:KT}(a:y∈t.rows.map (·.1)):y.lt (Zy t).lo=false:=by
 let⟨r,h,d,e⟩:=Pz b.ne;let c:=b.up;rw[d,yV] at c a;rw[e];rcases zL.mp a with z | z
 ·rw[z];exact UW _
 ·exact Oq _ _ ((xK.mp c).1 y z)
section
variable{gt:jk}{ts:jn}
theorem ZJP(m:WF gt ts){i:Nat}(l:i∈gt)(f:(gd ts i).h≠0)(k:KT):∃ A C,A.length=XU ts k i/\(gd ts i).bs=A++Uq ts k i::C/\(A≠[]->k.lt (Zy (gd ts (Uq ts k i))).lo=false)/\∀ c∈C,k.lt (Zy (gd ts c)).lo=true:=by
 let⟨F,G,w⟩:=LD m l f k;let v:=FM m l f k;let r:=GG m l f;let d:(gd ts i).bs=(gd ts i).bs.take (XU ts k i)++Uq ts k i::(gd ts i).bs.drop (XU ts k i+1):=by
  let⟨u,e⟩:=yZ.mp w;exact(yD (XU ts k i) _).symm.trans (by rw[xB u,e])
 let p:((gd ts i).bs.take (XU ts k i)).length=XU ts k i:=by rw[yJ];lia
 let j:((gd ts i).bs.filter λb=>!k.lt (Zy (gd ts b)).lo).length-1=XU ts k i:=(aK f).symm;rw[d,xJ] at r;rw[<-p] at j
 conv at j=>lhs;rw[d]
 let⟨_,E,n⟩:=r;let o:=(xK.mp E).1;let s:∀{x y:Nat},(Zy (gd ts x)).lo.lt (Zy (gd ts y)).lo=true->(!k.lt (Zy (gd ts y)).lo)=true->(!k.lt (Zy (gd ts x)).lo)=true:=fun{x y} h q=>by
  cases e:k.lt (Zy (gd ts x)).lo with
  | false=>rfl
  | true=>rw[lt_trans' _ _ _ e h] at q;cases q
 let⟨B,D⟩:=ZIH j λc g q=>⟨s (o c g) q,λa t=>s (n a t c (zQ _ g)) q⟩;exact⟨_,_,p,d,λz=>by simpa using B z,λc g=>by simpa using D c g⟩
theorem Gp(a b:jr)(k:KT):Vi (a++b) k=Vi a k++Vi b k:=by unfold Vi;rw[wP,zD]
theorem GZ{rs:jr}{k:KT}(h:∀ r∈rs,r.1≠k):Vi rs k=[]:=by
 unfold Vi;rw[uC.mpr λr a z=>h r a (V1 _ _ z)];rfl
theorem Ap(d:WF gt ts){i:Nat}(m:i∈gt)(g:(gd ts i).h≠0)(k:KT):Vi (gd ts i).rows k=Vi (gd ts (Uq ts k i)).rows k:=by
 let⟨A,C,_,f,w,x⟩:=ZJP d m g k;let p:=d i m;let⟨D,E,t,n⟩:=p.stem g;let s:=p.up;let B:Uq ts k i∈gt:=(LD d m g k).1;rw[n,f,yR,zB,zD,xJ] at s;rw[n,f,yR,zB,Gp,Gp,GZ,GZ (rs:=C.flatMap _),vJ,zK]
 ·intro r a z;let⟨c,b,a⟩:=yI.mp a;let l:c∈gt:=by
   have:=(t c (by rw[f];exact yM _ (zQ _ b))).1
   lia
  let e:=ZLb (j:=0) (d c l) (zR.mpr ⟨r,a,Z⟩);rw[z,x c b] at e;cases e
 ·intro r a z;let⟨c,b,_⟩:=yI.mp a;let e:=w (λy=>by rw[y] at b;cases b)
  let⟨q,F,u,v⟩:=Pz (d _ B).ne;let o:=s.2.2 _ (zR.mpr ⟨r,a,Z⟩) q.1 (zR.mpr ⟨q,yL _ (by rw[u];exact zS ..),Z⟩)
  rw[z,<-v,e] at o;cases o
end
theorem Df{c:jk}{a:jn}(d:WF c a)(k:KT):∀(n i:Nat),i∈c->(gd a i).h=n->∃ j f r,Pj a k n i=r++[(j,f)]/\j∈c/\(gd a j).h=0/\Vi (gd a j).rows k=Vi (gd a i).rows k
 | 0,i,b,g=>⟨i,_,[],Z,b,g,Z⟩
 | n+1,i,b,g=>by
  let⟨p,q,_⟩:=LD d b ∅ k
  let⟨j,f,r,e,l,m,o⟩:=Df d k n (Uq a k i) ∅ ∅
  exact⟨j,f,(i,XU a k i)::r,by rw[Pj,e];rfl,l,m,by rw[o,Ap d b ∅]⟩
inductive XM(kg kh CK:ak):Sp
 |mk{X:Za}{d:ak}{c:Nat}{e:jf}{r:js}{v:V}{N:ak->Prop}{o:jI}{H:Hp}{Q:VK}{E:XK}:OR kg kh H X d c e r->Od N H o v->(o=none->∀ a,ZD H a->E (.ref CK) none a) ->
  (∀ k,o=some k->∀(a:Hp)(D:ak)(g:jf),(∀ b o,b≠d->H b=some o->a b=some o)->Xj kg kh a X d c (e++QI (UT X.ts k r))->H D=none->D≠d->a D=some (.lst g)->jX a (Vi (Yp X.ts r) k) g->Q (.ref D) a) ->
  XM kg kh CK [.ref X.S,YR r,v] H Q E
abbrev ZME:jp:=["shelf","root","key","steps","rows"]
theorem Wz:ZB ZME zEd (Zc Jk):=Zs
theorem BH(F:Zg K "value_of" "value_of" Jk f fd)(DS:Wo P w K mg kj 10 "steps_to" zEd (XN kg kh CK)):ZI P w K mg kj (WA P w) 11 f fd zEd (XM kg kh CK):=by
 refine F.okD Wz (λvs H Q E h=>(by cases h;rfl)) (λa4 A a2 s H vs Q E hr h=>?_)
 let⟨L,hv,no,q⟩:=h;rename_i X lk c ls rn v N o
 let nd:=Wz.nd;intro Xc;refine⟨_,ZL (Ze 3 nd (M7 NE DS hr (UA (pv 0) (pv 1) (pv 2))))
  (ZL (Z1 (Yb (Lw hr.units0) (pv 3) (Yk Zu) (Z8 _)) (ZR (Zh (Yk Zu))) Z2)
  (ZL (Ze 4 nd (Yx K (Yx K (YX K (pv 3) (Uc UZ ZJ)) ZJ) ZJ))
  (ZR (Zh (VJ [2] zFl rfl (X9 (pv 4)) (λ_ _ _ _ _=>HV (Yb (Av hr) (Yx K (pv 0) ZJ) (pv 1) (Z8 _))) (λ_ _ _ _ _=>Yx K (pv 0) ZJ) ⟨rfl,.inl rfl,rfl,trivial⟩))))),?_⟩
 refine⟨_,Z,_,Z,_,Z,.mk L hv no λk ek V S I U W nS a3 hS y=>?_⟩;exists _,Z,YE;intro b nb;let g:=Zl nb (.lst []);let eb:=ZX (H:=V) (a:=b) (o:=.lst []);generalize upd V b (.lst [])=R at g eb⊢;let G:∀{D:ak},V D=none->H D=none/\D≠lk:=fun{D} d=>by
  let z:D≠lk:=λz=>by rw[z,W.sh.looks] at d;cases d
  refine⟨?_,z⟩
  cases e:H D with
  | none=>rfl
  | some o'=>rw[U _ _ z e] at d;cases d
 exists S,b,I,Z,Z,ZF.of (g _ _ hS),ZF.of eb,_,Z
 cases rn with
 | none=>
  let e0:I=[]:=by
   cases y;rfl
  subst e0;refine YM ⟨YE,λD d=>?_⟩;let g2:=Zl d (.lst []);let⟨f1,f2⟩:=G (g.free d);exact q k ek _ D [] (λb o z e=>g2 _ _ (g _ _ (U b o z e))) ((W.same g).same g2) f1 f2 ZX .nil
 | some i=>
  let hi:=L.hi i Z;let⟨j,pl,rr,ew,hj,h0,es⟩:=Df L.wf k _ i hi Z;let a0:UT X.ts k (some i)=rr++[(j,pl)]:=ew;rw[a0] at y;let ln:=Paired.length y;rw[zW,vY] at ln;let hu:I[I.length-1]? = some (I[I.length-1]'∅):=zV _
  let⟨p,ep,t,fv,et,ht,FA⟩:=Paired.ixR y hu;let e1:p=(j,pl):=by
   rw[<-ln,Nat.add_sub_cancel,wZ (zY _),tT] at ep;exact(yT.inj ep).symm
  subst e1;rw[et] at hu;let ne:I.isEmpty=false:=by
   cases I with
   | nil=>simp at ln
   | cons _ _=>rfl
  rw[ne];let⟨tq,lq,J,rfl,e4,T,a5,e6,e7⟩:=FA.same g;let kr:=e6 h0;let lv:J.length=(gd X.ts j).rows.length:=by have:=kr.length;rw[<-this];exact zX _
  let l4:=((L.wf j hj).leaf h0).2;refine Zo ⟨_,Z,_,Z,.inl ⟨S,_,_,.ref t,Z,Z,ZF.of (g _ _ hS),KW (j:=1) (zY _) ∅ hu,t,_,_,.ref tq,Z,Z,Zm.of (g _ _ ht),Z,tq,_,_,.ref lq,Z,Z,Zm.of e4,Z,?_⟩⟩
  subst ek;let⟨kv,fk⟩:=hv;let t2:Zt H R:=λb xs e=>g _ _ (U b _ (ZV e L.sh.sh.looks) e);let QC:=kv.mono t2 _ _;refine⟨_,Z,lq,Z,⟨J,ZF.of T⟩,Im (n:=J.length) (λi z=>J[i]? = some z) (λn=>((gd X.ts j).rows.getD n rd).1.eqb k) (λD n C r=>ZD R r/\R D=none/\jX R (Vi ((gd X.ts j).rows.take n) k) C) (Ym ∅)
   (λD n C r O l=>⟨J,J[n],ZF.of (l.1 _ _ T),by simp[O]⟩) (λD n C r z H4 O l hy=>⟨hy.1,hy.2 J (ZF.of (l.1 _ _ T))⟩) (λD C r l=>⟨J,ZF.of (l.1 _ _ T),zY _⟩)
   (λD hD=>⟨Zl hD _,hD,.nil⟩) (λD n C r z M O hz l B hB=>?_) (λD n C r z M O hz hk l B hB=>?_) (λD n C r M O hk l=>?_) (λD C r M l=>?_)⟩
  ·let⟨m,d,x⟩:=l;let⟨a,vk,vv,u,rfl,Y,c1,c2⟩:=QS kr hz;let a1:=((L.wf j hj).inn _ (zJ u)).1;exact⟨_,Z,a,_,_,vk,Z,Z,Zm.of (m _ _ Y),Z,_,Z,.mk _ _ (c1.sm m) (QC.sm m) (zO (Vv _ 3 a1) (by decide)) ⟨_,Z,hB r M ⟨m,d,x⟩⟩⟩
  ·let⟨m,d,x⟩:=l;let⟨a,vk,vv,u,rfl,Y,c1,c2⟩:=QS kr hz;refine⟨_,Z,a,_,_,vv,Z,Z,Zm.of (m _ _ Y),Z,hB _ r M ⟨VQ m d,d,?_⟩⟩;unfold Vi at x⊢;rw[Nn _ u,aM hk,zD];exact x.append (.cons c2 .nil)
  ·let⟨m,d,x⟩:=l;let u:(gd X.ts j).rows[n]? = some ((gd X.ts j).rows.getD n rd):=by rw[zU,zV ∅];rfl
   exists m,d;unfold Vi at x⊢;rw[Nn _ u,aK (by rw[hk];exact zT),zK]
   exact x
  ·let⟨m,d,x⟩:=l;rw[zE ∅,es] at x
   let⟨f1,f2⟩:=G (g.free d);exact q k Z r D C (λb o z e=>m _ _ (g _ _ (U b o z e))) ((W.same g).same m) f1 f2 M (x.sm m)
abbrev Up(a:jr):Prop:=OI (a.map (·.1))
theorem Le{a:jn}{s i:Nat}{t:ZN}(h:s<a.length):gd (a.set s t) i=if i=s then t else gd a i:=by
 unfold gd;rw[zU,zU];by_cases z:i=s
 ·subst z;rw[aM rfl,qT h];rfl
 ·rw[aK z,rM (Ne.symm z)]
theorem PL(a:jn)(l m:jk):Zp a (l++m)=Zp a l++Zp a m:=yR
theorem V9(a:jn)(b:Nat)(m:jk):Zp a (b::m)=(gd a b).rows++Zp a m:=zB ..
theorem NS{ts ts':jn}{l:jk}(h:∀ b∈l,(gd ts' b).rows=(gd ts b).rows):Zp ts' l=Zp ts l:=by
 induction l with
 | nil=>rfl
 | cons b l d=>rw[V9,V9,h b zS,d λc a=>h c (zQ _ a)]
theorem BX{c:jn}{a:jk}(p:∀ b∈a,(gd c b).rows≠[])(g:0<a.length):(⟨((YJ c a).getD 0 .d).h+1,((YJ c a).getD 0 .d).lo,((YJ c a).getD ((YJ c a).length-1) .d).hi,((YJ c a).map YT.m).sum⟩:YT)=Zy (Y3 c a):=by
 let B:(YJ c a).length=a.length:=zX _;let f:∀ i,i<a.length->a.getD i 0∈a:=λi y=>by rw[zU,zV y];exact xN _
 let n:((YJ c a).getD 0 .d).lo=(Zy (Y3 c a)).lo:=by
  rw[QL g];let⟨r,o,e,k⟩:=Pz (p _ (f 0 g));rw[k]
  cases a with
  | nil=>simp at g
  | cons b a=>
   unfold Zy Y3 Zp;let s:(gd c b).rows=r::o:=e;simp only[zB,s];rfl
 let j:((YJ c a).getD ((YJ c a).length-1) .d).hi=(Zy (Y3 c a)).hi:=by
  rw[B,QL ∅]
  let⟨o,r,e,k⟩:=Lp (p _ (f (a.length-1) ∅))
  rw[k];rcases sZ a with z | ⟨q,b,z⟩
  ·rw[z] at g;simp at g
  ·rw[tF] at z;let u:a.getD (a.length-1) 0=b:=by rw[z];simp[zU]
   rw[u] at e;let x:Zp c a=Zp c q++o++[r]:=by rw[z];simp[Zp,e]
   unfold Zy Y3;simp only[x];simp[zU]
 let w:((YJ c a).map YT.m).sum=(Zy (Y3 c a)).m:=by
  have:∀ l:jk,((YJ c l).map YT.m).sum=((Zp c l).length:Int):=λl=>by
   induction l with
   | nil=>rfl
   | cons b l A=>
    let t:YJ c (b::l)=Zy (gd c b)::YJ c l:=rfl;rw[t,V9,yV,List.sum_cons,A,zW];show ((gd c b).rows.length:Int)+_=_
    lia
  exact this a
 let v:((YJ c a).getD 0 .d).h+1=(Zy (Y3 c a)).h:=by
  rw[QL g];show ((gd c (a.getD 0 0)).h:Int)+1=(((gd c (a.getD 0 0)).h+1:Nat):Int)
  lia
 rw[n,j,w,v]
theorem JU{ts:jn}{bs:jk}{h:Nat}(a:∀ b∈bs,(gd ts b).rows≠[]/\(gd ts b).h=h)(t:2<=bs.length)(u:bs.length<=4)(p:Up (Zp ts bs)):over (YJ ts bs)=some (Zy (Y3 ts bs)):=by
 let w:(YJ ts bs).length=bs.length:=zX _;let c:=p;unfold Up OI Zp at c;rw[sI,tX] at c;rw[<-BX (λb h=>(a b h).1) ∅]
 refine ZK0 ∅ ∅ λj v=>?_
 let i:j<bs.length:=∅
 let k:j+1<bs.length:=∅
 rw[QL i,QL k];let d:bs[j]? = some (bs.getD j 0):=by rw[zU,zV i];rfl
 let e:bs[j+1]? = some (bs.getD (j+1) 0):=by rw[zU,zV k];rfl
 let f:=a _ (zJ d);let g:=a _ (zJ e);let q:=Lm c.2 (wR j) d e;let⟨r,x,l,n⟩:=Lp f.1;let⟨y,s,m,o⟩:=Pz g.1;unfold Qq;rw[zF];exists ?_
 ·show (((gd ts (bs.getD j 0)).h:Int)==((gd ts (bs.getD (j+1) 0)).h:Int))=true;rw[f.2,g.2];simp
 ·rw[n,o];refine q _ ?_ _ ?_
  ·rw[l,zD];exact yM _ (zH.mpr Z)
  ·rw[m];exact zS ..
theorem ZKH{f:jk}{e:jn}{c:jk}(g:∀ b∈c,Ye f e b (gd e b))(i:Nat):((YJ e c).getD i .d).fit:=by
 rcases xG i c.length with a | a
 ·rw[QL a];refine LK (g _ ?_);rw[zU,zV a];exact xN _
 ·rw[zU,qV (by unfold YJ;rw[zX];exact a)]
  exact Dk
theorem Ye.like{f:jk}{d a:jn}{i:Nat}{t:ZN}(h:Ye f d i t)(m:d.length<=a.length)(e:∀ b∈t.bs,gd a b=gd d b):Ye f a i t:=by
 exists h.ne,h.up,h.inn,h.leaf;intro z;let⟨j,k,g,l⟩:=h.stem z;exists j,k,λb c=>⟨(g b c).1,by rw[e b c];exact(g b c).2⟩
 rw[l];exact(NS λb c=>by rw[e b c]).symm
inductive Qn(gt:jk):jn->jk->jn->Prop
 | nil {ts:jn}:Qn gt ts [] ts
 | cons {ts cur:jn} {s:Nat} {r:jk}:s<ts.length->(∀ b∈(gd ts s).bs,b∈gt)->(gd ts s).bs.length<=4->(∀ i,((YJ ts (gd ts s).bs).getD i .d).fit)->over (YJ ts (gd ts s).bs)=some (Zy (Y3 ts (gd ts s).bs))->Qn gt (ts.set s (Y3 ts (gd ts s).bs)) r cur->Qn gt ts (s::r) cur
inductive Q6(ts:jn)(r:Nat):jk->jk->jr->jr->Prop
 | root:Q6 ts r [r] [] [] []
 | down {p c:Nat} {up ps l m:jk} {A B:jr}:Q6 ts r (p::up) ps A B->(gd ts p).h≠0->(gd ts p).bs=l++c::m->c∉l->c∉m->Q6 ts r (c::p::up) (l.length::ps) (A++Zp ts l) (Zp ts m++B)
section
variable{gt:jk}{ts:jn}{r:Nat}
theorem Q6.facts(t:WF gt ts)(s:r∈gt):∀{b g:jk}{A B:jr},Q6 ts r b g A B->∀{c:Nat}{a:jk},b=c::a->c∈gt/\(∀ x∈a,x∈gt/\(gd ts c).h<(gd ts x).h)/\(gd ts r).rows=A++(gd ts c).rows++B/\(gd ts c).h+a.length=(gd ts r).h:=by
 intro b g A B z
 induction z with
 | root=>
  intro c a e;cases e;exact⟨s,λx f=>(by cases f),by simp,Z⟩
 | down F q i D E v=>
  intro c a e;cases e;let⟨j,k,u,C⟩:=v Z;rename_i p c a g l m A B
  let⟨_,_,n,d⟩:=(t p j).stem q;let⟨o,w⟩:=n c (by rw[i];simp)
  refine⟨o,λx f=>?_,?_,by rw[zI];lia⟩
  ·rcases zL.mp f with y | y
   ·rw[y];exact⟨j,∅⟩
   ·exact⟨(k x y).1,by have:=(k x y).2;lia⟩
  ·let d:(gd ts p).rows=Zp ts (gd ts p).bs:=d;rw[u,d,i,PL,V9];simp only[yQ]
def KR(gt:jk)(ts:jn)(a:Nat->jk):Prop:=∀ p∈gt,∀ b∈(gd ts p).bs,p∈a b
def Tp(a:Nat->jk)(b:Nat->Nat)(i:Nat):Prop:=a i=[]/\b i=1
inductive Rd(gt:jk)(av:Nat->jk)(ho:Nat->Nat):Nat->jk->Prop
 | top {i:Nat}:i∈gt->Tp av ho i->Rd gt av ho i [i]
 | up {i j:Nat} {l:jk}:i∈gt->av i=[j]->ho i=0->Rd gt av ho j l->Rd gt av ho i (i::l)
theorem Rd.lt{b:Nat->jk}{c:Nat->Nat}{i:Nat}{l:jk}(h:Rd gt b c i l):i∈gt:=by
 cases h with
 | top a=>exact a
 | up a=>exact a
theorem Rd.hd{av:Nat->jk}{ho:Nat->Nat}{i:Nat}{l:jk}(h:Rd gt av ho i l):∃ up,l=i::up:=by
 cases h with
 | top a=>exact⟨_,Z⟩
 | up a=>exact⟨_,Z⟩
theorem Rd.over{av:Nat->jk}{ho:Nat->Nat}{c:Nat}{ch:jk}(h:Rd gt av ho c ch):∀{up:jk},ch=c::up->∀ b∈ch,∀ p,p∈av b->p∈up:=by
 induction h with
 | top _ t=>
  intro up e b hb p hp;rw[zH.mp hb,t.1] at hp;cases hp
 | up _ a1 _ h ih=>
  intro up e b hb p hp;cases e;let⟨u,eu⟩:=h.hd;rcases zL.mp hb with y | y
  ·rw[y,a1] at hp;rw[zH.mp hp,eu];exact zS
  ·have:=ih eu b y p hp;rw[eu];exact zQ _ this
theorem AO(lt:∀ i∈gt,i<ts.length)(T:WF gt ts)(hr:r∈gt):∀{G L:jk}{A B:jr},Q6 ts r G L A B->∀{x:Nat}{f:jk}{cur:jn},G=x::f->cur.length=ts.length->(∀ i,(gd cur i).h=(gd ts i).h)->(∀ i,i≠x->(gd ts x).h<=(gd ts i).h->gd cur i=gd ts i)->(∀ b∈x::f,∀ i,i∈gt->b∈(gd cur i).bs->i∈f)->(∀ i,i∈gt->i∉f->Ye gt cur i (gd cur i))->Up (A++(gd cur x).rows++B) ->
  ∃ c,Qn gt cur f c/\c.length=ts.length/\WF gt c/\(∀ i,i∉f->gd c i=gd cur i)/\(∀ i,(gd c i).h=(gd ts i).h)/\(∀ i,(gd c i).bs=(gd cur i).bs)/\(gd c r).rows=A++(gd cur x).rows++B:=by
 intro G L A B z
 induction z with
 | root=>
  intro x f cur e j D C J E U;cases e;exact⟨cur,.nil,j,λi s=>E i s (by simp),λ_ _=>rfl,D,λ_=>rfl,by simp⟩
 | down zp R v n1 n2 ih=>
  intro x f cur e j D C J E U;cases e;rename_i p x f L l m A B
  let⟨S,Q,fr,_⟩:=zp.facts T hr Z;let⟨O,F,u,er⟩:=(T p S).stem R;let Y:=(u x (by rw[v];simp)).2
  let xl:=(u x (by rw[v];simp)).1
  let k:gd cur p=gd ts p:=C p (λy=>by rw[y] at Y;lia) ∅
  let N:∀ y∈p::f,(gd ts x).h<(gd ts y).h:=λy hy=>by
   rcases zL.mp hy with q | q
   ·rw[q];lia
   ·have:=(Q y q).2
    lia
  let w:∀ b∈l++m,gd cur b=gd ts b:=λb a=>by
   refine C b (λy=>?_) (by have:=(u b (by rw[v];rcases yW.mp a with q | q <;> simp[q])).2;lia)
   rw[y] at a;exact(yW.mp a).elim n1 n2
  let d:∀ b∈(gd ts p).bs,b∈gt/\Ye gt cur b (gd cur b)/\(gd cur b).h=(gd ts x).h/\b≠p:=λb a=>by
   let⟨W,q2⟩:=u b a;refine⟨W,E b W λy=>?_,by rw[D];lia,λy=>by rw[y] at q2;lia⟩
   have:=N b y
   lia
  let X:Zp cur (gd ts p).bs=Zp ts l++(gd cur x).rows++Zp ts m:=by
   rw[v,PL,V9,NS (ts:=ts) (ts':=cur) (l:=l) λb a=>by rw[w b (yL _ a)],NS (ts:=ts) (ts':=cur) (l:=m) λb a=>by rw[w b (yM _ a)],yQ]
  let P:A++Zp cur (gd ts p).bs++B=A++Zp ts l++(gd cur x).rows++(Zp ts m++B):=by rw[X];simp only[yQ]
  rw[<-P] at U;let t:Up (Zp cur (gd ts p).bs):=by
   refine wL.sublist ?_ U;refine zEG.map _ ?_;exact((rA A _).trans (qA _ B))
  let K:=JU (ts:=cur) (bs:=(gd ts p).bs) (λb a=>⟨(d b a).2.1.ne,(d b a).2.2.1⟩) O F t;let V:p<cur.length:=by rw[j];exact lt p S
  let g:∀ i,gd (cur.set p (Y3 cur (gd ts p).bs)) i=if i=p then Y3 cur (gd ts p).bs else gd cur i:=λi=>Le V
  let M:(Y3 cur (gd ts p).bs).h=(gd ts p).h:=by
   show (gd cur ((gd ts p).bs.getD 0 0)).h+1=_;have:(gd ts p).bs.getD 0 0∈(gd ts p).bs:=by rw[zU,zV ∅];exact xN _
   have:=(d _ this).2.2.1
   lia
  let e2:Up (A++(gd (cur.set p (Y3 cur (gd ts p).bs)) p).rows++B):=by rw[g,aM rfl];exact U
  let⟨c,c1,c2,c3,c4,c5,c6,c7⟩:=ih (cur:=cur.set p (Y3 cur (gd ts p).bs)) Z (by rw[wB];exact j) (λi=>by
    rw[g];split
    ·rename_i y;rw[y];exact M
    ·exact D i) (λi n h=>by rw[g,aK n];exact C i (λy=>by rw[y] at h;lia) ∅) (λb a i s h=>by
    rw[g] at h;let o:b∈(gd cur i).bs:=by
     split at h
     ·rename_i y;rw[y,k];exact h
     ·exact h
    rcases zL.mp (J b (zQ _ a) i s o) with y | y
    ·rw[y,k] at o;have:=(u b o).2;rcases zL.mp a with q | q
     ·rw[q] at this;lia
     ·have:=(Q b q).2;lia
    ·exact y) (λi s n=>by
    rw[g];split
    ·refine⟨λy=>?_,t,λr' H=>?_,λy=>absurd y (by rw[M];exact R),λ_=>⟨O,F,λb a=>⟨(d b a).1,?_⟩,?_⟩⟩
     ·let y:Zp cur (gd ts p).bs=[]:=y;rw[X] at y;have:=(d x (by rw[v];simp)).2.1.ne
      simp at y;exact this y.2.1
     ·let⟨b,a,I⟩:=yI.mp H;exact(d b a).2.1.inn r' I
     ·rw[g,aK (d b a).2.2.2,M,(d b a).2.2.1];exact Y
     ·exact(NS λb a=>by rw[g,aK (d b a).2.2.2]).symm
    ·rename_i y
     refine(E i s λq=>(zL.mp q).elim y n).like (by rw[wB];exact zY _) λb a=>?_
     rw[g,aK];intro q;rw[q] at a;exact(zL.mp (J p (zQ _ zS) i s a)).elim y n) e2
  exists c,.cons V (λb a=>by rw[k] at a;exact(d b a).1) (by rw[k];exact F) (by rw[k];exact ZKH λb a=>(d b a).2.1) (by rw[k];exact K) (by rw[k];exact c1),c2,c3,λi n=>?_,c5,λi=>?_
  ·rw[c4 i λy=>n (zQ _ y),g,aK λy=>n (by rw[y];exact zS)]
  ·rw[c6 i,g];split
   ·rename_i y;rw[y,k];rfl
   ·rfl
  ·rw[c7,g,aM rfl,<-P];rfl
structure LM(gt:jk)(ts cur:jn)(r c:Nat)(up:jk)(t:ZN)(T:jr):Prop where
 wf:WF gt cur
 len:cur.length=ts.length
 old:∀ i,i∉c::up->gd cur i=gd ts i
 at_:gd cur c=t
 hh:∀ i,(gd cur i).h=(gd ts i).h
 sh:∀ i,i≠c->(gd cur i).bs=(gd ts i).bs
 rows:(gd cur r).rows=T
theorem ZMv{m:Nat->jk}{H:Nat->Nat}(u:∀ i∈gt,i<ts.length)(k:WF gt ts)(q:r∈gt)(e:KR gt ts m){c:Nat}{f I:jk}{A B:jr}(rd:Rd gt m H c (c::f))(z:Q6 ts r (c::f) I A B){t:ZN}(J:t.h=(gd ts c).h)(l:Ye gt ts c t)(U:Up (A++t.rows++B)):
  ∃ d,Qn gt (ts.set c t) f d/\LM gt ts d r c f t (A++t.rows++B):=by
 let⟨G,p,_,_⟩:=z.facts k q Z;let g:∀ i,gd (ts.set c t) i=if i=c then t else gd ts i:=λi=>Le (u c G)
 let s:∀ b∈t.bs,(gd ts b).h<(gd ts c).h:=λb a=>by
  by_cases y:t.h=0
  ·rw[(l.leaf y).1] at a;cases a
  ·have:=((l.stem y).2.2.1 b a).2
   lia
 let F:c∉f:=λy=>by have:=(p c y).2;lia
 let⟨d,v,w,x,o,C,D,E⟩:=AO u k q z (cur:=ts.set c t) Z (by rw[wB]) (λi=>by
   rw[g];split
   ·rename_i y;rw[y];exact J
   ·rfl) (λi n _=>by rw[g,aK n]) (λb a i j h=>by
   rw[g] at h;split at h
   ·have:=s b h;rcases zL.mp a with y | y
    ·rw[y] at this;lia
    ·have:=(p b y).2;lia
   ·exact rd.over Z b a i (e i j b h)) (λi j n=>by
   rw[g];split
   ·rename_i K
    rw[K];refine(l.like (by rw[wB];exact zY _) λb a=>?_)
    rw[g,aK (show ¬ b=c from λy=>by have:=s b a;rw[y] at this;lia)]
   ·refine(k i j).like (by rw[wB];exact zY _) λb a=>?_
    rw[g,aK (show ¬ b=c from λy=>n (rd.over Z c zS i (e i j c (y ▸ a))))]) (by rw[g,aM rfl];exact U)
 exists d,v,x,w,λi n=>?_,?_,C,λi n=>?_
 ·rw[o i λy=>n (zQ _ y),g,aK λy=>n (by rw[y];exact zS)]
 ·rw[o c F,g,aM rfl]
 ·rw[D i,g,aK n]
 ·rw[E,g,aM rfl]
end
end Tw
namespace L2
open PySem PySem.Spec PyProof.Rows
section
variable{ki:jq}{σ:St}{H:Hp}
def Cz:HO->Prop
 | .dK _=>True
 | .frz _ (.dK _)=>True
 | _=>False
theorem ZG.re{d:ak}{v u:HO}(I:ZG X ki σ H s)(e:H d=some v)(h:Cz v)(B:∀ o x,X.H₀ d≠some (.frz o x))(g:Zb X.prog X.w H s.heap d u):ZG X ki σ (upd H d u) s:=by
 let f:∀{b:ak},H b=none->b≠d:=fun{b} q z=>by rw[z,e] at q;cases q
 let C:∀{b y:ak},H b=some (.own y)->b≠d:=fun{b y} q z=>by rw[z,e] at q;cases q;exact h
 let j:∀{b:ak}{a:jf},H b=some (.tup a)->b≠d:=fun{b a} q z=>by rw[z,e] at q;cases q;exact h
 let A:∀{b:ak}{a:jt},H b=some (.tbl a)->b≠d:=fun{b a} q z=>by rw[z,e] at q;cases q;exact h
 refine⟨I.ok,I.os,I.bare,⟨I.base.keep,I.base.slot,λb o q n t=>?_,I.base.there,λb a q=>?_,λb o x q=>?_,λb D q=>?_⟩,I.loc,I.cell,?_,λx c q=>?_,λp r=>?_,λb o q=>?_,I.len⟩
 ·let z:=I.base.free b o q n t;rw[ZQ (f z)];exact z
 ·let z:=I.base.tups b a q;rw[ZQ (j z)];exact z
 ·let z:=I.base.frzs b o x q;rw[ZQ (show b≠d from λy=>B o x (y ▸ q))];exact z
 ·let⟨m,z⟩:=I.base.tbls b D q;exact⟨m,by rw[ZQ (A z)];exact z⟩
 ·rw[ZQ (f I.free)];exact I.free
 ·rw[ZQ (f (I.freeC x c q))];exact I.freeC x c q
 ·let⟨E,l,F⟩:=I.pin p r;exact⟨E,by rw[ZQ (f l)];exact l,F⟩
 ·let k:∀{b o},Zb X.prog X.w H s.heap b o->Zb X.prog X.w (upd H d u) s.heap b o:=λx=>x.stay (λ_ _ _ q=>q) (λc q=>by rw[ZQ (C q)];exact q) λc a q=>by rw[ZQ (j q)];exact q
  by_cases i:b=d
  ·subst i;rw[ZX] at q;cases q;exact k g
  ·rw[ZQ i] at q;exact k (I.hok b o q)
theorem ZG.nofrz{d:ak}{a:List (ZT×V)}(I:ZG X ki σ H s)(e:H d=some (.dK a)):∀ o x,X.H₀ d≠some (.frz o x):=λo x q=>by
 have:=I.base.frzs d o x q;rw[e] at this;cases this
inductive MG(t:TS)(D:Y0)(σ:L2.St)(H:Hp):Prop
 |mk(d a:_)(_:H d=some (.dK a))(_:t ⟨λb c=>∃ o u,c d=some (.frz o (.dK u))/\D.nx b (upd c d (.dK u)),λ_ _=>False,λ_ _=>False,λ_ _=>False⟩ σ H)
theorem Id{g:aC}{t:TS}(h:PS X g t):PS X g (MG t):=by
 rintro ki s σ H D I ⟨d,i,e,q⟩;refine Z3 (h ki s σ H _ I q) λf m z=>?_;let j:=I.nofrz e
 cases f with
 | next=>
  let⟨a,l,b,o,u,c,k⟩:=z;exact⟨a,_,b.re c trivial j (b.hok d _ c).2,k⟩
 | brk=>let⟨_,_,_,z⟩:=z;exact z.elim
 | cont=>let⟨_,_,_,z⟩:=z;exact z.elim
 | ret u=>let⟨_,_,_,_,_,z⟩:=z;exact z.elim
def Ny(d:ak)(o:aH)(a:List (ZT×V)):It:=
 ⟨λi H=>H d=some (.frz o (.dK a))/\i<a.length,λi H x b=>b=H/\∃ p,a[i]? = some p/\x=kV p.1,λi H=>H d=some (.frz o (.dK a))/\a.length<=i⟩
theorem Dy{a:Type}:∀{c:List (a×V)}{d:List (a×aj)}{i:Nat}{p:a×V},KV c d->c[i]? = some p->∃ u,d[i]? = some (p.1,u)
 | _,_,_,_,.nil,e=>by simp at e
 | _,_,0,p,.cons (b:=b) r _,e=>by simp at e;subst e;exact⟨b.2,by rw[r.1];rfl⟩
 | _,_,i+1,p,.cons _ t,e=>by
  let⟨u,h⟩:=Dy (i:=i) (p:=p) t (by simpa using e)
  exact⟨u,by simpa using h⟩
theorem ZRV{k:ZT}{v:aj}(h:P1 k v=true):ZP (kV k) v:=by
 rcases Qt h with ⟨i,t,rfl,rfl⟩ | ⟨x,t,rfl,rfl⟩
 ·exact⟨t,Z⟩
 ·exact⟨t,Z⟩
theorem GX{P:ao}{w:aw}{h:aD}{d:ak}{o:aH}{a:List (ZT×V)}{j:Array DictEntry}{i:Nat}(k:o.data=.dict j i)(x:Zb P w H h d (.frz o (.dK a))):∃ b,KV a b/\h.DictAt (Wv P w) d b i:=by
 let⟨e,_,_,b,r,n,m,l,g,c,f,q⟩:=x;rw[e] at g;cases g;rw[k] at f;cases f;exact⟨b,r,o,j,e,c,k,q⟩
theorem JC{c:Type}{a:List (c×V)}{b:List (c×aj)}(h:KV a b):a.length=b.length:=Paired.length h
theorem Ai{P:ao}{w:aw}{K:zZ}{tg:Expr}{d:ak}{o:aH}{j:List (ZT×V)}{U:Array DictEntry}{N:Nat}(Q:o.data=.dict U N)(g:ak):Vu P w K tg (Ny d o j) [g] g (λi h=>h.IsKeyIter g d i j.length N) where
 mem:=by simp
 obj:=λi h a b f=>by
  let e:b=g:=by simpa using f
  subst e;let⟨o,e,c,d⟩:=a;exact⟨o,e,λv z=>by rw[d] at z;cases z⟩
 keep:=λi h m a k=>a.at λo e=>k g (by simp) o e
 item:=by
  intro X F L D O i ki s σ H E I n a G;subst F L D;let⟨J,q⟩:=G;let⟨vs,r,t⟩:=GX Q (I.hok d _ J);obtain⟨p,R⟩:∃ p,j[i]? = some p:=⟨_,zV q⟩;let⟨u,hu⟩:=Dy r R;let⟨x,y,Y,A,B,C⟩:=n g (by simp)
  rw[JC r] at a⊢;refine wpAny_pyNext_dict_item a t hu λM m hk l sb=>?_;let S:ZG X ki σ H { s with heap:=m }:=I.turned (t':=s.toks) (λb o f e=>(sb.2 b f).trans e) x y A B C;exact⟨M,Z,letGo_keyiter (s':={ s with heap:=m }) l ⟨_,H,S,ZRV hk,⟨Z,p,R,Z⟩,l,λb f=>(n b f).1⟩⟩
 done:=by
  intro X F L D O i ki s σ H E I n a G;subst F L D;let⟨J,q⟩:=G;let⟨vs,r,t⟩:=GX Q (I.hok d _ J);let⟨x,y,Y,A,B,C⟩:=n g (by simp)
  rw[JC r] at a q;exact wpAny_pyNext_dict_end (I.ok.hd O) a t (List.getElem?_eq_none_iff.mpr q) λm T=>⟨Z,I.turned (t':=s.toks) (λb o f e=>T b o f e) x y A B C⟩
 self:=λ_ _ _ _ _ a h=>wpAny_pyIter_keyiter a h
inductive Op(R:It->Hp->Prop)(x:V)(b:Hp):Prop
 |mk(d a:_)(_:x=.ref d)(_:b d=some (.dK a))(_:∀ o,R (Ny d o a) (upd b d (.frz o (.dK a))))
def ZQM(b:TE):TI:=λσ H R=>b σ H λx a=>Op R x a
theorem Ky{C l:Expr}{m:TE}(z:PE X l m):PI X C l (ZQM m):=by
 intro ki s σ H R I h;refine YF (z ki s σ H _ I h) λv a x F f B A=>?_;let⟨d,j,rfl,e,q⟩:=A;cases B;let⟨G,E,D,r,o,t,p,g,c,k,rest⟩:=id (f.hok d _ e);let n:a.heap.DictAt (Wv X.prog X.w) d D p:=⟨o,t,g,c,k,rest⟩;refine wpAny_pyIter_dict E n ?_;rw[<-JC r];let i:=f.re (u:=.frz o (.dK j)) e trivial (f.nofrz e) ⟨g,f.hok d _ e⟩;refine⟨a.heap.objs.size,[a.heap.objs.size],_,_,_,Z,i.kept (t':=a.toks) λb o e=>zA _ e,Ai k _,⟨_,yO _ Z,Z,Z⟩,λb y=>?_,q o⟩;let e:b=a.heap.objs.size:=by simpa using y
 subst e;exact i.fpOk (zY _) (i.hok.fresh (zY _))
end
theorem D5{X:Cx}{a:jE}{b:ExceptHandler}{d:List ExceptHandler}{t:TS}{pos:Pos}(h:Wj X.nox a t):PS X (.Try a (b::d) [] [] pos) t:=by
 intro c s g H D I e;refine wpAny_Try_except ?_;exact ae (h c s g H D (I.wish _) e) (λf i q=>by
  cases f with
  | next=>exact wpAny_execs_nil q.unwish
  | brk=>exact q.unwish
  | cont=>exact q.unwish
  | ret u=>exact q.unwish) λ_ _ z=>False.elim z
end L2
namespace Tw
open PySem PySem.Spec L2 PyProof.Rows
variable{kg kh CS CT CH CK CP CB:ak}
theorem CV(l:jk)(b:Nat):We (iN (l++[b])) (-1)=some (V.int (b:Nat)):=by
 refine KW (j:=1) (zY _) (by simp[iN]) ?_
 simp[iN]
abbrev JR:Stmt:=WB (top 70) 23
abbrev HG:Stmt:=WB (top 70) 9
inductive Y9(kg kh:ak):Sp
 |mk{S d j:ak}{g:jk}{m:jn}{c:Nat->jk}{e:Nat->Nat}{h:jv}{b:List (ZT×V)}{k:jf}{i:Nat}{l:jk}{H:Hp}{Q:VK}{E:XK}:Zq kg kh H S d j g m c e h b k->Rd g c e i l->l.length<=900->(∀(r:ak)(a:Hp),ZD H a->H r=none->a r=some (.lst (iN l))->Q (.ref r) a)->Y9 kg kh [.ref S,.int (i:Nat)] H Q E
theorem Vq:ZB ["self","number","road","above"] zEa (Zc JR):=Zs
inductive EO(S:ak)(n:jk)(av:Nat->jk)(ho:Nat->Nat)(l:jk)(i:Nat)(H:Hp)(r:ak):Nat->L2.St->Hp->Prop
 |mk{j:Nat}{rr lr:jk}{x3:jg}{H':Hp}:Rd n av ho j lr->l=rr++lr->ZD H H'->H r=none->H' r=some (.lst (iN (rr++[j])))->EO S n av ho l i H r lr.length [some (.ref S),some (.int (i:Int)),some (.ref r),x3] H'
theorem ZIs(F:Zg K "road_up" "Shelf.road_up" JR f fd)(L:Yg K mg kg kh)(DH:ZC P w K mg kj ZM 2 kg "holders" zEa (Xb kg kh λ_ q us=>.int ((us.length:Nat)+(q:Nat):Int)))(DT:ZC P w K mg kj ZM 1 kg "twig_of" zEa (Zk kg)):ZI P w K mg kj (WA P w) 3 f fd zEa (Y9 kg kh):=by
 refine F.okD Vq (λvs H Q E h=>(by cases h;rfl)) (λa4 A M s H vs Q E I h=>?_)
 let⟨R,rd,l9,k⟩:=h;rename_i S d V lv ts p q o u X i l
 let Y:=Vq.nd;let J:=I.to 1;intro Xc;refine⟨_,ZL (Ze 2 Y (Yk (ZS (pv 1)))) (ZR (P5 Gb (Xw ME)
  (ZL (Z1 (Yb Pp (YV (E:=E0) (pv 0) L.cS DH I YC (ZS (YX K (pv 2) (Uc UZ ZJ)))) ZJ (Z8 _)) WY Z2)
  (ZL (Ze 3 Y (XS (YV (E:=E0) (pv 0) L.cS DT J YC (ZS (YX K (pv 2) (Uc UZ ZJ)))) rfl))
  (ZL (Z1 (Yb (Lw I.units0) (pv 3) (Yk Zu) (Z8 _)) (ZR (Zh (pv 2))) Z2)
  (ZR (XT (Qo xL vS vR OB (pv 2) (ZS (YX K (pv 3) ZJ)))))))))),?_⟩
 exists _,Z,YE;intro r n;exists EO S lv p q l i H r,⟨_,.mk (rr:=[]) (x3:=none) rd Z (Zl n _) n ZX⟩;rintro _ _ H1 (@⟨b,rr,lr,x3,_,e,C,s1,n,D⟩);refine⟨_,Z,YM ⟨_,λ_ _ z=>z,?_⟩⟩;let B:=e.lt;let m:=R.same s1;let⟨O,U⟩:=m.sh.self;let W:=m.tw b B;let⟨dt,hx⟩:=W.tw.self;let o1:(p b).length+q b=1:=by
  cases e with
  | top _ t=>rw[t.1,t.2];rfl
  | up _ y N=>rw[y,N];rfl
 let lI:(iN (p b)).length=(p b).length:=zX _;refine⟨_,Z,S,O,_,Z,U,Z,_,Z,1,Z,.inl ⟨r,_,_,.int (b:Nat),Z,Z,ZF.of D,CV _ _,S,d,V,ts.length,u,X,(b:Int),_,_,_,_,_,_,Z,⟨m.sh,m.val b B,W.tw⟩,?_⟩⟩;exists _,_,Z,Z,_,Z;rw[show decide (((iN (p b)).length:Nat)+(q b:Nat) > (1:Int))=false from aI (by rw[lI];lia)]
 refine Zo ⟨_,Z,S,O,_,Z,U,Z,_,Z,1,Z,.inl ⟨r,_,_,.int (b:Nat),Z,Z,ZF.of D,CV _ _,S,d,V,ts.length,u,X,(b:Int),.ref (o.getD b .d).x,Z,m.sh,m.val b B,(o.getD b .d).x,kh,dt,_,.ref (o.getD b .d).ab,Z,hx,L.cT,L.nab,Z,?_⟩⟩;exists _,Z,YE;intro T G;let v:=Zl G (.lst []);let a:=v _ _ W.tw.above;let c:=v _ _ D;let g:=s1.trans v;exists (o.getD b .d).ab,T,_,Z,Z,ZF.of a,ZF.of ZX,_,Z;generalize upd H1 T (.lst [])=H3 at v a c g⊢
 cases e with
 | top _ t=>
  rw[t.1,show (iN ([]:jk)).isEmpty=true from rfl];exact YM ⟨_,Z,k _ H3 g n (by rw[C];exact c)⟩
 | up a0 y N a3=>
  rename_i j lq
  rw[y] at a⊢;let ll:=congrArg wN C;rw[zW,zI] at ll;rw[show (iN [j]).isEmpty=false from rfl];refine Zo ⟨_,Z,.inl ⟨Z,_,ZF.of c⟩,_,Z,.inl ⟨(o.getD b .d).ab,_,0,.int (j:Nat),Z,Z,ZF.of a,Vd (j:=0) Z,r,_,.int (j:Nat),Z,Z,c,Ym (by simp[iN];lia),?_⟩⟩
  refine⟨lq.length,by simp,.mk (rr:=rr++[b]) a3 (by rw[C,yQ];rfl) (VQ g n) n ?_⟩
  rw[ZX];simp[iN]
inductive Xu(kg kh:ak):Sp
 |mk{S d j:ak}{g:jk}{m:jn}{c:Nat->jk}{e:Nat->Nat}{h:jv}{a:List (ZT×V)}{k:jf}{i:Nat}{l:jk}{H:Hp}{Q:VK}{E:XK}:Zq kg kh H S d j g m c e h a k->Rd g c e i l->l.length<=900->(∀(b:Hp),ZD H b->Q (.bl true) b)->Xu kg kh [.ref S,.int (i:Nat)] H Q E
theorem Au:ZB zEa zEa (Zc HG):=Zs
theorem Io{X:Cx}:QR (WA P w) X E0:=λ_ _ _ _ _ _ _ h=>by
 let⟨_,_,_,_,_,_,h⟩:=h;exact h.elim
theorem ZKz(F:Zg K "alone" "Shelf.alone" HG f fd)(L:Yg K mg kg kh)(b:ZC P w K mg kj (WA P w) 3 kg "road_up" zEa (Y9 kg kh)):ZI P w K mg kj ZM 4 f fd zEa (Xu kg kh):=by
 refine F.ok Au (λm H Q E h=>(by cases h;rfl)) (λd A a s H m Q E i h=>?_)
 let⟨R,rd,j,k⟩:=h;intro n;exists _,ZL (D5 (ZR (XT (YV (E:=E0) (pv 0) L.cS b i Io (ZS (pv 1)))))) (ZR (Zh ME));let⟨e,g⟩:=R.sh.self;exact⟨_,Z,_,e,_,Z,g,Z,_,Z,.mk R rd j λr c l _ _=>k c l⟩
abbrev HS:Stmt:=WB (top 70) 24
abbrev Kh:Stmt:=WB (top 70) 25
abbrev kI(i:Nat):ZT:=Sum.inl (i:Int)
theorem Ac{i j:Nat}(h:i≠j):kI i≠kI j:=λz=>h (by have:=Sum.inl.inj z;lia)
structure Qz(H:Hp)(cur:jn)(done:jk)(lkv:List (ZT×V)):Prop where
 keys:lkv.map (·.1)=done.map kI
 at_:∀ i∈done,∃ v,YU lkv (kI i)=some v/\Z4 H (Zy (gd cur i)) v
theorem Qz.no{H:Hp}{d:jn}{a:jk}{c:List (ZT×V)}(h:Qz H d a c){b:Nat}(f:b∉a):YU c (kI b)=none:=by
 cases z:YU c (kI b) with
 | none=>rfl
 | some v=>
  have:=Ij z;rw[h.keys] at this;let⟨i,g,e⟩:=zR.mp this;exact absurd (show b∈a by
   have:i=b:=by have:=Sum.inl.inj e;lia
   rw[<-this];exact g) f
theorem Qz.mono{H d:Hp}{b:jn}{a:jk}{c:List (ZT×V)}(h:Qz H b a c)(m:Zt H d):Qz d b a c:=⟨h.keys,λi f=>by
 let⟨v,e,k⟩:=h.at_ i f;exact⟨v,e,k.mono m⟩⟩
theorem Qz.push{H:Hp}{c b:jn}{a:jk}{f:List (ZT×V)}{s:Nat}{v:V}(h:Qz H c a f)(j:s∉a)(e:∀ i∈a,gd b i=gd c i)(k:Z4 H (Zy (gd b s)) v):Qz H b (a++[s]) (Yj f (kI s) v):=by
 exists by rw[LV v (h.no j),zD,h.keys,zD];rfl
 intro i g;rw[Ks];by_cases z:i=s
 ·subst z;rw[aM rfl];exact⟨v,Z,k⟩
 ·rw[aK (Ac z)];let d:i∈a:=(yW.mp g).elim id λy=>absurd (zH.mp y) z;rw[e i d];exact h.at_ i d
theorem Qn.inv{k:jk}{g j:jn}{s:Nat}{r:jk}(h:Qn k g (s::r) j):s<g.length/\(∀ b∈(gd g s).bs,b∈k)/\(gd g s).bs.length<=4/\(∀ i,((YJ g (gd g s).bs).getD i .d).fit)/\over (YJ g (gd g s).bs)=some (Zy (Y3 g (gd g s).bs))/\Qn k (g.set s (Y3 g (gd g s).bs)) r j:=by
 cases h with | cons a b c d e f=>exact⟨a,b,c,d,e,f⟩
inductive WL(kg kh:ak):Sp
 |mk{S d o r:ak}{e:jk}{j:jn}{l:Nat->jk}{m:Nat->Nat}{k:jv}{g:List (ZT×V)}{p:jf}{n:Nat}{rest:jk}{v:V}{t:ZN}{a:jn}{H:Hp}{Q:VK}{E:XK}:
  Zq kg kh H S d o e j l m k g p->n∈e->(n::rest).Nodup->(∀ i∈rest,i∈e/\(gd j i).h≠0)->rest.length<=800->H r=some (.lst (iN (n::rest)))->Qn e (j.set n t) rest a->Z4 H (Zy t) v ->
  (∀(c:Hp)(D:ak)(b:List (ZT×V)),ZD H c->H D=none->c D=some (.dK b)->Qz c a (n::rest) b->Q (.ref D) c)->WL kg kh [.ref S,.ref r,v] H Q E
abbrev Cw:jp:=["self","road","label","labels","stem","branches"]
theorem U9:ZB Cw zE8 (Zc HS):=Zs
inductive CJ(S r D q:ak)(n:Nat)(v:V)(lv:jk)(ts:jn)(rest:jk)(cur:jn)(H:Hp):Nat->L2.St->Hp->Prop
 |mk{k:Nat}{H2:Hp}{x y:jg}{c2:jn}{lkv:List (ZT×V)}:ZD H H2->H2 q=some (.lst (iN rest))->H2 D=some (.dK lkv)->Qn lv c2 (rest.drop k) cur->c2.length=ts.length->(∀ i,i∉n::rest.take k->gd c2 i=gd ts i)->Qz H2 c2 (n::rest.take k) lkv ->
  CJ S r D q n v lv ts rest cur H k [some (.ref S),some (.ref r),some v,some (.ref D),x,y] H2
theorem ZLi(F:Zg K "labels_up" "Shelf.labels_up" HS f fd)(L:Yg K mg kg kh)(DT:ZC P w K mg kj ZM 1 kg "twig_of" zEa (Zk kg))(DL:ZC P w K mg kj ZM 2 kg "label" zEa (Xb kg kh λtg _ _=>tg))(DO:ZA P w K mg kj 9 "label_over" ["labels"] WK):
  ZI P w K mg kj ZM 10 f fd zE8 (WL kg kh):=by
 refine F.ok U9 (λvs H Q E h=>(by cases h;rfl)) (λi7 A i5 s H vs Q E hr h=>?_)
 let⟨R,hn,i4,i2,i6,c0,ch,hv,k2⟩:=h;rename_i S d lk r lv l av ho as c8 ls n rest v t e4
 let nd:=U9.nd;let hu:=OV hr;let i0:=hr.mono (show 1<=9 by lia)
 let i1:=hr.mono (show 2<=9 by lia)
 intro Xc;refine⟨_,ZL (N3 (i:=3) nd rfl (Or.inr rfl) (ZNA (AW (YX K (pv 1) ZJ) (pv 2) ZNW) rfl rfl (by intro z;cases z) (by decide)))
  (ZL (VD PassesOwn.never rfl (X9 (PJ PU (pv 1) (QD ZJ) OT)) (WG 4 nd)
   (ZL (Ze 5 nd (XS (YV (E:=E0) (pv 0) L.cS DT i0 YC (ZS (pv 4))) rfl))
   (ZR (Lj hu (pv 3) (pv 4) (Zf DO hr (ZS (VJ [3,0] ["labels","self"] rfl (X9 (pv 5)) (λ_ _ _ _ _=>Wc) (λ_ _ _ _ _=>Jx hu (pv 1) (pv 0) (YV (E:=E0) (pv 2) L.cS DL i1 YC (ZS (pv 0))) ⟨Z,Z,Z,Z⟩) ⟨rfl,.inl rfl,rfl,rfl,.inl rfl,rfl,trivial⟩))) rfl))))
  (ZR (Zh (pv 3)))),?_⟩
 intro D nD;let g1:=Zl nD (.dK []);refine⟨_,Z,.inl ⟨r,_,0,.int (n:Nat),Z,Z,ZF.of (g1 _ _ c0),Vd (j:=0) Z,_,Z,?_⟩⟩;exists ZX,[(kI n,v)],Z,(by show 1<=15;lia)
 let e0:NV [] [(kI n,v)]=[(kI n,v)]:=rfl;rw[e0,Nk];let s0:ZD H (upd H D (.dK [(kI n,v)])):=Zl nD _;let X:upd H D (.dK [(kI n,v)]) D=some (.dK [(kI n,v)]):=ZX;generalize upd H D (.dK [(kI n,v)])=H1 at s0 X⊢;exists _,Z,_,Z,r,_,Z,ZF.of (s0 _ _ c0);intro q nq;let a3:UC (iN (n::rest)) (some 1) none=iN rest:=by
  unfold UC;let e1:HT.sIx (iN (n::rest)).length 0 (some 1)=1:=by
   unfold HT.sIx;simp[iN]
   try lia
  let e2:HT.sIx (iN (n::rest)).length (iN (n::rest)).length none=(iN (n::rest)).length:=rfl;rw[e1,e2];simp[iN];exact zE (by simp)
 rw[a3];let g2:=Zl nq (.lst (iN rest));let hq:upd H1 q (.lst (iN rest)) q=some (.lst (iN rest)):=ZX;let a5:=g2 _ _ X;let s1:=s0.trans g2;let qD:q≠D:=λz=>by rw[z,X] at nq;cases nq
 let c4:=hv.mono (ZD.tups s1);generalize upd H1 q (.lst (iN rest))=H2 at g2 hq a5 s1 c4⊢;let gn:∀ i,gd (l.set n t) i=if i=n then t else gd l i:=λi=>Le (R.lt n hn)
 refine⟨q,Z,⟨_,ZF.of hq⟩,PR (K:=K) (a:=q) (xs:=iN rest) (CJ S r D q n v lv l rest e4 H) (.mk s1 hq a5 ch (by rw[wB]) (λi m=>by rw[gn,aK λz=>m (by rw[z];exact zS)]) ⟨rfl,λi m=>?_⟩) (λi σ H3 _ B=>by let⟨_,O,_⟩:=B;exact ZF.of O) ?_ ?_⟩
 ·rw[zH.mp m,gn,aM rfl];exact⟨v,by rw[UP rfl],c4⟩
 ·rintro k u σ H3 a0 ⟨s3,O,M,ec,c9,T,Y⟩;unfold iN at a0;rw[zC] at a0;let⟨g,es,rfl⟩:=xZ.mp a0;rename_i x y C o
  let hk:k<rest.length:=(yZ.mp es).1;let eg:rest[k]=g:=(yZ.mp es).2;let ed:rest.drop k=g::rest.drop (k+1):=by rw[xB hk,eg]
  let et:rest.take (k+1)=rest.take k++[g]:=by rw[yS,es];rfl
  let⟨e3,h0⟩:=i2 g (zJ es);let a2:g∉n::rest.take k:=λz=>by
   let nn':=i4;let e2:n::rest=(n::rest.take k)++g::rest.drop (k+1):=by
    show n::rest=n::(rest.take k++g::rest.drop (k+1));rw[<-ed,yD]
   rw[e2,yA] at nn';exact nn'.2.2 g z g zS Z
  let e6:=T g a2;rw[ed] at ec;let⟨c1,c3,b4,c5,c6,c7⟩:=ec.inv;rw[e6] at c3 b4 c5 c6 c7;let R3:=R.same s3;let⟨dS,hS⟩:=R3.sh.self;let W:=R3.tw g e3;let⟨dt,hx⟩:=W.tw.self;let⟨us,J,_,V⟩:=W.things;let V:=V h0;subst V;exists _,Z,S,dS,_,Z,hS,Z,_,Z,S,d,lk,l.length,c8,ls,(g:Int),.ref (as.getD g .d).x,Z,R3.sh,R3.val g e3,(as.getD g .d).x,kh,dt,_,.ref (as.getD g .d).th,Z,hx,L.cT,L.nth,Z;exists _,Z,(as.getD g .d).th,Z,⟨_,ZF.of J⟩;refine WT (n:=(gd l g).bs.length) (λi z=>(iN (gd l g).bs)[i]? = some z) (λG i ys p=>ZD H3 p/\H3 G=none/\Yi p ((YJ C (gd l g).bs).take i) ys) (Ym ∅)
   (λG i ys p m B=>⟨_,.int ((gd l g).bs[i]:Nat),ZF.of (B.1 _ _ J),by simp[iN,m]⟩) (λG i ys p z H5 m B hy=>⟨hy.1,hy.2 _ (ZF.of (B.1 _ _ J))⟩) (λG ys p B=>⟨_,ZF.of (B.1 _ _ J),by simp[iN]⟩)
   (λG a6=>⟨Zl a6 _,a6,Z,λi u e=>by simp at e⟩) (λG i ys p z I i8 m hz B RR e7=>?_) (λG us p I B=>?_)
  ·let⟨s4,a1,N⟩:=B;let ez:z=.int ((gd l g).bs[i]:Nat):=by
    unfold iN at hz;rw[zC,zV m] at hz;exact(yT.inj hz).symm
   subst ez;let a9:(gd l g).bs[i]∈(gd l g).bs:=xN _;let a4:(YJ C (gd l g).bs)[i]? = some (Zy (gd C (gd l g).bs[i])):=by unfold YJ;rw[zC,zV m];rfl
   generalize (gd l g).bs[i]=b at a9 a4⊢;let bl:b∈lv:=c3 b a9;let R4:=R3.same s4;let⟨e5,e8⟩:=R4.sh.self;let Wb:=R4.tw b bl;let a7:=s4 _ _ M;exists _,Z,D,Z,.inl ⟨_,.inl a7⟩,_,Z,_,Z,S,e5,_,Z,e8,Z,_,Z,S,d,lk,l.length,c8,ls,(b:Int),_,_,_,_,_,_,Z,⟨R4.sh,R4.val b bl,Wb.tw⟩,YU o (kI b),Yq.k (k:=kI b) a7;let tD:∀ vv,Zt p (upd p G (.lst (ys++[vv]))):=λvv c xs e=>by rw[ZQ (ZV e I)];exact e
   let i3:Z4 p (Zy (gd C b)) ((YU o (kI b)).getD (.ref (as.getD b .d).tg)):=by
    by_cases c:b∈n::rest.take k
    ·let⟨v',e',k'⟩:=Y.at_ b c;rw[e'];exact k'.mono (ZD.tups s4)
    ·rw[Y.no c,T b c];exact Wb.tag
   refine e7 _ p I ⟨VQ s4 a1,a1,?_⟩;rw[yS,a4];exact(N.snoc i3).mono (tD _)
  let⟨s4,a1,N⟩:=B;let ll:(YJ C (gd l g).bs).length=(gd l g).bs.length:=zX _;rw[zE ∅] at N
  exists G,us,_,_,Z,I,N,c5,c6;intro H5 vv s5 e9;let U:=s4.trans s5;let a8:=U _ _ M;let i9:o.length<=801:=by
   have:=congrArg wN Y.keys;rw[zX,zX,zI,yJ] at this
   lia
  exists _,Z,_,Z,D,_,Z,Vw.k (k:=kI g) a8 (Ym ∅)
  let sD:ZD H (upd H5 D (.dK (Yj o (kI g) vv))):=VQ (s3.trans U) nD;let tD:Zt H5 (upd H5 D (.dK (Yj o (kI g) vv))):=λc xs e=>by rw[ZQ (ZV e a8)];exact e
  let gs:∀ i,gd (C.set g (Y3 C (gd l g).bs)) i=if i=g then Y3 C (gd l g).bs else gd C i:=λi=>Le c1
  refine .mk sD (by rw[ZQ qD];exact U _ _ O) ZX c7 (by rw[wB];exact c9) (λi m=>?_) ?_
  ·rw[et,<-vU] at m;rw[gs,aK λz=>m (by rw[z];simp)]
   exact T i λz=>m (yL _ z)
  ·rw[et,<-vU];refine((Y.mono (ZD.tups U)).mono tD).push a2 (λi m=>?_) ?_
   ·rw[gs,aK (show ¬ i=g from λz=>a2 (z ▸ m))]
   ·rw[gs,aM rfl];exact(En e9).mono tD
 ·rintro σ H3 ⟨s3,O,M,ec,c9,T,Y⟩;rename_i x y C o
  rw[show (iN rest).length=rest.length from zX _,zE (zY _)] at Y;rw[show (iN rest).length=rest.length from zX _,uZ (zY _)] at ec;cases ec;exact⟨_,Z,k2 H3 D o s3 nD M Y⟩
end Tw
namespace L2
open PySem PySem.Spec PyProof.Rows
theorem HQ{d:ak}{o:aH}{a:List (ZT×V)}{g:TG}{r:TS}{D:Y0}{b:St}{H:Hp}(c:Nat->St->Hp->Prop)(u:c 0 b H)(z:∀ i b H,i<=a.length->c i b H->H d=some (.frz o (.dK a)))(A:∀ i p b H,a[i]? = some p->c i b H->g (kV p.1) b H λj l=>r { D with nx:=c (i+1),ct:=c (i+1),bk:=D.nx } j l)(v:∀ b H,c a.length b H->D.nx b H):
  ∃ W:Nat->Nat->St->Hp->Prop,(∃ m,W 0 m b H)/\∀ i m b H,W i m b H ->
   ((Ny d o a).stop i H/\D.nx b H)\/((Ny d o a).go i H/\∃ N:St->Hp->Prop,(∀ h f,N h f->∃ n,n<m/\W (i+1) n h f)/\∀ x f,(Ny d o a).yld i H x f->g x b f λj l=>r { D with nx:=N,ct:=N,bk:=D.nx } j l):=by
 exists λi m b H=>m=a.length-i/\i<=a.length/\c i b H,⟨a.length,by simp,zM _,u⟩
 rintro i m b H ⟨rfl,w,p⟩;let q:=z i b H w p;by_cases k:i<a.length
 ·refine .inr ⟨⟨q,k⟩,c (i+1),λh f B=>⟨a.length-(i+1),∅,Z,k,B⟩,λx f y=>?_⟩
  let⟨e,C,s,t⟩:=y;subst e t;exact A i C b _ s p
 ·let e:i=a.length:=∅
  subst e;exact .inl ⟨⟨q,zY _⟩,v b H p⟩
end L2
namespace Tw
open PySem PySem.Spec L2 PyProof.Rows
variable{kg kh CS CT CH CK CP CB:ak}
inductive N8(kh:ak)(H:Hp)(x:Nat->ak)(e d:Nat->V)(a:Nat->ak)(c:Nat->Nat)(i:Nat):Prop
 |mk(b:_)(_:H (x i)=some (.ins kh b (VN (e i) (d i) (a i) (c i))))
inductive WW(kg kh:ak):Sp
 |mk{S d lk D:ak}{N:Nat}{kvs lkv:List (ZT×V)}{ls:jf}{rd:jk}{x ab:Nat->ak}{th tg vl:Nat->V}{ho:Nat->Nat}{H:Hp}{Q:VK}{E:XK}:
  XZ kg H S d lk N kvs ls->(∀ i∈rd,YU kvs (kI i)=some (.ref (x i))/\x i≠S)->(∀ i∈rd,N8 kh H x th tg ab ho i)->H D=some (.dK lkv)->D≠d->lkv.map (·.1)=rd.map kI->rd.Nodup->(∀ i∈rd,YU lkv (kI i)=some (vl i))->(∀ i∈rd,∀ j∈rd,i≠j->x i≠x j) ->
  (∀ H',(∀ c o,(∀ i∈rd,c≠x i)->H c=some o->H' c=some o)->(∀ i∈rd,N8 kh H' x th vl ab ho i)->Q .non H')->WW kg kh [.ref S,.ref D] H Q E
abbrev ZQC:jp:=["self","labels","number","twig"]
theorem Q3:ZB ZQC zFg (Zc Kh):=Zs
inductive EH(kh S D:ak)(o:aH)(lkv:List (ZT×V))(rd:jk)(x ab:Nat->ak)(th tg vl:Nat->V)(ho:Nat->Nat)(H:Hp):Nat->L2.St->Hp->Prop
 |mk{k:Nat}{y z:jg}{H2:Hp}:(∀ c o,(∀ i∈rd,c≠x i)->c≠D->H c=some o->H2 c=some o)->H2 D=some (.frz o (.dK lkv))->(∀ i∈rd.take k,N8 kh H2 x th vl ab ho i)->(∀ i∈rd.drop k,N8 kh H2 x th tg ab ho i) ->
  EH kh S D o lkv rd x ab th tg vl ho H k [some (.ref S),some (.ref D),y,z] H2
theorem ZNi(F:Zg K "give_labels" "Shelf.give_labels" Kh f fd)(L:Yg K mg kg kh)(DT:ZC P w K mg kj ZM 1 kg "twig_of" zEa (Zk kg)):ZI P w K mg kj ZM 2 f fd zFg (WW kg kh):=by
 refine F.ko Q3 λa9 A a8 s H vs Q E hr h=>?_;let⟨R,hv,hl,I,a6,hk,a7,a3,hx,k⟩:=h;rename_i S d lk D N a5 m ls rd x ab th tg vl ho
 let nd:=Q3.nd;let hu:=OV hr;let ll:m.length=rd.length:=by have:=congrArg wN hk;simpa using this
 intro Xc;refine⟨_,ZR (Id (VD PassesOwn.never rfl (Ky (pv 1)) (WG 2 nd)
  (ZL (Ze 3 nd (YV (E:=E0) (pv 0) L.cS DT hr YC (ZS (pv 2))))
  (ZR (U3 (pv 3) (M0 hu (pv 1) (pv 2)) rfl))))),?_⟩
 let⟨⟨dS,hS⟩,hd,u⟩:=R;let ins:∀ i∈rd,∃ g V,H (x i)=some (.ins kh g V):=λi a=>by
  let⟨g,e⟩:=hl i a;exact⟨g,_,e⟩
 let nD:∀ i∈rd,x i≠D:=λi a=>by
  let⟨g,V,e⟩:=ins i a;exact ZV e I
 exists D,m,I,_,Z,D,m,Z,I;intro o;refine HQ (EH kh S D o m rd x ab th tg vl ho H) (.mk (λc X _ n e=>by rw[ZQ n];exact e) ZX (λi a=>by simp at a) (λi a=>?_)) (λi σ Y _ hP=>by let⟨_,h2,_,_⟩:=hP;exact h2) ?_ ?_
 ·let⟨g,e⟩:=hl i a;exact⟨g,by rw[ZQ (nD i a)];exact e⟩
 ·rintro i p σ Y hp ⟨G,r,t,B⟩;let a:i<rd.length:=by rw[<-ll];exact(yZ.mp hp).1
  let ep:p.1=kI rd[i]:=by
   have:=congrArg (λl=>l[i]?) hk;simp only[zC,hp,zV a] at this;exact yT.inj this
  let er:rd[i]? = some rd[i]:=zV a;let W:rd.drop i=rd[i]::rd.drop (i+1):=xB a;let et:rd.take (i+1)=rd.take i++[rd[i]]:=by rw[yS,er];rfl
  let U:rd=rd.take i++rd[i]::rd.drop (i+1):=by rw[<-W,yD]
  let J:rd[i]∈rd:=xN _;let v:=a7;rw[U,yA,xU] at v;rw[ep];generalize rd[i]=b at W et U J v⊢;let nS:∀ j∈rd,S≠x j:=λj q=>(hv j q).2.symm;let T:∀(c:ak)(o:HO),H c=some o->(∀ C g V,o≠.ins C g V)->∀ j∈rd,c≠x j:=λc o e n j q=>by
   let⟨g,V,e2⟩:=ins j q;exact ZV e e2 (n _ _ _)
  let M:=G _ _ nS (ZV hS I) hS;let a0:=G _ _ (T _ _ hd (by intro _ _ _ z;cases z)) a6.symm hd
  let a2:=G _ _ (T _ _ u (by intro _ _ _ z;cases z)) (ZV u I) u
  let⟨g,a4⟩:=B b (by rw[W];exact zS)
  let a1:Yq Y D (.int (b:Nat)) (some (vl b)):=.inl ⟨m,kI b,.inr ⟨o,r⟩,Z,(a3 b J).symm⟩;exists _,Z,S,dS,_,Z,M,Z,_,Z,S,d,lk,N,a5,ls,(b:Int),.ref (x b),Z,⟨⟨dS,M⟩,a0,a2⟩,(hv b J).1;exists _,Z,_,Z,D,vl b,Z,a1,_,Z,x b,kh,g,_,Z,a4,L.cT,L.ntg,yN Z;let ne:∀ j∈rd,j≠b->x j≠x b:=λj q n=>hx j q b J n;refine .mk (λc X n1 n2 e=>by rw[ZQ (n1 b J)];exact G c X n1 n2 e) (by rw[ZQ (nD b J).symm];exact r) (λj q=>?_) (λj q=>?_)
  ·rw[et] at q;by_cases z:j=b
   ·subst z;exact⟨g,ZX⟩
   ·let O:j∈rd.take i:=(yW.mp q).elim id λy=>absurd (zH.mp y) z;let⟨dj,ej⟩:=t j O;exact⟨dj,by rw[ZQ (ne j (rL O) z)];exact ej⟩
  ·let z:j≠b:=λz=>v.2.1.1 (z ▸ q);let⟨dj,ej⟩:=B j (by rw[W];exact zQ _ q)
   exact⟨dj,by rw[ZQ (ne j (uG q) z)];exact ej⟩
 ·rintro σ Y ⟨G,r,t,B⟩;rw[ll,zE (zY _)] at t;refine⟨o,m,r,k _ (λc X n e=>?_) λi a=>?_⟩
  ·by_cases z:c=D
   ·subst z;rw[ZX,<-e,I]
   ·rw[ZQ z];exact G c X n z e
  ·let⟨g,e⟩:=t i a;exact⟨g,by rw[ZQ (nD i a)];exact e⟩
def OL(a:jv)(rd:jk)(n b:Nat)(c:Nat->ak):jv:=(yF a.length).map λi=>if i∈rd then ⟨(a.getD i .d).x,if i=n then b else (a.getD i .d).th,c i,(a.getD i .d).ab⟩ else a.getD i .d
theorem Nw{a:jv}{rd:jk}{n own:Nat}{tg:Nat->ak}{i:Nat}(h:i<a.length):(OL a rd n own tg).getD i .d=if i∈rd then ⟨(a.getD i .d).x,if i=n then own else (a.getD i .d).th,tg i,(a.getD i .d).ab⟩ else a.getD i .d:=by
 unfold OL;rw[zU,zC,List.getElem?_range h];rfl
structure Mx(H:Hp)(lv:jk)(as as':jv):Prop where
 x:∀ i∈lv,(as'.getD i .d).x=(as.getD i .d).x
 ab:∀ i∈lv,(as'.getD i .d).ab=(as.getD i .d).ab
 th:∀ i∈lv,(as'.getD i .d).th=(as.getD i .d).th\/H (as'.getD i .d).th=none
section
variable{kg kh:ak}{H H':Hp}{S d lk:ak}{lv:jk}{ts cur:jn}{rd:jk}{av:Nat->jk}{ho:Nat->Nat}{as:jv}{kvs:List (ZT×V)}{ls us:jf}{n own:ak}{tg:Nat->ak}
theorem ZNT(R:Zq kg kh H S d lk lv ts av ho as kvs ls)(t:cur.length=ts.length)(hn:n∈rd)(s:∀ i∈rd,i∈lv)(J:H own=none)(L:∀ c o,(∀ i∈rd,c≠(as.getD i .d).x)->H c=some o->H' c=some o)(sh:∀ i,i≠n->(gd cur i).bs=(gd ts i).bs)(hh:∀ i,(gd cur i).h=(gd ts i).h)(E:∀ i,i∉rd->gd cur i=gd ts i)(D:∀ i∈rd,i≠n->(gd ts i).h≠0)(A:∀ i∈rd,N8 kh H' (λi=>(as.getD i .d).x) (λi=>.ref (if i=n then own else (as.getD i .d).th)) (λi=>.ref (tg i)) (λi=>(as.getD i .d).ab) ho i)(N:∀ i∈rd,Z4 H' (Zy (gd cur i)) (.ref (tg i)))(B:H' own=some (.lst us))(h0:(gd cur n).h=0->jX H' (Z6 (gd cur n).rows) us)(h1:(gd cur n).h≠0->us=iN (gd cur n).bs):
  Zq kg kh H' S d lk lv cur av ho (OL as rd n own tg) kvs ls/\Mx H lv as (OL as rd n own tg):=by
 let⟨⟨dS,hS⟩,hd,V⟩:=R.sh;let ins:∀ i:Nat,i∈lv->∃ g us,H (as.getD i .d).x=some (.ins kh g us):=λi a=>by
  let⟨g,e⟩:=(R.tw i a).tw.self;exact⟨g,_,e⟩
 let k:∀ c o,(∀ C g fs,o≠.ins C g fs)->H c=some o->H' c=some o:=λc o n e=>L c o (λi a=>by
  let⟨g,us,I⟩:=ins i (s i a);exact ZV e I (n _ _ _)) e
 let m:Zt H H':=λc xs e=>k c _ (by intro _ _ _ z;cases z) e
 let u:∀ i:Nat,i∈lv->i<as.length:=λi a=>by rw[R.len];exact R.lt i a
 let F:∀ i:Nat,i∈lv->∃ us,H (as.getD i .d).th=some (.lst us):=λi a=>by
  let⟨us,e,_⟩:=(R.tw i a).things;exact⟨us,e⟩
 let r:∀ i:Nat,i∈lv->H (as.getD i .d).ab=some (.lst (iN (av i))):=λi a=>(R.tw i a).tw.above;let v:∀ i:Nat,i∈lv->((OL as rd n own tg).getD i .d).x=(as.getD i .d).x:=λi a=>by rw[Nw (u i a)];split <;> rfl
 let b:∀ i:Nat,i∈lv->((OL as rd n own tg).getD i .d).ab=(as.getD i .d).ab:=λi a=>by rw[Nw (u i a)];split <;> rfl
 let f:∀ i:Nat,i∈lv->((OL as rd n own tg).getD i .d).th=if i=n then own else (as.getD i .d).th:=λi a=>by
  rw[Nw (u i a)];by_cases z:i∈rd
  ·rw[aM z]
  ·rw[aK z,aK (λy=>z (by rw[y];exact hn))]
 let l:∀ i:Nat,i∈lv->own≠(as.getD i .d).th/\own≠(as.getD i .d).ab:=λi a=>by
  let⟨us,e⟩:=F i a;exact⟨(ZZ e J).symm,(ZZ (r i a) J).symm⟩
 let O:own≠lk:=(ZZ V J).symm;refine⟨⟨⟨⟨dS,by rw[t];exact L _ _ (λi a=>(R.own i (s i a)).1.symm) hS⟩,k _ _ (by intro _ _ _ z;cases z) hd,k _ _ (by intro _ _ _ z;cases z) V⟩,by rw[t];exact R.lt,R.keys,λi a=>by rw[v i a];exact R.val i a,by unfold OL;simp[R.len,t],λi a=>?_,λi a=>?_,λi j a p w=>?_⟩,v,b,λi a=>?_⟩
 ·let W:=R.tw i a;by_cases z:i∈rd
  ·let e:=Nw (rd:=rd) (n:=n) (own:=own) (tg:=tg) (u i a);rw[aM z] at e;let⟨g,U⟩:=A i z;exists ?_,?_
   ·rw[e];exact⟨⟨g,U⟩,k _ _ (by intro _ _ _ z;cases z) (r i a)⟩
   ·rw[e];by_cases y:i=n
    ·subst y;rw[aM rfl];exact⟨us,B,h0,h1⟩
    ·rw[aK y];let⟨T,e1,I,e3⟩:=W.things;let M:=D i z y;rw[hh i,sh i y];exact⟨T,k _ _ (by intro _ _ _ z;cases z) e1,λq=>absurd q M,e3⟩
   ·rw[e];exact N i z
  ·let e:=Nw (rd:=rd) (n:=n) (own:=own) (tg:=tg) (u i a);rw[aK z] at e;rw[e];let⟨g,U⟩:=W.tw.self;let G:=W.frame m (λo e=>L _ _ (λj p=>(R.two i j a (s j p) λy=>z (by rw[y];exact p)).1) e) (λo e=>k _ _ (by let⟨us,I⟩:=F i a;have:=e.symm.trans I;cases this;intro _ _ _ z;cases z) e) (λo e=>k _ _ (by have:=e.symm.trans (r i a);cases this;intro _ _ _ z;cases z) e)
   exists G.tw,?_
   ·rw[E i z];exact G.things
   ·rw[E i z];exact G.tag
 ·rw[v i a,b i a,f i a];let⟨X,Y,o3,o4⟩:=R.own i a;by_cases y:i=n
  ·rw[aM y];exact⟨X,Y,O,(l i a).2.symm⟩
  ·rw[aK y];exact⟨X,Y,o3,o4⟩
 ·rw[v i a,b i a,f i a,v j p,b j p,f j p];let⟨P,Q,t3,t4⟩:=R.two i j a p w;by_cases y:i=n
  ·let K:j≠n:=λz=>w (y.trans z.symm);rw[aM y,aK K];exact⟨P,Q,t3,(l j p).1⟩
  ·rw[aK y];by_cases K:j=n
   ·rw[aM K];exact⟨P,Q,(l i a).2.symm,(l i a).1.symm⟩
   ·rw[aK K];exact⟨P,Q,t3,t4⟩
 ·rw[f i a];by_cases y:i=n
  ·rw[aM y];exact .inr J
  ·rw[aK y];exact .inl Z
end
end Tw
namespace L2
open PySem PySem.Spec PyProof.Rows
theorem ZNP{a:jy}{b:je}(h:ZO (a.map V.int) b):PySem.W.kf_ints b=true/\∀(i:Nat)(n:Int),a[i]? = some n->∃ t,b[i]? = some (.int n t):=by
 refine⟨?_,λi n e=>?_⟩
 ·induction a generalizing b with
  | nil=>cases h;rfl
  | cons n a d=>
   cases h with
   | cons r t=>
    let⟨f,rfl⟩:=r;rw[PySem.W.kf_ints];exact d t
 ·let⟨u,c,t,rfl⟩:=h.get (x:=.int n) (i:=i) (by rw[zC,e];rfl)
  exact⟨t,c⟩
inductive Pa(x:V)(c:jf)(H:Hp)(Q:VK):Prop
 |mk(l:ak)(a:jy)(b:Int)(_:x=.ref l)(_:c=[.int b])(_:H l=some (.lst (a.map V.int)))(_:b∈a)(_:Q .non (upd H l (.lst ((a.erase b).map V.int))))
theorem AY:Nh X "list.remove" Pa:=by
 intro D s Y H x V v U Q I R P h;let⟨l,d,b,rfl,rfl,C,J,q⟩:=h;cases R;let⟨u,rfl,O⟩:=P.one;let⟨S,rfl⟩:=O;let⟨z,c,n,r,T,e⟩:=I.lstM C;let⟨N,o⟩:=ZNP r;let B:=List.idxOf_lt_length_of_mem J;let g:c.length=d.length:=by have:=r.length;rw[zX] at this;exact this.symm
 let Mc:∀(m:Nat)(j:m<c.toArray.size)(k:Int),d[m]? = some k->isInt b c.toArray[m]=decide (k=b):=λm j k K=>by
  let⟨t,G⟩:=o m k K;have:c.toArray[m]? = some (Value.int k t):=by simpa using G
  rw[xA j] at this;rw[yT.inj this];show (k==b)=_;rw[wU];simp
 let f:d.idxOf b<c.toArray.size:=by rw[zP,g];exact B
 let M:c.toArray.size<=sizeLine:=by
  rw[zP,g];have:=z;rw[zX] at this;exact this
 refine call_meets F.slot_list_remove ⟨_,e,Z⟩ F.entry_list_remove (F.args_list_remove_2 _ _) (MeetsSeq.list_remove l c.toArray n (.int b S) (isInt b) (λy L=>PySem.W.kf_eq N y (by simpa using L)) (d.idxOf b) f ?_ (λm j w=>?_) M) ⟨e,?_⟩
 ·rw[Mc _ f b (by rw[zV B,List.getElem_idxOf B])]
  exact aJ Z
 ·let A:m<d.length:=∅
  rw[Mc m j d[m] (zV A)];have:=List.not_of_lt_findIdx (p:=(· == b)) (xs:=d) (i:=m) w;exact aI λz=>by rw[z] at this;simp at this
 ·let E:d.erase b=d.take (d.idxOf b)++d.drop (d.idxOf b+1):=by rw[List.erase_eq_eraseIdx_of_idxOf rfl,qG]
  refine⟨.non,_,I.lset (its':=c.take (d.idxOf b)++c.drop (d.idxOf b+1)) C e ?_ ?_ ?_,Z,q⟩
  ·apply sG.mp;rw[qF,qG]
  ·rw[E,zD,tP,tQ];exact(r.take _).append (r.drop _)
  ·rw[zX];have:=List.length_erase_le (l:=d) (a:=b);rw[zX] at z
   lia
end L2
namespace Tw
open PySem PySem.Spec L2 PyProof.Rows
variable{kg kh CS CT CH CK CP CB:ak}
section
variable{kg kh:ak}{H H':Hp}{S d lk:ak}{lv:jk}{ts:jn}{av:Nat->jk}{ho:Nat->Nat}{as:jv}{kvs:List (ZT×V)}{ls:jf}{b:Nat}
theorem Zq.set1(R:Zq kg kh H S d lk lv ts av ho as kvs ls)(g:b∈lv){av':Nat->jk}{ho':Nat->Nat}(B:∀ c,c≠b->av' c=av c)(C:∀ c,c≠b->ho' c=ho c)(F:∃ u,H' (as.getD b .d).x=some (.ins kh u (VN (.ref (as.getD b .d).th) (.ref (as.getD b .d).tg) (as.getD b .d).ab (ho' b))))(E:H' (as.getD b .d).ab=some (.lst (iN (av' b))))(k:∀ c o,c≠(as.getD b .d).x->c≠(as.getD b .d).ab->H c=some o->H' c=some o):Zq kg kh H' S d lk lv ts av' ho' as kvs ls:=by
 let⟨⟨t,r⟩,n,s⟩:=R.sh;let h:=R.tw b g;let⟨v,a⟩:=h.tw.self;let f:=h.tw.above;let⟨L,q,y,A⟩:=h.things;let m:Zt H H':=λc U e=>k c _ (ZV e a) (ZV e f) e;refine⟨⟨⟨t,k _ _ (R.own b g).1.symm (ZV r f) r⟩,k _ _ (ZV n a) (ZV n f) n,k _ _ (ZV s a) (R.own b g).2.1.symm s⟩,R.lt,R.keys,R.val,R.len,λi l=>?_,R.own,R.two⟩;by_cases z:i=b
 ·subst z;exact⟨⟨F,E⟩,⟨L,k _ _ (ZV q a) (R.own i l).2.2.2.symm q,λz=>(y z).mono m _ _,A⟩,h.tag.mono m⟩
 ·let j:=R.tw i l;let⟨J,K,P,Q⟩:=R.two i b l g z;let⟨M,N,I,O⟩:=R.two b i g l (Ne.symm z);let⟨w,p⟩:=j.tw.self;let⟨T,D,_⟩:=j.things;let G:=j.frame m (λo e=>k _ _ J (ZV p f) e) (λo e=>k _ _ (ZV D a) I.symm e) (λo e=>k _ _ (ZV j.tw.above a) K e);refine⟨?_,G.things,G.tag⟩;rw[B i z,C i z];exact G.tw
end
theorem Q6.nodup{b:jk}{c:jn}{r:Nat}(g:WF b c)(f:r∈b){a k:jk}{A B:jr}(z:Q6 c r a k A B):a.Nodup:=by
 induction z with
 | root=>simp
 | down l e d i j h=>
  refine xU.mpr ⟨λy=>?_,h⟩;have:=((l.down e d i j).facts g f rfl).2.1 _ y
  lia
structure On(kg kh:ak)(H:Hp)(S d lk:ak)(lv:jk)(ts:jn)(av:Nat->jk)(ho:Nat->Nat)(as:jv)(kvs:List (ZT×V))(ls:jf)(r:Nat):Prop where
 sh:Zq kg kh H S d lk lv ts av ho as kvs ls
 wf:WF lv ts
 hr:r∈lv
 avk:KR lv ts av
section
variable{kg kh:ak}{lv:jk}{H H7:Hp}{S d lk:ak}{ts cur:jn}{av:Nat->jk}{ho:Nat->Nat}{as:jv}{kvs lkv:List (ZT×V)}{ls us:jf}{r n:Nat}{up ps:jk}{A B T:jr}{t:ZN}{own D dt:ak}
theorem ZJr(O:On kg kh H S d lk lv ts av ho as kvs ls r)(z:Q6 ts r (n::up) ps A B)(C:LM lv ts cur r n up t T)(s7:ZD H H7)(hx7:H7 (as.getD n .d).x=some (.ins kh dt (VN (.ref (as.getD n .d).th) (.ref (as.getD n .d).tg) (as.getD n .d).ab (ho n))))(hD7:H7 D=some (.dK lkv))(nD:H D=none)(hlb:Qz H7 cur (n::up) lkv)(no:H own=none)(hown:H7 own=some (.lst us))(h0:t.h=0->jX H7 (Z6 t.rows) us)(h1:t.h≠0->us=iN t.bs){Q:VK}{E:XK}(k:∀ (H9:Hp) (as':jv),(∀ c o,(∀ i:Nat,i∈lv->c≠(as.getD i .d).x)->H7 c=some o->H9 c=some o)->Zq kg kh H9 S d lk lv cur av ho as' kvs ls->Mx H lv as as'->Q .non H9):
  WW kg kh [.ref S,.ref D] (upd H7 (as.getD n .d).x (.ins kh dt (Yu "things" (.ref own) (VN (.ref (as.getD n .d).th) (.ref (as.getD n .d).tg) (as.getD n .d).ab (ho n))))) Q E:=by
 let R:=O.sh;let R7:=R.same s7;let⟨dS7,hS7⟩:=R7.sh.self;let⟨hn,fu,_,_⟩:=z.facts O.wf O.hr Z;let f3:=z.nodup O.wf O.hr;let nl:∀ i∈n::up,i∈lv:=λi hi=>(zL.mp hi).elim (λy=>y ▸ hn) λy=>(fu i y).1;let fr8:∀ c o,c≠(as.getD n .d).x->H7 c=some o->upd H7 (as.getD n .d).x (.ins kh dt (Yu "things" (.ref own) (VN (.ref (as.getD n .d).th) (.ref (as.getD n .d).tg) (as.getD n .d).ab (ho n)))) c=some o:=λc o n e=>by rw[ZQ n];exact e
 let hx8:upd H7 (as.getD n .d).x (.ins kh dt (Yu "things" (.ref own) (VN (.ref (as.getD n .d).th) (.ref (as.getD n .d).tg) (as.getD n .d).ab (ho n)))) (as.getD n .d).x=some (.ins kh dt (VN (.ref own) (.ref (as.getD n .d).tg) (as.getD n .d).ab (ho n))):=ZX;generalize upd H7 (as.getD n .d).x (.ins kh dt (Yu "things" (.ref own) (VN (.ref (as.getD n .d).th) (.ref (as.getD n .d).tg) (as.getD n .d).ab (ho n))))=H8 at fr8 hx8⊢
 let' tgv:Nat->Addr:=λi=>match YU lkv (kI i) with | some (.ref a)=>a | _=>0
 let htv:∀ i∈n::up,YU lkv (kI i)=some (.ref (tgv i))/\Z4 H7 (Zy (gd cur i)) (.ref (tgv i)):=λi hi=>by
  let⟨v',e',k'⟩:=hlb.at_ i hi;let⟨a,b1,b2,rfl,b3⟩:=id k';have:tgv i=a:=by show (match YU lkv (kI i) with | some (.ref a)=>a | _=>0)=a;rw[e']
  rw[this];exact⟨e',k'⟩
 let nS:∀ i∈n::up,(as.getD i .d).x≠S:=λi hi=>(R.own i (nl i hi)).1;let hS8:=fr8 _ _ (nS n zS).symm hS7;let hd8:=fr8 _ _ (ZV R7.sh.kept hx7) R7.sh.kept;let hl8:=fr8 _ _ (ZV R7.sh.looks hx7) R7.sh.looks;let hD8:=fr8 _ _ (ZV hD7 hx7) hD7;refine .mk (rd:=n::up) (x:=λi=>(as.getD i .d).x) (ab:=λi=>(as.getD i .d).ab) (th:=λi=>.ref (if i=n then own else (as.getD i .d).th)) (tg:=λi=>.ref (as.getD i .d).tg) (vl:=λi=>.ref (tgv i)) (ho:=ho) ⟨⟨dS7,hS8⟩,hd8,hl8⟩ (λi hi=>⟨R.val i (nl i hi),nS i hi⟩) (λi hi=>?_) hD8 (ZZ R.sh.kept nD).symm hlb.keys f3 (λi hi=>(htv i hi).1) (λi hi j hj n'=>(R.two i j (nl i hi) (nl j hj) n').1) λH9 fr9 hl9=>?_
 ·by_cases z:i=n
  ·subst z;exact⟨dt,by(try dsimp only);rw[aM rfl];exact hx8⟩
  ·let⟨dx,e⟩:=(R7.tw i (nl i hi)).tw.self;exact⟨dx,by(try dsimp only);rw[aK z];exact fr8 _ _ (R.two i n (nl i hi) hn z).1 e⟩
 let fr79:∀ c o,(∀ i∈n::up,c≠(as.getD i .d).x)->H7 c=some o->H9 c=some o:=λc o n1 e=>fr9 c o n1 (fr8 c o (n1 n zS) e);let k79:∀ c o,(∀ C dx fs,o≠.ins C dx fs)->H7 c=some o->H9 c=some o:=λc o n1 e=>fr79 c o (λi hi=>by
  let⟨dx,e2⟩:=(R7.tw i (nl i hi)).tw.self;exact ZV e e2 (n1 _ _ _)) e
 let m79:Zt H7 H9:=λc xs e=>k79 c _ (by intro _ _ _ z;cases z) e
 let⟨R9,A9⟩:=ZNT (cur:=cur) (rd:=n::up) (n:=n) (own:=own) (tg:=tgv) (us:=us) (H':=H9) R C.len zS nl no (λc o n1 e=>fr79 c o n1 (s7 _ _ e)) C.sh C.hh C.old (λi hi z=>by have:=(fu i ((zL.mp hi).resolve_left z)).2;lia (splits:=8)) hl9 (λi hi=>(htv i hi).2.mono m79) (k79 _ _ (by intro _ _ _ z;cases z) hown) (λy=>by rw[C.at_] at y⊢;exact(h0 y).mono m79 _ _) (λy=>by rw[C.at_] at y⊢;exact h1 y)
 exact k H9 _ (λc o n1 e=>fr79 c o (λi hi=>n1 i (nl i hi)) e) R9 A9
end
abbrev JP:Stmt:=WB (top 70) 10
inductive Xk(kg kh:ak):Sp
 |mk{S d lk l:ak}{lv:jk}{ts:jn}{av:Nat->jk}{ho:Nat->Nat}{as:jv}{kvs:List (ZT×V)}{ls us:jf}{r n:Nat}{rr:jr}{up ps:jk}{A B T:jr}{cur:jn}{H:Hp}{Q:VK}{E:XK}:
  On kg kh H S d lk lv ts av ho as kvs ls r->Q6 ts r (n::up) ps A B->Rd lv av ho n (n::up)->up.length<=800->H l=some (.lst us)->jX H (Z6 rr) us->WD rr->(gd ts n).h=0->Qn lv (ts.set n (VE rr)) up cur->LM lv ts cur r n up (VE rr) T ->
  (∀(H':Hp)(as':jv),(∀ c o,(∀ i:Nat,i∈lv->c≠(as.getD i .d).x)->H c=some o->H' c=some o)->Zq kg kh H' S d lk lv cur av ho as' kvs ls->Mx H lv as as'->Q .non H') ->
  Xk kg kh [.ref S,.int (n:Nat),.ref l] H Q E
abbrev ZOG:jp:=["self","number","rows","twig","road","own","labels"]
theorem Vj:ZB ZOG zE6 (Zc JP):=Zs
theorem ZI6(F:Zg K "change_leaf" "Shelf.change_leaf" JP f fd)(L:Yg K mg kg kh)(DT:ZC P w K mg kj ZM 1 kg "twig_of" zEa (Zk kg))(DI:ZA P w K mg kj 1 "is_stem" zFn (X5 kh))(DR:ZC P w K mg kj (WA P w) 3 kg "road_up" zEa (Y9 kg kh))(DC:ZA P w K mg kj 9 "checked_rows" zEr Xn)(DU:ZC P w K mg kj ZM 10 kg "labels_up" zE8 (WL kg kh))(DL:ZA P w K mg kj 1 "label_of_rows" zEr XJ)(DG:ZC P w K mg kj ZM 2 kg "give_labels" zFg (WW kg kh)):
  ZI P w K mg kj ZM 11 f fd zE6 (Xk kg kh):=by
 refine F.ok Vj (λvs H Q E h=>(by cases h;rfl)) (λc6 A c2 s H vs Q E u h=>?_)
 let⟨O,z,c4,u8,hl,a6,G,h0,ch,C,J⟩:=h;rename_i S d lk l lv ts av ho p c1 ls us r n rr up ps A B T c7
 let X:=Vj.nd;let j:=u.mono (show 1<=10 by lia)
 let a7:=u.mono (show 2<=10 by lia)
 let a8:=u.mono (show 3<=10 by lia)
 let a9:=u.mono (show 9<=10 by lia)
 intro Xc;refine⟨_,ZL (Ze 3 X (YV (E:=E0) (pv 0) L.cS DT j YC (ZS (pv 1))))
  (ZL (Z1 (Xw (Zf DI j (ZS (pv 3)))) WY Z2)
  (ZL (Ze 4 X (YV (E:=E0) (pv 0) L.cS DR a8 Io (ZS (pv 1))))
  (ZL (Ze 5 X (Zf DC a9 (ZS (pv 2))))
  (ZL (D5 (ZR (Ze 6 X (YV (E:=E0) (pv 0) L.cS DU u YC (Zx (pv 4) (Zf DL j (ZS (pv 5))))))))
  (ZL (U3 (pv 3) (pv 5) rfl)
  (ZR (XT (YV (E:=E0) (pv 0) L.cS DG a7 YC (ZS (pv 6)))))))))),?_⟩
 let R:=O.sh;let⟨t,fu,_,_⟩:=z.facts O.wf O.hr Z;let⟨dS,hS⟩:=R.sh.self;let W:=R.tw n t;let⟨c5,e0,c9,b,c0,_,_⟩:=id W.tag;let b:(p.getD n .d).tg=c5:=V.ref.inj b;exists _,Z,S,dS,_,Z,hS,Z,_,Z,S,d,lk,ts.length,c1,ls,(n:Int),.ref (p.getD n .d).x,Z,R.sh,R.val n t;exists _,Z,(p.getD n .d).x,_,(p.getD n .d).tg,_,_,_,_,_,Z,W.tw,by rw[b];exact c0,_,Z
 rw[aI (show ¬ (Zy (gd ts n)).h > 0 by show ¬ ((gd ts n).h:Int) > 0;lia)]
 refine Zo ?_;refine⟨_,Z,S,dS,_,Z,hS,Z,_,Z,.mk R (c4) (by rw[zI];lia) λq H1 Y nq hq=>?_⟩
 exists _,Z,l,us,rr,Z,Y _ _ hl,a6.sm Y,G;intro H2 c3 U s2 M a hk;let N:=Y.trans s2;let R2:=R.same N;let⟨a1,a4⟩:=R2.sh.self;let lu:U.length=rr.length:=by have:=hk.length;rw[<-this];exact zX _
 exists _,Z,S,a1,_,Z,a4,Z,_,Z,_,Z,c3,U,rr.map (·.1),Z,a,EG hk,by rw[lu];exact G.2.1
 intro H3 v s3 kv;rw[<-EM] at kv;let k:=N.trans s3;refine .mk (R.same k) t (z.nodup O.wf O.hr) (λi hi=>⟨(fu i hi).1,by have:=(fu i hi).2;lia⟩) u8 ((s2.trans s3) _ _ hq) ch (En kv) λH4 D c8 s4 nD hD hb=>?_
 let m:=k.trans s4;let R4:=R.same m;let⟨a2,a5⟩:=R4.sh.self;let⟨a3,I⟩:=(R4.tw n t).tw.self;let g:=(s3.trans s4) _ _ a;exists _,Z,_,Z,(p.getD n .d).x,kh,a3,_,Z,I,L.cT,L.nth,yN Z;refine⟨_,Z,S,a2,_,Z,(by rw[ZQ (R.own n t).1.symm];exact a5),Z,_,Z,ZJr O z C m I hD (k.free nD) hb (Y.free M) g (λ_=>hk.sm (s3.trans s4)) (λy=>absurd Z y) λH9 a0 fr R9 A9=>?_⟩
 exact J H9 a0 (λc o n1 e=>fr c o n1 (m _ _ e)) R9 A9
theorem YD{H:Hp}{p:ak}(h:H p=none)(o:HO):∃ a,L2.upd H p o=a/\ZD H a/\a p=some o:=⟨_,Z,Zl h o,ZX⟩
theorem ZQN{d:jk}{c:jn}(i:WF d c){j:Nat}(g:j∈d)(f:(gd c j).h≠0):(gd c j).bs.Nodup:=(GG i g f).imp fun{a b} h e=>by rw[e,UW] at h;cases h
abbrev HC:Stmt:=WB (top 70) 5
abbrev Lz:Stmt:=WB (top 70) 6
theorem ZKV{a:List (ZT×V)}{b:jk}{i:Nat}(d:b.Nodup)(h:a.map (·.1)=b.map (λi:Nat=>(Sum.inl (i:Int):ZT))):(Wk a (.inl (i:Int))).map (·.1)=(b.erase i).map (λi:Nat=>(Sum.inl (i:Int):ZT)):=by
 let c:(Wk a (.inl (i:Int))).map (·.1)=(a.map (·.1)).filter λk=>decide (k≠.inl (i:Int)):=by
  unfold Wk;rw[sN];rfl
 rw[c,h,sN,d.erase_eq_filter]
 congr 1
 refine tK λj _=>?_;show decide ((Sum.inl (j:Int):ZT)≠Sum.inl (i:Int))=(j != i);rw[wU];simp
 lia
theorem Ad{a:List (ZT×V)}{k j:ZT}(h:j≠k):YU (Wk a k) j=YU a j:=by
 induction a with
 | nil=>rfl
 | cons p r b=>
  by_cases z:p.1=k
  ·rw[ZJ9 z,b,UU (by rw[z];exact Ne.symm h)]
  ·rw[ZIa z];by_cases y:p.1=j
   ·rw[UP y,UP y]
   ·rw[UU y,UU y,b]
section
variable{kg kh:ak}{H H':Hp}{S d lk:ak}{lv:jk}{ts:jn}{av:Nat->jk}{ho:Nat->Nat}{as:jv}{kvs:List (ZT×V)}{ls:jf}{b i:Nat}
theorem Zq.gone(R:Zq kg kh H S d lk lv ts av ho as kvs ls)(r:lv.Nodup):Zq kg kh (upd H d (.dK (Wk kvs (.inl (i:Int))))) S d lk (lv.erase i) ts av ho as (Wk kvs (.inl (i:Int))) ls:=by
 let⟨⟨s,q⟩,h,p⟩:=R.sh;let g:∀{a:Nat},a∈lv.erase i ↔ a≠i/\a∈lv:=r.mem_erase_iff;let k:∀ c o,c≠d->H c=some o->upd H d (.dK (Wk kvs (.inl (i:Int)))) c=some o:=λc o n e=>by rw[ZQ n];exact e
 let m:Zt H (upd H d (.dK (Wk kvs (.inl (i:Int))))):=λc x e=>k c _ (ZV e h) e;refine⟨⟨⟨s,k _ _ (ZV q h) q⟩,ZX,k _ _ (ZV p h) p⟩,λj f=>R.lt j (g.mp f).2,ZKV r R.keys,λj f=>?_,R.len,λj f=>?_,λj f=>R.own j (g.mp f).2,λj l f p=>R.two j l (g.mp f).2 (g.mp p).2⟩
 ·rw[Ad (λz=>(g.mp f).1 (by have:=Sum.inl.inj z;lia))]
  exact R.val j (g.mp f).2
 ·let W:=R.tw j (g.mp f).2;let⟨v,u⟩:=W.tw.self;let⟨w,t,_⟩:=W.things;exact W.frame m (λo e=>k _ _ (ZV u h) e) (λo e=>k _ _ (ZV t h) e) (λo e=>k _ _ (ZV W.tw.above h) e)
end
theorem Qf:ZB ["self","number","twig","branch"] zEa (Zc Lz):=Zs
theorem Ug:ZB zFm zEa (Zc HC):=Zs
structure Go(lk:ak)(H H':Hp)(X X':Za):Prop where
 S:X'.S=X.S
 d:X'.d=X.d
 fr:∀ c o,Zz X lk c->H c=some o->H' c=some o
 off:∀ c o,Zz X lk c->H c=some o->Zz X' lk c
theorem Go.trans{f:ak}{H g h:Hp}{X i j:Za}(a:Go f H g X i)(b:Go f g h i j):Go f H h X j:=⟨b.S.trans a.S,b.d.trans a.d,λc o n e=>b.fr c o (a.off c o n e) (a.fr c o n e),λc o n e=>b.off c o (a.off c o n e) (a.fr c o n e)⟩
theorem Go.same{b:ak}{H a:Hp}{X:Za}(s:ZD H a):Go b H a X X:=⟨Z,Z,λc o _ e=>s c o e,λc o n _=>n⟩
theorem Go.looks{d:ak}{H a:Hp}{X:Za}(s:∀ b o,b≠d->H b=some o->a b=some o):Go d H a X X:=⟨Z,Z,λc o n e=>s c o n.2.2.1 e,λc o n _=>n⟩
section
variable{kg kh:ak}{H H':Hp}{X:Za}{lk:ak}{ls:jf}{r:Nat}
theorem Zq.off(R:Zq kg kh H X.S X.d lk X.lv X.ts X.av X.ho X.as X.kvs ls){c:ak}{o:HO}(e:H c=some o)(g:∀ C a j,o≠.ins C a j)(q:∀ k,o≠.dK k)(f:∀ s,o≠.lst s):Zz X lk c:=by
 let⟨⟨a,l⟩,m,n⟩:=R.sh;exists ZV e l (g _ _ _),ZV e m (q _),ZV e n (f _);intro i b;let⟨a,p⟩:=(R.tw i b).tw.self;let⟨t,h,_⟩:=(R.tw i b).things;exact⟨ZV e p (g _ _ _),ZV e (R.tw i b).tw.above (f _),ZV e h (f _)⟩
theorem Go.tups{a:Za}(g:Go lk H H' X a)(R:Zq kg kh H X.S X.d lk X.lv X.ts X.av X.ho X.as X.kvs ls):Zt H H':=λc b e=>g.fr c _ (R.off e (by intro _ _ _ z;cases z) (by intro _ z;cases z) (by intro _ z;cases z)) e
theorem Zq.new(R:Zq kg kh H X.S X.d lk X.lv X.ts X.av X.ho X.as X.kvs ls){c:ak}(n:H c=uW):Zz X lk c:=by
 let⟨⟨b,f⟩,g,h⟩:=R.sh;exists (ZZ f n).symm,(ZZ g n).symm,(ZZ h n).symm;intro i a;let⟨b,j⟩:=(R.tw i a).tw.self;let⟨k,e,_⟩:=(R.tw i a).things;exact⟨(ZZ j n).symm,(ZZ (R.tw i a).tw.above n).symm,(ZZ e n).symm⟩
theorem ZPT{h:jn}{g:Nat->jk}{j:Nat->Nat}{b:jv}{f:List (ZT×V)}(k:∀ c o,(∀ i:Nat,i∈X.lv->c≠(X.as.getD i .d).x/\c≠(X.as.getD i .d).ab)->H c=some o->H' c=some o)(A:Mx H X.lv X.as b):Go lk H H' X ⟨X.S,X.d,X.lv,h,g,j,b,f⟩:=
 ⟨rfl,rfl,λc o n e=>k c o (λi a=>⟨(n.2.2.2 i a).1,(n.2.2.2 i a).2.1⟩) e,λc o n e=>⟨n.1,n.2.1,n.2.2.1,λi a=>by
  let a:i∈X.lv:=a;let⟨l,m,p⟩:=n.2.2.2 i a;exists by rw[A.x i a];exact l,by rw[A.ab i a];exact m
  rcases A.th i a with z | z
  ·rw[z];exact p
  ·exact ZZ e z⟩⟩
theorem Ga{t:ZN}{av':Nat->jk}{ho':Nat->Nat}{a:YQ}{kvs':List (ZT×V)}(l:X.as.length=X.ts.length)(h:∀ i∈X.lv,i<X.ts.length)(g:∀ c o,c≠X.S->c≠X.d->(∀ i:Nat,i∈X.lv->c≠(X.as.getD i .d).x/\c≠(X.as.getD i .d).ab)->H c=some o->H' c=some o)(nx:H a.x=none)(k:H a.th=none)(j:H a.ab=none):Go lk H H' X ⟨X.S,X.d,X.lv++[X.ts.length],X.ts++[t],av',ho',X.as++[a],kvs'⟩:=
 ⟨rfl,rfl,λc o n e=>g c o n.1 n.2.1 (λi b=>⟨(n.2.2.2 i b).1,(n.2.2.2 i b).2.1⟩) e,λc o n e=>⟨n.1,n.2.1,n.2.2.1,λi b=>by
  show c≠((X.as++[a]).getD i .d).x/\c≠((X.as++[a]).getD i .d).ab/\c≠((X.as++[a]).getD i .d).th;rcases yW.mp b with q | q
  ·rw[IQ (by have:=h i q;lia)]
   exact n.2.2.2 i q
  ·let f:i=X.as.length:=by have:=zH.mp q;lia
   rw[f,IY];exact⟨ZZ e nx,ZZ e j,ZZ e k⟩⟩⟩
end
section
variable{gt:jk}{ts cur:jn}{r n:Nat}{up ps:jk}{A B T:jr}{t:ZN}
end
theorem Hm:∀{a b:jr},Up a->Up b->(∀ x,x∈a ↔ x∈b)->a=b
 | [],[],_,_,_=>rfl
 | [],y::b,_,_,h=>by have:=(h y).mpr zS;cases this
 | x::a,[],_,_,h=>by have:=(h x).mp zS;cases this
 | x::a,y::b,ha,hb,h=>by
  let c:=xK.mp ha;let d:=xK.mp hb;let e:x=y:=by
   rcases zL.mp ((h x).mp zS) with z | z
   ·exact z
   ·rcases zL.mp ((h y).mpr zS) with q | q
    ·exact q.symm
    ·let g:=d.1 _ (zR.mpr ⟨x,z,Z⟩);let f:=c.1 _ (zR.mpr ⟨y,q,Z⟩);rw[Oq _ _ g] at f;cases f
  subst e;let nx:∀{l:jr},(∀ z∈l.map (·.1),x.1.lt z=true)->x∉l:=λi z=>by
   have:=i _ (zR.mpr ⟨x,z,Z⟩);rw[UW] at this;cases this
  rw[Hm c.2 d.2 λz=>⟨λq=>by
   rcases zL.mp ((h z).mp (zQ _ q)) with y | y
   ·exact absurd q (y ▸ nx c.1)
   ·exact y,λq=>by
   rcases zL.mp ((h z).mpr (zQ _ q)) with y | y
   ·exact absurd q (y ▸ nx d.1)
   ·exact y⟩]
theorem ZOa{c:jr}(h:Up c):∀{x y:Zd},x∈c->y∈c->x.1=y.1->x=y:=by
 intro x y f j e
 induction c with
 | nil=>cases f
 | cons z l k=>
  let d:=xK.mp h;let g:∀ q∈l,q.1≠z.1:=λq i y=>by
   have:=d.1 _ (zR.mpr ⟨q,i,Z⟩);rw[y,UW] at this;cases this
  rcases zL.mp f with a | a <;> rcases zL.mp j with b | b
  ·rw[a,b]
  ·exact absurd (by rw[<-e,a]) (g y b)
  ·exact absurd (by rw[e,b]) (g x a)
  ·exact k d.2 a b
def KO(c:jk)(e:jn)(a:Nat->jk)(d:Nat->Nat):Prop:=∀ p∈c,∀ b∈(gd e p).bs,a b=[p]/\d b=0
theorem KO.avk{c:jk}{d:jn}{a:Nat->jk}{f:Nat->Nat}(h:KO c d a f):KR c d a:=λp g b e=>by rw[(h p g b e).1];exact zH.mpr Z
section
variable{gt:jk}{ts:jn}{r:Nat}{k:KT}
theorem FS(d:WF gt ts):∀(n i:Nat),i∈gt->(gd ts i).h=n->2 ^ n<=(gd ts i).rows.length
 | 0,i,a,_=>uH.mpr (d i a).ne
 | n+1,i,a,v=>by
  let⟨f,_,g,m⟩:=(d i a).stem ∅
  let o:∀ l:jk,(∀ b∈l,b∈(gd ts i).bs)->l.length * 2 ^ n<=(l.flatMap λb=>(gd ts b).rows).length:=λl e=>by
   induction l with
   | nil=>simp
   | cons b l q=>
    let t:=q λc p=>e c (zQ _ p);let⟨j,s⟩:=g b (e b zS);let u:=FS d n b j ∅
    rw[zB,zW,zI,Nat.add_mul]
    lia
  let h:=o _ λb h=>h;rw[m,Nat.pow_succ];have:2 * 2 ^ n<=(gd ts i).bs.length * 2 ^ n:=Nat.mul_le_mul_right _ f
  lia
end
inductive MO(H:Hp)(p:Nat×Nat)(u:V):Prop
 |mk(t a:_)(_:u=.ref t)(_:H t=some (.tup [.int (p.1:Int),.int (p.2:Int),a]))
inductive Ur(kg kh:ak):Sp
 |mk{X:Za}{b:ak}{c:jf}{n:Nat}{l:jk}{v:V}{H:Hp}{Q:VK}{E:XK}:Zq kg kh H X.S X.d b X.lv X.ts X.av X.ho X.as X.kvs c->Rd X.lv X.av X.ho n l->l.length<=900->(∀ a,ZD H a->Q (.int (n:Nat)) a)->Ur kg kh [.ref X.S,v,.int (n:Nat)] H Q E
theorem Bo:ZB ["shelf","stem","number","stead","branches"] zE5 (Zc HF):=Zs
theorem Br(F:Zg K "own" "own" HF f fd)(L:Yg K mg kg kh)(b:ZC P w K mg kj ZM 4 kg "alone" zEa (Xu kg kh)):ZI P w K mg kj ZM 5 f fd zE5 (Ur kg kh):=by
 refine F.ok Bo (λl H Q E h=>(by cases h;rfl)) (λd A a s H l Q E i h=>?_)
 let⟨R,rd,j,q⟩:=h;intro m;exists _,ZL (Z1 (Xw (YV (E:=E0) (pv 0) L.cS b i YC (ZS (pv 2)))) (ZR (Zh (pv 2))) Z2) WY;let⟨e,g⟩:=R.sh.self;exact⟨_,Z,_,e,_,Z,g,Z,_,Z,.mk R rd j λc k=>⟨_,Z,YM ⟨_,Z,q c k⟩⟩⟩
inductive Xh(kg kh:ak):Sp
 |mk{X:Za}{e D:ak}{g c:jf}{W:jM}{H:Hp}{Q:VK}{E:XK}:Zq kg kh H X.S X.d e X.lv X.ts X.av X.ho X.as X.kvs g->H D=some (.lst c)->Paired (MO H) W c->(∀ p∈W,∃ l,Rd X.lv X.av X.ho p.1 l/\l.length<=900)->W.length<=900 ->
  (∀(b:Hp)(a:ak),ZD H b->H a=none->b a=some (.lst (iN (W.map (·.1))))->Q (.ref a) b)->Xh kg kh [.ref X.S,.ref D] H Q E
abbrev ZM9:jp:=["shelf","steps","owned","stem","step"]
theorem Ve:ZB ZM9 zFh (Zc KN):=Zs
theorem ZKI(F:Zg K "own_way" "own_way" KN f fd)(L:ZA P w K mg kj 5 "own" zE5 (Ur kg kh)):ZI P w K mg kj ZM 6 f fd zFh (Xh kg kh):=by
 refine F.ok Ve (λvs H Q E h=>(by cases h;rfl)) (λM A z s H vs Q E O h=>?_)
 let⟨R,x,j,rd,w9,q⟩:=h;rename_i X lk D ls us W
 let n:=Ve.nd;intro Xc;refine⟨_,ZL (Ze 2 n (Yk Zu))
  (ZL (Ze 3 n Nq)
  (ZL (VD PassesOwn.never rfl (X9 (pv 1)) (WG 4 n)
   (ZL (Ze 3 n (Zf L O (UA (pv 0) (pv 3) (Yx K (pv 4) ZJ))))
   (ZR (XT (Qo xL vS vR OB (pv 2) (ZS (pv 3)))))))
  (ZR (Zh (pv 2))))),?_⟩
 exists YE;intro c b;let g:=Zl b (.lst []);let e:=ZX (H:=H) (a:=c) (o:=.lst []);generalize upd H c (.lst [])=H1 at g e⊢;let lw:=Paired.length j;let DD:D≠c:=ZZ x b;refine⟨_,Z,D,Z,⟨_,ZF.of (g _ _ x)⟩,PR (K:=K) (a:=D) (xs:=us) (λi r d=>∃ J C:jg,∃ y:V,r=[some (.ref X.S),some (.ref D),some (.ref c),some y,C]/\ZD H d/\d c=some (.lst (iN ((W.take i).map (·.1))))) ⟨none,none,.non,Z,g,e⟩ (λi r d _ N=>by let⟨_,_,_,_,h,_⟩:=N;exact ZF.of (h _ _ x)) ?_ ?_⟩
 ·rintro i u r d U ⟨J,C,y,rfl,k,m⟩;let⟨p,v,t,fv,rfl,T⟩:=Paired.ixR j U;let⟨l,B,Y⟩:=rd p (zJ v);let hi:i<W.length:=(yZ.mp v).1;refine⟨_,Z,_,Z,_,Z,t,_,_,.int (p.1:Int),Z,Z,Zm.of (k _ _ T),Z,.mk (R.same k) B Y λH3 I=>?_⟩;let G:=I _ _ m;exists _,Z,.inl ⟨Z,_,ZF.of G⟩,_,Z,c,_,_,Z,Z,G,Ym (by simp[iN];lia)
  exists none,_,.int (p.1:Int),Z,VQ (k.trans I) b;rw[ZX,yS,v];simp[iN]
 ·rintro r d ⟨J,C,y,rfl,k,m⟩;rw[<-lw,sP] at m;exact⟨_,Z,q d c k b m⟩
inductive YK(kg kh:ak):Sp
 |mk{X:Za}{b:ak}{c:jf}{r:js}{H:Hp}{Q:VK}{E:XK}:Zq kg kh H X.S X.d b X.lv X.ts X.av X.ho X.as X.kvs c->(∀ i,r=some i->i∈X.lv/\1<=X.ho i)->(∀ a,ZD H a->Q .non a)->YK kg kh [.ref X.S,YR r] H Q E
theorem ZGg:ZB zEc zEc (Zc Ja):=Zs
theorem BR(F:Zg K "check_root" "check_root" Ja f fd)(L:Yg K mg kg kh)(l:ZC P w K mg kj ZM 3 kg "check_held" zEf (Z7 kg kh)):ZI P w K mg kj ZM 4 f fd zEc (YK kg kh):=by
 refine F.ok ZGg (λC H Q E h=>(by cases h;rfl)) (λm A g s H C Q E v h=>?_)
 let⟨R,e,q⟩:=h;rename_i X x y r
 intro D;exists _,ZR (Z1 (Uv (MU (pv 1))) (ZR (XT (YV (E:=E0) (pv 0) L.cS l v YC (ZS (Yk (ZS (pv 1))))))) Z2)
 cases r with
 | none=>exact⟨_,Z,_,Z,Zo (q H (ZD.refl H))⟩
 | some i=>
  let⟨k,p⟩:=e i Z;let⟨o,t⟩:=R.sh.self;refine⟨_,Z,_,Z,YM ⟨_,Z,X.S,o,_,Z,t,Z,_,Z,YE,λB z=>?_⟩⟩;let j:=Zl z (.lst [.int (i:Int)]);let a:=R.same j;let⟨b,c⟩:=a.sh.self;exact⟨X.S,B,[(i:Int)],Z,ZX,⟨b,_,c,Z⟩,λn u=>by
   rw[zH.mp u];exact⟨X.d,x,X.ts.length,X.kvs,y,_,_,_,_,_,_,⟨a.sh,a.val i k,(a.tw i k).tw⟩,p⟩,q _ j⟩
structure VT(lv:jk)(ts:jn)(av:Nat->jk)(ho:Nat->Nat):Prop where
 wf:WF lv ts
 nd:lv.Nodup
 hb:KO lv ts av ho
section
variable{kg kh:ak}{H H':Hp}{X:Za}{lk:ak}{ls:jf}
theorem Zq.but(R:Zq kg kh H X.S X.d lk X.lv X.ts X.av X.ho X.as X.kvs ls){c:ak}{o:jf}(s:ZK c H H')(a:H c=some (.lst o))(h:Zz X lk c):Zq kg kh H' X.S X.d lk X.lv X.ts X.av X.ho X.as X.kvs ls:=by
 let t:=s.tups a;let⟨⟨j,f⟩,g,k⟩:=R.sh;refine⟨⟨⟨j,s _ _ f (ZV f a)⟩,s _ _ g (ZV g a),s _ _ k h.2.2.1.symm⟩,R.lt,R.keys,R.val,R.len,λi b=>?_,R.own,R.two⟩;let⟨p,l⟩:=(R.tw i b).tw.self;let⟨_,m,n⟩:=h.2.2.2 i b;exact(R.tw i b).frame t (λo e=>s _ _ e (ZV l a)) (λo e=>s _ _ e n.symm) (λo e=>s _ _ e m.symm)
end
theorem Az{n m:Nat}(h:2 ^ n<=m)(a:m<=320):n<=8:=by
 rcases xG n 9 with z | z
 ·lia
 ·have:2 ^ 9<=2 ^ n:=Nat.pow_le_pow_right (by decide) z
  have:(2:Nat) ^ 9=512:=by decide
  lia
theorem KU{a:jr}(f:∀ r∈a,r.fit)(u:Up a)(b:0<a.length)(c:a.length<=4):WD a:=⟨f,b,c,u⟩
theorem Lx{b:jk}{c:jn}{i:Nat}{a:jr}(g:WD a):Ye b c i (VE a):=
 ⟨λz=>by have:=g.2.1;rw[show (VE a).rows=a from rfl] at z;rw[z] at this;simp at this,g.2.2.2,g.1,λ_=>⟨rfl,g.2.2.1⟩,λz=>absurd rfl z⟩
section
variable{kg kh:ak}{H H':Hp}{X:Za}{lk:ak}{ls ls':jf}{r:js}
structure Tf(kg kh:ak)(H:Hp)(X:Za)(lk:ak)(ls:jf)(r:js):Prop where
 sh:Zq kg kh H X.S X.d lk X.lv X.ts X.av X.ho X.as X.kvs ls
 fst:VT X.lv X.ts X.av X.ho
 tp:∀ i,r=some i->i∈X.lv/\Tp X.av X.ho i
theorem Tf.same(t:Tf kg kh H X lk ls r)(s:ZD H H'):Tf kg kh H' X lk ls r:=⟨t.sh.same s,t.fst,t.tp⟩
theorem Tf.of(t:Tf kg kh H X lk ls r)(R:Xj kg kh H' X lk X.ts.length ls'):Tf kg kh H' X lk ls' r:=⟨⟨R.sh,t.sh.lt,t.sh.keys,t.sh.val,t.sh.len,R.tw,t.sh.own,t.sh.two⟩,t.fst,t.tp⟩
theorem Tf.low(t:Tf kg kh H X lk ls r)(a:(Yp X.ts r).length<=320):∀ i,r=some i->(gd X.ts i).h<=8:=λi e=>by
 subst e;exact Az (FS t.fst.wf _ i (t.tp i rfl).1 Z) a
theorem Tf.askd(t:Tf kg kh H X lk ls r)(b:(Yp X.ts r).length<=320)(a:ls.length<=380000):OR kg kh H X lk X.ts.length ls r:=⟨t.sh.q,t.fst.wf,λi e=>zO (t.low b i e) (by decide),a,λi e=>(t.tp i e).1⟩
theorem Tf.up(t:Tf kg kh H X lk ls r):Up (Yp X.ts r):=by
 cases r with
 | none=>exact .nil
 | some i=>exact(t.fst.wf i (t.tp i rfl).1).up
theorem Tf.fit(t:Tf kg kh H X lk ls r):∀ x∈Yp X.ts r,x.fit:=by
 cases r with
 | none=>exact λx a=>by cases a
 | some i=>exact(t.fst.wf i (t.tp i rfl).1).inn
theorem ZLg{d:jk}{e a:jn}{f:Nat->jk}{g:Nat->Nat}{r n:Nat}{k:jk}{j T:jr}(F:VT d e f g)(m:n∈d)(l:(gd e n).h=0)(C:LM d e a r n k (VE j) T):VT d a f g:=
 ⟨C.wf,F.nd,λp i b c=>F.hb p i b (by
  by_cases y:p=n
  ·rw[y,C.at_] at c;cases c
  ·rw[C.sh p y] at c;exact c)⟩
end
theorem ZQn{k:Nat}{g:jp}{i d:Sp}(F:ZI P w K mg kj (WA P w) k f fd g i)(h:∀ b H Q E,d b H Q E->i b H Q E0):ZI P w K mg kj ZM k f fd g d:=by
 refine⟨λb H Q E z=>F.len b H Q E0 (h _ _ _ _ z),λA a s H args p b Q E m l j n z=>codeAny_mono (F.run A a s H args p b Q E0 m l j n (h _ _ _ _ z)) λr q c=>?_⟩
 cases r with
 | ok o=>
  cases o with
  | ret u=>exact c
  | _=>exact c.elim
 | error e=>
  let⟨_,_,_,_,_,_,c⟩:=c;exact c.elim
inductive Qd(d:zZ)(x y:V)(H:Hp)(Q:VK):Prop
 |mk(a b:ak)(f g:jf)(c e:jo)(_:x=.ref a)(_:y=.ref b)(_:ZF d H a f)(_:ZF d H b g)(_:jX H c f)(_:jX H e g)(_:∀ t∈c,t.fits 3=true)(_:Q (.bl (!jZ c e)) H)
theorem A2{k:Nat}(Y:ZU k X.A):Y4 X (az .NotEq) (Qd X.K):=by
 intro E s σ H x y v u Q I rx ry h;let⟨a,b,xs,ys,f,g,rfl,rfl,U,V,z,B,W,q⟩:=h;cases rx;cases ry;let⟨d,F,C,z1⟩:=I.list U;let⟨c,G,D,z2⟩:=I.list V;let l1:=F.length;let l2:=G.length;let m1:=z.length;let m2:=B.length;let un:=Y.un;by_cases p:d.length=c.length
 ·refine PySem.SeqAt.RcNeAt.lists (e:=λj=>(f.getD j (.int 0)).eqb (g.getD j (.int 0))) C.isList D.isList (by simpa using p) ∅ (λj n o=>?_) X.prog X.w X.xe _ ⟨.bl _,H,I,Z,?_⟩
  ·let r:j<xs.length:=by simp at n;lia
   let t:j<ys.length:=by simp at o;lia
   let⟨l,m,M⟩:=z.get (zV r);let⟨t2,R,N⟩:=B.get (zV t);let⟨J,S,O⟩:=F.get (zV r);let⟨L,T,P⟩:=G.get (zV t);let q1:d.toArray[j]=J:=by
    have:d.toArray[j]? = some J:=by simpa using S
    rw[xA n] at this;exact yT.inj this
   let q2:c.toArray[j]=L:=by
    have:c.toArray[j]? = some L:=by simpa using T
    rw[xA o] at this;exact yT.inj this
   rw[q1,q2,zU,zU,m,R];let dp:=Vv l 3 (W l (zJ m));exact Pv l.depth l t2 _ _ _ (zY _) (VZ I _ _ _ M O) (VZ I _ _ _ N P) (by show X.A.units+1+_<_;lia)
  ·let e:=OO f g;let i:min f.length g.length=d.toArray.size:=by simp;lia
   rw[i,show (f.length==g.length)=true by simp;lia,rJ] at e
   rw[e];exact q
 ·refine PySem.SeqAt.RcNeAt.lists_lengths C.isList D.isList (by simpa using p) ∅ X.prog X.w X.xe _ ⟨.bl _,H,I,Z,?_⟩
  let e:=OO f g;rw[show (f.length==g.length)=false by simp;lia,tN] at e
  rw[<-e] at q;exact q
structure UX(K:zZ)(x qual:Str)(st:aC)(f:ak)(fd:ap):Prop where
 ex:∃(oc:aj)(od:jx)(dT:ak)(kV doc pm:aj)(an:jx)(cdv ct:aj)(osl:Array (jd))(o:aH)(n:Nat),
  fd=xW x qual (U5 st) (Ws st) (Zc st) (.ref dT) kV doc pm an cdv ct/\K.lookup f=some ⟨oc,od,.func fd,osl⟩/\wK K cdv qual=true/\K.lookup dT=some o/\o.data=.seq #[.none] n
 kp:yG K (.ref f)=true
section
variable{kg kh CTb CK:ak}
theorem UX.go{x b:Str}{g:aC}{f:ak}{fd:ap}{N m:jp}{k:Nat}{p:Sp}(F:UX K x b g f fd)(S:ZB N m (Zc g))(l:∀ e H Q E,p e H Q E->e.length=m.length)(d:∀ (c:aj) (A:ax) (a:jz) (s:am) (H:Hp) (e:jf) (Q:VK) (E:XK),ZU k (A.deeper (envOfC b (Zc g) s.heap.objs.size f c))->p e H Q E ->
   ∃ t,Wj (Vc ZM P w K mg kj N b (Zc g) f c A a s H E).nox (Ws g) t/\t { nx:=λ_ r=>Q .non r,rt:=Q } (QW N e) H):ZI P w K mg kj ZM (k+1) f fd m p:=by
 let⟨D,G,C,kV,u,I,B,c,ct,z,o,n,rfl,y,i,_⟩:=F.ex;refine KL y i S l λA a s H e Q E v j=>?_;let⟨t,h,q⟩:=d c A a s H e Q E v j;exact⟨t,h.nox,q⟩
abbrev OW:Stmt:=WB (top 64) 0
abbrev HE:Stmt:=WB (top 64) 1
abbrev HI:Stmt:=WB (top 64) 3
abbrev HM:Stmt:=WB (top 64) 4
theorem UX.binds{f:ak}{fd:ap}(F:UX K "__init__" "Table.__init__" OW f fd):Zv K fd zEn []/\Zv K fd zEn [.none]:=by
 let⟨t,u,q,kV,j,v,p,i,ct,m,o,n,rfl,r,l,g,h⟩:=F.ex;refine⟨λs d X e=>?_,λs d X e=>?_⟩
 ·match d,e with
  | [a,b,c],_=>exact PySem.W.binds_K X Z g h Z Z
 ·let k:d.length=2:=by simpa using e
  match d,k with
  | [a,b],_=>exact PySem.W.binds_K X Z g h Z Z
structure QZ(K:zZ)(mg:jc)(CTb:ak):Prop where
 tab:mg "Table" = some (.ref CTb)
 cT:Vm K CTb
 ns:Z0 K CTb "shelf"
 nr:Z0 K CTb "root"
abbrev Oa(S:ak)(r:js):List (Str×V):=[("shelf",.ref S),("root",YR r)]
inductive YL(CTb:ak)(H:Hp)(T S:ak)(r:js):Prop
 |mk(a:_)(_:H T=some (.ins CTb a (Oa S r)))
structure Mr(P:ao)(w:aw)(K:zZ)(mg:jc)(kj:aD)(k:Nat)(C:ak)(ps:jp)(sp:Sp):Prop where
 ex:∃ f fd,Mk K C f/\ZI P w K mg kj ZM k f fd ps sp/\Zv K fd ps []/\Zv K fd ps [.none]
inductive Yo(kg kh CTb:ak):Sp
 |mk{x dx:ak}{X:Za}{lk:ak}{ls:jf}{r:js}{H:Hp}{Q:VK}{E:XK}:H x=some (.ins CTb dx [])->x≠X.S->Zq kg kh H X.S X.d lk X.lv X.ts X.av X.ho X.as X.kvs ls->(∀ i,r=some i->i∈X.lv/\1<=X.ho i) ->
  (∀ H',(∀ b o,b≠x->H b=some o->H' b=some o)->YL CTb H' x X.S r->Q .non H')->Yo kg kh CTb [.ref x,.ref X.S,YR r] H Q E
theorem Bf:ZB zEn zEn (Zc OW):=Zs
theorem ZNd(F:UX K "__init__" "Table.__init__" OW f fd)(L:QZ K mg CTb)(DC:ZA P w K mg kj 4 "check_root" zEc (YK kg kh)):ZI P w K mg kj ZM 5 f fd zEn (Yo kg kh CTb):=by
 refine UX.go F Bf (λvs H Q E h=>(by cases h;rfl)) (λcdv A outer s H vs Q E hr h=>?_)
 let⟨hx,xS,R,hr0,q⟩:=h;rename_i x dx X lk ls r
 exists _,ZL (XT (Zf DC hr (Zx (pv 1) (pv 2)))) (ZL (U3 (pv 0) (pv 1) rfl) (ZR (U3 (pv 0) (pv 2) rfl)));refine⟨_,Z,_,Z,.mk R hr0 λH1 s1=>?_⟩;exists _,Z,_,Z,x,CTb,dx,_,Z,s1 _ _ hx,L.cT,L.ns,yN Z;exists _,Z,_,Z,x,CTb,dx,_,Z,ZX,L.cT,L.nr,yN Z;rw[Nk];exact q _ (λb o n e=>by rw[ZQ n];exact s1 _ _ e) ⟨dx,ZX⟩
theorem Es{X:Cx}{k:Nat}{C:ak}{x:Str}{n:jp}{g:Sp}{e:Expr}{a:jw}{t:TA}{p pos:Pos}(D:Mr X.prog X.w X.K X.mg X.base k C n g)(m:ZU (k+1) X.A)(j:Gl X x)(l:X.mg x=some (.ref C))(h:PA X (e::a) t)(c:(x==("__debug__" : Str))=false:=by decide)(i:au (e::a) X.env=(false,aG e X.env)::au a X.env:=by rfl)(d:(aF pos (au a X.env)).any (·.1)=false:=by rfl):
  PE X (.Call (.Name x p) (e::a) [] pos) (Nj C g [] E0 t):=by
 let⟨f,fd,M,F,b,_⟩:=D.ex;exact IP M F m j l b .nil YC h c i d
theorem Cb{X:Cx}{k:Nat}{C:ak}{x:Str}{n:jp}{g:Sp}{e:Expr}{a:jw}{t:TA}{p pos:Pos}(D:Mr X.prog X.w X.K X.mg X.base k C n g)(m:ZU (k+1) X.A)(j:Gl X x)(l:X.mg x=some (.ref C))(h:PA X (e::a) t)(c:(x==("__debug__" : Str))=false:=by decide)(i:au (e::a) X.env=(false,aG e X.env)::au a X.env:=by rfl)(d:(aF pos (au a X.env)).any (·.1)=false:=by rfl):
  PE X (.Call (.Name x p) (e::a) [] pos) (Nj C g [.non] E0 t):=by
 let⟨f,fd,M,F,_,b⟩:=D.ex;exact IP M F m j l b (.cons rfl .nil) YC h c i d
inductive WN(kg kh CTb CK:ak):Sp
 |mk{T:ak}{X:Za}{d:ak}{e:jf}{r:js}{v:V}{N:ak->Prop}{o:jI}{H:Hp}{Q:VK}{E:XK}:YL CTb H T X.S r->Tf kg kh H X d e r->(Yp X.ts r).length<=320->e.length<=379000->Od N H o v->(o=none->∀ a,ZD H a->E (.ref CK) none a) ->
  (∀ k,o=some k->∀(a:Hp)(D:ak)(g c:jf),(∀ b o,b≠d->H b=some o->a b=some o)->Tf kg kh a X d c r->c.length<=e.length+9->H D=none->a D=some (.lst g)->jX a (Vi (Yp X.ts r) k) g->Q (.ref D) a) ->
  WN kg kh CTb CK [.ref T,v] H Q E
theorem ZNO:ZB zFk zFk (Zc HI):=Zs
theorem Aw(F:Zg K "side" "Table.side" HI f fd)(L:QZ K mg CTb)(g:Wo P w K mg kj 11 "value_of" zEd (XM kg kh CK)):ZI P w K mg kj (WA P w) 12 f fd zFk (WN kg kh CTb CK):=by
 refine F.okD ZNO (λJ H Q E h=>(by cases h;rfl)) (λm A a s H J Q E y h=>?_)
 let⟨⟨b,c⟩,t,e,p,z,I,q⟩:=h;rename_i T X R d r v N o
 intro O;exists _,ZR (Zh (M7 NE g y (UA (XS (pv 0) rfl) (XS (pv 0) rfl) (pv 1))));refine⟨_,Z,T,CTb,b,_,.ref X.S,Z,c,L.cT,L.ns,Z,_,Z,T,CTb,b,_,YR r,Z,c,L.cT,L.nr,Z,_,Z,.mk (t.askd e ∅) z I λk n j D M u l G _ x B=>?_⟩
 let C:(d++QI (UT X.ts k r)).length<=d.length+9:=by
  rw[zW];unfold QI;rw[zX]
  cases r with
  | none=>exact wT _ _
  | some i=>
   have:=t.low e i Z;have:(UT X.ts k (some i)).length=(gd X.ts i).h+1:=LB _ _ _ _
   lia
 exact q k n j D M _ u (t.of l) C G x B
inductive XH(kg kh CTb:ak):Sp
 |mk{T:ak}{X:Za}{d:ak}{e:jf}{r:js}{H:Hp}{Q:VK}{E:XK}:YL CTb H T X.S r->Tf kg kh H X d e r->(Yp X.ts r).length<=320->e.length<=379000 ->
  (∀(a:Hp)(D:ak)(g c:jf),(∀ b o,b≠d->H b=some o->a b=some o)->Tf kg kh a X d c r->c.length<=e.length+640->H D=none->a D=some (.lst g)->jX a (Z6 (Yp X.ts r)) g->Q (.ref D) a)->XH kg kh CTb [.ref T] H Q E
theorem Bd:ZB zEh zEh (Zc HM):=Zs
theorem BI(F:Zg K "rows" "Table.rows" HM f fd)(L:QZ K mg CTb)(l:ZA P w K mg kj 26 "rows_of" zEc (Xl kg kh)):ZI P w K mg kj ZM 27 f fd zEh (XH kg kh CTb):=by
 refine F.ok Bd (λB H Q E h=>(by cases h;rfl)) (λn A b s H B Q E v h=>?_)
 let⟨⟨c,d⟩,t,z,p,q⟩:=h;rename_i T X x y r
 intro G;exists _,ZR (Zh (Zf l v (Zx (XS (pv 0) rfl) (XS (pv 0) rfl))));let I:(YB X.ts r).length<=640:=by
  cases r with
  | none=>exact zM _
  | some i=>
   have:=KH t.fst.wf _ i (t.tp i Z).1 Z;have:(Yp X.ts (some i)).length=(gd X.ts i).rows.length:=rfl;have:(YB X.ts (some i)).length=(YH X.ts (gd X.ts i).h i).length:=rfl
   lia
 let o:Uj X.ts (YB X.ts r)=Yp X.ts r:=by
  cases r with
  | none=>rfl
  | some i=>exact Fx t.fst.wf _ i (t.tp i Z).1 Z
 refine⟨_,Z,T,CTb,c,_,.ref X.S,Z,d,L.cT,L.ns,Z,_,Z,T,CTb,c,_,YR r,Z,d,L.cT,L.nr,Z,.mk X x X.ts.length y r ⟨t.sh.q,t.fst.wf,λi e=>⟨(t.tp i e).1,zO (t.low z i e) (by decide)⟩,∅,∅⟩ (λj g=>?_) λm D C a u k=>?_⟩
 ·cases r with
  | none=>cases g
  | some i=>exact NC t.fst.wf _ i (t.tp i Z).1 Z j g
 ·rw[o] at k;exact q m D C _ a.fr (t.of a.sh) (by rw[zW];unfold iN;rw[zX];lia) a.free u k
theorem Jb{X:Cx}{a:jE}:Wj X a (λ_ _ _=>False):=λ_ _ _ _ _ _ h=>h.elim
theorem Jt(n:Nat)(a:Nat->jk):VH [] n a=a:=funext λi=>aK (by simp)
theorem KZ(a:Nat->Nat):W7 [] a=a:=funext λi=>aK (by simp)
theorem Fn{g:jk}{c:jn}{t:ZN}{d:Nat->jk}{e:Nat->Nat}(j:∀ i∈g,i<c.length)(F:VT g c d e)(G:Ye g c c.length t)(l:∀ b∈t.bs,b∈g/\Tp d e b):VT (g++[c.length]) (c++[t]) (VH t.bs c.length (W9 c.length d)) (W7 t.bs (Wy c.length e))/\(∀ i∈g,i∉t.bs->Tp d e i->Tp (VH t.bs c.length (W9 c.length d)) (W7 t.bs (Wy c.length e)) i)/\Tp (VH t.bs c.length (W9 c.length d)) (W7 t.bs (Wy c.length e)) c.length:=by
 let s:∀ i∈g,i∉t.bs->VH t.bs c.length (W9 c.length d) i=d i/\W7 t.bs (Wy c.length e) i=e i:=λi k n=>by
  have:=j i k;unfold VH W7 W9 Wy;rw[aK n,aK n,aK ∅,aK ∅]
  exact⟨Z,Z⟩
 let nn':c.length∉g:=λy=>by have:=j _ y;lia
 exists ⟨F.wf.push j G,?_,λp E b h=>?_⟩,λi k n y=>?_
 ·rw[yA];exact⟨F.nd,by simp,λa C b D z=>nn' (by rw[<-zH.mp D,<-z];exact C)⟩
 ·rcases yW.mp E with q | q
  ·rw[QU (j p q)] at h;let⟨r,u⟩:=F.hb p q b h;let B:(gd c p).h≠0:=λy=>by rw[((F.wf p q).leaf y).1] at h;cases h
   let⟨m,o⟩:=s b (((F.wf p q).stem B).2.2.1 b h).1 λy=>by have:=(l b y).2.1;rw[r] at this;cases this
   rw[m,o];exact⟨r,u⟩
  ·rw[zH.mp q,UR] at h;rw[zH.mp q];let⟨v,x,A⟩:=l b h;have:=j b v;unfold VH W7 W9 Wy;rw[aM h,aM h,aK ∅,aK ∅,x,A]
   exact⟨Z,Z⟩
 ·let⟨m,o⟩:=s i k n;exact⟨m.trans y.1,o.trans y.2⟩
 ·let n:c.length∉t.bs:=λy=>nn' (l _ y).1;unfold Tp VH W7 W9 Wy;rw[aK n,aK n,aM rfl,aM rfl];exact⟨Z,Z⟩
abbrev ZPD:jp:=["shelf","root","key","value","row","steps","rows","owned","added","places"]
theorem Uk:ZB ZPD zEu (Zc JE):=Zs
theorem ES{kg kh CTb T dx:ak}{H:Hp}{X:Za}{g:ak}{k:jf}{r:js}(t:Tf kg kh H X g k r)(d:Zz X g T){r0:js}(q:H T=some (.ins CTb dx (Oa X.S r0))):∃ b,upd H T (.ins CTb dx (Yu "root" (YR r) (Oa X.S r0)))=b/\(∀ c o,c≠T->H c=some o->b c=some o)/\Tf kg kh b X g k r/\YL CTb b T X.S r:=by
 let a:∀ c o,c≠T->H c=some o->upd H T (.ins CTb dx (Yu "root" (YR r) (Oa X.S r0))) c=some o:=λc o n e=>by rw[ZQ n];exact e
 let h:upd H T (.ins CTb dx (Yu "root" (YR r) (Oa X.S r0))) T=some (.ins CTb dx (Oa X.S r)):=ZX;refine⟨_,Z,a,?_,dx,h⟩;generalize upd H T (.ins CTb dx (Yu "root" (YR r) (Oa X.S r0)))=l at a h⊢;let v:Zt H l:=λc A e=>a c _ (ZV e q) e;let R:=t.sh;let⟨⟨m,p⟩,s,u⟩:=R.sh;refine⟨⟨⟨⟨m,a _ _ d.1.symm p⟩,a _ _ d.2.1.symm s,a _ _ d.2.2.1.symm u⟩,R.lt,R.keys,R.val,R.len,λi j=>?_,R.own,R.two⟩,t.fst,t.tp⟩;let⟨x,y,z⟩:=d.2.2.2 i j;exact(R.tw i j).frame v (λo e=>a _ _ x.symm e) (λo e=>a _ _ z.symm e) (λo e=>a _ _ y.symm e)
theorem Qg:ZB ["self","key","value","changed"] zFb (Zc HE):=Zs
end
theorem C2{X:Cx}{w:aw}{o i:Expr}{pos:Pos}{a b:TE}(g:X.A.units+5<cLine)(d:PE X o a)(c:PE X i b)(e:LF i)(h:X.w=w:=by rfl):PE X (.Subscript o i pos) (GK w a b):=by
 subst h;exact ZN4 g d c e
theorem BK{c:jo}(h:OI c):c.Nodup:=h.imp fun{a b} q e=>by rw[e,UW] at q;cases q
structure XA(w:aw)(H:Hp)(D:ak)(rs:jr)(xs:List (KT×V×V)):Prop where
 dk:YZ w H D xs
 rows:Paired (fun(r:Zd)(x:KT×V×V)=>x.1=r.1/\ZE H r.2 x.2.2) rs xs
theorem XA.keys{w:aw}{H:Hp}{D:ak}{b:jr}{c:List (KT×V×V)}(h:XA w H D b c):c.map (·.1)=b.map (·.1):=by
 have:=h.rows;clear h
 induction this with
 | nil=>rfl
 | cons a t d=>rw[yV,yV,a.1,d]
theorem XA.but{w:aw}{H H':Hp}{D p:ak}{a:jr}{b:List (KT×V×V)}(h:XA w H D a b)(s:ZK p H H')(t:Zt H H')(n:D≠p):XA w H' D a b:=⟨h.dk.but s t n,Paired.mapP h.rows λ_ _ z=>⟨z.1,z.2.mono t _ _⟩⟩
theorem XA.same{w:aw}{H a:Hp}{D:ak}{b:jr}{c:List (KT×V×V)}(h:XA w H D b c)(s:ZD H a):XA w a D b c:=⟨h.dk.same s,Paired.mapP h.rows λ_ _ z=>⟨z.1,z.2.sm s⟩⟩
theorem ZNh{w:aw}{H a:Hp}{d:ak}{f:List (KT×V×V)}(c:YZ w H d f)(s:ZK d H a):Zt H a:=λb i e=>by
 let⟨g,h,_⟩:=c.ex;exact s b _ e (ZV e h (by unfold NO;intro z;cases z))
end Tw
namespace L2
open PySem PySem.Spec PyProof.Rows
end L2
namespace Tw
open PySem PySem.Spec L2 PyProof.Rows
variable{kg kh CS CT CH CK CP CB:ak}
abbrev Gu(a:jr):Prop:=(a.map (·.1)).Nodup
theorem DJ:∀{d:jr},Gu d->∀{x y:Zd},x∈d->y∈d->x.1=y.1->x=y
 | z::l,h,x,y,hx,hy,e=>by
  let c:=xU.mp h;rcases zL.mp hx with a | a <;> rcases zL.mp hy with b | b
  ·rw[a,b]
  ·exact absurd (zR.mpr ⟨y,b,by rw[<-e,a]⟩) c.1
  ·exact absurd (zR.mpr ⟨x,a,by rw[e,b]⟩) c.1
  ·exact DJ c.2 a b e
theorem E8{rs:jr}:∀(b:jo),(∀ t∈b,t∈rs.map (·.1))->∃ a:jr,a.map (·.1)=b/\∀ x∈a,x∈rs
 | [],_=>⟨[],Z,λx h=>by cases h⟩
 | t::b,h=>by
  let⟨r,g,e⟩:=zR.mp (h t zS);let⟨a,c,d⟩:=E8 b λj f=>h j (zQ _ f);exact⟨r::a,by rw[yV,c,e],λx i=>(zL.mp i).elim (λz=>z ▸ g) (d x)⟩
theorem XA.at_{w:aw}{H:Hp}{D:ak}{d:jr}{a:List (KT×V×V)}(h:XA w H D d a){r:Zd}(j:r∈d):∃ v,Pt a r.1=some v/\ZE H r.2 v:=by
 let⟨i,b⟩:=vD j;let l:=Paired.length h.rows;let k:=(yZ.mp b).1;let c:a[i]? = some (a[i]'∅):=zV ∅
 let⟨m,e,f,g⟩:=Paired.ixR h.rows c;rw[b] at e;cases e;have:=DQ h.dk.nd c;rw[f] at this;exact⟨_,this,g⟩
theorem XA.nd{w:aw}{H:Hp}{D:ak}{a:jr}{b:List (KT×V×V)}(h:XA w H D a b):Gu a:=by
 show (a.map (·.1)).Nodup;rw[<-h.keys];exact h.dk.nd
theorem XA.put{w:aw}{H j:Hp}{D:ak}{f:jr}{i:List (KT×V×V)}(h:XA w H D f i)(s:ZK D H j){k v:KT}{A q:V}(kv:ZE H v q)(u:YZ w j D (QT i k A q)):∃ b,XA w j D b (QT i k A q)/\b.length<=f.length+1/\∀ x,x∈b ↔ x=(k,v)\/(x∈f/\x.1≠k):=by
 let t:=ZNh h.dk s;let g:=kv.mono t _ _;by_cases c:k∈f.map (·.1)
 ·let o:(i.any λx=>x.1.eqb k)=true:=Xm.mpr (by rw[h.keys];exact c)
  refine⟨f.map λr=>if r.1.eqb k=true then (r.1,v) else r,⟨u,?_⟩,by simp,λx=>?_⟩
  ·unfold QT;rw[aM o];have:=h.rows;clear u o c;let C:∀{l:jr}{m:List (KT×V×V)},Paired (fun(r:Zd)(x:KT×V×V)=>x.1=r.1/\ZE H r.2 x.2.2) l m->Paired (fun(r:Zd)(x:KT×V×V)=>x.1=r.1/\ZE j r.2 x.2.2) (l.map λr=>if r.1.eqb k=true then (r.1,v) else r) (m.map (P9 k q)):=λp=>by
    induction p with
    | nil=>exact .nil
    | cons a _ E=>
     refine .cons ?_ E;unfold P9;dsimp only;rw[a.1];split
     ·exact⟨Z,g⟩
     ·exact⟨a.1,a.2.mono t _ _⟩
   exact C this
  ·rw[zR];constructor
   ·rintro⟨r,y,rfl⟩;by_cases z:r.1.eqb k=true
    ·rw[aM z,V1 _ _ z];exact .inl Z
    ·rw[aK z];exact .inr ⟨y,λe=>z (by rw[e];exact UB _)⟩
   ·rintro(e | ⟨d,n⟩)
    ·let⟨r,y,B⟩:=zR.mp c;exact⟨r,y,by rw[B,aM (UB _),e]⟩
    ·exact⟨x,d,aK λz=>n (V1 _ _ z)⟩
 ·let o:¬ (i.any λx=>x.1.eqb k)=true:=λz=>c (by rw[<-h.keys];exact Xm.mp z)
  refine⟨f++[(k,v)],⟨u,?_⟩,by simp,λx=>?_⟩
  ·unfold QT;rw[aK o];exact Ib (a:=(k,v)) ⟨Z,g⟩ (Paired.mapP h.rows λ_ _ z=>⟨z.1,z.2.mono t _ _⟩)
  ·rw[yW,zH];constructor
   ·rintro(d | e)
    ·exact .inr ⟨d,λe=>c (e ▸ zR.mpr ⟨x,d,Z⟩)⟩
    ·exact .inl e
   ·rintro(e | ⟨d,_⟩)
    ·exact .inr e
    ·exact .inl d
inductive Xt(w:aw):Sp
 |mk{D:ak}{c:jr}{e:List (KT×V×V)}{H:Hp}{Q:VK}{E:XK}:XA w H D c e->(∀ r∈c,r.fit)->c.length<=300->(∀(l:ak)(d:jf)(a:jr)(b:Hp),ZD H b->H l=none->b l=some (.lst d)->jX b (Z6 a) d->Up a->(∀ x,x∈a ↔ x∈c)->Q (.ref l) b)->Xt w [.ref D] H Q E
theorem ZL9:ZB zFd zFd (Zc Ii):=Zs
theorem ZKj(F:Zg K "_law_sorted" "_law_sorted" Ii f fd)(T:Yd mg)(DR:ZA P w K mg kj 6 "_law_rank" zE1 (WX 5)):ZI P w K mg kj ZM 9 f fd zFd (Xt w):=by
 refine F.ok ZL9 (λvs H Q E h=>(by cases h;rfl)) (λa7 A a5 s H vs Q E hr h=>?_)
 let⟨I,fr,a9,k⟩:=h;rename_i D C xs
 let a3:=ZU.key hr (n:=5) (by decide)
 let DS:ZA P w K mg kj 6 "_law_rank" zE1 (Oe KT.rk):=by
  let⟨g,gd,FG,b,kp,m⟩:=DR.ex;exact⟨g,gd,FG.imp λvs H Q E h=>by
   let⟨v,t,e,a,c,d⟩:=h;have:=Vv t 3 c;exact⟨v,t,3,e,a,c,∅,d⟩,b,kp,m⟩
 intro Xc;exists _,ZR (Zh (VJ [0] zFd rfl (X9 (ZLm ZQR FV DS hr rfl T.sorted rfl (ZS (pv 0)))) (λ_ _ _ _ _=>Wc) (λ_ _ _ _ _=>WC (Zx (pv 0) (C2 (w:=w) a3 (pv 1) (pv 0) (λ_ _=>rfl)))) ⟨rfl,.inl rfl,rfl,trivial⟩));let lx:=Paired.length I.rows;let ek:=I.keys;let kf:∀ x∈xs,x.1.fits 3=true:=λx V=>by
  have:x.1∈C.map (·.1):=by rw[<-ek];exact zR.mpr ⟨x,V,Z⟩
  let⟨r,a2,e⟩:=zR.mp this;rw[<-e];exact(fr r a2).1
 exists _,Z,D,xs,Z,I.dk,kf,by lia
 intro S G ts H1 s1 nS U ka X pw;let a6:=ZPI (X.nodup_iff.mpr I.dk.nd) pw;let⟨Y,R,B⟩:=E8 (rs:=C) ts λt ht=>by rw[<-ek];exact X.mem_iff.mp ht
 subst R;let a0:=I.same s1;let lw:=ka.length;rw[zX] at lw;let lp:=X.length_eq;rw[zX,zX] at lp;let a4:∀ x,x∈Y ↔ x∈C:=λx=>⟨B x,λV=>by
  have:x.1∈Y.map (·.1):=X.mem_iff.mpr (by rw[ek];exact zR.mpr ⟨x,V,Z⟩)
  let⟨y,O,e⟩:=zR.mp this;rw[<-DJ I.nd (B y O) V e];exact O⟩
 refine⟨S,Z,⟨G,ZF.of U⟩,WT (n:=G.length) (λi z=>G[i]? = some z) (λE i u j=>ZD H1 j/\H1 E=none/\jX j ((Z6 Y).take i) u) (Ym ∅)
  (λE i u j hi l=>⟨G,G[i],ZF.of (l.1 _ _ U),by simp[hi]⟩) (λE i u j z H4 hi l O=>⟨O.1,O.2 G (ZF.of (l.1 _ _ U))⟩) (λE u j l=>⟨G,ZF.of (l.1 _ _ U),zY _⟩)
  (λE hE=>⟨Zl hE _,hE,.nil⟩) (λE i u j z eE a8 hi hz l RR a1=>?_) (λE u j eE l=>?_)⟩
 ·let⟨J,W,p⟩:=l;let⟨t,R,kt⟩:=ka.get hz;rw[zC] at R;let⟨r,er,rfl⟩:=xZ.mp R;let L:=a0.same J;let N:=B r (zJ er);let⟨v,hv,e2⟩:=L.at_ N;let ff:=(fr r N).1;exists _,Z,_,Z,_,Z,D,xs,r.1,_,Z,L.dk,kt.sm J,Vv _ 3 ff,hv,YE;intro q nq;let g:=Zl nq (.tup [z,v]);let eq:=ZX (H:=j) (a:=q) (o:=.tup [z,v]);let M:=g _ _ eE;refine a1 _ _ M ⟨VQ (J.trans g) W,W,?_⟩;let tE:Zt (upd j q (.tup [z,v])) (upd (upd j q (.tup [z,v])) E (.lst (u++[.ref q]))):=(ZK.refl E _).upd.tups M;unfold Z6;rw[yS,zC,er];refine((p.sm g).mono tE _ _).append (.cons (.tup (tE _ _ eq) (.cons ?_ (.cons ?_ .nil))) .nil)
  ·exact(kt.sm (J.trans g)).mono tE _ _
  ·exact(e2.sm g).mono tE _ _
 ·let⟨J,W,p⟩:=l;rw[zE (by unfold Z6;rw[zX];lia)] at p
  exact k E u Y j (s1.trans J) (s1.free W) eE p a6 a4
theorem Jm(a:jf)(n s:Nat)(b:n<=a.length):UC a (some (n:Int)) (some ((n:Int)+(s:Int)))=(a.drop n).take s:=by
 unfold UC;let e:((n:Int)+(s:Int))=((n+s:Nat):Int):=∅
 rw[e,HT.sIx_nat,HT.sIx_nat,uQ b,List.take_eq_take_min (i:=s),xQ];rw[<-Nat.sub_min_sub_right,uB]
theorem Cp{q:ak}{a b c d h:Int}(j:0<=h)(k:h<4)(f e:Int)(l:f<=a/\a<=e)(n:f<=b/\b<=e)(o:f<=c/\c<=e)(p:f<=d/\d<=e):∃ m:Int,We [V.int a,.int b,.int c,.int d] h=some (.int m)/\f<=m/\m<=e:=by
 let⟨v,g,i⟩:=IK (xs:=[V.int a,.int b,.int c,.int d]) j k;simp only[zL,List.not_mem_nil,or_false] at i;rcases i with rfl | rfl | rfl | rfl
 ·exact⟨a,g,l⟩
 ·exact⟨b,g,n⟩
 ·exact⟨c,g,o⟩
 ·exact⟨d,g,p⟩
theorem As{a b c:Int}(h:c<=a)(g:c<=b):c<=if a<b then a else b:=by split <;> assumption
theorem ZPY{a b c:Int}(g:b<=c):(if a<b then a else b)<=c:=by
 split
 ·exact wF (wG ‹_›) g
 ·exact g
theorem ite_le'{a b:Int}:(if a<b then a else b)<=a:=by
 split
 ·exact wO _
 ·exact tM.mp ‹_›
abbrev Zr(a:jn)(b:Nat):jk:=YH a (gd a b).h b
theorem Qx(a:jn)(n i:Nat):i∈YH a n i:=by cases n <;> exact zS
theorem Na{a e:Type}{f g:a->List e}:∀{l:List a},(∀ b∈l,f b=g b)->l.flatMap f=l.flatMap g
 | [],_=>rfl
 | b::l,h=>by rw[zB,zB,h b zS,Na λc d=>h c (zQ _ d)]
theorem Lo{d:jk}{c a:jn}(k:WF d c)(e:∀ i∈d,gd a i=gd c i):∀(n i:Nat),i∈d->(gd c i).h=n->YH a n i=YH c n i
 | 0,_,_,_=>rfl
 | n+1,i,j,h=>by
  show i::(gd a i).bs.flatMap (YH a n)=i::(gd c i).bs.flatMap (YH c n);rw[e i j,Na λb g=>?_];let⟨_,_,f,_⟩:=(k i j).stem ∅
  exact Lo k e n b (f b g).1 (by have:=(f b g).2;lia)
theorem J6{d:jk}{a:jn}{i:Nat}(m:WF d a)(k:i∈d)(c:(gd a i).h≠0):Zr a i=i::(gd a i).bs.flatMap (Zr a):=by
 let⟨_,_,e,_⟩:=(m i k).stem c;let⟨n,l⟩:=qY c;show YH a (gd a i).h i=_;rw[l];show i::(gd a i).bs.flatMap (YH a n)=_;rw[Na (f:=YH a n) (g:=Zr a) λb j=>by show _=YH a (gd a b).h b;rw[show (gd a b).h=n by have:=(e b j).2;lia]]
theorem EZ{f:Nat->jk}:∀{l:jk},(∀ b,b∈f b)->(l.flatMap f).Nodup->l.Nodup
 | [],_,_=>uS
 | b::l,h,hp=>by
  rw[zB,yA] at hp;exact xU.mpr ⟨λz=>hp.2.2 b (h b) b (yI.mpr ⟨b,z,h b⟩) Z,EZ h hp.2.1⟩
def NX(a:jn)(l:jk):Nat:=((l.flatMap (Zr a)).filter (Xx a)).length
theorem Mo:∀{l:jk}{n m:Nat},l.Pairwise (· < ·)->(∀ i∈l,m<=i/\i<n)->l.length<=n-m
 | [],_,_,_,_=>zM _
 | a::l,n,m,h,k=>by
  let b:=xK.mp h;have:=Mo (m:=a+1) b.2 λi c=>⟨b.1 i c,(k i (zQ _ c)).2⟩;have:=k a zS;rw[zI]
  lia
structure Fg(kg kh:ak)(N:ak->Prop)(H0 H:Hp)(X0 X:Za)(lk:ak)(ls:jf)(lev:jk):Prop where
 sh:Zq kg kh H X.S X.d lk X.lv X.ts X.av X.ho X.as X.kvs ls
 fst:VT X.lv X.ts X.av X.ho
 S:X.S=X0.S
 d:X.d=X0.d
 fr:∀ c o,¬ N c->Zz X0 lk c->H0 c=some o->H c=some o/\Zz X lk c
 cov:X.lv.Perm (X0.lv++lev.flatMap (Zr X.ts))
 lev:∀ b∈lev,b∈X.lv/\Tp X.av X.ho b
 ext:∃ ys,X.ts=X0.ts++ys
 top:∀ i∈X0.lv,Tp X0.av X0.ho i->Tp X.av X.ho i
 up:X.lv.Pairwise (· < ·)
structure Gw(X X':Za)(r:js):Prop where
 ext:∃ ys,X'.ts=X.ts++ys
 cov:X'.lv.Perm (X.lv++YB X'.ts r)
 top:∀ i∈X.lv,Tp X.av X.ho i->Tp X'.av X'.ho i
 up:X'.lv.Pairwise (· < ·)
section
variable{kg kh:ak}{N:ak->Prop}{H0 H H':Hp}{X0 X:Za}{lk:ak}{ls:jf}{lev:jk}
theorem Fg.same(F:Fg kg kh N H0 H X0 X lk ls lev)(s:ZD H H'):Fg kg kh N H0 H' X0 X lk ls lev:=⟨F.sh.same s,F.fst,F.S,F.d,λc o n f e=>⟨s _ _ (F.fr c o n f e).1,(F.fr c o n f e).2⟩,F.cov,F.lev,F.ext,F.top,F.up⟩
theorem Fg.all(F:Fg kg kh N H0 H X0 X lk ls lev):X.lv.length<=X.ts.length:=Mo (m:=0) F.up λi a=>⟨zM _,F.sh.lt i a⟩
theorem Fg.nil(R:Zq kg kh H X.S X.d lk X.lv X.ts X.av X.ho X.as X.kvs ls)(F:VT X.lv X.ts X.av X.ho)(u:X.lv.Pairwise (· < ·)):Fg kg kh N H H X X lk ls []:=⟨R,F,Z,Z,λc o _ f e=>⟨e,f⟩,by rw[xM,zK],λb a=>(by cases a),⟨[],(zK _).symm⟩,λi _ h=>h,u⟩
theorem Fg.gw(F:Fg kg kh N H0 H X0 X lk ls lev){r:js}(h:lev=r.toList):Gw X0 X r/\Tf kg kh H X lk ls r:=by
 subst h;refine⟨⟨F.ext,?_,F.top,F.up⟩,F.sh,F.fst,λi e=>F.lev i (by rw[e];exact zH.mpr Z)⟩
 have:=F.cov
 cases r with
 | none=>exact this
 | some i=>
  rw[show (some i:js).toList=[i] from rfl,zB,xM,zK] at this;exact this
theorem Fg.inn(F:Fg kg kh N H0 H X0 X lk ls lev):∀ x∈lev.flatMap (Zr X.ts),x∈X.lv:=λx a=>F.cov.mem_iff.mpr (yM _ a)
theorem Fg.put(F:Fg kg kh N H0 H X0 X lk ls lev){t:ZN}{a:YQ}{kvs':List (ZT×V)}{X':Za}(A:Ye X.lv X.ts X.ts.length t){rest lev':jk}(m:lev.Perm (t.bs++rest))(p:lev'.Perm (X.ts.length::rest))(O:X'=⟨X.S,X.d,X.lv++[X.ts.length],X.ts++[t],VH t.bs X.ts.length (W9 X.ts.length X.av),W7 t.bs (Wy X.ts.length X.ho),X.as++[a],kvs'⟩)(P:∀ c o,c≠X.S->c≠X.d->(∀ i:Nat,i∈X.lv->c≠(X.as.getD i .d).x/\c≠(X.as.getD i .d).ab)->H c=some o->H' c=some o)(nx:H a.x=none)(nt:H a.th=none)(na:H a.ab=none)(R:Zq kg kh H' X'.S X'.d lk X'.lv X'.ts X'.av X'.ho X'.as X'.kvs ls):
  Fg kg kh N H0 H' X0 X' lk ls lev'/\Go lk H H' X X'/\NX X'.ts lev'=NX X.ts lev+if t.h=0 then 1 else 0:=by
 subst O;let G:=Ga (lk:=lk) (X:=X) (t:=t) (av':=VH t.bs X.ts.length (W9 X.ts.length X.av)) (ho':=W7 t.bs (Wy X.ts.length X.ho)) (kvs':=kvs') F.sh.len F.sh.lt P nx nt na;let W:∀ b∈t.bs,b∈X.lv/\Tp X.av X.ho b:=λb g=>F.lev b (m.mem_iff.mpr (yL _ g));let⟨Q,D,T⟩:=Fn F.sh.lt F.fst A W;let u:=F.cov.nodup_iff.mp F.fst.nd;rw[yA] at u;let w:=EZ (λb=>Qx X.ts (gd X.ts b).h b) u.2.1;let C:=m.nodup_iff.mp w;rw[yA] at C;let r:∀ i∈X.lv,gd (X.ts++[t]) i=gd X.ts i:=λi l=>QU (F.sh.lt i l);let pl:∀ b∈X.lv,Zr (X.ts++[t]) b=Zr X.ts b:=λb g=>by
  show YH (X.ts++[t]) (gd (X.ts++[t]) b).h b=_;rw[r b g];exact Lo F.fst.wf r _ b g Z
 let pn:Zr (X.ts++[t]) X.ts.length=X.ts.length::t.bs.flatMap (Zr X.ts):=by
  show YH (X.ts++[t]) (gd (X.ts++[t]) X.ts.length).h X.ts.length=_;rw[UR];by_cases j:t.h=0
  ·rw[j,(A.leaf j).1];rfl
  ·let⟨_,_,K,_⟩:=A.stem j;let⟨n,U⟩:=qY j;rw[U];show X.ts.length::(gd (X.ts++[t]) X.ts.length).bs.flatMap (YH (X.ts++[t]) n)=_;rw[UR,Na λb g=>?_];let⟨s,I⟩:=K b g;let e:(gd X.ts b).h=n:=∅
   show _=YH X.ts (gd X.ts b).h b;rw[e];exact Lo F.fst.wf r n b s e
 let J:∀ b∈rest,b∈lev:=λb g=>m.mem_iff.mpr (yM _ g);let pr:rest.flatMap (Zr (X.ts++[t]))=rest.flatMap (Zr X.ts):=Na λb g=>pl b (F.lev b (J b g)).1;let B:(lev.flatMap (Zr X.ts)).Perm (t.bs.flatMap (Zr X.ts)++rest.flatMap (Zr X.ts)):=by
  have:=m.flatMap_right (Zr X.ts);rw[yR] at this;exact this
 let E:(lev'.flatMap (Zr (X.ts++[t]))).Perm (X.ts.length::(t.bs.flatMap (Zr X.ts)++rest.flatMap (Zr X.ts))):=by
  have:=p.flatMap_right (Zr (X.ts++[t]));rw[zB,pn,pr,vU] at this;exact this
 exists ⟨R,Q,F.S,F.d,λc o n f e=>?_,?_,λb g=>?_,?_,λi l y=>?_,?_⟩,G
 ·let⟨k,q⟩:=F.fr c o n f e;exact⟨G.fr _ _ q k,G.off _ _ q k⟩
 ·show (X.lv++[X.ts.length]).Perm (X0.lv++lev'.flatMap (Zr (X.ts++[t])));refine(qP _ _).trans (((F.cov.trans (B.append_left _)).cons _).trans (sQ.symm.trans ?_));exact(E.symm.append_left _)
 ·rcases zL.mp (p.mem_iff.mp g) with y | y
  ·rw[y];exact⟨yM _ (zH.mpr rfl),T⟩
  ·let⟨s,I⟩:=F.lev b (J b y);exact⟨yL _ s,D b s (λz=>C.2.2 b z b y Z) I⟩
 ·let⟨ys,e⟩:=F.ext;exact⟨ys++[t],by show X.ts++[t]=_;rw[e,yQ]⟩
 ·let y':=F.top i l y;refine D i (F.cov.mem_iff.mpr (yL _ l)) (λz=>?_) y';exact u.2.2 i l i (yI.mpr ⟨i,m.mem_iff.mpr (yL _ z),Qx _ _ _⟩) Z
 ·show (X.lv++[X.ts.length]).Pairwise (· < ·);rw[xJ];exact⟨F.up,sV _ _,λx v y Y=>by rw[zH.mp Y];exact F.sh.lt x v⟩
 ·let k:=(E.filter (Xx (X.ts++[t]))).length_eq;let q:=(B.filter (Xx X.ts)).length_eq;let L:(t.bs.flatMap (Zr X.ts)++rest.flatMap (Zr X.ts)).filter (Xx (X.ts++[t]))=(t.bs.flatMap (Zr X.ts)++rest.flatMap (Zr X.ts)).filter (Xx X.ts):=tK λx v=>by
   unfold Xx;rw[r x (F.inn x (B.mem_iff.mpr v))]
  rw[yE,L] at k;let M:Xx (X.ts++[t]) X.ts.length=decide (t.h=0):=by unfold Xx;rw[UR]
  rw[M] at k;show ((lev'.flatMap (Zr (X.ts++[t]))).filter (Xx (X.ts++[t]))).length=((lev.flatMap (Zr X.ts)).filter (Xx X.ts)).length+_;rw[k,q];by_cases j:t.h=0
  ·rw[aM j,aM (aJ j),zI]
  ·rw[aK j,aK (by rw[aI j];exact zT)];rfl
end
structure Fo(kg kh:ak)(H0 H:Hp)(X0 X:Za)(p lk:ak)(ls:jf)(lev:jk):Prop where
 w:ZW H p
 g:Fg kg kh (λc=>c=p) H0 H X0 X lk ls lev
 op:Zz X lk p
theorem Fo.sh{a b:ak}{f H:Hp}{h X:Za}{p c:ak}{e:jf}{l:jk}(F:Fo a b f H h X p c e l):Zq a b H X.S X.d c X.lv X.ts X.av X.ho X.as X.kvs e:=F.g.sh
theorem Fo.fst{a b:ak}{c H:Hp}{d X:Za}{p e:ak}{f:jf}{l:jk}(F:Fo a b c H d X p e f l):VT X.lv X.ts X.av X.ho:=F.g.fst
theorem Fo.S{a b:ak}{d H:Hp}{c X:Za}{p e:ak}{f:jf}{l:jk}(F:Fo a b d H c X p e f l):X.S=c.S:=F.g.S
theorem Fo.d{a b:ak}{e H:Hp}{c X:Za}{p f:ak}{h:jf}{l:jk}(F:Fo a b e H c X p f h l):X.d=c.d:=F.g.d
theorem Fo.fr{a b:ak}{e H:Hp}{f X:Za}{p d:ak}{h:jf}{l:jk}(F:Fo a b e H f X p d h l):∀ c o,c≠p->Zz f d c->e c=some o->H c=some o/\Zz X d c:=F.g.fr
theorem Fo.lev{a c:ak}{d H:Hp}{e X:Za}{p f:ak}{h:jf}{l:jk}(F:Fo a c d H e X p f h l):∀ b∈l,b∈X.lv/\Tp X.av X.ho b:=F.g.lev
theorem Fo.all{a b:ak}{c H:Hp}{d X:Za}{p e:ak}{f:jf}{l:jk}(F:Fo a b c H d X p e f l):X.lv.length<=X.ts.length:=F.g.all
structure VB(H0 H:Hp)(X:Za)(p lk c:ak)(us:jf):Prop where
 at_:H c=some (.lst us)
 off:Zz X lk c
 new:H0 c=none
 ne:c≠p
section
variable{kg kh:ak}{H0 H H':Hp}{X0 X:Za}{p lk:ak}{ls:jf}{lev:jk}{c:ak}{us us':jf}
theorem Fo.same(F:Fo kg kh H0 H X0 X p lk ls lev)(s:ZD H H'):Fo kg kh H0 H' X0 X p lk ls lev:=⟨F.w.same s,F.g.same s,F.op⟩
theorem Fg.wr{N:ak->Prop}(F:Fg kg kh N H0 H X0 X lk ls lev){q:ak}{us:jf}(s:ZK q H H')(e:H q=some (.lst us))(o:Zz X lk q)(k:∀ c o,¬ N c->Zz X0 lk c->H0 c=some o->c≠q):Fg kg kh N H0 H' X0 X lk ls lev:=
 ⟨F.sh.but s e o,F.fst,F.S,F.d,λc o n f e=>⟨s _ _ (F.fr c o n f e).1 (k c o n f e),(F.fr c o n f e).2⟩,F.cov,F.lev,F.ext,F.top,F.up⟩
theorem Fo.pull(F:Fo kg kh H0 H X0 X p lk ls lev)(s:ZK p H H')(w:ZW H' p):Fo kg kh H0 H' X0 X p lk ls lev:=by
 let⟨a,b,c,d,e,_⟩:=F.w.ex;exact⟨w,F.g.wr s e F.op λc _ n _ _=>n,F.op⟩
theorem Fo.write(F:Fo kg kh H0 H X0 X p lk ls lev)(l:VB H0 H X p lk c us)(s:ZK c H H'):Fo kg kh H0 H' X0 X p lk ls lev:=
 ⟨F.w.stay s l.ne.symm,F.g.wr s l.at_ l.off λc o n _ e=>ZZ e l.new,F.op⟩
theorem VB.same(l:VB H0 H X p lk c us)(s:ZD H H'):VB H0 H' X p lk c us:=⟨s _ _ l.at_,l.off,l.new,l.ne⟩
theorem VB.pull(l:VB H0 H X p lk c us)(s:ZK p H H'):VB H0 H' X p lk c us:=⟨s _ _ l.at_ l.ne,l.off,l.new,l.ne⟩
theorem VB.but(l:VB H0 H X p lk c us){b:ak}(s:ZK b H H')(n:c≠b):VB H0 H' X p lk c us:=⟨s _ _ l.at_ n,l.off,l.new,l.ne⟩
theorem Fo.fresh(F:Fo kg kh H0 H X0 X p lk ls lev)(n:H c=none)(a:H0 c=none)(e:H' c=some (.lst us)):VB H0 H' X p lk c us:=⟨e,F.sh.new n,a,(M9 F.w n)⟩
theorem Fo.put(F:Fo kg kh H0 H X0 X p lk ls lev){t:ZN}{a:YQ}{kvs':List (ZT×V)}{X':Za}(l:Ye X.lv X.ts X.ts.length t){rest lev':jk}(m:lev.Perm (t.bs++rest))(b:lev'.Perm (X.ts.length::rest))(f:X'=⟨X.S,X.d,X.lv++[X.ts.length],X.ts++[t],VH t.bs X.ts.length (W9 X.ts.length X.av),W7 t.bs (Wy X.ts.length X.ho),X.as++[a],kvs'⟩)(h:∀ c o,c≠X.S->c≠X.d->(∀ i:Nat,i∈X.lv->c≠(X.as.getD i .d).x/\c≠(X.as.getD i .d).ab)->H c=some o->H' c=some o)(nx:H a.x=none)(k:H a.th=none)(j:H a.ab=none)(R:Zq kg kh H' X'.S X'.d lk X'.lv X'.ts X'.av X'.ho X'.as X'.kvs ls):
  Fo kg kh H0 H' X0 X' p lk ls lev'/\Go lk H H' X X':=by
 let⟨g,G,_⟩:=F.g.put l m b f h nx k j R;let⟨q,r,s,u,e,n⟩:=F.w.ex;exact⟨⟨⟨⟨q,r,s,u,G.fr _ _ F.op e,n⟩⟩,g,G.off _ _ F.op e⟩,G⟩
theorem VB.go(l:VB H0 H X p lk c us){a:Za}(G:Go lk H H' X a):VB H0 H' a p lk c us:=⟨G.fr _ _ l.off l.at_,G.off _ _ l.off l.at_,l.new,l.ne⟩
end
theorem P2(a:jr)(n:Nat):Z6 (a.take n)=(Z6 a).take n/\Z6 (a.drop n)=(Z6 a).drop n:=⟨tP,tQ⟩
theorem Ll{a:jn}{t:ZN}{l:jk}(h:∀ b∈l,b<a.length):Zp (a++[t]) l=Zp a l:=NS λb c=>by rw[QU (h b c)]
section
variable{lv:jk}{ts:jn}
theorem Li(k:WF lv ts):∀(n i:Nat),i∈lv->(gd ts i).h=n->∀ j∈YH ts n i,(gd ts j).h<=n/\∀ r∈(gd ts j).rows,r∈(gd ts i).rows
 | 0,i,f,d,j,a=>by
  have:j=i:=by simpa [YH] using a
  subst this;exact⟨xH d,λr h=>h⟩
 | n+1,i,f,d,j,a=>by
  let g:=(k i f).stem ∅
  rw[YH] at a;rcases zL.mp a with z | z
  ·subst z;exact⟨xH d,λr h=>h⟩
  ·let⟨b,e,c⟩:=yI.mp z;have:=g.2.2.1 b e;let⟨o,l⟩:=Li k n b this.1 ∅ j c
   exact⟨∅,λr m=>by rw[g.2.2.2];exact yI.mpr ⟨b,e,l r m⟩⟩
theorem JV(e:WF lv ts):∀(n i:Nat),i∈lv->(gd ts i).h=n->(YH ts n i).Nodup
 | 0,i,g,_=>xU.mpr ⟨List.not_mem_nil,.nil⟩
 | n+1,i,g,t=>by
  let l:=e i g;let j:=l.stem ∅
  let d:∀ b∈(gd ts i).bs,b∈lv/\(gd ts b).h=n:=λb c=>by
   have:=j.2.2.1 b c;exact⟨this.1,∅⟩
  let o:=l.up;rw[j.2.2.2,sI,tX] at o;rw[YH];refine xU.mpr ⟨λz=>?_,tX.mpr ⟨λb c=>JV e n b (d b c).1 (d b c).2,o.2.imp_of_mem fun{a b} f c h x k y s z=>?_⟩⟩
  ·let⟨b,c,q⟩:=yI.mp z;have:=(Li e n b (d b c).1 (d b c).2 i q).1
   lia
  ·subst z;let⟨r,u,p⟩:=List.exists_cons_of_ne_nil (e x (NC e n a (d a f).1 (d a f).2 x k)).ne;let m:r∈(gd ts x).rows:=by rw[p];exact zS ..
   have:=h _ (zR.mpr ⟨r,(Li e n a (d a f).1 (d a f).2 x k).2 r m,Z⟩) _ (zR.mpr ⟨r,(Li e n b (d b c).1 (d b c).2 x s).2 r m,Z⟩);rw[UW] at this;cases this
end
structure Zn(K:zZ)(C:ak)(m q:Str)(st:aC)(ps:jp):Prop where
 ex:∃ f fd,Qm K C m f/\Zg K m q st f fd/\Zv K fd ps []
theorem Zn.of{P:ao}{w:aw}{K:zZ}{g:jc}{a:aD}{e:VI}{C:ak}{m q:Str}{j:aC}{d:jp}{k:Nat}{i:Sp}(L:Zn K C m q j d)(h:∀ f c,Zg K m q j f c->ZI P w K g a e k f c d i):ZC P w K g a e k C m d i:=by
 let⟨f,c,M,F,b⟩:=L.ex;exact⟨f,c,M,h f c F,b⟩
def less(a g:jk):jk:=a.filter λt=>decide (t∉g)
theorem Z9{a g:jk}{t:Nat}:t∈less a g ↔ t∈a/\t∉g:=by unfold less;rw[xF,decide_eq_true_iff]
theorem Bi(c a b:jk):less (less c a) b=less c (a++b):=by
 unfold less;rw[List.filter_filter];refine tK λt _=>?_;rw[wU];simp;exact And.comm
inductive XL(n:Nat)(kg kh:ak):Sp
 |mk{S d x:ak}{l m:jk}{a:jn}{q g:Nat->jk}{r j:Nat->Nat}{u:jv}{v:List (ZT×V)}{y:jf}{i:Nat}{H:Hp}{Q:VK}{E:XK}:Zq kg kh H S d x l a q r u v y->l.Nodup->VT m a g j->i∈m->(∀ p∈Zr a i,p∈l)->q i=[]->r i=0->(∀ t∈Zr a i,t≠i->q t=g t/\r t=j t)->(gd a i).h<n ->
  (∀(s:Hp)(k:List (ZT×V))(e:Nat->jk),(∀ c o,c≠d->(∀ b∈l,c≠(u.getD b .d).ab)->H c=some o->s c=some o)->(∀ t,t∉Zr a i->e t=q t)->Zq kg kh s S d x (less l (Zr a i)) a e r u k y->Q .non s)->XL n kg kh [.ref S,.int (i:Nat)] H Q E
inductive GV(kg kh S d lk:ak)(lv:jk)(ts:jn)(av:Nat->jk)(ho:Nat->Nat)(as:jv)(ls:jf)(i:Nat)(H:Hp):Nat->L2.St->Hp->Prop
 |mk{j:Nat}{x3:jg}{av2:Nat->jk}{kvs2:List (ZT×V)}{H2:Hp}:(∀ c o,c≠d->(∀ b∈lv,c≠(as.getD b .d).ab)->H c=some o->H2 c=some o)->(∀ t,t∉((gd ts i).bs.take j).flatMap (Zr ts)->av2 t=av t)->Zq kg kh H2 S d lk (less lv (i::((gd ts i).bs.take j).flatMap (Zr ts))) ts av2 ho as kvs2 ls->GV kg kh S d lk lv ts av ho as ls i H j [some (.ref S),some (.int (i:Nat)),some (.ref (as.getD i .d).x),x3] H2
theorem ZKw{n:Nat}(F:Zg K "drop_unheld" "Shelf.drop_unheld" Lz f fd)(L:Yg K mg kg kh)(DH:ZC P w K mg kj ZM 2 kg "holders" zEa (Xb kg kh λ_ ho us=>.int ((us.length:Nat)+(ho:Nat):Int)))(DT:ZC P w K mg kj ZM 1 kg "twig_of" zEa (Zk kg))(DS:ZA P w K mg kj 1 "is_stem" zFn (X5 kh))(DR:ZC P w K mg kj ZM (n+3) kg "drop_unheld" zEa (XL n kg kh)):ZI P w K mg kj ZM (n+4) f fd zEa (XL (n+1) kg kh):=by
 refine F.ok Qf (λvs H Q E h=>(by cases h;rfl)) (λe9 A e3 s H vs Q E hr h=>?_)
 let⟨R,a1,F0,I,a4,ea,h0,a3,hn,k⟩:=h;rename_i S d lk lv i1 g av e8 ho i0 l r ls i
 let nd:=Qf.nd;let a6:=hr.mono (show 1<=n+3 by lia)
 let e1:=hr.mono (show 2<=n+3 by lia)
 let Y:i∈lv:=a4 i (Qx _ _ _);intro Xc;refine⟨_,ZL (Z1 (Yb Pp (YV (E:=E0) (pv 0) L.cS DH e1 YC (ZS (pv 1))) ZJ (Z8 _)) WY Z2)
  (ZL (Ze 2 nd (ZKm (XS (pv 0) rfl) (pv 1) ⟨rfl,rfl,rfl,rfl⟩))
  (ZR (Z1 (Xw (Zf DS a6 (ZS (pv 2))))
   (ZR (VD PassesOwn.never rfl (X9 (XS (pv 2) rfl)) (WG 3 nd)
    (ZL (XT (Qo xL PySem.F.slot_list_remove PySem.F.type_list_remove AY (XS (YV (E:=E0) (pv 0) L.cS DT a6 YC (ZS (pv 3))) rfl) (ZS (pv 1))))
    (ZR (XT (YV (E:=E0) (pv 0) L.cS DR hr YC (ZS (pv 3)))))))) Z2))),?_⟩
 let⟨dx,hS⟩:=R.sh.self;let W:=R.tw i Y;let⟨dt,v⟩:=W.tw.self;let lI:(iN (av i)).length=(av i).length:=zX _;exists _,Z,S,dx,_,Z,hS,Z,_,Z,S,d,lk,g.length,r,ls,(i:Int),_,_,_,_,_,_,Z,⟨R.sh,R.val i Y,W.tw⟩;exists _,_,Z,Z,_,Z;rw[aI (show ¬ (((iN (av i)).length:Nat)+(ho i:Nat):Int) > 0 by rw[lI,ea,h0];simp)]
 refine Zo ?_;let X:=R.sh.kept;exists _,Z,S,kg,dx,_,.ref d,Z,hS,L.cS,L.nk,Z,d,Z,.inl ⟨r,L2.Rd.of X⟩,_,Z,r,.inl (i:Int),.ref (l.getD i .d).x,X,Z,R.val i Y;let U:∀ b o,b≠d->H b=some o->upd H d (.dK (Wk r (.inl (i:Int)))) b=some o:=λb o n e=>by rw[ZQ n];exact e
 let R1:=R.gone (i:=i) a1;let⟨us,N,i2,e5⟩:=W.things;let⟨q,k0,k1,eq,a9,_,_⟩:=W.tag;let eq:(l.getD i .d).tg=q:=V.ref.inj eq;generalize upd H d (.dK (Wk r (.inl (i:Int))))=H1 at U R1⊢;let a7:=U _ _ (ZV v X) v;let c1:=U _ _ (ZV W.tw.above X) W.tw.above;let e4:=U _ _ (ZV a9 X) a9;let el:lv.erase i=less lv [i]:=by
  unfold less;rw[a1.erase_eq_filter];refine tK λt _=>?_;rw[wU];simp
 rw[el] at R1;exists _,Z,(l.getD i .d).x,.ref (l.getD i .d).th,(l.getD i .d).tg,(l.getD i .d).ab,ho i,_,_,_,Z,⟨⟨dt,a7⟩,c1⟩,by rw[eq];exact e4,_,Z
 by_cases hz:(gd g i).h=0
 ·rw[aI (show ¬ (Zy (gd g i)).h > 0 by show ¬ ((gd g i).h:Int) > 0;lia)]
  refine Zo (k H1 (Wk r (.inl (i:Int))) av (λc o n _ e=>U c o n e) (λ_ _=>rfl) ?_);rw[show Zr g i=[i] by show YH g (gd g i).h i=_;rw[hz];rfl]
  exact R1
 ·let ps:=J6 F0.wf I hz;let m:=JV F0.wf _ i I Z;let m:(Zr g i).Nodup:=m;rw[ps] at m a4 a3 k;let⟨pi,m⟩:=xU.mp m;rw[aJ (show (Zy (gd g i)).h > 0 by show ((gd g i).h:Int) > 0;lia)]
  let ew:=e5 hz;subst ew;let e6:=U _ _ (ZV N X) N;refine YM ⟨_,Z,(l.getD i .d).x,kh,dt,_,.ref (l.getD i .d).th,Z,a7,L.cT,L.nth,Z,_,Z,⟨_,ZF.of e6⟩,?_⟩;let c0:∀ b∈lv,(l.getD i .d).th≠(l.getD b .d).ab:=λb hb=>by
   by_cases z:b=i
   ·rw[z];exact(R.own i Y).2.2.2.symm
   ·exact(R.two b i hb Y z).2.2.1.symm
  refine PR (K:=K) (a:=(l.getD i .d).th) (xs:=iN (gd g i).bs) (GV kg kh S d lk lv g av ho l ls i H) (.mk (λc o n _ e=>U c o n e) (λ_ _=>rfl) R1) ?_ ?_ ?_
  ·rintro j _ H2 _ ⟨B,_⟩;exact ZF.of (B _ _ (ZV N X) c0 N)
  ·rintro j u _ H2 e2 ⟨B,p,R2⟩;rename_i x3 C O
   let⟨b,T,rfl⟩:=Ni e2;let bm:=zJ T;let hs:(gd g i).bs=(gd g i).bs.take j++b::(gd g i).bs.drop (j+1):=by
    let⟨Y,e⟩:=yZ.mp T;rw[<-e,<-xB Y,yD]
   let et:(gd g i).bs.take (j+1)=(gd g i).bs.take j++[b]:=by rw[yS,T];rfl
   let eF:((gd g i).bs.take (j+1)).flatMap (Zr g)=((gd g i).bs.take j).flatMap (Zr g)++Zr g b:=by rw[et,yR,zB,xM,zK]
   let a2:∀ x∈Zr g b,x∉((gd g i).bs.take j).flatMap (Zr g):=λx v y=>by
    rw[hs,yR,zB,yA] at m;exact m.2.2 x y x (yL _ v) Z
   let M:∀ x∈Zr g b,x∈(gd g i).bs.flatMap (Zr g):=λx v=>yI.mpr ⟨b,bm,v⟩;let ne:∀ x∈Zr g b,x≠i:=λx v y=>pi (y ▸ M x v);let xl:∀ x∈Zr g b,x∈less lv (i::((gd g i).bs.take j).flatMap (Zr g)):=λx v=>Z9.mpr ⟨a4 x (zQ _ (M x v)),λy=>(zL.mp y).elim (ne x v) (a2 x v)⟩;let bs:=Qx g (gd g b).h b;let D:=xl b bs;let⟨b1,b2⟩:=F0.hb i I b bm;let⟨o1,o2⟩:=a3 b (zQ _ (M b bs)) (ne b bs);let c7:C b=[i]:=by rw[p b (a2 b bs),o1,b1]
   let⟨c4,c9⟩:=R2.sh.self;let Wb:=R2.tw b D;let⟨db,a0⟩:=Wb.tw.self;let G:=Wb.tw.above;rw[c7] at G;exists _,Z,S,c4,_,Z,c9,Z,_,Z,S,d,lk,g.length,_,ls,(b:Int),.ref (l.getD b .d).x,Z,R2.sh,R2.val b D,(l.getD b .d).x,kh,db,_,.ref (l.getD b .d).ab,Z,a0,L.cT,L.nab,Z,.inl ⟨Z,_,ZF.of G⟩,_,Z,(l.getD b .d).ab,[(i:Int)],(i:Int),Z,Z,G,zH.mpr Z;rw[List.erase_cons_head];let e7:(l.getD b .d).x≠(l.getD b .d).ab:=ZV a0 G;let R3:=R2.set1 (H':=upd H2 (l.getD b .d).ab (.lst (List.map V.int []))) D (av':=λc=>if c=b then [] else C c) (ho':=ho) (λc n=>aK n) (λ_ _=>rfl) ⟨db,by rw[ZQ e7];exact a0⟩ (by rw[ZX,aM rfl];rfl) λc o _ n2 e=>by rw[ZQ n2];exact e
   let c3:=(Z9.mp D).1;let a5:∀ c o,c≠d->(∀ b∈lv,c≠(l.getD b .d).ab)->H c=some o->upd H2 (l.getD b .d).ab (.lst (List.map V.int [])) c=some o:=λc o n1 n2 e=>by rw[ZQ (n2 b c3)];exact B c o n1 n2 e
   generalize upd H2 (l.getD b .d).ab (.lst (List.map V.int []))=H3 at R3 a5⊢;let⟨c5,e0⟩:=R3.sh.self;let⟨_,_,b3,_⟩:=(F0.wf i I).stem hz;let⟨b4,b5⟩:=b3 b bm;refine⟨_,Z,S,c5,_,Z,e0,Z,_,Z,.mk R3 (a1.filter _) F0 b4 xl (aM rfl) (by rw[o2,b2]) (λt J nt=>?_) ∅ λH4 a8 c2 c8 c6 R4=>?_⟩
   ·let⟨q1,q2⟩:=a3 t (zQ _ (M t J)) (ne t J);exact⟨by rw[aK nt,p t (a2 t J),q1],q2⟩
   ·refine .mk (av2:=c2) (kvs2:=a8) (λc o n1 n2 e=>c8 c o n1 (λb hb=>n2 b (Z9.mp hb).1) (a5 c o n1 n2 e)) (λt J=>?_) ?_
    ·rw[eF,yW] at J;let n1:t∉Zr g b:=λy=>J (.inr y);rw[c6 t n1,aK (λy=>n1 (by rw[y];exact bs)),p t λy=>J (.inl y)]
    ·rw[Bi] at R4;rw[eF];exact R4
  ·rintro _ H2 ⟨B,p,R2⟩;rename_i x3 C O
   rw[show (iN (gd g i).bs).length=(gd g i).bs.length from zX _,zE (zY _)] at R2 p;exact k H2 O C B (λt J=>p t λy=>J (zQ _ y)) R2
theorem FN(a:Zn K kg "drop_unheld" "Shelf.drop_unheld" Lz zEa)(L:Yg K mg kg kh)(b:ZC P w K mg kj ZM 2 kg "holders" zEa (Xb kg kh λ_ e g=>.int ((g.length:Nat)+(e:Nat):Int)))(d:ZC P w K mg kj ZM 1 kg "twig_of" zEa (Zk kg))(c:ZA P w K mg kj 1 "is_stem" zFn (X5 kh)):∀ n:Nat,ZC P w K mg kj ZM (n+3) kg "drop_unheld" zEa (XL n kg kh)
 | 0=>a.of λ_ _ _=>ML λi H Q E h=>by cases h;lia
 | n+1=>a.of λ_ _ F=>ZKw F L b d c (FN a L b d c n)
theorem Jf(a:jn):∀(n i:Nat),∀ x∈YH a n i,x=i\/∃ q∈YH a n i,x∈(gd a q).bs
 | 0,i,x,c=>.inl (zH.mp c)
 | n+1,i,x,c=>by
  rcases zL.mp c with y | y
  ·exact .inl y
  let⟨b,g,d⟩:=yI.mp y;rcases Jf a n b x d with e | ⟨q,h,j⟩
  ·exact .inr ⟨i,zS,by rw[e];exact g⟩
  ·exact .inr ⟨q,zQ _ (yI.mpr ⟨b,g,h⟩),j⟩
theorem ZLc{j:jk}{c:jn}{o k:Nat->jk}{s l:Nat->Nat}{i:Nat}(F:VT j c o s)(E:i∈j)(v:o i=[])(h:∀ t∈less j (Zr c i),k t=o t/\l t=s t):VT (less j (Zr c i)) c k l:=by
 let d:∀ p∈less j (Zr c i),∀ b∈(gd c p).bs,b∈less j (Zr c i):=λp g b a=>by
  let⟨r,G⟩:=Z9.mp g;let⟨n,_⟩:=F.hb p r b a;let x:(gd c p).h≠0:=λy=>by rw[((F.wf p r).leaf y).1] at a;cases a
  refine Z9.mpr ⟨(((F.wf p r).stem x).2.2.1 b a).1,λy=>?_⟩;rcases Jf c _ i b y with e | ⟨q,u,H⟩
  ·rw[e,v] at n;cases n
  ·have:=(F.hb q (NC F.wf _ i E rfl q u) b H).1;rw[n] at this;cases this;exact G u
 refine⟨λp g=>?_,F.nd.filter _,λp g b a=>?_⟩
 ·let m:=F.wf p (Z9.mp g).1;exists m.ne,m.up,m.inn,m.leaf;intro z;let⟨A,B,C,D⟩:=m.stem z;exact⟨A,B,λb a=>⟨d p g b a,(C b a).2⟩,D⟩
 ·let⟨I,J⟩:=h b (d p g b a);rw[I,J];exact F.hb p (Z9.mp g).1 b a
structure PX(kg kh:ak)(H':Hp)(X X':Za)(lk:ak)(ls:jf)(g:jk):Prop where
 sh:Zq kg kh H' X'.S X'.d lk X'.lv X'.ts X'.av X'.ho X'.as X'.kvs ls
 fst:VT X'.lv X'.ts X'.av X'.ho
 ts:X'.ts=X.ts
 lv:X'.lv=less X.lv g
 av:∀ t∈X'.lv,X'.av t=X.av t/\X'.ho t=X.ho t
inductive Xi(kg kh:ak):Sp
 |mk{X:Za}{b:ak}{d:jf}{i:Nat}{H:Hp}{Q:VK}{E:XK}:Tf kg kh H X b d (some i)->(gd X.ts i).h<=8 ->
  (∀(a:Hp)(c:Za),Go b H a X c->PX kg kh a X c b d (Zr X.ts i)->Q .non a)->Xi kg kh [.ref X.S,.int (i:Nat)] H Q E
theorem ZJN(F:Zg K "let_go" "Shelf.let_go" HC f fd)(L:Yg K mg kg kh)(DC:ZC P w K mg kj ZM 3 kg "check_held" zEf (Z7 kg kh))(DT:ZC P w K mg kj ZM 1 kg "twig_of" zEa (Zk kg))(DD:ZC P w K mg kj ZM 12 kg "drop_unheld" zEa (XL 9 kg kh)):
  ZI P w K mg kj ZM 13 f fd zEa (Xi kg kh):=by
 refine F.ok Ug (λvs H Q E h=>(by cases h;rfl)) (λa0 A W s H vs Q E O h=>?_)
 let⟨t,h8,k⟩:=h;rename_i X lk ls i
 let⟨j,ea,h1⟩:=t.tp i Z;let R:=t.sh;let nd:=Ug.nd;let T:=O.mono (show 1<=12 by lia)
 let U:=O.mono (show 3<=12 by lia)
 intro Xc;refine⟨_,ZL (XT (YV (E:=E0) (pv 0) L.cS DC U YC (ZS (Yk (ZS (pv 1))))))
  (ZL (Ze 2 nd (YV (E:=E0) (pv 0) L.cS DT T YC (ZS (pv 1))))
  (ZL (Dx (pv 2) ZJ FY)
  (ZR (XT (YV (E:=E0) (pv 0) L.cS DD O YC (ZS (pv 1))))))),?_⟩
 let⟨dx,hS⟩:=R.sh.self;exists _,Z,X.S,dx,_,Z,hS,Z,_,Z,YE;intro l nl;let⟨C,eU,g,hl⟩:=YD nl (.lst [.int (i:Nat)]);rw[eU];let m:=R.same g;let⟨r,v⟩:=m.sh.self;let G:=m.tw i j;let⟨p,V⟩:=G.tw.self;let z:=G.tw.above;exists X.S,l,[(i:Int)],Z,hl,⟨r,_,v,Z⟩,λn hn=>?_
 ·rw[zH.mp hn];exact⟨X.d,lk,X.ts.length,X.kvs,ls,_,_,_,_,_,_,⟨m.sh,m.val i j,G.tw⟩,∅⟩
 exists _,Z,X.S,r,_,Z,v,Z,_,Z,X.S,X.d,lk,X.ts.length,X.kvs,ls,(i:Int),.ref (X.as.getD i .d).x,Z,m.sh,m.val i j;exists _,Z,(X.as.getD i .d).x,kh,p,_,.int (X.ho i:Nat),Z,V,L.cT,L.nho,Z,_,_,Z,Z,p,_,V,yN Z;let Y:(X.as.getD i .d).ab≠(X.as.getD i .d).x:=ZV z V;let eh:((X.ho i:Nat):Int)-1=((X.ho i-1:Nat):Int):=∅
 let e1:PZ X.ho i i=X.ho i-1:=aM Z;let D:=m.set1 (H':=upd C (X.as.getD i .d).x (.ins kh p (Yu "holds" (.int (((X.ho i:Nat):Int)-1)) (VN (.ref (X.as.getD i .d).th) (.ref (X.as.getD i .d).tg) (X.as.getD i .d).ab (X.ho i))))) j (av':=X.av) (ho':=PZ X.ho i) (λ_ _=>rfl) (λc n=>aK n) ⟨p,by
  rw[ZX,e1,eh];rfl⟩ (by rw[ZQ Y];exact z) λc o n1 _ e=>by rw[ZQ n1];exact e
 let u:∀ c o,c≠(X.as.getD i .d).x->C c=some o->upd C (X.as.getD i .d).x (.ins kh p (Yu "holds" (.int (((X.ho i:Nat):Int)-1)) (VN (.ref (X.as.getD i .d).th) (.ref (X.as.getD i .d).tg) (X.as.getD i .d).ab (X.ho i)))) c=some o:=λc o n e=>by rw[ZQ n];exact e
 generalize upd C (X.as.getD i .d).x (.ins kh p (Yu "holds" (.int (((X.ho i:Nat):Int)-1)) (VN (.ref (X.as.getD i .d).th) (.ref (X.as.getD i .d).tg) (X.as.getD i .d).ab (X.ho i))))=H3 at D u⊢;let⟨I,N⟩:=D.sh.self;refine⟨_,Z,X.S,I,_,Z,N,Z,_,Z,.mk D t.fst.nd t.fst j (NC t.fst.wf _ i j rfl) ea (by rw[e1,h1]) (λb a nb=>⟨Z,aK nb⟩) ∅ λH4 B q M J R4=>?_⟩
 let ag:∀ b∈less X.lv (Zr X.ts i),q b=X.av b/\PZ X.ho i b=X.ho b:=λb a=>by
  let a:=(Z9.mp a).2;exact⟨J b a,aK λy=>a (by rw[y];exact Qx _ _ _)⟩
 refine k H4 ⟨X.S,X.d,less X.lv (Zr X.ts i),X.ts,q,PZ X.ho i,X.as,B⟩ ⟨Z,Z,λc o n e=>?_,λc o n e=>⟨n.1,n.2.1,n.2.2.1,λb a=>n.2.2.2 b (Z9.mp a).1⟩⟩ ⟨R4,ZLc t.fst j ea ag,Z,Z,ag⟩;exact M c o n.2.1 (λb a=>(n.2.2.2 b a).2.1) (u c o (n.2.2.2 i j).1 (g _ _ e))
inductive XF(kg kh:ak):Sp
 |mk{X:Za}{b:ak}{d:jf}{r:js}{H:Hp}{Q:VK}{E:XK}:Tf kg kh H X b d r->(Yp X.ts r).length<=320 ->
  (∀(a:Hp)(c:Za),Go b H a X c->PX kg kh a X c b d (YB X.ts r)->Q .non a)->XF kg kh [.ref X.S,YR r] H Q E
theorem ZJA:ZB zEc zEc (Zc IV):=Zs
theorem ZHw(F:Zg K "release" "release" IV f fd)(L:Yg K mg kg kh)(d:ZC P w K mg kj ZM 13 kg "let_go" zEa (Xi kg kh)):ZI P w K mg kj ZM 14 f fd zEc (XF kg kh):=by
 refine F.ok ZJA (λp H Q E h=>(by cases h;rfl)) (λg A b s H p Q E m h=>?_)
 let⟨t,n,k⟩:=h;rename_i X u v r
 intro q;exists _,ZR (Z1 (Uv (MU (pv 1))) (ZR (XT (YV (E:=E0) (pv 0) L.cS d m YC (ZS (pv 1))))) Z2)
 cases r with
 | none=>
  refine⟨_,Z,_,Z,Zo (k H X (Go.same λc o e=>e) ⟨t.sh,t.fst,rfl,?_,λ_ _=>⟨rfl,rfl⟩⟩)⟩;unfold less;exact(vF.mpr λa _=>aJ (by intro y;cases y)).symm
 | some i=>
  let⟨j,l⟩:=t.sh.sh.self;exact⟨_,Z,_,Z,YM ⟨_,Z,X.S,j,_,Z,l,Z,_,Z,.mk t (t.low n i rfl) k⟩⟩
abbrev Hl:Stmt:=WB (top 64) 8
inductive Y8(kg kh a:ak):Sp
 |mk{T:ak}{X:Za}{b:ak}{g:jf}{r:js}{H:Hp}{Q:VK}{E:XK}:YL a H T X.S r->Tf kg kh H X b g r->(Yp X.ts r).length<=320->Zz X b T ->
  (∀(d:Hp)(e:Za),e.S=X.S->(∀ c o,c≠T->Zz X b c->H c=some o->d c=some o/\Zz e b c)->Zz e b T->YL a d T X.S none->PX kg kh d X e b g (YB X.ts r)->Q .non d)->Y8 kg kh a [.ref T] H Q E
theorem ZLo:ZB zEh zEh (Zc Hl):=Zs
theorem ZKf{a:ak}(F:Zg K "clear" "Table.clear" Hl f fd)(L:QZ K mg a)(x:ZA P w K mg kj 14 "release" zEc (XF kg kh)):ZI P w K mg kj ZM 15 f fd zEh (Y8 kg kh a):=by
 refine F.ok ZLo (λM H Q E h=>(by cases h;rfl)) (λC A q s H M Q E D h=>?_)
 let⟨⟨l,m⟩,t,I,v,k⟩:=h;rename_i T X R U r
 intro O;exists _,ZL (XT (Zf x D (Zx (XS (pv 0) rfl) (XS (pv 0) rfl)))) (ZR (U3 (pv 0) Nq rfl));refine⟨_,Z,T,a,l,_,.ref X.S,Z,m,L.cT,L.ns,Z,_,Z,T,a,l,_,YR r,Z,m,L.cT,L.nr,Z,.mk t I λN B b d=>?_⟩;let g:=b.fr _ _ v m;let j:=b.off _ _ v m;exists _,Z,T,a,l,_,Z,g,L.cT,L.nr,yN Z;let⟨y,n,p,J,z⟩:=ES (CTb:=a) (T:=T) (dx:=l) (r:=none) ⟨d.sh,d.fst,λi e=>by cases e⟩ j (r0:=r) (by rw[b.S];exact g)
 rw[b.S] at n;rw[show YR none=V.non from rfl] at n;rw[n];refine k y B b.S (λc o G u e=>⟨p c o G (b.fr c o u e),b.off c o u e⟩) j (by rw[<-b.S];exact z) ⟨J.sh,d.fst,d.ts,d.lv,d.av⟩
def Yr(n:Nat):Nat:=(n+3) / 4
def YO(n i:Nat):Nat:=n * i / Yr n
theorem Mg{n:Nat}(h:0<n):0<Yr n/\n<=4 * Yr n/\4 * Yr n<=n+3:=by unfold Yr;lia
theorem OG{n:Nat}(h:0<n):YO n 0=0/\YO n (Yr n)=n:=by
 unfold YO;exact⟨by rw[Nat.mul_zero,Nat.zero_div],Nat.mul_div_cancel _ (Mg h).1⟩
theorem Ma{n:Nat}(h:0<n)(i:Nat):YO n i<=YO n (i+1)/\YO n (i+1)<=YO n i+4/\YO n i<YO n (i+1)/\(2<=n->YO n i+2<=YO n (i+1)):=by
 let⟨c,q,s⟩:=Mg h;unfold YO;generalize Yr n=p at *;let d:=Nat.div_add_mod (n * i) p;let k:=Nat.mod_lt (n * i) c;let b:=Nat.div_add_mod (n * (i+1)) p;let f:=Nat.mod_lt (n * (i+1)) c;rw[Nat.mul_add,Nat.mul_one] at b f⊢;generalize (n * i) % p=r at *;generalize (n * i+n) % p=j at *;generalize (n * i) / p=x at *;generalize (n * i+n) / p=y at *;generalize n * i=m at *;subst d;let e:p * x+r+n=p * y+j:=b.symm;let l:y<x+5:=rC (a:=p) (by rw[Nat.mul_add];lia)
 let g:x<y:=rC (a:=p) (by
  have:p<=n:=∅
  lia)
 exists by lia,∅,g
 intro o;have:2 * p<=n:=∅
 have:x+1<y:=rC (a:=p) (by rw[Nat.mul_add];lia)
 lia
theorem Ev{n i:Nat}(h:0<n)(a:i<=Yr n):YO n i<=n:=by
 have:=(OG h).2;have:YO n i<=YO n (Yr n):=Nat.div_le_div_right (Nat.mul_le_mul_left _ a)
 lia
theorem ZNZ(c:jf)(a b:Nat)(d:a<=c.length)(h:a<=b):UC c (some (a:Int)) (some (b:Int))=(c.drop a).take (b-a):=by
 have:=Jm c a (b-a) d;rw[show (a:Int)+((b-a:Nat):Int)=(b:Int) by lia] at this
 exact this
def Y1{a:Type}(l:List a)(j:Nat):List a:=(l.drop (YO l.length j)).take (YO l.length (j+1)-YO l.length j)
theorem Ct{a:Type}{l:List a}(h:0<l.length)(j:Nat):l.take (YO l.length j)++Y1 l j=l.take (YO l.length (j+1)):=by
 unfold Y1;rw[<-tO]
 congr 1
 have:=(Ma h j).1
 lia
theorem C8{a:Type}{l:List a}(h:0<l.length)(j:Nat):Y1 l j++l.drop (YO l.length (j+1))=l.drop (YO l.length j):=by
 unfold Y1;let e:YO l.length (j+1)=YO l.length j+(YO l.length (j+1)-YO l.length j):=by have:=(Ma h j).1;lia
 rw[show l.drop (YO l.length (j+1))=(l.drop (YO l.length j)).drop (YO l.length (j+1)-YO l.length j) by rw[wD,<-e]]
 exact yD _ _
theorem Ff{b:Type}{l:List b}(h:0<l.length){j:Nat}(a:j<Yr l.length):(Y1 l j).length=YO l.length (j+1)-YO l.length j:=by
 unfold Y1;rw[yJ,xQ];have:=Ev h (show j+1<=Yr l.length from a)
 lia
theorem ZK3{p:ak}{g:jf}{j:jr}{E:L2.St}{A:jk}{H:Hp}{C:TE}{Q:VK}(O:j.length<=900)(u:H p=some (.lst g))(B:jX H (Z6 j) g)(q:∀ (c:Hp) (a:ak) (m v:V) (R:VK),ZD H c->c a=some (.tup [m,v])->R m c->C (Nl E A (.ref a)) c R)(s:∀ (D:ak) (b:jf) (c:Hp),ZD H c->H D=none->c D=some (.lst b)->jX c (j.map (·.1)) b->Q (.ref D) c):Vn (Nc K p) E A LR C H Q:=by
 let S:g.length=j.length:=by have:=B.length;rw[<-this];exact zX _
 refine WT (n:=g.length) (λi z=>g[i]? = some z) (λD n b d=>ZD H d/\H D=none/\jX H ((j.take n).map (·.1)) b) (Ym ∅)
  (λD n b d t e=>⟨g,g[n],ZF.of (e.1 _ _ u),by simp[t]⟩) (λD n b d z L t e y=>⟨y.1,y.2 g (ZF.of (e.1 _ _ u))⟩) (λD b d e=>⟨g,ZF.of (e.1 _ _ u),zY _⟩)
  (λD x=>⟨Zl x _,x,.nil⟩) (λD n b d z o N t J e R I=>?_) (λD b d o e=>?_)
 ·let⟨h,l,k⟩:=e;let⟨a,m,v,r,rfl,G,F,M⟩:=QS B J;refine q d a m v R h (h _ _ G) (I _ d o ⟨VQ h l,l,?_⟩);rw[yS,r,Option.toList_some,zD];exact k.append (.cons F .nil)
 ·let⟨h,l,k⟩:=e;rw[zE ∅] at k
  exact s D b d h l o (k.sm h)
inductive WM:Sp
 |mk{l:ak}{b:jf}{a:jo}{H:Hp}{Q:VK}{E:XK}:H l=some (.lst b)->jX H a b->(∀ t∈a,t.fits 3=true)->b.length<=400->OI a->(∀ c,ZD H c->Q .non c)->WM [.ref l] H Q E
theorem Uy:ZB ["keys","at"] zFe (Zc IO):=Zs
theorem ZLS(F:Zg K "check_rising" "check_rising" IO f fd)(T:Yd mg)(B:ZA P w K mg kj 7 "ahead" zEs Yy):ZI P w K mg kj ZM 8 f fd zFe WM:=by
 refine F.ok Uy (λO H Q E h=>(by cases h;rfl)) (λC A p s H O Q E I h=>?_)
 let⟨v,m,u,U,o,k⟩:=h;rename_i l c X
 let M:=Uy.nd;let Y:=m.length;intro S;refine⟨_,ZR (VD PassesOwn.never rfl (Jr rfl T.range (Zx ZJ (YG Xd rfl T.len XG (ZS (pv 0))))) (WG 1 M)
  (ZR (Z1 (UO (Xw (Zf B I (Zx (YX K (pv 0) (Zj Vg (pv 1) ZJ)) (YX K (pv 0) (pv 1)))))) WY Z2))),?_⟩
 exists _,Z,l,c,Z,.inl (ZF.of v),1,(c.length:Int),Z,⟨nofun,nofun,nofun,nofun⟩
 refine Nz (lo:=1) (n:=((c.length:Int)-1).toNat) (λi q g=>∃ x:jg,q=[some (.ref l),x]/\ZD H g) ⟨_,Z,ZD.refl H⟩ ?_ ?_
 ·rintro i q g W ⟨x,rfl,d⟩;let j:i+1<c.length:=nofun
  let y:c[i]? = some (c[i]'nofun):=zV nofun
  let z:c[i+1]? = some c[i+1]:=zV j;let G:(1:Int)+(i:Int)=((i+1:Nat):Int):=nofun
  let D:(1:Int)+(i:Int)-1=((i:Nat):Int):=nofun
  let⟨a,r,J⟩:=m.get y;let⟨b,t,L⟩:=m.get z;let e:=d _ _ v;refine⟨_,Z,_,Z,_,_,Z,Z,.inl ⟨l,c,_,_,Z,Z,ZF.of e,(by rw[D];exact Vd y),?_⟩⟩
  refine⟨_,Z,_,Z,.inl ⟨l,c,_,_,Z,Z,ZF.of e,(by rw[G];exact Vd z),?_⟩⟩
  refine⟨_,_,a,b,Z,J.sm d,L.sm d,u a (zJ r),u b (zJ t),λR N=>⟨_,Z,?_⟩⟩;rw[Lm o (wR i) r t];exact Zo ⟨_,Z,d.trans N⟩
 ·rintro q g ⟨x,rfl,d⟩;exact k g d
inductive Xq:Sp
 |mk{l:ak}{b:jf}{H:Hp}{Q:VK}{E:XK}:H l=some (.lst b)->0<b.length->b.length<=400 ->
  (∀(c:Hp)(D:ak)(d:jB),ZD H c->H D=none->c D=some (.lst (d.map V.ref))->d.length=Yr b.length->(∀ j a,d[j]? = some a->H a=none/\a≠D/\c a=some (.lst (Y1 b j)))->Q (.ref D) c)->Xq [.ref l,.int 4] H Q E
theorem Vy:ZB ["things","most","many","parts"] zFi (Zc Jy):=Zs
theorem ZIY(F:Zg K "spread" "spread" Jy f fd)(T:Yd mg):ZI P w K mg kj ZM 1 f fd zFi Xq:=by
 refine F.ok Vy (λvs H Q E h=>(by cases h;rfl)) (λa0 A N s H vs Q E hr h=>?_)
 let⟨Y,C,W,k⟩:=h;rename_i l b
 let nd:=Vy.nd;let⟨p0,p1,p2⟩:=Mg C;intro Xc;refine⟨_,ZL (N3 (i:=2) nd rfl (Or.inr rfl) (YG Xd rfl T.len XG (ZS (pv 0))))
  (ZL (N3 (i:=3) nd rfl (Or.inr rfl) (Zj P3 (Zj Vg (Zj Xg (pv 2) (pv 1)) ZJ) (pv 1)))
  (ZR (Zh (VJ [0,2,3] ["things","many","parts"] rfl (Oh rfl T.range (ZS (pv 3))) (λ_ _ _ _ _=>Wc)
   (λ_ _ _ _ _=>PJ (r:=Me K) PU (pv 1) (QD (Zj P3 (Zj Q0 (pv 2) (pv 0)) (pv 3))) (QD (Zj P3 (Zj Q0 (pv 2) (Zj Xg (pv 0) ZJ)) (pv 3)))) ⟨rfl,.inl rfl,rfl,rfl,.inl rfl,rfl,rfl,.inl rfl,rfl,trivial⟩)))),?_⟩
 let ep:((b.length:Nat):Int)+4-1=((b.length+3:Nat):Int):=nofun
 let v:(((b.length:Nat):Int)+4-1) / 4=((Yr b.length:Nat):Int):=by unfold Yr;lia (splits:=8)
 exists _,Z,l,b,Z,.inl (ZF.of Y);exists _,Z,_,Z,_,_,Z,Z,_,_,Z,Z,_,Z,_,_,Z,Z,⟨by decide,by decide⟩
 exists _,Z,((Yr b.length:Nat):Int),congrArg (λy=>[V.int y]) v,nofun,nofun
 rw[tL];refine WT (n:=Yr b.length) (λi x=>x=.int (0+(i:Int))) (λD i g c=>∃ d:jB,g=d.map V.ref/\ZD H c/\H D=none/\d.length=i/\∀ j a,d[j]? = some a->H a=none/\a≠D/\c a=some (.lst (Y1 b j))) (Ym nofun)
  (λD i g c J _=>J) (λD i g c x O J _ hy=>hy) (λD g c _=>zY _) (λD X=>⟨[],Z,Zl X _,X,Z,λj a e=>by cases e⟩) (λD i g c x o a1 J hx G R hR=>?_) (λD g c o G=>?_)
 ·subst hx;let⟨d,rfl,m,t,p,I⟩:=G;let⟨c1,c2,c3,_⟩:=Ma C i;let q1:((b.length:Nat):Int) * (0+(i:Int)) / ((Yr b.length:Nat):Int)=((YO b.length i:Nat):Int):=by
   rw[Int.zero_add];unfold YO;rw[Int.natCast_ediv,Int.natCast_mul]
  let q2:((b.length:Nat):Int) * (0+(i:Int)+1) / ((Yr b.length:Nat):Int)=((YO b.length (i+1):Nat):Int):=by
   rw[Int.zero_add];unfold YO;rw[Int.natCast_ediv,Int.natCast_mul];rfl
  let m1:QE ((b.length:Nat):Int) (0+(i:Int)):=.inl ⟨nofun,nofun⟩
  let m2:QE ((b.length:Nat):Int) (0+(i:Int)+1):=.inl ⟨nofun,nofun⟩
  let U:∀ z:Int,Gj z ((((b.length:Nat):Int)+4-1) / 4):=λz=>by rw[v];exact⟨nofun,nofun⟩
  exists _,Z,_,Z,_,Z,_,_,Z,Z,m1,_,Z,_,_,Z,Z,U _,_,Z,_,Z,_,Z,_,_,Z,Z,_,_,Z,Z,m2,_,Z,_,_,Z,Z,U _,_,Z,l,b,Z,ZF.of (m _ _ Y);intro q u;let cl:=Ev C (show i<=Yr b.length from nofun)
  let ec:UC b (some (((b.length:Nat):Int) * (0+(i:Int)) / ((((b.length:Nat):Int)+4-1) / 4))) (some (((b.length:Nat):Int) * (0+(i:Int)+1) / ((((b.length:Nat):Int)+4-1) / 4)))=Y1 b i:=by
   rw[v,q1,q2,ZNZ b _ _ cl c1];rfl
  rw[ec];let⟨O,eU,B,W⟩:=YD u (.lst (Y1 b i));rw[eU];let qD:q≠D:=λz=>by rw[z,o] at u;cases u
  refine hR _ O (B _ _ o) ⟨d++[q],by simp,VQ (m.trans B) t,t,by rw[zW,p];rfl,λj a e=>?_⟩
  rcases xG j d.length with L | L
  ·rw[wM L] at e;let⟨b1,S,b3⟩:=I j a e;exact⟨b1,S,by rw[ZQ S];exact B _ _ b3⟩
  ·rw[wZ L] at e;let M:j=i:=by
    have:=(yZ.mp e).1;simp at this
    lia (splits:=8)
   subst M;rw[p,tT] at e;cases e;exact⟨m.free u,qD,by rw[ZQ qD];exact W⟩
 ·let⟨d,rfl,m,t,p,I⟩:=G;exact k c D d m t o p I
section
variable{kg kh CTb:ak}
abbrev NF:ak->Prop:=λ_=>False
theorem Fg.go{b H:Hp}{g X:Za}{h:ak}{i:jf}{a:jk}(F:Fg kg kh NF b H g X h i a):Go h b H g X:=⟨F.S,F.d,λc o n e=>(F.fr c o id n e).1,λc o n e=>(F.fr c o id n e).2⟩
theorem KK{X:Za}{p:ak}{s:jf}{r:js}{H:Hp}{Q:VK}(t:Tf kg kh H X p s r)(k:∀ (c:Hp) (T:ak),ZD H c->H T=none->YL CTb c T X.S r->Q (.ref T) c):
  ∀ x a,H x=none->H a=none->a≠x->Yo kg kh CTb [.ref x,.ref X.S,YR r] (upd (upd H a (.own x)) x (.ins CTb a [])) (λv c=>v=.non/\Q (.ref x) c) E0:=λT a d j y=>by
 let l:ZD H (upd (upd H a (.own T)) T (.ins CTb a [])):=λb o q=>by
  rw[ZQ (ZZ q d),ZQ (ZZ q j)];exact q
 let⟨u,n⟩:=t.sh.sh.self;let TS:T≠X.S:=(ZZ n d).symm;refine Yo.mk (X:=X) (dx:=a) ZX TS (t.sh.same l) (λi e=>⟨(t.tp i e).1,by rw[(t.tp i e).2.2];exact zY _⟩) λm g h=>⟨Z,?_⟩
 exact k m T (λb o q=>g b o (ZZ q d) (l b o q)) d h
inductive Yl(kg kh CTb:ak):Sp
 |mk{X:Za}{lk l:ak}{ls us:jf}{rs:jr}{H:Hp}{Q:VK}{E:XK}:Zq kg kh H X.S X.d lk X.lv X.ts X.av X.ho X.as X.kvs ls->VT X.lv X.ts X.av X.ho->X.lv.Pairwise (· < ·)->X.ts.length<=400->H l=some (.lst us)->jX H (Z6 rs) us->Up rs->(∀ x∈rs,x.fit)->rs.length<=310 ->
  (∀(H':Hp)(X':Za)(T:ak)(r:js),Go lk H H' X X'->YL CTb H' T X'.S r->(∀ c o,Zz X lk c->H c=some o->c≠T)->Zz X' lk T->Tf kg kh H' X' lk ls r->Yp X'.ts r=rs->Gw X X' r->((YB X'.ts r).filter (Xx X'.ts)).length=Yr rs.length->X'.ts.length<=X.ts.length+2 * Yr rs.length->Q (.ref T) H')->Yl kg kh CTb [.ref X.S,.ref l] H Q E
abbrev ZNH:jp:=["shelf","rows","own","numbers"]
theorem Vz:ZB ZNH zFa (Zc KM):=Zs
theorem ZJY{c:jn}{l m:jk}(h:l.Sublist m):(Zp c l).Sublist (Zp c m):=by
 induction h with
 | slnil=>exact .slnil
 | cons a _ b=>rw[V9];exact b.trans (rA _ _)
 | cons_cons a _ b=>rw[V9,V9];exact b.append_left _
theorem Go.wr{h:ak}{a H:Hp}{b X:Za}(g:Go h a H b X){D:ak}{o:HO}(i:a D=none):Go h a (upd H D o) b X:=⟨g.S,g.d,λc o n e=>by rw[ZQ (ZZ e i)];exact g.fr c o n e,g.off⟩
inductive Ps(kg kh:ak)(H0 H1:Hp)(X0 X1:Za)(lk:ak)(ls:jf)(rs:jr)(h:Nat)(old:Nat->jk)(c0:Nat->Nat)(cut:Nat->jr)(D:ak)(n:Nat)(ys:jf)(H:Hp):Prop
 |mk{X:Za}{lev:jk}:Fg kg kh NF H0 H X0 X lk ls (lev++old n)->Go lk H1 H X1 X->ys=iN lev->lev.length=n->H1 D=none->Zz X lk D->(∀ b∈lev,(gd X.ts b).h=h)->(∀ b∈X1.lv,b∈X.lv/\gd X.ts b=gd X1.ts b)->Zp X.ts lev=cut n->X.ts.length=X1.ts.length+n->NX X.ts (lev++old n)=c0 n->Ps kg kh H0 H1 X0 X1 lk ls rs h old c0 cut D n ys H
theorem Ps.step{v z H k:Hp}{A l X:Za}{j:ak}{B:jf}{rs:jr}{h:Nat}{old:Nat->jk}{c0:Nat->Nat}{cut:Nat->jr}{D:ak}{n:Nat}{g:jk}(I:∀ c o,Zz A j c->v c=some o->c≠D)(F:Fg kg kh NF v H A X j B (g++old n))(G:Go j z H l X)(ln:g.length=n)(M:z D=none)(N:Zz X j D)(J:H D=some (.lst (iN g)))(hh:∀ b∈g,(gd X.ts b).h=h)(kp:∀ b∈l.lv,b∈X.lv/\gd X.ts b=gd l.ts b)(U:Zp X.ts g=cut n)(tl:X.ts.length=l.ts.length+n)(lc:NX X.ts (g++old n)=c0 n){t:ZN}{a:YQ}{kvs':List (ZT×V)}{X':Za}(ok:Ye X.lv X.ts X.ts.length t)(pm:(old n).Perm (t.bs++old (n+1)))(th:t.h=h)(W:cut n++t.rows=cut (n+1))(T:c0 (n+1)=c0 n+if t.h=0 then 1 else 0)(p:X'=⟨X.S,X.d,X.lv++[X.ts.length],X.ts++[t],VH t.bs X.ts.length (W9 X.ts.length X.av),W7 t.bs (Wy X.ts.length X.ho),X.as++[a],kvs'⟩)(Y:∀ c o,c≠X.S->c≠X.d->(∀ i:Nat,i∈X.lv->c≠(X.as.getD i .d).x/\c≠(X.as.getD i .d).ab)->H c=some o->k c=some o)(nx:H a.x=none)(nt:H a.th=none)(na:H a.ab=none)(R:Zq kg kh k X'.S X'.d j X'.lv X'.ts X'.av X'.ho X'.as X'.kvs B):
  k D=some (.lst (iN g))/\Ps kg kh v z A l j B rs h old c0 cut D (n+1) (iN g++[.int (X.ts.length:Nat)]) (upd k D (.lst (iN g++[.int (X.ts.length:Nat)]))):=by
 let C:(g++old n).Perm (t.bs++(g++old (n+1))):=by
  refine(pm.append_left g).trans ?_;rw[<-yQ,<-yQ];exact tW.append_right _
 let E:(g++[X.ts.length]++old (n+1)).Perm (X.ts.length::(g++old (n+1))):=by
  rw[yQ];exact sQ
 let r:∀ b∈g,b<X.ts.length:=λb q=>F.sh.lt b (F.lev b (yL _ q)).1;let⟨O,u,Q⟩:=F.put (lev':=g++[X.ts.length]++old (n+1)) ok C E p Y nx nt na R;let m:=u.fr _ _ N J;let s:=u.off _ _ N J;refine⟨m,.mk (X:=X') (lev:=g++[X.ts.length]) (O.wr (ZK.refl D k).upd m s λc o _ f e=>I c o f e) ((G.trans u).wr M) ?_ (by rw[zW,ln];rfl) M s (λb q=>?_) (λb q=>?_) ?_ ?_ ?_⟩
 ·unfold iN;rw[zD];rfl
 ·subst p;show (gd (X.ts++[t]) b).h=h;rcases yW.mp q with y | y
  ·rw[QU (r b y)];exact hh b y
  ·rw[zH.mp y,UR];exact th
 ·subst p;let⟨L,k2⟩:=kp b q;exact⟨yL _ L,by show gd (X.ts++[t]) b=_;rw[QU (F.sh.lt b L)];exact k2⟩
 ·subst p;show Zp (X.ts++[t]) (g++[X.ts.length])=_;rw[PL,Ll r,V9,UR,U,<-W];show cut n++(t.rows++[])=_;rw[zK]
 ·subst p;show (X.ts++[t]).length=_;rw[zW,tl];rfl
 ·rw[Q,lc,T]
inductive Da(kg kh:ak)(H0:Hp)(X0:Za)(lk:ak)(ls:jf)(rs:jr)(l D0:ak):Nat->L2.St->Hp->Prop
 |mk{X:Za}{lev:jk}{h:Nat}{D:ak}{H:Hp}:Fg kg kh NF H0 H X0 X lk ls lev->H D=some (.lst (iN lev))->0<lev.length->lev.length<=100->(∀ b∈lev,(gd X.ts b).h=h)->Zp X.ts lev=rs->X.ts.length+lev.length<=X0.ts.length+2 * Yr rs.length->NX X.ts lev=Yr rs.length ->
  Da kg kh H0 X0 lk ls rs l D0 lev.length [some (.ref X0.S),some (.ref l),some (.ref D0),some (.ref D)] H
theorem Bg(F:Zg K "filled" "filled" KM f fd)(T:Yd mg)(L:Yg K mg kg kh)(LT:QZ K mg CTb)(DO:ZA P w K mg kj 8 "own_rows" zEr XQ)(DC:ZA P w K mg kj 8 "check_rising" zFe WM)(DS:ZA P w K mg kj 1 "spread" zFi Xq)(DL:ZC P w K mg kj ZM 10 kg "put_leaf" zEz (XI kg kh))(DP:ZC P w K mg kj ZM 10 kg "put_stem" zEf (Yc kg kh))(DT:Mr P w K mg kj 5 CTb zEn (Yo kg kh CTb)):ZI P w K mg kj ZM 11 f fd zFa (Yl kg kh CTb):=by
 refine F.ok Vz (λvs H Q E h=>(by cases h;rfl)) (λl6 A l4 s H vs Q E hr h=>?_)
 let⟨R,F0,up,t4,hl,kr,U,rf,r3,q⟩:=h;rename_i X lk l ls us j
 let nd:=Vz.nd;let c7:=hr.mono (show 1<=10 by lia)
 let c8:=hr.mono (show 6<=10 by lia)
 let c9:=hr.mono (show 8<=10 by lia)
 let⟨ta,m4⟩:=T.rows;let⟨tb,m5⟩:=T.most;intro Xc;refine⟨_,ZL (Ze 2 nd (Zf DO c9 (ZS (pv 1))))
  (ZL (XT (Zf DC c9 (ZS (VJ [] [] rfl (X9 (pv 2)) (λ_ _ _ _ _=>Wc) (λ_ _ _ _ _=>YX K (pv 0) ZJ) trivial))))
  (ZL (Z1 (Yb (Lw hr.units0) (pv 2) (Yk Zu) (Z8 _)) (ZR (Zh (Cb DT c8 rfl LT.tab (ZS (pv 0))))) Z2)
  (ZL (O8 (i:=3) [0] ["shelf"] nd rfl rfl rfl (X9 (Zf DS c7 (Zx (pv 2) (Wt (v:=.int 4) rfl m4 ⟨_,rfl⟩)))) (λ_ _ _ _ _=>Wc) (λ_ _ _ _ _=>YV (E:=E0) (pv 1) L.cS DL hr YC (ZS (pv 0))) ⟨rfl,.inl rfl,rfl,trivial⟩)
  (ZL (P5 PassesOwn.never (Yb Pp (YG Xd rfl T.len XG (ZS (pv 3))) ZJ (Z8 _))
   (ZR (O8 (i:=3) [0] ["shelf"] nd rfl rfl rfl (X9 (Zf DS c7 (Zx (pv 3) (Wt (v:=.int 4) rfl m5 ⟨_,rfl⟩)))) (λ_ _ _ _ _=>Wc) (λ_ _ _ _ _=>YV (E:=E0) (pv 1) L.cS DP hr YC (ZS (pv 0))) ⟨rfl,.inl rfl,rfl,trivial⟩)))
  (ZR (Zh (Es DT c8 rfl LT.tab (Zx (pv 0) (YX K (pv 3) ZJ))))))))),?_⟩
 let lu:us.length=j.length:=by have:=kr.length;rw[<-this];exact zX _
 exists _,Z,l,us,j,Z,hl,kr,rf,by lia
 intro H1 D ys s1 nD eD a8;let ly:ys.length=j.length:=by have:=a8.length;rw[<-this];exact zX _
 refine⟨_,Z,D,Z,⟨ys,ZF.of eD⟩,ZK3 ∅ eD a8 (λH2 a vk vv RR s2 ea hR=>⟨_,Z,.inr (.inl ⟨a,_,_,vk,rfl,rfl,Zm.of ea,rfl,hR⟩)⟩) λD2 ks H2 s2 l7 e3 kk=>?_⟩
 let i7:=kk.length;rw[zX] at i7;refine .mk e3 kk (λt ht=>?_) ∅ U λH3 s3=>?_
 ·let⟨r,i5,rfl⟩:=zR.mp ht;exact(rf r i5).1
 exists _,Z,YE;intro e0 i3;let g4:=Zl i3 (.lst []);let c1:=s2.trans s3;let N:=(s1.trans c1).trans g4;let a5:=(c1.trans g4) _ _ eD;let e1:=a8.sm (c1.trans g4);exists D,e0,ys,Z,Z,ZF.of a5,ZF.of ZX,_,Z;generalize upd H3 e0 (.lst [])=H4 at g4 N a5 e1⊢;let R4:=R.same N;let i0:Fg kg kh NF H H4 X X lk ls []:=(Fg.nil R F0 up).same N;rcases Nat.eq_zero_or_pos j.length with z0 | z0
 ·let Y:j=[]:=vQ z0;let ey:ys=[]:=vQ ∅
  rw[ey];let⟨gw,tf⟩:=i0.gw (r:=none) Z;refine YM ⟨_,Z,KK (X:=X) (r:=none) tf λH5 T s5 nT hT=>?_⟩;exact q H5 X T none (Go.same (N.trans s5)) hT (λc o _ e=>ZZ (N _ _ e) nT) (R4.new nT) (tf.same s5) Y.symm gw (by rw[Y];rfl) ∅
 let ne:ys.isEmpty=false:=by
  cases ys with
  | nil=>simp at ly;lia
  | cons _ _=>rfl
 rw[ne];refine Zo ⟨_,Z,.mk a5 ∅ ∅ λH5 Dp as s5 i8 c5 la ha=>⟨Dp,Z,⟨_,ZF.of c5⟩,?_⟩⟩
 let a9:=N.trans s5;let R5:=R.same a9;let l2:Zz X lk Dp:=R4.new i8;let i6:=e1.sm s5;rw[ly] at la;let a3:∀{I:ak}{i:Nat}{O:jf}{H6:Hp},Ps kg kh H H5 X X lk ls j 0 (λ_=>[]) id (λn=>j.take (YO j.length n)) I i O H6->H6 Dp=some (.lst (as.map V.ref)):=λu=>by
  let⟨_,G,_⟩:=u;exact G.fr _ _ l2 c5
 let lm:(as.map V.ref).length=Yr j.length:=by rw[zX,la]
 let⟨p0,p1,p2⟩:=Mg z0;refine WT (n:=Yr j.length) (λi z=>(as.map V.ref)[i]? = some z) (Ps kg kh H H5 X X lk ls j 0 (λ_=>[]) id (λn=>j.take (YO j.length n))) (Ym ∅)
  (λI i O H6 hi u=>⟨_,(as.map V.ref)[i]'∅,ZF.of (a3 u),zV ∅⟩) (λI i O H6 z H7 hi u hy=>⟨hy.1,hy.2 _ (ZF.of (a3 u))⟩) (λI O H6 u=>⟨_,ZF.of (a3 u),∅⟩)
  (λI y=>.mk (X:=X) (lev:=[]) ((Fg.nil R F0 up).same (a9.trans (Zl y _))) (Go.same (Zl y _)) Z Z y (R5.new y) (λb k=>by cases k) (λb k=>⟨k,Z⟩) (by rw[(OG z0).1];rfl) Z Z) (λI i O H6 z B i4 hi hz u RR a6=>?_) (λI O H6 B u=>?_)
 ·let⟨F6,G6,ez,ln,C,M,hh,kp,Y,tl,lc⟩:=u;rename_i p g
  subst ez;rw[zC] at hz;let⟨a,ea,rfl⟩:=xZ.mp hz;let⟨na,_,e5⟩:=ha i a ea;let e6:=G6.fr _ _ (R4.new na) e5;let k6:jX H6 (Z6 (Y1 j i)) (Y1 ys i):=by
   have:=((i6.mono (G6.tups R5) _ _).drop (YO j.length i)).take (YO j.length (i+1)-YO j.length i);unfold Y1;rw[ly,(P2 _ _).1,(P2 _ _).2];exact this
  let lp:=Ff z0 hi;let⟨_,c2,c3,_⟩:=Ma z0 i;let sb:(Y1 j i).Sublist j:=(uJ _ _).trans (rZ _ _);let G:WD (Y1 j i):=KU (λx hx=>rf x (sb.subset hx)) (wL.sublist (sb.map _) U) ∅ ∅
  let⟨dS,hS⟩:=F6.sh.sh.self;rw[F6.S] at hS;exists _,Z,X.S,dS,_,Z,hS,Z,_,Z;rw[<-F6.S];exists p.S,p.d,lk,a,p.lv,p.ts,p.av,p.ho,p.as,p.kvs,ls,_,Y1 j i,Z,F6.sh,(by have:=F6.all;lia),e6,k6,G
  intro H7 a' nx nt na i1 R7;let⟨e7,p7⟩:=Ps.step (rs:=j) (h:=0) (old:=λ_=>[]) (c0:=id) (cut:=λn=>j.take (YO j.length n)) (X':=⟨p.S,p.d,p.lv++[p.ts.length],p.ts++[VE (Y1 j i)],W9 p.ts.length p.av,Wy p.ts.length p.ho,p.as++[a'],Yj p.kvs (.inl (p.ts.length:Int)) (.ref a'.x)⟩) (λc o f e=>ZZ (a9 _ _ e) C) F6 G6 ln C M B hh kp Y tl lc (t:=VE (Y1 j i)) (a:=a') (kvs':=Yj p.kvs (.inl (p.ts.length:Int)) (.ref a'.x)) (Lx G) (xI.refl _) Z (Ct z0 i) Z (by rw[show (VE (Y1 j i)).bs=[] from rfl,Jt,KZ]) (λc o n1 n2 _ e=>i1 c o n1 n2 e) nx nt na R7
  exact a6 _ H7 e7 p7
 ·let⟨F6,G6,ez,ln,C,M,hh,kp,Y,tl,lc⟩:=u;rename_i p g
  subst ez;rw[(OG z0).2,sP] at Y;rw[zK] at F6 lc;exists Da kg kh H X lk ls j l D,⟨_,.mk (h:=0) F6 B ∅ ∅ hh Y ∅ lc⟩
  clear F6 G6 ln C M hh kp Y tl lc B;rintro _ _ H7 (@⟨W,g,h,Dv,_,F7,e7,l0,l1,hh,Y,tl,lc⟩);let lI:(iN g).length=g.length:=zX _;exists _,Z,Dv,_,Z,.inl (ZF.of e7),_,_,Z,Z,_,Z;rcases xG 1 g.length with h1 | h1
  ·rw[aJ (show (1:Int)<(((iN g).length:Nat):Int) by lia)]
   refine YM ⟨_,λ_ _ z=>z,?_⟩;refine⟨_,Z,.mk e7 ∅ ∅ λH8 Dq bs s8 i9 c6 lb k=>⟨Dq,Z,⟨_,ZF.of c6⟩,?_⟩⟩
   let F8:=F7.same s8;rw[lI] at lb;let⟨q0,q1,q2⟩:=Mg l0;let l3:Zz W lk Dq:=F7.sh.new i9;let lm:(bs.map V.ref).length=Yr g.length:=by rw[zX,lb]
   let a4:∀{I:ak}{i:Nat}{O:jf}{H9:Hp},Ps kg kh H H8 X W lk ls j (h+1) (λn=>g.drop (YO g.length n)) (λ_=>Yr j.length) (λn=>Zp W.ts (g.take (YO g.length n))) I i O H9->H9 Dq=some (.lst (bs.map V.ref)):=λu=>by
    let⟨_,G,_⟩:=u;exact G.fr _ _ l3 c6
   refine WT (n:=Yr g.length) (λi z=>(bs.map V.ref)[i]? = some z) (Ps kg kh H H8 X W lk ls j (h+1) (λn=>g.drop (YO g.length n)) (λ_=>Yr j.length) (λn=>Zp W.ts (g.take (YO g.length n)))) (Ym ∅)
    (λI i O H9 hi u=>⟨_,(bs.map V.ref)[i]'∅,ZF.of (a4 u),zV ∅⟩) (λI i O H9 z Ha hi u hy=>⟨hy.1,hy.2 _ (ZF.of (a4 u))⟩) (λI O H9 u=>⟨_,ZF.of (a4 u),∅⟩)
    (λI y=>.mk (X:=W) (lev:=[]) ?_ (Go.same (Zl y _)) Z Z y (F8.sh.new y) (λb k=>by cases k) (λb k=>⟨k,Z⟩) (by rw[(OG l0).1];rfl) Z ?_) (λI i O H9 z B i4 hi hz u RR a6=>?_) (λI O H9 B u=>?_)
   ·rw[(OG l0).1,vL,vJ];exact F8.same (Zl y _)
   ·rw[(OG l0).1,vL,vJ];exact lc
   ·let⟨J,G9,ez,ln,C,M,a7,kp,a0,e2,a1⟩:=u;rename_i m a2
    subst ez;rw[zC] at hz;let⟨a,ea,rfl⟩:=xZ.mp hz;let⟨na,_,e8⟩:=k i a ea;let e9:=G9.fr _ _ (F7.sh.new na) e8;let ep:Y1 (iN g) i=iN (Y1 g i):=by unfold Y1 iN;rw[zX,tP,tQ]
    rw[ep] at e9;let lp:=Ff l0 hi;let⟨_,c2,c3,c4⟩:=Ma l0 i;let c4:=c4 h1;let sb:(Y1 g i).Sublist g:=(uJ _ _).trans (rZ _ _);let bt:∀ b∈Y1 g i,b∈m.lv/\Tp m.av m.ho b:=λb k=>J.lev b (yM _ ((uJ _ _).subset k));let b7:∀ b∈Y1 g i,gd m.ts b=gd W.ts b:=λb k=>(kp b (F7.lev b (sb.subset k)).1).2;let eB:Zp m.ts (Y1 g i)=Zp W.ts (Y1 g i):=NS λb k=>by rw[b7 b k]
    let b0:(Y1 g i).getD 0 0∈Y1 g i:=by rw[zU,zV ∅];exact xN _
    let bh:∀ b∈Y1 g i,(gd m.ts b).h=h:=λb k=>by rw[b7 b k];exact hh b (sb.subset k)
    let Ub:Up (Zp m.ts (Y1 g i)):=by
     rw[eB];refine wL.sublist (zEG.map _ ?_) U;rw[<-Y];exact ZJY sb
    let ov:over (YJ m.ts (Y1 g i))=some (Zy (Y3 m.ts (Y1 g i))):=JU (h:=h) (λb k=>⟨(J.fst.wf b (bt b k).1).ne,bh b k⟩) ∅ ∅ Ub
    let⟨dS,hS⟩:=J.sh.sh.self;rw[J.S] at hS;exists _,Z,X.S,dS,_,Z,hS,Z,_,Z;rw[<-J.S];exists m.S,m.d,lk,a,m.lv,m.ts,m.av,m.ho,m.as,m.kvs,ls,Y1 g i,_,Z,J.sh,J.fst.wf,(by have:=J.all;lia),λb k=>⟨(bt b k).1,xH (bt b k).2.2.symm,by rw[(bt b k).2.1];exact zM _⟩,e9,ov
    intro Ha a' nx nt na i2 Ra;let th:(Y3 m.ts (Y1 g i)).h=h+1:=by show (gd m.ts _).h+1=_;rw[bh _ b0]
    let⟨e4,l5⟩:=Ps.step (rs:=j) (h:=h+1) (old:=λn=>g.drop (YO g.length n)) (c0:=λ_=>Yr j.length) (cut:=λn=>Zp W.ts (g.take (YO g.length n))) (λc o f e=>ZZ (F8.fr c o id f e).1 C) J G9 ln C M B a7 kp a0 e2 a1 (t:=Y3 m.ts (Y1 g i)) (a:=a') (kvs':=Yj m.kvs (.inl (m.ts.length:Int)) (.ref a'.x)) (EK J.fst.wf (λb k=>(bt b k).1) ov) (by show (g.drop (YO g.length i)).Perm (Y1 g i++g.drop (YO g.length (i+1)));rw[C8 l0 i]) th (by show Zp W.ts _++Zp m.ts (Y1 g i)=_;rw[eB,<-PL,Ct l0 i]) (by rw[aK ∅];rfl) Z i2 nx nt na Ra
    exact a6 _ Ha e4 l5
   ·let⟨J,G9,ez,ln,C,M,a7,kp,a0,e2,a1⟩:=u;rename_i m a2
    subst ez;rw[(OG l0).2,sP] at a0;rw[(OG l0).2,List.drop_length,zK] at J a1;refine⟨a2.length,∅,.mk (h:=h+1) J B ∅ ∅ a7 (a0.trans Y) ∅ a1⟩
  ·rw[aI (show ¬ (1:Int)<(((iN g).length:Nat):Int) by lia)]
   obtain⟨b,eb⟩:∃ b,g=[b]:=by
    match g,l0,h1 with
    | [b],_,_=>exact⟨b,Z⟩
   subst eb;let⟨gw,tf⟩:=F7.gw (r:=some b) Z;refine Zo ⟨_,Z,_,Z,.inl ⟨Dv,_,0,.int (b:Nat),Z,Z,ZF.of e7,Z,?_⟩⟩;rw[<-F7.S];refine KK (X:=W) (r:=some b) tf λH8 T s8 nT hT=>?_;refine q H8 W T (some b) (F7.go.trans (Go.same s8)) hT (λc o f e=>ZZ (F7.fr c o id f e).1 nT) (F7.sh.new nT) (tf.same s8) ?_ gw ?_ ∅
   ·rw[<-Y,V9];exact(zK _).symm
   ·rw[<-lc];unfold NX;rw[zB,xM,zK];rfl
end
def GF:Option aC->jE
 | some (.While _ b _ _)=>b
 | _=>[]
abbrev Ek:jp:=["_law_well_here","_law_shelf","_law_rows_here","_law_few","_law_level","_law_at","_law_size","_law_above"]
theorem UY:ZB Ek zEb (Zc NR):=Zs
def N0:List Stmt:=GF ((GF ((Ws NR)[4]?))[2]?)
structure Ov(kg kh:ak)(H0 H:Hp)(X0 X:Za)(p lk:ak)(ls:jf)(Lv Ab:ak)(lev ab:jk)(h n m0:Nat)(rs:jr):Prop where
 fo:Fo kg kh H0 H X0 X p lk ls (ab++lev.drop n)
 lv:VB H0 H X p lk Lv (iN lev)
 av:VB H0 H X p lk Ab (iN ab)
 ne:Lv≠Ab
 hl:∀ b∈lev,b∈X.lv/\(gd X.ts b).h=h
 ha:∀ b∈ab,(gd X.ts b).h=h+1
 rows:Zp X.ts ab++Zp X.ts (lev.drop n)=rs
 few:2 * ab.length<=n
 le:n<=lev.length
 cnt:X.ts.length=m0+ab.length
theorem tr2{cdv:aj}{A:ax}{outer:jz}{s:am}{Hs:Hp}{E:XK}(T:Yd mg)(L:Yg K mg kg kh)(DS:ZC P w K mg kj ZM 10 kg "put_stem" zEf (Yc kg kh))(hr:ZU 10 (A.deeper (envOfC "_law_tree" (Zc NR) s.heap.objs.size f cdv))):
  ∃ t,Wj (Vc ZM P w K mg kj Ek "_law_tree" (Zc NR) f cdv A outer s Hs E).nox (N0.drop 2) t/\∀(G:Y0)(R H:Hp)(u X:Za)(p J l q m:ak)(M:jf)(I:Int)(c j:jk)(h n O g:Nat)(D:jr),
   Ov kg kh R H u X p J M q m c j h n O D->Up D->2<=g->g<=4->n+g<=c.length->c.length<=200->X.ts.length<=300 ->
    (∀(H':Hp)(X':Za)(N:Nat),Ov kg kh R H' u X' p J M q m c (j++[N]) h (n+g) O D->G.nx [some (.ref p),some (.ref u.S),some (.ref l),some (.int I),some (.ref q),some (.int ((n+g:Nat):Int)),some (.int (g:Int)),some (.ref m)] H') ->
     t G [some (.ref p),some (.ref u.S),some (.ref l),some (.int I),some (.ref q),some (.int (n:Int)),some (.int (g:Int)),some (.ref m)] H:=by
 let nd:=UY.nd;refine⟨_,ZL (XT (Qo xL vS vR OB (pv 7) (ZS (YV (E:=E0) (pv 1) L.cS DS hr YC (ZS (PJ PU (pv 4) (QD (pv 5)) (QD (Zj Xg (pv 5) (pv 6)))))))))
  (ZR (Ze 5 nd (Zj Xg (pv 5) (pv 6)))),λG R H u X p J l q m M I c j h n O g D r U z2 z4 zl a7 t3 a0=>?_⟩
 let F:=r.fo;let⟨dS,hS⟩:=F.sh.sh.self;rw[F.S] at hS;exists _,Z,.inl ⟨Z,_,ZF.of r.av.at_⟩,_,Z,u.S,dS,_,Z,hS,Z,_,Z,_,Z,_,Z,_,Z,_,Z,_,_,Z,Z,_,Z,q,iN c,Z,ZF.of r.lv.at_;intro Q n1;let lI:(iN c).length=c.length:=zX _;rw[Jm (iN c) n g ∅] at *
 let eq:((iN c).drop n).take g=iN ((c.drop n).take g):=by unfold iN;rw[tP,tQ]
 rw[eq] at *;let⟨H1,eU,g1,h1⟩:=YD n1 (.lst (iN ((c.drop n).take g)));rw[eU];let F1:=F.same g1;let ld:(c.drop n).length=c.length-n:=xQ;let lb:((c.drop n).take g).length=g:=by rw[yJ];lia
 let sp:(c.drop n).take g++c.drop (n+g)=c.drop n:=by rw[<-wD];exact yD g _
 generalize a6:(c.drop n).take g=o at *;let mb:∀ b∈o,b∈c.drop n:=λb i=>by rw[<-sp];exact yL _ i
 let ml:∀ b∈o,b∈c:=λb i=>uG (mb b i);let v:∀ b∈o,b∈X.lv/\Tp X.av X.ho b:=λb i=>F.lev b (yM _ (mb b i));let a5:Zp X.ts (c.drop n)=Zp X.ts o++Zp X.ts (c.drop (n+g)):=by rw[<-PL,sp]
 let Y:=r.rows;rw[a5] at Y;let Ub:Up (Zp X.ts o):=by
  refine wL.sublist (zEG.map _ ?_) U;rw[<-Y];exact((qA _ _).trans (rA _ _))
 let ov:over (YJ X.ts o)=some (Zy (Y3 X.ts o)):=JU (h:=h) (λb i=>⟨(F.fst.wf b (v b i).1).ne,(r.hl b (ml b i)).2⟩) ∅ ∅ Ub
 let⟨_,_,_,_,a2,_,_⟩:=K2 F.fst.wf (λb i=>(v b i).1) ov;rw[<-F.S];exists X.S,X.d,J,Q,X.lv,X.ts,X.av,X.ho,X.as,X.kvs,M,o,_,Z,F1.sh,F.fst.wf,by have:=F.all;lia,λb i=>⟨(v b i).1,xH (v b i).2.2.symm,by rw[(v b i).2.1];exact zM _⟩,h1,ov
 intro B a nx nt na a1 R2;let a3:(j++c.drop n).Perm ((Y3 X.ts o).bs++(j++c.drop (n+g))):=by
  show (j++c.drop n).Perm (o++(j++c.drop (n+g)));rw[<-sp,<-yQ,<-yQ];exact(tW).append_right _
 let a4:(j++[X.ts.length]++c.drop (n+g)).Perm (X.ts.length::(j++c.drop (n+g))):=by
  rw[yQ];exact sQ
 let⟨F2,G2⟩:=F1.put (t:=Y3 X.ts o) (a:=a) (kvs':=Yj X.kvs (.inl (X.ts.length:Int)) (.ref a.x)) (EK F.fst.wf (λb i=>(v b i).1) ov) a3 a4 Z a1 nx nt na R2;let y:=(r.av.same g1).go G2;let V2:=(r.lv.same g1).go G2;let a8:=r.few;exists m,_,.int (X.ts.length:Nat),Z,Z,y.at_,Ym (by unfold iN;rw[zX];lia)
 let sX:ZK m B (upd B m (.lst (iN j++[.int (X.ts.length:Nat)]))):=(ZK.refl m B).upd;let F3:=F2.write y sX;let eI:iN j++[.int (X.ts.length:Nat)]=iN (j++[X.ts.length]):=by unfold iN;rw[zD];rfl
 let e3:upd B m (.lst (iN j++[.int (X.ts.length:Nat)])) m=some (.lst (iN (j++[X.ts.length]))):=by rw[ZX,eI]
 let V3:=V2.but sX r.ne;generalize upd B m (.lst (iN j++[.int (X.ts.length:Nat)]))=H3 at sX F3 e3 V3⊢;exists _,Z,_,Z,_,_,Z,Z;let e:((n:Int)+(g:Int))=((n+g:Nat):Int):=∅
 suffices k:G.nx [some (.ref p),some (.ref u.S),some (.ref l),some (.int I),some (.ref q),some (.int ((n+g:Nat):Int)),some (.int (g:Int)),some (.ref m)] H3 by
  rw[<-e,<-F.S] at k;exact k
 let C:∀ b∈j,b<X.ts.length:=λb i=>F.sh.lt b (F.lev b (yL _ i)).1;let W:∀ b∈c.drop (n+g),b<X.ts.length:=λb i=>F.sh.lt b (r.hl b (uG i)).1;refine a0 H3 _ X.ts.length ⟨F3,V3,⟨e3,y.off,y.new,y.ne⟩,r.ne,λb i=>?_,λb i=>?_,?_,?_,zl,?_⟩
 ·let⟨Q,q2⟩:=r.hl b i;exact⟨yL _ Q,by show (gd (X.ts++[_]) b).h=h;rw[QU (F.sh.lt b Q)];exact q2⟩
 ·show (gd (X.ts++[_]) b).h=h+1;rcases yW.mp i with z | z
  ·rw[QU (C b z)];exact r.ha b z
  ·rw[zH.mp z,UR];let⟨x,hx⟩:=List.exists_mem_of_length_pos (show 0<o.length by lia)
   have:=a2 x hx;have:=(r.hl x (ml x hx)).2
   lia
 ·show Zp (X.ts++[_]) (j++[X.ts.length])++Zp (X.ts++[_]) (c.drop (n+g))=D;rw[PL,Ll C,Ll W,V9,UR];rw[<-Y];show Zp X.ts j++(Zp X.ts o++[])++_=_;rw[zK,yQ]
 ·rw[zW,vY];lia
 ·show (X.ts++[_]).length=O+(j++[X.ts.length]).length;rw[zW,zW,r.cnt];simp
  lia
theorem Fo.tups{b f:ak}{g H:Hp}{a X:Za}{p j:ak}{n i:jf}{h:jk}(F:Fo b f g H a X p j n h)(k:Zq b f g a.S a.d j a.lv a.ts a.av a.ho a.as a.kvs i)(l:ZW g p):Zt g H:=λc o e=>by
 let⟨_,_,_,_,m,_⟩:=l.ex;exact(F.fr c _ (ZV e m) (k.off e (by intro _ _ _ z;cases z) (by intro _ z;cases z) (by intro _ z;cases z)) e).1
inductive VY(kg kh:ak):Sp
 |mk{X:Za}{lk p l:ak}{ls us:jf}{rs:jr}{H:Hp}{Q:VK}{E:XK}:ZW H p->Zq kg kh H X.S X.d lk X.lv X.ts X.av X.ho X.as X.kvs ls->X.ts=[]->X.lv=[]->Zz X lk p->Zz X lk l->H l=some (.lst us)->jX H (Z6 rs) us->Up rs->(∀ x∈rs,x.fit)->rs.length<=61->l≠p ->
  (∀(H':Hp)(X':Za)(r:js),ZW H' p->X'.S=X.S->(∀ c o,c≠p->Zz X lk c->H c=some o->H' c=some o/\Zz X' lk c)->Zz X' lk p->Tf kg kh H' X' lk ls r->Yp X'.ts r=rs->X'.ts.length<=130->Gw X X' r->Q (YR r) H')->VY kg kh [.ref p,.ref X.S,.ref l] H Q E
inductive IF(kg kh:ak)(H0:Hp)(X0:Za)(p lk l:ak)(ls:jf)(Lv:ak)(fw:Int)(rs:jr):Nat->L2.St->Hp->Prop
 |mk{n:Nat}{lev:jk}{X:Za}{x6 x7:jg}{H':Hp}:Fo kg kh H0 H' X0 X p lk ls lev->VB H0 H' X p lk Lv (iN lev)->(∀ b∈lev,(gd X.ts b).h=0)->Zp X.ts lev=rs.take n->X.ts.length=lev.length->lev.length<=(rs.take n).length ->
  IF kg kh H0 X0 p lk l ls Lv fw rs (rs.length-n) [some (.ref p),some (.ref X0.S),some (.ref l),some (.int fw),some (.ref Lv),some (.int (n:Int)),x6,x7] H'
inductive Fe(kg kh:ak)(H0:Hp)(X0:Za)(p lk l:ak)(ls:jf)(fw:Int)(rs:jr):Nat->L2.St->Hp->Prop
 |mk{h:Nat}{lev:jk}{X:Za}{Lv:ak}{x5 x6 x7:jg}{H':Hp}:Fo kg kh H0 H' X0 X p lk ls lev->VB H0 H' X p lk Lv (iN lev)->(∀ b∈lev,(gd X.ts b).h=h)->Zp X.ts lev=rs->X.ts.length+lev.length<=130 ->
  Fe kg kh H0 X0 p lk l ls fw rs lev.length [some (.ref p),some (.ref X0.S),some (.ref l),some (.int fw),some (.ref Lv),x5,x6,x7] H'
inductive HB(kg kh:ak)(H0:Hp)(X0:Za)(p lk l:ak)(ls:jf)(Lv Ab:ak)(fw:Int)(lev:jk)(h m0:Nat)(rs:jr):Nat->L2.St->Hp->Prop
 |mk{n:Nat}{ab:jk}{X:Za}{x6:jg}{H':Hp}:Ov kg kh H0 H' X0 X p lk ls Lv Ab lev ab h n m0 rs->lev.length-n≠1 ->
  HB kg kh H0 X0 p lk l ls Lv Ab fw lev h m0 rs (lev.length-n) [some (.ref p),some (.ref X0.S),some (.ref l),some (.int fw),some (.ref Lv),some (.int (n:Int)),x6,some (.ref Ab)] H'
theorem ZNv(F0:Zg K "_law_tree" "_law_tree" NR f fd)(T:Yd mg)(L:Yg K mg kg kh)(DP:ZA P w K mg kj 1 "_law_pull" zEe YA)(DL:ZC P w K mg kj ZM 10 kg "put_leaf" zEz (XI kg kh))(DS:ZC P w K mg kj ZM 10 kg "put_stem" zEf (Yc kg kh)):ZI P w K mg kj ZM 11 f fd zEb (VY kg kh):=by
 refine F0.ok UY (λvs H Q E h=>(by cases h;rfl)) (λcdv A outer s H vs Q E hr h=>?_)
 let⟨W,R,t0,v0,oP,oL,hl,kr,U,rf,r40,lp,q⟩:=h;rename_i X0 lk p l ls us rs
 let nd:=UY.nd;let hr1:=hr.mono (show 1<=10 from nofun)
 let⟨tt,ht,hk⟩:=tr2 (kg:=kg) (kh:=kh) (P:=P) (w:=w) (K:=K) (kj:=kj) (f:=f) (cdv:=cdv) (A:=A) (outer:=outer) (s:=s) (Hs:=H) (E:=E) T L DS hr;intro Xc;refine⟨_,ZL (Ze 3 nd (Zf DP hr1 (Zx (pv 0) ZJ)))
  (ZL (Ze 4 nd (Yk Zu))
  (ZL (Ze 5 nd ZJ)
  (ZL (P5 PassesOwn.never (Yb Ol (pv 5) (YG Xd rfl T.len XG (ZS (pv 2))) (Z8 _))
   (ZL (Ze 6 nd (Zj Xg ZJ (Zf DP hr1 (Zx (pv 0) (YX K (Yk (Uu ZJ ZJ ZJ ZJ)) (pv 3))))))
   (ZL (XT (Qo xL vS vR OB (pv 4) (ZS (YV (E:=E0) (pv 1) L.cS DL hr YC (ZS (Vf Pb rfl T.list Pe (ZS (PJ PU (pv 2) (QD (pv 5)) (QD (Zj Xg (pv 5) (pv 6)))))))))))
   (ZR (Ze 5 nd (Zj Xg (pv 5) (pv 6)))))))
  (ZL (P5 PassesOwn.never (Yb Pp (YG Xd rfl T.len XG (ZS (pv 4))) ZJ (Z8 _))
   (ZL (Ze 7 nd (Yk Zu))
   (ZL (Ze 5 nd ZJ)
   (ZL (P5 PassesOwn.never (Yb Ol (pv 5) (YG Xd rfl T.len XG (ZS (pv 4))) (Z8 _))
    (ZL (Ze 6 nd (YG (Al rfl) rfl T.min ZOV (Zx (Zj Xg ZJ (Zf DP hr1 (Zx (pv 0) (YX K (Yk (Uu ZJ ZJ ZJ ZJ)) (pv 3))))) (Zj Vg (YG Xd rfl T.len XG (ZS (pv 4))) (pv 5)))))
    (ZL (Z1 (Yb UD (Zj Vg (Zj Vg (YG Xd rfl T.len XG (ZS (pv 4))) (pv 5)) (pv 6)) ZJ (Z8 _))
     (ZR (Ze 6 nd (YX K (Yk (Zx (Zj Vg (pv 6) ZJ) (Zj Xg (pv 6) ZJ))) (Vf J9 rfl T.int NP (ZS (Ud UD (pv 6) ZJ (Z8 _))))))) Z2) ht)))
   (ZR (Ze 4 nd (pv 7)))))))
  (ZR (Zh (YX K (Zj Ph (pv 4) (Yk (ZS Nq))) ZJ))))))),?_⟩
 exists _,Z,p,4,Z,W,Wn (by decide) (by decide)
 intro fw H1 f0 f4 W1 s1;exists YE;intro Lv nLv;let fs0:VT X0.lv X0.ts X0.av X0.ho:=⟨(λi hi=>by rw[v0] at hi;cases hi),by rw[v0];exact uS,λi hi=>by rw[v0] at hi;cases hi⟩
 let F0':Fo kg kh H H X0 X0 p lk ls []:=⟨W,Fg.nil R fs0 (by rw[v0];exact .nil),oP⟩
 let F1:=F0'.pull s1 W1;let⟨H2,eU,g2,h2⟩:=YD nLv (.lst []);rw[eU];let F2:=F1.same g2;let nLv0:H Lv=none:=by
  cases z:H Lv with
  | none=>rfl
  | some o=>
   let⟨_,_,_,_,ep,_⟩:=W1.ex;rw[s1 _ _ z (λy=>by rw[y,ep] at nLv;cases nLv)] at nLv
   cases nLv
 let V2:VB H H2 X0 p lk Lv (iN []):=F1.fresh nLv nLv0 h2;let kT:∀{H':Hp}{X':Za}{lev:jk},Fo kg kh H H' X0 X' p lk ls lev->H' l=some (.lst us)/\jX H' (Z6 rs) us:=λF=>⟨(F.fr l _ lp oL hl).1,kr.mono (F.tups R W) _ _⟩;let lu:us.length=rs.length:=by have:=kr.length;rw[<-this];exact zX _
 exists IF kg kh H X0 p lk l ls Lv fw rs,⟨_,.mk (n:=0) (lev:=[]) (x6:=none) (x7:=none) F2 V2 (λb hb=>by cases hb) Z (by rw[t0];rfl) (zM _)⟩
 rintro _ _ H3 (@⟨n,lev,X,x6,x7,_,F,V,h0,er,el,le⟩);let⟨hl3,k3⟩:=kT F;exists _,Z,_,Z,l,us,Z,.inl (ZF.of hl3),_,_,Z,Z,_,Z;rcases xG n us.length with hn | hn
 ·rw[aJ (show (n:Int)<(us.length:Int) from nofun)]
  refine YM ⟨_,λ_ _ z=>z,?_⟩;exists _,Z,YE;intro q1 nq;let⟨H4,eU,g4,e4⟩:=YD nq (.lst [.int 4,.int 1,.int 2,.int 4]);rw[eU];let F4:=F.same g4;let⟨m1,am1,m10,m14⟩:=Cp (q:=q1) (a:=4) (b:=1) (c:=2) (d:=4) f0 f4 1 4 (by decide) (by decide) (by decide) (by decide)
  refine⟨_,Z,.inl ⟨q1,_,_,_,Z,Z,ZF.of e4,am1,p,m1,Z,F4.w,Wn nofun nofun,λz1 H5 z10 z11 W5 s5=>⟨_,_,Z,Z,?_⟩⟩⟩
  let F5:=F4.pull s5 W5;let V5:=(V.same g4).pull s5;obtain⟨sz,hsz⟩:∃ sz:Nat,1+z1=(sz:Int):=⟨(1+z1).toNat,nofun⟩
  first | rw[show (λi j:Int=>L2.V.int (i+j)) 1 z1=L2.V.int (sz:Int) from congrArg L2.V.int hsz] | rw[hsz]
  let⟨hl5,k5⟩:=kT F5;let⟨dS,hS⟩:=F5.sh.sh.self;rw[F5.S] at hS;exists _,Z,.inl ⟨Z,_,ZF.of V5.at_⟩,_,Z,X0.S,dS,_,Z,hS,Z,_,Z,_,Z,_,Z,_,Z,_,Z,_,_,Z,Z,_,Z,l,us,Z,ZF.of hl5;intro q2 n2;rw[Jm us n sz nofun] at *
  let⟨H6,eU,g6,e6⟩:=YD n2 (.lst ((us.drop n).take sz));rw[eU];exists q2,_,Z,.inl (ZF.of e6);intro q3 n3;let⟨H7,eU,g7,e7⟩:=YD n3 (.lst ((us.drop n).take sz));rw[eU];let F7:=(F5.same g6).same g7;let V7:=(V5.same g6).same g7;let k7:jX H7 (Z6 ((rs.drop n).take sz)) ((us.drop n).take sz):=by
   rw[(P2 _ sz).1,(P2 rs n).2];exact((k5.drop n).take sz).sm (g6.trans g7)
  let lq:((rs.drop n).take sz).length=min sz (rs.length-n):=by rw[yJ,xQ]
  let lt1:1<=min sz (rs.length-n):=Nat.le_min.mpr ⟨nofun,nofun⟩
  let lt4:min sz (rs.length-n)<=4:=zO (Nat.min_le_left _ _) nofun
  let sb:((rs.drop n).take sz).Sublist rs:=(uJ _ _).trans (rZ _ _);let G:WD ((rs.drop n).take sz):=KU (λx hx=>rf x (sb.subset hx)) (wL.sublist (sb.map _) U) nofun nofun
  let ltk:(rs.take n).length<=61:=by rw[yJ];lia (splits:=8)
  rw[<-F7.S];exists X.S,X.d,lk,q3,X.lv,X.ts,X.av,X.ho,X.as,X.kvs,ls,_,(rs.drop n).take sz,Z,F7.sh,by have:=F7.all;lia (splits:=8),e7,k7,G
  intro H8 a nx nt na fr8 R8;let⟨F8,G8⟩:=F7.put (t:=VE ((rs.drop n).take sz)) (a:=a) (kvs':=Yj X.kvs (.inl (X.ts.length:Int)) (.ref a.x)) (X':=⟨X.S,X.d,X.lv++[X.ts.length],X.ts++[VE ((rs.drop n).take sz)],W9 X.ts.length X.av,Wy X.ts.length X.ho,X.as++[a],Yj X.kvs (.inl (X.ts.length:Int)) (.ref a.x)⟩) (lev':=lev++[X.ts.length]) (rest:=lev) (Lx G) (xI.refl _) (qP _ _) (by rw[show (VE ((rs.drop n).take sz)).bs=[] from rfl,Jt,KZ]) (λc o n1 n2 _ e=>fr8 c o n1 n2 e) nx nt na R8
  let V8:=V7.go G8;exists Lv,_,.int (X.ts.length:Nat),Z,Z,V8.at_,Ym (by unfold iN;rw[zX];lia (splits:=8))
  let sX:ZK Lv H8 (upd H8 Lv (.lst (iN lev++[.int (X.ts.length:Nat)]))):=(ZK.refl Lv H8).upd;let F9:=F8.write V8 sX;let eI:iN lev++[.int (X.ts.length:Nat)]=iN (lev++[X.ts.length]):=by unfold iN;rw[zD];rfl
  let e9:upd H8 Lv (.lst (iN lev++[.int (X.ts.length:Nat)])) Lv=some (.lst (iN (lev++[X.ts.length]))):=by rw[ZX,eI]
  generalize upd H8 Lv (.lst (iN lev++[.int (X.ts.length:Nat)]))=H9 at sX F9 e9⊢;exists _,Z,_,Z,_,_,Z,Z;let e:((n:Int)+(sz:Int))=((n+sz:Nat):Int):=nofun
  let alt:∀ b∈lev,b<X.ts.length:=λb hb=>F.sh.lt b (F.lev b hb).1;exists rs.length-(n+sz),nofun
  suffices k:IF kg kh H X0 p lk l ls Lv fw rs (rs.length-(n+sz)) [some (.ref p),some (.ref X0.S),some (.ref l),some (.int fw),some (.ref Lv),some (.int ((n+sz:Nat):Int)),some (.int (sz:Int)),x7] H9 by
   rw[<-e,<-F7.S] at k;exact k
  refine .mk F9 ⟨e9,V8.off,V8.new,V8.ne⟩ (λb hb=>?_) ?_ ?_ ?_
  ·show (gd (X.ts++[_]) b).h=0;rcases yW.mp hb with z | z
   ·rw[QU (alt b z)];exact h0 b z
   ·rw[zH.mp z,UR];rfl
  ·show Zp (X.ts++[_]) (lev++[X.ts.length])=rs.take (n+sz);rw[PL,Ll alt,V9,UR,er,tO];show _++((rs.drop n).take sz++[])=_;rw[zK]
  ·show (X.ts++[_]).length=(lev++[X.ts.length]).length;rw[zW,zW,el];rfl
  ·rw[zW,vY,tO,zW,lq]
   lia (splits:=8)
 rw[aI (show ¬ (n:Int)<(us.length:Int) from nofun)]
 rw[zE nofun] at er le
 refine Zo ?_;exists Fe kg kh H X0 p lk l ls fw rs,⟨_,.mk F V h0 er nofun⟩
 clear h0 er el le;rintro _ _ H4 (@⟨h,lev,X,Lv,x5,x6,x7,_,F,V,hh,er,l80⟩);let lI:(iN lev).length=lev.length:=zX _;exists _,Z,Lv,_,Z,.inl (ZF.of V.at_),_,_,Z,Z,_,Z;rcases xG 1 lev.length with h1 | h1
 ·rw[aJ (show (((iN lev).length:Nat):Int) > 1 from nofun)]
  refine YM ⟨_,λ_ _ z=>z,?_⟩;exists YE;intro Ab nAb;let⟨H5,eU,g5,e5⟩:=YD nAb (.lst []);rw[eU];let nAb0:H Ab=none:=by
   cases z:H Ab with
   | none=>rfl
   | some o=>
    let⟨_,_,_,_,ep,_⟩:=F.w.ex;let⟨⟨dS,hS⟩,hd,hlk⟩:=F.sh.sh;let n1:Ab≠p:=λy=>by rw[y,ep] at nAb;cases nAb
    let n2:Ab≠X0.S:=λy=>by rw[y,<-F.S,hS] at nAb;cases nAb
    let n3:Ab≠X0.d:=λy=>by rw[y,<-F.d,hd] at nAb;cases nAb
    let n4:Ab≠lk:=λy=>by rw[y,hlk] at nAb;cases nAb
    have:=(F.fr Ab o n1 ⟨n2,n3,n4,λi hi=>by rw[v0] at hi;cases hi⟩ z).1
    rw[nAb] at this;cases this
  let A5:VB H H5 X p lk Ab (iN []):=F.fresh nAb nAb0 e5;let LA:Lv≠Ab:=λy=>by have:=V.at_;rw[y,nAb] at this;cases this
  exists HB kg kh H X0 p lk l ls Lv Ab fw lev h X.ts.length rs,⟨_,.mk (n:=0) (ab:=[]) (x6:=x6) ⟨F.same g5,V.same g5,A5,LA,λb hb=>⟨(F.lev b hb).1,hh b hb⟩,(λb hb=>by cases hb),er,zM _,zM _,Z⟩ nofun⟩
  generalize hm0:X.ts.length=m0 at l80;let V0:=V;clear V F hh er A5 hm0;rintro _ _ H6 (@⟨n,ab,X,x6,_,r,hre⟩);let F:=r.fo;exists _,Z,_,Z,Lv,_,Z,.inl (ZF.of r.lv.at_),_,_,Z,Z,_,Z;let lef:=r.le;let fewf:=r.few;let cntf:=r.cnt;rcases xG n lev.length with hn | hn
  ·rw[aJ (show (n:Int)<(((iN lev).length:Nat):Int) from nofun)]
   refine YM ⟨_,λ_ _ z=>z,?_⟩;let R2:(2:Int)<=(((iN lev).length:Nat):Int)-(n:Int):=nofun
   let go:∀{D0:Y0}{H7:Hp}(y:Int),Ov kg kh H H7 X0 X p lk ls Lv Ab lev ab h n m0 rs->2<=y->y<=4->y<=(lev.length:Int)-n->(lev.length:Int)-n-y≠1->(∀ σ' H',(∃ m',m'<lev.length-n/\HB kg kh H X0 p lk l ls Lv Ab fw lev h m0 rs m' σ' H')->D0.nx σ' H') ->
     tt D0 [some (.ref p),some (.ref X0.S),some (.ref l),some (.int fw),some (.ref Lv),some (.int (n:Int)),some (.int y),some (.ref Ab)] H7:=fun{D0 H7} y r7 y2 y4 yl yn fin=>by
    obtain⟨sz,rfl⟩:∃ sz:Nat,y=(sz:Int):=⟨y.toNat,nofun⟩
    exact hk D0 H H7 X0 X p lk l Lv Ab ls fw lev ab h n m0 sz rs r7 U nofun nofun nofun nofun nofun λH8 X8 N r8=>fin _ _ ⟨lev.length-(n+sz),nofun,.mk r8 nofun⟩
   exists _,Z,YE;intro q2 nq2;let⟨H7,eU,g7,e7⟩:=YD nq2 (.lst [.int 3,.int 1,.int 3,.int 2]);rw[eU];let⟨m2,am2,m20,m24⟩:=Cp (q:=q2) (a:=3) (b:=1) (c:=3) (d:=2) f0 f4 1 3 (by decide) (by decide) (by decide) (by decide)
   let gr:∀{H8:Hp},ZD H7 H8->Ov kg kh H H8 X0 X p lk ls Lv Ab lev ab h n m0 rs:=λs=>⟨(r.fo.same g7).same s,(r.lv.same g7).same s,(r.av.same g7).same s,r.ne,r.hl,r.ha,r.rows,r.few,r.le,r.cnt⟩;refine⟨_,Z,.inl ⟨q2,_,_,_,Z,Z,ZF.of e7,am2,p,m2,Z,(F.same g7).w,Wn nofun nofun,λz2 H8 z20 z21 W8 s8=>⟨_,_,Z,Z,?_⟩⟩⟩
   let r8:Ov kg kh H H8 X0 X p lk ls Lv Ab lev ab h n m0 rs:=⟨(r.fo.same g7).pull s8 W8,(r.lv.same g7).pull s8,(r.av.same g7).pull s8,r.ne,r.hl,r.ha,r.rows,r.few,r.le,r.cnt⟩;exists _,Z,Lv,_,Z,.inl (ZF.of r8.lv.at_),_,Z,_,_,Z,Z,_,_,Z;obtain⟨y,ey,y1,y2,y3⟩:∃ y:Int,(if (((iN lev).length:Nat):Int)-(n:Int)<2+z2 then (((iN lev).length:Nat):Int)-(n:Int) else 2+z2)=y/\2<=y/\y<=4/\y<=(((iN lev).length:Nat):Int)-(n:Int):=⟨_,Z,As R2 nofun,ZPY nofun,ite_le'⟩
   rw[ey];exists _,Z,Lv,_,Z,.inl (ZF.of r8.lv.at_),_,Z,_,_,Z,Z,_,Z,_,_,Z,Z,Z,_,Z;by_cases hy:(((iN lev).length:Nat):Int)-(n:Int)-y=1
   ·rw[aJ (congrArg L2.V.int hy)];refine YM ⟨_,Z,_,_,Z,Z,_,Z,_,_,Z,Z,YE,λq3 nq3=>?_⟩;let⟨H9,eU,g9,e9⟩:=YD nq3 (.lst [.int (y-1),.int (y+1)]);let eU:upd H8 q3 (.lst [(λi j:Int=>L2.V.int (i-j)) y 1,(λi j:Int=>L2.V.int (i+j)) y 1])=H9:=eU;rw[eU];let r9:Ov kg kh H H9 X0 X p lk ls Lv Ab lev ab h n m0 rs:=⟨r8.fo.same g9,r8.lv.same g9,r8.av.same g9,r.ne,r.hl,r.ha,r.rows,r.few,r.le,r.cnt⟩;refine⟨_,Z,Z,.inr ⟨_,Z,?_⟩⟩;by_cases h2:y=2
    ·subst h2;refine .inl ⟨q3,_,_,.int (2+1),Z,Z,ZF.of e9,Z,?_⟩;exact go (2+1) r9 nofun nofun nofun nofun λ_ _ z=>z
    ·let ed:decide (L2.V.int y=L2.V.int 2)=false:=aI λz=>h2 (O6 z);rw[ed];refine .inl ⟨q3,_,_,.int (y-1),Z,Z,ZF.of e9,Z,?_⟩;exact go (y-1) r9 nofun nofun nofun nofun λ_ _ z=>z
   ·rw[aI (λz=>hy (O6 z))];exact Zo (go y r8 nofun nofun nofun nofun λ_ _ z=>z)
  ·rw[aI (show ¬ (n:Int)<(((iN lev).length:Nat):Int) from nofun)]
   refine Zo ⟨_,Z,?_⟩;let ed:lev.drop n=[]:=uZ nofun
   let F':=r.fo;let er:=r.rows;rw[ed,zK] at F';rw[ed,show Zp X.ts []=[] from rfl,zK] at er;exact⟨ab.length,nofun,.mk F' r.av r.ha er nofun⟩
 ·rw[aI (show ¬ (((iN lev).length:Nat):Int) > 1 from nofun)]
  refine Zo ⟨_,Z,YE,λq1 n1=>?_⟩;let⟨H5,eU,g5,e5⟩:=YD n1 (.lst [.non]);rw[eU];exists Lv,q1,_,_,Z,Z,g5 _ _ V.at_,e5,nn (by rw[lI];simp;lia (splits:=8))
  intro q2 n2;let⟨H6,eU,g6,e6⟩:=YD n2 (.lst (iN lev++[.non]));rw[eU];let F6:=(F.same g5).same g6;let fin:∀ r:js,lev=r.toList->Yp X.ts r=rs->Q (YR r) H6:=λr h1 h2=>by
   let⟨g1,g2⟩:=F6.g.gw h1;exact q H6 X r F6.w F6.S F6.fr F6.op g2 h2 nofun g1
  cases lev with
  | nil=>exact .inl ⟨q2,_,0,.non,Z,Z,ZF.of e6,Z,fin none Z er⟩
  | cons b lev'=>
   cases lev' with
   | nil=>
    refine .inl ⟨q2,_,0,.int (b:Nat),Z,Z,ZF.of e6,Z,fin (some b) Z ?_⟩;rw[<-er,V9];exact(zK _).symm
   | cons c m=>simp at h1
inductive Pu(c:zZ)(x y:V)(H:Hp)(Q:VK):Prop
 |mk(p:ak)(b:jf)(a:jo)(k:KT)(_:y=.ref p)(_:ZF c H p b)(_:jX H a b)(_:ZE H k x)(_:∀ t∈a,t.depth<=100)(_:Q (.bl (a.any λt=>t.eqb k)) H)
theorem ZPK{Y:Nat}(U:ZU Y X.A):Y4 X (az .In) (Pu X.K):=by
 intro M s σ H x y v u Q I rx ry h;let⟨p,N,w,k,rfl,T,L,kx,S,q⟩:=h;cases ry;let⟨a,r,pl,J⟩:=I.list T;let un:=U.un;let c:∀ j y,a[j]? = some y->∃ t,w[j]? = some t/\ZH s.heap t y:=λj y d=>by
  let lr:=r.length;let hl:=(yZ.mp d).1;let G:N[j]? = some (N[j]'∅):=zV ∅
  let⟨u1,b,O⟩:=r.get G;rw[d] at b;cases b;let⟨t,i,g⟩:=L.get G;exact⟨t,i,VZ I _ _ _ g O⟩
 let' e:aj->Bool:=λy=>@ite _ (∃ t,ZH s.heap t y/\t.eqb k=true) (Classical.propDecidable _) true false
 let B:∀ y t,ZH s.heap t y->e y=t.eqb k:=λy t F=>by
  by_cases h:∃ t,ZH s.heap t y/\t.eqb k=true
  ·let⟨o,C,D⟩:=h;rw[V1 _ _ (ZH.inj _ _ _ F C),D];exact aM ⟨o,C,D⟩
  ·rw[show e y=false from aK h]
   cases z:t.eqb k with
   | true=>exact absurd ⟨t,F,z⟩ h
   | false=>rfl
 let R:a.toArray.any e=w.any λt=>t.eqb k:=by
  let lr:=r.length;let lk:=L.length;rw[List.any_toArray];have:∀(l:je)(m:jo),l.length=m.length->(∀ j y,l[j]? = some y->∃ t,m[j]? = some t/\ZH s.heap t y)->l.any e=m.any λt=>t.eqb k:=λl=>by
   induction l with
   | nil=>
    intro m f _
    cases m with
    | nil=>rfl
    | cons _ _=>simp at f
   | cons y l W=>
    intro m f E
    cases m with
    | nil=>simp at f
    | cons t m=>
     let⟨o,b,P⟩:=E 0 y Z;let b:some t=some o:=b;cases b;rw[uT,uT,B y t P,W m (by simpa using f) λj z J=>E (j+1) z J]
  exact this a w ∅ c
 refine PySem.SeqAt.in_listAt e pl.isList (λy V=>?_) ⟨.bl _,H,I,Z,by rw[R];exact q⟩
 let n:y∈a:=by simpa using V
 let⟨j,d⟩:=vD n;let⟨t,i,g⟩:=c j y d;rw[B y t g];have:=S t (zJ i);exact Pv t.depth t k X.A.in1 y v (zY _) g (VZ I _ _ _ kx rx) (by show X.A.units+1+_<_;lia)
end Tw
namespace L2
open PySem PySem.Spec PyProof.Rows
def MC(b:Int)(n:Nat):It:=⟨λi _=>i<n,λi H x a=>a=H/\x=.int (b-i),λi _=>n<=i⟩
theorem ZJX{P:ao}{w:aw}{K:zZ}{Q:Expr}(c:ak)(g:Int)(n:Nat):Vu P w K Q (MC g n) [c] c (λi h=>IsRangeIter h c (g+(i:Nat) * (-1)) ((n:Int)-(i:Nat)) (-1)) where
 mem:=by simp
 obj:=λi h a b f=>by
  let e:b=c:=by simpa using f
  subst e;exact⟨_,a,λv z=>by
   let R:Data.fields _=Data.cell v:=z;cases R⟩
 keep:=λi h l a k=>k c (by simp) _ a
 item:=by
  intro X A D y B i d s G H E I m a C;subst A D y;let⟨p,q,M,r,u,x⟩:=m c (by simp)
  let W:=Walks.range (prog:=X.prog) (w:=X.w) (I.ok.hd B) c g (-1) n;refine W.item i s _ _ C a λv l F N j O=>?_;let⟨t,rfl⟩:=N;let J:ZG X d G H { s with heap:=l,toks:=F }:=I.turned (λb o f e=>O b o (by simpa using f) e) p q r u x
  refine⟨_,Z,Mj (s:={ s with heap:=l,toks:=F }) (n:= "range_iterator") j Z Z (by decide) ⟨.int (g-i),H,J,⟨t,?_⟩,⟨Z,Z⟩,j,λb f=>(m b f).1⟩⟩
  rw[show g+(i:Int) * (-1)=g-i by lia]
 done:=by
  intro X A D y B i d s G H E I m a C;subst A D y;let⟨p,q,M,r,u,x⟩:=m c (by simp)
  exact wpAny_pyNext_range_end (I.ok.hd B) a (by have:n<=i:=C;lia) λl L=>⟨Z,I.turned (t':=s.toks) (λb o f e=>L b o f e) p q r u x⟩
 self:=λ_ _ _ _ _ a h=>wpAny_pyIter_rangeiter a h
section
variable{tg:Expr}
inductive MN(R:It->Hp->Prop)(b:jf)(a:Hp):Prop
 |mk(n:Nat)(_:b=[.int ((n:Int)-1),.int (-1),.int (-1)])(_:n<=1000)(_:R (MC ((n:Int)-1) n) a)
def ZRZ(b:TA):TI:=λd H R=>b d H λc a=>MN R c a
theorem DE(n:Nat):Builtin.Range.rangeSize ((n:Int)-1) (-1) (-1)=n:=by
 unfold Builtin.Range.rangeSize;rw[aK (by decide)]
 split
 ·rw[show -(-1:Int)=1 from rfl,Int.ediv_one];lia
 ·lia
theorem B5{a b c:Expr}{l:TA}{p pos:Pos}(B:Gl X "range")(C:X.mg "range" = none)(z:PA X [a,b,c] l)(D:au [a,b,c] X.env=[(false,aG a X.env),(false,aG b X.env),(false,aG c X.env)]:=by rfl)(g:au [b,c] X.env=[(false,aG b X.env),(false,aG c X.env)]:=by rfl):
  PI X tg (.Call (.Name "range" p) [a,b,c] [] pos) (ZRZ l):=by
 intro d s m H R I h;refine Call_ (Og I B C boot_range (PyProof.Rows.callWith_type1 (YF (z pos d s m H _ I h) λL f M k w G E=>?_) (by rw[D,g]) (by rw[g];rfl)))
 let⟨n,e,K,q⟩:=E;subst e
 cases G with
 | cons r i=>
  cases i with
  | cons F i=>
   cases i with
   | cons J i=>
    cases i;let⟨t,rfl⟩:=r;let⟨u,rfl⟩:=F;let⟨v,rfl⟩:=J;refine call_range_3 (by decide) ?_ (.inl (PyProof.noPylong_small ∅))
    refine wpAny_pyIter_range (IsRange.new ..) ?_ ?_
    ·unfold Builtin.Range.small;rw[DE];simp only[Builtin.Range.rangeFitsLong,zF,Bool.or_eq_true,decide_eq_true_eq,beq_iff_eq,show ¬ (-1:Int) > 0 by decide,if_false]
     lia
    ·let j:ZG X d m k { f with heap:=f.heap.push { cls:=.type "range",data:=.fields #[.int ((n:Int)-1) t,.int (-1) u,.int (-1) v] },toks:=f.toks }:=w.kept λb o e=>zA _ e;refine⟨(f.heap.push { cls:=.type "range",data:=.fields #[.int ((n:Int)-1) t,.int (-1) u,.int (-1) v] }).objs.size,[(f.heap.push { cls:=.type "range",data:=.fields #[.int ((n:Int)-1) t,.int (-1) u,.int (-1) v] }).objs.size],_,_,k,Z,
      j.kept (t':=f.toks) λb o e=>zA _ e,ZJX _ ((n:Int)-1) n,?_,λb A=>?_,q⟩
     ·let x:(n:Int)-1+((0:Nat):Int) * (-1)=(n:Int)-1:=by simp
      let y:((n:Nat):Int)-((0:Nat):Int)=Builtin.Range.rangeSize ((n:Int)-1) (-1) (-1):=by rw[DE];lia
      show IsRangeIter _ _ ((n:Int)-1+((0:Nat):Int) * (-1)) (((n:Nat):Int)-((0:Nat):Int)) (-1);rw[x,y];exact yO _ Z
     ·let e:b=(f.heap.push { cls:=.type "range",data:=.fields #[.int ((n:Int)-1) t,.int (-1) u,.int (-1) v] }).objs.size:=by simpa using A
      subst e;exact j.fpOk (zY _) (j.hok.fresh (zY _))
theorem ZLs{j:Int}{n:Nat}{g:TG}{tb:TS}{D:Y0}{a:St}{H:Hp}(c:Nat->St->Hp->Prop)(o:c 0 a H)(r:∀ i a H,i<n->c i a H->g (.int (j-i)) a H λh k=>tb { D with nx:=c (i+1),ct:=c (i+1),bk:=D.nx } h k)(q:∀ a H,c n a H->D.nx a H):
  ∃ W:Nat->Nat->St->Hp->Prop,(∃ m,W 0 m a H)/\∀ i m a H,W i m a H ->
   ((MC j n).stop i H/\D.nx a H)\/((MC j n).go i H/\∃ N:St->Hp->Prop,(∀ f b,N f b->∃ l,l<m/\W (i+1) l f b)/\∀ x b,(MC j n).yld i H x b->g x a b λh k=>tb { D with nx:=N,ct:=N,bk:=D.nx } h k):=by
 exists λi m a H=>m=n-i/\i<=n/\c i a H,⟨n,by simp,zM _,o⟩
 rintro i m a H ⟨rfl,j,p⟩;by_cases d:i<n
 ·refine .inr ⟨d,c (i+1),λf b s=>⟨n-(i+1),∅,Z,d,s⟩,λx b y=>?_⟩
  let⟨e,y⟩:=y;subst e y;exact r i a _ d p
 ·let e:i=n:=∅
  subst e;exact .inl ⟨zY _,q a H p⟩
end
end L2
namespace Tw
open PySem PySem.Spec L2 PyProof.Rows
variable{kg kh CS CT CH CK CP CB:ak}
def ins(k v:KT)(a:jr):jr:=a.filter (λr=>r.1.lt k)++(k,v)::a.filter λr=>k.lt r.1
theorem WQ{k v:KT}{a:jr}{x:Zd}:x∈ins k v a ↔ x=(k,v)\/(x∈a/\x.1≠k):=by
 unfold ins;rw[yW,zL,xF,xF];constructor
 ·rintro(⟨h,l⟩ | h | ⟨h,l⟩)
  ·exact .inr ⟨h,λz=>by rw[z,UW] at l;cases l⟩
  ·exact .inl h
  ·exact .inr ⟨h,λz=>by rw[z,UW] at l;cases l⟩
 ·rintro(h | ⟨h,n⟩)
  ·exact .inr (.inl h)
  ·cases b:x.1.lt k with
   | true=>exact .inl ⟨h,Z⟩
   | false=>
    cases c:k.lt x.1 with
    | true=>exact .inr (.inr ⟨h,rfl⟩)
    | false=>exact absurd (N1 _ _ b c) n
theorem Dg{k v:KT}{d:jr}(h:Up d):Up (ins k v d):=by
 unfold Up ins OI at *;rw[zD,yV,xJ,xK];refine⟨h.sublist (List.filter_sublist.map _),⟨λy b=>?_,h.sublist (List.filter_sublist.map _)⟩,λx f y b=>?_⟩
 ·let⟨r,a,rfl⟩:=zR.mp b;exact(xF.mp a).2
 ·let⟨r,a,rfl⟩:=zR.mp f;let c:=(xF.mp a).2;rcases zL.mp b with z | z
  ·rw[z];exact c
  ·let⟨q,e,rfl⟩:=zR.mp z;exact lt_trans' _ _ _ c (xF.mp e).2
theorem Gf{k v:KT}:∀{rs:jr},(ins k v rs).length<=rs.length+1:=by
 intro rs;unfold ins;rw[zW,zI];have:∀ l:jr,(l.filter λr=>r.1.lt k).length+(l.filter λr=>k.lt r.1).length<=l.length:=λl=>by
  induction l with
  | nil=>exact zY _
  | cons x l a=>
   rw[yE,yE,zI];by_cases h:x.1.lt k=true
   ·rw[aM h,aK (by rw[Oq _ _ h];exact zT),zI];lia
   ·rw[aK h];split
    ·rw[zI];lia
    ·lia
 exact vI (this rs)
theorem AX{k v:KT}{a:jr}(h:Up a)(b:(k,v)∈a):ins k v a=a:=
 Hm (Dg h) h λx=>WQ.trans ⟨λz=>z.elim (λy=>y ▸ b) λy=>y.1,λc=>by
  by_cases z:x.1=k
  ·exact .inl (ZOa h c b z)
  ·exact .inr ⟨c,z⟩⟩
theorem ZNR{k v:KT}{b:jr}(h:Up b):b.take (cnt (b.map (·.1)) k)++[(k,v)]++(b.drop (cnt (b.map (·.1)) k)).filter (λr=>!r.1.eqb k)=ins k v b:=by
 let j:∀ l:jr,Up l->∃ n,cnt (l.map (·.1)) k=n/\l.take n=l.filter (λr=>r.1.lt k)/\(l.drop n).filter (λr=>!r.1.eqb k)=l.filter λr=>k.lt r.1:=λl=>by
  induction l with
  | nil=>exact λ_=>⟨0,Z,Z,Z⟩
  | cons x l t=>
   intro s;let d:=xK.mp s;let c:∀ y∈l,x.1.lt y.1=true:=λy a=>d.1 _ (zR.mpr ⟨y,a,Z⟩);let⟨n,f,g,i⟩:=t d.2;by_cases z:x.1.lt k=true
   ·exists n+1,?_,?_
    ·show (((x::l).map (·.1)).filter λy=>y.lt k).length=_;rw[yV,yE,aM z,zI];rw[<-f];rfl
    ·rw[vE,g,yE,aM z]
    ·rw[List.drop_succ_cons,i,yE,aK (by rw[Oq _ _ z];exact zT)]
   ·let p:x.1.lt k=false:=by cases q:x.1.lt k with | true=>exact absurd q z | false=>rfl
    let o:l.filter (λr=>r.1.lt k)=[]:=uC.mpr λy a q=>z (lt_trans' _ _ _ (c y a) q);let m:∀ y∈l,k.lt y.1=true:=λy a=>EQ p (c y a);let e:l.filter (λr=>k.lt r.1)=l:=vF.mpr m;let u:l.filter (λr=>!r.1.eqb k)=l:=vF.mpr λy a=>by
     cases q:y.1.eqb k with
     | false=>rfl
     | true=>
      have:=m y a;rw[V1 _ _ q,UW] at this;cases this
    exists 0,?_,?_
    ·show (((x::l).map (·.1)).filter λy=>y.lt k).length=0;rw[yV,yE,aK z,List.length_eq_zero_iff,sN];rw[show l.filter ((λy=>y.lt k) ∘ λx=>x.1)=[] from o];rfl
    ·rw[yE,aK z,o];rfl
    ·rw[vL,yE,yE,u,e]
     cases q:x.1.eqb k with
     | true=>
      rw[V1 _ _ q,UW];rfl
     | false=>
      have:k.lt x.1=true:=by
       cases y:k.lt x.1 with
       | true=>rfl
       | false=>
        have:=N1 _ _ p y;rw[this,UB] at q;cases q
      rw[this];rfl
 let⟨n,f,g,i⟩:=j b h;rw[f,g,i];unfold ins;simp
theorem FL{a:jf}(n:Nat):UC a none (some (n:Int))=a.take n:=by
 unfold UC;rw[HT.sIx_none,HT.sIx_nat];simp only[vL,Nat.sub_zero];rcases Nat.le_total n a.length with h | h
 ·rw[uQ h]
 ·rw[sL h,zE (zY _),zE h]
theorem E3{a:jf}(n:Nat):UC a (some (n:Int)) none=a.drop n:=by
 unfold UC;rw[HT.sIx_none,HT.sIx_nat];rcases Nat.le_total n a.length with h | h
 ·rw[uQ h];exact zE (by simp)
 ·rw[sL h,tT,uZ (zY _),uZ h];rfl
section
variable{kg kh CTb CK:ak}
inductive Yv:Sp
 |mk{l q:ak}{c:jf}{a:jr}{d e:V}{k v:KT}{H:Hp}{Q:VK}{E:XK}:H l=some (.lst c)->jX H (Z6 a) c->H q=some (.tup [d,e])->ZE H k d->ZE H v e->a.length<=4->(∀ r∈a,r.fit)->Up a ->
  (∀(b:Hp)(D:ak)(g:jf),ZD H b->H D=none->b D=some (.lst g)->jX b (Z6 (ins k v a)) g->Q (.ref D) b)->Yv [.ref l,.ref q,.int (cnt (a.map (·.1)) k:Nat)] H Q E
theorem WZ:ZB zE9 zE9 (Zc Jn):=Zs
theorem ZF1(F:Zg K "rows_with" "rows_with" Jn f fd):ZI P w K mg kj ZM 1 f fd zE9 Yv:=by
 refine F.ok WZ (λvs H Q E h=>(by cases h;rfl)) (λa3 A a1 s H vs Q E hr h=>?_)
 let⟨hl,kr,hq,kk,kv,r4,rf,ru,q⟩:=h;rename_i l O d o vk vv k v
 let nd:=WZ.nd;intro Xc;refine⟨_,ZR (Zh (Zj Ph (Zj Ph (PJ PU (pv 0) OT (QD (pv 2))) (Yk (ZS (pv 1))))
  (VJ [1] ["row"] rfl (X9 (PJ PU (pv 0) (QD (pv 2)) OT)) (λ_ _ _ _ _=>HV (Yb (Ia hr) (Yx K (pv 0) ZJ) (Yx K (pv 1) ZJ) (Z8 _))) (λ_ _ _ _ _=>pv 0) ⟨rfl,.inl rfl,rfl,trivial⟩))),?_⟩
 generalize hn:cnt (o.map (·.1)) k=n;let lu:d.length=o.length:=by have:=kr.length;rw[<-this];exact zX _
 let S:=ZNR (k:=k) (v:=v) ru;rw[hn] at S;exists _,Z,_,Z,_,Z,l,d,Z,ZF.of hl;intro p1 n1;rw[FL];let⟨H1,t,g1,h1⟩:=YD n1 (.lst (d.take n));rw[t];exists _,Z,YE;intro p2 n2;let⟨H2,t,g2,h2⟩:=YD n2 (.lst [.ref O]);rw[t];exists p1,p2,d.take n,_,Z,Z,g2 _ _ h1,h2,nn (by rw[yJ];simp;lia)
 intro p3 n3;let⟨H3,t,g3,h3⟩:=YD n3 (.lst (d.take n++[.ref O]));rw[t];let s3:=(g1.trans g2).trans g3;exists _,Z,_,Z,_,Z,l,d,Z,ZF.of (s3 _ _ hl);intro p4 n4;rw[E3];let⟨M,t,g4,C⟩:=YD n4 (.lst (d.drop n));rw[t];let I:=s3.trans g4;let N:jX M (Z6 (o.drop n)) (d.drop n):=by rw[(P2 o n).2];exact(kr.drop n).sm I
 let W:=I _ _ hq;let Y:=kk.sm I;let ld:(d.drop n).length=(o.drop n).length:=by rw[xQ,xQ,lu]
 let df:∀ r∈o.drop n,r.fit:=λr h=>rf r (uG h);let l4:(d.drop n).length<=4:=by rw[xQ];lia
 generalize o.drop n=p at N ld S df;generalize d.drop n=y at N ld l4 C;refine⟨p4,Z,⟨_,ZF.of C⟩,Im (n:=y.length) (λi z=>y[i]? = some z) (λi=>!(p.getD i rd).1.eqb k) (λD i m g=>ZD M g/\M D=none/\jX M (Z6 ((p.take i).filter λr=>!r.1.eqb k)) m) (Ym ∅)
  (λD i m g G c=>⟨y,y[i],ZF.of (c.1 _ _ C),by simp[G]⟩) (λD i m g z H6 G c hy=>⟨hy.1,hy.2 y (ZF.of (c.1 _ _ C))⟩) (λD m g c=>⟨y,ZF.of (c.1 _ _ C),zY _⟩)
  (λD hD=>⟨Zl hD _,hD,.nil⟩) (λD i m g z x G X c B U=>?_) (λD i m g z x G X V c B U=>?_) (λD i m g x G V c=>?_) (λD m g x c=>?_)⟩
 ·let⟨b,u,j⟩:=c;let⟨a,L,a2,e,rfl,T,R,c2⟩:=QS N X;let a0:=(df _ (zJ e)).1;exact⟨_,Z,a,_,_,L,Z,Z,Zm.of (b _ _ T),Z,_,Z,O,_,_,vk,Z,Z,Zm.of (b _ _ W),Z,_,_,R.sm b,Y.sm b,zO (Vv _ 3 a0) (by decide),⟨_,Z,U g x ⟨b,u,j⟩⟩⟩
 ·let⟨b,u,j⟩:=c;let⟨a,L,a2,e,rfl,T,R,c2⟩:=QS N X;refine⟨_,Z,U _ g x ⟨VQ b u,u,?_⟩⟩;rw[Nn _ e,aM V,Pw];exact j.append (.cons (.tup T (.cons R (.cons c2 .nil))) .nil)
 ·let⟨b,u,j⟩:=c;let e:p[i]? = some (p.getD i rd):=by rw[zU,zV ∅];rfl
  exists b,u;rw[Nn _ e,aK (by rw[V];exact zT),zK]
  exact j
 ·let⟨b,u,j⟩:=c;rw[zE ∅] at j
  let ll:=j.length;let lf:=vB (λr:Zd=>!r.1.eqb k) p;let e3:(Z6 (p.filter λr=>!r.1.eqb k)).length=(p.filter λr=>!r.1.eqb k).length:=zX _;exists p3,D,_,_,Z,Z,b _ _ (g4 _ _ h3),x,nn (by rw[zW,yJ];simp;lia)
  intro p6 n6;let g6:=Zl n6 (.lst (d.take n++[.ref O]++m));let J:=(I.trans b).trans g6;refine q _ p6 _ J ((I.trans b).free n6) ZX ?_;rw[<-S,Pw,Pw,(P2 o n).1];refine(((kr.take n).sm J).append (.cons (.tup (J _ _ hq) (.cons (kk.sm J) (.cons (kv.sm J) .nil))) .nil)).append ?_;exact j.sm (b.trans g6)
structure P4(X:Za)(r:js):Prop where
 lv:X.lv=r.toList
 h0:∀ i,r=some i->(gd X.ts i).h=0
 tl:X.ts.length<=r.toList.length
inductive WH(kg kh:ak):Sp
 |mk{X:Za}{lk l:ak}{ls us:jf}{n:Nat}{rr:jr}{H:Hp}{Q:VK}{E:XK}:Tf kg kh H X lk ls (some n)->P4 X (some n)->H l=some (.lst us)->jX H (Z6 rr) us->WD rr ->
  (∀(H':Hp)(X':Za),Go lk H H' X X'->Tf kg kh H' X' lk ls (some n)->P4 X' (some n)->(gd X'.ts n).rows=rr->Q .non H')->WH kg kh [.ref X.S,.int (n:Nat),.ref l] H Q E
theorem ZH6:ZB zEy zEy (Zc Iu):=Zs
theorem B4(F:Zg K "give_rows" "give_rows" Iu f fd)(T:Yd mg)(L:Yg K mg kg kh)(B:ZC P w K mg kj ZM 11 kg "change_leaf" zE6 (Xk kg kh)):ZI P w K mg kj ZM 12 f fd zEy (WH kg kh):=by
 refine F.ok ZH6 (λvs H Q E h=>(by cases h;rfl)) (λJ A k s H vs Q E W h=>?_)
 let⟨t,o,u,x,G,q⟩:=h;rename_i X lk l ls p n m
 let⟨t0,Y⟩:=T.rows;intro Xc;exists _,ZL (Z1 (Yb Qc (YG Xd rfl T.len XG (ZS (pv 2))) (Wt (v:=.int 4) rfl Y ⟨_,rfl⟩) (Z8 _)) (ZL (XT (YV (E:=E0) (pv 0) L.cS B W YC (Zx (pv 1) (pv 2)))) (ZR (Zh Nq))) Z2) Jb;let R:=t.sh;let⟨N,U⟩:=R.sh.self;let lu:p.length=m.length:=by have:=x.length;rw[<-this];exact zX _
 let⟨b,y⟩:=t.tp n Z;let j:=o.h0 n Z;let g4:=G.2.2.1;exists _,Z,l,p,Z,.inl (ZF.of u),_,_,Z,Z,_,Z;rw[aJ (show ((p.length:Nat):Int)<=4 by lia)]
 let⟨a,M,C⟩:=ZMv (t:=VE m) R.lt t.fst.wf b t.fst.hb.avk (.top b y) .root j.symm (Lx G) (by rw[vJ,zK];exact G.2.2.2)
 refine YM ⟨_,Z,X.S,N,_,Z,U,Z,_,Z,_,Z,.mk (r:=n) ⟨R,t.fst.wf,b,t.fst.hb.avk⟩ .root (.top b y) (zM _) u x G j M C λD g O I z=>?_⟩;refine q D ⟨X.S,X.d,X.lv,a,X.av,X.ho,g,X.kvs⟩ (ZPT (λc o n e=>O c o (λi V=>(n i V).1) e) z) ⟨I,ZLg t.fst b j C,λi e=>t.tp i e⟩ ⟨o.lv,λi e=>?_,by show a.length<=_;rw[C.len];exact o.tl⟩ ?_
 ·show (gd a i).h=0;rw[C.hh];exact o.h0 i e
 ·show (gd a n).rows=m;rw[C.at_];rfl
inductive Xr:Sp
 |mk{S a b:ak}{H:Hp}{Q:VK}{E:XK}:H a=some (.lst [])->Q .non H->Xr [.ref S,.ref a,.ref b,.non] H Q E
inductive Ca(S st pl:ak)(H:Hp):Nat->L2.St->Hp->Prop
 |mk{i:Nat}:Ca S st pl H i [some (.ref S),some (.ref st),some (.ref pl),some .non,some .non,none] H
abbrev ZOl:jp:=["shelf","stems","places","added","over","at"]
theorem Ui:ZB ZOl zEp (Zc IZ):=Zs
theorem ZIj(F:Zg K "add_up" "add_up" IZ f fd)(T:Yd mg):ZI P w K mg kj ZM 1 f fd zEp Xr:=by
 refine F.ok Ui (λl H Q E h=>(by cases h;rfl)) (λg A b s H l Q E o h=>?_)
 let⟨a,q⟩:=h;rename_i S d k
 let c:=Ui.nd;intro n;refine⟨_,ZL (Ze 4 c (pv 3))
  (ZL (VD PassesOwn.never rfl (B5 rfl T.range (UA (Zj Vg (YG Xd rfl T.len XG (ZS (pv 1))) ZJ) (Uc UZ ZJ) (Uc UZ ZJ))) (WG 5 c) Jb)
  (ZR (Zh (pv 4)))),?_⟩
 exists _,Z,_,Z,d,_,Z,.inl (ZF.of a),_,_,Z,Z,_,Z,_,Z,0,Z,by lia
 refine ZLs (tb:=λ_ _ _=>False) (Ca S d k H) .mk ?_ ?_
 ·rintro i m e j _;exact absurd j (sO _)
 ·rintro m e ⟨⟩;exact⟨_,Z,q⟩
inductive Yf:Sp
 |mk{S:ak}{n:Nat}{H:Hp}{Q:VK}{E:XK}:Q (.int (n:Nat)) H->Yf [.ref S,.int (n:Nat),.non] H Q E
theorem ZIN:ZB zEw zEw (Zc Jo):=Zs
theorem ZE8(F:Zg K "root_with" "root_with" Jo f fd):ZI P w K mg kj ZM 1 f fd zEw Yf:=by
 refine F.ok ZIN (λc H Q E h=>(by cases h;rfl)) (λb A a s H c Q E d h=>?_)
 let⟨q⟩:=h;exact⟨_,ZL (Z1 (Uv (Oo (pv 2))) (ZR (Zh (pv 1))) Z2) Jb,_,Z,_,Z,YM ⟨_,Z,q⟩⟩
inductive VO(kg kh:ak):Sp
 |mk{X:Za}{lk:ak}{ls:jf}{r:js}{vk vv:V}{k v:KT}{H:Hp}{Q:VK}{E:XK}:Tf kg kh H X lk ls r->P4 X r->(Yp X.ts r).length<=3->ls.length<=369000->ZE H k vk->k.fits 3=true->ZE H v vv->v.fits 3=true ->
  (∀(H':Hp)(X':Za)(ls':jf)(r':Nat),Go lk H H' X X'->Tf kg kh H' X' lk ls' (some r')->P4 X' (some r')->(gd X'.ts r').rows=ins k v (Yp X.ts r)->ls'.length<=ls.length+9->Q (.int (r':Nat)) H')->VO kg kh [.ref X.S,YR r,vk,vv] H Q E
theorem ZOE(F:Zg K "put_in" "put_in" JE f fd)(T:Yd mg)(L:Yg K mg kg kh)(c3:ZA P w K mg kj 4 "check_root" zEc (YK kg kh))(DC:ZA P w K mg kj 7 "checked" zEo Vr)(DL:ZC P w K mg kj ZM 10 kg "put_leaf" zEz (XI kg kh))(DS:ZA P w K mg kj 10 "steps_to" zEd (λvs H Q _=>XN kg kh CK vs H Q E0))(DW:ZA P w K mg kj 6 "own_way" zFh (Xh kg kh))(DR:ZA P w K mg kj 1 "rows_with" zE9 Yv)(DG:ZA P w K mg kj 12 "give_rows" zEy (WH kg kh))(DU:ZA P w K mg kj 1 "add_up" zEp Xr)(c4:ZA P w K mg kj 1 "root_with" zEw Yf):
  ZI P w K mg kj ZM 14 f fd zEu (VO kg kh):=by
 refine F.ok Uk (λvs H Q E h=>(by cases h;rfl)) (λi3 A e9 s H vs Q E J h=>?_)
 let⟨t,o,r3,i4,kk,fk,kv,fv,q⟩:=h;rename_i X lk ls r vk vv k v
 let nd:=Uk.nd;let M:=J.mono (show 1<=13 by lia)
 let e0:=J.mono (show 4<=13 by lia)
 let e1:=J.mono (show 6<=13 by lia)
 let a6:=J.mono (show 7<=13 by lia)
 let B:=J.mono (show 10<=13 by lia)
 let a5:=J.mono (show 12<=13 by lia)
 intro Xc;refine⟨_,ZL (XT (Zf c3 e0 (Zx (pv 0) (pv 1))))
  (ZL (Ze 4 nd (WC (Zx (Zf DC a6 (ZS (pv 2))) (Zf DC a6 (ZS (pv 3))))))
  (ZL (Z1 (Uv (Oo (pv 1))) (ZR (Zh (YV (E:=E0) (pv 0) L.cS DL B YC (ZS (Yk (ZS (pv 4))))))) Z2)
  (ZL (Ze 5 nd (Zf DS B (UA (pv 0) (pv 1) (pv 2))))
  (ZL (Ze 6 nd (Yx K (Yx K (YX K (pv 5) (Uc UZ ZJ)) ZJ) ZJ))
  (ZL (Z1 (Yb (ZPK J) (pv 4) (pv 6) rfl) (ZR (Zh (pv 1))) Z2)
  (ZL (Ze 7 nd (Zf DW e1 (Zx (pv 0) (pv 5))))
  (ZL (Ze 8 nd (Zf DG a5 (UA (pv 0) (YX K (pv 7) (Uc UZ ZJ)) (Zf DR M (UA (pv 6) (pv 4) (Yx K (YX K (pv 5) (Uc UZ ZJ)) ZJ))))))
  (ZL (O8 (i:=9) [] [] nd rfl rfl rfl (X9 (PJ PU (pv 5) OT (QD (Uc UZ ZJ)))) (λ_ _ _ _ _=>Wc) (λ_ _ _ _ _=>Zj Xg (Yx K (pv 0) ZJ) ZJ) trivial)
  (ZR (Zh (Zf c4 M (UA (pv 0) (YX K (pv 7) ZJ) (Zf DU M (Uu (pv 0) (PJ PU (pv 7) OT (QD (Uc UZ ZJ))) (pv 9) (pv 8))))))))))))))),?_⟩
 let R:=t.sh;refine⟨_,Z,_,Z,.mk R (λi e=>⟨(t.tp i e).1,xH (t.tp i e).2.2.symm⟩) λH1 s1=>?_⟩;exists _,Z,vk,k,Z,kk.sm s1,fk;intro H2 s2;exists _,Z,vv,v,Z,(kv.sm (s1.trans s2)),fv;intro H3 s3;exists YE;intro qa nq;let⟨H4,j,g4,hq⟩:=YD nq (.tup [vk,vv]);rw[j];let s4:=((s1.trans s2).trans s3).trans g4;let t4:=t.same s4;let U:=kk.sm s4;let a8:=kv.sm s4;let⟨dS,hS⟩:=t4.sh.sh.self;let tl:=o.tl
 cases r with
 | none=>
  refine⟨_,Z,_,Z,YM ⟨_,Z,X.S,dS,_,Z,hS,Z,_,Z,YE,λp1 n1=>?_⟩⟩;let⟨H5,j,g5,h5⟩:=YD n1 (.lst [.ref qa]);rw[j];let G:WD [(k,v)]:=⟨λx O=>by rw[zH.mp O];exact⟨fk,fv⟩,wR 0,by show 1<=4;lia,sV _ _⟩
  let v0:X.lv=[]:=o.lv;exists X.S,X.d,lk,p1,X.lv,X.ts,X.av,X.ho,X.as,X.kvs,ls,_,[(k,v)],Z,t4.sh.same g5,by rw[v0];exact zM _,h5,.cons (.tup (g5 _ _ hq) (.cons (U.sm g5) (.cons (a8.sm g5) .nil))) .nil,G
  intro H6 a nx nt na fr R6;let G6:=(Go.same (s4.trans g5)).trans (Ga (lk:=lk) (X:=X) (t:=VE [(k,v)]) (av':=W9 X.ts.length X.av) (ho':=Wy X.ts.length X.ho) (kvs':=Yj X.kvs (.inl (X.ts.length:Int)) (.ref a.x)) R.len R.lt (λc o n1 n2 _ e=>fr c o n1 n2 e) nx nt na);let⟨k1,_,k3⟩:=Fn (t:=VE [(k,v)]) R.lt t.fst (Lx G) (λb hb=>by cases hb)
  rw[show (VE [(k,v)]).bs=[] from rfl,Jt,KZ] at k1 k3;refine q H6 _ ls X.ts.length G6 ⟨R6,k1,λi e=>?_⟩ ⟨?_,λi e=>?_,?_⟩ ?_ ∅
  ·cases e;exact⟨yM _ (zH.mpr rfl),k3⟩
  ·show X.lv++[_]=_;rw[v0];rfl
  ·cases e;show (gd (X.ts++[_]) X.ts.length).h=0;rw[UR];rfl
  ·show (X.ts++[_]).length<=1;have:X.ts.length<=0:=tl;rw[zW];exact Nat.add_le_add_right this 1
  ·show (gd (X.ts++[_]) X.ts.length).rows=_;rw[UR];rfl
 | some i=>
 let hi:=(t.tp i Z).1;let i0:=(t.tp i Z).2;let h0:=o.h0 i Z;let i9:(gd X.ts i).rows.length<=3:=r3;refine⟨_,Z,_,Z,Zo ⟨_,Z,_,Z,_,Z,.mk (N:=λ_=>False) (o:=some k) (t4.askd ∅ ∅) ⟨U,fk⟩ (λz=>by cases z) λk' ek H5 D us a1 R5 nD i2 hD l=>?_⟩⟩
 cases ek;let t5:=t4.of R5;let G5:Go lk H H5 X X:=(Go.same s4).trans (Go.looks a1);let eW:UT X.ts k (some i)=[(i,XU X.ts k i)]:=by show Pj X.ts k (gd X.ts i).h i=_;rw[h0];rfl
 rw[eW] at l;let ll:(ls++QI (UT X.ts k (some i))).length<=ls.length+9:=by
  rw[eW,zW];unfold QI;simp
 generalize ls++QI (UT X.ts k (some i))=c0 at t5 R5 ll;let hn:XU X.ts k i=cnt ((gd X.ts i).rows.map (·.1)) k:=by unfold XU;rw[aM h0]
 obtain⟨u,eu⟩:∃ u,us=[u]:=by
  have:=Paired.length l
  match us,this with
  | [u],_=>exact⟨u,Z⟩
 subst eu;let i1:=l;let⟨p,ep,ta,fa,et,ht,FA⟩:=Paired.ixR l (i:=0) Z;cases ep;subst et;let⟨tq,lq,vq,rfl,e4,e5,i8,e6,_⟩:=FA;let kr:=e6 h0;let Y:Zt H4 H5:=λb xs e=>a1 b _ (ZV e t4.sh.sh.looks) e;let a4:=Y _ _ hq;let a7:=U.mono Y _ _;let a9:=a8.mono Y _ _;refine⟨_,Z,_,Z,.inl ⟨D,_,_,.ref ta,Z,Z,ZF.of hD,Z,ta,_,_,.ref tq,Z,Z,Zm.of ht,Z,tq,_,_,.ref lq,Z,Z,Zm.of e4,Z,?_⟩⟩;let g:=t.fst.wf i hi;exists _,Z,_,Z,lq,vq,Z6 (gd X.ts i).rows,OA (k,v),Z,ZF.of e5,kr,.tup a4 (.cons a7 (.cons a9 .nil)),λx O=>?_
 ·let⟨y,hy,rfl⟩:=zR.mp O;let f:=g.inn y hy;let d1:=Vv _ 3 f.1;let d2:=Vv _ 3 f.2;show KT.depth (.tup [y.1,y.2])<=100;simp only[KT.depth,kc]
  lia
 exists _,Z;by_cases hm:(k,v)∈(gd X.ts i).rows
 ·let ea:((Z6 (gd X.ts i).rows).any λt=>t.eqb (OA (k,v)))=true:=uL.mpr ⟨OA (k,v),zR.mpr ⟨_,hm,Z⟩,UB _⟩;rw[ea];exact YM ⟨_,Z,q H5 X c0 i G5 t5 o (AX g.up hm).symm ∅⟩
 let ea:((Z6 (gd X.ts i).rows).any λt=>t.eqb (OA (k,v)))=false:=by
  cases z:(Z6 (gd X.ts i).rows).any λt=>t.eqb (OA (k,v)) with
  | false=>rfl
  | true=>
   let⟨x,O,ex⟩:=uL.mp z;let⟨y,hy,rfl⟩:=zR.mp O;have:=V1 _ _ ex;unfold OA at this;injection this with this;injection this with a b;injection b with b;exact absurd (show (k,v)∈(gd X.ts i).rows by rw[<-show y=(k,v) from Prod.ext a b];exact hy) hm
 rw[ea];refine Zo ?_;refine⟨_,Z,_,Z,.mk (W:=[(i,XU X.ts k i)]) t5.sh hD (.cons ⟨ta,_,rfl,ht⟩ .nil) (λp hp=>⟨[i],by rw[zH.mp hp];exact .top hi i0,by show 1<=900;lia⟩) (by show 1<=900;lia) λH6 Dw C e2 a2=>?_⟩
 refine⟨_,Z,_,Z,1,Z,.inl ⟨Dw,_,_,.int (i:Nat),Z,Z,ZF.of a2,Z,?_⟩⟩;refine⟨_,Z,_,Z,_,Z,1,Z,.inl ⟨D,_,_,.ref ta,Z,Z,ZF.of (C _ _ hD),Z,ta,_,_,.int (XU X.ts k i:Nat),Z,Z,Zm.of (C _ _ ht),Z,?_⟩⟩;rw[hn];refine .mk (C _ _ e5) (kr.sm C) (C _ _ a4) (a7.sm C) (a9.sm C) ∅ g.inn g.up λH7 Dn ws s7 i7 c8 kn=>?_
 let a0:=C.trans s7;let t7:=t5.same a0;let il:=Gf (k:=k) (v:=v) (rs:=(gd X.ts i).rows);let Gd:WD (ins k v (gd X.ts i).rows):=KU (λx O=>by
  rcases WQ.mp O with y | y
  ·rw[y];exact⟨fk,fv⟩
  ·exact g.inn x y.1) (Dg g.up) (sW (WQ.mpr (.inl rfl))) ∅
 refine .mk t7 o c8 kn Gd λH8 X8 G8 t8 o8 e8=>?_;let e3:Zz X lk D:=t4.sh.new nD;let e7:Zz X lk Dw:=t5.sh.new e2;let c7:=G8.fr _ _ e3 (a0 _ _ hD);let a3:=G8.fr _ _ e7 (s7 _ _ a2);exists _,Z,1,Z,_,Z,D,_,Z,ZF.of c7;intro p1 n1;let⟨H9,j,g9,h9⟩:=YD n1 (.lst []);let j:upd H8 p1 (.lst (UC [V.ref ta] none (some (-1))))=H9:=j;rw[j];refine⟨p1,Z,⟨_,ZF.of h9⟩,WT (n:=0) (λi z=>False) (λD2 i ys I=>ZD H9 I) (Ym ∅)
  (λD2 i ys I hi hP=>absurd hi ∅) (λD2 i ys I z Hb hi hP hy=>absurd hi ∅) (λD2 ys I hP=>⟨_,ZF.of (hP _ _ h9),zY _⟩)
  (λD2 c6=>Zl c6 _) (λD2 i' ys I z c5 i6 c9 hz hP RR i5=>absurd c9 ∅) (λD2 ys I c5 sa=>?_)⟩
 let c1:=g9.trans sa;let m:=c1 _ _ a3;refine⟨_,Z,_,Z,.inl ⟨Dw,_,0,.int (i:Nat),Z,Z,ZF.of m,Z,_,Z,_,Z,1,Z,_,Z,Dw,_,Z,ZF.of m,λp3 n3=>?_⟩⟩;let⟨Hb,j,gb,hb⟩:=YD n3 (.lst []);let j:upd I p3 (.lst (UC (iN ([(i,XU X.ts k i)].map (·.1))) none (some (-1))))=Hb:=j;rw[j];refine⟨_,Z,_,Z,.mk hb (.mk ?_)⟩;let c2:=c1.trans gb;exact q Hb X8 c0 i (((G5.trans (Go.same a0)).trans G8).trans (Go.same c2)) (t8.same c2) o8 e8 ∅
inductive WR(kg kh CTb:ak):Sp
 |mk{T:ak}{X:Za}{lk:ak}{ls:jf}{r:js}{vk vv:V}{k v:KT}{H:Hp}{Q:VK}{E:XK}:YL CTb H T X.S r->Tf kg kh H X lk ls r->P4 X r->(Yp X.ts r).length<=3->ls.length<=368000->Zz X lk T->ZE H k vk->k.fits 3=true->ZE H v vv->v.fits 3=true ->
  (∀(H':Hp)(X':Za)(ls':jf)(r':Nat)(b:Bool),X'.S=X.S->(∀ c o,c≠T->Zz X lk c->H c=some o->H' c=some o/\Zz X' lk c)->Zz X' lk T->Tf kg kh H' X' lk ls' (some r')->P4 X' (some r')->YL CTb H' T X'.S (some r')->Yp X'.ts (some r')=ins k v (Yp X.ts r)->ls'.length<=ls.length+18->Q (.bl b) H') ->
  WR kg kh CTb [.ref T,vk,vv] H Q E
theorem B1(F:Zg K "put" "Table.put" HE f fd)(L:QZ K mg CTb)(DS:ZC P w K mg kj (WA P w) 12 CTb "side" zFk (WN kg kh CTb CK))(DC:ZA P w K mg kj 7 "checked" zEo Vr)(DP:ZA P w K mg kj 14 "put_in" zEu (VO kg kh)):ZI P w K mg kj (WA P w) 15 f fd zFb (WR kg kh CTb):=by
 refine F.okD Qg (λvs H Q E h=>(by cases h;rfl)) (λa0 A Y s H vs Q E I h=>?_)
 let⟨j,t,o,r3,a1,W,kk,fk,kv,fv,q⟩:=h;rename_i T X lk ls r vk vv k v
 let nd:=Qg.nd;let m:=I.mono (show 12<=14 by lia)
 let O:=I.mono (show 7<=14 by lia)
 intro Xc;refine⟨_,ZL (Ze 3 nd (Ud (A2 I) (YV (E:=E) (pv 0) L.cT DS m (Gh NE λ_ _ _ h=>h) (ZS (pv 1))) (Yk (ZS (Zf DC O (ZS (pv 2))))) (Z8 _)))
  (ZL (U3 (pv 0) (Zf DP I (Uu (XS (pv 0) rfl) (XS (pv 0) rfl) (pv 1) (pv 2))) rfl)
  (ZR (Zh (pv 3)))),?_⟩
 let⟨C,hT⟩:=id j;refine⟨_,Z,T,C,_,Z,hT,Z,_,Z,.mk (N:=λ_=>False) (o:=some k) j t ∅ ∅ ⟨kk,fk⟩ (λz=>by cases z) λk' ek H1 D ys a2 i t1 l1 nD hD ks=>?_⟩
 cases ek;let m1:Zt H H1:=λb xs e=>i b _ (ZV e t.sh.sh.looks) e;refine⟨_,Z,vv,v,Z,kv.mono m1 _ _,fv,λH2 s2=>⟨YE,λp1 V=>?_⟩⟩;let⟨H3,G,g3,h3⟩:=YD V (.lst [vv]);rw[G];let B:=s2.trans g3;let t3:=t1.same B;let g:∀ b o,b≠lk->H b=some o->H3 b=some o:=λb o n e=>B _ _ (i b o n e);let m3:Zt H H3:=λb xs e=>B _ _ (m1 b xs e);let R:=kk.mono m3 _ _;let p:=kv.mono m3 _ _;let sf:∀ x∈Vi (Yp X.ts r) k,x.fits 3=true:=λx hx=>by
  let⟨y,hy,rfl⟩:=zR.mp hx;exact(t.fit y (xF.mp hy).1).2
 exists D,p1,ys,[vv],Vi (Yp X.ts r) k,[v],Z,Z,ZF.of (B _ _ hD),ZF.of h3,ks.sm B,.cons p .nil,sf;let a:=g _ _ W.2.2.1 hT;refine⟨_,Z,T,CTb,C,_,.ref X.S,Z,a,L.cT,L.ns,Z,_,Z,T,CTb,C,_,YR r,Z,a,L.cT,L.nr,Z,_,Z,_,Z,.mk t3 o r3 ∅ R fk p fv λH4 X4 U r4 d t4 o4 e4 l4=>?_⟩
 let l:=d.fr _ _ W a;let u:=d.off _ _ W a;exists _,Z,T,CTb,C,_,Z,l,L.cT,L.nr,yN Z;let⟨H5,G,M,t5,T5⟩:=ES t4 u (r0:=r) (by rw[d.S];exact l)
 rw[show YR (some r4)=.int (r4:Nat) from rfl,d.S] at G;rw[G];exact⟨_,Z,q H5 X4 U r4 _ d.S (λc o V J e=>⟨M c o V (d.fr c o J (g c o J.2.2.1 e)),d.off c o J (g c o J.2.2.1 e)⟩) u t5 o4 T5 e4 ∅⟩
end
abbrev kN(l:jk):jA:=l.map λi:Nat=>(Sum.inl (i:Int):ZT)
inductive MA(H:Hp)(t:ZN)(v:V):Prop
 |mk(a u b:_)(_:v=.ref a)(_:H a=some (.tup [.str (kindOf t),.ref u]))(_:H u=some (.tup b))(_:t.h≠0->b=iN t.bs)
theorem MA.mono{H a:Hp}{t:ZN}{v:V}(h:MA H t v)(m:Zt H a):MA a t v:=by
 let⟨f,u,g,e,b,c,d⟩:=h;exact⟨f,u,g,e,m _ _ b,m _ _ c,d⟩
structure U1(H:Hp)(ts:jn)(d:ak)(kvs:List (ZT×V))(F:jk):Prop where
 at_:H d=some (.dK kvs)
 keys:kvs.map (·.1)=kN F
 yes:∀ j:Nat,j∈F->∃ v,YU kvs (Sum.inl (j:Int))=some v/\MA H (gd ts j) v
theorem U1.no{H:Hp}{f:jn}{d:ak}{a:List (ZT×V)}{F:jk}(h:U1 H f d a F){j:Nat}(e:j∉F):YU a (Sum.inl (j:Int))=none:=by
 cases z:YU a (Sum.inl (j:Int)) with
 | none=>rfl
 | some v=>
  have:=Ij z;rw[h.keys] at this;let⟨i,c,b⟩:=zR.mp this;have:i=j:=by have:=Sum.inl.inj b;lia
  exact absurd (this ▸ c) e
theorem U1.len{H:Hp}{b:jn}{d:ak}{a:List (ZT×V)}{F:jk}(h:U1 H b d a F):a.length=F.length:=by
 have:=congrArg wN h.keys;simpa using this
theorem U1.to{H b:Hp}{c:jn}{d:ak}{a:List (ZT×V)}{F:jk}(h:U1 H c d a F)(m:Zt H b)(e:∀ o,H d=some o->b d=some o):U1 b c d a F:=⟨e _ h.at_,h.keys,λj f=>by
 let⟨v,e,r⟩:=h.yes j f;exact⟨v,e,r.mono m⟩⟩
theorem U1.put{H:Hp}{c:jn}{d:ak}{a:List (ZT×V)}{F:jk}(h:U1 H c d a F){j:Nat}(g:j∉F){v:V}(k:MA H (gd c j) v):U1 (upd H d (.dK (Yj a (Sum.inl (j:Int)) v))) c d (Yj a (Sum.inl (j:Int)) v) (F++[j]):=by
 let m:Zt H (upd H d (.dK (Yj a (Sum.inl (j:Int)) v))):=λb n e=>by rw[ZQ (ZV e h.at_)];exact e
 refine⟨ZX,?_,λi f=>?_⟩
 ·rw[LV v (h.no g),zD,h.keys];unfold kN;rw[zD];rfl
 ·rw[Ks];by_cases z:i=j
  ·subst z;exact⟨v,aM Z,k.mono m⟩
  ·rw[aK λy=>z (by have:=Sum.inl.inj y;lia)]
   let⟨l,e,r⟩:=h.yes i ((yW.mp f).elim id λy=>absurd (zH.mp y) z);exact⟨l,e,r.mono m⟩
abbrev VP(l:List (js)):jf:=l.map YR
def pX(a:jn):js->jk
 | none=>[0]
 | some i=>YB a (some i)
theorem CL(a:jn)(o:js):0<(pX a o).length:=by
 cases o with
 | none=>exact Nat.one_pos
 | some i=>exact sW (Qx a _ i)
theorem Gs(a:jn):∀ l:List (js),l.length<=(l.flatMap (pX a)).length
 | []=>zY _
 | o::l=>by
  have:=Gs a l;have:=CL a o;rw[zB,zW,zI]
  lia
theorem Zq.fr{c f:ak}{H h:Hp}{X:Za}{j:ak}{k:jf}(R:Zq c f H X.S X.d j X.lv X.ts X.av X.ho X.as X.kvs k)(m:Zt H h)(a:∀ b o,¬ Zz X j b->H b=some o->h b=some o):Zq c f h X.S X.d j X.lv X.ts X.av X.ho X.as X.kvs k:=by
 let⟨⟨l,n⟩,p,q⟩:=R.sh;refine⟨⟨⟨l,a _ _ (λz=>z.1 Z) n⟩,a _ _ (λz=>z.2.1 Z) p,a _ _ (λz=>z.2.2.1 Z) q⟩,R.lt,R.keys,R.val,R.len,λi g=>?_,R.own,R.two⟩;exact(R.tw i g).frame m (λo e=>a _ _ (λz=>(z.2.2.2 i g).1 Z) e) (λo e=>a _ _ (λz=>(z.2.2.2 i g).2.2 Z) e) (λo e=>a _ _ (λz=>(z.2.2.2 i g).2.1 Z) e)
theorem Ec(t:ZN):decide (V.str (kindOf t)=V.str "stem")=decide (t.h≠0):=by
 by_cases h:t.h=0
 ·rw[Kz h,aI (show ¬ t.h≠0 from λz=>z h)];decide +kernel
 ·rw[Jw h,aJ rfl,aJ h]
inductive Yw(kg kh:ak):Sp
 |mk{X:Za}{lk d:ak}{ls:jf}{r:js}{kvs:List (ZT×V)}{F:jk}{H:Hp}{Q:VK}{E:XK}:Tf kg kh H X lk ls r->U1 H X.ts d kvs F->Zz X lk d->(∀ j∈YB X.ts r,j∉F)->F.length+(YB X.ts r).length<=900->ls.length+(YB X.ts r).length<=389000 ->
  (∀(H':Hp)(kvs':List (ZT×V))(Vs:jk)(ls':jf),(∀ b o,b≠lk->b≠d->H b=some o->H' b=some o)->Zq kg kh H' X.S X.d lk X.lv X.ts X.av X.ho X.as X.kvs ls'->U1 H' X.ts d kvs' (F++Vs)->Vs.Perm (YB X.ts r)->ls'.length=ls.length+Vs.length->Q (.ref d) H')->Yw kg kh [.ref X.S,YR r,.ref d] H Q E
abbrev ZL0:jp:=["_law_shelf","_law_root","_law_found","_law_todo","_law_number","_law_kind","_law_what"]
theorem VA:ZB ZL0 zEl (Zc Ig):=Zs
structure Xy(kg kh:ak)(H H':Hp)(X:Za)(lk:ak)(ls:jf)(d ta:ak)(todo:List (js))(F Vs:jk)(kvs:List (ZT×V))(ls':jf):Prop where
 fr:∀ b o,b≠lk->b≠d->H b=some o->H' b=some o
 sh:Zq kg kh H' X.S X.d lk X.lv X.ts X.av X.ho X.as X.kvs ls'
 len:ls'.length=ls.length+Vs.length
 fnd:U1 H' X.ts d kvs (F++Vs)
 hta:H' ta=some (.lst (VP todo))
 nta:∀ b o,b≠lk->b≠d->H b=some o->b≠ta
 ota:Zz X lk ta
section
variable{H H' H'':Hp}{X:Za}{lk:ak}{ls ls':jf}{d ta:ak}{todo todo':List (js)}{F Vs:jk}{kvs:List (ZT×V)}
theorem Xy.same(r:Xy kg kh H H' X lk ls d ta todo F Vs kvs ls')(s:ZD H' H''):Xy kg kh H H'' X lk ls d ta todo F Vs kvs ls':=
 ⟨λb o a c e=>s b o (r.fr b o a c e),r.sh.same s,r.len,r.fnd.to (ZD.tups s) λo e=>s _ _ e,s _ _ r.hta,r.nta,r.ota⟩
theorem Xy.pop(r:Xy kg kh H H' X lk ls d ta todo F Vs kvs ls'):Xy kg kh H (upd H' ta (.lst (VP todo'))) X lk ls d ta todo' F Vs kvs ls':=by
 let s:ZK ta H' (upd H' ta (.lst (VP todo'))):=(ZK.refl ta H').upd;exact⟨λb o a c e=>s _ _ (r.fr b o a c e) (r.nta b o a c e),r.sh.but s r.hta r.ota,r.len,r.fnd.to (s.tups r.hta) λo e=>s _ _ e (ZV r.fnd.at_ r.hta),ZX,r.nta,r.ota⟩
theorem Xy.anew(r:Xy kg kh H H' X lk ls d ta todo F Vs kvs ls'){q:ak}(c:H' q=none):Xy kg kh H (upd H' q (.lst (VP todo'))) X lk ls d q todo' F Vs kvs ls':=by
 let a:=r.same (Zl c (.lst (VP todo')));exact⟨a.fr,a.sh,a.len,a.fnd,ZX,λb o g h e=>ZZ (r.fr b o g h e) c,r.sh.new c⟩
end
inductive GD(X:Za)(r:js)(d kg kh:ak)(H:Hp)(lk:ak)(ls:jf)(F:jk):Nat->L2.St->Hp->Prop
 |mk{ta:ak}{todo:List (js)}{Vs:jk}{kvs:List (ZT×V)}{ls':jf}{x4 x5 x6:jg}{H':Hp}:Xy kg kh H H' X lk ls d ta todo F Vs kvs ls'->(Vs++todo.flatMap (YB X.ts)).Perm (YB X.ts r)->(todo.flatMap (pX X.ts)).length+Vs.length<=900->(∀ i,some i∈todo->i∈X.lv)->GD X r d kg kh H lk ls F (todo.flatMap (pX X.ts)).length [some (.ref X.S),some (YR r),some (.ref d),some (.ref ta),x4,x5,x6] H'
theorem ZH0(F0:Zg K "_law_reached" "_law_reached" Ig f fd)(T:Yd mg)(L:Yg K mg kg kh)(DL:ZC P w K mg kj ZM 2 kg "look" zEa (Yt kg kh)):ZI P w K mg kj ZM 3 f fd zEl (Yw kg kh):=by
 refine F0.ok VA (λvs H Q E h=>(by cases h;rfl)) (λc7 A c5 s H vs Q E hr h=>?_)
 let⟨t,a8,od,a6,f9,l9,k⟩:=h;rename_i X lk d ls r a4 F
 let nd:=VA.nd;let hu:=OV hr;intro Xc;refine⟨_,ZL (Ze 3 nd (Yk (ZS (pv 1))))
  (ZL (P5 PassesOwn.never (Yb (ZKp hr.units0) (pv 3) (Yk Zu) (Z8 _))
   (ZL (Ze 4 nd (Fa xL PySem.F.slot_list_pop PySem.F.type_list_pop Cv (pv 3)))
   (ZR (Z1 (PW.pt (Ao (Uv (MU (pv 4))) (C9 (Uv (Fh hu (pv 4) (pv 2))))))
    (ZL (NQ (YV (E:=E0) (pv 0) L.cS DL hr YC (ZS (pv 4))) (K0 rfl (NW (WG 5 nd) (NW (WG 6 nd) Kl))))
    (ZL (Lj hu (pv 2) (pv 4) (WC (Zx (pv 5) (Vf LX rfl T.tuple MZ (ZS (pv 6))))) rfl)
    (ZR (Z1 (Yb UD (pv 5) U0 (Z8 _)) (ZR (Ze 3 nd (Zj Ph (pv 3) (Vf Pb rfl T.list Pe (ZS (pv 6)))))) Z2)))) Z2))))
  (ZR (Zh (pv 2)))),?_⟩
 let c6:(YB X.ts r).Nodup:=by
  cases r with
  | none=>exact .nil
  | some i=>exact JV t.fst.wf _ i (t.tp i Z).1 Z
 exists _,Z,YE;intro I Y;let g0:=Zl Y (.lst [YR r]);let I0:Xy kg kh H (upd H I (.lst [YR r])) X lk ls d I [r] F [] a4 ls:=⟨λb o _ _ e=>g0 b o e,t.sh.same g0,Z,by rw[zK];exact a8.to (ZD.tups g0) λo e=>g0 _ _ e,ZX,λb o _ _ e=>ZZ e Y,t.sh.new Y⟩
 let p0:([r].flatMap (YB X.ts))=YB X.ts r:=by rw[zB,xM,zK]
 let m0:([r].flatMap (pX X.ts)).length+([]:jk).length<=900:=by
  rw[zB,xM,zK]
  cases r with
  | none=>show 1<=900;lia
  | some i=>show (YB X.ts (some i)).length<=900;lia
 exists GD X r d kg kh H lk ls F,⟨_,.mk I0 (by rw[vJ,p0]) m0 λi hi=>(t.tp i (zH.mp hi).symm).1⟩
 rintro _ _ H1 (@⟨I,R,Vs,p,D,x4,x5,x6,_,r1,B,g,a3⟩);let vl:=B.length_eq;rw[zW] at vl;exists _,Z,YE;intro e0 c0;let ge:=Zl c0 (.lst []);let N:=r1.same ge;exists I,e0,VP R,Z,Z,ZF.of N.hta,ZF.of ZX,_,Z;generalize upd H1 e0 (.lst [])=H2 at N⊢;rcases sZ R with z | ⟨rest,x,z⟩
 ·subst z;rw[xM,zK] at B;exact Zo ⟨_,Z,k H2 p Vs D N.fr N.sh N.fnd B N.len⟩
 rw[tF] at z;subst z;let a7:(!(VP (rest++[x])).isEmpty)=true:=by simp[VP]
 rw[a7];let eT:VP (rest++[x])=VP rest++[YR x]:=by simp[VP]
 refine YM ⟨_,λ_ _ z=>z,?_⟩;exists _,Z,.inl ⟨Z,_,ZF.of N.hta⟩,I,VP (rest++[x]),YR x,Z,Z,N.hta,by rw[eT];simp
 let c:Xy kg kh H (upd H2 I (.lst (VP (rest++[x])).dropLast)) X lk ls d I rest F Vs p D:=by
  rw[eT,List.dropLast_concat];exact N.pop
 generalize upd H2 I (.lst (VP (rest++[x])).dropLast)=H3 at c⊢;rw[yR,zB,xM,zK] at B g⊢;rw[zW] at g;let C:∀ i,some i∈rest->i∈X.lv:=λi hi=>a3 i (yL _ hi);let px:=CL X.ts x
 cases x with
 | none=>
  refine⟨_,Z,_,Z,Zo (Zo ?_)⟩;refine⟨(rest.flatMap (pX X.ts)).length,by rw[zW];lia,.mk c ?_ ∅ C⟩
  have:YB X.ts none=[]:=rfl;rw[this,zK] at B;exact B
 | some j=>
  let hj:=a3 j (by simp)
  let jm:j∈YB X.ts r:=B.mem_iff.mp (yM _ (yM _ (Qx _ _ j)));let nF:j∉F++Vs:=λy=>by
   rcases yW.mp y with y | y
   ·exact a6 j jm y
   ·have:=B.nodup_iff.mpr c6;rw[yA] at this;exact this.2.2 j y j (yM _ (Qx _ _ j)) Z
  refine⟨_,Z,_,Z,YM ?_⟩;let hg:Yq H3 d (.int (j:Int)) none:=c.fnd.no nF ▸ Yq.k (k:=Sum.inl (j:Int)) c.fnd.at_;refine⟨_,Z,_,Z,d,none,Z,hg,_,Z,YM ?_⟩;let⟨dx,hS⟩:=c.sh.sh.self;let ll:=c.len;let t3:Tf kg kh H3 X lk D r:=⟨c.sh,t.fst,t.tp⟩;exists _,Z,X.S,dx,_,Z,hS,Z,_,Z,X,lk,X.ts.length,D,j,Z,c.sh.q,hj,by lia
  intro H4 tp l G J R4 c2 nl hl w1 w2;let R4:=(t3.of R4).sh;let c8:=c.fnd.at_;let c4:Zt H3 H4:=λb xs e=>J b _ (ZV e c.sh.sh.looks) e;let a9:=c.fnd.to c4 λo e=>J _ _ od.2.2.1 e;let a2:=J _ _ c.ota.2.2.1 c.hta;exists tp,_,Z,Zm.of c2,Z,_,_,Z,_,_,Z,Z;refine⟨_,Z,_,Z,l,G,Z,.inl ⟨ZF.of hl,λu nu=>⟨YE,λU nt=>?_⟩⟩⟩;let g5:=Zl nu (.tup G);let g6:=Zl nt (.tup [.str (kindOf (gd X.ts j)),.ref u]);let m:=g5.trans g6;let eu:=g6 _ _ (ZX (H:=H4) (a:=u) (o:=.tup G));let et:=ZX (H:=upd H4 u (.tup G)) (a:=U) (o:=.tup [.str (kindOf (gd X.ts j)),.ref u]);generalize upd (upd H4 u (.tup G)) U (.tup [.str (kindOf (gd X.ts j)),.ref u])=H6 at m eu et⊢;let V:=a9.to (ZD.tups m) λo e=>m _ _ e;let M:=V.at_;let O:=m _ _ a2;let a1:=m _ _ hl;let R6:=R4.same m;let c3:=V.len;rw[zW] at c3;exists _,Z,_,Z,d,_,Z,Vw.k (k:=Sum.inl (j:Int)) M (Ym ∅)
  let W:=V.put nF (v:=.ref U) ⟨U,u,G,Z,et,eu,w2⟩;let sx:ZK d H6 (upd H6 d (.dK (Yj p (Sum.inl (j:Int)) (.ref U)))):=(ZK.refl d H6).upd;let a5:Zt H6 (upd H6 d (.dK (Yj p (Sum.inl (j:Int)) (.ref U)))):=λb xs e=>sx b _ e (ZV e M);generalize upd H6 d (.dK (Yj p (Sum.inl (j:Int)) (.ref U)))=H7 at sx a5 W⊢;rw[yQ] at W;let r7:Xy kg kh H H7 X lk ls d I rest F (Vs++[j]) (Yj p (Sum.inl (j:Int)) (.ref U)) (D++[.int (j:Int)]):=
   ⟨λb o n1 n2 e=>sx b o (m b o (J b o n1 (c.fr b o n1 n2 e))) n2,R6.fr a5 λb o n e=>sx b o e λz=>n (z ▸ od),by rw[zW,zW,ll];rfl,W,sx _ _ O (ZV O M),c.nta,c.ota⟩
  let c1:=sx _ _ a1 (ZV a1 M);let ok:=t.fst.wf j hj;let pp:pX X.ts (some j)=Zr X.ts j:=rfl;let pq:YB X.ts (some j)=Zr X.ts j:=rfl;rw[pp] at g px;rw[pq] at B;exists _,Z,Z,_,Z;rw[Ec];by_cases h0:(gd X.ts j).h=0
  ·let pl:Zr X.ts j=[j]:=by show YH X.ts (gd X.ts j).h j=_;rw[h0];rfl
   rw[pl] at B g;rw[aI (show ¬ (gd X.ts j).h≠0 from λz=>z h0)];refine Zo ⟨(rest.flatMap (pX X.ts)).length,by rw[zW,pp];lia,.mk r7 ?_ (by rw[zW];simp at g⊢;lia) C⟩
   refine xI.trans ?_ B;rw[yQ];exact(tW).append_left _
  ·rw[aJ (show (gd X.ts j).h≠0 from h0)];let⟨b2,b4,b3,_⟩:=ok.stem h0;let ps:=J6 t.fst.wf hj h0;rw[ps] at B g;let a0:=w2 h0;let e2:G.length=(gd X.ts j).bs.length:=by rw[a0];exact zX _
   let e1:(VP rest).length=rest.length:=zX _;let c9:=Gs X.ts rest;let fb:((gd X.ts j).bs.map some).flatMap (pX X.ts)=(gd X.ts j).bs.flatMap (Zr X.ts):=by rw[List.flatMap_map];rfl
   let fc:((gd X.ts j).bs.map some).flatMap (YB X.ts)=(gd X.ts j).bs.flatMap (Zr X.ts):=by rw[List.flatMap_map];rfl
   refine YM ⟨_,Z,_,Z,l,G,Z,.inl (ZF.of c1),λq1 n1=>?_⟩;let g8:=Zl n1 (.lst G);let r8:=r7.same g8;exists I,q1,VP rest,G,Z,Z,r8.hta,ZX,nn ∅
   intro q2 n2;let e9:VP rest++G=VP (rest++(gd X.ts j).bs.map some):=by
    rw[a0];simp[VP,iN,YR]
   rw[e9];refine⟨_,?_,.mk (todo:=rest++(gd X.ts j).bs.map some) (r8.anew n2) ?_ ?_ λi hi=>?_⟩
   ·rw[yR,fb,zW,zW,pp,ps,zI]
    lia
   ·rw[yR,fc];refine xI.trans ?_ B;rw[yQ];refine xI.append_left Vs ?_;rw[List.singleton_append];exact sQ.symm
   ·rw[yR,fb,zW,zW];rw[zI] at g;simp only[vY]
    lia
   ·rcases yW.mp hi with z | z
    ·exact C i z
    ·let⟨b,hb,e⟩:=zR.mp z;cases e;exact(b3 i hb).1
end Tw
namespace L2
open PySem PySem.Spec PyProof.Rows
abbrev kI:Ko:=⟨oneType',λp=>numOf p.1,λp=>∃ n t,p.1=.int n t⟩
theorem ZQf:@KoOk kI prog w A s:=@KoOk.mk kI _ _ _ _ fun{E p q Q} e f h=>by
 let⟨⟨a,t,c⟩,b,u,d⟩:=And.intro e f;show aB (aA prog w) A (keyLt' oneType' p.1 q.1) Q E s;let h:Q (decide (numOf p.1<numOf q.1)) s:=h;rw[keyLt'_oneType,c,d];rw[c,d] at h;exact oneLt_int h
theorem Bw{a:ak}{b:je}{t:jy}{n:Nat}{P:PySem.Fin->am->Prop}(i:s.heap.get? a=some (seqObj "list" b.toArray n))(g:IntsAre b t)(H:b.length<1000)(h:∀ (f:jt) (d:jy),IntsAre f.toList d->d.Perm t->d.Pairwise (· <= ·)->P (.done (.ret .none)) { s with heap:=sortedHeap s.heap a b f }):aB (aA prog w) A (Builtin.«list.sort» { pos:=[.ref a] }) P E s:=by
 rcases xG b.length 64 with c | c
 ·exact list_sort_tree i g c h
 let q:b.length<=sizeLine:=xX (Ym ∅)
 rw[list_sort_plain];refine aa (listItems_at i Z (aa (listUpdate_at i rfl ?_ (by rw[zP];exact q) (zM _))))
 obtain⟨m,e⟩:∃ m,(s.heap.update a (Obj.mapSeq λ_=>(#[]:jt))).get? a=some (seqObj "list" #[] m):=⟨_,get?_update_seq i λ_=>#[]⟩;refine aa (seqEpoch_at e Z (aa (wpAny_newTuple (aa (wpAny_newList (af ?_) (zM _))) (by show b.length<=_;exact q))))
 let u:(((s.heap.update a (Obj.mapSeq λ_=>(#[]:jt))).push (seqObj "tuple" b.toArray 0)).push (seqObj "list" #[] 0)).get? a=some (seqObj "list" #[] m):=zA _ (zA _ e);dsimp only;rw[aK (by rw[zP];lia),aK (by rw[zP];lia)]
 obtain⟨k,l,rest,v⟩:∃ k l rest,b=k::l::rest:=by
  match b,c with
  | k::l::rest,_=>exact⟨k,l,rest,Z⟩
 let D:keyKind' b.toArray=pure oneType':=by
  subst v;exact keyKind_ints g
 rw[D];refine aa (ad ?_);let F:(pairsOf b).size=b.length:=pairsOf_size b;have:=ZQf (prog:=prog) (w:=w) (A:=A) (s:={ s with heap:=((s.heap.update a (Obj.mapSeq λ_=>(#[]:jt))).push (seqObj "tuple" b.toArray 0)).push (seqObj "list" #[] 0) });refine aa (Z3 (Gr (κ:=kI) (a₀:=pairsOf b) (st:=SortSt.mk' oneType' (pairsOf b) #[] 7 none) (Q:=λ_ z=>(jQ z).Perm (pairsOf b)/\failedOf z=none/\PyProof.Rows.SortedTo (jQ z) (pairsOf b).size) g.intKeys (@TB.mk kI _ _ _ (.refl _) rfl rfl rfl) ∅ λz j o p=>⟨j,o,p⟩) λr G x=>?_)
 let⟨⟨⟩,z⟩:=r;let⟨rfl,j,o,p⟩:=x;let⟨d,y,B,C⟩:=sorted_out g j p;dsimp only;refine aa (seqEpoch_at u Z (aa (listUpdate_at u rfl ?_ (zM _) (by rw[Array.size_map,j.size_eq,F];lia))))
 rw[o];simp only[bne_self_eq_false,xE,if_false];exact ad (h _ d y B C)
section
variable{T:String}{r d:ak}{n:Nat}{P:Nat->aj->Prop}{OK:aD->Prop}
theorem ZGO{Q:ja}{ns:jy}(K:sS prog w T r d n P OK)(H:A.handled=none)(u:OK s.heap)(I:n<=ar)(D:∀ f,ItemsOf P f n->IntsAre f.toList ns)(t:n<1000)(F:∀ p x a h g c,(∀ b o,s.heap.get? b=some o->p.get? b=some o)->s.heap.objs.size<=a->IntsAre h g->g.Perm ns->g.Pairwise (· <= ·)->p.get? a=some { cls:=.type "list",data:=.seq h.toArray c }->Q (.ref a) { s with heap:=p,toks:=x }):
  aB (aA prog w) A (call (.builtin "sorted") [.ref r]) Q E s:=by
 refine Calls.call_function_entry kind_sorted plain_sorted entry_sorted (args_sorted1 _) ?_;unfold Builtin.«sorted»;refine aa (m:=checkCount "sorted" 1 1 _) (ad ?_);refine aa (FZ K H u I λq x f J v i=>?_);let C:=D f i;let k:f.toList.length<1000:=by rw[yH,i.1];exact t
 refine aa (wpAny_newList ?_ (hsz:=xX (Ym ∅)))
 let j:(q.push (seqObj "list" f.toList.toArray 0)).get? q.objs.size=some (seqObj "list" f.toList.toArray 0):=yO _ Z;refine aa (af (wpAny_call_entry slot_list_sort ⟨_,j,rfl⟩ entry_list_sort (Bw j C k λh g y z B=>⟨_,Z,?_⟩) (args_list_sort _)));refine ad ⟨_,Z,?_⟩;let⟨c,G⟩:=sortedHeap_at (vs:=f.toList) (out:=h) j;refine F _ x q.objs.size h.toList g c (λb o e=>?_) (xX v) y z B (by rw[Array.toArray_toList];exact G)
 let l:=J b o e;rw[sortedHeap_old (yK (zG l)) (by rw[size_push'];exact Nat.lt_succ_of_lt (zG l))]
 exact zA _ l
end
inductive Ux:jf->Hp->VK->Prop
 |mk{H:Hp}{Q:VK}(a:ak)(kvs:List (ZT×V))(ns:jy):H a=some (.dK kvs)->kvs.map (·.1)=ns.map Sum.inl->ns.length<1000->(∀(p:ak)(ns':jy),H p=none->ns'.Perm ns->ns'.Pairwise (· <= ·)->Q (.ref p) (upd H p (.lst (ns'.map V.int))))->Ux [.ref a] H Q
theorem EX(E:X.calm=true):Va X (.builtin "sorted") Ux:=by
 intro t s Y H U T Q I r h;let⟨a,j,k,D,m,g,q⟩:=h;let⟨u,rfl,L⟩:=UV r;cases L;let⟨z,K,O,kv,B⟩:=KB I.hok D;let R:k.length=j.length:=by have:=congrArg wN m;simpa using this.symm
 let S:=KV.length kv;let⟨y,A⟩:=B.dictAt;refine ZGO (ns:=k) (PySem.W.kdl_dict (knd:=Wv X.prog X.w) (kvs:=O) (ep:=y) K) (I.ok.hd E) A ∅ (λf b=>ZIx kv m f.toList (by rw[yH];exact b.1) λi v e=>?_) ∅ λP M p l d c G n C x N F=>?_
 ·exact b.2 i v (by rw[<-yP];exact e)
 ·let J:d.length=k.length:=x.length_eq;exact⟨.ref p,_,I.laid (a:=p) (o:=.lst (d.map V.int)) (t':=M) G n ⟨by rw[zX,J];exact xX (Ym (xX g)),l,c,ZFS C,F⟩,Z,q p d (I.hok.fresh n) x N⟩
theorem ZLE{c:jf}{b:je}(h:ZO c b)(f:c.all P0=true):∀ u∈b,∃ y,ZP y u/\P0 y=true:=by
 induction h with
 | nil=>intro u a;cases a
 | cons r t d=>
  rw[uU,zF] at f;intro u a;rcases zL.mp a with e | e
  ·rw[e];exact⟨_,r,f.1⟩
  ·exact d f.2 u e
theorem FI{x:V}:∀{a:jf}{b:je},ZO a b->a.all P0=true->b.countP (Iz x)=a.countP λy=>PQ y x
 | [],_,.nil,_=>rfl
 | y::a,_,.cons r t,f=>by
  rw[uU,zF] at f;rw[sJ,sJ,FI t f.2,ET r f.1]
inductive Uo:V->jf->Hp->VK->Prop
 |mk{l:ak}{xs:jf}{y:V}{H:Hp}{Q:VK}:H l=some (.lst xs)->xs.all P0=true->P0 y=true->Q (.int (xs.countP (λz=>PQ z y):Nat)) H->Uo (.ref l) [y] H Q
theorem ZKb:Nh X "list.count" Uo:=by
 intro c s D H x B v A Q I o m h;let⟨g,b,f,q⟩:=h;rename_i l p y
 cases o;let⟨u,rfl,k⟩:=m.one;let⟨z,j,n,r,t,e⟩:=I.lstM g;refine call_meets F.slot_list_count ⟨_,e,Z⟩ F.entry_list_count (F.args_list_count_2 _ _) (PySem.SeqAt.list_countAt l _ n none #[] u (Iz y)) ⟨e,λw i=>?_,?_⟩
 ·let⟨C,d,a⟩:=ZLE r b w (List.mem_toArray.mp i);rw[ET d a];exact ZPu d k a f
 ·refine⟨.int (p.countP (λz=>PQ z y):Nat),H,I.tok _,⟨s.toks,?_⟩,q⟩;rw[rQ,FI r b]
end L2
namespace Tw
open PySem PySem.Spec L2 PyProof.Rows
inductive Q1(d:zZ)(x y:V)(H:Hp)(Q:VK):Prop
 |mk(a b:ak)(f g:jf)(c e:jo)(_:x=.ref a)(_:y=.ref b)(_:ZF d H a f)(_:ZF d H b g)(_:jX H c f)(_:jX H e g)(_:∀ t∈c,t.depth<=100)(_:Q (.bl (!jZ c e)) H)
theorem Nt{k:Nat}(Y:ZU k X.A):Y4 X (az .NotEq) (Q1 X.K):=by
 intro E s σ H x y v u Q I rx ry h;let⟨a,b,xs,ys,f,g,rfl,rfl,U,V,z,B,W,q⟩:=h;cases rx;cases ry;let⟨d,F,C,z1⟩:=I.list U;let⟨c,G,D,z2⟩:=I.list V;let l1:=F.length;let l2:=G.length;let m1:=z.length;let m2:=B.length;let un:=Y.un;by_cases p:d.length=c.length
 ·refine PySem.SeqAt.RcNeAt.lists (e:=λj=>(f.getD j (.int 0)).eqb (g.getD j (.int 0))) C.isList D.isList (by simpa using p) ∅ (λj n o=>?_) X.prog X.w X.xe _ ⟨.bl _,H,I,Z,?_⟩
  ·let r:j<xs.length:=by simp at n;lia
   let t:j<ys.length:=by simp at o;lia
   let⟨l,m,M⟩:=z.get (zV r);let⟨t2,R,N⟩:=B.get (zV t);let⟨J,S,O⟩:=F.get (zV r);let⟨L,T,P⟩:=G.get (zV t);let q1:d.toArray[j]=J:=by
    have:d.toArray[j]? = some J:=by simpa using S
    rw[xA n] at this;exact yT.inj this
   let q2:c.toArray[j]=L:=by
    have:c.toArray[j]? = some L:=by simpa using T
    rw[xA o] at this;exact yT.inj this
   rw[q1,q2,zU,zU,m,R];let dp:=W l (zJ m);exact Pv l.depth l t2 _ _ _ (zY _) (VZ I _ _ _ M O) (VZ I _ _ _ N P) (by show X.A.units+1+_<_;lia)
  ·let e:=OO f g;let i:min f.length g.length=d.toArray.size:=by simp;lia
   rw[i,show (f.length==g.length)=true by simp;lia,rJ] at e
   rw[e];exact q
 ·refine PySem.SeqAt.RcNeAt.lists_lengths C.isList D.isList (by simpa using p) ∅ X.prog X.w X.xe _ ⟨.bl _,H,I,Z,?_⟩
  let e:=OO f g;rw[show (f.length==g.length)=false by simp;lia,tN] at e
  rw[<-e] at q;exact q
theorem ZNN{X:Cx}{K:zZ}{e:Expr}{f:Str}{pos:Pos}{a:TE}(d:PE X e a)(c:attributeBase e f X.env (aG e X.env)=aG e X.env)(b:X.K=K:=by rfl):PE X (.Attribute e f pos) (FT K a f):=by
 subst b;exact XS d c
structure Sv(kg kh CTb:ak)(H:Hp)(X:Za)(lk:ak)(ls:jf)(Ts:List (ak×js)):Prop where
 sh:Zq kg kh H X.S X.d lk X.lv X.ts X.av X.ho X.as X.kvs ls
 fst:VT X.lv X.ts X.av X.ho
 up:X.lv.Pairwise (· < ·)
 cov:X.lv.Perm ((Ts.map (·.2)).flatMap (YB X.ts))
 tab:∀ p∈Ts,YL CTb H p.1 X.S p.2/\Zz X lk p.1
 tp:∀ p∈Ts,∀ i,p.2=some i->i∈X.lv/\Tp X.av X.ho i
theorem Sv.tf{a b c:ak}{H:Hp}{X:Za}{e:ak}{f:jf}{d:List (ak×js)}(s:Sv a b c H X e f d){p:ak×js}(g:p∈d):Tf a b H X e f p.2:=⟨s.sh,s.fst,s.tp p g⟩
theorem Cn{b:jn}{j:Nat}:∀{a:List (js)},(a.flatMap (YB b)).Nodup->some j∈a->a.countP (λo=>decide (o=some j))=1
 | o::a,nd,h=>by
  rw[zB,yA] at nd;rw[sJ];by_cases c:o=some j
  ·have:a.countP (λo=>decide (o=some j))=0:=List.countP_eq_zero.mpr λx d y=>by
    let y:=of_decide_eq_true y;rw[y] at d;rw[c] at nd;exact nd.2.2 j (Qx b _ j) j (yI.mpr ⟨some j,d,Qx b _ j⟩) Z
   rw[this,aM (aJ c)]
  ·rw[aK (λy=>c (of_decide_eq_true y)),Cn nd.2.1 ((zL.mp h).resolve_left (Ne.symm c))]
theorem ZOj(a:List (js))(j:Nat):(a.map YR).countP (λz=>PQ z (.int (j:Nat)))=a.countP (λo=>decide (o=some j)):=by
 rw[List.countP_map];refine List.countP_congr λo _=>?_
 cases o with
 | none=>exact⟨λh=>(by cases h),λh=>(by cases h)⟩
 | some i=>
  show ((i:Int)==(j:Int))=true ↔ decide (some i=some j)=true;simp
  lia
theorem ZNa(a:List (js)):(a.map YR).all P0=true:=by
 rw[uE];exact xY.mpr λo _=>by cases o <;> rfl
theorem BQ{d g f:ak}{H:Hp}{X:Za}{x:ak}{A:jf}{l:List (ak×js)}(s:Sv d g f H X x A l){F:jk}(k:F.Perm X.lv){j:Nat}(u:j∈F):
  X.ho j=(l.map (·.2)).countP (λo=>decide (o=some j))/\(X.av j).length=if j∈F.flatMap (λi=>(gd X.ts i).bs) then 1 else 0:=by
 let B:=s.cov.nodup_iff.mp s.fst.nd;by_cases c:j∈F.flatMap (λi=>(gd X.ts i).bs)
 ·let⟨p,v,t⟩:=yI.mp c;let⟨m,r⟩:=s.fst.hb p (k.mem_iff.mp v) j t;rw[aM c,m,r];refine⟨(List.countP_eq_zero.mpr λo b y=>?_).symm,Z⟩;let y:=of_decide_eq_true y;let⟨q,h,rfl⟩:=zR.mp b;have:=(s.tp q h j y).2.1;rw[m] at this;cases this
 ·rw[aK c];let⟨o,b,a⟩:=yI.mp (s.cov.mem_iff.mp (k.mem_iff.mp u));let⟨q,h,e⟩:=zR.mp b
  cases o with
  | none=>cases a
  | some i=>
   let⟨w,n⟩:=s.tp q h i e;rcases Jf X.ts _ i j a with z | ⟨p,C,D⟩
   ·rw[z,n.1,n.2];exact⟨(Cn B b).symm,Z⟩
   ·exact absurd (yI.mpr ⟨p,k.mem_iff.mpr (NC s.fst.wf _ i w rfl p C),D⟩) c
theorem ZMu{k F:jk}{d:jn}{l:Nat->jk}{p:Nat->Nat}(s:VT k d l p)(c:F.Perm k):(F.flatMap λi=>(gd d i).bs).Nodup:=by
 refine tX.mpr ⟨λi j=>?_,(c.nodup_iff.mpr s.nd).imp_of_mem fun{a b} n o h x q y r e=>?_⟩
 ·by_cases f:(gd d i).h=0
  ·rw[((s.wf i (c.mem_iff.mp j)).leaf f).1];exact .nil
  ·exact ZQN s.wf (c.mem_iff.mp j) f
 ·let m:=(s.hb a (c.mem_iff.mp n) x q).1;let g:=(s.hb b (c.mem_iff.mp o) y r).1;rw[<-e,m] at g;cases g;exact h Z
theorem Fm:∀{l m:jk},l.Nodup->(∀ x∈l,x∈m)->l.length<=m.length
 | [],_,_,_=>zM _
 | a::l,m,nd,h=>by
  let d:=xU.mp nd;let e:=Fm (m:=m.erase a) d.2 λx c=>(List.mem_erase_of_ne (show x≠a from λz=>d.1 (z ▸ c))).mpr (h x (zQ _ c));let b:=h a zS;rw[List.length_erase_of_mem b] at e;have:=sW b;rw[zI]
  lia
def Q4(B:jk):List (ZT×V):=B.map λb:Nat=>((Sum.inl (b:Int):ZT),V.int 1)
theorem IR(B:jk)(j:Nat):YU (Q4 B) (Sum.inl (j:Int))=if j∈B then some (.int 1) else none:=by
 induction B with
 | nil=>rfl
 | cons b B a=>
  by_cases c:b=j
  ·subst c;rw[aM zS];exact UP Z
  ·have:YU (Q4 (b::B)) (Sum.inl (j:Int))=YU (Q4 B) (Sum.inl (j:Int)):=UU (λz=>c (by have:=Sum.inl.inj z;lia))
   rw[this,a];simp[Ne.symm c]
theorem ZNM{B:jk}{j:Nat}(h:j∉B):Yj (Q4 B) (Sum.inl (j:Int)) (.int 1)=Q4 (B++[j]):=by
 rw[LV _ (by rw[IR,aK h])]
 unfold Q4;rw[zD];rfl
theorem IW{H:Hp}:∀(l:jy),jX H (l.map KT.int) (l.map V.int)
 | []=>.nil
 | b::l=>.cons (.int _) (IW l)
abbrev zN(l:jk):jy:=l.map λi:Nat=>(i:Int)
section
variable{kg kh CTb:ak}
abbrev HJ:Stmt:=WB (top 70) 16
abbrev JA:Stmt:=WB (top 70) 17
inductive VS(kg kh:ak):Sp
 |mk{X:Za}{a:ak}{b:jf}{H:Hp}{Q:VK}{E:XK}:Zq kg kh H X.S X.d a X.lv X.ts X.av X.ho X.as X.kvs b->Q (.int (X.lv.length:Nat)) H->VS kg kh [.ref X.S] H Q E
theorem ZPb:ZB zEh zEh (Zc JA):=Zs
theorem ZNw(F:Zg K "many" "Shelf.many" JA f fd)(T:Yd mg)(L:Yg K mg kg kh):ZI P w K mg kj ZM 1 f fd zEh (VS kg kh):=by
 refine F.ok ZPb (λg H Q E h=>(by cases h;rfl)) (λb A a s H g Q E i h=>?_)
 let⟨R,k⟩:=h;rename_i X j l
 let⟨c,e⟩:=R.sh.self;rw[<-Jp R] at k;exact⟨_,ZR (Zh (YG E7 rfl T.len XG (ZS (XS (pv 0) rfl)))),_,Z,X.S,kg,c,_,.ref X.d,Z,e,L.cS,L.nk,Z,X.d,X.kvs,Z,R.sh.kept,k⟩
inductive YW(kg kh:ak):Sp
 |mk{X:Za}{a:ak}{b:jf}{H:Hp}{Q:VK}{E:XK}:Zq kg kh H X.S X.d a X.lv X.ts X.av X.ho X.as X.kvs b->X.lv.Pairwise (· < ·)->X.lv.length<1000->(∀ p,H p=none->Q (.ref p) (upd H p (.lst ((zN X.lv).map V.int))))->YW kg kh [.ref X.S] H Q E
theorem ZJ5:ZB zEh zEh (Zc HJ):=Zs
theorem Ew{l:jk}{c:jy}(u:l.Pairwise (· < ·))(g:c.Perm (zN l))(s:c.Pairwise (· <= ·)):c=zN l:=by
 refine xI.eq_of_pairwise (le:=(· <= ·)) (λa b _ _ d e=>Int.le_antisymm d e) s ?_ g;unfold zN;rw[uY];exact u.imp fun{a b} h=>by show (a:Int)<=(b:Int);lia
theorem ZID(F:Zg K "numbers" "Shelf.numbers" HJ f fd)(T:Yd mg)(L:Yg K mg kg kh):ZI P w K mg kj ZM 1 f fd zEh (YW kg kh):=by
 refine F.ok ZJ5 (λm H Q E h=>(by cases h;rfl)) (λb A a s H m Q E o h=>?_)
 let⟨R,u,g,k⟩:=h;rename_i X q r
 let⟨c,e⟩:=R.sh.self;intro n;refine⟨_,ZR (Zh (YG (EX rfl) rfl T.sorted Cg (ZS (XS (pv 0) rfl)))),_,Z,X.S,kg,c,_,.ref X.d,Z,e,L.cS,L.nk,Z,.mk X.d X.kvs (zN X.lv) R.sh.kept (by rw[R.keys];unfold zN;rw[vN];rfl) (by rw[zX];exact g) λp t i j l=>?_⟩
 rw[Ew u j l];exact k p i
inductive Xv(kg kh CTb:ak):Sp
 |mk{X:Za}{lk tl:ak}{ls:jf}{Ts:List (ak×js)}{H:Hp}{Q:VK}{E:XK}:Sv kg kh CTb H X lk ls Ts->H tl=some (.lst (Ts.map λp=>V.ref p.1))->Zz X lk tl->X.lv.length<=800->ls.length<=300000->Ts.length<=10 ->
  (∀(H':Hp)(ls':jf),(∀ b o,b≠lk->H b=some o->H' b=some o)->Zq kg kh H' X.S X.d lk X.lv X.ts X.av X.ho X.as X.kvs ls'->ls'.length<=ls.length+800->Q (.bl true) H')->Xv kg kh CTb [.ref X.S,.ref tl] H Q E
abbrev ZOe:jp:=["_law_shelf","_law_tables","_law_found","_law_above","_law_roots","_law_root","_law_number","_law_one","_law_outside"]
theorem U7:ZB ZOe zEq (Zc Km):=Zs
inductive Hq(kg kh:ak)(X:Za)(lk d1:ak)(σ0:jg->L2.St)(ls:jf)(os:List (js))(H1:Hp):Nat->L2.St->Hp->Prop
 |mk{i:Nat}{x5:jg}{kvs:List (ZT×V)}{F:jk}{ls':jf}{H:Hp}:(∀ b o,b≠lk->b≠d1->H1 b=some o->H b=some o)->Zq kg kh H X.S X.d lk X.lv X.ts X.av X.ho X.as X.kvs ls'->U1 H X.ts d1 kvs F->F.Perm ((os.take i).flatMap (YB X.ts))->ls'.length=ls.length+F.length->Hq kg kh X lk d1 σ0 ls os H1 i (σ0 x5) H
inductive CM(ts:jn)(d1 d2:ak)(σ0:jg->jg->L2.St)(o:aH)(kvs:List (ZT×V))(F:jk)(H6:Hp):Nat->L2.St->Hp->Prop
 |mk{i:Nat}{x6 x7:jg}{H:Hp}:(∀ b u,b≠d1->b≠d2->H6 b=some u->H b=some u)->H d1=some (.frz o (.dK kvs))->H d2=some (.dK (Q4 ((F.take i).flatMap λj=>(gd ts j).bs)))->CM ts d1 d2 σ0 o kvs F H6 i (σ0 x6 x7) H
inductive Di(d1 d2:ak)(σ0:jg->L2.St)(o:aH)(kvs:List (ZT×V))(B bs:jk)(H6:Hp):Nat->L2.St->Hp->Prop
 |mk{i:Nat}{x7:jg}{H:Hp}:(∀ b u,b≠d1->b≠d2->H6 b=some u->H b=some u)->H d1=some (.frz o (.dK kvs))->H d2=some (.dK (Q4 (B++bs.take i)))->Di d1 d2 σ0 o kvs B bs H6 i (σ0 x7) H
inductive Dm(d1:ak)(σ0:jg->jg->L2.St)(o:aH)(kvs:List (ZT×V))(H7:Hp):Nat->L2.St->Hp->Prop
 |mk{i:Nat}{x6 x8:jg}{H:Hp}:(∀ b u,b≠d1->H7 b=some u->H b=some u)->H d1=some (.frz o (.dK kvs))->Dm d1 σ0 o kvs H7 i (σ0 x6 x8) H
theorem C3(F0:Zg K "_law_exact" "_law_exact" Km f fd)(T:Yd mg)(L:Yg K mg kg kh)(LT:QZ K mg CTb)(DR:ZA P w K mg kj 3 "_law_reached" zEl (Yw kg kh))(DN:ZC P w K mg kj ZM 1 kg "numbers" zEh (YW kg kh))(DY:ZC P w K mg kj ZM 1 kg "many" zEh (VS kg kh))(l4:ZC P w K mg kj ZM 2 kg "outside" zEa (Xb kg kh λ_ ho _=>.int ho))(l3:ZC P w K mg kj ZM 2 kg "holders" zEa (Xb kg kh λ_ ho us=>.int ((us.length:Nat)+(ho:Nat):Int))):ZI P w K mg kj ZM 5 f fd zEq (Xv kg kh CTb):=by
 refine F0.ok U7 (λvs H Q E h=>(by cases h;rfl)) (λo3 A n8 s H vs Q E hr h=>?_)
 let⟨G,n3,o7,l8,o4,o8,k⟩:=h;rename_i X lk tl ls Ts
 let nd:=U7.nd;let hu:=OV hr;let i4:=hr.mono (show 1<=4 by lia)
 let i5:=hr.mono (show 2<=4 by lia)
 let m8:=hr.mono (show 3<=4 by lia)
 intro Xc;refine⟨_,ZL (Ze 2 nd IM)
  (ZL (Ze 3 nd IM)
  (ZL (O8 (i:=4) [] [] nd rfl rfl rfl (X9 (pv 1)) (λ_ _ _ _ _=>Wc) (λ_ _ _ _ _=>ZNN (K:=K) (pv 0) Z) trivial)
  (ZL (VD PassesOwn.never rfl (X9 (pv 4)) (WG 5 nd) (ZR (XT (Zf DR m8 (UA (pv 0) (pv 5) (pv 2))))))
  (ZL (Z1 (PW.pt (UQ (Yb (Nt hr) (P6 (E:=E0) (pv 0) L.cS DN i4 YC) (YG (EX rfl) rfl T.sorted Cg (ZS (pv 2))) (Z8 _)) (QP (Yb NG (P6 (E:=E0) (pv 0) L.cS DY i4 YC) (YG E7 rfl T.len XG (ZS (pv 2))) (Z8 _))))) WY Z2)
  (ZL (Id (VD PassesOwn.never rfl (Ky (pv 2)) (WG 6 nd) (ZR (Z1 (Yb UD (Yx K (M0 hu (pv 2) (pv 6)) ZJ) U0 (Z8 _))
   (ZR (VD PassesOwn.never rfl (KG (Yx K (M0 hu (pv 2) (pv 6)) ZJ)) (WG 7 nd) (ZR (Lj hu (pv 3) (pv 7) (Zj Xg (Jx hu (pv 3) (pv 7) ZJ ⟨rfl,rfl,rfl,rfl⟩) ZJ) rfl)))) Z2))))
  (ZL (Id (VD PassesOwn.never rfl (Ky (pv 2)) (WG 6 nd)
   (ZL (Ze 8 nd (Qo xL PySem.F.slot_list_count PySem.F.type_list_count ZKb (pv 4) (ZS (pv 6))))
   (ZR (Z1 (PW.pt (UQ (Yb NG (YV (E:=E0) (pv 0) L.cS l4 i5 YC (ZS (pv 6))) (pv 8) (Z8 _)) (QP (Yb NG (YV (E:=E0) (pv 0) L.cS l3 i5 YC (ZS (pv 6))) (Zj Xg (pv 8) (Jx hu (pv 3) (pv 6) ZJ ⟨rfl,rfl,rfl,rfl⟩)) (Z8 _))))) WY Z2)))))
  (ZR (Zh ME)))))))),?_⟩
 intro x n1;let⟨H1,eU,g1,e1⟩:=YD n1 (.dK []);rw[eU];intro N n2;let⟨H2,eU,g2,e2⟩:=YD n2 (.dK []);rw[eU];let s2:=g1.trans g2;let a3:x≠N:=ZZ e1 n2;let e1:=g2 _ _ e1;let R:=s2 _ _ n3;let i9:Zz X lk x:=G.sh.new n1;let l0:Zz X lk N:=(G.sh.same g1).new n2;refine⟨_,Z,tl,Z,⟨_,ZF.of R⟩,WT (n:=Ts.length) (λi z=>(Ts.map λp=>V.ref p.1)[i]? = some z) (λD i ys H3=>ZD H2 H3/\H2 D=none/\ys=((Ts.map (·.2)).take i).map YR) (Ym ∅)
  (λD i ys H3 hi M=>⟨_,(Ts.map λp=>V.ref p.1)[i]'(by rw[zX];exact hi),ZF.of (M.1 _ _ R),zV _⟩) (λD i ys H3 z H4 hi M hy=>⟨hy.1,hy.2 _ (ZF.of (M.1 _ _ R))⟩) (λD ys H3 M=>⟨_,ZF.of (M.1 _ _ R),by rw[zX];exact zY _⟩)
  (λD hD=>⟨Zl hD _,hD,Z⟩) (λD i ys H3 z eD o5 hi hz M RR m4=>?_) (λrl ys H3 eD M=>?_)⟩
 ·let⟨s3,nD,rfl⟩:=M;rw[zC] at hz;let⟨p,ep,rfl⟩:=xZ.mp hz;let⟨⟨dx,hT⟩,oT⟩:=G.tab p (zJ ep);refine⟨_,Z,p.1,CTb,dx,_,YR p.2,Z,s3 _ _ (s2 _ _ hT),LT.cT,LT.nr,Z,m4 _ H3 eD ⟨VQ s3 nD,nD,?_⟩⟩;rw[yS,zC,ep,zD];rfl
 let⟨s3,e3,rfl⟩:=M;rw[zE (by rw[zX];exact zY _)] at eD
 let R2:=G.sh.same s2;let l1:Zz X lk rl:=R2.new e3;let e4:rl≠x:=(ZZ e1 e3).symm;let o1:rl≠N:=(ZZ e2 e3).symm;generalize c9:Ts.map (·.2)=os at eD;let a8:=G.cov;rw[c9] at a8;let e1:=s3 _ _ e1;let e2:=s3 _ _ e2;let l2:=s2.trans s3;let R3:=G.sh.same l2;let l7:=a8.nodup_iff.mp G.fst.nd;let e7:=a8.length_eq;refine⟨_,Z,rl,Z,⟨_,ZF.of eD⟩,PR (K:=K) (a:=rl) (xs:=os.map YR) (Hq kg kh X lk x (λx5=>[some (.ref X.S),some (.ref tl),some (.ref x),some (.ref N),some (.ref rl),x5,none,none,none]) ls os H3) (.mk (x5:=none) (kvs:=[]) (F:=[]) (λb o _ _ e=>e) R3 ⟨e1,rfl,λj hj=>by cases hj⟩ (xI.refl _) rfl) (λi σ H4 _ M=>by let⟨fr,_⟩:=M;exact ZF.of (fr _ _ l1.2.2.1 e4 eD)) ?_ ?_⟩
 ·rintro i u _ H4 hu ⟨c6,R4,I,Y,i8⟩;rename_i x5 g F W
  rw[zC] at hu;let⟨o,eo,rfl⟩:=xZ.mp hu;let hs:os=os.take i++o::os.drop (i+1):=by
   let⟨hi,e⟩:=yZ.mp eo;rw[<-e,<-xB hi,yD]
  let et:os.take (i+1)=os.take i++[o]:=by rw[yS,eo];rfl
  let a2:=l7;let a1:=e7;rw[hs,yR,zB] at a2 a1;rw[yA] at a2;rw[zW,zW] at a1;let lF:=Y.length_eq;let⟨p,hp,ep⟩:=zR.mp (by rw[c9];exact zJ eo:o∈Ts.map (·.2))
  let t4:Tf kg kh H4 X lk W o:=⟨R4,G.fst,λj e=>G.tp p hp j (ep.trans e)⟩;refine⟨_,Z,_,Z,_,Z,.mk t4 I i9 (λj hj y=>?_) ∅ ∅ λH5 o2 Vs o6 m3 R5 i1 o0 n5=>?_⟩
  ·exact a2.2.2 j (Y.mem_iff.mp y) j (yL _ hj) Z
  ·refine .mk (λb o n1 n2 e=>m3 b o n1 n2 (c6 b o n1 n2 e)) R5 i1 ?_ (by rw[n5,i8,zW];lia)
   rw[et,yR,zB,xM,zK];exact(Y.append_right _).trans (o0.append_left _)
 rintro _ H4 ⟨c6,R4,I,Y,i8⟩;rename_i x5 g F W
 rw[zX,zE (zY _)] at Y;let O:F.Perm X.lv:=Y.trans a8.symm;let lF:=O.length_eq;let⟨dS,hS⟩:=R4.sh.self;refine⟨_,Z,X.S,dS,_,Z,hS,Z,.mk R4 G.up ∅ λq1 m1=>?_⟩
 let⟨H5,eU,g5,h5⟩:=YD m1 (.lst ((zN X.lv).map V.int));rw[eU];refine⟨_,Z,.mk x g (zN F) (g5 _ _ I.at_) (by rw[I.keys];unfold zN kN;rw[vN];rfl) (by rw[zX];lia) λq2 ns m2 n9 sn=>?_⟩
 let en:ns=zN X.lv:=Ew G.up (n9.trans (O.map _)) sn;subst en;let⟨H6,eU,g6,h6⟩:=YD m2 (.lst ((zN X.lv).map V.int));rw[eU];let c1:=g5.trans g6;exists q1,q2,_,_,(zN X.lv).map KT.int,(zN X.lv).map KT.int,Z,Z,ZF.of (g6 _ _ h5),ZF.of h6,IW _,IW _,λt ht=>?_,_,Z
 ·let⟨z,_,rfl⟩:=zR.mp ht;exact zM _
 rw[eqbL_self];let R6:=R4.same c1;let r:=I.to (ZD.tups c1) λo e=>c1 _ _ e;let⟨l9,m5⟩:=R6.sh.self;refine Zo ⟨_,Z,X.S,l9,_,Z,m5,Z,.mk R6 ⟨_,Z,x,g,Z,r.at_,Z,_,Z,?_⟩⟩;rw[r.len,lF,aJ rfl];refine Zo ?_;let e5:∀ b u,b≠lk->b≠x->H3 b=some u->H6 b=some u:=λb u n1 n2 e=>c1 _ _ (c6 b u n1 n2 e);let a9:=e5 _ _ l0.2.2.1 a3.symm e2;let m9:=e5 _ _ l1.2.2.1 e4 eD;let l6:=ZMu G.fst O;let i7:∀{i:Nat}{p:ZT×V},g[i]? = some p->∃ j,F[i]? = some j/\p.1=Sum.inl (j:Int):=fun{i p} hp=>by
  have:=congrArg (λl=>l[i]?) r.keys;simp only[zC,hp] at this;let⟨b,b1,b2⟩:=xZ.mp this.symm;exact⟨b,b1,b2.symm⟩
 let n4:g.length=F.length:=r.len;exists x,g,r.at_,_,Z,x,g,Z,r.at_;intro ob;refine HQ (CM X.ts x N (λx6 x7=>[some (.ref X.S),some (.ref tl),some (.ref x),some (.ref N),some (.ref rl),x5,x6,x7,none]) ob g F H6) (.mk (x6:=none) (x7:=none) (λb u n _ e=>by rw[ZQ n];exact e) ZX (by rw[ZQ a3.symm];exact a9)) (λi σ H7 _ M=>by let⟨_,h,_⟩:=M;exact h) ?_ ?_
 ·rintro i p _ H7 hp ⟨a5,a7,a6⟩;rename_i x6 x7
  let⟨j,ej,c4⟩:=i7 hp;rw[c4];let⟨v,ev,tp,u,us,rfl,h1,h2,h3⟩:=r.yes j (zJ ej);let U:=O.mem_iff.mp (zJ ej);let e0:Zt H6 H7:=λb xs e=>a5 b _ (ZV e r.at_) (ZV e a9) e;let hg:Yq H7 x (.int (j:Nat)) (some (.ref tp)):=.inl ⟨g,Sum.inl (j:Int),.inr ⟨ob,a7⟩,Z,ev.symm⟩;let et:F.take (i+1)=F.take i++[j]:=by rw[yS,ej];rfl
  let eB:(F.take (i+1)).flatMap (λj=>(gd X.ts j).bs)=(F.take i).flatMap (λj=>(gd X.ts j).bs)++(gd X.ts j).bs:=by rw[et,yR,zB,xM,zK]
  let hs:F=F.take i++j::F.drop (i+1):=by
   let⟨hi,e⟩:=yZ.mp ej;rw[<-e,<-xB hi,yD]
  let c2:=l6;rw[hs,yR,zB,<-yQ] at c2;let a0:=(yA.mp c2).1;exists _,Z,_,Z,x,.ref tp,Z,hg,tp,_,_,.str (kindOf (gd X.ts j)),Z,Z,Zm.of (e0 _ _ h1),Z,Z,_,Z;rw[Ec];by_cases h0:(gd X.ts j).h=0
  ·rw[aI (show ¬ (gd X.ts j).h≠0 from λz=>z h0)];refine Zo (.mk a5 a7 ?_);rw[eB,((G.fst.wf j U).leaf h0).1,zK];exact a6
  ·rw[aJ (show (gd X.ts j).h≠0 from h0)];let m0:=h3 h0;subst m0;let b4:=((G.fst.wf j U).stem h0).2.1;let lB:((F.take i).flatMap (λj=>(gd X.ts j).bs)++(gd X.ts j).bs).length<=900:=by
    have:((F.take i).flatMap (λj=>(gd X.ts j).bs)++(gd X.ts j).bs).length<=X.lv.length:=(Fm a0 λb hb=>by
     obtain⟨q,hq,c7⟩:∃ q∈X.lv,b∈(gd X.ts q).bs:=by
      rcases yW.mp hb with y | y
      ·let⟨q,hq,m6⟩:=yI.mp y;exact⟨q,O.mem_iff.mp (rL hq),m6⟩
      ·exact⟨j,U,y⟩
     let q0:(gd X.ts q).h≠0:=λy=>by rw[((G.fst.wf q hq).leaf y).1] at c7;cases c7
     exact(((G.fst.wf q hq).stem q0).2.2.1 b c7).1)
    lia
   refine YM ⟨_,Z,_,Z,x,.ref tp,Z,hg,tp,_,_,.ref u,Z,Z,Zm.of (e0 _ _ h1),Z,u,Z,⟨_,Zm.of (e0 _ _ h2)⟩,ZOK (K:=K) (a:=u) (xs:=iN (gd X.ts j).bs) (Di x N (λx7=>[some (.ref X.S),some (.ref tl),some (.ref x),some (.ref N),some (.ref rl),x5,some (.int (j:Nat)),x7,none]) ob g ((F.take i).flatMap (λj=>(gd X.ts j).bs)) (gd X.ts j).bs H6) (.mk (x7:=x7) a5 a7 (by rw[wC,zK];exact a6)) (λm σ H8 _ M=>?_) ?_ ?_⟩
   ·let⟨B,_⟩:=M;exact Zm.of (B _ _ (ZV h2 r.at_) (ZV h2 a9) h2)
   ·rintro m y _ H8 hy ⟨B,c8,C⟩;rename_i p0
    let⟨b,i0,rfl⟩:=Ni hy;let nb:b∉(F.take i).flatMap (λj=>(gd X.ts j).bs)++(gd X.ts j).bs.take m:=λz=>by
     let n0:(gd X.ts j).bs=(gd X.ts j).bs.take m++b::(gd X.ts j).bs.drop (m+1):=by
      let⟨hi,e⟩:=yZ.mp i0;rw[<-e,<-xB hi,yD]
     rw[n0,<-yQ,yA] at a0;exact a0.2.2 b z b zS Z
    let m7:Yq H8 N (.int (b:Nat)) none:=by
     have:=Yq.k (k:=Sum.inl (b:Int)) C;rw[IR,aK nb] at this;exact this
    let lb:(Q4 ((F.take i).flatMap (λj=>(gd X.ts j).bs)++(gd X.ts j).bs.take m)).length<1000:=by
     unfold Q4;rw[zX,zW];rw[zW] at lB;have:=List.length_take_le m (gd X.ts j).bs;have:((gd X.ts j).bs.take m).length<=(gd X.ts j).bs.length:=List.length_take_le' _ _
     lia
    exists _,Z,N,Z,.inl ⟨_,L2.Rd.of C⟩,_,Z,none,m7,_,_,Z,Z,_,Z,_,Z,N,_,Z,Vw.k (k:=Sum.inl (b:Int)) C (Ym ∅)
    let tk:(gd X.ts j).bs.take (m+1)=(gd X.ts j).bs.take m++[b]:=by rw[yS,i0];rfl
    refine .mk (λc o n1 n2 e=>by rw[ZQ n2];exact B c o n1 n2 e) (by rw[ZQ a3];exact c8) ?_
    rw[tk,<-yQ,<-ZNM nb];exact ZX
   ·rintro _ H8 ⟨B,c8,C⟩;rw[show (iN (gd X.ts j).bs).length=(gd X.ts j).bs.length from zX _,zE (zY _),<-eB] at C;exact .mk B c8 C
 rintro _ H7 ⟨a5,a7,a6⟩;rename_i x6 x7
 rw[n4,zE (zY _)] at a6;exists ob,g,a7;let e8:upd H7 x (.dK g) x=some (.dK g):=ZX;let B:∀ b u,b≠N->H6 b=some u->upd H7 x (.dK g) b=some u:=λb u n e=>by
  by_cases z:b=x
  ·rw[z,ZX,<-e,z,r.at_]
  ·rw[ZQ z];exact a5 b u z n e
 let C:upd H7 x (.dK g) N=some (.dK (Q4 (F.flatMap λj=>(gd X.ts j).bs))):=by rw[ZQ a3.symm];exact a6
 generalize upd H7 x (.dK g)=H8 at e8 B C⊢;let n6:Zt H6 H8:=λb xs e=>B b _ (ZV e a9) e;let R8:=R6.fr n6 λb o n e=>B b o (λz=>n (z ▸ l0)) e;let i6:=B _ _ o1 m9;exists x,g,e8,_,Z,x,g,Z,e8;intro oc;refine HQ (Dm x (λx6 x8=>[some (.ref X.S),some (.ref tl),some (.ref x),some (.ref N),some (.ref rl),x5,x6,x7,x8]) oc g H8) (.mk (x6:=x6) (x8:=none) (λb u n e=>by rw[ZQ n];exact e) ZX) (λi σ H9 _ M=>by let⟨_,h⟩:=M;exact h) ?_ ?_
 ·rintro i p _ H9 hp ⟨J,c0⟩;rename_i o9 x8
  let⟨j,ej,c4⟩:=i7 hp;rw[c4,show kV (Sum.inl (j:Int))=V.int ((j:Nat):Int) from rfl];let hj:=zJ ej;let U:=O.mem_iff.mp hj;let n7:Zt H8 H9:=λb xs e=>J b _ (ZV e e8) e;let R9:=R8.fr n7 λb o n e=>J b o (λz=>n (z ▸ i9)) e;let c3:=J _ _ e4 i6;let i3:=J _ _ a3.symm C;let⟨h1,h2⟩:=BQ G O hj;rw[c9] at h1;let⟨e9,i2⟩:=R9.sh.self;refine⟨_,Z,.inl ⟨Z,_,ZF.of c3⟩,_,Z,.mk c3 (ZNa _) Z ?_⟩;rw[ZOj,<-h1];let e6:Q2 kg kh H9 X.S X.d lk X.ts.length X.kvs W (j:Int) _ _ _ _ (X.ho j) (iN (X.av j)):=⟨R9.sh,R9.val j U,(R9.tw j U).tw⟩;exists _,Z,X.S,e9,_,Z,i2,Z,_,Z,X.S,X.d,lk,X.ts.length,X.kvs,W,(j:Int),_,_,_,_,_,_,Z,e6,_,Z,Z,_,Z;rw[aJ rfl];refine Zo ⟨_,Z,X.S,e9,_,Z,i2,Z,_,Z,X.S,X.d,lk,X.ts.length,X.kvs,W,(j:Int),_,_,_,_,_,_,Z,e6,_,Z,_,Z,N,Z,.inl ⟨_,L2.Rd.of i3⟩,_,Z,_,Yq.k (k:=Sum.inl (j:Int)) i3,?_⟩;rw[IR];let lI:(iN (X.av j)).length=(X.av j).length:=zX _;by_cases c:j∈F.flatMap λi=>(gd X.ts i).bs
  ·rw[aM c] at h2⊢;let c5:V.int (((iN (X.av j)).length:Int)+(X.ho j:Nat))=V.int ((X.ho j:Nat)+1):=by rw[lI,h2];congr 1;lia
   exact⟨_,_,Z,Z,Z,false,congrArg V.bl (congrArg not (aJ c5)),Zo (.mk J c0)⟩
  ·rw[aK c] at h2⊢;let c5:V.int (((iN (X.av j)).length:Int)+(X.ho j:Nat))=V.int ((X.ho j:Nat)+0):=by rw[lI,h2];congr 1;lia
   exact⟨_,_,Z,Z,Z,false,congrArg V.bl (congrArg not (aJ c5)),Zo (.mk J c0)⟩
 rintro _ H9 ⟨J,c0⟩;exists oc,g,c0;let a4:∀ b u,H8 b=some u->upd H9 x (.dK g) b=some u:=λb u e=>by
  by_cases z:b=x
  ·rw[z,ZX,<-e,z,e8]
  ·rw[ZQ z];exact J b u z e
 generalize upd H9 x (.dK g)=l5 at a4⊢;refine k l5 W (λb o n e=>?_) (R8.same a4) ∅
 exact a4 _ _ (B _ _ (ZZ (g1 _ _ e) n2) (e5 _ _ n (ZZ e n1) (l2 _ _ e)))
end
end Tw
namespace L2
open PySem PySem.Spec PyProof.Rows
def NJ(P:ao)(w:aw)(p:ak)(n:Nat):HO:=.ext λh=>∃ S,h.SetOf (intKind P w) p S n
theorem ZNn{P:ao}{w:aw}{H:Hp}{h:aD}{p:ak}{n:Nat}{S:Int->Bool}(x:h.SetOf (intKind P w) p S n):Zb P w H h p (NJ P w p n):=by
 refine⟨⟨S,x⟩,?_,λd e y k=>?_⟩
 ·let⟨o,_,_,_,g,_⟩:=x;exact⟨o,g⟩
 ·let⟨S,o,b,a,t,c,r⟩:=y;exact⟨S,o,b,a,t,k _ c,r⟩
theorem D1{b:Nat->Int}{a:Int}:∀(n:Nat),(∀ i,i<n+1->b i=a)->firstMet b (n+1)=[a]
 | 0,h=>by rw[firstMet_succ,firstMet_zero,h 0 ∅];rfl
 | n+1,h=>by
  rw[firstMet_succ,D1 n λi c=>h i ∅,h (n+1) ∅]
  unfold step_dedup;simp
theorem ZPC:ay "set" = some (.type "set"):=by decide +kernel
inductive OD(P:ao)(w:aw):jf->Hp->VK->Prop
 |mk{H:Hp}{Q:VK}(a:ak)(ns:jy)(z:Int):H a=some (.lst (ns.map V.int))->(∀ n∈ns,n=z)->0<ns.length->ns.length<1000->(∀ p,H p=none->Q (.ref p) (upd H p (NJ P w p 1)))->OD P w [.ref a] H Q
theorem ZIq(t:X.calm=true):Va X (.type "set") (OD X.prog X.w):=by
 intro g s K H J G Q I r h;let⟨a,d,z,p,x,l,F,q⟩:=h;let⟨u,rfl,B⟩:=UV r;cases B;let⟨_,c,n,j,_,e⟩:=I.lstM p;let A:c.length=d.length:=by have:=j.length;simpa using this.symm
 let k:firstMet (λi=>d.getD i 0) c.toArray.size=[z]:=by
  rw[zP,A];let⟨m,v⟩:=qY (tU l);rw[v];refine D1 m λi E=>?_;rw[zU,zV ∅]
  exact x _ (xN _)
 refine call_set_list (I.ok.hd t) ⟨_,e,Z,_,Z⟩ (ns:=d) (by simpa using Fz j) (by rw[zP];unfold scanBound;lia) λD C f y=>?_
 rw[k] at f;exact⟨.ref s.heap.objs.size,_,I.laid (a:=s.heap.objs.size) (o:=NJ X.prog X.w s.heap.objs.size 1) (t':=C) (λb o e=>y b o (zG e) e) (zY _) (ZNn f),Z,q _ (I.hok.fresh (zY _))⟩
inductive Ua(b:ao)(c:aw)(d:jf)(H:Hp)(Q:VK):Prop
 |mk(a n:_)(_:d=[V.ref a])(_:H a=some (NJ b c a n))(_:n<1000)(_:Q (.int (n:Nat)) H)
theorem ZIi:Va X (.builtin "len") (Ua X.prog X.w):=by
 intro c s B H A z Q I r h;let⟨a,n,rfl,f,i,q⟩:=h;let⟨u,rfl,m⟩:=UV r;cases m;let⟨S,o,x,v,t,j,k,g,p,l,y,d,e⟩:=(I.hok a _ f).1;refine call_len_set j k g d (by rw[e];exact Int.lt_trans (Int.ofNat_lt.mpr i) (by decide)) ?_
 exact⟨.int (n:Nat),H,I.kept (t':=s.toks+1+1) (λb o q=>q),⟨_,by rw[e]⟩,q⟩
inductive Ul(K:zZ):V->V->Hp->VK->Prop
 |mk{p:ak}{us:jf}{H:Hp}{Q:VK}:ZF K H p us->(∀ u∈us,∃ t xs,u=.ref t/\H t=some (.tup xs))->Q (.bl false) H->Ul K .non (.ref p) H Q
theorem Bh{D:Nat}(w:ZU D X.A):Y4 X (az .In) (Ul X.K):=by
 intro i s S H x y v u Q I F G h;let⟨o,B,q⟩:=h;cases G;cases F;let⟨b,r,E,L⟩:=I.list o;let P:=w.un;let m:b.toArray.any (λ_=>false)=false:=by simp
 refine PySem.SeqAt.in_listAt (λ_=>false) E.isList (λy C=>?_) ⟨.bl _,H,I,Z,by rw[m];exact q⟩
 let c:y∈b:=by simpa using C
 let⟨j,f⟩:=vD c;let M:=r.length;let J:=(yZ.mp f).1;rename_i p k
 let a:k[j]? = some (k[j]'∅):=zV ∅
 let⟨O,e,d⟩:=r.get a;rw[f] at e;cases e;let⟨t,R,n,z⟩:=B _ (zJ a);rw[n] at d;cases d;let⟨g,N,l,_⟩:=I.tuple (Zm.of z);exact PySem.SeqAt.EqAt.tuple_none l (by show X.A.units+1<_;lia)
end L2
namespace Tw
open PySem PySem.Spec L2 PyProof.Rows
inductive Q9(N:ak->Prop)(H:Hp)(d:jn)(i:Nat)(v:V):Prop
 |mk(g a b c f j e:_)(_:v=V.ref g)(_:H g=some (.tup [.int ((gd d i).h:Nat),.ref a,.ref b,.ref c]))(_:H a=some (.lst f))(_:f.length=((Zr d i).filter (Xx d)).length)(_:H b=some (.lst j))(_:jX H (Z6 (gd d i).rows) j)(_:H c=some (.lst e))(_:e.length=(Zr d i).length)(_:¬ N a)(_:¬ N b)(_:¬ N c)
theorem Q9.mono{N N':ak->Prop}{H d:Hp}{l:jn}{i:Nat}{v:V}(h:Q9 N H l i v)(n:∀ c,N' c->N c)(f:∀ b o,¬ N b->H b=some o->d b=some o)(m:Zt H d):Q9 N' d l i v:=by
 let⟨A,a,b,c,y,B,x,e,p,q,r,s,t,u,w,g,j,k⟩:=h;exact⟨A,a,b,c,y,B,x,e,m _ _ p,f _ _ g q,r,f _ _ j s,t.mono m _ _,f _ _ k u,w,λz=>g (n _ z),λz=>j (n _ z),λz=>k (n _ z)⟩
inductive K1(kg kh:ak)(X:Za)(lk:ak)(bs:jk)(n0:Nat)(H1:Hp)(D:ak)(m:Nat)(ys:jf)(H:Hp):Prop
 |mk{ls:jf}:(∀ b o,b≠lk->H1 b=some o->H b=some o)->Zq kg kh H X.S X.d lk X.lv X.ts X.av X.ho X.as X.kvs ls->ls.length=n0+((bs.take m).flatMap (Zr X.ts)).length->H1 D=none->Paired (Q9 (λc=>c=lk\/c=D) H X.ts) (bs.take m) ys->K1 kg kh X lk bs n0 H1 D m ys H
inductive EV(ts:jn)(bs:jk)(σ0:ak->ak->ak->jg->L2.St)(H6:Hp):Nat->L2.St->Hp->Prop
 |mk{m:Nat}{la lb lc:ak}{ns us ms:jf}{x8:jg}{H:Hp}:ZD H6 H->H6 la=none->H6 lb=none->H6 lc=none->H la=some (.lst ns)->ns.length=(((bs.take m).flatMap (Zr ts)).filter (Xx ts)).length->H lb=some (.lst us)->jX H (Z6 (Zp ts (bs.take m))) us->H lc=some (.lst ms)->ms.length=1+((bs.take m).flatMap (Zr ts)).length->EV ts bs σ0 H6 m (σ0 la lb lc x8) H
theorem ZLk(t:ZN):decide (V.str (kindOf t)=V.str "leaf")=decide (t.h=0):=by
 by_cases h:t.h=0
 ·rw[Kz h,aJ h,aJ rfl]
 ·rw[Jw h,aI h];decide +kernel
theorem Ft{H:Hp}{d:jr}{c:jf}(h:jX H (Z6 d) c)(t:0<d.length):∃ a e k b f l,We c 0=some (.ref a)/\H a=some (.tup [e,k])/\ZE H (d.getD 0 rd).1 e/\We c (-1)=some (.ref b)/\H b=some (.tup [f,l])/\ZE H (d.getD (d.length-1) rd).1 f/\c.length=d.length:=by
 let n:c.length=d.length:=by have:=h.length;rw[<-this];exact zX _
 let g:c[0]? = some (c[0]'∅):=zV ∅
 let i:c[c.length-1]? = some (c[c.length-1]'∅):=zV ∅
 let⟨a,e,k,_,o,q,s,_⟩:=QS h g;let⟨b,f,l,_,p,r,m,_⟩:=QS h i;rw[o] at g;rw[p] at i;rw[n] at m;exact⟨a,e,k,b,f,l,Vd (j:=0) g,q,s,KW (j:=1) (zY _) ∅ i,r,m,n⟩
theorem EW{g:jk}{k:jn}{i:Nat}{t:ZN}{x y:KT}{a b:Int}(j:Ye g k i t)(e:(Zy t).kt=KT.tup [.int a,x,y,.int b]):KT.depth (KT.tup [.int a,x,y,.int b])<=200:=by
 let f:=LK j;let e:KT.tup [.int (Zy t).h,(Zy t).lo,(Zy t).hi,.int (Zy t).m]=KT.tup [.int a,x,y,.int b]:=e;injection e with e;injection e with _ e;injection e with e1 e;injection e with e2 _;let c:=Vv _ 3 f.1;let d:=Vv _ 3 f.2;rw[e1] at c;rw[e2] at d;simp only[KT.depth,kc]
 lia
section
variable{kg kh CTb:ak}
inductive Xz(n:Nat)(kg kh:ak):Sp
 |mk{X:Za}{lk:ak}{ls:jf}{i:Nat}{H:Hp}{Q:VK}{E:XK}:Zq kg kh H X.S X.d lk X.lv X.ts X.av X.ho X.as X.kvs ls->VT X.lv X.ts X.av X.ho->i∈X.lv->(gd X.ts i).h<n->(gd X.ts i).rows.length<=320->ls.length+(Zr X.ts i).length<=380000 ->
  (∀(H':Hp)(v:V)(ls':jf),(∀ b o,b≠lk->H b=some o->H' b=some o)->Zq kg kh H' X.S X.d lk X.lv X.ts X.av X.ho X.as X.kvs ls'->ls'.length=ls.length+(Zr X.ts i).length->Q9 (λc=>H c≠none) H' X.ts i v->Q v H')->Xz n kg kh [.ref X.S,.int (i:Nat)] H Q E
abbrev ZQv:jp:=["_law_shelf","_law_root","_law_kind","_law_what","_law_parts","_law_leaves","_law_rows_here","_law_numbers","_law_part"]
theorem Qw:ZB ZQv zEj (Zc M8):=Zs
theorem A3{n:Nat}(F0:Zg K "_law_walk" "_law_walk" M8 f fd)(T:Yd mg)(L:Yg K mg kg kh)(DL:ZC P w K mg kj ZM 2 kg "look" zEa (Yt kg kh))(e9:ZC P w K mg kj ZM 2 kg "label" zEa (Y6 kg kh))(DW:ZA P w K mg kj (n+4) "_law_walk" zEj (Xz n kg kh)):ZI P w K mg kj ZM (n+5) f fd zEj (Xz (n+1) kg kh):=by
 refine F0.ok Qw (λvs H Q E h=>(by cases h;rfl)) (λp6 A o8 s H vs Q E hr h=>?_)
 let⟨R,F,hi,hn,r3,p9,k⟩:=h;rename_i X U ls i
 let nd:=Qw.nd;let hu:=OV hr;let e3:=hr.mono (show 2<=n+4 by lia)
 intro Xc;refine⟨_,ZL (NQ (YV (E:=E0) (pv 0) L.cS DL e3 YC (ZS (pv 1))) (K0 rfl (NW (WG 2 nd) (NW (WG 3 nd) Kl))))
  (ZL (Z1 (Yb UD (pv 2) U0 (Z8 _))
   (ZL (Z1 (PW.pt (UQ (UO (LE Qc Qc ZJ (YG Xd rfl T.len XG (ZS (pv 3))) ZJ)) (QP (Yb (Ia hr) (YV (E:=E0) (pv 0) L.cS e9 e3 YC (ZS (pv 1))) (WC (Uu ZJ (Yx K (YX K (pv 3) ZJ) ZJ) (Yx K (YX K (pv 3) (Uc UZ ZJ)) ZJ) (YG Xd rfl T.len XG (ZS (pv 3))))) (Z8 _))))) WY Z2)
   (ZR (Zh (WC (Uu ZJ (Yk (ZS (pv 1))) (pv 3) (Yk (ZS (pv 1)))))))) Z2)
  (ZL (O8 (i:=4) [0] ["_law_shelf"] nd rfl rfl rfl (X9 (pv 3)) (λ_ _ _ _ _=>Wc) (λ_ _ _ _ _=>Zf DW hr (Zx (pv 1) (pv 0))) ⟨rfl,.inl rfl,rfl,trivial⟩)
  (ZL (Z1 (PW.pt (UQ (UO (LE Qc Qc ZJ (YG Xd rfl T.len XG (ZS (pv 4))) ZJ)) (UQ (Yb (Bh hr) Nq (pv 4) rfl) (QP (Yb NG (YG ZIi rfl T.len XG (ZS (Vf (ZIq rfl) rfl T.set ZPC (ZS (VJ [] [] rfl (X9 (pv 4)) (λ_ _ _ _ _=>Wc) (λ_ _ _ _ _=>Yx K (pv 0) ZJ) trivial))))) ZJ (Z8 _)))))) WY Z2)
  (ZL (Ze 5 nd (Yk Zu))
  (ZL (Ze 6 nd (Yk Zu))
  (ZL (Ze 7 nd (Yk (ZS (pv 1))))
  (ZL (VD PassesOwn.never rfl (X9 (pv 4)) (WG 8 nd)
   (ZL (Ze 5 nd (Zj Ph (pv 5) (Yx K (pv 8) ZJ)))
   (ZL (Ze 6 nd (Zj Ph (pv 6) (Yx K (pv 8) ZJ)))
   (ZR (Ze 7 nd (Zj Ph (pv 7) (Yx K (pv 8) ZJ)))))))
  (ZL (Z1 (Yb (Ia hr) (YV (E:=E0) (pv 0) L.cS e9 e3 YC (ZS (pv 1))) (WC (Uu (Zj Xg (Yx K (YX K (pv 4) ZJ) ZJ) ZJ) (Yx K (YX K (pv 6) ZJ) ZJ) (Yx K (YX K (pv 6) (Uc UZ ZJ)) ZJ) (YG Xd rfl T.len XG (ZS (pv 6))))) (Z8 _)) WY Z2)
  (ZR (Zh (WC (Uu (Zj Xg (Yx K (YX K (pv 4) ZJ) ZJ) ZJ) (pv 5) (pv 6) (pv 7))))))))))))),?_⟩
 let⟨dS,hS⟩:=R.sh.self;exists _,Z,X.S,dS,_,Z,hS,Z,_,Z,X,U,X.ts.length,ls,i,Z,R.q,hi,by lia
 intro H1 tp l C a5 N o1 nl hl w1 w2;let N:Zq kg kh H1 X.S X.d U X.lv X.ts X.av X.ho X.as X.kvs (ls++[.int (i:Int)]):=⟨N.sh,R.lt,R.keys,R.val,R.len,N.tw,R.own,R.two⟩;let i4:=R.sh.looks;let m1:Zt H H1:=λb xs e=>a5 b _ (ZV e i4) e;let ok:=F.wf i hi;let o5:l≠U:=(ZZ i4 nl).symm;let r0:0<(gd X.ts i).rows.length:=uH.mpr ok.ne;let c6:∀ c,H1 c=none->H c=none:=λc n=>by
  cases z:H c with
  | none=>rfl
  | some o=>rw[a5 c o (λy=>by rw[y,N.sh.looks] at n;cases n) z] at n;cases n
 exists tp,_,Z,Zm.of o1,Z,_,_,Z,_,_,Z,Z;exists _,Z,Z,_,Z;rw[ZLk];let⟨l8,m7⟩:=N.sh.self;by_cases O:(gd X.ts i).h=0
 ·rw[aJ O];let kr:=w1 O;let⟨a0,vk,vv,b0,wk,wv,i0,c8,e4,i1,c9,e5,lu⟩:=Ft kr r0;let l4:=(ok.leaf O).2;refine YM ⟨_,Z,l,C,Z,.inl (ZF.of hl),_,_,Z,Z,_,Z,?_⟩;rw[aJ (show (1:Int)<=(C.length:Int) by lia)]
  refine YM ⟨_,_,Z,Z,_,Z,?_⟩;rw[aJ (show (C.length:Int)<=4 by lia)]
  refine Zo ⟨_,Z,X.S,l8,_,Z,m7,Z,_,Z,X,U,X.ts.length,_,i,Z,N.q,hi,?_⟩;refine⟨_,Z,.inl ⟨l,C,0,.ref a0,Z,Z,ZF.of hl,i0,a0,_,_,vk,Z,Z,Zm.of c8,Z,?_⟩⟩;refine⟨_,Z,1,Z,.inl ⟨l,C,_,.ref b0,Z,Z,ZF.of hl,i1,b0,_,_,wk,Z,Z,Zm.of c9,Z,?_⟩⟩;exists _,Z,l,C,Z,.inl (ZF.of hl),YE;intro q1 n1;let⟨M,g,g2,h2⟩:=YD n1 (.tup [.int 0,vk,wk,.int (C.length:Nat)]);rw[g];let R2:=N.same g2;let kl:=(R2.tw i hi).tag.key;let eK:(Zy (gd X.ts i)).kt=KT.tup [.int 0,((gd X.ts i).rows.getD 0 rd).1,((gd X.ts i).rows.getD ((gd X.ts i).rows.length-1) rd).1,.int ((C.length:Nat):Int)]:=by
   rw[lu];show KT.tup [.int ((gd X.ts i).h:Nat),_,_,_]=_;rw[O];rfl
  rw[eK] at kl;let m2:=ZD.tups g2;exists _,_,kl,.tup h2 (.cons (.int _) (.cons (e4.mono m2 _ _) (.cons (e5.mono m2 _ _) (.cons (.int _) .nil)))),EW ok eK,_,Z;rw[UB];refine Zo ⟨_,Z,YE,λq2 n2=>?_⟩;let⟨I,g,g3,h3⟩:=YD n2 (.lst [.int (i:Nat)]);rw[g];exists _,Z,_,Z,YE;intro q3 n3;let⟨H4,g,g4,h4⟩:=YD n3 (.lst [.int (i:Nat)]);rw[g];exists YE;intro q4 n4;let⟨H5,g,g5,h5⟩:=YD n4 (.tup [.int 0,.ref q2,.ref l,.ref q3]);rw[g];let c4:=((g2.trans g3).trans g4).trans g5;let pl:Zr X.ts i=[i]:=by show YH X.ts (gd X.ts i).h i=_;rw[O];rfl
  let fl:(Zr X.ts i).filter (Xx X.ts)=[i]:=by rw[pl,yE,aM (show Xx X.ts i=true from aJ O)];rfl
  refine k H5 _ _ (λb o n e=>c4 _ _ (a5 b o n e)) (N.same c4) (by rw[zW,pl];rfl) ⟨q4,q2,l,q3,_,C,_,Z,by rw[O];exact h5,(g4.trans g5) _ _ h3,by rw[fl];rfl,c4 _ _ hl,kr.sm c4,g5 _ _ h4,by rw[pl];rfl,λz=>z (c6 _ (g2.free n2)),λz=>z nl,λz=>z (c6 _ ((g2.trans g3).free n3))⟩
 rw[aI O];let m5:=w2 O;subst m5;let⟨b2,b4,b3,er⟩:=ok.stem O;let ps:=J6 F.wf hi O;let pn:=KH F.wf _ i hi Z;let er:(gd X.ts i).rows=Zp X.ts (gd X.ts i).bs:=er;let i7:(Zr X.ts i).length=1+((gd X.ts i).bs.flatMap (Zr X.ts)).length:=by rw[ps,zI];lia
 let pn:(Zr X.ts i).length+1<=2 * (gd X.ts i).rows.length:=pn;generalize p7:(gd X.ts i).bs=x at *;let lI:(iN x).length=x.length:=zX _;let e7:∀{m b:Nat},x[m]? = some b->x=x.take m++b::x.drop (m+1)/\x.take (m+1)=x.take m++[b]:=fun{m b} e=>by
  let⟨hm,e'⟩:=yZ.mp e;exact⟨by rw[<-e',<-xB hm,yD],by rw[yS,e];rfl⟩
 refine Zo ⟨_,Z,l,Z,⟨_,ZF.of hl⟩,?_⟩;let e0:∀{D:ak}{m:Nat}{r:jf}{M:Hp},K1 kg kh X U x (ls.length+1) H1 D m r M->M l=some (.lst (iN x)):=λB=>by
  let⟨fr,_⟩:=B;exact fr _ _ o5 hl
 refine WT (n:=x.length) (λm z=>(iN x)[m]? = some z) (K1 kg kh X U x (ls.length+1) H1) (Ym ∅)
  (λD m r M hm B=>⟨_,(iN x)[m]'∅,ZF.of (e0 B),zV _⟩) (λD m r M z I hm B hy=>⟨hy.1,hy.2 _ (ZF.of (e0 B))⟩) (λD r M B=>⟨_,ZF.of (e0 B),∅⟩)
  (λD hD=>.mk (ls:=ls++[.int (i:Int)]) (λb o _ e=>Zl hD _ _ _ e) (N.same (Zl hD _)) (by rw[zW];rfl) hD .nil) (λD m r M z J n7 hm hz B RR c7=>?_) (λD r M J B=>?_)
 ·let⟨a6,R2,c3,nD,G⟩:=B;rename_i i8
  let⟨b,eb,rfl⟩:=Ni hz;let⟨e1,e2⟩:=e7 eb;let⟨c1,c2⟩:=b3 b (zJ eb);let lr:(gd X.ts b).rows.length<=(gd X.ts i).rows.length:=by
   rw[er,e1,PL,V9,zW,zW]
   lia
  let lq:((x.take m).flatMap (Zr X.ts)).length+(Zr X.ts b).length<=(x.flatMap (Zr X.ts)).length:=by
   rw[e1,yR,zB,zW,zW,<-e1]
   lia
  let i2:D≠U:=(ZZ N.sh.looks nD).symm;let oD:Zz X U D:=N.new nD;refine⟨_,Z,_,Z,.mk R2 F c1 ∅ ∅ ∅ λI v o6 a7 R3 o4 p4=>?_⟩
  let o7:Zt M I:=λb xs e=>a7 b _ (ZV e R2.sh.looks) e;let c5:=a7 _ _ i2 J;let sx:ZK D I (upd I D (.lst (r++[v]))):=(ZK.refl D I).upd;let i9:=sx.tups c5;refine c7 v I c5 (.mk (ls:=o6) (λb o n e=>sx _ _ (a7 b o n (a6 b o n e)) (ZZ e nD)) (R3.but sx c5 oD) ?_ nD ?_)
  ·rw[o4,c3,e2,yR,zB,xM,zK,zW]
   lia
  ·rw[e2];refine FH (Paired.mapP G λj u z=>(z.mono (N':=λc=>c=U\/c=D) (λc z=>z) (λc o n e=>a7 c o (λz=>n (.inl z)) e) o7).mono (λc z=>z) (λc o n e=>sx c o e λz=>n (.inr z)) i9) (.cons ?_ .nil);refine(p4.mono (N':=λc=>c=U\/c=D) (λc z=>?_) (λc o n e=>sx c o e λz=>n (by rw[z,J];exact λy=>nomatch y)) i9)
   rcases z with z | z
   ·rw[z,R2.sh.looks];exact λy=>nomatch y
   ·rw[z,J];exact λy=>nomatch y
 let⟨a6,R2,c3,nD,G⟩:=B;rename_i i8
 rw[zE (zY _)] at c3 G;let ly:=Paired.length G;let i2:D≠U:=(ZZ N.sh.looks nD).symm;let p0:∀ u∈r,∃ t xs,u=V.ref t/\M t=some (.tup xs):=λu hu=>by
  let⟨m,em⟩:=vD hu;let⟨b,_,tp,_,_,_,_,_,_,e,h,_⟩:=Paired.ixR G em;exact⟨tp,_,e,h⟩
 exists _,Z,D,r,Z,.inl (ZF.of J),_,_,Z,Z,_,Z;rw[aJ (show (2:Int)<=(r.length:Int) by lia)]
 refine YM ⟨_,_,Z,Z,_,Z,?_⟩;rw[aJ (show (r.length:Int)<=4 by lia)]
 refine Zo ⟨_,Z,.mk (ZF.of J) p0 ⟨_,Z,Zo ?_⟩⟩;refine⟨_,Z,D,Z,⟨r,ZF.of J⟩,WT (n:=r.length) (λm z=>r[m]? = some z) (λE2 m zs I=>ZD M I/\M E2=none/\zs=((x.take m).map λb=>(((gd X.ts b).h:Nat):Int)).map V.int) (Ym ∅)
  (λE2 m zs I hm B=>⟨r,r[m],ZF.of (B.1 _ _ J),by simp[hm]⟩) (λE2 m zs I z H4 hm B hy=>⟨hy.1,hy.2 r (ZF.of (B.1 _ _ J))⟩) (λE2 zs I B=>⟨r,ZF.of (B.1 _ _ J),zY _⟩)
  (λE2 hE=>⟨Zl hE _,hE,Z⟩) (λE2 m zs I z eE n7 hm hz B RR c7=>?_) (λE2 zs I eE B=>?_)⟩
 ·let⟨s3,nE,rfl⟩:=B;let⟨b,eb,tb,_,_,_,_,_,_,rfl,a1,_⟩:=Paired.ixR G hz;refine⟨_,Z,tb,_,_,.int ((gd X.ts b).h:Nat),Z,Z,Zm.of (s3 _ _ a1),Z,c7 _ I eE ⟨VQ s3 nE,nE,?_⟩⟩;rw[(e7 eb).2,zD,zD];rfl
 let⟨s3,nE,rfl⟩:=B;rw[zE ∅] at eE
 refine .mk E2 _ ((((gd X.ts i).h:Nat):Int)-1) eE (λn hn=>?_) (by rw[zX];lia) (by rw[zX];lia) λq1 n1=>?_
 ·let⟨b,hb,rfl⟩:=zR.mp hn;have:=(b3 b hb).2
  lia
 let⟨H4,g,g4,h4⟩:=YD n1 (NJ P w q1 1);show Qa _ (upd I q1 (NJ P w q1 1)) _;rw[g];refine⟨q1,1,Z,h4,∅,Z,false,Z,Zo ?_⟩
 exists YE;intro la na;let⟨H5,g,g5,h5⟩:=YD na (.lst []);rw[g];exists YE;intro lb nb;let⟨H6,g,g6,h6⟩:=YD nb (.lst []);rw[g];exists _,Z,YE;intro lc nc;let⟨H7,g,g7,h7⟩:=YD nc (.lst [.int (i:Nat)]);rw[g];let a2:=s3.trans g4;let l7:=(g5.trans g6).trans g7;let o9:=a2.trans l7;let ll:i8.length=ls.length+(Zr X.ts i).length:=by rw[c3,i7];lia
 refine⟨_,Z,D,Z,⟨r,ZF.of (o9 _ _ J)⟩,PR (K:=K) (a:=D) (xs:=r) (EV X.ts x (λla lb lc x8=>[some (.ref X.S),some (.int (i:Nat)),some (.str (kindOf (gd X.ts i))),some (.ref l),some (.ref D),some (.ref la),some (.ref lb),some (.ref lc),x8]) H4) (.mk (x8:=none) l7 na (g5.free nb) ((g5.trans g6).free nc) ((g6.trans g7) _ _ h5) rfl (g7 _ _ h6) .nil h7 rfl) (λm σ H8 _ B=>by let⟨s8,_⟩:=B;exact ZF.of (s8 _ _ (a2 _ _ J))) ?_ ?_⟩
 ·rintro m u _ H8 hu ⟨s8,l1,l2,l3,ha,a8,hb,kb,hc,a9⟩;rename_i la lb lc ns C ms x8
  let⟨b,eb,tb,a',b',c',l5,e8,l0,rfl,a1,n0,o2,n5,i6,n6,o3,_⟩:=Paired.ixR G hu;let⟨e1,e2⟩:=e7 eb;let p:=a2.trans s8;let lq:((x.take m).flatMap (Zr X.ts)).length+(Zr X.ts b).length<=(x.flatMap (Zr X.ts)).length:=by
   rw[e1,yR,zB,zW,zW,<-e1]
   lia
  let f1:=vB (Xx X.ts) ((x.take m).flatMap (Zr X.ts));let f2:=vB (Xx X.ts) (Zr X.ts b);let r1:(Zp X.ts (x.take m)).length+(gd X.ts b).rows.length<=(gd X.ts i).rows.length:=by
   rw[er,e1,PL,V9,zW,zW,<-e1]
   lia
  let r2:C.length=(Zp X.ts (x.take m)).length:=by have:=kb.length;rw[<-this];exact zX _
  let p5:e8.length=(gd X.ts b).rows.length:=by have:=i6.length;rw[<-this];exact zX _
  exists _,Z,_,Z,tb,_,_,.ref a',Z,Z,Zm.of (p _ _ a1),Z,la,a',ns,l5,Z,Z,ha,p _ _ n0,nn ∅
  intro p1 m1;let⟨H9,g,Y,h9⟩:=YD m1 (.lst (ns++l5));rw[g];exists _,Z,_,Z,tb,_,_,.ref b',Z,Z,Zm.of (Y _ _ (p _ _ a1)),Z,lb,b',C,e8,Z,Z,Y _ _ hb,Y _ _ (p _ _ n5),nn ∅
  intro p2 m2;let⟨Ha,g,ga,n8⟩:=YD m2 (.lst (C++e8));rw[g];let a4:=Y.trans ga;exists _,Z,_,Z,tb,_,_,.ref c',Z,Z,Zm.of (a4 _ _ (p _ _ a1)),Z,lc,c',ms,l0,Z,Z,a4 _ _ hc,a4 _ _ (p _ _ n6),nn ∅
  intro p3 m3;let⟨Hb,g,gb,n9⟩:=YD m3 (.lst (ms++l0));rw[g];let e6:=a4.trans gb;refine .mk (s8.trans e6) (s8.free m1) ((s8.trans Y).free m2) ((s8.trans a4).free m3) ((ga.trans gb) _ _ h9) ?_ (gb _ _ n8) ?_ n9 ?_
  ·rw[e2,yR,zB,xM,zK,wP,zW,zW,a8,o2]
  ·rw[e2,PL,V9,show Zp X.ts []=[] from rfl,zK,Pw];exact(kb.sm e6).append (i6.sm (p.trans e6))
  ·rw[e2,yR,zB,xM,zK,zW,zW,a9,o3]
   lia
 rintro _ H8 ⟨s8,l1,l2,l3,ha,a8,hb,kb,hc,a9⟩;rename_i la lb lc ns C ms x8
 rw[zE ∅] at a8 kb a9
 rw[<-er] at kb;let p:=a2.trans s8;let R8:=R2.same p;let⟨l9,m8⟩:=R8.sh.self;let⟨a0,vk,vv,b0,wk,wv,i0,c8,e4,i1,c9,e5,lu⟩:=Ft kb r0;let ey:r[0]? = some (r[0]'∅):=zV ∅
 let⟨c0,m0,t0,_,_,_,_,_,_,m4,o0,_⟩:=Paired.ixR G ey;rw[m4] at ey;let p8:=(b3 c0 (zJ m0)).2;let i3:=p _ _ J;let i5:=p _ _ o0;let iy:We r 0=some (.ref t0):=Vd (j:=0) ey;exists _,Z,X.S,l9,_,Z,m8,Z,_,Z,X,U,X.ts.length,_,i,Z,R8.q,hi;refine⟨_,Z,.inl ⟨D,r,0,.ref t0,Z,Z,ZF.of i3,iy,t0,_,_,.int ((gd X.ts c0).h:Nat),Z,Z,Zm.of i5,Z,_,_,Z,Z,?_⟩⟩;refine⟨_,Z,.inl ⟨lb,C,0,.ref a0,Z,Z,ZF.of hb,i0,a0,_,_,vk,Z,Z,Zm.of c8,Z,?_⟩⟩;refine⟨_,Z,1,Z,.inl ⟨lb,C,_,.ref b0,Z,Z,ZF.of hb,i1,b0,_,_,wk,Z,Z,Zm.of c9,Z,?_⟩⟩;exists _,Z,lb,C,Z,.inl (ZF.of hb),YE;intro q2 n2;let eh:(((gd X.ts c0).h:Nat):Int)+1=(((gd X.ts i).h:Nat):Int):=∅
 let⟨H9,g,Y,h9⟩:=YD n2 (.tup [.int (((gd X.ts c0).h:Nat)+1:Int),vk,wk,.int (C.length:Nat)]);let g:upd H8 q2 (.tup [(λi j:Int=>V.int (i+j)) ((gd X.ts c0).h:Nat) 1,vk,wk,.int (C.length:Nat)])=H9:=g;rw[g];let R9:=R8.same Y;let kl:=(R9.tw i hi).tag.key;let eK:(Zy (gd X.ts i)).kt=KT.tup [.int (((gd X.ts c0).h:Nat)+1:Int),((gd X.ts i).rows.getD 0 rd).1,((gd X.ts i).rows.getD ((gd X.ts i).rows.length-1) rd).1,.int ((C.length:Nat):Int)]:=by
  rw[lu,eh];rfl
 rw[eK] at kl;let m9:=ZD.tups Y;exists _,_,kl,.tup h9 (.cons (.int _) (.cons (e4.mono m9 _ _) (.cons (e5.mono m9 _ _) (.cons (.int _) .nil)))),EW ok eK,_,Z;rw[UB];refine Zo ⟨_,Z,.inl ⟨D,r,0,.ref t0,Z,Z,ZF.of (Y _ _ i3),iy,t0,_,_,.int ((gd X.ts c0).h:Nat),Z,Z,Zm.of (Y _ _ i5),Z,_,_,Z,Z,?_⟩⟩;exists _,Z,_,Z,_,Z,YE;intro q3 n3;let⟨Hc,g,gc,m6⟩:=YD n3 (.tup [.int (((gd X.ts i).h:Nat):Int),.ref la,.ref lb,.ref lc]);rw[<-eh] at g;let g:upd H9 q3 (.tup [(λi j:Int=>V.int (i+j)) ((gd X.ts c0).h:Nat) 1,.ref la,.ref lb,.ref lc])=Hc:=g;rw[g];let a3:=Y.trans gc;let l6:=p.trans a3;let W:∀ c,H4 c=none->H c=none:=λc n=>by
  let n':=a2.free n;refine c6 c ?_
  cases z:H1 c with
  | none=>rfl
  | some o=>rw[a6 c o (λy=>by rw[y,R2.sh.looks] at n';cases n') z] at n';cases n'
 refine k Hc _ _ (λb o n e=>l6 _ _ (a6 b o n (a5 b o n e))) (R2.same l6) ll ⟨q3,la,lb,lc,ns,C,ms,Z,m6,a3 _ _ ha,?_,a3 _ _ hb,kb.sm a3,a3 _ _ hc,by rw[a9,i7],λz=>z (W _ l1),λz=>z (W _ l2),λz=>z (W _ l3)⟩
 rw[a8,ps,yE,aK (by unfold Xx;rw[aI O];exact zT)]
theorem Du(b:ZY K mg "_law_walk" M8 zEj)(T:Yd mg)(L:Yg K mg kg kh)(c:ZC P w K mg kj ZM 2 kg "look" zEa (Yt kg kh))(a:ZC P w K mg kj ZM 2 kg "label" zEa (Y6 kg kh)):∀ n:Nat,ZA P w K mg kj (n+4) "_law_walk" zEj (Xz n kg kh)
 | 0=>b.of λ_ _ _=>ML λd H Q E h=>by cases h;lia
 | n+1=>b.of λ_ _ F=>A3 F T L c a (Du b T L c a n)
end
end Tw
namespace L2
open PySem PySem.Spec PyProof.Rows
section
variable{x C:ak}{o:aH}
structure Qh(K:zZ)(C:ak):Prop where
 eq:yX K (.ref C) "__eq__" = some (some (.builtin "object.__eq__"))
 ne:yX K (.ref C) "__ne__" = some (some (.builtin "object.__ne__"))
 mro:wV K C (.type "object")=some true
theorem Gz{M:Model}{a:Str}{id:String}{args:je}{Q:jd->am->Prop}(X:K.In s.heap)(i:s.heap.get? x=some o)(f:o.cls=.ref C)(g:yX K (.ref C) a=some (some (.builtin id)))(S:Slot "object" a id)(b:aB M A (call (.builtin id) (.ref x::args)) (λv=>Q (some v)) E s):aB M A (callSpecialIfBound? (.ref x) a args) Q E s:=by
 simp only[callSpecialIfBound?,bindSpecialIfBound?];let h:wW M s.heap (specialOf (.ref x) a) (some (.builtin id)):=by
  let e:wW M s.heap (typeOf (.ref x)) (.ref C):=by rw[<-f];exact(wW.ld i).andThen .now
  exact e.andThen (qB X g)
 refine af (aa (aa (h.here ?_)));simp only[S.bind];refine aa (wpAny_askSetting (wpAny_ite ?_));let c:aB M A (call (.builtin id) ([.ref x]++args) >>= λv=>pure (some v)) Q E s:=
  aa (ae b (λv j d=>ad d) λ_ _ d=>d)
 split
 ·exact aa (ad (ad c))
 ·exact wpAny_tryCatch (aa (ad (ad c)))
theorem GB{M:Model}{id n:String}{rest:je}{Q:Unit->am->Prop}(h:builtinKind id=some .slot)(j:splitId id=some ("object",n))(c:argsOk id ⟨.ref x::rest,[]⟩)(X:K.In s.heap)(k:s.heap.get? x=some o)(g:o.cls=.ref C)(i:wV K C (.type "object")=some true)(d:Q () s):
  aB M A (checkBuiltinCall id ⟨.ref x::rest,[]⟩) Q E s:=by
 simp only[checkBuiltinCall,h,j];refine aa ?_;unfold isInstance;let e:wW M s.heap (typeOf (.ref x)) (.ref C):=by rw[<-g];exact(wW.ld k).andThen .now
 refine aa (e.here ?_);refine(zEA X i).here ?_
 cases a:Manifest.signature? id with
 | none=>exact ad d
 | some b=>
  simp only[argsOk,a] at c;let f:Bind.checkArgs id b ⟨.ref x::rest,[]⟩=pure ():=c;show aB M A (Bind.checkArgs id b ⟨.ref x::rest,[]⟩) Q E _;rw[f];exact ad d
theorem ZLv(X:K.In s.heap)(b:s.heap.get? x=some o)(a:o.cls=.ref C)(k:Qh K C)(h:A.units+1<cLine){Q:ja}(i:Q (.bool false) s):aB (aA prog w) A (az .NotEq (.ref x) (.ref x)) Q E s:=by
 let e:A.units<cLine:=Nat.lt_of_succ_lt h;let c:∀{A:ax}{Q:jd->am->Prop},Q (some (.bool true)) s->aB (aA prog w) A (callSpecialIfBound? (.ref x) "__eq__" [.ref x]) Q E s:=λq=>
  Gz X b a k.eq tG.eq (wpAny_call (codeAny_call_builtin tG.eq.plain F.cmpEntry_eq (GB F.cmpKind_eq F.cmpSplit_eq (F.cmpArgs_eq _ _) X b a k.mro (objEq_entry_same q))))
 let d:∀{Q:jd->am->Prop},Q (some (.bool false)) s->aB (aA prog w) A (tryCompare (.ref x) "__ne__" (.ref x)) Q E s:=λq=>by
  simp only[tryCompare];refine aa (Gz X b a k.ne tG.ne (wpAny_call (codeAny_call_builtin tG.ne.plain F.cmpEntry_ne (GB F.cmpKind_ne F.cmpSplit_ne (F.cmpArgs_ne _ _) X b a k.mro ?_))));unfold Builtin.«object.__ne__»;let f:A.in1.units<cLine:=h
  repeat (first | with_reducible refine wpAny_cRoomFor f ?_ | with_reducible refine c ?_ | wp_step)
  exact q
 show aB (aA prog w) A (richCompare .NotEq (.ref x) (.ref x)) Q E s;simp only[richCompare,cmpInfo_NotEq,oneThing_ref];let g:wW (aA prog w) s.heap (typeOf (.ref x)) (.ref C):=by rw[<-a];exact(wW.ld b).andThen .now
 refine af (aa (wpAny_cRoomFor e ?_));refine aa (g.here ?_);refine aa (g.here ?_);rw[show (Value.ref C != Value.ref C)=false from by simp]
 simp only[xE,if_false];refine aa (ad ?_);simp only[xE,if_false];refine aa (d ?_);exact ad i
end
inductive MB(K:zZ):V->V->Hp->VK->Prop
 |mk{x C dx:ak}{fs:List (Str×V)}{H:Hp}{Q:VK}:H x=some (.ins C dx fs)->Qh K C->Q (.bl false) H->MB K (.ref x) (.ref x) H Q
theorem ZPM{d:Nat}(b:ZU d X.A):Y4 X (az .NotEq) (MB X.K):=by
 intro a s l H x y v u Q I e f h;let⟨c,k,q⟩:=h;cases e;cases f;let j:=b.un;let⟨g,O,_⟩:=N4 I.hok c;let⟨i,J,_⟩:=O.look;exact ZLv I.kIn J.at_ J.cls k ∅ ⟨.bl false,H,I,Z,q⟩
structure Jl(K:zZ)(C:ak):Prop where
 ha:yX K (.ref C) "__class__" = some (some (.builtin "object.__class__"))
 hn:rR K (.builtin "object.__class__") "__get__" = some (some (.builtin "getset_descriptor.__get__"))
 ht:sC K (.builtin "object.__class__")=some true
 hm:wV K C (.type "object")=some true
 kit:yC K (.ref C) (.ref C)=some true
inductive Md(K:zZ):jf->Hp->VK->Prop
 |mk{x C dx:ak}{fs:List (Str×V)}{H:Hp}{Q:VK}:H x=some (.ins C dx fs)->Vm K C->Jl K C->Q (.bl true) H->Md K [.ref x,.ref C] H Q
theorem Ay:Va X (.builtin "isinstance") (Md X.K):=by
 intro a s l H j g Q I r h;let⟨c,b,k,q⟩:=h;let⟨u,i,rfl,e,d⟩:=LZ r;cases d;exact Ej I e (.ins c b k.ha k.hn k.ht k.hm) k.kit λf=>⟨.bl true,H,I.tok f,Z,q⟩
end L2
namespace Tw
open PySem PySem.Spec L2 PyProof.Rows
variable{kg kh CS CT CH CK CP CB:ak}
theorem K8{b:jr}(h:∀ x∈b,x.fit):∀ t∈Z6 b,t.depth<=100:=λt c=>by
 let⟨y,a,rfl⟩:=zR.mp c;let d:=Vv _ 3 (h y a).1;let e:=Vv _ 3 (h y a).2;show KT.depth (.tup [y.1,y.2])<=100;simp only[KT.depth,kc]
 lia
section
variable{kg kh CTb:ak}
inductive ID(N:ak->Prop)(H:Hp)(n:Nat)(v:V):Prop
 |mk(e h a b c d:_)(_:v=V.ref e)(_:H e=some (.tup [h,.ref a,b,c]))(_:H a=some (.lst d))(_:d.length=n)(_:¬ N a)
inductive Wd(kg kh CTb:ak):Sp
 |mk{T l:ak}{X:Za}{a:ak}{h i:jf}{r:js}{H:Hp}{Q:VK}{E:XK}:YL CTb H T X.S r->Zz X a T->Tf kg kh H X a h r->(Yp X.ts r).length<=320->h.length<=370000->H l=some (.lst i)->l≠a->jX H (Z6 (Yp X.ts r)) i ->
  (∀(g:Hp)(v:V)(e:jf),(∀ b o,b≠a->H b=some o->g b=some o)->Zq kg kh g X.S X.d a X.lv X.ts X.av X.ho X.as X.kvs e->e.length<=h.length+1300->ID (λc=>H c≠none) g ((YB X.ts r).filter (Xx X.ts)).length v->Q v g)->Wd kg kh CTb [.ref T,.ref l] H Q E
abbrev ZP3:jp:=["_law_table_here","_law_rows_here","_law_found"]
theorem Qp:ZB ZP3 zEi (Zc Iq):=Zs
theorem ZNt(F0:Zg K "_law_seen" "_law_seen" Iq f fd)(T0:Yd mg)(g:QZ K mg CTb)(LI:Jl K CTb)(kT:yG K (.ref CTb)=true)(O:ZC P w K mg kj ZM 27 CTb "rows" zEh (XH kg kh CTb))(DW:ZA P w K mg kj 14 "_law_walk" zEj (Xz 10 kg kh)):ZI P w K mg kj ZM 28 f fd zEi (Wd kg kh CTb):=by
 refine F0.ok Qp (λvs H Q E h=>(by cases h;rfl)) (λa6 A a3 s H vs Q E L h=>?_)
 let⟨⟨q,J⟩,oT,t,r3,a7,hl,F,kr,k⟩:=h;rename_i T l X lk ls us r
 let nd:=Qp.nd;let B:=L.mono (show 14<=27 by lia)
 intro Xc;refine⟨_,ZL (Z1 (PW.pt (UQ (UO (Xw (YG Ay rfl T0.isi Py (Zx (pv 0) (Wt (v:=.ref CTb) rfl g.tab rfl))))) (QP (Yb (Nt L) (P6 (E:=E0) (pv 0) g.cT O L YC) (pv 1) (Z8 _))))) WY Z2)
  (ZL (Z1 (Uv (Oo (XS (pv 0) rfl))) (ZR (Zh (WC (Uu (Uc UZ ZJ) (Yk Zu) (Yk Zu) (Yk Zu))))) Z2)
  (ZL (Ze 2 nd (Zf DW B (Zx (XS (pv 0) rfl) (XS (pv 0) rfl))))
  (ZL (Z1 (PW.pt (UQ (Uv (Oo (pv 2))) (QP (Yb (Nt L) (Yx K (pv 2) ZJ) (pv 1) (Z8 _))))) WY Z2)
  (ZR (Zh (pv 2)))))),?_⟩
 let rd:=K8 t.fit;refine⟨_,Z,.mk J g.cT LI ⟨_,Z,Zo ?_⟩⟩;refine⟨_,Z,T,q,_,Z,J,Z,.mk ⟨q,J⟩ t r3 ∅ λR D ws a1 d N l1 nD hD kw=>?_⟩
 let m1:Zt H R:=λb ys e=>d b _ (ZV e t.sh.sh.looks) e;let x:=d _ _ F hl;let C:=kr.mono m1 _ _;exists _,Z,D,l,ws,us,_,_,Z,Z,ZF.of hD,ZF.of x,kw,C,rd,_,Z;rw[eqbL_self];let p:=d _ _ oT.2.2.1 J;let u:∀ c,R c=none->H c=none:=λc n=>by
  cases z:H c with
  | none=>rfl
  | some o=>rw[d c o (λy=>by rw[y,N.sh.sh.looks] at n;cases n) z] at n;cases n
 refine Zo ⟨_,Z,T,CTb,q,_,YR r,Z,p,g.cT,g.nr,Z,_,Z,?_⟩
 cases r with
 | none=>
  refine YM ⟨_,Z,YE,λq1 M=>?_⟩;let⟨U,j,g2,Y⟩:=YD M (.lst []);rw[j];exists YE;intro q2 n2;let⟨H3,j,g3,h3⟩:=YD n2 (.lst []);rw[j];exists YE;intro q3 n3;let⟨H4,j,g4,h4⟩:=YD n3 (.lst []);rw[j];exists YE;intro q4 n4;let⟨H5,j,g5,h5⟩:=YD n4 (.tup [.int (-1),.ref q1,.ref q2,.ref q3]);let j:upd H4 q4 (.tup [V.int (-1),.ref q1,.ref q2,.ref q3])=H5:=j;rw[j];let G:=((g2.trans g3).trans g4).trans g5;exact k H5 _ a1 (λb o n e=>G _ _ (d b o n e)) (N.sh.same G) ∅ ⟨q4,_,q1,_,_,[],Z,h5,((g3.trans g4).trans g5) _ _ Y,Z,λz=>z (u _ M)⟩
 | some i=>
  let⟨hi,tp⟩:=t.tp i Z;let h8:=t.low r3 i Z;let pn:=KH t.fst.wf _ i hi Z;let pn:(Zr X.ts i).length+1<=2 * (gd X.ts i).rows.length:=pn;let a4:(gd X.ts i).rows.length<=320:=r3;refine Zo ⟨_,Z,T,CTb,q,_,.ref X.S,Z,p,g.cT,g.ns,Z,_,Z,T,CTb,q,_,.int (i:Nat),Z,p,g.cT,g.nr,Z,.mk N.sh t.fst hi ∅ a4 ∅ λU v a2 m R2 a8 wk=>?_⟩
  let⟨I,a,b,c,ns,a5,ms,rfl,h1,Y,h3,h4,h5,h6,h7,M,n2,n3⟩:=wk;let m2:Zt R U:=λb ys e=>m b _ (ZV e N.sh.sh.looks) e;let a0:=m _ _ F x;refine⟨_,Z,_,Z,Zo ⟨_,Z,I,_,_,.ref b,Z,Z,Zm.of h1,Z,_,Z,b,l,a5,us,_,_,Z,Z,ZF.of h4,ZF.of a0,h5,C.mono m2 _ _,rd,_,Z,?_⟩⟩;let er:Yp X.ts (some i)=(gd X.ts i).rows:=rfl;rw[er,eqbL_self];refine Zo ⟨_,Z,k U _ a2 (λb o n e=>m b o n (d b o n e)) R2 ∅ ⟨I,_,a,_,_,ns,Z,h1,Y,h3,λz=>?_⟩⟩
  exact M λy=>z (u _ y)
end
theorem FX{K:zZ}{H c:Hp}{a:ak}{d:jf}(m:∀ b o,H b=some o->c b=some o)(h:ZF K H a d):ZF K c a d:=by
 rcases h with (h | ⟨o,h⟩) | h
 ·exact .inl (.inl (m _ _ h))
 ·exact .inl (.inr ⟨o,m _ _ h⟩)
 ·exact .inr h
inductive WO(K:zZ):Sp
 |mk{z:ak}{c:jy}{n:Nat}{H:Hp}{Q:VK}{E:XK}:ZF K H z (c.map V.int)->c.length<=63->n<=60 ->
  (∀(a:Hp)(l:ak)(d:jf)(b:jr),ZD H a->H l=none->a l=some (.lst d)->jX a (Z6 b) d->Up b->(∀ x∈b,x.fit)->b.length<=60->Q (.ref l) a)->WO K [.ref z,.int 1,.int (n:Nat)] H Q E
abbrev ZOz:jp:=["_law_script","_law_first","_law_many","_law_model","_law_k","_law_well_here","_law_spot"]
theorem Us:ZB ZOz zEk (Zc Ku):=Zs
inductive Ho(w:aw)(z:ak)(n:Nat)(D:ak)(H:Hp):Nat->L2.St->Hp->Prop
 |mk{i:Nat}{rs:jr}{xs:List (KT×V×V)}{x4 x5 x6:jg}{H':Hp}:ZD H H'->H D=none->XA w H' D rs xs->(∀ r∈rs,r.fit)->rs.length<=i->Ho w z n D H i [some (.ref z),some (.int 1),some (.int (n:Nat)),some (.ref D),x4,x5,x6] H'
theorem ZKy(F:Zg K "_law_rows" "_law_rows" Ku f fd)(T:Yd mg)(DW:ZA P w K mg kj 1 "_law_well" zEv (VU K))(DK:ZA P w K mg kj 6 "_law_key" zEg (Wh 4))(DO:ZA P w K mg kj 9 "_law_sorted" zFd (Xt w)):ZI P w K mg kj ZM 10 f fd zEk (WO K):=by
 refine F.ok Us (λvs H Q E h=>(by cases h;rfl)) (λa0 A V s H vs Q E d h=>?_)
 let⟨hz,hn,a2,k⟩:=h;rename_i z ns n
 let v:=Us.nd;let L:=d.to 1;let q:=d.to 6;let Dc:=ZU.key d (n:=4) (by decide)
 intro Xc;refine⟨_,ZL (Ze 3 v ZNk)
  (ZL (VD PassesOwn.never rfl (Oh rfl T.range (ZS (pv 2))) (WG 4 v)
   (ZL (Ze 5 v (Zf DW L (Zx (pv 0) (Zj Xg (pv 1) (pv 4)))))
   (ZL (Ze 6 v (Zf DK q (Zx (pv 5) ZJ)))
   (ZR (ZON Dc (pv 3) (pv 6) (Zf DK q (Zx (pv 5) ZJ)) rfl)))))
  (ZR (Zh (Zf DO d (ZS (pv 3)))))),?_⟩
 intro D H1 M a3 s1 C;exists _,Z,(n:Int),Z,nofun,nofun
 rw[tL];refine Nz (lo:=0) (n:=n) (Ho w z n D H) (.mk (x4:=none) (x5:=none) (x6:=none) s1 M ⟨C,.nil⟩ (λr d=>by cases d) (zY _)) ?_ ?_
 ·rintro i _ H2 hi ⟨j,N,m,u,lr⟩;rename_i W xs x4 x5 x6
  exists _,Z,_,Z,_,Z,_,_,Z,Z,z,ns,_,Z,FX (λb o e=>j _ _ e) hz,hn,nofun,nofun
  intro p H3 O B W3;let Dp:D≠p:=by
   let⟨es,h,_⟩:=m.dk.ex;exact ZZ h O
  exists _,Z,p,3,Z,W3,nofun
  intro vk tk H4 kk fk W4 X;exists _,Z,p,1,Z,W4,nofun
  intro vv tv H5 kv fv W5 Y;let t4:=X.tupsW W3;let t5:=Y.tupsW W4;let g:=((m.same B).but X t4 Dp).but Y t5 Dp;let lx:=Paired.length g.rows;let J:=Et tv 1 3 fv (zO (Vv _ 1 fv) (by decide))
  exists _,Z,_,Z,D,xs,tk,Z,g.dk,nofun,kk.mono t5 _ _,Vv _ 3 fk
  intro H6 s6 G;let⟨c,I,l6,i6⟩:=g.put s6 kv G;let R:ZD H H6:=λb o e=>s6 _ _ (Y _ _ (X _ _ (B _ _ (j _ _ e)) (ZZ (j _ _ e) O)) (ZZ (j _ _ e) O)) (ZZ e M);refine .mk R M I (λr d=>?_) nofun
  rcases(i6 r).mp d with y | y
  ·rw[y];exact⟨fk,J⟩
  ·exact u r y.1
 ·rintro _ H2 ⟨j,N,m,u,lr⟩;rename_i W xs x4 x5 x6
  refine⟨_,Z,.mk m u nofun λl us c H3 B nl hl kl U t=>?_⟩
  let a1:c.length=W.length:=by
   let n1:c.Nodup:=wL.imp (λh=>λe=>by rw[e] at h;rw[UW] at h;cases h) (uY.mp U)
   let n2:W.Nodup:=wL.of_map (S:=(· ≠ ·)) (·.1) (λa b h e=>h (by rw[e])) m.nd
   exact xI.length_eq ((List.perm_ext_iff_of_nodup n1 n2).mpr t)
  exact k H3 l us c (j.trans B) (j.free nl) hl kl U (λx hx=>u x ((t x).mp hx)) nofun
inductive Xp(K:zZ):Sp
 |mk{z:ak}{c:jy}{H:Hp}{Q:VK}{E:XK}:ZF K H z (c.map V.int)->c.length<=63 ->
  (∀(a:Hp)(d p l:ak)(e:jf)(b:jr),ZD H a->H p=none->ZW a p->H l=none->l≠p->a l=some (.lst e)->jX a (Z6 b) e->Up b->(∀ x∈b,x.fit)->b.length<=304->a d=some (.tup [.ref p,.ref l])->Q (.ref d) a)->Xp K [.ref z,.int 61] H Q E
abbrev AB:jp:=["_law_script","_law_most","_law_ground_here","_law_many","_law_step"]
theorem Vh:ZB AB zE0 (Zc JT):=Zs
def Os(a:Int)(n:Nat):jr:=(yF n).map λi:Nat=>(KT.int (a * (0+(i:Int))-50),KT.int ((0+(i:Int)) % 7))
theorem ZKU(F:Zg K "_law_ground" "_law_ground" JT f fd)(T:Yd mg)(DW:ZA P w K mg kj 1 "_law_well" zEv (VU K))(Y:ZA P w K mg kj 1 "_law_pull" zEe YA)(DR:ZA P w K mg kj 10 "_law_rows" zEk (WO K)):ZI P w K mg kj ZM 11 f fd zE0 (Xp K):=by
 refine F.ok Vh (λvs H Q E h=>(by cases h;rfl)) (λa8 A a6 s H vs Q E hr h=>?_)
 let⟨hz,hn,k⟩:=h;rename_i z ns
 let nd:=Vh.nd;let g:=hr.to 1;intro Xc;refine⟨_,ZL (Ze 2 nd (Zf DW g (Zx (pv 0) ZJ)))
  (ZL (Ze 3 nd (Zf Y g (Zx (pv 2) (pv 1))))
  (ZL (Z1 (Yb UD (Zf Y g (Zx (pv 2) ZJ)) ZJ (Z8 _))
   (ZL (Ze 3 nd (Zf Y g (Zx (pv 2) (Zj Q0 ZJ (pv 1)))))
   (ZL (N3 (i:=4) nd rfl (Or.inr rfl) (Zj Xg ZJ (Zf Y g (Zx (pv 2) ZJ))))
   (ZR (Zh (WC (Zx (pv 2) (VJ [4] ["_law_step"] rfl (Oh rfl T.range (ZS (pv 3))) (λ_ _ _ _ _=>Wc) (λ_ _ _ _ _=>WC (Zx (Zj Vg (Zj Q0 (pv 1) (pv 0)) ZJ) (Zj Po (pv 0) ZJ))) ⟨rfl,.inl rfl,rfl,trivial⟩))))))) Z2)
  (ZR (Zh (WC (Zx (pv 2) (Zf DR hr (UA (pv 0) ZJ (pv 3))))))))),?_⟩
 exists _,Z,z,ns,0,Z,hz,hn,∅,by lia
 intro p H1 np s1 W1;exists _,Z,_,Z,p,61,Z,W1,Wn (by decide) (by decide)
 intro n1 H2 a0 a1 W2 s2;refine⟨_,Z,p,8,Z,W2,Wn (by decide) (by decide),λn2 H3 b0 b1 W3 s3=>⟨Z,_,Z,?_⟩⟩
 let S:=s2.trans s3;let r:ZD H H3:=λb o e=>S _ _ (s1 _ _ e) (ZZ e np);by_cases c:n2=1
 ·subst c;rw[aJ rfl];refine YM ⟨_,Z,_,Z,_,_,Z,Z,.inl ⟨by decide,by decide⟩,p,305,Z,W3,Wn (by decide) (by decide),λn3 H4 c0 c1 W4 s4=>?_⟩
  refine⟨_,Z,p,3,Z,W4,Wn (by decide) (by decide),λn4 L d0 d1 W5 s5=>⟨_,_,Z,Z,?_⟩⟩
  let a7:=(S.trans s4).trans s5;let v:ZD H L:=λb o e=>a7 _ _ (s1 _ _ e) (ZZ e np);obtain⟨d,a3⟩:∃ d,d=(1:Int)+n4:=⟨_,Z⟩;let a2:∀ i,i<n3.toNat->(KT.int (d * (0+(i:Int))-50)).fits 3=true/\(KT.int ((0+(i:Int)) % 7)).fits 3=true:=λi I=>by
   let M:(2000:Nat)<=10 ^ 60:=by decide
   refine⟨aJ (yU ?_ M),aJ (yU ?_ M)⟩
   ·obtain y | y | y:d=1\/d=2\/d=3:=∅
    all_goals (subst y;lia)
   ·lia
  exists _,Z,_,Z,n3,Z,∅,by lia
  refine WT (n:=n3.toNat) (λi x=>x=.int (0+(i:Int))) (λD i B t=>ZD L t/\L D=none/\jX t (Z6 (Os d i)) B) (Ym ∅)
   (λD i B t I _=>I) (λD i B t x u I _ hy=>hy) (λD B t _=>zY _) (λD hD=>⟨Zl hD _,hD,.nil⟩) (λD i B t x eD a9 I hx hP R hR=>?_) (λD B t eD hP=>?_)
  ·subst hx;let⟨s6,J,ky⟩:=hP;exists _,Z,_,Z,_,_,Z,Z,.inl ⟨∅,∅⟩,_,_,Z,Z,_,Z,_,_,Z,Z,(show (0:Int)<7 by decide),YE
   intro q O;let⟨u,C,G,h7⟩:=YD O (.tup [.int (d * (0+(i:Int))-50),.int ((0+(i:Int)) % 7)]);rw[<-a3];let C:upd t q (.tup [(λi j:Int=>V.int (i-j)) (d * (0+(i:Int))) 50,(λi j:Int=>V.int (i % j)) (0+(i:Int)) 7])=u:=C;rw[C];let N:=G _ _ eD;let tD:Zt u (upd u D (.lst (B++[.ref q]))):=(ZK.refl D u).upd.tups N;refine hR _ u N ⟨VQ (s6.trans G) J,J,?_⟩;let e:Os d (i+1)=Os d i++[(KT.int (d * (0+(i:Int))-50),KT.int ((0+(i:Int)) % 7))]:=by unfold Os;rw[List.range_succ,zD];rfl
   rw[e,Pw];exact((ky.sm G).mono tD _ _).append (.cons (.tup (tD _ _ h7) (.cons (.int _) (.cons (.int _) .nil))) .nil)
  ·let⟨s6,J,ky⟩:=hP;exists YE;intro q O;let⟨u,C,G,h7⟩:=YD O (.tup [.ref p,.ref D]);rw[C];let X:=s6.trans G;let a4:H D=none:=by
    cases y:H D with
    | none=>rfl
    | some o=>rw[v _ _ y] at J;cases J
   refine k u q p D B (Os d n3.toNat) (v.trans X) np (W5.same X) a4 (M9 W5 J) (G _ _ eD) (ky.sm G) ?_ (λx hx=>?_) ?_ h7
   ·unfold Os Up OI;rw[vN,uY];refine zEC.imp fun{a b} h=>?_;show KT.lt (.int _) (.int _)=true;rw[KT.lt];refine aJ ?_;have:d * (0+(a:Int))<d * (0+(b:Int)):=Int.mul_lt_mul_of_pos_left ∅ ∅
    lia
   ·let⟨i,I,rfl⟩:=zR.mp hx;exact a2 i (xO.mp I)
   ·unfold Os;rw[zX,rY]
    lia
 ·rw[aI (λy=>c (O6 y))];obtain⟨m,rfl⟩:∃ m:Nat,n1=(m:Int):=⟨n1.toNat,∅⟩
  refine Zo ⟨_,Z,_,Z,_,Z,.mk (FX (λb o e=>r _ _ e) hz) hn ∅ λH4 l us rs s4 nl hl kl U rf c2=>⟨YE,λq O=>?_⟩⟩
  let⟨L,C,g5,h5⟩:=YD O (.tup [.ref p,.ref l]);rw[C];let W:=s4.trans g5;let a5:H l=none:=by
   cases y:H l with
   | none=>rfl
   | some o=>rw[r _ _ y] at nl;cases nl
  exact k L q p l us rs (r.trans W) np (W3.same W) a5 (M9 W3 nl) (g5 _ _ hl) (kl.sm g5) U rf ∅ h5
theorem O3{H:Hp}{p:ak}(W:ZW H p):∃ o,H p=some (.lst o):=by
 let⟨_,_,_,_,a,_⟩:=W.ex;exact⟨_,a⟩
section
variable{kg kh CTb:ak}
inductive WJ(kg kh CTb:ak):Sp
 |mk{X:Za}{lk p l:ak}{ls us:jf}{rs:jr}{H:Hp}{Q:VK}{E:XK}:ZW H p->Zq kg kh H X.S X.d lk X.lv X.ts X.av X.ho X.as X.kvs ls->X.ts=[]->X.lv=[]->Zz X lk p->Zz X lk l->H l=some (.lst us)->jX H (Z6 rs) us->Up rs->(∀ x∈rs,x.fit)->rs.length<=3->l≠p->ls.length<=1000 ->
  (∀(H':Hp)(X':Za)(T:ak)(r:js)(ls':jf),X'.S=X.S->(∀ c o,c≠p->Zz X lk c->H c=some o->H' c=some o/\Zz X' lk c)->ZW H' p->Zz X' lk p->YL CTb H' T X'.S r->Zz X' lk T->(∀ c o,Zz X lk c->H c=some o->c≠T)->Tf kg kh H' X' lk ls' r->Yp X'.ts r=rs->Gw X X' r->X'.ts.length<=130->ls'.length<=ls.length+200->Q (.ref T) H')->WJ kg kh CTb [.ref p,.ref X.S,.ref l] H Q E
abbrev ZO5:jp:=["_law_well_here","_law_shelf","_law_rows_here","_law_way","_law_table_here","_law_turn","_law_row"]
theorem U8:ZB ZO5 zEb (Zc Jc):=Zs
inductive CU(kg kh CTb:ak)(X:Za)(lk p T:ak)(ls:jf)(rot:jr)(σ0:jg->L2.St)(H:Hp):Nat->L2.St->Hp->Prop
 |mk{j:Nat}{x6:jg}{X':Za}{r:js}{ls':jf}{H':Hp}:X'.S=X.S->(∀ c o,c≠T->Zz X lk c->H c=some o->H' c=some o/\Zz X' lk c)->Zz X' lk T->YL CTb H' T X'.S r->Tf kg kh H' X' lk ls' r->P4 X' r->(∀ x,x∈Yp X'.ts r ↔ x∈rot.take j)->(Yp X'.ts r).length<=j->ls'.length<=ls.length+18 * j->CU kg kh CTb X lk p T ls rot σ0 H j (σ0 x6) H'
theorem Aj{X:Za}{p T a:ak}{s:jf}{r:js}{H:Hp}{Q:Hp->Prop}(t:Tf kg kh H X p s r)(h:H T=none)(j:H a=none)(k:∀ c,ZD H c->YL CTb c T X.S r->Q c):Yo kg kh CTb [.ref T,.ref X.S,YR r] (upd (upd H a (.own T)) T (.ins CTb a [])) (λv c=>v=.non/\Q c) E0:=by
 let l:ZD H (upd (upd H a (.own T)) T (.ins CTb a [])):=λb o q=>by
  rw[ZQ (ZZ q h),ZQ (ZZ q j)];exact q
 let⟨u,n⟩:=t.sh.sh.self;let TS:T≠X.S:=(ZZ n h).symm;refine Yo.mk (X:=X) (dx:=a) ZX TS (t.sh.same l) (λi e=>⟨(t.tp i e).1,by rw[(t.tp i e).2.2];exact zY _⟩) λm d g=>⟨Z,?_⟩
 exact k m (λb o q=>d b o (ZZ q h) (l b o q)) g
theorem ZOp{X a:Za}{r:js}(d:X.ts=[])(c:X.lv=[])(o:P4 a r):Gw X a r:=by
 exists ⟨a.ts,by rw[d];rfl⟩,?_,λi b=>(by rw[c] at b;cases b)
 ·rw[c,o.lv]
  cases r with
  | none=>exact .refl _
  | some i=>
   have:YB a.ts (some i)=[i]:=by show YH a.ts (gd a.ts i).h i=_;rw[o.h0 i rfl];rfl
   rw[this];exact .refl _
 ·rw[o.lv]
  cases r with
  | none=>exact .nil
  | some i=>exact sV _ _
theorem BB(F0:Zg K "_law_table" "_law_table" Jc f fd)(T0:Yd mg)(LT:QZ K mg CTb)(DP:ZA P w K mg kj 1 "_law_pull" zEe YA)(DF:ZA P w K mg kj 11 "filled" zFa (Yl kg kh CTb))(DT:Mr P w K mg kj 5 CTb zEn (Yo kg kh CTb))(e8:ZC P w K mg kj (WA P w) 15 CTb "put" zFb (WR kg kh CTb))(e9:ZA P w K mg kj 11 "_law_tree" zEb (VY kg kh)):
  ZI P w K mg kj ZM 16 f fd zEb (WJ kg kh CTb):=by
 refine F0.ok U8 (λvs H Q E h=>(by cases h;rfl)) (λl2 A l0 s H vs Q E hr h=>?_)
 let⟨W,R,t0,v0,V,oL,hl,kr,U,rf,r3,lp,l3,q⟩:=h;rename_i X lk p l ls m B
 let nd:=U8.nd;let c9:=hr.mono (show 1<=15 by lia)
 let e0:=hr.mono (show 6<=15 by lia)
 let a0:=hr.mono (show 11<=15 by lia)
 intro Xc;refine⟨_,ZL (Ze 3 nd (Zf DP c9 (Zx (pv 0) ZJ)))
  (ZL (Z1 (Yb UD (pv 3) ZJ (Z8 _)) (ZR (Zh (Zf DF a0 (Zx (pv 1) (Vf Pb rfl T0.list Pe (ZS (pv 2))))))) Z2)
  (ZL (Z1 (Yb UD (pv 3) ZJ (Z8 _))
   (ZL (Ze 4 nd (Cb DT e0 rfl LT.tab (ZS (pv 1))))
   (ZL (Ze 5 nd (Zf DP c9 (Zx (pv 0) (Zj Xg (YG Xd rfl T0.len XG (ZS (pv 2))) ZJ))))
   (ZL (VD PassesOwn.never rfl (X9 (Zj Ph (PJ PU (pv 2) (QD (pv 5)) OT) (PJ PU (pv 2) OT (QD (pv 5))))) (WG 6 nd)
    (ZR (XT (YV (E:=E0) (pv 4) LT.cT e8 hr Io (Zx (Yx K (pv 6) ZJ) (Yx K (pv 6) ZJ))))))
   (ZR (Zh (pv 4)))))) Z2)
  (ZR (Zh (Es DT e0 rfl LT.tab (Zx (pv 1) (Zf e9 a0 (UA (pv 0) (pv 1) (pv 2))))))))),?_⟩
 let lu:m.length=B.length:=by have:=kr.length;rw[<-this];exact zX _
 let a2:VT X.lv X.ts X.av X.ho:=⟨(λi hi=>by rw[v0] at hi;cases hi),by rw[v0];exact uS,λi hi=>by rw[v0] at hi;cases hi⟩
 let l1:X.lv.Pairwise (· < ·):=by rw[v0];exact .nil
 exists _,Z,p,3,Z,W,Wn (by decide) (by decide)
 intro wy H1 w0 w3 W1 I;let⟨_,i3⟩:=O3 W;let m1:Zt H H1:=I.tupsW W;let R1:=R.but I i3 V;let a4:=I _ _ hl lp;let a6:=kr.mono m1 _ _;let⟨_,L⟩:=O3 W1;exists _,Z,Z,_,Z;by_cases c0:wy=0
 ·subst c0;rw[aJ rfl];refine YM ⟨_,Z,_,Z,l,m,Z,.inl (ZF.of a4),λq1 n1=>?_⟩;let⟨H2,eU,g2,h2⟩:=YD n1 (.lst m);rw[eU];refine .mk (R1.same g2) a2 l1 (by rw[t0];exact zM _) h2 (a6.sm g2) U rf ∅ λH3 X3 T r G3 D e6 i8 t3 er gw lc tl=>?_
  let p3:=(G3.fr _ _ V (g2 _ _ L));refine q H3 X3 T r ls G3.S (λc o n f e=>?_) ?_ (G3.off _ _ V (g2 _ _ L)) D i8 (λc o f e=>?_) t3 er gw ?_ ∅
  ·let e2:=g2 _ _ (I _ _ e n);exact⟨G3.fr _ _ f e2,G3.off _ _ f e2⟩
  ·let⟨a,b,c,d,e,rr⟩:=W1.ex;exact⟨a,b,c,d,G3.fr _ _ V (g2 _ _ e),rr⟩
  ·by_cases y:c=p
   ·rw[y];exact e6 p _ V (g2 _ _ L)
   ·exact e6 c o f (g2 _ _ (I _ _ e y))
  ·have:=t0;rw[t0] at tl;have:Yr B.length<=1:=by unfold Yr;lia
   simp at tl
   lia
 rw[aI (λy=>c0 (O6 y))];refine Zo ⟨_,Z,Z,_,Z,?_⟩;let tn:Tf kg kh H1 X lk ls none:=⟨R1,a2,λi e=>by cases e⟩
 by_cases c1:wy=1
 ·subst c1;rw[aJ rfl];refine YM ⟨_,Z,λT d0 O i6 z0=>Aj (X:=X) (r:=none) tn O i6 λH2 s2 a3=>?_⟩;let W2:=W1.same s2;let c7:=s2 _ _ a4;let oT:Zz X lk T:=R1.new O;let Tp:p≠T:=ZZ L O;exists _,Z,_,Z,l,m,Z,.inl (ZF.of c7),_,_,Z,Z,p,_,Z,W2,Wn ∅ ∅
  intro tn H3 l6 l8 W3 Y;obtain⟨g,rfl⟩:∃ g:Nat,tn=(g:Int):=⟨tn.toNat,∅⟩
  let⟨dx,a3⟩:=a3;let D:=Y _ _ a3 Tp.symm;let⟨_,a5⟩:=O3 W2;let m3:Zt H1 H3:=λb xs e=>Y.tupsW W2 b xs (s2 _ _ e);let R3:=(R1.same s2).but Y a5 V;let c8:=Y _ _ c7 lp;let e3:=a6.mono m3 _ _;exists _,Z,_,Z,_,Z,l,m,Z,ZF.of c8;intro q1 n1;rw[E3];let⟨H4,eU,g4,h4⟩:=YD n1 (.lst (m.drop g));rw[eU];exists _,Z,_,Z,_,Z,l,m,Z,ZF.of (g4 _ _ c8);intro q2 n2;rw[FL];let⟨H5,eU,g5,h5⟩:=YD n2 (.lst (m.take g));rw[eU];exists q1,q2,m.drop g,m.take g,Z,Z,g5 _ _ h4,h5,nn (by rw[xQ,yJ];lia)
  intro q3 n3;let⟨H6,eU,g6,h6⟩:=YD n3 (.lst (m.drop g++m.take g));rw[eU];let F:=(g4.trans g5).trans g6;let R6:=R3.same F;let c5:=F _ _ D;let o3:Zz X lk q3:=(R3.same (g4.trans g5)).new n3;let T3:q3≠T:=(ZZ ((g4.trans g5) _ _ D) n3).symm;let W6:=W3.same F;let⟨_,i4⟩:=O3 W6;let k6:jX H6 (Z6 (B.drop g++B.take g)) (m.drop g++m.take g):=by
   rw[Pw,(P2 _ _).1,(P2 _ _).2];exact((e3.sm F).drop g).append ((e3.sm F).take g)
  let e4:(m.drop g++m.take g).length=B.length:=by rw[zW,xQ,yJ];lia
  let G:(B.drop g++B.take g).Perm B:=by
   refine tW.trans ?_;rw[yD]
  let a7:((B.drop g++B.take g).map (·.1)).Nodup:=(G.map _).nodup_iff.mpr (BK U);generalize B.drop g++B.take g=t at k6 G a7;let e7:∀ c o,c≠p->H c=some o->H6 c=some o:=λc o n e=>F _ _ (Y _ _ (s2 _ _ (I _ _ e n)) n);refine⟨q3,Z,⟨_,ZF.of h6⟩,PR (K:=K) (a:=q3) (xs:=m.drop g++m.take g) (CU kg kh CTb X lk p T ls t (λx6=>[some (.ref p),some (.ref X.S),some (.ref l),some (.int 1),some (.ref T),some (.int (g:Nat)),x6]) H6) (.mk (x6:=none) (r:=none) rfl (λc o _ f e=>⟨e,f⟩) oT ⟨dx,c5⟩ ⟨R6,a2,λi e=>by cases e⟩ ⟨v0,(λi e=>by cases e),(by rw[t0];exact zY _)⟩ (λx=>by rw[wC];exact Iff.rfl) (zY _) ∅) (λj σ H7 _ hP=>by let⟨_,fr,_⟩:=hP;exact ZF.of (fr _ _ T3 o3 h6).1) ?_ ?_⟩
  ·rintro j u _ H7 hu ⟨a1,C,a8,J,t7,o7,M,l7,i5⟩;rename_i x6 X7 r7 e5
   let hj:j<B.length:=by have:=(yZ.mp hu).1;lia
   let⟨a,vk,vv,er,rfl,ea,c1,c2⟩:=QS k6 hu;generalize t.getD j rd=x at er c1 c2;let mx:x∈B:=G.mem_iff.mp (zJ er);let N:Zt H6 H7:=λb xs e=>(C b _ (ZV e c5) (R6.off e (by intro _ _ _ z;cases z) (by intro _ z;cases z) (by intro _ z;cases z)) e).1
   let⟨d7,c6⟩:=id J;refine⟨_,Z,T,d7,_,Z,c6,Z,_,Z,a,_,_,vk,Z,Z,Zm.of (N _ _ ea),Z,_,Z,a,_,_,vv,Z,Z,Zm.of (N _ _ ea),Z,.mk J t7 o7 ∅ ∅ a8 (c1.mono N _ _) (rf x mx).1 (c2.mono N _ _) (rf x mx).2 λH8 X8 l5 r8 b8 i0 i1 i9 t8 o8 i2 c3 l4=>?_⟩
   let et:t.take (j+1)=t.take j++[x]:=by rw[yS,er];rfl
   refine .mk (i0.trans a1) (λc o n f e=>?_) i9 i2 t8 o8 (λy=>?_) ?_ ∅
   ·let⟨e1,e2⟩:=C c o n f e;exact i1 c o n e2 e1
   ·rw[c3,WQ,et,yW,zH,M y];constructor
    ·rintro(z | z)
     ·exact .inr z
     ·exact .inl z.1
    ·rintro(z | z)
     ·refine .inr ⟨z,λe=>?_⟩;let hs:t=t.take j++x::t.drop (j+1):=by
       let⟨hi,e⟩:=yZ.mp er;rw[<-e,<-xB hi,yD]
      rw[hs,zD,yV,yA] at a7;exact a7.2.2 y.1 (zR.mpr ⟨y,z,Z⟩) x.1 zS e
     ·exact .inl z
   ·rw[c3];have:=Gf (k:=x.1) (v:=x.2) (rs:=Yp X7.ts r7)
    lia
  ·rintro _ H7 ⟨a1,C,a8,J,t7,o7,M,l7,i5⟩;rename_i x6 X7 r7 e5
   let lr:t.length=B.length:=G.length_eq;rw[e4,zE ∅] at M
   let p7:=C p _ Tp V i4;refine⟨_,Z,q H7 X7 T r7 e5 a1 (λc o n f e=>?_) ?_ p7.2 J a8 (λc o f e=>?_) t7 (Hm t7.up U λx=>(M x).trans G.mem_iff) (ZOp t0 v0 o7) ?_ ∅⟩
   ·let e1:=I _ _ e n;exact C c o (ZZ e1 O) f (e7 c o n e)
   ·let⟨a,b,c,d,e,rr⟩:=W6.ex;exact⟨a,b,c,d,(C p _ Tp V e).1,rr⟩
   ·by_cases y:c=p
    ·rw[y];exact Tp
    ·exact ZZ (I _ _ e y) O
   ·have:=o7.tl;have:r7.toList.length<=1:=by cases r7 <;> simp
    lia
 ·rw[aI (λy=>c1 (O6 y))];refine Zo ⟨_,Z,_,Z,_,Z,_,Z,.mk W1 R1 t0 v0 V oL a4 a6 U rf ∅ lp λH2 X2 r W2 a9 c4 i7 t2 er tl gw=>?_⟩
  rw[<-a9];refine KK (X:=X2) (r:=r) t2 λH3 T Y O D=>?_;refine q H3 X2 T r ls a9 (λc o n f e=>?_) (W2.same Y) i7 D (t2.sh.new O) (λc o f e=>?_) (t2.same Y) er gw tl ∅
  ·let⟨e1,e2⟩:=c4 c o n f (I _ _ e n);exact⟨Y _ _ e1,e2⟩
  ·by_cases y:c=p
   ·let⟨_,a5⟩:=O3 W2;rw[y];exact ZZ a5 O
   ·exact ZZ (c4 c o y f (I _ _ e y)).1 O
end
section
variable{kg kh CTb:ak}{H H':Hp}{X X':Za}{lk:ak}{ls ls':jf}{Ts A B:List (ak×js)}{T:ak}{r:js}
theorem Sv.same(s:Sv kg kh CTb H X lk ls Ts)(g:ZD H H'):Sv kg kh CTb H' X lk ls Ts:=⟨s.sh.same g,s.fst,s.up,s.cov,λp b=>by
 let⟨⟨a,h⟩,o⟩:=s.tab p b;exact⟨⟨a,g _ _ h⟩,o⟩,s.tp⟩
theorem Sv.look(s:Sv kg kh CTb H X lk ls Ts)(c:∀ b o,b≠lk->H b=some o->H' b=some o)(R:Zq kg kh H' X.S X.d lk X.lv X.ts X.av X.ho X.as X.kvs ls'):Sv kg kh CTb H' X lk ls' Ts:=⟨R,s.fst,s.up,s.cov,λp e=>by
 let⟨⟨a,h⟩,o⟩:=s.tab p e;exact⟨⟨a,c _ _ o.2.2.1 h⟩,o⟩,s.tp⟩
theorem Sv.wr(s:Sv kg kh CTb H X lk ls Ts){q:ak}{e:jf}(g:ZK q H H')(a:H q=some (.lst e))(d:Zz X lk q):Sv kg kh CTb H' X lk ls Ts:=⟨s.sh.but g a d,s.fst,s.up,s.cov,λp c=>by
 let⟨⟨b,h⟩,o⟩:=s.tab p c;exact⟨⟨b,g _ _ h (ZV h a)⟩,o⟩,s.tp⟩
theorem Je(s:Sv kg kh CTb H X lk ls Ts)(f:Gw X X' r):(∀ i∈X.lv,gd X'.ts i=gd X.ts i)/\(∀ p∈Ts,YB X'.ts p.2=YB X.ts p.2)/\∀ p∈Ts,Yp X'.ts p.2=Yp X.ts p.2:=by
 let⟨g,d⟩:=f.ext;let b:∀ i∈X.lv,gd X'.ts i=gd X.ts i:=λi a=>by
  have:=s.sh.lt i a;rw[d];unfold gd;rw[zU,zU,wM this]
 refine⟨b,λp c=>?_,λp c=>?_⟩
 ·cases e:p.2 with
  | none=>rfl
  | some i=>
   let a:=(s.tp p c i e).1;show YH X'.ts (gd X'.ts i).h i=YH X.ts (gd X.ts i).h i;rw[b i a];exact Lo s.fst.wf b _ i a Z
 ·cases e:p.2 with
  | none=>rfl
  | some i=>
   show (gd X'.ts i).rows=(gd X.ts i).rows;rw[b i (s.tp p c i e).1]
theorem Sv.more(s:Sv kg kh CTb H X lk ls Ts)(k:X'.S=X.S)(m:∀ p∈Ts,∀ o,H p.1=some o->H' p.1=some o/\Zz X' lk p.1)(n:YL CTb H' T X'.S r)(u:Zz X' lk T)(t:Tf kg kh H' X' lk ls' r)(c:Gw X X' r):Sv kg kh CTb H' X' lk ls' (Ts++[(T,r)]):=by
 let⟨w,v,_⟩:=Je s c;let l:(Ts.map (·.2)).flatMap (YB X'.ts)=(Ts.map (·.2)).flatMap (YB X.ts):=Na λo q=>by
  let⟨p,d,rfl⟩:=zR.mp q;exact v p d
 refine⟨t.sh,t.fst,c.up,?_,λp d=>?_,λp d i e=>?_⟩
 ·rw[zD,yR,l];show X'.lv.Perm (_++(YB X'.ts r++[]));rw[zK];exact c.cov.trans (s.cov.append_right _)
 ·rcases yW.mp d with y | y
  ·let⟨⟨f,h⟩,o⟩:=s.tab p y;let⟨g,j⟩:=m p y _ h;exact⟨⟨f,by rw[k];exact g⟩,j⟩
  ·rw[zH.mp y];exact⟨n,u⟩
 ·rcases yW.mp d with y | y
  ·let⟨a,b⟩:=s.tp p y i e;exact⟨c.cov.mem_iff.mpr (yL _ a),c.top i a b⟩
  ·rw[zH.mp y] at e;exact t.tp i e
theorem GO{l g:jk}(h:∀ x∈l,x∉g):l.filter (λt=>decide (t∉g))=l:=vF.mpr λx a=>aJ (h x a)
theorem Sv.gone(s:Sv kg kh CTb H X lk ls (A++(T,r)::B))(D:X'.S=X.S)(E:∀ p∈A++B,∀ o,H p.1=some o->H' p.1=some o/\Zz X' lk p.1)(g:PX kg kh H' X X' lk ls (YB X.ts r)):Sv kg kh CTb H' X' lk ls (A++B):=by
 let k:∀ p∈A++B,p∈A++(T,r)::B:=λp d=>(yW.mp d).elim (λy=>yL _ y) λy=>yM _ (zQ _ y);let c:=s.cov;let f:=c.nodup_iff.mp s.fst.nd;rw[zD,yV,yR,zB] at c f;show Sv kg kh CTb H' X' lk ls (A++B);generalize n:(A.map (·.2)).flatMap (YB X.ts)=a at c f;generalize q:(B.map (·.2)).flatMap (YB X.ts)=b at c f;let c:X.lv.Perm (a++(YB X.ts r++b)):=c;let f:(a++(YB X.ts r++b)).Nodup:=f;rw[yA,yA] at f;let F:∀ x∈a,x∉YB X.ts r:=λx j y=>f.2.2 x j x (yL _ y) Z;let G:∀ x∈b,x∉YB X.ts r:=λx j y=>f.2.1.2.2 x y x j Z;let m:X'.lv.Perm (a++b):=by
  rw[g.lv];refine(c.filter _).trans ?_;rw[wP,wP,GO F,GO G,uC.mpr λx j y=>(of_decide_eq_true y) j,vJ]
 let l:∀ p∈A++B,∀ i,p.2=some i->i∈X'.lv:=λp d i e=>m.mem_iff.mpr (by
  rw[<-n,<-q,<-yR,<-zD];exact yI.mpr ⟨some i,zR.mpr ⟨p,d,e⟩,Qx _ _ _⟩)
 refine⟨g.sh,g.fst,?_,?_,λp d=>?_,λp d i e=>?_⟩
 ·rw[g.lv];exact s.up.filter _
 ·rw[g.ts,zD,yR,n,q];exact m
 ·let⟨⟨w,h⟩,o⟩:=s.tab p (k p d);let⟨z,C⟩:=E p d _ h;exact⟨⟨w,by rw[D];exact z⟩,C⟩
 ·let⟨K,u,v⟩:=s.tp p (k p d) i e;let t:=l p d i e;let⟨I,J⟩:=g.av i t;exact⟨t,I.trans u,J.trans v⟩
theorem Sv.nil(s:Sv kg kh CTb H X lk ls []):X.lv=[]:=List.perm_nil.mp s.cov
end
section
variable{kg kh CTb:ak}
abbrev Co:jp:=["_law_script","_law_ground_here","_law_rows_here","_law_shelf","_law_few","_law_beside","_law_handed","_law_table_here","_law_found","_law_other","_law_again"]
theorem Q5:ZB Co zFq (Zc QV):=Zs
structure QN(H:Hp)(X:Za)(lk l:ak)(rs:jr)(us:jf):Prop where
 at_:H l=some (.lst us)
 ks:jX H (Z6 rs) us
 off:Zz X lk l
theorem QN.to{H a:Hp}{X X':Za}{b l:ak}{c:jr}{d:jf}(h:QN H X b l c d)(m:Zt H a)(e:∀ o,H l=some o->a l=some o/\Zz X' b l):QN a X' b l c d:=⟨(e _ h.at_).1,h.ks.mono m _ _,(e _ h.at_).2⟩
theorem QN.same{H a:Hp}{X:Za}{b l:ak}{c:jr}{d:jf}(h:QN H X b l c d)(s:ZD H a):QN a X b l c d:=h.to (ZD.tups s) λo e=>⟨s _ _ e,h.off⟩
theorem QN.look{H d:Hp}{X:Za}{a l:ak}{i:jr}{j k:jf}(h:QN H X a l i j)(c:H a=some (.lst k))(g:∀ b o,b≠a->H b=some o->d b=some o):QN d X a l i j:=h.to (λb m e=>g b _ (ZV e c) e) λo e=>⟨g _ _ h.off.2.2.1 e,h.off⟩
theorem Be{cdv:aj}{A:ax}{outer:jz}{s:am}{Hs:Hp}{E:XK}(T0:Yd mg)(L:Yg K mg kg kh)(LC:Qh K kg)(LT:QZ K mg CTb)(DF:ZA P w K mg kj 11 "filled" zFa (Yl kg kh CTb))(l1:ZA P w K mg kj 28 "_law_seen" zEi (Wd kg kh CTb))(DX:ZA P w K mg kj 5 "_law_exact" zEq (Xv kg kh CTb))(o9:ZC P w K mg kj ZM 27 CTb "rows" zEh (XH kg kh CTb))(e8:ZC P w K mg kj ZM 15 CTb "clear" zEh (Y8 kg kh CTb))(DN:ZC P w K mg kj ZM 1 kg "numbers" zEh (YW kg kh))(hr:ZU 28 (A.deeper (envOfC "law" (Zc QV) s.heap.objs.size f cdv))):
  ∃ t,Wj (Vc ZM P w K mg kj Co "law" (Zc QV) f cdv A outer s Hs E).nox ((Ws QV).drop 6) t/\∀(D0:Y0)(H:Hp)(d q l fl hd:ak)(X:Za)(Y:ak)(ls us fu hu:jf)(g M:js)(W fs:jr)(x0 x1:jg),
   Sv kg kh CTb H X Y ls [(d,g),(q,M)]->d≠q->Yp X.ts g=fs->Yp X.ts M=W->W.length<=304->fs.length<=3->QN H X Y l W us->QN H X Y fl fs fu->QN H X Y hd W hu->l≠hd->fl≠hd->((YB X.ts M).filter (Xx X.ts)).length=Yr W.length->X.ts.length<=300->ls.length<=2000->(∀ H',D0.rt (.bl true) H') ->
    t D0 [x0,x1,some (.ref l),some (.ref X.S),some (.ref fl),some (.ref d),some (.ref hd),some (.ref q),none,none,none] H:=by
 let nd:=Q5.nd;let r5:=hr.mono (show 1<=28 by lia)
 let i5:=hr.mono (show 5<=28 by lia)
 let n8:=hr.mono (show 11<=28 by lia)
 let a8:=hr.mono (show 15<=28 by lia)
 let n9:=hr.mono (show 27<=28 by lia)
 refine⟨_,ZL (Z1 (Yb (Nt hr) (pv 6) (pv 2) (Z8 _)) WY Z2)
  (ZL (XT (Fa xL PySem.F.slot_list_clear PySem.F.type_list_clear ZLI (pv 6)))
  (ZL (Ze 8 nd (Zf l1 hr (Zx (pv 7) (pv 2))))
  (ZL (Z1 (PW.pt (UQ (Uv (Oo (pv 8))) (UQ (Yb (ZPM hr) (XS (pv 7) rfl) (pv 3) (Z8 _)) (QP (Yb NG (YG Xd rfl T0.len XG (ZS (Yx K (pv 8) ZJ))) (Zj P3 (Zj Xg (YG Xd rfl T0.len XG (ZS (pv 2))) ZJ) ZJ) (Z8 _)))))) WY Z2)
  (ZL (Z1 (PW.pt (UQ (UO (Xw (Zf DX i5 (Zx (pv 3) (Yk (Zx (pv 5) (pv 7))))))) (QP (Yb (Nt hr) (P6 (E:=E0) (pv 5) LT.cT o9 n9 YC) (pv 4) (Z8 _))))) WY Z2)
  (ZL (Ze 9 nd (Zf DF n8 (Zx (pv 3) (Vf Pb rfl T0.list Pe (ZS (pv 2))))))
  (ZL (Z1 (UO (Xw (Zf DX i5 (Zx (pv 3) (Yk (UA (pv 5) (pv 7) (pv 9))))))) WY Z2)
  (ZL (XT (P6 (E:=E0) (pv 7) LT.cT e8 a8 YC))
  (ZL (Ze 10 nd (Zf l1 hr (Zx (pv 9) (pv 2))))
  (ZL (Z1 (PW.pt (UQ (Uv (Oo (pv 10))) (UQ (Yb NG (YG Xd rfl T0.len XG (ZS (Yx K (pv 10) ZJ))) (YG Xd rfl T0.len XG (ZS (Yx K (pv 8) ZJ))) (Z8 _)) (QP (UO (Xw (Zf DX i5 (Zx (pv 3) (Yk (Zx (pv 5) (pv 9))))))))))) WY Z2)
  (ZL (XT (P6 (E:=E0) (pv 9) LT.cT e8 a8 YC))
  (ZL (XT (P6 (E:=E0) (pv 5) LT.cT e8 a8 YC))
  (ZR (Zh (Ud (Lw hr.units0) (P6 (E:=E0) (pv 3) L.cS DN r5 YC) (Yk Zu) (Z8 _))))))))))))))),
  λD0 H d q l fl hd X Y ls us fu hu g M W fs x0 x1 S0 p0 e1 e2 l3 f3 hl hf hh lh fh lc tl s9 p7=>?_⟩
 let p1:(d,g)∈[(d,g),(q,M)]:=zS;let p2:(q,M)∈[(d,g),(q,M)]:=zQ _ zS;let rf:∀ x∈W,x.fit:=by rw[<-e2];exact(S0.tf p2).fit
 let ff:∀ x∈fs,x.fit:=by rw[<-e1];exact(S0.tf p1).fit
 let U:Up W:=by rw[<-e2];exact(S0.tf p2).up
 let lu:us.length=W.length:=by have:=hl.ks.length;rw[<-this];exact zX _
 exists _,Z,_,Z,hd,l,hu,us,_,_,Z,Z,ZF.of hh.at_,ZF.of hl.at_,hh.ks,hl.ks,K8 rf,_,Z;rw[eqbL_self];refine Zo ⟨_,Z,.inl ⟨Z,_,ZF.of hh.at_⟩,hd,hu,Z,Z,hh.at_,?_⟩;let sx:ZK hd H (upd H hd (.lst [])):=(ZK.refl hd H).upd;let m1:=sx.tups hh.at_;let S1:=S0.wr sx hh.at_ hh.off;let R:=hl.to (X':=X) m1 λo e=>⟨sx _ _ e lh,hl.off⟩;let i1:=hf.to (X':=X) m1 λo e=>⟨sx _ _ e fh,hf.off⟩;generalize upd H hd (.lst [])=H1 at S1 R i1;clear sx m1 S0 hl hf hh;let⟨k,a9⟩:=S1.tab _ p2;let a2:=R.ks;rw[<-e2] at a2;refine⟨_,Z,_,Z,.mk k a9 (S1.tf p2) (by rw[e2];lia) ∅ R.at_ R.off.2.2.1 a2 λH2 v ls2 c2 R2 t6 sn=>?_⟩
 let a6:=S1.sh.sh.looks;let S2:=S1.look c2 R2;let i3:=R.look a6 c2;let m8:=i1.look a6 c2;let⟨tp,h,a,b,c,ns,rfl,i6,ha,i7,na⟩:=sn;let oa:Zz X Y a:=S1.sh.new (Classical.byContradiction na);rw[lc] at i7;let⟨⟨c1,c6⟩,_⟩:=S2.tab _ p2;let⟨s8,m2⟩:=S2.sh.sh.self;refine⟨_,Z,_,Z,Zo ⟨_,Z,q,CTb,c1,_,.ref X.S,Z,c6,LT.cT,LT.ns,Z,_,Z,.mk m2 LC ⟨_,Z,Zo ?_⟩⟩⟩;let p4:V.int ((ns.length:Nat):Int)=V.int ((((us.length:Nat):Int)+3) / 4):=by rw[i7,lu];unfold Yr;congr 1
 refine⟨_,Z,tp,_,_,.ref a,Z,Z,Zm.of i6,Z,a,ns,Z,.inl (ZF.of ha),_,Z,l,us,Z,.inl (ZF.of i3.at_),_,_,Z,Z,_,_,Z,Z,⟨by decide,by decide⟩,Z,false,congrArg V.bl (congrArg not (aJ p4)),Zo ?_⟩
 exists _,Z,_,Z,_,Z,YE;intro q1 n1;let⟨H3,eU,g3,h3⟩:=YD n1 (.lst [.ref d,.ref q]);rw[eU];let al:X.lv.length<=X.ts.length:=Mo (m:=0) S2.up λi hi=>⟨zM _,S2.sh.lt i hi⟩;refine .mk (Ts:=[(d,g),(q,M)]) (S2.same g3) h3 (S2.sh.new n1) ∅ ∅ (by show 2<=10;lia) λH4 ls4 l7 R4 t7=>⟨_,Z,Zo ?_⟩
 let j:∀ b o,b≠Y->H2 b=some o->H4 b=some o:=λb o n e=>l7 b o n (g3 _ _ e);let I:=S2.sh.sh.looks;let o2:Zt H2 H4:=λb xs e=>j b _ (ZV e I) e;let S4:=S2.look j R4;let n0:=i3.look I j;let m9:=m8.look I j;let m3:=j _ _ oa.2.2.1 ha;let c8:=o2 _ _ i6;clear S1 R i1 k a9 a2 c2 R2 l7 R4 g3 h3 c6 m2 a6;let⟨⟨a0,Q⟩,l0⟩:=S4.tab _ p1;refine⟨_,Z,d,a0,_,Z,Q,Z,.mk ⟨a0,Q⟩ (S4.tf p1) (by rw[e1];lia) ∅ λH5 D ws r8 N t5 t8 nD hD kw=>?_⟩
 let S5:=S4.look N t5.sh;let J:=S4.sh.sh.looks;let i4:=n0.look J N;let i2:=m9.look J N;let o3:Zt H4 H5:=λb xs e=>N b _ (ZV e J) e;let m4:=N _ _ oa.2.2.1 m3;let c9:=o3 _ _ c8;rw[e1] at kw;exists _,Z,D,fl,ws,fu,_,_,Z,Z,ZF.of hD,ZF.of i2.at_,kw,i2.ks,K8 ff,_,Z;rw[eqbL_self];refine Zo ⟨_,Z,_,Z,l,us,Z,.inl (ZF.of i4.at_),λq2 n2=>?_⟩;let⟨H6,eU,g6,h6⟩:=YD n2 (.lst us);rw[eU];let S6:=S5.same g6;let a4:=i4.same g6;let e9:=g6 _ _ m4;let e0:=g6 _ _ c9;clear S2 S4 i3 n0 m8 m9 i2 ha m3 i6 c8 j o2 Q l0 hD kw N o3 I J t5;refine .mk S6.sh S6.fst S6.up ∅ h6 a4.ks U rf ∅ λH7 X7 r T G7 C i9 G t3 p6 m0 r6 tl3=>?_
 let S7:Sv kg kh CTb H7 X7 Y r8 [(d,g),(q,M),(r,T)]:=S6.more G7.S (λp hp o e=>⟨G7.fr _ _ (S6.tab p hp).2 e,G7.off _ _ (S6.tab p hp).2 e⟩) C G t3 m0;let⟨_,_,ro⟩:=Je S6 m0;let s3:Yp X7.ts g=fs:=(ro _ p1).trans e1;let s4:Yp X7.ts M=W:=(ro _ p2).trans e2;let i8:=G7.tups S6.sh;let n7:=a4.to (X':=X7) i8 λo e=>⟨G7.fr _ _ a4.off e,G7.off _ _ a4.off e⟩;let m5:=G7.fr _ _ oa e9;let o6:=G7.off _ _ oa e9;let e3:=i8 _ _ e0;let pr:Yr W.length<=76:=by unfold Yr;lia
 let s0:d≠r:=by
  let⟨⟨dx,h⟩,o⟩:=S6.tab _ p1;exact i9 _ _ o h
 let s1:q≠r:=by
  let⟨⟨dx,h⟩,o⟩:=S6.tab _ p2;exact i9 _ _ o h
 rw[<-G7.S];clear S5 S6 i4 a4 m4 e9 c9 e0 g6 h6 i8 C G i9 ro;exists _,Z,_,Z,_,Z,_,Z,YE;intro q3 n3;let⟨H8,eU,g8,h8⟩:=YD n3 (.lst [.ref d,.ref q,.ref r]);rw[eU];let s6:X7.lv.length<=X7.ts.length:=Mo (m:=0) S7.up λi hi=>⟨zM _,S7.sh.lt i hi⟩;refine .mk (Ts:=[(d,g),(q,M),(r,T)]) (S7.same g8) h8 (S7.sh.new n3) ∅ ∅ (by show 3<=10;lia) λH9 r9 l8 R9 t9=>⟨_,Z,Zo ?_⟩
 let u:∀ b o,b≠Y->H7 b=some o->H9 b=some o:=λb o n e=>l8 b o n (g8 _ _ e);let a7:=S7.sh.sh.looks;let o4:Zt H7 H9:=λb xs e=>u b _ (ZV e a7) e;let S9:=S7.look u R9;let c4:=n7.look a7 u;let i0:=u _ _ o6.2.2.1 m5;let e4:=o4 _ _ e3;clear S7 n7 m5 e3 l8 R9 g8 h8 u o4 a7;let q1:(d,g)∈[(d,g),(q,M),(r,T)]:=zS;let q2:(q,M)∈[(d,g),(q,M),(r,T)]:=zQ _ zS;let⟨⟨c1,k⟩,a9⟩:=S9.tab _ q2;refine⟨_,Z,q,c1,_,Z,k,Z,.mk ⟨c1,k⟩ (S9.tf q2) (by rw[s4];lia) a9 λHa Xa l4 O oTa t1 ga=>?_⟩
 let Sa:Sv kg kh CTb Ha Xa Y r9 [(d,g),(r,T)]:=Sv.gone (A:=[(d,g)]) (B:=[(r,T)]) S9 l4 (λp hp o e=>by
  let r4:p∈[(d,g),(r,T)]:=hp;rcases zL.mp r4 with y | y
  ·rw[y];rw[y] at e;exact O d o p0 (S9.tab _ q1).2 e
  ·let y:=zH.mp y;rw[y];rw[y] at e;exact O r o s1.symm (S9.tab _ (zQ _ (zQ _ zS))).2 e) ga
 let ma:Zt H9 Ha:=λb xs e=>(O b _ (ZV e k) (S9.sh.off e (by intro _ _ _ z;cases z) (by intro _ z;cases z) (by intro _ z;cases z)) e).1
 let c5:=c4.to (X':=Xa) ma λo e=>O l o (ZV c4.at_ k) c4.off e;let⟨m6,s2⟩:=O a _ (ZV i0 k) o6 i0;let e5:=ma _ _ e4;let o7:Yp Xa.ts g=fs:=by rw[ga.ts];exact s3
 let c0:Yp Xa.ts T=W:=by rw[ga.ts];exact p6
 let r7:((YB Xa.ts T).filter (Xx Xa.ts)).length=Yr W.length:=by rw[ga.ts];exact r6
 let tla:Xa.ts.length=X7.ts.length:=by rw[ga.ts]
 rw[<-l4];clear S9 c4 i0 e4 k a9 O ga ma;let a1:(d,g)∈[(d,g),(r,T)]:=zS;let a3:(r,T)∈[(d,g),(r,T)]:=zQ _ zS;let⟨C,G⟩:=Sa.tab _ a3;let a5:=c5.ks;rw[<-c0] at a5;refine⟨_,Z,_,Z,.mk C G (Sa.tf a3) (by rw[c0];lia) ∅ c5.at_ c5.off.2.2.1 a5 λHb v lsb c3 Rb llb sn=>?_⟩
 let c7:=Sa.sh.sh.looks;let Sb:=Sa.look c3 Rb;let mb:Zt Ha Hb:=λb xs e=>c3 b _ (ZV e c7) e;let m7:=c3 _ _ s2.2.2.1 m6;let e6:=mb _ _ e5;let⟨s5,h',a',b',c',o5,rfl,o0,r0,e7,na'⟩:=sn;rw[r7] at e7;let p5:V.int ((o5.length:Nat):Int)=V.int ((ns.length:Nat):Int):=by rw[i7,e7]
 refine⟨_,Z,_,Z,Zo ⟨_,Z,s5,_,_,.ref a',Z,Z,Zm.of o0,Z,a',o5,Z,.inl (ZF.of r0),_,Z,tp,_,_,.ref a,Z,Z,Zm.of e6,Z,a,ns,Z,.inl (ZF.of m7),Z,false,congrArg V.bl (congrArg not (aJ p5)),Zo ?_⟩⟩;exists _,Z,_,Z,_,Z,YE;intro q4 n4;let⟨Hc,eU,gc,hc⟩:=YD n4 (.lst [.ref d,.ref r]);rw[eU];let s7:Xa.lv.length<=Xa.ts.length:=Mo (m:=0) Sb.up λi hi=>⟨zM _,Sb.sh.lt i hi⟩;refine .mk (Ts:=[(d,g),(r,T)]) (Sb.same gc) hc (Sb.sh.new n4) ∅ ∅ (by show 2<=10;lia) λHd o1 l9 Rd lld=>⟨_,Z,Zo ?_⟩
 let Sd:=(Sb.same gc).look l9 Rd;clear Sa Sb c5 m6 m7 e5 e6 c7 mb c3 Rb gc hc l9 Rd C G a5;let⟨⟨l2,C⟩,G⟩:=Sd.tab _ a3;refine⟨_,Z,r,l2,_,Z,C,Z,.mk ⟨l2,C⟩ (Sd.tf a3) (by rw[c0];lia) G λHe Xe l5 p8 oTe t2 ge=>?_⟩
 let Se:Sv kg kh CTb He Xe Y o1 [(d,g)]:=Sv.gone (A:=[(d,g)]) (B:=[]) Sd l5 (λp hp o e=>by
  let y:=zH.mp (show p∈[(d,g)] from hp);rw[y];rw[y] at e;exact p8 d o s0 (Sd.tab _ a1).2 e) ge
 let o8:Yp Xe.ts g=fs:=by rw[ge.ts];exact o7
 rw[<-l5];let⟨⟨a0,Q⟩,l0⟩:=Se.tab _ zS;refine⟨_,Z,d,a0,_,Z,Q,Z,.mk ⟨a0,Q⟩ (Se.tf zS) (by rw[o8];lia) l0 λHf Xf l6 t0 oTf t4 gf=>?_⟩
 let Sf:Sv kg kh CTb Hf Xf Y o1 []:=Sv.gone (A:=[]) (B:=[]) Se l6 (λp hp o e=>by cases hp) gf
 let v0:=Sf.nil;rw[<-l6];let⟨p3,p9⟩:=Sf.sh.sh.self;refine⟨_,Z,Xf.S,p3,_,Z,p9,Z,.mk Sf.sh Sf.up (by rw[v0];decide) λq5 n5=>?_⟩
 rw[v0];let⟨Hg,eU,gg,hg⟩:=YD n5 (.lst ((zN []).map V.int));rw[eU];exists YE;intro q6 n6;exact⟨q5,q6,[],Z,Z,ZF.of (Zl n6 _ _ _ hg),ZF.of ZX,p7 _⟩
def Ou(n:Nat):jr:=(yF n).map λi:Nat=>(KT.int (0+(i:Int)),KT.str "a")
theorem ZOb(F:Zg K "law" "law" QV f fd)(T0:Yd mg)(L:Yg K mg kg kh)(LC:Qh K kg)(LT:QZ K mg CTb)(DI:QG P w K mg kj 1 kg zEh (PD kg))(DG:ZA P w K mg kj 11 "_law_ground" zE0 (Xp K))(DP:ZA P w K mg kj 1 "_law_pull" zEe YA)(c9:ZA P w K mg kj 16 "_law_table" zEb (WJ kg kh CTb))(DF:ZA P w K mg kj 11 "filled" zFa (Yl kg kh CTb))(c8:ZA P w K mg kj 28 "_law_seen" zEi (Wd kg kh CTb))(DX:ZA P w K mg kj 5 "_law_exact" zEq (Xv kg kh CTb))(c7:ZC P w K mg kj ZM 27 CTb "rows" zEh (XH kg kh CTb))(c6:ZC P w K mg kj ZM 15 CTb "clear" zEh (Y8 kg kh CTb))(DN:ZC P w K mg kj ZM 1 kg "numbers" zEh (YW kg kh)):
  ZI P w K mg kj ZM 29 f fd zFq (Uh K):=by
 refine F.ko Q5 λe1 A W s H vs Q E hr h=>?_;let⟨z,ns,rfl,i0,hn,e6⟩:=h;let T:=Q5.nd;let i6:=hr.mono (show 1<=28 by lia)
 let i7:=hr.mono (show 2<=28 by lia)
 let C:=hr.mono (show 11<=28 by lia)
 let a9:=hr.mono (show 16<=28 by lia)
 let⟨tt,ht,hk⟩:=Be (kg:=kg) (kh:=kh) (P:=P) (w:=w) (K:=K) (kj:=kj) (f:=f) (cdv:=e1) (A:=A) (outer:=W) (s:=s) (Hs:=H) (E:=E) T0 L LC LT DF c8 DX c7 c6 DN hr;intro Xc;refine⟨_,ZL (NQ (Zf DG C (Zx (pv 0) ZJ)) (K0 rfl (NW (WG 1 T) (NW (WG 2 T) Kl))))
  (ZL (Ze 3 T (ZPR DI i7 rfl L.shelf))
  (ZL (O8 (i:=4) [] [] T rfl rfl rfl (Oh rfl T0.range (ZS (Zf DP i6 (Zx (pv 1) ZJ)))) (λ_ _ _ _ _=>Wc) (λ_ _ _ _ _=>WC (Zx (pv 0) U0)) trivial)
  (ZL (Ze 5 T (Zf c9 a9 (UA (pv 1) (pv 3) (pv 4))))
  (ZL (Ze 6 T (Vf Pb rfl T0.list Pe (ZS (pv 2))))
  (ZL (Ze 7 T (Zf DF C (Zx (pv 3) (pv 6)))) ht))))),?_⟩
 refine⟨_,Z,.mk i0 hn λY tp p l us rs s1 np W1 nl lp hl kl U rf r3 i8=>?_⟩;exists tp,_,Z,Zm.of i8,Z,_,_,Z,_,_,Z,Z;intro S e nS ne z1;let i3:ZD Y (upd (upd Y e (.own S)) S (.ins kg e [])):=λb o q=>by
  rw[ZQ (ZZ q nS),ZQ (ZZ q ne)];exact q
 refine⟨S,e,Z,ZX,λH3 d t e7 l6 c1 l9 R3=>⟨Z,?_⟩⟩;let s3:ZD Y H3:=λb o q=>e7 b o (ZZ q nS) (i3 b o q);let RP:Zq kg kh H3 S d t [] [] (λ_=>[]) (λ_=>0) [] [] []:=⟨R3,λi g=>(by cases g),Z,λi g=>(by cases g),Z,λi g=>(by cases g),λi g=>(by cases g),λi _ g=>(by cases g)⟩
 let c2:∀ c o,Y c=some o->Zz ⟨S,d,[],[],λ_=>[],λ_=>0,[],[]⟩ t c:=λc o q=>⟨ZZ q nS,ZZ q (i3.free l6),ZZ q (i3.free c1),λi g=>(by cases g)⟩
 obtain⟨j,m⟩:∃ X:Za,X=⟨S,d,[],[],λ_=>[],λ_=>0,[],[]⟩:=⟨_,Z⟩;let RX:Zq kg kh H3 j.S j.d t j.lv j.ts j.av j.ho j.as j.kvs []:=by rw[m];exact RP
 let c4:∀ c o,Y c=some o->Zz j t c:=by rw[m];exact c2
 let e2:j.S=S:=by rw[m]
 let e5:j.ts=[]:=by rw[m]
 let k:j.lv=[]:=by rw[m]
 clear m c2 RP;subst e2;let W3:=W1.same s3;let⟨_,a8⟩:=O3 W1;let oP:=c4 _ _ a8;let oL:=c4 _ _ hl;exists _,Z,p,4,Z,W3,Wn (by decide) (by decide)
 intro n H4 n0 n4 W4 s4;let R4:=RX.but s4 (s3 _ _ a8) oP;let l4:Zt Y H4:=λb xs e=>s4.tupsW W3 b xs (s3 _ _ e);let a6:=s4 _ _ (s3 _ _ hl) lp;let l0:=kl.mono l4 _ _;exists n,Z,∅,by lia
 refine WT (n:=n.toNat) (λi x=>x=.int (0+(i:Int))) (λD i ys u=>ZD H4 u/\H4 D=none/\jX u (Z6 (Ou i)) ys) (Ym ∅)
  (λD i ys u g _=>g) (λD i ys u x y g _ hy=>hy) (λD ys u _=>zY _) (λD hD=>⟨Zl hD _,hD,.nil⟩) (λD i ys u x eD m1 g hx hP R hR=>?_) (λfl fu u eD hP=>?_)
 ·subst hx;let⟨s5,nD,ky⟩:=hP;exists _,Z,YE;intro q nq;let⟨y,eU,g6,h6⟩:=YD nq (.tup [.int (0+(i:Int)),.str "a"]);rw[eU];let a0:=g6 _ _ eD;let tD:Zt y (upd y D (.lst (ys++[.ref q]))):=(ZK.refl D y).upd.tups a0;refine hR _ y a0 ⟨VQ (s5.trans g6) nD,nD,?_⟩;let e:Ou (i+1)=Ou i++[(KT.int (0+(i:Int)),KT.str "a")]:=by unfold Ou;rw[List.range_succ,zD];rfl
  rw[e,Pw];exact((ky.sm g6).mono tD _ _).append (.cons (.tup (tD _ _ h6) (.cons (.int _) (.cons (.str _) .nil))) .nil)
 let⟨s5,nF,kf⟩:=hP;generalize I:Ou n.toNat=fs at kf;let Uf:Up fs:=by
  rw[<-I];unfold Ou Up OI;rw[vN,uY];refine zEC.imp fun{a b} h=>?_;show KT.lt (.int _) (.int _)=true;rw[KT.lt];exact aJ ∅
 let lf:fs.length<=3:=by rw[<-I];unfold Ou;rw[zX,rY];lia
 let ff:∀ x∈fs,x.fit:=λx hx=>by
  rw[<-I] at hx;let⟨i,g,rfl⟩:=zR.mp hx;have:=xO.mp g;refine⟨aJ (yU (show (0+(i:Int)).natAbs<2000 by lia) (by decide)),(show (KT.str "a").fits 3=true by decide +kernel)⟩
 let R5:=R4.same s5;let oF:Zz j t fl:=R4.new nF;let W5:=W4.same s5;let i4:=s5 _ _ a6;let l1:=l0.sm s5;let a2:fl≠p:=M9 W4 nF;let m0:fl≠l:=(ZZ a6 nF).symm;refine⟨_,Z,_,Z,_,Z,.mk W5 R5 e5 k oP oF eD kf Uf ff lf a2 (zM _) λy X6 T1 r1 N a1 G W6 m5 i1 l7 m4 t6 e3 e9 m6 m2=>?_⟩;let e8:VT j.lv j.ts j.av j.ho:=⟨(λi g=>by rw[k] at g;cases g),by rw[k];exact uS,λi g=>by rw[k] at g;cases g⟩
 let S5:Sv kg kh CTb u j t [] []:=⟨R5,e8,by rw[k];exact .nil,by rw[k];exact .refl _,(λp B=>by cases B),(λp B=>by cases B)⟩
 let S6:Sv kg kh CTb y X6 t N [(T1,r1)]:=S5.more a1 (λp B=>by cases B) i1 l7 t6 e9
 let⟨_,i5⟩:=O3 W5;let c0:Zt u y:=λb xs e=>(G b _ (ZV e i5) (R5.off e (by intro _ _ _ z;cases z) (by intro _ z;cases z) (by intro _ z;cases z)) e).1
 let⟨J,c5⟩:=G l _ lp oL i4;let⟨a4,c3⟩:=G fl _ a2 oF eD;let l2:=l1.mono c0 _ _;let i9:=kf.mono c0 _ _;exists _,Z,l,us,Z,.inl (ZF.of J);intro hd nh;let⟨H7,eU,g7,h7⟩:=YD nh (.lst us);rw[eU];let v:=S6.same g7;let oh:Zz X6 t hd:=S6.sh.new nh;rw[<-a1];let M:=l2.sm g7;let pr:Yr rs.length<=76:=by unfold Yr;lia
 refine⟨_,Z,_,Z,.mk v.sh v.fst v.up ∅ h7 M U rf ∅ λH8 X8 T2 r2 r i2 l5 l8 t8 e4 a3 l3 m7=>?_⟩
 let S8:Sv kg kh CTb H8 X8 t N [(T1,r1),(T2,r2)]:=v.more r.S (λp B o e=>⟨r.fr _ _ (v.tab p B).2 e,r.off _ _ (v.tab p B).2 e⟩) i2 l8 t8 a3;let O:=r.tups v.sh;let e0:T1≠T2:=by
  let⟨⟨dx,h⟩,o⟩:=v.tab _ zS;exact l5 _ _ o h
 let⟨_,_,ro⟩:=Je v a3;rw[<-r.S];let a7:=g7 _ _ J;let a5:=g7 _ _ a4;let m3:([]:jf).length=0:=rfl;exact hk _ H8 T1 T2 l fl hd X8 t N us fu us r1 r2 rs fs _ _ S8 e0 ((ro _ zS).trans e3) e4 r3 lf ⟨r.fr _ _ c5 a7,M.mono O _ _,r.off _ _ c5 a7⟩ ⟨r.fr _ _ c3 a5,(i9.sm g7).mono O _ _,r.off _ _ c3 a5⟩ ⟨r.fr _ _ oh h7,M.mono O _ _,r.off _ _ oh h7⟩ (ZZ J nh) (ZZ a4 nh) l3 ∅ ∅ e6
end
end Tw
namespace L2
open PySem PySem.Spec
def xT(K:zZ)(C:ak):Bool:=
 (yX K (.ref C) "__class__" == some (some (.builtin "object.__class__")))&&((rR K (.builtin "object.__class__") "__get__" == some (some (.builtin "getset_descriptor.__get__")))&&((sC K (.builtin "object.__class__")==some true)&&((wV K C (.type "object")==some true)&&(yC K (.ref C) (.ref C)==some true))))
theorem Bc{K:zZ}{C:ak}(h:xT K C=true):Jl K C:=by
 unfold xT at h;simp only[zF,beq_iff_eq] at h;let⟨a,b,c,d,e⟩:=h;exact⟨a,b,c,d,e⟩
def xS(K:zZ)(C:ak):Bool:=
 (yX K (.ref C) "__eq__" == some (some (.builtin "object.__eq__")))&&((yX K (.ref C) "__ne__" == some (some (.builtin "object.__ne__")))&&(wV K C (.type "object")==some true))
theorem ZQm{K:zZ}{C:ak}(h:xS K C=true):Qh K C:=by
 unfold xS at h;simp only[zF,beq_iff_eq] at h;let⟨a,b,c⟩:=h;exact⟨a,b,c⟩
end L2
namespace Tw
open PySem PySem.Spec L2 PyProof.Rows
structure OJ(K:zZ)(C:ak):Prop where
 ex:∃ f fd,yX K (.ref C) "__init__" = some (some (.ref f))/\wE K (.ref f)=true/\UX K "__init__" "Table.__init__" OW f fd
theorem Mi{K:zZ}{C f b:ak}{m h e:jx}{p g:Array (jd)}{j kV i o a ct d:aj}{n:Nat}(v:yX K (.ref C) "__init__" = some (some (.ref f)))(l:K.lookup f=some ⟨j,m,.func (xW "__init__" "Table.__init__" (U5 OW) (Ws OW) (Zc OW) (.ref b) kV i o h a ct),p⟩)(r:K.lookup b=some ⟨d,e,.seq #[.none] n,g⟩)(q:wE K (.ref f)=true)(c:wK K a "Table.__init__" = true)(k:yG K (.ref f)=true):OJ K C:=
 ⟨f,_,v,q,⟨j,m,b,kV,i,o,h,a,ct,p,_,n,rfl,l,c,r,rfl⟩,k⟩
theorem MJ{K:zZ}{C f:ak}{m q:Str}{d:aC}{j:jp}{t e:jx}{u:Array (jd)}{s kV o i n ct:aj}(v:yX K (.ref C) m=some (some (.ref f)))(l:K.lookup f=some ⟨s,t,.func (xW m q (U5 d) (Ws d) (Zc d) .none kV o i e n ct),u⟩)(p:wE K (.ref f)=true)(c:wK K n q=true)(k:yG K (.ref f)=true)(r:∀ (kV h i:aj) (e:jx) (g ct:aj) (a:je),a.length=j.length->bindArgs (xW m q (U5 d) (Ws d) (Zc d) .none kV h i e g ct) ⟨a,[]⟩=pure (j.zip a):=by first | exact(λ_ _ _ _ _ _ a b=>match a,b with | [_],_=>rfl) | exact(λ_ _ _ _ _ _ a b=>match a,b with | [_,_],_=>rfl) | exact(λ_ _ _ _ _ _ a b=>match a,b with | [_,_,_],_=>rfl) | exact(λ_ _ _ _ _ _ a b=>match a,b with | [_,_,_,_],_=>rfl) | exact(λ_ _ _ _ _ _ a b=>match a,b with | [_,_,_,_,_],_=>rfl)):Zn K C m q d j:=
 ⟨f,_,⟨v,p,k⟩,Oz (st:=d) l c k,(Oz (st:=d) l c k).binds r⟩
structure Qj(K:zZ)(C:ak)(q:Str)(st:aC)(ps:jp):Prop where
 ex:∃ f fd,yX K (.ref C) "__init__" = some (some (.ref f))/\wE K (.ref f)=true/\Zg K "__init__" q st f fd/\Zv K fd ps []
theorem Mn{K:zZ}{C f:ak}{q:Str}{d:aC}{j:jp}{s e:jx}{t:Array (jd)}{r kV n i m ct:aj}(v:yX K (.ref C) "__init__" = some (some (.ref f)))(l:K.lookup f=some ⟨r,s,.func (xW "__init__" q (U5 d) (Ws d) (Zc d) .none kV n i e m ct),t⟩)(o:wE K (.ref f)=true)(c:wK K m q=true)(k:yG K (.ref f)=true)(p:∀ (kV h i:aj) (e:jx) (g ct:aj) (a:je),a.length=j.length->bindArgs (xW "__init__" q (U5 d) (Ws d) (Zc d) .none kV h i e g ct) ⟨a,[]⟩=pure (j.zip a):=by first | exact(λ_ _ _ _ _ _ a b=>match a,b with | [_],_=>rfl) | exact(λ_ _ _ _ _ _ a b=>match a,b with | [_,_],_=>rfl) | exact(λ_ _ _ _ _ _ a b=>match a,b with | [_,_,_],_=>rfl) | exact(λ_ _ _ _ _ _ a b=>match a,b with | [_,_,_,_],_=>rfl) | exact(λ_ _ _ _ _ _ a b=>match a,b with | [_,_,_,_,_],_=>rfl)):Qj K C q d j:=
 ⟨f,_,v,o,Oz (st:=d) l c k,(Oz (st:=d) l c k).binds p⟩
theorem JF{l:sF}{w:aw}{K:zZ}{h:aD}{mg:jc}{fa f51 CK kg kh CTb:ak}(X:K.In h)(G:h.Ns aq mg)(hfa:mg "law" = some (.ref fa)){od51 an51:jx}{sl51:Array (jd)}{oc51 kV51 dc51 pm51 cd51 ct51:aj}{t1 t2 t3 t4 t5 t6 t7 t8 t9 t10 t11:Tok}(L1:ZY K mg "is_key" Ip zEo)(L2:ZY K mg "checked" Lq zEo)(L3:ZY K mg "fits" M6 zE3)(L4:ZY K mg "has_few_figures" JJ zFo)(L5:ZY K mg "is_sign" Ji ["sign"])(L6:ZY K mg "ahead" Kx zEs)(L7:ZY K mg "place_in" IX zFp)(L8:ZY K mg "standing" Lc zFl)(L9:ZY K mg "checked_rows" Kj zEr)(L10:ZY K mg "own_rows" K7 zEr)(L11:ZY K mg "rise" IN zFe)(L12:ZY K mg "label_of_rows" IA zEr)(L13:ZY K mg "label_over" Ka ["labels"])(L14:ZY K mg "stand_side_by_side" Ik zE4)(L15:ZY K mg "value_of" Jk zEd)(L16:ZY K mg "rows_of" K5 zEc)(L17:ZY K mg "steps_to" KP zEd)(L18:ZY K mg "check_asked" IC zEd)(L19:ZY K mg "place_within" IS zE7)(L20:ZY K mg "branch_at" Jq zFj)(L21:ZY K mg "is_leaf" Kv zFf)(L22:ZY K mg "reached" Mv zEc)(L23:ZY K mg "check_root" Ja zEc)(L24:ZY K mg "release" IV zEc)(L25:ZY K mg "own_way" KN zFh)(L26:ZY K mg "own" HF zE5)(L27:ZY K mg "put_in" JE zEu)(L28:ZY K mg "rows_with" Jn zE9)(L29:ZY K mg "give_rows" Iu zEy)(L30:ZY K mg "add_up" IZ zEp)(L31:ZY K mg "root_with" Jo zEw)(L32:ZY K mg "filled" KM zFa)(L33:ZY K mg "check_rising" IO zFe)(L34:ZY K mg "spread" Jy zFi)(L35:ZY K mg "is_stem" Kr zFn)(L36:ZY K mg "_law_well" K3 zEv)(L37:ZY K mg "_law_pull" JH zEe)(L38:ZY K mg "_law_great" HP zEm)(L39:ZY K mg "_law_text" II zFc)(L40:ZY K mg "_law_key" Mw zEg)(L41:ZY K mg "_law_rank" Lf zE1)(L42:ZY K mg "_law_sorted" Ii zFd)(L43:ZY K mg "_law_tree" NR zEb)(L44:ZY K mg "_law_reached" Ig zEl)(L45:ZY K mg "_law_rows" Ku zEk)(L46:ZY K mg "_law_ground" JT zE0)(L47:ZY K mg "_law_table" Jc zEb)(L48:ZY K mg "_law_walk" M8 zEj)(L49:ZY K mg "_law_seen" Iq zEi)(L50:ZY K mg "_law_exact" Km zEq)(a51:yY K aq "law" = some (some (.ref f51)))(l51:K.lookup f51=some ⟨oc51,od51,.func (xW "law" "law" (U5 QV) (Ws QV) (Zc QV) .none kV51 dc51 pm51 an51 cd51 ct51),sl51⟩)(c51:wK K cd51 "law" = true)(k51:yG K (.ref f51)=true)(z1:yY K aq "isinstance" = some none)(z2:yY K aq "bool" = some none)(z3:yY K aq "int" = some none)(z4:yY K aq "str" = some none)(z5:yY K aq "tuple" = some none)(z6:yY K aq "list" = some none)(z7:yY K aq "len" = some none)(z8:yY K aq "all" = some none)(z9:yY K aq "abs" = some none)(z10:yY K aq "max" = some none)(z11:yY K aq "min" = some none)(z12:yY K aq "range" = some none)(z13:yY K aq "set" = some none)(z14:yY K aq "sorted" = some none)(z15:yY K aq "ValueError" = some none)(z16:yY K aq "sum" = some none)(m1_:yY K aq "MOST_SIGNS" = some (some (.int 40 t1)))(m2_:yY K aq "MOST_THINGS" = some (some (.int 4 t2)))(m3_:yY K aq "MOST_DEEP" = some (some (.int 3 t3)))(m4_:yY K aq "MOST_ROWS" = some (some (.int 4 t4)))(m5_:yY K aq "FEWEST_BRANCHES" = some (some (.int 2 t5)))(m6_:yY K aq "MOST_BRANCHES" = some (some (.int 4 t6)))(m7_:yY K aq "HEIGHT" = some (some (.int 0 t7)))(m8_:yY K aq "LEAST" = some (some (.int 1 t8)))(m9_:yY K aq "GREATEST" = some (some (.int 2 t9)))(m10_:yY K aq "MANY" = some (some (.int 3 t10)))(m11_:yY K aq "KEPT" = some (some (.int 3 t11)))(IjS:Qj K kg "Shelf.__init__" J8 zEh)(IjT:Qj K kh "Twig.__init__" J5 zEx)(IjB:OJ K CTb)(Mm1:Zn K kg "put_leaf" "Shelf.put_leaf" Kq zEz)(Mm2:Zn K kg "put_stem" "Shelf.put_stem" JO zEf)(Mm3:Zn K kg "put_twig" "Shelf.put_twig" Kt zEt)(Mm4:Zn K kg "holders" "Shelf.holders" Jz zEa)(Mm5:Zn K kg "outside" "Shelf.outside" Ir zEa)(Mm7:Zn K kg "look" "Shelf.look" Hn zEa)(Mm8:Zn K kg "label" "Shelf.label" IJ zEa)(Mm9:Zn K kg "numbers" "Shelf.numbers" HJ zEh)(Mm10:Zn K kg "many" "Shelf.many" JA zEh)(Mm12:Zn K kg "twig_of" "Shelf.twig_of" Jg zEa)(Mm13:Zn K kg "labels_of" "Shelf.labels_of" JW zEf)(Mm14:Zn K kg "check_held" "Shelf.check_held" K9 zEf)(Mm15:Zn K kg "take_over" "Shelf.take_over" Kb zE2)(Mm18:Zn K kg "road_up" "Shelf.road_up" JR zEa)(Mm19:Zn K kg "alone" "Shelf.alone" HG zEa)(Mm20:Zn K kg "change_leaf" "Shelf.change_leaf" JP zE6)(Mm22:Zn K kg "labels_up" "Shelf.labels_up" HS zE8)(Mm23:Zn K kg "give_labels" "Shelf.give_labels" Kh zFg)(Mm26:Zn K kg "let_go" "Shelf.let_go" HC zEa)(Mm27:Zn K kg "drop_unheld" "Shelf.drop_unheld" Lz zEa)(Mt1:Zn K CTb "put" "Table.put" HE zFb)(Mt2:Zn K CTb "side" "Table.side" HI zFk)(Mt3:Zn K CTb "rows" "Table.rows" HM zEh)(Mt4:Zn K CTb "clear" "Table.clear" Hl zEh)(xCK:yY K aq "NoKey" = some (some (.ref CK)))(xCSh:yY K aq "Shelf" = some (some (.ref kg)))(xCTw:yY K aq "Twig" = some (some (.ref kh)))(xCTb:yY K aq "Table" = some (some (.ref CTb)))(mkCSh:uM K kg=true)(kpCSh:yG K (.ref kg)=true)(pgCSh:vT K kg Str.empty=true)(hdCSh:vH K kg=true)(poCSh:uI K kg=true)(saCSh:yX K (.ref kg) "__setattr__" = some (some (.builtin "object.__setattr__")))(mkCTw:uM K kh=true)(kpCTw:yG K (.ref kh)=true)(pgCTw:vT K kh Str.empty=true)(hdCTw:vH K kh=true)(poCTw:uI K kh=true)(saCTw:yX K (.ref kh) "__setattr__" = some (some (.builtin "object.__setattr__")))(mkCTb:uM K CTb=true)(kpCTb:yG K (.ref CTb)=true)(pgCTb:vT K CTb Str.empty=true)(hdCTb:vH K CTb=true)(poCTb:uI K CTb=true)(saCTb:yX K (.ref CTb) "__setattr__" = some (some (.builtin "object.__setattr__")))(na_kept:yX K (.ref kg) "kept" = some none)(na_following:yX K (.ref kg) "following" = some none)(na_looks:yX K (.ref kg) "looks" = some none)(na_things:yX K (.ref kh) "things" = some none)(na_tag:yX K (.ref kh) "tag" = some none)(na_above:yX K (.ref kh) "above" = some none)(na_holds:yX K (.ref kh) "holds" = some none)(na_shelf:yX K (.ref CTb) "shelf" = some none)(na_root:yX K (.ref CTb) "root" = some none)(exCK:KS K CK=true)(kpCK:yG K (.ref CK)=true)(mBCK:wV K CK (.type "BaseException")=some true)(tyCK:uP K (.ref CK)=some (.type "type"))(xtCT:xT K CTb=true)(xsCS:xS K kg=true):
  ∃ m:ap,(∀(s:am)(v:aj),BindsTo s m ⟨[v],[]⟩ [("_law_script",v)])/\∀ a:aD,K.In a->a.Ns aq mg->ZI l.prog w K mg a ZM 29 fa m zFq (Uh K):=by
 let e:=hfa.symm.trans (yB X G a51);cases e;let T:Yd mg:=⟨xV X G z1,xV X G z2,xV X G z3,xV X G z4,xV X G z5,xV X G z6,xV X G z7,xV X G z8,xV X G z9,xV X G z10,xV X G z11,xV X G z12,xV X G z13,xV X G z14,xV X G z15,xV X G z16,⟨_,yB X G m1_⟩,⟨_,yB X G m2_⟩,⟨_,yB X G m3_⟩,⟨_,yB X G m4_⟩,⟨_,yB X G m5_⟩,⟨_,yB X G m6_⟩,⟨_,yB X G m7_⟩,⟨_,yB X G m8_⟩,⟨_,yB X G m9_⟩,⟨_,yB X G m10_⟩,⟨_,yB X G m11_⟩⟩;exists xW "law" "law" (U5 QV) (Ws QV) (Zc QV) .none kV51 dc51 pm51 an51 cd51 ct51,λs v=>.of_eq Z;intro a kb _;let c:Yg K mg kg kh:=⟨(yB X G xCSh),(yB X G xCTw),⟨pgCSh,hdCSh,poCSh,saCSh⟩,⟨pgCTw,hdCTw,poCTw,saCTw⟩,na_kept,na_following,na_looks,na_things,na_tag,na_above,na_holds⟩;let g:QZ K mg CTb:=⟨(yB X G xCTb),⟨pgCTb,hdCTb,poCTb,saCTb⟩,na_shelf,na_root⟩;let l7:Dt K mg CK:=⟨(yB X G xCK),exCK,kpCK,mBCK,tyCK⟩;let a8:QG l.prog w K mg a 1 kg zEh (PD kg):=by let⟨f,m,v,U,F,b⟩:=IjS.ex;exact⟨f,m,⟨mkCSh,v,U,kpCSh⟩,ZPX F c,b⟩
 let a9:QG l.prog w K mg a 1 kh zEx (Qs kh):=by let⟨f,m,v,U,F,b⟩:=IjT.ex;exact⟨f,m,⟨mkCTw,v,U,kpCTw⟩,BO F c,b⟩
 let d:ZC l.prog w K mg a ZM 1 kg "twig_of" zEa (Zk kg):=Mm12.of λ_ _ F=>ZJ3 F c;let N:ZC l.prog w K mg a ZM 2 kg "outside" zEa (Xb kg kh λ_ ho _=>.int ho):=Mm5.of λ_ _ F=>ZIQ F c d;let t:ZC l.prog w K mg a ZM 2 kg "label" zEa (Xb kg kh λtg _ _=>tg):=Mm8.of λ_ _ F=>AV F c d;let r:ZC l.prog w K mg a ZM 2 kg "holders" zEa (Xb kg kh λ_ ho us=>.int ((us.length:Nat)+(ho:Nat):Int)):=Mm4.of λ_ _ F=>ZIB F T c d;let n:ZA l.prog w K mg a 1 "is_stem" zFn (X5 kh):=L35.of λ_ _ F=>Bm F T c;let i8:ZC l.prog w K mg a ZM 2 kg "look" zEa (UH kg kh):=Mm7.of λ_ _ F=>ZNe F T c d n;let i:=ZNG i8;let p:=C6 t;let R:ZC l.prog w K mg a (WA l.prog w) 3 kg "road_up" zEa (Y9 kg kh):=Mm18.of λ_ _ F=>ZIs F c r d;let i3:ZC l.prog w K mg a ZM 4 kg "alone" zEa (Xu kg kh):=Mm19.of λ_ _ F=>ZKz F c R;let P:ZC l.prog w K mg a ZM 3 kg "put_twig" zEt (XE kg kh):=Mm3.of λ_ _ F=>Af F c a9;let l2:ZC l.prog w K mg a ZM 2 kg "take_over" zE2 (XX kg kh):=Mm15.of λ_ _ F=>ZFv F c d;let i9:ZC l.prog w K mg a ZM 3 kg "labels_of" zEf (XD kg kh):=Mm13.of λ_ _ F=>ZFB F c t;let q:ZC l.prog w K mg a ZM 3 kg "check_held" zEf (Z7 kg kh):=Mm14.of λ_ _ F=>ZEO F c N;let o:ZA l.prog w K mg a 1 "_law_pull" zEe (YA):=L37.of λ_ _ F=>AG F;let DW:ZA l.prog w K mg a 1 "_law_well" zEv (VU K):=L36.of λ_ _ F=>Ar F T;let DG:ZA l.prog w K mg a 2 "_law_great" zEm (YA):=L38.of λ_ _ F=>BZ F T o;let DT:ZA l.prog w K mg a 2 "_law_text" zFc (WU):=L39.of λ_ _ F=>ZNg F T o;let DN:ZA l.prog w K mg a 1 "has_few_figures" zFo (U4):=L4.of λ_ _ F=>ZPp F T;let e2:ZA l.prog w K mg a 1 "is_sign" ["sign"] (VM):=L5.of λ_ _ F=>ZN5 F;let C:ZA l.prog w K mg a 6 "is_key" zEo (Xo):=L1.of λ_ _ F=>Bn F T (Ey T L3 DN e2 4);let a5:=ZL6 C;let Y:ZA l.prog w K mg a 7 "checked" zEo (Vr):=L2.of λ_ _ F=>ZH2 F a5;let e8:ZA l.prog w K mg a 6 "standing" zFl (UF 5):=Hy T L8 5;let j:ZA l.prog w K mg a 7 "ahead" zEs (Yy):=L6.of λ_ _ F=>ZLC F e8;let c5:ZA l.prog w K mg a 8 "rise" zFe (VW):=L11.of λ_ _ F=>ZNl F T j;let J:ZA l.prog w K mg a 8 "own_rows" zEr (XQ):=L10.of λ_ _ F=>ZH9 F Y;let A:ZA l.prog w K mg a 9 "checked_rows" zEr (Xn):=L9.of λ_ _ F=>ZJO F T J c5;let D:ZA l.prog w K mg a 1 "label_of_rows" zEr (XJ):=L12.of λ_ _ F=>ZHx F T;let l1:ZC l.prog w K mg a ZM 10 kg "put_leaf" zEz (XY kg kh):=Mm1.of λ_ _ F=>ZGM F c A D P;let u:=ZHz l1;let e3:ZA l.prog w K mg a 8 "stand_side_by_side" zE4 (UE):=L14.of λ_ _ F=>ZMz F T j;let I:ZA l.prog w K mg a 9 "label_over" ["labels"] (WK):=L13.of λ_ _ F=>AQ F T e3;let O:ZC l.prog w K mg a ZM 10 kg "put_stem" zEf (Yc kg kh):=Mm2.of λ_ _ F=>Bx F T c i9 I q P l2;let c2:ZA l.prog w K mg a 8 "place_in" zFp (VR K):=L7.of λ_ _ F=>ZLr F T j;let k:ZA l.prog w K mg a 1 "is_leaf" zFf (YY):=L21.of λ_ _ F=>ZJh F;let x:ZA l.prog w K mg a 2 "branch_at" zFj (XV):=L20.of λ_ _ F=>ZF9 F k;let L:ZA l.prog w K mg a 9 "place_within" zE7 (Wf kg kh):=L19.of λ_ _ F=>ZIm F T c k c2 j p;let a0:Wo l.prog w K mg a 7 "checked" zEo (Yz CK):=L2.ofD λ_ _ F=>ZGU F kb l7 C;let y:Wo l.prog w K mg a 8 "check_asked" zEd (YS kg kh CK):=L18.ofD λ_ _ F=>ZEI F c p a0;let e7:Wo l.prog w K mg a 10 "steps_to" zEd (XN kg kh CK):=L17.ofD λ_ _ F=>Fk F c y i L x;let e1:ZA l.prog w K mg a 10 "steps_to" zEd (λvs H Q _=>XN kg kh CK vs H Q E0):=L17.of λ_ _ F=>ZQn (Fk F c y i L x) (λ_ _ _ _ h=>h);let i1:Wo l.prog w K mg a 11 "value_of" zEd (XM kg kh CK):=L15.ofD λ_ _ F=>BH F e7;let c4:ZA l.prog w K mg a 25 "reached" zEc (YI 20 kg kh):=L22.of λ_ _ F=>(GS F c i k (Dr L22 c i k 20)).mono (by decide)
 let c8:ZA l.prog w K mg a 26 "rows_of" zEc (Xl kg kh):=L16.of λ_ _ F=>Bz F k c4;let l3:ZC l.prog w K mg a ZM 10 kg "labels_up" zE8 (WL kg kh):=Mm22.of λ_ _ F=>ZLi F c d t I;let i6:ZC l.prog w K mg a ZM 2 kg "give_labels" zFg (WW kg kh):=Mm23.of λ_ _ F=>ZNi F c d;let i4:ZC l.prog w K mg a ZM 11 kg "change_leaf" zE6 (Xk kg kh):=Mm20.of λ_ _ F=>ZI6 F c d n R A l3 D i6;let z:ZA l.prog w K mg a 4 "check_root" zEc (YK kg kh):=L23.of λ_ _ F=>BR F c q;let c0:ZA l.prog w K mg a 5 "own" zE5 (Ur kg kh):=L26.of λ_ _ F=>Br F c i3;let c1:ZA l.prog w K mg a 6 "own_way" zFh (Xh kg kh):=L25.of λ_ _ F=>ZKI F c0;let i5:ZC l.prog w K mg a ZM 12 kg "drop_unheld" zEa (XL 9 kg kh):=FN Mm27 c r d n 9;let i7:ZC l.prog w K mg a ZM 13 kg "let_go" zEa (Xi kg kh):=Mm26.of λ_ _ F=>ZJN F c q d i5;let c7:ZA l.prog w K mg a 14 "release" zEc (XF kg kh):=L24.of λ_ _ F=>ZHw F c i7;let e0:ZA l.prog w K mg a 1 "rows_with" zE9 (Yv):=L28.of λ_ _ F=>ZF1 F;let a4:ZA l.prog w K mg a 12 "give_rows" zEy (WH kg kh):=L29.of λ_ _ F=>B4 F T c i4;let V:ZA l.prog w K mg a 1 "add_up" zEp (Xr):=L30.of λ_ _ F=>ZIj F T;let c9:ZA l.prog w K mg a 1 "root_with" zEw (Yf):=L31.of λ_ _ F=>ZE8 F;let c3:ZA l.prog w K mg a 14 "put_in" zEu (VO kg kh):=L27.of λ_ _ F=>ZOE F T c z Y u e1 c1 e0 a4 V c9;let E:Mr l.prog w K mg a 5 CTb zEn (Yo kg kh CTb):=by let⟨f,m,v,U,F⟩:=IjB.ex;exact⟨f,m,⟨mkCTb,v,U,kpCTb⟩,ZNd F g z,F.binds.1,F.binds.2⟩
 let l6:ZC l.prog w K mg a (WA l.prog w) 12 CTb "side" zFk (WN kg kh CTb CK):=Mt2.of λ_ _ F=>Aw F g i1;let S:ZC l.prog w K mg a ZM 27 CTb "rows" zEh (XH kg kh CTb):=Mt3.of λ_ _ F=>BI F g c8;let l5:ZC l.prog w K mg a (WA l.prog w) 15 CTb "put" zFb (WR kg kh CTb):=Mt1.of λ_ _ F=>B1 F g l6 Y c3;let l4:ZC l.prog w K mg a ZM 15 CTb "clear" zEh (Y8 kg kh CTb):=Mt4.of λ_ _ F=>ZKf F g c7;let M:ZC l.prog w K mg a ZM 1 kg "numbers" zEh (YW kg kh):=Mm9.of λ_ _ F=>ZID F T c;let l0:ZC l.prog w K mg a ZM 1 kg "many" zEh (VS kg kh):=Mm10.of λ_ _ F=>ZNw F T c;let a1:ZA l.prog w K mg a 8 "check_rising" zFe (WM):=L33.of λ_ _ F=>ZLS F T j;let e6:ZA l.prog w K mg a 1 "spread" zFi (Xq):=L34.of λ_ _ F=>ZIY F T;let B:ZA l.prog w K mg a 11 "filled" zFa (Yl kg kh CTb):=L32.of λ_ _ F=>Bg F T c g J a1 e6 u O E;let DK:ZA l.prog w K mg a 6 "_law_key" zEg (Wh 4):=Fs T L40 o DG DT 4;let c6:ZA l.prog w K mg a 6 "_law_rank" zE1 (WX 5):=Gi T L41 5;let e5:ZA l.prog w K mg a 9 "_law_sorted" zFd (Xt w):=L42.of λ_ _ F=>ZKj F T c6;let i0:ZA l.prog w K mg a 11 "_law_tree" zEb (VY kg kh):=L43.of λ_ _ F=>ZNv F T c o u O;let a6:ZA l.prog w K mg a 3 "_law_reached" zEl (Yw kg kh):=L44.of λ_ _ F=>ZH0 F T c i;let a7:ZA l.prog w K mg a 10 "_law_rows" zEk (WO K):=L45.of λ_ _ F=>ZKy F T DW DK e5;let a3:ZA l.prog w K mg a 11 "_law_ground" zE0 (Xp K):=L46.of λ_ _ F=>ZKU F T DW o a7;let e9:ZA l.prog w K mg a 16 "_law_table" zEb (WJ kg kh CTb):=L47.of λ_ _ F=>BB F T g o B E l5 i0;let i2:ZA l.prog w K mg a 14 "_law_walk" zEj (Xz 10 kg kh):=Du L48 T c i p 10;let e4:ZA l.prog w K mg a 28 "_law_seen" zEi (Wd kg kh CTb):=L49.of λ_ _ F=>ZNt F T g (Bc xtCT) kpCTb S i2;let a2:ZA l.prog w K mg a 5 "_law_exact" zEq (Xv kg kh CTb):=L50.of λ_ _ F=>C3 F T c g a6 M l0 N r;exact ZOb (Oz (st:=QV) l51 c51 k51) T c (ZQm xsCS) g a8 a3 o e9 B e4 a2 S l4 M
theorem walk{l:sF}{q:ao}{c:jp}{o:(jc)->aD->Prop}{i:aw->aD->Prop}{d:DefRec}{K:Params->zZ}(v:l.most=some 63)(g:d.params.defaults=[])(r:∀ (w:aw) (h:aD),i w h->(K w.params).In h)(F:∀ (w:aw) (e:jc) (j:ak) (h:aD),(K w.params).In h->h.Ns aq e->e d.name=some (.ref j) ->
   ∃ m:ap,(∀ (s:am) (u:aj),BindsTo s m ⟨[u],[]⟩ [("_law_script",u)])/\∀ b:aD,(K w.params).In b->b.Ns aq e->ZI l.prog w (K w.params) e b ZM 29 j m zFq (Uh (K w.params))):
  PySem.W.WalkO q c o i l.row.toRowW d [] (λf A=>PySem.call f A):=
 L2.LG (n:=63) (k:=29) (x:= "_law_script") (CX:=λ_=>ZM) (sp:=λw=>Uh (K w.params)) v (by decide) g ⟨rfl,by decide,by decide⟩ r F (λ_ _ a y t _ p=>⟨a,y,Z,p,t,λ_=>rfl⟩) λ_ _ _ _ _ z=>z
end Tw
open PySem PySem.W PyProof.Rows
namespace PySem.W.Fast
local macro_rules|`(universe $x*)=>return .node .none `null (←(x++(Array.range 1029).map λi=>Lean.mkIdent (.mkSimple s!"tw{((`PySem.Challenge).str "cw_twigmap_k51_filled_holds"|>.str s!"o_{i}").hash}")).mapM λi=>`(def $i:ident:=0))
universe tw10245114484599862752 tw10417950386759234196 tw10533545712061579041 tw10572879919060408174 tw1075676096730938014 tw10807881624250909257 tw12776742993192371237 tw1280412509828726920 tw12949975669338337164 tw13861700654060865958 tw13925351688142197922 tw15994636762083959416 tw16500101932956878726 tw16689238409183847345 tw16772935835796394645 tw16843998821538470849 tw1693919271087184347 tw17105546889454399454 tw2250512108703501015 tw2315399803041561191 tw2335929358817608502 tw2368357088729783486 tw2609859752922212845 tw2758928300647055978 tw3328122003897318868 tw3394914537014975437 tw3652077171715204817 tw55098123756916421 tw5564832863523988461 tw5993457370225916427 tw6426507303867347474 tw6877988710517398584 tw7216536536435924318 tw774422887137565534 tw8167426559741668468 tw8297523322545787198 tw8775689732355876051 tw9029382445848451785 tw9141145778321993804 tw9365865386055403447 tw9855189729829291842 tw9928762919334876523
end PySem.W.Fast
set_option maxRecDepth 100000 in
set_option maxHeartbeats 0 in
theorem PySem.Challenge.cw_twigmap_k51_filled_holds : PySem.Challenge.rw_twigmap_k51_filled.Holds := by
 w_on;o_law;k_head;(case hw=>w_witness2)
 k_fill
 refine Tw.walk (l:=PySem.Challenge.rw_twigmap_k51_filled) Z Z (λw h Y=>PySem.W.kIn_of Y) ?qFun
 case qFun=>
  intro w mg fa h KX G hmg;refine' Tw.JF KX G hmg (Tw.LW KX G ?a1 ?l1 ?c1 ?k1 (λ_ _ _ _ _ _ us hl=>match us,hl with | [_],_=>rfl)) (Tw.LW KX G ?a2 ?l2 ?c2 ?k2 (λ_ _ _ _ _ _ us hl=>match us,hl with | [_],_=>rfl)) (Tw.LW KX G ?a3 ?l3 ?c3 ?k3 (λ_ _ _ _ _ _ us hl=>match us,hl with | [_,_],_=>rfl)) (Tw.LW KX G ?a4 ?l4 ?c4 ?k4 (λ_ _ _ _ _ _ us hl=>match us,hl with | [_],_=>rfl)) (Tw.LW KX G ?a5 ?l5 ?c5 ?k5 (λ_ _ _ _ _ _ us hl=>match us,hl with | [_],_=>rfl)) (Tw.LW KX G ?a6 ?l6 ?c6 ?k6 (λ_ _ _ _ _ _ us hl=>match us,hl with | [_,_],_=>rfl)) (Tw.LW KX G ?a7 ?l7 ?c7 ?k7 (λ_ _ _ _ _ _ us hl=>match us,hl with | [_,_],_=>rfl)) (Tw.LW KX G ?a8 ?l8 ?c8 ?k8 (λ_ _ _ _ _ _ us hl=>match us,hl with | [_],_=>rfl)) (Tw.LW KX G ?a9 ?l9 ?c9 ?k9 (λ_ _ _ _ _ _ us hl=>match us,hl with | [_],_=>rfl)) (Tw.LW KX G ?A0 ?A1 ?A2 ?A3 (λ_ _ _ _ _ _ us hl=>match us,hl with | [_],_=>rfl)) (Tw.LW KX G ?A4 ?A5 ?A6 ?A7 (λ_ _ _ _ _ _ us hl=>match us,hl with | [_],_=>rfl)) (Tw.LW KX G ?A8 ?A9 ?Aa ?Ab (λ_ _ _ _ _ _ us hl=>match us,hl with | [_],_=>rfl)) (Tw.LW KX G ?Ac ?Ad ?Ae ?Af (λ_ _ _ _ _ _ us hl=>match us,hl with | [_],_=>rfl)) (Tw.LW KX G ?Ag ?Ah ?Ai ?Aj (λ_ _ _ _ _ _ us hl=>match us,hl with | [_,_],_=>rfl)) (Tw.LW KX G ?Ak ?Al ?Am ?An (λ_ _ _ _ _ _ us hl=>match us,hl with | [_,_,_],_=>rfl)) (Tw.LW KX G ?Ao ?Ap ?Aq ?Ar (λ_ _ _ _ _ _ us hl=>match us,hl with | [_,_],_=>rfl)) (Tw.LW KX G ?As ?At ?Au ?Av (λ_ _ _ _ _ _ us hl=>match us,hl with | [_,_,_],_=>rfl)) (Tw.LW KX G ?Aw ?Ax ?Ay ?Az (λ_ _ _ _ _ _ us hl=>match us,hl with | [_,_,_],_=>rfl)) (Tw.LW KX G ?B0 ?B1 ?B2 ?B3 (λ_ _ _ _ _ _ us hl=>match us,hl with | [_,_,_],_=>rfl)) (Tw.LW KX G ?B4 ?B5 ?B6 ?B7 (λ_ _ _ _ _ _ us hl=>match us,hl with | [_,_],_=>rfl)) (Tw.LW KX G ?B8 ?B9 ?Ba ?Bb (λ_ _ _ _ _ _ us hl=>match us,hl with | [_],_=>rfl)) (Tw.LW KX G ?Bc ?Bd ?Be ?Bf (λ_ _ _ _ _ _ us hl=>match us,hl with | [_,_],_=>rfl)) (Tw.LW KX G ?Bg ?Bh ?Bi ?Bj (λ_ _ _ _ _ _ us hl=>match us,hl with | [_,_],_=>rfl)) (Tw.LW KX G ?Bk ?Bl ?Bm ?Bn (λ_ _ _ _ _ _ us hl=>match us,hl with | [_,_],_=>rfl)) (Tw.LW KX G ?Bo ?Bp ?Bq ?Br (λ_ _ _ _ _ _ us hl=>match us,hl with | [_,_],_=>rfl)) (Tw.LW KX G ?Bs ?Bt ?Bu ?Bv (λ_ _ _ _ _ _ us hl=>match us,hl with | [_,_,_],_=>rfl)) (Tw.LW KX G ?Bw ?Bx ?By ?Bz (λ_ _ _ _ _ _ us hl=>match us,hl with | [_,_,_,_],_=>rfl)) (Tw.LW KX G ?C0 ?C1 ?C2 ?C3 (λ_ _ _ _ _ _ us hl=>match us,hl with | [_,_,_],_=>rfl)) (Tw.LW KX G ?C4 ?C5 ?C6 ?C7 (λ_ _ _ _ _ _ us hl=>match us,hl with | [_,_,_],_=>rfl)) (Tw.LW KX G ?C8 ?C9 ?Ca ?Cb (λ_ _ _ _ _ _ us hl=>match us,hl with | [_,_,_,_],_=>rfl)) (Tw.LW KX G ?Cc ?Cd ?Ce ?Cf (λ_ _ _ _ _ _ us hl=>match us,hl with | [_,_,_],_=>rfl)) (Tw.LW KX G ?Cg ?Ch ?Ci ?Cj (λ_ _ _ _ _ _ us hl=>match us,hl with | [_,_],_=>rfl)) (Tw.LW KX G ?Ck ?Cl ?Cm ?Cn (λ_ _ _ _ _ _ us hl=>match us,hl with | [_],_=>rfl)) (Tw.LW KX G ?Co ?Cp ?Cq ?Cr (λ_ _ _ _ _ _ us hl=>match us,hl with | [_,_],_=>rfl)) (Tw.LW KX G ?Cs ?Ct ?Cu ?Cv (λ_ _ _ _ _ _ us hl=>match us,hl with | [_],_=>rfl)) (Tw.LW KX G ?Cw ?Cx ?Cy ?Cz (λ_ _ _ _ _ _ us hl=>match us,hl with | [_,_],_=>rfl)) (Tw.LW KX G ?D0 ?D1 ?D2 ?D3 (λ_ _ _ _ _ _ us hl=>match us,hl with | [_,_],_=>rfl)) (Tw.LW KX G ?D4 ?D5 ?D6 ?D7 (λ_ _ _ _ _ _ us hl=>match us,hl with | [_,_],_=>rfl)) (Tw.LW KX G ?D8 ?D9 ?Da ?Db (λ_ _ _ _ _ _ us hl=>match us,hl with | [_],_=>rfl)) (Tw.LW KX G ?Dc ?Dd ?De ?Df (λ_ _ _ _ _ _ us hl=>match us,hl with | [_,_],_=>rfl)) (Tw.LW KX G ?Dg ?Dh ?Di ?Dj (λ_ _ _ _ _ _ us hl=>match us,hl with | [_],_=>rfl)) (Tw.LW KX G ?Dk ?Dl ?Dm ?Dn (λ_ _ _ _ _ _ us hl=>match us,hl with | [_],_=>rfl)) (Tw.LW KX G ?Do ?Dp ?Dq ?Dr (λ_ _ _ _ _ _ us hl=>match us,hl with | [_,_,_],_=>rfl)) (Tw.LW KX G ?Ds ?Dt ?Du ?Dv (λ_ _ _ _ _ _ us hl=>match us,hl with | [_,_,_],_=>rfl)) (Tw.LW KX G ?Dw ?Dx ?Dy ?Dz (λ_ _ _ _ _ _ us hl=>match us,hl with | [_,_,_],_=>rfl)) (Tw.LW KX G ?E0 ?E1 ?E2 ?E3 (λ_ _ _ _ _ _ us hl=>match us,hl with | [_,_],_=>rfl)) (Tw.LW KX G ?E4 ?E5 ?E6 ?E7 (λ_ _ _ _ _ _ us hl=>match us,hl with | [_,_,_],_=>rfl)) (Tw.LW KX G ?E8 ?E9 ?Ea ?Eb (λ_ _ _ _ _ _ us hl=>match us,hl with | [_,_],_=>rfl)) (Tw.LW KX G ?Ec ?Ed ?Ee ?Ef (λ_ _ _ _ _ _ us hl=>match us,hl with | [_,_],_=>rfl)) (Tw.LW KX G ?Eg ?Eh ?Ei ?Ej (λ_ _ _ _ _ _ us hl=>match us,hl with | [_,_],_=>rfl)) ?Ek ?El ?Em ?En ?z1 ?z2 ?z3 ?z4 ?z5 ?z6 ?z7 ?z8 ?z9 ?Eo ?Ep ?Eq ?Er ?Es ?Et ?Eu ?Ev ?Ew ?Ex ?Ey ?Ez ?F0 ?F1 ?F2 ?F3 ?F4 ?F5 (Tw.Mn ?F6 ?F7 ?F8 ?F9 ?Fa (λ_ _ _ _ _ _ us hl=>match us,hl with | [_],_=>rfl)) (Tw.Mn ?Fb ?Fc ?Fd ?Fe ?Ff (λ_ _ _ _ _ _ us hl=>match us,hl with | [_,_,_],_=>rfl)) (Tw.Mi ?Fg ?Fh ?Fi ?Fj ?Fk ?Fl) (Tw.MJ ?Fm ?Fn ?Fo ?Fp ?Fq (λ_ _ _ _ _ _ us hl=>match us,hl with | [_,_],_=>rfl)) (Tw.MJ ?Fr ?Fs ?Ft ?Fu ?Fv (λ_ _ _ _ _ _ us hl=>match us,hl with | [_,_],_=>rfl)) (Tw.MJ ?Fw ?Fx ?Fy ?Fz ?G0 (λ_ _ _ _ _ _ us hl=>match us,hl with | [_,_,_],_=>rfl)) (Tw.MJ ?G1 ?G2 ?G3 ?G4 ?G5 (λ_ _ _ _ _ _ us hl=>match us,hl with | [_,_],_=>rfl)) (Tw.MJ ?G6 ?G7 ?G8 ?G9 ?Ga (λ_ _ _ _ _ _ us hl=>match us,hl with | [_,_],_=>rfl)) (Tw.MJ ?Gb ?Gc ?Gd ?Ge ?Gf (λ_ _ _ _ _ _ us hl=>match us,hl with | [_,_],_=>rfl)) (Tw.MJ ?Gg ?Gh ?Gi ?Gj ?Gk (λ_ _ _ _ _ _ us hl=>match us,hl with | [_,_],_=>rfl)) (Tw.MJ ?Gl ?Gm ?Gn ?Go ?Gp (λ_ _ _ _ _ _ us hl=>match us,hl with | [_],_=>rfl)) (Tw.MJ ?Gq ?Gr ?Gs ?Gt ?Gu (λ_ _ _ _ _ _ us hl=>match us,hl with | [_],_=>rfl)) (Tw.MJ ?Gv ?Gw ?Gx ?Gy ?Gz (λ_ _ _ _ _ _ us hl=>match us,hl with | [_,_],_=>rfl)) (Tw.MJ ?H0 ?H1 ?H2 ?H3 ?H4 (λ_ _ _ _ _ _ us hl=>match us,hl with | [_,_],_=>rfl)) (Tw.MJ ?H5 ?H6 ?H7 ?H8 ?H9 (λ_ _ _ _ _ _ us hl=>match us,hl with | [_,_],_=>rfl)) (Tw.MJ ?Ha ?Hb ?Hc ?Hd ?He (λ_ _ _ _ _ _ us hl=>match us,hl with | [_,_,_],_=>rfl)) (Tw.MJ ?Hf ?Hg ?Hh ?Hi ?Hj (λ_ _ _ _ _ _ us hl=>match us,hl with | [_,_],_=>rfl)) (Tw.MJ ?Hk ?Hl ?Hm ?Hn ?Ho (λ_ _ _ _ _ _ us hl=>match us,hl with | [_,_],_=>rfl)) (Tw.MJ ?Hp ?Hq ?Hr ?Hs ?Ht (λ_ _ _ _ _ _ us hl=>match us,hl with | [_,_,_],_=>rfl)) (Tw.MJ ?Hu ?Hv ?Hw ?Hx ?Hy (λ_ _ _ _ _ _ us hl=>match us,hl with | [_,_,_],_=>rfl)) (Tw.MJ ?Hz ?I0 ?I1 ?I2 ?I3 (λ_ _ _ _ _ _ us hl=>match us,hl with | [_,_],_=>rfl)) (Tw.MJ ?I4 ?I5 ?I6 ?I7 ?I8 (λ_ _ _ _ _ _ us hl=>match us,hl with | [_,_],_=>rfl)) (Tw.MJ ?I9 ?Ia ?Ib ?Ic ?Id (λ_ _ _ _ _ _ us hl=>match us,hl with | [_,_],_=>rfl)) (Tw.MJ ?Ie ?If ?Ig ?Ih ?Ii (λ_ _ _ _ _ _ us hl=>match us,hl with | [_,_,_],_=>rfl)) (Tw.MJ ?Ij ?Ik ?Il ?Im ?In (λ_ _ _ _ _ _ us hl=>match us,hl with | [_,_],_=>rfl)) (Tw.MJ ?Io ?Ip ?Iq ?Ir ?Is (λ_ _ _ _ _ _ us hl=>match us,hl with | [_],_=>rfl)) (Tw.MJ ?It ?Iu ?Iv ?Iw ?Ix (λ_ _ _ _ _ _ us hl=>match us,hl with | [_],_=>rfl)) ?Iy ?Iz ?J0 ?J1 ?J2 ?J3 ?J4 ?J5 ?J6 ?J7 ?J8 ?J9 ?Ja ?Jb ?Jc ?Jd ?Je ?Jf ?Jg ?Jh ?Ji ?Jj ?Jk ?Jl ?Jm ?Jn ?Jo ?Jp ?Jq ?Jr ?Js ?Jt ?Ju ?Jv ?Jw ?Jx ?Jy
  (case Iy|Iz|J0|J1|F6|Fb|Fg|Fm|Fr|Fw|G1|G6|Gb|Gg|Gl|Gq|Gv|H0|H5|Ha|Hf|Hk|Hp|Hu|Hz|I4|I9|Ie|Ij|Io|It=>k_is)
  (case Jt|Jx|Jy=>kernel_rfl)
  all_goals try k_is
  all_goals try k_is
