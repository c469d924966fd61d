import PyProof.Rows.All
import Wide.All
import OpenK.AllK
import Wide.FinOn
import Lean
import PyProof.EqAt
import PyProof.EqKinds
import PyProof.TupleCall
import PyProof.NeKinds
import PyProof.TupleKey
import PyProof.DictFindH
import PyProof.NsDelKeeps
import PyProof.ExcBaseAll.ValueError
import KE.KIsAll
import PyProof.ExcArgsOwn
import PyProof.ExcAttrAll.ValueError
import KE.KDictList
import PyProof.Rows.SortWalk
import KE.KSortTup
import KE.KEqDict
import KE.KLam
import KE.KRevIter
import PyProof.InstStoreFacts
import PyProof.ExcClass3
import PyProof.Rows.SumAny
import PyProof.Rows.StrStep
import PySem.Challenge.RW_twigmap_k35_looks_counted
open PySem renaming wpAny_bind→aa,wpAny_pure→ad,wpAny_mono→ae,wpAny_holding→af,wpAny_Call_Name_kw→ag,wpAny_rule→ah,Value→ai,Addr→aj,Shared→ak,Program→al,FuncData→am,mainGlobals→ao,sizeLine→aq,starEach→ar,World→ax,Around→ay,bootBuiltins→az,compareOp→aA,model→aB,wpAny→aC,Stmt→aD,Heap→aE,Scope→aF,backTo→aG,eval→aH,Obj→aI
universe u
def aJ{p:Prop}[Decidable p](h:¬p):decide p=false:=decide_eq_false h
def aK{p:Prop}[Decidable p](h:p):decide p=true:=decide_eq_true h
def aM{c:Prop}{h:Decidable c}(n:¬c){α:Sort u}{t e:α}:(ite c t e)=e:=if_neg n
def aO{c:Prop}{h:Decidable c}(n:c){α:Sort u}{t e:α}:(ite c t e)=t:=if_pos n
set_option Elab.async false
set_option linter.all false
set_option maxRecDepth 100000
set_option maxHeartbeats 8000000
open PySem.W renaming Frag->zZ,findIn->zD,nsIn->zJ,kitOne->yO,mg_none_of->yC,keepIn->yJ,mg_of->yH,mroIn->yB,fnOf->yG,kia_one->xJ,emptyDict->wQ,tabIn->xK,Looks->xL,typeIn->wZ,codeIn->wT,instObj->wE,hasDictIn->vW,CodeHd->wI,callWith_K->vB,kla_obj->vY,plainGet->uX,isFn->wB,kas_item->uO,looks_mroIn->tI,hideAll->uQ,tabObj->uS,plainOver->tL,cellsFrom_some->rE,methodCall_KW->rH,makesIn->tO,OpenLaw->tP,looks_findIn->rL,lookIn->tT,KdlSrc->tU,plainGet_of->qU,looks_clsIn->qV,of_hideAll->rS,methodObj->rW,any_some->sC,takerIn->sF,noTabs->sJ,WalkO->sP,looks_typeIn->qI,hideAll_none->qJ,hideAll_get->qM,callWith_K0->qN
open List renaming getD_eq_getElem?_getD->zU,getElem?_eq_getElem->zV,length_map->zX,length_append->zT,mem_of_getElem?->zM,getElem?_eq_some_iff->zC,size_toArray->zR,mem_cons_of_mem->zG,mem_singleton->zK,take_of_length_le->yX,mem_cons_self->zI,getElem?_map->zE,map_append->zH,all_eq_true->yZ,mem_append->zB,length_cons->yV,getElem?_append_right->yE,map_cons->zF,mem_map->zL,mem_append_right->yL,append_nil->yR,take_add_one->yN,mem_cons->yT,getElem?_append_left->xN,pairwise_append->xZ,mem_append_left->xU,take_append_drop->xQ,length_take->yF,range->yU,pairwise_cons->xS,getElem_mem->xY,append_assoc->xH,mem_range->xV,drop_eq_getElem_cons->vO,lookup_cons->xI,flatMap_cons->wX,filter_append->wP,length_singleton->vR,length_drop->wR,eq_nil_of_length_eq_zero->uD,take_zero->xA,take_succ_cons->vT,range'->xX,flatMap_append->vU,filterMap_cons->vV,filter_eq_nil_iff->uZ,extract_eq_take_drop->uF,getElem?_of_mem->vA,nodup_cons->wG,flatten_cons->vX,find?_cons->wH,toArray->xB,sum_cons->wU,lookup->xM,cons_lt_cons_iff->uG,pairwise_iff_getElem->sW,mem_flatMap->vD,length_pos_iff->uJ,length->wV,filter_eq_self->uK,map_nil->wJ,nil_append->vE,mem_filter->vF,reverse_perm->uM,nodup_append->uN,drop_drop->vI,mem_iff_getElem?->tG,map_map->vZ,length_filter_le->tH,flatMap_def->uP,not_lt_nil->uR,mem_filterMap->tM,replicate->uT,pairwise_map->tN,getElem?_take_of_lt->rD,filter_cons_of_pos->rG,ext_getElem->tQ,cons_append->tR,pairwise_reverse->rM,of_mem_zip->sX,length_nil->sY,getElem?_eq_none->qP,eq_nil_or_concat->qQ,countP_mono_left->qS,concat_eq_append->qT,all_map->uH,mem_of_mem_take->rQ,mem_of_mem_drop->rR,drop_zero->tV,map_congr_left->rV,getElem?_drop->rZ,any_cons->tX,Perm->vM,Pairwise->tY,getElem?_inj->sE,nil_lt_cons->sG,mem_flatten->sH,any_eq_true->sI,dropLast_concat_getLast->pY,countP_eq_length_filter->pZ,sum_append->sN,sublist_flatten_of_mem->qD,forIn_cons->sO,pairwise_singleton->qK,map_take->sS,map_drop->sU,getLast_eq_getElem->qL,all_cons->sV,range_succ_eq_map->qO,length_pos_of_mem->pQ,getElem_cons_drop->pR,getElem?_set_self->pS,drop_of_length_le->pT,take_eq_take_min->pU,sum_nil->rP,pairwise_flatMap->pV
open Bool renaming false_ne_true->zW,and_eq_true->zO,false_eq_true->wW,false_and->vN,eq_iff_iff->vG,true_and->uU,and_false->tW,not_true->tZ,beq_eq_decide_eq->pW
open Nat renaming le_refl->zY,lt_of_lt_of_le->yY,le_trans->zS,zero_le->zN,le_of_ble_eq_true->yI,ne_of_lt->yW,lt_or_ge->yP,le_of_lt->yK,lt_of_le_of_lt->xG,not_lt_zero->xT,exists_eq_add_of_le->wC,add_sub_cancel_left->vP,le_of_not_lt->wY,lt_succ_self->wS,le_add_right->wD,le_succ->xD,succ->yD,lt_irrefl->wA,sub_lt_sub_left->uL,le_of_eq->wK,add_assoc->vJ,add_zero->vK,lt_of_add_lt_add_left->qY,le_of_add_le_add_left->qZ,succ_le_succ->tS,zero_add->uI,sub_le->vL,add_le_add_left->rX,ne_of_gt->uA,min_le_right->sL,min_eq_left->sQ
open PySem.Heap renaming get?_push_of_some->zQ,get?_push_size->yS,lt_size->zP,SameBut->yA,get?_update_other->vQ,get?_update_self->vS,get?_none_of_le->tJ,size_push->sR
open Array renaming getElem?_toList->yQ,length_toList->yM,toList_append->xE,getElem?_eq_getElem->uY,getElem?_eq_some_iff->uE,toList_push->uV,toList_extract->uC,perm_iff_toList_perm->qX,forIn_toList->rY,replicate->sM,toList_setIfInBounds->qE,toList->rN,toList_reverse->zEA
open Option renaming some->zA,map_eq_some_iff->xP,map_some->wF,isSome_iff_exists->sZ,none->rO
open PySem.F renaming plainAttrs_list->xO,type_list_append->wM,slot_list_append->wN,slot_dict_keyiterator_next->qW,slot_tuple_hash->tF,slot_dict_getitem->pX,type_list_extend->qA,store_ValueError->qB,slot_list_extend->qC,plain_list_iadd->qF,slot_dict_iter->qG
open PySem.Str renaming ofString->xW
open Int renaming le_refl->xR,emod_lt_of_pos->vC,le_trans->wO,toNat_natCast->uW,le_of_lt->wL,emod_nonneg->vH,eq_ofNat_of_zero_le->rJ,fdiv_eq_ediv_of_nonneg->qH,not_lt->uB
open PyProof.Rows renaming wpS_bind->jO,wpS_pure->jQ,arrOf->jR,SortSt->jS,pendingOf->jT,wpS_forRange->jU,wpS_mono->jV,Keyed->jW,setArr->jX
local macro_rules|`(tactic|exists $e,*)=>`(tactic|refine ⟨$e,*, ?_⟩)
def Z{α:Sort u}{a:α}:a=a:=rfl
local macro_rules|`(∅)=>`(by lia)
local macro_rules|`(nofun)=>`(by lia (splits:=8))
local macro_rules|`(tactic|let $d:letDecl)=>let n:=d.raw[0];let l(s:Lean.Syntax)k:Lean.Syntax:=.node .none `Lean.Parser.Tactic.rcasesPatLo #[.node .none `Lean.Parser.Tactic.rcasesPatMed #[Lean.mkNullNode #[.node .none k s.getArgs]],Lean.mkNullNode];if n.getKind== ``Lean.Parser.Term.letPatDecl then let m:Lean.TSyntax `Lean.Parser.Tactic.rcasesPatMed:=⟨(n[0].rewriteBottomUp λs=>match s.getKind with|`ident=>l (Lean.mkNullNode #[s]) `Lean.Parser.Tactic.rcasesPat.one|`Lean.Parser.Term.hole=>l s `Lean.Parser.Tactic.rcasesPat.ignore|`Lean.Parser.Term.anonymousCtor=>l s `Lean.Parser.Tactic.rcasesPat.tuple|_=>s)[0]⟩;`(tactic|obtain $m:rcasesPatMed:=$(⟨n[4]⟩)) else `(tactic|have $d:letDecl)
abbrev ja:=PySem.Value->PySem.Shared->Prop
abbrev jc:=PySem.Str->Option PySem.Value
abbrev jd:=Option PySem.Value
abbrev je:=List PySem.Value
abbrev zEa:List PySem.Str:=["self","number"]
abbrev zEb:List PySem.Str:=["shelf","root","key"]
abbrev zEc:List PySem.Str:=["_law_well_here","_law_many"]
abbrev zEd:List PySem.Str:=["_law_record","_law_root_here"]
abbrev zEe:List PySem.Str:=["_law_found","_law_due_here"]
abbrev zEf:List PySem.Str:=["_law_way","_law_shelf","_law_root_here","_law_at","_law_keys_here"]
abbrev zEg:List PySem.Str:=["_law_well_here","_law_room"]
abbrev zEh:List PySem.Str:=["_law_shelf","_law_root_here","_law_record","_law_at","_law_keys_here"]
abbrev zEi:List PySem.Str:=["self","numbers"]
abbrev zEj:List PySem.Str:=["_law_well_here","_law_things","_law_few","_law_stem"]
abbrev zEk:List PySem.Str:=["_law_shelf","_law_root_here","_law_height_here"]
abbrev zEl:List PySem.Str:=["shelf","root","at"]
abbrev zEm:List PySem.Str:=["self"]
abbrev zEn:List PySem.Str:=["_law_rows","_law_at","_law_spot","_law_other"]
abbrev zEo:List PySem.Str:=["shelf","root"]
abbrev zEp:List PySem.Str:=["_law_shelf","_law_root_here","_law_found"]
abbrev zEq:List PySem.Str:=["_law_well_here"]
abbrev zEr:List PySem.Str:=["_law_well_here","_law_shelf","_law_rows"]
abbrev zEs:List PySem.Str:=["_law_well_here","_law_bound"]
abbrev zEt:List PySem.Str:=["_law_spot"]
abbrev zEu:List PySem.Str:=["_law_well_here","_law_known_here"]
abbrev zEv:List PySem.Str:=["_law_well_here","_law_trees_here"]
abbrev zEw:List PySem.Str:=["shelf","root","low","high"]
abbrev zEx:List PySem.Str:=["one","other"]
abbrev zEy:List PySem.Str:=["self","things","label"]
abbrev zEz:List PySem.Str:=["self","rows"]
abbrev zE0:List PySem.Str:=["_law_well_here","_law_most"]
abbrev zE1:List PySem.Str:=["_law_script","_law_k"]
abbrev zE2:List PySem.Str:=["thing"]
abbrev zE3:List PySem.Str:=["_law_script","_law_shelf"]
abbrev zE4:List PySem.Str:=["self","things","tag"]
abbrev zE5:List PySem.Str:=["rows"]
abbrev zE6:List PySem.Str:=["self","stem","branches"]
abbrev zE7:List PySem.Str:=["thing","room"]
abbrev zE8:List PySem.Str:=["label","following"]
abbrev zE9:List PySem.Str:=["shelf","branches","at"]
abbrev zFa:List PySem.Str:=["shelf","found","key"]
abbrev zFb:List PySem.Str:=["_law_row","_law_tag"]
abbrev zFc:List PySem.Str:=["_law_trees_here"]
abbrev zFd:List PySem.Str:=["_law_model"]
abbrev zFe:List PySem.Str:=["found","at"]
abbrev zFf:List PySem.Str:=["found"]
abbrev zFg:List PySem.Str:=["shelf","step"]
abbrev zFh:List PySem.Str:=["key"]
abbrev zFi:List PySem.Str:=["number"]
abbrev zFj:List PySem.Str:=["keys","key"]
abbrev zFk:List PySem.Str:=["_law_script"]
abbrev jq:=List Nat
abbrev js:=Array PyProof.Rows.Keyed
abbrev jt:=List PySem.Str
abbrev ju:=List (aj×aI)
abbrev jw:=Option Nat
abbrev jx:=Array ai
abbrev jz:=Option aj
abbrev jA:=List PyProof.Rows.Keyed
abbrev jB:=List PySem.Env
abbrev jC:=List PySem.Expr
abbrev jE:=List aj
abbrev jF:=List Int
abbrev jG:=Option Int
abbrev jH:=List (PySem.Str×aj)
abbrev jI:=List aD
abbrev jK:=Array (Nat×Nat×Nat)
abbrev jL:=List (PySem.Str×ai)
abbrev jM:=Option Bool
abbrev jN:=List (Nat×Nat)
namespace L2
open PySem PySem.Spec PyProof.Rows
abbrev Zh:=Sum Int Str
abbrev jD:=List Zh
def P3:Zh->ai->Bool
 | .inl k,v=>Value.isInt k v
 | .inr x,v=>Value.isStrOf x v
def Gw(w:ax):Zh->Int
 | .inl k=>hashInt k
 | .inr x=>hashStr w x
def Qz:∀{k:Zh}{v:ai},P3 k v=true->(∃ i t,k=Sum.inl i/\v=Value.int i t)\/(∃ x t,k=Sum.inr x/\v=Value.str x t)
 | .inl i,v,h=>by
  let⟨t,e⟩:=Value.isInt_shape (k:=i) (v:=v) h;exact .inl ⟨i,t,Z,e⟩
 | .inr x,v,h=>by
  let⟨t,e⟩:=Value.isStrOf_shape (x:=x) (v:=v) h;exact .inr ⟨x,t,Z,e⟩
def BW(i:Int)(t:Tok):P3 (.inl i) (.int i t)=true:=by simp[P3,Value.isInt]
def ZKM(x:Str)(t:Tok):P3 (.inr x) (.str x t)=true:=by simp[P3,Value.isStrOf]
def Bf(a b:Int):decide ((Sum.inl a:Zh)=Sum.inl b)=(a==b):=by
 by_cases e:a=b
 ·subst e;simp
 ·let h:¬ (Sum.inl a:Zh)=Sum.inl b:=λq=>e (Sum.inl.inj q);rw[aJ h];exact(beq_eq_false_iff_ne.mpr e).symm
def ZPN(a b:Str):decide ((Sum.inr a:Zh)=Sum.inr b)=decide (a=b):=by
 by_cases e:a=b
 ·subst e;simp
 ·let h:¬ (Sum.inr a:Zh)=Sum.inr b:=λq=>e (Sum.inr.inj q);rw[aJ h,aJ e]
def ZOV(a:Int)(b:Str):decide ((Sum.inl a:Zh)=Sum.inr b)=false:=aJ (λq=>nomatch q)
def BI(a:Str)(b:Int):decide ((Sum.inr a:Zh)=Sum.inl b)=false:=aJ (λq=>nomatch q)
def Up(c:al)(w:ax):PySem.KeyKind c w Zh where
 is:=P3
 hash:=Gw w
 inj:=λv a b g f=>by
  rcases Qz g with ⟨i,t,rfl,rfl⟩ | ⟨x,t,rfl,rfl⟩
  ·rcases Qz f with ⟨j,u,rfl,e⟩ | ⟨y,u,rfl,e⟩
   ·injection e with e1 _;rw[e1]
   ·exact nomatch e
  ·rcases Qz f with ⟨j,u,rfl,e⟩ | ⟨y,u,rfl,e⟩
   ·exact nomatch e
   ·injection e with e1 _;rw[e1]
 byValue:=λk v h=>by
  rcases Qz h with ⟨i,t,rfl,rfl⟩ | ⟨x,t,rfl,rfl⟩ <;> rfl
 pyHash:=λd h=>by
  rcases Qz d with ⟨i,t,rfl,rfl⟩ | ⟨x,t,rfl,rfl⟩
  ·exact wpAny_pyHash_int h
  ·exact wpAny_pyHash_str h
 eqBool:=λl d h=>by
  rcases Qz l with ⟨i,t,rfl,rfl⟩ | ⟨x,t,rfl,rfl⟩
  ·rcases Qz d with ⟨j,u,rfl,rfl⟩ | ⟨y,u,rfl,rfl⟩
   ·rw[Bf] at h;exact wpAny_eqBool_int h
   ·rw[ZOV] at h;exact SeqAt.EqAt.int_str i t y u _ _ _ _ h
  ·rcases Qz d with ⟨j,u,rfl,rfl⟩ | ⟨y,u,rfl,rfl⟩
   ·rw[BI] at h;exact SeqAt.EqAt.str_int x t j u _ _ _ _ h
   ·rw[ZPN] at h;exact wpAny_eqBool_str h
 «strs» :=λk x t v h=>by
  rcases Qz h with ⟨i,u,rfl,e⟩ | ⟨y,u,rfl,e⟩
  ·exact nomatch e
  ·injection e with e1 _;subst e1;cases v <;> rfl
def ZGH(a:al)(w:ax)(i:Int)(t:Tok):(Up a w).is (.inl i) (.int i t)=true:=BW i t
def ZGZ(a:al)(w:ax)(x:Str)(t:Tok):(Up a w).is (.inr x) (.str x t)=true:=ZKM x t
inductive V where
 | non | bl (b:Bool) | int (i:Int) | str (x:Str) | byt (b:Array UInt8) | flt (b:UInt64) | ref (a:aj) | ty (n:String)
 deriving DecidableEq
abbrev jf:=List V
abbrev jg:=Option V
def ZR:V->ai->Prop
 | .non,u=>u=Value.none
 | .bl b,u=>u=Value.bool b
 | .int i,u=>∃ t,u=Value.int i t
 | .str x,u=>∃ t,u=Value.str x t
 | .byt b,u=>∃ t,u=Value.bytes b t
 | .flt b,u=>∃ t,u=Value.float b t
 | .ref a,u=>u=Value.ref a
 | .ty n,u=>u=Value.type n
abbrev ZO:jf->je->Prop:=Paired ZR
def ZO.length{b:jf}{a:je}(r:ZO b a):b.length=a.length:=Paired.length r
def ZO.get:∀{b:jf}{a:je}{i:Nat}{x:V},ZO b a->b[i]? = some x->∃ u,a[i]? = some u/\ZR x u
 | _,_,_,_,.nil,e=>by simp at e
 | _,_,0,_,.cons r _,e=>by simp at e;subst e;exact⟨_,Z,r⟩
 | _,_,i+1,x,.cons _ t,e=>by
  let⟨u,c,d⟩:=ZO.get (i:=i) (x:=x) t (by simpa using e)
  exact⟨u,by simpa using c,d⟩
def ZO.set{x:V}{u:ai}(r:ZR x u):∀{b:jf}{a:je}(i:Nat),ZO b a->ZO (b.set i x) (a.set i u)
 | _,_,_,.nil=>.nil
 | _,_,0,.cons _ t=>.cons r t
 | _,_,i+1,.cons q t=>.cons q (ZO.set r i t)
def ZO.append:∀{c d:jf}{a b:je},ZO c a->ZO d b->ZO (c++d) (a++b):=by intro _ _ _ _ h g;induction h with
 | nil=>exact g
 | cons r _ e=>exact .cons r e
def ZO.take:∀{b:jf}{a:je}(n:Nat),ZO b a->ZO (b.take n) (a.take n)
 | _,_,0,_=>.nil
 | _,_,_+1,.nil=>.nil
 | _,_,n+1,.cons r t=>.cons r (ZO.take n t)
def ZO.drop:∀{b:jf}{a:je}(n:Nat),ZO b a->ZO (b.drop n) (a.drop n)
 | _,_,0,r=>r
 | _,_,_+1,.nil=>.nil
 | _,_,n+1,.cons _ t=>ZO.drop n t
def Ys:jg->jd->Prop
 | some v,some u=>ZR v u
 | none,none=>True
 | _,_=>False
def KV{a:Type}:List (a×V)->List (a×ai)->Prop:=Paired fun(p:a×V)(q:a×ai)=>p.1=q.1/\ZR p.2 q.2
def kV:Zh->V
 | .inl i=>.int i
 | .inr x=>.str x
inductive HO where
 | lst (xs:jf)
 | tup (xs:jf)
 | dK (kvs:List (Zh×V)) | dT (kvs:List (jD×V))
 | set (S:Int->Bool) (n:Nat)
 | ins (C dx:aj) (fs:List (Str×V))
 | own (x:aj)
 | xd (fs:List (Str×V))
 | met (f x:aj)
 | rng (lo hi:Int)
 | frz (o:aI) (u:HO)
 | tbl (ps:jx)
 | ext (φ:aE->Prop)
abbrev Hp:=aj->Option HO
def upd(H:Hp)(a:aj)(o:HO):Hp:=λb=>if b=a then some o else H b
def ZP{H:Hp}{a:aj}{o:HO}:upd H a o a=some o:=by unfold upd;rw[aO rfl]
def ZU{H:Hp}{a b:aj}{o:HO}(h:b≠a):upd H a o b=H b:=by unfold upd;rw[aM h]
def MT{H:Hp}{a:aj}{o u:HO}:upd (upd H a o) a u=upd H a u:=by
 funext b;unfold upd;split <;> rfl
def Zb{H:Hp}{a b:aj}{o u:HO}(h:H a=some o)(c:H b=some u)(d:o≠u:=by intro z;cases z):a≠b:=by
 intro e;subst e;rw[h] at c;exact d (zA.inj c)
def ZY{H:Hp}{a b:aj}{o:HO}(h:H a=some o)(c:H b=none):a≠b:=by
 intro e;subst e;rw[h] at c;cases c
section
variable(P:al)(w:ax)
def Ze(H:Hp)(h:aE)(a:aj):HO->Prop
 | .lst c=>c.length<=aq/\∃(b:je)(n:Nat),ZO c b/\h.get? a=some { cls:=.type "list",data:=.seq b.toArray n }
 | .tup c=>c.length<=aq/\∃ b:je,ZO c b/\IsTup h a b.toArray
 | .dK kvs=>kvs.length<=aq/\(a==sysModules)=false/\∃ l,KV kvs l/\h.DictOf (Up P w) a l
 | .dT kvs=>kvs.length<=aq/\(a==sysModules)=false/\∃ c:List (jD×aj×ai),
   Paired (fun(p:jD×V)(q:jD×aj×ai)=>p.1=q.1/\H q.2.1=some (.tup (p.1.map kV))/\ZR p.2 q.2.2) kvs c /\
   ∃ o i m,h.get? a=some o/\o.ExactDict/\o.data=.dict i m/\i.toList=c.map (entryOfKey (tupleKind (Up P w)))/\(c.map (·.1)).Nodup
 | .set S n=>h.SetOf (intKind P w) a S n
 | .ins C g e=>H g=some (.own a)/\e.length<=1000/\g≠a/\h.get? a=some (wE C g) /\
   ∃ d,h.Ns1 g d/\(∀ f,Ys (e.lookup f) (d f))/\PySem.Within d (e.map (·.1))
 | .own _=>∃ o,h.get? a=some o
 | .xd e=>∃ d,h.Ns1 a d/\∀ f,Ys (e.lookup f) (d f)
 | .rng lo r=>∃ t u v,h.get? a=some { cls:=.type "range",data:=.fields #[.int lo t,.int r u,.int 1 v] }
 | .frz o u=>h.get? a=some o/\Ze H h a u
 | .tbl ps=>h.get? a=some { cls:=.none,data:=.fields ps }
 | .met f x=>h.get? a=some (rW (.ref f) (.ref x))
 | .ext φ=>φ h/\(∃ o,h.get? a=some o)/\∀ j k:aE,φ j->(∀ o,j.get? a=some o->k.get? a=some o)->φ k
def Yd(H:Hp)(h:aE):Prop:=∀ a o,H a=some o->Ze P w H h a o
end
section
variable{P:al}{w:ax}{H H':Hp}{h h':aE}{a:aj}{o:HO}
def Ze.lt(x:Ze P w H h a o):a<h.objs.size:=by
 cases o with
 | lst d=>let⟨_,_,_,_,e⟩:=x;exact zP e
 | tup d=>let⟨_,_,_,p⟩:=x;exact p.lt
 | dK b=>let⟨_,_,_,_,o,_,_,e,_⟩:=x;exact zP e
 | dT b=>let⟨_,_,_,_,o,_,_,e,_⟩:=x;exact zP e
 | set S n=>let⟨o,_,_,_,e,_⟩:=x;exact zP e
 | ins C g c=>let⟨_,_,_,e,_⟩:=x;exact zP e
 | own y=>let⟨_,e⟩:=x;exact zP e
 | xd c=>let⟨_,⟨_,_,_,e,_⟩,_⟩:=x;exact zP e
 | rng j i=>let⟨_,_,_,e⟩:=x;exact zP e
 | frz k u=>let⟨e,_⟩:=x;exact zP e
 | tbl l=>exact zP (show h.get? a=some _ from x)
 | met f y=>exact zP (show h.get? a=some _ from x)
 | ext m=>let⟨_,⟨_,e⟩,_⟩:=x;exact zP e
def Paired.mapP{e g:Type}{F G:e->g->Prop}:∀{c:List e}{d:List g},Paired F c d->(∀ a b,F a b->G a b)->Paired G c d:=by intro _ _ h f;induction h with
 | nil=>exact .nil
 | cons r _ i=>exact .cons (f _ _ r) i
def Ze.stay(x:Ze P w H h a o)(k:∀ b u,(b=a\/H b=some (.own a))->h.get? b=some u->h'.get? b=some u)(I:∀ b,H b=some (.own a)->H' b=some (.own a))(J:∀ b m,H b=some (.tup m)->H' b=some (.tup m)):Ze P w H' h' a o:=by
 induction o with
 | lst m=>let⟨z,l,n,r,e⟩:=x;exact⟨z,l,n,r,k _ _ (.inl rfl) e⟩
 | tup m=>let⟨z,l,r,g,e,c⟩:=x;exact⟨z,l,r,g,k _ _ (.inl rfl) e,c⟩
 | dK s=>let⟨z,y,M,r,g,j,i,e,c⟩:=x;exact⟨z,y,M,r,g,j,i,k _ _ (.inl rfl) e,c⟩
 | dT s=>
  let⟨z,y,m,r,g,j,i,e,c⟩:=x;exact⟨z,y,m,Paired.mapP r λp q z=>⟨z.1,J _ _ z.2.1,z.2.2⟩,g,j,i,k _ _ (.inl rfl) e,c⟩
 | set S n=>let⟨g,j,i,t,e,c⟩:=x;exact⟨g,j,i,t,k _ _ (.inl rfl) e,c⟩
 | ins C N G=>
  let⟨d,z,L,e,A,⟨B,j,i,F,c⟩,r⟩:=x;exact⟨I _ d,z,L,k _ _ (.inl rfl) e,A,⟨B,j,i,k _ _ (.inr d) F,c⟩,r⟩
 | own y=>let⟨g,e⟩:=x;exact⟨g,k _ _ (.inl rfl) e⟩
 | xd G=>let⟨A,⟨B,j,i,e,c⟩,r⟩:=x;exact⟨A,⟨B,j,i,k _ _ (.inl rfl) e,c⟩,r⟩
 | rng Q O=>let⟨t,u,v,e⟩:=x;exact⟨t,u,v,k _ _ (.inl rfl) e⟩
 | frz g u K=>let⟨e,q⟩:=x;exact⟨k _ _ (.inl rfl) e,K q⟩
 | tbl D=>
  let e:h.get? a=some { cls:=.none,data:=.fields D }:=x;show h'.get? a=some { cls:=.none,data:=.fields D };exact k a _ (.inl rfl) e
 | met f y=>
  let e:h.get? a=some (rW (.ref f) (.ref y)):=x;show h'.get? a=some (rW (.ref f) (.ref y));exact k a _ (.inl rfl) e
 | ext R=>let⟨p,⟨o,e⟩,E⟩:=x;exact⟨E _ _ p λo q=>k _ _ (.inl rfl) q,⟨o,k _ _ (.inl rfl) e⟩,E⟩
def Yd.lt(x:Yd P w H h)(e:H a=some o):a<h.objs.size:=(x a o e).lt
def Yd.fresh(x:Yd P w H h)(e:h.objs.size<=a):H a=none:=by
 cases q:H a with
 | none=>rfl
 | some u=>exact absurd (yY (x.lt q) e) (wA _)
def Yd.kept(x:Yd P w H h)(k:∀ b u,h.get? b=some u->h'.get? b=some u):Yd P w H h':=λa o e=>
 (x a o e).stay (λb u _ q=>k b u q) (λ_ q=>q) λ_ _ q=>q
def Yd.laid(x:Yd P w H h)(k:∀ b u,h.get? b=some u->h'.get? b=some u)(i:h.objs.size<=a)(d:Ze P w (upd H a o) h' a o):Yd P w (upd H a o) h':=λb u e=>by
 let g:=x.fresh i;by_cases f:b=a
 ·subst f;rw[ZP] at e;cases e;exact d
 ·rw[ZU f] at e;exact(x b u e).stay (λc v _ q=>k c v q) (λc q=>by rw[ZU (ZY q g)];exact q) λc j q=>by rw[ZU (ZY q g)];exact q
end
def Rd(H:Hp)(a:aj)(u:HO):Prop:=H a=some u\/∃ o,H a=some (.frz o u)
def Rd.ok{P:al}{w:ax}{H:Hp}{h:aE}{a:aj}{u:HO}(r:Rd H a u)(x:Yd P w H h):Ze P w H h a u:=by
 rcases r with r | ⟨o,r⟩
 ·exact x a u r
 ·let⟨_,q⟩:=x a _ r;exact q
def Oq:Option HO->Prop
 | some (.lst _)=>True
 | some (.dK _)=>True
 | some (.dT _)=>True
 | some (.set _ _)=>True
 | some (.ins _ _ _)=>True
 | some (.ext _)=>True
 | _=>False
section
variable{P:al}{w:ax}{H:Hp}{h h':aE}{x e:aj}{o':HO}
def Yd.write(t:Yd P w H h)(j:Oq (H x))(o:e=x\/H e=some (.own x))(k:∀ b u,b≠e->h.get? b=some u->h'.get? b=some u)(m:∃ u,h'.get? e=some u)(n:Ze P w (upd H x o') h' x o'):Yd P w (upd H x o') h':=λb u q=>by
 let d:∀ c y,H c=some (.own y)->c≠x:=λc y r z=>by subst z;rw[r] at j;exact j
 let f:∀ c l,H c=some (.tup l)->c≠x:=λc l r z=>by subst z;rw[r] at j;exact j
 by_cases g:b=x
 ·subst g;rw[ZP] at q;cases q;exact n
 ·rw[ZU g] at q;by_cases a:b=e
  ·let p:H b=some (.own x):=by
    rcases o with z | z
    ·exact absurd (a.trans z) g
    ·rw[a];exact z
   rw[q] at p;cases p;let⟨v,s⟩:=m;exact⟨v,by rw[a];exact s⟩
  ·refine(t b u q).stay (λc v i r=>k c v ?_ r) (λc r=>by rw[ZU (d c b r)];exact r) λc l r=>by rw[ZU (f c l r)];exact r
   rcases i with rfl | i
   ·exact a
   ·rintro rfl;rcases o with z | z
    ·exact d c b i z
    ·rw[i] at z;cases z;exact g Z
end
structure Un(fs ex:jE)(H H':Hp)(h h':aE):Prop where
 keep:∀ b o,h.get? b=some o->H b=none->b∉fs->b∉ex->h'.get? b=some o
 slot:∀ b o,h.get? b=some o->H b=none->b∈fs->b∉ex->∃ sl,h'.get? b=some { o with slots:=sl }
 free:∀ b o,h.get? b=some o->H b=none->b∉ex->H' b=none
 there:∀ b o,h.get? b=some o->b∉ex->∃ o',h'.get? b=some o'
 tups:∀ b xs,H b=some (.tup xs)->H' b=some (.tup xs)
 frzs:∀ b o u,H b=some (.frz o u)->H' b=some (.frz o u)
 tbls:∀ b ps,H b=some (.tbl ps)->∃ more,H' b=some (.tbl (ps++more))
section
variable{fs fs' ex ex':jE}{H H1 H2:Hp}{h h1 h2 h':aE}{a x e:aj}{o:HO}
def Un.any(u:Un fs ex H H1 h h1){b:aj}{c:aI}(q:h.get? b=some c)(n:H b=none)(f:b∉ex):∃ g,h1.get? b=some { c with slots:=g }:=by
 by_cases d:b∈fs
 ·exact u.slot b c q n d f
 ·exact⟨c.slots,u.keep b c q n d f⟩
def Un.kept(k:∀ b u,h.get? b=some u->h'.get? b=some u):Un fs ex H H h h':=
 ⟨λb c q _ _ _=>k b c q,λb c q _ _ _=>⟨c.slots,k b c q⟩,λ_ _ _ n _=>n,λb c q _=>⟨c,k b c q⟩,λ_ _ q=>q,λ_ _ _ q=>q,λ_ d q=>⟨#[],by rw[q];simp⟩⟩
def Un.refl:Un fs ex H H h h:=Un.kept λ_ _ q=>q
def Un.laid(k:∀ b u,h.get? b=some u->h'.get? b=some u)(d:h.objs.size<=a)(c:H a=none):Un fs ex H (upd H a o) h h' where
 keep:=λb u q _ _ _=>k b u q
 slot:=λb u q _ _ _=>⟨u.slots,k b u q⟩
 free:=λb u q n _=>by rw[ZU (yW (yY (zP q) d))];exact n
 there:=λb u q _=>⟨u,k b u q⟩
 tups:=λb f q=>by rw[ZU (ZY q c)];exact q
 frzs:=λb u f q=>by rw[ZU (ZY q c)];exact q
 tbls:=λb g q=>⟨#[],by rw[ZU (ZY q c),q];simp⟩
def Un.write(d:Oq (H x))(l:e=x\/H e=some (.own x))(k:∀ b u,b≠e->h.get? b=some u->h'.get? b=some u)(f:∃ u,h'.get? e=some u):Un fs ex H (upd H x o) h h':=by
 let j:∀ b,H b=none->b≠x:=λb n z=>by subst z;rw[n] at d;exact d
 let i:∀ b,H b=none->b≠e:=λb n z=>by
  subst z;rcases l with r | r
  ·exact j b n r
  ·rw[n] at r;cases r
 let g:∀ b u,H b=some u->¬ Oq (some u)->b≠x:=λb u q m z=>by subst z;rw[q] at d;exact m d
 refine⟨λb u q n _ _=>k b u (i b n) q,λb u q n _ _=>⟨u.slots,k b u (i b n) q⟩,λb u q n _=>by rw[ZU (j b n)];exact n,λb u q _=>?_,
  λb p q=>by rw[ZU (g b _ q λz=>z)];exact q,λb u p q=>by rw[ZU (g b _ q λz=>z)];exact q,λb s q=>⟨#[],by rw[ZU (g b _ q λz=>z),q];simp⟩⟩
 by_cases c:b=e
 ·subst c;exact f
 ·exact⟨u,k b u c q⟩
end
def PV(h:aE)(H:Hp):List Addr:=(yU h.objs.size).filter λa=>(H a).isSome
def V0(h:aE)(H:Hp):Heap:=uQ h (PV h H)
def Ee(h:aE)(H:Hp):(V0 h H).objs.size=h.objs.size:=PySem.W.hideAll_size _ _
def Fm{h:aE}{H:Hp}{b:aj}{o:aI}(e:h.get? b=some o)(n:H b=none):(V0 h H).get? b=some o:=
 qM _ e λa=>by
  let q:(H b).isSome=true:=(vF.mp a).2;rw[n] at q;simp at q
def DJ{h:aE}{H:Hp}{b:aj}{o:aI}(e:(V0 h H).get? b=some o):h.get? b=some o/\H b=none:=by
 let a:h.get? b=some o:=rS (PV h H) e;exists a
 cases q:H b with
 | none=>rfl
 | some x=>
  let c:b∈PV h H:=vF.mpr ⟨xV.mpr (zP a),by simp[q]⟩
  let z:(V0 h H).get? b=none:=qJ (PV h H) c;rw[z] at e;cases e
def Bn(g h:aE)(L:aj):ju:=(yU h.objs.size).filterMap λa=>if a=L\/(g.get? a).isSome=true then none else (h.get? a).map λo=>(a,o)
def rest(g h:aE)(L d:aj):ju:=(Bn g h L).filter λp=>decide (p.1≠d)
structure Mod(K:zZ)(mg:jc)(ki:aE):Prop where
 kin:K.In ki
 glob:ki.Ns ao mg
 blt:∃ mb,ki.Ns builtinsNs mb/\∀ x:Str,x ≠ "__name__"->mb x=az x
 nolimit:ki.NoLimit
structure Cx where
 prog:al
 w:ax
 K:zZ
 mg:jc
 base:aE
 A:ay
 N:jt
 s₀:ak
 H₀:Hp
 env:Env
 outer:jB
 stack:jB
 ex:jE
 fn:Str->Bool
 calm:Bool
 pn:ju
 xe:ja
def frs(l:jB):List Addr:=l.filterMap (·.frame)
abbrev Cx.fs(X:Cx):List Addr:=frs X.outer
def LH(a:aF)(x:Str):Prop:=a.names.lookup x=some .local\/a.names.lookup x=some .cell\/a.names.lookup x=some .free
def OC(a:aF)(x:Str):Prop:=a.names.lookup x=some .local\/a.names.lookup x=some .cell
def A6(a:Env)(h:aE)(m:jc)(x:Str)(u:ai):Prop:=
 (a.kindOf x=some .local/\m x=some u)\/((a.kindOf x=some .cell\/a.kindOf x=some .free)/\∃ c,a.cells.lookup x=some c/\h.IsCell c (some u))
structure Cx.Ok(X:Cx):Prop where
 mod:Mod X.K X.mg X.base
 kind:X.env.scope.kind=.function
 glob:X.env.globals=ao
 blt:X.env.builtins=builtinsNs
 above:X.s₀.heap.objs.size<=X.env.locals
 inj:∀ x y c,X.env.cells.lookup x=some c->X.env.cells.lookup y=some c->x=y
 has:∀ x,(X.env.kindOf x=some .cell\/X.env.kindOf x=some .free)->∃ c,X.env.cells.lookup x=some c
 cab:∀ x c,X.fn x=true->X.env.cells.lookup x=some c->X.s₀.heap.objs.size<=c
 hd:X.calm=true->X.A.handled=none
 frames:X.A.frames=some X.stack
 stk:X.stack=X.outer\/(X.stack=X.env::X.outer/\X.env.frame=some X.env.locals)
 exf:∀ b∈X.ex,b≠X.env.locals/\∀ x c,X.env.cells.lookup x=some c->c≠b
 bs:∀ b o,X.base.get? b=some o->X.s₀.heap.get? b=some o/\X.H₀ b=none
 bsz:X.base.objs.size<=X.s₀.heap.objs.size
 noex:∀ b o,X.base.get? b=some o->b∉X.ex
 exfs:∀ b∈X.ex,b∉X.fs
 funs:X.s₀.heap.FunFrames X.base X.outer
 frf:∀ b∈X.fs,X.H₀ b=none
structure ZF(X:Cx)(kh:ju)(σ:List (jg))(H:Hp)(s:ak):Prop where
 ok:X.Ok
 os:s.os=X.s₀.os
 bare:AllBare s.gens
 base:Un X.fs X.ex X.H₀ H X.s₀.heap s.heap
 loc:∃ m,s.heap.Ns X.env.locals m/\∀(i:Nat)(x:Str)(v:V),X.N[i]? = some x->σ[i]? = some (some v)->LH X.env.scope x->∃ u,ZR v u/\A6 X.env s.heap m x u
 cell:∀ x c,X.env.cells.lookup x=some c->∃ v,s.heap.IsCell c v
 free:H X.env.locals=none
 freeC:∀ x c,X.env.cells.lookup x=some c->H c=none
 pin:∀ p∈X.pn++kh,s.heap.get? p.1=some p.2/\H p.1=none/\p.1≠X.env.locals/\p.1∉X.fs/\∀ v,p.2.data≠.cell v
 hok:Yd X.prog X.w H s.heap
 len:σ.length=X.N.length
section
variable{X:Cx}{kh:ju}{σ:List (jg)}{H H':Hp}{s:ak}{h':aE}
def Cx.Ok.nofr(c:X.Ok){b:aj}{o:aI}(e:X.base.get? b=some o):b∉X.fs:=λa=>by
 have:=(c.funs.mem a).1;rw[e] at this;cases this
def ZF.bs(I:ZF X kh σ H s):∀ b o,X.base.get? b=some o->s.heap.get? b=some o/\H b=none:=λb o e=>
 ⟨I.base.keep b o (I.ok.bs b o e).1 (I.ok.bs b o e).2 (I.ok.nofr e) (I.ok.noex b o e),I.base.free b o (I.ok.bs b o e).1 (I.ok.bs b o e).2 (I.ok.noex b o e)⟩
def ZF.bk(I:ZF X kh σ H s):∀ b o,X.base.get? b=some o->s.heap.get? b=some o:=λb o e=>(I.bs b o e).1
def ZF.mod(I:ZF X kh σ H s):Mod X.K X.mg X.base:=I.ok.mod
def ZF.kIn(I:ZF X kh σ H s):X.K.In s.heap:=I.ok.mod.kin.keeps I.bk
def ZF.lt(I:ZF X kh σ H s):X.env.locals<s.heap.objs.size:=let ⟨_,hn,_⟩:=I.loc;hn.lt
def ZF.sz(I:ZF X kh σ H s):X.s₀.heap.objs.size<=s.heap.objs.size:=zS I.ok.above (yK I.lt)
def ZF.nofs(I:ZF X kh σ H s){a:aj}(h:s.heap.objs.size<=a):a∉X.fs:=λb=>by
 let⟨_,o,c,_⟩:=I.ok.funs.mem b;exact absurd (yY (zP c) (zS I.sz h)) (wA _)
def ZF.cne(I:ZF X kh σ H s):∀ x c,X.env.cells.lookup x=some c->c≠X.env.locals:=λx c e z=>by
 let⟨v,o,f,d⟩:=I.cell x c e;let⟨m,⟨i,h,g,b,a,_⟩,_⟩:=I.loc;rw[z,b] at f;cases f;rw[a] at d;cases d
def ZF.funs(I:ZF X kh σ H s):s.heap.FunFrames X.base X.outer:=by
 let a:∀(l:jB),(∀ b∈frs l,b∈X.fs)->X.s₀.heap.FunFrames X.base l->s.heap.FunFrames X.base l:=by
  intro l
  induction l with
  | nil=>intro _ _;trivial
  | cons h r q=>
   intro g k;let⟨j,⟨L,o,f,m,n,i⟩,p⟩:=k;let c:L∈X.fs:=g L (by unfold frs;rw[vV,f];exact zI)
   let⟨t,e⟩:=I.base.slot L o n (I.ok.frf L c) c λz=>I.ok.exfs L z c;exact⟨j,⟨L,_,f,m,e,i⟩,q (λb d=>g b (by unfold frs;rw[vV,f];exact zG _ d)) p⟩
 exact a X.outer (λ_ d=>d) I.ok.funs
def ZF.stack(I:ZF X kh σ H s):s.heap.FunFrames X.base X.stack:=by
 rcases I.ok.stk with e | ⟨e,a⟩
 ·rw[e];exact I.funs
 ·rw[e];let⟨m,b,_⟩:=I.loc;refine .cons (by rw[I.ok.kind];decide) a b ?_ I.funs
  exact tJ (zS I.ok.bsz I.ok.above)
def ZF.stkSub(I:ZF X kh σ H s):∀ b∈frs X.stack,b∈X.env.locals::X.fs:=λb a=>by
 rcases I.ok.stk with e | ⟨e,c⟩
 ·rw[e] at a;exact zG _ a
 ·rw[e] at a;unfold frs at a;rw[vV,c] at a;exact a
def ZF.stkFree(I:ZF X kh σ H s):∀ b∈frs X.stack,H b=none:=λb a=>by
 rcases yT.mp (I.stkSub b a) with e | a
 ·rw[e];exact I.free
 ·let⟨_,o,c,_⟩:=I.ok.funs.mem a;exact I.base.free b o c (I.ok.frf b a) λz=>I.ok.exfs b z a
def ZF.step{g':Array GenState}{t':Nat}{d':Drawn}{ch:jE}(I:ZF X kh σ H s)(h:∀ b∈ch,(b∈X.ex\/X.s₀.heap.objs.size<=b)/\b≠X.env.locals/\(∀ x c,X.env.cells.lookup x=some c->c≠b)/\∀ p∈X.pn++kh,p.1≠b)(j:∀ b o,b≠X.env.locals->b∉X.fs->b∉ch->s.heap.get? b=some o->H b=none->h'.get? b=some o)(B:∀ b o,b≠X.env.locals->b∈X.fs->b∉ch->s.heap.get? b=some o->H b=none->∃ S,h'.get? b=some { o with slots:=S })(f:∀ b o,b∉ch->s.heap.get? b=some o->H b=none->H' b=none)(E:∀ b o,b∉ch->s.heap.get? b=some o->∃ M,h'.get? b=some M)(O:∀ b C,H b=some (.tup C)->H' b=some (.tup C))(J:∀ b o u,H b=some (.frz o u)->H' b=some (.frz o u))(N:∀ b P,H b=some (.tbl P)->∃ K,H' b=some (.tbl (P++K)))(ns:∀ m,s.heap.Ns X.env.locals m->h'.Ns X.env.locals m)(R:Yd X.prog X.w H' h')(hg:AllBare g'):
  ZF X kh σ H' { s with heap:=h',gens:=g',drawn:=d',toks:=t' }:=by
 let L:∀ b o,X.s₀.heap.get? b=some o->b≠X.env.locals:=λb o e=>yW (yY (zP e) I.ok.above);let A:∀ b o,X.s₀.heap.get? b=some o->b∉X.ex->b∉ch:=λb o e a D=>by
  rcases(h b D).1 with z | z
  ·exact a z
  ·exact absurd (yY (zP e) z) (wA _)
 let g:∀ x c,X.env.cells.lookup x=some c->∀ v,s.heap.IsCell c v->h'.IsCell c v:=λx c e v ⟨o,F,Q⟩=>by
  let t:c∉ch:=λz=>(h c z).2.2.1 x c e Z;by_cases U:c∈X.fs
  ·let⟨S,q⟩:=B c o (I.cne x c e) U t F (I.freeC x c e);exact⟨_,q,Q⟩
  ·exact⟨o,j c o (I.cne x c e) U t F (I.freeC x c e),Q⟩
 refine⟨I.ok,I.os,hg,⟨λb o e n D a=>?_,λb o e n D a=>?_,λb o e n a=>?_,λb o e a=>?_,λb C e=>O b C (I.base.tups b C e),λb o C e=>J b o C (I.base.frzs b o C e),λb P e=>?_⟩,?_,λx c e=>?_,?_,λx c e=>?_,λp V=>?_,R,I.len⟩
 ·exact j b o (L b o e) D (A b o e a) (I.base.keep b o e n D a) (I.base.free b o e n a)
 ·let⟨S,y⟩:=I.base.slot b o e n D a;let⟨T,G⟩:=B b _ (L b o e) D (A b o e a) y (I.base.free b o e n a);exact⟨T,G⟩
 ·let⟨M,y⟩:=I.base.there b o e a;exact f b M (A b o e a) y (I.base.free b o e n a)
 ·let⟨M,y⟩:=I.base.there b o e a;exact E b M (A b o e a) y
 ·let⟨m1,y⟩:=I.base.tbls b P e;let⟨m2,G⟩:=N b _ y;exact⟨m1++m2,by rw[G,Array.append_assoc]⟩
 ·let⟨m,hn,hl⟩:=I.loc;exists m,ns m hn;intro i x v y G e3;let⟨u,r,l⟩:=hl i x v y G e3;exists u,r;rcases l with l | ⟨k,c,e,z⟩
  ·exact .inl l
  ·exact .inr ⟨k,c,e,g x c e _ z⟩
 ·let⟨v,z⟩:=I.cell x c e;exact⟨v,g x c e v z⟩
 ·let⟨m,⟨o,_,_,F,_⟩,_⟩:=I.loc;exact f _ o (λz=>(h _ z).2.1 Z) F I.free
 ·let⟨v,o,F,Q⟩:=I.cell x c e;exact f c o (λz=>(h c z).2.2.1 x c e Z) F (I.freeC x c e)
 ·let⟨e,n,W,Y,d⟩:=I.pin p V;let t:p.1∉ch:=λz=>(h p.1 z).2.2.2 p V Z;exact⟨j p.1 p.2 W Y t e n,f p.1 p.2 t e n,W,Y,d⟩
def ZF.un{t':Nat}(I:ZF X kh σ H s)(u:Un X.fs [] H H' s.heap h')(g:Yd X.prog X.w H' h'):ZF X kh σ H' { s with heap:=h',toks:=t' }:=by
 let⟨m,⟨o,p,l,h,r⟩,_⟩:=id I.loc;let⟨v,i⟩:=u.any h I.free (by simp)
 exact I.step (g':=s.gens) (d':=s.drawn) (ch:=[]) (λ_ z=>nomatch z) (λb o _ f _ e n=>u.keep b o e n f (by simp)) (λb o _ f _ e n=>u.slot b o e n f (by simp)) (λb o _ e n=>u.free b o e n (by simp)) (λb o _ e=>u.there b o e (by simp)) u.tups u.frzs u.tbls (λq j=>by
  let⟨t,d,c,a,k⟩:=j;rw[h] at a;cases a;exact⟨_,d,c,i,k⟩) g I.bare
def ZF.call{g':Array GenState}{t':Nat}{d':Drawn}{ch:jE}(I:ZF X kh σ H s)(u:Un (frs X.stack) ch H H' s.heap h')(j:Yd X.prog X.w H' h')(q:AllBare g')(d:∀ b∈ch,(b∈X.ex\/X.s₀.heap.objs.size<=b)/\b≠X.env.locals/\(∀ x c,X.env.cells.lookup x=some c->c≠b)/\∀ p∈X.pn++kh,p.1≠b):
  ZF X kh σ H' { s with heap:=h',gens:=g',drawn:=d',toks:=t' }:=by
 let⟨m,⟨o,A,y,k,r⟩,_⟩:=id I.loc;let⟨D,i⟩:=u.any k I.free λz=>(d _ z).2.1 Z;exact I.step (ch:=ch) d (λb o i l a e n=>u.keep b o e n (λz=>(yT.mp (I.stkSub b z)).elim i l) a) (λb o _ _ a e n=>u.any e n a) (λb o a e n=>u.free b o e n a) (λb o a e=>u.there b o e a) u.tups u.frzs u.tbls (λB t=>by
  let⟨C,h,g,f,v⟩:=t;rw[k] at f;cases f;exact⟨_,h,g,i,v⟩) j q
def ZF.turned{t':Nat}{it:aj}(I:ZF X kh σ H s)(k:∀ b o,b≠it->s.heap.get? b=some o->h'.get? b=some o)(y:H it=none)(f:it≠X.env.locals)(i:it∈X.ex\/X.s₀.heap.objs.size<=it)(j:∀ x c,X.env.cells.lookup x=some c->c≠it)(l:∀ p∈X.pn++kh,p.1≠it):ZF X kh σ H { s with heap:=h',toks:=t' }:=by
 let d:∀ b u,H b=some u->b≠it:=λb u e z=>by rw[z,y] at e;cases e
 refine I.step (g':=s.gens) (d':=s.drawn) (ch:=[it]) (λb t=>?_) (λb o _ _ a e _=>k b o (λz=>a (by simp[z])) e) (λb o _ _ a e _=>⟨o.slots,k b o (λz=>a (by simp[z])) e⟩) (λ_ _ _ _ n=>n)
  (λb o a e=>⟨o,k b o (λz=>a (by simp[z])) e⟩) (λ_ _ e=>e) (λ_ _ _ e=>e) (λb B e=>⟨#[],by rw[e];simp⟩) (λm w=>?_) (λb u e=>?_) I.bare
 ·let e:b=it:=by simpa using t
  subst e;exact⟨i,f,j,l⟩
 ·let⟨o,h,g,A,r⟩:=w;exact⟨o,h,g,k _ o (Ne.symm f) A,r⟩
 ·refine(I.hok b u e).stay (λc v a q=>k c v ?_ q) (λ_ q=>q) λ_ _ q=>q;rcases a with z | z
  ·rw[z];exact d b u e
  ·exact d c _ z
def ZF.tok(I:ZF X kh σ H s)(t:Nat):ZF X kh σ H { s with toks:=t }:=I.un (h':=s.heap) (t':=t) Un.refl I.hok
def ZF.kept{t':Nat}(I:ZF X kh σ H s)(k:∀ b u,s.heap.get? b=some u->h'.get? b=some u):ZF X kh σ H { s with heap:=h',toks:=t' }:=I.un (Un.kept k) (I.hok.kept k)
def ZF.laid{a:aj}{o:HO}{t':Nat}(I:ZF X kh σ H s)(k:∀ b u,s.heap.get? b=some u->h'.get? b=some u)(c:s.heap.objs.size<=a)(d:Ze X.prog X.w (upd H a o) h' a o):
  ZF X kh σ (upd H a o) { s with heap:=h',toks:=t' }:=I.un (Un.laid k c (I.hok.fresh c)) (I.hok.laid k c d)
def ZF.write{x e:aj}{o:HO}{g:Nat}(I:ZF X kh σ H s)(f:Oq (H x))(d:e=x\/H e=some (.own x))(k:∀ b u,b≠e->s.heap.get? b=some u->h'.get? b=some u)(a:∃ u,h'.get? e=some u)(c:Ze X.prog X.w (upd H x o) h' x o):ZF X kh σ (upd H x o) { s with heap:=h',toks:=g }:=I.un (Un.write f d k a) (I.hok.write f d k a c)
def ZF.pins_of{a:ju}(I:ZF X kh σ H s)(h:∀ p∈a,s.heap.get? p.1=some p.2/\H p.1=none/\p.1≠X.env.locals/\p.1∉X.fs/\∀ v,p.2.data≠.cell v):ZF X a σ H s:=
 ⟨I.ok,I.os,I.bare,I.base,I.loc,I.cell,I.free,I.freeC,λp b=>(zB.mp b).elim (λz=>I.pin p (xU _ z)) (h p),I.hok,I.len⟩
def Gn{N:jt}(e:N.Nodup){i j:Nat}{x:Str}(a:N[i]? = some x)(b:N[j]? = some x):i=j:=by
 let⟨f,c⟩:=zC.mp a;let⟨g,d⟩:=zC.mp b;exact(List.getElem_inj e).mp (c.trans d.symm)
def EW{M:Model}{A:ay}{E:ja}{i:Nat}{x:Str}{v:V}{u:ai}{Q:Unit->ak->Prop}(I:ZF X kh σ H s)(hN:X.N.Nodup)(T:X.N[i]? = some x)(B:OC X.env.scope x)(r:ZR v u)(h:∀ s',ZF X kh (σ.set i (some v)) H s'->(∃ a,yA a s.heap s'.heap/\(a=X.env.locals\/X.env.cells.lookup x=some a))->Q () s')(hf:X.fn x=true\/X.env.scope.names.lookup x=some .local:=by first | exact .inl rfl | exact .inr rfl | assumption):aC M A (storeName X.env x u) Q E s:=by
 let⟨m,hn,hl⟩:=id I.loc;let S:(X.env.scope.kind==.class || (X.env.scope.kind==.module&&X.env.locals != X.env.globals))=false:=by rw[I.ok.kind];rfl
 let F:i<σ.length:=by rw[I.len];exact(zC.mp T).1
 let J:=I.cne;let l:∀{a:aj}{h':aE},(∃ o,s.heap.get? a=some o/\H a=none)->yA a s.heap h'->Yd X.prog X.w H h':=fun{a h'} ha f b ob e=>by
  let⟨_,_,C⟩:=ha;refine(I.hok b ob e).stay (λc w' t q=>(f.2 c ?_).trans q) (λ_ q=>q) λ_ _ q=>q;rintro rfl;rcases t with rfl | t
  ·rw[C] at e;cases e
  ·rw[C] at t;cases t
 rcases B with G | G
 ·refine wpAny_storeName_local G hn (λh' a0 f=>?_) S;let⟨oL,_,_,a1,_⟩:=id hn;refine h _ ⟨I.ok,I.os,I.bare,⟨λb o e n K B=>?_,λb o e n K B=>?_,I.base.free,λb o e B=>?_,I.base.tups,I.base.frzs,I.base.tbls⟩,⟨_,a0,λj y v' g D e3=>?_⟩,λy c e=>?_,I.free,I.freeC,λp hp=>?_,l ⟨oL,a1,I.free⟩ f,by simpa using I.len⟩ ⟨_,f,.inl Z⟩
  ·exact(f.2 b (yW (yY (zP e) I.ok.above))).trans (I.base.keep b o e n K B)
  ·let⟨sl,g⟩:=I.base.slot b o e n K B;exact⟨sl,(f.2 b (yW (yY (zP e) I.ok.above))).trans g⟩
  ·let⟨o',g⟩:=I.base.there b o e B;exact⟨o',(f.2 b (yW (yY (zP e) I.ok.above))).trans g⟩
  ·by_cases O:j=i
   ·subst O;rw[T] at g;cases g;rw[pS F] at D;cases D;exact⟨u,r,.inl ⟨G,by simp⟩⟩
   ·rw[List.getElem?_set_ne (Ne.symm O)] at D;let⟨u',r',q⟩:=hl j y v' g D e3;exists u',r';rcases q with ⟨k,e⟩ | ⟨k,c,e,z⟩
    ·refine .inl ⟨k,?_⟩;have:y≠x:=λe=>O (Gn hN g (e ▸ T));simp[this,e]
    ·exact .inr ⟨k,c,e,z.sameBut f (J y c e)⟩
  ·let⟨w',z⟩:=I.cell y c e;exact⟨w',z.sameBut f (J y c e)⟩
  ·let⟨e,n,ne,nf,d⟩:=I.pin p hp;exact⟨(f.2 p.1 ne).trans e,n,ne,nf,d⟩
 ·let L:X.fn x=true:=by
   rcases hf with z | z
   ·exact z
   ·rw[z] at G;cases G
  let⟨c,t⟩:=I.ok.has x (.inl G);let⟨w',z⟩:=I.cell x c t;refine wpAny_storeName_cell I.ok.kind G t z (λh' P f=>?_);let⟨oc,U,W⟩:=id z;refine h { s with heap:=h' } ⟨I.ok,I.os,I.bare,⟨λb o e n K B=>?_,λb o e n K B=>?_,I.base.free,λb o e B=>?_,I.base.tups,I.base.frzs,I.base.tbls⟩,⟨m,hn.sameBut f (Ne.symm (J x c t)),λj y v' g D e3=>?_⟩,λy Y e=>?_,I.free,I.freeC,λp hp=>?_,l ⟨oc,U,I.freeC x c t⟩ f,by simpa using I.len⟩ ⟨c,f,.inr t⟩
  ·exact(f.2 b (yW (yY (zP e) (I.ok.cab x c L t)))).trans (I.base.keep b o e n K B)
  ·let⟨sl,g⟩:=I.base.slot b o e n K B;exact⟨sl,(f.2 b (yW (yY (zP e) (I.ok.cab x c L t)))).trans g⟩
  ·let⟨o',g⟩:=I.base.there b o e B;exact⟨o',(f.2 b (yW (yY (zP e) (I.ok.cab x c L t)))).trans g⟩
  ·by_cases O:j=i
   ·subst O;rw[T] at g;cases g;rw[pS F] at D;cases D;exact⟨u,r,.inr ⟨.inl G,c,t,P⟩⟩
   ·rw[List.getElem?_set_ne (Ne.symm O)] at D;let⟨u',r',q⟩:=hl j y v' g D e3;exists u',r';rcases q with q | ⟨k,Y,e,z'⟩
    ·exact .inl q
    ·refine .inr ⟨k,Y,e,z'.sameBut f ?_⟩;rintro rfl;exact O (Gn hN g (I.ok.inj _ _ _ e t ▸ T))
  ·by_cases R:Y=c
   ·subst R;exact⟨_,P⟩
   ·let⟨w2,z2⟩:=I.cell y Y e;exact⟨w2,z2.sameBut f R⟩
  ·let⟨e,n,ne,nf,d⟩:=I.pin p hp;refine⟨(f.2 p.1 ?_).trans e,n,ne,nf,d⟩;intro q;rw[q,U] at e;let q':oc=p.2:=zA.inj e;exact d w' (by rw[<-q'];exact W)
def Lx{M:Model}{A:ay}{E:ja}{i:Nat}{x:Str}{v:V}{u:ai}{Q:Unit->ak->Prop}(I:ZF X kh σ H s)(c:X.N.Nodup)(e:X.N[i]? = some x)(f:OC X.env.scope x)(r:ZR v u)(h:∀ a,ZF X kh (σ.set i (some v)) H a->Q () a)(d:X.fn x=true\/X.env.scope.names.lookup x=some .local:=by first | exact .inl rfl | exact .inr rfl | assumption):aC M A (storeName X.env x u) Q E s:=
 EW I c e f r (λa b _=>h a b) d
def ZF.call'{s':ak}{ch:jE}(I:ZF X kh σ H s)(i:s'.os=s.os)(u:Un (frs X.stack) ch H H' s.heap s'.heap)(d:Yd X.prog X.w H' s'.heap)(h:AllBare s'.gens)(a:∀ b∈ch,(b∈X.ex\/X.s₀.heap.objs.size<=b)/\b≠X.env.locals/\(∀ x c,X.env.cells.lookup x=some c->c≠b)/\∀ p∈X.pn++kh,p.1≠b):ZF X kh σ H' s':=by
 let⟨h',g,f,k,j⟩:=s';let e:j=s.os:=i;subst e;exact I.call (g':=g) (t':=k) (d':=f) u d h a
end
abbrev XK:=ai->jz->Hp->Prop
abbrev St:=List (jg)
abbrev VK:=V->Hp->Prop
abbrev TE:=St->Hp->VK->Prop
abbrev TT:=St->Hp->(Bool->Hp->Prop)->Prop
abbrev TA:=St->Hp->(jf->Hp->Prop)->Prop
structure YJ where
 nx:St->Hp->Prop
 rt:VK
 bk:St->Hp->Prop:=λ_ _=>False
 ct:St->Hp->Prop:=λ_ _=>False
abbrev TS:=YJ->St->Hp->Prop
def EP(X:Cx)(a:ju)(d:St)(Q:VK)(u:ai)(c:ak):Prop:=∃ v b,ZF X a d b c/\ZR v u/\Q v b
def TP(X:Cx)(a:ju)(e:St)(Q:Bool->Hp->Prop)(b:Bool)(d:ak):Prop:=∃ c,ZF X a e c d/\Q b c
def AP(X:Cx)(a:ju)(f:St)(Q:jf->Hp->Prop)(e:je)(d:ak):Prop:=∃ c b,ZF X a f b d/\ZO c e/\Q c b
def SP(X:Cx)(b:ju)(D:YJ)(f:Flow)(d:ak):Prop:=
 match f with
 | .next=>∃ a c,ZF X b a c d/\D.nx a c
 | .brk=>∃ a c,ZF X b a c d/\D.bk a c
 | .cont=>∃ a c,ZF X b a c d/\D.ct a c
 | .ret u=>∃ v a c,ZF X b a c d/\ZR v u/\D.rt v c
def PE(X:Cx)(e:Expr)(t:TE):Prop:=
 ∀(a:ju)(s:ak)(b:St)(H:Hp)(Q:VK),ZF X a b H s->t b H Q->aC (aB X.prog X.w) X.A (aH e X.env) (EP X a b Q) X.xe s
def PT(X:Cx)(e:Expr)(t:TT):Prop:=
 ∀(a:ju)(s:ak)(b:St)(H:Hp)(Q:Bool->Hp->Prop),ZF X a b H s->t b H Q->aC (aB X.prog X.w) X.A (isTrue e X.env (aH e X.env)) (TP X a b Q) X.xe s
def PW(X:Cx)(e:Expr)(t:TT):Prop:=
 ∀(b:Sem ai)(a:ju)(s:ak)(c:St)(H:Hp)(Q:Bool->Hp->Prop),ZF X a c H s->t c H Q->aC (aB X.prog X.w) X.A (isTrue e X.env b) (TP X a c Q) X.xe s
def PW.pt{X:Cx}{e:Expr}{t:TT}(h:PW X e t):PT X e t:=h _
def PA(X:Cx)(c:jC)(t:TA):Prop:=
 ∀(pos:Pos)(a:ju)(s:ak)(b:St)(H:Hp)(Q:jf->Hp->Prop),ZF X a b H s->t b H Q->aC (aB X.prog X.w) X.A (spliced (aG pos (ar c X.env))) (AP X a b Q) X.xe s
def PS(X:Cx)(c:aD)(t:TS):Prop:=
 ∀(a:ju)(s:ak)(b:St)(H:Hp)(D:YJ),ZF X a b H s->t D b H->aC (aB X.prog X.w) X.A (exec c X.env) (SP X a D) X.xe s
def X7(X:Cx)(c:jI)(t:TS):Prop:=
 ∀(a:ju)(s:ak)(b:St)(H:Hp)(D:YJ),ZF X a b H s->t D b H->aC (aB X.prog X.w) X.A (execs c X.env) (SP X a D) X.xe s
def Zy{c:Type}{t:Sem c}{Q b:c->ak->Prop}{M:Model}{A:ay}{E:ja}{s:ak}(h:aC M A t Q E s)(d:∀ a s,Q a s->b a s):aC M A t b E s:=ae h d λ_ _ x=>x
def Z2{d g i:Type}{t:Sem d}{a b c:d->ak->g->i->Prop}{e:d->ak->Prop}{M:Model}{A:ay}{E:ja}{s:ak}(h:aC M A t (λv s=>∃ x H,a v s x H/\b v s x H/\c v s x H) E s)(f:∀ v s x H,a v s x H->b v s x H->c v s x H->e v s):aC M A t e E s:=Zy h (by rintro v s ⟨x,H,p,q,r⟩;exact f v s x H p q r)
variable{X:Cx}
section
def bin{a b:Expr}{l m:TE}(q:PE X a l)(r:PE X b m){c:ju}{s:ak}{e:St}{H:Hp}{R:V->V->Hp->Prop}(I:ZF X c e H s)(h:l e H λx k=>m e k λy d=>R x y d){n:Type}{Q:n->ak->Prop}{f:ai->ai->Sem n}(t:∀ v u j x y d,ZF X c e d j->ZR x v->ZR y u->R x y d->aC (aB X.prog X.w) X.A (f v u) Q X.xe j):
  aC (aB X.prog X.w) X.A (aH a X.env) (λv g=>aC (aB X.prog X.w) X.A (aH b X.env) (λu i=>aC (aB X.prog X.w) X.A (f v u) Q X.xe i) X.xe g) X.xe s:=by
 refine Z2 (q c s e H _ I h) λv E x k o C z=>?_;refine Z2 (r c E e k _ o z) λu j y d p D B=>?_;exact t v u j x y d p C D B
inductive VB(i:Nat)(a:L2.St)(H:Hp)(Q:VK):Prop
 |mk(v:_)(_:a[i]? = some (some v))(_:Q v H)
def tC(v:V):TE:=λ_ H Q=>Q v H
def ZOw{i:Nat}{x:Str}{pos:Pos}(n:X.N[i]? = some x)(t:LH X.env.scope x)(j:(x==("__debug__" : Str))=false:=by decide)(g:(x==("__classdict__" : Str))=false:=by decide):PE X (.Name x pos) (VB i):=by
 intro f s w H Q I h;let⟨v,e,h⟩:=h;let⟨m,q,o⟩:=I.loc;let⟨u,r,l⟩:=o i x v n e t;let b:EP X f w Q u s:=⟨v,H,I,r,h⟩;rcases l with ⟨d,p⟩ | ⟨d,c,k,a⟩
 ·exact wpAny_Name (wpAny_loadName_local I.ok.kind d q p b) j
 ·rcases d with d | d
  ·exact wpAny_Name (wpAny_loadName_cell I.ok.kind d k a b) j
  ·exact wpAny_Name (wpAny_loadName_free I.ok.kind d k a b g) j
def ZJ{i j pos}:PE X (.Constant (.int i) j pos) (tC (.int i)):=λ_ _ _ H _ I h=>wpAny_Constant_int ⟨.int i,H,I.tok _,⟨_,Z⟩,h⟩
def Wm{b j pos}:PE X (.Constant (.bool b) j pos) (tC (.bl b)):=λ_ _ _ H _ I h=>Constant_bool ⟨.bl b,H,I,Z,h⟩
def IU{j pos}:PE X (.Constant .none j pos) (tC .non):=λ_ _ _ H _ I h=>Constant_none ⟨.non,H,I,Z,h⟩
def VP{x j pos}:PE X (.Constant (.str x) j pos) (tC (.str x)):=λ_ _ _ H _ I h=>Calls.Constant_str ⟨.str x,H,I.tok _,⟨_,Z⟩,h⟩
def Gl(X:Cx)(x:Str):Prop:=X.env.kindOf x=some .globalImplicit
def Pr{E:ja}{a:ju}{s:ak}{e:St}{H:Hp}{x:Str}{u:ai}{pos:Pos}{Q:ja}(I:ZF X a e H s)(c:Gl X x)(d:X.mg x=some u)(h:Q u s)(b:(x==("__debug__" : Str))=false:=by decide):aC (aB X.prog X.w) X.A (aH (.Name x pos) X.env) Q E s:=
 Calls.Name_function_global I.ok.kind c (Calls.loadGlobal_global (by rw[I.ok.glob];exact I.mod.glob.keeps I.bk) d h) b
def OW{E:ja}{a:ju}{s:ak}{j:St}{H:Hp}{x:Str}{u:ai}{pos:Pos}{Q:ja}(I:ZF X a j H s)(e:Gl X x)(f:X.mg x=none)(i:az x=some u)(h:Q u s)(g:x ≠ "__name__" :=by decide)(d:(x==("__debug__" : Str))=false:=by decide):aC (aB X.prog X.w) X.A (aH (.Name x pos) X.env) Q E s:=by
 let⟨k,b,c⟩:=I.mod.blt;exact Calls.Name_function_global I.ok.kind e (Calls.loadGlobal_builtin (by rw[I.ok.glob];exact I.mod.glob.keeps I.bk) f (by rw[I.ok.blt];exact b.keeps I.bk) ((c x g).trans i) h) d
def VD{x:Str}{v:V}{u:ai}{pos:Pos}(b:Gl X x)(c:X.mg x=some u)(r:ZR v u)(a:(x==("__debug__" : Str))=false:=by decide):PE X (.Name x pos) (tC v):=
 λ_ _ _ H _ I h=>Pr I b c ⟨v,H,I,r,h⟩ a
def Vd{x:Str}{v:V}{u:ai}{pos:Pos}(b:Gl X x)(c:X.mg x=none)(e:az x=some u)(r:ZR v u)(d:x ≠ "__name__" :=by decide)(a:(x==("__debug__" : Str))=false:=by decide):PE X (.Name x pos) (tC v):=
 λ_ _ _ H _ I h=>OW I b c e ⟨v,H,I,r,h⟩ d a
inductive ID(k:Int->Int->Hp->Prop)(x y:V)(a:Hp):Prop
 |mk(i j:_)(_:x=.int i)(_:y=.int j)(_:k i j a)
def BT(d e:TE)(k:Int->Int->Hp->Prop):St->Hp->Prop:=λa H=>d a H λx b=>e a b λy c=>ID k x y c
variable{a b:Expr}{ta tb:TE}{pos:Pos}
def PC(X:Cx)(g:CmpOp)(a b:Expr)(t:TE):Prop:=
 ∀(c:ju)(s:ak)(f:St)(H:Hp)(Q:VK),ZF X c f H s->t f H Q ->
  aC (aB X.prog X.w) X.A (aH a X.env) (λv d=>aC (aB X.prog X.w) X.A (aH b X.env) (λu e=>aC (aB X.prog X.w) X.A (aA g v u) (EP X c f Q) X.xe e) X.xe d) X.xe s
def ZLo(b:Expr){c:CmpOp}(h:c≠.In)(f:c≠.NotIn):behindInMarks c b=false:=by
 let d:(c==CmpOp.In)=false:=by cases c <;> first | rfl | exact absurd rfl h
 let e:(c==CmpOp.NotIn)=false:=by cases c <;> first | rfl | exact absurd rfl f
 cases b <;> simp[behindInMarks,d,e]
def On(p:Int->Int->Bool)(ta tb:TE):TE:=λd H Q=>BT ta tb (λi j c=>Q (.bl (p i j)) c) d H
abbrev tLt:TE->TE->TE:=On λi j=>decide (i<j)
abbrev Do:TE->TE->TE:=On λi j=>decide (j<i)
abbrev AM:TE->TE->TE:=On λi j=>decide (j<=i)
abbrev ZRZ:TE->TE->TE:=On λi j=>decide (i=j)
abbrev By:TE->TE->TE:=On λi j=>!decide (i=j)
def Nw{d:CmpOp}{p:Int->Int->Bool}(k:PE X a ta)(l:PE X b tb)(c:∀ (i j:Int) (t u:Tok) (Q:ja) (s:ak),Q (.bool (p i j)) s->aC (aB X.prog X.w) X.A (aA d (.int i t) (.int j u)) Q X.xe s):PC X d a b (On p ta tb):=by
 intro e s z H Q I h;refine bin k l I h λv u o x y f g m n q=>?_;let⟨i,j,rfl,rfl,q⟩:=q;let⟨t,rfl⟩:=m;let⟨r,rfl⟩:=n;exact c i j t r _ o ⟨.bl _,f,g,Z,q⟩
def Kx(c:PE X a ta)(d:PE X b tb):PC X .Lt a b (tLt ta tb):=Nw c d λ_ _ _ _ _ _ h=>lt_int h
def ZQx(c:PE X a ta)(d:PE X b tb):PC X .Gt a b (Do ta tb):=Nw c d λ_ _ _ _ _ _ h=>gt_int h
def ZQw(c:PE X a ta)(d:PE X b tb):PC X .GtE a b (AM ta tb):=Nw c d λ_ _ _ _ _ _ h=>ge_int h
def Oo(c:PE X a ta)(d:PE X b tb):PC X .Eq a b (ZRZ ta tb):=Nw c d λ_ _ _ _ _ _ h=>eq_int (by rw[pW];exact h)
def Lz(c:PE X a ta)(d:PE X b tb):PC X .NotEq a b (By ta tb):=Nw c d λ_ _ _ _ _ _ h=>ne_int (by rw[bne,pW];exact h)
def BA(ta:TE):TE:=λd H Q=>ta d H λx c=>Q (.bl (decide (x=.non))) c
def Du(ta:TE):TE:=λd H Q=>ta d H λx c=>Q (.bl (!decide (x=.non))) c
def ZR.none_iff{x:V}{v:ai}(r:ZR x v):(v==Value.none)=decide (x=.non):=by
 cases x with
 | non=>cases r;rfl
 | bl _=>cases r;rfl
 | int _=>let⟨t,rfl⟩:=r;rfl
 | str _=>let⟨t,rfl⟩:=r;rfl
 | byt _=>let⟨t,rfl⟩:=r;rfl
 | flt _=>let⟨t,rfl⟩:=r;rfl
 | ref _=>cases r;rfl
 | ty _=>cases r;rfl
def Hn{j d}(g:PE X a ta):PC X .Is a (.Constant .none j d) (BA ta):=by
 intro c s l H Q I h;refine Z2 (g c s l H _ I h) λv m x e f k i=>?_;exact Constant_none (is_none_gen ⟨.bl _,e,f,by rw[k.none_iff];rfl,i⟩)
def OP{j d}(g:PE X a ta):PC X .IsNot a (.Constant .none j d) (Du ta):=by
 intro c s l H Q I h;refine Z2 (g c s l H _ I h) λv m x e f k i=>?_;exact Constant_none (isnot_none_gen ⟨.bl _,e,f,by rw[k.none_iff];rfl,i⟩)
def tB(t:TE):TT:=λe H Q=>t e H λx d=>∃ c,x=.bl c/\Q c d
def Xb{g:CmpOp}{t:TE}(h:PC X g a b t)(f:behindInMarks g b=false:=by first | exact ZLo _ (by decide) (by decide) | rfl):PT X (.Compare a [g] [b] pos) (tB t):=by
 intro e s o H Q I l;refine wpAny_isTrue_Compare1 (Zy (h e s o H _ I l) λv p f=>Zy f λu r k=>Z2 k λc w x i j n m=>?_) f;let⟨d,rfl,q⟩:=m;cases n;exact wpAny_truthy_bool ⟨i,j,q⟩
def Y7{e:Expr}{t:TE}(h:PE X e t)(j:∀ c,isTrue e X.env c=(do let v<-c;standAt e.pos;holding [v] (truthy v)):=by intro _;rfl):PT X e (tB t):=by
 intro f s n H Q I k;refine isTrue_plain (Z2 (h f s n H _ I k) λv o x g i m l=>?_) (j _);let⟨d,rfl,q⟩:=l;cases m;exact wpAny_truthy_bool ⟨g,i,q⟩
variable{tA tB':TT}{rest:jC}
def Cw(t u:TT):TT:=λe H Q=>t e H λc d=>if c=true then u e d Q else Q false d
def B9(t u:TT):TT:=λe H Q=>t e H λc d=>if c=true then Q true d else u e d Q
def ZRY(t:TT):TT:=λe H Q=>t e H λc d=>Q (!c) d
def Ow(f:PT X a tA):PW X (.BoolOp .And [a] pos) tA:=by
 intro j d s g H Q I h;refine isTrue_and (Zy (f d s g H Q I h) λc i e=>?_)
 cases c with
 | true=>exact isTrue_and_nil e
 | false=>exact e
def OR(f:PT X a tA):PW X (.BoolOp .Or [a] pos) tA:=by
 intro j d s g H Q I h;refine isTrue_or (Zy (f d s g H Q I h) λc i e=>?_)
 cases c with
 | false=>exact isTrue_or_nil e
 | true=>exact e
def O5(j:PT X a tA)(k:PW X (.BoolOp .And (b::rest) pos) tB'):PW X (.BoolOp .And (a::b::rest) pos) (Cw tA tB'):=by
 intro m d s i H Q I h;refine isTrue_and (Zy (j d s i H _ I h) ?_);rintro c l ⟨e,f,g⟩
 cases c with
 | true=>exact k m d l i e Q f g
 | false=>exact⟨e,f,g⟩
def Pa(j:PT X a tA)(k:PW X (.BoolOp .Or (b::rest) pos) tB'):PW X (.BoolOp .Or (a::b::rest) pos) (B9 tA tB'):=by
 intro m d s i H Q I h;refine isTrue_or (Zy (j d s i H _ I h) ?_);rintro c l ⟨e,f,g⟩
 cases c with
 | true=>exact⟨e,f,g⟩
 | false=>exact k m d l i e Q f g
def Vv(f:PT X a tA):PT X (.UnaryOp .Not a pos) (ZRY tA):=by
 intro d s g H Q I h;exact isTrue_not (f d s g H (λc e=>Q (!c) e) I h)
inductive P9(tb:TE)(e:L2.St)(Q:VK)(x:V)(d:Hp):Prop
 |mk(c:_)(_:x=.bl c)(_:if c=true then tb e d Q else Q (.bl false) d)
def Cg(ta tb:TE):TE:=λc H Q=>ta c H λx d=>P9 tb c Q x d
inductive OU(Q:VK)(x:V)(d:Hp):Prop
 |mk(c:_)(_:x=.bl c)(_:Q (.bl (!c)) d)
def ZQY(ta:TE):TE:=λd H Q=>ta d H λx c=>OU Q x c
def Oc{e}{t:TE}(h:PE X a t):PE X (.BoolOp e [a] pos) t:=λc s f H Q I d=>BoolOp_one (h c s f H Q I d)
def Pc(j:PE X a ta)(k:PE X (.BoolOp .And (b::rest) pos) tb):PE X (.BoolOp .And (a::b::rest) pos) (Cg ta tb):=by
 intro d s i H Q I h;refine BoolOp_and (Z2 (j d s i H _ I h) λv m x f g l e=>?_);let⟨c,rfl,e⟩:=e;cases l;refine wpAny_truthy_bool ?_
 cases c with
 | true=>exact k d m i f Q g e
 | false=>exact⟨.bl false,f,g,Z,e⟩
def Ag(i:PE X a ta):PE X (.UnaryOp .Not a pos) (ZQY ta):=by
 intro d s k H Q I h;refine UnaryOp_ (Z2 (i d s k H _ I h) λv l x f g j e=>?_);let⟨c,rfl,e⟩:=e;cases j;exact not_of (wpAny_truthy_bool ⟨.bl (!c),f,g,Z,e⟩)
end
def ZH(K:zZ)(H:Hp)(a:aj)(c:jf):Prop:=
 Rd H a (.lst c) \/
  ∃(o:aI)(b:jx)(n:Nat),K.lookup a=some o/\o.cls=.type "list" /\ o.dict=none/\o.data=.seq b n/\b.size<=aq/\ZO c b.toList
def Zj(K:zZ)(H:Hp)(a:aj)(c:jf):Prop:=
 Rd H a (.tup c) \/
  ∃(o:aI)(b:jx)(n:Nat),K.lookup a=some o/\o.cls=.type "tuple" /\ o.data=.seq b n/\b.size<=aq/\ZO c b.toList
def Dz:ai->jg
 | .none=>some .non
 | .bool b=>some (.bl b)
 | .int i _=>some (.int i)
 | .str x _=>some (.str x)
 | .bytes b _=>some (.byt b)
 | .float b _=>some (.flt b)
 | .ref a=>some (.ref a)
 | .type n=>some (.ty n)
 | _=>none
def ZR.abs{x:V}{u:ai}(r:ZR x u):Dz u=some x:=by
 cases x with
 | non=>cases r;rfl
 | bl _=>cases r;rfl
 | int _=>let⟨t,rfl⟩:=r;rfl
 | str _=>let⟨t,rfl⟩:=r;rfl
 | byt _=>let⟨t,rfl⟩:=r;rfl
 | flt _=>let⟨t,rfl⟩:=r;rfl
 | ref _=>cases r;rfl
 | ty _=>cases r;rfl
def ZR.inj{x y:V}{u:ai}(r:ZR x u)(q:ZR y u):x=y:=zA.inj (r.abs.symm.trans q.abs)
def ZO.inj:∀{c a:jf}{b:je},ZO c b->ZO a b->c=a:=by intro _ a _ h g;induction h generalizing a with
 | nil=>cases g;rfl
 | cons r _ d=>cases g with
  | cons e f=>rw[r.inj e,d f]
section
variable{kh:ju}{σ:St}{H:Hp}{s:ak}{a:aj}{xs ys:jf}
def ZH.of{K:zZ}(h:H a=some (.lst xs)):ZH K H a xs:=.inl (.inl h)
def Zj.of{K:zZ}(h:H a=some (.tup xs)):Zj K H a xs:=.inl (.inl h)
def ZF.list(I:ZF X kh σ H s)(h:ZH X.K H a xs):∃ b:je,ZO xs b/\PlainL s.heap a b.toArray/\xs.length<=sizeLine:=by
 rcases h with h | ⟨o,b,n,f,c,d,g,i,r⟩
 ·let⟨z,b,n,r,e⟩:=h.ok I.hok;exact⟨b,r,⟨_,n,e,Z,Z,Z⟩,z⟩
 ·exists b.toList,r,⟨o,n,I.kIn a o f,c,d,by simpa using g⟩
  let e:=r.length;simp only[yM] at e
  lia
def ZF.tuple(I:ZF X kh σ H s)(h:Zj X.K H a xs):∃ b:je,ZO xs b/\IsTup s.heap a b.toArray/\xs.length<=sizeLine:=by
 rcases h with h | ⟨o,b,n,d,c,f,g,r⟩
 ·let⟨z,b,r,p⟩:=h.ok I.hok;exact⟨b,r,p,z⟩
 ·exists b.toList,r,⟨o,I.kIn a o d,c,n,by simpa using f⟩
  let e:=r.length;simp only[yM] at e
  lia
def ZF.list_inj(I:ZF X kh σ H s)(h:ZH X.K H a xs)(i:ZH X.K H a ys):xs=ys:=by
 let⟨c,r,⟨o,n,e,_,_,d⟩,_⟩:=I.list h;let⟨b,j,⟨l,k,g,_,_,f⟩,_⟩:=I.list i;rw[e] at g;cases g;rw[d] at f;injection f with d1 _;have:c=b:=by simpa using congrArg rN d1
 subst this;exact r.inj j
def ZF.tuple_inj(I:ZF X kh σ H s)(h:Zj X.K H a xs)(i:Zj X.K H a ys):xs=ys:=by
 let⟨c,r,⟨o,e,_,n,d⟩,_⟩:=I.tuple h;let⟨b,j,⟨l,g,_,k,f⟩,_⟩:=I.tuple i;rw[e] at g;cases g;rw[d] at f;injection f with d1 _;have:c=b:=by simpa using congrArg rN d1
 subst this;exact r.inj j
end
abbrev Cx.wish(X:Cx)(E:ja):Cx:={ X with xe:=E }
abbrev Cx.nox(X:Cx):Cx:=X.wish λ_ _=>False
def Cx.Ok.wish{X:Cx}(a:X.Ok)(E:ja):(X.wish E).Ok:=
 ⟨a.mod,a.kind,a.glob,a.blt,a.above,a.inj,a.has,a.cab,a.hd,a.frames,a.stk,a.exf,a.bs,a.bsz,a.noex,a.exfs,a.funs,a.frf⟩
def Cx.Ok.unwish{X:Cx}{E:ja}(a:(X.wish E).Ok):X.Ok:=
 ⟨a.mod,a.kind,a.glob,a.blt,a.above,a.inj,a.has,a.cab,a.hd,a.frames,a.stk,a.exf,a.bs,a.bsz,a.noex,a.exfs,a.funs,a.frf⟩
section
variable{kh:ju}{σ:St}{H:Hp}{s:ak}{E:ja}
def ZF.wish(I:ZF X kh σ H s)(E:ja):ZF (X.wish E) kh σ H s:=⟨I.ok.wish E,I.os,I.bare,I.base,I.loc,I.cell,I.free,I.freeC,I.pin,I.hok,I.len⟩
def ZF.unwish(I:ZF (X.wish E) kh σ H s):ZF X kh σ H s:=⟨I.ok.unwish,I.os,I.bare,I.base,I.loc,I.cell,I.free,I.freeC,I.pin,I.hok,I.len⟩
def SP.unwish{D:YJ}{f:Flow}{c:ak}(h:SP (X.wish E) kh D f c):SP X kh D f c:=by
 cases f with
 | next=>let⟨a,b,I,q⟩:=h;exact⟨a,b,I.unwish,q⟩
 | brk=>let⟨a,b,I,q⟩:=h;exact⟨a,b,I.unwish,q⟩
 | cont=>let⟨a,b,I,q⟩:=h;exact⟨a,b,I.unwish,q⟩
 | ret u=>let⟨v,a,b,I,r,q⟩:=h;exact⟨v,a,b,I.unwish,r,q⟩
def X7.nox{a:jI}{t:TS}(h:X7 X.nox a t):X7 X a t:=λkh s σ H D I b=>
 ae (h kh s σ H D (I.wish _) b) (λ_ _ q=>q.unwish) λ_ _ z=>False.elim z
end
section
variable{st:aD}{rest:jI}{t u:TS}{e:Expr}{te:TE}{pos:Pos}
def AZ:TS:=λD a H=>D.nx a H
def ZRg(t u:TS):TS:=λD a H=>t { D with nx:=u D } a H
def Z1:X7 X [] AZ:=λ_ _ a H _ I h=>wpAny_execs_nil ⟨a,H,I,h⟩
def ZN(g:PS X st t)(i:X7 X rest u):X7 X (st::rest) (ZRg t u):=by
 intro a s k H D I h;refine wpAny_execs_cons (Zy (g a s k H { D with nx:=u D } I h) λf j q=>?_)
 cases f with
 | next=>
  let⟨b,c,d,q⟩:=q;exact i a j b c D d q
 | ret v=>exact q
 | brk=>exact q
 | cont=>exact q
def ZS(b:PS X st t):X7 X [st] t:=by
 intro a s c H D I h;refine wpAny_execs_cons (Zy (b a s c H D I h) λf d q=>?_)
 cases f with
 | next=>exact wpAny_execs_nil q
 | ret v=>exact q
 | brk=>exact q
 | cont=>exact q
def ZF.quiet{a:ju}{b:St}{H:Hp}{s:ak}(I:ZF X a b H s):interactive X.env=false:=by simp[interactive,I.ok.kind]
def ZQv(te:TE):TS:=λD a H=>te a H λ_ b=>D.nx a b
def Wr(f:PE X e te)(g:swapsWith e none pos.line X.env=pure false:=by rfl):PS X (.Expr e pos) (ZQv te):=by
 intro a s b H D I h;exact wpAny_Expr_any (Z2 (f a s b H _ I h) λv k x c d j i=>⟨b,c,d,i⟩) I.quiet g
def N6(te:TE):TS:=λD a H=>te a H D.rt
def Zd(f:PE X e te):PS X (.Return (some e) pos) (N6 te):=by
 intro a s b H D I h;exact wpAny_Return_some (Z2 (f a s b H _ I h) λv j x c d i g=>⟨x,b,c,d,i,g⟩)
def ZRl(c:TT)(t u:TS):TS:=λD a H=>c a H λb d=>if b=true then t D a d else u D a d
def Zz{c:Expr}{a b:jI}{m:TT}(p:PT X c m)(n:X7 X a t)(o:X7 X b u):PS X (.If c a b pos) (ZRl m t u):=by
 intro f s g H D I h;refine wpAny_If (Zy (p f s g H _ I h) ?_);rintro d l ⟨i,j,k⟩
 cases d with
 | true=>exact n f l g i D j k
 | false=>exact o f l g i D j k
def Cf:TS:=λ_ _ _=>False
def OM{a:jI}:X7 X a Cf:=λ_ _ _ _ _ _ h=>h.elim
end
abbrev TG:=V->St->Hp->(St->Hp->Prop)->Prop
abbrev Oz:=jf->St->Hp->(St->Hp->Prop)->Prop
def PG(X:Cx)(a:Expr)(t:TG):Prop:=
 ∀(b:ju)(s:ak)(e:St)(H:Hp)(v:V)(u:ai)(Q:St->Hp->Prop),ZF X b e H s->ZR v u->t v e H Q ->
  aC (aB X.prog X.w) X.A (assign a X.env u) (λ_ f=>∃ c d,ZF X b c d f/\Q c d) X.xe s
def LL(X:Cx)(h:jC)(t:Oz):Prop:=
 ∀(a:ju)(s:ak)(f:St)(H:Hp)(e:jf)(d:je)(Q:St->Hp->Prop),ZF X a f H s->ZO e d->t e f H Q ->
  aC (aB X.prog X.w) X.A (assignInOrder ((assignEach h X.env).map (·.2)) d) (λ_ g=>∃ b c,ZF X a b c g/\Q b c) X.xe s
abbrev Kj:=V->V->V->Hp->(Hp->Prop)->Prop
def Ep(X:Cx)(t:Kj):Prop:=
 ∀(a:ju)(s:ak)(e:St)(H:Hp)(o i v:V)(d c u:ai)(Q:Hp->Prop),ZF X a e H s->ZR o d->ZR i c->ZR v u->t o i v H Q ->
  aC (aB X.prog X.w) X.A (setItem d c u) (λ_ f=>∃ b,ZF X a e b f/\Q b) X.xe s
abbrev Lj:=V->V->Hp->VK->Prop
def IL(X:Cx)(c:Operator)(t:Lj):Prop:=
 ∀(a:ju)(s:ak)(b:St)(H:Hp)(x y:V)(v u:ai)(Q:VK),ZF X a b H s->ZR x v->ZR y u->t x y H Q ->
  aC (aB X.prog X.w) X.A (inplaceOp c v u) (EP X a b Q) X.xe s
section
variable{pos:Pos}
def Qq(i:Nat):TG:=λv a H Q=>Q (a.set i (some v)) H
def O2{i:Nat}{x:Str}(c:X.N.Nodup)(e:X.N[i]? = some x)(f:OC X.env.scope x)(d:X.fn x=true\/X.env.scope.names.lookup x=some .local:=by first | exact .inl rfl | exact .inr rfl | assumption):PG X (.Name x pos) (Qq i):=by
 intro a s j H v u Q I r h;exact wpAny_assign_Name (Lx I c e f r (λg b=>⟨_,H,b,h⟩) d)
def Xx(i:Nat){x:Str}(a:X.N.Nodup)(c:X.N[i]? = some x:=by rfl)(d:OC X.env.scope x:=by exact Or.inl Z)(b:X.fn x=true\/X.env.scope.names.lookup x=some .local:=by first | exact .inl rfl | exact .inr rfl | assumption):PG X (.Name x pos) (Qq i):=O2 a c d b
def Ed:Oz:=λa b H Q=>a=[]/\Q b H
inductive QR(t:TG)(u:Oz)(c:jf)(d:L2.St)(H:Hp)(Q:L2.St->Hp->Prop):Prop
 |mk(v r:_)(_:c=v::r)(_:t v d H λa b=>u r a b Q)
def Of:LL X [] Ed:=by
 intro a s b H d c Q I r h;let⟨e,h⟩:=h;subst e;cases r;exact assignInOrder_nil ⟨b,H,I,h⟩
def UL{e:Expr}{b:jC}{t:TG}{u:Oz}(i:PG X e t)(j:LL X b u)(k:(assignEach (e::b) X.env).map (·.2)=assign e X.env::(assignEach b X.env).map (·.2):=by rfl):LL X (e::b) (QR t u):=by
 intro a s o H w p Q I r h;let⟨v,q,g,h⟩:=h;subst g
 cases r with
 | cons r m=>
  rw[k];refine assignInOrder_cons (Zy (i a s o H _ _ _ I r h) ?_);rintro _ n ⟨c,d,f,l⟩;exact j a n c d _ _ Q f m l
inductive Nd(K:zZ)(n:Nat)(t:Oz)(v:V)(c:L2.St)(H:Hp)(Q:L2.St->Hp->Prop):Prop
 |mk(a b:_)(_:v=.ref a)(_:Zj K H a b)(_:b.length=n)(_:t b c H Q)
def OA{d:jC}{k:Nat}{t:Oz}{n:Nat}(q:X.calm=true)(h:LL X d t)(x:(assignEach d X.env).length=n:=by rfl)(f:(assignEach d X.env).findIdx? (·.1)=none:=by rfl):PG X (.Tuple d k pos) (Nd X.K n t):=by
 intro c s j H v u Q I r g;let⟨a,C,m,y,w,g⟩:=g;subst m;cases r;let⟨B,i,z,D⟩:=I.tuple y;refine assign_Tuple_tuple (I.ok.hd q) z (by simp[x,<-w,i.length]) f λp A=>?_
 let l:ZF X c j H { s with heap:=p }:=I.kept (t':=s.toks) λb o e=>A b o (yW (zP e)) e;exact h c _ j H C _ Q l (by simpa using i) g
def ZRT(f e:TE)(t:Kj):TG:=λv a H Q=>f a H λo b=>e a b λi c=>t o i v c λd=>Q a d
def Jr{o i:Expr}{f e:TE}{t:Kj}(w:PE X o f)(q:PE X i e)(z:Ep X t)(p:∀ v,assign (.Subscript o i pos) X.env v=(do
   let b<-holding [v] (aH o X.env)
   let c<-holding [v,b] (aH i X.env)
   standAt pos
   holding [v,b,c] (setItem b c v)
   release [v,b,c] []):=by intro _;rfl):PG X (.Subscript o i pos) (ZRT f e t):=by
 intro a s d H v u Q I r h;rw[p];refine aa (af (Z2 (w a s d H _ I h) λb F x g l D A=>?_));refine aa (af (Z2 (q a F d g _ l A) λc G y j m E B=>?_));refine aa (wpAny_standAt (aa (af (Zy (z a G d j x y v b c u _ m D E r B) ?_))));rintro _ J ⟨k,n,C⟩;exact wpAny_release ⟨d,k,n,C⟩
def Jm(c:TE)(g:TG):TS:=λD a H=>c a H λx b=>g x a b D.nx
def Q8{b e:Expr}{c:TE}{g:TG}(k:PE X e c)(l:PG X b g)(m:swapsWithSole [b] e pos.line X.env=pure false:=by rfl)(n:swappedStores [b] e X.env=pure none:=by rfl)(j:(assignEach [b] X.env).map (·.2)=[assign b X.env]:=by rfl):PS X (.Assign [b] e pos) (Jm c g):=by
 intro a s d H D I h;refine wpAny_Assign_stores (Z2 (k a s d H _ I h) λv r x f i p o=>?_) m n;rw[j];exact Zy (l a r d f x v _ i p o) λ_ t q=>q
def Eh{i:Nat}{x:Str}{e:Expr}{c:TE}{a:Pos}(j:X.N.Nodup)(m:X.N[i]? = some x)(o:OC X.env.scope x)(k:PE X e c)(n:swapsWith e (some (.Name x a)) pos.line X.env=pure false:=by rfl)(l:X.fn x=true\/X.env.scope.names.lookup x=some .local:=by first | exact .inl rfl | exact .inr rfl | assumption):
  PS X (.Assign [.Name x a] e pos) (Jm c (Qq i)):=by
 intro b s r H D I h;refine wpAny_Assign_Name (Z2 (k b s r H _ I h) λv t y d f q p=>?_) n;exact Lx f j m o q (λu g=>⟨_,d,g,p⟩) l
def Zi(i:Nat){x:Str}{e:Expr}{b:TE}{a:Pos}(c:X.N.Nodup)(d:PE X e b)(g:X.N[i]? = some x:=by rfl)(j:OC X.env.scope x:=by exact Or.inl Z)(h:swapsWith e (some (.Name x a)) pos.line X.env=pure false:=by rfl)(f:X.fn x=true\/X.env.scope.names.lookup x=some .local:=by first | exact .inl rfl | exact .inr rfl | assumption):
  PS X (.Assign [.Name x a] e pos) (Jm b (Qq i)):=Eh c g j d h f
inductive Ln(i:Nat)(d:TE)(e:Lj)(D:YJ)(a:L2.St)(H:Hp):Prop
 |mk(x:_)(_:a[i]? = some (some x))(_:d a H λy b=>e x y b λz c=>D.nx (a.set i (some z)) c)
def EG{i:Nat}{x:Str}{e:Expr}{B:TE}{o:Operator}{C:Lj}{f:Pos}(O:X.N.Nodup)(t:X.N[i]? = some x)(n:OC X.env.scope x)(Q:PE X e B)(V:IL X o C)(R:X.fn x=true\/X.env.scope.names.lookup x=some .local:=by first | exact .inl rfl | exact .inr rfl | assumption):
  PS X (.AugAssign (.Name x f) o e pos) (Ln i B C):=by
 intro a s E H D I h;let⟨v,M,h⟩:=h;let⟨m,U,S⟩:=I.loc;let p:LH X.env.scope x:=by rcases n with k | k;exact .inl k;exact .inr (.inl k)
 let⟨u,r,l⟩:=S i x v t M p;refine wpAny_AugAssign_Name ?_;let q:aC (aB X.prog X.w) X.A (aH e X.env) (λw g=>aC (aB X.prog X.w) X.A (inplaceOp o u w) (λr j=>aC (aB X.prog X.w) X.A (storeName X.env x r) (λ_=>SP X a D .next) X.xe j) X.xe g) X.xe s:=by
  refine Z2 (Q a s E H _ I h) λw s1 y F J r1 W=>?_;refine Z2 (V a s1 E F v y u w _ J r r1 W) λz s2 zv G K r2 Y=>?_;exact Lx K O t n r2 (λs3 L=>⟨_,G,L,Y⟩) R
 rcases l with ⟨b,T⟩ | ⟨b,c,P,d⟩
 ·exact wpAny_loadName_local I.ok.kind b U T q
 ·rcases b with b | b
  ·exact wpAny_loadName_cell I.ok.kind b P d q
  ·rcases n with k | k
   ·have:X.env.scope.names.lookup x=some .free:=b;rw[k] at this;cases this
   ·have:X.env.scope.names.lookup x=some .free:=b;rw[k] at this;cases this
def FV(f:Int->Int->Int):Lj:=λx y H Q=>∃ i j,x=.int i/\y=.int j/\Q (.int (f i j)) H
def ZPV:IL X .Add (FV λi j=>i+j):=by
 intro a s g H x y v u Q I d e h;let⟨i,j,b,c,q⟩:=h;subst b;subst c;let⟨t,rfl⟩:=d;let⟨f,rfl⟩:=e;exact iadd_int ⟨.int _,H,I.tok _,⟨_,Z⟩,q⟩
def BX:IL X .Sub (FV λi j=>i-j):=by
 intro a s g H x y v u Q I d e h;let⟨i,j,b,c,q⟩:=h;subst b;subst c;let⟨t,rfl⟩:=d;let⟨f,rfl⟩:=e;exact isub_int ⟨.int _,H,I.tok _,⟨_,Z⟩,q⟩
inductive Oe(c:TT)(h:TS)(D:YJ)(a:L2.St)(H:Hp):Prop
 |mk(W:Nat->St->Hp->Prop)(_:∃ m,W m a H)(_:∀ m a H,W m a H->c a H λb f=>if b=true then ∃ N:St->Hp->Prop,(∀ d e,N d e->∃ g,g<m/\W g d e)/\h { D with nx:=N,ct:=N,bk:=D.nx } a f else D.nx a f)
def Qx{c:Expr}{g:jI}{F:TT}{E:TS}(C:PassesOwn (aB X.prog X.w) X.A X.env X.xe)(K:PT X c F)(J:X7 X g E):PS X (.While c g [] pos) (Oe F E):=by
 intro a s S H D I h;let⟨W,⟨L,Q⟩,j⟩:=h;refine wpAny_While (codeAny_whileLoop (λn M=>∃ k u,ZF X a k u M/\W n k u) ?_ L ⟨S,H,I,Q⟩);rintro n O ⟨e,x,G,R⟩;refine wpAny_passesOwn C (Zy (K a O e x _ G (j n e x R)) ?_);rintro b P ⟨y,z,l⟩
 cases b with
 | true=>
  let⟨N,B,l⟩:=l;rw[aO rfl];refine wpAny_passesOwn C (Zy (J a P e y _ z l) λf T m=>?_)
  cases f with
  | next=>
   let⟨d,i,o,r⟩:=m;let⟨q,p,t⟩:=B d i r;exact⟨q,p,d,i,o,t⟩
  | cont=>
   let⟨d,i,o,r⟩:=m;let⟨q,p,t⟩:=B d i r;exact⟨q,p,d,i,o,t⟩
  | brk=>exact m
  | ret v=>exact m
 | false=>
  rw[aM zW];exact wpAny_execs_nil ⟨e,y,z,l⟩
end
structure It where
 go:Nat->Hp->Prop
 yld:Nat->Hp->V->Hp->Prop
 stop:Nat->Hp->Prop
def VV(X:Cx)(a:ju)(H:Hp)(b:aj):Prop:=
 H b=none/\b≠X.env.locals/\b∉X.fs/\(b∈X.ex\/X.s₀.heap.objs.size<=b)/\(∀ x c,X.env.cells.lookup x=some c->c≠b)/\∀ p∈X.pn++a,p.1≠b
def ZF.fpOk{X:Cx}{a:ju}{i:St}{H f:Hp}{s:ak}{b:aj}(I:ZF X a i H s)(d:s.heap.objs.size<=b)(g:f b=none):VV X a f b:=by
 refine⟨g,uA (yY I.lt d),I.nofs d,.inr (zS I.sz d),λx c e z=>?_,λp h z=>?_⟩
 ·let⟨v,q⟩:=I.cell x c e;exact absurd (yY q.lt (by rw[z];exact d)) (wA _)
 ·exact absurd (yY (zP (I.pin p h).1) (by rw[z];exact d)) (wA _)
structure Uy(P:al)(w:ax)(K:zZ)(tg:Expr)(J:It)(fp:jE)(it:aj)(tn:Nat->aE->Prop):Prop where
 mem:it∈fp
 obj:∀ i h,tn i h->∀ b∈fp,∃ o,h.get? b=some o/\∀ v,o.data≠.cell v
 keep:∀ i h h',tn i h->(∀ b∈fp,∀ o,h.get? b=some o->h'.get? b=some o)->tn i h'
 item:∀(X:Cx),X.prog=P->X.w=w->X.K=K->X.calm=true->∀(i:Nat)(kh:ju)(s:ak)(σ:St)(H:Hp)(E:ja),ZF X kh σ H s->(∀ b∈fp,VV X kh H b)->tn i s.heap->J.go i H ->
  aC (aB P w) X.A (pyNext (.ref it)) (λr s1=>∃ u,r=some u /\
   aC (aB P w) X.A (letOwnedTupleGo tg (.ref it) u) (λ_ s2=>∃ x H',ZF X kh σ H' s2/\ZR x u/\J.yld i H x H'/\tn (i+1) s2.heap/\∀ b∈fp,H' b=none) E s1) E s
 done:∀(X:Cx),X.prog=P->X.w=w->X.K=K->X.calm=true->∀(i:Nat)(kh:ju)(s:ak)(σ:St)(H:Hp)(E:ja),ZF X kh σ H s->(∀ b∈fp,VV X kh H b)->tn i s.heap->J.stop i H ->
  aC (aB P w) X.A (pyNext (.ref it)) (λr s1=>r=none/\ZF X kh σ H s1) E s
 self:∀(A:ay)(i:Nat)(s:ak)(Q:ja)(E:ja),tn i s.heap->Q (.ref it) s->aC (aB P w) A (pyIter (.ref it)) Q E s
abbrev TI:=St->Hp->(It->Hp->Prop)->Prop
def Fa(X:Cx)(a:ju)(j:St)(i:Expr)(R:It->Hp->Prop)(d:ai)(g:ak):Prop:=
 ∃(f:aj)(e:jE)(h:Nat->aE->Prop)(J:It)(c:Hp),d=.ref f/\ZF X a j c g/\Uy X.prog X.w X.K i J e f h/\h 0 g.heap/\(∀ b∈e,VV X a c b)/\R J c
def PI(X:Cx)(e b:Expr)(f:TI):Prop:=
 ∀(a:ju)(s:ak)(c:St)(H:Hp)(R:It->Hp->Prop),ZF X a c H s->f c H R ->
  aC (aB X.prog X.w) X.A (aH b X.env) (λv d=>aC (aB X.prog X.w) X.A (pyIter v) (Fa X a c e R) X.xe d) X.xe s
def Mf{M:Model}{A:ay}{E:ja}{s:ak}{c:Expr}{b:aj}{u:ai}{o:aI}{n:String}{d:jx}{Q:Unit->ak->Prop}(i:s.heap.get? b=some o)(e:o.cls=.type n)(f:o.data=.fields d)(g:["enumerate","zip","dict_itemiterator","dict_reverseitemiterator","odict_iterator","itertools.zip_longest","itertools.pairwise"].contains n=false)(a:Q () s):aC M A (letOwnedTupleGo c (.ref b) u) Q E s:=by
 unfold letOwnedTupleGo;cases c <;> first
  | exact ad a
  | (cases u <;> first
    | exact ad a
    | (refine aa (wpAny_load i ?_);rw[e,f];show aC M A (if (["enumerate","zip","dict_itemiterator","dict_reverseitemiterator","odict_iterator","itertools.zip_longest","itertools.pairwise"].contains n&&d[0]? == some (rawInt _))=true then _ else _) Q E s;rw[aM (by intro h;rw[g,vN] at h;cases h)];exact ad a))
def NH(K:zZ)(a:aj):It:=
 ⟨λi H=>∃ b x,ZH K H a b/\b[i]? = some x,λi H x c=>c=H/\∀ b,ZH K H a b->b[i]? = some x,λi H=>∃ b,ZH K H a b/\b.length<=i⟩
def Ho(K:zZ)(a:aj):It:=
 ⟨λi H=>∃ b x,Zj K H a b/\b[i]? = some x,λi H x c=>c=H/\∀ b,Zj K H a b->b[i]? = some x,λi H=>∃ b,Zj K H a b/\b.length<=i⟩
def OI(b:Int)(n:Nat):It:=⟨λi _=>i<n,λi H x a=>a=H/\x=.int (b+i),λi _=>n<=i⟩
def Dw{P:al}{w:ax}{K:zZ}{tg:Expr}(a l:aj):Uy P w K tg (NH K a) [l] l (λi h=>h.IsListIter l a i) where
 mem:=by simp
 obj:=λi h f b j=>by
  let e:b=l:=by simpa using j
  subst e;let⟨o,e,c,d⟩:=f;exact⟨o,e,λv z=>by rw[d] at z;cases z⟩
 keep:=λi h n f k=>f.at λo e=>k l (by simp) o e
 item:=by
  intro X F J D O i g s Q H E I q f G;subst F J D;let⟨xs,x,r,L⟩:=G;let⟨M,N,p,Y⟩:=I.list r;let⟨u,U,ru⟩:=N.get L;let⟨t,y,T,A,B,C⟩:=q l (by simp)
  refine wpAny_pyNext_list_item f p.isList (x:=u) (by simpa using U) λn m sb=>?_
  let R:ZF X g Q H { s with heap:=n }:=I.turned (t':=s.toks) (λb o j e=>(sb.2 b j).trans e) t y A B C;let⟨o,e,c,d⟩:=id m;exact⟨u,Z,Mf (s:={ s with heap:=n }) e c d (by decide) ⟨x,H,R,ru,⟨Z,λys V=>by rw[I.list_inj V r];exact L⟩,m,λb j=>(q b j).1⟩⟩
 done:=by
  intro X F J D O i g s Q H E I q f G;subst F J D;let⟨xs,r,L⟩:=G;let⟨M,N,p,Y⟩:=I.list r;let⟨t,y,T,A,B,C⟩:=q l (by simp)
  let hl:=N.length;exact wpAny_pyNext_list_end (I.ok.hd O) f p.isList (by simp;lia) λn S=>⟨Z,I.turned (t':=s.toks) (λb o j e=>S b o j e) t y A B C⟩
 self:=λ_ _ _ _ _ f h=>wpAny_pyIter_listiter f h
def ZIQ{P:al}{w:ax}{K:zZ}{tg:Expr}(a l:aj):Uy P w K tg (Ho K a) [l] l (λi h=>h.IsTupleIter l a i) where
 mem:=by simp
 obj:=λi h f b j=>by
  let e:b=l:=by simpa using j
  subst e;let⟨o,e,c,d⟩:=f;exact⟨o,e,λv z=>by rw[d] at z;cases z⟩
 keep:=λi h q f k=>f.at λo e=>k l (by simp) o e
 item:=by
  intro X G L F O i g s Q H E I r f J;subst G L F;let⟨xs,x,t,M⟩:=J;let⟨m,N,p,Y⟩:=I.tuple t;let⟨u,U,ru⟩:=N.get M;let⟨y,A,T,B,C,D⟩:=r l (by simp)
  refine wpAny_pyNext_tuple_item f (show s.heap.IsTuple a m.toArray from p) (x:=u) (by simpa using U) λq n sb=>?_
  let R:ZF X g Q H { s with heap:=q }:=I.turned (t':=s.toks) (λb o j e=>(sb.2 b j).trans e) y A B C D;let⟨o,e,c,d⟩:=id n;exact⟨u,Z,Mf (s:={ s with heap:=q }) e c d (by decide) ⟨x,H,R,ru,⟨Z,λys V=>by rw[I.tuple_inj V t];exact M⟩,n,λb j=>(r b j).1⟩⟩
 done:=by
  intro X G L F O i g s Q H E I r f J;subst G L F;let⟨xs,t,M⟩:=J;let⟨m,N,p,Y⟩:=I.tuple t;let⟨y,A,T,B,C,D⟩:=r l (by simp)
  let hl:=N.length;exact wpAny_pyNext_tuple_end (I.ok.hd O) f (show s.heap.IsTuple a m.toArray from p) (by simp;lia) λq S=>⟨Z,I.turned (t':=s.toks) (λb o j e=>S b o j e) y A B C D⟩
 self:=λ_ _ _ _ _ f h=>wpAny_pyIter_tupleiter f h
def ZIG{P:al}{w:ax}{K:zZ}{Q:Expr}(c:aj)(m:Int)(n:Nat):Uy P w K Q (OI m n) [c] c (λi h=>IsRangeIter h c (m+(i:Nat) * 1) ((n:Int)-(i:Nat)) 1) where
 mem:=by simp
 obj:=λi h a b f=>by
  let e:b=c:=by simpa using f
  subst e;exact⟨_,a,λv z=>by
   let R:Data.fields _=Data.cell v:=z;cases R⟩
 keep:=λi h j a k=>k c (by simp) _ a
 item:=by
  intro X A D y B i d s G H E I l a C;subst A D y;let⟨p,q,M,r,u,x⟩:=l c (by simp)
  let W:=Walks.range (prog:=X.prog) (w:=X.w) (I.ok.hd B) c m 1 n;refine W.item i s _ _ C a λv j F N g O=>?_;let⟨t,rfl⟩:=N;let J:ZF X d G H { s with heap:=j,toks:=F }:=I.turned (λb o f e=>O b o (by simpa using f) e) p q r u x
  refine⟨_,Z,Mf (s:={ s with heap:=j,toks:=F }) (n:= "range_iterator") g Z Z (by decide) ⟨.int (m+i),H,J,⟨t,?_⟩,⟨Z,Z⟩,g,λb f=>(l b f).1⟩⟩
  rw[Int.mul_one]
 done:=by
  intro X A D y B i d s G H E I l a C;subst A D y;let⟨p,q,M,r,u,x⟩:=l c (by simp)
  exact wpAny_pyNext_range_end (I.ok.hd B) a (by have:n<=i:=C;lia) λj L=>⟨Z,I.turned (t':=s.toks) (λb o f e=>L b o f e) p q r u x⟩
 self:=λ_ _ _ _ _ a h=>wpAny_pyIter_rangeiter a h
section
variable{tg:Expr}
inductive OV(K:zZ)(R:It->Hp->Prop)(x:V)(b:Hp):Prop
 |mk(a:_)(_:x=.ref a)(_:∃ c,ZH K b a c)(_:R (NH K a) b)
def ZQ5(K:zZ)(b:TE):TI:=λc H R=>b c H λx a=>OV K R x a
inductive MB(K:zZ)(R:It->Hp->Prop)(x:V)(b:Hp):Prop
 |mk(a:_)(_:x=.ref a)(_:∃ c,Zj K b a c)(_:R (Ho K a) b)
def ZRP(K:zZ)(b:TE):TI:=λc H R=>b c H λx a=>MB K R x a
def WX{l:Expr}{g:TE}(k:PE X l g):PI X tg l (ZQ5 X.K g):=by
 intro c s u H R I h;refine Z2 (k c s u H _ I h) λv f x i d t r=>?_;let⟨a,e,⟨z,m⟩,q⟩:=r;subst e;cases t;let⟨n,y,p,w⟩:=d.list m;refine wpAny_pyIter_list p.isList ?_;refine⟨f.heap.objs.size,[f.heap.objs.size],_,_,i,Z,d.kept (t':=f.toks) λb o e=>zQ _ e,Dw a _,⟨_,yS _ Z,Z,Z⟩,λb j=>?_,q⟩;let e:b=f.heap.objs.size:=by simpa using j
 subst e;exact d.fpOk (zY _) (d.hok.fresh (zY _))
def Le{l:Expr}{i:TE}(m:PE X l i):PI X tg l (ZRP X.K i):=by
 intro c s u H R I h;refine Z2 (m c s u H _ I h) λv d x j f t r=>?_;let⟨a,e,⟨z,n⟩,q⟩:=r;subst e;cases t;let⟨g,y,p,w⟩:=f.tuple n;refine wpAny_pyIter_tuple (show d.heap.IsTuple a g.toArray from p) ?_;refine⟨d.heap.objs.size,[d.heap.objs.size],_,_,j,Z,f.kept (t':=d.toks) λb o e=>zQ _ e,ZIQ a _,⟨_,yS _ Z,Z,Z⟩,λb k=>?_,q⟩;let e:b=d.heap.objs.size:=by simpa using k
 subst e;exact f.fpOk (zY _) (f.hok.fresh (zY _))
def HM{d:ju}{h:St}{H:Hp}{s:ak}{R:It->Hp->Prop}{E:ja}{a c:Int}{t u v:Tok}{g:Nat}(I:ZF X d h H s)(k : -(2 ^ 62)<=a)(l:a<2 ^ 62)(m : -(2 ^ 62)<=c)(n:c<2 ^ 62)(q:R (OI a (c-a).toNat) H):aC (aB X.prog X.w) X.A (pyIter (.ref s.heap.objs.size)) (Fa X d h tg R) E { s with heap:=s.heap.push { cls:=.type "range",data:=.fields #[.int a t,.int c u,.int 1 v] },toks:=g }:=by
 refine wpAny_pyIter_range (IsRange.new ..) (small_one k l m n) ?_;let f:ZF X d h H { s with heap:=s.heap.push { cls:=.type "range",data:=.fields #[.int a t,.int c u,.int 1 v] },toks:=g }:=I.kept λb o e=>zQ _ e;refine⟨(s.heap.push { cls:=.type "range",data:=.fields #[.int a t,.int c u,.int 1 v] }).objs.size,[(s.heap.push { cls:=.type "range",data:=.fields #[.int a t,.int c u,.int 1 v] }).objs.size],_,_,H,Z,
  f.kept (t':=g) λb o e=>zQ _ e,ZIG _ a (c-a).toNat,?_,λb p=>?_,q⟩
 ·let i:a+((0:Nat):Int) * 1=a:=by simp
  let j:(((c-a).toNat:Nat):Int)-((0:Nat):Int)=Builtin.Range.rangeSize a c 1:=by rw[rangeSize_one];split <;> lia
  show IsRangeIter _ _ (a+((0:Nat):Int) * 1) ((((c-a).toNat:Nat):Int)-((0:Nat):Int)) 1;rw[i,j];exact yS _ Z
 ·let e:b=(s.heap.push { cls:=.type "range",data:=.fields #[.int a t,.int c u,.int 1 v] }).objs.size:=by simpa using p
  subst e;exact f.fpOk (zY _) (f.hok.fresh (zY _))
inductive P4(R:It->Hp->Prop)(b:jf)(a:Hp):Prop
 |mk(j:Int)(_:b=[.int j])(_ : -(2 ^ 62)<=j)(_:j<2 ^ 62)(_:R (OI 0 j.toNat) a)
def ZQ1(b:TA):TI:=λd H R=>b d H λc a=>P4 R c a
inductive OB(R:It->Hp->Prop)(b:jf)(a:Hp):Prop
 |mk(i j:Int)(_:b=[.int i,.int j])(_ : -(2 ^ 62)<=i/\i<2 ^ 62 /\ -(2 ^ 62)<=j/\j<2 ^ 62)(_:R (OI i (j-i).toNat) a)
def Ae(b:TA):TI:=λd H R=>b d H λc a=>OB R c a
def P1{a:Expr}{d:TA}{p pos:Pos}(i:Gl X "range")(k:X.mg "range" = none)(g:PA X [a] d)(l:ar [a] X.env=[(false,aH a X.env)]:=by rfl):PI X tg (.Call (.Name "range" p) [a] [] pos) (ZQ1 d):=by
 intro b s u H R I h;refine Call_ (OW I i k boot_range (PyProof.Rows.callWith_type1 (Z2 (g pos b s u H _ I h) λx w y v f n c=>?_) l rfl));let⟨j,e,c,m,q⟩:=c;subst e
 cases n with
 | cons r o=>
  cases o;let⟨t,rfl⟩:=r;exact call_range_1 (HM f ∅ ∅ c m (by simpa using q))
def K7{a b:Expr}{k:TA}{p pos:Pos}(n:Gl X "range")(o:X.mg "range" = none)(m:PA X [a,b] k)(u:ar [a,b] X.env=[(false,aH a X.env),(false,aH b X.env)]:=by rfl)(c:ar [b] X.env=[(false,aH b X.env)]:=by rfl):
  PI X tg (.Call (.Name "range" p) [a,b] [] pos) (Ae k):=by
 intro d s A H R I h;refine Call_ (OW I n o boot_range (PyProof.Rows.callWith_type1 (Z2 (m pos d s A H _ I h) λE C F B l z f=>?_) (by rw[u,c]) (by rw[c];rfl)))
 let⟨i,j,e,⟨f,v,w,x⟩,q⟩:=f;subst e
 cases z with
 | cons r g=>
  cases g with
  | cons y g=>
   cases g;let⟨t,rfl⟩:=r;let⟨D,rfl⟩:=y;exact call_range_2 (HM l f v w x q)
def ZRi(k:TI)(g:TG)(j:TS):TS:=λD a H=>k a H λJ f=>∃ W:Nat->Nat->St->Hp->Prop,(∃ m,W 0 m a f)/\∀ i m a H,W i m a H ->
 (J.stop i H/\D.nx a H)\/(J.go i H/\∃ N:St->Hp->Prop,(∀ c b,N c b->∃ e,e<m/\W (i+1) e c b)/\∀ x b,J.yld i H x b->g x a b λd h=>j { D with nx:=N,ct:=N,bk:=D.nx } d h)
def Nf(a:jE)(h:aE):ju:=a.filterMap λb=>(h.get? b).map λo=>(b,o)
def M4{a:jE}{h:aE}{b:aj}{o:aI}(c:b∈a)(e:h.get? b=some o):(b,o)∈Nf a h:=tM.mpr ⟨b,c,by rw[e];rfl⟩
def AH{a:jE}{h:aE}{p:aj×aI}(f:p∈Nf a h):p.1∈a/\h.get? p.1=some p.2:=by
 let⟨b,d,e⟩:=tM.mp f
 cases q:h.get? b with
 | none=>rw[q] at e;cases e
 | some o=>
  rw[q] at e;let c:(b,o)=p:=zA.inj e;subst c;exact⟨d,q⟩
def ZF.pinned{a:ju}{h:St}{H:Hp}{s:ak}{c:jE}(I:ZF X a h H s)(l:∀ b∈c,VV X a H b)(m:∀ b∈c,∃ o,s.heap.get? b=some o/\∀ v,o.data≠.cell v):ZF X (a++Nf c s.heap) h H s:=
 I.pins_of λp n=>(zB.mp n).elim (λz=>I.pin p (yL _ z)) λz=>by
  let⟨g,e⟩:=AH z;let⟨i,j,k,_⟩:=l p.1 g;let⟨o,f,d⟩:=m p.1 g;rw[e] at f;cases f;exact⟨e,i,j,k,d⟩
def ZF.unpinned{a d:ju}{b:St}{H:Hp}{s:ak}(I:ZF X (a++d) b H s):ZF X a b H s:=I.pins_of λp c=>I.pin p (yL _ (xU _ c))
def U8{q:Expr}{C:jI}{wi:TI}{g:TG}{tb:TS}{pos:Pos}(L:PassesOwn (aB X.prog X.w) X.A X.env X.xe)(hc:X.calm=true)(hi:PI X tg q wi)(hg:PG X tg g)(p:X7 X C tb)(hs:∀ x,foldedSetIterable q X.env x=pure x:=by intro _;rfl):PS X (.For tg q C [] pos) (ZRi wi g tb):=by
 intro a s σ H D I h;refine wpAny_For (Zy (hi a s σ H _ I h) λv s1 h1=>Zy h1 λa2 s2 h2=>?_) hs;let⟨it,G,tn,J,H2,e,I2,T,a0,f2,W,⟨m0,w0⟩,Q⟩:=h2;subst e;let t:∀{B:Hp},(∀ b∈G,B b=none)->∀ b∈G,VV X a B b:=λhn b p=>⟨hn b p,(f2 b p).2⟩;refine codeAny_forLoop_any (λn s'=>∃ i y B,ZF X a y B s'/\tn i s'.heap/\(∀ b∈G,B b=none)/\W i n y B) ?_ m0 ⟨0,σ,H2,I2,a0,λb p=>(f2 b p).1,w0⟩;rintro n s3 ⟨i,z,R,I3,O,K,w3⟩;rcases Q i n z R w3 with ⟨P,qn⟩ | ⟨go,N,hN,step⟩
 ·refine wpAny_passesOwn L (Zy (T.done X rfl rfl rfl hc i a s3 z R X.xe I3 (t K) O P) ?_);rintro r s4 ⟨V,I4⟩;subst V;exact wpAny_execs_nil ⟨z,R,I4,qn⟩
 ·refine wpAny_passesOwn L (Zy (T.item X rfl rfl rfl hc i a s3 z R X.xe I3 (t K) O go) ?_);rintro r s4 ⟨u,V,h4⟩;subst V;refine wpAny_passesOwn L (Zy h4 ?_);rintro _ s5 ⟨x,H5,I5,r5,y5,F,U⟩;let S:=I5.pinned (t U) (T.obj _ _ F);refine wpAny_passesOwn L (Zy (hg _ s5 z H5 x u _ S r5 (step x H5 y5)) ?_);rintro _ s6 ⟨a1,H6,I6,q6⟩;refine wpAny_passesOwn L (Zy (p _ s6 a1 H6 _ I6 q6) λf Y E=>?_);let l:∀{c:St}{j:Hp},ZF X (a++Nf G s5.heap) c j Y->N c j->∃ m,m<n/\∃ i y B,ZF X a y B Y/\tn i Y.heap/\(∀ b∈G,B b=none)/\W i m y B:=fun{c j} k M=>by
   let⟨m',hm,w7⟩:=hN c j M;refine⟨m',hm,i+1,c,j,k.unpinned,T.keep _ _ _ F λb p o e=>(k.pin (b,o) (yL _ (yL _ (M4 p e)))).1,λb p=>?_,w7⟩;let⟨o,e,d⟩:=T.obj _ _ F b p;exact(k.pin (b,o) (yL _ (yL _ (M4 p e)))).2.1
  cases f with
  | next=>let⟨c,j,k,M⟩:=E;exact l k M
  | cont=>let⟨c,j,k,M⟩:=E;exact l k M
  | brk=>let⟨c,j,k,E⟩:=E;exact⟨c,j,k.unpinned,E⟩
  | ret v=>let⟨x7,c,j,k,r7,E⟩:=E;exact⟨x7,c,j,k.unpinned,r7,E⟩
end
def N1{K:zZ}{a:aj}{xs:jf}{g:TG}{n:TS}{D:YJ}{b:St}{H:Hp}(c:Nat->St->Hp->Prop)(o:c 0 b H)(t:∀ i b H,i<=xs.length->c i b H->ZH K H a xs)(u:∀ i x b H,xs[i]? = some x->c i b H->g x b H λh k=>n { D with nx:=c (i+1),ct:=c (i+1),bk:=D.nx } h k)(r:∀ b H,c xs.length b H->D.nx b H):
  ∃ W:Nat->Nat->St->Hp->Prop,(∃ m,W 0 m b H)/\∀ i m b H,W i m b H ->
   ((NH K a).stop i H/\D.nx b H)\/((NH K a).go i H/\∃ N:St->Hp->Prop,(∀ f d,N f d->∃ l,l<m/\W (i+1) l f d)/\∀ x d,(NH K a).yld i H x d->g x b d λh k=>n { D with nx:=N,ct:=N,bk:=D.nx } h k):=by
 exists λi m b H=>m=xs.length-i/\i<=xs.length/\c i b H,⟨xs.length,by simp,zN _,o⟩
 rintro i m b H ⟨rfl,s,p⟩;let q:=t i b H s p;by_cases j:i<xs.length
 ·refine .inr ⟨⟨xs,xs[i],q,by simp[j]⟩,c (i+1),λf d v=>⟨xs.length-(i+1),by exact uL ‹_› (wS _),Z,j,v⟩,λx d y=>?_⟩
  let⟨e,y⟩:=y;subst e;exact u i x b _ (y xs q) p
 ·let e:i=xs.length:=∅
  subst e;exact .inl ⟨⟨xs,q,zY _⟩,r b H p⟩
def OJ{lo:Int}{n:Nat}{g:TG}{l:TS}{D:YJ}{a:St}{H:Hp}(c:Nat->St->Hp->Prop)(o:c 0 a H)(r:∀ i a H,i<n->c i a H->g (.int (lo+i)) a H λh j=>l { D with nx:=c (i+1),ct:=c (i+1),bk:=D.nx } h j)(q:∀ a H,c n a H->D.nx a H):
  ∃ W:Nat->Nat->St->Hp->Prop,(∃ m,W 0 m a H)/\∀ i m a H,W i m a H ->
   ((OI lo n).stop i H/\D.nx a H)\/((OI lo n).go i H/\∃ N:St->Hp->Prop,(∀ f b,N f b->∃ k,k<m/\W (i+1) k f b)/\∀ x b,(OI lo n).yld i H x b->g x a b λh j=>l { D with nx:=N,ct:=N,bk:=D.nx } h j):=by
 exists λi m a H=>m=n-i/\i<=n/\c i a H,⟨n,by simp,zN _,o⟩
 rintro i m a H ⟨rfl,t,p⟩;by_cases d:i<n
 ·refine .inr ⟨d,c (i+1),λf b s=>⟨n-(i+1),by exact uL ‹_› (wS _),Z,d,s⟩,λx b y=>?_⟩
  let⟨e,y⟩:=y;subst e y;exact r i a _ d p
 ·let e:i=n:=∅
  subst e;exact .inl ⟨zY _,q a H p⟩
abbrev R2:=V->V->Hp->VK->Prop
def XH(X:Cx)(f:ai->ai->Sem ai)(r:R2):Prop:=
 ∀(a:ju)(s:ak)(b:St)(H:Hp)(x y:V)(v u:ai)(Q:VK),ZF X a b H s->ZR x v->ZR y u->r x y H Q ->
  aC (aB X.prog X.w) X.A (f v u) (EP X a b Q) X.xe s
def Im(X:Cx)(f:ai->Sem ai)(r:V->Hp->VK->Prop):Prop:=
 ∀(a:ju)(s:ak)(b:St)(H:Hp)(x:V)(v:ai)(Q:VK),ZF X a b H s->ZR x v->r x H Q ->
  aC (aB X.prog X.w) X.A (f v) (EP X a b Q) X.xe s
def UN(X:Cx)(f:ai)(r:jf->Hp->VK->Prop):Prop:=
 ∀(a:ju)(s:ak)(d:St)(H:Hp)(c:jf)(b:je)(Q:VK),ZF X a d H s->ZO c b->r c H Q ->
  aC (aB X.prog X.w) X.A (call f b) (EP X a d Q) X.xe s
def Pq(r:R2)(d e:TE):TE:=λa H Q=>d a H λx b=>e a b λy c=>r x y c Q
def tUn(r:V->Hp->VK->Prop)(b:TE):TE:=λc H Q=>b c H λx a=>r x a Q
inductive rI(C:Int->Int->Prop)(g:Int->Int->V)(x y:V)(H:Hp)(Q:VK):Prop
 |mk(i j:_)(_:x=.int i)(_:y=.int j)(_:C i j)(_:Q (g i j) H)
inductive Pk(g:Int->Int->V)(x y:V)(H:Hp)(Q:VK):Prop
 |mk(i j:_)(_:x=.int i)(_:y=.int j)(_:Q (g i j) H)
inductive rU(g:Int->V)(x:V)(H:Hp)(Q:VK):Prop
 |mk(i:_)(_:x=.int i)(_:Q (g i) H)
section
variable{a b c:Expr}{ta tb tc:TE}{pos:Pos}
def Kn(o:PE X a ta)(p:PE X b tb){d:ju}{s:ak}{g:St}{H:Hp}{R:V->V->Hp->Prop}(I:ZF X d g H s)(h:ta g H λx l=>tb g l λy e=>R x y e){Q:ja}{f:ai->ai->Sem ai}(q:∀ v u k x y e,ZF X d g e k->ZR x v->ZR y u->R x y e->aC (aB X.prog X.w) X.A (f v u) Q X.xe k):
  aC (aB X.prog X.w) X.A (aH a X.env) (λv i=>aC (aB X.prog X.w) X.A (aH b X.env) (λu j=>aC (aB X.prog X.w) X.A (f v u) Q X.xe j) X.xe i) X.xe s:=by
 refine Z2 (o d s g H _ I h) λv C x l m z r=>?_;refine Z2 (p d C g l _ m r) λu k y e n B t=>?_;exact q v u k x y e n z B t
def Zu{e:Operator}{r:R2}(k:XH X (binaryOp e) r)(i:PE X a ta)(j:PE X b tb):PE X (.BinOp a e b pos) (Pq r ta tb):=by
 intro d s o H Q I h;exact wpAny_BinOp (Kn i j I h λv u n x y f g l m q=>k d n o f x y v u Q g l m q)
def Q1{e:UnaryOp}{r:V->Hp->VK->Prop}(k:Im X (unaryOp e) r)(j:PE X a ta):PE X (.UnaryOp e a pos) (tUn r ta):=by
 intro d s f H Q I h;exact UnaryOp_ (Z2 (j d s f H _ I h) λv n x g i m l=>k d n f g x v Q i m l)
def Nz{f:ai->ai->Sem ai}{C:Int->Int->Prop}{g:Int->Int->Int}(d:∀ (i j:Int) (t u:Tok) (s:ak) (Q:ja) (E:ja),C i j->Q (.int (g i j) s.toks) { s with toks:=s.toks+1 }->aC (aB X.prog X.w) X.A (f (.int i t) (.int j u)) Q E s):
  XH X f (rI C λi j=>.int (g i j)):=by
 intro e s o H x y v u Q I l m h;let⟨i,j,rfl,rfl,k,q⟩:=h;let⟨t,rfl⟩:=l;let⟨n,rfl⟩:=m;exact d i j t n s _ _ k ⟨.int (g i j),H,I.tok _,⟨_,Z⟩,q⟩
def Fh{f:ai->ai->Sem ai}{g:Int->Int->Int}(d:∀ (i j:Int) (t u:Tok) (s:ak) (Q:ja) (E:ja),Q (.int (g i j) s.toks) { s with toks:=s.toks+1 }->aC (aB X.prog X.w) X.A (f (.int i t) (.int j u)) Q E s):
  XH X f (Pk λi j=>.int (g i j)):=by
 intro e s n H x y v u Q I k l h;let⟨i,j,rfl,rfl,q⟩:=h;let⟨t,rfl⟩:=k;let⟨m,rfl⟩:=l;exact d i j t m s _ _ ⟨.int (g i j),H,I.tok _,⟨_,Z⟩,q⟩
def Li{f:ai->ai->Sem ai}{g:Int->Int->Bool}(d:∀ (i j:Int) (t u:Tok) (s:ak) (Q:ja) (E:ja),Q (.bool (g i j)) s->aC (aB X.prog X.w) X.A (f (.int i t) (.int j u)) Q E s):
  XH X f (Pk λi j=>.bl (g i j)):=by
 intro e s n H x y v u Q I k l h;let⟨i,j,rfl,rfl,q⟩:=h;let⟨t,rfl⟩:=k;let⟨m,rfl⟩:=l;exact d i j t m s _ _ ⟨.bl (g i j),H,I,Z,q⟩
def BE(i j:Int):Prop:=0<j/\j<1073741824
def ZRb(i j:Int):Prop:=0<=j/\j<=1000000/\i.natAbs<2 ^ 64
def Q6(i j:Int):Prop:=(-(2 ^ 64)<i/\i<2 ^ 64)\/(-(2 ^ 64)<j/\j<2 ^ 64)
def Q6.ok{i j:Int}(h:Q6 i j):IntMulOk i j:=by
 rcases h with ⟨d,e⟩ | ⟨d,e⟩
 ·exact .of_left (intBits_le_64 d e)
 ·exact .of_right (intBits_le_64 d e)
def Wf:XH X (binaryOp .Add) (Pk λi j=>.int (i+j)):=Fh λ_ _ _ _ _ _ _ q=>add_int q
def V3:XH X (binaryOp .Sub) (Pk λi j=>.int (i-j)):=Fh λ_ _ _ _ _ _ _ q=>sub_int q
def Po:XH X (binaryOp .Mult) (rI Q6 λi j=>.int (i * j)):=Nz λ_ _ _ _ _ _ _ d q=>mul_int q d.ok
def Lf:XH X (binaryOp .FloorDiv) (rI BE λi j=>.int (i / j)):=Nz λi j _ _ _ _ _ d q=>by
 let e:(0:Int)<j:=d.1;let f:j<1073741824:=d.2;exact floordiv_int ∅ (by rw[qH i ∅];exact q) (.inl (PyProof.noPylong_small ∅))
def Qu:XH X (binaryOp .Mod) (rI (λ_ j=>0<j) λi j=>.int (i % j)):=Nz λi j _ _ _ _ _ d q=>by
 let e:(0:Int)<j:=d;exact mod_int' ∅ (by rw[Int.fmod_eq_emod_of_nonneg i ∅];exact q)
def Mz:XH X (binaryOp .Pow) (rI ZRb λi j=>.int (i ^ j.toNat)):=Nz λ_ _ _ _ _ _ _ d q=>pow_int_small d.1 d.2.1 d.2.2 q
def Ch{f:ai->Sem ai}{g:Int->Int}(d:∀ (i:Int) (t:Tok) (s:ak) (Q:ja) (E:ja),Q (.int (g i) s.toks) { s with toks:=s.toks+1 }->aC (aB X.prog X.w) X.A (f (.int i t)) Q E s):
  Im X f (rU λi=>.int (g i)):=by
 intro e s k H x v Q I j h;let⟨i,rfl,q⟩:=h;let⟨t,rfl⟩:=j;exact d i t s _ _ ⟨.int (g i),H,I.tok _,⟨_,Z⟩,q⟩
def Qo:Im X (unaryOp .USub) (rU λi=>.int (-i)):=Ch λ_ _ _ _ _ q=>neg_int q
end
def GS:V->V->Bool
 | .non,.non=>true | .non,.int _=>true | .int _,.non=>true | .non,.bl _=>true | .bl _,.non=>true | .non,.str _=>true | .str _,.non=>true
 | .int _,.int _=>true | .bl _,.bl _=>true | .str _,.str _=>true | .byt _,.byt _=>true
 | .int _,.str _=>true | .str _,.int _=>true | .bl _,.str _=>true | .str _,.bl _=>true
 | _,_=>false
def rEq:R2:=λx y H Q=>GS x y=true/\Q (.bl (decide (x=y))) H
def D9:R2:=λx y H Q=>GS x y=true/\Q (.bl (!decide (x=y))) H
def Gh{i j:Int}:decide (V.int i=V.int j)=(i==j):=by
 rw[vG];simp
def HC{i j:Bool}:decide (V.bl i=V.bl j)=(i==j):=by
 rw[vG];simp
def GU{i j:Str}:decide (V.str i=V.str j)=(i==j):=by
 rw[vG];simp
def E6{i j:Array UInt8}:decide (V.byt i=V.byt j)=(i.toList==j.toList):=by
 rw[vG];cases i;cases j;simp
section
variable{a b c:Expr}{ta tb tc:TE}{pos:Pos}
def Yv{d:ju}{g:St}{H:Hp}{s:ak}{Q:VK}{k f:Bool}(I:ZF X d g H s)(q:Q (.bl k) H)(e:k=f):EP X d g Q (.bool f) s:=by
 subst e;exact⟨.bl k,H,I,Z,q⟩
def Vb:XH X (aA .Eq) rEq:=by
 intro k s l H x y v u Q I g d h;let⟨f,q⟩:=h
 cases x with
 | non=>
  cases g
  cases y with
  | non=>cases d;exact PySem.EqNone.eq_none_none (Yv I q (by simp))
  | bl j=>cases d;exact PySem.EqNone.eq_none_bool (Yv I q (by simp))
  | int j=>let⟨e,rfl⟩:=d;exact PySem.EqNone.eq_none_int (Yv I q (by simp))
  | str j=>let⟨e,rfl⟩:=d;exact PySem.EqNone.eq_none_str (Yv I q (by simp))
  | _=>exact absurd (show false=true from f) zW
 | bl i=>
  cases g
  cases y with
  | non=>cases d;exact PySem.EqNone.eq_bool_none (Yv I q (by simp))
  | bl j=>cases d;exact eq_bool (Yv I q HC)
  | str j=>let⟨e,rfl⟩:=d;exact PySem.EqMixed.eq_bool_str (Yv I q (by simp))
  | _=>exact absurd (show false=true from f) zW
 | int i=>
  let⟨t,rfl⟩:=g
  cases y with
  | non=>cases d;exact PySem.EqNone.eq_int_none (Yv I q (by simp))
  | int j=>let⟨e,rfl⟩:=d;exact eq_int (Yv I q Gh)
  | str j=>let⟨e,rfl⟩:=d;exact PySem.EqMixed.eq_int_str (Yv I q (by simp))
  | _=>exact absurd (show false=true from f) zW
 | str i=>
  let⟨t,rfl⟩:=g
  cases y with
  | non=>cases d;exact PySem.EqNone.eq_str_none (Yv I q (by simp))
  | bl j=>cases d;exact PySem.EqMixed.eq_str_bool (Yv I q (by simp))
  | int j=>let⟨e,rfl⟩:=d;exact PySem.EqMixed.eq_str_int (Yv I q (by simp))
  | str j=>let⟨e,rfl⟩:=d;exact eq_str (Yv I q GU)
  | _=>exact absurd (show false=true from f) zW
 | byt i=>
  let⟨t,rfl⟩:=g
  cases y with
  | byt j=>let⟨e,rfl⟩:=d;exact PySem.W.eq_bytes (Yv I q E6)
  | _=>exact absurd (show false=true from f) zW
 | _=>cases y <;> exact absurd (show false=true from f) zW
def Aw:XH X (aA .NotEq) D9:=by
 intro k s l H x y v u Q I g d h;let⟨f,q⟩:=h
 cases x with
 | non=>
  cases g
  cases y with
  | non=>cases d;exact PySem.EqNone.ne_none_none (Yv I q (by simp))
  | bl j=>cases d;exact PySem.EqNone.ne_none_bool (Yv I q (by simp))
  | int j=>let⟨e,rfl⟩:=d;exact PySem.EqNone.ne_none_int (Yv I q (by simp))
  | str j=>let⟨e,rfl⟩:=d;exact PySem.EqNone.ne_none_str (Yv I q (by simp))
  | _=>exact absurd (show false=true from f) zW
 | bl i=>
  cases g
  cases y with
  | non=>cases d;exact PySem.EqNone.ne_bool_none (Yv I q (by simp))
  | bl j=>cases d;exact ne_bool (Yv I q (congrArg not HC))
  | str j=>let⟨e,rfl⟩:=d;exact PySem.EqMixed.ne_bool_str (Yv I q (by simp))
  | _=>exact absurd (show false=true from f) zW
 | int i=>
  let⟨t,rfl⟩:=g
  cases y with
  | non=>cases d;exact PySem.EqNone.ne_int_none (Yv I q (by simp))
  | int j=>let⟨e,rfl⟩:=d;exact ne_int (Yv I q (congrArg not Gh))
  | str j=>let⟨e,rfl⟩:=d;exact PySem.EqMixed.ne_int_str (Yv I q (by simp))
  | _=>exact absurd (show false=true from f) zW
 | str i=>
  let⟨t,rfl⟩:=g
  cases y with
  | non=>cases d;exact PySem.EqNone.ne_str_none (Yv I q (by simp))
  | bl j=>cases d;exact PySem.EqMixed.ne_str_bool (Yv I q (by simp))
  | int j=>let⟨e,rfl⟩:=d;exact PySem.EqMixed.ne_str_int (Yv I q (by simp))
  | str j=>let⟨e,rfl⟩:=d;exact ne_str (Yv I q (congrArg not GU))
  | _=>exact absurd (show false=true from f) zW
 | byt i=>
  let⟨t,rfl⟩:=g
  cases y with
  | byt j=>let⟨e,rfl⟩:=d;exact PySem.W.ne_bytes (Yv I q (congrArg not E6))
  | _=>exact absurd (show false=true from f) zW
 | _=>cases y <;> exact absurd (show false=true from f) zW
def OQ:XH X (aA .Lt) (Pk λi j=>.bl (decide (i<j))):=Li λ_ _ _ _ _ _ _ q=>lt_int q
def Oh:XH X (aA .LtE) (Pk λi j=>.bl (decide (i<=j))):=Li λ_ _ _ _ _ _ _ q=>le_int q
def Pm:XH X (aA .Gt) (Pk λi j=>.bl (decide (j<i))):=Li λ_ _ _ _ _ _ _ q=>gt_int q
def ZQO:XH X (aA .GtE) (Pk λi j=>.bl (decide (j<=i))):=Li λ_ _ _ _ _ _ _ q=>ge_int q
def YK(b:Expr){d:CmpOp}(h:d≠.In:=by decide)(g:d≠.NotIn:=by decide):behindInMarks d b=false:=by
 let e:(d==CmpOp.In)=false:=by cases d <;> first | rfl | exact absurd rfl h
 let f:(d==CmpOp.NotIn)=false:=by cases d <;> first | rfl | exact absurd rfl g
 cases b <;> simp[behindInMarks,e,f]
def Vl{e:CmpOp}{r:R2}(l:XH X (aA e) r)(i:PE X a ta)(j:PE X b tb)(k:behindInMarks e b=false):PE X (.Compare a [e] [b] pos) (Pq r ta tb):=by
 intro d s p H Q I h;exact wpAny_Compare1 (Kn i j I h λv u o x y f g m n q=>l d o p f x y v u Q g m n q) k
inductive OZ(Q:Bool->Hp->Prop)(x:V)(d:Hp):Prop
 |mk(k:_)(_:x=.bl k)(_:Q k d)
def Hw(t:TE):TT:=λe H Q=>t e H λx d=>OZ Q x d
def XB{f:CmpOp}{r:R2}(w:XH X (aA f) r)(p:PE X a ta)(q:PE X b tb)(t:behindInMarks f b=false):PT X (.Compare a [f] [b] pos) (Hw (Pq r ta tb)):=by
 intro d s g H Q I h;refine wpAny_isTrue_Compare1 (Z2 (p d s g H _ I h) λv G x i m D A=>Z2 (q d G g i _ m A) λu J y j n E B=>
  Zy (w d J g j x y v u _ n D E B) λc K ⟨z,l,o,F,k,e,C⟩=>?_) t
 subst e;cases F;exact wpAny_truthy_bool ⟨l,o,C⟩
inductive Pe(f:R2)(tc:TE)(h:L2.St)(Q:VK)(y z:V)(d:Hp):Prop
 |mk(k:_)(_:z=.bl k)(_:if k=true then tc h d λg e=>f y g e Q else Q (.bl false) d)
def FT(r h:R2)(ta tb tc:TE):TE:=λd H Q=>ta d H λx e=>tb d e λy f=>r x y f λz g=>Pe h tc d Q y z g
def Bz{l g:CmpOp}{r p:R2}(K:XH X (aA l) r)(j:XH X (aA g) p)(E:PE X a ta)(F:PE X b tb)(G:PE X c tc)(J:lastMarks [l,g] [b,c]=false:=by with_unfolding_all rfl):PE X (.Compare a [l,g] [b,c] pos) (FT r p ta tb tc):=by
 intro f s i H Q I h;refine Compare_chain (Z2 (E f s i H _ I h) λv S x t B O L=>chain_link (Z2 (F f S i t _ B L) λu T y w C q M=>
  Zy (K f T i w x y v u _ C O q M) λd U ⟨z,m,n,P,k,e,o⟩=>?_)) J
 subst e;cases P;refine wpAny_truthy_bool ?_
 cases k with
 | false=>exact ite_ff ⟨.bl false,m,n,Z,o⟩
 | true=>exact ite_tt (chain_last (Z2 (G f U i m _ n o) λW V Y A D R N=>j f V i A y Y u W Q D q R N))
def JP{l g:CmpOp}{r p:R2}(O:XH X (aA l) r)(j:XH X (aA g) p)(K:PE X a ta)(L:PE X b tb)(M:PE X c tc)(N:lastMarks [l,g] [b,c]=false:=by with_unfolding_all rfl):PT X (.Compare a [l,g] [b,c] pos) (Hw (FT r p ta tb tc)):=by
 intro f s i H Q I h;refine isTrue_chain (Z2 (K f s i H _ I h) λv s1 x t C V R=>test_link (Z2 (L f s1 i t _ C R) λu s2 y w D q S=>
  Zy (O f s2 i w x y v u _ D V q S) λd s3 ⟨z,m,n,W,k,e,o⟩=>?_)) N
 subst e;cases W;refine wpAny_truthy_bool ?_
 cases k with
 | false=>
  let⟨k',G,P⟩:=o;cases G;exact ite_ff ⟨m,n,P⟩
 | true=>
  refine ite_tt (test_last (Z2 (M f s3 i m _ n o) λw' s4 z' A E Y T=>Zy (j f s4 i A y z' u w' _ E q Y T) λd' s5 ⟨z2,B,F,r5,k2,J,U⟩=>?_));subst J;cases r5;exact wpAny_truthy_bool ⟨B,F,U⟩
def O8:(aq:Nat)<2 ^ 63:=by rw[sizeLine_eq];decide
inductive Vw(x y:V)(H:Hp)(Q:VK):Prop
 |mk(i j:_)(_:x=.str i)(_:y=.str j)(_:i.length+j.length<=aq)(_:Q (.str (i++j)) H)
def ZIB:XH X (binaryOp .Add) (Vw):=by
 intro d s m H x y v u Q I f g h;let⟨i,j,rfl,rfl,e,q⟩:=h;let⟨t,rfl⟩:=f;let⟨k,rfl⟩:=g;exact add_str (λk l=>⟨.str (i++j),H,I.tok _,⟨_,Z⟩,q⟩) e
def UB{x:V}{d:je}(r:ZO [x] d):∃ u,d=[u]/\ZR x u:=by
 cases r with
 | cons e f=>cases f;exact⟨_,Z,e⟩
def KB{x y:V}{d:je}(r:ZO [x,y] d):∃ u e,d=[u,e]/\ZR x u/\ZR y e:=by
 cases r with
 | cons f g=>
  cases g with
  | cons h i=>cases i;exact⟨_,_,Z,f,h⟩
inductive U1(d:jf)(H:Hp)(Q:VK):Prop
 |mk(i:_)(_:d=[.int i])(_:Q (.int (if i<0 then -i else i)) H)
def IH:UN X (.builtin "abs") (U1):=by
 intro d s j H g f Q I r h;let⟨i,rfl,q⟩:=h;let⟨u,rfl,t,rfl⟩:=UB r;exact call_abs_int λu e=>⟨.int (if i<0 then -i else i),H,I.tok _,⟨_,Z⟩,q⟩
inductive UK(d:jf)(H:Hp)(Q:VK):Prop
 |mk(i j:_)(_:d=[.int i,.int j])(_:Q (.int (if j > i then j else i)) H)
def Mb(f:X.calm=true):UN X (.builtin "max") (UK):=by
 intro e s v H p n Q I r h;let⟨i,j,rfl,q⟩:=h;let⟨u,o,rfl,⟨t,rfl⟩,⟨l,rfl⟩⟩:=KB r;refine max_two_ints (I.ok.hd f) λg m k=>⟨_,H,I.kept k,?_,q⟩;by_cases d:j > i
 ·rw[aO d,aO d];exact⟨_,Z⟩
 ·rw[aM d,aM d];exact⟨_,Z⟩
inductive UE(d:jf)(H:Hp)(Q:VK):Prop
 |mk(i j:_)(_:d=[.int i,.int j])(_:Q (.int (if j<i then j else i)) H)
def GT(f:X.calm=true):UN X (.builtin "min") (UE):=by
 intro e s v H p n Q I r h;let⟨i,j,rfl,q⟩:=h;let⟨u,o,rfl,⟨t,rfl⟩,⟨l,rfl⟩⟩:=KB r;refine min_two_ints (I.ok.hd f) λg m k=>⟨_,H,I.kept k,?_,q⟩;by_cases d:j<i
 ·rw[aO d,aO d];exact⟨_,Z⟩
 ·rw[aM d,aM d];exact⟨_,Z⟩
def O3:UN X (.type "int") (λd H Q=>(∃ i,d=[.int i]/\Q (.int i) H)\/∃ k,d=[.bl k]/\Q (.int (if k then 1 else 0)) H):=by
 intro e s j H d g Q I r h;rcases h with ⟨i,rfl,q⟩ | ⟨k,rfl,q⟩
 ·let⟨u,rfl,t,rfl⟩:=UB r;exact call_int_int ⟨.int i,H,I,⟨_,Z⟩,q⟩
 ·let⟨u,rfl,f⟩:=UB r;cases f;exact call_int_bool ⟨.int (if k then 1 else 0),H,I.tok _,⟨_,Z⟩,q⟩
end
structure UD(h:aE)(x dx C:aj)(mA:jc):Prop where
 obj:h.get? x=some (wE C dx)
 ns:h.Ns1 dx mA
 ne:dx≠x
def ZIv{h:aE}{d:aj}{g:jc}(n:h.Ns1 d g):∃ i,h.get? d=some i/\∀ b,tT b i=some (g b):=by
 let⟨o,f,s,p,k,l,_,m⟩:=n;exists o,p;intro b;let e:=m b;unfold nsFind findBy at e;rw[<-Array.find?_toList] at e;unfold tT;rw[k];dsimp only;split
 ·rename_i y q
  rw[q] at e;exact congrArg some e
 ·rename_i q
  rw[q] at e;let a:f.toList.any (·.refKey)=false:=by
   rw[List.any_eq_false];intro y r;let⟨z,t,c⟩:=l y (Array.mem_toList_iff.mp r);simp[DictEntry.refKey,c]
  let j:¬ f.toList.any (·.refKey)=true:=by rw[a];exact zW
  rw[aM j];exact congrArg some e
def UD.look{h:aE}{x c C:aj}{d:jc}(I:UD h x c C d):∃ b,PySem.W.InstAt h x (wE C c) C (some b)/\∀ a,tT a b=some (d a):=
 let ⟨b,ho,hl⟩:=ZIv I.ns
 ⟨b,⟨I.obj,rfl,rfl,ho⟩,hl⟩
section
variable{prog:al}{w:ax}{A:ay}{E:ja}{s:ak}{K:zZ}{x dx C f:aj}{mA:jc}{name:Str}{v:ai}
def Cb{a:Bool}{Q:ja}(X:K.In s.heap)(I:UD s.heap x dx C mA)(d:uX K C name=true)(e:vW K C=true)(c:zD K (.ref C) name=some none)(i:mA name=some v)(b:PySem.W.handedIn v=true)(h:Q v { s with toks:=s.toks+1 }):
  aC (aB prog w) A (getAttr (.ref x) name a) Q E s:=by
 let⟨j,J,g⟩:=I.look;exact PySem.W.get_value X J (qU d).1 (PySem.W.findObj_own e c Z (by rw[g,i])) b h
def ZLm{i:Sem Bool}{Q:ai×je->ak->Prop}(X:K.In s.heap)(I:UD s.heap x dx C mA)(a:uX K C name=true)(b:zD K (.ref C) name=some (some (.ref f)))(d:wB K (.ref f)=true)(e:mA name=none)(h:Q (.ref f,[.ref x]) s):
  aC (aB prog w) A (getMethod (.ref x) name i) Q E s:=by
 let⟨g,J,c⟩:=I.look;exact PySem.W.method_fn X J (qU a).1 (qU a).2 b (beq_iff_eq.mp d) (by show (tT name g).map (·.isSome)=some false;rw[c,e];rfl) h
def Cm{l:jt}{Q:Unit->ak->Prop}(X:K.In s.heap)(I:UD s.heap x dx C mA)(t:zD K (.ref C) "__setattr__" = some (some (.builtin "object.__setattr__")))(q:tL K C=true)(z:sF K C name=some none)(p:vW K C=true)(B:PySem.Within mA l)(u:l.length<=aq)(h:∀ e,UD e x dx C (λy=>if y=name then some v else mA y)->yA dx s.heap e->Q () { s with heap:=e,toks:=s.toks+2 }):
  aC (aB prog w) A (setAttr (.ref x) name v) Q E s:=by
 let⟨L,J,G⟩:=I.look;refine PySem.W.set_plain X J t (PySem.W.osa_open (s:={ s with toks:=s.toks+1 }) (r:=none) X J q z λb=>?_);let⟨F,o,i⟩:=sC p;let D:s.heap.get? x=some ⟨.ref C,some dx,.plain,#[]⟩:=I.obj;refine aa (ad (aa (aa (wpAny_loadPart D (aa (xL.here (s:={ s with toks:=s.toks+1 }) (qV X o) ?_))))));rw[i];refine ad (a:=some dx) (aa (ad (aa ?_)));refine wpAny_nsSet1 (s:={ s with toks:=s.toks+1 }) I.ns λe c d=>?_;let⟨H,n,m,k,j,g⟩:=c.count (PySem.Within.cons name v B);refine aa (wpAny_lookBehind k (by rw[j];exact pastItsLine_dict (zS g (by rw[yV];lia))) ?_)
 exact ad (h _ ⟨(d.2 _ (Ne.symm I.ne)).trans I.obj,c,I.ne⟩ d)
def ZL8{R:Result->ak->Prop}{c:je}{b:jL}(X:K.In s.heap)(j:tO K C=true)(i:zD K (.ref C) "__init__" = some (some (.ref f)))(e:wZ K (.ref f)=some (.type "function"))(h:codeAny (aB prog w) (A.under (.builtin "type.__call__" ⟨.ref C::c,b⟩)) (.call (.ref f) ⟨.ref (s.heap.objs.size+1)::c,b⟩) (PySem.W.InitBack (s.heap.objs.size+1) R)
   { s with heap:=(s.heap.push wQ).push (wE C s.heap.objs.size) }):
  codeAny (aB prog w) A (.call (.ref C) ⟨c,b⟩) R s:=by
 let⟨k,g,d,t,l⟩:=s;exact PySem.W.make_core (PySem.W.makes_of X j) (rL X i) (λa=>PySem.W.bind_fn X a e) (.inl rfl) h
end
def XW(f:Str)(v:V):List (Str×V)->List (Str×V)
 | []=>[(f,v)]
 | (g,x)::r=>if g=f then (g,v)::r else (g,x)::XW f v r
def Fx(f g:Str)(v:V):∀ c:List (Str×V),(XW f v c).lookup g=if g=f then some v else c.lookup g
 | []=>by
  show xM g [(f,v)]=_;by_cases h:g=f
  ·let a:(g==f)=true:=beq_iff_eq.mpr h;simp only[xM,a,aO h]
  ·let a:(g==f)=false:=beq_eq_false_iff_ne.mpr h;simp only[xM,a,aM h]
 | (k,x)::r=>by
  let d:=Fx f g v r;rw[show XW f v ((k,x)::r)=(if k=f then (k,v)::r else (k,x)::XW f v r) from rfl]
  by_cases b:k=f
  ·rw[aO b];by_cases h:g=k
   ·let a:(g==k)=true:=beq_iff_eq.mpr h;simp only[xM,a,aO (h.trans b)]
   ·let a:(g==k)=false:=beq_eq_false_iff_ne.mpr h;simp only[xM,a,aM (λe:g=f=>h (e.trans b.symm))]
  ·rw[aM b];by_cases h:g=k
   ·let a:(g==k)=true:=beq_iff_eq.mpr h;simp only[xM,a,aM (λe:g=f=>b (h.symm.trans e))]
   ·let a:(g==k)=false:=beq_eq_false_iff_ne.mpr h;simp only[xM,a];exact d
def Ly(f:Str)(v:V):∀ a:List (Str×V),f∈(XW f v a).map (·.1)/\∀ g,g∈a.map (·.1)->g∈(XW f v a).map (·.1)
 | []=>⟨by simp[XW],λg h=>by simp at h⟩
 | (k,x)::r=>by
  let⟨c,d⟩:=Ly f v r;rw[show XW f v ((k,x)::r)=(if k=f then (k,v)::r else (k,x)::XW f v r) from rfl]
  by_cases b:k=f
  ·rw[aO b];subst b;exact⟨by simp,λg h=>by simpa using h⟩
  ·rw[aM b];refine⟨?_,λg h=>?_⟩
   ·rw[zF];exact zG _ c
   ·rw[zF] at h⊢;rcases yT.mp h with e | e
    ·exact yT.mpr (.inl e)
    ·exact zG _ (d g e)
def Di(f:Str)(v:V):∀ a:List (Str×V),(XW f v a).length<=a.length+1
 | []=>by simp[XW]
 | (k,x)::r=>by
  let c:=Di f v r;rw[show XW f v ((k,x)::r)=(if k=f then (k,v)::r else (k,x)::XW f v r) from rfl]
  by_cases b:k=f
  ·rw[aO b,yV,yV];lia
  ·rw[aM b,yV,yV];lia
def Ys.some_of{v:V}{o:jd}(r:Ys (some v) o):∃ u,o=some u/\ZR v u:=by
 cases o with
 | none=>exact(show False from r).elim
 | some u=>exact⟨u,Z,r⟩
def Ys.none_of{o:jd}(r:Ys none o):o=none:=by
 cases o with
 | none=>rfl
 | some u=>exact(show False from r).elim
def ZJS{v:V}{u:ai}(r:ZR v u):PySem.W.handedIn u=true:=by
 cases v with
 | non=>cases(show u=Value.none from r);rfl
 | bl b=>cases(show u=Value.bool b from r);rfl
 | int i=>let⟨t,e⟩:=(show ∃ t,u=Value.int i t from r);cases e;rfl
 | str x=>let⟨t,e⟩:=(show ∃ t,u=Value.str x t from r);cases e;rfl
 | byt b=>let⟨t,e⟩:=(show ∃ t,u=Value.bytes b t from r);cases e;rfl
 | flt b=>let⟨t,e⟩:=(show ∃ t,u=Value.float b t from r);cases e;rfl
 | ref a=>cases(show u=Value.ref a from r);rfl
 | ty n=>cases(show u=Value.type n from r);rfl
section
variable{P:al}{w:ax}{H H':Hp}{h h':aE}{a C dx:aj}{fs fs':List (Str×V)}
def LD(c:Yd P w H h)(e:H a=some (.ins C dx fs)):∃ b,UD h a dx C b/\(∀ f,Ys (fs.lookup f) (b f))/\PySem.Within b (fs.map (·.1))/\fs.length<=1000/\H dx=some (.own a):=by
 let⟨d,z,g,i,b,n,r,q⟩:=(show Ze P w H h a (.ins C dx fs) from c a _ e);exact⟨b,⟨i,n,g⟩,r,q,z,d⟩
end
structure V1(K:zZ)(C:aj):Prop where
 pg:uX K C Str.empty=true
 hd:vW K C=true
 po:tL K C=true
 sa:zD K (.ref C) "__setattr__" = some (some (.builtin "object.__setattr__"))
def V1.get{K:zZ}{C:aj}(c:V1 K C)(f:Str):uX K C f=true:=c.pg
def Z5(K:zZ)(C:aj)(f:Str):Prop:=zD K (.ref C) f=some none
def Z5.taker{K:zZ}{C:aj}{f:Str}(n:Z5 K C f):sF K C f=some none:=by
 unfold sF;rw[show zD K (.ref C) f=some none from n];rfl
structure U0(K:zZ)(C:aj)(m:Str)(f:aj):Prop where
 at_:zD K (.ref C) m=some (some (.ref f))
 fn:wB K (.ref f)=true
 kp:yJ K (.ref f)=true
section
variable{kh:ju}{σ:St}{H:Hp}{s:ak}{a C dx:aj}{fs:List (Str×V)}{f:Str}{v:V}{A:ay}{E:ja}
def FD{b:Bool}{Q:ja}(I:ZF X kh σ H s)(e:H a=some (.ins C dx fs))(c:V1 X.K C)(n:Z5 X.K C f)(l:fs.lookup f=some v)(h:∀ u g,ZF X kh σ H g->ZR v u->Q u g):aC (aB X.prog X.w) A (getAttr (.ref a) f b) Q E s:=by
 let⟨j,O,r,_,_,_⟩:=LD I.hok e;let⟨u,i,d⟩:=Ys.some_of (v:=v) (o:=j f) (by rw[<-l];exact r f)
 exact Cb I.kIn O (c.get f) c.hd n i (ZJS d) (h u _ (I.tok _) d)
def Kw{m:Str}{g:aj}{i:Sem Bool}{Q:ai×je->ak->Prop}(I:ZF X kh σ H s)(e:H a=some (.ins C dx fs))(c:V1 X.K C)(k:U0 X.K C m g)(l:fs.lookup m=none)(h:Q (.ref g,[.ref a]) s):aC (aB X.prog X.w) A (getMethod (.ref a) m i) Q E s:=by
 let⟨d,O,r,_,_,_⟩:=LD I.hok e;let b:d m=none:=Ys.none_of (by rw[<-l];exact r m)
 exact ZLm I.kIn O (c.get m) k.at_ k.fn b h
def F1{y:V}{u:ai}{Q:Unit->ak->Prop}(I:ZF X kh σ H s)(e:H a=some (.ins C dx fs))(c:V1 X.K C)(n:Z5 X.K C f)(J:fs.length<1000)(F:ZR y u)(h:∀ k,ZF X kh σ (upd H a (.ins C dx (XW f y fs))) k->Q () k):aC (aB X.prog X.w) A (setAttr (.ref a) f u) Q E s:=by
 let⟨j,O,r,l,_,i⟩:=LD I.hok e;let D:(fs.map (·.1)).length<=sizeLine:=by rw[zX,sizeLine_eq];lia
 refine Cm I.kIn O c.sa c.po n.taker c.hd l D λm d G=>h _ ?_;let t:∃ o,m.get? dx=some o:=let ⟨o,_,_,e',_⟩:=d.ns;⟨o,e'⟩;refine I.write (x:=a) (e:=dx) (by rw[e];exact True.intro) (.inr i) (λb q p z=>(G.2 b p).trans z) t ?_
 refine⟨by rw[ZU O.ne];exact i,?_,O.ne,d.obj,_,d.ns,λg=>?_,λg B=>?_⟩
 ·have:=Di f y fs;lia
 ·show Ys ((XW f y fs).lookup g) (if g=f then some u else j g)
  rw[Fx];by_cases q:g=f
  ·rw[aO q,aO q];exact F
  ·rw[aM q,aM q];exact r g
 ·by_cases q:g=f
  ·rw[q];exact(Ly f y fs).1
  ·refine(Ly f y fs).2 g (l g λz=>B ?_);show (if g=f then some u else j g)=none
   rw[aM q];exact z
def ZF.made(I:ZF X kh σ H s):ZF X kh σ (upd (upd H s.heap.objs.size (.own (s.heap.objs.size+1))) (s.heap.objs.size+1) (.ins C s.heap.objs.size []))
  { s with heap:=(s.heap.push wQ).push (wE C s.heap.objs.size) }:=by
 let c:(s.heap.push wQ).get? s.heap.objs.size=some wQ:=yS s.heap Z;let h:((s.heap.push wQ).push (wE C s.heap.objs.size)).get? (s.heap.objs.size+1)=some (wE C s.heap.objs.size):=by
  have:=yS (s.heap.push wQ) (o:=wE C s.heap.objs.size) Z
  rwa [sR] at this
 let i:(s.heap.push wQ).Ns s.heap.objs.size (λ_=>none):=⟨wQ,#[],_,c,Z,(λe j=>absurd j (by simp)),λ_=>rfl⟩
 let g:=I.laid (a:=s.heap.objs.size) (o:=.own (s.heap.objs.size+1)) (h':=s.heap.push wQ) (t':=s.toks) (λb u q=>zQ _ q) (zY _) ⟨_,c⟩;refine g.laid (a:=s.heap.objs.size+1) (o:=.ins C s.heap.objs.size []) (t':=s.toks) (λb u q=>zQ _ q) (wK (sR _ _)) ?_;let d:s.heap.objs.size≠s.heap.objs.size+1:=yW (wS _);refine⟨by rw[ZU d,ZP],zN _,d,h,λ_=>none,(Heap.Ns1.of_empty i).at λo q=>zQ _ q,λ_=>True.intro,λy k=>absurd Z k⟩
def ZM9{c:al}{w:ax}{b:Env}{e:Expr}{f:Str}{pos:Pos}{s:ak}{Q:ja}(g:attributeBase e f b (aH e b)=aH e b)(h:aC (aB c w) A (aH e b) (λo d=>aC (aB c w) A (getAttr o f true) Q E d) E s):aC (aB c w) A (aH (.Attribute e f pos) b) Q E s:=
 Attribute_any_ h (by rw[arm_eval_Attribute,g])
end
inductive N7(K:zZ)(f:Str)(Q:VK)(x:V)(b:Hp):Prop
 |mk(a C d c v:_)(_:x=.ref a)(_:b a=some (.ins C d c))(_:V1 K C)(_:Z5 K C f)(_:c.lookup f=some v)(_:Q v b)
def BG(K:zZ)(b:TE)(f:Str):TE:=λc H Q=>b c H λx a=>N7 K f Q x a
inductive MD(K:zZ)(f:Str)(D:YJ)(e:L2.St)(y x:V)(c:Hp):Prop
 |mk(a C d b:_)(_:x=.ref a)(_:c a=some (.ins C d b))(_:V1 K C)(_:Z5 K C f)(_:b.length<1000)(_:D.nx e (upd c a (.ins C d (XW f y b))))
def ZRS(K:zZ)(d e:TE)(f:Str):TS:=λD a H=>e a H λy b=>d a b λx c=>MD K f D a y x c
def HK(X:Cx)(c:Operator)(rd:V->V->Hp->VK->Prop):Prop:=
 ∀(a:ju)(s:ak)(b:St)(H:Hp)(x y:V)(u v:ai)(Q:VK),ZF X a b H s->ZR x u->ZR y v->rd x y H Q->aC (aB X.prog X.w) X.A (inplaceOp c u v) (EP X a b Q) X.xe s
inductive QN(K:zZ)(k:TE)(rd:V->V->Hp->VK->Prop)(f:Str)(D:YJ)(h:L2.St)(x:V)(d:Hp):Prop
 |mk(a C j g v:_)(_:x=.ref a)(_:d a=some (.ins C j g))(_:V1 K C)(_:Z5 K C f)(_:g.lookup f=some v)(_:k h d λy i=>rd v y i λz e=>∃ c b,e a=some (.ins C c b)/\b.length<1000/\D.nx h (upd e a (.ins C c (XW f z b))))
def ZOK(K:zZ)(c d:TE)(rd:V->V->Hp->VK->Prop)(f:Str):TS:=λD a H=>c a H λx b=>QN K d rd f D a x b
section
variable{o e value:Expr}{f:Str}{pos pos' tpos:Pos}{ta tv:TE}
def Vx(p:PE X e ta)(m:attributeBase e f X.env (aH e X.env)=aH e X.env):PE X (.Attribute e f pos) (BG X.K ta f):=by
 intro b s w H Q I h;refine ZM9 m (Zy (p b s w H _ I h) ?_);rintro u A ⟨x,d,g,t,a,C,y,z,v,k,j,c,n,l,q⟩;subst k;obtain rfl:u=Value.ref a:=t;exact FD g j c n l λD B i r=>⟨v,d,i,r,q⟩
def PR(r:PE X o ta)(v:PE X value tv)(t:swapsWith value (some (.Attribute o f pos')) pos.line X.env=pure false):PS X (.Assign [.Attribute o f pos'] value pos) (ZRS X.K ta tv f):=by
 intro b s d H D I h;refine plainObj_wpAny_Assign_Attribute (Z2 (v b s d H _ I h) λu E y g i B q=>Zy (r b E d g _ i q) λw L ⟨x,F,j,A,a,C,G,J,p,m,c,n,l,z⟩=>?_) t;subst p;obtain rfl:w=Value.ref a:=A;exact F1 j m c n l B λM k=>⟨d,_,k,z⟩
def Al{j:Operator}{rd:V->V->Hp->VK->Prop}(J:PE X o ta)(L:PE X value tv)(i:HK X j rd):PS X (.AugAssign (.Attribute o f tpos) j value pos) (ZOK X.K ta tv rd f):=by
 intro b s d H D I h;refine wpAny_AugAssign_AttributeAny (Zy (J b s d H _ I h) ?_);rintro N s1 ⟨x,k,p,R,a,C,dx,fs,v,F,E,c,n,l,q⟩;subst F;obtain rfl:N=Value.ref a:=R;refine FD p E c n l λu U r Q=>Z2 (L b U d k _ r q) λY W y m t S O=>Zy (i b W d m v y u Y _ t Q S O) ?_;rintro w4 s4 ⟨z,H3,w,T,B,G,g,M,P⟩;exact F1 w g c n M T λs5 A=>⟨d,_,A,P⟩
inductive Lv(x y:V)(H:Hp)(Q:VK):Prop
 |mk(i j:_)(_:x=.int i)(_:y=.int j)(_:Q (.int (i-j)) H)
def ZPw:HK X .Sub Lv:=by
 rintro a s g H x y u v Q I c d ⟨i,j,rfl,rfl,q⟩;let⟨t,rfl⟩:=(show ∃ t,u=Value.int i t from c);let⟨b,rfl⟩:=(show ∃ b,v=Value.int j b from d);exact PyProof.Rows.isub_int ⟨.int (i-j),H,I.tok _,⟨_,Z⟩,q⟩
end
section
variable{kh:ju}{σ:St}{H:Hp}{s:ak}{A:ay}{E Q:ja}{c:ai}{b:Bool}
inductive Yp(K:zZ)(H:Hp):V->ai->Prop where
 | non:Yp K H .non (.type "NoneType")
 | bl (x:Bool):Yp K H (.bl x) (.type "bool")
 | int (i:Int):Yp K H (.int i) (.type "int")
 | str (x:Str):Yp K H (.str x) (.type "str")
 | flt (x:UInt64):Yp K H (.flt x) (.type "float")
 | lst {a:aj} {xs:jf} (e:H a=some (.lst xs)):Yp K H (.ref a) (.type "list")
 | frz {a:aj} {o:aI} {xs:jf} (e:H a=some (.frz o (.lst xs))):Yp K H (.ref a) (.type "list")
 | tup {a:aj} {xs:jf} (e:H a=some (.tup xs)):Yp K H (.ref a) (.type "tuple")
 | dK {a:aj} {kvs:List (Zh×V)} (e:H a=some (.dK kvs)):Yp K H (.ref a) (.type "dict")
 | dT {a:aj} {kvs:List (jD×V)} (e:H a=some (.dT kvs)):Yp K H (.ref a) (.type "dict")
 | ins {a C dx:aj} {fs:List (Str×V)} (e:H a=some (.ins C dx fs)) (cl:V1 K C) (ha:zD K (.ref C) "__class__" = some (some (.builtin "object.__class__")))
   (hn:PySem.W.specialIn K (.builtin "object.__class__") "__get__" = some (some (.builtin "getset_descriptor.__get__"))) (htk:PySem.W.takesIn K (.builtin "object.__class__")=some true)
   (hm:yB K C (.type "object")=some true):Yp K H (.ref a) (.ref C)
def Cy{x:V}{u t:ai}(I:ZF X kh σ H s)(f:ZR x u)(N:Yp X.K H x t)(e:yO X.K t c=some b)(h:∀ M,Q (.bool b) { s with toks:=M }):
  aC (aB X.prog X.w) A (call (.builtin "isinstance") [u,c]) Q E s:=by
 cases N with
 | non=>cases(show u=Value.none from f);exact xJ PySem.W.kitx_none I.kIn True.intro e (λz=>nomatch z) h
 | bl y=>cases(show u=Value.bool y from f);exact xJ PySem.W.kitx_bool I.kIn True.intro e (λz=>nomatch z) h
 | int i=>let⟨t,q⟩:=(show ∃ t,u=Value.int i t from f);cases q;exact xJ PySem.W.kitx_int I.kIn True.intro e (λz=>nomatch z) h
 | str y=>let⟨t,q⟩:=(show ∃ t,u=Value.str y t from f);cases q;exact xJ PySem.W.kitx_str I.kIn True.intro e (λz=>nomatch z) h
 | flt y=>let⟨t,q⟩:=(show ∃ t,u=Value.float y t from f);cases q;exact xJ PySem.W.kitx_float I.kIn True.intro e (λz=>nomatch z) h
 | @lst a k d=>
  cases(show u=Value.ref a from f);let⟨_,_,n,_,g⟩:=(show Ze X.prog X.w H s.heap a (.lst k) from I.hok a _ d);exact xJ PySem.W.kitx_list I.kIn ⟨_,g,Z⟩ e (λz=>nomatch z) h
 | @frz a L k d=>
  cases(show u=Value.ref a from f);let⟨_,_,_,n,_,g⟩:=(show Ze X.prog X.w H s.heap a (.frz L (.lst k)) from I.hok a _ d);exact xJ PySem.W.kitx_list I.kIn ⟨_,g,Z⟩ e (λz=>nomatch z) h
 | @tup a k d=>
  cases(show u=Value.ref a from f);let⟨_,_,_,p⟩:=(show Ze X.prog X.w H s.heap a (.tup k) from I.hok a _ d);let⟨o,g,l,_⟩:=p;exact xJ PySem.W.kitx_tuple I.kIn ⟨o,g,l⟩ e (λz=>nomatch z) h
 | @dK a j d=>
  cases(show u=Value.ref a from f);let⟨_,_,U,_,p⟩:=(show Ze X.prog X.w H s.heap a (.dK j) from I.hok a _ d);let⟨o,B,v,g,l,_⟩:=p;exact xJ PySem.W.kitx_dict I.kIn ⟨o,g,l.1⟩ e (λz=>nomatch z) h
 | @dT a j d=>
  cases(show u=Value.ref a from f);let⟨_,_,k,_,o,B,v,g,l,_⟩:=(show Ze X.prog X.w H s.heap a (.dT j) from I.hok a _ d);exact xJ PySem.W.kitx_dict I.kIn ⟨o,g,l.1⟩ e (λz=>nomatch z) h
 | @ins a C P R d r D G m F=>
  cases(show u=Value.ref a from f);let⟨S,O,_⟩:=LD I.hok d;let⟨T,J,_⟩:=O.look;exact xJ (PySem.W.kitx_own (r.get _) r.hd D G m F) I.kIn J e (λz=>nomatch z) h
end
structure ZT(k:Nat)(A:ay):Prop where
 hd:A.handled=none
 dp:A.depth+3 * k+5<recursionLimit
 un:A.units+16 * k+200<cLine
def ZT.mono{j k:Nat}{A:ay}(r:ZT k A)(h:j<=k):ZT j A:=⟨r.hd,by have:=r.dp;lia,by have:=r.un;lia⟩
def ZT.to{j:Nat}{A:ay}(r:ZT j A)(k:Nat)(h:k<=j:=by decide):ZT k A:=r.mono h
def ZT.deeper{k:Nat}{A:ay}(r:ZT (k+1) A)(a:Env):ZT k (A.deeper a):=
 ⟨r.hd,by have:=r.dp;show A.depth+1+3 * k+5<_;lia,by have:=r.un;show A.units+3+16 * k+200<_;lia⟩
def ZT.in1{k:Nat}{A:ay}(r:ZT (k+1) A):ZT k A.in1:=
 ⟨r.hd,by have:=r.dp;show A.depth+3 * k+5<_;lia,by have:=r.un;show A.units+1+16 * k+200<_;lia⟩
def ZH6{A:ay}{C:aj}{b:je}{a:jL}:(A.under (.builtin "type.__call__" ⟨.ref C::b,a⟩)).depth=A.depth+1:=by
 first | rfl | simp[Around.under,Code.weight,Code.isCreation,Code.isGuard,Code.isCaller,Code.frames,Code.isFrame,guardIds]
def ZII{A:ay}{C:aj}{b:je}{a:jL}:(A.under (.builtin "type.__call__" ⟨.ref C::b,a⟩)).units=A.units+1:=by
 first | rfl | simp[Around.under,Code.cUnits,Code.frames,Code.isFrame]
def ZT.make{k:Nat}{A:ay}(r:ZT (k+1) A)(C:aj)(b:je)(a:jL):ZT k (A.under (.builtin "type.__call__" ⟨.ref C::b,a⟩)):=
 ⟨r.hd,by have:=r.dp;rw[ZH6];lia,by have:=r.un;rw[ZII];lia⟩
def ZT.depth{k:Nat}{A:ay}(r:ZT k A):A.depth<recursionLimit:=by have:=r.dp;lia
def ZT.units{k:Nat}{A:ay}(r:ZT k A):A.units+64<cLine:=by have:=r.un;lia
def ZT.units0{k:Nat}{A:ay}(r:ZT k A):A.units<cLine:=by have:=r.un;lia
def VG:TA:=λ_ H Q=>Q [] H
def Yy(d:TE)(e:TA):TA:=λa H Q=>d a H λx b=>e a b λf c=>Q (x::f) c
section
variable{e:Expr}{es:jC}{te:TE}{t:TA}{pos:Pos}
def Zk:PA X [] VG:=λ_ _ _ _ H Q I h=>Calls.spliced_nil ⟨[],H,I,.nil,h⟩
def ZX(i:PE X e te)(j:PA X es t)(k:ar (e::es) X.env=(false,aH e X.env)::ar es X.env:=by rfl):PA X (e::es) (Yy te t):=by
 intro pos a s b H Q I h;rw[k];show aC _ _ (spliced ((false,aH e X.env)::aG pos (ar es X.env))) _ _ s;refine Calls.spliced_cons (Z2 (i a s b H _ I h) λu p x c f n l=>?_);exact Z2 (j pos a p b c _ f l) λv r q d g o m=>⟨x::q,d,g,.cons n o,m⟩
def Ma(t:TA):TE:=λc H Q=>t c H λb a=>b.length<=aq/\∀ p,a p=none->Q (.ref p) (upd a p (.tup b))
def Hf(t:TA):TE:=λc H Q=>t c H λb a=>b.length<=aq/\∀ p,a p=none->Q (.ref p) (upd a p (.lst b))
def Xl{k}(h:PA X es t):PE X (.Tuple es k pos) (Ma t):=by
 intro a s m H Q I i;refine wpAny_Tuple_spliced (Zy (h pos a s m H _ I i) λj c ⟨l,d,f,r,z,q⟩=>⟨by rw[<-r.length];exact z,?_⟩)
 let g:d c.heap.objs.size=none:=f.hok.fresh (zY _);refine⟨.ref c.heap.objs.size,upd d c.heap.objs.size (.tup l),f.laid (t':=c.toks) (λb u e=>zQ _ e) (zY _) ?_,Z,q _ g⟩;exact⟨z,j,r,⟨_,yS _ Z,Z,_,Z⟩⟩
def Yb(h:PA X es t):PE X (.List es pos) (Hf t):=by
 intro a s l H Q I i;refine wpAny_List_spliced (Zy (h pos a s l H _ I i) λj c ⟨k,d,f,r,z,q⟩=>⟨by rw[<-r.length];exact z,?_⟩)
 let g:d c.heap.objs.size=none:=f.hok.fresh (zY _);refine⟨.ref c.heap.objs.size,upd d c.heap.objs.size (.lst k),f.laid (t':=c.toks) (λb u e=>zQ _ e) (zY _) ?_,Z,q _ g⟩;exact⟨z,j,0,r,yS _ Z⟩
end
abbrev Sp:=jf->Hp->VK->XK->Prop
abbrev VZ:=jB->Hp->ak->XK->ja
structure VO(P:al)(w:ax)(K:zZ)(mg:jc)(ki:aE)(A:ay)(outer:jB)(s:ak)(H:Hp):Prop where
 frames:A.frames=some outer
 mod:Mod K mg ki
 bs:∀ b o,ki.get? b=some o->s.heap.get? b=some o/\H b=none
 bsz:ki.objs.size<=s.heap.objs.size
 funs:s.heap.FunFrames ki outer
 frf:∀ b∈frs outer,H b=none
 hok:Yd P w H s.heap
 bare:AllBare s.gens
def CE(a:jB)(P:al)(w:ax)(H:Hp)(s:ak)(Q:VK)(u:ai)(b:ak):Prop:=
 ∃ v c,b.os=s.os/\AllBare b.gens/\Un (frs a) [] H c s.heap b.heap/\Yd P w c b.heap/\ZR v u/\Q v c
def CR(c:VZ)(a:jB)(P:al)(w:ax)(H:Hp)(s:ak)(Q:VK)(E:XK)(r:Result)(b:ak):Prop:=
 match r with
 | .ok (.ret u)=>CE a P w H s Q u b
 | .ok _=>False
 | .error e=>c a H s E e b
structure ZI(P:al)(w:ax)(K:zZ)(mg:jc)(ki:aE)(CX:VZ)(k:Nat)(f:aj)(fd:am)(ps:jt)(sp:Sp):Prop where
 len:∀ vs H Q E,sp vs H Q E->vs.length=ps.length
 run:∀(A:ay)(outer:jB)(s:ak)(H:Hp)(args:Args)(us:je)(vs:jf)(Q:VK)(E:XK),ZT k A->VO P w K mg ki A outer s H->BindsTo s fd args (ps.zip us)->ZO vs us->sp vs H Q E ->
  codeAny (aB P w) A (.call (.ref f) args) (CR CX outer P w H s Q E) s
def ZI.imp{P:al}{w:ax}{K:zZ}{i:jc}{a:aE}{e:VZ}{k:Nat}{f:aj}{g:am}{j:jt}{l d:Sp}(F:ZI P w K i a e k f g j l)(h:∀ c H Q E,d c H Q E->l c H Q E):ZI P w K i a e k f g j d:=
 ⟨λc H Q E q=>F.len c H Q E (h _ _ _ _ q),λA b s H args t c Q E o n m r p=>F.run A b s H args t c Q E o n m r (h _ _ _ _ p)⟩
def VO.make{P:al}{w:ax}{K:zZ}{c:jc}{b:aE}{A:ay}{a:jB}{s:ak}{H:Hp}(e:VO P w K c b A a s H)(C:aj)(f:je)(d:jL):
  VO P w K c b (A.under (.builtin "type.__call__" ⟨.ref C::f,d⟩)) a s H:=⟨by first | exact e.frames | (simpa [Around.under,Code.envs,Code.isFrame,pushEnvs] using e.frames),e.mod,e.bs,e.bsz,e.funs,e.frf,e.hok,e.bare⟩
section
variable{kh:ju}{σ:St}{H:Hp}{s s':ak}
def ZF.env0(I:ZF X kh σ H s):VO X.prog X.w X.K X.mg X.base X.A X.stack s H:=
 ⟨I.ok.frames,I.ok.mod,I.bs,zS I.ok.bsz I.sz,I.stack,I.stkFree,I.hok,I.bare⟩
def ZF.after{Q:VK}{u:ai}(I:ZF X kh σ H s)(h:CE X.stack X.prog X.w H s Q u s'):EP X kh σ Q u s':=by
 let⟨v,f,j,a,k,c,r,q⟩:=h;let⟨i,g,d,t,e⟩:=s';obtain rfl:e=s.os:=j;exact⟨v,f,I.call (h':=i) (g':=g) (d':=d) (t':=t) (ch:=[]) k c a (λb z=>absurd z (by simp)),r,q⟩
end
def IQ(c:Sp)(a:jf)(E:XK)(t:TA):TE:=λe H Q=>t e H λd b=>c (d++a) b Q E
inductive OS(C:aj)(m:Str)(g:Sp)(b:jf)(E:XK)(t:TA)(i:L2.St)(Q:VK)(x:V)(c:Hp):Prop
 |mk(a f d:_)(_:x=.ref a)(_:c a=some (.ins C f d))(_:d.lookup m=none)(_:t i c λh e=>g (x::(h++b)) e Q E)
def MP(C:aj)(m:Str)(d:Sp)(a:jf)(E:XK)(e:TE)(t:TA):TE:=λb H Q=>e b H λx c=>OS C m d a E t b Q x c
def Lk(C:aj)(e:Sp)(c:jf)(E:XK)(t:TA):TE:=λg H Q=>t g H λf b=>∀ x a,b x=none->b a=none->a≠x ->
 e (.ref x::(f++c)) (upd (upd b a (.own x)) x (.ins C a [])) (λv d=>v=.non/\Q (.ref x) d) E
def Zo(K:zZ)(d:am)(c:jt)(b:je):Prop:=
 ∀(s:ak)(a:je),K.In s.heap->(a++b).length=c.length->BindsTo s d ⟨a,[]⟩ (c.zip (a++b))
def Zo.all{K:zZ}{c:am}{b:jt}(h:∀ a:je,a.length=b.length->bindArgs c ⟨a,[]⟩=pure (b.zip a)):Zo K c b []:=λs a _ d=>by
 rw[yR] at d⊢;exact .of_eq (h a d)
def QE(c:VZ)(X:Cx)(E:XK):Prop:=∀(a:ju)(d:St)(H:Hp)(s:ak)(e:ai)(b:ak),ZF X a d H s->c X.stack H s E e b->X.xe e b
section
variable{CX:VZ}{k:Nat}{f C:aj}{fd:am}{ps:jt}{sp:Sp}{jo:jf}{ds:je}{E:XK}{x m:Str}{p pos jk:Pos}{e o:Expr}{es:jC}{ta:TE}{t:TA}
def JB{a:ju}{c:St}{H:Hp}{s:ak}{Q:VK}{us:je}{vs:jf}(F:ZI X.prog X.w X.K X.mg X.base CX k f fd ps sp)(n:ZT k X.A)(i:Zo X.K fd ps ds)(j:ZO jo ds)(q:QE CX X E)(I:ZF X a c H s)(r:ZO vs us)(h:sp (vs++jo) H Q E):aC (aB X.prog X.w) X.A (call (.ref f) us) (EP X a c Q) X.xe s:=by
 let d:ZO (vs++jo) (us++ds):=r.append j;let l:(us++ds).length=ps.length:=by rw[<-d.length];exact F.len _ _ _ _ h
 refine wpAny_call (codeAny_mono (F.run X.A X.stack s H ⟨us,[]⟩ (us++ds) (vs++jo) Q E n I.env0 (i s us I.kIn l) d h) λr v b=>?_)
 cases r with
 | error e=>exact q a c H s e v I b
 | ok g=>
  cases g with
  | ret u=>exact I.after b
  | next=>exact False.elim b
  | brk=>exact False.elim b
  | cont=>exact False.elim b
def G5(F:ZI X.prog X.w X.K X.mg X.base CX k f fd ps sp)(y:ZT k X.A)(n:Gl X x)(v:X.mg x=some (.ref f))(u:yJ X.K (.ref f)=true)(i:Zo X.K fd ps ds)(j:ZO jo ds)(z:QE CX X E)(g:PA X (e::es) t)(b:(x==("__debug__" : Str))=false:=by decide)(l:ar (e::es) X.env=(false,aH e X.env)::ar es X.env:=by rfl)(c:(aG pos (ar es X.env)).any (·.1)=false:=by rfl):
  PE X (.Call (.Name x p) (e::es) [] pos) (IQ sp jo E t):=by
 intro a s B H Q I h;refine ag (Pr I n v ?_ b);refine vB (h₀:=X.base) I.ok.mod.kin u (Z2 (g pos a s B H _ I h) λJ G L D d r q=>⟨d.kIn,?_⟩) l c;exact JB F y i j z d r q
def Cr{v:Sem Bool}(M:PE X o ta)(c:V1 X.K C)(n:U0 X.K C m f)(F:ZI X.prog X.w X.K X.mg X.base CX k f fd ps sp)(N:ZT k X.A)(J:Zo X.K fd ps ds)(L:ZO jo ds)(P:QE CX X E)(G:PA X (e::es) t)(g:ar (e::es) X.env=(false,aH e X.env)::ar es X.env:=by rfl)(d:(aG pos (ar es X.env)).any (·.1)=false:=by rfl)(O:aH (.Call (.Attribute o m jk) (e::es) [] pos) X.env=(do
   let ov<-aH o X.env
   standAt jk.atName
   let (f,first)<-holding [ov] (getMethod ov m v)
   callWith pos f first (aG pos (ar (e::es) X.env)) (backToKw pos (keywordEach [] X.env))):=by rfl):
  PE X (.Call (.Attribute o m jk) (e::es) [] pos) (MP C m sp jo E ta t):=by
 intro b s y H Q I h;refine rH (pl:=v) (Zy (M b s y H _ I h) λu T ⟨x,z,i,S,a,dx,fs,D,B,l,q⟩=>?_) O;subst D;obtain rfl:u=Value.ref a:=S;refine Kw i B c n l ?_;refine vB (first:=[.ref a]) (h₀:=X.base) I.ok.mod.kin n.kp (Z2 (G pos b T y z _ i q) λU s2 V Y j r R=>⟨j.kIn,?_⟩) g d
 exact JB (us:=.ref a::U) (vs:=.ref a::V) F N J L P j (.cons rfl r) R
def ZKz{i:Sem Bool}(y:PE X o ta)(c:V1 X.K C)(g:U0 X.K C m f)(F:ZI X.prog X.w X.K X.mg X.base CX k f fd ps sp)(z:ZT k X.A)(r:Zo X.K fd ps ds)(v:ZO jo ds)(D:QE CX X E)(B:aH (.Call (.Attribute o m jk) [] [] pos) X.env=(do
   let ov<-aH o X.env
   standAt jk.atName
   let (f,first)<-holding [ov] (getMethod ov m i)
   callWith pos f first (aG pos (ar [] X.env)) (backToKw pos (keywordEach [] X.env))):=by rfl):
  PE X (.Call (.Attribute o m jk) [] [] pos) (MP C m sp jo E ta VG):=by
 intro b s J H Q I h;refine rH (pl:=i) (Zy (y b s J H _ I h) λu O ⟨x,L,d,G,a,M,N,n,j,l,q⟩=>?_) B;subst n;obtain rfl:u=Value.ref a:=G;refine Kw d j c g l ?_;exact qN (first:=[.ref a]) d.kIn g.kp (JB (us:=[.ref a]) (vs:=[.ref a]) F z r v D d (.cons rfl .nil) q)
structure Mk(K:zZ)(C f:aj):Prop where
 makes:tO K C=true
 init:zD K (.ref C) "__init__" = some (some (.ref f))
 fn:wB K (.ref f)=true
 kp:yJ K (.ref C)=true
def Ff{b:ju}{i:St}{H:Hp}{s:ak}{Q:VK}{us:je}{g:jf}(M:Mk X.K C f)(F:ZI X.prog X.w X.K X.mg X.base CX k f fd ps sp)(L:ZT (k+1) X.A)(D:Zo X.K fd ps ds)(G:ZO jo ds)(N:QE CX X E)(I:ZF X b i H s)(r:ZO g us)(h:∀ x d,H x=none->H d=none->d≠x->sp (.ref x::(g++jo)) (upd (upd H d (.own x)) x (.ins C d [])) (λv q=>v=.non/\Q (.ref x) q) E):
  aC (aB X.prog X.w) X.A (call (.ref C) us) (EP X b i Q) X.xe s:=by
 let j:=h (s.heap.objs.size+1) s.heap.objs.size (I.hok.fresh (xD _)) (I.hok.fresh (zY _)) (yW (wS _));let c:=ZF.made (C:=C) I;let l:ZO (V.ref (s.heap.objs.size+1)::(g++jo)) (Value.ref (s.heap.objs.size+1)::(us++ds)):=.cons Z (r.append G);let J:(Value.ref (s.heap.objs.size+1)::us++ds).length=ps.length:=by
  let e:=l.length;rw[F.len _ _ _ _ j] at e;exact e.symm
 refine wpAny_call (ZL8 (f:=f) I.kIn M.makes M.init (beq_iff_eq.mp M.fn) (codeAny_mono (F.run _ X.stack _ _ ⟨Value.ref (s.heap.objs.size+1)::us,[]⟩ (Value.ref (s.heap.objs.size+1)::(us++ds)) _ _ E (L.make C us [])
  (c.env0.make C us []) (D _ (Value.ref (s.heap.objs.size+1)::us) c.kIn J) l j) λr R a=>?_))
 cases r with
 | error e=>exact N b i _ _ e R c a
 | ok B=>
  cases B with
  | ret u=>
   let⟨v,n,y,P,z,O⟩:=c.after a;subst z;exact⟨P,⟨V.ref (s.heap.objs.size+1),n,y,Z,O⟩⟩
  | next=>exact False.elim a
  | brk=>exact False.elim a
  | cont=>exact False.elim a
def ZN4(M:Mk X.K C f)(F:ZI X.prog X.w X.K X.mg X.base CX k f fd ps sp)(v:ZT (k+1) X.A)(n:Gl X x)(u:X.mg x=some (.ref C))(i:Zo X.K fd ps ds)(j:ZO jo ds)(y:QE CX X E)(g:PA X (e::es) t)(b:(x==("__debug__" : Str))=false:=by decide)(l:ar (e::es) X.env=(false,aH e X.env)::ar es X.env:=by rfl)(c:(aG pos (ar es X.env)).any (·.1)=false:=by rfl):
  PE X (.Call (.Name x p) (e::es) [] pos) (Lk C sp jo E t):=by
 intro a s z H Q I h;refine ag (Pr I n u ?_ b);refine vB (h₀:=X.base) I.ok.mod.kin M.kp (Z2 (g pos a s z H _ I h) λG D J B d r q=>⟨d.kIn,?_⟩) l c;exact Ff M F v i j y d r q
def Dr(M:Mk X.K C f)(F:ZI X.prog X.w X.K X.mg X.base CX k f fd ps sp)(j:ZT (k+1) X.A)(g:Gl X x)(i:X.mg x=some (.ref C))(c:Zo X.K fd ps ds)(d:ZO jo ds)(l:QE CX X E)(a:(x==("__debug__" : Str))=false:=by decide):PE X (.Call (.Name x p) [] [] pos) (Lk C sp jo E VG):=by
 intro b s n H Q I h;refine ag (Pr I g i ?_ a);exact qN I.kIn M.kp (Ff (us:=[]) M F j c d l I .nil h)
end
def PK(X:Cx)(b:List Keyword)(t:TA):Prop:=
 ∀(pos:Pos)(a:ju)(s:ak)(c:St)(H:Hp)(Q:jf->Hp->Prop),ZF X a c H s->t c H Q->aC (aB X.prog X.w) X.A (evalAll ((backToKw pos (keywordEach b X.env)).map (·.2))) (AP X a c Q) X.xe s
section
variable{CX:VZ}{k:Nat}{f C:aj}{fd:am}{ps ks:jt}{sp:Sp}{E:XK}{x m:Str}{p pos jk kpos:Pos}{e o:Expr}{es:jC}{kws:List Keyword}{te ta:TE}{t tk:TA}{nm:Option Str}
def G2:PK X [] VG:=λ_ _ _ _ H Q I h=>wpAny_evalAll_nil ⟨[],H,I,.nil,h⟩
def HQ(j:PE X e te)(l:PK X kws t):PK X (⟨nm,e,kpos⟩::kws) (Yy te t):=by
 intro pos a s b H Q I h;show aC _ _ (evalAll ((do let v<-aH e X.env;standAt pos;pure v)::(backToKw pos (keywordEach kws X.env)).map (·.2))) _ _ s
 refine wpAny_evalAll_cons (aa (Z2 (j a s b H _ I h) λu y x c g r n=>aa (wpAny_standAt (ad ?_))));exact Z2 (l pos a y b c _ g n) λB A z d i w q=>⟨x::z,d,i,.cons r w,q⟩
variable{g:je->je->je}{gV:jf->jf->jf}
end
structure ZC(N P:jt)(sc:aF):Prop where
 kind:sc.kind=.function
 co:sc.isCoroutine=false
 gen:sc.isGenerator=false
 nd:N.Nodup
 pre:N.take P.length=P
 par:∀ x∈P,sc.names.lookup x=some .local\/sc.names.lookup x=some .cell
 nofree:∀ y∈sc.names,y.2≠.free
def Zm{N P:jt}{a:aF}(b:a.kind=.function:=by rfl)(c:a.isCoroutine=false:=by rfl)(d:a.isGenerator=false:=by rfl)(e:N.Nodup:=by decide +kernel)(f:N.take P.length=P:=by rfl)(g:∀ x∈P,a.names.lookup x=some .local\/a.names.lookup x=some .cell:=by decide +kernel)(h:∀ y∈a.names,y.2≠.free:=by decide +kernel):ZC N P a:=⟨b,c,d,e,f,g,h⟩
def Gm{kindOf:Str->Option NameKind}{x:Str}:∀{a:jL}{m:jc},(∀ v,(x,v)∉a)->bindL kindOf a m x=m x
 | [],_,_=>rfl
 | (n,v)::r,m,h=>by
  unfold bindL;rw[Gm λw b=>h w (zG _ b)];split
  ·have:x≠n:=by rintro rfl;exact h v zI
   simp[this]
  ·rfl
def FH{kindOf:Str->Option NameKind}{x:Str}:∀{a:jL}{m:jc},(∀ v,(x,v)∉a)->bindC kindOf a m x=m x
 | [],_,_=>rfl
 | (n,v)::r,m,h=>by
  unfold bindC;rw[FH λw b=>h w (zG _ b)];split
  ·rfl
  ·have:x≠n:=by rintro rfl;exact h v zI
   simp[this]
def HE{kindOf:Str->Option NameKind}{x:Str}{v:ai}:∀{P:jt}{a:je}{i:Nat}{m:jc},P.Nodup->P[i]? = some x->a[i]? = some v->kindOf x=some .local ->
  bindL kindOf (P.zip a) m x=some v
 | [],_,_,_,_,h,_,_=>by simp at h
 | _::_,[],_,_,_,_,h,_=>by simp at h
 | p::P,w::a,0,m,nd,h1,h2,hk=>by
  simp at h1 h2;subst h1;subst h2;show bindL kindOf ((p,w)::P.zip a) m p=_;unfold bindL;rw[Gm λv b=>(wG.mp nd).1 (sX b).1,aO hk];simp
 | p::P,w::a,i+1,m,nd,h1,h2,hk=>by
  show bindL kindOf ((p,w)::P.zip a) m x=_;unfold bindL;exact HE (i:=i) (wG.mp nd).2 (by simpa using h1) (by simpa using h2) hk
def F4{kindOf:Str->Option NameKind}{x:Str}{v:ai}:∀{P:jt}{a:je}{i:Nat}{m:jc},P.Nodup->P[i]? = some x->a[i]? = some v->kindOf x≠some .local ->
  bindC kindOf (P.zip a) m x=some v
 | [],_,_,_,_,h,_,_=>by simp at h
 | _::_,[],_,_,_,_,h,_=>by simp at h
 | p::P,w::a,0,m,nd,h1,h2,hk=>by
  simp at h1 h2;subst h1;subst h2;show bindC kindOf ((p,w)::P.zip a) m p=_;unfold bindC;rw[FH λv b=>(wG.mp nd).1 (sX b).1,aM hk];simp
 | p::P,w::a,i+1,m,nd,h1,h2,hk=>by
  show bindC kindOf ((p,w)::P.zip a) m x=_;unfold bindC;exact F4 (i:=i) (wG.mp nd).2 (by simpa using h1) (by simpa using h2) hk
def UA(N:jt)(a:jf):St:=a.map some++uT (N.length-a.length) none
def WW(CX:VZ)(P:al)(w:ax)(K:zZ)(mg:jc)(ki:aE)(N:jt)(qual:Str)(scope:aF)(f:aj)(cd:ai)(A:ay)(outer:jB)(s:ak)(H:Hp)(E:XK):Cx where
 prog:=P
 w:=w
 K:=K
 mg:=mg
 base:=ki
 A:=A.deeper (envOfC qual scope s.heap.objs.size f cd)
 N:=N
 s₀:=s
 H₀:=H
 env:=envOfC qual scope s.heap.objs.size f cd
 outer:=outer
 stack:=envOfC qual scope s.heap.objs.size f cd::outer
 ex:=[]
 calm:=true
 fn:=λ_=>true
 pn:=[]
 xe:=λe s'=>aC (aB P w) (A.deeper (envOfC qual scope s.heap.objs.size f cd)) (leaving (envOfC qual scope s.heap.objs.size f cd) e) (λ_ s''=>CX outer H s E e s'') (λe' s''=>CX outer H s E e' s'') s'
def Gb{a:aF}{n:Nat}{x:Str}(h:a.names.lookup x=some .cell):∃ c,(cellsFrom n a.names []).lookup x=some c:=by
 let q:=rE a.names n [] (.inl h);exact sZ.mp q
def Dg{Q:VZ}{P:al}{w:ax}{K:zZ}{M:jc}{m:aE}{N C:jt}{j:Str}{d:aF}{f:aj}{I:ai}{A:ay}{g:jB}{s U:ak}{H:Hp}{E:XK}{O:je}{D:jf}(S:ZC N C d)(Y:A.handled=none)(o:VO P w K M m A g s H)(hl:D.length=C.length)(r:ZO D O)(x:InCallC s s.heap.objs.size (bindL (envOfC j d s.heap.objs.size f I).kindOf (C.zip O) λ_=>none) (cellsFrom (s.heap.objs.size+1) d.names []) (bindC (envOfC j d s.heap.objs.size f I).kindOf (C.zip O) λ_=>none) U):
  ZF (WW Q P w K M m N j d f I A g s H E) [] (UA N D) H U:=by
 let a0:C.length<=N.length:=by have:=congrArg wV S.pre;rw[yF] at this;lia
 let⟨J,tk,rfl,R⟩:=x.done;let B:∀ b:aj,b∉(WW Q P w K M m N j d f I A g s H E).ex:=λb z=>absurd (show b∈([]:jE) from z) (by simp)
 refine⟨⟨o.mod,S.kind,Z,Z,zY _,λy z c J l=>?_,λy t=>?_,λy c _ h=>?_,λ_=>Y,Around.frames_deeper o.frames,.inr ⟨Z,Z⟩,λb z=>absurd z (B b),o.bs,o.bsz,λb _ _=>B b,λb z=>absurd z (B b),o.funs,o.frf⟩,
  Z,o.bare,Un.kept R,⟨_,x.toInCall.ns,λi y v J l h3=>?_⟩,λy c h=>⟨_,x.cell y c h⟩,o.hok.fresh (zY _),λy c h=>?_,λp F=>absurd (show p∈([]:ju) from F) (by simp),o.hok.kept R,?_⟩
 ·exact name_of_addr x.apart (PySem.mem_of_lookup J) (PySem.mem_of_lookup l)
 ·let t:d.names.lookup y=some .cell\/d.names.lookup y=some .free:=t;rcases t with t | t
  ·exact Gb t
  ·exact absurd Z (S.nofree _ (PySem.mem_of_lookup t))
 ·exact yK (x.above y c (PySem.mem_of_lookup h))
 ·let L:i<D.length:=by
   unfold UA at l;by_cases L:i<D.length
   ·exact L
   ·rw[yE (by simpa using L)] at l
    rw[List.getElem?_replicate] at l;split at l <;> cases l
  let X:D[i]? = some v:=by
   unfold UA at l;rw[xN (by simpa using L),zE] at l
   cases e:D[i]? with
   | none=>rw[e] at l;cases l
   | some a=>rw[e] at l;cases l;rfl
  let⟨u,T,rv⟩:=r.get X;let F:C[i]? = some y:=by
   rw[<-S.pre,rD ∅];exact J
  let G:C.Nodup:=by rw[<-S.pre];exact S.nd.sublist (List.take_sublist _ _)
  exists u,rv;rcases S.par y (zM F) with k | k
  ·exact .inl ⟨k,HE G F T k⟩
  ·let⟨c,e⟩:=Gb (n:=s.heap.objs.size+1) k;refine .inr ⟨.inl k,c,e,?_⟩;let q:=x.cell y c e;rw[F4 G F T (by show d.names.lookup y≠_;rw[k];decide)] at q
   exact q
 ·exact o.hok.fresh (yK (x.above y c (PySem.mem_of_lookup h)))
 ·unfold UA;show _=N.length;rw[zT,zX,List.length_replicate]
  lia
def IP{R:VZ}{P:al}{w:ax}{K:zZ}{T:jc}{h:aE}{k:Nat}{f:aj}{z d:Str}{i:Arguments}{j:jI}{a:aF}{dV kV F pm g ct oc:ai}{an od:jz}{a1:Array (jd)}{N U:jt}{sp:Sp}(lk:K.lookup f=some ⟨oc,od,.func (yG z d i j a dV kV F pm an g ct),a1⟩)(X:wT K g d=true)(S:ZC N U a)(O:∀ l H Q E,sp l H Q E->l.length=U.length)(B:∀ (A:ay) (c:jB) (s:ak) (H:Hp) (l:jf) (Q:VK) (E:XK),ZT k (A.deeper (envOfC d a s.heap.objs.size f g))->sp l H Q E ->
   ∃ t,X7 (WW R P w K T h N d a f g A c s H E) j t/\t { nx:=λ_ p=>Q .non p,rt:=Q } (UA N l) H):
  ZI P w K T h R (k+1) f (yG z d i j a dV kV F pm an g ct) U sp:=by
 exists O;intro A c s H args us l Q E Y G hb r M;let hl:=O _ _ _ _ M;let KX:K.In s.heap:=G.mod.kin.keeps λb o e=>(G.bs b o e).1;let a0:s.heap.NoLimit:=G.mod.nolimit.keeps λb o e=>(G.bs b o e).1;let C:∀ y∈U.zip us,a.names.lookup y.1=some .local\/(a.names.lookup y.1=some .cell/\((cellsFrom (s.heap.objs.size+1) a.names []).lookup y.1).isSome=true):=λ⟨n,v⟩ hy=>by
  rcases S.par n (sX hy).1 with q | q
  ·exact .inl q
  ·exact .inr ⟨q,rE _ _ _ (.inl q)⟩
 refine codeAny_call_function Y.depth (KX _ _ lk) Z S.co S.gen Z (PySem.W.codeRec_of KX X) (hb _ _ _ _ ?_);refine wpAny_newFunctionEnv_cells S.kind C λa2 he s1 x=>?_;subst he;refine⟨a0.keeps x.toInCall.keep,codeAny_func ?_⟩;let⟨t,ht,hq⟩:=B A c s H l Q E (Y.deeper _) M;let I:ZF (WW R P w K T h N d a f g A c s H E) [] (UA N l) H s1:=Dg S Y.hd G hl r x;refine ae (ht [] s1 (UA N l) H _ I hq) (λfl s' D=>?_) λe s' D=>D;let L:∀{m:St}{p:Hp}{v:V}{u:ai},ZF (WW R P w K T h N d a f g A c s H E) [] m p s'->ZR v u->Q v p->CE c P w H s Q u s':=
  fun{m p v u} J rv q=>⟨v,p,J.os,J.bare,J.base,J.hok,rv,q⟩
 cases fl with
 | ret u=>
  let⟨v,m,p,J,rv,q⟩:=D;exact L J rv q
 | next=>
  let⟨m,p,J,q⟩:=D;exact L (v:=V.non) (u:=Value.none) J Z q
 | brk=>
  let⟨_,_,_,q⟩:=D;exact False.elim q
 | cont=>
  let⟨_,_,_,q⟩:=D;exact False.elim q
section
variable{x:Str}{p pos:Pos}{e:Expr}{es:jC}{t:TA}{id T:String}{r:jf->Hp->VK->Prop}
def GD(r:jf->Hp->VK->Prop)(t:TA):TE:=λc H Q=>t c H λb a=>r b a Q
def Zw(j:UN X (.builtin id) r)(l:Gl X x)(m:X.mg x=none)(o:az x=some (.builtin id))(i:PA X (e::es) t)(n:x ≠ "__name__" :=by decide)(b:(x==("__debug__" : Str))=false:=by decide)(k:ar (e::es) X.env=(false,aH e X.env)::ar es X.env:=by rfl)(c:(aG pos (ar es X.env)).any (·.1)=false:=by rfl):PE X (.Call (.Name x p) (e::es) [] pos) (GD r t):=by
 intro a s d H Q I h;refine ag (OW I l m o ?_ n b);exact PyProof.Rows.callWith_builtin1 (Z2 (i pos a s d H _ I h) λw v y f g u q=>j a v d f y w Q g u q) k c
def Wn(j:UN X (.type T) r)(l:Gl X x)(m:X.mg x=none)(o:az x=some (.type T))(i:PA X (e::es) t)(n:x ≠ "__name__" :=by decide)(b:(x==("__debug__" : Str))=false:=by decide)(k:ar (e::es) X.env=(false,aH e X.env)::ar es X.env:=by rfl)(c:(aG pos (ar es X.env)).any (·.1)=false:=by rfl):PE X (.Call (.Name x p) (e::es) [] pos) (GD r t):=by
 intro a s d H Q I h;refine ag (OW I l m o ?_ n b);exact PyProof.Rows.callWith_type1 (Z2 (i pos a s d H _ I h) λw v y f g u q=>j a v d f y w Q g u q) k c
end
end L2
variable{X:L2.Cx}{prog P:al}{w:ax}{A:ay}{E:ja}{s:ak}{K:zZ}{mg:jc}{f:aj}{fd:am}{ki:aE}
namespace HT
open PySem PyProof.Rows
def rcLt_int(A:ay)(s:ak)(a:Int)(t:Tok)(c:Int)(u:Tok)(b:al)(w:ax)(E Q:ja)(h:Q (.bool (decide (a<c))) s):
  aC (aB b w) A (richCompare .Lt (.int a t) (.int c u)) Q E s:=
 (PyProof.Rows.lt_int h:aC (aB b w) A (aA .Lt (.int a t) (.int c u)) Q E s)
section
open PySem.SeqAt
open PySem.AutoSeq1 (wpAny_loadPart')
open PySem.MeetsSeq PySem.MeetsSeq2 PySem.MeetsSeq3
end
def sIx(n d:Nat):jG->Nat
 | none=>d
 | some v=>if v<0 then (v+(n:Int)).toNat else min v.toNat n
def sIx_none(n d:Nat):sIx n d none=d:=rfl
def sIx_nat(n d k:Nat):sIx n d (some (k:Int))=min k n:=by
 show (if (k:Int)<0 then ((k:Int)+(n:Int)).toNat else min (k:Int).toNat n)=min k n
 rw[aM ∅,uW]
end HT
namespace L2
open PySem PySem.Spec PyProof.Rows
abbrev TO:=St->Hp->(jG->Hp->Prop)->Prop
def PO(X:Cx)(e:Option Expr)(t:TO):Prop:=
 ∀(a:ju)(s:ak)(b:St)(H:Hp)(Q:jG->Hp->Prop),ZF X a b H s->t b H Q ->
  aC (aB X.prog X.w) X.A (evalPart e X.env) (λu d=>∃ o c,ZF X a b c d/\IsPart u o/\Q o c) X.xe s
def ZM2:TO:=λ_ H Q=>Q none H
inductive OG(Q:jG->Hp->Prop)(x:V)(a:Hp):Prop
 |mk(i:_)(_:x=.int i)(_:Q (some i) a)
def ZP9(t:TE):TO:=λb H Q=>t b H λx a=>OG Q x a
def ZIY{a:jF}:∀{b:je},ZO (a.map V.int) b->IntsAre b a:=by
 induction a with
 | nil=>intro b r;rw[wJ] at r;cases r;exact .nil
 | cons n a c=>
  intro b r;rw[zF] at r
  cases r with
  | cons d f=>
   let⟨t,e⟩:=d;subst e;exact .cons n t (c f)
section
variable{e:Expr}{te:TE}{lo hi:Option Expr}{tl th:TO}{pos p2:Pos}
def FP:PO X none ZM2:=by
 intro a s b H Q I h;rw[evalPart_none];exact ad ⟨none,H,I,.none,h⟩
def O0(h:PE X e te):PO X (some e) (ZP9 te):=by
 intro a s j H Q I d;rw[evalPart_some];refine Z2 (h a s j H _ I d) λu k x b c g f=>?_;let⟨i,rfl,q⟩:=f;let⟨t,rfl⟩:=g;exact⟨some i,b,c,.int i t,q⟩
def GB(X:Cx)(r:V->jG->jG->Hp->VK->Prop):Prop:=
 ∀(a:ju)(s:ak)(f:St)(H:Hp)(x:V)(v c d:ai)(lo hi:jG)(b:aj)(Q:VK),ZF X a f H s->ZR x v->s.heap.IsSliceOf b c d .none->IsPart c lo->IsPart d hi->r x lo hi H Q ->
  ∃ T id,typeLookup (.type T) "__getitem__" = pure (some (.builtin id))/\s.TypeIs v T/\aC (aB X.prog X.w) X.A (getItem v (.ref b)) (EP X a f Q) X.xe s
def As(r:V->jG->jG->Hp->VK->Prop)(te:TE)(tl th:TO):TE:=λa H Q=>te a H λx b=>tl a b λl c=>th a c λu d=>r x l u d Q
def Mo{r:V->jG->jG->Hp->VK->Prop}(C:GB X r)(y:PE X e te)(B:PO X lo tl)(E:PO X hi th):PE X (.Subscript e (.Slice lo hi none p2) pos) (As r te tl th):=by
 intro a s d H Q I h;refine Subscript_ (Z2 (y a s d H _ I h) λv N x j m M J=>?_);refine wpAny_Slice (Z2 (B a N d j _ m J) λf O l k n F K=>Z2 (E a O d k _ n K) λg c u i o G L=>?_);rw[evalPart_none];refine ad ?_;let p:ZF X a d i { c with heap:=c.heap.push { cls:=.type "slice",data:=.fields #[f,g,.none] } }:=o.kept (t':=c.toks) λb P q=>zQ _ q;let⟨T,id,t,D,z⟩:=C a { c with heap:=c.heap.push { cls:=.type "slice",data:=.fields #[f,g,.none] } } d i x v f g l u c.heap.objs.size Q p M (Heap.IsSliceOf.new ..) F G L;show aC (aB X.prog X.w) X.A (subscriptTail e (.Slice lo hi none p2) v (.ref c.heap.objs.size)) (EP X a d Q) X.xe { c with heap:=c.heap.push { cls:=.type "slice",data:=.fields #[f,g,.none] } };exact tail_any (ops:=[.ref c.heap.objs.size,v]) D t z (by with_unfolding_all rfl)
def Ql(a:jf)(lo hi:jG):jf:=(a.drop (HT.sIx a.length 0 lo)).take (HT.sIx a.length a.length hi-HT.sIx a.length 0 lo)
def ZGk(a:jf)(lo hi:jG):(Ql a lo hi).length<=a.length:=by
 unfold Ql;rw[yF,wR];exact zS (sL _ _) (vL _ _)
end
def QD(n:Nat)(i:Int):jw:=if 0<=i then (if i<n then some i.toNat else none) else if -(n:Int)<=i then some (i+n).toNat else none
def Y3{b:Type}(a:List b)(i:Int):Option b:=(QD a.length i).bind λj=>a[j]?
def GY{n:Nat}{i:Int}{j:Nat}(h:QD n i=some j):seqIndex? i n=some j/\j<n /\ -(n:Int)<=i/\i<n:=by
 unfold QD at h;by_cases b:0<=i
 ·rw[aO b] at h;by_cases a:i<n
  ·rw[aO a] at h;let e:i.toNat=j:=zA.inj h;exact⟨by rw[seqIndex_of b a,e],∅,∅,a⟩
  ·rw[aM a] at h;cases h
 ·rw[aM b] at h;by_cases a : -(n:Int)<=i
  ·rw[aO a] at h;let e:(i+n).toNat=j:=zA.inj h;exact⟨by rw[seqIndex_neg ∅ a,e],∅,a,∅⟩
  ·rw[aM a] at h;cases h
def Iw{b:Type}{a:List b}{i:Int}{v:b}(h:Y3 a i=some v):∃ j,seqIndex? i a.length=some j/\a[j]? = some v/\j<a.length /\ -(a.length:Int)<=i/\i<a.length:=by
 unfold Y3 at h
 cases e:QD a.length i with
 | none=>rw[e] at h;cases h
 | some j=>
  rw[e] at h;let⟨c,d,f,g⟩:=GY e;exact⟨j,c,h,d,f,g⟩
def YO{b:Type}{a:List b}{j:Nat}{v:b}(h:a[j]? = some v):Y3 a (j:Int)=some v:=by
 let c:j<a.length:=(zC.mp h).1;let e:QD a.length (j:Int)=some j:=by
  unfold QD;rw[aO ∅,aO ∅];simp
 unfold Y3;rw[e];exact h
def FW{b:Type}(a:List b)(v:b):Y3 (a++[v]) (-1)=some v:=by
 let c:(a++[v]).length=a.length+1:=by simp
 let e:QD (a++[v]).length (-1)=some a.length:=by
  unfold QD;rw[c,aM (by decide),aO ∅]
  congr 1
  lia
 unfold Y3;rw[e];show (a++[v])[a.length]? = some v;simp
def KK(b:Expr):Prop:=∀ o i,subscripted b false o i=operate [o,i] (getItem o i)
def QJ(X:Cx)(r:R2):Prop:=
 ∀(c a:Expr)(b:ju)(s:ak)(d:St)(H:Hp)(x y:V)(v u:ai)(Q:VK),ZF X b d H s->ZR x v->ZR y u->r x y H Q ->
  subscripted a false v u=operate [v,u] (getItem v u)->aC (aB X.prog X.w) X.A (subscriptTail c a v u) (EP X b d Q) X.xe s
def Hl(X:Cx)(id:String)(r:V->jf->Hp->VK->Prop):Prop:=
 ∀(a:ju)(s:ak)(d:St)(H:Hp)(x:V)(c:jf)(v:ai)(b:je)(Q:VK),ZF X a d H s->ZR x v->ZO c b->r x c H Q ->
  aC (aB X.prog X.w) X.A (call (.builtin id) (v::b)) (EP X a d Q) X.xe s
section
variable{a b:Expr}{ta tb:TE}{pos:Pos}
def QJ.or{r g:R2}(h:QJ X r)(l:QJ X g):QJ X (λx y H Q=>r x y H Q\/g x y H Q):=by
 intro d c e s k H x y v u Q I i j q f;rcases q with q | q
 ·exact h d c e s k H x y v u Q I i j q f
 ·exact l d c e s k H x y v u Q I i j q f
def V2{r:R2}(i:QJ X r)(f:PE X a ta)(g:PE X b tb)(j:KK b):PE X (.Subscript a b pos) (Pq r ta tb):=by
 intro c s n H Q I h;exact Subscript_ (Kn f g I h λv u m x y d e k l q=>i a b c m n d x y v u Q e k l q (j _ _))
inductive MA(K:zZ)(x y:V)(H:Hp)(Q:VK):Prop
 |mk(p c i v:_)(_:x=.ref p)(_:y=.int i)(_:ZH K H p c)(_:Y3 c i=some v)(_:Q v H)
inductive PB(K:zZ)(x y:V)(H:Hp)(Q:VK):Prop
 |mk(p c i v:_)(_:x=.ref p)(_:y=.int i)(_:Zj K H p c)(_:Y3 c i=some v)(_:Q v H)
inductive Nx(x y:V)(H:Hp)(Q:VK):Prop
 |mk(z i c:_)(_:x=.str z)(_:y=.int i)(_:z.length<=aq)(_:Y3 z.cps.toList i=some c)(_:Q (.str ⟨#[c]⟩) H)
def Zq:QJ X (MA X.K):=by
 intro n m c s C H x y v u Q I M N h B;let⟨p,T,i,z,rfl,rfl,L,G,q⟩:=h;cases M;let⟨t,rfl⟩:=N;let⟨g,r,k,S⟩:=I.list L;let⟨j,e,D,P,E,F⟩:=Iw G;let⟨w,o,l⟩:=r.get D;let J:=r.length;let R:=O8;let d:EP X c C Q w s:=⟨z,H,I,l,q⟩;by_cases A:0<=i
 ·let f:i.toNat=j:=by
   rw[seqIndex_of A F] at e;exact zA.inj e
  exact item_listR k.isList A ∅ (by rw[f];simpa using o) d B
 ·let f:(i+(g.toArray.size:Int)).toNat=j:=by
   rw[seqIndex_neg ∅ E] at e
   rw[zR,<-J];exact zA.inj e
  exact subscriptTail_builtinR (x:=w) k.isList.typeIs slot_list_getitem.lookup
   (wpAny_getItem_list_neg (Q:=λr O=>r=w/\EP X c C Q r O) k.isList ∅ (by rw[zR] <;> lia) ∅ (by rw[f];simpa using o) ⟨rfl,d⟩) B
def QV:QJ X (PB X.K):=by
 intro g f c s l H x y v u Q I F G h D;let⟨p,R,i,z,rfl,rfl,C,A,q⟩:=h;cases F;let⟨t,rfl⟩:=G;let⟨E,r,k,P⟩:=I.tuple C;let⟨j,n,o,L,M,N⟩:=Iw A;let⟨w,m,e⟩:=r.get o;let B:=r.length;let O:=O8;let d:EP X c l Q w s:=⟨z,H,I,e,q⟩;exact subscriptTail_builtinR (x:=w) k.typeIs slot_tuple_getitem.lookup
  (getItem_tuple (j:=j) (Q:=λr J=>r=w/\EP X c l Q r J) k ∅ ∅ (by rw[zR,<-B];exact n) (by simpa using m) ⟨rfl,d⟩) D
def G1:QJ X Nx:=by
 intro e d g s G H x y v u Q I A B h w;let⟨z,i,c,rfl,rfl,E,p,q⟩:=h;let⟨t,rfl⟩:=A;let⟨F,rfl⟩:=B;let⟨j,f,m,C,n,o⟩:=Iw p;let r:z.cps.toList.length=z.length:=by simp[Str.length]
 rw[r] at f n o;let D:=O8;exact tail_any (typeIs_str s z t) slot_str_getitem.lookup (getItem_str (c:=c) (by
  let k:decide (i < -(2 ^ 63:Int))=false:=aJ ∅
  let l:decide (i ≥ 2 ^ 63)=false:=aJ ∅
  rw[k,l,Bool.or_false]) (by rw[f];simpa using m) ⟨.str ⟨#[c]⟩,H,I.tok _,⟨_,Z⟩,q⟩) w
def MJ(K:zZ):R2:=λx y H Q=>MA K x y H Q\/PB K x y H Q\/Nx x y H Q
def AQ:QJ X (MJ X.K):=Zq.or (QV.or G1)
def XM{X:Cx}{a b:Expr}{ta tb:TE}{pos:Pos}(K:zZ)(c:PE X a ta)(d:PE X b tb)(f:KK b:=by exact λ_ _=>rfl)(e:QJ X (PB K):=by exact QV):PE X (.Subscript a b pos) (Pq (PB K) ta tb):=V2 e c d f
def Zt{X:Cx}{a b:Expr}{ta tb:TE}{pos:Pos}(K:zZ)(c:PE X a ta)(d:PE X b tb)(f:KK b:=by exact λ_ _=>rfl)(e:QJ X (MJ K):=by exact AQ):PE X (.Subscript a b pos) (Pq (MJ K) ta tb):=V2 e c d f
def ZIL(c:je)(n j:Nat)(u:ai):Obj.mapSeq (·.setIfInBounds j u) { cls:=.type "list",data:=.seq c.toArray n }={ cls:=.type "list",data:=.seq (c.set j u).toArray n }:=by
 simp[Obj.mapSeq]
def ZF.lst{d:ju}{g:St}{H:Hp}{s:ak}{p:aj}{f:jf}(I:ZF X d g H s)(h:H p=some (.lst f)):
  ∃(c:je)(n:Nat),ZO f c/\s.heap.get? p=some { cls:=.type "list",data:=.seq c.toArray n }/\f.length<=sizeLine:=by
 let⟨z,c,n,r,e⟩:=I.hok p _ h;exact⟨c,n,r,e,z⟩
def ZF.lstUpd{d:ju}{l:St}{H:Hp}{s:ak}{p:aj}{w j:jf}{g c:je}{n i:Nat}{f:aI->aI}(I:ZF X d l H s)(h:H p=some (.lst w))(o:s.heap.get? p=some { cls:=.type "list",data:=.seq g.toArray n })(k:f { cls:=.type "list",data:=.seq g.toArray n }={ cls:=.type "list",data:=.seq c.toArray i })(r:ZO j c)(v:j.length<=aq)(t:Nat):
  ZF X d l (upd H p (.lst j)) { s with heap:=s.heap.update p f,toks:=t }:=by
 let e:(s.heap.update p f).get? p=some { cls:=.type "list",data:=.seq c.toArray i }:=by
  rw[vS f o (by rw[k] <;> rfl),k]
 refine I.write (x:=p) (e:=p) (by rw[h];trivial) (.inl rfl) (λb u m q=>(vQ _ _ (Ne.symm m)).trans q) ⟨_,e⟩ ?_
 exact⟨v,c,i,r,e⟩
inductive Nk(o i v:V)(H:Hp)(Q:Hp->Prop):Prop
 |mk(p c k j:_)(_:o=.ref p)(_:i=.int k)(_:H p=some (.lst c))(_:QD c.length k=some j)(_:Q (upd H p (.lst (c.set j v))))
def K4:Ep X Nk:=by
 intro d s G H o i v M L u Q I D C E h;let⟨p,F,k,j,rfl,rfl,z,A,q⟩:=h;cases D;let⟨t,rfl⟩:=C;let⟨c,n,r,l,B⟩:=I.lst z;let⟨e,J,x,y⟩:=GY A;let g:=r.length;let K:=O8;let m:ZF X d G (upd H p (.lst (F.set j v))) { s with heap:=s.heap.update p (Obj.mapSeq (·.setIfInBounds j u)) }:=
  I.lstUpd z l (ZIL c n j u) (r.set E j) (by rw[List.length_set];exact B) s.toks
 by_cases w:0<=k
 ·let f:k.toNat=j:=by
   rw[seqIndex_of w y] at e;exact zA.inj e
  exact PySem.W.ki_setAt l w ∅ (by rw[zR,<-g];exact y) (by rw[f];exact⟨_,m,q⟩)
 ·let f:(k+(c.toArray.size:Int)).toNat=j:=by
   rw[seqIndex_neg ∅ x] at e
   rw[zR,<-g];exact zA.inj e
  exact PySem.W.ki_setBack l ∅ (by rw[zR,<-g];exact x) ∅ (by rw[f];exact⟨_,m,q⟩)
def ZFr(d c:jG)(n:Nat):(sliceBounds d c none n).1=((HT.sIx n 0 d:Nat):Int)/\(sliceBounds d c none n).2.1=((HT.sIx n n c:Nat):Int)/\(sliceBounds d c none n).2.2=1:=by
 refine⟨?_,?_,Z⟩
 ·cases d with
  | none=>simp[sliceBounds,HT.sIx]
  | some i=>
   simp only[sliceBounds,HT.sIx,Option.getD_none,show (1:Int) > 0 by decide,if_true]
   by_cases h:i<0
   ·simp only[h,if_true] <;> lia
   ·simp only[h,if_false] <;> lia
 ·cases c with
  | none=>simp[sliceBounds,HT.sIx]
  | some i=>
   simp only[sliceBounds,HT.sIx,Option.getD_none,show (1:Int) > 0 by decide,if_true]
   by_cases h:i<0
   ·simp only[h,if_true] <;> lia
   ·simp only[h,if_false] <;> lia
def Dy(c:je)(d e:jG):slicePick c.toArray d e none=((c.drop (HT.sIx c.length 0 d)).take (HT.sIx c.length c.length e-HT.sIx c.length 0 d)).toArray:=by
 let⟨f,g,h⟩:=ZFr d e c.toArray.size;unfold slicePick;rw[f,g,h];simp only[sliceRange_one,pick_run,zR] <;> rfl
inductive Kr(K:zZ)(x:V)(e d:jG)(H:Hp)(Q:VK):Prop
 |mk(a c:_)(_:x=.ref a)(_:ZH K H a c)(_:∀ p,H p=none->Q (.ref p) (upd H p (.lst (Ql c e d))))
def LE:GB X (Kr X.K):=by
 intro i s A H x v y z e f w Q I t j n p h;let⟨a,c,rfl,k,q⟩:=h;cases t;let⟨m,r,g,l⟩:=I.list k;let d:=r.length;exists "list",_,slot_list_getitem.lookup,g.isList.typeIs;refine wpAny_getItem_list_slice g.isList j n p .none (by simp) ?_ (by rw[zR] <;> lia)
 rw[Dy,<-d];refine⟨.ref s.heap.objs.size,_,I.laid (t':=s.toks) (o:=.lst (Ql c e f)) (λb u q=>zQ _ q) (zY _) ?_,Z,q _ (I.hok.fresh (zY _))⟩;exact⟨zS (ZGk c e f) l,_,0,(r.drop (HT.sIx c.length 0 e)).take (HT.sIx c.length c.length f-HT.sIx c.length 0 e),yS _ Z⟩
inductive Wh(d:zZ)(e:jf)(H:Hp)(Q:VK):Prop
 |mk(p c:_)(_:e=[.ref p])(_:ZH d H p c\/Zj d H p c)(_:Q (.int c.length) H)
def XE:UN X (.builtin "len") (Wh X.K):=by
 intro i s t H o n Q I r h;let⟨p,j,rfl,d,q⟩:=h;let⟨u,rfl,l⟩:=UB r;cases l;let m:=O8;rcases d with d | d
 ·let⟨e,g,f,k⟩:=I.list d;let c:=g.length;exact Calls.call_len_list f.isList (by simp only[zR] <;> lia) ⟨.int j.length,H,I.tok _,⟨s.toks+1,by rw[zR,c]⟩,q⟩
 ·let⟨e,g,f,k⟩:=I.tuple d;let c:=g.length;exact len_tuple f (by simp only[zR] <;> lia) ⟨.int j.length,H,I.tok _,⟨s.toks+1,by rw[zR,c]⟩,q⟩
inductive WZ(c:jf)(H:Hp)(Q:VK):Prop
 |mk(z:_)(_:c=[.str z])(_:z.length<=aq)(_:Q (.int z.length) H)
def Bc:UN X (.builtin "len") (WZ):=by
 intro c s i H g f Q I r h;let⟨z,rfl,e,q⟩:=h;let⟨u,rfl,t,rfl⟩:=UB r;let d:=O8;exact len_str ∅ ⟨.int z.length,H,I.tok _,⟨_,Z⟩,q⟩
inductive Wg(d:zZ)(e:jf)(H:Hp)(Q:VK):Prop
 |mk(p c:_)(_:e=[.ref p])(_:ZH d H p c\/Zj d H p c)(_:∀ l,H l=none->Q (.ref l) (upd H l (.lst c)))
def Pz:UN X (.type "list") (Wg X.K):=by
 intro t s D H F E Q I r h;let⟨p,A,rfl,k,q⟩:=h;let⟨u,rfl,C⟩:=UB r;cases C;let i:∀(c:je),ZO A c->A.length<=aq->∀(d:aE)(f:Nat),(∀ b B,s.heap.get? b=some B->d.get? b=some B) ->
   d.get? s.heap.objs.size=some { cls:=.type "list",dict:=none,data:=.seq c.toArray f,slots:=#[] }->EP X t D Q (.ref s.heap.objs.size) { s with heap:=d }:=λc g l d f m e=>
  ⟨.ref s.heap.objs.size,_,I.laid (t':=s.toks) m (zY _) (show Ze X.prog X.w _ d _ (.lst A) from ⟨l,c,f,g,e⟩),rfl,q _ (I.hok.fresh (zY _))⟩
 rcases k with k | k
 ·let⟨c,g,z,l⟩:=I.list k;let j:=g.length;let⟨o,y,v,n,x⟩:=z.isList;exact call_list_seq p (.inl rfl) y v x (λd f m e=>i c g l d f m e) (by simp only[zR] <;> lia)
 ·let⟨c,g,z,l⟩:=I.tuple k;let j:=g.length;let⟨o,y,v,n,x⟩:=z;exact call_list_seq p (.inr rfl) y v x (λd f m e=>i c g l d f m e) (by simp only[zR] <;> lia)
inductive WP(d:zZ)(e:jf)(H:Hp)(Q:VK):Prop
 |mk(p c:_)(_:e=[.ref p])(_:(ZH d H p c/\∀ l,H l=none->Q (.ref l) (upd H l (.tup c)))\/(Zj d H p c/\Q (.ref p) H))
def Oy:UN X (.type "tuple") (WP X.K):=by
 intro c s t H A z Q I r h;let⟨p,n,rfl,h⟩:=h;let⟨u,rfl,y⟩:=UB r;cases y;rcases h with ⟨g,q⟩ | ⟨g,q⟩
 ·let⟨d,j,i,m⟩:=I.list g;let l:=j.length;refine call_tuple_list i.isList (λf x=>?_) (by simp only[zR] <;> lia)
  let k:ZF X c t H { s with heap:=f }:=I.kept (t':=s.toks) x;let v:ZF X c t (upd H f.objs.size (.tup n)) { s with heap:=f.push { cls:=.type "tuple",data:=.seq d.toArray } }:=
   k.laid (t':=s.toks) (λb o e=>zQ _ e) (zY _) (show Ze X.prog X.w _ _ _ (.tup n) from ⟨m,d,j,IsTup.new _ _⟩)
  exact⟨.ref f.objs.size,_,v,Z,q _ (k.hok.fresh (zY _))⟩
 ·let⟨d,j,i,m⟩:=I.tuple g;exact call_tuple_same i ⟨.ref p,H,I,Z,q⟩
def Ju(K:zZ)(T:String)(x:V)(H:Hp):Prop:=match x with
 | .str _=>T = "str"
 | .int _=>T = "int"
 | .ref p=>(T = "list" /\ ∃ d,ZH K H p d)\/(T = "tuple" /\ ∃ o,K.lookup p=some o/\o.cls=.type "tuple" /\ o.dict=none) \/
   (T = "dict" /\ ((∃ c,H p=some (.dK c))\/∃ c,H p=some (.dT c)))\/(T = "set" /\ ∃ S n,H p=some (.set S n))
 | _=>False
def Go{g:ju}{A:St}{H:Hp}{s:ak}{T:String}{x:V}{v:ai}(I:ZF X g A H s)(r:ZR x v)(h:Ju X.K T x H):
  s.TypeIs v T/\∀ a,v=.ref a->∃ m,s.heap.get? a=some m/\m.dict=none:=by
 cases x with
 | str z=>
  let⟨t,rfl⟩:=r;cases(show T = "str" from h);exact⟨typeIs_str s z t,λ_ e=>nomatch e⟩
 | int i=>
  let⟨t,rfl⟩:=r;cases(show T = "int" from h);exact⟨typeIs_int s i t,λ_ e=>nomatch e⟩
 | ref p=>
  cases r;rcases h with ⟨rfl,B,w⟩ | ⟨rfl,o,d,u,k⟩ | ⟨rfl,d⟩ | ⟨rfl,S,n,d⟩
  ·let⟨y,_,q,_⟩:=I.list w;exists q.isList.typeIs;intro a e;cases e;let⟨o,n,e,c,k,_⟩:=q;exact⟨o,e,k⟩
  ·exists ⟨o,I.kIn p o d,u⟩;intro a e;cases e;exact⟨o,I.kIn _ o d,k⟩
  ·let z:∃ o,s.heap.get? p=some o/\o.ExactDict:=by
    rcases d with ⟨l,d⟩ | ⟨l,d⟩
    ·let⟨_,_,_,_,o,_,_,e,f,_⟩:=I.hok p _ d;exact⟨o,e,f⟩
    ·let⟨_,_,_,_,o,_,_,e,f,_⟩:=I.hok p _ d;exact⟨o,e,f⟩
   let⟨o,e,f⟩:=z;exists ⟨o,e,f.1⟩;intro a j;cases j;exact⟨o,e,f.2.1⟩
  ·let⟨o,_,_,_,e,f,_⟩:=I.hok p _ d;exists ⟨o,e,f.1⟩;intro a j;cases j;exact⟨o,e,f.2.1⟩
 | _=>exact False.elim h
def AY(K:zZ)(T:String)(r:V->jf->Hp->VK->Prop)(d:TE):TE:=λe H Q=>d e H λx c=>Ju K T x c/\r x [] c Q
def BJ(K:zZ)(T:String)(r:V->jf->Hp->VK->Prop)(f:TE)(t:TA):TE:=λd H Q=>f d H λx c=>Ju K T x c/\t d c λg e=>r x g e Q
variable{o e:Expr}{es:jC}{to:TE}{t:TA}{name:Str}{jk jj:Pos}{T id:String}{r:V->jf->Hp->VK->Prop}
def B3(w:PlainAttrs T)(g:Slot T name id)(i:typeOf (.builtin id)=pure (.type "method_descriptor"))(q:Hl X id r)(u:PE X o to)(d:attributeBase o name X.env (aH o X.env)=aH o X.env:=by rfl)(f:(jk.endLine==jj.line)=true:=by rfl):PE X (.Call (.Attribute o name jk) [] [] jj) (AY X.K T r to):=by
 intro c s l H Q I h;refine wpAny_Call_method0_late d f (Zy (u c s l H _ I h) ?_);rintro v z ⟨x,m,j,k,A,y⟩;let⟨n,p⟩:=Go j k A;exact⟨T,id,w,g,i,n,p,Calls.callWith_builtin Z (PySem.evalArgs_none (q c z l m x [] v [] Q j k .nil y))⟩
def Qj(E:PlainAttrs T)(j:Slot T name id)(k:typeOf (.builtin id)=pure (.type "method_descriptor"))(B:Hl X id r)(C:PE X o to)(A:PA X (e::es) t)(f:attributeBase o name X.env (aH o X.env)=aH o X.env:=by rfl)(i:((aG jj (ar (e::es) X.env)).all (λx=>!x.1)&&(backToKw jj (keywordEach [] X.env)).all (λx=>x.1.isSome)
   && decide ((e::es).length+([]:List Keyword).length+(if ([]:List Keyword).isEmpty then 0 else 1)<30))=true:=by rfl)(g:(jk.endLine==jj.line)=true:=by rfl)(D:ar (e::es) X.env=(false,aH e X.env)::ar es X.env:=by rfl)(d:(aG jj (ar es X.env)).any (·.1)=false:=by rfl):
  PE X (.Call (.Attribute o name jk) (e::es) [] jj) (BJ X.K T r to t):=by
 intro c s l H Q I h;refine wpAny_Call_method_late f i g Z (Zy (C c s l H _ I h) ?_);rintro v L ⟨x,q,m,p,N,F⟩;let⟨y,z⟩:=Go m p N;exists T,id,E,j,k,y,z;let n:=A jj c L l q _ m F;rw[D] at n⊢;refine Calls.callWith_builtin (by show (false || (aG jj (ar es X.env)).any (·.1))=false;rw[d] <;> rfl) (Calls.evalArgs_plain ?_)
 exact Z2 n λO M P u w J G=>B c M l u x P v O Q w p J G
end
def Mi(X:Cx)(id:String)(r:V->jf->Hp->VK->Prop):Prop:=
 ∀(a:ju)(s:ak)(d:St)(H:Hp)(x:V)(c:jf)(v:ai)(b:je)(Q:VK),ZF X a d H s->ZR x v->ZO c b->r x c H Q ->
  aC (aB X.prog X.w) X.A (call (.builtin id) (v::b)) (EP X a d Q) X.xe s
def ZO.one:∀{x:V}{a:je},ZO [x] a->∃ u,a=[u]/\ZR x u:=λh=>by cases h with | cons r n=>cases n;exact⟨_,Z,r⟩
def ZO.zero:∀{a:je},ZO [] a->a=[]
 | _,.nil=>rfl
def ZO.dropLast{b:jf}{a:je}(h:ZO b a):ZO b.dropLast a.dropLast:=by
 induction h with
 | nil=>exact .nil
 | cons r t c=>
  cases t with
  | nil=>exact .nil
  | cons q d=>exact .cons r c
def C8{d:Type}(l:List d):l.eraseIdx (l.length-1)=l.dropLast:=by
 induction l with
 | nil=>rfl
 | cons a r c=>
  cases r with
  | nil=>rfl
  | cons b r=>
   let e:(a::b::r).length-1=((b::r).length-1)+1:=by
    let f:(a::b::r).length=r.length+2:=rfl;let g:(b::r).length=r.length+1:=rfl
    lia
   rw[e,List.eraseIdx_cons_succ,c]
   all_goals rfl
section
variable{kh:ju}{σ:St}{H:Hp}{l b:aj}{xs ys zs:jf}
def ZF.lset{a its':je}{n:Nat}{f:jx->jx}{k:Nat}(I:ZF X kh σ H s)(c:H l=some (.lst xs))(e:s.heap.get? l=some { cls:=.type "list",data:=.seq a.toArray n })(g:f a.toArray=its'.toArray)(i:ZO ys its')(j:ys.length<=aq):
  ZF X kh σ (upd H l (.lst ys)) { s with heap:=s.heap.update l (Obj.mapSeq f),toks:=k }:=by
 let q:=PySem.IsL.update e f;rw[g] at q;refine I.write (x:=l) (e:=l) (by rw[c];exact trivial) (.inl rfl) (λm u d h=>(vQ s.heap (Obj.mapSeq f) (Ne.symm d)).trans h) ⟨_,q⟩ ?_
 exact⟨j,its',_,i,q⟩
def ZF.lnew{a:je}{t':Nat}(I:ZF X kh σ H s)(c:ZO ys a)(d:ys.length<=aq):
  ZF X kh σ (upd H s.heap.objs.size (.lst ys)) { s with heap:=s.heap.push { cls:=.type "list",data:=.seq a.toArray },toks:=t' }:=
 I.laid (λ_ _ q=>zQ _ q) (zY _) ⟨d,a,0,c,yS _ rfl⟩
def ZF.fresh(I:ZF X kh σ H s):H s.heap.objs.size=none:=I.hok.fresh (zY _)
def ZF.lstM(I:ZF X kh σ H s)(c:H l=some (.lst xs)):xs.length<=aq/\∃(a:je)(n:Nat),ZO xs a/\xs.length=a.length/\s.heap.get? l=some { cls:=.type "list",data:=.seq a.toArray n }:=by
 let⟨z,a,n,r,e⟩:=I.hok l _ c;exact⟨z,a,n,r,r.length,e⟩
def HJ{n:Nat}(h:n<=aq):Builtin.List.listTooLong n=false:=by
 unfold Builtin.List.listTooLong;exact aJ ∅
end
inductive PF(x:V)(b:jf)(H:Hp)(Q:VK):Prop
 |mk(l a y:_)(_:x=.ref l)(_:b=[y])(_:H l=some (.lst a))(_:a.length<aq)(_:Q .non (upd H l (.lst (a++[y]))))
def Qy:Mi X "list.append" PF:=by
 intro c s p H x m v k Q I g f h;let⟨l,o,y,rfl,rfl,b,j,q⟩:=h;cases g;let⟨u,rfl,d⟩:=f.one;let⟨z,a,n,r,i,e⟩:=I.lstM b;refine call_meets F.slot_list_append ⟨_,e,Z⟩ F.entry_list_append (F.args_list_append_2 _ _) (PySem.list_append l a.toArray n u (by rw[zR];lia)) ⟨e,?_⟩
 refine⟨.non,_,I.lset (its':=a++[u]) b e (by simp) (r.append (.cons d .nil)) ?_,Z,q⟩
 rw[zT,vR]
 lia
inductive PQ(x:V)(d:jf)(H:Hp)(Q:VK):Prop
 |mk(l b a c:_)(_:x=.ref l)(_:d=[.ref b])(_:H l=some (.lst a))(_:H b=some (.lst c))(_:a.length+c.length<=aq)(_:Q .non (upd H l (.lst (a++c))))
def ZIl:Mi X "list.extend" PQ:=by
 intro i s K H x D v C Q I y w h;let⟨l,b,E,J,rfl,rfl,g,k,B,q⟩:=h;cases y;let⟨u,rfl,t⟩:=w.one;cases t;let⟨z,c,n,r,A,e⟩:=I.lstM g;let⟨G,a,o,p,m,j⟩:=I.lstM k;let f:c.toArray.size+a.toArray.size<=sizeLine:=by rw[zR,zR];lia
 let d:¬ (!c.toArray.isEmpty&&Builtin.List.listTooLong (c.toArray.size+a.toArray.size))=true:=by
  rw[HJ f,tW];exact zW
 refine call_meets F.slot_list_extend ⟨_,e,Z⟩ F.entry_list_extend (F.args_list_extend_2 _ _)
  (AutoSeq1.list_extend_list_list_0 l c.toArray n b a.toArray o d (by rw[zR];lia) ∅) ⟨e,j,?_⟩
 refine⟨.non,_,I.lset (its':=c++a) g e (by simp) (r.append p) ?_,Z,q⟩
 rw[zT]
 lia
inductive KC(x:V)(b:jf)(H:Hp)(Q:VK):Prop
 |mk(l a y:_)(_:x=.ref l)(_:b=[])(_:H l=some (.lst a))(_:a[a.length-1]? = some y)(_:Q y (upd H l (.lst a.dropLast)))
def ZOu:Mi X "list.pop" KC:=by
 intro f s A H x t v p Q I o m h;let⟨l,w,y,rfl,rfl,d,j,q⟩:=h;cases o;let b:=m.zero;subst b;let⟨z,a,n,r,g,e⟩:=I.lstM d;let⟨u,i,k⟩:=r.get j;let c:a.toArray[a.toArray.size-1]? = some u:=by
  show a.toArray[a.length-1]? = some u;rw[<-yQ,<-g];exact i
 refine call_meets F.slot_list_pop ⟨_,e,Z⟩ F.entry_list_pop (F.args_list_pop_1 _) (MeetsSeq.list_pop_last l a.toArray n u c (by rw[zR];lia)) ⟨e,?_⟩
 refine⟨y,_,I.lset (its':=a.dropLast) d e ?_ r.dropLast ?_,k,q⟩
 ·show a.toArray.eraseIdxIfInBounds (a.toArray.size-1)=a.dropLast.toArray;rw[zR,List.eraseIdxIfInBounds_toArray,C8]
 ·rw[List.length_dropLast]
  lia
inductive NZ(x y:V)(H:Hp)(Q:VK):Prop
 |mk(l b a c:_)(_:x=.ref l)(_:y=.ref b)(_:H l=some (.lst a))(_:H b=some (.lst c))(_:a.length+c.length<=aq)(_:∀ p,H p=none->Q (.ref p) (upd H p (.lst (a++c))))
def Mn:XH X (binaryOp .Add) NZ:=by
 intro d s E H x y v u Q I o p h;let⟨l,b,B,D,rfl,rfl,j,i,w,q⟩:=h;cases o;cases p;let⟨z,c,n,r,t,e⟩:=I.lstM j;let⟨C,a,A,m,k,f⟩:=I.lstM i;refine PySem.P.add_list e f ?_ (by rw[zR,zR];lia)
 let g:c.toArray++a.toArray=(c++a).toArray:=by simp
 rw[g];exact⟨.ref _,_,I.lnew (t':=s.toks) (r.append m) (by rw[zT];lia),Z,q _ I.fresh⟩
end L2
namespace Att
open PySem PySem.W PySem.Calls PyProof.Rows
def ZDW{P:Params}{h:aE}:∀(c:jF)(d:je),WellAll P h d (c.map WData.int)->IntsAre d c:=by
 intro c
 induction c with
 | nil=>
  intro d w;rw[wJ] at w;cases w;exact .nil
 | cons n c e=>
  intro d w;rw[zF] at w
  cases w with
  | cons a b=>
   cases a;exact .cons _ _ (e _ b)
def ZKA{l:OpenLaw}{n:Nat}(v:l.most=some n){P:Params}{h:aE}{args:List WData}{e:je}(c:l.row.toRowW.claim.pre args=true)(m:WellAll P h e args):
  ∃ a p b,e=[Value.ref a]/\args=[WData.list (b.map WData.int)]/\h.get? a=some { cls:=.type "list",data:=.seq p.toArray }/\IntsAre p b/\b.length<=n:=by
 let k:WShape.hasAll [] args [.list .int]=true:=(pre_splitW c).1;let o:l.pre.holds [] { args:=args }=true:=(pre_splitW c).2;let⟨d,r,rfl,s,t⟩:=hasAllW_cons k;obtain rfl:=hasAllW_nil t;let⟨A,rfl,u⟩:=hasW_list s;let⟨b,rfl⟩:=items_int u;let g:b.length<=n:=by
  unfold OpenLaw.pre at o;let i:(WTm.not (.lt (.lit (.int (n:Int))) (.len (.arg 0)))).holds [] { args:=[.list (b.map .int)] }=true:=by
   let i:=(holds_andW o).1;rw[v] at i;exact i
  let j:=condW_of i (w_not (w_lt w_lit (w_len_list (w_arg rfl))));rw[zX] at j;refine wY λq=>?_;let x:(n:Int)<((b.length:Nat):Int):=∅
  first
   | (rw[aK x] at j;exact absurd j (by decide))
   | (simp at j;lia)
 cases m with
 | cons y z=>
  cases z
  cases y with
  | list w f=>exact⟨_,_,b,Z,Z,w,ZDW b _ f,g⟩
def CZ(l:OpenLaw)(args:List WData):l.row.toRowW.claim.post args (.bool true) args=true:=
 postW_of (r:=l.row.toRowW) (X:=(true==true))
  (show WShape.has [] (.bool true) .bool=true by first | rfl | decide | simp[WShape.has,WShape.arms,WShape.armsAll])
  (show (WTm.eq .res (.lit (.bool true))).value [] { args:=args,res:=some (.bool true),after:=args }=some (.bool (true==true)) from w_eq_bool (w_res rfl) w_lit) rfl
def attach_call{l:OpenLaw}{n:Nat}{q:al}{c:jt}{E:(jc)->aE->Prop}{F:ax->aE->Prop}{d:DefRec}(S:l.most=some n)(z:d.params.defaults=[])(j:∀ (w:ax) (e b:ak) (u C:jc) (k:aj) (o:aI) (D t g:ai) (a:aj) (i:je) (v:jF),
   Ground q c [] E w e u C b.heap->F w b.heap ->
   b.heap.get? k=some o->o.data=.func (docDef d.name d.params d.body d.scope D t g)->b.heap.CodeRec t d.name->u d.name=some (.ref k) ->
   b.heap.get? a=some { cls:=.type "list",data:=.seq i.toArray }->IntsAre i v->v.length<=n->b.gens=#[] ->
   codeAny (aB l.prog w) callerA (.call (.ref k) ⟨[.ref a],[]⟩) (λr x=>r=.ok (.ret (.bool true))/\OldK b.heap x.heap/\x.os=b.os/\AllBare x.gens) b):
  WalkO q c E F l.row.toRowW d [] (λf i=>PySem.call f i):=by
 intro w e b u C G Y k o D t g K kV T O y H A P args J W s I V B Q;obtain rfl:K=.none:=Dflts.none H z;obtain rfl:kV=.none:=Dflts.noKw H;let⟨a,i,v,rfl,rfl,p,h,m⟩:=ZKA S s B;refine enter_call (codeAny_mono (j w e b u C k o D t g a i v G Y T (fd_plain O) y A p h m P) λr x U=>?_);let⟨rfl,L,M,N⟩:=U;exact⟨.inl ⟨.bool true,.bool true,[],Z,λ_=>rfl,.bool true,CZ l _,λ_=>⟨tY.nil,λ_ R=>(nomatch R)⟩⟩,L,M,N⟩
section
variable{K:Frag}
def ZRG(h:aE)(L d:aj):ju:=(yU h.objs.size).filterMap λa=>if a=L\/a=d then none else (h.get? a).map λo=>(a,o)
end
end Att
namespace L2
open PySem PySem.Spec PyProof.Rows
def Iy:∀{b:je}{a:jF},IntsAre b a->ZO (a.map V.int) b:=by intro _ _ h;induction h with
 | nil=>exact .nil
 | cons n t _ c=>exact .cons ⟨t,Z⟩ c
def K1(H:Hp):Prop:=∀ b,H b=none\/∃ o a,H b=some (.frz o (.lst a))
def ZLX{P:al}{w:ax}{K:zZ}{M mb:jc}{CX:VZ}{k:Nat}{S a:aj}{fd:am}{x:Str}{sp:Sp}{c:ak}{y:je}{N:jF}(KX:K.In c.heap)(G:c.heap.Ns ao M)(g:c.heap.Ns builtinsNs mb)(U:∀ x:Str,x ≠ "__name__"->mb x=az x)(E:c.heap.NoLimit)(hg:c.gens=#[])(Q:c.heap.get? a=some { cls:=.type "list",data:=.seq y.toArray })(hi:IntsAre y N)(hl:N.length<=aq)(hr:ZT k callerA)(F:∀ i:aE,K.In i->i.Ns ao M->ZI P w K M i CX k S fd [x] sp)(t:∀ (s:ak) (u:ai),BindsTo s fd ⟨[u],[]⟩ [(x,u)])(Y:∀ H:Hp,K1 H->ZH K H a (N.map V.int)->sp [.ref a] H (λv _=>v=.bl true) λ_ _ _=>False)(T:∀ H e j,CX [] H c (λ_ _ _=>False) e j->False):
  codeAny (aB P w) callerA (.call (.ref S) ⟨[.ref a],[]⟩) (λr j=>r=.ok (.ret (.bool true))/\OldK c.heap j.heap/\j.os=c.os/\AllBare j.gens) c:=by
 let rv:=Iy hi;let L:=hi.length;let p:∀ H:Hp,K1 H->ZH K H a (N.map V.int)->Yd P w H c.heap->(∀ b,H b≠none->b=a)->(H a≠none->K.lookup a=none) ->
   codeAny (aB P w) callerA (.call (.ref S) ⟨[.ref a],[]⟩) (λr j=>r=.ok (.ret (.bool true))/\OldK c.heap j.heap/\j.os=c.os/\AllBare j.gens) c:=by
  intro H hO hS I hA hK;let f:∀{b:aj}{o:aI},c.heap.get? b=some o->H b=none->(V0 c.heap H).get? b=some o:=λe n=>Fm e n;let a0:∀{b:aj}{o:aI}{C:Array DictEntry}{B:Nat},c.heap.get? b=some o->o.data=.dict C B->H b=none:=fun{b o C B} e d=>by
   cases q:H b with
   | none=>rfl
   | some u=>
    let R:b=a:=hA b (by rw[q];simp)
    subst R;rw[Q] at e;cases e;let d':Data.seq y.toArray _=Data.dict C B:=d;cases d'
  let l:∀{b:aj}{m:jc},c.heap.Ns b m->(V0 c.heap H).Ns b m:=fun{b m} ⟨o,C,B,e,d,r⟩=>⟨o,C,B,f e (a0 e d),d,r⟩;let D:K.In (V0 c.heap H):=λb o e=>f (KX b o e) (by
   cases q:H b with
   | none=>rfl
   | some u=>
    let R:b=a:=hA b (by rw[q];simp)
    subst R;rw[hK (by rw[q];simp)] at e;cases e)
  let hM:Mod K M (V0 c.heap H):=⟨D,l G,⟨mb,l g,U⟩,let ⟨mc,h1,h2⟩:=E;⟨mc,l h1,h2⟩⟩;let e0:VO P w K M (V0 c.heap H) callerA [] c H:=⟨Z,hM,λb o e=>DJ e,wK (Ee _ _),trivial,λb g=>absurd (show b∈([]:jE) from g) (by simp),I,.of_eq hg⟩
  refine codeAny_mono ((F _ D (l G)).run callerA [] c H ⟨[.ref a],[]⟩ [.ref a] [.ref a] _ _ hr e0 (t c (.ref a)) (.cons rfl .nil) (Y H hO hS)) λr j h=>?_
  cases r with
  | error e=>exact(T H e j h).elim
  | ok fl=>
   cases fl with
   | next=>exact False.elim h
   | brk=>exact False.elim h
   | cont=>exact False.elim h
   | ret u=>
    let⟨v,H',os,A,un,J,r',q⟩:=h;let q':v=.bl true:=q;subst q';obtain rfl:u=Value.bool true:=r';refine⟨Z,OldK.of_keep λb o e=>?_,os,A⟩
    cases q:H b with
    | none=>exact un.keep b o e q (by intro z;exact absurd (show b∈([]:jE) from z) (by simp)) (by simp)
    | some u=>
     rcases hO b with z | ⟨ob,xs,z⟩
     ·rw[q] at z;cases z
     ·let z2:=un.frzs b ob _ z;let⟨e1,_⟩:=I b _ z;let⟨e2,_⟩:=J b _ z2;rw[e] at e1;cases e1;exact e2
 cases X:K.lookup a with
 | some o=>
  let e:=KX a o X;rw[Q] at e;cases e;refine p (λ_=>none) (λ_=>.inl Z) (.inr ⟨_,y.toArray,_,X,rfl,rfl,rfl,by rw[zR,L];exact hl,by simpa using rv⟩) (λb u z=>by let O:(none:Option HO)=some u:=z;cases O) (λb z=>absurd Z z) λz=>absurd Z z
 | none=>
  refine p (λb=>if b=a then some (.frz { cls:=.type "list",data:=.seq y.toArray } (.lst (N.map V.int))) else none) (λb=>?_) (.inl (.inr ⟨{ cls:=.type "list",data:=.seq y.toArray },aO rfl⟩)) (λb u z=>?_) (λb z=>?_) λ_=>X
  ·by_cases g:b=a
   ·exact .inr ⟨_,_,aO g⟩
   ·exact .inl (aM g)
  ·by_cases g:b=a
   ·let O:=(aO g).symm.trans z;cases O;subst g;exact⟨Q,by rw[zX];exact hl,y,_,rv,Q⟩
   ·let O:=(aM g).symm.trans z;cases O
  ·by_cases g:b=a
   ·exact g
   ·exact absurd (aM g) z
abbrev KOf{K:zZ}{h:aE}(_:K.In h):zZ:=K
def ZQJ{l:tP}{n k:Nat}{q:al}{loose:jt}{XP:(jc)->aE->Prop}{YP:ax->aE->Prop}{d:DefRec}{K:Params->zZ}{CX:ax->VZ}{sp:ax->Sp}{x:Str}(hn:l.most=some n)(hn2:n<=aq)(hdf:d.params.defaults=[])(hr:ZT k callerA)(hY:∀ (w:ax) (h:aE),YP w h->(K w.params).In h)(F:∀ (w:ax) (m:jc) (t:aj) (h:aE),(K w.params).In h->h.Ns ao m->m d.name=some (.ref t) ->
   ∃ z:am,(∀ (s:ak) (u:ai),BindsTo s z ⟨[u],[]⟩ [(x,u)]) /\
    ∀ c:aE,(K w.params).In c->c.Ns ao m->ZI l.prog w (K w.params) m c (CX w) k t z [x] (sp w))(hsp:∀ (w:ax) (H:Hp) (a:aj) (y:jF),y.length<=n->K1 H->ZH (K w.params) H a (y.map V.int)->sp w [.ref a] H (λv _=>v=.bl true) λ_ _ _=>False)(hCX:∀ (w:ax) (H:Hp) (s:ak) (e:ai) (B:ak),CX w [] H s (λ_ _ _=>False) e B->False):
  sP q loose XP YP l.row.toRowW d [] (λf E=>PySem.call f E):=by
 refine Att.attach_call hn hdf λw D r m U t o X Q I a E y G Y S R O A p j i P=>?_;let C:=hY w _ Y;let⟨z,N,J⟩:=F w m t _ C G.T.g A;exact ZLX C G.T.g G.T.b G.T.builtins G.T.nolimit P p j (zS i hn2) hr J N (λH L M=>hsp w H a y i L M) λH e B=>hCX w H r e B
def Wt(s:aD)(j:Nat):Stmt:=match s with
 | .ClassDef _ _ _ a _ _ _ _ _ _ _=>a.getD j (.Pass ⟨0,0,0,0⟩)
 | _=>.Pass ⟨0,0,0,0⟩
def Uj(s:aD):Arguments:=match s with
 | .FunctionDef _ a _ _ _ _ _ _ _ _=>a
 | _=>{ posonlyargs:=[],args:=[],vararg:=none,kwonlyargs:=[],kw_defaults:=[],kwarg:=none,defaults:=[] }
def WT(s:aD):List Stmt:=match s with
 | .FunctionDef _ _ b _ _ _ _ _ _ _=>b
 | _=>[]
def Za(s:aD):Scope:=match s with
 | .FunctionDef _ _ _ _ _ _ a _ _ _=>a
 | _=>{ kind:=.function,names:=[],isGenerator:=false,isCoroutine:=false }
abbrev ZQ:VZ:=λ_ _ _ _ _ _=>False
abbrev E0:XK:=λ_ _ _=>False
def Yn{X:Cx}:QE ZQ X E0:=λ_ _ _ _ _ _ _ h=>h.elim
structure Zg(K:zZ)(x qual:Str)(st:aD)(f:aj)(fd:am):Prop where
 ex:∃(oc:ai)(od:jz)(kV doc pm:ai)(an:jz)(cdv ct:ai)(osl:Array (jd)),
  fd=yG x qual (Uj st) (WT st) (Za st) .none kV doc pm an cdv ct/\K.lookup f=some ⟨oc,od,.func fd,osl⟩/\wT K cdv qual=true
 kp:yJ K (.ref f)=true
def Zg.ok{x b:Str}{g:aD}{f:aj}{o:am}{N m:jt}{k:Nat}{n:Sp}(F:Zg K x b g f o)(S:ZC N m (Za g))(l:∀ e H Q E,n e H Q E->e.length=m.length)(d:∀ (c:ai) (A:ay) (a:jB) (s:ak) (H:Hp) (e:jf) (Q:VK) (E:XK),ZT k (A.deeper (envOfC b (Za g) s.heap.objs.size f c))->n e H Q E ->
   let X:=(WW ZQ P w K mg ki N b (Za g) f c A a s H E).nox;∃ t,X7 X (WT g) t/\t { nx:=λ_ p=>Q .non p,rt:=Q } (UA N e) H):ZI P w K mg ki ZQ (k+1) f o m n:=by
 let⟨B,C,kV,r,D,z,c,ct,y,rfl,v,i⟩:=F.ex;refine IP v i S l λA a s H e Q E u j=>?_;let⟨t,h,q⟩:=d c A a s H e Q E u j;exact⟨t,h.nox,q⟩
def Zg.ko{x a:Str}{g:aD}{f:aj}{m:am}{N j:jt}{k:Nat}{l:Sp}(F:Zg K x a g f m)(S:ZC N j (Za g))(b:∀ (e:ai) (A:ay) (c:jB) (s:ak) (H:Hp) (d:jf) (Q:VK) (E:XK),ZT k (A.deeper (envOfC a (Za g) s.heap.objs.size f e))->l d H Q E ->
   let X:=(WW ZQ P w K mg ki N a (Za g) f e A c s H E).nox;∃ t,X7 X (WT g) t/\t { nx:=λ_ n=>Q .non n,rt:=Q } (UA N d) H)(i:∀ d H Q E,l d H Q E->d.length=j.length:=by intro d _ _ _ h;cases h;(try subst d);rfl):ZI P w K mg ki ZQ (k+1) f m j l:=F.ok S i b
def Zg.binds{x a:Str}{d:aD}{f:aj}{k:am}{i:jt}(F:Zg K x a d f k)(h:∀ (kV c g:ai) (e:jz) (b ct:ai) (j:je),j.length=i.length->bindArgs (yG x a (Uj d) (WT d) (Za d) .none kV c g e b ct) ⟨j,[]⟩=pure (i.zip j)):Zo K k i []:=by
 let⟨o,p,kV,c,g,e,b,ct,m,rfl,n,l⟩:=F.ex;exact .all (h kV c g e b ct)
def Qd{x a:Str}{st:aD}{f:aj}{i:ai}{j g:jz}{e:Array (jd)}{kV d h b ct:ai}(l:K.lookup f=some ⟨i,j,.func (yG x a (Uj st) (WT st) (Za st) .none kV d h g b ct),e⟩)(c:wT K b a=true)(k:yJ K (.ref f)=true):Zg K x a st f (yG x a (Uj st) (WT st) (Za st) .none kV d h g b ct):=⟨⟨i,j,kV,d,h,g,b,ct,e,Z,l,c⟩,k⟩
def MY{A:ay}{k:Nat}(a:ZT k A):A.units+1<cLine:=xG (rX (by decide:1<=64) _) a.units
def Y2{n:Nat}(h:n<=1000):n<sizeLine:=xG h (by decide)
def pv(i:Nat){x:Str}{pos:Pos}(b:X.N[i]? = some x:=by rfl)(d:LH X.env.scope x:=by first | exact Or.inl rfl | exact Or.inr (Or.inl rfl) | exact Or.inr (Or.inr rfl))(c:(x==("__debug__" : Str))=false:=by decide)(a:(x==("__classdict__" : Str))=false:=by decide):PE X (.Name x pos) (VB i):=ZOw b d c a
def Zf{A B:Prop}(h:B):if false=true then A else B:=by
 rw[aM zW];exact h
def Zs{A B:Prop}(h:A):if true=true then A else B:=by
 rw[aO rfl];exact h
def Xz{c A B:Prop}[Decidable c](a:c->A)(b:¬ c->B):if c then A else B:=by
 by_cases h:c
 ·rw[aO h];exact a h
 ·rw[aM h];exact b h
def ZQk{c A B:Prop}[Decidable c](a:c)(h:B):if (!decide c)=true then A else B:=by
 rw[aK a];exact Zf h
def ZD(H a:Hp):Prop:=∀ b o,H b=some o->a b=some o
def ZD.refl(H:Hp):ZD H H:=λ_ _ h=>h
def ZD.trans{H d e:Hp}(a:ZD H d)(b:ZD d e):ZD H e:=λc o h=>b c o (a c o h)
def ZD.free{H a:Hp}(e:ZD H a){l:aj}(h:a l=rO):H l=rO:=by
 cases q:H l with
 | none=>rfl
 | some o=>
  rw[e l o q] at h;cases h
def ZD.seq{K:zZ}{H b:Hp}{a:aj}{c:jf}(e:ZD H b)(h:ZH K H a c):ZH K b a c:=by
 rcases h with (h | ⟨o,h⟩) | h
 ·exact .inl (.inl (e _ _ h))
 ·exact .inl (.inr ⟨o,e _ _ h⟩)
 ·exact .inr h
section
variable{R:Result->ak->Prop}
def ZGO{elt target iter:Expr}{ifs:jC}{scope:aF}{pos:Pos}{it acc:ai}{env:Env}(I:Nat->ak->Prop)(turn:∀ n s,I n s->aC (aB prog w) A (pyNext it) (λr d=>match r with
   | none=>R (.ok .next) d
   | some v=>aC (aB prog w) A (letOwnedTupleGo target it v) (λ_ j=>aC (aB prog w) A (assign target env v) (λ_ k=>
     aC (aB prog w) A (forIn ifs true λc r=>if r=true then do let y<-isTrue c env (aH c env);pure (ForInStep.yield y) else pure (ForInStep.yield r)) (λy f=>
      if y=true then aC (aB prog w) A (aH elt env) (λx l=>
       aC (aB prog w) A (call (.builtin "list.append") [acc,x]) (λ_ o=>∃ m,m<n/\I m o) (notedBy (aB prog w) A env λe b=>R (.error e) b) l) (notedBy (aB prog w) A env λe b=>R (.error e) b) f
      else ∃ m,m<n/\I m f) (notedBy (aB prog w) A env λe b=>R (.error e) b) k) (notedBy (aB prog w) A env λe b=>R (.error e) b) j) (notedBy (aB prog w) A env λe b=>R (.error e) b) d) (notedBy (aB prog w) A env λe b=>R (.error e) b) s)(n:Nat)(h:I n s):
  codeAny (aB prog w) A (.compLoop (.ListComp elt [⟨target,iter,ifs,0⟩] scope pos) 0 it acc env) R s:=by
 refine codeAny_loop Z I (λn s z=>?_) n h;show aC _ A ((compTurn (.ListComp elt [⟨target,iter,ifs,0⟩] scope pos) 0 it acc env).onRaise (λx=>do noteFrame x env;theTreesLotGoes x)) _ _ s
 refine wpAny_noted ?_;rw[compTurn_list];refine aa (wpAny_standAt (aa (ae (turn n s z) (λr d g=>?_) λ_ _ a=>a)))
 cases r with
 | none=>exact ad g
 | some v=>
  refine aa (ae g (λ_ j p=>?_) λ_ _ a=>a);refine aa (ae p (λ_ k q=>aa (ae q (λy f i=>?_) λ_ _ a=>a)) λ_ _ a=>a)
  cases y with
  | false=>exact ad ⟨Z,i⟩
  | true=>
   exact aa (aa (ae i (λx l t=>aa (ae t (λ_ o u=>ad (ad ⟨Z,u⟩)) λ_ _ a=>a)) λ_ _ a=>a))
end
def WU(b:Env)(l:List (Str×NameKind)):jH->jH:=λa=>l.foldl (λa p=>if p.2==.free then (p.1,(b.cells.lookup p.1).getD 0)::a else a) a
def MC(a:Env)(l:List (Str×NameKind)):Prop:=∀ p∈l,p.2=.free->∃ c,a.cells.lookup p.1=some c
def Ew{b:Env}{d:aF}(h:MC b d.names):closureFor d b=pure (WU b d.names []):=by
 let i:∀(l:List (Str×NameKind))(f:jH),MC b l->(forIn l f λx r=>if (x.2==.free)=true then do let a<-cellOf b x.1;pure (ForInStep.yield ((x.1,a)::r)) else pure (ForInStep.yield r):Sem (jH))=pure (WU b l f):=by
  intro l
  induction l with
  | nil=>intro f _;rfl
  | cons p r n=>
   intro f j;let e:WU b (p::r) f=WU b r (if p.2==.free then (p.1,(b.cells.lookup p.1).getD 0)::f else f):=rfl
   rw[sO,e]
   cases o:(p.2==NameKind.free) with
   | true=>
    let⟨c,m⟩:=j p zI (eq_of_beq o);let g:cellOf b p.1=pure c:=by unfold cellOf;rw[m]
    simp only[if_true,g,pure_bind];rw[n _ λq k=>j q (zG _ k),m];rfl
   | false=>
    simp only[wW,if_false,pure_bind];exact n _ λq k=>j q (zG _ k)
 have:=i d.names [] h;simpa [closureFor] using this
def F8{a:Env}:∀{l:List (Str×NameKind)}{b:jH}{x:Str}{c:aj},MC a l->(WU a l b).lookup x=some c->b.lookup x=some c\/a.cells.lookup x=some c
 | [],_,_,_,_,h=>.inl h
 | p::r,b,x,c,hf,h=>by
  let i:(WU a r (if p.2==.free then (p.1,(a.cells.lookup p.1).getD 0)::b else b)).lookup x=some c:=h
  rcases F8 (λq j=>hf q (zG _ j)) i with q | q
  ·cases f:(p.2==NameKind.free) with
   | true=>
    rw[f,aO rfl,xI] at q
    cases e:x==p.1 with
    | true=>
     rw[e] at q;let⟨d,g⟩:=hf p zI (eq_of_beq f);refine .inr ?_;rw[eq_of_beq e,g];rw[g] at q;exact q
    | false=>
     rw[e] at q;exact .inl q
   | false=>
    rw[f,aM zW] at q;exact .inl q
  ·exact .inr q
def EF{a:Env}{x:Str}:∀{l:List (Str×NameKind)}{b:jH},(b.lookup x).isSome=true->((WU a l b).lookup x).isSome=true
 | [],_,h=>h
 | p::r,b,h=>by
  show ((WU a r (if p.2==.free then (p.1,(a.cells.lookup p.1).getD 0)::b else b)).lookup x).isSome=true
  refine EF ?_
  cases c:(p.2==NameKind.free) with
  | true=>
   rw[aO rfl,xI]
   cases e:x==p.1 with
   | true=>rfl
   | false=>exact h
  | false=>rw[aM zW];exact h
def EH{a:Env}{x:Str}:∀{l:List (Str×NameKind)}{b:jH},(x,NameKind.free)∈l->((WU a l b).lookup x).isSome=true
 | [],_,h=>by cases h
 | p::r,b,h=>by
  show ((WU a r (if p.2==.free then (p.1,(a.cells.lookup p.1).getD 0)::b else b)).lookup x).isSome=true
  rcases yT.mp h with e | h
  ·subst e;refine EF ?_;show (xM x ((x,(a.cells.lookup x).getD 0)::b)).isSome=true;rw[xI,beq_self_eq_true];rfl
  ·exact EH h
def Yt(a:Env)(b:jH):Prop:=∀ x c,b.lookup x=some c->a.cells.lookup x=some c
def Yt.get{a:Env}{b:jH}{x:Str}{c:aj}(h:Yt a b)(e:b.lookup x=some c):a.cells.lookup x=some c:=h x c e
def FU{a:Env}{l:List (Str×NameKind)}(h:MC a l):Yt a (WU a l []):=λx c e=>by
 rcases F8 h e with q | q
 ·cases q
 ·exact q
def GH{env:Env}:∀{names:List (Str×NameKind)}{x:Str},names.lookup x=some .free ->
  (names.map fun(n,k)=>if (k==NameKind.free&&env.scope.kind==.function&&env.kindOf n==some .cell) then (n,NameKind.cell) else (n,k)).lookup x=some .cell \/
  (names.map fun(n,k)=>if (k==NameKind.free&&env.scope.kind==.function&&env.kindOf n==some .cell) then (n,NameKind.cell) else (n,k)).lookup x=some .free
 | [],_,h=>by simp at h
 | (n,k)::r,x,h=>by
  rw[xI] at h;simp only[zF]
  cases a:x==n with
  | true=>
   rw[a] at h;cases h;split
   ·exact .inl (by rw[xI,a])
   ·exact .inr (by rw[xI,a])
  | false=>
   rw[a] at h;let b:=GH (env:=env) h;split
   ·rw[xI,a];exact b
   ·rw[xI,a];exact b
def Gx{env:Env}:∀{names:List (Str×NameKind)}{x:Str},(∀ y∈names,y.2≠.cell) ->
  ((names.map fun(n,k)=>if (k==NameKind.free&&env.scope.kind==.function&&env.kindOf n==some .cell) then (n,NameKind.cell) else (n,k)).lookup x=some .cell \/
  (names.map fun(n,k)=>if (k==NameKind.free&&env.scope.kind==.function&&env.kindOf n==some .cell) then (n,NameKind.cell) else (n,k)).lookup x=some .free)->(x,NameKind.free)∈names
 | [],_,_,h=>by simp at h
 | (n,k)::r,x,hc,h=>by
  let e:∀ y∈r,y.2≠.cell:=λy f=>hc y (zG _ f);simp only[zF] at h
  cases b:x==n with
  | true=>
   let c:=eq_of_beq b;subst c;by_cases a:k=.free
   ·subst a;exact zI
   ·let d:(k==NameKind.free)=false:=by simpa using a
    simp only[d,vN,wW,if_false,xI,beq_self_eq_true] at h;rcases h with h | h
    ·exact absurd (zA.inj h) (hc _ zI)
    ·exact absurd (zA.inj h) a
  | false=>
   refine zG _ (Gx (env:=env) e ?_);split at h
   ·simpa only [xI,b] using h
   ·simpa only [xI,b] using h
def YG(X:Cx)(a:aF):jq->jt->Prop
 | [],[]=>True
 | i::is,y::ys=>X.N[i]? = some y/\(X.env.kindOf y=some .cell\/X.env.kindOf y=some .free)/\a.names.lookup y=some .free/\YG X a is ys
 | _,_=>False
def YG.len{X:Cx}{a:aF}:∀{b:jq}{c:jt},YG X a b c->b.length=c.length
 | [],[],_=>rfl
 | _::_,_::_,h=>congrArg (· + 1) h.2.2.2.len
def YG.get{X:Cx}{a:aF}:∀{b:jq}{c:jt}{j:Nat}{y:Str},YG X a b c->c[j]? = some y ->
  ∃ i,b[j]? = some i/\X.N[i]? = some y/\(X.env.kindOf y=some .cell\/X.env.kindOf y=some .free)/\a.names.lookup y=some .free
 | [],[],_,_,_,h=>by simp at h
 | i::_,z::_,0,y,f,h=>by
  simp at h;subst h;exact⟨i,Z,f.1,f.2.1,f.2.2.1⟩
 | _::b,_::c,j+1,y,f,h=>by
  let⟨i,e,r⟩:=YG.get (j:=j) f.2.2.2 (by simpa using h)
  exact⟨i,by simpa using e,r⟩
def WV(X:Cx)(N:jt)(a:aF)(b:jH)(C:aj)(s:ak)(H:Hp)(c:jE)(E:ja):Cx where
 prog:=X.prog
 w:=X.w
 K:=X.K
 mg:=X.mg
 base:=X.base
 A:=X.A
 N:=N
 s₀:=s
 H₀:=H
 env:=compEnvC a b C X.env
 outer:=X.stack
 stack:=X.stack
 ex:=c
 fn:=λ_=>false
 calm:=X.calm
 pn:=[]
 xe:=E
def NU(b:St)(a:jq)(x:V):St:=some x::a.map λi=>(b[i]?).join
def Od(X:Cx)(b:jC)(e:TT):Prop:=
 ∀(a:ju)(s:ak)(d:St)(H:Hp)(Q:Bool->Hp->Prop),ZF X a d H s->e d H Q ->
  aC (aB X.prog X.w) X.A (forIn b true λc r=>if r=true then do let ok<-isTrue c X.env (aH c X.env);pure (ForInStep.yield ok) else pure (ForInStep.yield r)) (TP X a d Q) X.xe s
def Ie:TT:=λ_ H Q=>Q true H
def Vf{X:Cx}:Od X [] Ie:=λ_ _ _ H _ I h=>wpAny_tests_nil ⟨H,I,h⟩
def OX{X:Cx}{c:Expr}{t:TT}(h:PT X c t):Od X [c] t:=λa s d H Q I b=>wpAny_tests_one (h a s d H Q I b)
def UQ(J:It)(j:St)(h:jq)(l:TT)(k:TE)(e:Hp)(Q:VK):Prop:=
 ∀ D,e D=none->∃ W:Nat->Nat->Hp->Prop,(∃ m,W 0 m (upd e D (.lst [])))/\∀ i m H,W i m H ->
  (J.stop i H/\Q (.ref D) H)\/(J.go i H/\∀ x d,J.yld i H x d->l (NU j h x) d λc f=>
   if c=true then k (NU j h x) f λy g=>∃ b a,g D=some (.lst b)/\b.length<aq/\a<m/\W (i+1) a (upd g D (.lst (b++[y])))
   else ∃ a,a<m/\W (i+1) a f)
def GQ(f:TI)(c:jq)(e:TT)(d:TE):TE:=λa H Q=>f a H λJ b=>UQ J a c e d b Q
section
variable{kh:ju}{σ:St}{H:Hp}
def ZKK{b:jq}{j:Nat}{v:V}(h:(b.map λi=>(σ[i]?).join)[j]? = some (some v)):∃ i,b[j]? = some i/\σ[i]? = some (some v):=by
 rw[zE] at h
 cases e:b[j]? with
 | none=>rw[e] at h;cases h
 | some i=>
  rw[e] at h;let a:(σ[i]?).join=some v:=zA.inj h;exists i,Z
  cases q:σ[i]? with
  | none=>rw[q] at a;cases a
  | some o=>
   rw[q] at a
   cases o with
   | none=>cases a
   | some z=>cases a;rfl
def Ny(a:Env)(l:List (Str×NameKind)):Bool:=l.all λp=>!(p.2==.free) || a.kindOf p.1==some .cell || a.kindOf p.1==some .free
def HR{X:Cx}{l:List (Str×NameKind)}(a:X.Ok)(h:Ny X.env l=true):MC X.env l:=λp c b=>by
 let q:=yZ.mp h p c;rw[b] at q;let d:(X.env.kindOf p.1==some .cell || X.env.kindOf p.1==some .free)=true:=by simpa using q
 rcases Bool.or_eq_true_iff.mp d with q | q
 ·exact a.has p.1 (.inl (eq_of_beq q))
 ·exact a.has p.1 (.inr (eq_of_beq q))
def NF(a:aF)(x:Str):Bool:=a.kind==.function&&a.names.lookup x==some .local&&a.names.all (λp=>!(p.2==.cell))&&a.names.all (λp=>!(p.2==.local) || a.names.lookup p.1==some .local)
structure PM(scope:aF)(x:Str):Prop where
 kind:scope.kind=.function
 own:scope.names.lookup x=some .local
 cell:∀ y∈scope.names,y.2≠.cell
 names:∀ y∈scope.names,y.2=.local->scope.names.lookup y.1=some .local
def Ms{a:aF}{x:Str}(h:NF a x=true):PM a x:=by
 unfold NF at h;rw[zO,zO,zO] at h;let⟨⟨⟨c,d⟩,e⟩,f⟩:=h;refine⟨eq_of_beq c,eq_of_beq d,λy b z=>?_,λy b z=>?_⟩
 ·have:=yZ.mp e y b;rw[z] at this;cases this
 ·have:=yZ.mp f y b;rw[z] at this;let q:(a.names.lookup y.1==some NameKind.local)=true:=by simpa using this
  exact eq_of_beq q
def Hh{a:aF}{b:Env}(d:∀ y∈a.names,y.2≠.cell)(y:Str)(h:(relabel a b).names.lookup y=some .cell\/(relabel a b).names.lookup y=some .free):∃ c,(WU b a.names []).lookup y=some c:=
 sZ.mp (EH (Gx d h))
def F3(i:Nat)(t:TE):TS:=λD σ H=>t σ H λv a=>D.nx (σ.set i (some v)) a
end
def Lc(b:jt)(c:St)(a:jq):St:=b.map (λ_=>(none:jg))++a.map λi=>(c[i]?).join
def Nc(J:It)(k:Nat)(g:TG)(p:St)(n:jq)(s:TT)(r:TE)(h:Hp)(Q:VK):Prop:=
 ∀ D,h D=none->∃ W:Nat->Nat->Hp->Prop,(∃ m,W 0 m (upd h D (.lst [])))/\∀ i m H,W i m H ->
  (J.stop i H/\Q (.ref D) H)\/(J.go i H/\∀ x f,J.yld i H x f->∀ o:St,o.length=k->g x (o++n.map λi=>(p[i]?).join) f λa q=>(∃ d:St,d.length=k/\a=d++n.map λi=>(p[i]?).join)/\s a q λc j=>
   if c=true then r a j λy l=>∃ e b,l D=some (.lst e)/\e.length<aq/\b<m/\W (i+1) b (upd l D (.lst (e++[y])))
   else ∃ b,b<m/\W (i+1) b j)
def E2(k:Nat)(g:TG)(f:TI)(c:jq)(e:TT)(d:TE):TE:=λa H Q=>f a H λJ b=>Nc J k g a c e d b Q
section
variable{kh:ju}{σ:St}{H:Hp}
def ZI5{t K:jt}{J:jq}{a:aF}{L:jH}{fp:jE}{E:ja}{g:aE}{D C n tk:Nat}{m:jc}(I:ZF X kh σ H s)(N:∀ b∈fp,VV X kh H b/\b<s.heap.objs.size)(f:Yt X.env L)(B:a.kind=.function)(w:∀ y,((relabel a X.env).names.lookup y=some .cell\/(relabel a X.env).names.lookup y=some .free)->∃ c,L.lookup y=some c)(fo:YG X a J K)(M:s.heap.objs.size<=D)(R:s.heap.objs.size<=C)(S:D≠C)(T:g.Ns C m)(k:∀ b o,s.heap.get? b=some o->g.get? b=some o)(hd:g.get? D=some { cls:=.type "list",data:=.seq ([]:je).toArray n }):
  ZF (WV X (t++K) a L C s H fp E) [] (Lc t σ J) (upd H D (.lst [])) { s with heap:=g,toks:=tk }:=by
 let d:∀ y c,L.lookup y=some c->c<s.heap.objs.size:=λy c e=>by
  let⟨v,q⟩:=I.cell y c (f.get e);exact q.lt
 refine⟨⟨I.ok.mod,B,I.ok.glob,I.ok.blt,R,λy z c h1 h2=>I.ok.inj y z c (f.get h1) (f.get h2),w,λy c h _=>absurd h (by simp[WV]),I.ok.hd,I.ok.frames,.inl Z,λb G=>⟨?_,λy c e=>?_⟩,I.bs,zS I.ok.bsz I.sz,λb o e G=>?_,λb G z=>?_,I.stack,I.stkFree⟩,
  Z,I.bare,Un.laid k M (I.hok.fresh M),⟨m,T,λj y v e1 e2 F=>?_⟩,λy c e=>?_,?_,λy c e=>?_,λp hp=>absurd (show p∈([]:ju) from hp) (by simp),I.hok.laid k M ?_,?_⟩
 ·exact yW (yY (N b G).2 R)
 ·exact(N b G).1.2.2.2.2.1 y c (f.get e)
 ·let⟨_,_,_,z,_⟩:=(N b G).1;rcases z with z | z
  ·exact I.ok.noex b o e z
  ·exact absurd (yY (zP (I.ok.bs b o e).1) z) (wA _)
 ·let⟨_,z1,z2,_⟩:=(N b G).1;rcases yT.mp (I.stkSub b z) with q | q
  ·exact z1 q
  ·exact z2 q
 ·by_cases O:j<t.length
  ·exfalso
   let F:(t.map (λ_=>(none:jg))++J.map λi=>(σ[i]?).join)[j]? = some (some v):=e2;rw[xN (by rw[zX];exact O),zE,zV O] at F
   cases F
  ·let Y:(t++K)[j]? = some y:=e1;let P:K[j-t.length]? = some y:=by rw[yE (wY O)] at Y;exact Y
   let F:(t.map (λ_=>(none:jg))++J.map λi=>(σ[i]?).join)[j]? = some (some v):=e2;let Q:(J.map λi=>(σ[i]?).join)[j-t.length]? = some (some v):=by
    rw[yE (by rw[zX];exact wY O),zX] at F
    exact F
   let⟨i,q1,q2⟩:=ZKK Q;let⟨i',p1,p2,x,W⟩:=fo.get P;rw[q1] at p1;cases p1;let p4:(relabel a X.env).names.lookup y=some .cell\/(relabel a X.env).names.lookup y=some .free:=GH W;let⟨c,p5⟩:=w y p4;let⟨m0,a0,hl⟩:=I.loc;let⟨u,r,l⟩:=hl i y v p2 q2 (.inr x);refine⟨u,r,.inr ⟨p4,c,p5,?_⟩⟩;rcases l with ⟨l1,_⟩ | ⟨_,c',l2,l3⟩
   ·rcases x with x | x
    ·rw[l1] at x;cases x
    ·rw[l1] at x;cases x
   ·rw[f.get p5] at l2;cases l2;let⟨o,U,A⟩:=l3;exact⟨o,k _ _ U,A⟩
 ·let⟨v,o,U,A⟩:=I.cell y c (f.get e);exact⟨v,o,k _ _ U,A⟩
 ·show upd H D (.lst []) C=none;rw[ZU (Ne.symm S)];exact I.hok.fresh R
 ·show upd H D (.lst []) c=none;rw[ZU (yW (yY (d y c e) M))];exact I.freeC y c (f.get e)
 ·exact⟨zN _,[],n,.nil,hd⟩
 ·show (Lc t σ J).length=(t++K).length;unfold Lc;rw[zT,zX,zX,fo.len,zT]
def Hz(k:Nat)(c:jq)(σ a:St):Prop:=∃ b:St,b.length=k/\a=b++c.map λi=>(σ[i]?).join
inductive Iz(Y:Cx)(k:Nat)(f:jq)(σ:St)(g:Nat->aE->Prop)(e:jE)(W:Nat->Nat->Hp->Prop)(n:Nat)(d:ak):Prop
 |mk(i:Nat)(a:St)(c:Hp):ZF Y [] a c d->Hz k f σ a->g i d.heap->(∀ b∈e,c b=none)->W i n c->Iz Y k f σ g e W n d
def FQ{elt iter tg:Expr}{xs:jt}{g:TG}{ifs:jC}{scope:aF}{cl:jH}{pos:Pos}{ix:jq}{ys:jt}{tt:TT}{te:TE}{it:aj}{fp:jE}{tn:Nat->aE->Prop}{J:It}{Q:VK}{E:ja}{RR:ai->aj->Result->ak->Prop}(hc:X.calm=true)(hg:∀ C s H fp E,PG (WV X (xs++ys) scope cl C s H fp E) tg g)(ht:∀ C s H fp E,Od (WV X (xs++ys) scope cl C s H fp E) ifs tt)(he:∀ C s H fp E,PE (WV X (xs++ys) scope cl C s H fp E) elt te)(sub:Yt X.env cl)(hkind:scope.kind=.function)(hcell:∀ y∈scope.names,y.2≠.cell)(hhas:∀ y,((relabel scope X.env).names.lookup y=some .cell\/(relabel scope X.env).names.lookup y=some .free)->∃ c,cl.lookup y=some c)(fo:YG X scope ix ys)(I:ZF X kh σ H s)(T:Uy X.prog X.w X.K tg J fp it tn)(st:tn 0 s.heap)(hf:∀ b∈fp,VV X kh H b)(q:Nc J xs.length g σ ix tt te H Q)(hRR:∀ D C s' H' m,s.heap.objs.size<=C->ZF X kh σ H' s'->VV X kh H' C->s'.heap.Ns C m->Q (.ref D) H'->RR (.ref D) C (.ok .next) s'):
  aC (aB X.prog X.w) X.A (newList []) (λacc s₃=>aC (aB X.prog X.w) X.A (newFunctionEnv scope X.env.globals cl [] X.env.qual none .none (some X.env)) (λcenv s₄=>
   codeAny (aB X.prog X.w) X.A (.compStart (.ListComp elt [⟨tg,iter,ifs,0⟩] scope pos) 0 (.ref it) acc { cenv with scope:=relabel scope X.env }) (RR acc cenv.locals) s₄) E s₃) E s:=by
 refine wpAny_newObj_type (wpAny_newFunctionEnv hcell (by intro y hy;simp at hy) (λh₁ hns₁ hsb₁=>?_) hkind)
 dsimp only at hns₁ hsb₁⊢;generalize hH2:s.heap.push { cls:=.type "list",dict:=none,data:=.seq ([]:je).toArray }=H2 at hns₁ hsb₁⊢;let hC:H2.objs.size=s.heap.objs.size+1:=by rw[<-hH2,sR]
 let hDC:s.heap.objs.size≠H2.objs.size:=by rw[hC];exact yW (wS _)
 let hCle:s.heap.objs.size<=H2.objs.size:=by rw[hC];exact xD _
 let below:∀ b,b<s.heap.objs.size->b≠H2.objs.size/\b≠s.heap.objs.size:=λb hb=>⟨by rw[hC];exact yW (Nat.lt_succ_of_lt hb),yW hb⟩
 let old:∀ b o,s.heap.get? b=some o->h₁.get? b=some o:=λb o e=>hsb₁.extBut b o (below b (zP e)).1 (zQ _ (hH2 ▸ zQ _ e));let hacc:∃ n,h₁.get? s.heap.objs.size=some { cls:=.type "list",data:=.seq ([]:je).toArray n }:=⟨_,hsb₁.extBut _ _ hDC (zQ _ (hH2 ▸ yS _ rfl))⟩;let⟨nD,hacc⟩:=hacc;let hf':∀ b∈fp,VV X kh H b/\b<s.heap.objs.size:=λb hb=>⟨hf b hb,by let⟨o,e,_⟩:=T.obj 0 _ st b hb;exact zP e⟩
 let hDn:H s.heap.objs.size=none:=I.hok.fresh (zY _);let⟨W,⟨m0,w0⟩,turn⟩:=q _ hDn;generalize hE:notedBy (aB X.prog X.w) X.A (compEnvC scope cl H2.objs.size X.env) (λe s'=>RR (.ref s.heap.objs.size) H2.objs.size (.error e) s')=EE;let I0:ZF (WV X (xs++ys) scope cl H2.objs.size s H fp EE) [] (Lc xs σ ix) (upd H s.heap.objs.size (.lst [])) { s with heap:=h₁,toks:=s.toks+([]:jL).length }:=
  ZI5 I hf' sub hkind hhas fo (zY _) hCle hDC hns₁ old hacc
 let st1:tn 0 h₁:=T.keep _ _ _ st λb _ o e=>old b o e;let fr1:∀ b∈fp,upd H s.heap.objs.size (.lst []) b=none:=λb hb=>by rw[ZU (below b (hf' b hb).2).2];exact(hf b hb).1
 let stat:∀{H':Hp},(∀ b∈fp,H' b=none)->∀ b∈fp,VV (WV X (xs++ys) scope cl H2.objs.size s H fp EE) [] H' b:=λhn b hb=>
  ⟨hn b hb,(I0.ok.exf b hb).1,I0.ok.exfs b hb,.inl hb,(I0.ok.exf b hb).2,λp hp=>absurd (show p∈([]:ju) from hp) (by simp)⟩
 let loop:∀ s₃:ak,s₃={ s with heap:=h₁,toks:=s.toks+([]:jL).length } ->
   codeAny (aB X.prog X.w) X.A (.compLoop (.ListComp elt [⟨tg,iter,ifs,0⟩] scope pos) 0 (.ref it) (.ref s.heap.objs.size) (compEnvC scope cl H2.objs.size X.env)) (RR (.ref s.heap.objs.size) H2.objs.size) s₃:=by
  rintro s₃ rfl;refine ZGO (Iz (WV X (xs++ys) scope cl H2.objs.size s H fp EE) xs.length ix σ tn fp W) ?_ m0 ⟨0,_,_,I0,⟨_,zX _,Z⟩,st1,fr1,w0⟩;rintro n s3 ⟨i,σ3,H3,I3,⟨o3,ho3,hσ3⟩,st3,fr3,w3⟩;rw[hE];rcases turn i n H3 w3 with ⟨stop,qn⟩ | ⟨go,step⟩
  ·refine Zy (T.done (WV X (xs++ys) scope cl H2.objs.size s H fp EE) Z Z Z hc i [] s3 σ3 H3 EE I3 (stat fr3) st3 stop) ?_;rintro r s4 ⟨hr,I4⟩;subst hr;let⟨m4,hn4,_⟩:=I4.loc;let Ix:ZF X kh σ H3 s4:=I.call' (s':=s4) (ch:=fp) I4.os I4.base I4.hok I4.bare λb hb=>by
    let⟨_,z1,_,z3,z4,z5⟩:=hf b hb;exact⟨z3,z1,z4,z5⟩
   exact hRR _ _ s4 H3 m4 hCle Ix (I.fpOk hCle I4.free) hn4 qn
  ·refine Zy (T.item (WV X (xs++ys) scope cl H2.objs.size s H fp EE) Z Z Z hc i [] s3 σ3 H3 EE I3 (stat fr3) st3 go) ?_;rintro r s4 ⟨u,hr,h4⟩;subst hr;refine Zy h4 ?_;rintro _ s5 ⟨xv,H5,I5,r5,y5,st5,fr5⟩;let I5':=I5.pinned (stat fr5) (T.obj _ _ st5);let again:∀{σ7:St}{H7:Hp}{s7:ak}{m':Nat},ZF (WV X (xs++ys) scope cl H2.objs.size s H fp EE) ([]++Nf fp s5.heap) σ7 H7 s7->Hz xs.length ix σ σ7->m'<n->W (i+1) m' H7 ->
     ∃ m,m<n/\Iz (WV X (xs++ys) scope cl H2.objs.size s H fp EE) xs.length ix σ tn fp W m s7:=fun{σ7 H7 s7 m'} I7 e7 hm w7=>by
    refine⟨m',hm,.mk (i+1) σ7 H7 I7.unpinned e7 (T.keep _ _ _ st5 λb hb o e=>(I7.pin (b,o) (yL _ (yL _ (M4 hb e)))).1) (λb hb=>?_) w7⟩;let⟨o,e,d⟩:=T.obj _ _ st5 b hb;exact(I7.pin (b,o) (yL _ (yL _ (M4 hb e)))).2.1
   let stp:=step xv _ y5 o3 ho3;rw[<-hσ3] at stp;refine Zy (hg _ _ _ _ _ _ s5 σ3 H5 xv u _ I5' r5 stp) ?_;rintro _ s6 ⟨σ6,H6,I6,e6,q6⟩;refine Zy (ht _ _ _ _ _ _ s6 _ _ _ I6 q6) ?_;rintro ok s7 ⟨H7,I7,q7⟩
   cases ok with
   | false=>
    rw[aM zW] at q7⊢;let⟨m',hm,w7⟩:=q7;exact again I7 e6 hm w7
   | true=>
    rw[aO rfl] at q7⊢;refine Zy (he _ _ _ _ _ _ s7 _ _ _ I7 q7) ?_;rintro y s8 ⟨yv,H8,I8,r8,ys8,m',e8,z8,hm,w8⟩;refine Zy (Qy _ s8 _ H8 (.ref s.heap.objs.size) [yv] (.ref s.heap.objs.size) [y] (λ_ H9=>W (i+1) m' H9) I8 Z (.cons r8 .nil) ⟨_,ys8,yv,Z,Z,e8,z8,w8⟩) ?_;rintro _ s9 ⟨_,H9,I9,_,w9⟩;exact again I9 e6 hm w9
 exact codeAny_compStart_list (loop _ Z) (T.self _ 0 _ _ _ st1 (loop _ rfl))
def F7{f c r:Expr}(j:jt)(x:Str){g:TG}{i:jC}{a:aF}{pos:Pos}{z:TI}{y:TT}{u:TE}(t:jq)(k:jt)(hc:X.calm=true)(hg:∀ C s H d E,PG (WV X (j++k) a (WU X.env a.names []) C s H d E) r g)(hi:PI X r c z)(ht:∀ C s H d E,Od (WV X (j++k) a (WU X.env a.names []) C s H d E) i y)(he:∀ C s H d E,PE (WV X (j++k) a (WU X.env a.names []) C s H d E) f u)(V:YG X a t k)(hk:Ny X.env a.names=true:=by rfl)(n:NF a x=true:=by rfl)(hs:∀ x,foldedSetIterable c X.env x=pure x:=by intro _;rfl):
  PE X (.ListComp f [⟨r,c,i,0⟩] a pos) (E2 j.length g z t y u):=by
 intro kh s σ H Q I h;let B:=Ms n;let F:=HR I.ok hk;rw[eval_ListComp];refine wpAny_comprehension_free (use:=none) Z hs (Ew F) B.kind B.names (Zy (hi kh s σ H _ I h) λv s1 W=>Zy W λa0 s2 Y=>?_);let⟨it,d,tn,J,H2,e,K,T,p,O,q2⟩:=Y;subst e;refine FQ (RR:=λl C=>compPost (aB X.prog X.w) X.A X.xe none (EP X kh σ Q) l C) hc hg ht he (FU F) B.kind B.cell (Hh B.cell) V K T p O q2 ?_;intro D C s' G m hC L U hn q;refine⟨m,hn,λh' sb=>⟨.ref D,G,?_,Z,q⟩⟩;let⟨M,N,_,P,R,S⟩:=U;exact L.turned (t':=s'.toks) (λb o n e=>(sb.2 b n).trans e) M N P R S
def MO{f d t:Expr}(u:jt)(x:Str){g:TG}{y:Str}{n:Pos}{j:jC}{c:aF}{pos k:Pos}{wi:TI}{tt:TT}{te:TE}{i:Nat}(Y:jq)(G:jt)(hN:X.N.Nodup)(M:X.N[i]? = some y)(W:X.env.scope.names.lookup y=some .local)(hc:X.calm=true)(hg:∀ C s H l E,PG (WV X (u++G) c (WU X.env c.names []) C s H l E) t g)(hi:PI X t d wi)(ht:∀ C s H l E,Od (WV X (u++G) c (WU X.env c.names []) C s H l E) j tt)(he:∀ C s H l E,PE (WV X (u++G) c (WU X.env c.names []) C s H l E) f te)(fo:YG X c Y G)(O:swapsWith (.ListComp f [⟨t,d,j,0⟩] c pos) (some (.Name y n)) k.line X.env=pure true:=by rfl)(hk:Ny X.env c.names=true:=by rfl)(L:NF c x=true:=by rfl)(hs:∀ x,foldedSetIterable d X.env x=pure x:=by intro _;rfl):
  PS X (.Assign [.Name y n] (.ListComp f [⟨t,d,j,0⟩] c pos) k) (F3 i (E2 u.length g wi Y tt te)):=by
 intro kh s σ H D I h;let B:=Ms L;let F:=HR I.ok hk;rw[exec_Assign_Name_used _ _ _ _ O];refine aa (wpAny_standAt (aa ?_));show aC _ X.A (do let _<-comprehension (.ListComp f [⟨t,d,j,0⟩] c pos) c X.env _ (newList []) false (aH d X.env) (some (assign (.Name y n) X.env))) _ _ s
 refine aa (ae (wpAny_comprehension_free (use:=some (assign (.Name y n) X.env)) (Q:=λ_ r=>SP X kh D .next r) rfl hs (Ew F) B.kind B.names
  (Zy (hi kh s σ H _ I h) λv s1 h1=>Zy h1 λa0 s2 h2=>?_)) (λ_ r hq=>ad (ad hq)) λ_ _ e=>e)
 let⟨it,l,tn,J,H2,e,I2,T,R,f2,q2⟩:=h2;subst e;refine FQ (RR:=λK C=>compPost (aB X.prog X.w) X.A X.xe (some (assign (.Name y n) X.env)) (λ_ r=>SP X kh D .next r) K C) hc hg ht he (FU F) B.kind B.cell (Hh B.cell) fo I2 T R f2 q2 ?_;intro S C r H' m hC Ix fC hn q;let⟨f0,U,_,f3,V,f5⟩:=fC;show aC _ X.A (assign (.Name y n) X.env (.ref S)) _ _ _;refine wpAny_assign_Name (EW Ix hN M (.inl W) (v:=.ref S) Z (λs3 I3 ⟨a,sb,p⟩=>?_) (.inr W));let ne:C≠a:=by
  rcases p with p | p
  ·rw[p];exact U
  ·exact λz=>V y a p z.symm
 refine⟨m,hn.sameBut sb ne,λh' P=>⟨_,H',?_,q⟩⟩;exact I3.turned (t':=s3.toks) (λb o L e=>(P.2 b L).trans e) f0 U f3 V f5
def P6(K:zZ):TG:=Nd K 2 (QR (Qq 0) (QR (Qq 1) Ed))
def MH{x y:Str}{g h pos:Pos}{k:Nat}(f:X.calm=true)(a:X.N.Nodup)(d:X.N[0]? = some x)(e:X.N[1]? = some y)(b:X.env.scope.names.lookup x=some .local)(c:X.env.scope.names.lookup y=some .local):PG X (.Tuple [.Name x g,.Name y h] k pos) (P6 X.K):=
 OA f (UL (O2 a d (.inl b) (.inr b)) (UL (O2 a e (.inl c) (.inr c)) Of))
def UQ.toT{J:It}{a:jq}{c:TT}{b:TE}{Q:VK}(h:UQ J σ a c b H Q):Nc J 1 (Qq 0) σ a c b H Q:=λD f=>by
 let⟨W,e,j⟩:=h D f;refine⟨W,e,λi m H k=>(j i m H k).imp id λq=>⟨q.1,λx d y l g=>?_⟩⟩;let⟨_,rfl⟩:=List.length_eq_one_iff.mp g;exact⟨⟨[some x],Z,Z⟩,q.2 x d y⟩
inductive N3(c:TI)(σ:L2.St)(H:Hp)(K:It->Hp->Prop):Prop
 |mk(b:It->Hp->Prop)(_:c σ H b)(_:∀ J a,b J a->K J a)
def PI.more{i g:Expr}{j:TI}(h:PI X i g j):PI X i g (N3 j):=λkh s σ H R I ⟨l,n,f⟩=>
 ae (h kh s σ H l I n) (λ_ _ z=>ae z (by rintro _ _ ⟨o,m,p,J,k,a,b,c,d,e,r⟩;exact⟨o,m,p,J,k,a,b,c,d,e,f _ _ r⟩) λ_ _ z=>z) λ_ _ z=>z
def VJ{c b:Expr}{x:Str}{n:Pos}{d:jC}{a:aF}{pos:Pos}{q:TI}{p:TT}{o:TE}(k:jq)(e:jt)(t:X.calm=true)(v:PI X (.Name x n) b q)(A:∀ C s H f E,Od (WV X (x::e) a (WU X.env a.names []) C s H f E) d p)(u:∀ C s H f E,PE (WV X (x::e) a (WU X.env a.names []) C s H f E) c o)(r:YG X a k e)(w:Ny X.env a.names=true:=by rfl)(l:NF a x=true:=by rfl)(j:(x::e).Nodup:=by decide +kernel)(y:∀ x,foldedSetIterable b X.env x=pure x:=by intro _;rfl):
  PE X (.ListComp c [⟨.Name x n,b,d,0⟩] a pos) (GQ q k p o):=by
 intro kh s σ H Q I h;let m:(relabel a X.env).names.lookup x=some .local:=lookup_relabel_local (Ms l).own;exact F7 [x] x (g:=Qq 0) k e t (λ_ _ _ _ _=>O2 (i:=0) j Z (Or.inl m) (Or.inr m)) (PI.more v) A u r w l y kh s σ H Q I ⟨_,h,λ_ _ z=>UQ.toT z⟩
def HP{d b:Expr}{x y:Str}{o r:Pos}{e:jC}{a:aF}{pos c:Pos}{v:TI}{u:TT}{t:TE}{i:Nat}(n:jq)(f:jt)(A:X.N.Nodup)(k:X.N[i]? = some y)(M:X.env.scope.names.lookup y=some .local)(B:X.calm=true)(G:PI X (.Name x o) b v)(L:∀ C s H j E,Od (WV X (x::f) a (WU X.env a.names []) C s H j E) e u)(F:∀ C s H j E,PE (WV X (x::f) a (WU X.env a.names []) C s H j E) d t)(w:YG X a n f)(m:swapsWith (.ListComp d [⟨.Name x o,b,e,0⟩] a pos) (some (.Name y r)) c.line X.env=pure true:=by rfl)(J:Ny X.env a.names=true:=by rfl)(p:NF a x=true:=by rfl)(l:(x::f).Nodup:=by decide +kernel)(K:∀ x,foldedSetIterable b X.env x=pure x:=by intro _;rfl):
  PS X (.Assign [.Name y r] (.ListComp d [⟨.Name x o,b,e,0⟩] a pos) c) (F3 i (GQ v n u t)):=by
 intro kh s σ H D I h;let q:(relabel a X.env).names.lookup x=some .local:=lookup_relabel_local (Ms p).own;exact MO [x] x (g:=Qq 0) n f A k M B (λ_ _ _ _ _=>O2 (i:=0) l Z (Or.inl q) (Or.inr q)) (PI.more G) L F w m J p K kh s σ H D I ⟨_,h,λ_ _ z=>UQ.toT z⟩
end
end L2
local macro_rules|`(tactic|lia)=>`(tactic|first|assumption|exact xG ‹_› ‹_›|exact yY ‹_› ‹_›|exact zS ‹_› ‹_›|exact zS ‹_› (yI rfl)|exact yY ‹_› (yI rfl)|exact xG ‹_› (yI rfl)|exact zS (zS ‹_› ‹_›) (yI rfl)|exact zS (wK ‹_›) (zS ‹_› (yI rfl))|exact zS (wK (Eq.symm ‹_›)) (zS ‹_› (yI rfl))|exact yK ‹_›|exact Nat.pos_of_ne_zero ‹_›|exact Nat.le_succ_of_le ‹_›|exact tS ‹_›|exact yI rfl|exact zY _|exact wD _ _|exact Nat.le_add_left _ _|exact vL _ _|exact Int.natCast_nonneg _|exact Nat.lt_of_not_le ‹_›|exact wY ‹_›|exact Int.lt_of_not_ge ‹_›|exact uB.mp ‹_›|exact uL ‹_› (wS _)|exact Nat.lt_of_lt_of_eq ‹_› (Eq.symm ‹_›)|exact Nat.lt_of_lt_of_eq ‹_› ‹_›|exact Eq.symm (Nat.succ_pred_eq_of_ne_zero ‹_›)|exact Nat.add_sub_of_le ‹_›|exact Nat.add_lt_of_lt_sub' ‹_›|exact Int.ofNat_lt.mpr ‹_›|exact xG (wD _ _) ‹_›|exact zS (sL _ _) (vL _ _)|exact zS (sL _ _) (zS (vL _ _) ‹_›)|exact zS (vL _ _) ‹_›|exact Nat.le_sub_of_add_le' ‹_›|exact Nat.le_sub_of_add_le ‹_›|exact wO ‹_› ‹_›|exact xG (wK ‹_›) ‹_›|lia (splits:=8))
namespace L2
open PySem PySem.Spec PyProof.Rows
inductive HA(K:zZ)(a:jf)(H:Hp)(Q:VK):Prop
 |mk(x n t b:_)(_:a=[x,.ty n])(_:Yp K H x t)(_:yO K t (.type n)=some b)(_:Q (.bl b) H)
def Vc:UN X (.builtin "isinstance") (HA X.K):=by
 intro a s l H k j Q I r h;let⟨x,n,t,b,rfl,g,e,q⟩:=h;let⟨u,i,rfl,d,c⟩:=KB r;cases(show i=Value.type n from c);exact Cy I d g e λf=>⟨.bl b,H,I.tok f,Z,q⟩
def ZPd{K:zZ}:yO K (.type "bool") (.type "bool")=some true:=by kernel_rfl
def Fl{K:zZ}:yO K (.type "int") (.type "bool")=some false:=by kernel_rfl
def A9{K:zZ}:yO K (.type "str") (.type "bool")=some false:=by kernel_rfl
def ZPi{K:zZ}:yO K (.type "tuple") (.type "bool")=some false:=by kernel_rfl
def MK{K:zZ}:yO K (.type "int") (.type "int")=some true:=by kernel_rfl
def Mu{K:zZ}:yO K (.type "str") (.type "int")=some false:=by kernel_rfl
def LB{K:zZ}:yO K (.type "tuple") (.type "int")=some false:=by kernel_rfl
def kit_is'{K:zZ}:yO K (.type "int") (.type "str")=some false:=by kernel_rfl
def Ni{K:zZ}:yO K (.type "str") (.type "str")=some true:=by kernel_rfl
def M9{K:zZ}:yO K (.type "tuple") (.type "str")=some false:=by kernel_rfl
def Hi{K:zZ}:yO K (.type "int") (.type "tuple")=some false:=by kernel_rfl
def E9{K:zZ}:yO K (.type "str") (.type "tuple")=some false:=by kernel_rfl
def JL{K:zZ}:yO K (.type "tuple") (.type "tuple")=some true:=by kernel_rfl
def Ve:az "isinstance" = some (.builtin "isinstance"):=by decide +kernel
def LM:az "all" = some (.builtin "all"):=by decide +kernel
def M0:az "max" = some (.builtin "max"):=by decide +kernel
def FE:az "min" = some (.builtin "min"):=by decide +kernel
def IY:az "abs" = some (.builtin "abs"):=by decide +kernel
def Y6:az "len" = some (.builtin "len"):=by decide +kernel
def Kp:az "bool" = some (.type "bool"):=by decide +kernel
def Qv:az "int" = some (.type "int"):=by decide +kernel
def NY:az "str" = some (.type "str"):=by decide +kernel
def Q2:az "tuple" = some (.type "tuple"):=by decide +kernel
def QG:az "list" = some (.type "list"):=by decide +kernel
inductive UF(x y:V)(H:Hp)(Q:VK):Prop
 |mk(i j:_)(_:x=.str i)(_:y=.str j)(_:Q (.bl (!decide (j.cps.toList<i.cps.toList))) H)
def EZ:XH X (aA .LtE) (UF):=by
 intro a s e H x y v u Q I b c h;let⟨i,j,rfl,rfl,q⟩:=h;let⟨t,rfl⟩:=b;let⟨d,rfl⟩:=c;exact PySem.P.le_str (Yv I q (by simp))
inductive UJ(a:zZ)(x y:V)(H:Hp)(Q:VK):Prop
 |mk(p b c:_)(_:x=.ref p)(_:y=.ref b)(_:ZH a H p c)(_:ZH a H b [])(_:Q (.bl c.isEmpty) H)
def Io(f:X.A.units<cLine):XH X (aA .Eq) (UJ X.K):=by
 intro l s G H x y v u Q I B C h;let⟨p,b,D,rfl,rfl,c,o,q⟩:=h;cases B;cases C;let⟨d,w,i,E⟩:=I.list c;let⟨a,z,k,F⟩:=I.list o;let g:=w.length;let t:=z.length;let n:a=[]:=uD (by rw[<-t];rfl)
 subst n
 cases D with
 | nil=>
  let m:d=[]:=uD (by rw[<-g];rfl)
  subst m;exact PySem.SeqAt.eq_listAt (e:=λ_=>true) i.isList k.isList Z f (λj c _=>absurd c (by simp)) (Yv I q (by simp))
 | cons x r=>exact PySem.SeqAt.eq_list_lengthsAt i.isList k.isList (by simp;intro e;subst e;simp at g) f (Yv I q Z)
def ZQs(i j:Int):Prop:=0<j/\j.natAbs.log2<9000
def ZNa:XH X (binaryOp .FloorDiv) (rI ZQs λi j=>.int (i / j)):=Nz λi j _ _ _ _ _ a q=>by
 let b:(0:Int)<j:=a.1;exact floordiv_int ∅ (by rw[qH i ∅];exact q) (.inl (PyProof.noPylong_of_log2 a.2))
inductive Q7(b:zZ)(c:jf)(H:Hp)(Q:VK):Prop
 |mk(p:aj)(a:List Bool)(_:c=[.ref p])(_:ZH b H p (a.map V.bl))(_:Q (.bl (a.all id)) H)
def MX(C:X.calm=true):UN X (.builtin "all") (Q7 X.K):=by
 intro w s Y H W V Q I r h;let⟨p,a,rfl,G,q⟩:=h;let⟨u,rfl,L⟩:=UB r;cases L;let⟨c,y,k,T⟩:=I.list G;let t:=y.length;let g:p<s.heap.objs.size:=by let⟨_,e,_⟩:=k.isList;exact zP e
 let j:p≠s.heap.objs.size:=yW g;let D:=I.ok.hd C;let N:∀(i:Nat)(v:ai),c.toArray[i]? = some v->v=.bool (a.getD i true):=λi v J=>by
  let d:c[i]? = some v:=by simpa using J
  let S:i<c.length:=(zC.mp d).1;let n:i<a.length:=by rw[zX] at t;lia
  let⟨u,l,f⟩:=y.get (i:=i) (x:=.bl a[i]) (by rw[zE,zV n];rfl)
  rw[d] at l;cases l;rw[show v=Value.bool a[i] from f,zU,zV n];rfl
 refine call_all_walk (wpAny_pyIter_list k.isList ?_);refine⟨_,_,_,_,_,_,(λi=>a.getD i true),Z,Walks.list (A:=X.A.in1) D s.heap.objs.size p j c.toArray,⟨⟨_,yS _ Z,Z,Z⟩,k.isList.push _⟩,λi v U P O z B=>?_,λR M E=>?_⟩
 ·rw[N i v z];exact wpAny_truthy_bool B
 ·let e:(yU c.toArray.size).all (λi=>a.getD i true)=a.all id:=by
   rw[zR,<-t,zX];let f:a.all id=((yU a.length).map λi=>a.getD i true).all id:=by rw[range_getD]
   rw[f,uH];rfl
  rw[e];refine⟨.bl (a.all id),H,I.kept (t':=M) λb o m=>E b o ?_ (zQ _ m),Z,q⟩;intro F;exact absurd (zP m) (by rw[zK.mp F];exact wA _)
section
variable{R:Result->ak->Prop}
end
def EO(x:Str):It:=⟨λi _=>i<x.cps.size,λi H v a=>a=H/\∃ c,x.cps[i]? = some c/\v=.str ⟨#[c]⟩,λi _=>i=x.cps.size⟩
def F2{P:al}{w:ax}{K:zZ}{tg:Expr}(ty:String)(hty:["enumerate","zip","dict_itemiterator","dict_reverseitemiterator","odict_iterator","itertools.zip_longest","itertools.pairwise"].contains ty=false)(x:Str)(t:Tok)(it:aj)(W:∀ A:ay,A.handled=none->Walks P w A it [it] [it] x.cps.size (SignAt x) (λi h=>h.IsStrIter it ty x t i))(self:∀ (A:ay) (i:Nat) (s:ak) (Q:ja) (E:ja),s.heap.IsStrIter it ty x t i->Q (.ref it) s->aC (aB P w) A (pyIter (.ref it)) Q E s):
  Uy P w K tg (EO x) [it] it (λi h=>h.IsStrIter it ty x t i) where
 mem:=by simp
 obj:=λi h st b hb=>by
  let e:b=it:=by simpa using hb
  subst e;let⟨o,e,c,d⟩:=st;exact⟨o,e,λv z=>by rw[d] at z;cases z⟩
 keep:=λi h h' ⟨o,e,r⟩ k=>⟨o,k it (by simp) o e,r⟩
 item:=by
  intro X hP hw hK hc i kh s σ H E I hf st hg;subst hP hw hK;let⟨f0,f1,f2,f3,f4,f5⟩:=hf it (by simp)
  refine(W X.A (I.ok.hd hc)).item i s _ _ hg st λv h' tk hv st' kk=>?_;let⟨c,u,hx,rfl⟩:=hv;let I1:ZF X kh σ H { s with heap:=h',toks:=tk }:=I.turned (λb o hb e=>kk b o (by simpa using hb) e) f0 f1 f3 f4 f5
  let⟨o,e,cl,d⟩:=id st';exact⟨_,Z,Mf (s:={ s with heap:=h',toks:=tk }) e cl d hty ⟨.str ⟨#[c]⟩,H,I1,⟨u,Z⟩,⟨Z,c,hx,Z⟩,st',λb hb=>(hf b hb).1⟩⟩
 done:=by
  intro X hP hw hK hc i kh s σ H E I hf st hg;subst hP hw hK;let⟨f0,f1,f2,f3,f4,f5⟩:=hf it (by simp)
  let hi:i=x.cps.size:=hg;subst hi;exact(W X.A (I.ok.hd hc)).done s _ _ st λh' tk kk=>⟨Z,I.turned (λb o hb e=>kk b o (by simpa using hb) e) f0 f1 f3 f4 f5⟩
 self:=self
section
variable{tg:Expr}
inductive Nj(R:It->Hp->Prop)(v:V)(a:Hp):Prop
 |mk(x:_)(_:v=.str x)(_:R (EO x) a)
def AO(b:TE):TI:=λc H R=>b c H λv a=>Nj R v a
def ZPb{l:Expr}{n:TE}(r:PE X l n):PI X tg l (AO n):=by
 intro a s w H R I h;refine Zy (r a s w H _ I h) ?_;rintro v c ⟨z,f,d,u,x,e,q⟩;subst e;let⟨t,rfl⟩:=u;let k:∀ b∈[c.heap.objs.size],VV X a f b:=λb p=>by
  rw[zK.mp p];exact d.fpOk (zY _) (d.hok.fresh (zY _))
 cases m:x.cps.all (· < 128)
 ·exact wpAny_pyIter_wide m ⟨c.heap.objs.size,[c.heap.objs.size],_,_,f,Z,d.kept (t':=c.toks) λb o e=>zQ _ e,
   F2 "str_iterator" (by decide) x t _ (λA g=>Walks.strWide g _ x t) (λA i s Q E j h=>wpAny_pyIter_striter_wide j h),⟨_,yS _ Z,Z,Z⟩,k,q⟩
 ·exact wpAny_pyIter_ascii m ⟨c.heap.objs.size,[c.heap.objs.size],_,_,f,Z,d.kept (t':=c.toks) λb o e=>zQ _ e,
   F2 "str_ascii_iterator" (by decide) x t _ (λA g=>Walks.strAscii g _ x t) (λA i s Q E j h=>wpAny_pyIter_striter_ascii j h),⟨_,yS _ Z,Z,Z⟩,k,q⟩
end
section
variable{σ:St}{H:Hp}{ix:jq}{te:TE}{Q:VK}
def Vm{J:It}{n:Nat}(d:Nat->V->Prop)(c:aj->Nat->jf->Hp->Prop)(z:n<aq)(k:∀ D i a H,i<n->c D i a H->J.go i H)(t:∀ D i a H x g,i<n->c D i a H->J.yld i H x g->g=H/\d i x)(f:∀ D a H,c D n a H->J.stop n H)(q:∀ D,H D=none->c D 0 [] (upd H D (.lst [])))(step:∀ D i a H x,H D=some (.lst a)->a.length<=i->i<n->d i x->c D i a H->∀ R:VK,(∀ y h,h D=some (.lst a)->c D (i+1) (a++[y]) (upd h D (.lst (a++[y])))->R y h)->te (NU σ ix x) H R)(j:∀ D a H,H D=some (.lst a)->c D n a H->Q (.ref D) H):UQ J σ ix Ie te H Q:=by
 intro D r;exists λi m H=>m=n-i/\i<=n/\∃ a,H D=some (.lst a)/\a.length<=i/\c D i a H,⟨n,rfl,zN _,[],ZP,zY _,q D r⟩;rintro i m H ⟨rfl,w,a,e,s,p⟩;by_cases b:i<n
 ·refine .inr ⟨k D i a H b p,λx g y=>?_⟩;let⟨rfl,u⟩:=t D i a H x g b p y;unfold Ie;dsimp only;rw[aO rfl];refine step D i a _ x e s b u p _ λy h o v=>?_;exact⟨a,n-(i+1),o,∅,∅,Z,b,a++[y],ZP,by rw[zT,vR];lia,v⟩
 ·let l:i=n:=∅
  subst l;exact .inl ⟨f D a H p,j D a H e p⟩
end
end L2
namespace Tw
open PySem
inductive KT where
 | int (i:Int)
 | str (x:Str)
 | tup (l:List KT)
abbrev jp:=List KT
mutual
def KT.depth:KT->Nat
 | .int _=>0
 | .str _=>0
 | .tup l=>1+ke l
def ke:jp->Nat
 | []=>0
 | t::r=>max t.depth (ke r)
end
mutual
def KT.size:KT->Nat
 | .int _=>1
 | .str _=>1
 | .tup l=>1+sizeL l
def sizeL:jp->Nat
 | []=>0
 | t::r=>t.size+sizeL r
end
def U7(c:Nat):Bool:=decide (32<=c)&&decide (c<=126)
def PN(x:Str):Bool:=decide (x.length<=40)&&x.cps.toList.all U7
mutual
def KT.fits:KT->Nat->Bool
 | .int i,_=>decide (i.natAbs<10 ^ 60)
 | .str x,_=>PN x
 | .tup l,r=>decide (0<r)&&(decide (l.length<=4)&&fitsL l (r-1))
def fitsL:jp->Nat->Bool
 | [],_=>true
 | t::l,r=>t.fits r&&fitsL l r
end
def Me(r:Nat):∀ l:jp,fitsL l r=l.all λt=>t.fits r
 | []=>by simp[fitsL]
 | t::l=>by rw[fitsL,sV,Me r l]
mutual
def V7:∀(t:KT)(r:Nat),t.fits r=true->t.depth<=r
 | .int _,r,_=>by rw[KT.depth];exact zN _
 | .str _,r,_=>by rw[KT.depth];exact zN _
 | .tup l,r,h=>by
  rw[KT.fits,zO,zO] at h;let⟨h1,_,h3⟩:=h;let h1':0<r:=of_decide_eq_true h1;have:=fitsL_depth l (r-1) h3;rw[KT.depth]
  lia
def fitsL_depth:∀(l:jp)(r:Nat),fitsL l r=true->ke l<=r
 | [],r,_=>by rw[ke];exact zN _
 | t::l,r,h=>by
  rw[fitsL,zO] at h;let a:=V7 t r h.1;let b:=fitsL_depth l r h.2;rw[ke]
  lia
end
def KT.things:KT->jp
 | .tup l=>l
 | _=>[]
def below(l:jp):jp:=l.flatMap KT.things
end Tw
namespace Tw
open PySem PySem.Spec L2
structure ZA(P:al)(w:ax)(K:zZ)(mg:jc)(ki:aE)(k:Nat)(x:Str)(ps:jt)(sp:Sp):Prop where
 ex:∃ f fd,ZI P w K mg ki ZQ k f fd ps sp/\Zo K fd ps []/\yJ K (.ref f)=true/\mg x=some (.ref f)
def Zc{X:Cx}{k:Nat}{x:Str}{o:jt}{g:Sp}{e:Expr}{a:jC}{t:TA}{p pos:Pos}(D:ZA X.prog X.w X.K X.mg X.base k x o g)(l:ZT k X.A)(h:PA X (e::a) t)(j:Gl X x:=by rfl)(c:(x==("__debug__" : Str))=false:=by decide)(i:ar (e::a) X.env=(false,aH e X.env)::ar a X.env:=by rfl)(d:(aG pos (ar a X.env)).any (·.1)=false:=by rfl):
  PE X (.Call (.Name x p) (e::a) [] pos) (IQ g [] E0 t):=by
 let⟨f,q,F,b,n,m⟩:=D.ex;exact G5 F l j m n b .nil Yn h c i d
mutual
def ZB(H:Hp):KT->V->Prop
 | .int i,v=>v=.int i
 | .str x,v=>v=.str x
 | .tup l,v=>∃ a vs,v=.ref a/\H a=some (.tup vs)/\jY H l vs
def jY(H:Hp):jp->jf->Prop
 | [],vs=>vs=[]
 | t::l,vs=>∃ v r,vs=v::r/\ZB H t v/\jY H l r
end
def Z4(H c:Hp):Prop:=∀ b a,H b=some (.tup a)->c b=some (.tup a)
mutual
def ZB.mono{H H':Hp}(m:Z4 H H'):∀(t:KT)(v:V),ZB H t v->ZB H' t v
 | .int _,_,h=>by rw[ZB] at h⊢;exact h
 | .str _,_,h=>by rw[ZB] at h⊢;exact h
 | .tup l,_,h=>by
  rw[ZB] at h⊢;let⟨a,vs,e,h1,h2⟩:=h;exact⟨a,vs,e,m a vs h1,jY.mono m l vs h2⟩
def jY.mono{H H':Hp}(m:Z4 H H'):∀(l:jp)(vs:jf),jY H l vs->jY H' l vs
 | [],_,h=>by rw[jY] at h⊢;exact h
 | t::l,_,h=>by
  rw[jY] at h⊢;let⟨v,r,e,h1,h2⟩:=h;exact⟨v,r,e,ZB.mono m t v h1,jY.mono m l r h2⟩
end
def jY.nil{H:Hp}:jY H [] []:=by rw[jY]
def jY.cons{H:Hp}{t:KT}{l:jp}{v:V}{r:jf}(h:ZB H t v)(a:jY H l r):jY H (t::l) (v::r):=by
 rw[jY];exact⟨v,r,Z,h,a⟩
def ZB.tup{H:Hp}{a:aj}{b:jf}{l:jp}(e:H a=some (.tup b))(h:jY H l b):ZB H (.tup l) (.ref a):=by
 rw[ZB];exact⟨a,b,Z,e,h⟩
def ZB.int{H:Hp}(i:Int):ZB H (.int i) (.int i):=by rw[ZB]
def ZB.str{H:Hp}(x:Str):ZB H (.str x) (.str x):=by rw[ZB]
def jY.append{H:Hp}:∀{l m:jp}{a b:jf},jY H l a->jY H m b->jY H (l++m) (a++b)
 | [],m,a,b,h,g=>by rw[jY] at h;subst h;exact g
 | t::l,m,a,b,h,g=>by
  rw[jY] at h;let⟨v,r,rfl,c,d⟩:=h;exact .cons c (d.append g)
def jY.length{H:Hp}:∀{l:jp}{a:jf},jY H l a->l.length=a.length
 | [],a,h=>by rw[jY] at h;subst h;rfl
 | t::l,a,h=>by
  rw[jY] at h;let⟨v,r,rfl,_,b⟩:=h;rw[yV,yV,b.length]
def jY.get{H:Hp}:∀{l:jp}{a:jf}{i:Nat}{v:V},jY H l a->a[i]? = some v->∃ t,l[i]? = some t/\ZB H t v
 | [],a,i,v,h,e=>by rw[jY] at h;subst h;simp at e
 | t::l,a,0,v,h,e=>by
  rw[jY] at h;let⟨j,r,rfl,d,_⟩:=h;simp at e;subst e;exact⟨t,Z,d⟩
 | t::l,a,i+1,v,h,e=>by
  rw[jY] at h;let⟨j,r,rfl,_,f⟩:=h;let⟨g,b,c⟩:=f.get (i:=i) (by simpa using e)
  exact⟨g,by simpa using b,c⟩
def jY.take{H:Hp}:∀{l:jp}{a:jf}(n:Nat),jY H l a->jY H (l.take n) (a.take n)
 | l,a,0,_=>by simp only[xA];exact .nil
 | [],a,n+1,h=>by rw[jY] at h;subst h;exact .nil
 | t::l,a,n+1,h=>by
  rw[jY] at h;let⟨d,r,rfl,b,c⟩:=h;exact .cons b (c.take n)
def jY.drop{H:Hp}:∀{l:jp}{a:jf}(n:Nat),jY H l a->jY H (l.drop n) (a.drop n)
 | l,a,0,h=>h
 | [],a,n+1,h=>by rw[jY] at h;subst h;exact .nil
 | t::l,a,n+1,h=>by
  rw[jY] at h;let⟨d,r,rfl,c,b⟩:=h;exact b.drop n
def KT.ty:KT->ai
 | .int _=>.type "int"
 | .str _=>.type "str"
 | .tup _=>.type "tuple"
def ZB.ty{H:Hp}{K:zZ}{t:KT}{v:V}(h:ZB H t v):Yp K H v t.ty:=by
 cases t with
 | int i=>rw[ZB] at h;subst h;exact .int i
 | str x=>rw[ZB] at h;subst h;exact .str x
 | tup l=>rw[ZB] at h;let⟨a,b,rfl,e,_⟩:=h;exact .tup e
def ZE(p:aj)(H a:Hp):Prop:=∀ b o,H b=some o->b≠p->a b=some o
def ZE.refl(p:aj)(H:Hp):ZE p H H:=λ_ _ h _=>h
def ZE.trans{p:aj}{H d e:Hp}(a:ZE p H d)(b:ZE p d e):ZE p H e:=λc o h n=>b c o (a c o h n) n
def ZE.upd{p:aj}{H b:Hp}{o:HO}(a:ZE p H b):ZE p H (L2.upd b p o):=λc u h n=>by rw[ZU n];exact a c u h n
def ZE.of{p:aj}{H b:Hp}(a:ZD H b):ZE p H b:=λc o h _=>a c o h
def ZE.tups{p:aj}{H c:Hp}{d:jf}(a:ZE p H c)(h:H p=some (.lst d)):Z4 H c:=λb f e=>a b _ e (Zb e h)
def ZD.tups{H c:Hp}(a:ZD H c):Z4 H c:=λb d e=>a b _ e
def ZB.sm{H a:Hp}{t:KT}{v:V}(h:ZB H t v)(s:ZD H a):ZB a t v:=h.mono (ZD.tups s) _ _
def jY.sm{H a:Hp}{t:jp}{v:jf}(h:jY H t v)(s:ZD H a):jY a t v:=h.mono (ZD.tups s) _ _
def ZW{H:Hp}{p:aj}(h:H p=none)(o:HO):ZD H (L2.upd H p o):=λb u q=>by rw[ZU (ZY q h)];exact q
structure ZK(H:Hp)(p:aj):Prop where
 ex:∃ a b c d:Int,H p=some (.lst [.int a,.int b,.int c,.int d])/\0<=a/\a<2147483647/\0<=c/\0<=d
def ZK.stay{H f:Hp}{p q:aj}(w:ZK H p)(s:ZE q H f)(n:p≠q):ZK f p:=by
 let⟨a,b,c,d,e,r⟩:=w.ex;exact⟨a,b,c,d,s p _ e n,r⟩
def ZK.same{H f:Hp}{p:aj}(w:ZK H p)(s:ZD H f):ZK f p:=by
 let⟨a,b,c,d,e,r⟩:=w.ex;exact⟨a,b,c,d,s p _ e,r⟩
def ZK.some{H:Hp}{p:aj}(w:ZK H p):∃ f,H p=zA (.lst f):=by
 let⟨a,b,c,d,e,r⟩:=w.ex;exact⟨_,e⟩
def ZE.tupsW{p:aj}{H b:Hp}(a:ZE p H b)(w:ZK H p):Z4 H b:=by
 let⟨c,e⟩:=w.some;exact a.tups e
def G8(m:Int):Prop:=0<m/\m.natAbs.log2<9000
inductive VA(K:zZ)(d:jf)(H:Hp)(Q:VK)(_:XK):Prop
 |mk(a:aj)(c:jF)(k:Int)(_:d=[.ref a,.int k])(_:ZH K H a (c.map V.int))(_:c.length<=63)(_:0<=k)(_:k<=1000)(_:∀(p:aj)(b:Hp),H p=none->ZD H b->ZK b p->Q (.ref p) b)
inductive Zp(b:jf)(H:Hp)(Q:VK)(_:XK):Prop
 |mk(p:aj)(m:Int)(_:b=[.ref p,.int m])(_:ZK H p)(_:G8 m)(_:∀(r:Int)(a:Hp),0<=r->r<m->ZK a p->ZE p H a->Q (.int r) a)
inductive WJ(b:jf)(H:Hp)(Q:VK)(_:XK):Prop
 |mk(p:aj)(_:b=[.ref p])(_:ZK H p)(_:∀(x:Str)(a:Hp),PN x=true->ZK a p->ZE p H a->Q (.str x) a)
inductive XC(n:Nat)(b:jf)(H:Hp)(Q:VK)(_:XK):Prop
 |mk(p:aj)(r:Nat)(_:b=[.ref p,.int (r:Int)])(_:ZK H p)(_:r<n)(_:∀(v:V)(t:KT)(a:Hp),ZB a t v->t.fits r=true->ZK a p->ZE p H a->Q v a)
inductive UW(a:jf)(H:Hp)(Q:VK)(_:XK):Prop
 |mk(i:Int)(_:a=[.int i])(_:Q (.bl (decide (i.natAbs<10 ^ 60))) H)
inductive Wy(a:jf)(H:Hp)(Q:VK)(_:XK):Prop
 |mk(c:Nat)(_:a=[.str ⟨#[c]⟩])(_:Q (.bl (U7 c)) H)
inductive UZ(b:jf)(H:Hp)(Q:VK)(_:XK):Prop
 |mk(v:V)(t:KT)(q:Nat)(_:b=[v])(_:ZB H t v)(_:t.fits q=true)(_:∀ a,ZD H a->Q (.bl (t.fits 3)) a)
def nn{n:Nat}(h:n<=1000):n<=sizeLine:=yK (Y2 h)
def YF{n:Nat}(h:Nat.ble n 1000=true:=by rfl):n<=sizeLine:=nn (yI h)
def Gg{x y:V}{i:Int}(a:0<=i)(b:i<2):∃ v,Y3 [x,y] i=some v/\(v=x\/v=y):=by
 rcases(show i=0\/i=1 by lia) with e | e
 ·subst e;exact⟨x,Z,.inl Z⟩
 ·subst e;exact⟨y,Z,.inr Z⟩
def Ai{x y z u:V}{i:Int}(a:0<=i)(b:i<4):∃ v,Y3 [x,y,z,u] i=some v/\(v=x\/v=y\/v=z\/v=u):=by
 rcases(show i=0\/i=1\/i=2\/i=3 by lia) with e | e | e | e
 ·subst e;exact⟨x,Z,.inl Z⟩
 ·subst e;exact⟨y,Z,.inr (.inl rfl)⟩
 ·subst e;exact⟨z,Z,.inr (.inr (.inl rfl))⟩
 ·subst e;exact⟨u,Z,.inr (.inr (.inr rfl))⟩
def Nl{b:Type}{xs:List b}{i:Int}(c:0<=i)(d:i<(xs.length:Int)):∃ v,Y3 xs i=some v/\v∈xs:=by
 let a:i.toNat<xs.length:=∅
 let e:i=((i.toNat:Nat):Int):=∅
 rw[e];exact⟨xs[i.toNat],YO (zV a),xY a⟩
def Xp{m:Int}(a:0<m)(b:m.natAbs<2 ^ 250):G8 m:=by
 exists a;have:m.natAbs.log2<250:=(Nat.log2_lt ∅).mpr b
 lia
def NN{i j:Int}(h:V.int i=V.int j):i=j:=by injection h
def D8(c:Nat):((!decide ([c]<[32])) && !decide ([126]<[c]))=U7 c:=by
 unfold U7;let a:([c]<[32]) ↔ c<32:=by simp[uG]
 let b:([126]<[c]) ↔ 126<c:=by simp[uG]
 rw[vG];simp only[zO,Bool.not_eq_true',decide_eq_false_iff_not,decide_eq_true_eq,a,b]
 lia
def BZ(i:Int):decide ((if i<0 then -i else i)<10 ^ (60:Int).toNat)=decide (i.natAbs<10 ^ 60):=by
 let e:((10:Int) ^ (60:Int).toNat)=((10 ^ 60:Nat):Int):=by decide +kernel
 rw[e];generalize (10 ^ 60:Nat)=N;apply decide_eq_decide.mpr;split <;> lia
end Tw
namespace Tw
open PySem
mutual
def KT.eqb:KT->KT->Bool
 | .int i,.int j=>i==j
 | .str x,.str y=>x==y
 | .tup l,.tup m=>kc l m
 | _,_=>false
def kc:jp->jp->Bool
 | [],[]=>true
 | a::l,b::m=>a.eqb b&&kc l m
 | _,_=>false
end
mutual
def KT.plt:KT->KT->Bool
 | .int i,.int j=>decide (i<j)
 | .str x,.str y=>decide (x.cps.toList<y.cps.toList)
 | .tup l,.tup m=>pltL l m
 | _,_=>false
def pltL:jp->jp->Bool
 | [],[]=>false
 | [],_::_=>true
 | _::_,[]=>false
 | a::l,b::m=>if a.eqb b=true then pltL l m else a.plt b
end
mutual
def KT.cmp:KT->KT->Bool
 | .int _,.int _=>true
 | .str _,.str _=>true
 | .tup l,.tup m=>cmpL l m
 | _,_=>false
def cmpL:jp->jp->Bool
 | [],_=>true
 | _::_,[]=>true
 | a::l,b::m=>if a.eqb b=true then cmpL l m else a.cmp b
end
def KT.kind:KT->Nat
 | .int _=>0
 | .str _=>1
 | .tup _=>2
mutual
def KT.lt:KT->KT->Bool
 | .int i,.int j=>decide (i<j)
 | .int _,.str _=>true
 | .int _,.tup _=>true
 | .str _,.int _=>false
 | .str x,.str y=>decide (x.cps.toList<y.cps.toList)
 | .str _,.tup _=>true
 | .tup _,.int _=>false
 | .tup _,.str _=>false
 | .tup l,.tup m=>ltL l m
def ltL:jp->jp->Bool
 | [],[]=>false
 | [],_::_=>true
 | _::_,[]=>false
 | a::l,b::m=>if a.eqb b=true then ltL l m else a.lt b
end
mutual
def KT.st:KT->KT
 | .int i=>.tup [.int 0,.int i]
 | .str x=>.tup [.int 1,.str x]
 | .tup l=>.tup [.int 2,.tup (stL l)]
def stL:jp->jp
 | []=>[]
 | t::l=>t.st::stL l
end
def ER:∀ l:jp,stL l=l.map KT.st
 | []=>by rw[stL];rfl
 | t::l=>by rw[stL,ER l];rfl
mutual
def Vg:∀(a b:KT),a.eqb b=true->a=b
 | .int i,.int j,h=>by rw[KT.eqb] at h;rw[eq_of_beq h]
 | .str x,.str y,h=>by rw[KT.eqb] at h;rw[eq_of_beq h]
 | .tup l,.tup m,h=>by rw[KT.eqb] at h;rw[eqbL_eq l m h]
 | .int _,.str _,h=>by simp[KT.eqb] at h
 | .int _,.tup _,h=>by simp[KT.eqb] at h
 | .str _,.int _,h=>by simp[KT.eqb] at h
 | .str _,.tup _,h=>by simp[KT.eqb] at h
 | .tup _,.int _,h=>by simp[KT.eqb] at h
 | .tup _,.str _,h=>by simp[KT.eqb] at h
def eqbL_eq:∀(l m:jp),kc l m=true->l=m
 | [],[],_=>rfl
 | a::l,b::m,h=>by
  rw[kc,zO] at h;rw[Vg a b h.1,eqbL_eq l m h.2]
 | [],_::_,h=>by simp[kc] at h
 | _::_,[],h=>by simp[kc] at h
end
mutual
def Uh:∀ a:KT,a.eqb a=true
 | .int i=>by rw[KT.eqb];exact beq_self_eq_true i
 | .str x=>by rw[KT.eqb];exact beq_self_eq_true x
 | .tup l=>by rw[KT.eqb];exact eqbL_self l
def eqbL_self:∀ l:jp,kc l l=true
 | []=>by rw[kc]
 | a::l=>by rw[kc,Uh a,eqbL_self l];rfl
end
def Yg{a b:KT}:a.eqb b=true ↔ a=b:=⟨Vg a b,λe=>by rw[e];exact Uh b⟩
mutual
def E7:∀ a b:KT,a.st.eqb b.st=a.eqb b
 | .int i,.int j=>by simp[KT.st,KT.eqb,kc]
 | .str x,.str y=>by simp[KT.st,KT.eqb,kc]
 | .tup l,.tup m=>by simp[KT.st,KT.eqb,kc,eqbL_st l m]
 | .int _,.str _=>by simp[KT.st,KT.eqb,kc]
 | .int _,.tup _=>by simp[KT.st,KT.eqb,kc]
 | .str _,.int _=>by simp[KT.st,KT.eqb,kc]
 | .str _,.tup _=>by simp[KT.st,KT.eqb,kc]
 | .tup _,.int _=>by simp[KT.st,KT.eqb,kc]
 | .tup _,.str _=>by simp[KT.st,KT.eqb,kc]
def eqbL_st:∀ l m:jp,kc (stL l) (stL m)=kc l m
 | [],[]=>by simp[stL,kc]
 | a::l,b::m=>by simp[stL,kc,E7 a b,eqbL_st l m]
 | [],_::_=>by simp[stL,kc]
 | _::_,[]=>by simp[stL,kc]
end
def HX:∀ l:jp,ltL l l=false
 | []=>by rw[ltL]
 | a::l=>by rw[ltL,Uh a,aO rfl,HX l]
def De{l m:jp}(h:kc l m=true):ltL l m=false:=by
 rw[eqbL_eq l m h];exact HX m
mutual
def GJ:∀ a b:KT,a.st.cmp b.st=true
 | .int i,.int j=>by simp[KT.st,KT.eqb,KT.cmp,cmpL]
 | .str x,.str y=>by simp[KT.st,KT.eqb,KT.cmp,cmpL]
 | .tup l,.tup m=>by simp[KT.st,KT.eqb,KT.cmp,cmpL,cmpL_st l m]
 | .int _,.str _=>by simp[KT.st,KT.eqb,KT.cmp,cmpL]
 | .int _,.tup _=>by simp[KT.st,KT.eqb,KT.cmp,cmpL]
 | .str _,.int _=>by simp[KT.st,KT.eqb,KT.cmp,cmpL]
 | .str _,.tup _=>by simp[KT.st,KT.eqb,KT.cmp,cmpL]
 | .tup _,.int _=>by simp[KT.st,KT.eqb,KT.cmp,cmpL]
 | .tup _,.str _=>by simp[KT.st,KT.eqb,KT.cmp,cmpL]
def cmpL_st:∀ l m:jp,cmpL (stL l) (stL m)=true
 | [],_=>by simp[stL,cmpL]
 | _::_,[]=>by simp[stL,cmpL]
 | a::l,b::m=>by
  rw[stL,stL,cmpL,cmpL_st l m,GJ a b];split <;> rfl
end
mutual
def Ea:∀ a b:KT,a.st.plt b.st=a.lt b
 | .int i,.int j=>by
  simp only[KT.st,KT.eqb,KT.plt,pltL,KT.lt,beq_self_eq_true,if_true];by_cases h:i=j
  ·subst h;simp
  ·simp[h]
 | .str x,.str y=>by
  simp only[KT.st,KT.eqb,KT.plt,pltL,KT.lt,beq_self_eq_true,if_true];by_cases h:x=y
  ·subst h;simp
  ·simp[h]
 | .tup l,.tup m=>by
  simp only[KT.st,KT.eqb,KT.plt,pltL,KT.lt,beq_self_eq_true,if_true,eqbL_st,pltL_st l m]
  cases h:kc l m with
  | true=>rw[aO rfl,De h]
  | false=>rw[aM zW]
 | .int _,.str _=>by simp[KT.st,KT.eqb,KT.plt,pltL,KT.lt]
 | .int _,.tup _=>by simp[KT.st,KT.eqb,KT.plt,pltL,KT.lt]
 | .str _,.int _=>by simp[KT.st,KT.eqb,KT.plt,pltL,KT.lt]
 | .str _,.tup _=>by simp[KT.st,KT.eqb,KT.plt,pltL,KT.lt]
 | .tup _,.int _=>by simp[KT.st,KT.eqb,KT.plt,pltL,KT.lt]
 | .tup _,.str _=>by simp[KT.st,KT.eqb,KT.plt,pltL,KT.lt]
def pltL_st:∀ l m:jp,pltL (stL l) (stL m)=ltL l m
 | [],[]=>by simp[stL,pltL,ltL]
 | [],_::_=>by simp[stL,pltL,ltL]
 | _::_,[]=>by simp[stL,pltL,ltL]
 | a::l,b::m=>by rw[stL,stL,pltL,ltL,E7 a b,pltL_st l m,Ea a b]
end
mutual
def Hr:∀ t:KT,t.st.depth<=2 * t.depth+1
 | .int i=>by simp[KT.st,KT.depth,ke]
 | .str x=>by simp[KT.st,KT.depth,ke]
 | .tup l=>by
  have:=depthL_st l;simp only[KT.st,KT.depth,ke]
  lia
def depthL_st:∀ l:jp,ke (stL l)<=2 * ke l+1
 | []=>by simp[stL,ke]
 | t::l=>by
  let a:=Hr t;let b:=depthL_st l;rw[stL,ke,ke]
  lia
end
def AR{x:Str}(h:PN x=true):x.cps.size<=40/\x.cps.toList.all U7=true:=by
 unfold PN at h;rw[zO] at h;exact⟨of_decide_eq_true h.1,h.2⟩
def FF:∀(l m:jq),l<m->¬ m<l
 | [],[],h,_=>absurd h (uR _)
 | [],_::_,_,h=>absurd h (uR _)
 | _::_,[],h,_=>absurd h (uR _)
 | a::l,b::m,h,c=>by
  rw[uG] at h c;rcases h with h | ⟨rfl,h⟩
  ·rcases c with c | ⟨rfl,c⟩
   ·lia
   ·lia
  ·rcases c with c | ⟨_,c⟩
   ·lia
   ·exact FF l m h c
def FX:∀(l m:jq),¬ l<m->¬ m<l->l=m
 | [],[],_,_=>rfl
 | [],_::_,h,_=>absurd (sG _ _) h
 | _::_,[],_,h=>absurd (sG _ _) h
 | a::l,b::m,h,h'=>by
  rw[uG] at h h';let e:a=b:=by
   rcases Nat.lt_trichotomy a b with c | c | c
   ·exact absurd (.inl c) h
   ·exact c
   ·exact absurd (.inl c) h'
  subst e;rw[FX l m (λz=>h (.inr ⟨rfl,z⟩)) λz=>h' (.inr ⟨rfl,z⟩)]
def Ei:∀(l m k:jq),l<m->m<k->l<k
 | _,_,[],_,h=>absurd h (uR _)
 | [],_,_::_,_,_=>sG _ _
 | _::_,[],_,h,_=>absurd h (uR _)
 | a::l,b::m,c::k,h,d=>by
  rw[uG] at h d⊢;rcases h with h | ⟨rfl,h⟩
  ·rcases d with d | ⟨rfl,d⟩
   ·exact .inl (Nat.lt_trans h d)
   ·exact .inl h
  ·rcases d with d | ⟨rfl,d⟩
   ·exact .inl d
   ·exact .inr ⟨Z,Ei l m k h d⟩
def eqb_comm'(a b:KT):a.eqb b=b.eqb a:=by
 rw[vG,Yg,Yg];exact eq_comm
mutual
def Ox:∀(a b:KT),a.lt b=true->b.lt a=false
 | .int i,.int j,h=>by rw[KT.lt] at h⊢;have:=of_decide_eq_true h;exact aJ ∅
 | .int _,.str _,_=>by rw[KT.lt]
 | .int _,.tup _,_=>by rw[KT.lt]
 | .str _,.int _,h=>by rw[KT.lt] at h;cases h
 | .str x,.str y,h=>by rw[KT.lt] at h⊢;exact aJ (FF _ _ (of_decide_eq_true h))
 | .str _,.tup _,_=>by rw[KT.lt]
 | .tup _,.int _,h=>by rw[KT.lt] at h;cases h
 | .tup _,.str _,h=>by rw[KT.lt] at h;cases h
 | .tup l,.tup m,h=>by rw[KT.lt] at h⊢;exact ltL_asym l m h
def ltL_asym:∀(l m:jp),ltL l m=true->ltL m l=false
 | [],[],h=>by rw[ltL] at h;cases h
 | [],_::_,_=>by rw[ltL]
 | _::_,[],h=>by rw[ltL] at h;cases h
 | a::l,b::m,h=>by
  rw[ltL] at h⊢;rw[eqb_comm' b a]
  cases e:a.eqb b with
  | true=>rw[e,aO rfl] at h;rw[aO rfl];exact ltL_asym l m h
  | false=>rw[e,aM zW] at h;rw[aM zW];exact Ox a b h
end
mutual
def M5:∀(a b:KT),a.lt b=false->b.lt a=false->a=b
 | .int i,.int j,h,h'=>by rw[KT.lt] at h h';have:=of_decide_eq_false h;have:=of_decide_eq_false h';rw[show i=j by lia]
 | .int _,.str _,h,_=>by rw[KT.lt] at h;cases h
 | .int _,.tup _,h,_=>by rw[KT.lt] at h;cases h
 | .str _,.int _,_,h=>by rw[KT.lt] at h;cases h
 | .str x,.str y,h,h'=>by
  rw[KT.lt] at h h';let e:=FX _ _ (of_decide_eq_false h) (of_decide_eq_false h');let⟨⟨x⟩⟩:=x;let⟨⟨y⟩⟩:=y;dsimp only at e;rw[e]
 | .str _,.tup _,h,_=>by rw[KT.lt] at h;cases h
 | .tup _,.int _,_,h=>by rw[KT.lt] at h;cases h
 | .tup _,.str _,_,h=>by rw[KT.lt] at h;cases h
 | .tup l,.tup m,h,h'=>by rw[KT.lt] at h h';rw[ltL_total l m h h']
def ltL_total:∀(l m:jp),ltL l m=false->ltL m l=false->l=m
 | [],[],_,_=>rfl
 | [],_::_,h,_=>by rw[ltL] at h;cases h
 | _::_,[],_,h=>by rw[ltL] at h;cases h
 | a::l,b::m,h,h'=>by
  rw[ltL] at h h';rw[eqb_comm' b a] at h'
  cases e:a.eqb b with
  | true=>rw[e,aO rfl] at h h';rw[Yg.mp e,ltL_total l m h h']
  | false=>
   rw[e,aM zW] at h h';have:=M5 a b h h';rw[this,Uh] at e;cases e
end
def Q0(a:KT):a.lt a=false:=by
 cases h:a.lt a with
 | false=>rfl
 | true=>have:=Ox a a h;rw[h] at this;cases this
mutual
def lt_trans':∀(a b c:KT),a.lt b=true->b.lt c=true->a.lt c=true
 | .int i,.int j,.int k,h,h'=>by rw[KT.lt] at h h'⊢;have:=of_decide_eq_true h;have:=of_decide_eq_true h';exact aK ∅
 | .int _,_,.str _,_,_=>by rw[KT.lt]
 | .int _,_,.tup _,_,_=>by rw[KT.lt]
 | .str _,_,.tup _,_,_=>by rw[KT.lt]
 | .int _,.str _,.int _,_,h=>by rw[KT.lt] at h;cases h
 | .int _,.tup _,.int _,_,h=>by rw[KT.lt] at h;cases h
 | .str _,.int _,_,h,_=>by rw[KT.lt] at h;cases h
 | .str x,.str y,.str z,h,h'=>by rw[KT.lt] at h h'⊢;exact aK (Ei _ _ _ (of_decide_eq_true h) (of_decide_eq_true h'))
 | .str _,.str _,.int _,_,h=>by rw[KT.lt] at h;cases h
 | .str _,.tup _,.str _,_,h=>by rw[KT.lt] at h;cases h
 | .str _,.tup _,.int _,_,h=>by rw[KT.lt] at h;cases h
 | .tup _,.int _,_,h,_=>by rw[KT.lt] at h;cases h
 | .tup _,.str _,_,h,_=>by rw[KT.lt] at h;cases h
 | .tup l,.tup m,.tup k,h,h'=>by rw[KT.lt] at h h'⊢;exact ltL_trans l m k h h'
 | .tup _,.tup _,.int _,_,h=>by rw[KT.lt] at h;cases h
 | .tup _,.tup _,.str _,_,h=>by rw[KT.lt] at h;cases h
def ltL_trans:∀(l m k:jp),ltL l m=true->ltL m k=true->ltL l k=true
 | _,[],[],_,h=>by rw[ltL] at h;cases h
 | _,_::_,[],_,h=>by rw[ltL] at h;cases h
 | [],_,_::_,_,_=>by rw[ltL]
 | _::_,[],_::_,h,_=>by rw[ltL] at h;cases h
 | a::l,b::m,c::k,h,h'=>by
  rw[ltL] at h h'⊢
  cases e:a.eqb b with
  | true=>
   rw[e,aO rfl] at h;let ab:=Yg.mp e;subst ab
   cases e2:a.eqb c with
   | true=>rw[e2,aO rfl] at h';rw[aO rfl];exact ltL_trans l m k h h'
   | false=>rw[e2,aM zW] at h';rw[aM zW];exact h'
  | false=>
   rw[e,aM zW] at h
   cases e2:b.eqb c with
   | true=>
    let bc:=Yg.mp e2;subst bc;rw[e,aM zW];exact h
   | false=>
    rw[e2,aM zW] at h';let ac:=lt_trans' a b c h h'
    cases e3:a.eqb c with
    | true=>
     have:=Yg.mp e3;subst this;rw[Q0] at ac;cases ac
    | false=>rw[aM zW];exact ac
end
def le_trans'{a b c:KT}(f:b.lt a=false)(d:c.lt b=false):c.lt a=false:=by
 cases h:c.lt a with
 | false=>rfl
 | true=>
  cases e:a.lt b with
  | true=>rw[lt_trans' c a b h e] at d;cases d
  | false=>rw[M5 a b e f,d] at h;cases h
def Ks{a b c:KT}(e:b.lt a=false)(d:b.lt c=true):a.lt c=true:=by
 cases h:a.lt c with
 | true=>rfl
 | false=>rw[le_trans' h e] at d;cases d
end Tw
namespace Tw
open PySem PySem.Spec L2 PyProof.Rows
mutual
def ZL(h:aE):KT->ai->Prop
 | .int i,v=>∃ t,v=.int i t
 | .str x,v=>∃ t,v=.str x t
 | .tup l,v=>∃(a:aj)(its:je),v=.ref a/\IsTup h a its.toArray/\jZ h l its
def jZ(h:aE):jp->je->Prop
 | [],vs=>vs=[]
 | t::l,vs=>∃ v r,vs=v::r/\ZL h t v/\jZ h l r
end
section
variable{kh:ju}{σ:L2.St}{H:Hp}
mutual
def QA(I:ZF X kh σ H s):∀(t:KT)(x:V)(v:ai),ZB H t x->ZR x v->ZL s.heap t v
 | .int i,x,v,h,r=>by
  rw[ZB] at h;subst h;rw[ZL];exact r
 | .str y,x,v,h,r=>by
  rw[ZB] at h;subst h;rw[ZL];exact r
 | .tup l,x,v,h,r=>by
  rw[ZB] at h;let⟨a,vs,rfl,e,hk⟩:=h;let⟨its,rv,pl,_⟩:=I.tuple (Zj.of e);rw[ZL];exact⟨a,its,r,pl,kvals_of I l vs its hk rv⟩
def kvals_of(I:ZF X kh σ H s):∀(l:jp)(vs:jf)(us:je),jY H l vs->ZO vs us->jZ s.heap l us
 | [],vs,us,h,r=>by
  rw[jY] at h;subst h;rw[jZ];cases r;rfl
 | t::l,vs,us,h,r=>by
  rw[jY] at h;let⟨v,q,rfl,h1,h2⟩:=h
  cases r with
  | cons r1 r2=>
   rw[jZ];exact⟨_,_,Z,QA I t v _ h1 r1,kvals_of I l q _ h2 r2⟩
end
end
def Aj{h:aE}{a:aj}{c b:je}(x:IsTup h a c.toArray)(y:IsTup h a b.toArray):c=b:=by
 let⟨o,e,_,n,d⟩:=x;let⟨j,g,_,i,f⟩:=y;rw[e] at g;cases g;rw[d] at f;injection f with d1 _;simpa using congrArg rN d1
mutual
def ZL.inj{h:aE}:∀(a b:KT)(v:ai),ZL h a v->ZL h b v->a.eqb b=true
 | .int i,b,v,x,y=>by
  rw[ZL] at x;let⟨t,rfl⟩:=x
  cases b with
  | int j=>rw[ZL] at y;let⟨u,e⟩:=y;injection e with e _;rw[KT.eqb,e];exact beq_self_eq_true j
  | str z=>rw[ZL] at y;let⟨u,e⟩:=y;cases e
  | tup m=>rw[ZL] at y;let⟨_,_,e,_⟩:=y;cases e
 | .str w,b,v,x,y=>by
  rw[ZL] at x;let⟨t,rfl⟩:=x
  cases b with
  | int j=>rw[ZL] at y;let⟨u,e⟩:=y;cases e
  | str z=>rw[ZL] at y;let⟨u,e⟩:=y;injection e with e _;rw[KT.eqb,e];exact beq_self_eq_true z
  | tup m=>rw[ZL] at y;let⟨_,_,e,_⟩:=y;cases e
 | .tup l,b,v,x,y=>by
  rw[ZL] at x;let⟨p,its,rfl,px,kx⟩:=x
  cases b with
  | int j=>rw[ZL] at y;let⟨u,e⟩:=y;cases e
  | str z=>rw[ZL] at y;let⟨u,e⟩:=y;cases e
  | tup m=>
   rw[ZL] at y;let⟨q,its',e,py,ky⟩:=y;cases e;cases Aj px py;rw[KT.eqb];exact jZ.inj l m its kx ky
def jZ.inj{h:aE}:∀(l m:jp)(us:je),jZ h l us->jZ h m us->kc l m=true
 | [],m,us,x,y=>by
  rw[jZ] at x;subst x
  cases m with
  | nil=>rw[kc]
  | cons b m=>rw[jZ] at y;let⟨_,_,e,_⟩:=y;cases e
 | a::l,m,us,x,y=>by
  rw[jZ] at x;let⟨v,r,rfl,x1,x2⟩:=x
  cases m with
  | nil=>rw[jZ] at y;cases y
  | cons b m=>
   rw[jZ] at y;let⟨v',r',e,y1,y2⟩:=y;injection e with e1 e2;subst e1 e2;rw[kc,ZL.inj a b v x1 y1,jZ.inj l m r x2 y2];rfl
end
def jZ.length{h:aE}:∀{l:jp}{b:je},jZ h l b->l.length=b.length
 | [],b,x=>by rw[jZ] at x;subst x;rfl
 | a::l,b,x=>by
  rw[jZ] at x;let⟨v,r,rfl,_,c⟩:=x;rw[yV,yV,c.length]
def jZ.get{h:aE}:∀{l:jp}{b:je}{j:Nat}{u:ai},jZ h l b->b[j]? = some u->∃ t,l[j]? = some t/\ZL h t u
 | [],b,j,u,x,e=>by rw[jZ] at x;subst x;simp at e
 | a::l,b,0,u,x,e=>by
  rw[jZ] at x;let⟨v,r,rfl,f,_⟩:=x;simp at e;subst e;exact⟨a,Z,f⟩
 | a::l,b,j+1,u,x,e=>by
  rw[jZ] at x;let⟨v,r,rfl,_,g⟩:=x;let⟨t,c,d⟩:=g.get (j:=j) (by simpa using e)
  exact⟨t,by simpa using c,d⟩
def Px:∀{l:jp}{t:KT},t∈l->t.depth<=ke l
 | [],_,h=>by cases h
 | u::l,t,h=>by
  rw[ke];rcases yT.mp h with e | h
  ·subst e;lia
  ·have:=Px h;lia
def Nq:∀(l m:jp),((yU (min l.length m.length)).all (λj=>(l.getD j (.int 0)).eqb (m.getD j (.int 0)))&&l.length==m.length)=kc l m
 | [],[]=>by simp[kc]
 | [],_::_=>by simp[kc]
 | _::_,[]=>by simp[kc]
 | a::l,b::m=>by
  let c:=Nq l m;let e:min (a::l).length (b::m).length=min l.length m.length+1:=by simp only[yV];lia
  rw[e,qO,sV,uH,kc,<-c,Bool.and_assoc];simp[Function.comp_def]
def NC{s:ak}:∀(n:Nat)(a b:KT)(A:ay)(v u:ai),a.depth<=n->ZL s.heap a v->ZL s.heap b u->A.units+a.depth<cLine->SeqAt.EqAt A s v u (a.eqb b)
 | n,.int i,b,A,v,u,_,x,y,o=>by
  rw[ZL] at x;let⟨t,rfl⟩:=x;let d:A.units<cLine:=∅
  cases b with
  | int j=>rw[ZL] at y;let⟨g,rfl⟩:=y;rw[KT.eqb];exact SeqAt.EqAt.int_int i t j g
  | str z=>rw[ZL] at y;let⟨g,rfl⟩:=y;rw[show (KT.int i).eqb (.str z)=false by simp[KT.eqb]];exact SeqAt.EqAt.int_str i t z g
  | tup m=>rw[ZL] at y;let⟨p,f,rfl,k,_⟩:=y;rw[show (KT.int i).eqb (.tup m)=false by simp[KT.eqb]];exact SeqAt.EqAt.int_tuple i t k d
 | n,.str w,b,A,v,u,_,x,y,o=>by
  rw[ZL] at x;let⟨t,rfl⟩:=x;let d:A.units<cLine:=∅
  cases b with
  | int j=>rw[ZL] at y;let⟨g,rfl⟩:=y;rw[show (KT.str w).eqb (.int j)=false by simp[KT.eqb]];exact SeqAt.EqAt.str_int w t j g
  | str z=>rw[ZL] at y;let⟨g,rfl⟩:=y;rw[KT.eqb];exact SeqAt.EqAt.str_str w t z g
  | tup m=>rw[ZL] at y;let⟨p,f,rfl,k,_⟩:=y;rw[show (KT.str w).eqb (.tup m)=false by simp[KT.eqb]];exact SeqAt.EqAt.str_tuple w t k d
 | 0,.tup l,b,A,v,u,C,x,y,o=>by
  rw[KT.depth] at C
  lia
 | n+1,.tup l,b,A,v,u,C,x,y,o=>by
  let U:=x;rw[ZL] at x;let⟨p,f,rfl,D,G⟩:=x;rw[KT.depth] at C o;let d:A.units<cLine:=∅
  cases b with
  | int j=>rw[ZL] at y;let⟨g,rfl⟩:=y;rw[show (KT.tup l).eqb (.int j)=false by simp[KT.eqb]];exact SeqAt.EqAt.tuple_int j g D d
  | str z=>rw[ZL] at y;let⟨g,rfl⟩:=y;rw[show (KT.tup l).eqb (.str z)=false by simp[KT.eqb]];exact SeqAt.EqAt.tuple_str z g D d
  | tup m=>
   let V:=y;rw[ZL] at y;let⟨q,c,rfl,k,H⟩:=y;by_cases h:p=q
   ·subst h;rw[ZL.inj _ _ _ U V];exact SeqAt.EqAt.same _
   ·let S:=G.length;let T:=H.length;let I:=SeqAt.RcAt.tuples (A:=A) (s:=s) (e:=λj=>(l.getD j (.int 0)).eqb (m.getD j (.int 0))) D k d (λj O P=>by
     let r:j<f.length:=by simpa using O
     let B:j<c.length:=by simpa using P
     let⟨E,F,Q⟩:=G.get (j:=j) (u:=f[j]) (by simp[r])
     let⟨J,K,R⟩:=H.get (j:=j) (u:=c[j]) (by simp[B])
     let W:=Px (zM F);let M:l.getD j (.int 0)=E:=by rw[zU,F];rfl
     let N:m.getD j (.int 0)=J:=by rw[zU,K];rfl
     have:=NC n E J A.in1 f[j] c[j] ∅ Q R (by show A.units+1+E.depth<cLine;lia)
     show SeqAt.EqAt A.in1 s _ _ ((l.getD j (.int 0)).eqb (m.getD j (.int 0)));rw[M,N];simpa using this)
    let L:((yU (min f.toArray.size c.toArray.size)).all (λj=>(l.getD j (.int 0)).eqb (m.getD j (.int 0)))&&f.toArray.size==c.toArray.size)=(KT.tup l).eqb (.tup m):=by
     rw[zR,zR,<-S,<-T,KT.eqb];exact Nq l m
    rw[L] at I;exact .of_refs h I
def Xo(o:Bool)(a b:KT):Bool:=bif o then !b.plt a else a.plt b
def Qs(o:Bool)(l m:jp):Bool:=bif o then !pltL m l else pltL l m
def ZKw{o:Bool}{a c:KT}{l m:jp}:Qs o (a::l) (c::m)=if a.eqb c=true then Qs o l m else Xo o a c:=by
 unfold Qs Xo;rw[pltL,pltL,eqb_comm' c a];cases o <;> cases a.eqb c <;> rfl
def ZNe{o:Bool}{l m:jp}{i j:Nat}(h:l=[]\/m=[])(e:l.length+j=m.length+i):Qs o l m=bif o then decide (i<=j) else decide (i<j):=by
 rcases h with rfl | rfl
 ·cases m <;> cases o <;> simp[Qs,pltL] at e⊢ <;> lia
 ·cases l <;> cases o <;> simp[Qs,pltL] at e⊢ <;> lia
def MQ(o:Bool)(A:ay)(s:ak)(v u:ai)(b:Bool):Prop:=
 ∀(a:al)(w:ax)(E:ja)(Q:ja),Q (.bool b) s->aC (aB a w) A (richCompare (bif o then .LtE else .Lt) v u) Q E s
section
open PySem.SeqAt
open PySem.AutoSeq1 (wpAny_loadPart')
open PySem.MeetsSeq PySem.MeetsSeq2 PySem.MeetsSeq3
inductive Dm(c:aE)(d:jp)(n m:Nat)(G:jp->jp->Prop)(rest:List (ai×ai)):Prop
 |mk(e f:je)(a b:jp):rest=e.zip f->jZ c a e->jZ c b f->(∀ x∈a,x∈d)->cmpL a b=true->a.length+m=b.length+n->G a b->Dm c d n m G rest
def ZD2(o:Bool)(l b:aj)(f e:jx)(n n2:Nat)(dd K:jz)(sl O:Array (jd))(D J:jp):
  Meets ((bif o then Builtin.«tuple.__le__» else Builtin.«tuple.__lt__») ⟨[.ref l,.ref b],[]⟩)
   (λA R s=>s.heap.get? l=some { cls:=.type "tuple",dict:=dd,data:=.seq f n,slots:=sl }/\s.heap.get? b=some { cls:=.type "tuple",dict:=K,data:=.seq e n2,slots:=O } /\
    jZ s.heap D f.toList/\jZ s.heap J e.toList/\cmpL D J=true /\
    (∀ x y v u,x∈D->ZL s.heap x v->ZL s.heap y u->EqAt A.in1 s v u (x.eqb y))/\(∀ x y v u,x∈D->ZL s.heap x v->ZL s.heap y u->x.cmp y=true->MQ o A.in1 s v u (Xo o x y)) /\
    R (.ok (.ret (.bool (Qs o D J)))) s):=by
 let P:=@ZKw o;let Q:=@ZNe o;generalize Qs o=F at P Q⊢;cases o
 all_goals
  dsimp only[cond_true,cond_false];refine .of_wp λC w A R s h=>?_;let⟨L,g,d,Y,X⟩:=s;let⟨hl,hb,S,T,hc,hE,hL,h⟩:=h;let f2:=AutoSeq1.sub_tuple_tuple;let z1:f.size=D.length:=by rw[S.length];simp
  let z2:e.size=J.length:=by rw[T.length];simp
  wp_walk using wpAny_loadPart' hl,wpAny_loadPart' hb,wpAny_forIn_list _ (λrest b N=>b.1=none/\N=⟨L,g,d,Y,X⟩/\Dm L D f.size e.size (λa b=>R (.ok (.ret (.bool (F a b)))) ⟨L,g,d,Y,X⟩) rest) _
  case turn=>
   rintro⟨y,x⟩ rest b N ⟨E,rfl,vs,ws,q,r,p,i,j,t,k,m,B⟩
   cases q with
   | nil=>rw[jZ] at i;subst i;rw[List.zip_nil_left] at p;cases p
   | cons a q=>
    cases r with
    | nil=>rw[jZ] at j;subst j;rw[List.zip_nil_right] at p;cases p
    | cons c r=>
     rw[jZ] at i j;let⟨v,vr,rfl,V,H⟩:=i;let⟨u,ur,rfl,W,I⟩:=j;rw[List.zip_cons_cons] at p;injection p with hyx hrest;injection hyx with hy M;subst hy M;rw[P] at B;rw[cmpL] at k;simp only[yV] at m;let he:=hE a c y x (t a zI) V W;refine aa (he C w _ _ ?_)
     cases U:a.eqb c with
     | true=>
      rw[U,aO rfl] at B k
      wp_walk
      exact⟨Z,Z,_,_,_,_,hrest,H,I,λz p=>t z (zG _ p),k,∅,B⟩
     | false=>
      rw[U,aM zW] at B k;let G:=hL a c y x (t a zI) V W k C w;dsimp only[cond_true,cond_false] at G
      wp_walk using G
      exact⟨_,Z,by simpa using B⟩
  case fin=>
   rintro⟨b1,b2⟩ N ⟨E,rfl,vs,ws,q,r,p,i,j,t,k,m,B⟩;simp only at E;subst E;rw[Q (by
    cases q with
    | nil=>exact .inl Z
    | cons a q=>
     cases r with
     | nil=>exact .inr Z
     | cons c r=>
      rw[jZ] at i j;let⟨v,vr,rfl,_,_⟩:=i;let⟨u,ur,rfl,_,_⟩:=j;rw[List.zip_cons_cons] at p;cases p) m] at B
   wp_walk
   exact⟨_,Z,by simpa [Builtin.Tuple.tupleCompareSizes] using B⟩
  case h=>
   exact⟨Z,Z,f.toList,e.toList,D,J,Z,S,T,λ_ M=>M,hc,∅,h⟩
end
def G6(o:Bool){s:ak}:∀(n:Nat)(a b:KT)(A:ay)(v u:ai),a.depth<=n->ZL s.heap a v->ZL s.heap b u->a.cmp b=true->A.units+a.depth<cLine->MQ o A s v u (Xo o a b)
 | n,.int i,b,A,v,u,_,x,y,d,H=>by
  rw[ZL] at x;let⟨t,rfl⟩:=x
  cases b with
  | int j=>
   rw[ZL] at y;let⟨D,rfl⟩:=y;unfold Xo;rw[KT.plt,KT.plt];intro c w E Q h;cases o
   ·exact HT.rcLt_int A s i t j D c w E Q h
   ·exact(le_int (by rw[show decide (i<=j) = !decide (j<i) by by_cases z:j<i <;> simp[z] <;> lia];exact h):aC (aB c w) A (aA .LtE (.int i t) (.int j D)) Q E s)
  | str z=>simp[KT.cmp] at d
  | tup m=>simp[KT.cmp] at d
 | n,.str w,b,A,v,u,_,x,y,d,H=>by
  rw[ZL] at x;let⟨t,rfl⟩:=x
  cases b with
  | int j=>simp[KT.cmp] at d
  | str z=>
   rw[ZL] at y;let⟨D,rfl⟩:=y;unfold Xo;rw[KT.plt,KT.plt];intro c w' E Q h;cases o
   ·exact(lt_str h:aC (aB c w') A (aA .Lt (.str w t) (.str z D)) Q E s)
   ·exact(PySem.P.le_str h:aC (aB c w') A (aA .LtE (.str w t) (.str z D)) Q E s)
  | tup m=>simp[KT.cmp] at d
 | 0,.tup l,b,A,v,u,K,x,y,d,H=>by
  rw[KT.depth] at K
  lia
 | n+1,.tup l,b,A,v,u,K,x,y,d,H=>by
  rw[ZL] at x;let⟨p,M,rfl,px,kx⟩:=x;rw[KT.depth] at K H;let B:A.units<cLine:=∅
  cases b with
  | int j=>simp[KT.cmp] at d
  | str z=>simp[KT.cmp] at d
  | tup m=>
   rw[ZL] at y;let⟨q,C,rfl,py,ky⟩:=y;rw[KT.cmp] at d;let e:Xo o (.tup l) (.tup m)=Qs o l m:=by
    unfold Xo Qs;rw[KT.plt,KT.plt]
   rw[e];intro c w E Q h;let⟨⟨cls,dd,data,sl⟩,G,k,R,Y⟩:=id px;let⟨⟨V,J,I,U⟩,f,g,S,r⟩:=id py;simp only at k Y g r;subst k Y g r;let W:∀ x y v u,x∈l->ZL s.heap x v->ZL s.heap y u->SeqAt.EqAt A.in1 s v u (x.eqb y):=λx y v u L N O=>by
    let d1:=Px L;exact NC x.depth x y A.in1 v u (zY _) N O (by show A.units+1+x.depth<cLine;lia)
   let X:∀ x y v u,x∈l->ZL s.heap x v->ZL s.heap y u->x.cmp y=true->MQ o A.in1 s v u (Xo o x y):=λx y v u L N O k3=>by
    let d1:=Px L;exact G6 o n x y A.in1 v u ∅ N O k3 (by show A.units+1+x.depth<cLine;lia)
   let T:=ZD2 o p q M.toArray C.toArray R S dd J sl U l m;cases o
   ·exact richCompare_meets_room (op:=.Lt) ⟨_,G,Z⟩ ⟨_,f,Z⟩ PySem.F.slot_tuple_lt PySem.F.entry_tuple_lt (PySem.F.args_tuple_lt_2 _ _) T ⟨G,f,kx,ky,d,W,X,(λx=>nomatch x),h⟩ B
   ·exact richCompare_meets_room (op:=.LtE) ⟨_,G,Z⟩ ⟨_,f,Z⟩ PySem.F.slot_tuple_le PySem.F.entry_tuple_le (PySem.F.args_tuple_le_2 _ _) T ⟨G,f,kx,ky,d,W,X,(λx=>nomatch x),h⟩ B
def Fs{s:ak}(n:Nat)(a b:KT)(A:ay)(v u:ai):a.depth<=n->ZL s.heap a v->ZL s.heap b u->a.cmp b=true->A.units+a.depth<cLine->MQ false A s v u (a.plt b):=G6 false n a b A v u
def ZT.key{k:Nat}{A:ay}(r:ZT k A){n:Nat}(h:n<=200):A.units+n<cLine:=by have:=r.un;lia
inductive Jw(x y:V)(H:Hp)(Q:VK):Prop
 |mk(a b:_)(_:ZB H a x)(_:ZB H b y)(_:a.cmp b=true)(_:a.depth<=200)(_:Q (.bl (a.plt b)) H)
def Jy{k:Nat}(i:ZT k X.A):XH X (aA .Lt) Jw:=by
 intro c s m H x y v u Q I j l h;let⟨a,b,d,e,f,g,q⟩:=h;exact Fs a.depth a b X.A v u (zY _) (QA I a x v d j) (QA I b y u e l) f (ZT.key i g) X.prog X.w X.xe _ ⟨.bl _,H,I,Z,q⟩
mutual
def X8(w:ax):KT->Int
 | .int i=>hashInt i
 | .str x=>Gw w (.inr x)
 | .tup l=>reduceHash (Builtin.Tuple.tupleHashOf (hashL w l))
def hashL(w:ax):jp->jF
 | []=>[]
 | t::l=>X8 w t::hashL w l
end
def Ey(w:ax):∀(l m:jp),hashL w (l++m)=hashL w l++hashL w m
 | [],m=>by rw[hashL];rfl
 | t::l,m=>by rw[tR,hashL,hashL,Ey w l m];rfl
def JS:∀(n:Nat)(t:KT){A:ay}{E:ja}{s:ak}{v:ai}{Q:Int->ak->Prop},t.depth<=n->ZL s.heap t v->A.units+t.depth<cLine->(∀ d,s.toks<=d->Q (X8 w t) { s with toks:=d })->aC (aB prog w) A (pyHash v) Q E s
 | n,.int i,A,E,s,v,Q,_,x,B,q=>by
  rw[ZL] at x;let⟨t,rfl⟩:=x;rw[X8] at q;exact wpAny_pyHash_int (q _ (xD _))
 | n,.str i,A,E,s,v,Q,_,x,B,q=>by
  rw[ZL] at x;let⟨t,rfl⟩:=x;rw[X8] at q;exact wpAny_pyHash_str (q _ (xD _))
 | 0,.tup l,A,E,s,v,Q,D,x,B,q=>by rw[KT.depth] at D;lia
 | n+1,.tup l,A,E,s,v,Q,D,x,B,q=>by
  rw[KT.depth] at D B;rw[ZL] at x;let⟨a,N,rfl,I,R⟩:=x;let z:=I.typeIs;let⟨o,M,S,nn,K⟩:=I;unfold pyHash
  first | unfold pyHashByItsType | skip
  first | refine aa (wpAny_cRoomFor_or (.inr ∅) ?_) | skip
  refine aa (wpAny_specialOf z tF.lookup ?_);show aC _ _ (if (some (Value.builtin "tuple.__hash__")==some Value.none)=true then _ else _) Q E s
  rw[aM (by rw[beq_builtin_none];exact zW)]
  refine aa (wpAny_specialOf z tF.lookup ?_);show aC _ _ (callSpecialIfBoundUnlessNone? (.ref a) "__hash__" _ >>= _) Q E s;refine aa (wpAny_callSpecialIfBoundUnlessNone?_slot z tF (wpAny_call_entry tF z PySem.F.entry_tuple_hash ?_ (PySem.F.args_tuple_hash_1 _)));show aC _ _ (Builtin.Tuple.tupleItemsOf (.ref a) >>= _) _ _ s;refine aa (wpAny_tupleItemsOf M K (aa ?_));rw[<-rY];refine wpAny_forIn_list _ (λrest (b:Array Int) H=>∃ h c d,l=h++c/\jZ s.heap c rest/\b.toList=hashL w h/\H={ s with toks:=d }/\s.toks<=d) _ ?_ ?_ _ _ ⟨[],l,s.toks,Z,R,by rw[hashL],Z,zY _⟩
  ·rintro x rest b H ⟨h,c,d,k,f,C,rfl,p⟩
   cases c with
   | nil=>rw[jZ] at f;cases f
   | cons t c=>
    rw[jZ] at f;let⟨U,T,e,O,P⟩:=f;injection e with e1 e2;subst e1 e2;let L:t.depth<=ke l:=by rw[k];exact Px (by simp)
    refine aa (JS n t (s:={ s with toks:=d }) ∅ O (by show A.units+1+_<_;lia) λy J=>?_)
    let m:∃ j r u,l=j++r/\jZ s.heap r rest/\(b.push (X8 w t)).toList=hashL w j/\({ s with toks:=y }:ak)={ s with toks:=u }/\s.toks<=u:=
     ⟨h++[t],c,y,by rw[k];simp,P,by rw[uV,C,Ey,hashL,hashL],rfl,zS p J⟩
    first | exact ad m | exact aa (ad (ad m))
  ·rintro b H ⟨h,c,d,k,f,C,rfl,p⟩
   cases c with
   | cons t c=>rw[jZ] at f;let⟨_,_,e,_⟩:=f;cases e
   | nil=>
    rw[yR] at k;subst k;show aC _ _ (retInt (Builtin.Tuple.tupleHashOf b.toList)) _ _ _;rw[C];refine wpAny_ret_mkInt ?_;show aC _ _ (if (decide (-(2:Int) ^ 63<=Builtin.Tuple.tupleHashOf (hashL w l))&&decide (Builtin.Tuple.tupleHashOf (hashL w l)<2 ^ 63))=true then _ else _) Q E _
    let g:=q (d+1) ∅
    rw[X8] at g;unfold reduceHash at g;split
    ·rename_i G
     rw[aO G] at g;exact ad g
    ·rename_i G
     rw[aM G] at g;exact aa (ah (ad g))
def JX:∀(n:Nat)(t:KT){A:ay}{E:ja}{s:ak}{v:ai}{Q:Bool->ak->Prop},t.depth<=n->ZL s.heap t v->Q true s->aC (aB prog w) A (eqIsQuiet n v) Q E s
 | n,.int i,A,E,s,v,Q,_,x,q=>by
  rw[ZL] at x;let⟨t,rfl⟩:=x;rw[eqIsQuiet_byValue n rfl];exact ad q
 | n,.str i,A,E,s,v,Q,_,x,q=>by
  rw[ZL] at x;let⟨t,rfl⟩:=x;rw[eqIsQuiet_byValue n rfl];exact ad q
 | 0,.tup l,A,E,s,v,Q,f,x,q=>by rw[KT.depth] at f;lia
 | n+1,.tup l,A,E,s,v,Q,f,x,q=>by
  rw[KT.depth] at f;rw[ZL] at x;let⟨a,h,rfl,m,B⟩:=x;let k:=m.typeIs;let⟨o,u,C,nn,p⟩:=m;unfold eqIsQuiet;refine aa (wpAny_specialOf k PySem.F.slot_tuple_eq.lookup ?_);show aC _ _ (isInstance (.ref a) (.type "tuple") >>= _) _ _ s;refine aa (wpAny_isInstance k isSubtype_tuple_tuple ?_);simp only[tZ,wW,if_false];refine aa (wpAny_seqItems u p (aa ?_));show aC _ _ (forIn h.toArray _ _) _ _ s;rw[<-rY];refine wpAny_forIn_list _ (λrest r j=>r.1=none/\j=s/\∃ b,jZ s.heap b rest/\ke b<=n) _ ?_ ?_ _ _ ⟨Z,Z,l,B,∅⟩
  ·rintro x rest r j ⟨g,rfl,b,c,d⟩
   cases b with
   | nil=>rw[jZ] at c;cases c
   | cons t b=>
    rw[jZ] at c;let⟨I,D,e,y,z⟩:=c;injection e with e1 e2;subst e1 e2;rw[ke] at d;refine aa (JX n t ∅ y ?_)
    simp only[tZ,wW,if_false];exact ad ⟨Z,Z,b,z,∅⟩
  ·rintro⟨G,H⟩ j ⟨g,rfl,_⟩;dsimp only at g;subst g;exact ad q
structure O7(w:ax)(h:aE)(ks:jp)(es:Array DictEntry):Prop where
 len:es.size=ks.length
 ent:∀(i:Nat)(e:DictEntry),es[i]? = some e->∃ t,ks[i]? = some t/\e.hash=X8 w t/\ZL h t e.key/\t.depth<=3
 nd:ks.Nodup
def O7.uniq{h:aE}{b:jp}{d:Array DictEntry}(x:O7 w h b d){i j:Nat}{t:KT}(c:b[i]? = some t)(e:b[j]? = some t):i=j:=by
 let⟨a,f⟩:=zC.mp c;exact(sE a x.nd).mp (c.trans e.symm)
def O7.get{h:aE}{f:jp}{b:Array DictEntry}(x:O7 w h f b){j:Nat}{t:KT}(d:f[j]? = some t):∃ e,b[j]? = some e/\e.hash=X8 w t/\ZL h t e.key/\t.depth<=3:=by
 let⟨a,_⟩:=zC.mp d;let l:j<b.size:=by have:=x.len;lia
 let e:b[j]? = some b[j]:=uY l;let⟨m,c,g,i,k⟩:=x.ent j _ e;rw[d] at c;cases c;exact⟨_,e,g,i,k⟩
def IG{v:ai}{a:je}{Q:Bool->ak->Prop}(i:∃ t,ZL s.heap t v/\t.depth<=8)(f:∀ u∈a,∃ t,ZL s.heap t u/\t.depth<=8)(h:Q false s):aC (aB prog w) A (tableMayTell v a) Q E s:=by
 unfold tableMayTell;refine wpAny_ite_split (λ_=>ad h) (λ_=>?_);let⟨t,kv,e⟩:=i;refine aa (JX 8 t e kv ?_);simp only[tZ,wW,if_false];refine aa ?_;refine wpAny_forIn_list _ (λrest r c=>c=s/\r=(none,())/\∀ u∈rest,u∈a) _ ?_ ?_ _ _ ⟨Z,Z,λ_ z=>z⟩
 ·rintro u rest r c ⟨rfl,rfl,d⟩;let⟨j,Xo,b⟩:=f u (d u (zI ..));refine aa (JX 8 j b Xo ?_);simp only[tZ,wW,if_false];exact ad ⟨Z,Z,λu g=>d u (zG _ g)⟩
 ·rintro r c ⟨rfl,rfl,_⟩;exact ad h
def ZM7{d:aj}{o:aI}{c:Array DictEntry}{ep:Nat}{X:jp}{t:KT}{v:ai}{Q:jw->ak->Prop}(M:ZL s.heap t v)(dt:t.depth<=3)(hu:A.units+3<cLine)(U:s.heap.get? d=some o)(T:o.data=.dict c ep)(x:O7 w s.heap X c)(a2:t∉X->Q none s)(F:∀ j,X[j]? = some t->Q (some j) s):aC (aB prog w) A (dictFind d v (X8 w t)) Q E s:=by
 let N:∀ j,X[j]? = some t->j∈placesWithHash c.size (λi=>c[i]?.map (·.hash)) (X8 w t):=λj k=>by
  let⟨e,n,B,_⟩:=x.get k;let⟨lt,_⟩:=uE.mp n;unfold placesWithHash;rw[vF,xV];exact⟨lt,by show (Option.map _ c[j]? == _)=true;rw[n,wF,B];simp⟩
 let G:∀ i,i∈placesWithHash c.size (λi=>c[i]?.map (·.hash)) (X8 w t)->∃ e u,c[i]? = some e/\e.hash=X8 w t/\X[i]? = some u/\ZL s.heap u e.key/\u.depth<=3:=λi K=>by
  unfold placesWithHash at K;rw[vF,xV] at K;let n:c[i]? = some c[i]:=uY K.1;let⟨u,B,_,C,D⟩:=x.ent i _ n;have:(Option.map (·.hash) c[i]? == some (X8 w t))=true:=K.2;rw[n,wF] at this;exact⟨_,u,n,by simpa using this,B,C,D⟩
 let a5:(placesWithHash c.size (λi=>c[i]?.map (·.hash)) (X8 w t)).Nodup:=by
  unfold placesWithHash;exact List.nodup_range.filter _
 let p:∀(u:KT)(e:DictEntry),ZL s.heap u e.key->u.depth<=3->SeqAt.EqAt A s e.key v (u.eqb t):=λu e k1 d1=>NC u.depth u t A e.key v (zY _) k1 M ∅
 let m:∀ u∈(placesWithHash c.size (λi=>c[i]?.map (·.hash)) (X8 w t)).filterMap (λi=>c[i]?.map (·.key)),∃ t,ZL s.heap t u/\t.depth<=8:=λu hu=>by
  let⟨i,K,e⟩:=tM.mp hu;let⟨en,z,n,_,_,C,D⟩:=G i K;rw[n,wF] at e;cases e;exact⟨z,C,∅⟩
 unfold dictFind
 try with_reducible refine af ?_
 refine aa (wpAny_dictEntries U T ?_);generalize hP:placesWithHash c.size (λi=>c[i]?.map (·.hash)) (X8 w t)=pl at N G a5 m;let O:aC (aB prog w) A (dictWalkPlain d v (X8 w t) c pl) Q E s:=by
  unfold dictWalkPlain;refine aa ?_;refine wpAny_forIn_list _ (λrest b s'=>s'=s/\b=(none,())/\(∀ i∈rest,i∈pl)/\∀ i∈pl,i∈rest\/X[i]? ≠ some t) _ ?_ ?_ _ _ ⟨Z,Z,λ_ z=>z,λ_ z=>.inl z⟩
  ·rintro i rest b s' ⟨rfl,rfl,h1,H⟩;let⟨e,u,n,B,J,C,D⟩:=G i (h1 i (zI ..));rw[n];dsimp only;rw[B,aO (by simp)]
   refine aa (wpAny_dictEpoch U T (aa (p u e C D prog w _ _ (aa (wpAny_dictEpoch U T ?_)))));rw[aM (by simp)]
   cases I:u.eqb t with
   | true=>
    have:u=t:=Vg u t I;subst this;rw[aO rfl];exact aa (ah (ad (ad (F i J))))
   | false=>
    rw[aM zW];refine aa (ah (ad ⟨rfl,rfl,λj k=>h1 j (zG _ k),λj k=>?_⟩));rcases H j k with z | z
    ·rcases yT.mp z with z | z
     ·subst z;refine .inr λz=>?_;rw[J] at z;cases z;rw[Uh] at I;cases I
     ·exact .inl z
    ·exact .inr z
  ·rintro b s' ⟨rfl,rfl,_,H⟩;refine ad (a2 λz=>?_);let⟨j,k⟩:=tG.mp z;rcases H j (N j k) with q | q
   ·cases q
   ·exact q k
 let L:∀(f:Nat->Option (jw)×jw->Sem (ForInStep (Option (jw)×jw)))(g:Option (jw)×jw->Sem (jw)),(∀ r,g (some r,none)=pure r)->(∀ h,g (none,h)=pure h) ->
   (∀ i u e (R:ForInStep (Option (jw)×jw)->ak->Prop),c[i]? = some e->e.hash=X8 w t->ZL s.heap u e.key->u.depth<=3->u=t->R (.done (some (some i),none)) s->R (.yield (none,some i)) s->aC (aB prog w) A (f i (none,none)) R E s) ->
   (∀ i u e a1 (R:ForInStep (Option (jw)×jw)->ak->Prop),c[i]? = some e->e.hash=X8 w t->ZL s.heap u e.key->u.depth<=3->u≠t->R (.yield (none,a1)) s->aC (aB prog w) A (f i (none,a1)) R E s) ->
   aC (aB prog w) A (forIn pl (none,none) f >>= g) Q E s:=λf g g1 g2 f1 f2=>by
  refine aa ?_;refine wpAny_forIn_list _ (λrest b s'=>s'=s/\rest.Nodup/\(∀ i∈rest,i∈pl)/\((b=(none,none)/\∀ i∈pl,i∈rest\/X[i]? ≠ some t)\/∃ j,b=(none,some j)/\X[j]? = some t/\j∉rest)) _ ?_ ?_ _ _ ⟨Z,a5,λ_ z=>z,.inl ⟨Z,λ_ z=>.inl z⟩⟩
  ·rintro i rest b s' ⟨rfl,nd,h1,H⟩;let⟨e,u,n,B,J,C,D⟩:=G i (h1 i (zI ..));let V:=wG.mp nd;let a0:∀ j∈rest,j∈pl:=λj k=>h1 j (zG _ k);by_cases I:u=t
   ·let S:=J;rw[I] at S;rcases H with ⟨rfl,H⟩ | ⟨j,rfl,k,hn⟩
    ·refine f1 i u e _ n B C D I ?_ ?_
     ·show aC _ _ (g (some (some i),none)) _ _ _;rw[g1];exact ad (F i S)
     ·exact⟨Z,V.2,a0,.inr ⟨i,Z,S,V.1⟩⟩
    ·have:i=j:=x.uniq S k;exact absurd (this ▸ zI ..) hn
   ·rcases H with ⟨rfl,H⟩ | ⟨j,rfl,k,hn⟩
    ·refine f2 i u e none _ n B C D I ⟨Z,V.2,a0,.inl ⟨Z,λj k=>?_⟩⟩;rcases H j k with z | z
     ·rcases yT.mp z with z | z
      ·subst z;exact .inr λz=>I (by rw[J] at z;exact zA.inj z)
      ·exact .inl z
     ·exact .inr z
    ·exact f2 i u e (some j) _ n B C D I ⟨Z,V.2,a0,.inr ⟨j,Z,k,λz=>hn (zG _ z)⟩⟩
  ·rintro b s' ⟨rfl,_,_,H⟩;rcases H with ⟨rfl,H⟩ | ⟨j,rfl,k,hn⟩
   ·rw[g2];refine ad (a2 λz=>?_);let⟨j,k⟩:=tG.mp z;rcases H j (N j k) with q | q
    ·cases q
    ·exact q k
   ·rw[g2];exact ad (F j k)
 let vs:(∃ a,v=.ref a)\/(∃ i P,v=.int i P)\/∃ y P,v=.str y P/\t=.str y:=by
  cases t with
  | int i=>rw[ZL] at M;let⟨P,e⟩:=M;exact .inr (.inl ⟨i,P,e⟩)
  | str y=>rw[ZL] at M;let⟨P,e⟩:=M;exact .inr (.inr ⟨y,P,e,rfl⟩)
  | tup l=>rw[ZL] at M;let⟨a,_,e,_⟩:=M;exact .inl ⟨a,e⟩
 rcases vs with ⟨a,rfl⟩ | ⟨i,P,rfl⟩ | ⟨y,P,rfl,ht⟩
 case' inl=>
  dsimp only;rw[aM (by simp[carriedByValue])]
  let a3:¬ (c.any λe=>e.key==Value.ref a&&e.hash != X8 w t)=true:=by
   rw[<-Array.any_toList,sI];rintro⟨e,a6,hc⟩;let⟨j,k⟩:=tG.mp a6;rw[yQ] at k;let⟨u,_,B,J,_⟩:=x.ent j e k;rw[zO] at hc;rw[eq_of_beq hc.1] at J;have:u=t:=Vg _ _ (ZL.inj _ _ _ J M);rw[B,this] at hc;simp at hc
  rw[aM a3];refine wpAny_ite_split (λ_=>aa (ad ?_)) (λ_=>aa (IG ⟨t,M,∅⟩ m ?_))
 case' inr.inl=>
  dsimp only;refine wpAny_ite_split (λ_=>O) (λ_=>?_);refine wpAny_ite_split (λ_=>aa (ad ?_)) (λ_=>aa (IG ⟨t,M,∅⟩ m ?_))
 case' inr.inr=>
  let Y:aC (aB prog w) A (foundByValue d (.str y P) c y) Q E s:=by
   unfold foundByValue
   cases hf:c.findIdx? (λe=>e.key.isStr y) with
   | none=>
    refine ad (a2 λz=>?_);let⟨j,k⟩:=tG.mp z;let⟨e,n,B,J,_⟩:=x.get k;have:=Array.findIdx?_eq_none_iff.mp hf e (Array.mem_of_getElem? n);rw[ht,ZL] at J;let⟨W,ek⟩:=J;rw[ek] at this;simp[Value.isStr] at this
   | some i=>
    let⟨a7,K,_⟩:=Array.findIdx?_eq_some_iff_getElem.mp hf;let n:c[i]? = some c[i]:=uY a7;let⟨u,B,J,C,D⟩:=x.ent i _ n;let a4:u=t:=by
     let hs:∃ W,c[i].key=.str y W:=by
      cases q:c[i].key with
      | str z tz=>rw[q] at K;simp[Value.isStr] at K;exact⟨tz,by rw[K]⟩
      | _=>rw[q] at K;simp[Value.isStr] at K
     let⟨W,ek⟩:=hs;let hk:ZL s.heap (.str y) c[i].key:=by rw[ZL];exact⟨W,ek⟩
     rw[ht];exact Vg _ _ (ZL.inj _ _ _ C hk)
    dsimp only;rw[n];dsimp only;refine aa (wpAny_dictEpoch U T (aa (p u _ C D prog w _ _ (aa (wpAny_dictEpoch U T ?_)))));rw[aM (by simp),a4,Uh,aO rfl]
    exact aa (ah (ad (F i (by rw[B,a4]))))
  dsimp only;refine wpAny_ite_split (λ_=>Y) (λ_=>?_);refine wpAny_ite_split (λ_=>O) (λ_=>?_);refine wpAny_ite_split (λ_=>aa (ad ?_)) (λ_=>aa (IG ⟨t,M,∅⟩ m ?_))
 all_goals
  rw[aM (by simp)]
  refine L _ _ (λr=>rfl) (λh=>rfl) (λi u e R n B C D I r1 r2=>?_) (λi u e a1 R n B C D I r1=>?_)
  ·rw[n];dsimp only;rw[B,aO (by simp)]
   refine aa (wpAny_dictEpoch U T (aa (p u e C D prog w _ _ (aa (wpAny_dictEpoch U T ?_)))));rw[aM (by simp),I,Uh,aO rfl]
   simp only[Option.isSome_none,wW,if_false];refine aa (ah (wpAny_ite_split (λ_=>ad r1) (λ_=>ad r2)))
  ·rw[n];dsimp only;rw[B,aO (by simp)]
   refine aa (wpAny_dictEpoch U T (aa (p u e C D prog w _ _ (aa (wpAny_dictEpoch U T ?_)))));let hf:u.eqb t=false:=by
    cases q:u.eqb t with
    | false=>rfl
    | true=>exact absurd (Vg _ _ q) I
   rw[aM (by simp),hf,aM zW]
   refine aa (ah ?_);rw[aM (by simp)]
   exact ad r1
end Tw
namespace L2
open PySem PySem.Spec PyProof.Rows
def Ze.there{P:al}{w:ax}{H:Hp}{h:aE}{a:aj}:∀{o:HO},Ze P w H h a o->∃ b,h.get? a=some b:=by
 intro o x
 induction o with
 | lst l=>let⟨z,j,n,r,e⟩:=x;exact⟨_,e⟩
 | tup l=>let⟨z,j,r,b,e,c⟩:=x;exact⟨_,e⟩
 | dK k=>let⟨z,y,G,r,b,i,g,e,c⟩:=x;exact⟨_,e⟩
 | dT k=>let⟨z,y,l,r,b,i,g,e,c⟩:=x;exact⟨_,e⟩
 | set S n=>let⟨b,i,g,t,e,c⟩:=x;exact⟨_,e⟩
 | ins C p m=>let⟨d,z,D,e,_⟩:=x;exact⟨_,e⟩
 | own y=>exact x
 | xd m=>let⟨B,⟨E,i,g,e,c⟩,r⟩:=x;exact⟨_,e⟩
 | rng A q=>let⟨t,u,v,e⟩:=x;exact⟨_,e⟩
 | frz b u s=>exact⟨_,x.1⟩
 | tbl F=>exact⟨_,x⟩
 | met f y=>exact⟨_,x⟩
 | ext I=>exact x.2.1
def Yd.there{P:al}{w:ax}{H:Hp}{h:aE}{a:aj}(x:Yd P w H h)(n:H a≠none):∃ b,h.get? a=some b:=by
 cases e:H a with
 | none=>exact absurd e n
 | some o=>exact Ze.there (x a o e)
def Yd.keptT{P:al}{w:ax}{H:Hp}{h d:aE}(x:Yd P w H h)(k:∀ b u,h.get? b=some u->H b≠none->d.get? b=some u):Yd P w H d:=λa o e=>
 (x a o e).stay (λb u c q=>k b u q (by
  rcases c with rfl | c
  ·rw[e];exact λz=>nomatch z
  ·rw[c];exact λz=>nomatch z)) (λ_ q=>q) λ_ _ q=>q
section
variable{kh:ju}{σ:St}{H H':Hp}{s':ak}{E:XK}
def ZF.noloc(I:ZF X kh σ H s):X.s₀.heap.get? X.env.locals=none:=tJ I.ok.above
def Gk(I:ZF X kh σ H s):∀ b∈frs X.stack,∀ o,s.heap.get? b=some o->∀ a,o.data≠.fields a:=λb c o q a z=>by
 let⟨_,f,e,d⟩:=I.stack.mem c;rw[q] at e;cases e;exact d a z
end
end L2
namespace L2
open PySem PySem.Spec PySem.W PyProof.Rows
def QQ(x C:aj)(h:aE):Prop:=∃ o,h.get? x=some o/\o.cls=.ref C
def QQ.ty{x C:aj}{h:aE}(I:QQ x C h)(M:Model):Looks M h (typeOf (.ref x)) (.ref C):=by
 let⟨o,e,c⟩:=I;rw[<-c];exact Looks.andThen (Looks.ld e) Looks.now
structure Nn(K:Frag)(C:aj):Prop where
 ga:findIn K (.ref C) "__getattribute__" = some (some (.builtin "BaseException.__getattribute__"))
 hk:findIn K (.ref C) "__getattr__" = some none
 mB:mroIn K C (.type "BaseException")=some true
 mO:mroIn K C (.type "object")=some true
 ca:findIn K (.ref C) "__class__" = some (some (.builtin "object.__class__"))
 hn:specialIn K (.builtin "object.__class__") "__get__" = some (some (.builtin "getset_descriptor.__get__"))
 tk:takesIn K (.builtin "object.__class__")=some true
section
variable{K:Frag}{x C:aj}
end
end L2
namespace L2
open PySem PySem.Spec PyProof.Rows
def Cx.held(X:Cx)(a:aj)(E:ja):Cx:={ X with A:=X.A.mark (some (.ref a)),calm:=false,xe:=E }
section
variable{kh:ju}{σ:St}{H H':Hp}{s':ak}{ea:aj}
def ZF.held(I:ZF X kh σ H s)(ea:aj)(E:ja):ZF (X.held ea E) kh σ H s:=
 ⟨⟨I.ok.mod,I.ok.kind,I.ok.glob,I.ok.blt,I.ok.above,I.ok.inj,I.ok.has,I.ok.cab,λz=>absurd z zW,I.ok.frames,I.ok.stk,I.ok.exf,I.ok.bs,I.ok.bsz,I.ok.noex,I.ok.exfs,I.ok.funs,I.ok.frf⟩,
  I.os,I.bare,I.base,I.loc,I.cell,I.free,I.freeC,I.pin,I.hok,I.len⟩
def ZF.unheld(a:X.Ok)(I:ZF (X.held ea E) kh σ H s):ZF X kh σ H s:=⟨a,I.os,I.bare,I.base,I.loc,I.cell,I.free,I.freeC,I.pin,I.hok,I.len⟩
end
section
variable{x C CB:aj}
def GM{b:Bool}{Q:Bool->ak->Prop}(X:K.In s.heap)(I:QQ x C s.heap)(o:wZ K (.ref CB)=some (.type "type"))(c:yB K CB (.type "BaseException")=some true)(l:yB K C (.ref CB)=some b)(h:Q b s):aC (aB prog w) A (excMatches (.ref x) (.ref CB)) Q E s:=by
 let⟨m,g,d,t,H⟩:=s;let v:=I.ty (aB prog w);let y:=tI (M:=aB prog w) X c;let z:=tI (M:=aB prog w) X l;let e:=qI (M:=aB prog w) X o;let f:=tc_notTuple;let B:xL (aB prog w) m (isType (.ref CB)) true:=by
  let⟨j,a,_⟩:=Option.bind_eq_some_iff.mp c;unfold PySem.W.clsIn at a;split at a
  ·rename_i F G i p n
   intro r D u J k q;unfold isType loadHead;exact aa (wpAny_loadPart (k _ _ (X _ _ n)) (ad q))
  ·cases a
 unfold excMatches isInstance isExcClass;refine aa (aa (e.at ?_));rw[f];refine ad ?_;rw[aM zW];refine aa (ad ?_);simp only[sO,List.forIn_nil]
 cases b with
 | true=>
  repeat (first | lk | wp_step)
  all_goals first | exact h | trace_state
 | false=>
  repeat (first | lk | wp_step)
  all_goals first | exact h | trace_state
end
end L2
namespace Tw
open PySem
inductive TG where
 | int (i:Int)
 | str (x:Str)
 | tup (l:List TG)
 | odd (n:String)
mutual
def TG.fits:TG->Nat->Bool
 | .int i,_=>decide (i.natAbs<10 ^ 60)
 | .str x,_=>PN x
 | .tup l,r=>decide (0<r)&&(decide (l.length<=4)&&gfitsL l (r-1))
 | .odd _,_=>false
def gfitsL:List TG->Nat->Bool
 | [],_=>true
 | t::l,r=>t.fits r&&gfitsL l r
end
def G9(r:Nat):∀ l:List TG,gfitsL l r=l.all λt=>t.fits r
 | []=>by simp[gfitsL]
 | t::l=>by rw[gfitsL,sV,G9 r l]
mutual
def KT.emb:KT->TG
 | .int i=>.int i
 | .str x=>.str x
 | .tup l=>.tup (embL l)
def embL:jp->List TG
 | []=>[]
 | t::l=>t.emb::embL l
end
def MZ:∀ l:jp,embL l=l.map KT.emb
 | []=>by rw[embL];rfl
 | t::l=>by rw[embL,MZ l];rfl
mutual
def Hx:∀(t:KT)(r:Nat),t.emb.fits r=t.fits r
 | .int i,r=>by rw[KT.emb,TG.fits,KT.fits]
 | .str x,r=>by rw[KT.emb,TG.fits,KT.fits]
 | .tup l,r=>by rw[KT.emb,TG.fits,KT.fits,embL_fits l (r-1),MZ,zX]
def embL_fits:∀(l:jp)(r:Nat),gfitsL (embL l) r=fitsL l r
 | [],r=>by rw[embL,gfitsL,fitsL]
 | t::l,r=>by rw[embL,gfitsL,fitsL,Hx t r,embL_fits l r]
end
mutual
def TG.neat:TG->Prop
 | .int _=>True
 | .str x=>x.length<=1000
 | .tup l=>l.length<=5/\neatL l
 | .odd _=>True
def neatL:List TG->Prop
 | []=>True
 | t::l=>t.neat/\neatL l
end
def Ec:∀{l:List TG}{t:TG},neatL l->t∈l->t.neat
 | [],_,_,h=>by cases h
 | u::l,t,h,hm=>by
  rw[neatL] at h;rcases yT.mp hm with e | e
  ·subst e;exact h.1
  ·exact Ec h.2 e
mutual
def HZ:∀(t:KT)(r:Nat),t.fits r=true->t.emb.neat
 | .int i,r,h=>by rw[KT.emb,TG.neat];trivial
 | .str x,r,h=>by
  rw[KT.fits] at h;rw[KT.emb,TG.neat];have:=(AR h).1;exact zS this (by decide)
 | .tup l,r,h=>by
  rw[KT.fits,zO,zO] at h;rw[KT.emb,TG.neat,MZ,zX,<-MZ];have:=of_decide_eq_true h.2.1;exact⟨∅,embL_neat l (r-1) h.2.2⟩
def embL_neat:∀(l:jp)(r:Nat),fitsL l r=true->neatL (embL l)
 | [],r,h=>by rw[embL,neatL];trivial
 | t::l,r,h=>by
  rw[fitsL,zO] at h;rw[embL,neatL];exact⟨HZ t r h.1,embL_neat l r h.2⟩
end
end Tw
namespace L2
open PySem PySem.Spec PyProof.Rows
def ZF.big{a:ju}{b:St}{H:Hp}{s:ak}(I:ZF X a b H s):sysModules<s.heap.objs.size:=by
 let h:ao<s.heap.objs.size:=(I.mod.glob.keeps I.bk).lt;exact Nat.lt_trans (by decide) h
def ZLE{P:al}{w:ax}{H:Hp}(h:aE)(a:sysModules<h.objs.size):Ze P w H (h.push { cls:=.type "dict",data:=.dict #[] }) h.objs.size (.dK []):=
 ⟨zN _,beq_eq_false_iff_ne.mpr (Ne.symm (yW a)),[],.nil,Heap.DictOf.new h⟩
def BH:TE:=λ_ H Q=>∀ p,H p=none->Q (.ref p) (upd H p (.dK []))
def Fv{pos:Pos}:PE X (.Dict [] [] pos) BH:=λb s c H Q I h=>
 wpAny_Dict_empty ⟨.ref s.heap.objs.size,_,I.laid (a:=s.heap.objs.size) (o:=.dK []) (t':=s.toks) (λ_ _ q=>zQ _ q) (zY _) (ZLE s.heap I.big),rfl,h _ (I.hok.fresh (zY _))⟩
section
variable{κ:Type}[DecidableEq κ]
def Y9(a:List (κ×V))(k:κ):jg:=(a.find? λkv=>decide (kv.1=k)).map (·.2)
def Xj(a:List (κ×V))(k:κ)(v:V):List (κ×V):=
 if (a.any λkv=>decide (kv.1=k))=true then a.map (λkv=>if kv.1=k then (kv.1,v) else kv) else a++[(k,v)]
def Qg{p:κ×V}{r:List (κ×V)}{k:κ}(e:p.1=k):Y9 (p::r) k=some p.2:=by simp[Y9,wH,e]
def QM{p:κ×V}{r:List (κ×V)}{k:κ}(e:¬ p.1=k):Y9 (p::r) k=Y9 r k:=by simp[Y9,wH,e]
def NA(k:κ):∀ a:List (κ×V),(a.any λkv=>decide (kv.1=k))=(Y9 a k).isSome
 | []=>rfl
 | p::r=>by
  rw[tX];by_cases e:p.1=k
  ·simp only[Qg e,aK e,Bool.true_or,Option.isSome_some]
  ·rw[QM e,aJ e,Bool.false_or];exact NA k r
def EY(k j:κ)(y:V):∀ a:List (κ×V),Y9 (a.map λkv=>if kv.1=k then (kv.1,y) else kv) j=(Y9 a j).map λx=>if j=k then y else x
 | []=>rfl
 | p::r=>by
  let b:=EY k j y r;rw[zF];by_cases h:p.1=k
  ·rw[aO h];by_cases e:p.1=j
   ·rw[Qg (p:=(p.1,y)) e,Qg e,wF,aO (e.symm.trans h)]
   ·rw[QM (p:=(p.1,y)) e,QM e,b]
  ·rw[aM h];by_cases e:p.1=j
   ·rw[Qg (p:=p) e,Qg e,wF,aM (λz=>h (e.trans z))]
   ·rw[QM (p:=p) e,QM e,b]
def EC(k j:κ)(y:V):∀ a:List (κ×V),Y9 a k=none->Y9 (a++[(k,y)]) j=if j=k then some y else Y9 a j
 | [],_=>by
  by_cases e:k=j
  ·rw[aO e.symm];exact Qg (p:=(k,y)) e
  ·rw[aM (λz=>e z.symm)];exact QM (p:=(k,y)) e
 | p::r,hn=>by
  rw[tR];let b:¬ p.1=k:=λz=>by rw[Qg z] at hn;cases hn
  rw[QM b] at hn;let c:=EC k j y r hn;by_cases e:p.1=j
  ·rw[Qg e,Qg e,aM (λz=>b (e.trans z))]
  ·rw[QM e,QM e,c]
def Fo(b:List (κ×V))(k j:κ)(y:V):Y9 (Xj b k y) j=if j=k then some y else Y9 b j:=by
 unfold Xj;by_cases a:(b.any λkv=>decide (kv.1=k))=true
 ·rw[aO a,EY];rw[NA] at a;by_cases e:j=k
  ·let⟨x,c⟩:=sZ.mp a;rw[aO e,e,c,wF,aO rfl]
  ·rw[aM e]
   cases Y9 b j with
   | none=>rfl
   | some x=>rw[wF,aM e]
 ·rw[aM a];refine EC k j y b ?_;rw[NA] at a
  cases q:Y9 b k with
  | none=>rfl
  | some x=>rw[q] at a;exact(a Z).elim
def KG(a:List (κ×V))(k:κ)(v:V):(Xj a k v).length<=a.length+1:=by
 unfold Xj;split
 ·rw[zX];lia
 ·rw[zT,yV,sY];lia
def Cc{a:List (κ×V)}{k:κ}(v:V)(h:Y9 a k=none):Xj a k v=a++[(k,v)]:=by
 unfold Xj;rw[NA,h];exact aM (by decide)
def Ys.isSome_eq{o:jg}{u:jd}(r:Ys o u):o.isSome=u.isSome:=by
 cases o with
 | none=>cases u with
  | none=>rfl
  | some _=>exact(show False from r).elim
 | some _=>cases u with
  | none=>exact(show False from r).elim
  | some _=>rfl
def KV.val{a:List (κ×V)}{g:List (κ×ai)}(r:KV a g)(k:κ):Ys (Y9 a k) (valueAt g k):=by
 unfold KV at r
 induction r with
 | nil=>exact True.intro
 | @cons p q l d h t j=>
  let⟨f,i⟩:=h;by_cases e:p.1=k
  ·let c:q.1=k:=f.symm.trans e;let b:valueAt (q::d) k=some q.2:=by simp[valueAt,wH,c]
   rw[Qg e,b];exact i
  ·let c:¬ q.1=k:=λz=>e (f.trans z);let b:valueAt (q::d) k=valueAt d k:=by simp[valueAt,wH,c]
   rw[QM e,b];exact j
def KV.any{a:List (κ×V)}{b:List (κ×ai)}(r:KV a b)(k:κ):(a.any λkv=>decide (kv.1=k))=b.any λkv=>decide (kv.1=k):=by
 unfold KV at r
 induction r with
 | nil=>rfl
 | cons h t c=>rw[tX,tX,c,h.1]
def KV.repl{a:List (κ×V)}{c:List (κ×ai)}(r:KV a c)(k:κ){y:V}{u:ai}(g:ZR y u):
  KV (a.map λkv=>if kv.1=k then (kv.1,y) else kv) (c.map λkv=>if kv.1=k then (kv.1,u) else kv):=by
 unfold KV at r⊢
 induction r with
 | nil=>exact .nil
 | @cons p q i j h t f=>
  rw[zF,zF];refine .cons ?_ f;let⟨b,d⟩:=h;by_cases e:p.1=k
  ·rw[aO e,aO (b.symm.trans e)];exact⟨b,g⟩
  ·rw[aM e,aM (λz=>e (b.trans z))];exact⟨b,d⟩
def KV.put{a:List (κ×V)}{b:List (κ×ai)}(r:KV a b)(k:κ){y:V}{u:ai}(c:ZR y u):KV (Xj a k y) (stored b k u):=by
 unfold Xj stored;rw[r.any k];by_cases e:(b.any λkv=>decide (kv.1=k))=true
 ·rw[aO e,aO e];exact r.repl k c
 ·rw[aM e,aM e];exact Paired.snoc r ⟨Z,c⟩
def KV.keys{a:List (κ×V)}{b:List (κ×ai)}(r:KV a b):a.map (·.1)=b.map (·.1):=by
 unfold KV at r
 induction r with
 | nil=>rfl
 | cons h t c=>rw[zF,zF,c,h.1]
def KV.length{a:List (κ×V)}{b:List (κ×ai)}(r:KV a b):a.length=b.length:=Paired.length r
end
def M7{P:al}{w:ax}{k:Zh}{u:ai}(r:ZR (kV k) u):(Up P w).is k u=true:=by
 cases k with
 | inl i=>let⟨t,e⟩:=(show ∃ t,u=Value.int i t from r);subst e;exact ZGH P w i t
 | inr x=>let⟨t,e⟩:=(show ∃ t,u=Value.str x t from r);subst e;exact ZGZ P w x t
def Fp{P:al}{w:ax}:∀{a:jD}{b:je},ZO (a.map kV) b->ItemsAre (Up P w) a b
 | [],_,r=>by rw[wJ] at r;cases r;exact .nil
 | k::a,_,r=>by
  rw[zF] at r
  cases r with
  | cons h t=>exact .cons (M7 h) (Fp t)
abbrev KT(H:Hp):List (jD×V)->List (jD×aj×ai)->Prop:=Paired λp q=>p.1=q.1/\H q.2.1=some (.tup (p.1.map kV))/\ZR p.2 q.2.2
def KT.val{H:Hp}{a:List (jD×V)}{g:List (jD×aj×ai)}(r:KT H a g)(k:jD):Ys (Y9 a k) ((atKey g k).map (·.2)):=by
 induction r with
 | nil=>exact True.intro
 | @cons p q l d h t j=>
  let⟨f,_,i⟩:=h;by_cases e:p.1=k
  ·let c:q.1=k:=f.symm.trans e;let b:atKey (q::d) k=some q.2:=by simp[atKey,wH,c]
   rw[Qg e,b];exact i
  ·let c:¬ q.1=k:=λz=>e (f.trans z);let b:atKey (q::d) k=atKey d k:=by simp[atKey,wH,c]
   rw[QM e,b];exact j
def KT.repl{H:Hp}{a:List (jD×V)}{d:List (jD×aj×ai)}(r:KT H a d)(k:jD){y:V}{u:ai}(i:ZR y u):
  KT H (a.map λkv=>if kv.1=k then (kv.1,y) else kv) (d.map (putAt k u)):=by
 induction r with
 | nil=>exact .nil
 | @cons p q j l h t g=>
  rw[zF,zF];refine .cons ?_ g;let⟨b,c,f⟩:=h;unfold putAt;by_cases e:p.1=k
  ·rw[aO e,aO (b.symm.trans e)];exact⟨b,c,i⟩
  ·rw[aM e,aM (λz=>e (b.trans z))];exact⟨b,c,f⟩
def KT.put{H:Hp}{a:List (jD×V)}{c:List (jD×aj×ai)}(r:KT H a c)(k:jD){b:aj}{y:V}{u:ai}(f:H b=some (.tup (k.map kV)))(d:ZR y u):
  KT H (Xj a k y) (storedH c k b u):=by
 let e:(a.any λkv=>decide (kv.1=k))=(atKey c k).isSome:=by
  rw[NA,(r.val k).isSome_eq,Option.isSome_map]
 unfold Xj storedH;rw[e];by_cases q:(atKey c k).isSome=true
 ·rw[aO q,aO q];exact r.repl k d
 ·rw[aM q,aM q];exact Paired.snoc r ⟨Z,f,d⟩
def KT.keeps{H c:Hp}{a:List (jD×V)}{d:List (jD×aj×ai)}(r:KT H a d)(f:∀ b e,H b=some (.tup e)->c b=some (.tup e)):KT c a d:=
 Paired.mapP r λ_ _ z=>⟨z.1,f _ _ z.2.1,z.2.2⟩
section
variable{H:Hp}{h:aE}{a:aj}
def Hu{u:HO}(b:Yd P w H h)(e:Rd H a u):Ze P w H h a u:=e.ok b
def NV{b:List (Zh×V)}(d:Yd P w H h)(e:Rd H a (.dK b)):b.length<=aq/\(a==sysModules)=false/\∃ c,KV b c/\h.DictOf (Up P w) a c:=
 show Ze P w H h a (.dK b) from Hu d e
def FR{b:List (Zh×V)}(d:Yd P w H h)(e:H a=some (.dK b)):b.length<=aq/\(a==sysModules)=false/\∃ c,KV b c/\h.DictOf (Up P w) a c:=NV d (.inl e)
def LV{c:jD}(i:Yd P w H h)(e:H a=some (.tup (c.map kV))):(tupleKind (Up P w)).is h c a:=by
 let⟨_,b,r,o,d,f,n,g⟩:=(show Ze P w H h a (.tup (c.map kV)) from i a _ e);exact⟨o,b.toArray,n,d,f,g,by simpa using Fp r⟩
def MN{b:List (jD×V)}(i:Yd P w H h)(e:Rd H a (.dT b)):b.length<=aq/\(a==sysModules)=false /\
  ∃ d,KT H b d/\h.DictOfH (tupleKind (Up P w)) a d:=by
 let⟨z,y,d,r,o,k,j,n,s,u,v,A⟩:=(show Ze P w H h a (.dT b) from Hu i e);refine⟨z,y,d,r,o,k,j,n,s,u,v,λx c=>?_,A⟩;let f:∀{l:List (jD×V)}{m:List (jD×aj×ai)},KT H l m->∀ x∈m,(tupleKind (Up P w)).is h x.1 x.2.1:=by
  intro l m q
  induction q with
  | nil=>intro x c;exact nomatch c
  | @cons p q C D g t B=>
   intro x c;rcases yT.mp c with e | c
   ·subst e;exact LV i (by rw[<-g.1];exact g.2.1)
   ·exact B x c
 exact f r x c
def ZQa{b:List (jD×V)}(d:Yd P w H h)(e:H a=some (.dT b)):b.length<=aq/\(a==sysModules)=false /\
  ∃ c,KT H b c/\h.DictOfH (tupleKind (Up P w)) a c:=MN d (.inl e)
end
def WM(H:Hp)(a:aj)(y:V)(r:jg):Prop:=
 (∃ c k,Rd H a (.dK c)/\y=kV k/\r=Y9 c k)\/∃ c k b,Rd H a (.dT c)/\y=.ref b/\H b=some (.tup (k.map kV))/\r=Y9 c k
def Uz(H:Hp)(a:aj)(y v:V)(d:Hp):Prop:=
 (∃ c k,H a=some (.dK c)/\y=kV k/\c.length<aq/\d=upd H a (.dK (Xj c k v))) \/
 ∃ c k b,H a=some (.dT c)/\y=.ref b/\H b=some (.tup (k.map kV))/\c.length<aq/\d=upd H a (.dT (Xj c k v))
def WM.k{H:Hp}{a:aj}{b:List (Zh×V)}{k:Zh}(e:H a=some (.dK b)):WM H a (kV k) (Y9 b k):=.inl ⟨b,k,.inl e,Z,Z⟩
def Uz.k{H:Hp}{a:aj}{b:List (Zh×V)}{k:Zh}{v:V}(e:H a=some (.dK b))(c:b.length<aq):Uz H a (kV k) v (upd H a (.dK (Xj b k v))):=.inl ⟨b,k,e,Z,c,Z⟩
section
variable{kh:ju}{σ:St}{H:Hp}{a:aj}{y v:V}{u r:ai}{o:jg}
def ZI0{Q:ja}(F:A.units+1<cLine)(I:ZF X kh σ H s)(g:WM H a y (some v))(t:ZR y u)(h:∀ f x,ZF X kh σ H x->ZR v f->Q f x):
  aC (aB X.prog X.w) A (getItem (.ref a) u) Q E s:=by
 rcases g with ⟨q,k,e,j,l⟩ | ⟨q,k,b,e,j,B,l⟩
 ·subst j;let⟨z,C,G,c,i⟩:=NV I.hok e;let⟨f,n,d⟩:=Ys.some_of (v:=v) (o:=valueAt G k) (by rw[l];exact c.val k)
  exact wpAny_getItem_of (M7 t) i.mapOf n (h f _ (I.tok _) d)
 ·subst j;cases(show u=Value.ref b from t);let⟨z,C,J,c,i⟩:=MN I.hok e;let⟨f,n,d⟩:=Ys.some_of (v:=v) (o:=(atKey J k).map (·.2)) (by rw[l];exact c.val k)
  let⟨p,D,m⟩:=xP.mp n;refine wpAny_getItem_heap (tupleKind_room_in1 F) (LV I.hok B) i D ?_;rw[m];exact h f _ (I.tok _) d
def CU{Q:ja}(t:A.units+1<cLine)(I:ZF X kh σ H s)(g:WM H a y o)(m:ZR y u)(h:∀ n,ZF X kh σ H n->Q (.bool (!o.isSome)) n):
  aC (aB X.prog X.w) A (aA .NotIn u (.ref a)) Q E s:=by
 rcases g with ⟨j,k,e,f,l⟩ | ⟨j,k,b,e,f,p,l⟩
 ·subst f;let⟨z,i,x,c,d⟩:=NV I.hok e;refine wpAny_notIn_of (M7 m) i d.mapOf ?_;rw[<-(c.val k).isSome_eq,<-l];exact h _ (I.tok _)
 ·subst f;cases(show u=Value.ref b from m);let⟨z,i,B,c,d⟩:=MN I.hok e;refine wpAny_notIn_heap (tupleKind_room_in1 t) (LV I.hok p) i d ?_;let q:=(c.val k).isSome_eq;rw[Option.isSome_map] at q;rw[<-q,<-l];exact h _ (I.tok _)
def JK{c:aE}{k:Nat}{f:HO}(I:ZF X kh σ H s)(j:Oq (H a))(i:yA a s.heap c)(h:∃ q,c.get? a=some q)(d:Ze X.prog X.w (upd H a f) c a f):
  ZF X kh σ (upd H a f) { s with heap:=c,toks:=k }:=
 I.write (x:=a) (e:=a) j (.inl rfl) (λb q g z=>(i.2 b g).trans z) h d
def ZPL{P:al}{w:ax}{f:Hp}{e:aE}{b:List (Zh×V)}{d:List (Zh×ai)}(z:b.length<=aq)(h:(a==sysModules)=false)(c:KV b d)(g:e.DictOf (Up P w) a d):
  Ze P w f e a (.dK b):=⟨z,h,d,c,g⟩
def ZJL{D:Hp}{Q:Unit->ak->Prop}(V:A.units+1<cLine)(I:ZF X kh σ H s)(g:Uz H a y v D)(L:ZR y u)(K:ZR v r)(h:∀ M,ZF X kh σ D M->Q () M):
  aC (aB X.prog X.w) A (setItem (.ref a) u r) Q E s:=by
 rcases g with ⟨d,k,e,p,l,n⟩ | ⟨d,k,b,e,p,F,l,n⟩
 ·subst p n;let⟨z,t,W,f,m⟩:=FR I.hok e;let C:W.length<=sizeLine:=by rw[<-f.length];exact z
  let x:(Xj d k v).length<=sizeLine:=by have:=KG d k v;lia
  refine wpAny_setItem_pairs (hsz:=C) (M7 L) m λJ i B=>h _ ?_;let U:∃ q,J.get? a=some q:=let ⟨q,_,_,j,_⟩:=i;⟨q,j⟩;exact JK I (by rw[e];exact True.intro) B U (ZPL x t (f.put k K) i)
 ·subst p n;cases(show u=Value.ref b from L);let⟨z,t,Y,f,m⟩:=ZQa I.hok e;let C:Y.length<=sizeLine:=by rw[<-Paired.length f];exact z
  let x:(Xj d k v).length<=sizeLine:=by have:=KG d k v;lia
  refine wpAny_setItem_heap (hsz:=C) (tupleKind_room_in1 V) (LV I.hok F) m λJ i B=>h _ ?_;let⟨q,O,N,j,P,R,S,_,T⟩:=i;refine JK I (by rw[e];exact True.intro) B ⟨q,j⟩ ⟨x,t,_,(f.put k F K).keeps λc ys G=>?_,q,O,N,j,P,R,S,T⟩
  rw[ZU (Zb G e (λz=>nomatch z))];exact G
end
section
variable{kh:ju}{σ:St}{H:Hp}{a:aj}{kvs:List (Zh×V)}{k:Zh}{u:ai}
def ZQL{Q:ja}(I:ZF X kh σ H s)(e:Rd H a (.dK kvs))(h:∀ t c,ZF X kh σ H c->Q (.int kvs.length t) c):aC (aB X.prog X.w) A (call (.builtin "len") [.ref a]) Q E s:=by
 let⟨z,f,g,b,d⟩:=NV I.hok e;refine call_len_dict f d (by rw[<-b.length];rw[sizeLine_eq] at z;lia (splits:=8)) ?_
 rw[<-b.length];exact h _ _ (I.tok _)
end
def LF(i:Expr):Prop:=∀ b a,subscripted i false b a=operate [b,a] (getItem b a)
def Dn{a:al}{w:ax}{A:ay}{E:ja}{s:ak}{j:Env}{c b:Expr}{pos:Pos}{T id:String}{Q:ja}(p:typeLookup (.type T) "__getitem__" = pure (some (.builtin id)))(q:LF b)(h:aC (aB a w) A (aH c j) (λo f=>aC (aB a w) A (aH b j) (λi d=>d.TypeIs o T/\aC (aB a w) A (getItem o i) Q E d) E f) E s):
  aC (aB a w) A (aH (.Subscript c b pos) j) Q E s:=by
 refine Subscript_ (ae h (λo f l=>ae l (λi d e=>?_) λ_ _ x=>x) λ_ _ x=>x);let⟨n,e⟩:=e;unfold subscriptTail;refine aa ?_;rw[getitemInPython_of_ne n.not_modules];refine aa (wpAny_specialOf n p ?_);let k:aC (aB a w) A (subscripted b false o i) (λr g=>aC (aB a w) A (letTemporaryGo c o r >>= λ_=>pure r) Q E g) E d:=by
  rw[q o i];exact wpAny_operating (ae e (λr g m=>aa (wpAny_letTemporaryGo (ad m))) λ_ _ x=>x)
 first
  | exact ad (aa k)
  | exact aa (ad (aa k))
  | exact aa k
def BM{X:Cx}{c:ju}{h:St}{H:Hp}{s:ak}{a:aj}{y:V}{o:jg}(I:ZF X c h H s)(g:WM H a y o):s.TypeIs (.ref a) "dict" :=by
 rcases g with ⟨f,k,e,_,_⟩ | ⟨f,k,b,e,_,_,_⟩
 ·let⟨_,_,i,_,d⟩:=NV I.hok e;exact d.typeIs
 ·let⟨_,_,j,_,d⟩:=MN I.hok e;exact d.typeIs
inductive Og(Q:VK)(x y:V)(b:Hp):Prop
 |mk(a v:_)(_:x=.ref a)(_:WM b a y (some v))(_:Q v b)
def ZQQ(d e:TE):TE:=λa H Q=>d a H λx b=>e a b λy c=>Og Q x y c
inductive QP(Q:VK)(y x:V)(b:Hp):Prop
 |mk(a o:_)(_:x=.ref a)(_:WM b a y o)(_:Q (.bl (!o.isSome)) b)
def Bo(e d:TE):TE:=λa H Q=>e a H λy b=>d a b λx c=>QP Q y x c
inductive OY(D:YJ)(d:L2.St)(v x y:V)(c:Hp):Prop
 |mk(a b:_)(_:x=.ref a)(_:Uz c a y v b)(_:D.nx d b)
def ZQl(e g f:TE):TS:=λD a H=>f a H λv b=>e a b λx c=>g a c λy d=>OY D a v x y d
section
variable{o i e value:Expr}{pos pos' tpos:Pos}{td ty tv:TE}
def AA(t:X.A.units+1<cLine)(q:PE X o td)(p:PE X i ty)(r:LF i:=by exact λ_ _=>rfl):PE X (.Subscript o i pos) (ZQQ td ty):=by
 intro b s f H Q I h;refine Dn pX.lookup r (Z2 (q b s f H _ I h) λu D x j l B w=>Zy (p b D f j _ l w) ?_);rintro E G ⟨y,k,d,C,a,v,n,g,z⟩;subst n;obtain rfl:u=Value.ref a:=B;exact⟨BM d g,ZI0 t d g C λK J m c=>⟨v,k,m,c,z⟩⟩
def Eg(q:X.A.units+1<cLine)(n:PE X i ty)(p:PE X o td):PC X .NotIn i o (Bo ty td):=by
 intro b s c H Q I h;refine Z2 (n b s c H _ I h) λC B y d j z t=>Zy (p b B c d _ j t) ?_;rintro u D ⟨x,f,k,w,a,r,m,g,v⟩;subst m;obtain rfl:u=Value.ref a:=w;exact CU q k g z λE l=>⟨.bl (!r.isSome),f,l,Z,v⟩
def Fu(z:X.A.units+1<cLine)(t:PE X o td)(q:PE X i ty)(B:PE X value tv)(w:swapsWith value (some (.Subscript o i pos')) pos.line X.env=pure false):
  PS X (.Assign [.Subscript o i pos'] value pos) (ZQl td ty tv):=by
 intro b s c H D I h;refine wpAny_Assign_Subscript (Z2 (B b s c H _ I h) λr L v d k G C=>Z2 (t b L c d _ k C) λu M x f l J E=>Zy (q b M c f _ l E) λO P ⟨y,N,m,K,a,j,p,g,F⟩=>?_) w;subst p;obtain rfl:u=Value.ref a:=J;exact ZJL z m g K G λQ n=>⟨c,j,n,F⟩
end
section
variable{pos:Pos}
end
structure M1(X:Cx)(o:Expr)(m:Str)(jk:Pos)(e:Expr)(jj:Pos):Prop where
 base:attributeBase o m X.env (aH o X.env)=aH o X.env
 few:((aG jj (ar [e] X.env)).all (λx=>!x.1)&&(backToKw jj (keywordEach [] X.env)).all (λx=>x.1.isSome)
  && decide (([e]:jC).length+([]:List Keyword).length+(if ([]:List Keyword).isEmpty then 0 else 1)<30))=true
 line:(jk.endLine==jj.line)=true
 trees:aG jj (ar [e] X.env)=[(false,aH e X.env)]
section
variable{kh:ju}{σ:St}{H:Hp}{a:aj}{y d:V}{u r:ai}{o:jg}
end
section
variable{o e f:Expr}{jk jj:Pos}{td ty tx:TE}
end
section
variable{kh:ju}{σ:St}{H:Hp}{a:aj}{kvs:List (Zh×V)}
end
section
variable{kh:ju}{σ:St}{H:Hp}{a:aj}{y:V}{u:ai}
end
inductive UO(c:jf)(H:Hp)(Q:VK):Prop
 |mk(a b:_)(_:c=[V.ref a])(_:H a=some (.dK b))(_:Q (.int b.length) H)
def An:UN X (.builtin "len") (UO):=by
 intro c s k H j i Q I r h;let⟨a,b,rfl,e,q⟩:=h;let⟨u,rfl,f⟩:=UB r;cases f;exact ZQL I (.inl e) λt g d=>⟨.int b.length,H,d,⟨t,Z⟩,q⟩
section
variable{κ:Type}[DecidableEq κ]
def ZNx{a:List (κ×V)}{k:κ}{v:V}(h:Y9 a k=some v):k∈a.map (·.1):=by
 let q:(a.any λkv=>decide (kv.1=k))=true:=by
  rw[NA,h]
  all_goals rfl
 let⟨p,b,e⟩:=sI.mp q;exact zL.mpr ⟨p,b,of_decide_eq_true e⟩
end
end L2
namespace Tw
open PySem PySem.Spec L2 PyProof.Rows
def Vk(d:aj)(a:Array DictEntry):HO:=.ext λh=>(d==sysModules)=false/\a.size<=aq/\∃ o b,h.get? d=some o/\o.ExactDict/\o.data=.dict a b
abbrev NE(w:ax)(x:KT×V×V)(e:DictEntry):Prop:=e.hash=X8 w x.1/\ZR x.2.1 e.key/\ZR x.2.2 e.val
structure Zx(w:ax)(H:Hp)(d:aj)(xs:List (KT×V×V)):Prop where
 ex:∃ es,H d=some (Vk d es)/\Paired (NE w) xs es.toList
 key:∀ x∈xs,ZB H x.1 x.2.1/\x.1.depth<=3
 nd:(xs.map (·.1)).Nodup
def Da{P:al}{w:ax}{H:Hp}{h:aE}{d:aj}{e:Array DictEntry}(i:(d==sysModules)=false)(j:e.size<=aq)(f:∃ o c,h.get? d=some o/\o.ExactDict/\o.data=.dict e c):Ze P w H h d (Vk d e):=by
 exists ⟨i,j,f⟩,?_
 ·let⟨o,c,g,_⟩:=f;exact⟨o,g⟩
 ·rintro a b ⟨l,m,o,c,g,r⟩ k;exact⟨l,m,o,c,k o g,r⟩
def Oi{d c:Type}{F:d->c->Prop}:∀{l:List d}{m:List c}{i:Nat}{b:c},Paired F l m->m[i]? = some b->∃ a,l[i]? = some a/\F a b
 | _,_,_,_,.nil,e=>by simp at e
 | _,_,0,_,.cons r _,e=>by simp at e;subst e;exact⟨_,Z,r⟩
 | _,_,i+1,b,.cons _ t,e=>by
  let⟨a,f,g⟩:=Oi (i:=i) (b:=b) t (by simpa using e)
  exact⟨a,by simpa using f,g⟩
def IB{c d:Type}{F:c->d->Prop}:∀{l:List c}{m:List d},l.length=m.length->(∀(i:Nat) a b,l[i]? = some a->m[i]? = some b->F a b)->Paired F l m
 | [],[],_,_=>.nil
 | [],_::_,h,_=>by simp at h
 | _::_,[],h,_=>by simp at h
 | a::l,b::m,h,f=>.cons (f 0 a b Z Z) (IB (by simpa using h) λi x y e g=>f (i+1) x y (by simpa using e) (by simpa using g))
def NO{c d:Type}{F:c->d->Prop}{a:c}{b:d}(h:F a b){l:List c}{m:List d}(g:Paired F l m):Paired F (l++[a]) (m++[b]):=by
 induction g with
 | nil=>exact .cons h .nil
 | cons r _ e=>exact .cons r e
def XG(a:List (KT×V×V))(t:KT):jg:=(a.find? λx=>x.1.eqb t).map (·.2.2)
def Qp(t:KT)(v:V)(x:KT×V×V):KT×V×V:=if x.1.eqb t=true then (x.1,x.2.1,v) else x
def VH(a:List (KT×V×V))(t:KT)(y v:V):List (KT×V×V):=if (a.any λx=>x.1.eqb t)=true then a.map (Qp t v) else a++[(t,y,v)]
def XT{b:List (KT×V×V)}{t:KT}:(b.any λx=>x.1.eqb t)=true ↔ t∈b.map (·.1):=by
 rw[sI,zL];constructor
 ·rintro⟨x,a,e⟩;exact⟨x,a,Vg _ _ e⟩
 ·rintro⟨x,a,e⟩;exact⟨x,a,by rw[e];exact Uh _⟩
def NT(t:KT)(v:V)(x:KT×V×V):(Qp t v x).1=x.1/\(Qp t v x).2.1=x.2.1:=by
 unfold Qp;split <;> exact⟨Z,Z⟩
def LQ(a:List (KT×V×V))(t:KT)(y v:V):(VH a t y v).map (·.1)=if (a.any λx=>x.1.eqb t)=true then a.map (·.1) else a.map (·.1)++[t]:=by
 unfold VH;split
 ·rw[vZ];exact rV λx _=>(NT t v x).1
 ·rw[zH];rfl
def Kh(a:List (KT×V×V))(t:KT)(y v:V):(VH a t y v).length<=a.length+1:=by
 have:=congrArg wV (LQ a t y v);rw[zX] at this;rw[this];split
 ·rw[zX];lia
 ·rw[zT,zX];simp
def GE{a:List (KT×V×V)}(c:(a.map (·.1)).Nodup){j:Nat}{x:KT×V×V}(e:a[j]? = some x):XG a x.1=some x.2.2:=by
 induction a generalizing j with
 | nil=>simp at e
 | cons z a f=>
  rw[zF,wG] at c
  cases j with
  | zero=>
   simp at e;subst e;simp[XG,Uh]
  | succ j=>
   let d:a[j]? = some x:=by simpa using e
   let b:z.1.eqb x.1=false:=by
    cases q:z.1.eqb x.1 with
    | false=>rfl
    | true=>exact absurd (zL.mpr ⟨x,zM d,(Vg _ _ q).symm⟩) c.1
   have:=f c.2 d;simpa [XG,wH,b] using this
def Jd{a:List (KT×V×V)}{t:KT}(h:t∉a.map (·.1)):XG a t=none:=by
 unfold XG;rw[Option.map_eq_none_iff,List.find?_eq_none];intro x b z;exact h (zL.mpr ⟨x,b,Vg _ _ z⟩)
def Zx.same{w:ax}{H a:Hp}{d:aj}{c:List (KT×V×V)}(x:Zx w H d c)(s:ZD H a):Zx w a d c:=by
 let⟨e,f,g⟩:=x.ex;exact⟨⟨e,s _ _ f,g⟩,λz b=>⟨(x.key z b).1.mono (ZD.tups s),(x.key z b).2⟩,x.nd⟩
def Zx.but{w:ax}{H a:Hp}{d p:aj}{c:List (KT×V×V)}(x:Zx w H d c)(s:ZE p H a)(t:Z4 H a)(n:d≠p):Zx w a d c:=by
 let⟨e,f,g⟩:=x.ex;exact⟨⟨e,s _ _ f n,g⟩,λz b=>⟨(x.key z b).1.mono t,(x.key z b).2⟩,x.nd⟩
section
variable{kh:ju}{σ:L2.St}{H:Hp}
def Zx.es{d:aj}{a:List (KT×V×V)}{c:Array DictEntry}(I:ZF X kh σ H s)(x:Zx X.w H d a)(r:Paired (NE X.w) a c.toList):O7 X.w s.heap (a.map (·.1)) c:=by
 refine⟨by have:=Paired.length r;simpa using this.symm,λi e f=>?_,x.nd⟩
 rw[<-yQ] at f;let⟨z,b,h,j,k⟩:=Oi r f;let g:=x.key z (zM b);exact⟨z.1,by rw[zE,b];rfl,h,QA I _ _ _ g.1 j,g.2⟩
def Gz{d:aj}{f:List (KT×V×V)}{b:Array DictEntry}{o:aI}{q:Nat}{t:KT}{y:V}{u:ai}{Q:jw->ak->Prop}(I:ZF X kh σ H s)(x:Zx X.w H d f)(r:Paired (NE X.w) f b.toList)(B:s.heap.get? d=some o)(v:o.data=.dict b q)(D:ZB H t y)(m:t.depth<=3)(G:ZR y u)(C:A.units+3<cLine)(h:t∉f.map (·.1)->Q none s)(c:∀ j z e,f[j]? = some z->z.1=t->b[j]? = some e->NE X.w z e->Q (some j) s):aC (aB X.prog X.w) A (dictFind d u (X8 X.w t)) Q E s:=by
 refine ZM7 (QA I t y u D G) m C B v (x.es I r) h λj l=>?_;rw[zE] at l;let⟨z,g,n⟩:=xP.mp l;let F:j<b.size:=by
  have:=Paired.length r;let⟨a,_⟩:=zC.mp g;simp at this
  lia
 let i:b[j]? = some b[j]:=uY F;let⟨J,k,p⟩:=Oi r (by rw[yQ];exact i)
 rw[g] at k;cases k;exact c j z _ g n i p
def ZQK{d:aj}{l:List (KT×V×V)}{t:KT}{y v:V}{u r:ai}{Q:Unit->ak->Prop}(hu:A.units+4<cLine)(I:ZF X kh σ H s)(x:Zx X.w H d l)(hl:l.length<1000)(hy:ZB H t y)(dt:t.depth<=3)(ry:ZR y u)(rv:ZR v r)(h:∀ s' H',ZF X kh σ H' s'->ZE d H H'->Zx X.w H' d (VH l t y v)->Q () s'):aC (aB X.prog X.w) A (setItem (.ref d) u r) Q E s:=by
 let⟨p,hH,k⟩:=x.ex;let⟨⟨O,P,o,W,F,hx,B⟩,_⟩:=I.hok d _ hH;let S:p.size=l.length:=by have:=Paired.length k;simpa using this.symm
 let hT:s.TypeIs (.ref d) "dict" :=⟨o,F,hx.1⟩;unfold setItem
 try with_reducible refine af ?_
 refine aa (wpAny_sequenceKey hT (by decide) ?_)
 refine aa (wpAny_callSpecial?_slot (name:=xW "__setitem__") hT slot_dict_setitem (wpAny_call_entry slot_dict_setitem hT entry_dict_setitem ?_ (args_dict_setitem _ _ _)));show aC _ _ (Builtin.Dict.notOrdered "__setitem__" ⟨[.ref d,u,r],[]⟩ >>= _) _ _ s;refine aa (wpAny_notOrdered_dict hT ?_);show aC _ _ (dictSet d u r >>= _) _ _ s;refine aa ?_;unfold dictSet
 try with_reducible refine af ?_
 refine aa (JS t.depth t (zY _) (QA I t y u hy ry) (by show A.units+1+_<_;lia) λT a1=>?_)
 unfold dictSetHashed
 try with_reducible refine af ?_
 let I1:ZF X kh σ H { s with toks:=T }:=I.tok T;let mu:Oq (H d):=by rw[hH];exact True.intro
 let f:∀ c,Z4 H (upd H d (Vk d c)):=λc b ws e=>by rw[ZU (Zb e hH)];exact e
 let L:∀(c:Array DictEntry)(Y:aE),c.size<=aq->yA d s.heap Y->(∃ o W,Y.get? d=some o/\o.ExactDict/\o.data=.dict c W)->Paired (NE X.w) (VH l t y v) c.toList->Q () { s with heap:=Y,toks:=T }:=λc Y G hs N hp=>by
  refine h _ (upd H d (Vk d c)) (JK I mu hs (by let⟨o,_,g,_⟩:=N;exact⟨o,g⟩) (Da O G N)) (λb o e n=>by rw[ZU n];exact e) ⟨⟨c,ZP,hp⟩,λz G=>?_,?_⟩
  ·unfold VH at G;split at G
   ·let⟨z',R,rfl⟩:=zL.mp G;rw[(NT t v z').1,(NT t v z').2];exact⟨(x.key z' R).1.mono (f c),(x.key z' R).2⟩
   ·rcases zB.mp G with q | q
    ·exact⟨(x.key z q).1.mono (f c),(x.key z q).2⟩
    ·rw[zK.mp q];exact⟨hy.mono (f c),dt⟩
  ·rw[LQ];split
   ·exact x.nd
   ·rename_i hn
    rw[uN];exact⟨x.nd,by simp,λa ha b m=>by rw[zK.mp m];exact λz=>hn (XT.mpr (z ▸ ha))⟩
 refine aa (Gz (A:=A.in1) I1 x k F B hy dt ry (by show A.units+1+3<_;lia) (λhn=>?_) λj z e e1 U e3 e4=>?_)
 ·let D:¬ (l.any λx=>x.1.eqb t)=true:=λq=>hn (XT.mp q);refine aa (ah (wpAny_updateDictKeys (s:={ s with toks:=T }) (hz:=P) F B ?_));refine ad ⟨.none,Z,ad (L (p.push ⟨X8 X.w t,u,r⟩) _ (by rw[Array.size_push,S];exact yK (Y2 ∅)) (yA.update ..) ⟨_,W+1,vS _ F (Obj.isFreed_of_dict (Obj.data_mapDictKeys B _)),hx.mapDictKeys _,Obj.data_mapDictKeys B _⟩ ?_)⟩
  unfold VH;rw[aM D,uV];exact NO ⟨Z,ry,rv⟩ k
 ·let D:(l.any λx=>x.1.eqb t)=true:=XT.mpr (zL.mpr ⟨z,zM e1,U⟩);refine aa (ah (aa (wpAny_updateDict (s:={ s with toks:=T }) F B (wpAny_point ?_))));refine ad ⟨.none,Z,ad (L (p.modify j λe=>{ e with val:=r }) _ (by rw[Array.size_modify];exact P) (yA.update ..) ⟨_,W,vS _ F (Obj.isFreed_of_dict (Obj.data_mapDict B _)),hx.mapDict _,Obj.data_mapDict B _⟩ ?_)⟩
  unfold VH;rw[aO D];let lm:(p.modify j λe=>{ e with val:=r }).toList.length=p.size:=by rw[yM];exact Array.size_modify
  refine IB (by rw[lm,zX,S]) λi a b ha m=>?_
  rw[zE] at ha;let⟨a',J,rfl⟩:=xP.mp ha;rw[yQ,Array.getElem?_modify] at m;let M:p[i]? = some (p[i]'(by let⟨l1,_⟩:=zC.mp J;lia)):=uY _
  let⟨a2,K,r1,r2,r3⟩:=Oi k (by rw[yQ];exact M)
  rw[J] at K;cases K;rw[M] at m;by_cases C:j=i
  ·subst C;rw[aO rfl,wF] at m;cases m;rw[e1] at J;cases J;unfold Qp;rw[U,Uh,aO rfl];rw[U] at r1;exact⟨r1,r2,rv⟩
  ·rw[aM C] at m;cases m;let a0:a'.1.eqb t=false:=by
    cases q:a'.1.eqb t with
    | false=>rfl
    | true=>
     let q1:(l.map (·.1))[i]? = some t:=by rw[zE,J];exact congrArg some (Vg _ _ q)
     let q2:(l.map (·.1))[j]? = some t:=by rw[zE,e1];exact congrArg some U
     let⟨l1,_⟩:=zC.mp q2;exact absurd ((sE l1 x.nd).mp (q2.trans q1.symm)) C
   unfold Qp;rw[a0,aM zW];exact⟨r1,r2,r3⟩
end
end Tw
namespace L2
open PySem PySem.Spec PyProof.Rows
section
variable{T:String}{r d:aj}{n:Nat}{P:Nat->ai->Prop}{OK:aE->Prop}
def C2{R:Result->ak->Prop}(K:tU prog w T r d n P OK)(l:A.handled=none)(h:OK s.heap)(S:aj)(g:S≠r)(f:S≠d)(c:Nat)(k:s.heap.get? S=some { cls:=.type "list",data:=.seq #[] c })(j:∀ e p a i,(∀ b o,b≠S->s.heap.get? b=some o->e.get? b=some o)->e.get? S=some { cls:=.type "list",dict:=none,data:=.seq a i,slots:=#[] }->ItemsOf P a n->R (.ok (.ret (.ref S))) { s with heap:=e,toks:=p })(m:n<=aq):
  codeAny (aB prog w) A (.builtin "list.__iadd__" ⟨[.ref S,.ref r],[]⟩) R s:=by
 refine codeAny_builtin PySem.F.entry_list_iadd ?_;rw[Around.under_plainId qF _];exact PySem.W.kdl_extend (R:=R) K l h S g f (.ref S) c k j m
def Dk{Q:je->ak->Prop}(K:tU prog w T r d n P OK)(q:A.handled=none)(j:OK s.heap)(u:n<=aq)(m:∀ f k a,(∀ b o,s.heap.get? b=some o->f.get? b=some o)->s.heap.objs.size<f.objs.size->ItemsOf P a n->Q a.toList { s with heap:=f,toks:=k }):aC (aB prog w) A (collect (.ref r)) Q E s:=by
 let i:=K.there _ j;unfold collect;refine aa (wpAny_runValue (codeAny_builtin PySem.F.entry_proto_collect ?_));rw[Around.under_plainId PySem.F.plain_proto_collect _];show aC _ A.in1 (newList [] >>= λl=>again (.builtin "list.__iadd__" ⟨[l,.ref r],[]⟩)) _ _ s;refine aa (wpAny_newObj_type ?_);let p:(s.heap.push { cls:=.type "list",data:=.seq ([]:je).toArray }).get? s.heap.objs.size=some { cls:=.type "list",data:=.seq #[] 0 }:=yS _ Z;refine ad ⟨plainId_quiet qF _,C2 (s:={ s with heap:=s.heap.push { cls:=.type "list",data:=.seq ([]:je).toArray } }) K q (K.keep _ _ j λb _ o e=>zQ _ e) s.heap.objs.size (uA i.1) (uA i.2) _ p (λf k c v t g h=>?_) u⟩;show aC _ A (load s.heap.objs.size >>= _) _ _ _;refine aa (wpAny_load g ?_);exact ad (m f k c (λb o e=>t b o (yW (zP e)) (zQ _ e)) (zP g) h)
end
def ZJv:∀{c:List (Zh×V)}{g:List (Zh×ai)}{d:jF},KV c g->c.map (·.1)=d.map Sum.inl->∀ b:je,b.length=g.length->(∀(i:Nat)(v:ai),b[i]? = some v->∃(k:Zh)(x:ai),g[i]? = some (k,x)/\P3 k v=true)->IntsAre b d:=by
 intro c g d h e b l p;let f:=KV.keys h;rw[e] at f;clear e h
 induction g generalizing d b with
 | nil=>
  cases b with
  | nil=>
   cases d with
   | nil=>exact .nil
   | cons _ _=>simp at f
  | cons _ _=>simp at l
 | cons q r y=>
  cases b with
  | nil=>simp at l
  | cons a b=>
   cases d with
   | nil=>simp at f
   | cons n d=>
    simp only[zF,List.cons.injEq] at f;let⟨k,x,o,u⟩:=p 0 a Z;simp only[List.getElem?_cons_zero,zA.injEq] at o;subst o;let j:Sum.inl n=k:=f.1;subst j;obtain⟨i,t,m,s⟩ | ⟨i,t,m,s⟩:=Qz u
    ·cases m;subst s;exact .cons _ _ (y b (by simpa using l) (λi v w=>by simpa using p (i+1) v (by simpa using w)) f.2)
    ·cases m
def ZFt:∀{b:je}{a:jF},IntsAre b a->ZO (a.map V.int) b:=λh=>Iy h
def ZJ8:az "sorted" = some (.builtin "sorted"):=by decide +kernel
def ZQG(a:js)(b:jS):Prop:=(jR b).Perm a/\failedOf b=none/\(jT b).size=1/\PyProof.Rows.SortedTo (jR b) a.size
def BQ{a:js}{d:jS}{Q:jw->jS->Prop}(g:PyProof.Rows.IntKeys a)(b:SBase a d)(f:1<=a.size)(l:PyProof.Rows.SortedTo (jR d) a.size)(h:Q (some a.size) d):wpS (aB prog w) A E s (countRun' 0 a.size) Q d:=by
 rw[countRun0_eq];refine jO (wpS_ascLoop g (zY _) (zY _) f b (λi j (m:i<=j) (o:j<1)=>(by rw[show i=j by lia];exact xR _)) λn p q r k=>?_)
 let e:n=a.size:=by
  rcases k with z | z
  ·exact z
  ·rcases yP n a.size with c | c
   ·have:=l (n-1) n ∅ c
    lia
   ·lia
 subst e;show wpS _ _ _ _ (if (a.size==a.size)=true then pure (some a.size) else _) _ _
 rw[aO (by simp)]
 exact jQ h
def Ao:∀ n:Nat,n<1000->minRun' n n 0<=n:=by decide +kernel
def Cj{a₀:js}{st:jS}{Q:Unit->jS->Prop}(m:PyProof.Rows.IntKeys a₀)(b:SBase a₀ st)(l:1<=a₀.size)(f:a₀.size<1000)(h:jT st=#[])(j:PyProof.Rows.SortedTo (jR st) a₀.size)(g:∀ a,(jR a).Perm a₀->failedOf a=none->PyProof.Rows.SortedTo (jR a) a₀.size->Q () a):wpS (aB prog w) A E s sortRuns' Q st:=by
 rw[sortRuns'_eq];let k:(jR st).size=a₀.size:=b.perm.size_eq;refine jO (wpS_get ?_);dsimp only;rw[k];refine jO (jU (I:=λi c a=>(i=0/\c=(none,0)/\a=st)\/(1<=i/\c=(none,a₀.size)/\ZQG a₀ a)) ?_ ?_ (.inl ⟨rfl,rfl,rfl⟩))
 ·rintro i c a _ e (⟨rfl,rfl,rfl⟩ | ⟨n,rfl,u⟩)
  ·dsimp only;rw[aM ∅]
   refine jO ?_;rw[Nat.sub_zero];refine BQ m b l j ?_;dsimp only;rw[aM (Nat.not_lt.mpr (Ao _ f))];refine jO (wpS_get ?_);rw[h];refine jO (wpS_modify ?_);refine jQ ?_;refine .inr ⟨zY _,by rw[uI],b.perm,b.failed,?_,j⟩
   show ((jT a).push _).size=1;rw[h];rfl
  ·dsimp only;rw[aO (zY _)];refine jQ ?_;dsimp only;refine jO (jU (I:=λi c d=>c=(none,())/\d=a) (λi c d _ _ e=>?_) (λc d e=>?_) ⟨Z,Z⟩)
   ·let⟨rfl,rfl⟩:=e;refine jO (wpS_get ?_);rw[aO (by rw[u.2.2.1];exact zY _)]
    refine jQ ?_;exact jQ (g _ u.1 u.2.1 u.2.2.2)
   ·let⟨rfl,rfl⟩:=e;exact jQ (g _ u.1 u.2.1 u.2.2.2)
 ·rintro c a (⟨z,_,_⟩ | ⟨_,rfl,u⟩)
  ·lia
  ·dsimp only;refine jO (jU (I:=λi c d=>c=(none,())/\d=a) (λi c d _ _ e=>?_) (λc d e=>?_) ⟨Z,Z⟩)
   ·let⟨rfl,rfl⟩:=e;refine jO (wpS_get ?_);rw[aO (by rw[u.2.2.1];exact zY _)]
    refine jQ ?_;exact jQ (g _ u.1 u.2.1 u.2.2.2)
   ·let⟨rfl,rfl⟩:=e;exact jQ (g _ u.1 u.2.1 u.2.2.2)
def GF:∀{b:je}{a:jF}{i:Nat}{n:Int},IntsAre b a->a[i]? = some n->∃ t,b[i]? = some (.int n t)
 | _,_,0,_,.cons m t h,e=>⟨t,by simp at e;rw[<-e];rfl⟩
 | _,_,i+1,_,.cons m t h,e=>by
  let⟨t,r⟩:=GF (i:=i) h (by simpa using e)
  exact⟨t,by simpa using r⟩
def B1{f:je}{d:jF}(m:IntsAre f d)(z:d.Pairwise (· <= ·)):PyProof.Rows.SortedTo (pairsOf f) (pairsOf f).size:=λi j v o=>by
 rw[pairsOf_size] at o;let C:=m.length;let q:∀ i,i<f.length->∃ n,d[i]? = some n/\PyProof.Rows.K (pairsOf f) i=n:=λi B=>by
  let p:i<d.length:=∅
  let⟨t,e⟩:=GF m (zV p);exists _,zV p;unfold PyProof.Rows.K;have:(pairsOf f)[i]? = some (.int d[i] t,.int d[i] t):=by
   rw[<-yQ,pairsOf_toList,List.getElem?_zip_eq_some];exact⟨e,e⟩
  rw[this];rfl
 let⟨a,l,x⟩:=q i ∅
 let⟨b,g,y⟩:=q j o;rw[x,y];rcases yP i j with c | c
 ·let⟨h,r⟩:=zC.mp l;let⟨k,u⟩:=zC.mp g;have:=sW.mp z i j h k c;rw[r,u] at this;exact this
 ·have:i=j:=∅
  subst this;rw[l] at g;cases g;exact xR _
def ZFT{a:aj}{b:je}{p:jF}{n:Nat}{P:PySem.Fin->ak->Prop}(j:s.heap.get? a=some (seqObj "list" b.toArray n))(f:IntsAre b p)(I:b.length<1000)(H:p.Pairwise (· <= ·))(h:∀ (i:jx) (d:jF),IntsAre i.toList d->d.Perm p->d.Pairwise (· <= ·)->P (.done (.ret .none)) { s with heap:=sortedHeap s.heap a b i }):aC (aB prog w) A (Builtin.«list.sort» { pos:=[.ref a] }) P E s:=by
 rcases yP b.length 64 with c | c
 ·exact list_sort_tree j f c h
 let u:b.length<=sizeLine:=yK (Y2 ∅)
 rw[list_sort_plain];refine aa (listItems_at j Z ?_);refine aa (listUpdate_at j Z ?_ (by rw[zR];exact u) (zN _))
 obtain⟨o,g⟩:∃ o,(s.heap.update a (Obj.mapSeq λ_=>(#[]:jx))).get? a=some (seqObj "list" #[] o):=⟨_,get?_update_seq j λ_=>#[]⟩;refine aa (seqEpoch_at g Z ?_);refine aa (wpAny_newTuple ?_ (by show b.length<=_;exact u))
 refine aa (wpAny_newList ?_ (zN _));refine af ?_;let v:(((s.heap.update a (Obj.mapSeq λ_=>(#[]:jx))).push (seqObj "tuple" b.toArray 0)).push (seqObj "list" #[] 0)).get? a=some (seqObj "list" #[] o):=zQ _ (zQ _ g);dsimp only;rw[aM (by rw[zR];lia),aM (by rw[zR];lia)]
 obtain⟨l,m,rest,x⟩:∃ l m rest,b=l::m::rest:=by
  match b,c with
  | l::m::rest,_=>exact⟨l,m,rest,Z⟩
 let D:keyKind' b.toArray=pure oneType':=by
  subst x;exact keyKind_ints f
 rw[D];refine aa (ad ?_);let F:(pairsOf b).size=b.length:=pairsOf_size b;refine aa (Zy (Cj (a₀:=pairsOf b) (st:=SortSt.mk' oneType' (pairsOf b) #[] 7 none) (Q:=λ_ e=>(jR e).Perm (pairsOf b)/\failedOf e=none/\PyProof.Rows.SortedTo (jR e) (pairsOf b).size) f.intKeys ⟨Array.Perm.refl _,rfl,rfl,rfl⟩ ∅ ∅ rfl (B1 f H) λe k q t=>⟨k,q,t⟩) λr G y=>?_)
 let⟨⟨⟩,e⟩:=r;let⟨rfl,k,q,t⟩:=y;let⟨d,z,B,C⟩:=sorted_out f k t;dsimp only;refine aa (seqEpoch_at v Z ?_);refine aa (listUpdate_at v Z ?_ (zN _) (by rw[Array.size_map,k.size_eq,F];lia))
 rw[q];simp only[bne_self_eq_false,wW,if_false];exact ad (h _ d z B C)
section
variable{T:String}{r d:aj}{n:Nat}{P:Nat->ai->Prop}{OK:aE->Prop}
def ZGP{Q:ja}{ns:jF}(K:tU prog w T r d n P OK)(J:A.handled=none)(t:OK s.heap)(L:n<=aq)(G:∀ f,ItemsOf P f n->IntsAre f.toList ns)(q:n<1000)(y:ns.Pairwise (· <= ·))(H:∀ p x a g c,(∀ b o,s.heap.get? b=some o->p.get? b=some o)->s.heap.objs.size<=a->IntsAre g ns->p.get? a=some { cls:=.type "list",data:=.seq g.toArray c }->Q (.ref a) { s with heap:=p,toks:=x }):
  aC (aB prog w) A (call (.builtin "sorted") [.ref r]) Q E s:=by
 refine Calls.call_function_entry kind_sorted plain_sorted entry_sorted (args_sorted1 _) ?_;unfold Builtin.«sorted»;refine aa (m:=checkCount "sorted" 1 1 _) (ad ?_);refine aa (Dk K J t L λj x f M u h=>?_);let F:=G f h;let k:f.toList.length<1000:=by rw[yM,h.1];exact q
 refine aa (wpAny_newList ?_ (hsz:=yK (Y2 ∅)))
 let i:(j.push (seqObj "list" f.toList.toArray 0)).get? j.objs.size=some (seqObj "list" f.toList.toArray 0):=yS _ Z;refine aa (af (wpAny_call_entry slot_list_sort ⟨_,i,rfl⟩ entry_list_sort (ZFT i F k y λg v z B C=>⟨_,Z,?_⟩) (args_list_sort _)));refine ad ⟨_,Z,?_⟩;let e:v=ns:=vM.eq_of_pairwise (le:=(· <= ·)) (λa b _ _ j D=>Int.le_antisymm j D) C y B;subst e;let⟨c,I⟩:=sortedHeap_at (vs:=f.toList) (out:=g) i;refine H _ x j.objs.size g.toList c (λb o e=>?_) (yK u) z (by rw[Array.toArray_toList];exact I)
 let l:=M b o e;rw[sortedHeap_old (yW (zP l)) (by rw[size_push'];exact Nat.lt_succ_of_lt (zP l))]
 exact zQ _ l
end
inductive Q5(d:jf)(H:Hp)(Q:VK):Prop
 |mk(a:aj)(b:List (Zh×V))(c:jF)(_:d=[.ref a])(_:H a=some (.dK b))(_:b.map (·.1)=c.map Sum.inl)(_:c.Pairwise (· <= ·))(_:c.length<1000)(_:∀ p,H p=none->Q (.ref p) (upd H p (.lst (c.map V.int))))
def CL(C:X.calm=true):UN X (.builtin "sorted") Q5:=by
 intro n s S H R P Q I r h;let⟨a,g,j,rfl,B,l,E,f,q⟩:=h;let⟨u,rfl,J⟩:=UB r;cases J;let⟨z,G,L,kv,y⟩:=FR I.hok B;let N:j.length=g.length:=by have:=congrArg wV l;simpa using this.symm
 let O:=KV.length kv;let⟨t,x⟩:=y.dictAt;refine ZGP (ns:=j) (PySem.W.kdl_dict (knd:=Up X.prog X.w) (kvs:=L) (ep:=t) G) (I.ok.hd C) x ∅ (λd b=>ZJv kv l d.toList (by rw[yM];exact b.1) λi v e=>?_) ∅ E λM K p k c F m A D=>?_
 ·exact b.2 i v (by rw[<-yQ];exact e)
 ·exact⟨.ref p,_,I.laid (a:=p) (o:=.lst (j.map V.int)) (t':=K) F m ⟨by rw[zX];exact yK (Y2 (yK f)),k,c,ZFt A,D⟩,Z,q p (I.hok.fresh m)⟩
class Ko where
 k0:SortKind
 k1:jW->Int
 k2:jW->Prop
section
variable[κ:Ko]
abbrev U4:SortKind:=κ.k0
abbrev kv(p:jW):Int:=κ.k1 p
abbrev U9(p:jW):Prop:=κ.k2 p
class KoOk (prog:al) (w:ax) (A:ay) (s:ak):Prop where
 lt:∀{E:ja}{p q:jW}{Q:Bool->ak->Prop},U9 p->U9 q->Q (decide (kv p<kv q)) s->aC (aB prog w) A (keyLt' U4 p.1 q.1) Q E s
def Kk(a:js)(i:Nat):Int:=match a[i]? with
 | some p=>kv p
 | none=>0
def Qn(a:js)(k:Nat):Prop:=∀ i j,i<=j->j<k->Kk a i<=Kk a j
def Wj(a:js):Prop:=∀ p,p∈a.toList->U9 p
def KF{a b:js}{i j:Nat}(h:a[i]? = b[j]?):Kk a i=Kk b j:=by unfold Kk;rw[h]
def Gr{b:js}{a d:Nat}(g:a<b.size)(f:d<=a)(k:Nat):Kk (bubble b a d) k=if k=a-d then Kk b a else if a-d<k/\k<=a then Kk b (k-1) else Kk b k:=by
 unfold Kk;rw[getElem?_bubble g d f k];by_cases c:k=a-d
 ·rw[aO c,aO c]
 rw[aM c,aM c];by_cases e:a-d<k/\k<=a
 ·rw[aO e,aO e]
 ·rw[aM e,aM e]
def HU{a:js}{i j:Nat}(b:j<=a.size)(k:Nat):Kk (mirror a i j ((j-i) / 2)) k=if i<=k/\k<j then Kk a (i+j-1-k) else Kk a k:=by
 unfold Kk;rw[getElem?_mirror_all b k];by_cases h:i<=k/\k<j
 ·rw[aO h,aO h]
 ·rw[aM h,aM h]
def G4{a:js}{i j:Nat}(b:j<=a.size)(h:∀ k,i<=k->k<j->Kk a k=Kk a (j-1))(k:Nat):Kk (mirror a i j ((j-i) / 2)) k=Kk a k:=by
 rw[HU b];split
 ·rw[h _ ∅ ∅,h k ∅ ∅]
 ·rfl
def gallop':Bool->jW->js->Nat->Nat->Nat->StateT jS Sem (jw):=sortPriv% PySem.Builtin.gallop
section
variable{α:Type}{x y:StateT jS Sem α}{Q:α->jS->Prop}{st:jS}
def Va{c:Prop}{_:Decidable c}(h:c->wpS (aB prog w) A E s x Q st)(g:¬c->wpS (aB prog w) A E s y Q st):wpS (aB prog w) A E s (if c then x else y) Q st:=by
 by_cases z:c
 ·rw[aO z];exact h z
 ·rw[aM z];exact g z
def Os{c:Prop}{_:Decidable c}(h:c->wpS (aB prog w) A E s x Q st)(g:¬c->wpS (aB prog w) A E s y Q st):wpS (aB prog w) A E s (if decide c=true then x else y) Q st:=Va (λz=>h (of_decide_eq_true z)) λz=>g λe=>z (aK e)
def Wd{a b:Nat}(h:a=b->wpS (aB prog w) A E s x Q st)(g:¬a=b->wpS (aB prog w) A E s y Q st):wpS (aB prog w) A E s (if (a==b)=true then x else y) Q st:=Va (λz=>h (eq_of_beq z)) λz=>g λe=>z (by rw[e];exact beq_self_eq_true _)
end
section
variable[KoOk prog w A s]
def Mt{a:jS}{p q:jW}{Q:jM->jS->Prop}(b:kindOf a=U4)(c:U9 p)(d:U9 q)(h:Q (some (decide (kv p<kv q))) a):wpS (aB prog w) A E s (lt' p q) Q a:=by
 rw[lt'_eq];refine jO (wpS_get ?_);rw[b];exact jO (wpS_lift (wpAny_attempt (KoOk.lt c d ⟨rfl,jQ h⟩)))
def M6{a:jS}{b:js}{i:Nat}{p:jW}{Q:jW->jS->Prop}(e:b[i]? = some p)(h:Q p a):wpS (aB prog w) A E s (elem' b i) Q a:=by
 rw[elem'_eq,e];exact jQ h
def NI{b:Type}{r:String}{f:Unit->StateT jS Sem b}{a:jS}{Q:b->jS->Prop}(h:wpS (aB prog w) A E s (f ()) Q a):wpS (aB prog w) A E s (liftM (rule r) >>= f) Q a:=jO (wpS_lift (ah ⟨rfl,h⟩))
def LR{a:js}{i:Nat}(b:Wj a)(c:i<a.size):∃ p,a[i]? = some p/\U9 p/\Kk a i=kv p:=by
 let e:a[i]? = some a[i]:=getElem?_pos a i c;exists _,e,b _ (by simp)
 unfold Kk;rw[e]
section
variable{α:Type}{Q:α->jS->Prop}{st:jS}
def PZ{a:js}{i:Nat}{p:jW}{f:jW->StateT jS Sem α}(e:a[i]? = some p)(h:wpS (aB prog w) A E s (f p) Q st):wpS (aB prog w) A E s (elem' a i >>= f) Q st:=jO (M6 e h)
def U6{a:js}{i:Nat}{f:jW->StateT jS Sem α}(c:Wj a)(d:i<a.size)(h:∀ p,a[i]? = some p->U9 p->Kk a i=kv p->wpS (aB prog w) A E s (f p) Q st):wpS (aB prog w) A E s (elem' a i >>= f) Q st:=by
 let⟨p,e,g,b⟩:=LR c d;exact PZ e (h p e g b)
def Fd{p q:jW}{f:jM->StateT jS Sem α}(a:kindOf st=U4)(b:U9 p)(c:U9 q)(h:wpS (aB prog w) A E s (f (some (decide (kv p<kv q)))) Q st):wpS (aB prog w) A E s (lt' p q >>= f) Q st:=jO (Mt a b c h)
def Pg{d:Type}{a b:Nat}{F:Nat->d->StateT jS Sem (ForInStep d)}{c:d}{g:d->StateT jS Sem α}(I:Nat->d->jS->Prop)(R:d->jS->Prop)(j:I a c st)(step:∀ i c st,a<=i->i<b->I i c st->wpS (aB prog w) A E s (F i c) (λr f=>match r with | .done c'=>R c' f | .yield c'=>I (i+1) c' f) st)(h:∀ c st,I (max a b) c st->R c st)(e:∀ c st,R c st->wpS (aB prog w) A E s (g c) Q st):wpS (aB prog w) A E s (forIn [a:b] c F >>= g) Q st:=jO (jV (jU I step h j) e)
end
def bK(c:Bool)(b:jW)(a:js)(i:Nat):Bool:=if c then decide (Kk a i<kv b) else !decide (kv b<Kk a i)
def Ng{d:jS}{a:Bool}{c:jW}{b:js}{i:Nat}{Q:jM->jS->Prop}(f:kindOf d=U4)(l:Wj b)(m:i<b.size)(j:U9 c)(h:Q (some (bK a c b i)) d):
  wpS (aB prog w) A E s (elem' b i >>= λx=>if a=true then lt' x c else lt' c x >>= λr=>pure (r.map (!·))) Q d:=by
 let⟨p,e,g,k⟩:=LR l m;refine jO (M6 e ?_);unfold bK at h;rw[k] at h;cases a
 ·rw[aM (by simp)]
  exact jO (Mt f j g (jQ h))
 ·rw[aO rfl];exact Mt f g j h
def Km{t:Type}{f:Nat->Option t×Nat×Nat->StateT jS Sem (ForInStep (Option t×Nat×Nat))}{n b a:Nat}{B:Nat->Bool}{o:jS}{Q:Option t×Nat×Nat->jS->Prop}(G:b<=a)(H:a<=n)(D:∀ i,i<b->B i=true)(z:∀ i,a<=i->i<n->B i=false)(d:∀ i j,i<=j->j<n->B j=true->B i=true)(J:∀ x b a (u:ForInStep (Option t×Nat×Nat)->jS->Prop),a<=n->(a<=b->u (.done (none,b,a)) o)->(∀ m,b<=m->m<a->u (.yield (if B m then (none,m+1,a) else (none,b,m))) o)->wpS (aB prog w) A E s (f x (none,b,a)) u o)(h:∀ k,k<=n->(∀ i,i<k->B i=true)->(∀ i,k<=i->i<n->B i=false)->Q (none,k,k) o):wpS (aB prog w) A E s (forIn [0:n] (none,b,a) f) Q o:=by
 refine jU (I:=λx c g=>g=o/\∃ b a,c=(none,b,a)/\b<=a/\a<=n/\a-b<=n-x/\(∀ i,i<b->B i=true)/\∀ i,a<=i->i<n->B i=false) ?_ ?_ ⟨Z,b,a,Z,G,H,∅,D,z⟩
 ·rintro x c g _ K ⟨rfl,b,a,rfl,F,e,v,q,r⟩;refine J x b a _ e (λc=>?_) λm p l=>?_
  ·have:b=a:=∅
   subst this;exact h _ e q r
  ·cases y:B m
   ·rw[aM (by simp)]
    exact⟨Z,b,m,Z,p,zS (yK l) e,Nat.le_sub_one_of_lt (yY (Nat.sub_lt_sub_right p l) v),q,λi p l=>by
     cases C:B i with
     | false=>rfl
     | true=>rw[d m i p l C] at y;cases y⟩
   ·rw[aO rfl];exact⟨Z,m+1,a,Z,l,e,zS (Nat.sub_le_sub_left (tS p) _) (Nat.sub_le_sub_right v 1),λi c=>d i m (Nat.le_of_lt_succ c) (yY l e) y,r⟩
 ·rintro c g ⟨rfl,b,a,rfl,F,e,v,q,r⟩;have:b=a:=∅
  subst this;exact h _ e q r
def KJ{D:jS}{b:Bool}{g:jW}{f:js}{a n d:Nat}{Q:jw->jS->Prop}(J:kindOf D=U4)(K:U9 g)(G:Wj f)(hn:a+n<=f.size)(X:d<n)(p:∀ i j,i<=j->j<n->bK b g f (a+j)=true->bK b g f (a+i)=true)(h:∀ k,k<=n->(∀ i,i<k->bK b g f (a+i)=true)->(∀ i,k<=i->i<n->bK b g f (a+i)=false)->Q (some k) D):wpS (aB prog w) A E s (gallop' b g f a n d) Q D:=by
 let y:∀ i j,i<=j->j<n->bK b g f (a+i)=false->bK b g f (a+j)=false:=λi j L M T=>by
  cases e:bK b g f (a+j) with
  | false=>rfl
  | true=>rw[p i j L M e] at T;cases T
 refine jO (Ng J G ∅ K ?_)
 dsimp only;cases U:bK b g f (a+d)
 ·rw[aM (by simp)]
  refine jO (jV (jU (I:=λx c m=>m=D/\∃ l o,c=(none,l,o)/\l<o/\x+1<=o/\l<d+1/\bK b g f (a+(d-l))=false)
   (Q:=λc m=>m=D/\∃ l o,c=(none,l,o)/\l<o/\l<d+1/\bK b g f (a+(d-l))=false/\(d+1<=o\/bK b g f (a+(d-o))=true)) ?_ ?_ ⟨rfl,0,1,rfl,∅,∅,∅,U⟩) ?_)
  ·rintro x c m _ Y ⟨rfl,l,o,rfl,t,F,q,r⟩;dsimp only;refine Va (λc=>?_) λc=>?_
   ·exact jQ ⟨Z,l,o,Z,t,q,r,.inl c⟩
   refine jO (Ng J G ∅ K ?_)
   dsimp only;cases u:bK b g f (a+(d-o))
   ·rw[aM (by simp)]
    exact jQ ⟨Z,o,2 * o+1,Z,∅,∅,∅,u⟩
   ·rw[aO rfl];exact jQ ⟨Z,l,o,Z,t,q,r,.inr u⟩
  ·rintro c m ⟨rfl,l,o,rfl,t,F,q,r⟩;exact⟨Z,l,o,Z,t,q,r,.inl ∅⟩
  ·rintro c m ⟨rfl,l,o,rfl,t,F,q,r⟩;dsimp only;refine jO (Km (B:=λi=>bK b g f (a+i)) (zS (Nat.sub_le_sub_left (Nat.le_min.mpr ⟨t,F⟩) _) (wK (Nat.add_sub_add_right d 1 l))) (zS (vL _ _) (yK X)) (λi c=>?_) (λi L M=>y _ _ L M q) p (λx v H V W N O=>?_) λk P R S=>jQ (h k P R S))
   ·rcases r with z | z
    ·rw[Nat.min_eq_right z,Nat.sub_self] at c;exact absurd c (xT _)
    ·exact p i _ ∅ ∅ z
   ·dsimp only;refine Va (λc=>?_) λc=>?_
    ·exact jQ (N c)
    ·refine jO (Ng J G ∅ K ?_)
     let C:=O (v+(H-v) / 2) ∅ ∅
     cases u:bK b g f (a+(v+(H-v) / 2)) <;> rw[u] at C
     ·exact jQ C
     ·exact jQ C
 ·rw[aO rfl];refine jO (jV (jU (I:=λx c m=>m=D/\∃ l o,c=(none,l,o)/\l<o/\x+1<=o/\l<n-d/\bK b g f (a+(d+l))=true)
   (Q:=λc m=>m=D/\∃ l o,c=(none,l,o)/\l<o/\l<n-d/\bK b g f (a+(d+l))=true/\(n-d<=o\/bK b g f (a+(d+o))=false)) ?_ ?_ ⟨rfl,0,1,rfl,∅,∅,∅,U⟩) ?_)
  ·rintro x c m _ Y ⟨rfl,l,o,rfl,t,F,q,r⟩;dsimp only;refine Va (λc=>?_) λc=>?_
   ·exact jQ ⟨Z,l,o,Z,t,q,r,.inl c⟩
   refine jO (Ng J G ∅ K ?_)
   dsimp only;cases u:bK b g f (a+(d+o))
   ·rw[aO (by simp)]
    exact jQ ⟨Z,l,o,Z,t,q,r,.inr u⟩
   ·rw[aM (by simp)]
    exact jQ ⟨Z,o,2 * o+1,Z,∅,∅,∅,u⟩
  ·rintro c m ⟨rfl,l,o,rfl,t,F,q,r⟩;exact⟨Z,l,o,Z,t,q,r,.inl ∅⟩
  ·rintro c m ⟨rfl,l,o,rfl,t,F,q,r⟩;dsimp only;refine jO (Km (B:=λi=>bK b g f (a+i)) ∅ ∅ (λi c=>p i _ ∅ ∅ q) (λi L M=>?_) p (λx v H V W N O=>?_) λk P R S=>jQ (h k P R S))
   ·rcases r with z | z
    ·lia
    ·exact y (d+o) i ∅ ∅ z
   ·dsimp only;refine Va (λc=>?_) λc=>?_
    ·exact jQ (N c)
    ·refine jO (Ng J G ∅ K ?_)
     let C:=O (v+(H-v) / 2) ∅ ∅
     cases u:bK b g f (a+(v+(H-v) / 2)) <;> rw[u] at C
     ·exact jQ C
     ·exact jQ C
end
structure MI(R:jW->jW->Prop)(L out ra rb:jA):Prop where
 perm:(out++(ra++rb)).Perm L
 sa:(out++ra).Pairwise R
 sb:(out++rb).Pairwise R
def MI.swap{R:jW->jW->Prop}{L a b c:jA}(h:MI R L a b c):MI R L a c b:=
 ⟨((vM.refl a).append List.perm_append_comm).trans h.perm,h.sb,h.sa⟩
def MI.takeA{R:jW->jW->Prop}{L a b c:jA}(h:MI R L a b c)(k:Nat)(l:∀ x∈b.take k,∀ y∈c,R x y):MI R L (a++b.take k) (b.drop k) c:=by
 let e:a++b.take k++b.drop k=a++b:=by rw[xH,xQ]
 exists ?_,by rw[e];exact h.sa
 ·rw[<-xH,e,xH];exact h.perm
 ·let d:=h.sa;rw[<-e] at d;let j:=(xZ.mp d).1;let⟨_,g,i⟩:=xZ.mp h.sb;refine xZ.mpr ⟨j,g,λx m y f=>?_⟩;rcases zB.mp m with z | z
  ·exact i x z y f
  ·exact l x z y f
def MI.takeB{R:jW->jW->Prop}{L a c b:jA}(h:MI R L a c b)(k:Nat)(d:∀ x∈b.take k,∀ y∈c,R x y):MI R L (a++b.take k) c (b.drop k):=(h.swap.takeA k d).swap
def NW{a:js}{i:Nat}{p:jW}(e:a[i]? = some p):a.toList.drop i=p::a.toList.drop (i+1):=by
 rw[<-yQ] at e;let⟨h,e⟩:=zC.mp e;rw[<-e];exact vO h
def NG{a:js}{i:Nat}{p:jW}(e:a[i]? = some p):Kk a i=kv p:=by
 unfold Kk;rw[e]
def OT{xs:js}{i k:Nat}{p:jW}(h:p∈(xs.toList.drop i).take k):∃ j,i<=j/\j<i+k/\j<xs.size/\kv p=Kk xs j:=by
 let⟨m,a,e⟩:=List.mem_iff_getElem.mp h;rw[List.getElem_take,List.getElem_drop] at e;rw[yF,wR,yM] at a;exists i+m,∅,∅,by lia
 rw[<-e];exact(NG (by rw[<-yQ];exact zV _)).symm
def OO{xs:js}{i:Nat}{p:jW}(h:p∈xs.toList.drop i):∃ j,i<=j/\j<xs.size/\kv p=Kk xs j:=by
 let⟨j,a,_,b,c⟩:=OT (xs:=xs) (i:=i) (k:=xs.size) (by rw[yX (by rw[wR,yM];lia)];exact h)
 exact⟨j,a,b,c⟩
def Om(a:js)(i k:Nat):(a.extract i (i+k)).toList=(a.toList.drop i).take k:=by
 rw[uC,uF,vP]
def MR(a:js)(i:Nat):(a.extract i a.size).toList=a.toList.drop i:=by
 rw[uC,uF,yX (by rw[wR,yM];lia)]
def X2(p q:jW):Prop:=kv p<=kv q
def WY(L:jA)(r:js):Prop:=r.toList.Perm L/\r.toList.Pairwise X2
structure Sm(st st':jS):Prop where
 kind:kindOf st'=kindOf st
 arr:jR st'=jR st
 pend:jT st'=jT st
 failed:failedOf st'=failedOf st
def setMinGallop':Nat->StateT jS Sem Unit:=sortPriv% PySem.Builtin.setMinGallop
def mergeLo':js->js->StateT jS Sem (js):=sortPriv% PySem.Builtin.mergeLo
section
variable{a b out:js}{ia ib:Nat}{L:jA}
def Nr(m:MI X2 L out.toList (a.toList.drop ia) (b.toList.drop ib))(h:b.size<=ib\/a.size<=ia):WY L (out++a.extract ia a.size++b.extract ib b.size):=by
 unfold WY;rw[xE,xE,MR,MR];exists by rw[xH];exact m.perm
 rcases h with z | z
 ·rw[pT (l:=b.toList) (by rw[yM];exact z),yR]
  exact m.sa
 ·rw[pT (l:=a.toList) (by rw[yM];exact z),yR]
  exact m.sb
def Mm(m:MI X2 L out.toList (a.toList.drop ia) (b.toList.drop ib))(h:ia+1=a.size)(f:∀ j,j<b.size->Kk b j<=Kk a (a.size-1)):WY L (out++b.extract ib b.size++a.extract ia a.size):=by
 unfold WY;rw[xE,xE,MR,MR];exists by rw[xH];exact m.swap.perm
 let⟨_,d,e⟩:=xZ.mp m.sa;refine xZ.mpr ⟨m.sb,d,λx g y c=>?_⟩;rcases zB.mp g with z | z
 ·exact e x z y c
 ·let⟨j,_,l,n⟩:=OO z;let⟨i,o,p,k⟩:=OO c;have:=f j l;unfold X2;rw[n,k,show i=a.size-1 by lia]
  exact this
end
section
variable[KoOk prog w A s]
def Fk{d a:Type}{c:a->Prop}{_:∀ n,Decidable (c n)}{x J:a->StateT jS Sem d}{Q:d->jS->Prop}{b:jS}(f:∀ n,∃ m,x n=J m)(k:∀ n,wpS (aB prog w) A E s (J n) Q b)(n:a):wpS (aB prog w) A E s (if c n then x n else J n) Q b:=by
 refine Va (λh=>?_) λh=>?_
 ·let⟨m,e⟩:=f n;rw[e];exact k m
 ·exact k n
def MF{g b d:Type}{c:Prop}{_:Decidable c}{x J:b->d->StateT jS Sem g}{Q:g->jS->Prop}{a:jS}{e:b->d->Prop}(P:b->d->Prop)(k:∀ o i,P o i->wpS (aB prog w) A E s (J o i) Q a)(j:¬c->∀ o i,e o i->P o i)(l:c->(∀ o i,P o i->wpS (aB prog w) A E s (J o i) Q a)->∀ o i,e o i->wpS (aB prog w) A E s (x o i) Q a)(o:b)(i:d)(f:e o i):wpS (aB prog w) A E s (if c then x o i else J o i) Q a:=by
 refine Va (λh=>?_) λh=>?_
 ·exact l h k o i f
 ·exact k o i (j h o i f)
def Co{a:jS}{g:Nat}{Q:Unit->jS->Prop}(h:∀ b,Sm a b->Q () b):wpS (aB prog w) A E s (setMinGallop' g) Q a:=
 wpS_modify (f:=λa=>SortSt.mk' (kindOf a) (jR a) (jT a) g (failedOf a)) (h _ ⟨rfl,rfl,rfl,rfl⟩)
def Sm.trans{c b a:jS}(h:Sm c b)(g:Sm b a):Sm c a:=⟨g.kind.trans h.kind,g.arr.trans h.arr,g.pend.trans h.pend,g.failed.trans h.failed⟩
def K8{b:Bool}{d:jW}{c:js}{a n:Nat}(h:∀ i j,i<=j->j<n->Kk c (a+i)<=Kk c (a+j)):∀ i j,i<=j->j<n->bK b d c (a+j)=true->bK b d c (a+i)=true:=λi j f g e=>by
 have:=h i j f g;unfold bK at e⊢;cases b
 ·simp at e⊢
  lia
 ·simp at e⊢
  lia
def U2{b:jW}{a:js}{i:Nat}:(bK false b a i=true ↔ Kk a i<=kv b)/\(bK false b a i=false ↔ kv b<Kk a i):=by
 unfold bK;constructor <;> simp
def Uq{b:jW}{a:js}{i:Nat}:(bK true b a i=true ↔ Kk a i<kv b)/\(bK true b a i=false ↔ kv b<=Kk a i):=by
 unfold bK;constructor <;> simp
structure Op(a b:js)(L:jA)(X:Nat)(out:js)(ia ib:Nat):Prop where
 m:MI X2 L out.toList (a.toList.drop ia) (b.toList.drop ib)
 ha:ia+1<a.size
 hb:ib<b.size
 hx:X<=ia+ib
inductive LI{γ:Type}(st:jS)(a b:js)(L:jA)(x:Nat):Option (js)×js×Nat×Nat×γ->jS->Prop
 |mk{out:js}{ia ib:Nat}{g:γ}{st':jS}:Sm st st'->Op a b L x out ia ib->LI st a b L x (none,out,ia,ib,g) st'
inductive M2{γ:Type}(st:jS)(a b:js)(L:jA)(x:Nat):Option (js)×js×Nat×Nat×γ->jS->Prop
 |more{out:js}{ia ib:Nat}{g:γ}{st':jS}:Sm st st'->Op a b L x out ia ib->M2 st a b L x (none,out,ia,ib,g) st'
 |done{r:js}{c:js×Nat×Nat×γ}{st':jS}:Sm st st'->WY L r->M2 st a b L x (some r,c) st'
inductive JW{γ:Type}(st:jS)(L:jA):Option (js)×γ->jS->Prop
 |mk{r:js}{c:γ}{st':jS}:Sm st st'->WY L r->JW st L (some r,c) st'
structure LoG(a b:js)(L:jA)(X:Nat)(p:jW)(k:Nat)(out:js)(ia ib:Nat):Prop where
 I:Op a b L X out ia ib
 k1:k<=a.size-ia
 k2:∀ i,i<k->Kk a (ia+i)<=kv p
 k3:∀ i,k<=i->i<a.size-ia->kv p<Kk a (ia+i)
structure LoH(a b:js)(L:jA)(X:Nat)(p:jW)(out:js)(ia ib:Nat):Prop where
 I:Op a b L X out ia ib
 hp:∀ j,ia<=j->j<a.size->kv p<=Kk a j
structure LoK(a b:js)(L:jA)(q:jW)(k:Nat)(O:js)(ia ib jb:Nat):Prop where
 m:MI X2 L O.toList (a.toList.drop ia) (b.toList.drop jb)
 h1:jb<b.size
 h2:ib<jb
 k1:k<=b.size-jb
 k2:∀ i,i<k->Kk b (jb+i)<kv q
 k3:∀ i,k<=i->i<b.size-jb->kv q<=Kk b (jb+i)
structure AG(a b:js)(L:jA)(q:jW)(O:js)(ia ib jb:Nat):Prop where
 m:MI X2 L O.toList (a.toList.drop ia) (b.toList.drop jb)
 h1:jb<b.size
 h2:ib<jb
 hp:∀ j,jb<=j->j<b.size->kv q<=Kk b j
def Sm.refl(a:jS):Sm a a:=⟨Z,Z,Z,Z⟩
def Op.tb{a b:js}{L:jA}{X:Nat}{c:js}{d f:Nat}{p:jW}(I:Op a b L X c d f)(e:b[f]? = some p)(h:∀ j,d<=j->j<a.size->kv p<=Kk a j):MI X2 L (c.push p).toList (a.toList.drop d) (b.toList.drop (f+1)):=by
 let m:=I.m.takeB 1 (λx g y i=>by
  let⟨j,k,l,n⟩:=OO (xs:=a) i;rw[NW e,vT,xA] at g;unfold X2;rw[zK.mp g,n];exact h j k l)
 rw[vI,NW e,vT,xA,<-uV] at m;exact m
def MI.ta{a b:js}{L:jA}{c:js}{d f:Nat}{p:jW}(I:MI X2 L c.toList (a.toList.drop d) (b.toList.drop f))(e:a[d]? = some p)(h:∀ j,f<=j->j<b.size->kv p<=Kk b j):MI X2 L (c.push p).toList (a.toList.drop (d+1)) (b.toList.drop f):=by
 let m:=I.takeA 1 (λx g y i=>by
  let⟨j,k,l,n⟩:=OO (xs:=b) i;rw[NW e,vT,xA] at g;unfold X2;rw[zK.mp g,n];exact h j k l)
 rw[vI,NW e,vT,xA,<-uV] at m;exact m
def MV{l:Type}{g:jS}{c:Bool}{d:jW}{a:js}{b n e:Nat}{f:jw->StateT jS Sem l}{Q:l->jS->Prop}(p:kindOf g=U4)(r:U9 d)(m:Wj a)(t:Qn a a.size)(q:b+n<=a.size)(o:e<n)(h:∀ k,k<=n->(∀ i,i<k->bK c d a (b+i)=true)->(∀ i,k<=i->i<n->bK c d a (b+i)=false)->wpS (aB prog w) A E s (f (some k)) Q g):wpS (aB prog w) A E s (gallop' c d a b n e >>= f) Q g:=
 jO (KJ p r m q o (K8 λi j u v=>t _ _ ∅ ∅) h)
def ML{c:Type}{b:jS}{g:Nat}{f:Unit->StateT jS Sem c}{Q:c->jS->Prop}(h:∀ a,Sm b a->wpS (aB prog w) A E s (f ()) Q a):wpS (aB prog w) A E s (setMinGallop' g >>= f) Q b:=jO (Co h)
def J8{b:Type}{a:jS}{f:jS->StateT jS Sem b}{Q:b->jS->Prop}(h:wpS (aB prog w) A E s (f a) Q a):wpS (aB prog w) A E s (get >>= f) Q a:=jO (wpS_get h)
def ZGc{F:jS}{a b:js}{Q:js->jS->Prop}(hk:kindOf F=U4)(ka:Wj a)(kb:Wj b)(a1:1<=a.size)(b1:1<=b.size)(sa:Qn a a.size)(sb:Qn b b.size)(h0:∀ i,i<a.size->Kk b 0<=Kk a i)(hl:∀ j,j<b.size->Kk b j<=Kk a (a.size-1))(pa:a.toList.Pairwise X2)(pb:b.toList.Pairwise X2)(h:∀ r f,Sm F f->WY (a.toList++b.toList) r->Q r f):wpS (aB prog w) A E s (mergeLo' a b) Q F:=by
 refine NI (U6 kb b1 λp0 e0 i0 k0=>?_);let m0:MI X2 (a.toList++b.toList) #[p0].toList (a.toList.drop 0) (b.toList.drop 1):=by
  let m:MI X2 (a.toList++b.toList) [] a.toList b.toList:=⟨vM.refl _,pa,pb⟩;let l:=m.takeB 1 (λx J y W=>by
   let⟨i,_,i1,_,Y⟩:=OT (xs:=b) (i:=0) (k:=1) J;let⟨j,_,t,B⟩:=OO (xs:=a) (i:=0) W;have:=h0 j t;unfold X2;rw[Y,B,show i=0 by lia]
   exact this)
  let e:=NW e0;rw[tV] at e;rw[e] at l⊢;exact l
 refine Wd (λc1=>jQ (h _ _ (Sm.refl _) (Nr m0 (.inl ∅)))) λc1=>Wd (λc2=>jQ (h _ _ (Sm.refl _) (Mm m0 c2 hl))) λc2=>J8 ?_
 generalize hL:a.toList++b.toList=L at m0 h;refine Pg (LI F a b L) (JW F L) ⟨Sm.refl _,m0,∅,∅,∅⟩ ?step ?fin ?post
 case post=>
  rintro _ f ⟨d,g⟩;exact jQ (h _ f d g)
 case fin=>
  rintro _ f ⟨d,i⟩;have:=i.ha;have:=i.hb;have:=i.hx
  lia
 case step=>
  rintro X _ f _ hX ⟨d,I⟩;refine Pg (λx=>LI F a b L (X+x)) (M2 F a b L (X+1)) ⟨d,I⟩ ?istep ?ifin ?ipost
  case ifin=>
   rintro _ z ⟨d,I⟩;exact .more d ⟨I.m,I.ha,I.hb,by have:=I.hx;lia⟩
  case istep=>
   clear d I;rintro x _ f _ J ⟨d,I⟩;dsimp only;let C:=I.ha;let R:=I.hb;let S:=I.hx;refine U6 kb I.hb λp T ip kp=>U6 ka ∅ λq U iq kq=>Fd (d.kind.trans hk) ip iq (Os (λc=>PZ T ?_) λc=>PZ U ?_)
   ·let l:=I.tb T λj M t=>by
     have:=sa _ j M t
     lia
    exact Wd (λu=>jQ (.done d (Nr l (.inl ∅)))) λu=>Va (λG=>jQ (.more d ⟨l,∅,∅,∅⟩)) λG=>jQ ⟨d,l,∅,∅,∅⟩
   ·let l:=I.m.ta U λj M t=>by
     have:=sb _ j M t
     lia
    exact Wd (λu=>jQ (.done d (Mm l u hl))) λu=>Va (λG=>jQ (.more d ⟨l,∅,∅,∅⟩)) λG=>jQ ⟨d,l,∅,∅,∅⟩
  case ipost=>
   clear d I;rintro _ f (⟨d,I⟩ | ⟨d,gd⟩)
   rotate_left
   ·exact jQ ⟨d,gd⟩
   refine NI (Pg (λ_=>LI F a b L (X+1)) (M2 F a b L (X+1)) ⟨d,I⟩ ?gstep ?gfin ?gpost)
   case gfin=>
    rintro _ f ⟨d,I⟩;exact .more d I
   case gpost=>
    rintro _ f (⟨d,I⟩ | ⟨d,gd⟩)
    ·exact ML λz D=>jQ ⟨d.trans D,I⟩
    ·exact jQ ⟨d,gd⟩
   case gstep=>
    clear d I;rintro x _ _ _ J (@⟨v,n,K,⟨g,ac,bc⟩,f,d,I⟩);dsimp only
    revert g
    refine Fk (λ_=>⟨_,Z⟩) λg=>ML λz D=>?_;let d:=d.trans D;clear D;let V:kindOf z=U4:=d.kind.trans hk;let C:=I.ha;let R:=I.hb;refine U6 kb I.hb λp T ip kp=>MV V ip ka sa ∅ ∅ λk k1 k2 k3=>?_
    dsimp only;let H:LoG a b L (X+1) p k v n K:=⟨I,k1,λi h=>U2.1.mp (k2 i h),λi h1 D=>U2.2.mp (k3 i h1 D)⟩;clear I k1 k2 k3 C
    revert H
    revert n
    revert v
    refine no_implicit_lambda% (MF (λa0 a2=>LoH a b L (X+1) p a0 a2 K) (λv n I=>?_) (λc v n H=>?_) (λc N v n H=>?_))
    ·let hp:=I.hp;let I:=I.I;let C:=I.ha;let S:=I.hx;refine PZ T ?_;let l:=I.tb T hp;refine Wd (λu=>jQ (.done d (Nr l (.inl ∅)))) λu=>U6 ka ∅ λq U iq kq=>MV V iq kb sb ∅ ∅ λk k1 k2 k3=>?_
     dsimp only;generalize v.push p=O at l⊢;let H:LoK a b L q k O n K (K+1):=⟨l,∅,∅,k1,λi h=>Uq.1.mp (k2 i h),λi h1 D=>Uq.2.mp (k3 i h1 D)⟩
     clear l k1 k2 k3 u
     revert H
     generalize K+1=o
     revert o
     revert O
     refine MF (λO o=>AG a b L q O n K o) (λO o I=>?_) (λc O o H=>?_) (λc N O o H=>?_)
     ·refine PZ U ?_;let P:=I.m.ta U I.hp;let t:=I.h1;let B:=I.h2;refine Wd (λu=>jQ (.done d (Mm P u hl))) λu=>?_;split
      ·exact jQ (.more d ⟨P,∅,∅,∅⟩)
      ·exact jQ ⟨d,P,∅,∅,∅⟩
     ·let e:=H.k1;exists H.m,H.h1,H.h2;intro j t B;have:=H.k3 (j-o) ∅ ∅
      rw[show o+(j-o)=j by lia] at this
      lia
     ·let P:=H.m.takeB k (λx J y W=>by
       let⟨i,i0,i1,_,Y⟩:=OT (xs:=b) J;let⟨j,M,t,B⟩:=OO (xs:=a) W;have:=sa n j M t;have:=H.k2 (i-o) ∅
       rw[show o+(i-o)=i by lia] at this
       unfold X2;rw[Y,B]
       lia)
      rw[vI,<-Om,<-xE] at P;let h1:=H.h1;let D:=H.h2;refine Wd (λG=>jQ (.done d (Nr P (.inl ∅)))) λG=>N _ _ ⟨P,?_,∅,λj t B=>?_⟩
      ·have:=H.k1
       lia
      ·have:=H.k3 (j-o) ∅ ∅
       rw[show o+(j-o)=j by lia] at this
       lia
    ·exists H.I;intro j t B;have:=H.k3 (j-n) ∅ ∅
     rw[show n+(j-n)=j by lia] at this
     lia
    ·let C:=H.I.ha;let S:=H.I.hx;let l:=H.I.m.takeA k (λx J y W=>by
      let⟨i,i0,i1,_,Y⟩:=OT (xs:=a) J;let⟨j,M,t,B⟩:=OO (xs:=b) W;have:=sb K j M t;have:=H.k2 (i-n) ∅
      rw[show n+(i-n)=i by lia] at this
      unfold X2;rw[Y,B]
      lia)
     rw[vI,<-Om,<-xE] at l;refine Wd (λu=>jQ (.done d (Mm l u hl))) λu=>Wd (λG=>jQ (.done d (Nr l (.inr ∅)))) λG=>N _ _ ⟨⟨l,?_,R,∅⟩,λj t B=>?_⟩
     ·have:=H.k1
      lia
     ·have:=H.k3 (j-n) ∅ ∅
      rw[show n+(j-n)=j by lia] at this
      lia
end
abbrev Y5(a:js)(n:Nat):jA:=(a.toList.take n).reverse
def ZOo{a:js}{i:Nat}{p:jW}(e:a[i]? = some p):Y5 a (i+1)=p::Y5 a i:=by
 rw[<-yQ] at e;show ((a.toList.take (i+1)).reverse)=_;rw[yN,e];simp
def Cd{a:js}{i:Nat}{p:jW}(e:a[i-1]? = some p)(h:1<=i):Y5 a i=p::Y5 a (i-1):=by
 have:=ZOo e;rw[Nat.sub_add_cancel h] at this;exact this
def MI.popA{R:jW->jW->Prop}{L c b:jA}{a:js}{p:jW}(h:MI R L a.toList (p::c) b)(d:∀ y∈b,R p y):MI R L (a.push p).toList c b:=by
 have:=h.takeA 1 (λx f y g=>by
  let e:x=p:=by simpa using f
  rw[e];exact d y g)
 rw[vT,xA,<-uV] at this;exact this
def Fb{a:js}{n m:Nat}(h:m<=n)(b:n<=a.size):(Y5 a n).drop (n-m)=Y5 a m:=by
 show ((a.toList.take n).reverse).drop (n-m)=_;rw[List.drop_reverse,yF,yM,show min n a.size-(n-m)=m by lia,List.take_take,show min m n=m by lia]
def JQ{a:js}{n m:Nat}(h:m<=n)(b:n<=a.size):(Y5 a n).take (n-m)=(a.extract m n).reverse.toList:=by
 show ((a.toList.take n).reverse).take (n-m)=_;rw[List.take_reverse,yF,yM,show min n a.size-(n-m)=m by lia,zEA,uC,uF,List.drop_take]
def Nb{a:js}{n:Nat}{p:jW}(h:p∈Y5 a n):∃ j,j<n/\j<a.size/\kv p=Kk a j:=by
 let⟨j,_,d,b,c⟩:=OT (xs:=a) (i:=0) (k:=n) (List.mem_reverse.mp h);exact⟨j,∅,b,c⟩
def DZ{a:js}{n m:Nat}{p:jW}(d:m<=n)(e:n<=a.size)(h:p∈(Y5 a n).take (n-m)):∃ j,m<=j/\j<n/\kv p=Kk a j:=by
 rw[JQ d e,zEA,uC,uF] at h;let⟨j,b,f,g,c⟩:=OT (xs:=a) (List.mem_reverse.mp h);exact⟨j,b,∅,c⟩
def UV(p q:jW):Prop:=kv q<=kv p
def GR{L l:jA}{r:js}(a:l.Perm L)(b:l.Pairwise UV)(e:r.toList=l.reverse):WY L r:=by
 unfold WY;rw[e];exact⟨(uM l).trans a,rM.mpr b⟩
def El(a:js)(n:Nat):(a.extract 0 n).toList=a.toList.take n:=by
 rw[uC,uF,tV,Nat.sub_zero]
section
variable{a b out:js}{na nb:Nat}{L:jA}
def NQ(m:MI UV L out.toList (Y5 a na) (Y5 b nb))(h:na=0\/nb=0):WY L (a.extract 0 na++b.extract 0 nb++out.reverse):=by
 refine GR m.swap.perm ?_ (by simp[El,Y5])
 rcases h with rfl | rfl
 ·have:Y5 a 0=[]:=rfl;rw[this,yR];exact m.sb
 ·exact m.sa
def MG(m:MI UV L out.toList (Y5 a na) (Y5 b nb))(h:nb=1)(f:∀ i,i<a.size->Kk b 0<=Kk a i):WY L (b.extract 0 nb++a.extract 0 na++out.reverse):=by
 refine GR m.perm ?_ (by simp[El,Y5])
 let⟨_,d,e⟩:=xZ.mp m.sb;rw[<-xH];refine xZ.mpr ⟨m.sa,d,λx g y c=>?_⟩;rcases zB.mp g with z | z
 ·exact e x z y c
 ·let⟨j,_,l,n⟩:=Nb z;let⟨i,o,p,k⟩:=Nb c;have:=f j l;unfold UV;rw[n,k,show i=0 by lia]
  exact this
end
def mergeHi':js->js->StateT jS Sem (js):=sortPriv% PySem.Builtin.mergeHi
structure LU(a b:js)(L:jA)(X:Nat)(out:js)(na nb:Nat):Prop where
 m:MI UV L out.toList (Y5 a na) (Y5 b nb)
 a0:1<=na
 a1:na<=a.size
 b0:2<=nb
 b1:nb<=b.size
 hx:na+nb+X<=a.size+b.size
inductive MM{γ:Type}(st:jS)(a b:js)(L:jA)(x:Nat):Option (js)×Nat×Nat×js×γ->jS->Prop
 |mk{na nb:Nat}{out:js}{g:γ}{st':jS}:Sm st st'->LU a b L x out na nb->MM st a b L x (none,na,nb,out,g) st'
inductive LS{γ:Type}(st:jS)(a b:js)(L:jA)(x:Nat):Option (js)×Nat×Nat×js×γ->jS->Prop
 |more{na nb:Nat}{out:js}{g:γ}{st':jS}:Sm st st'->LU a b L x out na nb->LS st a b L x (none,na,nb,out,g) st'
 |done{r:js}{c:Nat×Nat×js×γ}{st':jS}:Sm st st'->WY L r->LS st a b L x (some r,c) st'
structure HiG(a b:js)(L:jA)(X:Nat)(p:jW)(t k:Nat)(out:js)(na nb:Nat):Prop where
 I:LU a b L X out na nb
 e:na-t=k
 k1:t<=na
 k3:∀ i,t<=i->i<na->kv p<Kk a i
structure HiH(a b:js)(L:jA)(X:Nat)(p:jW)(out:js)(na nb:Nat):Prop where
 I:LU a b L X out na nb
 hp:∀ j,j<na->Kk a j<=kv p
structure HiK(a b:js)(L:jA)(q:jW)(t k:Nat)(O:js)(na nb n2:Nat):Prop where
 m:MI UV L O.toList (Y5 a na) (Y5 b n2)
 h1:n2<nb
 h2:2<=n2
 e:n2-t=k
 k1:t<=n2
 k3:∀ i,t<=i->i<n2->kv q<=Kk b i
structure AT(a b:js)(L:jA)(q:jW)(O:js)(na nb n2:Nat):Prop where
 m:MI UV L O.toList (Y5 a na) (Y5 b n2)
 h1:n2<nb
 h2:2<=n2
 hp:∀ j,j<n2->Kk b j<=kv q
def MI.pa{a:js}{L d:jA}{b:js}{c:Nat}{p:jW}(m:MI UV L b.toList (Y5 a c) d)(e:a[c-1]? = some p)(h:1<=c)(f:∀ y∈d,kv y<=kv p):MI UV L (b.push p).toList (Y5 a (c-1)) d:=by
 rw[Cd e h] at m;exact m.popA f
def MI.pb{b:js}{L d:jA}{a:js}{c:Nat}{p:jW}(m:MI UV L a.toList d (Y5 b c))(e:b[c-1]? = some p)(h:1<=c)(f:∀ y∈d,kv y<=kv p):MI UV L (a.push p).toList d (Y5 b (c-1)):=(m.swap.pa e h f).swap
def NP{a:js}{n:Nat}{p:jW}(h:∀ j,j<n->j<a.size->Kk a j<=kv p):∀ y∈Y5 a n,kv y<=kv p:=λy b=>by
 let⟨j,c,d,e⟩:=Nb b;rw[e];exact h j c d
section
variable[KoOk prog w A s]
def D4{K:jS}{a b:js}{Q:js->jS->Prop}(hk:kindOf K=U4)(ka:Wj a)(kb:Wj b)(a1:1<=a.size)(b1:1<=b.size)(sa:Qn a a.size)(sb:Qn b b.size)(h0:∀ i,i<a.size->Kk b 0<=Kk a i)(hl:∀ j,j<b.size->Kk b j<=Kk a (a.size-1))(pa:a.toList.Pairwise X2)(pb:b.toList.Pairwise X2)(h:∀ r f,Sm K f->WY (a.toList++b.toList) r->Q r f):wpS (aB prog w) A E s (mergeHi' a b) Q K:=by
 refine NI (U6 ka (show a.size-1<a.size by lia) λp0 e0 i0 k0=>?_)
 let m0:MI UV (a.toList++b.toList) #[p0].toList (Y5 a (a.size-1)) (Y5 b b.size):=by
  let ea:Y5 a a.size=a.toList.reverse:=by show (a.toList.take a.size).reverse=_;rw[yX (by simp)]
  let eb:Y5 b b.size=b.toList.reverse:=by show (b.toList.take b.size).reverse=_;rw[yX (by simp)]
  let m:MI UV (a.toList++b.toList) #[].toList (Y5 a a.size) (Y5 b b.size):=⟨by rw[ea,eb];exact(uM _).append (uM _),by rw[ea];exact rM.mpr pa,by rw[eb];exact rM.mpr pb⟩
  exact m.pa e0 a1 (NP λj _ S=>by rw[<-k0];exact hl j S)
 refine Wd (λc1=>jQ (h _ _ (Sm.refl _) (NQ m0 (.inl ∅)))) λc1=>Wd (λc2=>jQ (h _ _ (Sm.refl _) (MG m0 c2 h0))) λc2=>J8 ?_
 generalize hL:a.toList++b.toList=L at m0 h;refine Pg (MM K a b L) (JW K L) ⟨Sm.refl _,m0,∅,∅,∅,∅,∅⟩ ?step ?fin ?post
 case post=>
  rintro _ f ⟨d,g⟩;exact jQ (h _ f d g)
 case fin=>
  rintro _ f ⟨d,i⟩;have:=i.a0;have:=i.b0;have:=i.hx
  lia
 case step=>
  rintro X _ f _ hX ⟨d,I⟩;refine Pg (λx=>MM K a b L (X+x)) (LS K a b L (X+1)) ⟨d,I⟩ ?istep ?ifin ?ipost
  case ifin=>
   rintro _ C ⟨d,I⟩;exact .more d ⟨I.m,I.a0,I.a1,I.b0,I.b1,by have:=I.hx;lia⟩
  case istep=>
   clear d I;rintro x _ _ _ hx (@⟨o,N,l,g,f,d,m,U,P,b0,b9,ix⟩);dsimp only;refine U6 kb ∅ λp V ip kp=>U6 ka ∅ λq W iq kq=>Fd (d.kind.trans hk) ip iq (Os (λc=>PZ W ?_) λc=>PZ V ?_)
   ·let n:=m.pa W U (NP λj R S=>by
     have:=sb j (N-1) ∅ ∅
     lia)
    exact Wd (λu=>jQ (.done d (NQ n (.inl u)))) λu=>Va (λG=>jQ (.more d ⟨n,∅,∅,∅,∅,∅⟩)) λG=>jQ ⟨d,n,∅,∅,∅,∅,∅⟩
   ·let n:=m.pb V ∅ (NP λj R S=>by
     have:=sa j (o-1) ∅ ∅
     lia)
    exact Wd (λu=>jQ (.done d (MG n u h0))) λu=>Va (λG=>jQ (.more d ⟨n,∅,∅,∅,∅,∅⟩)) λG=>jQ ⟨d,n,∅,∅,∅,∅,∅⟩
  case ipost=>
   clear d I;rintro _ f (⟨d,I⟩ | ⟨d,gd⟩)
   rotate_left
   ·exact jQ ⟨d,gd⟩
   refine NI (Pg (λ_=>MM K a b L (X+1)) (LS K a b L (X+1)) ⟨d,I⟩ ?gstep ?gfin ?gpost)
   case gfin=>
    rintro _ f ⟨d,I⟩;exact .more d I
   case gpost=>
    rintro _ f (⟨d,I⟩ | ⟨d,gd⟩)
    ·exact ML λC M=>jQ ⟨d.trans M,I⟩
    ·exact jQ ⟨d,gd⟩
   case gstep=>
    clear d I;rintro x _ _ _ hx (@⟨o,N,l,⟨g,ac,bc⟩,f,d,I⟩);dsimp only
    revert g
    refine Fk (λ_=>⟨_,Z⟩) λg=>ML λC M=>?_;let d:=d.trans M;clear M;let Y:kindOf C=U4:=d.kind.trans hk;let U:=I.a0;let P:=I.a1;let b0:=I.b0;let b9:=I.b1;refine U6 kb ∅ λp V ip kp=>MV Y ip ka sa ∅ ∅ λt D v F=>?_
    dsimp only;simp only[uI] at v F;generalize B:o-t=k;let H:HiG a b L (X+1) p t k l o N:=⟨I,B,D,λi h1 M=>U2.2.mp (F i h1 M)⟩
    replace v:∀ i,i<t->Kk a i<=kv p:=λi h=>U2.1.mp (v i h)
    clear I U P D F B
    revert H
    revert l
    revert o
    refine no_implicit_lambda% (MF (λo l=>HiH a b L (X+1) p l o N) (λo l I=>?_) (λc o l H=>?_) (λc T o l H=>?_))
    ·let⟨⟨m,U,P,b0,b9,ix⟩,hp⟩:=I;refine PZ V ?_;let n:=m.pb V ∅ (NP λj R _=>hp j R)
     refine Wd (λu=>jQ (.done d (MG n u h0))) λu=>U6 ka ∅ λq W iq kq=>MV Y iq kb sb ∅ ∅ λt2 D v F=>?_
     dsimp only;simp only[uI] at v F;generalize l.push p=O at n⊢;generalize hn:N-1=J at n D v F u⊢;generalize B:J-t2=k';let H:HiK a b L q t2 k' O o N J:=⟨n,∅,∅,B,D,λi h1 M=>Uq.2.mp (F i h1 M)⟩
     replace v:∀ i,i<t2->Kk b i<kv q:=λi h=>Uq.1.mp (v i h)
     clear n D F B u hn
     revert H
     revert O
     revert J
     refine MF (λJ O=>AT a b L q O o N J) (λJ O I=>?_) (λc J O H=>?_) (λc T J O H=>?_)
     ·let⟨n,S,j2,hp⟩:=I;refine PZ W ?_;let z:=n.pa W U (NP λj R _=>hp j R);refine Wd (λu=>jQ (.done d (NQ z (.inl u)))) λu=>?_;split
      ·exact jQ (.more d ⟨z,∅,∅,∅,∅,∅⟩)
      ·exact jQ ⟨d,z,∅,∅,∅,∅,∅⟩
     ·let e:=H.e;exact⟨H.m,H.h1,H.h2,λj c=>wL (v j ∅)⟩
     ·let S:=H.h1;let j3:=H.k1;let z:=H.m.takeB (J-t2) λx hx y hy=>by
       let⟨i,i0,i1,i3⟩:=DZ j3 ∅ hx
       let⟨j,R,S,j2⟩:=Nb hy;have:=sa j (o-1) ∅ ∅
       have:=H.k3 i i0 i1;unfold UV;rw[i3,j2]
       lia
      rw[Fb j3 ∅,JQ j3 ∅,<-xE] at z
      exact Wd (λG=>jQ (.done d (MG z G h0))) λG=>Wd (λc5=>jQ (.done d (NQ z (.inr c5)))) λc5=>T _ _ ⟨z,∅,∅,λj c=>wL (v j c)⟩
    ·let e:=H.e;exact⟨H.I,λj c=>v j ∅⟩
    ·let⟨⟨m,U,P,b0,b9,ix⟩,e,D,F⟩:=H;let z:=m.takeA (o-t) λx hx y hy=>by
      let⟨i,i0,i1,i3⟩:=DZ D P hx;let⟨j,R,S,j2⟩:=Nb hy;have:=sb j (N-1) ∅ ∅
      have:=F i i0 i1;unfold UV;rw[i3,j2]
      lia
     rw[Fb D P,JQ D P,<-xE] at z;exact Wd (λG=>jQ (.done d (NQ z (.inl G)))) λG=>T _ _ ⟨⟨z,∅,∅,∅,∅,∅⟩,v⟩
end
structure TB(a₀:js)(p₀:jK)(st:jS):Prop where
 perm:(jR st).Perm a₀
 kind:kindOf st=U4
 failed:failedOf st=none
 pend:jT st=p₀
def XV(b:js)(a n:Nat):Prop:=∀ i j,i<=j->j<n->Kk b (a+i)<=Kk b (a+j)
def Vq(b:js)(a n:Nat):Prop:=∀ i j,i<=j->j<n->Kk b (a+j)<=Kk b (a+i)
def Fr(b c:js)(a:Nat):Prop:=∀ i,i<a->Kk c i=Kk b i
section
variable{a₀:js}{p₀:jK}{st:jS}
def TB.size(h:TB a₀ p₀ st):(jR st).size=a₀.size:=h.perm.size_eq
def TB.setArr(h:TB a₀ p₀ st){a:js}(b:a.Perm (jR st)):TB a₀ p₀ (jX st a):=⟨b.trans h.perm,h.kind,h.failed,h.pend⟩
def TB.ints(h:TB a₀ p₀ st)(a:Wj a₀):Wj (jR st):=λp b=>a p ((qX.mp h.perm).mem_iff.mp b)
end
section
variable[KoOk prog w A s]{a₀:js}{p₀:jK}
def IX{b:Type}{c:Prop}{_:Decidable c}{x J:StateT jS Sem b}{Q:b->jS->Prop}{a:jS}(P:jS->Prop)(k:∀ a,P a->wpS (aB prog w) A E s J Q a)(d:¬c->P a)(e:c->(∀ a,P a->wpS (aB prog w) A E s J Q a)->wpS (aB prog w) A E s x Q a):wpS (aB prog w) A E s (if c then x else J) Q a:=by
 refine Va (λh=>?_) λh=>?_
 ·exact e h k
 ·exact k a (d h)
def IM{a:jS}{i j:Nat}{Q:jM->jS->Prop}(b:TB a₀ p₀ a)(c:Wj a₀)(f:i<a₀.size)(g:j<a₀.size)(h:Q (some (decide (Kk (jR a) i<Kk (jR a) j))) a):wpS (aB prog w) A E s (ltAt' i j) Q a:=by
 let⟨p,d,k,m⟩:=LR (b.ints c) (show i<(jR a).size by rw[b.size];exact f)
 let⟨q,e,l,n⟩:=LR (b.ints c) (show j<(jR a).size by rw[b.size];exact g)
 rw[m,n] at h;exact jO (wpS_get (jO (M6 d (jO (M6 e (Mt b.kind k l h))))))
def JJ{b:Type}{a:jS}{i j:Nat}{f:jM->StateT jS Sem b}{Q:b->jS->Prop}(d:TB a₀ p₀ a)(c:Wj a₀)(e:i<a₀.size)(g:j<a₀.size)(h:wpS (aB prog w) A E s (f (some (decide (Kk (jR a) i<Kk (jR a) j)))) Q a):wpS (aB prog w) A E s (ltAt' i j >>= f) Q a:=jO (IM d c e g h)
def HH{d:Type}{a:jS}{i j:Nat}{x y:d}{f:jM->StateT jS Sem d}{Q:d->jS->Prop}(g:TB a₀ p₀ a)(e:Wj a₀)(k:i<a₀.size)(l:j<a₀.size)(q:Q (if Kk (jR a) i<Kk (jR a) j then x else y) a)(h:∀ b,f (some b)=if b=true then pure x else pure y:=by exact λ_=>rfl):wpS (aB prog w) A E s (ltAt' i j >>= f) Q a:=by
 refine JJ g e k l ?_;rw[h];refine Os (λc=>?_) λc=>?_
 ·rw[aO c] at q;exact jQ q
 ·rw[aM c] at q;exact jQ q
structure Ke(a₀:js)(p₀:jK)(st st2:jS):Prop where
 tb:TB a₀ p₀ st2
 eq:∀ k,Kk (jR st2) k=Kk (jR st) k
inductive JE{γ:Type}(a₀:js)(p₀:jK)(xs:js)(lo n:Nat):Option γ×Unit->jS->Prop
 |mk{z:jS}:TB a₀ p₀ z->Fr xs (jR z) lo->XV (jR z) lo n->JE a₀ p₀ xs lo n (none,()) z
def Ah{o:jS}{a n u:Nat}{Q:Bool->jS->Prop}(J:Wj a₀)(V:a+n<=a₀.size)(M:u<=n)(K:TB a₀ p₀ o)(N:XV (jR o) a u)(h:∀ d,TB a₀ p₀ d->Fr (jR o) (jR d) a->XV (jR d) a n->Q true d):wpS (aB prog w) A E s (binarySort' a n u) Q o:=by
 refine Pg (λk=>JE a₀ p₀ (jR o) a (min k n)) (JE a₀ p₀ (jR o) a n) ⟨K,λ_ _=>rfl,λi j e m=>?_⟩ ?_ ?_ ?_
 rotate_left
 ·rintro k _ z W X ⟨g,q,b⟩;let I:min k n=k:=∅
  rw[I] at b;let C:a+k<(jR z).size:=by rw[g.size];lia
  refine jO (Km (B:=λi=>!decide (Kk (jR z) (a+k)<Kk (jR z) (a+i))) (zN _) (zY k) (λi c=>absurd c (xT _)) (λi e m=>by lia) (λi j e m H=>?_) (λx l r T U F G=>?_) λt Y O P=>?_)
  ·have:=b i j e m;simp at H⊢
   lia
  ·dsimp only;refine Va (λc=>?_) λc=>?_
   ·exact jQ (F c)
   refine jO (IM g J ∅ ∅ ?_)
   let y:=G ((l+r) / 2) ∅ ∅
   cases L:decide (Kk (jR z) (a+k)<Kk (jR z) (a+(l+r) / 2)) <;> rw[L] at y
   ·exact jQ y
   ·exact jQ y
  ·refine jO (show wpS (aB prog w) A E s (moveDown' (a+k) (a+t)) _ z from ?_);rw[moveDown'_eq];refine wpS_modify (jQ ⟨g.setArr (bubble_perm _ _ _),λi c=>?_,?_⟩)
   ·show Kk (bubble (jR z) (a+k) (a+k-(a+t))) i=_;rw[Gr C ∅,aM ∅,aM ∅]
    exact q i c
   rw[show min (k+1) n=k.succ by lia]
   let D:∀ i,i<=k->Kk (bubble (jR z) (a+k) (a+k-(a+t))) (a+i)=if i<t then Kk (jR z) (a+i) else if i=t then Kk (jR z) (a+k) else Kk (jR z) (a+(i-1)):=λi c=>by
    rw[Gr C ∅]
    by_cases p:i<t
    ·rw[aO p,aM ∅,aM ∅]
    rw[aM p];by_cases f:i=t
    ·rw[aO f,aO ∅]
    ·rw[aM f,aM ∅,aO ∅,show a+i-1=a+(i-1) by lia]
   let R:∀ i,i<t->Kk (jR z) (a+i)<=Kk (jR z) (a+k):=λi c=>by
    have:=O i c;simp at this
    lia
   let S:∀ i,t<=i->i<k->Kk (jR z) (a+k)<=Kk (jR z) (a+i):=λi e m=>by
    have:=P i e m;simp at this
    lia
   intro i j e m;show Kk (bubble (jR z) (a+k) (a+k-(a+t))) (a+i)<=Kk (bubble (jR z) (a+k) (a+k-(a+t))) (a+j);rw[D i ∅,D j ∅]
   by_cases p:i<t
   ·rw[aO p];by_cases f:j<t
    ·rw[aO f];exact b i j e ∅
    rw[aM f];by_cases v:j=t
    ·rw[aO v];exact R i p
    ·rw[aM v];exact b i (j-1) ∅ ∅
   rw[aM p,aM (by lia:¬j<t)]
   by_cases f:i=t
   ·rw[aO f];by_cases v:j=t
    ·rw[aO v];exact xR _
    ·rw[aM v];exact S (j-1) ∅ ∅
   ·rw[aM f,aM ∅]
    exact b (i-1) (j-1) ∅ ∅
 ·rintro _ z ⟨g,q,b⟩;rw[show min (max (max u 1) n) n=n by lia] at b
  exact⟨g,q,b⟩
 ·rintro _ z ⟨g,q,b⟩;exact jQ (h z g q b)
 ·by_cases z:u=0
  ·rw[show i=j by lia]
   exact xR _
  ·exact N i j e ∅
def XV.snoc{b:js}{a x:Nat}(h:XV b a x)(c:1<=x->Kk b (a+x-1)<=Kk b (a+x)):XV b a (x+1):=λi j d g=>by
 by_cases e:j<x
 ·exact h i j d e
 by_cases f:i=j
 ·rw[f];exact xR _
 ·have:=h i (x-1) ∅ ∅
  rw[show j=x by lia]
  rw[show a+(x-1)=a+x-1 by lia] at this
  exact wO this (c ∅)
def Vq.snoc{b:js}{a x:Nat}(h:Vq b a x)(c:1<=x->Kk b (a+x)<=Kk b (a+x-1)):Vq b a (x+1):=λi j d g=>by
 by_cases e:j<x
 ·exact h i j d e
 by_cases f:i=j
 ·rw[f];exact xR _
 ·have:=h i (x-1) ∅ ∅
  rw[show j=x by lia]
  rw[show a+(x-1)=a+x-1 by lia] at this
  exact wO (c ∅) this
def Fg{f:Nat->Option (jw)×Nat->StateT jS Sem (ForInStep (Option (jw)×Nat))}{lo a b:Nat}{d:jS}{Q:Option (jw)×Nat->jS->Prop}(p:1<=a)(j:a<=b)(o:XV (jR d) lo a)(m:∀ x n (i:ForInStep (Option (jw)×Nat)->jS->Prop),1<=n->n<b->i (if Kk (jR d) (lo+n)<Kk (jR d) (lo+n-1) then .done (none,n) else .yield (none,n+1)) d->wpS (aB prog w) A E s (f x (none,n)) i d)(h:∀ n,a<=n->n<=b->XV (jR d) lo n->(n=b\/Kk (jR d) (lo+n)<Kk (jR d) (lo+n-1))->Q (none,n) d):wpS (aB prog w) A E s (forIn [a:b] (none,a) f) Q d:=by
 refine jU (I:=λx c e=>e=d/\c=(none,x)/\XV (jR d) lo x) ?_ ?_ ⟨Z,Z,o⟩
 ·rintro x c e k l ⟨rfl,rfl,g⟩;refine m x x _ ∅ l ?_
  by_cases c:Kk (jR e) (lo+x)<Kk (jR e) (lo+x-1)
  ·rw[aO c];exact h x k ∅ g (.inr c)
  ·rw[aM c];exact⟨Z,Z,g.snoc λ_=>uB.mp c⟩
 ·rintro c e ⟨rfl,rfl,g⟩;rw[show max a b=b by lia] at g⊢
  exact h b j (zY _) g (.inl rfl)
structure Lg(a₀:js)(p₀:jK)(xs:js)(lo x neq:Nat)(st':jS):Prop where
 tb:TB a₀ p₀ st'
 fr:Fr xs (jR st') lo
 sg:Vq (jR st') lo x
 le:neq+1<=x
 eq:∀ i,x-(neq+1)<=i->i<x->Kk (jR st') (lo+i)=Kk (jR st') (lo+x-1)
inductive Ek{γ:Type}(a₀:js)(p₀:jK)(xs:js)(lo x:Nat):Option γ×Nat×Nat->jS->Prop
 |mk{neq:Nat}{st':jS}:Lg a₀ p₀ xs lo x neq st'->Ek a₀ p₀ xs lo x (none,x,neq) st'
inductive FI{γ:Type}(a₀:js)(p₀:jK)(xs:js)(lo n nrem:Nat):Option γ×Nat×Nat->jS->Prop
 |mk{x neq:Nat}{st':jS}:n+1<=x->x<=nrem->Lg a₀ p₀ xs lo x neq st'->FI a₀ p₀ xs lo n nrem (none,x,neq) st'
def Lg.mq{a₀:js}{p₀:jK}{e:js}{a x b:Nat}{c:jS}(h:Lg a₀ p₀ e a x b c)(d:a+x<=a₀.size)(k:Nat):Kk (mirror (jR c) (a+x-(b+1)) (a+x) ((a+x-(a+x-(b+1))) / 2)) k=Kk (jR c) k:=G4 (by rw[h.tb.size];exact d) (λk f g=>by
 have:=h.le;have:=h.eq (k-a) ∅ ∅
 rwa [show a+(k-a)=k by lia] at this) k
def ZIP{l:jS}{a f:Nat}{Q:jw->jS->Prop}(C:Wj a₀)(hn:a+f<=a₀.size)(Y:1<=f)(v:TB a₀ p₀ l)(h:∀ m d,TB a₀ p₀ d->Fr (jR l) (jR d) a->1<=m->m<=f->XV (jR d) a m->Q (some m) d):wpS (aB prog w) A E s (countRun' a f) Q l:=by
 refine jO (Fg (lo:=a) (zY 1) Y (λi j _ _=>by rw[show i=j by lia];exact xR _) (λx n X F G q=>HH v C ∅ ∅ q) λn F G I n4=>?_)
 dsimp only;refine Wd (λnn=>?_) λnn=>?_
 ·exact jQ (h n l v (λ_ _=>rfl) F G I)
 let D:Kk (jR l) (a+n)<Kk (jR l) (a+n-1):=n4.resolve_left nn;refine IX (λd=>TB a₀ p₀ d/\Fr (jR l) (jR d) a/\Vq (jR d) a (n+1)) (λa2 H=>?_) (λc=>?_) (λc r=>?_)
 ·let⟨K,M,L⟩:=H;refine NI ?_;refine Pg (Ek a₀ p₀ (jR l) a) (FI a₀ p₀ (jR l) a n f) ⟨K,M,L,(by lia:0+1<=n+1),λi t u=>by congr 1;lia⟩ ?step ?fin ?post
  case fin=>
   rintro _ d ⟨b⟩;rw[show max (n+1) f=f by lia] at b⊢
   exact⟨∅,∅,b⟩
  case step=>
   rintro x _ d a0 a1 (@⟨R,_,b⟩);dsimp only;refine JJ b.tb C ∅ ∅ (Os (λp=>?_) λp=>JJ b.tb C ∅ ∅ (Os (λU=>jQ ⟨∅,∅,b⟩) λU=>jQ ⟨b.tb,b.fr,?_,?_,λi t u=>?_⟩))
   ·refine IX (λg=>Ke a₀ p₀ d g) (λg H=>?_) (λc=>⟨b.tb,λ_=>rfl⟩) (λc r=>?_)
    ·refine jQ ⟨H.1,λi c=>(H.2 i).trans (b.fr i c),Vq.snoc (λi j t u=>?_) λ_=>?_,(by lia:0+1<=x+1),λi t u=>by congr 1;lia⟩
     all_goals rw[H.2,H.2]
     ·exact b.sg i j t u
     ·exact wL p
    ·exact jO (wpS_reverse (r _ ⟨b.tb.setArr (mirror_perm _ _ _ _),b.mq ∅⟩))
   ·exact b.sg.snoc λ_=>uB.mp U
   ·exact tS b.le
   ·rw[show a+(x+1)-1=a+x by lia]
    by_cases z:i=x
    ·rw[z]
    ·let he:Kk (jR d) (a+x)=Kk (jR d) (a+x-1):=∅
     rw[he];exact b.eq i ∅ ∅
  case post=>
   rintro _ d (@⟨x,R,_,x1,x2,b⟩);dsimp only;refine IX (λg=>Ke a₀ p₀ d g) (λg H=>?_) (λc=>⟨b.tb,λ_=>rfl⟩) (λc r=>jO (wpS_reverse (r _ ⟨b.tb.setArr (mirror_perm _ _ _ _),b.mq ∅⟩)))
   refine jO (wpS_reverse (?_));let O:a+x<=(jR g).size:=by rw[H.1.size];lia
   generalize T:jX g (mirror (jR g) a (a+x) ((a+x-a) / 2))=B;let S:TB a₀ p₀ B:=by
    rw[<-T];exact H.1.setArr (mirror_perm _ _ _ _)
   let J:∀ k,Kk (jR B) k=if a<=k/\k<a+x then Kk (jR d) (a+(a+x)-1-k) else Kk (jR d) k:=λk=>by
    rw[<-T];show Kk (mirror (jR g) a (a+x) ((a+x-a) / 2)) k=_;rw[HU O,H.2,H.2]
   refine jO (Fg (lo:=a) ∅ x2 (λi j c3 c4=>?_) (λy m X F G q=>HH S C ∅ ∅ q) λm m1 m2 m3 m4=>jQ (h m B S (λi c=>?_) ∅ m2 m3))
   ·rw[J,J,aO ∅,aO ∅]
    have:=b.sg (x-1-j) (x-1-i) ∅ ∅
    rwa [show a+(x-1-j)=a+(a+x)-1-(a+j) by lia,show a+(x-1-i)=a+(a+x)-1-(a+i) by lia] at this
   ·rw[J,aM ∅]
    exact b.fr i c
 ·let e:n=1:=∅
  subst e;refine⟨v,λ_ _=>rfl,Vq.snoc (λi j t u=>?_) λ_=>wL D⟩;rw[show i=j by lia]
  exact xR _
 ·refine jO (IM v C ∅ ∅ ?_)
  dsimp only;refine Os (λhr=>?_) λhr=>?_
  ·exact jQ (h n l v (λ_ _=>rfl) F G I)
  let N:a+n<=(jR l).size:=by rw[v.size];lia
  let o:∀ k,a<=k->k<a+n->Kk (jR l) k=Kk (jR l) (a+n-1):=λk t u=>by
   let V:=I 0 (k-a) ∅ ∅
   let W:=I (k-a) (n-1) ∅ ∅
   rw[show a+(k-a)=k by lia] at V W
   rw[show a+(n-1)=a+n-1 by lia] at W
   rw[vK] at V
   lia
  let P:∀ k,Kk (mirror (jR l) a (a+n) ((a+n-a) / 2)) k=Kk (jR l) k:=G4 N o;refine jO (wpS_reverse (r _ ⟨v.setArr (mirror_perm _ _ _ _),λi _=>P i,λi j t u=>?_⟩));show Kk (mirror (jR l) a (a+n) ((a+n-a) / 2)) _<=Kk (mirror (jR l) a (a+n) ((a+n-a) / 2)) _;rw[P,P];refine Vq.snoc (x:=n) (λi j t u=>?_) (λ_=>wL D) i j t u;rw[o (a+j) ∅ ∅,o (a+i) ∅ ∅]
  exact xR _
end
def Hj{o:Nat}:∀(l:jA)(d:Nat)(c:js)(P M R:jA),c.toList=P++(M++R)->P.length=o+d->M.length=l.length->((l.zipIdx d).foldl (λa x=>a.setIfInBounds (o+x.2) x.1) c).toList=P++(l++R)
 | [],d,c,P,M,R,e,g,f=>by
  rw[List.zipIdx_nil,List.foldl_nil,e,uD f]
 | p::l,d,c,P,M,R,e,g,f=>by
  obtain⟨m,b,rfl⟩:∃ m b,M=m::b:=by
   cases M with
   | nil=>cases f
   | cons m b=>exact⟨m,b,Z⟩
  rw[List.zipIdx_cons,List.foldl_cons];have:=Hj (o:=o) l (d+1) (c.setIfInBounds (o+d) p) (P++[p]) b R (by
   rw[qE,e,<-g];simp) (by rw[zT];simp;lia) (by simpa using f)
  rw[this];simp
def wr(b:js)(o:Nat)(l:jA):js:=l.zipIdx.foldl (λa x=>a.setIfInBounds (o+x.2) x.1) b
def Ca{xs r:js}{o n:Nat}(g:o+n<=xs.size)(b:r.toList.Perm ((xs.toList.drop o).take n)):(wr xs o r.toList).Perm xs/\(∀ i,i<o\/o+n<=i->Kk (wr xs o r.toList) i=Kk xs i)/\∀ i,i<n->Kk (wr xs o r.toList) (o+i)=Kk r i:=by
 let f:r.toList.length=n:=by
  rw[b.length_eq,yF,wR,yM]
  lia
 let d:xs.toList=xs.toList.take o++((xs.toList.drop o).take n++xs.toList.drop (o+n)):=by
  rw[<-vI,xQ,xQ]
 let c:(xs.toList.take o).length=o:=by
  rw[yF,yM]
  lia
 let a:(wr xs o r.toList).toList=xs.toList.take o++(r.toList++xs.toList.drop (o+n)):=Hj r.toList 0 xs _ _ _ d c (by rw[<-b.length_eq])
 refine⟨qX.mpr ?_,λi e=>KF ?_,λi e=>KF ?_⟩
 ·rw[a]
  conv=>rhs;rw[d]
  exact(vM.refl _).append (b.append (vM.refl _))
 ·rw[<-yQ,<-yQ,a];rcases e with z | z
  ·rw[xN ∅,rD z]
  ·rw[yE ∅,yE ∅,rZ,c,f]
   congr 1
   lia
 ·rw[<-yQ,<-yQ,a,yE ∅,xN ∅,c]
  congr 1
  lia
def O9{a:js}{o n i:Nat}(b:i<n):Kk (a.extract o (o+n)) i=Kk a (o+i):=KF (by
 rw[<-yQ,Om,rD b,rZ,yQ])
def Nt{a:js}(h:Qn a a.size):a.toList.Pairwise X2:=sW.mpr λi j c b d=>by
 have:=h i j ∅ (by simpa using b)
 unfold X2;rw[NG (i:=i) (p:=a.toList[i]) (by rw[<-yQ];exact zV c),NG (i:=j) (p:=a.toList[j]) (by rw[<-yQ];exact zV b)] at this
 exact this
def ZQA{a:js}(h:a.toList.Pairwise X2):Qn a a.size:=λi j e f=>by
 let d:j<a.toList.length:=by simpa using f
 let b:i<a.toList.length:=∅
 rw[NG (i:=i) (p:=a.toList[i]) (by rw[<-yQ];exact zV b),NG (i:=j) (p:=a.toList[j]) (by rw[<-yQ];exact zV d)]
 by_cases c:i=j
 ·subst c;exact xR _
 ·exact sW.mp h i j b d ∅
def AS(a:js)(c b:Nat):Prop:=∀ i j,c<=i->i<=j->j<b->Kk a i<=Kk a j
def XV.abs{d:js}{a n:Nat}(h:XV d a n):AS d a (a+n):=λi j b c e=>by
 let⟨f,rfl⟩:=wC b;let⟨g,rfl⟩:=wC (zS b c);exact h f g (qZ c) (qY e)
def AS.seg{b:js}{a n:Nat}(h:AS b a (a+n)):XV b a n:=λi j c d=>h _ _ (wD _ _) (rX c _) (Nat.add_lt_add_left d _)
def AS.two{a:js}{c m b:Nat}(h:AS a c m)(g:AS a m b)(f:∀ i j,c<=i->i<m->m<=j->j<b->Kk a i<=Kk a j):AS a c b:=λi j d e k=>by
 by_cases l:j<m
 ·exact h i j d e l
 by_cases n:i<m
 ·exact f i j d n (wY l) k
 ·exact g i j (wY n) e k
def AS.ext{b:js}{e d o n:Nat}(h:AS b e d)(f:e<=o)(g:o+n<=d)(z:(b.extract o (o+n)).size=n):Qn (b.extract o (o+n)) (b.extract o (o+n)).size:=λi j c a=>by
 rw[z] at a;rw[O9 (xG c a),O9 a];exact h _ _ (zS f (wD _ _)) (rX c _) (yY (Nat.add_lt_add_left a _) g)
def AS.put{d ys:js}{h o m e g:Nat}(t:AS d h m)(v:AS d m g)(A:h<=o)(r:m<=e)(l:o<=m)(y:e<=g)(s:∀ i j,h<=i->i<o->m<=j->j<g->Kk d i<=Kk d j)(B:∀ i j,h<=i->i<m->e<=j->j<g->Kk d i<=Kk d j)(f:∀ j,j<o\/e<=j->Kk ys j=Kk d j)(C:AS ys o e)(w:∀ j,o<=j->j<e->∃ u,o<=u/\u<e/\Kk ys j=Kk d u):AS ys h g:=by
 refine AS.two (m:=o) (λi j b a c=>?_) (AS.two C (λi j b a c=>?_) λi j b a c k=>?_) λi j b a c k=>?_
 ·rw[f i (.inl (xG a c)),f j (.inl c)];exact t i j b a (yY c l)
 ·rw[f i (.inr b),f j (.inr (zS b a))];exact v i j (zS r b) a c
 ·let⟨u,n,p,q⟩:=w i b a;rw[q,f j (.inr c)];by_cases z:u<m
  ·exact B u j (zS A n) z c k
  ·exact v u j (wY z) (yK (yY p c)) k
 ·rw[f i (.inl a)];by_cases z:j<e
  ·let⟨u,n,p,q⟩:=w j c z;rw[q];by_cases x:u<m
   ·exact t i u b (yK (yY a n)) x
   ·exact s i u b a (wY x) (yY p y)
  ·rw[f j (.inr (wY z))];exact s i j b a (zS r (wY z)) k
section
variable[KoOk prog w A s]{a₀:js}{p₀:jK}
def ZN2{b x:jS}{Q:PUnit->jS->Prop}(h:∀ a,a=x->Q ⟨⟩ a):wpS (aB prog w) A E s (set x:StateT jS Sem PUnit) Q b:=by
 unfold wpS;rw[StateT.run_set];exact ad ⟨Z,h _ Z⟩
def BK{K:jS}{i b d V m a1:Nat}{Q:Bool->jS->Prop}(h0:Wj a₀)(M:TB a₀ p₀ K)(e1:p₀[i]? = some (b,d,V))(e2:p₀[i+1]? = some (b+d,m,a1))(a2:1<=d)(a3:1<=m)(hn:b+d+m<=a₀.size)(W:XV (jR K) b d)(s2:XV (jR K) (b+d) m)(h:∀ g,TB a₀ ((p₀.setIfInBounds i (b,d+m,V)).eraseIdxIfInBounds (i+1)) g->(∀ j,j<b\/b+d+m<=j->Kk (jR g) j=Kk (jR K) j)->XV (jR g) b (d+m)->Q true g):wpS (aB prog w) A E s (mergeAt' i) Q K:=by
 let⟨kd,a,pd,gl,R⟩:=K
 replace W:XV a b d:=W
 replace s2:XV a (b+d) m:=s2
 let J:a.Perm a₀:=M.perm;let ep:pd=p₀:=M.pend;let ek:kd=U4:=M.kind;let P:R=none:=M.failed
 replace h:∀ g,TB a₀ ((p₀.setIfInBounds i (b,d+m,V)).eraseIdxIfInBounds (i+1)) g->(∀ j,j<b\/b+d+m<=j->Kk (jR g) j=Kk a j)->XV (jR g) b (d+m)->Q true g:=h
 subst ep;refine J8 ?_;dsimp only;rw[e1,e2];dsimp only;refine jO (ZN2 λB G=>?_);let l:TB a₀ ((pd.setIfInBounds i (b,d+m,V)).eraseIdxIfInBounds (i+1)) B:=by
  rw[G];exact⟨J,ek,P,Z⟩
 let ea:jR B=a:=by rw[G]
 clear G;let hz:a.size=a₀.size:=J.size_eq;let N:Wj a:=M.ints h0;let H:=W.abs;let D:=s2.abs;refine U6 N ∅ λq eq iq kq=>jO (KJ l.kind iq N ∅ ∅ (K8 W) λk k1 k2 k3=>?_)
 dsimp only
 replace k2:∀ i,b<=i->i<b+k->Kk a i<=kv q:=λi T h2=>by
  let⟨i,rfl⟩:=wC T;exact U2.1.mp (k2 i (qY h2))
 replace k3:kv q<Kk a (b+k)\/k=d:=by
  by_cases z:k<d
  ·exact .inl (U2.2.mp (k3 k (zY _) z))
  ·exact .inr ∅
 let q0:∀ j,b+d<=j->j<b+d+m->kv q<=Kk a j:=λj v c=>by
  rw[<-kq];exact D _ j (zY _) v c
 let O:∀ i j,b<=i->i<b+k->b+d<=j->j<b+d+m->Kk a i<=Kk a j:=λi j v y F I=>wO (k2 i v y) (q0 j F I);let x:(∀ i j,b<=i->i<b+d->b+d<=j->j<b+d+m->Kk a i<=Kk a j)->Q true B:=λf=>h B l (λj _=>by rw[ea]) (by
  rw[ea];exact AS.seg (by rw[<-vJ];exact H.two D f))
 refine Wd (λy=>jQ (x (by rw[show k=d by lia] at O;exact O))) λy=>?_
 obtain⟨n,a0⟩:∃ n,d=k+n:=wC k1;subst a0;rw[vP] at y⊢;rw[<-vJ] at H D O x hn q0 kq⊢;generalize ho:b+k=o at *;refine U6 N ∅ λp ep ip kp=>jO (KJ l.kind ip N ∅ ∅ (K8 (AS.seg D)) λt t1 t2 t3=>?_)
 dsimp only
 replace t2:t=0\/Kk a (o+n+(t-1))<kv p:=by
  by_cases z:t=0
  ·exact .inl z
  ·exact .inr (Uq.1.mp (t2 (t-1) ∅))
 replace t3:∀ i,o+n+t<=i->i<o+n+m->kv p<=Kk a i:=λi T h2=>by
  let⟨i,rfl⟩:=wC (zS (wD _ t) T);exact Uq.2.mp (t3 i (qZ T) (qY h2))
 let T3:∀ i j,b<=i->i<o+n->o+n+t<=j->j<o+n+m->Kk a i<=Kk a j:=λi j v y F I=>by
  refine wO (H i (o+n-1) v ∅ ∅) ?_
  rw[kp];exact t3 j F I
 refine Wd (λF=>jQ (x λi j v y I c4=>T3 i j v y ∅ c4)) λF=>?_
 let zx:(a.extract o (o+n)).size=n:=by rw[Array.size_extract,sQ ∅];exact vP ..
 let zy:(a.extract (o+n) (o+n+t)).size=t:=by rw[Array.size_extract,sQ ∅];exact vP ..
 let U:∀{o n:Nat},Wj (a.extract o (o+n)):=λp J=>N p (by rw[Om] at J;exact rR (rQ J))
 let X:=H.ext (o:=o) (n:=n) ∅ (zY _) zx
 let Y:=D.ext (o:=o+n) (n:=t) (zY _) ∅ zy
 let f0:∀ i,i<(a.extract o (o+n)).size->Kk (a.extract (o+n) (o+n+t)) 0<=Kk (a.extract o (o+n)) i:=λi c=>by
  rw[zx] at c;rw[O9 ∅,O9 c,vK,kq]
  refine wO (wL (k3.resolve_right ∅)) (H o (o+i) ∅ ∅ ∅)
 let R:∀ j,j<(a.extract (o+n) (o+n+t)).size->Kk (a.extract (o+n) (o+n+t)) j<=Kk (a.extract o (o+n)) ((a.extract o (o+n)).size-1):=λj c=>by
  rw[zy] at c;rw[O9 c,zx,O9 ∅,<-Nat.add_sub_assoc ∅,kp]
  exact wO (D (o+n+j) (o+n+(t-1)) ∅ ∅ ∅) (wL (t2.resolve_left F))
 let L:∀ r e,Sm B e->WY ((a.extract o (o+n)).toList++(a.extract (o+n) (o+n+t)).toList) r->Q (failedOf (jX e (wr (jR e) o r.toList))).isNone (jX e (wr (jR e) o r.toList)):=λr e C gd=>by
  let⟨S,g2⟩:=gd;let el:(a.extract o (o+n)).toList++(a.extract (o+n) (o+n+t)).toList=(a.toList.drop o).take (n+t):=by
   rw[Om,Om,List.take_add,vI]
  rw[el] at S;let⟨w1,w2,w3⟩:=Ca (xs:=a) (o:=o) (n:=n+t) ∅ S
  let ez:jR e=a:=C.arr.trans ea;rw[ez];let zr:r.size=n+t:=by
   rw[<-yM,S.length_eq,yF,wR,yM]
   lia
  let sr:=ZQA g2;rw[zr] at sr;let P:failedOf (jX e (wr a o r.toList))=none:=C.failed.trans l.failed;rw[P];refine h _ ⟨w1.trans J,C.kind.trans l.kind,P,C.pend.trans l.pend⟩ (λj hj=>w2 j ∅) (AS.seg ?_)
  rw[<-vJ,<-vJ,ho];rw[<-vJ] at w2;refine AS.put (ys:=wr a o r.toList) H D ∅ (wD _ t) (wD _ n) ∅ O T3 w2 (λi j v y F=>?_) λj v y=>?_
  ·let⟨i,rfl⟩:=wC v;let⟨j,rfl⟩:=wC (zS v y);rw[w3 i ∅,w3 j ∅]
   exact sr _ _ (qZ y) ∅
  ·let⟨i,rfl⟩:=wC v;rw[w3 i ∅]
   let hm:r.toList[i]'(by rw[yM];lia)∈(a.toList.drop o).take (n+t):=S.mem_iff.mp (xY _)
   let⟨u,u1,u2,_,u3⟩:=OT hm;exists u,u1,by lia
   rw[<-u3];exact NG (by rw[<-yQ];exact zV _)
 refine Va (λI=>?_) λI=>?_
 ·exact jO (ZGc l.kind U U ∅ ∅ X Y f0 R (Nt X) (Nt Y) λr e C gd=>jO (wpS_modify (jO (wpS_get (jQ (L r e C gd))))))
 ·exact jO (D4 l.kind U U ∅ ∅ X Y f0 R (Nt X) (Nt Y) λr e C gd=>jO (wpS_modify (jO (wpS_get (jQ (L r e C gd))))))
end
abbrev Rs:=List (Nat×Nat×Nat)
def Rn(b:js):Rs->Nat->Nat->Prop
 | [],a,c=>a=c
 | r::l,a,c=>r.1=a/\1<=r.2.1/\XV b r.1 r.2.1/\Rn b l (r.1+r.2.1) c
def Rn.le{b:js}:∀{l:Rs}{a c:Nat},Rn b l a c->a+l.length<=c
 | [],a,c,h=>by cases h;simp
 | r::l,a,c,⟨h1,h2,_,h4⟩=>by
  have:=h4.le;simp only[yV]
  lia
def Rn.app{f:js}:∀{l m:Rs}{a c:Nat},Rn f (l++m) a c ↔ ∃ b,Rn f l a b/\Rn f m b c
 | [],m,a,c=>⟨λh=>⟨a,Z,h⟩,λ⟨b,d,e⟩=>by cases d;exact e⟩
 | r::l,m,a,c=>by
  show (r.1=a/\1<=r.2.1/\XV f r.1 r.2.1/\Rn f (l++m) (r.1+r.2.1) c) ↔ _;rw[Rn.app];exact⟨λ⟨d,e,g,b,i,j⟩=>⟨b,⟨d,e,g,i⟩,j⟩,λ⟨b,⟨d,e,g,i⟩,j⟩=>⟨d,e,g,b,i,j⟩⟩
def XV.frame{a b:js}{o n:Nat}(h:XV a o n)(e:∀ j,o<=j->j<o+n->Kk b j=Kk a j):XV b o n:=λi j c d=>by
 rw[e _ ∅ ∅,e _ ∅ ∅]
 exact h i j c d
def Rn.frame{d f:js}:∀{l:Rs}{a c:Nat},Rn d l a c->(∀ j,a<=j->j<c->Kk f j=Kk d j)->Rn f l a c
 | [],a,c,h,_=>h
 | r::l,a,c,⟨h1,h2,h3,h4⟩,e=>by
  have:=h4.le;exact⟨h1,h2,h3.frame λj g b=>e j ∅ ∅,h4.frame λj g b=>e j ∅ b⟩
def Rn.mod{d:js}{f:Nat×Nat×Nat->Nat×Nat×Nat}(b:∀ r,(f r).1=r.1/\(f r).2.1=r.2.1):∀{l:Rs}{i a c:Nat},Rn d l a c->Rn d (l.modify i f) a c
 | [],i,a,c,h=>by simpa using h
 | r::l,0,a,c,⟨h1,h2,h3,h4⟩=>by
  rw[List.modify_zero_cons];exact⟨(b r).1.trans h1,by rw[(b r).2];exact h2,by rw[(b r).1,(b r).2];exact h3,by rw[(b r).1,(b r).2];exact h4⟩
 | r::l,i+1,a,c,⟨h1,h2,h3,h4⟩=>by
  rw[List.modify_succ_cons];exact⟨h1,h2,h3,h4.mod b⟩
structure RS(a₀:js)(lo:Nat)(st:jS):Prop where
 tb:TB a₀ (jT st) st
 rn:Rn (jR st) (jT st).toList 0 lo
 le:lo<=a₀.size
section
variable[KoOk prog w A s]{a₀:js}
def HD{d:jS}{i g:Nat}{Q:Bool->jS->Prop}(K:Wj a₀)(r:RS a₀ g d)(L:i+1<(jT d).size)(h:∀ a,RS a₀ g a->(jT a).size+1=(jT d).size->(∀ j,g<=j->Kk (jR a) j=Kk (jR d) j)->Q true a):wpS (aB prog w) A E s (mergeAt' i) Q d:=by
 let M:(jT d).toList.length=(jT d).size:=yM;generalize x:jT d=p at L M h;let e:p.toList=p.toList.take i++p.toList[i]'∅::p.toList[i+1]'∅::p.toList.drop (i+2):=by
  rw[pR,pR,xQ]
 let H:Rn (jR d) p.toList 0 g:=by rw[<-x];exact r.rn
 let t:p[i]? = some (p.toList[i]'∅):=by rw[<-yQ];exact zV _
 let u:p[i+1]? = some (p.toList[i+1]'∅):=by rw[<-yQ];exact zV _
 generalize p.toList[i]'∅=U at e t
 generalize p.toList[i+1]'∅=V at e u
 let y:(p.toList.take i).length=i:=by rw[yF];lia
 generalize p.toList.take i=P at e y;generalize p.toList.drop (i+2)=R at e;rw[e] at H;let⟨b,O,S⟩:=Rn.app.mp H;let⟨q,k,o⟩:=U;let⟨sb,l,T⟩:=V;let⟨z,B,C,D,F,G,n⟩:=S;dsimp only at z B C D F G n;subst D;let l7:=n.le;let N:=r.le;let I:=r.tb;rw[x] at I;refine BK K I t u B F ∅ C G λa f m W=>?_
 let J:((p.setIfInBounds i (q,k+l,o)).eraseIdxIfInBounds (i+1)).toList=P++(q,k+l,o)::R:=by
  rw[Array.toList_eraseIdxIfInBounds,qE,e,<-y];simp[List.eraseIdx_append_of_length_le]
 let v:(jT a).toList=P++(q,k+l,o)::R:=by rw[f.pend];exact J
 refine h a ⟨?_,?_,r.le⟩ ?_ λj c=>m j (.inr ∅)
 ·rw[f.pend];exact f
 ·rw[v];refine Rn.app.mpr ⟨b,O.frame λj _ c=>m j (.inl ∅),z,(by show 1<=k+l;lia),W,?_⟩
  dsimp only;rw[<-vJ];exact n.frame λj c _=>m j (.inr c)
 ·let X:=congrArg wV v;let Y:=congrArg wV e;simp at X Y
  lia
def CI{c:Prop}{_:Decidable c}{n:Nat}(h:2<=n):(if c then n-2-1 else n-2)+1<n:=by split <;> lia
def ZOe{n:Nat}(h:n > 1):n-2+1<n:=∅
def AE{f b:Type}{c:b->Prop}{_:∀ n,Decidable (c n)}{x J:b->StateT jS Sem f}{Q:f->jS->Prop}{a:jS}{d:b->Prop}(P:b->jS->Prop)(k:∀ n a,P n a->wpS (aB prog w) A E s (J n) Q a)(g:∀ n,¬c n->d n->P n a)(i:∀ n,c n->(∀ n a,P n a->wpS (aB prog w) A E s (J n) Q a)->d n->wpS (aB prog w) A E s (x n) Q a)(n:b)(e:d n):wpS (aB prog w) A E s (if c n then x n else J n) Q a:=by
 refine Va (λh=>?_) λh=>?_
 ·exact i n h k e
 ·exact k n a (g n h e)
def RS.push{b:jS}{a n:Nat}(r:RS a₀ a b)(h:XV (jR b) a n)(d:1<=n)(c:a+n<=a₀.size):RS a₀ (a+n) (setPending b ((jT b).push (a,n,0))):=by
 refine⟨⟨r.tb.perm,r.tb.kind,r.tb.failed,Z⟩,?_,c⟩;show Rn (jR b) ((jT b).push (a,n,0)).toList 0 (a+n);rw[uV];exact Rn.app.mpr ⟨a,r.rn,Z,d,h,Z⟩
def RS.mod{a:jS}{b i:Nat}{f:Nat×Nat×Nat->Nat×Nat×Nat}(r:RS a₀ b a)(c:∀ r,(f r).1=r.1/\(f r).2.1=r.2.1):RS a₀ b (setPending a ((jT a).modify i f)):=by
 refine⟨⟨r.tb.perm,r.tb.kind,r.tb.failed,Z⟩,?_,r.le⟩;show Rn (jR a) ((jT a).modify i f).toList 0 b;rw[Array.toList_modify];exact r.rn.mod c
def Dx{st:jS}{Q:Unit->jS->Prop}(C:Wj a₀)(v:TB a₀ #[] st)(h1:1<=a₀.size)(h:∀ z,(jR z).Perm a₀->failedOf z=none->Qn (jR z) a₀.size->Q () z):wpS (aB prog w) A E s sortRuns' Q st:=by
 let⟨kd,X,T,gl,Y⟩:=st;let hz:X.size=a₀.size:=v.perm.size_eq;let r0:RS a₀ 0 (SortSt.mk' kd X T gl Y):=⟨⟨v.perm,v.kind,v.failed,Z⟩,by
  have:T=#[]:=v.pend;subst this;exact Z,zN _⟩
 refine jO (wpS_get ?_);dsimp only;rw[hz];generalize hm:minRun' a₀.size a₀.size 0=mr;refine jO (jV (jU (I:=λx c a=>∃ b,c=(none,b)/\RS a₀ b a/\x<=b) (Q:=λc a=>∃ b,c=(none,b)/\RS a₀ a₀.size a) ?step ?fin ⟨0,rfl,r0,zY _⟩) ?post)
 case fin=>
  rintro c a ⟨b,rfl,r,x⟩;have:=r.le;let e:b=a₀.size:=∅
  subst e;exact⟨_,Z,r⟩
 case post=>
  rintro c a ⟨b,rfl,r⟩;dsimp only;refine jO (jV (jU (I:=λx c a=>c=(none,())/\RS a₀ a₀.size a/\((jT a).size<=1\/(jT a).size+x<=a₀.size)) (Q:=λc a=>c=(none,())/\RS a₀ a₀.size a/\(jT a).size<=1) ?_ ?_ ⟨rfl,r,.inr ?_⟩) ?_)
  ·rintro x c d _ hx ⟨rfl,g,z⟩;refine jO (wpS_get ?_);refine Va (λc=>?_) λc=>?_
   ·exact jQ ⟨Z,g,c⟩
   refine jO (HD C g (CI (Nat.not_le.mp c)) λO D e3 _=>?_);rw[aM (by simp)]
   exact jQ ⟨Z,D,.inr ∅⟩
  ·rintro c d ⟨rfl,g,z⟩;exists Z,g
   lia
  ·have:=r.rn.le;rw[yM] at this
   lia
  ·rintro c d ⟨rfl,g,z⟩;dsimp only;refine jQ (h d g.tb.perm g.tb.failed ?_);let F:=g.rn;rw[<-yM] at z;generalize (jT d).toList=l at F z
   match l,F,z with
   | [],F,_=>exact absurd F (by show ¬0=a₀.size;lia)
   | [q],⟨q1,q2,q3,U⟩,_=>
    let U:q.1+q.2.1=a₀.size:=U;intro i j G c2;have:=q3 i j G ∅
    rw[q1,uI,uI] at this;exact this
 case step=>
  rintro x c a _ hx ⟨b,rfl,r,xl⟩;dsimp only;refine Va (λG=>?_) λG=>?_
  ·have:=r.le;let e:b=a₀.size:=∅
   subst e;exact jQ ⟨_,Z,r⟩
  refine jO (ZIP C ∅ ∅ r.tb λm d p J M N B=>?_)
  dsimp only;let g:RS a₀ b d:=⟨by rw[p.pend];exact p,by rw[p.pend];exact r.rn.frame λj _ c=>J j c,r.le⟩
  let H:1<=m/\m<=a₀.size-b/\XV (jR d) b m:=⟨M,N,B⟩;clear M N B
  revert H
  revert m
  refine AE (λn st=>RS a₀ b st/\XV (jR st) b n/\1<=n/\b+n<=a₀.size) (λn O H=>?_) (λm _ H=>⟨g,H.2.2,H.1,∅⟩) (λm cm L H=>?_)
  ·let⟨D,W,S,R⟩:=H;refine jO (wpS_get ?_);split
   ·rename_i V P pw _
    refine jO (jV (jU (I:=λ_ c st=>c=(none,())/\RS a₀ b st/\XV (jR st) b n) (Q:=λc st=>c=(none,())/\RS a₀ b st/\XV (jR st) b n) ?_ (λ_ _ h=>h) ⟨rfl,D,W⟩) ?_)
    ·rintro y c k _ _ ⟨rfl,u,o⟩;refine jO (wpS_get ?_);by_cases c:(jT k).size > 1
     ·rw[aO c];split
      ·split
       ·exact jQ ⟨Z,u,o⟩
       ·refine jO (HD C u (ZOe c) λa0 r5 _ k5=>?_);rw[aM (by simp)]
        exact jQ ⟨Z,r5,o.frame λj c _=>k5 j c⟩
      ·exact jQ ⟨Z,u,o⟩
     ·rw[aM c];exact jQ ⟨Z,u,o⟩
    ·rintro c k ⟨rfl,u,o⟩;dsimp only;exact jO (wpS_modify (jO (wpS_modify (jQ ⟨_,rfl,(u.mod (i:=(jT k).size-1) (f:=λx=>(x.1,x.2.1,power' a₀.size (2 * V+P) (2 * V+P+P+n) a₀.size)) λ_=>⟨Z,Z⟩).push o S R,∅⟩))))
   ·exact jO (wpS_modify (jQ ⟨_,rfl,D.push W S R,∅⟩))
  ·let⟨M,N,m3⟩:=H;refine NI ?_;refine jO (Ah C ∅ ∅ g.tb m3 λk t K o=>?_)
   rw[aM (by simp)]
   exact L _ k ⟨⟨by rw[t.pend];exact t,by rw[t.pend];exact g.rn.frame λj _ c=>K j c,g.le⟩,o,∅,∅⟩
end
end
end L2
namespace Tw
open PySem PySem.Spec L2 PyProof.Rows
structure Kg(g:KT->KT):Prop where
 plt:∀ t u,(g t).plt (g u)=t.lt u
 cmp:∀ t u,(g t).cmp (g u)=true
 shape:∃ n:Nat,∀ t,∃(k:Int)(r:jp),g t=.tup (.int k::r)/\r.length=n
def Qi(g:KT->KT)(h:aE)(t:KT)(v:ai):Prop:=ZL h (g t) v
section
variable{g:KT->KT}
def Df:∀{l m:jp}{f d:je}{i:Nat}{Q:Bool->ak->Prop},l.length=m.length->jZ s.heap l f->jZ s.heap m d->cmpL l m=true->A.units+ke l<cLine->Q (pltL l m) s->PySem.W.KatLex prog w A true false Q (f.zip d) (i+1) s
 | [],m,f,d,i,Q,c,x,y,_,_,h=>by
  rw[jZ] at x;subst x
  cases m with
  | nil=>rw[pltL] at h;exact PySem.W.kat_nil h
  | cons _ _=>simp at c
 | a::l,m,f,d,i,Q,c,x,y,hc,hu,h=>by
  cases m with
  | nil=>simp at c
  | cons b m=>
   rw[jZ] at x y;let⟨v,r,rfl,k,o⟩:=x;let⟨j,q,rfl,n,p⟩:=y;rw[ke] at hu;rw[pltL] at h;rw[cmpL] at hc;refine PySem.W.kat_cons (NC a.depth a b A v j (zY _) k n ∅ prog w _ _ ?_)
   refine PySem.W.kat_go (λe=>PySem.W.kat_yes ?_) (λe=>PySem.W.kat_no ?_)
   ·rw[e,aO rfl] at h hc;exact Df (by simpa using c) o p hc ∅ h
   ·rw[e,aM zW] at h hc;exact PySem.W.kat_one v j (Fs a.depth a b A v j (zY _) k n hc ∅ prog w _ _ h)
def Au(z:Kg g){t u:KT}{x y:ai}{Q:Bool->ak->Prop}(l:Qi g s.heap t x)(o:Qi g s.heap u y)(G:A.units+(g t).depth<cLine)(h:Q (t.lt u) s):aC (aB prog w) A (keyLt' (tuples' true) x y) Q E s:=by
 let⟨n,M⟩:=z.shape;let⟨k,r,S,la⟩:=M t;let⟨m,q,T,lc⟩:=M u;let b:=z.plt t u;let d:=z.cmp t u;unfold Qi at l o;rw[S] at b d l G;rw[T] at b d o;rw[ZL] at l o;let⟨a,Y,rfl,⟨⟨cl,dd,O,sl⟩,X,U,n1,V⟩,i⟩:=l;let⟨c,H,rfl,⟨⟨N,R,P,a0⟩,B,F,n2,v⟩,j⟩:=o;let l1:=i.length;let l2:=j.length;rw[jZ] at i j;let⟨v1,K,rfl,I,i⟩:=i;let⟨v2,L,rfl,J,j⟩:=j;rw[ZL] at I J;let⟨C,rfl⟩:=I;let⟨D,rfl⟩:=J;rw[KT.plt,pltL] at b;rw[KT.cmp,cmpL] at d;rw[KT.depth,ke] at G;refine PySem.W.kat_lt X V B v ?_;let f:decide ((Value.int k C::K).toArray.size<(Value.int m D::L).toArray.size)=false:=by
  simp only[yV] at l1 l2;simp only[zR,yV,decide_eq_false_iff_not]
  lia
 rw[f];show PySem.W.KatLex prog w A true false Q ((.int k C,.int m D)::K.zip L) 0 s;refine PySem.W.kat_cons (SeqAt.EqAt.int_int k C m D prog w _ _ ?_);refine PySem.W.kat_go (λe=>PySem.W.kat_yes ?_) (λe=>PySem.W.kat_no ?_)
 ·let p:(KT.int k).eqb (KT.int m)=true:=by rw[KT.eqb];exact e
  rw[p,aO rfl] at b d;refine Df (by rw[la,lc]) i j d ∅ ?_
  rw[b];exact h
 ·let p:(KT.int k).eqb (KT.int m)=false:=by rw[KT.eqb];exact e
  rw[p,aM zW,KT.plt] at b;refine oneLt_int ?_;rw[b];exact h
end
def Ym(g:KT->KT)(h:aE):jp->je->Prop
 | [],[]=>True
 | t::ts,v::vs=>Qi g h t v/\Ym g h ts vs
 | _,_=>False
def Ym.len{g:KT->KT}{h:aE}:∀{a:jp}{b:je},Ym g h a b->a.length=b.length
 | [],[],_=>rfl
 | _::_,_::_,x=>congrArg (· + 1) x.2.len
 | [],_::_,x=>x.elim
 | _::_,[],x=>x.elim
def Ym.get{g:KT->KT}{h:aE}:∀{c:jp}{b:je},Ym g h c b->∀ i,i<b.length->Qi g h (c.getD i (.int 0)) (b.getD i Value.none)
 | _::_,_::_,x,0,_=>x.1
 | _::_,_::_,x,i+1,a=>x.2.get i (by simpa using a)
 | [],[],_,_,a=>absurd a (by simp)
 | [],_::_,x,_,_=>x.elim
 | _::_,[],x,_,_=>x.elim
def Ym.firsts{g:KT->KT}(i:Kg g){h:aE}:∀{m:jp}{d:je},Ym g h m d->∃ b,PySem.W.KatTups h d b/\b.length=d.length/\∀ v∈b,∃ k t,v=Value.int k t
 | [],[],_=>⟨[],.nil,Z,λv c=>absurd c (by simp)⟩
 | t::m,v::d,x=>by
  let⟨b,q,s,u⟩:=Ym.firsts i x.2;let⟨_,B⟩:=i.shape;let⟨k,r,p,_⟩:=B t;let f:=x.1;unfold Qi at f;rw[p,ZL] at f;let⟨a,A,rfl,⟨o,z,w,n,y⟩,e⟩:=f;rw[jZ] at e;let⟨D,C,rfl,j,e⟩:=e;rw[ZL] at j;let⟨l,rfl⟩:=j;exists .int k l::b,.cons z w y Z q,by simp[s]
  intro v c;rcases yT.mp c with rfl | c
  ·exact⟨k,l,Z⟩
  ·exact u v c
 | [],_::_,x=>x.elim
 | _::_,[],x=>x.elim
section
variable{g:KT->KT}
def ZOm(d:Kg g){i:jp}{a:je}{Q:PyProof.Rows.SortKind->ak->Prop}(m:0<a.length)(h:Ym g s.heap i a)(e:Q (tuples' true) s):aC (aB prog w) A (keyKind' a.toArray) Q E s:=by
 let⟨j,b,l,c⟩:=h.firsts d;refine PySem.W.kat_kind (T:=.type "int") b ∅ (λv f=>?_) (by decide) e
 let⟨k,t,rfl⟩:=c v f;exact xL.of_pure Z
end
def rk(a:jp)(t:KT):Int:=((a.countP λu=>u.lt t:Nat):Int)
def Fy{c:jp}{t u:KT}(d:t∈c):decide (rk c t<rk c u)=t.lt u:=by
 unfold rk
 cases h:t.lt u with
 | true=>
  let⟨a,b,rfl⟩:=List.append_of_mem d;let m (l:jp):=qS (l:=l) (p:=λx=>x.lt t) (q:=λx=>x.lt u) λx _ z=>lt_trans' x t u z h;have:=m a;have:=m b;rw[List.countP_append,List.countP_append,List.countP_cons_of_neg (by rw[Q0];decide),List.countP_cons_of_pos (p:=λx:KT=>x.lt u) h]
  exact aK ∅
 | false=>
  have:=qS (l:=c) (p:=λx=>x.lt u) (q:=λx=>x.lt t) λx _ z=>by
   cases e:x.lt t with
   | true=>rfl
   | false=>rw[le_trans' h e] at z;cases z
  exact aJ ∅
open Classical in
noncomputable abbrev kG(g:KT->KT)(a:jp)(h:aE):Ko:=⟨tuples' true,λp=>if z:∃ t∈a,Qi g h t p.1 then rk a z.choose else 0,λp=>∃ t∈a,Qi g h t p.1⟩
def LW{g:KT->KT}(b:Kg g){a:jp}{h:aE}{t:KT}{p:jW}(d:t∈a)(c:Qi g h t p.1):(kG g a h).k1 p=rk a t:=by
 let z:∃ t∈a,Qi g h t p.1:=⟨t,d,c⟩;refine(dif_pos z).trans ?_;let e:g z.choose=g t:=Yg.mp (ZL.inj _ _ _ z.choose_spec.2 c);let f:(λu:KT=>u.lt z.choose)=λu=>u.lt t:=by
  funext u
  rw[<-b.plt,<-b.plt,e]
 unfold rk;rw[f]
def Ce{d g:Type}{f:d->g}{l m:List g}(h:l.Perm m):∀ k:List d,m=k.map f->∃ p:List d,p.Perm k/\l=p.map f:=by
 induction h with
 | nil=>exact λk e=>⟨k,.refl _,e⟩
 | cons x _ r=>
  intro k e
  cases k with
  | nil=>cases e
  | cons a k=>
   cases e;let⟨p,c,rfl⟩:=r k Z;exact⟨a::p,c.cons a,Z⟩
 | swap x y l=>
  intro k e
  match k,e with
  | a::b::k,e=>
   cases e;exact⟨b::a::k,.swap _ _ _,Z⟩
 | trans _ _ o q=>
  intro k e;let⟨p,c,i⟩:=q k e;let⟨s,j,n⟩:=o p i;exact⟨s,j.trans c,n⟩
section
variable{g:KT->KT}
def Bg(x:Kg g){d:jp}{o f:je}{Q:jS->ak->Prop}(K:o.length=f.length)(R:2<=f.length)(h:Ym g s.heap d o)(U:∀ t∈d,A.units+(g t).depth<cLine)(L:∀ (p:jq) (l:jS),p.Perm (yU f.length)->(p.map λi=>d.getD i (.int 0)).Pairwise (λa b=>b.lt a=false)->jR l=p.toArray.map (uO (o.toArray.zip f.toArray))->failedOf l=none->Q l s):
  aC (aB prog w) A ((sortRuns').run (SortSt.mk' (tuples' true) (o.toArray.zip f.toArray) #[] 7 none)) (λr y=>Q r.2 y) E s:=by
 let S:=h.len;let V:@KoOk (kG g d s.heap) prog w A s:=@KoOk.mk (kG g d s.heap) _ _ _ _ fun{E p q Q} ⟨t,G,a⟩ ⟨u,H,b⟩ z=>by
  let z:Q (decide ((kG g d s.heap).k1 p<(kG g d s.heap).k1 q)) s:=z;rw[LW x G a,LW x H b,Fy G] at z;exact Au x a b (U t G) z
 let j (i:Nat) (m:i<f.length):d.getD i (.int 0)∈d:=by
  rw[zU,zV ∅]
  exact xY _
 let M (i:Nat):=PySem.W.kat_item K i;let O:(o.toArray.zip f.toArray).size=f.length:=by simp[K]
 generalize o.toArray.zip f.toArray=k at L M O⊢;let J:k.toList=(yU f.length).map (uO k):=by
  apply tQ
  ·simp[O]
  ·intro i P R;simp[uO,Array.getD,show i<k.size by simpa using P]
 let F (i:Nat) (m:i<f.length):Qi g s.heap (d.getD i (.int 0)) (uO k i).1:=by
  rw[M];exact h.get i ∅
 refine ae (Dx (κ:=kG g d s.heap) (a₀:=k) (st:=SortSt.mk' (tuples' true) k #[] 7 none) (Q:=λ_ z=>(jR z).Perm k/\failedOf z=none /\ @Qn (kG g d s.heap) (jR z) k.size) (λp n=>?_) (@TB.mk (kG g d s.heap) _ _ _ (.refl _) rfl rfl rfl) ∅ λz C I D=>⟨C,I,D⟩) (λr y T=>?_) λ_ _ z=>z
 ·rw[J] at n;let⟨i,m,rfl⟩:=zL.mp n;let m:=xV.mp m;exact⟨_,j i m,F i m⟩
 ·let⟨rfl,C,I,D⟩:=T;let⟨p,n,e⟩:=Ce (qX.mp C) _ J;rw[<-C.size_eq] at D;let N:=Nt (κ:=kG g d y.heap) D;rw[e,tN] at N;refine L p _ n (tN.mpr (N.imp_of_mem fun{a b} B v c=>?_)) (Array.toList_inj.mp (by rw[e];simp)) I
  let B:=xV.mp (n.mem_iff.mp B);let v:=xV.mp (n.mem_iff.mp v);let c:(kG g d y.heap).k1 _<=(kG g d y.heap).k1 _:=c;rw[LW x (j a B) (F a B),LW x (j b v) (F b v)] at c;rw[<-Fy (j b v)];exact aJ ∅
end
inductive Pb(g:KT->KT)(c:jf)(H:Hp)(Q:VK)(_:XK):Prop
 |mk(v:V)(t:KT)(_:c=[v])(_:ZB H t v)(_:t.fits 3=true)(_:∀(b:V)(a:Hp),ZB a (g t) b->ZD H a->Q b a)
def EM{g:KT->KT}{X:Cx}{b:ju}{k:L2.St}{H:Hp}{s:ak}(I:ZF X b k H s):∀{d:jp}{a:jf}{c:je},jY H (d.map g) a->ZO a c->Ym g s.heap d c
 | [],a,c,h,r=>by
  rw[wJ,jY] at h;subst h;cases r;trivial
 | t::d,a,c,h,r=>by
  rw[zF,jY] at h;let⟨v,l,rfl,e,f⟩:=h
  cases r with
  | cons i j=>exact⟨QA I _ _ _ e i,EM I f j⟩
section
variable{kh:ju}{σ:L2.St}
def Dl{H:Hp}{s:ak}{b:aj}(I:ZF X kh σ H s)(h:s.heap.objs.size<=b):b∉frs X.stack:=λz=>by
 let⟨_,o,e,_⟩:=I.stack.mem z;exact absurd (zP e) (Nat.not_lt.mpr h)
def Ej{g:KT->KT}{S:Hp->KT->V->Prop}{sp:Sp}{x0:Str}{k:Nat}{f D kS:aj}{fd:am}{oD:aI}{H0:Hp}{A:ay}{E:ja}{p:ai->PUnit->Sem (ForInStep PUnit)}{all:jp}(hI:∀ (H c:Hp) (t:KT) (u:V),ZD H c->S H t u->S c t u)(hS:∀ (H:Hp) (u:V) (t:KT) (Q:VK),ZD H0 H->S H t u->(∀ (P:V) (c:Hp),ZB c (g t) P->ZD H c->Q P c)->sp [u] H Q E0)(F:ZI X.prog X.w X.K X.mg X.base ZQ k f fd [x0] sp)(hb:Zo X.K fd [x0] [])(hr:ZT k A)(hA:A.frames=X.A.frames)(nD:D∉frs X.stack)(nS:kS∉frs X.stack)(Y:D≠kS)(a3:H0 D=none)(v:∀ x (s:ak) (R:ak->Prop),aC (aB X.prog X.w) A (call (.ref f) [x]) (λkv h=>∃ (l:je) (e:Nat),l.length<1000/\h.heap.get? kS=some (seqObj "list" l.toArray e)/\R { h with heap:=h.heap.update kS (Obj.mapSeq (·.push kv)) }) (λ_ _=>False) s ->
   aC (aB X.prog X.w) A (p x ⟨⟩) (λr h=>r=.yield ⟨⟩/\R h) E s):
  ∀(r:je)(rU:jf)(O B:jp)(H:Hp)(s:ak)(l:je)(m:jf)(e:Nat),all=B++O->all.length<1000->ZF X kh σ H s->ZD H0 H->VV X kh H kS->H D=none->ZO rU r->Paired (S H) O rU ->
   s.heap.get? D=some oD->s.heap.get? kS=some (seqObj "list" l.toArray e)->jY H (B.map g) m->ZO m l ->
   aC (aB X.prog X.w) A (forIn r PUnit.unit p) (λ_ h=>∃(c:Hp)(j:je)(d:jf)(U:Nat),ZF X kh σ c h/\ZD H0 c/\VV X kh c kS/\c D=none/\h.heap.get? D=some oD/\h.heap.get? kS=some (seqObj "list" j.toArray U)/\jY c (all.map g) d/\ZO d j) E s
 | [],rU,O,B,H,s,l,m,e,ha,hl,I,s0,W,hD,r,hk,oo,os,y,rk=>by
  cases r;cases hk;rw[yR] at ha;subst ha;rw[List.forIn_nil];exact ad ⟨H,l,m,e,I,s0,W,hD,oo,os,y,rk⟩
 | x::r,rU,O,B,H,s,l,m,e,ha,hl,I,s0,W,hD,rr,hk,oo,os,y,rk=>by
  cases rr with
  | cons ra rb=>
  rename_i u ur
  cases hk with
  | cons a6 a7=>
  rename_i t O
  rw[sO];let c4:l.length=B.length:=by
   let a:=y.length;let b:=rk.length;rw[zX] at a
   lia
  let a8:B.length+(O.length+1)<1000:=by rw[ha,zT,yV] at hl;lia
  refine aa (Zy (v x s (λh=>∃(c:Hp)(j:je)(d:jf)(U:Nat),ZF X kh σ c h/\ZD H0 c/\ZD H c/\VV X kh c kS/\c D=none/\h.heap.get? D=some oD/\h.heap.get? kS=some (seqObj "list" j.toArray U)/\jY c ((B++[t]).map g) d/\ZO d j) ?_) λq h L=>?_)
  ·let a2:VO X.prog X.w X.K X.mg X.base A X.stack s H:=⟨by rw[hA];exact I.ok.frames,I.env0.mod,I.env0.bs,I.env0.bsz,I.env0.funs,I.env0.frf,I.env0.hok,I.env0.bare⟩
   let c0:sp [u] H (λP c=>ZB c (g t) P/\ZD H c) E0:=hS H u t _ s0 a6 λP c a b=>⟨a,b⟩;let r2:ZO [u] [x]:=.cons ra .nil;refine wpAny_call (codeAny_mono (F.run A X.stack s H ⟨[x],[]⟩ [x] [u] _ E0 hr a2 (hb s [x] I.kIn rfl) r2 c0) λrr h L=>?_)
   cases rr with
   | error ev=>exact L.elim
   | ok fl=>
    cases fl with
    | next=>exact False.elim L
    | brk=>exact False.elim L
    | cont=>exact False.elim L
    | ret kv=>
     let⟨P,c,N,T,un,a9,rv,kt,sm⟩:=L;let J:ZF X kh σ c h:=I.call' N un a9 T (λb hb=>absurd hb (by simp))
     let M:=un.keep D oD oo hD nD (by simp)
     let a1:=un.keep kS _ os W.1 nS (by simp)
     let a4:c kS=none:=un.free kS _ os W.1 (by simp)
     let C:c D=none:=un.free D _ oo hD (by simp)
     exists l,e,∅,a1
     let i:VV X kh c kS:=⟨a4,W.2⟩;let ea:(xB l).push kv=xB (l++[kv]):=by simp
     obtain⟨c2,a5⟩:∃ c2,(h.heap.update kS (Obj.mapSeq (·.push kv))).get? kS=some (seqObj "list" (xB (l++[kv])) c2):=⟨_,by rw[<-ea];exact get?_update_seq a1 (·.push kv)⟩
     let sb:=yA.update h.heap kS (Obj.mapSeq (·.push kv));let J2:ZF X kh σ c { h with heap:=h.heap.update kS (Obj.mapSeq (·.push kv)) }:=J.turned (t':=h.toks) (it:=kS) (λb o n q=>(sb.2 b n).trans q) i.1 i.2.1 i.2.2.2.1 i.2.2.2.2.1 i.2.2.2.2.2;refine⟨c,l++[kv],m++[P],c2,J2,s0.trans sm,sm,i,C,(sb.2 D Y).trans M,a5,?_,rk.append (.cons rv .nil)⟩;rw[zH];exact(y.sm sm).append (.cons kt .nil)
  ·let⟨rfl,c,j,d,U,J,c3,sm,i,C,M,N,a0,c1⟩:=L;show aC (aB X.prog X.w) A (forIn r PUnit.unit p) _ E h;exact Ej hI hS F hb hr hA nD nS Y a3 v r _ O (B++[t]) c h j d U (by rw[ha];simp) hl J c3 i C rb (Paired.mapP (G:=S c) a7 λ_ _ z=>hI _ _ _ _ sm z) M N a0 c1
end
section
variable{kh:ju}{σ:L2.St}{H:Hp}
def ZPv{a:aj}{o:HO}(I:ZF X kh σ H s)(l:X.s₀.heap.get? a=none)(t:a≠X.env.locals)(m:∀ x c,X.env.cells.lookup x=some c->c≠a)(y:∀ p∈X.pn++kh,p.1≠a)(v:H a=none)(h:Ze X.prog X.w (upd H a o) s.heap a o):ZF X kh σ (upd H a o) s:=by
 let g:∀{b:aj}{u:HO},H b=some u->b≠a:=fun{b u} e z=>by rw[z,v] at e;cases e
 refine⟨I.ok,I.os,I.bare,⟨I.base.keep,I.base.slot,λb i q n A=>?_,I.base.there,λb k q=>?_,λb i u q=>?_,λb B q=>?_⟩,I.loc,I.cell,?_,λx c e=>?_,λp d=>?_,λb u e=>?_,I.len⟩
 ·rw[ZU (λz=>by rw[z,l] at q;cases q)];exact I.base.free b i q n A
 ·let e:=I.base.tups b k q;rw[ZU (g e)];exact e
 ·let e:=I.base.frzs b i u q;rw[ZU (g e)];exact e
 ·let⟨f,e⟩:=I.base.tbls b B q;exact⟨f,by rw[ZU (g e)];exact e⟩
 ·rw[ZU (Ne.symm t)];exact I.free
 ·rw[ZU (m x c e)];exact I.freeC x c e
 ·let⟨e,n,r⟩:=I.pin p d;exact⟨e,by rw[ZU (y p d)];exact n,r⟩
 ·by_cases j:b=a
  ·subst j;rw[ZP] at e;cases e;exact h
  ·rw[ZU j] at e;exact(I.hok b u e).stay (λ_ _ _ q=>q) (λc q=>by rw[ZU (g q)];exact q) λc k q=>by rw[ZU (g q)];exact q
def ZO.getD{b:jf}{a:je}(r:ZO b a){i:Nat}(h:i<b.length):ZR (b.getD i .non) (a.getD i Value.none):=by
 let e:=r.length;let⟨u,c,d⟩:=r.get (i:=i) (x:=b[i]) (by simp[h])
 rw[zU,zU,c,zV h];exact d
def Fn{b:jf}{a:je}(r:ZO b a):∀(l:jq),(∀ i∈l,i<b.length)->ZO (l.map λi=>b.getD i .non) (l.map λi=>a.getD i Value.none)
 | [],_=>.nil
 | i::l,h=>.cons (ZO.getD r (h i zI)) (Fn r l λj c=>h j (zG _ c))
def Dd{F:KT->V->Prop}{c:jp}{a:jf}(e:Paired F c a):∀(l:jq),(∀ i∈l,i<a.length)->Paired F (l.map λi=>c.getD i (.int 0)) (l.map λi=>a.getD i .non)
 | [],_=>.nil
 | i::l,h=>by
  let d:=h i zI;let⟨t,f,k⟩:=Oi e (i:=i) (b:=a[i]) (by simp[d])
  refine .cons (show F (c.getD i (.int 0)) (a.getD i .non) from ?_) (Dd e l λj g=>h j (zG _ g));rw[zU,zU,f,zV d];exact k
def range_getD{a:Type}(l:List a)(d:a):(yU l.length).map (λi=>l.getD i d)=l:=by
 apply tQ
 ·simp
 ·intro i c b;simp[b]
def HN{g:KT->KT}{IT:Hp->KT->V->Prop}{sp:Sp}(hg:Kg g)(dg:∀ t,(g t).depth<=2 * t.depth+2){x0:Str}{k:Nat}{f:aj}{lv:ai}{fd:am}{us:jf}{y:jp}{Q:VK}(hr:ZT (k+2) X.A)(F:ZI X.prog X.w X.K X.mg X.base ZQ k f fd [x0] sp)(hb:Zo X.K fd [x0] [])(I0:ZF X kh σ H s)(hI:∀ (H h:Hp) (t:KT) (u:V),ZD H h->IT H t u->IT h t u)(hS:∀ (h:Hp) (u:V) (t:KT) (Q:VK),ZD H h->IT h t u->(∀ (v':V) (H2:Hp),ZB H2 (g t) v'->ZD h H2->Q v' H2)->sp [u] h Q E0)(hk:Paired (IT H) y us)(hf:∀ t∈y,t.fits 3=true)(i1:us.length<1000)(c4:∀ (Q':je->ak->Prop),(∀ (s1:ak) (c:je),ZF X kh σ H s1->ZO us c->Q' c s1)->aC (aB X.prog X.w) X.A.in1 (collect lv) Q' X.xe s)(q:∀ (D:aj) (ws:jf) (rs:jp) (h:Hp),ZD H h->H D=none->h D=some (.lst ws)->Paired (IT h) rs ws->rs.Perm y->rs.Pairwise (λa b=>b.lt a=false)->Q (.ref D) h):
  aC (aB X.prog X.w) X.A (call (.builtin "sorted") [lv] [(xW "key",.ref f)]) (EP X kh σ Q) X.xe s:=by
 let i2:=Paired.length hk;let c8:ZT k X.A.in1.in1:=(ZT.in1 (k:=k+1) hr).in1;refine call_function_entry_kw kind_sorted plain_sorted entry_sorted (ksk_s1 _ _) ?_;unfold Builtin.«sorted»;refine aa (m:=checkCount "sorted" 1 1 _) (ad ?_);refine aa (c4 _ λs c I rv=>?_);let i0:=rv.length;refine aa (wpAny_newList ?_ (by rw[sizeLine_eq];lia))
 obtain⟨E,T⟩:∃ E,s.heap.push (seqObj "list" c.toArray 0)=E:=⟨_,Z⟩;let M:E.get? s.heap.objs.size=some (seqObj "list" c.toArray 0):=by rw[<-T];exact yS _ Z
 let c9:∀ b o,s.heap.get? b=some o->E.get? b=some o:=λb o z=>by rw[<-T];exact zQ _ z
 let e8:E.objs.size=s.heap.objs.size+1:=by rw[<-T,size_push']
 obtain⟨D,eD⟩:∃ D,s.heap.objs.size=D:=⟨_,Z⟩;rw[eD] at M;let U:s.heap.objs.size<=D:=∅
 let Y:H D=none:=I.hok.fresh U;let C:VV X kh H D:=I.fpOk U Y;let nD:D∉frs X.stack:=Dl I U;let e3:X.s₀.heap.get? D=none:=tJ (zS I.sz U);let I1:ZF X kh σ H { s with heap:=E }:=I.kept (t':=s.toks) c9;show aC _ _ _ _ _ { s with heap:=s.heap.push (seqObj "list" c.toArray 0) };rw[T,eD];refine aa (af (wpAny_call_entry_kw slot_list_sort ⟨_,M,rfl⟩ entry_list_sort ?body (ksk_l1 _ _)));rw[ksk_t1];unfold ksk_tree;refine aa (listItems_at M Z ?_);refine aa (listUpdate_at M Z ?_ (by rw[zR,sizeLine_eq];lia) (zN _))
 let e2:=yA.update E D (Obj.mapSeq λ_=>(#[]:jx));obtain⟨e1,a9⟩:∃ e1,(E.update D (Obj.mapSeq λ_=>(#[]:jx))).get? D=some (seqObj "list" #[] e1):=⟨_,get?_update_seq M λ_=>#[]⟩;obtain⟨B,a4⟩:∃ B,E.update D (Obj.mapSeq λ_=>(#[]:jx))=B:=⟨_,Z⟩;rw[a4] at a9 e2;show aC _ _ _ _ _ { s with heap:=E.update D (Obj.mapSeq λ_=>(#[]:jx)) };rw[a4];let I2:ZF X kh σ H { s with heap:=B }:=ZF.turned (s:={ s with heap:=E }) (t':=s.toks) (it:=D) I1 (λb o n z=>(e2.2 b n).trans z) C.1 C.2.1 C.2.2.2.1 C.2.2.2.2.1 C.2.2.2.2.2;refine aa (seqEpoch_at a9 Z ?_);refine aa (wpAny_newTuple ?_ (by show c.length<=_;rw[sizeLine_eq];lia))
 refine aa (wpAny_newList ?_ (zN _));refine af ?_;let e9:B.objs.size=s.heap.objs.size+1:=by rw[<-a4,Heap.size_update,e8]
 obtain⟨h3,a5⟩:∃ h3,(B.push (seqObj "tuple" c.toArray 0)).push (seqObj "list" #[] 0)=h3:=⟨_,Z⟩;let a6:(B.push (seqObj "tuple" c.toArray 0)).objs.size=s.heap.objs.size+2:=by rw[size_push',e9]
 let N:∀ b o,B.get? b=some o->h3.get? b=some o:=λb o z=>by rw[<-a5];exact zQ _ (zQ _ z)
 let c5:h3.get? (s.heap.objs.size+2)=some (seqObj "list" (xB []) 0):=by rw[<-a5,<-a6];exact yS _ Z
 obtain⟨j,c1⟩:∃ j,s.heap.objs.size+2=j:=⟨_,Z⟩;rw[c1] at c5 a6;let a7:s.heap.objs.size<=j:=∅
 let c3:D≠j:=∅
 let e5:H j=none:=I.hok.fresh a7;let fS:VV X kh H j:=I.fpOk a7 e5;let nS:j∉frs X.stack:=Dl I a7;let I3:ZF X kh σ H { s with heap:=h3 }:=I2.kept (t':=s.toks) N;show aC _ _ (ksk_rest D (.ref f) false c.toArray e1 (.ref (B.push (seqObj "tuple" c.toArray 0)).objs.size)) _ _ { s with heap:=(B.push (seqObj "tuple" c.toArray 0)).push (seqObj "list" #[] 0) };rw[a5,a6];let l:∀(h:Hp)(d:ak)(O:je)(P:jf)(e:Nat),ZF X kh σ h d->ZD H h->VV X kh h j->h D=none->d.heap.get? D=some (seqObj "list" #[] e1)->d.heap.get? j=some (seqObj "list" O.toArray e)->jY h (y.map g) P->ZO P O ->
   aC (aB X.prog X.w) X.A.in1.in1 (ksk_end D false c.toArray e1 (.ref j) O.toArray) (λl d=>∃ v,l=.done (.ret v)/\aC (aB X.prog X.w) X.A.in1 (ret (.ref D)) (λl d=>∃ v,l=.done (.ret v)/\EP X kh σ Q v d) X.xe d) X.xe d:=by
  intro h d O P e J sm fp L oo os a0 rk;let a1:O.length=c.length:=by
   let a:=a0.length;let b:=rk.length;rw[zX] at a
   lia
  let sv:Ym g d.heap y O:=EM J a0 rk;let a3:∀(st:jS)(p:jq),p.Perm (yU c.length)->(p.map λi=>y.getD i (.int 0)).Pairwise (λa b=>b.lt a=false)->(jR st).map (·.2)=xB (p.map λi=>c.getD i Value.none)->failedOf st=none ->
    aC (aB X.prog X.w) X.A.in1.in1 (ksk_tail D false e1 (.ref j) st) (λl d=>∃ v,l=.done (.ret v)/\aC (aB X.prog X.w) X.A.in1 (ret (.ref D)) (λl d=>∃ v,l=.done (.ret v)/\EP X kh σ Q v d) X.xe d) X.xe d:=by
   intro st p hp hs c6 a8;let a2:∀ i∈p,i<us.length:=λi hi=>by
    have:=xV.mp (hp.mem_iff.mp hi)
    lia
   let c7:p.length=c.length:=hp.length_eq.trans List.length_range;let s1:=yA.update d.heap j (Obj.mapSeq λ_=>(#[]:jx));let e4:D≠j:=∅
   let c0:=(s1.2 D e4).trans oo;let s2:=yA.update (d.heap.update j (Obj.mapSeq λ_=>(#[]:jx))) D (Obj.mapSeq λ_=>xB (p.map λi=>c.getD i Value.none));obtain⟨c2,e6⟩:∃ c2,((d.heap.update j (Obj.mapSeq λ_=>(#[]:jx))).update D (Obj.mapSeq λ_=>xB (p.map λi=>c.getD i Value.none))).get? D=some (seqObj "list" (xB (p.map λi=>c.getD i Value.none)) c2):=⟨_,get?_update_seq c0 λ_=>xB (p.map λi=>c.getD i Value.none)⟩;unfold ksk_tail;dsimp only;rw[c6,aM zW];refine aa (listUpdate_at os Z ?_ (by rw[zR,sizeLine_eq];lia) (zN _))
   refine aa (wpAny_letGo ?_);refine aa (seqEpoch_at c0 Z ?_);refine aa (listUpdate_at c0 Z ?_ (zN _) (by rw[zR,zX,c7,sizeLine_eq];lia))
   rw[a8];simp only[bne_self_eq_false,wW,if_false];let J1:ZF X kh σ h { d with heap:=d.heap.update j (Obj.mapSeq λ_=>(#[]:jx)) }:=J.turned (t':=d.toks) (it:=j) (λb o n z=>(s1.2 b n).trans z) fp.1 fp.2.1 fp.2.2.2.1 fp.2.2.2.2.1 fp.2.2.2.2.2;let J2:ZF X kh σ h { d with heap:=(d.heap.update j (Obj.mapSeq λ_=>(#[]:jx))).update D (Obj.mapSeq λ_=>xB (p.map λi=>c.getD i Value.none)) }:=ZF.turned (s:={ d with heap:=d.heap.update j (Obj.mapSeq λ_=>(#[]:jx)) }) (t':=d.toks) (it:=D) J1 (λb o n z=>(s2.2 b n).trans z) L C.2.1 C.2.2.2.1 C.2.2.2.2.1 C.2.2.2.2.2;let J3:=ZPv (a:=D) (o:=.lst (p.map λi=>us.getD i .non)) J2 e3 C.2.1 C.2.2.2.2.1 C.2.2.2.2.2 L ⟨by rw[zX,c7,sizeLine_eq];lia,_,c2,Fn rv _ a2,e6⟩
   let g:=ZW L (.lst (p.map λi=>us.getD i .non));refine ad ⟨.none,Z,ad ⟨_,Z,.ref D,_,J3,Z,q D _ (p.map λi=>y.getD i (.int 0)) _ (sm.trans g) Y ZP (Dd (Paired.mapP (G:=IT _) hk λ_ _ z=>hI _ _ _ _ (sm.trans g) z) _ a2) ?_ hs⟩⟩;have:=hp.map (λi=>y.getD i (KT.int 0));rw[show c.length=y.length by lia,range_getD] at this
   exact this
  unfold ksk_end;dsimp only;rw[aM zW,aM zW];by_cases B:c.length<2
  ·rw[aO (by rw[zR];exact B),aO (by rw[zR];exact B)]
   refine aa (ad (aa (ad ?_)));refine a3 _ (yU c.length) (.refl _) ?_ ?_ Z
   ·rw[show c.length=y.length by lia,range_getD]
    match y,(show y.length<2 by lia) with
    | [],_=>exact .nil
    | [t],_=>exact qK _ _
   ·show ((O.toArray.zip c.toArray).map (·.2))=_;apply Array.toList_inj.mp;rw[Array.toList_map,ksk_zip];simp only[List.toList_toArray];rw[range_getD,List.map_snd_zip ∅]
  ·rw[aM (by rw[zR];exact B),aM (by rw[zR];exact B)]
   refine aa (ZOm hg ∅ sv ?_)
   refine aa (Zy (Bg hg (Q:=λS e0=>e0=d/\∃ p:jq,p.Perm (yU c.length)/\(p.map λi=>y.getD i (.int 0)).Pairwise (λa b=>b.lt a=false)/\jR S=p.toArray.map (uO (O.toArray.zip c.toArray))/\failedOf S=none)
    a1 ∅ sv (λt ht=>?_) λp S b1 b2 b3 b4=>⟨Z,p,b1,b2,b3,b4⟩) λr e0 e7=>?_)
   ·let a:=c8.un;let d1:=dg t;let d2:=V7 t 3 (hf t ht)
    lia
   ·let⟨⟨⟩,S⟩:=r;let⟨rfl,p,b1,b2,b3,b4⟩:=e7;exact a3 S p b1 b2 (PySem.W.kat_snds a1 b3) b4
 unfold ksk_rest;refine aa (ah ?_)
 first
  | rw[List.forIn_toArray]
  | (rw[<-rY];simp only[List.toList_toArray])
 refine aa (Zy (Ej (all:=y) (H0:=H) (D:=D) (kS:=j) hI hS F hb c8 rfl nD nS c3 Y (λx s4 R hx=>?_) c us y [] H { s with heap:=h3 } [] [] 0 rfl ∅ I3 (ZD.refl H) fS Y rv hk (N _ _ a9) c5 .nil .nil) λ_ s4 h4=>?_)
 ·refine aa (wpAny_attempt (ae hx (λkv s5 h5=>?_) λ_ _ z=>z.elim));let⟨O,e,i3,o5,R5⟩:=h5
  try dsimp only
  refine aa (listUpdate_at o5 Z ?_ (by rw[zR,sizeLine_eq];lia) (zS (wK (Array.size_push ..)) (by rw[zR,sizeLine_eq];lia)))
  exact ad ⟨Z,R5⟩
 ·let⟨h,O,P,e,J,sm,fp,L,oo,os,a0,rk⟩:=h4
  try dsimp only
  exact aa (listItems_at os Z (l h s4 O P e J sm fp L oo os a0 rk))
def Fz{H:Hp}:∀{a:jp}{b:jf},jY H a b->(∀ t∈a,t.fits 3=true)->Paired (λt u=>ZB H t u/\t.fits 3=true) a b
 | [],b,h,_=>by rw[jY] at h;subst h;exact .nil
 | t::a,b,h,hf=>by
  rw[jY] at h;let⟨v,r,rfl,c,d⟩:=h;exact .cons ⟨c,hf t zI⟩ (Fz d λt e=>hf t (zG _ e))
def Bp{H:Hp}{G:KT->Prop}{a:jp}{b:jf}(h:Paired (λt u=>ZB H t u/\G t) a b):jY H a b:=by
 induction h with
 | nil=>exact .nil
 | cons h _ c=>exact .cons h.1 c
def ZGm{g:KT->KT}(G:Kg g)(B:∀ t,(g t).depth<=2 * t.depth+2){y:Str}{k:Nat}{f:aj}{v:ai}{p:am}{n:jf}{m:jp}{Q:VK}(L:ZT (k+2) X.A)(F:ZI X.prog X.w X.K X.mg X.base ZQ k f p [y] (Pb g))(E:Zo X.K p [y] [])(z:ZF X kh σ H s)(I:jY H m n)(r:∀ t∈m,t.fits 3=true)(l:n.length<1000)(d:∀ (o:je->ak->Prop),(∀ (x:ak) (e:je),ZF X kh σ H x->ZO n e->o e x)->aC (aB X.prog X.w) X.A.in1 (collect v) o X.xe s)(q:∀ (D:aj) (j:jf) (i:jp) (c:Hp),ZD H c->H D=none->c D=some (.lst j)->jY c i j->i.Perm m->i.Pairwise (λa b=>b.lt a=false)->Q (.ref D) c):
  aC (aB X.prog X.w) X.A (call (.builtin "sorted") [v] [(xW "key",.ref f)]) (EP X kh σ Q) X.xe s:=
 HN (IT:=λH t u=>ZB H t u/\t.fits 3=true) G B L F E z (λ_ _ _ _ P h=>⟨h.1.sm P,h.2⟩) (λc u t Q _ h k=>⟨u,t,Z,h.1,h.2,k⟩) (Fz I r) r l d λD j i c O M C J N R=>q D j i c O M C (Bp J) N R
end
def Wz(d:aj)(b:Array DictEntry)(a:Nat)(h:aE):Prop:=∃ o,h.get? d=some o/\o.ExactDict/\o.data=.dict b a
section
variable{d:aj}{es:Array DictEntry}{ep:Nat}
def Wz.type(x:Wz d es ep s.heap):s.TypeIs (.ref d) "dict" :=let ⟨o,g,hx,_⟩:=x;⟨o,g,hx.1⟩
def Wz.at{h a:aE}(x:Wz d es ep h)(k:∀ o,h.get? d=some o->a.get? d=some o):Wz d es ep a:=let ⟨o,g,r⟩:=x;⟨o,k o g,r⟩
def ZLD{Q:ja}(f:(d==sysModules)=false)(x:Wz d es ep s.heap)(e:Q (.ref s.heap.objs.size) { s with heap:=s.heap.push { cls:=.type "dict_keyiterator",data:=.fields #[.ref d,.int 0 0,.int es.size 0,.int ep 0] } }):
  aC (aB prog w) A (pyIter (.ref d)) Q E s:=by
 let b:=x.type;let⟨o,c,g,a⟩:=x;refine wpAny_pyIter_slot b qG (wpAny_call_entry qG b PySem.F.entry_dict_iter ?_ (PySem.F.args_dict_iter_1 _));unfold Builtin.«dict.__iter__»;refine aa ?_;unfold Builtin.Dict.dictSlotNone;refine aa (wpAny_notOrdered_dict b (ad ?_));show aC _ _ (Builtin.Dict.showsAll d >>= _) _ _ s;unfold Builtin.Dict.showsAll;rw[aM (by rw[f];exact zW)]
 refine aa (ad (aa (wpAny_dictEntries c a (aa (wpAny_dictEpoch c a ?_)))));exact aa (wpAny_newObj_type (ad ⟨_,rfl,"dict_keyiterator",_,⟨_,yS _ rfl,rfl⟩,qW.lookup,e⟩))
def Eo{f:aj}{i:Nat}{Q:jd->ak->Prop}(v:A.handled=none)(c:s.heap.IsKeyIter f d i es.size ep)(x:Wz d es ep s.heap)(t:∀ e h,es[i]? = some e->h.IsKeyIter f d (i+1) es.size ep->yA f s.heap h->Q (some e.key) { s with heap:=h })(r:∀ h,es[i]? = none->Heap.ExtBut f s.heap h->Q none { s with heap:=h }):aC (aB prog w) A (pyNext (.ref f)) Q E s:=by
 let⟨o,p,u,j⟩:=id c;let⟨z,l,y,k⟩:=x;unfold pyNext;refine aa (wpAny_attempt (wpAny_callSpecial?_slot (name:=xW "__next__") c.typeIs qW (wpAny_call_entry qW c.typeIs PySem.F.entry_dict_keyiterator_next ?_ (PySem.F.args_dict_keyiterator_next_1 _))));refine aa (ad (aa (aa ?_)))
 first | refine aa (wpAny_typeNameOfWhole_keyiter c.typeIs (ad ?_)) | refine aa (wpAny_typeNameOf_keyiter c.typeIs (ad ?_))
 refine aa (wpAny_fieldsOf p j ?_);let n:Builtin.Dict_items.ownsTuple "dict_keyiterator" = false:=by decide
 simp only[n,wW,if_false];show aC _ _ (if (Value.ref d==Value.none)=true then _ else _) _ _ s
 rw[aM (show ¬ ((Value.ref d==Value.none)=true) from zW)];refine aa (ad (aa (wpAny_dictEntries l k ?_)));rw[aM (by simp)]
 refine aa (ad (aa (wpAny_dictEpoch l k ?_)));rw[aM (by simp)]
 refine ad ?_;simp only[show ¬ ((i:Int)<0) from by lia,if_false,uW]
 cases q:es[i]? with
 | some e=>
  refine aa ?_
  first | refine aa (wpAny_typeNameOfWhole_keyiter c.typeIs (ad ?_)) | refine aa (wpAny_typeNameOf_keyiter c.typeIs (ad ?_))
  refine aa (wpAny_isOneOf_keyiter c.typeIs ?_);show aC _ _ (setField (.ref f) 1 (rawInt ((i:Int)+1)) >>= _) _ _ s;refine aa (wpAny_setField p j (by simp) ?_)
  let g:(s.heap.update f (Obj.mapFields (·.setIfInBounds 1 (rawInt ((i:Int)+1))))).IsKeyIter f d (i+1) es.size ep:=
   ⟨_,vS _ p (Obj.isFreed_of_fields (Obj.data_mapFields j _)),(Obj.cls_mapFields ..).trans u,by rw[Obj.data_mapFields j];simp[rawInt]⟩
  refine aa (af (aa (wpAny_isOneOf_keyiter (s:={ s with heap:=s.heap.update f (Obj.mapFields (·.setIfInBounds 1 (rawInt ((i:Int)+1)))) }) g.typeIs ?_)));show aC _ _ (pure e.key) _ _ _;exact ad (ad ⟨_,Z,ad (t e _ q g (yA.update ..))⟩)
 | none=>
  refine aa ?_
  first | refine aa (wpAny_typeNameOfWhole_keyiter c.typeIs (ad ?_)) | refine aa (wpAny_typeNameOf_keyiter c.typeIs (ad ?_))
  show aC _ _ (setField (.ref f) 0 .none >>= _) _ _ s;refine aa (wpAny_setField p j (by simp) ?_)
  show aC _ _ (newExc (.type "StopIteration") [] >>= _) _ _ _;refine aa ?_;simp only[newExc,newTuple];refine aa (wpAny_newObj_type ?_ (by size_fits))
  refine aa (m:=firstArgMember _ _) (wpAny_of_eq (a:=Value.none) (by first | rfl | (simp only[firstArgMember];rfl)) (wpAny_newObj_type ?_ (by size_fits)))
  simp only[raiseNew];refine aa (wpAny_handled ?_);rw[show A.in1.handled=none from v];refine aa (ad (wpAny_throw ?_));refine aa (wpAny_isInstance (T:= "StopIteration") (b:=true) ⟨_,yS _ Z,Z⟩ isSubtype_stop ?_);exact ad (r _ q (((yA.update ..).extBut.push _).push _))
def ZKJ(m:A.handled=none)(I:aj)(l:d≠I):Walks prog w A I [I,d] [I] es.size (λi v=>(es[i]?).map (·.key)=some v) (λi h=>h.IsKeyIter I d i es.size ep/\Wz d es ep h) where
 sub:=λb f=>by simp at f;simp[f]
 frame:=λ_ _ _ a n=>⟨a.1.at λo e=>n I (by simp) o e,a.2.at λo e=>n d (by simp) o e⟩
 item:=λi s Q E r a j=>by
  refine Eo m a.1 a.2 (λe g c k p=>?_) (λg c=>by rw[uY r] at c;cases c)
  exact j e.key g s.toks (by rw[c];rfl) ⟨k,a.2.at λo z=>(p.2 d l).trans z⟩ λb o f e=>(p.2 b (λh=>f (by simp[h]))).trans e
 done:=λs Q E a j=>by
  refine Eo m a.1 a.2 (λe g c=>by rw[Array.getElem?_eq_none (zY _)] at c;cases c) (λg _ q=>?_)
  exact j g s.toks λb o f e=>q b o (λh=>f (by simp[h])) e
 self:=λ_ _ _ _ a j=>wpAny_pyIter_keyiter a.1 j
def AF(f:(d==sysModules)=false):tU prog w "dict" d d es.size (λi v=>(es[i]?).map (·.key)=some v) (Wz d es ep) where
 type:=λ_ x=>x.type
 there:=λ_ x=>by let⟨o,g,_⟩:=x;exact⟨zP g,zP g⟩
 keep:=λ_ _ x c=>x.at λo e=>c d (.inl rfl) o e
 notList:=by decide
 notTuple:=by decide
 hint:=λ_ _ _ _ x a=>PySem.W.kdl_hint_dict x.type a
 iter:=λ_ s b x=>⟨_,_,(λ_ _ a=>ZLD f x a),ZKJ b _ (by let⟨o,g,_⟩:=x;exact yW (zP g)),⟨⟨_,yS _ Z,Z,Z⟩,x.at λo e=>zQ _ e⟩⟩
end
section
variable{kh:ju}{σ:L2.St}{H:Hp}
def ZID{w:ax}{k:List (KT×V×V)}{d:Array DictEntry}{c:jx}(r:Paired (NE w) k d.toList)(h:ItemsOf (λi v=>(d[i]?).map (·.key)=some v) c d.size):ZO (k.map (·.2.1)) c.toList:=by
 let p:=Paired.length r;let o:c.toList.length=d.size:=by have:=h.1;simpa using this
 refine IB (by rw[zX,o,p];simp) λi a b g j=>?_
 rw[zE] at g;let⟨z,n,rfl⟩:=xP.mp g;rw[yQ] at j;have:=h.2 i b j;let⟨e,m,rfl⟩:=xP.mp this;let⟨q,f,l⟩:=Oi r (by rw[yQ];exact m)
 rw[n] at f;cases f;exact l.2.1
def Bt{d:aj}{i:List (KT×V×V)}{Q:je->ak->Prop}(n:A.handled=none)(I:ZF X kh σ H s)(x:Zx X.w H d i)(l:∀ (h:ak) (c:je),ZF X kh σ H h->ZO (i.map (·.2.1)) c->Q c h):aC (aB X.prog X.w) A (collect (.ref d)) Q E s:=by
 let⟨u,k,g⟩:=x.ex;let⟨⟨b,f,o,j,p,q,m⟩,_⟩:=I.hok d _ k;refine Dk (AF (ep:=j) b) n ⟨o,p,q,m⟩ f λv t e r _ a=>?_;exact l _ e.toList (I.kept (t':=t) r) (ZID g a)
end
def Ef:az "sorted" = some (.builtin "sorted"):=by decide +kernel
def ZQm:TE:=λ_ H Q=>∀(p:aj)(a:Hp),H p=none->ZE p H a->ZD H a->Zx X.w a p []->Q (.ref p) a
def Kd{pos:Pos}:PE X (.Dict [] [] pos) (ZQm (X:=X)):=λd s g H Q I h=>by
 let c:=I.hok.fresh (zY s.heap.objs.size);refine wpAny_Dict_empty ⟨.ref s.heap.objs.size,_,I.laid (a:=s.heap.objs.size) (o:=Vk s.heap.objs.size #[]) (t':=s.toks) (λ_ _ q=>zQ _ q) (zY _) (Da (beq_eq_false_iff_ne.mpr (Ne.symm (yW I.big))) (zN _) ⟨_,0,yS _ rfl,⟨rfl,rfl,rfl⟩,rfl⟩),Z,?_⟩;exact h _ _ c (λb o e n=>by rw[ZU n];exact e) (ZW c _) ⟨⟨#[],ZP,.nil⟩,λz f=>by simp at f,.nil⟩
inductive OE(w:ax)(D:YJ)(e:L2.St)(v x y:V)(b:Hp):Prop
 |mk(a:aj)(d:List (KT×V×V))(t:KT)(_:x=.ref a)(_:Zx w b a d)(_:d.length<1000)(_:ZB b t y)(_:t.depth<=3)(_:∀ c,ZE a b c->Zx w c a (VH d t y v)->D.nx e c)
def ZQd(w:ax)(e g f:TE):TS:=λD a H=>f a H λv b=>e a b λx c=>g a c λy d=>OE w D a v x y d
def Lh{o i b:Expr}{pos d:Pos}{j l k:TE}(L:X.A.units+4<cLine)(J:PE X o j)(G:PE X i l)(M:PE X b k)(K:swapsWith b (some (.Subscript o i d)) pos.line X.env=pure false):
  PS X (.Assign [.Subscript o i d] b pos) (ZQd X.w j l k):=by
 intro c s e H D I h;refine wpAny_Assign_Subscript (Z2 (M c s e H _ I h) λr V v m p S P=>Z2 (J c V e m _ p P) λu W x n q T Q=>Zy (G c W e n _ q Q) λiv s3 ⟨y,H3,z,U,a,xs,t,F,C,O,N,E,R⟩=>?_) K;subst F;obtain rfl:u=Value.ref a:=T;exact ZQK L z C O N E U S λs4 g B Y f=>⟨e,g,B,R g Y f⟩
def ZQr(g:jp)(e:Hp)(Q:VK):Prop:=∀(D:aj)(f:jf)(d:jp)(c:Hp),ZD e c->e D=none->c D=some (.lst f)->jY c d f->d.Perm g->d.Pairwise (λa b=>b.lt a=false)->Q (.ref D) c
inductive Q3(w:ax)(Q:VK)(c:jf)(b:Hp):Prop
 |mk(d:aj)(a:List (KT×V×V))(_:c=[.ref d])(_:Zx w b d a)(_:∀ x∈a,x.1.fits 3=true)(_:a.length<1000)(_:ZQr (a.map (·.1)) b Q)
def ZOx(w:ax)(t:TA):TE:=λc H Q=>t c H λb a=>Q3 w Q b a
def Gy{g:KT->KT}(hg:Kg g)(T:∀ t,(g t).depth<=2 * t.depth+2){k:Nat}{p pos N D:Pos}{e:Expr}{x x0:Str}{t:TA}(R:ZA X.prog X.w X.K X.mg X.base k x [x0] (Pb g))(M:ZT (k+2) X.A)(y:Gl X "sorted")(hm:X.mg "sorted" = none)(B:Gl X x)(Y:PA X [e] t)(o:(x==("__debug__" : Str))=false:=by decide)(he:aG pos (ar [e] X.env)=(false,aH e X.env)::aG pos (ar [] X.env):=by rfl)(a:(aG pos (ar [e] X.env)).any (·.1)=false:=by rfl):
  PE X (.Call (.Name "sorted" p) [e] [⟨some (xW "key"),.Name x D,N⟩] pos) (ZOx X.w t):=by
 intro c s P H Q I h;let⟨f,fd,F,b,a0,m⟩:=R.ex;refine ag (OW I y hm Ef (callWith_kw (Zy (Y pos c s P H _ I h) λus s1 ⟨vs,G,S,r,d,j,U,n,L,i,q⟩=>?_) he a));let pk:PK X [⟨some (xW "key"),.Name x D,N⟩] (Yy (tC (.ref f)) VG):=HQ (VD (v:=.ref f) (pos:=D) B m Z o) G2;refine Zy (pk pos c s1 P G (λO l=>O=[.ref f]/\l=G) S ⟨Z,Z⟩) ?_;rintro O s2 ⟨zv,l,J,rz,W,V⟩;subst U W V;let⟨u,rfl,ru⟩:=UB r;let⟨u2,rfl,E⟩:=UB rz;cases ru;cases E;let ka:jY l (j.map (·.1)) (j.map (·.2.1)):=by
  have:=n.key;clear q i L n
  induction j with
  | nil=>exact .nil
  | cons z j ih=>exact .cons (this z (zI ..)).1 (ih λz C=>this z (zG _ C))
 exact ZGm hg T M F b J ka (λt ht=>by let⟨z,C,rfl⟩:=zL.mp ht;exact L z C) (by rw[zX];exact i) (λQ' hq=>Bt M.hd J n hq) q
end Tw
namespace L2
open PySem PySem.Spec PyProof.Rows
section
variable{kh:ju}{σ:St}{H:Hp}
end
end L2
namespace Tw
open PySem PySem.Spec L2 PyProof.Rows
def QO:jg->jd->Prop
 | some v,some r=>ZR v r
 | none,none=>True
 | _,_=>False
mutual
def ZL.keep{h h':aE}(k:∀ b o,h.get? b=some o->h'.get? b=some o):∀(t:KT)(v:ai),ZL h t v->ZL h' t v
 | .int i,v,x=>by rw[ZL] at x⊢;exact x
 | .str i,v,x=>by rw[ZL] at x⊢;exact x
 | .tup l,v,x=>by
  rw[ZL] at x⊢;let⟨a,its,e,⟨o,g,r⟩,e2⟩:=x;exact⟨a,its,e,⟨o,k _ _ g,r⟩,jZ.keep k l its e2⟩
def jZ.keep{h h':aE}(k:∀ b o,h.get? b=some o->h'.get? b=some o):∀(l:jp)(vs:je),jZ h l vs->jZ h' l vs
 | [],vs,x=>by rw[jZ] at x⊢;exact x
 | t::l,vs,x=>by
  rw[jZ] at x⊢;let⟨v,r,e,e1,e2⟩:=x;exact⟨v,r,e,ZL.keep k t v e1,jZ.keep k l r e2⟩
end
section
variable{kh:ju}{σ:L2.St}{H:Hp}
def HB{d:aj}{j:List (KT×V×V)}(I:ZF X kh σ H s)(x:Zx X.w H d j):(d==sysModules)=false/\s.TypeIs (.ref d) "dict" /\ ∀ b,Value.ref d=.ref b->∃ f,s.heap.get? b=some f/\f.dict=none:=by
 let⟨l,g,i⟩:=x.ex;let⟨⟨a,h,o,k,c,e,m⟩,_⟩:=I.hok d _ g;exists a,⟨o,c,e.1⟩;intro b q;cases q;exact⟨o,c,e.2.1⟩
def Ge{d:aj}{q:List (KT×V×V)}{t:KT}{y:V}{u:ai}{Q:jd->ak->Prop}(O:A.units+4<cLine)(I:ZF X kh σ H s)(x:Zx X.w H d q)(m:ZB H t y)(v:t.depth<=3)(p:ZR y u)(h:∀ f r,ZF X kh σ H f->(∀ b n,s.heap.get? b=some n->f.heap.get? b=some n)->QO (XG q t) r->Q r f):aC (aB X.prog X.w) A (dictGet d u) Q E s:=by
 let⟨N,G,c⟩:=x.ex;let⟨⟨l,K,o,M,k,P,i⟩,_⟩:=I.hok d _ G;unfold dictGet
 try with_reducible refine af ?_
 refine aa (JS t.depth t (zY _) (QA I t y u m p) ∅ λg L=>?_)
 let a:ZF X kh σ H { s with toks:=g }:=I.tok g;refine aa (Gz (A:=A) a x c k i m v p ∅ (λJ=>?_) λj z e B C D F=>?_)
 ·refine ad (h _ none a (λ_ _ e=>e) ?_);rw[Jd J];trivial
 ·refine aa (wpAny_dictEntries (s:={ s with toks:=g }) k i ?_);rw[D];refine ad (h _ (some e.val) a (λ_ _ e=>e) ?_);rw[<-C,GE x.nd B];exact F.2.2
def ZJo{d:aj}{g:List (KT×V×V)}{t:KT}{y v:V}{u:ai}{Q:ja}(n:A.units+5<cLine)(I:ZF X kh σ H s)(x:Zx X.w H d g)(l:ZB H t y)(j:t.depth<=3)(m:ZR y u)(k:XG g t=some v)(h:∀ f a,ZF X kh σ H a->ZR v f->Q f a):aC (aB X.prog X.w) A (getItem (.ref d) u) Q E s:=by
 let⟨e,b,_⟩:=HB I x;unfold getItem
 try with_reducible refine af ?_
 refine aa (wpAny_sequenceKey b (by decide) ?_)
 refine aa (wpAny_callSpecial?_slot (name:=xW "__getitem__") b slot_dict_getitem (wpAny_call_entry slot_dict_getitem b entry_dict_getitem ?_ (args_dict_getitem _ _)));show aC _ _ (dictGet d u >>= _) _ _ s;refine aa (Ge (by show A.units+1+4<_;lia) I x l j m λa r i _ c=>?_)
 rw[k] at c
 cases r with
 | none=>exact c.elim
 | some r=>exact ad ⟨r,Z,ad (h r a i c)⟩
def ZQS{d:aj}{f:List (KT×V×V)}{t:KT}{y:V}{u:ai}{Q:Bool->ak->Prop}(m:A.units+5<cLine)(I:ZF X kh σ H s)(x:Zx X.w H d f)(k:ZB H t y)(j:t.depth<=3)(l:ZR y u)(h:∀ e,ZF X kh σ H e->Q (XG f t).isSome e):aC (aB X.prog X.w) A (contains (.ref d) u) Q E s:=by
 let⟨a,g,_⟩:=HB I x;unfold contains
 try with_reducible refine af ?_
 refine aa (wpAny_specialOf g slot_dict_contains.lookup ?_);show aC _ _ (if (some (Value.builtin "dict.__contains__")==some Value.none)=true then _ else _) _ E s
 rw[aM (by rw[beq_builtin_none];exact zW)]
 refine aa (wpAny_callSpecialUnlessNone?_slot (name:=xW "__contains__") g slot_dict_contains (wpAny_call_entry slot_dict_contains g entry_dict_contains ?_ (args_dict_contains _ _)));show aC _ _ (dictGet d u >>= _) _ _ s;refine aa (Ge (by show A.units+1+4<_;lia) I x k j l λe r i _ c=>?_)
 let b:=h e i
 cases r with
 | some r=>
  cases q:XG f t with
  | none=>rw[q] at c;exact c.elim
  | some v=>
   rw[q] at b;show aC _ _ (ret (.bool true)) _ _ _;exact ad ⟨_,Z,wpAny_truthy_bool b⟩
 | none=>
  cases q:XG f t with
  | some v=>rw[q] at c;exact c.elim
  | none=>
   rw[q] at b;show aC _ _ (Builtin.Dict.pendingKey? d u >>= _) _ _ _;exact aa (wpAny_pendingKey_other a (ad ⟨_,rfl,wpAny_truthy_bool b⟩))
def AD{d:aj}{b:List (KT×V×V)}{t:KT}{y:V}{u:ai}{Q:ja}(f:A.units+5<cLine)(I:ZF X kh σ H s)(x:Zx X.w H d b)(g:ZB H t y)(e:t.depth<=3)(i:ZR y u)(h:∀ a,ZF X kh σ H a->Q (.bool (!(XG b t).isSome)) a):aC (aB X.prog X.w) A (aA .NotIn u (.ref d)) Q E s:=by
 show aC _ _ (do return .bool (!(← contains (.ref d) u))) Q E s
 exact aa (ZQS f I x g e i λa c=>ad (h a c))
end
section
variable{o i e f:Expr}{pos jk jj:Pos}{td ty tx:TE}
inductive P8(w:ax)(Q:VK)(x y:V)(b:Hp):Prop
 |mk(a:aj)(c:List (KT×V×V))(t:KT)(v:V)(_:x=.ref a)(_:Zx w b a c)(_:ZB b t y)(_:t.depth<=3)(_:XG c t=some v)(_:Q v b)
def J4(w:ax)(td ty:TE):TE:=λa H Q=>td a H λx b=>ty a b λy c=>P8 w Q x y c
def Ov(C:X.A.units+5<cLine)(z:PE X o td)(r:PE X i ty)(B:LF i):PE X (.Subscript o i pos) (J4 X.w td ty):=by
 intro b s j H Q I h;refine Dn pX.lookup B (Z2 (z b s j H _ I h) λu M x k m K G=>Zy (r b M j k _ m G) ?_);rintro N O ⟨y,l,d,L,a,S,t,v,q,g,E,p,D,J⟩;subst q;obtain rfl:u=Value.ref a:=K;exact⟨(HB d g).2.1,ZJo C d g E p L D λR P n c=>⟨v,l,n,c,J⟩⟩
end
def Paired.ixR{b a:Type}{F:b->a->Prop}{l:List b}{m:List a}{i:Nat}{u:a}(h:Paired F l m)(e:m[i]? = some u):∃ r,l[i]? = some r/\F r u:=Oi h e
section
variable{kh:ju}{σ:L2.St}{H:Hp}{s0:ak}
end
end Tw
namespace Tw
open PySem PySem.Spec L2
def Ua(N:aj->Prop)(H:Hp)(n:String)(v:V):Prop:=
 (n = "bool" /\ ∃ b,v=.bl b)\/(n = "NoneType" /\ v=.non)\/(n = "list" /\ ∃ a d,v=.ref a/\H a=some (.lst d)/\¬ N a)\/(n = "dict" /\ ∃ a c,v=.ref a/\H a=some (.dK c)/\¬ N a)
mutual
def Z6(N:aj->Prop)(H:Hp):TG->V->Prop
 | .int i,v=>v=.int i
 | .str x,v=>v=.str x
 | .tup l,v=>∃ a vs,v=.ref a/\H a=some (.tup vs)/\kg N H l vs
 | .odd n,v=>Ua N H n v
def kg(N:aj->Prop)(H:Hp):List TG->jf->Prop
 | [],vs=>vs=[]
 | t::l,vs=>∃ v r,vs=v::r/\Z6 N H t v/\kg N H l r
end
structure Vu(N:aj->Prop)(H H':Hp):Prop where
 tup:Z4 H H'
 rest:∀ b o,H b=some o->¬ N b->H' b=some o
def Vu.same{N:aj->Prop}{H a:Hp}(s:ZD H a):Vu N H a:=⟨ZD.tups s,λb o e _=>s b o e⟩
mutual
def Z6.mono{N:aj->Prop}{H H':Hp}(m:Vu N H H'):∀(t:TG)(v:V),Z6 N H t v->Z6 N H' t v
 | .int _,_,h=>by rw[Z6] at h⊢;exact h
 | .str _,_,h=>by rw[Z6] at h⊢;exact h
 | .tup l,_,h=>by
  rw[Z6] at h⊢;let⟨a,vs,e,h1,h2⟩:=h;exact⟨a,vs,e,m.tup a vs h1,kg.mono m l vs h2⟩
 | .odd n,_,h=>by
  rw[Z6] at h⊢;rcases h with h | h | ⟨e,a,xs,e1,e2,e3⟩ | ⟨e,a,xs,e1,e2,e3⟩
  ·exact .inl h
  ·exact .inr (.inl h)
  ·exact .inr (.inr (.inl ⟨e,a,xs,e1,m.rest _ _ e2 e3,e3⟩))
  ·exact .inr (.inr (.inr ⟨e,a,xs,e1,m.rest _ _ e2 e3,e3⟩))
def kg.mono{N:aj->Prop}{H H':Hp}(m:Vu N H H'):∀(l:List TG)(vs:jf),kg N H l vs->kg N H' l vs
 | [],_,h=>by rw[kg] at h⊢;exact h
 | t::l,_,h=>by
  rw[kg] at h⊢;let⟨v,r,e,h1,h2⟩:=h;exact⟨v,r,e,Z6.mono m t v h1,kg.mono m l r h2⟩
end
mutual
def Z6.less{N N':aj->Prop}{H:Hp}(m:∀ b,N' b->N b):∀(t:TG)(v:V),Z6 N H t v->Z6 N' H t v
 | .int _,_,h=>by rw[Z6] at h⊢;exact h
 | .str _,_,h=>by rw[Z6] at h⊢;exact h
 | .tup l,_,h=>by
  rw[Z6] at h⊢;let⟨a,vs,e,h1,h2⟩:=h;exact⟨a,vs,e,h1,kg.less m l vs h2⟩
 | .odd n,_,h=>by
  rw[Z6] at h⊢;rcases h with h | h | ⟨e,a,xs,e1,e2,e3⟩ | ⟨e,a,xs,e1,e2,e3⟩
  ·exact .inl h
  ·exact .inr (.inl h)
  ·exact .inr (.inr (.inl ⟨e,a,xs,e1,e2,λz=>e3 (m a z)⟩))
  ·exact .inr (.inr (.inr ⟨e,a,xs,e1,e2,λz=>e3 (m a z)⟩))
def kg.less{N N':aj->Prop}{H:Hp}(m:∀ b,N' b->N b):∀(l:List TG)(vs:jf),kg N H l vs->kg N' H l vs
 | [],_,h=>by rw[kg] at h⊢;exact h
 | t::l,_,h=>by
  rw[kg] at h⊢;let⟨v,r,e,h1,h2⟩:=h;exact⟨v,r,e,Z6.less m t v h1,kg.less m l r h2⟩
end
def kg.length{N:aj->Prop}{H:Hp}:∀{l:List TG}{a:jf},kg N H l a->l.length=a.length
 | [],a,h=>by rw[kg] at h;subst h;rfl
 | t::l,a,h=>by
  rw[kg] at h;let⟨v,r,rfl,_,b⟩:=h;rw[yV,yV,b.length]
def kg.get{N:aj->Prop}{H:Hp}:∀{l:List TG}{a:jf}{i:Nat}{v:V},kg N H l a->a[i]? = some v->∃ t,l[i]? = some t/\Z6 N H t v
 | [],a,i,v,h,e=>by rw[kg] at h;subst h;simp at e
 | t::l,a,0,v,h,e=>by
  rw[kg] at h;let⟨j,r,rfl,d,_⟩:=h;simp at e;subst e;exact⟨t,Z,d⟩
 | t::l,a,i+1,v,h,e=>by
  rw[kg] at h;let⟨j,r,rfl,_,f⟩:=h;let⟨g,b,c⟩:=f.get (i:=i) (by simpa using e)
  exact⟨g,by simpa using b,c⟩
mutual
def Ht{N:aj->Prop}{H:Hp}:∀(t:KT)(v:V),ZB H t v->Z6 N H t.emb v
 | .int i,v,h=>by rw[ZB] at h;rw[KT.emb,Z6];exact h
 | .str x,v,h=>by rw[ZB] at h;rw[KT.emb,Z6];exact h
 | .tup l,v,h=>by
  rw[ZB] at h;let⟨a,vs,e,h1,h2⟩:=h;rw[KT.emb,Z6];exact⟨a,vs,e,h1,ths_keys l vs h2⟩
def ths_keys{N:aj->Prop}{H:Hp}:∀(l:jp)(vs:jf),jY H l vs->kg N H (embL l) vs
 | [],vs,h=>by rw[jY] at h;rw[embL,kg];exact h
 | t::l,vs,h=>by
  rw[jY] at h;let⟨v,r,e,h1,h2⟩:=h;rw[embL,kg];exact⟨v,r,e,Ht t v h1,ths_keys l r h2⟩
end
def Ua.ty{K:zZ}{N:aj->Prop}{H:Hp}{n:String}{v:V}(h:Ua N H n v):Yp K H v (.type n):=by
 rcases h with ⟨rfl,b,rfl⟩ | ⟨rfl,rfl⟩ | ⟨rfl,a,c,rfl,e,_⟩ | ⟨rfl,a,c,rfl,e,_⟩
 ·exact .bl b
 ·exact .non
 ·exact .lst e
 ·exact .dK e
def ZNR{K:zZ}{N:aj->Prop}{H:Hp}{n:String}{v:V}(h:Ua N H n v):
  ∃ b,yO K (.type n) (.type "bool")=some b/\(b=false->yO K (.type n) (.type "int")=some false/\yO K (.type n) (.type "str")=some false/\yO K (.type n) (.type "tuple")=some false):=by
 rcases h with ⟨rfl,_⟩ | ⟨rfl,_⟩ | ⟨rfl,_⟩ | ⟨rfl,_⟩
 ·exact⟨true,ZPd,λz=>absurd z (by decide)⟩
 ·exact⟨false,by kernel_rfl,λ_=>⟨by kernel_rfl,by kernel_rfl,by kernel_rfl⟩⟩
 ·exact⟨false,by kernel_rfl,λ_=>⟨by kernel_rfl,by kernel_rfl,by kernel_rfl⟩⟩
 ·exact⟨false,by kernel_rfl,λ_=>⟨by kernel_rfl,by kernel_rfl,by kernel_rfl⟩⟩
end Tw
namespace L2
open PySem PySem.Spec PyProof.Rows
abbrev Ue(a:aj)(o:aI):HO:=.ext λh=>h.get? a=some o
def KZ{P:al}{w:ax}{H:Hp}{h:aE}{a:aj}{o:aI}(e:h.get? a=some o):Ze P w H h a (Ue a o):=⟨e,⟨o,e⟩,λ_ _ b k=>k o b⟩
def Yd.obj{P:al}{w:ax}{H:Hp}{h:aE}{a:aj}{o:aI}(x:Yd P w H h)(e:H a=some (Ue a o)):h.get? a=some o:=(x a _ e).1
section
variable{H H2:Hp}{h h':aE}{cs fs ex:jE}
end
inductive X9(o:aI)(q:Str):Prop
 |mk(a t:_)(_:o.data=.fields a)(_:a[1]? = some (.str q t))
def ZQV(H:Hp)(q:Str)(d:jx):Prop:=TriplesOk d.toList/\∀ pos c,PySem.codeAmong pos d.toList=some c->∃ a b,c=.ref a/\H a=some (Ue a b)/\X9 b q
inductive YN(H:Hp)(P:aj)(q:Str):Prop
 |mk(a:_)(_:H P=some (.tbl a))(_:ZQV H q a)
def Gj{a b:Int}{t u:Tok}{c:ai}:∀(l:je),TriplesOk l->TriplesOk (l++[.int a t,.int b u,c])
 | [],_=>trivial
 | .int _ _::.int _ _::_::r,h=>Gj r h
def HS{pos:Pos}{a b:Int}{t u:Tok}{c e:ai}:∀(l:je),TriplesOk l->PySem.codeAmong pos (l++[.int a t,.int b u,c])=some e->PySem.codeAmong pos l=some e\/e=c
 | [],_,h=>by
  unfold PySem.codeAmong at h;simp only[vE] at h;split at h
  ·cases h;exact .inr Z
  ·simp[PySem.codeAmong] at h
 | .int i _::.int j _::d::r,hT,h=>by
  simp only[tR] at h;unfold PySem.codeAmong at h⊢;split at h
  ·rename_i q
   rw[aO q];exact .inl h
  ·rename_i q
   rw[aM q];exact HS r hT h
def ZRm(P:aj)(c:Arguments)(g:Expr)(d:aF)(a:Str)(k:jH):TE:=λ_ H Q=>
 YN H P a/\∀(e:Hp)(f h:aj)(j:aI)(l i:ai),X9 j a->e f=some (Ue f (vY "<lambda>" a c g d k l h i))->e h=some (Ue h j) ->
  (∀ b o,b≠P->H b=some o->e b=some o)->YN e P a->(∀ b,b=f\/b=h\/b=P\/e b=H b)->Q (.ref f) e
def ZO5{X:Cx}{P c:aj}{f:Arguments}{k:Expr}{g:aF}{cl:jH}{pos:Pos}(x:X.env.code=.ref c)(C:wI X.base c P)(hb:X.base.BuiltinsAt X.mg P)(R:defaultsOf f X.env=([],[]))(O:closureFor g X.env=pure cl):PE X (.Lambda f k g pos) (ZRm P f k g (X.env.qual ++ "<lambda>") cl):=by
 intro a8 s σ H Q I h;let⟨⟨A,p,M,hA⟩,h⟩:=h;let gP:s.heap.get? P=some (uS A):=I.hok P _ p;let nb:∀{b o},X.base.get? b=some o->b≠P:=fun{b o} e z=>by
  have:=(I.bs b o e).2;rw[z,p] at this;cases this
 let a3:ao≠P:=by
  let⟨o,es,ep,e,_⟩:=I.mod.glob;exact nb e
 let hg:s.heap.Ns ao X.mg:=I.mod.glob.keeps I.bk;let N:s.heap.BuiltinsAt X.mg P:=by
  let⟨bm,o,b1,b2,b3,b4,b5,r⟩:=hb;exact⟨bm,o,b1,b2,b3,b4,I.bk _ _ b5,r⟩
 refine PySem.W.kla_eval R ?_
 cases hf:PySem.codeAmong pos A.toList with
 | none=>
  refine PySem.W.kla_makeFunction O I.ok.glob hg x (C.keeps I.bk) gP M hf a3 N λj l i tk hx E S T a6=>?_;let⟨a7,B,vs,t,K,a4,hd,hv⟩:=T;cases K;let kp:∀ b o,b≠P->s.heap.get? b=some o->(i.push (vY "<lambda>" (X.env.qual ++ "<lambda>") f k g cl ((X.mg "__name__").getD .none) j l)).get? b=some o:=λb o n e=>zQ _ (hx b o n e);let sz:s.heap.objs.size<=i.objs.size:=yK (xG E S);let nc:H j=none:=I.hok.fresh E;let V:H i.objs.size=none:=I.hok.fresh sz;let cP:j≠P:=λz=>by rw[z,p] at nc;cases nc
  let fP:i.objs.size≠P:=λz=>by rw[z,p] at V;cases V
  let fc:i.objs.size≠j:=uA S
  let' ps':Array Value:=A++#[rawInt pos.line,rawInt pos.col,.ref j]
  let' fo:Obj:=vY "<lambda>" (X.env.qual ++ "<lambda>") f k g cl ((X.mg "__name__").getD .none) j l
  let' H1:Hp:=upd (upd (upd H P (.tbl ps')) j (Ue j B)) i.objs.size (Ue i.objs.size fo)
  let e1:H1 i.objs.size=some (Ue i.objs.size fo):=ZP;let K:H1 j=some (Ue j B):=by show upd _ _ _ _=_;rw[ZU fc.symm];exact ZP
  let e3:H1 P=some (.tbl ps'):=by show upd _ _ _ _=_;rw[ZU fP.symm,ZU cP.symm];exact ZP
  let e4:∀ b,b≠P->b≠j->b≠i.objs.size->H1 b=H b:=λb n1 n2 n3=>by show upd _ _ _ _=_;rw[ZU n3,ZU n2,ZU n1]
  let v:∀ b o,b≠P->H b=some o->H1 b=some o:=λb o n e=>by
   rw[e4 b n (ZY e nc) (ZY e V)];exact e
  let gc:(i.push fo).get? j=some B:=zQ _ a4;let gf:(i.push fo).get? i.objs.size=some fo:=yS _ Z;let L:(i.push fo).get? P=some (uS ps'):=zQ _ a6;let a5:Yd X.prog X.w H1 (i.push fo):=λb u e=>by
   by_cases z1:b=i.objs.size
   ·subst z1;rw[e1] at e;cases e;exact KZ gf
   by_cases z2:b=j
   ·subst z2;rw[K] at e;cases e;exact KZ gc
   by_cases J:b=P
   ·subst J;rw[e3] at e;cases e;exact L
   rw[e4 b J z2 z1] at e;refine(I.hok b u e).stay (λa ob y q=>kp a ob ?_ q) (λa q=>v a _ ?_ q) λa xs q=>v a _ ?_ q
   ·rcases y with rfl | y
    ·exact J
    ·intro z;rw[z,p] at y;cases y
   ·intro z;rw[z,p] at q;cases q
   ·intro z;rw[z,p] at q;cases q
  let un:Un X.fs [] H H1 s.heap (i.push fo):=by
   let F:∀ b,H b=none->b≠P:=λb n z=>by rw[z,p] at n;cases n
   refine⟨λb o q n _ _=>kp b o (F b n) q,λb o q n _ _=>⟨o.slots,kp b o (F b n) q⟩,λb o q n _=>?_,λb o q _=>?_,λb xs q=>v b _ ?_ q,λb o u q=>v b _ ?_ q,λb qs q=>?_⟩
   ·rw[e4 b (F b n) (yW (yY (zP q) E)) (yW (yY (zP q) sz))];exact n
   ·by_cases z:b=P
    ·exact⟨_,by rw[z];exact L⟩
    ·exact⟨o,kp b o z q⟩
   ·intro z;rw[z,p] at q;cases q
   ·intro z;rw[z,p] at q;cases q
   ·by_cases z:b=P
    ·subst z;rw[p] at q;cases q;exact⟨_,e3⟩
    ·exact⟨#[],by rw[v b _ z q];simp⟩
  refine⟨.ref i.objs.size,H1,I.un (t':=tk) un a5,Z,h H1 i.objs.size j B _ l ⟨vs,t,hd,hv⟩ e1 K v ⟨ps',e3,?_,λm G y=>?_⟩ λb=>?_⟩
  ·show TriplesOk (A++#[rawInt pos.line,rawInt pos.col,.ref j]).toList;rw[xE];exact Gj _ M
  ·let a0:PySem.codeAmong m (A.toList++[rawInt pos.line,rawInt pos.col,.ref j])=some G:=by
    have:ps'.toList=A.toList++[rawInt pos.line,rawInt pos.col,.ref j]:=by show (A++#[rawInt pos.line,rawInt pos.col,.ref j]).toList=_;rw[xE]
    rw[<-this];exact y
   rcases HS _ M a0 with z | z
   ·let⟨d,D,y1,Y,y3⟩:=hA m G z;exact⟨d,D,y1,v _ _ (λz=>by rw[z,p] at Y;cases Y) Y,y3⟩
   ·exact⟨j,B,z,K,vs,t,hd,hv⟩
  ·by_cases z1:b=i.objs.size
   ·exact .inl z1
   by_cases z2:b=j
   ·exact .inr (.inl z2)
   by_cases J:b=P
   ·exact .inr (.inr (.inl J))
   exact .inr (.inr (.inr (e4 b J z2 z1)))
 | some G=>
  let⟨j,B,rfl,a1,a2⟩:=hA pos G hf;refine PySem.W.kla_makeFunctionHit O I.ok.glob hg x (C.keeps I.bk) gP M hf N λl i tk hk U=>?_;let V:H i.objs.size=none:=I.hok.fresh U;let v:∀ b o,H b=some o->upd H i.objs.size (Ue i.objs.size (vY "<lambda>" (X.env.qual ++ "<lambda>") f k g cl ((X.mg "__name__").getD .none) j l)) b=some o:=λb o e=>by rw[ZU (ZY e V)];exact e
  refine⟨.ref i.objs.size,_,I.laid (t':=tk) (a:=i.objs.size) (o:=Ue i.objs.size (vY "<lambda>" (X.env.qual ++ "<lambda>") f k g cl ((X.mg "__name__").getD .none) j l)) (λb o e=>zQ _ (hk b o e)) U (KZ (yS _ rfl)),Z,
   h _ i.objs.size j B _ l a2 ZP (v _ _ a1) (λb o _ e=>v b o e) ⟨A,v _ _ p,M,λm G y=>?_⟩ λb=>?_⟩
  ·let⟨d,D,y1,Y,y3⟩:=hA m G y;exact⟨d,D,y1,v _ _ Y,y3⟩
  ·by_cases z:b=i.objs.size
   ·exact .inl z
   ·exact .inr (.inr (.inr (ZU z)))
def ZK7{K:zZ}{x d:Str}{l:aD}{f c P:aj}{e:am}(F:Zg K x d l f e)(i:zJ K ao x=some (some (.ref f)))(a:xK K x=some (c,P)):e.code=.ref c:=by
 let⟨o,p,kV,g,q,m,b,ct,k,rfl,j,h⟩:=F.ex;unfold xK at a;rw[i] at a;simp only at a;rw[j] at a;simp only at a;show b=.ref c
 cases b with
 | ref n=>
  simp only at a;split at a
  ·split at a
   ·cases a;rfl
   ·cases a
  ·cases a
 | _=>cases a
def Zg.okC{P:al}{w:ax}{K:zZ}{r:jc}{d:aE}{x b:Str}{i:aD}{f c T:aj}{q:am}{N o:jt}{k:Nat}{p:Sp}(F:Zg K x b i f q)(z:zJ K ao x=some (some (.ref f)))(C:xK K x=some (c,T))(S:ZC N o (Za i))(n:∀ h H Q E,p h H Q E->h.length=o.length)(g:∀ (A:ay) (a:jB) (s:ak) (H:Hp) (h:jf) (Q:VK) (E:XK),ZT k (A.deeper (envOfC b (Za i) s.heap.objs.size f (.ref c)))->p h H Q E ->
   ∃ t,X7 (WW ZQ P w K r d N b (Za i) f (.ref c) A a s H E) (WT i) t/\t { nx:=λ_ u=>Q .non u,rt:=Q } (UA N h) H):ZI P w K r d ZQ (k+1) f q o p:=by
 let e:=ZK7 F z C;let⟨J,L,kV,v,M,I,j,ct,G,rfl,D,l⟩:=F.ex;let y:j=.ref c:=e;subst y;exact IP D l S n λA a s H h Q E B m=>g A a s H h Q E B m
def Af{P:al}{w:ax}{K:zZ}{G mb:jc}{k:Nat}{fa a c T:aj}{fd:am}{x:Str}{sp:Sp}{f:ak}{L:je}{ns:jF}(KX:K.In f.heap)(O:f.heap.Ns ao G)(i:f.heap.Ns builtinsNs mb)(c1:∀ x:Str,x ≠ "__name__"->mb x=az x)(a4:f.heap.NoLimit)(hg:f.gens=#[])(c2:∃ X J,G "__builtins__" = some (.ref X)/\X≠builtinsNs/\f.heap.get? X=some J/\J.cls=.type "module" /\ J.dict=some builtinsNs/\J.data=.plain)(hC:wI f.heap c T)(C:f.heap.get? T=some (uS #[]))(c6:sJ K=true)(S:f.heap.get? a=some { cls:=.type "list",data:=.seq L.toArray })(hi:IntsAre L ns)(hl:ns.length<=aq)(hr:ZT k callerA)(F:∀ j:aE,K.In j->j.Ns ao G->wI j c T->j.BuiltinsAt G T->ZI P w K G j ZQ k fa fd [x] sp)(N:∀ (s:ak) (u:ai),BindsTo s fd ⟨[u],[]⟩ [(x,u)])(c3:∀ H:Hp,H T=some (.tbl #[])->ZH K H a (ns.map V.int)->sp [.ref a] H (λv _=>v=.bl true) λ_ _ _=>False):
  codeAny (aB P w) callerA (.call (.ref fa) ⟨[.ref a],[]⟩) (λr l=>r=.ok (.ret (.bool true))/\OldK f.heap l.heap/\l.os=f.os/\AllBare l.gens) f:=by
 let rv:=Iy hi;let a6:=hi.length;let aT:a≠T:=λz=>by rw[z,C] at S;cases S
 let A:∀ H:Hp,H T=some (.tbl #[])->ZH K H a (ns.map V.int)->Yd P w H f.heap->(∀ b,H b≠none->b=a\/b=T)->(H a≠none->K.lookup a=none/\∃ o xs,H a=some (.frz o (.lst xs))) ->
   codeAny (aB P w) callerA (.call (.ref fa) ⟨[.ref a],[]⟩) (λr l=>r=.ok (.ret (.bool true))/\OldK f.heap l.heap/\l.os=f.os/\AllBare l.gens) f:=by
  intro H hO hS a5 hA hK;let g:∀{b:aj}{o:aI},f.heap.get? b=some o->H b=none->(V0 f.heap H).get? b=some o:=λe n=>Fm e n;let Q:∀{b:aj}{o:aI},f.heap.get? b=some o->(∀ c5 n,o.data≠.seq c5 n)->(∀ v,o≠uS v)->H b=none:=fun{b o} e d1 d2=>by
   cases q:H b with
   | none=>rfl
   | some u=>
    rcases hA b (by rw[q];simp) with p | p
    ·subst p;rw[S] at e;cases e;exact absurd Z (d1 _ _)
    ·subst p;rw[C] at e;cases e;exact absurd Z (d2 _)
  let t:∀{b:aj}{m:jc},f.heap.Ns b m->(V0 f.heap H).Ns b m:=fun{b m} ⟨o,es,ep,e,d,r⟩=>⟨o,es,ep,g e (Q e (λ_ _ z=>by rw[d] at z;cases z) (λ_ z=>by rw[z] at d;cases d)),d,r⟩
  let a2:K.In (V0 f.heap H):=λb o e=>g (KX b o e) (by
   cases q:H b with
   | none=>rfl
   | some u=>
    rcases hA b (by rw[q];simp) with p | p
    ·subst p;rw[(hK (by rw[q];simp)).1] at e;cases e
    ·subst p;let B:=KX _ _ e;rw[C] at B;cases B;let h2:=yZ.mp c6 _ (PySem.W.mem_of_lookupK e);exact absurd (show false=true from h2) zW)
  let hM:Mod K G (V0 f.heap H):=⟨a2,t O,⟨mb,t i,c1⟩,let ⟨mc,h1,h2⟩:=a4;⟨mc,t h1,h2⟩⟩;let a9:wI (V0 f.heap H) c T:=by
   let⟨o,L,a0,tf,M,tg,c4,a7,tt,Y,B,e3,r⟩:=hC;exact⟨o,L,a0,tf,M,tg,c4,a7,tt,g Y (Q Y (λ_ _ z=>by rw[e3] at z;cases z) (λ_ z=>by rw[z] at B;cases B)),B,e3,r⟩
  let a8:(V0 f.heap H).BuiltinsAt G T:=by
   let⟨X,J,b1,b2,R,b4,b5,b6⟩:=c2;refine⟨X,J,b1,b2,λz=>?_,λz=>?_,g R (Q R (λ_ _ z=>by rw[b6] at z;cases z) (λ_ z=>by rw[z] at b4;cases b4)),b4,b5,b6⟩
   ·let⟨o,es,ep,e,d,_⟩:=O;rw[z,e] at R;cases R;rw[d] at b6;cases b6
   ·rw[z,C] at R;cases R;cases b4
  let e0:VO P w K G (V0 f.heap H) callerA [] f H:=⟨Z,hM,λb o e=>DJ e,wK (Ee _ _),trivial,λb i=>absurd (show b∈([]:jE) from i) (by simp),a5,.of_eq hg⟩
  refine codeAny_mono ((F _ a2 (t O) a9 a8).run callerA [] f H ⟨[.ref a],[]⟩ [.ref a] [.ref a] _ _ hr e0 (N f (.ref a)) (.cons rfl .nil) (c3 H hO hS)) λr l h=>?_
  cases r with
  | error e=>exact h.elim
  | ok fl=>
   cases fl with
   | next=>exact False.elim h
   | brk=>exact False.elim h
   | cont=>exact False.elim h
   | ret u=>
    let⟨v,H',os,U,un,D,r',q⟩:=h;let q':v=.bl true:=q;subst q';obtain rfl:u=Value.bool true:=r';let⟨I,c0⟩:=un.tbls T #[] hO;let a1:l.heap.get? T=some (uS (#[]++I)):=D T _ c0;let E:∀ b o,b≠T->f.heap.get? b=some o->l.heap.get? b=some o:=λb o n e=>by
     cases q:H b with
     | none=>exact un.keep b o e q (by intro z;exact absurd (show b∈([]:jE) from z) (by simp)) (by simp)
     | some u=>
      let p:b=a:=(hA b (by rw[q];simp)).resolve_right n
      subst p;let⟨_,J,xs,z⟩:=hK (by rw[q];simp)
      let z2:=un.frzs b J _ z;let⟨Y,_⟩:=a5 b _ z;let⟨B,_⟩:=D b _ z2;rw[e] at Y;cases Y;exact B
    refine⟨Z,⟨λb o e=>?_,λb o e=>?_⟩,os,U⟩
    ·by_cases z:b=T
     ·subst z;rw[C] at e;cases e;exact .inr (.inl ⟨(hC.tab C).isCodeTable,rfl,#[],I,rfl,a1⟩)
     ·exact .inl (E b o z e)
    ·by_cases z:b=T
     ·subst z;exact⟨_,a1⟩
     ·exact⟨o,E b o z e⟩
 cases hk:K.lookup a with
 | some o=>
  let e:=KX a o hk;rw[S] at e;cases e;refine A (λb=>if b=T then some (.tbl #[]) else none) (aO Z) (.inr ⟨_,L.toArray,_,hk,rfl,rfl,rfl,by rw[zR,a6];exact hl,by simpa using rv⟩) (λb u z=>?_) (λb z=>?_) λz=>absurd (aM aT) z
  ·by_cases i:b=T
   ·let y:=(aO i).symm.trans z;cases y;subst i;exact C
   ·let y:=(aM i).symm.trans z;cases y
  ·by_cases i:b=T
   ·exact .inr i
   ·exact absurd (aM i) z
 | none=>
  refine A (λb=>if b=T then some (.tbl #[]) else if b=a then some (.frz { cls:=.type "list",data:=.seq L.toArray } (.lst (ns.map V.int))) else none) (aO Z) (.inl (.inr ⟨{ cls:=.type "list",data:=.seq L.toArray },(aM aT).trans (aO rfl)⟩)) (λb u z=>?_) (λb z=>?_) λ_=>⟨hk,_,_,(aM aT).trans (aO rfl)⟩
  ·by_cases i:b=T
   ·let y:=(aO i).symm.trans z;cases y;subst i;exact C
   ·let z:=(aM i).symm.trans z;by_cases i:b=a
    ·let y:=(aO i).symm.trans z;cases y;subst i;exact⟨S,by rw[zX];exact hl,L,_,rv,S⟩
    ·let y:=(aM i).symm.trans z;cases y
  ·by_cases i:b=T
   ·exact .inr i
   ·by_cases a3:b=a
    ·exact .inl a3
    ·exact absurd ((aM i).trans (aM a3)) z
def NK{l:tP}{n k:Nat}{q:al}{p:jt}{S:(jc)->aE->Prop}{N:ax->aE->Prop}{d U:DefRec}{K:Params->zZ}{sp:aj->zZ->Sp}{x px:Str}(hn:l.most=some n)(J:n<=aq)(E:d.params.defaults=[])(hr:ZT k callerA)(hY:∀ (w:ax) (h:aE),N w h->(K w.params).In h)(y:(recsOf q).find? (λe=>e.name==px)=some U)(z:∀ w:ax,∃ c T,xK (K w.params) px=some (c,T))(L:∀ w:ax,sJ (K w.params)=true)(F:∀ (w:ax) (r:jc) (A:aj) (h:aE) (c T:aj),(K w.params).In h->h.Ns ao r->r d.name=some (.ref A)->xK (K w.params) px=some (c,T) ->
   ∃ D:am,(∀ (s:ak) (u:ai),BindsTo s D ⟨[u],[]⟩ [(x,u)]) /\
    ∀ i:aE,(K w.params).In i->i.Ns ao r->wI i c T->i.BuiltinsAt r T->ZI l.prog w (K w.params) r i ZQ k A D [x] (sp T (K w.params)))(M:∀ (w:ax) (T:aj) (H:Hp) (a:aj) (B:jF),B.length<=n->H T=some (.tbl #[])->ZH (K w.params) H a (B.map V.int)->sp T (K w.params) [.ref a] H (λv _=>v=.bl true) λ_ _ _=>False):
  sP q p S N l.row.toRowW d [] (λf R=>PySem.call f R):=by
 refine Att.attach_call hn E λw P Q r mb A o pm cd X a R B G Y ho hd a0 I t m j hg=>?_;let C:=hY w _ Y;let⟨c,T,O⟩:=z w;let⟨hC,hT⟩:=PySem.W.tab_of G.T C y O;let⟨D,hb,hF⟩:=F w r A _ c T C G.T.g I O;exact Af C G.T.g G.T.b G.T.builtins G.T.nolimit hg G.T.bmain hC hT (L w) t m (zS j J) hr hF hb (λH hO hS=>M w T H a B j hO hS)
def Xr(H a:Hp):Prop:=(∀ b d,H b=some (.ext d)->a b=some (.ext d))/\∀ b c,H b=some (.tbl c)->a b=some (.tbl c)
def Xr.same{H a:Hp}(s:ZD H a):Xr H a:=⟨λb _ e=>s b _ e,λb _ e=>s b _ e⟩
def YN.ext{H a:Hp}{T:aj}{q:Str}(h:YN H T q)(e:Xr H a):YN a T q:=by
 let⟨k,f,g,i⟩:=h;exists k,e.2 _ _ f,g;intro pos d j;let⟨b,c,l,m,n⟩:=i pos d j;exact⟨b,c,l,e.1 _ _ m,n⟩
section
variable{cs:jE}{HL Hc H' H3:Hp}
end
def Jl{P:al}{w:ax}{K:zZ}{h:jc}{d:aE}{g:VZ}{N:jt}{c:Str}{a:aF}{f:aj}{e:ai}{A:ay}{b:jB}{s:ak}{H:Hp}{E:XK}:
  PassesOwn (aB (WW g P w K h d N c a f e A b s H E).prog (WW g P w K h d N c a f e A b s H E).w) (WW g P w K h d N c a f e A b s H E).A (WW g P w K h d N c a f e A b s H E).env (WW g P w K h d N c a f e A b s H E).xe:=by
 show PassesOwn (aB P w) (A.deeper (envOfC c a s.heap.objs.size f e)) (envOfC c a s.heap.objs.size f e) _
 passes_own
def PX:Expr->Bool
 | .Starred _ _=>false
 | _=>true
def We{e:Expr}{b:jC}{a:Env}(h:PX e=true):ar (e::b) a=(false,aH e a)::ar b a:=by
 cases e <;> first | rfl | cases h
def ZRr{X:Cx}{e:Expr}{a:jC}{b:TE}{t:TA}(c:PE X e b)(d:PA X a t)(h:PX e=true:=by rfl):PA X (e::a) (Yy b t):=ZX c d (We h)
def ZZ{X:Cx}{e:Expr}{a:TE}(b:PE X e a)(h:PX e=true:=by rfl):PA X [e] (Yy a VG):=ZX b Zk (We h)
def Zl{X:Cx}{e d:Expr}{b a:TE}(f:PE X e b)(g:PE X d a)(h:PX e=true:=by rfl)(c:PX d=true:=by rfl):PA X [e,d] (Yy b (Yy a VG)):=ZX f (ZZ g c) (We h)
def WQ{X:Cx}{a b c:Expr}{d e f:TE}(g:PE X a d)(i:PE X b e)(j:PE X c f)(h:[a,b,c].all PX=true:=by rfl):PA X [a,b,c] (Yy d (Yy e (Yy f VG))):=
 (ZX g (ZX i (ZX j Zk (We (yZ.mp h c (by simp)))) (We (yZ.mp h b (by simp)))) (We (yZ.mp h a (by simp))))
def Qb{X:Cx}{a b c d:Expr}{e f g i:TE}(j:PE X a e)(k:PE X b f)(l:PE X c g)(m:PE X d i)(h:[a,b,c,d].all PX=true:=by rfl):PA X [a,b,c,d] (Yy e (Yy f (Yy g (Yy i VG)))):=
 (ZX j (ZX k (ZX l (ZX m Zk (We (yZ.mp h d (by simp)))) (We (yZ.mp h c (by simp)))) (We (yZ.mp h b (by simp)))) (We (yZ.mp h a (by simp))))
def En{X:Cx}{a b c d e:Expr}{f g i j k:TE}(l:PE X a f)(m:PE X b g)(n:PE X c i)(o:PE X d j)(p:PE X e k)(h:[a,b,c,d,e].all PX=true:=by rfl):PA X [a,b,c,d,e] (Yy f (Yy g (Yy i (Yy j (Yy k VG))))):=
 (ZX l (ZX m (ZX n (ZX o (ZX p Zk (We (yZ.mp h e (by simp)))) (We (yZ.mp h d (by simp)))) (We (yZ.mp h c (by simp)))) (We (yZ.mp h b (by simp)))) (We (yZ.mp h a (by simp))))
def IK{X:Cx}{a b c d e f:Expr}{g i j k l m:TE}(n:PE X a g)(o:PE X b i)(p:PE X c j)(q:PE X d k)(r:PE X e l)(s:PE X f m)(h:[a,b,c,d,e,f].all PX=true:=by rfl):PA X [a,b,c,d,e,f] (Yy g (Yy i (Yy j (Yy k (Yy l (Yy m VG)))))):=
 (ZX n (ZX o (ZX p (ZX q (ZX r (ZX s Zk (We (yZ.mp h f (by simp)))) (We (yZ.mp h e (by simp)))) (We (yZ.mp h d (by simp)))) (We (yZ.mp h c (by simp)))) (We (yZ.mp h b (by simp)))) (We (yZ.mp h a (by simp))))
def VW(g:jx->Prop)(x C:aj)(b:jz)(h:aE):Prop:=∃ o a,h.get? x=some o/\o.cls=.ref C/\o.data=.fields a/\o.dict=b/\g a
def PH:jx->Prop:=λa=>a[1]? = some .none/\a[2]? = some .none
def ZRq:jx->Prop:=λ_=>True
def XO(g:jx->Prop)(x C:aj)(a:jz):HO:=.ext (VW g x C a)
def VW.is{g:jx->Prop}{x C:aj}{c:jz}{h:aE}(e:VW g x C c h):QQ x C h:=let ⟨o,_,a,b,_⟩:=e;⟨o,a,b⟩
def EB{P:al}{w:ax}{H:Hp}{h:aE}{g:jx->Prop}{x C:aj}{j:jz}(e:VW g x C j h):Ze P w H h x (XO g x C j):=by
 let⟨o,s,a,b,c,d⟩:=id e;exact⟨e,⟨o,a⟩,λq r ⟨i,f,l,m,n,p⟩ k=>⟨i,f,k i l,m,n,p⟩⟩
abbrev N0:je:=[.type "ValueError",.type "Exception",.type "BaseException",.type "object"]
def J7:je->Bool
 | .ref _::r=>J7 r
 | l=>l==N0
def HF(a:ai):∀{l:je},J7 l=true->PySem.refuseLoop a "__setattr__" l=pure ()
 | .ref c::r,e=>(refuseLoop_ref _ _ _ _).trans (HF a (l:=r) e)
 | .type n::r,e=>by rw[show (Value.type n::r)=N0 from beq_iff_eq.mp e];exact qB.passes a
 | [],e=>by cases e
 | .none::r,e | .bool _::r,e | .int _ _::r,e | .str _ _::r,e | .bytes _ _::r,e | .float _ _::r,e | .builtin _::r,e=>by cases(beq_iff_eq.mp e)
def F5(K:zZ)(C:aj):Bool:=(PySem.W.clsIn K C).any λa=>J7 a.mro
def Db:ai->Bool
 | .type t=>t == "type"
 | _=>false
def ZON{v:ai}(h:Db v=true):v=.type "type" :=by
 cases v with
 | type t=>exact congrArg Value.type (eq_of_beq h)
 | _=>cases h
def ED:Data->Option ClassData
 | .cls c=>some c
 | _=>none
def AV{d:Data}{c:ClassData}(h:ED d=some c):d=.cls c:=by
 cases d with
 | cls c=>cases h;rfl
 | _=>cases h
def Eu:jd->Bool
 | some (.builtin m)=>m == "ValueError.__new__"
 | _=>false
def D3{v:jd}(h:Eu v=true):v=some (.builtin "ValueError.__new__"):=by
 cases v with
 | none=>cases h
 | some v=>
  cases v with
  | builtin m=>exact congrArg (some <| Value.builtin ·) (eq_of_beq h)
  | _=>cases h
def FB(C:aj):je->Bool
 | .ref D::_=>D==C
 | _=>false
def ZPP{C:aj}{l:je}(h:FB C l=true):l=.ref C::l.tail:=by
 cases l with
 | nil=>cases h
 | cons v r=>
  cases v with
  | ref D=>exact congrArg (Value.ref ·::r) (eq_of_beq h)
  | _=>cases h
def NJ{b:Type}{n:Nat}{l:List b}(h:l.length=n+1):∃ a m,l=a::m:=by
 cases l with
 | nil=>cases h
 | cons a m=>exact⟨a,m,Z⟩
def B4{l:List (jd)}(h:l.length=6):∃ a b c d e f,l=[a,b,c,d,e,f]:=by
 let⟨a,l,rfl⟩:=NJ h;let⟨b,l,rfl⟩:=NJ (yD.inj h);let⟨c,l,rfl⟩:=NJ (yD.inj (yD.inj h));let⟨d,l,rfl⟩:=NJ (yD.inj (yD.inj (yD.inj h)));let⟨e,l,rfl⟩:=NJ (yD.inj (yD.inj (yD.inj (yD.inj h))));let⟨f,l,rfl⟩:=NJ (yD.inj (yD.inj (yD.inj (yD.inj (yD.inj h)))))
 cases l with
 | nil=>exact⟨a,b,c,d,e,f,Z⟩
 | cons _ _=>cases h
def FN{b:Type}{p:b->Bool}{o:Option b}(h:o.any p=true):∃ a,o=some a/\p a=true:=by
 cases o with
 | none=>cases h
 | some a=>exact⟨a,Z,h⟩
def Hg(K:zZ)(C:aj)(f:ClassData->Bool):Bool:=(K.lookup C).any λo=>Db o.cls&&(o.slots.toList.length==6&&(Eu (o.slots.toList.getD 4 none)&&(ED o.data).any λc=>FB C c.mro&&(PySem.W.tailIn K N0 c.mro.tail&&(!c.hasDel&&f c))))
inductive Py(K:zZ)(C:aj)(f:ClassData->Bool):Prop
 |mk(h e i j g k b d a l m n o p q:_)(c:je):K.lookup C=some (excClassObj h j C i e c g k b d a l m n o p q "ValueError.__new__")->PySem.W.tailIn K N0 c=true->f ⟨h,e,.ref C::c,i,j,g,k,b,d,a,false⟩=true->Py K C f
def BO{K:zZ}{C:aj}{f:ClassData->Bool}(h:Hg K C f=true):Py K C f:=by
 let⟨⟨H,l,I,⟨J⟩⟩,e,h⟩:=FN h;rw[zO,zO,zO] at h;let⟨n,o,p,q⟩:=h;let⟨⟨B,k,g,D,E,t,F,i,j,b,c⟩,m,h⟩:=FN q;rw[zO,zO,zO] at h;let⟨a,d,r,s⟩:=h;cases ZON n;cases AV m;let⟨u,w,x,y,z,A,rfl⟩:=B4 (eq_of_beq o);cases D3 (v:=z) p;let a:=ZPP a;dsimp only at a d;generalize g.tail=G at a d;subst a
 cases c with
 | true=>cases r
 | false=>exact⟨B,k,D,E,t,F,i,j,b,l,u,w,x,y,A,G,e,d,s⟩
def HI(K:zZ)(C:aj):Bool:=Hg K C λ_=>true
structure US(K:zZ)(C fI:aj)(f:Str):Prop where
 exc:Nn K C
 made:HI K C=true
 init:zD K (.ref C) "__init__" = some (some (.ref fI))
 fn:wB K (.ref fI)=true
 kp:yJ K (.ref C)=true
 sa:zD K (.ref C) "__setattr__" = some (some (.builtin "object.__setattr__"))
 no:zD K (.ref C) f=some none
 hd:vW K C=true
 over:F5 K C=true
section
variable{g:jx->Prop}{kh:ju}{σ:St}{H:Hp}{a C fI:aj}{f:Str}{v:V}
def Cq{y:V}{u:ai}{Q:Unit->ak->Prop}(I:ZF X kh σ H s)(e:H a=some (XO g a C none))(c:US X.K C fI f)(ry:ZR y u)(h:∀ L s',H L=none->L≠a->ZF X kh σ (upd (upd H L (.xd [(f,y)])) a (XO g a C (some L))) s'->Q () s'):aC (aB X.prog X.w) A (setAttr (.ref a) f u) Q E s:=by
 let⟨o,vs,N,d,i,x,a0⟩:=(I.hok a _ e).1;let⟨oc,od,a7,k⟩:=o;dsimp only at d i x;subst d i x;let J:PySem.W.InstAt s.heap a ⟨.ref C,none,.fields vs,k⟩ C none:=⟨N,Z,Z,True.intro⟩;refine PySem.W.set_plain I.kIn J c.sa ?_;let l:=qB;let⟨cd,S,ho⟩:=sC c.over;let a3:xL (aB X.prog X.w) s.heap (isInstance (.ref a) (.type "object")) true:=J.type.andThen (tI I.kIn c.exc.mO);refine codeAny_call_builtin l.slot.plain l.entry (@PySem.W.check_slot (aB X.prog X.w) _ _ { s with toks:=s.toks+1 } "object.__setattr__" "object" "__setattr__" (.ref a) [.str f s.toks,u] [] _ l.kind l.split a3 (l.args (.ref a) (.str f s.toks) u) ?_);let hm:xL (aB X.prog X.w) s.heap (mroOf (.ref C)) cd.mro:=(qV I.kIn S).andThen .now;rw[PySem.W.osa_eq,PySem.refuse_eq];refine aa (aa (xL.here (s:={ s with toks:=s.toks+1 }) J.type (aa (xL.here (s:={ s with toks:=s.toks+1 }) hm ?_))));rw[HF _ ho];refine ad (aa (xL.here (s:={ s with toks:=s.toks+1 }) J.type (aa (xL.here (s:={ s with toks:=s.toks+1 }) (rL I.kIn c.no) (aa (ad ?_))))));let⟨a4,t,T⟩:=sC c.hd;refine aa (ad (aa (aa (wpAny_loadPart N (aa (xL.here (s:={ s with toks:=s.toks+1 }) (qV I.kIn t) ?_))))));rw[T];dsimp only;let i:a≠s.heap.objs.size:=yW (zP N);let p:H s.heap.objs.size=none:=I.hok.fresh (zY _);rw[aM (by simp),aM (by simp[typeHasDict])]
 let D:=zQ { cls:=.type "dict",data:=.dict #[] } N;refine aa (wpAny_alloc' (aa (wpAny_update' D (ad ?_))));generalize O:((s.heap.push { cls:=.type "dict",data:=.dict #[] }).update a λo=>{ cls:=o.cls,dict:=some s.heap.objs.size,data:=o.data,slots:=o.slots })=M;let ga:M.get? a=some ⟨.ref C,some s.heap.objs.size,.fields vs,k⟩:=by
  rw[<-O];exact vS _ D Z
 let gd:M.get? s.heap.objs.size=some { cls:=.type "dict",data:=.dict #[] }:=by
  rw[<-O];exact(Heap.get?_update_ne _ _ _ _ i.symm).trans (Heap.get?_push_at Z Z)
 let go:∀ b o,b≠a->s.heap.get? b=some o->M.get? b=some o:=λb o n q=>by
  rw[<-O];exact(Heap.get?_update_ne _ _ _ _ n).trans (zQ _ q)
 let a1:M.Ns s.heap.objs.size (λ_=>none):=⟨_,#[],_,gd,Z,λe he=>absurd he (by simp),λ_=>rfl⟩
 show aC _ _ (Builtin.ObjectAttr.storeInDict s.heap.objs.size (.str f s.toks) f u) _ _ _;unfold Builtin.ObjectAttr.storeInDict Builtin.ObjectAttr.newKeyGuard;refine aa (ad (aa (wpAny_nsSet1 (Heap.Ns1.of_empty a1) λP B hs=>?_)));let⟨oD,a6,a5,a2,U,R⟩:=B.count (Within.cons f u Within.nil);refine aa (wpAny_lookBehind a2 (by rw[U];exact pastItsLine_dict (zS R (by rw[yV,sY,sizeLine_eq];lia))) ?_)
 let m:P.get? a=some ⟨.ref C,some s.heap.objs.size,.fields vs,k⟩:=(hs.2 a i).trans ga;let j:∀ b o,b≠a->s.heap.get? b=some o->P.get? b=some o:=λb o n q=>(hs.2 b (yW (zP q))).trans (go b o n q);let G:∀{b:aj}{o:HO},H b=some o->b≠s.heap.objs.size:=fun{b o} q z=>by rw[z,p] at q;cases q
 let na:∀{b:aj},H b=none->b≠a:=fun{b} q z=>by rw[z,e] at q;cases q
 refine ad (h s.heap.objs.size _ p i.symm (I.call' (s':={ s with heap:=P,toks:=_ }) (ch:=[]) rfl ⟨λb o q n _ _=>j b o (na n) q,λb o q n _ _=>⟨o.slots,j b o (na n) q⟩,λb o q n _=>?_,λb o q _=>?_,λb xs q=>?_,λb o u q=>?_,λb ps q=>?_⟩ (λb ob q=>?_) I.bare (λb hb=>absurd hb (by simp))))
 ·rw[ZU (na n),ZU (yW (zP q))];exact n
 ·by_cases z:b=a
  ·rw[z];exact⟨_,m⟩
  ·exact⟨o,j b o z q⟩
 ·rw[ZU (λz=>by rw[z,e] at q;cases q),ZU (G q)];exact q
 ·rw[ZU (λz=>by rw[z,e] at q;cases q),ZU (G q)];exact q
 ·exact⟨#[],by rw[ZU (λz=>by rw[z,e] at q;cases q),ZU (G q),q];simp⟩
 ·by_cases z:b=a
  ·rw[z,ZP] at q;cases q;rw[z];exact EB ⟨_,_,m,Z,Z,Z,a0⟩
  ·rw[ZU z] at q;by_cases z2:b=s.heap.objs.size
   ·rw[z2,ZP] at q;cases q;rw[z2];exists _,B;intro g;show Ys (xM g [(f,y)]) (if g=f then some u else none)
    by_cases Y:g=f
    ·rw[Y,aO rfl];simp only[xM,beq_self_eq_true];exact ry
    ·rw[aM Y];simp only[xM,beq_eq_false_iff_ne.mpr Y];exact True.intro
   ·rw[ZU z2] at q;let oc:∀{c:aj},H c=some (.own b)->c≠a:=fun{c} d z=>by rw[z,e] at d;cases d
    refine(I.hok b ob q).stay (λc u d r=>j c u ?_ r) (λc d=>?_) (λc xs d=>?_)
    ·rcases d with rfl | d
     ·exact z
     ·exact oc d
    ·rw[ZU (oc d),ZU (G d)];exact d
    ·rw[ZU (λz=>by rw[z,e] at d;cases d),ZU (G d)];exact d
end
section
variable{C fI:aj}{f:Str}
abbrev PY(h:aE)(C:aj)(a:je):Heap:=(h.push { cls:=.type "tuple",data:=.seq a.toArray }).push { cls:=.ref C,data:=.fields #[.ref h.objs.size,.none,.none,.none,.bool false,.none] }
def A3{e:je}{Q:ja}(X:K.In s.heap)(c:US K C fI f)(p:e.length<=aq)(h:aC (aB prog w) (A.under (.builtin "type.__call__" ⟨.ref C::e,[]⟩)) (call (.ref fI) (.ref (s.heap.objs.size+1)::e)) (λr D=>r=.none/\Q (.ref (s.heap.objs.size+1)) D) E { s with heap:=PY s.heap C e }):
  aC (aB prog w) A (call (.ref C) e) Q E s:=by
 let⟨a,g,d,t,B⟩:=s;let n:=c.made;let⟨nm,H,ns,qn,M,sn,u,G,k,I,R,S,U,V,Y,v,N,P,_⟩:=BO n;let i:a.get? C=some (excClassObj nm qn C ns H v M sn u G k I R S U V Y "ValueError.__new__"):=X _ _ N;let T:OwnTail a N0 v:=PySem.W.tail_of_in X P;let j:=PySem.F.excBase_ValueError;let f1:=tc_lookup;let f2:=tc_bind (.ref C);let hT:(⟨a,g,d,t,B⟩:ak).TypeIs (.ref C) "type" :=⟨_,i,Z⟩;refine wpAny_call (codeAny_of_tree (show aC _ _ (callAny (.ref C) _) _ _ _ from ?_))
 repeat (any_goals (first | assumption | with_reducible refine wpAny_loadPart_at i ?_ | wp_step))
 refine⟨Z,codeAny_call_builtin_at (Code.quiet_builtin _ (by decide +kernel)) entry_typeCall (wpAny_check_type_call_sub i ?_)⟩
 repeat (first | with_reducible refine wpAny_loadPart_at i ?_ | with_reducible refine wpAny_madeBy_exc i ?_ | wp_step)
 refine codeAny_call_builtin_code (Code.quiet_builtin _ j.quiet) (wpAny_check_new_subU j j.hasB T i (codeAny_exc_new_subU j j.hasB j T i ?_ p));show aC _ _ _ _ _ _;let J:(PY a C e).get? (a.objs.size+1)=some { cls:=.ref C,data:=.fields #[.ref a.objs.size,.none,.none,.none,.bool false,.none] }:=by heap_get
 let y:∀ b o,a.get? b=some o->(PY a C e).get? b=some o:=λb o q=>zQ _ (zQ _ q);let l:=y _ _ i;let m:(Value.ref C::v).contains (.ref C)=true:=by simp
 unfold isInstance;show aC _ _ _ _ _ ⟨PY a C e,g,d,t,B⟩
 repeat (first | with_reducible refine wpAny_loadPart_at J ?_ | wp_step)
 refine wpAny_isSubtype_exc (C:=C) (h:=PY a C e) l ?_;rw[m]
 repeat wp_step
 let x:K.In (PY a C e):=λb o q=>y b o (X b o q);show aC _ _ (typeLookup (.ref C) _) _ _ _;refine(rL x c.init).at ?_;refine af (aa ((PySem.W.bind_fn x _ (beq_iff_eq.mp c.fn)).at ?_));refine aa (ae h (λr D O=>?_) λ_ _ z=>z);let⟨rfl,L⟩:=O
 wp_walk
 exact L
end
inductive OF(K:zZ)(f:Str)(D:YJ)(e:L2.St)(y x:V)(c:Hp):Prop
 |mk(g a C d:_)(_:x=.ref a)(_:c a=some (XO g a C none))(_:US K C d f)(_:∀ b,c b=none->b≠a->D.nx e (upd (upd c b (.xd [(f,y)])) a (XO g a C (some b))))
def ZQ4(K:zZ)(d e:TE)(f:Str):TS:=λD a H=>e a H λy b=>d a b λx c=>OF K f D a y x c
def LO(K:zZ)(C c:aj)(f:Str):Sp:=λd H Q _=>US K C c f/\∃ a y,d=[.ref a,y]/\H a=some (XO PH a C none)/\∀ b,H b=none->b≠a->Q .non (upd (upd H b (.xd [(f,y)])) a (XO PH a C (some b)))
section
variable{C fI:aj}{f:Str}{e o value:Expr}{es:jC}{ta tv:TE}{t:TA}{pos pos' p:Pos}{x:Str}
def ZNM(v:PE X o ta)(B:PE X value tv)(A:swapsWith value (some (.Attribute o f pos')) pos.line X.env=pure false):PS X (.Assign [.Attribute o f pos'] value pos) (ZQ4 X.K ta tv f):=by
 intro b s d H D I h;refine plainObj_wpAny_Assign_Attribute (Z2 (B b s d H _ I h) λu L y i j J q=>Zy (v b L d i _ j q) λE O ⟨x,M,k,G,g,a,C,fI,r,n,c,F⟩=>?_) A;subst r;obtain rfl:E=Value.ref a:=G;exact Cq k n c J λm N w z l=>⟨d,_,l,F m w z⟩
def ZF.newx{g:ju}{j:St}{H:Hp}{s:ak}{h':aE}{ea:aj}(I:ZF X g j H s)(d:∀ b o,s.heap.get? b=some o->h'.get? b=some o)(n:s.heap.get? ea=none)(m:VW PH ea C none h'):ZF X g j (upd H ea (XO PH ea C none)) { s with heap:=h' }:=by
 let l:H ea=none:=by
  cases z:H ea with
  | none=>rfl
  | some o=>
   let⟨A,q⟩:=I.hok.there (a:=ea) (by rw[z];exact λy=>nomatch y)
   rw[n] at q;cases q
 let i:∀{b:aj}{o:HO},H b=some o->b≠ea:=fun{b o} q z=>by rw[z,l] at q;cases q
 refine I.call' (s':={ s with heap:=h' }) (ch:=[]) Z ⟨λb o q _ _ _=>d b o q,λb o q _ _ _=>⟨o.slots,d b o q⟩,λb o q z _=>?_,λb o q _=>⟨o,d b o q⟩,λb w q=>?_,λb o u q=>?_,λb B q=>⟨#[],?_⟩⟩ (λb v q=>?_) I.bare (λb k=>absurd k (by simp))
 ·rw[ZU (λy=>by rw[y,n] at q;cases q)];exact z
 ·rw[ZU (i q)];exact q
 ·rw[ZU (i q)];exact q
 ·rw[ZU (i q),q];simp
 ·by_cases z:b=ea
  ·rw[z,ZP] at q;cases q;rw[z];exact EB m
  ·rw[ZU z] at q;exact(I.hok b v q).stay (λc u _ r=>d c u r) (λc h=>by rw[ZU (i h)];exact h) (λc w h=>by rw[ZU (i h)];exact h)
end
def Dq(f:jx->jx)(o:aI):(Obj.mapFields f o).dict=o.dict:=by
 let⟨c,d,a,b⟩:=o;cases a <;> rfl
def NR(B:aE)(cls:ai)(b:jx):Prop:=b[2]? = some .none\/∀ C o a,cls=.ref C->B.get? C=some o->o.data=.cls a->a.name ≠ "NoStem"
def ZQj(h B:aE)(e:aj)(cls:ai)(g:jz)(f:ai):Prop:=
 ∃ a b T c d,(h.get? e=some a/\a.cls=cls/\a.dict=g/\a.data=.fields b/\b[1]? = some (.ref T))/\B.get? T=none/\T≠e/\h.get? T=some c/\c.data=.fields d/\d[3]? = some f/\NR B cls b
def UC(B:aE)(l:jB)(e:aj)(cls:ai)(b:jz)(a:ai)(h:aE):Prop:=B.StaysIn h/\B.get? e=none/\h.FunFrames B l/\ZQj h B e cls b a
def UC.at{B h:aE}{l:jB}{e C:aj}{f:jz}{g:ai}(x:UC B l e (.ref C) f g h):VW ZRq e C f h:=by
 let⟨_,_,_,i,j,T,k,m,⟨a,b,c,d,_⟩,_⟩:=x;exact⟨i,j,a,b,d,c,trivial⟩
section
variable{M:Model}{B:aE}{env:Env}{outer l:jB}{L e:aj}{cls:ai}{od:jz}{Q:Unit->ak->Prop}
def FO{oe:aI}{vs:jx}{first:ai}{nx:Bool}(fr:A.frames=some (env::outer))(ff:s.heap.FunFrames B (env::outer))(eL:env.frame=some L)(ge:s.heap.get? e=some oe)(sb:B.StaysIn s.heap)(eB:B.get? e=none)(dd:oe.data=.fields vs)(two:1<vs.size)(cx:NR B oe.cls vs)(h:∀ h',UC B (env::outer) e oe.cls oe.dict (rawInt L) h'->s.heap.UpToSlots h'->Q () { s with heap:=h' }):
  aC M A (frameOf env >>= λa=>entryPlaceOf L nx >>= λpl=>EntryCells.newEntry first a .none (rawInt L) .none pl >>= λb=>setField (.ref e) 1 b) Q E s:=by
 let en:e∉(env::outer).filterMap (·.frame):=λz=>by
  let⟨_,o,g1,g2⟩:=ff.mem z;rw[ge] at g1;cases g1;exact g2 vs dd
 refine aa (wpAny_frameOf_fun fr ff eL λh1 k1=>aa (wpAny_entryPlaceOf λpl kp=>?_));unfold EntryCells.newEntry newFields;refine aa (wpAny_newObj_type ?_ (kp.sizeOk5 _ _ _ _ _));let t3:([first,Value.ref L,.none,rawInt L,.none]++(if pl.isEmpty then uT 6 Value.none else pl)).toArray[3]? = some (rawInt L):=by
  first | (simp;done) | (rcases kp with rfl | ⟨_,_,_,_,_,_,_,rfl⟩ <;> simp)
 generalize ([first,Value.ref L,.none,rawInt L,.none]++(if pl.isEmpty then uT 6 Value.none else pl)).toArray=ts at t3⊢;let g1:h1.get? e=some oe:=(k1.2.1 e en).trans ge;let sb1:B.StaysIn h1:=λb o q=>(k1.2.1 b λz=>by rw[(ff.mem z).1] at q;cases q).trans (sb b o q)
 let eT:h1.objs.size≠e:=λz=>wA _ (by have:=zP g1;rw[<-z] at this;exact this)
 let g2:=zQ (h:=h1) ({ cls:=.type "traceback",dict:=none,data:=.fields ts }:aI) g1;let d3:=Obj.data_mapFields dd (·.setIfInBounds 1 (Value.ref h1.objs.size));let g3:=vS (Obj.mapFields (·.setIfInBounds 1 (Value.ref h1.objs.size))) g2 (Obj.isFreed_of_fields d3);let gT:=(vQ (h1.push ({ cls:=.type "traceback",dict:=none,data:=.fields ts }:aI)) (Obj.mapFields (·.setIfInBounds 1 (Value.ref h1.objs.size))) eT.symm).trans (yS h1 Z);let stay:∀ b o,b≠e->h1.get? b=some o->((h1.push ({ cls:=.type "traceback",dict:=none,data:=.fields ts }:aI)).update e (Obj.mapFields (·.setIfInBounds 1 (Value.ref h1.objs.size)))).get? b=some o:=λb o n q=>
  (vQ _ _ n.symm).trans (zQ _ q)
 let notE:∀ b o,s.heap.get? b=some o->(∀ ws,o.data≠.fields ws)->b≠e:=λb o q nf z=>by
  rw[z,ge] at q;cases q;exact nf vs dd
 refine wpAny_setField g2 dd two (h _ ⟨λb o q=>stay b o (λz=>by rw[z,eB] at q;cases q) (sb1 b o q),eB,ff.of_keeps λb o q nf=>?_,_,_,h1.objs.size,_,_,⟨g3,Obj.cls_mapFields _ _,Dq _ _,d3,by simp[two]⟩,sb1.fresh,eT,gT,Z,t3,cx.imp (λz=>by rw[Array.getElem?_setIfInBounds_ne (by decide)];exact z) id⟩ λb o q nf=>?_)
 ·let⟨sl,z⟩:=k1.2.2 b o q;exact⟨_,stay b _ (notE b o q nf) z,Z⟩
 ·let⟨sl,z⟩:=k1.2.2 b o q;exact⟨sl,stay b _ (notE b o q nf) z⟩
def N8{F:ai}(x:UC B l e cls od F s.heap)(h:∀ j,UC B l e cls od .none j->s.heap.UpToSlots j->Q () { s with heap:=j }):aC M A (setFlight (.ref e) none) Q E s:=by
 let⟨H,C,D,G,J,T,N,t,⟨p,v,w,m,u⟩,TB,k,i,g,I,y⟩:=x;let r:3<t.size:=(uE.mp I).1;let a:∀ b,b≠T->(s.heap.update T (Obj.mapFields (·.setIfInBounds 3 ((none:jz).elim Value.none λf=>rawInt f)))).get? b=s.heap.get? b:=λb n=>vQ _ _ n.symm;let c:∀ b o,s.heap.get? b=some o->(∀ K,o.data≠.fields K)->b≠T:=λb o q d z=>by
  rw[z,i] at q;cases q;exact d t g
 unfold setFlight;refine aa (wpAny_field p m u ?_);rw[aO (show (Value.ref T != Value.none)=true by simp)]
 refine wpAny_setField i g r (h _ ⟨λb o q=>(a b λz=>by rw[z,TB] at q;cases q).trans (H b o q),C,D.of_keeps λb o q d=>⟨o,(a b (c b o q d)).trans q,Z⟩,?_⟩ λb o q d=>⟨o.slots,(a b (c b o q d)).trans q⟩)
 exact⟨G,J,T,_,_,⟨(a e k.symm).trans p,v,w,m,u⟩,TB,k,vS _ i (Obj.isFreed_of_fields (Obj.data_mapFields g _)),Obj.data_mapFields g _,by simp[r],y⟩
def BU{a:aI}{c:jx}(n:A.frames=some (env::outer))(m:s.heap.FunFrames B (env::outer))(f:env.frame=some L)(g:s.heap.get? e=some a)(o:B.StaysIn s.heap)(k:B.get? e=none)(d:a.data=.fields c)(i:c[1]? = some .none)(j:NR B a.cls c)(h:∀ b,UC B (env::outer) e a.cls a.dict (rawInt L) b->s.heap.UpToSlots b->Q () { s with heap:=b }):aC M A (noteFrame (.ref e) env) Q E s:=by
 unfold noteFrame;simp only[f];refine aa (wpAny_field g d i ?_);rw[aM (by decide)]
 exact FO n m f g o k d (uE.mp i).1 j h
def Ev(G:A.frames=some (env::outer))(k:env.frame=some L)(x:UC B (env::outer) e cls od .none s.heap)(h:∀ f,UC B (env::outer) e cls od (rawInt L) f->s.heap.UpToSlots f->Q () { s with heap:=f }):
  aC M A (noteFrame (.ref e) env) Q E s:=by
 let⟨I,C,F,O,P,T,N,r,⟨m,v,w,j,t⟩,TB,u,i,g,p,y⟩:=x;subst v w;let H:3<r.size:=(uE.mp p).1;let a:∀ b,b≠T->(s.heap.update T (Obj.mapFields (·.setIfInBounds 3 Value.none))).get? b=s.heap.get? b:=λb n=>vQ _ _ n.symm;let c:∀ b o,s.heap.get? b=some o->(∀ K,o.data≠.fields K)->b≠T:=λb o q d z=>by
  rw[z,i] at q;cases q;exact d r g
 unfold noteFrame;simp only[k];refine aa (wpAny_field m j t ?_);rw[aO (show (Value.ref T != Value.none)=true by simp)]
 refine aa (wpAny_field i g p ?_);rw[aM (show ¬ ((Value.none==rawInt L)=true) by simp[rawInt])]
 refine aa (wpAny_setField i g H ?_);refine FO (s:={ s with heap:=_ }) G (F.of_keeps λb o q d=>⟨o,(a b (c b o q d)).trans q,Z⟩) k ((a e u.symm).trans m) (λb o q=>(a b λz=>by rw[z,TB] at q;cases q).trans (I b o q)) C j (uE.mp t).1 y λf D J=>h f D λb o q d=>?_
 exact J b o ((a b (c b o q d)).trans q) d
def UC.less{f:ai}{h:aE}(x:UC B (env::outer) e cls od f h):UC B outer e cls od f h:=by
 let⟨a,b,⟨_,_,c⟩,d⟩:=x;exact⟨a,b,c,d⟩
def Cn{a:aI}{c:jx}(n:A.frames=some (env::outer))(m:s.heap.FunFrames B (env::outer))(i:env.frame=some L)(o:s.heap.get? e=some a)(r:B.StaysIn s.heap)(g:B.get? e=none)(f:a.data=.fields c)(v:c[1]? = some .none)(d:NR B a.cls c)(h:∀ b,UC B outer e a.cls a.dict .none b->s.heap.UpToSlots b->Q () { s with heap:=b }):aC M A (leaving env (.ref e)) Q E s:=by
 unfold leaving;exact aa (BU n m i o r g f v d λp j t=>N8 (s:={ s with heap:=p }) j λq k u=>h q k.less (t.trans u))
end
def ZIS{a:al}{w:ax}{A:ay}{E:ja}{s:ak}{c:Env}{K:zZ}{C:aj}{x:Sem ai}{Q:Flow->ak->Prop}(F:A.handled=none)(H:yB K C (.type "BaseException")=some true)(G:wZ K (.ref C)=some (.type "type"))(h:aC (aB a w) A x (λv b=>∃ e q,v=.ref e/\K.In b.heap/\VW PH e C q b.heap/\E (.ref e) b) E s):aC (aB a w) A (raiseStmt c (some x) none) Q E s:=by
 unfold raiseStmt;refine aa (ae h (λv b B=>?_) λ_ _ z=>z);let⟨e,q,rfl,k,⟨⟨L,i,I,j⟩,r,o,l,m,n,J,P⟩,D⟩:=B;dsimp only at l m n;subst l m n;let⟨p,g,d,O,N⟩:=b;let t:xL (aB a w) p (typeOf (.ref e)) (.ref C):=QQ.ty ⟨_,o,Z⟩ _;let u:=tI (M:=aB a w) k H;let y:=qI (M:=aB a w) k G;let f:p.get? e=some ⟨.ref C,i,.fields r,j⟩:=o;unfold excFromValue isExcClass isInstance isType raisedInstance setFlight
 repeat (first | with_reducible refine wpAny_loadPart_at f ?_ | with_reducible refine u.at ?_ | with_reducible refine t.at ?_ | with_reducible refine y.at ?_ | wp_step)
 rw[show r[1]? = some Value.none from J]
 repeat wp_step
 all_goals first | exact wpAny_raiseNew_none F D | trace_state
structure QL(P:al)(w:ax)(outer:jB)(H:Hp)(s:ak)(ea:aj)(cls:ai)(od:jz)(H':Hp)(s':ak):Prop where
 ex:∃ B:aE,UC B outer ea cls od .none s'.heap/\(∀ b o,s'.heap.get? b=some o->H' b≠none->B.get? b=some o)/\(∀ b o,s.heap.get? b=some o->H b=none->b∉frs outer->B.get? b=some o)/\(∀ b o,s.heap.get? b=some o->b∉frs outer->∃ o',B.get? b=some o')
 os:s'.os=s.os
 bare:AllBare s'.gens
 un:Un (frs outer) [] H H' s.heap s'.heap
 hok:Yd P w H' s'.heap
 new:s.heap.get? ea=none
 free:H' ea=none
def Vi(P:al)(w:ax):VZ:=λa H s E e f=>∃ c cls d b,e=.ref c/\QL P w a H s c cls d b f/\E cls d b
structure U5(X:Cx)(E:XK):Prop where
 stack:X.stack=X.env::X.outer
 frame:X.env.frame=some X.env.locals
 ex:X.ex=[]
 calm:X.calm=true
 xe:∀ e s',aC (aB X.prog X.w) X.A (leaving X.env e) (λ_ s''=>Vi X.prog X.w X.outer X.H₀ X.s₀ E e s'') (λe' s''=>Vi X.prog X.w X.outer X.H₀ X.s₀ E e' s'') s'->X.xe e s'
def ZOq{P:al}{w:ax}{K:zZ}{g:jc}{c:aE}{N:jt}{d:Str}{b:aF}{f:aj}{e:ai}{A:ay}{a:jB}{s:ak}{H:Hp}{E:XK}:
  U5 (WW (Vi P w) P w K g c N d b f e A a s H E) E:=⟨Z,Z,Z,Z,λ_ _ h=>h⟩
section
variable{kh:ju}{σ:St}{H H':Hp}{s':ak}{E:XK}
def U5.frs(F:U5 X E):frs X.stack=X.env.locals::X.fs:=by
 rw[F.stack];show List.filterMap _ (X.env::X.outer)=_;rw[vV,F.frame];rfl
def U5.off(F:U5 X E)(I:ZF X kh σ H s){b:aj}{o:aI}(q:X.s₀.heap.get? b=some o)(n:b∉L2.frs X.outer):b∉L2.frs X.stack:=λz=>by
 rw[F.frs] at z;rcases yT.mp z with z | z
 ·rw[z,I.noloc] at q;cases q
 ·exact n z
def U5.on(F:U5 X E){b:aj}(n:b∈L2.frs X.outer):b∈L2.frs X.stack:=by
 rw[F.frs];exact zG _ n
def Cz{B h:aE}{g:aj}(F:U5 X E)(J:ZF X kh σ H s)(r:B.StaysIn h)(d:∀ b o,b≠g->s.heap.get? b=some o->b∉L2.frs X.stack->B.get? b=some o)(p:s.heap.UpToSlots h)(i:X.s₀.heap.get? g=none):
  Un (L2.frs X.outer) [] X.H₀ H X.s₀.heap h:=by
 let c:=J.base;rw[F.ex] at c;let l:∀{b:aj}{o:aI},X.s₀.heap.get? b=some o->b≠g:=λq z=>by rw[z,i] at q;cases q
 let m:∀{b:aj}{o:aI},b∈L2.frs X.stack->s.heap.get? b=some o->∀ v,o.data≠.fields v:=λa q=>Gk J _ a _ q;refine⟨λb o q n a _=>r b o (d b o (l q) (c.keep b o q n a (by simp)) (F.off J q a)),λb o q n a _=>?_,c.free,λb o q _=>?_,c.tups,c.frzs,c.tbls⟩
 ·let⟨u,e⟩:=c.slot b o q n a (by simp)
  let⟨k,t⟩:=p b _ e (m (F.on a) e);exact⟨k,t⟩
 ·let⟨f,j⟩:=c.there b o q (by simp)
  by_cases a:b∈L2.frs X.stack
  ·let⟨u,e⟩:=p b f j (m a j);exact⟨_,e⟩
  ·exact⟨f,r b f (d b f (l q) j a)⟩
def ZF.untrack{a:aj}{g:aE->Prop}(I:ZF X kh σ (upd H a (.ext g)) s)(l:H a=none):ZF X kh σ H s:=by
 let v:∀{b:aj}{u:HO},H b=some u->b≠a:=fun{b u} e z=>by rw[z,l] at e;cases e
 let h:∀{b:aj},upd H a (.ext g) b=none->H b=none:=fun{b} e=>by
  by_cases z:b=a
  ·rw[z];exact l
  ·rw[ZU z] at e;exact e
 let d:∀{b:aj}{u:HO},upd H a (.ext g) b=some u->(∀ y,u≠.ext y)->H b=some u:=fun{b u} e k=>by
  by_cases z:b=a
  ·rw[z,ZP] at e;exact absurd (zA.inj e).symm (k g)
  ·rw[ZU z] at e;exact e
 refine⟨I.ok,I.os,I.bare,⟨I.base.keep,I.base.slot,λb j q n t=>h (I.base.free b j q n t),I.base.there,λb m q=>d (I.base.tups b m q) (λ_ z=>nomatch z),λb j u q=>d (I.base.frzs b j u q) (λ_ z=>nomatch z),λb w q=>?_⟩,I.loc,I.cell,h I.free,λx c e=>h (I.freeC x c e),λp i=>?_,λb u e=>?_,I.len⟩
 ·let⟨f,e⟩:=I.base.tbls b w q;exact⟨f,d e (λ_ z=>nomatch z)⟩
 ·let⟨e,n,r⟩:=I.pin p i;exact⟨e,h n,r⟩
 ·let o:upd H a (.ext g) b=some u:=by rw[ZU (v e)];exact e
  exact(I.hok b u o).stay (λ_ _ _ q=>q) (λc q=>d q (λ_ z=>nomatch z)) λc m q=>d q (λ_ z=>nomatch z)
def ZL1{c C:aj}{m:jz}{g:jx->Prop}(F:U5 X E)(J:ZF X kh σ H s)(e:X.s₀.heap.get? c=none)(u:H c=none)(Q:VW g c C m s.heap)(K:∀ f,g f->f[1]? = some .none)(L:∀ f B,g f->(∀ b o,B.get? b=some o->s.heap.get? b=some o)->NR B (.ref C) f)(N:E (.ref C) m H):X.xe (.ref c) s:=by
 let⟨U,f,I,r,w,x,t⟩:=Q;let T:=K f t;let G:X.A.frames=some (X.env::X.outer):=by rw[J.ok.frames,F.stack]
 let D:s.heap.FunFrames (uQ s.heap (c::L2.frs X.stack)) (X.env::X.outer):=by
  have:=PySem.W.funFrames_hide (as:=c::L2.frs X.stack) J.stack (λl P a O=>zG _ (tM.mpr ⟨l,P,O⟩));rw[F.stack] at this⊢;exact this
 let d:∀ b o,b≠c->s.heap.get? b=some o->b∉L2.frs X.stack->(uQ s.heap (c::L2.frs X.stack)).get? b=some o:=λb o n q h=>qM _ q (λz=>by
  rcases yT.mp z with z | z
  ·exact n z
  ·exact h z)
 let inT:∀ b o,s.heap.get? b=some o->H b≠none->(uQ s.heap (c::L2.frs X.stack)).get? b=some o:=λb o q n=>d b o (λz=>n (by rw[z];exact u)) q λz=>n (J.stkFree b z)
 let y:(uQ s.heap (c::L2.frs X.stack)).get? c=none:=qJ _ (by simp)
 refine F.xe _ _ (Cn G D F.frame I (λb o q=>rS _ q) y w T (by rw[r];exact L f _ t λb o q=>rS _ q) λM j S=>?_)
 rw[r,x] at j;refine⟨c,_,m,H,Z,⟨⟨_,j,λb o q n=>?_,λb o q n h=>?_,λb o q h=>?_⟩,J.os,J.bare,Cz F J j.1 d S e,J.hok.keptT λb o q n=>j.1 b o (inT b o q n),e,u⟩,N⟩
 ·let⟨i,k⟩:=J.hok.there n;let R:=j.1 b i (inT b i k n);let v:M.get? b=some o:=q;rw[R] at v;rw[<-zA.inj v];exact inT b i k n
 ·let p:=J.base;rw[F.ex] at p;exact d b o (λz=>by rw[z,e] at q;cases q) (p.keep b o q n h (by simp)) (F.off J q h)
 ·let⟨i,k⟩:=J.base.there b o q (by rw[F.ex];simp)
  exact⟨i,d b i (λz=>by rw[z,e] at q;cases q) k (F.off J q h)⟩
def ZNk{a C:aj}{c:jz}(F:U5 X E)(J:ZF X kh σ H s)(b:X.s₀.heap.get? a=none)(e:H a=none)(f:VW PH a C c s.heap)(d:E (.ref C) c H):X.xe (.ref a) s:=ZL1 F J b e f (λ_ z=>z.1) (λ_ _ z _=>.inl z.2) d
inductive Qf(C:aj)(f:Str)(E:XK)(c:jf)(b:Hp):Prop
 |mk(y:_)(_:c=[y])(_:∀ a,b a=none->E (.ref C) (some a) (upd b a (.xd [(f,y)])))
def GV(C:aj)(f:Str)(E:XK)(t:TA):TS:=λ_ σ H=>t σ H λb a=>Qf C f E b a
def CW{k:Nat}{C N:aj}{f x:Str}{Y:am}{Q:jt}{e:Expr}{n:jC}{t:TA}{p g pos:Pos}(F:U5 X E)(c:US X.K C N f)(ht:wZ X.K (.ref C)=some (.type "type"))(T:ZI X.prog X.w X.K X.mg X.base ZQ k N Y Q (LO X.K C N f))(hr:ZT (k+1) X.A)(hg:Gl X x)(hm:X.mg x=some (.ref C))(hb:Zo X.K Y Q [])(ha:PA X (e::n) t)(O:(x==("__debug__" : Str))=false:=by decide)(he:ar (e::n) X.env=(false,aH e X.env)::ar n X.env:=by rfl)(P:(aG g (ar n X.env)).any (·.1)=false:=by rfl):
  PS X (.Raise (some (.Call (.Name x p) (e::n) [] g)) none pos) (GV C f E t):=by
 intro kh s σ H D I h;let hh:=I.ok.hd F.calm;rw[arm_exec_Raise];refine aa (wpAny_standAt ?_);refine ZIS hh c.exc.mB ht (aa (ae ?_ (λv s3 h3=>aa (wpAny_standAt (ad h3))) λ_ _ z=>z));refine ag (Pr I hg hm ?_ O);refine vB (h₀:=X.base) I.ok.mod.kin c.kp (Zy (ha g kh s σ H _ I h) λus d ⟨vs,l,m,r,y,ey,q⟩=>⟨m.kIn,?_⟩) he P;subst ey;obtain⟨u,rfl,R⟩:∃ u,us=[u]/\ZR y u:=by
  cases r with
  | cons R r0=>cases r0;exact⟨_,Z,R⟩
 refine A3 m.kIn c (by show 1<=aq;rw[sizeLine_eq];lia) ?_
 let kk:∀ b o,d.heap.get? b=some o->(PY d.heap C [u]).get? b=some o:=λb o q=>zQ _ (zQ _ q);let e1:(PY d.heap C [u]).get? (d.heap.objs.size+1)=some { cls:=.ref C,data:=.fields #[.ref d.heap.objs.size,.none,.none,.none,.bool false,.none] }:=by heap_get
 let U:d.heap.get? (d.heap.objs.size+1)=none:=tJ (xD _);let h0:l (d.heap.objs.size+1)=none:=m.hok.fresh (xD _);let L:X.s₀.heap.get? (d.heap.objs.size+1)=none:=by
  cases z:X.s₀.heap.get? (d.heap.objs.size+1) with
  | none=>rfl
  | some o=>
   let⟨o',q'⟩:=m.base.there _ o z (by rw[F.ex];simp)
   rw[U] at q';cases q'
 let J:=m.newx (C:=C) (ea:=d.heap.objs.size+1) (h':=PY d.heap C [u]) kk U ⟨_,_,e1,Z,Z,Z,Z,Z⟩;generalize a0:d.heap.objs.size+1=a at *;let r2:ZO [V.ref a,y] [Value.ref a,u]:=.cons Z (.cons R .nil);let G:LO X.K C N f [V.ref a,y] (upd l a (XO PH a C none)) (λv H2=>v=.non/\∃ i,H2=upd (upd l i (.xd [(f,y)])) a (XO PH a C (some i))/\l i=none/\i≠a) E0:=by
  refine⟨c,_,y,Z,ZP,λi hd B=>⟨Z,i,?_,?_,B⟩⟩
  ·funext b
   by_cases z:b=a
   ·rw[z,ZP,ZP]
   ·rw[ZU z,ZU z];by_cases S:b=i
    ·rw[S,ZP,ZP]
    ·rw[ZU S,ZU S,ZU z]
  ·rw[ZU B] at hd;exact hd
 let hl:([Value.ref a,u]++([]:je)).length=Q.length:=by
  let e:=r2.length;rw[T.len _ _ _ _ G] at e;exact e.symm
 refine wpAny_call (codeAny_mono (T.run _ X.stack _ _ ⟨[Value.ref a,u],[]⟩ _ _ _ E0 (hr.make C [u] []) (J.env0.make C [u] []) (hb _ [Value.ref a,u] J.kIn hl) r2 G) λr s' j=>?_)
 cases r with
 | error e=>exact(Yn kh σ _ _ e s' J j)
 | ok fl=>
  cases fl with
  | ret u2=>
   let⟨v,H',M,rv,ev,i,eH,nd,ne⟩:=J.after j;subst ev eH;exists rv,a,some i,Z,M.kIn,(M.hok a _ ZP).1;let hn:upd l i (.xd [(f,y)]) a=none:=by rw[ZU (Ne.symm ne)];exact h0
   exact ZNk F (M.untrack hn) L hn (M.hok a _ ZP).1 (q i nd)
  | next=>exact False.elim j
  | brk=>exact False.elim j
  | cont=>exact False.elim j
end
def MW{X:Cx}{d:ju}{p:St}{H i:Hp}{s g:ak}{t:aj}{u:jz}{B f:aE}{cls:ai}(I:ZF X d p H s)(W:QL X.prog X.w X.stack H s t cls u i g)(inT:∀ b o,g.heap.get? b=some o->i b≠none->B.get? b=some o)(k:∀ b o,s.heap.get? b=some o->H b=none->b∉frs X.stack->B.get? b=some o)(j:∀ b o,s.heap.get? b=some o->b∉frs X.stack->∃ h,B.get? b=some h)(m:B.StaysIn f)(v:g.heap.UpToSlots f):
  ZF X d p i { g with heap:=f }:=by
 let c:∀ b o,s.heap.get? b=some o->b∈frs X.stack->∃ l,f.get? b=some { o with slots:=l }:=λb o q a=>by
  let⟨l,e⟩:=W.un.slot b o q (I.stkFree b a) a (by simp)
  let⟨c,r⟩:=v b _ e (λx z=>Gk I b a o q x z);exact⟨c,r⟩
 refine I.call' (s':={ g with heap:=f }) W.os ⟨λb o q n a _=>m b o (k b o q n a),λb o q n a _=>c b o q a,W.un.free,λb o q _=>?_,W.un.tups,W.un.frzs,W.un.tbls⟩ (W.hok.keptT λb o q n=>m b o (inT b o q n)) W.bare (λb a=>absurd a (by simp))
 by_cases a:b∈frs X.stack
 ·let⟨l,e⟩:=c b o q a;exact⟨_,e⟩
 ·let⟨h,e⟩:=j b o q a;exact⟨h,m b h e⟩
def Zg.okD{x b:Str}{g:aD}{f:aj}{n:am}{N l:jt}{k:Nat}{m:Sp}(F:Zg K x b g f n)(S:ZC N l (Za g))(j:∀ e H Q E,m e H Q E->e.length=l.length)(d:∀ (c:ai) (A:ay) (a:jB) (s:ak) (H:Hp) (e:jf) (Q:VK) (E:XK),ZT k (A.deeper (envOfC b (Za g) s.heap.objs.size f c))->m e H Q E ->
   let X:=(WW (Vi P w) P w K mg ki N b (Za g) f c A a s H E);∃ t,X7 X (WT g) t/\t { nx:=λ_ o=>Q .non o,rt:=Q } (UA N e) H):ZI P w K mg ki (Vi P w) (k+1) f n l m:=by
 let⟨y,z,kV,p,B,v,c,ct,u,rfl,r,h⟩:=F.ex;exact IP r h S j λA a s H e Q E q i=>d c A a s H e Q E q i
def Zg.kD{x a:Str}{g:aD}{f:aj}{m:am}{N j:jt}{k:Nat}{l:Sp}(F:Zg K x a g f m)(S:ZC N j (Za g))(b:∀ (e:ai) (A:ay) (c:jB) (s:ak) (H:Hp) (d:jf) (Q:VK) (E:XK),ZT k (A.deeper (envOfC a (Za g) s.heap.objs.size f e))->l d H Q E ->
   let X:=(WW (Vi P w) P w K mg ki N a (Za g) f e A c s H E);∃ t,X7 X (WT g) t/\t { nx:=λ_ n=>Q .non n,rt:=Q } (UA N d) H)(i:∀ d H Q E,l d H Q E->d.length=j.length:=by intro d _ _ _ h;cases h;(try subst d);rfl):ZI P w K mg ki (Vi P w) (k+1) f m j l:=F.okD S i b
inductive Ur(a:zZ)(x y:V)(H:Hp)(Q:VK):Prop
 |mk(p b c:_)(_:x=.ref p)(_:y=.ref b)(_:ZH a H p c)(_:ZH a H b [])(_:Q (.bl (!c.isEmpty)) H)
def Mx(f:X.A.units<cLine):XH X (aA .NotEq) (Ur X.K):=by
 intro l s J H x y v u Q I C D h;let⟨p,b,E,rfl,rfl,c,o,q⟩:=h;cases C;cases D;let⟨d,z,i,F⟩:=I.list c;let⟨a,B,k,G⟩:=I.list o;let g:=z.length;let t:=B.length;let n:a=[]:=uD (by rw[<-t];rfl)
 subst n
 cases E with
 | nil=>
  let m:d=[]:=uD (by rw[<-g];rfl)
  subst m;exact PySem.SeqAt.RcNeAt.lists (e:=λ_=>true) i.isList k.isList Z f (λj c _=>absurd c (by simp)) X.prog X.w X.xe _ (Yv I q (by simp))
 | cons x r=>exact PySem.SeqAt.RcNeAt.lists_lengths i.isList k.isList (by simp;intro e;subst e;simp at g) f X.prog X.w X.xe _ (Yv I q Z)
end L2
namespace Tw
open PySem PySem.Spec L2
variable{jh ji CS CT CH CK CP CB:aj}
def Zn(i:Nat):Stmt:=PySem.Challenge.pw_twigmap_k35_looks_counted.main.body.getD i (.Pass ⟨0,0,0,0⟩)
abbrev Ih:Stmt:=Zn 14
abbrev Jz:Stmt:=Zn 15
abbrev MU:Stmt:=Zn 16
abbrev Jk:Stmt:=Zn 17
abbrev Ki:Stmt:=Zn 18
abbrev L0:Stmt:=Zn 19
abbrev Ic:Stmt:=Zn 20
abbrev MS:Stmt:=Zn 21
abbrev Ja:Stmt:=Zn 31
abbrev Kf:Stmt:=Zn 32
abbrev Ll:Stmt:=Zn 33
abbrev JZ:Stmt:=Zn 34
abbrev Lu:Stmt:=Zn 35
abbrev Kc:Stmt:=Zn 36
abbrev KN:Stmt:=Zn 38
abbrev Ig:Stmt:=Zn 39
abbrev Lq:Stmt:=Zn 40
abbrev KD:Stmt:=Zn 41
abbrev Kq:Stmt:=Zn 42
abbrev Jv:Stmt:=Zn 43
abbrev JR:Stmt:=Zn 44
abbrev Ia:Stmt:=Zn 46
abbrev JG:Stmt:=Zn 47
abbrev Jb:Stmt:=Zn 48
abbrev JH:Stmt:=Zn 49
abbrev JY:Stmt:=Zn 50
abbrev K0:Stmt:=Zn 51
abbrev Jh:Stmt:=Zn 52
abbrev Ik:Stmt:=Zn 53
abbrev Il:Stmt:=Zn 54
abbrev KI:Stmt:=Zn 57
abbrev Iu:Stmt:=Zn 59
abbrev Kb:Stmt:=Zn 60
abbrev Ky:Stmt:=Zn 61
abbrev Lr:Stmt:=Zn 62
abbrev LX:Stmt:=Zn 63
abbrev Mc:Stmt:=Zn 64
abbrev Id:Stmt:=Zn 65
abbrev Ip:Stmt:=Zn 66
abbrev No:Stmt:=Zn 67
abbrev Qt:Stmt:=Zn 68
abbrev Jg:Stmt:=Zn 69
abbrev Mj:Stmt:=Zn 70
abbrev J9:Stmt:=Zn 71
abbrev KM:Stmt:=Zn 72
abbrev K2:Stmt:=Zn 73
abbrev II:Stmt:=Zn 74
abbrev JO:Stmt:=Zn 75
abbrev IN:Stmt:=Zn 76
abbrev Js:Stmt:=Zn 77
abbrev Qr:Stmt:=Zn 78
abbrev KL:Stmt:=Zn 79
abbrev K9:Stmt:=Zn 80
abbrev KQ:Stmt:=Zn 81
abbrev KA:Stmt:=Zn 82
abbrev Kl:Stmt:=Zn 83
abbrev Kz:Stmt:=Zn 84
abbrev PD:Stmt:=Zn 85
structure YE(mg:jc):Prop where
 isi:mg "isinstance" = none
 bool:mg "bool" = none
 int:mg "int" = none
 str:mg "str" = none
 tuple:mg "tuple" = none
 list:mg "list" = none
 len:mg "len" = none
 all:mg "all" = none
 abs:mg "abs" = none
 max:mg "max" = none
 min:mg "min" = none
 range:mg "range" = none
 sorted:mg "sorted" = none
 ValueError:mg "ValueError" = none
 sum:mg "sum" = none
 signs:∃ t,mg "MOST_SIGNS" = some (.int 40 t)
 things:∃ t,mg "MOST_THINGS" = some (.int 4 t)
 deep:∃ t,mg "MOST_DEEP" = some (.int 3 t)
 rows:∃ t,mg "MOST_ROWS" = some (.int 4 t)
 few:∃ t,mg "FEWEST_BRANCHES" = some (.int 2 t)
 most:∃ t,mg "MOST_BRANCHES" = some (.int 4 t)
 height:∃ t,mg "HEIGHT" = some (.int 0 t)
 least:∃ t,mg "LEAST" = some (.int 1 t)
 greatest:∃ t,mg "GREATEST" = some (.int 2 t)
 many:∃ t,mg "MANY" = some (.int 3 t)
def Qe:ZC ["_law_well_here","_law_many","_law_found","_law_first","_law_second"] zEc (Za Kb):=Zm
def ZN3(F:Zg K "_law_pull" "_law_pull" Kb f fd):ZI P w K mg ki ZQ 1 f fd zEc Zp:=by
 refine F.ok Qe (λz H Q E h=>?_) (λy A q s H z Q E G h=>?_)
 ·let⟨p,m,rfl,_⟩:=h;rfl
 let⟨p,m,rfl,W,⟨g,l⟩,k⟩:=h;let⟨a,b,c,d,n,i,j,r,D⟩:=W.ex;let o:=Qe.nd;intro B;refine⟨_,ZN (Zz (XB Vb (V2 Zq (pv 0) ZJ (λ_ _=>rfl)) ZJ (YK _)) (ZS (Zd ZJ)) Z1)
  (ZN (Q8 (Zu V3 (V2 Zq (pv 0) ZJ (λ_ _=>rfl)) ZJ) (Jr (pv 0) ZJ K4))
  (ZN (Zz (XB Pm (V2 Zq (pv 0) ZJ (λ_ _=>rfl)) ZJ (YK _))
   (ZN (Zi 2 o (Zu Qu (V2 Zq (pv 0) ZJ (λ_ _=>rfl)) (pv 1)))
   (ZN (Q8 (Zu ZNa (V2 Zq (pv 0) ZJ (λ_ _=>rfl)) (pv 1)) (Jr (pv 0) ZJ K4))
   (ZS (Zd (pv 2))))) Z1)
  (ZN (Q8 (Zu Wf (V2 Zq (pv 0) ZJ (λ_ _=>rfl)) ZJ) (Jr (pv 0) ZJ K4))
  (ZN (Zi 3 o (Zu Qu (Zu Po (Zu Wf (V2 Zq (pv 0) ZJ (λ_ _=>rfl)) ZJ) (Zu Wf ZJ (Zu Po ZJ (V2 Zq (pv 0) ZJ (λ_ _=>rfl))))) ZJ))
  (ZN (Zi 4 o (Zu Qu (Zu Po (Zu Wf (Zu Lf (pv 3) ZJ) ZJ) (Zu Wf (Zu Qu (pv 3) ZJ) ZJ)) ZJ))
  (ZS (Zd (Zu Qu (Zu Lf (pv 4) ZJ) (pv 1))))))))),?_⟩
 exists _,Z,p,_,_,_,Z,Z,ZH.of n,Z,Z,_,Z;refine Xz (λ_=>?_) (λu=>?_)
 ·exact k 0 H (xR 0) g W (ZE.refl p H)
 let C:d≠0:=λe=>u (aK (by rw[e]))
 exists _,Z,p,_,_,_,Z,Z,ZH.of n,Z,_,_,Z,Z,_,Z,p,_,_,_,Z,Z,n,Z;exists _,Z,p,_,_,_,Z,Z,ZH.of ZP,Z,_,_,Z,Z,_,Z;refine Xz (λv=>?_) (λv=>?_)
 ·exists _,Z,p,_,_,_,Z,Z,ZH.of ZP,Z,_,Z,_,_,Z,Z,g;exists _,Z,p,_,_,_,Z,Z,ZH.of ZP,Z,_,Z,_,_,Z,Z,⟨g,l⟩,_,Z,p,_,_,_,Z,Z,ZP,Z;exists _,Z;refine k (c % m) _ (vH _ ∅) (vC _ g) ⟨a,b,c / m,d-1,ZP,i,j,Int.ediv_nonneg r ∅,∅⟩ (ZE.refl p H).upd.upd
 ·exists _,Z,p,_,_,_,Z,Z,ZH.of ZP,Z,_,_,Z,Z,_,Z,p,_,_,_,Z,Z,ZP,Z;exists _,Z,p,_,_,_,Z,Z,ZH.of ZP,Z,_,_,Z,Z,_,Z,p,_,_,_,Z,Z,ZH.of ZP,Z,_,_,Z,Z,.inl ⟨by decide,by decide⟩,_,_,Z,Z,_,_,Z,Z,.inl ⟨∅,∅⟩,_,_,Z,Z,(by show (0:Int)<2147483629;decide)
  generalize t:(a+1) * (48271+7919 * (b+1)) % 2147483629=x;let I:0<=x:=by rw[<-t];exact vH _ (by decide)
  let J:x<2147483629:=by rw[<-t];exact vC _ (by decide)
  exists _,Z,_,_,Z,Z,⟨by decide,by decide⟩,_,_,Z,Z,_,Z,_,_,Z,Z,(by show (0:Int)<1009;decide),_,_,Z,Z,_,_,Z,Z,.inl ⟨∅,∅⟩,_,_,Z,Z,(by show (0:Int)<1000000007;decide)
  exists _,Z,_,_,Z,Z,⟨by decide,by decide⟩,_,Z,_,_,Z,Z,g
  exact k _ _ (vH _ ∅) (vC _ g) ⟨a,b+1,c,d-1,ZP,i,j,r,∅⟩ (ZE.refl p H).upd.upd
def Ul:ZC ["_law_well_here","_law_bound","_law_found","_law_j"] zEs (Za Ky):=Zm
def ZLt(F:Zg K "_law_great" "_law_great" Ky f fd)(T:YE mg)(v:ZA P w K mg ki 1 "_law_pull" zEc Zp):ZI P w K mg ki ZQ 2 f fd zEs Zp:=by
 refine F.ok Ul (λG H Q E h=>?_) (λB A q s H G Q E x h=>?_)
 ·let⟨p,m,rfl,_⟩:=h;rfl
 let⟨p,m,rfl,W,g,k⟩:=h;let⟨a,b,c,d,C,_⟩:=W.ex;let o:=Ul.nd;intro J;refine⟨_,ZN (Zz (XB Pm (V2 Zq (pv 0) ZJ (λ_ _=>rfl)) ZJ (YK _)) (ZS (Zd (Zc v x (ZX (pv 0) (ZX (pv 1) Zk))))) Z1)
  (ZN (Zi 2 o ZJ)
  (ZN (U8 PassesOwn.never rfl (P1 rfl T.range (ZX ZJ Zk)) (Xx 3 o)
   (ZS (Zi 2 o (Zu Wf (Zu Po (pv 2) ZJ) (Zc v x (ZX (pv 0) (ZX ZJ Zk)))))))
  (ZS (Zd (Zu Qu (pv 2) (pv 1)))))),?_⟩
 exists _,Z,p,_,_,_,Z,Z,ZH.of C,Z,_,_,Z,Z,_,Z;refine Xz (λ_=>?_) (λ_=>?_)
 ·exact⟨_,Z,_,Z,p,m,Z,W,g,k⟩
 refine⟨8,Z,by decide,by decide,OJ (n:=8) (λi u e=>∃(z:Int)(j:jg),u=[some (.ref p),some (.int m),some (.int z),j]/\ZK e p/\ZE p H e) ⟨0,none,Z,W,ZE.refl p H⟩ ?_ ?_⟩
 ·rintro i u e L ⟨z,j,rfl,l,t⟩;exists _,Z,_,_,Z,Z,.inr ⟨by decide,by decide⟩,_,Z,p,62500000,Z,l,Xp (by decide) (by decide)
  intro r I _ _ y D;exact⟨_,_,Z,Z,_,_,Z,y,t.trans D⟩
 ·rintro u e ⟨z,j,rfl,l,t⟩;exists _,Z,_,Z,_,_,Z,Z,g.1;exact k _ _ (vH _ (by have:=g.1;lia)) (vC _ g.1) l t
def YT:Str:= " \"\\~!#$&'()*+,-./0123456789:;<=>?@ABCDEFGHIJKLMNOPQRSTUVWXYZ[]^_`abcdefghijklmnopqrstuvwxyz{|}"
def ZJB:YT.cps.toList.length=94:=by decide +kernel
def HW:YT.length=94:=by decide +kernel
def ZLB:YT.cps.toList.all U7=true:=by decide +kernel
def HG{i:Int}(a:0<=i)(b:i<94):∃ c,Y3 YT.cps.toList i=some c/\U7 c=true:=by
 let⟨c,e,m⟩:=Nl (xs:=YT.cps.toList) a (by rw[ZJB];exact b)
 exact⟨c,e,yZ.mp ZLB c m⟩
def WG(x:Str)(i:Nat):Prop:=x.cps.size<=i/\x.cps.toList.all U7=true
def WG.ok{x:Str}{i:Nat}(h:WG x i)(a:i<=40):PN x=true:=by
 unfold PN;rw[zO];exact⟨aK (zS h.1 a),h.2⟩
def WG.more{x:Str}{i c:Nat}(h:WG x i)(a:U7 c=true):WG (x++(⟨#[c]⟩:Str)) (i+1):=by
 let e:(x++(⟨#[c]⟩:Str)).cps=x.cps++#[c]:=rfl;exists ?_
 ·rw[e,Array.size_append];exact tS h.1
 ·rw[e,xE,List.all_append,h.2];simp[a]
abbrev ZQq:jt:=["_law_well_here","_law_signs","_law_text_here","_law_few","_law_j","_law_sign"]
def QX:ZC ZQq zEq (Za Lr):=Zm
def ZN5(F:Zg K "_law_text" "_law_text" Lr f fd)(T:YE mg)(B:ZA P w K mg ki 1 "_law_pull" zEc Zp):ZI P w K mg ki ZQ 2 f fd zEq WJ:=by
 refine F.ok QX (λvs H Q E h=>?_) (λa2 A a1 s H vs Q E I h=>?_)
 ·let⟨p,rfl,_⟩:=h;rfl
 let⟨p,rfl,W,k⟩:=h;let o:=QX.nd;intro Xc;refine⟨_,ZN (Zi 1 o VP) (ZN (Zi 2 o VP)
  (ZN (Zi 3 o (Zc B I (ZX (pv 0) (ZX ZJ Zk))))
  (ZN (U8 PassesOwn.never rfl (P1 rfl T.range (ZX (Zc B I (ZX (pv 0) (ZX (V2 Zq (Yb (ZX ZJ (ZX ZJ Zk))) (Zc B I (ZX (pv 0) (ZX ZJ Zk))) (λ_ _=>rfl)) Zk))) Zk)) (Xx 4 o)
   (ZN (Zi 5 o VP)
   (ZN (Zz (Pa (XB Pm (pv 3) ZJ (YK _)) (OR (XB Vb (Zc B I (ZX (pv 0) (ZX ZJ Zk))) ZJ (YK _)))).pt
    (ZS (Zi 5 o (V2 G1 (pv 1) (Zc B I (ZX (pv 0) (ZX (V2 Zq (Yb (ZX ZJ (ZX ZJ Zk))) (Zu Lf (pv 3) ZJ) (λ_ _=>rfl)) Zk))) (λ_ _=>rfl)))) Z1)
   (ZS (Zi 2 o (Zu ZIB (pv 2) (pv 5)))))))
  (ZS (Zd (pv 2)))))),?_⟩
 exists _,Z,p,3,Z,W,Xp (by decide) (by decide)
 intro J H1 a3 a4 W1 s1;exists _,Z,(by show 2<=aq;decide)
 intro l X;let O:ZK (upd H1 l (.lst [.int 4,.int 41])) p:=W1.same (ZW X _);exists _,Z,p,2,Z,O,Xp (by decide) (by decide)
 intro r H2 r0 r1 W2 s2;let a0:l≠p:=by
  let⟨xs,e⟩:=W1.some;exact(ZY e X).symm
 let a:H2 l=some (.lst [.int 4,.int 41]):=s2 l _ ZP a0;let⟨v,hv,Y⟩:=Gg (x:=V.int 4) (y:=V.int 41) r0 r1;let hb:∃ z:Int,v=.int z/\0<z/\z<=41:=by
  rcases Y with e | e
  ·exact⟨4,e,by decide,by decide⟩
  ·exact⟨41,e,by decide,by decide⟩
 let⟨z,rfl,z0,z1⟩:=hb;exists l,_,_,_,Z,Z,ZH.of a,hv,p,z,Z,W2,Xp z0 ∅
 intro n H3 n0 n1 W3 s3;let sA:ZE p H H3:=(s1.trans (ZE.of (ZW X _))).trans (s2.trans s3);refine⟨n,Z,∅,∅,OJ (n:=n.toNat) (λi σ t=>∃(x:Str)(j g:jg),σ=[some (.ref p),some (.str YT),some (.str x),some (.int J),j,g]/\WG x i/\ZK t p/\ZE p H t)
  ⟨"",none,none,Z,⟨by decide,by decide⟩,W3,sA⟩ ?_ ?_⟩
 ·rintro i σ t hi ⟨x,j,g,rfl,N,C,q⟩;let m:∀(c:Nat)(b:Hp),U7 c=true->ZK b p->ZE p H b->∃(y:Str)(j g:jg),[some (V.ref p),some (.str YT),some (.str (x++(⟨#[c]⟩:Str))),some (.int J),some (.int (0+(i:Int))),some (.str ⟨#[c]⟩)]=[some (.ref p),some (.str YT),some (.str y),some (.int J),j,g]/\WG y (i+1)/\ZK b p/\ZE p H b:=
   λc b G D L=>⟨_,_,_,Z,N.more G,D,L⟩
  let d:∀ c:Nat,x.length+(⟨#[c]⟩:Str).length<=sizeLine:=λc=>by
   let h1:x.length<=i:=N.1;let h2:(⟨#[c]⟩:Str).length=1:=rfl;rw[h2];exact nn ∅
  let M:∀ b,ZK b p->ZE p H b->∃(v:Int),0<v/\v<=94/\Y3 [V.int 94,V.int 5] (J / 2)=some (.int v):=λb _ _=>by
   let⟨v,e,h⟩:=Gg (x:=V.int 94) (y:=V.int 5) (i:=J / 2) ∅ ∅
   rcases h with rfl | rfl
   ·exact⟨94,by decide,by decide,e⟩
   ·exact⟨5,by decide,by decide,e⟩
  exists _,Z,_,_,Z,Z,_,Z;refine Xz (λ_=>?_) (λ_=>?_)
  ·refine Zs ?_;exists _,Z,_,Z,(by show 2<=aq;decide)
   intro l2 a;let⟨v,v0,v1,U⟩:=M t C q;exists _,Z,_,_,Z,Z,⟨by decide,by decide⟩,l2,_,_,_,Z,Z,ZH.of ZP,U,p,v,Z,C.same (ZW a _),Xp v0 ∅
   intro u b u0 u1 D L;let⟨c,S,G⟩:=HG u0 ∅
   exists YT,_,c,Z,Z,(by rw[HW];exact nn (by decide)),S
   exact⟨_,Z,_,Z,_,_,Z,Z,d c,m c b G D ((q.trans (ZE.of (ZW a _))).trans L)⟩
  ·refine⟨_,Z,p,8,Z,C,Xp (by decide) (by decide),λy H6 _ _ R s6=>⟨Z,_,Z,?_⟩⟩
   refine Xz (λ_=>?_) (λ_=>?_)
   ·exists _,Z,_,Z,(by show 2<=aq;decide)
    intro l2 a;let⟨v,v0,v1,U⟩:=M H6 R (q.trans s6);exists _,Z,_,_,Z,Z,⟨by decide,by decide⟩,l2,_,_,_,Z,Z,ZH.of ZP,U,p,v,Z,R.same (ZW a _),Xp v0 ∅
    intro u b u0 u1 D L;let⟨c,S,G⟩:=HG u0 ∅
    exists YT,_,c,Z,Z,(by rw[HW];exact nn (by decide)),S
    exact⟨_,Z,_,Z,_,_,Z,Z,d c,m c b G D (((q.trans s6).trans (ZE.of (ZW a _))).trans L)⟩
   ·exact⟨_,Z,_,Z,_,_,Z,Z,d 97,m 97 H6 (by decide) R (q.trans s6)⟩
 ·rintro σ t ⟨x,j,g,rfl,N,C,q⟩;exact⟨_,Z,k x t (N.ok ∅) C q⟩
def Pv:ZC ["_law_well_here","_law_room","_law_way"] zEg (Za LX):=Zm
def Bm{k:Nat}:ZI P w K mg ki ZQ k f fd zEg (XC 0):=by
 let c:∀ a H Q E,¬ XC 0 a H Q E:=λa H Q E h=>by
  let⟨p,r,_,_,d,_⟩:=h
  lia
 exact⟨λa H Q E h=>absurd h (c a H Q E),λA b s H args e a Q E _ _ _ _ h=>absurd h (c a H Q E)⟩
def Av{n:Nat}(F:Zg K "_law_key" "_law_key" LX f fd)(T:YE mg)(DP:ZA P w K mg ki 1 "_law_pull" zEc Zp)(DG:ZA P w K mg ki 2 "_law_great" zEs Zp)(DT:ZA P w K mg ki 2 "_law_text" zEq WJ)(DK:ZA P w K mg ki (n+2) "_law_key" zEg (XC n)):ZI P w K mg ki ZQ (n+3) f fd zEg (XC (n+1)):=by
 refine F.ok Pv (λvs H Q E h=>?_) (λa1 A a0 s H vs Q E hr h=>?_)
 ·let⟨p,r,rfl,_⟩:=h;rfl
 let⟨p,r,rfl,W,hn,k⟩:=h;let nd:=Pv.nd;let q:=hr.mono (show 1<=n+2 by lia)
 let L:=hr.mono (show 2<=n+2 by lia)
 intro Xc;refine⟨_,ZN (Zi 2 nd (Zc DP q (ZX (pv 0) (ZX ZJ Zk))))
  (ZN (Zz (XB OQ (pv 2) ZJ (YK _)) (ZS (Zd (Zu V3 (Zc DP q (ZX (pv 0) (ZX ZJ Zk))) ZJ))) Z1)
  (ZN (Zz (XB Vb (pv 2) ZJ (YK _)) (ZS (Zd (Zu Wf (Zu V3 (Zc DG L (ZX (pv 0) (ZX (Zu V3 (Zu Po ZJ (Zu Mz ZJ ZJ)) ZJ) Zk))) (Zu Mz ZJ ZJ)) ZJ))) Z1)
  (ZN (Zz (Pa (XB OQ (pv 2) ZJ (YK _)) (OR (XB Vb (pv 1) ZJ (YK _)))).pt (ZS (Zd (Zc DT L (ZX (pv 0) Zk)))) Z1)
  (ZS (Zd (Wn Oy rfl T.tuple Q2 (ZX (VJ [0,1] zEg rfl (P1 rfl T.range (ZX (Zc DP q (ZX (pv 0) (ZX ZJ Zk))) Zk)) (λ_ _ _ _ _=>Vf)
   (λ_ _ _ _ _=>Zc DK hr (ZX (pv 1) (ZX (Zu V3 (pv 2) ZJ) Zk))) ⟨rfl,.inl rfl,rfl,rfl,.inl rfl,rfl,trivial⟩) Zk))))))),?_⟩
 exists _,Z,p,8,Z,W,Xp (by decide) (by decide)
 intro y H1 y0 y1 S Y;exists _,Z,_,_,Z,Z,_,Z;refine Xz (λ_=>?_) (λc1=>?_)
 ·refine⟨_,Z,p,41,Z,S,Xp (by decide) (by decide),λu j u0 u1 d C=>⟨_,_,Z,Z,?_⟩⟩
  refine k (.int (u-20)) (.int (u-20)) j (ZB.int _) ?_ d (Y.trans C);rw[KT.fits];let e:(10:Nat) ^ 60 > 1000:=by decide
  exact aK ∅
 exists _,Z,Z,_,Z;refine Xz (λ_=>?_) (λc2=>?_)
 ·exists _,Z,_,_,Z,Z,⟨by decide,by decide,by decide⟩,_,_,Z,Z,.inl ⟨by decide,by decide⟩,_,_,Z,Z,p,_,Z,S,Xp (by decide +kernel) (by decide +kernel)
  intro u j u0 u1 d C;exists _,_,Z,Z,⟨by decide,by decide,by decide⟩,_,_,Z,Z,_,_,Z,Z
  refine k _ (.int _) j (ZB.int _) ?_ d (Y.trans C);let e:((10:Int) ^ (60:Int).toNat)=((10 ^ 60:Nat):Int):=by decide +kernel
  rw[e] at u1;rw[KT.fits,e];generalize (10 ^ 60:Nat)=N at *;exact aK ∅
 let O:WJ ([.ref p]++[]) H1 Q E0:=⟨p,Z,S,λx j hx d C=>k (.str x) (.str x) j (ZB.str x) (by rw[KT.fits];exact hx) d (Y.trans C)⟩
 exists _,Z,_,_,Z,Z,_,Z;refine Xz (λ_=>?_) (λ_=>?_)
 ·exact Zs ⟨_,Z,O⟩
 exists _,Z,Z,_,Z;refine Xz (λ_=>?_) (λc3=>?_)
 ·exact⟨_,Z,O⟩
 let r0:r≠0:=λe=>c3 (aK (by rw[e];rfl))
 refine⟨_,Z,p,5,Z,S,Xp (by decide) (by decide),λu j u0 u1 d C=>⟨u,Z,∅,∅,?_⟩⟩
 let sB:ZE p H j:=Y.trans C;refine Vm (n:=u.toNat) (λi x=>x=.int (0+(i:Int))) (λD i a c=>ZK c p/\ZE p H c/\D≠p/\H D=none/\∃ G,jY c G a/\G.length=i/\fitsL G (r-1)=true) (Y2 ∅)
  (λD i a c hi _=>hi) (λD i a c x m hi _ hy=>hy) (λD a c _=>zY _) (λD J=>?_) (λD i a c x eD hl hi hx hP R hR=>?_) (λD a c eD hP=>?_)
 ·let B:D≠p:=by
   let⟨xs,e⟩:=d.some;exact(ZY e J).symm
  let M:H D=none:=by
   cases e:H D with
   | none=>rfl
   | some o=>rw[sB D o e B] at J;cases J
  exact⟨d.same (ZW J _),sB.trans (ZE.of (ZW J _)),B,M,[],.nil,Z,by rw[fitsL]⟩
 ·let⟨U,s3,B,M,G,hk,g,X⟩:=hP;let er:(r:Int)-1=((r-1:Nat):Int):=∅
  exists _,Z,_,Z,_,_,Z,Z,p,r-1,congrArg (λz=>[V.ref p,V.int z]) er,U,by lia
  intro v t m hv ht W4 s4;let I:=s4 D _ eD B;let sD:ZE D m (upd m D (.lst (a++[v]))):=(ZE.refl D m).upd;let tD:Z4 m (upd m D (.lst (a++[v]))):=sD.tups I;refine hR v m I ⟨W4.stay sD B.symm,λb o e n=>?_,B,M,G++[t],((jY.mono (s4.tupsW U) _ _ hk).append (.cons hv .nil)).mono tD _ _,by simp[g],?_⟩
  ·rw[ZU (ZY e M)];exact(s3.trans s4) b o e n
  ·rw[Me] at X⊢;rw[List.all_append,X];simp[ht]
 ·let⟨U,s3,B,M,G,hk,g,X⟩:=hP;refine⟨D,a,Z,.inl ⟨ZH.of eD,λl hl=>?_⟩⟩;let sl:=ZW hl (.tup a);refine k (.ref l) (.tup G) _ (.tup ZP (hk.sm sl)) ?_ (U.same sl) (s3.trans (ZE.of sl));rw[KT.fits,X,Bool.and_true,zO];exact⟨aK ∅,aK ∅⟩
abbrev ZQ2:jt:=["_law_script","_law_k","_law_left","_law_cell","_law_digits"]
def QK:ZC ZQ2 zE1 (Za Iu):=Zm
def AU(F:Zg K "_law_well" "_law_well" Iu f fd)(T:YE mg):ZI P w K mg ki ZQ 1 f fd zE1 (VA K):=by
 refine F.ok QK (λvs H Q E h=>?_) (λX A L s H vs Q E hr h=>?_)
 ·let⟨a,g,k,rfl,_⟩:=h;rfl
 let⟨a,g,k,rfl,u,hn,k0,k1,q⟩:=h;let J:=QK.nd;intro Xc;refine⟨_,ZN (Zi 2 J (V2 Zq (Yb (ZX ZJ (ZX ZJ Zk))) (Wn O3 rfl T.int Qv (ZX (Vl Vb (pv 1) ZJ (YK _)) Zk)) (λ_ _=>rfl)))
  (ZN (Zi 3 J (V2 Zq (Zu Mn (Wn Pz rfl T.list QG (ZX (pv 0) Zk)) (Yb (ZX ZJ Zk))) (Zu Qu (pv 1) (Zw (Mb rfl) rfl T.max M0 (ZX ZJ (ZX (Zw XE rfl T.len Y6 (ZX (pv 0) Zk)) Zk)))) (λ_ _=>rfl)))
  (ZN (Zi 4 J (Zu Po (Zw IH rfl T.abs IY (ZX (pv 3) Zk)) (Wn O3 rfl T.int Qv (ZX (Pc (Vl ZQO (Zw IH rfl T.abs IY (ZX (pv 3) Zk)) (Zu Mz ZJ ZJ) (YK _)) (Oc (Vl OQ (pv 1) (Zw XE rfl T.len Y6 (ZX (pv 0) Zk)) (YK _)))) Zk))))
  (ZS (Zd (Yb (ZX (Zu Qu (pv 3) ZJ) (ZX (Zu Po ZJ (pv 1)) (ZX (pv 4) (ZX (pv 2) Zk))))))))),?_⟩
 exists (by show 2<=aq;decide)
 intro l1 v;let O:=ZW v (.lst [V.int 240,V.int 2400]);refine⟨_,Z,Z,.inr ⟨_,Z,?_⟩⟩;obtain⟨lv,t,D⟩:∃ z:Int,Y3 [V.int 240,V.int 2400] (if decide (V.int k=V.int 0)=true then 1 else 0)=some (.int z)/\0<=z:=by
  split
  ·exact⟨2400,Z,by decide⟩
  ·exact⟨240,Z,by decide⟩
 exists l1,_,_,_,Z,Z,ZH.of ZP,t;exists _,Z,a,_,Z,.inl (O.seq u);intro S y;let g2:=O.trans (ZW y (.lst (g.map V.int)));exists (by show 1<=aq;decide)
 intro U n;let g3:=g2.trans (ZW n (.lst [V.int 0]));let I:S≠U:=ZY ZP n;exists S,U,_,_,Z,Z,(by rw[ZU I];exact ZP),ZP,(by rw[zX];exact nn (by show g.length+1<=1000;lia))
 intro l4 B;let p:=g3.trans (ZW B (.lst (g.map V.int++[V.int 0])));exists _,Z,_,Z,a,_,Z,.inl (p.seq u),_,_,Z;let C:(g.map V.int).length=g.length:=zX _;generalize R:(if (((g.map V.int).length:Nat):Int) > 1 then (((g.map V.int).length:Nat):Int) else 1)=M
 let M1:1<=M/\M<=(g.length:Int)+1:=by
  rw[C] at R;rw[<-R];split <;> lia
 exists _,_,Z,Z,by lia
 let i0:0<=k % M:=vH _ ∅
 let i1:k % M<M:=vC _ ∅
 let⟨Y,r,G⟩:=Nl (xs:=g.map V.int++[V.int 0]) i0 (by rw[zT,zX,vR];lia)
 obtain⟨c,rfl⟩:∃ z:Int,Y=.int z:=by
  rcases zB.mp G with m | m
  ·let⟨z,_,e⟩:=zL.mp m;exact⟨z,e.symm⟩
  ·exact⟨0,zK.mp m⟩
 exists l4,_,_,_,Z,Z,ZH.of ZP,r;let l:∀ b:Bool,0<=(if c<0 then -c else c) * (if b=true then 1 else 0):=λb=>by
  cases b
  ·simp
  ·simp;split <;> lia
 let N:∀(x:Int)(b:Bool),Q6 x (if b=true then 1 else 0):=λx b=>.inr (by cases b <;> exact⟨by decide,by decide⟩)
 let j:∀(z:Int)(o:Hp),0<=z->ZD H o->∀ i,o i=none->Q (.ref i) (upd o i (.lst [.int (c % 2147483647),.int (1000 * k),.int z,.int lv])):=λz o z0 W i d=>
  q i _ (W.free d) (W.trans (ZW d _)) ⟨_,_,_,_,ZP,vH _ (by decide),vC _ (by decide),z0,D⟩
 exists _,Z,_,Z,_,Z,_,Z,_,_,Z,Z,⟨by decide,by decide,by decide⟩,_,_,Z,Z,_,Z
 refine Xz (λ_=>?_) (λ_=>?_)
 ·refine⟨_,Z,_,Z,a,_,Z,.inl (p.seq u),_,_,Z,Z,.inr ⟨_,Z,_,_,Z,Z,N _ _,?_⟩⟩;exists _,Z,_,_,Z,Z,(by show (0:Int)<2147483647;decide),_,Z,_,_,Z,Z,.inl ⟨by decide,by decide⟩,_,Z,_,Z,(by show 4<=aq;decide)
  intro i d;exact j _ _ (l _) p i d
 ·refine .inr ⟨_,Z,_,_,Z,Z,N _ false,?_⟩;exists _,Z,_,_,Z,Z,(by show (0:Int)<2147483647;decide),_,Z,_,_,Z,Z,.inl ⟨by decide,by decide⟩,_,Z,_,Z,(by show 4<=aq;decide)
  intro i d;exact j _ _ (l false) p i d
def ZQN:ZC zFi zFi (Za Jk):=Zm
def CQ(F:Zg K "has_few_figures" "has_few_figures" Jk f fd)(T:YE mg):ZI P w K mg ki ZQ 1 f fd zFi UW:=by
 refine F.ok ZQN (λc H Q E h=>?_) (λb A a s H c Q E g h=>?_)
 ·let⟨i,rfl,_⟩:=h;rfl
 let⟨i,rfl,q⟩:=h;intro d;exists _,ZS (Zd (Vl OQ (Zw IH rfl T.abs IY (ZX (pv 0) Zk)) (Zu Mz ZJ ZJ) (YK _)));exists _,Z,_,Z,_,_,Z,Z,⟨by decide,by decide,by decide⟩,_,_,Z,Z
 let e:=BZ i;rw[<-e] at q;exact q
def ZPK:ZC ["sign"] ["sign"] (Za Ki):=Zm
def C4(F:Zg K "is_sign" "is_sign" Ki f fd):ZI P w K mg ki ZQ 1 f fd ["sign"] Wy:=by
 refine F.ok ZPK (λk H Q E h=>?_) (λi A d s H k Q E m h=>?_)
 ·let⟨c,rfl,_⟩:=h;rfl
 let⟨c,rfl,q⟩:=h;intro l;exists _,ZS (Zd (Bz EZ EZ VP (pv 0) VP));let g:(xW " ").cps.toList=[32]:=by decide +kernel
 let j:(xW "~").cps.toList=[126]:=by decide +kernel
 let e:=D8 c;exists _,Z,_,_,Z,Z,_,Z;refine Xz (λb=>?_) (λb=>?_)
 ·exists _,_,Z,Z;let a:(!decide ([c]<[32]))=true:=by rw[<-g];exact b
  rw[a,uU] at e;rw[<-e,<-j] at q;exact q
 ·let a:(!decide ([c]<[32]))=false:=by rw[<-g];exact Bool.eq_false_iff.mpr b
  rw[a,vN] at e;rw[<-e] at q;exact q
structure ZV(K:zZ)(mg:jc)(x:Str)(st:aD)(ps:jt):Prop where
 ex:∃ f fd,Zg K x x st f fd/\Zo K fd ps []/\mg x=some (.ref f)
def ZV.of{P:al}{w:ax}{K:zZ}{d:jc}{a:aE}{x:Str}{i:aD}{e:jt}{k:Nat}{g:Sp}(L:ZV K d x i e)(h:∀ f c,Zg K x x i f c->ZI P w K d a ZQ k f c e g):ZA P w K d a k x e g:=by
 let⟨f,c,F,b,m⟩:=L.ex;exact⟨f,c,h f c F,b,F.kp,m⟩
def Mr{K:zZ}{h:aE}{p:jc}{x:Str}{e:aD}{n:jt}{f:aj}{t g:jz}{u:Array (jd)}{s kV q m o ct:ai}(X:K.In h)(G:h.Ns ao p)(a:zJ K ao x=some (some (.ref f)))(l:K.lookup f=some ⟨s,t,.func (yG x x (Uj e) (WT e) (Za e) .none kV q m g o ct),u⟩)(c:wT K o x=true)(k:yJ K (.ref f)=true)(r:∀ (kV j m:ai) (g:jz) (i ct:ai) (b:je),b.length=n.length->bindArgs (yG x x (Uj e) (WT e) (Za e) .none kV j m g i ct) ⟨b,[]⟩=pure (n.zip b):=by first | exact(λ_ _ _ _ _ _ b d=>match b,d with | [_],_=>rfl) | exact(λ_ _ _ _ _ _ b d=>match b,d with | [_,_],_=>rfl) | exact(λ_ _ _ _ _ _ b d=>match b,d with | [_,_,_],_=>rfl) | exact(λ_ _ _ _ _ _ b d=>match b,d with | [_,_,_,_],_=>rfl) | exact(λ_ _ _ _ _ _ b d=>match b,d with | [_,_,_,_,_],_=>rfl)):ZV K p x e n:=
 ⟨f,_,Qd (st:=e) l c k,(Qd (st:=e) l c k).binds r,yH X G a⟩
def GW(T:YE mg)(L:ZV K mg "_law_key" LX zEg)(b:ZA P w K mg ki 1 "_law_pull" zEc Zp)(a:ZA P w K mg ki 2 "_law_great" zEs Zp)(c:ZA P w K mg ki 2 "_law_text" zEq WJ):∀ n:Nat,ZA P w K mg ki (n+2) "_law_key" zEg (XC n)
 | 0=>L.of λ_ _ _=>Bm
 | n+1=>L.of λ_ _ F=>Av F T b a c (GW T L b a c n)
inductive X0(n:Nat)(b:jf)(H:Hp)(Q:VK)(_:XK):Prop
 |mk(v:V)(t:TG)(N:aj->Prop)(r:Nat)(_:b=[v,.int (r:Int)])(_:Z6 N H t v)(_:t.neat)(_:r<n)(_:∀ a,ZD H a->Q (.bl (t.fits r)) a)
inductive WH(b:jf)(H:Hp)(Q:VK)(_:XK):Prop
 |mk(v:V)(t:TG)(N:aj->Prop)(_:b=[v])(_:Z6 N H t v)(_:t.neat)(_:∀ a,ZD H a->Q (.bl (t.fits 3)) a)
def A0{d:Sp}{k:Nat}{e:jt}(c:∀ a H Q E,¬ d a H Q E):ZI P w K mg ki ZQ k f fd e d:=
 ⟨λa H Q E h=>absurd h (c a H Q E),λA b s H args g a Q E _ _ _ _ h=>absurd h (c a H Q E)⟩
def ZPW:ZC zE7 zE7 (Za MU):=Zm
def ZNL{n:Nat}(F:Zg K "fits" "fits" MU f fd)(T:YE mg)(DW:ZA P w K mg ki 1 "has_few_figures" zFi UW)(DS:ZA P w K mg ki 1 "is_sign" ["sign"] Wy)(DF:ZA P w K mg ki (n+1) "fits" zE7 (X0 n)):ZI P w K mg ki ZQ (n+2) f fd zE7 (X0 (n+1)):=by
 refine F.ok ZPW (λp H Q E h=>?_) (λa3 A a2 s H p Q E hr h=>?_)
 ·let⟨v,t,N,r,rfl,_⟩:=h;rfl
 let⟨v,t,N,r,rfl,B,X,hn,k⟩:=h;let U:=hr.mono (show 1<=n+1 by lia)
 let⟨t1,m1⟩:=T.signs;let⟨t2,m2⟩:=T.things;intro Xc;refine⟨_,ZN (Zz (Y7 (Zw Vc rfl T.isi Ve (ZX (pv 0) (ZX (Vd (v:=.ty "bool") rfl T.bool Kp rfl) Zk)))) (ZS (Zd Wm)) Z1)
  (ZN (Zz (Y7 (Zw Vc rfl T.isi Ve (ZX (pv 0) (ZX (Vd (v:=.ty "int") rfl T.int Qv rfl) Zk)))) (ZS (Zd (Zc DW U (ZX (pv 0) Zk)))) Z1)
  (ZN (Zz (Y7 (Zw Vc rfl T.isi Ve (ZX (pv 0) (ZX (Vd (v:=.ty "str") rfl T.str NY rfl) Zk))))
   (ZS (Zd (Pc (Vl Oh (Zw Bc rfl T.len Y6 (ZX (pv 0) Zk)) (VD (v:=.int 40) rfl m1 ⟨_,rfl⟩) (YK _))
    (Oc (Zw (MX rfl) rfl T.all LM (ZX (VJ [] [] rfl (ZPb (pv 0)) (λ_ _ _ _ _=>Vf) (λ_ _ _ _ _=>Zc DS U (ZX (pv 0) Zk)) trivial) Zk)))))) Z1)
  (ZN (Zz (Y7 (Zw Vc rfl T.isi Ve (ZX (pv 0) (ZX (Vd (v:=.ty "tuple") rfl T.tuple Q2 rfl) Zk))))
   (ZS (Zd (Pc (Vl Pm (pv 1) ZJ (YK _)) (Pc (Vl Oh (Zw XE rfl T.len Y6 (ZX (pv 0) Zk)) (VD (v:=.int 4) rfl m2 ⟨_,rfl⟩) (YK _))
    (Oc (Zw (MX rfl) rfl T.all LM (ZX (VJ [1] ["room"] rfl (Le (pv 0)) (λ_ _ _ _ _=>Vf) (λ_ _ _ _ _=>Zc DF hr (ZX (pv 0) (ZX (Zu V3 (pv 1) ZJ) Zk))) ⟨rfl,.inl rfl,rfl,trivial⟩) Zk))))))) Z1)
  (ZS (Zd Wm))))),?_⟩
 cases t with
 | int i=>
  let ev:v=.int i:=by rw[Z6] at B;exact B
  subst ev;refine⟨_,Z,_,_,_,_,Z,.int i,Fl,_,Z,Zf ?_⟩;refine⟨_,Z,_,_,_,_,Z,.int i,MK,_,Z,Zs ?_⟩;let d:=k H (ZD.refl H);rw[TG.fits] at d;exact⟨_,Z,i,Z,d⟩
 | str x=>
  let ev:v=.str x:=by rw[Z6] at B;exact B
  subst ev;let S:x.length<=1000:=by rw[TG.neat] at X;exact X
  refine⟨_,Z,_,_,_,_,Z,.str x,A9,_,Z,Zf ?_⟩;refine⟨_,Z,_,_,_,_,Z,.str x,Mu,_,Z,Zf ?_⟩;refine⟨_,Z,_,_,_,_,Z,.str x,Ni,_,Z,Zs ?_⟩;exists _,Z,x,Z,nn S,_,_,Z,Z,_,Z;refine Xz (λc=>?_) (λc=>?_)
  ·let u:x.length<=40:=by have:=of_decide_eq_true c;lia
   exists _,Z,x,Z;let a6:x.cps.size<=40:=u;refine Vm (n:=x.cps.size) (λi z=>∃ c,x.cps[i]? = some c/\z=.str ⟨#[c]⟩) (λD i m g=>ZD H g/\H D=none/\m=((x.cps.toList.take i).map U7).map V.bl) (Y2 ∅)
    (λD i m g J _=>J) (λD i m g z H4 J _ Y=>Y) (λD m g _=>rfl) (λD O=>⟨ZW O _,O,Z⟩) (λD i m g z I hl J hz j R hR=>?_) (λD m g I j=>?_)
   ·let⟨c,hc,rfl⟩:=hz;let⟨G,L,rfl⟩:=j;exists _,Z,c,Z;refine hR _ g I ⟨λb o e=>by rw[ZU (ZY e L)];exact G b o e,L,?_⟩
    let a0:x.cps.toList[i]? = some c:=by simpa using hc
    rw[yN,a0];simp
   ·let⟨G,L,rfl⟩:=j;exists D,_,Z,ZH.of I;let d:=k g G;let M:(x.cps.toList.take x.cps.size)=x.cps.toList:=yX (by simp)
    let C:(x.cps.toList.map U7).all id=(TG.str x).fits r:=by
     rw[TG.fits,uH];unfold PN;rw[aK u,uU];rfl
    rw[M,C];exact d
  ·let u:¬ x.length<=40:=λz=>c (aK ∅)
   let d:=k H (ZD.refl H);rw[TG.fits] at d;unfold PN at d;rw[aJ u,vN] at d;exact d
 | tup l=>
  rw[Z6] at B;let⟨a,p,rfl,C,W⟩:=B;let hl:=W.length;rw[TG.neat] at X;let⟨a5,a1⟩:=X;let q:Yp K H (.ref a) (.type "tuple"):=.tup C;refine⟨_,Z,_,_,_,_,Z,q,ZPi,_,Z,Zf ?_⟩;refine⟨_,Z,_,_,_,_,Z,q,LB,_,Z,Zf ?_⟩;refine⟨_,Z,_,_,_,_,Z,q,M9,_,Z,Zf ?_⟩;refine⟨_,Z,_,_,_,_,Z,q,JL,_,Z,Zs ?_⟩;exists _,Z,_,_,Z,Z,_,Z;refine Xz (λc1=>?_) (λc1=>?_)
  ·let r0:0<r:=by
    have:=of_decide_eq_true c1
    lia
   exists _,Z,a,p,Z,.inr (Zj.of C),_,_,Z,Z,_,Z;refine Xz (λc2=>?_) (λc2=>?_)
   ·let l4:l.length<=4:=by
     have:=of_decide_eq_true c2
     lia
    exists _,Z,a,Z,⟨p,Zj.of C⟩;refine Vm (n:=p.length) (λi z=>p[i]? = some z) (λD i m g=>ZD H g/\H D=none/\m=((l.take i).map λt=>t.fits (r-1)).map V.bl) (Y2 ∅)
     (λD i m g J j=>⟨p,p[i],Zj.of (j.1 _ _ C),by simp[J]⟩) (λD i m g z H4 J j Y=>⟨Y.1,Y.2 p (Zj.of (j.1 _ _ C))⟩) (λD m g j=>⟨p,Zj.of (j.1 _ _ C),zY _⟩)
     (λD O=>⟨ZW O _,O,Z⟩) (λD i m g z I a4 J hz j R hR=>?_) (λD m g I j=>?_)
    ·let⟨G,L,rfl⟩:=j;let⟨t,M,kt⟩:=W.get hz;let er:(r:Int)-1=((r-1:Nat):Int):=∅
     exists _,Z,_,Z,_,_,Z,Z,z,t,N,r-1,congrArg (λy=>[z,V.int y]) er,kt.mono (Vu.same G) _ _,Ec a1 (zM M),by lia
     intro H4 s4;refine hR _ H4 (s4 D _ I) ⟨λb o e=>by rw[ZU (ZY e L)];exact s4 b o (G b o e),L,?_⟩
     rw[yN,M];simp
    ·let⟨G,L,rfl⟩:=j;exists D,_,Z,ZH.of I;let d:=k g G;rw[TG.fits,aK r0,uU,aK l4,uU,G9] at d;let M:l.take p.length=l:=yX ∅
     rw[M,uH];exact d
   ·let l4:¬ l.length<=4:=λz=>c2 (aK ∅)
    let d:=k H (ZD.refl H);rw[TG.fits,aJ l4,vN,tW] at d;exact d
  ·let r0:¬ 0<r:=λz=>c1 (aK ∅)
   let d:=k H (ZD.refl H);rw[TG.fits,aJ r0,vN] at d;exact d
 | odd n'=>
  rw[Z6] at B;let q:Yp K H v (.type n'):=B.ty;let⟨b,kb,kr⟩:=ZNR (K:=K) B;let d:=k H (ZD.refl H);rw[TG.fits] at d
  cases b with
  | true=>exact⟨_,Z,_,_,_,_,Z,q,kb,_,Z,Zs d⟩
  | false=>
   let⟨k1,k2,k3⟩:=kr Z;refine⟨_,Z,_,_,_,_,Z,q,kb,_,Z,Zf ?_⟩;refine⟨_,Z,_,_,_,_,Z,q,k1,_,Z,Zf ?_⟩;refine⟨_,Z,_,_,_,_,Z,q,k2,_,Z,Zf ?_⟩;refine⟨_,Z,_,_,_,_,Z,q,k3,_,Z,Zf ?_⟩;exact d
def Gq(T:YE mg)(L:ZV K mg "fits" MU zE7)(b:ZA P w K mg ki 1 "has_few_figures" zFi UW)(a:ZA P w K mg ki 1 "is_sign" ["sign"] Wy):∀ n:Nat,ZA P w K mg ki (n+1) "fits" zE7 (X0 n)
 | 0=>L.of λ_ _ _=>A0 λd H Q E h=>by let⟨v,t,N,r,_,_,_,c,_⟩:=h;lia
 | n+1=>L.of λ_ _ F=>ZNL F T b a (Gq T L b a n)
def A7:ZC zE2 zE2 (Za Ih):=Zm
def ZL3(F:Zg K "is_key" "is_key" Ih f fd)(T:YE mg)(b:ZA P w K mg ki 5 "fits" zE7 (X0 4)):ZI P w K mg ki ZQ 6 f fd zE2 WH:=by
 refine F.ok A7 (λj H Q E h=>?_) (λc A a s H j Q E e h=>?_)
 ·let⟨v,t,N,rfl,_⟩:=h;rfl
 let⟨v,t,N,rfl,g,d,k⟩:=h;let⟨m,i⟩:=T.deep;intro l;exists _,ZS (Zd (Zc b e (ZX (pv 0) (ZX (VD (v:=.int 3) rfl i ⟨_,rfl⟩) Zk))));exact⟨_,Z,v,t,N,3,Z,g,d,by decide,k⟩
inductive UP(n:Nat)(c:jf)(H:Hp)(Q:VK)(_:XK):Prop
 |mk(v:V)(t:KT)(q:Nat)(_:c=[v])(_:ZB H t v)(_:t.fits q=true)(_:t.depth<n)(_:∀(b:V)(a:Hp),ZB a t.st b->ZD H a->Q b a)
inductive Yk(d:jf)(H:Hp)(Q:VK)(_:XK):Prop
 |mk(v u:V)(a b:KT)(_:d=[v,u])(_:ZB H a v)(_:ZB H b u)(_:a.fits 3=true)(_:b.fits 3=true)(_:∀ c,ZD H c->Q (.bl (a.lt b)) c)
def ZH3:ZC zFh zFh (Za MS):=Zm
def ZNf{k:Nat}:ZI P w K mg ki ZQ k f fd zFh (UP 0):=by
 let c:∀ a H Q E,¬ UP 0 a H Q E:=λa H Q E h=>by
  let⟨v,t,q,_,_,_,d,_⟩:=h
  lia
 exact⟨λa H Q E h=>absurd h (c a H Q E),λA b s H args e a Q E _ _ _ _ h=>absurd h (c a H Q E)⟩
def ZGa{n:Nat}(F:Zg K "standing" "standing" MS f fd)(T:YE mg)(DS:ZA P w K mg ki (n+1) "standing" zFh (UP n)):ZI P w K mg ki ZQ (n+2) f fd zFh (UP (n+1)):=by
 refine F.ok ZH3 (λg H Q E h=>?_) (λa2 A a1 s H g Q E hr h=>?_)
 ·let⟨v,t,q,rfl,_⟩:=h;rfl
 let⟨v,t,q,rfl,d,hq,hn,k⟩:=h;intro Xc;refine⟨_,ZN (Zz (Y7 (Zw Vc rfl T.isi Ve (ZX (pv 0) (ZX (Vd (v:=.ty "int") rfl T.int Qv rfl) Zk)))) (ZS (Zd (Xl (ZX ZJ (ZX (pv 0) Zk))))) Z1)
  (ZN (Zz (Y7 (Zw Vc rfl T.isi Ve (ZX (pv 0) (ZX (Vd (v:=.ty "str") rfl T.str NY rfl) Zk)))) (ZS (Zd (Xl (ZX ZJ (ZX (pv 0) Zk))))) Z1)
  (ZS (Zd (Xl (ZX ZJ (ZX (Wn Oy rfl T.tuple Q2 (ZX (VJ [] [] rfl (Le (pv 0)) (λ_ _ _ _ _=>Vf) (λ_ _ _ _ _=>Zc DS hr (ZX (pv 0) Zk)) trivial) Zk)) Zk)))))),?_⟩
 cases t with
 | int i=>
  let N:v=.int i:=by rw[ZB] at d;exact d
  subst N;refine⟨_,Z,_,_,_,_,Z,d.ty,MK,_,Z,Zs ?_⟩;exists _,Z,(by show 2<=aq;decide)
  intro p U;refine k _ _ ?_ (ZW U _);rw[KT.st];exact .tup ZP (.cons (.int 0) (.cons (.int i) .nil))
 | str x=>
  let N:v=.str x:=by rw[ZB] at d;exact d
  subst N;refine⟨_,Z,_,_,_,_,Z,d.ty,Mu,_,Z,Zf ?_⟩;refine⟨_,Z,_,_,_,_,Z,d.ty,Ni,_,Z,Zs ?_⟩;exists _,Z,(by show 2<=aq;decide)
  intro p U;refine k _ _ ?_ (ZW U _);rw[KT.st];exact .tup ZP (.cons (.int 1) (.cons (.str x) .nil))
 | tup l=>
  let C:=d;rw[ZB] at C;let⟨a,g,rfl,I,G⟩:=C;let hl:=G.length;rw[KT.fits,zO,zO] at hq;let⟨a6,X,B⟩:=hq;let a5:l.length<=4:=of_decide_eq_true X;rw[KT.depth] at hn;refine⟨_,Z,_,_,_,_,Z,d.ty,LB,_,Z,Zf ?_⟩;refine⟨_,Z,_,_,_,_,Z,d.ty,M9,_,Z,Zf ?_⟩;exists _,Z,a,Z,⟨g,Zj.of I⟩;refine Vm (n:=g.length) (λi z=>g[i]? = some z) (λD i m r=>ZD H r/\H D=none/\jY r ((l.take i).map KT.st) m) (Y2 ∅)
   (λD i m r S j=>⟨g,g[i],Zj.of (j.1 _ _ I),by simp[S]⟩) (λD i m r z u S j hy=>⟨hy.1,hy.2 g (Zj.of (j.1 _ _ I))⟩) (λD m r j=>⟨g,Zj.of (j.1 _ _ I),zY _⟩)
   (λD hD=>⟨ZW hD _,hD,.nil⟩) (λD i m r z M a4 S hz j R hR=>?_) (λD m r M j=>?_)
  ·let⟨L,nD,c⟩:=j;let⟨t,J,kt⟩:=G.get hz;let mt:=zM J;let Y:t.fits (q-1)=true:=by
    rw[Me] at B;exact yZ.mp B t mt
   let a3:=Px mt;exists _,Z,z,t,q-1,Z,kt.sm L,Y,by lia
   intro v' u k4 s4;let y:=s4 D _ M;let tD:Z4 u (upd u D (.lst (m++[v']))):=(ZE.refl D u).upd.tups y;refine hR v' u y ⟨λb o e=>by rw[ZU (ZY e nD)];exact s4 b o (L b o e),nD,?_⟩
   rw[yN,J,zH];exact((c.sm s4).append (.cons k4 .nil)).mono tD _ _
  ·let⟨L,nD,c⟩:=j;let J:l.take g.length=l:=yX ∅
   rw[J] at c;let a0:=c.length;rw[zX] at a0;refine⟨D,m,Z,.inl ⟨ZH.of M,λp1 V=>?_⟩⟩;let g1:=ZW V (.tup m);exists (by show 2<=aq;decide)
   intro p2 W;let O:=ZW W (.tup [.int 2,.ref p1]);refine k _ _ ?_ ((L.trans g1).trans O);rw[KT.st,ER];exact .tup ZP (.cons (.int 2) (.cons (.tup (O _ _ ZP) (c.sm (g1.trans O))) .nil))
def Hv(T:YE mg)(L:ZV K mg "standing" MS zFh):∀ n:Nat,ZA P w K mg ki (n+1) "standing" zFh (UP n)
 | 0=>L.of λ_ _ _=>ZNf
 | n+1=>L.of λ_ _ F=>ZGa F T (Hv T L n)
def AW:ZC zEx zEx (Za L0):=Zm
def B2(F:Zg K "ahead" "ahead" L0 f fd)(e:ZA P w K mg ki 6 "standing" zFh (UP 5)):ZI P w K mg ki ZQ 7 f fd zEx Yk:=by
 refine F.ok AW (λt H Q E h=>?_) (λn A d s H t Q E c h=>?_)
 ·let⟨v,u,a,b,rfl,_⟩:=h;rfl
 let⟨v,u,a,b,rfl,o,p,g,i,k⟩:=h;intro y;exists _,ZS (Zd (Vl (Jy c) (Zc e c (ZX (pv 0) Zk)) (Zc e c (ZX (pv 1) Zk)) (YK _)));let z:=V7 a 3 g;let B:=V7 b 3 i;let C:=Hr a;exists _,Z,v,a,3,Z,o,g,by lia
 intro D x q j;exists _,Z,u,b,3,Z,p.sm j,i,by lia
 intro G m r l;exists a.st,b.st,q.sm l,r,GJ a b,by lia
 rw[Ea];exact k m (j.trans l)
mutual
def KT.wide:KT->Nat->Bool
 | .int _,_=>true
 | .str _,_=>true
 | .tup l,r=>decide (0<r)&&(decide (l.length<=100)&&wideL l (r-1))
def wideL:jp->Nat->Bool
 | [],_=>true
 | t::l,r=>t.wide r&&wideL l r
end
def LA:∀(l:jp)(r:Nat),wideL l r=l.all (·.wide r)
 | [],r=>by rw[wideL];rfl
 | t::l,r=>by rw[wideL,LA l r];rfl
mutual
def Mh:∀(t:KT)(r:Nat),t.fits r=true->t.wide r=true
 | .int _,_,_=>by rw[KT.wide]
 | .str _,_,_=>by rw[KT.wide]
 | .tup l,r,h=>by
  rw[KT.fits,zO,zO] at h;rw[KT.wide,zO,zO];have:=of_decide_eq_true h.2.1;exact⟨h.1,aK ∅,wideL_of l (r-1) h.2.2⟩
def wideL_of:∀(l:jp)(r:Nat),fitsL l r=true->wideL l r=true
 | [],_,_=>by rw[wideL]
 | t::l,r,h=>by
  rw[fitsL,zO] at h;rw[wideL,zO];exact⟨Mh t r h.1,wideL_of l r h.2⟩
end
def Em{d:Sp}{k:Nat}{e:jt}(c:∀ a H Q E,¬ d a H Q E):ZI P w K mg ki ZQ k f fd e d:=
 ⟨λa H Q E h=>absurd h (c a H Q E),λA b s H args g a Q E _ _ _ _ h=>absurd h (c a H Q E)⟩
def Ay:ZC zEe zEe (Za Mj):=Zm
mutual
def KT.rk:KT->KT
 | .int i=>.tup [.int 0,.int i,.str "",.tup []]
 | .str x=>.tup [.int 1,.int 0,.str x,.tup []]
 | .tup l=>.tup [.int 2,.int 0,.str "",.tup (rkL l)]
def rkL:jp->jp
 | []=>[]
 | t::l=>t.rk::rkL l
end
def Hd:∀ l:jp,rkL l=l.map KT.rk
 | []=>by rw[rkL];rfl
 | t::l=>by rw[rkL,Hd l];rfl
mutual
def JI:∀ a b:KT,a.rk.eqb b.rk=a.eqb b
 | .int i,.int j=>by simp[KT.rk,KT.eqb,kc]
 | .str x,.str y=>by simp[KT.rk,KT.eqb,kc]
 | .tup l,.tup m=>by simp[KT.rk,KT.eqb,kc,eqbL_rk l m]
 | .int _,.str _=>by simp[KT.rk,KT.eqb,kc]
 | .int _,.tup _=>by simp[KT.rk,KT.eqb,kc]
 | .str _,.int _=>by simp[KT.rk,KT.eqb,kc]
 | .str _,.tup _=>by simp[KT.rk,KT.eqb,kc]
 | .tup _,.int _=>by simp[KT.rk,KT.eqb,kc]
 | .tup _,.str _=>by simp[KT.rk,KT.eqb,kc]
def eqbL_rk:∀ l m:jp,kc (rkL l) (rkL m)=kc l m
 | [],[]=>by simp[rkL,kc]
 | a::l,b::m=>by simp[rkL,kc,JI a b,eqbL_rk l m]
 | [],_::_=>by simp[rkL,kc]
 | _::_,[]=>by simp[rkL,kc]
end
mutual
def GP:∀ a b:KT,a.rk.cmp b.rk=true
 | .int i,.int j=>by simp[KT.rk,KT.eqb,KT.cmp,cmpL,kc]
 | .str x,.str y=>by simp[KT.rk,KT.eqb,KT.cmp,cmpL,kc]
 | .tup l,.tup m=>by simp[KT.rk,KT.eqb,KT.cmp,cmpL,cmpL_rk l m]
 | .int _,.str _=>by simp[KT.rk,KT.eqb,KT.cmp,cmpL]
 | .int _,.tup _=>by simp[KT.rk,KT.eqb,KT.cmp,cmpL]
 | .str _,.int _=>by simp[KT.rk,KT.eqb,KT.cmp,cmpL]
 | .str _,.tup _=>by simp[KT.rk,KT.eqb,KT.cmp,cmpL]
 | .tup _,.int _=>by simp[KT.rk,KT.eqb,KT.cmp,cmpL]
 | .tup _,.str _=>by simp[KT.rk,KT.eqb,KT.cmp,cmpL]
def cmpL_rk:∀ l m:jp,cmpL (rkL l) (rkL m)=true
 | [],_=>by simp[rkL,cmpL]
 | _::_,[]=>by simp[rkL,cmpL]
 | a::l,b::m=>by
  rw[rkL,rkL,cmpL,cmpL_rk l m,GP a b];split <;> rfl
end
mutual
def Eb:∀ a b:KT,a.rk.plt b.rk=a.lt b
 | .int i,.int j=>by
  simp only[KT.rk,KT.eqb,KT.plt,pltL,kc,KT.lt,beq_self_eq_true,if_true];by_cases h:i=j
  ·subst h;simp
  ·simp[h]
 | .str x,.str y=>by
  simp only[KT.rk,KT.eqb,KT.plt,pltL,kc,KT.lt,beq_self_eq_true,if_true];by_cases h:x=y
  ·subst h;simp
  ·simp[h]
 | .tup l,.tup m=>by
  simp only[KT.rk,KT.eqb,KT.plt,pltL,KT.lt,beq_self_eq_true,if_true,eqbL_rk,pltL_rk l m]
  cases h:kc l m with
  | true=>rw[aO rfl,De h]
  | false=>rw[aM zW]
 | .int _,.str _=>by simp[KT.rk,KT.eqb,KT.plt,pltL,KT.lt]
 | .int _,.tup _=>by simp[KT.rk,KT.eqb,KT.plt,pltL,KT.lt]
 | .str _,.int _=>by simp[KT.rk,KT.eqb,KT.plt,pltL,KT.lt]
 | .str _,.tup _=>by simp[KT.rk,KT.eqb,KT.plt,pltL,KT.lt]
 | .tup _,.int _=>by simp[KT.rk,KT.eqb,KT.plt,pltL,KT.lt]
 | .tup _,.str _=>by simp[KT.rk,KT.eqb,KT.plt,pltL,KT.lt]
def pltL_rk:∀ l m:jp,pltL (rkL l) (rkL m)=ltL l m
 | [],[]=>by simp[rkL,pltL,ltL]
 | [],_::_=>by simp[rkL,pltL,ltL]
 | _::_,[]=>by simp[rkL,pltL,ltL]
 | a::l,b::m=>by rw[rkL,rkL,pltL,ltL,JI a b,pltL_rk l m,Eb a b]
end
mutual
def Na:∀ t:KT,t.rk.depth<=2 * t.depth+2
 | .int i=>by simp[KT.rk,KT.depth,ke]
 | .str x=>by simp[KT.rk,KT.depth,ke]
 | .tup l=>by
  have:=depthL_rk l;simp only[KT.rk,KT.depth,ke]
  lia
def depthL_rk:∀ l:jp,ke (rkL l)<=2 * ke l+2
 | []=>by simp[rkL,ke]
 | t::l=>by
  let a:=Na t;let b:=depthL_rk l;rw[rkL,ke,ke]
  lia
end
inductive Yq(n:Nat)(c:jf)(H:Hp)(Q:VK)(_:XK):Prop
 |mk(v:V)(t:KT)(q:Nat)(_:c=[v])(_:ZB H t v)(_:t.fits q=true)(_:t.depth<n)(_:∀(b:V)(a:Hp),ZB a t.rk b->ZD H a->Q b a)
def ZPD:ZC zEt zEt (Za Mc):=Zm
def ZOC{n:Nat}(F:Zg K "_law_rank" "_law_rank" Mc f fd)(T:YE mg)(DS:ZA P w K mg ki (n+1) "_law_rank" zEt (Yq n)):ZI P w K mg ki ZQ (n+2) f fd zEt (Yq (n+1)):=by
 refine F.ko ZPD λa5 A a4 s H j Q E hr h=>?_;let⟨v,t,q,rfl,d,hq,hn,k⟩:=h;intro Xc;refine⟨_,ZN (Zz (Y7 (Zw Vc rfl T.isi Ve (Zl (pv 0) (Vd (v:=.ty "int") rfl T.int Qv rfl)))) (ZS (Zd (Xl (Qb ZJ (pv 0) VP (Xl Zk))))) Z1)
  (ZN (Zz (Y7 (Zw Vc rfl T.isi Ve (Zl (pv 0) (Vd (v:=.ty "str") rfl T.str NY rfl)))) (ZS (Zd (Xl (Qb ZJ ZJ (pv 0) (Xl Zk))))) Z1)
  (ZS (Zd (Xl (Qb ZJ ZJ VP (Wn Oy rfl T.tuple Q2 (ZZ (VJ [] [] rfl (Le (pv 0)) (λ_ _ _ _ _=>Vf) (λ_ _ _ _ _=>Zc DS hr (ZZ (pv 0))) trivial)))))))),?_⟩
 cases t with
 | int i=>
  let O:v=.int i:=by rw[ZB] at d;exact d
  subst O;refine⟨_,Z,_,_,_,_,Z,d.ty,MK,_,Z,Zs ?_⟩;refine⟨_,Z,(by show 0<=aq;decide),λp0 V=>⟨(by show 4<=aq;decide),λp X=>?_⟩⟩
  let S:=ZW V (.tup []);let r:=ZW X (.tup [.int 0,.int i,.str "",.ref p0]);refine k _ _ ?_ (S.trans r);rw[KT.rk];exact .tup ZP (.cons (.int 0) (.cons (.int i) (.cons (.str _) (.cons (.tup (r _ _ ZP) .nil) .nil))))
 | str x=>
  let O:v=.str x:=by rw[ZB] at d;exact d
  subst O;refine⟨_,Z,_,_,_,_,Z,d.ty,Mu,_,Z,Zf ?_⟩;refine⟨_,Z,_,_,_,_,Z,d.ty,Ni,_,Z,Zs ?_⟩;refine⟨_,Z,(by show 0<=aq;decide),λp0 V=>⟨(by show 4<=aq;decide),λp X=>?_⟩⟩
  let S:=ZW V (.tup []);let r:=ZW X (.tup [.int 1,.int 0,.str x,.ref p0]);refine k _ _ ?_ (S.trans r);rw[KT.rk];exact .tup ZP (.cons (.int 1) (.cons (.int 0) (.cons (.str x) (.cons (.tup (r _ _ ZP) .nil) .nil))))
 | tup l=>
  let G:=d;rw[ZB] at G;let⟨a,j,rfl,J,I⟩:=G;let hl:=I.length;rw[KT.fits,zO,zO] at hq;let⟨a9,a1,C⟩:=hq;let a8:l.length<=4:=of_decide_eq_true a1;rw[KT.depth] at hn;refine⟨_,Z,_,_,_,_,Z,d.ty,LB,_,Z,Zf ?_⟩;refine⟨_,Z,_,_,_,_,Z,d.ty,M9,_,Z,Zf ?_⟩;exists _,Z,a,Z,⟨j,Zj.of J⟩;refine Vm (n:=j.length) (λi z=>j[i]? = some z) (λD i m u=>ZD H u/\H D=none/\jY u ((l.take i).map KT.rk) m) (Y2 ∅)
   (λD i m u W g=>⟨j,j[i],Zj.of (g.1 _ _ J),by simp[W]⟩) (λD i m u z y W g hy=>⟨hy.1,hy.2 j (Zj.of (g.1 _ _ J))⟩) (λD m u g=>⟨j,Zj.of (g.1 _ _ J),zY _⟩)
   (λD hD=>⟨ZW hD _,hD,.nil⟩) (λD i m u z N a7 W hz g R hR=>?_) (λD m u N g=>?_)
  ·let⟨M,nD,c⟩:=g;let⟨t,L,kt⟩:=I.get hz;let mt:=zM L;let a2:t.fits (q-1)=true:=by
    rw[Me] at C;exact yZ.mp C t mt
   let a6:=Px mt;exists _,Z,z,t,q-1,Z,kt.sm M,a2,by lia
   intro v' y k4 s4;let B:=s4 D _ N;let tD:Z4 y (upd y D (.lst (m++[v']))):=(ZE.refl D y).upd.tups B;refine hR v' y B ⟨λb o e=>by rw[ZU (ZY e nD)];exact s4 b o (M b o e),nD,?_⟩
   rw[yN,L,zH];exact((c.sm s4).append (.cons k4 .nil)).mono tD _ _
  ·let⟨M,nD,c⟩:=g;let L:l.take j.length=l:=yX ∅
   rw[L] at c;let a3:=c.length;rw[zX] at a3;refine⟨D,m,Z,.inl ⟨ZH.of N,λp1 Y=>?_⟩⟩;let r:=ZW Y (.tup m);exists (by show 4<=aq;decide)
   intro p2 a0;let U:=ZW a0 (.tup [.int 2,.int 0,.str "",.ref p1]);refine k _ _ ?_ ((M.trans r).trans U);rw[KT.rk,Hd];exact .tup ZP (.cons (.int 2) (.cons (.int 0) (.cons (.str _) (.cons (.tup (U _ _ ZP) (c.sm (r.trans U))) .nil))))
def ES(T:YE mg)(L:ZV K mg "_law_rank" Mc zEt):∀ n:Nat,ZA P w K mg ki (n+1) "_law_rank" zEt (Yq n)
 | 0=>L.of λ_ _ _=>Em λb H Q E h=>by let⟨v,t,q,_,_,_,a,_⟩:=h;lia
 | n+1=>L.of λ_ _ F=>ZOC F T (ES T L n)
end Tw
namespace Tw
open PySem PySem.Spec L2 PyProof.Rows
variable{jh ji CS CT CH CK CP CB:aj}
def WI:Kg KT.rk:=⟨Eb,GP,3,λt=>by cases t <;> (rw[KT.rk];exact⟨_,_,Z,Z⟩)⟩
def Yf(c:jp):Prop:=c.Pairwise λa b=>a.lt b=true
def EJ{c:jp}(d:c.Nodup)(h:c.Pairwise λa b=>b.lt a=false):Yf c:=by
 induction c with
 | nil=>exact .nil
 | cons a c g=>
  rw[wG] at d;rw[xS] at h;refine xS.mpr ⟨λb f=>?_,g d.2 h.2⟩
  cases q:a.lt b with
  | true=>rfl
  | false=>
   let e:=M5 a b q (h.1 b f);exact absurd (e ▸ f) d.1
def Oa{k:Nat}{A:ay}(r:ZT k A):A.units+4<cLine:=by have:=r.un;lia
def LJ{p D:aj}{H a:Hp}(s:ZE p H a)(w:ZK a p)(n:a D=none):H D=none:=by
 cases e:H D with
 | none=>rfl
 | some o=>
  by_cases h:D=p
  ·subst h;let⟨c,b⟩:=w.some;rw[n] at b;cases b
  ·rw[s D o e h] at n;cases n
inductive UT(d:jf)(H:Hp)(Q:VK)(_:XK):Prop
 |mk(p:aj)(n:Nat)(_:d=[.ref p,.int (n:Int)])(_:ZK H p)(_:n<400)(_:∀(D:aj)(c:jf)(b:jp)(a:Hp),H D=none->a D=some (.lst c)->jY a b c->(∀ t∈b,t.fits 3=true)->Yf b->b.length<=n->ZK a p->ZE p H a->Q (.ref D) a)
def QB:ZC ["_law_well_here","_law_many","_law_found","_law_j"] zEc (Za Ip):=Zm
def ZNg(F:Zg K "_law_keys" "_law_keys" Ip f fd)(T:YE mg)(DK:ZA P w K mg ki 6 "_law_key" zEg (XC 4))(DR:ZA P w K mg ki 6 "_law_rank" zEt (Yq 5)):
  ZI P w K mg ki ZQ 9 f fd zEc UT:=by
 refine F.ko QB λa1 A a0 s H vs Q E S h=>?_;let⟨p,n,rfl,hw,hn,k⟩:=h;let nd:=QB.nd;let U:=S.mono (show 6<=8 from nofun)
 let DS:ZA P w K mg ki 6 "_law_rank" zEt (Pb KT.rk):=by
  let⟨g,gd,FG,b,kp,m⟩:=DR.ex;exact⟨g,gd,FG.imp λvs H Q E h=>by
   let⟨v,t,e,a,c,d⟩:=h;have:=V7 t 3 c;exact⟨v,t,3,e,a,c,nofun,d⟩,b,kp,m⟩
 intro Xc;refine⟨_,ZN (Zi 2 nd Kd)
  (ZN (U8 PassesOwn.never rfl (P1 rfl T.range (ZZ (pv 1))) (Xx 3 nd)
   (ZS (Lh (Oa S) (pv 2) (Zc DK U (Zl (pv 0) ZJ)) Wm rfl)))
  (ZS (Zd (Gy WI Na DS S rfl T.sorted rfl (ZZ (pv 2)))))),?_⟩
 intro y H1 I _ s1 N;let⟨a2,Y⟩:=hw.some;let C:p≠y:=ZY Y I;refine⟨_,Z,(n:Int),Z,nofun,nofun,OJ (n:=(n:Int).toNat) (λi σ u=>∃(l:List (KT×V×V))(o:jg),σ=[some (.ref p),some (.int (n:Int)),some (.ref y),o]/\Zx w u y l/\l.length<=i/\(∀ x∈l,x.1.fits 3=true)/\ZK u p/\ZE p H u)
  ⟨[],none,Z,N,zY _,λx X=>by simp at X,hw.same s1,ZE.of s1⟩ (λi σ u hi R=>?_) (λσ u R=>?_)⟩
 ·let⟨l,o,rfl,L,lx,B,j,M⟩:=R;exists _,Z,_,Z,p,3,Z,j,nofun
  intro v t H3 kv ft W r;let tu:=r.tupsW j;refine⟨y,l,t,Z,L.but r tu (Ne.symm C),nofun,kv,V7 t 3 ft,λH4 J O=>⟨_,_,Z,O,by have:=Kh l t v (.bl true);lia (splits:=8),λx X=>?_,W.stay J C,λb ob e nb=>?_⟩⟩
  ·have:x.1∈(VH l t v (.bl true)).map (·.1):=List.mem_map_of_mem X;rw[LQ] at this;split at this
   ·let⟨z,G,e⟩:=zL.mp this;rw[<-e];exact B z G
   ·rcases zB.mp this with q | q
    ·let⟨z,G,e⟩:=zL.mp q;rw[<-e];exact B z G
    ·rw[zK.mp q];exact ft
  ·exact J b ob (r b ob (M b ob e nb) nb) (ZY e I)
 ·let⟨l,o,rfl,L,lx,B,j,M⟩:=R;exists _,Z,y,l,Z,L,B,nofun
  intro D ws rs H5 s5 nD hD ka pm pw;let lr:=pm.length_eq;rw[zX] at lr;refine k D ws rs H5 (LJ M j nD) hD ka (λt ht=>?_) (EJ (pm.nodup_iff.mpr L.nd) pw) nofun (j.same s5) (M.trans (ZE.of s5))
  let⟨z,G,e⟩:=zL.mp (pm.mem_iff.mp ht);rw[<-e];exact B z G
section
open PySem.SeqAt
open PySem.AutoSeq1 (wpAny_loadPart')
open PySem.MeetsSeq PySem.MeetsSeq2 PySem.MeetsSeq3
end
inductive Ya(n:Nat)(b:jf)(H:Hp)(Q:VK)(_:XK):Prop
 |mk(v u:V)(t m:KT)(r:Nat)(_:b=[v,u])(_:ZB H t v)(_:ZB H m u)(_:m.wide r=true)(_:r<n)(_:∀ a,ZD H a->Q (.bl (t.eqb m)) a)
def ZMz{l m:jp}(h:l.length≠m.length):kc l m=false:=by
 rw[<-Nq,show (l.length==m.length)=false by simp[h],tW]
def ZNn{l m:jp}(h:l.length=m.length):((yU m.length).map λj=>(l.getD j (.int 0)).eqb (m.getD j (.int 0))).all id=kc l m:=by
 rw[<-Nq,h,Nat.min_self,uH];simp
def Dv{n:Nat}(F:Zg K "_law_alike" "_law_alike" Mj f fd)(T:YE mg)(DA:ZA P w K mg ki (n+1) "_law_alike" zEe (Ya n)):
  ZI P w K mg ki ZQ (n+2) f fd zEe (Ya (n+1)):=by
 refine F.ok Ay (λg H Q E h=>?_) (λa4 A a3 s H g Q E hr h=>?_)
 ·let⟨v,u,t,m,r,rfl,_⟩:=h;rfl
 let⟨v,u,t,m,r,rfl,d,B,hf,hn,k⟩:=h;intro Xc;refine⟨_,ZN (Zz (Y7 (Zw Vc rfl T.isi Ve (ZX (pv 1) (ZX (Vd (v:=.ty "tuple") rfl T.tuple Q2 rfl) Zk))))
   (ZN (Zz (PW.pt (Pa (Vv (Y7 (Zw Vc rfl T.isi Ve (ZX (pv 0) (ZX (Vd (v:=.ty "tuple") rfl T.tuple Q2 rfl) Zk)))))
    (OR (XB Aw (Zw XE rfl T.len Y6 (ZX (pv 0) Zk)) (Zw XE rfl T.len Y6 (ZX (pv 1) Zk)) (YK _))))) (ZS (Zd Wm)) Z1)
   (ZS (Zd (Zw (MX rfl) rfl T.all LM (ZX (VJ [0,1] zEe rfl (P1 rfl T.range (ZX (Zw XE rfl T.len Y6 (ZX (pv 1) Zk)) Zk)) (λ_ _ _ _ _=>Vf)
    (λ_ _ _ _ _=>Zc DA hr (ZX (Zt K (pv 1) (pv 0)) (ZX (Zt K (pv 2) (pv 0)) Zk))) ⟨rfl,.inl rfl,rfl,rfl,.inl rfl,rfl,trivial⟩) Zk))))) Z1)
  (ZN (Zz (Y7 (Zw Vc rfl T.isi Ve (ZX (pv 1) (ZX (Vd (v:=.ty "str") rfl T.str NY rfl) Zk))))
   (ZS (Zd (Pc (Zw Vc rfl T.isi Ve (ZX (pv 0) (ZX (Vd (v:=.ty "str") rfl T.str NY rfl) Zk))) (Oc (Vl Vb (pv 0) (pv 1) (YK _)))))) Z1)
  (ZS (Zd (Pc (Zw Vc rfl T.isi Ve (ZX (pv 0) (ZX (Vd (v:=.ty "int") rfl T.int Qv rfl) Zk)))
   (Pc (Ag (Zw Vc rfl T.isi Ve (ZX (pv 0) (ZX (Vd (v:=.ty "bool") rfl T.bool Kp rfl) Zk)))) (Oc (Vl Vb (pv 0) (pv 1) (YK _)))))))),?_⟩
 let c:=k H (ZD.refl H)
 cases m with
 | int j=>
  let Y:u=.int j:=by rw[ZB] at B;exact B
  subst Y;refine⟨_,Z,_,_,_,_,Z,.int j,Hi,_,Z,Zf ?_⟩;refine⟨_,Z,_,_,_,_,Z,.int j,kit_is',_,Z,Zf ?_⟩
  cases t with
  | int i=>
   let ev:v=.int i:=by rw[ZB] at d;exact d
   subst ev;refine⟨_,Z,_,_,_,_,Z,.int i,MK,_,Z,Zs ?_⟩;refine⟨_,Z,_,_,_,_,Z,.int i,Fl,_,Z,_,Z,Zs ?_⟩;exists _,Z,_,Z,Z;rw[KT.eqb] at c;let e:decide (V.int i=V.int j)=(i==j):=by
    by_cases z:i=j
    ·subst z;simp
    ·simp[z]
   rw[e];exact c
  | str x=>
   rw[show (KT.str x).eqb (.int j)=false by simp[KT.eqb]] at c
   exact⟨_,Z,_,_,_,_,Z,d.ty,Mu,_,Z,Zf c⟩
  | tup l=>
   rw[show (KT.tup l).eqb (.int j)=false by simp[KT.eqb]] at c
   exact⟨_,Z,_,_,_,_,Z,d.ty,LB,_,Z,Zf c⟩
 | str y=>
  let Y:u=.str y:=by rw[ZB] at B;exact B
  subst Y;refine⟨_,Z,_,_,_,_,Z,.str y,E9,_,Z,Zf ?_⟩;refine⟨_,Z,_,_,_,_,Z,.str y,Ni,_,Z,Zs ?_⟩
  cases t with
  | int i=>
   rw[show (KT.int i).eqb (.str y)=false by simp[KT.eqb]] at c
   exact⟨_,Z,_,_,_,_,Z,d.ty,kit_is',_,Z,Zf c⟩
  | str x=>
   let ev:v=.str x:=by rw[ZB] at d;exact d
   subst ev;refine⟨_,Z,_,_,_,_,Z,.str x,Ni,_,Z,Zs ?_⟩;exists _,Z,_,Z,Z;rw[KT.eqb] at c;let e:decide (V.str x=V.str y)=(x==y):=by
    by_cases z:x=y
    ·subst z;simp
    ·simp[z]
   rw[e];exact c
  | tup l=>
   rw[show (KT.tup l).eqb (.str y)=false by simp[KT.eqb]] at c
   exact⟨_,Z,_,_,_,_,Z,d.ty,M9,_,Z,Zf c⟩
 | tup m=>
  let tu:=B.ty (K:=K);rw[ZB] at B;let⟨b,p,rfl,X,M⟩:=B;let a1:=M.length;rw[KT.wide,zO,zO] at hf;let⟨f0,f1,f2⟩:=hf;let r0:=of_decide_eq_true f0;let l4:=of_decide_eq_true f1;refine⟨_,Z,_,_,_,_,Z,tu,JL,_,Z,Zs ?_⟩
  cases t with
  | int i=>
   rw[show (KT.int i).eqb (.tup m)=false by simp[KT.eqb]] at c
   exact⟨_,Z,_,_,_,_,Z,d.ty,Hi,_,Z,Zs (Zs c)⟩
  | str x=>
   rw[show (KT.str x).eqb (.tup m)=false by simp[KT.eqb]] at c
   exact⟨_,Z,_,_,_,_,Z,d.ty,E9,_,Z,Zs (Zs c)⟩
  | tup l=>
  let tv:=d.ty (K:=K);rw[ZB] at d;let⟨a,g,rfl,ea,N⟩:=d;let hl:=N.length;rw[KT.eqb] at k c;refine⟨_,Z,_,_,_,_,Z,tv,JL,_,Z,Zf ?_⟩;exists _,Z,a,g,Z,.inr (Zj.of ea),_,Z,b,p,Z,.inr (Zj.of X),Z,_,Z;by_cases O:g.length=p.length
  ·refine ZQk (by rw[O]) ?_
   exists _,Z,b,p,Z,.inr (Zj.of X),_,Z,nofun,nofun
   rw[uW];refine Vm (n:=p.length) (λi x=>x=.int (0+(i:Int))) (λD i G q=>ZD H q/\H D=none/\G=((yU i).map λj=>(l.getD j (.int 0)).eqb (m.getD j (.int 0))).map V.bl) (Y2 nofun)
    (λD i G q S _=>S) (λD i G q x H4 S _ hy=>hy) (λD G q _=>zY _) (λD hD=>⟨ZW hD _,hD,Z⟩) (λD i G q x W a5 S hx hP R hR=>?_) (λD G q W hP=>?_)
   ·subst hx;let⟨C,nD,rfl⟩:=hP;let a0:i<g.length:=nofun
    let L:g[i]? = some g[i]:=by simp[a0]
    let J:p[i]? = some p[i]:=by simp[S]
    let⟨t,et,kt⟩:=N.get L;let⟨U,I,a2⟩:=M.get J;let ft:U.wide (r-1)=true:=by rw[LA] at f2;exact yZ.mp f2 U (zM I)
    let av:Y3 g (0+(i:Int))=some g[i]:=by rw[Int.zero_add];exact YO L
    let au:Y3 p (0+(i:Int))=some p[i]:=by rw[Int.zero_add];exact YO J
    refine⟨_,Z,_,Z,.inr (.inl ⟨a,g,_,_,rfl,rfl,Zj.of (C _ _ ea),av,_,rfl,_,rfl,.inr (.inl ⟨b,p,_,_,rfl,rfl,Zj.of (C _ _ X),au,g[i],p[i],t,U,r-1,rfl,kt.sm C,a2.sm C,ft,nofun,λH4 s4=>?_⟩)⟩)⟩
    refine hR _ H4 (s4 D _ W) ⟨λb o e=>by rw[ZU (ZY e nD)];exact s4 b o (C b o e),nD,?_⟩
    rw[List.range_succ,zH,zH]
    congr 1
    show [V.bl (t.eqb U)]=[V.bl ((l.getD i (.int 0)).eqb (m.getD i (.int 0)))];rw[zU,zU,et,I];rfl
   ·let⟨C,nD,rfl⟩:=hP;exists D,_,Z,ZH.of W;rw[<-a1,ZNn nofun]
    exact k q C
  ·rw[ZMz nofun] at c
   rw[aJ (λz=>O (by have:=NN z;lia (splits:=8)))]
   exact Zs c
def FL(T:YE mg)(L:ZV K mg "_law_alike" Mj zEe):∀ n:Nat,ZA P w K mg ki (n+1) "_law_alike" zEe (Ya n)
 | 0=>L.of λ_ _ _=>Em λb H Q E h=>by let⟨v,u,t,m,r,_,_,_,_,a,_⟩:=h;lia
 | n+1=>L.of λ_ _ F=>Dv F T (FL T L n)
inductive WR(i:jf)(H:Hp)(Q:VK)(_:XK):Prop
 |mk(a b:aj)(g h:jf)(e c:jp)(_:i=[.ref a,.ref b])(_:H a=some (.lst g))(_:H b=some (.lst h))(_:jY H e g)(_:jY H c h)(_:∀ t∈c,t.wide 4=true)(_:c.length<=100)(_:∀ d,ZD H d->Q (.bl (kc e c)) d)
def B7:ZC zEe zEe (Za J9):=Zm
def ZJe(F:Zg K "_law_rows_alike" "_law_rows_alike" J9 f fd)(T:YE mg)(p:ZA P w K mg ki 7 "_law_alike" zEe (Ya 6)):ZI P w K mg ki ZQ 8 f fd zEe WR:=by
 refine F.ko B7 λr A i s H N Q E y h=>?_;let⟨a,b,n,o,J,L,rfl,m,u,B,C,x,c,k⟩:=h;intro M;refine⟨_,ZS (Zd (Pc (Zw Vc rfl T.isi Ve (Zl (pv 0) (Vd (v:=.ty "list") rfl T.list QG rfl)))
  (Oc (Zc p y (Zl (Wn Oy rfl T.tuple Q2 (ZZ (pv 0))) (Wn Oy rfl T.tuple Q2 (ZZ (pv 1)))))))),?_⟩
 refine⟨_,Z,_,_,_,_,Z,.lst m,(by kernel_rfl),_,Z,Zs ?_⟩
 refine⟨_,Z,a,n,Z,.inl ⟨ZH.of m,λD d=>?_⟩⟩;let j:=ZW d (.tup n);refine⟨_,Z,b,o,Z,.inl ⟨ZH.of (j _ _ u),λG e=>?_⟩⟩;let l:=ZW e (.tup o);let g:=j.trans l;refine⟨.ref D,.ref G,.tup J,.tup L,5,Z,.tup (l _ _ ZP) (B.sm g),.tup ZP (C.sm g),?_,by decide,λq I=>?_⟩
 ·rw[KT.wide,zO,zO,LA];exact⟨by decide,aK c,yZ.mpr λt z=>x t z⟩
 ·rw[KT.eqb];exact k q (g.trans I)
def U3{H:Hp}{p q:aj}(W:ZK H p)(h:H q=none):q≠p:=λz=>by
 let⟨a,e⟩:=W.some;rw[z,e] at h;cases h
inductive VC(b:jf)(H:Hp)(Q:VK)(_:XK):Prop
 |mk(p:aj)(_:b=[.ref p])(_:ZK H p)(_:∀(v:V)(t:KT)(a:Hp),ZB a t v->t.fits 3=true->ZK a p->ZE p H a->Q v a)
def ZOQ:ZC zEq zEq (Za KM):=Zm
def Cs(F:Zg K "_law_value" "_law_value" KM f fd)(z:ZA P w K mg ki 1 "_law_pull" zEc Zp)(J:ZA P w K mg ki 6 "_law_key" zEg (XC 4)):ZI P w K mg ki ZQ 7 f fd zEq VC:=by
 refine F.ko ZOQ λN A y s H vs Q E C h=>?_;let⟨p,rfl,W,q⟩:=h;let g:=C.to 1;intro Xc;refine⟨_,ZN (Zz (XB Vb (Zc z g (Zl (pv 0) ZJ)) ZJ (YK _)) (ZS (Zd (Zc J C (Zl (pv 0) ZJ)))) Z1)
  (ZS (Zd (Zt K (Yb (IK ZJ ZJ VP (Xl (ZZ ZJ)) VP (Xl Zk))) (Zc z g (Zl (pv 0) ZJ))))),?_⟩
 refine⟨_,Z,p,3,Z,W,Xp (by decide) (by decide),λw0 L a0 a1 k G=>⟨Z,_,Z,?_⟩⟩
 refine Xz (λc=>?_) (λc=>?_)
 ·exact⟨_,Z,p,3,Z,k,by decide,λv t a S R b j=>q v t a S R b (G.trans j)⟩
 exists YF;intro l X;let B:=ZW X (.tup [.int 1]);exists YF;intro m Y;let n:=ZW Y (.tup []);exists YF;intro d i;let o:=ZW i (.lst [.int 0,.int 1,.str "1",.ref l,.str "",.ref m]);let u:ZD L _:=(B.trans n).trans o;let x:d≠p:=U3 (k.same (B.trans n)) i;exists _,Z,p,6,Z,k.same u,Xp (by decide) (by decide)
 intro r a r0 r1 b j;let I:=j.tupsW (k.same u);let e:ZE p H a:=(G.trans (ZE.of u)).trans j;let T:ZB a (.tup [.int 1]) (.ref l):=.tup (I _ _ (o _ _ (n _ _ ZP))) (.cons (.int 1) .nil);let U:ZB a (.tup []) (.ref m):=.tup (I _ _ (o _ _ ZP)) .nil;let O:a d=some (.lst [.int 0,.int 1,.str "1",.ref l,.str "",.ref m]):=j d _ ZP x;let⟨v,M,D⟩:=Nl (xs:=[V.int 0,.int 1,.str "1",.ref l,.str "",.ref m]) r0 r1;refine .inl ⟨d,_,_,v,Z,Z,ZH.of O,M,?_⟩;simp only[yT,List.not_mem_nil,or_false] at D;rcases D with rfl | rfl | rfl | rfl | rfl | rfl
 ·exact q _ _ a (.int 0) (by decide +kernel) b e
 ·exact q _ _ a (.int 1) (by decide +kernel) b e
 ·exact q _ _ a (.str _) (by decide +kernel) b e
 ·exact q _ _ a T (by decide +kernel) b e
 ·exact q _ _ a (.str _) (by decide +kernel) b e
 ·exact q _ _ a U (by decide +kernel) b e
end Tw
namespace L2
open PySem PySem.Spec PyProof.Rows
inductive Pf(b:zZ)(c:jf)(H:Hp)(Q:VK):Prop
 |mk(p:aj)(a:jF)(_:c=[.ref p])(_:ZH b H p (a.map V.int))(_:Q (.int a.sum) H)
def KW(g:X.calm=true):UN X (.builtin "sum") (Pf X.K):=by
 intro d s A H z y Q I r h;let⟨p,c,rfl,j,q⟩:=h;let⟨u,rfl,m⟩:=UB r;cases m;let⟨k,n,l,x⟩:=I.list j;let a:=ZIY n;let⟨v,e⟩:=a.allInts.items;let b:=l.isList;rw[e] at b;let f:v.toList.map (·.1)=c:=by
  rw[<-nums_intItems,<-e];exact a.numsOf
 refine sum_intListG (I.ok.hd g) b λw t o i=>⟨.int c.sum,H,I.kept (t':=t) i,⟨o,?_⟩,q⟩;rw[preSum_eq,yX (by simp),f]
end L2
namespace Tw
open PySem PySem.Spec L2 PyProof.Rows
variable{jh ji CS CT CH CK CP CB:aj}
def KU:az "sum" = some (.builtin "sum"):=by decide +kernel
structure YV where
 h:Int
 lo:KT
 hi:KT
 m:Int
abbrev jJ:=List YV
def YV.d:YV:=⟨0,.int 0,.int 0,0⟩
def YV.kt(L:YV):KT:=.tup [.int L.h,L.lo,L.hi,.int L.m]
inductive Yu(H:Hp)(L:YV)(u:V):Prop
 |mk(a c b:_)(_:u=.ref a)(_:H a=some (.tup [.int L.h,c,b,.int L.m]))(_:ZB H L.lo c)(_:ZB H L.hi b)
def Yu.mono{H d:Hp}{L:YV}{u:V}(x:Yu H L u)(m:Z4 H d):Yu d L u:=by
 let⟨a,c,b,e,f,g,h⟩:=x;exact⟨a,c,b,e,m _ _ f,g.mono m _ _,h.mono m _ _⟩
def Ye(H:Hp)(a:jJ)(b:jf):Prop:=b.length=a.length/\∀ i u,b[i]? = some u->Yu H (a.getD i .d) u
def Ye.mono{H a:Hp}{b:jJ}{c:jf}(x:Ye H b c)(m:Z4 H a):Ye a b c:=⟨x.1,λi u e=>(x.2 i u e).mono m⟩
def YV.fit(L:YV):Prop:=L.lo.fits 3=true/\L.hi.fits 3=true
def Qc(a b:YV):Bool:=(a.h==b.h)&&a.hi.lt b.lo
def LZ(a:jJ):Bool:=(yU (a.length-1)).all λj=>Qc (a.getD j .d) (a.getD (j+1) .d)
def over(a:jJ):Option YV:=if 2<=a.length/\a.length<=4/\LZ a=true then some ⟨(a.getD 0 .d).h+1,(a.getD 0 .d).lo,(a.getD (a.length-1) .d).hi,(a.map YV.m).sum⟩ else none
def BF{a:jJ}(b:2<=a.length)(c:a.length<=4)(h:∀ j,j<a.length-1->Qc (a.getD j .d) (a.getD (j+1) .d)=true):over a=some ⟨(a.getD 0 .d).h+1,(a.getD 0 .d).lo,(a.getD (a.length-1) .d).hi,(a.map YV.m).sum⟩:=
 aO ⟨b,c,yZ.mpr λj e=>h j (xV.mp e)⟩
inductive V9(d:jf)(H:Hp)(Q:VK)(_:XK):Prop
 |mk(v u:V)(a b:YV)(_:d=[v,u])(_:Yu H a v)(_:Yu H b u)(_:a.fit)(_:b.fit)(_:∀ c,ZD H c->Q (.bl (Qc a b)) c)
def ZPf:ZC zE8 zE8 (Za Kc):=Zm
def ZNu(F:Zg K "stand_side_by_side" "stand_side_by_side" Kc f fd)(T:YE mg)(r:ZA P w K mg ki 7 "ahead" zEx Yk):ZI P w K mg ki ZQ 8 f fd zE8 V9:=by
 refine F.ko ZPf λB A l s H X Q E J h=>?_;let⟨v,u,a,b,rfl,G,I,C,D,k⟩:=h;let⟨U,o⟩:=T.height;let⟨V,N⟩:=T.least;let⟨W,O⟩:=T.greatest;let⟨p,x,c,rfl,m,L,i⟩:=G;let⟨q,d,y,rfl,n,j,M⟩:=I;intro S;refine⟨_,ZS (Zd (Pc (Vl Vb (Zt K (pv 0) (VD (v:=.int 0) rfl o ⟨_,rfl⟩)) (Zt K (pv 1) (VD (v:=.int 0) rfl o ⟨_,rfl⟩)) (YK _))
  (Oc (Zc r J (Zl (Zt K (pv 0) (VD (v:=.int 2) rfl O ⟨_,rfl⟩)) (Zt K (pv 1) (VD (v:=.int 1) rfl N ⟨_,rfl⟩))))))),?_⟩
 refine⟨_,Z,.inr (.inl ⟨p,_,_,.int a.h,rfl,rfl,Zj.of m,rfl,?_⟩)⟩;refine⟨_,Z,.inr (.inl ⟨q,_,_,.int b.h,rfl,rfl,Zj.of n,rfl,rfl,_,rfl,?_⟩)⟩;by_cases g:a.h=b.h
 ·rw[aK (by rw[g])]
  refine Zs ?_;refine⟨_,Z,.inr (.inl ⟨p,_,_,c,rfl,rfl,Zj.of m,rfl,?_⟩)⟩;refine⟨_,Z,.inr (.inl ⟨q,_,_,d,rfl,rfl,Zj.of n,rfl,c,d,a.hi,b.lo,rfl,i,j,C.2,D.1,λt R=>?_⟩)⟩;let e:a.hi.lt b.lo=Qc a b:=by unfold Qc;rw[g,beq_self_eq_true,uU]
  rw[e];exact k t R
 ·rw[aJ (λz=>g (NN z))];refine Zf ?_;let e:false=Qc a b:=by unfold Qc;rw[beq_eq_false_iff_ne.mpr g,vN]
  rw[e];exact k H (ZD.refl H)
def Hy{n:Int}(h:n.natAbs<10 ^ 60)(r:Nat):(KT.int n).fits r=true:=by rw[KT.fits];exact aK h
def LN{H:Hp}{L:YV}{u:V}(h:ZB H L.kt u):Yu H L u:=by
 unfold YV.kt at h;rw[ZB] at h;let⟨a,r,rfl,e,b⟩:=h;rw[jY] at b;let⟨p,l,rfl,c,b⟩:=b;rw[jY] at b;let⟨j,m,rfl,g,b⟩:=b;rw[jY] at b;let⟨k,n,rfl,i,b⟩:=b;rw[jY] at b;let⟨q,o,rfl,d,b⟩:=b;rw[jY] at b;subst b;rw[ZB] at c d;subst c d;exact⟨a,j,k,Z,e,g,i⟩
def ZQn:YV.d.fit:=⟨Hy (n:=0) (by decide) 3,Hy (n:=0) (by decide) 3⟩
def GA(H:Hp)(b:jp)(c:jf):Prop:=c.length=b.length/\∀ i u,c[i]? = some u->∃ a d e,u=.ref a/\H a=some (.tup [d,e])/\ZB H (b.getD i (.int 0)) d
def LC(a:jp):KT:=.tup [.int 0,a.getD 0 (.int 0),a.getD (a.length-1) (.int 0),.int a.length]
def Ab{a:jf}{u:V}(h:a[a.length-1]? = some u):Y3 a (-1)=some u:=by
 let b:a≠[]:=λz=>by rw[z] at h;simp at h
 let e:a=a.dropLast++[u]:=by
  let c:a.getLast b=u:=by
   rw[qL];exact(zC.mp h).2
  rw[<-c,pY]
 rw[e];exact FW _ _
inductive Xd(d:jf)(H:Hp)(Q:VK)(_:XK):Prop
 |mk(l:aj)(b:jf)(c:jp)(_:d=[.ref l])(_:H l=some (.lst b))(_:GA H c b)(_:0<b.length)(_:∀(a:Hp)(v:V),ZD H a->ZB a (LC c) v->Q v a)
def ZJG:ZC zE5 zE5 (Za JZ):=Zm
def ZHx(F:Zg K "label_of_rows" "label_of_rows" JZ f fd)(T:YE mg):ZI P w K mg ki ZQ 1 f fd zE5 Xd:=by
 refine F.ko ZJG λq A i s H L Q E I h=>?_;let⟨l,c,J,rfl,e,d,u,k⟩:=h;intro C;refine⟨_,ZS (Zd (Xl (Qb ZJ (Zt K (Zt K (pv 0) ZJ) ZJ)
  (Zt K (Zt K (pv 0) (Q1 Qo ZJ)) ZJ) (Zw XE rfl T.len Y6 (ZZ (pv 0)))))),?_⟩
 let m:c[0]? = some c[0]:=zV u;let n:c[c.length-1]? = some (c[c.length-1]'∅):=zV ∅
 let⟨a,o,D,r,z,x⟩:=d.2 0 _ m;let⟨b,bk,G,t,B,y⟩:=d.2 _ _ n;rw[r] at m;rw[t] at n;refine⟨_,Z,.inl ⟨l,c,_,.ref a,Z,Z,ZH.of e,YO (j:=0) m,.inr (.inl ⟨a,_,_,o,rfl,rfl,Zj.of z,rfl,?_⟩)⟩⟩;refine⟨_,Z,1,Z,.inl ⟨l,c,_,.ref b,Z,Z,ZH.of e,Ab n,.inr (.inl ⟨b,_,_,bk,rfl,rfl,Zj.of B,rfl,?_⟩)⟩⟩;exists _,Z,l,c,Z,.inl (ZH.of e),YF;intro p v;let g:=ZW v (.tup [.int 0,o,bk,.int c.length]);refine k _ _ g ?_;unfold LC;rw[<-d.1];exact .tup ZP (.cons (.int _) (.cons (x.sm g) (.cons (y.sm g) (.cons (.int _) .nil))))
abbrev Zv:=KT×KT
abbrev jv:=List Zv
def V5(r:Zv):KT:=.tup [r.1,r.2]
def Z7(a:jv):jp:=a.map V5
def Zv.fit(r:Zv):Prop:=r.1.fits 3=true/\r.2.fits 3=true
structure ZM where
 h:Nat
 rows:jv
 bs:jq
abbrev jr:=List ZM
def ZM.d:ZM:=⟨0,[],[]⟩
def gd(a:jr)(i:Nat):ZM:=a.getD i .d
def Yl{a:jr}{i:Nat}(h:i<a.length):a[i]? = some (gd a i):=by
 unfold gd;rw[zU,zV h];rfl
structure Xw(gt:jp)(ts:jr)(i:Nat)(t:ZM):Prop where
 ne:t.rows≠[]
 up:(t.rows.map (·.1)).Pairwise λa b=>a.lt b=true
 inn:∀ r∈t.rows,r.fit
 leaf:t.h=0->t.bs=[]/\t.rows.length<=4
 stem:t.h≠0->2<=t.bs.length/\t.bs.length<=4/\(∀ b∈t.bs,b<i/\(gd ts b).h+1=t.h)/\t.rows=t.bs.flatMap λb=>(gd ts b).rows
def WF(b:jp)(a:jr):Prop:=∀ i t,a[i]? = some t->Xw b a i t
def kindOf(t:ZM):Str:=if t.h=0 then "leaf" else "stem"
def UR{H c:Hp}{a:aj}{o:HO}(s:ZD H c)(n:H a=none):ZD H (upd c a o):=λb u e=>by rw[ZU (ZY e n)];exact s b u e
abbrev iN(l:jq):jf:=l.map λb=>V.int (b:Nat)
def GN(a b:jv):Z7 (a++b)=Z7 a++Z7 b:=zH
def FC{a:jf}{j:Nat}{v:V}(b:1<=j)(c:j<=a.length)(h:a[a.length-j]? = some v):Y3 a (-(j:Int))=some v:=by
 unfold Y3;let e:QD a.length (-(j:Int))=some (a.length-j):=by
  unfold QD;rw[aM ∅,aO ∅]
  congr 1
  lia
 rw[e];exact h
def rd:Zv:=(.int 0,.int 0)
def YA(t:ZM):YV:=⟨t.h,(t.rows.getD 0 rd).1,(t.rows.getD (t.rows.length-1) rd).1,t.rows.length⟩
def row_at{H:Hp}{c:jv}{k:jf}{i:Nat}{u:V}(h:jY H (Z7 c) k)(e:k[i]? = some u):∃ a l m,c[i]? = some (c.getD i rd)/\u=.ref a/\H a=some (.tup [l,m])/\ZB H (c.getD i rd).1 l/\ZB H (c.getD i rd).2 m:=by
 let⟨t,d,g⟩:=h.get e;unfold Z7 at d;rw[zE] at d;let⟨r,j,rfl⟩:=xP.mp d;let n:c.getD i rd=r:=by rw[zU,j];rfl
 unfold V5 at g;rw[ZB] at g;let⟨a,z,rfl,o,b⟩:=g;rw[jY] at b;let⟨s,x,rfl,p,b⟩:=b;rw[jY] at b;let⟨v,y,rfl,q,b⟩:=b;rw[jY] at b;subst b;rw[n];exact⟨a,s,v,j,Z,o,p,q⟩
def Ye.snoc{H:Hp}{d:jJ}{a:jf}{L:YV}{u:V}(h:Ye H d a)(j:Yu H L u):Ye H (d++[L]) (a++[u]):=by
 exists by rw[zT,zT,h.1];rfl
 intro i w e;rcases yP i a.length with b | b
 ·rw[xN b] at e;have:=h.2 i w e;rw[zU] at this⊢;rw[xN (by rw[<-h.1];exact b)]
  exact this
 ·rw[yE b] at e;let c:i-a.length=0:=by
   rcases Nat.eq_zero_or_pos (i-a.length) with z | z
   ·exact z
   ·rw[qP (by simp;lia)] at e;cases e
  rw[c] at e;simp at e;subst e;let g:i=d.length:=by have:=h.1;lia
  rw[zU,g];simp;exact j
def inT(a:jr)(x:Int):Bool:=decide (0<=x/\x<(a.length:Int))
def Ku(a:jJ):Prop:=∀ j,j+1<a.length->(a.getD (j+1) .d).h=(a.getD 0 .d).h/\(a.getD j .d).hi.lt (a.getD (j+1) .d).lo=true
def QH{c:jJ}:Ku c ↔ LZ c=true:=by
 unfold Ku LZ Qc;rw[yZ];constructor
 ·intro h j e;let i:j<c.length-1:=xV.mp e;let⟨a,b⟩:=h j ∅
  rw[zO];refine⟨?_,b⟩;rw[beq_iff_eq,a]
  cases j with
  | zero=>rfl
  | succ j=>exact(h j ∅).1
 ·intro h;let g:∀ j,j<c.length->(c.getD j .d).h=(c.getD 0 .d).h:=λj=>by
   induction j with
   | zero=>intro _;rfl
   | succ j k=>
    intro e;have:=h j (xV.mpr ∅)
    rw[zO,beq_iff_eq] at this;rw[<-this.1];exact k ∅
  intro j e;have:=h j (xV.mpr ∅)
  rw[zO] at this;exact⟨g (j+1) e,this.2⟩
def GX{a:jp}{e:jr}{i:Nat}{t:ZM}(h:Xw a e i t):(YA t).fit:=by
 let b:0<t.rows.length:=uJ.mpr h.ne;let c:t.rows.getD 0 rd∈t.rows:=by rw[zU,zV b];exact xY _
 let d:t.rows.getD (t.rows.length-1) rd∈t.rows:=by rw[zU,zV (show t.rows.length-1<t.rows.length by lia)];exact xY _
 exact⟨(h.inn _ c).1,(h.inn _ d).1⟩
def XA(c:jr)(a:jq):jJ:=a.map λb=>YA (gd c b)
structure ZG(P:al)(w:ax)(K:zZ)(mg:jc)(ki:aE)(CX:VZ)(k:Nat)(C:aj)(m:Str)(ps:jt)(sp:Sp):Prop where
 ex:∃ f fd,U0 K C m f/\ZI P w K mg ki CX k f fd ps sp/\Zo K fd ps []
def XX{X:Cx}{i:VZ}{k:Nat}{C:aj}{m:Str}{v:jt}{j:Sp}{E:XK}{o e:Expr}{d:jC}{l:TE}{t:TA}{pos a:Pos}{u:Sem Bool}(p:PE X o l)(c:V1 X.K C)(D:ZG X.prog X.w X.K X.mg X.base i k C m v j)(q:ZT k X.A)(s:QE i X E)(n:PA X (e::d) t)(h:ar (e::d) X.env=(false,aH e X.env)::ar d X.env:=by rfl)(g:(aG pos (ar d X.env)).any (·.1)=false:=by rfl)(r:aH (.Call (.Attribute o m a) (e::d) [] pos) X.env=(do
   let ov<-aH o X.env
   standAt a.atName
   let (f,first)<-holding [ov] (getMethod ov m u)
   callWith pos f first (aG pos (ar (e::d) X.env)) (backToKw pos (keywordEach [] X.env))):=by rfl):
  PE X (.Call (.Attribute o m a) (e::d) [] pos) (MP C m j [] E l t):=by
 let⟨f,fd,M,F,b⟩:=D.ex;exact Cr p c M F q b .nil s n h g r
def Ot{X:Cx}{d:VZ}{k:Nat}{C:aj}{m:Str}{p:jt}{e:Sp}{E:XK}{o:Expr}{g:TE}{pos a:Pos}{n:Sem Bool}(h:PE X o g)(c:V1 X.K C)(D:ZG X.prog X.w X.K X.mg X.base d k C m p e)(i:ZT k X.A)(l:QE d X E)(j:aH (.Call (.Attribute o m a) [] [] pos) X.env=(do
   let ov<-aH o X.env
   standAt a.atName
   let (f,first)<-holding [ov] (getMethod ov m n)
   callWith pos f first (aG pos (ar [] X.env)) (backToKw pos (keywordEach [] X.env))):=by rfl):
  PE X (.Call (.Attribute o m a) [] [] pos) (MP C m e [] E g VG):=by
 let⟨f,fd,M,F,b⟩:=D.ex;exact ZKz h c M F i b .nil l j
abbrev IO:Stmt:=Wt (Zn 30) 0
abbrev Jj:Stmt:=Wt (Zn 56) 0
abbrev Iq:Stmt:=Wt (Zn 56) 1
abbrev Ka:Stmt:=Wt (Zn 56) 3
abbrev Ij:Stmt:=Wt (Zn 56) 7
abbrev IA:Stmt:=Wt (Zn 56) 8
abbrev JM:Stmt:=Wt (Zn 56) 12
abbrev JT:Stmt:=Wt (Zn 56) 13
abbrev KH:Stmt:=Wt (Zn 56) 18
structure Yw(K:zZ)(mg:jc)(jh ji:aj):Prop where
 shelf:mg "Shelf" = some (.ref jh)
 twig:mg "Twig" = some (.ref ji)
 cS:V1 K jh
 cT:V1 K ji
 nk:Z5 K jh "kept"
 nf:Z5 K jh "following"
 nl:Z5 K jh "looks"
 nth:Z5 K ji "things"
 ntg:Z5 K ji "tag"
 nab:Z5 K ji "above"
 nho:Z5 K ji "holds"
abbrev Pd(d a:aj)(n:Nat):List (Str×V):=[("kept",.ref d),("following",.int n),("looks",.ref a)]
abbrev Pw(d c:V)(a:aj)(b:Nat):List (Str×V):=[("things",d),("tag",c),("above",.ref a),("holds",.int b)]
structure XU(jh:aj)(H:Hp)(S d lk:aj)(n:Nat)(kvs:List (Zh×V))(ls:jf):Prop where
 self:∃ dx,H S=some (.ins jh dx (Pd d lk n))
 kept:H d=some (.dK kvs)
 looks:H lk=some (.lst ls)
structure Wc(ji:aj)(H:Hp)(x:aj)(th tg:V)(ab:aj)(ho:Nat)(us:jf):Prop where
 self:∃ dx,H x=some (.ins ji dx (Pw th tg ab ho))
 above:H ab=some (.lst us)
def XU.same{jh:aj}{H b:Hp}{S d c:aj}{n:Nat}{a:List (Zh×V)}{g:jf}(h:XU jh H S d c n a g)(s:ZD H b):XU jh b S d c n a g:=by
 let⟨⟨i,e⟩,j,k⟩:=h;exact⟨⟨i,s _ _ e⟩,s _ _ j,s _ _ k⟩
def Wc.same{ji:aj}{H a:Hp}{x:aj}{g d:V}{b:aj}{c:Nat}{i:jf}(h:Wc ji H x g d b c i)(s:ZD H a):Wc ji a x g d b c i:=by
 let⟨⟨j,e⟩,k⟩:=h;exact⟨⟨j,s _ _ e⟩,s _ _ k⟩
inductive Qk(ji:aj)(h:jf)(H:Hp)(Q:VK)(_:XK):Prop
 |mk(x g:aj)(e d:V)(_:h=[.ref x,e,d])(_:H x=some (.ins ji g []))(_:∀(a:Hp)(c:aj),(∀ b o,b≠x->H b=some o->a b=some o)->H c=none->Wc ji a x e d c 1 []->Q .non a)
def ZQP:ZC zE4 zE4 (Za IO):=Zm
def ZO7(F:Zg K "__init__" "Twig.__init__" IO f fd)(L:Yw K mg jh ji):ZI P w K mg ki ZQ 1 f fd zE4 (Qk ji):=by
 refine F.ko ZQP λl A j s H u Q E q h=>?_;let⟨x,d,t,r,rfl,m,k⟩:=h;intro p;exists _,ZN (PR (pv 0) (pv 1) Z) (ZN (PR (pv 0) (pv 2) rfl) (ZN (PR (pv 0) (Yb Zk) rfl) (ZS (PR (pv 0) ZJ rfl))));exists _,Z,_,Z,x,ji,d,_,Z,m,L.cT,L.nth,yI Z;exists _,Z,_,Z,x,ji,d,_,Z,ZP,L.cT,L.ntg,yI Z;exists YF;intro i a;rw[MT] at a⊢;let c:x≠i:=λz=>by rw[<-z,ZP] at a;cases a
 let g:H i=none:=by rw[ZU (Ne.symm c)] at a;exact a
 exists _,Z,x,ji,d,_,Z,(by rw[ZU c];exact ZP),L.cT,L.nab,yI Z
 exists _,Z,x,ji,d,_,Z,ZP,L.cT,L.nho,yI Z;refine k _ i (λb o n e=>?_) g ⟨⟨d,ZP⟩,?_⟩
 ·rw[MT,ZU n,ZU (ZY e g),ZU n];exact e
 ·rw[MT,ZU (Ne.symm c)];exact ZP
inductive QW(jh:aj)(g:jf)(H:Hp)(Q:VK)(_:XK):Prop
 |mk(x e:aj)(_:g=[.ref x])(_:H x=some (.ins jh e []))(_:∀(a:Hp)(d c:aj),(∀ b o,b≠x->H b=some o->a b=some o)->H d=none->H c=none->d≠c->XU jh a x d c 0 [] []->Q .non a)
def CO:ZC zEm zEm (Za Jj):=Zm
def B0(F:Zg K "__init__" "Shelf.__init__" Jj f fd)(L:Yw K mg jh ji):ZI P w K mg ki ZQ 1 f fd zEm (QW jh):=by
 refine F.ko CO λu A p s H B Q E y h=>?_;let⟨x,j,rfl,t,k⟩:=h;intro v;exists _,ZN (PR (pv 0) Fv Z) (ZN (PR (pv 0) ZJ rfl) (ZS (PR (pv 0) (Yb Zk) rfl)));intro d m;let q:x≠d:=ZY t m;exists _,Z,x,jh,j,_,Z,(by rw[ZU q];exact t),L.cS,L.nk,yI Z
 exists _,Z,x,jh,j,_,Z,ZP,L.cS,L.nf,yI Z;exists YF;intro g c;rw[MT] at c⊢;let r:x≠g:=λz=>by rw[<-z,ZP] at c;cases c
 let a:upd H d (.dK []) g=none:=by rw[ZU (Ne.symm r)] at c;exact c
 let l:d≠g:=λz=>by rw[<-z,ZP] at a;cases a
 let i:H g=none:=by rw[ZU (Ne.symm l)] at a;exact a
 exists _,Z,x,jh,j,_,Z,(by rw[ZU r];exact ZP),L.cS,L.nl,yI Z
 refine k _ d g (λb o n e=>?_) m i l ⟨⟨j,ZP⟩,?_,?_⟩
 ·rw[ZU n,ZU (ZY e i),ZU n,ZU (ZY e m)];exact e
 ·rw[ZU (Ne.symm q),ZU l,ZU (Ne.symm q)];exact ZP
 ·rw[ZU (Ne.symm r)];exact ZP
inductive YB(jh:aj)(g:jf)(H:Hp)(Q:VK)(_:XK):Prop
 |mk(S d c:aj)(n:Nat)(a:List (Zh×V))(e:jf)(i:Int)(b:V)(_:g=[.ref S,.int i])(_:XU jh H S d c n a e)(_:Y9 a (.inl i)=some b)(_:Q b H)
def ZKs:ZC zEa zEa (Za KH):=Zm
def ZJh(F:Zg K "twig_of" "Shelf.twig_of" KH f fd)(L:Yw K mg jh ji):ZI P w K mg ki ZQ 1 f fd zEa (YB jh):=by
 refine F.ko ZKs λl A a s H x Q E o h=>?_;let⟨S,d,u,n,q,v,i,b,rfl,⟨⟨c,e⟩,m,t⟩,p,k⟩:=h;let j:=MY o;intro r;exists _,ZN (Zz (Xb (Eg j (pv 1) (Vx (pv 0) rfl))) OM Z1) (ZS (Zd (AA j (Vx (pv 0) rfl) (pv 1))));let g:WM H d (.int i) (some b):=p ▸ WM.k (k:=Sum.inl i) m;refine⟨_,Z,_,Z,S,jh,c,_,.ref d,Z,e,L.cS,L.nk,Z,d,some b,Z,g,_,Z,Zf ?_⟩;exact⟨_,Z,S,jh,c,_,.ref d,Z,e,L.cS,L.nk,Z,_,Z,d,b,Z,g,k⟩
structure Us(P:al)(w:ax)(K:zZ)(mg:jc)(ki:aE)(k:Nat)(C:aj)(ps:jt)(sp:Sp):Prop where
 ex:∃ f fd,Mk K C f/\ZI P w K mg ki ZQ k f fd ps sp/\Zo K fd ps []
structure Q4(jh ji:aj)(H:Hp)(S d lk:aj)(n:Nat)(kvs:List (Zh×V))(ls:jf)(i:Int)(x:aj)(th tg:V)(ab:aj)(ho:Nat)(us:jf):Prop where
 sh:XU jh H S d lk n kvs ls
 val:Y9 kvs (.inl i)=some (.ref x)
 tw:Wc ji H x th tg ab ho us
inductive Xn(jh ji:aj)(res:V->Nat->jf->V)(l:jf)(H:Hp)(Q:VK)(_:XK):Prop
 |mk(S d h:aj)(n:Nat)(a:List (Zh×V))(j:jf)(i:Int)(x:aj)(k c:V)(g:aj)(b:Nat)(e:jf)(_:l=[.ref S,.int i])(_:Q4 jh ji H S d h n a j i x k c g b e)(_:Q (res c b e) H)
def ZIs:ZC zEa zEa (Za IA):=Zm
def Bj(F:Zg K "outside" "Shelf.outside" IA f fd)(L:Yw K mg jh ji)(e:ZG P w K mg ki ZQ 1 jh "twig_of" zEa (YB jh)):ZI P w K mg ki ZQ 2 f fd zEa (Xn jh ji λ_ a _=>.int a):=by
 refine F.ko ZIs λg A c s H B Q E o h=>?_;let⟨S,d,q,n,b,r,i,x,y,v,u,a,z,rfl,R,k⟩:=h;intro t;exists _,ZS (Zd (Vx (XX (E:=E0) (pv 0) L.cS e o Yn (ZZ (pv 1))) rfl));let⟨l,m⟩:=R.sh.self;let⟨j,p⟩:=R.tw.self;exact⟨_,Z,S,l,_,Z,m,Z,_,Z,S,d,q,n,b,r,i,.ref x,Z,R.sh,R.val,x,ji,j,_,.int a,Z,p,L.cT,L.nho,Z,k⟩
def BN:ZC zEa zEa (Za JT):=Zm
def B5(F:Zg K "label" "Shelf.label" JT f fd)(L:Yw K mg jh ji)(e:ZG P w K mg ki ZQ 1 jh "twig_of" zEa (YB jh)):ZI P w K mg ki ZQ 2 f fd zEa (Xn jh ji λc _ _=>c):=by
 refine F.ko BN λg A b s H B Q E o h=>?_;let⟨S,d,q,n,a,r,i,x,y,c,u,v,z,rfl,R,k⟩:=h;intro t;exists _,ZS (Zd (Vx (XX (E:=E0) (pv 0) L.cS e o Yn (ZZ (pv 1))) rfl));let⟨l,m⟩:=R.sh.self;let⟨j,p⟩:=R.tw.self;exact⟨_,Z,S,l,_,Z,m,Z,_,Z,S,d,q,n,a,r,i,.ref x,Z,R.sh,R.val,x,ji,j,_,c,Z,p,L.cT,L.ntg,Z,k⟩
def Wp:ZC ["self","number","twig"] zEa (Za Ij):=Zm
def ZH7(F:Zg K "holders" "Shelf.holders" Ij f fd)(T:YE mg)(L:Yw K mg jh ji)(m:ZG P w K mg ki ZQ 1 jh "twig_of" zEa (YB jh)):ZI P w K mg ki ZQ 2 f fd zEa (Xn jh ji λ_ a e=>.int ((e.length:Nat)+(a:Nat):Int)):=by
 refine F.ko Wp λo A c s H C Q E r h=>?_;let⟨S,d,t,n,b,u,i,x,B,z,g,a,e,rfl,R,k⟩:=h;let v:=Wp.nd;intro y;exists _,ZN (Zi 2 v (XX (E:=E0) (pv 0) L.cS m r Yn (ZZ (pv 1)))) (ZS (Zd (Zu Wf (Zw XE rfl T.len Y6 (ZZ (Vx (pv 2) rfl))) (Vx (pv 2) rfl))));let⟨p,q⟩:=R.sh.self;let⟨j,l⟩:=R.tw.self;exists _,Z,S,p,_,Z,q,Z,_,Z,S,d,t,n,b,u,i,.ref x,Z,R.sh,R.val;exact⟨_,Z,x,ji,j,_,.ref g,Z,l,L.cT,L.nab,Z,g,e,Z,.inl (ZH.of R.tw.above),_,Z,x,ji,j,_,.int a,Z,l,L.cT,L.nho,Z,_,_,Z,Z,k⟩
inductive V8(ji:aj)(g:jf)(H:Hp)(Q:VK)(_:XK):Prop
 |mk(x:aj)(d:V)(a b:aj)(c:Nat)(e:jf)(h:Int)(i:jf)(_:g=[.ref x])(_:Wc ji H x d (.ref a) b c e)(_:H a=some (.tup (.int h::i)))(_:Q (.bl (decide (h > 0))) H)
def ZOt:ZC ["twig"] ["twig"] (Za KI):=Zm
def ZNq(F:Zg K "is_stem" "is_stem" KI f fd)(T:YE mg)(L:Yw K mg jh ji):ZI P w K mg ki ZQ 1 f fd ["twig"] (V8 ji):=by
 refine F.ko ZOt λc A a s H u Q E p h=>?_;let⟨x,r,b,n,o,t,e,y,rfl,W,g,k⟩:=h;let⟨q,l⟩:=T.height;let⟨d,i⟩:=W.self;intro m;exists _,ZS (Zd (Vl Pm (Zt K (Vx (pv 0) rfl) (VD (v:=.int 0) rfl l ⟨_,rfl⟩)) ZJ (YK _)));exact⟨_,Z,x,ji,d,_,.ref b,Z,i,L.cT,L.ntg,Z,.inr (.inl ⟨b,_,_,.int e,rfl,rfl,Zj.of g,YO (j:=0) rfl,_,_,rfl,rfl,k⟩)⟩
def K3{n:Nat}(h:n<=400000):n<sizeLine:=xG h (by decide)
inductive UM(jh ji:aj)(s:jf)(H:Hp)(Q:VK)(_:XK):Prop
 |mk(S d c:aj)(n:Nat)(e:List (Zh×V))(j:jf)(i:Int)(x k m l:aj)(r:Nat)(q p u:jf)(h:Int)(_:s=[.ref S,.int i])(_:Q4 jh ji H S d c n e j i x (.ref k) (.ref m) l r q)(_:H k=some (.lst p))(_:H m=some (.tup (.int h::u)))(_:c≠k)(_:c≠l)(_:j.length<=390000)(_:∀(a:Hp)(g t:aj),(∀ b o,b≠c->H b=some o->a b=some o)->a c=some (.lst (j++[.int i]))->H g=none->a g=some (.lst p)->a t=some (.tup [.str (if h > 0 then "stem" else "leaf"),.ref g])->Q (.ref t) a)
def Qh:ZC ["self","number","twig"] zEa (Za JM):=Zm
def ZNs(F:Zg K "look" "Shelf.look" JM f fd)(T:YE mg)(L:Yw K mg jh ji)(DT:ZG P w K mg ki ZQ 1 jh "twig_of" zEa (YB jh))(DS:ZA P w K mg ki 1 "is_stem" ["twig"] (V8 ji)):ZI P w K mg ki ZQ 2 f fd zEa (UM jh ji):=by
 refine F.ko Qh λa4 A a1 s H vs Q E hr h=>?_;let⟨S,d,j,n,W,p,i,x,J,tg,ab,ho,as,M,xs,U,rfl,R,V,C,Y,X,a3,k⟩:=h;let nd:=Qh.nd;intro Xc;refine⟨_,ZN (Zi 2 nd (XX (E:=E0) (pv 0) L.cS DT hr Yn (ZZ (pv 1))))
  (ZN (Wr (Qj xO wN wM Qy (Vx (pv 0) rfl) (ZZ (pv 1))))
  (ZN (Zz (Y7 (Zc DS hr (ZZ (pv 2)))) (ZS (Zd (Xl (Zl VP (Wn Pz rfl T.list QG (ZZ (Vx (pv 2) rfl))))))) Z1)
  (ZS (Zd (Xl (Zl VP (Wn Pz rfl T.list QG (ZZ (Vx (pv 2) rfl))))))))),?_⟩
 let⟨dx,hS⟩:=R.sh.self;let⟨O,hx⟩:=R.tw.self;exists _,Z,S,dx,_,Z,hS,Z,_,Z,S,d,j,n,W,p,i,.ref x,Z,R.sh,R.val;let l:=R.sh.looks;exists _,Z,S,jh,dx,_,.ref j,Z,hS,L.cS,L.nl,Z,.inl ⟨Z,_,ZH.of l⟩,_,Z,j,p,.int i,Z,Z,l,K3 ∅
 let G:∀ b o,b≠j->H b=some o->upd H j (.lst (p++[.int i])) b=some o:=λb o n e=>by rw[ZU n];exact e
 let a2:x≠j:=Zb hx l;let I:tg≠j:=Zb C l;let q:=G _ _ a2 hx;let D:=G _ _ I C;let u:=G _ _ (Ne.symm X) R.tw.above;let m:=G _ _ (Ne.symm Y) V;let v:upd H j (.lst (p++[.int i])) j=some (.lst (p++[.int i])):=ZP;let r:∀(w:Str)(c t:aj),upd H j (.lst (p++[.int i])) c=none->upd (upd H j (.lst (p++[.int i]))) c (.lst M) t=none->w=(if U > 0 then ("stem" : Str) else "leaf")->Q (.ref t) (upd (upd (upd H j (.lst (p++[.int i]))) c (.lst M)) t (.tup [.str w,.ref c])):=λw c t a B ew=>by
  let g1:=ZW a (.lst M);let g2:=ZW B (.tup [.str w,.ref c]);let g:=g1.trans g2;let a0:H c=none:=by
   cases z:H c with
   | none=>rfl
   | some o=>
    have:c≠j:=λy=>by rw[y,ZP] at a;cases a
    rw[ZU this,z] at a;cases a
  refine k _ c t (λb o n e=>g _ _ (G b o n e)) (g _ _ v) a0 (g2 _ _ ZP) ?_;rw[ZP,ew]
 exists _,Z,x,.ref J,tg,ab,ho,as,U,xs,Z,⟨⟨O,q⟩,u⟩,D,_,Z;by_cases N:U > 0
 ·rw[aK N];refine Zs ⟨_,Z,x,ji,O,_,.ref J,Z,q,L.cT,L.nth,Z,J,M,Z,.inl (ZH.of m),λc a=>⟨YF,λt B=>?_⟩⟩;exact r _ c t a B (by rw[aO N])
 ·rw[aJ N];refine Zf ⟨_,Z,x,ji,O,_,.ref J,Z,q,L.cT,L.nth,Z,J,M,Z,.inl (ZH.of m),λc a=>⟨YF,λt B=>?_⟩⟩;exact r _ c t a B (by rw[aM N])
structure XN(P:al)(w:ax)(K:zZ)(mg:jc)(ki:aE)(nm:Str)(C:aj)(fl:Str):Prop where
 ex:∃ fI fd,US K C fI fl/\ZI P w K mg ki ZQ 1 fI fd ["self",fl] (LO K C fI fl)/\Zo K fd ["self",fl] []
 at_:mg nm=some (.ref C)
 ty:wZ K (.ref C)=some (.type "type")
def ZKH{X:Cx}{E:XK}{g j:Str}{C:aj}{e:Expr}{d:jC}{t:TA}{p a pos:Pos}(F:U5 X E)(N:XN X.prog X.w X.K X.mg X.base g C j)(n:ZT 2 X.A)(k:PA X (e::d) t)(m:Gl X g)(h:(g==("__debug__" : Str))=false:=by decide)(l:ar (e::d) X.env=(false,aH e X.env)::ar d X.env:=by rfl)(i:(aG a (ar d X.env)).any (·.1)=false:=by rfl):PS X (.Raise (some (.Call (.Name g p) (e::d) [] a)) none pos) (GV C j E t):=by
 let⟨o,fd,c,G,b⟩:=N.ex;exact CW F c N.ty G n m N.at_ b k h l i
structure Z9 where
 x:aj
 th:aj
 tg:aj
 ab:aj
abbrev jy:=List Z9
def Z9.d:Z9:=⟨0,0,0,0⟩
structure Ph(ji:aj)(H:Hp)(ts:jr)(av:Nat->jq)(ho:Nat->Nat)(i:Nat)(a:Z9):Prop where
 tw:Wc ji H a.x (.ref a.th) (.ref a.tg) a.ab (ho i) (iN (av i))
 things:∃ us,H a.th=some (.lst us)/\((gd ts i).h=0->jY H (Z7 (gd ts i).rows) us)/\((gd ts i).h≠0->us=iN (gd ts i).bs)
 tag:Yu H (YA (gd ts i)) (.ref a.tg)
def Ph.same{ji:aj}{H b:Hp}{e:jr}{c:Nat->jq}{d:Nat->Nat}{i:Nat}{a:Z9}(h:Ph ji H e c d i a)(s:ZD H b):Ph ji b e c d i a:=by
 let⟨l,g,j,k⟩:=h.things;exact⟨h.tw.same s,⟨l,s _ _ g,λz=>(j z).sm s,k⟩,h.tag.mono (ZD.tups s)⟩
structure Yc(jh ji:aj)(H:Hp)(S d lk:aj)(ts:jr)(av:Nat->jq)(ho:Nat->Nat)(as:jy)(kvs:List (Zh×V))(ls:jf):Prop where
 sh:XU jh H S d lk ts.length kvs ls
 keys:kvs.map (·.1)=(yU ts.length).map (λi:Nat=>(Sum.inl (i:Int):Zh))
 val:∀ i:Nat,i<ts.length->Y9 kvs (Sum.inl (i:Int))=some (.ref (as.getD i .d).x)
 len:as.length=ts.length
 tw:∀ i:Nat,i<ts.length->Ph ji H ts av ho i (as.getD i .d)
 own:∀ i:Nat,i<ts.length->(as.getD i .d).x≠S/\(as.getD i .d).ab≠lk/\(as.getD i .d).th≠lk/\(as.getD i .d).ab≠(as.getD i .d).th
 two:∀ i j:Nat,i<ts.length->j<ts.length->i≠j->(as.getD i .d).x≠(as.getD j .d).x/\(as.getD i .d).ab≠(as.getD j .d).ab/\(as.getD i .d).ab≠(as.getD j .d).th/\(as.getD i .d).th≠(as.getD j .d).th
def Yc.same{jh ji:aj}{H b:Hp}{S d j:aj}{l:jr}{e:Nat->jq}{g:Nat->Nat}{c:jy}{a:List (Zh×V)}{k:jf}(h:Yc jh ji H S d j l e g c a k)(s:ZD H b):Yc jh ji b S d j l e g c a k:=
 ⟨h.sh.same s,h.keys,h.val,h.len,λi m=>(h.tw i m).same s,h.own,h.two⟩
def Ph.frame{ji:aj}{H b:Hp}{e:jr}{c:Nat->jq}{d:Nat->Nat}{i:Nat}{a:Z9}(h:Ph ji H e c d i a)(m:Z4 H b)(r:∀ o,H a.x=some o->b a.x=some o)(q:∀ o,H a.th=some o->b a.th=some o)(p:∀ o,H a.ab=some o->b a.ab=some o):Ph ji b e c d i a:=by
 let⟨s,j,k,l⟩:=h.things;let⟨g,n⟩:=h.tw.self;exact⟨⟨⟨g,r _ n⟩,p _ h.tw.above⟩,⟨s,q _ j,λz=>(k z).mono m _ _,l⟩,h.tag.mono m⟩
def Yc.none{jh ji:aj}{H:Hp}{S d m:aj}{c:jr}{g:Nat->jq}{l:Nat->Nat}{e:jy}{a:List (Zh×V)}{n:jf}(h:Yc jh ji H S d m c g l e a n){x:Int}(b:inT c x=false):Y9 a (Sum.inl x)=rO:=by
 cases z:Y9 a (Sum.inl x) with
 | none=>rfl
 | some v=>
  have:=ZNx z;rw[h.keys] at this;let⟨i,k,j⟩:=zL.mp this;let o:=Sum.inl.inj j;let p:=xV.mp k;unfold inT at b;have:=of_decide_eq_false b
  lia
def ME(a:Nat->jq)(b c:Nat):Nat->jq:=λi=>if i=b then a i++[c] else a i
def Nu(a:Nat->Nat)(b:Nat):Nat->Nat:=λi=>if i=b then a i-1 else a i
def Yc.touch{jh ji:aj}{H n:Hp}{S d I:aj}{C:jr}{j:Nat->jq}{l:Nat->Nat}{g:jy}{r:List (Zh×V)}{J:jf}(R:Yc jh ji H S d I C j l g r J){b s:Nat}(p:b<C.length)(X:∃ M,n (g.getD b .d).x=some (.ins ji M (Pw (.ref (g.getD b .d).th) (.ref (g.getD b .d).tg) (g.getD b .d).ab (l b-1))))(W:n (g.getD b .d).ab=some (.lst (iN (j b++[s]))))(k:∀ c o,c≠(g.getD b .d).x->c≠(g.getD b .d).ab->H c=some o->n c=some o):Yc jh ji n S d I C (ME j b s) (Nu l b) g r J:=by
 let⟨⟨L,E⟩,B,F⟩:=R.sh;let t:=R.tw b p;let⟨N,a⟩:=t.tw.self;let h:=t.tw.above;let⟨us,D,Q,T⟩:=t.things;let m:Z4 H n:=λc xs e=>k c _ (Zb e a) (Zb e h) e;refine⟨⟨⟨L,k _ _ (R.own b p).1.symm (Zb E h) E⟩,k _ _ (Zb B a) (Zb B h) B,k _ _ (Zb F a) (R.own b p).2.1.symm F⟩,R.keys,R.val,R.len,λi v=>?_,R.own,R.two⟩;by_cases z:i=b
 ·subst z;let y:ME j i s i=j i++[s]:=aO Z;let A:Nu l i i=l i-1:=aO Z;refine⟨⟨?_,?_⟩,⟨us,k _ _ (Zb D a) (R.own i v).2.2.2.symm D,λz=>(Q z).mono m _ _,T⟩,t.tag.mono m⟩
  ·rw[A];exact X
  ·rw[y];exact W
 ·let y:ME j b s i=j i:=aM z;let A:Nu l b i=l i:=aM z;let u:=R.tw i v;let⟨t1,t2,t3,t4⟩:=R.two i b v p z;let⟨s1,s2,Y,s4⟩:=R.two b i p v (Ne.symm z);let⟨O,q⟩:=u.tw.self;let⟨vs,U,_⟩:=u.things;let G:=u.frame m (λo e=>k _ _ t1 (by have:=q.symm.trans e;exact Zb q h) e) (λo e=>k _ _ (Zb U a) Y.symm e) (λo e=>k _ _ (Zb u.tw.above a) t2 e)
  refine⟨?_,G.things,G.tag⟩;rw[y,A];exact G.tw
def Uv(b:jq)(c:Nat)(a:Nat->jq):Nat->jq:=λi=>if i∈b then a i++[c] else a i
def Ut(b:jq)(a:Nat->Nat):Nat->Nat:=λi=>if i∈b then a i-1 else a i
def BV{a:jq}{b c:Nat}{d:Nat->jq}(h:b∉a):ME (Uv a c d) b c=Uv (a++[b]) c d:=by
 funext i
 unfold ME Uv;by_cases z:i=b
 ·subst z;rw[aO rfl,aM h,aO (by simp)]
 ·rw[aM z];by_cases y:i∈a
  ·rw[aO y,aO (by simp[y])]
  ·rw[aM y,aM (by simp[y,z])]
def ZK9{a:jq}{b:Nat}{c:Nat->Nat}(h:b∉a):Nu (Ut a c) b=Ut (a++[b]) c:=by
 funext i
 unfold Nu Ut;by_cases z:i=b
 ·subst z;rw[aO rfl,aM h,aO (by simp)]
 ·rw[aM z];by_cases y:i∈a
  ·rw[aO y,aO (by simp[y])]
  ·rw[aM y,aM (by simp[y,z])]
abbrev Ii:Stmt:=Wt (Zn 56) 21
inductive XL(jh ji:aj)(q:jf)(H:Hp)(Q:VK)(_:XK):Prop
 |mk(S d m l:aj)(h:jr)(j:Nat->jq)(k:Nat->Nat)(a:jy)(g:List (Zh×V))(n:jf)(e:jq)(p:Nat)(_:q=[.ref S,.int p,.ref l])(_:Yc jh ji H S d m h j k a g n)(_:H l=some (.lst (iN e)))(_:e.Nodup)(_:∀ b∈e,b<h.length/\1<=k b/\(j b).length<=900)(_:∀ b:Nat,b<h.length->l≠(a.getD b .d).ab)(_:∀ i:Hp,(∀ c o,(∀ b:Nat,b<h.length->c≠(a.getD b .d).x/\c≠(a.getD b .d).ab)->H c=some o->i c=some o)->(∀ c,i c=none->H c=none)->Yc jh ji i S d m h (Uv e p j) (Ut e k) a g n->Q .non i)
abbrev Cl:jt:=["self","stem","branches","branch","twig"]
def WK:ZC Cl zE6 (Za Ii):=Zm
def ZGA(F:Zg K "take_over" "Shelf.take_over" Ii f fd)(L:Yw K mg jh ji)(DT:ZG P w K mg ki ZQ 1 jh "twig_of" zEa (YB jh)):ZI P w K mg ki ZQ 2 f fd zE6 (XL jh ji):=by
 refine F.ko WK λa2 A a1 s H vs Q E hr h=>?_;let⟨S,d,lk,l,ts,B,j,g,U,ls,p,X,rfl,R,hl,O,hb,a0,k⟩:=h;let nd:=WK.nd;intro Xc;refine⟨_,ZS (U8 PassesOwn.never rfl (WX (pv 2)) (Xx 3 nd)
  (ZN (Zi 4 nd (XX (E:=E0) (pv 0) L.cS DT hr Yn (ZZ (pv 3))))
  (ZN (Al (pv 4) ZJ ZPw)
  (ZS (Wr (Qj xO wN wM Qy (Vx (pv 4) rfl) (ZZ (pv 1)))))))),?_⟩
 refine⟨_,Z,l,Z,⟨_,ZH.of hl⟩,N1 (K:=K) (a:=l) (xs:=iN p) (λi σ m=>∃ x y:jg,σ=[some (.ref S),some (.int X),some (.ref l),x,y]/\(∀ c o,(∀ b:Nat,b<ts.length->c≠(g.getD b .d).x/\c≠(g.getD b .d).ab)->H c=some o->m c=some o)/\(∀ c,m c=none->H c=none)/\Yc jh ji m S d lk ts (Uv (p.take i) X B) (Ut (p.take i) j) g U ls)
  ⟨_,_,Z,λc o _ e=>e,λc e=>e,(by
   let e1:Uv [] X B=B:=funext λi=>aM (by simp)
   let e2:Ut [] j=j:=funext λi=>aM (by simp)
   rw[show p.take 0=[] from rfl,e1,e2];exact R)⟩ ?_ ?_ ?_⟩
 ·rintro i σ m _ ⟨x,y,rfl,T,_,R2⟩;refine ZH.of (T _ _ (λb hb=>⟨?_,a0 b hb⟩) hl);let⟨dx,J⟩:=(R.tw b hb).tw.self;exact Zb hl J
 ·rintro i u σ m D ⟨x,y,rfl,T,k3,R2⟩;unfold iN at D;rw[zE] at D;let⟨b,eb,rfl⟩:=xP.mp D;let⟨t,a3,a4⟩:=hb b (zM eb);let v:b∉p.take i:=λz=>by
   let hs:p=p.take i++b::p.drop (i+1):=by
    let hi:=(zC.mp eb);let⟨hi,e⟩:=hi;rw[<-e,<-vO hi,xQ]
   rw[hs,uN] at O;exact O.2.2 b z b (by simp) Z
  let N:Ut (p.take i) j b=j b:=aM v;let M:Uv (p.take i) X B b=B b:=aM v;let⟨dS,hS⟩:=R2.sh.self;let Wb:=R2.tw b t;let⟨r,J⟩:=Wb.tw.self;let C:=Wb.tw.above;rw[N] at J;rw[M] at C;exists _,Z,S,dS,_,Z,hS,Z,_,Z,S,d,lk,ts.length,U,ls,(b:Int),.ref (g.getD b .d).x,Z,R2.sh,R2.val b t;exists _,Z,(g.getD b .d).x,ji,r,_,.int (j b:Nat),Z,J,L.cT,L.nho,Z,_,_,Z,Z,r,_,J,yI Z;let eh:((j b:Nat):Int)-1=((j b-1:Nat):Int):=∅
  let G:upd m (g.getD b .d).x (.ins ji r (XW "holds" (.int (((j b:Nat):Int)-1)) (Pw (.ref (g.getD b .d).th) (.ref (g.getD b .d).tg) (g.getD b .d).ab (j b)))) (g.getD b .d).x=some (.ins ji r (Pw (.ref (g.getD b .d).th) (.ref (g.getD b .d).tg) (g.getD b .d).ab (j b-1))):=by rw[ZP,eh];rfl
  let Y:(g.getD b .d).ab≠(g.getD b .d).x:=Zb C J;let q:upd m (g.getD b .d).x (.ins ji r (XW "holds" (.int (((j b:Nat):Int)-1)) (Pw (.ref (g.getD b .d).th) (.ref (g.getD b .d).tg) (g.getD b .d).ab (j b)))) (g.getD b .d).ab=some (.lst (iN (B b))):=by rw[ZU Y];exact C
  let I:∀ c o,c≠(g.getD b .d).x->m c=some o->upd m (g.getD b .d).x (.ins ji r (XW "holds" (.int (((j b:Nat):Int)-1)) (Pw (.ref (g.getD b .d).th) (.ref (g.getD b .d).tg) (g.getD b .d).ab (j b)))) c=some o:=λc o n e=>by rw[ZU n];exact e
  let W:∀ c,upd m (g.getD b .d).x (.ins ji r (XW "holds" (.int (((j b:Nat):Int)-1)) (Pw (.ref (g.getD b .d).th) (.ref (g.getD b .d).tg) (g.getD b .d).ab (j b)))) c=none->m c=none:=λc e=>by
   by_cases z:c=(g.getD b .d).x
   ·rw[z,ZP] at e;cases e
   ·rw[ZU z] at e;exact e
  generalize upd m (g.getD b .d).x (.ins ji r (XW "holds" (.int (((j b:Nat):Int)-1)) (Pw (.ref (g.getD b .d).th) (.ref (g.getD b .d).tg) (g.getD b .d).ab (j b))))=H3 at G q I W⊢;exists _,Z,(g.getD b .d).x,ji,r,_,.ref (g.getD b .d).ab,Z,G,L.cT,L.nab,Z,.inl ⟨Z,_,ZH.of q⟩,_,Z,(g.getD b .d).ab,_,.int X,Z,Z,q,Y2 (by rw[show (iN (B b)).length=(B b).length from zX _];lia)
  let et:p.take (i+1)=p.take i++[b]:=by rw[yN,eb];rfl
  exists _,_,Z,λc o hc e=>?_,λc e=>?_
  ·let⟨n1,n2⟩:=hc b t;rw[ZU n2];exact I _ _ n1 (T c o hc e)
  ·by_cases z:c=(g.getD b .d).ab
   ·rw[z,ZP] at e;cases e
   ·rw[ZU z] at e;exact k3 c (W c e)
  ·rw[et,<-BV v,<-ZK9 v];refine R2.touch t ⟨r,?_⟩ ?_ λc o n1 n2 e=>?_
   ·rw[ZU (Ne.symm Y),N];exact G
   ·rw[ZP,M];simp[iN]
   ·rw[ZU n2];exact I _ _ n1 e
 ·rintro σ m ⟨x,y,rfl,T,k3,R2⟩;rw[show (iN p).length=p.length from zX _,yX (zY _)] at R2;exact k m T k3 R2
def ZQf{X:Cx}{k:Nat}{C:aj}{x:Str}{n:jt}{g:Sp}{e:Expr}{a:jC}{t:TA}{p pos:Pos}(D:Us X.prog X.w X.K X.mg X.base k C n g)(m:ZT (k+1) X.A)(j:Gl X x)(l:X.mg x=some (.ref C))(h:PA X (e::a) t)(c:(x==("__debug__" : Str))=false:=by decide)(i:ar (e::a) X.env=(false,aH e X.env)::ar a X.env:=by rfl)(d:(aG pos (ar a X.env)).any (·.1)=false:=by rfl):
  PE X (.Call (.Name x p) (e::a) [] pos) (Lk C g [] E0 t):=by
 let⟨f,fd,M,F,b⟩:=D.ex;exact ZN4 M F m j l b .nil Yn h c i d
def Ba{X:Cx}{k:Nat}{C:aj}{x:Str}{h:jt}{c:Sp}{p pos:Pos}(D:Us X.prog X.w X.K X.mg X.base k C h c)(g:ZT (k+1) X.A)(d:Gl X x)(e:X.mg x=some (.ref C))(a:(x==("__debug__" : Str))=false:=by decide):PE X (.Call (.Name x p) [] [] pos) (Lk C c [] E0 VG):=by
 let⟨f,fd,M,F,b⟩:=D.ex;exact Dr M F g d e b .nil Yn a
def V4(n:Nat)(a:Nat->jq):Nat->jq:=λi=>if i=n then [] else a i
def UI(n:Nat)(a:Nat->Nat):Nat->Nat:=λi=>if i=n then 1 else a i
def NS{a:jr}{t:ZM}{i:Nat}(h:i<a.length):gd (a++[t]) i=gd a i:=by
 unfold gd;rw[zU,xN h,<-zU]
def Jc{a:jr}{t:ZM}:gd (a++[t]) a.length=t:=by
 unfold gd;rw[zU,yE (zY _)];simp
def Lm{b:jy}{a:Z9}{i:Nat}(h:i<b.length):(b++[a]).getD i .d=b.getD i .d:=by
 rw[zU,xN h,<-zU]
def Jp{b:jy}{a:Z9}:(b++[a]).getD b.length .d=a:=by
 rw[zU,yE (zY _)];simp
def Gv{jh ji:aj}{H H':Hp}{S d M:aj}{g:jr}{B:Nat->jq}{L:Nat->Nat}{n:jy}{q:List (Zh×V)}{ls:jf}(R:Yc jh ji H S d M g B L n q ls){t:ZM}{x th tg ab:aj}(O:∀ b o,b≠S->b≠d->H b=some o->H' b=some o)(nx:H x=none)(s:H th=none)(r:H ab=none)(F:ab≠th)(R':XU jh H' S d M (g.length+1) (Xj q (.inl (g.length:Int)) (.ref x)) ls)(W:Wc ji H' x (.ref th) (.ref tg) ab 1 [])(Y:∃ l,H' th=some (.lst l)/\(t.h=0->jY H' (Z7 t.rows) l)/\(t.h≠0->l=iN t.bs))(X:Yu H' (YA t) (.ref tg)):
  Yc jh ji H' S d M (g++[t]) (V4 g.length B) (UI g.length L) (n++[⟨x,th,tg,ab⟩]) (Xj q (.inl (g.length:Int)) (.ref x)) ls:=by
 let⟨⟨dS,Q⟩,T,hl⟩:=R.sh;let m:Z4 H H':=λc xs e=>O c _ (Zb e Q) (Zb e T) e;let U:(g++[t]).length=g.length+1:=by simp
 let nv:Y9 q (Sum.inl (g.length:Int))=none:=R.none (by unfold inT;exact aJ ∅)
 let a:∀ i,i<(g++[t]).length->i<g.length\/i=g.length:=λi k=>by rw[U] at k;lia
 let el:n.length=g.length:=R.len;let A:∀ i,i<g.length->(n++[(⟨x,th,tg,ab⟩:Z9)]).getD i .d=n.getD i .d:=λi k=>Lm ∅
 let D:(n++[(⟨x,th,tg,ab⟩:Z9)]).getD g.length .d=⟨x,th,tg,ab⟩:=by rw[<-el];exact Jp
 let y:∀ i,i<g.length->∃ C l o,H (n.getD i .d).x=some (.ins ji C l)/\H (n.getD i .d).th=some (.lst o)/\H (n.getD i .d).ab=some (.lst (iN (B i))):=λi k=>by
  let⟨C,u⟩:=(R.tw i k).tw.self;let⟨l,p,_⟩:=(R.tw i k).things;exact⟨C,_,l,u,p,(R.tw i k).tw.above⟩
 let nS:x≠S:=(ZY Q nx).symm;let E:ab≠M:=(ZY hl r).symm;let N:th≠M:=(ZY hl s).symm;refine⟨by rw[U];exact R',?_,λi k=>?_,by simp[el],λi k=>?_,λi k=>?_,λi j k hj J=>?_⟩
 ·rw[Cc _ nv,zH,R.keys,U,List.range_succ,zH];rfl
 ·rw[Fo];rcases a i k with c | rfl
  ·rw[aM (λz=>by have:=Sum.inl.inj z;lia),A i c]
   exact R.val i c
  ·rw[aO rfl,D]
 ·rcases a i k with c | rfl
  ·let Wi:=R.tw i c;let⟨C,l,o,u,p,v⟩:=y i c;let ni:i≠g.length:=∅
   let G:=Wi.frame m (λo' e=>O _ _ (R.own i c).1 (Zb u T) e) (λo' e=>O _ _ (Zb p Q) (Zb p T) e) (λo' e=>O _ _ (Zb v Q) (Zb v T) e);rw[A i c];exists ?_,?_
   ·rw[show V4 g.length B i=B i from aM ni,show UI g.length L i=L i from aM ni];exact G.tw
   ·rw[NS c];exact G.things
   ·rw[NS c];exact G.tag
  ·rw[D];exists ?_,?_
   ·rw[show V4 g.length B g.length=[] from aO rfl,show UI g.length L g.length=1 from aO rfl];exact W
   ·rw[Jc];exact Y
   ·rw[Jc];exact X
 ·rcases a i k with c | rfl
  ·rw[A i c];exact R.own i c
  ·rw[D];exact⟨nS,E,N,F⟩
 ·rcases a i k with c | rfl
  ·rw[A i c];rcases a j hj with I | rfl
   ·rw[A j I];exact R.two i j c I J
   ·rw[D];let⟨C,l,o,u,p,v⟩:=y i c;exact⟨ZY u nx,ZY v r,ZY v s,ZY p s⟩
  ·rw[D];rcases a j hj with I | rfl
   ·rw[A j I];let⟨C,l,o,u,p,v⟩:=y j I;exact⟨(ZY u nx).symm,(ZY v r).symm,(ZY p r).symm,(ZY p s).symm⟩
   ·exact absurd Z J
inductive Y0(jh ji:aj)(k:jf)(H:Hp)(Q:VK)(_:XK):Prop
 |mk(S d g:aj)(n:Nat)(a:List (Zh×V))(h:jf)(j i:V)(_:k=[.ref S,j,i])(_:XU jh H S d g n a h)(_:a.length<=900)(_:∀(c:Hp)(x e:aj),H x=none->H e=none->(∀ b o,b≠S->b≠d->H b=some o->c b=some o)->XU jh c S d g (n+1) (Xj a (.inl (n:Int)) (.ref x)) h->Wc ji c x j i e 1 []->Q (.int (n:Int)) c)
def Wx:ZC ["self","things","label","number"] zEy (Za Ka):=Zm
def ZIV(F:Zg K "put_twig" "Shelf.put_twig" Ka f fd)(L:Yw K mg jh ji)(DM:Us P w K mg ki 1 ji zE4 (Qk ji)):ZI P w K mg ki ZQ 3 f fd zEy (Y0 jh ji):=by
 refine F.ko Wx λa1 A Y s H vs Q E hr h=>?_;let⟨S,d,c,n,T,ls,th,tg,rfl,R,a0,k⟩:=h;let nd:=Wx.nd;let hu:=MY hr;intro Xc;refine⟨_,ZN (Zi 3 nd (Vx (pv 0) rfl)) (ZN (PR (pv 0) (Zu Wf (pv 3) ZJ) rfl)
  (ZN (Fu hu (Vx (pv 0) rfl) (pv 3) (ZQf DM hr rfl L.twig (Zl (pv 1) (pv 2))) rfl) (ZS (Zd (pv 3))))),?_⟩
 let⟨⟨a,y⟩,J,M⟩:=R;let Sd:S≠d:=Zb y J;let Sl:S≠c:=Zb y M;let dl:d≠c:=Zb J M;exists _,Z,S,jh,a,_,.int n,Z,y,L.cS,L.nf,Z;exists _,Z,_,_,Z,Z,_,Z,S,jh,a,_,Z,y,L.cS,L.nf,yI Z;let l:upd H S (.ins jh a (XW "following" (.int ((n:Int)+1)) (Pd d c n))) S=some (.ins jh a (Pd d c (n+1))):=ZP;let q:upd H S (.ins jh a (XW "following" (.int ((n:Int)+1)) (Pd d c n))) d=some (.dK T):=by rw[ZU (Ne.symm Sd)];exact J
 let r:upd H S (.ins jh a (XW "following" (.int ((n:Int)+1)) (Pd d c n))) c=some (.lst ls):=by rw[ZU (Ne.symm Sl)];exact M
 let u:∀ b o,b≠S->H b=some o->upd H S (.ins jh a (XW "following" (.int ((n:Int)+1)) (Pd d c n))) b=some o:=λb o n e=>by rw[ZU n];exact e
 let j:∀ b,upd H S (.ins jh a (XW "following" (.int ((n:Int)+1)) (Pd d c n))) b=none->H b=none:=λb e=>by
  by_cases z:b=S
  ·rw[z,ZP] at e;cases e
  ·rw[ZU z] at e;exact e
 generalize upd H S (.ins jh a (XW "following" (.int ((n:Int)+1)) (Pd d c n)))=B at l q r u j⊢;exists _,Z,_,Z;intro x G nx V ne;let g1:=ZW V (.own x);let X:upd B G (.own x) x=none:=by rw[ZU (Ne.symm ne)];exact nx
 let g2:=ZW X (.ins ji G []);let g:=g1.trans g2;refine⟨x,G,th,tg,Z,ZP,λH2 C O U W=>⟨Z,?_⟩⟩;let v:∀ b o,B b=some o->H2 b=some o:=λb o e=>O b o (ZY e nx) (g b o e);let m:=v _ _ l;let i:=v _ _ q;let N:=v _ _ r;let p:B C=none:=g.free U;let⟨I,t⟩:=W.self;let xd:x≠d:=Zb t i;let D:C≠d:=Zb W.above i;exists _,Z,S,jh,a,_,.ref d,Z,m,L.cS,L.nk,Z,_,Z,d,_,Z,Uz.k (k:=Sum.inl (n:Int)) i (Y2 ∅)
 refine⟨_,Z,k _ x C (j _ nx) (j _ p) (λb o n1 n2 e=>?_) ⟨⟨a,?_⟩,ZP,?_⟩ ⟨⟨I,?_⟩,?_⟩⟩
 ·rw[ZU n2];exact v b o (u b o n1 e)
 ·rw[ZU Sd];exact m
 ·rw[ZU (Ne.symm dl)];exact N
 ·rw[ZU xd];exact t
 ·rw[ZU D];exact W.above
def ZJ9{H:Hp}{b:jv}{c:jf}(h:jY H (Z7 b) c):GA H (b.map (·.1)) c:=by
 let k:c.length=b.length:=by have:=h.length;rw[<-this];exact zX _
 exists by rw[zX];exact k
 intro i u e;let⟨a,m,n,j,d,g,l,_⟩:=row_at h e;exists a,m,n,d,g;rw[zU,zE,j];exact l
inductive Vo(b:jf)(H:Hp)(Q:VK)(_:XK):Prop
 |mk(v:V)(t:KT)(_:b=[v])(_:ZB H t v)(_:t.fits 3=true)(_:∀ a,ZD H a->Q v a)
def Bi:ZC zE2 zE2 (Za Jz):=Zm
def ZIM(F:Zg K "checked" "checked" Jz f fd)(c:ZA P w K mg ki 6 "is_key" zE2 UZ):ZI P w K mg ki ZQ 7 f fd zE2 Vo:=by
 refine F.ko Bi λe A a s H m Q E g h=>?_;let⟨v,t,rfl,i,b,k⟩:=h;intro l;exists _,ZN (Zz (Vv (Y7 (Zc c g (ZZ (pv 0))))) OM Z1) (ZS (Zd (pv 0)));refine⟨_,Z,v,t,3,Z,i,b,λd j=>⟨_,Z,?_⟩⟩;rw[b];exact Zf ⟨_,Z,k d j⟩
inductive Xe(g:jf)(H:Hp)(Q:VK)(_:XK):Prop
 |mk(l:aj)(e:jf)(d:jv)(_:g=[.ref l])(_:H l=some (.lst e))(_:jY H (Z7 d) e)(_:∀ r∈d,r.fit)(_:e.length<=100)(_:∀(b:Hp)(c:aj)(a:jf),ZD H b->H c=none->b c=some (.lst a)->jY b (Z7 d) a->Q (.ref c) b)
def ZJb:ZC zE5 zE5 (Za Kf):=Zm
def Ar(F:Zg K "own_rows" "own_rows" Kf f fd)(M:ZA P w K mg ki 7 "checked" zE2 Vo):ZI P w K mg ki ZQ 8 f fd zE5 Xe:=by
 refine F.ko ZJb λa0 A J s H vs Q E W h=>?_;let⟨l,r,rs,rfl,y,V,hf,T,k⟩:=h;let lk:r.length=rs.length:=by have:=V.length;rw[<-this];exact zX _
 intro Xc;refine⟨_,ZS (Zd (VJ [] [] rfl (WX (pv 0)) (λ_ _ _ _ _=>Vf)
   (λ_ _ _ _ _=>Xl (Zl (Zc M W (ZZ (Zt K (pv 0) ZJ))) (Zc M W (ZZ (Zt K (pv 0) ZJ))))) trivial)),?_⟩
 exists _,Z,l,Z,⟨r,ZH.of y⟩;refine Vm (n:=r.length) (λi z=>r[i]? = some z) (λD i t m=>ZD H m/\H D=none/\jY m (Z7 (rs.take i)) t) (Y2 ∅)
  (λD i t m I d=>⟨r,r[i],ZH.of (d.1 _ _ y),by simp[I]⟩) (λD i t m z H4 I d X=>⟨X.1,X.2 r (ZH.of (d.1 _ _ y))⟩) (λD t m d=>⟨r,ZH.of (d.1 _ _ y),zY _⟩)
  (λD U=>⟨ZW U _,U,.nil⟩) (λD i t m z G a1 I hz d R hR=>?_) (λD t m G d=>?_)
 ·let⟨p,B,j⟩:=d;let⟨a,v,x,S,rfl,e2,Y,k2⟩:=row_at V hz;let O:=p _ _ e2;let o:=hf _ (zM S);refine⟨_,Z,.inr (.inl ⟨a,_,_,v,rfl,rfl,Zj.of O,rfl,v,_,rfl,Y.sm p,o.1,λH4 L=>?_⟩)⟩;refine⟨_,Z,.inr (.inl ⟨a,_,_,x,rfl,rfl,Zj.of (L _ _ O),rfl,x,_,rfl,k2.sm (p.trans L),o.2,λN s5=>?_⟩)⟩;exists YF;intro q hq;let g:=ZW hq (.tup [v,x]);let c:=(L.trans s5).trans g;let u:=c _ _ G;let C:Z4 (upd N q (.tup [v,x])) (upd (upd N q (.tup [v,x])) D (.lst (t++[.ref q]))):=λb xs e=>by rw[ZU (Zb e u)];exact e
  refine hR _ _ u ⟨UR (p.trans c) B,B,?_⟩;rw[yN,S,GN];refine((j.sm c).mono C _ _).append (.cons (.tup (C _ _ ZP) (.cons ?_ (.cons ?_ .nil))) .nil)
  ·exact(Y.sm (p.trans c)).mono C _ _
  ·exact(k2.sm (p.trans c)).mono C _ _
 ·let⟨p,B,j⟩:=d;rw[yX ∅] at j
  exact k m D t p B G j
inductive VR(g:jf)(H:Hp)(Q:VK)(_:XK):Prop
 |mk(l:aj)(d:jf)(c:jp)(_:g=[.ref l])(_:H l=some (.lst d))(_:jY H c d)(_:∀ t∈c,t.fits 3=true)(_:d.length<=100)(_:c.Pairwise (λa b=>a.lt b=true))(_:∀ e,ZD H e->Q (.bl true) e)
def ZOf:ZC ["keys"] ["keys"] (Za Ll):=Zm
def Ir{c:Type}{R:c->c->Prop}:∀{l:List c},l.Pairwise R->∀{i j:Nat}{a b:c},i<j->l[i]? = some a->l[j]? = some b->R a b
 | [],_,_,_,_,_,_,h,_=>by simp at h
 | x::l,hp,0,j+1,a,b,_,ha,hb=>by
  simp at ha hb;subst ha;exact(xS.mp hp).1 b (zM hb)
 | x::l,hp,i+1,j+1,a,b,hij,ha,hb=>by
  simp at ha hb;exact Ir (xS.mp hp).2 ∅ ha hb
def ZNN(F:Zg K "rise" "rise" Ll f fd)(T:YE mg)(S:ZA P w K mg ki 7 "ahead" zEx Yk):ZI P w K mg ki ZQ 8 f fd ["keys"] VR:=by
 refine F.ko ZOf λU A y s H vs Q E hr h=>?_;let⟨l,c,ks,rfl,L,t,J,G,u,k⟩:=h;let lk:=t.length;intro Xc;refine⟨_,ZS (Zd (Zw (MX rfl) rfl T.all LM (ZZ (VJ [0] ["keys"] rfl (K7 rfl T.range (Zl ZJ (Zw XE rfl T.len Y6 (ZZ (pv 0))))) (λ_ _ _ _ _=>Vf)
  (λ_ _ _ _ _=>Zc S hr (Zl (Zt K (pv 1) (Zu V3 (pv 0) ZJ)) (Zt K (pv 1) (pv 0)))) ⟨rfl,.inl rfl,rfl,trivial⟩)))),?_⟩
 exists _,Z,l,c,Z,.inl (ZH.of L),1,(c.length:Int),Z,⟨nofun,nofun,nofun,nofun⟩
 refine Vm (n:=((c.length:Int)-1).toNat) (λi x=>x=.int (1+(i:Int))) (λD i j d=>ZD H d/\H D=none/\j=(uT i true).map V.bl) (Y2 nofun)
  (λD i j d q _=>q) (λD i j d x z q _ hy=>hy) (λD j d _=>zY _) (λD I=>⟨ZW I _,I,Z⟩) (λD i j d x o a0 q hx p R Y=>?_) (λD j d o p=>?_)
 ·subst hx;let⟨g,v,rfl⟩:=p;let r:i+1<c.length:=nofun
  let N:c[i]? = some (c[i]'nofun):=zV nofun
  let O:c[i+1]? = some c[i+1]:=zV r;let X:(1:Int)+(i:Int)=((i+1:Nat):Int):=nofun
  let W:(1:Int)+(i:Int)-1=((i:Nat):Int):=nofun
  let⟨a,B,ka⟩:=t.get N;let⟨b,C,kb⟩:=t.get O;let m:=g _ _ L;refine⟨_,Z,_,Z,_,_,Z,Z,.inl ⟨l,c,_,_,Z,Z,ZH.of m,(by rw[W];exact YO N),?_⟩⟩
  refine⟨_,Z,_,Z,.inl ⟨l,c,_,_,Z,Z,ZH.of m,(by rw[X];exact YO O),?_⟩⟩
  exists _,_,a,b,Z,ka.sm g,kb.sm g,J a (zM B),J b (zM C);intro z M;rw[Ir u (wS i) B C];refine Y _ z (M D _ o) ⟨UR (g.trans M) v,v,?_⟩;rw[List.replicate_succ',zH];rfl
 ·let⟨g,v,rfl⟩:=p;exists D,_,Z,ZH.of o;let e:(uT ((c.length:Int)-1).toNat true).all id=true:=by simp
  rw[e];exact k d g
def WY(c:jv):Prop:=(∀ r∈c,r.fit)/\0<c.length/\c.length<=4/\(c.map (·.1)).Pairwise (λa b=>a.lt b=true)
inductive WL(g:jf)(H:Hp)(Q:VK)(_:XK):Prop
 |mk(l:aj)(e:jf)(d:jv)(_:g=[.ref l])(_:H l=some (.lst e))(_:jY H (Z7 d) e)(_:WY d)(_:∀(b:Hp)(c:aj)(a:jf),ZD H b->H c=none->b c=some (.lst a)->jY b (Z7 d) a->Q (.ref c) b)
def Vs:ZC ["rows","own"] zE5 (Za Ja):=Zm
def ZKU(F:Zg K "checked_rows" "checked_rows" Ja f fd)(T:YE mg)(W:ZA P w K mg ki 8 "own_rows" zE5 Xe)(X:ZA P w K mg ki 8 "rise" ["keys"] VR):ZI P w K mg ki ZQ 9 f fd zE5 WL:=by
 refine F.ko Vs λY A J s H vs Q E S h=>?_;let⟨l,V,y,rfl,hl,O,⟨N,h0,h4,I⟩,k⟩:=h;let nd:=Vs.nd;let lk:V.length=y.length:=by have:=O.length;rw[<-this];exact zX _
 let⟨t4,m4⟩:=T.rows;intro Xc;refine⟨_,ZN (Zi 1 nd (Zc W S (ZZ (pv 0))))
  (ZN (Zz (PW.pt (Pa (Vv (JP Oh Oh ZJ (Zw XE rfl T.len Y6 (ZZ (pv 1))) (VD (v:=.int 4) rfl m4 ⟨_,rfl⟩)))
   (OR (Vv (Y7 (Zc X S (ZZ (VJ [] [] rfl (WX (pv 1)) (λ_ _ _ _ _=>Vf) (λ_ _ _ _ _=>Zt K (pv 0) ZJ) trivial)))))))) OM Z1)
  (ZS (Zd (pv 1)))),?_⟩
 exists _,Z,l,V,y,Z,hl,O,N,by lia
 intro B D b s3 nD u m;let ly:b.length=y.length:=by have:=m.length;rw[<-this];exact zX _
 exists _,Z,D,b,Z,.inl (ZH.of u),_,_,Z,Z,_,Z;rw[aK (show (1:Int)<=(b.length:Int) by lia)]
 refine Zs ⟨_,_,Z,Z,_,Z,?_⟩;rw[aK (show (b.length:Int)<=4 by lia)]
 refine Zf ?_;exists _,Z,D,Z,⟨b,ZH.of u⟩;refine Vm (n:=b.length) (λi z=>b[i]? = some z) (λe i q g=>ZD B g/\B e=none/\jY B ((y.map (·.1)).take i) q) (Y2 ∅)
  (λe i q g C d=>⟨b,b[i],ZH.of (d.1 _ _ u),by simp[C]⟩) (λe i q g z M C d U=>⟨U.1,U.2 b (ZH.of (d.1 _ _ u))⟩) (λe q g d=>⟨b,ZH.of (d.1 _ _ u),zY _⟩)
  (λe x=>⟨ZW x _,x,.nil⟩) (λe i q g z j a0 C hz d R hR=>?_) (λe q g j d=>?_)
 ·let⟨p,o,c⟩:=d;let⟨a,vk,vv,er,rfl,e2,k1,_⟩:=row_at m hz;refine⟨_,Z,.inr (.inl ⟨a,_,_,vk,rfl,rfl,Zj.of (p _ _ e2),rfl,?_⟩)⟩;refine hR _ g j ⟨UR p o,o,?_⟩;rw[yN,zE,er];exact c.append (.cons k1 .nil)
 ·let⟨p,o,c⟩:=d;rw[yX (by rw[zX];lia)] at c
  let lz:=c.length;rw[zX] at lz;refine⟨e,q,_,Z,j,c.sm p,λt ht=>?_,∅,I,λM L=>⟨_,Z,Zf ⟨_,Z,k M D b ((s3.trans p).trans L) nD (L _ _ (p _ _ u)) (m.sm (p.trans L))⟩⟩⟩
  let⟨r,G,rfl⟩:=zL.mp ht;exact(N r G).1
def Uo(a:jv):ZM:=⟨0,a,[]⟩
inductive YX(jh ji:aj)(q:jf)(H:Hp)(Q:VK)(_:XK):Prop
 |mk(S d m l:aj)(c:jr)(j:Nat->jq)(k:Nat->Nat)(i:jy)(e:List (Zh×V))(n p:jf)(h:jv)(_:q=[.ref S,.ref l])(_:Yc jh ji H S d m c j k i e n)(_:c.length<=900)(_:H l=some (.lst p))(_:jY H (Z7 h) p)(_:WY h)(_:∀(g:Hp)(a:Z9),H a.x=none->H a.th=none->H a.ab=none->(∀ b o,b≠S->b≠d->H b=some o->g b=some o)->Yc jh ji g S d m (c++[Uo h]) (V4 c.length j) (UI c.length k) (i++[a]) (Xj e (.inl (c.length:Int)) (.ref a.x)) n->Q (.int (c.length:Nat)) g)
def Wl:ZC ["self","rows","own"] zEz (Za Iq):=Zm
def EA{jh ji:aj}{H:Hp}{S d h:aj}{b:jr}{e:Nat->jq}{g:Nat->Nat}{c:jy}{a:List (Zh×V)}{i:jf}(R:Yc jh ji H S d h b e g c a i):a.length=b.length:=by
 have:=congrArg wV R.keys;simpa using this
def Zr(c:jr)(a:jq):jv:=a.flatMap λb=>(gd c b).rows
def Xt(b:jr)(a:jq):ZM:=⟨(gd b (a.getD 0 0)).h+1,Zr b a,a⟩
def Mv(c:jr):jq->Prop
 | a::b::r=>(YA (gd c a)).hi.lt (YA (gd c b)).lo=true/\Mv c (b::r)
 | _=>True
def EQ{c:jr}:∀{bs:jq},(∀ j,j+1<bs.length->((XA c bs).getD j .d).hi.lt ((XA c bs).getD (j+1) .d).lo=true)->Mv c bs
 | [],_=>trivial
 | [_],_=>trivial
 | a::b::r,h=>⟨h 0 (by simp),EQ (bs:=b::r) λj e=>h (j+1) (by simp at e⊢;lia)⟩
def PJ{t:ZM}(a:t.rows≠[]):∃ r b,t.rows=r::b/\(YA t).lo=r.1:=by
 cases e:t.rows with
 | nil=>exact absurd e a
 | cons r b=>exact⟨r,b,Z,by unfold YA;rw[e];rfl⟩
def Ib{t:ZM}(a:t.rows≠[]):∃ b r,t.rows=b++[r]/\(YA t).hi=r.1:=by
 rcases qQ t.rows with e | ⟨b,r,e⟩
 ·exact absurd e a
 ·rw[qT] at e;exists b,r,e;unfold YA;rw[e];simp[zU]
def Bq{g:jp}{j:jr}{i:Nat}{t:ZM}(h:Xw g j i t){x:KT}(a:x∈t.rows.map (·.1)){y:KT}(b:(YA t).hi.lt y=true):x.lt y=true:=by
 let⟨k,r,e,d⟩:=Ib h.ne;let c:=h.up;rw[e,zH] at c a;rw[d] at b;rcases zB.mp a with a | a
 ·have:=(xZ.mp c).2.2 x a r.1 (by simp)
  exact lt_trans' _ _ _ this b
 ·simp at a;rw[a];exact b
def BR{gt:jp}{ts:jr}{bs:jq}{l:jp}(g:l.Pairwise λa b=>a.lt b=true){z:KT}(e:l.head? = some z){x:KT}(d:x.lt z=true):∀ y∈l,x.lt y=true:=by
 cases l with
 | nil=>cases e
 | cons a l=>
  simp at e;subst e;intro y c;rcases yT.mp c with rfl | c
  ·exact d
  ·exact lt_trans' _ _ _ d ((xS.mp g).1 y c)
def FZ{m:jp}{d:jr}(i:WF m d):∀{bs:jq},(∀ b∈bs,b<d.length)->Mv d bs->((Zr d bs).map (·.1)).Pairwise (λa b=>a.lt b=true)/\bs.Nodup
 | [],_,_=>⟨tY.nil,List.nodup_nil⟩
 | [a],h,_=>by
  refine⟨?_,by simp⟩
  have:=(i a _ (Yl (h a (by simp)))).up
  simpa [Zr] using this
 | a::b::r,h,hn=>by
  let⟨n,q⟩:=FZ i (bs:=b::r) (λc s=>h c (zG _ s)) hn.2;let j:=i a _ (Yl (h a (by simp)))
  let B:=i b _ (Yl (h b (by simp)))
  let⟨D,E,o,p⟩:=PJ B.ne;let t:((Zr d (b::r)).map (·.1)).head? = some (YA (gd d b)).lo:=by
   rw[p];unfold Zr;rw[wX,o];rfl
  let g:∀ x∈(gd d a).rows.map (·.1),∀ y∈(Zr d (b::r)).map (·.1),x.lt y=true:=λx v=>BR (gt:=m) (ts:=d) (bs:=[]) n t (Bq j v hn.1);refine⟨?_,wG.mpr ⟨λu=>?_,q⟩⟩
  ·let e:Zr d (a::b::r)=(gd d a).rows++Zr d (b::r):=by simp[Zr]
   rw[e,zH];exact xZ.mpr ⟨j.up,n,g⟩
  ·let⟨k,C,l,_⟩:=PJ j.ne;let z:k.1∈(gd d a).rows.map (·.1):=by rw[l];simp
   let A:k.1∈(Zr d (b::r)).map (·.1):=zL.mpr ⟨k,vD.mpr ⟨a,u,by rw[l];simp⟩,Z⟩
   have:=g _ z _ A;rw[Q0] at this;cases this
def Pn{c:jr}{a:jq}{i:Nat}(b:i<a.length):(XA c a).getD i .d=YA (gd c (a.getD i 0)):=by
 unfold XA;rw[zU,zE,zV b,zU,zV b];rfl
def G0{T:jp}{g:jr}(F:WF T g){c:jq}(x:∀ b∈c,b<g.length){L:YV}(h:over (XA g c)=some L):
  L=YA (Xt g c)/\c.Nodup/\2<=c.length/\c.length<=4/\(∀ b∈c,(gd g b).h+1=(Xt g c).h)/\((Zr g c).map (·.1)).Pairwise (λa b=>a.lt b=true)/\Zr g c≠[]:=by
 unfold over at h;split at h
 case isFalse=>cases h
 case isTrue hc=>
  let⟨o,H,W⟩:=hc;let G:(XA g c).length=c.length:=zX _;rw[G] at o H;let p:=QH.mpr W;unfold Ku at p;rw[G] at p;let B:Mv g c:=EQ λj V=>(p j V).2;let⟨E,C⟩:=FZ F x B;let U:∀ i,i<c.length->((XA g c).getD i .d).h=((XA g c).getD 0 .d).h:=λi n=>by
   cases i with
   | zero=>rfl
   | succ i=>exact(p i n).1
  let k:∀ i,i<c.length->c.getD i 0∈c:=λi n=>by rw[zU,zV n];exact xY _
  let I:=F _ _ (Yl (x _ (k 0 ∅)))
  let Y:=F _ _ (Yl (x _ (k (c.length-1) ∅)))
  let A:∀ b∈c,(gd g b).h+1=(Xt g c).h:=λb y=>by
   let⟨i,n,e⟩:=List.getElem_of_mem y;have:=U i n;rw[Pn n,Pn ∅] at this
   let s:c.getD i 0=b:=by rw[zU,zV n,e];rfl
   rw[s] at this;have:=Int.ofNat.inj this;show (gd g b).h+1=(gd g (c.getD 0 0)).h+1
   lia
  let D:Zr g c≠[]:=λz=>by
   let⟨r,q,e,_⟩:=PJ I.ne;have:r∈Zr g c:=vD.mpr ⟨_,k 0 ∅,by rw[e];simp⟩
   rw[z] at this;simp at this
  refine⟨?_,C,o,H,A,E,D⟩;rw[<-zA.inj h];let v:((XA g c).getD 0 .d).lo=(YA (Xt g c)).lo:=by
   rw[Pn ∅]
   let⟨r,q,e,u⟩:=PJ I.ne;rw[u]
   cases c with
   | nil=>simp at o
   | cons b c=>
    unfold YA Xt Zr;let M:(gd g b).rows=r::q:=e;simp only[wX,M];rfl
  let t:((XA g c).getD ((XA g c).length-1) .d).hi=(YA (Xt g c)).hi:=by
   rw[G,Pn ∅]
   let⟨q,r,e,u⟩:=Ib Y.ne;rw[u];rcases qQ c with z | ⟨J,b,z⟩
   ·rw[z] at o;simp at o
   ·rw[qT] at z;let O:c.getD (c.length-1) 0=b:=by rw[z];simp[zU]
    rw[O] at e;let S:Zr g c=Zr g J++q++[r]:=by rw[z];simp[Zr,e]
    unfold YA Xt;simp only[S];simp[zU]
  let R:((XA g c).map YV.m).sum=(YA (Xt g c)).m:=by
   have:∀ l:jq,((XA g l).map YV.m).sum=((Zr g l).length:Int):=λl=>by
    induction l with
    | nil=>rfl
    | cons b l X=>
     let N:XA g (b::l)=YA (gd g b)::XA g l:=rfl;let s:Zr g (b::l)=(gd g b).rows++Zr g l:=by simp[Zr]
     rw[N,s,zF,wU,X,zT];show ((gd g b).rows.length:Int)+_=_
     lia
   exact this c
  let Q:((XA g c).getD 0 .d).h+1=(YA (Xt g c)).h:=by
   rw[Pn ∅]
   show ((gd g (c.getD 0 0)).h:Int)+1=(((gd g (c.getD 0 0)).h+1:Nat):Int)
   lia
  rw[v,t,R,Q]
def Xw.ext{j:jp}{a:jr}{t:ZM}{i:Nat}{u:ZM}(h:Xw j a i u)(r:i<=a.length):Xw j (a++[t]) i u:=by
 exists h.ne,h.up,h.inn,h.leaf;intro z;let⟨k,m,g,n⟩:=h.stem z;let e:∀ b∈u.bs,gd (a++[t]) b=gd a b:=λb d=>NS (by have:=(g b d).1;lia)
 exists k,m,λb d=>⟨(g b d).1,by rw[e b d];exact(g b d).2⟩
 rw[n];clear k m g n;have:∀ l:jq,(∀ b∈l,gd (a++[t]) b=gd a b)->(l.flatMap λb=>(gd a b).rows)=l.flatMap λb=>(gd (a++[t]) b).rows:=λl o=>by
  induction l with
  | nil=>rfl
  | cons b l q=>rw[wX,wX,o b (by simp),q λc p=>o c (zG _ p)]
 exact this _ e
def WF.push{c:jp}{a:jr}{t:ZM}(g:WF c a)(h:Xw c a a.length t):WF c (a++[t]):=λi u e=>by
 rcases yP i a.length with b | b
 ·rw[xN b] at e;exact(g i u e).ext (yK b)
 ·rw[yE b] at e;let d:i-a.length=0:=by
   rcases Nat.eq_zero_or_pos (i-a.length) with z | z
   ·exact z
   ·rw[qP (by simp;lia)] at e;cases e
  rw[d] at e;simp at e;subst e;have:i=a.length:=∅
  rw[this];exact h.ext (zY _)
def Bh{k:jp}{c:jr}(l:WF k c){d:jq}(e:∀ b∈d,b<c.length){L:YV}(h:over (XA c d)=some L):Xw k c c.length (Xt c d):=by
 let⟨_,_,m,n,o,j,g⟩:=G0 l e h;refine⟨g,j,λr p=>?_,λz=>absurd z (by show (gd c (d.getD 0 0)).h+1≠0;lia),λ_=>⟨m,n,λb a=>⟨e b a,o b a⟩,Z⟩⟩
 let⟨b,a,i⟩:=vD.mp p;exact(l b _ (Yl (e b a))).inn r i
def ZL9{g:jp}{e:jr}(j:WF g e){c:jq}(h:∀ b∈c,b<e.length)(i:Nat):((XA e c).getD i .d).fit:=by
 rcases yP i c.length with a | a
 ·rw[Pn a];refine GX (j _ _ (Yl (h _ ?_)));rw[zU,zV a];exact xY _
 ·rw[zU,qP (by unfold XA;rw[zX];exact a)]
  exact ZQn
abbrev ZQD:jt:=["labels","at","many"]
def QI:ZC ZQD ["labels"] (Za Lu):=Zm
def ZK8(D:ZA P w K mg ki 6 "is_key" zE2 WH):ZA P w K mg ki 6 "is_key" zE2 UZ:=by
 let⟨g,gd,a,b,j,m⟩:=D.ex;refine⟨g,gd,a.imp λn H Q E h=>?_,b,j,m⟩;let⟨v,t,q,e,i,d,k⟩:=h;exact⟨v,t.emb,λ_=>False,e,Ht t v i,HZ t q d,λc l=>by rw[Hx];exact k c l⟩
def C5{a:jJ}{L:YV}(h:over a=some L):2<=a.length/\a.length<=4/\LZ a=true/\L=⟨(a.getD 0 .d).h+1,(a.getD 0 .d).lo,(a.getD (a.length-1) .d).hi,(a.map YV.m).sum⟩:=by
 unfold over at h;split at h
 ·rename_i z
  cases h;exact⟨z.1,z.2.1,z.2.2,Z⟩
 ·cases h
inductive VY(e:jf)(H:Hp)(Q:VK)(_:XK):Prop
 |mk(l:aj)(c:jf)(b:jJ)(L:YV)(_:e=[.ref l])(_:H l=some (.lst c))(_:Ye H b c)(_:∀ i,(b.getD i .d).fit)(_:over b=some L)(_:∀ a v,ZD H a->ZB a L.kt v->Q v a)
def Bv(F:Zg K "label_over" "label_over" Lu f fd)(T:YE mg)(DS:ZA P w K mg ki 8 "stand_side_by_side" zE8 V9):ZI P w K mg ki ZQ 9 f fd ["labels"] VY:=by
 refine F.ko QI λc3 A a8 s H vs Q E hr h=>?_;let⟨l,q,r,L,rfl,hl,hk,hf,a5,k⟩:=h;let⟨v2,v4,vc,rfl⟩:=C5 a5;let nd:=QI.nd;let a1:=hk.1;let⟨tf,mf⟩:=T.few;let⟨tm,mm⟩:=T.most;let⟨t0,m0⟩:=T.height;let⟨t1,m1⟩:=T.least;let⟨t2,m2⟩:=T.greatest;let⟨t3,m3⟩:=T.many;intro Xc;refine⟨_,ZN (Zz (Vv (JP Oh Oh (VD (v:=.int 2) rfl mf ⟨_,rfl⟩) (Zw XE rfl T.len Y6 (ZZ (pv 0))) (VD (v:=.int 4) rfl mm ⟨_,rfl⟩))) OM Z1)
  (ZN (U8 PassesOwn.never rfl (K7 rfl T.range (Zl ZJ (Zw XE rfl T.len Y6 (ZZ (pv 0))))) (Xx 1 nd)
   (ZS (Zz (Vv (Y7 (Zc DS hr (Zl (Zt K (pv 0) (Zu V3 (pv 1) ZJ)) (Zt K (pv 0) (pv 1)))))) OM Z1)))
  (ZN (Zi 2 nd (Zw (KW rfl) rfl T.sum KU (ZZ (VJ [] [] rfl (WX (pv 0)) (λ_ _ _ _ _=>Vf) (λ_ _ _ _ _=>Zt K (pv 0) (VD (v:=.int 3) Z m3 ⟨_,Z⟩)) trivial))))
  (ZS (Zd (Xl (Qb (Zu Wf (Zt K (Zt K (pv 0) ZJ) (VD (v:=.int 0) rfl m0 ⟨_,rfl⟩)) ZJ)
   (Zt K (Zt K (pv 0) ZJ) (VD (v:=.int 1) rfl m1 ⟨_,rfl⟩))
   (Zt K (Zt K (pv 0) (Q1 Qo ZJ)) (VD (v:=.int 2) rfl m2 ⟨_,rfl⟩))
   (pv 2))))))),?_⟩
 let O:∀(W:Hp)(i:Nat),ZD H W->i<q.length->∃(a:aj)(G C:V),q[i]? = some (.ref a)/\W a=some (.tup [.int (r.getD i .d).h,G,C,.int (r.getD i .d).m])/\ZB W (r.getD i .d).lo G/\ZB W (r.getD i .d).hi C:=λW i s' M=>by
  let hu:q[i]? = some q[i]:=zV M;let⟨a,G,C,e,e1,k1,k2⟩:=(hk.2 i _ hu).mono (ZD.tups s');exact⟨a,G,C,by rw[hu,e],e1,k1,k2⟩
 exists _,Z,l,q,Z,.inl (ZH.of hl),_,_,Z,Z,_,Z;let h2:2<=q.length:=nofun
 let h4:q.length<=4:=nofun
 rw[aK (show (2:Int)<=(q.length:Int) from nofun)]
 refine Zs ⟨_,_,Z,Z,_,Z,?_⟩;rw[aK (show (q.length:Int)<=4 from nofun)]
 refine Zf ?_;exists _,Z,l,q,Z,.inl (ZH.of hl),1,(q.length:Int),Z,⟨nofun,nofun,nofun,nofun⟩
 refine OJ (lo:=1) (n:=((q.length:Int)-1).toNat) (λi σ X=>∃ x:jg,σ=[some (.ref l),x,none]/\ZD H X/\∀ j,j<i->Qc (r.getD j .d) (r.getD (j+1) .d)=true) ⟨_,Z,ZD.refl H,λj hj=>absurd hj nofun⟩ ?_ ?_
 ·rintro i σ X M ⟨x,rfl,I,a2⟩;let a3:i+1<q.length:=nofun
  let ua:q[i]? = some (q[i]'nofun):=zV nofun
  let ub:q[i+1]? = some q[i+1]:=zV a3;let e1:(1:Int)+(i:Int)=((i+1:Nat):Int):=nofun
  let e0:(1:Int)+(i:Int)-1=((i:Nat):Int):=nofun
  let t:=I _ _ hl;refine⟨_,Z,_,Z,_,_,Z,Z,.inl ⟨l,q,_,_,Z,Z,ZH.of t,(by rw[e0];exact YO ua),?_⟩⟩
  refine⟨_,Z,_,Z,.inl ⟨l,q,_,_,Z,Z,ZH.of t,(by rw[e1];exact YO ub),?_⟩⟩
  refine⟨_,_,r.getD i .d,r.getD (i+1) .d,Z,(hk.2 i _ ua).mono (ZD.tups I),(hk.2 (i+1) _ ub).mono (ZD.tups I),hf i,hf (i+1),λu S=>⟨_,Z,?_⟩⟩;let hc:Qc (r.getD i .d) (r.getD (i+1) .d)=true:=yZ.mp vc i (xV.mpr nofun)
  rw[hc];refine Zf ⟨_,Z,I.trans S,λj hj=>?_⟩;rcases yP j i with c1 | c1
  ·exact a2 j c1
  ·have:j=i:=nofun
   rw[this];exact hc
 rintro σ X ⟨x,rfl,I,a2⟩;let t:=I _ _ hl;exists _,Z,l,Z,⟨q,ZH.of t⟩;refine Vm (n:=q.length) (λi z=>q[i]? = some z) (λD i U u=>ZD X u/\X D=none/\U=((r.map YV.m).take i).map V.int) (Y2 nofun)
  (λD i U u M y=>⟨q,q[i],ZH.of (y.1 _ _ t),by simp[M]⟩) (λD i U u z H4 M y hy=>⟨hy.1,hy.2 q (ZH.of (y.1 _ _ t))⟩) (λD U u y=>⟨q,ZH.of (y.1 _ _ t),zY _⟩)
  (λD hD=>⟨ZW hD _,hD,Z⟩) (λD i U u z eD c5 M hz y R hR=>?_) (λD U u eD y=>?_)
 ·let⟨S,nD,rfl⟩:=y;let⟨a,c0,a9,ua,ea,c6,c7⟩:=O u i (I.trans S) M;rw[ua] at hz;cases hz;refine⟨_,Z,.inr (.inl ⟨a,_,_,.int (r.getD i .d).m,rfl,rfl,Zj.of ea,rfl,?_⟩)⟩;refine hR _ u eD ⟨λb o e=>by rw[ZU (ZY e nD)];exact S b o e,nD,?_⟩
  let eg:(r.map YV.m)[i]? = some (r.getD i .d).m:=by
   rw[zE,zU,zV (show i<r.length from nofun)]
   rfl
  rw[yN,eg,zH];rfl
 ·let⟨S,nD,rfl⟩:=y;rw[yX (by rw[zX];lia (splits:=8))] at eD
  exists D,r.map YV.m,Z,ZH.of eD;let B:=I.trans S;let N:=B _ _ hl;let⟨c,a0,c4,uc,ec,a7,c9⟩:=O u 0 B nofun
  let⟨b,c2,Y,ub,eb,c8,a6⟩:=O u (q.length-1) B nofun
  let J:Y3 q (-1)=some (.ref b):=by
   let e:q=q.dropLast++[.ref b]:=by
    let a4:q≠[]:=λz=>by rw[z] at h2;simp at h2
    let hg:q.getLast a4=.ref b:=by
     rw[qL];have:=(zC.mp ub).2;exact this
    rw[<-hg,pY]
   rw[e];exact FW _ _
  refine⟨_,Z,.inl ⟨l,q,_,.ref c,Z,Z,ZH.of N,YO (j:=0) uc,.inr (.inl ⟨c,_,_,.int (r.getD 0 .d).h,rfl,rfl,Zj.of ec,rfl,_,_,rfl,rfl,?_⟩)⟩⟩;refine⟨_,Z,.inl ⟨l,q,_,.ref c,Z,Z,ZH.of N,YO (j:=0) uc,.inr (.inl ⟨c,_,_,a0,rfl,rfl,Zj.of ec,rfl,?_⟩)⟩⟩;refine⟨_,Z,1,Z,.inl ⟨l,q,_,.ref b,Z,Z,ZH.of N,J,.inr (.inl ⟨b,_,_,Y,rfl,rfl,Zj.of eb,rfl,?_⟩)⟩⟩;exists _,Z,YF;intro p hp;let g:=ZW hp (.tup [.int ((r.getD 0 .d).h+1),a0,Y,.int (r.map YV.m).sum]);refine k _ _ (B.trans g) ?_;rw[<-a1];exact .tup ZP (.cons (.int _) (.cons (a7.sm g) (.cons (a6.sm g) (.cons (.int _) .nil))))
abbrev KY:Stmt:=Wt (Zn 56) 19
abbrev Jf:Stmt:=Wt (Zn 56) 20
abbrev Kt:Stmt:=Wt (Zn 56) 2
inductive Yx(jh ji:aj)(o:jf)(H:Hp)(Q:VK)(_:XK):Prop
 |mk(S d m l:aj)(g:jr)(j:Nat->jq)(k:Nat->Nat)(i:jy)(e:List (Zh×V))(n:jf)(c:jq)(_:o=[.ref S,.ref l])(_:Yc jh ji H S d m g j k i e n)(_:H l=some (.lst (iN c)))(_:∀ b∈c,b<g.length)(_:c.length<=100)(_:∀(D:aj)(h:jf)(a:Hp),ZD H a->H D=none->a D=some (.lst h)->Ye a (XA g c) h->Q (.ref D) a)
def ZH4:ZC zEi zEi (Za KY):=Zm
def Oj{a:jq}{i:Nat}{z:V}(h:(iN a)[i]? = some z):∃ b,a[i]? = some b/\z=.int (b:Nat):=by
 unfold iN at h;rw[zE] at h;let⟨b,e,rfl⟩:=xP.mp h;exact⟨b,e,Z⟩
def BD(F:Zg K "labels_of" "Shelf.labels_of" KY f fd)(L:Yw K mg jh ji)(T:ZG P w K mg ki ZQ 2 jh "label" zEa (Xn jh ji λtg _ _=>tg)):ZI P w K mg ki ZQ 3 f fd zEi (Yx jh ji):=by
 refine F.ko ZH4 λV A I s H vs Q E hr h=>?_;let⟨S,d,lk,l,q,av,ho,U,G,ls,j,rfl,R,v,hb,M,k⟩:=h;let li:(iN j).length=j.length:=zX _;intro Xc;exists _,ZS (Zd (VJ [0] zEm rfl (WX (pv 1)) (λ_ _ _ _ _=>Vf) (λ_ _ _ _ _=>XX (E:=E0) (pv 1) L.cS T hr Yn (ZZ (pv 0))) ⟨rfl,.inl rfl,rfl,trivial⟩));exists _,Z,l,Z,⟨_,ZH.of v⟩;refine Vm (n:=(iN j).length) (λi z=>(iN j)[i]? = some z) (λD i o a=>ZD H a/\H D=none/\Ye a (XA q (j.take i)) o) (Y2 ∅)
  (λD i o a C g=>⟨_,(iN j)[i],ZH.of (g.1 _ _ v),zV C⟩) (λD i o a z H4 C g O=>⟨O.1,O.2 _ (ZH.of (g.1 _ _ v))⟩) (λD o a g=>⟨_,ZH.of (g.1 _ _ v),zY _⟩)
  (λD N=>⟨ZW N _,N,Z,λi u e=>by simp at e⟩) (λD i o a z r a0 C hz g RR B=>?_) (λD us a r g=>?_)
 ·let⟨y,x,t⟩:=g;let⟨b,J,rfl⟩:=Oj hz;let m:=hb b (zM J);let p:=R.same y;let⟨W,Y⟩:=p.sh.self;exists _,Z,S,W,_,Z,Y,Z,_,Z,S,d,lk,q.length,G,ls,(b:Int),_,_,_,_,_,_,Z,⟨p.sh,p.val b m,(p.tw b m).tw⟩;refine B _ a r ⟨UR y x,x,?_⟩;let tD:Z4 a (upd a D (.lst (o++[.ref (U.getD b .d).tg]))):=λc xs e=>by rw[ZU (Zb e r)];exact e
  rw[yN,J];let X:XA q (j.take i++(some b).toList)=XA q (j.take i)++[YA (gd q b)]:=by unfold XA;simp
  rw[X];exact(t.snoc (p.tw b m).tag).mono tD
 ·let⟨y,x,t⟩:=g;rw[yX ∅] at t
  exact k D us a y x r t
inductive Yh(jh ji:aj)(q:jf)(H:Hp)(Q:VK)(_:XK):Prop
 |mk(S l:aj)(e:jF)(_:q=[.ref S,.ref l])(_:H l=some (.lst (e.map V.int)))(_:∃ h b,H S=some (.ins jh h b)/\b.lookup (xW "outside")=none)(_:∀ n∈e,∃(d i:aj)(m:Nat)(a:List (Zh×V))(j:jf)(x:aj)(o k:V)(g:aj)(c:Nat)(p:jf),Q4 jh ji H S d i m a j n x o k g c p/\1<=c)(_:Q .non H)
def Xk:ZC ["self","numbers","number"] zEi (Za Jf):=Zm
def ZEa(F:Zg K "check_held" "Shelf.check_held" Jf f fd)(L:Yw K mg jh ji)(r:ZG P w K mg ki ZQ 2 jh "outside" zEa (Xn jh ji λ_ j _=>.int j)):ZI P w K mg ki ZQ 3 f fd zEi (Yh jh ji):=by
 refine F.ko Xk λv A p s H vs Q E I h=>?_;let⟨S,l,O,rfl,q,⟨y,fs,D,g⟩,G,k⟩:=h;let N:=Xk.nd;intro Y;refine⟨_,ZS (U8 PassesOwn.never rfl (WX (pv 1)) (Xx 2 N)
  (ZS (Zz (XB Vb (XX (E:=E0) (pv 0) L.cS r I Yn (ZZ (pv 2))) ZJ (YK _)) OM Z1))),?_⟩
 refine⟨_,Z,l,Z,⟨_,ZH.of q⟩,N1 (K:=K) (a:=l) (xs:=O.map V.int) (λi e c=>∃ x:jg,e=[some (.ref S),some (.ref l),x]/\c=H) ⟨_,Z,Z⟩ (λi e c _ C=>by let⟨_,_,rfl⟩:=C;exact ZH.of q) ?_ ?_⟩
 ·rintro i u e c b ⟨x,rfl,rfl⟩;rw[zE] at b;let⟨n,B,rfl⟩:=xP.mp b;let⟨d,J,m,o,M,X,U,T,t,j,W,R,h1⟩:=G n (zM B);exists _,Z,S,y,_,Z,D,g,_,Z,S,d,J,m,o,M,n,X,U,T,t,j,W,Z,R,Z,_,Z;rw[aJ (λz=>by have:=NN z;lia)]
  exact Zf ⟨_,Z,Z⟩
 ·rintro e c ⟨x,rfl,rfl⟩;exact k
inductive Z8(r:jp)(jh ji:aj)(s:jf)(H:Hp)(Q:VK)(_:XK):Prop
 |mk(S d n l:aj)(e:jr)(k:Nat->jq)(m:Nat->Nat)(i:jy)(h:List (Zh×V))(p:jf)(g:jq)(q:YV)(_:s=[.ref S,.ref l])(_:Yc jh ji H S d n e k m i h p)(_:WF r e)(_:e.length<=800)(_:∀ b∈g,b<e.length/\1<=m b/\(k b).length<=800)(_:H l=some (.lst (iN g)))(_:over (XA e g)=some q)(_:∀(j:Hp)(a:Z9),H a.x=none->H a.th=none->H a.ab=none->(∀ c o,c≠S->c≠d->(∀ b:Nat,b<e.length->c≠(i.getD b .d).x/\c≠(i.getD b .d).ab)->H c=some o->j c=some o)->Yc jh ji j S d n (e++[Xt e g]) (Uv g e.length (V4 e.length k)) (Ut g (UI e.length m)) (i++[a]) (Xj h (.inl (e.length:Int)) (.ref a.x)) p->Q (.int (e.length:Nat)) j)
abbrev ZLl:jt:=["self","numbers","branches","label","number"]
def Wv:ZC ZLl zEi (Za Kt):=Zm
def ZPe(a:jq):iN a=(a.map λb:Nat=>(b:Int)).map V.int:=by unfold iN;rw[vZ];rfl
def B6{gt:jp}(F:Zg K "put_stem" "Shelf.put_stem" Kt f fd)(T:YE mg)(L:Yw K mg jh ji)(DL:ZG P w K mg ki ZQ 3 jh "labels_of" zEi (Yx jh ji))(DO:ZA P w K mg ki 9 "label_over" ["labels"] VY)(DC:ZG P w K mg ki ZQ 3 jh "check_held" zEi (Yh jh ji))(DT:ZG P w K mg ki ZQ 3 jh "put_twig" zEy (Y0 jh ji))(DK:ZG P w K mg ki ZQ 2 jh "take_over" zE6 (XL jh ji)):
  ZI P w K mg ki ZQ 10 f fd zEi (Z8 gt jh ji):=by
 refine F.ko Wv λc3 A c0 s H vs Q E hr h=>?_;let⟨S,d,X,l,a,av,ho,M,G,Y,i,Lb,rfl,R,hw,c2,B,hl,O,q3⟩:=h;let W:∀ b∈i,b<a.length:=λb h=>(B b h).1;let nd:=Wv.nd;let C:=hr.mono (show 3<=9 by lia)
 let a8:=hr.mono (show 2<=9 by lia)
 let⟨eL,a7,c4,c5,c6,c9,c7⟩:=G0 hw W O;intro Xc;refine⟨_,ZN (Zi 2 nd (Wn Pz rfl T.list QG (ZZ (pv 1))))
  (ZN (Zi 3 nd (Zc DO hr (ZZ (XX (E:=E0) (pv 0) L.cS DL C Yn (ZZ (pv 2))))))
  (ZN (Wr (XX (E:=E0) (pv 0) L.cS DC C Yn (ZZ (pv 2))))
  (ZN (Zi 4 nd (XX (E:=E0) (pv 0) L.cS DT C Yn (Zl (pv 2) (pv 3))))
  (ZN (Wr (XX (E:=E0) (pv 0) L.cS DK a8 Yn (Zl (pv 4) (pv 2))))
  (ZS (Zd (pv 4))))))),?_⟩
 exists _,Z,l,iN i,Z,.inl (ZH.of hl);intro D nD;let g1:=ZW nD (.lst (iN i));let y:upd H D (.lst (iN i)) D=some (.lst (iN i)):=ZP;generalize upd H D (.lst (iN i))=H1 at g1 y⊢;let R1:=R.same g1;let⟨a0,a4⟩:=R1.sh.self;exists _,Z,S,a0,_,Z,a4,Z,_,Z,S,d,X,D,a,av,ho,M,G,Y,i,Z,R1,y,W,by lia
 intro D2 us H2 s2 e0 a3 a6;let c1:=g1.trans s2;exists D2,us,XA a i,Lb,Z,a3,a6,ZL9 hw W,O;intro H3 v s3 kv;subst eL;let g:=c1.trans s3;let r:=R.same g;let⟨u,m⟩:=r.sh.self;let k:H3 D=some (.lst (iN i)):=s3 _ _ (s2 _ _ y);exists _,Z,S,u,_,Z,m,Z,_,Z,S,D,i.map (λb:Nat=>(b:Int)),Z,by rw[<-ZPe];exact k,⟨u,_,m,Z⟩,λn hn=>?_
 ·let⟨b,j,rfl⟩:=zL.mp hn;let p:=B b j;exact⟨d,X,a.length,G,Y,_,_,_,_,_,_,⟨r.sh,r.val b p.1,(r.tw b p.1).tw⟩,p.2.1⟩
 let kl:=LN kv;let⟨I,e3,e2,rfl,c8,_,_⟩:=kl;let a9:=LN kv;exists _,Z,S,u,_,Z,m,Z,_,Z,_,Z,S,d,X,a.length,G,Y,.ref D,.ref I,Z,r.sh,by rw[EA R];lia
 intro H5 x J nx q V R5 W5;let U:Z4 H3 H5:=λb ys e=>V b _ (Zb e m) (Zb e r.sh.kept) e;let N:H5 D=some (.lst (iN i)):=V _ _ (Zb k m) (Zb k r.sh.kept) k;let PP:=Gv (t:=Xt a i) (x:=x) (th:=D) (tg:=I) (ab:=J) R (H':=H5) (λb o n1 n2 e=>V b o n1 n2 (g b o e)) (g.free nx) nD (g.free q) (ZY k q).symm R5 W5
  ⟨iN i,N,λz=>absurd z (by show (gd a (i.getD 0 0)).h+1≠0;lia),λ_=>rfl⟩ (a9.mono U)
 let⟨a1,a5⟩:=R5.self;let el:M.length=a.length:=R.len;let aL:∀ b,b<a.length->(M++[(⟨x,D,I,J⟩:Z9)]).getD b .d=M.getD b .d:=λb W=>Lm ∅
 let aN:(M++[(⟨x,D,I,J⟩:Z9)]).getD a.length .d=⟨x,D,I,J⟩:=by rw[<-el];exact Jp
 let en:(a++[Xt a i]).length=a.length+1:=by simp
 refine⟨_,Z,S,a1,_,Z,a5,Z,_,Z,_,Z,S,d,X,D,_,_,_,_,_,Y,i,a.length,Z,PP,N,a7,λb j=>?_,λb j=>?_,λH6 a2 e1 R6=>⟨_,Z,?_⟩⟩
 ·let p:=B b j;let nb:b≠a.length:=∅
  exists by lia,?_
  ·rw[show UI a.length ho b=ho b from aM nb];exact p.2.1
  ·rw[show V4 a.length av b=av b from aM nb];lia
 ·rw[en] at j;rcases yP b a.length with c | c
  ·rw[aL b c];exact(ZY (R.tw b c).tw.above nD).symm
  ·have:b=a.length:=∅
   rw[this,aN];exact ZY k q
 ·refine q3 H6 ⟨x,D,I,J⟩ (g.free nx) nD (g.free q) (λc o n1 n2 n3 e=>?_) R6;refine a2 c o (λb j=>?_) (V c o n1 n2 (g c o e));rw[en] at j;rcases yP b a.length with z | z
  ·rw[aL b z];exact n3 b z
  ·have:b=a.length:=∅
   rw[this,aN];exact⟨ZY e (g.free nx),ZY e (g.free q)⟩
def ZKk(a:jv):(YA (Uo a)).kt=LC (a.map (·.1)):=by
 let b:(a.map (·.1)).length=a.length:=zX _;let c:(a.map (·.1)).getD 0 (.int 0)=(a.getD 0 rd).1:=by
  rw[zU,zU,zE];cases a[0]? <;> rfl
 let d:(a.map (·.1)).getD (a.length-1) (.int 0)=(a.getD (a.length-1) rd).1:=by
  rw[zU,zU,zE];cases a[a.length-1]? <;> rfl
 unfold LC YA Uo YV.kt;rw[b,c,d];rfl
inductive XI(jh ji:aj)(q:jf)(H:Hp)(Q:VK)(_:XK):Prop
 |mk(S d j l:aj)(n:Nat)(c:List (Zh×V))(k p:jf)(g:jv)(_:q=[.ref S,.ref l])(_:XU jh H S d j n c k)(_:c.length<=900)(_:H l=some (.lst p))(_:jY H (Z7 g) p)(_:WY g)(_:∀(a:Hp)(x h m i:aj),H x=none->H h=none->H i=none->i≠h->(∀ b o,b≠S->b≠d->H b=some o->a b=some o)->XU jh a S d j (n+1) (Xj c (.inl (n:Int)) (.ref x)) k->Wc ji a x (.ref h) (.ref m) i 1 []->(∃ e,a h=some (.lst e)/\jY a (Z7 g) e)->Yu a (YA (Uo g)) (.ref m)->Q (.int (n:Nat)) a)
def ZGV(F:Zg K "put_leaf" "Shelf.put_leaf" Iq f fd)(L:Yw K mg jh ji)(W:ZA P w K mg ki 9 "checked_rows" zE5 WL)(X:ZA P w K mg ki 1 "label_of_rows" zE5 Xd)(Y:ZG P w K mg ki ZQ 3 jh "put_twig" zEy (Y0 jh ji)):
  ZI P w K mg ki ZQ 10 f fd zEz (XI jh ji):=by
 refine F.ko Wl λa0 A N s H vs Q E B h=>?_;let⟨S,d,lk,l,n,J,ls,us,O,rfl,R,q,hl,hk,G,k⟩:=h;let nd:=Wl.nd;let C:=B.mono (show 1<=9 by lia)
 let D:=B.mono (show 3<=9 by lia)
 intro Xc;refine⟨_,ZN (Zi 2 nd (Zc W B (ZZ (pv 1))))
  (ZS (Zd (XX (E:=E0) (pv 0) L.cS Y D Yn (Zl (pv 2) (Zc X C (ZZ (pv 2))))))),?_⟩
 exists _,Z,l,us,O,Z,hl,hk,G;intro H1 t g U M p j;let R1:=R.same U;let⟨dx,hS⟩:=R1.self;let lu:g.length=O.length:=by have:=j.length;rw[<-this];exact zX _
 exists _,Z,S,dx,_,Z,hS,Z,_,Z,_,Z,t,g,O.map (·.1),Z,p,ZJ9 j,by rw[lu];exact G.2.1
 intro H2 v T kv;rw[<-ZKk] at kv;let I:=LN kv;let⟨V,a4,a3,rfl,a2,_,_⟩:=I;let I:=LN kv;let c:=U.trans T;let R2:=R.same c;exists S,d,lk,n,J,ls,.ref t,.ref V,Z,R2,q;intro u x ab nx r y R3 W3;let⟨a1,m⟩:=R2.self;let i:Z4 H2 u:=λb ys e=>y b _ (Zb e m) (Zb e R2.kept) e;let a:=T _ _ p;let z:u t=some (.lst g):=y _ _ (Zb a m) (Zb a R2.kept) a;exact k u x t V ab (c.free nx) M (c.free r) (ZY a r).symm (λb o n1 n2 e=>y b o n1 n2 (c b o e)) R3 W3 ⟨g,z,j.mono (λb xs e=>i b xs (T _ _ e)) _ _⟩ (I.mono i)
def ZIA(D:ZG P w K mg ki ZQ 10 jh "put_leaf" zEz (XI jh ji)):ZG P w K mg ki ZQ 10 jh "put_leaf" zEz (YX jh ji):=by
 let⟨g,gd,M,s,b⟩:=D.ex;refine⟨g,gd,M,s.imp λY H Q E h=>?_,b⟩;let⟨S,d,I,l,O,V,X,U,o,J,T,r,e,R,c,F,C,G,k⟩:=h;exists S,d,I,l,O.length,o,J,T,r,e,R.sh,by rw[EA R];exact c,F,C,G
 intro u x N L y nx j i a q v W n m;let⟨p,A,B⟩:=n;exact k u ⟨x,N,L,y⟩ nx j i q (Gv (t:=Uo r) R q nx j i a v W ⟨p,A,λ_=>B,λz=>absurd Z z⟩ m)
structure YH where
 S:aj
 d:aj
 ts:jr
 av:Nat->jq
 ho:Nat->Nat
 as:jy
 kvs:List (Zh×V)
structure Z3(jh ji:aj)(H:Hp)(X:YH)(lk:aj)(c:Nat)(ls:jf):Prop where
 sh:XU jh H X.S X.d lk c X.kvs ls
 keys:X.kvs.map (·.1)=(yU X.ts.length).map (λi:Nat=>(Sum.inl (i:Int):Zh))
 val:∀ i:Nat,i<X.ts.length->Y9 X.kvs (Sum.inl (i:Int))=some (.ref (X.as.getD i .d).x)
 tw:∀ i:Nat,i<X.ts.length->Ph ji H X.ts X.av X.ho i (X.as.getD i .d)
 own:∀ i:Nat,i<X.ts.length->(X.as.getD i .d).x≠X.S/\(X.as.getD i .d).ab≠lk/\(X.as.getD i .d).th≠lk
 le:X.ts.length<=c
def C6{H f:Hp}{p:aj}(w:ZK H p)(h:∀ o,H p=zA o->f p=zA o):ZK f p:=by
 let⟨a,b,c,d,e,r⟩:=w.ex;exact⟨a,b,c,d,h _ e,r⟩
section
variable{jh ji:aj}{H H':Hp}{X:YH}{lk lk':aj}{c c':Nat}{ls ls':jf}
def Yc.q{S d:aj}{e:jr}{g:Nat->jq}{h:Nat->Nat}{f:jy}{a:List (Zh×V)}(R:Yc jh ji H S d lk e g h f a ls):Z3 jh ji H ⟨S,d,e,g,h,f,a⟩ lk e.length ls:=
 ⟨R.sh,R.keys,R.val,R.tw,λi b=>⟨(R.own i b).1,(R.own i b).2.1,(R.own i b).2.2.1⟩,zY _⟩
def Z3.frame(R:Z3 jh ji H X lk c ls)(r:XU jh H' X.S X.d lk' c' X.kvs ls')(f:∀ b o,b≠X.S->b≠X.d->b≠lk->H b=some o->H' b=some o)(j:∀ i:Nat,i<X.ts.length->(X.as.getD i .d).ab≠lk'/\(X.as.getD i .d).th≠lk')(q:X.ts.length<=c'):Z3 jh ji H' X lk' c' ls':=by
 let⟨⟨s,h⟩,g,m⟩:=R.sh;refine⟨r,R.keys,R.val,λi a=>?_,λi a=>⟨(R.own i a).1,j i a⟩,q⟩;let W:=R.tw i a;let⟨t,n⟩:=W.tw.self;let⟨u,k,_⟩:=W.things;let l:=W.tw.above;let o:=R.own i a;exact W.frame (λb v e=>f b _ (Zb e h) (Zb e g) (Zb e m) e)
  (λp e=>f _ _ o.1 (Zb n g) (Zb n m) e)
  (λp e=>f _ _ (Zb k h) (Zb k g) o.2.2 e)
  (λp e=>f _ _ (Zb l h) (Zb l g) o.2.1 e)
def Z3.same(R:Z3 jh ji H X lk c ls)(s:ZD H H'):Z3 jh ji H' X lk c ls:=R.frame (R.sh.same s) (λb o _ _ _ e=>s b o e) (λi a=>(R.own i a).2) R.le
def Ld(X:YH)(lk b:aj):Prop:=b=X.S\/b=X.d\/b=lk
def Z3.but(R:Z3 jh ji H X lk c ls){p:aj}(s:ZE p H H')(f:¬ Ld X lk p)(a:∀ i:Nat,i<X.ts.length->(X.as.getD i .d).x≠p/\(X.as.getD i .d).ab≠p/\(X.as.getD i .d).th≠p)(t:Z4 H H'):Z3 jh ji H' X lk c ls:=by
 let⟨⟨g,h⟩,j,k⟩:=R.sh;refine⟨⟨⟨g,s _ _ h λz=>f (.inl z.symm)⟩,s _ _ j λz=>f (.inr (.inl z.symm)),s _ _ k λz=>f (.inr (.inr z.symm))⟩,R.keys,R.val,λi b=>?_,R.own,R.le⟩;exact(R.tw i b).frame t (λo e=>s _ _ e (a i b).1) (λo e=>s _ _ e (a i b).2.2) (λo e=>s _ _ e (a i b).2.1)
def Z3.rd(R:Z3 jh ji H X lk c ls){i:Nat}(a:i<X.ts.length):Q4 jh ji H X.S X.d lk c X.kvs ls (i:Int) (X.as.getD i .d).x (.ref (X.as.getD i .d).th) (.ref (X.as.getD i .d).tg) (X.as.getD i .d).ab (X.ho i) (iN (X.av i)):=⟨R.sh,R.val i a,(R.tw i a).tw⟩
def Z3.klen(R:Z3 jh ji H X lk c ls):X.kvs.length=X.ts.length:=by
 have:=congrArg wV R.keys;simpa using this
end
def AX(t:ZM):(if ((t.h:Nat):Int) > 0 then ("stem" : Str) else "leaf")=kindOf t:=by
 unfold kindOf;by_cases h:t.h=0
 ·rw[aO h,aM ∅]
 ·rw[aM h,aO ∅]
inductive X3(jh ji:aj)(k:jf)(H:Hp)(Q:VK)(_:XK):Prop
 |mk(X:YH)(d:aj)(c:Nat)(e:jf)(i:Nat)(_:k=[.ref X.S,.int (i:Int)])(_:Z3 jh ji H X d c e)(_:i<X.ts.length)(_:e.length<=390000)(_:∀(a:Hp)(j l:aj)(g:jf),(∀ b o,b≠d->H b=some o->a b=some o)->Z3 jh ji a X d c (e++[.int (i:Int)])->a j=some (.tup [.str (kindOf (gd X.ts i)),.ref l])->H l=none->a l=some (.lst g)->((gd X.ts i).h=0->jY a (Z7 (gd X.ts i).rows) g)->((gd X.ts i).h≠0->g=iN (gd X.ts i).bs)->Q (.ref j) a)
def ZNW(D:ZG P w K mg ki ZQ 2 jh "look" zEa (UM jh ji)):ZG P w K mg ki ZQ 2 jh "look" zEa (X3 jh ji):=by
 let⟨g,r,M,F,b⟩:=D.ex;refine⟨g,r,M,F.imp λvs H Q E h=>?_,b⟩;let⟨X,V,c,Y,i,e,R,s,U,k⟩:=h;let W:=R.tw i s;let⟨C,O,u1,u2⟩:=W.things;let⟨a,a1,a0,I,N,k1,k2⟩:=W.tag;cases I;let o:=R.own i s;exists X.S,X.d,V,c,X.kvs,Y,i,_,_,_,_,_,_,C,_,_,e,R.rd s,O,N,Ne.symm o.2.2,Ne.symm o.2.1,U;intro y T t p v x u q;let l:=R.sh.looks;let m:Z4 H y:=λb xs e=>p b _ (Zb e l) e;let⟨⟨G,A⟩,B,_⟩:=R.sh;let J:(if (YA (gd X.ts i)).h > 0 then ("stem" : Str) else "leaf")=kindOf (gd X.ts i):=AX _
 rw[J] at q;exact k y t T C p (R.frame ⟨⟨G,p _ _ (Zb A l) A⟩,p _ _ (Zb B l) B,v⟩ (λb o _ _ n e=>p b o n e) (λj L=>(R.own j L).2) R.le) q x u (λz=>(u1 z).mono m _ _) u2
inductive YW(jh ji:aj)(e:jf)(H:Hp)(Q:VK)(_:XK):Prop
 |mk(X:YH)(a:aj)(c:Nat)(b:jf)(i:Nat)(_:e=[.ref X.S,.int (i:Int)])(_:Z3 jh ji H X a c b)(_:i<X.ts.length)(_:Q (.ref (X.as.getD i .d).tg) H)
def ZLs(D:ZG P w K mg ki ZQ 2 jh "label" zEa (Xn jh ji λo _ _=>o)):ZG P w K mg ki ZQ 2 jh "label" zEa (YW jh ji):=by
 let⟨g,a,M,j,b⟩:=D.ex;refine⟨g,a,M,j.imp λp H Q E h=>?_,b⟩;let⟨X,m,c,n,i,e,R,l,k⟩:=h;exact⟨X.S,X.d,m,c,X.kvs,n,i,_,_,_,_,_,_,e,R.rd l,k⟩
end Tw
namespace L2
open PySem PySem.Spec PyProof.Rows
section
variable{σ:St}{H:Hp}{ix:jq}{te:TE}{Q:VK}
def My{J:It}{n:Nat}{w:TT}(f:Nat->V->Prop)(c:Nat->Bool)(d:aj->Nat->jf->Hp->Prop)(M:n<aq)(s:∀ D i a H,i<n->d D i a H->J.go i H)(F:∀ D i a H x k,i<n->d D i a H->J.yld i H x k->k=H/\f i x)(g:∀ D a H,d D n a H->J.stop n H)(B:∀ D,H D=none->d D 0 [] (upd H D (.lst [])))(j:∀ D i a H x,H D=some (.lst a)->i<n->f i x->d D i a H->∀ R:Bool->Hp->Prop,(∀ h,h D=some (.lst a)->d D i a h->R (c i) h)->w (NU σ ix x) H R)(q:∀ D i a H x,H D=some (.lst a)->i<n->f i x->c i=true->d D i a H->∀ R:VK,(∀ y l,l D=some (.lst a)->d D (i+1) (a++[y]) (upd l D (.lst (a++[y])))->R y l)->te (NU σ ix x) H R)(G:∀ D i a H,H D=some (.lst a)->i<n->c i=false->d D i a H->d D (i+1) a H)(r:∀ D a H,H D=some (.lst a)->d D n a H->Q (.ref D) H):UQ J σ ix w te H Q:=by
 intro D C;exists λi m H=>m=n-i/\i<=n/\∃ a,H D=some (.lst a)/\a.length<=i/\d D i a H,⟨n,rfl,zN _,[],ZP,zY _,B D C⟩;rintro i m H ⟨rfl,L,a,e,E,p⟩;by_cases b:i<n
 ·refine .inr ⟨s D i a H b p,λx k y=>?_⟩;let⟨rfl,u⟩:=F D i a H x k b p y;refine j D i a _ x e b u p _ λh o v=>?_
  cases t:c i with
  | true=>
   rw[aO rfl];refine q D i a h x o b u t v _ λy l A I=>?_;exact⟨a,n-(i+1),A,∅,∅,Z,b,a++[y],ZP,by rw[zT,vR];lia,I⟩
  | false=>
   rw[aM zW];exact⟨n-(i+1),∅,Z,b,a,o,Nat.le_succ_of_le E,G D i a h o b t v⟩
 ·let z:i=n:=∅
  subst z;exact .inl ⟨g D a H p,r D a H e p⟩
end
end L2
namespace Tw
open PySem PySem.Spec L2 PyProof.Rows
variable{jh ji CS CT CH CK CP CB:aj}
def Iv(c:jp):Prop:=c.Pairwise λa b=>b.lt a=false
def E8{d:jp}(h:Iv d){i j:Nat}{a b:KT}(l:i<=j)(e:d[i]? = some a)(g:d[j]? = some b):b.lt a=false:=by
 let⟨k,rfl⟩:=zC.mp e;let⟨m,rfl⟩:=zC.mp g;rcases yP i j with c | c
 ·exact sW.mp h i j k m c
 ·have:i=j:=∅
  subst this;exact Q0 _
def YD(a:jp)(t:KT):Nat:=(a.filter λx=>x.lt t).length
def Ad{ts:jp}{t:KT}{m:Nat}(o:m<=ts.length)(l:∀ i a,i<m->ts[i]? = some a->a.lt t=true)(n:∀ i a,m<=i->ts[i]? = some a->a.lt t=false):YD ts t=m:=by
 unfold YD;let e:ts=ts.take m++ts.drop m:=(xQ m ts).symm;rw[e,wP,zT];let h:(ts.take m).filter (λx=>x.lt t)=ts.take m:=uK.mpr λa c=>by
  let⟨i,d⟩:=vA c;let b:i<m:=by
   have:=(zC.mp d).1;rw[yF] at this
   lia
  rw[List.getElem?_take,aO b] at d;exact l i a b d
 let k:(ts.drop m).filter (λx=>x.lt t)=[]:=uZ.mpr λa c=>by
  let⟨j,g⟩:=vA c;rw[rZ] at g;rw[n (m+j) a (wD _ _) g];exact zW
 rw[h,k,yF];simp
 lia
inductive VT(K:zZ)(d:jf)(H:Hp)(Q:VK)(_:XK):Prop
 |mk(l:aj)(b:jf)(a:jp)(v:V)(t:KT)(_:d=[.ref l,v])(_:ZH K H l b)(_:jY H a b)(_:∀ t∈a,t.fits 3=true)(_:b.length<=100)(_:Iv a)(_:ZB H t v)(_:t.fits 3=true)(_:∀ c,ZD H c->Q (.int (YD a t:Nat)) c)
abbrev ZPB:jt:=["keys","key","low","high","middle"]
def Uc:ZC ZPB zFj (Za Ic):=Zm
def AL(F:Zg K "place_in" "place_in" Ic f fd)(T:YE mg)(DA:ZA P w K mg ki 7 "ahead" zEx Yk):ZI P w K mg ki ZQ 8 f fd zFj (VT K):=by
 refine F.ko Uc λa0 A J s H vs Q E hr h=>?_;let⟨l,n,p,v,t,rfl,X,W,hf,R,S,hv,ht,q⟩:=h;let C:=Uc.nd;let Y:=W.length;intro Xc;refine⟨_,ZN (Zi 2 C ZJ)
  (ZN (Zi 3 C (Zw XE rfl T.len Y6 (ZZ (pv 0))))
  (ZN (Qx PassesOwn.never (XB OQ (pv 2) (pv 3) (YK _))
   (ZN (Zi 4 C (Zu Lf (Zu Wf (pv 2) (pv 3)) ZJ))
   (ZS (Zz (Y7 (Zc DA hr (Zl (Zt K (pv 0) (pv 4)) (pv 1))))
    (ZS (Zi 2 C (Zu Wf (pv 4) ZJ))) (ZS (Zi 3 C (pv 4)))))))
  (ZS (Zd (pv 2))))),?_⟩
 exists _,Z,l,n,Z,.inl X;refine⟨λm σ D=>∃(g e:Nat)(x:jg),σ=[some (.ref l),some v,some (.int (g:Int)),some (.int (e:Int)),x]/\ZD H D/\g<=e/\e<=p.length/\m=e-g/\(∀ i a,i<g->p[i]? = some a->a.lt t=true)/\(∀ i a,e<=i->p[i]? = some a->a.lt t=false),
  ⟨_,0,n.length,none,Z,ZD.refl H,zN _,∅,Z,λi a e=>absurd e ∅,λi a e u=>?_⟩,?_⟩
 ·have:=(zC.mp u).1
  lia
 rintro m σ H1 ⟨g,e,x,rfl,r,h1,h2,rfl,N,O⟩;exists _,Z,_,Z,_,_,Z,Z,_,Z;refine Xz (λc=>?_) (λc=>?_)
 ·let a2:(g:Int)<(e:Int):=of_decide_eq_true c;exists λM D=>∃ m',m'<e-g/\∃(k d:Nat)(x:jg),M=[some (.ref l),some v,some (.int (k:Int)),some (.int (d:Int)),x]/\ZD H D/\k<=d/\d<=p.length/\m'=d-k/\(∀ i a,i<k->p[i]? = some a->a.lt t=true)/\(∀ i a,d<=i->p[i]? = some a->a.lt t=false),λ_ _ h=>h;exists _,Z,_,Z,_,_,Z,Z,_,_,Z,Z,⟨∅,by decide⟩
  obtain⟨b,em,j,y⟩:∃ b:Nat,((g:Int)+(e:Int)) / 2=(b:Int)/\g<=b/\b<e:=⟨((g+e) / 2:Nat),∅,∅,∅⟩
  show Qq 4 (V.int (((g:Int)+(e:Int)) / 2)) _ _ _;rw[em];let G:b<n.length:=∅
  let B:n[b]? = some n[b]:=by simp[G]
  let⟨L,o,I⟩:=W.get B;refine⟨_,Z,_,Z,.inl ⟨l,n,_,n[b],Z,Z,r.seq X,YO B,_,Z,n[b],v,L,t,Z,I.sm r,hv.sm r,hf L (zM o),ht,λH2 s2=>⟨_,Z,?_⟩⟩⟩
  cases U:L.lt t with
  | true=>
   refine Zs ⟨_,Z,_,_,Z,Z,e-(b+1),uL (xG j y) (Nat.lt_succ_of_le j),b+1,e,_,Z,r.trans s2,∅,h2,Z,λi a d u=>?_,O⟩
   exact Ks (E8 S (show i<=b by lia) u o) U
  | false=>
   refine Zf ⟨_,Z,b-g,Nat.sub_lt_sub_right j y,g,b,_,Z,r.trans s2,j,∅,Z,N,λi a d u=>?_⟩
   exact le_trans' U (E8 S d o u)
 ·let a1:¬ (g:Int)<(e:Int):=λz=>c (aK z);exists _,Z;rw[<-Ad (ts:=p) (t:=t) (m:=g) ∅ N λi a d=>O i a ∅]
  exact q H1 r
def YY(a:jr)(k:KT)(i:Nat):Nat:=if (gd a i).h=0 then YD ((gd a i).rows.map (·.1)) k else ((gd a i).bs.filter λb=>!k.lt (YA (gd a b)).lo).length-1
def Vy(a:jr)(k:KT)(i:Nat):Nat:=(gd a i).bs.getD (YY a k i) 0
def Xy(a:jr)(k:KT):Nat->Nat->jN
 | 0,i=>[(i,YY a k i)]
 | n+1,i=>(i,YY a k i)::Xy a k n (Vy a k i)
def Np(a:jr)(k:KT):∀ n i,(Xy a k n i).length=n+1
 | 0,_=>rfl
 | n+1,i=>by rw[Xy,yV,Np]
def Lw{d:jp}{a:jr}(f:WF d a){i:Nat}(e:i<a.length)(c:(gd a i).h≠0)(k:KT):YY a k i<(gd a i).bs.length:=by
 have:=(f i _ (Yl e)).stem c;unfold YY;rw[aM c];let l:=tH (λb=>!k.lt (YA (gd a b)).lo) (gd a i).bs
 lia
def P2{f:jp}{a:jr}(d:WF f a){i:Nat}(c:i<a.length)(b:(gd a i).h≠0)(k:KT):Vy a k i<i/\(gd a (Vy a k i)).h+1=(gd a i).h/\(gd a i).bs[YY a k i]? = some (Vy a k i):=by
 let g:=Lw d c b k;let j:=(d i _ (Yl c)).stem b;let e:(gd a i).bs[YY a k i]? = some (Vy a k i):=by
  unfold Vy;rw[zU,zV g];rfl
 have:=j.2.2.1 _ (zM e);exact⟨this.1,this.2,e⟩
inductive YM(N:aj->Prop)(H:Hp)(t:ZM)(u:V):Prop
 |mk(b l a:_)(_:u=.ref b)(_:H b=some (.tup [.str (kindOf t),.ref l]))(_:H l=some (.lst a))(_:¬ N l)(_:t.h=0->jY H (Z7 t.rows) a)(_:t.h≠0->a=iN t.bs)
def YM.off{N:aj->Prop}{H a:Hp}{t:ZM}{u:V}(h:YM N H t u)(c:∀ b o,¬ N b->H b=some o->a b=some o)(m:Z4 H a):YM N a t u:=by
 let⟨j,l,k,e,d,f,n,g,i⟩:=h;exact⟨j,l,k,e,m _ _ d,c _ _ n f,n,λz=>(g z).mono m _ _,i⟩
def YM.same{N:aj->Prop}{H a:Hp}{t:ZM}{u:V}(h:YM N H t u)(s:ZD H a):YM N a t u:=h.off (λb o _ e=>s b o e) (ZD.tups s)
def Dc{t:ZM}(h:t.h=0):kindOf t = "leaf" :=aO h
def Gi{t:ZM}(h:t.h≠0):kindOf t = "stem" :=aM h
def Fc(t:ZM):decide (V.str (kindOf t)=V.str "leaf")=decide (t.h=0):=by
 by_cases h:t.h=0
 ·rw[Dc h,aK rfl,aK h]
 ·rw[Gi h,aJ h];decide +kernel
def ZOr{d:jp}{c:jr}(f:WF d c){i:Nat}(e:i<c.length):Iv ((gd c i).rows.map (·.1)):=(f i _ (Yl e)).up.imp fun{a b} q=>Ox _ _ q
inductive YZ(a:jf)(H:Hp)(Q:VK)(_:XK):Prop
 |mk(N:aj->Prop)(t:ZM)(u:V)(_:a=[u])(_:YM N H t u)(_:Q (.bl (decide (t.h=0))) H)
def ZLz:ZC zFf zFf (Za JR):=Zm
def ZI2(F:Zg K "is_leaf" "is_leaf" JR f fd):ZI P w K mg ki ZQ 1 f fd zFf YZ:=by
 refine F.ko ZLz λb A a s H m Q E g h=>?_;let⟨i,t,u,rfl,⟨d,l,j,rfl,c,_⟩,k⟩:=h;intro e;exists _,ZS (Zd (Vl Vb (XM K (pv 0) ZJ) VP (YK _)));exists _,Z,d,_,_,.str (kindOf t),Z,Z,Zj.of c,Z,Z;rw[Fc];exact k
inductive XJ(a:jf)(H:Hp)(Q:VK)(_:XK):Prop
 |mk(N:aj->Prop)(t:ZM)(u:V)(n:Nat)(_:a=[u,.int (n:Int)])(_:YM N H t u)(_:t.h=0->Q .non H)(_:t.h≠0->∃ b,t.bs[n]? = some b/\Q (.int (b:Nat)) H)
def Dt:ZC zFe zFe (Za Jv):=Zm
def C7(F:Zg K "branch_at" "branch_at" Jv f fd)(d:ZA P w K mg ki 1 "is_leaf" zFf YZ):ZI P w K mg ki ZQ 2 f fd zFe XJ:=by
 refine F.ko Dt λe A a s H D Q E o h=>?_;let⟨v,t,u,n,rfl,c,p,r⟩:=h;intro y;exists _,ZN (Zz (Y7 (Zc d o (ZZ (pv 0)))) (ZS (Zd IU)) Z1) (ZS (Zd (Zt K (XM K (pv 0) ZJ) (pv 1))));exists _,Z,v,t,u,Z,c,_,Z;let⟨x,l,C,rfl,j,k,B,z,m⟩:=c;by_cases h:t.h=0
 ·rw[aK h];exact Zs (p h)
 ·rw[aJ h];let⟨b,g,q⟩:=r h;let i:=m h;subst i;refine Zf ⟨_,Z,x,_,_,.ref l,Z,Z,Zj.of j,Z,_,Z,.inl ⟨l,_,_,.int (b:Nat),Z,Z,ZH.of k,YO (by unfold iN;rw[zE,g];rfl),q⟩⟩
inductive WE(b:jp)(jh ji:aj)(g:jf)(H:Hp)(Q:VK)(_:XK):Prop
 |mk(X:YH)(d:aj)(c:Nat)(e:jf)(i:Nat)(u v:V)(k:KT)(N:aj->Prop)(_:g=[.ref X.S,u,v])(_:Z3 jh ji H X d c e)(_:WF b X.ts)(_:i<X.ts.length)(_:YM N H (gd X.ts i) u)(_:ZB H k v)(_:k.fits 3=true)(_:∀ a,ZD H a->Q (.int (YY X.ts k i:Nat)) a)
def Vn:ZC ["shelf","found","key","begun"] zFa (Za Kq):=Zm
def N9{a:Type}(p:a->Bool){l:List a}{i:Nat}{b:a}(e:l[i]? = some b):(l.take (i+1)).filter p=(l.take i).filter p++(if p b=true then [b] else []):=by
 rw[yN,e,Option.toList_some,wP]
 congr 1
 rw[List.filter_cons];cases p b <;> rfl
def Bd{gt:jp}(F:Zg K "place_within" "place_within" Kq f fd)(T:YE mg)(L:Yw K mg jh ji)(DL:ZA P w K mg ki 1 "is_leaf" zFf YZ)(DP:ZA P w K mg ki 8 "place_in" zFj (VT K))(DA:ZA P w K mg ki 7 "ahead" zEx Yk)(DB:ZG P w K mg ki ZQ 2 jh "label" zEa (YW jh ji)):
  ZI P w K mg ki ZQ 9 f fd zFa (WE gt jh ji):=by
 refine F.ko Vn λc0 A a9 s H vs Q E hr h=>?_;let⟨X,lk,c,ls,i,u,v,k,N,rfl,R,hw,hi,hf,hv,fk,q⟩:=h;let nd:=Vn.nd;let a4:=hr.to 1;let a5:=hr.to 2;let a6:=hr.to 7;let⟨t1,m1⟩:=T.least;intro Xc;refine⟨_,ZN (Zz (Y7 (Zc DL a4 (ZZ (pv 1)))) (ZS (Zd (Zc DP hr (Zl (VJ [] [] rfl (WX (XM K (pv 1) ZJ)) (λ_ _ _ _ _=>Vf) (λ_ _ _ _ _=>XM K (pv 0) ZJ) trivial) (pv 2))))) Z1)
  (ZN (HP (i:=3) [2,0] ["key","shelf"] nd rfl rfl rfl (WX (XM K (pv 1) ZJ)) (λ_ _ _ _ _=>OX (Vv (Y7 (Zc DA a6 (Zl (pv 1) (XM K (XX (E:=E0) (pv 2) L.cS DB a5 Yn (ZZ (pv 0))) (VD (v:=.int 1) rfl m1 ⟨_,rfl⟩))))))) (λ_ _ _ _ _=>pv 0) ⟨rfl,.inl rfl,rfl,rfl,.inl rfl,rfl,trivial⟩)
  (ZS (Zd (Zw (Mb rfl) rfl T.max M0 (Zl (Zu V3 (Zw XE rfl T.len Y6 (ZZ (pv 3))) ZJ) ZJ))))),?_⟩
 exists _,Z,N,gd X.ts i,u,Z,hf,_,Z;let⟨tp,l,p,rfl,h1,I,n1,h3,h4⟩:=hf;let ok:=hw i _ (Yl hi);by_cases h:(gd X.ts i).h=0
 ·rw[aK h];let kr:=h3 h;let lr:p.length=(gd X.ts i).rows.length:=by have:=kr.length;rw[<-this];exact zX _
  let l4:=(ok.leaf h).2;refine Zs ⟨_,Z,tp,_,_,.ref l,Z,Z,Zj.of h1,Z,l,Z,⟨p,ZH.of I⟩,Vm (n:=p.length) (λi z=>p[i]? = some z) (λD j g m=>ZD H m/\H D=none/\jY H (((gd X.ts i).rows.map (·.1)).take j) g) (Y2 ∅)
   (λD j g m G d=>⟨p,p[j],ZH.of (d.1 _ _ I),by simp[G]⟩) (λD j g m z W G d hy=>⟨hy.1,hy.2 p (ZH.of (d.1 _ _ I))⟩) (λD g m d=>⟨p,ZH.of (d.1 _ _ I),zY _⟩)
   (λD Y=>⟨ZW Y _,Y,.nil⟩) (λD j g m z C c1 G V d RR a1=>?_) (λD g m C d=>?_)⟩
  ·let⟨o,y,x⟩:=d;let⟨a,vk,vv,er,rfl,ea,k1,k2⟩:=row_at kr V;refine⟨_,Z,a,_,_,vk,Z,Z,Zj.of (o _ _ ea),Z,a1 _ m C ⟨UR o y,y,?_⟩⟩;rw[yN,zE,er];exact x.append (.cons k1 .nil)
  ·let⟨o,y,x⟩:=d;rw[yX (by rw[zX];lia)] at x
   let a7:=x.length;rw[zX] at a7;refine⟨_,Z,D,g,_,v,k,Z,ZH.of C,x.sm o,λt ht=>?_,∅,ZOr hw hi,hv.sm o,fk,λW s4=>?_⟩
   ·let⟨r,a3,rfl⟩:=zL.mp ht;exact(ok.inn r a3).1
   ·let e:YY X.ts k i=YD ((gd X.ts i).rows.map (·.1)) k:=aO h;rw[<-e];exact q W (o.trans s4)
 ·rw[aJ h];let eu:=h4 h;let ob:=ok.stem h;let lu:p.length=(gd X.ts i).bs.length:=by rw[eu];exact zX _
  refine Zf ⟨_,Z,tp,_,_,.ref l,Z,Z,Zj.of h1,Z,l,Z,⟨p,ZH.of I⟩,My (n:=p.length) (λi z=>p[i]? = some z) (λj=>!k.lt (YA (gd X.ts ((gd X.ts i).bs.getD j 0))).lo) (λD j g m=>ZD H m/\H D=none/\g.length=(((gd X.ts i).bs.take j).filter λb=>!k.lt (YA (gd X.ts b)).lo).length) (Y2 ∅)
   (λD j g m G d=>⟨p,p[j],ZH.of (d.1 _ _ I),by simp[G]⟩) (λD j g m z W G d hy=>⟨hy.1,hy.2 p (ZH.of (d.1 _ _ I))⟩) (λD g m d=>⟨p,ZH.of (d.1 _ _ I),zY _⟩)
   (λD Y=>⟨ZW Y _,Y,Z⟩) (λD j g m z C G V d B hB=>?_) (λD j g m z C G V hk d B hB=>?_) (λD j g m C G hk d=>?_) (λD g m C d=>?_)⟩
  ·let⟨o,y,J⟩:=d;rw[eu] at V;let⟨b,M,rfl⟩:=Oj V;let O:(gd X.ts i).bs.getD j 0=b:=by rw[zU,M];rfl
   let hb:=ob.2.2.1 b (zM M);let U:b<X.ts.length:=∅
   let R3:=R.same o;let⟨dx,hS⟩:=R3.sh.self;let⟨a,a0,c2,ea,ht,k1,k2⟩:=(R3.tw b U).tag;cases ea;let a8:=hw b _ (Yl U);refine⟨_,Z,_,Z,X.S,dx,_,Z,hS,Z,_,Z,X,lk,c,ls,b,Z,R3,U,_,_,_,a0,Z,Z,Zj.of ht,Z,v,a0,k,(YA (gd X.ts b)).lo,Z,hv.sm o,k1,fk,(GX a8).1,λW s4=>⟨_,Z,?_⟩⟩;have:=hB W (s4 _ _ C) ⟨o.trans s4,y,J⟩;rw[O] at this;exact this
  ·let⟨o,y,J⟩:=d;rw[eu] at V;let⟨b,M,rfl⟩:=Oj V;let O:(gd X.ts i).bs.getD j 0=b:=by rw[zU,M];rfl
   rw[O] at hk;refine⟨_,Z,hB _ m C ⟨UR o y,y,?_⟩⟩;rw[N9 _ M,aO hk,zT,zT,J];rfl
  ·let⟨o,y,J⟩:=d;let a2:j<(gd X.ts i).bs.length:=∅
   let M:(gd X.ts i).bs[j]? = some ((gd X.ts i).bs.getD j 0):=by rw[zU,zV a2];rfl
   exists o,y;rw[N9 _ M,aM (by rw[hk];exact zW),yR]
   exact J
  ·let⟨o,y,J⟩:=d;rw[yX ∅] at J
   exists _,Z,D,g,Z,.inl (ZH.of C),_,_,Z,Z,_,_,Z;let e:YY X.ts k i=g.length-1:=by rw[J];exact aM h
   let e2:(if (0:Int) > ((g.length:Nat):Int)-1 then (0:Int) else ((g.length:Nat):Int)-1)=((YY X.ts k i:Nat):Int):=by
    rw[e];split <;> lia
   have:=q m o;rw[<-e2] at this;exact this
end Tw
namespace L2
open PySem PySem.Spec PyProof.Rows
section
variable{M:Model}
end
section
variable{kh:ju}{σ:St}{H:Hp}{E E1:XK}
end
section
variable{M:Model}{B:aE}{env:Env}{outer l:jB}{L e:aj}{cls:ai}{od:jz}{Q:Unit->ak->Prop}
end
section
variable{kh:ju}{σ:St}{H:Hp}{E E1:XK}
end
section
variable{E:XK}
end
def Mw(K:zZ)(a:aj)(c:TS)(D:YJ)(d:St):XK:=λcls e b=>∃ C,cls=.ref C/\yB K C (.ref a)=some true/\c D d b
inductive OH(K:zZ)(e C:aj)(m:Str)(i:Sp)(t:TA)(j:TS)(D:YJ)(b:L2.St)(x:V)(c:Hp):Prop
 |mk(a h d:_)(_:x=.ref a)(_:c a=some (.ins C h d))(_:d.lookup m=none)(_:t b c λk f=>i (x::(k++[])) f (λ_ g=>D.nx b g) (Mw K e j D b))
def ZQH(K:zZ)(b C:aj)(m:Str)(d:Sp)(e:TE)(t:TA)(f:TS):TS:=λD a H=>e a H λx c=>OH K b C m d t f D a x c
def ZF9{X:Cx}{k:Nat}{f C CB:aj}{fd:am}{ps:jt}{sp:Sp}{m y:Str}{jk jj epos py ph pos:Pos}{o e:Expr}{es:jC}{ta:TE}{t:TA}{b₀:aD}{suite:jI}{ts:TS}{pl:Sem Bool}(he:∀ S,PE (X.wish S) o ta)(c:V1 X.K C)(hm:U0 X.K C m f)(F:ZI X.prog X.w X.K X.mg X.base (Vi X.prog X.w) k f fd ps sp)(hr:ZT k X.A)(hb:Zo X.K fd ps [])(ha:∀ S,PA (X.wish S) (e::es) t)(hst:X.stack=X.env::X.outer)(hfm:X.env.frame=some X.env.locals)(hy:Gl X y)(hyC:X.mg y=some (.ref CB))(ht:wZ X.K (.ref CB)=some (.type "type"))(hB:yB X.K CB (.type "BaseException")=some true)(hs:∀ E S,X7 (X.held E S) (b₀::suite) ts)(hdy:(y==("__debug__" : Str))=false:=by decide)(hse:ar (e::es) X.env=(false,aH e X.env)::ar es X.env:=by rfl)(hpl:(aG jj (ar es X.env)).any (·.1)=false:=by rfl)(hev:aH (.Call (.Attribute o m jk) (e::es) [] jj) X.env=(do
   let ov<-aH o X.env
   standAt jk.atName
   let (f,first)<-holding [ov] (getMethod ov m pl)
   callWith jj f first (aG jj (ar (e::es) X.env)) (backToKw jj (keywordEach [] X.env))):=by rfl)(hsw:swapsWith (.Call (.Attribute o m jk) (e::es) [] jj) none epos.line X.env=pure false:=by rfl):
  PS X (.Try [.Expr (.Call (.Attribute o m jk) (e::es) [] jj) epos] [.ExceptHandler (some (.Name y py)) none (b₀::suite) ph] [] [] pos) (ZQH X.K CB C m sp ta t ts):=by
 intro b s R H D I h;refine wpAny_Try_except ?_;let a6:X.A.frames=some (X.env::X.outer):=by rw[I.ok.frames,hst]
 let O:∀(T:Hp)(s1:ak)(i:ai)(g:ak),ZF X b R T s1->Vi X.prog X.w X.stack T s1 (Mw X.K CB ts D R) i g ->
   aC (aB X.prog X.w) X.A (noteFrame i X.env) (λ_ j=>aC (aB X.prog X.w) X.A (setFlight i none) (λ_ n=>aC (aB X.prog X.w) X.A (handleBy i X.env [.ExceptHandler (some (.Name y py)) none (b₀::suite) ph]) (SP X b D) X.xe n) X.xe j) X.xe g:=by
  intro T s1 i g p hx;let⟨E,cls,od,H',rfl,W,C,rfl,mC,q⟩:=hx;let⟨B,Y,inT,a1,a0⟩:=W.ex;let a4:UC B (X.env::X.outer) E (.ref C) od .none g.heap:=by rw[<-hst];exact Y
  refine Ev a6 hfm a4 λh4 N a2=>?_;refine N8 (s:={ g with heap:=h4 }) N λh5 M a3=>?_;let J5:ZF X b R H' { g with heap:=h5 }:=MW p W inT a1 a0 M.1 (a2.trans a3);refine wpAny_handleBy_cons (codeAny_handlers_test ?_) (by intro q;cases q)
  refine Pr (J5.held E (λ_ _=>False)) hy hyC ?_ hdy;refine GM (s:={ g with heap:=h5 }) J5.kIn M.at.is ht hB mC ?_;refine codeAny_handlers_suite ?_;refine N8 (s:={ g with heap:=h5 }) M λh6 a5 a7=>?_;let J6:ZF X b R H' { g with heap:=h6 }:=MW p W inT a1 a0 a5.1 ((a2.trans a3).trans a7);refine ae (hs E _ b _ _ _ _ (J6.held E _) q) (λY s8 h8=>?_) λ_ _ z=>z
  cases Y with
  | next=>
   let⟨d,G,L,P⟩:=h8;exact⟨d,G,L.unheld p.ok,P⟩
  | brk=>
   let⟨d,G,L,P⟩:=h8;exact⟨d,G,L.unheld p.ok,P⟩
  | cont=>
   let⟨d,G,L,P⟩:=h8;exact⟨d,G,L.unheld p.ok,P⟩
  | ret u=>
   let⟨v8,d,G,L,r8,P⟩:=h8;exact⟨v8,d,G,L.unheld p.ok,r8,P⟩
 let I':=I.wish (λi g=>aC (aB X.prog X.w) X.A (noteFrame i X.env) (λ_ j=>aC (aB X.prog X.w) X.A (setFlight i none) (λ_ n=>aC (aB X.prog X.w) X.A (handleBy i X.env [.ExceptHandler (some (.Name y py)) none (b₀::suite) ph]) (SP X b D) X.xe n) X.xe j) X.xe g);refine wpAny_execs_cons (wpAny_Expr_any ?_ I.quiet hsw);refine rH (pl:=pl) (Zy (he _ b s R H _ I' h) λu s1 ⟨x,T,p,rx,a,dx,fs,ex,E,l,q⟩=>?_) hev;subst ex;obtain rfl:u=Value.ref a:=rx;refine Kw p.unwish E c hm l ?_;refine vB (first:=[.ref a]) (h₀:=X.base) I.ok.mod.kin hm.kp (Z2 (ha _ jj b s1 R T _ p q) λQ s2 vs H2 U r q2=>⟨U.kIn,?_⟩) hse hpl
 let r2:ZO (V.ref a::(vs++[])) (Value.ref a::(Q++[])):=.cons Z (r.append .nil);let hl:(Value.ref a::Q++[]).length=ps.length:=by rw[show Value.ref a::Q++[]=Value.ref a::(Q++[]) from rfl,<-r2.length];exact F.len _ _ _ _ q2
 refine wpAny_call (codeAny_mono (F.run X.A X.stack s2 H2 ⟨.ref a::Q,[]⟩ (.ref a::Q++[]) (.ref a::(vs++[])) _ _ hr U.unwish.env0 (hb s2 (.ref a::Q) U.kIn hl) r2 q2) λrr g hq=>?_)
 cases rr with
 | error i=>exact O H2 s2 i g U.unwish hq
 | ok Y=>
  cases Y with
  | ret u=>
   let⟨v,H3,J,rv,q3⟩:=U.unwish.after hq;exact wpAny_execs_nil (wpAny_execs_nil ⟨R,H3,J,q3⟩)
  | next=>exact False.elim hq
  | brk=>exact False.elim hq
  | cont=>exact False.elim hq
end L2
namespace Tw
open PySem PySem.Spec L2 PyProof.Rows
variable{jh ji CS CT CH CK CP CB:aj}
def Xv:jG->V
 | none=>.non
 | some x=>.int x
def Xs:jw->jG
 | none=>none
 | some i=>some (i:Int)
def ET(a:jr)(k:KT):jw->jN
 | none=>[]
 | some i=>Xy a k (gd a i).h i
inductive Yi(N:aj->Prop)(H:Hp)(b:jr)(p:Nat×Nat)(u:V):Prop
 |mk(t a:_)(_:u=.ref t)(_:H t=some (.tup [.int (p.1:Int),.int (p.2:Int),a]))(_:YM N H (gd b p.1) a)
def Yi.off{N:aj->Prop}{H a:Hp}{c:jr}{p:Nat×Nat}{u:V}(h:Yi N H c p u)(d:∀ b o,¬ N b->H b=some o->a b=some o)(m:Z4 H a):Yi N a c p u:=by
 let⟨t,f,e,g,i⟩:=h;exact⟨t,f,e,m _ _ g,YM.off i d m⟩
inductive Ux(ts:jr)(i:Nat):Nat->Prop
 | self:Ux ts i i
 | step {j b:Nat}:Ux ts i j->b∈(gd ts j).bs->Ux ts i b
inductive Xm(ts:jr)(i m:Nat)(ls:jf):jf->Prop
 |mk(ws:jq):ws.length<=m->(∀ x∈ws,Ux ts i x)->Xm ts i m ls (ls++iN ws)
def Xm.zero{b:jr}{i m:Nat}{a:jf}:Xm b i m a a:=by
 have:=Xm.mk (ts:=b) (i:=i) (m:=m) (ls:=a) [] (zN _) (λx c=>by cases c)
 rw[show iN []=[] from rfl,yR] at this;exact this
def Xm.trans{c:jr}{i m j:Nat}{f d e:jf}(h:Xm c i m f d)(g:Xm c i j d e):Xm c i (m+j) f e:=by
 cases h with | mk ws a b=>
 cases g with | mk ws' a' b'=>
 rw[xH,show iN ws++iN ws'=iN (ws++ws') from zH.symm];refine .mk _ (by rw[zT];lia) λx k=>(zB.mp k).elim (b x) (b' x)
def Xm.one{a:jr}{i j m:Nat}{c b:jf}(h:Xm a i m c b)(g:Ux a i j):Xm a i (m+1) c (b++[.int (j:Int)]):=
 h.trans (.mk [j] (zY _) λx d=>zK.mp d ▸ g)
def Xm.mono{f:jr}{i m e:Nat}{d c:jf}(h:Xm f i m d c)(g:m<=e):Xm f i e d c:=by
 cases h with | mk ws a b=>exact .mk ws (zS a g) b
def Xm.len{e:jr}{i m:Nat}{d c:jf}(h:Xm e i m d c):c.length<=d.length+m:=by
 cases h with | mk ws a b=>
 rw[zT,show (iN ws).length=ws.length from zX _]
 lia
def Kv{e:jp}{a:jr}(d:WF e a)(k:KT){r:Nat}:∀ n i,i<a.length->(gd a i).h=n->Ux a r i->∀ p∈Xy a k n i,Ux a r p.1/\p.1<a.length
 | 0,i,c,h,g,p,b=>by rw[Xy] at b;rw[zK.mp b];exact⟨g,c⟩
 | n+1,i,c,h,g,p,b=>by
  rw[Xy] at b;let⟨j,l,f⟩:=P2 d c ∅ k
  rcases yT.mp b with z | z
  ·rw[z];exact⟨g,c⟩
  ·exact Kv d k n _ ∅ ∅ (.step g (zM f)) p z
structure Yo(gt:jp)(jh ji:aj)(H:Hp)(X:YH)(lk:aj)(c:Nat)(ls:jf)(i:Nat):Prop where
 sh:Z3 jh ji H X lk c ls
 wf:WF gt X.ts
 low:∀ i,i<X.ts.length->(gd X.ts i).h<=300
 few:ls.length<=9000
 hi:i<X.ts.length
def Yo.next{g:jp}{jh ji:aj}{H e:Hp}{X:YH}{d:aj}{c:Nat}{h b:jf}{i:Nat}(a:Yo g jh ji H X d c h i)(R:Z3 jh ji e X d c b)(l:b.length<=9000):Yo g jh ji e X d c b i:=⟨R,a.wf,a.low,l,a.hi⟩
def Yo.same{d:jp}{jh ji:aj}{H b:Hp}{X:YH}{e:aj}{c:Nat}{g:jf}{i:Nat}(a:Yo d jh ji H X e c g i)(s:ZD H b):Yo d jh ji b X e c g i:=a.next (a.sh.same s) a.few
def Yo.tups{j:jp}{jh ji:aj}{H d:Hp}{X:YH}{g:aj}{c:Nat}{k:jf}{i:Nat}(a:Yo j jh ji H X g c k i)(h:∀ b o,b≠g->H b=some o->d b=some o):Z4 H d:=λb l e=>h b _ (Zb e a.sh.sh.looks) e
inductive YI(jh ji:aj)(e:jf)(H:Hp)(Q:VK)(E:XK):Prop
 |mk(X:YH)(b:aj)(c:Nat)(d:jf)(i:Nat)(v:V)(k:KT)(_:e=[.ref X.S,.int (i:Int),v])(_:Z3 jh ji H X b c d)(_:i<X.ts.length)(_:ZB H k v)(_:k.fits 3=true)(_:∀ a,ZD H a->Q .non a)
def ZFZ:ZC zEb zEb (Za KD):=Zm
def ZEm(F:Zg K "check_asked" "check_asked" KD f fd)(L:Yw K mg jh ji)(g:ZG P w K mg ki ZQ 2 jh "label" zEa (YW jh ji))(e:ZA P w K mg ki 7 "checked" zE2 Vo):ZI P w K mg ki ZQ 8 f fd zEb (YI jh ji):=by
 refine F.ko ZFZ λj A b s H u Q E d h=>?_;let⟨X,p,c,r,i,v,k,rfl,R,o,kv,m,q⟩:=h;let a:=d.to 2;intro t;refine⟨_,ZN (Zz (Xb (OP (pv 1))) (ZS (Wr (XX (E:=E0) (pv 0) L.cS g a Yn (ZZ (pv 1))))) Z1)
  (ZS (Wr (Zc e d (ZZ (pv 2))))),?_⟩
 let⟨l,n⟩:=R.sh.self;exact⟨_,Z,_,Z,Zs ⟨_,Z,X.S,l,_,Z,n,Z,_,Z,X,p,c,r,i,Z,R,o,_,Z,v,k,Z,kv,m,q⟩⟩
def Qw(p:jN):jf:=p.map λs=>V.int (s.1:Int)
inductive X4(j:jp)(jh ji:aj)(l:jf)(H:Hp)(Q:VK)(E:XK):Prop
 |mk(X:YH)(d:aj)(c:Nat)(e:jf)(i:Nat)(v:V)(k:KT)(_:l=[.ref X.S,.int (i:Int),v])(_:Yo j jh ji H X d c e i)(_:ZB H k v)(_:k.fits 3=true)
 (_:∀(a:Hp)(D:aj)(g:jf),(∀ b o,b≠d->H b=some o->a b=some o)->Z3 jh ji a X d c (e++Qw (Xy X.ts k (gd X.ts i).h i))->H D=none->a D=some (.lst g)->Paired (Yi (λb=>b=d\/b=D) a X.ts) (Xy X.ts k (gd X.ts i).h i) g->Q (.ref D) a)
abbrev Bw:jt:=["shelf","root","key","steps","number","found","at"]
def Ud:ZC Bw zEb (Za Lq):=Zm
def QT(b:jr)(a:jw):Nat:=match a with | none=>0 | some j=>(gd b j).h+1
inductive GO(jh ji:aj)(H:Hp)(X:YH)(lk:aj)(c:Nat)(ls:jf)(i:Nat)(v:V)(k:KT)(D:aj):Nat->L2.St->Hp->Prop
 |mk{cur:jw}{pre:jN}{us:jf}{x5 x6:jg}{H':Hp}:(∀ j,cur=some j->j<X.ts.length)->Xy X.ts k (gd X.ts i).h i=pre++ET X.ts k cur->(∀ b o,b≠lk->H b=some o->H' b=some o)->Z3 jh ji H' X lk c (ls++Qw pre)->H' D=some (.lst us)->Paired (Yi (λb=>b=lk\/b=D) H' X.ts) pre us ->
  GO jh ji H X lk c ls i v k D (QT X.ts cur) [some (.ref X.S),some (.int (i:Int)),some v,some (.ref D),some (Xv (Xs cur)),x5,x6] H'
def ZLn{gt:jp}(F:Zg K "steps_to" "steps_to" Lq f fd)(L:Yw K mg jh ji)(DC:ZA P w K mg ki 8 "check_asked" zEb (YI jh ji))(DL:ZG P w K mg ki ZQ 2 jh "look" zEa (X3 jh ji))(DP:ZA P w K mg ki 9 "place_within" zFa (WE gt jh ji))(DB:ZA P w K mg ki 2 "branch_at" zFe XJ):
  ZI P w K mg ki ZQ 10 f fd zEb (X4 gt jh ji):=by
 refine F.ko Ud λc9 A c7 s H vs Q E hr h=>?_;let⟨X,r,c,ls,i,v,k,rfl,u,kv,fk,q⟩:=h;let nd:=Ud.nd;let a3:=hr.to 2;let c2:=hr.to 8;intro Xc;refine⟨_,ZN (Wr (Zc DC c2 (WQ (pv 0) (pv 1) (pv 2))))
  (ZN (Zi 3 nd (Yb Zk))
  (ZN (Zi 4 nd (pv 1))
  (ZN (Qx PassesOwn.never (Xb (OP (pv 4)))
   (ZN (Zi 5 nd (XX (E:=E0) (pv 0) L.cS DL a3 Yn (ZZ (pv 4))))
   (ZN (Zi 6 nd (Zc DP hr (WQ (pv 0) (pv 5) (pv 2))))
   (ZN (Wr (Qj xO wN wM Qy (pv 3) (ZZ (Xl (WQ (pv 4) (pv 6) (pv 5))))))
   (ZS (Zi 4 nd (Zc DB a3 (Zl (pv 5) (pv 6)))))))))
  (ZS (Zd (pv 3)))))),?_⟩
 exists _,Z,_,Z,_,Z,X,r,c,ls,i,v,k,Z,u.sh,u.hi,kv,fk;intro H1 s1;let R1:=u.sh.same s1;exists YF;intro D R;let gD:=ZW R (.lst []);let eD:=ZP (H:=H1) (a:=D) (o:=.lst []);let a6:H D=none:=s1.free R;let T:D≠r:=(ZY R1.sh.looks R).symm;let R2:=R1.same gD;let s2:=s1.trans gD;generalize upd H1 D (.lst [])=H2 at gD eD R2 s2⊢;exists _,Z;let hw:=u.wf;exists GO jh ji H X r c ls i v k D,⟨_,.mk (cur:=some i) (λj z=>by cases z;exact u.hi) Z (λb o _ e=>s2 b o e) (by rw[show Qw []=[] from rfl,yR];exact R2) eD .nil⟩
 rintro _ _ U (@⟨a7,g,G,x5,x6,_,a1,p,fr,R3,N,O⟩)
 cases a7 with
 | none=>
  refine⟨_,Z,_,Z,Zf ?_⟩;let e':Xy X.ts k (gd X.ts i).h i=g:=by rw[p];exact yR _
  exact⟨_,Z,q U D G fr (by rw[e'];exact R3) a6 N (by rw[e'];exact O)⟩
 | some j=>
  let hj:=a1 j Z;let e3:=u.low j hj;let c8:g.length+((gd X.ts j).h+1)<=301:=by
   let e:=congrArg wV p;rw[zT] at e;let e1:(ET X.ts k (some j)).length=(gd X.ts j).h+1:=Np _ _ _ _;let e2:=Np X.ts k (gd X.ts i).h i;have:=u.low i u.hi
   lia
  let e0:=u.few;let lw:(Qw g).length=g.length:=zX _;let e4:=Paired.length O;refine⟨_,Z,_,Z,Zs ⟨_,λ_ _ z=>z,?_⟩⟩;let⟨dx,hS⟩:=R3.sh.self;exists _,Z,X.S,dx,_,Z,hS,Z,_,Z,X,r,c,_,j,Z,R3,hj,by rw[zT];lia
  intro H4 y l ws C R4 a4 nl hl w1 w2;let J:=R3.sh.looks;let a5:Z4 U H4:=λb xs e=>C b _ (Zb e J) e;let c4:l≠r:=(ZY J nl).symm;let lD:l≠D:=λz=>by rw[z,N] at nl;cases nl
  let lN:¬ (l=r\/l=D):=λz=>z.elim c4 lD;let c1:YM (λb=>b=r\/b=D) H4 (gd X.ts j) (.ref y):=⟨y,l,ws,Z,a4,hl,lN,w1,w2⟩;let c5:Z4 H U:=λb xs e=>fr b _ (Zb e u.sh.sh.looks) e;let c3:=(kv.mono c5 _ _).mono a5 _ _;exists _,Z,_,Z,_,Z,X,r,c,_,j,.ref y,v,k,_,Z,R4,hw,hj,c1,c3,fk;intro H5 s5;let Y:=s5 _ _ (C _ _ T N);exists _,Z,.inl ⟨Z,_,ZH.of Y⟩,_,Z,_,Z,_,Z,YF;intro t nt;let g6:=ZW nt (.tup [Xv (Xs (some j)),.int ((YY X.ts k j:Nat):Int),.ref y]);let et:=ZP (H:=H5) (a:=t) (o:=.tup [Xv (Xs (some j)),.int ((YY X.ts k j:Nat):Int),.ref y]);let m:=s5.trans g6;generalize upd H5 t (.tup [Xv (Xs (some j)),.int ((YY X.ts k j:Nat):Int),.ref y])=I at g6 et m⊢;let B:=g6 _ _ Y;exists D,G,.ref t,Z,Z,B,nn ∅
  let sD:ZE D I (upd I D (.lst (G++[.ref t]))):=(ZE.refl D I).upd;let tD:=sD.tups B;let R6:=R4.same m;let ND:¬ Ld X r D:=by
   let⟨⟨dS,a9⟩,c0,_⟩:=R6.sh;rintro(z | z | z)
   ·exact Zb B a9 (by intro z;cases z) z
   ·exact Zb B c0 (by intro z;cases z) z
   ·exact T z
  let oD:∀ i:Nat,i<X.ts.length->(X.as.getD i .d).x≠D/\(X.as.getD i .d).ab≠D/\(X.as.getD i .d).th≠D:=λi hi=>by
   let W:=R1.tw i hi;let⟨dy,hy⟩:=W.tw.self;let⟨e5,e1,_⟩:=W.things;exact⟨ZY hy R,ZY W.tw.above R,ZY e1 R⟩
  let R7:=R6.but sD ND oD tD;let a8:∀ b o,b≠r->U b=some o->b≠D->upd I D (.lst (G++[.ref t])) b=some o:=λb o n e nb=>by rw[ZU nb];exact m _ _ (C b o n e)
  let c6:Z4 U (upd I D (.lst (G++[.ref t]))):=λb xs e=>tD b xs (m _ _ (a5 b xs e));let a2:YM (λb=>b=r\/b=D) (upd I D (.lst (G++[.ref t]))) (gd X.ts j) (.ref y):=by
   exact⟨y,l,ws,Z,tD _ _ (m _ _ a4),by rw[ZU lD];exact m _ _ hl,lN,λz=>((w1 z).sm m).mono tD _ _,w2⟩
  let M:Paired (Yi (λb=>b=r\/b=D) (upd I D (.lst (G++[.ref t]))) X.ts) (g++[(j,YY X.ts k j)]) (G++[.ref t]):=by
   refine NO (a:=(j,YY X.ts k j)) ⟨t,.ref y,Z,tD _ _ et,a2⟩ (Paired.mapP O λ_ _ z=>Yi.off z (λb o n e=>a8 b o (λz=>n (.inl z)) e λz=>n (.inr z)) c6)
  let ew:ls++Qw g++[V.int (j:Int)]=ls++Qw (g++[(j,YY X.ts k j)]):=by unfold Qw;simp
  rw[ew] at R7;let a0:∀ b o,b≠r->H b=some o->upd I D (.lst (G++[.ref t])) b=some o:=λb o n e=>by rw[ZU (ZY e a6)];exact m _ _ (C b o n (fr b o n e))
  refine⟨_,Z,_,Z,_,gd X.ts j,.ref y,YY X.ts k j,Z,a2,λh0=>?_,λh0=>?_⟩
  ·refine⟨_,Nat.succ_pos _,.mk (cur:=none) (λi z=>by cases z) ?_ a0 R7 ZP M⟩
   rw[p];show g++Xy X.ts k (gd X.ts j).h j=_;rw[h0];exact(yR _).symm
  ·let⟨n1,n2,n3⟩:=P2 hw hj h0 k;refine⟨Vy X.ts k j,n3,_,Nat.succ_lt_succ ∅,.mk (cur:=some (Vy X.ts k j)) (λi z=>by cases z;lia) ?_ a0 R7 ZP M⟩
   rw[p];show g++Xy X.ts k (gd X.ts j).h j=_;rw[<-n2,xH];rfl
def O1(z:KT×V×V)(a:List (KT×V×V))(t:KT):XG (z::a) t=if z.1.eqb t=true then some z.2.2 else XG a t:=by
 unfold XG;rw[wH];cases h:z.1.eqb t <;> simp
def Ga{t:KT}{v:V}:∀(a:List (KT×V×V)),(a.any λx=>x.1.eqb t)=true->XG (a.map (Qp t v)) t=some v
 | [],h=>by simp at h
 | z::a,h=>by
  rw[zF,O1,(NT t v z).1]
  cases q:z.1.eqb t with
  | true=>
   rw[aO rfl];unfold Qp;rw[aO q]
  | false=>
   rw[aM zW];rw[tX,q,Bool.false_or] at h;exact Ga a h
def ZPr{a b:KT}(h:a.eqb b=false):b.eqb a=false:=by
 cases q:b.eqb a with
 | false=>rfl
 | true=>
  have:=Vg _ _ q;rw[this,Uh] at h;cases h
def G7{t a:KT}{v:V}(c:t.eqb a=false):∀(b:List (KT×V×V)),XG (b.map (Qp t v)) a=XG b a
 | []=>rfl
 | z::b=>by
  rw[zF,O1,O1,(NT t v z).1,G7 c b]
  cases q:z.1.eqb a with
  | false=>rfl
  | true=>
   let e:=Vg _ _ q;rw[aO rfl,aO rfl];unfold Qp;rw[e,ZPr c,aM zW]
def ZLL(a:List (KT×V×V))(z:KT×V×V)(t:KT):XG (a++[z]) t=match XG a t with | some v=>some v | none=>if z.1.eqb t=true then some z.2.2 else none:=by
 induction a with
 | nil=>rw[vE,O1];rfl
 | cons y a b=>
  rw[tR,O1,O1,b];cases y.1.eqb t <;> simp
def CY{a:List (KT×V×V)}{t:KT}(h:(a.any λx=>x.1.eqb t)=false):XG a t=none:=Jd λz=>by
 rw[XT.mpr z] at h;cases h
def Ol(b:List (KT×V×V))(t:KT)(y v:V)(a:KT):XG (VH b t y v) a=if t.eqb a=true then some v else XG b a:=by
 unfold VH
 cases c:b.any λx=>x.1.eqb t with
 | true=>
  rw[aO rfl]
  cases q:t.eqb a with
  | true=>
   let e:=Vg _ _ q;subst e;rw[aO rfl,Ga b c]
  | false=>rw[aM zW,G7 q b]
 | false=>
  rw[aM zW,ZLL]
  cases q:t.eqb a with
  | true=>
   let e:=Vg _ _ q;subst e;rw[CY c]
  | false=>cases XG b a <;> rfl
def ZK6{X:Cx}{w:ax}{o i:Expr}{pos:Pos}{a b:TE}(g:X.A.units+5<cLine)(d:PE X o a)(c:PE X i b)(e:LF i)(h:X.w=w:=by rfl):PE X (.Subscript o i pos) (J4 w a b):=by
 subst h;exact Ov g d c e
def E5:∀{a b:jp},Yf a->Yf b->(∀ k,k∈a ↔ k∈b)->a=b
 | [],[],_,_,_=>rfl
 | [],y::b,_,_,h=>by simp at h;exact absurd Z (h y).1
 | x::a,[],_,_,h=>by simp at h;exact absurd Z (h x).1
 | x::a,y::b,ha,hb,h=>by
  let c:=xS.mp ha;let d:=xS.mp hb;let e:x=y:=by
   rcases yT.mp ((h x).mp (zI ..)) with e | q
   ·exact e
   rcases yT.mp ((h y).mpr (zI ..)) with e | l
   ·exact e.symm
   let j:=d.1 x q;let i:=c.1 y l;rw[Ox _ _ j] at i;cases i
  subst e;have:a=b:=E5 c.2 d.2 λk=>by
   constructor
   ·intro g;rcases yT.mp ((h k).mp (zG _ g)) with e | q
    ·have:=c.1 k g;rw[e,Q0] at this;cases this
    ·exact q
   ·intro g;rcases yT.mp ((h k).mpr (zG _ g)) with e | q
    ·have:=d.1 k g;rw[e,Q0] at this;cases this
    ·exact q
  rw[this]
def CG{c:jp}(h:Yf c):c.Nodup:=h.imp fun{a b} q e=>by rw[e,Q0] at q;cases q
structure WA(w:ax)(H:Hp)(D:aj)(rs:jv)(xs:List (KT×V×V)):Prop where
 dk:Zx w H D xs
 rows:Paired (fun(r:Zv)(x:KT×V×V)=>x.1=r.1/\ZB H r.2 x.2.2) rs xs
def WA.keys{w:ax}{H:Hp}{D:aj}{b:jv}{c:List (KT×V×V)}(h:WA w H D b c):c.map (·.1)=b.map (·.1):=by
 have:=h.rows;clear h
 induction this with
 | nil=>rfl
 | cons a t d=>rw[zF,zF,a.1,d]
def WA.but{w:ax}{H a:Hp}{D p:aj}{b:jv}{c:List (KT×V×V)}(h:WA w H D b c)(s:ZE p H a)(t:Z4 H a)(n:D≠p):WA w a D b c:=⟨h.dk.but s t n,Paired.mapP h.rows λ_ _ z=>⟨z.1,z.2.mono t _ _⟩⟩
def WA.same{w:ax}{H a:Hp}{D:aj}{b:jv}{c:List (KT×V×V)}(h:WA w H D b c)(s:ZD H a):WA w a D b c:=⟨h.dk.same s,Paired.mapP h.rows λ_ _ z=>⟨z.1,z.2.sm s⟩⟩
def KO{w:ax}{H a:Hp}{d:aj}{f:List (KT×V×V)}(c:Zx w H d f)(s:ZE d H a):Z4 H a:=λb i e=>by
 let⟨g,h,_⟩:=c.ex;exact s b _ e (Zb e h (by unfold Vk;intro z;cases z))
inductive WN(w:ax)(c:jf)(H:Hp)(Q:VK)(_:XK):Prop
 |mk(p:aj)(m:Int)(_:c=[.ref p,.int m])(_:ZK H p)(_:0<m)(_:m<=301)(_:∀(D:aj)(b:jv)(d:List (KT×V×V))(a:Hp),H D=none->WA w a D b d->(∀ r∈b,r.fit)->Yf (b.map (·.1))->((b.length:Nat):Int)<m->ZK a p->ZE p H a->Q (.ref D) a)
abbrev ZNl:jt:=["_law_well_here","_law_most","_law_keys_here","_law_model","_law_spot"]
def Vz:ZC ZNl zE0 (Za II):=Zm
inductive GrL(p:aj)(m:Int)(c D:aj)(w:ax)(d:jp)(H:Hp)(e:jf)(i:Nat)(j:L2.St)(a:Hp):Prop
 |mk(b:jv)(h:List (KT×V×V))(g:jg)(_:j=[some (.ref p),some (.int m),some (.ref c),some (.ref D),g])(_:WA w a D b h)(_:b.map (·.1)=d.take i)(_:∀ r∈b,r.fit)(_:ZK a p)(_:ZE p H a)(_:a c=some (.lst e))(_:jY a d e)
def ZJW(F:Zg K "_law_ground" "_law_ground" II f fd)(DP:ZA P w K mg ki 1 "_law_pull" zEc Zp)(DK:ZA P w K mg ki 9 "_law_keys" zEc UT)(DV:ZA P w K mg ki 7 "_law_value" zEq VC):ZI P w K mg ki ZQ 10 f fd zE0 (WN w):=by
 refine F.ko Vz λa7 A a5 s H N Q E q h=>?_;let⟨p,m,rfl,W,m0,a8,k⟩:=h;let nd:=Vz.nd;let a3:=q.to 1;let a4:=q.to 7;let Oa:=ZT.key q (n:=4) (by decide)
 intro Xc;refine⟨_,ZN (Zi 2 nd (Zc DK q (Zl (pv 0) (Zc DP a3 (Zl (pv 0) (pv 1))))))
  (ZN (Zi 3 nd Kd)
  (ZN (U8 PassesOwn.never rfl (WX (pv 2)) (Xx 4 nd)
   (ZS (Lh Oa (pv 3) (pv 4) (Zc DV a4 (ZZ (pv 0))) rfl)))
  (ZS (Zd (pv 3))))),?_⟩
 exists _,Z,_,Z,_,Z,p,m,Z,W,Xp ∅ ∅
 intro n H1 n0 n1 W1 s1;let en:n=((n.toNat:Nat):Int):=∅
 exists p,n.toNat,congrArg (λy=>[V.ref p,V.int y]) en,W1,by lia
 intro x N ts H2 nK hK kK fK rK lK W2 s2;let pK:x≠p:=U3 W1 nK;let M:=s1.trans s2;intro D H3 T a9 U a1;let W3:=W2.same U;let C:=U _ _ hK;let Dp:D≠p:=U3 W2 T;let a0:D≠x:=λz=>by rw[z,hK] at T;cases T
 let J:H D=none:=LJ M W2 T;let a6:=M.trans (ZE.of U);let lv:=kK.length;refine⟨_,Z,x,Z,⟨N,ZH.of C⟩,N1 (K:=K) (a:=x) (xs:=N) (GrL p m x D w ts H N)
  ⟨[],[],_,Z,⟨a1,.nil⟩,Z,λr q=>by simp at q,W3,a6,C,kK.sm U⟩ (λi σ H' _ hP=>by let⟨_,_,_,_,_,_,_,_,_,h,_⟩:=hP;exact ZH.of h) ?_ ?_⟩
 ·rintro i u σ H4 hu ⟨L,l,x4,rfl,dr,d,fr,O,s4,G,g⟩;let hi:i<N.length:=(zC.mp hu).1;let⟨t,R,kt⟩:=g.get hu;exists _,Z,p,Z,O;intro v vt H5 kv fv W5 X;let t5:=X.tupsW O;let c:=dr.but X t5 Dp;let lx:=Paired.length c.rows;let I:L.length=(ts.take i).length:=by rw[<-d,zX]
  rw[yF] at I;exists _,Z,_,Z,D,l,t,Z,c.dk,∅,kt.mono t5 _ _,V7 _ 3 (fK t (zM R))
  intro H6 Y B;let t6:=KO c.dk Y;let hn:t∉l.map (·.1):=by
   rw[c.keys,d];intro z;let⟨j,S⟩:=vA z;rw[List.getElem?_take] at S;split at S
   ·have:=(sE ∅ (CG rK)).mp (S.trans R.symm)
    lia
   ·cases S
  let ep:VH l t u v=l++[(t,u,v)]:=by
   unfold VH;rw[aM λz=>hn (XT.mp z)]
  rw[ep] at B;refine⟨L++[(t,vt)],l++[(t,u,v)],_,Z,⟨B,NO (a:=((t,vt):Zv)) ⟨Z,kv.mono t6 _ _⟩ (Paired.mapP c.rows λ_ _ z=>⟨z.1,z.2.mono t6 _ _⟩)⟩,?_,λr a2=>?_,W5.stay Y (Ne.symm Dp),λb o e n=>Y b o (X b o (s4 b o e n) n) (ZY e J),Y _ _ (X _ _ G pK) (Ne.symm a0),(g.mono t5 _ _).mono t6 _ _⟩
  ·rw[zH,d,yN,R];rfl
  ·rcases zB.mp a2 with z | z
   ·exact fr r z
   ·rw[zK.mp z];exact⟨fK t (zM R),fv⟩
 ·rintro σ H4 ⟨L,l,x4,rfl,dr,d,fr,O,s4,G,g⟩;rw[yX ∅] at d
  let I:L.length=ts.length:=by rw[<-d,zX]
  exact⟨_,Z,k D L l H4 J dr fr (by rw[d];exact rK) ∅ O s4⟩
inductive WS(w:ax)(d:jf)(H:Hp)(Q:VK)(_:XK):Prop
 |mk(D:aj)(a:jv)(e:List (KT×V×V))(_:d=[.ref D])(_:WA w H D a e)(_:∀ r∈a,r.fit)(_:Yf (a.map (·.1)))(_:a.length<=300)(_:∀(l:aj)(c:jf)(b:Hp),ZD H b->H l=none->b l=some (.lst c)->jY b (Z7 a) c->Q (.ref l) b)
def ZKr:ZC zFd zFd (Za Id):=Zm
def Bu(F:Zg K "_law_sorted" "_law_sorted" Id f fd)(T:YE mg)(DR:ZA P w K mg ki 6 "_law_rank" zEt (Yq 5)):ZI P w K mg ki ZQ 9 f fd zFd (WS w):=by
 refine F.ko ZKr λa4 A a2 s H vs Q E hr h=>?_;let⟨D,rs,u,rfl,C,fr,a3,a6,k⟩:=h;let a1:=ZT.key hr (n:=5) (by decide)
 let DS:ZA P w K mg ki 6 "_law_rank" zEt (Pb KT.rk):=by
  let⟨g,gd,FG,b,kp,m⟩:=DR.ex;exact⟨g,gd,FG.imp λvs H Q E h=>by
   let⟨v,t,e,a,c,d⟩:=h;have:=V7 t 3 c;exact⟨v,t,3,e,a,c,∅,d⟩,b,kp,m⟩
 intro Xc;exists _,ZS (Zd (VJ [0] zFd rfl (WX (Gy WI Na DS hr rfl T.sorted rfl (ZZ (pv 0)))) (λ_ _ _ _ _=>Vf) (λ_ _ _ _ _=>Xl (Zl (pv 0) (ZK6 (w:=w) a1 (pv 1) (pv 0) (λ_ _=>rfl)))) ⟨rfl,.inl rfl,rfl,trivial⟩));let lx:=Paired.length C.rows;let ek:=C.keys;let kf:∀ x∈u,x.1.fits 3=true:=λx hx=>by
  have:x.1∈rs.map (·.1):=by rw[<-ek];exact zL.mpr ⟨x,hx,Z⟩
  let⟨r,a0,e⟩:=zL.mp this;rw[<-e];exact(fr r a0).1
 exists _,Z,D,u,Z,C.dk,kf,by lia
 intro S B ts H1 s1 nS O ka pm pw;let N:ts=rs.map (·.1):=E5 (EJ (pm.nodup_iff.mpr C.dk.nd) pw) a3 λt=>by rw[pm.mem_iff,ek]
 subst N;let V:=C.same s1;let lw:=ka.length;rw[zX] at lw;refine⟨S,Z,⟨B,ZH.of O⟩,Vm (n:=B.length) (λi z=>B[i]? = some z) (λE i y j=>ZD H1 j/\H1 E=none/\jY j ((Z7 rs).take i) y) (Y2 ∅)
  (λE i y j hi l=>⟨B,B[i],ZH.of (l.1 _ _ O),by simp[hi]⟩) (λE i y j z H4 hi l hy=>⟨hy.1,hy.2 B (ZH.of (l.1 _ _ O))⟩) (λE y j l=>⟨B,ZH.of (l.1 _ _ O),zY _⟩)
  (λE hE=>⟨ZW hE _,hE,.nil⟩) (λE i y j z W a5 hi hz l RR Y=>?_) (λE y j W l=>?_)⟩
 ·let⟨G,R,p⟩:=l;let⟨t,N,kt⟩:=ka.get hz;rw[zE] at N;let⟨r,X,rfl⟩:=xP.mp N;let M:u[i]? = some (u[i]'∅):=zV ∅
  let I:=V.same G;let⟨r',L,e1,e2⟩:=Paired.ixR I.rows M;rw[X] at L;cases L;let hv:=GE C.dk.nd M;rw[e1] at hv;let ff:=(fr r (zM X)).1;exists _,Z,_,Z,_,Z,D,u,r.1,_,Z,I.dk,kt.sm G,V7 _ 3 ff,hv,YF;intro q nq;let g:=ZW nq (.tup [z,(u[i]'∅).2.2])
  let eq:=ZP (H:=j) (a:=q) (o:=.tup [z,(u[i]'∅).2.2])
  let J:=g _ _ W;refine Y _ _ J ⟨UR (G.trans g) R,R,?_⟩;let U:Z4 (upd j q (.tup [z,(u[i]'∅).2.2])) (upd (upd j q (.tup [z,(u[i]'∅).2.2])) E (.lst (y++[.ref q]))):=(ZE.refl E _).upd.tups J
  unfold Z7;rw[yN,zE,X];refine((p.sm g).mono U _ _).append (.cons (.tup (U _ _ eq) (.cons ?_ (.cons ?_ .nil))) .nil)
  ·exact(kt.sm (G.trans g)).mono U _ _
  ·exact(e2.sm g).mono U _ _
 ·let⟨G,R,p⟩:=l;rw[yX (by unfold Z7;rw[zX];lia)] at p
  exact k E y j (s1.trans G) (s1.free R) W p
end Tw
namespace L2
open PySem PySem.Spec PyProof.Rows
end L2
namespace Tw
open PySem PySem.Spec L2 PyProof.Rows
def Hm(a:jf)(n s:Nat)(b:n<=a.length):Ql a (some (n:Int)) (some ((n:Int)+(s:Int)))=(a.drop n).take s:=by
 unfold Ql;let e:((n:Int)+(s:Int))=((n+s:Nat):Int):=∅
 rw[e,HT.sIx_nat,HT.sIx_nat,sQ b,pU (i:=s),wR];rw[<-Nat.sub_min_sub_right,vP]
def La{z:Int}{k m:Nat}(h:z<=k):min z.toNat m<=k:=zS (Nat.min_le_left _ _) (Int.toNat_le.mpr h)
def LY{z:Int}{k m:Nat}(h:(k:Int)<=z)(g:k<=m):k<=min z.toNat m:=Nat.le_min.mpr ⟨(Int.le_toNat (wO (Int.natCast_nonneg _) h)).mpr h,g⟩
def Lo{L n:Nat}{y:Int}(h:¬(L:Int)-(n:Int)-y=1)(g:0<=y):L-(n+y.toNat)≠1:=∅
def CJ{a b c:Int}(h:c<=a)(g:c<=b):c<=if a<b then a else b:=by split <;> assumption
def Aa{a b c:Int}(g:b<=c):(if a<b then a else b)<=c:=by
 split
 ·exact wO (wL ‹_›) g
 ·exact g
def ite_le'{a b:Int}:(if a<b then a else b)<=a:=by
 split
 ·exact xR _
 ·exact uB.mp ‹_›
inductive Yj(N:aj->Prop)(H:Hp)(b:jf)(u:V):Prop
 |mk(a:_)(_:u=.ref a)(_:H a=some (.lst b))(_:¬ N a)
def Yj.go{N:aj->Prop}{H c:Hp}{f:jf}{u:V}(h:Yj N H f u)(k:∀ b o,H b=some o->¬ N b->c b=some o):Yj N c f u:=by
 let⟨a,e,g,d⟩:=h;exact⟨a,e,k _ _ g d,d⟩
def NB(H:Hp)(p D b:aj):Prop:=b=p\/b=D\/H b≠none
def O6(a:Bool)(n:Nat):Prop:=(if a=true then 2 else 1)<=n/\n<=4
structure YR(H H':Hp)(p l D:aj)(us:jf)(stem:Bool)(pl:jf)(pss:List (jf))(n:Nat):Prop where
 w:ZK H' p
 sx:ZE p H H'
 hl:H' l=some (.lst us)
 hD:H' D=some (.lst pl)
 nD:H D=none
 lp:l≠p
 lD:l≠D
 Dp:D≠p
 parts:Paired (Yj (NB H p D) H') pss pl
 flat:pss.flatten=us.take n
 size:∀ ps∈pss,O6 stem ps.length
 few:pl.length<=n
def YR.go{H f c:Hp}{p l D:aj}{h:jf}{a:Bool}{g:jf}{d:List (jf)}{n:Nat}(r:YR H f p l D h a g d n)(s:ZE p f c)(w:ZK c p):YR H c p l D h a g d n:=
 ⟨w,r.sx.trans s,s _ _ r.hl r.lp,s _ _ r.hD r.Dp,r.nD,r.lp,r.lD,r.Dp,Paired.mapP r.parts λ_ _ z=>Yj.go z λb o e n=>s b o e λz=>n (.inl z),r.flat,r.size,r.few⟩
abbrev Gp:jt:=["_law_well_here","_law_things","_law_few","_law_stem","_law_parts","_law_at","_law_size"]
def QY:ZC Gp zEj (Za No):=Zm
def DD:Option aD->jI
 | some (.While _ b _ _)=>b
 | _=>[]
def JA:List Stmt:=DD ((WT No)[2]?)
section
variable{cdv:ai}{outer:jB}{Hs:Hp}{E:XK}
def tc2(T:YE mg):∃ t,X7 (WW ZQ P w K mg ki Gp "_law_cut" (Za No) f cdv A outer s Hs E).nox (JA.drop 2) t/\∀(G:YJ)(H u:Hp)(p l D:aj)(h v:jf)(c:Bool)(J:Int)(q:List (jf))(n d:Nat),
  YR H u p l D h c v q n->n<h.length->h.length<=400->1<=d->d<=4->O6 c (min d (h.length-n)) ->
   (∀ Q x S,YR H S p l D h c Q x (n+d)->G.nx [some (.ref p),some (.ref l),some (.int J),some (.bl c),some (.ref D),some (.int ((n+d:Nat):Int)),some (.int (d:Int))] S) ->
    t G [some (.ref p),some (.ref l),some (.int J),some (.bl c),some (.ref D),some (.int (n:Int)),some (.int (d:Int))] u:=by
 let nd:=QY.nd;refine⟨_,ZN (Wr (Qj xO wN wM Qy (pv 4) (ZZ (Wn Pz rfl T.list QG (ZZ (Mo LE (pv 1) (O0 (pv 5)) (O0 (Zu Wf (pv 5) (pv 6)))))))))
  (ZS (Zi 5 nd (Zu Wf (pv 5) (pv 6)))),λG H u p l D h v c J q n d r hn a0 s1 s4 N I=>?_⟩
 exists _,Z,.inl ⟨Z,_,ZH.of r.hD⟩,_,Z,_,Z,_,Z,_,Z,_,Z,_,_,Z,Z,_,Z,l,h,Z,ZH.of r.hl;intro R n1;rw[Hm h n d ∅] at *
 let L:=ZW n1 (.lst ((h.drop n).take d));let W:=ZP (H:=u) (a:=R) (o:=.lst ((h.drop n).take d));generalize upd u R (.lst ((h.drop n).take d))=U at L W⊢;exists R,_,Z,.inl (ZH.of W);intro j n2;let Y:=ZW n2 (.lst ((h.drop n).take d));let X:=ZP (H:=U) (a:=j) (o:=.lst ((h.drop n).take d));let g:=L.trans Y;let i:u j=none:=L.free n2;generalize upd U j (.lst ((h.drop n).take d))=C at Y X g⊢;let B:=YR.go r (ZE.of g) (r.w.same g);let M:=B.hD;let a1:=r.few;exists D,v,.ref j,Z,Z,M,nn ∅
 exists _,Z,_,Z,_,_,Z,Z;let y:¬ NB H p D j:=by
  rintro(z | z | z)
  ·exact U3 r.w i z
  ·rw[z,r.hD] at i;cases i
  ·exact z (LJ r.sx r.w i)
 let sD:ZE D C (upd C D (.lst (v++[.ref j]))):=(ZE.refl D C).upd;let e:((n:Int)+(d:Int))=((n+d:Nat):Int):=∅
 let m:((h.drop n).take d).length=min d (h.length-n):=by rw[yF,wR]
 let k:=I (v++[.ref j]) (q++[(h.drop n).take d]) (upd C D (.lst (v++[.ref j]))) ⟨B.w.stay sD (Ne.symm r.Dp),λb o e n=>by rw[ZU (ZY e r.nD)];exact B.sx b o e n,by rw[ZU r.lD];exact B.hl,ZP,r.nD,r.lp,r.lD,r.Dp,NO ⟨j,Z,by rw[ZU (λz=>y (.inr (.inl z)))];exact X,y⟩ (Paired.mapP B.parts λ_ _ z=>Yj.go z λb o e n=>sD b o e λz=>n (.inr (.inl z))),by rw[List.flatten_append,r.flat,List.take_add];simp,λps O=>?_,by simp;lia⟩
 ·rw[<-e] at k;exact k
 ·rcases zB.mp O with z | z
  ·exact r.size ps z
  ·rw[zK.mp z,m];exact N
inductive Uk(i:jf)(H:Hp)(Q:VK)(_:XK):Prop
 |mk(p l:aj)(d:jf)(e:Int)(a:Bool)(_:i=[.ref p,.ref l,.int e,.bl a])(_:ZK H p)(_:H l=some (.lst d))(_:l≠p)(_:0<=e)(_:e<4)(_:d.length<=400)(_:a=true->d.length≠1)(_:∀(D:aj)(g:jf)(b:List (jf))(c:Hp),H D=none->c D=some (.lst g)->Paired (Yj (NB H p D) c) b g->b.flatten=d->(∀ h∈b,O6 a h.length)->g.length<=404->ZK c p->ZE p H c->Q (.ref D) c)
def Gd{q:aj}{a b c d i:Int}(k:0<=i)(l:i<4)(g e:Int)(n:g<=a/\a<=e)(o:g<=b/\b<=e)(p:g<=c/\c<=e)(r:g<=d/\d<=e):∃ m:Int,Y3 [V.int a,.int b,.int c,.int d] i=some (.int m)/\g<=m/\m<=e:=by
 let⟨v,h,j⟩:=Nl (xs:=[V.int a,.int b,.int c,.int d]) k l;simp only[yT,List.not_mem_nil,or_false] at j;rcases j with rfl | rfl | rfl | rfl
 ·exact⟨a,h,n⟩
 ·exact⟨b,h,o⟩
 ·exact⟨c,h,p⟩
 ·exact⟨d,h,r⟩
inductive Es(p l:aj)(e:Int)(a:Bool)(D:aj)(c:jf)(H:Hp)(m:Nat)(i:L2.St)(d:Hp):Prop
 |mk(g:jf)(b:List (jf))(n:Nat)(h:jg)(_:i=[some (.ref p),some (.ref l),some (.int e),some (.bl a),some (.ref D),some (.int (n:Int)),h])(_:m=c.length-n)(_:YR H d p l D c a g b n)(_:(a=true->c.length-n≠1))(_:n<=403)
def ZOb(F0:Zg K "_law_cut" "_law_cut" No f fd)(T:YE mg)(DP:ZA P w K mg ki 1 "_law_pull" zEc Zp):ZI P w K mg ki ZQ 2 f fd zEj Uk:=by
 refine F0.ko QY λcdv A outer s H vs Q E hr h=>?_;let⟨p,l,g,X,e,rfl,W,hl,lp,f0,f4,J,a3,k⟩:=h;let L:=QY.nd;let⟨t,ht,hk⟩:=tc2 (P:=P) (w:=w) (K:=K) (ki:=ki) (f:=f) (cdv:=cdv) (A:=A) (outer:=outer) (s:=s) (Hs:=H) (E:=E) T;intro Xc;refine⟨_,ZN (Zi 4 L (Yb Zk))
  (ZN (Zi 5 L ZJ)
  (ZN (Qx PassesOwn.never (XB OQ (pv 5) (Zw XE rfl T.len Y6 (ZZ (pv 1))) (YK _))
   (ZN (Zi 6 L (Zu Wf ZJ (Zc DP hr (Zl (pv 0) (Zt K (Yb (Qb ZJ ZJ ZJ ZJ)) (pv 2))))))
   (ZN (Zz (Y7 (pv 3))
    (ZN (Zi 6 L (Zw (GT rfl) rfl T.min FE (Zl (Zu Wf ZJ (Zc DP hr (Zl (pv 0) (Zt K (Yb (Qb ZJ ZJ ZJ ZJ)) (pv 2))))) (Zu V3 (Zw XE rfl T.len Y6 (ZZ (pv 1))) (pv 5)))))
    (ZS (Zz (XB Vb (Zu V3 (Zu V3 (Zw XE rfl T.len Y6 (ZZ (pv 1))) (pv 5)) (pv 6)) ZJ (YK _))
     (ZS (Zi 6 L (Zt K (Yb (Zl (Zu V3 (pv 6) ZJ) (Zu Wf (pv 6) ZJ))) (Wn O3 rfl T.int Qv (ZZ (Vl Vb (pv 6) ZJ (YK _))))))) Z1))) Z1) ht)))
  (ZS (Zd (pv 4))))),?_⟩
 exists YF;intro D nD;let Y:=ZW nD (.lst []);let eD:=ZP (H:=H) (a:=D) (o:=.lst []);generalize upd H D (.lst [])=H1 at Y eD⊢;let I0:YR H H1 p l D g e [] [] 0:=⟨W.same Y,ZE.of Y,Y _ _ hl,eD,nD,lp,ZY hl nD,U3 W nD,.nil,Z,λps h=>by simp at h,zY _⟩
 exists Es p l X e D g H,⟨_,[],[],0,none,Z,Z,I0,a3,zN _⟩;rintro m σ H2 ⟨pl,x,n,x6,rfl,rfl,r,v,a7⟩;exists _,Z,_,Z,l,g,Z,.inl (ZH.of r.hl),_,_,Z,Z,_,Z;rcases yP n g.length with F | F
 ·rw[aK (show (n:Int)<(g.length:Int) by lia)]
  refine Zs ⟨_,λ_ _ z=>z,?_⟩;let go:∀{U:YJ}{B:Hp}(z:Int),YR H B p l D g e pl x n->1<=z->z<=4->O6 e (min z.toNat (g.length-n))->(e=true->g.length-(n+z.toNat)≠1)->(∀ S H',(∃ m',m'<g.length-n/\Es p l X e D g H m' S H')->U.nx S H') ->
    t U [some (.ref p),some (.ref l),some (.int X),some (.bl e),some (.ref D),some (.int (n:Int)),some (.int z)] B:=fun{U B} z N z1 z4 G I a2=>by
   obtain⟨R,rfl⟩:∃ R:Nat,z=(R:Int):=⟨z.toNat,∅⟩
   rw[uW] at G I;exact hk U H B p l D g pl e X x n R N F J ∅ ∅ G λa6 M H' r'=>a2 _ _ ⟨g.length-(n+R),uL F ∅,a6,M,n+R,_,Z,Z,r',I,∅⟩
  exists _,Z,YF;intro q nq;let gq:=ZW nq (.lst [.int 4,.int 1,.int 2,.int 4]);let eq:=ZP (H:=H2) (a:=q) (o:=.lst [.int 4,.int 1,.int 2,.int 4]);let N:=YR.go r (ZE.of gq) (r.w.same gq);generalize upd H2 q (.lst [.int 4,.int 1,.int 2,.int 4])=B at gq eq N⊢;let⟨m1,a0,a9,c0⟩:=Gd (q:=q) (a:=4) (b:=1) (c:=2) (d:=4) f0 f4 1 4 (by decide) (by decide) (by decide) (by decide)
  refine⟨_,Z,.inl ⟨q,_,_,_,Z,Z,ZH.of eq,a0,p,m1,Z,N.w,Xp ∅ ∅,λz1 H4 c3 c4 W4 s4=>⟨_,_,Z,Z,?_⟩⟩⟩
  let r4:=YR.go N s4 W4;exists _,Z,_,Z
  cases e with
  | false=>
   refine Zf (go (1+z1) r4 ∅ ∅ ⟨LY (k:=1) ∅ (Nat.sub_pos_of_lt F),La (k:=4) ∅⟩ (λz=>by cases z) λ_ _ z=>z)
  | true=>
   let a8:=v Z;let r2:(2:Int)<=((g.length:Nat):Int)-(n:Int):=∅
   let R2:2<=g.length-n:=∅
   refine Zs ⟨_,Z,YF,λq2 a4=>?_⟩;let j:=ZW a4 (.lst [.int 3,.int 1,.int 3,.int 2]);let C:=ZP (H:=H4) (a:=q2) (o:=.lst [.int 3,.int 1,.int 3,.int 2]);let r5:=YR.go r4 (ZE.of j) (r4.w.same j);generalize upd H4 q2 (.lst [.int 3,.int 1,.int 3,.int 2])=H5 at j C r5⊢;let⟨m2,a1,c1,c2⟩:=Gd (q:=q2) (a:=3) (b:=1) (c:=3) (d:=2) f0 f4 1 3 (by decide) (by decide) (by decide) (by decide)
   refine⟨_,Z,.inl ⟨q2,_,_,_,Z,Z,ZH.of C,a1,p,m2,Z,r5.w,Xp ∅ ∅,λz2 H6 c5 c6 W6 s6=>⟨_,_,Z,Z,?_⟩⟩⟩
   let O:=YR.go r5 s6 W6;exists _,Z,l,g,Z,.inl (ZH.of O.hl),_,Z,_,_,Z,Z,_,_,Z;obtain⟨y,ey,y1,y2,y3⟩:∃ y:Int,(if ((g.length:Nat):Int)-(n:Int)<2+z2 then ((g.length:Nat):Int)-(n:Int) else 2+z2)=y/\2<=y/\y<=4/\y<=((g.length:Nat):Int)-(n:Int):=⟨_,Z,CJ r2 ∅,Aa ∅,ite_le'⟩
   rw[ey];exists _,Z,l,g,Z,.inl (ZH.of O.hl),_,Z,_,_,Z,Z,_,Z,_,_,Z,Z,Z,_,Z;by_cases hy:((g.length:Nat):Int)-(n:Int)-y=1
   ·rw[aK (congrArg V.int hy)];refine Zs ⟨_,Z,_,_,Z,Z,_,Z,_,_,Z,Z,YF,λq3 a5=>?_⟩;let u:=ZW a5 (.lst [.int (y-1),.int (y+1)]);let i:=ZP (H:=H6) (a:=q3) (o:=.lst [.int (y-1),.int (y+1)]);let r7:=YR.go O (ZE.of u) (O.w.same u);generalize upd H6 q3 (.lst [.int (y-1),.int (y+1)])=H7 at u i r7⊢;refine⟨_,Z,Z,.inr ⟨_,Z,?_⟩⟩;by_cases h2:y=2
    ·subst h2;refine .inl ⟨q3,_,_,.int (2+1),Z,Z,ZH.of i,Z,?_⟩;exact go (2+1) r7 ∅ ∅ ⟨LY (k:=2) (by decide) R2,La (k:=4) (by decide)⟩ (λ_=>Lo ∅ (by decide)) λ_ _ z=>z
    ·let ed:decide (V.int y=V.int 2)=false:=aJ λz=>h2 (NN z);rw[ed];refine .inl ⟨q3,_,_,.int (y-1),Z,Z,ZH.of i,Z,?_⟩;exact go (y-1) r7 ∅ ∅ ⟨LY (k:=2) ∅ R2,La (k:=4) ∅⟩ (λ_=>Lo ∅ ∅) λ_ _ z=>z
   ·rw[aJ (λz=>hy (NN z))];exact Zf (go y O ∅ ∅ ⟨LY (k:=2) y1 R2,La (k:=4) y2⟩ (λ_=>Lo hy ∅) λ_ _ z=>z)
 ·rw[aJ (show ¬ (n:Int)<(g.length:Int) by lia)]
  let fl:=r.flat;rw[yX F] at fl;have:=r.few;exact Zf ⟨_,Z,k D pl x H2 r.nD r.hD r.parts fl r.size ∅ r.w r.sx⟩
end
end Tw
namespace L2
open PySem PySem.Spec PyProof.Rows
end L2
namespace Tw
open PySem PySem.Spec L2 PyProof.Rows
variable{jh ji CS CT CH CK CP CB:aj}
inductive VE(d:zZ)(x y:V)(H:Hp)(Q:VK):Prop
 |mk(p:aj)(c:jf)(a:jp)(k:KT)(_:y=.ref p)(_:ZH d H p c)(_:jY H a c)(_:ZB H k x)(_:∀ t∈a,t.fits 3=true)(_:∀ b,Q (.bl b) H)
def ZGE{D:Nat}(C:ZT D X.A):XH X (aA .NotIn) (VE X.K):=by
 intro l s V H x y v u Q I L M h;let⟨p,m,S,k,rfl,B,E,G,z,q⟩:=h;cases M;let⟨a,r,J,P⟩:=I.list B;let U:=C.un;let w:∀ y,y∈a.toArray->∃ b,PySem.SeqAt.EqAt X.A.in1 s y v b:=λy c=>by
  let d:y∈a:=by simpa using c
  let⟨j,g⟩:=vA d;let R:=r.length;let O:=(zC.mp g).1;let i:m[j]? = some (m[j]'∅):=zV ∅
  let⟨T,e,n⟩:=r.get i;rw[g] at e;cases e;let⟨t,o,F⟩:=E.get i;let N:=V7 t 3 (z t (zM o));exact⟨_,NC t.depth t k X.A.in1 y v (zY _) (QA I _ _ _ F n) (QA I _ _ _ G L) (by show X.A.units+1+_<_;lia)⟩
 refine PySem.SeqAt.notIn_listAt (λy=>@ite _ (PySem.SeqAt.EqAt X.A.in1 s y v true) (Classical.propDecidable _) true false) J.isList (λy c=>?_) ⟨.bl _,H,I,Z,q _⟩;let⟨b,f⟩:=w y c;by_cases h:PySem.SeqAt.EqAt X.A.in1 s y v true
 ·rw[aO h];exact h
 ·rw[aM h]
  cases b with
  | true=>exact absurd f h
  | false=>exact f
inductive WB(i:jf)(H:Hp)(Q:VK)(_:XK):Prop
 |mk(p d:aj)(g:jf)(h:jp)(_:i=[.ref p,.ref d])(_:ZK H p)(_:H d=some (.lst g))(_:jY H h g)(_:∀ t∈h,t.fits 3=true)(_:d≠p)(_:g.length<=800)(_:∀(v:V)(t:KT)(a:jf)(e:jp)(c:Hp),ZB c t v->t.fits 3=true->c d=some (.lst a)->jY c e a->(∀ t∈e,t.fits 3=true)->a.length<=g.length+1->ZK c p->(∀ b o,b≠p->b≠d->H b=some o->c b=some o)->Q v c)
def Vr:ZC ["_law_well_here","_law_known_here","_law_spot"] zEu (Za K2):=Zm
def ZIa(F0:Zg K "_law_any_key" "_law_any_key" K2 f fd)(T:YE mg)(DP:ZA P w K mg ki 1 "_law_pull" zEc Zp)(DK:ZA P w K mg ki 6 "_law_key" zEg (XC 4)):ZI P w K mg ki ZQ 7 f fd zEu WB:=by
 refine F0.ko Vr λa9 A a6 s H vs Q E hr h=>?_;let⟨p,k,u,U,rfl,W,hk,kk,I,N,a8,q⟩:=h;let nd:=Vr.nd;let L:=hr.to 1;intro Xc;refine⟨_,ZN (Zz (PW.pt (O5 (XB (Mx hr.units0) (pv 1) (Yb Zk) (YK _)) (Ow (XB Pm (Zc DP L (Zl (pv 0) ZJ)) ZJ (YK _))))) (ZS (Zd (Zt K (pv 1) (Zc DP L (Zl (pv 0) (Zw XE rfl T.len Y6 (ZZ (pv 1)))))))) Z1)
  (ZN (Zi 2 nd (Zc DK hr (Zl (pv 0) ZJ)))
  (ZN (Zz (XB (ZGE hr) (pv 2) (pv 1) rfl) (ZS (Wr (Qj xO wN wM Qy (pv 1) (ZZ (pv 2))))) Z1)
  (ZS (Zd (pv 2))))),?_⟩
 exists _,Z,YF;intro e0 a5;let m:=ZW a5 (.lst []);exists k,e0,u,Z,Z,ZH.of (m _ _ hk),ZH.of ZP,_,Z;let n:=m _ _ hk;let G:=W.same m;generalize upd H e0 (.lst [])=X at m n G⊢;let B:∀{Y:Hp},ZE p X Y->ZK Y p->∀(R:V->Hp->Prop),(∀ v t a,ZB a t v->t.fits 3=true->ZK a p->ZE p X a->R v a)->XC 4 [V.ref p,V.int 3] Y R E0:=λS W1 R hR=>⟨p,3,Z,W1,by decide,λv t a kv l g d=>hR v t a kv l g (S.trans d)⟩
 let x:∀{v:V}{t:KT}{a:Hp},ZB a t v->t.fits 3=true->ZK a p->ZE p X a->Q v a:=fun{v t a} kv l g d=>q v t u U a kv l (d _ _ n N) ((kk.sm m).mono (d.tupsW G) _ _) I ∅ g λb o n1 _ e=>d b o (m b o e) n1
 let C:∀{v:V}{t:KT}{a:Hp},ZB a t v->t.fits 3=true->ZK a p->ZE p X a->a k=some (.lst u)/\jY a U u/\(Q v a)/\Q v (upd a k (.lst (u++[v]))):=fun{v t a} kv l g d=>by
  let r:=d _ _ n N;let M:=(kk.sm m).mono (d.tupsW G) _ _;let sK:ZE k a (upd a k (.lst (u++[v]))):=(ZE.refl k a).upd;let tK:=sK.tups r;refine⟨r,M,x kv l g d,q v t (u++[v]) (U++[t]) _ (kv.mono tK _ _) l ZP ((M.mono tK _ _).append (.cons (kv.mono tK _ _) .nil)) (λz hz=>?_) (by simp) (g.stay sK (Ne.symm N)) λb o n1 n2 e=>by rw[ZU n2];exact d b o (m b o e) n1⟩
  rcases zB.mp hz with y | y
  ·exact I z y
  ·rw[zK.mp y];exact l
 let a0:u.length<1000:=∅
 cases u with
 | nil=>
  refine Zf (Zf ⟨_,Z,B (ZE.refl _ _) G _ λv t a kv l g d=>?_⟩);let⟨D,a2,a3,a4⟩:=C kv l g d;refine⟨_,Z,_,Z,k,_,U,t,Z,ZH.of D,a2,kv,I,λb=>⟨_,Z,?_⟩⟩
  cases b with
  | true=>exact Zs ⟨_,Z,.inl ⟨Z,_,ZH.of D⟩,_,Z,k,_,v,Z,Z,D,nn ∅,_,Z,a4⟩
  | false=>exact Zf ⟨_,Z,a3⟩
 | cons u0 a7=>
  refine Zs ⟨_,Z,p,3,Z,G,Xp (by decide) (by decide),λz Y z0 z1 W1 S=>⟨_,_,Z,Z,_,Z,Xz (λc=>?_) (λc=>?_)⟩⟩
  ·let J:=S _ _ n N;exists _,Z,_,Z,_,Z,k,_,Z,.inl (ZH.of J),p,_,Z,W1,Xp (by simp <;> lia) (by simp at a0⊢ <;> lia)
   intro j a j0 j1 g d;let⟨v,av,mv⟩:=Nl (xs:=u0::a7) j0 j1;let r:=d _ _ J N;let⟨i,hi⟩:=vA mv;let O:=S.trans d;let⟨t,et,kt⟩:=((kk.sm m).mono (O.tupsW G) _ _).get hi;exact .inl ⟨k,_,_,v,Z,Z,ZH.of r,av,x kt (I t (zM et)) g O⟩
  ·refine⟨_,Z,B S W1 _ λv t a kv l g d=>?_⟩;let⟨D,a2,a3,a4⟩:=C kv l g d;refine⟨_,Z,_,Z,k,_,U,t,Z,ZH.of D,a2,kv,I,λb=>⟨_,Z,?_⟩⟩
   cases b with
   | true=>exact Zs ⟨_,Z,.inl ⟨Z,_,ZH.of D⟩,_,Z,k,_,v,Z,Z,D,nn ∅,_,Z,a4⟩
   | false=>exact Zf ⟨_,Z,a3⟩
def Yf.sub{l m:jp}(h:Yf m)(s:l.Sublist m):Yf l:=tY.sublist s h
def Jo(b:jr):∀ a:List (jq),Zr b a.flatten=a.flatMap λc=>Zr b c
 | []=>rfl
 | c::a=>by
  rw[vX,wX,<-Jo b a];unfold Zr;rw[vU]
def ZJz{s:jp}{c:jr}(l:WF s c){a:jq}{h:Nat}(i:∀ b∈a,b<c.length/\(gd c b).h=h)(x:2<=a.length)(y:a.length<=4)(t:Yf ((Zr c a).map (·.1))):∃ L,over (XA c a)=some L:=by
 let A:(XA c a).length=a.length:=zX _;let d:=t;unfold Yf Zr at d;rw[List.map_flatMap,pV] at d;refine⟨_,BF ∅ ∅ λj z=>?_⟩
 let m:j<a.length:=∅
 let n:j+1<a.length:=∅
 rw[Pn m,Pn n];let e:a[j]? = some (a.getD j 0):=by rw[zU,zV m];rfl
 let f:a[j+1]? = some (a.getD (j+1) 0):=by rw[zU,zV n];rfl
 let g:=i _ (zM e);let k:=i _ (zM f);let u:=Ir d.2 (wS j) e f;let⟨v,B,o,q⟩:=Ib (l _ _ (Yl g.1)).ne;let⟨C,w,p,r⟩:=PJ (l _ _ (Yl k.1)).ne;unfold Qc;rw[zO];exists ?_
 ·show (((gd c (a.getD j 0)).h:Int)==((gd c (a.getD (j+1) 0)).h:Int))=true;rw[g.2,k.2];simp
 ·rw[q,r];refine u _ ?_ _ ?_
  ·rw[o,zH];exact yL _ (zK.mpr Z)
  ·rw[p];exact zI ..
def Az{b a:jv}(e:∀ r∈b,r.fit)(f:Yf (b.map (·.1)))(c:a.Sublist b)(g:1<=a.length)(d:a.length<=4):WY a:=⟨λr h=>e r (c.subset h),∅,d,Yf.sub f (c.map _)⟩
def Aq{c:Type}{a:List (List c)}{b:List c}(h:b∈a):b.Sublist a.flatten:=qD h
def BB{c:jp}{b:jr}{a:jv}(g:WY a):Xw c b b.length (Uo a):=
 ⟨λz=>by have:=g.2.1;rw[show (Uo a).rows=a from rfl] at z;rw[z] at this;simp at this,g.2.2.2,g.1,λ_=>⟨rfl,g.2.2.1⟩,λz=>absurd rfl z⟩
def Mq(t:ZM):Prop:=t.h<=300/\t.rows.length<=300
def YQ{b:Type}(a:Bool)(l:List b):List b:=if a=true then l.reverse else l
def Ou{b:Type}(a:Bool)(l:List b):(YQ a l).length=l.length:=by cases a <;> simp[YQ]
def FK{b:Type}(a:Bool)(l:List b):YQ a (YQ a l)=l:=by cases a <;> simp[YQ]
def Nh{b c:Type}(f:b->c)(a:Bool)(l:List b):(YQ a l).map f=YQ a (l.map f):=by cases a <;> simp[YQ]
def YC{b:Type}{a:Bool}{l:List b}{x:b}:x∈YQ a l ↔ x∈l:=by cases a <;> simp[YQ]
def AB{a:Bool}{l:jq}(h:l.Nodup):(YQ a l).Nodup:=by
 cases a
 ·exact h
 ·exact(uM l).nodup_iff.mpr h
def JF{c d:Type}{F:c->d->Prop}(b:Bool){l:List c}{m:List d}(h:Paired F l m):Paired F (YQ b l) (YQ b m):=by
 cases b
 ·exact h
 ·show Paired F l.reverse m.reverse
  induction h with
  | nil=>exact .nil
  | cons a _ e=>rw[List.reverse_cons,List.reverse_cons];exact NO a e
def ZDO{a:Bool}{b:List (jq)}(h:b.flatten.Nodup):(YQ a b).flatten.Nodup:=by
 cases a
 ·exact h
 ·show b.reverse.flatten.Nodup;have:b.flatten.Perm b.reverse.flatten:=(uM b).symm.flatten;exact this.nodup_iff.mp h
def IE{a L:jr}{i:Nat}(h:i<a.length):gd (a++L) i=gd a i:=by
 unfold gd;rw[zU,xN h,<-zU]
def Bb(a L:jr):(xX a.length L.length).map (λb=>(gd (a++L) b).rows)=L.map (·.rows):=by
 refine tQ (by simp) λi e c=>?_
 let d:i<L.length:=by simpa using c
 rw[List.getElem_map,List.getElem_map,List.getElem_range'];unfold gd;rw[zU,yE ∅,show a.length+1 * i-a.length=i by lia,zV d]
 rfl
def ZNZ{a L:jr}{b:Nat}(h:b∈xX a.length L.length):gd (a++L) b∈L:=by
 rw[List.mem_range'_1] at h;unfold gd;rw[zU,yE h.1,zV (show b-a.length<L.length by lia)]
 exact xY _
def ZKZ(b L:jr)(a:Bool):Zr (b++L) (YQ a (xX b.length L.length))=((YQ a L).map (·.rows)).flatten:=by
 unfold Zr;rw[uP,Nh,Bb,Nh]
def F9{c d:Type}(f:c->d):∀(a:List (List d))(l:List c),a.flatten=l.map f->∃ b:List (List c),a=b.map (List.map f)/\b.flatten=l
 | [],l,h=>⟨[],Z,by
  have:l.map f=[]:=h.symm;rw[List.map_eq_nil_iff.mp this];rfl⟩
 | n::a,l,h=>by
  rw[vX] at h;let⟨k,m,rfl,i,j⟩:=List.map_eq_append_iff.mp h.symm;let⟨b,e,g⟩:=F9 f a m j.symm;exact⟨k::b,by rw[zF,i,<-e],by rw[vX,g]⟩
def FM{H:Hp}:∀(a:List (jf))(d:jv),jY H (Z7 d) a.flatten->∃ b:List (jv),b.flatten=d/\Paired (λq c=>jY H (Z7 q) c) b a
 | [],d,h=>⟨[],by
  have:=h.length;unfold Z7 at this;rw[zX] at this;exact(List.length_eq_zero_iff.mp this).symm,.nil⟩
 | c::a,d,h=>by
  rw[vX] at h;let e:=h.take c.length;let f:=h.drop c.length;rw[List.take_left'  rfl] at e;rw[List.drop_left' rfl] at f;unfold Z7 at e f;rw[<-sS] at e;rw[<-sU] at f;let⟨b,g,i⟩:=FM a _ f;exact⟨d.take c.length::b,by rw[vX,g,xQ],.cons e i⟩
def LP{c:Type}{n:Nat}:∀(a:List (List c)),(∀ q∈a,n<=q.length)->n * a.length<=a.flatten.length
 | [],_=>by simp
 | q::a,h=>by
  have:=LP a λx b=>h x (zG _ b);let d:=h q zI;rw[vX,zT,yV,Nat.mul_add]
  lia
section
variable{gt:jp}{jh ji:aj}{N N2:aj->Prop}{H0 H H':Hp}{S d lk:aj}{ls:jf}{jm ts ts':jr}{av av':Nat->jq}{ho ho':Nat->Nat}{jn as as':jy}{kvs kvs':List (Zh×V)}
def Yc.but(R:Yc jh ji H S d lk ts av ho as kvs ls){c:aj}{o:jf}(s:ZE c H H')(b:H c=some (.lst o))(g:c≠lk)(a:∀ i:Nat,i<ts.length->(as.getD i .d).ab≠c/\(as.getD i .d).th≠c):Yc jh ji H' S d lk ts av ho as kvs ls:=by
 let t:=s.tups b;let⟨⟨k,h⟩,j,l⟩:=R.sh;refine⟨⟨⟨k,s _ _ h (Zb h b)⟩,s _ _ j (Zb j b),s _ _ l (Ne.symm g)⟩,R.keys,R.val,R.len,λi f=>?_,R.own,R.two⟩;let⟨n,m⟩:=(R.tw i f).tw.self;exact(R.tw i f).frame t (λo e=>s _ _ e (Zb m b)) (λo e=>s _ _ e (a i f).2) (λo e=>s _ _ e (a i f).1)
def PU(av:Nat->jq)(ho:Nat->Nat)(n i:Nat):Prop:=(av i).length+ho i=1/\∀ j∈av i,i<j/\j<n
def Pu(ts:jr)(av:Nat->jq)(ho:Nat->Nat):Prop:=∀ i,i<ts.length->Mq (gd ts i)/\PU av ho ts.length i
def HY{ts:jr}{av:Nat->jq}{ho:Nat->Nat}(h:Pu ts av ho)(i:Nat)(e:i<ts.length+1):PU (V4 ts.length av) (UI ts.length ho) (ts.length+1) i:=by
 unfold PU V4 UI;by_cases z:i=ts.length
 ·rw[aO z,aO z];exact⟨Z,λj c=>by cases c⟩
 ·rw[aM z,aM z];let⟨_,a,b⟩:=h i ∅
  exact⟨a,λj c=>by have:=b j c;lia⟩
def BL{ts:jr}{av:Nat->jq}{ho:Nat->Nat}{c:jq}(h:Pu ts av ho)(k:∀ b∈c,b<ts.length/\ho b=1/\av b=[])(i:Nat)(l:i<ts.length+1):PU (Uv c ts.length (V4 ts.length av)) (Ut c (UI ts.length ho)) (ts.length+1) i:=by
 let⟨a,b⟩:=HY h i l;unfold PU Uv Ut;by_cases z:i∈c
 ·rw[aO z,aO z];let⟨f,n,g⟩:=k i z;let e:V4 ts.length av i=[]:=by unfold V4;rw[aM ∅];exact g
  rw[e] at a⊢;let a:0+UI ts.length ho i=1:=a;exists by show 1+_=1;lia
  intro j m;rw[zK.mp m];exact⟨f,wS _⟩
 ·rw[aM z,aM z];exact⟨a,b⟩
structure YU(gt:jp)(jh ji:aj)(N:aj->Prop)(H0 H:Hp)(S d lk:aj)(ls:jf)(jm:jr)(jn:jy)(ts:jr)(av:Nat->jq)(ho:Nat->Nat)(as:jy)(kvs:List (Zh×V)):Prop where
 sh:Yc jh ji H S d lk ts av ho as kvs ls
 wf:WF gt ts
 hs:Pu ts av ho
 fr:∀ c o,¬ N c->c≠S->c≠d->(∀ b:Nat,b<jm.length->c≠(jn.getD b .d).x/\c≠(jn.getD b .d).ab)->H0 c=some o->H c=some o
 gr:∀ c,H c=none->H0 c=none
 le:jm.length<=ts.length
 old:∀ i,i<jm.length->as.getD i .d=jn.getD i .d/\gd ts i=gd jm i
 new:∀ i,jm.length<=i->i<ts.length->H0 (as.getD i .d).x=none/\H0 (as.getD i .d).th=none/\H0 (as.getD i .d).ab=none
def YU.refl(R:Yc jh ji H S d lk ts av ho as kvs ls)(f:WF gt ts)(b:Pu ts av ho):YU gt jh ji N H H S d lk ls ts as ts av ho as kvs:=
 ⟨R,f,b,λc o _ _ _ _ e=>e,λc e=>e,zY _,λi _=>⟨rfl,rfl⟩,λi g a=>absurd a ∅⟩
def YU.off(r:YU gt jh ji N H0 H S d lk ls jm jn ts av ho as kvs){c:aj}{o:HO}(e:H0 c=some o)(h:∀ b:Nat,b<jm.length->c≠(jn.getD b .d).x/\c≠(jn.getD b .d).ab)(b:Nat)(a:b<ts.length):c≠(as.getD b .d).x/\c≠(as.getD b .d).ab:=by
 rcases yP b jm.length with z | z
 ·rw[(r.old b z).1];exact h b z
 ·let⟨f,_,g⟩:=r.new b z a;exact⟨ZY e f,ZY e g⟩
def YU.push(r:YU gt jh ji N H0 H S d lk ls jm jn ts av ho as kvs){t:ZM}{a:Z9}(G:Xw gt ts ts.length t)(h:Mq t)(m:∀ i,i<ts.length+1->PU av' ho' (ts.length+1) i)(nx:H a.x=none)(l:H a.th=none)(k:H a.ab=none)(q:∀ c o,c≠S->c≠d->(∀ b:Nat,b<ts.length->c≠(as.getD b .d).x/\c≠(as.getD b .d).ab)->H c=some o->H' c=some o)(f:Yc jh ji H' S d lk (ts++[t]) av' ho' (as++[a]) kvs' ls):YU gt jh ji N H0 H' S d lk ls jm jn (ts++[t]) av' ho' (as++[a]) kvs':=by
 let y:as.length=ts.length:=r.sh.len;let A:(ts++[t]).length=ts.length+1:=by simp
 let g:∀ i,i<ts.length->(as++[a]).getD i .d=as.getD i .d:=λi j=>Lm ∅
 let w:(as++[a]).getD ts.length .d=a:=by rw[<-y];exact Jp
 let L:=r.le;refine⟨f,WF.push r.wf G,λi j=>?_,λc o F s u v e=>q c o s u (r.off e v) (r.fr c o F s u v e),λc e=>r.gr c ?_,∅,λi j=>?_,λi B K=>?_⟩
 ·refine⟨?_,by rw[A];exact m i ∅⟩
  rcases yP i ts.length with z | z
  ·rw[NS z];exact(r.hs i z).1
  ·have:i=ts.length:=∅
   rw[this,Jc];exact h
 ·cases z:H c with
  | none=>rfl
  | some o=>
   exfalso
   by_cases n:c=S
   ·let⟨I,C⟩:=f.sh.self;rw[n,C] at e;cases e
   by_cases p:c=d
   ·rw[p,f.sh.kept] at e;cases e
   have:∀ b:Nat,b<ts.length->c≠(as.getD b .d).x/\c≠(as.getD b .d).ab:=λb D=>by
    let W:=f.tw b ∅
    rw[g b D] at W;let⟨J,E⟩:=W.tw.self;exact⟨(ZY E e).symm,(ZY W.tw.above e).symm⟩
   rw[q c o n p this z] at e;cases e
 ·rw[g i ∅,NS ∅];exact r.old i j
 ·rcases yP i ts.length with z | z
  ·rw[g i z];exact r.new i B z
  ·have:i=ts.length:=∅
   rw[this,w];exact⟨r.gr _ nx,r.gr _ l,r.gr _ k⟩
structure Ww(H0:Hp)(lk:aj)(jm:jr)(jn:jy)(c:aj):Prop where
 at_:∃ o,H0 c=some (.lst o)
 lk:c≠lk
 own:∀ i:Nat,i<jm.length->(jn.getD i .d).ab≠c/\(jn.getD i .d).th≠c
def YU.own(r:YU gt jh ji N H0 H S d lk ls jm jn ts av ho as kvs){c:aj}(a:Ww H0 lk jm jn c)(i:Nat)(b:i<ts.length):(as.getD i .d).ab≠c/\(as.getD i .d).th≠c:=by
 rcases yP i jm.length with z | z
 ·rw[(r.old i z).1];exact a.own i z
 ·let⟨_,f,g⟩:=r.new i z b;let⟨o,e⟩:=a.at_;exact⟨(ZY e g).symm,(ZY e f).symm⟩
def YU.but(r:YU gt jh ji N H0 H S d lk ls jm jn ts av ho as kvs){c:aj}{o n:jf}(f:Ww H0 lk jm jn c)(i:N c)(j:H c=some (.lst o))(s:ZE c H H')(a:H' c=some (.lst n)):YU gt jh ji N H0 H' S d lk ls jm jn ts av ho as kvs:=
 ⟨r.sh.but s j f.lk (r.own f),r.wf,r.hs,λb u h k l m e=>s _ _ (r.fr b u h k l m e) λz=>h (z ▸ i),λb e=>r.gr b (by
  cases z:H b with
  | none=>rfl
  | some u=>
   exfalso
   by_cases g:b=c
   ·rw[g,a] at e;cases e
   ·rw[s _ _ z g] at e;cases e),r.le,r.old,r.new⟩
def YU.same(r:YU gt jh ji N H0 H S d lk ls jm jn ts av ho as kvs)(s:ZD H H'):YU gt jh ji N H0 H' S d lk ls jm jn ts av ho as kvs:=
 ⟨r.sh.same s,r.wf,r.hs,λb u a c f g e=>s _ _ (r.fr b u a c f g e),λb e=>r.gr b (s.free e),r.le,r.old,r.new⟩
def YU.trans(r:YU gt jh ji N H0 H S d lk ls jm jn ts av ho as kvs)(q:YU gt jh ji N2 H H' S d lk ls ts as ts' av' ho' as' kvs')(m:∀ c,N2 c->H0 c=none\/N c):YU gt jh ji N H0 H' S d lk ls jm jn ts' av' ho' as' kvs':=by
 let u:=r.le;let v:=q.le;refine⟨q.sh,q.wf,q.hs,λc o a b f g e=>q.fr c o (λz=>(m c z).elim (λy=>by rw[y] at e;cases e) a) b f (r.off e g) (r.fr c o a b f g e),λc e=>r.gr c (q.gr c e),∅,λi n=>?_,λi k l=>?_⟩
 ·let⟨h,j⟩:=q.old i ∅
  rw[h,j];exact r.old i n
 ·rcases yP i ts.length with z | z
  ·rw[(q.old i z).1];exact r.new i k z
  ·let⟨p,s,t⟩:=q.new i z l;exact⟨r.gr _ p,r.gr _ s,r.gr _ t⟩
def YU.tups(r:YU gt jh ji N H0 H S d lk ls jm jn ts av ho as kvs)(a:Yc jh ji H0 S d lk jm av' ho' jn kvs' ls)(h:∀ c,N c->∃ o,H0 c=some (.lst o)):Z4 H0 H:=λc p e=>by
 let⟨⟨l,i⟩,j,n⟩:=a.sh;refine r.fr c _ (λz=>?_) (Zb e i) (Zb e j) (λb f=>?_) e
 ·let⟨o,g⟩:=h c z;rw[g] at e;cases e
 ·let⟨m,k⟩:=(a.tw b f).tw.self;exact⟨Zb e k,Zb e (a.tw b f).tw.above⟩
def O4(a:Yc jh ji H S d lk ts av ho as kvs ls){c:aj}(n:H c=none){o:jf}(e:H' c=some (.lst o)):Ww H' lk ts as c:=
 ⟨⟨o,e⟩,(ZY a.sh.looks n).symm,λi b=>by
  let⟨g,f,_⟩:=(a.tw i b).things;exact⟨ZY (a.tw i b).tw.above n,ZY f n⟩⟩
end
end Tw
namespace L2
open PySem PySem.Spec PyProof.Rows
def Dj:∀{e:jf}{d:je}(i:Nat),ZO e d->(e[i]? = none/\d[i]? = none)\/∃ x u,e[i]? = some x/\d[i]? = some u/\ZR x u
 | _,_,i,.nil=>.inl ⟨by simp,by simp⟩
 | _,_,0,.cons r t=>.inr ⟨_,_,Z,Z,r⟩
 | _,_,i+1,.cons r t=>by
  rcases Dj i t with ⟨a,b⟩ | ⟨x,u,a,b,c⟩
  ·exact .inl ⟨by simpa using a,by simpa using b⟩
  ·exact .inr ⟨x,u,by simpa using a,by simpa using b,c⟩
def KS{f:jf}{e:je}(r:ZO f e):∀ d:jq,ZO (d.filterMap (f[·]?)) (d.filterMap (e[·]?))
 | []=>.nil
 | i::d=>by
  rw[vV,vV];rcases Dj i r with ⟨a,b⟩ | ⟨x,u,a,b,c⟩
  ·rw[a,b];exact KS r d
  ·rw[a,b];exact .cons c (KS r d)
def ZL0{c:Type}:∀(l r:List c),(yU l.length).filterMap ((l++r)[·]?)=l:=by
 intro l
 induction l with
 | nil=>intro r;rfl
 | cons a l b=>
  intro r;rw[yV,qO,vV,List.filterMap_map];show a::List.filterMap (λi=>(l++r)[i]?) (yU l.length)=a::l;rw[b]
def ZDo(n:Nat):sliceRange ((n:Int)-1) (-1) (-1)=(yU n).reverse:=by
 unfold sliceRange;let e:(if (-1:Int) > 0 then if ((n:Int)-1) < -1 then (-1-((n:Int)-1) + -1-1) / -1 else 0 else if ((n:Int)-1) > -1 then (((n:Int)-1) - -1 - -1-1) / - -1 else 0).toNat=n:=by
  rw[aM (by decide)]
  by_cases h:0<n
  ·rw[aO ∅,show (- -1:Int)=1 from rfl,Int.ediv_one];lia
  ·rw[aM ∅];lia
 simp only[e];refine tQ (by simp) λi a b=>?_
 simp at a;simp
 lia
def AC{a:Type}(l:List a):(sliceRange ((l.length:Int)-1) (-1) (-1)).filterMap (l[·]?)=l.reverse:=by
 rw[ZDo,List.filterMap_reverse];have:=ZL0 l [];rw[yR] at this;rw[this]
inductive ON(K:zZ)(Q:VK)(x y:V)(b:Hp):Prop
 |mk(a c:_)(_:x=.ref a)(_:y=.int (-1))(_:ZH K b a c)(_:∀ p,b p=none->Q (.ref p) (upd b p (.lst c.reverse)))
def ZQg(K:zZ)(e d:TE):TE:=λa H Q=>e a H λx b=>d a b λy c=>ON K Q x y c
def GK{e l:Expr}{z t:TE}{p pos:Pos}(L:PE X e z)(J:PE X l t):PE X (.Subscript e (.Slice none none (some l) p) pos) (ZQg X.K z t):=by
 intro c s j H Q I h;refine Subscript_ (Z2 (L c s j H _ I h) λv U x C E S P=>?_);refine wpAny_Slice ?_;rw[evalPart_none];refine ad (ad ?_);rw[evalPart_some];refine Z2 (J c U j C _ E P) λu f y D F T R=>?_;let⟨a,i,rfl,rfl,M,q⟩:=R;cases S;let⟨m,rfl⟩:=T;let k:ZF X c j D { f with heap:=f.heap.push { cls:=.type "slice",data:=.fields #[.none,.none,.int (-1) m] } }:=F.kept (t':=f.toks) λb N q=>zQ _ q;let⟨d,r,n,V⟩:=k.list M;let g:=r.length;show aC (aB X.prog X.w) X.A (subscriptTail e (.Slice none none (some l) p) (.ref a) (.ref f.heap.objs.size)) (EP X c j Q) X.xe { f with heap:=f.heap.push { cls:=.type "slice",data:=.fields #[.none,.none,.int (-1) m] } };refine tail_any (ops:=[.ref a,.ref f.heap.objs.size]) n.isList.typeIs slot_list_getitem.lookup ?_ (by with_unfolding_all rfl)
 refine wpAny_getItem_list_slice n.isList (Heap.IsSliceOf.new ..) .none .none (.int (-1) m) (by simp) ?_ (by rw[zR] <;> lia)
 let O:slicePick d.toArray none none (some (-1))=((sliceRange ((d.length:Int)-1) (-1) (-1)).filterMap (d[·]?)).toArray:=by
  unfold slicePick;simp[sliceBounds]
 rw[O];let B:=KS r (sliceRange ((d.length:Int)-1) (-1) (-1));let G:(sliceRange ((d.length:Int)-1) (-1) (-1)).filterMap (i[·]?)=i.reverse:=by rw[<-g];exact AC i
 rw[G] at B;refine⟨.ref _,_,k.laid (t':=f.toks) (o:=.lst i.reverse) (λb N q=>zQ _ q) (zY _) ?_,Z,q _ (k.hok.fresh (zY _))⟩;exact⟨by rw[List.length_reverse];lia,_,0,B,yS _ Z⟩
end L2
namespace Tw
open PySem PySem.Spec L2 PyProof.Rows
variable{jh ji CS CT CH CK CP CB:aj}
abbrev Md:jt:=["_law_well_here","_law_shelf","_law_rows","_law_few","_law_back","_law_level","_law_stem","_law_numbers","_law_parts","_law_part"]
def X5:ZC Md zEr (Za Qt):=Zm
def ZOZ:Option aD->jI
 | some (.For _ _ b _ _)=>b
 | _=>[]
def Gs:List Stmt:=DD ((WT Qt)[4]?)
def Fj:List Stmt:=ZOZ (Gs[2]?)
section
variable{cdv:ai}{outer:jB}{Hs:Hp}{E:XK}{jh ji:aj}
def ZRR{gt:jp}(L:Yw K mg jh ji)(hr:ZT 10 (A.deeper (envOfC "_law_plant" (Za Qt) s.heap.objs.size f cdv)))(DS:ZG P w K mg ki ZQ 10 jh "put_stem" zEi (Z8 gt jh ji))(DL:ZG P w K mg ki ZQ 10 jh "put_leaf" zEz (YX jh ji)):
  ∃ t,X7 (WW ZQ P w K mg ki Md "_law_plant" (Za Qt) f cdv A outer s Hs E).nox Fj t /\
  (∀(J:YJ)(B H:Hp)(S d v g q:aj)(U W X Y x5 x8:jg)(l i:jr)(k M:jy)(y:Nat->jq)(z:Nat->Nat)(n:List (Zh×V))(D x us:jf)(rs:jv),
   YU gt jh ji (· = g) B H S d v D l k i y z M n->i.length<=700->Ww B v l k g->H g=some (.lst x)->x.length<=400->H q=some (.lst us)->jY H (Z7 rs) us->WY rs ->
   (∀ p N u,YU gt jh ji (· = g) B p S d v D l k (i++[Uo rs]) (V4 i.length y) (UI i.length z) N u->p g=some (.lst (x++[.int (i.length:Nat)]))->J.nx [U,some (.ref S),W,X,Y,x5,some (.bl false),some (.ref g),x8,some (.ref q)] p) ->
   t J [U,some (.ref S),W,X,Y,x5,some (.bl false),some (.ref g),x8,some (.ref q)] H) /\
  (∀(J:YJ)(B H:Hp)(S d v g q:aj)(U W X Y x5 x8:jg)(l i:jr)(k M:jy)(y:Nat->jq)(z:Nat->Nat)(n:List (Zh×V))(D x:jf)(C:jq)(Lb:YV),
   YU gt jh ji (· = g) B H S d v D l k i y z M n->i.length<=700->Ww B v l k g->H g=some (.lst x)->x.length<=400->H q=some (.lst (iN C))->(∀ b∈C,b<i.length/\z b=1/\y b=[])->over (XA i C)=some Lb->Mq (Xt i C) ->
   (∀ p N u,YU gt jh ji (· = g) B p S d v D l k (i++[Xt i C]) (Uv C i.length (V4 i.length y)) (Ut C (UI i.length z)) N u->p g=some (.lst (x++[.int (i.length:Nat)]))->J.nx [U,some (.ref S),W,X,Y,x5,some (.bl true),some (.ref g),x8,some (.ref q)] p) ->
   t J [U,some (.ref S),W,X,Y,x5,some (.bl true),some (.ref g),x8,some (.ref q)] H):=by
 let nd:=X5.nd;refine⟨_,ZS (Zz (Y7 (pv 6))
  (ZS (Wr (Qj xO wN wM Qy (pv 7) (ZZ (XX (E:=E0) (pv 1) L.cS DS hr Yn (ZZ (pv 9)))))))
  (ZS (Wr (Qj xO wN wM Qy (pv 7) (ZZ (XX (E:=E0) (pv 1) L.cS DL hr Yn (ZZ (pv 9)))))))),
  λJ B H S d v g q U W X Y x5 x8 l i k M y z n D x us rs r t7 ap j l2 hq hk G O=>?_,λJ B H S d v g q U W X Y x5 x8 l i k M y z n D x C Lb r t7 ap j l2 hq I a0 a1 O=>?_⟩
 ·let⟨dS,hS⟩:=r.sh.sh.self;refine⟨_,Z,_,Z,Zf ⟨_,Z,.inl ⟨Z,_,ZH.of j⟩,_,Z,S,dS,_,Z,hS,Z,_,Z,S,d,v,q,i,y,z,M,n,D,us,rs,Z,r.sh,∅,hq,hk,G,λp a nx T Q fr R'=>?_⟩⟩
  let r':=r.push (BB G) ⟨zN _,zS G.2.2.1 (by decide)⟩ (HY r.hs) nx T Q (λc o n1 n2 _ e=>fr c o n1 n2 e) R'
  let R:g≠S:=Zb j hS;let m:=fr _ _ R (Zb j r.sh.sh.kept) j;exists g,x,_,Z,Z,m,Y2 ∅
  exact O _ _ _ (r'.but ap Z m (ZE.upd (ZE.refl g p)) ZP) ZP
 ·let⟨dS,hS⟩:=r.sh.sh.self;refine⟨_,Z,_,Z,Zs ⟨_,Z,.inl ⟨Z,_,ZH.of j⟩,_,Z,S,dS,_,Z,hS,Z,_,Z,S,d,v,q,i,y,z,M,n,D,C,Lb,Z,r.sh,r.wf,∅,λb h=>⟨(I b h).1,by rw[(I b h).2.1];exact zY _,by rw[(I b h).2.2];exact zN _⟩,hq,a0,λp a nx T Q fr R'=>?_⟩⟩
  let r':=r.push (Bh r.wf (λb h=>(I b h).1) a0) a1 (BL r.hs I) nx T Q fr R';let R:g≠S:=Zb j hS;let ow:=r.own ap;let m:=fr _ _ R (Zb j r.sh.sh.kept) (λb I=>by
   let⟨dx,hx⟩:=(r.sh.tw b I).tw.self;exact⟨Zb j hx,(ow b I).1.symm⟩) j
  exists g,x,_,Z,Z,m,Y2 ∅
  exact O _ _ _ (r'.but ap Z m (ZE.upd (ZE.refl g p)) ZP) ZP
end
structure LG(ts:jr)(av:Nat->jq)(ho:Nat->Nat)(ns:jq)(h:Nat)(rs:jv):Prop where
 nd:ns.Nodup
 at_:∀ b∈ns,b<ts.length/\(gd ts b).h=h/\ho b=1/\av b=[]
 rows:Zr ts ns=rs
def Mp(o:jp)(c e:aj)(l:Hp)(S d p:aj)(q:jf)(a:jr)(f:jy)(k:aj)(m:jr)(r:List (jq))(i:Nat)(H:Hp):Prop:=
 ∃(g:Nat->jq)(h:Nat->Nat)(n:jy)(j:List (Zh×V)),YU o c e (· = k) l H S d p q a f (a++m.take i) g h n j/\H k=some (.lst (iN (xX a.length i)))/\(∀ b,a.length<=b->b<a.length+i->h b=1/\g b=[])/\∀ b∈(r.drop i).flatten,h b=1/\g b=[]
def E4(n i:Nat):iN (xX n i)++[V.int ((n+i:Nat):Int)]=iN (xX n (i+1)):=by
 rw[List.range'_1_concat];simp[iN]
def EV{a:Type}{l:List a}{i:Nat}{x:a}(h:l[i]? = some x):l.take (i+1)=l.take i++[x]:=by rw[yN,h];rfl
def Ac{a:Type}{l:List a}{i:Nat}{x:a}(h:l[i]? = some x):l.drop i=x::l.drop (i+1):=by
 let⟨b,e⟩:=zC.mp h;rw[<-e,<-vO b]
def ZJn{c L:jr}{a:jq}(d:∀ b∈a,b<c.length)(f:0<a.length):Xt (c++L) a=Xt c a/\XA (c++L) a=XA c a:=by
 let e:a.getD 0 0∈a:=by rw[zU,zV f];exact xY _
 exists ?_
 ·unfold Xt Zr;rw[IE (d _ e)]
  congr 1
  rw[uP,uP]
  congr 1
  exact rV λb h=>by rw[IE (d b h)]
 ·unfold XA;exact rV λb h=>by rw[IE (d b h)]
def EK{a:Type}{l m:List a}{i:Nat}(h:i<=m.length):(l++m.take i).length=l.length+i:=by simp;lia
section
variable{cdv:ai}{outer:jB}{Hs:Hp}{E:XK}{jh ji:aj}
def ZRd{gt:jp}(L:Yw K mg jh ji)(hr:ZT 10 (A.deeper (envOfC "_law_plant" (Za Qt) s.heap.objs.size f cdv)))(DS:ZG P w K mg ki ZQ 10 jh "put_stem" zEi (Z8 gt jh ji))(DL:ZG P w K mg ki ZQ 10 jh "put_leaf" zEz (YX jh ji)):
  ∃ t,X7 (WW ZQ P w K mg ki Md "_law_plant" (Za Qt) f cdv A outer s Hs E).nox Fj t /\
  ∀(Ha C:Hp)(S d U J:aj)(g:jr)(k:jy)(M:Nat->jq)(O:Nat->Nat)(m:List (Zh×V))(X us pl:jf)(l:List (jf))(rs:jv)(hN:Nat)(p a:Bool)(N:aj->Prop),
   Yc jh ji Ha S d U g M O k m X->Yc jh ji C S d U g M O k m X->Ww C U g k J->Ha J≠none->WF gt g->Pu g M O->(∀ b,¬ N b->Ha b=none)->g.length+us.length<=690->us.length<=300->rs.length<=300->hN<=300 ->
   Paired (Yj N C) l pl->l.flatten=us->(∀ Y∈l,O6 p Y.length)->(∀ r∈rs,r.fit)->Yf (rs.map (·.1))->C J=some (.lst []) ->
   ((p=false/\jY C (Z7 rs) us/\hN=0)\/(p=true/\∃ ns h,us=iN ns/\LG g M O ns h rs/\hN=h+1)) ->
   ∃(Ts:jr)(qs:List (jq)),Ts.length=pl.length/\(∀ t∈Ts,t.h=hN)/\((YQ a Ts).map (·.rows)).flatten=rs/\Mp gt jh ji C S d U X g k J Ts qs 0 C /\
    ∀ i u,(YQ a pl)[i]? = some u->∀(D0:YJ)(H:Hp)(x0 x2 x3 x4 x5 x8:jg),Mp gt jh ji C S d U X g k J Ts qs i H->(∀ H',Mp gt jh ji C S d U X g k J Ts qs (i+1) H'->D0.nx [x0,some (.ref S),x2,x3,x4,x5,some (.bl p),some (.ref J),x8,some u] H') ->
     t D0 [x0,some (.ref S),x2,x3,x4,x5,some (.bl p),some (.ref J),x8,some u] H:=by
 let⟨t,ht,a6,a9⟩:=ZRR (P:=P) (w:=w) (K:=K) (mg:=mg) (ki:=ki) (f:=f) (cdv:=cdv) (A:=A) (outer:=outer) (s:=s) (Hs:=Hs) (E:=E) L hr DS DL;exists t,ht;intro Ha C S d U J g k M O m X us pl l rs hN p a N Ra R1 ap i0 hw hs e5 t6 i4 i1 e3 c3 R F frs c9 a7 e7;let a0:∀{q:aj}{o:HO}{H:Hp}{ts:jr}{M:Nat->jq}{O:Nat->Nat}{as:jy}{m:List (Zh×V)},¬ N q->C q=some o->YU gt jh ji (· = J) C H S d U X g k ts M O as m->H q=some o:=fun{q o H ts M O as m} W e r=>by
  let W:=e5 q W;let⟨⟨dS,hS⟩,hd,_⟩:=Ra.sh;refine r.fr q o (λz=>i0 (z ▸ W)) (ZY hS W).symm (ZY hd W).symm (λb B=>?_) e;let⟨dx,hx⟩:=(Ra.tw b B).tw.self;exact⟨(ZY hx W).symm,(ZY (Ra.tw b B).tw.above W).symm⟩
 let i3:∀{H:Hp}{ts:jr}{M:Nat->jq}{O:Nat->Nat}{as:jy}{m:List (Zh×V)},YU gt jh ji (· = J) C H S d U X g k ts M O as m->Z4 C H:=λr=>r.tups R1 λc z=>⟨[],by rw[z];exact a7⟩
 let e8:pl.length=l.length:=c3.length.symm;rcases e7 with ⟨rfl,hk,rfl⟩ | ⟨rfl,ns,h,rfl,lv,rfl⟩
 ·rw[<-R] at hk;let⟨j,e1,e2⟩:=FM l rs hk;let lq:j.length=l.length:=e2.length;let a4:=LP (n:=1) l λY h=>(F Y h).1;rw[R] at a4;exists YQ a (j.map Uo),[],by rw[Ou,zX];lia,λx hx=>?_,?_,?_
  ·let⟨q,_,rfl⟩:=zL.mp (YC.mp hx);rfl
  ·rw[FK,vZ,<-e1]
   congr 1
   exact List.map_id' j
  ·refine⟨M,O,k,m,?_,a7,λb h1 h2=>absurd h2 ∅,λb B=>by simp at B⟩
   rw[xA,yR];exact YU.refl R1 hw hs
  ·intro i u hu D0 H x0 x2 x3 x4 x5 x8 hJ a5;let⟨a3,a8,a2,T,r,hn,hh,_⟩:=hJ;let⟨Y,ep,q,rfl,Q,W⟩:=Paired.ixR (JF a c3) hu;let⟨rq,er,kq⟩:=Paired.ixR (JF a e2) ep;let mq:rq∈j:=YC.mp (zM er);let mp:Y∈l:=YC.mp (zM ep);let c7:rq.length=Y.length:=by
    have:=kq.length;unfold Z7 at this
    rwa [zX] at this
   let i2:rq.Sublist rs:=e1 ▸ Aq mq;let G:WY rq:=Az frs c9 i2 (by have:=(F Y mp).1;rw[c7];exact this) (by have:=(F Y mp).2;rw[c7];exact this)
   let eT:(YQ a (j.map Uo))[i]? = some (Uo rq):=by rw[<-Nh,zE,er];rfl
   let hi:i<(YQ a (j.map Uo)).length:=(zC.mp eT).1;let ll:(YQ a (j.map Uo)).length=l.length:=by rw[Ou,zX];lia
   let el:(g++(YQ a (j.map Uo)).take i).length=g.length+i:=EK ∅
   refine a6 D0 C H S d U J q x0 x2 x3 x4 x5 x8 g _ k a2 a3 a8 T X _ Y rq r (by rw[el];lia) ap hn (by simp[iN];lia) (a0 W Q r) (kq.mono (i3 r) _ _) G λH' c4 c0 r' D=>?_
   rw[xH,<-EV eT] at r';rw[el] at r' D;rw[E4] at D;refine a5 H' ⟨_,_,_,_,r',D,λb b1 b2=>?_,λb B=>by simp at B⟩
   unfold UI V4;by_cases z:b=g.length+i
   ·rw[aO z,aO z];exact⟨Z,Z⟩
   ·rw[aM z,aM z];exact hh b b1 ∅
 ·let⟨j,e1,e2⟩:=F9 (λb:Nat=>V.int (b:Nat)) l ns R;subst e1;let sz:∀ q∈j,2<=q.length/\q.length<=4:=λq Q=>by
   have:=F (iN q) (zL.mpr ⟨q,Q,Z⟩);unfold O6 iN at this;rw[zX] at this;exact this
  let a4:=LP (n:=2) j λq h=>(sz q h).1;let i5:(iN ns).length=ns.length:=zX _;rw[e2] at a4;let I:∀ q∈j,∀ b∈q,b∈ns:=λq Q b B=>by rw[<-e2];exact sH.mpr ⟨q,Q,B⟩
  let c8:(YQ a j).flatten.Nodup:=ZDO (by rw[e2];exact lv.nd)
  exists YQ a (j.map (Xt g)),YQ a j,by rw[Ou,zX,e8,zX],λx hx=>?_,?_,?_
  ·let⟨q,Q,rfl⟩:=zL.mp (YC.mp hx);let h2:=(sz q Q).1;let m0:q.getD 0 0∈q:=by rw[zU,zV (show 0<q.length by lia)];exact xY _
   show (gd g (q.getD 0 0)).h+1=h+1;rw[(lv.at_ _ (I q Q _ m0)).2.1]
  ·rw[FK,vZ,<-lv.rows,<-e2,Jo,uP];rfl
  ·refine⟨M,O,k,m,?_,a7,λb h1 h2=>absurd h2 ∅,λb B=>?_⟩
   ·rw[xA,yR];exact YU.refl R1 hw hs
   ·rw[tV] at B;let⟨q,Q,B⟩:=sH.mp B;exact(lv.at_ b (I q (YC.mp Q) b B)).2.2
  ·intro i u hu D0 H x0 x2 x3 x4 x5 x8 hJ a5;let⟨a3,a8,a2,T,r,hn,hh,c6⟩:=hJ;let⟨Y,ep,q,rfl,Q,W⟩:=Paired.ixR (JF a c3) hu;rw[<-Nh,zE] at ep;let⟨v,eb,rfl⟩:=xP.mp ep;let mq:v∈j:=YC.mp (zM eb);let B:∀ b∈v,b<g.length:=λb h=>(lv.at_ b (I v mq b h)).1;let⟨b2,b4⟩:=sz v mq;let⟨sT,lT⟩:=ZJn (L:=(YQ a (j.map (Xt g))).take i) B ∅
   let a1:(Zr g v).Sublist rs:=by
    rw[<-lv.rows,<-e2,Jo,uP];exact qD (zL.mpr ⟨v,mq,Z⟩)
   let e0:Yf ((Zr g v).map (·.1)):=Yf.sub c9 (a1.map _);let⟨Lb,e4⟩:=ZJz hw (h:=h) (λb y=>⟨B b y,(lv.at_ b (I v mq b y)).2.1⟩) b2 b4 e0;let eT:(YQ a (j.map (Xt g)))[i]? = some (Xt g v):=by rw[<-Nh,zE,eb];rfl
   let hi:i<(YQ a (j.map (Xt g))).length:=(zC.mp eT).1;let ll:(YQ a (j.map (Xt g))).length=j.length:=by rw[Ou,zX]
   let el:(g++(YQ a (j.map (Xt g))).take i).length=g.length+i:=EK ∅
   let ed:((YQ a j).drop i).flatten=v++((YQ a j).drop (i+1)).flatten:=by rw[Ac eb,vX]
   let e9:(v++((YQ a j).drop (i+1)).flatten).Nodup:=by
    rw[<-ed];let e:(YQ a j).flatten=((YQ a j).take i).flatten++((YQ a j).drop i).flatten:=by rw[<-List.flatten_append,xQ]
    rw[e] at c8;exact(uN.mp c8).2.1
   let m0:v.getD 0 0∈v:=by rw[zU,zV (show 0<v.length by lia)];exact xY _
   refine a9 D0 C H S d U J q x0 x2 x3 x4 x5 x8 g _ k a2 a3 a8 T X _ v Lb r (by rw[el];lia) ap hn (by simp[iN];lia) (a0 W Q r) (λb y=>⟨by rw[el];have:=B b y;lia,c6 b (by rw[ed];exact xU _ y)⟩) (by rw[lT];exact e4) (by rw[sT];refine⟨?_,zS a1.length_le i1⟩;show (gd g (v.getD 0 0)).h+1<=300;rw[(lv.at_ _ (I v mq _ m0)).2.1];exact e3) λH' c4 c0 r' D=>?_
   rw[sT,xH,<-EV eT] at r';rw[el] at r' D;rw[E4] at D;refine a5 H' ⟨_,_,_,_,r',D,λb c1 c2=>?_,λb y=>?_⟩
   ·let nb:b∉v:=λz=>by have:=B b z;lia
    unfold Ut Uv UI V4;rw[aM nb,aM nb];by_cases z:b=g.length+i
    ·rw[aO z,aO z];exact⟨Z,Z⟩
    ·rw[aM z,aM z];exact hh b c1 ∅
   ·let nb:b∉v:=λz=>(uN.mp e9).2.2 b z b y Z;let bl:b<g.length:=by
     let⟨q',e6,c5⟩:=sH.mp y;exact(lv.at_ b (I q' (YC.mp (rR e6)) b c5)).1
    unfold Ut Uv UI V4;rw[aM nb,aM nb,aM ∅,aM ∅]
    exact c6 b (by rw[ed];exact yL _ y)
end
def Gc(x y:V)(a:Bool):Y3 [x,y] (if a=true then 1 else 0)=some (if a=true then y else x):=by
 cases a
 ·exact YO (j:=0) Z
 ·exact YO (j:=1) Z
section
variable{cdv:ai}{outer:jB}{Hs:Hp}{E:XK}{jh ji:aj}
def ZRf{gt:jp}(T:YE mg)(L:Yw K mg jh ji)(hr:ZT 10 (A.deeper (envOfC "_law_plant" (Za Qt) s.heap.objs.size f cdv)))(DC:ZA P w K mg ki 2 "_law_cut" zEj Uk)(DS:ZG P w K mg ki ZQ 10 jh "put_stem" zEi (Z8 gt jh ji))(DL:ZG P w K mg ki ZQ 10 jh "put_leaf" zEz (YX jh ji)):
  ∃ t,X7 (WW ZQ P w K mg ki Md "_law_plant" (Za Qt) f cdv A outer s Hs E).nox Gs t /\
  ∀(D0:YJ)(H:Hp)(p S d Q lv:aj)(fw:Int)(g k:Bool)(x2 x7 x8 x9:jg)(l:jr)(C:jy)(av:Nat->jq)(ho:Nat->Nat)(B:List (Zh×V))(ls N:jf)(rs:jv)(hN:Nat),
   ZK H p->Yc jh ji H S d Q l av ho C B ls->Ww H Q l C p->WF gt l->Pu l av ho->l.length+N.length<=690->0<=fw->fw<4->H lv=some (.lst N)->lv≠p->N.length<=300->rs.length<=300->hN<=300->(∀ r∈rs,r.fit)->Yf (rs.map (·.1)) ->
   ((k=false/\jY H (Z7 rs) N/\hN=0)\/(k=true/\N.length≠1/\∃ ns h,N=iN ns/\LG l av ho ns h rs/\hN=h+1)) ->
   (∀(H':Hp)(M:jr)(F:Nat->jq)(J:Nat->Nat)(y:jy)(x:List (Zh×V))(a5:aj)(a0:jq)(y7 y8 y9:jg),YU gt jh ji (· = p) H H' S d Q ls l C M F J y x->ZK H' p->H' a5=some (.lst (iN a0))->a5≠p->LG M F J a0 hN rs->M.length=l.length+a0.length->(if k=true then 2 else 1) * a0.length<=N.length ->
    D0.nx [some (.ref p),some (.ref S),x2,some (.int fw),some (.bl g),some (.ref a5),some (.bl true),y7,y8,y9] H') ->
   t D0 [some (.ref p),some (.ref S),x2,some (.int fw),some (.bl g),some (.ref lv),some (.bl k),x7,x8,x9] H:=by
 let nd:=X5.nd;let⟨t,ht,hJ⟩:=ZRd (P:=P) (w:=w) (K:=K) (mg:=mg) (ki:=ki) (f:=f) (cdv:=cdv) (A:=A) (outer:=outer) (s:=s) (Hs:=Hs) (E:=E) L hr DS DL;let e8:=hr.to 2;refine⟨_,ZN (Zi 7 nd (Yb Zk))
  (ZN (Zi 8 nd (Zc DC e8 (Qb (pv 0) (pv 5) (pv 3) (pv 6))))
  (ZN (U8 PassesOwn.never rfl (WX (Zt K (Yb (Zl (pv 8) (GK (pv 8) (Q1 Qo ZJ)))) (Wn O3 rfl T.int Qv (ZZ (pv 4))))) (Xx 9 nd) ht)
  (ZN (Zi 5 nd (Zt K (Yb (Zl (pv 7) (GK (pv 7) (Q1 Qo ZJ)))) (Wn O3 rfl T.int Qv (ZZ (pv 4)))))
  (ZS (Zi 6 nd Wm))))),?_⟩
 intro D0 H p S d Q lv fw g k x2 x7 x8 x9 l C av ho B ls N rs hN W R a4 hw hs t6 f0 f4 e5 i1 i0 i2 e3 frs i3 c7 e2;exists YF;intro v Y;let g1:=ZW Y (.lst []);let G:=ZP (H:=H) (a:=v) (o:=.lst []);generalize upd H v (.lst [])=Ha at g1 G⊢;let Wa:=W.same g1;refine⟨_,Z,_,Z,_,Z,_,Z,p,lv,N,fw,k,Z,Wa,g1 _ _ e5,i1,f0,f4,∅,λz=>?_,λD U a7 Hb nD hD c9 a1 a3 i5 Wb a8=>?_⟩
 ·rcases c7 with ⟨z',_⟩ | ⟨_,z',_⟩
  ·rw[z] at z';cases z'
  ·exact z'
 let i7:D≠v:=λz=>by rw[z,G] at nD;cases nD
 refine⟨_,Z,_,Z,1,Z,D,U,Z,Z,ZH.of hD,λq1 n1=>⟨YF,λq2 n2=>?_⟩⟩;let g2:=ZW n1 (.lst U.reverse);let g3:=ZW n2 (.lst [.ref D,.ref q1]);let c1:=g3 _ _ (ZP (H:=Hb) (a:=q1) (o:=.lst U.reverse));let c2:=ZP (H:=upd Hb q1 (.lst U.reverse)) (a:=q2) (o:=.lst [.ref D,.ref q1]);let q:=g2.trans g3;generalize upd (upd Hb q1 (.lst U.reverse)) q2 (.lst [.ref D,.ref q1])=H1 at q c1 c2⊢;refine⟨_,Z,.inr ⟨g,Z,.inl ⟨q2,_,_,_,Z,Z,ZH.of c2,Gc _ _ _,?_⟩⟩⟩;let hI:∃ I,(if g=true then V.ref q1 else V.ref D)=.ref I/\H1 I=some (.lst (YQ g U))/\Ha I=none:=by
  cases g
  ·exact⟨D,Z,q _ _ hD,nD⟩
  ·exact⟨q1,Z,c1,LJ a8 Wb n1⟩
 let⟨I,eI,c6,nI⟩:=hI;rw[eI];let Ra:=R.same g1;let⟨pw,hp⟩:=W.some;let e6:=g1 _ _ hp;let⟨l0,e7⟩:=Wb.some;let rA:YU gt jh ji (· = p) H Ha S d Q ls l C l av ho C B:=(YU.refl R hw hs).same g1;let rB:=rA.but a4 Z e6 a8 e7;let rC:=rB.same q;let a6:v≠p:=U3 W Y;let a2:=q _ _ (a8 _ _ G a6);let e1:Ww H1 Q l C v:=O4 R Y a2;let e0:Z4 H H1:=rC.tups R λc z=>by rw[z];exact a4.at_
 let⟨m,qs,lT,hT,rT,J0,i4⟩:=hJ Ha H1 S d Q v l C av ho B ls N U a7 rs hN k g (NB Ha p D) Ra rC.sh e1 (by rw[G];exact λz=>nomatch z) hw hs (λb nb=>by
   cases z:Ha b with
   | none=>rfl
   | some o=>exact absurd (.inr (.inr (by rw[z];exact λz=>nomatch z))) nb) t6 i0 i2 e3 (Paired.mapP c9 λ_ _ z=>Yj.go z λb o e n=>q b o e) a1 a3 frs i3 a2 (c7.imp (λ⟨a,b,c⟩=>⟨a,b.mono e0 _ _,c⟩) λ⟨a,_,c⟩=>⟨a,c⟩)
 let a9:∀{H:Hp}{M:jr}{av:Nat->jq}{ho:Nat->Nat}{y:jy}{B:List (Zh×V)},YU gt jh ji (· = v) H1 H S d Q ls l C M av ho y B->H I=some (.lst (YQ g U)):=λr=>by
  let⟨⟨dS,hS⟩,hd,_⟩:=Ra.sh;refine r.fr I _ (ZY G nI).symm (ZY hS nI).symm (ZY hd nI).symm (λb O=>?_) c6;let⟨dx,hx⟩:=(Ra.tw b O).tw.self;exact⟨(ZY hx nI).symm,(ZY (Ra.tw b O).tw.above nI).symm⟩
 let c8:(YQ g U).length=m.length:=by rw[Ou,lT]
 refine⟨I,Z,⟨_,ZH.of c6⟩,N1 (K:=K) (a:=I) (xs:=YQ g U) (λi σ H'=>∃ c0:jg,σ=[some (.ref p),some (.ref S),x2,some (.int fw),some (.bl g),some (.ref lv),some (.bl k),some (.ref v),some (.ref D),c0]/\Mp gt jh ji H1 S d Q ls l C v m qs i H')
  ⟨_,Z,J0⟩ (λi σ H' _ hP=>by let⟨_,_,_,_,_,_,r,_⟩:=hP;exact ZH.of (a9 r)) ?_ ?_⟩
 ·rintro i u σ H2 hu ⟨c0,rfl,j⟩;exact i4 i u hu _ H2 _ _ _ _ _ _ j λH' j'=>⟨_,Z,j'⟩
 ·rintro σ H2 ⟨c0,rfl,j⟩;rw[c8] at j;let⟨F,J,y,x,r,hn,hh,_⟩:=j;rw[yX (zY _)] at r;let c5:(if k=true then 2 else 1) * m.length<=N.length:=by
   have:=LP (n:=if k=true then 2 else 1) a7 λps h=>(a3 ps h).1
   rw[a1] at this;let e:m.length=a7.length:=by rw[lT];exact c9.length.symm
   rw[e];exact this
  let i6:m.length<=300:=by
   split at c5 <;> lia
  refine⟨_,Z,_,Z,1,Z,v,_,Z,Z,ZH.of hn,λq3 n3=>⟨YF,λq4 n4=>?_⟩⟩;let g4:=ZW n3 (.lst (iN (xX l.length m.length)).reverse);let g5:=ZW n4 (.lst [.ref v,.ref q3]);let c3:=g5 _ _ (ZP (H:=H2) (a:=q3) (o:=.lst (iN (xX l.length m.length)).reverse));let c4:=ZP (H:=upd H2 q3 (.lst (iN (xX l.length m.length)).reverse)) (a:=q4) (o:=.lst [.ref v,.ref q3]);let X:=g4.trans g5;generalize upd (upd H2 q3 (.lst (iN (xX l.length m.length)).reverse)) q4 (.lst [.ref v,.ref q3])=H3 at X c3 c4⊢;refine⟨_,Z,.inr ⟨g,Z,.inl ⟨q4,_,_,_,Z,Z,ZH.of c4,Gc _ _ _,?_⟩⟩⟩;let⟨⟨dS,hS⟩,hd,_⟩:=R.sh;let⟨i9,i8⟩:=(Wb.same q).some;let W2:ZK H2 p:=C6 (Wb.same q) λo e=>r.fr p o (Ne.symm a6) (Zb hp hS) (Zb hp hd) (λb O=>by
   let⟨dx,hx⟩:=(R.tw b O).tw.self;exact⟨Zb hp hx,(a4.own b O).1.symm⟩) e
  let hL:∃ l',(if g=true then V.ref q3 else V.ref v)=.ref l'/\H3 l'=some (.lst (iN (YQ g (xX l.length m.length))))/\l'≠p:=by
   cases g
   ·exact⟨v,Z,X _ _ hn,a6⟩
   ·refine⟨q3,Z,?_,U3 W2 n3⟩;rw[c3];unfold iN YQ;rw[aO rfl,List.map_reverse]
  let⟨l',el,e4,e9⟩:=hL;rw[el];let rF:YU gt jh ji (· = p) H H3 S d Q ls l C (l++m) F J y x:=(rC.trans r λc z=>.inl (by rw[z];exact Y)).same X
  let ln:(YQ g (xX l.length m.length)).length=m.length:=by rw[Ou,List.length_range']
  refine e2 H3 (l++m) F J y x l' (YQ g (xX l.length m.length)) _ _ _ rF (W2.same X) e4 e9 ⟨AB (List.nodup_range'),λb O=>?_,?_⟩ (by rw[ln,zT]) (by rw[ln];exact c5)
  ·let O:=YC.mp O;let h1:=List.mem_range'_1.mp O;refine⟨by rw[zT];lia,hT _ (ZNZ O),hh b h1.1 h1.2⟩
  ·rw[ZKZ];exact rT
end
inductive VQ(s:jp)(jh ji:aj)(y:jf)(H:Hp)(Q:VK)(_:XK):Prop
 |mk(p S d o l:aj)(a:jr)(q:Nat->jq)(t:Nat->Nat)(h:jy)(n:List (Zh×V))(u x:jf)(c:jv)(_:y=[.ref p,.ref S,.ref l])(_:ZK H p)(_:Yc jh ji H S d o a q t h n u)(_:Ww H o a h p)(_:WF s a)(_:Pu a q t)(_:a.length+2 * c.length<=650)(_:H l=some (.lst x))(_:l≠p)(_:jY H (Z7 c) x)(_:∀ r∈c,r.fit)(_:Yf (c.map (·.1)))(_:c.length<=300)(_:∀(g:Hp)(b:jr)(k:Nat->jq)(m:Nat->Nat)(j:jy)(e:List (Zh×V))(v:jw),YU s jh ji (· = p) H g S d o u a h b k m j e->ZK g p->b.length<=a.length+2 * c.length->(∀ i,v=some i->i<b.length)->Q (Xv (Xs v)) g)
inductive IF(s:jp)(jh ji:aj)(H:Hp)(p S d t:aj)(u:jf)(n:jr)(r:jy)(l:jv)(a:Bool)(m:Nat)(q:aj)(c:jf)(e:Hp):Prop
 |mk(b:jr)(g:Nat->jq)(i:Nat->Nat)(o:jy)(j:List (Zh×V)):YU s jh ji (· = p) H e S d t u n r b g i o j->ZK e p->e q=some (.lst c)->q≠p->c.length<=300 ->
  ((a=false/\m=c.length+1/\jY e (Z7 l) c/\b.length=n.length)\/(a=true/\m=c.length/\∃ k h,c=iN k/\LG b g i k h l/\h+k.length<=301/\b.length+k.length<=n.length+2 * l.length))->IF s jh ji H p S d t u n r l a m q c e
inductive Jq(gt:jp)(jh ji:aj)(H:Hp)(p S l d lk:aj)(fw:Int)(back:Bool)(ls:jf)(ts:jr)(as:jy)(rs:jv)(m:Nat):L2.St->Hp->Prop
 |mk{stem:Bool}{lv:aj}{us:jf}{x7 x8 x9:jg}{H':Hp}:IF gt jh ji H p S d lk ls ts as rs stem m lv us H'->Jq gt jh ji H p S l d lk fw back ls ts as rs m [some (.ref p),some (.ref S),some (.ref l),some (.int fw),some (.bl back),some (.ref lv),some (.bl stem),x7,x8,x9] H'
def CN{gt:jp}(F0:Zg K "_law_plant" "_law_plant" Qt f fd)(T:YE mg)(L:Yw K mg jh ji)(DP:ZA P w K mg ki 1 "_law_pull" zEc Zp)(DC:ZA P w K mg ki 2 "_law_cut" zEj Uk)(DS:ZG P w K mg ki ZQ 10 jh "put_stem" zEi (Z8 gt jh ji))(DL:ZG P w K mg ki ZQ 10 jh "put_leaf" zEz (YX jh ji)):
  ZI P w K mg ki ZQ 11 f fd zEr (VQ gt jh ji):=by
 refine F0.ko X5 λe8 A c2 s H vs Q E hr h=>?_;let⟨p,S,d,lk,l,ts,av,ho,as,e0,ls,b,rs,rfl,W,R,a5,hw,hs,t4,hl,lp,hk,frs,e5,e4,k⟩:=h;let nd:=X5.nd;let c9:=hr.to 1;let⟨t,ht,hW⟩:=ZRf (P:=P) (w:=w) (K:=K) (mg:=mg) (ki:=ki) (f:=f) (cdv:=e8) (A:=A) (outer:=c2) (s:=s) (Hs:=H) (E:=E) T L hr DC DS DL;intro Xc;refine⟨_,ZN (Zi 3 nd (Zc DP c9 (Zl (pv 0) ZJ)))
  (ZN (Zi 4 nd (Vl Vb (Zc DP c9 (Zl (pv 0) ZJ)) ZJ (YK _)))
  (ZN (Zi 5 nd (Wn Pz rfl T.list QG (ZZ (pv 2))))
  (ZN (Zi 6 nd Wm)
  (ZN (Qx PassesOwn.never (PW.pt (Pa (XB Pm (Zw XE rfl T.len Y6 (ZZ (pv 5))) ZJ (YK _)) (OR (PW.pt (O5 (XB (Mx hr.units0) (pv 5) (Yb Zk) (YK _)) (Ow (Vv (Y7 (pv 6))))))))) ht)
  (ZS (Zd (Zt K (Zu Mn (pv 5) (Yb (ZZ IU))) ZJ))))))),?_⟩
 let⟨⟨dS,hS⟩,hd,_⟩:=R.sh;let⟨pw,hp⟩:=W.some;exists _,Z,p,4,Z,W,Xp (by decide) (by decide)
 intro fw H1 f0 f4 W1 s1;exists _,Z,p,2,Z,W1,Xp (by decide) (by decide)
 intro bk H2 b0 b1 W2 s2;let c3:=s1.trans s2;let⟨l0,i0⟩:=W2.some;let r0:YU gt jh ji (· = p) H H2 S d lk ls ts as ts av ho as e0:=(YU.refl R hw hs).but a5 Z hp c3 i0;let i7:=c3.tupsW W;exists Z;exists _,Z,l,b,Z,.inl (ZH.of (c3 _ _ hl lp));intro G e3;let g3:=ZW e3 (.lst b);let c6:=ZP (H:=H2) (a:=G) (o:=.lst b);generalize upd H2 G (.lst b)=H3 at g3 c6⊢;generalize decide (V.int bk=V.int 1)=x;let i3:b.length=rs.length:=by
  have:=hk.length;unfold Z7 at this;rw[zX] at this;exact this.symm
 let I0:IF gt jh ji H p S d lk ls ts as rs false (b.length+1) G b H3:=⟨ts,av,ho,as,e0,r0.same g3,W2.same g3,c6,U3 W2 e3,∅,.inl ⟨Z,Z,(hk.mono i7 _ _).sm g3,Z⟩⟩
 exists Jq gt jh ji H p S l d lk fw x ls ts as rs,⟨_,⟨I0⟩⟩;rintro m _ H4 (@⟨B,G,b,x7,x8,x9,_,C,a0,a1,I,F,r,W4,a8,e2,e1,cs⟩);let X:∀{y:Hp},ZD H4 y->YU gt jh ji (· = p) H y S d lk ls ts as C a0 a1 I F/\ZK y p/\y G=some (.lst b):=λg=>⟨r.same g,W4.same g,g _ _ a8⟩;let go:∀{Y:YJ}{y:Hp},ZD H4 y->(B=true->2<=b.length)->(∀ e7 H',(∃ m',m'<m/\Jq gt jh ji H p S l d lk fw x ls ts as rs m' e7 H')->Y.nx e7 H') ->
   t Y [some (.ref p),some (.ref S),some (.ref l),some (.int fw),some (.bl x),some (.ref G),some (.bl B),x7,x8,x9] y:=fun{Y y} g h2 c7=>by
  let⟨U,W5,D⟩:=X g;let⟨i6,i1⟩:=W5.some;let c5:Ww y lk C I p:=⟨⟨i6,i1⟩,a5.lk,U.own a5⟩;let t5:Z4 H4 y:=ZD.tups g;rcases cs with ⟨rfl,rfl,c8,lt⟩ | ⟨rfl,rfl,ns,h,rfl,a2,i8,a4⟩
  ·let i3:b.length=rs.length:=by have:=c8.length;unfold Z7 at this;rw[zX] at this;exact this.symm
   refine hW Y y p S d lk G fw x false _ x7 x8 x9 C I a0 a1 F ls b rs 0 W5 U.sh c5 U.wf U.hs ∅ f0 f4 D e2 e1 e4 (zN _) frs e5 (.inl ⟨rfl,c8.mono t5 _ _,rfl⟩) λH' c4 a7 a9 a6 N i4 v y7 y8 y9 r6 W6 M O c0 e6 J=>?_
   let J:1 * v.length<=b.length:=J;let ln:(iN v).length=v.length:=zX _;exact c7 _ _ ⟨(iN v).length,∅,.mk ⟨c4,a7,a9,a6,N,U.trans r6 (λc z=>.inr z),W6,M,O,∅,.inr ⟨Z,Z,v,0,Z,c0,∅,∅⟩⟩⟩
  ·let ln:(iN ns).length=ns.length:=zX _;let h2:=h2 Z;refine hW Y y p S d lk G fw x true _ x7 x8 x9 C I a0 a1 F ls (iN ns) rs (h+1) W5 U.sh c5 U.wf U.hs ∅ f0 f4 D e2 e1 e4 ∅ frs e5 (.inr ⟨rfl,∅,ns,h,rfl,a2,rfl⟩) λH' c4 a7 a9 a6 N i4 v y7 y8 y9 r6 W6 M O c0 e6 J=>?_
   let J:2 * v.length<=(iN ns).length:=J;let i9:(iN v).length=v.length:=zX _;exact c7 _ _ ⟨(iN v).length,∅,.mk ⟨c4,a7,a9,a6,N,U.trans r6 (λc z=>.inr z),W6,M,O,∅,.inr ⟨Z,Z,v,h+1,Z,c0,∅,∅⟩⟩⟩
 let a3:∀{y:Hp}{Y:YJ},Y.rt=Q->ZD H4 y->b.length<=1->(B=false->b=[])->N6 (Pq (MJ K) (Pq NZ (VB 5) (Hf (Yy (tC V.non) VG))) (tC (V.int 0))) Y [some (.ref p),some (.ref S),some (.ref l),some (.int fw),some (.bl x),some (.ref G),some (.bl B),x7,x8,x9] y:=fun{y Y} eD g h1 h0=>by
  let⟨U,W5,D⟩:=X g;exists _,Z,YF;intro q nq;let g6:=ZW nq (.lst [.non]);exists G,q,b,[.non],Z,Z,g6 _ _ D,ZP,yK (Y2 (n:=b.length+1) ∅)
  intro q' i5;let g7:=ZW i5 (.lst (b++[.non]));obtain⟨rn,e9,i2⟩:∃ rn:jw,(b++[V.non])[0]? = some (Xv (Xs rn))/\∀ i,rn=some i->i<C.length:=by
   rcases cs with ⟨z,_⟩ | ⟨_,_,ns,h,rfl,a2,_⟩
   ·rw[h0 z];exact⟨none,Z,λi e=>by cases e⟩
   ·cases ns with
    | nil=>exact⟨none,Z,λi e=>by cases e⟩
    | cons n ns=>exact⟨some n,Z,λi e=>by cases e;exact(a2.at_ n zI).1⟩
  refine .inl ⟨q',b++[.non],0,_,Z,Z,ZH.of ZP,YO (j:=0) e9,?_⟩;rw[eD];let a4:C.length<=ts.length+2 * rs.length:=by
   rcases cs with ⟨_,_,_,z⟩ | ⟨_,_,ns,h,rfl,a2,_,z⟩ <;> lia
  exact k _ C a0 a1 I F rn (U.same (g6.trans g7)) (W5.same (g6.trans g7)) a4 i2
 exists _,Z,G,b,Z,.inl (ZH.of a8),_,_,Z,Z,_,Z;rcases yP 1 b.length with c1 | c1
 ·rw[aK (show (1:Int)<((b.length:Nat):Int) by lia)]
  exact Zs (Zs ⟨_,λ_ _ z=>z,go (ZD.refl _) (λ_=>c1) λ_ _ z=>z⟩)
 ·rw[aJ (show ¬ (1:Int)<((b.length:Nat):Int) by lia)]
  refine Zf ⟨_,Z,YF,λq nq=>?_⟩;let g5:=ZW nq (.lst []);let eq:=ZP (H:=H4) (a:=q) (o:=.lst []);generalize upd H4 q (.lst [])=y at g5 eq⊢;exists G,q,b,Z,Z,ZH.of (g5 _ _ a8),ZH.of eq,_,Z
  cases b with
  | nil=>exact Zf (Zf (a3 rfl g5 c1 λ_=>rfl))
  | cons u b=>
   refine Zs ⟨_,Z,_,Z,?_⟩
   cases B with
   | false=>exact Zs ⟨_,λ_ _ z=>z,go g5 (λz=>by cases z) λ_ _ z=>z⟩
   | true=>exact Zf (a3 Z g5 c1 λz=>by cases z)
inductive VM(n:jf)(H:Hp)(Q:VK)(_:XK):Prop
 |mk(L i j l m:aj)(g h a b:jf)(c d:jv)(_:n=[.ref L])(_:H L=some (.lst [.ref i,.ref j]))(_:H i=some (.tup (.ref l::g)))(_:H j=some (.tup (.ref m::h)))(_:H l=some (.lst a))(_:H m=some (.lst b))(_:jY H (Z7 c) a)(_:jY H (Z7 d) b)(_:a.length<=400)(_:b.length<=400)(_:∀(D:aj)(k:jf)(e:Hp),ZD H e->H D=none->e D=some (.lst k)->jY e ((c++d).map (·.1)) k->Q (.ref D) e)
def ZNA:ZC zFc zFc (Za IN):=Zm
def ZLG(X:Zg K "_law_known" "_law_known" IN f fd):ZI P w K mg ki ZQ 1 f fd zFc VM:=by
 refine X.ko ZNA λY A M s H vs Q E hr h=>?_;let⟨L,N,O,V,W,a1,a2,b,d,m,p,rfl,S,G,I,h1,h2,k1,k2,l1,l2,q⟩:=h;intro Xc;exists _,ZS (Zd (VJ [] [] rfl (WX (Zu Mn (XM K (Zt K (pv 0) ZJ) ZJ) (XM K (Zt K (pv 0) ZJ) ZJ))) (λ_ _ _ _ _=>Vf) (λ_ _ _ _ _=>XM K (pv 0) ZJ) trivial));refine⟨_,Z,.inl ⟨L,_,_,.ref N,Z,Z,ZH.of S,Z,N,_,_,.ref V,Z,Z,Zj.of G,YO (j:=0) Z,?_⟩⟩;refine⟨_,Z,.inl ⟨L,_,_,.ref O,Z,Z,ZH.of S,Z,O,_,_,.ref W,Z,Z,Zj.of I,YO (j:=0) Z,?_⟩⟩;exists V,W,b,d,Z,Z,h1,h2,nn ∅
 intro c nc;let g:=ZW nc (.lst (b++d));let u:=ZP (H:=H) (a:=c) (o:=.lst (b++d));generalize upd H c (.lst (b++d))=x at g u⊢;let y:jY x (Z7 (m++p)) (b++d):=by
  rw[GN];exact(k1.sm g).append (k2.sm g)
 let lu:(b++d).length<=800:=by rw[zT];lia
 let U:(b++d).length=(m++p).length:=by have:=y.length;rw[<-this];exact zX _
 generalize b++d=r at u y lu U;generalize m++p=rs at y U q;refine⟨c,Z,⟨r,ZH.of u⟩,Vm (n:=r.length) (λi z=>r[i]? = some z) (λD i t l=>ZD x l/\x D=none/\jY x ((rs.map (·.1)).take i) t) (Y2 ∅)
  (λD i t l J e=>⟨r,r[i],ZH.of (e.1 _ _ u),by simp[J]⟩) (λD i t l z H4 J e T=>⟨T.1,T.2 r (ZH.of (e.1 _ _ u))⟩) (λD t l e=>⟨r,ZH.of (e.1 _ _ u),zY _⟩)
  (λD R=>⟨ZW R _,R,.nil⟩) (λD i t l z C a0 J hz e RR F=>?_) (λD t l C e=>?_)⟩
 ·let⟨v,B,k⟩:=e;let⟨a,vk,vv,er,rfl,ea,e1,e2⟩:=row_at y hz;refine⟨_,Z,a,_,_,vk,Z,Z,Zj.of (v _ _ ea),Z,F _ l C ⟨UR v B,B,?_⟩⟩;rw[yN,zE,er];exact k.append (.cons e1 .nil)
 ·let⟨v,B,k⟩:=e;rw[yX (by rw[zX];lia)] at k
  exact q D t l (g.trans v) (g.free B) C (k.sm v)
inductive QS(w:ax)(Q:VK)(y x:V)(b:Hp):Prop
 |mk(a:aj)(c:List (KT×V×V))(t:KT)(_:x=.ref a)(_:Zx w b a c)(_:ZB b t y)(_:t.depth<=3)(_:Q (.bl (!(XG c t).isSome)) b)
def C1(w:ax)(e d:TE):TE:=λa H Q=>e a H λy b=>d a b λx c=>QS w Q y x c
def E3{X:Cx}{i o:Expr}{d c:TE}(v:X.A.units+5<cLine)(q:PE X i d)(r:PE X o c):PC X .NotIn i o (C1 X.w d c):=by
 intro b s e H Q I h;refine Z2 (q b s e H _ I h) λG F y f j E B=>Zy (r b F e f _ j B) ?_;rintro u J ⟨x,g,k,D,a,L,t,p,m,z,n,C⟩;subst p;obtain rfl:u=Value.ref a:=D;exact AD v k m z n E λK l=>⟨.bl _,g,l,Z,C⟩
def IJ:∀(n:Nat)(l:jq),l.Nodup->(∀ x∈l,x<n)->l.length<=n
 | 0,[],_,_=>zY _
 | 0,x::_,_,h=>absurd (h x (zI ..)) ∅
 | n+1,l,d,h=>by
  let b:=IJ n (l.erase n) (d.erase n) λx a=>by
   have:=h x (List.mem_of_mem_erase a);let e:x≠n:=λz=>by
    rw[z] at a;exact(List.Nodup.not_mem_erase d) a
   lia
  by_cases c:n∈l
  ·rw[List.length_erase_of_mem c] at b
   lia
  ·rw[List.erase_of_not_mem c] at b
   lia
inductive Uw(H:Hp)(t:ZM)(v:V):Prop
 |mk(b u a:_)(_:v=.ref b)(_:H b=some (.tup [.str (kindOf t),.ref u]))(_:H u=some (.tup a))(_:t.h=0->jY H (Z7 t.rows) a)(_:t.h≠0->a=iN t.bs)
def Uw.mono{H a:Hp}{t:ZM}{v:V}(h:Uw H t v)(m:Z4 H a):Uw a t v:=by
 let⟨g,u,i,e,b,c,d,f⟩:=h;exact⟨g,u,i,e,m _ _ b,m _ _ c,λz=>(d z).mono m _ _,f⟩
abbrev kN(j:Nat):KT:=.int (j:Int)
def Hk{i j:Nat}(h:i≠j):(kN i).eqb (kN j)=false:=by
 cases e:(kN i).eqb (kN j) with
 | false=>rfl
 | true=>exact absurd (by have:=Vg _ _ e;injection this with this;lia) h
def Pt(H:Hp)(j:Nat):ZB H (kN j) (.int (j:Int)):=by rw[ZB]
structure Y8(w:ax)(ts:jr)(H:Hp)(d:aj)(xs:List (KT×V×V))(F:jq):Prop where
 dk:Zx w H d xs
 nd:F.Nodup
 lt:∀ j∈F,j<ts.length
 no:∀ j:Nat,j∉F->XG xs (kN j)=none
 yes:∀ j:Nat,j∈F->∃ v,XG xs (kN j)=some v/\Uw H (gd ts j) v
def Y8.go{w:ax}{c:jr}{H a:Hp}{d:aj}{f:List (KT×V×V)}{F:jq}(h:Y8 w c H d f F)(m:Z4 H a)(l:∀ o,H d=some o->a d=some o):Y8 w c a d f F:=by
 refine⟨?_,h.nd,h.lt,h.no,λj n=>?_⟩
 ·let⟨g,i,k⟩:=h.dk.ex;exact⟨⟨g,l _ i,k⟩,λz b=>⟨(h.dk.key z b).1.mono m,(h.dk.key z b).2⟩,h.dk.nd⟩
 ·let⟨v,e,r⟩:=h.yes j n;exact⟨v,e,r.mono m⟩
def Y8.but{w:ax}{b:jr}{H a:Hp}{d p:aj}{c:List (KT×V×V)}{F:jq}(h:Y8 w b H d c F)(s:ZE p H a)(m:Z4 H a)(n:d≠p):Y8 w b a d c F:=h.go m λo e=>s _ _ e n
def Y8.same{w:ax}{b:jr}{H a:Hp}{d:aj}{c:List (KT×V×V)}{F:jq}(h:Y8 w b H d c F)(s:ZD H a):Y8 w b a d c F:=h.go (ZD.tups s) λo e=>s _ _ e
def Y8.put{w:ax}{g:jr}{H f:Hp}{d:aj}{k:List (KT×V×V)}{F:jq}(h:Y8 w g H d k F)(m:Z4 H f){j:Nat}(p:j<g.length)(q:j∉F){y v:V}(s:Uw f (gd g j) v)(l:Zx w f d (VH k (kN j) y v)):Y8 w g f d (VH k (kN j) y v) (F++[j]):=by
 refine⟨l,?_,λi c=>?_,λi c=>?_,λi c=>?_⟩
 ·rw[uN];exact⟨h.nd,by simp,λa n b o=>by rw[zK.mp o];exact λz=>q (z ▸ n)⟩
 ·rcases zB.mp c with z | z
  ·exact h.lt i z
  ·rw[zK.mp z];exact p
 ·let t:i∉F:=λz=>c (xU _ z);let u:j≠i:=λz=>c (yL _ (by rw[z];exact zK.mpr Z))
  rw[Ol,Hk u,aM zW];exact h.no i t
 ·rw[Ol];by_cases z:j=i
  ·subst z;rw[Uh,aO rfl];exact⟨v,Z,s⟩
  ·rw[Hk z,aM zW];let⟨x,e,r⟩:=h.yes i ((zB.mp c).elim id λy=>absurd (zK.mp y).symm z);exact⟨x,e,r.mono m⟩
def C3{b:List (KT×V×V)}{j:Nat}{y v:V}(h:∀ t∈b.map (·.1),∃ j:Nat,t=kN j):∀ t∈(VH b (kN j) y v).map (·.1),∃ j:Nat,t=kN j:=λt a=>by
 rw[LQ] at a;split at a
 ·exact h t a
 ·rcases zB.mp a with z | z
  ·exact h t z
  ·exact⟨j,zK.mp z⟩
def Zx.o{w:ax}{H:Hp}{d:aj}{b:List (KT×V×V)}(h:Zx w H d b):∃ a,H d=some (Vk d a):=by
 let⟨a,e,_⟩:=h.ex;exact⟨a,e⟩
def P0{w:ax}{H:Hp}{d b:aj}{f:List (KT×V×V)}{o:HO}(h:Zx w H d f)(e:H b=some o)(n:∀ a,o≠Vk d a):b≠d:=by
 let⟨a,c⟩:=h.o;exact Zb e c (n a)
def Jx(a:jr)(F:jq)(T:List (jw)):Prop:=∀ j∈F,∀ b∈(gd a j).bs,b∈F\/some b∈T
abbrev VL(l:List (jw)):jf:=l.map λx=>Xv (Xs x)
def M8(a:jr):jw->Nat
 | none=>1
 | some j=>5 ^ (gd a j).h
def P5(a:jr)(l:List (jw)):Nat:=(l.map (M8 a)).sum
def JU{a:jr}{l:List (jw)}{x:jw}:P5 a l<P5 a (l++[x]):=by
 unfold P5;rw[zH,sN];have:0<M8 a x:=by
  cases x with
  | none=>exact Nat.one_pos
  | some j=>exact Nat.pow_pos (by decide)
 simp only[zF,wJ,wU,rP,vK]
 lia
def ZLc{a:jr}{i:jp}{l:List (jw)}{b:Nat}(o:WF i a)(m:b<a.length)(n:(gd a b).h≠0):P5 a (l++(gd a b).bs.map some)<P5 a (l++[some b]):=by
 let⟨r,j,k,_⟩:=(o b _ (Yl m)).stem n;let e:∀(d:jq),(∀ c∈d,(gd a c).h+1=(gd a b).h)->((d.map some).map (M8 a)).sum=d.length * 5 ^ ((gd a b).h-1):=by
  intro d
  induction d with
  | nil=>intro _;simp
  | cons c d q=>
   intro h;let f:=h c (zI ..);rw[zF,zF,wU,q λx p=>h x (zG _ p),yV,Nat.succ_mul];show 5 ^ (gd a c).h+_=_;rw[show (gd a c).h=(gd a b).h-1 by lia]
   lia
 unfold P5;rw[zH,sN,zH,sN,e _ λc f=>(k c f).2];let g:M8 a (some b)=5 * 5 ^ ((gd a b).h-1):=by
  show 5 ^ (gd a b).h=_;have:(gd a b).h=((gd a b).h-1)+1:=∅
  rw[this,Nat.pow_succ,Nat.mul_comm];simp
 let pos:0<5 ^ ((gd a b).h-1):=Nat.pow_pos (by decide)
 simp only[zF,wJ,wU,rP,vK];rw[g];have:(gd a b).bs.length * 5 ^ ((gd a b).h-1)<=4 * 5 ^ ((gd a b).h-1):=Nat.mul_le_mul_right _ j
 lia
inductive Xf(w:ax)(m:jp)(jh ji:aj)(n:jf)(H:Hp)(Q:VK)(E:XK):Prop
 |mk(X:YH)(g:aj)(c:Nat)(h:jf)(k:jw)(d:aj)(_:n=[.ref X.S,Xv (Xs k),.ref d])(_:Z3 jh ji H X g c h)(_:WF m X.ts)(_:X.ts.length<=650)(_:h.length<=5000)(_:∀ i,k=some i->i<X.ts.length)(_:Zx w H d [])
 (_:∀(e:Hp)(l:List (KT×V×V))(F:jq)(a:jf),(∀ b o,b≠g->b≠d->H b=some o->e b=some o)->Z3 jh ji e X g c a->a.length<=h.length+X.ts.length->Y8 w X.ts e d l F->l.length<=F.length->(∀ t∈l.map (·.1),∃ j:Nat,t=kN j)->Jx X.ts F []->(∀ i,k=some i->i∈F)->Q (.ref d) e)
abbrev AJ:jt:=["_law_shelf","_law_root_here","_law_found","_law_todo","_law_number","_law_kind","_law_what"]
def Wq:ZC AJ zEp (Za Jg):=Zm
structure XZ(w:ax)(jh ji:aj)(H H':Hp)(X:YH)(lk:aj)(c:Nat)(ls:jf)(d ta:aj)(todo:List (jw))(F:jq)(xs:List (KT×V×V))(ls':jf):Prop where
 fr:∀ b o,b≠lk->b≠d->H b=some o->H' b=some o
 sh:Z3 jh ji H' X lk c ls'
 len:ls'.length=ls.length+F.length
 rcd:Y8 w X.ts H' d xs F
 xl:xs.length<=F.length
 kx:∀ t∈xs.map (·.1),∃ j:Nat,t=kN j
 hta:H' ta=some (.lst (VL todo))
 nta:H ta=none
 tl:ta≠lk
 tw:∀ i:Nat,i<X.ts.length->(X.as.getD i .d).ab≠ta/\(X.as.getD i .d).th≠ta
section
variable{H H' H'':Hp}{X:YH}{lk:aj}{c:Nat}{ls ls':jf}{d ta:aj}{todo todo':List (jw)}{F:jq}{xs:List (KT×V×V)}
def XZ.same(r:XZ w jh ji H H' X lk c ls d ta todo F xs ls')(s:ZD H' H''):XZ w jh ji H H'' X lk c ls d ta todo F xs ls':=
 ⟨λb o a g e=>s b o (r.fr b o a g e),r.sh.same s,r.len,r.rcd.same s,r.xl,r.kx,s _ _ r.hta,r.nta,r.tl,r.tw⟩
def XZ.pop(r:XZ w jh ji H H' X lk c ls d ta todo F xs ls'):XZ w jh ji H (upd H' ta (.lst (VL todo'))) X lk c ls d ta todo' F xs ls':=by
 let s:ZE ta H' (upd H' ta (.lst (VL todo'))):=(ZE.refl ta H').upd;let t:=s.tups r.hta;let⟨⟨m,g⟩,h,p⟩:=r.sh.sh;let N:¬ Ld X lk ta:=by
  rintro(z | z | z)
  ·exact Zb r.hta g (by intro z;cases z) z
  ·exact Zb r.hta h (by intro z;cases z) z
  ·exact r.tl z
 refine⟨λb o k l e=>by rw[ZU (ZY e r.nta)];exact r.fr b o k l e,r.sh.but s N (λi a=>?_) t,r.len,r.rcd.but s t (Ne.symm (P0 r.rcd.dk r.hta λ_ z=>nomatch z)),r.xl,r.kx,ZP,r.nta,r.tl,r.tw⟩
 let⟨n,j⟩:=(r.sh.tw i a).tw.self;exact⟨Zb j r.hta,r.tw i a⟩
def XZ.anew(r:XZ w jh ji H H' X lk c ls d ta todo F xs ls'){q:aj}(a:H' q=none):XZ w jh ji H (upd H' q (.lst (VL todo'))) X lk c ls d q todo' F xs ls':=by
 let g:=ZW a (.lst (VL todo'));let b:=r.same g;let h:q≠lk:=(ZY r.sh.sh.looks a).symm;let⟨n,l⟩:=r.rcd.dk.o;let m:q≠d:=(ZY l a).symm;refine⟨b.fr,b.sh,b.len,b.rcd,b.xl,b.kx,ZP,?_,h,λi j=>?_⟩
 ·cases e:H q with
  | none=>rfl
  | some o=>rw[r.fr q o h m e] at a;cases a
 ·let⟨p,k,_⟩:=(r.sh.tw i j).things;exact⟨ZY (r.sh.tw i j).tw.above a,ZY k a⟩
end
def JD(t:ZM):decide (V.str (kindOf t)=V.str "stem")=decide (t.h≠0):=by
 by_cases h:t.h=0
 ·rw[Dc h,aJ (show ¬ t.h≠0 from λz=>z h)];decide +kernel
 ·rw[Gi h,aK rfl,aK h]
inductive ReL(w:ax)(X:YH)(e:jw)(d jh ji:aj)(H:Hp)(j:aj)(c:Nat)(k:jf)(m:Nat)(q:L2.St)(h:Hp):Prop
 |mk(g:aj)(a:List (jw))(F:jq)(p:List (KT×V×V))(b:jf)(l n o:jg)(_:q=[some (.ref X.S),some (Xv (Xs e)),some (.ref d),some (.ref g),l,n,o])(_:m=P5 X.ts a)(_:XZ w jh ji H h X j c k d g a F p b)(_:Jx X.ts F a)(_:∀ i,e=some i->i∈F\/some i∈a)(_:∀ i,some i∈a->i<X.ts.length)(_:a.length<=1+4 * F.length)
def BS{gt:jp}(F0:Zg K "_law_reached" "_law_reached" Jg f fd)(T:YE mg)(L:Yw K mg jh ji)(DL:ZG P w K mg ki ZQ 2 jh "look" zEa (X3 jh ji)):ZI P w K mg ki ZQ 3 f fd zEp (Xf w gt jh ji):=by
 refine F0.ko Wq λi1 A e4 s H vs Q E hr h=>?_;let⟨X,lk,c,ls,rn,d,rfl,R,hw,i0,e8,c9,dk,k⟩:=h;let nd:=Wq.nd;let hu:=ZT.key hr (n:=5) (by decide)
 let Oa:=ZT.key hr (n:=4) (by decide)
 intro Xc;refine⟨_,ZN (Zi 3 nd (Yb (ZZ (pv 1))))
  (ZN (Qx PassesOwn.never (XB (Mx hr.units0) (pv 3) (Yb Zk) (YK _))
   (ZN (Zi 4 nd (B3 xO PySem.F.slot_list_pop PySem.F.type_list_pop ZOu (pv 3)))
   (ZS (Zz (PW.pt (O5 (Xb (OP (pv 4))) (Ow (Xb (E3 hu (pv 4) (pv 2))))))
    (ZN (Q8 (XX (E:=E0) (pv 0) L.cS DL hr Yn (ZZ (pv 4))) (OA rfl (UL (Xx 5 nd) (UL (Xx 6 nd) Of))))
    (ZN (Lh Oa (pv 2) (pv 4) (Xl (Zl (pv 5) (Wn Oy rfl T.tuple Q2 (ZZ (pv 6))))) rfl)
    (ZS (Zz (XB Vb (pv 5) VP (YK _)) (ZS (Zi 3 nd (Zu Mn (pv 3) (Wn Pz rfl T.list QG (ZZ (pv 6)))))) Z1)))) Z1))))
  (ZS (Zd (pv 2)))),?_⟩
 let a4:=R.sh.looks;let a8:d≠lk:=Ne.symm (P0 dk a4 λ_ z=>nomatch z);exists _,Z,YF;intro I U;let g0:=ZW U (.lst [Xv (Xs rn)]);let I0:XZ w jh ji H (upd H I (.lst [Xv (Xs rn)])) X lk c ls d I [rn] [] [] ls:=by
  exists λb o _ _ e=>g0 b o e,R.same g0,Z,⟨dk.same g0,.nil,λj M=>by simp at M,λj _=>rfl,λj M=>by simp at M⟩,zY _,(λt ht=>by simp at ht),ZP,U,(ZY a4 U).symm
  intro i g;let⟨O,e1,_⟩:=(R.tw i g).things;exact⟨ZY (R.tw i g).tw.above U,ZY e1 U⟩
 refine⟨ReL w X rn d jh ji H lk c ls,
  ⟨_,I,[rn],[],[],ls,none,none,none,Z,Z,I0,λj M=>by simp at M,λi g=>.inr (by rw[g];exact zK.mpr Z),λi g=>c9 i (zK.mp g).symm,zY _⟩,?_⟩
 rintro m σ H1 ⟨I,a6,F,q,J,x4,x5,x6,rfl,rfl,r1,a1,G,c3,c0⟩;let lF:=IJ X.ts.length F r1.rcd.nd r1.rcd.lt;exists _,Z,YF;intro e0 c7;let ge:=ZW c7 (.lst []);let V:=r1.same ge;exists I,e0,VL a6,Z,Z,ZH.of V.hta,ZH.of ZP,_,Z;generalize upd H1 e0 (.lst [])=H2 at V⊢;rcases qQ a6 with z | ⟨rest,x,z⟩
 ·subst z;refine Zf ⟨_,Z,k H2 q F J V.fr V.sh (by rw[V.len];lia) V.rcd V.xl V.kx a1 λi g=>(G i g).elim id λz=>by simp at z⟩
 rw[qT] at z;subst z;let c5:(!(VL (rest++[x])).isEmpty)=true:=by simp[VL]
 rw[c5];let eT:VL (rest++[x])=VL rest++[Xv (Xs x)]:=by simp[VL]
 refine Zs ⟨_,λ_ _ z=>z,?_⟩;exists _,Z,.inl ⟨Z,_,ZH.of V.hta⟩,I,VL (rest++[x]),Xv (Xs x),Z,Z,V.hta,by rw[eT];simp
 let r:XZ w jh ji H (upd H2 I (.lst (VL (rest++[x])).dropLast)) X lk c ls d I rest F q J:=by
  rw[eT,List.dropLast_concat];exact V.pop
 generalize upd H2 I (.lst (VL (rest++[x])).dropLast)=H3 at r⊢;rw[zT] at c0;let e7:rest.length+1<=1+4 * F.length:=c0;let D:∀ i,some i∈rest->i<X.ts.length:=λi g=>c3 i (xU _ g)
 cases x with
 | none=>
  refine⟨_,Z,_,Z,Zf (Zf ?_)⟩;refine⟨_,JU,I,rest,F,q,J,_,_,_,Z,Z,r,λj M b C=>(a1 j M b C).imp id λz=>?_,λi g=>(G i g).imp id λz=>?_,D,∅⟩
  ·exact(zB.mp z).elim id λy=>by simp at y
  ·exact(zB.mp z).elim id λy=>by simp at y
 | some j=>
  let M:=c3 j (by simp)
  refine⟨_,Z,_,Z,Zs ?_⟩;by_cases hF:j∈F
  ·let⟨v,ev,_⟩:=r.rcd.yes j hF;exists _,Z,_,Z,d,q,kN j,Z,r.rcd.dk,Pt _ _,zN _,_,Z;rw[ev];refine Zf ?_;refine⟨_,JU,I,rest,F,q,J,_,_,_,Z,Z,r,λi g b C=>?_,λi g=>?_,D,∅⟩
   ·rcases a1 i g b C with z | z
    ·exact .inl z
    ·rcases zB.mp z with y | y
     ·exact .inr y
     ·have:=zA.inj (zK.mp y);exact .inl (this ▸ hF)
   ·rcases G i g with z | z
    ·exact .inl z
    ·rcases zB.mp z with y | y
     ·exact .inr y
     ·have:=zA.inj (zK.mp y);exact .inl (this ▸ hF)
  ·let ev:=r.rcd.no j hF;exists _,Z,_,Z,d,q,kN j,Z,r.rcd.dk,Pt _ _,zN _,_,Z;rw[ev];refine Zs ?_;let⟨dx,hS⟩:=r.sh.sh.self;let ll:=r.len;exists _,Z,X.S,dx,_,Z,hS,Z,_,Z,X,lk,c,J,j,Z,r.sh,M,by lia
   intro H4 tp l O a2 R4 e2 nl hl w1 w2;let e3:Z4 H3 H4:=λb xs e=>a2 b _ (Zb e r.sh.sh.looks) e;let e5:Y8 w X.ts H4 d q F:=r.rcd.but (p:=lk) (λb o e n=>a2 b o n e) e3 a8;let c2:=a2 _ _ r.tl r.hta;exists tp,_,Z,Zj.of e2,Z,_,_,Z,_,_,Z,Z;refine⟨_,Z,_,Z,l,O,Z,.inl ⟨ZH.of hl,λu nu=>⟨YF,λt nt=>?_⟩⟩⟩;let g5:=ZW nu (.tup O);let g6:=ZW nt (.tup [.str (kindOf (gd X.ts j)),.ref u]);let B:=g5.trans g6;let eu:=g6 _ _ (ZP (H:=H4) (a:=u) (o:=.tup O));let et:=ZP (H:=upd H4 u (.tup O)) (a:=t) (o:=.tup [.str (kindOf (gd X.ts j)),.ref u]);generalize upd (upd H4 u (.tup O)) t (.tup [.str (kindOf (gd X.ts j)),.ref u])=H6 at B eu et⊢;let Y:=e5.same B;let a5:=B _ _ c2;let c1:=B _ _ hl;let R6:=R4.same B;let i5:=r.xl;exists _,Z,_,Z,d,q,kN j,Z,Y.dk,∅,Pt _ _,zN _
   intro H7 sx c4;let rv:Uw H6 (gd X.ts j) (.ref t):=⟨t,u,O,Z,et,eu,λz=>(w1 z).sm B,w2⟩;let a7:=KO Y.dk sx;let e6:=Y.put a7 M hF (rv.mono a7) c4;let⟨i2,i3⟩:=Y.dk.o;let dn:∀{b:aj}{o:HO},H6 b=some o->(∀ es,o≠Vk d es)->b≠d:=λe n=>P0 Y.dk e n;let N:¬ Ld X lk d:=by
    let⟨⟨dS,c6⟩,hX,_⟩:=R6.sh;rintro(z | z | z)
    ·exact dn c6 (λ_ z=>nomatch z) z.symm
    ·exact dn hX (λ_ z=>nomatch z) z.symm
    ·exact a8 z
   let r7:XZ w jh ji H H7 X lk c ls d I rest (F++[j]) (VH q (kN j) (.int (j:Int)) (.ref t)) (J++[.int (j:Int)]):=by
    refine⟨λb o n1 n2 e=>sx b o (B b o (a2 b o n1 (r.fr b o n1 n2 e))) n2,R6.but sx N (λi g=>?_) a7,by rw[zT,zT,ll];rfl,e6,by have:=Kh q (kN j) (.int (j:Int)) (.ref t);rw[zT];simp only[vR];lia,C3 r.kx,sx _ _ a5 (dn a5 λ_ z=>nomatch z),r.nta,r.tl,r.tw⟩
    let W:=R6.tw i g;let⟨dy,hy⟩:=W.tw.self;let⟨i8,e1,_⟩:=W.things;exact⟨dn hy (λ_ z=>nomatch z),dn W.tw.above (λ_ z=>nomatch z),dn e1 (λ_ z=>nomatch z)⟩
   let c8:=sx _ _ c1 (dn c1 λ_ z=>nomatch z);let a3:∀ i∈F,∀ b∈(gd X.ts i).bs,b∈F++[j]\/some b∈rest:=λi g b C=>by
    rcases a1 i g b C with z | z
    ·exact .inl (xU _ z)
    ·rcases zB.mp z with y | y
     ·exact .inr y
     ·exact .inl (yL _ (zK.mpr (zA.inj (zK.mp y))))
   let a0:∀ i,rn=some i->i∈F++[j]\/some i∈rest:=λi g=>by
    rcases G i g with z | z
    ·exact .inl (xU _ z)
    ·rcases zB.mp z with y | y
     ·exact .inr y
     ·exact .inl (yL _ (zK.mpr (zA.inj (zK.mp y))))
   let i4:(F++[j]).length=F.length+1:=by rw[zT];rfl
   let ok:=hw j _ (Yl M);exists _,Z,Z,_,Z;rw[JD];by_cases h0:(gd X.ts j).h=0
   ·rw[aJ (show ¬ (gd X.ts j).h≠0 from λz=>z h0)];refine Zf ⟨_,JU,I,rest,F++[j],_,_,_,_,_,Z,Z,r7,λi g b C=>?_,a0,D,∅⟩
    rcases zB.mp g with z | z
    ·exact a3 i z b C
    ·rw[zK.mp z,(ok.leaf h0).1] at C;simp at C
   ·rw[aK (show (gd X.ts j).h≠0 from h0)];let⟨b2,b4,b3,_⟩:=ok.stem h0;let a9:=w2 h0;let i7:O.length=(gd X.ts j).bs.length:=by rw[a9];exact zX _
    let i6:(VL rest).length=rest.length:=zX _;refine Zs ⟨_,Z,_,Z,l,O,Z,.inl (ZH.of c8),λq1 n1=>?_⟩;let g8:=ZW n1 (.lst O);let r8:=r7.same g8;exists I,q1,VL rest,O,Z,Z,r8.hta,ZP,yK (K3 ∅)
    intro q2 n2;let e9:VL rest++O=VL (rest++(gd X.ts j).bs.map some):=by
     rw[a9];simp[VL,iN,Xv,Xs]
    rw[e9];refine⟨_,ZLc hw M h0,q2,rest++(gd X.ts j).bs.map some,F++[j],_,_,_,_,_,Z,Z,r8.anew n2,λi g b C=>?_,λi g=>(a0 i g).imp id λz=>xU _ z,λi g=>?_,by rw[zT,zX];lia⟩
    ·rcases zB.mp g with z | z
     ·exact(a3 i z b C).imp id λy=>xU _ y
     ·rw[zK.mp z] at C;exact .inr (yL _ (zL.mpr ⟨b,C,rfl⟩))
    ·rcases zB.mp g with z | z
     ·exact D i z
     ·let⟨b,C,e⟩:=zL.mp z;cases e;have:=(b3 i C).1
      lia
structure XR(w:ax)(gt:jp)(ts:jr)(H:Hp)(d:aj)(xs:List (KT×V×V))(F:jq):Prop where
 rcd:Y8 w ts H d xs F
 clo:Jx ts F []
 wf:WF gt ts
def XR.go{w:ax}{b:jp}{c:jr}{H a:Hp}{d:aj}{e:List (KT×V×V)}{F:jq}(r:XR w b c H d e F)(m:Z4 H a)(f:∀ o,H d=some o->a d=some o):XR w b c a d e F:=⟨r.rcd.go m f,r.clo,r.wf⟩
def XR.same{w:ax}{b:jp}{c:jr}{H a:Hp}{d:aj}{f:List (KT×V×V)}{F:jq}(r:XR w b c H d f F)(s:ZD H a):XR w b c a d f F:=r.go (ZD.tups s) λo e=>s _ _ e
def XR.sub{w:ax}{c:jp}{a:jr}{H:Hp}{d:aj}{g:List (KT×V×V)}{F:jq}(r:XR w c a H d g F){j b:Nat}(f:j∈F)(e:b∈(gd a j).bs):b∈F:=(r.clo j f b e).elim id λz=>by simp at z
def XR.get{w:ax}{g:jp}{a:jr}{H:Hp}{d:aj}{e:List (KT×V×V)}{F:jq}(r:XR w g a H d e F){j:Nat}(n:j∈F):∃ c u b,XG e (kN j)=some (.ref c)/\H c=some (.tup [.str (kindOf (gd a j)),.ref u])/\H u=some (.tup b)/\((gd a j).h=0->jY H (Z7 (gd a j).rows) b)/\((gd a j).h≠0->b=iN (gd a j).bs):=by
 let⟨v,f,c,u,b,rfl,i,k,l,m⟩:=r.rcd.yes j n;exact⟨c,u,b,f,i,k,l,m⟩
structure Vh where
 T:aj
 r:aj
 d:aj
 rn:jw
 us:jf
 rs:jv
 kv:List (KT×V×V)
 F:jq
structure Yr(w:ax)(gt:jp)(ts:jr)(H:Hp)(t:Vh):Prop where
 tp:H t.T=some (.tup [.ref t.r,Xv (Xs t.rn),.ref t.d])
 rl:H t.r=some (.lst t.us)
 ks:jY H (Z7 t.rs) t.us
 fit:∀ x∈t.rs,x.fit
 len:t.rs.length<=300
 rcd:XR w gt ts H t.d t.kv t.F
 xl:t.kv.length<=t.F.length
 kx:∀ x∈t.kv.map (·.1),∃ j:Nat,x=kN j
 rt:∀ i,t.rn=some i->i∈t.F
def Yr.go{w:ax}{b:jp}{c:jr}{H a:Hp}{t:Vh}(h:Yr w b c H t)(m:Z4 H a)(f:∀ o,H t.r=some o->a t.r=some o)(e:∀ o,H t.d=some o->a t.d=some o):Yr w b c a t:=
 ⟨m _ _ h.tp,f _ h.rl,h.ks.mono m _ _,h.fit,h.len,h.rcd.go m e,h.xl,h.kx,h.rt⟩
def Yr.grow{w:ax}{f:jp}{e a:jr}{H:Hp}{t:Vh}(h:Yr w f e H t)(k:e.length<=a.length)(d:∀ i,i<e.length->gd a i=gd e i)(l:WF f a):Yr w f a H t:=
 ⟨h.tp,h.rl,h.ks,h.fit,h.len,⟨⟨h.rcd.rcd.dk,h.rcd.rcd.nd,λj c=>yY (h.rcd.rcd.lt j c) k,h.rcd.rcd.no,λj c=>by rw[d j (h.rcd.rcd.lt j c)];exact h.rcd.rcd.yes j c⟩,λj c b g=>by rw[d j (h.rcd.rcd.lt j c)] at g;exact h.rcd.clo j c b g,l⟩,h.xl,h.kx,h.rt⟩
def Yc.back{a b:aj}{H k:Hp}{S d j:aj}{f:jr}{h:Nat->jq}{i:Nat->Nat}{g:jy}{c:List (Zh×V)}{l e:jf}(R:Yc a b H S d j f h i g c l)(Q:Z3 a b k ⟨S,d,f,h,i,g,c⟩ j f.length e):Yc a b k S d j f h i g c e:=
 ⟨Q.sh,R.keys,R.val,R.len,Q.tw,R.own,R.two⟩
def Ww.same{H b:Hp}{f c:aj}{g:jr}{d:jy}(a:Ww H f g d c)(s:ZD H b):Ww b f g d c:=by
 let⟨o,e⟩:=a.at_;exact⟨⟨o,s _ _ e⟩,a.lk,a.own⟩
def YU.keep{x:jp}{g h:aj}{N:aj->Prop}{j H:Hp}{S d k:aj}{u:jf}{f v:jr}{w m:Nat->jq}{A n:Nat->Nat}{a q:jy}{p i:List (Zh×V)}(r:YU x g h N j H S d k u f a v w A q p)(R:Yc g h j S d k f m n a i u){c:aj}{o:jf}(l:Ww j k f a c)(C:¬ N c)(e:j c=some (.lst o)):H c=some (.lst o)/\Ww H k v q c:=by
 let⟨⟨D,y⟩,z,_⟩:=R.sh;let s:=r.fr c _ C (Zb e y) (Zb e z) (λb t=>by
  let⟨E,B⟩:=(R.tw b t).tw.self;exact⟨Zb e B,(l.own b t).1.symm⟩) e
 exact⟨s,⟨_,s⟩,l.lk,r.own l⟩
structure Ob(w:ax)(gt:jp)(jh ji:aj)(H0 H:Hp)(S d lk L:aj)(ts:jr)(av:Nat->jq)(ho:Nat->Nat)(as:jy)(kvs:List (Zh×V))(ls:jf)(TL:List Vh):Prop where
 pla:YU gt jh ji (λ_=>False) H0 H S d lk ls [] [] ts av ho as kvs
 hL:H L=some (.lst (TL.map λt=>V.ref t.T))
 aL:Ww H lk ts as L
 nL:H0 L=none
 trs:∀ t∈TL,Yr w gt ts H t/\Ww H lk ts as t.r/\t.r≠L/\H0 t.d=none
 dif:TL.Pairwise λa b=>a.d≠b.d
inductive VN(w:ax)(n:jp)(K:zZ)(jh ji:aj)(q:jf)(H:Hp)(Q:VK)(_:XK):Prop
 |mk(b:Hp)(a S d h:aj)(k:jF)(c:Nat->jq)(e:Nat->Nat)(_:q=[.ref a,.ref S])(_:ZH K b a (k.map V.int))(_:k.length<=63)(_:ZD b H)(_:b S=none)(_:b d=none)(_:b h=none)(_:Yc jh ji H S d h [] c e [] [] [])(_:∀(i:Hp)(L:aj)(l:jr)(c:Nat->jq)(e:Nat->Nat)(m:jy)(g:List (Zh×V))(j:jf)(o p:Vh),Ob w n jh ji b i S d h L l c e m g j [o,p]->l.length<=640->j.length<=1300->Q (.ref L) i)
abbrev AK:jt:=["_law_script","_law_shelf","_law_trees_here","_law_k","_law_well_here","_law_most","_law_rows","_law_root_here"]
def Ui:ZC AK zE3 (Za JO):=Zm
inductive TrL(w:ax)(a S L:aj)(m:jp)(jh ji:aj)(j:Hp)(d o:aj)(i:Nat)(u:L2.St)(h:Hp):Prop
 |mk(c:jr)(l:Nat->jq)(n:Nat->Nat)(k:jy)(b:List (Zh×V))(g:jf)(e:List Vh)(p q r s t:jg)(_:u=[some (.ref a),some (.ref S),some (.ref L),p,q,r,s,t])(_:Ob w m jh ji j h S d o L c l n k b g e)(_:e.length=i)(_:c.length<=600 * i)(_:c.length<=560+40 * i)(_:g.length<=650 * i)
def Cp{gt:jp}(F0:Zg K "_law_trees" "_law_trees" JO f fd)(T:YE mg)(DU:ZA P w K mg ki 1 "_law_pull" zEc Zp)(DW:ZA P w K mg ki 1 "_law_well" zE1 (VA K))(DG:ZA P w K mg ki 10 "_law_ground" zE0 (WN w))(DS:ZA P w K mg ki 9 "_law_sorted" zFd (WS w))(DP:ZA P w K mg ki 11 "_law_plant" zEr (VQ gt jh ji))(DR:ZA P w K mg ki 3 "_law_reached" zEp (Xf w gt jh ji)):
  ZI P w K mg ki ZQ 12 f fd zE3 (VN w gt K jh ji):=by
 refine F0.ko Ui λo5 A n9 s H vs Q E hr h=>?_;let⟨H0,a,S,d,lk,ns,av,ho,rfl,m5,hn,s0,nS,i9,n7,R,k⟩:=h;let nd:=Ui.nd;let i1:=hr.to 1;let m8:=hr.to 3;let m9:=hr.to 9;let i2:=hr.to 10;intro Xc;refine⟨_,ZN (Zi 2 nd (Yb Zk))
  (ZN (U8 PassesOwn.never rfl (P1 rfl T.range (ZZ ZJ)) (Xx 3 nd)
   (ZN (Zi 4 nd (Zc DW i1 (Zl (pv 0) (pv 3))))
   (ZN (Zi 5 nd (Zt K (Yb (Zl (Zt K (Yb (Qb ZJ ZJ ZJ ZJ)) (Zc DU i1 (Zl (pv 4) ZJ))) ZJ)) (pv 3)))
   (ZN (Zi 6 nd (Zc DS m9 (ZZ (Zc DG i2 (Zl (pv 4) (pv 5))))))
   (ZN (Zi 7 nd (Zc DP hr (WQ (pv 4) (pv 1) (pv 6))))
   (ZS (Wr (Qj xO wN wM Qy (pv 2) (ZZ (Xl (WQ (pv 6) (pv 7) (Zc DR m8 (WQ (pv 1) (pv 7) Kd)))))))))))))
  (ZS (Zd (pv 2)))),?_⟩
 exists YF;intro L nL;let gL:=ZW nL (.lst []);let eL:=ZP (H:=H) (a:=L) (o:=.lst []);generalize upd H L (.lst [])=H1 at gL eL⊢;let RL:=R.same gL;let o3:WF gt []:=λi t e=>by simp at e
 let I0:Ob w gt jh ji H0 H1 S d lk L [] av ho [] [] [] []:=⟨⟨RL,o3,λi hi=>absurd hi (xT _),λc o _ _ _ _ e=>gL _ _ (s0 _ _ e),λc e=>s0.free (gL.free e),zY _,λi hi=>absurd hi (xT _),λi _ hi=>absurd hi (xT _)⟩,eL,O4 R nL eL,s0.free nL,λt ht=>(by simp at ht),.nil⟩
 refine⟨2,Z,by decide,by decide,OJ (n:=2) (TrL w a S L gt jh ji H0 d lk)
  ⟨_,_,_,_,_,_,[],_,_,_,_,_,Z,I0,Z,zN _,zN _,zN _⟩ ?_ ?_⟩
 ·rintro i σ H2 hi ⟨ts,av,ho,as,c6,ls,TL,x3,x4,x5,x6,x7,rfl,r,c7,i6,i5,i4⟩;let I:ZD H0 H2:=λb o e=>r.pla.fr b o (λz=>z) (ZY e nS) (ZY e i9) (λj hj=>absurd hj (xT _)) e;exists _,Z,_,Z,a,ns,_,Z,I.seq m5,hn,∅,by lia
  intro p H3 np s3 W3;exists YF;intro q1 l0;let g1:=ZW l0 (.lst [.int 61,.int 61,.int 61,.int 301]);let e1:=ZP (H:=H3) (a:=q1) (o:=.lst [.int 61,.int 61,.int 61,.int 301]);generalize upd H3 q1 (.lst [.int 61,.int 61,.int 61,.int 301])=Ha at g1 e1⊢;let Wa:=W3.same g1;let o0:q1≠p:=U3 W3 l0;exists _,Z,p,4,Z,Wa,Xp (by decide) (by decide)
  intro y Hb y0 y4 Wb sb;let⟨mv,m2,m7⟩:=Ai (x:=V.int 61) (y:=V.int 61) (z:=V.int 61) (u:=V.int 301) y0 y4;obtain⟨n,rfl,n0,i8⟩:∃ n:Int,mv=.int n/\0<n/\n<=301:=by
   rcases m7 with rfl | rfl | rfl | rfl <;> exact⟨_,Z,by decide,by decide⟩
  refine .inl ⟨q1,_,_,_,Z,Z,ZH.of (sb _ _ e1 o0),m2,YF,λq nq=>?_⟩;let gq:=ZW nq (.lst [.int n,.int 21]);let eq:=ZP (H:=Hb) (a:=q) (o:=.lst [.int n,.int 21]);generalize upd Hb q (.lst [.int n,.int 21])=H4 at gq eq⊢;obtain⟨m,em,m0,mc⟩:∃ m:Int,Y3 [V.int n,.int 21] ((0:Int)+(i:Int))=some (.int m)/\0<m/\((i=0/\m<=301)\/(i=1/\m<=21)):=by
   have:i=0\/i=1:=∅
   rcases this with rfl | rfl
   ·exact⟨n,Z,n0,.inl ⟨Z,i8⟩⟩
   ·exact⟨21,Z,by decide,.inr ⟨Z,by decide⟩⟩
  let o2:ZE p H3 H4:=λb o e z=>gq b o (sb b o (g1 b o e) z);let W4:=Wb.same gq;refine⟨_,Z,.inl ⟨q,_,_,_,Z,Z,ZH.of eq,em,?_⟩⟩;exists _,Z,_,Z,p,m,Z,W4,m0,by lia
  intro D rs xs H5 nD dr frs l1 rm W5 s5;let c9:rs.length<=300:=∅
  exists D,rs,xs,Z,dr,frs,l1,c9;intro l us H6 s6 nl hl kl;let e0:ZD H2 H4:=λb o e=>o2 b o (s3 b o e) (ZY e np);let R2:=r.pla.sh;let R4:=R2.same e0;let⟨o9,e9⟩:=W4.some;let e3:Ww H4 lk ts as p:=O4 R2 np e9;let R5:=R4.but s5 e9 e3.lk e3.own;let R6:=R5.same s6;let W6:=W5.same s6;let⟨p0,i0⟩:=W6.some;let l8:Ww H6 lk ts as p:=O4 R2 np i0;let lp:l≠p:=U3 W5 nl;let v:ZD H2 H6:=λb o e=>s6 b o (s5 b o (e0 b o e) (ZY e np));exists _,Z,_,Z,_,Z,p,S,d,lk,l,ts,av,ho,as,c6,ls,us,rs,Z,W6,R6,l8,r.pla.wf,r.pla.hs,∅,hl,lp,kl,frs,l1,c9
  intro H7 M c2 c5 c1 W rn B W7 l7 n4;let l9:Ww H6 lk ts as l:=O4 R5 nl hl;let Lp:L≠p:=ZY r.hL np;let⟨e5,N⟩:=B.keep R6 (r.aL.same v) Lp (v _ _ r.hL);let⟨m6,a9⟩:=B.keep R6 l9 lp hl;let l3:Z4 H6 H7:=B.tups R6 λc z=>by rw[z];exact⟨_,i0⟩
  exists _,Z,.inl ⟨Z,_,ZH.of e5⟩,_,Z,_,Z,_,Z,_,Z;intro dd H8 X _ c4 c3;let⟨o8,o7⟩:=c3.o;let R8:=B.sh.same c4;refine⟨⟨S,d,M,c2,c5,c1,W⟩,lk,M.length,ls,rn,dd,Z,R8.q,B.wf,by show M.length<=650;lia,∅,n4,c3,λH9 kv F c8 m4 Q9 i7 a7 o4 n5 e4 o1=>⟨YF,λTt nT=>?_⟩⟩
  let gT:=ZW nT (.tup [.ref l,Xv (Xs rn),.ref dd]);let eT:=ZP (H:=H9) (a:=Tt) (o:=.tup [.ref l,Xv (Xs rn),.ref dd]);generalize upd H9 Tt (.tup [.ref l,Xv (Xs rn),.ref dd])=g at gT eT⊢;let n6:=R8.sh.looks;let a5:∀ b o,b≠lk->b≠dd->H8 b=some o->g b=some o:=λb o n1 n2 e=>gT b o (m4 b o n1 n2 e);let l4:Z4 H8 g:=λb o e=>a5 b _ (Zb e n6) (P0 c3 e λ_ z=>nomatch z) e;let C:∀ b o,b≠lk->H7 b=some o->g b=some o:=λb o n1 e=>a5 b o n1 (ZY e X) (c4 b o e);let a8:Z4 H7 g:=λb o e=>l4 b o (c4 b _ e);let l5:Yc jh ji g S d lk M c2 c5 c1 W c8:=(R8.back Q9).same gT;let J:=C _ _ N.lk e5;let e8:=C _ _ a9.lk m6;exists L,_,_,Z,Z,J,Y2 (by rw[zX];lia)
  let sx:ZE L g (upd g L (.lst ((TL.map λt=>V.ref t.T)++[.ref Tt]))):=(ZE.refl L g).upd;let Y:Z4 g (upd g L (.lst ((TL.map λt=>V.ref t.T)++[.ref Tt]))):=sx.tups J;let U:=ZP (H:=g) (a:=L) (o:=.lst ((TL.map λt=>V.ref t.T)++[.ref Tt]));generalize upd g L (.lst ((TL.map λt=>V.ref t.T)++[.ref Tt]))=e2 at sx Y U⊢;let l6:=l5.but sx J N.lk N.own;let lL:l≠L:=λz=>by rw[z,s5 _ _ (e0 _ _ r.hL) Lp] at nl;cases nl
  let n8:H0 p=none:=I.free np;let⟨⟨o6,e6⟩,e7,_⟩:=R6.sh;let a0:ZD H0 e2:=λb o e=>sx b o (C b o (ZY e n7) (B.fr b o (ZY e n8) (ZY e nS) (ZY e i9) (λj hj=>by
   let⟨n1,_,n3⟩:=r.pla.new j (zN _) hj;exact⟨ZY e n1,ZY e n3⟩) (v b o (I b o e)))) (ZY e r.nL)
  let l2:Z4 H2 e2:=λb o e=>Y b o (a8 b o (l3 b o (ZD.tups v b o e)));let a6:=sx _ _ e8 lL;exists M,c2,c5,c1,W,c8,TL++[⟨Tt,l,dd,rn,us,rs,kv,F⟩],_,_,_,_,_,Z,⟨⟨l6,B.wf,B.hs,λc o _ _ _ _ e=>a0 c o e,λc e=>a0.free e,zN _,λj hj=>absurd hj (xT _),λj _ hj=>?_⟩,?_,⟨⟨_,U⟩,N.lk,N.own⟩,r.nL,λt ht=>?_,xZ.mpr ⟨r.dif,qK _ _,λt ht u hu=>?_⟩⟩,?_,∅,by lia
  ·rcases yP j ts.length with z | z
   ·rw[(B.old j z).1];exact r.pla.new j (zN _) z
   ·let⟨n1,n2,n3⟩:=B.new j z hj;exact⟨I.free (v.free n1),I.free (v.free n2),I.free (v.free n3)⟩
  ·rw[zH];exact U
  ·rcases zB.mp ht with z | z
   ·let⟨a1,a2,a3,a4⟩:=r.trs t z;let⟨m3,G⟩:=a1.rcd.rcd.dk.o;let rp:t.r≠p:=ZY a1.rl np;let⟨k7,c0⟩:=B.keep R6 (a2.same v) rp (v _ _ a1.rl);let i3:=sx _ _ (C _ _ c0.lk k7) a3;let O:=v _ _ G;let d7:=B.fr t.d _ (ZY G np) (Zb O e6) (Zb O e7) (λb hb=>by
     let⟨dx,hx⟩:=(R6.tw b hb).tw.self;exact⟨Zb O hx,Zb O (R6.tw b hb).tw.above⟩) O
    let m1:=sx _ _ (C _ _ (Zb d7 B.sh.sh.looks) d7) (Zb G r.hL);exact⟨(a1.go l2 (λo e=>by rw[a1.rl] at e;cases e;exact i3) (λo e=>by rw[G] at e;cases e;exact m1)).grow B.le (λj hj=>(B.old j hj).2) B.wf,⟨⟨_,i3⟩,c0.lk,c0.own⟩,a3,a4⟩
   ·rw[zK.mp z];exact⟨⟨Y _ _ eT,a6,((kl.mono l3 _ _).mono a8 _ _).mono Y _ _,frs,c9,⟨(a7.same gT).but sx Y (Ne.symm (P0 (a7.same gT).dk J λ_ z=>nomatch z)),e4,B.wf⟩,o4,n5,o1⟩,⟨⟨_,a6⟩,a9.lk,a9.own⟩,lL,I.free (v.free (B.gr _ X))⟩
  ·rw[zK.mp hu];let⟨a1,a2,a3,a4⟩:=r.trs t ht;let⟨m3,G⟩:=a1.rcd.rcd.dk.o;let O:=v _ _ G;let d7:=B.fr t.d _ (ZY G np) (Zb O e6) (Zb O e7) (λb hb=>by
    let⟨dx,hx⟩:=(R6.tw b hb).tw.self;exact⟨Zb O hx,Zb O (R6.tw b hb).tw.above⟩) O
   exact ZY d7 X
  ·rw[zT,c7];rfl
  ·let i7:c8.length<=ls.length+M.length:=i7
   lia
 ·rintro σ H2 ⟨ts,av,ho,as,c6,ls,TL,x3,x4,x5,x6,x7,rfl,r,c7,i6,i5,i4⟩;obtain⟨t1,t2,rfl⟩:∃ t1 t2,TL=[t1,t2]:=by
   match TL,c7 with
   | [t1,t2],_=>exact⟨t1,t2,Z⟩
  exact⟨_,Z,k H2 L ts av ho as c6 ls t1 t2 r ∅ ∅⟩
def Ck(l:aj)(a:jx)(n:Nat)(b:aj)(c:jx)(m:Nat)(e:jz)(k:Array (jd))(o:¬(!a.isEmpty&&Builtin.List.listTooLong (a.size+c.size))=true)(g:a.size<=aq)(i:a.size+c.size<=aq+1):
  Meets (Builtin.«list.extend» ⟨[.ref l,.ref b],[]⟩) (λ_ R s=>s.heap.get? l=some { cls:=.type "list",data:=.seq a n }/\s.heap.get? b=some { cls:=.type "tuple",dict:=e,data:=.seq c m,slots:=k }/\R (.ok (.ret Value.none)) { s with heap:=s.heap.update l (Obj.mapSeq λx=>x++c) }):=by
 refine .of_wp λ_ _ _ R s h=>?_;let⟨r,t,u,v,w⟩:=s;let⟨d,f,h⟩:=h;let p:=AutoSeq1.sub_tuple_list;let q:=AutoSeq1.sub_tuple_tuple;let j:(a++c).size<=aq+1:=by rw[Array.size_append];exact i
 wp_walk using (wpAny_updateSeq d rfl (hz:=g) (_hz':=j)),AutoSeq1.wpAny_loadPart' d,AutoSeq1.wpAny_loadPart' f
 exact⟨_,Z,h⟩
inductive NL(x:V)(d:jf)(H:Hp)(Q:VK):Prop
 |mk(l b a c:_)(_:x=.ref l)(_:d=[.ref b])(_:H l=some (.lst a))(_:H b=some (.tup c))(_:a.length+c.length<=1000)(_:Q .non (upd H l (.lst (a++c))))
def Bs:Mi X "list.extend" NL:=by
 intro m s T H x O v N Q I D C h;let⟨l,b,P,S,rfl,rfl,k,t,G,q⟩:=h;cases D;let⟨u,rfl,B⟩:=C.one;cases B;let⟨z,c,n,r,E,e⟩:=I.lstM k;let⟨a,o,⟨⟨M,y,A,j⟩,p,f,w,g⟩,R⟩:=I.tuple (Zj.of t);dsimp only at f g;subst f g;let K:=o.length;let J:=r.length;let L:aq=16777216:=by decide
 let i:c.toArray.size+a.toArray.size<=sizeLine:=by rw[zR,zR];lia
 let d:¬ (!c.toArray.isEmpty&&Builtin.List.listTooLong (c.toArray.size+a.toArray.size))=true:=by
  rw[HJ i,tW];exact zW
 refine call_meets F.slot_list_extend ⟨_,e,Z⟩ F.entry_list_extend (F.args_list_extend_2 _ _) (Ck l c.toArray n b a.toArray w y j d (by rw[zR];lia) ∅) ⟨e,p,?_⟩
 refine⟨.non,_,I.lset (its':=c++a) k e (by simp) (r.append o) ?_,Z,q⟩
 rw[zT]
 lia
def Mg(a:jr):jw->Nat
 | none=>0
 | some i=>(gd a i).rows.length
def RfP(C:aj)(x:Int)(E:XK)(H:Hp):Prop:=∀ b a,ZD H a->a b=some (.xd [("at",.int x)])->E (.ref C) (some b) a
def Ap{c:jr}{a:jq}{j b:Nat}(e:a[j]? = some b):(Zr c (a.take (j+1))).length=(Zr c (a.take j)).length+(gd c b).rows.length:=by
 rw[yN,e];simp[Zr]
def FJ{ts:jr}{a:jq}{j b:Nat}(e:a[j]? = some b):Zr ts a=Zr ts (a.take j)++((gd ts b).rows++Zr ts (a.drop (j+1))):=by
 let⟨d,rfl⟩:=zC.mp e;have:a=a.take j++a[j]::a.drop (j+1):=(xQ j a).symm.trans (by rw[vO d])
 let c:Zr ts a=Zr ts (a.take j++a[j]::a.drop (j+1)):=congrArg (Zr ts) this;rw[c];unfold Zr;rw[vU,wX]
def ZLe{a:jr}{c:jq}{j b m:Nat}(e:c[j]? = some b)(d:m<(gd a b).rows.length):(Zr a c).getD ((Zr a (c.take j)).length+m) rd=(gd a b).rows.getD m rd:=by
 rw[FJ e,zU,zU,yE ∅,vP,xN d]
inductive XS(jh ji:aj)(e:jf)(H:Hp)(Q:VK)(_:XK):Prop
 |mk(X:YH)(b:aj)(c:Nat)(d:jf)(a:jw)(_:e=[.ref X.S,Xv (Xs a)])(_:Z3 jh ji H X b c d)(_:∀ i,a=some i->i<X.ts.length)(_:Q (.int (Mg X.ts a:Nat)) H)
def Bk:ZC zEo zEo (Za Il):=Zm
def ZLT(F:Zg K "rows_under" "rows_under" Il f fd)(T:YE mg)(L:Yw K mg jh ji)(g:ZG P w K mg ki ZQ 2 jh "label" zEa (YW jh ji)):ZI P w K mg ki ZQ 3 f fd zEo (XS jh ji):=by
 refine F.ko Bk λj A d s H C Q E n h=>?_;let⟨X,p,c,r,u,rfl,R,b,q⟩:=h;let⟨B,t⟩:=T.many;intro z;exists _,ZN (Zz (Xb (Hn (pv 1))) (ZS (Zd ZJ)) Z1) (ZS (Zd (XM K (XX (E:=E0) (pv 0) L.cS g n Yn (ZZ (pv 1))) (VD (v:=.int 3) rfl t ⟨_,rfl⟩))))
 cases u with
 | none=>exact⟨_,Z,_,Z,Zs q⟩
 | some i=>
  let e:=b i Z;let⟨k,m⟩:=R.sh.self;let⟨a,y,x,l,o,_,_⟩:=(R.tw i e).tag;cases l;exact⟨_,Z,_,Z,Zf ⟨_,Z,X.S,k,_,Z,m,Z,_,Z,X,p,c,r,i,Z,R,e,_,_,_,_,Z,Z,Zj.of o,Z,q⟩⟩
inductive Xh(jh ji:aj)(h:jf)(H:Hp)(Q:VK)(_:XK):Prop
 |mk(X:YH)(e:aj)(c:Nat)(g:jf)(l:aj)(a:jq)(m:Nat)(_:h=[.ref X.S,.ref l,.int (m:Int)])(_:Z3 jh ji H X e c g)(_:H l=some (.lst (iN a)))(_:∀ b∈a,b<X.ts.length)(_:m<(Zr X.ts a).length)(_:∀(j b n:Nat)(t:aj)(d:Hp),a[j]? = some b->n<(gd X.ts b).rows.length->m=(Zr X.ts (a.take j)).length+n->ZD H d->d t=some (.tup [.int (b:Nat),.int (n:Nat)])->Q (.ref t) d)
abbrev Ct:jt:=["shelf","branches","at","place","left"]
def Wu:ZC Ct zE9 (Za JG):=Zm
def ZIR(F:Zg K "branch_with" "branch_with" JG f fd)(u:ZA P w K mg ki 3 "rows_under" zEo (XS jh ji)):ZI P w K mg ki ZQ 4 f fd zE9 (Xh jh ji):=by
 refine F.ko Wu λG A r s H U Q E x h=>?_;let⟨X,y,c,B,l,a,m,rfl,R,p,J,T,q⟩:=h;let g:=Wu.nd;intro O;refine⟨_,ZN (Zi 3 g ZJ)
  (ZN (Zi 4 g (pv 2))
  (ZN (Qx PassesOwn.never (Xb (ZQw (pv 4) (Zc u x (Zl (pv 0) (Zt K (pv 1) (pv 3))))))
   (ZN (EG (i:=4) g rfl (Or.inl rfl) (Zc u x (Zl (pv 0) (Zt K (pv 1) (pv 3)))) BX)
   (ZS (EG (i:=3) g rfl (Or.inl rfl) ZJ ZPV))))
  (ZS (Zd (Xl (Zl (Zt K (pv 1) (pv 3)) (pv 4))))))),?_⟩
 exists _,Z;exists λk C D=>∃(j n:Nat),C=[some (.ref X.S),some (.ref l),some (.int (m:Int)),some (.int (j:Int)),some (.int (n:Int))]/\k=a.length-j/\m=(Zr X.ts (a.take j)).length+n/\D=H,⟨_,0,m,rfl,rfl,by simp[Zr],rfl⟩
 rintro k C N ⟨j,n,rfl,rfl,v,rfl⟩;let L:j<a.length:=by
  rcases yP j a.length with z | z
  ·exact z
  ·rw[yX z] at v;lia
 obtain⟨b,e⟩:∃ b,a[j]? = some b:=⟨_,zV L⟩;let o:(iN a)[j]? = some (V.int (b:Nat)):=by unfold iN;rw[zE,e];rfl
 let d:=J b (zM e);refine⟨_,Z,_,Z,_,Z,_,Z,.inl ⟨l,_,_,_,Z,Z,ZH.of p,YO o,X,y,c,B,some b,Z,R,λi h=>by cases h;exact d,_,_,Z,Z,_,Z,?_⟩⟩
 show if decide (((gd X.ts b).rows.length:Int)<=(n:Int))=true then _ else _
 rcases yP n (gd X.ts b).rows.length with z | z
 ·rw[aJ ∅]
  refine Zf ⟨_,Z,_,Z,.inl ⟨l,_,_,_,Z,Z,ZH.of p,YO o,_,Z,YF,λt M=>?_⟩⟩;exact q j b n t _ e z v (ZW M _) ZP
 ·rw[aK ∅]
  refine Zs ⟨_,λ_ _ z=>z,?_⟩;refine⟨_,Z,_,Z,_,Z,_,Z,.inl ⟨l,_,_,_,Z,Z,ZH.of p,YO o,X,y,c,B,some b,Z,R,(λi h=>by cases h;exact d),_,_,Z,Z,_,Z,_,_,Z,Z,?_⟩⟩
  refine⟨a.length-(j+1),∅,j+1,n-(gd X.ts b).rows.length,?_,Z,by rw[Ap e];lia,Z⟩
  let I:(n:Int)-((Mg X.ts (some b):Nat):Int)=((n-(gd X.ts b).rows.length:Nat):Int):=by show (n:Int)-((gd X.ts b).rows.length:Int)=_;lia
  simp only[List.set_cons_zero,List.set_cons_succ];rw[I];rfl
inductive Um(j:jp)(jh ji CP:aj)(k:jf)(H:Hp)(Q:VK)(E:XK):Prop
 |mk(X:YH)(e:aj)(c:Nat)(g:jf)(i:Nat)(n:Int)(_:k=[.ref X.S,.int (i:Int),.int n])(_:Yo j jh ji H X e c g i)(_:¬ (0<=n/\n<(gd X.ts i).rows.length)->RfP CP n E H)
 (_:∀(m:Nat),n=(m:Int)->m<(gd X.ts i).rows.length->∀(d:Hp)(v:V)(a:jf),(∀ b o,b≠e->H b=some o->d b=some o)->Z3 jh ji d X e c a->Xm X.ts i ((gd X.ts i).h+1) g a->ZB d (V5 ((gd X.ts i).rows.getD m rd)) v->Q v d)
abbrev ZRQ:jt:=["shelf","root","at","many","found","left","step"]
def Ps:ZC ZRQ zEl (Za Ia):=Zm
inductive NX(jh ji:aj)(H:Hp)(X:YH)(lk:aj)(c:Nat)(ls:jf)(i m:Nat):Nat->L2.St->Hp->Prop
 |mk{j m' n:Nat}{u:V}{x6:jg}{ls':jf}{H':Hp}:j<X.ts.length->m'<(gd X.ts j).rows.length->(gd X.ts i).rows.getD m rd=(gd X.ts j).rows.getD m' rd->YM (λb=>b=lk) H' (gd X.ts j) u->(∀ b o,b≠lk->H b=some o->H' b=some o)->Z3 jh ji H' X lk c ls'->Xm X.ts i n ls ls'->n+(gd X.ts j).h<=(gd X.ts i).h+1->Ux X.ts i j ->
  NX jh ji H X lk c ls i m (gd X.ts j).h [some (.ref X.S),some (.int (i:Int)),some (.int (m:Int)),some (.int (((gd X.ts i).rows.length:Nat):Int)),some u,some (.int (m':Int)),x6] H'
def Bx{gt:jp}(F:Zg K "nth" "nth" Ia f fd)(L:Yw K mg jh ji)(N:XN P w K mg ki "NoPlace" CP "at")(DU:ZA P w K mg ki 3 "rows_under" zEo (XS jh ji))(DL:ZG P w K mg ki ZQ 2 jh "look" zEa (X3 jh ji))(DI:ZA P w K mg ki 1 "is_leaf" zFf YZ)(DB:ZA P w K mg ki 4 "branch_with" zE9 (Xh jh ji)):
  ZI P w K mg ki (Vi P w) 6 f fd zEl (Um gt jh ji CP):=by
 refine F.kD Ps λc3 A a8 s H vs Q E hr h=>?_;let⟨X,C,c,ls,i,n,rfl,I,k2,q⟩:=h;let D:=Ps.nd;let R:=I.sh;let hi:=I.hi;let hw:=I.wf;let c4:=I.few;let a4:=hr.to 1;let y:=hr.to 2;let a5:=hr.to 3;let a6:=hr.to 4;intro Xc;refine⟨_,ZN (Zi 3 D (Zc DU a5 (Zl (pv 0) (pv 1))))
  (ZN (Zz (Vv (JP Oh OQ ZJ (pv 2) (pv 3))) (ZS (ZKH ZOq N y (ZZ (pv 2)) rfl)) Z1)
  (ZN (Zi 4 D (XX (E:=E0) (pv 0) L.cS DL y Yn (ZZ (pv 1))))
  (ZN (Zi 5 D (pv 2))
  (ZN (Qx Jl (Vv (Y7 (Zc DI a4 (ZZ (pv 4)))))
   (ZN (Zi 6 D (Zc DB a6 (WQ (pv 0) (XM K (pv 4) ZJ) (pv 5))))
   (ZN (Zi 4 D (XX (E:=E0) (pv 0) L.cS DL y Yn (ZZ (XM K (pv 6) ZJ))))
   (ZS (Zi 5 D (XM K (pv 6) ZJ))))))
  (ZS (Zd (Zt K (XM K (pv 4) ZJ) (pv 5)))))))),?_⟩
 exists _,Z,_,Z,X,C,c,ls,some i,Z,R,(λj z=>by cases z;exact hi)
 exists _,Z,_,_,Z,Z,_,Z;by_cases h0:0<=n
 case neg=>
  rw[aJ h0];exact Zf ⟨_,Z,Zs ⟨_,Z,_,Z,λdd v=>k2 (λz=>h0 z.1) dd _ (ZW v _) ZP⟩⟩
 rw[aK h0];refine Zs ⟨_,Z,_,_,Z,Z,_,Z,?_⟩;by_cases h1:n<((gd X.ts i).rows.length:Nat)
 case neg=>
  rw[show decide (n<((Mg X.ts (some i):Nat):Int))=false from aJ h1];exact Zs ⟨_,Z,_,Z,λdd v=>k2 (λz=>h1 z.2) dd _ (ZW v _) ZP⟩
 rw[show decide (n<((Mg X.ts (some i):Nat):Int))=true from aK h1];let⟨m,rfl⟩:=rJ h0;let hm:m<(gd X.ts i).rows.length:=∅
 let⟨dx,hS⟩:=R.sh.self;let a3:=R.sh.looks;refine Zf ⟨_,Z,X.S,dx,_,Z,hS,Z,_,Z,X,C,c,ls,i,Z,R,hi,∅,λH1 Y l G fr R1 d nl hl w1 w2=>?_⟩
 let lw:=I.low i hi;let a1:YM (λb=>b=C) H1 (gd X.ts i) (.ref Y):=⟨Y,l,G,Z,d,hl,(ZY a3 nl).symm,w1,w2⟩;exists _,Z,NX jh ji H X C c ls i m,⟨_,.mk hi hm Z a1 fr R1 (Xm.one (.zero (m:=0)) .self) ∅ .self⟩
 rintro _ _ H2 (@⟨j,m',n,u,x6,B,_,hj,x,g,hf,M,R2,ll,ln,bl⟩);let c6:=ll.len;exists _,Z,_,gd X.ts j,u,Z,hf,_,Z;let c5:=hf;let⟨Y,l,G,rfl,d,hl,c7,w1,w2⟩:=hf;by_cases V:(gd X.ts j).h=0
 ·rw[aK V];let ks:=w1 V;let lu:G.length=(gd X.ts j).rows.length:=by have:=ks.length;rw[<-this];exact zX _
  let⟨t,r,kt⟩:=ks.get (zV (show m'<G.length by lia))
  unfold Z7 at r;rw[zE,zV x] at r;cases r;refine Zf ⟨_,Z,Y,_,_,.ref l,Z,Z,Zj.of d,Z,_,Z,.inl ⟨l,G,_,_,Z,Z,ZH.of hl,YO (zV (show m'<G.length by lia)),?_⟩⟩
  refine q m Z hm H2 _ B M R2 (ll.mono ∅) ?_
  rw[g,zU,zV x];exact kt
 ·rw[aJ V];let⟨b2,b4,b3,er⟩:=(hw j _ (Yl hj)).stem V;let eu:=w2 V;subst eu;refine Zs ⟨_,λ_ _ z=>z,?_⟩;exists _,Z,_,Z,Y,_,_,.ref l,Z,Z,Zj.of d,Z,_,Z,X,C,c,B,l,(gd X.ts j).bs,m',Z,R2,hl,(λb hb=>by have:=(b3 b hb).1;lia),by rw[<-show (gd X.ts j).rows=Zr X.ts (gd X.ts j).bs from er];exact x
  intro p b n' t H3 eb hn em s3 r;let U:=zM eb;let hb:=b3 b U;let T:b<X.ts.length:=∅
  let R3:=R2.same s3;let⟨dx,hS⟩:=R3.sh.self;let k:=R3.sh.looks;exists _,Z,X.S,dx,_,Z,hS,Z,_,Z,t,_,_,.int (b:Nat),Z,Z,Zj.of r,Z,X,C,c,B,b,Z,R3,T,by lia
  intro H4 a9 l4 c0 O R4 W a7 a2 c1 c2;let a0:=O _ _ (Zb r k) r;let J:=Ux.step bl U;exists _,Z,t,_,_,.int (n':Nat),Z,Z,Zj.of a0,Z;refine⟨(gd X.ts b).h,∅,.mk T hn ?_ ⟨a9,l4,c0,Z,W,a2,(ZY k a7).symm,c1,c2⟩ (λa o n1 e=>O a o n1 (s3 a o (M a o n1 e))) R4 (ll.one J) ∅ J⟩
  rw[g,show (gd X.ts j).rows=Zr X.ts (gd X.ts j).bs from er,em];exact ZLe eb hn
def Ez{p:jp}{c:jr}(f:WF p c){j:Nat}(t:j<c.length)(q:(gd c j).h≠0):(gd c j).bs.Pairwise λa b=>(YA (gd c a)).lo.lt (YA (gd c b)).lo=true:=by
 let i:=f j _ (Yl t);let⟨u,v,l,o⟩:=i.stem q;let k:=i.up;rw[o,List.map_flatMap,pV] at k;let g:∀ b∈(gd c j).bs,(YA (gd c b)).lo∈(gd c b).rows.map (·.1):=λb d=>by
  let e:b<c.length:=by have:=(l b d).1;lia
  let⟨r,w,m,n⟩:=PJ (f b _ (Yl e)).ne;rw[m,n];exact zI ..
 have:=k.2;exact this.imp_of_mem fun{a b} s d h=>h _ (g a s) _ (g b d)
def Ft{g:Type}{p:g->Bool}{A C:List g}{b:g}(h:((A++b::C).filter p).length-1=A.length)(k:∀ c∈C,p c=true->p b=true/\∀ a∈A,p a=true):(A≠[]->p b=true)/\∀ c∈C,p c=false:=by
 let i:∀ c∈C,p c=false:=λc d=>by
  cases e:p c with
  | false=>rfl
  | true=>
   let⟨l,f⟩:=k c d e;rw[wP,rG l,zT,yV,uK.mpr f] at h;have:0<(C.filter p).length:=pQ (vF.mpr ⟨d,e⟩)
   lia
 refine⟨λf=>?_,i⟩
 cases e:p b with
 | true=>rfl
 | false=>
  let j:C.filter p=[]:=uZ.mpr λc d=>by rw[i c d];exact zW
  rw[wP,List.filter_cons_of_neg (by rw[e];exact zW),j,yR] at h
  have:=tH p A;have:0<A.length:=uJ.mpr f
  lia
def EU(l m:jp)(k:KT):YD (l++m) k=YD l k+YD m k:=by unfold YD;rw[wP,zT]
def ZOM{l:jp}{k:KT}(h:∀ x∈l,x.lt k=true):YD l k=l.length:=by unfold YD;rw[uK.mpr h]
def GL{l:jp}{k:KT}(h:∀ x∈l,x.lt k=false):YD l k=0:=by unfold YD;rw[uZ.mpr λx a=>by rw[h x a];exact zW];rfl
def Pi(a:jr)(p:Nat×Nat):Nat:=if (gd a p.1).h=0 then p.2 else (Zr a ((gd a p.1).bs.take p.2)).length
abbrev Y4(a:jr)(i:Nat):jp:=(gd a i).rows.map (·.1)
def Ex{f:jp}{g:jr}{i j:Nat}{t:ZM}(b:Xw f g i t){y:KT}(a:y∈t.rows.map (·.1)):y.lt (YA t).lo=false:=by
 let⟨r,h,d,e⟩:=PJ b.ne;let c:=b.up;rw[d,zF] at c a;rw[e];rcases yT.mp a with z | z
 ·rw[z];exact Q0 _
 ·exact Ox _ _ ((xS.mp c).1 y z)
def ZLa{S:jp}{d:jr}(g:WF S d){i:Nat}(t:i<d.length)(n:(gd d i).h≠0)(k:KT):YD (Y4 d i) k=(Zr d ((gd d i).bs.take (YY d k i))).length+YD (Y4 d (Vy d k i)) k:=by
 let⟨n1,n2,K⟩:=P2 g t n k;let L:=g i _ (Yl t);let⟨b2,b4,P,s⟩:=L.stem n;let s:(gd d i).rows=Zr d (gd d i).bs:=s;let X:=Lw g t n k;let M:=Ez g t n;let O:=L.up;let m:(gd d i).bs=(gd d i).bs.take (YY d k i)++Vy d k i::(gd d i).bs.drop (YY d k i+1):=by
  let⟨W,e⟩:=zC.mp K;exact(xQ (YY d k i) _).symm.trans (by rw[vO W,e])
 let lA:((gd d i).bs.take (YY d k i)).length=YY d k i:=by rw[yF];lia
 let u:((gd d i).bs.filter λb=>!k.lt (YA (gd d b)).lo).length-1=YY d k i:=(aM n).symm;let G:∀ b,b∈(gd d i).bs.take (YY d k i)\/b∈(gd d i).bs.drop (YY d k i+1)->b<d.length:=λb V=>by
  have:=(P b (V.elim rQ rR)).1
  lia
 let f:=FJ (ts:=d) K;rw[m,xZ] at M;rw[<-lA] at u
 conv at u=>lhs;rw[m]
 generalize hA:(gd d i).bs.take (YY d k i)=A at *;generalize hC:(gd d i).bs.drop (YY d k i+1)=C at *;generalize Vy d k i=b at *;let⟨_,rb,H⟩:=M;let I:=(xS.mp rb).1;let N:∀{x y:Nat},(YA (gd d x)).lo.lt (YA (gd d y)).lo=true->(!k.lt (YA (gd d y)).lo)=true->(!k.lt (YA (gd d x)).lo)=true:=fun{x y} h q=>by
  cases e:k.lt (YA (gd d x)).lo with
  | false=>rfl
  | true=>rw[lt_trans' _ _ _ e h] at q;cases q
 let⟨pA,pC⟩:=Ft u λc p q=>⟨N (I c p) q,λa U=>N (H a U c (zG _ p)) q⟩;rw[s,f,zH,zH,xZ] at O;let w:b<d.length:=∅
 let F:(YA (gd d b)).lo∈Y4 d b:=by
  let⟨r,rs,Q,R⟩:=PJ (g b _ (Yl w)).ne;show _∈(gd d b).rows.map (·.1);rw[Q,R];exact zI ..
 show YD ((gd d i).rows.map (·.1)) k=_;rw[s,f,zH,zH,EU,EU,ZOM,GL (l:=(Zr d C).map (·.1)),zX,vK]
 ·intro y Y;let⟨r,B,rfl⟩:=zL.mp Y;let⟨c,p,B⟩:=vD.mp B;let J:=Ex (j:=0) (g c _ (Yl (G c (.inr p)))) (zL.mpr ⟨r,B,Z⟩);let o:=pC c p
  cases e:r.1.lt k with
  | false=>rfl
  | true=>
   let T:k.lt (YA (gd d c)).lo=true:=by
    cases z:k.lt (YA (gd d c)).lo with
    | true=>rfl
    | false=>rw[z] at o;cases o
   rw[lt_trans' _ _ _ e T] at J;cases J
 ·intro x D;let E:=O.2.2 x D _ (xU _ F);let v:A≠[]:=λz=>by rw[z] at D;simp[Zr] at D
  let o:=pA v
  cases e:x.lt k with
  | true=>rfl
  | false=>
   rw[Ks e E] at o;cases o
def GI{g:jp}{a:jr}(d:WF g a)(k:KT):∀ n i,i<a.length->(gd a i).h=n->((Xy a k n i).map (Pi a)).sum=YD (Y4 a i) k
 | 0,i,c,h=>by
  let e:Pi a (i,YY a k i)=YY a k i:=aO h;let f:YY a k i=YD (Y4 a i) k:=aO h;rw[Xy,zF,wJ,wU,rP,vK,e,f]
 | n+1,i,c,h=>by
  let b:(gd a i).h≠0:=∅
  let⟨j,l,m⟩:=P2 d c b k;let e:Pi a (i,YY a k i)=(Zr a ((gd a i).bs.take (YY a k i))).length:=aM b;rw[Xy,zF,wU,GI d k n _ ∅ ∅,e,ZLa d c b k]
def Fe(c:jr):∀ a:jq,(a.map λb=>(((gd c b).rows.length:Nat):Int)).sum=(((Zr c a).length:Nat):Int)
 | []=>rfl
 | b::a=>by
  rw[zF,wU,Fe c a];unfold Zr;rw[wX,zT]
  lia
def Hq:∀ l:jq,(l.map λn=>((n:Nat):Int)).sum=((l.sum:Nat):Int)
 | []=>rfl
 | n::l=>by rw[zF,wU,Hq l,wU];lia
structure PL(ts:jr)(F:jq)(R:jv)(pre B D:jq)(n:Nat):Prop where
 pr:∀ j∈pre,(gd ts j).h≠0
 bh:∀ b∈B,(gd ts b).h=n
 dh:∀ b∈D,(gd ts b).h+1=n
 rows:Zr ts D++Zr ts B=R
 inF:∀ j∈pre++(B++D),j∈F
 len:pre.length+1<=(B++D).length
def Qm(d:jr)(F:jq)(R:jv)(m c:Nat)(a:jq):Prop:=
 (∃ b B D n,a=b++(B++D)/\c=b.length/\B≠[]/\n≠0/\m=900-(B++D).length/\PL d F R b B D n) \/
 (∃ b L,a=b++L/\(∀ j∈b,(gd d j).h≠0)/\(∀ j∈L,(gd d j).h=0)/\Zr d L=R/\(∀ j∈a,j∈F)/\b.length<=c/\c<=a.length/\m=a.length-c/\a.length<=600)
def EX(c:jr)(a b:jq):Zr c (a++b)=Zr c a++Zr c b:=vU
def EI{ts:jr}:∀{l:jq},(∀ b∈l,(gd ts b).rows≠[])->l.length<=(Zr ts l).length
 | [],_=>zY _
 | b::l,h=>by
  let a:=EI λc d=>h c (zG _ d);let e:=uJ.mpr (h b (zI ..));unfold Zr at a⊢;rw[wX,zT,yV]
  lia
section
variable{ts:jr}{F:jq}{R:jv}{pre B D:jq}{n:Nat}
def PL.few(s:PL ts F R pre B D n)(a:∀ j∈F,(gd ts j).rows≠[]):(B++D).length<=R.length:=by
 have:=EI (ts:=ts) (l:=B++D) λb c=>a b (s.inF b (yL _ c));let e:=congrArg wV s.rows;rw[EX] at this;simp only[zT] at this e⊢
 lia
def He(f:∀ j∈F,(gd ts j).rows≠[])(o:R.length<=300)(s:PL ts F R pre B D n):∃ m,m<=900-(B++D).length/\Qm ts F R m pre.length (pre++(B++D)):=by
 let h:∀{B D:jq}{n:Nat},PL ts F R pre B D n->B≠[]->∃ m,m<=900-(B++D).length/\Qm ts F R m pre.length (pre++(B++D)):=fun{B D n} s c=>by
  let r:=s.few f;let g:=s.len;by_cases i:n=0
  ·let l:D=[]:=by
    cases D with
    | nil=>rfl
    | cons d D=>exact absurd (s.dh d (zI ..)) ∅
   subst l;let a:=s.rows;rw[show Zr ts []=[] from rfl,vE] at a;refine⟨_,?_,.inr ⟨pre,B++[],Z,s.pr,λj k=>?_,by rw[yR];exact a,s.inF,zY _,by rw[zT];lia,Z,by rw[zT];lia⟩⟩
   ·rw[zT];lia
   ·rw[yR] at k;rw[s.bh j k];exact i
  ·exact⟨_,zY _,.inl ⟨pre,B,D,n,Z,Z,c,i,Z,s⟩⟩
 by_cases c:B=[]
 ·subst c;let g:=s.len;let p:D≠[]:=λz=>by subst z;simp at g
  let q:PL ts F R pre D [] (n-1):=⟨s.pr,λb e=>by have:=s.dh b e;lia,λb e=>by simp at e,by have:=s.rows;rw[show Zr ts []=[] from rfl,yR] at this;exact this,by have:=s.inF;rw[vE] at this;rw[yR];exact this,by rw[yR];exact g⟩
  have:=h q p;rw[yR] at this;exact this
 ·exact h s c
def ZNO{t:jp}(l:WF t ts)(c:∀ j∈F,j<ts.length)(e:∀ j∈F,∀ b∈(gd ts j).bs,b∈F)(f:R.length<=300){b:Nat}(s:PL ts F R pre (b::B) D n)(v:n≠0):∃ m,m<900-(b::B++D).length/\Qm ts F R m (pre.length+1) (pre++(b::B++D)++(gd ts b).bs):=by
 let d:∀ j∈F,(gd ts j).rows≠[]:=λj a=>(l j _ (Yl (c j a))).ne;let k:b∈F:=s.inF b (by simp)
 let i:(gd ts b).h≠0:=by rw[s.bh b (zI ..)];exact v
 let⟨w,x,p,q⟩:=(l b _ (Yl (c b k))).stem i;let g:pre++(b::B++D)++(gd ts b).bs=(pre++[b])++(B++(D++(gd ts b).bs)):=by simp
 let o:PL ts F R (pre++[b]) B (D++(gd ts b).bs) n:=by
  exists λj a=>?_,λj a=>s.bh j (zG _ a),λj a=>?_,?_,λj a=>?_
  ·rcases zB.mp a with z | z
   ·exact s.pr j z
   ·rw[zK.mp z];exact i
  ·rcases zB.mp a with z | z
   ·exact s.dh j z
   ·rw[(p j z).2];exact s.bh b (zI ..)
  ·rw[<-s.rows,EX,xH,show Zr ts (gd ts b).bs=(gd ts b).rows from q.symm];rfl
  ·rw[<-g] at a;rcases zB.mp a with z | z
   ·exact s.inF j z
   ·exact e b k j z
  ·have:=s.len;simp only[zT,yV,sY] at this⊢
   lia
 let⟨m,u,I⟩:=He d f o;let r:=o.few d;rw[g];refine⟨m,?_,by rw[zT] at I;exact I⟩
 simp only[zT,yV] at u r⊢
 lia
end
def QU(a:jr)(l:jq):jv:=(l.filter λj=>decide ((gd a j).h=0)).flatMap λj=>(gd a j).rows
def ZGo{b:jr}{a L:jq}(d:∀ j∈a,(gd b j).h≠0)(e:∀ j∈L,(gd b j).h=0):QU b (a++L)=Zr b L:=by
 unfold QU;rw[wP,uZ.mpr λj c=>by rw[aJ (d j c)];exact zW,uK.mpr λj c=>aK (e j c)]
 rfl
def G3{e:jr}{F:jq}{R:jv}{m a:Nat}{b:jq}(c:∀ j∈F,(gd e j).rows≠[])(g:R.length<=300)(h:Qm e F R m a b):b.length<=600/\∀ j∈b,j∈F:=by
 rcases h with ⟨d,B,D,n,rfl,rfl,t,u,rfl,s⟩ | ⟨d,L,rfl,k,l,o,f,p,q,r,i⟩
 ·have:=s.few c;have:=s.len;exact⟨by rw[zT];lia,s.inF⟩
 ·exact⟨i,f⟩
def ZQy{q:jp}{d:jr}{F:jq}{R:jv}{m a j:Nat}{c:jq}(C:WF q d)(l:∀ j∈F,j<d.length)(i:∀ j∈F,∀ b∈(gd d j).bs,b∈F)(k:R.length<=300)(h:Qm d F R m a c)(e:c[a]? = some j):
  ((gd d j).h≠0->∃ f,f<m/\Qm d F R f (a+1) (c++(gd d j).bs))/\((gd d j).h=0->∃ f,f<m/\Qm d F R f (a+1) c):=by
 rcases h with ⟨g,B,D,n,rfl,rfl,x,p,rfl,s⟩ | ⟨g,L,rfl,r,o,t,u,v,E,rfl,w⟩
 ·cases B with
  | nil=>exact absurd Z x
  | cons b B=>
   rw[yE (zY _),Nat.sub_self] at e;cases e;exact⟨λ_=>ZNO C l i k s p,λz=>absurd (z.symm.trans (s.bh j (zI ..))).symm p⟩
 ·let y:j∈L:=by
   rw[yE v] at e;exact zM e
  let A:=(zC.mp e).1;exact⟨λz=>absurd (o j y) z,λ_=>⟨_,∅,.inr ⟨g,L,Z,r,o,t,u,∅,A,Z,w⟩⟩⟩
def Am{d:jr}{F:jq}{R:jv}{m a:Nat}{b:jq}(h:Qm d F R m a b)(i:b.length<=a):QU d b=R:=by
 rcases h with ⟨c,B,D,n,rfl,rfl,j,k,rfl,s⟩ | ⟨c,L,rfl,e,f,g,_⟩
 ·have:=s.len;rw[zT] at i
  lia
 ·rw[ZGo e f];exact g
def Cv{a:jr}{F:jq}{i:Nat}(e:∀ j∈F,(gd a j).rows≠[])(g:i∈F)(c:(gd a i).rows.length<=300):∃ m,Qm a F (gd a i).rows m 0 [i]:=by
 let s:PL a F (gd a i).rows [] [i] [] (gd a i).h:=⟨λj h=>by simp at h,λb d=>by rw[zK.mp d],λb d=>by simp at d,by simp[Zr],λj f=>by simp at f;rw[f];exact g,zY _⟩
 let⟨m,_,I⟩:=He e c s;exact⟨m,I⟩
def LK(d:jr)(a:Nat)(c:jq):Prop:=∀ q j,q<a->c[q]? = some j->∀ b∈(gd d j).bs,b∈c
def DE{e:jr}{a j:Nat}{c:jq}(h:LK e a c)(f:c[a]? = some j):LK e (a+1) (c++(gd e j).bs):=λq i l d b g=>by
 let k:=(zC.mp f).1;rw[xN ∅] at d
 by_cases z:q=a
 ·rw[z,f] at d;cases d;exact yL _ g
 ·exact xU _ (h q i ∅ d b g)
def ZPs{d:jr}{a i:Nat}{b:jq}(h:LK d a b)(k:b.length<=a)(f:i∈b){x:Nat}(g:Ux d i x):x∈b:=by
 induction g with
 | self=>exact f
 | step _ e j=>
  let⟨q,c⟩:=vA j;have:=(zC.mp c).1;exact h q _ ∅ c _ e
inductive X1(w:ax)(e:jp)(g:jf)(H:Hp)(Q:VK)(E:XK):Prop
 |mk(b:jr)(d:aj)(h:List (KT×V×V))(F:jq)(i:Nat)(_:g=[.ref d,.int (i:Int)])(_:XR w e b H d h F)(_:i∈F)(_:(gd b i).rows.length<=300)
 (_:∀(c:Hp)(D:aj)(a:jq),ZD H c->H D=none->c D=some (.lst (iN a))->a.length<=600->(∀ j∈a,j∈F)->QU b a=(gd b i).rows->i∈a->(∀ x,Ux b i x->x∈a)->Q (.ref D) c)
abbrev ZOn:jt:=["_law_record","_law_root_here","_law_found","_law_at","_law_kind","_law_what"]
def Ug:ZC ZOn zEd (Za Js):=Zm
def ZL2{gt:jp}(F0:Zg K "_law_below" "_law_below" Js f fd)(T:YE mg):ZI P w K mg ki ZQ 1 f fd zEd (X1 w gt):=by
 refine F0.ko Ug λc0 A a9 s H vs Q E hr h=>?_;let⟨y,d,a7,F,J,rfl,R,a4,G,k⟩:=h;let nd:=Ug.nd;let hu:=ZT.key hr (n:=5) (by decide)
 intro Xc;refine⟨_,ZN (HP (i:=2) [] [] nd rfl rfl rfl (WX (Yb (ZZ (pv 1)))) (λ_ _ _ _ _=>OX (Xb (OP (pv 0)))) (λ_ _ _ _ _=>pv 0) trivial)
  (ZN (Zi 3 nd ZJ)
  (ZN (Qx PassesOwn.never (Xb (Kx (pv 3) (Zw XE rfl T.len Y6 (ZZ (pv 2)))))
   (ZN (Q8 (Ov hu (pv 0) (Zt K (pv 2) (pv 3)) (λ_ _=>rfl)) (OA rfl (UL (Xx 4 nd) (UL (Xx 5 nd) Of))))
   (ZN (Zz (XB Vb (pv 4) VP (YK _)) (ZS (Wr (Qj xO qC qA Bs (pv 2) (ZZ (pv 5))))) Z1)
   (ZS (Zi 3 nd (Zu Wf (pv 3) ZJ))))))
  (ZS (Zd (pv 2))))),?_⟩
 let N:=R.rcd.lt;let hw:=R.wf;let S:∀ j∈F,(gd y j).rows≠[]:=λj t=>(hw j _ (Yl (N j t))).ne;let a3:∀ j∈F,∀ b∈(gd y j).bs,b∈F:=λj t b hb=>R.sub t hb;exists _,Z,YF;intro p np;let g1:=ZW np (.lst [.int (J:Int)]);let Y:=ZP (H:=H) (a:=p) (o:=.lst [.int (J:Int)]);generalize upd H p (.lst [.int (J:Int)])=H1 at g1 Y⊢;refine⟨p,Z,⟨_,ZH.of Y⟩,My (n:=1) (λi z=>[V.int (J:Int)][i]? = some z) (λ_=>true) (λD j M v=>ZD H1 v/\H1 D=none/\M=if j=0 then [] else [V.int (J:Int)]) (Y2 (by decide))
  (λD j M v t r=>⟨_,_,ZH.of (r.1 _ _ Y),zV (by simpa using t)⟩) (λD j M v z H4 t r hy=>⟨hy.1,hy.2 _ (ZH.of (r.1 _ _ Y))⟩) (λD M v r=>⟨_,ZH.of (r.1 _ _ Y),zY _⟩)
  (λD C=>⟨ZW C _,C,Z⟩) (λD j M v z L t hz r B hB=>?_) (λD j M v z L t hz hk r B hB=>?_) (λD j M v L t hk r=>by cases hk) (λD M v L r=>?_)⟩
 ·have:j=0:=∅
  subst this;cases hz;exact⟨_,Z,_,Z,hB v L r⟩
 ·have:j=0:=∅
  subst this;cases hz;let⟨s3,nD,rfl⟩:=r;exact⟨_,Z,hB _ v L ⟨UR s3 nD,nD,Z⟩⟩
 let⟨s3,nD,rfl⟩:=r;let L:v D=some (.lst (iN [J])):=L;let a2:H D=none:=g1.free nD;let⟨m0,I0⟩:=Cv S a4 G;exists λm σ H'=>∃(l:jq)(a:Nat)(x4 x5:jg),σ=[some (.ref d),some (.int (J:Int)),some (.ref D),some (.int (a:Int)),x4,x5]/\Qm y F (gd y J).rows m a l/\LK y a l/\J∈l/\H' D=some (.lst (iN l))/\ZD H H',⟨m0,_,0,none,none,rfl,I0,λq j hq=>absurd hq (xT _),zK.mpr rfl,L,g1.trans s3⟩;rintro m σ H4 ⟨l,a,x4,x5,rfl,I,hC,hm,C,s4⟩;let⟨a1,a0⟩:=G3 S G I;let lf:(iN l).length=l.length:=zX _;exists _,Z,_,Z,D,_,Z,.inl (ZH.of C),_,_,Z,Z,_,Z;show if decide (((a:Nat):Int)<(((iN l).length:Nat):Int))=true then _ else _
 rcases yP a l.length with c | c
 ·rw[aK (show ((a:Nat):Int)<(((iN l).length:Nat):Int) by lia)]
  obtain⟨j,X⟩:∃ j,l[a]? = some j:=⟨_,zV c⟩;let ev:(iN l)[a]? = some (V.int (j:Nat)):=by unfold iN;rw[zE,X];rfl
  let t:=a0 j (zM X);let⟨tp,u,us,hg,a5,a6,w1,w2⟩:=(R.same s4).get t;let⟨st,a8⟩:=ZQy hw N a3 G I X;refine Zs ⟨_,λ_ _ z=>z,?_⟩;refine⟨_,Z,_,Z,_,Z,.inl ⟨D,_,_,_,Z,Z,ZH.of C,YO ev,d,a7,kN j,.ref tp,Z,(R.same s4).rcd.dk,Pt _ _,zN _,hg,tp,_,Z,Zj.of a5,Z,_,_,Z,_,_,Z,Z,?_⟩⟩;exists _,Z,Z,_,Z;rw[JD];by_cases W:(gd y j).h=0
  ·rw[aJ (show ¬ (gd y j).h≠0 from λz=>z W)];let⟨m',O,I'⟩:=a8 W;exact Zf ⟨_,Z,_,_,Z,Z,m',O,l,a+1,_,_,Z,I',by have:=DE hC X;rw[((hw j _ (Yl (N j t))).leaf W).1,yR] at this;exact this,hm,C,s4⟩
  ·rw[aK (show (gd y j).h≠0 from W)];let⟨m',O,I'⟩:=st W;let eu:=w2 W;subst eu;let⟨U,_⟩:=G3 S G I';let lb:(iN (gd y j).bs).length=(gd y j).bs.length:=zX _;refine Zs ⟨_,Z,.inl ⟨Z,_,ZH.of C⟩,_,Z,D,u,_,_,Z,Z,C,a6,by rw[zT] at U;lia,?_⟩
   refine⟨_,Z,_,_,Z,Z,m',O,l++(gd y j).bs,a+1,_,_,Z,I',DE hC X,xU _ hm,?_,λb o e=>by rw[ZU (ZY e a2)];exact s4 b o e⟩
   rw[ZP];unfold iN;rw[zH]
 ·rw[aJ (show ¬ ((a:Nat):Int)<(((iN l).length:Nat):Int) by lia)]
  exact Zf ⟨_,Z,k H4 D l s4 a2 C a1 a0 (Am I c) hm λx g=>ZPs hC c hm g⟩
def Gf(f a:aj)(c b:aI)(d:Sp):Sp:=λe H Q E=>H f=some (Ue f c)/\H a=some (Ue a b)/\d e H Q E
def CA{k:Nat}{f m:aj}{L:aI}{c:Str}{i:Arguments}{j:Expr}{a:aF}{pm B:ai}{N G:jt}{X:Sp}(S:ZC N G a)(F:∀ l H Q E,X l H Q E->l.length=G.length)(M:X9 L c)(p:∀ (A:ay) (g:jB) (s:ak) (H:Hp) (l:jf) (Q:VK) (E:XK),ZT k (A.deeper (envOfC c a s.heap.objs.size f (.ref m)))->X l H Q E ->
   ∃ t,PE (WW ZQ P w K mg ki N c a f (.ref m) A g s H E) j t/\t (UA N l) H Q):
  ZI P w K mg ki ZQ (k+1) f (PySem.W.kla_fn "<lambda>" c i j a [] pm (.ref m) B) G (Gf f m (vY "<lambda>" c i j a [] pm m B) L X):=by
 exists λl H Q E h=>F _ _ _ _ h.2.2;intro A g s H args us l Q E O C hb r T;let⟨hf,hc,hB⟩:=T;let hl:=F _ _ _ _ hB;let U:s.heap.NoLimit:=C.mod.nolimit.keeps λb o e=>(C.bs b o e).1;let D:s.heap.CodeRec (.ref m) c:=by
  let⟨Y,t,d,v1⟩:=M;exact⟨m,L,Y,t,Z,C.hok.obj hc,d,v1⟩
 let z:∀ y∈G.zip us,a.names.lookup y.1=some .local\/(a.names.lookup y.1=some .cell/\((cellsFrom (s.heap.objs.size+1) a.names []).lookup y.1).isSome=true):=λ⟨n,v⟩ hy=>by
  rcases S.par n (sX hy).1 with q | q
  ·exact .inl q
  ·exact .inr ⟨q,rE _ _ _ (.inl q)⟩
 refine PySem.W.kla_callFunE O.depth (C.hok.obj hf) Z S.co S.gen Z D (hb _ _ _ _ ?_);refine wpAny_newFunctionEnv_cells S.kind z λa0 he s1 x=>?_;subst he;exists U.keeps x.toInCall.keep;let⟨t,ht,hq⟩:=p A g s H l Q E (O.deeper _) hB;let I:ZF (WW ZQ P w K mg ki N c a f (.ref m) A g s H E) [] (UA N l) H s1:=Dg S O.hd C hl r x;refine PySem.W.kla_codeExpr (ae (ht [] s1 (UA N l) H _ I hq) (λu s' R=>?_) λe s' R=>R);let⟨v,H2,J,rv,q⟩:=R;exact⟨v,H2,J.os,J.bare,J.base,J.hok,rv,q⟩
def ZPk(X:Cx)(g:KT->KT)(k:Nat)(t:TA)(x:TE):TE:=λs H Q=>t s H λy v=>Yy x VG s v λz d=>∃(f:aj)(n:am)(r:Str)(o:Sp)(e:Hp->KT->V->Prop)(l:aj)(m:jf)(j:jp),z=[.ref f]/\y=[.ref l] /\
 ZI X.prog X.w X.K X.mg X.base ZQ k f n [r] o/\Zo X.K n [r] []/\(∀(H c:Hp)(t:KT)(u:V),ZD H c->e H t u->e c t u)/\(∀(c:Hp)(u:V)(t:KT)(Q:VK),ZD d c->e c t u->(∀(p:V)(h:Hp),ZB h (g t) p->ZD c h->Q p h)->o [u] c Q E0) /\
 d l=some (.lst m)/\Paired (e d) j m/\(∀ t∈j,t.fits 3=true)/\m.length<1000 /\
 ∀(D:aj)(q:jf)(i:jp)(c:Hp),ZD d c->d D=none->c D=some (.lst q)->Paired (e c) i q->i.Perm j->i.Pairwise (λa b=>b.lt a=false)->Q (.ref D) c
def C0{g:KT->KT}(P:Kg g)(E:∀ t,(g t).depth<=2 * t.depth+2){k:Nat}{p pos y:Pos}{e v:Expr}{t:TA}{x:TE}(V:ZT (k+2) X.A)(j:Gl X "sorted")(T:X.mg "sorted" = none)(M:PA X [e] t)(m:PE X v x)(N:aG pos (ar [e] X.env)=(false,aH e X.env)::aG pos (ar [] X.env):=by rfl)(a:(aG pos (ar [e] X.env)).any (·.1)=false:=by rfl):
  PE X (.Call (.Name "sorted" p) [e] [⟨some (xW "key"),v,y⟩] pos) (ZPk X g k t x):=by
 intro c s B H Q I h;refine ag (OW I j T Ef (callWith_kw (Z2 (M pos c s B H _ I h) λus s1 vs C D r q=>?_) N a));let W:PK X [⟨some (xW "key"),v,y⟩] (Yy x VG):=HQ m G2;refine Zy (W pos c s1 B C _ D q) ?_;rintro zs s2 ⟨zv,H2,d,rz,f,fd,x0,sp,IT,l,ws,ts,G,J,F,b,K,L,S,R,O,i,q2⟩;subst G J;let⟨u,rfl,ru⟩:=UB r;let⟨u2,rfl,w⟩:=UB rz;cases ru;cases w;let⟨n,z,Y,hz⟩:=d.list (ZH.of S);let lv:=z.length;exact HN P E V F b d K L R O i (λQ' U=>collect_list Y.isList (U _ n (d.kept (t':=s2.toks) λb o e=>(vQ _ _ (Ne.symm (yW (zP e)))).trans (zQ _ e)) z) (by rw[sizeLine_eq];first | lia | (simp;lia))) q2
def ZPX{a:aj}{b:aI}{q:Str}{i:Array DictEntry}(c:X9 b q):Ue a b≠Vk a i:=by
 intro z;let e:=congrFun (HO.ext.inj z) ((⟨sM a b,{}⟩:aE).push b);let⟨r,t,h,_⟩:=c;let j:b.isFreed=false:=by
  let⟨k,l,m,n⟩:=b;cases h;rfl
 let g:=yS (⟨sM a b,{}⟩:aE) j;rw[show (⟨sM a b,{}⟩:aE).objs.size=a from Array.size_replicate] at g;let⟨_,_,o,p,d,_,f⟩:=Eq.mp e g;rw[g] at d;cases d;rw[h] at f;cases f
def ZOv{w:ax}{H a:Hp}{T d:aj}{q:Str}{r:List (KT×V×V)}(h:YN H T q)(b:Zx w H d r)(s:ZE d H a):YN a T q:=by
 let⟨p,c,l,m⟩:=h;exists p,s _ _ c (P0 b c λ_ z=>nomatch z),l;intro pos k n;let⟨i,j,t,f,g⟩:=m pos k n;refine⟨i,j,t,s _ _ f (λz=>?_),g⟩;subst z;let⟨u,e⟩:=b.o;rw[f] at e;exact ZPX g (zA.inj e)
abbrev kR(j:Nat):KT:=.tup [.str "rows",.int (j:Int)]
def Uf(r:Zv):KT:=.tup [V5 r,r.1.rk]
def At{i j:Nat}(h:(kR i).eqb (kR j)=true):i=j:=by
 have:=Vg _ _ h;injection this with this;injection this with _ this;injection this with this;injection this with this
 lia
def F6(i j:Nat):(kR i).eqb (kN j)=false:=by
 cases e:(kR i).eqb (kN j) with
 | false=>rfl
 | true=>have:=Vg _ _ e;injection this
inductive Vp(N:aj->Prop)(H:Hp)(ts:jr)(j:Nat):V->Prop
 |mk{tp l dd:aj}{us:jf}{kvs:List (Zh×V)}:H tp=some (.tup [.ref l,.ref dd])->H l=some (.lst us)->¬ N l->jY H ((gd ts j).rows.map Uf) us->H dd=some (.dK kvs)->(∀ x,Ux ts j x->(Y9 kvs (.inl (x:Int))).isSome=true)->Vp N H ts j (.ref tp)
structure Xu(N:aj->Prop)(H H':Hp):Prop where
 t:Z4 H H'
 l:∀ b us,¬ N b->H b=some (.lst us)->H' b=some (.lst us)
 k:∀ b kvs,H b=some (.dK kvs)->H' b=some (.dK kvs)
def Vp.go{N:aj->Prop}{H a:Hp}{b:jr}{j:Nat}{v:V}(h:Vp N H b j v)(s:Xu N H a):Vp N a b j v:=by
 cases h with | mk h1 h2 h3 h4 h5 h6=>exact .mk (s.t _ _ h1) (s.l _ _ h3 h2) h3 (h4.mono s.t _ _) (s.k _ _ h5) h6
structure Xq(N:aj->Prop)(w:ax)(gt:jp)(ts:jr)(H:Hp)(d:aj)(xs:List (KT×V×V))(F:jq):Prop where
 rc:XR w gt ts H d xs F
 kn:∀ j v,XG xs (kR j)=some v->Vp N H ts j v
def Xq.go{N:aj->Prop}{w:ax}{b:jp}{c:jr}{H a:Hp}{d:aj}{f:List (KT×V×V)}{F:jq}(r:Xq N w b c H d f F)(s:Xu N H a)(g:∀ o,H d=some o->a d=some o):Xq N w b c a d f F:=⟨r.rc.go s.t g,λj v e=>(r.kn j v e).go s⟩
def Xu.same{N:aj->Prop}{H a:Hp}(s:ZD H a):Xu N H a:=⟨ZD.tups s,λb c _ e=>s _ _ e,λb k e=>s _ _ e⟩
abbrev qR:Str:=("_law_known_of" ++ ".<locals>.") ++ "<lambda>"
def V6:Arguments×Expr×Scope:=match (WT Qr)[(0:Nat)]? with
 | some (Stmt.If _ b _ _)=>(match b[(3:Nat)]? with
  | some (Stmt.Assign _ (.Tuple (.Call _ _ [⟨_,.Lambda ps b sc _,_⟩] _::_) _ _) _)=>(ps,b,sc)
  | _=>(⟨[],[],none,[],[],none,[]⟩,.Name "" ⟨0,0,0,0⟩,(Za Qr)))
 | _=>(⟨[],[],none,[],[],none,[]⟩,.Name "" ⟨0,0,0,0⟩,(Za Qr))
def ZPR:ZC ["_law_pair"] ["_law_pair"] V6.2.2:=Zm
inductive Uu(b:jf)(H:Hp)(Q:VK)(_:XK):Prop
 |mk(u:V)(r:Zv)(_:b=[u])(_:ZB H (Uf r) u)(_:∀(a:V),ZB H r.1.rk a->Q a H)
def ZK3{c:jv}(h:(c.map (·.1)).Pairwise λa b=>a.lt b=true){r q:Zv}(f:r∈c)(i:q∈c)(e:r.1=q.1):r=q:=by
 rw[tN] at h
 induction c with
 | nil=>simp at f
 | cons x c j=>
  let⟨d,g⟩:=xS.mp h;rcases yT.mp f with z | z <;> rcases yT.mp i with y | y
  ·rw[z,y]
  ·have:=d q y;rw[<-z,e,Q0] at this;cases this
  ·have:=d r z;rw[<-y,<-e,Q0] at this;cases this
  ·exact j g z y
def Fw{H:Hp}{d:jv}(h:(d.map (·.1)).Pairwise λa b=>a.lt b=true):∀(l:jv)(c:jf),(∀ r∈l,r∈d)->Paired (λt u=>∃ r∈d,r.1=t/\ZB H (Uf r) u) (l.map (·.1)) c->jY H (l.map Uf) c
 | [],c,_,p=>by cases p;exact .nil
 | r::l,c,hl,p=>by
  cases p with
  | cons f g=>
   let⟨q,i,e,k⟩:=f;have:=ZK3 h i (hl r (zI ..)) e;subst this;exact .cons k (Fw h l _ (λx j=>hl x (zG _ j)) g)
def GZ{H:Hp}{b:jv}:∀(l:jv)(a:jf),(∀ r∈l,r∈b)->jY H (l.map Uf) a->Paired (λt u=>∃ r∈b,r.1=t/\ZB H (Uf r) u) (l.map (·.1)) a
 | [],a,_,p=>by rw[wJ,jY] at p;subst p;exact .nil
 | r::l,a,hl,p=>by
  rw[zF,jY] at p;let⟨v,f,rfl,c,d⟩:=p;exact .cons ⟨r,hl r (zI ..),Z,c⟩ (GZ l f (λx e=>hl x (zG _ e)) d)
def IV{H:Hp}{r:Zv}{u:V}(h:ZB H (Uf r) u):∃ a d c,u=.ref a/\H a=some (.tup [d,c])/\ZB H (V5 r) d/\ZB H r.1.rk c:=by
 unfold Uf at h;rw[ZB] at h;let⟨a,m,rfl,e,b⟩:=h;rw[jY] at b;let⟨i,k,rfl,f,b⟩:=b;rw[jY] at b;let⟨j,l,rfl,g,b⟩:=b;rw[jY] at b;subst b;exact⟨a,i,j,Z,e,f,g⟩
def ZEl{ts:jr}{l:jq}{i j:Nat}(e:l[i]? = some j):QU ts (l.take (i+1))=QU ts (l.take i)++(if (gd ts j).h=0 then (gd ts j).rows else []):=by
 rw[yN,e];unfold QU;rw[wP,vU]
 congr 1
 by_cases h:(gd ts j).h=0 <;> simp[h]
def ZGt(a:jr)(l:jq)(i:Nat):(QU a (l.take i)).length<=(QU a l).length:=by
 conv=>rhs;rw[<-xQ i l]
 unfold QU;rw[wP,vU,zT]
 lia
def ZNY{f c':aj}{co:aI}{pm ctv:ai}(hcd:X9 co qR):
  ZI P w K mg ki ZQ 1 f (PySem.W.kla_fn "<lambda>" qR V6.1 V6.2.1 V6.2.2 [] pm (.ref c') ctv) ["_law_pair"] (Gf f c' (vY "<lambda>" qR V6.1 V6.2.1 V6.2.2 [] pm c' ctv) co Uu):=by
 refine CA ZPR (λvs H Q E h=>(by let⟨_,_,rfl,_⟩:=h;rfl)) hcd λA outer s H vs Q E hr h=>?_
 let⟨u,r,rfl,hu,k⟩:=h;exists _,XM K (pv 0) ZJ;let⟨a,vr,vk,rfl,ha,k1,k2⟩:=IV hu;exact⟨_,Z,a,_,_,vk,Z,Z,Zj.of ha,YO (j:=1) Z,k vk k2⟩
inductive Xg(w:ax)(h:jp)(T:aj)(j:jf)(H:Hp)(Q:VK)(E:XK):Prop
 |mk(N:aj->Prop)(e:jr)(d:aj)(g:List (KT×V×V))(F:jq)(i:Nat)(_:j=[.ref d,.int (i:Int)])(_:YN H T qR)(_:Xq N w h e H d g F)(_:i∈F)(_:(gd e i).rows.length<=300)(_:g.length<=900)(_:∀ b,N b->H b≠none)
  (_:∀(a:Hp)(c:List (KT×V×V))(v:V),(∀ b o,b≠T->b≠d->H b=some o->a b=some o)->YN a T qR->Xq N w h e a d c F->c.length<=g.length+1->Vp N a e i v->Q v a)
abbrev ZLF:jt:=["_law_record","_law_root_here","_law_rows","_law_reached_here","_law_number"]
def Wk:ZC ZLF zEd (Za Qr):=Zm
inductive FY(d l D dd:aj)(i:Nat)(H:Hp)(ts:jr)(found:jq)(n:Nat):L2.St->Hp->Prop
 |mk{ys:jf}{kvs:List (Zh×V)}{x4:jg}{H':Hp}:H' l=some (.lst (iN found))->H' D=some (.lst ys)->jY H' ((QU ts (found.take n)).map Uf) ys->H' dd=some (.dK kvs)->kvs.length<=n->(∀ j∈found.take n,(Y9 kvs (.inl (j:Int))).isSome=true)->ZD H H' ->
  FY d l D dd i H ts found n [some (.ref d),some (.int (i:Int)),some (.ref D),some (.ref dd),x4] H'
def IS(j:Nat):(kR j).depth<=3:=by simp[KT.depth,ke]
def IW{H:Hp}{q:aj}{j:Nat}(h:H q=some (.tup [.str "rows",.int (j:Int)])):ZB H (kR j) (.ref q):=.tup h (.cons (by rw[ZB]) (.cons (Pt _ _) .nil))
end Tw
namespace L2
open PySem PySem.Spec PyProof.Rows
section
variable{σ:St}{H:Hp}
def AN{J:It}{K:zZ}{r:jq}{z:TT}{w:TE}{Q:VK}{n:Nat}(h:Nat->V->Prop)(g:aj->Nat->jf->Hp->Prop)(S:n<aq)(q:∀ D i b H,i<n->g D i b H->J.go i H)(I:∀ D i b H x k,i<n->g D i b H->J.yld i H x k->k=H/\h i x)(j:∀ D b H,g D n b H->J.stop n H)(B:∀ D,H D=none->g D 0 [] (upd H D (.lst [])))(step:∀ D i b H x,H D=some (.lst b)->b.length<=i->i<n->h i x->g D i b H->∃ a u v,x=.ref a/\Zj K H a [u,v]/\∀ (R:VK) (N:Hp->Prop),(∀ y f,f D=some (.lst b)->g D (i+1) (b++[y]) (upd f D (.lst (b++[y])))->R y f)->(∀ f,f D=some (.lst b)->g D (i+1) b f->N f) ->
   z ([some u,some v]++r.map λi=>(σ[i]?).join) H λc t=>if c=true then w ([some u,some v]++r.map λi=>(σ[i]?).join) t R else N t)(o:∀ D b H,H D=some (.lst b)->g D n b H->Q (.ref D) H):Nc J 2 (P6 K) σ r z w H Q:=by
 intro D C;exists λi m H=>m=n-i/\i<=n/\∃ b,H D=some (.lst b)/\b.length<=i/\g D i b H,⟨n,rfl,zN _,[],ZP,zY _,B D C⟩;rintro i m H ⟨rfl,P,b,e,E,p⟩;by_cases d:i<n
 ·refine .inr ⟨q D i b H d p,λx k y M F=>?_⟩;let⟨rfl,L⟩:=I D i b H x k d p y;let⟨a,u,v,rfl,G,O⟩:=step D i b _ x e E d L p
  match M,F with
  | [T,U],_=>
   exists a,_,Z,G,Z,u,_,Z,v,_,Z,Z,⟨[some u,some v],Z,Z⟩;refine O _ _ (λy f l s=>?_) (λf l s=>?_)
   ·exact⟨b,n-(i+1),l,∅,∅,Z,d,b++[y],ZP,by rw[zT,vR];lia,s⟩
   ·exact⟨n-(i+1),∅,Z,d,b,l,∅,s⟩
 ·let A:i=n:=∅
  subst A;exact .inl ⟨j D b H p,o D b H e p⟩
end
end L2
namespace Tw
open PySem PySem.Spec L2 PyProof.Rows
variable{jh ji CS CT CH CK CP CB:aj}
def ZPH{a:jf}(n:Nat):Ql a none (some (n:Int))=a.take n:=by
 unfold Ql;rw[HT.sIx_none,HT.sIx_nat,tV,Nat.sub_zero,<-pU]
inductive W0(b:jp)(jh ji:aj)(g:jf)(H:Hp)(Q:VK)(_:XK):Prop
 |mk(X:YH)(d:aj)(c:Nat)(e:jf)(N:aj->Prop)(p:Nat×Nat)(u:V)(_:g=[.ref X.S,u])(_:Z3 jh ji H X d c e)(_:WF b X.ts)(_:p.1<X.ts.length)(_:Yi N H X.ts p u)(_:∀ a,ZD H a->Q (.int (Pi X.ts p:Nat)) a)
def Ub:ZC ["shelf","step","at","found"] zFg (Za JH):=Zm
def ZL7{gt:jp}(F:Zg K "rows_ahead" "rows_ahead" JH f fd)(T:YE mg)(DI:ZA P w K mg ki 1 "is_leaf" zFf YZ)(DU:ZA P w K mg ki 3 "rows_under" zEo (XS jh ji)):ZI P w K mg ki ZQ 4 f fd zFg (W0 gt jh ji):=by
 refine F.ko Ub λa0 A L s H vs Q E W h=>?_;let⟨X,lk,c,ls,N,p,u,rfl,R,hw,hp,⟨t,fv,rfl,Y,U⟩,q⟩:=h;let nd:=Ub.nd;let C:=W.to 1;intro Xc;refine⟨_,ZN (Zi 2 nd (XM K (pv 1) ZJ))
  (ZN (Zi 3 nd (XM K (pv 1) ZJ))
  (ZN (Zz (Y7 (Zc DI C (ZZ (pv 3)))) (ZS (Zd (pv 2))) Z1)
  (ZS (Zd (Zw (KW rfl) rfl T.sum KU (ZZ (VJ [0] ["shelf"] rfl (WX (Mo LE (XM K (pv 3) ZJ) FP (O0 (pv 2)))) (λ_ _ _ _ _=>Vf) (λ_ _ _ _ _=>Zc DU W (Zl (pv 1) (pv 0))) ⟨rfl,.inl rfl,rfl,trivial⟩))))))),?_⟩
 exists _,Z,t,_,_,_,Z,Z,Zj.of Y,Z,_,Z,t,_,_,_,Z,Z,Zj.of Y,Z,_,Z,N,gd X.ts p.1,fv,Z,U,_,Z;let⟨tp,l,us,rfl,h1,h2,n1,h3,h4⟩:=U;by_cases h:(gd X.ts p.1).h=0
 ·rw[aK h];let e:Pi X.ts p=p.2:=aO h;have:=q H (ZD.refl _);rw[e] at this;exact Zs ⟨_,Z,this⟩
 ·rw[aJ h];let eu:=h4 h;subst eu;let⟨b2,b4,b3,er⟩:=(hw _ _ (Yl hp)).stem h;refine Zf ⟨_,Z,tp,_,_,.ref l,Z,Z,Zj.of h1,Z,_,Z,_,Z,l,_,Z,ZH.of h2,λG J=>?_⟩;rw[ZPH,show (iN (gd X.ts p.1).bs).take p.2=iN ((gd X.ts p.1).bs.take p.2) from (sS).symm];let x:=ZW J (.lst (iN ((gd X.ts p.1).bs.take p.2)));let m:=ZP (H:=H) (a:=G) (o:=.lst (iN ((gd X.ts p.1).bs.take p.2)));generalize upd H G (.lst (iN ((gd X.ts p.1).bs.take p.2)))=M at x m⊢;let ll:(iN ((gd X.ts p.1).bs.take p.2)).length<=4:=by rw[zX,yF];lia
  refine⟨G,Z,⟨_,ZH.of m⟩,Vm (n:=(iN ((gd X.ts p.1).bs.take p.2)).length) (λi z=>(iN ((gd X.ts p.1).bs.take p.2))[i]? = some z) (λD j k g=>ZD M g/\M D=none/\k=((((gd X.ts p.1).bs.take p.2).take j).map λb=>(((gd X.ts b).rows.length:Nat):Int)).map V.int) (Y2 ∅)
   (λD j k g B d=>⟨_,_,ZH.of (d.1 _ _ m),zV B⟩) (λD j k g z H4 B d hy=>⟨hy.1,hy.2 _ (ZH.of (d.1 _ _ m))⟩) (λD k g d=>⟨_,ZH.of (d.1 _ _ m),zY _⟩)
   (λD S=>⟨ZW S _,S,Z⟩) (λD j k g z r a1 B hz d RR y=>?_) (λD k g r d=>?_)⟩
  ·let⟨v,I,rfl⟩:=d;let⟨b,O,rfl⟩:=Oj hz;let hb:=(b3 b (rQ (zM O))).1;refine⟨_,Z,_,Z,X,lk,c,ls,some b,Z,(R.same x).same v,(λi z=>by cases z;lia),y _ g r ⟨UR v I,I,?_⟩⟩
   rw[yN,O,zH,zH];rfl
  ·let⟨v,I,rfl⟩:=d;rw[yX (by rw[<-zX];exact zY _)] at r
   exists D,_,Z,ZH.of r;rw[Fe];let e:Pi X.ts p=(Zr X.ts ((gd X.ts p.1).bs.take p.2)).length:=aM h;have:=q g (x.trans v);rw[e] at this;exact this
def FS{d:jp}{jh ji:aj}{H:Hp}{X:YH}{l:aj}{c:Nat}{b:jf}{i:Nat}(a:Yo d jh ji H X l c b i)(k:KT):Xm X.ts i ((gd X.ts i).h+1) b (b++Qw (Xy X.ts k (gd X.ts i).h i)):=by
 let e:Qw (Xy X.ts k (gd X.ts i).h i)=iN ((Xy X.ts k (gd X.ts i).h i).map (·.1)):=by unfold Qw iN;rw[vZ];rfl
 rw[e];refine .mk _ (by rw[zX,Np];exact zY _) λx j=>?_
 let⟨p,g,rfl⟩:=zL.mp j;exact(Kv a.wf k _ i a.hi Z .self p g).1
inductive YL(j:jp)(jh ji:aj)(l:jf)(H:Hp)(Q:VK)(E:XK):Prop
 |mk(X:YH)(e:aj)(c:Nat)(g:jf)(i:Nat)(v:V)(k:KT)(_:l=[.ref X.S,.int (i:Int),v])(_:Yo j jh ji H X e c g i)(_:ZB H k v)(_:k.fits 3=true)
  (_:∀(d:Hp)(a:jf),(∀ b o,b≠e->H b=some o->d b=some o)->Z3 jh ji d X e c a->Xm X.ts i ((gd X.ts i).h+1) g a->Q (.int (YD (Y4 X.ts i) k:Nat)) d)
def ZJZ:ZC zEb zEb (Za Jb):=Zm
def ZIC{y:jp}(F:Zg K "place_of" "place_of" Jb f fd)(T:YE mg)(DS:ZA P w K mg ki 10 "steps_to" zEb (X4 y jh ji))(DA:ZA P w K mg ki 4 "rows_ahead" zFg (W0 y jh ji)):ZI P w K mg ki ZQ 11 f fd zEb (YL y jh ji):=by
 refine F.ko ZJZ λa0 A L s H vs Q E W h=>?_;let⟨X,lk,c,ls,r,v,k,rfl,a,kv,fk,q⟩:=h;let I:=W.to 4;intro Xc;exists _,ZS (Zd (Zw (KW rfl) rfl T.sum KU (ZZ (VJ [0] ["shelf"] rfl (WX (Zc DS W (WQ (pv 0) (pv 1) (pv 2)))) (λ_ _ _ _ _=>Vf) (λ_ _ _ _ _=>Zc DA I (Zl (pv 1) (pv 0))) ⟨rfl,.inl rfl,rfl,trivial⟩))));exists _,Z,_,Z,_,Z,X,lk,c,ls,r,v,k,Z,a,kv,fk;intro M S l fr O nS x t;let lw:=Np X.ts k (gd X.ts r).h r;let ln:=Paired.length t;let a2:=a.low r a.hi;let G:∀ p∈Xy X.ts k (gd X.ts r).h r,p.1<X.ts.length:=λp hp=>(Kv a.wf k _ r a.hi Z .self p hp).2;refine⟨S,Z,⟨l,ZH.of x⟩,Vm (n:=l.length) (λi z=>l[i]? = some z) (λD i m g=>ZD M g/\M D=none/\m=(((Xy X.ts k (gd X.ts r).h r).take i).map λp=>((Pi X.ts p:Nat):Int)).map V.int) (Y2 ∅)
  (λD i m g C d=>⟨l,l[i],ZH.of (d.1 _ _ x),by simp[C]⟩) (λD i m g z N C d Y=>⟨Y.1,Y.2 l (ZH.of (d.1 _ _ x))⟩) (λD m g d=>⟨l,ZH.of (d.1 _ _ x),zY _⟩)
  (λD U=>⟨ZW U _,U,Z⟩) (λD i m g z u a1 C hz d RR B=>?_) (λD m g u d=>?_)⟩
 ·let⟨j,J,rfl⟩:=d;let⟨p,R,st⟩:=Paired.ixR t hz;refine⟨_,Z,_,Z,X,lk,c,_,_,p,z,Z,O.same j,a.wf,G p (zM R),Yi.off st (λb o _ e=>j b o e) (ZD.tups j),λN s4=>B _ N (s4 _ _ u) ⟨UR (j.trans s4) J,J,?_⟩⟩;rw[yN,R,zH,zH];rfl
 ·let⟨j,J,rfl⟩:=d;rw[yX ∅] at u
  exists D,_,Z,ZH.of u;let e:((Xy X.ts k (gd X.ts r).h r).map λp=>((Pi X.ts p:Nat):Int)).sum=((YD (Y4 X.ts r) k:Nat):Int):=by
   rw[<-GI a.wf k _ r a.hi rfl,<-Hq,vZ];rfl
  rw[e];exact q g _ (λb o' n e=>j b o' (fr b o' n e)) (O.same j) (FS a k)
end Tw
namespace L2
open PySem PySem.Spec PyProof.Rows
def ZP7(K:zZ)(c:aj)(e:Sp)(t:TA)(f:TS):TS:=λD b H=>t b H λg d=>e (g++[]) d (λv a=>∀ p,a p=none->D.rt (.ref p) (upd a p (.lst [v]))) (Mw K c f D b)
def ZOJ{X:Cx}{k:Nat}{f V:aj}{fd:am}{ps:jt}{sp:Sp}{x y:Str}{p c n a3 py ph pos:Pos}{e:Expr}{G:jC}{t:TA}{i:aD}{d:jI}{ts:TS}(F:ZI X.prog X.w X.K X.mg X.base (Vi X.prog X.w) k f fd ps sp)(hr:ZT k X.A)(hg:Gl X x)(hm:X.mg x=some (.ref f))(hk:yJ X.K (.ref f)=true)(hb:Zo X.K fd ps [])(ha:∀ E',PA (X.wish E') (e::G) t)(a0:X.stack=X.env::X.outer)(c0:X.env.frame=some X.env.locals)(hy:Gl X y)(c4:X.mg y=some (.ref V))(ht:wZ X.K (.ref V)=some (.type "type"))(hB:yB X.K V (.type "BaseException")=some true)(hs:∀ U E',X7 (X.held U E') (i::d) ts)(a8:(x==("__debug__" : Str))=false:=by decide)(a9:(y==("__debug__" : Str))=false:=by decide)(he:ar (e::G) X.env=(false,aH e X.env)::ar G X.env:=by rfl)(c2:(aG c (ar G X.env)).any (·.1)=false:=by rfl)(c3:ar [.Call (.Name x p) (e::G) [] c] X.env=(false,aH (.Call (.Name x p) (e::G) [] c) X.env)::ar [] X.env:=by rfl):
  PS X (.Try [.Return (some (.List [.Call (.Name x p) (e::G) [] c] n)) a3] [.ExceptHandler (some (.Name y py)) none (i::d) ph] [] [] pos) (ZP7 X.K V sp t ts):=by
 intro a s S H D I h;refine wpAny_Try_except ?_;let c1:X.A.frames=some (X.env::X.outer):=by rw[I.ok.frames,a0]
 let P:∀(T:Hp)(R:ak)(m:ai)(j:ak),ZF X a S T R->Vi X.prog X.w X.stack T R (Mw X.K V ts D S) m j ->
   aC (aB X.prog X.w) X.A (noteFrame m X.env) (λ_ o=>aC (aB X.prog X.w) X.A (setFlight m none) (λ_ E=>aC (aB X.prog X.w) X.A (handleBy m X.env [.ExceptHandler (some (.Name y py)) none (i::d) ph]) (SP X a D) X.xe E) X.xe o) X.xe j:=by
  intro T R m j l hx;let⟨U,cls,od,H',rfl,W,C,rfl,mC,q⟩:=hx;let⟨B,Y,inT,a2,a1⟩:=W.ex;let a6:UC B (X.env::X.outer) U (.ref C) od .none j.heap:=by rw[<-a0];exact Y
  refine Ev c1 c0 a6 λh4 O a4=>?_;refine N8 (s:={ j with heap:=h4 }) O λh5 N a5=>?_;let J5:ZF X a S H' { j with heap:=h5 }:=MW l W inT a2 a1 N.1 (a4.trans a5);refine wpAny_handleBy_cons (codeAny_handlers_test ?_) (by intro q;cases q)
  refine Pr (J5.held U (λ_ _=>False)) hy c4 ?_ a9;refine GM (s:={ j with heap:=h5 }) J5.kIn N.at.is ht hB mC ?_;refine codeAny_handlers_suite ?_;refine N8 (s:={ j with heap:=h5 }) N λh6 a7 c5=>?_;let J6:ZF X a S H' { j with heap:=h6 }:=MW l W inT a2 a1 a7.1 ((a4.trans a5).trans c5);refine ae (hs U _ a _ _ _ _ (J6.held U _) q) (λY s8 h8=>?_) λ_ _ z=>z
  cases Y with
  | next=>
   let⟨g,L,M,Q⟩:=h8;exact⟨g,L,M.unheld l.ok,Q⟩
  | brk=>
   let⟨g,L,M,Q⟩:=h8;exact⟨g,L,M.unheld l.ok,Q⟩
  | cont=>
   let⟨g,L,M,Q⟩:=h8;exact⟨g,L,M.unheld l.ok,Q⟩
  | ret u=>
   let⟨v8,g,L,M,r8,Q⟩:=h8;exact⟨v8,g,L,M.unheld l.ok,r8,Q⟩
 let I':=I.wish (λm j=>aC (aB X.prog X.w) X.A (noteFrame m X.env) (λ_ o=>aC (aB X.prog X.w) X.A (setFlight m none) (λ_ E=>aC (aB X.prog X.w) X.A (handleBy m X.env [.ExceptHandler (some (.Name y py)) none (i::d) ph]) (SP X a D) X.xe E) X.xe o) X.xe j);refine wpAny_execs_cons (wpAny_Return_some (wpAny_List_spliced ?_));rw[c3];show aC _ _ (spliced ((false,aH (.Call (.Name x p) (e::G) [] c) X.env)::aG n (ar [] X.env))) _ _ s;refine Calls.spliced_cons ?_;refine ag (Pr I hg hm ?_ a8);refine vB (h₀:=X.base) I.ok.mod.kin hk (Z2 (ha _ c a s S H _ I' h) λus R vs T l r q=>⟨l.kIn,?_⟩) he c2;let r2:ZO (vs++[]) (us++[]):=r.append .nil;let hl:(us++[]).length=ps.length:=by rw[<-r2.length];exact F.len _ _ _ _ q
 refine wpAny_call (codeAny_mono (F.run X.A X.stack R T ⟨us,[]⟩ (us++[]) (vs++[]) _ _ hr l.env0 (hb R us l.kIn hl) r2 q) λrr j hq=>?_)
 cases rr with
 | error m=>exact P T R m j l.unwish hq
 | ok Y=>
  cases Y with
  | ret u=>
   let⟨v,H2,J,rv,q2⟩:=l.unwish.after hq;refine Zy (Zk (X:=X.wish _) n a j S H2 (λxs H'=>xs=[]/\H'=H2) (J.wish _) ⟨Z,Z⟩) ?_;rintro c6 s2 ⟨xs,H3,I3,r3,e1,e2⟩;subst e1 e2;cases r3;let I4:=I3.unwish;exists show 1<=aq by decide
   let hf:H3 s2.heap.objs.size=none:=I4.hok.fresh (zY _);exact⟨.ref s2.heap.objs.size,S,upd H3 s2.heap.objs.size (.lst [v]),I4.laid (t':=s2.toks) (λb u e=>zQ _ e) (zY _) ⟨show 1<=aq by decide,[u],0,.cons rv .nil,yS _ Z⟩,Z,q2 _ hf⟩
  | next=>exact False.elim hq
  | brk=>exact False.elim hq
  | cont=>exact False.elim hq
end L2
namespace Tw
open PySem PySem.Spec L2 PyProof.Rows
variable{jh ji CS CT CH CK CP CB:aj}
def Wo(a:jv)(n:Int):jv:=if 0<=n/\n<(a.length:Int) then [a.getD n.toNat rd] else []
structure QZ(P:al)(w:ax)(K:zZ)(mg:jc)(ki:aE)(k:Nat)(x:Str)(ps:jt)(sp:Sp):Prop where
 ex:∃ f fd,ZI P w K mg ki (Vi P w) k f fd ps sp/\Zo K fd ps []/\yJ K (.ref f)=true/\mg x=some (.ref f)
def C9{X:Cx}:QE (Vi X.prog X.w) X E0:=λ_ _ _ _ _ _ _ h=>by
 let⟨_,_,_,_,_,_,q⟩:=h;exact q.elim
def ZLd{X:Cx}{k:Nat}{x:Str}{q:jt}{g:Sp}{e:Expr}{a:jC}{t:TA}{p pos:Pos}(D:QZ X.prog X.w X.K X.mg X.base k x q g)(n:ZT k X.A)(i:PA X (e::a) t)(l:Gl X x:=by rfl)(c:(x==("__debug__" : Str))=false:=by decide)(j:ar (e::a) X.env=(false,aH e X.env)::ar a X.env:=by rfl)(d:(aG pos (ar a X.env)).any (·.1)=false:=by rfl):
  PE X (.Call (.Name x p) (e::a) [] pos) (IQ g [] E0 t):=by
 let⟨f,r,h,b,o,m⟩:=D.ex;exact G5 h n l m o b .nil C9 i c j d
def IC{d e:aj}{H f:Hp}{X:YH}{h D:aj}{c:Nat}{j:jf}(i:Z3 d e f X h c j)(g:∀ b o,b≠h->H b=some o->f b=some o)(a:f D=none):H D=none:=by
 cases z:H D with
 | none=>rfl
 | some o=>
  by_cases y:D=h
  ·rw[y,i.sh.looks] at a;cases a
  ·rw[g _ _ y z] at a;cases a
inductive X6(k:jp)(jh ji:aj)(l:jf)(H:Hp)(Q:VK)(E:XK):Prop
 |mk(X:YH)(e:aj)(c:Nat)(g:jf)(i:Nat)(n:Int)(_:l=[.ref X.S,.int (i:Int),.int n])(_:Yo k jh ji H X e c g i)
  (_:∀(a:Hp)(D:aj)(j d:jf),(∀ b o,b≠e->H b=some o->a b=some o)->Z3 jh ji a X e c d->Xm X.ts i ((gd X.ts i).h+1) g d->H D=none->a D=some (.lst j)->jY a (Z7 (Wo (gd X.ts i).rows n)) j->Q (.ref D) a)
def ZOL:ZC zEl zEl (Za Jh):=Zm
def Be{u:jp}(F:Zg K "row_at" "row_at" Jh f fd)(r:XN P w K mg ki "NoPlace" CP "at")(V:yB K CP (.type "BaseException")=some true)(Y:yB K CP (.ref CP)=some true)(z:QZ P w K mg ki 6 "nth" zEl (Um u jh ji CP)):ZI P w K mg ki ZQ 7 f fd zEl (X6 u jh ji):=by
 refine F.ko ZOL λJ A p s H vs Q E O h=>?_;let⟨X,T,c,x,i,n,rfl,q,k⟩:=h;let⟨g,N,C,I,R,U⟩:=z.ex;intro Xc;exists _,ZS (ZOJ C O Z U R I (λB=>WQ (pv 0) (pv 1) (pv 2)) Z Z Z r.at_ r.ty V (λea B=>ZS (Zd (Yb Zk))));refine⟨_,Z,_,Z,_,Z,X,T,c,x,i,n,Z,q,λj dx G y L=>⟨CP,Z,Y,YF,λD d=>?_⟩,λm M hm G v l a t S kv D d=>?_⟩
 ·let g:=y.trans (ZW d (.lst []));refine k _ D [] x (λb o _ e=>g b o e) (q.sh.same g) .zero (y.free d) ZP ?_;unfold Wo;rw[aM j];exact .nil
 ·subst M;let g:=ZW d (.lst [v]);refine k _ D [v] l (λb o n e=>g b o (a b o n e)) (t.same g) S (IC t a d) ZP ?_;unfold Wo;rw[aO ⟨∅,∅⟩,uW]
  exact .cons (kv.sm g) .nil
inductive XY(n:Int)(l:jp)(jh ji:aj)(m:jf)(H:Hp)(Q:VK)(E:XK):Prop
 |mk(X:YH)(e:aj)(c:Nat)(g:jf)(i:Nat)(v:V)(k:KT)(_:m=[.ref X.S,.int (i:Int),v])(_:Yo l jh ji H X e c g i)(_:g.length<=8000)(_:ZB H k v)(_:k.fits 3=true)
  (_:∀(a:Hp)(D:aj)(j d:jf),(∀ b o,b≠e->H b=some o->a b=some o)->Z3 jh ji a X e c d->Xm X.ts i (2 * ((gd X.ts i).h+1)) g d->H D=none->a D=some (.lst j)->jY a (Z7 (Wo (gd X.ts i).rows ((YD (Y4 X.ts i) k:Nat)+n))) j->Q (.ref D) a)
def A4:ZC zEb zEb (Za JY):=Zm
def ZK1:ZC zEb zEb (Za K0):=Zm
def ZNT{j:jp}(F:Zg K "from_key" "from_key" JY f fd)(x:ZA P w K mg ki 11 "place_of" zEb (YL j jh ji))(y:ZA P w K mg ki 7 "row_at" zEl (X6 j jh ji)):ZI P w K mg ki ZQ 12 f fd zEb (XY 0 j jh ji):=by
 refine F.ko A4 λB A m s H V Q E r h=>?_;let⟨X,u,c,O,i,v,J,rfl,d,C,kv,G,q⟩:=h;intro U;exists _,ZS (Zd (Zc y (r.mono (by decide)) (WQ (pv 0) (pv 1) (Zc x r (WQ (pv 0) (pv 1) (pv 2))))))
 let N:=d.low i d.hi;exists _,Z,_,Z,_,Z,_,Z,_,Z,X,u,c,O,i,v,J,Z,d,kv,G;intro T k a p t;have:=t.len;exists X,u,c,k,i,_,Z,d.next p ∅
 intro z D S l g R2 M R I L;exact q z D S l (λb o n e=>g b o n (a b o n e)) R2 ((t.trans M).mono ∅) (IC p a R) I (by rw[Int.add_zero];exact L)
def ZJX{j:jp}(F:Zg K "before_key" "before_key" K0 f fd)(x:ZA P w K mg ki 11 "place_of" zEb (YL j jh ji))(y:ZA P w K mg ki 7 "row_at" zEl (X6 j jh ji)):ZI P w K mg ki ZQ 12 f fd zEb (XY (-1) j jh ji):=by
 refine F.ko ZK1 λB A m s H V Q E r h=>?_;let⟨X,u,c,O,i,v,J,rfl,d,C,kv,G,q⟩:=h;intro U;exists _,ZS (Zd (Zc y (r.mono (by decide)) (WQ (pv 0) (pv 1) (Zu V3 (Zc x r (WQ (pv 0) (pv 1) (pv 2))) ZJ))))
 let N:=d.low i d.hi;exists _,Z,_,Z,_,Z,_,Z,_,Z,X,u,c,O,i,v,J,Z,d,kv,G;intro T k a p t;have:=t.len;exists _,_,Z,Z,X,u,c,k,i,_,Z,d.next p ∅
 intro z D S l g R2 M R I L;exact q z D S l (λb o n e=>g b o n (a b o n e)) R2 ((t.trans M).mono ∅) (IC p a R) I L
def OL(c:jr)(i:Nat)(a b:KT):Int:=if a.lt b=true then (YD (Y4 c i) b:Nat)-(YD (Y4 c i) a:Nat) else 0
inductive VX(n:jp)(jh ji:aj)(p:jf)(H:Hp)(Q:VK)(E:XK):Prop
 |mk(X:YH)(j:aj)(c:Nat)(k:jf)(i:Nat)(l m:V)(e g:KT)(_:p=[.ref X.S,.int (i:Int),l,m])(_:Yo n jh ji H X j c k i)(_:k.length<=8000)(_:ZB H e l)(_:e.fits 3=true)(_:ZB H g m)(_:g.fits 3=true)
  (_:∀(d:Hp)(a:jf),(∀ b o,b≠j->H b=some o->d b=some o)->Z3 jh ji d X j c a->Xm X.ts i (2 * ((gd X.ts i).h+1)) k a->Q (.int (OL X.ts i e g)) d)
def ZNS:ZC zEw zEw (Za Ik):=Zm
def ZLC{N:jp}(F:Zg K "many_between" "many_between" Ik f fd)(S:ZA P w K mg ki 8 "check_asked" zEb (YI jh ji))(T:ZA P w K mg ki 7 "checked" zE2 Vo)(U:ZA P w K mg ki 7 "ahead" zEx Yk)(M:ZA P w K mg ki 11 "place_of" zEb (YL N jh ji)):ZI P w K mg ki ZQ 12 f fd zEw (VX N jh ji):=by
 refine F.ko ZNS λa0 A I s H vs Q E t h=>?_;let⟨X,B,c,C,i,J,L,u,v,rfl,m,a1,k,g,Xo,j,q⟩:=h;let r:=t.to 7;let z:=t.to 8;intro Xc;refine⟨_,ZN (Wr (Zc S z (WQ (pv 0) (pv 1) (pv 2))))
  (ZN (Wr (Zc T r (ZZ (pv 3))))
  (ZN (Zz (Vv (Y7 (Zc U r (Zl (pv 2) (pv 3))))) (ZS (Zd ZJ)) Z1)
  (ZS (Zd (Zu V3 (Zc M t (WQ (pv 0) (pv 1) (pv 3))) (Zc M t (WQ (pv 0) (pv 1) (pv 2)))))))),?_⟩
 let a2:=m.low i m.hi;exists _,Z,_,Z,_,Z,X,B,c,C,i,J,u,Z,m.sh,m.hi,k,g;intro H1 R;exists _,Z,L,v,Z,Xo.sm R,j;intro H2 s2;let l:=R.trans s2;refine⟨_,Z,_,Z,J,L,u,v,Z,k.sm l,Xo.sm l,g,j,λV s3=>⟨_,Z,?_⟩⟩;let d:=l.trans s3;let x:=m.same d;let a:=q;unfold OL at a
 cases e:u.lt v with
 | false=>
  rw[e,aM zW] at a;exact Zs (a V C (λb o _ e=>d b o e) x.sh .zero)
 | true=>
  rw[e,aO rfl] at a;refine Zf ⟨_,Z,_,Z,_,Z,X,B,c,C,i,L,v,Z,x,Xo.sm d,j,λH4 D p Y O=>?_⟩;have:=O.len;exists _,Z,_,Z,_,Z,X,B,c,D,i,J,u,Z,m.next Y ∅,(k.sm d).mono (x.tups p) _ _,g
  intro W G y R5 l5;exact⟨_,_,Z,Z,a W G (λb o n e=>y b o n (p b o n (d b o e))) R5 ((O.trans l5).mono ∅)⟩
def ZLP{s:ak}(a b:KT)(A:ay)(v u:ai)(x:ZL s.heap a v)(y:ZL s.heap b u)(M:A.units+a.depth<cLine):SeqAt.RcAt A s v u (a.eqb b):=by
 let f:A.units<cLine:=∅
 cases a with
 | int i=>
  rw[ZL] at x;let⟨t,rfl⟩:=x
  cases b with
  | int j=>rw[ZL] at y;let⟨g,rfl⟩:=y;rw[KT.eqb];exact SeqAt.RcAt.int_int i t j g
  | str z=>rw[ZL] at y;let⟨g,rfl⟩:=y;rw[show (KT.int i).eqb (.str z)=false by simp[KT.eqb]];exact SeqAt.RcAt.int_str i t z g
  | tup m=>rw[ZL] at y;let⟨p,d,rfl,h,_⟩:=y;rw[show (KT.int i).eqb (.tup m)=false by simp[KT.eqb]];exact SeqAt.RcAt.int_tuple i t h f
 | str w=>
  rw[ZL] at x;let⟨t,rfl⟩:=x
  cases b with
  | int j=>rw[ZL] at y;let⟨g,rfl⟩:=y;rw[show (KT.str w).eqb (.int j)=false by simp[KT.eqb]];exact SeqAt.RcAt.str_int w t j g
  | str z=>rw[ZL] at y;let⟨g,rfl⟩:=y;rw[KT.eqb];exact SeqAt.RcAt.str_str w t z g
  | tup m=>rw[ZL] at y;let⟨p,d,rfl,h,_⟩:=y;rw[show (KT.str w).eqb (.tup m)=false by simp[KT.eqb]];exact SeqAt.RcAt.str_tuple w t h f
 | tup l=>
  rw[ZL] at x;let⟨p,d,rfl,r,C⟩:=x;rw[KT.depth] at M
  cases b with
  | int j=>rw[ZL] at y;let⟨g,rfl⟩:=y;rw[show (KT.tup l).eqb (.int j)=false by simp[KT.eqb]];exact SeqAt.RcAt.tuple_int j g r f
  | str z=>rw[ZL] at y;let⟨g,rfl⟩:=y;rw[show (KT.tup l).eqb (.str z)=false by simp[KT.eqb]];exact SeqAt.RcAt.tuple_str z g r f
  | tup m=>
   rw[ZL] at y;let⟨q,c,rfl,h,D⟩:=y;let P:=C.length;let Q:=D.length;let E:=SeqAt.RcAt.tuples (A:=A) (s:=s) (e:=λj=>(l.getD j (.int 0)).eqb (m.getD j (.int 0))) r h f (λj K L=>by
    let n:j<d.length:=by simpa using K
    let o:j<c.length:=by simpa using L
    let⟨k,B,N⟩:=C.get (j:=j) (u:=d[j]) (by simp[n])
    let⟨F,G,O⟩:=D.get (j:=j) (u:=c[j]) (by simp[o])
    let R:=Px (zM B);let I:l.getD j (.int 0)=k:=by rw[zU,B];rfl
    let J:m.getD j (.int 0)=F:=by rw[zU,G];rfl
    have:=NC k.depth k F A.in1 d[j] c[j] (zY _) N O (by show A.units+1+k.depth<cLine;lia)
    show SeqAt.EqAt A.in1 s _ _ ((l.getD j (.int 0)).eqb (m.getD j (.int 0)));rw[I,J];simpa using this)
   let H:((yU (min d.toArray.size c.toArray.size)).all (λj=>(l.getD j (.int 0)).eqb (m.getD j (.int 0)))&&d.toArray.size==c.toArray.size)=(KT.tup l).eqb (.tup m):=by
    rw[zR,zR,<-P,<-Q,KT.eqb];exact Nq l m
   rw[H] at E;exact E
inductive N4:V->V->Hp->VK->Prop
 |mk{x y:V}{H:Hp}{Q:VK}(a b:KT):ZB H a x->ZB H b y->a.depth<=200->Q (.bl (a.eqb b)) H->N4 x y H Q
def Gu{k:Nat}(g:ZT k X.A):XH X (aA .Eq) N4:=by
 intro c s l H x y v u Q I i j h;let⟨a,b,d,e,f,q⟩:=h;exact ZLP a b X.A v u (QA I a x v d i) (QA I b y u e j) (ZT.key g f) X.prog X.w X.xe _ ⟨.bl _,H,I,Z,q⟩
def VI(a:jv)(k:KT):jp:=(a.filter λr=>r.1.eqb k).map (·.2)
section
variable{gt:jp}{ts:jr}
def ZKB(m:WF gt ts){i:Nat}(l:i<ts.length)(f:(gd ts i).h≠0)(k:KT):∃ A C,(gd ts i).bs=A++Vy ts k i::C/\(A≠[]->k.lt (YA (gd ts (Vy ts k i))).lo=false)/\∀ c∈C,k.lt (YA (gd ts c)).lo=true:=by
 let⟨F,G,w⟩:=P2 m l f k;let u:=Lw m l f k;let p:=Ez m l f;let d:(gd ts i).bs=(gd ts i).bs.take (YY ts k i)++Vy ts k i::(gd ts i).bs.drop (YY ts k i+1):=by
  let⟨t,e⟩:=zC.mp w;exact(xQ (YY ts k i) _).symm.trans (by rw[vO t,e])
 let v:((gd ts i).bs.take (YY ts k i)).length=YY ts k i:=by rw[yF];lia
 let j:((gd ts i).bs.filter λb=>!k.lt (YA (gd ts b)).lo).length-1=YY ts k i:=(aM f).symm;rw[d,xZ] at p;rw[<-v] at j
 conv at j=>lhs;rw[d]
 let⟨_,E,n⟩:=p;let o:=(xS.mp E).1;let r:∀{x y:Nat},(YA (gd ts x)).lo.lt (YA (gd ts y)).lo=true->(!k.lt (YA (gd ts y)).lo)=true->(!k.lt (YA (gd ts x)).lo)=true:=fun{x y} h q=>by
  cases e:k.lt (YA (gd ts x)).lo with
  | false=>rfl
  | true=>rw[lt_trans' _ _ _ e h] at q;cases q
 let⟨B,D⟩:=Ft j λc g q=>⟨r (o c g) q,λa s=>r (n a s c (zG _ g)) q⟩;exact⟨_,_,d,λz=>by simpa using B z,λc g=>by simpa using D c g⟩
def GG(a b:jv)(k:KT):VI (a++b) k=VI a k++VI b k:=by unfold VI;rw[wP,zH]
def EL{rs:jv}{k:KT}(h:∀ r∈rs,r.1≠k):VI rs k=[]:=by
 unfold VI;rw[uZ.mpr λr a z=>h r a (Vg _ _ z)];rfl
def BP(d:WF gt ts){i:Nat}(m:i<ts.length)(g:(gd ts i).h≠0)(k:KT):VI (gd ts i).rows k=VI (gd ts (Vy ts k i)).rows k:=by
 let⟨A,C,f,w,x⟩:=ZKB d m g k;let p:=d i _ (Yl m);let⟨D,E,t,n⟩:=p.stem g;let s:=p.up;let B:Vy ts k i<ts.length:=by have:=(P2 d m g k).1;lia
 rw[n,f,vU,wX,zH,xZ] at s;rw[n,f,vU,wX,GG,GG,EL,EL (rs:=C.flatMap _),vE,yR]
 ·intro r a z;let⟨c,b,a⟩:=vD.mp a;let l:c<ts.length:=by
   have:=(t c (by rw[f];exact yL _ (zG _ b))).1
   lia
  let e:=Ex (j:=0) (d c _ (Yl l)) (zL.mpr ⟨r,a,Z⟩);rw[z,x c b] at e;cases e
 ·intro r a z;let⟨c,b,_⟩:=vD.mp a;let e:=w (λy=>by rw[y] at b;cases b)
  let⟨q,F,u,v⟩:=PJ (d _ _ (Yl B)).ne;let o:=s.2.2 _ (zL.mpr ⟨r,a,Z⟩) q.1 (zL.mpr ⟨q,xU _ (by rw[u];exact zI ..),Z⟩)
  rw[z,<-v,e] at o;cases o
def Je(b:WF gt ts)(k:KT):∀(n i:Nat),i<ts.length->(gd ts i).h=n->∃ j c r,Xy ts k n i=r++[(j,c)]/\j<ts.length/\(gd ts j).h=0/\VI (gd ts j).rows k=VI (gd ts i).rows k
 | 0,i,a,d=>⟨i,_,[],Z,a,d,Z⟩
 | n+1,i,a,d=>by
  let⟨m,o,_⟩:=P2 b a ∅ k
  let⟨j,c,r,e,f,g,l⟩:=Je b k n (Vy ts k i) ∅ ∅
  exact⟨j,c,(i,YY ts k i)::r,by rw[Xy,e];rfl,f,g,by rw[l,BP b a ∅]⟩
end
inductive Xi(l:jp)(jh ji:aj)(m:jf)(H:Hp)(Q:VK)(E:XK):Prop
 |mk(X:YH)(e:aj)(c:Nat)(g:jf)(i:Nat)(v:V)(k:KT)(_:m=[.ref X.S,.int (i:Int),v])(_:Yo l jh ji H X e c g i)(_:ZB H k v)(_:k.fits 3=true)
  (_:∀(a:Hp)(D:aj)(j d:jf),(∀ b o,b≠e->H b=some o->a b=some o)->Z3 jh ji a X e c d->Xm X.ts i ((gd X.ts i).h+1) g d->H D=none->a D=some (.lst j)->jY a (VI (gd X.ts i).rows k) j->Q (.ref D) a)
abbrev ZKv:jt:=["shelf","root","key","steps","rows"]
def Ws:ZC ZKv zEb (Za KN):=Zm
def ZHz{gt:jp}(F:Zg K "value_of" "value_of" KN f fd)(DS:ZA P w K mg ki 10 "steps_to" zEb (X4 gt jh ji)):ZI P w K mg ki ZQ 11 f fd zEb (Xi gt jh ji):=by
 refine F.ko Ws λa2 A a1 s H vs Q E hr h=>?_;let⟨X,lk,c,ls,i,v,k,rfl,G,kv,fk,q⟩:=h;let nd:=Ws.nd;intro Xc;refine⟨_,ZN (Zi 3 nd (Zc DS hr (WQ (pv 0) (pv 1) (pv 2))))
  (ZN (Zz (XB (Io hr.units0) (pv 3) (Yb Zk) (YK _)) (ZS (Zd (Yb Zk))) Z1)
  (ZN (Zi 4 nd (XM K (XM K (Zt K (pv 3) (Q1 Qo ZJ)) ZJ) ZJ))
  (ZS (Zd (VJ [2] zFh rfl (WX (pv 4)) (λ_ _ _ _ _=>OX (XB (Gu hr) (XM K (pv 0) ZJ) (pv 1) (YK _))) (λ_ _ _ _ _=>XM K (pv 0) ZJ) ⟨rfl,.inl rfl,rfl,trivial⟩))))),?_⟩
 exists _,Z,_,Z,_,Z,X,lk,c,ls,i,v,k,Z,G,kv,fk;intro T S J W R1 nS hS I;exists _,Z,YF;intro b nb;let g:=ZW nb (.lst []);let eb:=ZP (H:=T) (a:=b) (o:=.lst []);generalize upd T b (.lst [])=O at g eb⊢;let M:∀{D:aj},T D=none->H D=none/\D≠lk:=fun{D} l=>by
  let z:D≠lk:=λz=>by rw[z,R1.sh.looks] at l;cases l
  refine⟨?_,z⟩
  cases e:H D with
  | none=>rfl
  | some o'=>rw[W _ _ z e] at l;cases l
 exists S,b,J,Z,Z,ZH.of (g _ _ hS),ZH.of eb,_,Z;let hi:=G.hi;let⟨j,pl,rr,ew,hj,h0,es⟩:=Je G.wf k _ i hi Z;let V:=ew;rw[V] at I;let ln:=Paired.length I;rw[zT,vR] at ln;let hu:J[J.length-1]? = some (J[J.length-1]'∅):=zV _
 let⟨p,ep,t,fv,et,ht,FA⟩:=Paired.ixR I hu;let e1:p=(j,pl):=by
  rw[<-ln,Nat.add_sub_cancel,yE (zY _),Nat.sub_self] at ep;exact(zA.inj ep).symm
 subst e1;rw[et] at hu;let ne:J.isEmpty=false:=by
  cases J with
  | nil=>simp at ln
  | cons _ _=>rfl
 rw[ne];let⟨tq,lq,C,rfl,e4,R,a3,e6,e7⟩:=FA.same g;let kr:=e6 h0;let lv:C.length=(gd X.ts j).rows.length:=by have:=kr.length;rw[<-this];exact zX _
 let l4:=((G.wf j _ (Yl hj)).leaf h0).2;refine Zf ⟨_,Z,_,Z,.inl ⟨S,_,_,.ref t,Z,Z,ZH.of (g _ _ hS),FC (j:=1) (zY _) ∅ hu,t,_,_,.ref tq,Z,Z,Zj.of (g _ _ ht),Z,tq,_,_,.ref lq,Z,Z,Zj.of e4,Z,?_⟩⟩
 let t2:Z4 H O:=λb xs e=>g _ _ (W b _ (Zb e G.sh.sh.looks) e);let Xo:=kv.mono t2 _ _;refine⟨_,Z,lq,Z,⟨C,ZH.of R⟩,My (n:=C.length) (λi z=>C[i]? = some z) (λn=>((gd X.ts j).rows.getD n rd).1.eqb k) (λD n y r=>ZD O r/\O D=none/\jY O (VI ((gd X.ts j).rows.take n) k) y) (Y2 ∅)
  (λD n y r N d=>⟨C,C[n],ZH.of (d.1 _ _ R),by simp[N]⟩) (λD n y r z H4 N d hy=>⟨hy.1,hy.2 C (ZH.of (d.1 _ _ R))⟩) (λD y r d=>⟨C,ZH.of (d.1 _ _ R),zY _⟩)
  (λD hD=>⟨ZW hD _,hD,.nil⟩) (λD n y r z L N hz d B Y=>?_) (λD n y r z L N hz hk d B Y=>?_) (λD n y r L N hk d=>?_) (λD y r L d=>?_)⟩
 ·let⟨m,l,x⟩:=d;let⟨a,vk,vv,u,rfl,U,c1,c2⟩:=row_at kr hz;let a0:=((G.wf j _ (Yl hj)).inn _ (zM u)).1;exact⟨_,Z,a,_,_,vk,Z,Z,Zj.of (m _ _ U),Z,_,Z,.mk _ _ (c1.sm m) (Xo.sm m) (zS (V7 _ 3 a0) (by decide)) ⟨_,Z,Y r L ⟨m,l,x⟩⟩⟩
 ·let⟨m,l,x⟩:=d;let⟨a,vk,vv,u,rfl,U,c1,c2⟩:=row_at kr hz;refine⟨_,Z,a,_,_,vv,Z,Z,Zj.of (m _ _ U),Z,Y _ r L ⟨UR m l,l,?_⟩⟩;unfold VI at x⊢;rw[N9 _ u,aO hk,zH];exact x.append (.cons c2 .nil)
 ·let⟨m,l,x⟩:=d;let u:(gd X.ts j).rows[n]? = some ((gd X.ts j).rows.getD n rd):=by rw[zU,zV ∅];rfl
  exists m,l;unfold VI at x⊢;rw[N9 _ u,aM (by rw[hk];exact zW),yR]
  exact x
 ·let⟨m,l,x⟩:=d;rw[yX ∅,es] at x
  let⟨f1,f2⟩:=M (g.free l);exact q r D y _ (λb o z e=>m _ _ (g _ _ (W b o z e))) ((R1.same g).same m) (FS G k) f1 L (x.sm m)
def Er{r:Zv}(h:r.fit):(V5 r).wide 4=true:=by
 unfold V5;rw[KT.wide,LA];let a:=Mh _ _ h.1;let b:=Mh _ _ h.2;simp[a,b]
def Et(a:jv)(c:Nat):Wo a (c:Int)=(a.drop c).take 1:=by
 unfold Wo;rcases yP c a.length with h | h
 ·rw[aO ⟨∅,∅⟩,uW,vO h,vT,xA,zU,zV h]
  rfl
 ·rw[aM ∅,List.drop_eq_nil_of_le h]
  rfl
def ZH5{a:jv}{c:Nat}(h:c<=a.length):Wo a ((c:Int) + -1)=(a.take c).drop (c-1):=by
 cases c with
 | zero=>
  unfold Wo;rw[aM ∅]
  rfl
 | succ n=>
  let e:(((n+1:Nat):Int) + -1)=((n:Nat):Int):=∅
  rw[e,Et,Nat.add_sub_cancel,List.drop_take,vP]
def KP(k:KT):∀ c:jv,(c.map (·.1)).Pairwise (λa b=>a.lt b=true)->c.filter (λr=>r.1.lt k)=c.take (YD (c.map (·.1)) k)
 | [],_=>rfl
 | r::c,h=>by
  let⟨i,j⟩:=xS.mp (show (r.1::c.map (·.1)).Pairwise _ from h);let m:=KP k c j
  cases e:r.1.lt k with
  | true=>
   let f:YD ((r::c).map (·.1)) k=YD (c.map (·.1)) k+1:=by unfold YD;rw[zF,rG (p:=λx:KT=>x.lt k) e,yV]
   rw[rG (p:=λr:Zv=>r.1.lt k) e,f,vT,m]
  | false=>
   let g:∀ q∈c,q.1.lt k=false:=λq d=>by
    cases z:q.1.lt k with
    | false=>rfl
    | true=>rw[lt_trans' _ _ _ (i _ (zL.mpr ⟨q,d,rfl⟩)) z] at e;cases e
   let f:YD ((r::c).map (·.1)) k=0:=GL λx l=>by
    rcases yT.mp (show x∈r.1::c.map (·.1) from l) with z | z
    ·rw[z];exact e
    ·let⟨q,d,rfl⟩:=zL.mp z;exact g q d
   rw[f,xA];refine uZ.mpr λq d=>?_;rcases yT.mp d with z | z
   ·rw[z,e];exact zW
   ·rw[g q z];exact zW
def ZLv{a:jf}:Ql a (some (-1)) none=a.drop (a.length-1):=by
 unfold Ql;let e:HT.sIx a.length 0 (some (-1))=a.length-1:=by
  show (if (-1:Int)<0 then ((-1:Int)+(a.length:Int)).toNat else min (-1:Int).toNat a.length)=_
  rw[aO (by decide)]
  lia
 rw[e,HT.sIx_none];exact yX (by rw[wR];exact zY _)
def ZM1{f:jr}{i:Nat}(d g:KT):(if ((YD (Y4 f i) g:Nat):Int)-((YD (Y4 f i) d:Nat):Int) > 0 then ((YD (Y4 f i) g:Nat):Int)-((YD (Y4 f i) d:Nat):Int) else 0)=OL f i d g:=by
 let c:∀(a b:KT),(∀ x:KT,x.lt a=true->x.lt b=true)->YD (Y4 f i) a<=YD (Y4 f i) b:=λa b h=>by
  unfold YD;rw[<-pZ,<-pZ];exact qS λx _ j=>h x j
 unfold OL
 cases e:d.lt g with
 | true=>
  have:=c d g λx j=>lt_trans' _ _ _ j e;rw[aO rfl];split <;> lia
 | false=>
  have:=c g d λx j=>by
   cases z:x.lt d with
   | true=>rfl
   | false=>rw[Ks z j] at e;cases e
  rw[aM zW,aM ∅]
section
variable{σ:L2.St}{H:Hp}
def LT{K:zZ}{A:jq}{O:TT}{L:TE}{Q:VK}{a:aj}{h:jf}{m:jv}(p:Zv->Bool)(e:Zv->KT)(s:H a=some (.lst h))(I:jY H (m.map Uf) h)(l3:m.length<=300)(step:∀ b r u v,ZD H b->r∈m->ZB b (V5 r) u->ZB b r.1.rk v->∀ (R:VK) (N:Hp->Prop),(p r=true->∀ y,ZB b (e r) y->R y b)->(p r=false->N b)->O ([some u,some v]++A.map λi=>(σ[i]?).join) b λc B=>if c=true then L ([some u,some v]++A.map λi=>(σ[i]?).join) B R else N B)(o:∀ D f b,ZD H b->H D=none->b D=some (.lst f)->jY b ((m.filter p).map e) f->Q (.ref D) b):Nc (NH K a) 2 (P6 K) σ A O L H Q:=by
 let lu:=I.length;rw[zX] at lu;refine AN (K:=K) (n:=h.length) (λi z=>h[i]? = some z) (λD i f b=>ZD H b/\H D=none/\jY b (((m.take i).filter p).map e) f) (Y2 ∅)
  (λD i f b w g=>⟨h,h[i],ZH.of (g.1 _ _ s),by simp[w]⟩) (λD i f b z T w g G=>⟨G.1,G.2 h (ZH.of (g.1 _ _ s))⟩) (λD f b g=>⟨h,ZH.of (g.1 _ _ s),zY _⟩)
  (λD F=>⟨ZW F _,F,.nil⟩) (λD i f b z k Y w hz g=>?_) (λD f b k g=>?_)
 ·let⟨j,l,d⟩:=g;let⟨t,E,kt⟩:=(I.mono (ZD.tups j) _ _).get hz;rw[zE] at E;let⟨r,C,rfl⟩:=xP.mp E;let⟨q,S,P,rfl,hq,k1,k2⟩:=IV kt;let M:=N9 p C;refine⟨q,S,P,Z,Zj.of hq,λR N X U=>step b r S P j (zM C) k1 k2 R N (λx y ky=>X y b k ⟨UR j l,l,?_⟩) λx=>U b k ⟨j,l,?_⟩⟩
  ·rw[M,aO x,zH];let J:Z4 b (upd b D (.lst (f++[y]))):=(ZE.refl D _).upd.tups k;exact(d.mono J _ _).append (.cons (ky.mono J _ _) .nil)
  ·rw[M,aM (by rw[x];exact zW),yR]
   exact d
 ·let⟨j,l,d⟩:=g;rw[yX ∅] at d
  exact o D f b j l k d
end
def IR:(["_law_row","_law_tag","_law_ranks"]:jt).Nodup:=by decide +kernel
def nd4:(zFb:jt).Nodup:=by decide +kernel
inductive UY(H:Hp)(ts:jr)(i at_:Nat)(k1 k2:KT):V->Prop
 |mk{D n0 n1 sd:aj}{v0:V}{u0 u1 us:jf}:H D=some (.lst [v0,.int (YD (Y4 ts i) k1:Nat),.ref n0,.ref n1,.int (OL ts i k1 k2),.ref sd])->ZB H (V5 ((gd ts i).rows.getD at_ rd)) v0->H n0=some (.lst u0)->jY H (Z7 (Wo (gd ts i).rows ((YD (Y4 ts i) k1:Nat)+0))) u0->H n1=some (.lst u1)->jY H (Z7 (Wo (gd ts i).rows ((YD (Y4 ts i) k1:Nat) + -1))) u1->H sd=some (.lst us)->jY H (VI (gd ts i).rows k1) us->UY H ts i at_ k1 k2 (.ref D)
inductive QC(k:jp)(m:jf)(H:Hp)(Q:VK)(E:XK):Prop
 |mk(b:jr)(i a:Nat)(l:aj)(g:jf)(h j:V)(d e:KT)(_:m=[.ref l,.int (a:Int),h,j])(_:Xw k b i (gd b i))(_:(gd b i).rows.length<=300)(_:a<(gd b i).rows.length)(_:H l=some (.lst g))(_:jY H ((gd b i).rows.map Uf) g)(_:ZB H d h)(_:d.fits 3=true)(_:ZB H e j)(_:e.fits 3=true)
  (_:∀ c v,ZD H c->UY c b i a d e v->Q v c)
abbrev ZRa:jt:=["_law_rows","_law_at","_law_spot","_law_other","_law_ranks","_law_lesser","_law_nearer","_law_side","_law_near"]
def Pl:ZC ZRa zEn (Za KQ):=Zm
def B8{gt:jp}(F0:Zg K "_law_due" "_law_due" KQ f fd)(T:YE mg)(DR:ZA P w K mg ki 6 "_law_rank" zEt (Yq 5)):ZI P w K mg ki ZQ 8 f fd zEn (QC gt):=by
 refine F0.ko Pl λm3 A m1 s H vs Q E p h=>?_;let⟨e,i,e3,l,G,v1,v2,k,L,rfl,ok,r3,c4,hl,ks,i9,c0,Xo,c3,q⟩:=h;let nd:=Pl.nd;let c8:=p.to 6;intro Xc;refine⟨_,ZN (Eh (i:=4) nd rfl (Or.inr rfl) (Yb (Zl (Zc DR c8 (ZZ (pv 2))) (Zc DR c8 (ZZ (pv 3))))))
  (ZN (MO (g:=P6 K) zFb "_law_row" (i:=5) [4] ["_law_ranks"] nd rfl rfl rfl (λ_ _ _ _ _=>MH Z IR Z Z Z Z) (WX (pv 0)) (λ_ _ _ _ _=>OX (XB (Jy p) (pv 1) (Zt K (pv 2) ZJ) (YK _))) (λ_ _ _ _ _=>pv 0) ⟨rfl,.inl rfl,rfl,trivial⟩)
  (ZN (MO (g:=P6 K) zFb "_law_row" (i:=6) [4] ["_law_ranks"] nd rfl rfl rfl (λ_ _ _ _ _=>MH Z IR Z Z Z Z) (WX (pv 0)) (λ_ _ _ _ _=>OX (XB (Jy p) (pv 1) (Zt K (pv 2) ZJ) (YK _))) (λ_ _ _ _ _=>pv 0) ⟨rfl,.inl rfl,rfl,trivial⟩)
  (ZN (MO (g:=P6 K) zFb "_law_row" (i:=7) [4] ["_law_ranks"] nd rfl rfl rfl (λ_ _ _ _ _=>MH Z IR Z Z Z Z) (WX (pv 0)) (λ_ _ _ _ _=>OX (XB (Gu p) (pv 1) (Zt K (pv 2) ZJ) (YK _))) (λ_ _ _ _ _=>XM K (pv 0) ZJ) ⟨rfl,.inl rfl,rfl,trivial⟩)
  (ZN (Zi 8 nd (Yb (Zl (F7 (g:=P6 K) zFb "_law_row" [] [] rfl (λ_ _ _ _ _=>MH Z nd4 Z Z Z Z) (WX (Mo LE (pv 0) (O0 (Zw XE rfl T.len Y6 (ZZ (pv 5)))) (O0 (Zu Wf (Zw XE rfl T.len Y6 (ZZ (pv 5))) ZJ)))) (λ_ _ _ _ _=>Vf) (λ_ _ _ _ _=>pv 0) trivial) (Mo LE (pv 5) (O0 (Q1 Qo ZJ)) FP))))
  (ZS (Zd (Yb (IK (XM K (Zt K (pv 0) (pv 1)) ZJ) (Zw XE rfl T.len Y6 (ZZ (pv 5))) (Zt K (pv 8) ZJ) (Zt K (pv 8) ZJ) (Zw (Mb rfl) rfl T.max M0 (Zl ZJ (Zu V3 (Zw XE rfl T.len Y6 (ZZ (pv 6))) (Zw XE rfl T.len Y6 (ZZ (pv 5)))))) (pv 7))))))))),?_⟩
 let d1:=V7 _ 3 c0;let d2:=V7 _ 3 c3;refine⟨_,Z,v1,k,3,Z,i9,c0,∅,λw1 H1 O s1=>⟨_,Z,v2,L,3,Z,Xo.sm s1,c3,∅,λw2 H2 a4 s2=>⟨YF,λrk m0=>?_⟩⟩⟩
 let g3:=ZW m0 (.lst [w1,w2]);let I:=ZP (H:=H2) (a:=rk) (o:=.lst [w1,w2]);generalize upd H2 rk (.lst [w1,w2])=H3 at g3 I⊢;let a5:=(s1.trans s2).trans g3;let O:=O.sm (s2.trans g3);let a4:=a4.sm g3;let dk:∀ r∈(gd e i).rows,r.1.rk.depth<=200:=λr p=>by
  have:=V7 _ 3 (ok.inn r p).1;have:=Na r.1
  lia
 let l5:=ks.length;rw[zX] at l5;let n:=a5 _ _ hl;let x:=ks.sm a5;refine⟨_,Z,l,Z,⟨G,ZH.of n⟩,LT (λr=>r.1.lt k) V5 n x r3 (λH' r u v U p M kv R N hR hN=>?_) (λD5 b H5 s5 m6 e6 c9=>?_)⟩
 ·refine⟨_,Z,_,Z,.inl ⟨rk,_,_,w1,Z,Z,ZH.of (U _ _ I),YO (j:=0) Z,r.1.rk,k.rk,kv,O.mono (ZD.tups U) _ _,WI.cmp _ _,dk r p,_,Z,?_⟩⟩;rw[WI.plt]
  cases z:r.1.lt k with
  | true=>exact Zs ⟨_,Z,hR z u M⟩
  | false=>exact Zf (hN z)
 let B:=s5;let c6:=B _ _ n;let i6:=x.sm B;refine⟨_,Z,l,Z,⟨G,ZH.of c6⟩,LT (λr=>r.1.lt L) V5 c6 i6 r3 (λH' r u v U p M kv R N hR hN=>?_) (λD6 fs H6 s6 m7 e7 i4=>?_)⟩
 ·refine⟨_,Z,_,Z,.inl ⟨rk,_,_,w2,Z,Z,ZH.of (U _ _ (B _ _ I)),YO (j:=1) Z,r.1.rk,L.rk,kv,(a4.sm B).mono (ZD.tups U) _ _,WI.cmp _ _,dk r p,_,Z,?_⟩⟩;rw[WI.plt]
  cases z:r.1.lt L with
  | true=>exact Zs ⟨_,Z,hR z u M⟩
  | false=>exact Zf (hN z)
 let C:=B.trans s6;let c7:=C _ _ n;let i7:=x.sm C;refine⟨_,Z,l,Z,⟨G,ZH.of c7⟩,LT (λr=>r.1.eqb k) (·.2) c7 i7 r3 (λH' r u v U p M kv R N hR hN=>?_) (λD7 gs H7 s7 m8 e9 i5=>?_)⟩
 ·refine⟨_,Z,_,Z,.inl ⟨rk,_,_,w1,Z,Z,ZH.of (U _ _ (C _ _ I)),YO (j:=0) Z,.mk _ _ kv ((O.sm C).mono (ZD.tups U) _ _) (dk r p) ⟨_,Z,?_⟩⟩⟩;rw[JI]
  cases z:r.1.eqb k with
  | true=>
   unfold V5 at M;rw[ZB] at M;let⟨a,vs,rfl,ha,hk⟩:=M;rw[jY] at hk;let⟨a1,b1,rfl,c1,hk⟩:=hk;rw[jY] at hk;let⟨a2,b2,rfl,c2,hk⟩:=hk;exact Zs ⟨_,Z,a,_,_,a2,Z,Z,Zj.of ha,YO (j:=1) Z,hR z a2 c2⟩
  | false=>exact Zf (hN z)
 let a6:=C.trans s7;let up:=ok.up;let l6:=KP k _ up;let m5:=KP L _ up;let l2:=c9.length;let l3:=i4.length;rw[zX] at l2 l3;let e4:((gd e i).rows.filter λr=>r.1.lt k).length=YD (Y4 e i) k:=by unfold YD Y4;rw[List.filter_map,zX];rfl
 let m4:((gd e i).rows.filter λr=>r.1.lt L).length=YD (Y4 e i) L:=by unfold YD Y4;rw[List.filter_map,zX];rfl
 let m:=(s6.trans s7) _ _ e6;let i0:=a6 _ _ n;let S:b.length=YD (Y4 e i) k:=∅
 let cl:YD (Y4 e i) k<=(gd e i).rows.length:=by rw[<-e4];exact tH _ _
 exists _,Z,_,Z,D5,b,Z,.inl (ZH.of m),_,Z,_,Z,D5,b,Z,.inl (ZH.of m),_,_,Z,Z,_,Z,l,G,Z,ZH.of i0;intro q1 l8;rw[show (((b.length:Nat):Int)+1)=(((b.length:Nat):Int)+((1:Nat):Int)) from rfl,Hm G b.length 1 ∅]
 let g8:=ZW l8 (.lst ((G.drop b.length).take 1));let e8:=ZP (H:=H7) (a:=q1) (o:=.lst ((G.drop b.length).take 1));generalize upd H7 q1 (.lst ((G.drop b.length).take 1))=H8 at g8 e8⊢;let k8:jY H8 ((Wo (gd e i).rows ((YD (Y4 e i) k:Nat):Int)).map Uf) ((G.drop b.length).take 1):=by
  rw[Et,<-S,sS,sU];exact(((x.sm (a6.trans g8)).drop b.length).take 1)
 let l1:(Wo (gd e i).rows ((YD (Y4 e i) k:Nat):Int)).length<=300:=by unfold Wo;split <;> simp
 refine⟨q1,Z,⟨_,ZH.of e8⟩,LT (λ_=>true) V5 e8 k8 l1 (λH' r u v U p M kv R N hR hN=>⟨_,Z,hR Z u M⟩) (λn0 u0 H9 s9 m9 i1 e1=>?_)⟩;rw[uK.mpr λ_ _=>rfl] at e1;let a7:=g8.trans s9;exists _,Z,1,Z,_,Z,D5,b,Z,ZH.of (a7 _ _ m);intro q2 l9;rw[ZLv];let Y:=ZW l9 (.lst (b.drop (b.length-1)));let a8:=ZP (H:=H9) (a:=q2) (o:=.lst (b.drop (b.length-1)));generalize upd H9 q2 (.lst (b.drop (b.length-1)))=W at Y a8⊢;let e2:=((s6.trans s7).trans a7).trans Y;let i3:jY W (Z7 (Wo (gd e i).rows ((YD (Y4 e i) k:Nat) + -1))) (b.drop (b.length-1)):=by
  rw[ZH5 cl];have:=(c9.sm e2).drop (b.length-1);rw[l6,S] at this;rw[S];unfold Z7;rw[sU];exact this
 exists YF;intro nr l7;let J:=ZW l7 (.lst [.ref n0,.ref q2]);let X:=ZP (H:=W) (a:=nr) (o:=.lst [.ref n0,.ref q2]);generalize upd W nr (.lst [.ref n0,.ref q2])=m2 at J X⊢;let F:=Y.trans J;let d:=a7.trans F;let y:=a6.trans d;let c5:=y _ _ n;let e0:=x.sm y;let V:e3<G.length:=∅
 let⟨tt,a9,i8⟩:=e0.get (zV V);rw[zE,zV c4] at a9;cases a9;let⟨pa,vr,vk,e5,i2,l0,_⟩:=IV i8;let t:=d _ _ m;let a0:=d _ _ (s7 _ _ e7);let a3:=d _ _ e9;refine⟨_,Z,_,Z,.inl ⟨l,G,_,.ref pa,Z,Z,ZH.of c5,YO (by rw[<-e5];exact zV V),pa,_,_,vr,Z,Z,Zj.of i2,YO (j:=0) Z,_,Z,D5,b,Z,.inl (ZH.of t),_,Z,.inl ⟨nr,_,_,.ref n0,Z,Z,ZH.of X,YO (j:=0) Z,_,Z,.inl ⟨nr,_,_,.ref q2,Z,Z,ZH.of X,YO (j:=1) Z,_,Z,D6,fs,Z,.inl (ZH.of a0),_,Z,D5,b,Z,.inl (ZH.of t),_,_,Z,Z,_,_,Z,_,Z,YF,λD nD=>?_⟩⟩⟩⟩
 let l4:fs.length=YD (Y4 e i) L:=∅
 rw[S,l4,ZM1];let c:=ZW nD (.lst [vr,.int (YD (Y4 e i) k:Nat),.ref n0,.ref q2,.int (OL e i k L),.ref D7]);refine q _ _ (a5.trans (y.trans c)) (.mk ZP ?_ (c _ _ (F _ _ i1)) ?_ (c _ _ (J _ _ a8)) (i3.sm (J.trans c)) (c _ _ a3) ((i5.sm d).sm c))
 ·rw[zU,zV c4];exact l0.sm c
 ·rw[Int.add_zero];exact(e1.sm F).sm c
abbrev JC:Stmt:=Wt (Zn 56) 15
abbrev Jt:Stmt:=Wt (Zn 56) 14
inductive Yz(jh ji:aj)(h:jf)(H:Hp)(Q:VK)(_:XK):Prop
 |mk(X:YH)(e:aj)(c:Nat)(g:jf)(_:h=[.ref X.S])(_:Z3 jh ji H X e c g)(_:∀(d:Hp)(a:aj),H a=none->(∀ b o,b≠X.S->H b=some o->d b=some o)->Z3 jh ji d X a c []->Q .non d)
def BC:ZC zEm zEm (Za JC):=Zm
def ZJR(F:Zg K "forget" "Shelf.forget" JC f fd)(L:Yw K mg jh ji):ZI P w K mg ki ZQ 1 f fd zEm (Yz jh ji):=by
 refine F.ko BC λv A p s H J Q E D h=>?_;let⟨X,B,c,G,rfl,R,k⟩:=h;intro C;exists _,ZS (PR (pv 0) (Yb Zk) Z);exists YF;intro j a;let q:=ZW a (.lst []);let⟨⟨l,g⟩,r,z⟩:=R.sh;let y:=q _ _ g;exists _,Z,X.S,jh,l,_,Z,y,L.cS,L.nl,yI Z;let u:X.S≠j:=ZY g a;let m:∀ b o,b≠X.S->H b=some o->upd (upd H j (.lst [])) X.S (.ins jh l (XW "looks" (.ref j) (Pd X.d B c))) b=some o:=λb o n e=>by rw[ZU n];exact q _ _ e
 refine k _ j a m (R.frame ⟨⟨l,ZP⟩,m _ _ (Zb r g) r,(by rw[ZU (Ne.symm u)];exact ZP)⟩ (λb o n _ _ e=>m b o n e) (λi t=>?_) R.le)
 let⟨I,x,_⟩:=(R.tw i t).things;exact⟨ZY (R.tw i t).tw.above a,ZY x a⟩
inductive Y1(jh ji:aj)(d:jf)(H:Hp)(Q:VK)(_:XK):Prop
 |mk(X:YH)(b:aj)(c:Nat)(a:jf)(_:d=[.ref X.S])(_:Z3 jh ji H X b c a)(_:∀ p,H p=none->Q (.ref p) (upd H p (.lst a)))
def ZLU:ZC zEm zEm (Za Jt):=Zm
def BY(F:Zg K "looked" "Shelf.looked" Jt f fd)(T:YE mg)(L:Yw K mg jh ji):ZI P w K mg ki ZQ 1 f fd zEm (Y1 jh ji):=by
 refine F.ko ZLU λe A b s H o Q E n h=>?_;let⟨X,d,c,j,rfl,R,k⟩:=h;intro l;exists _,ZS (Zd (Wn Pz rfl T.list QG (ZZ (Vx (pv 0) rfl))));let⟨⟨g,i⟩,m,a⟩:=R.sh;exact⟨_,Z,X.S,jh,g,_,.ref d,Z,i,L.cS,L.nl,Z,d,j,Z,.inl (ZH.of a),k⟩
abbrev IZ:Stmt:=Wt (Zn 56) 16
def ZJA:ZC zEm zEm (Za IZ):=Zm
inductive Xa(jh ji:aj)(d:jf)(H:Hp)(Q:VK)(_:XK):Prop
 |mk(X:YH)(a:aj)(c:Nat)(b:jf)(_:d=[.ref X.S])(_:Z3 jh ji H X a c b)(_:X.ts.length<1000)(_:∀ p,H p=none->Q (.ref p) (upd H p (.lst (((yU X.ts.length).map λi:Nat=>(i:Int)).map V.int))))
def Ds(F:Zg K "numbers" "Shelf.numbers" IZ f fd)(T:YE mg)(L:Yw K mg jh ji):ZI P w K mg ki ZQ 1 f fd zEm (Xa jh ji):=by
 refine F.ko ZJA λg A e s H u Q E q h=>?_;let⟨X,r,c,t,rfl,R,o,k⟩:=h;intro p;exists _,ZS (Zd (Zw (CL rfl) rfl T.sorted ZJ8 (ZZ (Vx (pv 0) rfl))));let⟨⟨j,l⟩,m,n⟩:=R.sh;refine⟨_,Z,X.S,jh,j,_,.ref X.d,Z,l,L.cS,L.nk,Z,X.d,X.kvs,(yU X.ts.length).map λi:Nat=>(i:Int),Z,m,?_,?_,by rw[zX,List.length_range];exact o,k⟩
 ·rw[R.keys,vZ];rfl
 ·rw[tN];exact tY.imp (fun{a b}(h:a<b)=>by show (a:Int)<=(b:Int);lia) List.pairwise_lt_range
abbrev K5:Stmt:=Wt (Zn 56) 17
def ZPx:ZC zEm zEm (Za K5):=Zm
inductive UH(jh ji:aj)(d:jf)(H:Hp)(Q:VK)(E:XK):Prop
 |mk(X:YH)(a:aj)(c:Nat)(b:jf)(_:d=[.ref X.S])(_:Z3 jh ji H X a c b)(_:Q (.int (X.ts.length:Nat)) H)
def ZNH(F:Zg K "many" "Shelf.many" K5 f fd)(T:YE mg)(L:Yw K mg jh ji):ZI P w K mg ki ZQ 1 f fd zEm (UH jh ji):=by
 refine F.ko ZPx λb A a s H q Q E n h=>?_;let⟨X,o,c,p,rfl,R,k⟩:=h;intro m;exists _,ZS (Zd (Zw An rfl T.len Y6 (ZZ (Vx (pv 0) rfl))));let l:=R.klen;let⟨⟨e,g⟩,i,j⟩:=R.sh;exact⟨_,Z,X.S,jh,e,_,.ref X.d,Z,g,L.cS,L.nk,Z,X.d,X.kvs,Z,i,by rw[l];exact k⟩
inductive XF(jh ji:aj)(d:jf)(H:Hp)(Q:VK)(E:XK):Prop
 |mk(X:YH)(a:aj)(c:Nat)(b:jf)(i:Nat)(_:d=[.ref X.S,.int (i:Int)])(_:Z3 jh ji H X a c b)(_:i<X.ts.length)(_:Q (.int ((gd X.ts i).h:Int)) H)
def A8:ZC zEo zEo (Za Ig):=Zm
def ZGJ(F:Zg K "height_of" "height_of" Ig f fd)(T:YE mg)(L:Yw K mg jh ji)(j:ZG P w K mg ki ZQ 2 jh "label" zEa (YW jh ji)):ZI P w K mg ki ZQ 3 f fd zEo (XF jh ji):=by
 refine F.ko A8 λk A b s H G Q E o h=>?_;let⟨X,r,c,t,i,rfl,R,g,q⟩:=h;let⟨D,u⟩:=T.height;intro z;refine⟨_,ZN (Zz (Xb (Hn (pv 1))) (ZS (Zd (Q1 Qo ZJ))) Z1)
  (ZS (Zd (XM K (XX (E:=E0) (pv 0) L.cS j o Yn (ZZ (pv 1))) (VD (v:=.int 0) rfl u ⟨_,rfl⟩)))),?_⟩
 let⟨l,n⟩:=R.sh.self;let⟨a,y,x,m,p,B,C⟩:=(R.tw i g).tag;let e:V.ref (X.as.getD i .d).tg=.ref a:=m;refine⟨_,Z,_,Z,Zf ⟨_,Z,X.S,l,_,Z,n,Z,_,Z,X,r,c,t,i,Z,R,g,?_⟩⟩;rw[e];exact⟨_,_,_,_,Z,Z,Zj.of p,Z,q⟩
abbrev Ji:Stmt:=Wt (Zn 56) 23
abbrev K6:Stmt:=Wt (Zn 56) 9
inductive WC(jh ji:aj)(e:jf)(H:Hp)(Q:VK)(E:XK):Prop
 |mk(X:YH)(b:aj)(c:Nat)(d:jf)(i:Nat)(_:e=[.ref X.S,.int (i:Int)])(_:Z3 jh ji H X b c d)(_:i<X.ts.length)(_:X.ts.length<=900)(_:∀ j,j<X.ts.length->PU X.av X.ho X.ts.length j)(_:∀ v a,ZD H a->Q v a)
def Vt:ZC ["self","number","road","above"] zEa (Za Ji):=Zm
inductive Fq(X:YH)(i:Nat)(H:Hp)(r:aj):Nat->L2.St->Hp->Prop
 |mk{j:Nat}{rr:jq}{x3:jg}{H':Hp}:j<X.ts.length->rr.length<=j->ZD H H'->H r=none->H' r=some (.lst (iN (rr++[j])))->Fq X i H r (X.ts.length-j) [some (.ref X.S),some (.int (i:Int)),some (.ref r),x3] H'
def EN(l:jq)(b:Nat):Y3 (iN (l++[b])) (-1)=some (V.int (b:Nat)):=by
 refine FC (j:=1) (zY _) (by simp[iN]) ?_
 simp[iN]
def Ci(F:Zg K "road_up" "Shelf.road_up" Ji f fd)(L:Yw K mg jh ji)(T:ZG P w K mg ki ZQ 2 jh "holders" zEa (Xn jh ji λ_ ho us=>.int ((us.length:Nat)+(ho:Nat):Int)))(U:ZG P w K mg ki ZQ 1 jh "twig_of" zEa (YB jh)):ZI P w K mg ki (Vi P w) 3 f fd zEa (WC jh ji):=by
 refine F.kD Vt λa0 A B s H vs Q E u h=>?_;let⟨X,J,c,M,i,rfl,R,hi,l9,y,k⟩:=h;let N:=Vt.nd;let v:=u.to 1;intro Xc;refine⟨_,ZN (Zi 2 N (Yb (ZZ (pv 1)))) (ZS (Qx Jl (Y7 Wm)
  (ZN (Zz (XB Pm (XX (E:=E0) (pv 0) L.cS T u Yn (ZZ (Zt K (pv 2) (Q1 Qo ZJ)))) ZJ (YK _)) OM Z1)
  (ZN (Zi 3 N (Vx (XX (E:=E0) (pv 0) L.cS U v Yn (ZZ (Zt K (pv 2) (Q1 Qo ZJ)))) rfl))
  (ZN (Zz (XB (Io u.units0) (pv 3) (Yb Zk) (YK _)) (ZS (Zd (pv 2))) Z1)
  (ZS (Wr (Qj xO wN wM Qy (pv 2) (ZZ (Zt K (pv 3) ZJ)))))))))),?_⟩
 exists _,Z,YF;intro r m;exists Fq X i H r,⟨_,.mk (rr:=[]) (x3:=none) hi (zN _) (ZW m _) m ZP⟩;rintro _ _ V (@⟨b,rr,x3,_,n,rl,O,m,p⟩);refine⟨_,Z,Zs ⟨_,λ_ _ z=>z,?_⟩⟩;let l:=R.same O;let⟨C,I⟩:=l.sh.self;let W:=l.tw b n;let⟨dt,hx⟩:=W.tw.self;let⟨o1,o2⟩:=y b n;let lI:(iN (X.av b)).length=(X.av b).length:=zX _;refine⟨_,Z,X.S,C,_,Z,I,Z,_,Z,1,Z,.inl ⟨r,_,_,.int (b:Nat),Z,Z,ZH.of p,EN _ _,X.S,X.d,J,c,X.kvs,M,(b:Int),_,_,_,_,_,_,Z,l.rd n,?_⟩⟩;exists _,_,Z,Z,_,Z;rw[show decide (((iN (X.av b)).length:Nat)+(X.ho b:Nat) > (1:Int))=false from aJ (by rw[lI];lia)]
 refine Zf ⟨_,Z,X.S,C,_,Z,I,Z,_,Z,1,Z,.inl ⟨r,_,_,.int (b:Nat),Z,Z,ZH.of p,EN _ _,X.S,X.d,J,c,X.kvs,M,(b:Int),.ref (X.as.getD b .d).x,Z,l.sh,l.val b n,(X.as.getD b .d).x,ji,dt,_,.ref (X.as.getD b .d).ab,Z,hx,L.cT,L.nab,Z,?_⟩⟩;exists _,Z,YF;intro D t;let o:=ZW t (.lst []);let a:=o _ _ W.tw.above;let e:=o _ _ p;let g:=O.trans o;exists (X.as.getD b .d).ab,D,_,Z,Z,ZH.of a,ZH.of ZP,_,Z;generalize upd V D (.lst [])=Y at o a e g⊢
 cases G:X.av b with
 | nil=>
  rw[show (iN ([]:jq)).isEmpty=true from rfl];exact Zs ⟨_,Z,k _ Y g⟩
 | cons j q=>
  let jl:=o2 j (by rw[G];exact zI ..)
  rw[G] at a;rw[show (iN (j::q)).isEmpty=false from rfl];refine Zf ⟨_,Z,.inl ⟨Z,_,ZH.of e⟩,_,Z,.inl ⟨(X.as.getD b .d).ab,_,0,.int (j:Nat),Z,Z,ZH.of a,YO (j:=0) Z,r,_,.int (j:Nat),Z,Z,e,Y2 (by simp[iN];lia),?_⟩⟩
  refine⟨X.ts.length-j,∅,.mk (rr:=rr++[b]) jl.2 (by simp;lia) (UR g m) m ?_⟩
  rw[ZP];simp[iN]
inductive WD(jh ji:aj)(e:jf)(H:Hp)(Q:VK)(E:XK):Prop
 |mk(X:YH)(b:aj)(c:Nat)(d:jf)(i:Nat)(_:e=[.ref X.S,.int (i:Int)])(_:Z3 jh ji H X b c d)(_:i<X.ts.length)(_:X.ts.length<=900)(_:∀ j,j<X.ts.length->PU X.av X.ho X.ts.length j)(_:∀ a,ZD H a->Q (.bl true) a)
def Ak:ZC zEa zEa (Za K6):=Zm
structure XD(K:zZ)(mg:jc)(CD:aj):Prop where
 at_:mg "Shared" = some (.ref CD)
 ty:wZ K (.ref CD)=some (.type "type")
 mB:yB K CD (.type "BaseException")=some true
def Br(F:Zg K "alone" "Shelf.alone" K6 f fd)(L:Yw K mg jh ji)(N:XD K mg CD)(d:ZG P w K mg ki (Vi P w) 3 jh "road_up" zEa (WC jh ji)):ZI P w K mg ki ZQ 4 f fd zEa (WD jh ji):=by
 refine F.ko Ak λm A b s H G Q E r h=>?_;let⟨X,u,c,x,i,rfl,R,q,t,a,k⟩:=h;let⟨D,o,j,e,l⟩:=d.ex;intro B;exists _,ZN (ZF9 (λ_=>pv 0) L.cS j e r l (λ_=>ZZ (pv 1)) Z Z Z N.at_ N.ty N.mB (λC z=>ZS (Zd Wm))) (ZS (Zd Wm));let⟨n,p⟩:=R.sh.self;exact⟨_,Z,X.S,n,_,Z,p,Z,_,Z,X,u,c,x,i,Z,R,q,t,a,λv g y=>k g y⟩
inductive WO(H:Hp):KT ⊕ jp->V->Prop
 | key {t:KT} {v:V}:ZB H t v->WO H (.inl t) v
 | lst {ts:jp} {D:aj} {us:jf}:H D=some (.lst us)->jY H ts us->WO H (.inr ts) (.ref D)
def Ml(a:jr)(i c:Nat)(b d:KT):Nat->KT ⊕ jp
 | 0=>.inl (V5 ((gd a i).rows.getD c rd))
 | 1=>.inl (.int (YD (Y4 a i) b:Nat))
 | 2=>.inr (Z7 (Wo (gd a i).rows ((YD (Y4 a i) b:Nat)+0)))
 | 3=>.inr (Z7 (Wo (gd a i).rows ((YD (Y4 a i) b:Nat) + -1)))
 | 4=>.inl (.int (OL a i b d))
 | _=>.inr (VI (gd a i).rows b)
def P7:Nat->Nat
 | 0=>2
 | 1=>2
 | 2=>2
 | 3=>2
 | 4=>4
 | _=>1
def UY.get{H:Hp}{d:jr}{i a:Nat}{b c:KT}{v:V}(h:UY H d i a b c v):∃ D e,v=.ref D/\H D=some (.lst e)/\∀ w,w<6->∃ u,e[w]? = some u/\WO H (Ml d i a b c w) u:=by
 cases h with | mk h1 h2 h3 h4 h5 h6 h7 h8=>
 exists _,_,Z,h1;intro w f
 match w,f with
 | 0,_=>exact⟨_,Z,.key h2⟩
 | 1,_=>exact⟨_,Z,.key (by rw[ZB])⟩
 | 2,_=>exact⟨_,Z,.lst h3 h4⟩
 | 3,_=>exact⟨_,Z,.lst h5 h6⟩
 | 4,_=>exact⟨_,Z,.key (by rw[ZB])⟩
 | 5,_=>exact⟨_,Z,.lst h7 h8⟩
inductive UU(r:jp)(jh ji:aj)(s:jf)(H:Hp)(Q:VK)(E:XK):Prop
 |mk(X:YH)(l:aj)(c:Nat)(m:jf)(i g a:Nat)(z:Int)(n:aj)(p q:V)(j k:KT)(_:s=[.int z,.ref X.S,.int (i:Int),.int (a:Int),.ref n])(_:z=(g:Int))(_:g<6)(_:Yo r jh ji H X l c m i)(_:m.length<=8000)(_:a<(gd X.ts i).rows.length)(_:H n=some (.lst [p,q]))(_:ZB H j p)(_:j.fits 3=true)(_:ZB H k q)(_:k.fits 3=true)
  (_:∀(e:Hp)(v:V)(d:jf),(∀ b o,b≠l->H b=some o->e b=some o)->Z3 jh ji e X l c d->Xm X.ts i (P7 g * ((gd X.ts i).h+1)) m d->WO e (Ml X.ts i a j k g) v->Q v e)
def ZOg:ZC zEf zEf (Za KA):=Zm
def ZOB{t:jp}(F:Zg K "_law_told" "_law_told" KA f fd)(DN:QZ P w K mg ki 6 "nth" zEl (Um t jh ji CP))(DO:ZA P w K mg ki 11 "place_of" zEb (YL t jh ji))(W:ZA P w K mg ki 12 "from_key" zEb (XY 0 t jh ji))(V:ZA P w K mg ki 12 "before_key" zEb (XY (-1) t jh ji))(Y:ZA P w K mg ki 12 "many_between" zEw (VX t jh ji))(DV:ZA P w K mg ki 11 "value_of" zEb (Xi t jh ji)):
  ZI P w K mg ki ZQ 13 f fd zEf (UU t jh ji):=by
 refine F.ko ZOg λa2 A T s H vs Q E J h=>?_;let⟨X,y,c,B,i,wy,G,z,x,e,N,L,k2,rfl,rfl,S,u,r,a3,d,p,n,Xo,O,k⟩:=h;let R:=J.to 6;let q:=J.to 11;intro Xc;refine⟨_,ZN (Zz (Xb (Oo (pv 0) ZJ)) (ZS (Zd (ZLd DN R (WQ (pv 1) (pv 2) (pv 3))))) Z1)
  (ZN (Zz (Xb (Oo (pv 0) ZJ)) (ZS (Zd (Zc DO q (WQ (pv 1) (pv 2) (Zt K (pv 4) ZJ))))) Z1)
  (ZN (Zz (Xb (Oo (pv 0) ZJ)) (ZS (Zd (Zc W J (WQ (pv 1) (pv 2) (Zt K (pv 4) ZJ))))) Z1)
  (ZN (Zz (Xb (Oo (pv 0) ZJ)) (ZS (Zd (Zc V J (WQ (pv 1) (pv 2) (Zt K (pv 4) ZJ))))) Z1)
  (ZN (Zz (Xb (Oo (pv 0) ZJ)) (ZS (Zd (Zc Y J (Qb (pv 1) (pv 2) (Zt K (pv 4) ZJ) (Zt K (pv 4) ZJ))))) Z1)
  (ZS (Zd (Zc DV q (WQ (pv 1) (pv 2) (Zt K (pv 4) ZJ))))))))),?_⟩
 let C:Y3 [e,N] 0=some e:=YO (j:=0) Z;let a1:Y3 [e,N] 1=some N:=YO (j:=1) Z
 match wy,S with
 | 0,_=>
  refine⟨_,Z,_,_,Z,Z,_,Z,Zs ⟨_,Z,_,Z,_,Z,X,y,c,B,i,G,Z,u,λno=>absurd ⟨∅,∅⟩ no,λm em hm g v b o l a kv=>?_⟩⟩
  have:G=m:=∅
  subst this;exact k g v b o l (a.mono (by show _<=2 * _;lia)) (.key kv)
 | 1,_=>
  refine⟨_,Z,_,_,Z,Z,_,Z,Zf ⟨_,Z,_,_,Z,Z,_,Z,Zs ⟨_,Z,_,Z,_,Z,.inl ⟨x,_,_,e,Z,Z,ZH.of d,C,X,y,c,B,i,e,L,Z,u,p,n,λg b o l a=>?_⟩⟩⟩⟩;exact k g _ b o l (a.mono (by show _<=2 * _;lia)) (.key (by rw[ZB]))
 | 2,_=>
  refine⟨_,Z,_,_,Z,Z,_,Z,Zf ⟨_,Z,_,_,Z,Z,_,Z,Zf ⟨_,Z,_,_,Z,Z,_,Z,Zs ⟨_,Z,_,Z,_,Z,.inl ⟨x,_,_,e,Z,Z,ZH.of d,C,X,y,c,B,i,e,L,Z,u,r,p,n,λg D us b o l a U I M=>?_⟩⟩⟩⟩⟩;exact k g _ b o l a (.lst I M)
 | 3,_=>
  refine⟨_,Z,_,_,Z,Z,_,Z,Zf ⟨_,Z,_,_,Z,Z,_,Z,Zf ⟨_,Z,_,_,Z,Z,_,Z,Zf ⟨_,Z,_,_,Z,Z,_,Z,Zs ⟨_,Z,_,Z,_,Z,.inl ⟨x,_,_,e,Z,Z,ZH.of d,C,X,y,c,B,i,e,L,Z,u,r,p,n,λg D us b o l a U I M=>?_⟩⟩⟩⟩⟩⟩;exact k g _ b o l a (.lst I M)
 | 4,_=>
  refine⟨_,Z,_,_,Z,Z,_,Z,Zf ⟨_,Z,_,_,Z,Z,_,Z,Zf ⟨_,Z,_,_,Z,Z,_,Z,Zf ⟨_,Z,_,_,Z,Z,_,Z,Zf ⟨_,Z,_,_,Z,Z,_,Z,Zs ⟨_,Z,_,Z,_,Z,.inl ⟨x,_,_,e,Z,Z,ZH.of d,C,_,Z,.inl ⟨x,_,_,N,Z,Z,ZH.of d,a1,X,y,c,B,i,e,N,L,k2,Z,u,r,p,n,Xo,O,λg b o l a=>?_⟩⟩⟩⟩⟩⟩⟩⟩;exact k g _ b o l (a.mono (by show _<=4 * _;lia)) (.key (by rw[ZB]))
 | 5,_=>
  refine⟨_,Z,_,_,Z,Z,_,Z,Zf ⟨_,Z,_,_,Z,Z,_,Z,Zf ⟨_,Z,_,_,Z,Z,_,Z,Zf ⟨_,Z,_,_,Z,Z,_,Z,Zf ⟨_,Z,_,_,Z,Z,_,Z,Zf ⟨_,Z,_,Z,_,Z,.inl ⟨x,_,_,e,Z,Z,ZH.of d,C,X,y,c,B,i,e,L,Z,u,p,n,λg D ys b o l a U I M=>?_⟩⟩⟩⟩⟩⟩⟩;exact k g _ b o l (a.mono (by show _<=1 * _;lia)) (.lst I M)
def ZHy{gt:jp}{c T:aj}(F0:Zg K "_law_known_of" "_law_known_of" Qr f fd)(hf:zJ K ao "_law_known_of" = some (some (.ref f)))(ht:xK K "_law_known_of" = some (c,T))(CC:wI ki c T)(l9:ki.BuiltinsAt mg T)(Tx:YE mg)(DB:ZA P w K mg ki 1 "_law_below" zEd (X1 w gt))(DR:ZA P w K mg ki 6 "_law_rank" zEt (Yq 5)):
  ZI P w K mg ki ZQ 10 f fd zEd (Xg w gt T):=by
 refine F0.okC hf ht Wk (λvs H Q E h=>(by let⟨_,_,_,_,_,_,rfl,_⟩:=h;rfl)) (λA n6 s H vs Q E hr h=>?_)
 let⟨N,S,d,xs,F,i,rfl,c8,R,hi,n7,o2,hN,k⟩:=h;let nd:=Wk.nd;let m5:=MY hr;let hu:=ZT.key hr (n:=5) (by decide)
 let Oa:=ZT.key hr (n:=4) (by decide)
 let m3:=hr.to 1;let m4:=hr.to 6;refine⟨_,ZN (Zz (Xb (E3 hu (Xl (Zl VP (pv 1))) (pv 0)))
   (ZN (Zi 2 nd (Yb Zk))
   (ZN (Zi 3 nd Fv)
   (ZN (U8 Jl rfl (WX (Zc DB m3 (Zl (pv 0) (pv 1)))) (Xx 4 nd)
    (ZN (Fu m5 (pv 3) (pv 4) Wm rfl)
    (ZS (Zz (XB Vb (XM K (Ov hu (pv 0) (pv 4) (λ_ _=>rfl)) ZJ) VP (YK _))
     (ZS (Wr (Qj xO qC qA ZIl (pv 2) (ZZ (VJ [] [] rfl (Le (XM K (Ov hu (pv 0) (pv 4) (λ_ _=>rfl)) ZJ)) (λ_ _ _ _ _=>Vf) (λ_ _ _ _ _=>Xl (Zl (pv 0) (Zc DR m4 (ZZ (XM K (pv 0) ZJ))))) trivial))))) Z1))))
   (ZS (Lh Oa (pv 0) (Xl (Zl VP (pv 1))) (Xl (Zl (C0 WI Na (k:=1) (hr.mono (by decide)) rfl Tx.sorted (ZZ (pv 2)) (ZO5 (P:=T) (cl:=[]) rfl CC l9 rfl rfl)) (pv 3))) rfl))))) Z1)
  (ZS (Zd (Ov hu (pv 0) (Xl (Zl VP (pv 1))) (λ_ _=>rfl)))),?_⟩
 let W:=R.rc;let⟨o3,e8⟩:=W.rcd.dk.o;let e5:∀{U:Hp}{O:List (KT×V×V)}{v:V}{x2 x3 x4:jg},(∀ b o,b≠T->b≠d->H b=some o->U b=some o)->YN U T qR->Xq N w gt S U d O F->O.length<=xs.length+1->XG O (kR i)=some v->N6 (J4 w (VB 0) (Ma (Yy (tC (.str "rows")) (Yy (VB 1) VG)))) { nx:=λ_ U=>Q .non U,rt:=Q } [some (.ref d),some (.int (i:Int)),x2,x3,x4] U:=fun{U O v x2 x3 x4} fr tb R' l' hv=>by
  exists _,Z,_,Z,YF;intro q nq;let g:=ZW nq (.tup [.str "rows",.int (i:Int)]);let R2:=R'.go (.same g) λo e=>g _ _ e;exact⟨d,O,kR i,v,Z,R2.rc.rcd.dk,IW ZP,IS i,hv,k _ O v (λb o n1 n2 e=>g _ _ (fr b o n1 n2 e)) (tb.ext (Xr.same g)) R2 l' (R2.kn i v hv)⟩
 exists _,Z,YF;intro q nq;let g0:=ZW nq (.tup [.str "rows",.int (i:Int)]);let e3:=ZP (H:=H) (a:=q) (o:=.tup [.str "rows",.int (i:Int)]);generalize upd H q (.tup [.str "rows",.int (i:Int)])=Ha at g0 e3⊢;let Ra:=R.go (.same g0) λo e=>g0 _ _ e;exists _,Z,d,xs,kR i,Z,Ra.rc.rcd.dk,IW e3,IS i,_,Z
 cases hv:XG xs (kR i) with
 | some v=>exact Zf (e5 (λb o _ _ e=>g0 _ _ e) (c8.ext (Xr.same g0)) Ra (xD _) hv)
 | none=>
 refine Zs ⟨YF,λD nD=>?_⟩;let g1:=ZW nD (.lst []);let eD:=ZP (H:=Ha) (a:=D) (o:=.lst []);generalize upd Ha D (.lst [])=H1 at g1 eD⊢;intro I i5;let g2:=ZW i5 (.dK []);let e1:=ZP (H:=H1) (a:=I) (o:=.dK []);generalize upd H1 I (.dK [])=H2 at g2 e1⊢;let i7:=(g0.trans g1).trans g2;exists _,Z,_,Z,S,d,xs,F,i,Z,W.same i7,hi,n7;intro H3 l p s3 nl hl o1 m6 Y hm e7;let n8:=i7.trans s3;let l3:=s3 _ _ (g2 _ _ eD);let e2:=s3 _ _ e1;let lD:l≠D:=λz=>by rw[z,g2 _ _ eD] at nl;cases nl
 let n4:H D=none:=g0.free nD;let i6:H I=none:=(g0.trans g1).free i5;refine⟨l,Z,⟨_,ZH.of hl⟩,N1 (K:=K) (a:=l) (xs:=iN p) (FY d l D I i H S p) (.mk hl l3 .nil e2 (zY _) (λj hj=>by simp at hj) n8) (λn σ U _ hP=>by cases hP with | mk h1=>exact ZH.of h1) ?_ ?_⟩
 ·rintro n u σ H4 hz (@⟨ys,L,x4,_,c5,a3,m7,B,m9,G,s4⟩);let⟨j,ej,rfl⟩:=Oj hz;let hn:=(zC.mp ej).1;let hj:=m6 j (zM ej);exists _,Z,_,Z,I,_,Z,Uz.k (k:=Sum.inl (j:Int)) B (Y2 ∅)
  let sx:ZE I H4 (upd H4 I (.dK (Xj L (Sum.inl (j:Int)) (.bl true)))):=(ZE.refl I H4).upd;let J:=ZP (H:=H4) (a:=I) (o:=.dK (Xj L (Sum.inl (j:Int)) (.bl true)));let dn:∀{b:aj}{o:HO},H4 b=some o->(∀ q,o≠.dK q)->b≠I:=λe z=>Zb e B (z _);generalize upd H4 I (.dK (Xj L (Sum.inl (j:Int)) (.bl true)))=H5 at sx J⊢;let t5:Z4 H4 H5:=λb ys e=>sx _ _ e (dn e λ_ z=>nomatch z);let s5:ZD H H5:=λb o e=>sx b o (s4 b o e) (ZY e i6);let i1:=sx _ _ c5 (dn c5 λ_ z=>nomatch z);let a4:=sx _ _ a3 (dn a3 λ_ z=>nomatch z);let c6:=m7.mono t5 _ _;let i3:(Xj L (Sum.inl (j:Int)) (.bl true)).length<=n+1:=zS (KG ..) ∅
  let a8:∀ x∈p.take (n+1),(Y9 (Xj L (Sum.inl (j:Int)) (.bl true)) (.inl (x:Int))).isSome=true:=λx hx=>by
   rw[Fo];by_cases z:(Sum.inl (x:Int):Zh)=Sum.inl (j:Int)
   ·rw[aO z];rfl
   ·rw[aM z];rw[yN,ej] at hx;rcases zB.mp hx with y | y
    ·exact G x y
    ·exact absurd (by rw[zK.mp y]) z
  let⟨tp,u,us,hg,i2,a6,w1,w2⟩:=(W.same s5).get hj;let c9:=(W.same s5).rcd.dk;let lr:=ZGt S p (n+1);rw[Y] at lr;let n0:=c6.length;rw[zX] at n0;let st:=ZEl (ts:=S) ej;exists _,Z,_,Z,d,xs,kN j,.ref tp,Z,c9,Pt _ _,zN _,hg,tp,_,_,_,Z,Z,Zj.of i2,Z,Z,_,Z;rw[Fc];by_cases h0:(gd S j).h=0
  ·rw[aK h0];rw[aO h0] at st;let ku:=w1 h0;let lu:=ku.length;unfold Z7 at lu;rw[zX] at lu;rw[st,zT] at lr;refine Zs ⟨_,Z,.inl ⟨Z,_,ZH.of a4⟩,_,Z,_,Z,d,xs,kN j,.ref tp,Z,c9,Pt _ _,zN _,hg,tp,_,_,_,Z,Z,Zj.of i2,Z,u,Z,⟨us,Zj.of a6⟩,Vm (n:=us.length) (λi z=>us[i]? = some z) (λE m zs C=>ZD H5 C/\H5 E=none/\jY C (((gd S j).rows.take m).map Uf) zs) (Y2 ∅)
    (λE m zs C hm hP=>⟨us,us[m],Zj.of (hP.1 _ _ a6),by simp[hm]⟩) (λE m zs C z H7 hm hP hy=>⟨hy.1,hy.2 us (Zj.of (hP.1 _ _ a6))⟩) (λE zs C hP=>⟨us,Zj.of (hP.1 _ _ a6),zY _⟩)
    (λE hE=>⟨ZW hE _,hE,.nil⟩) (λE m zs C z eE o4 hm hz hP RR l7=>?_) (λE zs C eE hP=>?_)⟩
   ·let⟨M,nE,kz⟩:=hP;let⟨a,vk,vv,er,rfl,ea,c1,c2⟩:=row_at (ku.sm M) hz;let ff:=((W.wf j _ (Yl (W.rcd.lt j hj))).inn _ (zM er)).1;let dp:=V7 _ 3 ff;refine⟨_,Z,_,Z,a,_,_,vk,Z,Z,Zj.of ea,Z,vk,_,3,Z,c1,ff,∅,λv' H7 c7 s7=>⟨YF,λq nq=>?_⟩⟩
    let g:=ZW nq (.tup [.ref a,v']);let eq:=ZP (H:=H7) (a:=q) (o:=.tup [.ref a,v']);let c3:=g _ _ (s7 _ _ eE);generalize upd H7 q (.tup [.ref a,v'])=H8 at g eq c3⊢;let tE:Z4 H8 (upd H8 E (.lst (zs++[.ref q]))):=(ZE.refl E _).upd.tups c3;refine l7 _ _ c3 ⟨UR ((M.trans s7).trans g) nE,nE,?_⟩;rw[yN,er,zH];let kr:ZB C (V5 _) (.ref a):=.tup ea (.cons c1 (.cons c2 .nil));refine(((kz.sm s7).sm g).mono tE _ _).append (.cons (.tup (tE _ _ eq) (.cons ?_ (.cons ?_ .nil))) .nil)
    ·exact(kr.sm (s7.trans g)).mono tE _ _
    ·exact(c7.sm g).mono tE _ _
   ·let⟨M,nE,kz⟩:=hP;rw[yX ∅] at kz
    let c4:=M _ _ a4;let lz:=kz.length;rw[zX] at lz;exists D,E,ys,zs,Z,Z,c4,eE,nn ∅
    let sD:ZE D C (upd C D (.lst (ys++zs))):=(ZE.refl D C).upd;let tD:=sD.tups c4;refine .mk (by rw[ZU lD];exact M _ _ i1) ZP ?_ (sD _ _ (M _ _ J) (Zb (M _ _ J) c4)) i3 a8 (λb o e=>by rw[ZU (ZY e n4)];exact M _ _ (s5 b o e))
    rw[st,zH];exact((c6.sm M).mono tD _ _).append (kz.mono tD _ _)
  ·rw[aJ h0];rw[aM h0,yR] at st;exact Zf (.mk i1 a4 (by rw[st];exact c6) J i3 a8 s5)
 ·rintro σ H4 (@⟨ys,L,x4,_,c5,a3,ks,B,m9,G,s4⟩);let lf:(iN p).length=p.length:=zX _;rw[yX ∅] at ks G
  rw[Y] at ks;let lk:=ks.length;rw[zX] at lk;let ok:=W.wf i _ (Yl (W.rcd.lt i hi));let up:=ok.up;let a9:=c8.ext (Xr.same s4);exists _,Z,a9;intro H5 fn c' co pm l1 m1 m2 m0 a0 c0 o5;let⟨o8,hT,_⟩:=id a9;let Tn:∀{b:aj}{o:HO},H4 b=some o->(∀ q,o≠.tbl q)->b≠T:=λe z=>Zb e hT (z _);let n3:Z4 H4 H5:=λb xs e=>a0 b _ (Tn e λ_ z=>nomatch z) e;let a4:=a0 _ _ (Tn a3 λ_ z=>nomatch z) a3;refine⟨fn,_,"_law_pair",_,λH t u=>∃ r∈(gd S i).rows,r.1=t/\ZB H (Uf r) u,D,ys,(gd S i).rows.map (·.1),Z,Z,ZNY (c':=c') (pm:=pm) (ctv:=l1) m1,.all (λus hl=>match us,hl with | [_],_=>rfl),λH U t u sm h=>?_,λU u t Q' sm h kq=>?_,a4,GZ _ _ (λr h=>h) (ks.mono n3 _ _),λt ht=>?_,∅,λD' ws rs C M a7 l5 hp pm o0=>?_⟩
  ·let⟨r,hr,e,kr⟩:=h;exact⟨r,hr,e,kr.sm sm⟩
  ·let⟨r,hr,rfl,kr⟩:=h;exact⟨sm _ _ m2,sm _ _ m0,u,r,Z,kr,λv' c7=>kq v' U c7 (ZD.refl _)⟩
  ·let⟨r,hr,rfl⟩:=zL.mp ht;exact(ok.inn r hr).1
  let e:rs=(gd S i).rows.map (·.1):=vM.eq_of_pairwise (le:=λa b:KT=>b.lt a=false) (λa b _ _ h1 h2=>M5 a b h2 h1) o0 (up.imp fun{a b} h=>Ox _ _ h) pm;subst e;let kr:=Fw up _ _ (λr h=>h) hp;let l4:∀ b o,b≠T->H b=some o->C b=some o:=λb o n e=>M _ _ (a0 _ _ n (s4 _ _ e));let e9:=M _ _ (a0 _ _ (Tn B λ_ z=>nomatch z) B);let l0:=c0.ext (Xr.same M);let i4:H D'=none:=by
   cases z:H D' with
   | none=>rfl
   | some o=>
    by_cases y:D'=T
    ·let⟨o7,l8,_⟩:=id c0;rw[y,l8] at a7;cases a7
    ·rw[a0 _ _ y (s4 _ _ z)] at a7;cases a7
  exists _,Z,YF;intro t nt;let g7:=ZW nt (.tup [.ref D',.ref I]);let et:=ZP (H:=C) (a:=t) (o:=.tup [.ref D',.ref I]);generalize upd C t (.tup [.ref D',.ref I])=H7 at g7 et⊢;exists _,Z,_,Z,YF;intro q2 n5;let g8:=ZW n5 (.tup [.str "rows",.int (i:Int)]);let e4:=ZP (H:=H7) (a:=q2) (o:=.tup [.str "rows",.int (i:Int)]);generalize upd H7 q2 (.tup [.str "rows",.int (i:Int)])=H8 at g8 e4⊢;let a2:=g7.trans g8;let a1:∀ b o,b≠T->H b=some o->H8 b=some o:=λb o n e=>a2 _ _ (l4 b o n e);let⟨o6,e6,_⟩:=id c8;let nT:∀{b:aj}{o:HO},H b=some o->(∀ q,o≠.tbl q)->b≠T:=λe z=>Zb e e6 (z _);let n9:Xu N H H8:=⟨λb xs e=>a1 b _ (nT e λ_ z=>nomatch z) e,λb us _ e=>a1 b _ (nT e λ_ z=>nomatch z) e,λb kv e=>a1 b _ (nT e λ_ z=>nomatch z) e⟩;let X:=R.go n9 λo e=>a1 _ _ (λz=>by rw[z,e6] at e8;cases e8) e
  exists d,xs,kR i,Z,X.rc.rcd.dk,∅,IW e4,IS i
  intro H9 a5 l2;let i9:=KO X.rc.rcd.dk a5;let e0:∀{b:aj}{o:HO},H8 b=some o->(∀ es,o≠Vk d es)->b≠d:=λe n=>P0 X.rc.rcd.dk e n;let i8:Xu N H8 H9:=⟨i9,λb us _ e=>a5 _ _ e (e0 e λ_ z=>nomatch z),λb kv e=>a5 _ _ e (e0 e λ_ z=>nomatch z)⟩;let l6:=a2 _ _ l5;let i0:=a2 _ _ e9;let m8:Vp N H9 S i (.ref t):=Vp.go (.mk (g8 _ _ et) l6 (λz=>hN _ z i4) (kr.sm a2) i0 λx g=>G x (e7 x g)) i8;let R9:Xq N w gt S H9 d (VH xs (kR i) (.ref q2) (.ref t)) F:=by
   refine⟨⟨⟨l2,X.rc.rcd.nd,X.rc.rcd.lt,λj hj=>?_,λj hj=>?_⟩,X.rc.clo,X.rc.wf⟩,λj v e=>?_⟩
   ·rw[Ol,F6,aM zW];exact X.rc.rcd.no j hj
   ·rw[Ol,F6,aM zW];let⟨v,e,rv⟩:=X.rc.rcd.yes j hj;exact⟨v,e,rv.mono i9⟩
   ·rw[Ol] at e
    cases z:(kR i).eqb (kR j) with
    | true=>
     rw[z,aO rfl] at e;cases e;rw[<-At z];exact m8
    | false=>
     rw[z,aM zW] at e;exact(X.kn j v e).go i8
  refine e5 (λb o n1 n2 e=>a5 _ _ (a1 b o n1 e) n2) (ZOv (l0.ext (Xr.same a2)) X.rc.rcd.dk a5) R9 (Kh ..) (by rw[Ol,Uh,aO rfl])
structure YS(N:aj->Prop)(w:ax)(gt:jp)(ts:jr)(H:Hp)(g:Nat)(t:Vh):Prop where
 tp:H t.T=some (.tup [.ref t.r,Xv (Xs t.rn),.ref t.d])
 rcd:∃ xs,Xq N w gt ts H t.d xs t.F/\xs.length<=650+g
 rt:∀ i,t.rn=some i->i∈t.F
inductive UG(w:ax)(j:jp)(l:jf)(H:Hp)(Q:VK)(E:XK):Prop
 |mk(N:aj->Prop)(g:Nat)(c:jr)(p L:aj)(e h:Vh)(_:l=[.ref p,.ref L])(_:ZK H p)(_:H L=some (.lst [.ref e.T,.ref h.T]))(_:L≠p)(_:YS N w j c H g e)(_:YS N w j c H g h)(_:∀ i,i<c.length->(gd c i).rows.length<=300)(_:∀(a:Hp)(t:aj)(b:Vh)(k:jw),b=e\/b=h->(∀ i,k=some i->i∈b.F)->ZE p H a->ZK a p->a t=some (.tup [Xv (Xs k),.ref b.d])->Q (.ref t) a)
abbrev Cu:jt:=["_law_well_here","_law_trees_here","_law_rows","_law_root_here","_law_record","_law_some"]
def Qa:ZC Cu zEv (Za KL):=Zm
def Bl{X:jp}(F:Zg K "_law_root" "_law_root" KL f fd)(T:YE mg)(O:ZA P w K mg ki 1 "_law_pull" zEc Zp)(DB:ZA P w K mg ki 1 "_law_below" zEd (X1 w X)):ZI P w K mg ki ZQ 2 f fd zEv (UG w X):=by
 refine F.ko Qa λa8 A a6 s H vs Q E J h=>?_;let⟨N,g,ts,p,L,t1,t2,rfl,W,hL,Lp,a1,a2,a5,k⟩:=h;let D:=Qa.nd;intro Xc;refine⟨_,ZN (Q8 (Zt K (pv 1) (Zc O J (Zl (pv 0) ZJ))) (OA rfl (UL (Xx 2 D) (UL (Xx 3 D) (UL (Xx 4 D) Of)))))
  (ZN (Zz (PW.pt (O5 (Xb (OP (pv 3))) (Ow (Xb (Oo (Zc O J (Zl (pv 0) ZJ)) ZJ)))))
   (ZN (Zi 5 D (Zc DB J (Zl (pv 4) (pv 3))))
   (ZS (Zi 3 D (Zt K (pv 5) (Zc O J (Zl (pv 0) (Zw XE rfl T.len Y6 (ZZ (pv 5))))))))) Z1)
  (ZS (Zd (Xl (Zl (pv 3) (pv 4)))))),?_⟩
 exists _,Z,_,Z,p,2,Z,W,Xp (by decide) (by decide)
 intro r H1 r0 r2 W1 M;obtain⟨m,B,a0⟩:∃ m,(m=t1\/m=t2)/\Y3 [V.ref t1.T,.ref t2.T] r=some (.ref m.T):=by
  have:r=0\/r=1:=∅
  rcases this with rfl | rfl
  ·exact⟨t1,.inl Z,YO (j:=0) Z⟩
  ·exact⟨t2,.inr Z,YO (j:=1) Z⟩
 let x:YS N w X ts H g m:=by rcases B with z | z <;> rw[z] <;> assumption
 let⟨xs,R,_⟩:=x.rcd;let R:=R.rc;let m1:Z4 H H1:=M.tupsW W;let⟨pw,hp⟩:=W.some;let dp:m.d≠p:=Ne.symm (P0 R.rcd.dk hp λ_ z=>nomatch z);refine .inl ⟨L,_,r,_,Z,Z,ZH.of (M _ _ hL Lp),a0,m.T,_,Z,Zj.of (m1 _ _ x.tp),Z,_,_,Z,_,_,Z,_,_,Z,Z,?_⟩;let y:∀(q:Hp)(G:jw),(∀ i,G=some i->i∈m.F)->ZE p H q->ZK q p->∀ x2 x5:jg,N6 (Ma (Yy (VB 3) (Yy (VB 4) VG))) { nx:=λ_ S=>Q .non S,rt:=Q } [some (.ref p),some (.ref L),x2,some (Xv (Xs G)),some (.ref m.d),x5] q:=λq G a3 I v x2 x5=>by
  exists _,Z,_,Z,YF;intro t nt;let g:=ZW nt (.tup [Xv (Xs G),.ref m.d]);exact k _ t m G B a3 (λb o e n=>g b o (I b o e n)) (v.same g) ZP
 exists _,Z
 cases U:m.rn with
 | none=>exact⟨_,Z,Zf (Zf (by have:=y H1 none (λi e=>by cases e) M W1 (some (.ref m.r)) none;exact this))⟩
 | some i=>
  let Y:=x.rt i U;let C:∀ q,ZE p H q->ZK q p->N6 (Ma (Yy (VB 3) (Yy (VB 4) VG))) { nx:=λ_ S=>Q .non S,rt:=Q } [some (.ref p),some (.ref L),some (.ref m.r),some (Xv (Xs (some i))),some (.ref m.d),none] q:=λq I v=>y q (some i) (λj e=>by cases e;exact Y) I v _ _
  refine⟨_,Z,Zs ⟨_,Z,p,2,Z,W1,Xp (by decide) (by decide),λr' q a9 c0 v I=>?_⟩⟩
  let u:ZE p H q:=λb o e n=>I b o (M b o e n) n;refine⟨_,_,Z,Z,_,Z,Xz (λc=>?_) (λc=>?_)⟩
  ·let R3:=R.go (u.tupsW W) λo e=>u _ _ e dp;exists _,Z,_,Z,ts,m.d,xs,m.F,i,Z,R3,Y,a5 i (R.rcd.lt i Y);intro H4 l a s4 nl hl a7 a4 _ hm _;let W4:=v.same s4;let lp:l≠p:=U3 v nl;let f0:0<a.length:=pQ hm;let lf:(iN a).length=a.length:=zX _;exists _,Z,_,Z,_,Z,l,_,Z,.inl (ZH.of hl),p,_,Z,W4,Xp (by rw[lf];lia) (by rw[Int.natAbs_natCast,lf];lia)
   intro z H5 z0 z1 W5 s5;rw[lf] at z1;let⟨n,rfl⟩:=rJ z0;let hz:n<a.length:=∅
   let ez:Y3 (iN a) (n:Int)=some (.int ((a[n]:Nat):Int)):=YO (by unfold iN;rw[zE,zV hz];rfl)
   exact .inl ⟨l,_,_,_,Z,Z,ZH.of (s5 _ _ hl lp),ez,y H5 (some a[n]) (λj e=>by cases e;exact a4 _ (xY _)) (λb o e n=>s5 b o (s4 b o (u b o e n)) n) W5 _ _⟩
  ·exact C q u v
inductive XQ(w:ax)(c:jp)(e:jf)(H:Hp)(Q:VK)(E:XK):Prop
 |mk(b:jr)(d:aj)(g:List (KT×V×V))(F:jq)(i:Nat)(_:e=[.ref d,.int (i:Int)])(_:XR w c b H d g F)(_:i∈F)(_:∀ a,ZD H a->Q (.int ((gd b i).h:Int)) a)
abbrev ZOD:jt:=["_law_record","_law_root_here","_law_height_here","_law_number","_law_kind","_law_what"]
def Vj:ZC ZOD zEd (Za K9):=Zm
inductive Nm(ts:jr)(d:aj)(i:Nat)(F:jq)(H:Hp):Nat->L2.St->Hp->Prop
 |mk{cur:jw}{x4 x5:jg}{H':Hp}:(∀ j,cur=some j->j∈F)->ZD H H'->Nm ts d i F H (QT ts cur) [some (.ref d),some (.int (i:Int)),some (.int (((gd ts i).h:Int)-(QT ts cur:Int))),some (Xv (Xs cur)),x4,x5] H'
def ZIz{Y:jp}(V:Zg K "_law_height" "_law_height" K9 f fd)(T:YE mg):ZI P w K mg ki ZQ 1 f fd zEd (XQ w Y):=by
 refine V.ko Vj λX A L s H vs Q E hr h=>?_;let⟨c,d,xs,F,i,rfl,R,hi,k⟩:=h;let m:=Vj.nd;let hu:=ZT.key hr (n:=5) (by decide)
 intro Xc;refine⟨_,ZN (Zi 2 m (Q1 Qo ZJ))
  (ZN (Zi 3 m (pv 1))
  (ZN (Qx PassesOwn.never (Xb (OP (pv 3)))
   (ZN (Q8 (Ov hu (pv 0) (pv 3) (λ_ _=>rfl)) (OA rfl (UL (Xx 4 m) (UL (Xx 5 m) Of))))
   (ZN (Zi 2 m (Zu Wf (pv 2) ZJ))
   (ZS (Zi 3 m (Zt K (Yb (Zl IU (XM K (pv 5) ZJ))) (Wn O3 rfl T.int Qv (ZZ (Vl Vb (pv 4) VP (YK _))))))))))
  (ZS (Zd (pv 2))))),?_⟩
 exists _,Z,_,Z,Nm c d i F H,⟨QT c (some i),?_⟩
 ·have:=Nm.mk (ts:=c) (d:=d) (i:=i) (F:=F) (H:=H) (cur:=some i) (x4:=none) (x5:=none) (λj e=>by cases e;exact hi) (ZD.refl H)
  let e:((gd c i).h:Int)-(QT c (some i):Int) = -1:=by show ((gd c i).h:Int)-(((gd c i).h+1:Nat):Int) = -1;lia
  rw[e] at this;exact this
 rintro _ _ y (@⟨B,x4,x5,_,hc,x⟩)
 cases B with
 | none=>
  refine⟨_,Z,_,Z,Zf ⟨_,Z,?_⟩⟩;have:=k y x;rw[show ((gd c i).h:Int)-(QT c none:Int)=((gd c i).h:Int) from by show _-((0:Nat):Int)=_;lia]
  exact this
 | some j=>
  let D:=hc j Z;let O:=R.wf j _ (Yl (R.rcd.lt j D));let⟨S,u,U,hg,G,I,w1,w2⟩:=(R.same x).get D;let ne:∃ v rest,U=v::rest/\((gd c j).h≠0->∃ b,b∈F/\v=.int (b:Nat)/\(gd c b).h+1=(gd c j).h):=by
   by_cases l:(gd c j).h=0
   ·let J:=(w1 l).length;unfold Z7 at J;rw[zX] at J;have:=uJ.mpr O.ne
    cases U with
    | nil=>simp only[sY] at J;lia
    | cons v r=>exact⟨v,r,Z,λz=>absurd l z⟩
   ·let⟨N,b4,W,_⟩:=O.stem l;let e:=w2 l
    cases p:(gd c j).bs with
    | nil=>rw[p] at N;simp at N
    | cons b r=>
     let t:b∈(gd c j).bs:=by rw[p];exact zI ..
     exact⟨_,_,by rw[e,p];rfl,λ_=>⟨b,R.sub D t,Z,(W b t).2⟩⟩
  let⟨v,rest,rfl,hv⟩:=ne;refine⟨_,Z,_,Z,Zs ⟨_,λ_ _ z=>z,?_⟩⟩;exists _,Z,_,Z,d,xs,kN j,.ref S,Z,(R.same x).rcd.dk,Pt _ _,zN _,hg,S,_,Z,Zj.of G,Z,_,_,Z,_,_,Z,Z;exists _,Z,_,_,Z,Z,_,Z,u,_,_,v,Z,Z,Zj.of I,YO (j:=0) Z,YF;intro q nq;let g:=ZW nq (.lst [.non,v]);let C:=ZP (H:=y) (a:=q) (o:=.lst [.non,v]);generalize upd y q (.lst [.non,v])=M at g C⊢;refine⟨_,Z,Z,.inr ⟨_,Z,?_⟩⟩;rw[JD];by_cases l:(gd c j).h=0
  ·rw[aJ (show ¬ (gd c j).h≠0 from λz=>z l)];refine .inl ⟨q,_,_,_,Z,Z,ZH.of C,YO (j:=0) Z,?_⟩;exists 0,Nat.succ_pos _;have:=Nm.mk (ts:=c) (d:=d) (i:=i) (F:=F) (H:=H) (H':=M) (cur:=none) (x4:=some (.str (kindOf (gd c j)))) (x5:=some (.ref u)) (λj e=>by cases e) (x.trans g)
   let e:((gd c i).h:Int)-(QT c (some j):Int)+1=((gd c i).h:Int)-(QT c none:Int):=by show ((gd c i).h:Int)-(((gd c j).h+1:Nat):Int)+1=_-((0:Nat):Int);lia
   rw[<-e] at this;exact this
  ·rw[aK (show (gd c j).h≠0 from l)];let⟨b,p,rfl,eh⟩:=hv l;refine .inl ⟨q,_,_,_,Z,Z,ZH.of C,YO (j:=1) Z,?_⟩;exists QT c (some b),by show (gd c b).h+1<(gd c j).h+1;lia
   have:=Nm.mk (ts:=c) (d:=d) (i:=i) (F:=F) (H:=H) (H':=M) (cur:=some b) (x4:=some (.str (kindOf (gd c j)))) (x5:=some (.ref u)) (λj e=>by cases e;exact p) (x.trans g)
   let e:((gd c i).h:Int)-(QT c (some j):Int)+1=((gd c i).h:Int)-(QT c (some b):Int):=by show ((gd c i).h:Int)-(((gd c j).h+1:Nat):Int)+1=_-(((gd c b).h+1:Nat):Int);lia
   rw[<-e] at this;exact this
def WO.mono{H c:Hp}{a:KT ⊕ jp}{v:V}(h:WO H a v)(m:Z4 H c)(l:∀ b d,H b=some (.lst d)->c b=some (.lst d)):WO c a v:=by
 cases h with
 | key a=>exact .key (a.mono m _ _)
 | lst a b=>exact .lst (l _ _ a) (b.mono m _ _)
def ZRO:KT ⊕ jp->Prop
 | .inl t=>t.wide 4=true
 | .inr l=>(∀ t∈l,t.wide 4=true)/\l.length<=100
mutual
def HV:∀(t:KT)(r:Nat),t.wide r=true->t.wide (r+1)=true
 | .int _,_,_=>rfl
 | .str _,_,_=>rfl
 | .tup l,r,h=>by
  rw[KT.wide,zO,zO] at h⊢;let h0:=of_decide_eq_true h.1;exists aK (Nat.succ_pos _),h.2.1;have:=wideL_mono l (r-1) h.2.2;rw[show r-1+1=r+1-1 by lia] at this
  exact this
def wideL_mono:∀(l:jp)(r:Nat),wideL l r=true->wideL l (r+1)=true
 | [],_,_=>rfl
 | t::l,r,h=>by
  rw[wideL,zO] at h⊢;exact⟨HV t r h.1,wideL_mono l r h.2⟩
end
def CM{q:jp}{a:jr}(h:WF q a){i c:Nat}(m:i<a.length)(f:c<(gd a i).rows.length)(d w:KT)(o:Nat):ZRO (Ml a i c d w o):=by
 let k:=h i _ (Yl m);let e:∀ n:Int,(∀ t∈Z7 (Wo (gd a i).rows n),t.wide 4=true)/\(Z7 (Wo (gd a i).rows n)).length<=100:=λn=>by
  refine⟨λt g=>?_,by unfold Z7 Wo;split <;> simp⟩
  let⟨r,b,rfl⟩:=zL.mp g;unfold Wo at b;split at b
  ·rename_i x
   rw[zK.mp b,zU,zV (show n.toNat<(gd a i).rows.length by lia)]
   exact Er (k.inn _ (xY _))
  ·simp at b
 match o with
 | 0=>
  show (V5 _).wide 4=true;rw[zU,zV f];exact Er (k.inn _ (xY _))
 | 1=>exact Z
 | 2=>exact e _
 | 3=>exact e _
 | 4=>exact Z
 | n+5=>
  let⟨j,y,r,_,u,s,p⟩:=Je h d _ i m Z;let l:=h j _ (Yl u);show (∀ t∈VI (gd a i).rows d,t.wide 4=true)/\(VI (gd a i).rows d).length<=100;exists λt g=>?_
  ·let⟨r,v,rfl⟩:=zL.mp g;exact HV _ _ (Mh _ _ (k.inn r (vF.mp v).1).2)
  ·rw[<-p];unfold VI;rw[zX];have:=tH (λr:Zv=>r.1.eqb d) (gd a j).rows;have:=(l.leaf s).2
   lia
structure GC(H H':Hp):Prop where
 t:Z4 H H'
 l:∀ b us,H b=some (.lst us)->H' b=some (.lst us)
 k:∀ b kvs,H b=some (.dK kvs)->H' b=some (.dK kvs)
 i:∀ b c dx fs,H b=some (.ins c dx fs)->H' b=some (.ins c dx fs)
def Z3.kin{H a:Hp}{X:YH}{g:aj}{c:Nat}{h:jf}(R:Z3 jh ji H X g c h)(s:GC H a):Z3 jh ji a X g c h:=by
 let⟨⟨j,m⟩,n,q⟩:=R.sh;refine⟨⟨⟨j,s.i _ _ _ _ m⟩,s.k _ _ n,s.l _ _ q⟩,R.keys,R.val,λi p=>?_,R.own,R.le⟩;let W:=R.tw i p;let⟨r,d⟩:=W.tw.self;let⟨u,b,_⟩:=W.things;exact W.frame s.t (λo e=>by rw[d] at e;cases e;exact s.i _ _ _ _ d) (λo e=>by rw[b] at e;cases e;exact s.l _ _ b) (λo e=>by rw[W.tw.above] at e;cases e;exact s.l _ _ W.tw.above)
inductive VU(w:ax)(k:jp)(jh ji T:aj)(u:jf)(H:Hp)(Q:VK)(E:XK):Prop
 |mk(N:aj->Prop)(X:YH)(s:aj)(c:Nat)(t:jf)(d:aj)(j:List (KT×V×V))(F:jq)(i n:Nat)(p:aj)(q r:V)(l m:KT)(_:u=[.ref X.S,.int (i:Int),.ref d,.int (n:Int),.ref p])(_:YN H T qR)(_:Z3 jh ji H X s c t)(_:∀ i,i<X.ts.length->Mq (gd X.ts i))(_:Xq N w k X.ts H d j F)(_:j.length<=900)(_:i∈F)(_:∀ b,N b->H b≠none)(_:H p=some (.lst [q,r]))(_:ZB H l q)(_:l.fits 3=true)(_:ZB H m r)(_:m.fits 3=true)
  (_:∀(a:Hp)(e:List (KT×V×V))(g:aj)(h:jf),(∀ b o,b≠T->b≠d->b≠X.S->H b=some o->a b=some o)->YN a T qR->Z3 jh ji a X g c h->Xq N w k X.ts a d e F->e.length<=j.length+1->Q (.bl true) a)
abbrev ZOd:jt:=["_law_shelf","_law_root_here","_law_record","_law_at","_law_keys_here","_law_rows","_law_reached_here","_law_due_here","_law_height_here","_law_way","_law_told_here","_law_looked"]
def UX:ZC ZOd zEh (Za Kl):=Zm
inductive Dh(jh ji:aj)(X:YH)(c i at_:Nat)(d kl l dd du:aj)(H1:Hp)(n:Nat):L2.St->Hp->Prop
 |mk{lk:aj}{ls:jf}{x9 x10 x11:jg}{H':Hp}:Z3 jh ji H' X lk c ls->(∀ b o,b≠X.S->H1 b=some o->H' b=some o) ->
  Dh jh ji X c i at_ d kl l dd du H1 n [some (.ref X.S),some (.int (i:Int)),some (.ref d),some (.int (at_:Int)),some (.ref kl),some (.ref l),some (.ref dd),some (.ref du),some (.int ((gd X.ts i).h:Int)),x9,x10,x11] H'
def AI{gt:jp}{T:aj}(F0:Zg K "_law_asked" "_law_asked" Kl f fd)(Tx:YE mg)(L:Yw K mg jh ji)(DK:ZA P w K mg ki 10 "_law_known_of" zEd (Xg w gt T))(DU:ZA P w K mg ki 8 "_law_due" zEn (QC gt))(DH:ZA P w K mg ki 1 "_law_height" zEd (XQ w gt))(DF:ZG P w K mg ki ZQ 1 jh "forget" zEm (Yz jh ji))(DT:ZA P w K mg ki 13 "_law_told" zEf (UU gt jh ji))(DL:ZG P w K mg ki ZQ 1 jh "looked" zEm (Y1 jh ji))(DR:ZA P w K mg ki 8 "_law_rows_alike" zEe WR)(DA:ZA P w K mg ki 7 "_law_alike" zEe (Ya 6)):
  ZI P w K mg ki ZQ 14 f fd zEh (VU w gt jh ji T):=by
 refine F0.ko UX λp8 A p0 s H vs Q E hr h=>?_;let⟨N,X,lk,c,ls,d,xs,F,i,n,kl,v1,v2,k1,k2,rfl,m2,R,l9,KR,l6,hi,hN,o2,o5,i2,Xo,i3,q⟩:=h;let nd:=UX.nd;let hu:=MY hr;let c9:=hr.to 1;let o3:=hr.to 7;let l2:=hr.to 8;let l1:=hr.to 10;intro Xc;refine⟨_,ZN (Q8 (Zc DK l1 (Zl (pv 2) (pv 1))) (OA rfl (UL (Xx 5 nd) (UL (O2 (i:=6) nd rfl (Or.inr rfl)) Of))))
  (ZN (Zi 7 nd (Zc DU l2 (Qb (pv 5) (Zu Qu (pv 3) (Zw XE rfl Tx.len Y6 (ZZ (pv 5)))) (Zt K (pv 4) ZJ) (Zt K (pv 4) ZJ))))
  (ZN (Zi 3 nd (Zu Qu (pv 3) (Zw XE rfl Tx.len Y6 (ZZ (pv 5)))))
  (ZN (Zi 8 nd (Zc DH c9 (Zl (pv 2) (pv 1))))
  (ZN (U8 PassesOwn.never rfl (P1 rfl Tx.range (ZZ ZJ)) (Xx 9 nd)
   (ZN (Wr (Ot (E:=E0) (pv 0) L.cS DF c9 Yn))
   (ZN (Zi 10 nd (Zc DT hr (En (pv 9) (pv 0) (pv 1) (pv 3) (pv 4))))
   (ZN (Zi 11 nd (Ot (E:=E0) (pv 0) L.cS DL c9 Yn))
   (ZN (Zz (Xb (ZQx (Zw XE rfl Tx.len Y6 (ZZ (pv 11))) (Zu Po (Zt K (Yb (IK ZJ ZJ ZJ ZJ ZJ ZJ)) (pv 9)) (Zu Wf (pv 8) ZJ)))) (ZS (Zd Wm)) Z1)
   (ZN (Zz (XB (Mx hr.units0) (VJ [6] ["_law_reached_here"] rfl (WX (pv 11)) (λ_ _ _ _ _=>OX (Xb (Eg hu (pv 0) (pv 1)))) (λ_ _ _ _ _=>pv 0) ⟨rfl,.inl rfl,rfl,trivial⟩) (Yb Zk) (YK _)) (ZS (Zd Wm)) Z1)
   (ZN (Zz (PW.pt (O5 (Y7 (Zw Vc rfl Tx.isi Ve (Zl (Zt K (pv 7) (pv 9)) (Vd (v:=.ty "list") rfl Tx.list QG rfl)))) (Ow (Vv (Y7 (Zc DR l2 (Zl (pv 10) (Zt K (pv 7) (pv 9))))))))) (ZS (Zd Wm)) Z1)
   (ZS (Zz (PW.pt (O5 (Vv (Y7 (Zw Vc rfl Tx.isi Ve (Zl (Zt K (pv 7) (pv 9)) (Vd (v:=.ty "list") rfl Tx.list QG rfl))))) (Ow (Vv (Y7 (Zc DA o3 (Zl (pv 10) (Zt K (pv 7) (pv 9))))))))) (ZS (Zd Wm)) Z1)))))))))
  (ZS (Zd Wm)))))),?_⟩
 let W:=KR.rc;let a8:=W.rcd.lt i hi;let lo:=l9 i a8;let ok:=W.wf i _ (Yl a8);exists _,Z,_,Z,N,X.ts,d,xs,F,i,Z,m2,KR,hi,lo.2,l6,hN;intro H1 m5 v i4 m3 e5 o6 o4;let⟨r3,hT,_⟩:=id m2;let⟨r0,o0⟩:=W.rcd.dk.o;let nT:∀{b:aj}{o:HO},H b=some o->(∀ q,o≠.tbl q)->(∀ q,o≠.ext q)->H1 b=some o:=fun{b o} e z1 z2=>i4 b o (Zb e hT (z1 _)) (Zb e o0 (z2 _)) e;let c1:GC H H1:=⟨λb J e=>nT e (λ_ z=>nomatch z) (λ_ z=>nomatch z),λb J e=>nT e (λ_ z=>nomatch z) (λ_ z=>nomatch z),λb J e=>nT e (λ_ z=>nomatch z) (λ_ z=>nomatch z),λb c dx fs e=>nT e (λ_ z=>nomatch z) (λ_ z=>nomatch z)⟩;let R1:=R.kin c1;let a4:=c1.l _ _ o2;let c3:=o5.mono c1.t _ _;let c4:=Xo.mono c1.t _ _;cases o4 with | @mk tp l dd J kvs h1 h2 h3 h4 h5 h6=>
 let m0:=h4.length;rw[zX] at m0;let pos:0<J.length:=by have:=uJ.mpr ok.ne;lia (splits:=8)
 let em:(n:Int) % ((J.length:Nat):Int)=((n % J.length:Nat):Int):=(Int.natCast_emod n J.length).symm;let a7:n % J.length<(gd X.ts i).rows.length:=by rw[m0];exact Nat.mod_lt _ pos
 generalize p4:n % J.length=a6 at em a7;exists tp,_,Z,Zj.of h1,Z,_,_,Z,_,_,Z,Z;exists _,Z,_,Z,_,Z,l,J,Z,.inl (ZH.of h2),_,_,Z,Z,nofun
 dsimp only;rw[em];let a0:Y3 [v1,v2] 0=some v1:=YO (j:=0) Z;let a1:Y3 [v1,v2] 1=some v2:=YO (j:=1) Z;refine⟨_,Z,.inl ⟨kl,_,_,v1,Z,Z,ZH.of a4,a0,_,Z,.inl ⟨kl,_,_,v2,Z,Z,ZH.of a4,a1,X.ts,i,a6,l,J,v1,v2,k1,k2,Z,ok,lo.2,a7,h2,h4,c3,i2,c4,i3,λH2 dv s2 n0=>?_⟩⟩⟩;let⟨du,G,rfl,o1,e8⟩:=n0.get;exists _,Z,_,Z,l,J,Z,.inl (ZH.of (s2 _ _ h2)),_,_,Z,Z,nofun
 dsimp only;rw[em];exists _,Z,_,Z,X.ts,d,m5,F,i,Z,e5.rc.same s2,hi;intro H3 s3;let p:=s2.trans s3;let R3:=R1.same p;refine⟨6,Z,by decide,by decide,OJ (n:=6) (Dh jh ji X c i a6 d kl l dd du H3) (.mk R3 λb o _ e=>e) ?_ ?_⟩
 ·rintro r _ H4 a9 (@⟨e3,e4,x9,p2,p3,_,R4,a2⟩);let e0:(0:Int)+(r:Int)=(r:Int):=nofun
  let⟨n4,i7⟩:=R4.sh.self;exists _,Z,X.S,n4,_,Z,i7,Z,X,e3,c,e4,Z,R4;intro H5 c0 O i5 R5;let⟨m9,c8⟩:=R3.sh.self;let nS:∀{b:aj}{o:HO},H3 b=some o->(∀ c dx fs,o≠.ins c dx fs)->b≠X.S:=λe z=>Zb e c8 (z _ _ _);let k5:∀{b:aj}{o:HO},H3 b=some o->(∀ c dx fs,o≠.ins c dx fs)->H5 b=some o:=fun{b o} e z=>i5 b o (nS e z) (a2 b o (nS e z) e);let m1:Z4 H3 H5:=λb xs e=>k5 e λ_ _ _ z=>nomatch z;let l0:=k5 (p _ _ a4) λ_ _ _ z=>nomatch z;let l5:∀{b:aj}{o:HO},H3 b=some o->b≠c0:=fun{b o} e z=>by
   by_cases y:b=X.S
   ·rw[<-z,y,i7] at O;cases O
   ·rw[<-z,a2 b o y e] at O;cases O
  let A5:Yo gt jh ji H5 X c0 c [] i:=⟨R5,W.wf,λj hj=>(l9 j hj).1,zN _,a8⟩;exists _,Z,_,Z,_,Z,_,Z,_,Z,X,c0,c,[],i,r,a6,_,kl,v1,v2,k1,k2,Z,e0,a9,A5,zN _,a7,l0,(c3.sm p).mono m1 _ _,i2,(c4.sm p).mono m1 _ _,i3;intro H6 m4 m i6 R6 l8 m7;let⟨n5,n9⟩:=R6.sh.self;exists _,Z,X.S,n5,_,Z,n9,Z,X,c0,c,m,Z,R6;intro lp o8;let g7:=ZW o8 (.lst m);let c6:=ZP (H:=H6) (a:=lp) (o:=.lst m);let R7:=R6.same g7;generalize upd H6 lp (.lst m)=H7 at g7 c6 R7⊢;let k7:∀{b:aj}{o:HO},H3 b=some o->(∀ c dx fs,o≠.ins c dx fs)->H7 b=some o:=fun{b o} e z=>g7 _ _ (i6 b o (l5 e) (k5 e z));let n8:∀ b o,b≠X.S->H3 b=some o->H7 b=some o:=λb o n e=>g7 _ _ (i6 b o (l5 e) (i5 b o n (a2 b o n e)));exists _,Z,lp,m,Z,.inl (ZH.of c6),YF;intro q1 o9;let g8:=ZW o9 (.lst [.int 2,.int 2,.int 2,.int 2,.int 4,.int 1]);let i0:=ZP (H:=H7) (a:=q1) (o:=.lst [.int 2,.int 2,.int 2,.int 2,.int 4,.int 1]);generalize upd H7 q1 (.lst [.int 2,.int 2,.int 2,.int 2,.int 4,.int 1])=H8 at g8 i0⊢;let i1:Y3 [V.int 2,.int 2,.int 2,.int 2,.int 4,.int 1] ((0:Int)+(r:Int))=some (.int (P7 r:Nat)):=by
   rw[e0]
   match r,a9 with
   | 0,_=>rfl
   | 1,_=>rfl
   | 2,_=>rfl
   | 3,_=>rfl
   | 4,_=>rfl
   | 5,_=>rfl
  let t4:P7 r<=4:=by
   match r,a9 with
   | 0,_=>decide
   | 1,_=>decide
   | 2,_=>decide
   | 3,_=>decide
   | 4,_=>decide
   | 5,_=>decide
  let l7:=l8.len;refine⟨_,Z,.inl ⟨q1,_,_,_,Z,Z,ZH.of i0,i1,_,Z,_,_,Z,Z,_,_,Z,Z,.inl ⟨nofun,nofun⟩,_,_,Z,Z,_,Z,?_⟩⟩
  let n6:((P7 r:Nat):Int) * (((gd X.ts i).h:Int)+1)=((P7 r * ((gd X.ts i).h+1):Nat):Int):=by rw[Int.natCast_mul];rfl
  rw[n6];let p5:m.length<=P7 r * ((gd X.ts i).h+1):=by simpa using l7
  refine Xz (λc=>absurd (of_decide_eq_true c) nofun) (λc=>?_)
  let M:=g8 _ _ c6;let i9:=g8 _ _ (k7 (p _ _ h5) λ_ _ _ z=>nomatch z);obtain⟨ws,n7,m8⟩:∃ ws:jq,m=iN ws/\∀ x∈ws,Ux X.ts i x:=by
   cases l8 with | mk ws a b=>exact⟨ws,vE _,b⟩
  let r1:=lo.1;let p7:P7 r * ((gd X.ts i).h+1)<=4 * 301:=Nat.mul_le_mul t4 nofun
  refine⟨_,Z,lp,Z,⟨_,ZH.of M⟩,My (n:=m.length) (λi z=>m[i]? = some z) (λ_=>false) (λD j ys H'=>ZD H8 H'/\H8 D=none/\ys=[]) (K3 nofun)
   (λD j ys H' hj hP=>⟨m,m[j],ZH.of (hP.1 _ _ M),by simp[hj]⟩) (λD j ys H' z p6 hj hP hy=>⟨hy.1,hy.2 m (ZH.of (hP.1 _ _ M))⟩) (λD ys H' hP=>⟨m,ZH.of (hP.1 _ _ M),zY _⟩)
   (λD hD=>⟨ZW hD _,hD,Z⟩) (λD j ys H' z eD hj hz hP B hB=>?_) (λD j ys H' z eD hj hz hk hP B hB=>by cases hk) (λD j ys H' eD hj hk hP=>hP) (λD ys H9 eD hP=>?_)⟩
  ·let⟨s',nD,rfl⟩:=hP;rw[n7] at hz;let⟨x,ex,rfl⟩:=Oj hz;let⟨v,ev⟩:=sZ.mp (h6 x (m8 x (zM ex)));let hg:WM H' dd (.int (x:Int)) (some v):=ev ▸ WM.k (k:=Sum.inl (x:Int)) (s' _ _ i9);exact⟨_,Z,_,Z,dd,some v,Z,hg,_,Z,hB H' eD ⟨s',nD,Z⟩⟩
  let⟨s9,r2,rfl⟩:=hP;exists YF;intro e1 o7;let c7:=ZW o7 (.lst []);let e9:=ZP (H:=H9) (a:=e1) (o:=.lst []);generalize upd H9 e1 (.lst [])=a5 at c7 e9⊢;refine⟨D,e1,_,Z,Z,ZH.of (c7 _ _ eD),ZH.of e9,_,Z,Zf ?_⟩;let U:=(g8.trans s9).trans c7;let e7:=R7.same U;let c2:∀ b o,b≠X.S->H3 b=some o->a5 b=some o:=λb o n e=>U _ _ (n8 b o n e);let c5:=g7.trans U;let C:=m7.mono (ZD.tups c5) λb J e=>c5 _ _ e;let⟨u,eu,au⟩:=e8 r a9;let e2:∀{b:aj}{o:HO},H2 b=some o->(∀ c dx fs,o≠.ins c dx fs)->a5 b=some o:=fun{b o} e z=>U _ _ (k7 (s3 _ _ e) z);let p1:Z4 H2 a5:=λb xs e=>e2 e λ_ _ _ z=>nomatch z;let a3:=au.mono p1 λb J e=>e2 e λ_ _ _ z=>nomatch z;let g:=e2 o1 λ_ _ _ z=>nomatch z;let Y:Y3 G ((0:Int)+(r:Int))=some u:=by rw[e0];exact YO eu
  let aw:=CM W.wf a8 a7 k1 k2 r;generalize Ml X.ts i a6 k1 k2 r=an at C a3 aw
  cases an with
  | inl t=>
   cases C with | key kt=>
   cases a3 with | key ku=>
   let ty:∃ ty,Yp K a5 u ty/\yO K ty (.type "list")=some false:=by
    cases t with
    | int j=>rw[ZB] at ku;subst ku;exact⟨_,.int j,by kernel_rfl⟩
    | str x=>rw[ZB] at ku;subst ku;exact⟨_,.str x,by kernel_rfl⟩
    | tup l=>rw[ZB] at ku;let⟨a,vs,rfl,e,_⟩:=ku;exact⟨_,.tup e,by kernel_rfl⟩
   let⟨ty,l3,hk⟩:=ty;refine⟨_,Z,_,Z,.inl ⟨du,G,_,u,Z,Z,ZH.of g,Y,_,_,_,_,Z,l3,hk,_,Z,Zf (Zf ?_)⟩⟩;refine⟨_,Z,_,Z,.inl ⟨du,G,_,u,Z,Z,ZH.of g,Y,_,_,_,_,Z,l3,hk,_,Z,Zs ?_⟩⟩;refine⟨_,Z,_,Z,_,Z,.inl ⟨du,G,_,u,Z,Z,ZH.of g,Y,m4,u,t,t,4,Z,kt,ku,aw,by decide,λm6 I=>⟨_,Z,?_⟩⟩⟩
   rw[Uh];exact Zf (.mk (e7.same I) λb o n e=>I _ _ (c2 b o n e))
  | inr l'=>
   cases C with | @lst _ D1 us1 hD1 kD1=>
   cases a3 with | @lst _ D2 us2 hD2 kD2=>
   let l4:yO K (.type "list") (.type "list")=some true:=by kernel_rfl
   refine⟨_,Z,_,Z,.inl ⟨du,G,_,.ref D2,Z,Z,ZH.of g,Y,_,_,_,_,Z,.lst hD2,l4,_,Z,Zs ?_⟩⟩;refine⟨_,Z,_,Z,_,Z,.inl ⟨du,G,_,.ref D2,Z,Z,ZH.of g,Y,D1,D2,us1,us2,l',l',Z,hD1,hD2,kD1,kD2,aw.1,aw.2,λm6 I=>⟨_,Z,?_⟩⟩⟩;rw[eqbL_self];refine Zf ⟨_,Z,_,Z,.inl ⟨du,G,_,.ref D2,Z,Z,ZH.of (I _ _ g),Y,_,_,_,_,Z,.lst (I _ _ hD2),l4,_,Z,Zf (Zf ?_)⟩⟩;exact .mk (e7.same I) λb o n e=>I _ _ (c2 b o n e)
 ·rintro _ H4 (@⟨e3,e4,x9,p2,p3,_,R4,a2⟩);let⟨m9,c8⟩:=R3.sh.self;let nS:∀{b:aj}{o:HO},H3 b=some o->(∀ c dx fs,o≠.ins c dx fs)->H4 b=some o:=fun{b o} e z=>a2 b o (Zb e c8 (z _ _ _)) e;let st:Xu N H3 H4:=⟨λb xs e=>nS e (λ_ _ _ z=>nomatch z),λb J _ e=>nS e (λ_ _ _ z=>nomatch z),λb kv e=>nS e (λ_ _ _ z=>nomatch z)⟩;let e6:=e5.go (.same p) λo e=>p _ _ e;refine q H4 m5 e3 e4 (λb o n1 n2 n3 e=>a2 b o n3 (p _ _ (i4 b o n1 n2 e))) ((m3.ext (Xr.same p)).ext ⟨λb φ e=>nS e (λ_ _ _ z=>nomatch z),λb ps e=>nS e (λ_ _ _ z=>nomatch z)⟩) R4 (e6.go st λo e=>?_) o6;let⟨p9,i8⟩:=e6.rc.rcd.dk.o;rw[i8] at e;cases e;exact nS i8 λ_ _ _ z=>nomatch z
inductive VF(jh ji:aj)(k:jf)(H:Hp)(Q:VK)(E:XK):Prop
 |mk(X:YH)(e:aj)(c:Nat)(g:jf)(i:Nat)(_:k=[.ref X.S,.int (i:Int),.int ((gd X.ts i).h:Int)])(_:Z3 jh ji H X e c g)(_:i<X.ts.length)(_:X.ts.length<=900)(_:∀ j,j<X.ts.length->PU X.av X.ho X.ts.length j)
  (_:∀(d:Hp)(a:aj),H a=none->(∀ b o,b≠X.S->H b=some o->d b=some o)->Z3 jh ji d X a c []->Q (.bl true) d)
def ZNV:ZC zEk zEk (Za Kz):=Zm
def ZLr(F0:Zg K "_law_quiet" "_law_quiet" Kz f fd)(T:YE mg)(L:Yw K mg jh ji)(DF:ZG P w K mg ki ZQ 1 jh "forget" zEm (Yz jh ji))(DL:ZG P w K mg ki ZQ 1 jh "looked" zEm (Y1 jh ji))(DG:ZA P w K mg ki 3 "height_of" zEo (XF jh ji))(DB:ZG P w K mg ki ZQ 2 jh "label" zEa (YW jh ji))(DH:ZG P w K mg ki ZQ 2 jh "holders" zEa (Xn jh ji λ_ U us=>.int ((us.length:Nat)+(U:Nat):Int)))(DA:ZG P w K mg ki ZQ 4 jh "alone" zEa (WD jh ji))(DO:ZG P w K mg ki ZQ 2 jh "outside" zEa (Xn jh ji λ_ U _=>.int U))(DM:ZG P w K mg ki ZQ 1 jh "many" zEm (UH jh ji))(DN:ZG P w K mg ki ZQ 1 jh "numbers" zEm (Xa jh ji)):
  ZI P w K mg ki ZQ 5 f fd zEk (VF jh ji):=by
 refine F0.ko ZNV λa2 A a1 s H vs Q E z h=>?_;let⟨X,lk,c,ls,i,rfl,R,x,l9,C,k⟩:=h;let r:=z.to 1;let y:=z.to 2;let Y:=z.to 3;intro Xc;refine⟨_,ZN (Wr (Ot (E:=E0) (pv 0) L.cS DF r Yn))
  (ZN (Zz (PW.pt (Pa (Xb (Lz (Zc DG Y (Zl (pv 0) (pv 1))) (pv 2))) (Pa (Xb (Lz (XM K (XX (E:=E0) (pv 0) L.cS DB y Yn (ZZ (pv 1))) ZJ) (pv 2))) (OR (Xb (Kx (XX (E:=E0) (pv 0) L.cS DH y Yn (ZZ (pv 1))) ZJ)))))) (ZS (Zd Wm)) Z1)
  (ZN (Zz (PW.pt (Pa (Vv (Y7 (Zw Vc rfl T.isi Ve (Zl (XX (E:=E0) (pv 0) L.cS DA z Yn (ZZ (pv 1))) (Vd (v:=.ty "bool") rfl T.bool Kp rfl))))) (Pa (Xb (Kx (XX (E:=E0) (pv 0) L.cS DO y Yn (ZZ (pv 1))) ZJ)) (OR (Xb (Lz (Ot (E:=E0) (pv 0) L.cS DM r Yn) (Zw XE rfl T.len Y6 (ZZ (Ot (E:=E0) (pv 0) L.cS DN r Yn))))))))) (ZS (Zd Wm)) Z1)
  (ZS (Zd (Vl (Io z.units0) (Ot (E:=E0) (pv 0) L.cS DL r Yn) (Yb Zk) (YK _)))))),?_⟩
 let⟨I,N⟩:=R.sh.self;exists _,Z,X.S,I,_,Z,N,Z,X,lk,c,ls,Z,R;intro H1 g B M t;let⟨u,G⟩:=t.sh.self;let⟨a,a4,a3,J,ht,_,_⟩:=(t.tw i x).tag;let J:V.ref (X.as.getD i .d).tg=.ref a:=J;let⟨o1,_⟩:=C i x;let lI:(iN (X.av i)).length=(X.av i).length:=zX _;exists _,Z,_,Z,X,g,c,[],i,Z,t,x,_,Z,_,_,Z,Z,_,Z;refine Xz (λl=>absurd l (by simp)) (λl=>?_)
 exists _,Z,X.S,u,_,Z,G,Z,_,Z,X,g,c,[],i,Z,t,x;rw[J];exists _,_,_,_,Z,Z,Zj.of ht,YO (j:=0) Z,_,Z,_,_,Z,Z,_,Z;refine Xz (λl=>absurd l (by rw[show (YA (gd X.ts i)).h=((gd X.ts i).h:Int) from rfl];simp)) (λl=>?_)
 exists _,Z,X.S,u,_,Z,G,Z,_,Z,X.S,X.d,g,c,X.kvs,[],(i:Int),_,_,_,_,_,_,Z,t.rd x,_,_,Z,Z,_,Z;refine Xz (λl=>absurd (of_decide_eq_true l) (by rw[lI];lia)) (λl=>?_)
 exists _,Z,X.S,u,_,Z,G,Z,_,Z,X,g,_,[],i,Z,t,x,l9,C;intro H2 s2;let a0:yO K (.type "bool") (.type "bool")=some true:=by kernel_rfl
 refine⟨_,_,_,_,Z,.bl _,a0,_,Z,Zf ?_⟩;let R2:=t.same s2;let m:=s2 _ _ G;exists _,Z,X.S,u,_,Z,m,Z,_,Z,X.S,X.d,g,_,X.kvs,[],(i:Int),_,_,_,_,_,_,Z,R2.rd x,_,_,Z,Z,_,Z;refine Xz (λl=>absurd (of_decide_eq_true l) ∅) (λl=>?_)
 exists _,Z,X.S,u,_,Z,m,Z,X,g,_,[],Z,R2;exists _,Z,X.S,u,_,Z,m,Z,X,g,_,[],Z,R2,by lia
 intro p np;let F:=ZW np (.lst (((yU X.ts.length).map λi:Nat=>(i:Int)).map V.int));let e3:=ZP (H:=H2) (a:=p) (o:=.lst (((yU X.ts.length).map λi:Nat=>(i:Int)).map V.int));generalize upd H2 p (.lst (((yU X.ts.length).map λi:Nat=>(i:Int)).map V.int))=H3 at F e3⊢;exists p,_,Z,.inl (ZH.of e3),_,_,Z,Z,_,Z;refine Xz (λl=>absurd l (by simp)) (λl=>?_)
 let R3:=R2.same F;let O:=F _ _ m;refine⟨_,Z,X.S,u,_,Z,O,Z,X,g,_,[],Z,R3,λq nq=>⟨YF,λe ne=>?_⟩⟩;let g4:=ZW nq (.lst []);let g5:=ZW ne (.lst []);let D:=((s2.trans F).trans g4).trans g5;exists q,e,[],Z,Z,ZH.of (g5 _ _ ZP),ZH.of ZP;exact k _ g B (λb o n e'=>D _ _ (M b o n e')) (t.same D)
inductive VS(T:aj)(K:zZ)(d:jf)(H:Hp)(Q:VK)(_:XK):Prop
 |mk(a:aj)(b:jF)(_:d=[.ref a])(_:ZH K H a (b.map V.int))(_:b.length<=63)(_:H T=some (.tbl #[]))(_:∀ c,Q (.bl true) c)
def Z3.off{f g:aj}{N:aj->Prop}{H l:Hp}{X:YH}{n:aj}{c:Nat}{r:jf}(R:Z3 f g H X n c r)(j:∀ b o,¬ N b->H b=some o->l b=some o)(t:∀ b,N b->∃ a,H b=some (.lst a))(x:¬ N n)(h:∀ i:Nat,i<X.ts.length->¬ N (X.as.getD i .d).ab/\¬ N (X.as.getD i .d).th):Z3 f g l X n c r:=by
 let⟨⟨s,u⟩,v,w⟩:=R.sh;let k:∀{b:aj}{o:HO},H b=some o->(∀ a,o≠.lst a)->l b=some o:=fun{b o} e z=>j b o (λy=>by
  let⟨a,p⟩:=t b y;rw[e] at p;exact z a (zA.inj p)) e
 refine⟨⟨⟨s,k u (λ_ z=>nomatch z)⟩,k v (λ_ z=>nomatch z),j _ _ x w⟩,R.keys,R.val,λi m=>?_,R.own,R.le⟩;let W:=R.tw i m;let⟨A,q⟩:=W.tw.self;exact W.frame (λb a e=>k e (λ_ z=>nomatch z)) (λo e=>by rw[q] at e;cases e;exact k q (λ_ z=>nomatch z)) (λo e=>j _ _ (h i m).2 e) (λo e=>j _ _ (h i m).1 e)
def Ax{K:zZ}{H b:Hp}{a T:aj}{d:jf}{e:jx}(c:H T=some (.tbl e))(m:ZE T H b)(h:ZH K H a d):ZH K b a d:=by
 rcases h with (h | ⟨o,h⟩) | h
 ·exact .inl (.inl (m _ _ h (Zb h c)))
 ·exact .inl (.inr ⟨o,m _ _ h (Zb h c)⟩)
 ·exact .inr h
structure JV(jh ji:aj)(H0:Hp)(X:YH)(L kn T:aj)(t1 t2:Vh):Prop where
 nS:H0 X.S=none
 nkn:H0 kn=none
 Lkn:L≠kn
 n1:H0 t1.d=none
 n2:H0 t2.d=none
 dif:t1.d≠t2.d
 okn:∀ i:Nat,i<X.ts.length->(X.as.getD i .d).ab≠kn/\(X.as.getD i .d).th≠kn
 wf:WF [] X.ts
 low:Pu X.ts X.av X.ho
 len:X.ts.length<=640
structure Pj(w:ax)(jh ji:aj)(H0 H:Hp)(X:YH)(L kn T:aj)(t1 t2:Vh)(g:Nat)(us:jf)(kts:jp):Prop where
 sh:∃ lk c ls,Z3 jh ji H X lk c ls/\kn≠lk
 s0:ZE T H0 H
 hL:H L=some (.lst [.ref t1.T,.ref t2.T])
 tr1:YS (· = kn) w [] X.ts H g t1
 tr2:YS (· = kn) w [] X.ts H g t2
 hk:H kn=some (.lst us)
 ks:jY H kts us
 fit:∀ t∈kts,t.fits 3=true
 tab:YN H T qR
def YS.go{N:aj->Prop}{w:ax}{i:jp}{j:jr}{H b:Hp}{g f:Nat}{t:Vh}(h:YS N w i j H g t)(s:Xu N H b)(n:g<=f)(k:∀ a,H t.d=some (Vk t.d a)->b t.d=some (Vk t.d a)):YS N w i j b f t:=by
 let⟨m,R,l⟩:=h.rcd;refine⟨s.t _ _ h.tp,⟨m,R.go s λo e=>?_,∅⟩,h.rt⟩
 let⟨a,c⟩:=R.rc.rcd.dk.o;rw[c] at e;cases e;exact k a c
def Pj.own{x r H q:Hp}{X:YH}{L h T p:aj}{I J:Vh}{g:Nat}{a l:jf}{F d:jp}(C:JV jh ji x X L h T I J)(j:Pj w jh ji x r X L h T I J g a F)(m:ZD r H)(v:r p=none)(U:∃ a,H p=some (.lst a))(B:∀ b o,b≠p->b≠h->H b=some o->q b=some o)(S:q h=some (.lst l))(Y:jY q d l)(A:∀ t∈d,t.fits 3=true):Pj w jh ji x q X L h T I J g l d:=by
 let⟨lk,c,ls,R,u⟩:=j.sh;let D:∀ b,(b=p\/b=h)->∃ a,H b=some (.lst a):=λb z=>z.elim (λy=>y ▸ U) λy=>y ▸ ⟨a,m _ _ j.hk⟩;let k:∀{b:aj}{o:HO},H b=some o->(∀ a,o≠.lst a)->q b=some o:=fun{b o} e z=>B b o (λy=>by
  let⟨a,s⟩:=D b (.inl y);rw[e] at s;exact z a (zA.inj s)) (λy=>by
  let⟨a,s⟩:=D b (.inr y);rw[e] at s;exact z a (zA.inj s)) e
 let G:∀{b:aj}{o:HO},r b=some o->b≠h->q b=some o:=fun{b o} e z=>B b o (ZY e v) z (m _ _ e);let M:Xu (· = h) r q:=⟨λb xs e=>k (m _ _ e) (λ_ z=>nomatch z),λb a n e=>G e n,λb kv e=>k (m _ _ e) (λ_ z=>nomatch z)⟩;refine⟨⟨lk,c,ls,(R.same m).off (N:=λb=>b=p\/b=h) (λb o n e=>B b o (λz=>n (.inl z)) (λz=>n (.inr z)) e) D ?_ λi E=>?_,u⟩,λb o e n=>?_,G j.hL C.Lkn,j.tr1.go M (zY _) (λQ e=>k (m _ _ e) (λ_ z=>nomatch z)),j.tr2.go M (zY _) (λQ e=>k (m _ _ e) (λ_ z=>nomatch z)),S,Y,A,(j.tab.ext (Xr.same m)).ext ⟨λb φ e=>k e (λ_ z=>nomatch z),λb ps e=>k e (λ_ z=>nomatch z)⟩⟩
 ·rintro(z | z)
  ·exact ZY R.sh.looks v z
  ·exact u z.symm
 ·let W:=R.tw i E;let⟨l,O,_⟩:=W.things;exact⟨λz=>z.elim (ZY W.tw.above v) (C.okn i E).1,λz=>z.elim (ZY O v) (C.okn i E).2⟩
 ·exact G (j.s0 b o e n) (ZY e C.nkn)
def Pj.ask{y H a:Hp}{X:YH}{L i T I:aj}{c:Nat}{W:jf}{A B m:Vh}{g:Nat}{u:jf}{x:jp}{v:List (KT×V×V)}(C:JV jh ji y X L i T A B)(j:Pj w jh ji y H X L i T A B g u x)(p:m=A\/m=B)(D:∀ b o,b≠T->b≠m.d->b≠X.S->H b=some o->a b=some o)(M:YN a T qR)(R:Z3 jh ji a X I c W)(G:i≠I)(Y:Xq (· = i) w [] X.ts a m.d v m.F)(l:v.length<=650+(g+1)):Pj w jh ji y a X L i T A B (g+1) u x:=by
 let⟨a1,U,_⟩:=id j.tab;let⟨_,_,_,R0,_⟩:=j.sh;let⟨dS,Q⟩:=R0.sh.self;let N:∃ O,H m.d=some (Vk m.d O):=by
  rcases p with rfl | rfl
  ·let⟨v,R,_⟩:=j.tr1.rcd;exact R.rc.rcd.dk.o
  ·let⟨v,R,_⟩:=j.tr2.rcd;exact R.rc.rcd.dk.o
 let⟨a0,hd⟩:=N;let k:∀{b:aj}{o:HO},H b=some o->(∀ q,o≠.tbl q)->(∀ q,o≠.ext q)->(∀ c dx fs,o≠.ins c dx fs)->a b=some o:=fun{b o} e z1 z2 z3=>D b o (Zb e U (z1 _)) (Zb e hd (z2 _)) (Zb e Q (z3 _ _ _)) e;let E:∀{b:aj}{u:jf},H b=some (.lst u)->a b=some (.lst u):=λe=>k e (λ_ z=>nomatch z) (λ_ z=>nomatch z) (λ_ _ _ z=>nomatch z);let J:Xu (· = i) H a:=⟨λb v e=>k e (λ_ z=>nomatch z) (λ_ z=>nomatch z) (λ_ _ _ z=>nomatch z),λb u _ e=>E e,λb kv e=>k e (λ_ z=>nomatch z) (λ_ z=>nomatch z) (λ_ _ _ z=>nomatch z)⟩;let s:∀{t:Vh},YS (· = i) w [] X.ts H g t->t=m->YS (· = i) w [] X.ts a (g+1) t:=fun{t} h e=>by
  subst e;exact⟨J.t _ _ h.tp,⟨v,Y,l⟩,h.rt⟩
 let r:∀{t:Vh},YS (· = i) w [] X.ts H g t->t.d≠m.d->YS (· = i) w [] X.ts a (g+1) t:=fun{t} h n=>h.go J (xD _) λO e=>D _ _ (Zb e U (by unfold Vk;intro z;cases z)) n (Zb e Q (by unfold Vk;intro z;cases z)) e
 let nd:y m.d=none:=by rcases p with rfl | rfl;exact C.n1;exact C.n2
 refine⟨⟨I,c,W,R,G⟩,λb o e n=>D b o n (ZY e nd) (ZY e C.nS) (j.s0 b o e n),E j.hL,?_,?_,E j.hk,j.ks.mono J.t _ _,j.fit,M⟩
 ·rcases p with rfl | rfl
  ·exact s j.tr1 Z
  ·exact r j.tr1 C.dif
 ·rcases p with rfl | rfl
  ·exact r j.tr2 (Ne.symm C.dif)
  ·exact s j.tr2 Z
abbrev ZRn:jt:=["_law_script","_law_shelf","_law_trees_here","_law_known_here","_law_k","_law_well_here","_law_root_here","_law_record","_law_keys_here"]
def Pp:ZC ZRn zFk (Za PD):=Zm
inductive Fi(w:ax)(jh ji:aj)(H0:Hp)(X:YH)(L kn T a:aj)(t1 t2:Vh)(n:Nat):L2.St->Hp->Prop
 |mk{x4 x5 x6 x7 x8:jg}{us:jf}{kts:jp}{H:Hp}:Pj w jh ji H0 H X L kn T t1 t2 n us kts->us.length<=600+2 * n->Fi w jh ji H0 X L kn T a t1 t2 n [some (.ref a),some (.ref X.S),some (.ref L),some (.ref kn),x4,x5,x6,x7,x8] H
def ZO6{Tb:aj}(F0:Zg K "law" "law" PD f fd)(T:YE mg)(L:Yw K mg jh ji)(DI:Us P w K mg ki 1 jh zEm (QW jh))(DW:ZA P w K mg ki 1 "_law_well" zE1 (VA K))(DP:ZA P w K mg ki 1 "_law_pull" zEc Zp)(DT:ZA P w K mg ki 12 "_law_trees" zE3 (VN w [] K jh ji))(DK:ZA P w K mg ki 1 "_law_known" zFc VM)(DX:ZA P w K mg ki 2 "_law_root" zEv (UG w []))(DY:ZA P w K mg ki 7 "_law_any_key" zEu WB)(DH:ZA P w K mg ki 1 "_law_height" zEd (XQ w []))(DA:ZA P w K mg ki 14 "_law_asked" zEh (VU w [] jh ji Tb))(DQ:ZA P w K mg ki 5 "_law_quiet" zEk (VF jh ji)):ZI P w K mg ki ZQ 40 f fd zFk (VS Tb K):=by
 refine F0.ko Pp λp9 A o9 s H vs Q E hr h=>?_;let⟨a,ns,rfl,a4,hn,e1,k⟩:=h;let nd:=Pp.nd;let J:=hr.to 1;let e9:=hr.to 2;let n7:=hr.to 5;let i0:=hr.to 7;let e7:=hr.to 12;let e8:=hr.to 14;intro Xc;refine⟨_,ZN (Zi 1 nd (Ba DI e9 rfl L.shelf))
  (ZN (Zi 2 nd (Zc DT e7 (Zl (pv 0) (pv 1))))
  (ZN (Zi 3 nd (Zc DK J (ZZ (pv 2))))
  (ZN (U8 PassesOwn.never rfl (K7 rfl T.range (Zl ZJ (Zw (Mb rfl) rfl T.max M0 (Zl ZJ (Zw (GT rfl) rfl T.min FE (Zl (Zw XE rfl T.len Y6 (ZZ (pv 0))) ZJ)))))) (Xx 4 nd)
   (ZN (Zi 5 nd (Zc DW J (Zl (pv 0) (pv 4))))
   (ZN (Q8 (Zc DX e9 (Zl (pv 5) (pv 2))) (OA rfl (UL (Xx 6 nd) (UL (Xx 7 nd) Of))))
   (ZN (Zi 8 nd (Yb (Zl (Zc DY i0 (Zl (pv 5) (pv 3))) (Zc DY i0 (Zl (pv 5) (pv 3))))))
   (ZS (Zz (Xb (OP (pv 6)))
    (ZN (Zz (Vv (Y7 (Zc DA e8 (En (pv 1) (pv 6) (pv 7) (Zc DP J (Zl (pv 5) ZJ)) (pv 8))))) (ZS (Zd Wm)) Z1)
    (ZS (Zz (Vv (Y7 (Zc DQ n7 (WQ (pv 1) (pv 6) (Zc DH J (Zl (pv 7) (pv 6))))))) (ZS (Zd Wm)) Z1))) Z1))))))
  (ZS (Zd Wm))))),?_⟩
 intro S e nS ne z1;let i1:ZD H (upd (upd H e (.own S)) S (.ins jh e [])):=λb o q=>by
  rw[ZU (ZY q nS),ZU (ZY q ne)];exact q
 refine⟨S,e,Z,ZP,λH1 d lk m8 l4 l5 r1 R1=>⟨Z,?_⟩⟩;let p0:ZD H H1:=λb o q=>m8 b o (ZY q nS) (i1 b o q);let RP:Yc jh ji H1 S d lk [] (λ_=>[]) (λ_=>0) [] [] []:=⟨R1,Z,λi G=>absurd G (xT _),Z,λi G=>absurd G (xT _),λi G=>absurd G (xT _),λi _ G=>absurd G (xT _)⟩;exists _,Z,_,Z,H,a,S,d,lk,ns,_,_,Z,a4,hn,p0,nS,i1.free l4,i1.free l5,RP;intro H2 Ls ts av ho as a5 ls D u r i9 _;let⟨T1,A1,_,D1⟩:=r.trs D (by simp)
 let⟨T2,A2,_,D2⟩:=r.trs u (by simp)
 let m5:D.d≠u.d:=(xS.mp r.dif).1 u (by simp)
 let a3:H2 Ls=some (.lst [.ref D.T,.ref u.T]):=r.hL;let r7:D.us.length=D.rs.length:=by have:=T1.ks.length;unfold Z7 at this;rw[zX] at this;exact this.symm
 let r8:u.us.length=u.rs.length:=by have:=T2.ks.length;unfold Z7 at this;rw[zX] at this;exact this.symm
 let w1:=T1.len;let w2:=T2.len;exists _,Z,Ls,D.T,u.T,D.r,u.r,_,_,D.us,u.us,D.rs,u.rs,Z,a3,T1.tp,T2.tp,T1.rl,T2.rl,T1.ks,T2.ks,∅,by lia
 intro B ks H3 s3 U e5 i3;let R2:=r.pla.sh;let r6:ks.length=D.rs.length+u.rs.length:=by
  have:=i3.length;rw[zX,zT] at this;exact this.symm
 let o8:H d=none:=i1.free l4;let l6:ZD H H2:=λb o e=>r.pla.fr b o (λz=>z) (ZY e nS) (ZY e o8) (λj hj=>absurd hj (xT _)) e;let a7:=l6.trans s3;let C:JV jh ji H ⟨S,d,ts,av,ho,as,a5⟩ Ls B Tb D u:=⟨nS,l6.free U,ZY a3 U,D1,D2,m5,(O4 R2 U e5).own,r.pla.wf,r.pla.hs,i9⟩;obtain⟨M,eM,M3,p7⟩:∃ M:Int,(if (if (63:Int)<((ns.map V.int).length:Int) then (63:Int) else ((ns.map V.int).length:Int)) > 5 then (if (63:Int)<((ns.map V.int).length:Int) then (63:Int) else ((ns.map V.int).length:Int)) else 5)=M/\5<=M/\M<=63:=by
  exists _,Z,?_
  ·(repeat' split) <;> lia
  ·(repeat' split) <;> lia
 exists _,Z,a,ns.map V.int,Z,.inl (a7.seq a4),_,_,Z,_,_,Z,2,M,congrArg (λz=>[V.int 2,V.int z]) eM,⟨∅,∅,∅,∅⟩
 clear eM;let m1:YN H Tb qR:=⟨#[],e1,trivial,λpos cv h=>by simp[PySem.codeAmong] at h⟩
 let PV:∀{t:Vh},Yr w [] ts H2 t->YS (· = B) w [] ts H3 0 t:=fun{t} h=>by
  let R3:=h.rcd.same s3;let lF:=IJ _ _ R3.rcd.nd R3.rcd.lt;have:=h.xl;refine⟨s3 _ _ h.tp,⟨t.kv,⟨R3,λj v e=>?_⟩,∅⟩,h.rt⟩
  rw[Jd λz=>by let⟨i,ei⟩:=h.kx _ z;injection ei] at e
  cases e
 let c9:∀ t∈(D.rs++u.rs).map (·.1),t.fits 3=true:=λt ht=>by
  let⟨x,hx,e⟩:=zL.mp ht;rw[<-e];exact(zB.mp hx).elim (λz=>(T1.fit x z).1) (λz=>(T2.fit x z).1)
 let J0:Pj w jh ji H H3 ⟨S,d,ts,av,ho,as,a5⟩ Ls B Tb D u 0 ks ((D.rs++u.rs).map (·.1)):=⟨⟨lk,_,ls,(R2.same s3).q,(ZY R2.sh.looks U).symm⟩,λb o e _=>a7 b o e,s3 _ _ a3,PV T1,PV T2,e5,i3,c9,m1.ext (Xr.same a7)⟩;generalize hX:(⟨S,d,ts,av,ho,as,a5⟩:YH)=X at C J0;let eS:X.S=S:=by rw[<-hX]
 refine OJ (lo:=2) (n:=(M-2).toNat) (Fi w jh ji H X Ls B Tb a D u) (by rw[<-eS];exact .mk J0 ∅) ?_ ?_
 ·rintro n _ H4 r3 (@⟨x4,x5,x6,x7,x8,us,i5,_,j,o7⟩);exists _,Z,_,Z,a,ns,_,Z,Ax e1 j.s0 a4,hn,∅,by lia
  intro p H5 np s5 W5;let⟨s1,e6⟩:=W5.some;let Lp:Ls≠p:=ZY j.hL np;let O:B≠p:=ZY j.hk np;let l9:Xu (· = B) H4 H5:=.same s5;let o6:∀ i,i<X.ts.length->(gd X.ts i).rows.length<=300:=λi G=>(C.low i G).1.2;exists _,Z,_,Z,(· = B),n,X.ts,p,Ls,D,u,Z,W5,s5 _ _ j.hL,Lp,j.tr1.go l9 (zY _) (λes e=>s5 _ _ e),j.tr2.go l9 (zY _) (λes e=>s5 _ _ e),o6;intro H6 tq tr rn i2 n8 s6 W6 n9;exists tq,_,Z,Zj.of n9,Z,_,_,Z,_,_,Z,Z;let n5:=s6 _ _ (s5 _ _ j.hk) O;let o2:=(j.ks.sm s5).mono (s6.tupsW W5) _ _;exists _,Z,_,Z,p,B,us,i5,Z,W6,n5,o2,j.fit,O,by lia
  intro v1 k1 p2 i6 H7 o5 m6 e2 o3 c8 l7 W7 m9;exists _,Z,_,Z,p,B,p2,i6,Z,W7,e2,o3,c8,O,by lia
  intro v2 k2 s4 p3 H8 Xo m7 e3 o4 Y l8 W8 e0;exists YF;intro kl R;let g9:=ZW R (.lst [v1,v2]);let c5:=ZP (H:=H8) (a:=kl) (o:=.lst [v1,v2]);generalize upd H8 kl (.lst [v1,v2])=H9 at g9 c5⊢;let c7:∀ b o,b≠p->b≠B->H5 b=some o->H9 b=some o:=λb o n1 n2 e=>g9 _ _ (e0 b o n1 n2 (m9 b o n1 n2 (s6 b o e n1)));let⟨s2,n6⟩:=W7.some;let p1:Z4 H7 H8:=λb xs e=>e0 b _ (Zb e n6) (Zb e e2) e;let i7:=(o5.mono p1 _ _).sm g9;let i8:=Xo.sm g9;let W9:=W8.same g9;let e4:=g9 _ _ e3;let i4:=o4.sm g9
  cases rn with
  | none=>
   refine⟨_,Z,_,Z,Zf ?_⟩;let N:=j.own C s5 np ⟨_,e6⟩ c7 e4 i4 Y;let m0:Xu (· = B) H9 H9:=.same (ZD.refl _);exact .mk ⟨N.sh,N.s0,N.hL,N.tr1.go m0 (xD _) (λes e=>e),N.tr2.go m0 (xD _) (λes e=>e),N.hk,N.ks,N.fit,N.tab⟩ ∅
  | some i=>
   let G:=n8 i Z;refine⟨_,Z,_,Z,Zs ?_⟩;exists _,Z,_,Z,_,Z,_,Z,p,300,Z,W9,Xp (by decide) (by decide)
   intro y c0 y0 y3 p8 W;let⟨m,rfl⟩:=rJ y0;let o1:kl≠p:=U3 W8 R;let r4:kl≠B:=λz=>by rw[z,e3] at R;cases R
   let a8:=W.tupsW W9;let c6:∀ b o,b≠p->b≠B->H5 b=some o->c0 b=some o:=λb o n1 n2 e=>W _ _ (c7 b o n1 n2 e) n1;let g:=j.own C s5 np ⟨_,e6⟩ c6 (W _ _ e4 O) (i4.mono a8 _ _) Y;let⟨l0,c4,l2,c2,o0⟩:=g.sh;let PV:YS (· = B) w [] X.ts c0 n tr:=by rcases i2 with rfl | rfl;exact g.tr1;exact g.tr2
   let⟨xs,KR,lx⟩:=PV.rcd;let n4:=KR.rc.rcd.lt i G;exists _,Z,(· = B),X,l0,c4,l2,tr.d,xs,tr.F,i,m,kl,v1,v2,k1,k2,Z,g.tab,c2,(λj hj=>(C.low j hj).1),KR,∅,G,(λb z=>by rw[z,g.hk];exact λz=>nomatch z),W _ _ c5 o1,i7.mono a8 _ _,m6,i8.mono a8 _ _,m7
   intro p6 m2 l1 l3 a0 a9 c3 I p5;refine⟨_,Z,Zf ?_⟩;exists _,Z,_,Z,_,Z,_,Z,X.ts,tr.d,m2,tr.F,i,Z,I.rc,G;intro c1 l;let r5:=C.len;exists X,l1,c4,l3,i,Z,c3.same l,n4,∅,(λj hj=>(C.low j hj).2)
   intro m3 p4 a6 a1 m4;refine⟨_,Z,Zf (.mk (g.ask C i2 (λb o n1 n2 n3 e=>a1 b o n3 (l _ _ (a0 b o n1 n2 n3 e))) ?_ m4 ?_ (Xq.go (I.go (.same l) λo e=>l _ _ e) ?_ ?_) ∅) ∅)⟩
   all_goals let⟨dS,hS⟩:=(c3.same l).sh.self
   all_goals have kk:∀{b:aj}{o:HO},c1 b=some o->(∀ c dx fs,o≠.ins c dx fs)->m3 b=some o:=fun{b o} e z=>a1 b o (Zb e hS (z _ _ _)) e
   ·exact(a9.ext (Xr.same l)).ext ⟨λb φ e=>kk e (λ_ _ _ z=>nomatch z),λb ps e=>kk e (λ_ _ _ z=>nomatch z)⟩
   ·intro z;let a2:c1 B≠none:=by
     let⟨r9,hT,_⟩:=id g.tab;let⟨r2,hd⟩:=KR.rc.rcd.dk.o;let⟨r0,n0⟩:=c2.sh.self;rw[l _ _ (a0 _ _ (Zb g.hk hT) (Zb g.hk hd (by unfold Vk;intro z;cases z)) (Zb g.hk n0) g.hk)]
     exact λz=>nomatch z
    rw[z] at a2;exact a2 a6
   ·exact⟨λb xs e=>kk e (λ_ _ _ z=>nomatch z),λb us _ e=>kk e (λ_ _ _ z=>nomatch z),λb kv e=>kk e (λ_ _ _ z=>nomatch z)⟩
   ·intro o e;let⟨es,hd⟩:=(I.rc.same l).rcd.dk.o;rw[hd] at e;cases e;exact kk hd (λ_ _ _ z=>nomatch z)
 ·rintro _ H4 (@⟨x4,x5,x6,x7,x8,us,i5,_,j,o7⟩);exact k H4
end Tw
namespace L2
open PySem PySem.Spec
def xC(K:zZ)(C:aj):Bool:=
 (zD K (.ref C) "__getattribute__" == some (some (.builtin "BaseException.__getattribute__")))&&((zD K (.ref C) "__getattr__" == some none)&&((yB K C (.type "BaseException")==some true)&&((yB K C (.type "object")==some true) &&
 ((zD K (.ref C) "__class__" == some (some (.builtin "object.__class__")))&&((PySem.W.specialIn K (.builtin "object.__class__") "__get__" == some (some (.builtin "getset_descriptor.__get__")))&&(PySem.W.takesIn K (.builtin "object.__class__")==some true))))))
def CV{K:zZ}{C:aj}(h:xC K C=true):Nn K C:=by
 unfold xC at h;simp only[zO,beq_iff_eq] at h;let⟨a,b,c,d,e,f,g⟩:=h;exact⟨a,b,c,d,e,f,g⟩
def xF(K:zZ)(C a:aj)(f:Str):Bool:=
 xC K C&&(HI K C&&((zD K (.ref C) "__init__" == some (some (.ref a)))&&(wB K (.ref a)&&(yJ K (.ref C)&&((zD K (.ref C) "__setattr__" == some (some (.builtin "object.__setattr__"))) &&
 ((zD K (.ref C) f==some none)&&(vW K C&&F5 K C)))))))
def ZQU{K:zZ}{C k:aj}{f:Str}(h:xF K C k f=true):US K C k f:=by
 unfold xF at h;simp only[zO,beq_iff_eq] at h;let⟨a,b,c,d,e,f,g,i,j⟩:=h;exact⟨CV a,b,c,d,e,f,g,i,j⟩
end L2
namespace Tw
open PySem PySem.Spec L2 PyProof.Rows
variable{jh ji CS CT CH CK CP CB:aj}
abbrev OD:Stmt:=Wt (Zn 9) 0
def CF:ZC ["self","at"] ["self","at"] (Za OD):=Zm
def ZF8{C:aj}(F:Zg K "__init__" "NoPlace.__init__" OD f fd):ZI P w K mg ki ZQ 1 f fd ["self","at"] (LO K C f "at"):=by
 refine F.ok CF (λg H Q E h=>(by let⟨_,_,_,rfl,_⟩:=h;rfl)) (λb A a s H g Q E i h=>?_)
 let⟨c,d,y,rfl,e,k⟩:=h;exact⟨_,ZS (ZNM (pv 0) (pv 1) rfl),⟨_,Z,_,Z,PH,d,_,_,Z,e,c,k⟩⟩
def ZV.ofD{P:al}{w:ax}{K:zZ}{mg:jc}{ki:aE}{x:Str}{d:aD}{a:jt}{k:Nat}{c:Sp}(L:ZV K mg x d a)(h:∀ f fd,Zg K x x d f fd->ZI P w K mg ki (Vi P w) k f fd a c):QZ P w K mg ki k x a c:=by
 let⟨f,fd,F,b,m⟩:=L.ex;exact⟨f,fd,h f fd F,b,F.kp,m⟩
structure Z0(K:zZ)(C:aj)(m q:Str)(st:aD)(ps:jt):Prop where
 ex:∃ f fd,U0 K C m f/\Zg K m q st f fd/\Zo K fd ps []
def Z0.of{P:al}{w:ax}{K:zZ}{g:jc}{a:aE}{e:VZ}{C:aj}{m q:Str}{j:aD}{d:jt}{k:Nat}{i:Sp}(L:Z0 K C m q j d)(h:∀ f c,Zg K m q j f c->ZI P w K g a e k f c d i):ZG P w K g a e k C m d i:=by
 let⟨f,c,M,F,b⟩:=L.ex;exact⟨f,c,M,h f c F,b⟩
def Nv{K:zZ}{C f:aj}{m q:Str}{d:aD}{j:jt}{t e:jz}{u:Array (jd)}{s kV o i n ct:ai}(v:zD K (.ref C) m=some (some (.ref f)))(l:K.lookup f=some ⟨s,t,.func (yG m q (Uj d) (WT d) (Za d) .none kV o i e n ct),u⟩)(p:wB K (.ref f)=true)(c:wT K n q=true)(k:yJ K (.ref f)=true)(r:∀ (kV h i:ai) (e:jz) (g ct:ai) (a:je),a.length=j.length->bindArgs (yG m q (Uj d) (WT d) (Za d) .none kV h i e g ct) ⟨a,[]⟩=pure (j.zip a):=by first | exact(λ_ _ _ _ _ _ a b=>match a,b with | [_],_=>rfl) | exact(λ_ _ _ _ _ _ a b=>match a,b with | [_,_],_=>rfl) | exact(λ_ _ _ _ _ _ a b=>match a,b with | [_,_,_],_=>rfl) | exact(λ_ _ _ _ _ _ a b=>match a,b with | [_,_,_,_],_=>rfl) | exact(λ_ _ _ _ _ _ a b=>match a,b with | [_,_,_,_,_],_=>rfl)):Z0 K C m q d j:=
 ⟨f,_,⟨v,p,k⟩,Qd (st:=d) l c k,(Qd (st:=d) l c k).binds r⟩
structure QF(K:zZ)(C:aj)(q:Str)(st:aD)(ps:jt):Prop where
 ex:∃ f fd,zD K (.ref C) "__init__" = some (some (.ref f))/\wB K (.ref f)=true/\Zg K "__init__" q st f fd/\Zo K fd ps []
def NM{K:zZ}{C f:aj}{q:Str}{d:aD}{j:jt}{s e:jz}{t:Array (jd)}{r kV n i m ct:ai}(v:zD K (.ref C) "__init__" = some (some (.ref f)))(l:K.lookup f=some ⟨r,s,.func (yG "__init__" q (Uj d) (WT d) (Za d) .none kV n i e m ct),t⟩)(o:wB K (.ref f)=true)(c:wT K m q=true)(k:yJ K (.ref f)=true)(p:∀ (kV h i:ai) (e:jz) (g ct:ai) (a:je),a.length=j.length->bindArgs (yG "__init__" q (Uj d) (WT d) (Za d) .none kV h i e g ct) ⟨a,[]⟩=pure (j.zip a):=by first | exact(λ_ _ _ _ _ _ a b=>match a,b with | [_],_=>rfl) | exact(λ_ _ _ _ _ _ a b=>match a,b with | [_,_],_=>rfl) | exact(λ_ _ _ _ _ _ a b=>match a,b with | [_,_,_],_=>rfl) | exact(λ_ _ _ _ _ _ a b=>match a,b with | [_,_,_,_],_=>rfl) | exact(λ_ _ _ _ _ _ a b=>match a,b with | [_,_,_,_,_],_=>rfl)):QF K C q d j:=
 ⟨f,_,v,o,Qd (st:=d) l c k,(Qd (st:=d) l c k).binds p⟩
def Jn{K:zZ}{x:Str}{f c P:aj}{k:ai}{m:jz}{h:am}{n:Array (jd)}{b:ai}{d:jz}{i:jx}{g:Array (jd)}(a:zJ K ao x=some (some (.ref f)))(l:K.lookup f=some ⟨k,m,.func h,n⟩)(e:h.code=.ref c)(j:K.lookup c=some ⟨b,d,.fields i,g⟩)(v:i[11]? = some (.ref P)):xK K x=some (c,P):=by
 unfold xK;rw[a];simp only;rw[l];simp only;rw[e];simp only;rw[j];simp only;rw[v]
def JN{l:tP}{w:ax}{K:zZ}{h:aE}{mg:jc}{fa cb0 tb0 f51 f58 CD CP jh ji jP:aj}(X:K.In h)(G:h.Ns ao mg)(hfa:mg "law" = some (.ref fa))(hta:xK K "_law_known_of" = some (cb0,tb0)){od51 an51 od58 an58:jz}{sl51 sl58:Array (jd)}{oc51 kV51 dc51 pm51 cd51 ct51 oc58 kV58 dc58 pm58 cd58 ct58:ai}{t1 t2 t3 t4 t5 t6 t7 t8 t9 t10:Tok}(L1:ZV K mg "is_key" Ih zE2)(L2:ZV K mg "checked" Jz zE2)(L3:ZV K mg "fits" MU zE7)(L4:ZV K mg "has_few_figures" Jk zFi)(L5:ZV K mg "is_sign" Ki ["sign"])(L6:ZV K mg "ahead" L0 zEx)(L7:ZV K mg "place_in" Ic zFj)(L8:ZV K mg "standing" MS zFh)(L9:ZV K mg "checked_rows" Ja zE5)(L10:ZV K mg "own_rows" Kf zE5)(L11:ZV K mg "rise" Ll ["keys"])(L12:ZV K mg "label_of_rows" JZ zE5)(L13:ZV K mg "label_over" Lu ["labels"])(L14:ZV K mg "stand_side_by_side" Kc zE8)(L15:ZV K mg "value_of" KN zEb)(L16:ZV K mg "height_of" Ig zEo)(L17:ZV K mg "steps_to" Lq zEb)(L18:ZV K mg "check_asked" KD zEb)(L19:ZV K mg "place_within" Kq zFa)(L20:ZV K mg "branch_at" Jv zFe)(L21:ZV K mg "is_leaf" JR zFf)(L22:ZV K mg "nth" Ia zEl)(L23:ZV K mg "branch_with" JG zE9)(L24:ZV K mg "place_of" Jb zEb)(L25:ZV K mg "rows_ahead" JH zFg)(L26:ZV K mg "from_key" JY zEb)(L27:ZV K mg "before_key" K0 zEb)(L28:ZV K mg "row_at" Jh zEl)(L29:ZV K mg "many_between" Ik zEw)(L30:ZV K mg "rows_under" Il zEo)(L31:ZV K mg "is_stem" KI ["twig"])(L32:ZV K mg "_law_well" Iu zE1)(L33:ZV K mg "_law_pull" Kb zEc)(L34:ZV K mg "_law_great" Ky zEs)(L35:ZV K mg "_law_text" Lr zEq)(L36:ZV K mg "_law_key" LX zEg)(L37:ZV K mg "_law_rank" Mc zEt)(L38:ZV K mg "_law_sorted" Id zFd)(L39:ZV K mg "_law_keys" Ip zEc)(L40:ZV K mg "_law_cut" No zEj)(L41:ZV K mg "_law_plant" Qt zEr)(L42:ZV K mg "_law_reached" Jg zEp)(L43:ZV K mg "_law_alike" Mj zEe)(L44:ZV K mg "_law_rows_alike" J9 zEe)(L45:ZV K mg "_law_value" KM zEq)(L46:ZV K mg "_law_any_key" K2 zEu)(L47:ZV K mg "_law_ground" II zE0)(L48:ZV K mg "_law_trees" JO zE3)(L49:ZV K mg "_law_known" IN zFc)(L50:ZV K mg "_law_below" Js zEd)(a51:zJ K ao "_law_known_of" = some (some (.ref f51)))(l51:K.lookup f51=some ⟨oc51,od51,.func (yG "_law_known_of" "_law_known_of" (Uj Qr) (WT Qr) (Za Qr) .none kV51 dc51 pm51 an51 cd51 ct51),sl51⟩)(c51:wT K cd51 "_law_known_of" = true)(k51:yJ K (.ref f51)=true)(L52:ZV K mg "_law_root" KL zEv)(L53:ZV K mg "_law_height" K9 zEd)(L54:ZV K mg "_law_due" KQ zEn)(L55:ZV K mg "_law_told" KA zEf)(L56:ZV K mg "_law_asked" Kl zEh)(L57:ZV K mg "_law_quiet" Kz zEk)(a58:zJ K ao "law" = some (some (.ref f58)))(l58:K.lookup f58=some ⟨oc58,od58,.func (yG "law" "law" (Uj PD) (WT PD) (Za PD) .none kV58 dc58 pm58 an58 cd58 ct58),sl58⟩)(c58:wT K cd58 "law" = true)(k58:yJ K (.ref f58)=true)(z1:zJ K ao "isinstance" = some none)(z2:zJ K ao "bool" = some none)(z3:zJ K ao "int" = some none)(z4:zJ K ao "str" = some none)(z5:zJ K ao "tuple" = some none)(z6:zJ K ao "list" = some none)(z7:zJ K ao "len" = some none)(z8:zJ K ao "all" = some none)(z9:zJ K ao "abs" = some none)(z10:zJ K ao "max" = some none)(z11:zJ K ao "min" = some none)(z12:zJ K ao "range" = some none)(z13:zJ K ao "sorted" = some none)(z14:zJ K ao "ValueError" = some none)(z15:zJ K ao "sum" = some none)(m1_:zJ K ao "MOST_SIGNS" = some (some (.int 40 t1)))(m2_:zJ K ao "MOST_THINGS" = some (some (.int 4 t2)))(m3_:zJ K ao "MOST_DEEP" = some (some (.int 3 t3)))(m4_:zJ K ao "MOST_ROWS" = some (some (.int 4 t4)))(m5_:zJ K ao "FEWEST_BRANCHES" = some (some (.int 2 t5)))(m6_:zJ K ao "MOST_BRANCHES" = some (some (.int 4 t6)))(m7_:zJ K ao "HEIGHT" = some (some (.int 0 t7)))(m8_:zJ K ao "LEAST" = some (some (.int 1 t8)))(m9_:zJ K ao "GREATEST" = some (some (.int 2 t9)))(m10_:zJ K ao "MANY" = some (some (.int 3 t10)))(IjS:QF K jh "Shelf.__init__" Jj zEm)(IjT:QF K ji "Twig.__init__" IO zE4){ocjP kVjP dcjP pmjP cdjP ctjP:ai}{odjP anjP:jz}{sljP:Array (jd)}(iljP:K.lookup jP=some ⟨ocjP,odjP,.func (yG "__init__" "NoPlace.__init__" (Uj OD) (WT OD) (Za OD) .none kVjP dcjP pmjP anjP cdjP ctjP),sljP⟩)(icjP:wT K cdjP "NoPlace.__init__" = true)(ikjP:yJ K (.ref jP)=true)(Mm1:Z0 K jh "put_leaf" "Shelf.put_leaf" Iq zEz)(Mm2:Z0 K jh "put_stem" "Shelf.put_stem" Kt zEi)(Mm3:Z0 K jh "put_twig" "Shelf.put_twig" Ka zEy)(Mm4:Z0 K jh "holders" "Shelf.holders" Ij zEa)(Mm5:Z0 K jh "outside" "Shelf.outside" IA zEa)(Mm7:Z0 K jh "look" "Shelf.look" JM zEa)(Mm8:Z0 K jh "label" "Shelf.label" JT zEa)(Mm12:Z0 K jh "twig_of" "Shelf.twig_of" KH zEa)(Mm13:Z0 K jh "labels_of" "Shelf.labels_of" KY zEi)(Mm14:Z0 K jh "check_held" "Shelf.check_held" Jf zEi)(Mm15:Z0 K jh "take_over" "Shelf.take_over" Ii zE6)(Mm9:Z0 K jh "forget" "Shelf.forget" JC zEm)(Mm10:Z0 K jh "looked" "Shelf.looked" Jt zEm)(Mm16:Z0 K jh "numbers" "Shelf.numbers" IZ zEm)(Mm17:Z0 K jh "many" "Shelf.many" K5 zEm)(Mm18:Z0 K jh "road_up" "Shelf.road_up" Ji zEa)(Mm19:Z0 K jh "alone" "Shelf.alone" K6 zEa)(xCD:zJ K ao "Shared" = some (some (.ref CD)))(xCP:zJ K ao "NoPlace" = some (some (.ref CP)))(xCSh:zJ K ao "Shelf" = some (some (.ref jh)))(xCTw:zJ K ao "Twig" = some (some (.ref ji)))(vjP:zD K (.ref CP) "__init__" = some (some (.ref jP)))(mkCSh:tO K jh=true)(kpCSh:yJ K (.ref jh)=true)(pgCSh:uX K jh Str.empty=true)(hdCSh:vW K jh=true)(poCSh:tL K jh=true)(saCSh:zD K (.ref jh) "__setattr__" = some (some (.builtin "object.__setattr__")))(mkCTw:tO K ji=true)(kpCTw:yJ K (.ref ji)=true)(pgCTw:uX K ji Str.empty=true)(hdCTw:vW K ji=true)(poCTw:tL K ji=true)(saCTw:zD K (.ref ji) "__setattr__" = some (some (.builtin "object.__setattr__")))(na_kept:zD K (.ref jh) "kept" = some none)(na_following:zD K (.ref jh) "following" = some none)(na_looks:zD K (.ref jh) "looks" = some none)(na_things:zD K (.ref ji) "things" = some none)(na_tag:zD K (.ref ji) "tag" = some none)(na_above:zD K (.ref ji) "above" = some none)(na_holds:zD K (.ref ji) "holds" = some none)(tyCD:wZ K (.ref CD)=some (.type "type"))(mBCD:yB K CD (.type "BaseException")=some true)(wCP:xF K CP jP "at" = true)(tyCP:wZ K (.ref CP)=some (.type "type"))(mBCP:yB K CP (.type "BaseException")=some true)(sbPP:yB K CP (.ref CP)=some true):
  ∃ q:am,(∀(s:ak)(v:ai),BindsTo s q ⟨[v],[]⟩ [("_law_script",v)])/\∀ a:aE,K.In a->a.Ns ao mg->wI a cb0 tb0->a.BuiltinsAt mg tb0->ZI l.prog w K mg a ZQ 40 fa q zFk (VS tb0 K):=by
 let e:=hfa.symm.trans (yH X G a58);cases e;let T:YE mg:=⟨yC X G z1,yC X G z2,yC X G z3,yC X G z4,yC X G z5,yC X G z6,yC X G z7,yC X G z8,yC X G z9,yC X G z10,yC X G z11,yC X G z12,yC X G z13,yC X G z14,yC X G z15,⟨_,yH X G m1_⟩,⟨_,yH X G m2_⟩,⟨_,yH X G m3_⟩,⟨_,yH X G m4_⟩,⟨_,yH X G m5_⟩,⟨_,yH X G m6_⟩,⟨_,yH X G m7_⟩,⟨_,yH X G m8_⟩,⟨_,yH X G m9_⟩,⟨_,yH X G m10_⟩⟩;exists yG "law" "law" (Uj PD) (WT PD) (Za PD) .none kV58 dc58 pm58 an58 cd58 ct58,λs v=>.of_eq Z;intro a kb _ hC hB;let c:Yw K mg jh ji:=⟨(yH X G xCSh),(yH X G xCTw),⟨pgCSh,hdCSh,poCSh,saCSh⟩,⟨pgCTw,hdCTw,poCTw,saCTw⟩,na_kept,na_following,na_looks,na_things,na_tag,na_above,na_holds⟩;let J:XN l.prog w K mg a "NoPlace" CP "at" :=⟨⟨jP,_,ZQU wCP,ZF8 (Qd (st:=OD) iljP icjP ikjP),(Qd (st:=OD) iljP icjP ikjP).binds λ_ _ _ _ _ _ L hl=>match L,hl with | [_,_],_=>rfl⟩,(yH X G xCP),tyCP⟩
 let l1:XD K mg CD:=⟨(yH X G xCD),tyCD,mBCD⟩;let a9:Us l.prog w K mg a 1 jh zEm (QW jh):=by let⟨f,q,v,fn,F,b⟩:=IjS.ex;exact⟨f,q,⟨mkCSh,v,fn,kpCSh⟩,B0 F c,b⟩
 let c0:Us l.prog w K mg a 1 ji zE4 (Qk ji):=by let⟨f,q,v,fn,F,b⟩:=IjT.ex;exact⟨f,q,⟨mkCTw,v,fn,kpCTw⟩,ZO7 F c,b⟩
 let d:ZG l.prog w K mg a ZQ 1 jh "twig_of" zEa (YB jh):=Mm12.of λ_ _ F=>ZJh F c;let H:ZG l.prog w K mg a ZQ 2 jh "outside" zEa (Xn jh ji λ_ ho _=>.int ho):=Mm5.of λ_ _ F=>Bj F c d;let D:ZG l.prog w K mg a ZQ 2 jh "label" zEa (Xn jh ji λtg _ _=>tg):=Mm8.of λ_ _ F=>B5 F c d;let C:ZG l.prog w K mg a ZQ 2 jh "holders" zEa (Xn jh ji λ_ ho L=>.int ((L.length:Nat)+(ho:Nat):Int)):=Mm4.of λ_ _ F=>ZH7 F T c d;let a4:ZA l.prog w K mg a 1 "is_stem" ["twig"] (V8 ji):=L31.of λ_ _ F=>ZNq F T c;let i2:ZG l.prog w K mg a ZQ 2 jh "look" zEa (UM jh ji):=Mm7.of λ_ _ F=>ZNs F T c d a4;let p:=ZNW i2;let j:=ZLs D;let B:ZG l.prog w K mg a ZQ 1 jh "forget" zEm (Yz jh ji):=Mm9.of λ_ _ F=>ZJR F c;let E:ZG l.prog w K mg a ZQ 1 jh "looked" zEm (Y1 jh ji):=Mm10.of λ_ _ F=>BY F T c;let i5:ZG l.prog w K mg a ZQ 1 jh "numbers" zEm (Xa jh ji):=Mm16.of λ_ _ F=>Ds F T c;let i4:ZG l.prog w K mg a ZQ 1 jh "many" zEm (UH jh ji):=Mm17.of λ_ _ F=>ZNH F T c;let i9:ZG l.prog w K mg a (Vi l.prog w) 3 jh "road_up" zEa (WC jh ji):=Mm18.of λ_ _ F=>Ci F c C d;let i0:ZG l.prog w K mg a ZQ 4 jh "alone" zEa (WD jh ji):=Mm19.of λ_ _ F=>Br F c l1 i9;let I:ZG l.prog w K mg a ZQ 3 jh "put_twig" zEy (Y0 jh ji):=Mm3.of λ_ _ F=>ZIV F c c0;let l0:ZG l.prog w K mg a ZQ 2 jh "take_over" zE6 (XL jh ji):=Mm15.of λ_ _ F=>ZGA F c d;let i3:ZG l.prog w K mg a ZQ 3 jh "labels_of" zEi (Yx jh ji):=Mm13.of λ_ _ F=>BD F c D;let i1:ZG l.prog w K mg a ZQ 3 jh "check_held" zEi (Yh jh ji):=Mm14.of λ_ _ F=>ZEa F c H;let i:ZA l.prog w K mg a 1 "_law_pull" zEc (Zp):=L33.of λ_ _ F=>ZN3 F;let DW:ZA l.prog w K mg a 1 "_law_well" zE1 (VA K):=L32.of λ_ _ F=>AU F T;let DG:ZA l.prog w K mg a 2 "_law_great" zEs (Zp):=L34.of λ_ _ F=>ZLt F T i;let DT:ZA l.prog w K mg a 2 "_law_text" zEq (WJ):=L35.of λ_ _ F=>ZN5 F T i;let DN:ZA l.prog w K mg a 1 "has_few_figures" zFi (UW):=L4.of λ_ _ F=>CQ F T;let e3:ZA l.prog w K mg a 1 "is_sign" ["sign"] (Wy):=L5.of λ_ _ F=>C4 F;let a2:ZA l.prog w K mg a 6 "is_key" zE2 (WH):=L1.of λ_ _ F=>ZL3 F T (Gq T L3 DN e3 4);let a3:=ZK8 a2;let R:ZA l.prog w K mg a 7 "checked" zE2 (Vo):=L2.of λ_ _ F=>ZIM F a3;let e6:ZA l.prog w K mg a 6 "standing" zFh (UP 5):=Hv T L8 5;let g:ZA l.prog w K mg a 7 "ahead" zEx (Yk):=L6.of λ_ _ F=>B2 F e6;let e0:ZA l.prog w K mg a 8 "rise" ["keys"] (VR):=L11.of λ_ _ F=>ZNN F T g;let c3:ZA l.prog w K mg a 8 "own_rows" zE5 (Xe):=L10.of λ_ _ F=>Ar F R;let S:ZA l.prog w K mg a 9 "checked_rows" zE5 (WL):=L9.of λ_ _ F=>ZKU F T c3 e0;let a8:ZA l.prog w K mg a 1 "label_of_rows" zE5 (Xd):=L12.of λ_ _ F=>ZHx F T;let i6:ZG l.prog w K mg a ZQ 10 jh "put_leaf" zEz (XI jh ji):=Mm1.of λ_ _ F=>ZGV F c S a8 I;let i7:=ZIA i6;let e4:ZA l.prog w K mg a 8 "stand_side_by_side" zE8 (V9):=L14.of λ_ _ F=>ZNu F T g;let c2:ZA l.prog w K mg a 9 "label_over" ["labels"] (VY):=L13.of λ_ _ F=>Bv F T e4;let i8:ZG l.prog w K mg a ZQ 10 jh "put_stem" zEi (Z8 [] jh ji):=Mm2.of λ_ _ F=>B6 F T c i3 c2 i1 I l0;let c4:ZA l.prog w K mg a 8 "place_in" zFj (VT K):=L7.of λ_ _ F=>AL F T g;let k:ZA l.prog w K mg a 1 "is_leaf" zFf (YZ):=L21.of λ_ _ F=>ZI2 F;let O:ZA l.prog w K mg a 2 "branch_at" zFe (XJ):=L20.of λ_ _ F=>C7 F k;let c6:ZA l.prog w K mg a 9 "place_within" zFa (WE [] jh ji):=L19.of λ_ _ F=>Bd F T c k c4 g j;let u:ZA l.prog w K mg a 8 "check_asked" zEb (YI jh ji):=L18.of λ_ _ F=>ZEm F c j R;let A:ZA l.prog w K mg a 10 "steps_to" zEb (X4 [] jh ji):=L17.of λ_ _ F=>ZLn F c u p c6 O;let o:ZA l.prog w K mg a 3 "rows_under" zEo (XS jh ji):=L30.of λ_ _ F=>ZLT F T c j;let Q:ZA l.prog w K mg a 4 "branch_with" zE9 (Xh jh ji):=L23.of λ_ _ F=>ZIR F o;let y:QZ l.prog w K mg a 6 "nth" zEl (Um [] jh ji CP):=L22.ofD λ_ _ F=>Bx F c J o p k Q;let c8:ZA l.prog w K mg a 4 "rows_ahead" zFg (W0 [] jh ji):=L25.of λ_ _ F=>ZL7 F T k o;let m:ZA l.prog w K mg a 11 "place_of" zEb (YL [] jh ji):=L24.of λ_ _ F=>ZIC F T A c8;let DK:ZA l.prog w K mg a 6 "_law_key" zEg (XC 4):=GW T L36 i DG DT 4;let n:ZA l.prog w K mg a 6 "_law_rank" zEt (Yq 5):=ES T L37 5;let e5:ZA l.prog w K mg a 9 "_law_sorted" zFd (WS w):=L38.of λ_ _ F=>Bu F T n;let a7:ZA l.prog w K mg a 9 "_law_keys" zEc (UT):=L39.of λ_ _ F=>ZNg F T DK n;let U:ZA l.prog w K mg a 2 "_law_cut" zEj (Uk):=L40.of λ_ _ F=>ZOb F T i;let c5:ZA l.prog w K mg a 11 "_law_plant" zEr (VQ [] jh ji):=L41.of λ_ _ F=>CN F T c i U i8 i7;let c9:ZA l.prog w K mg a 3 "_law_reached" zEp (Xf w [] jh ji):=L42.of λ_ _ F=>BS F T c p;let DV:ZA l.prog w K mg a 7 "_law_value" zEq (VC):=L45.of λ_ _ F=>Cs F i DK;let M:ZA l.prog w K mg a 7 "_law_any_key" zEu (WB):=L46.of λ_ _ F=>ZIa F T i DK;let a0:ZA l.prog w K mg a 10 "_law_ground" zE0 (WN w):=L47.of λ_ _ F=>ZJW F i a7 DV;let e8:ZA l.prog w K mg a 12 "_law_trees" zE3 (VN w [] K jh ji):=L48.of λ_ _ F=>Cp F T i DW a0 e5 c5 c9;let a5:ZA l.prog w K mg a 1 "_law_known" zFc (VM):=L49.of λ_ _ F=>ZLG F;let r:ZA l.prog w K mg a 7 "_law_alike" zEe (Ya 6):=FL T L43 6;let e1:ZA l.prog w K mg a 8 "_law_rows_alike" zEe (WR):=L44.of λ_ _ F=>ZJe F T r;let z:ZA l.prog w K mg a 7 "row_at" zEl (X6 [] jh ji):=L28.of λ_ _ F=>Be F J mBCP sbPP y;let Y:ZA l.prog w K mg a 12 "from_key" zEb (XY 0 [] jh ji):=L26.of λ_ _ F=>ZNT F m z;let P:ZA l.prog w K mg a 12 "before_key" zEb (XY (-1) [] jh ji):=L27.of λ_ _ F=>ZJX F m z;let c1:ZA l.prog w K mg a 12 "many_between" zEw (VX [] jh ji):=L29.of λ_ _ F=>ZLC F u R g m;let e9:ZA l.prog w K mg a 11 "value_of" zEb (Xi [] jh ji):=L15.of λ_ _ F=>ZHz F A;let a1:ZA l.prog w K mg a 3 "height_of" zEo (XF jh ji):=L16.of λ_ _ F=>ZGJ F T c j;let t:ZA l.prog w K mg a 1 "_law_below" zEd (X1 w []):=L50.of λ_ _ F=>ZL2 F T;let a6:ZA l.prog w K mg a 10 "_law_known_of" zEd (Xg w [] tb0):=⟨f51,_,ZHy (Qd (st:=Qr) l51 c51 k51) a51 hta hC hB T t n,(Qd (st:=Qr) l51 c51 k51).binds λ_ _ _ _ _ _ L hl=>match L,hl with | [_,_],_=>rfl,k51,yH X G a51⟩
 let e2:ZA l.prog w K mg a 2 "_law_root" zEv (UG w []):=L52.of λ_ _ F=>Bl F T i t;let x:ZA l.prog w K mg a 1 "_law_height" zEd (XQ w []):=L53.of λ_ _ F=>ZIz F T;let V:ZA l.prog w K mg a 8 "_law_due" zEn (QC []):=L54.of λ_ _ F=>B8 F T n;let e7:ZA l.prog w K mg a 13 "_law_told" zEf (UU [] jh ji):=L55.of λ_ _ F=>ZOB F y m Y P c1 e9;let N:ZA l.prog w K mg a 14 "_law_asked" zEh (VU w [] jh ji tb0):=L56.of λ_ _ F=>AI F T c a6 V x B e7 E e1 r;let c7:ZA l.prog w K mg a 5 "_law_quiet" zEk (VF jh ji):=L57.of λ_ _ F=>ZLr F T c B E a1 j C i0 H i4 i5;exact ZO6 (Qd (st:=PD) l58 c58 k58) T c a9 DW i e8 a5 e2 M x N c7
def N5{o:Option (aj×aj)}{x:aj×aj}(h:o=some x):o.isSome=true:=by rw[h];rfl
def walk{l:tP}{q:al}{g:jt}{y:(jc)->aE->Prop}{r:ax->aE->Prop}{d:DefRec}{K:Params->zZ}(D:l.most=some 63)(o:d.params.defaults=[])(B:∀ (w:ax) (h:aE),r w h->(K w.params).In h)(i:((recsOf q).find? (λe=>e.name==(("_law_known_of" : String):Str))).isSome=true)(j:∀ w:ax,(xK (K w.params) "_law_known_of").isSome=true)(p:∀ w:ax,sJ (K w.params)=true)(F:∀ (w:ax) (m:jc) (t:aj) (h:aE) (c T:aj),(K w.params).In h->h.Ns ao m->m d.name=some (.ref t)->xK (K w.params) "_law_known_of" = some (c,T) ->
   ∃ v:am,(∀ (s:ak) (u:ai),BindsTo s v ⟨[u],[]⟩ [("_law_script",u)])/\∀ b:aE,(K w.params).In b->b.Ns ao m->wI b c T->b.BuiltinsAt m T->ZI l.prog w (K w.params) m b ZQ 40 t v zFk (VS T (K w.params))):
  sP q g y r l.row.toRowW d [] (λf G=>PySem.call f G):=
 L2.NK (n:=63) (k:=40) (x:= "_law_script") (px:= "_law_known_of") (sp:=λT K=>VS T K) D (by decide) o ⟨rfl,by decide,by decide⟩ B (Option.some_get i).symm (λw=>⟨_,_,((Option.some_get (j w)).symm.trans (by rfl))⟩) p F (λ_ _ _ a E C A z=>⟨a,E,Z,z,C,A,λ_=>rfl⟩)
end Tw
open PySem PySem.W PyProof.Rows
namespace PySem.W.Fast
local macro_rules|`(universe $x*)=>return .node .none `null (←x.mapM λi=>`(def $i:ident:=0))
universe tw10028458671708585369 tw10044757394826011073 tw10045393832314482275 tw10068958688674889696 tw10076066292845185285 tw10080733873952032794 tw10113845981533042986 tw10145256806084039267 tw10158503293494958694 tw10162025152941058982 tw10168573574964809241 tw10190274354374693405 tw10198334318132907875 tw10279293458062729757 tw10315592242712807458 tw10317197082831644304 tw10376876328035850130 tw10400597795558295946 tw10434135847384228385 tw10436728178245115714 tw10481672264317592689 tw10505862950600662536 tw10510083281651155982 tw1053600458993541657 tw1055761340774232984 tw10558466221307355329 tw10562571198842283917 tw10569041520536422252 tw10599665481563538723 tw10634517508438982564 tw10668720554150194913 tw10675941602957827621 tw10681889522361708872 tw10749867969459571751 tw10758460385258784462 tw10780460776247104069 tw10790581106488578887 tw10808757357417923894 tw10830063340786535124 tw1083580174101434160 tw1086511433923459292 tw10879687742480647936 tw10947140740857277401 tw10966695336741741745 tw10977859296532249223 tw11000301549714208939 tw11004661636272776623 tw11023615036619368433 tw11049558218454317781 tw11102203958679210147 tw11109934594181733532 tw1113519556865943547 tw11150099732378972767 tw11153582260890228106 tw11204122927749156434 tw11213130509266858306 tw11235930605753790576 tw11258258662005283509 tw11277978727043533557 tw11278106353006101982 tw11291263621105383666 tw11320488434145792990 tw11326933497688991826 tw11359190452943590480 tw1139215111356671265 tw11408955108945077042 tw11417169300148501447 tw11430704499433571436 tw11453240387524342097 tw11457464328565141744 tw11513674459893143991 tw11532483774813307 tw11597986488920660290 tw11624514938031715232 tw11655296303191181308 tw11657072717947280299 tw11659968357972400332 tw1169456788181667752 tw11717707515654526501 tw11731389928947110724 tw11757282253336941820 tw11760219704404685255 tw11774846666539014206 tw11782416370330072700 tw11810123390573969048 tw11853188689481259964 tw11856372221075101175 tw11863407186747995818 tw1187386693200507994 tw11885273381435842519 tw11909345596026703526 tw1192212135070893669 tw11934325647429086158 tw11964239141899443078 tw12000852309478911909 tw12010916391450041847 tw12027760374846121225 tw12056989052204127476 tw12103107816332136951 tw12126507165701092601 tw12137611510821325972 tw12145011547457320434 tw12152909138324851187 tw12215751838940972103 tw12250159935220191695 tw12257677491605666463 tw12267475369725145278 tw12279278330152414863 tw12282410870016817793 tw12303443497388491096 tw12314554782462865960 tw12316384102996586598 tw12317536590784960600 tw12396051392273117622 tw12404834135350878900 tw12405890073883513976 tw12411077108297574318 tw12450915720058835762 tw12461980634942950583 tw12473405838441806045 tw12476155536045384133 tw12511772740718690550 tw12530651098107993393 tw12538696005646756144 tw12558093963261921273 tw12593857635557521536 tw12610087189838022830 tw12614327485732796425 tw12643062258670669177 tw12666602073097321455 tw12673516634141651329 tw12693807551844579828 tw12713799314710777545 tw12721796994663491422 tw12726625338165982910 tw12736033143825741100 tw12763211049841981660 tw1276392625458972328 tw12811596572365653844 tw12818485586883601145 tw12843399782372228369 tw12852527492349695158 tw12860655880368056040 tw12860676621219095690 tw12870164302405937184 tw12890102098857411681 tw12918773507036428393 tw12932783288053401987 tw12947779162316556084 tw13050700487937719813 tw13055623640118692362 tw13066707609777318825 tw13095115130098475084 tw13123865638737718122 tw13143093109674243833 tw13184710282976974787 tw13192585217145131795 tw13256574504797829272 tw13258788549234714076 tw13260196410994228658 tw13267051917238331506 tw13296207905013719160 tw13321707479057993204 tw13357630297285973817 tw1337793241962661741 tw13382944164468131923 tw13401521234713292687 tw13408532221133884211 tw13412277546649721465 tw13454579597287887545 tw13478837159879865713 tw13574204128973757560 tw13588878578174037510 tw13589080226414365914 tw13602538909408179316 tw13620348911063813900 tw13637927978523515855 tw13642844908173746417 tw13655381138084899129 tw13660731616409918591 tw13668853089599587934 tw1367933440558256296 tw13730090331704428135 tw137310061284350565 tw13741205108271222422 tw13790583861230667738 tw13795462489671489776 tw13796872412679166949 tw13813377850838776516 tw13828179326384803213 tw13840471815019943646 tw13858189909976216133 tw13861200689697614937 tw13865621783431648811 tw13877082137927179875 tw13917755868660979077 tw13933437099407022438 tw13955634638101675686 tw13958029919001084910 tw1396333705086603892 tw13968971300935909979 tw13973585682170460539 tw13990410033421824869 tw13996764823406927234 tw14043447088561671746 tw14054049586193310276 tw14076563095021305351 tw14080004117484441156 tw14084322901747437447 tw14097727783555089389 tw14098529824079682825 tw14103796833876497357 tw14113010306414833602 tw14192508238987144527 tw14207555783911530527 tw14222242923061055434 tw14250036664555768345 tw14252466356883739301 tw14259278999699059512 tw14260795021184161227 tw14269025347842687605 tw14290684993850258592 tw14291715058455628623 tw14341733277357682475 tw14356915470572228604 tw14378257775078179276 tw14411331789263842959 tw14414126167040410952 tw1443565566957184056 tw14460447051484762941 tw1448098283293444069 tw14502491878660919954 tw14520618986055234916 tw14522909726650121437 tw14522991523664163856 tw14542062733689994917 tw14544433137456469130 tw14573776768550215068 tw14576612978363253956 tw14593446559555496586 tw14624069857518449500 tw1464445194357633680 tw14649931573026782215 tw14655328484574056382 tw1465929332552993729 tw14712044466453586909 tw1471554506996691738 tw14733597489937303930 tw14787037056833983269 tw14822336794987496095 tw14863429466440670389 tw14873196934230825212 tw14896021890282083286 tw14903185221000562174 tw14923029145456059117 tw1494429251354058724 tw14971542360571012486 tw14979094492805591770 tw15014176402135381947 tw15026461352919602102 tw1505274646318348525 tw15110759990621335641 tw15123277399628503455 tw15142702336668121102 tw15157832291944473907 tw15161730153484514019 tw15164486408106072707 tw1517546678987231470 tw15242800897155089699 tw15248893596614464126 tw15257603729865731144 tw15298137007454508832 tw15306508095678780314 tw1531598947591328236 tw1531878794400697274 tw15324652827630040896 tw15364723320956520295 tw15416625402139947518 tw15457193895513784319 tw15471071519989625055 tw15499887705937948958 tw15507953650878944550 tw15576619998386907205 tw15619374408857449792 tw15651942595874776506 tw15654593027385291501 tw1568000139205150410 tw15688904345573077362 tw1570109253994666049 tw15701592688507918894 tw15777248742833371458 tw15787345358969636683 tw1581108188276697755 tw15813278117121672218 tw15835547065606324456 tw15858225637229427462 tw15867290866104104415 tw15876599867935746836 tw15892850505885335221 tw15893217353646904334 tw15898430876327019344 tw15929920823388705590 tw15935680767362130826 tw15945083863608868774 tw15979521262964614929 tw15983073205911091908 tw15984845545548300837 tw16007870789455280543 tw16012099935864667163 tw16024734817347023066 tw16032722766757917449 tw16046772049428095765 tw16073734364979607942 tw16074118238988884836 tw16108229676591966495 tw16108422628988583473 tw16110618206089205293 tw16123348088242557807 tw1615423172338883501 tw1616847177772884346 tw16170780087967223010 tw16206526849511436725 tw16239858735306920750 tw16240760320711225384 tw162833347049407069 tw16285478055381468457 tw16326466557776445146 tw16334048804901293349 tw16349247278485480953 tw16352324374729881920 tw16354347194520189936 tw16360841608458105352 tw16376890644847657755 tw16425204986398552059 tw16427002995294587094 tw16427401765936791343 tw16453424986288760540 tw16473527765706967766 tw1651091210985749056 tw16520330862208822514 tw1654048741153396635 tw16552235017760140539 tw16619322345896648234 tw1662181224372271774 tw16636951022051387716 tw16675482899786515637 tw16742897641437322691 tw16756506399139387678 tw16797145747184534318 tw1679991085272267613 tw1680787570666974208 tw16825754331430958461 tw16923299543189758907 tw16973590461111331178 tw16991779865152628364 tw17010022539800273695 tw17016611568543089651 tw17019653037942182018 tw17030516989255886368 tw17037817893823693395 tw17052435326362197845 tw17060314999872688458 tw17064384636104133758 tw17088671739015494484 tw17127587693322740960 tw17134066328823746635 tw17139807967902761705 tw17156462311926225183 tw17165839993248024413 tw17194581671233238489 tw17219121488929752474 tw17275598564970111030 tw1729312921782567208 tw17297550047004210839 tw17302945401479042174 tw1732324811851023536 tw17336448273581638564 tw17352465199617438756 tw17406486222562807877 tw17408484209330804868 tw1742848065064436336 tw17441010171829616429 tw17474859174454347259 tw17525835209007120001 tw17536510021509583428 tw17559586504077217529 tw17603435297904443445 tw17612512188474282943 tw17644294595466244731 tw17674803455115239630 tw17682999762005470314 tw176980804992500886 tw17777692278397187445 tw17800736311151987935 tw17821007700154171328 tw17854432796032998679 tw17875166735118456056 tw17878491735775358704 tw17901855101891765802 tw17992152119849150817 tw18010858141050808612 tw18040025336071737823 tw18053176202902796357 tw18071215104126093313 tw18083292167807091628 tw18092939157785756857 tw1811379071634494385 tw18146479650243790496 tw18151185661024120035 tw18157916079315965405 tw18202179857811929690 tw18210875848699931845 tw18230895331830572446 tw18249047222825670423 tw18269710100079188406 tw182994951859120419 tw18320513261253028000 tw18369188204111683921 tw1840526900903802263 tw18429734759432459998 tw1849973127020862446 tw1853446102658359129 tw1865172686807715225 tw186532686628702706 tw1916691931759634116 tw192224102412570084 tw1924297162053904300 tw1927389208636857288 tw193888336787661794 tw1957437687718689009 tw1984080406485337304 tw2009307001173540349 tw2018440399731705649 tw2021792815540577113 tw2027771916895140458 tw2032881836416443334 tw2034489298084816705 tw2034506460045492227 tw2054719871165174050 tw2074700000202172665 tw2080717548684914507 tw2085718025467418276 tw2093489995078210206 tw2134967030372655839 tw2151629420922478762 tw2177390600624325733 tw2184525118683535302 tw2207829024032080452 tw2209058798816129692 tw2224210833147244250 tw2241399768510952996 tw2304985959924823636 tw2317031425557313161 tw2343899357751395465 tw2352105320690008415 tw2399113854047069882 tw2407231408489586353 tw2421503140677597591 tw2495663640007219818 tw2605095454125160574 tw2684360902327143592 tw2745584431675122752 tw2748366134980511303 tw2750757199807983014 tw2772634269897649522 tw2774789216043784528 tw2829907377574861509 tw2850254867578075517 tw2854394301183365607 tw2871574348704407924 tw2871645467602283915 tw2883333318818032699 tw2892759244353015909 tw2914957148801405958 tw2939434580678551410 tw2941825303196684800 tw2967296155521296612 tw2978163407687602883 tw3051631042051646326 tw3062207794343767872 tw3062551458839366079 tw3076459361472582659 tw3146158235561770839 tw315154856786459064 tw3152723890617800065 tw3172121568345376715 tw3191461009283166648 tw322688526864900729 tw3227545908402040078 tw324990348403587790 tw3249998164098849993 tw3270790109931048138 tw3295941712917029977 tw3312338269960553972 tw3316861116679421596 tw3334829272409047300 tw3356198877115686100 tw3374203605812205195 tw3452536174347454331 tw3471455795626816857 tw3507618124551204472 tw350970829367562601 tw3516458297687440897 tw3578506602847629565 tw3581027918801874630 tw3584720646112289048 tw3606865312763357169 tw3644203511313401649 tw364802825987759733 tw3652091047363233324 tw3654771978406044840 tw3658822688394962659 tw366994849780213370 tw368584278065934218 tw3786791195533365231 tw3801783017791021263 tw3841440031316431277 tw3844304033586572036 tw3856736842841928931 tw3871348766990004368 tw389259454594998411 tw3902334563396608721 tw3929070820921641799 tw3953098827651352536 tw3965694056001472462 tw3967092357344862240 tw3974810943803167869 tw398017460115834556 tw4009467994465966893 tw4020967001850930589 tw4031302486327830008 tw4039148796094797601 tw4049152912009987198 tw4050073109309792164 tw4103499604099217952 tw4149428143407098320 tw4159074470537262438 tw4159962866226433898 tw4175921050266807284 tw4183574829588303130 tw4184638948126620189 tw4194105131969082924 tw4208574797816695255 tw4239104271357252982 tw4241510923766747559 tw4250156296181964819 tw4252399259889661423 tw4259180233366136085 tw4273266396912362861 tw4300664880983239086 tw4302974551022009960 tw4309014607735302644 tw4309818620850094041 tw4320833389367041090 tw4343107205778085935 tw4347655695762381379 tw4381211792972361047 tw4389274724136205295 tw4391845400563834520 tw4392736787832529285 tw4411911089336946735 tw4495918082659274514 tw4503327936368608941 tw457098769267779815 tw4573934732082926566 tw4591785046349831331 tw4612089022810815355 tw4625609412553928135 tw4641681142709345243 tw4661615132364427625 tw4686995908765003448 tw4693966912117598171 tw4731410867049779359 tw4736260734826104791 tw4764139302857407185 tw4775724675402013768 tw4794419461345166692 tw480092619908949464 tw4818460513043560748 tw4852778242115301284 tw4914805494343835666 tw4965501849030934404 tw4967688015078513852 tw4989527396939427628 tw5006343216306257104 tw5023895479218495651 tw5030163420293735981 tw5048363612631709307 tw506456485570389647 tw5075128815291764392 tw5089090038719656020 tw5097912731777067770 tw5111774342609805689 tw5145325696630926009 tw5165091551207050242 tw519788273282930291 tw5227600699960452524 tw5235953958419248031 tw5235955199969666747 tw5244260874073574288 tw5253705117639978653 tw5261321678474637551 tw5263980184755913592 tw5267098761962165118 tw5285832307076670521 tw5288786650537952961 tw5289499463172025263 tw5303457397853256232 tw5308016068821013324 tw5333181572188944574 tw5362712094810040395 tw5368433578902097232 tw536868765638805033 tw5393244307177866446 tw5434365445657291934 tw5448448768382064726 tw547335512478356367 tw5490737781610418209 tw551852683551424544 tw5519398092575048723 tw5525395727677618749 tw5543434751376539659 tw5545035925473785339 tw5553377431190367584 tw5562696187898023780 tw5592231440108745627 tw5609857136836683220 tw5635114839545737818 tw563584114193966939 tw5638531539508373963 tw5653018239360179619 tw5656782312626397764 tw5690816764602303180 tw5702391348882831096 tw5713788521047754843 tw5737727538106920858 tw5758338957029793338 tw5773967857901105709 tw5776163966987610595 tw5873345381704558375 tw5876373061479922457 tw5895322650673887633 tw5904982656792799335 tw5925529636590158769 tw5928964204635613075 tw5934096352509407648 tw5935579799260808603 tw5949068229264431095 tw6016490144164266182 tw604473065808013769 tw6046890632555665392 tw6088354814831036531 tw6098641629114442863 tw6153796375349120901 tw6171952031544749017 tw6185728450468240516 tw6206563420483480268 tw6216218043666298045 tw6247997336635576110 tw6324643690574207900 tw6352714456499650952 tw6355009514143019375 tw6366743853504269519 tw6381482284484641861 tw6381885766952748706 tw6383231468216017679 tw6397872054085984106 tw6398442301944095507 tw6403048380159907677 tw6405306924929754781 tw641207277534087472 tw6460239328313130048 tw6462297662149611198 tw6463111062082019199 tw6507424074868878889 tw6520848892819487771 tw6612212690729139417 tw6662541930527124202 tw6686511849455980085 tw6692859540061436768 tw6735883093669896623 tw6765720458899405320 tw6780221952961367254 tw6818708670930491094 tw6823943129949334152 tw6828753369053281993 tw6830089410327149743 tw6833556859200545799 tw6836169564620480642 tw684466209746633267 tw6863761312073448868 tw6869449173238632875 tw6872248894275572886 tw6877844917872204854 tw6882696893930291444 tw6912761337196892613 tw6937487603439308646 tw6953557410693825587 tw6964164106108311933 tw706322194787126597 tw7065422301859789896 tw7091484926063612001 tw7112347588120862596 tw7120692311927450388 tw7127531363596458713 tw7139185409697575585 tw714449607411714975 tw7172045831392475857 tw7208287282313930116 tw7236648866570464929 tw7255205412032468329 tw7255746374992745297 tw7315965783123243184 tw7370004476013985236 tw7385263926971288726 tw7410279621195956434 tw7414152649684999601 tw7429701531505266423 tw7457447783065467066 tw749473469605398564 tw7497884645952054713 tw751163643131469725 tw7534381305399855239 tw7535067735775457107 tw7540028758420618071 tw7543071855494742985 tw7547597939524057560 tw7601362315643316131 tw7621227353476408921 tw7624599909316411179 tw7636848985336633815 tw7644645806543295754 tw7675569186413771997 tw7711325745184243873 tw7724011891172831463 tw7797026491643868948 tw7874589998623156614 tw7918775329987462399 tw7918896636355405929 tw7937696484671314 tw7938639506933200356 tw7940787948772983529 tw7952086339419160707 tw7952308236687188996 tw8034939292540324243 tw8087007283097004454 tw8097484295538798334 tw8105891833601150758 tw8109655173755328345 tw8115274987911689554 tw8140753734713085969 tw8159056274042379894 tw8167100194140737062 tw8218661164214384468 tw8223071341271894552 tw8237252905864016249 tw8265751553804507999 tw8266980213999305937 tw8275087861167397264 tw8304047252463345919 tw8325626245166797872 tw8343681389227607481 tw8364395474732261196 tw8422260391850479626 tw8432305562053254627 tw8440423726858823175 tw8511133695120521285 tw8529609997549053673 tw8596504465656848972 tw8599369696114319449 tw8645828827560761650 tw8651655418850920407 tw8653762696079384755 tw8740363598425009618 tw8747909922899263966 tw876943234685364124 tw8779772291343258844 tw8815369006027733942 tw8828131341653441323 tw8833618807693447361 tw8865380054399739434 tw8904600923098621124 tw8919158099696528921 tw8938488988360229231 tw9008943370371743151 tw9009118629164802713 tw901700782334106578 tw906274322432734250 tw90705878700470497 tw9118167239558949460 tw9130393095590653134 tw9204910224771560128 tw9224200347377696785 tw9251947359257098657 tw9259915112677600902 tw927903131695691360 tw9304621095069365019 tw9316862524057100995 tw93562145702840523 tw9373648673329704887 tw9382556936007597247 tw9383912830991101855 tw940880773812491263 tw9414197360070369876 tw9430363228336245098 tw9467825860105764640 tw9469274980950248002 tw95256330267054188 tw9531913996085919310 tw9574163380538514609 tw957945060727609046 tw9625727743260947568 tw9627315730831511289 tw9640786167235277910 tw9687258137842067542 tw9697382251441292507 tw9698793881085745747 tw9719406470266449535 tw972320143582860413 tw9725119639455165063 tw9785476064802136589 tw9794438022283650771 tw9796188766379128123 tw9808086031319992726 tw9810029649675157836 tw9812399896606806045 tw9861446508158993027 tw9879021763584729098 tw9965769687888496308
end PySem.W.Fast
set_option maxRecDepth 100000 in
set_option maxHeartbeats 0 in
theorem PySem.Challenge.cw_twigmap_k35_looks_counted_holds : PySem.Challenge.rw_twigmap_k35_looks_counted.Holds := by
 w_on;o_law;k_head;(case hw=>w_witness2)
 k_fill
 refine Tw.walk (l:=PySem.Challenge.rw_twigmap_k35_looks_counted) Z Z (λw h Y=>PySem.W.km_in_of Y) ?qRec ?qTab ?qNot ?qFun
 case qRec=>first | kernel_rfl | exact rfl
 case qTab=>
  intro w
  first | kernel_rfl | exact Tw.N5 (Tw.Jn (by k_is) (by k_is) rfl (by k_is) rfl)
 case qNot=>intro w;kernel_rfl
 case qFun=>
  intro w mg fa h cb tb KX G hmg hta;refine' Tw.JN KX G hmg hta (Tw.Mr KX G ?a1 ?l1 ?c1 ?k1 (λ_ _ _ _ _ _ us hl=>match us,hl with | [_],_=>rfl)) (Tw.Mr KX G ?a2 ?l2 ?c2 ?k2 (λ_ _ _ _ _ _ us hl=>match us,hl with | [_],_=>rfl)) (Tw.Mr KX G ?a3 ?l3 ?c3 ?k3 (λ_ _ _ _ _ _ us hl=>match us,hl with | [_,_],_=>rfl)) (Tw.Mr KX G ?a4 ?l4 ?c4 ?k4 (λ_ _ _ _ _ _ us hl=>match us,hl with | [_],_=>rfl)) (Tw.Mr KX G ?a5 ?l5 ?c5 ?k5 (λ_ _ _ _ _ _ us hl=>match us,hl with | [_],_=>rfl)) (Tw.Mr KX G ?a6 ?l6 ?c6 ?k6 (λ_ _ _ _ _ _ us hl=>match us,hl with | [_,_],_=>rfl)) (Tw.Mr KX G ?a7 ?l7 ?c7 ?k7 (λ_ _ _ _ _ _ us hl=>match us,hl with | [_,_],_=>rfl)) (Tw.Mr KX G ?a8 ?l8 ?c8 ?k8 (λ_ _ _ _ _ _ us hl=>match us,hl with | [_],_=>rfl)) (Tw.Mr KX G ?a9 ?l9 ?c9 ?k9 (λ_ _ _ _ _ _ us hl=>match us,hl with | [_],_=>rfl)) (Tw.Mr KX G ?A0 ?A1 ?A2 ?A3 (λ_ _ _ _ _ _ us hl=>match us,hl with | [_],_=>rfl)) (Tw.Mr KX G ?A4 ?A5 ?A6 ?A7 (λ_ _ _ _ _ _ us hl=>match us,hl with | [_],_=>rfl)) (Tw.Mr KX G ?A8 ?A9 ?Aa ?Ab (λ_ _ _ _ _ _ us hl=>match us,hl with | [_],_=>rfl)) (Tw.Mr KX G ?Ac ?Ad ?Ae ?Af (λ_ _ _ _ _ _ us hl=>match us,hl with | [_],_=>rfl)) (Tw.Mr KX G ?Ag ?Ah ?Ai ?Aj (λ_ _ _ _ _ _ us hl=>match us,hl with | [_,_],_=>rfl)) (Tw.Mr KX G ?Ak ?Al ?Am ?An (λ_ _ _ _ _ _ us hl=>match us,hl with | [_,_,_],_=>rfl)) (Tw.Mr KX G ?Ao ?Ap ?Aq ?Ar (λ_ _ _ _ _ _ us hl=>match us,hl with | [_,_],_=>rfl)) (Tw.Mr KX G ?As ?At ?Au ?Av (λ_ _ _ _ _ _ us hl=>match us,hl with | [_,_,_],_=>rfl)) (Tw.Mr KX G ?Aw ?Ax ?Ay ?Az (λ_ _ _ _ _ _ us hl=>match us,hl with | [_,_,_],_=>rfl)) (Tw.Mr KX G ?B0 ?B1 ?B2 ?B3 (λ_ _ _ _ _ _ us hl=>match us,hl with | [_,_,_],_=>rfl)) (Tw.Mr KX G ?B4 ?B5 ?B6 ?B7 (λ_ _ _ _ _ _ us hl=>match us,hl with | [_,_],_=>rfl)) (Tw.Mr KX G ?B8 ?B9 ?Ba ?Bb (λ_ _ _ _ _ _ us hl=>match us,hl with | [_],_=>rfl)) (Tw.Mr KX G ?Bc ?Bd ?Be ?Bf (λ_ _ _ _ _ _ us hl=>match us,hl with | [_,_,_],_=>rfl)) (Tw.Mr KX G ?Bg ?Bh ?Bi ?Bj (λ_ _ _ _ _ _ us hl=>match us,hl with | [_,_,_],_=>rfl)) (Tw.Mr KX G ?Bk ?Bl ?Bm ?Bn (λ_ _ _ _ _ _ us hl=>match us,hl with | [_,_,_],_=>rfl)) (Tw.Mr KX G ?Bo ?Bp ?Bq ?Br (λ_ _ _ _ _ _ us hl=>match us,hl with | [_,_],_=>rfl)) (Tw.Mr KX G ?Bs ?Bt ?Bu ?Bv (λ_ _ _ _ _ _ us hl=>match us,hl with | [_,_,_],_=>rfl)) (Tw.Mr KX G ?Bw ?Bx ?By ?Bz (λ_ _ _ _ _ _ us hl=>match us,hl with | [_,_,_],_=>rfl)) (Tw.Mr KX G ?C0 ?C1 ?C2 ?C3 (λ_ _ _ _ _ _ us hl=>match us,hl with | [_,_,_],_=>rfl)) (Tw.Mr KX G ?C4 ?C5 ?C6 ?C7 (λ_ _ _ _ _ _ us hl=>match us,hl with | [_,_,_,_],_=>rfl)) (Tw.Mr KX G ?C8 ?C9 ?Ca ?Cb (λ_ _ _ _ _ _ us hl=>match us,hl with | [_,_],_=>rfl)) (Tw.Mr KX G ?Cc ?Cd ?Ce ?Cf (λ_ _ _ _ _ _ us hl=>match us,hl with | [_],_=>rfl)) (Tw.Mr KX G ?Cg ?Ch ?Ci ?Cj (λ_ _ _ _ _ _ us hl=>match us,hl with | [_,_],_=>rfl)) (Tw.Mr KX G ?Ck ?Cl ?Cm ?Cn (λ_ _ _ _ _ _ us hl=>match us,hl with | [_,_],_=>rfl)) (Tw.Mr KX G ?Co ?Cp ?Cq ?Cr (λ_ _ _ _ _ _ us hl=>match us,hl with | [_,_],_=>rfl)) (Tw.Mr KX G ?Cs ?Ct ?Cu ?Cv (λ_ _ _ _ _ _ us hl=>match us,hl with | [_],_=>rfl)) (Tw.Mr KX G ?Cw ?Cx ?Cy ?Cz (λ_ _ _ _ _ _ us hl=>match us,hl with | [_,_],_=>rfl)) (Tw.Mr KX G ?D0 ?D1 ?D2 ?D3 (λ_ _ _ _ _ _ us hl=>match us,hl with | [_],_=>rfl)) (Tw.Mr KX G ?D4 ?D5 ?D6 ?D7 (λ_ _ _ _ _ _ us hl=>match us,hl with | [_],_=>rfl)) (Tw.Mr KX G ?D8 ?D9 ?Da ?Db (λ_ _ _ _ _ _ us hl=>match us,hl with | [_,_],_=>rfl)) (Tw.Mr KX G ?Dc ?Dd ?De ?Df (λ_ _ _ _ _ _ us hl=>match us,hl with | [_,_,_,_],_=>rfl)) (Tw.Mr KX G ?Dg ?Dh ?Di ?Dj (λ_ _ _ _ _ _ us hl=>match us,hl with | [_,_,_],_=>rfl)) (Tw.Mr KX G ?Dk ?Dl ?Dm ?Dn (λ_ _ _ _ _ _ us hl=>match us,hl with | [_,_,_],_=>rfl)) (Tw.Mr KX G ?Do ?Dp ?Dq ?Dr (λ_ _ _ _ _ _ us hl=>match us,hl with | [_,_],_=>rfl)) (Tw.Mr KX G ?Ds ?Dt ?Du ?Dv (λ_ _ _ _ _ _ us hl=>match us,hl with | [_,_],_=>rfl)) (Tw.Mr KX G ?Dw ?Dx ?Dy ?Dz (λ_ _ _ _ _ _ us hl=>match us,hl with | [_],_=>rfl)) (Tw.Mr KX G ?E0 ?E1 ?E2 ?E3 (λ_ _ _ _ _ _ us hl=>match us,hl with | [_,_],_=>rfl)) (Tw.Mr KX G ?E4 ?E5 ?E6 ?E7 (λ_ _ _ _ _ _ us hl=>match us,hl with | [_,_],_=>rfl)) (Tw.Mr KX G ?E8 ?E9 ?Ea ?Eb (λ_ _ _ _ _ _ us hl=>match us,hl with | [_,_],_=>rfl)) (Tw.Mr KX G ?Ec ?Ed ?Ee ?Ef (λ_ _ _ _ _ _ us hl=>match us,hl with | [_],_=>rfl)) (Tw.Mr KX G ?Eg ?Eh ?Ei ?Ej (λ_ _ _ _ _ _ us hl=>match us,hl with | [_,_],_=>rfl)) ?Ek ?El ?Em ?En (Tw.Mr KX G ?Eo ?Ep ?Eq ?Er (λ_ _ _ _ _ _ us hl=>match us,hl with | [_,_],_=>rfl)) (Tw.Mr KX G ?Es ?Et ?Eu ?Ev (λ_ _ _ _ _ _ us hl=>match us,hl with | [_,_],_=>rfl)) (Tw.Mr KX G ?Ew ?Ex ?Ey ?Ez (λ_ _ _ _ _ _ us hl=>match us,hl with | [_,_,_,_],_=>rfl)) (Tw.Mr KX G ?F0 ?F1 ?F2 ?F3 (λ_ _ _ _ _ _ us hl=>match us,hl with | [_,_,_,_,_],_=>rfl)) (Tw.Mr KX G ?F4 ?F5 ?F6 ?F7 (λ_ _ _ _ _ _ us hl=>match us,hl with | [_,_,_,_,_],_=>rfl)) (Tw.Mr KX G ?F8 ?F9 ?Fa ?Fb (λ_ _ _ _ _ _ us hl=>match us,hl with | [_,_,_],_=>rfl)) ?Fc ?Fd ?Fe ?Ff ?z1 ?z2 ?z3 ?z4 ?z5 ?z6 ?z7 ?z8 ?z9 ?Fg ?Fh ?Fi ?Fj ?Fk ?Fl ?Fm ?Fn ?Fo ?Fp ?Fq ?Fr ?Fs ?Ft ?Fu ?Fv (Tw.NM ?Fw ?Fx ?Fy ?Fz ?G0 (λ_ _ _ _ _ _ us hl=>match us,hl with | [_],_=>rfl)) (Tw.NM ?G1 ?G2 ?G3 ?G4 ?G5 (λ_ _ _ _ _ _ us hl=>match us,hl with | [_,_,_],_=>rfl)) ?G6 ?G7 ?G8 (Tw.Nv ?G9 ?Ga ?Gb ?Gc ?Gd (λ_ _ _ _ _ _ us hl=>match us,hl with | [_,_],_=>rfl)) (Tw.Nv ?Ge ?Gf ?Gg ?Gh ?Gi (λ_ _ _ _ _ _ us hl=>match us,hl with | [_,_],_=>rfl)) (Tw.Nv ?Gj ?Gk ?Gl ?Gm ?Gn (λ_ _ _ _ _ _ us hl=>match us,hl with | [_,_,_],_=>rfl)) (Tw.Nv ?Go ?Gp ?Gq ?Gr ?Gs (λ_ _ _ _ _ _ us hl=>match us,hl with | [_,_],_=>rfl)) (Tw.Nv ?Gt ?Gu ?Gv ?Gw ?Gx (λ_ _ _ _ _ _ us hl=>match us,hl with | [_,_],_=>rfl)) (Tw.Nv ?Gy ?Gz ?H0 ?H1 ?H2 (λ_ _ _ _ _ _ us hl=>match us,hl with | [_,_],_=>rfl)) (Tw.Nv ?H3 ?H4 ?H5 ?H6 ?H7 (λ_ _ _ _ _ _ us hl=>match us,hl with | [_,_],_=>rfl)) (Tw.Nv ?H8 ?H9 ?Ha ?Hb ?Hc (λ_ _ _ _ _ _ us hl=>match us,hl with | [_,_],_=>rfl)) (Tw.Nv ?Hd ?He ?Hf ?Hg ?Hh (λ_ _ _ _ _ _ us hl=>match us,hl with | [_,_],_=>rfl)) (Tw.Nv ?Hi ?Hj ?Hk ?Hl ?Hm (λ_ _ _ _ _ _ us hl=>match us,hl with | [_,_],_=>rfl)) (Tw.Nv ?Hn ?Ho ?Hp ?Hq ?Hr (λ_ _ _ _ _ _ us hl=>match us,hl with | [_,_,_],_=>rfl)) (Tw.Nv ?Hs ?Ht ?Hu ?Hv ?Hw (λ_ _ _ _ _ _ us hl=>match us,hl with | [_],_=>rfl)) (Tw.Nv ?Hx ?Hy ?Hz ?I0 ?I1 (λ_ _ _ _ _ _ us hl=>match us,hl with | [_],_=>rfl)) (Tw.Nv ?I2 ?I3 ?I4 ?I5 ?I6 (λ_ _ _ _ _ _ us hl=>match us,hl with | [_],_=>rfl)) (Tw.Nv ?I7 ?I8 ?I9 ?Ia ?Ib (λ_ _ _ _ _ _ us hl=>match us,hl with | [_],_=>rfl)) (Tw.Nv ?Ic ?Id ?Ie ?If ?Ig (λ_ _ _ _ _ _ us hl=>match us,hl with | [_,_],_=>rfl)) (Tw.Nv ?Ih ?Ii ?Ij ?Ik ?Il (λ_ _ _ _ _ _ us hl=>match us,hl with | [_,_],_=>rfl)) ?Im ?In ?Io ?Ip ?Iq ?Ir ?Is ?It ?Iu ?Iv ?Iw ?Ix ?Iy ?Iz ?J0 ?J1 ?J2 ?J3 ?J4 ?J5 ?J6 ?J7 ?J8 ?J9 ?Ja ?Jb ?Jc ?Jd ?Je ?Jf
  (case Im|In|Io|Ip|Fw|G1|Iq|G9|Ge|Gj|Go|Gt|Gy|H3|H8|Hd|Hi|Hn|Hs|Hx|I2|I7|Ic|Ih=>k_is)
  (case Jc=>kernel_rfl)
  all_goals try k_is
  all_goals try k_is
